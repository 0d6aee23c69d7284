import PyProof.Rows.All
import Wide.FinOn
import KE.KNestM
import OpenK.KOwn
import KE.KItem
import KE.IntText
import KE.KTabLook
import KE.KFromBytes
import KE.KIntText
import KE.KTab
import KE.KIsAll
import KE.KLam
import KE.KRevIter
import KE.KDictOf
import KE.KxBytes
import OpenK.KRaise
import Lean
import PyProof.EqAt
import PyProof.EqKinds
import PyProof.TupleCall
import PyProof.StrBlockL
import PyProof.EnumMake
import PyProof.CollectIter
import PyProof.JoinWalk
import PyProof.StrOps
import PyProof.StrLawsIdx
import PyProof.StrLawsIn
import PyProof.ListRange
import PyProof.Rows.Range3
import PyProof.Rows.SumAny
import KE.LcSums
import OpenK.KCls
import PyProof.LongRange
import PyProof.StrOps2
import PyProof.FitsBits
import PyProof.NeKinds
import PyProof.ConsumeWalk
import PyProof.Rows.ZipGen
import PyProof.Draws
import PyProof.Rows.SeqMore
import PyProof.Rows.StrNews
import PyProof.StrLawsChain
import PyProof.Rows.SortRev
import PyProof.Rows.SortWalk
import PyProof.Rows.CallKwBuiltin
import PyProof.Rows.MinMaxN
import PyProof.Rows.SetFrom
import PyProof.CollectWalk
import PyProof.DictWalks
import Wide.Txt
import KE.KUnpack
import PySem.Challenge.RW_heddle_k64_whole_drafts_asked
set_option Elab.async false
set_option linter.all false
set_option maxRecDepth 100000
namespace Zy
open PySem PySem.Spec PyProof.Rows PySem.W
def zA:=@wpAny_bind
def zB:=@Heap.get?_push_of_some
def zC:=@List.getElem?_eq_some_iff
def zD:=@Heap.get?_push_size
def zE:=@wpAny_pure
def zF:=@List.mem_singleton
def zG:=@List.mem_append
def zH:=@Heap.get?_update_other
def zI:=@F.plainAttrs_str
def zJ:=@decide_eq_false
def zK:=@Array.length_toList
def zL:=@F.slot_list_append
def zM:=@F.plainAttrs_list
def zN:=@decide_eq_true
def zO:=@Array.getElem?_toList
def zP:=@Array.getElem?_eq_getElem
def zQ:=@F.type_list_append
def zR:=@Heap.get?_update_self
def zS:=@F.slot_str_join
def zT:=@wpAny_mono
def zU:=@Option.map_eq_some_iff
def zV:=@F.type_str_join
def zW:=@PySem.mem_of_lookup
def zX:=@Obj.data_mapFields
def zY:=@F.slot_str_split
def zZ:=@List.length_pos_iff
def z5:=@beq_eq_false_iff_ne
def z6:=@decide_eq_decide
def z7:=@F.type_str_split
def z8:=@List.mem_filter
def z9:=@List.length_eq_zero_iff
def yA:=@sizeLine_eq
def yB:=@wpAny_holding
def yC:=@wpAny_setField
def yD:=@wpAny_field
def yE:=@wpAny_truthy_bool
def yF:=@F.called_set
def yG:=@List.mem_map
def yH:=@List.mem_cons
def yI:=@List.mem_range
def yJ:=@wpAny_newObj_type
end Zy
open Zy
namespace Zz
def ApO:=@List.length_map
def ApP:=@List.getElem?_eq_getElem
def ApQ:=@List.length_append
def ApR:=@Nat.le_refl
def ApS:=@List.mem_cons_self
def ApT:=@List.map_cons
def ApU:=@List.length_cons
def ApV:=@List.map_append
def ApW:=@List.mem_cons_of_mem
def ApX:=@List.getElem?_map
def ApY:=@List.mem_of_getElem?
def ApZ:=@Nat.ne_of_lt
def Aqa:=@Nat.lt_of_lt_of_le
def Aqb:=@Nat.zero_le
def Aqc:=@Int.toNat_natCast
def Aqd:=@List.take_add_one
def Aqe:=@Bool.false_ne_true
def Aqf:=@List.length_take
def Aqg:=@List.flatten_cons
def Aqh:=@List.size_toArray
def Aqi:=@List.getElem?_append_right
def Aqj:=@List.getD_eq_getElem?_getD
def Aqk:=@List.take_length
def Aql:=@List.length_range
def Aqm:=@List.sum_cons
def Aqn:=@Nat.le_trans
def Aqo:=@List.getElem?_append_left
def Aqp:=@List.mem_append_right
def Aqq:=@List.getElem_mem
def Aqr:=@List.length_nil
def Aqs:=@yH
def Aqt:=@List.not_mem_nil
def Aqu:=@Nat.lt_irrefl
def Aqv:=@List.append_nil
def Aqw:=@List.getElem?_eq_none
def Aqx:=@List.length_drop
def Aqy:=@List.lookup_cons
def Aqz:=@List.append_assoc
def Aq0:=@List.length_singleton
def Aq1:=@List.take_of_length_le
def Aq2:=@Nat.ne_of_gt
def Aq3:=@List.range_succ
def Aq4:=@List.take_succ_cons
def Aq5:=@Nat.sub_self
def Aq6:=@List.replicate_succ
def Aq7:=@Bool.and_eq_true
def Aq8:=@Nat.lt_succ_self
def Aq9:=@List.getElem_of_mem
def AqA:=@List.getLast?_append
def AqB:=@List.length_filter_le
def AqC:=@Int.zero_add
def AqD:=@List.map_nil
def AqE:=@List.ext_getElem?
def AqF:=@List.length_reverse
def AqG:=@List.flatten_append
def AqH:=@Nat.le_of_eq
def AqI:=@Nat.le_succ
def AqJ:=@List.getElem?_range
def AqK:=@List.take_append_drop
def AqL:=@List.cons_append
def AqM:=@List.mem_append_left
def AqN:=@Bool.eq_iff_iff
def AqO:=@List.length_replicate
def AqP:=@List.getElem?_drop
def AqQ:=@List.drop_eq_getElem_cons
def AqR:=@List.filter_append
def AqS:=@List.filter_cons_of_pos
def AqT:=@Nat.le_of_lt
def AqU:=@List.forIn_cons
def AqV:=@Nat.lt_succ_of_lt
def AqW:=@List.map_map
def AqX:=@List.count_append
def AqY:=@List.filter_cons
def AqZ:=@List.takeWhile_cons
def Ara:=@List.drop_drop
def Arb:=@List.any_cons
def Arc:=@Nat.mul_le_mul
def Ard:=@List.map_congr_left
def Are:=@List.all_eq_true
def Arf:=@zG
def Arh:=@Nat.min_eq_left
def Ari:=@List.sum_append
def Arj:=@List.filter_cons_of_neg
def Ark:=@List.replicate_succ'
def Arl:=@Nat.min_le_left
def Arm:=@List.getLast?_cons
def Arn:=@List.filterMap_cons
def Aro:=@List.foldl_cons
def Arp:=@List.getElem?_cons_succ
def Arq:=@List.drop_zero
def Ars:=@List.find?_cons
def Art:=@List.drop_eq_nil_of_le
def Aru:=@List.getElem?_take
def Arv:=@Bool.true_and
def Arw:=@List.drop_left
def Arx:=@List.dropWhile_suffix
def Ary:=@List.getElem?_take_of_lt
def Arz:=@List.take_sublist
def Ar0:=@Nat.lt_of_le_of_lt
def Ar1:=@List.eq_nil_of_length_eq_zero
def Ar2:=@List.count_cons_self
def Ar3:=@List.reverse_reverse
def Ar4:=@zF
def Ar5:=@List.takeWhile_append_dropWhile
def Ar6:=@List.flatten_nil
def Ar7:=@Option.toList_some
def Ar8:=@Int.emod_lt_of_pos
def Ar9:=@Int.natCast_nonneg
def ArA:=@List.eraseIdx_eq_take_drop_succ
def ArB:=@List.take_append_of_le_length
end Zz
open Zz
namespace L2
open PySem PySem.Spec PyProof.Rows
abbrev Key:=Sum Int Str
def AjG:Key->Value->Bool
 | .inl k,v=>Value.isInt k v
 | .inr x,v=>Value.isStrOf x v
def AnI (w:World):Key->Int
 | .inl k=>hashInt k
 | .inr x=>hashStr w x
theorem Dj:∀{k:Key} {v:Value},AjG k v=true->(∃ i t,k=Sum.inl i/\v=Value.int i t)\/(∃ x t,k=Sum.inr x/\v=Value.str x t)
 | .inl i,v,h=>by
  obtain⟨t,e⟩:=Value.isInt_shape (k:=i) (v:=v) h
  exact .inl ⟨i,t,rfl,e⟩
 | .inr x,v,h=>by
  obtain⟨t,e⟩:=Value.isStrOf_shape (x:=x) (v:=v) h
  exact .inr ⟨x,t,rfl,e⟩
theorem Aks(a b:Int):decide ((Sum.inl a:Key)=Sum.inl b)=(a == b):=by
 by_cases e:a=b
 ·subst e;simp
 ·have h:¬(Sum.inl a:Key)=Sum.inl b:=λq=>e (Sum.inl.inj q)
  rw[zJ h]
  exact(z5.mpr e).symm
theorem Akt(a b:Str):decide ((Sum.inr a:Key)=Sum.inr b)=decide (a=b):=by
 by_cases e:a=b
 ·subst e;simp
 ·have h:¬(Sum.inr a:Key)=Sum.inr b:=λq=>e (Sum.inr.inj q)
  rw[zJ h,zJ e]
theorem Aku(a:Int)(b:Str):decide ((Sum.inl a:Key)=Sum.inr b)=false:=zJ (λq=>nomatch q)
theorem Akv(a:Str)(b:Int):decide ((Sum.inr a:Key)=Sum.inl b)=false:=zJ (λq=>nomatch q)
def Aa2 (prog:Program)(w:World):PySem.KeyKind prog w Key where
 is:=AjG
 hash:=AnI w
 inj:=λv a b ha hb=>by
  rcases Dj ha with ⟨i,t,rfl,rfl⟩ | ⟨x,t,rfl,rfl⟩
  ·rcases Dj hb with ⟨j,u,rfl,e⟩ | ⟨y,u,rfl,e⟩
   ·injection e with e1 _;rw[e1]
   ·exact nomatch e
  ·rcases Dj hb with ⟨j,u,rfl,e⟩ | ⟨y,u,rfl,e⟩
   ·exact nomatch e
   ·injection e with e1 _;rw[e1]
 byValue:=λk v h=>by
  rcases Dj h with ⟨i,t,rfl,rfl⟩ | ⟨x,t,rfl,rfl⟩ <;> rfl
 pyHash:=λhv h=>by
  rcases Dj hv with ⟨i,t,rfl,rfl⟩ | ⟨x,t,rfl,rfl⟩
  ·exact wpAny_pyHash_int h
  ·exact wpAny_pyHash_str h
 eqBool:=λhu hv h=>by
  rcases Dj hu with ⟨i,t,rfl,rfl⟩ | ⟨x,t,rfl,rfl⟩
  ·rcases Dj hv with ⟨j,u,rfl,rfl⟩ | ⟨y,u,rfl,rfl⟩
   ·rw[Aks] at h;exact wpAny_eqBool_int h
   ·rw[Aku] at h;exact SeqAt.EqAt.int_str i t y u _ _ _ _ h
  ·rcases Dj hv with ⟨j,u,rfl,rfl⟩ | ⟨y,u,rfl,rfl⟩
   ·rw[Akv] at h;exact SeqAt.EqAt.str_int x t j u _ _ _ _ h
   ·rw[Akt] at h;exact wpAny_eqBool_str h
 «strs»:=λk x t v h=>by
  rcases Dj h with ⟨i,u,rfl,e⟩ | ⟨y,u,rfl,e⟩
  ·exact nomatch e
  ·injection e with e1 _
   subst e1
   cases v <;> rfl
inductive V where
 | non | bl (b:Bool) | int (i:Int) | str (x:Str) | byt (b:Array UInt8) | flt (b:UInt64) | ref (a:Addr) | ty (n:String)
 deriving DecidableEq
def RelV:V->Value->Prop
 | .non,u=>u=Value.none
 | .bl b,u=>u=Value.bool b
 | .int i,u=>∃ t,u=Value.int i t
 | .str x,u=>∃ t,u=Value.str x t
 | .byt b,u=>∃ t,u=Value.bytes b t
 | .flt b,u=>∃ t,u=Value.float b t
 | .ref a,u=>u=Value.ref a
 | .ty n,u=>u=Value.type n
abbrev Vals:List V->List Value->Prop:=Paired RelV
theorem Vals.length{xs:List V}{us:List Value}(r:Vals xs us):xs.length=us.length:=Paired.length r
theorem Vals.get:∀{xs:List V} {us:List Value} {i:Nat} {x:V},Vals xs us->xs[i]?=some x->∃ u,us[i]?=some u/\RelV x u
 | _,_,_,_,.nil,e=>by simp at e
 | _,_,0,_,.cons r _,e=>by simp at e;subst e;exact⟨_,rfl,r⟩
 | _,_,i+1,x,.cons _ t,e=>by
  obtain⟨u,h1,h2⟩:=Vals.get (i:=i) (x:=x) t (by simpa using e)
  exact⟨u,by simpa using h1,h2⟩
theorem Vals.set{x:V}{u:Value}(r:RelV x u):∀{xs:List V} {us:List Value} (i:Nat),Vals xs us->Vals (xs.set i x) (us.set i u)
 | _,_,_,.nil=>.nil
 | _,_,0,.cons _ t=>.cons r t
 | _,_,i+1,.cons q t=>.cons q (Vals.set r i t)
theorem Vals.append:∀{xs ys:List V} {us ws:List Value},Vals xs us->Vals ys ws->Vals (xs++ys) (us++ws)
 | _,_,_,_,.nil,s=>s
 | _,_,_,_,.cons r t,s=>.cons r (Vals.append t s)
theorem Vals.take:∀{xs:List V} {us:List Value} (n:Nat),Vals xs us->Vals (xs.take n) (us.take n)
 | _,_,0,_=>.nil
 | _,_,_+1,.nil=>.nil
 | _,_,n+1,.cons r t=>.cons r (Vals.take n t)
theorem Vals.drop:∀{xs:List V} {us:List Value} (n:Nat),Vals xs us->Vals (xs.drop n) (us.drop n)
 | _,_,0,r=>r
 | _,_,_+1,.nil=>.nil
 | _,_,n+1,.cons _ t=>Vals.drop n t
def YZ:Option V->Option Value->Prop
 | some v,some u=>RelV v u
 | none,none=>True
 | _,_=>False
def KV {κ:Type}:List (κ × V)->List (κ × Value)->Prop:=Paired λ(p:κ × V) (q:κ × Value)=>p.1=q.1/\RelV p.2 q.2
def kV:Key->V
 | .inl i=>.int i
 | .inr x=>.str x
inductive HO where
 | lst (xs:List V)
 | tup (xs:List V)
 | dK (kvs:List (Key × V)) | dT (kvs:List (List Key × V))
 | set (S:Int->Bool) (n:Nat)
 | ins (C dx:Addr) (fs:List (Str × V))
 | own (x:Addr)
 | xd (fs:List (Str × V))
 | met (f x:Addr)
 | rng (lo hi:Int)
 | frz (o:Obj) (u:HO)
 | tbl (ps:Array Value)
 | ext (φ:Heap->Prop)
abbrev Hp:=Addr->Option HO
def upd (H:Hp)(a:Addr)(o:HO):Hp:=λb=>if b=a then some o else H b
theorem Ae{H:Hp}{a:Addr}{o:HO}:upd H a o a=some o:=by unfold upd;rw[if_pos rfl]
theorem Ah{H:Hp}{a b:Addr}{o:HO}(h:b≠a):upd H a o b=H b:=by unfold upd;rw[if_neg h]
theorem JW{H:Hp}{a:Addr}{o u:HO}:upd (upd H a o) a u=upd H a u:=by
 funext b;unfold upd;split <;> rfl
theorem Ak{H:Hp}{a b:Addr}{o:HO}(h:H a=some o)(h':H b=none):a≠b:=by
 intro e;subst e;rw[h] at h';cases h'
section
variable (P:Program) (w:World)
def Es (H:Hp)(h:Heap)(a:Addr):HO->Prop
 | .lst xs=>xs.length<=sizeLine/\∃(its:List Value) (n:Nat),Vals xs its/\h.get? a=some { cls:=.type "list", data:=.seq its.toArray n }
 | .tup xs=>xs.length<=sizeLine/\∃ its:List Value,Vals xs its/\IsTup h a its.toArray
 | .dK kvs=>kvs.length<=sizeLine/\(a == sysModules)=false/\∃ vs,KV kvs vs/\h.DictOf (Aa2 P w) a vs
 | .dT kvs=>kvs.length<=sizeLine/\(a == sysModules)=false/\∃ xs:List (List Key × Addr × Value),
   Paired (λ(p:List Key × V) (q:List Key × Addr × Value)=>p.1=q.1/\H q.2.1=some (.tup (p.1.map kV))/\RelV p.2 q.2.2) kvs xs /\
   ∃ o es ep,h.get? a=some o/\o.ExactDict/\o.data=.dict es ep/\es.toList=xs.map (entryOfKey (tupleKind (Aa2 P w)))/\(xs.map (·.1)).Nodup
 | .set S n=>h.SetOf (intKind P w) a S n
 | .ins C dx fs=>H dx=some (.own a)/\fs.length<=1000/\dx≠a/\h.get? a=some (W.instObj C dx) /\
   ∃ mA,h.Ns1 dx mA/\(∀ f,YZ (fs.lookup f) (mA f))/\PySem.Within mA (fs.map (·.1))
 | .own _=>∃ o,h.get? a=some o
 | .xd fs=>∃ mA,h.Ns1 a mA/\∀ f,YZ (fs.lookup f) (mA f)
 | .rng lo hi=>∃ t u v,h.get? a=some { cls:=.type "range", data:=.fields #[.int lo t,.int hi u,.int 1 v] }
 | .frz o u=>h.get? a=some o/\Es H h a u
 | .tbl ps=>h.get? a=some { cls:=.none,data:=.fields ps }
 | .met f x=>h.get? a=some (W.methodObj (.ref f) (.ref x))
 | .ext φ=>φ h/\(∃ o,h.get? a=some o)/\∀ h1 h2:Heap,φ h1->(∀ o,h1.get? a=some o->h2.get? a=some o)->φ h2
def HOk (H:Hp)(h:Heap):Prop:=∀ a o,H a=some o->Es P w H h a o
end
section
variable {P:Program}{w:World}{H H':Hp}{h h':Heap}{a:Addr}{o:HO}
theorem Es.lt(x:Es P w H h a o):a<h.objs.size:=by
 cases o with
 | lst xs=>obtain⟨_,_,_,_,e⟩:=x;exact Heap.lt_size e
 | tup xs=>obtain⟨_,_,_,p⟩:=x;exact p.lt
 | dK kvs=>obtain⟨_,_,_,_,o,_,_,e,_⟩:=x;exact Heap.lt_size e
 | dT kvs=>obtain⟨_,_,_,_,o,_,_,e,_⟩:=x;exact Heap.lt_size e
 | set S n=>obtain⟨o,_,_,_,e,_⟩:=x;exact Heap.lt_size e
 | ins C dx fs=>obtain⟨_,_,_,e,_⟩:=x;exact Heap.lt_size e
 | own y=>obtain⟨_,e⟩:=x;exact Heap.lt_size e
 | xd fs=>obtain⟨_,⟨_,_,_,e,_⟩,_⟩:=x;exact Heap.lt_size e
 | rng lo hi=>obtain⟨_,_,_,e⟩:=x;exact Heap.lt_size e
 | frz ob u=>obtain⟨e,_⟩:=x;exact Heap.lt_size e
 | tbl ps=>exact Heap.lt_size (show h.get? a=some _ from x)
 | met f y=>exact Heap.lt_size (show h.get? a=some _ from x)
 | ext φ=>obtain⟨_,⟨_,e⟩,_⟩:=x;exact Heap.lt_size e
theorem Paired.Amg{α β:Type}{F G:α->β->Prop}:∀{l₁:List α} {l₂:List β},Paired F l₁ l₂->(∀ a b,F a b->G a b)->Paired G l₁ l₂
 | _,_,.nil,_=>.nil
 | _,_,.cons r t,f=>.cons (f _ _ r) (Paired.Amg t f)
theorem Es.stay(x:Es P w H h a o)(k:∀ b u,(b=a\/H b=some (.own a))->h.get? b=some u->h'.get? b=some u)
  (ho:∀ b,H b=some (.own a)->H' b=some (.own a)) (ht:∀ b xs,H b=some (.tup xs)->H' b=some (.tup xs)):Es P w H' h' a o:=by
 induction o with
 | lst xs=>obtain⟨z,its,n,r,e⟩:=x;exact⟨z,its,n,r,k _ _ (.inl rfl) e⟩
 | tup xs=>obtain⟨z,its,r,ob,e,c⟩:=x;exact⟨z,its,r,ob,k _ _ (.inl rfl) e,c⟩
 | dK kvs=>obtain⟨z,y,vs,r,ob,es,ep,e,c⟩:=x;exact⟨z,y,vs,r,ob,es,ep,k _ _ (.inl rfl) e,c⟩
 | dT kvs =>
  obtain⟨z,y,xs,r,ob,es,ep,e,c⟩:=x
  exact⟨z,y,xs,Paired.Amg r λp q z=>⟨z.1,ht _ _ z.2.1,z.2.2⟩,ob,es,ep,k _ _ (.inl rfl) e,c⟩
 | set S n=>obtain⟨ob,es,ep,t,e,c⟩:=x;exact⟨ob,es,ep,t,k _ _ (.inl rfl) e,c⟩
 | ins C dx fs =>
  obtain⟨d,z,ne,e,mA,⟨od,es,ep,e2,c⟩,r⟩:=x
  exact⟨ho _ d,z,ne,k _ _ (.inl rfl) e,mA,⟨od,es,ep,k _ _ (.inr d) e2,c⟩,r⟩
 | own y=>obtain⟨ob,e⟩:=x;exact⟨ob,k _ _ (.inl rfl) e⟩
 | xd fs=>obtain⟨mA,⟨od,es,ep,e,c⟩,r⟩:=x;exact⟨mA,⟨od,es,ep,k _ _ (.inl rfl) e,c⟩,r⟩
 | rng lo hi=>obtain⟨t,u,v,e⟩:=x;exact⟨t,u,v,k _ _ (.inl rfl) e⟩
 | frz ob u ih=>obtain⟨e,q⟩:=x;exact⟨k _ _ (.inl rfl) e,ih q⟩
 | tbl ps =>
  have e:h.get? a=some { cls:=.none,data:=.fields ps }:=x
  show h'.get? a=some { cls:=.none,data:=.fields ps }
  exact k a _ (.inl rfl) e
 | met f y =>
  have e:h.get? a=some (W.methodObj (.ref f) (.ref y)):=x
  show h'.get? a=some (W.methodObj (.ref f) (.ref y))
  exact k a _ (.inl rfl) e
 | ext φ=>obtain⟨p,⟨o,e⟩,st⟩:=x;exact⟨st _ _ p λo q=>k _ _ (.inl rfl) q,⟨o,k _ _ (.inl rfl) e⟩,st⟩
theorem HOk.lt(x:HOk P w H h)(e:H a=some o):a<h.objs.size:=(x a o e).lt
theorem HOk.fresh(x:HOk P w H h)(e:h.objs.size<=a):H a=none:=by
 cases q:H a with
 | none=>rfl
 | some u=>exact absurd (Aqa (x.lt q) e) (Aqu _)
theorem HOk.kept(x:HOk P w H h)(k:∀ b u,h.get? b=some u->h'.get? b=some u):HOk P w H h':=λa o e =>
 (x a o e).stay (λb u _ q=>k b u q) (λ_ q=>q) λ_ _ q=>q
theorem HOk.laid(x:HOk P w H h)(k:∀ b u,h.get? b=some u->h'.get? b=some u)(hp:h.objs.size<=a)(new:Es P w (upd H a o) h' a o):HOk P w (upd H a o) h':=λb u e=>by
 have hn:=x.fresh hp
 by_cases hb:b=a
 ·subst hb;rw[Ae] at e;cases e;exact new
 ·rw[Ah hb] at e
  exact(x b u e).stay (λc v _ q=>k c v q) (λc q=>by rw[Ah (Ak q hn)];exact q) λc xs q=>by rw[Ah (Ak q hn)];exact q
end
def Rd (H:Hp)(a:Addr)(u:HO):Prop:=H a=some u\/∃ o,H a=some (.frz o u)
theorem Rd.ok{P:Program}{w:World}{H:Hp}{h:Heap}{a:Addr}{u:HO}(r:Rd H a u)(x:HOk P w H h):Es P w H h a u:=by
 rcases r with r | ⟨o,r⟩
 ·exact x a u r
 ·obtain⟨_,q⟩:=x a _ r
  exact q
def Mut:Option HO->Prop
 | some (.lst _)=>True
 | some (.dK _)=>True
 | some (.dT _)=>True
 | some (.set _ _)=>True
 | some (.ins _ _ _)=>True
 | some (.ext _)=>True
 | _=>False
section
variable {P:Program}{w:World}{H:Hp}{h h':Heap}{x e:Addr}{o':HO}
theorem HOk.write(ok:HOk P w H h)(mu:Mut (H x))(he:e=x\/H e=some (.own x))(k:∀ b u,b≠e->h.get? b=some u->h'.get? b=some u)(heo:∃ u,h'.get? e=some u)
  (new:Es P w (upd H x o') h' x o'):HOk P w (upd H x o') h':=λb u q=>by
 have Amh:∀ c y,H c=some (.own y)->c≠x:=λc y r z=>by subst z;rw[r] at mu;exact mu
 have AnJ:∀ c xs,H c=some (.tup xs)->c≠x:=λc xs r z=>by subst z;rw[r] at mu;exact mu
 by_cases hb:b=x
 ·subst hb;rw[Ae] at q;cases q;exact new
 ·rw[Ah hb] at q
  by_cases hbe:b=e
  ·have q':H b=some (.own x):=by
    rcases he with z | z
    ·exact absurd (hbe.trans z) hb
    ·rw[hbe];exact z
   rw[q] at q';cases q'
   obtain⟨v,hv⟩:=heo
   exact⟨v,by rw[hbe];exact hv⟩
  ·refine(ok b u q).stay (λc v hc r=>k c v ?_ r) (λc r=>by rw[Ah (Amh c b r)];exact r) λc xs r=>by rw[Ah (AnJ c xs r)];exact r
   rcases hc with rfl | hc
   ·exact hbe
   ·rintro rfl
    rcases he with z | z
    ·exact Amh c b hc z
    ·rw[hc] at z;cases z;exact hb rfl
end
structure Un (fs ex:List Addr) (H H':Hp) (h h':Heap):Prop where
 keep:∀ b o,h.get? b=some o->H b=none->b∉fs->b∉ex->h'.get? b=some o
 slot:∀ b o,h.get? b=some o->H b=none->b∈fs->b∉ex->∃ sl,h'.get? b=some { o with slots:=sl }
 free:∀ b o,h.get? b=some o->H b=none->b∉ex->H' b=none
 there:∀ b o,h.get? b=some o->b∉ex->∃ o',h'.get? b=some o'
 tups:∀ b xs,H b=some (.tup xs)->H' b=some (.tup xs)
 PX:∀ b o u,H b=some (.frz o u)->H' b=some (.frz o u)
 Tj:∀ b ps,H b=some (.tbl ps)->∃ more,H' b=some (.tbl (ps++more))
section
variable {fs fs' ex ex':List Addr}{H H1 H2:Hp}{h h1 h2 h':Heap}{a x e:Addr}{o:HO}
theorem Un.any(u:Un fs ex H H1 h h1){b:Addr}{ob:Obj}(q:h.get? b=some ob)(n:H b=none)(hx:b∉ex):∃ sl,h1.get? b=some { ob with slots:=sl }:=by
 by_cases hb:b∈fs
 ·exact u.slot b ob q n hb hx
 ·exact⟨ob.slots,u.keep b ob q n hb hx⟩
theorem Un.kept(k:∀ b u,h.get? b=some u->h'.get? b=some u):Un fs ex H H h h' :=
 ⟨λb ob q _ _ _=>k b ob q,λb ob q _ _ _=>⟨ob.slots,k b ob q⟩,λ_ _ _ n _=>n,λb ob q _=>⟨ob,k b ob q⟩,λ_ _ q=>q,λ_ _ _ q=>q,λ_ ps q=>⟨#[],by rw[q];simp⟩⟩
theorem Un.refl:Un fs ex H H h h:=Un.kept λ_ _ q=>q
theorem Un.laid(k:∀ b u,h.get? b=some u->h'.get? b=some u)(hp:h.objs.size<=a)(hn:H a=none):Un fs ex H (upd H a o) h h' where
 keep:=λb u q _ _ _=>k b u q
 slot:=λb u q _ _ _=>⟨u.slots,k b u q⟩
 free:=λb u q n _=>by rw[Ah (ApZ (Aqa (Heap.lt_size q) hp))];exact n
 there:=λb u q _=>⟨u,k b u q⟩
 tups:=λb xs q=>by rw[Ah (Ak q hn)];exact q
 PX:=λb u xs q=>by rw[Ah (Ak q hn)];exact q
 Tj:=λb ps q=>⟨#[],by rw[Ah (Ak q hn),q];simp⟩
theorem Un.write(mu:Mut (H x))(he:e=x\/H e=some (.own x))(k:∀ b u,b≠e->h.get? b=some u->h'.get? b=some u)(heo:∃ u,h'.get? e=some u):Un fs ex H (upd H x o) h h':=by
 have hx:∀ b,H b=none->b≠x:=λb n z=>by subst z;rw[n] at mu;exact mu
 have hb:∀ b,H b=none->b≠e:=λb n z=>by
  subst z
  rcases he with r | r
  ·exact hx b n r
  ·rw[n] at r;cases r
 have hm:∀ b u,H b=some u->¬Mut (some u)->b≠x:=λb u q nm z=>by subst z;rw[q] at mu;exact nm mu
 refine⟨λb u q n _ _=>k b u (hb b n) q,λb u q n _ _=>⟨u.slots,k b u (hb b n) q⟩,λb u q n _=>by rw[Ah (hx b n)];exact n,λb u q _=>?_,
  λb xs q=>by rw[Ah (hm b _ q λz=>z)];exact q,λb u xs q=>by rw[Ah (hm b _ q λz=>z)];exact q,λb ps q=>⟨#[],by rw[Ah (hm b _ q λz=>z),q];simp⟩⟩
 by_cases hbe:b=e
 ·subst hbe;exact heo
 ·exact⟨u,k b u hbe q⟩
end
def trk (h:Heap)(H:Hp):List Addr:=(List.range h.objs.size).filter λa=>(H a).isSome
def Aa3 (h:Heap)(H:Hp):Heap:=W.hideAll h (trk h H)
theorem AeP(h:Heap)(H:Hp):(Aa3 h H).objs.size=h.objs.size:=W.hideAll_size _ _
theorem Agg{h:Heap}{H:Hp}{b:Addr}{o:Obj}(e:h.get? b=some o)(n:H b=none):(Aa3 h H).get? b=some o :=
 W.hideAll_get _ e λhm=>by
  have q:(H b).isSome=true:=(z8.mp hm).2
  rw[n] at q;simp at q
theorem Air{h:Heap}{H:Hp}{b:Addr}{o:Obj}(e:(Aa3 h H).get? b=some o):h.get? b=some o/\H b=none:=by
 have e':h.get? b=some o:=W.of_hideAll (trk h H) e
 refine⟨e',?_⟩
 cases q:H b with
 | none=>rfl
 | some x =>
  have hm:b∈trk h H:=z8.mpr ⟨yI.mpr (Heap.lt_size e'),by simp[q]⟩
  have z:(Aa3 h H).get? b=none:=W.hideAll_none (trk h H) hm
  rw[z] at e;cases e
def Ais (g h:Heap)(L:Addr):List (Addr × Obj):=(List.range h.objs.size).filterMap λa=>if a=L\/(g.get? a).isSome=true then none else (h.get? a).map λo=>(a,o)
def rest(g h:Heap)(L d:Addr):List (Addr × Obj):=(Ais g h L).filter λp=>decide (p.1≠d)
structure Mod (K:W.Frag) (mg:Str->Option Value) (base:Heap):Prop where
 kin:K.In base
 glob:base.Ns mainGlobals mg
 blt:∃ mb,base.Ns builtinsNs mb/\∀ x:Str,x ≠ "__name__" -> mb x=bootBuiltins x
 nolimit:base.NoLimit
structure Cx where
 prog:Program
 w:World
 K:W.Frag
 mg:Str->Option Value
 base:Heap
 A:Around
 N:List Str
 s₀:Shared
 H₀:Hp
 env:Env
 outer:List Env
 stack:List Env
 ex:List Addr
 fn:Str->Bool
 calm:Bool
 pn:List (Addr × Obj)
 xe:Value->Shared->Prop
def frs (l:List Env):List Addr:=l.filterMap (·.frame)
abbrev Cx.fs (X:Cx):List Addr:=frs X.outer
def Vis (sc:Scope)(x:Str):Prop:=sc.names.lookup x=some .local\/sc.names.lookup x=some .cell\/sc.names.lookup x=some .free
def Loc (sc:Scope)(x:Str):Prop:=sc.names.lookup x=some .local\/sc.names.lookup x=some .cell
def Look(env:Env)(h:Heap)(m:Str->Option Value)(x:Str)(u:Value):Prop :=
 (env.kindOf x=some .local/\m x=some u)\/((env.kindOf x=some .cell\/env.kindOf x=some .free)/\∃ c,env.cells.lookup x=some c/\h.IsCell c (some u))
structure Cx.Ok (X:Cx):Prop where
 mod:Mod X.K X.mg X.base
 kind:X.env.scope.kind=.function
 glob:X.env.globals=mainGlobals
 blt:X.env.builtins=builtinsNs
 above:X.s₀.heap.objs.size<=X.env.locals
 inj:∀ x y c,X.env.cells.lookup x=some c->X.env.cells.lookup y=some c->x=y
 has:∀ x,(X.env.kindOf x=some .cell\/X.env.kindOf x=some .free)->∃ c,X.env.cells.lookup x=some c
 cab:∀ x c,X.fn x=true->X.env.cells.lookup x=some c->X.s₀.heap.objs.size<=c
 hd:X.calm=true->X.A.handled=none
 frames:X.A.frames=some X.stack
 stk:X.stack=X.outer\/(X.stack=X.env::X.outer/\X.env.frame=some X.env.locals)
 exf:∀ b∈X.ex,b≠X.env.locals/\∀ x c,X.env.cells.lookup x=some c->c≠b
 bs:∀ b o,X.base.get? b=some o->X.s₀.heap.get? b=some o/\X.H₀ b=none
 bsz:X.base.objs.size<=X.s₀.heap.objs.size
 Za:∀ b o,X.base.get? b=some o->b∉X.ex
 Zb:∀ b∈X.ex,b∉X.fs
 Qa:X.s₀.heap.FunFrames X.base X.outer
 frf:∀ b∈X.fs,X.H₀ b=none
structure Inv (X:Cx) (pins:List (Addr × Obj)) (σ:List (Option V)) (H:Hp) (s:Shared):Prop where
 ok:X.Ok
 os:s.os=X.s₀.os
 bare:AllBare s.gens
 base:Un X.fs X.ex X.H₀ H X.s₀.heap s.heap
 loc:∃ m,s.heap.Ns X.env.locals m/\∀(i:Nat) (x:Str) (v:V),X.N[i]?=some x->σ[i]?=some (some v)->Vis X.env.scope x->∃ u,RelV v u/\Look X.env s.heap m x u
 cell:∀ x c,X.env.cells.lookup x=some c->∃ v,s.heap.IsCell c v
 free:H X.env.locals=none
 GQ:∀ x c,X.env.cells.lookup x=some c->H c=none
 pin:∀ p∈X.pn++pins,s.heap.get? p.1=some p.2/\H p.1=none/\p.1≠X.env.locals/\p.1∉X.fs/\∀ v,p.2.data≠.cell v
 hok:HOk X.prog X.w H s.heap
 len:σ.length=X.N.length
section
variable {X:Cx}{pins:List (Addr × Obj)}{σ:List (Option V)}{H H':Hp}{s:Shared}{h':Heap}
theorem Cx.Ok.AnK(ok:X.Ok){b:Addr}{o:Obj}(e:X.base.get? b=some o):b∉X.fs:=λhb=>by
 have:=(ok.Qa.mem hb).1
 rw[e] at this;cases this
theorem Inv.bs(I:Inv X pins σ H s):∀ b o,X.base.get? b=some o->s.heap.get? b=some o/\H b=none:=λb o e =>
 ⟨I.base.keep b o (I.ok.bs b o e).1 (I.ok.bs b o e).2 (I.ok.AnK e) (I.ok.Za b o e),I.base.free b o (I.ok.bs b o e).1 (I.ok.bs b o e).2 (I.ok.Za b o e)⟩
theorem Inv.bk(I:Inv X pins σ H s):∀ b o,X.base.get? b=some o->s.heap.get? b=some o:=λb o e=>(I.bs b o e).1
theorem Inv.mod(I:Inv X pins σ H s):Mod X.K X.mg X.base:=I.ok.mod
theorem Inv.kIn(I:Inv X pins σ H s):X.K.In s.heap:=I.ok.mod.kin.keeps I.bk
theorem Inv.lt(I:Inv X pins σ H s):X.env.locals<s.heap.objs.size:=let ⟨_,hn,_⟩:=I.loc;hn.lt
theorem Inv.sz(I:Inv X pins σ H s):X.s₀.heap.objs.size<=s.heap.objs.size:=Aqn I.ok.above (AqT I.lt)
theorem Inv.AnL(I:Inv X pins σ H s){a:Addr}(h:s.heap.objs.size<=a):a∉X.fs:=λhb=>by
 obtain⟨_,o,ho,_⟩:=I.ok.Qa.mem hb
 exact absurd (Aqa (Heap.lt_size ho) (Aqn I.sz h)) (Aqu _)
theorem Inv.cne(I:Inv X pins σ H s):∀ x c,X.env.cells.lookup x=some c->c≠X.env.locals:=λx c e z=>by
 obtain⟨v,o,ho,hd⟩:=I.cell x c e
 obtain⟨m,⟨o',es,ep,ho',hd',_⟩,_⟩:=I.loc
 rw[z,ho'] at ho;cases ho;rw[hd'] at hd;cases hd
theorem Inv.Qa(I:Inv X pins σ H s):s.heap.FunFrames X.base X.outer:=by
 have all:∀(l:List Env),(∀ b∈frs l,b∈X.fs)->X.s₀.heap.FunFrames X.base l->s.heap.FunFrames X.base l:=by
  intro l
  induction l with
  | nil=>intro _ _;trivial
  | cons env r ih =>
   intro hs hl
   obtain⟨hk,⟨L,o,hf,hn,ho,hd⟩,hr⟩:=hl
   have hL:L∈X.fs:=hs L (by unfold frs;rw[Arn,hf];exact ApS)
   obtain⟨sl,e⟩:=I.base.slot L o ho (I.ok.frf L hL) hL λz=>I.ok.Zb L z hL
   exact⟨hk,⟨L,_,hf,hn,e,hd⟩,ih (λb hb=>hs b (by unfold frs;rw[Arn,hf];exact ApW _ hb)) hr⟩
 exact all X.outer (λ_ hb=>hb) I.ok.Qa
theorem Inv.stack(I:Inv X pins σ H s):s.heap.FunFrames X.base X.stack:=by
 rcases I.ok.stk with e | ⟨e,hf⟩
 ·rw[e];exact I.Qa
 ·rw[e]
  obtain⟨m,hn,_⟩:=I.loc
  refine .cons (by rw[I.ok.kind];decide) hf hn ?_ I.Qa
  exact Heap.get?_none_of_le (Aqn I.ok.bsz I.ok.above)
theorem Inv.W8(I:Inv X pins σ H s):∀ b∈frs X.stack,b∈X.env.locals::X.fs:=λb hb=>by
 rcases I.ok.stk with e | ⟨e,hf⟩
 ·rw[e] at hb;exact ApW _ hb
 ·rw[e] at hb
  unfold frs at hb
  rw[Arn,hf] at hb
  exact hb
theorem Inv.Wj(I:Inv X pins σ H s):∀ b∈frs X.stack,H b=none:=λb hb=>by
 rcases yH.mp (I.W8 b hb) with e | hb
 ·rw[e];exact I.free
 ·obtain⟨_,o,ho,_⟩:=I.ok.Qa.mem hb
  exact I.base.free b o ho (I.ok.frf b hb) λz=>I.ok.Zb b z hb
theorem Inv.step{g':Array GenState}{t':Nat}{d':Drawn}{ch:List Addr}(I:Inv X pins σ H s)
  (hch:∀ b∈ch,(b∈X.ex\/X.s₀.heap.objs.size<=b)/\b≠X.env.locals/\(∀ x c,X.env.cells.lookup x=some c->c≠b)/\∀ p∈X.pn++pins,p.1≠b)
  (keep:∀ b o,b≠X.env.locals->b∉X.fs->b∉ch->s.heap.get? b=some o->H b=none->h'.get? b=some o)
  (slot:∀ b o,b≠X.env.locals->b∈X.fs->b∉ch->s.heap.get? b=some o->H b=none->∃ sl,h'.get? b=some { o with slots:=sl }) (free:∀ b o,b∉ch->s.heap.get? b=some o->H b=none->H' b=none)
  (there:∀ b o,b∉ch->s.heap.get? b=some o->∃ o',h'.get? b=some o')
  (tups:∀ b xs,H b=some (.tup xs)->H' b=some (.tup xs)) (PX:∀ b o u,H b=some (.frz o u)->H' b=some (.frz o u)) (Tj:∀ b ps,H b=some (.tbl ps)->∃ more,H' b=some (.tbl (ps++more)))
  (ns:∀ m,s.heap.Ns X.env.locals m->h'.Ns X.env.locals m) (hok:HOk X.prog X.w H' h') (hg:AllBare g') :
  Inv X pins σ H' { s with heap:=h',gens:=g',drawn:=d',toks:=t' }:=by
 have neL:∀ b o,X.s₀.heap.get? b=some o->b≠X.env.locals:=λb o e=>ApZ (Aqa (Heap.lt_size e) I.ok.above)
 have neC:∀ b o,X.s₀.heap.get? b=some o->b∉X.ex->b∉ch:=λb o e hx hb=>by
  rcases(hch b hb).1 with z | z
  ·exact hx z
  ·exact absurd (Aqa (Heap.lt_size e) z) (Aqu _)
 have cellK:∀ x c,X.env.cells.lookup x=some c->∀ v,s.heap.IsCell c v->h'.IsCell c v:=λx c e v ⟨o,ho,hd⟩=>by
  have nch:c∉ch:=λz=>(hch c z).2.2.1 x c e rfl
  by_cases hc:c∈X.fs
  ·obtain⟨sl,q⟩:=slot c o (I.cne x c e) hc nch ho (I.GQ x c e)
   exact⟨_,q,hd⟩
  ·exact⟨o,keep c o (I.cne x c e) hc nch ho (I.GQ x c e),hd⟩
 refine⟨I.ok,I.os,hg,⟨λb o e n hb hx=>?_,λb o e n hb hx=>?_,λb o e n hx=>?_,λb o e hx=>?_,λb xs e=>tups b xs (I.base.tups b xs e),λb o xs e=>PX b o xs (I.base.PX b o xs e),λb ps e=>?_⟩,?_,λx c e=>?_,?_,λx c e=>?_,λp hp=>?_,hok,I.len⟩
 ·exact keep b o (neL b o e) hb (neC b o e hx) (I.base.keep b o e n hb hx) (I.base.free b o e n hx)
 ·obtain⟨sl,e1⟩:=I.base.slot b o e n hb hx
  obtain⟨sl',e2⟩:=slot b _ (neL b o e) hb (neC b o e hx) e1 (I.base.free b o e n hx)
  exact⟨sl',e2⟩
 ·obtain⟨o',e1⟩:=I.base.there b o e hx
  exact free b o' (neC b o e hx) e1 (I.base.free b o e n hx)
 ·obtain⟨o',e1⟩:=I.base.there b o e hx
  exact there b o' (neC b o e hx) e1
 ·obtain⟨m1,e1⟩:=I.base.Tj b ps e
  obtain⟨m2,e2⟩:=Tj b _ e1
  exact⟨m1++m2,by rw[e2,Array.append_assoc]⟩
 ·obtain⟨m,hn,hl⟩:=I.loc
  refine⟨m,ns m hn,λi x v e1 e2 e3=>?_⟩
  obtain⟨u,r,l⟩:=hl i x v e1 e2 e3
  refine⟨u,r,?_⟩
  rcases l with l | ⟨k,c,e,z⟩
  ·exact .inl l
  ·exact .inr ⟨k,c,e,cellK x c e _ z⟩
 ·obtain⟨v,z⟩:=I.cell x c e
  exact⟨v,cellK x c e v z⟩
 ·obtain⟨m,⟨o,_,_,ho,_⟩,_⟩:=I.loc
  exact free _ o (λz=>(hch _ z).2.1 rfl) ho I.free
 ·obtain⟨v,o,ho,hd⟩:=I.cell x c e
  exact free c o (λz=>(hch c z).2.2.1 x c e rfl) ho (I.GQ x c e)
 ·obtain⟨e,n,ne,nf,d⟩:=I.pin p hp
  have nch:p.1∉ch:=λz=>(hch p.1 z).2.2.2 p hp rfl
  exact⟨keep p.1 p.2 ne nf nch e n,free p.1 p.2 nch e n,ne,nf,d⟩
theorem Inv.un{t':Nat}(I:Inv X pins σ H s)(u:Un X.fs [] H H' s.heap h')(hok:HOk X.prog X.w H' h'):Inv X pins σ H' { s with heap:=h',toks:=t' }:=by
 obtain⟨m,⟨o,es,ep,ho,r⟩,_⟩:=id I.loc
 obtain⟨sl,hL⟩:=u.any ho I.free (by simp)
 exact I.step (g':=s.gens) (d':=s.drawn) (ch:=[]) (λ_ z=>nomatch z) (λb o _ hb _ e n=>u.keep b o e n hb (by simp)) (λb o _ hb _ e n=>u.slot b o e n hb (by simp)) (λb o _ e n=>u.free b o e n (by simp)) (λb o _ e=>u.there b o e (by simp)) u.tups u.PX u.Tj (λm' hm=>by
  obtain⟨o',es',ep',ho',r'⟩:=hm
  rw[ho] at ho';cases ho'
  exact⟨_,es',ep',hL,r'⟩) hok I.bare
theorem Inv.call{g':Array GenState}{t':Nat}{d':Drawn}{ch:List Addr}(I:Inv X pins σ H s)(u:Un (frs X.stack) ch H H' s.heap h')(hok:HOk X.prog X.w H' h')(hg:AllBare g')
  (hch:∀ b∈ch,(b∈X.ex\/X.s₀.heap.objs.size<=b)/\b≠X.env.locals/\(∀ x c,X.env.cells.lookup x=some c->c≠b)/\∀ p∈X.pn++pins,p.1≠b) :
  Inv X pins σ H' { s with heap:=h',gens:=g',drawn:=d',toks:=t' }:=by
 obtain⟨m,⟨o,es,ep,ho,r⟩,_⟩:=id I.loc
 obtain⟨sl,hL⟩:=u.any ho I.free λz=>(hch _ z).2.1 rfl
 exact I.step (ch:=ch) hch (λb o hL hb hc e n=>u.keep b o e n (λz=>(yH.mp (I.W8 b z)).elim hL hb) hc) (λb o _ _ hc e n=>u.any e n hc) (λb o hc e n=>u.free b o e n hc) (λb o hc e=>u.there b o e hc) u.tups u.PX u.Tj (λm' hm=>by
  obtain⟨o',es',ep',ho',r'⟩:=hm
  rw[ho] at ho';cases ho'
  exact⟨_,es',ep',hL,r'⟩) hok hg
theorem Inv.turned{t':Nat}{it:Addr}(I:Inv X pins σ H s)(k:∀ b o,b≠it->s.heap.get? b=some o->h'.get? b=some o)(hn:H it=none)(hL:it≠X.env.locals)
  (h1:it∈X.ex\/X.s₀.heap.objs.size<=it) (h2:∀ x c,X.env.cells.lookup x=some c->c≠it) (h3:∀ p∈X.pn++pins,p.1≠it):Inv X pins σ H { s with heap:=h',toks:=t' }:=by
 have nit:∀ b u,H b=some u->b≠it:=λb u e z=>by rw[z,hn] at e;cases e
 refine I.step (g':=s.gens) (d':=s.drawn) (ch:=[it]) (λb hb=>?_) (λb o _ _ hc e _=>k b o (λz=>hc (by simp[z])) e) (λb o _ _ hc e _=>⟨o.slots,k b o (λz=>hc (by simp[z])) e⟩) (λ_ _ _ _ n=>n)
  (λb o hc e=>⟨o,k b o (λz=>hc (by simp[z])) e⟩) (λ_ _ e=>e) (λ_ _ _ e=>e) (λb ps e=>⟨#[],by rw[e];simp⟩) (λm hm=>?_) (λb u e=>?_) I.bare
 ·have e:b=it:=by simpa using hb
  subst e
  exact⟨h1,hL,h2,h3⟩
 ·obtain⟨o,es,ep,ho,r⟩:=hm
  exact⟨o,es,ep,k _ o (Ne.symm hL) ho,r⟩
 ·refine(I.hok b u e).stay (λc v hc q=>k c v ?_ q) (λ_ q=>q) λ_ _ q=>q
  rcases hc with z | z
  ·rw[z];exact nit b u e
  ·exact nit c _ z
theorem Inv.tok(I:Inv X pins σ H s)(t:Nat):Inv X pins σ H { s with toks:=t }:=I.un (h':=s.heap) (t':=t) Un.refl I.hok
theorem Inv.kept{t':Nat}(I:Inv X pins σ H s)(k:∀ b u,s.heap.get? b=some u->h'.get? b=some u):Inv X pins σ H { s with heap:=h',toks:=t' }:=I.un (Un.kept k) (I.hok.kept k)
theorem Inv.laid{a:Addr}{o:HO}{t':Nat}(I:Inv X pins σ H s)(k:∀ b u,s.heap.get? b=some u->h'.get? b=some u)(hp:s.heap.objs.size<=a)(new:Es X.prog X.w (upd H a o) h' a o) :
  Inv X pins σ (upd H a o) { s with heap:=h',toks:=t' }:=I.un (Un.laid k hp (I.hok.fresh hp)) (I.hok.laid k hp new)
theorem Inv.write{x e:Addr}{o:HO}{t':Nat}(I:Inv X pins σ H s)(mu:Mut (H x))(he:e=x\/H e=some (.own x))(k:∀ b u,b≠e->s.heap.get? b=some u->h'.get? b=some u)(heo:∃ u,h'.get? e=some u)
  (new:Es X.prog X.w (upd H x o) h' x o):Inv X pins σ (upd H x o) { s with heap:=h',toks:=t' }:=I.un (Un.write mu he k heo) (I.hok.write mu he k heo new)
theorem Inv.Fj{AjH:List (Addr × Obj)}(I:Inv X pins σ H s)(h:∀ p∈AjH,s.heap.get? p.1=some p.2/\H p.1=none/\p.1≠X.env.locals/\p.1∉X.fs/\∀ v,p.2.data≠.cell v):Inv X AjH σ H s :=
 ⟨I.ok,I.os,I.bare,I.base,I.loc,I.cell,I.free,I.GQ,λp hp=>(zG.mp hp).elim (λz=>I.pin p (AqM _ z)) (h p),I.hok,I.len⟩
theorem Ab5{N:List Str}(hN:N.Nodup){i j:Nat}{x:Str}(a:N[i]?=some x)(b:N[j]?=some x):i=j:=by
 obtain⟨h1,e1⟩:=zC.mp a
 obtain⟨h2,e2⟩:=zC.mp b
 exact(List.getElem_inj hN).mp (e1.trans e2.symm)
theorem Tn{M:Model}{A:Around}{E:Value->Shared->Prop}{i:Nat}{x:Str}{v:V}{u:Value}{Q:Unit->Shared->Prop}(I:Inv X pins σ H s)(hN:X.N.Nodup)(hi:X.N[i]?=some x)(hx:Loc X.env.scope x)(r:RelV v u)
  (h:∀ s',Inv X pins (σ.set i (some v)) H s'->(∃ a,Heap.SameBut a s.heap s'.heap/\(a=X.env.locals\/X.env.cells.lookup x=some a))->Q () s') (hf:X.fn x=true\/X.env.scope.names.lookup x=some .local:=by first | exact .inl rfl | exact .inr rfl | assumption):wpAny M A (storeName X.env x u) Q E s:=by
 obtain⟨m,hn,hl⟩:=id I.loc
 have hcls:(X.env.scope.kind == .class || (X.env.scope.kind == .module && X.env.locals != X.env.globals))=false:=by rw[I.ok.kind];rfl
 have hiσ:i<σ.length:=by rw[I.len];exact(zC.mp hi).1
 have cne:=I.cne
 have tracked:∀{a:Addr} {h':Heap},(∃ o,s.heap.get? a=some o/\H a=none)->Heap.SameBut a s.heap h'->HOk X.prog X.w H h':=λ{a h'} ha hs b ob e=>by
  obtain⟨_,_,hfree⟩:=ha
  refine(I.hok b ob e).stay (λc w' hc q=>(hs.2 c ?_).trans q) (λ_ q=>q) λ_ _ q=>q
  rintro rfl
  rcases hc with rfl | hc
  ·rw[hfree] at e;cases e
  ·rw[hfree] at hc;cases hc
 rcases hx with hk | hk
 ·refine wpAny_storeName_local hk hn (λh' hn' hs=>?_) hcls
  obtain⟨oL,_,_,hoL,_⟩:=id hn
  refine h _ ⟨I.ok,I.os,I.bare,⟨λb o e n hb hx=>?_,λb o e n hb hx=>?_,I.base.free,λb o e hx=>?_,I.base.tups,I.base.PX,I.base.Tj⟩,⟨_,hn',λj y v' e1 e2 e3=>?_⟩,λy c e=>?_,I.free,I.GQ,λp hp=>?_,tracked ⟨oL,hoL,I.free⟩ hs,by simpa using I.len⟩ ⟨_,hs,.inl rfl⟩
  ·exact(hs.2 b (ApZ (Aqa (Heap.lt_size e) I.ok.above))).trans (I.base.keep b o e n hb hx)
  ·obtain⟨sl,e1⟩:=I.base.slot b o e n hb hx
   exact⟨sl,(hs.2 b (ApZ (Aqa (Heap.lt_size e) I.ok.above))).trans e1⟩
  ·obtain⟨o',e1⟩:=I.base.there b o e hx
   exact⟨o',(hs.2 b (ApZ (Aqa (Heap.lt_size e) I.ok.above))).trans e1⟩
  ·by_cases hj:j=i
   ·subst hj
    rw[hi] at e1;cases e1
    rw[List.getElem?_set_self hiσ] at e2
    cases e2
    exact⟨u,r,.inl ⟨hk,by simp⟩⟩
   ·rw[List.getElem?_set_ne (Ne.symm hj)] at e2
    obtain⟨u',r',q⟩:=hl j y v' e1 e2 e3
    refine⟨u',r',?_⟩
    rcases q with ⟨k,e⟩ | ⟨k,c,e,z⟩
    ·refine .inl ⟨k,?_⟩
     have:y≠x:=λe=>hj (Ab5 hN e1 (e▸hi))
     simp[this,e]
    ·exact .inr ⟨k,c,e,z.sameBut hs (cne y c e)⟩
  ·obtain⟨w',z⟩:=I.cell y c e
   exact⟨w',z.sameBut hs (cne y c e)⟩
  ·obtain⟨e,n,ne,nf,d⟩:=I.pin p hp
   exact⟨(hs.2 p.1 ne).trans e,n,ne,nf,d⟩
 ·have hfn:X.fn x=true:=by
   rcases hf with z | z
   ·exact z
   ·rw[z] at hk;cases hk
  obtain⟨c,hc⟩:=I.ok.has x (.inl hk)
  obtain⟨w',z⟩:=I.cell x c hc
  refine wpAny_storeName_cell I.ok.kind hk hc z (λh' hc' hs=>?_)
  obtain⟨oc,hoc,AnM⟩:=id z
  refine h { s with heap:=h' } ⟨I.ok,I.os,I.bare,⟨λb o e n hb hx=>?_,λb o e n hb hx=>?_,I.base.free,λb o e hx=>?_,I.base.tups,I.base.PX,I.base.Tj⟩,⟨m,hn.sameBut hs (Ne.symm (cne x c hc)),λj y v' e1 e2 e3=>?_⟩,λy c' e=>?_,I.free,I.GQ,λp hp=>?_,tracked ⟨oc,hoc,I.GQ x c hc⟩ hs,by simpa using I.len⟩ ⟨c,hs,.inr hc⟩
  ·exact(hs.2 b (ApZ (Aqa (Heap.lt_size e) (I.ok.cab x c hfn hc)))).trans (I.base.keep b o e n hb hx)
  ·obtain⟨sl,e1⟩:=I.base.slot b o e n hb hx
   exact⟨sl,(hs.2 b (ApZ (Aqa (Heap.lt_size e) (I.ok.cab x c hfn hc)))).trans e1⟩
  ·obtain⟨o',e1⟩:=I.base.there b o e hx
   exact⟨o',(hs.2 b (ApZ (Aqa (Heap.lt_size e) (I.ok.cab x c hfn hc)))).trans e1⟩
  ·by_cases hj:j=i
   ·subst hj
    rw[hi] at e1;cases e1
    rw[List.getElem?_set_self hiσ] at e2
    cases e2
    exact⟨u,r,.inr ⟨.inl hk,c,hc,hc'⟩⟩
   ·rw[List.getElem?_set_ne (Ne.symm hj)] at e2
    obtain⟨u',r',q⟩:=hl j y v' e1 e2 e3
    refine⟨u',r',?_⟩
    rcases q with q | ⟨k,c',e,z'⟩
    ·exact .inl q
    ·refine .inr ⟨k,c',e,z'.sameBut hs ?_⟩
     rintro rfl
     exact hj (Ab5 hN e1 (I.ok.inj _ _ _ e hc▸hi))
  ·by_cases hcc:c'=c
   ·subst hcc;exact⟨_,hc'⟩
   ·obtain⟨w2,z2⟩:=I.cell y c' e
    exact⟨w2,z2.sameBut hs hcc⟩
  ·obtain⟨e,n,ne,nf,d⟩:=I.pin p hp
   refine⟨(hs.2 p.1 ?_).trans e,n,ne,nf,d⟩
   intro q
   rw[q,hoc] at e
   have q':oc=p.2:=Option.some.inj e
   exact d w' (by rw[<- q'];exact AnM)
theorem W9{M:Model}{A:Around}{E:Value->Shared->Prop}{i:Nat}{x:Str}{v:V}{u:Value}{Q:Unit->Shared->Prop}(I:Inv X pins σ H s)(hN:X.N.Nodup)(hi:X.N[i]?=some x)(hx:Loc X.env.scope x)(r:RelV v u)
  (h:∀ s',Inv X pins (σ.set i (some v)) H s'->Q () s') (hf:X.fn x=true\/X.env.scope.names.lookup x=some .local:=by first | exact .inl rfl | exact .inr rfl | assumption):wpAny M A (storeName X.env x u) Q E s :=
 Tn I hN hi hx r (λs' I' _=>h s' I') hf
theorem Inv.call'{s':Shared}{ch:List Addr}(I:Inv X pins σ H s)(ho:s'.os=s.os)(u:Un (frs X.stack) ch H H' s.heap s'.heap)(hok:HOk X.prog X.w H' s'.heap)(hg:AllBare s'.gens)
  (hch:∀ b∈ch,(b∈X.ex\/X.s₀.heap.objs.size<=b)/\b≠X.env.locals/\(∀ x c,X.env.cells.lookup x=some c->c≠b)/\∀ p∈X.pn++pins,p.1≠b):Inv X pins σ H' s':=by
 obtain⟨h',g',d',t',o'⟩:=s'
 have e:o'=s.os:=ho
 subst e
 exact I.call (g':=g') (t':=t') (d':=d') u hok hg hch
end
abbrev XK:=Value->Option Addr->Hp->Prop
abbrev St:=List (Option V)
abbrev VK:=V->Hp->Prop
abbrev TE:=St->Hp->VK->Prop
abbrev TT:=St->Hp->(Bool->Hp->Prop)->Prop
abbrev TA:=St->Hp->(List V->Hp->Prop)->Prop
structure Ends where
 nx:St->Hp->Prop
 rt:VK
 bk:St->Hp->Prop:=λ_ _=>False
 ct:St->Hp->Prop:=λ_ _=>False
abbrev TS:=Ends->St->Hp->Prop
def EP (X:Cx)(pins:List (Addr × Obj))(σ:St)(Q:VK)(u:Value)(s':Shared):Prop:=∃ v H',Inv X pins σ H' s'/\RelV v u/\Q v H'
def TP (X:Cx)(pins:List (Addr × Obj))(σ:St)(Q:Bool->Hp->Prop)(b:Bool)(s':Shared):Prop:=∃ H',Inv X pins σ H' s'/\Q b H'
def AP (X:Cx)(pins:List (Addr × Obj))(σ:St)(Q:List V->Hp->Prop)(us:List Value)(s':Shared):Prop:=∃ vs H',Inv X pins σ H' s'/\Vals vs us/\Q vs H'
def SP (X:Cx)(pins:List (Addr × Obj))(D:Ends)(f:Flow)(s':Shared):Prop :=
 match f with
 | .next=>∃ σ' H',Inv X pins σ' H' s'/\D.nx σ' H'
 | .brk=>∃ σ' H',Inv X pins σ' H' s'/\D.bk σ' H'
 | .cont=>∃ σ' H',Inv X pins σ' H' s'/\D.ct σ' H'
 | .ret u=>∃ v σ' H',Inv X pins σ' H' s'/\RelV v u/\D.rt v H'
def PE (X:Cx)(e:Expr)(t:TE):Prop :=
 ∀(pins:List (Addr × Obj)) (s:Shared) (σ:St) (H:Hp) (Q:VK),Inv X pins σ H s->t σ H Q->wpAny (model X.prog X.w) X.A (eval e X.env) (EP X pins σ Q) X.xe s
def PT (X:Cx)(e:Expr)(t:TT):Prop :=
 ∀(pins:List (Addr × Obj)) (s:Shared) (σ:St) (H:Hp) (Q:Bool->Hp->Prop),Inv X pins σ H s->t σ H Q->wpAny (model X.prog X.w) X.A (isTrue e X.env (eval e X.env)) (TP X pins σ Q) X.xe s
def PW (X:Cx)(e:Expr)(t:TT):Prop :=
 ∀(whole:Sem Value) (pins:List (Addr × Obj)) (s:Shared) (σ:St) (H:Hp) (Q:Bool->Hp->Prop),Inv X pins σ H s->t σ H Q->wpAny (model X.prog X.w) X.A (isTrue e X.env whole) (TP X pins σ Q) X.xe s
theorem PW.pt{X:Cx}{e:Expr}{t:TT}(h:PW X e t):PT X e t:=h _
def PA (X:Cx)(es:List Expr)(t:TA):Prop :=
 ∀(pos:Pos) (pins:List (Addr × Obj)) (s:Shared) (σ:St) (H:Hp) (Q:List V->Hp->Prop),Inv X pins σ H s->t σ H Q->wpAny (model X.prog X.w) X.A (spliced (backTo pos (starEach es X.env))) (AP X pins σ Q) X.xe s
def PS (X:Cx)(st:Stmt)(t:TS):Prop :=
 ∀(pins:List (Addr × Obj)) (s:Shared) (σ:St) (H:Hp) (D:Ends),Inv X pins σ H s->t D σ H->wpAny (model X.prog X.w) X.A (exec st X.env) (SP X pins D) X.xe s
def PSs (X:Cx)(st:List Stmt)(t:TS):Prop :=
 ∀(pins:List (Addr × Obj)) (s:Shared) (σ:St) (H:Hp) (D:Ends),Inv X pins σ H s->t D σ H->wpAny (model X.prog X.w) X.A (execs st X.env) (SP X pins D) X.xe s
theorem thn{α:Type}{t:Sem α}{Q Q':α->Shared->Prop}{M:Model}{A:Around}{E:Value->Shared->Prop}{s:Shared}(h:wpAny M A t Q E s)(hQ:∀ a s,Q a s->Q' a s):wpAny M A t Q' E s:=zT h hQ λ_ _ x=>x
section
variable {X:Cx}
def Ami (i:Nat):TE:=λσ H Q=>∃ v,σ[i]?=some (some v)/\Q v H
def tC (v:V):TE:=λ_ H Q=>Q v H
theorem Akw{i:Nat}{x:Str}{pos:Pos}(hN:X.N[i]?=some x)(hv:Vis X.env.scope x)(hd:(x == ("__debug__" : Str))=false:=by decide) (hcd:(x == ("__classdict__" : Str))=false:=by decide):PE X (.Name x pos) (Ami i):=by
 intro pins s σ H Q I h
 obtain⟨v,e,h⟩:=h
 obtain⟨m,hn,hl⟩:=I.loc
 obtain⟨u,r,l⟩:=hl i x v hN e hv
 have fin:EP X pins σ Q u s:=⟨v,H,I,r,h⟩
 rcases l with ⟨hk,hm⟩ | ⟨hk,c,hc,hcell⟩
 ·exact wpAny_Name (wpAny_loadName_local I.ok.kind hk hn hm fin) hd
 ·rcases hk with hk | hk
  ·exact wpAny_Name (wpAny_loadName_cell I.ok.kind hk hc hcell fin) hd
  ·exact wpAny_Name (wpAny_loadName_free I.ok.kind hk hc hcell fin hcd) hd
theorem Ag{i j pos}:PE X (.Constant (.int i) j pos) (tC (.int i)):=λ_ _ _ H _ I h=>wpAny_Constant_int ⟨.int i,H,I.tok _,⟨_,rfl⟩,h⟩
theorem Ew{b j pos}:PE X (.Constant (.bool b) j pos) (tC (.bl b)):=λ_ _ _ H _ I h=>Constant_bool ⟨.bl b,H,I,rfl,h⟩
theorem WD{j pos}:PE X (.Constant .none j pos) (tC .non):=λ_ _ _ H _ I h=>Constant_none ⟨.non,H,I,rfl,h⟩
theorem Am{x j pos}:PE X (.Constant (.str x) j pos) (tC (.str x)):=λ_ _ _ H _ I h=>Calls.Constant_str ⟨.str x,H,I.tok _,⟨_,rfl⟩,h⟩
def Gl (X:Cx)(x:Str):Prop:=X.env.kindOf x=some .globalImplicit
theorem Aa4{E:Value->Shared->Prop}{pins:List (Addr × Obj)}{s:Shared}{σ:St}{H:Hp}{x:Str}{u:Value}{pos:Pos}{Q:Value->Shared->Prop}(I:Inv X pins σ H s)(hg:Gl X x)(hm:X.mg x=some u)(h:Q u s)
  (hd:(x == ("__debug__" : Str))=false:=by decide):wpAny (model X.prog X.w) X.A (eval (.Name x pos) X.env) Q E s :=
 Calls.Name_function_global I.ok.kind hg (Calls.loadGlobal_global (by rw[I.ok.glob];exact I.mod.glob.keeps I.bk) hm h) hd
theorem Jc{E:Value->Shared->Prop}{pins:List (Addr × Obj)}{s:Shared}{σ:St}{H:Hp}{x:Str}{u:Value}{pos:Pos}{Q:Value->Shared->Prop}(I:Inv X pins σ H s)(hg:Gl X x)(hm:X.mg x=none)(hv:bootBuiltins x=some u)(h:Q u s)
  (hn:x ≠ "__name__" := by decide) (hd:(x == ("__debug__" : Str))=false:=by decide):wpAny (model X.prog X.w) X.A (eval (.Name x pos) X.env) Q E s:=by
 obtain⟨mb,h1,h2⟩:=I.mod.blt
 exact Calls.Name_function_global I.ok.kind hg (Calls.loadGlobal_builtin (by rw[I.ok.glob];exact I.mod.glob.keeps I.bk) hm (by rw[I.ok.blt];exact h1.keeps I.bk) ((h2 x hn).trans hv) h) hd
theorem Ck{x:Str}{v:V}{u:Value}{pos:Pos}(hg:Gl X x)(hm:X.mg x=some u)(r:RelV v u)(hd:(x == ("__debug__" : Str))=false:=by decide):PE X (.Name x pos) (tC v) :=
 λ_ _ _ H _ I h=>Aa4 I hg hm ⟨v,H,I,r,h⟩ hd
theorem Wl{x:Str}{v:V}{u:Value}{pos:Pos}(hg:Gl X x)(hm:X.mg x=none)(hv:bootBuiltins x=some u)(r:RelV v u)(hn:x ≠ "__name__" := by decide) (hd:(x == ("__debug__" : Str))=false:=by decide):PE X (.Name x pos) (tC v) :=
 λ_ _ _ H _ I h=>Jc I hg hm hv ⟨v,H,I,r,h⟩ hn hd
def t2I (ta tb:TE)(k:Int->Int->Hp->Prop):St->Hp->Prop:=λσ H=>ta σ H λx H1=>tb σ H1 λy H2=>∃ i j,x=.int i/\y=.int j/\k i j H2
def Apg (ta tb:TE):TE:=λσ H Q=>t2I ta tb (λi j H2=>Q (.int (i+j)) H2) σ H
def Aph (ta tb:TE):TE:=λσ H Q=>t2I ta tb (λi j H2=>Q (.int (i-j)) H2) σ H
def Api (ta tb:TE):TE:=λσ H Q=>t2I ta tb (λi j H2=>(-(2 ^ 64)<i/\i<2 ^ 64)/\Q (.int (i*j)) H2) σ H
variable {a b:Expr}{ta tb:TE}{pos:Pos}
def PC (X:Cx)(op:CmpOp)(a b:Expr)(t:TE):Prop :=
 ∀(pins:List (Addr × Obj)) (s:Shared) (σ:St) (H:Hp) (Q:VK),Inv X pins σ H s->t σ H Q ->
  wpAny (model X.prog X.w) X.A (eval a X.env) (λv s₁=>wpAny (model X.prog X.w) X.A (eval b X.env) (λu s₂=>wpAny (model X.prog X.w) X.A (compareOp op v u) (EP X pins σ Q) X.xe s₂) X.xe s₁) X.xe s
theorem Agh(b:Expr){op:CmpOp}(h:op≠.In)(h2:op≠.NotIn):behindInMarks op b=false:=by
 have e1:(op == CmpOp.In)=false:=by cases op <;> first | rfl | exact absurd rfl h
 have e2:(op == CmpOp.NotIn)=false:=by cases op <;> first | rfl | exact absurd rfl h2
 cases b <;> simp[behindInMarks,e1,e2]
def AeQ (p:Int->Int->Bool)(ta tb:TE):TE:=λσ H Q=>t2I ta tb (λi j H2=>Q (.bl (p i j)) H2) σ H
abbrev tLt:TE->TE->TE:=AeQ λi j=>decide (i<j)
abbrev tLe:TE->TE->TE:=AeQ λi j=>decide (i<=j)
abbrev tGt:TE->TE->TE:=AeQ λi j=>decide (j<i)
abbrev tGe:TE->TE->TE:=AeQ λi j=>decide (j<=i)
abbrev Apj:TE->TE->TE:=AeQ λi j=>decide (i=j)
abbrev Apk:TE->TE->TE:=AeQ λi j=>!decide (i=j)
def Apl (ta:TE):TE:=λσ H Q=>ta σ H λx H1=>Q (.bl (decide (x=.non))) H1
def AoJ (ta:TE):TE:=λσ H Q=>ta σ H λx H1=>Q (.bl (!decide (x=.non))) H1
def tB (t:TE):TT:=λσ H Q=>t σ H λx H1=>∃ c,x=.bl c/\Q c H1
theorem Akx{op:CmpOp}{t:TE}(h:PC X op a b t)(h1:behindInMarks op b=false:=by first | exact Agh _ (by decide) (by decide) | rfl):PT X (.Compare a [op] [b] pos) (tB t):=by
 intro pins s σ H Q I hw
 refine wpAny_isTrue_Compare1 (thn (h pins s σ H _ I hw) λv s1 h1=>thn h1 λu s2 h2=>thn h2 λc s3 ⟨x,H1,I1,r1,q1⟩=>?_) h1
 obtain⟨d,rfl,q⟩:=q1
 cases r1
 exact yE ⟨H1,I1,q⟩
theorem Cr{e:Expr}{t:TE}(h:PE X e t)(he:∀ whole,isTrue e X.env whole=(do let v <- whole;standAt e.pos;holding [v] (truthy v)):=by intro _;rfl):PT X e (tB t):=by
 intro pins s σ H Q I hw
 refine isTrue_plain (thn (h pins s σ H _ I hw) λv s1 ⟨x,H1,I1,r1,q1⟩=>?_) (he _)
 obtain⟨d,rfl,q⟩:=q1
 cases r1
 exact yE ⟨H1,I1,q⟩
variable {tA tB':TT}{rest:List Expr}
def AnN (t u:TT):TT:=λσ H Q=>t σ H λc H1=>if c=true then u σ H1 Q else Q false H1
def tOr (t u:TT):TT:=λσ H Q=>t σ H λc H1=>if c=true then Q true H1 else u σ H1 Q
def AnO (t:TT):TT:=λσ H Q=>t σ H λc H1=>Q (!c) H1
theorem pw_and1(ha:PT X a tA):PW X (.BoolOp .And [a] pos) tA:=by
 intro wh pins s σ H Q I h
 refine isTrue_and (thn (ha pins s σ H Q I h) λc s1 e=>?_)
 cases c with
 | true=>exact isTrue_and_nil e
 | false=>exact e
theorem pw_or1(ha:PT X a tA):PW X (.BoolOp .Or [a] pos) tA:=by
 intro wh pins s σ H Q I h
 refine isTrue_or (thn (ha pins s σ H Q I h) λc s1 e=>?_)
 cases c with
 | false=>exact isTrue_or_nil e
 | true=>exact e
theorem pw_and(ha:PT X a tA)(hb:PW X (.BoolOp .And (b::rest) pos) tB'):PW X (.BoolOp .And (a::b::rest) pos) (AnN tA tB'):=by
 intro wh pins s σ H Q I h
 refine isTrue_and (thn (ha pins s σ H _ I h) λc s1 ⟨H1,I1,q1⟩=>?_)
 cases c with
 | true=>exact hb wh pins s1 σ H1 Q I1 q1
 | false=>exact⟨H1,I1,q1⟩
theorem pw_or(ha:PT X a tA)(hb:PW X (.BoolOp .Or (b::rest) pos) tB'):PW X (.BoolOp .Or (a::b::rest) pos) (tOr tA tB'):=by
 intro wh pins s σ H Q I h
 refine isTrue_or (thn (ha pins s σ H _ I h) λc s1 ⟨H1,I1,q1⟩=>?_)
 cases c with
 | true=>exact⟨H1,I1,q1⟩
 | false=>exact hb wh pins s1 σ H1 Q I1 q1
theorem Dg(ha:PT X a tA):PT X (.UnaryOp .Not a pos) (AnO tA):=by
 intro pins s σ H Q I h
 exact isTrue_not (ha pins s σ H (λc H1=>Q (!c) H1) I h)
def Amj (ta tb:TE):TE:=λσ H Q=>ta σ H λx H1=>∃ c,x=.bl c/\if c=true then tb σ H1 Q else Q (.bl false) H1
def Apm (ta tb:TE):TE:=λσ H Q=>ta σ H λx H1=>∃ c,x=.bl c/\if c=true then Q (.bl true) H1 else tb σ H1 Q
def AoK (ta:TE):TE:=λσ H Q=>ta σ H λx H1=>∃ c,x=.bl c/\Q (.bl (!c)) H1
theorem Aky{op}{t:TE}(h:PE X a t):PE X (.BoolOp op [a] pos) t:=λpins s σ H Q I hw=>BoolOp_one (h pins s σ H Q I hw)
theorem Akz(ha:PE X a ta)(hb:PE X (.BoolOp .And (b::rest) pos) tb):PE X (.BoolOp .And (a::b::rest) pos) (Amj ta tb):=by
 intro pins s σ H Q I h
 refine BoolOp_and (thn (ha pins s σ H _ I h) λv s1 ⟨x,H1,I1,r1,q1⟩=>?_)
 obtain⟨c,rfl,q1⟩:=q1
 cases r1
 refine yE ?_
 cases c with
 | true=>exact hb pins s1 σ H1 Q I1 q1
 | false=>exact⟨.bl false,H1,I1,rfl,q1⟩
def tIf (t:TT)(ta tb:TE):TE:=λσ H Q=>t σ H λc H1=>if c=true then ta σ H1 Q else tb σ H1 Q
theorem Lw{c:Expr}(hc:PT X c tA)(ha:PE X a ta)(hb:PE X b tb):PE X (.IfExp c a b pos) (tIf tA ta tb):=by
 intro pins s σ H Q I h
 refine wpAny_IfExp (thn (hc pins s σ H _ I h) λd s1 ⟨H1,I1,q1⟩=>?_)
 cases d with
 | true=>exact ha pins s1 σ H1 Q I1 q1
 | false=>exact hb pins s1 σ H1 Q I1 q1
end
def SqL (K:W.Frag)(H:Hp)(a:Addr)(xs:List V):Prop :=
 Rd H a (.lst xs) \/
  ∃(o:Obj) (its:Array Value) (n:Nat),K.lookup a=some o/\o.cls=.type "list" /\ o.dict=none/\o.data=.seq its n/\its.size<=sizeLine/\Vals xs its.toList
def SqT (K:W.Frag)(H:Hp)(a:Addr)(xs:List V):Prop :=
 Rd H a (.tup xs) \/
  ∃(o:Obj) (its:Array Value) (n:Nat),K.lookup a=some o/\o.cls=.type "tuple" /\ o.data=.seq its n/\its.size<=sizeLine/\Vals xs its.toList
def AnP:Value->Option V
 | .none=>some .non
 | .bool b=>some (.bl b)
 | .int i _=>some (.int i)
 | .str x _=>some (.str x)
 | .bytes b _=>some (.byt b)
 | .float b _=>some (.flt b)
 | .ref a=>some (.ref a)
 | .type n=>some (.ty n)
 | _=>none
theorem RelV.abs{x:V}{u:Value}(r:RelV x u):AnP u=some x:=by
 cases x with
 | non=>cases r;rfl
 | bl _=>cases r;rfl
 | int _=>obtain⟨t,rfl⟩:=r;rfl
 | str _=>obtain⟨t,rfl⟩:=r;rfl
 | byt _=>obtain⟨t,rfl⟩:=r;rfl
 | flt _=>obtain⟨t,rfl⟩:=r;rfl
 | ref _=>cases r;rfl
 | ty _=>cases r;rfl
theorem RelV.inj{x y:V}{u:Value}(r:RelV x u)(q:RelV y u):x=y:=Option.some.inj (r.abs.symm.trans q.abs)
theorem Vals.inj:∀{xs ys:List V} {us:List Value},Vals xs us->Vals ys us->xs=ys
 | _,_,_,.nil,.nil=>rfl
 | _,_,_,.cons r t,.cons r' t'=>by rw[r.inj r',Vals.inj t t']
section
variable {X:Cx}{pins:List (Addr × Obj)}{σ:St}{H:Hp}{s:Shared}{a:Addr}{xs ys:List V}
theorem SqL.of{K:W.Frag}(h:H a=some (.lst xs)):SqL K H a xs:=.inl (.inl h)
theorem SqT.of{K:W.Frag}(h:H a=some (.tup xs)):SqT K H a xs:=.inl (.inl h)
theorem Inv.list(I:Inv X pins σ H s)(h:SqL X.K H a xs):∃ its:List Value,Vals xs its/\PlainL s.heap a its.toArray/\xs.length<=sizeLine:=by
 rcases h with h | ⟨o,its,n,hk,hc,hd,hs,hz,r⟩
 ·obtain⟨z,its,n,r,e⟩:=h.ok I.hok
  exact⟨its,r,⟨_,n,e,rfl,rfl,rfl⟩,z⟩
 ·refine⟨its.toList,r,⟨o,n,I.kIn a o hk,hc,hd,by simpa using hs⟩,?_⟩
  have e:=r.length
  simp only [zK] at e
  omega
theorem Inv.tuple(I:Inv X pins σ H s)(h:SqT X.K H a xs):∃ its:List Value,Vals xs its/\IsTup s.heap a its.toArray/\xs.length<=sizeLine:=by
 rcases h with h | ⟨o,its,n,hk,hc,hs,hz,r⟩
 ·obtain⟨z,its,r,p⟩:=h.ok I.hok
  exact⟨its,r,p,z⟩
 ·refine⟨its.toList,r,⟨o,I.kIn a o hk,hc,n,by simpa using hs⟩,?_⟩
  have e:=r.length
  simp only [zK] at e
  omega
theorem Inv.Q4(I:Inv X pins σ H s)(h:SqL X.K H a xs)(h':SqL X.K H a ys):xs=ys:=by
 obtain⟨its,r,⟨o,n,e,_,_,d⟩,_⟩:=I.list h
 obtain⟨its',r',⟨o',n',e',_,_,d'⟩,_⟩:=I.list h'
 rw[e] at e';cases e'
 rw[d] at d'
 injection d' with d1 _
 have:its=its':=by simpa using congrArg Array.toList d1
 subst this
 exact r.inj r'
end
abbrev Cx.wish (X:Cx) (E:Value->Shared->Prop):Cx:={ X with xe:=E }
abbrev Cx.nox (X:Cx):Cx:=X.wish λ_ _=>False
theorem Cx.Ok.wish{X:Cx}(ok:X.Ok)(E:Value->Shared->Prop):(X.wish E).Ok :=
 ⟨ok.mod,ok.kind,ok.glob,ok.blt,ok.above,ok.inj,ok.has,ok.cab,ok.hd,ok.frames,ok.stk,ok.exf,ok.bs,ok.bsz,ok.Za,ok.Zb,ok.Qa,ok.frf⟩
theorem Cx.Ok.Lx{X:Cx}{E:Value->Shared->Prop}(ok:(X.wish E).Ok):X.Ok :=
 ⟨ok.mod,ok.kind,ok.glob,ok.blt,ok.above,ok.inj,ok.has,ok.cab,ok.hd,ok.frames,ok.stk,ok.exf,ok.bs,ok.bsz,ok.Za,ok.Zb,ok.Qa,ok.frf⟩
section
variable {X:Cx}{pins:List (Addr × Obj)}{σ:St}{H:Hp}{s:Shared}{E:Value->Shared->Prop}
theorem Inv.wish(I:Inv X pins σ H s)(E:Value->Shared->Prop):Inv (X.wish E) pins σ H s:=⟨I.ok.wish E,I.os,I.bare,I.base,I.loc,I.cell,I.free,I.GQ,I.pin,I.hok,I.len⟩
theorem Inv.Lx(I:Inv (X.wish E) pins σ H s):Inv X pins σ H s:=⟨I.ok.Lx,I.os,I.bare,I.base,I.loc,I.cell,I.free,I.GQ,I.pin,I.hok,I.len⟩
theorem SP.Lx{D:Ends}{f:Flow}{s':Shared}(h:SP (X.wish E) pins D f s'):SP X pins D f s':=by
 cases f with
 | next=>obtain⟨σ',H',I,q⟩:=h;exact⟨σ',H',I.Lx,q⟩
 | brk=>obtain⟨σ',H',I,q⟩:=h;exact⟨σ',H',I.Lx,q⟩
 | cont=>obtain⟨σ',H',I,q⟩:=h;exact⟨σ',H',I.Lx,q⟩
 | ret u=>obtain⟨v,σ',H',I,r,q⟩:=h;exact⟨v,σ',H',I.Lx,r,q⟩
theorem PSs.nox{st:List Stmt}{t:TS}(h:PSs X.nox st t):PSs X st t:=λpins s σ H D I hw =>
 zT (h pins s σ H D (I.wish _) hw) (λ_ _ q=>q.Lx) λ_ _ z=>False.elim z
end
section
variable {X:Cx}{st:Stmt}{rest:List Stmt}{t u:TS}{e:Expr}{te:TE}{pos:Pos}
def Amk:TS:=λD σ H=>D.nx σ H
def Aml (t u:TS):TS:=λD σ H=>t { D with nx:=u D } σ H
theorem Aq:PSs X [] Amk:=λ_ _ σ H _ I h=>wpAny_execs_nil ⟨σ,H,I,h⟩
theorem Ac(h1:PS X st t)(h2:PSs X rest u):PSs X (st::rest) (Aml t u):=by
 intro pins s σ H D I h
 refine wpAny_execs_cons (thn (h1 pins s σ H { D with nx:=u D } I h) λf s1 q=>?_)
 cases f with
 | next =>
  obtain⟨σ',H',I',q⟩:=q
  exact h2 pins s1 σ' H' D I' q
 | ret v=>exact q
 | brk=>exact q
 | cont=>exact q
theorem Ad(h1:PS X st t):PSs X [st] t:=by
 intro pins s σ H D I h
 refine wpAny_execs_cons (thn (h1 pins s σ H D I h) λf s1 q=>?_)
 cases f with
 | next=>exact wpAny_execs_nil q
 | ret v=>exact q
 | brk=>exact q
 | cont=>exact q
def AnQ:TS:=λD σ H=>D.bk σ H
def AoL:TS:=λD σ H=>D.ct σ H
theorem Inv.quiet{pins:List (Addr × Obj)}{σ:St}{H:Hp}{s:Shared}(I:Inv X pins σ H s):interactive X.env=false:=by simp[interactive,I.ok.kind]
def Amm (te:TE):TS:=λD σ H=>te σ H λ_ H1=>D.nx σ H1
theorem Bp(he:PE X e te)(hs:swapsWith e none pos.line X.env=pure false:=by rfl):PS X (.Expr e pos) (Amm te):=by
 intro pins s σ H D I h
 exact wpAny_Expr_any (thn (he pins s σ H _ I h) λv s1 ⟨x,H1,I1,r1,q1⟩=>⟨σ,H1,I1,q1⟩) I.quiet hs
def AnR (te:TE):TS:=λD σ H=>te σ H D.rt
theorem An(he:PE X e te):PS X (.Return (some e) pos) (AnR te):=by
 intro pins s σ H D I h
 exact wpAny_Return_some (thn (he pins s σ H _ I h) λv s1 ⟨x,H1,I1,r1,q1⟩=>⟨x,σ,H1,I1,r1,q1⟩)
def AoM:TS:=λD _ H=>D.rt .non H
def AnS (c:TT)(t u:TS):TS:=λD σ H=>c σ H λb H1=>if b=true then t D σ H1 else u D σ H1
theorem Be{c:Expr}{a b:List Stmt}{tc:TT}(hc:PT X c tc)(ha:PSs X a t)(hb:PSs X b u):PS X (.If c a b pos) (AnS tc t u):=by
 intro pins s σ H D I h
 refine wpAny_If (thn (hc pins s σ H _ I h) λd s1 ⟨H1,I1,q1⟩=>?_)
 cases d with
 | true=>exact ha pins s1 σ H1 D I1 q1
 | false=>exact hb pins s1 σ H1 D I1 q1
def Ak0:TS:=λ_ _ _=>False
theorem Bc:PS X st Ak0:=λ_ _ _ _ _ _ h=>h.elim
end
abbrev TG:=V->St->Hp->(St->Hp->Prop)->Prop
abbrev TGs:=List V->St->Hp->(St->Hp->Prop)->Prop
def PG (X:Cx)(target:Expr)(t:TG):Prop :=
 ∀(pins:List (Addr × Obj)) (s:Shared) (σ:St) (H:Hp) (v:V) (u:Value) (Q:St->Hp->Prop),Inv X pins σ H s->RelV v u->t v σ H Q ->
  wpAny (model X.prog X.w) X.A (assign target X.env u) (λ_ s'=>∃ σ' H',Inv X pins σ' H' s'/\Q σ' H') X.xe s
def PGs (X:Cx)(ts:List Expr)(t:TGs):Prop :=
 ∀(pins:List (Addr × Obj)) (s:Shared) (σ:St) (H:Hp) (vs:List V) (us:List Value) (Q:St->Hp->Prop),Inv X pins σ H s->Vals vs us->t vs σ H Q ->
  wpAny (model X.prog X.w) X.A (assignInOrder ((assignEach ts X.env).map (·.2)) us) (λ_ s'=>∃ σ' H',Inv X pins σ' H' s'/\Q σ' H') X.xe s
abbrev Ait:=V->V->V->Hp->(Hp->Prop)->Prop
def Ak1 (X:Cx)(t:Ait):Prop :=
 ∀(pins:List (Addr × Obj)) (s:Shared) (σ:St) (H:Hp) (o i v:V) (ov iv u:Value) (Q:Hp->Prop),Inv X pins σ H s->RelV o ov->RelV i iv->RelV v u->t o i v H Q ->
  wpAny (model X.prog X.w) X.A (setItem ov iv u) (λ_ s'=>∃ H',Inv X pins σ H' s'/\Q H') X.xe s
abbrev TIp:=V->V->Hp->VK->Prop
def PIp (X:Cx)(op:Operator)(t:TIp):Prop :=
 ∀(pins:List (Addr × Obj)) (s:Shared) (σ:St) (H:Hp) (x y:V) (v u:Value) (Q:VK),Inv X pins σ H s->RelV x v->RelV y u->t x y H Q ->
  wpAny (model X.prog X.w) X.A (inplaceOp op v u) (EP X pins σ Q) X.xe s
section
variable {X:Cx}{pos:Pos}
def Jq (i:Nat):TG:=λv σ H Q=>Q (σ.set i (some v)) H
theorem Br{i:Nat}{x:Str}(hN:X.N.Nodup)(hi:X.N[i]?=some x)(hx:Loc X.env.scope x)(hf:X.fn x=true\/X.env.scope.names.lookup x=some .local:=by first | exact .inl rfl | exact .inr rfl | assumption):PG X (.Name x pos) (Jq i):=by
 intro pins s σ H v u Q I r h
 exact wpAny_assign_Name (W9 I hN hi hx r (λs' I'=>⟨_,H,I',h⟩) hf)
def Amn:TGs:=λvs σ H Q=>vs=[]/\Q σ H
def Agi (t:TG)(u:TGs):TGs:=λvs σ H Q=>∃ v r,vs=v::r/\t v σ H λσ' H'=>u r σ' H' Q
theorem Wm:PGs X [] Amn:=by
 intro pins s σ H vs us Q I r h
 obtain⟨e,h⟩:=h
 subst e
 cases r
 exact assignInOrder_nil ⟨σ,H,I,h⟩
theorem Gn{e:Expr}{es:List Expr}{t:TG}{u:TGs}(h1:PG X e t)(h2:PGs X es u)
  (hs:(assignEach (e::es) X.env).map (·.2)=assign e X.env::(assignEach es X.env).map (·.2):=by rfl):PGs X (e::es) (Agi t u):=by
 intro pins s σ H vs us Q I r h
 obtain⟨v,vr,e1,h⟩:=h
 subst e1
 cases r with
 | cons r rr =>
  rw[hs]
  refine assignInOrder_cons (thn (h1 pins s σ H _ _ _ I r h) λ_ s1 ⟨σ1,H1,I1,q1⟩=>?_)
  exact h2 pins s1 σ1 H1 _ _ Q I1 rr q1
def Amo (K:W.Frag)(n:Nat)(t:TGs):TG:=λv σ H Q=>∃ a xs,v=.ref a/\SqT K H a xs/\xs.length=n/\t xs σ H Q
theorem Aa5{es:List Expr}{k:Nat}{t:TGs}{n:Nat}(hc:X.calm=true)(h:PGs X es t)
  (hn:(assignEach es X.env).length=n:=by rfl) (hst:(assignEach es X.env).findIdx? (·.1)=none:=by rfl):PG X (.Tuple es k pos) (Amo X.K n t):=by
 intro pins s σ H v u Q I r hw
 obtain⟨a,xs,e1,hq,hl,hw⟩:=hw
 subst e1
 cases r
 obtain⟨its,rv,ht,hz⟩:=I.tuple hq
 refine assign_Tuple_tuple (I.ok.hd hc) ht (by simp[hn,<- hl,rv.length]) hst λh' hx=>?_
 have I1:Inv X pins σ H { s with heap:=h' }:=I.kept (t':=s.toks) λb o e=>hx b o (ApZ (Heap.lt_size e)) e
 exact h pins _ σ H xs _ Q I1 (by simpa using rv) hw
def AnT (to ti:TE)(t:Ait):TG:=λv σ H Q=>to σ H λo H1=>ti σ H1 λi H2=>t o i v H2 λH3=>Q σ H3
theorem Ak2{o i:Expr}{to ti:TE}{t:Ait}(ho:PE X o to)(hi:PE X i ti)(hs:Ak1 X t)
  (ha:∀ v,assign (.Subscript o i pos) X.env v=(do
   let ov <- holding [v] (eval o X.env)
   let iv <- holding [v,ov] (eval i X.env)
   standAt pos
   holding [v,ov,iv] (setItem ov iv v)
   release [v,ov,iv] []):=by intro _;rfl):PG X (.Subscript o i pos) (AnT to ti t):=by
 intro pins s σ H v u Q I r h
 rw[ha]
 refine zA (yB (thn (ho pins s σ H _ I h) λov s1 ⟨x,H1,I1,r1,q1⟩=>?_))
 refine zA (yB (thn (hi pins s1 σ H1 _ I1 q1) λiv s2 ⟨y,H2,I2,r2,q2⟩=>?_))
 refine zA (wpAny_standAt (zA (yB (thn (hs pins s2 σ H2 x y v ov iv u _ I2 r1 r2 r q2) λ_ s3 ⟨H3,I3,q3⟩=>?_))))
 exact wpAny_release ⟨σ,H3,I3,q3⟩
def Agj (te:TE)(g:TG):TS:=λD σ H=>te σ H λx H1=>g x σ H1 D.nx
theorem Ak3{tg e:Expr}{te:TE}{g:TG}(he:PE X e te)(hg:PG X tg g)(hs:swapsWithSole [tg] e pos.line X.env=pure false:=by rfl)(hw:swappedStores [tg] e X.env=pure none:=by rfl)
  (h1:(assignEach [tg] X.env).map (·.2)=[assign tg X.env]:=by rfl):PS X (.Assign [tg] e pos) (Agj te g):=by
 intro pins s σ H D I h
 refine wpAny_Assign_stores (thn (he pins s σ H _ I h) λv s1 ⟨x,H1,I1,r1,q1⟩=>?_) hs hw
 rw[h1]
 exact thn (hg pins s1 σ H1 x v _ I1 r1 q1) λ_ s2 q=>q
theorem Az{i:Nat}{x:Str}{e:Expr}{te:TE}{pos':Pos}(hN:X.N.Nodup)(hi:X.N[i]?=some x)(hx:Loc X.env.scope x)(he:PE X e te)(hs:swapsWith e (some (.Name x pos')) pos.line X.env=pure false:=by rfl)(hf:X.fn x=true\/X.env.scope.names.lookup x=some .local:=by first | exact .inl rfl | exact .inr rfl | assumption) :
  PS X (.Assign [.Name x pos'] e pos) (Agj te (Jq i)):=by
 intro pins s σ H D I h
 refine wpAny_Assign_Name (thn (he pins s σ H _ I h) λv s1 ⟨y,H1,I1,r1,q1⟩=>?_) hs
 exact W9 I1 hN hi hx r1 (λs2 I2=>⟨_,H1,I2,q1⟩) hf
def Apn (i j:Nat)(ta:TA):TS:=λD σ H=>ta σ H λvs H1=>∃ v w,vs=[v,w]/\D.nx ((σ.set i (some v)).set j (some w)) H1
def AnU (i:Nat)(te:TE)(ti:TIp):TS:=λD σ H=>∃ x,σ[i]?=some (some x)/\te σ H λy H1=>ti x y H1 λz H2=>D.nx (σ.set i (some z)) H2
theorem Ak4{i:Nat}{x:Str}{e:Expr}{te:TE}{op:Operator}{ti:TIp}{pos':Pos}(hN:X.N.Nodup)(hi:X.N[i]?=some x)(hx:Loc X.env.scope x)(he:PE X e te)(ho:PIp X op ti)(hf:X.fn x=true\/X.env.scope.names.lookup x=some .local:=by first | exact .inl rfl | exact .inr rfl | assumption) :
  PS X (.AugAssign (.Name x pos') op e pos) (AnU i te ti):=by
 intro pins s σ H D I h
 obtain⟨v,e1,h⟩:=h
 obtain⟨m,hn,hl⟩:=I.loc
 have vis:Vis X.env.scope x:=by rcases hx with k | k;exact .inl k;exact .inr (.inl k)
 obtain⟨u,r,l⟩:=hl i x v hi e1 vis
 refine wpAny_AugAssign_Name ?_
 have go:wpAny (model X.prog X.w) X.A (eval e X.env) (λw s₂=>wpAny (model X.prog X.w) X.A (inplaceOp op u w) (λr s₃=>wpAny (model X.prog X.w) X.A (storeName X.env x r) (λ_=>SP X pins D .next) X.xe s₃) X.xe s₂) X.xe s:=by
  refine thn (he pins s σ H _ I h) λw s1 ⟨y,H1,I1,r1,q1⟩=>?_
  refine thn (ho pins s1 σ H1 v y u w _ I1 r r1 q1) λz s2 ⟨zv,H2,I2,r2,q2⟩=>?_
  exact W9 I2 hN hi hx r2 (λs3 I3=>⟨_,H2,I3,q2⟩) hf
 rcases l with ⟨hk,hm⟩ | ⟨hk,c,hc,hcell⟩
 ·exact wpAny_loadName_local I.ok.kind hk hn hm go
 ·rcases hk with hk | hk
  ·exact wpAny_loadName_cell I.ok.kind hk hc hcell go
  ·rcases hx with k | k
   ·have:X.env.scope.names.lookup x=some .free:=hk
    rw[k] at this;cases this
   ·have:X.env.scope.names.lookup x=some .free:=hk
    rw[k] at this;cases this
def AoN (to ti te:TE)(AnV:V->V->Hp->VK->Prop)(tip:TIp)(AnW:Ait):TS:=λD σ H=>to σ H λo H1=>ti σ H1 λi H2=>AnV o i H2 λx H3=>te σ H3 λy H4=>tip x y H4 λz H5=>AnW o i z H5 λH6=>D.nx σ H6
def AnX (X:Cx)(t:V->V->Hp->VK->Prop):Prop :=
 ∀(pins:List (Addr × Obj)) (s:Shared) (σ:St) (H:Hp) (o i:V) (ov iv:Value) (Q:VK),Inv X pins σ H s->RelV o ov->RelV i iv->t o i H Q ->
  wpAny (model X.prog X.w) X.A (getItem ov iv) (EP X pins σ Q) X.xe s
def ipI (f:Int->Int->Int):TIp:=λx y H Q=>∃ i j,x=.int i/\y=.int j/\Q (.int (f i j)) H
theorem Ak5:PIp X .Add (ipI λi j=>i+j):=by
 intro pins s σ H x y v u Q I r1 r2 h
 obtain⟨i,j,e1,e2,q⟩:=h
 subst e1;subst e2
 obtain⟨t,rfl⟩:=r1
 obtain⟨t',rfl⟩:=r2
 exact iadd_int ⟨.int _,H,I.tok _,⟨_,rfl⟩,q⟩
def Ak6 (c:TT)(tb:TS):TS:=λD σ H=>∃ W:Nat->St->Hp->Prop,(∃ m,W m σ H)/\∀ m σ H,W m σ H ->
 c σ H λb H1=>if b=true then ∃ N:St->Hp->Prop,(∀ σ' H',N σ' H'->∃ m',m'<m/\W m' σ' H')/\tb { D with nx:=N,ct:=N,bk:=D.nx } σ H1 else D.nx σ H1
theorem Q5{c:Expr}{body:List Stmt}{tc:TT}{tb:TS}(hp:PassesOwn (model X.prog X.w) X.A X.env X.xe)(hc:PT X c tc)(hb:PSs X body tb):PS X (.While c body [] pos) (Ak6 tc tb):=by
 intro pins s σ H D I h
 obtain⟨W,⟨m0,w0⟩,turn⟩:=h
 refine wpAny_While (codeAny_whileLoop (λn s'=>∃ σ' H',Inv X pins σ' H' s'/\W n σ' H') ?_ m0 ⟨σ,H,I,w0⟩)
 rintro n s1 ⟨σ1,H1,I1,w1⟩
 refine wpAny_passesOwn hp (thn (hc pins s1 σ1 H1 _ I1 (turn n σ1 H1 w1)) λb s2 ⟨H2,I2,q2⟩=>?_)
 cases b with
 | true =>
  obtain⟨N,hN,q2⟩:=q2
  rw[if_pos rfl]
  refine wpAny_passesOwn hp (thn (hb pins s2 σ1 H2 _ I2 q2) λf s3 q3=>?_)
  cases f with
  | next =>
   obtain⟨σ3,H3,I3,n3⟩:=q3
   obtain⟨m',hm,w3⟩:=hN σ3 H3 n3
   exact⟨m',hm,σ3,H3,I3,w3⟩
  | cont =>
   obtain⟨σ3,H3,I3,n3⟩:=q3
   obtain⟨m',hm,w3⟩:=hN σ3 H3 n3
   exact⟨m',hm,σ3,H3,I3,w3⟩
  | brk=>exact q3
  | ret v=>exact q3
 | false =>
  rw[if_neg Aqe]
  exact wpAny_execs_nil ⟨σ1,H2,I2,q2⟩
end
structure It where
 go:Nat->Hp->Prop
 yld:Nat->Hp->V->Hp->Prop
 stop:Nat->Hp->Prop
def Gz (X:Cx)(pins:List (Addr × Obj))(H:Hp)(b:Addr):Prop :=
 H b=none/\b≠X.env.locals/\b∉X.fs/\(b∈X.ex\/X.s₀.heap.objs.size<=b)/\(∀ x c,X.env.cells.lookup x=some c->c≠b)/\∀ p∈X.pn++pins,p.1≠b
theorem Inv.AeR{X:Cx}{pins:List (Addr × Obj)}{σ:St}{H H':Hp}{s:Shared}{b:Addr}(I:Inv X pins σ H s)(hb:s.heap.objs.size<=b)(hn:H' b=none):Gz X pins H' b:=by
 refine⟨hn,Aq2 (Aqa I.lt hb),I.AnL hb,.inr (Aqn I.sz hb),λx c e z=>?_,λp hp z=>?_⟩
 ·obtain⟨v,q⟩:=I.cell x c e
  exact absurd (Aqa q.lt (by rw[z];exact hb)) (Aqu _)
 ·exact absurd (Aqa (Heap.lt_size (I.pin p hp).1) (by rw[z];exact hb)) (Aqu _)
structure Turn (P:Program) (w:World) (K:W.Frag) (tg:Expr) (J:It) (fp:List Addr) (it:Addr) (tn:Nat->Heap->Prop):Prop where
 mem:it∈fp
 obj:∀ i h,tn i h->∀ b∈fp,∃ o,h.get? b=some o/\∀ v,o.data≠.cell v
 keep:∀ i h h',tn i h->(∀ b∈fp,∀ o,h.get? b=some o->h'.get? b=some o)->tn i h'
 item:∀(X:Cx),X.prog=P->X.w=w->X.K=K->X.calm=true->∀(i:Nat) (pins:List (Addr × Obj)) (s:Shared) (σ:St) (H:Hp) (E:Value->Shared->Prop),Inv X pins σ H s->(∀ b∈fp,Gz X pins H b)->tn i s.heap->J.go i H ->
  wpAny (model P w) X.A (pyNext (.ref it)) (λr s1=>∃ u,r=some u /\
   wpAny (model P w) X.A (letOwnedTupleGo tg (.ref it) u) (λ_ s2=>∃ x H',Inv X pins σ H' s2/\RelV x u/\J.yld i H x H'/\tn (i+1) s2.heap/\∀ b∈fp,H' b=none) E s1) E s
 done:∀(X:Cx),X.prog=P->X.w=w->X.K=K->X.calm=true->∀(i:Nat) (pins:List (Addr × Obj)) (s:Shared) (σ:St) (H:Hp) (E:Value->Shared->Prop),Inv X pins σ H s->(∀ b∈fp,Gz X pins H b)->tn i s.heap->J.stop i H ->
  wpAny (model P w) X.A (pyNext (.ref it)) (λr s1=>r=none/\Inv X pins σ H s1) E s
 self:∀(A:Around) (i:Nat) (s:Shared) (Q:Value->Shared->Prop) (E:Value->Shared->Prop),tn i s.heap->Q (.ref it) s->wpAny (model P w) A (pyIter (.ref it)) Q E s
abbrev TI:=St->Hp->(It->Hp->Prop)->Prop
def PIE (X:Cx)(pins:List (Addr × Obj))(σ:St)(tg:Expr)(R:It->Hp->Prop)(itv:Value)(s2:Shared):Prop :=
 ∃(it:Addr) (fp:List Addr) (tn:Nat->Heap->Prop) (J:It) (H':Hp),itv=.ref it/\Inv X pins σ H' s2/\Turn X.prog X.w X.K tg J fp it tn/\tn 0 s2.heap/\(∀ b∈fp,Gz X pins H' b)/\R J H'
def PI (X:Cx)(tg iter:Expr)(wi:TI):Prop :=
 ∀(pins:List (Addr × Obj)) (s:Shared) (σ:St) (H:Hp) (R:It->Hp->Prop),Inv X pins σ H s->wi σ H R ->
  wpAny (model X.prog X.w) X.A (eval iter X.env) (λv s1=>wpAny (model X.prog X.w) X.A (pyIter v) (PIE X pins σ tg R) X.xe s1) X.xe s
theorem Ab6{M:Model}{A:Around}{E:Value->Shared->Prop}{s:Shared}{tg:Expr}{it:Addr}{u:Value}{o:Obj}{n:String}{vs:Array Value}{Q:Unit->Shared->Prop}(ho:s.heap.get? it=some o)(hc:o.cls=.type n)(hd:o.data=.fields vs)
    (hn:["enumerate", "zip", "dict_itemiterator", "dict_reverseitemiterator", "odict_iterator", "itertools.zip_longest", "itertools.pairwise"].contains n=false) (hQ:Q () s):wpAny M A (letOwnedTupleGo tg (.ref it) u) Q E s:=by
  unfold letOwnedTupleGo
  cases tg <;> first
    | exact zE hQ
    | (cases u <;> first
        | exact zE hQ
        | (refine zA (wpAny_load ho ?_)
           rw[hc,hd]
           show wpAny M A (if (["enumerate", "zip", "dict_itemiterator", "dict_reverseitemiterator", "odict_iterator", "itertools.zip_longest", "itertools.pairwise"].contains n && vs[0]? == some (rawInt _))=true then _ else _) Q E s
           rw[if_neg (by intro h;rw[hn,Bool.false_and] at h;cases h)]
           exact zE hQ))
def Itl (K:W.Frag)(a:Addr):It :=
 ⟨λi H=>∃ xs x,SqL K H a xs/\xs[i]?=some x,λi H x H'=>H'=H/\∀ xs,SqL K H a xs->xs[i]?=some x,λi H=>∃ xs,SqL K H a xs/\xs.length<=i⟩
def Itt (K:W.Frag)(a:Addr):It :=
 ⟨λi H=>∃ xs x,SqT K H a xs/\xs[i]?=some x,λi H x H'=>H'=H/\∀ xs,SqT K H a xs->xs[i]?=some x,λi H=>∃ xs,SqT K H a xs/\xs.length<=i⟩
def Itr (lo:Int)(n:Nat):It:=⟨λi _=>i<n,λi H x H'=>H'=H/\x=.int (lo+i),λi _=>n<=i⟩
theorem AeS{P:Program}{w:World}{K:W.Frag}{tg:Expr}(a it:Addr):Turn P w K tg (Itl K a) [it] it (λi h=>h.IsListIter it a i) where
 mem:=by simp
 obj:=λi h st b hb=>by
  have e:b=it:=by simpa using hb
  subst e
  obtain⟨o,e,c,d⟩:=st
  exact⟨o,e,λv z=>by rw[d] at z;cases z⟩
 keep:=λi h h' st k=>st.at λo e=>k it (by simp) o e
 item:=by
  intro X hP hw hK hc i pins s σ H E I hf st hg
  subst hP hw hK
  obtain⟨xs,x,hq,hx⟩:=hg
  obtain⟨its,rv,p,hz⟩:=I.list hq
  obtain⟨u,hu,ru⟩:=rv.get hx
  obtain⟨f0,f1,f2,f3,f4,f5⟩:=hf it (by simp)
  refine wpAny_pyNext_list_item st p.isList (x:=u) (by simpa using hu) λh' st' sb=>?_
  have I1:Inv X pins σ H { s with heap:=h' }:=I.turned (t':=s.toks) (λb o hb e=>(sb.2 b hb).trans e) f0 f1 f3 f4 f5
  obtain⟨o,e,c,d⟩:=id st'
  exact⟨u,rfl,Ab6 (s:={ s with heap:=h' }) e c d (by decide) ⟨x,H,I1,ru,⟨rfl,λys hy=>by rw[I.Q4 hy hq];exact hx⟩,st',λb hb=>(hf b hb).1⟩⟩
 done:=by
  intro X hP hw hK hc i pins s σ H E I hf st hg
  subst hP hw hK
  obtain⟨xs,hq,hx⟩:=hg
  obtain⟨its,rv,p,hz⟩:=I.list hq
  obtain⟨f0,f1,f2,f3,f4,f5⟩:=hf it (by simp)
  have hl:=rv.length
  exact wpAny_pyNext_list_end (I.ok.hd hc) st p.isList (by simp;omega) λh' eb=>⟨rfl,I.turned (t':=s.toks) (λb o hb e=>eb b o hb e) f0 f1 f3 f4 f5⟩
 self:=λ_ _ _ _ _ st h=>wpAny_pyIter_listiter st h
theorem AcT{P:Program}{w:World}{K:W.Frag}{tg:Expr}(it:Addr)(lo:Int)(n:Nat):Turn P w K tg (Itr lo n) [it] it (λi h=>IsRangeIter h it (lo+(i:Nat)*1) ((n:Int)-(i:Nat)) 1) where
 mem:=by simp
 obj:=λi h st b hb=>by
  have e:b=it:=by simpa using hb
  subst e
  exact⟨_,st,λv z=>by
   have z':Data.fields _=Data.cell v:=z
   cases z'⟩
 keep:=λi h h' st k=>k it (by simp) _ st
 item:=by
  intro X hP hw hK hc i pins s σ H E I hf st hg
  subst hP hw hK
  obtain⟨f0,f1,f2,f3,f4,f5⟩:=hf it (by simp)
  have W:=Walks.range (prog:=X.prog) (w:=X.w) (I.ok.hd hc) it lo 1 n
  refine W.item i s _ _ hg st λv h' tk hv st' kk=>?_
  obtain⟨t,rfl⟩:=hv
  have I1:Inv X pins σ H { s with heap:=h',toks:=tk }:=I.turned (λb o hb e=>kk b o (by simpa using hb) e) f0 f1 f3 f4 f5
  refine⟨_,rfl,Ab6 (s:={ s with heap:=h',toks:=tk }) (n := "range_iterator") st' rfl rfl (by decide) ⟨.int (lo+i),H,I1,⟨t,?_⟩,⟨rfl,rfl⟩,st',λb hb=>(hf b hb).1⟩⟩
  rw[Int.mul_one]
 done:=by
  intro X hP hw hK hc i pins s σ H E I hf st hg
  subst hP hw hK
  obtain⟨f0,f1,f2,f3,f4,f5⟩:=hf it (by simp)
  exact wpAny_pyNext_range_end (I.ok.hd hc) st (by have:n<=i:=hg;omega) λh' eb=>⟨rfl,I.turned (t':=s.toks) (λb o hb e=>eb b o hb e) f0 f1 f3 f4 f5⟩
 self:=λ_ _ _ _ _ st h=>wpAny_pyIter_rangeiter st h
section
variable {X:Cx}{tg:Expr}
def AjI (K:W.Frag)(tl:TE):TI:=λσ H R=>tl σ H λx H1=>∃ a,x=.ref a/\(∃ xs,SqL K H1 a xs)/\R (Itl K a) H1
def Apo (K:W.Frag)(tl:TE):TI:=λσ H R=>tl σ H λx H1=>∃ a,x=.ref a/\(∃ xs,SqT K H1 a xs)/\R (Itt K a) H1
theorem Aiu{l:Expr}{tl:TE}(hl:PE X l tl):PI X tg l (AjI X.K tl):=by
 intro pins s σ H R I h
 refine thn (hl pins s σ H _ I h) λv s1 ⟨x,H1,I1,r1,q1⟩=>?_
 obtain⟨a,e,⟨xs,hq⟩,q⟩:=q1
 subst e
 cases r1
 obtain⟨its,rv,p,hz⟩:=I1.list hq
 refine wpAny_pyIter_list p.isList ?_
 refine⟨s1.heap.objs.size,[s1.heap.objs.size],_,_,H1,rfl,I1.kept (t':=s1.toks) λb o e=>zB _ e,AeS a _,⟨_,zD _ rfl,rfl,rfl⟩,λb hb=>?_,q⟩
 have e:b=s1.heap.objs.size:=by simpa using hb
 subst e
 exact I1.AeR (ApR _) (I1.hok.fresh (ApR _))
theorem Ab7{pins:List (Addr × Obj)}{σ:St}{H:Hp}{s:Shared}{R:It->Hp->Prop}{E:Value->Shared->Prop}{lo hi:Int}{t u v:Tok}{tk:Nat}(I:Inv X pins σ H s)(h1 : -(2 ^ 62)<=lo)(h2:lo<2 ^ 62)(h3 : -(2 ^ 62)<=hi)(h4:hi<2 ^ 62)
  (q:R (Itr lo (hi-lo).toNat) H):wpAny (model X.prog X.w) X.A (pyIter (.ref s.heap.objs.size)) (PIE X pins σ tg R) E { s with heap:=s.heap.push { cls:=.type "range", data:=.fields #[.int lo t,.int hi u,.int 1 v] },toks:=tk }:=by
 refine wpAny_pyIter_range (IsRange.new ..) (small_one h1 h2 h3 h4) ?_
 have I1:Inv X pins σ H { s with heap:=s.heap.push { cls:=.type "range", data:=.fields #[.int lo t,.int hi u,.int 1 v] },toks:=tk }:=I.kept λb o e=>zB _ e
 refine⟨(s.heap.push { cls:=.type "range", data:=.fields #[.int lo t,.int hi u,.int 1 v] }).objs.size,[(s.heap.push { cls:=.type "range", data:=.fields #[.int lo t,.int hi u,.int 1 v] }).objs.size],_,_,H,rfl,
  I1.kept (t':=tk) λb o e=>zB _ e,AcT _ lo (hi-lo).toNat,?_,λb hb=>?_,q⟩
 ·have e1:lo+((0:Nat):Int)*1=lo:=by simp
  have e2:(((hi-lo).toNat:Nat):Int)-((0:Nat):Int)=Builtin.Range.rangeSize lo hi 1:=by rw[rangeSize_one];split <;> omega
  show IsRangeIter _ _ (lo+((0:Nat):Int)*1) ((((hi-lo).toNat:Nat):Int)-((0:Nat):Int)) 1
  rw[e1,e2]
  exact zD _ rfl
 ·have e:b=(s.heap.push { cls:=.type "range", data:=.fields #[.int lo t,.int hi u,.int 1 v] }).objs.size:=by simpa using hb
  subst e
  exact I1.AeR (ApR _) (I1.hok.fresh (ApR _))
def Amp (ta:TA):TI:=λσ H R=>ta σ H λvs H1=>∃ j:Int,vs=[.int j] /\ -(2 ^ 62)<=j/\j<2 ^ 62/\R (Itr 0 j.toNat) H1
def Amq (ta:TA):TI:=λσ H R=>ta σ H λvs H1=>∃ i j:Int,vs=[.int i,.int j]/\(-(2 ^ 62)<=i/\i<2 ^ 62 /\ -(2 ^ 62)<=j/\j<2 ^ 62)/\R (Itr i (j-i).toNat) H1
theorem Ci{a:Expr}{ta:TA}{p pos:Pos}(hg:Gl X "range") (hm:X.mg "range" = none) (ha:PA X [a] ta) (hs:starEach [a] X.env=[(false,eval a X.env)]:=by rfl):PI X tg (.Call (.Name "range" p) [a] [] pos) (Amp ta):=by
 intro pins s σ H R I h
 refine Call_ (Jc I hg hm boot_range (PyProof.Rows.callWith_type1 (thn (ha pos pins s σ H _ I h) λus s1 ⟨vs,H1,I1,r1,q1⟩=>?_) hs rfl))
 obtain⟨j,e,q1,q2,q⟩:=q1
 subst e
 cases r1 with
 | cons r rr =>
  cases rr
  obtain⟨t,rfl⟩:=r
  exact call_range_1 (Ab7 I1 (by omega) (by omega) q1 q2 (by simpa using q))
theorem Tp{a b:Expr}{ta:TA}{p pos:Pos}(hg:Gl X "range") (hm:X.mg "range" = none) (ha:PA X [a,b] ta) (hs:starEach [a,b] X.env=[(false,eval a X.env),(false,eval b X.env)]:=by rfl) (hs2:starEach [b] X.env=[(false,eval b X.env)]:=by rfl) :
  PI X tg (.Call (.Name "range" p) [a,b] [] pos) (Amq ta):=by
 intro pins s σ H R I h
 refine Call_ (Jc I hg hm boot_range (PyProof.Rows.callWith_type1 (thn (ha pos pins s σ H _ I h) λus s1 ⟨vs,H1,I1,r1,q1⟩=>?_) (by rw[hs,hs2]) (by rw[hs2];rfl)))
 obtain⟨i,j,e,⟨q1,q2,q3,q4⟩,q⟩:=q1
 subst e
 cases r1 with
 | cons r rr =>
  cases rr with
  | cons r' rr =>
   cases rr
   obtain⟨t,rfl⟩:=r
   obtain⟨t',rfl⟩:=r'
   exact call_range_2 (Ab7 I1 q1 q2 q3 q4 q)
def AnY (wi:TI)(g:TG)(tb:TS):TS:=λD σ H=>wi σ H λJ H1=>∃ W:Nat->Nat->St->Hp->Prop,(∃ m,W 0 m σ H1)/\∀ i m σ H,W i m σ H ->
 (J.stop i H/\D.nx σ H)\/(J.go i H/\∃ N:St->Hp->Prop,(∀ σ' H',N σ' H'->∃ m',m'<m/\W (i+1) m' σ' H')/\∀ x H',J.yld i H x H'->g x σ H' λσ2 H2=>tb { D with nx:=N,ct:=N,bk:=D.nx } σ2 H2)
def Qc (fp:List Addr)(h:Heap):List (Addr × Obj):=fp.filterMap λb=>(h.get? b).map λo=>(b,o)
theorem El{fp:List Addr}{h:Heap}{b:Addr}{o:Obj}(hb:b∈fp)(e:h.get? b=some o):(b,o)∈Qc fp h:=List.mem_filterMap.mpr ⟨b,hb,by rw[e];rfl⟩
theorem AeT{fp:List Addr}{h:Heap}{p:Addr × Obj}(hp:p∈Qc fp h):p.1∈fp/\h.get? p.1=some p.2:=by
 obtain⟨b,hb,e⟩:=List.mem_filterMap.mp hp
 cases q:h.get? b with
 | none=>rw[q] at e;cases e
 | some o =>
  rw[q] at e
  have e':(b,o)=p:=Option.some.inj e
  subst e'
  exact⟨hb,q⟩
theorem Inv.pinned{pins:List (Addr × Obj)}{σ:St}{H:Hp}{s:Shared}{fp:List Addr}(I:Inv X pins σ H s)(hf:∀ b∈fp,Gz X pins H b)(ho:∀ b∈fp,∃ o,s.heap.get? b=some o/\∀ v,o.data≠.cell v):Inv X (pins++Qc fp s.heap) σ H s :=
 I.Fj λp hp=>(zG.mp hp).elim (λz=>I.pin p (Aqp _ z)) λz=>by
  obtain⟨hb,e⟩:=AeT z
  obtain⟨f0,f1,f2,_⟩:=hf p.1 hb
  obtain⟨o,e',d⟩:=ho p.1 hb
  rw[e] at e';cases e'
  exact⟨e,f0,f1,f2,d⟩
theorem Inv.WL{pins pl:List (Addr × Obj)}{σ:St}{H:Hp}{s:Shared}(I:Inv X (pins++pl) σ H s):Inv X pins σ H s:=I.Fj λp hp=>I.pin p (Aqp _ (AqM _ hp))
theorem Cj{iter:Expr}{body:List Stmt}{wi:TI}{g:TG}{tb:TS}{pos:Pos}(hp:PassesOwn (model X.prog X.w) X.A X.env X.xe)(hc:X.calm=true)(hi:PI X tg iter wi)(hg:PG X tg g)(hb:PSs X body tb)
  (hs:∀ x,foldedSetIterable iter X.env x=pure x:=by intro _;rfl):PS X (.For tg iter body [] pos) (AnY wi g tb):=by
 intro pins s σ H D I h
 refine wpAny_For (thn (hi pins s σ H _ I h) λv s1 h1=>thn h1 λitv s2 h2=>?_) hs
 obtain⟨it,fp,tn,J,H2,e,I2,T,st2,f2,W,⟨m0,w0⟩,turn⟩:=h2
 subst e
 have stat:∀{H':Hp},(∀ b∈fp,H' b=none)->∀ b∈fp,Gz X pins H' b:=λhn b hb=>⟨hn b hb,(f2 b hb).2⟩
 refine codeAny_forLoop_any (λn s'=>∃ i σ' H',Inv X pins σ' H' s'/\tn i s'.heap/\(∀ b∈fp,H' b=none)/\W i n σ' H') ?_ m0 ⟨0,σ,H2,I2,st2,λb hb=>(f2 b hb).1,w0⟩
 rintro n s3 ⟨i,σ3,H3,I3,st3,fr3,w3⟩
 rcases turn i n σ3 H3 w3 with ⟨stop,qn⟩ | ⟨go,N,hN,step⟩
 ·refine wpAny_passesOwn hp (thn (T.done X rfl rfl rfl hc i pins s3 σ3 H3 X.xe I3 (stat fr3) st3 stop) λr s4 ⟨hr,I4⟩=>?_)
  subst hr
  exact wpAny_execs_nil ⟨σ3,H3,I4,qn⟩
 ·refine wpAny_passesOwn hp (thn (T.item X rfl rfl rfl hc i pins s3 σ3 H3 X.xe I3 (stat fr3) st3 go) λr s4 ⟨u,hr,h4⟩=>?_)
  subst hr
  refine wpAny_passesOwn hp (thn h4 λ_ s5 ⟨x,H5,I5,r5,y5,st5,fr5⟩=>?_)
  have I5':=I5.pinned (stat fr5) (T.obj _ _ st5)
  refine wpAny_passesOwn hp (thn (hg _ s5 σ3 H5 x u _ I5' r5 (step x H5 y5)) λ_ s6 ⟨σ6,H6,I6,q6⟩=>?_)
  refine wpAny_passesOwn hp (thn (hb _ s6 σ6 H6 _ I6 q6) λf s7 q7=>?_)
  have again:∀{σ7:St} {H7:Hp},Inv X (pins++Qc fp s5.heap) σ7 H7 s7->N σ7 H7->∃ m,m<n/\∃ i σ' H',Inv X pins σ' H' s7/\tn i s7.heap/\(∀ b∈fp,H' b=none)/\W i m σ' H':=λ{σ7 H7} I7 n7=>by
   obtain⟨m',hm,w7⟩:=hN σ7 H7 n7
   refine⟨m',hm,i+1,σ7,H7,I7.WL,T.keep _ _ _ st5 λb hb o e=>(I7.pin (b,o) (Aqp _ (Aqp _ (El hb e)))).1,λb hb=>?_,w7⟩
   obtain⟨o,e,d⟩:=T.obj _ _ st5 b hb
   exact(I7.pin (b,o) (Aqp _ (Aqp _ (El hb e)))).2.1
  cases f with
  | next=>obtain⟨σ7,H7,I7,n7⟩:=q7;exact again I7 n7
  | cont=>obtain⟨σ7,H7,I7,n7⟩:=q7;exact again I7 n7
  | brk=>obtain⟨σ7,H7,I7,q7⟩:=q7;exact⟨σ7,H7,I7.WL,q7⟩
  | ret v=>obtain⟨x7,σ7,H7,I7,r7,q7⟩:=q7;exact⟨x7,σ7,H7,I7.WL,r7,q7⟩
end
theorem Dd{K:W.Frag}{a:Addr}{xs:List V}{g:TG}{tb:TS}{D:Ends}{σ:St}{H:Hp}(Pv:Nat->St->Hp->Prop)(h0:Pv 0 σ H)(hl:∀ i σ H,i<=xs.length->Pv i σ H->SqL K H a xs)
  (hs:∀ i x σ H,xs[i]?=some x->Pv i σ H->g x σ H λσ2 H2=>tb { D with nx:=Pv (i+1),ct:=Pv (i+1),bk:=D.nx } σ2 H2) (hd:∀ σ H,Pv xs.length σ H->D.nx σ H) :
  ∃ W:Nat->Nat->St->Hp->Prop,(∃ m,W 0 m σ H)/\∀ i m σ H,W i m σ H ->
   ((Itl K a).stop i H/\D.nx σ H)\/((Itl K a).go i H/\∃ N:St->Hp->Prop,(∀ σ' H',N σ' H'->∃ m',m'<m/\W (i+1) m' σ' H')/\∀ x H',(Itl K a).yld i H x H'->g x σ H' λσ2 H2=>tb { D with nx:=N,ct:=N,bk:=D.nx } σ2 H2):=by
 refine⟨λi m σ H=>m=xs.length-i/\i<=xs.length/\Pv i σ H,⟨xs.length,by simp,Aqb _,h0⟩,?_⟩
 rintro i m σ H ⟨rfl,hi,p⟩
 have q:=hl i σ H hi p
 by_cases hlt:i<xs.length
 ·refine .inr ⟨⟨xs,xs[i],q,by simp[hlt]⟩,Pv (i+1),λσ' H' p'=>⟨xs.length-(i+1),by omega,rfl,hlt,p'⟩,λx H' y=>?_⟩
  obtain⟨e,y⟩:=y
  subst e
  exact hs i x σ _ (y xs q) p
 ·have e:i=xs.length:=by omega
  subst e
  exact .inl ⟨⟨xs,q,ApR _⟩,hd σ H p⟩
theorem Di{lo:Int}{n:Nat}{g:TG}{tb:TS}{D:Ends}{σ:St}{H:Hp}(Pv:Nat->St->Hp->Prop)(h0:Pv 0 σ H)
  (hs:∀ i σ H,i<n->Pv i σ H->g (.int (lo+i)) σ H λσ2 H2=>tb { D with nx:=Pv (i+1),ct:=Pv (i+1),bk:=D.nx } σ2 H2) (hd:∀ σ H,Pv n σ H->D.nx σ H) :
  ∃ W:Nat->Nat->St->Hp->Prop,(∃ m,W 0 m σ H)/\∀ i m σ H,W i m σ H ->
   ((Itr lo n).stop i H/\D.nx σ H)\/((Itr lo n).go i H/\∃ N:St->Hp->Prop,(∀ σ' H',N σ' H'->∃ m',m'<m/\W (i+1) m' σ' H')/\∀ x H',(Itr lo n).yld i H x H'->g x σ H' λσ2 H2=>tb { D with nx:=N,ct:=N,bk:=D.nx } σ2 H2):=by
 refine⟨λi m σ H=>m=n-i/\i<=n/\Pv i σ H,⟨n,by simp,Aqb _,h0⟩,?_⟩
 rintro i m σ H ⟨rfl,hi,p⟩
 by_cases hlt:i<n
 ·refine .inr ⟨hlt,Pv (i+1),λσ' H' p'=>⟨n-(i+1),by omega,rfl,hlt,p'⟩,λx H' y=>?_⟩
  obtain⟨e,y⟩:=y
  subst e y
  exact hs i σ _ hlt p
 ·have e:i=n:=by omega
  subst e
  exact .inl ⟨ApR _,hd σ H p⟩
abbrev R2:=V->V->Hp->VK->Prop
def OpR (X:Cx)(f:Value->Value->Sem Value)(r:R2):Prop :=
 ∀(pins:List (Addr × Obj)) (s:Shared) (σ:St) (H:Hp) (x y:V) (v u:Value) (Q:VK),Inv X pins σ H s->RelV x v->RelV y u->r x y H Q ->
  wpAny (model X.prog X.w) X.A (f v u) (EP X pins σ Q) X.xe s
def UnR (X:Cx)(f:Value->Sem Value)(r:V->Hp->VK->Prop):Prop :=
 ∀(pins:List (Addr × Obj)) (s:Shared) (σ:St) (H:Hp) (x:V) (v:Value) (Q:VK),Inv X pins σ H s->RelV x v->r x H Q ->
  wpAny (model X.prog X.w) X.A (f v) (EP X pins σ Q) X.xe s
def Et (X:Cx)(f:Value)(r:List V->Hp->VK->Prop):Prop :=
 ∀(pins:List (Addr × Obj)) (s:Shared) (σ:St) (H:Hp) (xs:List V) (us:List Value) (Q:VK),Inv X pins σ H s->Vals xs us->r xs H Q ->
  wpAny (model X.prog X.w) X.A (call f us) (EP X pins σ Q) X.xe s
def AnZ (X:Cx)(r:V->Hp->(Bool->Hp->Prop)->Prop):Prop :=
 ∀(pins:List (Addr × Obj)) (s:Shared) (σ:St) (H:Hp) (x:V) (v:Value) (Q:Bool->Hp->Prop),Inv X pins σ H s->RelV x v->r x H Q ->
  wpAny (model X.prog X.w) X.A (truthy v) (TP X pins σ Q) X.xe s
def tOp (r:R2)(ta tb:TE):TE:=λσ H Q=>ta σ H λx H1=>tb σ H1 λy H2=>r x y H2 Q
def tUn (r:V->Hp->VK->Prop)(ta:TE):TE:=λσ H Q=>ta σ H λx H1=>r x H1 Q
def rI (C:Int->Int->Prop)(g:Int->Int->V):R2:=λx y H Q=>∃ i j,x=.int i/\y=.int j/\C i j/\Q (g i j) H
def rI0 (g:Int->Int->V):R2:=λx y H Q=>∃ i j,x=.int i/\y=.int j/\Q (g i j) H
def rU (g:Int->V):V->Hp->VK->Prop:=λx H Q=>∃ i,x=.int i/\Q (g i) H
section
variable {X:Cx}{a b c:Expr}{ta tb tc:TE}{pos:Pos}
theorem Ak7(ha:PE X a ta)(hb:PE X b tb){pins:List (Addr × Obj)}{s:Shared}{σ:St}{H:Hp}{R:V->V->Hp->Prop}(I:Inv X pins σ H s)
  (h:ta σ H λx H1=>tb σ H1 λy H2=>R x y H2) {Q:Value->Shared->Prop} {f:Value->Value->Sem Value}
  (hf:∀ v u s2 x y H2,Inv X pins σ H2 s2->RelV x v->RelV y u->R x y H2->wpAny (model X.prog X.w) X.A (f v u) Q X.xe s2) :
  wpAny (model X.prog X.w) X.A (eval a X.env) (λv s₁=>wpAny (model X.prog X.w) X.A (eval b X.env) (λu s₂=>wpAny (model X.prog X.w) X.A (f v u) Q X.xe s₂) X.xe s₁) X.xe s:=by
 refine thn (ha pins s σ H _ I h) λv s1 ⟨x,H1,I1,r1,q1⟩=>?_
 refine thn (hb pins s1 σ H1 _ I1 q1) λu s2 ⟨y,H2,I2,r2,q2⟩=>?_
 exact hf v u s2 x y H2 I2 r1 r2 q2
theorem Bx{op:Operator}{r:R2}(ho:OpR X (binaryOp op) r)(ha:PE X a ta)(hb:PE X b tb):PE X (.BinOp a op b pos) (tOp r ta tb):=by
 intro pins s σ H Q I h
 exact wpAny_BinOp (Ak7 ha hb I h λv u s2 x y H2 I2 rx ry q=>ho pins s2 σ H2 x y v u Q I2 rx ry q)
theorem Uv{op:UnaryOp}{r:V->Hp->VK->Prop}(ho:UnR X (unaryOp op) r)(ha:PE X a ta):PE X (.UnaryOp op a pos) (tUn r ta):=by
 intro pins s σ H Q I h
 exact UnaryOp_ (thn (ha pins s σ H _ I h) λv s1 ⟨x,H1,I1,r1,q1⟩=>ho pins s1 σ H1 x v Q I1 r1 q1)
theorem opI{f:Value->Value->Sem Value}{C:Int->Int->Prop}{g:Int->Int->Int}
  (rule:∀(i j:Int) (t u:Tok) (s:Shared) (Q:Value->Shared->Prop) (E:Value->Shared->Prop),C i j->Q (.int (g i j) s.toks) { s with toks:=s.toks+1 }->wpAny (model X.prog X.w) X.A (f (.int i t) (.int j u)) Q E s) :
  OpR X f (rI C λi j=>.int (g i j)):=by
 intro pins s σ H x y v u Q I rx ry h
 obtain⟨i,j,rfl,rfl,hc,q⟩:=h
 obtain⟨t,rfl⟩:=rx
 obtain⟨t',rfl⟩:=ry
 exact rule i j t t' s _ _ hc ⟨.int (g i j),H,I.tok _,⟨_,rfl⟩,q⟩
theorem Amr{f:Value->Value->Sem Value}{g:Int->Int->Int}
  (rule:∀(i j:Int) (t u:Tok) (s:Shared) (Q:Value->Shared->Prop) (E:Value->Shared->Prop),Q (.int (g i j) s.toks) { s with toks:=s.toks+1 }->wpAny (model X.prog X.w) X.A (f (.int i t) (.int j u)) Q E s) :
  OpR X f (rI0 λi j=>.int (g i j)):=by
 intro pins s σ H x y v u Q I rx ry h
 obtain⟨i,j,rfl,rfl,q⟩:=h
 obtain⟨t,rfl⟩:=rx
 obtain⟨t',rfl⟩:=ry
 exact rule i j t t' s _ _ ⟨.int (g i j),H,I.tok _,⟨_,rfl⟩,q⟩
theorem Aiv{f:Value->Value->Sem Value}{g:Int->Int->Bool}
  (rule:∀(i j:Int) (t u:Tok) (s:Shared) (Q:Value->Shared->Prop) (E:Value->Shared->Prop),Q (.bool (g i j)) s->wpAny (model X.prog X.w) X.A (f (.int i t) (.int j u)) Q E s) :
  OpR X f (rI0 λi j=>.bl (g i j)):=by
 intro pins s σ H x y v u Q I rx ry h
 obtain⟨i,j,rfl,rfl,q⟩:=h
 obtain⟨t,rfl⟩:=rx
 obtain⟨t',rfl⟩:=ry
 exact rule i j t t' s _ _ ⟨.bl (g i j),H,I,rfl,q⟩
def Aoa (i j:Int):Prop:=0<j/\j<1073741824
def AoO (i j:Int):Prop:=j≠0/\j.natAbs<1073741824
def Apq (i j:Int):Prop:=0<=j/\j<=1000000/\i.natAbs<2 ^ 64
def Ak8 (i j:Int):Prop:=(-(2 ^ 64)<i/\i<2 ^ 64)\/(-(2 ^ 64)<j/\j<2 ^ 64)
theorem Ak8.ok{i j:Int}(h:Ak8 i j):IntMulOk i j:=by
 rcases h with ⟨h1,h2⟩ | ⟨h1,h2⟩
 ·exact .of_left (intBits_le_64 h1 h2)
 ·exact .of_right (intBits_le_64 h1 h2)
theorem Eu:OpR X (binaryOp .Add) (rI0 λi j=>.int (i+j)):=Amr λ_ _ _ _ _ _ _ q=>add_int q
theorem FN:OpR X (binaryOp .Sub) (rI0 λi j=>.int (i-j)):=Amr λ_ _ _ _ _ _ _ q=>sub_int q
theorem Agk:OpR X (binaryOp .Mult) (rI Ak8 λi j=>.int (i*j)):=opI λ_ _ _ _ _ _ _ hc q=>mul_int q hc.ok
theorem Aiw:OpR X (binaryOp .FloorDiv) (rI Aoa λi j=>.int (i / j)):=opI λi j _ _ _ _ _ hc q=>by
 have h1:(0:Int)<j:=hc.1
 have h2:j<1073741824:=hc.2
 exact floordiv_int (by omega) (by rw[Int.fdiv_eq_ediv_of_nonneg i (by omega)];exact q) (.inl (PyProof.noPylong_small (by omega)))
theorem Hq:OpR X (binaryOp .Mod) (rI (λ_ j=>0<j) λi j=>.int (i%j)):=opI λi j _ _ _ _ _ hc q=>by
 have h1:(0:Int)<j:=hc
 exact mod_int' (by omega) (by rw[Int.fmod_eq_emod_of_nonneg i (by omega)];exact q)
theorem unI{f:Value->Sem Value}{g:Int->Int}
  (rule:∀(i:Int) (t:Tok) (s:Shared) (Q:Value->Shared->Prop) (E:Value->Shared->Prop),Q (.int (g i) s.toks) { s with toks:=s.toks+1 }->wpAny (model X.prog X.w) X.A (f (.int i t)) Q E s) :
  UnR X f (rU λi=>.int (g i)):=by
 intro pins s σ H x v Q I rx h
 obtain⟨i,rfl,q⟩:=h
 obtain⟨t,rfl⟩:=rx
 exact rule i t s _ _ ⟨.int (g i),H,I.tok _,⟨_,rfl⟩,q⟩
theorem Lz:UnR X (unaryOp .USub) (rU λi=>.int (-i)):=unI λ_ _ _ _ _ q=>neg_int q
end
def Ams:V->V->Bool
 | .non,.non=>true | .non,.int _=>true | .int _,.non=>true | .non,.bl _=>true | .bl _,.non=>true | .non,.str _=>true | .str _,.non=>true
 | .int _,.int _=>true | .bl _,.bl _=>true | .str _,.str _=>true | .byt _,.byt _=>true
 | .int _,.str _=>true | .str _,.int _=>true | .bl _,.str _=>true | .str _,.bl _=>true
 | _,_=>false
def rEq:R2:=λx y H Q=>Ams x y=true/\Q (.bl (decide (x=y))) H
def rNe:R2:=λx y H Q=>Ams x y=true/\Q (.bl (!decide (x=y))) H
theorem AdO{i j:Int}:decide (V.int i=V.int j)=(i == j):=by
 rw[AqN]
 simp
theorem Agl{i j:Bool}:decide (V.bl i=V.bl j)=(i == j):=by
 rw[AqN]
 simp
theorem Nq{i j:Str}:decide (V.str i=V.str j)=(i == j):=by
 rw[AqN]
 simp
theorem AdP{i j:Array UInt8}:decide (V.byt i=V.byt j)=(i.toList == j.toList):=by
 rw[AqN]
 cases i
 cases j
 simp
section
variable {X:Cx}{a b c:Expr}{ta tb tc:TE}{pos:Pos}
theorem Cd{pins:List (Addr × Obj)}{σ:St}{H:Hp}{s:Shared}{Q:VK}{k k':Bool}(I:Inv X pins σ H s)(q:Q (.bl k) H)(e:k=k'):EP X pins σ Q (.bool k') s:=by
 subst e
 exact⟨.bl k,H,I,rfl,q⟩
theorem Ca:OpR X (compareOp .Eq) rEq:=by
 intro pins s σ H x y v u Q I rx ry h
 obtain⟨hs,q⟩:=h
 cases x with
 | non =>
  cases rx
  cases y with
  | non=>cases ry;exact PySem.EqNone.eq_none_none (Cd I q (by simp))
  | bl j=>cases ry;exact PySem.EqNone.eq_none_bool (Cd I q (by simp))
  | int j=>obtain⟨t',rfl⟩:=ry;exact PySem.EqNone.eq_none_int (Cd I q (by simp))
  | str j=>obtain⟨t',rfl⟩:=ry;exact PySem.EqNone.eq_none_str (Cd I q (by simp))
  | _=>exact absurd (show false=true from hs) Aqe
 | bl i =>
  cases rx
  cases y with
  | non=>cases ry;exact PySem.EqNone.eq_bool_none (Cd I q (by simp))
  | bl j=>cases ry;exact eq_bool (Cd I q Agl)
  | str j=>obtain⟨t',rfl⟩:=ry;exact PySem.EqMixed.eq_bool_str (Cd I q (by simp))
  | _=>exact absurd (show false=true from hs) Aqe
 | int i =>
  obtain⟨t,rfl⟩:=rx
  cases y with
  | non=>cases ry;exact PySem.EqNone.eq_int_none (Cd I q (by simp))
  | int j=>obtain⟨t',rfl⟩:=ry;exact eq_int (Cd I q AdO)
  | str j=>obtain⟨t',rfl⟩:=ry;exact PySem.EqMixed.eq_int_str (Cd I q (by simp))
  | _=>exact absurd (show false=true from hs) Aqe
 | str i =>
  obtain⟨t,rfl⟩:=rx
  cases y with
  | non=>cases ry;exact PySem.EqNone.eq_str_none (Cd I q (by simp))
  | bl j=>cases ry;exact PySem.EqMixed.eq_str_bool (Cd I q (by simp))
  | int j=>obtain⟨t',rfl⟩:=ry;exact PySem.EqMixed.eq_str_int (Cd I q (by simp))
  | str j=>obtain⟨t',rfl⟩:=ry;exact eq_str (Cd I q Nq)
  | _=>exact absurd (show false=true from hs) Aqe
 | byt i =>
  obtain⟨t,rfl⟩:=rx
  cases y with
  | byt j=>obtain⟨t',rfl⟩:=ry;exact W.eq_bytes (Cd I q AdP)
  | _=>exact absurd (show false=true from hs) Aqe
 | _=>cases y <;> exact absurd (show false=true from hs) Aqe
theorem GR:OpR X (compareOp .NotEq) rNe:=by
 intro pins s σ H x y v u Q I rx ry h
 obtain⟨hs,q⟩:=h
 cases x with
 | non =>
  cases rx
  cases y with
  | non=>cases ry;exact PySem.EqNone.ne_none_none (Cd I q (by simp))
  | bl j=>cases ry;exact PySem.EqNone.ne_none_bool (Cd I q (by simp))
  | int j=>obtain⟨t',rfl⟩:=ry;exact PySem.EqNone.ne_none_int (Cd I q (by simp))
  | str j=>obtain⟨t',rfl⟩:=ry;exact PySem.EqNone.ne_none_str (Cd I q (by simp))
  | _=>exact absurd (show false=true from hs) Aqe
 | bl i =>
  cases rx
  cases y with
  | non=>cases ry;exact PySem.EqNone.ne_bool_none (Cd I q (by simp))
  | bl j=>cases ry;exact ne_bool (Cd I q (congrArg not Agl))
  | str j=>obtain⟨t',rfl⟩:=ry;exact PySem.EqMixed.ne_bool_str (Cd I q (by simp))
  | _=>exact absurd (show false=true from hs) Aqe
 | int i =>
  obtain⟨t,rfl⟩:=rx
  cases y with
  | non=>cases ry;exact PySem.EqNone.ne_int_none (Cd I q (by simp))
  | int j=>obtain⟨t',rfl⟩:=ry;exact ne_int (Cd I q (congrArg not AdO))
  | str j=>obtain⟨t',rfl⟩:=ry;exact PySem.EqMixed.ne_int_str (Cd I q (by simp))
  | _=>exact absurd (show false=true from hs) Aqe
 | str i =>
  obtain⟨t,rfl⟩:=rx
  cases y with
  | non=>cases ry;exact PySem.EqNone.ne_str_none (Cd I q (by simp))
  | bl j=>cases ry;exact PySem.EqMixed.ne_str_bool (Cd I q (by simp))
  | int j=>obtain⟨t',rfl⟩:=ry;exact PySem.EqMixed.ne_str_int (Cd I q (by simp))
  | str j=>obtain⟨t',rfl⟩:=ry;exact ne_str (Cd I q (congrArg not Nq))
  | _=>exact absurd (show false=true from hs) Aqe
 | byt i =>
  obtain⟨t,rfl⟩:=rx
  cases y with
  | byt j=>obtain⟨t',rfl⟩:=ry;exact W.ne_bytes (Cd I q (congrArg not AdP))
  | _=>exact absurd (show false=true from hs) Aqe
 | _=>cases y <;> exact absurd (show false=true from hs) Aqe
theorem K3:OpR X (compareOp .Lt) (rI0 λi j=>.bl (decide (i<j))):=Aiv λ_ _ _ _ _ _ _ q=>lt_int q
theorem Amt:OpR X (compareOp .LtE) (rI0 λi j=>.bl (decide (i<=j))):=Aiv λ_ _ _ _ _ _ _ q=>le_int q
theorem Jr:OpR X (compareOp .Gt) (rI0 λi j=>.bl (decide (j<i))):=Aiv λ_ _ _ _ _ _ _ q=>gt_int q
theorem AjJ:OpR X (compareOp .GtE) (rI0 λi j=>.bl (decide (j<=i))):=Aiv λ_ _ _ _ _ _ _ q=>ge_int q
theorem Nr:OpR X (compareOp .In) (λx y H Q=>∃ i j,x=.str i/\y=.str j/\Q (.bl (!(Builtin.Str.occurrences j i 0 j.length 1).isEmpty)) H):=by
 intro pins s σ H x y v u Q I rx ry h
 obtain⟨i,j,rfl,rfl,q⟩:=h
 obtain⟨t,rfl⟩:=rx
 obtain⟨t',rfl⟩:=ry
 exact in_str (Cd I q rfl)
theorem Agm:OpR X (compareOp .Is) (λx y H Q=>y=.non/\Q (.bl (decide (x=.non))) H):=by
 intro pins s σ H x y v u Q I rx ry h
 obtain⟨rfl,q⟩:=h
 cases ry
 refine is_none_gen (Cd I q ?_)
 cases x <;> first
  | (cases rx;rfl)
  | (obtain⟨t,rfl⟩:=rx;rfl)
theorem Aa6:OpR X (compareOp .NotIn) (λx y H Q=>∃ i j,x=.str i/\y=.str j/\Q (.bl (!(!(Builtin.Str.occurrences j i 0 j.length 1).isEmpty))) H):=by
 intro pins s σ H x y v u Q I rx ry h
 obtain⟨i,j,rfl,rfl,q⟩:=h
 obtain⟨t,rfl⟩:=rx
 obtain⟨t',rfl⟩:=ry
 exact notIn_str (Cd I q rfl)
def isObj:HO->Bool
 | .lst _=>true
 | .ins _ _ _=>true
 | _=>false
theorem Aw(b:Expr){op:CmpOp}(h:op≠.In:=by decide)(h2:op≠.NotIn:=by decide):behindInMarks op b=false:=by
 have e1:(op == CmpOp.In)=false:=by cases op <;> first | rfl | exact absurd rfl h
 have e2:(op == CmpOp.NotIn)=false:=by cases op <;> first | rfl | exact absurd rfl h2
 cases b <;> simp[behindInMarks,e1,e2]
theorem Dm{op:CmpOp}{r:R2}(ho:OpR X (compareOp op) r)(ha:PE X a ta)(hb:PE X b tb)(hm:behindInMarks op b=false):PE X (.Compare a [op] [b] pos) (tOp r ta tb):=by
 intro pins s σ H Q I h
 exact wpAny_Compare1 (Ak7 ha hb I h λv u s2 x y H2 I2 rx ry q=>ho pins s2 σ H2 x y v u Q I2 rx ry q) hm
def Amu (t:TE):TT:=λσ H Q=>t σ H λx H'=>∃ k,x=.bl k/\Q k H'
theorem Al{op:CmpOp}{r:R2}(ho:OpR X (compareOp op) r)(ha:PE X a ta)(hb:PE X b tb)(hm:behindInMarks op b=false):PT X (.Compare a [op] [b] pos) (Amu (tOp r ta tb)):=by
 intro pins s σ H Q I h
 refine wpAny_isTrue_Compare1 (thn (ha pins s σ H _ I h) λv s1 ⟨x,H1,I1,r1,q1⟩=>thn (hb pins s1 σ H1 _ I1 q1) λu s2 ⟨y,H2,I2,r2,q2⟩ =>
  thn (ho pins s2 σ H2 x y v u _ I2 r1 r2 q2) λc s3 ⟨z,H3,I3,r3,k,e,q3⟩=>?_) hm
 subst e
 cases r3
 exact yE ⟨H3,I3,q3⟩
def Aob (r r':R2)(ta tb tc:TE):TE:=λσ H Q=>ta σ H λx H1=>tb σ H1 λy H2=>r x y H2 λz H3=>∃ k,z=.bl k /\
 (if k=true then tc σ H3 λw' H4=>r' y w' H4 Q else Q (.bl false) H3)
def Ak9 (K:W.Frag)(x:V)(H:Hp)(k:Bool):Prop :=
 match x with
 | .non=>k=false
 | .bl b=>k=b
 | .int i=>k=(i != 0)
 | .str y=>y.length<=sizeLine/\k=((y.length:Int) != 0)
 | .byt y=>y.size<=sizeLine/\k=((y.size:Int) != 0)
 | .ref p=>(∃ xs,SqL K H p xs/\k=!xs.isEmpty)\/(∃ xs,SqT K H p xs/\k=!xs.isEmpty)\/∃ kvs,H p=some (.dK kvs)/\k=!kvs.isEmpty
 | _=>False
theorem AcU{κ:Type}{kvs:List (κ × V)}{vs:List (κ × Value)}(r:KV kvs vs):(!vs.isEmpty)=!kvs.isEmpty:=by
 cases r <;> rfl
theorem WM{xs:List V}{its:List Value}(r:Vals xs its):(!its.toArray.isEmpty)=!xs.isEmpty:=by
 cases r <;> simp
theorem Qd:(sizeLine:Nat)<2 ^ 63:=by rw[yA];decide
theorem AkA:AnZ X (λx H Q=>∃ k,Ak9 X.K x H k/\Q k H):=by
 intro pins s σ H x v Q I rx h
 obtain⟨k,e,q⟩:=h
 have hl:=Qd
 have hs:sizeLine=16777216:=yA
 cases x with
 | non =>
  cases rx
  have e':k=false:=e
  subst e'
  exact truthy_none ⟨H,I,q⟩
 | bl b =>
  cases rx
  have e':k=b:=e
  subst e'
  exact yE ⟨H,I,q⟩
 | int i =>
  obtain⟨t,rfl⟩:=rx
  have e':k=(i != 0):=e
  subst e'
  exact PySem.P.truthy_int ⟨H,I,q⟩
 | str y =>
  obtain⟨t,rfl⟩:=rx
  obtain⟨hy,e'⟩:y.length<=sizeLine/\k=((y.length:Int) != 0):=e
  subst e'
  exact PySem.P.truthy_str (by omega) ⟨H,I.tok _,q⟩
 | byt y =>
  obtain⟨t,rfl⟩:=rx
  obtain⟨hy,e'⟩:y.size<=sizeLine/\k=((y.size:Int) != 0):=e
  subst e'
  exact W.truthy_bytes (by omega) ⟨H,I.tok _,q⟩
 | ref p =>
  cases rx
  have e':(∃ xs,SqL X.K H p xs/\k=!xs.isEmpty)\/(∃ xs,SqT X.K H p xs/\k=!xs.isEmpty)\/∃ kvs,H p=some (.dK kvs)/\k=!kvs.isEmpty:=e
  rcases e' with ⟨xs,hx,e'⟩ | ⟨xs,hx,e'⟩ | ⟨kvs,hx,e'⟩
  ·subst e'
   obtain⟨its,r,pl,hz⟩:=I.list hx
   have hlen:=r.length
   exact wpAny_truthy_list pl.isList (by simp only [Aqh];omega) ⟨H,I.tok _,by rw[WM r];exact q⟩
  ·subst e'
   obtain⟨its,r,pl,hz⟩:=I.tuple hx
   have hlen:=r.length
   exact truthy_tuple pl (by simp only [Aqh];omega) ⟨H,I.tok _,by rw[WM r];exact q⟩
  ·subst e'
   obtain⟨hz,hS,vs,r,m⟩:kvs.length<=sizeLine/\(p == sysModules)=false/\∃ vs,KV kvs vs/\s.heap.DictOf (Aa2 X.prog X.w) p vs:=I.hok p _ hx
   have hlen:kvs.length=vs.length:=Paired.length r
   exact wpAny_truthy_dict hS m (by omega) ⟨H,I.tok _,by rw[AcU r];exact q⟩
 | _=>exact(show False from e).elim
theorem Agn(ha:PE X a ta)(he:∀ whole,isTrue a X.env whole=(do let v <- whole;standAt a.pos;holding [v] (truthy v))) :
  PT X a (λσ H Q=>ta σ H λx H'=>∃ k,Ak9 X.K x H' k/\Q k H'):=by
 intro pins s σ H Q I h
 exact isTrue_plain (thn (ha pins s σ H _ I h) λv s1 ⟨x,H1,I1,r1,q1⟩=>AkA pins s1 σ H1 x v Q I1 r1 q1) (he _)
theorem CW:OpR X (binaryOp .Add) (λx y H Q=>∃ i j,x=.str i/\y=.str j/\i.length+j.length<=sizeLine/\Q (.str (i++j)) H):=by
 intro pins s σ H x y v u Q I rx ry h
 obtain⟨i,j,rfl,rfl,hz,q⟩:=h
 obtain⟨t,rfl⟩:=rx
 obtain⟨t',rfl⟩:=ry
 exact add_str (λt' tk=>⟨.str (i++j),H,I.tok _,⟨_,rfl⟩,q⟩) hz
def Amv (b:Expr):Prop:=∀ o i,subscripted b false o i=operate [o,i] (getItem o i)
theorem vals1{x:V}{us:List Value}(r:Vals [x] us):∃ u,us=[u]/\RelV x u:=by
 cases r with
 | cons r1 r2=>cases r2;exact⟨_,rfl,r1⟩
theorem vals2{x y:V}{us:List Value}(r:Vals [x,y] us):∃ u w',us=[u,w']/\RelV x u/\RelV y w':=by
 cases r with
 | cons r1 r2 =>
  cases r2 with
  | cons r3 r4=>cases r4;exact⟨_,_,rfl,r1,r3⟩
theorem WN:Et X (.builtin "abs") (λxs H Q=>∃ i,xs=[.int i]/\Q (.int (if i<0 then -i else i)) H):=by
 intro pins s σ H xs us Q I r h
 obtain⟨i,rfl,q⟩:=h
 obtain⟨u,rfl,t,rfl⟩:=vals1 r
 exact call_abs_int λu tk=>⟨.int (if i<0 then -i else i),H,I.tok _,⟨_,rfl⟩,q⟩
theorem AeU(hc:X.calm=true):Et X (.builtin "max") (λxs H Q=>∃ i j,xs=[.int i,.int j]/\Q (.int (if j>i then j else i)) H):=by
 intro pins s σ H xs us Q I r h
 obtain⟨i,j,rfl,q⟩:=h
 obtain⟨u,w',rfl,⟨t,rfl⟩,⟨t',rfl⟩⟩:=vals2 r
 refine max_two_ints (I.ok.hd hc) λh' tk k=>⟨_,H,I.kept k,?_,q⟩
 by_cases hj:j>i
 ·rw[if_pos hj,if_pos hj];exact⟨_,rfl⟩
 ·rw[if_neg hj,if_neg hj];exact⟨_,rfl⟩
theorem Hd:Et X (.type "str") (λxs H Q=>∃ i,xs=[.int i]/\i.natAbs.log2<1920/\Q (.str (toString i)) H):=by
 intro pins s σ H xs us Q I r h
 obtain⟨i,rfl,hz,q⟩:=h
 obtain⟨u,rfl,t,rfl⟩:=vals1 r
 exact PySem.P.str_of_int hz ⟨.str _,H,I.tok _,⟨_,rfl⟩,q⟩
def Aps (K:W.Frag)(x:V)(H:Hp)(n:Nat):Prop :=
 match x with
 | .str y=>y.length<=sizeLine/\n=y.length
 | .byt y=>y.size<=sizeLine/\n=y.size
 | .ref p=>(∃ xs,SqL K H p xs/\n=xs.length)\/∃ xs,SqT K H p xs/\n=xs.length
 | _=>False
end
structure AcV (h:Heap) (x dx C:Addr) (mA:Str->Option Value):Prop where
 obj:h.get? x=some (W.instObj C dx)
 ns:h.Ns1 dx mA
 ne:dx≠x
theorem AeV{h:Heap}{dx:Addr}{mA:Str->Option Value}(n:h.Ns1 dx mA):∃ od,h.get? dx=some od/\∀ name,W.lookIn name od=some (mA name):=by
 obtain⟨o,es,ep,ho,hd,hk,_,hm⟩:=n
 refine⟨o,ho,λname=>?_⟩
 have e:=hm name
 unfold nsFind findBy at e
 rw[<- Array.find?_toList] at e
 unfold W.lookIn
 rw[hd]
 dsimp only
 split
 ·rename_i y q
  rw[q] at e
  exact congrArg some e
 ·rename_i q
  rw[q] at e
  have a:es.toList.any (·.refKey)=false:=by
   rw[List.any_eq_false]
   intro y hy
   obtain⟨z,t,hkey⟩:=hk y (Array.mem_toList_iff.mp hy)
   simp[DictEntry.refKey,hkey]
  have a':¬es.toList.any (·.refKey)=true:=by rw[a];exact Aqe
  rw[if_neg a']
  exact congrArg some e
theorem AcV.look{h:Heap}{x dx C:Addr}{mA:Str->Option Value}(I:AcV h x dx C mA):∃ od,W.InstAt h x (W.instObj C dx) C (some od)/\∀ name,W.lookIn name od=some (mA name) :=
 let ⟨od,ho,hl⟩:=AeV I.ns
 ⟨od,⟨I.obj,rfl,rfl,ho⟩,hl⟩
section
variable {prog:Program}{w:World}{A:Around}{E:Value->Shared->Prop}{s:Shared}{K:W.Frag}{x dx C f:Addr}{mA:Str->Option Value}{name:Str}{v:Value}
theorem get_map{expr:Bool}{Q:Value->Shared->Prop}(X:K.In s.heap)(I:AcV s.heap x dx C mA)(hg:W.plainGet K C name=true)(hh:W.hasDictIn K C=true)
  (ha:W.findIn K (.ref C) name=some none) (hv:mA name=some v) (hv':W.handedIn v=true) (h:Q v { s with toks:=s.toks+1 }) :
  wpAny (model prog w) A (getAttr (.ref x) name expr) Q E s:=by
 obtain⟨od,J,hl⟩:=I.look
 exact W.get_value X J (W.plainGet_of hg).1 (W.findObj_own hh ha rfl (by rw[hl,hv])) hv' h
theorem Ago{pl:Sem Bool}{Q:Value × List Value->Shared->Prop}(X:K.In s.heap)(I:AcV s.heap x dx C mA)(hg:W.plainGet K C name=true)
  (hf:W.findIn K (.ref C) name=some (some (.ref f))) (ht:W.isFn K (.ref f)=true) (hv:mA name=none) (h:Q (.ref f,[.ref x]) s) :
  wpAny (model prog w) A (getMethod (.ref x) name pl) Q E s:=by
 obtain⟨od,J,hl⟩:=I.look
 exact W.method_fn X J (W.plainGet_of hg).1 (W.plainGet_of hg).2 hf (beq_iff_eq.mp ht) (by show(W.lookIn name od).map (·.isSome)=some false;rw[hl,hv];rfl) h
theorem Aix{ns:List Str}{Q:Unit->Shared->Prop}(X:K.In s.heap)(I:AcV s.heap x dx C mA)
  (hs:W.findIn K (.ref C) "__setattr__" = some (some (.builtin "object.__setattr__"))) (hp:W.plainOver K C=true) (ht:W.takerIn K C name=some none) (hh:W.hasDictIn K C=true)
  (hw:PySem.Within mA ns) (hsz:ns.length<=sizeLine)
  (h:∀ h',AcV h' x dx C (λy=>if y=name then some v else mA y)->Heap.SameBut dx s.heap h'->Q () { s with heap:=h',toks:=s.toks+2 }) :
  wpAny (model prog w) A (setAttr (.ref x) name v) Q E s:=by
 obtain⟨od,J,hl⟩:=I.look
 refine W.set_plain X J hs (W.osa_open (s:={ s with toks:=s.toks+1 }) (r:=none) X J hp ht λb=>?_)
 obtain⟨cd,hc,hd'⟩:=W.any_some hh
 have hx:s.heap.get? x=some ⟨.ref C,some dx,.plain,#[]⟩:=I.obj
 refine zA (zE (zA (zA (wpAny_loadPart hx (zA (W.Looks.here (s:={ s with toks:=s.toks+1 }) (W.looks_clsIn X hc) ?_))))))
 rw[hd']
 refine zE (a:=some dx) (zA (zE (zA ?_)))
 refine wpAny_nsSet1 (s:={ s with toks:=s.toks+1 }) I.ns λh' hn2 hs2=>?_
 obtain⟨oD,esD,epD,hoD,hdD,hcD⟩:=hn2.count (PySem.Within.cons name v hw)
 refine zA (wpAny_lookBehind hoD (by rw[hdD];exact pastItsLine_dict (Aqn hcD (by rw[ApU];omega))) ?_)
 exact zE (h _ ⟨(hs2.2 _ (Ne.symm I.ne)).trans I.obj,hn2,I.ne⟩ hs2)
theorem Agp{R:Result->Shared->Prop}{vs:List Value}{kw:List (Str × Value)}(X:K.In s.heap)(hm:W.makesIn K C=true)
  (hi:W.findIn K (.ref C) "__init__" = some (some (.ref f))) (hf:W.typeIn K (.ref f)=some (.type "function"))
  (h:codeAny (model prog w) (A.under (.builtin "type.__call__" ⟨.ref C::vs,kw⟩)) (.call (.ref f) ⟨.ref (s.heap.objs.size+1)::vs,kw⟩) (W.InitBack (s.heap.objs.size+1) R)
   { s with heap:=(s.heap.push W.emptyDict).push (W.instObj C s.heap.objs.size) }) :
  codeAny (model prog w) A (.call (.ref C) ⟨vs,kw⟩) R s:=by
 obtain⟨hh,g,d,t,os⟩:=s
 exact W.make_core (W.makes_of X hm) (W.looks_findIn X hi) (λself=>W.bind_fn X self hf) (.inl rfl) h
end
def Jd (f:Str)(v:V):List (Str × V)->List (Str × V)
 | []=>[(f,v)]
 | (g,x)::r=>if g=f then (g,v)::r else (g,x)::Jd f v r
theorem Uw(f g:Str)(v:V):∀ fs:List (Str × V),(Jd f v fs).lookup g=if g=f then some v else fs.lookup g
 | []=>by
  show List.lookup g [(f,v)]=_
  by_cases h:g=f
  ·have hb:(g == f)=true:=beq_iff_eq.mpr h
   simp only [List.lookup,hb,if_pos h]
  ·have hb:(g == f)=false:=z5.mpr h
   simp only [List.lookup,hb,if_neg h]
 | (k,x)::r=>by
  have ih:=Uw f g v r
  rw[show Jd f v ((k,x)::r)=(if k=f then (k,v)::r else (k,x)::Jd f v r) from rfl]
  by_cases hk:k=f
  ·rw[if_pos hk]
   by_cases h:g=k
   ·have hb:(g == k)=true:=beq_iff_eq.mpr h
    simp only [List.lookup,hb,if_pos (h.trans hk)]
   ·have hb:(g == k)=false:=z5.mpr h
    simp only [List.lookup,hb,if_neg (λe:g=f=>h (e.trans hk.symm))]
  ·rw[if_neg hk]
   by_cases h:g=k
   ·have hb:(g == k)=true:=beq_iff_eq.mpr h
    simp only [List.lookup,hb,if_neg (λe:g=f=>hk (h.symm.trans e))]
   ·have hb:(g == k)=false:=z5.mpr h
    simp only [List.lookup,hb]
    exact ih
theorem Tq(f:Str)(v:V):∀ fs:List (Str × V),f∈(Jd f v fs).map (·.1)/\∀ g,g∈fs.map (·.1)->g∈(Jd f v fs).map (·.1)
 | []=>⟨by simp[Jd],λg h=>by simp at h⟩
 | (k,x)::r=>by
  obtain⟨i1,i2⟩:=Tq f v r
  rw[show Jd f v ((k,x)::r)=(if k=f then (k,v)::r else (k,x)::Jd f v r) from rfl]
  by_cases hk:k=f
  ·rw[if_pos hk]
   subst hk
   exact⟨by simp,λg h=>by simpa using h⟩
  ·rw[if_neg hk]
   refine⟨?_,λg h=>?_⟩
   ·rw[ApT]
    exact ApW _ i1
   ·rw[ApT] at h ⊢
    rcases yH.mp h with e | e
    ·exact yH.mpr (.inl e)
    ·exact ApW _ (i2 g e)
theorem Ux(f:Str)(v:V):∀ fs:List (Str × V),(Jd f v fs).length<=fs.length+1
 | []=>by simp[Jd]
 | (k,x)::r=>by
  have ih:=Ux f v r
  rw[show Jd f v ((k,x)::r)=(if k=f then (k,v)::r else (k,x)::Jd f v r) from rfl]
  by_cases hk:k=f
  ·rw[if_pos hk,ApU,ApU];omega
  ·rw[if_neg hk,ApU,ApU];omega
theorem YZ.some_of{v:V}{o:Option Value}(r:YZ (some v) o):∃ u,o=some u/\RelV v u:=by
 cases o with
 | none=>exact(show False from r).elim
 | some u=>exact⟨u,rfl,r⟩
theorem YZ.none_of{o:Option Value}(r:YZ none o):o=none:=by
 cases o with
 | none=>rfl
 | some u=>exact(show False from r).elim
theorem AeW{v:V}{u:Value}(r:RelV v u):W.handedIn u=true:=by
 cases v with
 | non=>cases (show u=Value.none from r);rfl
 | bl b=>cases (show u=Value.bool b from r);rfl
 | int i=>obtain⟨t,e⟩:=(show ∃ t,u=Value.int i t from r);cases e;rfl
 | str x=>obtain⟨t,e⟩:=(show ∃ t,u=Value.str x t from r);cases e;rfl
 | byt b=>obtain⟨t,e⟩:=(show ∃ t,u=Value.bytes b t from r);cases e;rfl
 | flt b=>obtain⟨t,e⟩:=(show ∃ t,u=Value.float b t from r);cases e;rfl
 | ref a=>cases (show u=Value.ref a from r);rfl
 | ty n=>cases (show u=Value.type n from r);rfl
section
variable {P:Program}{w:World}{H H':Hp}{h h':Heap}{a C dx:Addr}{fs fs':List (Str × V)}
theorem Wn(hok:HOk P w H h)(e:H a=some (.ins C dx fs)):∃ mA,AcV h a dx C mA/\(∀ f,YZ (fs.lookup f) (mA f))/\PySem.Within mA (fs.map (·.1))/\fs.length<=1000/\H dx=some (.own a):=by
 obtain⟨d,z,ne,ob,mA,n,r,q⟩:=(show Es P w H h a (.ins C dx fs) from hok a _ e)
 exact⟨mA,⟨ob,n,ne⟩,r,q,z,d⟩
end
structure Cls (K:W.Frag) (C:Addr):Prop where
 pg:W.plainGet K C Str.empty=true
 hd:W.hasDictIn K C=true
 po:W.plainOver K C=true
 sa:W.findIn K (.ref C) "__setattr__" = some (some (.builtin "object.__setattr__"))
theorem Cls.get{K:W.Frag}{C:Addr}(c:Cls K C)(f:Str):W.plainGet K C f=true:=c.pg
def Cy (K:W.Frag)(C:Addr)(f:Str):Prop:=W.findIn K (.ref C) f=some none
theorem Cy.taker{K:W.Frag}{C:Addr}{f:Str}(n:Cy K C f):W.takerIn K C f=some none:=by
 unfold W.takerIn
 rw[show W.findIn K (.ref C) f=some none from n]
 rfl
structure Con (K:W.Frag) (C:Addr) (f:Str) (v:V) (u:Value):Prop where
 at_:W.findIn K (.ref C) f=some (some u)
 rel:RelV v u
 get:W.specialIn K u "__get__" = some none
 cp:W.copiedNames.contains f=false
structure Meth (K:W.Frag) (C:Addr) (m:Str) (f:Addr):Prop where
 at_:W.findIn K (.ref C) m=some (some (.ref f))
 fn:W.isFn K (.ref f)=true
 kp:W.keepIn K (.ref f)=true
section
variable {X:Cx}{pins:List (Addr × Obj)}{σ:St}{H:Hp}{s:Shared}{a C dx:Addr}{fs:List (Str × V)}{f:Str}{v:V}{A:Around}{E:Value->Shared->Prop}
theorem WQ{b:Bool}{Q:Value->Shared->Prop}(I:Inv X pins σ H s)(e:H a=some (.ins C dx fs))(c:Cls X.K C)(n:Cy X.K C f)(l:fs.lookup f=some v)
  (h:∀ u s',Inv X pins σ H s'->RelV v u->Q u s'):wpAny (model X.prog X.w) A (getAttr (.ref a) f b) Q E s:=by
 obtain⟨mA,O,r,_,_,_⟩:=Wn I.hok e
 obtain⟨u,hu,ru⟩:=YZ.some_of (v:=v) (o:=mA f) (by rw[<- l];exact r f)
 exact get_map I.kIn O (c.get f) c.hd n hu (AeW ru) (h u _ (I.tok _) ru)
theorem Qe{m:Str}{g:Addr}{pl:Sem Bool}{Q:Value × List Value->Shared->Prop}(I:Inv X pins σ H s)(e:H a=some (.ins C dx fs))(c:Cls X.K C)(k:Meth X.K C m g)(l:fs.lookup m=none)
  (h:Q (.ref g,[.ref a]) s):wpAny (model X.prog X.w) A (getMethod (.ref a) m pl) Q E s:=by
 obtain⟨mA,O,r,_,_,_⟩:=Wn I.hok e
 have hn:mA m=none:=YZ.none_of (by rw[<- l];exact r m)
 exact Ago I.kIn O (c.get m) k.at_ k.fn hn h
theorem WR{y:V}{u:Value}{Q:Unit->Shared->Prop}(I:Inv X pins σ H s)(e:H a=some (.ins C dx fs))(c:Cls X.K C)(n:Cy X.K C f)(hl:fs.length<1000)(ry:RelV y u)
  (h:∀ s',Inv X pins σ (upd H a (.ins C dx (Jd f y fs))) s'->Q () s'):wpAny (model X.prog X.w) A (setAttr (.ref a) f u) Q E s:=by
 obtain⟨mA,O,r,wi,_,ho⟩:=Wn I.hok e
 have hz:(fs.map (·.1)).length<=sizeLine:=by rw[ApO,yA];omega
 refine Aix I.kIn O c.sa c.po n.taker c.hd wi hz λh' O' sb=>h _ ?_
 have hd:∃ o,h'.get? dx=some o:=let ⟨o,_,_,e',_⟩:=O'.ns;⟨o,e'⟩
 refine I.write (x:=a) (e:=dx) (by rw[e];exact True.intro) (.inr ho) (λb q hb z=>(sb.2 b hb).trans z) hd ?_
 refine⟨by rw[Ah O.ne];exact ho,?_,O.ne,O'.obj,_,O'.ns,λg=>?_,λg hg=>?_⟩
 ·have:=Ux f y fs;omega
 ·show YZ ((Jd f y fs).lookup g) (if g=f then some u else mA g)
  rw[Uw]
  by_cases q:g=f
  ·rw[if_pos q,if_pos q];exact ry
  ·rw[if_neg q,if_neg q];exact r g
 ·by_cases q:g=f
  ·rw[q];exact(Tq f y fs).1
  ·refine(Tq f y fs).2 g (wi g λz=>hg ?_)
   show(if g=f then some u else mA g)=none
   rw[if_neg q];exact z
theorem Inv.made(I:Inv X pins σ H s):Inv X pins σ (upd (upd H s.heap.objs.size (.own (s.heap.objs.size+1))) (s.heap.objs.size+1) (.ins C s.heap.objs.size []))
  { s with heap:=(s.heap.push W.emptyDict).push (W.instObj C s.heap.objs.size) }:=by
 have e1:(s.heap.push W.emptyDict).get? s.heap.objs.size=some W.emptyDict:=zD s.heap rfl
 have e2:((s.heap.push W.emptyDict).push (W.instObj C s.heap.objs.size)).get? (s.heap.objs.size+1)=some (W.instObj C s.heap.objs.size):=by
  have:=zD (s.heap.push W.emptyDict) (o:=W.instObj C s.heap.objs.size) rfl
  rwa [Heap.size_push] at this
 have e3:(s.heap.push W.emptyDict).Ns s.heap.objs.size (λ_=>none):=⟨W.emptyDict,#[],_,e1,rfl,(λe he=>absurd he (by simp)),λ_=>rfl⟩
 have I1:=I.laid (a:=s.heap.objs.size) (o:=.own (s.heap.objs.size+1)) (h':=s.heap.push W.emptyDict) (t':=s.toks) (λb u q=>zB _ q) (ApR _) ⟨_,e1⟩
 refine I1.laid (a:=s.heap.objs.size+1) (o:=.ins C s.heap.objs.size []) (t':=s.toks) (λb u q=>zB _ q) (AqH (Heap.size_push _ _)) ?_
 have ne:s.heap.objs.size≠s.heap.objs.size+1:=ApZ (Aq8 _)
 refine⟨by rw[Ah ne,Ae],Aqb _,ne,e2,λ_=>none,(Heap.Ns1.of_empty e3).at λo q=>zB _ q,λ_=>True.intro,λy hy=>absurd rfl hy⟩
theorem Aiy{prog:Program}{w:World}{env:Env}{e:Expr}{f:Str}{pos:Pos}{s:Shared}{Q:Value->Shared->Prop}(hb:attributeBase e f env (eval e env)=eval e env)
  (h:wpAny (model prog w) A (eval e env) (λo s₁=>wpAny (model prog w) A (getAttr o f true) Q E s₁) E s):wpAny (model prog w) A (eval (.Attribute e f pos) env) Q E s :=
 Attribute_any_ h (by rw[arm_eval_Attribute,hb])
end
def Amw (K:W.Frag)(ta:TE)(f:Str):TE:=λσ H Q=>ta σ H λx H1=>∃ a C dx fs v,x=.ref a/\H1 a=some (.ins C dx fs)/\Cls K C/\Cy K C f/\fs.lookup f=some v/\Q v H1
def Apt (K:W.Frag)(ta:TE)(f:Str):TE:=λσ H Q=>ta σ H λx H1=>∃ a C dx fs v u,x=.ref a/\H1 a=some (.ins C dx fs)/\Cls K C/\Con K C f v u/\fs.lookup f=none/\Q v H1
def Amx (K:W.Frag)(ta tv:TE)(f:Str):TS:=λD σ H=>tv σ H λy H1=>ta σ H1 λx H2=>∃ a C dx fs,x=.ref a/\H2 a=some (.ins C dx fs)/\Cls K C/\Cy K C f/\fs.length<1000 /\
 D.nx σ (upd H2 a (.ins C dx (Jd f y fs)))
def AkB (X:Cx)(op:Operator)(rd:V->V->Hp->VK->Prop):Prop :=
 ∀(pins:List (Addr × Obj)) (s:Shared) (σ:St) (H:Hp) (x y:V) (u v:Value) (Q:VK),Inv X pins σ H s->RelV x u->RelV y v->rd x y H Q->wpAny (model X.prog X.w) X.A (inplaceOp op u v) (EP X pins σ Q) X.xe s
def AdQ (K:W.Frag)(ta tv:TE)(rd:V->V->Hp->VK->Prop)(f:Str):TS:=λD σ H=>ta σ H λx H1=>∃ a C dx fs v,x=.ref a/\H1 a=some (.ins C dx fs)/\Cls K C/\Cy K C f/\fs.lookup f=some v /\
 tv σ H1 λy H2=>rd v y H2 λz H3=>∃ dx' fs',H3 a=some (.ins C dx' fs')/\fs'.length<1000/\D.nx σ (upd H3 a (.ins C dx' (Jd f z fs')))
section
variable {X:Cx}{o e value:Expr}{f:Str}{pos pos' tpos:Pos}{ta tv:TE}
theorem AkC(he:PE X e ta)(hb:attributeBase e f X.env (eval e X.env)=eval e X.env):PE X (.Attribute e f pos) (Amw X.K ta f):=by
 intro pins s σ H Q I h
 refine Aiy hb (thn (he pins s σ H _ I h) λu s1 ⟨x,H1,I1,rx,a,C,dx,fs,v,ex,ea,c,n,l,q⟩=>?_)
 subst ex
 obtain rfl:u=Value.ref a:=rx
 exact WQ I1 ea c n l λu' s2 I2 ru=>⟨v,H1,I2,ru,q⟩
theorem AkD(ha:PE X o ta)(hv:PE X value tv)(hs:swapsWith value (some (.Attribute o f pos')) pos.line X.env=pure false):PS X (.Assign [.Attribute o f pos'] value pos) (Amx X.K ta tv f):=by
 intro pins s σ H D I h
 refine plainObj_wpAny_Assign_Attribute (thn (hv pins s σ H _ I h) λu s1 ⟨y,H1,I1,ry,q⟩=>thn (ha pins s1 σ H1 _ I1 q) λov s2 ⟨x,H2,I2,rx,a,C,dx,fs,ex,ea,c,n,l,q2⟩=>?_) hs
 subst ex
 obtain rfl:ov=Value.ref a:=rx
 exact WR I2 ea c n l ry λs3 I3=>⟨σ,_,I3,q2⟩
theorem AeX{op:Operator}{rd:V->V->Hp->VK->Prop}(ha:PE X o ta)(hv:PE X value tv)(hop:AkB X op rd):PS X (.AugAssign (.Attribute o f tpos) op value pos) (AdQ X.K ta tv rd f):=by
 intro pins s σ H D I h
 refine wpAny_AugAssign_AttributeAny (thn (ha pins s σ H _ I h) λov s1 ⟨x,H1,I1,rx,a,C,dx,fs,v,ex,ea,c,n,l,q⟩=>?_)
 subst ex
 obtain rfl:ov=Value.ref a:=rx
 refine WQ I1 ea c n l λu s2 I2 ru=>thn (hv pins s2 σ H1 _ I2 q) λw3 s3 ⟨y,H2,I3,ry,q3⟩=>thn (hop pins s3 σ H2 v y u w3 _ I3 ru ry q3) λw4 s4 ⟨z,H3,I4,rz,dx',fs',ea',l',q4⟩=>?_
 exact WR I4 ea' c n l' rz λs5 I5=>⟨σ,_,I5,q4⟩
def Aoc:V->V->Hp->VK->Prop:=λx y H Q=>∃ i j,x=.int i/\y=.int j/\Q (.int (i+j)) H
def Apu:V->V->Hp->VK->Prop:=λx y H Q=>∃ i j,x=.int i/\y=.int j/\Q (.int (i-j)) H
theorem AkE:AkB X .Add Aoc:=by
 rintro pins s σ H x y u v Q I rx ry ⟨i,j,rfl,rfl,q⟩
 obtain⟨t,rfl⟩:=(show ∃ t,u=Value.int i t from rx)
 obtain⟨t',rfl⟩:=(show ∃ t',v=Value.int j t' from ry)
 exact PyProof.Rows.iadd_int ⟨.int (i+j),H,I.tok _,⟨_,rfl⟩,q⟩
end
section
variable {X:Cx}{pins:List (Addr × Obj)}{σ:St}{H:Hp}{s:Shared}{A:Around}{E:Value->Shared->Prop}{Q:Value->Shared->Prop}{c:Value}{b:Bool}
inductive Tr (K:W.Frag) (H:Hp):V->Value->Prop where
 | non:Tr K H .non (.type "NoneType")
 | bl (x:Bool):Tr K H (.bl x) (.type "bool")
 | int (i:Int):Tr K H (.int i) (.type "int")
 | str (x:Str):Tr K H (.str x) (.type "str")
 | flt (x:UInt64):Tr K H (.flt x) (.type "float")
 | lst {a:Addr} {xs:List V} (e:H a=some (.lst xs)):Tr K H (.ref a) (.type "list")
 | frz {a:Addr} {o:Obj} {xs:List V} (e:H a=some (.frz o (.lst xs))):Tr K H (.ref a) (.type "list")
 | tup {a:Addr} {xs:List V} (e:H a=some (.tup xs)):Tr K H (.ref a) (.type "tuple")
 | dK {a:Addr} {kvs:List (Key × V)} (e:H a=some (.dK kvs)):Tr K H (.ref a) (.type "dict")
 | dT {a:Addr} {kvs:List (List Key × V)} (e:H a=some (.dT kvs)):Tr K H (.ref a) (.type "dict")
 | ins {a C dx:Addr} {fs:List (Str × V)} (e:H a=some (.ins C dx fs)) (cl:Cls K C) (ha:W.findIn K (.ref C) "__class__" = some (some (.builtin "object.__class__")))
   (hn:W.specialIn K (.builtin "object.__class__") "__get__" = some (some (.builtin "getset_descriptor.__get__"))) (htk:W.takesIn K (.builtin "object.__class__")=some true)
   (hm:W.mroIn K C (.type "object")=some true):Tr K H (.ref a) (.ref C)
theorem Z1{x:V}{u t:Value}(I:Inv X pins σ H s)(rx:RelV x u)(ty:Tr X.K H x t)(e:W.kitOne X.K t c=some b)(h:∀ tk,Q (.bool b) { s with toks:=tk }) :
  wpAny (model X.prog X.w) A (call (.builtin "isinstance") [u,c]) Q E s:=by
 cases ty with
 | non=>cases (show u=Value.none from rx);exact W.kia_one W.kitx_none I.kIn True.intro e (λz=>nomatch z) h
 | bl y=>cases (show u=Value.bool y from rx);exact W.kia_one W.kitx_bool I.kIn True.intro e (λz=>nomatch z) h
 | int i=>obtain⟨t,q⟩:=(show ∃ t,u=Value.int i t from rx);cases q;exact W.kia_one W.kitx_int I.kIn True.intro e (λz=>nomatch z) h
 | str y=>obtain⟨t,q⟩:=(show ∃ t,u=Value.str y t from rx);cases q;exact W.kia_one W.kitx_str I.kIn True.intro e (λz=>nomatch z) h
 | flt y=>obtain⟨t,q⟩:=(show ∃ t,u=Value.float y t from rx);cases q;exact W.kia_one W.kitx_float I.kIn True.intro e (λz=>nomatch z) h
 | @lst a xs ea =>
  cases (show u=Value.ref a from rx)
  obtain⟨_,_,n,_,h1⟩:=(show Es X.prog X.w H s.heap a (.lst xs) from I.hok a _ ea)
  exact W.kia_one W.kitx_list I.kIn ⟨_,h1,rfl⟩ e (λz=>nomatch z) h
 | @frz a ob xs ea =>
  cases (show u=Value.ref a from rx)
  obtain⟨_,_,_,n,_,h1⟩:=(show Es X.prog X.w H s.heap a (.frz ob (.lst xs)) from I.hok a _ ea)
  exact W.kia_one W.kitx_list I.kIn ⟨_,h1,rfl⟩ e (λz=>nomatch z) h
 | @tup a xs ea =>
  cases (show u=Value.ref a from rx)
  obtain⟨_,_,_,p⟩:=(show Es X.prog X.w H s.heap a (.tup xs) from I.hok a _ ea)
  obtain⟨o,h1,h2,_⟩:=p
  exact W.kia_one W.kitx_tuple I.kIn ⟨o,h1,h2⟩ e (λz=>nomatch z) h
 | @dK a kvs ea =>
  cases (show u=Value.ref a from rx)
  obtain⟨_,_,vs,_,p⟩:=(show Es X.prog X.w H s.heap a (.dK kvs) from I.hok a _ ea)
  obtain⟨o,es,ep,h1,h2,_⟩:=p
  exact W.kia_one W.kitx_dict I.kIn ⟨o,h1,h2.1⟩ e (λz=>nomatch z) h
 | @dT a kvs ea =>
  cases (show u=Value.ref a from rx)
  obtain⟨_,_,xs,_,o,es,ep,h1,h2,_⟩:=(show Es X.prog X.w H s.heap a (.dT kvs) from I.hok a _ ea)
  exact W.kia_one W.kitx_dict I.kIn ⟨o,h1,h2.1⟩ e (λz=>nomatch z) h
 | @ins a C dx fs ea cl ha hn htk hm =>
  cases (show u=Value.ref a from rx)
  obtain⟨mA,O,_⟩:=Wn I.hok ea
  obtain⟨od,J,_⟩:=O.look
  exact W.kia_one (W.kitx_own (cl.get _) cl.hd ha hn htk hm) I.kIn J e (λz=>nomatch z) h
end
structure Gp (k:Nat) (A:Around):Prop where
 hd:A.handled=none
 dp:A.depth+3*k+5<recursionLimit
 un:A.units+16*k+200<cLine
theorem Gp.mono{j k:Nat}{A:Around}(r:Gp k A)(h:j<=k):Gp j A:=⟨r.hd,by have:=r.dp;omega,by have:=r.un;omega⟩
theorem Gp.deeper{k:Nat}{A:Around}(r:Gp (k+1) A)(env:Env):Gp k (A.deeper env) :=
 ⟨r.hd,by have:=r.dp;show A.depth+1+3*k+5<_;omega,by have:=r.un;show A.units+3+16*k+200<_;omega⟩
theorem AcW{A:Around}{C:Addr}{us:List Value}{kw:List (Str × Value)}:(A.under (.builtin "type.__call__" ⟨.ref C::us,kw⟩)).depth=A.depth+1:=by
 first | rfl | simp[Around.under,Code.weight,Code.isCreation,Code.isGuard,Code.isCaller,Code.frames,Code.isFrame,guardIds]
theorem AcX{A:Around}{C:Addr}{us:List Value}{kw:List (Str × Value)}:(A.under (.builtin "type.__call__" ⟨.ref C::us,kw⟩)).units=A.units+1:=by
 first | rfl | simp[Around.under,Code.cUnits,Code.frames,Code.isFrame]
theorem Gp.make{k:Nat}{A:Around}(r:Gp (k+1) A)(C:Addr)(us:List Value)(kw:List (Str × Value)):Gp k (A.under (.builtin "type.__call__" ⟨.ref C::us,kw⟩)) :=
 ⟨r.hd,by have:=r.dp;rw[AcW];omega,by have:=r.un;rw[AcX];omega⟩
theorem Gp.depth{k:Nat}{A:Around}(r:Gp k A):A.depth<recursionLimit:=by have:=r.dp;omega
def Amy:TA:=λ_ H Q=>Q [] H
def Amz (ta:TE)(tr:TA):TA:=λσ H Q=>ta σ H λx H1=>tr σ H1 λxs H2=>Q (x::xs) H2
section
variable {X:Cx}{e:Expr}{es:List Expr}{te:TE}{t:TA}{pos:Pos}
theorem Ab:PA X [] Amy:=λ_ _ _ _ H Q I h=>Calls.spliced_nil ⟨[],H,I,.nil,h⟩
theorem Aa(ha:PE X e te)(hr:PA X es t)(hs:starEach (e::es) X.env=(false,eval e X.env)::starEach es X.env:=by rfl):PA X (e::es) (Amz te t):=by
 intro pos pins s σ H Q I h
 rw[hs]
 show wpAny _ _ (spliced ((false,eval e X.env)::backTo pos (starEach es X.env))) _ _ s
 refine Calls.spliced_cons (thn (ha pins s σ H _ I h) λu s1 ⟨x,H1,I1,r1,q1⟩=>?_)
 exact thn (hr pos pins s1 σ H1 _ I1 q1) λus s2 ⟨xs,H2,I2,r2,q2⟩=>⟨x::xs,H2,I2,.cons r1 r2,q2⟩
def Aod (t:TA):TE:=λσ H Q=>t σ H λxs H1=>xs.length<=sizeLine/\∀ p,H1 p=none->Q (.ref p) (upd H1 p (.tup xs))
def Aoe (t:TA):TE:=λσ H Q=>t σ H λxs H1=>xs.length<=sizeLine/\∀ p,H1 p=none->Q (.ref p) (upd H1 p (.lst xs))
theorem Je{x1}(h:PA X es t):PE X (.Tuple es x1 pos) (Aod t):=by
 intro pins s σ H Q I hq
 refine wpAny_Tuple_spliced (thn (h pos pins s σ H _ I hq) λus s1 ⟨xs,H1,I1,r,z,q⟩=>⟨by rw[<- r.length];exact z,?_⟩)
 have hf:H1 s1.heap.objs.size=none:=I1.hok.fresh (ApR _)
 refine⟨.ref s1.heap.objs.size,upd H1 s1.heap.objs.size (.tup xs),I1.laid (t':=s1.toks) (λb u e=>zB _ e) (ApR _) ?_,rfl,q _ hf⟩
 exact⟨z,us,r,⟨_,zD _ rfl,rfl,_,rfl⟩⟩
theorem CJ(h:PA X es t):PE X (.List es pos) (Aoe t):=by
 intro pins s σ H Q I hq
 refine wpAny_List_spliced (thn (h pos pins s σ H _ I hq) λus s1 ⟨xs,H1,I1,r,z,q⟩=>⟨by rw[<- r.length];exact z,?_⟩)
 have hf:H1 s1.heap.objs.size=none:=I1.hok.fresh (ApR _)
 refine⟨.ref s1.heap.objs.size,upd H1 s1.heap.objs.size (.lst xs),I1.laid (t':=s1.toks) (λb u e=>zB _ e) (ApR _) ?_,rfl,q _ hf⟩
 exact⟨z,us,0,r,zD _ rfl⟩
end
abbrev Sp:=List V->Hp->VK->XK->Prop
abbrev CXT:=List Env->Hp->Shared->XK->Value->Shared->Prop
structure AcY (P:Program) (w:World) (K:W.Frag) (mg:Str->Option Value) (base:Heap) (A:Around) (outer:List Env) (s:Shared) (H:Hp):Prop where
 frames:A.frames=some outer
 mod:Mod K mg base
 bs:∀ b o,base.get? b=some o->s.heap.get? b=some o/\H b=none
 bsz:base.objs.size<=s.heap.objs.size
 Qa:s.heap.FunFrames base outer
 frf:∀ b∈frs outer,H b=none
 hok:HOk P w H s.heap
 bare:AllBare s.gens
def CE (outer:List Env)(P:Program)(w:World)(H:Hp)(s:Shared)(Q:VK)(u:Value)(s':Shared):Prop :=
 ∃ v H',s'.os=s.os/\AllBare s'.gens/\Un (frs outer) [] H H' s.heap s'.heap/\HOk P w H' s'.heap/\RelV v u/\Q v H'
def CR (CX:CXT)(outer:List Env)(P:Program)(w:World)(H:Hp)(s:Shared)(Q:VK)(E:XK)(r:Result)(s':Shared):Prop :=
 match r with
 | .ok (.ret u)=>CE outer P w H s Q u s'
 | .ok _=>False
 | .error e=>CX outer H s E e s'
structure Bd (P:Program) (w:World) (K:W.Frag) (mg:Str->Option Value) (base:Heap) (CX:CXT) (k:Nat) (f:Addr) (fd:FuncData) (ps:List Str) (sp:Sp):Prop where
 len:∀ vs H Q E,sp vs H Q E->vs.length=ps.length
 run:∀(A:Around) (outer:List Env) (s:Shared) (H:Hp) (args:Args) (us:List Value) (vs:List V) (Q:VK) (E:XK),Gp k A->AcY P w K mg base A outer s H->BindsTo s fd args (ps.zip us)->Vals vs us->sp vs H Q E ->
  codeAny (model P w) A (.call (.ref f) args) (CR CX outer P w H s Q E) s
theorem Bd.mono{P:Program}{w:World}{K:W.Frag}{mg:Str->Option Value}{base:Heap}{CX:CXT}{j k:Nat}{f:Addr}{fd:FuncData}{ps:List Str}{sp:Sp}(F:Bd P w K mg base CX j f fd ps sp)(h:j<=k) :
  Bd P w K mg base CX k f fd ps sp:=⟨F.len,λA outer s H args us vs Q E hr=>F.run A outer s H args us vs Q E (hr.mono h)⟩
theorem Bd.imp{P:Program}{w:World}{K:W.Frag}{mg:Str->Option Value}{base:Heap}{CX:CXT}{k:Nat}{f:Addr}{fd:FuncData}{ps:List Str}{sp sp':Sp}(F:Bd P w K mg base CX k f fd ps sp)
  (h:∀ vs H Q E,sp' vs H Q E->sp vs H Q E):Bd P w K mg base CX k f fd ps sp' :=
 ⟨λvs H Q E q=>F.len vs H Q E (h _ _ _ _ q),λA outer s H args us vs Q E hr he hb hv hs=>F.run A outer s H args us vs Q E hr he hb hv (h _ _ _ _ hs)⟩
theorem AcY.make{P:Program}{w:World}{K:W.Frag}{mg:Str->Option Value}{base:Heap}{A:Around}{outer:List Env}{s:Shared}{H:Hp}(e:AcY P w K mg base A outer s H)(C:Addr)(us:List Value)(kw:List (Str × Value)) :
  AcY P w K mg base (A.under (.builtin "type.__call__" ⟨.ref C::us,kw⟩)) outer s H:=⟨by first | exact e.frames | (simpa [Around.under,Code.envs,Code.isFrame,pushEnvs] using e.frames),e.mod,e.bs,e.bsz,e.Qa,e.frf,e.hok,e.bare⟩
section
variable {X:Cx}{pins:List (Addr × Obj)}{σ:St}{H:Hp}{s s':Shared}
theorem Inv.env0(I:Inv X pins σ H s):AcY X.prog X.w X.K X.mg X.base X.A X.stack s H :=
 ⟨I.ok.frames,I.ok.mod,I.bs,Aqn I.ok.bsz I.sz,I.stack,I.Wj,I.hok,I.bare⟩
theorem Inv.after{Q:VK}{u:Value}(I:Inv X pins σ H s)(h:CE X.stack X.prog X.w H s Q u s'):EP X pins σ Q u s':=by
 obtain⟨v,H',os,bare,un,hok,r,q⟩:=h
 obtain⟨hh,g,d,t,os'⟩:=s'
 obtain rfl:os'=s.os:=os
 exact⟨v,H',I.call (h':=hh) (g':=g) (d':=d) (t':=t) (ch:=[]) un hok bare (λb z=>absurd z (by simp)),r,q⟩
end
def AjK (sp:Sp)(dvs:List V)(E:XK)(t:TA):TE:=λσ H Q=>t σ H λvs H1=>sp (vs++dvs) H1 Q E
def AjL (C:Addr)(m:Str)(sp:Sp)(dvs:List V)(E:XK)(ta:TE)(t:TA):TE:=λσ H Q=>ta σ H λx H1=>∃ a dx fs,x=.ref a/\H1 a=some (.ins C dx fs)/\fs.lookup m=none /\
 t σ H1 λvs H2=>sp (x::(vs++dvs)) H2 Q E
def Am0 (C:Addr)(sp:Sp)(dvs:List V)(E:XK)(t:TA):TE:=λσ H Q=>t σ H λvs H1=>∀ x dx,H1 x=none->H1 dx=none->dx≠x ->
 sp (.ref x::(vs++dvs)) (upd (upd H1 dx (.own x)) x (.ins C dx [])) (λv H2=>v=.non/\Q (.ref x) H2) E
def Binds(K:W.Frag)(fd:FuncData)(ps:List Str)(ds:List Value):Prop :=
 ∀(s:Shared) (us:List Value),K.In s.heap->(us++ds).length=ps.length->BindsTo s fd ⟨us,[]⟩ (ps.zip (us++ds))
theorem Binds.all{K:W.Frag}{fd:FuncData}{ps:List Str}(h:∀ us:List Value,us.length=ps.length->bindArgs fd ⟨us,[]⟩=pure (ps.zip us)):Binds K fd ps []:=λs us _ hl=>by
 rw[Aqv] at hl ⊢
 exact .of_eq (h us hl)
def Passes(CX:CXT)(X:Cx)(E:XK):Prop:=∀(pins:List (Addr × Obj)) (σ:St) (H:Hp) (s:Shared) (e:Value) (s':Shared),Inv X pins σ H s->CX X.stack H s E e s'->X.xe e s'
section
variable {X:Cx}{CX:CXT}{k:Nat}{f C:Addr}{fd:FuncData}{ps:List Str}{sp:Sp}{dvs:List V}{ds:List Value}{E:XK}{x m:Str}{p pos apos:Pos}{e o:Expr}{es:List Expr}{ta:TE}{t:TA}
theorem WT{pins:List (Addr × Obj)}{σ:St}{H:Hp}{s:Shared}{Q:VK}{us:List Value}{vs:List V}(F:Bd X.prog X.w X.K X.mg X.base CX k f fd ps sp)(hr:Gp k X.A)(hb:Binds X.K fd ps ds)(hd:Vals dvs ds)(hx:Passes CX X E)
  (I:Inv X pins σ H s) (r:Vals vs us) (h:sp (vs++dvs) H Q E):wpAny (model X.prog X.w) X.A (call (.ref f) us) (EP X pins σ Q) X.xe s:=by
 have r2:Vals (vs++dvs) (us++ds):=r.append hd
 have hl:(us++ds).length=ps.length:=by rw[<- r2.length];exact F.len _ _ _ _ h
 refine wpAny_call (codeAny_mono (F.run X.A X.stack s H ⟨us,[]⟩ (us++ds) (vs++dvs) Q E hr I.env0 (hb s us I.kIn hl) r2 h) λr s' hq=>?_)
 cases r with
 | error e=>exact hx pins σ H s e s' I hq
 | ok fl =>
  cases fl with
  | ret u=>exact I.after hq
  | next=>exact False.elim hq
  | brk=>exact False.elim hq
  | cont=>exact False.elim hq
theorem Ed(F:Bd X.prog X.w X.K X.mg X.base CX k f fd ps sp)(hr:Gp k X.A)(hg:Gl X x)(hm:X.mg x=some (.ref f))(hk:W.keepIn X.K (.ref f)=true)(hb:Binds X.K fd ps ds)(hd:Vals dvs ds)(hx:Passes CX X E)
  (ha:PA X (e::es) t) (hdb:(x == ("__debug__" : Str))=false:=by decide) (he:starEach (e::es) X.env=(false,eval e X.env)::starEach es X.env:=by rfl) (hpl:(backTo pos (starEach es X.env)).any (·.1)=false:=by rfl) :
  PE X (.Call (.Name x p) (e::es) [] pos) (AjK sp dvs E t):=by
 intro pins s σ H Q I h
 refine wpAny_Call_Name_kw (Aa4 I hg hm ?_ hdb)
 refine W.callWith_K (h₀:=X.base) I.ok.mod.kin hk (thn (ha pos pins s σ H _ I h) λus s1 ⟨vs,H1,I1,r,q⟩=>⟨I1.kIn,?_⟩) he hpl
 exact WT F hr hb hd hx I1 r q
theorem Dy{pl:Sem Bool}(he:PE X o ta)(c:Cls X.K C)(hm:Meth X.K C m f)(F:Bd X.prog X.w X.K X.mg X.base CX k f fd ps sp)(hr:Gp k X.A)(hb:Binds X.K fd ps ds)(hd:Vals dvs ds)(hx:Passes CX X E)(ha:PA X (e::es) t)
  (hst:starEach (e::es) X.env=(false,eval e X.env)::starEach es X.env:=by rfl) (hpl:(backTo pos (starEach es X.env)).any (·.1)=false:=by rfl)
  (ht:eval (.Call (.Attribute o m apos) (e::es) [] pos) X.env=(do
   let ov <- eval o X.env
   standAt apos.atName
   let (f,first) <- holding [ov] (getMethod ov m pl)
   callWith pos f first (backTo pos (starEach (e::es) X.env)) (backToKw pos (keywordEach [] X.env))):=by rfl) :
  PE X (.Call (.Attribute o m apos) (e::es) [] pos) (AjL C m sp dvs E ta t):=by
 intro pins s σ H Q I h
 refine W.methodCall_KW (pl:=pl) (thn (he pins s σ H _ I h) λu s1 ⟨x,H1,I1,rx,a,dx,fs,ex,ea,l,q⟩=>?_) ht
 subst ex
 obtain rfl:u=Value.ref a:=rx
 refine Qe I1 ea c hm l ?_
 refine W.callWith_K (first:=[.ref a]) (h₀:=X.base) I.ok.mod.kin hm.kp (thn (ha pos pins s1 σ H1 _ I1 q) λus s2 ⟨vs,H2,I2,r,q2⟩=>⟨I2.kIn,?_⟩) hst hpl
 exact WT (us:=.ref a::us) (vs:=.ref a::vs) F hr hb hd hx I2 (.cons rfl r) q2
theorem Hr{pl:Sem Bool}(he:PE X o ta)(c:Cls X.K C)(hm:Meth X.K C m f)(F:Bd X.prog X.w X.K X.mg X.base CX k f fd ps sp)(hr:Gp k X.A)(hb:Binds X.K fd ps ds)(hd:Vals dvs ds)(hx:Passes CX X E)
  (ht:eval (.Call (.Attribute o m apos) [] [] pos) X.env=(do
   let ov <- eval o X.env
   standAt apos.atName
   let (f,first) <- holding [ov] (getMethod ov m pl)
   callWith pos f first (backTo pos (starEach [] X.env)) (backToKw pos (keywordEach [] X.env))):=by rfl) :
  PE X (.Call (.Attribute o m apos) [] [] pos) (AjL C m sp dvs E ta Amy):=by
 intro pins s σ H Q I h
 refine W.methodCall_KW (pl:=pl) (thn (he pins s σ H _ I h) λu s1 ⟨x,H1,I1,rx,a,dx,fs,ex,ea,l,q⟩=>?_) ht
 subst ex
 obtain rfl:u=Value.ref a:=rx
 refine Qe I1 ea c hm l ?_
 exact W.callWith_K0 (first:=[.ref a]) I1.kIn hm.kp (WT (us:=[.ref a]) (vs:=[.ref a]) F hr hb hd hx I1 (.cons rfl .nil) q)
structure Mk (K:W.Frag) (C f:Addr):Prop where
 makes:W.makesIn K C=true
 init:W.findIn K (.ref C) "__init__" = some (some (.ref f))
 fn:W.isFn K (.ref f)=true
 kp:W.keepIn K (.ref C)=true
theorem Agq{pins:List (Addr × Obj)}{σ:St}{H:Hp}{s:Shared}{Q:VK}{us:List Value}{vs:List V}(M:Mk X.K C f)(F:Bd X.prog X.w X.K X.mg X.base CX k f fd ps sp)(hr:Gp (k+1) X.A)(hb:Binds X.K fd ps ds)(hd:Vals dvs ds)
  (hx:Passes CX X E) (I:Inv X pins σ H s) (r:Vals vs us)
  (h:∀ x dx,H x=none->H dx=none->dx≠x->sp (.ref x::(vs++dvs)) (upd (upd H dx (.own x)) x (.ins C dx [])) (λv H2=>v=.non/\Q (.ref x) H2) E) :
  wpAny (model X.prog X.w) X.A (call (.ref C) us) (EP X pins σ Q) X.xe s:=by
 have hq:=h (s.heap.objs.size+1) s.heap.objs.size (I.hok.fresh (AqI _)) (I.hok.fresh (ApR _)) (ApZ (Aq8 _))
 have I2:=Inv.made (C:=C) I
 have r2:Vals (V.ref (s.heap.objs.size+1)::(vs++dvs)) (Value.ref (s.heap.objs.size+1)::(us++ds)):=.cons rfl (r.append hd)
 have hl:(Value.ref (s.heap.objs.size+1)::us++ds).length=ps.length:=by
  have e:=r2.length
  rw[F.len _ _ _ _ hq] at e
  exact e.symm
 refine wpAny_call (Agp (f:=f) I.kIn M.makes M.init (beq_iff_eq.mp M.fn) (codeAny_mono (F.run _ X.stack _ _ ⟨Value.ref (s.heap.objs.size+1)::us,[]⟩ (Value.ref (s.heap.objs.size+1)::(us++ds)) _ _ E (hr.make C us [])
  (I2.env0.make C us []) (hb _ (Value.ref (s.heap.objs.size+1)::us) I2.kIn hl) r2 hq) λr s' hq'=>?_))
 cases r with
 | error e=>exact hx pins σ _ _ e s' I2 hq'
 | ok fl =>
  cases fl with
  | ret u =>
   obtain⟨v,H',I3,rv,ev,q3⟩:=I2.after hq'
   subst ev
   exact⟨rv,⟨V.ref (s.heap.objs.size+1),H',I3,rfl,q3⟩⟩
  | next=>exact False.elim hq'
  | brk=>exact False.elim hq'
  | cont=>exact False.elim hq'
theorem Gh(M:Mk X.K C f)(F:Bd X.prog X.w X.K X.mg X.base CX k f fd ps sp)(hr:Gp (k+1) X.A)(hg:Gl X x)(hm:X.mg x=some (.ref C))(hb:Binds X.K fd ps ds)(hd:Vals dvs ds)(hx:Passes CX X E)
  (ha:PA X (e::es) t) (hdb:(x == ("__debug__" : Str))=false:=by decide) (he:starEach (e::es) X.env=(false,eval e X.env)::starEach es X.env:=by rfl) (hpl:(backTo pos (starEach es X.env)).any (·.1)=false:=by rfl) :
  PE X (.Call (.Name x p) (e::es) [] pos) (Am0 C sp dvs E t):=by
 intro pins s σ H Q I h
 refine wpAny_Call_Name_kw (Aa4 I hg hm ?_ hdb)
 refine W.callWith_K (h₀:=X.base) I.ok.mod.kin M.kp (thn (ha pos pins s σ H _ I h) λus s1 ⟨vs,H1,I1,r,q⟩=>⟨I1.kIn,?_⟩) he hpl
 exact Agq M F hr hb hd hx I1 r q
end
def PK (X:Cx)(kws:List Keyword)(t:TA):Prop :=
 ∀(pos:Pos) (pins:List (Addr × Obj)) (s:Shared) (σ:St) (H:Hp) (Q:List V->Hp->Prop),Inv X pins σ H s->t σ H Q->wpAny (model X.prog X.w) X.A (evalAll ((backToKw pos (keywordEach kws X.env)).map (·.2))) (AP X pins σ Q) X.xe s
section
variable {X:Cx}{CX:CXT}{k:Nat}{f C:Addr}{fd:FuncData}{ps ks:List Str}{sp:Sp}{E:XK}{x m:Str}{p pos apos Apv:Pos}{e o:Expr}{es:List Expr}{kws:List Keyword}{te ta:TE}{t tk:TA}{nm:Option Str}
structure Aof (K:W.Frag) (fd:FuncData) (ps ks:List Str) (g:List Value->List Value->List Value) (gV:List V->List V->List V):Prop where
 to:∀(s:Shared) (us ws:List Value),K.In s.heap->(g us ws).length=ps.length->BindsTo s fd ⟨us,ks.zip ws⟩ (ps.zip (g us ws))
 rel:∀{vs:List V} {us:List Value} {zs:List V} {ws:List Value},Vals vs us->Vals zs ws->Vals (gV vs zs) (g us ws)
def Aog (sp:Sp)(gV:List V->List V->List V)(E:XK)(t tk:TA):TE:=λσ H Q=>t σ H λvs H1=>tk σ H1 λzs H2=>sp (gV vs zs) H2 Q E
variable {g:List Value->List Value->List Value}{gV:List V->List V->List V}
end
structure Aj (N P:List Str) (sc:Scope):Prop where
 kind:sc.kind=.function
 co:sc.isCoroutine=false
 gen:sc.isGenerator=false
 nd:N.Nodup
 pre:N.take P.length=P
 par:∀ x∈P,sc.names.lookup x=some .local\/sc.names.lookup x=some .cell
 AkF:∀ y∈sc.names,y.2≠.free
theorem Z2{kindOf:Str->Option NameKind}{x:Str}:∀{binds:List (Str × Value)} {m:Str->Option Value},(∀ v,(x,v)∉binds)->bindL kindOf binds m x=m x
 | [],_,_=>rfl
 | (n,v)::r,m,h=>by
  unfold bindL
  rw[Z2 λw hw=>h w (ApW _ hw)]
  split
  ·have:x≠n:=by rintro rfl;exact h v ApS
   simp[this]
  ·rfl
theorem Z3{kindOf:Str->Option NameKind}{x:Str}:∀{binds:List (Str × Value)} {m:Str->Option Value},(∀ v,(x,v)∉binds)->bindC kindOf binds m x=m x
 | [],_,_=>rfl
 | (n,v)::r,m,h=>by
  unfold bindC
  rw[Z3 λw hw=>h w (ApW _ hw)]
  split
  ·rfl
  ·have:x≠n:=by rintro rfl;exact h v ApS
   simp[this]
theorem Z4{kindOf:Str->Option NameKind}{x:Str}{v:Value}:∀{P:List Str} {vs:List Value} {i:Nat} {m:Str->Option Value},P.Nodup->P[i]?=some x->vs[i]?=some v->kindOf x=some .local ->
  bindL kindOf (P.zip vs) m x=some v
 | [],_,_,_,_,h,_,_=>by simp at h
 | _::_,[],_,_,_,_,h,_=>by simp at h
 | p::P,w::vs,0,m,nd,h1,h2,hk=>by
  simp at h1 h2;subst h1;subst h2
  show bindL kindOf ((p,w)::P.zip vs) m p=_
  unfold bindL
  rw[Z2 λv hv=>(List.nodup_cons.mp nd).1 (List.of_mem_zip hv).1,if_pos hk]
  simp
 | p::P,w::vs,i+1,m,nd,h1,h2,hk=>by
  show bindL kindOf ((p,w)::P.zip vs) m x=_
  unfold bindL
  exact Z4 (i:=i) (List.nodup_cons.mp nd).2 (by simpa using h1) (by simpa using h2) hk
theorem Z6{kindOf:Str->Option NameKind}{x:Str}{v:Value}:∀{P:List Str} {vs:List Value} {i:Nat} {m:Str->Option Value},P.Nodup->P[i]?=some x->vs[i]?=some v->kindOf x≠some .local ->
  bindC kindOf (P.zip vs) m x=some v
 | [],_,_,_,_,h,_,_=>by simp at h
 | _::_,[],_,_,_,_,h,_=>by simp at h
 | p::P,w::vs,0,m,nd,h1,h2,hk=>by
  simp at h1 h2;subst h1;subst h2
  show bindC kindOf ((p,w)::P.zip vs) m p=_
  unfold bindC
  rw[Z3 λv hv=>(List.nodup_cons.mp nd).1 (List.of_mem_zip hv).1,if_neg hk]
  simp
 | p::P,w::vs,i+1,m,nd,h1,h2,hk=>by
  show bindC kindOf ((p,w)::P.zip vs) m x=_
  unfold bindC
  exact Z6 (i:=i) (List.nodup_cons.mp nd).2 (by simpa using h1) (by simpa using h2) hk
def start(N:List Str)(vs:List V):St:=vs.map some++List.replicate (N.length-vs.length) none
def Ab8 (CX:CXT)(P:Program)(w:World)(K:W.Frag)(mg:Str->Option Value)(base:Heap)(N:List Str)(qual:Str)(scope:Scope)(f:Addr)(cd:Value)(A:Around)(outer:List Env)(s:Shared)(H:Hp)(E:XK):Cx where
 prog:=P
 w:=w
 K:=K
 mg:=mg
 base:=base
 A:=A.deeper (envOfC qual scope s.heap.objs.size f cd)
 N:=N
 s₀:=s
 H₀:=H
 env:=envOfC qual scope s.heap.objs.size f cd
 outer:=outer
 stack:=envOfC qual scope s.heap.objs.size f cd::outer
 ex:=[]
 calm:=true
 fn:=λ_=>true
 pn:=[]
 xe:=λe s'=>wpAny (model P w) (A.deeper (envOfC qual scope s.heap.objs.size f cd)) (leaving (envOfC qual scope s.heap.objs.size f cd) e) (λ_ s''=>CX outer H s E e s'') (λe' s''=>CX outer H s E e' s'') s'
theorem Ab9{sc:Scope}{n:Nat}{x:Str}(h:sc.names.lookup x=some .cell):∃ c,(cellsFrom n sc.names []).lookup x=some c:=by
 have q:=W.cellsFrom_some sc.names n [] (.inl h)
 exact Option.isSome_iff_exists.mp q
theorem AeY{CX:CXT}{P:Program}{w:World}{K:W.Frag}{mg:Str->Option Value}{base:Heap}{N ps:List Str}{qual:Str}{scope:Scope}{f:Addr}{cd:Value}{A:Around}{outer:List Env}{s s1:Shared}{H:Hp}{E:XK}{us:List Value}{vs:List V}
  (S:Aj N ps scope) (hd:A.handled=none) (e0:AcY P w K mg base A outer s H) (hl:vs.length=ps.length) (r:Vals vs us)
  (x:InCallC s s.heap.objs.size (bindL (envOfC qual scope s.heap.objs.size f cd).kindOf (ps.zip us) λ_=>none) (cellsFrom (s.heap.objs.size+1) scope.names []) (bindC (envOfC qual scope s.heap.objs.size f cd).kindOf (ps.zip us) λ_=>none) s1) :
  Inv (Ab8 CX P w K mg base N qual scope f cd A outer s H E) [] (start N vs) H s1:=by
 have hpl:ps.length<=N.length:=by have:=congrArg List.length S.pre;rw[Aqf] at this;omega
 obtain⟨h1,tk,rfl,hk⟩:=x.done
 have noA:∀ b:Addr,b∉(Ab8 CX P w K mg base N qual scope f cd A outer s H E).ex:=λb z=>absurd (show b∈([]:List Addr) from z) (by simp)
 refine⟨⟨e0.mod,S.kind,rfl,rfl,ApR _,λy z c h1 h2=>?_,λy hy=>?_,λy c _ h=>?_,λ_=>hd,Around.frames_deeper e0.frames,.inr ⟨rfl,rfl⟩,λb z=>absurd z (noA b),e0.bs,e0.bsz,λb _ _=>noA b,λb z=>absurd z (noA b),e0.Qa,e0.frf⟩,
  rfl,e0.bare,Un.kept hk,⟨_,x.toInCall.ns,λi y v h1 h2 h3=>?_⟩,λy c h=>⟨_,x.cell y c h⟩,e0.hok.fresh (ApR _),λy c h=>?_,λp hp=>absurd (show p∈([]:List (Addr × Obj)) from hp) (by simp),e0.hok.kept hk,?_⟩
 ·exact name_of_addr x.apart (zW h1) (zW h2)
 ·have hy:scope.names.lookup y=some .cell\/scope.names.lookup y=some .free:=hy
  rcases hy with hy | hy
  ·exact Ab9 hy
  ·exact absurd rfl (S.AkF _ (zW hy))
 ·exact AqT (x.above y c (zW h))
 ·have hi:i<vs.length:=by
   unfold start at h2
   by_cases hi:i<vs.length
   ·exact hi
   ·rw[Aqi (by simpa using hi)] at h2
    rw[List.getElem?_replicate] at h2
    split at h2 <;> cases h2
  have ha:vs[i]?=some v:=by
   unfold start at h2
   rw[Aqo (by simpa using hi),ApX] at h2
   cases e:vs[i]? with
   | none=>rw[e] at h2;cases h2
   | some a=>rw[e] at h2;cases h2;rfl
  obtain⟨u,hu,rv⟩:=r.get ha
  have hp:ps[i]?=some y:=by
   rw[<- S.pre,Ary (by omega)];exact h1
  have ndP:ps.Nodup:=by rw[<- S.pre];exact S.nd.sublist (Arz _ _)
  refine⟨u,rv,?_⟩
  rcases S.par y (ApY hp) with k | k
  ·exact .inl ⟨k,Z4 ndP hp hu k⟩
  ·obtain⟨c,e⟩:=Ab9 (n:=s.heap.objs.size+1) k
   refine .inr ⟨.inl k,c,e,?_⟩
   have q:=x.cell y c e
   rw[Z6 ndP hp hu (by show scope.names.lookup y≠_;rw[k];decide)] at q
   exact q
 ·exact e0.hok.fresh (AqT (x.above y c (zW h)))
 ·unfold start
  show _=N.length
  rw[ApQ,ApO,AqO]
  omega
theorem Am1{CX:CXT}{P:Program}{w:World}{K:W.Frag}{mg:Str->Option Value}{base:Heap}{k:Nat}{f:Addr}{name qual:Str}{params:Arguments}{body:List Stmt}{scope:Scope}{dV kV doc pm cdv ct oc:Value}{an od:Option Addr}
  {osl:Array (Option Value)}{N ps:List Str}{sp:Sp} (lk:K.lookup f=some ⟨oc,od,.func (W.fnOf name qual params body scope dV kV doc pm an cdv ct),osl⟩) (hcd:W.codeIn K cdv qual=true) (S:Aj N ps scope)
  (len:∀ vs H Q E,sp vs H Q E->vs.length=ps.length)
  (hbody:∀(A:Around) (outer:List Env) (s:Shared) (H:Hp) (vs:List V) (Q:VK) (E:XK),Gp k (A.deeper (envOfC qual scope s.heap.objs.size f cdv))->sp vs H Q E ->
   ∃ t,PSs (Ab8 CX P w K mg base N qual scope f cdv A outer s H E) body t/\t { nx:=λ_ H'=>Q .non H',rt:=Q } (start N vs) H) :
  Bd P w K mg base CX (k+1) f (W.fnOf name qual params body scope dV kV doc pm an cdv ct) ps sp:=by
 refine⟨len,λA outer s H args us vs Q E hr e0 hb r hsp=>?_⟩
 have hl:=len _ _ _ _ hsp
 have KX:K.In s.heap:=e0.mod.kin.keeps λb o e=>(e0.bs b o e).1
 have lim:s.heap.NoLimit:=e0.mod.nolimit.keeps λb o e=>(e0.bs b o e).1
 have hkind:∀ y∈ps.zip us,scope.names.lookup y.1=some .local\/(scope.names.lookup y.1=some .cell/\((cellsFrom (s.heap.objs.size+1) scope.names []).lookup y.1).isSome=true):=λ⟨n,v⟩ hy=>by
  rcases S.par n (List.of_mem_zip hy).1 with q | q
  ·exact .inl q
  ·exact .inr ⟨q,W.cellsFrom_some _ _ _ (.inl q)⟩
 refine codeAny_call_function hr.depth (KX _ _ lk) rfl S.co S.gen rfl (W.codeRec_of KX hcd) (hb _ _ _ _ ?_)
 refine wpAny_newFunctionEnv_cells S.kind hkind λenv he s1 x=>?_
 subst he
 refine⟨lim.keeps x.toInCall.keep,codeAny_func ?_⟩
 obtain⟨t,ht,hq⟩:=hbody A outer s H vs Q E (hr.deeper _) hsp
 have I:Inv (Ab8 CX P w K mg base N qual scope f cdv A outer s H E) [] (start N vs) H s1:=AeY S hr.hd e0 hl r x
 refine zT (ht [] s1 (start N vs) H _ I hq) (λfl s' hs=>?_) λe s' hs=>hs
 have fin:∀{σ':St} {H':Hp} {v:V} {u:Value},Inv (Ab8 CX P w K mg base N qual scope f cdv A outer s H E) [] σ' H' s'->RelV v u->Q v H'->CE outer P w H s Q u s' :=
  λ{σ' H' v u} J rv q=>⟨v,H',J.os,J.bare,J.base,J.hok,rv,q⟩
 cases fl with
 | ret u =>
  obtain⟨v,σ',H',J,rv,q⟩:=hs
  exact fin J rv q
 | next =>
  obtain⟨σ',H',J,q⟩:=hs
  exact fin (v:=V.non) (u:=Value.none) J rfl q
 | brk =>
  obtain⟨_,_,_,q⟩:=hs
  exact False.elim q
 | cont =>
  obtain⟨_,_,_,q⟩:=hs
  exact False.elim q
section
variable {X:Cx}{x:Str}{p pos:Pos}{e:Expr}{es:List Expr}{t:TA}{id T:String}{r:List V->Hp->VK->Prop}
def tCB (r:List V->Hp->VK->Prop)(t:TA):TE:=λσ H Q=>t σ H λvs H1=>r vs H1 Q
theorem Ao(hc:Et X (.builtin id) r)(hg:Gl X x)(hm:X.mg x=none)(hv:bootBuiltins x=some (.builtin id))(ha:PA X (e::es) t)(hn:x ≠ "__name__" := by decide) (hdb:(x == ("__debug__" : Str))=false:=by decide)
  (he:starEach (e::es) X.env=(false,eval e X.env)::starEach es X.env:=by rfl) (hpl:(backTo pos (starEach es X.env)).any (·.1)=false:=by rfl):PE X (.Call (.Name x p) (e::es) [] pos) (tCB r t):=by
 intro pins s σ H Q I h
 refine wpAny_Call_Name_kw (Jc I hg hm hv ?_ hn hdb)
 exact PyProof.Rows.callWith_builtin1 (thn (ha pos pins s σ H _ I h) λus s1 ⟨vs,H1,I1,r1,q1⟩=>hc pins s1 σ H1 vs us Q I1 r1 q1) he hpl
theorem Cp(hc:Et X (.type T) r)(hg:Gl X x)(hm:X.mg x=none)(hv:bootBuiltins x=some (.type T))(ha:PA X (e::es) t)(hn:x ≠ "__name__" := by decide) (hdb:(x == ("__debug__" : Str))=false:=by decide)
  (he:starEach (e::es) X.env=(false,eval e X.env)::starEach es X.env:=by rfl) (hpl:(backTo pos (starEach es X.env)).any (·.1)=false:=by rfl):PE X (.Call (.Name x p) (e::es) [] pos) (tCB r t):=by
 intro pins s σ H Q I h
 refine wpAny_Call_Name_kw (Jc I hg hm hv ?_ hn hdb)
 exact PyProof.Rows.callWith_type1 (thn (ha pos pins s σ H _ I h) λus s1 ⟨vs,H1,I1,r1,q1⟩=>hc pins s1 σ H1 vs us Q I1 r1 q1) he hpl
end
end L2
namespace HT
open PySem PyProof.Rows
def lexLt:List Int->List Int->Bool
 | [],[]=>false
 | [],_::_=>true
 | _::_,[]=>false
 | x::xs,y::ys=>if x=y then lexLt xs ys else decide (x<y)
section
variable {prog:Program}{w:World}{A:Around}{E:Value->Shared->Prop}{s:Shared}
def sIx (n d:Nat):Option Int->Nat
 | none=>d
 | some v=>if v<0 then (v+(n:Int)).toNat else min v.toNat n
theorem WW(n d:Nat):sIx n d none=d:=rfl
theorem Nt(n d k:Nat):sIx n d (some (k:Int))=min k n:=by
 show(if (k:Int)<0 then ((k:Int)+(n:Int)).toNat else min (k:Int).toNat n)=min k n
 rw[if_neg (by omega),Aqc]
theorem AkG(n d:Nat)(hd:d<=n)(o:Option Int):sIx n d o<=n:=by
 cases o with
 | none=>exact hd
 | some v =>
  show(if v<0 then (v+(n:Int)).toNat else min v.toNat n)<=n
  by_cases hv:v<0
  ·rw[if_pos hv];omega
  ·rw[if_neg hv];exact Nat.min_le_right _ _
end
end HT
namespace L2
open PySem PySem.Spec PyProof.Rows
abbrev TO:=St->Hp->(Option Int->Hp->Prop)->Prop
def PO (X:Cx)(e:Option Expr)(t:TO):Prop :=
 ∀(pins:List (Addr × Obj)) (s:Shared) (σ:St) (H:Hp) (Q:Option Int->Hp->Prop),Inv X pins σ H s->t σ H Q ->
  wpAny (model X.prog X.w) X.A (evalPart e X.env) (λu s'=>∃ o H',Inv X pins σ H' s'/\IsPart u o/\Q o H') X.xe s
def Aiz:TO:=λ_ H Q=>Q none H
def Am2 (t:TE):TO:=λσ H Q=>t σ H λx H1=>∃ i,x=.int i/\Q (some i) H1
theorem intsAre_of{ns:List Int}:∀{us:List Value},Vals (ns.map V.int) us->IntsAre us ns:=by
 induction ns with
 | nil=>intro us r;rw[AqD] at r;cases r;exact .nil
 | cons n ns ih =>
  intro us r
  rw[ApT] at r
  cases r with
  | cons r1 r2 =>
   obtain⟨t,e⟩:=r1
   subst e
   exact .cons n t (ih r2)
section
variable {X:Cx}{e:Expr}{te:TE}{lo hi:Option Expr}{tl th:TO}{pos p2:Pos}
theorem Nu:PO X none Aiz:=by
 intro pins s σ H Q I h
 rw[evalPart_none]
 exact zE ⟨none,H,I,.none,h⟩
theorem Gi(h:PE X e te):PO X (some e) (Am2 te):=by
 intro pins s σ H Q I hw
 rw[evalPart_some]
 refine thn (h pins s σ H _ I hw) λu s1 ⟨x,H1,I1,r1,q1⟩=>?_
 obtain⟨i,rfl,q⟩:=q1
 obtain⟨t,rfl⟩:=r1
 exact⟨some i,H1,I1,.int i t,q⟩
def SlR (X:Cx)(r:V->Option Int->Option Int->Hp->VK->Prop):Prop :=
 ∀(pins:List (Addr × Obj)) (s:Shared) (σ:St) (H:Hp) (x:V) (v vl vu:Value) (lo hi:Option Int) (sl:Addr) (Q:VK),Inv X pins σ H s->RelV x v->s.heap.IsSliceOf sl vl vu .none->IsPart vl lo->IsPart vu hi->r x lo hi H Q ->
  ∃ T id,typeLookup (.type T) "__getitem__" = pure (some (.builtin id))/\s.TypeIs v T/\wpAny (model X.prog X.w) X.A (getItem v (.ref sl)) (EP X pins σ Q) X.xe s
def tSl (r:V->Option Int->Option Int->Hp->VK->Prop)(te:TE)(tl th:TO):TE:=λσ H Q=>te σ H λx H1=>tl σ H1 λl H2=>th σ H2 λu H3=>r x l u H3 Q
theorem Gq{r:V->Option Int->Option Int->Hp->VK->Prop}(hr:SlR X r)(he:PE X e te)(hl:PO X lo tl)(hu:PO X hi th):PE X (.Subscript e (.Slice lo hi none p2) pos) (tSl r te tl th):=by
 intro pins s σ H Q I h
 refine Subscript_ (thn (he pins s σ H _ I h) λv s1 ⟨x,H1,I1,r1,q1⟩=>?_)
 refine wpAny_Slice (thn (hl pins s1 σ H1 _ I1 q1) λvl s2 ⟨l,H2,I2,pl,q2⟩=>thn (hu pins s2 σ H2 _ I2 q2) λvu s3 ⟨u,H3,I3,pu,q3⟩=>?_)
 rw[evalPart_none]
 refine zE ?_
 have I4:Inv X pins σ H3 { s3 with heap:=s3.heap.push { cls:=.type "slice", data:=.fields #[vl,vu,.none] } }:=I3.kept (t':=s3.toks) λb ob q=>zB _ q
 obtain⟨T,id,hT,ht,hg⟩:=hr pins { s3 with heap:=s3.heap.push { cls:=.type "slice", data:=.fields #[vl,vu,.none] } } σ H3 x v vl vu l u s3.heap.objs.size Q I4 r1 (Heap.IsSliceOf.new ..) pl pu q3
 show wpAny (model X.prog X.w) X.A (subscriptTail e (.Slice lo hi none p2) v (.ref s3.heap.objs.size)) (EP X pins σ Q) X.xe { s3 with heap:=s3.heap.push { cls:=.type "slice", data:=.fields #[vl,vu,.none] } }
 exact tail_any (ops:=[.ref s3.heap.objs.size,v]) ht hT hg (by with_unfolding_all rfl)
def AcZ (xs:List V)(lo hi:Option Int):List V:=(xs.drop (HT.sIx xs.length 0 lo)).take (HT.sIx xs.length xs.length hi-HT.sIx xs.length 0 lo)
theorem AbA(xs:List V)(lo hi:Option Int):(AcZ xs lo hi).length<=xs.length:=by
 unfold AcZ
 rw[Aqf,Aqx]
 omega
def Apw (K:W.Frag):V->Option Int->Option Int->Hp->VK->Prop:=λx lo hi H Q=>∃ a xs,x=.ref a/\SqT K H a xs /\
 ¬(HT.sIx xs.length 0 lo=0/\HT.sIx xs.length xs.length hi=xs.length)/\∀ p,H p=none->Q (.ref p) (upd H p (.tup (AcZ xs lo hi)))
def Apx (K:W.Frag):R2:=λx y H Q=>∃ a b ns ms,x=.ref a/\y=.ref b/\SqT K H a (ns.map V.int)/\SqT K H b (ms.map V.int)/\Q (.bl (HT.lexLt ns ms)) H
def AoP (K:W.Frag):R2:=λx y H Q=>∃ a b xs ys,x=.ref a/\y=.ref b/\SqT K H a xs/\SqT K H b ys/\xs≠[]/\xs.length+ys.length<=sizeLine /\
 (ys=[]->Q (.ref a) H)/\(ys≠[]->∀ p,H p=none->Q (.ref p) (upd H p (.tup (xs++ys))))
end
def ixN (n:Nat)(i:Int):Option Nat:=if 0<=i then (if i<n then some i.toNat else none) else if -(n:Int)<=i then some (i+n).toNat else none
def atI {α:Type}(xs:List α)(i:Int):Option α:=(ixN xs.length i).bind λj=>xs[j]?
theorem AdR{n:Nat}{i:Int}{j:Nat}(h:ixN n i=some j):seqIndex? i n=some j/\j<n /\ -(n:Int)<=i/\i<n:=by
 unfold ixN at h
 by_cases h0:0<=i
 ·rw[if_pos h0] at h
  by_cases h1:i<n
  ·rw[if_pos h1] at h
   have e:i.toNat=j:=Option.some.inj h
   exact⟨by rw[seqIndex_of h0 h1,e],by omega,by omega,h1⟩
  ·rw[if_neg h1] at h;cases h
 ·rw[if_neg h0] at h
  by_cases h1 : -(n:Int)<=i
  ·rw[if_pos h1] at h
   have e:(i+n).toNat=j:=Option.some.inj h
   exact⟨by rw[seqIndex_neg (by omega) h1,e],by omega,h1,by omega⟩
  ·rw[if_neg h1] at h;cases h
theorem Aa7{α:Type}{xs:List α}{i:Int}{v:α}(h:atI xs i=some v):∃ j,seqIndex? i xs.length=some j/\xs[j]?=some v/\j<xs.length /\ -(xs.length:Int)<=i/\i<xs.length:=by
 unfold atI at h
 cases e:ixN xs.length i with
 | none=>rw[e] at h;cases h
 | some j =>
  rw[e] at h
  obtain⟨h1,h2,h3,h4⟩:=AdR e
  exact⟨j,h1,h,h2,h3,h4⟩
theorem AdS{α:Type}{xs:List α}{j:Nat}{v:α}(h:xs[j]?=some v):atI xs (j:Int)=some v:=by
 have hj:j<xs.length:=(zC.mp h).1
 have e:ixN xs.length (j:Int)=some j:=by
  unfold ixN
  rw[if_pos (by omega),if_pos (by omega)];simp
 unfold atI;rw[e];exact h
theorem AbB{α:Type}(xs:List α)(v:α):atI (xs++[v]) (-1)=some v:=by
 have hl:(xs++[v]).length=xs.length+1:=by simp
 have e:ixN (xs++[v]).length (-1)=some xs.length:=by
  unfold ixN
  rw[hl,if_neg (by decide),if_pos (by omega)]
  congr 1
  omega
 unfold atI
 rw[e]
 show(xs++[v])[xs.length]?=some v
 simp
def Ai0 (b:Expr):Prop:=∀ o i,subscripted b false o i=operate [o,i] (getItem o i)
def IxR (X:Cx)(r:R2):Prop :=
 ∀(value slice:Expr) (pins:List (Addr × Obj)) (s:Shared) (σ:St) (H:Hp) (x y:V) (v u:Value) (Q:VK),Inv X pins σ H s->RelV x v->RelV y u->r x y H Q ->
  subscripted slice false v u=operate [v,u] (getItem v u)->wpAny (model X.prog X.w) X.A (subscriptTail value slice v u) (EP X pins σ Q) X.xe s
def MtR (X:Cx)(id:String)(r:V->List V->Hp->VK->Prop):Prop :=
 ∀(pins:List (Addr × Obj)) (s:Shared) (σ:St) (H:Hp) (x:V) (xs:List V) (v:Value) (us:List Value) (Q:VK),Inv X pins σ H s->RelV x v->Vals xs us->r x xs H Q ->
  wpAny (model X.prog X.w) X.A (call (.builtin id) (v::us)) (EP X pins σ Q) X.xe s
section
variable {X:Cx}{a b:Expr}{ta tb:TE}{pos:Pos}
theorem Bg{r:R2}(hr:IxR X r)(ha:PE X a ta)(hb:PE X b tb)(hs:Ai0 b):PE X (.Subscript a b pos) (tOp r ta tb):=by
 intro pins s σ H Q I h
 exact Subscript_ (Ak7 ha hb I h λv u s2 x y H2 I2 rx ry q=>hr a b pins s2 σ H2 x y v u Q I2 rx ry q (hs _ _))
def AkH (K:W.Frag):R2:=λx y H Q=>∃ p xs i v,x=.ref p/\y=.int i/\SqL K H p xs/\atI xs i=some v/\Q v H
def AkI (K:W.Frag):R2:=λx y H Q=>∃ p xs i v,x=.ref p/\y=.int i/\SqT K H p xs/\atI xs i=some v/\Q v H
def Am3:R2:=λx y H Q=>∃ z i c,x=.str z/\y=.int i/\z.length<=sizeLine/\atI z.cps.toList i=some c/\Q (.str ⟨#[c]⟩) H
theorem Ai1:IxR X (AkH X.K):=by
 intro value slice pins s σ H x y v u Q I rx ry h hs
 obtain⟨p,xs,i,z,rfl,rfl,hq,he,q⟩:=h
 cases rx
 obtain⟨t,rfl⟩:=ry
 obtain⟨its,r,pl,hz⟩:=I.list hq
 obtain⟨j,h1,h2,h3,h4,h5⟩:=Aa7 he
 obtain⟨w,ew,rw'⟩:=r.get h2
 have hl:=r.length
 have hn:=Qd
 have fin:EP X pins σ Q w s:=⟨z,H,I,rw',q⟩
 by_cases h0:0<=i
 ·have hj:i.toNat=j:=by
   rw[seqIndex_of h0 h5] at h1
   exact Option.some.inj h1
  exact item_listR pl.isList h0 (by omega) (by rw[hj];simpa using ew) fin hs
 ·have hj:(i+(its.toArray.size:Int)).toNat=j:=by
   rw[seqIndex_neg (by omega) h4] at h1
   rw[Aqh,<- hl]
   exact Option.some.inj h1
  exact subscriptTail_builtinR (x:=w) pl.isList.typeIs slot_list_getitem.lookup
   (wpAny_getItem_list_neg (Q:=λr s'=>r=w/\EP X pins σ Q r s') pl.isList (by omega) (by rw[Aqh] <;> omega) (by omega) (by rw[hj];simpa using ew) ⟨rfl,fin⟩) hs
theorem AkJ:IxR X (AkI X.K):=by
 intro value slice pins s σ H x y v u Q I rx ry h hs
 obtain⟨p,xs,i,z,rfl,rfl,hq,he,q⟩:=h
 cases rx
 obtain⟨t,rfl⟩:=ry
 obtain⟨its,r,pl,hz⟩:=I.tuple hq
 obtain⟨j,h1,h2,h3,h4,h5⟩:=Aa7 he
 obtain⟨w,ew,rw'⟩:=r.get h2
 have hl:=r.length
 have hn:=Qd
 have fin:EP X pins σ Q w s:=⟨z,H,I,rw',q⟩
 exact subscriptTail_builtinR (x:=w) pl.typeIs slot_tuple_getitem.lookup
  (getItem_tuple (j:=j) (Q:=λr s'=>r=w/\EP X pins σ Q r s') pl (by omega) (by omega) (by rw[Aqh,<- hl];exact h1) (by simpa using ew) ⟨rfl,fin⟩) hs
theorem Hs:IxR X Am3:=by
 intro value slice pins s σ H x y v u Q I rx ry h hs
 obtain⟨z,i,c,rfl,rfl,hz,he,q⟩:=h
 obtain⟨t,rfl⟩:=rx
 obtain⟨t',rfl⟩:=ry
 obtain⟨j,h1,h2,h3,h4,h5⟩:=Aa7 he
 have hl:z.cps.toList.length=z.length:=by simp[Str.length]
 rw[hl] at h1 h4 h5
 have hn:=Qd
 exact tail_any (typeIs_str s z t) slot_str_getitem.lookup (getItem_str (c:=c) (by
  have e1:decide (i < -(2 ^ 63:Int))=false:=zJ (by omega)
  have e2:decide (i ≥ 2 ^ 63)=false:=zJ (by omega)
  rw[e1,e2,Bool.or_false]) (by rw[h1];simpa using h2) ⟨.str ⟨#[c]⟩,H,I.tok _,⟨_,rfl⟩,q⟩) hs
def rIx (K:W.Frag):R2:=λx y H Q=>AkH K x y H Q\/AkI K x y H Q\/Am3 x y H Q
theorem Ada(its:List Value)(n j:Nat)(u:Value):Obj.mapSeq (·.setIfInBounds j u) { cls:=.type "list", data:=.seq its.toArray n }={ cls:=.type "list", data:=.seq (its.set j u).toArray n }:=by
 simp[Obj.mapSeq]
theorem Inv.lst{pins:List (Addr × Obj)}{σ:St}{H:Hp}{s:Shared}{p:Addr}{xs:List V}(I:Inv X pins σ H s)(h:H p=some (.lst xs)) :
  ∃(its:List Value) (n:Nat),Vals xs its/\s.heap.get? p=some { cls:=.type "list", data:=.seq its.toArray n }/\xs.length<=sizeLine:=by
 obtain⟨z,its,n,r,e⟩:=I.hok p _ h
 exact⟨its,n,r,e,z⟩
theorem Inv.AkK{pins:List (Addr × Obj)}{σ:St}{H:Hp}{s:Shared}{p:Addr}{xs ys:List V}{its its':List Value}{n n':Nat}{f:Obj->Obj}(I:Inv X pins σ H s)(h:H p=some (.lst xs))
  (ho:s.heap.get? p=some { cls:=.type "list", data:=.seq its.toArray n }) (hf:f { cls:=.type "list", data:=.seq its.toArray n }={ cls:=.type "list", data:=.seq its'.toArray n' }) (r:Vals ys its') (hz:ys.length<=sizeLine) (t:Nat) :
  Inv X pins σ (upd H p (.lst ys)) { s with heap:=s.heap.update p f,toks:=t }:=by
 have e:(s.heap.update p f).get? p=some { cls:=.type "list", data:=.seq its'.toArray n' }:=by
  rw[zR f ho (by rw[hf] <;> rfl),hf]
 refine I.write (x:=p) (e:=p) (by rw[h];trivial) (.inl rfl) (λb u hb q=>(zH _ _ (Ne.symm hb)).trans q) ⟨_,e⟩ ?_
 exact⟨hz,its',n',r,e⟩
def Am4:V->V->V->Hp->(Hp->Prop)->Prop:=λo i v H Q=>∃ p xs k j,o=.ref p/\i=.int k/\H p=some (.lst xs)/\ixN xs.length k=some j/\Q (upd H p (.lst (xs.set j v)))
theorem set_list:Ak1 X Am4:=by
 intro pins s σ H o i v ov iv u Q I ro ri rv h
 obtain⟨p,xs,k,j,rfl,rfl,hp,hj,q⟩:=h
 cases ro
 obtain⟨t,rfl⟩:=ri
 obtain⟨its,n,r,ho,hz⟩:=I.lst hp
 obtain⟨h1,h2,h3,h4⟩:=AdR hj
 have hl:=r.length
 have hn:=Qd
 have I':Inv X pins σ (upd H p (.lst (xs.set j v))) { s with heap:=s.heap.update p (Obj.mapSeq (·.setIfInBounds j u)) } :=
  I.AkK hp ho (Ada its n j u) (r.set rv j) (by rw[List.length_set];exact hz) s.toks
 by_cases h0:0<=k
 ·have hk:k.toNat=j:=by
   rw[seqIndex_of h0 h4] at h1
   exact Option.some.inj h1
  exact W.ki_setAt ho h0 (by omega) (by rw[Aqh,<- hl];exact h4) (by rw[hk];exact⟨_,I',q⟩)
 ·have hk:(k+(its.toArray.size:Int)).toNat=j:=by
   rw[seqIndex_neg (by omega) h3] at h1
   rw[Aqh,<- hl]
   exact Option.some.inj h1
  exact W.ki_setBack ho (by omega) (by rw[Aqh,<- hl];exact h3) (by omega) (by rw[hk];exact⟨_,I',q⟩)
theorem Aa8(lo hi:Option Int)(n:Nat):(sliceBounds lo hi none n).1=((HT.sIx n 0 lo:Nat):Int)/\(sliceBounds lo hi none n).2.1=((HT.sIx n n hi:Nat):Int)/\(sliceBounds lo hi none n).2.2=1:=by
 refine⟨?_,?_,rfl⟩
 ·cases lo with
  | none=>simp[sliceBounds,HT.sIx]
  | some i =>
   simp only [sliceBounds,HT.sIx,Option.getD_none,show(1:Int)>0 by decide,if_true]
   by_cases h:i<0
   ·simp only [h,if_true] <;> omega
   ·simp only [h,if_false] <;> omega
 ·cases hi with
  | none=>simp[sliceBounds,HT.sIx]
  | some i =>
   simp only [sliceBounds,HT.sIx,Option.getD_none,show(1:Int)>0 by decide,if_true]
   by_cases h:i<0
   ·simp only [h,if_true] <;> omega
   ·simp only [h,if_false] <;> omega
theorem Zc(its:List Value)(lo hi:Option Int):slicePick its.toArray lo hi none=((its.drop (HT.sIx its.length 0 lo)).take (HT.sIx its.length its.length hi-HT.sIx its.length 0 lo)).toArray:=by
 obtain⟨h1,h2,h3⟩:=Aa8 lo hi its.toArray.size
 unfold slicePick
 rw[h1,h2,h3]
 simp only [sliceRange_one,pick_run,Aqh] <;> rfl
def Am5 (K:W.Frag):V->Option Int->Option Int->Hp->VK->Prop:=λx lo hi H Q=>∃ a xs,x=.ref a/\SqL K H a xs/\∀ p,H p=none->Q (.ref p) (upd H p (.lst (AcZ xs lo hi)))
theorem Ai2:SlR X (Am5 X.K):=by
 intro pins s σ H x v vl vu lo hi sl Q I rx hs pl pu h
 obtain⟨a,xs,rfl,hx,q⟩:=h
 cases rx
 obtain⟨its,r,ht,hz⟩:=I.list hx
 have hlen:=r.length
 refine⟨"list", _,slot_list_getitem.lookup,ht.isList.typeIs,?_⟩
 refine wpAny_getItem_list_slice ht.isList hs pl pu .none (by simp) ?_ (by rw[Aqh] <;> omega)
 rw[Zc,<- hlen]
 refine⟨.ref s.heap.objs.size,_,I.laid (t':=s.toks) (o:=.lst (AcZ xs lo hi)) (λb ob q=>zB _ q) (ApR _) ?_,rfl,q _ (I.hok.fresh (ApR _))⟩
 exact⟨Aqn (AbA xs lo hi) hz,_,0,(r.drop (HT.sIx xs.length 0 lo)).take (HT.sIx xs.length xs.length hi-HT.sIx xs.length 0 lo),zD _ rfl⟩
def Em:V->Bool
 | .non=>true
 | .bl _=>true
 | .int _=>true
 | .str _=>true
 | _=>false
def eqV:V->V->Bool
 | .non,.non=>true
 | .bl a,.bl b=>a == b
 | .bl a,.int b=>(if a then 1 else 0) == b
 | .int a,.bl b=>a == (if b then 1 else 0)
 | .int a,.int b=>a == b
 | .str a,.str b=>a == b
 | _,_=>false
theorem AkL{A:Around}{s:Shared}{y x:V}{u v:Value}(ry:RelV y u)(rx:RelV x v)(fy:Em y=true)(fx:Em x=true):SeqAt.EqAt A s u v (eqV y x):=by
 cases y with
 | non =>
  cases ry
  cases x with
  | non=>cases rx;exact SeqAt.EqAt.same _
  | bl b=>cases rx;exact SeqAt.EqAt.none_bool b
  | int b=>obtain⟨t,rfl⟩:=rx;exact SeqAt.EqAt.none_int b t
  | str b=>obtain⟨t,rfl⟩:=rx;exact SeqAt.EqAt.none_str b t
  | _=>exact absurd (show false=true from fx) Aqe
 | bl a =>
  cases ry
  cases x with
  | non=>cases rx;exact SeqAt.EqAt.bool_none a
  | bl b=>cases rx;exact SeqAt.EqAt.bool_bool a b
  | int b=>obtain⟨t,rfl⟩:=rx;exact SeqAt.EqAt.bool_int a b t
  | str b=>obtain⟨t,rfl⟩:=rx;exact SeqAt.EqAt.bool_str a b t
  | _=>exact absurd (show false=true from fx) Aqe
 | int a =>
  obtain⟨t',rfl⟩:=ry
  cases x with
  | non=>cases rx;exact SeqAt.EqAt.int_none a t'
  | bl b=>cases rx;exact SeqAt.EqAt.int_bool a t' b
  | int b=>obtain⟨t,rfl⟩:=rx;exact SeqAt.EqAt.int_int a t' b t
  | str b=>obtain⟨t,rfl⟩:=rx;exact SeqAt.EqAt.int_str a t' b t
  | _=>exact absurd (show false=true from fx) Aqe
 | str a =>
  obtain⟨t',rfl⟩:=ry
  cases x with
  | non=>cases rx;exact SeqAt.EqAt.str_none a t'
  | bl b=>cases rx;exact SeqAt.EqAt.str_bool a t' b
  | int b=>obtain⟨t,rfl⟩:=rx;exact SeqAt.EqAt.str_int a t' b t
  | str b=>obtain⟨t,rfl⟩:=rx;exact SeqAt.EqAt.str_str a t' b t
  | _=>exact absurd (show false=true from fx) Aqe
 | _=>exact absurd (show false=true from fy) Aqe
def eqU (x:V)(u:Value):Bool:=match u with
 | .none=>eqV .non x
 | .bool b=>eqV (.bl b) x
 | .int i _=>eqV (.int i) x
 | .str z _=>eqV (.str z) x
 | _=>false
theorem Agr{x y:V}{u:Value}(r:RelV y u)(f:Em y=true):eqU x u=eqV y x:=by
 cases y with
 | non=>cases r;rfl
 | bl b=>cases r;rfl
 | int i=>obtain⟨t,rfl⟩:=r;rfl
 | str z=>obtain⟨t,rfl⟩:=r;rfl
 | _=>exact absurd (show false=true from f) Aqe
theorem Q6{x:V}:∀{xs:List V} {us:List Value},Vals xs us->xs.all Em=true->us.any (eqU x)=xs.any λy=>eqV y x
 | _,_,.nil,_=>rfl
 | y::xs,u::us,.cons r t,f=>by
  rw[List.all_cons,Aq7] at f
  rw[Arb,Arb,Agr r f.1,Q6 t f.2]
theorem LC{A:Around}{s:Shared}{x:V}{v:Value}(rx:RelV x v)(fx:Em x=true):∀{xs:List V} {us:List Value},Vals xs us->xs.all Em=true->∀ u∈us,SeqAt.EqAt A s u v (eqU x u)
 | _,_,.nil,_=>λu hu=>by cases hu
 | y::xs,u::us,.cons r t,f=>λu' hu=>by
  rw[List.all_cons,Aq7] at f
  rcases yH.mp hu with rfl | hu
  ·rw[Agr r f.1];exact AkL r rx f.1 fx
  ·exact LC rx fx t f.2 u' hu
def inV (x:V)(xs:List V):Bool:=xs.any λy=>eqV y x
def rIn (K:W.Frag)(neg:Bool):R2:=λx y H Q=>∃ p xs,y=.ref p/\(SqL K H p xs\/SqT K H p xs)/\Em x=true/\xs.all Em=true/\Q (.bl (if neg then !inV x xs else inV x xs)) H
theorem AeZ:OpR X (compareOp .In) (rIn X.K false):=by
 intro pins s σ H x y v u Q I rx ry h
 obtain⟨p,xs,rfl,hq,fx,fs,q⟩:=h
 cases ry
 rcases hq with hq | hq
 ·obtain⟨its,r,pl,hz⟩:=I.list hq
  refine SeqAt.in_listAt (eqU x) pl.isList (λw hw=>LC rx fx r fs w (by simpa using hw)) ⟨.bl _,H,I,rfl,?_⟩
  rw[show its.toArray.any (eqU x)=its.any (eqU x) by simp,Q6 r fs]
  exact q
 ·obtain⟨its,r,pl,hz⟩:=I.tuple hq
  refine SeqAt.in_tupleAt (eqU x) pl (λw hw=>LC rx fx r fs w (by simpa using hw)) ⟨.bl _,H,I,rfl,?_⟩
  rw[show its.toArray.any (eqU x)=its.any (eqU x) by simp,Q6 r fs]
  exact q
theorem Aa9:OpR X (compareOp .NotIn) (rIn X.K true):=by
 intro pins s σ H x y v u Q I rx ry h
 obtain⟨p,xs,rfl,hq,fx,fs,q⟩:=h
 cases ry
 rcases hq with hq | hq
 ·obtain⟨its,r,pl,hz⟩:=I.list hq
  refine SeqAt.notIn_listAt (eqU x) pl.isList (λw hw=>LC rx fx r fs w (by simpa using hw)) ⟨.bl _,H,I,rfl,?_⟩
  rw[show its.toArray.any (eqU x)=its.any (eqU x) by simp,Q6 r fs]
  exact q
 ·obtain⟨its,r,pl,hz⟩:=I.tuple hq
  refine SeqAt.notIn_tupleAt (eqU x) pl (λw hw=>LC rx fx r fs w (by simpa using hw)) ⟨.bl _,H,I,rfl,?_⟩
  rw[show its.toArray.any (eqU x)=its.any (eqU x) by simp,Q6 r fs]
  exact q
theorem AaA:Et X (.builtin "len") (λxs H Q=>∃ p ys,xs=[.ref p]/\(SqL X.K H p ys\/SqT X.K H p ys)/\Q (.int ys.length) H):=by
 intro pins s σ H xs us Q I r h
 obtain⟨p,ys,rfl,hq,q⟩:=h
 obtain⟨u,rfl,rx⟩:=vals1 r
 cases rx
 have hn:=Qd
 rcases hq with hq | hq
 ·obtain⟨its,r',pl,hz⟩:=I.list hq
  have hlen:=r'.length
  exact Calls.call_len_list pl.isList (by simp only [Aqh] <;> omega) ⟨.int ys.length,H,I.tok _,⟨s.toks+1,by rw[Aqh,hlen]⟩,q⟩
 ·obtain⟨its,r',pl,hz⟩:=I.tuple hq
  have hlen:=r'.length
  exact len_tuple pl (by simp only [Aqh] <;> omega) ⟨.int ys.length,H,I.tok _,⟨s.toks+1,by rw[Aqh,hlen]⟩,q⟩
theorem Bt:Et X (.builtin "len") (λxs H Q=>∃ z,xs=[.str z]/\z.length<=sizeLine/\Q (.int z.length) H):=by
 intro pins s σ H xs us Q I r h
 obtain⟨z,rfl,hz,q⟩:=h
 obtain⟨u,rfl,t,rfl⟩:=vals1 r
 have hn:=Qd
 exact len_str (by omega) ⟨.int z.length,H,I.tok _,⟨_,rfl⟩,q⟩
theorem AaB:Et X (.type "list") (λxs H Q=>∃ p ys,xs=[.ref p]/\(SqL X.K H p ys\/SqT X.K H p ys)/\∀ l,H l=none->Q (.ref l) (upd H l (.lst ys))):=by
 intro pins s σ H xs us Q I r h
 obtain⟨p,ys,rfl,hq,q⟩:=h
 obtain⟨u,rfl,rx⟩:=vals1 r
 cases rx
 have fin:∀(its:List Value),Vals ys its->ys.length<=sizeLine->∀(h':Heap) (c':Nat),(∀ b o',s.heap.get? b=some o'->h'.get? b=some o') ->
   h'.get? s.heap.objs.size=some { cls:=.type "list", dict:=none,data:=.seq its.toArray c',slots:=#[] }->EP X pins σ Q (.ref s.heap.objs.size) { s with heap:=h' }:=λits r' hz h' c' kp e =>
  ⟨.ref s.heap.objs.size,_,I.laid (t':=s.toks) kp (ApR _) (show Es X.prog X.w _ h' _ (.lst ys) from⟨hz,its,c',r',e⟩),rfl,q _ (I.hok.fresh (ApR _))⟩
 rcases hq with hq | hq
 ·obtain⟨its,r',pl,hz⟩:=I.list hq
  have hlen:=r'.length
  obtain⟨o,ho,hc,n,hd⟩:=pl.isList
  exact call_list_seq p (.inl rfl) ho hc hd (λh' c' kp e=>fin its r' hz h' c' kp e) (by simp only [Aqh] <;> omega)
 ·obtain⟨its,r',pl,hz⟩:=I.tuple hq
  have hlen:=r'.length
  obtain⟨o,ho,hc,n,hd⟩:=pl
  exact call_list_seq p (.inr rfl) ho hc hd (λh' c' kp e=>fin its r' hz h' c' kp e) (by simp only [Aqh] <;> omega)
def tyV (K:W.Frag)(T:String)(x:V)(H:Hp):Prop:=match x with
 | .str _=>T = "str"
 | .int _=>T = "int"
 | .ref p=>(T = "list" /\ ∃ xs,SqL K H p xs)\/(T = "tuple" /\ ∃ o,K.lookup p=some o/\o.cls=.type "tuple" /\ o.dict=none) \/
   (T = "dict" /\ ((∃ kvs,H p=some (.dK kvs))\/∃ kvs,H p=some (.dT kvs)))\/(T = "set" /\ ∃ S n,H p=some (.set S n))
 | _=>False
theorem AkM{pins:List (Addr × Obj)}{σ:St}{H:Hp}{s:Shared}{T:String}{x:V}{v:Value}(I:Inv X pins σ H s)(r:RelV x v)(ty:tyV X.K T x H) :
  s.TypeIs v T/\∀ a,v=.ref a->∃ ob,s.heap.get? a=some ob/\ob.dict=none:=by
 cases x with
 | str z =>
  obtain⟨t,rfl⟩:=r
  cases (show T = "str" from ty)
  exact⟨typeIs_str s z t,λ_ e=>nomatch e⟩
 | int i =>
  obtain⟨t,rfl⟩:=r
  cases (show T = "int" from ty)
  exact⟨typeIs_int s i t,λ_ e=>nomatch e⟩
 | ref p =>
  cases r
  rcases ty with ⟨rfl,xs,hq⟩ | ⟨rfl,o,hk,hc,hd⟩ | ⟨rfl,hk⟩ | ⟨rfl,S,n,hk⟩
  ·obtain⟨its,_,pl,_⟩:=I.list hq
   refine⟨pl.isList.typeIs,λa e=>?_⟩
   cases e
   obtain⟨o,n,e,c,hd,_⟩:=pl
   exact⟨o,e,hd⟩
  ·refine⟨⟨o,I.kIn p o hk,hc⟩,λa e=>?_⟩
   cases e
   exact⟨o,I.kIn _ o hk,hd⟩
  ·have z:∃ o,s.heap.get? p=some o/\o.ExactDict:=by
    rcases hk with ⟨kvs,hk⟩ | ⟨kvs,hk⟩
    ·obtain⟨_,_,_,_,o,_,_,e,ex,_⟩:=I.hok p _ hk
     exact⟨o,e,ex⟩
    ·obtain⟨_,_,_,_,o,_,_,e,ex,_⟩:=I.hok p _ hk
     exact⟨o,e,ex⟩
   obtain⟨o,e,ex⟩:=z
   refine⟨⟨o,e,ex.1⟩,λa e2=>?_⟩
   cases e2
   exact⟨o,e,ex.2.1⟩
  ·obtain⟨o,_,_,_,e,ex,_⟩:=I.hok p _ hk
   refine⟨⟨o,e,ex.1⟩,λa e2=>?_⟩
   cases e2
   exact⟨o,e,ex.2.1⟩
 | _=>exact False.elim ty
def Apy (K:W.Frag)(T:String)(r:V->List V->Hp->VK->Prop)(to:TE):TE:=λσ H Q=>to σ H λx H1=>tyV K T x H1/\r x [] H1 Q
def tBM (K:W.Frag)(T:String)(r:V->List V->Hp->VK->Prop)(to:TE)(t:TA):TE:=λσ H Q=>to σ H λx H1=>tyV K T x H1/\t σ H1 λxs H2=>r x xs H2 Q
variable {o e:Expr}{es:List Expr}{to:TE}{t:TA}{name:Str}{apos cpos:Pos}{T id:String}{r:V->List V->Hp->VK->Prop}
theorem Am6(pa:PlainAttrs T)(slot:Slot T name id)(hty:typeOf (.builtin id)=pure (.type "method_descriptor")) (hm:MtR X id r) (ho:PE X o to) (ha:PA X (e::es) t)
  (hbase:attributeBase o name X.env (eval o X.env)=eval o X.env:=by rfl)
  (hfew:((backTo cpos (starEach (e::es) X.env)).all (λx=>!x.1) && (backToKw cpos (keywordEach [] X.env)).all (λx=>x.1.isSome)
   && decide ((e::es).length+([]:List Keyword).length+(if ([]:List Keyword).isEmpty then 0 else 1)<30))=true:=by rfl)
  (hline:(apos.endLine == cpos.line)=true:=by rfl) (hs:starEach (e::es) X.env=(false,eval e X.env)::starEach es X.env:=by rfl) (hplain:(backTo cpos (starEach es X.env)).any (·.1)=false:=by rfl) :
  PE X (.Call (.Attribute o name apos) (e::es) [] cpos) (tBM X.K T r to t):=by
 intro pins s σ H Q I h
 refine wpAny_Call_method_late hbase hfew hline rfl (thn (ho pins s σ H _ I h) λv s1 ⟨x,H1,I1,r1,ty,q1⟩=>?_)
 obtain⟨h1,h2⟩:=AkM I1 r1 ty
 refine⟨T,id,pa,slot,hty,h1,h2,?_⟩
 have hA:=ha cpos pins s1 σ H1 _ I1 q1
 rw[hs] at hA ⊢
 refine Calls.callWith_builtin (by show(false || (backTo cpos (starEach es X.env)).any (·.1))=false;rw[hplain] <;> rfl) (Calls.evalArgs_plain ?_)
 exact thn hA λus s2 ⟨vs,H2,I2,r2,q2⟩=>hm pins s2 σ H2 x vs v us Q I2 r1 r2 q2
end
def MtM (X:Cx)(id:String)(r:V->List V->Hp->VK->Prop):Prop :=
 ∀(pins:List (Addr × Obj)) (s:Shared) (σ:St) (H:Hp) (x:V) (xs:List V) (v:Value) (us:List Value) (Q:VK),Inv X pins σ H s->RelV x v->Vals xs us->r x xs H Q ->
  wpAny (model X.prog X.w) X.A (call (.builtin id) (v::us)) (EP X pins σ Q) X.xe s
theorem Vals.one:∀{x:V} {us:List Value},Vals [x] us->∃ u,us=[u]/\RelV x u
 | _,_,.cons r .nil=>⟨_,rfl,r⟩
theorem Vals.two:∀{x y:V} {us:List Value},Vals [x,y] us->∃ u v,us=[u,v]/\RelV x u/\RelV y v
 | _,_,_,.cons r (.cons q .nil)=>⟨_,_,rfl,r,q⟩
theorem Vals.rep{xs:List V}{us:List Value}(h:Vals xs us):∀ k:Nat,Vals (List.replicate k xs).flatten (List.replicate k us).flatten
 | 0=>.nil
 | k+1=>by
  rw[Aq6,Aq6,Aqg,Aqg]
  exact Vals.append h (Vals.rep h k)
theorem foldl_rep(its:List Value):∀(k:Nat) (acc:List Value),
  List.foldl (λx1 x2=>x1++x2) acc.toArray (List.replicate k its.toArray)=(acc++(List.replicate k its).flatten).toArray
 | 0,acc=>by simp
 | k+1,acc=>by
  have e:acc.toArray++its.toArray=(acc++its).toArray:=by simp
  have e2:(acc++its)++(List.replicate k its).flatten=acc++(List.replicate (k+1) its).flatten:=by
   rw[Aq6,Aqg,Aqz]
  rw[<- e2,<- foldl_rep its k (acc++its),<- e,Aq6,Aro]
section
variable {X:Cx}{pins:List (Addr × Obj)}{σ:St}{H:Hp}{s:Shared}{l b:Addr}{xs ys zs:List V}
theorem Inv.Am7{its its':List Value}{n:Nat}{f:Array Value->Array Value}{t':Nat}(I:Inv X pins σ H s)(hH:H l=some (.lst xs))
  (e:s.heap.get? l=some { cls:=.type "list", data:=.seq its.toArray n }) (hf:f its.toArray=its'.toArray) (hv:Vals ys its') (hz:ys.length<=sizeLine) :
  Inv X pins σ (upd H l (.lst ys)) { s with heap:=s.heap.update l (Obj.mapSeq f),toks:=t' }:=by
 have q:=PySem.IsL.update e f
 rw[hf] at q
 refine I.write (x:=l) (e:=l) (by rw[hH];exact trivial) (.inl rfl) (λb' u hb hu=>(zH s.heap (Obj.mapSeq f) (Ne.symm hb)).trans hu) ⟨_,q⟩ ?_
 exact⟨hz,its',_,hv,q⟩
theorem Inv.Aoh{its:List Value}{t':Nat}(I:Inv X pins σ H s)(hv:Vals ys its)(hz:ys.length<=sizeLine) :
  Inv X pins σ (upd H s.heap.objs.size (.lst ys)) { s with heap:=s.heap.push { cls:=.type "list", data:=.seq its.toArray },toks:=t' } :=
 I.laid (λ_ _ q=>zB _ q) (ApR _) ⟨hz,its,0,hv,zD _ rfl⟩
theorem Inv.fresh(I:Inv X pins σ H s):H s.heap.objs.size=none:=I.hok.fresh (ApR _)
theorem Inv.Ags(I:Inv X pins σ H s)(hH:H l=some (.lst xs)):xs.length<=sizeLine/\∃(its:List Value) (n:Nat),Vals xs its/\xs.length=its.length/\s.heap.get? l=some { cls:=.type "list", data:=.seq its.toArray n }:=by
 obtain⟨z,its,n,r,e⟩:=I.hok l _ hH
 exact⟨z,its,n,r,r.length,e⟩
theorem AbC{n:Nat}(h:n<=sizeLine):Builtin.List.listTooLong n=false:=by
 unfold Builtin.List.listTooLong
 exact zJ (by omega)
end
section
variable {X:Cx}
def Ai3:V->List V->Hp->VK->Prop:=λx vs H Q=>∃ l xs y,x=.ref l/\vs=[y]/\H l=some (.lst xs)/\xs.length<sizeLine/\Q .non (upd H l (.lst (xs++[y])))
theorem Cq:MtM X "list.append" Ai3:=by
 intro pins s σ H x vs v us Q I rx rv h
 obtain⟨l,xs,y,rfl,rfl,hH,hz,q⟩:=h
 cases rx
 obtain⟨u,rfl,ru⟩:=rv.one
 obtain⟨z,its,n,r,hl,e⟩:=I.Ags hH
 refine call_meets zL ⟨_,e,rfl⟩ F.entry_list_append (F.args_list_append_2 _ _) (PySem.list_append l its.toArray n u (by rw[Aqh];omega)) ⟨e,?_⟩
 refine⟨.non,_,I.Am7 (its':=its++[u]) hH e (by simp) (r.append (.cons ru .nil)) ?_,rfl,q⟩
 rw[ApQ,Aq0]
 omega
def Ai4:V->List V->Hp->VK->Prop:=λx vs H Q=>∃ l b xs zs,x=.ref l/\vs=[.ref b]/\H l=some (.lst xs)/\H b=some (.lst zs)/\xs.length+zs.length<=sizeLine/\Q .non (upd H l (.lst (xs++zs)))
theorem Z7:MtM X "list.extend" Ai4:=by
 intro pins s σ H x vs v us Q I rx rv h
 obtain⟨l,b,xs,zs,rfl,rfl,hH,hB,hz,q⟩:=h
 cases rx
 obtain⟨u,rfl,ru⟩:=rv.one
 cases ru
 obtain⟨z,its,n,r,hl,e⟩:=I.Ags hH
 obtain⟨z2,its2,n2,r2,hl2,e2⟩:=I.Ags hB
 have hsz:its.toArray.size+its2.toArray.size<=sizeLine:=by rw[Aqh,Aqh];omega
 have Agt:¬(!its.toArray.isEmpty && Builtin.List.listTooLong (its.toArray.size+its2.toArray.size))=true:=by
  rw[AbC hsz,Bool.and_false]
  exact Aqe
 refine call_meets F.slot_list_extend ⟨_,e,rfl⟩ F.entry_list_extend (F.args_list_extend_2 _ _)
  (AutoSeq1.list_extend_list_list_0 l its.toArray n b its2.toArray n2 Agt (by rw[Aqh];omega) (by omega)) ⟨e,e2,?_⟩
 refine⟨.non,_,I.Am7 (its':=its++its2) hH e (by simp) (r.append r2) ?_,rfl,q⟩
 rw[ApQ]
 omega
def Apz:V->List V->Hp->VK->Prop:=λx vs H Q=>∃ l xs y,x=.ref l/\vs=[]/\H l=some (.lst xs)/\xs[xs.length-1]?=some y/\Q y (upd H l (.lst xs.dropLast))
def Aoi:V->List V->Hp->VK->Prop:=λx vs H Q=>∃ l xs i k y,x=.ref l/\vs=[.int i]/\H l=some (.lst xs) /\ -(2 ^ 63)<=i/\i<2 ^ 63/\seqIndex? i xs.length=some k/\xs[k]?=some y/\Q y (upd H l (.lst (xs.eraseIdx k)))
def Am8:V->List V->Hp->VK->Prop:=λx vs H Q=>∃ l xs,x=.ref l/\vs=[]/\H l=some (.lst xs)/\Q .non (upd H l (.lst xs.reverse))
def Aoj:V->List V->Hp->VK->Prop:=λx vs H Q=>∃ l xs,x=.ref l/\vs=[]/\H l=some (.lst xs)/\Q .non (upd H l (.lst []))
def Ap0:R2:=λx y H Q=>∃ l b xs zs,x=.ref l/\y=.ref b/\H l=some (.lst xs)/\H b=some (.lst zs)/\xs.length+zs.length<=sizeLine/\∀ p,H p=none->Q (.ref p) (upd H p (.lst (xs++zs)))
def Aok:R2:=λx y H Q=>∃ l k xs,x=.ref l/\y=.int k/\H l=some (.lst xs) /\ -(2 ^ 63)<=k/\k<2 ^ 63/\xs.length*k.toNat<=sizeLine /\
 ∀ p,H p=none->Q (.ref p) (upd H p (.lst (List.replicate k.toNat xs).flatten))
theorem len_rep{α:Type}(xs:List α)(k:Nat):(List.replicate k xs).flatten.length=k*xs.length:=by
 induction k with
 | zero=>simp
 | succ k ih=>rw[Aq6,Aqg,ApQ,ih,Nat.succ_mul,Nat.add_comm]
theorem AkN:OpR X (binaryOp .Mult) Aok:=by
 intro pins s σ H x y v u Q I rx ry h
 obtain⟨l,k,xs,rfl,rfl,hH,h1,h2,hz,q⟩:=h
 cases rx
 obtain⟨t,rfl⟩:=ry
 obtain⟨z,its,n,r,hl,e⟩:=I.Ags hH
 have hlen:its.toArray.size*k.toNat<=sizeLine:=by rw[Aqh,<- hl];exact hz
 have Aol:¬its.toArray.size*k.toNat>(2 ^ 63-1) / 8:=by
  have:(sizeLine:Nat)<=(2 ^ 63-1) / 8:=by decide
  omega
 have hfit:¬(!Builtin.List.listFitsIndex k)=true:=by
  rw[fitsIndex_both h1 h2]
  exact Aqe
 have Agt:¬Builtin.List.listTooLong (its.toArray.size*k.toNat)=true:=by
  rw[AbC hlen]
  exact Aqe
 have hnew:List.foldl (λx1 x2=>x1++x2) #[] (List.replicate (if its.toArray.isEmpty=true then 0 else k.toNat) its.toArray)=(List.replicate k.toNat its).flatten.toArray:=by
  have f0:∀ m:Nat,List.foldl (λx1 x2=>x1++x2) #[] (List.replicate m its.toArray)=(List.replicate m its).flatten.toArray:=λm=>by
   have:=foldl_rep its m []
   rw[List.nil_append] at this
   exact this
  rw[f0]
  cases its with
  | nil=>simp
  | cons a r'=>rw[if_neg (by simp)]
 refine wpAny_binaryOp_repeat_ref (T := "list") (U := "int") (by decide) ⟨_,e,rfl⟩ (λs'=>typeIs_int s' k t) noFill_list_mul F.fills_int_mul F.slot_int_rmul repeat_list F.slot_int_index.lookup
  (call_meets F.slot_int_rmul (typeIs_int s k t) F.entry_int_rmul (F.args_int_rmul_2 _ _) (int___rmul___int_list k t l its.toArray n)
   ⟨e,rfl,⟨_,e,rfl⟩,call_meets F.slot_list_mul ⟨_,e,rfl⟩ F.entry_list_mul (F.args_list_mul_2 _ _) (AutoListH.list___mul___list_int_3 l its.toArray n k t hfit Aol Agt) ⟨e,?_⟩⟩)
 rw[hnew]
 exact⟨.ref _,_,I.Aoh (t':=s.toks) (r.rep k.toNat) (by rw[len_rep,Nat.mul_comm];exact hz),rfl,q _ I.fresh⟩
end
end L2
namespace Att
open PySem PySem.W PySem.Calls PyProof.Rows
theorem VP{P:Params}{h:Heap}:∀(ns:List Int) (vs:List Value),WellAll P h vs (ns.map WData.int)->IntsAre vs ns:=by
 intro ns
 induction ns with
 | nil =>
  intro vs w
  rw[AqD] at w
  cases w
  exact .nil
 | cons n ns ih =>
  intro vs w
  rw[ApT] at w
  cases w with
  | cons a b =>
   cases a
   exact .cons _ _ (ih _ b)
theorem Afa{l:OpenLaw}{n:Nat}(hn:l.most=some n){P:Params}{h:Heap}{args:List WData}{vals:List Value}
  (hpre:l.row.toRowW.claim.pre args=true) (hwl:WellAll P h vals args) :
  ∃ a vs ns,vals=[Value.ref a]/\args=[WData.list (ns.map WData.int)]/\h.get? a=some { cls:=.type "list", data:=.seq vs.toArray }/\IntsAre vs ns/\ns.length<=n:=by
 have hsh:WShape.hasAll [] args [.list .int]=true:=(pre_splitW hpre).1
 have hc:l.pre.holds [] { args:=args }=true:=(pre_splitW hpre).2
 obtain⟨d,r,rfl,h1,h2⟩:=hasAllW_cons hsh
 obtain rfl:=hasAllW_nil h2
 obtain⟨xs,rfl,h3⟩:=hasW_list h1
 obtain⟨ns,rfl⟩:=items_int h3
 have hlen:ns.length<=n:=by
  unfold OpenLaw.pre at hc
  have h4:(WTm.not (.lt (.lit (.int (n:Int))) (.len (.arg 0)))).holds [] { args:=[.list (ns.map .int)] }=true:=by
   have h4:=(holds_andW hc).1
   rw[hn] at h4
   exact h4
  have h5:=condW_of h4 (w_not (w_lt w_lit (w_len_list (w_arg rfl))))
  rw[ApO] at h5
  refine Nat.le_of_not_lt λq=>?_
  have q':(n:Int)<((ns.length:Nat):Int):=by omega
  first
   | (rw[zN q'] at h5;exact absurd h5 (by decide))
   | (simp at h5;omega)
 cases hwl with
 | cons w1 w2 =>
  cases w2
  cases w1 with
  | list ho hall=>exact⟨_,_,ns,rfl,rfl,ho,VP ns _ hall,hlen⟩
theorem Afb(l:OpenLaw)(args:List WData):l.row.toRowW.claim.post args (.bool true) args=true :=
 postW_of (r:=l.row.toRowW) (X:=(true == true))
  (show WShape.has [] (.bool true) .bool=true by first | rfl | decide | simp[WShape.has,WShape.arms,WShape.armsAll])
  (show(WTm.eq .res (.lit (.bool true))).value [] { args:=args,res:=some (.bool true),after:=args }=some (.bool (true == true)) from w_eq_bool (w_res rfl) w_lit) rfl
theorem AbD{l:OpenLaw}{n:Nat}{q:Program}{loose:List Str}{XP:(Str->Option Value)->Heap->Prop}{YP:World->Heap->Prop}{d:DefRec}
  (hn:l.most=some n) (hdf:d.params.defaults=[])
  (call:∀(w:World) (s₀ s₁:Shared) (mg mb:Str->Option Value) (fa:Addr) (o:Obj) (pm cd doc:Value) (a:Addr) (vs:List Value) (ns:List Int),
   Ground q loose [] XP w s₀ mg mb s₁.heap->YP w s₁.heap ->
   s₁.heap.get? fa=some o->o.data=.func (docDef d.name d.params d.body d.scope pm cd doc)->s₁.heap.CodeRec cd d.name->mg d.name=some (.ref fa) ->
   s₁.heap.get? a=some { cls:=.type "list", data:=.seq vs.toArray }->IntsAre vs ns->ns.length<=n->s₁.gens=#[] ->
   codeAny (model l.prog w) callerA (.call (.ref fa) ⟨[.ref a],[]⟩) (λr s'=>r=.ok (.ret (.bool true))/\OldK s₁.heap s'.heap/\s'.os=s₁.os/\AllBare s'.gens) s₁) :
  WalkO q loose XP YP l.row.toRowW d [] (λf vs=>PySem.call f vs):=by
 intro w s₀ s₁ mg mb G Y fa o pm cd doc dV kV ho hd hcd hD hmg hg args vals as hpre hlay hrd hwl hlo
 obtain rfl:dV=.none:=Dflts.none hD hdf
 obtain rfl:kV=.none:=Dflts.noKw hD
 obtain⟨a,vs,ns,rfl,rfl,hobj,hints,hlen⟩:=Afa hn hpre hwl
 refine enter_call (codeAny_mono (call w s₀ s₁ mg mb fa o pm cd doc a vs ns G Y ho (fd_plain hd) hcd hmg hobj hints hlen hg) λr s' hq=>?_)
 obtain⟨rfl,h2,h3,h4⟩:=hq
 exact⟨.inl ⟨.bool true,.bool true,[],rfl,λ_=>rfl,.bool true,Afb l _,λ_=>⟨List.Pairwise.nil,λ_ hm=>(nomatch hm)⟩⟩,h2,h3,h4⟩
section
variable {prog:Program}{w:World}{A:Around}{E:Value->Shared->Prop}{s:Shared}{K:Frag}
def Aom (h:Heap):Heap:={ h with objs:=#[] }
def ledger(h:Heap)(L d:Addr):List (Addr × Obj):=(List.range h.objs.size).filterMap λa=>if a=L\/a=d then none else (h.get? a).map λo=>(a,o)
end
end Att
namespace L2
open PySem PySem.Spec PyProof.Rows
theorem Tt:∀{vs:List Value} {ns:List Int},IntsAre vs ns->Vals (ns.map V.int) vs
 | _,_,.nil=>.nil
 | _,_,.cons n t h=>.cons ⟨t,rfl⟩ (Tt h)
def Only(H:Hp):Prop:=∀ b,H b=none\/∃ o xs,H b=some (.frz o (.lst xs))
theorem Agu{P:Program}{w:World}{K:W.Frag}{mg mb:Str->Option Value}{CX:CXT}{k:Nat}{fa a:Addr}{fd:FuncData}{x:Str}{sp:Sp}{s₁:Shared}{vs:List Value}{ns:List Int}
  (KX:K.In s₁.heap) (hns:s₁.heap.Ns mainGlobals mg) (hb:s₁.heap.Ns builtinsNs mb) (hbb:∀ x:Str,x ≠ "__name__" -> mb x=bootBuiltins x) (hlim:s₁.heap.NoLimit) (hg:s₁.gens=#[])
  (ha:s₁.heap.get? a=some { cls:=.type "list", data:=.seq vs.toArray }) (hi:IntsAre vs ns) (hl:ns.length<=sizeLine) (hr:Gp k callerA)
  (F:∀ base:Heap,K.In base->base.Ns mainGlobals mg->Bd P w K mg base CX k fa fd [x] sp) (hbind:∀(s:Shared) (u:Value),BindsTo s fd ⟨[u],[]⟩ [(x,u)])
  (hsp:∀ H:Hp,Only H->SqL K H a (ns.map V.int)->sp [.ref a] H (λv _=>v=.bl true) λ_ _ _=>False)
  (hCX:∀ H e s',CX [] H s₁ (λ_ _ _=>False) e s'->False) :
  codeAny (model P w) callerA (.call (.ref fa) ⟨[.ref a],[]⟩) (λr s'=>r=.ok (.ret (.bool true))/\OldK s₁.heap s'.heap/\s'.os=s₁.os/\AllBare s'.gens) s₁:=by
 have rv:=Tt hi
 have lenV:=hi.length
 have core:∀ H:Hp,Only H->SqL K H a (ns.map V.int)->HOk P w H s₁.heap->(∀ b,H b≠none->b=a)->(H a≠none->K.lookup a=none) ->
   codeAny (model P w) callerA (.call (.ref fa) ⟨[.ref a],[]⟩) (λr s'=>r=.ok (.ret (.bool true))/\OldK s₁.heap s'.heap/\s'.os=s₁.os/\AllBare s'.gens) s₁:=by
  intro H hO hS hok hA hK
  have AdT:∀{b:Addr} {o:Obj},s₁.heap.get? b=some o->H b=none->(Aa3 s₁.heap H).get? b=some o:=λe n=>Agg e n
  have noA:∀{b:Addr} {o:Obj} {es:Array DictEntry} {ep:Nat},s₁.heap.get? b=some o->o.data=.dict es ep->H b=none:=λ{b o es ep} e d=>by
   cases q:H b with
   | none=>rfl
   | some u =>
    have e':b=a:=hA b (by rw[q];simp)
    subst e'
    rw[ha] at e;cases e
    have d':Data.seq vs.toArray _=Data.dict es ep:=d
    cases d'
  have nsK:∀{b:Addr} {m:Str->Option Value},s₁.heap.Ns b m->(Aa3 s₁.heap H).Ns b m:=λ{b m} ⟨o,es,ep,e,d,r⟩=>⟨o,es,ep,AdT e (noA e d),d,r⟩
  have hKb:K.In (Aa3 s₁.heap H):=λb o e=>AdT (KX b o e) (by
   cases q:H b with
   | none=>rfl
   | some u =>
    have e':b=a:=hA b (by rw[q];simp)
    subst e'
    rw[hK (by rw[q];simp)] at e;cases e)
  have hM:Mod K mg (Aa3 s₁.heap H):=⟨hKb,nsK hns,⟨mb,nsK hb,hbb⟩,let ⟨mc,h1,h2⟩:=hlim;⟨mc,nsK h1,h2⟩⟩
  have e0:AcY P w K mg (Aa3 s₁.heap H) callerA [] s₁ H:=⟨rfl,hM,λb o e=>Air e,AqH (AeP _ _),trivial,λb hb=>absurd (show b∈([]:List Addr) from hb) (by simp),hok,.of_eq hg⟩
  refine codeAny_mono ((F _ hKb (nsK hns)).run callerA [] s₁ H ⟨[.ref a],[]⟩ [.ref a] [.ref a] _ _ hr e0 (hbind s₁ (.ref a)) (.cons rfl .nil) (hsp H hO hS)) λr s' h=>?_
  cases r with
  | error e=>exact(hCX H e s' h).elim
  | ok fl =>
   cases fl with
   | next=>exact False.elim h
   | brk=>exact False.elim h
   | cont=>exact False.elim h
   | ret u =>
    obtain⟨v,H',os,bare,un,hok',r',q⟩:=h
    have q':v=.bl true:=q
    subst q'
    obtain rfl:u=Value.bool true:=r'
    refine⟨rfl,OldK.of_keep λb o e=>?_,os,bare⟩
    cases q:H b with
    | none=>exact un.keep b o e q (by intro z;exact absurd (show b∈([]:List Addr) from z) (by simp)) (by simp)
    | some u =>
     rcases hO b with z | ⟨ob,xs,z⟩
     ·rw[q] at z;cases z
     ·have z2:=un.PX b ob _ z
      obtain⟨e1,_⟩:=hok b _ z
      obtain⟨e2,_⟩:=hok' b _ z2
      rw[e] at e1;cases e1
      exact e2
 cases hk:K.lookup a with
 | some o =>
  have e:=KX a o hk
  rw[ha] at e
  cases e
  refine core (λ_=>none) (λ_=>.inl rfl) (.inr ⟨_,vs.toArray,_,hk,rfl,rfl,rfl,by rw[Aqh,lenV];exact hl,by simpa using rv⟩) (λb u z=>by have z':(none:Option HO)=some u:=z;cases z') (λb z=>absurd rfl z) λz=>absurd rfl z
 | none =>
  refine core (λb=>if b=a then some (.frz { cls:=.type "list", data:=.seq vs.toArray } (.lst (ns.map V.int))) else none) (λb=>?_) (.inl (.inr ⟨{ cls:=.type "list", data:=.seq vs.toArray },if_pos rfl⟩)) (λb u z=>?_) (λb z=>?_) λ_=>hk
  ·by_cases hb:b=a
   ·exact .inr ⟨_,_,if_pos hb⟩
   ·exact .inl (if_neg hb)
  ·by_cases hb:b=a
   ·have z':=(if_pos hb).symm.trans z
    cases z'
    subst hb
    exact⟨ha,by rw[ApO];exact hl,vs,_,rv,ha⟩
   ·have z':=(if_neg hb).symm.trans z
    cases z'
  ·by_cases hb:b=a
   ·exact hb
   ·exact absurd (if_neg hb) z
abbrev KOf {K:W.Frag} {h:Heap} (_:K.In h):W.Frag:=K
theorem Ai5{l:W.OpenLaw}{n k:Nat}{q:Program}{loose:List Str}{XP:(Str->Option Value)->Heap->Prop}{YP:World->Heap->Prop}{d:DefRec}{K:Params->W.Frag}{CX:World->CXT}{sp:World->Sp}{x:Str}
  (hn:l.most=some n) (hn2:n<=sizeLine) (hdf:d.params.defaults=[]) (hr:Gp k callerA)
  (hY:∀(w:World) (h:Heap),YP w h->(K w.params).In h)
  (F:∀(w:World) (mg:Str->Option Value) (fa:Addr) (h:Heap),(K w.params).In h->h.Ns mainGlobals mg->mg d.name=some (.ref fa) ->
   ∃ fd:FuncData,(∀(s:Shared) (u:Value),BindsTo s fd ⟨[u],[]⟩ [(x,u)]) /\
    ∀ base:Heap,(K w.params).In base->base.Ns mainGlobals mg->Bd l.prog w (K w.params) mg base (CX w) k fa fd [x] (sp w))
  (hsp:∀(w:World) (H:Hp) (a:Addr) (ns:List Int),ns.length<=n->Only H->SqL (K w.params) H a (ns.map V.int)->sp w [.ref a] H (λv _=>v=.bl true) λ_ _ _=>False)
  (hCX:∀(w:World) (H:Hp) (s:Shared) (e:Value) (s':Shared),CX w [] H s (λ_ _ _=>False) e s'->False) :
  W.WalkO q loose XP YP l.row.toRowW d [] (λf vs=>PySem.call f vs):=by
 refine Att.AbD hn hdf λw s₀ s₁ mg mb fa o pm cd doc a vs ns G Y ho hd hcd hmg hobj hints hlen hg=>?_
 have KX:=hY w _ Y
 obtain⟨fd,hb,hF⟩:=F w mg fa _ KX G.T.g hmg
 exact Agu KX G.T.g G.T.b G.T.builtins G.T.nolimit hg hobj hints (Aqn hlen hn2) hr hF hb (λH hO hS=>hsp w H a ns hlen hO hS) λH e s'=>hCX w H s₁ e s'
theorem Agv{l:W.OpenLaw}{n k:Nat}{q:Program}{loose:List Str}{XP:(Str->Option Value)->Heap->Prop}{YP:World->Heap->Prop}{d:DefRec}{K:Params->W.Frag}{CX:CXT}{sp:W.Frag->Sp}{x:Str}
  (hn:l.most=some n) (hn2:n<=sizeLine) (hdf:d.params.defaults=[]) (hr:Gp k callerA)
  (hY:∀(w:World) (h:Heap),YP w h->(K w.params).In h)
  (F:∀(w:World) (mg:Str->Option Value) (fa:Addr) (h:Heap),(K w.params).In h->h.Ns mainGlobals mg->mg d.name=some (.ref fa) ->
   ∃ fd:FuncData,(∀(s:Shared) (u:Value),BindsTo s fd ⟨[u],[]⟩ [(x,u)]) /\
    ∀ base:Heap,(K w.params).In base->base.Ns mainGlobals mg->Bd l.prog w (K w.params) mg base CX k fa fd [x] (sp (K w.params)))
  (hsp:∀(K:W.Frag) (H:Hp) (a:Addr) (ns:List Int),ns.length<=n->Only H->SqL K H a (ns.map V.int)->sp K [.ref a] H (λv _=>v=.bl true) λ_ _ _=>False)
  (hCX:∀(H:Hp) (s:Shared) (e:Value) (s':Shared),CX [] H s (λ_ _ _=>False) e s'->False) :
  W.WalkO q loose XP YP l.row.toRowW d [] (λf vs=>PySem.call f vs) :=
 Ai5 (K:=K) (CX:=λ_=>CX) (sp:=λw=>sp (K w.params)) hn hn2 hdf hr hY F (λw H a ns h1 h2 h3=>hsp (K w.params) H a ns h1 h2 h3) λ_ H s e s'=>hCX H s e s'
def inClass(s:Stmt)(j:Nat):Stmt:=match s with
 | .ClassDef _ _ _ body _ _ _ _ _ _ _=>body.getD j (.Pass ⟨0,0,0,0⟩)
 | _=>.Pass ⟨0,0,0,0⟩
def JX (s:Stmt):Arguments:=match s with
 | .FunctionDef _ a _ _ _ _ _ _ _ _=>a
 | _=>{ posonlyargs:=[],args:=[],vararg:=none,kwonlyargs:=[],kw_defaults:=[],kwarg:=none,defaults:=[] }
def Ij (s:Stmt):List Stmt:=match s with
 | .FunctionDef _ _ b _ _ _ _ _ _ _=>b
 | _=>[]
def Af (s:Stmt):Scope:=match s with
 | .FunctionDef _ _ _ _ _ _ sc _ _ _=>sc
 | _=>{ kind:=.function,names:=[],isGenerator:=false,isCoroutine:=false }
abbrev CX0:CXT:=λ_ _ _ _ _ _=>False
abbrev E0:XK:=λ_ _ _=>False
theorem By{X:Cx}:Passes CX0 X E0:=λ_ _ _ _ _ _ _ h=>h.elim
structure Fun (K:W.Frag) (x qual:Str) (st:Stmt) (f:Addr) (fd:FuncData):Prop where
 ex:∃(oc:Value) (od:Option Addr) (kV doc pm:Value) (an:Option Addr) (cdv ct:Value) (osl:Array (Option Value)),
  fd=W.fnOf x qual (JX st) (Ij st) (Af st) .none kV doc pm an cdv ct/\K.lookup f=some ⟨oc,od,.func fd,osl⟩/\W.codeIn K cdv qual=true
 kp:W.keepIn K (.ref f)=true
section
variable {P:Program}{w:World}{K:W.Frag}{mg:Str->Option Value}{base:Heap}
theorem Fun.ok{x qual:Str}{st:Stmt}{f:Addr}{fd:FuncData}{N ps:List Str}{k:Nat}{sp:Sp}(F:Fun K x qual st f fd)(S:Aj N ps (Af st))(len:∀ vs H Q E,sp vs H Q E->vs.length=ps.length)
  (hbody:∀(cdv:Value) (A:Around) (outer:List Env) (s:Shared) (H:Hp) (vs:List V) (Q:VK) (E:XK),Gp k (A.deeper (envOfC qual (Af st) s.heap.objs.size f cdv))->sp vs H Q E ->
   ∃ t,PSs (Ab8 CX0 P w K mg base N qual (Af st) f cdv A outer s H E).nox (Ij st) t/\t { nx:=λ_ H'=>Q .non H',rt:=Q } (start N vs) H):Bd P w K mg base CX0 (k+1) f fd ps sp:=by
 obtain⟨oc,od,kV,doc,pm,an,cdv,ct,osl,rfl,lk,hcd⟩:=F.ex
 refine Am1 lk hcd S len λA outer s H vs Q E hr hsp=>?_
 obtain⟨t,h,q⟩:=hbody cdv A outer s H vs Q E hr hsp
 exact⟨t,h.nox,q⟩
theorem Fun.binds{x qual:Str}{st:Stmt}{f:Addr}{fd:FuncData}{ps:List Str}(F:Fun K x qual st f fd)
  (h:∀(kV doc pm:Value) (an:Option Addr) (cdv ct:Value) (us:List Value),us.length=ps.length->bindArgs (W.fnOf x qual (JX st) (Ij st) (Af st) .none kV doc pm an cdv ct) ⟨us,[]⟩=pure (ps.zip us)):Binds K fd ps []:=by
 obtain⟨oc,od,kV,doc,pm,an,cdv,ct,osl,rfl,lk,hcd⟩:=F.ex
 exact .all (h kV doc pm an cdv ct)
theorem Adb{x qual:Str}{st:Stmt}{f:Addr}{oc:Value}{od an:Option Addr}{osl:Array (Option Value)}{kV doc pm cdv ct:Value}(l:K.lookup f=some ⟨oc,od,.func (W.fnOf x qual (JX st) (Ij st) (Af st) .none kV doc pm an cdv ct),osl⟩)
  (c:W.codeIn K cdv qual=true) (k:W.keepIn K (.ref f)=true):Fun K x qual st f (W.fnOf x qual (JX st) (Ij st) (Af st) .none kV doc pm an cdv ct):=⟨⟨oc,od,kV,doc,pm,an,cdv,ct,osl,rfl,l,c⟩,k⟩
end
theorem Tu{n:Nat}(h:n<=1000):n<sizeLine:=Ar0 h (by decide)
section
variable {X:Cx}
theorem pv(i:Nat){x:Str}{pos:Pos}(hN:X.N[i]?=some x:=by rfl)(hv:Vis X.env.scope x:=by first | exact Or.inl rfl | exact Or.inr (Or.inl rfl) | exact Or.inr (Or.inr rfl))(hd:(x == ("__debug__" : Str))=false:=by decide)
  (hcd:(x == ("__classdict__" : Str))=false:=by decide):PE X (.Name x pos) (Ami i):=Akw hN hv hd hcd
end
theorem DP{A B:Prop}(h:B):if false=true then A else B:=by
 rw[if_neg Aqe]
 exact h
theorem JZ{A B:Prop}(h:A):if true=true then A else B:=by
 rw[if_pos rfl]
 exact h
theorem Ht{c A B:Prop}[Decidable c](hc:c)(h:B):if (!decide c)=true then A else B:=by
 rw[zN hc]
 exact DP h
def Ar (H H':Hp):Prop:=∀ b o,H b=some o->H' b=some o
theorem Ar.refl(H:Hp):Ar H H:=λ_ _ h=>h
theorem Ar.trans{H H1 H2:Hp}(a:Ar H H1)(b:Ar H1 H2):Ar H H2:=λc o h=>b c o (a c o h)
theorem Ar.free{H H':Hp}(e:Ar H H'){l:Addr}(h:H' l=Option.none):H l=Option.none:=by
 cases q:H l with
 | none=>rfl
 | some o =>
  rw[e l o q] at h
  cases h
theorem Ar.seq{K:W.Frag}{H H':Hp}{a:Addr}{xs:List V}(e:Ar H H')(h:SqL K H a xs):SqL K H' a xs:=by
 rcases h with (h | ⟨o,h⟩) | h
 ·exact .inl (.inl (e _ _ h))
 ·exact .inl (.inr ⟨o,e _ _ h⟩)
 ·exact .inr h
theorem Ka{scope:Scope}{env:Env}(h:∀ y∈scope.names,y.2=.free->∃ c,env.cells.lookup y.1=some c) :
  ∃ cl,closureFor scope env=pure cl/\(∀ x c,cl.lookup x=some c->env.cells.lookup x=some c/\(x,NameKind.free)∈scope.names) /\
   ∀ x,(x,NameKind.free)∈scope.names->cl.lookup x=env.cells.lookup x:=by
 have key:∀(l:List (Str × NameKind)) (cs:List (Str × Addr)),(∀ y∈l,y.2=.free->∃ c,env.cells.lookup y.1=some c) ->
   ∃ cl,(forIn l cs (λ(x:Str × NameKind) (cs:List (Str × Addr))=>do
     if x.2 == .free then
      let c <- cellOf env x.1
      pure (ForInStep.yield ((x.1,c)::cs))
     else pure (ForInStep.yield cs)):Sem (List (Str × Addr)))=pure cl /\
    (∀ x c,cl.lookup x=some c->(env.cells.lookup x=some c/\(x,NameKind.free)∈l)\/cs.lookup x=some c) /\
    ∀ x,((x,NameKind.free)∈l->cl.lookup x=env.cells.lookup x)/\((cs.lookup x=env.cells.lookup x)->cl.lookup x=env.cells.lookup x):=by
  intro l
  induction l with
  | nil=>intro cs _;exact⟨cs,rfl,λx c e=>.inr e,λx=>⟨λz=>absurd z (by simp),λz=>z⟩⟩
  | cons y r ih =>
   intro cs hl
   obtain⟨n,k⟩:=y
   by_cases hk:k=.free
   ·subst hk
    obtain⟨c,hc⟩:=hl (n,.free) ApS rfl
    obtain⟨cl,e1,e2,e3⟩:=ih ((n,c)::cs) λy hy=>hl y (ApW _ hy)
    refine⟨cl,?_,λx d e=>?_,λx=>⟨λz=>?_,λz=>?_⟩⟩
    ·rw[AqU]
     simp only [beq_self_eq_true,if_true,cellOf,hc]
     exact e1
    ·rcases e2 x d e with ⟨z1,z2⟩ | z
     ·exact .inl ⟨z1,ApW _ z2⟩
     ·rw[Aqy] at z
      by_cases hx:x == n
      ·rw[hx] at z
       have hx':x=n:=by simpa using hx
       subst hx'
       refine .inl ⟨?_,ApS⟩
       rw[hc];exact z
      ·have hx':(x == n)=false:=by simpa using hx
       rw[hx'] at z
       exact .inr z
    ·rcases yH.mp z with z | z
     ·injection z with z1 _
      subst z1
      refine(e3 x).2 ?_
      rw[Aqy,hc]
      simp
     ·exact(e3 x).1 z
    ·by_cases hx:x=n
     ·subst hx
      refine(e3 x).2 ?_
      rw[Aqy,hc]
      simp
     ·refine(e3 x).2 ?_
      rw[Aqy]
      have hx':(x == n)=false:=by simpa using hx
      rw[hx']
      exact z
   ·obtain⟨cl,e1,e2,e3⟩:=ih cs λy hy=>hl y (ApW _ hy)
    have hb:(k == NameKind.free)=false:=by simpa using hk
    refine⟨cl,?_,λx d e=>?_,λx=>⟨λz=>?_,(e3 x).2⟩⟩
    ·rw[AqU]
     simp only [hb,Bool.false_eq_true,if_false]
     exact e1
    ·rcases e2 x d e with ⟨z1,z2⟩ | z
     ·exact .inl ⟨z1,ApW _ z2⟩
     ·exact .inr z
    ·rcases yH.mp z with z | z
     ·injection z with _ z2
      exact absurd z2.symm hk
     ·exact(e3 x).1 z
 obtain⟨cl,e1,e2,e3⟩:=key scope.names [] h
 refine⟨cl,?_,λx c e=>?_,λx z=>(e3 x).1 z⟩
 ·unfold closureFor
  have:=e1
  simpa using this
 ·rcases e2 x c e with z | z
  ·exact z
  ·simp at z
theorem CQ{env:Env}(hk:env.scope.kind=.function):∀{names:List (Str × NameKind)} {x:Str} {k:NameKind},names.lookup x=some k->k≠.free ->
  (names.map λ(n,k)=>if (k == NameKind.free && env.scope.kind == .function && env.kindOf n == some .cell) then (n,NameKind.cell) else (n,k)).lookup x=some k
 | [],_,_,h,_=>by simp at h
 | (n,k')::r,x,k,h,hf=>by
  have ih:=@CQ env hk r x k
  show List.lookup x ((if (k' == NameKind.free && env.scope.kind == .function && env.kindOf n == some .cell)=true then (n,NameKind.cell) else (n,k'))::_)=_
  cases hx:x == n with
  | true =>
   simp only [Aqy,hx] at h
   cases h
   have:(k' == NameKind.free)=false:=by simpa using hf
   simp[Aqy,hx,this]
  | false =>
   simp only [Aqy,hx] at h
   by_cases hc:(k' == NameKind.free && env.scope.kind == .function && env.kindOf n == some .cell)=true
   ·rw[if_pos hc];simp only [Aqy,hx];exact ih h hf
   ·rw[if_neg hc];simp only [Aqy,hx];exact ih h hf
theorem Dp{env:Env}(hk:env.scope.kind=.function):∀{names:List (Str × NameKind)} {x:Str},names.lookup x=some .free->env.kindOf x=some .cell ->
  (names.map λ(n,k)=>if (k == NameKind.free && env.scope.kind == .function && env.kindOf n == some .cell) then (n,NameKind.cell) else (n,k)).lookup x=some .cell
 | [],_,h,_=>by simp at h
 | (n,k')::r,x,h,hc=>by
  have ih:=@Dp env hk r x
  show List.lookup x ((if (k' == NameKind.free && env.scope.kind == .function && env.kindOf n == some .cell)=true then (n,NameKind.cell) else (n,k'))::_)=_
  cases hx:x == n with
  | true =>
   simp only [Aqy,hx] at h
   cases h
   have hxn:x=n:=by simpa using hx
   subst hxn
   simp[Aqy,hk,hc]
  | false =>
   simp only [Aqy,hx] at h
   by_cases hd:(k' == NameKind.free && env.scope.kind == .function && env.kindOf n == some .cell)=true
   ·rw[if_pos hd];simp only [Aqy,hx];exact ih h hc
   ·rw[if_neg hd];simp only [Aqy,hx];exact ih h hc
def DY (X:Cx)(Nc:List Str)(scope:Scope)(cl:List (Str × Addr))(C:Addr)(fp:List Addr)(s:Shared)(H:Hp):Cx where
 prog:=X.prog
 w:=X.w
 K:=X.K
 mg:=X.mg
 base:=X.base
 A:=X.A
 N:=Nc
 s₀:=s
 H₀:=H
 env:=compEnvC scope cl C X.env
 outer:=X.stack
 stack:=X.stack
 ex:=fp
 fn:=λ_=>false
 calm:=X.calm
 pn:=[]
 xe:=λ_ _=>False
def Ea (σ:St)(Bl:List Nat):St:=Bl.map λj=>(σ[j]?).join
structure LK (X:Cx) (x:Str) (Nc:List Str) (Bl:List Nat) (scope:Scope):Prop where
 kind:scope.kind=.function
 cell:∀ y∈scope.names,y.2≠.cell
 names:∀ y∈scope.names,y.2=.local->scope.names.lookup y.1=some .local
 fr:∀ y∈scope.names,y.2=.free->X.env.scope.names.lookup y.1=some .cell/\scope.names.lookup y.1=some .free
 loc:scope.names.lookup x=some .local
 len:Nc.length=Bl.length+1
 hd:Nc[0]?=some x
 nd:Nc.Nodup
 cap:∀ k j,Bl[k]?=some j->∃ y,Nc[k+1]?=some y/\X.N[j]?=some y/\scope.names.lookup y=some .free
theorem Kc{prog:Program}{w:World}{A:Around}{R:Result->Shared->Prop}{s:Shared}{elt target iter:Expr}{ifs:List Expr}{scope:Scope}{pos:Pos}{it acc:Value}{env:Env}(I:Nat->Shared->Prop)
  (turn:∀ n s,I n s->wpAny (model prog w) A (pyNext it) (λr s₁=>match r with
   | none=>R (.ok .next) s₁
   | some v=>wpAny (model prog w) A (letOwnedTupleGo target it v) (λ_ s1'=>wpAny (model prog w) A (assign target env v) (λ_ s₂ =>
     wpAny (model prog w) A (forIn ifs true λc r=>if r=true then do let ok <- isTrue c env (eval c env);pure (ForInStep.yield ok) else pure (ForInStep.yield r)) (λok s₃ =>
      if ok=true then wpAny (model prog w) A (eval elt env) (λx s₄ =>
       wpAny (model prog w) A (call (.builtin "list.append") [acc,x]) (λ_ s₅=>∃ m,m<n/\I m s₅) (notedBy (model prog w) A env λe s'=>R (.error e) s') s₄) (notedBy (model prog w) A env λe s'=>R (.error e) s') s₃
      else ∃ m,m<n/\I m s₃) (notedBy (model prog w) A env λe s'=>R (.error e) s') s₂) (notedBy (model prog w) A env λe s'=>R (.error e) s') s1') (notedBy (model prog w) A env λe s'=>R (.error e) s') s₁) (notedBy (model prog w) A env λe s'=>R (.error e) s') s)
  (n:Nat) (h:I n s) :
  codeAny (model prog w) A (.compLoop (.ListComp elt [⟨target,iter,ifs,0⟩] scope pos) 0 it acc env) R s:=by
 refine codeAny_loop rfl I (λn s hI=>?_) n h
 show wpAny _ A ((compTurn (.ListComp elt [⟨target,iter,ifs,0⟩] scope pos) 0 it acc env).onRaise (λx=>do noteFrame x env;theTreesLotGoes x)) _ _ s
 refine wpAny_noted ?_
 rw[compTurn_list]
 refine zA (wpAny_standAt (zA (zT (turn n s hI) (λr s₁ h₁=>?_) λ_ _ h'=>h')))
 cases r with
 | none=>exact zE h₁
 | some v =>
  refine zA (zT h₁ (λ_ s1' h₁=>?_) λ_ _ h'=>h')
  refine zA (zT h₁ (λ_ s₂ h₂=>zA (zT h₂ (λok s₃ h₃=>?_) λ_ _ h'=>h')) λ_ _ h'=>h')
  cases ok with
  | false=>exact zE ⟨rfl,h₃⟩
  | true =>
   exact zA (zA (zT h₃ (λx s₄ h₄=>zA (zT h₄ (λ_ s₅ h₅=>zE (zE ⟨rfl,h₅⟩)) λ_ _ h'=>h')) λ_ _ h'=>h'))
def AaC:TT:=λ_ H Q=>Q true H
inductive PIf (X:Cx):List Expr->TT->Prop where
 | nil:PIf X [] AaC
 | one {c:Expr} {t:TT} (h:PT X c t):PIf X [c] t
theorem PIf.run{X:Cx}{ifs:List Expr}{t:TT}(h:PIf X ifs t){pins:List (Addr × Obj)}{s:Shared}{σ:St}{H:Hp}{Q:Bool->Hp->Prop}(I:Inv X pins σ H s)(ht:t σ H Q) :
  wpAny (model X.prog X.w) X.A (forIn ifs true λc r=>if r=true then do let ok <- isTrue c X.env (eval c X.env);pure (ForInStep.yield ok) else pure (ForInStep.yield r)) (TP X pins σ Q) X.xe s:=by
 cases h with
 | nil=>exact wpAny_tests_nil ⟨H,I,ht⟩
 | one h=>exact wpAny_tests_one (h pins s σ H Q I ht)
def Qf (Bl:List Nat)(tc:TT)(te:TE)(J:It)(σ:St)(H:Hp)(Q:VK):Prop :=
 ∃ W:Nat->Nat->List V->Hp->Prop,(∃ m,W 0 m [] H)/\∀ i m ys H,W i m ys H ->
  (J.stop i H/\ys.length<=sizeLine/\∀ p,H p=none->Q (.ref p) (upd H p (.lst ys))) \/
  (J.go i H/\ys.length<sizeLine/\∀ x H',J.yld i H x H'->tc (some x::Ea σ Bl) H' λb H2 =>
   if b=true then te (some x::Ea σ Bl) H2 λy H3=>∃ m',m'<m/\W (i+1) m' (ys++[y]) H3 else ∃ m',m'<m/\W (i+1) m' ys H2)
def Agw (wi:TI)(Bl:List Nat)(tc:TT)(te:TE):TE:=λσ H Q=>wi σ H λJ H1=>Qf Bl tc te J σ H1 Q
section
variable {X:Cx}{pins:List (Addr × Obj)}{σ:St}{H:Hp}{s:Shared}
theorem Un.track{fs ex:List Addr}{H H':Hp}{h h':Heap}{a:Addr}{o:HO}(u:Un fs ex H H' h h')(ha:h.objs.size<=a)(hn:H' a=none):Un fs ex H (upd H' a o) h h' where
 keep:=u.keep
 slot:=u.slot
 free:=λb ob q n hx=>by rw[Ah (ApZ (Aqa (Heap.lt_size q) ha))];exact u.free b ob q n hx
 there:=u.there
 tups:=λb xs q=>by rw[Ah (Ak (u.tups b xs q) hn)];exact u.tups b xs q
 PX:=λb ob xs q=>by rw[Ah (Ak (u.PX b ob xs q) hn)];exact u.PX b ob xs q
 Tj:=λb ps q=>by
  obtain⟨m,e⟩:=u.Tj b ps q
  exact⟨m,by rw[Ah (Ak e hn)];exact e⟩
theorem HOk.track{P:Program}{w:World}{H:Hp}{h:Heap}{a:Addr}{o:HO}(x:HOk P w H h)(hn:H a=none)(new:Es P w (upd H a o) h a o):HOk P w (upd H a o) h:=λb u e=>by
 by_cases hb:b=a
 ·subst hb;rw[Ae] at e;cases e;exact new
 ·rw[Ah hb] at e
  exact(x b u e).stay (λc v _ q=>q) (λc q=>by rw[Ah (Ak q hn)];exact q) λc xs q=>by rw[Ah (Ak q hn)];exact q
theorem Ai6{x:Str}{Nc:List Str}{Bl:List Nat}{scope:Scope}{cl:List (Str × Addr)}{C:Addr}{fp:List Addr}(I:Inv X pins σ H s)(O:LK X x Nc Bl scope)
  (hcl:∀ x c,cl.lookup x=some c->X.env.cells.lookup x=some c/\(x,NameKind.free)∈scope.names) (Js:∀ x,(x,NameKind.free)∈scope.names->cl.lookup x=X.env.cells.lookup x)
  (hC:s.heap.objs.size<=C) (hfp:∀ b∈fp,Gz X pins H b) (hfo:∀ b∈fp,b<s.heap.objs.size):(DY X Nc scope cl C fp s H).Ok where
 mod:=I.ok.mod
 kind:=O.kind
 glob:=I.ok.glob
 blt:=I.ok.blt
 above:=hC
 inj:=λa b c e1 e2=>I.ok.inj a b c (hcl a c e1).1 (hcl b c e2).1
 has:=λy hy=>by
  have mem:(y,NameKind.free)∈scope.names:=by
   have hy':((relabel scope X.env).names.lookup y=some .cell)\/((relabel scope X.env).names.lookup y=some .free):=hy
   have hm:∃ k,(y,k)∈(relabel scope X.env).names/\(k=.cell\/k=.free):=by
    rcases hy' with h | h
    ·exact⟨_,zW h,.inl rfl⟩
    ·exact⟨_,zW h,.inr rfl⟩
   obtain⟨k,hm,hk⟩:=hm
   obtain⟨⟨n,k'⟩,hm',e⟩:=yG.mp hm
   dsimp only at e
   by_cases hc:(k' == NameKind.free && X.env.scope.kind == .function && X.env.kindOf n == some .cell)=true
   ·rw[if_pos hc] at e
    injection e with e1 _
    subst e1
    have:k'=.free:=by
     have:=(Aq7 _ _▸(Aq7 _ _▸hc).1).1
     simpa using this
    subst this
    exact hm'
   ·rw[if_neg hc] at e
    injection e with e1 e2
    subst e1 e2
    rcases hk with hk | hk
    ·subst hk;exact absurd rfl (O.cell _ hm')
    ·subst hk;exact hm'
  obtain⟨c,e⟩:=I.ok.has y (.inl (O.fr _ mem rfl).1)
  exact⟨c,(Js y mem).trans e⟩
 cab:=λ_ _ z=>nomatch z
 hd:=I.ok.hd
 frames:=I.ok.frames
 stk:=.inl rfl
 exf:=λb hb=>⟨ApZ (Aqa (hfo b hb) hC),λy c e=>(hfp b hb).2.2.2.2.1 y c (hcl y c e).1⟩
 bs:=I.bs
 bsz:=Aqn I.ok.bsz I.sz
 Za:=λb o e hb=>by
  rcases(hfp b hb).2.2.2.1 with z | z
  ·exact I.ok.Za b o e z
  ·exact absurd (Aqa (Heap.lt_size e) (Aqn I.ok.bsz z)) (Aqu _)
 Zb:=λb hb z=>by
  rcases yH.mp (I.W8 b z) with e | e
  ·exact(hfp b hb).2.1 e
  ·exact(hfp b hb).2.2.1 e
 Qa:=I.stack
 frf:=I.Wj
theorem WY(σ:St)(Bl:List Nat):(Ea σ Bl).length=Bl.length:=by unfold Ea;rw[ApO]
theorem Xa{σ:St}{Bl:List Nat}{k:Nat}{v:V}(e:(Ea σ Bl)[k]?=some (some v)):∃ j,Bl[k]?=some j/\σ[j]?=some (some v):=by
 unfold Ea at e
 rw[ApX] at e
 cases hk:Bl[k]? with
 | none=>rw[hk] at e;cases e
 | some j =>
  rw[hk] at e
  have e':(σ[j]?).join=some v:=Option.some.inj e
  refine⟨j,rfl,?_⟩
  cases hj:σ[j]? with
  | none=>rw[hj] at e';cases e'
  | some o=>rw[hj] at e';rw[show o=some v from e']
theorem Un.but{fs ex:List Addr}{H H':Hp}{h h1 h2:Heap}{C:Addr}(u:Un fs ex H H' h h1)(hs:Heap.SameBut C h1 h2)(hC:h.objs.size<=C):Un fs ex H H' h h2 where
 keep:=λb o q n hb hx=>(hs.2 b (ApZ (Aqa (Heap.lt_size q) hC))).trans (u.keep b o q n hb hx)
 slot:=λb o q n hb hx=>by
  obtain⟨sl,e⟩:=u.slot b o q n hb hx
  exact⟨sl,(hs.2 b (ApZ (Aqa (Heap.lt_size q) hC))).trans e⟩
 free:=u.free
 there:=λb o q hx=>by
  obtain⟨o',e⟩:=u.there b o q hx
  exact⟨o',(hs.2 b (ApZ (Aqa (Heap.lt_size q) hC))).trans e⟩
 tups:=u.tups
 PX:=u.PX
 Tj:=u.Tj
theorem Adc{x:Str}{Nc:List Str}{Bl:List Nat}{scope:Scope}{cl:List (Str × Addr)}{C:Addr}{fp:List Addr}{h':Heap}{tk:Nat}{m0:Str->Option Value}(I:Inv X pins σ H s)(O:LK X x Nc Bl scope)
  (hcl:∀ x c,cl.lookup x=some c->X.env.cells.lookup x=some c/\(x,NameKind.free)∈scope.names) (Js:∀ x,(x,NameKind.free)∈scope.names->cl.lookup x=X.env.cells.lookup x)
  (hC:s.heap.objs.size<=C) (hfp:∀ b∈fp,Gz X pins H b) (hfo:∀ b∈fp,b<s.heap.objs.size)
  (old:∀ b o,s.heap.get? b=some o->h'.get? b=some o) (hns:h'.Ns C m0) :
  Inv (DY X Nc scope cl C fp s H) [] (none::Ea σ Bl) H { s with heap:=h',toks:=tk } where
 ok:=Ai6 I O hcl Js hC hfp hfo
 os:=rfl
 bare:=I.bare
 base:=Un.kept old
 loc:=by
  refine⟨m0,hns,λi y v hN hσ hv=>?_⟩
  cases i with
  | zero=>simp at hσ
  | succ k =>
   rw[Arp] at hσ
   obtain⟨j,hj,hs⟩:=Xa hσ
   obtain⟨z,hz1,hz2,hz3⟩:=O.cap k j hj
   have hN':Nc[k+1]?=some y:=hN
   rw[hz1] at hN'
   cases hN'
   have mem:(y,NameKind.free)∈scope.names:=zW hz3
   have hk:=(O.fr _ mem rfl).1
   obtain⟨m,hn,hl⟩:=I.loc
   obtain⟨u,r,l⟩:=hl j y v hz2 hs (.inr (.inl hk))
   refine⟨u,r,?_⟩
   rcases l with ⟨k',_⟩ | ⟨_,c,hc,z⟩
   ·have k'':X.env.scope.names.lookup y=some .local:=k'
    rw[hk] at k'';cases k''
   ·obtain⟨o,ho,hd⟩:=z
    exact .inr ⟨.inl (Dp I.ok.kind hz3 hk),c,(Js y mem).trans hc,o,old _ _ ho,hd⟩
 cell:=λy c e=>by
  obtain⟨v,o,ho,hd⟩:=I.cell y c (hcl y c e).1
  exact⟨v,o,old _ _ ho,hd⟩
 free:=I.hok.fresh hC
 GQ:=λy c e=>I.GQ y c (hcl y c e).1
 pin:=λp hp=>absurd (show p∈([]:List (Addr × Obj)) from hp) (by simp)
 hok:=I.hok.kept old
 len:=by
  show(none::Ea σ Bl).length=Nc.length
  rw[ApU,WY,O.len]
abbrev FP (us:List Value) (n:Nat):Obj:={ cls:=.type "list", data:=.seq us.toArray n }
theorem AaD{X:Cx}{sc0 scope:Scope}(h:X.env.scope=sc0)(hd:∀ y∈scope.names,y.2=.free->sc0.names.lookup y.1=some .cell/\scope.names.lookup y.1=some .free) :
  ∀ y∈scope.names,y.2=.free->X.env.scope.names.lookup y.1=some .cell/\scope.names.lookup y.1=some .free:=by
 rw[h]
 exact hd
theorem Xb{x:Str}{px:Pos}{Nc:List Str}{Bl:List Nat}{scope:Scope}{cl:List (Str × Addr)}{iter elt:Expr}{ifs:List Expr}{pos:Pos}{tc:TT}{te:TE}{Q:VK}{it:Addr}{fp:List Addr}{tn:Nat->Heap->Prop}{J:It}
  {RR:Value->Addr->Result->Shared->Prop}{E:Value->Shared->Prop}
  (O:LK X x Nc Bl scope) (hc:X.calm=true)
  (hcl:∀ x c,cl.lookup x=some c->X.env.cells.lookup x=some c/\(x,NameKind.free)∈scope.names) (Js:∀ x,(x,NameKind.free)∈scope.names->cl.lookup x=X.env.cells.lookup x)
  (hte:∀ C fp s H,PE (DY X Nc scope cl C fp s H) elt te) (htc:∀ C fp s H,PIf (DY X Nc scope cl C fp s H) ifs tc)
  (I:Inv X pins σ H s) (T:Turn X.prog X.w X.K (.Name x px) J fp it tn) (st:tn 0 s.heap) (hfp:∀ b∈fp,Gz X pins H b) (h:Qf Bl tc te J σ H Q)
  (hRR:∀(D C:Addr) (s':Shared) (m:Str->Option Value),s'.heap.Ns C m->(∀ h',Heap.SameBut C s'.heap h'->∃ H',Inv X pins σ H' { s' with heap:=h' }/\H' C=none/\Q (.ref D) H') ->
   s.heap.objs.size<=C->RR (.ref D) C (.ok .next) s') :
  wpAny (model X.prog X.w) X.A (newList []) (λacc s₃=>wpAny (model X.prog X.w) X.A (newFunctionEnv scope X.env.globals cl [] X.env.qual none .none (some X.env)) (λcenv s₄ =>
   codeAny (model X.prog X.w) X.A (.compStart (.ListComp elt [⟨.Name x px,iter,ifs,0⟩] scope pos) 0 (.ref it) acc { cenv with scope:=relabel scope X.env }) (RR acc cenv.locals) s₄) E s₃) E s:=by
 refine yJ (wpAny_newFunctionEnv O.cell (by intro y hy;simp at hy) (λh₁ hns₁ hsb₁=>?_) O.kind)
 dsimp only at hns₁ hsb₁ ⊢
 generalize hH2:s.heap.push { cls:=.type "list", dict:=none,data:=.seq ([]:List Value).toArray }=H2 at hns₁ hsb₁ ⊢
 have hC:H2.objs.size=s.heap.objs.size+1:=by rw[<- hH2,Heap.size_push]
 have hCle:s.heap.objs.size<=H2.objs.size:=by rw[hC];exact AqI _
 have hDC:s.heap.objs.size≠H2.objs.size:=by rw[hC];exact ApZ (Aq8 _)
 have below:∀ b,b<s.heap.objs.size->b≠H2.objs.size/\b≠s.heap.objs.size:=λb hb=>⟨by rw[hC];exact ApZ (AqV hb),ApZ hb⟩
 have old:∀ b o,s.heap.get? b=some o->h₁.get? b=some o:=λb o e=>hsb₁.extBut b o (below b (Heap.lt_size e)).1 (zB _ (hH2▸zB _ e))
 have hacc:h₁.get? s.heap.objs.size=some (FP [] 0):=hsb₁.extBut _ _ hDC (zB _ (hH2▸zD _ rfl))
 have hfo:∀ b∈fp,b<s.heap.objs.size:=λb hb=>by
  obtain⟨o,e,_⟩:=T.obj _ _ st b hb
  exact Heap.lt_size e
 have st1:tn 0 h₁:=T.keep _ _ _ st λb _ o e=>old b o e
 generalize hDD:s.heap.objs.size=D at *
 generalize hCC:H2.objs.size=C at *
 have Afc:D<=C:=hCle
 let Y:Cx:=DY X Nc scope cl C fp s H
 have I0:Inv Y [] (none::Ea σ Bl) H { s with heap:=h₁,toks:=s.toks+([]:List (Str × Value)).length }:=Adc I O hcl Js (by rw[hDD];exact hCle) hfp (λb hb=>by rw[hDD];exact hfo b hb) old hns₁
 have AbE:H D=none:=by rw[<- hDD];exact I.hok.fresh (ApR _)
 have Q7:D≠C:=hDC
 have Dfs:D∉Y.fs:=λz=>by
  have:=I.stack.mem (show D∈frs X.stack from z)
  obtain⟨_,o,e,_⟩:=this
  have:=Heap.lt_size e
  rw[hDD] at this
  exact Aqu _ this
 have AbF:∀ y c,Y.env.cells.lookup y=some c->c≠D:=λy c e z=>by
  obtain⟨v,q⟩:=I.cell y c (hcl y c e).1
  have:=q.lt
  rw[z,hDD] at this
  exact Aqu _ this
 have Dfp:∀ b∈fp,b≠D:=λb hb=>ApZ (hfo b hb)
 have fpY:∀{H':Hp},(∀ b∈fp,H' b=none)->∀ b∈fp,Gz Y [] H' b:=λhn b hb =>
  ⟨hn b hb,ApZ (Aqa (hfo b hb) Afc),λz=>I0.ok.Zb b hb z,.inl hb,λy c e=>(I0.ok.exf b hb).2 y c e,λp hp=>absurd (show p∈([]:List (Addr × Obj)) from hp) (by simp)⟩
 obtain⟨W,⟨m0,w0⟩,turn⟩:=h
 have loop:∀ s₃:Shared,s₃={ s with heap:=h₁,toks:=s.toks+([]:List (Str × Value)).length } ->
   codeAny (model X.prog X.w) X.A (.compLoop (.ListComp elt [⟨.Name x px,iter,ifs,0⟩] scope pos) 0 (.ref it) (.ref D) (compEnvC scope cl C X.env)) (RR (.ref D) C) s₃:=by
  rintro s₃ rfl
  refine Kc (λn s'=>∃(i:Nat) (o:Option V) (H':Hp) (ys:List V) (us:List Value) (k:Nat),Inv Y [] (o::Ea σ Bl) H' s'/\tn i s'.heap/\(∀ b∈fp,H' b=none)/\s'.heap.get? D=some (FP us k)/\H' D=none/\Vals ys us/\W i n ys H')
   ?_ m0 ⟨0,none,H,[],[],0,I0,st1,λb hb=>(hfp b hb).1,hacc,AbE,.nil,w0⟩
  rintro n s3 ⟨i,o3,H3,ys,us,k,I3,st3,fr3,hD3,nD3,rv,w3⟩
  have fpP:∀{H':Hp} {ob:Obj},(∀ b∈fp,H' b=none)->∀ b∈fp,Gz Y [(D,ob)] H' b:=λhn b hb=>by
   obtain⟨g0,g1,g2,g3,g4,_⟩:=fpY hn b hb
   refine⟨g0,g1,g2,g3,g4,λp hp=>?_⟩
   have e:p=(D,_):=zF.mp (show p∈[(D,_)] from hp)
   rw[e]
   exact Ne.symm (Dfp b hb)
  have IP:Inv Y [(D,FP us k)] (o3::Ea σ Bl) H3 s3:=I3.Fj λp hp=>by
   have e:p=(D,FP us k):=zF.mp hp
   subst e
   exact⟨hD3,nD3,Q7,Dfs,λv z=>by cases z⟩
  have Xc:∀{σ':St} {H':Hp} {s':Shared} {pl:List (Addr × Obj)},Inv Y ([(D,FP us k)]++pl) σ' H' s'->s'.heap.get? D=some (FP us k)/\H' D=none:=λI'=>by
   have z:=I'.pin (D,FP us k) (Aqp _ (AqM _ ApS))
   exact⟨z.1,z.2.1⟩
  rcases turn i n ys H3 w3 with ⟨stop,hlen,fin⟩ | ⟨go,hlen,step⟩
  ·
   refine zT (T.done Y rfl rfl rfl hc i _ s3 _ H3 (λ_ _=>False) IP (fpP fr3) st3 stop) (λr s4 hr=>?_) λ_ _ z=>z.elim
   obtain⟨hr,I4⟩:=hr
   subst hr
   obtain⟨gD,nD⟩:=Xc (pl:=[]) (by simpa using I4)
   obtain⟨m,hn,_⟩:=I4.loc
   refine hRR D C s4 m hn (λh' hs'=>⟨upd H3 D (.lst ys),?_,(Ah (Ne.symm Q7)).trans I4.free,fin D nD⟩) hCle
   have nt:∀ b ob,H3 b=some ob->b≠C:=λb ob e z=>by
    have:=I4.free
    rw[z] at e
    rw[show H3 C=none from this] at e
    cases e
   have u1:Un (frs X.stack) fp H H3 s.heap h':=Un.but I4.base hs' (show s.heap.objs.size<=C by rw[hDD];exact hCle)
   have ok1:HOk X.prog X.w H3 h':=λb ob e=>(I4.hok b ob e).stay (λc v hc q=>(hs'.2 c (by
    rcases hc with z | z
    ·rw[z];exact nt b ob e
    ·exact nt c _ z)).trans q) (λ_ q=>q) λ_ _ q=>q
   have gD':h'.get? D=some (FP us k):=(hs'.2 D Q7).trans gD
   exact I.call' (s':={ s4 with heap:=h' }) (ch:=fp) I4.os (u1.track (AqH hDD) nD) (ok1.track nD ⟨hlen,us,k,rv,gD'⟩) I4.bare λb hb=>by
    obtain⟨_,g1,_,g3,g4,g5⟩:=hfp b hb
    exact⟨g3,g1,g4,g5⟩
  ·
   refine zT (T.item Y rfl rfl rfl hc i _ s3 _ H3 (λ_ _=>False) IP (fpP fr3) st3 go) (λr s4 hr=>?_) λ_ _ z=>z.elim
   obtain⟨u0,hr,h4⟩:=hr
   subst hr
   refine zT h4 (λ_ s5 h5=>?_) λ_ _ z=>z.elim
   obtain⟨x5,H5,I5,r5,y5,st5,fr5⟩:=h5
   have I5':=I5.pinned (fpP fr5) (T.obj _ _ st5)
   have tgt:PG Y (.Name x px) (Jq 0):=Br (i:=0) O.nd O.hd (.inl (CQ I.ok.kind O.loc (by intro z;cases z))) (.inr (CQ I.ok.kind O.loc (by intro z;cases z)))
   refine zT (tgt _ s5 _ H5 x5 u0 (λσ2 H2=>σ2=some x5::Ea σ Bl/\H2=H5) I5' r5 ⟨rfl,rfl⟩) (λ_ s6 h6=>?_) λ_ _ z=>z.elim
   obtain⟨_,_,I6,rfl,rfl⟩:=h6
   refine zT ((htc C fp s H).run I6 (step x5 _ y5)) (λb s7 h7=>?_) λ_ _ z=>z.elim
   obtain⟨H7,I7,q7⟩:=h7
   have Uy:∀{σ':St} {H':Hp} {s':Shared},Inv Y ([(D,FP us k)]++Qc fp s5.heap) σ' H' s'->tn (i+1) s'.heap/\∀ b∈fp,H' b=none:=λI' =>
    ⟨T.keep _ _ _ st5 λb hb o e=>(I'.pin (b,o) (Aqp _ (Aqp _ (El hb e)))).1,λb hb=>by
     obtain⟨o,e,d⟩:=T.obj _ _ st5 b hb
     exact(I'.pin (b,o) (Aqp _ (Aqp _ (El hb e)))).2.1⟩
   cases b with
   | false =>
    rw[if_neg Aqe] at q7
    rw[if_neg Aqe]
    obtain⟨m',hm,w7⟩:=q7
    obtain⟨gD,nD⟩:=Xc I7
    obtain⟨k1,k2⟩:=Uy I7
    exact⟨m',hm,i+1,some x5,H7,ys,us,k,I7.Fj (λp hp=>nomatch hp),k1,k2,gD,nD,rv,w7⟩
   | true =>
    rw[if_pos rfl] at q7
    rw[if_pos rfl]
    refine zT (hte C fp s H _ s7 _ H7 _ I7 q7) (λu8 s8 h8=>?_) λ_ _ z=>z.elim
    obtain⟨y8,H8,I8,r8,m',hm,w8⟩:=h8
    obtain⟨gD,nD⟩:=Xc I8
    obtain⟨k1,k2⟩:=Uy I8
    refine call_meets zL ⟨_,gD,rfl⟩ F.entry_list_append (F.args_list_append_2 _ _) (PySem.list_append D us.toArray k u8 (by rw[Aqh,<- rv.length];omega)) ⟨gD,?_⟩
    have q:=PySem.IsL.update gD (·.push u8)
    have e1:us.toArray.push u8=(us++[u8]).toArray:=by simp
    rw[e1] at q
    have I8':Inv Y [] (some x5::Ea σ Bl) H8 s8:=I8.Fj (λp hp=>nomatch hp)
    have I9:Inv Y [] (some x5::Ea σ Bl) H8 { s8 with heap:=s8.heap.update D (Obj.mapSeq (·.push u8)),toks:=s8.toks } :=
     I8'.turned (it:=D) (λb o hb e=>(zH s8.heap (Obj.mapSeq (·.push u8)) (Ne.symm hb)).trans e) nD Q7 (.inr (AqH hDD)) AbF (λp hp=>nomatch hp)
    refine⟨m',hm,i+1,some x5,H8,ys++[y8],us++[u8],_,I9,T.keep _ _ _ k1 λb hb o e=>(zH s8.heap (Obj.mapSeq (·.push u8)) (Ne.symm (Dfp b hb))).trans e,k2,q,nD,rv.append (.cons r8 .nil),w8⟩
 exact codeAny_compStart_list (loop _ rfl) (T.self X.A 0 _ _ _ st1 (loop _ rfl))
theorem BR{x:Str}{px pos:Pos}{Nc:List Str}{Bl:List Nat}{scope:Scope}{iter elt:Expr}{ifs:List Expr}{wi:TI}{tc:TT}{te:TE}(O:LK X x Nc Bl scope)(hc:X.calm=true)(hi:PI X (.Name x px) iter wi)
  (htc:∀ cl C fp s H,PIf (DY X Nc scope cl C fp s H) ifs tc) (hte:∀ cl C fp s H,PE (DY X Nc scope cl C fp s H) elt te) (hs:∀ x,foldedSetIterable iter X.env x=pure x:=by intro _;rfl) :
  PE X (.ListComp elt [⟨.Name x px,iter,ifs,0⟩] scope pos) (Agw wi Bl tc te):=by
 intro pins s σ H Q I h
 rw[eval_ListComp]
 obtain⟨cl,e1,e2,e3⟩:=Ka (scope:=scope) (env:=X.env) λy hy hf=>I.ok.has y.1 (.inl (O.fr y hy hf).1)
 refine wpAny_comprehension_free (use:=none) rfl hs e1 O.kind O.names (thn (hi pins s σ H _ I h) λv s1 h1=>thn h1 λitv s2 h2=>?_)
 obtain⟨it,fp,tn,J,H2,e,I2,T,st2,f2,w2⟩:=h2
 subst e
 refine Xb (RR:=λacc C=>compPost (model X.prog X.w) X.A X.xe none (EP X pins σ Q) acc C) O hc e2 e3 (hte cl) (htc cl) I2 T st2 f2 w2 ?_
 intro D C s' m hn hq hC
 refine⟨m,hn,λh' hs'=>?_⟩
 obtain⟨H',I',_,q⟩:=hq h' hs'
 exact⟨.ref D,H',I',rfl,q⟩
theorem Kd{i:Nat}{y x:Str}{px py pos spos:Pos}{Nc:List Str}{Bl:List Nat}{scope:Scope}{iter elt:Expr}{ifs:List Expr}{wi:TI}{tc:TT}{te:TE}(O:LK X x Nc Bl scope)(hc:X.calm=true)
  (hN:X.N.Nodup) (hy:X.N[i]?=some y) (hx:X.env.scope.names.lookup y=some .local) (hi:PI X (.Name x px) iter wi)
  (htc:∀ cl C fp s H,PIf (DY X Nc scope cl C fp s H) ifs tc) (hte:∀ cl C fp s H,PE (DY X Nc scope cl C fp s H) elt te)
  (hsw:swapsWith (.ListComp elt [⟨.Name x px,iter,ifs,0⟩] scope pos) (some (.Name y py)) spos.line X.env=pure true) (hs:∀ x,foldedSetIterable iter X.env x=pure x:=by intro _;rfl) :
  PS X (.Assign [.Name y py] (.ListComp elt [⟨.Name x px,iter,ifs,0⟩] scope pos) spos) (Agj (Agw wi Bl tc te) (Jq i)):=by
 intro pins s σ H Dn I h
 rw[exec_Assign_Name_used _ _ _ _ hsw]
 refine zA (wpAny_standAt (zA ?_))
 obtain⟨cl,e1,e2,e3⟩:=Ka (scope:=scope) (env:=X.env) λy hy hf=>I.ok.has y.1 (.inl (O.fr y hy hf).1)
 show wpAny _ X.A (do let _ <- comprehension (.ListComp elt [⟨.Name x px,iter,ifs,0⟩] scope pos) scope X.env _ (newList []) false (eval iter X.env) (some (assign (.Name y py) X.env))) _ _ s
 refine zA (zT (wpAny_comprehension_free (use:=some (assign (.Name y py) X.env)) (Q:=λ_ s'=>SP X pins Dn .next s') rfl hs e1 O.kind O.names
  (thn (hi pins s σ H _ I h) λv s1 h1=>thn h1 λitv s2 h2=>?_)) (λ_ s' hq=>zE (zE hq)) λ_ _ e=>e)
 obtain⟨it,fp,tn,J,H2,e,I2,T,st2,f2,w2⟩:=h2
 subst e
 refine Xb (RR:=λacc C=>compPost (model X.prog X.w) X.A X.xe (some (assign (.Name y py) X.env)) (λ_ s'=>SP X pins Dn .next s') acc C) O hc e2 e3 (hte cl) (htc cl) I2 T st2 f2 w2 ?_
 intro D C s' m hn hq hC
 show wpAny _ X.A (assign (.Name y py) X.env (.ref D)) _ _ _
 obtain⟨H',I',nC,q⟩:=hq s'.heap (.refl ..)
 have I'':Inv X pins σ H' s':=I'
 have CL:C≠X.env.locals:=Aq2 (Aqa I2.lt hC)
 have AbG:∀ y c,X.env.cells.lookup y=some c->c≠C:=λy c e z=>by
  obtain⟨v,q⟩:=I2.cell y c e
  have:=Aqa q.lt hC
  rw[z] at this
  exact Aqu _ this
 refine wpAny_assign_Name (Tn I'' hN hy (.inl hx) (show RelV (.ref D) (.ref D) from rfl) (λs3 I3 hsb=>?_) (.inr hx))
 obtain⟨a,hsb,ha⟩:=hsb
 have aC:C≠a:=by
  rcases ha with z | z
  ·rw[z];exact CL
  ·exact Ne.symm (AbG _ _ z)
 refine⟨m,hn.sameBut hsb aC,λh4 hs4=>?_⟩
 refine⟨_,H',I3.turned (it:=C) (t':=s3.toks) (λb o hb e=>(hs4.2 b hb).trans e) nC CL (.inr (Aqn I2.sz hC)) AbG (λp hp z=>?_),q⟩
 ·have:=Aqa (Heap.lt_size (I2.pin p hp).1) hC
  rw[z] at this
  exact Aqu _ this
end
def Its (x:Str):It:=⟨λi _=>i<x.cps.size,λi H v H'=>H'=H/\∃ c,x.cps[i]?=some c/\v=.str ⟨#[c]⟩,λi _=>x.cps.size<=i⟩
theorem Afd{P:Program}{w:World}{K:W.Frag}{tg:Expr}(it:Addr)(x:Str)(t:Tok):Turn P w K tg (Its x) [it] it (λi h=>i<=x.cps.size/\h.IsStrIter it "str_ascii_iterator" x t i) where
 mem:=by simp
 obj:=λi h st b hb=>by
  have e:b=it:=by simpa using hb
  subst e
  obtain⟨_,o,e,c,d⟩:=st
  exact⟨o,e,λv z=>by rw[d] at z;cases z⟩
 keep:=λi h h' st k=>by
  obtain⟨hl,o,e,c,d⟩:=st
  exact⟨hl,o,k it (by simp) o e,c,d⟩
 item:=by
  intro X hP hw hK hc i pins s σ H E I hf st hg
  subst hP hw hK
  obtain⟨hl,st⟩:=st
  have hg:i<x.cps.size:=hg
  obtain⟨f0,f1,f2,f3,f4,f5⟩:=hf it (by simp)
  have hx:x.cps[i]?=some x.cps[i]:=by simp[hg]
  refine wpAny_pyNext_ascii_item st hx λh' st' sb=>?_
  have I1:Inv X pins σ H { s with heap:=h',toks:=s.toks+1 }:=I.turned (λb o hb e=>(sb.2 b hb).trans e) f0 f1 f3 f4 f5
  obtain⟨o,e,c,d⟩:=id st'
  exact⟨_,rfl,Ab6 (s:={ s with heap:=h',toks:=s.toks+1 }) e c d (by decide) ⟨.str ⟨#[x.cps[i]]⟩,H,I1,⟨_,rfl⟩,⟨rfl,_,hx,rfl⟩,⟨hg,st'⟩,λb hb=>(hf b hb).1⟩⟩
 done:=by
  intro X hP hw hK hc i pins s σ H E I hf st hg
  subst hP hw hK
  obtain⟨hl,st⟩:=st
  have hg:x.cps.size<=i:=hg
  obtain⟨f0,f1,f2,f3,f4,f5⟩:=hf it (by simp)
  exact wpAny_pyNext_ascii_end (I.ok.hd hc) st (by simp;omega) λh' eb=>⟨rfl,I.turned (t':=s.toks) (λb o hb e=>eb b o hb e) f0 f1 f3 f4 f5⟩
 self:=λ_ _ _ _ _ st h=>wpAny_pyIter_striter_ascii st.2 h
theorem Afe{P:Program}{w:World}{K:W.Frag}{tg:Expr}(it:Addr)(x:Str)(t:Tok):Turn P w K tg (Its x) [it] it (λi h=>i<=x.cps.size/\h.IsStrIter it "str_iterator" x t i) where
 mem:=by simp
 obj:=λi h st b hb=>by
  have e:b=it:=by simpa using hb
  subst e
  obtain⟨_,o,e,c,d⟩:=st
  exact⟨o,e,λv z=>by rw[d] at z;cases z⟩
 keep:=λi h h' st k=>by
  obtain⟨hl,o,e,c,d⟩:=st
  exact⟨hl,o,k it (by simp) o e,c,d⟩
 item:=by
  intro X hP hw hK hc i pins s σ H E I hf st hg
  subst hP hw hK
  obtain⟨hl,st⟩:=st
  have hg:i<x.cps.size:=hg
  obtain⟨f0,f1,f2,f3,f4,f5⟩:=hf it (by simp)
  have hx:x.cps[i]?=some x.cps[i]:=by simp[hg]
  refine wpAny_pyNext_wide_item st hx λh' st' sb=>?_
  have I1:Inv X pins σ H { s with heap:=h',toks:=s.toks+1 }:=I.turned (λb o hb e=>(sb.2 b hb).trans e) f0 f1 f3 f4 f5
  obtain⟨o,e,c,d⟩:=id st'
  exact⟨_,rfl,Ab6 (s:={ s with heap:=h',toks:=s.toks+1 }) e c d (by decide) ⟨.str ⟨#[x.cps[i]]⟩,H,I1,⟨_,rfl⟩,⟨rfl,_,hx,rfl⟩,⟨hg,st'⟩,λb hb=>(hf b hb).1⟩⟩
 done:=by
  intro X hP hw hK hc i pins s σ H E I hf st hg
  subst hP hw hK
  obtain⟨hl,st⟩:=st
  have hg:x.cps.size<=i:=hg
  obtain⟨f0,f1,f2,f3,f4,f5⟩:=hf it (by simp)
  exact wpAny_pyNext_wide_end (I.ok.hd hc) st (by simp;omega) λh' eb=>⟨rfl,I.turned (t':=s.toks) (λb o hb e=>eb b o hb e) f0 f1 f3 f4 f5⟩
 self:=λ_ _ _ _ _ st h=>wpAny_pyIter_striter_wide st.2 h
section
variable {X:Cx}{tg:Expr}
def Aon (tl:TE):TI:=λσ H R=>tl σ H λx H1=>∃ z,x=.str z/\R (Its z) H1
theorem Xd{l:Expr}{tl:TE}(hl:PE X l tl):PI X tg l (Aon tl):=by
 intro pins s σ H R I h
 refine thn (hl pins s σ H _ I h) λv s1 ⟨x,H1,I1,r1,q1⟩=>?_
 obtain⟨z,e,q⟩:=q1
 subst e
 obtain⟨t,rfl⟩:=r1
 have fpn:∀ b∈[s1.heap.objs.size],Gz X pins H1 b:=λb hb=>by
  have e:b=s1.heap.objs.size:=by simpa using hb
  subst e
  exact I1.AeR (ApR _) (I1.hok.fresh (ApR _))
 cases ha:z.cps.all (·<128)
 ·refine wpAny_pyIter_wide ha ?_
  exact⟨s1.heap.objs.size,[s1.heap.objs.size],_,_,H1,rfl,I1.kept (t':=s1.toks) λb o e=>zB _ e,Afe _ z t,⟨Aqb _,_,zD _ rfl,rfl,rfl⟩,fpn,q⟩
 ·refine wpAny_pyIter_ascii ha ?_
  exact⟨s1.heap.objs.size,[s1.heap.objs.size],_,_,H1,rfl,I1.kept (t':=s1.toks) λb o e=>zB _ e,Afd _ z t,⟨Aqb _,_,zD _ rfl,rfl,rfl⟩,fpn,q⟩
end
theorem AdU{z:Str}{g:TG}{tb:TS}{D:Ends}{σ:St}{H:Hp}(Pv:Nat->St->Hp->Prop)(h0:Pv 0 σ H)
  (hs:∀ i c σ H,z.cps[i]?=some c->Pv i σ H->g (.str ⟨#[c]⟩) σ H λσ2 H2=>tb { D with nx:=Pv (i+1),ct:=Pv (i+1),bk:=D.nx } σ2 H2) (hd:∀ σ H,Pv z.cps.size σ H->D.nx σ H) :
  ∃ W:Nat->Nat->St->Hp->Prop,(∃ m,W 0 m σ H)/\∀ i m σ H,W i m σ H ->
   ((Its z).stop i H/\D.nx σ H)\/((Its z).go i H/\∃ N:St->Hp->Prop,(∀ σ' H',N σ' H'->∃ m',m'<m/\W (i+1) m' σ' H')/\∀ x H',(Its z).yld i H x H'->g x σ H' λσ2 H2=>tb { D with nx:=N,ct:=N,bk:=D.nx } σ2 H2):=by
 refine⟨λi m σ H=>m=z.cps.size-i/\i<=z.cps.size/\Pv i σ H,⟨z.cps.size,by simp,Aqb _,h0⟩,?_⟩
 rintro i m σ H ⟨rfl,hi,p⟩
 by_cases hlt:i<z.cps.size
 ·refine .inr ⟨hlt,Pv (i+1),λσ' H' p'=>⟨z.cps.size-(i+1),by omega,rfl,hlt,p'⟩,λx H' y=>?_⟩
  obtain⟨e,c,hc,rfl⟩:=y
  subst e
  exact hs i c σ _ hc p
 ·have e:i=z.cps.size:=by omega
  subst e
  exact .inl ⟨ApR _,hd σ H p⟩
def CN (n:Nat)(Pv:Nat->List V->Hp->Prop)(i:Nat)(ys:List V)(H:Hp):Prop:=∃ m',m'<n-i/\m'=n-(i+1)/\i+1<=n/\Pv (i+1) ys H
theorem CN.of{n:Nat}{Pv:Nat->List V->Hp->Prop}{i:Nat}{ys:List V}{H:Hp}(h:i<n)(p:Pv (i+1) ys H):CN n Pv i ys H:=⟨n-(i+1),by omega,rfl,h,p⟩
def BZ (n:Nat)(Pv:Nat->List V->Hp->Prop)(tc:TT)(te:TE)(σ:St)(i:Nat)(ys:List V)(H:Hp):Prop :=
 tc σ H λb H2=>if b=true then te σ H2 λy H3=>CN n Pv i (ys++[y]) H3 else CN n Pv i ys H2
theorem BZ.no{n:Nat}{Pv:Nat->List V->Hp->Prop}{te:TE}{σ:St}{i:Nat}{ys:List V}{H:Hp}(h:te σ H λy H3=>CN n Pv i (ys++[y]) H3):BZ n Pv AaC te σ i ys H:=by
 unfold BZ AaC
 exact JZ h
theorem Bu{K:W.Frag}{a:Addr}{xs:List V}{Bl:List Nat}{tc:TT}{te:TE}{σ:St}{H:Hp}{Q:VK}(Pv:Nat->List V->Hp->Prop)(h0:Pv 0 [] H)(hl:∀ i ys H,i<=xs.length->Pv i ys H->SqL K H a xs/\ys.length<=i)
  (hz:xs.length<=sizeLine) (hs:∀ i x ys H,i<xs.length->xs[i]?=some x->Pv i ys H->BZ xs.length Pv tc te (some x::Ea σ Bl) i ys H)
  (hd:∀ ys H p,Pv xs.length ys H->H p=none->Q (.ref p) (upd H p (.lst ys))):Qf Bl tc te (Itl K a) σ H Q:=by
 refine⟨λi m ys H=>m=xs.length-i/\i<=xs.length/\Pv i ys H,⟨xs.length,by simp,Aqb _,h0⟩,?_⟩
 rintro i m ys H ⟨rfl,hi,p⟩
 obtain⟨q,hy⟩:=hl i ys H hi p
 by_cases hlt:i<xs.length
 ·refine .inr ⟨⟨xs,xs[i],q,by simp[hlt]⟩,by omega,λx H' y=>?_⟩
  obtain⟨e,y⟩:=y
  subst e
  exact hs i x ys _ hlt (y xs q) p
 ·have e:i=xs.length:=by omega
  subst e
  exact .inl ⟨⟨xs,q,ApR _⟩,by omega,λp' hp=>hd ys H p' p hp⟩
theorem Dz{lo:Int}{n:Nat}{Bl:List Nat}{tc:TT}{te:TE}{σ:St}{H:Hp}{Q:VK}(Pv:Nat->List V->Hp->Prop)(h0:Pv 0 [] H)(hl:∀ i ys H,i<=n->Pv i ys H->ys.length<=i)
  (hz:n<=sizeLine) (hs:∀ i ys H,i<n->Pv i ys H->BZ n Pv tc te (some (.int (lo+i))::Ea σ Bl) i ys H)
  (hd:∀ ys H p,Pv n ys H->H p=none->Q (.ref p) (upd H p (.lst ys))):Qf Bl tc te (Itr lo n) σ H Q:=by
 refine⟨λi m ys H=>m=n-i/\i<=n/\Pv i ys H,⟨n,by simp,Aqb _,h0⟩,?_⟩
 rintro i m ys H ⟨rfl,hi,p⟩
 have hy:=hl i ys H hi p
 by_cases hlt:i<n
 ·refine .inr ⟨hlt,by omega,λx H' y=>?_⟩
  obtain⟨e,y⟩:=y
  subst e y
  exact hs i ys _ hlt p
 ·have e:i=n:=by omega
  subst e
  exact .inl ⟨ApR _,by omega,λp' hp=>hd ys H p' p hp⟩
theorem Xe{z:Str}{Bl:List Nat}{tc:TT}{te:TE}{σ:St}{H:Hp}{Q:VK}(Pv:Nat->List V->Hp->Prop)(h0:Pv 0 [] H)(hl:∀ i ys H,i<=z.cps.size->Pv i ys H->ys.length<=i)
  (hz:z.cps.size<=sizeLine) (hs:∀ i c ys H,i<z.cps.size->z.cps[i]?=some c->Pv i ys H->BZ z.cps.size Pv tc te (some (.str ⟨#[c]⟩)::Ea σ Bl) i ys H)
  (hd:∀ ys H p,Pv z.cps.size ys H->H p=none->Q (.ref p) (upd H p (.lst ys))):Qf Bl tc te (Its z) σ H Q:=by
 refine⟨λi m ys H=>m=z.cps.size-i/\i<=z.cps.size/\Pv i ys H,⟨z.cps.size,by simp,Aqb _,h0⟩,?_⟩
 rintro i m ys H ⟨rfl,hi,p⟩
 have hy:=hl i ys H hi p
 by_cases hlt:i<z.cps.size
 ·refine .inr ⟨hlt,by omega,λx H' y=>?_⟩
  obtain⟨e,c,hc,rfl⟩:=y
  subst e
  exact hs i c ys _ hlt hc p
 ·have e:i=z.cps.size:=by omega
  subst e
  exact .inl ⟨ApR _,by omega,λp' hp=>hd ys H p' p hp⟩
theorem Ade{ys:List Str}:∀{us:List Value},Vals (ys.map V.str) us->StrsAre us ys:=by
 induction ys with
 | nil=>intro us r;rw[AqD] at r;cases r;exact .nil
 | cons n ns ih =>
  intro us r
  rw[ApT] at r
  cases r with
  | cons r1 r2 =>
   obtain⟨t,e⟩:=r1
   subst e
   exact .cons n t (ih r2)
def rJoin(K:W.Frag):V->List V->Hp->VK->Prop:=λx vs H Q=>∃ z a ys,x=.str z/\vs=[.ref a]/\SqL K H a (ys.map V.str)/\(ys.map (·.length)).sum+ys.length*z.length<=16777216/\Q (.str (Txt.join z ys)) H
section
variable {X:Cx}
theorem Ai7:MtR X "str.join" (rJoin X.K):=by
 intro pins s σ H x vs v us Q I rx rv h
 obtain⟨z,a,ys,rfl,rfl,hq,hz,q⟩:=h
 obtain⟨t,rfl⟩:=rx
 obtain⟨u,rfl,ru⟩:=rv.one
 cases ru
 obtain⟨its,r,pl,hl⟩:=I.list hq
 exact join_list pl.isList (Ade (by simpa using r)) hz λt' k=>⟨.str _,H,I.tok _,⟨_,rfl⟩,q⟩
def Am9 (K:W.Frag):List V->Hp->VK->Prop:=λvs H Q=>∃ x t b,Tr K H x t /\
 ((∃ n,vs=[x,.ty n]/\W.kitOne K t (.type n)=some b)\/(∃ a,vs=[x,.ref a]/\W.kitOne K t (.ref a)=some b))/\Q (.bl b) H
theorem Agx:Et X (.builtin "isinstance") (Am9 X.K):=by
 intro pins s σ H xs us Q I rv h
 obtain⟨x,t,b,ty,hv,q⟩:=h
 rcases hv with ⟨n,rfl,e⟩ | ⟨a,rfl,e⟩
 ·obtain⟨u1,u2,rfl,r1,r2⟩:=rv.two
  cases r2
  exact Z1 I r1 ty e λtk=>⟨.bl b,H,I.tok _,rfl,q⟩
 ·obtain⟨u1,u2,rfl,r1,r2⟩:=rv.two
  cases r2
  exact Z1 I r1 ty e λtk=>⟨.bl b,H,I.tok _,rfl,q⟩
def eqL:List V->List V->Bool
 | [],[]=>true
 | x::xs,y::ys=>eqV x y && eqL xs ys
 | _,_=>false
theorem Xf{x:V}(h:Em x=true):eqV x x=true:=by
 cases x with
 | non=>rfl
 | bl b=>simp[eqV]
 | int i=>simp[eqV]
 | str z=>simp[eqV]
 | _=>exact absurd (show false=true from h) Aqe
def Ap1 (K:W.Frag):R2:=λx y H Q=>∃ p q xs ys,x=.ref p/\y=.ref q/\SqL K H p xs/\SqL K H q ys/\xs.all Em=true/\ys.all Em=true/\Q (.bl (eqL xs ys)) H
end
open PySem
def tx (l:List Nat):Str:=⟨l.toArray⟩
theorem Ai(l:List Nat):(tx l).length=l.length:=by simp[tx,Str.length]
theorem Ke(l:List Nat):(tx l).cps.size=l.length:=by simp[tx]
theorem Ce(l:List Nat):(tx l).cps.toList=l:=by simp[tx]
theorem Jf(l:List Nat)(i:Nat):(tx l).cps[i]?=l[i]?:=by simp[tx]
theorem AmA(z:Str):tx z.cps.toList=z:=by cases z;simp[tx]
theorem G7(a b:List Nat):tx a++tx b=tx (a++b):=by
 show Str.append (tx a) (tx b)=_
 simp[tx,Str.append]
theorem Fd{a b:List Nat}(h:tx a=tx b):a=b:=by
 have:=congrArg (λz:Str=>z.cps.toList) h
 simpa [tx] using this
theorem LQ(c:Nat):(⟨#[c]⟩:Str)=tx [c]:=rfl
theorem Z8:∀(ys:List (List Nat)) (acc:Array Nat),(ys.map tx).foldl (λacc p=>acc++(tx []).cps++p.cps) acc=acc++ys.flatten.toArray
 | [],acc=>by simp
 | y::ys,acc=>by
  rw[ApT,Aro,Z8 ys]
  simp[tx]
theorem Nv:∀(ys:List (List Nat)),Txt.join (tx []) (ys.map tx)=tx ys.flatten
 | []=>by simp[Txt.join,Builtin.Str.glued,tx,Str.empty]
 | y::ys=>by
  show Str.mk _=_
  simp only [ApT,List.drop_one,List.tail_cons,List.headD_cons]
  rw[Z8]
  simp[tx]
theorem Xg{α:Type}(f:α->Nat):∀(l:List α),(l.map λc=>[f c]).flatten=l.map f
 | []=>rfl
 | a::l=>by rw[ApT,Aqg,Xg f l];rfl
theorem Ai8{α:Type}(f:α->Nat):∀(l:List α),(((l.map λc=>[f c]).map tx).map (·.length)).sum=l.length
 | []=>rfl
 | a::l=>by
  rw[ApT,ApT,ApT,Aqm,Ai8 f l,Ai,ApU]
  show 1+l.length=l.length+1
  omega
end L2
namespace PySem
open Sem (wp)
open Builtin Builtin.Str Builtin.Int
namespace RV
theorem Tv:Manifest.owners.lookup (String.ofList ['d','e','s','r','e','v','e','r'].reverse)=some Manifest.sig_reversed:=by kernel_rfl
theorem mro_reversed:mroOf (.type "reversed")=pure [.type "reversed", .type "object"]:=by rw[mroOf_type];kernel_rfl
theorem lookup_reversed_new:typeLookup (.type "reversed") "__new__" = pure (some (.builtin "reversed.__new__")):=by rw[typeLookup_type,builtinLookup_eq_fast];kernel_rfl
theorem Afg:Slot "reversed" "__init__" "object.__init__" :=
 .of (owner := "object") (n := "__init__") (by rw[typeLookup_type,builtinLookup_eq_fast];kernel_rfl) (by decide +kernel) (by decide +kernel) (by decide +kernel)
  (by first | exact .inl (by decide +kernel) | exact .inr (by decide +kernel)) (by rw[isSubtype_type];kernel_rfl)
theorem VR:TypeCalled "reversed" "reversed.__new__" "object.__init__" :=
 ⟨by decide +kernel,by decide +kernel,⟨_,_,mro_reversed⟩,madeBy_type mro_reversed lookup_reversed_new (by decide +kernel),by decide +kernel,by rw[isSubtype_type];kernel_rfl,Afg⟩
theorem Adf(a:Value):checkTypeCall "reversed" ⟨[a],[]⟩=pure ():=by kernel_rfl
theorem Afh(a:Value):checkBuiltinCall "reversed.__new__" ⟨[.type "reversed", a],[]⟩=pure ():=by kernel_rfl
theorem Afi:entryFor table "reversed.__new__" = some Builtin.«reversed.__new__»:=entryFor_of_tree (by kernel_rfl)
theorem sub_self:isSubtype (.type "reversed") (.type "reversed")=pure true:=by rw[isSubtype_type];kernel_rfl
theorem Afj:typeLookup (.type "str") "__reversed__" = pure none:=by rw[typeLookup_type,builtinLookup_eq_fast];kernel_rfl
theorem Adg:isSubtype (.type "str") (.type "dict")=pure false:=by rw[isSubtype_type];kernel_rfl
theorem slot_next:Slot "reversed" "__next__" "reversed.__next__" :=
 .of (owner := "reversed") (n := "__next__") (by rw[typeLookup_type,builtinLookup_eq_fast];kernel_rfl) (by decide +kernel) (by decide +kernel) (by decide +kernel)
  (by first | exact .inl (by decide +kernel) | exact .inr (by decide +kernel)) (by rw[isSubtype_type];kernel_rfl)
theorem entry_next:entryFor table "reversed.__next__" = some Builtin.«reversed.__next__»:=entryFor_of_tree (by kernel_rfl)
theorem Uz(a:Value):argsOk "reversed.__next__" ⟨[a],[]⟩:=by
 unfold argsOk;rw[signature?_of (id := "reversed.__next__") (n:=['_','_','t','x','e','n','_','_']) (o:=['d','e','s','r','e','v','e','r']) (by kernel_rfl) Tv];kernel_rfl
theorem Z9:Slot "reversed" "__iter__" "reversed.__iter__" :=
 .of (owner := "reversed") (n := "__iter__") (by rw[typeLookup_type,builtinLookup_eq_fast];kernel_rfl) (by decide +kernel) (by decide +kernel) (by decide +kernel)
  (by first | exact .inl (by decide +kernel) | exact .inr (by decide +kernel)) (by rw[isSubtype_type];kernel_rfl)
theorem Adh:entryFor table "reversed.__iter__" = some Builtin.«dict_keyiterator.__iter__» :=
 entryFor_alias (id' := "dict_keyiterator.__iter__") (by kernel_rfl) (by first | rfl | decide +kernel | (unfold String.splitOn;simp +decide [String.splitOnAux])) (by decide +kernel) (by kernel_rfl)
theorem AbH(a:Value):argsOk "reversed.__iter__" ⟨[a],[]⟩:=by
 unfold argsOk;rw[signature?_of (id := "reversed.__iter__") (n:=['_','_','r','e','t','i','_','_']) (o:=['d','e','s','r','e','v','e','r']) (by kernel_rfl) Tv];kernel_rfl
theorem ZC:Slot "reversed" "__length_hint__" "reversed.__length_hint__" :=
 .of (owner := "reversed") (n := "__length_hint__") (by rw[typeLookup_type,builtinLookup_eq_fast];kernel_rfl) (by decide +kernel) (by decide +kernel) (by decide +kernel)
  (by first | exact .inl (by decide +kernel) | exact .inr (by decide +kernel)) (by rw[isSubtype_type];kernel_rfl)
theorem Adi:entryFor table "reversed.__length_hint__" = some Builtin.«reversed.__length_hint__»:=entryFor_of_tree (by kernel_rfl)
theorem AbI(a:Value):argsOk "reversed.__length_hint__" ⟨[a],[]⟩:=by
 unfold argsOk;rw[signature?_of (id := "reversed.__length_hint__") (n:=['_','_','t','n','i','h','_','h','t','g','n','e','l','_','_']) (o:=['d','e','s','r','e','v','e','r']) (by kernel_rfl) Tv];kernel_rfl
theorem AmB:typeLookup (.type "reversed") "__len__" = pure none:=by rw[typeLookup_type,builtinLookup_eq_fast];kernel_rfl
theorem hint:typeLookup (.type "reversed") "__length_hint__" = pure (some (.builtin "reversed.__length_hint__")):=by rw[typeLookup_type,builtinLookup_eq_fast];kernel_rfl
end RV
def AbJ (x:Str)(t:Tok)(i:Int):Obj:={ cls:=.type "reversed", data:=.fields #[.str x t,rawInt i] }
set_option maxHeartbeats 1000000 in
theorem Xh(x:Str)(t:Tok)(hx:¬(x.length:Int) ≥ 2 ^ 63) :
  Meets (Builtin.«reversed.__new__» ⟨[.type "reversed", .str x t],[]⟩) (λ_ R s =>
   R (.ok (.ret (.ref s.heap.objs.size))) { s with heap:=s.heap.push (AbJ x t ((x.length:Int)-1)),toks:=s.toks+1+1 }) :=
 .of_wp λprog w A R s h=>by
  obtain⟨hp,g,d,tk,os⟩:=s
  have hsub:=RV.sub_self
  have h1:=RV.Afj
  have h2:=RV.Adg
  have h3:=F.slot_str_getitem.lookup
  wp_walk using (PySem.P.len_str hx)
  exact⟨_,rfl,h⟩
def Heap.CZ(h:Heap)(a:Addr)(x:Str)(t:Tok)(i:Int):Prop:=∃ o,h.get? a=some o/\o.cls=.type "reversed" /\ o.data=.fields #[.str x t,rawInt i]
theorem Heap.CZ.typeIs{s:Shared}{a:Addr}{x:Str}{t:Tok}{i:Int}(y:s.heap.CZ a x t i):s.TypeIs (.ref a) "reversed" := let ⟨o,ho,hc,_⟩:=y;⟨o,ho,hc⟩
theorem Heap.CZ.at{h h':Heap}{a:Addr}{x:Str}{t:Tok}{i:Int}(y:h.CZ a x t i)(e:∀ o,h.get? a=some o->h'.get? a=some o):h'.CZ a x t i:=let ⟨o,ho,r⟩:=y;⟨o,e _ ho,r⟩
section
variable {prog:Program}{w:World}{A:Around}{E:Value->Shared->Prop}{s:Shared}
theorem Ik{x:Str}{t:Tok}{Q:Value->Shared->Prop}(hx:¬(x.length:Int) ≥ 2 ^ 63)
  (h:Q (.ref s.heap.objs.size) { s with heap:=s.heap.push (AbJ x t ((x.length:Int)-1)),toks:=s.toks+1+1 }):wpAny (model prog w) A (call (.type "reversed") [.str x t]) Q E s :=
 callType_new RV.VR (by decide) (RV.Adf _) (RV.Afh _) (λobj=>F.args_object_init_2 obj _) RV.Afi (Xh x t hx) ⟨⟨_,zD _ rfl,rfl⟩,h⟩
theorem Il{it:Addr}{x:Str}{t:Tok}{i:Int}{Q:Value->Shared->Prop}(hit:s.heap.CZ it x t i)(h:Q (.ref it) s):wpAny (model prog w) A (pyIter (.ref it)) Q E s:=by
 refine wpAny_pyIter_slot hit.typeIs RV.Z9 (wpAny_call_entry RV.Z9 hit.typeIs RV.Adh ?_ (RV.AbH _))
 show wpAny _ _ (ret (.ref it)) _ _ s
 exact zE ⟨_,rfl, "reversed", _,hit.typeIs,RV.slot_next.lookup,h⟩
theorem FQ{it:Addr}{x:Str}{t:Tok}{i c:Nat}{Q:Option Value->Shared->Prop}(hit:s.heap.CZ it x t (i:Int))(hx:x.cps[i]?=some c)(hb:¬(x.length:Int) ≥ 2 ^ 63)
  (hQ:∀ h' u tk,h'.CZ it x t ((i:Int)-1)->Heap.SameBut it s.heap h'->Q (some (.str ⟨#[c]⟩ u)) { s with heap:=h',toks:=tk }):wpAny (model prog w) A (pyNext (.ref it)) Q E s:=by
 obtain⟨o,ho,hc,hd⟩:=id hit
 have hi:i<x.length:=(Array.getElem?_eq_some_iff.mp hx).1
 unfold pyNext
 refine zA (wpAny_attempt (wpAny_callSpecial?_slot (name:=Str.ofString "__next__") hit.typeIs RV.slot_next
  (wpAny_call_entry RV.slot_next hit.typeIs RV.entry_next ?_ (RV.Uz _))))
 unfold Builtin.«reversed.__next__»
 refine zA (wpAny_of_eq (a:=(Value.ref it,[])) rfl ?_)
 try dsimp only
 refine zA (yD ho hd (x:=.str x t) rfl ?_)
 show wpAny _ _ (field (.ref it) 1 >>= _) _ _ s
 refine zA (yD ho hd (x:=rawInt (i:Int)) rfl ?_)
 show wpAny _ _ (if (i:Int)<0 then _ else _) _ _ s
 rw[if_neg (by omega)]
 refine zA (wpAny_specialOf (typeIs_str s x t) F.slot_str_getitem.lookup ?_)
 rw[if_neg (by decide)]
 refine zA (wpAny_mkInt ?_)
 have e1:seqIndex? (i:Int) x.length=some i:=by
  have:=PySem.StrLaws.seqIndex_nonneg (i:=(i:Int)) (n:=x.length) (by omega) (by omega)
  simpa using this
 refine zA (wpAny_attempt (PySem.P.getItem_str (c:=c) (by
  have e1:decide ((i:Int) < -(2 ^ 63:Int))=false:=zJ (by omega)
  have e2:decide ((i:Int) ≥ 2 ^ 63)=false:=zJ (by omega)
  rw[e1,e2];rfl) (by rw[e1];exact hx) ?_))
 show wpAny _ _ (field (.ref it) 1 >>= _) _ _ _
 refine zA (yD (s:={ s with toks:=s.toks+1+1 }) ho hd (x:=rawInt (i:Int)) rfl ?_)
 show wpAny _ _ (setField (.ref it) 1 (rawInt ((i:Int)-1)) >>= _) _ _ _
 refine zA (yC (s:={ s with toks:=s.toks+1+1 }) ho hd (by simp) ?_)
 refine zE ⟨_,rfl,zE (hQ _ _ _ ?_ (Heap.SameBut.update ..))⟩
 exact⟨_,zR _ ho (Obj.isFreed_of_fields (zX hd _)),(Obj.cls_mapFields ..).trans hc,by
  rw[zX hd];simp⟩
theorem G8{it:Addr}{x:Str}{t:Tok}{Q:Option Value->Shared->Prop}(hh:A.handled=none)(hit:s.heap.CZ it x t (-1))
  (hQ:∀ h',Heap.ExtBut it s.heap h'->(∃ o,h'.get? it=some o)->Q none { s with heap:=h' }):wpAny (model prog w) A (pyNext (.ref it)) Q E s:=by
 obtain⟨o,ho,hc,hd⟩:=id hit
 unfold pyNext
 refine zA (wpAny_attempt (wpAny_callSpecial?_slot (name:=Str.ofString "__next__") hit.typeIs RV.slot_next
  (wpAny_call_entry RV.slot_next hit.typeIs RV.entry_next ?_ (RV.Uz _))))
 unfold Builtin.«reversed.__next__»
 refine zA (wpAny_of_eq (a:=(Value.ref it,[])) rfl ?_)
 try dsimp only
 refine zA (yD ho hd (x:=.str x t) rfl ?_)
 show wpAny _ _ (field (.ref it) 1 >>= _) _ _ s
 refine zA (yD ho hd (x:=rawInt (-1)) rfl ?_)
 show wpAny _ _ (if (-1:Int)<0 then _ else _) _ _ s
 rw[if_pos (by decide)]
 refine zA (wpAny_rule ?_)
 refine zA ?_
 show wpAny _ _ (setField (.ref it) 1 (rawInt (-1)) >>= λ_=>setField (.ref it) 0 .none) _ _ _
 refine zA (yC ho hd (by simp) ?_)
 have ho2:=zR (Obj.mapFields λvs=>vs.set! 1 (rawInt (-1))) ho (Obj.isFreed_of_fields (zX hd _))
 have hd2:=zX hd λvs=>vs.set! 1 (rawInt (-1))
 refine yC (s:={ s with heap:=s.heap.update it (Obj.mapFields λvs=>vs.set! 1 (rawInt (-1))) }) ho2 hd2 (by simp) ?_
 have hd3:=zX hd2 λvs=>vs.set! 0 Value.none
 have ho3:=zR (Obj.mapFields λvs=>vs.set! 0 Value.none) ho2 (Obj.isFreed_of_fields hd3)
 refine zA ?_
 show wpAny _ _ (newExc (.type "StopIteration") [] >>= _) _ _ _
 refine zA ?_
 simp only [newExc,newTuple]
 refine zA (yJ ?_ (by size_fits))
 refine zA (m:=firstArgMember _ _) (wpAny_of_eq (a:=Value.none) (by first | rfl | (simp only [firstArgMember];rfl)) ?_)
 refine yJ ?_ (by size_fits)
 simp only [raiseNew]
 refine zA (wpAny_handled ?_)
 first | rw[show A.in1.handled=none from hh] | rw[hh]
 refine zA (zE (wpAny_throw ?_))
 refine zA (wpAny_isInstance (T := "StopIteration") (b:=true) ⟨_,zD _ rfl,rfl⟩ isSubtype_stop ?_)
 refine zE (hQ _ ((((Heap.SameBut.update ..).extBut.trans (Heap.SameBut.update ..).extBut).push _).push _) ⟨_,zB _ (zB _ ho3)⟩)
theorem Walks.AbJ(hh:A.handled=none)(I:Addr)(x:Str)(t:Tok)(hb:¬(x.length:Int) ≥ 2 ^ 63) :
  Walks prog w A I [I] [I] x.cps.size (λi v=>∃ c u,x.cps[x.cps.size-1-i]?=some c/\v=.str ⟨#[c]⟩ u) (λi h=>i<=x.cps.size/\h.CZ I x t ((x.cps.size:Int)-1-(i:Int))) where
 sub:=λ_ hb=>hb
 frame:=λ_ _ _ st hk=>⟨st.1,st.2.at λo e=>hk I (by simp) o e⟩
 item:=λi s Q E hi st hQ=>by
  have e:(x.cps.size:Int)-1-(i:Int)=((x.cps.size-1-i:Nat):Int):=by omega
  have hit:=st.2
  rw[e] at hit
  have hx:x.cps[x.cps.size-1-i]?=some (x.cps[x.cps.size-1-i]'(by omega)):=zP (by omega)
  refine FQ hit hx hb λh' u tk hit' hs'=>?_
  have e2:((x.cps.size-1-i:Nat):Int)-1=(x.cps.size:Int)-1-((i+1:Nat):Int):=by omega
  rw[e2] at hit'
  exact hQ _ h' tk ⟨_,_,hx,rfl⟩ ⟨hi,hit'⟩ λb o hb eo=>hs'.extBut b o (λh=>hb (by simp[h])) eo
 done:=λs Q E st hQ=>by
  have e:(x.cps.size:Int)-1-(x.cps.size:Int) = -1:=by omega
  have hit:=st.2
  rw[e] at hit
  exact G8 hh hit λh' he' _=>hQ h' s.toks λb o hb eo=>he' b o (λh=>hb (by simp[h])) eo
 self:=λ_ _ _ _ st hQ=>Il st.2 hQ
theorem Xi{it:Addr}{x:Str}{t:Tok}{Q:Value->Shared->Prop}(hb:¬(x.length:Int) ≥ 2 ^ 63)(hit:s.heap.CZ it x t ((x.length:Int)-1))
  (h:∀ u tk,s.toks<=tk->Q (.int x.length u) { s with toks:=tk }):wpAny (model prog w) A (call (.builtin "reversed.__length_hint__") [.ref it]) Q E s:=by
 obtain⟨o,ho,hc,hd⟩:=id hit
 refine wpAny_call_entry RV.ZC hit.typeIs RV.Adi ?_ (RV.AbI _)
 unfold Builtin.«reversed.__length_hint__»
 refine zA (wpAny_of_eq (a:=Value.ref it) rfl ?_)
 refine zA (yD ho hd (x:=.str x t) rfl ?_)
 rw[if_neg (show ¬((Value.str x t == Value.none)=true) from Aqe)]
 refine zA (PySem.P.len_str hb ?_)
 refine zA (m:=asInt? (.int x.length (s.toks+1))) (zE ?_)
 dsimp only
 show wpAny _ _ (field (.ref it) 1 >>= _) _ _ _
 refine zA (yD (s:={ s with toks:=s.toks+1+1 }) ho hd (x:=rawInt ((x.length:Int)-1)) rfl ?_)
 show wpAny _ _ (if (x.length:Int)<(x.length:Int)-1+1 then _ else retInt ((x.length:Int)-1+1)) _ _ _
 rw[if_neg (by omega),show(x.length:Int)-1+1=x.length by omega]
 unfold retInt
 refine zA (wpAny_mkInt (zE ⟨_,rfl,h _ _ ?_⟩))
 show s.toks<=s.toks+1+1+1
 omega
theorem Om{R:Result->Shared->Prop}{I:Addr}{x:Str}{t:Tok}(hh:A.handled=none)(hb:x.length<=sizeLine)(S:Addr)(hSI:S≠I)(res:Value) :
  ∀(k i:Nat) (s:Shared) (acc:Array Value) (c:Nat),x.cps.size-i=k->i<=x.cps.size->s.heap.CZ I x t ((x.cps.size:Int)-1-(i:Int)) ->
  s.heap.get? S=some { cls:=.type "list", dict:=none,data:=.seq acc c,slots:=#[] }->ItemsOf (λi v=>∃ c u,x.cps[x.cps.size-1-i]?=some c/\v=.str ⟨#[c]⟩ u) acc i ->
  (∀ h' tk acc' c',(∀ b o,b≠S->b≠I->s.heap.get? b=some o->h'.get? b=some o)->(∃ o,h'.get? I=some o)->h'.get? S=some { cls:=.type "list", dict:=none,data:=.seq acc' c',slots:=#[] } ->
   ItemsOf (λi v=>∃ c u,x.cps[x.cps.size-1-i]?=some c/\v=.str ⟨#[c]⟩ u) acc' x.cps.size->R (.ok (.ret res)) { s with heap:=h',toks:=tk }) ->
  codeAny (model prog w) A (.builtin "list.extend.loop" ⟨[.ref S,.ref I,res],[]⟩) R s:=by
 have hl:sizeLine=16777216:=yA
 have hb':¬(x.length:Int) ≥ 2 ^ 63:=by omega
 have hn:x.cps.size<=sizeLine:=hb
 intro k
 induction k with
 | zero =>
  intro i s acc c hk hi hst hS hacc hR
  have hin:i=x.cps.size:=by omega
  subst hin
  refine codeAny_builtin F.entry_extend_loop ?_
  rw[Around.under_plainId F.plain_extend_loop _]
  show wpAny _ A.in1 (pyNext (.ref I) >>= _) _ _ s
  have e:(x.cps.size:Int)-1-(x.cps.size:Int) = -1:=by omega
  rw[e] at hst
  refine zA (G8 (by exact hh) hst λh' he' ho'=>?_)
  exact zE (hR h' s.toks acc c (λb o _ hI q=>he' b o hI q) ho' (he' S _ hSI hS) hacc)
 | succ k ih =>
  intro i s acc c hk hi hst hS hacc hR
  have hlt:i<x.cps.size:=by omega
  refine codeAny_builtin F.entry_extend_loop ?_
  rw[Around.under_plainId F.plain_extend_loop _]
  show wpAny _ A.in1 (pyNext (.ref I) >>= _) _ _ s
  have e:(x.cps.size:Int)-1-(i:Int)=((x.cps.size-1-i:Nat):Int):=by omega
  rw[e] at hst
  have hx:x.cps[x.cps.size-1-i]?=some (x.cps[x.cps.size-1-i]'(by omega)):=zP (by omega)
  refine zA (FQ hst hx hb' λh' u tk hit' hs'=>?_)
  have e2:((x.cps.size-1-i:Nat):Int)-1=(x.cps.size:Int)-1-((i+1:Nat):Int):=by omega
  rw[e2] at hit'
  have hS':h'.get? S=some { cls:=.type "list", dict:=none,data:=.seq acc c,slots:=#[] }:=(hs'.2 S hSI).trans hS
  show wpAny _ A.in1 (updateSeq S (·.push _) >>= _) _ _ _
  refine zA ?_
  refine wpAny_updateSeq (s:={ s with heap:=h',toks:=tk }) hS' rfl (zE ⟨plainId_quiet F.plain_extend_loop _,ih (i+1) _ (acc.push _) _ (by omega) hlt (hit'.at λo q=>(zH _ _ hSI).trans q) (zR _ hS' rfl) (hacc.push ⟨_,u,hx,rfl⟩) λh2 tk2 acc' c' kp ho2 hS2 hacc'=>?_⟩)
   (by rw[hacc.1];omega) (by show(acc.push _).size<=sizeLine+1;rw[Array.size_push,hacc.1];omega)
  exact hR h2 tk2 acc' c' (λb o hbS hbI q=>kp b o hbS hbI ((zH _ _ (Ne.symm hbS)).trans ((hs'.2 b hbI).trans q))) ho2 hS2 hacc'
theorem AaE{I:Addr}{x:Str}{t:Tok}{Q:List Value->Shared->Prop}(hh:A.handled=none)(hb:x.length<=sizeLine)(hit:s.heap.CZ I x t ((x.length:Int)-1))
  (hQ:∀ h' tk acc,(∀ b o,b≠I->s.heap.get? b=some o->h'.get? b=some o)->(∃ o,h'.get? I=some o)->ItemsOf (λi v=>∃ c u,x.cps[x.cps.size-1-i]?=some c/\v=.str ⟨#[c]⟩ u) acc x.cps.size->Q acc.toList { s with heap:=h',toks:=tk }) :
  wpAny (model prog w) A (collect (.ref I)) Q E s:=by
 have hl:sizeLine=16777216:=yA
 have hb':¬(x.length:Int) ≥ 2 ^ 63:=by omega
 have hn:x.cps.size<=sizeLine:=hb
 have W:=(Walks.AbJ (prog:=prog) (w:=w) (A:=A.in1) hh I x t hb').toS
 have hst:(λ(i:Nat) (s:Shared)=>i<=x.cps.size/\s.heap.CZ I x t ((x.cps.size:Int)-1-(i:Int))) 0 s:=⟨Aqb _,by
  have e:(x.cps.size:Int)-1-((0:Nat):Int)=(x.length:Int)-1:=by show(x.cps.size:Int)-1-((0:Nat):Int)=(x.cps.size:Int)-1;omega
  rw[e];exact hit⟩
 have hI:I<s.heap.objs.size:=by
  obtain⟨o,ho,_⟩:=hit
  exact Heap.lt_size ho
 have hSf:s.heap.objs.size∉[I]:=λhm=>by
  have:=zF.mp hm
  rw[this] at hI
  exact Aqu _ hI
 have hSI:s.heap.objs.size≠I:=λe=>hSf (by rw[e];simp)
 unfold collect
 refine zA (wpAny_runValue (codeAny_builtin F.entry_proto_collect ?_))
 rw[Around.under_plainId F.plain_proto_collect _]
 show wpAny _ A.in1 (newList [] >>= λl=>again (.builtin "list.__iadd__" ⟨[l,.ref I],[]⟩)) _ _ s
 refine zA (yJ ?_)
 refine zE ⟨plainId_quiet F.plain_list_iadd _,codeAny_builtin F.entry_list_iadd ?_⟩
 rw[Around.under_plainId F.plain_list_iadd _]
 have hit1:(s.heap.push { cls:=.type "list", data:=.seq ([]:List Value).toArray }).CZ I x t ((x.length:Int)-1):=hit.at λo e=>zB _ e
 have hst₁:=W.frame 0 s (s.heap.push { cls:=.type "list", data:=.seq ([]:List Value).toArray }) s.toks hst (ApR _) λb _ o e=>zB _ e
 have hS₁:(s.heap.push { cls:=.type "list", data:=.seq ([]:List Value).toArray }).get? s.heap.objs.size=some { cls:=.type "list", data:=.seq ([]:List Value).toArray }:=zD _ rfl
 have h1:Builtin.List.listSameRef (.ref s.heap.objs.size) (.ref I)=false:=by simp[Builtin.List.listSameRef,hSI]
 have hT1:({ s with heap:=s.heap.push { cls:=.type "list", data:=.seq ([]:List Value).toArray } }:Shared).TypeIs (.ref I) "reversed" := Heap.CZ.typeIs (s:={ s with heap:=s.heap.push { cls:=.type "list", data:=.seq ([]:List Value).toArray } }) hit1
 show wpAny _ A.in1 (Builtin.List.listExtendWith (.ref s.heap.objs.size) (.ref I) (.ref s.heap.objs.size)) _ _ _
 unfold Builtin.List.listExtendWith
 refine zA (wpAny_typeOf hT1 ?_)
 rw[if_neg (by rw[h1];decide)]
 refine zA (W.self 0 _ _ _ hst₁ ?_)
 refine zA (yB ?_)
 unfold Builtin.List.listLengthHint
 refine zA (wpAny_specialOf hT1 RV.AmB ?_)
 show wpAny _ A.in1 (specialOf (Value.ref I) (Str.ofString "__length_hint__") >>= _) _ _ _
 refine zA (wpAny_specialOf hT1 RV.hint ?_)
 (generalize hid:("reversed.__length_hint__" : String)=id0;(fail_if_success (clear hid id0));wp_delta;rw[show splitId id0=some ("reversed", "__length_hint__") from by subst hid;decide +kernel];subst hid)
 refine zA (wpAny_isInstance (b:=true) hT1 (by rw[isSubtype_type];kernel_rfl) ?_)
 show wpAny _ A.in1 (rule "list.length-hint.hint" >>= _) _ _ _
 refine zA (wpAny_rule ?_)
 refine zA (wpAny_of_eq (RV.ZC.bind _) ?_)
 dsimp only
 refine zA (wpAny_attempt (Xi (s:={ s with heap:=s.heap.push { cls:=.type "list", data:=.seq ([]:List Value).toArray } }) hb' hit1 λu tk htk=>?_))
 have hk0:∃ k:Int,k=(x.length:Int):=⟨_,rfl⟩
 obtain⟨k,hk⟩:=hk0
 rw[<- hk]
 dsimp only
 refine zA (m:=asInt? (.int k u)) (zE ?_)
 dsimp only
 have f1:Builtin.List.listFitsIndex k=true:=by
  unfold Builtin.List.listFitsIndex
  simp
  omega
 have f2:Builtin.List.listTooLong k.toNat=false:=by
  unfold Builtin.List.listTooLong
  exact zJ (by omega)
 rw[if_neg (by rw[f1];decide),if_neg (by omega),if_neg (by rw[f2];decide)]
 refine zE ?_
 have e00:(x.cps.size:Int)-1-((0:Nat):Int)=(x.length:Int)-1:=by show(x.cps.size:Int)-1-((0:Nat):Int)=(x.cps.size:Int)-1;omega
 have old:∀ b o,s.heap.get? b=some o->(s.heap.push { cls:=.type "list", data:=.seq ([]:List Value).toArray }).get? b=some o:=λb o e=>zB _ e
 have neS:∀ b o,s.heap.get? b=some o->b≠s.heap.objs.size:=λb o e=>ApZ (Heap.lt_size e)
 by_cases h0:x.length=0
 ·have e0:(k != 0)=false:=by rw[hk,h0];rfl
  rw[e0,if_neg (by decide)]
  have st0:(s.heap.push { cls:=.type "list", data:=.seq ([]:List Value).toArray }).CZ I x t ((x.cps.size:Int)-1-((0:Nat):Int)):=by rw[e00];exact hit1
  refine zE ⟨plainId_quiet F.plain_extend_loop _,?_⟩
  refine Om (A:=A) hh hb _ hSI _ _ 0 { s with heap:=s.heap.push { cls:=.type "list", data:=.seq ([]:List Value).toArray },toks:=tk } #[] _ rfl (Aqb _) st0 hS₁ (ItemsOf.nil _) λh' tk' acc' c' kp ho' hS' hacc=>?_
  show wpAny _ A (load s.heap.objs.size >>= _) _ _ _
  refine zA (wpAny_load (s:={ s with heap:=h',toks:=tk' }) hS' ?_)
  exact zE (hQ h' tk' acc' (λb o hbI q=>kp b o (neS b o q) hbI (old b o q)) ho' hacc)
 ·have e0:(k != 0)=true:=by simp;omega
  rw[e0,if_pos (by decide)]
  refine zA (wpAny_rule ?_)
  refine zA ?_
  show wpAny _ A.in1 (updateSeq s.heap.objs.size (·.push .none) >>= λ_=>updateSeq s.heap.objs.size (·.pop)) _ _ _
  refine zA (wpAny_updateSeq hS₁ rfl ?_)
  have hS₂:=zR (Obj.mapSeq (·.push Value.none)) hS₁ rfl
  refine wpAny_updateSeq hS₂ rfl ?_
  have hS₃:=zR (Obj.mapSeq (·.pop)) hS₂ rfl
  have oth:∀ b o,b≠s.heap.objs.size->(s.heap.push { cls:=.type "list", data:=.seq ([]:List Value).toArray }).get? b=some o ->
    (((s.heap.push { cls:=.type "list", data:=.seq ([]:List Value).toArray }).update s.heap.objs.size (Obj.mapSeq (·.push Value.none))).update s.heap.objs.size (Obj.mapSeq (·.pop))).get? b=some o :=
   λb o hb e=>(zH _ _ (Ne.symm hb)).trans ((zH _ _ (Ne.symm hb)).trans e)
  have st0:(((s.heap.push { cls:=.type "list", data:=.seq ([]:List Value).toArray }).update s.heap.objs.size (Obj.mapSeq (·.push Value.none))).update s.heap.objs.size (Obj.mapSeq (·.pop))).CZ I x t ((x.cps.size:Int)-1-((0:Nat):Int)):=by
   rw[e00];exact hit1.at λo q=>oth I o (Ne.symm hSI) q
  refine zE ⟨plainId_quiet F.plain_extend_loop _,?_⟩
  refine Om (A:=A) hh hb _ hSI _ _ 0
   { s with heap:=((s.heap.push { cls:=.type "list", data:=.seq ([]:List Value).toArray }).update s.heap.objs.size (Obj.mapSeq (·.push Value.none))).update s.heap.objs.size (Obj.mapSeq (·.pop)),toks:=tk } #[] _ rfl (Aqb _) st0 hS₃ (ItemsOf.nil _) λh' tk' acc' c' kp ho' hS' hacc=>?_
  show wpAny _ A (load s.heap.objs.size >>= _) _ _ _
  refine zA (wpAny_load (s:={ s with heap:=h',toks:=tk' }) hS' ?_)
  exact zE (hQ h' tk' acc' (λb o hbI q=>kp b o (neS b o q) hbI (oth b o (neS b o q) (old b o q))) ho' hacc)
theorem Afk{I:Addr}{sep x:Str}{t u:Tok}{Q:Value->Shared->Prop}(hh:A.handled=none)(hb:x.length<=1000)(hs:sep.length<=16)(hit:s.heap.CZ I x t ((x.length:Int)-1))
  (h:∀ h' t' k,(∀ b o,b≠I->s.heap.get? b=some o->h'.get? b=some o)->(∃ o,h'.get? I=some o)->Q (.str (Txt.join sep (x.cps.toList.reverse.map λc=>⟨#[c]⟩)) t') { s with heap:=h',toks:=k }) :
  wpAny (model prog w) A (call (.builtin "str.join") [.str sep u,.ref I]) Q E s:=by
 have hl:sizeLine=16777216:=yA
 refine wpAny_call (codeAny_call_builtin zS.plain F.entry_str_join (zS.check _ _ _ _ _ _ _ _ (typeIs_str _ _ _) (F.args_str_join_2 _ _) ?_))
 rw[join_tree_other]
 refine zA (wpAny_typeOf hit.typeIs ?_)
 show wpAny _ A.in1 ((pyIter (.ref I)).tryCatch _ >>= λit=>collect it >>= λitems=>joinTail sep items) _ _ s
 refine zA (wpAny_tryCatch (Il hit ?_))
 refine zA (AaE (by exact hh) (by omega) hit λh' tk' acc hm ho' hacc=>?_)
 obtain⟨l,hl'⟩:=exists_strValues acc.toList λv hv=>by
  obtain⟨j,hj,rfl⟩:=Array.mem_iff_getElem.mp (Array.mem_toList_iff.mp hv)
  obtain⟨c,u,_,e⟩:=hacc.2 j _ (zP hj)
  exact⟨_,u,e⟩
 rw[<- hl']
 have key:l.map (·.1)=x.cps.toList.reverse.map λc=>(⟨#[c]⟩:Str):=by
  have hlen:l.length=x.cps.size:=by
   have:=congrArg List.length hl'
   simp only [strValues,ApO,zK,hacc.1] at this
   exact this
  apply AqE
  intro j
  rw[ApX,ApX]
  by_cases hj:j<x.cps.size
  ·have hj':j<acc.size:=by rw[hacc.1];exact hj
   obtain⟨c,u,e1,e2⟩:=hacc.2 j _ (zP hj')
   have g:(strValues l)[j]?=some (.str ⟨#[c]⟩ u):=by
    rw[hl',<- e2]
    simp[hj']
   have g2:l[j]?=some (⟨#[c]⟩,u):=by
    unfold strValues at g
    rw[ApX] at g
    cases hlj:l[j]? with
    | none=>rw[hlj] at g;cases g
    | some p =>
     rw[hlj] at g
     obtain⟨p1,p2⟩:=p
     have g':Value.str p1 p2=Value.str ⟨#[c]⟩ u:=Option.some.inj g
     injection g' with a b
     rw[a,b]
   rw[g2,List.getElem?_reverse (by simpa using hj)]
   simp only [zK,zO,e1]
   rfl
  ·rw[Aqw (by omega),Aqw (by simp;omega)]
   rfl
 have hok:JoinOk sep (l.map (·.1))=true:=by
  rw[key]
  unfold JoinOk
  rw[StrLaws.joinTotal]
  have e1:((x.cps.toList.reverse.map λc=>(⟨#[c]⟩:Str)).map (·.length)).sum=x.cps.size:=by
   have:∀(l:List Nat),((l.map λc=>(⟨#[c]⟩:Str)).map (·.length)).sum=l.length:=by
    intro l
    induction l with
    | nil=>rfl
    | cons a r ih=>simp only [ApT,Aqm,ApU,ih];show 1+_=_;omega
   rw[this]
   simp
  rw[e1]
  simp only [ApO,AqF,zK]
  have hx:x.cps.size<=1000:=hb
  have hm:x.cps.size*sep.length<=1000*16:=Arc hx hs
  unfold tooLong
  rw[zJ (by omega)]
  rfl
 have Ai9:=hok
 unfold JoinOk at Ai9
 rw[Bool.not_eq_true'] at Ai9
 have g:Gives (joinTail sep (strValues l)) (joinMade sep l):=by
  have g0:=gives_joinTail sep l Ai9
  cases l with
  | nil=>exact g0
  | cons p r=>cases r with
   | nil=>exact g0
   | cons q r'=>exact g0
 refine g prog w A (wants Q E) _ (post_join l ⟨joinFit_length Ai9,λt' k=>?_⟩)
 rw[key]
 exact h h' t' k hm ho'
end
end PySem
namespace L2
open PySem PySem.Spec PyProof.Rows
def AkO (p:Addr)(x:Str):HO:=.ext λh=>∃ t,h.CZ p x t ((x.length:Int)-1)
def AmC (p:Addr):HO:=.ext λh=>∃ o,h.get? p=some o
section
variable {X:Cx}
theorem AbK:Et X (.type "reversed") (λxs H Q=>∃ z,xs=[.str z]/\z.length<=sizeLine/\∀ p,H p=none->Q (.ref p) (upd H p (AkO p z))):=by
 intro pins s σ H xs us Q I rv h
 obtain⟨z,rfl,hz,q⟩:=h
 obtain⟨u,rfl,ru⟩:=rv.one
 obtain⟨t,rfl⟩:=ru
 have hl:sizeLine=16777216:=yA
 refine Ik (by omega) ?_
 have hg:(s.heap.push (AbJ z t ((z.length:Int)-1))).get? s.heap.objs.size=some (AbJ z t ((z.length:Int)-1)):=zD _ rfl
 refine⟨.ref s.heap.objs.size,_,I.laid (o:=AkO s.heap.objs.size z) (λb o e=>zB _ e) (ApR _) ?_,rfl,q _ (I.hok.fresh (ApR _))⟩
 exact⟨⟨t,_,hg,rfl,rfl⟩,⟨_,hg⟩,λh1 h2 y k=>by
  obtain⟨t',y⟩:=y
  exact⟨t',y.at k⟩⟩
theorem Adj(hc:X.calm=true:=by rfl):MtR X "str.join" (λx vs H Q=>∃ z y p,x=.str z/\vs=[.ref p]/\H p=some (AkO p y)/\z.length<=16/\y.length<=1000 /\
  Q (.str (Txt.join z (y.cps.toList.reverse.map λc=>⟨#[c]⟩))) (upd H p (AmC p))):=by
 intro pins s σ H x vs v us Q I rx rv h
 obtain⟨z,y,p,rfl,rfl,hp,hz,hy,q⟩:=h
 obtain⟨t,rfl⟩:=rx
 obtain⟨u,rfl,ru⟩:=rv.one
 cases ru
 obtain⟨⟨t',hit⟩,⟨o,ho⟩,_⟩:=I.hok p _ hp
 refine Afk (I.ok.hd hc) hy hz hit λh' t2 k kp hp'=>?_
 refine⟨.str _,_,I.write (t':=k) (x:=p) (e:=p) (o:=AmC p) (by rw[hp];exact trivial) (.inl rfl) (λb u hb e=>kp b u hb e) hp' ?_,⟨_,rfl⟩,q⟩
 exact⟨hp',hp',λh1 h2 y k=>by
  obtain⟨o,y⟩:=y
  exact⟨o,k o y⟩⟩
theorem Adk(hc:X.calm=true:=by rfl):Et X (.builtin "max") (λxs H Q=>∃ i j,xs=[.int i,.int j]/\Q (.int (if j>i then j else i)) H):=AeU hc
end
theorem Cg{c A B:Prop}[Decidable c](h:¬c)(k:B):if decide c=true then A else B:=by rw[zJ h];exact DP k
theorem Ex{c A B:Prop}[Decidable c](h:c)(k:A):if decide c=true then A else B:=by rw[zN h];exact JZ k
theorem AjM{c A B:Prop}[Decidable c](h:¬c)(k:A):if (!decide c)=true then A else B:=by rw[zJ h];exact JZ k
theorem AmD{b:Bool}{A B:Prop}(h1:b=true->A)(h2:b=false->B):if b=true then A else B:=by
 cases b with
 | true=>exact JZ (h1 rfl)
 | false=>exact DP (h2 rfl)
theorem GX{c A B:Prop}[Decidable c](h1:c->A)(h2:¬c->B):if decide c=true then A else B:=by
 by_cases h:c
 ·exact Ex h (h1 h)
 ·exact Cg h (h2 h)
theorem Ar.upd{H:Hp}{p:Addr}{o:HO}(h:H p=none):Ar H (L2.upd H p o):=λb o' e=>by rw[Ah (Ak e h)];exact e
theorem Ar.new{H H1:Hp}{p:Addr}{o:HO}(e:Ar H H1)(h:H1 p=none):Ar H (L2.upd H1 p o):=e.trans (.upd h)
theorem nu9{G B:Hp}{o:HO}{a:Addr}(s:Ar G B)(n:B a=none):∃ N,upd B a o=N/\Ar G N/\N a=some o:=⟨_,rfl,s.new n,Ae⟩
theorem Ar.over{H H1:Hp}{p:Addr}{o:HO}(e:Ar H H1)(h:H p=none):Ar H (L2.upd H1 p o):=λb o' q=>by rw[Ah (Ak q h)];exact e b o' q
theorem Bq:bootBuiltins "len" = some (.builtin "len"):=by decide +kernel
theorem Gj:bootBuiltins "isinstance" = some (.builtin "isinstance"):=by decide +kernel
theorem Adl:bootBuiltins "abs" = some (.builtin "abs"):=by decide +kernel
theorem Agy:bootBuiltins "max" = some (.builtin "max"):=by decide +kernel
theorem AkP:bootBuiltins "sum" = some (.builtin "sum"):=by decide +kernel
theorem Afl:bootBuiltins "sorted" = some (.builtin "sorted"):=by decide +kernel
theorem Agz:bootBuiltins "any" = some (.builtin "any"):=by decide +kernel
theorem Xj:bootBuiltins "all" = some (.builtin "all"):=by decide +kernel
theorem Hf:bootBuiltins "list" = some (.type "list"):=by decide +kernel
theorem Xk:bootBuiltins "str" = some (.type "str"):=by decide +kernel
theorem Ag0:bootBuiltins "int" = some (.type "int"):=by decide +kernel
theorem AbL:bootBuiltins "tuple" = some (.type "tuple"):=by decide +kernel
theorem U0:bootBuiltins "reversed" = some (.type "reversed"):=by decide +kernel
theorem AaF:bootBuiltins "enumerate" = some (.type "enumerate"):=by decide +kernel
theorem AkQ:bootBuiltins "zip" = some (.type "zip"):=by decide +kernel
theorem AbM:bootBuiltins "range" = some (.type "range"):=by decide +kernel
theorem AkR:bootBuiltins "set" = some (.type "set"):=by decide +kernel
structure Df (K:W.Frag) (mg:Str->Option Value) (x:Str) (st:Stmt) (ps:List Str) (f:Addr) (fd:FuncData):Prop where
 F:Fun K x x st f fd
 m:mg x=some (.ref f)
 b:Binds K fd ps []
def vS (cl:List (List Nat)):List V:=cl.map λt=>V.str (tx t)
def vI (ns:List Int):List V:=ns.map V.int
theorem Ay(cl:List (List Nat)):(vS cl).length=cl.length:=by unfold vS;rw[ApO]
theorem Bm(ns:List Int):(vI ns).length=ns.length:=by unfold vI;rw[ApO]
theorem AaG{cl:List (List Nat)}{i:Nat}{t:List Nat}(h:cl[i]?=some t):(vS cl)[i]?=some (.str (tx t)):=by unfold vS;rw[ApX,h];rfl
theorem Eb{ns:List Int}{i:Nat}{n:Int}(h:ns[i]?=some n):(vI ns)[i]?=some (.int n):=by unfold vI;rw[ApX,h];rfl
theorem Dh{cl:List (List Nat)}{i:Nat}{v:V}(h:(vS cl)[i]?=some v):∃ t,cl[i]?=some t/\v=.str (tx t):=by
 unfold vS at h
 rw[ApX] at h
 cases e:cl[i]? with
 | none=>rw[e] at h;cases h
 | some t=>rw[e] at h;exact⟨t,rfl,(Option.some.inj h).symm⟩
theorem Kf{ns:List Int}{i:Nat}{v:V}(h:(vI ns)[i]?=some v):∃ t,ns[i]?=some t/\v=.int t:=by
 unfold vI at h
 rw[ApX] at h
 cases e:ns[i]? with
 | none=>rw[e] at h;cases h
 | some t=>rw[e] at h;exact⟨t,rfl,(Option.some.inj h).symm⟩
theorem AdV(ns:List Int):(vI ns).all Em=true:=by unfold vI;rw[List.all_map];exact List.all_eq_true.mpr λ_ _=>rfl
theorem AiA(cl:List (List Nat)):(vS cl).all Em=true:=by unfold vS;rw[List.all_map];exact List.all_eq_true.mpr λ_ _=>rfl
theorem DG(cl:List (List Nat)):vS cl=(cl.map tx).map V.str:=by unfold vS;rw[AqW];rfl
theorem AkS(ns:List Int)(j:Nat)(n:Int):(vI ns).set j (.int n)=vI (ns.set j n):=by unfold vI;rw[List.map_set]
theorem Xl(ns:List Int)(n:Int):vI ns++[.int n]=vI (ns++[n]):=by unfold vI;rw[ApV];rfl
theorem Dc(cl:List (List Nat))(t:List Nat):vS cl++[.str (tx t)]=vS (cl++[t]):=by unfold vS;rw[ApV];rfl
theorem BP{α:Type}{xs:List α}{i:Int}{v:α}(h0:0<=i)(h:xs[i.toNat]?=some v):atI xs i=some v:=by
 have e:i=(i.toNat:Int):=by omega
 rw[e]
 exact AdS h
theorem Ag1{n:Nat}{i:Int}(h0:0<=i)(h:i<n):ixN n i=some i.toNat:=by unfold ixN;rw[if_pos h0,if_pos h]
section
variable {X:Cx}{K:W.Frag}{tg:Expr}
theorem Ax(hK:X.K=K:=by rfl):IxR X (AkH K):=by subst hK;exact Ai1
theorem Ef(hK:X.K=K:=by rfl):IxR X (AkI K):=by subst hK;exact AkJ
theorem Qg(hK:X.K=K:=by rfl):OpR X (compareOp .In) (rIn K false):=by subst hK;exact AeZ
theorem Oo(hK:X.K=K:=by rfl):OpR X (compareOp .NotIn) (rIn K true):=by subst hK;exact Aa9
theorem Av(hK:X.K=K:=by rfl):Et X (.builtin "len") (λxs H Q=>∃ p ys,xs=[.ref p]/\(SqL K H p ys\/SqT K H p ys)/\Q (.int ys.length) H):=by subst hK;exact AaA
theorem DQ(hK:X.K=K:=by rfl):Et X (.type "list") (λxs H Q=>∃ p ys,xs=[.ref p]/\(SqL K H p ys\/SqT K H p ys)/\∀ l,H l=none->Q (.ref l) (upd H l (.lst ys))):=by subst hK;exact AaB
theorem Nx(hK:X.K=K:=by rfl):Et X (.builtin "isinstance") (Am9 K):=by subst hK;exact Agx
theorem CG(hK:X.K=K:=by rfl):MtR X "str.join" (rJoin K):=by subst hK;exact Ai7
theorem AbN(hK:X.K=K:=by rfl):SlR X (Am5 K):=by subst hK;exact Ai2
theorem Bf{l:Expr}{tl:TE}(hl:PE X l tl)(hK:X.K=K:=by rfl):PI X tg l (AjI K tl):=by subst hK;exact Aiu hl
theorem Jt{a:Expr}{ta:TE}(ha:PE X a ta)(he:∀ whole,isTrue a X.env whole=(do let v <- whole;standAt a.pos;holding [v] (truthy v)))(hK:X.K=K:=by rfl) :
  PT X a (λσ H Q=>ta σ H λx H'=>∃ k,Ak9 K x H' k/\Q k H'):=by subst hK;exact Agn ha he
variable {o e:Expr}{es:List Expr}{to:TE}{t:TA}{name:Str}{apos cpos:Pos}{T id:String}{r:V->List V->Hp->VK->Prop}
theorem Bo(pa:PlainAttrs T)(slot:Slot T name id)(hty:typeOf (.builtin id)=pure (.type "method_descriptor")) (hm:MtR X id r) (ho:PE X o to) (ha:PA X (e::es) t)
  (hbase:attributeBase o name X.env (eval o X.env)=eval o X.env:=by rfl)
  (hfew:((backTo cpos (starEach (e::es) X.env)).all (λx=>!x.1) && (backToKw cpos (keywordEach [] X.env)).all (λx=>x.1.isSome)
   && decide ((e::es).length+([]:List Keyword).length+(if ([]:List Keyword).isEmpty then 0 else 1)<30))=true:=by rfl)
  (hline:(apos.endLine == cpos.line)=true:=by rfl) (hs:starEach (e::es) X.env=(false,eval e X.env)::starEach es X.env:=by rfl) (hplain:(backTo cpos (starEach es X.env)).any (·.1)=false:=by rfl) (hK:X.K=K:=by rfl) :
  PE X (.Call (.Attribute o name apos) (e::es) [] cpos) (tBM K T r to t):=by
 subst hK
 exact Am6 pa slot hty hm ho ha hbase hfew hline hs hplain
end
abbrev exO (C t:Addr) (tb:Value):Obj:={ cls:=.ref C,data:=.fields #[.ref t,tb,.none,.none,.bool false,.none] }
structure Fx (B:Heap) (l:List Env) (e C t:Addr) (fl:Value) (h:Heap):Prop where
 st:B.StaysIn h
 ne:B.get? e=none
 fr:h.FunFrames B l
 ob:∃(T:Addr) (oT:Obj) (ts:Array Value),h.get? e=some (exO C t (.ref T))/\B.get? T=none/\T≠e/\h.get? T=some oT/\oT.data=.fields ts/\ts[3]?=some fl
structure Bk (P:Program) (w:World) (outer:List Env) (H:Hp) (h:Heap) (H':Hp) (B h':Heap):Prop where
 ok:HOk P w H' B
 keep:∀ b o,h.get? b=some o->H b=none->b∉frs outer->B.get? b=some o
 slot:∀ b o,h.get? b=some o->b∈frs outer->∃ sl,h'.get? b=some { o with slots:=sl }
 free:∀ b o,h.get? b=some o->H b=none->H' b=none
 there:∀ b o,h.get? b=some o->b∉frs outer->∃ o',B.get? b=some o'
 tups:∀ b xs,H b=some (.tup xs)->H' b=some (.tup xs)
 PX:∀ b o u,H b=some (.frz o u)->H' b=some (.frz o u)
 Tj:∀ b ps,H b=some (.tbl ps)->∃ more,H' b=some (.tbl (ps++more))
def CX1 (P:Program)(w:World):CXT:=λouter H s E e s'=>∃ ea C t H' B,e=.ref ea/\Fx B outer ea C t .none s'.heap/\s'.os=s.os/\AllBare s'.gens/\Bk P w outer H s.heap H' B s'.heap/\E (.ref C) none H'
inductive Fly (B:Heap) (l:List Env) (L ea C t:Addr) (h:Heap):Prop where
 | new (st:B.StaysIn h) (ne:B.get? ea=none) (fr:h.FunFrames B l) (ob:h.get? ea=some (exO C t .none))
 | came (x:Fx B l ea C t .none h)
 | seen (x:Fx B l ea C t (rawInt L) h)
def FlX (X:Cx)(E:XK):Value->Shared->Prop:=λe s'=>∃ ea C t H' B,e=.ref ea/\Fly B X.stack X.env.locals ea C t s'.heap/\s'.os=X.s₀.os/\AllBare s'.gens/\Bk X.prog X.w X.outer X.H₀ X.s₀.heap H' B s'.heap/\E (.ref C) none H'
structure Body (X:Cx):Prop where
 stack:X.stack=X.env::X.outer
 frame:X.env.frame=some X.env.locals
 ex:X.ex=[]
def Aoo (K:W.Frag)(C:Addr):List Value:=match K.lookup C with
 | some ⟨_,_,.cls cd,_⟩=>cd.mro
 | _=>[]
def Aop (C:Addr)(E:XK)(t:TA):TS:=λ_ σ H=>t σ H λvs H1=>vs.length<=sizeLine/\E (.ref C) none H1
abbrev cx1 (P:Program) (w:World) (K:W.Frag) (mg:Str->Option Value) (base:Heap) (N:List Str) (qual:Str) (scope:Scope) (f:Addr) (cd:Value) (A:Around) (outer:List Env) (s:Shared) (H:Hp) (E:XK):Cx :=
 (Ab8 (CX1 P w) P w K mg base N qual scope f cd A outer s H E).wish (FlX (Ab8 (CX1 P w) P w K mg base N qual scope f cd A outer s H E) E)
def PEX (X:Cx)(e:Expr)(t:XK->TE):Prop:=∀(pins:List (Addr × Obj)) (s:Shared) (σ:St) (H:Hp) (Q:VK) (E:XK),Inv X pins σ H s->t E σ H Q ->
 wpAny (model X.prog X.w) X.A (eval e X.env) (EP X pins σ Q) (λex s'=>∃ H1 s1,Inv X pins σ H1 s1/\CX1 X.prog X.w X.stack H1 s1 E ex s') s
def exH (C a:Addr):HO:=.ext λh=>∃ t tb,h.get? a=some (exO C t tb)
section
variable {X:Cx}{pins:List (Addr × Obj)}{σ:St}{H H':Hp}{s s':Shared}{B h2:Heap}{ea C t:Addr}{fl:Value}
abbrev Cx.hdl (X:Cx) (e:Addr):Cx:={ X with A:=X.A.mark (some (.ref e)),calm:=false,xe:=λ_ _=>False }
end
abbrev WX (X:Cx) (pins:List (Addr × Obj)) (σ:St) (E:XK):Value->Shared->Prop:=λex s'=>∃ H1 s1,Inv X pins σ H1 s1/\CX1 X.prog X.w X.stack H1 s1 E ex s'
def PSX (X:Cx)(st:Stmt)(t:XK->TS):Prop:=∀(pins:List (Addr × Obj)) (s:Shared) (σ:St) (H:Hp) (D:Ends) (E:XK),Inv X pins σ H s->t E D σ H->wpAny (model X.prog X.w) X.A (exec st X.env) (SP X pins D) (WX X pins σ E) s
def Aoq (X:Cx)(st:List Stmt)(t:XK->TS):Prop:=∀(pins:List (Addr × Obj)) (s:Shared) (σ:St) (H:Hp) (D:Ends) (E:XK),Inv X pins σ H s->t E D σ H->wpAny (model X.prog X.w) X.A (execs st X.env) (SP X pins D) (WX X pins σ E) s
section
variable {X:Cx}{e:Expr}{t u:XK->TS}{te:XK->TE}{pos:Pos}{st:Stmt}
abbrev Ends.un (D:Ends) (j:Nat):Ends:={ nx:=λσ H=>D.nx (σ.set j none) H,rt:=D.rt,bk:=λσ H=>D.bk (σ.set j none) H,ct:=λσ H=>D.ct (σ.set j none) H }
def Sub (K:W.Frag)(C D:Addr):Prop:=(∃ bm nid,W.excIn K C bm nid=true)/\(Aoo K C).contains (.ref D)=true
def Ap4 (K:W.Frag)(Ch:Addr)(j:Nat)(t:XK->TS)(ts:TS):TS:=λD σ H=>t (λc _ H'=>∃ C,c=.ref C/\Sub K C Ch/\∀ ea,H' ea=none->ts (D.un j) (σ.set j (some (.ref ea))) (upd H' ea (exH C ea))) D σ H
end
structure ExC (K:W.Frag) (C:Addr):Prop where
 ga:W.findIn K (.ref C) "__getattribute__" = some (some (.builtin "BaseException.__getattribute__"))
 gt:W.findIn K (.ref C) "__getattr__" = some none
 cl:W.findIn K (.ref C) "__class__" = some (some (.builtin "object.__class__"))
 gc:W.specialIn K (.builtin "object.__class__") "__get__" = some (some (.builtin "getset_descriptor.__get__"))
 tk:W.takesIn K (.builtin "object.__class__")=some true
 ob:W.mroIn K C (.type "object")=some true
 be:W.mroIn K C (.type "BaseException")=some true
 is:(W.clsIn K C).isSome=true
def Ap5 (K:W.Frag):List V->Hp->VK->Prop:=λvs H Q=>∃ a C b,H a=some (exH C a)/\ExC K C /\
 ((∃ n,vs=[.ref a,.ty n]/\W.kitOne K (.ref C) (.type n)=some b)\/(∃ D,vs=[.ref a,.ref D]/\W.kitOne K (.ref C) (.ref D)=some b))/\Q (.bl b) H
section
variable {X:Cx}{K:W.Frag}
variable {CX:CXT}{k:Nat}{ps:List Str}{sp:Addr->Sp}{E:XK}{m:Str}{pos apos:Pos}{o:Expr}{ta:TE}
def Aor (K:W.Frag)(m:Str)(sp:Addr->Sp)(E:XK)(ta:TE):TE:=λσ H Q=>ta σ H λx H1=>∃ a C,x=.ref a/\H1 a=some (exH C a)/\sp C [x] H1 Q E
end
abbrev vE:List Value:=[.type "ValueError", .type "Exception", .type "BaseException", .type "object"]
abbrev vN:String := "ValueError.__new__"
structure Exn (K:W.Frag) (C:Addr):Prop where
 q:W.excIn K C vE vN=true
 c:ExC K C
 ty:W.typeIn K (.ref C)=some (.type "type")
 ve:W.mroIn K C (.type "ValueError")=some true
theorem AkT{K:W.Frag}{C:Addr}(q:W.excIn K C vE vN=true)(ga:W.findIn K (.ref C) "__getattribute__" = some (some (.builtin "BaseException.__getattribute__"))) (gt:W.findIn K (.ref C) "__getattr__" = some none)
  (cl:W.findIn K (.ref C) "__class__" = some (some (.builtin "object.__class__"))) (gc:W.specialIn K (.builtin "object.__class__") "__get__" = some (some (.builtin "getset_descriptor.__get__"))) (tk:W.takesIn K (.builtin "object.__class__")=some true)
  (ob:W.mroIn K C (.type "object")=some true) (be:W.mroIn K C (.type "BaseException")=some true) (is:W.isClsIn K C=true) (ty:W.typeIn K (.ref C)=some (.type "type")) (ve:W.mroIn K C (.type "ValueError")=some true):Exn K C :=
 ⟨q,⟨ga,gt,cl,gc,tk,ob,be,is⟩,ty,ve⟩
section
variable {X:Cx}{CX:CXT}{k:Nat}{C f:Addr}{fd:FuncData}{ps:List Str}{sp:Sp}{E:XK}{m:Str}{pos apos:Pos}{o:Expr}{ta:TE}
def Aos (C:Addr)(sp:Sp)(E:XK)(ta:TE):TE:=λσ H Q=>ta σ H λx H1=>∃ a,x=.ref a/\H1 a=some (exH C a)/\sp [x] H1 Q E
end
def Dq (s:Stmt):List Stmt:=match s with
 | .ClassDef _ _ _ b _ _ _ _ _ _ _=>b
 | _=>[]
structure Mf (K:W.Frag) (x q:Str) (st:Stmt) (ps:List Str) (C f:Addr) (fd:FuncData):Prop where
 F:Fun K x q st f fd
 m:Meth K C x f
 b:Binds K fd ps []
open Builtin Builtin.Str
def Qh (u:List Nat)(lo hi:Option Int):List Nat:=(u.drop (HT.sIx u.length 0 lo)).take (HT.sIx u.length u.length hi-HT.sIx u.length 0 lo)
theorem AkU(a b:Nat):sliceRange (a:Int) (b:Int) 1=(List.range (b-a)).map λk=>a+k:=by
 unfold sliceRange
 simp only [show(1:Int)>0 by decide,if_true]
 by_cases h:(a:Int)<(b:Int)
 ·rw[if_pos h,Int.ediv_one,show(b:Int)-(a:Int)+1-1=((b-a:Nat):Int) by omega,Aqc]
  exact Ard λk _=>by omega
 ·rw[if_neg h,show b-a=0 by omega]
  rfl
theorem Ny(n d:Nat)(i:Int):max 0 (min (if i<0 then i+(n:Int) else i) (n:Int))=(HT.sIx n d (some i):Int):=by
 show _=(((if i<0 then (i+(n:Int)).toNat else min i.toNat n):Nat):Int)
 by_cases h:i<0
 ·rw[if_pos h,if_pos h];omega
 ·rw[if_neg h,if_neg h];omega
theorem idx_eq(n:Nat)(lo hi:Option Int):strSliceIndices lo hi 1 n=(List.range (HT.sIx n n hi-HT.sIx n 0 lo)).map λk=>HT.sIx n 0 lo+k:=by
 rw[<- AkU]
 cases lo with
 | none =>
  cases hi with
  | none=>rfl
  | some j=>rw[<- Ny];rfl
 | some i =>
  cases hi with
  | none=>rw[<- Ny n 0 i];rfl
  | some j=>rw[<- Ny n 0 i,<- Ny n n j];rfl
theorem Ag2(u:List Nat)(lo hi:Option Int):Txt.slice (tx u) lo hi=tx (Qh u lo hi):=by
 unfold Txt.slice Qh
 rw[Ai,idx_eq]
 have hle:HT.sIx u.length u.length hi<=u.length:=HT.AkG _ _ (ApR _) _
 have key:∀(a k:Nat),a+k<=u.length->((List.range k).map λj=>a+j).filterMap (λi=>(tx u).cps[i]?)=(u.drop a).take k:=by
  intro a k
  induction k with
  | zero=>intro _;simp
  | succ k ih =>
   intro h
   rw[Aq3,ApV,List.filterMap_append,ih (by omega)]
   have:a+k<u.length:=by omega
   simp only [ApT,AqD,Arn,List.filterMap_nil,Jf,ApP this]
   rw[List.take_succ,AqP,ApP this]
   rfl
 split
 next h =>
  simp only [ApO,Aql,Aq7,beq_iff_eq] at h
  have h2:=h.2
  have:HT.sIx u.length 0 lo=0\/u.length=0:=by omega
  rcases this with e | e
  ·rw[e,Arq,Aq1 (by omega)]
  ·rw[Ar1 e];simp
 next h =>
  by_cases hlt:HT.sIx u.length 0 lo<=HT.sIx u.length u.length hi
  ·show(Str.mk _)=_
   rw[key _ _ (by omega)]
   rfl
  ·have e:HT.sIx u.length u.length hi-HT.sIx u.length 0 lo=0:=by omega
   rw[e]
   simp[tx]
section
variable {X:Cx}
theorem Tw:SlR X (λx lo hi H Q=>∃ u:List Nat,x=.str (tx u)/\u.length<=sizeLine/\Q (.str (tx (Qh u lo hi))) H):=by
 intro pins s σ H x v vl vu lo hi sl Q I rx hs pl pu h
 obtain⟨u,rfl,hz,q⟩:=h
 obtain⟨t,rfl⟩:=rx
 rw[<- Ag2] at q
 refine⟨"str", _,F.slot_str_getitem.lookup,typeIs_str _ _ _,?_⟩
 have hsz:(tx u).length<=sizeLine:=by rw[Ai];exact hz
 obtain⟨os,hos,hcs,hds⟩:=id hs
 have fin:∀(l u':Option (Int × Tok)),s.heap.IsSlice sl l u' none->Q (.str (Txt.slice (tx u) (l.map (·.1)) (u'.map (·.1)))) H->wpAny (model X.prog X.w) X.A (getItem (.str (tx u) t) (.ref sl)) (EP X pins σ Q) X.xe s:=λl u' z q' =>
  wpAny_getItem_str_slice z rfl (post_val_or_str ⟨Aqn (Txt.slice_le (tx u) _ _) hsz,λt' k=>⟨.str _,H,I.tok _,⟨t',rfl⟩,q'⟩⟩)
 cases pl with
 | none=>cases pu with
  | none=>exact fin none none ⟨os,hos,hcs,hds⟩ q
  | int j tj=>exact fin none (some (j,tj)) ⟨os,hos,hcs,hds⟩ q
 | int i ti=>cases pu with
  | none=>exact fin (some (i,ti)) none ⟨os,hos,hcs,hds⟩ q
  | int j tj=>exact fin (some (i,ti)) (some (j,tj)) ⟨os,hos,hcs,hds⟩ q
end
theorem AbO:∀(xs:List V) (us:List Value),xs.length=us.length->(∀(i:Nat) x u,xs[i]?=some x->us[i]?=some u->RelV x u)->Vals xs us
 | [],[],_,_=>.nil
 | [],_::_,h,_=>by simp at h
 | _::_,[],h,_=>by simp at h
 | x::xs,u::us,h,p=>.cons (p 0 x u rfl rfl) (AbO xs us (by simpa using h) λi y v e1 e2=>p (i+1) y v e1 e2)
def Ag3 (p:Addr)(a b c:Int):HO:=.ext λh=>∃ t u v,IsRange h p a b c t u v
def Tz (a c:Int)(n:Nat):List Int:=(List.range n).map λ(i:Nat)=>a+(i:Int)*c
section
variable {X:Cx}{K:W.Frag}
theorem AbP{pins:List (Addr × Obj)}{σ:St}{H:Hp}{s:Shared}{a b c:Int}{t u v:Tok}{Q:VK}{tk:Nat}(I:Inv X pins σ H s)(q:∀ p,H p=none->Q (.ref p) (upd H p (Ag3 p a b c))) :
  EP X pins σ Q (.ref s.heap.objs.size) { s with heap:=s.heap.push { cls:=.type "range", data:=.fields #[.int a t,.int b u,.int c v] },toks:=tk }:=by
 have hg:(s.heap.push { cls:=.type "range", data:=.fields #[.int a t,.int b u,.int c v] }).get? s.heap.objs.size=some { cls:=.type "range", data:=.fields #[.int a t,.int b u,.int c v] }:=zD _ rfl
 refine⟨.ref s.heap.objs.size,_,I.laid (o:=Ag3 s.heap.objs.size a b c) (λb o e=>zB _ e) (ApR _) ?_,rfl,q _ (I.hok.fresh (ApR _))⟩
 exact⟨⟨t,u,v,hg⟩,⟨_,hg⟩,λh1 h2 y k=>by
  obtain⟨t',u',v',y⟩:=y
  exact⟨t',u',v',k _ y⟩⟩
theorem Afm:Et X (.type "range") (λxs H Q=>∃ a b,xs=[.int a,.int b]/\∀ p,H p=none->Q (.ref p) (upd H p (Ag3 p a b 1))):=by
 intro pins s σ H xs us Q I rv h
 obtain⟨a,b,rfl,q⟩:=h
 obtain⟨u1,u2,rfl,r1,r2⟩:=rv.two
 obtain⟨t,rfl⟩:=r1
 obtain⟨t',rfl⟩:=r2
 exact call_range_2 (AbP I q)
theorem Afn:Et X (.type "range") (λxs H Q=>∃ a b c,xs=[.int a,.int b,.int c]/\c≠0/\c.natAbs<1000000/\∀ p,H p=none->Q (.ref p) (upd H p (Ag3 p a b c))):=by
 intro pins s σ H xs us Q I rv h
 obtain⟨a,b,c,rfl,hc,hz,q⟩:=h
 cases rv with
 | cons r1 rv=>cases rv with
  | cons r2 rv=>cases rv with
   | cons r3 rv =>
    cases rv
    obtain⟨t,rfl⟩:=r1
    obtain⟨t',rfl⟩:=r2
    obtain⟨t'',rfl⟩:=r3
    exact call_range_3 hc (AbP I q) (Or.inl (PyProof.noPylong_small (by omega)))
theorem Xm(hc:X.calm=true:=by rfl):Et X (.type "list") (λxs H Q=>∃(p:Addr) (a b c:Int) (n:Nat),xs=[.ref p]/\H p=some (Ag3 p a b c)/\Builtin.Range.small a b c=true/\Builtin.Range.rangeSize a b c=n/\n<=1000 /\
  ∀ l,H l=none->Q (.ref l) (upd H l (.lst (vI (Tz a c n))))):=by
 intro pins s σ H xs us Q I rv h
 obtain⟨p,a,b,c,n,rfl,hp,hs,hn,hz,q⟩:=h
 obtain⟨u,rfl,ru⟩:=rv.one
 cases ru
 obtain⟨⟨t,u,v,hr⟩,_,_⟩:=I.hok p _ hp
 refine call_list_range (I.ok.hd hc) hr hs hn (Aqn hz (by decide)) λh' tk acc c' hk hl hi=>?_
 refine⟨.ref s.heap.objs.size,_,I.laid (t':=tk) (o:=.lst (vI (Tz a c n))) hk (ApR _) ?_,rfl,q _ (I.hok.fresh (ApR _))⟩
 have hlen:(vI (Tz a c n)).length=n:=by rw[Bm];unfold Tz;rw[ApO,Aql]
 refine⟨by rw[hlen];exact AqT (Tu hz),acc.toList,c',?_,hl⟩
 refine AbO _ _ (by rw[hlen,zK,hi.1]) λi x u e1 e2=>?_
 obtain⟨z,hz1,rfl⟩:=Kf e1
 obtain⟨t',rfl⟩:=hi.2 i u (by rw[<- zO];exact e2)
 have hin:i<n:=by
  have:=(zC.mp e1).1
  rwa [hlen] at this
 unfold Tz at hz1
 rw[ApX,AqJ hin] at hz1
 cases hz1
 exact⟨t',rfl⟩
theorem ZD:Et X (.type "int") (λxs H Q=>∃ z n,xs=[.str z]/\PySem.intText? z=some n/\z.length<=640/\Q (.int n) H):=by
 intro pins s σ H xs us Q I rv h
 obtain⟨z,n,rfl,hn,hl,q⟩:=h
 obtain⟨u,rfl,t,rfl⟩:=rv.one
 exact W.KIN.call_text hn hl ⟨.int n,H,I.tok _,⟨_,rfl⟩,q⟩
theorem Afo(hK:X.K=K:=by rfl)(hc:X.calm=true:=by rfl):Et X (.builtin "sum") (λxs H Q=>∃ a ns,xs=[.ref a]/\SqL K H a (vI ns)/\Q (.int ns.sum) H):=by
 subst hK
 intro pins s σ H xs us Q I rv h
 obtain⟨a,ns,rfl,hq,q⟩:=h
 obtain⟨u,rfl,ru⟩:=rv.one
 cases ru
 obtain⟨its,r,pl,hl⟩:=I.list hq
 have hi:IntsAre its ns:=intsAre_of r
 obtain⟨xs,hx⟩:=hi.allInts.items
 have hL:s.heap.IsList a (intItems xs):=by rw[<- hx];exact pl.isList
 refine sum_intListG (I.ok.hd hc) hL λh' tk t' hk=>?_
 have e1:xs.toList.map (·.1)=ns:=by
  have z:numsOf its.toArray.toList=ns:=hi.numsOf
  rw[hx,nums_intItems] at z
  exact z
 rw[show preSum (numAt xs) xs.size=ns.sum by rw[preSum_eq,Aq1 (by simp),e1]]
 exact⟨.int ns.sum,H,I.kept hk,⟨t',rfl⟩,q⟩
end
section
variable {X:Cx}{K:W.Frag}{o e value:Expr}{f:Str}{pos pos' tpos:Pos}{ta tv:TE}{st:Stmt}{t:TS}
theorem Cu(he:PE X e ta)(hb:attributeBase e f X.env (eval e X.env)=eval e X.env)(hK:X.K=K:=by rfl):PE X (.Attribute e f pos) (Amw K ta f):=by subst hK;exact AkC he hb
theorem Hg(ha:PE X o ta)(hv:PE X value tv)(hs:swapsWith value (some (.Attribute o f pos')) pos.line X.env=pure false:=by rfl)(hK:X.K=K:=by rfl):PS X (.Assign [.Attribute o f pos'] value pos) (Amx K ta tv f):=by subst hK;exact AkD ha hv hs
theorem Adm{op:Operator}{rd:V->V->Hp->VK->Prop}(ha:PE X o ta)(hv:PE X value tv)(hop:AkB X op rd)(hK:X.K=K:=by rfl):PS X (.AugAssign (.Attribute o f tpos) op value pos) (AdQ K ta tv rd f):=by subst hK;exact AeX ha hv hop
end
structure Own (K:W.Frag) (C f:Addr):Prop where
 c:Cls K C
 m:Mk K C f
theorem AkV{K:W.Frag}{C f:Addr}(h1:W.plainGet K C Str.empty=true)(h2:W.hasDictIn K C=true)(h3:W.plainOver K C=true)(h4:W.findIn K (.ref C) "__setattr__" = some (some (.builtin "object.__setattr__")))
  (h5:W.makesIn K C=true) (h6:W.findIn K (.ref C) "__init__" = some (some (.ref f))) (h7:W.isFn K (.ref f)=true) (h8:W.keepIn K (.ref C)=true):Own K C f:=⟨⟨h1,h2,h3,h4⟩,⟨h5,h6,h7,h8⟩⟩
structure AmE (K:W.Frag) (C:Addr) (m:Str) (f:Addr):Prop where
 rd:W.readsIn K C (.type "type")=true
 fi:W.findCls K (.ref C) (.type "type") m=some (.val (.ref f))
 ha:W.handedIn (.ref f)=true
 sp:W.specialIn K (.ref C) "__getattribute__" = some (some (.builtin "type.__getattribute__"))
 kp:W.keepIn K (.ref f)=true
def AmF (C:Addr)(sp:Sp)(dvs:List V)(E:XK)(ta:TE)(t:TA):TE:=λσ H Q=>ta σ H λx H1=>x=.ref C/\t σ H1 λvs H2=>sp (vs++dvs) H2 Q E
section
variable {X:Cx}{CX:CXT}{k:Nat}{f C:Addr}{fd:FuncData}{ps:List Str}{sp:Sp}{dvs:List V}{ds:List Value}{E:XK}{m:Str}{pos apos:Pos}{e o:Expr}{es:List Expr}{ta:TE}{t:TA}
theorem Wo{pl:Sem Bool}(he:PE X o ta)(M:AmE X.K C m f)(F:Bd X.prog X.w X.K X.mg X.base CX k f fd ps sp)(hr:Gp k X.A)(hb:Binds X.K fd ps ds)(hd:Vals dvs ds)(hx:Passes CX X E)(ha:PA X (e::es) t)
  (hst:starEach (e::es) X.env=(false,eval e X.env)::starEach es X.env:=by rfl) (hpl:(backTo pos (starEach es X.env)).any (·.1)=false:=by rfl)
  (ht:eval (.Call (.Attribute o m apos) (e::es) [] pos) X.env=(do
   let ov <- eval o X.env
   standAt apos.atName
   let (f,first) <- holding [ov] (getMethod ov m pl)
   callWith pos f first (backTo pos (starEach (e::es) X.env)) (backToKw pos (keywordEach [] X.env))):=by rfl) :
  PE X (.Call (.Attribute o m apos) (e::es) [] pos) (AmF C sp dvs E ta t):=by
 intro pins s σ H Q I h
 refine W.methodCall_KW (pl:=pl) (thn (he pins s σ H _ I h) λu s1 ⟨x,H1,I1,rx,ex,q⟩=>?_) ht
 subst ex
 obtain rfl:u=Value.ref C:=rx
 refine W.method_cls I1.kIn M.sp (W.cls_value I1.kIn M.rd M.fi M.ha ?_)
 refine W.callWith_K (first:=[]) (h₀:=X.base) I.ok.mod.kin M.kp (thn (ha pos pins _ σ H1 _ (I1.tok (s1.toks+1)) q) λus s2 ⟨vs,H2,I2,r,q2⟩=>⟨I2.kIn,?_⟩) hst hpl
 exact WT (us:=us) (vs:=vs) F hr hb hd hx I2 r q2
end
section
variable {κ:Type} [DecidableEq κ]
def Afp (kvs:List (κ × V))(k:κ):Option V:=(kvs.find? λkv=>decide (kv.1=k)).map (·.2)
def putK(kvs:List (κ × V))(k:κ)(v:V):List (κ × V) :=
 if (kvs.any λkv=>decide (kv.1=k))=true then kvs.map (λkv=>if kv.1=k then (kv.1,v) else kv) else kvs++[(k,v)]
def Ag4 (kvs:List (κ × V))(k:κ):List (κ × V):=kvs.filter λkv=>decide (kv.1≠k)
end
abbrev KT (H:Hp):List (List Key × V)->List (List Key × Addr × Value)->Prop:=Paired λp q=>p.1=q.1/\H q.2.1=some (.tup (p.1.map kV))/\RelV p.2 q.2.2
def Afq (H:Hp)(a:Addr)(y:V)(r:Option V):Prop :=
 (∃ kvs k,Rd H a (.dK kvs)/\y=kV k/\r=Afp kvs k)\/∃ kvs k b,Rd H a (.dT kvs)/\y=.ref b/\H b=some (.tup (k.map kV))/\r=Afp kvs k
def AmG (H:Hp)(a:Addr)(y v:V)(H':Hp):Prop :=
 (∃ kvs k,H a=some (.dK kvs)/\y=kV k/\kvs.length<sizeLine/\H'=upd H a (.dK (putK kvs k v))) \/
 ∃ kvs k b,H a=some (.dT kvs)/\y=.ref b/\H b=some (.tup (k.map kV))/\kvs.length<sizeLine/\H'=upd H a (.dT (putK kvs k v))
def AmH (i:Expr):Prop:=∀ ov iv,subscripted i false ov iv=operate [ov,iv] (getItem ov iv)
theorem AiB{prog:Program}{w:World}{A:Around}{E:Value->Shared->Prop}{s:Shared}{env:Env}{value slice:Expr}{pos:Pos}{T id:String}{Q:Value->Shared->Prop}
  (hl:typeLookup (.type T) "__getitem__" = pure (some (.builtin id))) (hs:AmH slice)
  (h:wpAny (model prog w) A (eval value env) (λo s₁=>wpAny (model prog w) A (eval slice env) (λi s₂=>s₂.TypeIs o T/\wpAny (model prog w) A (getItem o i) Q E s₂) E s₁) E s) :
  wpAny (model prog w) A (eval (.Subscript value slice pos) env) Q E s:=by
 refine Subscript_ (zT h (λo s₁ h₁=>zT h₁ (λi s₂ h₂=>?_) λ_ _ x=>x) λ_ _ x=>x)
 obtain⟨hT,h₂⟩:=h₂
 unfold subscriptTail
 refine zA ?_
 rw[getitemInPython_of_ne hT.not_modules]
 refine zA (wpAny_specialOf hT hl ?_)
 have fin:wpAny (model prog w) A (subscripted slice false o i) (λr s₃=>wpAny (model prog w) A (letTemporaryGo value o r >>= λ_=>pure r) Q E s₃) E s₂:=by
  rw[hs o i]
  exact wpAny_operating (zT h₂ (λr s₃ h₃=>zA (wpAny_letTemporaryGo (zE h₃))) λ_ _ x=>x)
 first
  | exact zE (zA fin)
  | exact zA (zE (zA fin))
  | exact zA fin
def AoQ (td ty:TE):TE:=λσ H Q=>td σ H λx H1=>ty σ H1 λy H2=>∃ a v,x=.ref a/\Afq H2 a y (some v)/\Q v H2
def Ap6 (ty td:TE):TE:=λσ H Q=>ty σ H λy H1=>td σ H1 λx H2=>∃ a o,x=.ref a/\Afq H2 a y o/\Q (.bl o.isSome) H2
def AnB (ty td:TE):TE:=λσ H Q=>ty σ H λy H1=>td σ H1 λx H2=>∃ a o,x=.ref a/\Afq H2 a y o/\Q (.bl (!o.isSome)) H2
def AoR (td ty tv:TE):TS:=λD σ H=>tv σ H λv H1=>td σ H1 λx H2=>ty σ H2 λy H3=>∃ a H4,x=.ref a/\AmG H3 a y v H4/\D.nx σ H4
def AoS (td ty tv:TE)(rd:V->V->Hp->VK->Prop):TS:=λD σ H=>td σ H λx H1=>ty σ H1 λy H2=>∃ a v,x=.ref a/\Afq H2 a y (some v) /\
 tv σ H2 λy2 H3=>rd v y2 H3 λz H4=>∃ H5,AmG H4 a y z H5/\D.nx σ H5
def AoT (td ty:TE):TS:=λD σ H=>td σ H λx H1=>ty σ H1 λy H2=>∃ a kvs k,x=.ref a/\H2 a=some (.dK kvs)/\y=kV k/\(Afp kvs k).isSome=true/\D.nx σ (upd H2 a (.dK (Ag4 kvs k)))
def Aot:TE:=λ_ H Q=>∀ p,H p=none->Q (.ref p) (upd H p (.dK []))
def Aou:TE:=λ_ H Q=>∀ p,H p=none->Q (.ref p) (upd H p (.dT []))
def Adn:List (TE × TE)->St->Hp->(List (V × V)->Hp->Prop)->Prop
 | [],_,H,Q=>Q [] H
 | (tk,tv)::r,σ,H,Q=>tk σ H λx H1=>tv σ H1 λy H2=>Adn r σ H2 λps H3=>Q ((x,y)::ps) H3
abbrev VV:List (V × V)->List (Value × Value)->Prop:=Paired λp q=>RelV p.1 q.1/\RelV p.2 q.2
def PPs (X:Cx)(pos:Pos)(keys:List (Option Expr))(values:List Expr)(trs:List (TE × TE)):Prop :=
 ∀(pins:List (Addr × Obj)) (s:Shared) (σ:St) (H:Hp) (Q:List (V × V)->Hp->Prop),Inv X pins σ H s->Adn trs σ H Q ->
  wpAny (model X.prog X.w) X.A (evalPairs (pairTrees keys values X.env pos)) (λvs s'=>∃ ps H',Inv X pins σ H' s'/\VV ps vs/\Q ps H') X.xe s
def AkW (kvs more:List (Key × V)):List (Key × V):=more.foldl (λacc kv=>putK acc kv.1 kv.2) kvs
def AoU (trs:List (TE × TE)):TE:=λσ H Q=>∀ p,H p=none->Adn trs σ (upd H p (.dK [])) λps H2=>H2 p=some (.dK [])/\∃ kvs:List (Key × V),ps=kvs.map (λkv=>(kV kv.1,kv.2))/\kvs.length<=15/\Q (.ref p) (upd H2 p (.dK (AkW [] kvs)))
structure M1 (X:Cx) (o:Expr) (m:Str) (apos:Pos) (e:Expr) (cpos:Pos):Prop where
 base:attributeBase o m X.env (eval o X.env)=eval o X.env
 few:((backTo cpos (starEach [e] X.env)).all (λx=>!x.1) && (backToKw cpos (keywordEach [] X.env)).all (λx=>x.1.isSome)
  && decide (([e]:List Expr).length+([]:List Keyword).length+(if ([]:List Keyword).isEmpty then 0 else 1)<30))=true
 line:(apos.endLine == cpos.line)=true
 trees:backTo cpos (starEach [e] X.env)=[(false,eval e X.env)]
structure M2 (X:Cx) (o:Expr) (m:Str) (apos:Pos) (e f:Expr) (cpos:Pos):Prop where
 base:attributeBase o m X.env (eval o X.env)=eval o X.env
 few:((backTo cpos (starEach [e,f] X.env)).all (λx=>!x.1) && (backToKw cpos (keywordEach [] X.env)).all (λx=>x.1.isSome)
  && decide (([e,f]:List Expr).length+([]:List Keyword).length+(if ([]:List Keyword).isEmpty then 0 else 1)<30))=true
 line:(apos.endLine == cpos.line)=true
 trees:backTo cpos (starEach [e,f] X.env)=[(false,eval e X.env),(false,eval f X.env)]
def IsD (H:Hp)(a:Addr):Prop:=(∃ kvs,Rd H a (.dK kvs))\/∃ kvs,Rd H a (.dT kvs)
def Aov (td ty:TE):TE:=λσ H Q=>td σ H λx H1=>∃ a,x=.ref a/\IsD H1 a/\ty σ H1 λy H2=>∃ o,Afq H2 a y o/\Q (o.getD .non) H2
def Aow (td ty tx:TE):TE:=λσ H Q=>td σ H λx H1=>∃ a,x=.ref a/\IsD H1 a/\ty σ H1 λy H2=>tx σ H2 λz H3=>∃ o,Afq H3 a y o/\Q (o.getD z) H3
def Aox (td ty:TE):TE:=λσ H Q=>td σ H λx H1=>∃ a,x=.ref a/\IsD H1 a/\ty σ H1 λy H2=>∃ kvs k v,H2 a=some (.dK kvs)/\y=kV k/\Afp kvs k=some v/\Q v (upd H2 a (.dK (Ag4 kvs k)))
def Aoy (td ty tx:TE):TE:=λσ H Q=>td σ H λx H1=>∃ a,x=.ref a/\IsD H1 a/\ty σ H1 λy H2=>tx σ H2 λz H3=>∃ kvs k,H3 a=some (.dK kvs)/\y=kV k /\
 (∀ v,Afp kvs k=some v->Q v (upd H3 a (.dK (Ag4 kvs k))))/\(Afp kvs k=none->Q z H3)
open PySem PySem.Spec PySem.Calls PyProof.Rows PyProof.Rows.KTD
def Top (K:W.Frag)(a:Addr)(D:List (Str × Str)):Prop:=∀ h:Heap,K.In h->TextTab h a (D.map λp=>(p.1,Dat.flat (.str p.2)))
theorem AkX{K:W.Frag}{a:Addr}{D:List (Str × Str)}(hl:tabLook (datLooks λb=>K.lookup b) (λb=>K.lookup b) a (D.map λp=>(p.1,Dat.flat (.str p.2)))=true):Top K a D:=λh X=>text_of_look (λb o e=>X b o e) hl
def lk (D:List (Str × Str))(k:Str):Option Str:=(D.find? λp=>decide (p.1=k)).map (·.2)
theorem ZF(k:Str):∀ D:List (Str × Str),inKeys k (D.map λp=>(p.1,Dat.flat (.str p.2)))=(lk D k).isSome
 | []=>rfl
 | p::D=>by
  have ih:=ZF k D
  unfold lk at ih ⊢
  rw[ApT,Ars]
  by_cases c:p.1=k
  ·simp[inKeys,c]
  ·have c':¬k=p.1:=λz=>c z.symm
   simp[inKeys,c,c']
   simpa using ih
theorem AjN{k v:Str}:∀{D:List (Str × Str)},lk D k=some v->∃ d,datumAt k (D.map λp=>(p.1,Dat.flat (.str p.2)))=some d/\d=Dat.flat (.str v)
 | [],h=>by simp[lk] at h
 | p::D,h=>by
  unfold lk at h
  rw[Ars] at h
  by_cases c:p.1=k
  ·simp[c] at h
   subst h
   exact⟨_,by simp[datumAt,c],rfl⟩
  ·have c':¬k=p.1:=λz=>c z.symm
   simp only [c,decide_false] at h
   obtain⟨d,e1,e2⟩:=AjN (D:=D) h
   exact⟨d,by simp[datumAt,c',e1],e2⟩
def Afr (a:Addr)(D:List (Str × Str))(ty td:TE):TE:=λσ H Q=>ty σ H λy H1=>td σ H1 λx H2=>∃ k,y=.str k/\x=.ref a/\Q (.bl (!(lk D k).isSome)) H2
def AiC (a:Addr)(D:List (Str × Str))(td ty:TE):TE:=λσ H Q=>td σ H λx H1=>ty σ H1 λy H2=>∃ k v,y=.str k/\x=.ref a/\lk D k=some v/\Q (.str v) H2
section
variable {X:Cx}{o i:Expr}{pos:Pos}{td ty:TE}{a:Addr}{D:List (Str × Str)}
theorem AbQ(T:Top X.K a D)(hi:PE X i ty)(ho:PE X o td):PC X .NotIn i o (Afr a D ty td):=by
 intro pins s σ H Q I h
 refine thn (hi pins s σ H _ I h) λiv s1 ⟨y,H1,I1,ry,q1⟩=>thn (ho pins s1 σ H1 _ I1 q1) λu s2 ⟨x,H2,I2,rx,k,ey,ex,q2⟩=>?_
 subst ey ex
 obtain⟨tk,rfl⟩:=ry
 obtain rfl:u=Value.ref a:=rx
 refine notin_text (h₀:=s2.heap) ⟨T s2.heap I2.kIn,λb o e=>e⟩ ?_
 rw[ZF]
 exact⟨.bl _,H2,I2.tok _,rfl,q2⟩
theorem AbR{A:Around}{E:Value->Shared->Prop}{s:Shared}{pins:List (Addr × Obj)}{σ:St}{H:Hp}{k v:Str}{tk:Tok}{Q:Value->Shared->Prop}(T:Top X.K a D)(I:Inv X pins σ H s)(e:lk D k=some v)(h:∀ t s',Inv X pins σ H s'->Q (.str v t) s') :
  wpAny (model X.prog X.w) A (getItem (.ref a) (.str k tk)) Q E s:=by
 have T':Here s.heap s.heap a (D.map λp=>(p.1,Dat.flat (.str p.2))):=⟨T s.heap I.kIn,λb o e=>e⟩
 unfold getItem
 try with_reducible refine yB ?_
 refine zA (wpAny_sequenceKey T'.typeIs (by decide) ?_)
 refine zA (wpAny_callSpecial?_slot (name:=Str.ofString "__getitem__") T'.typeIs F.slot_dict_getitem
  (wpAny_call_entry F.slot_dict_getitem T'.typeIs F.entry_dict_getitem ?_ (args_dict_getitem _ _)))
 show wpAny _ _ (dictGet a (.str k tk) >>= _) _ _ s
 obtain⟨d,hd,ed⟩:=AjN e
 refine zA (dictGet_text T' (λd' v' ha hv=>zE ⟨v',rfl,zE ?_⟩) λhn=>by rw[hd] at hn;cases hn)
 rw[hd] at ha
 cases ha
 subst ed
 exact Opened.of (P:=λx=>Q x _) (opened_str λt=>h t _ (I.tok _)) v' hv
theorem Afs(T:Top X.K a D)(ho:PE X o td)(hi:PE X i ty)(hs:AmH i):PE X (.Subscript o i pos) (AiC a D td ty):=by
 intro pins s σ H Q I h
 refine AiB F.slot_dict_getitem.lookup hs (thn (ho pins s σ H _ I h) λu s1 ⟨x,H1,I1,rx,q1⟩=>thn (hi pins s1 σ H1 _ I1 q1) λiv s2 ⟨y,H2,I2,ry,k,v,ey,ex,el,q2⟩=>?_)
 subst ex ey
 obtain rfl:u=Value.ref a:=rx
 obtain⟨tk,rfl⟩:=ry
 have T':Here s2.heap s2.heap a (D.map λp=>(p.1,Dat.flat (.str p.2))):=⟨T s2.heap I2.kIn,λb o e=>e⟩
 exact⟨T'.typeIs,AbR T I2 el λt s3 I3=>⟨.str v,H2,I3,⟨t,rfl⟩,q2⟩⟩
end
def AoV (K:W.Frag)(no:Bool):R2:=λx y H Q=>∃(z:Str) (q:Addr) (ys:List Str),x=.str z/\y=.ref q/\SqT K H q (ys.map V.str)/\Q (.bl (no != ys.any (· == z))) H
def AkY (K:W.Frag)(a:Addr)(ys:List Str):Prop:=∀ H:Hp,SqT K H a (ys.map V.str)
theorem AiD{K:W.Frag}{a:Addr}{o:Obj}{its:Array Value}{n:Nat}{ys:List Str}(e:K.lookup a=some o)(c:o.cls=.type "tuple") (d:o.data=.seq its n) (z:its.size<=sizeLine) (r:Vals (ys.map V.str) its.toList):AkY K a ys:=λ_=>.inr ⟨o,its,n,e,c,d,z,r⟩
structure Isa (K:W.Frag) (C:Addr):Prop where
 ha:W.findIn K (.ref C) "__class__" = some (some (.builtin "object.__class__"))
 hn:W.specialIn K (.builtin "object.__class__") "__get__" = some (some (.builtin "getset_descriptor.__get__"))
 htk:W.takesIn K (.builtin "object.__class__")=some true
 hm:W.mroIn K C (.type "object")=some true
structure DfH (K:W.Frag) (x:Str) (st:Stmt) (f:Addr) (fd:FuncData):Prop where
 a:W.nsIn K mainGlobals x=some (some (.ref f))
 F:Fun K x x st f fd
structure MfH (K:W.Frag) (x q:Str) (st:Stmt) (C f:Addr) (fd:FuncData):Prop where
 m:W.findIn K (.ref C) x=some (some (.ref f))
 g:W.isFn K (.ref f)=true
 F:Fun K x q st f fd
structure ClH (K:W.Frag) (x:Str) (C:Addr):Prop where
 n:W.nsIn K mainGlobals x=some (some (.ref C))
 o1:W.plainGet K C Str.empty=true
 o2:W.hasDictIn K C=true
 o3:W.plainOver K C=true
 o4:W.findIn K (.ref C) "__setattr__" = some (some (.builtin "object.__setattr__"))
 o5:W.makesIn K C=true
 o8:W.keepIn K (.ref C)=true
structure IsH (K:W.Frag) (C B:Addr):Prop where
 v1:W.findIn K (.ref C) "__class__" = some (some (.builtin "object.__class__"))
 v4:W.mroIn K C (.type "object")=some true
structure ExH (K:W.Frag) (x:Str) (C:Addr):Prop where
 n:W.nsIn K mainGlobals x=some (some (.ref C))
 y2:W.findIn K (.ref C) "__getattribute__" = some (some (.builtin "BaseException.__getattribute__"))
 y3:W.findIn K (.ref C) "__getattr__" = some none
 y4:W.findIn K (.ref C) "__class__" = some (some (.builtin "object.__class__"))
 y7:W.mroIn K C (.type "object")=some true
 y8:W.mroIn K C (.type "BaseException")=some true
 y9:W.isClsIn K C=true
 y10:W.typeIn K (.ref C)=some (.type "type")
 y11:W.mroIn K C (.type "ValueError")=some true
section
variable {K:W.Frag}{mg:Str->Option Value}{h:Heap}
theorem DfH.df{x:Str}{st:Stmt}{f:Addr}{fd:FuncData}{ps:List Str}(D:DfH K x st f fd)(X:K.In h)(G:h.Ns mainGlobals mg)
  (hb:∀ kV dc pm an cd ct us,us.length=ps.length->bindArgs (W.fnOf x x (JX st) (Ij st) (Af st) .none kV dc pm an cd ct) ⟨us,[]⟩=pure (ps.zip us)):Df K mg x st ps f fd:=⟨D.F,W.mg_of X G D.a,D.F.binds hb⟩
theorem MfH.meth{x q:Str}{st:Stmt}{C f:Addr}{fd:FuncData}(D:MfH K x q st C f fd):Meth K C x f:=⟨D.m,D.g,D.F.2⟩
theorem MfH.mf{x q:Str}{st:Stmt}{C f:Addr}{fd:FuncData}{ps:List Str}(D:MfH K x q st C f fd)
  (hb:∀ kV dc pm an cd ct us,us.length=ps.length->bindArgs (W.fnOf x q (JX st) (Ij st) (Af st) .none kV dc pm an cd ct) ⟨us,[]⟩=pure (ps.zip us)):Mf K x q st ps C f fd:=⟨D.F,D.meth,D.F.binds hb⟩
structure DfA (K:W.Frag) (mg:Str->Option Value) (x y:Str) (st:Stmt) (ps:List Str) (f:Addr) (fd:FuncData):Prop where
 F:Fun K y y st f fd
 m:mg x=some (.ref f)
 b:Binds K fd ps []
theorem DfA.of{x y:Str}{st:Stmt}{f:Addr}{fd:FuncData}{ps:List Str}(a:W.nsIn K mainGlobals x=some (some (.ref f)))(F:Fun K y y st f fd)(X:K.In h)(G:h.Ns mainGlobals mg)
  (hb:∀ kV dc pm an cd ct us,us.length=ps.length->bindArgs (W.fnOf y y (JX st) (Ij st) (Af st) .none kV dc pm an cd ct) ⟨us,[]⟩=pure (ps.zip us)):DfA K mg x y st ps f fd:=⟨F,W.mg_of X G a,F.binds hb⟩
theorem sc9{N P:List Str}{sc:Scope}(h:sc.kind=.function/\sc.isCoroutine=false/\sc.isGenerator=false/\N.take P.length=P:=by exact⟨rfl,rfl,rfl,rfl⟩)
  (g:N.Nodup/\(∀ x∈P,sc.names.lookup x=some .local\/sc.names.lookup x=some .cell)/\∀ y∈sc.names,y.2≠.free:=by decide +kernel):Aj N P sc:=⟨h.1,h.2.1,h.2.2.1,g.1,h.2.2.2,g.2.1,g.2.2⟩
end
section
variable {X:Cx}{tg:Expr}
def Aoz (ta:TA):TI:=λσ H R=>ta σ H λvs H1=>∃ i j:Int,vs=[.int i,.int j]/\R (Itr i (j-i).toNat) H1
end
section
variable {X:Cx}
theorem AbS(l:List Nat):∀(k:Nat) (acc:List Nat),List.foldl (λx1 x2=>x1++x2) acc.toArray (List.replicate k l.toArray)=(acc++(List.replicate k l).flatten).toArray
 | 0,acc=>by simp
 | k+1,acc=>by
  have e:acc.toArray++l.toArray=(acc++l).toArray:=by simp
  have e2:(acc++l)++(List.replicate k l).flatten=acc++(List.replicate (k+1) l).flatten:=by
   rw[Aq6,Aqg,Aqz]
  rw[<- e2,<- AbS l k (acc++l),<- e,Aq6,Aro]
def AmI:R2:=λx y H Q=>∃ u n,x=.str (tx u)/\y=.int n/\0<=n/\n<=1000000/\u.length*n.toNat<=sizeLine/\Q (.str (tx (List.replicate n.toNat u).flatten)) H
theorem AiE:OpR X (binaryOp .Mult) AmI:=by
 intro pins s σ H x y v z Q I rx ry h
 obtain⟨u,n,rfl,rfl,h0,h1,h2,q⟩:=h
 obtain⟨t,rfl⟩:=rx
 obtain⟨t',rfl⟩:=ry
 have hsz:sizeLine=16777216:=yA
 have hlen:(tx u).length=u.length:=Ai u
 refine P.mul_str ?_ (λc1 c2=>?_) (λc1 c2=>?_) ?_
 ·rw[zJ (by omega),zJ (by omega)]
  rfl
 ·rw[hlen]
  have hn:0<n:=by omega
  have hm:(u.length:Int)*n<=16777216:=by
   have e:n=(n.toNat:Int):=by omega
   rw[e,<- Int.natCast_mul]
   omega
  have:(u.length:Int)<=(2 ^ 63-1) / n:=(Int.le_ediv_iff_mul_le hn).mpr (by omega)
  omega
 ·rw[hlen]
  exact zJ (by omega)
 ·split
  ·next c =>
   have e:n=0:=by omega
   rw[e] at q
   exact⟨by decide,.str (tx []),H,I.tok _,⟨_,rfl⟩,q⟩
  ·split
   ·next c =>
    have e:tx (List.replicate n.toNat u).flatten=tx u:=by
     simp only [Bool.or_eq_true,beq_iff_eq] at c
     rcases c with c | c
     ·rw[c];simp
     ·rw[hlen] at c
      rw[Ar1 c]
      simp
    rw[e] at q
    exact⟨.str (tx u),H,I,⟨_,rfl⟩,q⟩
   ·have hf:(⟨(List.replicate n.toNat (tx u).cps).foldl (·++·) #[]⟩:Str)=tx (List.replicate n.toNat u).flatten:=by
     have:=AbS u n.toNat []
     simp only [List.nil_append] at this
     exact congrArg Str.mk this
    rw[hf]
    refine⟨?_,.str (tx (List.replicate n.toNat u).flatten),H,I.tok _,⟨_,rfl⟩,q⟩
    rw[Ai,len_rep,Nat.mul_comm]
    exact h2
theorem AaH(x:Str)(c limit:Nat):∀(k i:Nat) (acc:Array Nat) (free:Nat),free<=i->acc.size+k<=limit ->
  (forIn (List.range' i k) (acc,free) (StrLaws.occBody x ⟨#[c]⟩ x.length limit)).run.fst.size=acc.size+((x.cps.toList.drop i).take k).count c
 | 0,i,acc,free,_,_=>by simp
 | k+1,i,acc,free,hf,hl=>by
  rw[List.range'_succ,AqU]
  by_cases hc:x.cps.toList[i]?=some c
  ·have h1:=(StrLaws.subAt_one x c i).mpr hc
   have e:StrLaws.occBody x ⟨#[c]⟩ x.length limit i (acc,free)=pure (ForInStep.yield (acc.push i,i+(⟨#[c]⟩:Str).length)):=by
    unfold StrLaws.occBody
    rw[if_pos ⟨⟨⟨by show acc.size<limit;omega,hf⟩,h1.1⟩,h1.2⟩]
   rw[e]
   have ih:=AaH x c limit k (i+1) (acc.push i) (i+(⟨#[c]⟩:Str).length) (ApR _) (by rw[Array.size_push];omega)
   have hd:x.cps.toList.drop i=c::x.cps.toList.drop (i+1):=by
    obtain⟨hlt,he⟩:=zC.mp hc
    rw[AqQ hlt,he]
   rw[hd,Aq4,Ar2]
   rw[Array.size_push] at ih
   refine Eq.trans ih ?_
   omega
  ·have h1:¬(i+(⟨#[c]⟩:Str).length<=x.length/\Builtin.Str.subAt x ⟨#[c]⟩ i=true):=λz=>hc ((StrLaws.subAt_one x c i).mp z)
   have e:StrLaws.occBody x ⟨#[c]⟩ x.length limit i (acc,free)=pure (ForInStep.yield (acc,free)):=by
    unfold StrLaws.occBody
    rw[if_neg λz=>h1 ⟨z.1.2,z.2⟩]
   rw[e]
   have ih:=AaH x c limit k (i+1) acc free (by omega) (by omega)
   refine Eq.trans ih ?_
   congr 1
   by_cases hlt:i<x.cps.toList.length
   ·rw[AqQ hlt,Aq4,List.count_cons_of_ne]
    intro z
    exact hc (by rw[ApP hlt];exact congrArg some z)
   ·rw[Art (by omega),Art (by omega)]
    simp
theorem Aft(l:List Nat)(c:Nat):(Builtin.Str.occurrences (tx l) ⟨#[c]⟩ 0 (tx l).length ((tx l).length+1)).length=l.count c:=by
 rw[StrLaws.occ_eq]
 have:=AaH (tx l) c ((tx l).length+1) ((tx l).length+1-0) 0 #[] 0 (ApR _) (by simp)
 rw[zK,this,Ce,Ai]
 simp[Aq1]
def Ao0:V->List V->Hp->VK->Prop:=λx vs H Q=>∃ u c,x=.str (tx u)/\vs=[.str ⟨#[c]⟩]/\Q (.int (u.count c:Nat)) H
end
section
variable {X:Cx}{K:W.Frag}
def AoW (K:W.Frag):List V->Hp->VK->Prop:=λvs H Q=>∃(a C p:Addr) (Ds:List Addr) (b:Bool),vs=[.ref a,.ref p]/\H a=some (exH C a)/\ExC K C/\H p=some (.tup (Ds.map V.ref))/\W.kitAny K (.ref C) (Ds.map Value.ref)=some b/\Q (.bl b) H
def Ap7 (K:W.Frag):R2:=λx y H Q=>∃ p q xs ys,x=.ref p/\y=.ref q/\SqL K H p xs/\SqL K H q ys/\xs.all Em=true/\ys.all Em=true/\Q (.bl (!eqL xs ys)) H
end
def AmJ (K:W.Frag)(H:Hp)(p q:Addr):Prop:=∃ as bs:List Addr,SqL K H p (as.map V.ref)/\SqL K H q (bs.map V.ref)/\as.length=bs.length /\
 ∀(i:Nat) (a b:Addr),as[i]?=some a->bs[i]?=some b->∃ xs:List V,xs.all Em=true/\SqL K H a xs/\SqL K H b xs
section
variable {X:Cx}{K:W.Frag}
def AoX (K:W.Frag):R2:=λx y H Q=>∃ p q,x=.ref p/\y=.ref q/\AmJ K H p q/\Q (.bl false) H
def AoY (K:W.Frag):R2:=λx y H Q=>∃ p q,x=.ref p/\y=.ref q/\AmJ K H p q/\Q (.bl true) H
theorem Ado(z:Int):∀ ks:List Int,inV (.int z) (vI ks)=decide (z∈ks)
 | []=>by simp[inV,vI]
 | k::ks=>by
  have ih:=Ado z ks
  unfold inV vI at ih ⊢
  rw[ApT,Arb,ih]
  by_cases h:k=z
  ·subst h
   have:eqV (V.int k) (V.int k)=true:=Xf rfl
   rw[this]
   simp
  ·have:eqV (V.int k) (V.int z)=false:=by simp[eqV,h]
   rw[this,Bool.false_or]
   exact z6.mpr (by simp[Ne.symm h])
end
section
variable {X:Cx}{CX CX':CXT}{k k':Nat}{f f' C C':Addr}{fd fd':FuncData}{ps ps':List Str}{sp sp':Sp}{E:XK}{m:Str}{pos apos:Pos}{o:Expr}{ta:TE}
def Ao1 (C C':Addr)(m:Str)(sp sp':Sp)(E:XK)(ta:TE):TE:=λσ H Q=>ta σ H λx H1=>∃ a dx fs,x=.ref a/\fs.lookup m=none /\
 ((H1 a=some (.ins C dx fs)/\sp [x] H1 Q E)\/(H1 a=some (.ins C' dx fs)/\sp' [x] H1 Q E))
end
section
variable {X:Cx}{CX:CXT}{k:Nat}{f:Addr}{fd:FuncData}{ps:List Str}{sp:Sp}{E:XK}{m:Str}{pos apos:Pos}{o e:Expr}{es:List Expr}{ta:TE}{t:TA}{dvs:List V}{ds:List Value}
def AkZ (K:W.Frag)(m:Str)(f:Addr)(sp:Sp)(E:XK)(ta:TE):TE:=λσ H Q=>ta σ H λx H1=>∃ a dx fs C,x=.ref a/\H1 a=some (.ins C dx fs)/\fs.lookup m=none/\Cls K C/\Meth K C m f/\sp [x] H1 Q E
theorem LR{pl:Sem Bool}{K:W.Frag}(hK:K=X.K)(he:PE X o ta)(F:Bd X.prog X.w X.K X.mg X.base CX k f fd ps sp)(hr:Gp k X.A)(hb:Binds X.K fd ps [])(hx:Passes CX X E)
  (ht:eval (.Call (.Attribute o m apos) [] [] pos) X.env=(do
   let ov <- eval o X.env
   standAt apos.atName
   let (f,first) <- holding [ov] (getMethod ov m pl)
   callWith pos f first (backTo pos (starEach [] X.env)) (backToKw pos (keywordEach [] X.env))):=by rfl) :
  PE X (.Call (.Attribute o m apos) [] [] pos) (AkZ K m f sp E ta):=by
 subst hK
 intro pins s σ H Q I h
 refine W.methodCall_KW (pl:=pl) (thn (he pins s σ H _ I h) λu s1 ⟨x,H1,I1,rx,a,dx,fs,C,ex,ea,l,c,hm,q⟩=>?_) ht
 subst ex
 obtain rfl:u=Value.ref a:=rx
 refine Qe I1 ea c hm l ?_
 exact W.callWith_K0 (first:=[.ref a]) I1.kIn hm.kp (WT (us:=[.ref a]) (vs:=[.ref a]) F hr hb .nil hx I1 (.cons rfl .nil) (by simpa using q))
def AnC (K:W.Frag)(m:Str)(f:Addr)(sp:Sp)(E:XK)(ta:TE)(t:TA):TE:=λσ H Q=>ta σ H λx H1=>∃ a dx fs C,x=.ref a/\H1 a=some (.ins C dx fs)/\fs.lookup m=none/\Cls K C/\Meth K C m f/\t σ H1 λvs H2=>sp (x::vs) H2 Q E
end
def vB (bs:List Bool):List V:=bs.map V.bl
theorem Qi(bs:List Bool):(vB bs).length=bs.length:=by unfold vB;rw[ApO]
theorem Qj(bs:List Bool)(b:Bool):vB bs++[.bl b]=vB (bs++[b]):=by unfold vB;rw[ApV];rfl
theorem Xn{bs:List Bool}:∀{us:List Value},Vals (bs.map V.bl) us->us=bs.map Value.bool:=by
 induction bs with
 | nil=>intro us r;rw[AqD] at r;cases r;rfl
 | cons n ns ih =>
  intro us r
  rw[ApT] at r
  cases r with
  | cons r1 r2 =>
   cases r1
   rw[ih r2]
   rfl
theorem any_range(bs:List Bool):(List.range bs.length).any (λi=>bs.getD i false)=bs.any id:=by
 rw[AqN,List.any_eq_true,List.any_eq_true]
 constructor
 ·rintro⟨i,hi,h⟩
  have hl:=yI.mp hi
  refine⟨bs[i],Aqq hl,?_⟩
  rw[Aqj,ApP hl] at h
  exact h
 ·rintro⟨b,hb,h⟩
  obtain⟨i,hi,e⟩:=Aq9 hb
  refine⟨i,yI.mpr hi,?_⟩
  rw[Aqj,ApP hi,e]
  exact h
section
variable {X:Cx}{K:W.Frag}
theorem ZG(hK:X.K=K:=by rfl)(hc:X.calm=true:=by rfl):Et X (.builtin "any") (λxs H Q=>∃ a bs,xs=[.ref a]/\SqL K H a (vB bs)/\Q (.bl (bs.any id)) H):=by
 subst hK
 intro pins s σ H xs us Q I rv h
 obtain⟨a,bs,rfl,hq,q⟩:=h
 obtain⟨u,rfl,ru⟩:=rv.one
 cases ru
 obtain⟨its,r,pl,hl⟩:=I.list hq
 have ei:=Xn (bs:=bs) r
 subst ei
 obtain⟨o,eo,_⟩:=id pl.isList
 have alt:=Heap.lt_size eo
 refine call_any_walk (wpAny_pyIter_list pl.isList ?_)
 refine⟨_,_,_,_,_,_,λi=>bs.getD i false,rfl,Walks.list (A:=X.A.in1) (I.ok.hd hc) _ a (ApZ alt) (bs.map Value.bool).toArray,⟨⟨_,zD _ rfl,rfl,rfl⟩,pl.isList.push _⟩,?_,λh' tk hk=>?_⟩
 ·intro i v s' Q' E' hP hQ
  have hv:(bs.map Value.bool)[i]?=some v:=by simpa using hP
  rw[ApX] at hv
  cases e:bs[i]? with
  | none=>rw[e] at hv;cases hv
  | some b =>
   rw[e] at hv
   cases hv
   have eb:bs.getD i false=b:=by rw[Aqj,e];rfl
   have hQ':Q' (bs.getD i false) s':=hQ
   rw[eb] at hQ'
   exact yE hQ'
 ·have e1:(List.range ((bs.map Value.bool).toArray).size).any (λi=>bs.getD i false)=bs.any id:=by
   rw[Aqh,ApO]
   exact any_range bs
  rw[e1]
  refine⟨.bl (bs.any id),H,I.kept (t':=tk) (λb ob e=>hk b ob ?_ (zB _ e)),rfl,q⟩
  have lt:=Heap.lt_size e
  intro hm
  rw[zF.mp hm] at lt
  exact Aqu _ lt
end
theorem all_range(bs:List Bool):(List.range bs.length).all (λi=>bs.getD i false)=bs.all id:=by
 rw[AqN,Are,Are]
 constructor
 ·rintro h b hb
  obtain⟨i,hi,e⟩:=Aq9 hb
  have:=h i (yI.mpr hi)
  rw[Aqj,ApP hi,e] at this
  exact this
 ·rintro h i hi
  have hl:=yI.mp hi
  rw[Aqj,ApP hl]
  exact h _ (Aqq hl)
section
variable {X:Cx}{K:W.Frag}
theorem Ju(hK:X.K=K:=by rfl)(hc:X.calm=true:=by rfl):Et X (.builtin "all") (λxs H Q=>∃ a bs,xs=[.ref a]/\SqL K H a (vB bs)/\Q (.bl (bs.all id)) H):=by
 subst hK
 intro pins s σ H xs us Q I rv h
 obtain⟨a,bs,rfl,hq,q⟩:=h
 obtain⟨u,rfl,ru⟩:=rv.one
 cases ru
 obtain⟨its,r,pl,hl⟩:=I.list hq
 have ei:=Xn (bs:=bs) r
 subst ei
 obtain⟨o,eo,_⟩:=id pl.isList
 have alt:=Heap.lt_size eo
 refine call_all_walk (wpAny_pyIter_list pl.isList ?_)
 refine⟨_,_,_,_,_,_,λi=>bs.getD i false,rfl,Walks.list (A:=X.A.in1) (I.ok.hd hc) _ a (ApZ alt) (bs.map Value.bool).toArray,⟨⟨_,zD _ rfl,rfl,rfl⟩,pl.isList.push _⟩,?_,λh' tk hk=>?_⟩
 ·intro i v s' Q' E' hP hQ
  have hv:(bs.map Value.bool)[i]?=some v:=by simpa using hP
  rw[ApX] at hv
  cases e:bs[i]? with
  | none=>rw[e] at hv;cases hv
  | some b =>
   rw[e] at hv
   cases hv
   have eb:bs.getD i false=b:=by rw[Aqj,e];rfl
   have hQ':Q' (bs.getD i false) s':=hQ
   rw[eb] at hQ'
   exact yE hQ'
 ·have e1:(List.range ((bs.map Value.bool).toArray).size).all (λi=>bs.getD i false)=bs.all id:=by
   rw[Aqh,ApO]
   exact all_range bs
  rw[e1]
  refine⟨.bl (bs.all id),H,I.kept (t':=tk) (λb ob e=>hk b ob ?_ (zB _ e)),rfl,q⟩
  have lt:=Heap.lt_size e
  intro hm
  rw[zF.mp hm] at lt
  exact Aqu _ lt
end
theorem Inv.Wq{X:Cx}{pins:List (Addr × Obj)}{σ:St}{H:Hp}{s:Shared}{h':Heap}{t':Nat}{its:List Addr}(I:Inv X pins σ H s)
  (k:∀ b o,b∉its->s.heap.get? b=some o->h'.get? b=some o) (hf:∀ b∈its,Gz X pins H b):Inv X pins σ H { s with heap:=h',toks:=t' }:=by
 have nit:∀ b u,H b=some u->b∉its:=λb u e z=>by
  have:=(hf b z).1
  rw[this] at e
  cases e
 have nL:X.env.locals∉its:=λz=>(hf _ z).2.1 rfl
 refine I.step (g':=s.gens) (d':=s.drawn) (ch:=its) (λb hb=>?_) (λb o _ _ hc e _=>k b o hc e) (λb o _ _ hc e _=>⟨o.slots,k b o hc e⟩) (λ_ _ _ _ n=>n)
  (λb o hc e=>⟨o,k b o hc e⟩) (λ_ _ e=>e) (λ_ _ _ e=>e) (λb ps e=>⟨#[],by rw[e];simp⟩) (λm hm=>?_) (λb u e=>?_) I.bare
 ·obtain⟨_,h2,_,h4,h5,h6⟩:=hf b hb
  exact⟨h4,h2,h5,h6⟩
 ·obtain⟨o,es,ep,ho,r⟩:=hm
  exact⟨o,es,ep,k _ o nL ho,r⟩
 ·refine(I.hok b u e).stay (λc v hc q=>k c v ?_ q) (λ_ q=>q) λ_ _ q=>q
  rcases hc with z | z
  ·rw[z];exact nit b u e
  ·exact nit c _ z
def Itz (K:W.Frag)(a b:Addr):It where
 go:=λi H=>∃ xs ys x y,SqL K H a xs/\SqL K H b ys/\xs[i]?=some x/\ys[i]?=some y
 yld:=λi H x H'=>∃ T,x=.ref T/\H T=none/\∀ xs ys u v,SqL K H a xs->SqL K H b ys->xs[i]?=some u->ys[i]?=some v->H'=upd H T (.tup [u,v])
 stop:=λi H=>∃ xs ys,SqL K H a xs/\SqL K H b ys/\(xs.length<=i\/ys.length<=i)
def AoZ (z TI TO i1 i2 a b:Addr)(i:Nat)(h:Heap):Prop:=IsZip h z TI TO .none/\IsPair h TI (.ref i1) (.ref i2)/\(∃ p q,IsPair h TO p q)/\h.IsListIter i1 a i/\h.IsListIter i2 b i
section
variable {X:Cx}{es:List Expr}{kx:Nat}{tp:Pos}
def Ap8 (K:W.Frag)(ta:TA):TI:=λσ H R=>ta σ H λvs H1=>∃ a b,vs=[.ref a,.ref b]/\(∃ xs,SqL K H1 a xs)/\(∃ ys,SqL K H1 b ys)/\R (Itz K a b) H1
end
def Ap9 (K:W.Frag):R2:=λx y H Q=>∃(p q:Addr) (as:List Addr) (ks:List Int),x=.ref p/\y=.ref q/\SqL K H q (as.map V.ref)/\SqT K H p (vI ks) /\
 (∀ a∈as,∃ js:List Int,SqT K H a (vI js))/\(∃ a∈as,SqT K H a (vI ks))/\Q (.bl true) H
section
variable {prog:Program}{w:World}{A:Around}{E:Value->Shared->Prop}{s:Shared}
theorem Xo(hh:A.handled=none)(it:Addr)(x:Str)(t:Tok):Draws prog w A it [it] x.cps.size (λi v=>∃ c u,x.cps[i]?=some c/\v=.str ⟨#[c]⟩ u) (λi h=>h.IsStrIter it (strIterType x) x t i):=by
 unfold strIterType
 split
 ·exact Draws.strAscii hh it x t
 ·exact Draws.strWide hh it x t
structure T3 (z TI TO i1 i2:Addr):Prop where
 TIz:TI≠z
 TOz:TO≠z
 i1z:i1≠z
 i2z:i2≠z
 TITO:TI≠TO
 TIi1:TI≠i1
 TIi2:TI≠i2
 TOi1:TO≠i1
 TOi2:TO≠i2
 i12:i1≠i2
theorem Afu{z TI TO i1 i2:Addr}{fp1 fp2:List Addr}{n1 n2 k:Nat}{P1 P2:Nat->Value->Prop}{S1 S2:Nat->Heap->Prop}{a b:Value}{Q:Value->Shared->Prop}(D:T3 z TI TO i1 i2)
  (D1:∀ A':Around,A'.handled=none->Draws prog w A' i1 fp1 n1 P1 S1) (D2:∀ A':Around,A'.handled=none->Draws prog w A' i2 fp2 n2 P2 S2) (hh:A.handled=none)
  (f1:∀ c∈fp1,c≠z/\c≠TO/\c≠i2) (f2:∀ c∈fp2,c≠z/\c≠TO/\c≠i1)
  (hz:IsZip s.heap z TI TO .none) (hTI:IsPair s.heap TI (.ref i1) (.ref i2)) (hTO:IsPair s.heap TO a b) (h1:S1 k s.heap) (h2:S2 k s.heap) (lt1:k<n1) (lt2:k<n2)
  (hQ:∀ x y h' tk,P1 k x->P2 k y->IsZip h' z TI TO (rawInt s.heap.objs.size)->IsPair h' TO x y->S1 (k+1) h'->S2 (k+1) h'->IsPair h' s.heap.objs.size x y->h'.objs.size=s.heap.objs.size+1 ->
   (∀ c o,c≠z->c≠TO->c≠i1->c≠i2->s.heap.get? c=some o->h'.get? c=some o)->Q (.ref s.heap.objs.size) { s with heap:=h',toks:=tk }) :
  wpAny (model prog w) A (Builtin.«zip.__next__» ⟨[.ref z],[]⟩) (λfin s'=>∃ v,fin=.done (.ret v)/\Q v s') E s:=by
 show wpAny _ _ (field (.ref z) 2 >>= _) _ _ _
 refine zA (yD hz rfl (x:=.bool false) rfl ?_)
 show wpAny _ _ (field (.ref z) 3 >>= _) _ _ _
 refine zA (yD hz rfl (x:=.ref TI) rfl ?_)
 refine zA (wpAny_seqItems hTI rfl ?_)
 show wpAny _ _ (Builtin.SmallTypes.ownedTupleIsFree (.ref z) >>= _) _ _ _
 refine zA ?_
 unfold Builtin.SmallTypes.ownedTupleIsFree
 refine zA (yD hz rfl (x:=.none) rfl (zE ?_))
 simp only [if_true]
 refine zA (wpAny_rule ?_)
 refine zA (yD hz rfl (x:=.ref TO) rfl ?_)
 refine zA (wpAny_setField_rec hz (by simp) λh₁ hz₁ hs₁=>?_)
 replace hz₁:IsZip h₁ z TI TO .ellipsis:=hz₁
 refine zA ?_
 simp only [List.zipIdx_cons,List.zipIdx_nil,AqU,List.forIn_nil]
 refine zA (zA (wpAny_onRaise ?_))
 show wpAny _ _ (Builtin.SmallTypes.nextOf (.ref i1) >>= _) _ _ _
 refine zA ((D1 _ hh).item k _ _ _ lt1 ((D1 A hh).frame _ _ _ h1 λc hc o e=>hs₁.extBut _ _ (f1 c hc).1 e) λx h₂ tk₂ px h1₂ hs₂=>zE ?_)
 have hs₂:Heap.SameBut i1 h₁ h₂:=hs₂
 have hTO₂:IsPair h₂ TO a b:=hs₂.extBut _ _ D.TOi1 (hs₁.extBut _ _ D.TOz hTO)
 refine zA (wpAny_seqItems hTO₂ rfl ?_)
 refine zA (wpAny_updateSeq_pair hTO₂ λh₃ hTO₃ hs₃=>?_)
 have hs₃:Heap.SameBut TO h₂ h₃:=hs₃
 replace hTO₃:IsPair h₃ TO x b:=hTO₃
 refine zA (wpAny_letGo (zE ?_))
 refine zA (zA (wpAny_onRaise ?_))
 show wpAny _ _ (Builtin.SmallTypes.nextOf (.ref i2) >>= _) _ _ _
 refine zA ((D2 _ hh).item k _ _ _ lt2 ((D2 A hh).frame _ _ _ h2 λc hc o e=>hs₃.extBut _ _ (f2 c hc).2.1 (hs₂.extBut _ _ (f2 c hc).2.2 (hs₁.extBut _ _ (f2 c hc).1 e))) λy h₄ tk₄ py h2₄ hs₄=>zE ?_)
 have hs₄:Heap.SameBut i2 h₃ h₄:=hs₄
 have hTO₄:IsPair h₄ TO x b:=hs₄.extBut _ _ D.TOi2 hTO₃
 refine zA (wpAny_seqItems hTO₄ rfl ?_)
 refine zA (wpAny_updateSeq_pair hTO₄ λh₅ hTO₅ hs₅=>?_)
 have hs₅:Heap.SameBut TO h₄ h₅:=hs₅
 replace hTO₅:IsPair h₅ TO x y:=hTO₅
 refine zA (wpAny_letGo (zE (zE ?_)))
 refine zA (wpAny_seqItems hTO₅ rfl ?_)
 refine zA (wpAny_newTuple ?_)
 have hsz:h₅.objs.size=s.heap.objs.size:=by rw[hs₅.1,hs₄.1,hs₃.1,hs₂.1,hs₁.1]
 have hz₅:IsZip h₅ z TI TO .ellipsis:=hs₅.extBut _ _ D.TOz.symm (hs₄.extBut _ _ D.i2z.symm (hs₃.extBut _ _ D.TOz.symm (hs₂.extBut _ _ D.i1z.symm hz₁)))
 have hk₅:∀ c o,c≠z->c≠TO->c≠i1->c≠i2->s.heap.get? c=some o->h₅.get? c=some o:=λc o c1 c2 c3 c4 e =>
  hs₅.extBut _ _ c2 (hs₄.extBut _ _ c4 (hs₃.extBut _ _ c2 (hs₂.extBut _ _ c3 (hs₁.extBut _ _ c1 e))))
 have h1₅:S1 (k+1) h₅:=(D1 A hh).frame _ _ _ h1₂ λc hc o e=>hs₅.extBut _ _ (f1 c hc).2.1 (hs₄.extBut _ _ (f1 c hc).2.2 (hs₃.extBut _ _ (f1 c hc).2.1 e))
 have h2₅:S2 (k+1) h₅:=(D2 A hh).frame _ _ _ h2₄ λc hc o e=>hs₅.extBut _ _ (f2 c hc).2.1 e
 have hzlt:z<h₅.objs.size:=Heap.lt_size hz₅
 show wpAny _ _ (Builtin.SmallTypes.ownedTupleHandOut (.ref z) (.ref h₅.objs.size) >>= _) _ _ _
 refine zA ?_
 unfold Builtin.SmallTypes.ownedTupleHandOut
 have hz₆:IsZip (h₅.push { cls:=.type "tuple", data:=.seq #[x,y] }) z TI TO .ellipsis:=zB _ hz₅
 refine zA (wpAny_setField_rec hz₆ (by simp) λh₇ hz₇ hs₇=>?_)
 replace hz₇:IsZip h₇ z TI TO (rawInt h₅.objs.size):=hz₇
 refine wpAny_setField_rec hz₇ (by simp) λh₈ hz₈ hs₈=>?_
 replace hz₈:IsZip h₈ z TI TO (rawInt h₅.objs.size):=hz₈
 have up:∀ c o,c≠z->h₅.get? c=some o->h₈.get? c=some o:=λc o c1 e=>hs₈.extBut _ _ c1 (hs₇.extBut _ _ c1 (zB _ e))
 have hT₈:IsPair h₈ h₅.objs.size x y:=hs₈.extBut _ _ (Aq2 hzlt) (hs₇.extBut _ _ (Aq2 hzlt) (zD _ rfl))
 have hz8:h₈.objs.size=h₅.objs.size+1:=by rw[hs₈.1,hs₇.1,Heap.size_push]
 rw[hsz] at hz₈ hT₈ hz8
 refine zE ⟨_,rfl,?_⟩
 show Q (.ref h₅.objs.size) _
 rw[hsz]
 exact hQ x y h₈ tk₄ px py hz₈ (up _ _ D.TOz hTO₅) ((D1 A hh).frame _ _ _ h1₅ λc hc o e=>up _ o (f1 c hc).1 e) ((D2 A hh).frame _ _ _ h2₅ λc hc o e=>up _ o (f2 c hc).1 e) hT₈ hz8 λc o c1 c2 c3 c4 e=>up c o c1 (hk₅ c o c1 c2 c3 c4 e)
theorem Ag5{z TI TO i1 i2:Addr}{fp1 fp2:List Addr}{n1 n2 k:Nat}{P1 P2:Nat->Value->Prop}{S1 S2:Nat->Heap->Prop}{a b:Value}{Q:Fin->Shared->Prop}(D:T3 z TI TO i1 i2)
  (D1:∀ A':Around,A'.handled=none->Draws prog w A' i1 fp1 n1 P1 S1) (D2:∀ A':Around,A'.handled=none->Draws prog w A' i2 fp2 n2 P2 S2) (hh:A.handled=none)
  (f1:∀ c∈fp1,c≠z/\c≠TO/\c≠i2) (f2:∀ c∈fp2,c≠z/\c≠TO/\c≠i1)
  (hz:IsZip s.heap z TI TO .none) (hTI:IsPair s.heap TI (.ref i1) (.ref i2)) (hTO:IsPair s.heap TO a b) (h1:S1 k s.heap) (h2:S2 k s.heap) (hend:k=n1\/(k<n1/\k=n2))
  (hE:∀ h' e tk,(∀ c o,c≠z->c≠TO->c≠i1->c≠i2->s.heap.get? c=some o->h'.get? c=some o)->(∃ o,h'.get? e=some o/\o.cls=.type "StopIteration")->E (.ref e) { s with heap:=h',toks:=tk }) :
  wpAny (model prog w) A (Builtin.«zip.__next__» ⟨[.ref z],[]⟩) Q E s:=by
 show wpAny _ _ (field (.ref z) 2 >>= _) _ _ _
 refine zA (yD hz rfl (x:=.bool false) rfl ?_)
 show wpAny _ _ (field (.ref z) 3 >>= _) _ _ _
 refine zA (yD hz rfl (x:=.ref TI) rfl ?_)
 refine zA (wpAny_seqItems hTI rfl ?_)
 show wpAny _ _ (Builtin.SmallTypes.ownedTupleIsFree (.ref z) >>= _) _ _ _
 refine zA ?_
 unfold Builtin.SmallTypes.ownedTupleIsFree
 refine zA (yD hz rfl (x:=.none) rfl (zE ?_))
 simp only [if_true]
 refine zA (wpAny_rule ?_)
 refine zA (yD hz rfl (x:=.ref TO) rfl ?_)
 refine zA (wpAny_setField_rec hz (by simp) λh₁ hz₁ hs₁=>?_)
 replace hz₁:IsZip h₁ z TI TO .ellipsis:=hz₁
 refine zA ?_
 simp only [List.zipIdx_cons,List.zipIdx_nil,AqU,List.forIn_nil]
 refine zA (zA (wpAny_onRaise ?_))
 show wpAny _ _ (Builtin.SmallTypes.nextOf (.ref i1) >>= _) _ _ _
 have g1:S1 k h₁:=(D1 A hh).frame _ _ _ h1 λc hc o e=>hs₁.extBut _ _ (f1 c hc).1 e
 rcases hend with hk | ⟨lt1,hk⟩
 ·subst hk
  refine zA ((D1 _ hh).done _ _ _ g1 λh₂ e hs₂ he=>?_)
  have hs₂:Heap.ExtBut i1 h₁ h₂:=hs₂
  obtain⟨oe,hoe,hce⟩:=he
  have hz₂:IsZip h₂ z TI TO .ellipsis:=hs₂ _ _ D.i1z.symm hz₁
  have hez:e≠z:=λx=>by subst x;rw[hz₂] at hoe;cases hoe;simp at hce
  refine wpAny_setField_rec hz₂ (by simp) λh₃ _ hs₃=>hE h₃ e _ (λc o c1 _ c3 _ x=>hs₃.extBut _ _ c1 (hs₂ _ _ c3 (hs₁.extBut _ _ c1 x))) ⟨oe,hs₃.extBut _ _ hez hoe,hce⟩
 ·refine zA ((D1 _ hh).item k _ _ _ lt1 g1 λx h₂ tk₂ px h1₂ hs₂=>zE ?_)
  have hs₂:Heap.SameBut i1 h₁ h₂:=hs₂
  have hTO₂:IsPair h₂ TO a b:=hs₂.extBut _ _ D.TOi1 (hs₁.extBut _ _ D.TOz hTO)
  refine zA (wpAny_seqItems hTO₂ rfl ?_)
  refine zA (wpAny_updateSeq_pair hTO₂ λh₃ hTO₃ hs₃=>?_)
  have hs₃:Heap.SameBut TO h₂ h₃:=hs₃
  refine zA (wpAny_letGo (zE ?_))
  refine zA (zA (wpAny_onRaise ?_))
  show wpAny _ _ (Builtin.SmallTypes.nextOf (.ref i2) >>= _) _ _ _
  subst hk
  refine zA ((D2 _ hh).done _ _ _ ((D2 A hh).frame _ _ _ h2 λc hc o e=>hs₃.extBut _ _ (f2 c hc).2.1 (hs₂.extBut _ _ (f2 c hc).2.2 (hs₁.extBut _ _ (f2 c hc).1 e))) λh₄ e hs₄ he=>?_)
  have hs₄:Heap.ExtBut i2 h₃ h₄:=hs₄
  obtain⟨oe,hoe,hce⟩:=he
  have hz₄:IsZip h₄ z TI TO .ellipsis:=hs₄ _ _ D.i2z.symm (hs₃.extBut _ _ D.TOz.symm (hs₂.extBut _ _ D.i1z.symm hz₁))
  have hez:e≠z:=λx=>by subst x;rw[hz₄] at hoe;cases hoe;simp at hce
  refine wpAny_setField_rec hz₄ (by simp) λh₅ _ hs₅=>hE h₅ e _ (λc o c1 c2 c3 c4 x=>hs₅.extBut _ _ c1 (hs₄ _ _ c4 (hs₃.extBut _ _ c2 (hs₂.extBut _ _ c3 (hs₁.extBut _ _ c1 x))))) ⟨oe,hs₅.extBut _ _ hez hoe,hce⟩
theorem Adp{z TI TO i1 i2:Addr}{fp1 fp2:List Addr}{n1 n2 k:Nat}{P1 P2:Nat->Value->Prop}{S1 S2:Nat->Heap->Prop}{a b:Value}{Q:Option Value->Shared->Prop}(D:T3 z TI TO i1 i2)
  (D1:∀ A':Around,A'.handled=none->Draws prog w A' i1 fp1 n1 P1 S1) (D2:∀ A':Around,A'.handled=none->Draws prog w A' i2 fp2 n2 P2 S2) (hh:A.handled=none)
  (f1:∀ c∈fp1,c≠z/\c≠TO/\c≠i2) (f2:∀ c∈fp2,c≠z/\c≠TO/\c≠i1)
  (hz:IsZip s.heap z TI TO .none) (hTI:IsPair s.heap TI (.ref i1) (.ref i2)) (hTO:IsPair s.heap TO a b) (h1:S1 k s.heap) (h2:S2 k s.heap) (lt1:k<n1) (lt2:k<n2)
  (hQ:∀ x y h' tk,P1 k x->P2 k y->IsZip h' z TI TO (rawInt s.heap.objs.size)->IsPair h' TO x y->S1 (k+1) h'->S2 (k+1) h'->IsPair h' s.heap.objs.size x y->h'.objs.size=s.heap.objs.size+1 ->
   (∀ c o,c≠z->c≠TO->c≠i1->c≠i2->s.heap.get? c=some o->h'.get? c=some o)->Q (some (.ref s.heap.objs.size)) { s with heap:=h',toks:=tk }) :
  wpAny (model prog w) A (pyNext (.ref z)) Q E s:=by
 have hT:s.TypeIs (.ref z) "zip" := ⟨_,hz,rfl⟩
 unfold pyNext
 exact zA (wpAny_attempt (wpAny_callSpecial?_slot (name:=Str.ofString "__next__") hT F.slot_zip_next
  (wpAny_call_entry F.slot_zip_next hT F.entry_zip_next
   (Afu D D1 D2 hh f1 f2 hz hTI hTO h1 h2 lt1 lt2 λx y h' tk a1 a2 a3 a4 a5 a6 a7 a8 a9=>zE (hQ x y h' tk a1 a2 a3 a4 a5 a6 a7 a8 a9)) (F.args_zip_next_1 _))))
theorem Afv{z TI TO i1 i2:Addr}{fp1 fp2:List Addr}{n1 n2 k:Nat}{P1 P2:Nat->Value->Prop}{S1 S2:Nat->Heap->Prop}{a b:Value}{Q:Option Value->Shared->Prop}(D:T3 z TI TO i1 i2)
  (D1:∀ A':Around,A'.handled=none->Draws prog w A' i1 fp1 n1 P1 S1) (D2:∀ A':Around,A'.handled=none->Draws prog w A' i2 fp2 n2 P2 S2) (hh:A.handled=none)
  (f1:∀ c∈fp1,c≠z/\c≠TO/\c≠i2) (f2:∀ c∈fp2,c≠z/\c≠TO/\c≠i1)
  (hz:IsZip s.heap z TI TO .none) (hTI:IsPair s.heap TI (.ref i1) (.ref i2)) (hTO:IsPair s.heap TO a b) (h1:S1 k s.heap) (h2:S2 k s.heap) (hend:k=n1\/(k<n1/\k=n2))
  (hQ:∀ h' tk,(∀ c o,c≠z->c≠TO->c≠i1->c≠i2->s.heap.get? c=some o->h'.get? c=some o)->Q none { s with heap:=h',toks:=tk }):wpAny (model prog w) A (pyNext (.ref z)) Q E s:=by
 have hT:s.TypeIs (.ref z) "zip" := ⟨_,hz,rfl⟩
 unfold pyNext
 refine zA (wpAny_attempt (wpAny_callSpecial?_slot (name:=Str.ofString "__next__") hT F.slot_zip_next
  (wpAny_call_entry F.slot_zip_next hT F.entry_zip_next (Ag5 D D1 D2 hh f1 f2 hz hTI hTO h1 h2 hend λh' e tk hk he=>?_) (F.args_zip_next_1 _))))
 obtain⟨o,ho,hc⟩:=he
 refine zA (wpAny_isInstance (T := "StopIteration") (b:=true) ⟨o,ho,hc⟩ isSubtype_stop ?_)
 exact zE (hQ _ _ hk)
abbrev Oq (x:Str) (t:Tok):Obj:={ cls:=.type (strIterType x),data:=.fields #[.str x t,.int 0 0] }
abbrev AdW (l:Addr):Obj:={ cls:=.type "list_iterator", data:=.fields #[.ref l,.int 0 0] }
abbrev Jv (h:Heap) (o1 o2:Obj):Heap:=((((h.push o1).push o2).push { cls:=.type "tuple", data:=.seq #[.ref h.objs.size,.ref (h.push o1).objs.size] }).push { cls:=.type "tuple", data:=.seq #[.none,.none] }).push
 { cls:=.type "zip", data:=.fields #[.none,.bool false,.bool false,.ref ((h.push o1).push o2).objs.size,.ref (((h.push o1).push o2).push { cls:=.type "tuple", data:=.seq #[.ref h.objs.size,.ref (h.push o1).objs.size] }).objs.size] }
abbrev ZJ (h:Heap) (o1 o2:Obj):Addr:=((((h.push o1).push o2).push { cls:=.type "tuple", data:=.seq #[.ref h.objs.size,.ref (h.push o1).objs.size] }).push { cls:=.type "tuple", data:=.seq #[.none,.none] }).objs.size
set_option maxHeartbeats 4000000 in
theorem AbT(l1:Addr)(xs:Array Value)(x:Str)(t:Tok) :
  Meets (Builtin.«zip.__new__» ⟨[.type "zip", .ref l1,.str x t],[]⟩) (λ_ R s=>s.heap.IsList l1 xs/\R (.ok (.ret (.ref (ZJ s.heap (AdW l1) (Oq x t))))) { s with heap:=Jv s.heap (AdW l1) (Oq x t) }) :=
 .of_wp λprog w A R s h=>by
  obtain⟨hp,g,d,tk,os⟩:=s;obtain⟨hl1,h⟩:=h
  have hsub:=sub_zip
  have hL1:Heap.IsList (Shared.heap ⟨hp,g,d,tk,os⟩) l1 xs:=hl1
  wp_walk using wpAny_pyIter_list hL1,wpAny_pyIter_strU
  exact⟨_,rfl,h⟩
set_option maxHeartbeats 4000000 in
theorem AbU(y:Str)(u:Tok)(x:Str)(t:Tok) :
  Meets (Builtin.«zip.__new__» ⟨[.type "zip", .str y u,.str x t],[]⟩) (λ_ R s=>R (.ok (.ret (.ref (ZJ s.heap (Oq y u) (Oq x t))))) { s with heap:=Jv s.heap (Oq y u) (Oq x t) }) :=
 .of_wp λprog w A R s h=>by
  obtain⟨hp,g,d,tk,os⟩:=s
  have hsub:=sub_zip
  wp_walk using wpAny_pyIter_strU
  exact⟨_,rfl,h⟩
end
inductive Src where
 | l (a:Addr)
 | s (z:Str)
def AmK:Src->V
 | .l a=>.ref a
 | .s z=>.str z
def Xp (K:W.Frag)(H:Hp):Src->Prop
 | .l a=>∃ xs,SqL K H a xs
 | .s _=>True
def Hu (K:W.Frag)(H:Hp):Src->Nat->V->Prop
 | .l a,i,v=>∃ xs,SqL K H a xs/\xs[i]?=some v
 | .s z,i,v=>∃ c,z.cps[i]?=some c/\v=.str ⟨#[c]⟩
def Adq (K:W.Frag)(H:Hp):Src->Nat->Prop
 | .l a,i=>∃ xs,SqL K H a xs/\xs.length=i
 | .s z,i=>z.cps.size=i
def Q8 (it:Addr)(t:Tok):Src->Nat->Heap->Prop
 | .l a,i,h=>h.IsListIter it a i
 | .s z,i,h=>h.IsStrIter it (strIterType z) z t i
def Ag6 (it:Addr):Src->List Addr
 | .l a=>[it,a]
 | .s _=>[it]
def Apa (t:Tok):Src->Obj
 | .l a=>AdW a
 | .s z=>Oq z t
theorem Xq{X:Cx}{pins:List (Addr × Obj)}{σ:St}{H:Hp}{s:Shared}(I:Inv X pins σ H s){S:Src}{i:Nat}{u v:V}(h1:Hu X.K H S i u)(h2:Hu X.K H S i v):u=v:=by
 cases S with
 | l a =>
  obtain⟨xs,q1,e1⟩:=h1
  obtain⟨ys,q2,e2⟩:=h2
  rw[I.Q4 q2 q1,e1] at e2
  exact Option.some.inj e2
 | s z =>
  obtain⟨c,e1,rfl⟩:=h1
  obtain⟨d,e2,rfl⟩:=h2
  rw[e1] at e2
  cases e2
  rfl
theorem Nz{X:Cx}{pins:List (Addr × Obj)}{σ:St}{H:Hp}{s:Shared}(I:Inv X pins σ H s){it:Addr}{t:Tok}{S:Src}{i:Nat}(st:Q8 it t S i s.heap)(ok:Xp X.K H S)(ap:∀ a,S=.l a->a≠it) :
  ∃(n:Nat) (Pd:Nat->Value->Prop) (Sd:Nat->Heap->Prop),(∀ A':Around,A'.handled=none->Draws X.prog X.w A' it (Ag6 it S) n Pd Sd)/\Sd i s.heap/\(∀ h',Sd (i+1) h'->Q8 it t S (i+1) h') /\
   (∀ v,Hu X.K H S i v->i<n/\∀ u,Pd i u->RelV v u)/\(Adq X.K H S i->i=n):=by
 cases S with
 | l a =>
  obtain⟨xs,q⟩:=ok
  obtain⟨its,rv,p1,_⟩:=I.list q
  have len:=rv.length
  refine⟨_,_,_,λA' hh=>Draws.list hh it a (ap a rfl) its.toArray,⟨st,p1.isList⟩,λh' z=>z.1,λv hv=>?_,λhe=>?_⟩
  ·obtain⟨ys,q2,e⟩:=hv
   rw[I.Q4 q2 q] at e
   obtain⟨u,hu,r⟩:=rv.get e
   refine⟨by have:=(zC.mp hu).1;simpa using this,λu' hu'=>?_⟩
   have:its[i]?=some u':=by simpa using hu'
   rw[hu] at this
   cases this
   exact r
  ·obtain⟨ys,q2,e⟩:=he
   rw[I.Q4 q2 q] at e
   simp only [Aqh]
   omega
 | s z =>
  refine⟨_,_,_,λA' hh=>Xo hh it z t,st,λh' z=>z,λv hv=>?_,λhe=>he.symm⟩
  obtain⟨c,e,rfl⟩:=hv
  refine⟨by rw[Array.getElem?_eq_some_iff] at e;exact e.1,λu ⟨d,tk,e2,hu⟩=>?_⟩
  rw[e] at e2
  cases e2
  exact⟨tk,hu⟩
def AbV (K:W.Frag)(S1 S2:Src):It where
 go:=λi H=>(∃ u,Hu K H S1 i u)/\∃ v,Hu K H S2 i v
 yld:=λi H x H'=>∃ T,x=.ref T/\H T=none/\∀ u v,Hu K H S1 i u->Hu K H S2 i v->H'=upd H T (.tup [u,v])
 stop:=λi H=>Xp K H S1/\Xp K H S2/\(Adq K H S1 i\/((∃ u,Hu K H S1 i u)/\Adq K H S2 i))
theorem AbW{K:W.Frag}{H:Hp}{S:Src}{i:Nat}{u:V}(h:Hu K H S i u):Xp K H S:=by
 cases S with
 | l a=>obtain⟨xs,q,_⟩:=h;exact⟨xs,q⟩
 | s z=>trivial
def Ala (z TI TO i1 i2:Addr)(t1 t2:Tok)(S1 S2:Src)(i:Nat)(h:Heap):Prop:=IsZip h z TI TO .none/\IsPair h TI (.ref i1) (.ref i2)/\(∃ p q,IsPair h TO p q)/\Q8 i1 t1 S1 i h/\Q8 i2 t2 S2 i h
theorem Q9{it:Addr}{t:Tok}{S:Src}{i:Nat}{h h':Heap}(st:Q8 it t S i h)(k:∀ o,h.get? it=some o->h'.get? it=some o):Q8 it t S i h':=by
 cases S with
 | l a=>exact Heap.IsListIter.at st k
 | s z=>obtain⟨o,e,c⟩:=st;exact⟨o,k o e,c⟩
theorem N5{it:Addr}{t:Tok}{S:Src}{i:Nat}{h:Heap}(st:Q8 it t S i h):∃ o,h.get? it=some o/\∀ v,o.data≠.cell v:=by
 cases S with
 | l a=>obtain⟨o,e,_,d⟩:=st;exact⟨o,e,λv z=>by rw[d] at z;cases z⟩
 | s z=>obtain⟨o,e,_,d⟩:=st;exact⟨o,e,λv z=>by rw[d] at z;cases z⟩
theorem Afw{P:Program}{w:World}{K:W.Frag}{es:List Expr}{kx:Nat}{tp:Pos}{z TI TO i1 i2:Addr}{t1 t2:Tok}{S1 S2:Src}(D:T3 z TI TO i1 i2)
  (a1:∀ a,S1=.l a->a≠z/\a≠TO/\a≠i1/\a≠i2) (a2:∀ a,S2=.l a->a≠z/\a≠TO/\a≠i1/\a≠i2) :
  Turn P w K (.Tuple es kx tp) (AbV K S1 S2) [z,TI,TO,i1,i2] z (Ala z TI TO i1 i2 t1 t2 S1 S2):=by
 have f1:∀ c∈Ag6 i1 S1,c≠z/\c≠TO/\c≠i2:=λc hc=>by
  cases S1 with
  | l a =>
   rcases yH.mp hc with e | e
   ·subst e;exact⟨D.i1z,D.TOi1.symm,D.i12⟩
   ·rw[zF.mp e];exact⟨(a1 a rfl).1,(a1 a rfl).2.1,(a1 a rfl).2.2.2⟩
  | s x=>rw[zF.mp hc];exact⟨D.i1z,D.TOi1.symm,D.i12⟩
 have f2:∀ c∈Ag6 i2 S2,c≠z/\c≠TO/\c≠i1:=λc hc=>by
  cases S2 with
  | l a =>
   rcases yH.mp hc with e | e
   ·subst e;exact⟨D.i2z,D.TOi2.symm,D.i12.symm⟩
   ·rw[zF.mp e];exact⟨(a2 a rfl).1,(a2 a rfl).2.1,(a2 a rfl).2.2.1⟩
  | s x=>rw[zF.mp hc];exact⟨D.i2z,D.TOi2.symm,D.i12.symm⟩
 exact {
  mem:=by simp
  obj:=λi h st c hc=>by
   obtain⟨s1,s2,⟨p,q,s3⟩,s4,s5⟩:=st
   simp only [Aqs,Aqt,or_false] at hc
   rcases hc with e | e | e | e | e
   ·subst e;exact⟨_,s1,λv z=>by cases (show Data.fields _=Data.cell v from z)⟩
   ·subst e;exact⟨_,s2,λv z=>by cases (show Data.seq _ _=Data.cell v from z)⟩
   ·subst e;exact⟨_,s3,λv z=>by cases (show Data.seq _ _=Data.cell v from z)⟩
   ·subst e;exact N5 s4
   ·subst e;exact N5 s5
  keep:=λi h h' st k=>by
   obtain⟨s1,s2,⟨p,q,s3⟩,s4,s5⟩:=st
   exact⟨k _ (by simp) _ s1,k _ (by simp) _ s2,⟨p,q,k _ (by simp) _ s3⟩,Q9 s4 λo e=>k _ (by simp) o e,Q9 s5 λo e=>k _ (by simp) o e⟩
  item:=by
   intro X hP hw hK hc i pins s σ H E I hf st hg
   subst hP hw hK
   obtain⟨⟨x,hx⟩,y,hy⟩:=hg
   obtain⟨s1,s2,⟨p,q,s3⟩,s4,s5⟩:=st
   obtain⟨n1,P1,Q1,D1,g1,e1,v1,_⟩:=Nz I s4 (AbW hx) (λa e=>(a1 a e).2.2.1)
   obtain⟨n2,P2,Q2,D2,g2,e2,v2,_⟩:=Nz I s5 (AbW hy) (λa e=>(a2 a e).2.2.2)
   obtain⟨l1,r1⟩:=v1 x hx
   obtain⟨l2,r2⟩:=v2 y hy
   refine Adp D D1 D2 (I.ok.hd hc) f1 f2 s1 s2 s3 g1 g2 l1 l2 λu v h1 tk pu pv z1 w1 j1 j2 hT hsz kk=>?_
   have ru:=r1 u pu
   have rw':=r2 v pv
   refine⟨_,rfl,wpAny_letOwnedTupleGo_zip z1 λh2 z2 sb=>?_⟩
   have sb:Heap.SameBut z h1 h2:=sb
   have zl:z<s.heap.objs.size:=Heap.lt_size s1
   have TIl:TI<s.heap.objs.size:=Heap.lt_size s2
   have TOl:TO<s.heap.objs.size:=Heap.lt_size s3
   have i1l:i1<s.heap.objs.size:=by obtain⟨_,e,_⟩:=N5 s4;exact Heap.lt_size e
   have i2l:i2<s.heap.objs.size:=by obtain⟨_,e,_⟩:=N5 s5;exact Heap.lt_size e
   have up:∀ c o,c≠z->h1.get? c=some o->h2.get? c=some o:=λc o c1 e=>(sb.2 c c1).trans e
   have hTn:H s.heap.objs.size=none:=I.hok.fresh (ApR _)
   have I1:Inv X pins σ (upd H s.heap.objs.size (.tup [x,y])) { s with heap:=s.heap.push { cls:=.type "tuple", data:=.seq #[u,v] },toks:=tk } :=
    I.laid (λc o e=>zB _ e) (ApR _) ⟨by show 2<=sizeLine;decide,[u,v],.cons ru (.cons rw' .nil),⟨_,zD _ rfl,rfl,_,rfl⟩⟩
   have fp2:∀ c∈[z,TI,TO,i1,i2],Gz X pins (upd H s.heap.objs.size (.tup [x,y])) c:=λc hc=>by
    obtain⟨f0,f⟩:=hf c hc
    refine⟨?_,f⟩
    have lt:c<s.heap.objs.size:=by
     simp only [Aqs,Aqt,or_false] at hc
     rcases hc with e | e | e | e | e <;> subst e <;> assumption
    rw[Ah (ApZ lt)]
    exact f0
   have I2:Inv X pins σ (upd H s.heap.objs.size (.tup [x,y])) { s with heap:=h2,toks:=tk }:=by
    refine Inv.Wq (s:={ s with heap:=s.heap.push { cls:=.type "tuple", data:=.seq #[u,v] },toks:=tk }) (h':=h2) (t':=tk) (its:=[z,TI,TO,i1,i2]) I1 (λc o hc e=>?_) fp2
    simp only [Aqs,Aqt,or_false,not_or] at hc
    refine up c o hc.1 ?_
    by_cases hcs:c=s.heap.objs.size
    ·subst hcs
     have e':(s.heap.push { cls:=.type "tuple", data:=.seq #[u,v] }).get? s.heap.objs.size=some { cls:=.type "tuple", data:=.seq #[u,v] }:=zD _ rfl
     rw[e'] at e
     cases e
     exact hT
    ·have e':s.heap.get? c=some o:=by
      rw[<- e]
      exact(Heap.get?_push_ne _ _ _ hcs).symm
     exact kk c o hc.1 hc.2.2.1 hc.2.2.2.1 hc.2.2.2.2 e'
   refine⟨.ref s.heap.objs.size,_,I2,rfl,⟨s.heap.objs.size,rfl,hTn,λu' v' q1 q2=>?_⟩,⟨z2,up _ _ D.TIz (kk _ _ D.TIz D.TITO D.TIi1 D.TIi2 s2),⟨u,v,up _ _ D.TOz w1⟩,Q9 (e1 _ j1) λo e=>up _ o D.i1z e,Q9 (e2 _ j2) λo e=>up _ o D.i2z e⟩,λc hc=>(fp2 c hc).1⟩
   rw[Xq I q1 hx,Xq I q2 hy]
  done:=by
   intro X hP hw hK hc i pins s σ H E I hf st hg
   subst hP hw hK
   obtain⟨o1,o2,hend⟩:=hg
   obtain⟨s1,s2,⟨p,q,s3⟩,s4,s5⟩:=st
   obtain⟨n1,P1,Q1,D1,g1,e1,v1,d1⟩:=Nz I s4 o1 (λa e=>(a1 a e).2.2.1)
   obtain⟨n2,P2,Q2,D2,g2,e2,v2,d2⟩:=Nz I s5 o2 (λa e=>(a2 a e).2.2.2)
   have he:i=n1\/(i<n1/\i=n2):=by
    rcases hend with h | ⟨⟨u,hu⟩,h⟩
    ·exact .inl (d1 h)
    ·exact .inr ⟨(v1 u hu).1,d2 h⟩
   refine Afv D D1 D2 (I.ok.hd hc) f1 f2 s1 s2 s3 g1 g2 he λh' tk kk=>⟨rfl,I.Wq (t':=tk) (its:=[z,TI,TO,i1,i2]) (λc o hc e=>?_) hf⟩
   simp only [Aqs,Aqt,or_false,not_or] at hc
   exact kk c o hc.1 hc.2.2.1 hc.2.2.2.1 hc.2.2.2.2 e
  self:=λ_ _ _ _ _ st h=>wpAny_pyIter_zip st.1 h }
theorem AbX{h:Heap}{o1 o2:Obj}(e1:o1.isFreed=false)(e2:o2.isFreed=false):ZJ h o1 o2=h.objs.size+4/\IsZip (Jv h o1 o2) (h.objs.size+4) (h.objs.size+2) (h.objs.size+3) .none /\
  IsPair (Jv h o1 o2) (h.objs.size+2) (.ref h.objs.size) (.ref (h.objs.size+1))/\IsPair (Jv h o1 o2) (h.objs.size+3) .none .none/\(Jv h o1 o2).get? h.objs.size=some o1/\(Jv h o1 o2).get? (h.objs.size+1)=some o2 /\
  ∀ c o,h.get? c=some o->(Jv h o1 o2).get? c=some o:=by
 have z1:(h.push o1).objs.size=h.objs.size+1:=Heap.size_push ..
 have z2:((h.push o1).push o2).objs.size=h.objs.size+2:=by rw[Heap.size_push,z1]
 have z3:(((h.push o1).push o2).push { cls:=.type "tuple", data:=.seq #[.ref h.objs.size,.ref (h.push o1).objs.size] }).objs.size=h.objs.size+3:=by rw[Heap.size_push,z2]
 have z4:ZJ h o1 o2=h.objs.size+4:=by unfold ZJ;rw[Heap.size_push,z3]
 have g5:(Jv h o1 o2).get? (ZJ h o1 o2)=some _:=zD _ rfl
 have g4:(Jv h o1 o2).get? (((h.push o1).push o2).push { cls:=.type "tuple", data:=.seq #[.ref h.objs.size,.ref (h.push o1).objs.size] }).objs.size=some _:=zB _ (zD _ rfl)
 have g3:(Jv h o1 o2).get? ((h.push o1).push o2).objs.size=some _:=zB _ (zB _ (zD _ rfl))
 have g2:(Jv h o1 o2).get? (h.push o1).objs.size=some o2:=zB _ (zB _ (zB _ (zD _ e2)))
 have g1:(Jv h o1 o2).get? h.objs.size=some o1:=zB _ (zB _ (zB _ (zB _ (zD _ e1))))
 refine⟨z4,?_,?_,?_,g1,?_,λc o x=>zB _ (zB _ (zB _ (zB _ (zB _ x))))⟩
 ·rw[z4,z2,z3] at g5;exact g5
 ·rw[z2,z1] at g3;exact g3
 ·rw[z3] at g4;exact g4
 ·rw[z1] at g2;exact g2
theorem ane{a b:Nat}(h:a≠b):@Ne Addr a b:=h
theorem lne{a n:Nat}(h:a<n)(k:Nat):@Ne Addr a (n+k):=λz=>by have z:a=n+k:=z;omega
theorem Ads(n:Nat):T3 (n+4) (n+2) (n+3) n (n+1) where
 TIz:=ane (by omega)
 TOz:=ane (by omega)
 i1z:=ane (by omega)
 i2z:=ane (by omega)
 TITO:=ane (by omega)
 TIi1:=ane (by omega)
 TIi2:=ane (by omega)
 TOi1:=ane (by omega)
 TOi2:=ane (by omega)
 i12:=ane (by omega)
section
variable {X:Cx}{es:List Expr}{kx:Nat}{tp:Pos}
def zOk:Src->Src->Prop
 | .s _,.l _=>False
 | _,_=>True
def AmL (K:W.Frag)(ta:TA):TI:=λσ H R=>ta σ H λvs H1=>∃ S1 S2,vs=[AmK S1,AmK S2]/\zOk S1 S2/\Xp K H1 S1/\Xp K H1 S2/\R (AbV K S1 S2) H1
theorem AdX{K:W.Frag}{a b:Expr}{ta:TA}{p pos:Pos}(hg:Gl X "zip") (hm:X.mg "zip" = none) (ha:PA X [a,b] ta) (hK:X.K=K:=by rfl) (hs:starEach [a,b] X.env=[(false,eval a X.env),(false,eval b X.env)]:=by rfl) (hs2:starEach [b] X.env=[(false,eval b X.env)]:=by rfl) :
  PI X (.Tuple es kx tp) (.Call (.Name "zip" p) [a,b] [] pos) (AmL K ta):=by
 subst hK
 intro pins s σ H R I h
 refine Call_ (Jc I hg hm AkQ (PyProof.Rows.callWith_type1 (thn (ha pos pins s σ H _ I h) λus s1 ⟨vs,H1,I1,r1,q1⟩=>?_) (by rw[hs,hs2]) (by rw[hs2];rfl)))
 obtain⟨S1,S2,e,hz,o1,o2,q⟩:=q1
 subst e
 obtain⟨u1,u2,rfl,ru1,ru2⟩:=r1.two
 have fin:∀(t1 t2:Tok) (h':Heap) (tk:Nat),IsZip h' (s1.heap.objs.size+4) (s1.heap.objs.size+2) (s1.heap.objs.size+3) .none->IsPair h' (s1.heap.objs.size+2) (.ref s1.heap.objs.size) (.ref (s1.heap.objs.size+1))->IsPair h' (s1.heap.objs.size+3) .none .none ->
   Q8 s1.heap.objs.size t1 S1 0 h'->Q8 (s1.heap.objs.size+1) t2 S2 0 h'->(∀ c o,s1.heap.get? c=some o->h'.get? c=some o) ->
   wpAny (model X.prog X.w) X.A (pyIter (.ref (s1.heap.objs.size+4))) (PIE X pins σ (.Tuple es kx tp) R) X.xe { s1 with heap:=h',toks:=tk }:=λt1 t2 h' tk hzz hTI hTO j1 j2 kk=>by
  refine wpAny_pyIter_zip hzz ?_
  have lt:∀ S:Src,Xp X.K H1 S->∀ a,S=.l a->a<s1.heap.objs.size:=λS ok a e=>by
   subst e
   obtain⟨xs,q⟩:=ok
   obtain⟨its,_,p1,_⟩:=I1.list q
   obtain⟨o,e,_⟩:=p1.isList
   exact Heap.lt_size e
  refine⟨_,[s1.heap.objs.size+4,s1.heap.objs.size+2,s1.heap.objs.size+3,s1.heap.objs.size,s1.heap.objs.size+1],_,_,H1,rfl,I1.kept (t':=tk) kk,Afw (t1:=t1) (t2:=t2) (Ads _) (λa e=>?_) (λa e=>?_),
   ⟨hzz,hTI,⟨_,_,hTO⟩,j1,j2⟩,λc hc=>?_,q⟩
  ·have:=lt S1 o1 a e;exact⟨lne this 4,lne this 3,lne this 0,lne this 1⟩
  ·have:=lt S2 o2 a e;exact⟨lne this 4,lne this 3,lne this 0,lne this 1⟩
  ·have le:s1.heap.objs.size<=c:=by
    simp only [Aqs,Aqt,or_false] at hc
    rcases hc with e | e | e | e | e <;> subst e <;> omega
   exact I1.AeR le (I1.hok.fresh le)
 cases S1 with
 | l a =>
  cases ru1
  obtain⟨xs,hq1⟩:=id o1
  obtain⟨Ao2,rv1,p1,_⟩:=I1.list hq1
  cases S2 with
  | l b =>
   cases ru2
   obtain⟨ys,hq2⟩:=id o2
   obtain⟨its2,rv2,p2,_⟩:=I1.list hq2
   refine call_zip_2 p1.isList p2.isList λh' hzz hTI hTO j1 j2 hsz kk=>fin 0 0 h' s1.toks hzz hTI hTO j1 j2 kk
  | s x =>
   obtain⟨t,rfl⟩:=ru2
   refine callType_new F.called_zip (by decide) (F.typeCall_zip_2 _ _) (F.newCall_zip_2 _ _) (λobj=>F.args_object_init_3 obj _ _) F.entry_zip_new (AbT a Ao2.toArray x t) ⟨p1.isList,?_⟩
   obtain⟨z4,g5,g3,g4,g1,g2,kk⟩:=AbX (h:=s1.heap) (o1:=AdW a) (o2:=Oq x t) rfl rfl
   show _/\_
   rw[z4]
   exact⟨⟨_,g5,rfl⟩,fin 0 t _ s1.toks g5 g3 g4 ⟨_,g1,rfl,rfl⟩ ⟨_,g2,rfl,rfl⟩ kk⟩
 | s y =>
  obtain⟨t1,rfl⟩:=ru1
  cases S2 with
  | l b=>exact hz.elim
  | s x =>
   obtain⟨t,rfl⟩:=ru2
   refine callType_new F.called_zip (by decide) (F.typeCall_zip_2 _ _) (F.newCall_zip_2 _ _) (λobj=>F.args_object_init_3 obj _ _) F.entry_zip_new (AbU y t1 x t) ?_
   obtain⟨z4,g5,g3,g4,g1,g2,kk⟩:=AbX (h:=s1.heap) (o1:=Oq y t1) (o2:=Oq x t) rfl rfl
   show _/\_
   rw[z4]
   exact⟨⟨_,g5,rfl⟩,fin t1 t _ s1.toks g5 g3 g4 ⟨_,g1,rfl,rfl⟩ ⟨_,g2,rfl,rfl⟩ kk⟩
end
structure N7 (X:Cx) (x x':Str) (Nc:List Str) (Bl:List Nat) (scope:Scope):Prop where
 kind:scope.kind=.function
 cell:∀ y∈scope.names,y.2≠.cell
 names:∀ y∈scope.names,y.2=.local->scope.names.lookup y.1=some .local
 fr:∀ y∈scope.names,y.2=.free->X.env.scope.names.lookup y.1=some .cell/\scope.names.lookup y.1=some .free
 loc:scope.names.lookup x=some .local
 AmM:scope.names.lookup x'=some .local
 len:Nc.length=Bl.length+2
 hd:Nc[0]?=some x
 hd2:Nc[1]?=some x'
 nd:Nc.Nodup
 cap:∀ k j,Bl[k]?=some j->∃ y,Nc[k+2]?=some y/\X.N[j]?=some y/\scope.names.lookup y=some .free
def AaI (K:W.Frag)(Bl:List Nat)(tc:TT)(te:TE)(J:It)(σ:St)(H:Hp)(Q:VK):Prop :=
 ∃ W:Nat->Nat->List V->Hp->Prop,(∃ m,W 0 m [] H)/\∀ i m ys H,W i m ys H ->
  (J.stop i H/\ys.length<=sizeLine/\∀ p,H p=none->Q (.ref p) (upd H p (.lst ys))) \/
  (J.go i H/\ys.length<sizeLine/\∀ x H',J.yld i H x H'->∃ a u v,x=.ref a/\SqT K H' a [u,v]/\tc (some u::some v::Ea σ Bl) H' λb H2 =>
   if b=true then te (some u::some v::Ea σ Bl) H2 λy H3=>∃ m',m'<m/\W (i+1) m' (ys++[y]) H3 else ∃ m',m'<m/\W (i+1) m' ys H2)
def Ag7 (K:W.Frag)(wi:TI)(Bl:List Nat)(tc:TT)(te:TE):TE:=λσ H Q=>wi σ H λJ H1=>AaI K Bl tc te J σ H1 Q
section
variable {X:Cx}{pins:List (Addr × Obj)}{σ:St}{H:Hp}{s:Shared}
theorem Ag8{x x':Str}{Nc:List Str}{Bl:List Nat}{scope:Scope}{cl:List (Str × Addr)}{C:Addr}{fp:List Addr}(I:Inv X pins σ H s)(O:N7 X x x' Nc Bl scope)
  (hcl:∀ x c,cl.lookup x=some c->X.env.cells.lookup x=some c/\(x,NameKind.free)∈scope.names) (Js:∀ x,(x,NameKind.free)∈scope.names->cl.lookup x=X.env.cells.lookup x)
  (hC:s.heap.objs.size<=C) (hfp:∀ b∈fp,Gz X pins H b) (hfo:∀ b∈fp,b<s.heap.objs.size):(DY X Nc scope cl C fp s H).Ok where
 mod:=I.ok.mod
 kind:=O.kind
 glob:=I.ok.glob
 blt:=I.ok.blt
 above:=hC
 inj:=λa b c e1 e2=>I.ok.inj a b c (hcl a c e1).1 (hcl b c e2).1
 has:=λy hy=>by
  have mem:(y,NameKind.free)∈scope.names:=by
   have hy':((relabel scope X.env).names.lookup y=some .cell)\/((relabel scope X.env).names.lookup y=some .free):=hy
   have hm:∃ k,(y,k)∈(relabel scope X.env).names/\(k=.cell\/k=.free):=by
    rcases hy' with h | h
    ·exact⟨_,zW h,.inl rfl⟩
    ·exact⟨_,zW h,.inr rfl⟩
   obtain⟨k,hm,hk⟩:=hm
   obtain⟨⟨n,k'⟩,hm',e⟩:=yG.mp hm
   dsimp only at e
   by_cases hc:(k' == NameKind.free && X.env.scope.kind == .function && X.env.kindOf n == some .cell)=true
   ·rw[if_pos hc] at e
    injection e with e1 _
    subst e1
    have:k'=.free:=by
     have:=(Aq7 _ _▸(Aq7 _ _▸hc).1).1
     simpa using this
    subst this
    exact hm'
   ·rw[if_neg hc] at e
    injection e with e1 e2
    subst e1 e2
    rcases hk with hk | hk
    ·subst hk;exact absurd rfl (O.cell _ hm')
    ·subst hk;exact hm'
  obtain⟨c,e⟩:=I.ok.has y (.inl (O.fr _ mem rfl).1)
  exact⟨c,(Js y mem).trans e⟩
 cab:=λ_ _ z=>nomatch z
 hd:=I.ok.hd
 frames:=I.ok.frames
 stk:=.inl rfl
 exf:=λb hb=>⟨ApZ (Aqa (hfo b hb) hC),λy c e=>(hfp b hb).2.2.2.2.1 y c (hcl y c e).1⟩
 bs:=I.bs
 bsz:=Aqn I.ok.bsz I.sz
 Za:=λb o e hb=>by
  rcases(hfp b hb).2.2.2.1 with z | z
  ·exact I.ok.Za b o e z
  ·exact absurd (Aqa (Heap.lt_size e) (Aqn I.ok.bsz z)) (Aqu _)
 Zb:=λb hb z=>by
  rcases yH.mp (I.W8 b z) with e | e
  ·exact(hfp b hb).2.1 e
  ·exact(hfp b hb).2.2.1 e
 Qa:=I.stack
 frf:=I.Wj
theorem AbY{x x':Str}{Nc:List Str}{Bl:List Nat}{scope:Scope}{cl:List (Str × Addr)}{C:Addr}{fp:List Addr}{h':Heap}{tk:Nat}{m0:Str->Option Value}(I:Inv X pins σ H s)(O:N7 X x x' Nc Bl scope)
  (hcl:∀ x c,cl.lookup x=some c->X.env.cells.lookup x=some c/\(x,NameKind.free)∈scope.names) (Js:∀ x,(x,NameKind.free)∈scope.names->cl.lookup x=X.env.cells.lookup x)
  (hC:s.heap.objs.size<=C) (hfp:∀ b∈fp,Gz X pins H b) (hfo:∀ b∈fp,b<s.heap.objs.size)
  (old:∀ b o,s.heap.get? b=some o->h'.get? b=some o) (hns:h'.Ns C m0) :
  Inv (DY X Nc scope cl C fp s H) [] (none::none::Ea σ Bl) H { s with heap:=h',toks:=tk } where
 ok:=Ag8 I O hcl Js hC hfp hfo
 os:=rfl
 bare:=I.bare
 base:=Un.kept old
 loc:=by
  refine⟨m0,hns,λi y v hN hσ hv=>?_⟩
  match i with
  | 0=>simp at hσ
  | 1=>simp at hσ
  | k+2 =>
   rw[Arp,Arp] at hσ
   obtain⟨j,hj,hs⟩:=Xa hσ
   obtain⟨z,hz1,hz2,hz3⟩:=O.cap k j hj
   have hN':Nc[k+2]?=some y:=hN
   rw[hz1] at hN'
   cases hN'
   have mem:(y,NameKind.free)∈scope.names:=zW hz3
   have hk:=(O.fr _ mem rfl).1
   obtain⟨m,hn,hl⟩:=I.loc
   obtain⟨u,r,l⟩:=hl j y v hz2 hs (.inr (.inl hk))
   refine⟨u,r,?_⟩
   rcases l with ⟨k',_⟩ | ⟨_,c,hc,z⟩
   ·have k'':X.env.scope.names.lookup y=some .local:=k'
    rw[hk] at k'';cases k''
   ·obtain⟨o,ho,hd⟩:=z
    exact .inr ⟨.inl (Dp I.ok.kind hz3 hk),c,(Js y mem).trans hc,o,old _ _ ho,hd⟩
 cell:=λy c e=>by
  obtain⟨v,o,ho,hd⟩:=I.cell y c (hcl y c e).1
  exact⟨v,o,old _ _ ho,hd⟩
 free:=I.hok.fresh hC
 GQ:=λy c e=>I.GQ y c (hcl y c e).1
 pin:=λp hp=>absurd (show p∈([]:List (Addr × Obj)) from hp) (by simp)
 hok:=I.hok.kept old
 len:=by
  show(none::none::Ea σ Bl).length=Nc.length
  rw[ApU,ApU,WY,O.len]
theorem AbZ{x x':Str}{px px' tp:Pos}{kx:Nat}{Nc:List Str}{Bl:List Nat}{scope:Scope}{cl:List (Str × Addr)}{iter elt:Expr}{ifs:List Expr}{pos:Pos}{tc:TT}{te:TE}{Q:VK}{it:Addr}{fp:List Addr}{tn:Nat->Heap->Prop}{J:It}
  {RR:Value->Addr->Result->Shared->Prop}{E:Value->Shared->Prop}
  (O:N7 X x x' Nc Bl scope) (hc:X.calm=true)
  (hcl:∀ x c,cl.lookup x=some c->X.env.cells.lookup x=some c/\(x,NameKind.free)∈scope.names) (Js:∀ x,(x,NameKind.free)∈scope.names->cl.lookup x=X.env.cells.lookup x)
  (hte:∀ C fp s H,PE (DY X Nc scope cl C fp s H) elt te) (htc:∀ C fp s H,PIf (DY X Nc scope cl C fp s H) ifs tc)
  (I:Inv X pins σ H s) (T:Turn X.prog X.w X.K (.Tuple [.Name x px,.Name x' px'] kx tp) J fp it tn) (st:tn 0 s.heap) (hfp:∀ b∈fp,Gz X pins H b) (h:AaI X.K Bl tc te J σ H Q)
  (hRR:∀(D C:Addr) (s':Shared) (m:Str->Option Value),s'.heap.Ns C m->(∀ h',Heap.SameBut C s'.heap h'->∃ H',Inv X pins σ H' { s' with heap:=h' }/\H' C=none/\Q (.ref D) H') ->
   s.heap.objs.size<=C->RR (.ref D) C (.ok .next) s') :
  wpAny (model X.prog X.w) X.A (newList []) (λacc s₃=>wpAny (model X.prog X.w) X.A (newFunctionEnv scope X.env.globals cl [] X.env.qual none .none (some X.env)) (λcenv s₄ =>
   codeAny (model X.prog X.w) X.A (.compStart (.ListComp elt [⟨(.Tuple [.Name x px,.Name x' px'] kx tp),iter,ifs,0⟩] scope pos) 0 (.ref it) acc { cenv with scope:=relabel scope X.env }) (RR acc cenv.locals) s₄) E s₃) E s:=by
 refine yJ (wpAny_newFunctionEnv O.cell (by intro y hy;simp at hy) (λh₁ hns₁ hsb₁=>?_) O.kind)
 dsimp only at hns₁ hsb₁ ⊢
 generalize hH2:s.heap.push { cls:=.type "list", dict:=none,data:=.seq ([]:List Value).toArray }=H2 at hns₁ hsb₁ ⊢
 have hC:H2.objs.size=s.heap.objs.size+1:=by rw[<- hH2,Heap.size_push]
 have hCle:s.heap.objs.size<=H2.objs.size:=by rw[hC];exact AqI _
 have hDC:s.heap.objs.size≠H2.objs.size:=by rw[hC];exact ApZ (Aq8 _)
 have below:∀ b,b<s.heap.objs.size->b≠H2.objs.size/\b≠s.heap.objs.size:=λb hb=>⟨by rw[hC];exact ApZ (AqV hb),ApZ hb⟩
 have old:∀ b o,s.heap.get? b=some o->h₁.get? b=some o:=λb o e=>hsb₁.extBut b o (below b (Heap.lt_size e)).1 (zB _ (hH2▸zB _ e))
 have hacc:h₁.get? s.heap.objs.size=some (FP [] 0):=hsb₁.extBut _ _ hDC (zB _ (hH2▸zD _ rfl))
 have hfo:∀ b∈fp,b<s.heap.objs.size:=λb hb=>by
  obtain⟨o,e,_⟩:=T.obj _ _ st b hb
  exact Heap.lt_size e
 have st1:tn 0 h₁:=T.keep _ _ _ st λb _ o e=>old b o e
 generalize hDD:s.heap.objs.size=D at *
 generalize hCC:H2.objs.size=C at *
 have Afc:D<=C:=hCle
 let Y:Cx:=DY X Nc scope cl C fp s H
 have I0:Inv Y [] (none::none::Ea σ Bl) H { s with heap:=h₁,toks:=s.toks+([]:List (Str × Value)).length }:=AbY I O hcl Js (by rw[hDD];exact hCle) hfp (λb hb=>by rw[hDD];exact hfo b hb) old hns₁
 have AbE:H D=none:=by rw[<- hDD];exact I.hok.fresh (ApR _)
 have Q7:D≠C:=hDC
 have Dfs:D∉Y.fs:=λz=>by
  have:=I.stack.mem (show D∈frs X.stack from z)
  obtain⟨_,o,e,_⟩:=this
  have:=Heap.lt_size e
  rw[hDD] at this
  exact Aqu _ this
 have AbF:∀ y c,Y.env.cells.lookup y=some c->c≠D:=λy c e z=>by
  obtain⟨v,q⟩:=I.cell y c (hcl y c e).1
  have:=q.lt
  rw[z,hDD] at this
  exact Aqu _ this
 have Dfp:∀ b∈fp,b≠D:=λb hb=>ApZ (hfo b hb)
 have fpY:∀{H':Hp},(∀ b∈fp,H' b=none)->∀ b∈fp,Gz Y [] H' b:=λhn b hb =>
  ⟨hn b hb,ApZ (Aqa (hfo b hb) Afc),λz=>I0.ok.Zb b hb z,.inl hb,λy c e=>(I0.ok.exf b hb).2 y c e,λp hp=>absurd (show p∈([]:List (Addr × Obj)) from hp) (by simp)⟩
 obtain⟨W,⟨m0,w0⟩,turn⟩:=h
 have loop:∀ s₃:Shared,s₃={ s with heap:=h₁,toks:=s.toks+([]:List (Str × Value)).length } ->
   codeAny (model X.prog X.w) X.A (.compLoop (.ListComp elt [⟨(.Tuple [.Name x px,.Name x' px'] kx tp),iter,ifs,0⟩] scope pos) 0 (.ref it) (.ref D) (compEnvC scope cl C X.env)) (RR (.ref D) C) s₃:=by
  rintro s₃ rfl
  refine Kc (λn s'=>∃(i:Nat) (o o':Option V) (H':Hp) (ys:List V) (us:List Value) (k:Nat),Inv Y [] (o::o'::Ea σ Bl) H' s'/\tn i s'.heap/\(∀ b∈fp,H' b=none)/\s'.heap.get? D=some (FP us k)/\H' D=none/\Vals ys us/\W i n ys H')
   ?_ m0 ⟨0,none,none,H,[],[],0,I0,st1,λb hb=>(hfp b hb).1,hacc,AbE,.nil,w0⟩
  rintro n s3 ⟨i,o3,o3',H3,ys,us,k,I3,st3,fr3,hD3,nD3,rv,w3⟩
  have fpP:∀{H':Hp} {ob:Obj},(∀ b∈fp,H' b=none)->∀ b∈fp,Gz Y [(D,ob)] H' b:=λhn b hb=>by
   obtain⟨g0,g1,g2,g3,g4,_⟩:=fpY hn b hb
   refine⟨g0,g1,g2,g3,g4,λp hp=>?_⟩
   have e:p=(D,_):=zF.mp (show p∈[(D,_)] from hp)
   rw[e]
   exact Ne.symm (Dfp b hb)
  have IP:Inv Y [(D,FP us k)] (o3::o3'::Ea σ Bl) H3 s3:=I3.Fj λp hp=>by
   have e:p=(D,FP us k):=zF.mp hp
   subst e
   exact⟨hD3,nD3,Q7,Dfs,λv z=>by cases z⟩
  have Xc:∀{σ':St} {H':Hp} {s':Shared} {pl:List (Addr × Obj)},Inv Y ([(D,FP us k)]++pl) σ' H' s'->s'.heap.get? D=some (FP us k)/\H' D=none:=λI'=>by
   have z:=I'.pin (D,FP us k) (Aqp _ (AqM _ ApS))
   exact⟨z.1,z.2.1⟩
  rcases turn i n ys H3 w3 with ⟨stop,hlen,fin⟩ | ⟨go,hlen,step⟩
  ·
   refine zT (T.done Y rfl rfl rfl hc i _ s3 _ H3 (λ_ _=>False) IP (fpP fr3) st3 stop) (λr s4 hr=>?_) λ_ _ z=>z.elim
   obtain⟨hr,I4⟩:=hr
   subst hr
   obtain⟨gD,nD⟩:=Xc (pl:=[]) (by simpa using I4)
   obtain⟨m,hn,_⟩:=I4.loc
   refine hRR D C s4 m hn (λh' hs'=>⟨upd H3 D (.lst ys),?_,(Ah (Ne.symm Q7)).trans I4.free,fin D nD⟩) hCle
   have nt:∀ b ob,H3 b=some ob->b≠C:=λb ob e z=>by
    have:=I4.free
    rw[z] at e
    rw[show H3 C=none from this] at e
    cases e
   have u1:Un (frs X.stack) fp H H3 s.heap h':=Un.but I4.base hs' (show s.heap.objs.size<=C by rw[hDD];exact hCle)
   have ok1:HOk X.prog X.w H3 h':=λb ob e=>(I4.hok b ob e).stay (λc v hc q=>(hs'.2 c (by
    rcases hc with z | z
    ·rw[z];exact nt b ob e
    ·exact nt c _ z)).trans q) (λ_ q=>q) λ_ _ q=>q
   have gD':h'.get? D=some (FP us k):=(hs'.2 D Q7).trans gD
   exact I.call' (s':={ s4 with heap:=h' }) (ch:=fp) I4.os (u1.track (AqH hDD) nD) (ok1.track nD ⟨hlen,us,k,rv,gD'⟩) I4.bare λb hb=>by
    obtain⟨_,g1,_,g3,g4,g5⟩:=hfp b hb
    exact⟨g3,g1,g4,g5⟩
  ·
   refine zT (T.item Y rfl rfl rfl hc i _ s3 _ H3 (λ_ _=>False) IP (fpP fr3) st3 go) (λr s4 hr=>?_) λ_ _ z=>z.elim
   obtain⟨u0,hr,h4⟩:=hr
   subst hr
   refine zT h4 (λ_ s5 h5=>?_) λ_ _ z=>z.elim
   obtain⟨x5,H5,I5,r5,y5,st5,fr5⟩:=h5
   have I5':=I5.pinned (fpP fr5) (T.obj _ _ st5)
   have n1:PG Y (.Name x px) (Jq 0):=Br (i:=0) O.nd O.hd (.inl (CQ I.ok.kind O.loc (by intro z;cases z))) (.inr (CQ I.ok.kind O.loc (by intro z;cases z)))
   have n2:PG Y (.Name x' px') (Jq 1):=Br (i:=1) O.nd O.hd2 (.inl (CQ I.ok.kind O.AmM (by intro z;cases z))) (.inr (CQ I.ok.kind O.AmM (by intro z;cases z)))
   have tgt:PG Y (.Tuple [.Name x px,.Name x' px'] kx tp) (Amo Y.K 2 (Agi (Jq 0) (Agi (Jq 1) Amn))):=Aa5 hc (Gn n1 (Gn n2 Wm))
   obtain⟨aT,uT,vT,rfl,hT,stepT⟩:=step x5 _ y5
   refine zT (tgt _ s5 _ H5 (.ref aT) u0 (λσ2 H2=>σ2=some uT::some vT::Ea σ Bl/\H2=H5) I5' r5 ⟨aT,[uT,vT],rfl,hT,rfl,uT,[vT],rfl,vT,[],rfl,rfl,rfl,rfl⟩) (λ_ s6 h6=>?_) λ_ _ z=>z.elim
   obtain⟨_,_,I6,rfl,rfl⟩:=h6
   refine zT ((htc C fp s H).run I6 stepT) (λb s7 h7=>?_) λ_ _ z=>z.elim
   obtain⟨H7,I7,q7⟩:=h7
   have Uy:∀{σ':St} {H':Hp} {s':Shared},Inv Y ([(D,FP us k)]++Qc fp s5.heap) σ' H' s'->tn (i+1) s'.heap/\∀ b∈fp,H' b=none:=λI' =>
    ⟨T.keep _ _ _ st5 λb hb o e=>(I'.pin (b,o) (Aqp _ (Aqp _ (El hb e)))).1,λb hb=>by
     obtain⟨o,e,d⟩:=T.obj _ _ st5 b hb
     exact(I'.pin (b,o) (Aqp _ (Aqp _ (El hb e)))).2.1⟩
   cases b with
   | false =>
    rw[if_neg Aqe] at q7
    rw[if_neg Aqe]
    obtain⟨m',hm,w7⟩:=q7
    obtain⟨gD,nD⟩:=Xc I7
    obtain⟨k1,k2⟩:=Uy I7
    exact⟨m',hm,i+1,some uT,some vT,H7,ys,us,k,I7.Fj (λp hp=>nomatch hp),k1,k2,gD,nD,rv,w7⟩
   | true =>
    rw[if_pos rfl] at q7
    rw[if_pos rfl]
    refine zT (hte C fp s H _ s7 _ H7 _ I7 q7) (λu8 s8 h8=>?_) λ_ _ z=>z.elim
    obtain⟨y8,H8,I8,r8,m',hm,w8⟩:=h8
    obtain⟨gD,nD⟩:=Xc I8
    obtain⟨k1,k2⟩:=Uy I8
    refine call_meets zL ⟨_,gD,rfl⟩ F.entry_list_append (F.args_list_append_2 _ _) (PySem.list_append D us.toArray k u8 (by rw[Aqh,<- rv.length];omega)) ⟨gD,?_⟩
    have q:=PySem.IsL.update gD (·.push u8)
    have e1:us.toArray.push u8=(us++[u8]).toArray:=by simp
    rw[e1] at q
    have I8':Inv Y [] (some uT::some vT::Ea σ Bl) H8 s8:=I8.Fj (λp hp=>nomatch hp)
    have I9:Inv Y [] (some uT::some vT::Ea σ Bl) H8 { s8 with heap:=s8.heap.update D (Obj.mapSeq (·.push u8)),toks:=s8.toks } :=
     I8'.turned (it:=D) (λb o hb e=>(zH s8.heap (Obj.mapSeq (·.push u8)) (Ne.symm hb)).trans e) nD Q7 (.inr (AqH hDD)) AbF (λp hp=>nomatch hp)
    refine⟨m',hm,i+1,some uT,some vT,H8,ys++[y8],us++[u8],_,I9,T.keep _ _ _ k1 λb hb o e=>(zH s8.heap (Obj.mapSeq (·.push u8)) (Ne.symm (Dfp b hb))).trans e,k2,q,nD,rv.append (.cons r8 .nil),w8⟩
 exact codeAny_compStart_list (loop _ rfl) (T.self X.A 0 _ _ _ st1 (loop _ rfl))
theorem Ag9{x x':Str}{px px' tp pos:Pos}{kx:Nat}{Nc:List Str}{Bl:List Nat}{scope:Scope}{iter elt:Expr}{ifs:List Expr}{wi:TI}{tc:TT}{te:TE}(O:N7 X x x' Nc Bl scope)(hc:X.calm=true)(hi:PI X (.Tuple [.Name x px,.Name x' px'] kx tp) iter wi)
  (htc:∀ cl C fp s H,PIf (DY X Nc scope cl C fp s H) ifs tc) (hte:∀ cl C fp s H,PE (DY X Nc scope cl C fp s H) elt te) (hs:∀ x,foldedSetIterable iter X.env x=pure x:=by intro _;rfl) :
  PE X (.ListComp elt [⟨(.Tuple [.Name x px,.Name x' px'] kx tp),iter,ifs,0⟩] scope pos) (Ag7 X.K wi Bl tc te):=by
 intro pins s σ H Q I h
 rw[eval_ListComp]
 obtain⟨cl,e1,e2,e3⟩:=Ka (scope:=scope) (env:=X.env) λy hy hf=>I.ok.has y.1 (.inl (O.fr y hy hf).1)
 refine wpAny_comprehension_free (use:=none) rfl hs e1 O.kind O.names (thn (hi pins s σ H _ I h) λv s1 h1=>thn h1 λitv s2 h2=>?_)
 obtain⟨it,fp,tn,J,H2,e,I2,T,st2,f2,w2⟩:=h2
 subst e
 refine AbZ (RR:=λacc C=>compPost (model X.prog X.w) X.A X.xe none (EP X pins σ Q) acc C) O hc e2 e3 (hte cl) (htc cl) I2 T st2 f2 w2 ?_
 intro D C s' m hn hq hC
 refine⟨m,hn,λh' hs'=>?_⟩
 obtain⟨H',I',_,q⟩:=hq h' hs'
 exact⟨.ref D,H',I',rfl,q⟩
theorem Afx{K:W.Frag}{x x':Str}{px px' tp pos:Pos}{kx:Nat}{Nc:List Str}{Bl:List Nat}{scope:Scope}{iter elt:Expr}{ifs:List Expr}{wi:TI}{tc:TT}{te:TE}(O:N7 X x x' Nc Bl scope)(hc:X.calm=true)(hi:PI X (.Tuple [.Name x px,.Name x' px'] kx tp) iter wi)
  (htc:∀ cl C fp s H,PIf (DY X Nc scope cl C fp s H) ifs tc) (hte:∀ cl C fp s H,PE (DY X Nc scope cl C fp s H) elt te) (hs:∀ x,foldedSetIterable iter X.env x=pure x:=by intro _;rfl) (hK:X.K=K:=by rfl) :
  PE X (.ListComp elt [⟨(.Tuple [.Name x px,.Name x' px'] kx tp),iter,ifs,0⟩] scope pos) (Ag7 K wi Bl tc te):=by
 subst hK
 exact Ag9 O hc hi htc hte hs
theorem AgA{K:W.Frag}{S1 S2:Src}{n:Nat}{Bl:List Nat}{tc:TT}{te:TE}{σ:St}{H:Hp}{Q:VK}(f g:Nat->V)(Pv:Nat->List V->Hp->Prop)(h0:Pv 0 [] H)(hl:∀ i ys H,i<=n->Pv i ys H->ys.length<=i)
  (hz:n<=sizeLine) (h1:∀ i ys H,i<n->Pv i ys H->Hu K H S1 i (f i)) (h2:∀ i ys H,i<n->Pv i ys H->Hu K H S2 i (g i)) (hst:∀ ys H,Pv n ys H->(AbV K S1 S2).stop n H)
  (hs:∀ i ys H T,i<n->Pv i ys H->H T=none->BZ n Pv tc te (some (f i)::some (g i)::Ea σ Bl) i ys (upd H T (.tup [f i,g i])))
  (hd:∀ ys H p,Pv n ys H->H p=none->Q (.ref p) (upd H p (.lst ys))):AaI K Bl tc te (AbV K S1 S2) σ H Q:=by
 refine⟨λi m ys H=>m=n-i/\i<=n/\Pv i ys H,⟨n,by simp,Aqb _,h0⟩,?_⟩
 rintro i m ys H ⟨rfl,hi,p⟩
 have hy:=hl i ys H hi p
 by_cases hlt:i<n
 ·refine .inr ⟨⟨⟨_,h1 i ys H hlt p⟩,_,h2 i ys H hlt p⟩,by omega,λx H' y=>?_⟩
  obtain⟨T,rfl,hT,e⟩:=y
  have e:=e _ _ (h1 i ys H hlt p) (h2 i ys H hlt p)
  subst e
  exact⟨T,f i,g i,rfl,SqT.of Ae,hs i ys H T hlt p hT⟩
 ·have e:i=n:=by omega
  subst e
  exact .inl ⟨hst ys H p,by omega,λp' hp=>hd ys H p' p hp⟩
theorem AgB{K:W.Frag}{S1 S2:Src}{n:Nat}{g:TG}{tb:TS}{D:Ends}{σ:St}{H:Hp}(f1 f2:Nat->V)(Pv:Nat->St->Hp->Prop)(h0:Pv 0 σ H)(h1:∀ i σ H,i<n->Pv i σ H->Hu K H S1 i (f1 i))(h2:∀ i σ H,i<n->Pv i σ H->Hu K H S2 i (f2 i))(hst:∀ σ H,Pv n σ H->(AbV K S1 S2).stop n H)
  (hs:∀ i σ H T,i<n->Pv i σ H->H T=none->g (.ref T) σ (upd H T (.tup [f1 i,f2 i])) λσ2 H2=>tb { D with nx:=Pv (i+1),ct:=Pv (i+1),bk:=D.nx } σ2 H2) (hd:∀ σ H,Pv n σ H->D.nx σ H) :
  ∃ W:Nat->Nat->St->Hp->Prop,(∃ m,W 0 m σ H)/\∀ i m σ H,W i m σ H ->
   ((AbV K S1 S2).stop i H/\D.nx σ H)\/((AbV K S1 S2).go i H/\∃ N:St->Hp->Prop,(∀ σ' H',N σ' H'->∃ m',m'<m/\W (i+1) m' σ' H')/\∀ x H',(AbV K S1 S2).yld i H x H'->g x σ H' λσ2 H2=>tb { D with nx:=N,ct:=N,bk:=D.nx } σ2 H2):=by
 refine⟨λi m σ H=>m=n-i/\i<=n/\Pv i σ H,⟨n,by simp,Aqb _,h0⟩,?_⟩
 rintro i m σ H ⟨rfl,hi,p⟩
 by_cases hlt:i<n
 ·refine .inr ⟨⟨⟨_,h1 i σ H hlt p⟩,_,h2 i σ H hlt p⟩,Pv (i+1),λσ' H' p'=>⟨n-(i+1),by omega,rfl,hlt,p'⟩,λx H' y=>?_⟩
  obtain⟨T,rfl,hT,e⟩:=y
  have e:=e _ _ (h1 i σ H hlt p) (h2 i σ H hlt p)
  subst e
  exact hs i σ H T hlt p hT
 ·have e:i=n:=by omega
  subst e
  exact .inl ⟨hst σ H p,hd σ H p⟩
theorem Alb{K:W.Frag}{H:Hp}{u:List Nat}{i:Nat}(h:i<u.length):Hu K H (.s (tx u)) i (.str ⟨#[u.getD i 0]⟩) :=
 ⟨u.getD i 0,by rw[Jf,ApP h];simp[List.getD,h],rfl⟩
theorem AaJ{K:W.Frag}{H:Hp}{a:Addr}{xs:List V}{i:Nat}(q:SqL K H a xs)(h:i<xs.length):Hu K H (.l a) i (xs.getD i .non) :=
 ⟨xs,q,by rw[ApP h];simp[List.getD,h]⟩
end
section
variable {X:Cx}
def AnE (K:W.Frag):V->List V->Hp->VK->Prop:=λx vs H Q=>∃ a ns k,x=.ref a/\vs=[.int k]/\SqL K H a (vI ns)/\Q (.int (ns.count k:Nat)) H
end
def Ite (K:W.Frag)(a:Addr):It where
 go:=λi H=>∃ xs x,SqL K H a xs/\xs[i]?=some x
 yld:=λi H x H'=>∃ T,x=.ref T/\H T=none/\∀ xs u,SqL K H a xs->xs[i]?=some u->H'=upd H T (.tup [.int (i:Int),u])
 stop:=λi H=>∃ xs,SqL K H a xs/\xs.length=i
def ApA (e it a:Addr)(i:Nat)(h:Heap):Prop:=(∃ old,IsEnum h e it i old)/\h.IsListIter it a i
section
variable {X:Cx}{es:List Expr}{kx:Nat}{tp:Pos}
def Apb (K:W.Frag)(ta:TA):TI:=λσ H R=>ta σ H λvs H1=>∃ a,vs=[.ref a]/\(∃ xs,SqL K H1 a xs)/\R (Ite K a) H1
end
inductive Afy (K:W.Frag) (H:Hp):Nat->V->V->Prop where
 | flat {n:Nat} {x:V} (h:Em x=true):Afy K H n x x
 | lst {n:Nat} {p q:Addr} {xs ys:List V} (hp:SqL K H p xs) (hq:SqL K H q ys) (hl:xs.length=ys.length) (hi:∀(i:Nat) (x y:V),xs[i]?=some x->ys[i]?=some y->Afy K H n x y):Afy K H (n+1) (.ref p) (.ref q)
 | tup {n:Nat} {p q:Addr} {xs ys:List V} (hp:SqT K H p xs) (hq:SqT K H q ys) (hl:xs.length=ys.length) (hi:∀(i:Nat) (x y:V),xs[i]?=some x->ys[i]?=some y->Afy K H n x y):Afy K H (n+1) (.ref p) (.ref q)
section
variable {X:Cx}{K:W.Frag}
def AmN (K:W.Frag)(H:Hp)(p q:Addr):Prop:=∃ xs ys:List V,SqL K H p xs/\SqL K H q ys/\xs.length=ys.length/\∀(i:Nat) (x y:V),xs[i]?=some x->ys[i]?=some y->Afy K H 50 x y
def ApB (K:W.Frag):R2:=λx y H Q=>∃ p q,x=.ref p/\y=.ref q/\AmN K H p q/\Q (.bl true) H
def ApC (K:W.Frag):R2:=λx y H Q=>∃ p q,x=.ref p/\y=.ref q/\AmN K H p q/\Q (.bl false) H
end
section
variable {X:Cx}{K:W.Frag}{k:Nat}{f C:Addr}{fd:FuncData}{ps:List Str}{sp:Sp}{dvs:List V}{ds:List Value}{x m:Str}{p pos apos:Pos}{e o:Expr}{es:List Expr}{ta:TE}{t:TA}
def ApD (K:W.Frag):R2:=λx y H Q=>∃ p q xs,x=.ref p/\y=.ref q/\SqL K H p xs/\SqL K H q []/\Q (.bl (!xs.isEmpty)) H
def ApE (K:W.Frag):R2:=λx y H Q=>∃ p q xs,x=.ref p/\y=.ref q/\SqL K H p xs/\SqL K H q []/\Q (.bl xs.isEmpty) H
end
open PySem PySem.Spec PyProof.Rows PySem.Builtin PySem.Builtin.Str
def jn (c:Nat):List (List Nat)->List Nat
 | []=>[]
 | [w]=>w
 | w::v::r=>w++c::jn c (v::r)
theorem Xr(c:Nat):∀{ws:List (List Nat)},ws≠[]->(jn c ws).count c+1=(ws.map (List.count c)).sum+ws.length
 | [],h=>absurd rfl h
 | [w],_=>by simp[jn]
 | w::v::r,_=>by
  have ih:=Xr c (ws:=v::r) (by simp)
  rw[jn,AqX,List.count_cons,ApT,Aqm,ApU]
  simp only [beq_self_eq_true,if_true]
  omega
theorem Adt{c:Nat}:∀{w v a b:List Nat},c∉w->c∉v->w++c::a=v++c::b->w=v/\a=b
 | [],[],a,b,_,_,h=>⟨rfl,(List.cons.inj h).2⟩
 | [],x::v,a,b,_,hv,h=>absurd (by have:=(List.cons.inj h).1;rw[this];exact ApS) hv
 | x::w,[],a,b,hw,_,h=>absurd (by have:=(List.cons.inj h).1;rw[<- this];exact ApS) hw
 | x::w,y::v,a,b,hw,hv,h=>by
  have e:=List.cons.inj h
  have:=Adt (w:=w) (v:=v) (λz=>hw (ApW _ z)) (λz=>hv (ApW _ z)) e.2
  exact⟨by rw[e.1,this.1],this.2⟩
theorem AgC{c:Nat}:∀{ws vs:List (List Nat)},ws≠[]->vs≠[]->(∀ w∈ws,c∉w)->(∀ v∈vs,c∉v)->jn c ws=jn c vs->ws=vs
 | [],_,h,_,_,_,_=>absurd rfl h
 | _,[],_,h,_,_,_=>absurd rfl h
 | [w],[v],_,_,_,_,e=>by rw[show w=v from e]
 | [w],v::v'::r,_,_,hw,_,e=>absurd (show c∈w by rw[show w=v++c::jn c (v'::r) from e];simp) (hw w ApS)
 | w::w'::r,[v],_,_,_,hv,e=>absurd (show c∈v by rw[<- show w++c::jn c (w'::r)=v from e];simp) (hv v ApS)
 | w::w'::r,v::v'::r',_,_,hw,hv,e=>by
  have h:=Adt (hw w ApS) (hv v ApS) (show w++c::jn c (w'::r)=v++c::jn c (v'::r') from e)
  rw[h.1,AgC (ws:=w'::r) (vs:=v'::r') (by simp) (by simp) (λx hx=>hw x (ApW _ hx)) (λx hx=>hv x (ApW _ hx)) h.2]
theorem join_list(c:Nat):∀ l:List Str,(Str.join ⟨#[c]⟩ l).cps.toList=jn c (l.map λz=>z.cps.toList)
 | []=>rfl
 | [x]=>rfl
 | x::y::r=>by
  show(x++⟨#[c]⟩++Str.join ⟨#[c]⟩ (y::r)).cps.toList=x.cps.toList++c::jn c ((y::r).map λz=>z.cps.toList)
  rw[<- join_list c (y::r)]
  show((x.cps++#[c])++(Str.join ⟨#[c]⟩ (y::r)).cps).toList=_
  simp
theorem AgD(z:Str):1<=Builtin.Str.strKind z:=by
 unfold Builtin.Str.strKind
 split
 ·omega
 ·split <;> omega
theorem Alc{c:Nat}(h:c<256):Builtin.Str.strKind ⟨#[c]⟩=1:=by
 unfold Builtin.Str.strKind
 rw[if_pos (by simp;exact h)]
theorem split_len{u:List Nat}{c:Nat}(hc:c<256):(Txt.split (tx u) ⟨#[c]⟩).length=u.count c+1:=by
 have n:=Aft u c
 unfold Txt.split
 split
 ·rename_i h
  have:(tx u).length<1:=by
   rcases Bool.or_eq_true_iff.mp h with h | h
   ·exact of_decide_eq_true h
   ·have:=of_decide_eq_true h
    rw[Alc hc] at this
    have:=AgD (tx u)
    omega
  rw[Ai] at this
  have:u=[]:=z9.mp (by omega)
  rw[this]
  rfl
 ·split
  ·rename_i h
   rw[List.isEmpty_iff] at h
   rw[h] at n
   show 1=_
   rw[<- n]
   rfl
  ·rw[StrLaws.partsBetween_eq] <;> skip
   rw[<- StrLaws.partsBetween_eq,length_partsBetween,n]
theorem Qk:∀{l:List Nat} {a:Nat},a∈l->a<=l.sum
 | [],_,h=>by cases h
 | b::l,a,h=>by
  rw[Aqm]
  rcases yH.mp h with z | z
  ·rw[z];omega
  ·have:=Qk z;omega
theorem AgE{u:List Nat}{c:Nat}(hc:c<256){ws:List (List Nat)}(ne:ws≠[])(hj:jn c ws=u)(no:∀ w∈ws,c∉w):Txt.split (tx u) ⟨#[c]⟩=ws.map tx:=by
 have l:=split_len (u:=u) hc
 have j:=congrArg (λz:Str=>z.cps.toList) (StrLaws.join_split (tx u) ⟨#[c]⟩)
 rw[join_list,Ce] at j
 generalize Txt.split (tx u) ⟨#[c]⟩=ps at l j
 obtain⟨qs,eqs⟩:∃ qs,qs=ps.map λz=>z.cps.toList:=⟨_,rfl⟩
 rw[<- eqs] at j
 have ql:qs.length=ps.length:=by rw[eqs,ApO]
 have qne:qs≠[]:=λz=>by rw[z] at ql;simp at ql;omega
 have cnt:=Xr c qne
 rw[j,ql,l] at cnt
 have s0:(qs.map (List.count c)).sum=0:=by omega
 have qno:∀ w∈qs,c∉w:=λw hw z=>by
  have h1:w.count c<=(qs.map (List.count c)).sum:=Qk (yG.mpr ⟨w,hw,rfl⟩)
  have h2:=List.count_pos_iff.mpr z
  omega
 have e:qs=ws:=AgC qne ne qno no (by rw[j,hj])
 rw[<- e,eqs,AqW]
 exact(List.map_id' ps).symm.trans (Ard λz _=>by rfl)
theorem T4:∀{l:List (Str × Tok)} {ws:List (List Nat)},l.map (·.1)=ws.map tx->Vals (vS ws) (strValues l)
 | [],[],_=>.nil
 | [],w::ws,h=>by cases h
 | p::l,[],h=>by cases h
 | p::l,w::ws,h=>by
  have e:=List.cons.inj h
  exact .cons ⟨p.2,by rw[<- e.1]⟩ (T4 e.2)
def Ald:V->List V->Hp->VK->Prop:=λx vs H Q=>∃(u:List Nat) (c:Nat) (ws:List (List Nat)),x=.str (tx u)/\vs=[.str ⟨#[c]⟩]/\c<256/\u.length+2<=sizeLine/\ws≠[]/\jn c ws=u/\(∀ w∈ws,c∉w)/\∀ l,H l=none->Q (.ref l) (upd H l (.lst (vS ws)))
theorem Ma{X:Cx}:MtR X "str.split" Ald:=by
 intro pins s σ H x vs v us Q I rx rv h
 obtain⟨u,c,ws,rfl,rfl,hc,hz,ne,hj,no,q⟩:=h
 obtain⟨t,rfl⟩:=rx
 obtain⟨u',rfl,ru⟩:=rv.one
 obtain⟨t',rfl⟩:=ru
 have es:=AgE hc ne hj no
 have wl:ws.length<=u.length+1:=by
  have:=Xr c ne
  rw[hj] at this
  have:=List.count_le_length (a:=c) (l:=u)
  omega
 have hlen:(tx u).length+2<=sizeLine:=by rw[Ai];exact hz
 have fin:∀(l:List (Str × Tok)) (tk:Nat),l.map (·.1)=Txt.split (tx u) ⟨#[c]⟩->EP X pins σ Q (.ref s.heap.objs.size) { s with heap:=s.heap.push { cls:=.type "list", data:=.seq (strValues l).toArray },toks:=tk }:=λl tk e =>
  ⟨.ref s.heap.objs.size,_,I.laid (t':=tk) (λb o e=>zB _ e) (ApR _) (show Es X.prog X.w _ _ _ (.lst (vS ws)) from⟨by rw[Ay];omega,_,_,T4 (e.trans es),zD _ rfl⟩),rfl,q _ (I.hok.fresh (ApR _))⟩
 have hy:(((⟨#[c]⟩:Str)).length == 0)=false:=rfl
 have hn:(partsBetween (tx u) (occurrences (tx u) ⟨#[c]⟩ 0 (tx u).length ((tx u).length+1)) ((⟨#[c]⟩:Str)).length).length<=sizeLine:=by
  have e1:=StrLaws.occ_length_le (tx u) ⟨#[c]⟩ 0 (tx u).length ((tx u).length+1)
  rw[length_partsBetween];omega
 cases h1:(decide ((tx u).length<((⟨#[c]⟩:Str)).length) || decide (Builtin.Str.strKind (tx u)<Builtin.Str.strKind ⟨#[c]⟩))
 ·cases hf:(occurrences (tx u) ⟨#[c]⟩ 0 (tx u).length ((tx u).length+1)).isEmpty
  ·refine call_meets zY (typeIs_str _ _ _) F.entry_str_split (F.args_str_split_2 _ _) (meets_str_split_sep (tx u) ⟨#[c]⟩ t t' h1 hy hf (by omega) hn) ?_
   show wants (EP X pins σ Q) _ _ { s with toks:=_,heap:=s.heap.push { cls:=.type "list", data:=.seq (strsFrom s.toks (partsBetween (tx u) (occurrences (tx u) ⟨#[c]⟩ 0 (tx u).length ((tx u).length+1)) ((⟨#[c]⟩:Str)).length)).toArray } }
   rw[strsFrom_eq]
   exact fin (numbered s.toks _) _ ((numbered_texts _ _).trans ((if_neg (ne_true_of_eq_false h1)).trans (if_neg (ne_true_of_eq_false hf))).symm)
  ·exact call_meets zY (typeIs_str _ _ _) F.entry_str_split (F.args_str_split_2 _ _) (meets_str_split_not_found (tx u) ⟨#[c]⟩ t t' h1 hy hf)
    (fin [(tx u,t)] s.toks ((if_neg (ne_true_of_eq_false h1)).trans (if_pos hf)).symm)
 ·exact call_meets zY (typeIs_str _ _ _) F.entry_str_split (F.args_str_split_2 _ _) (meets_str_split_cannot_occur (tx u) ⟨#[c]⟩ t t' h1)
   (fin [(tx u,t)] s.toks (if_pos h1).symm)
def jnS (sp:List Nat):List (List Nat)->List Nat
 | []=>[]
 | [w]=>w
 | w::v::r=>w++(sp++jnS sp (v::r))
structure Sgn (sp:List Nat) (c d:Nat):Prop where
 at':∀ i,sp[i]?=some c↔i=d
 b:∀ z∈sp,z<256
theorem Sgn.lt{sp:List Nat}{c d:Nat}(S:Sgn sp c d):d<sp.length:=(zC.mp ((S.at' d).mpr rfl)).1
theorem Sgn.parts{sp:List Nat}{c d:Nat}(S:Sgn sp c d):∃ a b,sp=a++c::b/\c∉a/\c∉b/\a.length=d:=by
 have h:=S.lt
 refine⟨sp.take d,sp.drop (d+1),?_,λz=>?_,λz=>?_,by rw[Aqf];omega⟩
 ·have e:sp[d]=c:=(zC.mp ((S.at' d).mpr rfl)).2
  have:sp.take d++sp.drop d=sp:=AqK d sp
  rw[AqQ h,e] at this
  exact this.symm
 ·obtain⟨i,hi,e⟩:=Aq9 z
  rw[Aqf] at hi
  have q:(sp.take d)[i]?=some c:=by rw[<- e];exact ApP _
  rw[Aru,if_pos (by omega)] at q
  have:=(S.at' i).mp q
  omega
 ·obtain⟨i,hi,e⟩:=Aq9 z
  have q:(sp.drop (d+1))[i]?=some c:=by rw[<- e];exact ApP _
  rw[AqP] at q
  have:=(S.at' _).mp q
  omega
theorem Jw{sp:List Nat}{c d:Nat}(S:Sgn sp c d):∀{ws:List (List Nat)},ws≠[]->(jnS sp ws).count c+1=(ws.map (List.count c)).sum+ws.length
 | [],h=>absurd rfl h
 | [w],_=>by simp[jnS]
 | w::v::r,_=>by
  have ih:=Jw S (ws:=v::r) (by simp)
  obtain⟨a,b,e,na,nb,_⟩:=S.parts
  have one:sp.count c=1:=by rw[e,AqX,Ar2,List.count_eq_zero.mpr na,List.count_eq_zero.mpr nb]
  rw[jnS,AqX,AqX,one,ApT,Aqm,ApU]
  omega
theorem AiF{sp:List Nat}{c d:Nat}(S:Sgn sp c d){w v a b:List Nat}(hw:c∉w)(hv:c∉v)(h:w++(sp++a)=v++(sp++b)):w=v/\a=b:=by
 obtain⟨p,q,e,np,nq,_⟩:=S.parts
 have h':(w++p)++c::(q++a)=(v++p)++c::(q++b):=by rw[e] at h;simpa using h
 have:=Adt (λz=>(zG.mp z).elim hw np) (λz=>(zG.mp z).elim hv np) h'
 exact⟨List.append_cancel_right this.1,List.append_cancel_left this.2⟩
theorem Sgn.mem{sp:List Nat}{c d:Nat}(S:Sgn sp c d):c∈sp:=ApY ((S.at' d).mpr rfl)
theorem AdY{sp:List Nat}{c d:Nat}(S:Sgn sp c d):∀{ws vs:List (List Nat)},ws≠[]->vs≠[]->(∀ w∈ws,c∉w)->(∀ v∈vs,c∉v)->jnS sp ws=jnS sp vs->ws=vs
 | [],_,h,_,_,_,_=>absurd rfl h
 | _,[],_,h,_,_,_=>absurd rfl h
 | [w],[v],_,_,_,_,e=>by rw[show w=v from e]
 | [w],v::v'::r,_,_,hw,_,e=>absurd (show c∈w by rw[show w=v++(sp++jnS sp (v'::r)) from e];simp[S.mem]) (hw w ApS)
 | w::w'::r,[v],_,_,_,hv,e=>absurd (show c∈v by rw[<- show w++(sp++jnS sp (w'::r))=v from e];simp[S.mem]) (hv v ApS)
 | w::w'::r,v::v'::r',_,_,hw,hv,e=>by
  have h:=AiF S (hw w ApS) (hv v ApS) (show w++(sp++jnS sp (w'::r))=v++(sp++jnS sp (v'::r')) from e)
  rw[h.1,AdY S (ws:=w'::r) (vs:=v'::r') (by simp) (by simp) (λx hx=>hw x (ApW _ hx)) (λx hx=>hv x (ApW _ hx)) h.2]
theorem Xu(sp:List Nat):∀ l:List Str,(Str.join (tx sp) l).cps.toList=jnS sp (l.map λz=>z.cps.toList)
 | []=>rfl
 | [x]=>rfl
 | x::y::r=>by
  show(x++tx sp++Str.join (tx sp) (y::r)).cps.toList=x.cps.toList++(sp++jnS sp ((y::r).map λz=>z.cps.toList))
  rw[<- Xu sp (y::r)]
  show((x.cps++(tx sp).cps)++(Str.join (tx sp) (y::r)).cps).toList=_
  simp[tx]
theorem AdZ{sp:List Nat}{c d:Nat}(S:Sgn sp c d):∀{ws:List (List Nat)},(∀ w∈ws,c∉w)->∀ p,(jnS sp ws)[p]?=some c->d<=p/\∀ i,i<sp.length->(jnS sp ws)[p-d+i]?=sp[i]?
 | [],_,p,h=>by simp[jnS] at h
 | [w],no,p,h=>absurd (ApY h) (no w ApS)
 | w::v::r,no,p,h=>by
  rw[jnS] at h ⊢
  by_cases c1:p<w.length
  ·rw[Aqo c1] at h
   exact absurd (ApY h) (no w ApS)
  ·rw[Aqi (by omega)] at h
   by_cases c2:p-w.length<sp.length
   ·rw[Aqo c2] at h
    have e:=(S.at' _).mp h
    refine⟨by omega,λi hi=>?_⟩
    rw[Aqi (by omega),Aqo (by omega)]
    congr 1
    omega
   ·rw[Aqi (by omega)] at h
    have ih:=AdZ S (ws:=v::r) (λx hx=>no x (ApW _ hx)) _ h
    refine⟨by omega,λi hi=>?_⟩
    rw[Aqi (by omega),Aqi (by omega),<- ih.2 i hi]
    congr 1
    omega
theorem Aea{sp:List Nat}{c d:Nat}(S:Sgn sp c d):∀{ws:List (List Nat)},(∀ w∈ws,c∉w)->∀ p p',(jnS sp ws)[p]?=some c->(jnS sp ws)[p']?=some c->p<p'->p+sp.length<=p'
 | [],_,p,p',h,_,_=>by simp[jnS] at h
 | [w],no,p,p',h,_,_=>absurd (ApY h) (no w ApS)
 | w::v::r,no,p,p',h,h',lt=>by
  rw[jnS] at h h'
  have c1:¬p<w.length:=λc1=>by
   rw[Aqo c1] at h
   exact absurd (ApY h) (no w ApS)
  rw[Aqi (by omega)] at h h'
  have no':∀ x∈v::r,c∉x:=λx hx=>no x (ApW _ hx)
  by_cases c2:p-w.length<sp.length
  ·rw[Aqo c2] at h
   have e:=(S.at' _).mp h
   by_cases c3:p'-w.length<sp.length
   ·rw[Aqo c3] at h'
    have e':=(S.at' _).mp h'
    omega
   ·rw[Aqi (by omega)] at h'
    have:=(AdZ S no' _ h').1
    omega
  ·rw[Aqi (by omega)] at h h'
   have:=Aea S no' _ _ h h' (by omega)
   omega
theorem AgF(u:List Nat)(i n:Nat):((tx u).cps.extract i n).toList=(u.drop i).take (n-i):=by
 show((u.toArray).extract i n).toList=_
 rw[Array.toList_extract,List.extract_eq_drop_take]
theorem Afz{u sp:List Nat}{j:Nat}:Builtin.Str.subAt (tx u) (tx sp) j=true↔(u.drop j).take sp.length=sp:=by
 unfold Builtin.Str.subAt
 rw[beq_iff_eq,<- Array.toList_inj,AgF,Ai,show j+sp.length-j=sp.length by omega,Ce]
theorem Xv{u sp:List Nat}{c d limit:Nat}(M:∀ j,u[j+d]?=some c↔(j+(tx sp).length<=(tx u).length/\Builtin.Str.subAt (tx u) (tx sp) j=true))(G:∀ j j',u[j+d]?=some c->u[j'+d]?=some c->j<j'->j+(tx sp).length<=j'):∀(k i:Nat) (acc:Array Nat) (free:Nat),(∀ j,i<=j->u[j+d]?=some c->free<=j)->acc.size+k<=limit ->
  (forIn (List.range' i k) (acc,free) (StrLaws.occBody (tx u) (tx sp) (tx u).length limit)).run.fst.size=acc.size+((u.drop (i+d)).take k).count c
 | 0,i,acc,free,_,_=>by simp
 | k+1,i,acc,free,hf,hl=>by
  rw[List.range'_succ,AqU]
  by_cases hc:u[i+d]?=some c
  ·have h1:=(M i).mp hc
   have e:StrLaws.occBody (tx u) (tx sp) (tx u).length limit i (acc,free)=pure (ForInStep.yield (acc.push i,i+(tx sp).length)):=by
    unfold StrLaws.occBody
    rw[if_pos ⟨⟨⟨by show acc.size<limit;omega,hf i (ApR _) hc⟩,h1.1⟩,h1.2⟩]
   rw[e]
   have ih:=Xv (limit:=limit) M G k (i+1) (acc.push i) (i+(tx sp).length) (λj hj hj'=>G i j hc hj' (by omega)) (by rw[Array.size_push];omega)
   have hd:u.drop (i+d)=c::u.drop (i+1+d):=by
    obtain⟨hlt,he⟩:=zC.mp hc
    rw[AqQ hlt,he,show i+d+1=i+1+d by omega]
   rw[hd,Aq4,Ar2]
   rw[Array.size_push] at ih
   refine Eq.trans ih ?_
   omega
  ·have h1:¬(i+(tx sp).length<=(tx u).length/\Builtin.Str.subAt (tx u) (tx sp) i=true):=λz=>hc ((M i).mpr z)
   have e:StrLaws.occBody (tx u) (tx sp) (tx u).length limit i (acc,free)=pure (ForInStep.yield (acc,free)):=by
    unfold StrLaws.occBody
    rw[if_neg λz=>h1 ⟨z.1.2,z.2⟩]
   rw[e]
   have ih:=Xv (limit:=limit) M G k (i+1) acc free (λj hj=>hf j (by omega)) (by omega)
   refine Eq.trans ih ?_
   congr 1
   by_cases hlt:i+d<u.length
   ·rw[AqQ hlt,Aq4,List.count_cons_of_ne,show i+d+1=i+1+d by omega]
    intro z
    exact hc (by rw[ApP hlt];exact congrArg some z)
   ·rw[Art (by omega),Art (by omega)]
    simp
theorem Af0{sp:List Nat}{c d:Nat}(S:Sgn sp c d){ws:List (List Nat)}(no:∀ w∈ws,c∉w):(Builtin.Str.occurrences (tx (jnS sp ws)) (tx sp) 0 (tx (jnS sp ws)).length ((tx (jnS sp ws)).length+1)).length=(jnS sp ws).count c:=by
 rw[StrLaws.occ_eq]
 have dl:=S.lt
 have hc:=AdZ S no
 have hg:=Aea S no
 generalize jnS sp ws=u at hc hg ⊢
 have M:∀ j,u[j+d]?=some c↔(j+(tx sp).length<=(tx u).length/\Builtin.Str.subAt (tx u) (tx sp) j=true):=λj=>by
  rw[Afz,Ai,Ai]
  constructor
  ·intro h
   have q:=(hc _ h).2
   rw[show j+d-d=j by omega] at q
   have hl:j+sp.length<=u.length:=by
    have:=q (sp.length-1) (by omega)
    rw[ApP (l:=sp) (show sp.length-1<sp.length by omega)] at this
    have:=(zC.mp this).1
    omega
   refine⟨hl,AqE λi=>?_⟩
   rw[Aru]
   split
   ·rw[AqP,q i (by assumption)]
   ·rw[Aqw (by omega)]
  ·rintro⟨hl,e⟩
   have:((u.drop j).take sp.length)[d]?=sp[d]?:=by rw[e]
   rw[Aru,if_pos dl,AqP,(S.at' d).mpr rfl] at this
   exact this
 have G:∀ j j',u[j+d]?=some c->u[j'+d]?=some c->j<j'->j+(tx sp).length<=j':=λj j' h h' l=>by
  have:=hg _ _ h h' (by omega)
  rw[Ai]
  omega
 have:=Xv (limit:=(tx u).length+1) M G ((tx u).length+1-0) 0 #[] 0 (λ_ _ _=>Aqb _) (by simp)
 rw[zK,this,Ai]
 have t0:(u.take d).count c=0:=List.count_eq_zero.mpr λz=>by
  obtain⟨i,hi,e⟩:=Aq9 z
  rw[Aqf] at hi
  have q:(u.take d)[i]?=some c:=by rw[<- e];exact ApP _
  rw[Aru,if_pos (by omega)] at q
  have:=(hc _ q).1
  omega
 have e:u.count c=(u.take d).count c+(u.drop d).count c:=by rw[<- AqX,AqK]
 rw[e,t0,Aq1 (by rw[Aqx];omega)]
 simp
theorem Ale{sp:List Nat}(h:∀ z∈sp,z<256):Builtin.Str.strKind (tx sp)=1:=by
 unfold Builtin.Str.strKind
 rw[if_pos]
 rw[<- Array.all_toList,Ce,Are]
 exact λz hz=>zN (h z hz)
theorem Adu{sp:List Nat}{c d:Nat}(S:Sgn sp c d){ws:List (List Nat)}(ne:ws≠[])(no:∀ w∈ws,c∉w):(Txt.split (tx (jnS sp ws)) (tx sp)).length=ws.length:=by
 have n:=Af0 S no
 have k:=Jw S ne
 have s0:(ws.map (List.count c)).sum=0:=by
  clear n k ne
  induction ws with
  | nil=>rfl
  | cons w r ih=>rw[ApT,Aqm,List.count_eq_zero.mpr (no w ApS),ih λx hx=>no x (ApW _ hx)]
 unfold Txt.split
 split
 ·rename_i h
  have lt:(tx (jnS sp ws)).length<(tx sp).length:=by
   rcases Bool.or_eq_true_iff.mp h with h | h
   ·exact of_decide_eq_true h
   ·have:=of_decide_eq_true h
    rw[Ale S.b] at this
    have:=AgD (tx (jnS sp ws))
    omega
  rw[Ai,Ai] at lt
  have:(jnS sp ws).count c=0:=List.count_eq_zero.mpr λz=>by
   obtain⟨i,hi,e⟩:=Aq9 z
   have q:=(AdZ S no i (by rw[<- e];exact ApP _)).2 (sp.length-1) (by have:=S.lt;omega)
   rw[ApP (l:=sp) (show sp.length-1<sp.length by have:=S.lt;omega)] at q
   have:=(zC.mp q).1
   omega
  show 1=_
  omega
 ·split
  ·rename_i h
   rw[List.isEmpty_iff] at h
   rw[h] at n
   show 1=_
   simp at n
   omega
  ·rw[length_partsBetween,n]
   omega
theorem Af1{sp:List Nat}{c d:Nat}(S:Sgn sp c d){ws:List (List Nat)}(ne:ws≠[])(no:∀ w∈ws,c∉w):Txt.split (tx (jnS sp ws)) (tx sp)=ws.map tx:=by
 have l:=Adu S ne no
 have j:=congrArg (λz:Str=>z.cps.toList) (StrLaws.join_split (tx (jnS sp ws)) (tx sp))
 rw[Xu,Ce] at j
 generalize Txt.split (tx (jnS sp ws)) (tx sp)=ps at l j
 obtain⟨qs,eqs⟩:∃ qs,qs=ps.map λz=>z.cps.toList:=⟨_,rfl⟩
 rw[<- eqs] at j
 have ql:qs.length=ps.length:=by rw[eqs,ApO]
 have wl:0<ws.length:=zZ.mpr ne
 have qne:qs≠[]:=λz=>by rw[z] at ql;simp at ql;omega
 have cnt:=Jw S qne
 have Ao3:=Jw S ne
 have s0:(ws.map (List.count c)).sum=0:=by
  clear Ao3 cnt l j ql wl ne
  induction ws with
  | nil=>rfl
  | cons w r ih=>rw[ApT,Aqm,List.count_eq_zero.mpr (no w ApS),ih λx hx=>no x (ApW _ hx)]
 rw[j,ql,l] at cnt
 have s1:(qs.map (List.count c)).sum=0:=by omega
 have qno:∀ w∈qs,c∉w:=λw hw z=>by
  have h1:w.count c<=(qs.map (List.count c)).sum:=Qk (yG.mpr ⟨w,hw,rfl⟩)
  have h2:=List.count_pos_iff.mpr z
  omega
 have e:qs=ws:=AdY S qne ne qno no j
 rw[<- e,eqs,AqW]
 exact(List.map_id' ps).symm.trans (Ard λz _=>by rfl)
def AiG:V->List V->Hp->VK->Prop:=λx vs H Q=>∃(sp:List Nat) (c d:Nat) (ws:List (List Nat)),x=.str (tx (jnS sp ws))/\vs=[.str (tx sp)]/\Sgn sp c d/\(jnS sp ws).length+2<=sizeLine/\ws≠[]/\(∀ w∈ws,c∉w)/\∀ l,H l=none->Q (.ref l) (upd H l (.lst (vS ws)))
theorem N8{X:Cx}:MtR X "str.split" AiG:=by
 intro pins s σ H x vs v us Q I rx rv h
 obtain⟨sp,c,d,ws,rfl,rfl,hc,hz,ne,no,q⟩:=h
 obtain⟨t,rfl⟩:=rx
 obtain⟨u',rfl,ru⟩:=rv.one
 obtain⟨t',rfl⟩:=ru
 have es:=Af1 hc ne no
 have wl:ws.length<=(jnS sp ws).length+1:=by
  have:=Jw hc ne
  have:=List.count_le_length (a:=c) (l:=jnS sp ws)
  omega
 generalize jnS sp ws=u at es hz wl ⊢
 have hlen:(tx u).length+2<=sizeLine:=by rw[Ai];exact hz
 have fin:∀(l:List (Str × Tok)) (tk:Nat),l.map (·.1)=Txt.split (tx u) (tx sp)->EP X pins σ Q (.ref s.heap.objs.size) { s with heap:=s.heap.push { cls:=.type "list", data:=.seq (strValues l).toArray },toks:=tk }:=λl tk e =>
  ⟨.ref s.heap.objs.size,_,I.laid (t':=tk) (λb o e=>zB _ e) (ApR _) (show Es X.prog X.w _ _ _ (.lst (vS ws)) from⟨by rw[Ay];omega,_,_,T4 (e.trans es),zD _ rfl⟩),rfl,q _ (I.hok.fresh (ApR _))⟩
 have hy:((tx sp).length == 0)=false:=by rw[Ai];have:=hc.lt;rw[z5];omega
 have hn:(partsBetween (tx u) (occurrences (tx u) (tx sp) 0 (tx u).length ((tx u).length+1)) ((tx sp)).length).length<=sizeLine:=by
  have e1:=StrLaws.occ_length_le (tx u) (tx sp) 0 (tx u).length ((tx u).length+1)
  rw[length_partsBetween];omega
 cases h1:(decide ((tx u).length<((tx sp)).length) || decide (Builtin.Str.strKind (tx u)<Builtin.Str.strKind (tx sp)))
 ·cases hf:(occurrences (tx u) (tx sp) 0 (tx u).length ((tx u).length+1)).isEmpty
  ·refine call_meets zY (typeIs_str _ _ _) F.entry_str_split (F.args_str_split_2 _ _) (meets_str_split_sep (tx u) (tx sp) t t' h1 hy hf (by omega) hn) ?_
   show wants (EP X pins σ Q) _ _ { s with toks:=_,heap:=s.heap.push { cls:=.type "list", data:=.seq (strsFrom s.toks (partsBetween (tx u) (occurrences (tx u) (tx sp) 0 (tx u).length ((tx u).length+1)) ((tx sp)).length)).toArray } }
   rw[strsFrom_eq]
   exact fin (numbered s.toks _) _ ((numbered_texts _ _).trans ((if_neg (ne_true_of_eq_false h1)).trans (if_neg (ne_true_of_eq_false hf))).symm)
  ·exact call_meets zY (typeIs_str _ _ _) F.entry_str_split (F.args_str_split_2 _ _) (meets_str_split_not_found (tx u) (tx sp) t t' h1 hy hf)
    (fin [(tx u,t)] s.toks ((if_neg (ne_true_of_eq_false h1)).trans (if_pos hf)).symm)
 ·exact call_meets zY (typeIs_str _ _ _) F.entry_str_split (F.args_str_split_2 _ _) (meets_str_split_cannot_occur (tx u) (tx sp) t t' h1)
   (fin [(tx u,t)] s.toks (if_pos h1).symm)
theorem ZK:Sgn [32,47,32] 47 1:=by
 refine⟨λi=>?_,by decide⟩
 match i with
 | 0=>simp
 | 1=>simp
 | 2=>simp
 | _+3=>simp
theorem Aca:Sgn [44,32] 44 0:=by
 refine⟨λi=>?_,by decide⟩
 match i with
 | 0=>simp
 | 1=>simp
 | _+2=>simp
section
variable {X:Cx}{K:W.Frag}
def Ao4 (K:W.Frag)(tl:TE):TE:=λσ H Q=>tl σ H λx H1=>∃ a ns,x=.ref a/\SqL K H1 a (vI ns)/\ns.length<64/\∀ l ns',ns'.Perm ns->ns'.Pairwise (· ≥ ·)->H1 l=none->Q (.ref l) (upd H1 l (.lst (vI ns')))
theorem Af2(hK:X.K=K:=by rfl)(hc:X.calm=true:=by rfl):Et X (.builtin "max") (λxs H Q=>∃ a ns,xs=[.ref a]/\SqL K H a (vI ns)/\0<ns.length/\∀ M:Int,M∈ns->(∀ z∈ns,z<=M)->Q (.int M) H):=by
 subst hK
 intro pins s σ H xs us Q I rv h
 obtain⟨a,ns,rfl,hq,h0,q⟩:=h
 obtain⟨u,rfl,ru⟩:=rv.one
 cases ru
 obtain⟨its,r,pl,hl⟩:=I.list hq
 have hi:IntsAre its ns:=intsAre_of r
 obtain⟨xs,hx⟩:=hi.allInts.items
 have hns:ns=xs.toList.map (·.1):=by rw[<- hi.numsOf,<- nums_intItems,<- hx]
 have hsz:0<xs.size:=by rw[hns,ApO,zK] at h0;exact h0
 have hL:s.heap.IsList a (intItems xs):=by rw[<- hx];exact pl.isList
 refine max_intList (I.ok.hd hc) hL hsz λv h' tk hv hk=>?_
 obtain⟨t,rfl⟩:=intItems_at hv
 obtain⟨h1,h2⟩:=argBest_gt (numAt xs) (xs.size-1)
 refine⟨.int _,H,I.kept hk,⟨t,rfl⟩,q _ ?_ λz hz=>?_⟩
 ·rw[hns,numAt_eq];exact getD_mem (by rw[ApO,zK];omega)
 ·rw[hns] at hz
  obtain⟨j,hj,rfl⟩:=mem_getD hz
  rw[ApO,zK] at hj
  rw[<- numAt_eq];exact h2 j (by omega)
end
namespace SetW
theorem Xw:Slot "set_iterator" "__next__" "set_iterator.__next__" := .of (owner := "set_iterator") (n := "__next__") (by rw[typeLookup_type,builtinLookup_eq_fast];kernel_rfl) (by decide +kernel) (by decide +kernel) (by decide +kernel) (by first | exact .inl (by decide +kernel) | exact .inr (by decide +kernel)) (by rw[isSubtype_type];kernel_rfl)
theorem AjO:Slot "set_iterator" "__iter__" "set_iterator.__iter__" := .of (owner := "set_iterator") (n := "__iter__") (by rw[typeLookup_type,builtinLookup_eq_fast];kernel_rfl) (by decide +kernel) (by decide +kernel) (by decide +kernel) (by first | exact .inl (by decide +kernel) | exact .inr (by decide +kernel)) (by rw[isSubtype_type];kernel_rfl)
theorem AjP:entryFor table "set_iterator.__next__" = some Builtin.«set_iterator.__next__»:=entryFor_of_fast (by kernel_rfl)
theorem AmO:entryFor table "set_iterator.__iter__" = some Builtin.«dict_keyiterator.__iter__»:=entryFor_alias (id' := "dict_keyiterator.__iter__") (by kernel_rfl) rfl (by decide +kernel) (by kernel_rfl)
theorem AmP:entryFor table "set.__iter__" = some Builtin.«frozenset.__iter__»:=entryFor_alias (id' := "frozenset.__iter__") (by kernel_rfl) rfl (by decide +kernel) (by kernel_rfl)
theorem AjQ(a:Value):argsOk "set_iterator.__next__" ⟨[a],[]⟩:=by unfold argsOk;kernel_rfl
theorem AmQ(a:Value):argsOk "set_iterator.__iter__" ⟨[a],[]⟩:=by unfold argsOk;kernel_rfl
theorem Alf:typeLookup (.type "set") "__len__" = pure (some (.builtin "set.__len__")):=by rw[typeLookup_type,builtinLookup_eq_fast];kernel_rfl
end SetW
namespace SetW
theorem Aeb{α:Type}(next:Nat->Nat):∀(fuel k:Nat) (left:List α) (out:Array α),left.length<=fuel->(pickOrder.go next fuel k left out).toList.Perm (out.toList++left)
 | 0,k,left,out,h=>by
  have:left=[]:=z9.mp (by omega)
  subst this
  simp[pickOrder.go]
 | fuel+1,k,left,out,h=>by
  unfold pickOrder.go
  by_cases e:left=[]
  ·subst e
   simp
  ·have l0:0<left.length:=zZ.mpr e
   have l1:next k%left.length<left.length:=Nat.mod_lt _ l0
   rw[ApP l1]
   dsimp only
   refine(Aeb next fuel (k+1) _ _ (by rw[List.length_eraseIdx,if_pos l1];omega)).trans ?_
   rw[Array.toList_push,Aqz]
   refine List.Perm.append_left _ ?_
   rw[ArA]
   have e2:left=left.take (next k%left.length)++left[next k%left.length]::left.drop (next k%left.length+1):=by
    rw[List.getElem_cons_drop,AqK]
   exact(List.perm_middle (a:=left[next k%left.length]) (l₁:=left.take (next k%left.length)) (l₂:=left.drop (next k%left.length+1))).symm.trans (.of_eq e2.symm)
theorem Af3{α:Type}(next:Nat->Nat)(xs:Array α):(pickOrder next xs).toList.Perm xs.toList:=by
 have:=Aeb next xs.size 0 xs.toList #[] (by simp)
 simpa [pickOrder] using this
def T5 (xs:Array Nat):Prop:=∀ i k,i<k->k<xs.size->xs.getD i 0<xs.getD k 0
theorem Xx(xs:Array Nat)(j:Nat)(hR:T5 xs):∀(fuel lo hi:Nat),lo<=hi->hi<=xs.size->hi-lo<=fuel->(∀ i,i<lo->xs.getD i 0<j)->(∀ i,hi<=i->i<xs.size->j<=xs.getD i 0) ->
  SetTable.below.go xs j fuel lo hi<=xs.size/\(∀ i,i<SetTable.below.go xs j fuel lo hi->xs.getD i 0<j)/\(∀ i,SetTable.below.go xs j fuel lo hi<=i->i<xs.size->j<=xs.getD i 0)
 | 0,lo,hi,h1,h2,h3,h4,h5=>by
  have:lo=hi:=by omega
  subst this
  unfold SetTable.below.go
  exact⟨h2,h4,h5⟩
 | fuel+1,lo,hi,h1,h2,h3,h4,h5=>by
  unfold SetTable.below.go
  by_cases c:lo<hi
  ·rw[if_pos c]
   have hm:(lo+hi) / 2<xs.size:=by omega
   have e:xs.getD ((lo+hi) / 2) j=xs.getD ((lo+hi) / 2) 0:=by simp[Array.getD,hm]
   dsimp only
   by_cases c2:xs.getD ((lo+hi) / 2) j<j
   ·rw[if_pos c2]
    refine Xx xs j hR fuel _ hi (by omega) h2 (by omega) (λi hi'=>?_) h5
    rw[e] at c2
    by_cases c3:i=(lo+hi) / 2
    ·rw[c3];exact c2
    ·have:=hR i ((lo+hi) / 2) (by omega) hm
     omega
   ·rw[if_neg c2]
    refine Xx xs j hR fuel lo _ (by omega) (by omega) (by omega) h4 (λi hi' hs=>?_)
    rw[e] at c2
    by_cases c3:i=(lo+hi) / 2
    ·rw[c3];omega
    ·have:=hR ((lo+hi) / 2) i (by omega) hs
     omega
  ·rw[if_neg c]
   have:lo=hi:=by omega
   subst this
   exact⟨h2,h4,h5⟩
theorem Xy{xs:Array Nat}(hR:T5 xs)(j:Nat):SetTable.below xs j<=xs.size/\(∀ i,i<SetTable.below xs j->xs.getD i 0<j)/\(∀ i,SetTable.below xs j<=i->i<xs.size->j<=xs.getD i 0) :=
 Xx xs j hR xs.size 0 xs.size (Aqb _) (ApR _) (by omega) (λi h=>by omega) (λi h1 h2=>by omega)
theorem Adv{xs:Array Nat}(hR:T5 xs):SetTable.below xs 0=0:=by
 obtain⟨h1,h2,h3⟩:=Xy hR 0
 by_cases c:SetTable.below xs 0=0
 ·exact c
 ·have:=h2 0 (by omega);omega
theorem Adw{xs:Array Nat}(hR:T5 xs){i:Nat}(hi:i<xs.size):SetTable.below xs (xs.getD i 0+1)=i+1:=by
 obtain⟨h1,h2,h3⟩:=Xy hR (xs.getD i 0+1)
 rcases Nat.lt_trichotomy (SetTable.below xs (xs.getD i 0+1)) (i+1) with c | c | c
 ·have:=h3 i (by omega) hi;omega
 ·exact c
 ·have a:=h2 (i+1) c
  have:=hR i (i+1) (by omega) (by omega)
  omega
structure Wk (w:World) (o:Obj) (es:Array (Int × Value)) (ep:Nat) (t:SetTable):Prop where
 ex:o.ExactSet
 d:o.data=.set es ep t
 f:t.fits es.size=true
 ok:w.params.followText "set-order" = true\/es.size=0\/(t.led=true/\(t.plain=true->T5 t.place))
theorem Wk.rise{w:World}{o:Obj}{es:Array (Int × Value)}{ep:Nat}{t:SetTable}(W:Wk w o es ep t)(hb:w.params.followText "set-order" = false) (hp:t.plain=true\/es.size<=1):T5 t.place:=by
 have hf:t.place.size=es.size:=by
  have:=W.f
  unfold SetTable.fits at this
  simp at this
  exact this.1
 rcases W.ok with e | e | ⟨_,e⟩
 ·rw[hb] at e;cases e
 ·intro i k h1 h2;omega
 ·rcases hp with hp | hp
  ·exact e hp
  ·intro i k h1 h2;omega
def Md (w:World)(a:Addr)(es:Array (Int × Value))(ep:Nat)(t:SetTable)(h:Heap)(T:Addr)(xl:List (Int × Value))(i:Nat)(f:Value):Prop :=
 (∃ slot:Nat,f=.int slot 0/\((w.params.followText "set-order" = true/\xl=(pickOrder (w.params.setOrder a ep) es).toList)\/(w.params.followText "set-order" = false/\(t.plain=true\/es.size<=1)/\xl=es.toList/\SetTable.below t.place slot=i))) \/
 (∃ pm:List Nat,f=.ref T/\h.get? T=some (seqObj "tuple" (pm.map λk:Nat=>rawInt (k:Int)).toArray 0)/\pm.Perm (List.range es.size)/\xl=pm.map λk=>es.toList.getD k (0,.none))
theorem Md.perm{w:World}{a T:Addr}{es:Array (Int × Value)}{ep i:Nat}{t:SetTable}{h:Heap}{xl:List (Int × Value)}{f:Value}(m:Md w a es ep t h T xl i f):xl.Perm es.toList:=by
 rcases m with ⟨_,_,⟨_,e⟩ | ⟨_,_,e,_⟩⟩ | ⟨pm,_,_,hp,e⟩
 ·rw[e];exact Af3 _ _
 ·rw[e]
 ·rw[e]
  refine(hp.map _).trans (.of_eq ?_)
  refine AqE λk=>?_
  rw[ApX]
  by_cases c:k<es.size
  ·rw[AqJ c]
   simp[List.getD,c]
  ·rw[Aqw (by simp;omega),Aqw (by simp;omega)]
   rfl
theorem Md.len{w:World}{a T:Addr}{es:Array (Int × Value)}{ep i:Nat}{t:SetTable}{h:Heap}{xl:List (Int × Value)}{f:Value}(m:Md w a es ep t h T xl i f):xl.length=es.size:=by
 rw[m.perm.length_eq,zK]
def StI (w:World)(I a T:Addr)(o:Obj)(es:Array (Int × Value))(ep:Nat)(t:SetTable)(xl:List (Int × Value))(i:Nat)(h:Heap):Prop :=
 ∃ f oi,h.get? I=some oi/\oi.cls=.type "set_iterator" /\ oi.data=.fields #[f,.int i 0,.ref a,.int es.size 0,.int ep 0]/\Md w a es ep t h T xl i f/\h.get? a=some o
section
variable {prog:Program}{w:World}{A:Around}{E:Value->Shared->Prop}{s:Shared}{a T:Addr}{o:Obj}{es:Array (Int × Value)}{ep:Nat}{t:SetTable}{xl:List (Int × Value)}
theorem StI.typeIs{I:Addr}{i:Nat}(x:StI w I a T o es ep t xl i s.heap):s.TypeIs (.ref I) "set_iterator" := let ⟨_,oi,ho,hc,_⟩:=x;⟨oi,ho,hc⟩
theorem typ(W:Wk w o es ep t)(ho:s.heap.get? a=some o):s.TypeIs (.ref a) "set" := ⟨o,ho,W.ex.1⟩
theorem T6{Q:Bool->Shared->Prop}(h:Q (w.params.followText "set-order") s):wpAny (model prog w) A setsByText Q E s:=by
 unfold setsByText
 exact zA (wpAny_askSetting (zE h))
theorem AgG(W:Wk w o es ep t)(ho:s.heap.get? a=some o){Q:Bool->Shared->Prop}(h:Q (!w.params.followText "set-order" && (!t.plain && decide (es.size>1))) s):wpAny (model prog w) A (setDrawn a) Q E s:=by
 unfold setDrawn
 exact zA (wpAny_setState_of ho W.d W.f (zA (T6 (zE h))))
theorem Acb(W:Wk w o es ep t)(ho:s.heap.get? a=some o){Q:Nat->Shared->Prop}(h:Q ep s):wpAny (model prog w) A (setEpoch a) Q E s:=by
 unfold setEpoch
 exact zA (wpAny_setState_of ho W.d W.f (zE h))
theorem AaK(W:Wk w o es ep t)(ho:s.heap.get? a=some o){Q:Array (Int × Value)->Shared->Prop}(h:Q es s):wpAny (model prog w) A (setEntries a) Q E s:=by
 unfold setEntries
 exact zA (wpAny_setState_of ho W.d W.f (zE h))
theorem Af4{M:Model}{n:Nat}(hn:0<n){Q:Nat->Shared->Prop}(h:∀ i d,i<n->Q i { s with drawn:=d }):wpAny M A (choose .order n) Q E s:=λΓ p _=>by
 show Sem.wp M Γ (.choose .order n .pure) _ _ p s
 rw[Sem.wp_choose]
 exact⟨by omega,h _ _ (Nat.mod_lt _ hn)⟩
theorem Acd{α:Type}{M:Model}:∀(n:Nat) (l:List α) {s:Shared} {Q:List α->Shared->Prop},l.length<=n->(∀ l' d,l'.Perm l->Q l' { s with drawn:=d })->wpAny M A (drawOrder n l) Q E s
 | 0,l,s,Q,hl,h=>by
  have:l=[]:=z9.mp (by omega)
  subst this
  unfold drawOrder
  exact zE (h [] s.drawn (.refl _))
 | n+1,[],s,Q,hl,h=>by
  unfold drawOrder
  exact zE (h [] s.drawn (.refl _))
 | n+1,x::l,s,Q,hl,h=>by
  unfold drawOrder
  refine zA (Af4 (by simp) λi d hi=>?_)
  rw[ApP hi]
  dsimp only
  refine zA (Acd n ((x::l).eraseIdx i) (by rw[List.length_eraseIdx,if_pos hi];omega) λl' d' hp=>zE (h _ d' ?_))
  refine(hp.cons _).trans ?_
  rw[ArA]
  have e2:(x::l)=(x::l).take i++(x::l)[i]::(x::l).drop (i+1):=by rw[List.getElem_cons_drop,AqK]
  exact(List.perm_middle (a:=(x::l)[i]) (l₁:=(x::l).take i) (l₂:=(x::l).drop (i+1))).symm.trans (.of_eq e2.symm)
theorem Alh(W:Wk w o es ep t)(ho:s.heap.get? a=some o)(hz:es.size<=sizeLine){Q:Value->Shared->Prop}
  (hQ:∀(h':Heap) d I T xl,I≠a->T≠I->s.heap.objs.size<=I->(T=a\/s.heap.objs.size<=T)->(∀ b o,s.heap.get? b=some o->h'.get? b=some o)->StI w I a T o es ep t xl 0 h'->Q (.ref I) { s with heap:=h',drawn:=d }):wpAny (model prog w) A (pyIter (.ref a)) Q E s:=by
 have hT:=typ W ho
 have ha:a<s.heap.objs.size:=Heap.lt_size ho
 refine wpAny_pyIter_slot hT F.slot_set_iter (wpAny_call_entry F.slot_set_iter hT AmP ?_ (F.args_set_iter_1 _))
 unfold Builtin.«frozenset.__iter__»
 refine zA (m:=Builtin.Frozenset.slot0 "__iter__" ⟨[.ref a],[]⟩) (wpAny_of_eq (a:=a) rfl ?_)
 refine zA (zA (AaK W ho (zE ?_)))
 refine zA (AgG W ho ?_)
 dsimp only
 by_cases c:(!w.params.followText "set-order" && (!t.plain && decide (es.size>1)))=true
 ·rw[if_pos c]
  refine zA (Acd es.size (List.range es.size) (by simp) λpm d hp=>?_)
  have hl:pm.length=es.size:=by rw[hp.length_eq,Aql]
  unfold newTuple
  refine zA (yJ ?_ (by show(List.map _ pm).toArray.size<=_+1;rw[Aqh,ApO,hl];have:=yA;omega))
  have k1:∀ b ob,s.heap.get? b=some ob->(s.heap.push { cls:=.type "tuple", data:=.seq (pm.map λk:Nat=>rawInt (k:Int)).toArray }).get? b=some ob:=λb ob e=>zB _ e
  refine zA (Acb W (k1 _ _ ho) (zA (yJ (zE ⟨_,rfl, "set_iterator", _,⟨_,zD _ rfl,rfl⟩,Xw.lookup,?_⟩))))
  refine hQ _ d _ s.heap.objs.size (pm.map λk=>es.toList.getD k (0,.none)) ?_ ?_ ?_ (.inr (ApR _)) (λb ob e=>zB _ (k1 _ _ e)) ?_
  ·show(s.heap.push _).objs.size≠a
   rw[Heap.size_push];exact Aq2 (AqV ha)
  ·show s.heap.objs.size≠(s.heap.push _).objs.size
   rw[Heap.size_push];exact ApZ (Aq8 _)
  ·show s.heap.objs.size<=(s.heap.push _).objs.size
   rw[Heap.size_push];exact AqI _
  ·exact⟨.ref s.heap.objs.size,_,zD _ rfl,rfl,rfl,.inr ⟨pm,rfl,zB _ (zD _ rfl),hp,rfl⟩,zB _ (k1 _ _ ho)⟩
 ·rw[if_neg c]
  refine zA (zE (zA (Acb W ho (zA (yJ (zE ⟨_,rfl, "set_iterator", _,⟨_,zD _ rfl,rfl⟩,Xw.lookup,?_⟩))))))
  have k:∀ b ob,s.heap.get? b=some ob->(s.heap.push { cls:=.type "set_iterator", data:=.fields [rawInt 0,rawInt 0,.ref a,rawInt es.size,rawInt ep].toArray }).get? b=some ob:=λb ob e=>zB _ e
  refine hQ _ s.drawn s.heap.objs.size a (if w.params.followText "set-order" = true then (pickOrder (w.params.setOrder a ep) es).toList else es.toList) (Aq2 ha) (ApZ ha) (ApR _) (.inl rfl) k ?_
  refine⟨rawInt 0,_,zD _ rfl,rfl,rfl,.inl ⟨0,rfl,?_⟩,k _ _ ho⟩
  by_cases hb:w.params.followText "set-order" = true
  ·exact .inl ⟨hb,by rw[if_pos hb]⟩
  ·have hb':w.params.followText "set-order" = false:=by simpa using hb
   rw[hb'] at c
   have hpl:t.plain=true\/es.size<=1:=by
    by_cases z:t.plain=true
    ·exact .inl z
    ·have z':t.plain=false:=by simpa using z
     rw[z'] at c
     simp at c
     exact .inr c
   exact .inr ⟨hb',hpl,by rw[if_neg hb],Adv (W.rise hb' hpl)⟩
theorem Aec(W:Wk w o es ep t)(ho:s.heap.get? a=some o){slot i:Nat}
  (hm:(w.params.followText "set-order" = true/\xl=(pickOrder (w.params.setOrder a ep) es).toList)\/(w.params.followText "set-order" = false/\(t.plain=true\/es.size<=1)/\xl=es.toList/\SetTable.below t.place slot=i)) {Q:Option (Value × Nat)->Shared->Prop}
  (h:∀ next,(i<es.size->(w.params.followText "set-order" = true/\xl=(pickOrder (w.params.setOrder a ep) es).toList)\/(w.params.followText "set-order" = false/\(t.plain=true\/es.size<=1)/\xl=es.toList/\SetTable.below t.place next=i+1)) ->
   Q ((xl[i]?).map λe=>(e.2,next)) s):wpAny (model prog w) A (setNext a slot i ep) Q E s:=by
 unfold setNext
 refine zA (wpAny_setState_of ho W.d W.f (zA (T6 ?_)))
 dsimp only
 rcases hm with ⟨hb,hx⟩ | ⟨hb,hp,hx,hs⟩
 ·rw[hb,if_pos rfl,if_neg (by simp)]
  unfold setWalk
  refine zA (zA (wpAny_setState_of ho W.d W.f (zA (T6 ?_))))
  rw[hb,if_pos rfl]
  refine zA (wpAny_askSetting (zE (zE ?_)))
  have:=h slot λ_=>.inl ⟨hb,hx⟩
  rw[hx,zO] at this
  exact this
 ·rw[hb,if_neg (by decide)]
  have hR:=W.rise hb hp
  have hf:t.place.size=es.size:=by
   have:=W.f
   unfold SetTable.fits at this
   simp at this
   exact this.1
  have nd:(!t.plain && decide (es.size>1))=false:=by
   rcases hp with e | e
   ·rw[e];simp
   ·rw[zJ (by omega)];simp
  have nl:(!t.led && !es.isEmpty)=false:=by
   rcases W.ok with e | e | ⟨e,_⟩
   ·rw[hb] at e;cases e
   ·simp[Array.isEmpty,e]
   ·rw[e];simp
  split
  ·rename_i hd
   have hd':(!t.plain && decide (es.size>1))=true:=hd
   rw[nd] at hd'
   cases hd'
  ·refine zA ?_
   show wpAny _ _ (if (!t.led && !es.isEmpty)=true then unsupported "set:maker-not-led" else pure ()) _ _ _
   rw[nl,if_neg (by decide)]
   refine zE (zE ?_)
   rw[hs]
   by_cases hi:i<es.size
   ·have:=h (t.place[i]'(by omega)+1) λ_=>.inr ⟨hb,hp,hx,by
     have:=Adw hR (i:=i) (by omega)
     rwa [show t.place.getD i 0=t.place[i]'(by omega) by simp[Array.getD,show i<t.place.size by omega]] at this⟩
    rw[hx,zO,zP hi] at this
    rw[zP hi,zP (show i<t.place.size by omega)]
    exact this
   ·have:=h 0 λz=>absurd z hi
    rw[hx,zO,Array.getElem?_eq_none (by omega)] at this
    rw[Array.getElem?_eq_none (by omega)]
    exact this
theorem AiH(W:Wk w o es ep t){I:Addr}{i:Nat}{x:Int × Value}{Q:Option Value->Shared->Prop}(hne:a≠I)(hnT:T≠I)(st:StI w I a T o es ep t xl i s.heap)(hx:xl[i]?=some x)
  (hQ:∀ h',StI w I a T o es ep t xl (i+1) h'->(∀ b o,b≠I->s.heap.get? b=some o->h'.get? b=some o)->Q (some x.2) { s with heap:=h' }):wpAny (model prog w) A (pyNext (.ref I)) Q E s:=by
 have hT:=st.typeIs
 obtain⟨f,oi,hoi,hci,hdi,hm,ho⟩:=st
 have hi:i<es.size:=by rw[<- hm.len];exact(zC.mp hx).1
 unfold pyNext
 refine zA (wpAny_attempt (wpAny_callSpecial?_slot (name:=Str.ofString "__next__") hT Xw (wpAny_call_entry Xw hT AjP ?_ (AjQ _))))
 unfold Builtin.«set_iterator.__next__»
 refine zA (m:=slotArgs "__next__" 0 ⟨[.ref I],[]⟩) (wpAny_of_eq (a:=(Value.ref I,[])) rfl ?_)
 refine zA (wpAny_fieldsOf hoi hdi ?_)
 dsimp only
 refine zA (AaK W ho ?_)
 rw[if_neg (by simp)]
 rcases hm with ⟨slot,rfl,hm⟩ | ⟨pm,rfl,hT2,hp,hxl⟩
 ·simp only [Aqc]
  refine zA (Aec W ho hm λnext hn=>?_)
  rw[hx]
  dsimp only [Option.map]
  refine zA (yC hoi hdi (by simp) ?_)
  have ho1:=zR (Obj.mapFields (·.setIfInBounds 0 (rawInt (next:Int)))) hoi (Obj.isFreed_of_fields (zX hdi _))
  have hd1:=zX hdi (·.setIfInBounds 0 (rawInt (next:Int)))
  refine zA (yC ho1 hd1 (by simp) (zE ⟨_,rfl,zE (hQ _ ⟨.int next 0,_,zR _ ho1 (Obj.isFreed_of_fields (zX hd1 _)),?_,?_,.inl ⟨next,rfl,hn hi⟩,?_⟩ λb o' hb e=>?_)⟩))
  ·exact(Obj.cls_mapFields ..).trans ((Obj.cls_mapFields ..).trans hci)
  ·rw[zX hd1];simp[rawInt]
  ·exact(zH _ _ (Ne.symm hne)).trans ((zH _ _ (Ne.symm hne)).trans ho)
  ·exact(zH _ _ (Ne.symm hb)).trans ((zH _ _ (Ne.symm hb)).trans e)
 ·have hpi:i<pm.length:=by rw[hp.length_eq,Aql];exact hi
  have hk:pm[i]<es.size:=by
   have:=hp.mem_iff.mp (Aqq hpi)
   simpa using this
  have e1:es[pm[i]]?=some x:=by
   rw[hxl,ApX,ApP hpi] at hx
   have:=Option.some.inj hx
   rw[zP hk]
   simp[List.getD,hk] at this
   rw[this]
  simp only [Aqc]
  refine zA (wpAny_seqItems hT2 rfl ?_)
  dsimp only
  rw[show((pm.map λk:Nat=>rawInt (k:Int)).toArray)[i]?=some (.int (pm[i]:Int) 0) by simp[hpi,rawInt]]
  dsimp only
  unfold setNextDrawn
  refine zA (zA (wpAny_setState_of ho W.d W.f ?_))
  dsimp only
  rw[if_neg (by simp)]
  simp only [Aqc]
  rw[e1]
  refine zE (zA (yC hoi hdi (by simp) (zE ⟨_,rfl,zE (hQ _ ⟨.ref T,_,zR _ hoi (Obj.isFreed_of_fields (zX hdi _)),?_,?_,.inr ⟨pm,rfl,?_,hp,hxl⟩,?_⟩ λb o' hb e=>?_)⟩)))
  ·exact(Obj.cls_mapFields ..).trans hci
  ·rw[zX hdi];simp[rawInt]
  ·exact(zH _ _ (Ne.symm hnT)).trans hT2
  ·exact(zH _ _ (Ne.symm hne)).trans ho
  ·exact(zH _ _ (Ne.symm hb)).trans e
theorem stops(hh:A.handled=none){Q:Option Value->Shared->Prop}(hQ:∀ h',(∀ b o,s.heap.get? b=some o->h'.get? b=some o)->Q none { s with heap:=h' }) :
  wpAny (model prog w) A.in1 (do raiseNew (<- newExc (.type "StopIteration") []):Sem Fin) (λfin s'=>∃ v,fin=Fin.done (Flow.ret v)/\wpAny (model prog w) A (pure (some v)) Q E s')
   (λe s'=>wpAny (model prog w) A (do if <- isInstance e (.type "StopIteration") then pure none else throw e) Q E s') s:=by
 refine zA ?_
 simp only [newExc,newTuple]
 refine zA (yJ (zA (m:=firstArgMember _ _) (wpAny_of_eq (a:=Value.none) (by first | rfl | (simp only [firstArgMember];rfl)) (yJ ?_ (by size_fits)))) (by size_fits))
 simp only [raiseNew]
 refine zA (wpAny_handled ?_)
 rw[show A.in1.handled=none from hh]
 refine zA (zE (wpAny_throw ?_))
 refine zA (wpAny_isInstance (T := "StopIteration") (b:=true) ⟨_,zD _ rfl,rfl⟩ isSubtype_stop (zE (hQ _ λb o' e=>?_)))
 exact zB _ (zB _ e)
theorem Ali(W:Wk w o es ep t){I:Addr}{Q:Option Value->Shared->Prop}(hh:A.handled=none)(st:StI w I a T o es ep t xl es.size s.heap)
  (hQ:∀ h',(∀ b o,b≠I->s.heap.get? b=some o->h'.get? b=some o)->Q none { s with heap:=h' }):wpAny (model prog w) A (pyNext (.ref I)) Q E s:=by
 have hT:=st.typeIs
 obtain⟨f,oi,hoi,hci,hdi,hm,ho⟩:=st
 have hx:xl[es.size]?=none:=Aqw (by rw[hm.len];exact ApR _)
 unfold pyNext
 refine zA (wpAny_attempt (wpAny_callSpecial?_slot (name:=Str.ofString "__next__") hT Xw (wpAny_call_entry Xw hT AjP ?_ (AjQ _))))
 unfold Builtin.«set_iterator.__next__»
 refine zA (m:=slotArgs "__next__" 0 ⟨[.ref I],[]⟩) (wpAny_of_eq (a:=(Value.ref I,[])) rfl ?_)
 refine zA (wpAny_fieldsOf hoi hdi ?_)
 dsimp only
 refine zA (AaK W ho ?_)
 rw[if_neg (by simp)]
 rcases hm with ⟨slot,rfl,hm⟩ | ⟨pm,rfl,hT2,hp,hxl⟩
 ·simp only [Aqc]
  refine zA (Aec W ho hm λnext hn=>?_)
  rw[hx]
  dsimp only [Option.map]
  refine zA (yC hoi hdi (by simp) (stops hh λh' k=>hQ h' λb o' hb e=>k _ _ ?_))
  exact(zH _ _ (Ne.symm hb)).trans e
 ·simp only [Aqc]
  refine zA (wpAny_seqItems hT2 rfl ?_)
  dsimp only
  rw[show((pm.map λk:Nat=>rawInt (k:Int)).toArray)[es.size]?=none by
   rw[List.getElem?_toArray]
   exact Aqw (by rw[ApO,hp.length_eq,Aql];exact ApR _)]
  dsimp only
  refine zA (yC hoi hdi (by simp) ?_)
  have ho1:=zR (Obj.mapFields (·.setIfInBounds 0 (rawInt 0))) hoi (Obj.isFreed_of_fields (zX hdi _))
  have hd1:=zX hdi (·.setIfInBounds 0 (rawInt 0))
  refine zA (yC ho1 hd1 (by simp) (stops hh λh' k=>hQ h' λb o' hb e=>k _ _ ?_))
  exact(zH _ _ (Ne.symm hb)).trans ((zH _ _ (Ne.symm hb)).trans e)
theorem AiI{I:Addr}{i:Nat}{Q:Value->Shared->Prop}(st:StI w I a T o es ep t xl i s.heap)(h:Q (.ref I) s):wpAny (model prog w) A (pyIter (.ref I)) Q E s:=by
 have hT:=st.typeIs
 refine wpAny_pyIter_slot hT AjO (wpAny_call_entry AjO hT AmO ?_ (AmQ _))
 show wpAny _ _ (ret (.ref I)) _ _ s
 exact zE ⟨_,rfl, "set_iterator", _,hT,Xw.lookup,h⟩
theorem walks(W:Wk w o es ep t)(hh:A.handled=none){I:Addr}(hne:a≠I)(hnT:T≠I):Walks prog w A I [I,a,T] [I] es.size (λi v=>∃ x,xl[i]?=some x/\v=x.2) (StI w I a T o es ep t xl) where
 sub:=λb hb=>by rw[zF.mp hb];exact ApS
 frame:=λi h h' ⟨f,oi,h1,h2,h3,hm,h4⟩ hk=>⟨f,oi,hk I (by simp) _ h1,h2,h3,by
  rcases hm with m | ⟨pm,m1,m2,m3⟩
  ·exact .inl m
  ·exact .inr ⟨pm,m1,hk T (by simp) _ m2,m3⟩,hk a (by simp) _ h4⟩
 item:=λi s Q E hi st hQ=>by
  obtain⟨x,hx⟩:∃ x,xl[i]?=some x:=⟨_,ApP (by
   obtain⟨_,_,_,_,_,hm,_⟩:=id st
   rw[hm.len];exact hi)⟩
  exact AiH W hne hnT st hx λh' st' hk=>hQ _ h' s.toks ⟨x,hx,rfl⟩ st' λb o hb e=>hk b o (λz=>hb (by simp[z])) e
 done:=λs Q E st hQ=>Ali W hh st λh' hk=>hQ h' s.toks λb o hb e=>hk b o (λz=>hb (by simp[z])) e
 self:=λi s Q E st hQ=>AiI st hQ
end
end SetW
namespace SetW
section
variable {prog:Program}{w:World}{A:Around}{E:Value->Shared->Prop}{s:Shared}{a:Addr}{o:Obj}{es:Array (Int × Value)}{ep:Nat}{t:SetTable}
theorem Alj:isSubtype (.type "set") (.type "set")=pure true:=by rw[isSubtype_type];kernel_rfl
theorem AiJ(W:Wk w o es ep t)(ho:s.heap.get? a=some o)(hh:A.handled=none)(hn:es.size<=sizeLine){Q:List Value->Shared->Prop}
  (hQ:∀(xl:List (Int × Value)) s',xl.Perm es.toList->(∀ b o,s.heap.get? b=some o->s'.heap.get? b=some o)->s'.gens=s.gens->s'.os=s.os->s.heap.objs.size<=s'.heap.objs.size->Q (xl.map (·.2)) s'):wpAny (model prog w) A (collect (.ref a)) Q E s:=by
 have ha:a<s.heap.objs.size:=Heap.lt_size ho
 unfold collect
 refine zA (wpAny_runValue (codeAny_builtin F.entry_proto_collect ?_))
 rw[Around.under_plainId F.plain_proto_collect _]
 show wpAny _ A.in1 (newList [] >>= λl=>again (.builtin "list.__iadd__" ⟨[l,.ref a],[]⟩)) _ _ s
 refine zA (yJ (zE ⟨plainId_quiet F.plain_list_iadd _,codeAny_builtin F.entry_list_iadd ?_⟩))
 rw[Around.under_plainId F.plain_list_iadd _]
 obtain⟨h1,eh1⟩:∃ h1,h1=s.heap.push { cls:=.type "list", data:=.seq ([]:List Value).toArray }:=⟨_,rfl⟩
 have hS1:h1.get? s.heap.objs.size=some { cls:=.type "list", data:=.seq ([]:List Value).toArray }:=by rw[eh1];exact zD _ rfl
 have k1:∀ b o,s.heap.get? b=some o->h1.get? b=some o:=λb o e=>by rw[eh1];exact zB _ e
 have z1:h1.objs.size=s.heap.objs.size+1:=by rw[eh1,Heap.size_push]
 show wpAny _ A.in1 (Builtin.List.listExtendWith (.ref s.heap.objs.size) (.ref a) (.ref s.heap.objs.size)) _ _ { s with heap:=s.heap.push { cls:=.type "list", data:=.seq ([]:List Value).toArray } }
 rw[<- eh1]
 unfold Builtin.List.listExtendWith
 have ho1:=k1 _ _ ho
 refine zA (wpAny_typeOf (typ (s:={ s with heap:=h1 }) W ho1) ?_)
 have e1:Builtin.List.listSameRef (.ref s.heap.objs.size) (.ref a)=false:=by
  have:s.heap.objs.size≠a:=Aq2 ha
  simp[Builtin.List.listSameRef,this]
 rw[if_neg (by rw[e1];decide)]
 refine zA (Alh (s:={ s with heap:=h1 }) W ho1 hn ?_)
 intro h2 d I T xl nIa nTI sI sT k2 st2
 have hxp:xl.Perm es.toList:=by
  obtain⟨_,_,_,_,_,hm,_⟩:=st2
  exact hm.perm
 have sI':s.heap.objs.size<I:=Aqa (by rw[z1];exact Aq8 _) sI
 show wpAny _ A.in1 _ _ _ { s with heap:=h2,drawn:=d }
 refine zA (yB ?_)
 unfold Builtin.List.listLengthHint
 have ho2:=k2 _ _ ho1
 refine zA (wpAny_specialOf (typ (s:={ s with heap:=h2,drawn:=d }) W ho2) Alf ?_)
 generalize hid:("set.__len__" : String)=ln0
 wp_delta
 rw[show splitId ln0=some ("set", "__len__") by subst hid;decide +kernel]
 subst hid
 refine zA (wpAny_isInstance (b:=true) (typ (s:={ s with heap:=h2,drawn:=d }) W ho2) Alj ?_)
 rw[if_neg (by decide)]
 split
 case isFalse hn1=>exact absurd (by decide +kernel) hn1
 refine zA (wpAny_typeOf (typ (s:={ s with heap:=h2,drawn:=d }) W ho2) (zE ?_))
 rw[if_pos (by decide +kernel)]
 refine zA (wpAny_rule (zA ?_))
 have hS2:=k2 _ _ hS1
 show wpAny _ A.in1 (updateSeq s.heap.objs.size (·.push .none) >>= λ_=>updateSeq s.heap.objs.size (·.pop)) _ _ _
 refine zA (wpAny_updateSeq hS2 rfl ?_)
 have hS3:=zR (Obj.mapSeq (·.push Value.none)) hS2 rfl
 refine wpAny_updateSeq hS3 rfl ?_
 have hS4:=zR (Obj.mapSeq (·.pop)) hS3 rfl
 obtain⟨h4,eh4⟩:∃ h4,h4=(h2.update s.heap.objs.size (Obj.mapSeq (·.push Value.none))).update s.heap.objs.size (Obj.mapSeq (·.pop)):=⟨_,rfl⟩
 have k4:∀ b o,b≠s.heap.objs.size->h2.get? b=some o->h4.get? b=some o:=λb o hb e=>by rw[eh4];exact(zH _ _ (Ne.symm hb)).trans ((zH _ _ (Ne.symm hb)).trans e)
 have nT:T≠s.heap.objs.size:=by
  rcases sT with e | e
  ·rw[e];exact ApZ ha
  ·exact Aq2 (Aqa (by rw[z1];exact Aq8 _) e)
 have WK:=walks (prog:=prog) (T:=T) (xl:=xl) (A:=A.in1) W hh nIa.symm nTI
 have st4:StI w I a T o es ep t xl 0 h4:=WK.frame 0 h2 h4 st2 λb hb ob e=>k4 b ob (by
  simp only [Aqs,Aqt,or_false] at hb
  rcases hb with e | e | e
  ·rw[e];exact Aq2 sI'
  ·rw[e];exact ApZ ha
  ·rw[e];exact nT) e
 show wpAny _ A.in1 (again (.builtin "list.extend.loop" ⟨[.ref s.heap.objs.size,.ref I,.ref s.heap.objs.size],[]⟩)) _ _ { s with heap:=(h2.update s.heap.objs.size (Obj.mapSeq (·.push Value.none))).update s.heap.objs.size (Obj.mapSeq (·.pop)),drawn:=d }
 rw[<- eh4]
 rw[<- eh4] at hS4
 refine zE ⟨plainId_quiet F.plain_extend_loop _,codeAny_extend_loopS (WK.toS) hn s.heap.objs.size ?_ _ es.size 0 _ _ _ rfl (Aqb _) st4 hS4 (ItemsOf.nil _) λs' acc' c' hm hS' hacc=>?_⟩
 ·simp only [Aqs,Aqt,or_false,not_or]
  exact⟨ApZ sI',Aq2 ha,nT.symm⟩
 show wpAny _ A (load s.heap.objs.size >>= _) _ _ s'
 refine zA (wpAny_load hS' (zE ?_))
 have AiK:xl.length=es.size:=by rw[hxp.length_eq,zK]
 have ea:acc'.toList=xl.map (·.2):=by
  refine AqE λi=>?_
  rw[ApX,zO]
  by_cases hi:i<es.size
  ·have hi2:i<acc'.size:=by rw[hacc.1];exact hi
   obtain⟨x,g1,g2⟩:=hacc.2 i acc'[i] (zP hi2)
   rw[g1,zP hi2,g2]
   rfl
  ·rw[Array.getElem?_eq_none (by rw[hacc.1];omega),Aqw (by rw[AiK];omega)]
   rfl
 rw[ea]
 refine hQ xl s' hxp (λb ob e=>hm.heap b ob ?_ (k4 _ _ (ApZ (Heap.lt_size e)) (k2 _ _ (k1 _ _ e)))) hm.gens hm.os (AqT (Heap.lt_size hS'))
 have:=Heap.lt_size e
 simp only [Aqs,Aqt,or_false,not_or]
 exact⟨ApZ this,ApZ (Nat.lt_trans this sI')⟩
theorem Adx(W:Wk w o es ep t)(ho:s.heap.get? a=some o)(hh:A.handled=none)(h64:es.size<64){key:Int × Value->Int}(hI:∀ e∈es.toList,∃ tk,e.2=.int (key e) tk){Q:Value->Shared->Prop}
  (hQ:∀(h':Heap) d (tk l e:Nat) (out:Array Value) (ns':List Int),(∀ b o,s.heap.get? b=some o->h'.get? b=some o)->s.heap.objs.size<=l->h'.get? l=some (seqObj "list" out e)->IntsAre out.toList ns'->ns'.Perm (es.toList.map key)->ns'.Pairwise (·<=·) ->
   Q (.ref l) { s with heap:=h',drawn:=d,toks:=tk }):wpAny (model prog w) A (call (.builtin "sorted") [.ref a]) Q E s:=by
 refine Calls.call_function_entry kind_sorted plain_sorted entry_sorted (args_sorted1 _) ?_
 unfold Builtin.«sorted»
 refine zA (m:=checkCount "sorted" 1 1 _) (zE (zA (AiJ (A:=A.in1) W ho hh (by rw[yA];omega) λxl s' hxp k hg hos hz=>?_)))
 obtain⟨h',g',d',tk',os'⟩:=s'
 dsimp only at k hg hos hz
 subst hg hos
 have AiK:xl.length=es.size:=by rw[hxp.length_eq,zK]
 have hI2:∀ l:List (Int × Value),(∀ e∈l,∃ tk,e.2=.int (key e) tk)->IntsAre (l.map (·.2)) (l.map key):=by
  intro l
  induction l with
  | nil=>intro _;exact .nil
  | cons e l ih =>
   intro h
   obtain⟨tk,hk⟩:=h e ApS
   rw[ApT,ApT,hk]
   exact .cons _ _ (ih λx hx=>h x (ApW _ hx))
 have hIx:=hI2 xl λe he=>hI e (hxp.mem_iff.mp he)
 have hoL:(h'.push (seqObj "list" (xl.map (·.2)).toArray 0)).get? h'.objs.size=some (seqObj "list" (xl.map (·.2)).toArray 0):=zD _ rfl
 refine zA (wpAny_newList (hsz:=by rw[ApO,AiK,yA];omega) ?_)
 show wpAny _ _ _ _ _ { s with heap:=h'.push (seqObj "list" (xl.map (·.2)).toArray 0),drawn:=d',toks:=tk' }
 refine zA (yB (wpAny_call_entry slot_list_sort ⟨_,hoL,rfl⟩ entry_list_sort (list_sort_tree hoL hIx (by rw[ApO,AiK];exact h64) λout ns' a1 a2 a3=>⟨_,rfl,zE ⟨_,rfl,?_⟩⟩) (args_list_sort _)))
 obtain⟨e,he⟩:=sortedHeap_at (out:=out) hoL
 refine hQ _ d' tk' h'.objs.size e out ns' (λb ob eb=>?_) ?_ he a1 (a2.trans (hxp.map _)) a3
 ·have lb:=Heap.lt_size (k _ _ eb)
  rw[sortedHeap_old (ApZ lb) (by rw[size_push'];exact AqV lb)]
  exact zB _ (k _ _ eb)
 ·exact hz
end
end SetW
namespace SetW
theorem Xz{xs:Array Nat}:T5 xs↔xs.toList.Pairwise (·<·):=by
 rw[List.pairwise_iff_getElem]
 constructor
 ·intro h i j hi hj hij
  have:=h i j hij (by simpa using hj)
  have hi':i<xs.size:=by simpa using hi
  have hj':j<xs.size:=by simpa using hj
  simpa [Array.getD,hi',hj'] using this
 ·intro h i k hik hk
  have:=h i k (by simp;omega) (by simpa using hk) hik
  have hi':i<xs.size:=by omega
  simpa [Array.getD,hi',hk] using this
theorem AgH{xs:Array Nat}{j:Nat}(hR:T5 xs)(hn:xs[SetTable.below xs j]?≠some j):T5 (SetTable.insertAt xs (SetTable.below xs j) j):=by
 obtain⟨h1,h2,h3⟩:=Xy hR j
 have hP:=Xz.mp hR
 rw[Xz]
 generalize SetTable.below xs j=p at h1 h2 h3 hn
 have e:(SetTable.insertAt xs p j).toList=xs.toList.take p++j::xs.toList.drop p:=by
  unfold SetTable.insertAt
  simp[Array.toList_extract,Aq1]
 rw[e]
 have g:∀ i,i<xs.size->xs.getD i 0=xs.toList.getD i 0:=λi hi=>by simp[Array.getD,List.getD,hi]
 have lo:∀ y∈xs.toList.take p,y<j:=λy hy=>by
  obtain⟨i,hi,rfl⟩:=List.mem_take_iff_getElem.mp hy
  have hi':i<p/\i<xs.size:=by simpa using (Nat.lt_min.mp hi)
  have:=h2 i hi'.1
  simpa [Array.getD,hi'.2] using this
 have hi:∀ y∈xs.toList.drop p,j<y:=λy hy=>by
  obtain⟨i,hi,rfl⟩:=List.mem_drop_iff_getElem.mp hy
  have hi':i+p<xs.size:=by simpa using hi
  have a:=h3 (i+p) (by omega) hi'
  have b:xs.getD (i+p) 0=xs[i+p]:=by simp[Array.getD,hi']
  rw[b] at a
  have ne:xs[i+p]≠j:=λz=>by
   by_cases c:i=0
   ·subst c
    apply hn
    rw[zP (by omega)]
    simp at z
    rw[z]
   ·have c1:=h3 p (ApR _) (by omega)
    have c2:=hR p (i+p) (by omega) hi'
    rw[b,z] at c2
    omega
  have:(xs.toList)[i+p]'(by simpa using hi')=xs[i+p]:=by simp
  simp only [Nat.add_comm] at *
  omega
 rw[List.pairwise_append]
 refine⟨hP.sublist (Arz _ _),?_,λa ha b hb=>?_⟩
 ·rw[List.pairwise_cons]
  exact⟨hi,hP.sublist (List.drop_sublist _ _)⟩
 ·rcases yH.mp hb with e | hb
  ·rw[e];exact lo a ha
  ·exact Nat.lt_trans (lo a ha) (hi b hb)
theorem Ql(t:SetTable)(g:Nat->Int)(h:Int):∀(fuel:Nat) (p:SetTable.Probe) (j:Nat) (dm:Option Nat),(∀ d,p.dummy=some d->t.slot d=.dummy)->SetTable.probe.go t g h fuel p=some (.empty j dm)->t.slot j=.empty/\∀ d,dm=some d->t.slot d=.dummy
 | 0,p,j,dm,hd,e=>by simp[SetTable.probe.go] at e
 | fuel+1,p,j,dm,hd,e=>by
  have adv:∀ q:SetTable.Probe,(t.advance q).dummy=q.dummy:=λq=>by
   unfold SetTable.advance
   split <;> rfl
  unfold SetTable.probe.go at e
  split at e
  ·rename_i hs
   injection e with e
   injection e with e1 e2
   subst e1 e2
   exact⟨hs,hd⟩
  ·rename_i hs
   refine Ql t g h fuel _ j dm (λd hd'=>?_) e
   rw[adv] at hd'
   have:p.j=d:=by simpa using hd'
   rw[<- this];exact hs
  ·split at e
   ·cases e
   ·exact Ql t g h fuel _ j dm (λd hd'=>hd d (by rwa [adv] at hd')) e
theorem Af5{t:SetTable}{h:Int}{j:Nat}{b:Bool}(e:t.freeSlot h=some (j,b)):t.place[SetTable.below t.place j]?≠some j:=by
 have nl:t.slot j=.empty\/t.slot j=.dummy:=by
  unfold SetTable.freeSlot at e
  split at e
  ·rename_i j' dm hp
   unfold SetTable.probe at hp
   obtain⟨a,b'⟩:=Ql t _ h _ _ j' dm (λd hd=>by simp[SetTable.probeStart] at hd) hp
   injection e with e
   injection e with e1 e2
   cases dm with
   | none=>exact .inl (by rw[<- e1];exact a)
   | some d=>exact .inr (by rw[<- e1];exact b' d rfl)
  ·cases e
 intro z
 unfold SetTable.slot at nl
 dsimp only at nl
 rw[if_pos (by rw[z];simp)] at nl
 rcases nl with nl | nl <;> cases nl
def TOk (t t':SetTable):Prop:=t'.led=t.led/\((t.plain=true->T5 t.place)->t'.plain=true->T5 t'.place)
theorem X3(t:SetTable)(n:Nat):TOk t (t.standIn n):=⟨rfl,λ_ h=>by cases h⟩
theorem AmR{t t':SetTable}(h:TOk t t')(n:Nat):TOk t (t'.orStandIn n):=by
 unfold SetTable.orStandIn
 by_cases c:t'.fits n=true
 ·rw[if_pos c];exact h
 ·rw[if_neg c];exact⟨h.1,λ_ z=>by cases z⟩
theorem AgI(t:SetTable)(es:Array (Int × Value))(h:Int)(x:Value):TOk t (layNew t es h x).2.1:=by
 unfold layNew
 split
 ·rename_i slot wd e
  exact AmR (t:=t) (t':=(t.put slot).1) ⟨rfl,λhr hp=>AgH (hr hp) (Af5 e)⟩ _
 ·exact X3 _ _
theorem AiL{mask finger moves:Nat}{led plain:Bool}{hs:Array Int}{t':SetTable}{order:Array Nat}(e:SetTable.laid mask finger moves led plain hs=some (t',order)):t'.led=led/\t'.plain=plain/\T5 t'.place:=by
 unfold SetTable.laid at e
 cases ho:SetTable.layClean mask hs with
 | none=>rw[ho] at e;cases e
 | some owner =>
  rw[ho] at e
  have e':some (_,_)=some (t',order):=e
  injection e' with e'
  injection e' with e1 e2
  subst e1
  refine⟨rfl,rfl,?_⟩
  rw[Xz]
  dsimp only
  refine List.Pairwise.map (R:=λa b:Nat × Nat=>a.1<b.1) _ (λa b h=>h) ?_
  refine List.Pairwise.filterMap (R:=(·<·)) _ (λa a' haa b hb b' hb'=>?_) List.pairwise_lt_range
  cases h1:owner.getD a none with
  | none=>rw[h1] at hb;cases hb
  | some u =>
   cases h2:owner.getD a' none with
   | none=>rw[h2] at hb';cases hb'
   | some u' =>
    rw[h1] at hb;rw[h2] at hb'
    cases hb;cases hb'
    exact haa
theorem AgJ(t:SetTable)(es:Array (Int × Value))(n:Nat):TOk t (relayAll t es n).2.1:=by
 unfold relayAll
 split
 ·rename_i t' order e
  unfold SetTable.relaid at e
  obtain⟨a,b,c⟩:=AiL e
  dsimp only
  split
  ·exact⟨a,λ_ _=>c⟩
  ·exact X3 _ _
 ·exact X3 _ _
section
variable {prog:Program}{w:World}{A:Around}{E:Value->Shared->Prop}{s:Shared}{a:Addr}
def ky (e:Int × Value):Int:=match e.2 with | .int i _=>i | _=>0
structure IS (w:World) (o:Obj) (es:Array (Int × Value)) (ep:Nat) (t:SetTable):Prop where
 ex:o.ExactSet
 d:o.data=.set es ep t
 f:t.fits es.size=true
 ok:w.params.followText "set-order" = true\/(t.led=true/\(t.plain=true->T5 t.place))
 el:∀ e∈es.toList,(∃ k tk,e=(hashInt k,.int k tk))
 nd:(es.toList.map ky).Nodup
theorem IS.elems{o:Obj}{es:Array (Int × Value)}{ep:Nat}{t:SetTable}(h:IS w o es ep t):ElemsOf (intKind prog w) es.toList:=λe he=>by
 obtain⟨k,tk,rfl⟩:=h.el e he
 exact⟨⟨k,intKind_is _ _ _ _,rfl⟩,rfl⟩
theorem IS.wk{o:Obj}{es:Array (Int × Value)}{ep:Nat}{t:SetTable}(h:IS w o es ep t):Wk w o es ep t:=⟨h.ex,h.d,h.f,h.ok.elim .inl λz=>.inr (.inr z)⟩
theorem AjR{gv:Bool}(g:Sem Unit)(hg:g=match gv with | true=>rule "set.scan.the-table-gave-way" | false=>pure ()) {Q:Unit->Shared->Prop} (h:Q () s):wpAny (model prog w) A g Q E s:=by
 subst hg
 cases gv
 ·exact zE h
 ·exact wpAny_rule h
theorem Aed{o:Obj}{es es':Array (Int × Value)}{ep:Nat}{t t':SetTable}(ho:s.heap.get? a=some o)(hd:o.data=.set es ep t):(s.heap.update a (Obj.putSet es' t')).get? a=some { o with data:=.set es' (ep+1) t' }:=by
 have:=zR (Obj.putSet es' t') ho (by rw[putSet_of es' t' hd];rfl)
 rw[putSet_of es' t' hd] at this
 exact this
theorem IS.to{o:Obj}{es es1:Array (Int × Value)}{ep:Nat}{t t1:SetTable}{v:Int}{tk:Tok}(h:IS w o es ep t)(hv:v∉es.toList.map ky)(hp:es1.toList.Perm (es.push (hashInt v,.int v tk)).toList)(hf:t1.fits es1.size=true)(hto:TOk t t1)(ep':Nat) :
  IS w { o with data:=.set es1 ep' t1 } es1 ep' t1:=by
 rw[Array.toList_push] at hp
 refine⟨h.ex,rfl,hf,h.ok.imp id λz=>⟨by rw[hto.1];exact z.1,hto.2 z.2⟩,λe he=>?_,?_⟩
 ·rcases zG.mp (hp.mem_iff.mp he) with he | he
  ·exact h.el e he
  ·rw[zF.mp he];exact⟨v,tk,rfl⟩
 ·refine(hp.map ky).nodup_iff.mpr ?_
  rw[ApV,List.nodup_append]
  refine⟨h.nd,by simp,λx hx y hy e=>?_⟩
  have:y=v:=by simpa [ky] using hy
  rw[e,this] at hx
  exact hv hx
theorem Alk{o:Obj}{es:Array (Int × Value)}{ep:Nat}{t:SetTable}(h:IS w o es ep t)(ho:s.heap.get? a=some o){v:Int}{tk:Tok}(hb:es.size+1<scanBound){Q:Bool->Shared->Prop}
  (hQ:∀ h' o' es' ep' t' b,Heap.SameBut a s.heap h'->h'.get? a=some o'->IS w o' es' ep' t'->(∀ z,z∈es'.toList.map ky↔z∈es.toList.map ky\/z=v)->es'.size<=es.size+1->Q b { s with heap:=h' }) :
  wpAny (model prog w) A (setAddHashed a (.int v tk) (hashInt v)) Q E s:=by
 have hel:ElemsOf (intKind prog w) es.toList:=h.elems
 have hkey:(intKind prog w).is v (.int v tk)=true:=intKind_is _ _ _ _
 unfold setAddHashed setAddHashedIn
 refine yB (zA (wpAny_setState_of ho h.d h.f ?_))
 dsimp only
 rw[byScan_of (knd:=intKind prog w) rfl (Nat.lt_of_succ_lt hb) hel,if_pos rfl]
 unfold setAddByScan
 refine zA (zA (wpAny_rule (zA (wpAny_setScan_of (knd:=intKind prog w) hkey ho h.d h.f hel ?_))))
 have mem:∀ e∈es.toList,((intKind prog w).is v e.2=true↔ky e=v):=λe he=>by
  obtain⟨k,tk',rfl⟩:=h.el e he
  show Value.isInt v (.int k tk')=true↔k=v
  constructor
  ·intro z
   obtain⟨_,q⟩:=Value.isInt_shape z
   cases q
   rfl
  ·intro z
   rw[<- z]
   exact intKind_is prog w k tk'
 cases hr:List.findIdx? (λe=>(intKind prog w).is v e.2) es.toList with
 | some j =>
  dsimp only
  obtain⟨hj,hpj,_⟩:=List.findIdx?_eq_some_iff_getElem.mp hr
  refine zE (zE ?_)
  have hv:v∈es.toList.map ky:=yG.mpr ⟨_,Aqq hj,(mem _ (Aqq hj)).mp hpj⟩
  have:=hQ s.heap o es ep t false (Heap.SameBut.refl a s.heap) ho h (λz=>⟨.inl,λq=>q.elim id λe=>e▸hv⟩) (AqI _)
  exact this
 | none =>
  dsimp only
  have hv:v∉es.toList.map ky:=λq=>by
   obtain⟨e,he,hk⟩:=yG.mp q
   have:=List.findIdx?_eq_none_iff.mp hr e he
   rw[(mem e he).mpr hk] at this
   cases this
  have hperm:=layNew_perm t es (hashInt v) (.int v tk)
  have hfits:=layNew_fits t es (hashInt v) (.int v tk)
  have hto:=AgI t es (hashInt v) (.int v tk)
  generalize layNew t es (hashInt v) (.int v tk)=Ly at hperm hfits hto ⊢
  obtain⟨es1,t1,wd,gv⟩:=Ly
  dsimp only at hperm hfits hto ⊢
  refine zA (AjR (gv:=gv) _ rfl ?_)
  have mm:∀ z,z∈es1.toList.map ky↔z∈es.toList.map ky\/z=v:=λz=>by
   rw[(hperm.map ky).mem_iff,Array.toList_push,ApV,Arf]
   simp[ky]
  have sz:es1.size=es.size+1:=by rw[<- zK,hperm.length_eq,Array.toList_push,ApQ,zK];rfl
  have hb1:es1.size<scanBound:=by rw[sz];exact hb
  have g1:=Aed (es':=es1) (t':=t1) ho h.d
  have I1:=h.to hv hperm hfits hto (ep+1)
  have b1:=Heap.SameBut.update s.heap a (Obj.putSet es1 t1)
  split
  all_goals
   refine zA (wpAny_of_eq (a:=true) rfl ?_)
   simp only [↓reduceIte]
   refine zA (wpAny_storeSet_of ho h.d ?_ (fits_of_scanBound hb1))
   split
   ·have rp:=relayAll_perm t1 es1 (SetTable.grown es1.size)
    have rf:=relayAll_fits t1 es1 (SetTable.grown es1.size)
    have rt:=AgJ t1 es1 (SetTable.grown es1.size)
    generalize relayAll t1 es1 (SetTable.grown es1.size)=Rl at rp rf rt ⊢
    obtain⟨es2,t2,gv2⟩:=Rl
    dsimp only at rp rf rt ⊢
    have sz2:es2.size=es1.size:=by rw[<- zK,rp.length_eq,zK]
    refine zA (AjR (gv:=gv2) _ rfl (zA (wpAny_storeSet_of g1 rfl (zE (zE ?_)) (fits_of_scanBound (by rw[sz2];exact hb1)))))
    refine hQ _ _ es2 (ep+1+1) t2 true (b1.trans (Heap.SameBut.update _ a _)) (Aed (s:={ s with heap:=s.heap.update a (Obj.putSet es1 t1) }) g1 rfl) ?_ (λz=>by rw[(rp.map ky).mem_iff];exact mm z) (by rw[sz2,sz];exact ApR _)
    exact⟨I1.ex,rfl,rf,I1.ok.imp id λz=>⟨by rw[rt.1];exact z.1,rt.2 z.2⟩,λe he=>I1.el e (rp.mem_iff.mp he),(rp.map ky).nodup_iff.mpr I1.nd⟩
   ·exact zE (zE (hQ _ _ es1 (ep+1) t1 true b1 g1 I1 mm (by rw[sz];exact ApR _)))
end
end SetW
namespace SetW
section
variable {prog:Program}{w:World}{A:Around}{E:Value->Shared->Prop}{s:Shared}
theorem IS.fresh:IS w { cls:=.type "set", dict:=none,data:=.set #[] 0 (.fresh 0 0 (!w.params.followText "set-order")) } #[] 0 (.fresh 0 0 (!w.params.followText "set-order")):=by
 refine⟨⟨rfl,rfl,rfl⟩,rfl,rfl,?_,λe he=>by simp at he,by simp⟩
 by_cases h:w.params.followText "set-order" = true
 ·exact .inl h
 ·refine .inr ⟨by simpa [SetTable.fresh] using h,λ_ i k h1 h2=>?_⟩
  simp[SetTable.fresh] at h2
theorem AiM{I:Addr}{fp wr:List Addr}{G:Array GenState->Array GenState->Prop}{n:Nat}{P:Nat->Value->Prop}{St:Nat->Shared->Prop}{R:Result->Shared->Prop}(W:WalksS prog w A.in1 I fp wr G n P St)(S:Addr)(hSf:S∉fp)
  (val:Nat->Int) (hval:∀ i v,P i v->∃ tk,v=.int (val i) tk) (hb:n+1<scanBound):∀(k i:Nat) (s:Shared) (o:Obj) (es:Array (Int × Value)) (ep:Nat) (t:SetTable),n-i=k->i<=n->St i s->s.heap.get? S=some o->IS w o es ep t->es.size<=i ->
   (∀ z,z∈es.toList.map ky↔∃ j,j<i/\val j=z) ->
   (∀ s' o' es' ep' t',Moved (S::wr) G s s'->s'.heap.get? S=some o'->IS w o' es' ep' t'->es'.size<=n->(∀ z,z∈es'.toList.map ky↔∃ j,j<n/\val j=z)->R (.ok (.ret .none)) s') ->
   codeAny (model prog w) A (.builtin "set.update.loop" ⟨[.ref S,.ref I],[]⟩) R s:=by
 have hSw:S∉wr:=λh=>hSf (W.sub _ h)
 have hsub:∀ b∈wr,b∈S::wr:=λb hb=>ApW _ hb
 intro k
 induction k with
 | zero =>
  intro i s o es ep t hk hi hst ho hS hz hm hR
  obtain rfl:i=n:=by omega
  refine codeAny_builtin PyProof.Rows.F.entry_set_update_loop ?_
  rw[Around.under_plainId PyProof.Rows.F.plain_set_update_loop _]
  show wpAny _ A.in1 (pyNext (.ref I) >>= _) _ _ s
  refine zA (W.done s _ _ hst λs' mv=>?_)
  show wpAny _ A.in1 (ret Value.none) _ _ s'
  exact zE (hR s' o es ep t (mv.mono hsub) (mv.heap S _ hSw ho) hS hz hm)
 | succ k ih =>
  intro i s o es ep t hk hi hst ho hS hz hm hR
  have hlt:i<n:=by omega
  refine codeAny_builtin PyProof.Rows.F.entry_set_update_loop ?_
  rw[Around.under_plainId PyProof.Rows.F.plain_set_update_loop _]
  show wpAny _ A.in1 (pyNext (.ref I) >>= _) _ _ s
  refine zA (W.item i s _ _ hlt hst λv s' hP hst' mv=>?_)
  obtain⟨tk,rfl⟩:=hval i v hP
  show wpAny _ A.in1 (holding [Value.int (val i) tk] (setAdd S (.int (val i) tk)) >>= _) _ _ s'
  refine zA (yB ?_)
  unfold setAdd
  refine yB (zA ((intKind prog w).pyHash (k:=val i) (intKind_is _ _ _ _) ?_))
  refine Alk (s:={ s' with toks:=s'.toks+1 }) hS (mv.heap S _ hSw ho) (by omega) λh' o' es' ep' t' b sb ho' hS' hm' hz'=>?_
  refine zE ⟨plainId_quiet PyProof.Rows.F.plain_set_update_loop _,ih (i+1) _ o' es' ep' t' (by omega) hlt (W.frame _ s' _ _ hst' (AqI _) λb hb ob e=>?_) ho' hS' (by omega) (λz=>?_) λs'' o2 es2 ep2 t2 mv2 ho2 hS2 hz2 hm2=>?_⟩
  ·rw[sb.2 b (λh:b=S=>hSf (by rw[<- h];exact hb))];exact e
  ·rw[hm' z,hm z]
   constructor
   ·rintro(⟨j,hj,e⟩ | e)
    ·exact⟨j,by omega,e⟩
    ·exact⟨i,by omega,e.symm⟩
   ·rintro⟨j,hj,e⟩
    by_cases c:j=i
    ·exact .inr (by rw[<- e,c])
    ·exact .inl ⟨j,by omega,e⟩
  ·refine hR s'' o2 es2 ep2 t2 (Moved.trans W.gtrans ((mv.mono hsub).then_heap (AqI _) λb ob hb e=>?_) mv2) ho2 hS2 hz2 hm2
   rw[sb.2 b (λh:b=S=>hb (by rw[h];exact ApS))];exact e
end
end SetW
namespace SetW
section
variable {prog:Program}{w:World}{A:Around}{E:Value->Shared->Prop}{s:Shared}
def frs (w:World):Obj:={ cls:=.type "set", dict:=none,data:=.set #[] 0 (.fresh 0 0 (!w.params.followText "set-order")) }
theorem Alm(v:Value){Q₁:Value->Shared->Prop}(h:Q₁ (.ref s.heap.objs.size) { s with heap:=s.heap.push (frs w) }):codeAny (model prog w) A (.call (.builtin "set.__new__") ⟨[.type "set", v],[]⟩) (wants Q₁ E) s:=by
 refine codeAny_of_tree ?_
 show wpAny _ A.in1 (do checkBuiltinCall "set.__new__" ⟨[.type "set", v],[]⟩;again (.builtin "set.__new__" ⟨[.type "set", v],[]⟩)) _ _ s
 refine zA (wpAny_of_eq (F.newCall_set_1 v) (zE ⟨plainId_quiet F.plain_set_new _,codeAny_builtin F.entry_set_new ?_⟩))
 rw[Around.under_plainId F.plain_set_new _]
 unfold Builtin.«set.__new__» Builtin.Frozenset.newClass
 have hsub:=sub_set_self
 obtain⟨hp,g,d,tk,os⟩:=s
 dsimp only
 wp_walk
 refine wpAny_askSetting (zE ?_)
 dsimp only
 simp only [newObj]
 exact zA (wpAny_alloc (zE (zE h)))
set_option maxHeartbeats 4000000 in
theorem AiN{l:Addr}{items:Array Value}{ns:List Int}{Q:Value->Shared->Prop}(hh:A.handled=none)(hl:s.heap.IsList l items)(hi:IntsAre items.toList ns)(hb:items.size+1<scanBound)
  (h:∀(h':Heap) (tk:Nat) o es ep t,h'.get? s.heap.objs.size=some o->IS w o es ep t->es.size<=items.size->(∀ z,z∈es.toList.map ky↔∃ j,j<items.size/\ns.getD j 0=z) ->
   (∀ b o,s.heap.get? b=some o->h'.get? b=some o)->Q (.ref s.heap.objs.size) { s with heap:=h',toks:=tk }):wpAny (model prog w) A (call (.type "set") [.ref l]) Q E s:=by
 obtain⟨c,tl,hmro⟩:=yF.mro
 have hmade:=yF.made
 have hsub:=yF.sub
 refine wpAny_call (codeAny_of_tree ?_)
 show wpAny _ _ (callAny (.type "set") _) _ _ _
 refine zE ⟨Code.quiet_builtin _ (by decide +kernel),codeAny_builtin F.entry_type_call ?_⟩
 rw[Around.under_plain (weight_type_call_type "set" [.ref l] []) rfl]
 have h1:=yF.notType
 have h2:=yF.canCreate
 have hct:=F.typeCall_set_1 (.ref l)
 repeat (any_goals (first | assumption | wp_step))
 refine codeAny_mono (Alm (.ref l) (E:=E) (Q₁:=λobj s₁=>obj=.ref s.heap.objs.size/\s₁={ s with heap:=s.heap.push (frs w) }) ⟨rfl,rfl⟩) λr s₁ hr=>?_
 cases r with
 | error e=>exact hr
 | ok fl =>
  cases fl with
  | ret obj =>
   obtain⟨rfl,rfl⟩:=hr
   have hS:(s.heap.push (frs w)).get? s.heap.objs.size=some (frs w):=zD _ rfl
   have hT:Shared.TypeIs { s with heap:=s.heap.push (frs w) } (.ref s.heap.objs.size) "set" := ⟨_,hS,rfl⟩
   have hli:=yF.init.lookup
   have hbi:=yF.init.bind (.ref s.heap.objs.size)
   repeat (any_goals (first | assumption | wp_step))
   refine codeAny_mono (codeAny_call_builtin (R:=wants (λr s₂=>r=.none/\∃ h' tk o es ep t,s₂={ s with heap:=h',toks:=tk }/\h'.get? s.heap.objs.size=some o/\IS w o es ep t/\es.size<=items.size/\(∀ z,z∈es.toList.map ky↔∃ j,j<items.size/\ns.getD j 0=z) /\
     (∀ b o,s.heap.get? b=some o->h'.get? b=some o)) E) yF.init.plain F.entry_set_init (check_set_init_1 hT ?_)) λr₂ s₂ hr₂=>?_
   ·obtain⟨ol,hol,hcl,nl,hdl⟩:=hl
    obtain⟨ocls,odict,odata,oslots⟩:=ol
    simp only at hcl hdl
    subst hcl hdl
    have hlS:l<s.heap.objs.size:=Heap.lt_size hol
    obtain⟨h1,eh1⟩:∃ h1,h1=s.heap.push (frs w):=⟨_,rfl⟩
    have z1:h1.objs.size=s.heap.objs.size+1:=by rw[eh1,Heap.size_push]
    have k1:∀ b ob,s.heap.get? b=some ob->h1.get? b=some ob:=λb ob e=>by rw[eh1];exact zB _ e
    rw[<- eh1] at hS hT ⊢
    have hol':=k1 _ _ hol
    have hl1:h1.IsList l items:=⟨_,hol',rfl,nl,rfl⟩
    have hsls:=F.sub_list_set
    have hslf:=F.sub_list_frozenset
    have hne:(Value.type "list" == Value.type "dict")=false:=by decide
    have hS':h1.get? s.heap.objs.size=some { cls:=.type "set", dict:=none,data:=.set #[] 0 (.fresh 0 0 (!w.params.followText "set-order")) }:=hS
    unfold Builtin.«set.__init__» noKeywords Builtin.Frozenset.updateFrom
    generalize hPI:pyIter=PI
    wp_walk
    subst hPI
    refine wpAny_pyIter_list hl1 ?_
    obtain⟨h2,eh2⟩:∃ h2,h2=h1.push { cls:=.type "list_iterator", data:=.fields #[.ref l,.int 0 0] }:=⟨_,rfl⟩
    show wpAny _ _ _ _ _ { s with heap:=h1.push { cls:=.type "list_iterator", data:=.fields #[.ref l,.int 0 0] } }
    rw[<- eh2]
    have k2:∀ b ob,h1.get? b=some ob->h2.get? b=some ob:=λb ob e=>by rw[eh2];exact zB _ e
    have hit2:h2.IsListIter h1.objs.size l 0:=by rw[eh2];exact⟨_,zD _ rfl,rfl,rfl⟩
    have hl2:h2.IsList l items:=⟨_,k2 _ _ hol',rfl,nl,rfl⟩
    refine zA (wpAny_runValue ?_)
    have hh3:A.in1.in1.in1.handled=none:=by simp[hh]
    have hneI:l≠h1.objs.size:=by rw[z1];exact ApZ (AqV hlS)
    have hSf:s.heap.objs.size∉[h1.objs.size,l]:=by
     simp only [Aqs,Aqt,or_false,not_or]
     exact⟨by rw[z1];exact ApZ (Aq8 _),Aq2 hlS⟩
    have hval:∀(i:Nat) (v:Value),items[i]?=some v->∃ tk,v=.int ((λi=>ns.getD i 0) i) tk:=λi v hv=>IntsAre.int_at hi i v (by rw[zO];exact hv)
    refine AiM ((Walks.list hh3 h1.objs.size l hneI items).toS) s.heap.objs.size hSf (λi=>ns.getD i 0) hval hb (items.size-0) 0 _ _ #[] 0 _ (by omega) (Aqb _) ⟨hit2,hl2⟩ (k2 _ _ hS') IS.fresh (Aqb _) (λz=>by simp) λs' o es ep t mv ho hI hz hm=>?_
    obtain⟨h',g',d',tk',os'⟩:=s'
    have eg:g'=s.gens:=mv.gens
    have ed:d'=s.drawn:=mv.drawn
    have eo:os'=s.os:=mv.os
    subst eg ed eo
    show wpAny _ _ _ _ _ _
    refine zE ?_
    show wpAny _ _ (ret Value.none) _ _ _
    refine zE ⟨rfl,h',tk',o,es,ep,t,rfl,ho,hI,hz,hm,λb ob e=>?_⟩
    have lb:=Heap.lt_size e
    refine mv.heap b ob ?_ (k2 _ _ (k1 _ _ e))
    simp only [Aqs,Aqt,or_false,not_or]
    exact⟨ApZ lb,by rw[z1];exact ApZ (AqV lb)⟩
   ·cases r₂ with
    | error e=>exact hr₂
    | ok fl₂ =>
     cases fl₂ with
     | ret r =>
      obtain⟨rfl,h',tk,o,es,ep,t,rfl,a1,a2,a3,a4,a5⟩:=hr₂
      repeat (any_goals (first | assumption | wp_step))
      exact h _ _ o es ep t a1 a2 a3 a4 a5
     | _=>exact hr₂.elim
  | _=>exact hr.elim
end
end SetW
section
variable {X:Cx}{K:W.Frag}{p1 p2 pos1 pos2:Pos}{e:Expr}{te:TE}
theorem Inv.drew{X:Cx}{pins:List (Addr × Obj)}{σ:St}{H:Hp}{s:Shared}{d:Drawn}(I:Inv X pins σ H s):Inv X pins σ H { s with drawn:=d }:=⟨I.ok,I.os,I.bare,I.base,I.loc,I.cell,I.free,I.GQ,I.pin,I.hok,I.len⟩
def AgK (K:W.Frag)(te:TE):TE:=λσ H Q=>te σ H λx H1=>∃ a ns,x=.ref a/\SqL K H1 a (vI ns)/\ns.length<=4000/\(∀ ds:List Int,ds.Nodup->(∀ z∈ds,z∈ns)->ds.length<64) /\
 ∀ l ns',(∀ z,z∈ns'↔z∈ns)->ns'.Pairwise (·<·)->H1 l=none->Q (.ref l) (upd H1 l (.lst (vI ns')))
theorem Ace:∀{l:List Int},l.Pairwise (·<=·)->l.Nodup->l.Pairwise (·<·):=λh n=>(h.and n).imp λ{a b} ⟨h1,h2⟩=>by omega
theorem Ady(hg1:Gl X "sorted") (hm1:X.mg "sorted" = none) (hg2:Gl X "set") (hm2:X.mg "set" = none) (he:PE X e te) (hK:X.K=K:=by rfl) (hc:X.calm=true:=by rfl)
  (hs2:starEach [e] X.env=(false,eval e X.env)::starEach [] X.env:=by rfl)
  (hs1:starEach [.Call (.Name "set" p2) [e] [] pos2] X.env=(false,eval (.Call (.Name "set" p2) [e] [] pos2) X.env)::starEach [] X.env:=by rfl)
  (hq1:(backTo pos1 (starEach [] X.env)).any (·.1)=false:=by rfl) (hq2:(backTo pos2 (starEach [] X.env)).any (·.1)=false:=by rfl) :
  PE X (.Call (.Name "sorted" p1) [.Call (.Name "set" p2) [e] [] pos2] [] pos1) (AgK K te):=by
 subst hK
 intro pins s σ H Q I h
 have hsz:sizeLine=16777216:=yA
 refine wpAny_Call_Name_kw (Jc I hg1 hm1 Afl ?_ (by decide) (by decide))
 refine PyProof.Rows.callWith_builtin1 ?_ hs1 hq1
 rw[hs1]
 show wpAny _ _ (spliced ((false,eval (.Call (.Name "set" p2) [e] [] pos2) X.env)::backTo pos1 (starEach [] X.env))) _ _ s
 refine Calls.spliced_cons ?_
 refine wpAny_Call_Name_kw (Jc I hg2 hm2 AkR ?_ (by decide) (by decide))
 refine PyProof.Rows.callWith_type1 ?_ hs2 hq2
 rw[hs2]
 show wpAny _ _ (spliced ((false,eval e X.env)::backTo pos2 (starEach [] X.env))) _ _ s
 refine Calls.spliced_cons (thn (he pins s σ H _ I h) λu s1 ⟨x,H1,I1,r1,a,ns,ex,hq,h4,h64,q⟩=>?_)
 subst ex
 cases r1
 refine Calls.spliced_nil ?_
 obtain⟨its,r,pl,hz⟩:=I1.list hq
 have hi:IntsAre its ns:=intsAre_of r
 have hlen:its.length=ns.length:=hi.length
 refine SetW.AiN (items:=its.toArray) (I.ok.hd hc) pl.isList hi (by rw[Aqh,hlen];show _+1<4096;omega) λh' tk o es ep t go gi gz gm gk=>?_
 refine Calls.spliced_nil ?_
 have mem:∀ z,z∈es.toList.map SetW.ky↔z∈ns:=λz=>by
  rw[gm z,Aqh,hlen]
  constructor
  ·rintro⟨j,hj,e⟩
   rw[<- e,Aqj,ApP hj]
   exact Aqq hj
  ·intro hz
   obtain⟨j,hj,e⟩:=Aq9 hz
   exact⟨j,hj,by rw[Aqj,ApP hj];exact e⟩
 have e64:es.size<64:=by
  have:=h64 _ gi.nd λz hz=>(mem z).mp hz
  rwa [ApO,zK] at this
 refine SetW.Adx (s:={ s1 with heap:=h',toks:=tk }) (key:=SetW.ky) gi.wk go (I.ok.hd hc) e64 (λe he=>?_) λh2 d tk2 l ep2 out ns' k2 hl2 hg2 hi2 hp2 hr2=>?_
 ·obtain⟨k,tk',rfl⟩:=gi.el e he
  exact⟨tk',rfl⟩
 ·have hns:ns'.Nodup:=hp2.nodup_iff.mpr gi.nd
  have hl1:s1.heap.objs.size<=l:=AqT (Aqa (Heap.lt_size go) hl2)
  refine⟨.ref l,_,(I1.laid (t':=tk2) (h':=h2) (a:=l) (o:=.lst (vI ns')) (λb u e=>k2 _ _ (gk _ _ e)) hl1 ?_).drew,rfl,q l ns' (λz=>by rw[hp2.mem_iff];exact mem z) (Ace hr2 hns) (I1.hok.fresh hl1)⟩
  have:ns'.length<64:=by rw[hp2.length_eq,ApO,zK];exact e64
  refine⟨by rw[Bm];omega,out.toList,ep2,Tt hi2,?_⟩
  rw[hg2]
end
section
variable {X:Cx}
def Aee (z:Str):Value->Bool
 | .str a _=>a.cps.toList == z.cps.toList
 | _=>false
theorem X4{zs:List Str}{us:List Value}(r:Vals (zs.map V.str) us){j:Nat}{u:Value}(h:us[j]?=some u):∃ k t,zs[j]?=some k/\u=.str k t:=by
 have hj:=(zC.mp h).1
 have l:=r.length
 rw[ApO] at l
 have hk:j<zs.length:=by omega
 obtain⟨u',e,q⟩:=r.get (i:=j) (x:=.str zs[j]) (by rw[ApX,ApP hk];rfl)
 rw[h] at e
 cases e
 obtain⟨t,rfl⟩:=q
 exact⟨zs[j],t,ApP hk,rfl⟩
def AmS:V->List V->Hp->VK->Prop:=λx vs H Q=>∃(l:Addr) (zs:List Str) (z:Str) (j:Nat),x=.ref l/\vs=[.str z]/\H l=some (.lst (zs.map V.str))/\zs[j]?=some z/\(∀ i,i<j->zs[i]?≠some z)/\zs.length<=1000/\Q (.int (j:Int)) H
theorem Aef:MtR X "list.index" AmS:=by
 intro pins s σ H x vs v us Q I rx rv h
 obtain⟨l,zs,z,j,rfl,rfl,hH,hj,hno,hz,q⟩:=h
 cases rx
 obtain⟨u,rfl,ru⟩:=rv.one
 obtain⟨t,rfl⟩:=ru
 obtain⟨zz,its,n,r,hl,e⟩:=I.Ags hH
 have lr:=r.length
 rw[ApO] at lr
 have jl:j<its.length:=by have:=(zC.mp hj).1;omega
 have ja:j<its.toArray.size:=by rw[Aqh];exact jl
 have hit:Aee z its.toArray[j]=true:=by
  obtain⟨k',t',e1,e2⟩:=X4 r (ApP jl)
  rw[hj] at e1
  cases e1
  rw[List.getElem_toArray,e2]
  exact beq_self_eq_true z.cps.toList
 have hn:∀ m (hm:m<its.toArray.size),m<j->Aee z its.toArray[m]=false:=λm hm hmj=>by
  have ml:m<its.length:=by rw[Aqh] at hm;exact hm
  obtain⟨k',t',e1,e2⟩:=X4 r (ApP ml)
  have:=hno m hmj
  rw[List.getElem_toArray,e2]
  show(k'.cps.toList == z.cps.toList)=false
  rw[z5]
  intro ez
  have ek:k'=z:=by
   cases k';cases z
   exact congrArg Str.mk (Array.toList_inj.mp ez)
  rw[ek] at e1
  exact this e1
 have he:∀ y,y∈its.toArray->MeetsSeq.EqGives y (.str z t) (Aee z y):=λy hy=>by
  have hy:y∈its:=by simpa using hy
  obtain⟨m,hm,em⟩:=Aq9 hy
  obtain⟨k',t',e1,e2⟩:=X4 r (ApP hm)
  rw[<- em,e2]
  exact SeqRoads2.EqGives.str k' z t' t
 refine call_meets F.slot_list_index ⟨_,e,rfl⟩ F.entry_list_index (F.args_list_index_2 _ _)
  (MeetsSeq.list_index l its.toArray n (.str z t) (Aee z) he j ja (by omega) hit hn) ⟨e,?_⟩
 exact⟨.int _,H,I.tok _,⟨_,rfl⟩,q⟩
end
section
variable {X:Cx}{K:W.Frag}{p1 p2 pos1 pos2:Pos}{e:Expr}{te:TE}
def AmT (K:W.Frag)(te:TE):TE:=λσ H Q=>te σ H λx H1=>∃ a ys,x=.ref a/\SqL K H1 a ys/\ys.length<=1000/\∀ l,H1 l=none->Q (.ref l) (upd H1 l (.lst ys.reverse))
end
def Itv (K:W.Frag)(a:Addr)(n:Nat):It :=
 ⟨λi H=>∃ xs x,SqL K H a xs/\xs.length=n/\i<n/\xs.reverse[i]?=some x,λi H x H'=>H'=H/\∀ xs,SqL K H a xs->xs.reverse[i]?=some x,λi H=>n=i⟩
theorem AgL{X:Cx}{scope:Scope}(hd:∀ y∈scope.names,y.2≠.free):∀ y∈scope.names,y.2=.free->X.env.scope.names.lookup y.1=some .cell/\scope.names.lookup y.1=some .free:=λy hy e=>absurd e (hd y hy)
section
variable {X:Cx}{tg:Expr}
def Apc (K:W.Frag)(ta:TA):TI:=λσ H R=>ta σ H λvs H1=>∃ a xs,vs=[.ref a]/\SqL K H1 a xs/\R (Itv K a xs.length) H1
end
end L2
namespace PySem
open Sem (wp)
open Builtin Builtin.Str Builtin.Int
open PySem.Spec PyProof.Rows
section
variable {prog:Program}{w:World}{A:Around}{E:Value->Shared->Prop}{s:Shared}{R:Result->Shared->Prop}
abbrev RvP (x:Str):Nat->Value->Prop:=λi v=>∃ c u,x.cps[x.cps.size-1-i]?=some c/\v=.str ⟨#[c]⟩ u
end
end PySem
namespace L2
open PySem PySem.Spec PyProof.Rows
section
variable {X:Cx}{K:W.Frag}{p1 p2 pos1 pos2:Pos}{e:Expr}{te:TE}
def Amc (te:TE):TE:=λσ H Q=>te σ H λx H1=>∃ z:Str,x=.str z/\z.length<=1000/\∀ l,H1 l=none->Q (.ref l) (upd H1 l (.lst (z.cps.toList.reverse.map λc=>V.str ⟨#[c]⟩)))
end
def Aln (z:Str):It:=⟨λi _=>i<z.cps.size,λi H x H'=>H'=H/\∃ c,z.cps[z.cps.size-1-i]?=some c/\x=.str ⟨#[c]⟩,λi _=>z.cps.size=i⟩
theorem Af6{P:Program}{w:World}{K:W.Frag}{tg:Expr}(z:Str)(tk:Tok)(it:Addr)(hz:z.length<=sizeLine):Turn P w K tg (Aln z) [it] it (λi h=>h.CZ it z tk ((z.cps.size:Int)-1-(i:Int))) where
 mem:=by simp
 obj:=λi h st b hb=>by
  have e:b=it:=by simpa using hb
  subst e
  obtain⟨o,e,c,d⟩:=st
  exact⟨o,e,λv z=>by rw[d] at z;cases z⟩
 keep:=λi h h' st k=>st.at λo e=>k it (by simp) o e
 item:=by
  intro X hP hw hK hc i pins s σ H E I hf st hg
  subst hP hw hK
  have hl:sizeLine=16777216:=yA
  have hi:i<z.cps.size:=hg
  have hb':¬(z.length:Int) ≥ 2 ^ 63:=by omega
  obtain⟨f0,f1,f2,f3,f4,f5⟩:=hf it (by simp)
  have st2:s.heap.CZ it z tk ((z.cps.size-1-i:Nat):Int):=by rw[show((z.cps.size-1-i:Nat):Int)=(z.cps.size:Int)-1-(i:Int) by omega];exact st
  have hx:z.cps[z.cps.size-1-i]?=some (z.cps[z.cps.size-1-i]'(by omega)):=zP (by omega)
  refine FQ st2 hx hb' λh' u tk' st' sb=>?_
  have I1:Inv X pins σ H { s with heap:=h',toks:=tk' }:=I.turned (t':=tk') (λb o hb e=>(sb.2 b hb).trans e) f0 f1 f3 f4 f5
  obtain⟨o,e,c,d⟩:=id st'
  refine⟨_,rfl,Ab6 (s:={ s with heap:=h',toks:=tk' }) e c d (by decide) ⟨.str _,H,I1,⟨u,rfl⟩,⟨rfl,_,hx,rfl⟩,?_,λb hb=>(hf b hb).1⟩⟩
  show h'.CZ it z tk ((z.cps.size:Int)-1-((i+1:Nat):Int))
  rw[show(z.cps.size:Int)-1-((i+1:Nat):Int)=((z.cps.size-1-i:Nat):Int)-1 by omega]
  exact st'
 done:=by
  intro X hP hw hK hc i pins s σ H E I hf st hg
  subst hP hw hK
  have e:z.cps.size=i:=hg
  subst e
  obtain⟨f0,f1,f2,f3,f4,f5⟩:=hf it (by simp)
  have st2:s.heap.CZ it z tk (-1):=by rw[show(-1:Int)=(z.cps.size:Int)-1-(z.cps.size:Int) by omega];exact st
  exact G8 (I.ok.hd hc) st2 λh' eb _=>⟨rfl,I.turned (t':=s.toks) (λb o hb e=>eb b o hb e) f0 f1 f3 f4 f5⟩
 self:=λ_ _ _ _ _ st h=>Il st h
section
variable {X:Cx}{tg:Expr}
def AmU (ta:TA):TI:=λσ H R=>ta σ H λvs H1=>∃ z:Str,vs=[.str z]/\z.length<=sizeLine/\R (Aln z) H1
theorem AiO{a:Expr}{ta:TA}{p pos:Pos}(hg:Gl X "reversed") (hm:X.mg "reversed" = none) (ha:PA X [a] ta) (hs:starEach [a] X.env=[(false,eval a X.env)]:=by rfl) :
  PI X tg (.Call (.Name "reversed" p) [a] [] pos) (AmU ta):=by
 intro pins s σ H R I h
 refine Call_ (Jc I hg hm U0 (PyProof.Rows.callWith_type1 (thn (ha pos pins s σ H _ I h) λus s1 ⟨vs,H1,I1,r1,q1⟩=>?_) hs rfl))
 obtain⟨z,e,hz,q⟩:=q1
 subst e
 have hl:sizeLine=16777216:=yA
 cases r1 with
 | cons r rr =>
  cases rr
  obtain⟨tk,rfl⟩:=r
  refine Ik (by omega) ?_
  have st0:(s1.heap.push (AbJ z tk ((z.length:Int)-1))).CZ s1.heap.objs.size z tk ((z.cps.size:Int)-1-((0:Nat):Int)) :=
   ⟨_,zD _ rfl,rfl,by show Data.fields _=Data.fields _;rw[show(z.cps.size:Int)-1-((0:Nat):Int)=(z.length:Int)-1 by show(z.cps.size:Int)-1-((0:Nat):Int)=(z.cps.size:Int)-1;omega]⟩
  refine Il (s:={ s1 with heap:=s1.heap.push (AbJ z tk ((z.length:Int)-1)),toks:=s1.toks+1+1 }) st0 ?_
  refine⟨s1.heap.objs.size,[s1.heap.objs.size],_,_,H1,rfl,I1.kept (t':=s1.toks+1+1) λb o e=>zB _ e,Af6 z tk _ hz,st0,λb hb=>?_,q⟩
  have e:b=s1.heap.objs.size:=by simpa using hb
  subst e
  exact I1.AeR (ApR _) (I1.hok.fresh (ApR _))
theorem Af7{z:Str}{Bl:List Nat}{tc:TT}{te:TE}{σ:St}{H:Hp}{Q:VK}(Pv:Nat->List V->Hp->Prop)(h0:Pv 0 [] H)(hl:∀ i ys H,i<=z.cps.size->Pv i ys H->ys.length<=i)
  (hz:z.cps.size<=sizeLine) (hs:∀ i c ys H,i<z.cps.size->z.cps[z.cps.size-1-i]?=some c->Pv i ys H->BZ z.cps.size Pv tc te (some (.str ⟨#[c]⟩)::Ea σ Bl) i ys H)
  (hd:∀ ys H p,Pv z.cps.size ys H->H p=none->Q (.ref p) (upd H p (.lst ys))):Qf Bl tc te (Aln z) σ H Q:=by
 refine⟨λi m ys H=>m=z.cps.size-i/\i<=z.cps.size/\Pv i ys H,⟨z.cps.size,by simp,Aqb _,h0⟩,?_⟩
 rintro i m ys H ⟨rfl,hi,p⟩
 have hy:=hl i ys H hi p
 by_cases hlt:i<z.cps.size
 ·refine .inr ⟨hlt,by omega,λx H' y=>?_⟩
  obtain⟨e,c,hc,rfl⟩:=y
  subst e
  exact hs i c ys _ hlt hc p
 ·have e:i=z.cps.size:=by omega
  subst e
  exact .inl ⟨rfl,by omega,λp' hp=>hd ys H p' p hp⟩
end
end L2
namespace Mine
open PySem L2
def Sg (c:Nat):Prop:=c=35\/c=46
structure Cl (cl:List (List Nat)) (m n:Nat):Prop where
 hn:cl.length=n
 hm:∀ t∈cl,t.length=m
 sg:∀ t∈cl,∀ c∈t,Sg c
 m1:1<=m
 m40:m<=40
 n1:1<=n
 n40:n<=40
def flip(c:Nat):Nat:=if c=35 then 46 else 35
theorem Aeg(c:Nat):Sg (flip c):=by unfold flip Sg;split <;> simp
def back(cl:List (List Nat)):List (List Nat):=cl.map λt=>t.reverse.map flip
def col (cl:List (List Nat))(e:Nat):List Nat:=cl.map λt=>t.getD e 0
def GZ (cl:List (List Nat))(m:Nat):List (List Nat):=(List.range m).map λe=>(col cl e).map flip
theorem Cl.back{cl:List (List Nat)}{m n:Nat}(h:Cl cl m n):Cl (back cl) m n where
 hn:=by unfold Mine.back;rw[ApO];exact h.hn
 hm:=λt ht=>by
  obtain⟨s,hs,rfl⟩:=yG.mp ht
  simp[h.hm s hs]
 sg:=λt ht c hc=>by
  obtain⟨s,hs,rfl⟩:=yG.mp ht
  obtain⟨d,_,rfl⟩:=yG.mp hc
  exact Aeg d
 m1:=h.m1
 m40:=h.m40
 n1:=h.n1
 n40:=h.n40
theorem Cl.GZ{cl:List (List Nat)}{m n:Nat}(h:Cl cl m n):Cl (GZ cl m) n m where
 hn:=by unfold Mine.GZ;simp
 hm:=λt ht=>by
  obtain⟨e,_,rfl⟩:=yG.mp ht
  simp[col,h.hn]
 sg:=λt ht c hc=>by
  obtain⟨e,_,rfl⟩:=yG.mp ht
  obtain⟨d,_,rfl⟩:=yG.mp hc
  exact Aeg d
 m1:=h.n1
 m40:=h.n40
 n1:=h.m1
 n40:=h.m40
def sgn (cl:List (List Nat))(m n:Nat)(x y:Int):Nat:=(cl.getD (y%(n:Int)).toNat []).getD (x%(m:Int)).toNat 0
def Rs (ks:List Int):Prop:=(∀(i:Nat) (a b:Int),ks[i]?=some a->ks[i+1]?=some b->a<b)/\∀ k∈ks,0<=k/\k<40
structure Ft (th:List Int) (tss:List (List Int)) (tr:List Int):Prop where
 m1:1<=th.length
 m40:th.length<=40
 t1:1<=tss.length
 t40:tss.length<=40
 n1:1<=tr.length
 n40:tr.length<=40
 hth:∀ v∈th,0<=v/\v<40
 hti:∀ ks∈tss,Rs ks
 htr:∀ v∈tr,0<=v/\v<tss.length
def shd (th ks:List Int):List Nat:=th.map λs=>if s∈ks then 35 else 46
def wv (th:List Int)(tss:List (List Int))(tr:List Int):List (List Nat):=tr.map λv=>shd th (tss.getD v.toNat [])
theorem Alo(th:List Int)(tss:List (List Int))(tr:List Int):(wv th tss tr).length=tr.length:=by unfold wv;rw[ApO]
theorem Aeh{tss:List (List Int)}{v:Int}(h:0<=v/\v<tss.length):tss[v.toNat]?=some (tss.getD v.toNat []):=by
 have:v.toNat<tss.length:=by omega
 rw[Aqj,ApP this]
 rfl
section
variable {α β:Type} [DecidableEq α] [DecidableEq β]
theorem snoc_ind{γ:Type}{P:List γ->Prop}(h0:P [])(h1:∀ l x,P l->P (l++[x])):∀ l,P l:=by
 intro l
 have k:∀ r:List γ,P r.reverse:=by
  intro r
  induction r with
  | nil=>exact h0
  | cons a r ih=>rw[List.reverse_cons];exact h1 _ _ ih
 have:=k l.reverse
 rwa [Ar3] at this
def unl (l:List α):List α:=l.foldl (λf x=>if x∈f then f else f++[x]) []
theorem Hv(l:List α)(x:α):unl (l++[x])=if x∈unl l then unl l else unl l++[x]:=by
 unfold unl
 rw[List.foldl_append]
 rfl
theorem Im(x:α):∀ l:List α,x∈unl l↔x∈l:=by
 refine snoc_ind (by simp[unl]) λl y ih=>?_
 rw[Hv]
 split
 ·rename_i h
  rw[ih,Arf,Ar4]
  refine⟨.inl,λz=>z.elim id λz=>?_⟩
  rw[z];rw[z] at ih;exact ih.mp h
 ·rw[Arf,Arf,ih]
theorem Af8:∀ l:List α,(unl l).Nodup:=by
 refine snoc_ind (by simp[unl]) λl y ih=>?_
 rw[Hv]
 split
 ·exact ih
 ·rename_i h
  rw[List.nodup_append]
  exact⟨ih,by simp,λa ha b hb e=>h (by rw[<- zF.mp hb,<- e];exact ha)⟩
theorem AiP(l:List α):∀ r,∃ s,unl (l++r)=unl l++s:=by
 refine snoc_ind ⟨[],by simp⟩ λr y ⟨s,hs⟩=>?_
 rw[<- Aqz,Hv,hs]
 split
 ·exact⟨s,rfl⟩
 ·exact⟨s++[y],by rw[Aqz]⟩
theorem Adz:∀ l:List α,(unl l).length<=l.length:=by
 refine snoc_ind (by simp[unl]) λl y ih=>?_
 rw[Hv,ApQ]
 split
 ·omega
 ·rw[ApQ]
  show _+1<=_+1
  omega
theorem AiQ{l:List α}(h:l≠[]):0<(unl l).length:=by
 cases l with
 | nil=>exact absurd rfl h
 | cons a r=>exact List.length_pos_of_mem ((Im a _).mpr ApS)
def ix (l:List α)(x:α):Nat:=@List.idxOf α instBEqOfDecidableEq x l
def num (l:List α):List Nat:=l.map λx=>ix (unl l) x
theorem Dt(l:List α):(num l).length=l.length:=by unfold num;rw[ApO]
theorem AaL{l:List α}{i:Nat}{x:α}(h:l[i]?=some x):(num l)[i]?=some (ix (unl l) x):=by unfold num;rw[ApX,h];rfl
theorem Alp{l:List α}{x:α}(h:x∈l):ix (unl l) x<(unl l).length:=List.idxOf_lt_length_iff.mpr ((Im x l).mpr h)
theorem AgM{l:List α}{z:Nat}(h:z∈num l):z<(unl l).length:=by
 obtain⟨x,hx,rfl⟩:=yG.mp h
 exact Alp hx
theorem AiR{l:List α}{j:Nat}(h:j<(unl l).length):j∈num l:=by
 refine yG.mpr ⟨(unl l)[j],(Im _ l).mp (Aqq h),?_⟩
 exact(Af8 l).idxOf_getElem j h
theorem ZL{l:List α}{x:α}(h:x∈l):ix l x<l.length:=List.idxOf_lt_length_iff.mpr h
theorem AgN{l:List α}{x:α}(h:x∈l):l[ix l x]?=some x:=by
 rw[ApP (ZL h)]
 exact congrArg some (List.getElem_idxOf (ZL h))
theorem AjS{x:α}:∀{l:List α} {i:Nat},i<ix l x->l[i]?≠some x
 | [],i,h=>by simp
 | a::l,i,h=>by
  unfold ix at h
  rw[List.idxOf_cons] at h
  by_cases e:a=x
  ·subst e
   simp at h
  ·have:(a == x)=false:=by simp[e]
   rw[this] at h
   cases i with
   | zero=>exact λz=>e (Option.some.inj z)
   | succ i=>exact AjS (l:=l) (i:=i) (Nat.lt_of_succ_lt_succ h)
theorem AiS{l:List α}{M:Nat}(h:M∈num l)(hm:∀ z∈num l,z<=M):M+1=(unl l).length:=by
 have h1:=AgM h
 have h2:(unl l).length-1∈num l:=AiR (by omega)
 have:=hm _ h2
 omega
theorem AiT{l r:List α}{x:α}(h:x∈l):ix (unl (l++r)) x=ix (unl l) x:=by
 obtain⟨s,hs⟩:=AiP l r
 unfold ix
 rw[hs,List.idxOf_append,if_pos ((Im x l).mpr h)]
end
def bw (bs:List Nat)(F:Nat)(ws:List Nat):List Nat:=bs.flatMap λb=>ws.map λx=>b*F+x
def fil (pr one other:List (List Nat)):List (List Nat):=pr.flatMap λu=>(one.zip other).map λq=>u.flatMap λc=>if c=35 then q.1 else q.2
section
variable {pr one other:List (List Nat)}{m n w h:Nat} (C:Cl pr m n) (C1:Cl one w h) (C2:Cl other w h)
include C C1 C2
end
def cols(cl:List (List Nat))(m:Nat):List (List Nat):=(List.range m).map (col cl)
def AjT (one other:List (List Nat))(w:Nat):List (List Nat × List Nat):=(List.range w).map λe=>(col one e,col other e)
theorem Hw(cl:List (List Nat))(m:Nat):(cols cl m).length=m:=by unfold cols;rw[ApO,Aql]
theorem Aei{cl:List (List Nat)}{m e:Nat}(h:e<m):(cols cl m)[e]?=some (col cl e):=by
 unfold cols
 rw[ApX,AqJ h]
 rfl
theorem AgO{cl:List (List Nat)}{p:Nat}{u:List Nat}(h:cl[p]?=some u)(e:Nat):(col cl e)[p]?=some (u.getD e 0):=by
 unfold col
 rw[ApX,h]
 rfl
def nts (l:List Nat):List Int:=l.map λ(z:Nat)=>(z:Int)
theorem Gk(l:List Nat):(nts l).length=l.length:=by unfold nts;rw[ApO]
theorem X5{l:List Nat}{i z:Nat}(h:l[i]?=some z):(nts l)[i]?=some (z:Int):=by unfold nts;rw[ApX,h];rfl
theorem AgP{l:List Nat}{i:Nat}{z:Int}(h:(nts l)[i]?=some z):∃ y:Nat,l[i]?=some y/\z=(y:Int):=by
 unfold nts at h
 rw[ApX] at h
 obtain⟨y,hy,rfl⟩:=zU.mp h
 exact⟨y,hy,rfl⟩
theorem AaM{l:List Nat}{z:Int}:z∈nts l↔∃ y∈l,z=(y:Int):=by
 unfold nts
 rw[yG]
 exact⟨λ⟨y,hy,e⟩=>⟨y,hy,e.symm⟩,λ⟨y,hy,e⟩=>⟨y,hy,e.symm⟩⟩
section
variable {pr one other:List (List Nat)}{m n w h:Nat} (C:Cl pr m n) (C1:Cl one w h) (C2:Cl other w h)
def thN (pr one other:List (List Nat))(m w:Nat):List Nat:=bw (num (cols pr m)) (unl (AjT one other w)).length (num (AjT one other w))
def trN (pr one other:List (List Nat)):List Nat:=bw (num pr) (unl (one.zip other)).length (num (one.zip other))
include C C1 C2
end
section
variable {α β:Type} [DecidableEq α] [DecidableEq β]
theorem AgQ{l:List α}{i:Nat}{x:α}(h:l[i]?=some x):(ix (unl l) x<(unl (l.take i)).length/\(unl (l.take (i+1))).length=(unl (l.take i)).length)\/(ix (unl l) x=(unl (l.take i)).length/\(unl (l.take (i+1))).length=(unl (l.take i)).length+1):=by
 have hi:i<l.length:=(zC.mp h).1
 have e1:l.take (i+1)=l.take i++[x]:=by rw[Aqd,h];rfl
 have e2:l=l.take (i+1)++l.drop (i+1):=(AqK _ _).symm
 have e3:ix (unl l) x=ix (unl (l.take (i+1))) x:=by
  have:ix (unl (l.take (i+1)++l.drop (i+1))) x=ix (unl (l.take (i+1))) x:=AiT (by rw[e1];simp)
  rw[<- e2] at this
  exact this
 rw[e3,e1,Hv]
 by_cases c:x∈unl (l.take i)
 ·rw[if_pos c]
  exact .inl ⟨ZL c,rfl⟩
 ·rw[if_neg c,ApQ]
  refine .inr ⟨?_,rfl⟩
  have hm:x∈unl (l.take i)++[x]:=by simp
  have h1:=ZL hm
  have h2:=AgN hm
  rw[ApQ,Aq0] at h1
  by_cases q:ix (unl (l.take i)++[x]) x<(unl (l.take i)).length
  ·rw[Aqo q] at h2
   exact absurd (ApY h2) c
  ·omega
theorem QB{l:List α}{i j:Nat}(h:(num l)[i]?=some j):l[i]?=(unl l)[j]?/\j<(unl l).length:=by
 have hi:i<l.length:=by have:=(zC.mp h).1;rwa [Dt] at this
 have hx:=ApP hi
 have:=AaL hx
 rw[h] at this
 have e:=Option.some.inj this
 have hm:l[i]∈unl l:=(Im _ _).mpr (Aqq hi)
 rw[hx,e]
 exact⟨(AgN hm).symm,ZL hm⟩
end
theorem Acf{cl:List (List Nat)}{m n:Nat}(C:Cl cl m n){tss:List (List Int)}(hl:tss.length=(unl cl).length)
  (ht:∀(j:Nat) (u:List Nat) (ks:List Int),(unl cl)[j]?=some u->tss[j]?=some ks->∀ z:Int,z∈ks↔∃ e:Nat,(nts (num (cols cl m)))[e]?=some z/\u[e]?=some 35) :
  wv (nts (num (cols cl m))) tss (nts (num cl))=cl:=by
 unfold wv
 refine AqE λp=>?_
 rw[ApX]
 by_cases hp:p<cl.length
 case neg =>
  rw[Aqw (by rw[Gk,Dt];omega),Aqw (by omega)]
  rfl
 have lp:p<(num cl).length:=by rw[Dt];exact hp
 have hv:=ApP lp
 generalize (num cl)[p]=v at hv
 obtain⟨hu,vb'⟩:=QB hv
 have vb:v<tss.length:=by rw[hl];exact vb'
 have hcl:=ApP hp
 generalize cl[p]=u at hcl
 rw[X5 hv]
 have e1:tss.getD (v:Int).toNat []=tss[v]:=by
  rw[Aqc,Aqj,ApP vb]
  rfl
 show some (shd _ (tss.getD (v:Int).toNat []))=_
 rw[e1,hcl]
 rw[hcl] at hu
 have hz:=ht v u _ hu.symm (ApP vb)
 have mu:=ApY hcl
 have lu:=C.hm u mu
 congr 1
 unfold shd
 refine AqE λe=>?_
 rw[ApX]
 by_cases he:e<m
 case neg =>
  rw[Aqw (by rw[Gk,Dt,Hw];omega),Aqw (by omega)]
  rfl
 have le:e<(num (cols cl m)).length:=by rw[Dt,Hw];exact he
 have hs:=ApP le
 generalize (num (cols cl m))[e]=x at hs
 rw[X5 hs]
 have hc:=ApP (show e<u.length by omega)
 have sg:=C.sg u mu _ (Aqq (show e<u.length by omega))
 rw[hc]
 show some (if ((x:Nat):Int)∈tss[v] then 35 else 46)=some u[e]
 congr 1
 by_cases q:u[e]=35
 ·rw[if_pos,q]
  exact(hz _).mpr ⟨e,X5 hs,by rw[hc,q]⟩
 ·have q2:u[e]=46:=by
   rcases sg with z | z
   ·exact absurd z q
   ·exact z
  rw[if_neg,q2]
  intro h
  obtain⟨e',h1,h2⟩:=(hz _).mp h
  obtain⟨y,hy,ey⟩:=AgP h1
  have yx:y=x:=by omega
  rw[yx] at hy
  have le':e'<m:=by have:=(zC.mp hy).1;rwa [Dt,Hw] at this
  have k1:=(QB hs).1
  have k2:=(QB hy).1
  rw[Aei he] at k1
  rw[Aei le',<- k1] at k2
  have k3:=Option.some.inj k2
  have c1:=AgO hcl e
  have c2:=AgO hcl e'
  rw[k3,c1] at c2
  have c3:=Option.some.inj c2
  rw[Aqj,Aqj,h2,hc] at c3
  exact q c3
end Mine
namespace L2
open PySem PySem.Spec PyProof.Rows
theorem X6{acc:List (Str × Addr)}:∀{names:List (Str × NameKind)} {n:Nat} {h:Heap},names.filter (λy=>y.2 == .cell)=[]->cellsFrom n names acc=acc/\pushCells h names=h
 | [],_,_,_=>⟨rfl,rfl⟩
 | (a,k)::r,n,h,e=>by
  cases hk:k == NameKind.cell with
  | true=>simp[AqY,hk] at e
  | false =>
   have e':r.filter (λy=>y.2 == .cell)=[]:=by simpa [AqY,hk] using e
   unfold cellsFrom pushCells
   rw[hk]
   exact X6 e'
theorem ZM{x:Str}{acc:List (Str × Addr)}:∀{names:List (Str × NameKind)} {n:Nat} {h:Heap},names.filter (λy=>y.2 == .cell)=[(x,.cell)] ->
  cellsFrom n names acc=(x,n)::acc/\pushCells h names=h.push { cls:=.type "cell", data:=.cell none }
 | [],_,_,e=>by simp at e
 | (a,k)::r,n,h,e=>by
  cases hk:k == NameKind.cell with
  | true =>
   have e':(a,k)::r.filter (λy=>y.2 == .cell)=[(x,.cell)]:=by simpa [AqY,hk] using e
   injection e' with e1 e2
   cases e1
   have:=X6 (acc:=(x,n)::acc) (n:=n+1) (h:=h.push { cls:=.type "cell", data:=.cell none }) e2
   unfold cellsFrom pushCells
   rw[if_pos hk,if_pos hk]
   exact this
  | false =>
   have e':r.filter (λy=>y.2 == .cell)=[(x,.cell)]:=by simpa [AqY,hk] using e
   have:=ZM (acc:=acc) (n:=n) (h:=h) e'
   unfold cellsFrom pushCells
   rw[hk]
   exact this
abbrev Aej:Obj:={ cls:=.type "dict", data:=.dict #[] }
abbrev AjU:Obj:={ cls:=.type "cell", data:=.cell none }
theorem Acg{M:Model}{A:Around}{E:Value->Shared->Prop}{s:Shared}{x:Str}{scope:Scope}{globals:Addr}{cl:List (Str × Addr)}{qual:Str}{env:Env}{Q:Env->Shared->Prop}
  (hone:scope.names.filter (λy=>y.2 == .cell)=[(x,.cell)])
  (hQ:Q { scope,locals:=s.heap.objs.size,globals,cells:=(x,s.heap.objs.size+1)::cl,qual,func:=none,code:=env.code,frame:=env.frame,builtins:=env.builtins } { s with heap:=(s.heap.push Aej).push AjU }) :
  wpAny M A (newFunctionEnv scope globals cl [] qual none .none (some env)) Q E s:=by
 simp only [newFunctionEnv,Option.isSome_some,if_true]
 refine zA (wpAny_alloc ?_)
 refine zA (wpAny_layCells _ (λname kind cells=>by cases hkc:kind == NameKind.cell <;> simp[hkc]) _ _ _ _ ?_)
 have e1:=λ(n:Nat) (h:Heap)=>ZM (acc:=cl) (n:=n) (h:=h) hone
 rw[(e1 _ s.heap).1,(e1 0 _).2]
 rw[show({ s with heap:=s.heap.push Aej }:Shared).heap.objs.size=s.heap.objs.size+1 from Heap.size_push ..]
 exact zA (by rw[List.forIn_nil];exact zE (zE hQ))
def Io (X:Cx)(x:Str)(Nc:List Str)(scope:Scope)(cs:List (Str × Addr))(C:Addr)(fp:List Addr)(s:Shared)(H:Hp):Cx where
 prog:=X.prog
 w:=X.w
 K:=X.K
 mg:=X.mg
 base:=X.base
 A:=X.A
 N:=Nc
 s₀:=s
 H₀:=H
 env:=compEnvC scope cs C X.env
 outer:=X.stack
 stack:=X.stack
 ex:=fp
 fn:=λy=>y == x
 calm:=X.calm
 pn:=[]
 xe:=λ_ _=>False
structure Kg (X:Cx) (x:Str) (Nc:List Str) (Bl:List Nat) (scope:Scope):Prop where
 kind:scope.kind=.function
 one:scope.names.filter (λy=>y.2 == .cell)=[(x,.cell)]
 names:∀ y∈scope.names,y.2=.local->scope.names.lookup y.1=some .local
 fr:∀ y∈scope.names,y.2=.free->X.env.scope.names.lookup y.1=some .cell/\scope.names.lookup y.1=some .free
 loc:scope.names.lookup x=some .cell
 len:Nc.length=Bl.length+1
 hd:Nc[0]?=some x
 nd:Nc.Nodup
 cap:∀ k j,Bl[k]?=some j->∃ y,Nc[k+1]?=some y/\X.N[j]?=some y/\scope.names.lookup y=some .free
theorem Kg.cell{X:Cx}{x:Str}{Nc:List Str}{Bl:List Nat}{scope:Scope}(O:Kg X x Nc Bl scope){y:Str}(h:(y,NameKind.cell)∈scope.names):y=x:=by
 have:(y,NameKind.cell)∈scope.names.filter (λy=>y.2 == .cell):=z8.mpr ⟨h,rfl⟩
 rw[O.one] at this
 have:=zF.mp this
 injection this
section
variable {X:Cx}{pins:List (Addr × Obj)}{σ:St}{H:Hp}{s:Shared}
theorem Kh{x y:Str}{c0 c:Addr}{cl:List (Str × Addr)}(h:List.lookup y ((x,c0)::cl)=some c):(y=x/\c=c0)\/(y≠x/\cl.lookup y=some c):=by
 rw[Aqy] at h
 cases hb:y == x with
 | true=>rw[hb] at h;cases h;exact .inl ⟨beq_iff_eq.mp hb,rfl⟩
 | false=>rw[hb] at h;exact .inr ⟨by simpa using hb,h⟩
theorem AgR{x:Str}{c0:Addr}{cl:List (Str × Addr)}:List.lookup x ((x,c0)::cl)=some c0:=by simp[Aqy]
theorem Ach{x y:Str}{c0:Addr}{cl:List (Str × Addr)}(h:y≠x):List.lookup y ((x,c0)::cl)=cl.lookup y:=by
 have:(y == x)=false:=by simpa using h
 simp[Aqy,this]
theorem AgS{x:Str}{Nc:List Str}{Bl:List Nat}{scope:Scope}{cl:List (Str × Addr)}{C c0:Addr}{fp:List Addr}(I:Inv X pins σ H s)(O:Kg X x Nc Bl scope)
  (hcl:∀ x c,cl.lookup x=some c->X.env.cells.lookup x=some c/\(x,NameKind.free)∈scope.names) (Js:∀ x,(x,NameKind.free)∈scope.names->cl.lookup x=X.env.cells.lookup x)
  (hC:s.heap.objs.size<=C) (hc0:s.heap.objs.size<=c0) (hfp:∀ b∈fp,Gz X pins H b) (hfo:∀ b∈fp,b<s.heap.objs.size):(Io X x Nc scope ((x,c0)::cl) C fp s H).Ok where
 mod:=I.ok.mod
 kind:=O.kind
 glob:=I.ok.glob
 blt:=I.ok.blt
 above:=hC
 inj:=λa b c e1 e2=>by
  have no:∀{y},cl.lookup y=some c0->False:=λ{y} e=>by
   obtain⟨v,q⟩:=I.cell y c0 (hcl y c0 e).1
   exact Aqu _ (Aqa q.lt hc0)
  rcases Kh e1 with ⟨a1,a2⟩ | ⟨a1,a2⟩ <;> rcases Kh e2 with ⟨b1,b2⟩ | ⟨b1,b2⟩
  ·rw[a1,b1]
  ·subst a2;exact(no b2).elim
  ·subst b2;exact(no a2).elim
  ·exact I.ok.inj a b c (hcl a c a2).1 (hcl b c b2).1
 has:=λy hy=>by
  by_cases hyx:y=x
  ·exact⟨c0,by rw[hyx];exact AgR⟩
  have mem:(y,NameKind.free)∈scope.names:=by
   have hy':((relabel scope X.env).names.lookup y=some .cell)\/((relabel scope X.env).names.lookup y=some .free):=hy
   have hm:∃ k,(y,k)∈(relabel scope X.env).names/\(k=.cell\/k=.free):=by
    rcases hy' with h | h
    ·exact⟨_,zW h,.inl rfl⟩
    ·exact⟨_,zW h,.inr rfl⟩
   obtain⟨k,hm,hk⟩:=hm
   obtain⟨⟨n,k'⟩,hm',e⟩:=yG.mp hm
   dsimp only at e
   by_cases hc:(k' == NameKind.free && X.env.scope.kind == .function && X.env.kindOf n == some .cell)=true
   ·rw[if_pos hc] at e
    injection e with e1 _
    subst e1
    have:k'=.free:=by
     have:=(Aq7 _ _▸(Aq7 _ _▸hc).1).1
     simpa using this
    subst this
    exact hm'
   ·rw[if_neg hc] at e
    injection e with e1 e2
    subst e1 e2
    rcases hk with hk | hk
    ·subst hk;exact absurd (O.cell hm') hyx
    ·subst hk;exact hm'
  obtain⟨c,e⟩:=I.ok.has y (.inl (O.fr _ mem rfl).1)
  exact⟨c,(Ach hyx).trans ((Js y mem).trans e)⟩
 cab:=λy c z e=>by
  have:y=x:=beq_iff_eq.mp z
  rcases Kh e with ⟨_,a2⟩ | ⟨a1,_⟩
  ·rw[a2];exact hc0
  ·exact absurd this a1
 hd:=I.ok.hd
 frames:=I.ok.frames
 stk:=.inl rfl
 exf:=λb hb=>⟨ApZ (Aqa (hfo b hb) hC),λy c e=>by
  rcases Kh e with ⟨_,a2⟩ | ⟨_,a2⟩
  ·rw[a2];exact Aq2 (Aqa (hfo b hb) hc0)
  ·exact(hfp b hb).2.2.2.2.1 y c (hcl y c a2).1⟩
 bs:=I.bs
 bsz:=Aqn I.ok.bsz I.sz
 Za:=λb o e hb=>by
  rcases(hfp b hb).2.2.2.1 with z | z
  ·exact I.ok.Za b o e z
  ·exact absurd (Aqa (Heap.lt_size e) (Aqn I.ok.bsz z)) (Aqu _)
 Zb:=λb hb z=>by
  rcases yH.mp (I.W8 b z) with e | e
  ·exact(hfp b hb).2.1 e
  ·exact(hfp b hb).2.2.1 e
 Qa:=I.stack
 frf:=I.Wj
theorem Aci{x:Str}{Nc:List Str}{Bl:List Nat}{scope:Scope}{cl:List (Str × Addr)}{C c0:Addr}{fp:List Addr}{h':Heap}{tk:Nat}{m0:Str->Option Value}(I:Inv X pins σ H s)(O:Kg X x Nc Bl scope)
  (hcl:∀ x c,cl.lookup x=some c->X.env.cells.lookup x=some c/\(x,NameKind.free)∈scope.names) (Js:∀ x,(x,NameKind.free)∈scope.names->cl.lookup x=X.env.cells.lookup x)
  (hC:s.heap.objs.size<=C) (hc0:s.heap.objs.size<=c0) (hfp:∀ b∈fp,Gz X pins H b) (hfo:∀ b∈fp,b<s.heap.objs.size)
  (old:∀ b o,s.heap.get? b=some o->h'.get? b=some o) (hns:h'.Ns C m0) (hce:h'.IsCell c0 none) :
  Inv (Io X x Nc scope ((x,c0)::cl) C fp s H) [] (none::Ea σ Bl) H { s with heap:=h',toks:=tk } where
 ok:=AgS I O hcl Js hC hc0 hfp hfo
 os:=rfl
 bare:=I.bare
 base:=Un.kept old
 loc:=by
  refine⟨m0,hns,λi y v hN hσ hv=>?_⟩
  cases i with
  | zero=>simp at hσ
  | succ k =>
   rw[Arp] at hσ
   obtain⟨j,hj,hs⟩:=Xa hσ
   obtain⟨z,hz1,hz2,hz3⟩:=O.cap k j hj
   have hN':Nc[k+1]?=some y:=hN
   rw[hz1] at hN'
   cases hN'
   have mem:(y,NameKind.free)∈scope.names:=zW hz3
   have hyx:y≠x:=λe=>by rw[e,O.loc] at hz3;cases hz3
   have hk:=(O.fr _ mem rfl).1
   obtain⟨m,hn,hl⟩:=I.loc
   obtain⟨u,r,l⟩:=hl j y v hz2 hs (.inr (.inl hk))
   refine⟨u,r,?_⟩
   rcases l with ⟨k',_⟩ | ⟨_,c,hc,z⟩
   ·have k'':X.env.scope.names.lookup y=some .local:=k'
    rw[hk] at k'';cases k''
   ·obtain⟨o,ho,hd⟩:=z
    exact .inr ⟨.inl (Dp I.ok.kind hz3 hk),c,(Ach hyx).trans ((Js y mem).trans hc),o,old _ _ ho,hd⟩
 cell:=λy c e=>by
  rcases Kh e with ⟨_,a2⟩ | ⟨_,a2⟩
  ·rw[a2];exact⟨none,hce⟩
  ·obtain⟨v,o,ho,hd⟩:=I.cell y c (hcl y c a2).1
   exact⟨v,o,old _ _ ho,hd⟩
 free:=I.hok.fresh hC
 GQ:=λy c e=>by
  rcases Kh e with ⟨_,a2⟩ | ⟨_,a2⟩
  ·rw[a2];exact I.hok.fresh hc0
  ·exact I.GQ y c (hcl y c a2).1
 pin:=λp hp=>absurd (show p∈([]:List (Addr × Obj)) from hp) (by simp)
 hok:=I.hok.kept old
 len:=by
  show(none::Ea σ Bl).length=Nc.length
  rw[ApU,WY,O.len]
theorem Acj{x:Str}{px:Pos}{Nc:List Str}{Bl:List Nat}{scope:Scope}{cl:List (Str × Addr)}{iter elt:Expr}{ifs:List Expr}{pos:Pos}{tc:TT}{te:TE}{Q:VK}{it:Addr}{fp:List Addr}{tn:Nat->Heap->Prop}{J:It}
  {RR:Value->Addr->Result->Shared->Prop}{E:Value->Shared->Prop}
  (O:Kg X x Nc Bl scope) (hc:X.calm=true)
  (hcl:∀ x c,cl.lookup x=some c->X.env.cells.lookup x=some c/\(x,NameKind.free)∈scope.names) (Js:∀ x,(x,NameKind.free)∈scope.names->cl.lookup x=X.env.cells.lookup x)
  (hte:∀ cs C fp s H,PE (Io X x Nc scope cs C fp s H) elt te) (htc:∀ cs C fp s H,PIf (Io X x Nc scope cs C fp s H) ifs tc)
  (I:Inv X pins σ H s) (T:Turn X.prog X.w X.K (.Name x px) J fp it tn) (st:tn 0 s.heap) (hfp:∀ b∈fp,Gz X pins H b) (h:Qf Bl tc te J σ H Q)
  (hRR:∀(D C:Addr) (s':Shared) (m:Str->Option Value),s'.heap.Ns C m->(∀ h',Heap.SameBut C s'.heap h'->∃ H',Inv X pins σ H' { s' with heap:=h' }/\H' C=none/\Q (.ref D) H') ->
   s.heap.objs.size<=C->RR (.ref D) C (.ok .next) s') :
  wpAny (model X.prog X.w) X.A (newList []) (λacc s₃=>wpAny (model X.prog X.w) X.A (newFunctionEnv scope X.env.globals cl [] X.env.qual none .none (some X.env)) (λcenv s₄ =>
   codeAny (model X.prog X.w) X.A (.compStart (.ListComp elt [⟨.Name x px,iter,ifs,0⟩] scope pos) 0 (.ref it) acc { cenv with scope:=relabel scope X.env }) (RR acc cenv.locals) s₄) E s₃) E s:=by
 refine yJ (Acg O.one ?_)
 dsimp only
 generalize hH2:s.heap.push { cls:=.type "list", dict:=none,data:=.seq ([]:List Value).toArray }=H2 at ⊢
 have hC:H2.objs.size=s.heap.objs.size+1:=by rw[<- hH2,Heap.size_push]
 have hCle:s.heap.objs.size<=H2.objs.size:=by rw[hC];exact AqI _
 have hc0:s.heap.objs.size<=H2.objs.size+1:=Nat.le_succ_of_le hCle
 have hDC:s.heap.objs.size≠H2.objs.size:=by rw[hC];exact ApZ (Aq8 _)
 generalize hh1:(H2.push Aej).push AjU=h₁ at ⊢
 have old:∀ b o,s.heap.get? b=some o->h₁.get? b=some o:=λb o e=>by rw[<- hh1];exact zB _ (zB _ (hH2▸zB _ e))
 have hacc:h₁.get? s.heap.objs.size=some (FP [] 0):=by rw[<- hh1];exact zB _ (zB _ (hH2▸zD _ rfl))
 have hns₁:h₁.Ns H2.objs.size (λ_=>none):=by rw[<- hh1];exact(Heap.Ns.new H2 (.type "dict")).keeps λb o e=>zB _ e
 have hce:h₁.IsCell (H2.objs.size+1) none:=by
  rw[<- hh1,show H2.objs.size+1=(H2.push Aej).objs.size from(Heap.size_push ..).symm]
  exact⟨_,zD _ rfl,rfl⟩
 have hfo:∀ b∈fp,b<s.heap.objs.size:=λb hb=>by
  obtain⟨o,e,_⟩:=T.obj _ _ st b hb
  exact Heap.lt_size e
 have st1:tn 0 h₁:=T.keep _ _ _ st λb _ o e=>old b o e
 generalize hDD:s.heap.objs.size=D at *
 generalize hCC:H2.objs.size=C at *
 have Afc:D<=C:=hCle
 let Y:Cx:=Io X x Nc scope ((x,C+1)::cl) C fp s H
 have I0:Inv Y [] (none::Ea σ Bl) H { s with heap:=h₁ }:=Aci (tk:=s.toks) I O hcl Js (by rw[hDD];exact hCle) (by rw[hDD];exact hc0) hfp (λb hb=>by rw[hDD];exact hfo b hb) old hns₁ hce
 have AbE:H D=none:=by rw[<- hDD];exact I.hok.fresh (ApR _)
 have Q7:D≠C:=hDC
 have Dfs:D∉Y.fs:=λz=>by
  have:=I.stack.mem (show D∈frs X.stack from z)
  obtain⟨_,o,e,_⟩:=this
  have:=Heap.lt_size e
  rw[hDD] at this
  exact Aqu _ this
 have AbF:∀ y c,Y.env.cells.lookup y=some c->c≠D:=λy c e z=>by
  rcases Kh e with ⟨_,a2⟩ | ⟨_,a2⟩
  ·exact absurd (z.symm.trans a2) (ApZ (Nat.lt_succ_of_le Afc))
  obtain⟨v,q⟩:=I.cell y c (hcl y c a2).1
  have:=q.lt
  rw[z,hDD] at this
  exact Aqu _ this
 have Dfp:∀ b∈fp,b≠D:=λb hb=>ApZ (hfo b hb)
 have fpY:∀{H':Hp},(∀ b∈fp,H' b=none)->∀ b∈fp,Gz Y [] H' b:=λhn b hb =>
  ⟨hn b hb,ApZ (Aqa (hfo b hb) Afc),λz=>I0.ok.Zb b hb z,.inl hb,λy c e=>(I0.ok.exf b hb).2 y c e,λp hp=>absurd (show p∈([]:List (Addr × Obj)) from hp) (by simp)⟩
 obtain⟨W,⟨m0,w0⟩,turn⟩:=h
 have loop:∀ s₃:Shared,s₃={ s with heap:=h₁ } ->
   codeAny (model X.prog X.w) X.A (.compLoop (.ListComp elt [⟨.Name x px,iter,ifs,0⟩] scope pos) 0 (.ref it) (.ref D) (compEnvC scope ((x,C+1)::cl) C X.env)) (RR (.ref D) C) s₃:=by
  rintro s₃ rfl
  refine Kc (λn s'=>∃(i:Nat) (o:Option V) (H':Hp) (ys:List V) (us:List Value) (k:Nat),Inv Y [] (o::Ea σ Bl) H' s'/\tn i s'.heap/\(∀ b∈fp,H' b=none)/\s'.heap.get? D=some (FP us k)/\H' D=none/\Vals ys us/\W i n ys H')
   ?_ m0 ⟨0,none,H,[],[],0,I0,st1,λb hb=>(hfp b hb).1,hacc,AbE,.nil,w0⟩
  rintro n s3 ⟨i,o3,H3,ys,us,k,I3,st3,fr3,hD3,nD3,rv,w3⟩
  have fpP:∀{H':Hp} {ob:Obj},(∀ b∈fp,H' b=none)->∀ b∈fp,Gz Y [(D,ob)] H' b:=λhn b hb=>by
   obtain⟨g0,g1,g2,g3,g4,_⟩:=fpY hn b hb
   refine⟨g0,g1,g2,g3,g4,λp hp=>?_⟩
   have e:p=(D,_):=zF.mp (show p∈[(D,_)] from hp)
   rw[e]
   exact Ne.symm (Dfp b hb)
  have IP:Inv Y [(D,FP us k)] (o3::Ea σ Bl) H3 s3:=I3.Fj λp hp=>by
   have e:p=(D,FP us k):=zF.mp hp
   subst e
   exact⟨hD3,nD3,Q7,Dfs,λv z=>by cases z⟩
  have Xc:∀{σ':St} {H':Hp} {s':Shared} {pl:List (Addr × Obj)},Inv Y ([(D,FP us k)]++pl) σ' H' s'->s'.heap.get? D=some (FP us k)/\H' D=none:=λI'=>by
   have z:=I'.pin (D,FP us k) (Aqp _ (AqM _ ApS))
   exact⟨z.1,z.2.1⟩
  rcases turn i n ys H3 w3 with ⟨stop,hlen,fin⟩ | ⟨go,hlen,step⟩
  ·
   refine zT (T.done Y rfl rfl rfl hc i _ s3 _ H3 (λ_ _=>False) IP (fpP fr3) st3 stop) (λr s4 hr=>?_) λ_ _ z=>z.elim
   obtain⟨hr,I4⟩:=hr
   subst hr
   obtain⟨gD,nD⟩:=Xc (pl:=[]) (by simpa using I4)
   obtain⟨m,hn,_⟩:=I4.loc
   refine hRR D C s4 m hn (λh' hs'=>⟨upd H3 D (.lst ys),?_,(Ah (Ne.symm Q7)).trans I4.free,fin D nD⟩) hCle
   have nt:∀ b ob,H3 b=some ob->b≠C:=λb ob e z=>by
    have:=I4.free
    rw[z] at e
    rw[show H3 C=none from this] at e
    cases e
   have u1:Un (frs X.stack) fp H H3 s.heap h':=Un.but I4.base hs' (show s.heap.objs.size<=C by rw[hDD];exact hCle)
   have ok1:HOk X.prog X.w H3 h':=λb ob e=>(I4.hok b ob e).stay (λc v hc q=>(hs'.2 c (by
    rcases hc with z | z
    ·rw[z];exact nt b ob e
    ·exact nt c _ z)).trans q) (λ_ q=>q) λ_ _ q=>q
   have gD':h'.get? D=some (FP us k):=(hs'.2 D Q7).trans gD
   exact I.call' (s':={ s4 with heap:=h' }) (ch:=fp) I4.os (u1.track (AqH hDD) nD) (ok1.track nD ⟨hlen,us,k,rv,gD'⟩) I4.bare λb hb=>by
    obtain⟨_,g1,_,g3,g4,g5⟩:=hfp b hb
    exact⟨g3,g1,g4,g5⟩
  ·
   refine zT (T.item Y rfl rfl rfl hc i _ s3 _ H3 (λ_ _=>False) IP (fpP fr3) st3 go) (λr s4 hr=>?_) λ_ _ z=>z.elim
   obtain⟨u0,hr,h4⟩:=hr
   subst hr
   refine zT h4 (λ_ s5 h5=>?_) λ_ _ z=>z.elim
   obtain⟨x5,H5,I5,r5,y5,st5,fr5⟩:=h5
   have I5':=I5.pinned (fpP fr5) (T.obj _ _ st5)
   have tgt:PG Y (.Name x px) (Jq 0):=Br (i:=0) O.nd O.hd (.inr (CQ I.ok.kind O.loc (by intro z;cases z))) (.inl (beq_self_eq_true x))
   refine zT (tgt _ s5 _ H5 x5 u0 (λσ2 H2=>σ2=some x5::Ea σ Bl/\H2=H5) I5' r5 ⟨rfl,rfl⟩) (λ_ s6 h6=>?_) λ_ _ z=>z.elim
   obtain⟨_,_,I6,rfl,rfl⟩:=h6
   refine zT ((htc _ C fp s H).run I6 (step x5 _ y5)) (λb s7 h7=>?_) λ_ _ z=>z.elim
   obtain⟨H7,I7,q7⟩:=h7
   have Uy:∀{σ':St} {H':Hp} {s':Shared},Inv Y ([(D,FP us k)]++Qc fp s5.heap) σ' H' s'->tn (i+1) s'.heap/\∀ b∈fp,H' b=none:=λI' =>
    ⟨T.keep _ _ _ st5 λb hb o e=>(I'.pin (b,o) (Aqp _ (Aqp _ (El hb e)))).1,λb hb=>by
     obtain⟨o,e,d⟩:=T.obj _ _ st5 b hb
     exact(I'.pin (b,o) (Aqp _ (Aqp _ (El hb e)))).2.1⟩
   cases b with
   | false =>
    rw[if_neg Aqe] at q7
    rw[if_neg Aqe]
    obtain⟨m',hm,w7⟩:=q7
    obtain⟨gD,nD⟩:=Xc I7
    obtain⟨k1,k2⟩:=Uy I7
    exact⟨m',hm,i+1,some x5,H7,ys,us,k,I7.Fj (λp hp=>nomatch hp),k1,k2,gD,nD,rv,w7⟩
   | true =>
    rw[if_pos rfl] at q7
    rw[if_pos rfl]
    refine zT (hte _ C fp s H _ s7 _ H7 _ I7 q7) (λu8 s8 h8=>?_) λ_ _ z=>z.elim
    obtain⟨y8,H8,I8,r8,m',hm,w8⟩:=h8
    obtain⟨gD,nD⟩:=Xc I8
    obtain⟨k1,k2⟩:=Uy I8
    refine call_meets zL ⟨_,gD,rfl⟩ F.entry_list_append (F.args_list_append_2 _ _) (PySem.list_append D us.toArray k u8 (by rw[Aqh,<- rv.length];omega)) ⟨gD,?_⟩
    have q:=PySem.IsL.update gD (·.push u8)
    have e1:us.toArray.push u8=(us++[u8]).toArray:=by simp
    rw[e1] at q
    have I8':Inv Y [] (some x5::Ea σ Bl) H8 s8:=I8.Fj (λp hp=>nomatch hp)
    have I9:Inv Y [] (some x5::Ea σ Bl) H8 { s8 with heap:=s8.heap.update D (Obj.mapSeq (·.push u8)),toks:=s8.toks } :=
     I8'.turned (it:=D) (λb o hb e=>(zH s8.heap (Obj.mapSeq (·.push u8)) (Ne.symm hb)).trans e) nD Q7 (.inr (AqH hDD)) AbF (λp hp=>nomatch hp)
    refine⟨m',hm,i+1,some x5,H8,ys++[y8],us++[u8],_,I9,T.keep _ _ _ k1 λb hb o e=>(zH s8.heap (Obj.mapSeq (·.push u8)) (Ne.symm (Dfp b hb))).trans e,k2,q,nD,rv.append (.cons r8 .nil),w8⟩
 exact codeAny_compStart_list (loop _ rfl) (T.self X.A 0 _ _ _ st1 (loop _ rfl))
theorem AgT{i:Nat}{y x:Str}{px py pos spos:Pos}{Nc:List Str}{Bl:List Nat}{scope:Scope}{iter elt:Expr}{ifs:List Expr}{wi:TI}{tc:TT}{te:TE}(O:Kg X x Nc Bl scope)(hc:X.calm=true)
  (hN:X.N.Nodup) (hy:X.N[i]?=some y) (hx:X.env.scope.names.lookup y=some .local) (hi:PI X (.Name x px) iter wi)
  (htc:∀ cl C fp s H,PIf (Io X x Nc scope cl C fp s H) ifs tc) (hte:∀ cl C fp s H,PE (Io X x Nc scope cl C fp s H) elt te)
  (hsw:swapsWith (.ListComp elt [⟨.Name x px,iter,ifs,0⟩] scope pos) (some (.Name y py)) spos.line X.env=pure true) (hs:∀ x,foldedSetIterable iter X.env x=pure x:=by intro _;rfl) :
  PS X (.Assign [.Name y py] (.ListComp elt [⟨.Name x px,iter,ifs,0⟩] scope pos) spos) (Agj (Agw wi Bl tc te) (Jq i)):=by
 intro pins s σ H Dn I h
 rw[exec_Assign_Name_used _ _ _ _ hsw]
 refine zA (wpAny_standAt (zA ?_))
 obtain⟨cl,e1,e2,e3⟩:=Ka (scope:=scope) (env:=X.env) λy hy hf=>I.ok.has y.1 (.inl (O.fr y hy hf).1)
 show wpAny _ X.A (do let _ <- comprehension (.ListComp elt [⟨.Name x px,iter,ifs,0⟩] scope pos) scope X.env _ (newList []) false (eval iter X.env) (some (assign (.Name y py) X.env))) _ _ s
 refine zA (zT (wpAny_comprehension_free (use:=some (assign (.Name y py) X.env)) (Q:=λ_ s'=>SP X pins Dn .next s') rfl hs e1 O.kind O.names
  (thn (hi pins s σ H _ I h) λv s1 h1=>thn h1 λitv s2 h2=>?_)) (λ_ s' hq=>zE (zE hq)) λ_ _ e=>e)
 obtain⟨it,fp,tn,J,H2,e,I2,T,st2,f2,w2⟩:=h2
 subst e
 refine Acj (RR:=λacc C=>compPost (model X.prog X.w) X.A X.xe (some (assign (.Name y py) X.env)) (λ_ s'=>SP X pins Dn .next s') acc C) O hc e2 e3 hte htc I2 T st2 f2 w2 ?_
 intro D C s' m hn hq hC
 show wpAny _ X.A (assign (.Name y py) X.env (.ref D)) _ _ _
 obtain⟨H',I',nC,q⟩:=hq s'.heap (.refl ..)
 have I'':Inv X pins σ H' s':=I'
 have CL:C≠X.env.locals:=Aq2 (Aqa I2.lt hC)
 have AbG:∀ y c,X.env.cells.lookup y=some c->c≠C:=λy c e z=>by
  obtain⟨v,q⟩:=I2.cell y c e
  have:=Aqa q.lt hC
  rw[z] at this
  exact Aqu _ this
 refine wpAny_assign_Name (Tn I'' hN hy (.inl hx) (show RelV (.ref D) (.ref D) from rfl) (λs3 I3 hsb=>?_) (.inr hx))
 obtain⟨a,hsb,ha⟩:=hsb
 have aC:C≠a:=by
  rcases ha with z | z
  ·rw[z];exact CL
  ·exact Ne.symm (AbG _ _ z)
 refine⟨m,hn.sameBut hsb aC,λh4 hs4=>?_⟩
 refine⟨_,H',I3.turned (it:=C) (t':=s3.toks) (λb o hb e=>(hs4.2 b hb).trans e) nC CL (.inr (Aqn I2.sz hC)) AbG (λp hp z=>?_),q⟩
 ·have:=Aqa (Heap.lt_size (I2.pin p hp).1) hC
  rw[z] at this
  exact Aqu _ this
def Ao5 (scope sc:Scope):Scope:={ scope with names:=scope.names.map λ(n,k)=>if (k == .free && sc.kind == .function && sc.names.lookup n == some .cell) then (n,.cell) else (n,k) }
theorem AgU{X:Cx}{sc0 sc1 scope:Scope}{x:Str}{Nc:List Str}{cs:List (Str × Addr)}{C:Addr}{fp:List Addr}{s:Shared}{H:Hp}(h:X.env.scope=sc0)(hd:∀ y∈scope.names,y.2=.free->(Ao5 sc1 sc0).names.lookup y.1=some .cell/\scope.names.lookup y.1=some .free) :
  ∀ y∈scope.names,y.2=.free->(Io X x Nc sc1 cs C fp s H).env.scope.names.lookup y.1=some .cell/\scope.names.lookup y.1=some .free:=by
 subst h
 exact hd
end
inductive Ad0 (K:W.Frag) (H:Hp):V->V->Bool->Prop
 | tup {a b:Addr} {xs ys:List V}:SqT K H a xs->SqT K H b ys->xs.all Em=true->ys.all Em=true->Ad0 K H (.ref a) (.ref b) (eqL xs ys)
 | lst {a b:Addr} {xs ys:List V}:SqL K H a xs->SqL K H b ys->xs.all Em=true->ys.all Em=true->Ad0 K H (.ref a) (.ref b) (eqL xs ys)
 | flat {x y:V}:Em x=true->Em y=true->Ad0 K H x y (eqV x y)
section
variable {X:Cx}{K:W.Frag}{pins:List (Addr × Obj)}{σ:St}{H:Hp}{s:Shared}
def ApF (K:W.Frag)(no:Bool):R2:=λx y H Q=>∃(q:Addr) (xs:List V),y=.ref q/\SqL K H q xs /\
 (((∀(i:Nat) (z:V),xs[i]?=some z->∃ b,Ad0 K H z x b)/\(∃(i:Nat) (z:V),xs[i]?=some z/\Ad0 K H z x true)/\Q (.bl (!no)) H)\/((∀(i:Nat) (z:V),xs[i]?=some z->Ad0 K H z x false)/\Q (.bl no) H))
def Apd (K:W.Frag):V->List V->Hp->VK->Prop:=λx vs H Q=>∃(l:Addr) (xs:List V) (v:V) (j:Nat),x=.ref l/\vs=[v]/\H l=some (.lst xs)/\j<xs.length/\xs.length<=1000 /\
 (∀(i:Nat) (z:V),xs[i]?=some z->∃ b,Ad0 K H z v b/\(i<j->b=false)/\(i=j->b=true))/\Q (.int (j:Int)) H
end
def AgV (u:List Nat):It where
 go:=λi _=>i<u.length
 yld:=λi H x H'=>∃ T c,x=.ref T/\H T=none/\u[i]?=some c/\H'=upd H T (.tup [.int (i:Int),.str (tx [c])])
 stop:=λi _=>u.length=i
def AmV (e it:Addr)(u:List Nat)(t:Tok)(i:Nat)(h:Heap):Prop:=(∃ old,IsEnum h e it i old)/\h.IsStrIter it (strIterType (tx u)) (tx u) t i
theorem Ad1{P:Program}{w:World}{K:W.Frag}{es:List Expr}{kx:Nat}{tp:Pos}{e it:Addr}{u:List Nat}{t:Tok}(hei:e≠it) :
  Turn P w K (.Tuple es kx tp) (AgV u) [e,it] e (AmV e it u t) where
 mem:=by simp
 obj:=λi h st c hc=>by
  obtain⟨⟨old,s1⟩,s2⟩:=st
  simp only [Aqs,Aqt,or_false] at hc
  rcases hc with z | z
  ·subst z;exact⟨_,s1,λv z=>by cases (show Data.fields _=Data.cell v from z)⟩
  ·subst z;obtain⟨o,e,_,d⟩:=s2;exact⟨o,e,λv z=>by rw[d] at z;cases z⟩
 keep:=λi h h' st k=>by
  obtain⟨⟨old,s1⟩,o,e1,c,d⟩:=st
  exact⟨⟨old,k _ (by simp) _ s1⟩,o,k _ (by simp) _ e1,c,d⟩
 item:=by
  intro X hP hw hK hc i pins s σ H E I hf st hg
  subst hP hw hK
  have hg:i<u.length:=hg
  obtain⟨⟨old,s1⟩,s4⟩:=st
  have hh:X.A.in1.handled=none:=I.ok.hd hc
  have hn:i<(tx u).cps.size:=by rw[<- zK,Ce];exact hg
  refine wpAny_pyNext_enum_itemD (Xo hh it (tx u) t) s1 s4 hn hei (λz=>?_) λu' h1 tk hu' ho hst hT hsz kk=>?_
  ·simp only [Aqs,Aqt,or_false] at z
   exact hei z
  obtain⟨c,tk',hcu,rfl⟩:=hu'
  have hcu:u[i]?=some c:=by rw[<- zO,Ce] at hcu;exact hcu
  refine⟨_,rfl,wpAny_letOwnedTupleGo_enum ho λh2 he2 sb=>?_⟩
  have sb:Heap.SameBut e h1 h2:=sb
  have el:e<s.heap.objs.size:=Heap.lt_size s1
  have il:it<s.heap.objs.size:=by obtain⟨_,e,_⟩:=s4;exact Heap.lt_size e
  have up:∀ c o,c≠e->h1.get? c=some o->h2.get? c=some o:=λc o c1 z=>(sb.2 c c1).trans z
  have hTn:H s.heap.objs.size=none:=I.hok.fresh (ApR _)
  have I1:Inv X pins σ (upd H s.heap.objs.size (.tup [.int (i:Int),.str (tx [c])])) { s with heap:=s.heap.push { cls:=.type "tuple", data:=.seq #[.int i tk,.str ⟨#[c]⟩ tk'] },toks:=tk+1 } :=
   I.laid (λc o e=>zB _ e) (ApR _) ⟨by show 2<=sizeLine;decide,[.int i tk,.str ⟨#[c]⟩ tk'],.cons ⟨tk,rfl⟩ (.cons ⟨tk',rfl⟩ .nil),⟨_,zD _ rfl,rfl,_,rfl⟩⟩
  have fp2:∀ c'∈[e,it],Gz X pins (upd H s.heap.objs.size (.tup [.int (i:Int),.str (tx [c])])) c':=λc' hc=>by
   obtain⟨f0,f⟩:=hf c' hc
   refine⟨?_,f⟩
   have lt:c'<s.heap.objs.size:=by
    simp only [Aqs,Aqt,or_false] at hc
    rcases hc with e | e <;> subst e <;> assumption
   rw[Ah (ApZ lt)]
   exact f0
  have I2:Inv X pins σ (upd H s.heap.objs.size (.tup [.int (i:Int),.str (tx [c])])) { s with heap:=h2,toks:=tk+1 }:=by
   refine Inv.Wq (s:={ s with heap:=s.heap.push { cls:=.type "tuple", data:=.seq #[.int i tk,.str ⟨#[c]⟩ tk'] },toks:=tk+1 }) (h':=h2) (t':=tk+1) (its:=[e,it]) I1 (λc' o hc z=>?_) fp2
   simp only [Aqs,Aqt,or_false,not_or] at hc
   refine up c' o hc.1 ?_
   by_cases hcs:c'=s.heap.objs.size
   ·subst hcs
    have e':(s.heap.push { cls:=.type "tuple", data:=.seq #[.int i tk,.str ⟨#[c]⟩ tk'] }).get? s.heap.objs.size=some { cls:=.type "tuple", data:=.seq #[.int i tk,.str ⟨#[c]⟩ tk'] }:=zD _ rfl
    rw[e'] at z
    cases z
    exact hT
   ·have e':s.heap.get? c'=some o:=by
     rw[<- z]
     exact(Heap.get?_push_ne _ _ _ hcs).symm
    exact kk c' o hc.1 hc.2 e'
  obtain⟨o3,q1,q2,q3⟩:=hst
  exact⟨.ref s.heap.objs.size,_,I2,rfl,⟨s.heap.objs.size,c,rfl,hTn,hcu,rfl⟩,⟨⟨_,by simpa using he2⟩,o3,up _ _ hei.symm q1,q2,q3⟩,λc hc=>(fp2 c hc).1⟩
 done:=by
  intro X hP hw hK hc i pins s σ H E I hf st hg
  subst hP hw hK
  have hg:u.length=i:=hg
  obtain⟨⟨old,s1⟩,s4⟩:=st
  have hh:X.A.in1.handled=none:=I.ok.hd hc
  have en:i=(tx u).cps.size:=by rw[<- zK,Ce];exact hg.symm
  subst en
  refine wpAny_pyNext_enum_endD (Xo hh it (tx u) t) s1 s4 λh' kk=>⟨rfl,I.Wq (t':=s.toks) (its:=[e,it]) (λc o hc z=>?_) hf⟩
  simp only [Aqs,Aqt,or_false,not_or] at hc
  exact kk c o hc.2 z
 self:=λ_ _ _ _ _ st h=>by obtain⟨⟨old,s1⟩,_⟩:=st;exact wpAny_pyIter_enum s1 h
section
variable {X:Cx}{es:List Expr}{kx:Nat}{tp:Pos}
def Alq (ta:TA):TI:=λσ H R=>ta σ H λvs H1=>∃ u,vs=[.str (tx u)]/\R (AgV u) H1
theorem AgW{a:Expr}{ta:TA}{p pos:Pos}(hg:Gl X "enumerate") (hm:X.mg "enumerate" = none) (ha:PA X [a] ta) (hs:starEach [a] X.env=[(false,eval a X.env)]:=by rfl) :
  PI X (.Tuple es kx tp) (.Call (.Name "enumerate" p) [a] [] pos) (Alq ta):=by
 intro pins s σ H R I h
 refine Call_ (Jc I hg hm AaF (PyProof.Rows.callWith_type1 (thn (ha pos pins s σ H _ I h) λus s1 ⟨vs,H1,I1,r1,q1⟩=>?_) hs rfl))
 obtain⟨u,e,q⟩:=q1
 subst e
 cases r1 with
 | cons r rr =>
  cases rr
  obtain⟨t,rfl⟩:=r
  refine call_enumerate_str λh' he hi hsz kk=>wpAny_pyIter_enum he ?_
  refine⟨_,[s1.heap.objs.size+1,s1.heap.objs.size],_,_,H1,rfl,I1.kept (t':=s1.toks) kk,Ad1 (lne (Aq8 _) 0).symm,⟨⟨_,he⟩,hi⟩,λc hc=>?_,q⟩
  have le:s1.heap.objs.size<=c:=by
   simp only [Aqs,Aqt,or_false] at hc
   rcases hc with e | e <;> subst e <;> omega
  exact I1.AeR le (I1.hok.fresh le)
theorem Af9{u:List Nat}{g:TG}{tb:TS}{D:Ends}{σ:St}{H:Hp}(Pv:Nat->St->Hp->Prop)(h0:Pv 0 σ H)
  (hs:∀ i c σ H T,u[i]?=some c->Pv i σ H->H T=none->g (.ref T) σ (upd H T (.tup [.int (i:Int),.str (tx [c])])) λσ2 H2=>tb { D with nx:=Pv (i+1),ct:=Pv (i+1),bk:=D.nx } σ2 H2) (hd:∀ σ H,Pv u.length σ H->D.nx σ H) :
  ∃ W:Nat->Nat->St->Hp->Prop,(∃ m,W 0 m σ H)/\∀ i m σ H,W i m σ H ->
   ((AgV u).stop i H/\D.nx σ H)\/((AgV u).go i H/\∃ N:St->Hp->Prop,(∀ σ' H',N σ' H'->∃ m',m'<m/\W (i+1) m' σ' H')/\∀ x H',(AgV u).yld i H x H'->g x σ H' λσ2 H2=>tb { D with nx:=N,ct:=N,bk:=D.nx } σ2 H2):=by
 refine⟨λi m σ H=>m=u.length-i/\i<=u.length/\Pv i σ H,⟨u.length,by simp,Aqb _,h0⟩,?_⟩
 rintro i m σ H ⟨rfl,hi,p⟩
 by_cases hlt:i<u.length
 ·refine .inr ⟨hlt,Pv (i+1),λσ' H' p'=>⟨u.length-(i+1),by omega,rfl,hlt,p'⟩,λx H' y=>?_⟩
  obtain⟨T,c,rfl,hT,hc,rfl⟩:=y
  exact hs i c σ H T hc p hT
 ·have e:i=u.length:=by omega
  subst e
  exact .inl ⟨rfl,hd σ H p⟩
end
section
variable {X:Cx}
theorem QC:MtR X "str.strip" (λx vs H Q=>∃ z y:Str,x=.str z/\vs=[.str y]/\z.length<=sizeLine/\Q (.str (Txt.stripChars z y)) H):=by
 intro pins s σ H x vs v us Q I rx rv h
 obtain⟨z,y,rfl,rfl,hz,q⟩:=h
 obtain⟨t,rfl⟩:=rx
 obtain⟨u',rfl,ru⟩:=rv.one
 obtain⟨t',rfl⟩:=ru
 exact SC.stripChars (λt' k=>⟨.str _,H,I.tok _,⟨_,rfl⟩,q⟩) hz
theorem T7:MtR X "str.startswith" (λx vs H Q=>∃ z y:Str,x=.str z/\vs=[.str y]/\Q (.bl (Txt.startswith z y)) H):=by
 intro pins s σ H x vs v us Q I rx rv h
 obtain⟨z,y,rfl,rfl,q⟩:=h
 obtain⟨t,rfl⟩:=rx
 obtain⟨u',rfl,ru⟩:=rv.one
 obtain⟨t',rfl⟩:=ru
 exact SC.startswith ⟨.bl _,H,I,rfl,q⟩
def trim(u:List Nat):List Nat:=((u.dropWhile λc=>decide (c=32)).reverse.dropWhile λc=>decide (c=32)).reverse
theorem AaN(c:Nat):(tx [32]).cps.contains c=decide (c=32):=by
 show(#[32]:Array Nat).contains c=_
 by_cases h:c=32
 ·rw[h];simp
 ·rw[zJ h]
  have h':¬32=c:=λz=>h z.symm
  simp[h,h']
theorem AiU{p:Nat->Bool}(l:List Nat):l.drop (l.takeWhile p).length=l.dropWhile p:=by
 induction l with
 | nil=>rfl
 | cons a l ih =>
  rw[AqZ,List.dropWhile_cons]
  by_cases h:p a=true
  ·rw[if_pos h,if_pos h];exact ih
  ·rw[if_neg h,if_neg h];rfl
theorem Wu(u:List Nat):Txt.stripChars (tx u) (tx [32])=tx (trim u):=by
 rw[Txt.stripChars,W.stripBy_eq]
 have eg:(tx [32]).cps.contains=λc=>decide (c=32):=funext AaN
 rw[eg]
 unfold W.stripped
 simp only [if_true]
 rw[Ce,Ai]
 generalize hp:(λc:Nat=>decide (c=32))=p
 have hd:=AiU (p:=p) u
 rw[hd]
 have hl:(u.takeWhile p).length+(u.dropWhile p).length=u.length:=by
  have:=congrArg List.length (Ar5 (p:=p) (l:=u))
  rw[ApQ] at this
  exact this
 unfold Builtin.Str.strSub trim
 rw[hp]
 apply congrArg
 apply Array.ext'
 rw[Array.toList_extract,Ce]
 show List.extract _ _ _=_
 rw[List.extract_eq_drop_take,hd]
 have hl2:((u.dropWhile p).reverse.takeWhile p).length+((u.dropWhile p).reverse.dropWhile p).length=(u.dropWhile p).length:=by
  have:=congrArg List.length (Ar5 (p:=p) (l:=(u.dropWhile p).reverse))
  rw[ApQ,AqF] at this
  exact this
 have e:u.length-((u.dropWhile p).reverse.takeWhile p).length-(u.takeWhile p).length=((u.dropWhile p).reverse.dropWhile p).length:=by omega
 rw[e]
 have e2:(u.dropWhile p)=((u.dropWhile p).reverse.dropWhile p).reverse++((u.dropWhile p).reverse.takeWhile p).reverse:=by
  rw[<- List.reverse_append,Ar5,Ar3]
 generalize ((u.dropWhile p).reverse.takeWhile p)=a at e2
 generalize hb:((u.dropWhile p).reverse.dropWhile p)=b at e2 ⊢
 rw[e2,ArB (by rw[AqF];exact ApR _),Aq1 (by rw[AqF];exact ApR _)]
theorem T8(u:List Nat)(c:Nat):Txt.startswith (tx u) (tx [c])=decide (u.head?=some c):=by
 unfold Txt.startswith Builtin.Str.subAt
 rw[Ai,Ai]
 cases u with
 | nil=>rfl
 | cons a u =>
  have e:((tx (a::u)).cps.extract 0 (0+[c].length))=#[a]:=by
   apply Array.ext'
   rw[Array.toList_extract,Ce]
   rfl
  rw[e]
  show(decide (0+1<=u.length+1) && (#[a] == #[c]))=_
  rw[zN (by omega),Arv]
  by_cases h:a=c
  ·rw[h];simp
  ·rw[zJ (by simpa using h)]
   simpa using h
end
def ApG (K:W.Frag)(n:Nat)(t:TGs):TG:=λv σ H Q=>∃ a xs,v=.ref a/\SqL K H a xs/\xs.length=n/\t xs σ H Q
theorem AiV{X:Cx}{body:List Stmt}{h₀:ExceptHandler}{hs:List ExceptHandler}{pos:Pos}{t:TS}(hx:∀ e s,X.xe e s->False)(hb:PSs X body t):PS X (.Try body (h₀::hs) [] [] pos) t:=by
 intro pins s σ H D I h
 refine wpAny_Try_except (zT (hb pins s σ H D I h) (λf s1 q=>?_) λe s1 z=>(hx e s1 z).elim)
 match f,q with
 | .next,q=>exact wpAny_execs_nil q
 | .brk,q=>exact q
 | .cont,q=>exact q
 | .ret u,q=>exact q
theorem AgX{X:Cx}{e:Expr}:PE X e (λ_ _ _=>False):=λ_ _ _ _ _ _ h=>h.elim
theorem Bb{X:Cx}{j k:Nat}{f:Addr}{fd:FuncData}{ps:List Str}{sp:Sp}{x:Str}{st:Stmt}{e:Expr}{es:List Expr}{t:TA}{p pos:Pos}(D:Df X.K X.mg x st ps f fd)(F:Bd X.prog X.w X.K X.mg X.base CX0 j f fd ps sp)(hr:Gp k X.A)
  (ha:PA X (e::es) t) (h:j<=k:=by decide) (hg:Gl X x:=by rfl) (hdb:(x == ("__debug__" : Str))=false:=by decide) (he:starEach (e::es) X.env=(false,eval e X.env)::starEach es X.env:=by rfl) (hpl:(backTo pos (starEach es X.env)).any (·.1)=false:=by rfl) :
  PE X (.Call (.Name x p) (e::es) [] pos) (AjK sp [] E0 t):=Ed (F.mono h) hr hg D.m D.F.kp D.b .nil By ha hdb he hpl
theorem cok{X:Cx}{x:Str}{scope sc0:Scope}{N P:List Str}(Bl:List Nat)(Nc:List Str)(F:Aj N P sc0)(hN:X.N=N:=by rfl)(hs:X.env.scope=sc0:=by rfl)
  (h:scope.kind=.function/\scope.names.lookup x=some .local/\Nc.length=Bl.length+1/\Nc[0]?=some x:=by exact⟨rfl,rfl,rfl,rfl⟩)
  (g:(∀ y∈scope.names,y.2≠.cell)/\(∀ y∈scope.names,y.2=.local->scope.names.lookup y.1=some .local)/\(∀ y∈scope.names,y.2=.free->sc0.names.lookup y.1=some .cell/\scope.names.lookup y.1=some .free)/\Nc.Nodup/\∀ k,k<Bl.length->N[Bl.getD k 0]?=Nc[k+1]?/\(Nc[k+1]?.bind λy=>scope.names.lookup y)=some .free:=by decide +kernel):LK X x Nc Bl scope:=by
 obtain⟨h1,h2,h3,h4⟩:=h
 obtain⟨g1,g2,g3,g4,g5⟩:=g
 refine⟨h1,g1,g2,AaD hs g3,h2,h3,h4,g4,λk j hk=>?_⟩
 have kl:k<Bl.length:=(zC.mp hk).1
 obtain⟨a,b⟩:=g5 k kl
 rw[Aqj,hk] at a
 cases e:Nc[k+1]? with
 | none=>rw[e] at b;cases b
 | some y=>rw[e] at a b;exact⟨y,rfl,by rw[hN];exact a,b⟩
end L2
set_option maxHeartbeats 4000000
namespace Mine
open PySem L2
def top (i:Nat):Stmt:=PySem.Challenge.pw_heddle_k64_whole_drafts_asked.main.body.getD i (.Pass ⟨0,0,0,0⟩)
abbrev X7:Stmt:=top 16
theorem Ack:Aj ["cloth"] ["cloth"] (Af X7):=sc9
abbrev ZP:Stmt:=top 17
theorem X8:Aj ["cloth"] ["cloth"] (Af ZP):=sc9
abbrev QD:Stmt:=top 18
theorem Jg:Aj ["cloth", "size"] ["cloth"] (Af QD):=sc9
abbrev Jx:Stmt:=top 19
theorem Fl:Aj ["texts", "least", "signs", "ends", "text"] ["texts", "least", "signs"] (Af Jx):=sc9
abbrev QF:Stmt:=top 20
theorem Ot:Aj ["text", "ends", "signs", "sign"] ["text", "ends", "signs"] (Af QF):=sc9
abbrev U3:Stmt:=top 22
theorem QG:Aj ["cloth", "end"] ["cloth", "end"] (Af U3):=sc9
abbrev Mg:Stmt:=top 23
theorem K4:Aj ["signs"] ["signs"] (Af Mg):=sc9
abbrev Aek:Stmt:=top 27
theorem Acl:Aj ["draft"] ["draft"] (Af Aek):=sc9
abbrev Ou:Stmt:=top 28
theorem BW:Aj ["cloth", "size", "ends", "unlike_ends", "unlike_picks", "threading", "treading"] ["cloth"] (Af Ou):=sc9
abbrev K5:Stmt:=top 29
theorem FW:Aj ["threading", "ties", "shaft", "tie"] ["threading", "ties"] (Af K5):=sc9
abbrev Gr:Stmt:=top 30
theorem Ls:Aj ["count"] ["count"] (Af Gr):=sc9
abbrev Ov:Stmt:=top 32
theorem XC:Aj ["shaft"] ["shaft"] (Af Ov):=sc9
abbrev U4:Stmt:=top 33
theorem QH:Aj ["tie", "k"] ["tie"] (Af U4):=sc9
abbrev Jy:Stmt:=top 34
theorem Ip:Aj ["treading", "treadles", "treadle"] ["treading", "treadles"] (Af Jy):=sc9
abbrev U5:Stmt:=top 35
theorem QJ:Aj ["threading", "lifted"] ["threading", "lifted"] (Af U5):=sc9
abbrev Jh:Stmt:=top 36
theorem XD:Aj ["threading", "text"] ["threading", "text"] (Af Jh):=sc9
abbrev Acm:Stmt:=top 37
theorem T9:Aj ["things", "found", "thing"] ["things"] (Af Acm):=sc9
abbrev ZQ:Stmt:=top 42
theorem XF:Aj ["text"] ["text"] (Af ZQ):=sc9
abbrev U6:Stmt:=top 46
theorem AaO:Aj ["figures"] ["figures"] (Af U6):=sc9
abbrev XH:Stmt:=top 52
theorem U7:Aj ["text", "row_items"] ["text"] (Af XH):=sc9
abbrev Ael:Stmt:=top 53
theorem Acn:Aj ["row"] ["row"] (Af Ael):=sc9
abbrev QK:Stmt:=top 54
theorem Ow:Aj ["row_items"] ["row_items"] (Af QK):=sc9
abbrev Ox:Stmt:=top 55
theorem Hx:Aj ["row_items", "written", "item"] ["row_items"] (Af Ox):=sc9
abbrev K6:Stmt:=top 56
theorem TF:Aj ["start", "stop"] ["start", "stop"] (Af K6):=sc9
abbrev XJ:Stmt:=top 57
theorem Fi:Aj ["text", "reader", "row_items"] ["text"] (Af XJ):=sc9
abbrev QL:Stmt:=top 58
theorem Oz:Aj ["reader", "depth", "row_items"] ["reader", "depth"] (Af QL):=sc9
abbrev U8:Stmt:=top 59
theorem QM:Aj ["reader", "depth", "first"] ["reader", "depth"] (Af U8):=sc9
abbrev U9:Stmt:=top 61
theorem QQ:Aj ["reader", "first", "stops"] ["reader", "first"] (Af U9):=sc9
abbrev Hy:Stmt:=top 62
theorem Hb:Aj ["reader", "number"] ["reader"] (Af Hy):=sc9
abbrev Aco:Stmt:=top 64
theorem TJ:Aj ["row", "paths", "number"] ["row"] (Af Aco):=sc9
abbrev Mh:Stmt:=top 65
theorem K7:Aj ["path"] ["path"] (Af Mh):=sc9
abbrev ZR:Stmt:=top 66
theorem Ad2:Aj ["path", "k"] ["path", "k"] (Af ZR):=sc9
abbrev K8:Stmt:=top 70
theorem FZ:Aj ["draft", "ties"] ["draft"] (Af K8):=sc9
abbrev QR:Stmt:=top 71
theorem Ey:Aj ["text", "parts", "threading", "ties"] ["text"] (Af QR):=sc9
abbrev QS:Stmt:=top 106
theorem Zd:Aj ["ends", "picks"] ["ends", "picks"] (Af QS):=sc9
abbrev ZS:Stmt:=top 109
theorem Ad3:Aj ["word", "things"] ["word", "things"] (Af ZS):=sc9
abbrev Mi:Stmt:=top 114
theorem Wa:Aj ["text", "known"] ["text", "known"] (Af Mi):=sc9
abbrev QT:Stmt:=top 115
theorem Ji:Aj ["text", "reader", "node"] ["text"] (Af QT):=sc9
abbrev UG:Stmt:=top 116
theorem Kl:Aj ["reader", "depth", "word", "things"] ["reader", "depth"] (Af UG):=sc9
abbrev O1:Stmt:=top 117
theorem Hz:Aj ["reader", "word", "depth", "things", "kind"] ["reader", "word", "depth"] (Af O1):=sc9
abbrev UJ:Stmt:=top 118
theorem QV:Aj ["reader", "runs"] ["reader"] (Af UJ):=sc9
abbrev XM:Stmt:=top 119
theorem UL:Aj ["reader", "run"] ["reader"] (Af XM):=sc9
abbrev QW:Stmt:=top 123
theorem Jj:Aj ["node", "known", "things"] ["node", "known"] (Af QW):=sc9
abbrev O2:Stmt:=top 124
theorem HB:Aj ["name", "known", "one", "cloth"] ["name", "known"] (Af O2):=sc9
abbrev O3:Stmt:=top 125
theorem XN:Aj ["word", "inner"] ["word", "inner"] (Af O3):=sc9
abbrev UT:Stmt:=top 129
theorem Hh:Aj ["text", "pairs", "line", "stripped"] ["text"] (Af UT):=sc9
abbrev UW:Stmt:=top 130
theorem Fo:Aj ["line", "known", "place", "name", "rest"] ["line", "known"] (Af UW):=sc9
abbrev K9:Stmt:=top 131
theorem Ga:Aj ["line", "place", "sign"] ["line"] (Af K9):=sc9
abbrev QX:Stmt:=top 179
theorem DR:Aj ["paper", "lines", "book"] ["paper"] (Af QX):=sc9
abbrev XQ:Stmt:=top 180
theorem Va:Aj ["text"] ["text"] (Af XQ):=sc9
abbrev Vb:Stmt:=top 181
theorem AaP:Aj ["words", "book", "e"] ["words", "book"] (Af Vb):=sc9
abbrev XR:Stmt:=top 182
theorem Vc:Aj ["words", "book", "word"] ["words", "book"] (Af XR):=sc9
abbrev Vd:Stmt:=top 183
theorem QZ:Aj ["word", "things", "book", "cloth", "layers"] ["word", "things", "book"] (Af Vd):=sc9
abbrev HD:Stmt:=top 187
theorem Oe:Aj ["fits"] ["fits"] (Af HD):=sc9
abbrev Ra:Stmt:=top 189
theorem Ze:Aj ["word"] ["word"] (Af Ra):=sc9
abbrev Acp:Stmt:=top 193
theorem AfA:Aj ["script", "k"] ["script", "k"] (Af Acp):=sc9
abbrev Ve:Stmt:=top 194
theorem Bv:Aj ["script", "ends", "picks", "numbers", "k", "at", "number", "like", "rows", "signs"] ["script"] (Af Ve):=sc9
abbrev XS:Stmt:=top 195
theorem En:Aj ["rows", "by_draft", "parts", "ties", "row"] ["rows", "by_draft"] (Af XS):=sc9
abbrev Vf:Stmt:=top 196
theorem AaQ:Aj ["sign"] ["sign"] (Af Vf):=sc9
abbrev Ir:Stmt:=top 197
theorem Hi:Aj ["rows", "way", "back", "quarter"] ["rows", "way"] (Af Ir):=sc9
abbrev Rb:Stmt:=top 198
theorem O4:Aj ["word"] ["word"] (Af Rb):=sc9
abbrev Mj:Stmt:=top 199
theorem Cm:Aj ["text", "row", "path", "numbers", "k", "step", "far"] ["text"] (Af Mj):=sc9
abbrev Jz:Stmt:=top 200
theorem Eg:Aj ["row", "most", "number"] ["row"] (Af Jz):=sc9
abbrev Rc:Stmt:=top 201
theorem O5:Aj ["tie"] ["tie"] (Af Rc):=sc9
abbrev Rg:Stmt:=top 202
theorem Jk:Aj ["threading", "ties", "treading", "rows", "j", "k"] ["threading", "ties", "treading", "rows"] (Af Rg):=sc9
abbrev Vg:Stmt:=top 203
theorem Dk:Aj ["threading", "treading", "rows", "k", "other", "alike", "j"] ["threading", "treading", "rows"] (Af Vg):=sc9
abbrev Vh:Stmt:=top 204
theorem DK:Aj ["rows", "answer", "parts", "threading", "ties", "tie", "treading"] ["rows", "answer"] (Af Vh):=sc9
abbrev AjV:Stmt:=top 205
theorem Km:Aj ["script", "rows", "ways", "lines", "way", "name", "found", "answer"] ["script"] (Af AjV):=sc9
abbrev J0:Stmt:=(Dq (top 26)).getD 0 (.Pass ⟨0,0,0,0⟩)
theorem Iu:Aj ["self", "threading", "ties", "treading"] ["self", "threading", "ties", "treading"] (Af J0):=sc9
abbrev Iv:Stmt:=(Dq (top 45)).getD 0 (.Pass ⟨0,0,0,0⟩)
theorem Qm:Aj ["self", "text"] ["self", "text"] (Af Iv):=sc9
abbrev Ml:Stmt:=(Dq (top 45)).getD 1 (.Pass ⟨0,0,0,0⟩)
theorem Wb:Aj ["self"] ["self"] (Af Ml):=sc9
abbrev O6:Stmt:=(Dq (top 45)).getD 2 (.Pass ⟨0,0,0,0⟩)
theorem Mm:Aj ["self", "wanted", "behind"] ["self", "wanted"] (Af O6):=sc9
abbrev J1:Stmt:=(Dq (top 45)).getD 3 (.Pass ⟨0,0,0,0⟩)
theorem Iw:Aj ["self", "signs", "begin"] ["self", "signs"] (Af J1):=sc9
abbrev KC:Stmt:=(Dq (top 45)).getD 4 (.Pass ⟨0,0,0,0⟩)
theorem TQ:Aj ["self"] ["self"] (Af KC):=sc9
abbrev KD:Stmt:=(Dq (top 50)).getD 0 (.Pass ⟨0,0,0,0⟩)
theorem TV:Aj ["self", "stops"] ["self", "stops"] (Af KD):=sc9
abbrev Vi:Stmt:=(Dq (top 50)).getD 1 (.Pass ⟨0,0,0,0⟩)
theorem Hj:Aj ["self", "total", "k"] ["self"] (Af Vi):=sc9
abbrev Mp:Stmt:=(Dq (top 50)).getD 2 (.Pass ⟨0,0,0,0⟩)
theorem G9:Aj ["self", "written", "stop"] ["self"] (Af Mp):=sc9
abbrev J2:Stmt:=(Dq (top 92)).getD 0 (.Pass ⟨0,0,0,0⟩)
theorem Rh:Aj ["self", "texts", "writing"] ["self", "texts", "writing"] (Af J2):=sc9
abbrev O7:Stmt:=(Dq (top 92)).getD 4 (.Pass ⟨0,0,0,0⟩)
theorem XX:Aj ["self"] ["self"] (Af O7):=sc9
abbrev Ri:Stmt:=(Dq (top 92)).getD 5 (.Pass ⟨0,0,0,0⟩)
theorem Zf:Aj ["self"] ["self"] (Af Ri):=sc9
abbrev J3:Stmt:=(Dq (top 93)).getD 0 (.Pass ⟨0,0,0,0⟩)
theorem Rj:Aj ["self", "name", "known_cloth"] ["self", "name", "known_cloth"] (Af J3):=sc9
abbrev KH:Stmt:=(Dq (top 94)).getD 0 (.Pass ⟨0,0,0,0⟩)
theorem J4:Aj ["self", "runs"] ["self", "runs"] (Af KH):=sc9
abbrev KJ:Stmt:=(Dq (top 101)).getD 0 (.Pass ⟨0,0,0,0⟩)
theorem TX:Aj ["self", "inner"] ["self", "inner"] (Af KJ):=sc9
abbrev HF:Stmt:=(Dq (top 102)).getD 0 (.Pass ⟨0,0,0,0⟩)
theorem Og:Aj ["self", "inner"] ["self", "inner"] (Af HF):=sc9
set_option genInjectivity false in
structure Adr where
 {Eh:Addr}
 {Bh:Addr}
 {Gb:Addr}
 {Ez:Addr}
 {Fp:Addr}
 {HH:Addr}
 {Jl:Addr}
 {DW:Addr}
 {Rk:Addr}
 {AaR:Addr}
 {Fq:Addr}
 {Gd:Addr}
 {J5:FuncData}
 {Fv:Addr}
 {Iz:FuncData}
 {Mq:Addr}
 {Mr:FuncData}
 {O8:Addr}
 {O9:FuncData}
 {J6:Addr}
 {J7:FuncData}
 {GC:Addr}
 {GD:FuncData}
 {GF:Addr}
 {KN:FuncData}
 {Vj:Addr}
 {Vk:FuncData}
 {Ms:Addr}
 {Mt:FuncData}
 {Ep:Addr}
 {J8:FuncData}
 {De:Addr}
 {OD:FuncData}
 {Dl:Addr}
 {Rm:FuncData}
 {Ge:Addr}
 {J9:FuncData}
 {GJ:Addr}
 {KQ:FuncData}
 {GK:Addr}
 {KR:FuncData}
 {Fe:Addr}
 {HJ:FuncData}
 {Yb:Addr}
 {Yc:FuncData}
 {ZV:Addr}
 {ZW:FuncData}
 {Ro:Addr}
 {Rp:FuncData}
 {JB:Addr}
 {JC:FuncData}
 {Rq:Addr}
 {Rr:FuncData}
 {Vl:Addr}
 {Vm:FuncData}
 {Mu:Addr}
 {Mv:FuncData}
 {Aem:Addr}
 {Aen:FuncData}
 {OJ:Addr}
 {Pa:FuncData}
 {KY:Addr}
 {KZ:FuncData}
 {Gs:Addr}
 {Gu:FuncData}
 {Pb:Addr}
 {Pg:FuncData}
 {Vn:Addr}
 {Vo:FuncData}
 {JD:Addr}
 {JF:FuncData}
 {Vp:Addr}
 {Vq:FuncData}
 {Ph:Addr}
 {Pj:FuncData}
 {Acq:Addr}
 {Acr:FuncData}
 {ZX:Addr}
 {ZZ:FuncData}
 {Vr:Addr}
 {Vs:FuncData}
 {Qn:Addr}
 {Qo:FuncData}
 {Wv:Addr}
 {Ww:FuncData}
 {Rt:Addr}
 {Ru:FuncData}
 {Pk:Addr}
 {Pn:FuncData}
 {La:Addr}
 {Lb:FuncData}
 {Ko:Addr}
 {Kp:FuncData}
 {Rw:Addr}
 {Rx:FuncData}
 {Vt:Addr}
 {Vu:FuncData}
 {Vv:Addr}
 {Vw:FuncData}
 {HN:Addr}
 {HQ:FuncData}
 {Acs:Addr}
 {Acu:FuncData}
 {Mw:Addr}
 {Mx:FuncData}
 {Aaa:Addr}
 {Aab:FuncData}
 {Ld:Addr}
 {Le:FuncData}
 {Ry:Addr}
 {Rz:FuncData}
 {R8:Addr}
 {R9:FuncData}
 {Aac:Addr}
 {Aad:FuncData}
 {My:Addr}
 {Mz:FuncData}
 {RB:Addr}
 {RC:FuncData}
 {Gv:Addr}
 {Gw:FuncData}
 {Jm:Addr}
 {Jo:FuncData}
 {Vx:Addr}
 {Vy:FuncData}
 {Yd:Addr}
 {Ye:FuncData}
 {Fw:Addr}
 {Fy:FuncData}
 {Pq:Addr}
 {Pr:FuncData}
 {Pu:Addr}
 {Px:FuncData}
 {Vz:Addr}
 {V0:FuncData}
 {V1:Addr}
 {V3:FuncData}
 {Lf:Addr}
 {Lg:FuncData}
 {Kq:Addr}
 {Kr:FuncData}
 {Yg:Addr}
 {Yh:FuncData}
 {V4:Addr}
 {V5:FuncData}
 {Yi:Addr}
 {Yj:FuncData}
 {V6:Addr}
 {V7:FuncData}
 {HR:Addr}
 {HS:FuncData}
 {RD:Addr}
 {RG:FuncData}
 {Yk:Addr}
 {Yl:FuncData}
 {M3:Addr}
 {M4:FuncData}
 {Qp:Addr}
 {Qq:FuncData}
 {V8:Addr}
 {V9:FuncData}
 {M5:Addr}
 {M6:FuncData}
 {RJ:Addr}
 {RK:FuncData}
 {HW:Addr}
 {HX:FuncData}
 {JG:Addr}
 {JH:FuncData}
 {RL:Addr}
 {RM:FuncData}
 {RN:Addr}
 {RP:FuncData}
 {VB:Addr}
 {VD:FuncData}
 {M7:Addr}
 {M8:FuncData}
 {AjW:Addr}
 {AgY:FuncData}
 {Hk:Addr}
structure Txt (K:W.Frag) (mg:Str->Option Value) (t:Adr):Prop where
 measured:Df K mg "measured" X7 ["cloth"] t.Yb t.Yc
 Aeo:Df K mg "back_of" ZP ["cloth"] t.ZV t.ZW
 Ym:Df K mg "quarter_of" QD ["cloth"] t.Ro t.Rp
 M9:Df K mg "measured_texts" Jx ["texts", "least", "signs"] t.JB t.JC
 Yn:Df K mg "check_pick" QF ["text", "ends", "signs"] t.Rq t.Rr
 TY:Df K mg "end_signs" U3 ["cloth", "end"] t.Vl t.Vm
 Ks:Df K mg "turned_signs" Mg ["signs"] t.Mu t.Mv
 AjX:Df K mg "woven" Aek ["draft"] t.Aem t.Aen
 VF:Df K mg "least_draft" Ou ["cloth"] t.OJ t.Pa
 Py:Df K mg "check_setting" K5 ["threading", "ties"] t.KY t.KZ
 Bw:DfA K mg "check_count_drafts" "check_count" Gr ["count"] t.Gs t.Gu
 MF:Df K mg "check_shaft" Ov ["shaft"] t.Pb t.Pg
 Aae:Df K mg "check_tie" U4 ["tie"] t.Vn t.Vo
 MJ:Df K mg "check_treading" Jy ["treading", "treadles"] t.JD t.JF
 Aaf:Df K mg "shed_over" U5 ["threading", "lifted"] t.Vp t.Vq
 VG:Df K mg "shafts_over" Jh ["threading", "text"] t.Ph t.Pj
 unlike:Df K mg "unlike" Acm ["things"] t.Acq t.Acr
 NB:Df K mg "is_name" ZQ ["text"] t.ZX t.ZZ
 Aag:Df K mg "number_of" U6 ["figures"] t.Vr t.Vs
 RQ:Df K mg "unfolded" XH ["text"] t.Qn t.Qo
 shown:Df K mg "shown" Ael ["row"] t.Wv t.Ww
 Yo:Df K mg "whole_size" QK ["row_items"] t.Rt t.Ru
 VH:Df K mg "all_numbers" Ox ["row_items"] t.Pk t.Pn
 Pz:Df K mg "steps_between" K6 ["start", "stop"] t.La t.Lb
 Yp:Df K mg "read_row" XJ ["text"] t.Ko t.Kp
 Qs:Df K mg "read_items" QL ["reader", "depth"] t.Rw t.Rx
 Ua:Df K mg "read_item" U8 ["reader", "depth"] t.Vt t.Vu
 Aah:Df K mg "read_path" U9 ["reader", "first"] t.Vv t.Vw
 CK:DfA K mg "read_number_rows" "read_number" Hy ["reader"] t.HN t.HQ
 parted:Df K mg "parted" Aco ["row"] t.Acs t.Acu
 RT:Df K mg "written_path" Mh ["path"] t.Mw t.Mx
 Aep:Df K mg "is_stop" ZR ["path", "k"] t.Aaa t.Aab
 P0:Df K mg "written_draft" K8 ["draft"] t.Ld t.Le
 Yq:Df K mg "read_draft" QR ["text"] t.Ry t.Rz
 Yr:Df K mg "check_size" QS ["ends", "picks"] t.R8 t.R9
 written:Df K mg "written" ZS ["word", "things"] t.Aac t.Aad
 RW:Df K mg "read_pattern" Mi ["text", "known"] t.My t.Mz
 Ys:Df K mg "read_whole" QT ["text"] t.RB t.RC
 JK:Df K mg "read_node" UG ["reader", "depth"] t.Gv t.Gw
 IK:Df K mg "read_things" O1 ["reader", "word", "depth"] t.Jm t.Jo
 NK:Df K mg "read_runs" UJ ["reader"] t.Vx t.Vy
 Yt:Df K mg "read_run" XM ["reader"] t.Yd t.Ye
 HY:Df K mg "worked_out" QW ["node", "known"] t.Fw t.Fy
 Gx:Df K mg "known_cloth" O2 ["name", "known"] t.Pq t.Pr
 IV:Df K mg "made_of_one" O3 ["word", "inner"] t.Pu t.Px
 Aai:Df K mg "read_book" UT ["text"] t.Vz t.V0
 Aaj:Df K mg "read_line" UW ["line", "known"] t.V1 t.V3
 PB:Df K mg "parting_place" K9 ["line"] t.Lf t.Lg
 Yu:Df K mg "answers_to" QX ["paper"] t.Kq t.Kr
 words_of:Df K mg "words_of" XQ ["text"] t.Yg t.Yh
 Aak:Df K mg "answer_to" Vb ["words", "book"] t.V4 t.V5
 answered:Df K mg "answered" XR ["words", "book"] t.Yi t.Yj
 Aal:Df K mg "of_a_name" Vd ["word", "things", "book"] t.V6 t.V7
 Er:DfA K mg "check_count_desk" "check_count" HD ["fits"] t.HR t.HS
 Yv:Df K mg "check_name" Ra ["word"] t.RD t.RG
 MK:Df K mg "_law_at" Acp ["script", "k"] t.Yk t.Yl
 Aam:Df K mg "_law_cloth" Ve ["script"] t.M3 t.M4
 Acv:Df K mg "_law_told" XS ["rows", "by_draft"] t.Qp t.Qq
 Ub:Df K mg "_law_other" Vf ["sign"] t.V8 t.V9
 Uc:Df K mg "_law_asked" Ir ["rows", "way"] t.M5 t.M6
 Yw:Df K mg "_law_number" Rb ["word"] t.RJ t.RK
 Hl:Df K mg "_law_unfolded" Mj ["text"] t.HW t.HX
 Ia:Df K mg "_law_first_come" Jz ["row"] t.JG t.JH
 Yx:Df K mg "_law_rising" Rc ["tie"] t.RL t.RM
 Yy:Df K mg "_law_weaves" Rg ["threading", "ties", "treading", "rows"] t.RN t.RP
 Aan:Df K mg "_law_least" Vg ["threading", "treading", "rows"] t.VB t.VD
 Aao:Df K mg "_law_right" Vh ["rows", "answer"] t.M7 t.M8
 law:Df K mg "law" AjV ["script"] t.AjW t.AgY
 AgZ:mg "abs" = none
 Acw:mg "all" = none
 AjY:mg "any" = none
 Acx:mg "enumerate" = none
 AjZ:mg "int" = none
 Hm:mg "isinstance" = none
 BK:mg "len" = none
 Ku:mg "list" = none
 Aka:mg "max" = none
 Ape:mg "min" = none
 Cv:mg "range" = none
 Yz:mg "reversed" = none
 AmW:mg "set" = none
 Aha:mg "sorted" = none
 Acy:mg "str" = none
 AmX:mg "sum" = none
 Aeq:mg "tuple" = none
 Akb:mg "zip" = none
 Eo:∃ tk,mg "MOST_STRANDS" = some (.int 40 tk)
 Zg:∃ tk,mg "MOST_SHAFTS" = some (.int 40 tk)
 Aap:∃ tk,mg "LETTERS" = some (.str "abcdefghijklmnopqrstuvwxyz" tk)
 Y0:∃ tk,mg "MOST_LETTERS" = some (.int 20 tk)
 AfB:∃ tk,mg "FIGURES" = some (.str "0123456789" tk)
 Y4:∃ tk,mg "MOST_NUMBERS" = some (.int 400 tk)
 AfC:∃ tk,mg "MOST_DEEP_rows" = some (.int 8 tk)
 Lh:∃ tk,mg "BETWEEN_PARTS" = some (.str " / " tk)
 MN:∃ tk,mg "BETWEEN_TIES" = some (.str ", " tk)
 Qt:∃ tk,mg "MOST_DEEP_reader" = some (.int 12 tk)
 Acz:∃ tk,mg "MOST_RUNS" = some (.int 40 tk)
 Amd:∃ tk,mg "COLOURS" = some (.str "abcdef" tk)
 Alr:∃ tk,mg "SHUTTLES" = some (.int 8 tk)
 Ahb:∃ tk,mg "MOST_FIGURES" = some (.int 60 tk)
 AiW:mg "WeaveError" = some (.ref t.Hk)
 AiX:Exn K t.Hk
 Aaq:W.mroIn K t.Hk (.ref t.Hk)=some true
 Aer:mg "Draft" = some (.ref t.Eh)
 Fz:L2.Own K t.Eh t.Gd
 Ff:Cy K t.Eh "threading"
 Jp:Cy K t.Eh "ties"
 FJ:Cy K t.Eh "treading"
 Y5:mg "Reader" = some (.ref t.Bh)
 Bj:L2.Own K t.Bh t.Fv
 Du:Cy K t.Bh "text"
 BX:Cy K t.Bh "place"
 Als:mg "Path" = some (.ref t.Gb)
 Kv:L2.Own K t.Gb t.GF
 DX:Cy K t.Gb "stops"
 Wx:mg "Piece" = some (.ref t.Ez)
 AnF:L2.Own K t.Ez t.Ep
 Ahc:Cy K t.Ez "texts"
 AfD:Cy K t.Ez "writing"
 AiY:mg "Named" = some (.ref t.Fp)
 AaS:L2.Own K t.Fp t.Ge
 MP:Cy K t.Fp "texts"
 JL:Cy K t.Fp "writing"
 Y6:Meth K t.Fp "cloth" t.De
 Zh:Meth K t.Fp "told" t.Dl
 Alu:mg "Rows" = some (.ref t.HH)
 Ad4:L2.Own K t.HH t.GJ
 PJ:Cy K t.HH "texts"
 Li:Cy K t.HH "writing"
 Zi:Meth K t.HH "cloth" t.De
 AaT:Meth K t.HH "told" t.Dl
 Alv:mg "Back" = some (.ref t.Jl)
 Ad5:L2.Own K t.Jl t.GK
 PL:Cy K t.Jl "texts"
 Lj:Cy K t.Jl "writing"
 Zj:Meth K t.Jl "cloth" t.De
 AaU:Meth K t.Jl "told" t.Dl
 AfE:mg "Quarter" = some (.ref t.DW)
 Ud:L2.Own K t.DW t.Fe
 JM:Cy K t.DW "texts"
 Ib:Cy K t.DW "writing"
 Ue:Meth K t.DW "cloth" t.De
 Wc:Meth K t.DW "told" t.Dl
 RX:AmE K t.Ez "__init__" t.Ep
 AiZ:mg "WORDS" = some (.ref t.AaR)
 Aja:AkY K t.AaR (["rows", "twill", "satin", "beside", "above", "mirror", "upend", "back", "quarter", "tile", "blocks", "lay"]:List Str)
 RZ:mg "ASKED_OF_A_NAME" = some (.ref t.Fq)
 Sh:AkY K t.Fq (["cloth", "layers", "draft", "shifts", "floats"]:List Str)
 Ac0:mg "THINGS" = some (.ref t.Rk)
 Ac1:Top K t.Rk ([("twill", "nn"),("satin", "nn"),("beside", "pp"),("above", "pp"),("mirror", "p"),("upend", "p"),("back", "p"),("quarter", "p"),("tile", "pnn"),("blocks", "ppp"),("lay", "pp")]:List (Str × Str))
 Gf:Mf K "__init__" "Draft.__init__" J0 ["self", "threading", "ties", "treading"] t.Eh t.Gd t.J5
 CT:Mf K "__init__" "Reader.__init__" Iv ["self", "text"] t.Bh t.Fv t.Iz
 Cw:Mf K "ended" "Reader.ended" Ml ["self"] t.Bh t.Mq t.Mr
 BL:Mf K "took" "Reader.took" O6 ["self", "wanted"] t.Bh t.O8 t.O9
 Ba:Mf K "stretch" "Reader.stretch" J1 ["self", "signs"] t.Bh t.J6 t.J7
 GP:Mf K "number" "Reader.number" KC ["self"] t.Bh t.GC t.GD
 EY:Mf K "__init__" "Path.__init__" KD ["self", "stops"] t.Gb t.GF t.KN
 MT:Mf K "size" "Path.size" Vi ["self"] t.Gb t.Vj t.Vk
 Ie:Mf K "numbers" "Path.numbers" Mp ["self"] t.Gb t.Ms t.Mt
 Dv:Mf K "__init__" "Piece.__init__" J2 ["self", "texts", "writing"] t.Ez t.Ep t.J8
 Gm:Mf K "cloth" "Piece.cloth" O7 ["self"] t.Ez t.De t.OD
 Kw:Mf K "told" "Piece.told" Ri ["self"] t.Ez t.Dl t.Rm
 JN:Mf K "__init__" "Named.__init__" J3 ["self", "name", "known_cloth"] t.Fp t.Ge t.J9
 Ln:Mf K "__init__" "Rows.__init__" KH ["self", "runs"] t.HH t.GJ t.KQ
 Lp:Mf K "__init__" "Back.__init__" KJ ["self", "inner"] t.Jl t.GK t.KR
 Ig:Mf K "__init__" "Quarter.__init__" HF ["self", "inner"] t.DW t.Fe t.HJ
theorem bl1{fd:FuncData}{ps:List Str}(h:∀ a0:Value,bindArgs fd ⟨[a0],[]⟩=pure (ps.zip [a0]))(us:List Value)(hl:us.length=1):bindArgs fd ⟨us,[]⟩=pure (ps.zip us):=by
 rcases us with _ | ⟨a0,us⟩
 ·cases hl
 rcases us with _ | ⟨b,us⟩
 ·exact h a0
 ·cases hl
theorem bl2{fd:FuncData}{ps:List Str}(h:∀ a0 a1:Value,bindArgs fd ⟨[a0,a1],[]⟩=pure (ps.zip [a0,a1]))(us:List Value)(hl:us.length=2):bindArgs fd ⟨us,[]⟩=pure (ps.zip us):=by
 rcases us with _ | ⟨a0,us⟩
 ·cases hl
 rcases us with _ | ⟨a1,us⟩
 ·cases hl
 rcases us with _ | ⟨b,us⟩
 ·exact h a0 a1
 ·cases hl
theorem bl3{fd:FuncData}{ps:List Str}(h:∀ a0 a1 a2:Value,bindArgs fd ⟨[a0,a1,a2],[]⟩=pure (ps.zip [a0,a1,a2]))(us:List Value)(hl:us.length=3):bindArgs fd ⟨us,[]⟩=pure (ps.zip us):=by
 rcases us with _ | ⟨a0,us⟩
 ·cases hl
 rcases us with _ | ⟨a1,us⟩
 ·cases hl
 rcases us with _ | ⟨a2,us⟩
 ·cases hl
 rcases us with _ | ⟨b,us⟩
 ·exact h a0 a1 a2
 ·cases hl
theorem bl4{fd:FuncData}{ps:List Str}(h:∀ a0 a1 a2 a3:Value,bindArgs fd ⟨[a0,a1,a2,a3],[]⟩=pure (ps.zip [a0,a1,a2,a3]))(us:List Value)(hl:us.length=4):bindArgs fd ⟨us,[]⟩=pure (ps.zip us):=by
 rcases us with _ | ⟨a0,us⟩
 ·cases hl
 rcases us with _ | ⟨a1,us⟩
 ·cases hl
 rcases us with _ | ⟨a2,us⟩
 ·cases hl
 rcases us with _ | ⟨a3,us⟩
 ·cases hl
 rcases us with _ | ⟨b,us⟩
 ·exact h a0 a1 a2 a3
 ·cases hl
section
variable {P:Program}{w:World}{K:W.Frag}{mg:Str->Option Value}{base:Heap}{t:Adr}
def Ame (z:Str):Sp:=λvs H Q _=>∃ v,vs=[v]/\Q (.str z) H
end
def Gg (a b:Int):List Int:=if a<b then Tz (a+1) 1 (b-a).toNat else Tz (a-1) (-1) (a-b).toNat
def Ug (z:Int):Int:=if z<0 then -z else z
def go (a:Int):List Int->List Int
 | []=>[]
 | b::r=>Gg a b++go b r
def DN:List Int->List Int
 | []=>[]
 | s::r=>s::go s r
def lst (a:Int):List Int->Int
 | []=>a
 | b::r=>lst b r
theorem NP:∀(a:Int) (r:List Int) (b:Int),go a (r++[b])=go a r++Gg (lst a r) b
 | a,[],b=>by simp[go,lst]
 | a,c::r,b=>by rw[AqL,go,NP c r b,go,lst,Aqz]
theorem lst_snoc:∀(a:Int) (r:List Int) (b:Int),lst a (r++[b])=b
 | a,[],b=>rfl
 | a,c::r,b=>by rw[AqL,lst,lst_snoc c r b]
theorem Ac2(a c:Int)(n:Nat):(Tz a c n).length=n:=by unfold Tz;rw[ApO,Aql]
theorem Nb(a b:Int):((Gg a b).length:Int)=Ug (b-a):=by
 unfold Gg Ug
 split
 ·rw[Ac2,if_neg (by omega)];omega
 ·rw[Ac2]
  split <;> omega
theorem Ac3{a c:Int}{n i:Nat}(h:i<n):(Tz a c n)[i]?=some (a+(i:Int)*c):=by
 unfold Tz
 rw[ApX,AqJ h]
 rfl
theorem Y7{a b:Int}{q:Nat}(h1:1<=q)(h2:(q:Int)<=Ug (b-a)):(Gg a b)[q-1]?=some (a+(if b-a<0 then -1 else 1)*(q:Int)):=by
 unfold Gg
 unfold Ug at h2
 by_cases c:a<b
 ·rw[if_pos c,Ac3 (by rw[if_neg (by omega)] at h2;omega),if_neg (by omega)]
  congr 1
  omega
 ·rw[if_neg c]
  by_cases d:b-a<0
  ·rw[if_pos d] at h2 ⊢
   rw[Ac3 (by omega)]
   congr 1
   omega
  ·rw[if_neg d] at h2
   omega
theorem Y8{l r:List Int}(h:r≠[]):(l++r).getLast?=r.getLast?:=by
 rw[AqA]
 cases e:r.getLast? with
 | none=>exact absurd (List.getLast?_eq_none_iff.mp e) h
 | some z=>rfl
theorem Aar{a b:Int}(h:a≠b):(Gg a b).getLast?=some b:=by
 have hl:=Nb a b
 have pos:0<(Gg a b).length:=by unfold Ug at hl;split at hl <;> omega
 rw[List.getLast?_eq_getElem?]
 have e:=Y7 (a:=a) (b:=b) (q:=(Gg a b).length) pos (by omega)
 rw[e]
 congr 1
 rw[hl]
 unfold Ug
 split <;> omega
theorem Ahd(a:Int):Gg a a=[]:=by
 have:=Nb a a
 unfold Ug at this
 have h:(Gg a a).length=0:=by split at this <;> omega
 exact Ar1 h
theorem Aes:∀(l:List Int) (a:Int) (r:List Int),l.getLast?=some a->(l++go a r).getLast?=some (lst a r)
 | l,a,[],h=>by simpa [go,lst] using h
 | l,a,b::r,h=>by
  rw[go,lst,<- Aqz]
  refine Aes _ b r ?_
  by_cases e:a=b
  ·rw[e,Ahd,Aqv,<- e];exact h
  ·rw[Y8 (λz=>by have:=Aar e;rw[z] at this;cases this)]
   exact Aar e
theorem AfF(s:Int)(r:List Int):(s::go s r).getLast?=some (lst s r):=Aes [s] s r rfl
def dec (n:Nat):List Nat:=(Str.ofString (toString (n:Int))).cps.toList
theorem Ahe(n:Nat):Str.ofString (toString (n:Int))=tx (dec n):=(AmA _).symm
def Akc (n:Nat):Bool:=(dec n).all (λc=>decide (48<=c/\c<=57)) && decide (1<=(dec n).length/\(dec n).length<=2) && decide (¬((dec n).length=2/\(dec n)[0]?=some 48)) && decide (PySem.NumText.digitsVal (dec n)=n)
theorem Alw:∀ n,n<100->Akc n=true:=by decide +kernel
structure Dec (n:Nat):Prop where
 dg:∀ c∈dec n,48<=c/\c<=57
 l1:1<=(dec n).length
 l2:(dec n).length<=2
 z:¬((dec n).length=2/\(dec n)[0]?=some 48)
 v:PySem.NumText.digitsVal (dec n)=n
theorem dec_is{n:Nat}(h:n<100):Dec n:=by
 have:=Alw n h
 unfold Akc at this
 simp only [Aq7,decide_eq_true_eq,Are] at this
 obtain⟨⟨⟨h1,h2⟩,h3⟩,h4⟩:=this
 exact⟨h1,h2.1,h2.2,h3,h4⟩
def tails:List Nat->List Nat
 | []=>[]
 | n::r=>45::(dec n++tails r)
def BJ:List Nat->List Nat
 | []=>[]
 | n::r=>dec n++tails r
def Stop(rest:List Nat):Prop:=∀ c,rest[0]?=some c->¬(48<=c/\c<=57)/\c≠45
seal PE PT PW PA PS PSs PC PG PGs Ak1 PIp AnX PIE PI PO PEX PSX Aoq
section
variable {P:Program}{w:World}{K:W.Frag}{mg:Str->Option Value}{base:Heap}{t:Adr}
def rf (u:List Nat)(p:Nat):List (Str × V):=[("text", .str (tx u)),("place", .int (p:Int))]
def Rd (t:Adr)(H:Hp)(r dx:Addr)(u:List Nat)(p:Nat):Prop:=H r=some (.ins t.Bh dx (rf u p))/\p<=u.length/\u.length<=1000000
theorem Sq(u:List Nat)(p:Nat):(rf u p).lookup ("text" : Str)=some (V.str (tx u)):=rfl
theorem Gy(u:List Nat)(p:Nat):(rf u p).lookup ("place" : Str)=some (V.int (p:Int)):=rfl
theorem Alx(u:List Nat)(p q:Nat):Jd "place" (.int (q:Int)) (rf u p)=rf u q:=rfl
theorem big{n:Nat}(h:n<=1000000):n<=sizeLine:=Aqn h (by decide)
def Ahf (t:Adr):Sp:=λvs H Q _=>∃ r dx u p,vs=[.ref r]/\Rd t H r dx u p/\Q (.bl (decide (p=u.length))) H
theorem Fb(T:Txt K mg t):Bd P w K mg base CX0 1 t.Mq t.Mr ["self"] (Ahf t):=by
 refine T.Cw.F.ok Wb (λvs H Q E h=>?_) (λcdv A outer s H vs Q E hr h=>?_)
 ·obtain⟨r,dx,u,p,rfl,_⟩:=h
  rfl
 ·obtain⟨r,dx,u,p,rfl,⟨hr1,hp,hu⟩,k⟩:=h
  refine⟨_,(Ad (An (Dm Ca (Cu (K:=K) (pv 0) rfl) (Ao Bt rfl T.BK Bq (Aa (Cu (K:=K) (pv 0) rfl) Ab)) (Aw _)))),?_⟩
  refine⟨_,rfl,_,_,_,_,_,rfl,hr1,T.Bj.c,T.BX,Gy u p,?_⟩
  refine⟨_,rfl,_,_,_,_,_,rfl,hr1,T.Bj.c,T.Du,Sq u p,?_⟩
  refine⟨_,rfl,(by rw[Ai];exact big hu),rfl,?_⟩
  have e:decide (V.int (p:Int)=V.int ((tx u).length:Int))=decide (p=u.length):=by
   rw[Ai]
   apply z6.mpr
   constructor
   ·intro z;injection z with z;lia
   ·intro z;rw[z]
  rw[e]
  exact k
def Ajb (t:Adr):Sp:=λvs H Q _=>∃ r dx u p v,vs=[.ref r,.str (tx v)]/\Rd t H r dx u p/\v.length<=100 /\
 ((u.drop p).take v.length=v->Q (.bl true) (upd H r (.ins t.Bh dx (rf u (p+v.length)))))/\((u.drop p).take v.length≠v->Q (.bl false) H)
theorem Aet{u:List Nat}{p n:Nat}(h:p<=u.length):Qh u (some (p:Int)) (some ((p:Int)+(n:Int)))=(u.drop p).take n:=by
 unfold Qh
 rw[show((p:Int)+(n:Int))=((p+n:Nat):Int) by lia,HT.Nt,HT.Nt,Arh h]
 by_cases h2:p+n<=u.length
 ·rw[Arh h2,Nat.add_sub_cancel_left]
 ·rw[Nat.min_eq_right (by lia),Aq1 (by rw[Aqx];lia),Aq1 (by rw[Aqx];lia)]
theorem Dw(T:Txt K mg t):Bd P w K mg base CX0 1 t.O8 t.O9 ["self", "wanted"] (Ajb t):=by
 refine T.BL.F.ok Mm (λvs H Q E h=>?_) (λcdv A outer s H vs Q E hr h=>?_)
 ·obtain⟨r,dx,u,p,v,rfl,_⟩:=h
  rfl
 ·obtain⟨r,dx,u,p,v,rfl,⟨hr1,hp,hu⟩,hv,k1,k2⟩:=h
  refine⟨_,(Ac (Az (i:=2) Mm.nd rfl (Or.inl rfl) (Bx Eu (Cu (K:=K) (pv 0) rfl) (Ao Bt rfl T.BK Bq (Aa (pv 1) Ab))))
   (Ac (Be (Al GR (Gq Tw (Cu (K:=K) (pv 0) rfl) (Gi (Cu (K:=K) (pv 0) rfl)) (Gi (pv 2))) (pv 1) (Aw _))
    (Ad (An Ew))
    Aq)
   (Ac (Hg (K:=K) (pv 0) (pv 2))
   (Ad (An Ew))))),?_⟩
  refine⟨_,rfl,_,_,_,_,_,rfl,hr1,T.Bj.c,T.BX,Gy u p,_,rfl,_,rfl,(by rw[Ai];exact big (by lia)),_,_,rfl,rfl,?_⟩
  rw[Ai]
  refine⟨_,rfl,_,_,_,_,_,rfl,hr1,T.Bj.c,T.Du,Sq u p,?_⟩
  refine⟨_,rfl,_,_,_,_,_,rfl,hr1,T.Bj.c,T.BX,Gy u p,_,rfl,_,rfl,_,rfl,u,rfl,big hu,_,rfl,rfl,_,rfl,?_⟩
  rw[Aet hp]
  by_cases hc:(u.drop p).take v.length=v
  ·refine Ht (by rw[hc]) ?_
   refine⟨_,rfl,_,rfl,_,_,_,_,rfl,hr1,T.Bj.c,T.BX,(by show 2<1000;decide),?_⟩
   show Q (.bl true) (upd H r (.ins t.Bh dx (Jd ("place" : Str) (.int ((p:Int)+(v.length:Int))) (rf u p))))
   rw[show((p:Int)+(v.length:Int))=((p+v.length:Nat):Int) by lia,Alx]
   exact k1 hc
  ·refine AjM (λz=>hc (by injection z with z;exact Fd z)) ?_
   exact k2 hc
def dg (c:Nat):Bool:=decide (48<=c/\c<=57)
def AaV (l:List Nat):List Nat:=l.takeWhile dg
def AfG (v:List Nat):V:=if (1<=v.length/\v.length<=2)/\¬(v.length=2/\v[0]?=some 48) then .int ((PySem.NumText.digitsVal v:Nat):Int) else .non
theorem Aeu:∀(l:List Nat) (n:Nat),n<=l.length->(∀ c∈l.take n,dg c=true)->(∀ c,l[n]?=some c->dg c=false)->AaV l=l.take n
 | [],n,h,_,_=>by simp[AaV]
 | c::l,0,_,_,h2=>by
  unfold AaV
  rw[AqZ,h2 c rfl]
  rfl
 | c::l,n+1,h,h1,h2=>by
  have hc:dg c=true:=h1 c (by simp)
  have:=Aeu l n (by simpa using h) (λd hd=>h1 d (by rw[Aq4];exact ApW _ hd)) (λd hd=>h2 d (by simpa using hd))
  unfold AaV at this ⊢
  rw[AqZ,if_pos hc,this,Aq4]
theorem Ahg{H:Hp}{r:Addr}{o:HO}(h:H r=some o):upd H r o=H:=by
 funext b
 unfold upd
 split
 next e=>rw[e,h]
 next=>rfl
theorem z48(c:Nat):(V.str ⟨#[c]⟩:V)=V.str "0" ↔ c=48:=by
 have e:(("0" : Str))=tx [48]:=by decide +kernel
 rw[e]
 exact⟨λz=>by injection z with z;exact(List.cons.inj (Fd (a:=[c]) (b:=[48]) z)).1,λz=>by rw[z];rfl⟩
def Ahh:Sp:=λvs H Q _=>∃ v:List Nat,vs=[.str (tx v)]/\(∀ c∈v,48<=c/\c<=57)/\v.length<=1000000/\Q (AfG v) H
theorem AaW(T:Txt K mg t):Bd P w K mg base CX0 1 t.Vr t.Vs ["figures"] Ahh:=by
 refine T.Aag.F.ok AaO (λvs H Q E h=>?_) (λcdv A outer s H vs Q E hr h=>?_)
 ·obtain⟨v,rfl,_⟩:=h
  rfl
 ·obtain⟨v,rfl,hd,hl,k⟩:=h
  have sz:(tx v).length<=sizeLine:=by rw[Ai];exact big hl
  refine⟨_,(Ac (Be (PW.pt (pw_or (Al K3 (Ao Bt rfl T.BK Bq (Aa (pv 0) Ab)) Ag (Aw _)) (pw_or1 (Al Jr (Ao Bt rfl T.BK Bq (Aa (pv 0) Ab)) Ag (Aw _)))))
    (Ad (An WD))
    Aq)
   (Ac (Be (PW.pt (pw_and (Al Ca (Ao Bt rfl T.BK Bq (Aa (pv 0) Ab)) Ag (Aw _)) (pw_and1 (Al Ca (Bg Hs (pv 0) Ag (λ_ _=>rfl)) Am (Aw _)))))
    (Ad (An WD))
    Aq)
   (Ad (An (Cp ZD rfl T.AjZ Ag0 (Aa (pv 0) Ab)))))),?_⟩
  unfold AfG at k
  refine⟨_,rfl,_,rfl,sz,_,_,rfl,rfl,_,rfl,?_⟩
  rw[Ai]
  refine GX (λc1=>?_) (λc1=>?_)
  ·refine JZ ?_
   rw[if_neg (by lia)] at k
   exact k
  ·refine⟨_,rfl,_,rfl,sz,_,_,rfl,rfl,_,rfl,?_⟩
   rw[Ai]
   refine GX (λc2=>?_) (λc2=>?_)
   ·rw[if_neg (by lia)] at k
    exact k
   ·refine⟨_,rfl,_,rfl,sz,rfl,_,rfl,?_⟩
    rw[Ai]
    have fin:¬(v.length=2/\v[0]?=some 48)->∃ z n,[V.str (tx v)]=[V.str z]/\PySem.intText? z=some n/\z.length<=640/\Q (.int n) H:=λc3=>by
     rw[if_pos ⟨by lia,c3⟩] at k
     refine⟨tx v,_,rfl,PySem.intText_digits (x:=tx v) (by rw[Ce];exact hd) (by rw[Ce];intro z;rw[z] at c1;simp at c1) (by rw[Ai];lia),by rw[Ai];lia,?_⟩
     rw[Ce]
     exact k
    refine GX (λc3=>?_) (λc3=>?_)
    ·have l2:v.length=2:=by injection c3 with c3;lia
     have h0:0<v.length:=by lia
     refine⟨_,rfl,_,_,v[0],rfl,rfl,sz,BP (by decide) (by rw[Ce];exact ApP h0),rfl,_,rfl,?_⟩
     refine GX (λc4=>?_) (λc4=>?_)
     ·rw[if_neg (λz=>z.2 ⟨l2,by rw[ApP h0,(z48 _).mp c4]⟩)] at k
      exact k
     ·exact⟨_,rfl,fin λz=>c4 ((z48 _).mpr (by have:=z.2;rw[ApP h0] at this;exact Option.some.inj this))⟩
    ·exact DP ⟨_,rfl,fin λz=>c3 (by rw[z.1];rfl)⟩
theorem CP(u:List Nat)(p:Nat):(rf u p).lookup ("ended" : Str)=none/\(rf u p).lookup ("took" : Str)=none/\(rf u p).lookup ("number" : Str)=none/\(rf u p).lookup ("stretch" : Str)=none:=⟨rfl,rfl,rfl,rfl⟩
def AnG:Sp:=λvs H Q _=>∃(C r dx:Addr) (u:List Nat),vs=[.ref r,.str (tx u)]/\H r=some (.ins C dx [])/\Q .non (upd H r (.ins C dx (rf u 0)))
theorem Fg(T:Txt K mg t):Bd P w K mg base CX0 1 t.Fv t.Iz ["self", "text"] (λvs H Q E=>∃(r dx:Addr) (u:List Nat),vs=[.ref r,.str (tx u)]/\H r=some (.ins t.Bh dx [])/\Q .non (upd H r (.ins t.Bh dx (rf u 0)))):=by
 refine T.CT.F.ok Qm (λvs H Q E h=>?_) (λcdv A outer s H vs Q E hr h=>?_)
 ·obtain⟨r,dx,u,rfl,_⟩:=h
  rfl
 ·obtain⟨r,dx,u,rfl,h1,k⟩:=h
  refine⟨_,(Ac (Hg (K:=K) (pv 0) (pv 1))
   (Ad (Hg (K:=K) (pv 0) Ag))),?_⟩
  refine⟨_,rfl,_,rfl,_,_,_,_,rfl,h1,T.Bj.c,T.Du,(by decide),?_⟩
  refine⟨_,rfl,_,_,_,_,rfl,Ae,T.Bj.c,T.BX,(by show 1<1000;decide),?_⟩
  rw[JW]
  exact k
def stp (sg l:List Nat):List Nat:=l.takeWhile λc=>decide (c∈sg)
theorem Ad6{sg:List Nat}:∀(l:List Nat) (n:Nat),n<=l.length->(∀ c∈l.take n,c∈sg)->(∀ c,l[n]?=some c->c∉sg)->stp sg l=l.take n
 | [],n,h,_,_=>by simp[stp]
 | c::l,0,_,_,h2=>by
  unfold stp
  rw[AqZ,if_neg (by rw[decide_eq_true_eq];exact h2 c rfl)]
  rfl
 | c::l,n+1,h,h1,h2=>by
  have hc:c∈sg:=h1 c (by simp)
  have:=Ad6 (sg:=sg) l n (by simpa using h) (λd hd=>h1 d (by rw[Aq4];exact ApW _ hd)) (λd hd=>h2 d (by simpa using hd))
  unfold stp at this ⊢
  rw[AqZ,if_pos (zN hc),this,Aq4]
theorem AaX{sg a b:List Nat}(h1:∀ c∈a,c∈sg)(h2:∀ c,b[0]?=some c->c∉sg):stp sg (a++b)=a:=by
 have:=Ad6 (sg:=sg) (a++b) a.length (by simp) (λc hc=>h1 c (by rw[List.take_left' rfl] at hc;exact hc)) (λc hc=>h2 c (by rw[Aqi (ApR _),Aq5] at hc;exact hc))
 rw[this,List.take_left' rfl]
theorem Aev(sg:List Nat):∀(l:List Nat),(∀ c∈stp sg l,c∈sg)/\(stp sg l).length<=l.length
 | []=>⟨λc hc=>(by cases hc),ApR _⟩
 | a::l=>by
  have ih:=Aev sg l
  unfold stp at ih ⊢
  rw[AqZ]
  by_cases h:a∈sg
  ·rw[if_pos (zN h)]
   refine⟨λc hc=>?_,by simp only [ApU];lia⟩
   rcases yH.mp hc with e | e
   ·rw[e];exact h
   ·exact ih.1 c e
  ·rw[if_neg (by rw[decide_eq_true_eq];exact h)]
   exact⟨λc hc=>(by cases hc),Aqb _⟩
theorem Ss(sg:List Nat)(c:Nat):(!(Builtin.Str.occurrences (tx sg) ⟨#[c]⟩ 0 (tx sg).length 1).isEmpty)=decide (c∈sg):=by
 rw[StrLaws.found_one,Ce]
def Ad7 (t:Adr):Sp:=λvs H Q _=>∃ r dx u p sg,vs=[.ref r,.str (tx sg)]/\Rd t H r dx u p/\sg.length<=1000/\Q (.str (tx (stp sg (u.drop p)))) (upd H r (.ins t.Bh dx (rf u (p+(stp sg (u.drop p)).length))))
theorem BV(T:Txt K mg t):Bd P w K mg base CX0 2 t.J6 t.J7 ["self", "signs"] (Ad7 t):=by
 refine T.Ba.F.ok Iw (λvs H Q E h=>?_) (λcdv A outer s H vs Q E hr h=>?_)
 ·obtain⟨r,dx,u,p,sg,rfl,_⟩:=h
  rfl
 ·obtain⟨r,dx,u,p,sg,rfl,⟨hr1,hp,hu⟩,hsg,k⟩:=h
  refine⟨_,(Ac (Az (i:=2) Iw.nd rfl (Or.inl rfl) (Cu (K:=K) (pv 0) rfl))
   (Ac (Q5 PassesOwn.never (PW.pt (pw_and (Dg (Cr (Hr (pv 0) T.Bj.c T.Cw.m ((Fb T).mono (by decide)) hr T.Cw.b .nil By))) (pw_and1 (Al Nr (Bg Hs (Cu (K:=K) (pv 0) rfl) (Cu (K:=K) (pv 0) rfl) (λ_ _=>rfl)) (pv 1) rfl))))
    (Ad (Adm (K:=K) (pv 0) Ag AkE)))
   (Ad (An (Gq Tw (Cu (K:=K) (pv 0) rfl) (Gi (pv 2)) (Gi (Cu (K:=K) (pv 0) rfl))))))),?_⟩
  refine⟨_,rfl,_,_,_,_,_,rfl,hr1,T.Bj.c,T.BX,Gy u p,?_⟩
  refine⟨λm σ H2=>∃ n,σ=[some (.ref r),some (.str (tx sg)),some (.int (p:Int))]/\H2=upd H r (.ins t.Bh dx (rf u (p+n)))/\p+n<=u.length/\(∀ c∈(u.drop p).take n,c∈sg)/\m=u.length-(p+n),
   ⟨_,0,rfl,(Ahg hr1).symm,hp,(λc hc=>by simp at hc),rfl⟩,?_⟩
  rintro m σ H2 ⟨n,rfl,rfl,hn,ha,rfl⟩
  have hS:(upd H r (.ins t.Bh dx (rf u (p+n)))) r=some (.ins t.Bh dx (rf u (p+n))):=Ae
  have done:(∀ c,(u.drop p)[n]?=some c->c∉sg)->(u.drop p).take n=stp sg (u.drop p):=λhs=>(Ad6 _ n (by rw[Aqx];lia) ha hs).symm
  have ln:((u.drop p).take n).length=n:=by rw[Aqf,Aqx];lia
  have e3:Qh u (some (p:Int)) (some ((p+n:Nat):Int))=(u.drop p).take n:=by rw[Int.natCast_add];exact Aet hp
  have fin:(u.drop p).take n=stp sg (u.drop p)->Q (.str (tx (Qh u (some (p:Int)) (some ((p+n:Nat):Int))))) (upd H r (.ins t.Bh dx (rf u (p+n)))):=λe2=>by
   have e1:(stp sg (u.drop p)).length=n:=by rw[<- e2,ln]
   rw[e3,e2];rw[e1] at k;exact k
  refine⟨_,rfl,r,dx,rf u (p+n),rfl,hS,(CP u _).1,r,dx,u,p+n,rfl,⟨hS,hn,hu⟩,_,rfl,?_⟩
  by_cases c1:p+n=u.length
  ·rw[zN c1]
   refine DP ?_
   refine DP ?_
   exact⟨_,rfl,_,_,_,_,_,rfl,hS,T.Bj.c,T.Du,Sq u _,_,rfl,_,rfl,_,rfl,_,_,_,_,_,rfl,hS,T.Bj.c,T.BX,Gy u _,_,rfl,u,rfl,big hu,
    fin (done λc hc=>by rw[Aqw (by rw[Aqx];lia)] at hc;cases hc)⟩
  ·rw[zJ c1]
   refine JZ ?_
   have hlt:p+n<u.length:=by lia
   refine⟨_,rfl,_,_,_,_,_,rfl,hS,T.Bj.c,T.Du,Sq u _,_,rfl,_,_,_,_,_,rfl,hS,T.Bj.c,T.BX,Gy u _,_,_,u[p+n],rfl,rfl,(by rw[Ai];exact big hu),
    BP (by lia) (by rw[Aqc,Ce];exact ApP hlt),_,rfl,_,_,rfl,rfl,_,rfl,?_⟩
   rw[Ss]
   refine GX (λc2=>?_) (λc2=>?_)
   ·refine⟨_,λσ' H' h=>h,?_⟩
    refine⟨_,rfl,_,_,_,_,_,rfl,hS,T.Bj.c,T.BX,Gy u _,_,_,rfl,rfl,dx,rf u (p+n),hS,(by show 2<1000;decide),?_⟩
    refine⟨u.length-(p+(n+1)),by lia,n+1,rfl,?_,by lia,λc hc=>?_,rfl⟩
    ·rw[JW]
     rfl
    ·rw[Aqd,AqP,ApP hlt] at hc
     rcases zG.mp hc with h | h
     ·exact ha c h
     ·rw[show c=u[p+n] by simpa using h]
      exact c2
   ·exact⟨_,rfl,_,_,_,_,_,rfl,hS,T.Bj.c,T.Du,Sq u _,_,rfl,_,rfl,_,rfl,_,_,_,_,_,rfl,hS,T.Bj.c,T.BX,Gy u _,_,rfl,u,rfl,big hu,
     fin (done λc hc=>by rw[AqP,ApP hlt] at hc;cases hc;exact c2)⟩
def Ac4:List Nat:=[48,49,50,51,52,53,54,55,56,57]
theorem Ahi:(("0123456789" : Str))=tx Ac4:=by decide +kernel
theorem Y9{c:Nat}:c∈Ac4↔48<=c/\c<=57:=by
 rw[show Ac4=List.range' 48 10 from rfl,List.mem_range'_1]
 lia
def AfH (t:Adr):Sp:=λvs H Q _=>∃ r dx u p,vs=[.ref r]/\Rd t H r dx u p/\Q (AfG (stp Ac4 (u.drop p))) (upd H r (.ins t.Bh dx (rf u (p+(stp Ac4 (u.drop p)).length))))
theorem Uh(T:Txt K mg t):Bd P w K mg base CX0 3 t.GC t.GD ["self"] (AfH t):=by
 refine T.GP.F.ok TQ (λvs H Q E h=>?_) (λcdv A outer s H vs Q E hr h=>?_)
 ·obtain⟨r,dx,u,p,rfl,_⟩:=h
  rfl
 ·obtain⟨r,dx,u,p,rfl,hR,k⟩:=h
  refine⟨_,(Ad (An (Bb T.Aag (AaW T) hr (Aa (Dy (pv 0) T.Bj.c T.Ba.m ((BV T).mono (by decide)) hr T.Ba.b .nil By (Aa (Ck (v:=.str "0123456789") rfl T.AfB.choose_spec ⟨_,rfl⟩) Ab)) Ab)))),?_⟩
  have hf:=Aev Ac4 (u.drop p)
  refine⟨_,rfl,r,dx,rf u p,rfl,hR.1,(CP u p).2.2.2,r,dx,u,p,Ac4,(by rw[Ahi];rfl),hR,(by decide),?_⟩
  exact⟨_,rfl,λc hc=>Y9.mp (hf.1 c hc),by have:=hR.2.2;have:=hf.2;rw[Aqx] at this;lia,k⟩
theorem Ahj(l:List Nat):stp Ac4 l=AaV l:=by
 unfold stp AaV
 congr 1
 funext c
 unfold dg
 exact z6.mpr Y9
def Ad8 (t:Adr):Sp:=λvs H Q _=>∃ r dx u p,vs=[.ref r]/\Rd t H r dx u p/\Q (AfG (AaV (u.drop p))) (upd H r (.ins t.Bh dx (rf u (p+(AaV (u.drop p)).length))))
theorem Su(T:Txt K mg t):Bd P w K mg base CX0 3 t.GC t.GD ["self"] (Ad8 t):=(Uh T).imp λvs H Q E ⟨r,dx,u,p,h1,h2,h3⟩=>⟨r,dx,u,p,h1,h2,by rw[Ahj];exact h3⟩
theorem fits{z:Int}(h:z.natAbs<=1000000):Builtin.Range.rangeFitsLong z=true:=by
 unfold Builtin.Range.rangeFitsLong
 simp only [Aq7,decide_eq_true_eq]
 lia
def Ahk:Sp:=λvs H Q _=>∃(a b:Int),vs=[.int a,.int b]/\a.natAbs<=400/\b.natAbs<=400/\∀ l H',Ar H H'->H l=none->H' l=some (.lst (vI (Gg a b)))->Q (.ref l) H'
theorem Ui(T:Txt K mg t):Bd P w K mg base CX0 1 t.La t.Lb ["start", "stop"] Ahk:=by
 refine T.Pz.F.ok TF (λvs H Q E h=>?_) (λcdv A outer s H vs Q E hr h=>?_)
 ·obtain⟨a,b,rfl,_⟩:=h
  rfl
 ·obtain⟨a,b,rfl,ha,hb,k⟩:=h
  refine⟨_,(Ac (Be (Al K3 (pv 0) (pv 1) (Aw _))
    (Ad (An (Cp Xm rfl T.Ku Hf (Aa (Cp Afm rfl T.Cv AbM (Aa (Bx Eu (pv 0) Ag) (Aa (Bx Eu (pv 1) Ag) Ab))) Ab))))
    Aq)
   (Ad (An (Cp Xm rfl T.Ku Hf (Aa (Cp Afn rfl T.Cv AbM (Aa (Bx FN (pv 0) Ag) (Aa (Bx FN (pv 1) Ag) (Aa (Uv Lz Ag) Ab)))) Ab))))),?_⟩
  refine⟨_,rfl,_,rfl,_,_,rfl,rfl,_,rfl,?_⟩
  refine GX (λc1=>?_) (λc1=>?_)
  ·refine⟨_,rfl,_,_,rfl,rfl,_,rfl,_,_,rfl,rfl,_,_,rfl,λp hp=>?_⟩
   have rs:Builtin.Range.rangeSize (a+1) (b+1) 1=((b-a).toNat:Int):=by
    unfold Builtin.Range.rangeSize
    rw[if_pos (by decide),if_pos (by lia),Int.ediv_one]
    lia
   refine⟨p,a+1,b+1,1,(b-a).toNat,rfl,Ae,?_,rs,by lia,λl hl=>?_⟩
   ·unfold Builtin.Range.small
    rw[rs,fits (by lia),fits (by lia),fits (by lia),fits (by lia)]
    simp only [show(1:Int)>0 by decide,if_true,Arv,Bool.or_eq_true]
    exact .inr (fits (by lia))
   ·have:Gg a b=Tz (a+1) 1 (b-a).toNat:=if_pos c1
    rw[<- this]
    exact k l _ ((Ar.upd hp).new hl) ((Ar.upd hp).free hl) Ae
  ·refine⟨_,rfl,_,_,rfl,rfl,_,rfl,_,_,rfl,rfl,_,rfl,_,_,_,rfl,(by decide),(by decide),λp hp=>?_⟩
   have rs:Builtin.Range.rangeSize (a-1) (b-1) (-1)=((a-b).toNat:Int):=by
    unfold Builtin.Range.rangeSize
    rw[if_neg (by decide)]
    by_cases c2:a-1>b-1
    ·rw[if_pos c2,show -(-1:Int)=1 by decide,Int.ediv_one]
     lia
    ·rw[if_neg c2]
     lia
   refine⟨p,a-1,b-1,-1,(a-b).toNat,rfl,Ae,?_,rs,by lia,λl hl=>?_⟩
   ·unfold Builtin.Range.small
    rw[rs,fits (by lia),fits (by lia),fits (by decide),fits (by lia)]
    simp only [show ¬((-1:Int)>0) by decide,if_false,Arv,Bool.or_eq_true]
    exact .inr (fits (by lia))
   ·have:Gg a b=Tz (a-1) (-1) (a-b).toNat:=if_neg c1
    rw[<- this]
    exact k l _ ((Ar.upd hp).new hl) ((Ar.upd hp).free hl) Ae
def pfR (l:Addr):List (Str × V):=[("stops", .ref l)]
theorem YB(l:Addr):(pfR l).lookup ("stops" : Str)=some (V.ref l):=rfl
theorem Uj(T:Txt K mg t):Bd P w K mg base CX0 1 t.GF t.KN ["self", "stops"] (λvs H Q E=>∃(r dx l:Addr),vs=[.ref r,.ref l]/\H r=some (.ins t.Gb dx [])/\Q .non (upd H r (.ins t.Gb dx (pfR l)))):=by
 refine T.EY.F.ok TV (λvs H Q E h=>?_) (λcdv A outer s H vs Q E hr h=>?_)
 ·obtain⟨r,dx,l,rfl,_⟩:=h
  rfl
 ·obtain⟨r,dx,l,rfl,h1,k⟩:=h
  refine⟨_,(Ad (Hg (K:=K) (pv 0) (pv 1))),?_⟩
  exact⟨_,rfl,_,rfl,_,_,_,_,rfl,h1,T.Kv.c,T.DX,(by decide),k⟩
def dst (ss:List Int)(k:Nat):Int:=Ug (ss.getD (k+1) 0-ss.getD k 0)
def Qu (ss:List Int)(k:Nat):Int:=1+((List.range k).map (dst ss)).sum
theorem Uk(ss:List Int)(k:Nat):Qu ss (k+1)=Qu ss k+dst ss k:=by
 unfold Qu
 rw[Aq3,ApV,Ari]
 simp
 lia
theorem Akd{ks:List Int}{i:Int}(h0:0<=i)(h:i.toNat<ks.length):atI (vI ks) i=some (.int (ks.getD i.toNat 0)):=BP h0 (by
 rw[Eb (ApP h)]
 simp[List.getD,h])
structure IsP (t:Adr) (H:Hp) (a dx l:Addr) (ss:List Int):Prop where
 o:H a=some (.ins t.Gb dx (pfR l))
 l:H l=some (.lst (vI ss))
 ne:1<=ss.length
 le:ss.length<=1000
def Ahl (t:Adr):Sp:=λvs H Q _=>∃(a dx l:Addr) (ss:List Int),vs=[.ref a]/\IsP t H a dx l ss/\Q (.int (Qu ss (ss.length-1))) H
theorem AaY(T:Txt K mg t):Bd P w K mg base CX0 1 t.Vj t.Vk ["self"] (Ahl t):=by
 refine T.MT.F.ok Hj (λvs H Q E h=>?_) (λcdv A outer s H vs Q E hr h=>?_)
 ·obtain⟨a,dx,l,ss,rfl,_⟩:=h
  rfl
 ·obtain⟨a,dx,l,ss,rfl,hP,k⟩:=h
  have ne:=hP.ne
  have le:=hP.le
  refine⟨_,(Ac (Az (i:=1) Hj.nd rfl (Or.inl rfl) Ag)
   (Ac (Cj PassesOwn.never rfl (Tp rfl T.Cv (Aa Ag (Aa (Ao (Av (K:=K)) rfl T.BK Bq (Aa (Cu (K:=K) (pv 0) rfl) Ab)) Ab))) (Br (i:=2) Hj.nd rfl (Or.inl rfl))
    (Ad (Ak4 (i:=1) Hj.nd rfl (Or.inl rfl) (Ao WN rfl T.AgZ Adl (Aa (Bx FN (Bg (Ax (K:=K)) (Cu (K:=K) (pv 0) rfl) (pv 2) (λ_ _=>rfl)) (Bg (Ax (K:=K)) (Cu (K:=K) (pv 0) rfl) (Bx FN (pv 2) Ag) (λ_ _=>rfl))) Ab)) Ak5)))
   (Ad (An (pv 1))))),?_⟩
  refine⟨_,rfl,_,_,_,_,_,rfl,hP.o,T.Kv.c,T.DX,YB l,_,_,rfl,.inl (SqL.of hP.l),_,_,rfl,⟨by decide,by decide,by rw[Bm];lia,by rw[Bm];lia⟩,?_⟩
  rw[Bm]
  refine Di (lo:=1) (n:=((ss.length:Int)-1).toNat) (λi σ H2=>∃ v,σ=[some (.ref a),some (.int (Qu ss i)),v]/\H2=H) ⟨none,rfl,rfl⟩ ?_ ?_
  ·rintro i σ H2 hi ⟨v,rfl,rfl⟩
   have e1:=Akd (ks:=ss) (i:=1+(i:Int)) (by lia) (by lia)
   have e2:=Akd (ks:=ss) (i:=1+(i:Int)-1) (by lia) (by lia)
   rw[show(1+(i:Int)).toNat=i+1 by lia] at e1
   rw[show(1+(i:Int)-1).toNat=i by lia] at e2
   refine⟨_,rfl,_,rfl,_,_,_,_,_,rfl,hP.o,T.Kv.c,T.DX,YB l,_,rfl,_,_,_,_,rfl,rfl,SqL.of hP.l,e1,?_⟩
   refine⟨_,rfl,_,_,_,_,_,rfl,hP.o,T.Kv.c,T.DX,YB l,_,rfl,_,_,rfl,rfl,_,_,_,_,rfl,rfl,SqL.of hP.l,e2,_,_,rfl,rfl,_,rfl,_,_,rfl,rfl,?_⟩
   exact⟨some (.int (1+(i:Int))),by rw[Uk];rfl,rfl⟩
  ·rintro σ H2 ⟨v,rfl,rfl⟩
   refine⟨_,rfl,?_⟩
   rw[show((ss.length:Int)-1).toNat=ss.length-1 by lia]
   exact k
theorem AbB{ks:List Int}{z:Int}(h:ks.getLast?=some z):atI (vI ks) (-1)=some (.int z):=by
 have hne:0<ks.length:=by
  cases ks with
  | nil=>cases h
  | cons a l=>exact Nat.succ_pos _
 rw[List.getLast?_eq_getElem?] at h
 unfold atI ixN
 rw[if_neg (by decide),Bm]
 rw[if_pos (by lia)]
 have:((ks.length:Int) + -1).toNat=ks.length-1:=by lia
 show(some _).bind _=_
 rw[Option.bind_some]
 first
  | (rw[this];exact Eb h)
  | (rw[show(-1+(ks.length:Int)).toNat=ks.length-1 by lia];exact Eb h)
theorem Ad9:∀(ss:List Int) (i:Nat),i+1<=ss.length->((DN (ss.take (i+1))).length:Int)=Qu ss i:=by
 intro ss i
 induction i with
 | zero =>
  intro h
  cases ss with
  | nil=>simp at h
  | cons s r=>simp[DN,go,Qu]
 | succ i ih =>
  intro h
  have hlt:i+1<ss.length:=by lia
  have e:=ih (by lia)
  rw[Uk,<- e]
  cases ss with
  | nil=>simp at h
  | cons s r =>
   have hr:i<r.length:=by simpa using hlt
   rw[Aq4,Aq4,Aqd,ApP hr]
   show((DN (s::(r.take i++[r[i]]))).length:Int)=_
   rw[DN,NP,DN,ApU,ApQ,ApU]
   have d:((Gg (lst s (r.take i)) r[i]).length:Int)=dst (s::r) i:=by
    rw[Nb]
    unfold dst
    have e1:(s::r).getD (i+1) 0=r[i]:=by simp[List.getD,hr]
    have e2:(s::r).getD i 0=lst s (r.take i):=by
     cases i with
     | zero=>simp[lst]
     | succ j =>
      have hj:j<r.length:=by lia
      rw[Aqd,ApP hj]
      show _=lst s (r.take j++[r[j]])
      rw[lst_snoc]
      simp[List.getD,hj]
    rw[e1,e2]
   lia
theorem Aas(ss:List Int):∀{i j:Nat},i<=j->Qu ss i<=Qu ss j:=by
 intro i j h
 induction h with
 | refl=>exact Int.le_refl _
 | @step m _ ih =>
  have:0<=dst ss m:=by unfold dst Ug;split <;> lia
  have e:=Uk ss m
  show Qu ss i<=Qu ss (m+1)
  lia
def Ajc (t:Adr):Sp:=λvs H Q _=>∃(a dx l:Addr) (ss:List Int),vs=[.ref a]/\IsP t H a dx l ss/\Qu ss (ss.length-1)<=400/\(∀ s∈ss,s.natAbs<=400)/\∀ q H',Ar H H'->H q=none->H' q=some (.lst (vI (DN ss)))->Q (.ref q) H'
theorem We(T:Txt K mg t):Bd P w K mg base CX0 2 t.Ms t.Mt ["self"] (Ajc t):=by
 refine T.Ie.F.ok G9 (λvs H Q E h=>?_) (λcdv A outer s H vs Q E hr h=>?_)
 ·obtain⟨a,dx,l,ss,rfl,_⟩:=h
  rfl
 ·obtain⟨a,dx,l,ss,rfl,hP,Ao6,hb,k⟩:=h
  have ne:=hP.ne
  have le:=hP.le
  have hsz:sizeLine=16777216:=yA
  refine⟨_,(Ac (Az (i:=1) G9.nd rfl (Or.inl rfl) (CJ (Aa (Bg (Ax (K:=K)) (Cu (K:=K) (pv 0) rfl) Ag (λ_ _=>rfl)) Ab)))
   (Ac (Cj PassesOwn.never rfl (Bf (K:=K) (Gq (AbN (K:=K)) (Cu (K:=K) (pv 0) rfl) (Gi Ag) Nu)) (Br (i:=2) G9.nd rfl (Or.inl rfl))
    (Ad (Bp (Bo (K:=K) zM F.slot_list_extend F.type_list_extend Z7 (pv 1) (Aa (Bb T.Pz (Ui T) hr (Aa (Bg (Ax (K:=K)) (pv 1) (Uv Lz Ag) (λ_ _=>rfl)) (Aa (pv 2) Ab))) Ab)))))
   (Ad (An (pv 1))))),?_⟩
  obtain⟨s0,r,rfl⟩:∃ s0 r,ss=s0::r:=by
   cases ss with
   | nil=>simp at ne
   | cons s0 r=>exact⟨s0,r,rfl⟩
  refine⟨_,rfl,_,_,_,_,_,rfl,hP.o,T.Kv.c,T.DX,YB l,_,_,_,_,rfl,rfl,SqL.of hP.l,BP (by decide) rfl,(by show 1<=sizeLine;decide),λq hq=>?_⟩
  have s1:Ar H (upd H q (.lst [.int s0])):=.upd hq
  refine⟨_,rfl,_,_,_,_,_,rfl,s1 _ _ hP.o,T.Kv.c,T.DX,YB l,_,rfl,_,_,rfl,SqL.of (s1 _ _ hP.l),λp hp=>?_⟩
  have e1:AcZ (vI (s0::r)) (some 1) none=vI r:=by
   unfold AcZ
   have e0:HT.sIx (vI (s0::r)).length 0 (some 1)=1:=by
    show HT.sIx (vI (s0::r)).length 0 (some ((1:Nat):Int))=1
    rw[HT.Nt,Bm,ApU]
    lia
   rw[e0,HT.WW,Bm,ApU]
   show(vI r).take _=vI r
   rw[Aq1 (by rw[Bm];lia)]
  rw[e1]
  have s2:Ar H (upd (upd H q (.lst [.int s0])) p (.lst (vI r))):=s1.new hp
  have nqp:q≠p:=Ak (Ae (H:=H)) hp
  refine⟨_,rfl,⟨_,SqL.of Ae⟩,?_⟩
  refine Dd (K:=K) (a:=p) (xs:=vI r) (λi σ H2=>∃ v,σ=[some (.ref a),some (.ref q),v]/\Ar H H2/\H2 p=some (.lst (vI r))/\H2 q=some (.lst (vI (s0::go s0 (r.take i)))))
   ⟨none,rfl,s2,Ae,by rw[Ah nqp,Ae];rfl⟩ (λi σ H2 _ ⟨_,_,_,e,_⟩=>SqL.of e) ?_ ?_
  ·rintro i xv σ H2 hx ⟨v,rfl,s3,hp3,hq3⟩
   obtain⟨z,hz,rfl⟩:=Kf hx
   have hir:i<r.length:=(zC.mp hz).1
   have bz:z.natAbs<=400:=hb z (ApW _ (ApY hz))
   have bl:(lst s0 (r.take i)).natAbs<=400:=by
    cases i with
    | zero=>exact hb s0 ApS
    | succ j =>
     have hj:j<r.length:=by lia
     rw[Aqd,ApP hj]
     show(lst s0 (r.take j++[r[j]])).natAbs<=400
     rw[lst_snoc]
     exact hb _ (ApW _ (Aqq hj))
   have hlen:=Ad9 (s0::r) (i+1) (by rw[ApU];lia)
   have Apf:=Aas (s0::r) (i:=i+1) (j:=(s0::r).length-1) (by simp;lia)
   have e5:(s0::r).take (i+1+1)=s0::(r.take i++[z]):=by rw[Aq4,Aqd,hz];rfl
   rw[e5,DN,NP,ApU,ApQ] at hlen
   refine⟨_,rfl,.inl ⟨rfl,_,SqL.of hq3⟩,_,rfl,_,rfl,_,_,_,_,rfl,rfl,SqL.of hq3,AbB (AfF s0 (r.take i)),_,rfl,lst s0 (r.take i),z,rfl,bl,bz,λl2 H3 s4 nl2 hl2=>?_⟩
   refine⟨q,l2,_,_,rfl,rfl,s4 _ _ hq3,hl2,(by rw[Bm,Bm,ApU];lia),?_⟩
   have n2:l2≠q:=(Ak hq3 nl2).symm
   have np:p≠q:=nqp.symm
   refine⟨_,rfl,(s3.trans s4).over hq,by rw[Ah np];exact s4 _ _ hp3,?_⟩
   rw[Ae,Aqd,hz]
   show some (HO.lst (vI (s0::go s0 (r.take i))++vI (Gg (lst s0 (r.take i)) z)))=some (HO.lst (vI (s0::go s0 (r.take i++[z]))))
   rw[NP]
   unfold vI
   rw[<- ApV]
   rfl
  ·rintro σ H2 ⟨v,rfl,s3,hp3,hq3⟩
   refine⟨_,rfl,k q H2 s3 hq ?_⟩
   rw[hq3,Bm,Aqk]
   rfl
def AtP (t:Adr)(H:Hp)(a:Addr)(ss:List Int):Prop:=∃ dx l,IsP t H a dx l ss
theorem AtP.same{H H':Hp}{a:Addr}{ss:List Int}(h:AtP t H a ss)(s:Ar H H'):AtP t H' a ss :=
 let ⟨dx,l,p⟩:=h
 ⟨dx,l,s _ _ p.o,s _ _ p.l,p.ne,p.le⟩
structure Oh (t:Adr) (H:Hp) (rs:List Addr) (sss:List (List Int)):Prop where
 len:rs.length=sss.length
 at_:∀(i:Nat) a ss,rs[i]?=some a->sss[i]?=some ss->AtP t H a ss
 le:rs.length<=1000
theorem Oh.same{H H':Hp}{rs:List Addr}{sss:List (List Int)}(h:Oh t H rs sss)(s:Ar H H'):Oh t H' rs sss:=⟨h.len,λi a ss e1 e2=>(h.at_ i a ss e1 e2).same s,h.le⟩
def psz (ss:List Int):Int:=Qu ss (ss.length-1)
def Ahm (K:W.Frag)(t:Adr):Sp:=λvs H Q _=>∃(li:Addr) (rs:List Addr) (sss:List (List Int)),vs=[.ref li]/\H li=some (.lst (rs.map V.ref))/\Oh t H rs sss/\∀ H',Ar H H'->Q (.int (sss.map psz).sum) H'
theorem Zk(T:Txt K mg t):Bd P w K mg base CX0 2 t.Rt t.Ru ["row_items"] (Ahm K t):=by
 refine T.Yo.F.ok Ow (λvs H Q E h=>?_) (λcdv A outer s H vs Q E hr h=>?_)
 ·obtain⟨li,rs,sss,rfl,_⟩:=h
  rfl
 ·obtain⟨li,rs,sss,rfl,hl,hA,k⟩:=h
  have ln:=hA.len
  have le:=hA.le
  have hsz:sizeLine=16777216:=yA
  refine⟨_,(Ad (An (Ao (Afo (K:=K)) rfl T.AmX AkP (Aa (BR (cok [] ["item"] Ow) rfl (Bf (K:=K) (pv 0)) (λ_ _ _ _ _=>.nil) (λ_ _ _ _ _=>(Hr (pv 0) T.Kv.c T.MT.m ((AaY T).mono (by decide)) hr T.MT.b .nil By))) Ab)))),?_⟩
  refine⟨_,rfl,_,rfl,⟨_,SqL.of hl⟩,Bu (K:=K) (a:=li) (xs:=rs.map V.ref) (λi ys H2=>H2=H/\ys=vI ((sss.take i).map psz)) ⟨rfl,rfl⟩ ?_ ?_ ?_ ?_⟩
  ·rintro i ys H2 hi ⟨rfl,rfl⟩
   refine⟨SqL.of hl,?_⟩
   rw[Bm,ApO,Aqf]
   lia
  ·rw[ApO];lia
  ·rintro i x ys H2 hi hx ⟨rfl,rfl⟩
   rw[ApO] at hi
   have hi':i<sss.length:=by lia
   rw[ApX,ApP hi] at hx
   cases hx
   obtain⟨dx,l,hP⟩:=hA.at_ i _ _ (ApP hi) (ApP hi')
   refine BZ.no ?_
   refine⟨_,rfl,_,dx,pfR l,rfl,hP.o,rfl,_,dx,l,_,rfl,hP,?_⟩
   refine CN.of (by rw[ApO];exact hi) ⟨rfl,?_⟩
   rw[Xl,Aqd,ApP hi',ApV]
   rfl
  ·rintro ys H2 p ⟨rfl,rfl⟩ hp
   rw[ApO,ln,Aqk]
   exact⟨_,_,rfl,SqL.of Ae,k _ (.upd hp)⟩
def Ajd (K:W.Frag)(t:Adr):Sp:=λvs H Q _=>∃(li:Addr) (rs:List Addr) (sss:List (List Int)),vs=[.ref li]/\H li=some (.lst (rs.map V.ref))/\Oh t H rs sss/\(sss.map psz).sum<=400/\(∀ ss∈sss,∀ s∈ss,s.natAbs<=400) /\
 ∀ q H',Ar H H'->H q=none->H' q=some (.lst (vI (sss.map DN).flatten))->Q (.ref q) H'
theorem YC(T:Txt K mg t):Bd P w K mg base CX0 3 t.Pk t.Pn ["row_items"] (Ajd K t):=by
 refine T.VH.F.ok Hx (λvs H Q E h=>?_) (λcdv A outer s H vs Q E hr h=>?_)
 ·obtain⟨li,rs,sss,rfl,_⟩:=h
  rfl
 ·obtain⟨li,rs,sss,rfl,hl,hA,Ao6,hb,k⟩:=h
  have ln:=hA.len
  have hsz:sizeLine=16777216:=yA
  refine⟨_,(Ac (Az (i:=1) Hx.nd rfl (Or.inl rfl) (CJ Ab))
   (Ac (Cj PassesOwn.never rfl (Bf (K:=K) (pv 0)) (Br (i:=2) Hx.nd rfl (Or.inl rfl))
    (Ad (Bp (Bo (K:=K) zM F.slot_list_extend F.type_list_extend Z7 (pv 1) (Aa (Hr (pv 2) T.Kv.c T.Ie.m ((We T).mono (by decide)) hr T.Ie.b .nil By) Ab)))))
   (Ad (An (pv 1))))),?_⟩
  refine⟨Aqb _,λq hq=>?_⟩
  have s1:Ar H (upd H q (.lst [])):=.upd hq
  refine⟨_,rfl,_,rfl,⟨_,SqL.of (s1 _ _ hl)⟩,?_⟩
  have pos:∀ ss∈sss,1<=psz ss:=λss hs=>by
   unfold psz
   have:=Aas ss (Aqb (ss.length-1))
   have e:Qu ss 0=1:=by simp[Qu]
   lia
  have part:∀ i,i<=sss.length->((sss.take i).map psz).sum<=(sss.map psz).sum:=λi hi=>by
   have e:sss.map psz=(sss.take i).map psz++(sss.drop i).map psz:=by rw[<- ApV,AqK]
   rw[e,Ari]
   have:0<=((sss.drop i).map psz).sum:=by
    have:∀(l:List (List Int)),(∀ ss∈l,1<=psz ss)->0<=(l.map psz).sum:=by
     intro l
     induction l with
     | nil=>intro _;simp
     | cons a l ih =>
      intro h
      rw[ApT,Aqm]
      have h1:=h a ApS
      have h2:=ih λss hs=>h ss (ApW _ hs)
      lia
    exact this _ λss hs=>pos ss (List.mem_of_mem_drop hs)
   lia
  have Ao7:∀ ss∈sss,1<=ss.length->((DN ss).length:Int)=psz ss:=λss _ h1=>by
   have:=Ad9 ss (ss.length-1) (by lia)
   rw[show ss.length-1+1=ss.length by lia,Aqk] at this
   exact this
  refine Dd (K:=K) (a:=li) (xs:=rs.map V.ref) (λi σ H2=>∃ v,σ=[some (.ref li),some (.ref q),v]/\Ar H H2/\H2 q=some (.lst (vI ((sss.take i).map DN).flatten))/\((((sss.take i).map DN).flatten.length:Nat):Int)=((sss.take i).map psz).sum)
   ⟨none,rfl,s1,Ae,rfl⟩ (λi σ H2 _ ⟨_,_,s2,_⟩=>SqL.of (s2 _ _ hl)) ?_ ?_
  ·rintro i x σ H2 hx ⟨v,rfl,s2,hq2,hlen⟩
   have hi:i<rs.length:=by
    have:=(zC.mp hx).1
    rwa [ApO] at this
   have hi':i<sss.length:=by lia
   rw[ApX,ApP hi] at hx
   cases hx
   have hm:sss[i]∈sss:=Aqq hi'
   obtain⟨dx,l,hP⟩:=(hA.at_ i _ _ (ApP hi) (ApP hi')).same s2
   have p1:=part (i+1) (by lia)
   have p0:=part i (by lia)
   have e6:(sss.take (i+1))=sss.take i++[sss[i]]:=by rw[Aqd,ApP hi'];rfl
   have e7:((sss.take (i+1)).map psz).sum=((sss.take i).map psz).sum+psz sss[i]:=by rw[e6,ApV,Ari];simp
   have nn:0<=((sss.take i).map psz).sum:=by rw[<- hlen];lia
   refine⟨_,rfl,.inl ⟨rfl,_,SqL.of hq2⟩,_,rfl,_,dx,pfR l,rfl,hP.o,rfl,_,dx,l,_,rfl,hP,(show psz sss[i]<=400 by lia),hb _ hm,λl2 H3 s3 nl2 hl2=>?_⟩
   have pl:=Ao7 _ hm hP.ne
   refine⟨q,l2,_,_,rfl,rfl,s3 _ _ hq2,hl2,(by rw[Bm,Bm];lia),?_⟩
   refine⟨_,rfl,(s2.trans s3).over hq,?_,?_⟩
   ·rw[Ae,e6,ApV,AqG]
    unfold vI
    rw[ApV]
    simp
   ·have e9:((([sss[i]].map DN).flatten.length:Nat):Int)=psz sss[i]:=by simpa using pl
    rw[e7,e6,ApV,AqG,ApQ,Int.natCast_add,hlen,e9]
  ·rintro σ H2 ⟨v,rfl,s2,hq2,hlen⟩
   refine⟨_,rfl,k q H2 s2 hq ?_⟩
   rw[hq2,ApO,ln,Aqk]
theorem Ahn{n:Nat}(h:n<100):AfG (dec n)=.int (n:Int):=by
 have d:=dec_is h
 unfold AfG
 rw[if_pos ⟨⟨d.l1,d.l2⟩,d.z⟩,d.v]
theorem Aho{n:Nat}(h:n<100){rest:List Nat}(hs:∀ c,rest[0]?=some c->¬(48<=c/\c<=57)):AaV (dec n++rest)=dec n:=by
 have d:=dec_is h
 rw[Aeu (dec n++rest) (dec n).length (by rw[ApQ];lia)]
 ·exact List.take_left
 ·rw[List.take_left]
  exact λc hc=>zN (d.dg c hc)
 ·intro c hc
  rw[Aqi (ApR _),Aq5] at hc
  exact zJ (hs c hc)
def CV (r:Addr)(H H':Hp):Prop:=∀ b o,b≠r->H b=some o->H' b=some o
theorem CV.trans{r:Addr}{H H1 H2:Hp}(a:CV r H H1)(b:CV r H1 H2):CV r H H2:=λc o n e=>b c o n (a c o n e)
theorem CV.upd{r:Addr}{H:Hp}{o:HO}:CV r H (L2.upd H r o):=λb o' n e=>by rw[Ah n];exact e
theorem Ahp{r:Addr}{H H':Hp}(s:Ar H H'):CV r H H':=λb o _ e=>s b o e
def Aje (t:Adr):Sp:=λvs H Q _=>∃ r dx u p n rest,vs=[.ref r]/\Rd t H r dx u p/\n<100/\u.drop p=dec n++rest/\(∀ c,rest[0]?=some c->¬(48<=c/\c<=57))/\Q (.int (n:Int)) (upd H r (.ins t.Bh dx (rf u (p+(dec n).length))))
theorem Hc(T:Txt K mg t):Bd P w K mg base CX0 4 t.HN t.HQ ["reader"] (Aje t):=by
 refine T.CK.F.ok Hb (λvs H Q E h=>?_) (λcdv A outer s H vs Q E hr h=>?_)
 ·obtain⟨r,dx,u,p,n,rest,rfl,_⟩:=h
  rfl
 ·obtain⟨r,dx,u,p,n,rest,rfl,hR,hn,hd,hs,k⟩:=h
  refine⟨_,(Ac (Az (i:=1) Hb.nd rfl (Or.inl rfl) (Hr (pv 0) T.Bj.c T.GP.m ((Su T).mono (by decide)) hr T.GP.b .nil By))
   (Ac (Be (Al Agm (pv 1) WD (Aw _))
    (Ad Bc)
    Aq)
   (Ad (An (pv 1))))),?_⟩
  refine⟨_,rfl,r,dx,rf u p,rfl,hR.1,(CP u p).2.2.1,r,dx,u,p,rfl,hR,?_⟩
  rw[hd,Aho hn hs,Ahn hn]
  refine⟨_,rfl,rfl,_,rfl,?_⟩
  refine Cg (λz=>nomatch z) ?_
  exact⟨_,rfl,k⟩
theorem Ahq:(("-" : Str))=tx [45]:=by decide +kernel
def Ahr (t:Adr):Sp:=λvs H Q _=>∃ r dx u p n0 ns rest,vs=[.ref r,.int ((n0:Nat):Int)]/\Rd t H r dx u p/\(∀ n∈ns,n<100)/\ns.length<=900/\u.drop p=tails ns++rest/\Stop rest /\
 ∀ a H',CV r H H'->Rd t H' r dx u (p+(tails ns).length)->H a=none->AtP t H' a ((n0::ns).map Int.ofNat)->Q (.ref a) H'
theorem AaZ(T:Txt K mg t):Bd P w K mg base CX0 5 t.Vv t.Vw ["reader", "first"] (Ahr t):=by
 refine T.Aah.F.ok QQ (λvs H Q E h=>?_) (λcdv A outer s H vs Q E hr h=>?_)
 ·obtain⟨r,dx,u,p,n0,ns,rest,rfl,_⟩:=h
  rfl
 ·obtain⟨r,dx,u,p,n0,ns,rest,rfl,hR,hn,hl,hd,hs,k⟩:=h
  refine⟨_,(Ac (Az (i:=2) QQ.nd rfl (Or.inl rfl) (CJ (Aa (pv 1) Ab)))
   (Ac (Q5 PassesOwn.never (Cr (Dy (pv 0) T.Bj.c T.BL.m ((Dw T).mono (by decide)) hr T.BL.b .nil By (Aa Am Ab)))
    (Ad (Bp (Bo (K:=K) zM zL zQ Cq (pv 2) (Aa (Ed ((Hc T).mono (by decide)) hr rfl T.CK.m T.CK.F.kp T.CK.b .nil By (Aa (pv 0) Ab)) Ab)))))
   (Ad (An (Gh T.Kv.m ((Uj T).mono (by decide)) hr rfl T.Als T.EY.b .nil By (Aa (pv 2) Ab)))))),?_⟩
  refine⟨_,rfl,(by show 1<=sizeLine;decide),λq hq=>?_⟩
  have nqr:q≠r:=λz=>by rw[z,hR.1] at hq;cases hq
  refine⟨λm σ H2=>∃ done todo,σ=[some (.ref r),some (.int (n0:Int)),some (.ref q)]/\ns=done++todo/\CV r H H2/\H2 q=some (.lst (vI ((n0::done).map Int.ofNat)))/\Rd t H2 r dx u (p+(tails done).length)/\u.drop (p+(tails done).length)=tails todo++rest/\m=todo.length,
   ⟨_,[],ns,rfl,rfl,Ahp (Ar.upd hq),Ae,⟨by rw[Ah nqr.symm];exact hR.1,hR.2⟩,hd,rfl⟩,?_⟩
  rintro m σ H2 ⟨done,todo,rfl,rfl,s2,hq2,hR2,hd2,rfl⟩
  refine⟨_,rfl,r,dx,rf u (p+(tails done).length),rfl,hR2.1,(CP u _).2.1,r,dx,u,p+(tails done).length,[45],(by rw[Ahq];rfl),hR2,(by decide),λZm=>?_,λhno=>?_⟩
  ·refine⟨_,rfl,?_⟩
   refine JZ ?_
   rw[hd2] at Zm
   cases todo with
   | nil =>
    exfalso
    cases rest with
    | nil=>simp[tails] at Zm
    | cons c rest =>
     have:c=45:=by simpa [tails] using Zm
     exact(hs c rfl).2 this
   | cons n td =>
    have hn2:n<100:=hn n (by simp)
    have hdr:u.drop (p+(tails done).length+1)=dec n++(tails td++rest):=by
     rw[<- Ara,hd2]
     simp[tails]
    have hlen:p+(tails done).length+1<=u.length:=by
     have:=congrArg List.length hd2
     rw[Aqx] at this
     simp[tails] at this
     lia
    have nx:∀ c,(tails td++rest)[0]?=some c->¬(48<=c/\c<=57):=λc hc=>by
     cases td with
     | nil=>exact(hs c (by simpa [tails] using hc)).1
     | cons m td =>
      have:45=c:=by simpa [tails] using hc
      lia
    have hq3:(upd H2 r (.ins t.Bh dx (rf u (p+(tails done).length+[45].length)))) q=some (.lst (vI ((n0::done).map Int.ofNat))):=by rw[Ah nqr];exact hq2
    refine⟨_,λσ' H' h=>h,?_⟩
    refine⟨_,rfl,.inl ⟨rfl,_,SqL.of hq3⟩,_,rfl,r,dx,u,p+(tails done).length+1,n,tails td++rest,rfl,⟨Ae,hlen,hR2.2.2⟩,hn2,hdr,nx,?_⟩
    rw[JW]
    have hq4:(upd H2 r (.ins t.Bh dx (rf u (p+(tails done).length+1+(dec n).length)))) q=some (.lst (vI ((n0::done).map Int.ofNat))):=by rw[Ah nqr];exact hq2
    have ld:done.length<=900:=by
     rw[ApQ] at hl
     lia
    refine⟨_,_,_,rfl,rfl,hq4,(by rw[Bm,ApO,ApU];exact Tu (by lia)),?_⟩
    have et:(tails (done++[n])).length=(tails done).length+1+(dec n).length:=by
     have:∀(d:List Nat),tails (d++[n])=tails d++45::dec n:=by
      intro d
      induction d with
      | nil=>simp[tails]
      | cons a d ih=>simp[tails,ih]
     rw[this,ApQ,ApU]
     lia
    have hfin:p+(tails done).length+1+(dec n).length<=u.length:=by
     have:=congrArg List.length hdr
     rw[Aqx,ApQ] at this
     lia
    refine⟨td.length,by simp,done++[n],td,rfl,by simp,?_,?_,?_,?_,rfl⟩
    ·intro b o hb e
     rw[Ah (Ak e hq),Ah hb]
     exact s2 b o hb e
    ·rw[Ae]
     show some (HO.lst (vI ((n0::done).map Int.ofNat)++[V.int (Int.ofNat n)]))=_
     rw[Xl,<- AqL,ApV]
     rfl
    ·refine⟨?_,by rw[et];lia,hR2.2.2⟩
     rw[Ah nqr.symm,Ae,et]
     rw[show p+((tails done).length+1+(dec n).length)=p+(tails done).length+1+(dec n).length by lia]
    ·rw[et,show p+((tails done).length+1+(dec n).length)=p+(tails done).length+1+(dec n).length by lia,<- Ara,hdr]
     exact Arw
  ·refine⟨_,rfl,?_⟩
   refine DP ?_
   cases todo with
   | cons n td =>
    exfalso
    rw[hd2] at hno
    exact hno (by simp[tails])
   | nil =>
    rw[Aqv] at hl k
    refine⟨_,rfl,λx dx' hx hdx hne=>⟨x,dx',q,rfl,Ae,rfl,?_⟩⟩
    rw[JW]
    have nx:∀ b o,H2 b=some o->b≠x/\b≠dx':=λb o e=>⟨Ak e hx,Ak e hdx⟩
    have keep:∀ b o,H2 b=some o->(upd (upd H2 dx' (.own x)) x (.ins t.Gb dx' (pfR q))) b=some o:=λb o e=>by rw[Ah (nx b o e).1,Ah (nx b o e).2];exact e
    refine k x _ (λb o hb e=>keep b o (s2 b o hb e)) ⟨keep _ _ hR2.1,hR2.2⟩ ?_ ⟨dx',q,Ae,keep _ _ hq2,by simp,by rw[ApO,ApU];lia⟩
    cases e:H x with
    | none=>rfl
    | some o =>
     by_cases hxr:x=r
     ·rw[hxr,hR2.1] at hx;cases hx
     ·rw[s2 x o hxr e] at hx;cases hx
theorem AfI:(("*(" : Str))=tx [42,40]:=by decide +kernel
def Ahs (t:Adr):Sp:=λvs H Q _=>∃ r dx u p n0 ns rest d,vs=[.ref r,d]/\Rd t H r dx u p/\(∀ n∈n0::ns,n<100)/\ns.length<=900/\u.drop p=BJ (n0::ns)++rest/\Stop rest/\rest.take 2≠[42,40] /\
 ∀ a H',CV r H H'->Rd t H' r dx u (p+(BJ (n0::ns)).length)->H a=none->AtP t H' a ((n0::ns).map Int.ofNat)->Q (.ref a) H'
theorem Sv(T:Txt K mg t):Bd P w K mg base CX0 6 t.Vt t.Vu ["reader", "depth"] (Ahs t):=by
 refine T.Ua.F.ok QM (λvs H Q E h=>?_) (λcdv A outer s H vs Q E hr h=>?_)
 ·obtain⟨r,dx,u,p,n0,ns,rest,d,rfl,_⟩:=h
  rfl
 ·obtain⟨r,dx,u,p,n0,ns,rest,d,rfl,hR,hn,hl,hd,hs,hst,k⟩:=h
  have h0:n0<100:=hn n0 ApS
  have hd':u.drop p=dec n0++(tails ns++rest):=by rw[hd,BJ,Aqz]
  have hdr:u.drop (p+(dec n0).length)=tails ns++rest:=by rw[<- Ara,hd'];exact Arw
  have hle:p+(dec n0).length<=u.length:=by
   have:=congrArg List.length hd'
   have d1:=(dec_is h0).l1
   rw[Aqx,ApQ] at this
   lia
  have nx:∀ c,(tails ns++rest)[0]?=some c->¬(48<=c/\c<=57):=λc hc=>by
   cases ns with
   | nil=>exact(hs c (by simpa [tails] using hc)).1
   | cons m td =>
    have:45=c:=by simpa [tails] using hc
    lia
  refine⟨_,(Ac (Az (i:=2) QM.nd rfl (Or.inl rfl) (Ed ((Hc T).mono (by decide)) hr rfl T.CK.m T.CK.F.kp T.CK.b .nil By (Aa (pv 0) Ab)))
   (Ac (Be (Cr (Dy (pv 0) T.Bj.c T.BL.m ((Dw T).mono (by decide)) hr T.BL.b .nil By (Aa Am Ab)))
    (Ad Bc)
    Aq)
   (Ad (An (Bb T.Aah (AaZ T) hr (Aa (pv 0) (Aa (pv 2) Ab))))))),?_⟩
  refine⟨_,rfl,r,dx,u,p,n0,tails ns++rest,rfl,hR,h0,hd',nx,?_⟩
  have hS:(upd H r (.ins t.Bh dx (rf u (p+(dec n0).length)))) r=some (.ins t.Bh dx (rf u (p+(dec n0).length))):=Ae
  refine⟨_,rfl,r,dx,rf u (p+(dec n0).length),rfl,hS,(CP u _).2.1,r,dx,u,p+(dec n0).length,[42,40],(by rw[AfI];rfl),⟨hS,hle,hR.2.2⟩,(by decide),λZm=>?_,λhno=>?_⟩
  ·exfalso
   rw[hdr] at Zm
   cases ns with
   | nil=>exact hst (by simpa [tails] using Zm)
   | cons m td=>simp[tails] at Zm
  ·refine⟨_,rfl,?_⟩
   refine DP ?_
   refine⟨_,rfl,_,rfl,r,dx,u,p+(dec n0).length,n0,ns,rest,rfl,⟨hS,hle,hR.2.2⟩,λn h=>hn n (ApW _ h),hl,hdr,hs,λa H' s1 hR1 na hA=>?_⟩
   have na':H a=none:=by
    by_cases har:a=r
    ·rw[har,hS] at na;cases na
    ·rw[Ah har] at na;exact na
   refine k a H' (CV.upd.trans s1) ?_ na' hA
   rw[BJ,ApQ,<- Nat.add_assoc]
   exact hR1
theorem Aly:((" " : Str))=tx [32]:=by decide +kernel
def ofN (ns:List Nat):List Int:=ns.map Int.ofNat
def Amf (t:Adr):Sp:=λvs H Q _=>∃ r dx u p n0 ns d,vs=[.ref r,d]/\Rd t H r dx u p/\(∀ n∈n0::ns,n<100)/\ns.length<=900/\u.drop p=BJ (n0::ns) /\
 ∀ li a H',CV r H H'->Rd t H' r dx u u.length->H li=none->H' li=some (.lst ([a].map V.ref))->Oh t H' [a] [ofN (n0::ns)]->Q (.ref li) H'
def AnH (t:Adr):Sp:=λvs H Q _=>∃ n0 ns,vs=[.str (tx (BJ (n0::ns)))]/\(∀ n∈n0::ns,n<100)/\ns.length<=900 /\
 ∀ li a H',Ar H H'->H li=none->H' li=some (.lst ([a].map V.ref))->Oh t H' [a] [ofN (n0::ns)]->Q (.ref li) H'
theorem Aat:∀(ns:List Nat),(∀ n∈ns,n<100)->(tails ns).length<=3*ns.length
 | [],_=>by simp[tails]
 | n::r,h=>by
  have d:=(dec_is (h n ApS)).l2
  have:=Aat r λm hm=>h m (ApW _ hm)
  rw[tails,ApU,ApQ,ApU]
  lia
theorem Aht{zs:List Int}(h:1<=zs.length):((DN zs).length:Int)=psz zs:=by
 have:=Ad9 zs (zs.length-1) (by lia)
 rw[show zs.length-1+1=zs.length by lia,Aqk] at this
 exact this
def more:List (List Nat)->List Nat
 | []=>[]
 | ps::r=>32::(BJ ps++more r)
structure Okp (ps:List Nat):Prop where
 ne:1<=ps.length
 le:ps.length<=900
 bd:∀ n∈ps,n<100
theorem NQ:∀(r:List (List Nat)),Stop (more r)/\(more r).take 2≠[42,40]
 | []=>⟨λc hc=>by simp[more] at hc,by simp[more]⟩
 | ps::r=>⟨λc hc=>by
   have:32=c:=by simpa [more] using hc
   lia,by simp[more]⟩
theorem Oh.snoc{H H':Hp}{rs:List Addr}{sss:List (List Int)}{a:Addr}{ss:List Int}(h:Oh t H' rs sss)(hA:AtP t H' a ss)(hl:rs.length<1000):Oh t H' (rs++[a]) (sss++[ss]):=by
 refine⟨by rw[ApQ,ApQ,h.len];rfl,λi b s e1 e2=>?_,by rw[ApQ];simp;lia⟩
 by_cases hi:i<rs.length
 ·rw[Aqo hi] at e1
  rw[Aqo (by rw[<- h.len];exact hi)] at e2
  exact h.at_ i b s e1 e2
 ·rw[Aqi (by lia)] at e1
  rw[Aqi (by rw[<- h.len];lia),<- h.len] at e2
  cases hj:i-rs.length with
  | zero =>
   rw[hj] at e1 e2
   cases e1
   cases e2
   exact hA
  | succ j=>rw[hj] at e1;simp at e1
theorem AtP.but{H H':Hp}{r a:Addr}{ss:List Int}(h:AtP t H a ss)(s:CV r H H')(hr:∃ dx fs,H r=some (.ins t.Bh dx fs))(nc:t.Bh≠t.Gb):AtP t H' a ss:=by
 obtain⟨dx,l,p⟩:=h
 obtain⟨dr,fs,er⟩:=hr
 refine⟨dx,l,s _ _ (λz=>?_) p.o,s _ _ (λz=>?_) p.l,p.ne,p.le⟩
 ·have h1:=p.o
  rw[z,er] at h1
  injection h1 with h1
  injection h1 with h1
  exact nc h1
 ·have:=p.l
  rw[z,er] at this
  cases this
theorem AtP.over{H:Hp}{a li:Addr}{ss:List Int}{rs:List Addr}{o:HO}(h:AtP t H a ss)(hl:H li=some (.lst (rs.map V.ref))):AtP t (upd H li o) a ss:=by
 obtain⟨dx,l,p⟩:=h
 refine⟨dx,l,?_,?_,p.ne,p.le⟩
 ·rw[Ah (λz=>by
   have h1:=p.o
   rw[z,hl] at h1
   cases h1)]
  exact p.o
 ·rw[Ah (λz=>by
   have h1:=p.l
   rw[z,hl] at h1
   injection h1 with h1
   injection h1 with h1
   have hne:=p.ne
   cases ss with
   | nil=>simp at hne
   | cons x y =>
    cases rs with
    | nil=>simp[vI] at h1
    | cons c d =>
     unfold vI at h1
     rw[ApT,ApT] at h1
     injection h1 with h1
     cases h1)]
  exact p.l
def AdA (t:Adr):Sp:=λvs H Q _=>∃ r dx u p ps pss d,vs=[.ref r,d]/\Rd t H r dx u p/\Okp ps/\(∀ q∈pss,Okp q)/\pss.length<=900/\u.drop p=BJ ps++more pss /\
 ∀ li rs H',CV r H H'->Rd t H' r dx u u.length->H li=none->H' li=some (.lst (rs.map V.ref))->Oh t H' rs ((ps::pss).map ofN)->Q (.ref li) H'
theorem Nf(T:Txt K mg t)(nc:t.Bh≠t.Gb):Bd P w K mg base CX0 7 t.Rw t.Rx ["reader", "depth"] (AdA t):=by
 refine T.Qs.F.ok Oz (λvs H Q E h=>?_) (λcdv A outer s H vs Q E hr h=>?_)
 ·obtain⟨r,dx,u,p,ps,pss,d,rfl,_⟩:=h
  rfl
 ·obtain⟨r,dx,u,p,ps,pss,d,rfl,hR,hO,hOs,hl,hd,k⟩:=h
  obtain⟨n0,ns,rfl⟩:∃ n0 ns,ps=n0::ns:=by
   cases ps with
   | nil=>exact absurd hO.ne (by simp)
   | cons a b=>exact⟨a,b,rfl⟩
  have step:∀(q:Nat) (x y:List Nat),q<=u.length->u.drop q=x++y->u.drop (q+x.length)=y/\q+x.length<=u.length:=λq x y hq e=>by
   refine⟨by rw[<- Ara,e];exact Arw,?_⟩
   have:=congrArg List.length e
   rw[Aqx,ApQ] at this
   lia
  refine⟨_,(Ac (Az (i:=2) Oz.nd rfl (Or.inl rfl) (CJ (Aa (Bb T.Ua (Sv T) hr (Aa (pv 0) (Aa (pv 1) Ab))) Ab)))
   (Ac (Q5 PassesOwn.never (Cr (Dy (pv 0) T.Bj.c T.BL.m ((Dw T).mono (by decide)) hr T.BL.b .nil By (Aa Am Ab)))
    (Ad (Bp (Bo (K:=K) zM zL zQ Cq (pv 2) (Aa (Bb T.Ua (Sv T) hr (Aa (pv 0) (Aa (pv 1) Ab))) Ab)))))
   (Ad (An (pv 2))))),?_⟩
  refine⟨_,rfl,_,rfl,r,dx,u,p,n0,ns,more pss,d,rfl,hR,hO.bd,(by have:=hO.le;rw[ApU] at this;lia),hd,(NQ pss).1,(NQ pss).2,λa H1 s1 hR1 na hA=>?_⟩
  obtain⟨hd1,_⟩:=step p _ _ hR.2.1 hd
  refine⟨(by show 1<=sizeLine;decide),λli hli=>?_⟩
  have s2:Ar H1 (upd H1 li (.lst [.ref a])):=.upd hli
  have nlr:li≠r:=λz=>by rw[z,hR1.1] at hli;cases hli
  have nli:H li=none:=by
   cases e:H li with
   | none=>rfl
   | some o=>rw[s1 li o nlr e] at hli;cases hli
  have a1:Oh t (upd H1 li (.lst [.ref a])) [a] [ofN (n0::ns)]:=⟨rfl,λi b ss e1 e2=>by
   cases i with
   | zero=>cases e1;cases e2;exact hA.same s2
   | succ i=>simp at e1,by simp⟩
  refine⟨λm σ H2=>∃ q rs done todo,σ=[some (.ref r),some d,some (.ref li)]/\pss=done++todo/\CV r H H2/\Rd t H2 r dx u q/\u.drop q=more todo/\H2 li=some (.lst (rs.map V.ref))/\Oh t H2 rs (((n0::ns)::done).map ofN)/\m=todo.length,
   ⟨_,_,[a],[],pss,rfl,rfl,s1.trans (Ahp s2),⟨s2 _ _ hR1.1,hR1.2⟩,hd1,Ae,a1,rfl⟩,?_⟩
  rintro m σ H2 ⟨q,rs,done,todo,rfl,rfl,s3,hR3,hd3,hl3,hA3,rfl⟩
  refine⟨_,rfl,r,dx,rf u q,rfl,hR3.1,(CP u _).2.1,r,dx,u,q,[32],(by rw[Aly];rfl),hR3,(by decide),λZm=>?_,λhno=>?_⟩
  ·refine⟨_,rfl,?_⟩
   refine JZ ?_
   rw[hd3] at Zm
   cases todo with
   | nil=>simp[more] at Zm
   | cons qs td =>
    obtain⟨m0,ms,rfl⟩:∃ m0 ms,qs=m0::ms:=by
     cases qs with
     | nil=>exact absurd (hOs [] (by simp)).ne (by simp)
     | cons x y=>exact⟨x,y,rfl⟩
    have hOq:Okp (m0::ms):=hOs _ (by simp)
    obtain⟨hd4,hq4⟩:=step q [32] (BJ (m0::ms)++more td) hR3.2.1 (by rw[hd3];rfl)
    have hS4:(upd H2 r (.ins t.Bh dx (rf u (q+[32].length)))) r=some (.ins t.Bh dx (rf u (q+[32].length))):=Ae
    have hl4:(upd H2 r (.ins t.Bh dx (rf u (q+[32].length)))) li=some (.lst (rs.map V.ref)):=by rw[Ah nlr];exact hl3
    refine⟨_,λσ' H' h=>h,?_⟩
    refine⟨_,rfl,.inl ⟨rfl,_,SqL.of hl4⟩,_,rfl,_,rfl,r,dx,u,q+[32].length,m0,ms,more td,d,rfl,⟨hS4,hq4,hR3.2.2⟩,hOq.bd,(by have:=hOq.le;rw[ApU] at this;lia),hd4,(NQ td).1,(NQ td).2,λb H5 s5 hR5 nb hB=>?_⟩
    obtain⟨hd5,_⟩:=step (q+[32].length) _ _ hq4 hd4
    have hl5:=s5 _ _ nlr hl4
    have lrs:rs.length<=901:=by
     have:=hA3.len
     rw[ApO,ApU] at this
     rw[ApQ] at hl
     lia
    refine⟨_,_,_,rfl,rfl,hl5,(by rw[ApO];exact Tu (by lia)),?_⟩
    have sB:CV r H2 H5:=CV.upd.trans s5
    have AmY:∀ b' ss,AtP t H2 b' ss->AtP t H5 b' ss:=λb' ss h=>h.but sB ⟨dx,_,hR3.1⟩ nc
    refine⟨td.length,by simp,_,rs++[b],done++[m0::ms],td,rfl,by simp,?_,⟨?_,hR5.2⟩,hd5,?_,?_,rfl⟩
    ·intro c o hc e
     rw[Ah (Ak e nli)]
     exact s5 c o hc (by rw[Ah hc];exact s3 c o hc e)
    ·rw[Ah nlr.symm];exact hR5.1
    ·rw[Ae,ApV];rfl
    ·have a5:Oh t (upd H5 li (.lst (rs.map V.ref++[V.ref b]))) rs (((n0::ns)::done).map ofN):=⟨hA3.len,λi b' ss e1 e2=>(AmY b' ss (hA3.at_ i b' ss e1 e2)).over hl5,hA3.le⟩
     have:=a5.snoc (H:=H) (hB.over (o:=.lst (rs.map V.ref++[V.ref b])) hl5) (by lia)
     rw[<- AqL,ApV]
     exact this
  ·refine⟨_,rfl,?_⟩
   refine DP ?_
   cases todo with
   | cons qs td =>
    exfalso
    rw[hd3] at hno
    exact hno (by simp[more])
   | nil =>
    rw[Aqv] at *
    have hqe:q=u.length:=by
     have:=congrArg List.length hd3
     rw[Aqx] at this
     simp[more] at this
     have:=hR3.2.1
     lia
    rw[hqe] at hR3
    exact⟨_,rfl,k li rs H2 s3 hR3 nli hl3 hA3⟩
theorem Ake(T:Txt K mg t):t.Bh≠t.Gb:=λe=>by
 have h1:=T.CT.m.at_
 have h2:=T.EY.m.at_
 rw[e,h2] at h1
 injection h1 with h1
 injection h1 with h1
 injection h1 with h1
 obtain⟨_,_,_,_,_,_,_,_,_,e1,l1,_⟩:=T.CT.F.ex
 obtain⟨_,_,_,_,_,_,_,_,_,e2,l2,_⟩:=T.EY.F.ex
 rw[h1,l1,e1,e2] at l2
 injection l2 with l2
 injection l2 with _ _ l2 _
 injection l2 with l2
 have q:(("Reader.__init__" : Str))=("Path.__init__" : Str):=congrArg FuncData.qualname l2
 exact absurd q (by decide +kernel)
def Ac5 (ps:List Nat)(pss:List (List Nat)):List Nat:=BJ ps++more pss
theorem AfJ:∀{ps:List Nat},Okp ps->1<=(BJ ps).length/\(BJ ps).length<=3*ps.length
 | [],h=>absurd h.ne (by simp)
 | n::r,h=>by
  have d:=dec_is (h.bd n ApS)
  have:=Aat r λm hm=>h.bd m (ApW _ hm)
  have:=d.l1
  have:=d.l2
  rw[BJ,ApQ,ApU]
  lia
def Ahu (t:Adr):Sp:=λvs H Q _=>∃ ps pss,vs=[.str (tx (Ac5 ps pss))]/\Okp ps/\(∀ q∈pss,Okp q)/\pss.length<=900/\(Ac5 ps pss).length<=1000000 /\
 ∀ li rs H',Ar H H'->H li=none->H' li=some (.lst (rs.map V.ref))->Oh t H' rs ((ps::pss).map ofN)->Q (.ref li) H'
theorem Aba(T:Txt K mg t):Bd P w K mg base CX0 8 t.Ko t.Kp ["text"] (Ahu t):=by
 refine T.Yp.F.ok Fi (λvs H Q E h=>?_) (λcdv A outer s H vs Q E hr h=>?_)
 ·obtain⟨ps,pss,rfl,_⟩:=h
  rfl
 ·obtain⟨ps,pss,rfl,hO,hOs,hl,ul,k⟩:=h
  have u1:1<=(Ac5 ps pss).length:=by
   have:=(AfJ hO).1
   unfold Ac5
   rw[ApQ]
   lia
  obtain⟨u,hu⟩:∃ u,u=Ac5 ps pss:=⟨_,rfl⟩
  rw[<- hu] at ul u1 ⊢
  refine⟨_,(Ac (Be (Al Ca (pv 0) Am (Aw _))
    (Ad (An (CJ Ab)))
    Aq)
   (Ac (Az (i:=1) Fi.nd rfl (Or.inl rfl) (Gh T.Bj.m ((Fg T).mono (by decide)) hr rfl T.Y5 T.CT.b .nil By (Aa (pv 0) Ab)))
   (Ac (Az (i:=2) Fi.nd rfl (Or.inl rfl) (Bb T.Qs (Nf T (Ake T)) hr (Aa (pv 1) (Aa Ag Ab))))
   (Ac (Be (Dg (Cr (Hr (pv 1) T.Bj.c T.Cw.m ((Fb T).mono (by decide)) hr T.Cw.b .nil By)))
    (Ad Bc)
    Aq)
   (Ad (An (pv 2))))))),?_⟩
  refine⟨_,rfl,rfl,_,rfl,?_⟩
  refine Cg (λz=>?_) ?_
  ·injection z with z
   have:u=[]:=Fd (z.trans (by decide +kernel))
   rw[this] at u1
   simp at u1
  refine⟨_,rfl,λr dx hr1 hdx hne=>⟨r,dx,u,rfl,Ae,rfl,?_⟩⟩
  rw[JW]
  have hR:Rd t (upd (upd H dx (.own r)) r (.ins t.Bh dx (rf u 0))) r dx u 0:=⟨Ae,Aqb _,ul⟩
  have s1:Ar H (upd (upd H dx (.own r)) r (.ins t.Bh dx (rf u 0))):=(Ar.upd hdx).over hr1
  refine⟨_,rfl,r,dx,u,0,ps,pss,_,rfl,hR,hO,hOs,hl,hu,λli rs H' s2 hR' nli hli hA=>?_⟩
  refine⟨_,rfl,r,dx,rf u u.length,rfl,hR'.1,(CP u _).1,r,dx,u,u.length,rfl,hR',_,rfl,?_⟩
  rw[zN rfl]
  refine DP ?_
  have s3:Ar H H':=λb o e=>s2 b o (Ak e hr1) (s1 b o e)
  exact⟨_,rfl,k li rs H' s3 (s1.free nli) hli hA⟩
def ApH (ps:List Nat)(pss:List (List Nat)):Int:=(((ps::pss).map ofN).map psz).sum
def ApI (ps:List Nat)(pss:List (List Nat)):List Int:=(((ps::pss).map ofN).map DN).flatten
end
theorem Ahv:∀(s:Int) (r:List Int) (k:Nat),k<=r.length->lst s (r.take k)=(s::r).getD k 0
 | s,r,0,_=>by simp[lst]
 | s,[],k+1,h=>by simp at h
 | s,b::r,k+1,h=>by
  rw[Aq4,lst,Ahv b r k (by simpa using h)]
  simp[List.getD]
theorem Ac6(z:List Nat):∀(ys:List (List Nat)) (acc:Array Nat),(ys.map tx).foldl (λacc p=>acc++(tx z).cps++p.cps) acc=acc++((ys.map λy=>z++y).flatten).toArray
 | [],acc=>by simp
 | y::ys,acc=>by
  rw[ApT,Aro,Ac6 z ys]
  simp[tx]
theorem JP(z y:List Nat)(ys:List (List Nat)):Txt.join (tx z) ((y::ys).map tx)=tx (y++(ys.map λy=>z++y).flatten):=by
 show Str.mk _=_
 simp only [ApT,List.drop_one,List.tail_cons,List.headD_cons]
 rw[Ac6]
 simp[tx]
theorem YD:∀(ns:List Nat),((ns.map dec).map λy=>[45]++y).flatten=tails ns
 | []=>rfl
 | n::r=>by
  rw[ApT,ApT,Aqg,YD r,tails]
  rfl
theorem AfK(n0:Nat)(ns:List Nat):Txt.join (tx [45]) (((n0::ns).map dec).map tx)=tx (BJ (n0::ns)):=by
 rw[ApT,JP,YD,BJ]
def rT:List (List Nat)->List Nat
 | []=>[]
 | p::r=>Ac5 p r
def nT (pss:List (List Nat)):List Int:=((pss.map ofN).map DN).flatten
theorem Aew(pss:List (List Nat))(p:List Nat):nT (pss++[p])=nT pss++DN (ofN p):=by
 unfold nT
 simp
theorem AfL{z:List Int}{a:Int}(b:Int):DN ((z++[a])++[b])=DN (z++[a])++Gg a b:=by
 cases z with
 | nil=>simp[DN,go]
 | cons s r=>rw[AqL,AqL,DN,NP,lst_snoc,DN,AqL]
theorem NT(a b:List Nat):ofN (a++b)=ofN a++ofN b:=by unfold ofN;rw[ApV]
theorem Alz(pss:List (List Nat))(q:List Nat)(a n:Nat):nT (pss++[(q++[a])++[n]])=nT (pss++[q++[a]])++Gg (a:Int) (n:Int):=by
 rw[Aew,Aew,NT (q++[a]) [n],NT q [a]]
 show nT pss++DN ((ofN q++[(a:Int)])++[(n:Int)])=nT pss++DN (ofN q++[(a:Int)])++Gg (a:Int) (n:Int)
 rw[AfL,Aqz]
def gt (row:List Nat)(i:Nat):Nat:=row.getD i 0
def un (row:List Nat)(i:Nat):Prop:=gt row (i+1)=gt row i+1\/gt row i=gt row (i+1)+1
instance (row:List Nat) (i:Nat):Decidable (un row i):=inferInstanceAs (Decidable (_\/_))
def Leg (row:List Nat)(j k:Nat):Prop:=∃ d:Int,(d=1\/d = -1)/\∀ i,j<=i->i<k->(gt row (i+1):Int)=(gt row i:Int)+d
theorem Ahw{row:List Nat}{j:Nat}{d:Int}:∀{q:Nat},(∀ i,j<=i->i<j+q->(gt row (i+1):Int)=(gt row i:Int)+d)->(gt row (j+q):Int)=(gt row j:Int)+d*(q:Int)
 | 0,_=>by simp
 | q+1,h=>by
  have h1:=Ahw (q:=q) λi h1 h2=>h i h1 (by lia)
  have h2:=h (j+q) (by lia) (by lia)
  rw[show j+(q+1)=j+q+1 by lia,h2,h1]
  have:d*((q+1:Nat):Int)=d*(q:Int)+d:=by rw[show((q+1:Nat):Int)=(q:Int)+1 by lia,Int.mul_add,Int.mul_one]
  lia
theorem Ahx{row:List Nat}{j k:Nat}(hj:j<=k)(hk:k<row.length)(L:Leg row j k):Gg (gt row j:Int) (gt row k:Int)=ofN ((row.drop (j+1)).take (k-j)):=by
 obtain⟨d,hd,hL⟩:=L
 have at':∀ q,q<=k-j->(gt row (j+q):Int)=(gt row j:Int)+d*(q:Int):=λq hq=>Ahw λi h1 h2=>hL i h1 (by lia)
 have e:=at' (k-j) (ApR _)
 rw[show j+(k-j)=k by lia] at e
 have ab:Ug ((gt row k:Int)-(gt row j:Int))=((k-j:Nat):Int):=by
  unfold Ug
  rcases hd with h | h <;> subst h
  ·split <;> lia
  ·split <;> lia
 have sg:∀ q:Nat,1<=q->q<=k-j->(if (gt row k:Int)-(gt row j:Int)<0 then (-1:Int) else 1)*(q:Int)=d*(q:Int):=λq h1 h2=>by
  rcases hd with h | h <;> subst h
  ·rw[if_neg (by lia)]
  ·rw[if_pos (by lia)]
 refine AqE λi=>?_
 by_cases hi:i<k-j
 ·have h1:=Y7 (a:=(gt row j:Int)) (b:=(gt row k:Int)) (q:=i+1) (by lia) (by rw[ab];lia)
  rw[show i+1-1=i by lia] at h1
  rw[h1,sg (i+1) (by lia) (by lia),<- at' (i+1) (by lia)]
  have hl:j+(i+1)<row.length:=by lia
  unfold ofN
  rw[ApX,Ary hi,AqP,show j+1+i=j+(i+1) by lia,ApP hl]
  show some _=some _
  congr 1
  unfold gt
  rw[Aqj,ApP hl]
  rfl
 ·have l1:=Nb (gt row j:Int) (gt row k:Int)
  rw[ab] at l1
  rw[Aqw (by lia),Aqw (by unfold ofN;rw[ApO,Aqf,Aqx];lia)]
theorem Ahy{row:List Nat}{j k:Nat}(hj:j<=k)(hk:k<row.length)(L:Leg row j k):ofN (row.take (j+1))++Gg (gt row j:Int) (gt row k:Int)=ofN (row.take (k+1)):=by
 rw[Ahx hj hk L,<- NT]
 congr 1
 have e:k+1=(j+1)+(k-j):=by lia
 rw[e,show row.take ((j+1)+(k-j))=row.take (j+1)++(row.drop (j+1)).take (k-j) from List.take_add]
theorem Leg.one(row:List Nat)(j:Nat):Leg row j j:=⟨1,.inl rfl,λi h1 h2=>by lia⟩
theorem Leg.step{row:List Nat}{j k:Nat}(hj:j<=k)(L:Leg row j k)(u:un row k)(same:j<k->(gt row (k+1):Int)-gt row k=(gt row k:Int)-gt row (k-1)):Leg row j (k+1):=by
 by_cases h:j=k
 ·subst h
  rcases u with u | u
  ·exact⟨1,.inl rfl,λi h1 h2=>by have:i=j:=(by lia);subst this;lia⟩
  ·exact⟨-1,.inr rfl,λi h1 h2=>by have:i=j:=(by lia);subst this;lia⟩
 ·obtain⟨d,hd,hL⟩:=L
  refine⟨d,hd,λi h1 h2=>?_⟩
  by_cases q:i<k
  ·exact hL i h1 q
  ·have:i=k:=by lia
   subst this
   have s:=same (by lia)
   have e:=hL (i-1) (by lia) (by lia)
   rw[show i-1+1=i by lia] at e
   lia
def cs (n:Nat):Nat:=(dec n).length+1
def cP (p:List Nat):Nat:=(p.map cs).sum
def cT (pss:List (List Nat)):Nat:=(pss.map cP).sum
theorem Ajf(p:List Nat)(n:Nat):cP (p++[n])=cP p+cs n:=by unfold cP;simp
theorem Aex(pss:List (List Nat))(p:List Nat):cT (pss++[p])=cT pss+cP p:=by unfold cT;simp
theorem YF:∀ r,(tails r).length=cP r
 | []=>rfl
 | n::r=>by
  rw[tails,ApU,ApQ,YF r]
  show _=(dec n).length+1+cP r
  lia
theorem Qv{p:List Nat}(h:p≠[]):(BJ p).length+1=cP p:=by
 cases p with
 | nil=>exact absurd rfl h
 | cons n r =>
  rw[BJ,ApQ,YF]
  show _=(dec n).length+1+cP r
  lia
theorem Ac7:∀ r,(∀ p∈r,p≠[])->(more r).length=cT r
 | [],_=>rfl
 | p::r,h=>by
  have h1:=Qv (h p ApS)
  rw[more,ApU,ApQ,Ac7 r λq hq=>h q (ApW _ hq)]
  show _=cP p+cT r
  lia
theorem Al0{pss:List (List Nat)}(h:pss≠[])(hp:∀ p∈pss,p≠[]):(rT pss).length+1=cT pss:=by
 cases pss with
 | nil=>exact absurd rfl h
 | cons p r =>
  have h1:=Qv (hp p ApS)
  show(Ac5 p r).length+1=cP p+cT r
  unfold Ac5
  rw[ApQ,Ac7 r λq hq=>hp q (ApW _ hq)]
  lia
def must(row:List Nat)(P:Nat->Bool)(i:Nat):Prop:=i=0\/i+1=row.length\/P i=true\/P (i+1)=true\/(gt row (i+1):Int)-gt row i≠(gt row i:Int)-gt row (i-1)
def gs (row:List Nat)(i:Nat):Prop:=i=0\/¬un row (i-1)\/i+1=row.length\/¬un row i\/gt row (i-1)=gt row (i+1)
instance (row:List Nat) (i:Nat):Decidable (gs row i):=inferInstanceAs (Decidable (_\/_))
def Ahz (row:List Nat)(k:Nat):Nat:=((List.range k).map λi=>if gs row i then cs (gt row i) else 0).sum
def nb (row:List Nat)(k:Nat):Nat:=((List.range k).map λi=>if 0<i/\¬un row (i-1) then 1 else 0).sum
theorem Ul(row:List Nat)(k:Nat):Ahz row (k+1)=Ahz row k+(if gs row k then cs (gt row k) else 0):=by
 unfold Ahz
 rw[Aq3,ApV,Ari]
 simp
theorem Abb(row:List Nat)(k:Nat):nb row (k+1)=nb row k+(if 0<k/\¬un row (k-1) then 1 else 0):=by
 unfold nb
 rw[Aq3,ApV,Ari]
 simp
structure Prt (row:List Nat) (P:Nat->Bool):Prop where
 z:P 0=false
 u:∀ i,i<row.length->P i=false->0<i->un row (i-1)
theorem Ajg{row:List Nat}{P:Nat->Bool}(hP:Prt row P){i:Nat}(hi:i<row.length)(h:gs row i):must row P i:=by
 by_cases i0:i=0
 ·exact .inl i0
 by_cases il:i+1=row.length
 ·exact .inr (.inl il)
 by_cases p0:P i=true
 ·exact .inr (.inr (.inl p0))
 by_cases p1:P (i+1)=true
 ·exact .inr (.inr (.inr (.inl p1)))
 refine .inr (.inr (.inr (.inr ?_)))
 have u0:=hP.u i hi (by simpa using p0) (by lia)
 have u1:=hP.u (i+1) (by lia) (by simpa using p1) (by lia)
 rw[show i+1-1=i by lia] at u1
 rcases h with h | h | h | h | h
 ·exact absurd h i0
 ·exact absurd u0 h
 ·exact absurd h il
 ·exact absurd u1 h
 ·unfold un at u0 u1
  rw[show i-1+1=i by lia] at u0
  lia
structure Wt (row:List Nat) (P:Nat->Bool) (k:Nat) (pss:List (List Nat)) (p:List Nat) (j:Nat):Prop where
 q:∃ q,p=q++[gt row j]
 jk:j<k
 num:nT (pss++[p])=ofN (row.take (j+1))
 leg:Leg row j (k-1)
 skip:∀ i,j<i->i<k->¬must row P i
 bd:∀ q∈pss++[p],q≠[]/\∀ n∈q,n<100
 cost:Ahz row k<=cT (pss++[p])
 cnt:nb row k+1<=(pss++[p]).length
 len:pss.length<=k/\∀ q∈pss++[p],q.length<=2*k
section
variable {row:List Nat}{P:Nat->Bool}{k:Nat}{pss:List (List Nat)}{p:List Nat}{j:Nat}
theorem Aey(hb:∀ n∈row,n<100)(hk:k<row.length):gt row k<100:=by
 unfold gt
 rw[Aqj,ApP hk]
 exact hb _ (Aqq hk)
theorem Aez(hk:k<row.length):row.take (k+1)=row.take k++[gt row k]:=by
 unfold gt
 rw[Aqd,ApP hk,Aqj,ApP hk]
 rfl
theorem Ah0(hb:∀ n∈row,n<100)(h0:0<row.length):Wt row P 1 [] [gt row 0] 0:=by
 refine⟨⟨[],rfl⟩,by lia,?_,Leg.one row 0,λi h1 h2=>by lia,λq hq=>?_,?_,?_,Aqb _,λq hq=>?_⟩
 ·rw[Aez h0]
  simp[nT,ofN,DN,go]
 ·rw[zF.mp hq]
  exact⟨by simp,λn hn=>by rw[zF.mp hn];exact Aey hb h0⟩
 ·rw[Ul]
  have:gs row 0:=.inl rfl
  rw[if_pos this]
  simp[Ahz,cT,cP]
 ·rw[Abb,if_neg (by lia)]
  simp[nb]
 ·rw[zF.mp hq]
  simp
theorem Wt.AmZ(W:Wt row P k pss p j)(hP:Prt row P)(hk:k<row.length)(hp:P k=false):Leg row j k:=by
 have jk:=W.jk
 have u:=hP.u k hk hp (by lia)
 have:=Leg.step (k:=k-1) (by lia) W.leg u λh=>?_
 ·rwa [show k-1+1=k by lia] at this
 ·have nm:=W.skip (k-1) h (by lia)
  refine Classical.byContradiction λz=>nm (.inr (.inr (.inr (.inr ?_))))
  exact z
theorem Wt.Ana(W:Wt row P k pss p j)(hP:Prt row P)(hk:k<row.length)(nm:¬must row P k):Wt row P (k+1) pss p j:=by
 have jk:=W.jk
 have hp:P k=false:=by
  cases e:P k with
  | false=>rfl
  | true=>exact absurd (.inr (.inr (.inl e))) nm
 refine⟨W.q,by lia,W.num,by rw[Nat.add_sub_cancel];exact W.AmZ hP hk hp,λi h1 h2=>?_,W.bd,?_,?_,by have:=W.len.1;lia,λq hq=>by have:=W.len.2 q hq;lia⟩
 ·by_cases q:i=k
  ·rw[q];exact nm
  ·exact W.skip i h1 (by lia)
 ·rw[Ul,if_neg λz=>nm (Ajg hP hk z)]
  exact W.cost
 ·rw[Abb,if_neg λz=>z.2 (hP.u k hk hp z.1)]
  exact W.cnt
theorem Anb(row:List Nat)(k:Nat):(if gs row k then cs (gt row k) else 0)<=cs (gt row k):=by split <;> lia
theorem Wt.ext(W:Wt row P k pss p j)(hP:Prt row P)(hb:∀ n∈row,n<100)(hk:k<row.length)(hp:P k=false):Wt row P (k+1) pss (p++[gt row k]) k:=by
 have jk:=W.jk
 obtain⟨q,eq⟩:=W.q
 refine⟨⟨p,rfl⟩,by lia,?_,by rw[Nat.add_sub_cancel];exact Leg.one row k,λi h1 h2=>by lia,λr hr=>?_,?_,?_,by have:=W.len.1;lia,λr hr=>?_⟩
 ·have n:=W.num
  rw[eq] at n ⊢
  rw[Alz,n]
  exact Ahy (by lia) hk (W.AmZ hP hk hp)
 ·rcases zG.mp hr with h | h
  ·exact W.bd r (AqM _ h)
  ·rw[zF.mp h]
   refine⟨by simp,λn hn=>?_⟩
   rcases zG.mp hn with h | h
   ·exact(W.bd p (Aqp _ ApS)).2 n h
   ·rw[zF.mp h];exact Aey hb hk
 ·have c1:=W.cost
  have c2:=Anb row k
  rw[Aex] at c1
  rw[Ul,Aex,Ajf]
  lia
 ·have c1:=W.cnt
  rw[Abb,if_neg λz=>z.2 (hP.u k hk hp z.1)]
  rw[ApQ] at c1 ⊢
  exact c1
 ·rcases zG.mp hr with h | h
  ·have:=W.len.2 r (AqM _ h);lia
  ·have:=W.len.2 p (Aqp _ ApS)
   rw[zF.mp h,ApQ]
   simp only [Aq0]
   lia
theorem Wt.done(W:Wt row P row.length pss p j):nT (pss++[p])=ofN row:=by
 have jk:=W.jk
 have ej:j+1=row.length:=Classical.byContradiction λz=>W.skip (row.length-1) (by lia) (by lia) (.inr (.inl (by lia)))
 rw[W.num,ej,Aqk]
end
def Qw (v:List Nat)(i:Nat):Prop:=i=0\/i+1=v.length\/gt v (i-1)=gt v (i+1)
instance (v:List Nat) (i:Nat):Decidable (Qw v i):=inferInstanceAs (Decidable (_\/_))
def JQ (v:List Nat)(k:Nat):List Nat:=((List.range k).filter λi=>decide (Qw v i)).map (gt v)
def stq (v:List Nat):List Nat:=JQ v v.length
def cv (v:List Nat):Nat:=((List.range v.length).map λi=>if Qw v i then cs (gt v i) else 0).sum
structure Run (v:List Nat):Prop where
 ne:v≠[]
 u:∀ i,i+1<v.length->un v i
 bd:∀ n∈v,n<100
theorem Qx(v:List Nat)(k:Nat):JQ v (k+1)=JQ v k++(if Qw v k then [gt v k] else []):=by
 unfold JQ
 rw[Aq3,AqR,ApV]
 congr 1
 by_cases h:Qw v k
 ·rw[if_pos h,AqS (p:=λi=>decide (Qw v i)) (zN h)];rfl
 ·rw[if_neg h,Arj (p:=λi=>decide (Qw v i)) (by rw[zJ h];simp)];rfl
theorem Ae0{v:List Nat}(R:Run v):Prt v λ_=>false:=⟨rfl,λi hi _ h0=>R.u (i-1) (by lia)⟩
theorem AfM{v:List Nat}(R:Run v){i:Nat}(hi:i<v.length):Qw v i↔must v (λ_=>false) i:=by
 constructor
 ·rintro(h | h | h)
  ·exact .inl h
  ·exact .inr (.inl h)
  ·by_cases i0:i=0
   ·exact .inl i0
   by_cases il:i+1=v.length
   ·exact .inr (.inl il)
   have u0:=R.u (i-1) (by lia)
   have u1:=R.u i (by lia)
   unfold un at u0 u1
   rw[show i-1+1=i by lia] at u0
   exact .inr (.inr (.inr (.inr (by lia))))
 ·rintro(h | h | h | h | h)
  ·exact .inl h
  ·exact .inr (.inl h)
  ·cases h
  ·cases h
  ·by_cases i0:i=0
   ·exact .inl i0
   by_cases il:i+1=v.length
   ·exact .inr (.inl il)
   have u0:=R.u (i-1) (by lia)
   have u1:=R.u i (by lia)
   unfold un at u0 u1
   rw[show i-1+1=i by lia] at u0
   exact .inr (.inr (by lia))
theorem Ah1{v:List Nat}(R:Run v):∀ k,k+1<=v.length->∃ j,Wt v (λ_=>false) (k+1) [] (JQ v (k+1)) j
 | 0,h=>by
  have:JQ v 1=[gt v 0]:=by
   rw[Qx]
   have:Qw v 0:=.inl rfl
   rw[if_pos this]
   rfl
  exact⟨0,by rw[this];exact Ah0 R.bd h⟩
 | k+1,h=>by
  obtain⟨j,W⟩:=Ah1 R k (by lia)
  rw[Qx]
  by_cases q:Qw v (k+1)
  ·rw[if_pos q]
   exact⟨k+1,W.ext (Ae0 R) R.bd (by lia) rfl⟩
  ·rw[if_neg q,Aqv]
   exact⟨j,W.Ana (Ae0 R) (by lia) λz=>q ((AfM R (by lia)).mpr z)⟩
theorem Sx{v:List Nat}(R:Run v):DN (ofN (stq v))=ofN v/\stq v≠[]/\(∀ n∈stq v,n<100)/\(stq v).length<=2*v.length:=by
 have l:0<v.length:=zZ.mpr R.ne
 obtain⟨j,W⟩:=Ah1 R (v.length-1) (by lia)
 rw[show v.length-1+1=v.length by lia] at W
 have:=W.done
 have b:=W.bd (stq v) (by show stq v∈[]++[JQ v v.length];exact ApS)
 have c:=W.len.2 (stq v) (by show stq v∈[]++[JQ v v.length];exact ApS)
 refine⟨?_,b.1,b.2,c⟩
 rw[show nT ([]++[JQ v v.length])=DN (ofN (stq v)) by simp[nT,stq]] at this
 exact this
theorem NZ{v r:List Nat}{i:Nat}(h:i<v.length):gt (v++r) i=gt v i:=by
 unfold gt
 rw[Aqj,Aqo h,<- Aqj]
theorem YG(v r:List Nat)(i:Nat):gt (v++r) (v.length+i)=gt r i:=by
 unfold gt
 rw[Aqj,Aqi (by lia),show v.length+i-v.length=i by lia,<- Aqj]
theorem Ae1{v r:List Nat}{i:Nat}(h:i+1<v.length):un (v++r) i↔un v i:=by
 unfold un
 rw[NZ h,NZ (by lia)]
def Rns:List (List Nat)->Prop
 | []=>True
 | [v]=>Run v
 | v::v'::r=>Run v/\¬(gt v' 0=gt v (v.length-1)+1\/gt v (v.length-1)=gt v' 0+1)/\Rns (v'::r)
theorem Ei:∀{vss:List (List Nat)},Rns vss->∀ v∈vss,Run v
 | [],_,v,h=>by cases h
 | [v'],h,v,hv=>by rw[zF.mp hv];exact h
 | v'::v2::r,h,v,hv=>by
  rcases yH.mp hv with z | z
  ·rw[z];exact h.1
  ·exact Ei h.2.2 v z
theorem YH:∀{vss:List (List Nat)} {v w:List Nat},Rns (vss++[v])->Run w->¬(gt w 0=gt v (v.length-1)+1\/gt v (v.length-1)=gt w 0+1)->Rns (vss++[v]++[w])
 | [],v,w,h,R,b=>⟨h,b,R⟩
 | [u],v,w,h,R,b=>⟨h.1,h.2.1,YH (vss:=[]) h.2.2 R b⟩
 | u::u'::r,v,w,h,R,b=>⟨h.1,h.2.1,YH (vss:=u'::r) h.2.2 R b⟩
theorem Ae2:∀{vss:List (List Nat)} {v w:List Nat},Rns (vss++[v])->Run w->gt w 0=gt v 0->Rns (vss++[w])
 | [],v,w,h,R,b=>R
 | [u],v,w,h,R,b=>⟨h.1,by rw[b];exact h.2.1,R⟩
 | u::u'::r,v,w,h,R,b=>⟨h.1,h.2.1,Ae2 (vss:=u'::r) h.2.2 R b⟩
theorem Ajh{v:List Nat}{n:Nat}(R:Run v)(hn:n<100)(u:n=gt v (v.length-1)+1\/gt v (v.length-1)=n+1):Run (v++[n]):=by
 have vl:0<v.length:=zZ.mpr R.ne
 refine⟨by simp,λi hi=>?_,λm hm=>?_⟩
 ·rw[ApQ] at hi
  simp only [Aq0] at hi
  by_cases q:i+1<v.length
  ·exact(Ae1 q).mpr (R.u i q)
  ·have e:i=v.length-1:=by lia
   unfold un
   rw[e,show v.length-1+1=v.length+0 by lia,YG,NZ (by lia)]
   exact u
 ·rcases zG.mp hm with h | h
  ·exact R.bd m h
  ·rw[zF.mp h];exact hn
theorem Al1{vss:List (List Nat)}(h:Rns vss):nT (vss.map stq)=ofN vss.flatten:=by
 have:∀ v∈vss,Run v:=Ei h
 clear h
 induction vss with
 | nil=>rfl
 | cons v r ih =>
  have h1:=(Sx (this v ApS)).1
  have h2:=ih λu hu=>this u (ApW _ hu)
  unfold nT at h2 ⊢
  rw[ApT,ApT,ApT,Aqg,h1,h2,Aqg,NT]
section
variable {P:Program}{w:World}{K:W.Frag}{mg:Str->Option Value}{base:Heap}{t:Adr}
theorem Anc{CX:CXT}{k:Nat}{f:Addr}{fd:FuncData}{ps:List Str}{s1 s2:Sp}(F:Bd P w K mg base CX k f fd ps s1)(G:Bd P w K mg base CX k f fd ps s2):Bd P w K mg base CX k f fd ps (λvs H Q E=>s1 vs H Q E\/s2 vs H Q E) :=
 ⟨λvs H Q E h=>h.elim (F.len vs H Q E) (G.len vs H Q E),λA outer s H args us vs Q E hr he hb hv h=>h.elim (F.run A outer s H args us vs Q E hr he hb hv) (G.run A outer s H args us vs Q E hr he hb hv)⟩
def Ah2:Sp:=λvs H Q _=>vs=[.str (tx [])]/\∀ l H',Ar H H'->H l=none->H' l=some (.lst [])->Q (.ref l) H'
theorem Abd(T:Txt K mg t):Bd P w K mg base CX0 8 t.Ko t.Kp ["text"] Ah2:=by
 refine T.Yp.F.ok Fi (λvs H Q E h=>?_) (λcdv A outer s H vs Q E hr h=>?_)
 ·obtain⟨rfl,_⟩:=h
  rfl
 ·obtain⟨rfl,k⟩:=h
  refine⟨_,(Ac (Be (Al Ca (pv 0) Am (Aw _))
    (Ad (An (CJ Ab)))
    Aq)
   (Ac (Az (i:=1) Fi.nd rfl (Or.inl rfl) (Gh T.Bj.m ((Fg T).mono (by decide)) hr rfl T.Y5 T.CT.b .nil By (Aa (pv 0) Ab)))
   (Ac (Az (i:=2) Fi.nd rfl (Or.inl rfl) (Bb T.Qs (Nf T (Ake T)) hr (Aa (pv 1) (Aa Ag Ab))))
   (Ac (Be (Dg (Cr (Hr (pv 1) T.Bj.c T.Cw.m ((Fb T).mono (by decide)) hr T.Cw.b .nil By)))
    (Ad Bc)
    Aq)
   (Ad (An (pv 2))))))),?_⟩
  refine⟨_,rfl,rfl,_,rfl,?_⟩
  refine Ex (congrArg V.str (by decide +kernel)) ?_
  exact⟨Aqb _,λq nq=>k q _ (.upd nq) nq Ae⟩
def Ah3 (t:Adr):Sp:=λvs H Q _=>∃ pss:List (List Nat),vs=[.str (tx (rT pss))]/\(∀ p∈pss,Okp p)/\pss.length<=900/\(rT pss).length<=1000000/\∀ li rs H',Ar H H'->H' li=some (.lst (rs.map V.ref))->Oh t H' rs (pss.map ofN)->Q (.ref li) H'
theorem Abe(T:Txt K mg t):Bd P w K mg base CX0 8 t.Ko t.Kp ["text"] (Ah3 t):=(Anc (Aba T) (Abd T)).imp λvs H Q E h=>by
 obtain⟨pss,rfl,hO,hl,ul,k⟩:=h
 cases pss with
 | nil=>exact .inr ⟨rfl,λl H1 s1 nl hl1=>k l [] H1 s1 hl1 ⟨rfl,λi a ss h=>by simp at h,Aqb _⟩⟩
 | cons p r=>exact .inl ⟨p,r,rfl,hO p ApS,λq hq=>hO q (ApW _ hq),by rw[ApU] at hl;lia,ul,λli rs H1 s1 nli hli hA=>k li rs H1 s1 hli hA⟩
theorem Aji(sss:List (List Int))(h:∀ z∈sss,1<=z.length):(sss.map psz).sum=((sss.map DN).flatten.length:Int):=by
 induction sss with
 | nil=>rfl
 | cons z r ih =>
  rw[ApT,Aqm,ih λy hy=>h y (ApW _ hy),<- Aht (h z ApS),ApT,Aqg,ApQ]
  lia
def Ajj (t:Adr):Sp:=λvs H Q _=>∃ pss:List (List Nat),vs=[.str (tx (rT pss))]/\(∀ p∈pss,Okp p)/\pss.length<=900/\(rT pss).length<=1000000/\(nT pss).length<=400/\∀ q H',Ar H H'->H q=none->H' q=some (.lst (vI (nT pss)))->Q (.ref q) H'
theorem Abf(T:Txt K mg t):Bd P w K mg base CX0 9 t.Qn t.Qo ["text"] (Ajj t):=by
 refine T.RQ.F.ok U7 (λvs H Q E h=>?_) (λcdv A outer s H vs Q E hr h=>?_)
 ·obtain⟨pss,rfl,_⟩:=h
  rfl
 ·obtain⟨pss,rfl,hO,hl,ul,Ane,k⟩:=h
  refine⟨_,(Ac (Az (i:=1) U7.nd rfl (Or.inl rfl) (Bb T.Yp (Abe T) hr (Aa (pv 0) Ab)))
   (Ac (Be (Al Jr (Bb T.Yo (Zk T) hr (Aa (pv 1) Ab)) (Ck (v:=.int 400) rfl T.Y4.choose_spec ⟨_,rfl⟩) (Aw _))
    (Ad Bc)
    Aq)
   (Ad (An (Bb T.VH (YC T) hr (Aa (pv 1) Ab)))))),?_⟩
  refine⟨_,rfl,pss,rfl,hO,hl,ul,λli rs H1 s1 hli hA=>?_⟩
  have sz:((pss.map ofN).map psz).sum=((nT pss).length:Int):=Aji _ λz hz=>by
   obtain⟨p,hp,rfl⟩:=yG.mp hz
   unfold ofN
   rw[ApO]
   exact(hO p hp).ne
  refine⟨_,rfl,li,rs,_,rfl,hli,hA,λH2 s2=>?_⟩
  rw[sz]
  refine⟨_,_,rfl,rfl,_,rfl,?_⟩
  refine Cg (by show ¬((nT pss).length:Int)>400;lia) ?_
  refine⟨_,rfl,li,rs,_,rfl,s2 _ _ hli,hA.same s2,by rw[sz];lia,λss hs s hm=>?_,λq H3 s3 nq hq=>?_⟩
  ·obtain⟨qs,hqs,rfl⟩:=yG.mp hs
   obtain⟨n,hn',rfl⟩:=yG.mp hm
   have:=(hO qs hqs).bd n hn'
   show n<=400
   lia
  ·exact k q H3 ((s1.trans s2).trans s3) ((s1.trans s2).free nq) hq
theorem Ae3{v:List Nat}{k:Nat}(h:k<v.length):atI (vI (ofN v)) (k:Int)=some (.int (gt v k:Int)):=BP (by lia) (by
 rw[Aqc]
 unfold ofN gt
 refine Eb ?_
 rw[ApX,ApP h,Aqj,ApP h]
 rfl)
theorem Qy(v:List Nat):(vI (ofN v)).length=v.length:=by rw[Bm];unfold ofN;rw[ApO]
def Ajk (K:W.Frag):Sp:=λvs H Q _=>∃(l:Addr) (v:List Nat) (k:Nat),vs=[.ref l,.int (k:Int)]/\SqL K H l (vI (ofN v))/\k<v.length/\Q (.bl (decide (Qw v k))) H
theorem AdB(T:Txt K mg t):Bd P w K mg base CX0 1 t.Aaa t.Aab ["path", "k"] (Ajk K):=by
 refine T.Aep.F.ok Ad2 (λvs H Q E h=>?_) (λcdv A outer s H vs Q E hr h=>?_)
 ·obtain⟨l,v,k,rfl,_⟩:=h
  rfl
 ·obtain⟨l,v,k,rfl,hS,hk,kk⟩:=h
  refine⟨_,(Ac (Be (PW.pt (pw_or (Al Ca (pv 1) Ag (Aw _)) (pw_or1 (Al Ca (pv 1) (Bx FN (Ao (Av (K:=K)) rfl T.BK Bq (Aa (pv 0) Ab)) Ag) (Aw _)))))
    (Ad (An Ew))
    Aq)
   (Ad (An (Dm Ca (Bg (Ax (K:=K)) (pv 0) (Bx FN (pv 1) Ag) (λ_ _=>rfl)) (Bg (Ax (K:=K)) (pv 0) (Bx Eu (pv 1) Ag) (λ_ _=>rfl)) (Aw _))))),?_⟩
  refine⟨_,rfl,rfl,_,rfl,?_⟩
  by_cases h0:k=0
  ·have:Qw v k:=.inl h0
   rw[zN this] at kk
   exact Ex (by rw[h0];rfl) (JZ kk)
  refine Cg (λz=>h0 (by have:=V.int.inj z;lia)) ?_
  refine⟨_,rfl,_,rfl,_,_,rfl,.inl hS,_,_,rfl,rfl,rfl,_,rfl,?_⟩
  rw[Qy]
  by_cases h1:k+1=v.length
  ·have:Qw v k:=.inr (.inl h1)
   rw[zN this] at kk
   exact Ex (congrArg V.int (by lia)) kk
  refine Cg (λz=>h1 (by have:=V.int.inj z;lia)) ?_
  have e1:atI (vI (ofN v)) ((k:Int)-1)=some (.int (gt v (k-1):Int)):=by rw[show(k:Int)-1=((k-1:Nat):Int) by lia];exact Ae3 (by lia)
  have e2:atI (vI (ofN v)) ((k:Int)+1)=some (.int (gt v (k+1):Int)):=by rw[show(k:Int)+1=((k+1:Nat):Int) by lia];exact Ae3 (by lia)
  refine⟨_,rfl,_,rfl,_,_,rfl,rfl,_,_,_,_,rfl,rfl,hS,e1,_,rfl,_,rfl,_,_,rfl,rfl,_,_,_,_,rfl,rfl,hS,e2,rfl,?_⟩
  have:decide ((V.int (gt v (k-1):Int):V)=V.int (gt v (k+1):Int))=decide (Qw v k):=z6.mpr ⟨λz=>.inr (.inr (by have:=V.int.inj z;lia)),λz=>by
   rcases z with z | z | z
   ·exact absurd z h0
   ·exact absurd z h1
   ·rw[z]⟩
  rw[this]
  exact kk
theorem Ajl(ns:List Nat)(h:∀ n∈ns,n<100):(((ns.map dec).map tx).map (·.length)).sum<=2*ns.length:=by
 induction ns with
 | nil=>exact ApR _
 | cons n r ih =>
  have h1:=(dec_is (h n ApS)).l2
  have h2:=ih λm hm=>h m (ApW _ hm)
  rw[ApT,ApT,ApT,Aqm,Ai,ApU]
  lia
def Anf (K:W.Frag):Sp:=λvs H Q _=>∃(l:Addr) (v:List Nat),vs=[.ref l]/\SqL K H l (vI (ofN v))/\Run v/\v.length<=400/\∀ H',Ar H H'->Q (.str (tx (BJ (stq v)))) H'
theorem Wf(T:Txt K mg t):Bd P w K mg base CX0 2 t.Mw t.Mx ["path"] (Anf K):=by
 refine T.RT.F.ok K7 (λvs H Q E h=>?_) (λcdv A outer s H vs Q E hr h=>?_)
 ·obtain⟨l,v,rfl,_⟩:=h
  rfl
 ·obtain⟨l,v,rfl,hS,R,ApJ,k⟩:=h
  have hsz:sizeLine=16777216:=yA
  obtain⟨sn,sne,sbd,sl⟩:=Sx R
  refine⟨_,(Ad (An (Bo (K:=K) zI zS zV (CG (K:=K)) Am (Aa (BR (cok [0] ["k", "path"] K7) rfl (Ci rfl T.Cv (Aa (Ao (Av (K:=K)) rfl T.BK Bq (Aa (pv 0) Ab)) Ab)) (λ_ _ _ _ _=>.one (Cr (Bb T.Aep (AdB T) hr (Aa (pv 1) (Aa (pv 0) Ab))))) (λ_ _ _ _ _=>(Cp Hd rfl T.Acy Xk (Aa (Bg (Ax (K:=K)) (pv 1) (pv 0) (λ_ _=>rfl)) Ab)))) Ab)))),?_⟩
  refine⟨rfl,_,rfl,_,_,rfl,.inl hS,_,rfl,(by lia),(by rw[Qy];lia),?_⟩
  rw[Aqc,Qy]
  refine Dz (lo:=0) (n:=v.length) (λi ys H2=>H2=H/\ys=vS ((JQ v i).map dec)) ⟨rfl,rfl⟩ ?_ ?_ ?_ ?_
  ·rintro i ys H2 hi ⟨rfl,rfl⟩
   rw[Ay,ApO]
   unfold JQ
   rw[ApO]
   have:=AqB (λi=>decide (Qw v i)) (List.range i)
   rwa [Aql] at this
  ·lia
  ·rintro i ys H2 hi ⟨rfl,rfl⟩
   refine⟨_,rfl,_,rfl,l,v,i,(by rw[AqC];rfl),hS,hi,?_⟩
   refine⟨_,rfl,?_⟩
   have st:=Qx v i
   refine GX (λq=>?_) (λq=>?_)
   ·rw[if_pos q] at st
    have e1:atI (vI (ofN v)) (0+(i:Int))=some (.int (gt v i:Int)):=by rw[AqC];exact Ae3 hi
    have Al2:=Aey R.bd hi
    refine⟨_,rfl,_,rfl,_,_,_,_,rfl,rfl,hS,e1,_,rfl,?_,?_⟩
    ·show(gt v i).log2<1920
     exact Ar0 (Nat.log2_le_self _) (by lia)
    ·show CN v.length _ i (vS ((JQ v i).map dec)++[.str (Str.ofString (toString ((gt v i:Nat):Int)))]) H2
     rw[Ahe,Dc]
     refine CN.of hi ⟨rfl,?_⟩
     rw[st,ApV]
     rfl
   ·rw[if_neg q,Aqv] at st
    exact CN.of hi ⟨rfl,by rw[st]⟩
  ·rintro ys H2 q ⟨rfl,rfl⟩ hq
   refine⟨_,_,((stq v).map dec).map tx,rfl,rfl,SqL.of (by rw[Ae,DG];rfl),?_,?_⟩
   ·have:=Ajl (stq v) sbd
    have d1:Str.length "-" = 1:=by decide +kernel
    rw[ApO,ApO,d1]
    lia
   ·rw[show(("-" : Str))=tx [45] from by decide +kernel]
    obtain⟨a,r,e⟩:∃ a r,stq v=a::r:=by
     cases e:stq v with
     | nil=>exact absurd e sne
     | cons a r=>exact⟨a,r,rfl⟩
    have k':=k _ (.upd (o:=.lst (vS ((JQ v v.length).map dec))) hq)
    rw[e] at k' ⊢
    rw[AfK]
    exact k'
structure NL (H:Hp) (y:Addr) (rs:List Addr) (tss:List (List Int)):Prop where
 h:H y=some (.lst (rs.map V.ref))
 l:rs.length=tss.length
 r:∀(i:Nat) (a:Addr) (ks:List Int),rs[i]?=some a->tss[i]?=some ks->H a=some (.lst (vI ks))
theorem NL.same{H H':Hp}{y:Addr}{rs:List Addr}{tss:List (List Int)}(N:NL H y rs tss)(s:Ar H H'):NL H' y rs tss:=⟨s _ _ N.h,N.l,λi a ks h1 h2=>s _ _ (N.r i a ks h1 h2)⟩
theorem NL.at{H:Hp}{y:Addr}{rs:List Addr}{tss:List (List Int)}(N:NL H y rs tss){i:Nat}{a:V}(h:(rs.map V.ref)[i]?=some a):∃ r ks,a=.ref r/\rs[i]?=some r/\tss[i]?=some ks/\H r=some (.lst (vI ks)):=by
 rw[ApX] at h
 cases e:rs[i]? with
 | none=>rw[e] at h;cases h
 | some r =>
  rw[e] at h
  cases h
  have hi:i<tss.length:=by rw[<- N.l];exact(zC.mp e).1
  exact⟨r,tss[i],rfl,rfl,ApP hi,N.r i r _ e (ApP hi)⟩
theorem Ae4{α:Type}(xs:List α)(x:α):atI (xs++[x]) (-1)=some x:=by
 unfold atI ixN
 rw[if_neg (by decide),if_pos (by rw[ApQ];simp;lia)]
 have:(-1+((xs++[x]).length:Int)).toNat=xs.length:=by rw[ApQ];simp;lia
 rw[this]
 show(xs++[x])[xs.length]?=some x
 rw[Aqi (ApR _),Aq5]
 rfl
theorem IW{α:Type}:∀(l:List α),l=[]\/∃ a b,l=a++[b]
 | []=>.inl rfl
 | x::l=>by
  rcases IW l with h | ⟨a,b,h⟩
  ·exact .inr ⟨[],x,by rw[h];rfl⟩
  ·exact .inr ⟨x::a,b,by rw[h];rfl⟩
theorem NL.Ajm{H:Hp}{y r:Addr}{rs:List Addr}{tss:List (List Int)}{z z':List Int}(N:NL H y (rs++[r]) (tss++[z]))(hy:y∉rs++[r])(nd:(rs++[r]).Nodup):NL (upd H r (.lst (vI z'))) y (rs++[r]) (tss++[z']):=by
 have l:=N.l
 rw[ApQ,ApQ] at l
 simp only [Aq0] at l
 refine⟨by rw[Ah λe=>hy (by rw[e];exact Aqp _ ApS)];exact N.h,by rw[ApQ,ApQ];simp only [Aq0];lia,λi a ks h1 h2=>?_⟩
 by_cases hi:i<rs.length
 ·rw[Aqo hi] at h1
  rw[Aqo (by lia)] at h2
  have ne:a≠r:=λe=>by
   have:=(List.nodup_append.mp nd).2.2 a (ApY h1) r ApS
   exact this e
  rw[Ah ne]
  exact N.r i a ks (by rw[Aqo hi];exact h1) (by rw[Aqo (by lia)];exact h2)
 ·have il:=(zC.mp h1).1
  rw[ApQ] at il
  simp only [Aq0] at il
  have e:i=rs.length:=by lia
  subst e
  rw[Aqi (ApR _),Aq5] at h1
  rw[Aqi (by lia),show rs.length-tss.length=0 by lia] at h2
  cases h1
  cases h2
  exact Ae
theorem NL.more{H:Hp}{y r:Addr}{rs:List Addr}{tss:List (List Int)}{z:List Int}(N:NL H y rs tss)(hr:H r=some (.lst (vI z)))(hy:y∉rs)(ry:r≠y):NL (upd H y (.lst ((rs++[r]).map V.ref))) y (rs++[r]) (tss++[z]):=by
 have l:=N.l
 refine⟨Ae,by rw[ApQ,ApQ,l];rfl,λi a ks h1 h2=>?_⟩
 by_cases hi:i<rs.length
 ·rw[Aqo hi] at h1
  rw[Aqo (by lia)] at h2
  rw[Ah λe=>hy (by rw[<- e];exact ApY h1)]
  exact N.r i a ks h1 h2
 ·have il:=(zC.mp h1).1
  rw[ApQ] at il
  simp only [Aq0] at il
  have e:i=rs.length:=by lia
  subst e
  rw[Aqi (ApR _),Aq5] at h1
  rw[Aqi (by lia),show rs.length-tss.length=0 by lia] at h2
  cases h1
  cases h2
  rw[Ah ry]
  exact hr
def AfN (K:W.Frag):Sp:=λvs H Q _=>∃(l:Addr) (row:List Nat),vs=[.ref l]/\SqL K H l (vI (ofN row))/\(∀ n∈row,n<100)/\row.length<=400/\∀(y:Addr) (rs:List Addr) (vss:List (List Nat)) (H':Hp),Ar H H'->NL H' y rs (vss.map ofN)->Rns vss->vss.flatten=row->Q (.ref y) H'
theorem Um{vss:List (List Nat)}(h:∀ v∈vss,v≠[]):vss.length<=vss.flatten.length:=by
 induction vss with
 | nil=>exact ApR _
 | cons v r ih =>
  have h1:=zZ.mpr (h v ApS)
  have h2:=ih λu hu=>h u (ApW _ hu)
  rw[Aqg,ApQ,ApU]
  lia
theorem AfO(T:Txt K mg t):Bd P w K mg base CX0 1 t.Acs t.Acu ["row"] (AfN K):=by
 refine T.parted.F.ok TJ (λvs H Q E h=>?_) (λcdv A outer s H vs Q E hr h=>?_)
 ·obtain⟨l,row,rfl,_⟩:=h
  rfl
 ·obtain⟨l,row,rfl,hS,hb,r400,k⟩:=h
  have hsz:sizeLine=16777216:=yA
  refine⟨_,(Ac (Az (i:=1) TJ.nd rfl (Or.inl rfl) (CJ Ab))
   (Ac (Cj PassesOwn.never rfl (Bf (K:=K) (pv 0)) (Br (i:=2) TJ.nd rfl (Or.inl rfl))
    (Ad (Be (PW.pt (pw_and (Jt (K:=K) (pv 1) (λ_=>rfl)) (pw_and1 (Al Ca (Ao WN rfl T.AgZ Adl (Aa (Bx FN (pv 2) (Bg (Ax (K:=K)) (Bg (Ax (K:=K)) (pv 1) (Uv Lz Ag) (λ_ _=>rfl)) (Uv Lz Ag) (λ_ _=>rfl))) Ab)) Ag (Aw _)))))
     (Ad (Bp (Bo (K:=K) zM zL zQ Cq (Bg (Ax (K:=K)) (pv 1) (Uv Lz Ag) (λ_ _=>rfl)) (Aa (pv 2) Ab))))
     (Ad (Bp (Bo (K:=K) zM zL zQ Cq (pv 1) (Aa (CJ (Aa (pv 2) Ab)) Ab)))))))
   (Ad (An (pv 1))))),?_⟩
  refine⟨Aqb _,λy ny=>?_⟩
  have s1:Ar H (upd H y (.lst [])):=.upd ny
  have hy1:(upd H y (.lst [])) y=some (.lst (([]:List Addr).map V.ref)):=Ae
  generalize upd H y (.lst [])=H1 at s1 hy1 ⊢
  refine⟨_,rfl,_,rfl,⟨_,s1.seq hS⟩,Dd (K:=K) (a:=l) (xs:=vI (ofN row)) (λi σ H2=>∃(vss:List (List Nat)) (rs:List Addr) (v2:Option V),σ=[some (.ref l),some (.ref y),v2]/\Ar H H2/\NL H2 y rs (vss.map ofN)/\(∀ r∈rs,H r=none)/\y∉rs/\rs.Nodup/\Rns vss/\vss.flatten=row.take i)
   ⟨[],[],none,rfl,s1,⟨hy1,rfl,λi a ks h=>by simp at h⟩,λr h=>(by cases h),(by simp),List.nodup_nil,trivial,rfl⟩ (λi σ H2 _ ⟨_,_,_,_,g,_⟩=>g.seq hS) ?_ ?_⟩
  ·rintro i x σ H2 hx ⟨vss,rs,v2,rfl,s2,N,fr,yr,nd,R,fl⟩
   have il:i<row.length:=by have:=(zC.mp hx).1;rwa [Qy] at this
   obtain rfl:x=.int (gt row i:Int):=by
    have e:=Ae3 (v:=row) il
    unfold atI at e
    have:ixN (vI (ofN row)).length (i:Int)=some i:=by
     have:=Ag1 (n:=(vI (ofN row)).length) (i:=(i:Int)) (by lia) (by rw[Qy];lia)
     rwa [Aqc] at this
    rw[this] at e
    have e:(vI (ofN row))[i]?=some (.int (gt row i:Int)):=e
    rw[hx] at e
    exact Option.some.inj e
   have Al2:=Aey hb il
   have tk:=Aez il
   have vl:vss.length<=400:=by
    have:=Um λv hv=>(Ei R v hv).ne
    rw[fl,Aqf] at this
    lia
   have rl:rs.length=vss.length:=by have:=N.l;rwa [ApO] at this
   have Ah4:Run [gt row i]:=⟨by simp,λi hi=>by simp at hi,λn hn=>by rw[zF.mp hn];exact Al2⟩
   refine⟨_,rfl,_,.inl ⟨_,SqL.of N.h,rfl⟩,?_⟩
   have Ang:∀ r,H2 r=none->Rns (vss++[[gt row i]])->(λ(i:Nat) (σ:St) (H2:Hp)=>∃(vss:List (List Nat)) (rs:List Addr) (v2:Option V),σ=[some (.ref l),some (.ref y),v2]/\Ar H H2/\NL H2 y rs (vss.map ofN)/\(∀ r∈rs,H r=none)/\y∉rs/\rs.Nodup/\Rns vss/\vss.flatten=row.take i) (i+1) [some (.ref l),some (.ref y),some (.int (gt row i:Int))] (upd (upd H2 r (.lst [.int (gt row i:Int)])) y (.lst (rs.map V.ref++[.ref r]))):=λr nr R'=>by
    have s3:Ar H2 (upd H2 r (.lst [.int (gt row i:Int)])):=.upd nr
    have ry:r≠y:=λe=>by have:=N.h;rw[<- e,nr] at this;cases this
    have rn:r∉rs:=λz=>by
     obtain⟨j,hj,e⟩:=Aq9 z
     have:=N.r j r _ (by rw[ApP hj,e]) (ApP (by rw[<- N.l];exact hj))
     rw[nr] at this
     cases this
    have N3:=(N.same s3).more (r:=r) (z:=ofN [gt row i]) (by rw[Ae];rfl) yr ry
    refine⟨vss++[[gt row i]],rs++[r],_,rfl,(s2.trans s3).over ny,?_,λr' hr'=>?_,λz=>?_,List.nodup_append.mpr ⟨nd,by simp,λa ha b hb e=>?_⟩,R',?_⟩
    ·have e1:rs.map V.ref++[V.ref r]=(rs++[r]).map V.ref:=by rw[ApV];rfl
     have e2:(vss++[[gt row i]]).map ofN=vss.map ofN++[ofN [gt row i]]:=by rw[ApV];rfl
     rw[e1,e2]
     exact N3
    ·rcases zG.mp hr' with h | h
     ·exact fr r' h
     ·rw[zF.mp h];exact s2.free nr
    ·rcases zG.mp z with h | h
     ·exact yr h
     ·exact ry (zF.mp h).symm
    ·rw[zF.mp hb] at e
     rw[e] at ha
     exact rn ha
    ·rw[AqG,fl,tk]
     simp
   rcases IW vss with e | ⟨ws,v,e⟩
   ·have er:rs=[]:=z9.mp (by rw[rl,e];rfl)
    have ee:(rs.map V.ref).isEmpty=true:=by rw[er];rfl
    rw[ee]
    refine DP ?_
    refine DP ?_
    refine⟨_,rfl,.inl ⟨rfl,_,SqL.of N.h⟩,_,rfl,(by show 1<=sizeLine;decide),λr nr=>?_⟩
    refine⟨_,_,_,rfl,rfl,(Ar.upd nr) _ _ N.h,(by rw[ApO];lia),?_⟩
    exact Ang r nr (by rw[e];exact Ah4)
   ·obtain⟨rs0,r,er⟩:∃ rs0 r,rs=rs0++[r]:=by
     rcases IW rs with z | ⟨a,b,z⟩
     ·rw[z,e,ApQ] at rl
      simp at rl
     ·exact⟨a,b,z⟩
    have Rv:=Ei R v (by rw[e];exact Aqp _ ApS)
    have v0:=zZ.mpr Rv.ne
    have ApK:v.length<=row.length:=by
     have h1:v.length<=vss.flatten.length:=by
      rw[e,AqG,ApQ]
      simp
     rw[fl,Aqf] at h1
     lia
    have ee:(rs.map V.ref).isEmpty=false:=by rw[er,ApV];simp
    rw[ee]
    refine JZ ?_
    have N':NL H2 y (rs0++[r]) (ws.map ofN++[ofN v]):=by
     have:(ws++[v]).map ofN=ws.map ofN++[ofN v]:=by rw[ApV];rfl
     rw[<- er,<- this,<- e]
     exact N
    have rl0:rs0.length=ws.length:=by
     have:=N'.l
     rw[ApQ,ApQ,ApO] at this
     simpa using this
    have hr2:H2 r=some (.lst (vI (ofN v))):=N'.r rs0.length r (ofN v) (by rw[Aqi (ApR _),Aq5];rfl) (by rw[Aqi (by rw[ApO];lia),ApO,rl0,Aq5];rfl)
    have aL:atI (rs.map V.ref) (-1)=some (.ref r):=by rw[er,ApV];exact Ae4 _ _
    have bL:atI (vI (ofN v)) (-1)=some (.int (gt v (v.length-1):Int)):=by
     rcases IW v with z | ⟨v1,m,z⟩
     ·exact absurd z Rv.ne
     ·have:vI (ofN v)=vI (ofN v1)++[.int (m:Int)]:=by rw[z,NT];unfold vI;rw[ApV];rfl
      rw[this,Ae4]
      have:gt v (v.length-1)=m:=by
       rw[z,show(v1++[m]).length-1=v1.length+0 by rw[ApQ];simp,YG]
       rfl
      rw[this]
    refine⟨_,rfl,_,rfl,_,rfl,_,_,_,_,rfl,rfl,SqL.of N.h,aL,_,rfl,_,_,_,_,rfl,rfl,SqL.of hr2,bL,_,_,rfl,rfl,_,rfl,rfl,_,rfl,?_⟩
    by_cases u:gt row i=gt v (v.length-1)+1\/gt v (v.length-1)=gt row i+1
    ·refine Ex (congrArg V.int (by show(if (gt row i:Int)-(gt v (v.length-1):Int)<0 then -((gt row i:Int)-(gt v (v.length-1):Int)) else (gt row i:Int)-(gt v (v.length-1):Int))=1;split <;> lia)) ?_
     refine⟨_,rfl,_,rfl,_,_,_,_,rfl,rfl,SqL.of N.h,aL,.inl ⟨rfl,_,SqL.of hr2⟩,_,rfl,_,_,_,rfl,rfl,hr2,(by rw[Qy];lia),?_⟩
     have ea:vI (ofN v)++[.int (gt row i:Int)]=vI (ofN (v++[gt row i])):=by rw[NT];unfold vI;rw[ApV];rfl
     rw[ea]
     have Rn:=Ajh Rv Al2 u
     refine⟨ws++[v++[gt row i]],rs,_,rfl,s2.over (fr r (by rw[er];exact Aqp _ ApS)),?_,fr,yr,nd,?_,?_⟩
     ·have e2:(ws++[v++[gt row i]]).map ofN=ws.map ofN++[ofN (v++[gt row i])]:=by rw[ApV];rfl
      rw[e2,er]
      exact N'.Ajm (by rw[<- er];exact yr) (by rw[<- er];exact nd)
     ·rw[e] at R
      exact Ae2 R Rn (NZ v0)
     ·rw[e] at fl
      rw[AqG] at fl ⊢
      rw[tk,<- fl]
      simp
    ·refine Cg (λz=>u (by
      have z:(if (gt row i:Int)-(gt v (v.length-1):Int)<0 then -((gt row i:Int)-(gt v (v.length-1):Int)) else (gt row i:Int)-(gt v (v.length-1):Int))=1:=V.int.inj z
      split at z <;> lia)) ?_
     refine⟨_,rfl,.inl ⟨rfl,_,SqL.of N.h⟩,_,rfl,(by show 1<=sizeLine;decide),λr' nr'=>?_⟩
     refine⟨_,_,_,rfl,rfl,(Ar.upd nr') _ _ N.h,(by rw[ApO];lia),?_⟩
     refine Ang r' nr' ?_
     rw[e] at R ⊢
     exact YH R Ah4 u
  ·rintro σ H2 ⟨vss,rs,v2,rfl,s2,N,fr,yr,nd,R,fl⟩
   rw[Qy,Aqk] at fl
   exact⟨_,rfl,k y rs vss H2 s2 N R fl⟩
theorem Aau:∀(r:List (List Nat)),((r.map BJ).map λy=>[32]++y).flatten=more r
 | []=>rfl
 | p::r=>by
  rw[ApT,ApT,Aqg,Aau r,more]
  rfl
theorem join_rows(pss:List (List Nat)):Txt.join (tx [32]) ((pss.map BJ).map tx)=tx (rT pss):=by
 cases pss with
 | nil=>simp[Txt.join,Builtin.Str.glued,tx,Str.empty,rT]
 | cons p r =>
  rw[ApT,JP,Aau]
  rfl
theorem Akf{p:List Nat}(h:∀ n∈p,n<100):cP p<=3*p.length:=by
 induction p with
 | nil=>exact ApR _
 | cons n r ih =>
  have h1:=(dec_is (h n ApS)).l2
  have h2:=ih λm hm=>h m (ApW _ hm)
  show(dec n).length+1+cP r<=3*(r.length+1)
  lia
theorem AfP{vss:List (List Nat)}(h:∀ v∈vss,Run v):((((vss.map stq).map BJ).map tx).map (·.length)).sum<=6*vss.flatten.length:=by
 induction vss with
 | nil=>exact ApR _
 | cons v r ih =>
  have R:=h v ApS
  obtain⟨_,ne,bd,le⟩:=Sx R
  have h1:=Qv ne
  have h2:=Akf bd
  have h3:=ih λu hu=>h u (ApW _ hu)
  rw[ApT,ApT,ApT,ApT,Aqm,Ai,Aqg,ApQ]
  lia
def Ah5 (K:W.Frag):Sp:=λvs H Q _=>∃(l:Addr) (row:List Nat),vs=[.ref l]/\SqL K H l (vI (ofN row))/\(∀ n∈row,n<100)/\row.length<=400/\∀(vss:List (List Nat)) (H':Hp),Ar H H'->Rns vss->vss.flatten=row->Q (.str (tx (rT (vss.map stq)))) H'
theorem Ah6(T:Txt K mg t):Bd P w K mg base CX0 3 t.Wv t.Ww ["row"] (Ah5 K):=by
 refine T.shown.F.ok Acn (λvs H Q E h=>?_) (λcdv A outer s H vs Q E hr h=>?_)
 ·obtain⟨l,row,rfl,_⟩:=h
  rfl
 ·obtain⟨l,row,rfl,hS,hb,r400,k⟩:=h
  have hsz:sizeLine=16777216:=yA
  refine⟨_,(Ad (An (Bo (K:=K) zI zS zV (CG (K:=K)) Am (Aa (BR (cok [] ["path"] Acn) rfl (Bf (K:=K) (Bb T.parted (AfO T) hr (Aa (pv 0) Ab))) (λ_ _ _ _ _=>.nil) (λ_ _ _ _ _=>(Bb T.RT (Wf T) hr (Aa (pv 0) Ab)))) Ab)))),?_⟩
  refine⟨rfl,_,rfl,l,row,rfl,hS,hb,r400,λy rs vss H1 s1 N R fl=>?_⟩
  have all:=Ei R
  have vl:vss.length<=400:=by
   have:=Um λv hv=>(all v hv).ne
   rw[fl] at this
   lia
  have rl:rs.length=vss.length:=by have:=N.l;rwa [ApO] at this
  have vle:∀ v∈vss,v.length<=400:=λv hv=>by
   have:v.length<=vss.flatten.length:=by
    obtain⟨a,b,e⟩:=List.append_of_mem hv
    rw[e,AqG,Aqg,ApQ,ApQ]
    lia
   rw[fl] at this
   lia
  refine⟨_,rfl,⟨_,SqL.of N.h⟩,Bu (K:=K) (a:=y) (xs:=rs.map V.ref) (λi ys H2=>Ar H1 H2/\ys=vS (((vss.take i).map stq).map BJ)) ⟨.refl _,rfl⟩ ?_ ?_ ?_ ?_⟩
  ·rintro i ys H2 hi ⟨s2,rfl⟩
   refine⟨SqL.of (s2 _ _ N.h),?_⟩
   rw[Ay,ApO,ApO,Aqf]
   lia
  ·rw[ApO];lia
  ·rintro i x ys H2 hi hx ⟨s2,rfl⟩
   obtain⟨r,ks,rfl,h1,h2,h3⟩:=(N.same s2).at hx
   rw[ApX] at h2
   cases hv:vss[i]? with
   | none=>rw[hv] at h2;cases h2
   | some v =>
    rw[hv] at h2
    obtain rfl:ofN v=ks:=Option.some.inj h2
    have vm:=ApY hv
    refine BZ.no ?_
    refine⟨_,rfl,r,v,rfl,SqL.of h3,all v vm,vle v vm,λH3 s3=>?_⟩
    dsimp only
    rw[Dc]
    refine CN.of hi ⟨s2.trans s3,?_⟩
    rw[Aqd,hv,ApV,ApV]
    rfl
  ·rintro ys H2 q ⟨s2,rfl⟩ hq
   rw[ApO,rl,Aqk]
   refine⟨_,_,((vss.map stq).map BJ).map tx,rfl,rfl,SqL.of (by rw[Ae,DG]),?_,?_⟩
   ·have:=AfP all
    have d1:Str.length " " = 1:=by decide +kernel
    rw[fl] at this
    rw[ApO,ApO,ApO,d1]
    lia
   ·rw[show((" " : Str))=tx [32] from by decide +kernel,join_rows]
    exact k vss _ ((s1.trans s2).new hq) R fl
theorem Ac8:∀{vss wss:List (List Nat)},Rns vss->Rns wss->vss.flatten=wss.flatten->vss=wss
 | [],[],_,_,_=>rfl
 | [],w::r,_,R,e=>by
  have:=(Ei R w ApS).ne
  rw[Ar6,Aqg] at e
  exact absurd (List.append_eq_nil_iff.mp e.symm).1 this
 | v::r,[],R,_,e=>by
  have:=(Ei R v ApS).ne
  rw[Ar6,Aqg] at e
  exact absurd (List.append_eq_nil_iff.mp e).1 this
 | v::r,w::q,R,S,e=>by
  have Rv:=Ei R v ApS
  have Sw:=Ei S w ApS
  rw[Aqg,Aqg] at e
  have key:∀{v w:List Nat} {r q:List (List Nat)},Rns (v::r)->Rns (w::q)->v++r.flatten=w++q.flatten->¬v.length<w.length:=λ{v w r q} R S e lt=>by
   have Rv:=Ei R v ApS
   have Sw:=Ei S w ApS
   have vp:0<v.length:=zZ.mpr Rv.ne
   match r,R with
   | [],R =>
    have:=congrArg List.length e
    rw[Ar6,Aqv,ApQ] at this
    lia
   | v2::r2,R =>
    have V2:=Ei R v2 (by simp)
    have p2:0<v2.length:=zZ.mpr V2.ne
    have h:=Sw.u (v.length-1) (by lia)
    rw[<- Ae1 (r:=q.flatten) (by lia),<- e] at h
    unfold un at h
    have a1:gt (v++(v2::r2).flatten) (v.length-1)=gt v (v.length-1):=NZ (by lia)
    have a2:gt (v++(v2::r2).flatten) (v.length-1+1)=gt v2 0:=by rw[show v.length-1+1=v.length+0 by lia,YG,Aqg,NZ p2]
    rw[a1,a2] at h
    exact R.2.1 h
  have n1:=key R S e
  have n2:=key S R e.symm
  have hv:=List.append_inj e (by lia)
  have R':Rns r:=match r,R with
   | [],_=>trivial
   | _::_,R=>R.2.2
  have S':Rns q:=match q,S with
   | [],_=>trivial
   | _::_,S=>S.2.2
  rw[hv.1,Ac8 R' S' hv.2]
open Classical in
noncomputable def prt (row:List Nat):List (List Nat):=if h:∃ vss,Rns vss/\vss.flatten=row then h.choose else []
theorem Al3{row:List Nat}{vss:List (List Nat)}(R:Rns vss)(e:vss.flatten=row):prt row=vss:=by
 have h:∃ vss,Rns vss/\vss.flatten=row:=⟨vss,R,e⟩
 unfold prt
 rw[dif_pos h]
 exact Ac8 h.choose_spec.1 R (h.choose_spec.2.trans e.symm)
noncomputable def shT (row:List Nat):List Nat:=rT ((prt row).map stq)
structure Shn (row:List Nat):Prop where
 r:Rns (prt row)
 e:(prt row).flatten=row
def Al4 (K:W.Frag):Sp:=λvs H Q _=>∃(l:Addr) (row:List Nat),vs=[.ref l]/\SqL K H l (vI (ofN row))/\(∀ n∈row,n<100)/\row.length<=400/\∀ H',Ar H H'->Shn row->Q (.str (tx (shT row))) H'
theorem Al5(T:Txt K mg t):Bd P w K mg base CX0 3 t.Wv t.Ww ["row"] (Al4 K):=(Ah6 T).imp λvs H Q E ⟨l,row,e,hS,hb,hl,k⟩=>⟨l,row,e,hS,hb,hl,λvss H' s R fl=>by
 have p:=Al3 R fl
 have:=k H' s ⟨by rw[p];exact R,by rw[p];exact fl⟩
 unfold shT at this
 rwa [p] at this⟩
theorem Aav{n:Nat}(h:n<100):∀ c∈dec n,c≠47/\c≠44:=λc hc=>by have:=(dec_is h).dg c hc;lia
theorem VJ:∀{r:List Nat},(∀ n∈r,n<100)->∀ c∈tails r,c≠47/\c≠44
 | [],_,c,hc=>by cases hc
 | n::r,h,c,hc=>by
  rw[tails] at hc
  rcases yH.mp hc with z | z
  ·lia
  ·rcases zG.mp z with z | z
   ·exact Aav (h n ApS) c z
   ·exact VJ (λm hm=>h m (ApW _ hm)) c z
theorem YJ{p:List Nat}(h:∀ n∈p,n<100):∀ c∈BJ p,c≠47/\c≠44:=λc hc=>by
 cases p with
 | nil=>cases hc
 | cons n r =>
  rcases zG.mp hc with z | z
  ·exact Aav (h n ApS) c z
  ·exact VJ (λm hm=>h m (ApW _ hm)) c z
theorem Ah7:∀{pss:List (List Nat)},(∀ p∈pss,Okp p)->∀ c∈rT pss,c≠47/\c≠44
 | [],_,c,hc=>by cases hc
 | p::r,h,c,hc=>by
  have key:∀(r:List (List Nat)),(∀ p∈r,Okp p)->∀ c∈more r,c≠47/\c≠44:=λr=>by
   induction r with
   | nil=>intro _ c hc;cases hc
   | cons p r ih =>
    intro h c hc
    rcases yH.mp (show c∈32::(BJ p++more r) from hc) with z | z
    ·lia
    ·rcases zG.mp z with z | z
     ·exact YJ (h p ApS).bd c z
     ·exact ih (λq hq=>h q (ApW _ hq)) c z
  rcases zG.mp (show c∈BJ p++more r from hc) with z | z
  ·exact YJ (h p ApS).bd c z
  ·exact key r (λq hq=>h q (ApW _ hq)) c z
def Wr (u:List Nat)(ks:List Int):Prop:=∃ pss,u=rT pss/\(∀ p∈pss,Okp p)/\pss.length<=900/\(rT pss).length<=1000000/\(nT pss).length<=400/\nT pss=ks
theorem Wr.signs{u:List Nat}{ks:List Int}(h:Wr u ks):∀ c∈u,c≠47/\c≠44:=by
 obtain⟨pss,rfl,h1,_⟩:=h
 exact Ah7 h1
def Al6:Sp:=λvs H Q _=>∃(u:List Nat) (ks:List Int),vs=[.str (tx u)]/\Wr u ks/\∀ q H',Ar H H'->H q=none->H' q=some (.lst (vI ks))->Q (.ref q) H'
theorem AdC(T:Txt K mg t):Bd P w K mg base CX0 9 t.Qn t.Qo ["text"] Al6:=(Abf T).imp λvs H Q E ⟨u,ks,e,⟨pss,eu,h1,h2,h3,h4,en⟩,k⟩=>⟨pss,by rw[e,eu],h1,h2,h3,h4,λq H' s nq hq=>k q H' s nq (en▸hq)⟩
theorem Shn.okp{row:List Nat}(S:Shn row)(hl:row.length<=400):(∀ p∈(prt row).map stq,Okp p)/\(prt row).length<=400:=by
 have all:=Ei S.r
 have vl:(prt row).length<=400:=by
  have:=Um λv hv=>(all v hv).ne
  rw[S.e] at this
  lia
 refine⟨λp hp=>?_,vl⟩
 obtain⟨v,hv,rfl⟩:=yG.mp hp
 obtain⟨_,ne,bd,le⟩:=Sx (all v hv)
 have:v.length<=(prt row).flatten.length:=by
  obtain⟨a,b,e⟩:=List.append_of_mem hv
  rw[e,AqG,Aqg,ApQ,ApQ]
  lia
 rw[S.e] at this
 exact⟨zZ.mpr ne,by lia,bd⟩
theorem Ac9:∀{pss:List (List Nat)},(∀ p∈pss,Okp p)->(rT pss).length<=3*pss.flatten.length:=λ{pss} h=>by
 have key:∀{r:List (List Nat)},(∀ p∈r,Okp p)->cT r<=3*r.flatten.length:=λ{r} h=>by
  induction r with
  | nil=>exact ApR _
  | cons p r ih =>
   have h1:=Akf (h p ApS).bd
   have h2:=ih λq hq=>h q (ApW _ hq)
   unfold cT at h2 ⊢
   rw[ApT,Aqm,Aqg,ApQ]
   lia
 by_cases c:pss=[]
 ·rw[c];exact Aqb _
 ·have:=Al0 c λp hp=>zZ.mp (h p hp).ne
  have:=key h
  lia
theorem Ajn{vss:List (List Nat)}(h:∀ v∈vss,Run v):(vss.map stq).flatten.length<=2*vss.flatten.length:=by
 induction vss with
 | nil=>exact ApR _
 | cons v r ih =>
  have h1:=(Sx (h v ApS)).2.2.2
  have h2:=ih λu hu=>h u (ApW _ hu)
  rw[ApT,Aqg,Aqg,ApQ,ApQ]
  lia
theorem Shn.len{row:List Nat}(S:Shn row)(hl:row.length<=400):(shT row).length<=6*row.length:=by
 have h1:=Ac9 (S.okp hl).1
 have h2:=Ajn (Ei S.r)
 rw[S.e] at h2
 unfold shT
 lia
theorem Shn.num{row:List Nat}(S:Shn row):nT ((prt row).map stq)=ofN row:=by rw[Al1 S.r,S.e]
end
section
variable {P:Program}{w:World}{K:W.Frag}{mg:Str->Option Value}{base:Heap}{t:Adr}
theorem z0(i:Nat):(0+(i:Int)).toNat=i:=by lia
theorem Sy(K:W.Frag)(n:String):W.kitOne K (.type n) (.type n)=some true:=if_pos (beq_self_eq_true _)
theorem Ah8{c d:Nat}:(V.str ⟨#[c]⟩:V)=V.str ⟨#[d]⟩↔c=d :=
 ⟨λz=>by injection z with z;exact(List.cons.inj (Fd (a:=[c]) (b:=[d]) z)).1,λz=>by rw[z]⟩
theorem e35:(V.str ⟨#[35]⟩:V)=V.str "#" := congrArg V.str (by decide +kernel)
theorem e46:(V.str ⟨#[46]⟩:V)=V.str "." := congrArg V.str (by decide +kernel)
theorem Cz{n:Nat}(h:n<=40):n<=sizeLine:=Aqn h (by decide)
theorem occ{c:Nat}(h:Sg c):(!(!(Builtin.Str.occurrences "#." ⟨#[c]⟩ 0 (Str.length "#.") 1).isEmpty))=false:=by
 rcases h with h | h <;> subst h <;> decide +kernel
def Zn:Sp:=λvs H Q _=>∃(t:List Nat),vs=[.str (tx t),.int (t.length:Int),.str "#."]/\(∀ c∈t,Sg c)/\t.length<=40/\Q .non H
theorem Zo(T:Txt K mg t):Bd P w K mg base CX0 1 t.Rq t.Rr ["text", "ends", "signs"] Zn:=by
 refine T.Yn.F.ok Ot (λvs H Q E h=>?_) (λcdv A outer s H vs Q E hr h=>?_)
 ·obtain⟨t,rfl,_⟩:=h
  rfl
 ·obtain⟨t,rfl,hsg,hl,k⟩:=h
  refine⟨_,(Ac (Be (Al GR (Ao Bt rfl T.BK Bq (Aa (pv 0) Ab)) (pv 1) (Aw _))
    (Ad Bc)
    Aq)
   (Ad (Cj PassesOwn.never rfl (Xd (pv 0)) (Br (i:=3) Ot.nd rfl (Or.inl rfl))
    (Ad (Be (Al Aa6 (pv 3) (pv 2) rfl)
     (Ad Bc)
     Aq))))),?_⟩
  refine⟨_,rfl,_,rfl,(by rw[Ai];exact Cz hl),_,rfl,rfl,_,rfl,?_⟩
  refine Ht (by rw[Ai]) ?_
  refine⟨_,rfl,_,rfl,AdU (z:=tx t) (λi σ H2=>∃ v,σ=[some (.str (tx t)),some (.int (t.length:Int)),some (.str "#."),v]/\H2=H) ⟨none,rfl,rfl⟩ ?_ ?_⟩
  ·rintro i c σ H2 hc ⟨v,rfl,rfl⟩
   rw[Jf] at hc
   refine⟨_,rfl,_,rfl,_,_,rfl,rfl,_,rfl,?_⟩
   rw[occ (hsg c (ApY hc))]
   exact DP ⟨_,rfl,rfl⟩
  ·rintro σ H2 ⟨v,rfl,rfl⟩
   exact k
def S5 (K:W.Frag):Sp:=λvs H Q _=>∃(a:Addr) (cl:List (List Nat)) (m n:Nat),vs=[.ref a,.int 1,.str "#."]/\SqL K H a (vS cl)/\Cl cl m n/\∀ p,H p=none->Q (.ref p) (upd H p (.tup [.int (m:Int),.int (n:Int)]))
theorem S6(T:Txt K mg t):Bd P w K mg base CX0 2 t.JB t.JC ["texts", "least", "signs"] (S5 K):=by
 refine T.M9.F.ok Fl (λvs H Q E h=>?_) (λcdv A outer s H vs Q E hr h=>?_)
 ·obtain⟨a,cl,m,n,rfl,_⟩:=h
  rfl
 ·obtain⟨a,cl,m,n,rfl,hS,C,k⟩:=h
  have hlen:(vS cl).length=n:=by rw[Ay,C.hn]
  have h0:0<cl.length:=by rw[C.hn];exact C.n1
  have hm0:=C.hm cl[0] (Aqq h0)
  have c1:=C.n1
  have c2:=C.n40
  have c3:=C.m1
  have c4:=C.m40
  refine⟨_,(Ac (Be (PW.pt (pw_or (Al K3 (Ao (Av (K:=K)) rfl T.BK Bq (Aa (pv 0) Ab)) (pv 1) (Aw _)) (pw_or1 (Al Jr (Ao (Av (K:=K)) rfl T.BK Bq (Aa (pv 0) Ab)) (Ck (v:=.int 40) rfl T.Eo.choose_spec ⟨_,rfl⟩) (Aw _)))))
    (Ad Bc)
    Aq)
   (Ac (Az (i:=3) Fl.nd rfl (Or.inl rfl) (Ao Bt rfl T.BK Bq (Aa (Bg (Ax (K:=K)) (pv 0) Ag (λ_ _=>rfl)) Ab)))
   (Ac (Be (PW.pt (pw_or (Al K3 (pv 3) (pv 1) (Aw _)) (pw_or1 (Al Jr (pv 3) (Ck (v:=.int 40) rfl T.Eo.choose_spec ⟨_,rfl⟩) (Aw _)))))
    (Ad Bc)
    Aq)
   (Ac (Cj PassesOwn.never rfl (Bf (K:=K) (pv 0)) (Br (i:=4) Fl.nd rfl (Or.inl rfl))
    (Ad (Bp (Bb T.Yn (Zo T) hr (Aa (pv 4) (Aa (pv 3) (Aa (pv 2) Ab)))))))
   (Ad (An (Je (Aa (pv 3) (Aa (Ao (Av (K:=K)) rfl T.BK Bq (Aa (pv 0) Ab)) Ab))))))))),?_⟩
  refine⟨_,rfl,_,_,rfl,.inl hS,_,rfl,_,_,rfl,rfl,_,rfl,?_⟩
  refine Cg (by rw[hlen];lia) ?_
  refine⟨_,rfl,_,_,rfl,.inl hS,_,_,rfl,rfl,_,rfl,?_⟩
  refine Cg (by rw[hlen];lia) ?_
  refine⟨_,rfl,_,_,_,_,rfl,rfl,hS,BP (by decide) (AaG (ApP h0)),_,rfl,(by rw[Ai,hm0];exact Cz c4),?_⟩
  rw[Ai,hm0]
  refine⟨_,rfl,_,rfl,_,_,rfl,rfl,_,rfl,?_⟩
  refine Cg (by lia) ?_
  refine⟨_,rfl,_,_,rfl,rfl,_,rfl,?_⟩
  refine Cg (by lia) ?_
  refine⟨_,rfl,_,rfl,⟨_,hS⟩,Dd (K:=K) (a:=a) (xs:=vS cl) (λi σ H2=>∃ v,σ=[some (.ref a),some (.int 1),some (.str "#."),some (.int (m:Int)),v]/\H2=H) ⟨none,rfl,rfl⟩ (λi σ H2 _ ⟨_,_,e⟩=>e▸hS) ?_ ?_⟩
  ·rintro i x σ H2 hx ⟨v,rfl,rfl⟩
   obtain⟨t,ht,rfl⟩:=Dh hx
   have htm:=ApY ht
   refine⟨_,rfl,_,rfl,_,rfl,t,?_,C.sg t htm,?_,⟨_,rfl,rfl⟩⟩
   ·rw[C.hm t htm];rfl
   ·rw[C.hm t htm];exact c4
  ·rintro σ H2 ⟨v,rfl,rfl⟩
   refine⟨_,rfl,_,rfl,_,_,rfl,.inl hS,(by show 2<=sizeLine;decide),λp hp=>?_⟩
   rw[hlen]
   exact k p hp
def AcA (K:W.Frag):Sp:=λvs H Q _=>∃(a:Addr) (cl:List (List Nat)) (m n:Nat),vs=[.ref a]/\SqL K H a (vS cl)/\Cl cl m n/\∀ p,H p=none->Q (.ref p) (upd H p (.tup [.int (m:Int),.int (n:Int)]))
theorem Ng(T:Txt K mg t):Bd P w K mg base CX0 3 t.Yb t.Yc ["cloth"] (AcA K):=by
 refine T.measured.F.ok Ack (λvs H Q E h=>?_) (λcdv A outer s H vs Q E hr h=>?_)
 ·obtain⟨a,cl,m,n,rfl,_⟩:=h
  rfl
 ·obtain⟨a,cl,m,n,rfl,hS,C,k⟩:=h
  exact⟨_,(Ad (An (Bb T.M9 (S6 T) hr (Aa (pv 0) (Aa Ag (Aa Am Ab)))))),_,rfl,a,cl,m,n,rfl,hS,C,k⟩
def Abg (K:W.Frag):Sp:=λvs H Q _=>∃(a:Addr) (cl:List (List Nat)) (m n e:Nat),vs=[.ref a,.int (e:Int)]/\SqL K H a (vS cl)/\Cl cl m n/\e<m/\∀ H',Ar H H'->Q (.str (tx (col cl e))) H'
theorem S7(T:Txt K mg t):Bd P w K mg base CX0 1 t.Vl t.Vm ["cloth", "end"] (Abg K):=by
 refine T.TY.F.ok QG (λvs H Q E h=>?_) (λcdv A outer s H vs Q E hr h=>?_)
 ·obtain⟨a,cl,m,n,e,rfl,_⟩:=h
  rfl
 ·obtain⟨a,cl,m,n,e,rfl,hS,C,he,k⟩:=h
  have c2:=C.n40
  have c4:=C.m40
  refine⟨_,(Ad (An (Bo (K:=K) zI zS zV (CG (K:=K)) Am (Aa (BR (cok [1] ["text", "end"] QG) rfl (Bf (K:=K) (pv 0)) (λ_ _ _ _ _=>.nil) (λ_ _ _ _ _=>(Bg Hs (pv 0) (pv 1) (λ_ _=>rfl)))) Ab)))),?_⟩
  refine⟨rfl,_,rfl,_,rfl,⟨_,hS⟩,Bu (K:=K) (a:=a) (xs:=vS cl) (λi ys H2=>H2=H/\ys=vS ((cl.take i).map λt=>[t.getD e 0])) ⟨rfl,rfl⟩ ?_ ?_ ?_ ?_⟩
  ·rintro i ys H2 hi ⟨rfl,rfl⟩
   refine⟨hS,?_⟩
   rw[Ay,ApO,Aqf]
   lia
  ·rw[Ay,C.hn];exact Cz c2
  ·rintro i x ys H2 hi hx ⟨rfl,rfl⟩
   obtain⟨t,ht,rfl⟩:=Dh hx
   have htm:=ApY ht
   have htl:=C.hm t htm
   have hel:e<t.length:=by lia
   refine BZ.no ?_
   refine⟨_,rfl,_,rfl,_,_,t[e],rfl,rfl,(by rw[Ai,htl];exact Cz c4),(by rw[Ce];exact AdS (ApP hel)),?_⟩
   refine CN.of hi ⟨rfl,?_⟩
   rw[LQ,Dc,Aqd,ht,ApV]
   simp[List.getD,hel]
  ·rintro ys H2 p ⟨rfl,rfl⟩ hp
   rw[Ay,Aqk]
   refine⟨_,_,((cl.map λt=>[t.getD e 0]).map tx),rfl,rfl,SqL.of (by rw[Ae,DG]),?_,?_⟩
   ·have e1:=Ai8 (λt:List Nat=>t.getD e 0) cl
    rw[e1,ApO,ApO,C.hn]
    have:n*(Str.length "")=0:=by rw[show Str.length "" = 0 from by decide +kernel];lia
    lia
   ·rw[show(("" : Str))=tx [] from by decide +kernel,Nv]
    have e2:(cl.map λt=>[t.getD e 0]).flatten=col cl e:=Xg (λt:List Nat=>t.getD e 0) cl
    rw[e2]
    exact k _ (.upd hp)
def AfQ:Sp:=λvs H Q _=>∃ c:Nat,vs=[.int (c:Int)]/\1<=c/\c<=40/\Q .non H
theorem Ec(T:Txt K mg t):Bd P w K mg base CX0 1 t.Gs t.Gu ["count"] AfQ:=by
 refine T.Bw.F.ok Ls (λvs H Q E h=>?_) (λcdv A outer s H vs Q E hr h=>?_)
 ·obtain⟨c,rfl,_⟩:=h
  rfl
 ·obtain⟨c,rfl,h1,h2,k⟩:=h
  refine⟨_,(Ad (Be (PW.pt (pw_or (Al K3 (pv 0) Ag (Aw _)) (pw_or1 (Al Jr (pv 0) (Ck (v:=.int 40) rfl T.Eo.choose_spec ⟨_,rfl⟩) (Aw _)))))
    (Ad Bc)
    Aq)),?_⟩
  refine⟨_,rfl,_,_,rfl,rfl,_,rfl,?_⟩
  refine Cg (by lia) ?_
  refine⟨_,rfl,_,_,rfl,rfl,_,rfl,?_⟩
  exact Cg (by lia) k
def AfR:Sp:=λvs H Q _=>∃ v:Int,vs=[.int v]/\0<=v/\v<40/\Q .non H
theorem Nh(T:Txt K mg t):Bd P w K mg base CX0 1 t.Pb t.Pg ["shaft"] AfR:=by
 refine T.MF.F.ok XC (λvs H Q E h=>?_) (λcdv A outer s H vs Q E hr h=>?_)
 ·obtain⟨v,rfl,_⟩:=h
  rfl
 ·obtain⟨v,rfl,h1,h2,k⟩:=h
  refine⟨_,(Ad (Be (PW.pt (pw_or (Al K3 (pv 0) Ag (Aw _)) (pw_or1 (Al AjJ (pv 0) (Ck (v:=.int 40) rfl T.Zg.choose_spec ⟨_,rfl⟩) (Aw _)))))
    (Ad Bc)
    Aq)),?_⟩
  refine⟨_,rfl,_,_,rfl,rfl,_,rfl,?_⟩
  refine Cg (by lia) ?_
  refine⟨_,rfl,_,_,rfl,rfl,_,rfl,?_⟩
  exact Cg (by lia) k
def Ajo:Sp:=λvs H Q _=>∃(a:Addr) (ks:List Int),vs=[.ref a]/\H a=some (.lst (vI ks))/\Rs ks/\ks.length<=1000/\Q .non H
theorem Abh(T:Txt K mg t):Bd P w K mg base CX0 2 t.Vn t.Vo ["tie"] Ajo:=by
 refine T.Aae.F.ok QH (λvs H Q E h=>?_) (λcdv A outer s H vs Q E hr h=>?_)
 ·obtain⟨a,ks,rfl,_⟩:=h
  rfl
 ·obtain⟨a,ks,rfl,ha,R,hl,k⟩:=h
  refine⟨_,(Ad (Cj PassesOwn.never rfl (Ci rfl T.Cv (Aa (Ao (Av (K:=K)) rfl T.BK Bq (Aa (pv 0) Ab)) Ab)) (Br (i:=1) QH.nd rfl (Or.inl rfl))
    (Ac (Bp (Bb T.MF (Nh T) hr (Aa (Bg (Ax (K:=K)) (pv 0) (pv 1) (λ_ _=>rfl)) Ab)))
    (Ad (Be (PW.pt (pw_and (Al Jr (pv 1) Ag (Aw _)) (pw_and1 (Al Amt (Bg (Ax (K:=K)) (pv 0) (pv 1) (λ_ _=>rfl)) (Bg (Ax (K:=K)) (pv 0) (Bx FN (pv 1) Ag) (λ_ _=>rfl)) (Aw _)))))
     (Ad Bc)
     Aq))))),?_⟩
  refine⟨_,rfl,_,_,rfl,.inl (SqL.of ha),_,rfl,(by lia),(by rw[Bm];lia),?_⟩
  rw[Aqc,Bm]
  refine Di (lo:=0) (n:=ks.length) (λi σ H2=>∃ v,σ=[some (.ref a),v]/\H2=H) ⟨none,rfl,rfl⟩ ?_ ?_
  ·rintro i σ H2 hi ⟨v,rfl,rfl⟩
   have e1:atI (vI ks) (0+(i:Int))=some (.int ks[i]):=BP (by lia) (by rw[z0];exact Eb (ApP hi))
   have b:=R.2 _ (Aqq hi)
   refine⟨_,rfl,_,rfl,_,_,_,_,rfl,rfl,SqL.of ha,e1,_,rfl,b.1,b.2,?_⟩
   refine⟨_,rfl,_,_,rfl,rfl,_,rfl,?_⟩
   by_cases h0:i=0
   ·subst h0
    refine Cg (by lia) ?_
    exact DP ⟨_,rfl,rfl⟩
   ·have hi1:i-1<ks.length:=by lia
    have e2:atI (vI ks) (0+(i:Int)-1)=some (.int ks[i-1]):=BP (by lia) (by rw[show(0+(i:Int)-1).toNat=i-1 by lia];exact Eb (ApP hi1))
    have lt:=R.1 (i-1) ks[i-1] ks[i] (ApP hi1) (by rw[show i-1+1=i by lia];exact ApP hi)
    refine Ex (by lia) ?_
    refine⟨_,rfl,_,rfl,_,_,_,_,rfl,rfl,SqL.of ha,e1,_,rfl,_,rfl,_,_,rfl,rfl,_,_,_,_,rfl,rfl,SqL.of ha,e2,_,_,rfl,rfl,_,rfl,?_⟩
    refine Cg (by lia) ?_
    exact⟨_,rfl,rfl⟩
  ·rintro σ H2 ⟨v,rfl,rfl⟩
   exact k
theorem Ajp{ks:List Int}(R:Rs ks):ks.length<=40:=by
 have step:∀(i:Nat) (a:Int),ks[i]?=some a->(i:Int)<=a:=by
  intro i
  induction i with
  | zero=>exact λa h=>(R.2 a (ApY h)).1
  | succ i ih =>
   intro a h
   have hi:i<ks.length:=by have:=(zC.mp h).1;lia
   have:=ih ks[i] (ApP hi)
   have:=R.1 i ks[i] a (ApP hi) h
   lia
 by_cases h:ks.length=0
 ·lia
 ·have hi:ks.length-1<ks.length:=by lia
  have h1:=step (ks.length-1) _ (ApP hi)
  have h2:=R.2 _ (Aqq hi)
  lia
theorem Ah9{ks:List Int}(R:Rs ks):ks.length<=1000:=Aqn (Ajp R) (by decide)
def AcB:Sp:=λvs H Q _=>∃(x y:Addr) (rs:List Addr) (th:List Int) (tss:List (List Int)) (tr:List Int),vs=[.ref x,.ref y]/\H x=some (.lst (vI th))/\NL H y rs tss/\Ft th tss tr/\Q .non H
theorem Uo(T:Txt K mg t):Bd P w K mg base CX0 3 t.KY t.KZ ["threading", "ties"] AcB:=by
 refine T.Py.F.ok FW (λvs H Q E h=>?_) (λcdv A outer s H vs Q E hr h=>?_)
 ·obtain⟨x,y,rs,th,tss,tr,rfl,_⟩:=h
  rfl
 ·obtain⟨x,y,rs,th,tss,tr,rfl,hx,N,F,k⟩:=h
  refine⟨_,(Ac (Bp (Ed ((Ec T).mono (by decide)) hr rfl T.Bw.m T.Bw.F.kp T.Bw.b .nil By (Aa (Ao (Av (K:=K)) rfl T.BK Bq (Aa (pv 0) Ab)) Ab)))
   (Ac (Bp (Ed ((Ec T).mono (by decide)) hr rfl T.Bw.m T.Bw.F.kp T.Bw.b .nil By (Aa (Ao (Av (K:=K)) rfl T.BK Bq (Aa (pv 1) Ab)) Ab)))
   (Ac (Cj PassesOwn.never rfl (Bf (K:=K) (pv 0)) (Br (i:=2) FW.nd rfl (Or.inl rfl))
    (Ad (Bp (Bb T.MF (Nh T) hr (Aa (pv 2) Ab)))))
   (Ad (Cj PassesOwn.never rfl (Bf (K:=K) (pv 1)) (Br (i:=3) FW.nd rfl (Or.inl rfl))
    (Ad (Bp (Bb T.Aae (Abh T) hr (Aa (pv 3) Ab))))))))),?_⟩
  refine⟨_,rfl,_,_,rfl,.inl (SqL.of hx),th.length,(by rw[Bm] <;> rfl),F.m1,F.m40,?_⟩
  refine⟨_,rfl,_,_,rfl,.inl (SqL.of N.h),tss.length,(by rw[ApO,N.l] <;> rfl),F.t1,F.t40,?_⟩
  refine⟨_,rfl,_,rfl,⟨_,SqL.of hx⟩,Dd (K:=K) (a:=x) (xs:=vI th) (λi σ H2=>∃ v1 v2,σ=[some (.ref x),some (.ref y),v1,v2]/\H2=H) ⟨none,none,rfl,rfl⟩ (λi σ H2 _ ⟨_,_,_,e⟩=>e▸SqL.of hx) ?_ ?_⟩
  ·rintro i xv σ H2 hxv ⟨v1,v2,rfl,rfl⟩
   obtain⟨z,hz,rfl⟩:=Kf hxv
   have b:=F.hth z (ApY hz)
   exact⟨_,rfl,z,rfl,b.1,b.2,_,_,rfl,rfl⟩
  ·rintro σ H2 ⟨v1,v2,rfl,rfl⟩
   refine⟨_,rfl,_,rfl,⟨_,SqL.of N.h⟩,Dd (K:=K) (a:=y) (xs:=rs.map V.ref) (λi σ H3=>∃ v1 v2,σ=[some (.ref x),some (.ref y),v1,v2]/\H3=H2) ⟨v1,v2,rfl,rfl⟩ (λi σ H3 _ ⟨_,_,_,e⟩=>e▸SqL.of N.h) ?_ ?_⟩
   ·rintro i xv σ H3 hxv ⟨v1,v2,rfl,rfl⟩
    obtain⟨r,ks,rfl,_,hks,hr'⟩:=N.at hxv
    have R:=F.hti ks (ApY hks)
    exact⟨_,rfl,r,ks,rfl,hr',R,Ah9 R,_,_,rfl,rfl⟩
   ·rintro σ H3 ⟨v1,v2,rfl,rfl⟩
    exact k
def Abi:Sp:=λvs H Q _=>∃(z:Addr) (th:List Int) (tss:List (List Int)) (tr:List Int),vs=[.ref z,.int (tss.length:Int)]/\H z=some (.lst (vI tr))/\Ft th tss tr/\Q .non H
theorem S8(T:Txt K mg t):Bd P w K mg base CX0 2 t.JD t.JF ["treading", "treadles"] Abi:=by
 refine T.MJ.F.ok Ip (λvs H Q E h=>?_) (λcdv A outer s H vs Q E hr h=>?_)
 ·obtain⟨z,th,tss,tr,rfl,_⟩:=h
  rfl
 ·obtain⟨z,th,tss,tr,rfl,hz,F,k⟩:=h
  refine⟨_,(Ac (Bp (Ed ((Ec T).mono (by decide)) hr rfl T.Bw.m T.Bw.F.kp T.Bw.b .nil By (Aa (Ao (Av (K:=K)) rfl T.BK Bq (Aa (pv 0) Ab)) Ab)))
   (Ad (Cj PassesOwn.never rfl (Bf (K:=K) (pv 0)) (Br (i:=2) Ip.nd rfl (Or.inl rfl))
    (Ad (Be (PW.pt (pw_or (Al K3 (pv 2) Ag (Aw _)) (pw_or1 (Al AjJ (pv 2) (pv 1) (Aw _)))))
     (Ad Bc)
     Aq))))),?_⟩
  refine⟨_,rfl,_,_,rfl,.inl (SqL.of hz),tr.length,(by rw[Bm] <;> rfl),F.n1,F.n40,?_⟩
  refine⟨_,rfl,_,rfl,⟨_,SqL.of hz⟩,Dd (K:=K) (a:=z) (xs:=vI tr) (λi σ H2=>∃ v1,σ=[some (.ref z),some (.int (tss.length:Int)),v1]/\H2=H) ⟨none,rfl,rfl⟩ (λi σ H2 _ ⟨_,_,e⟩=>e▸SqL.of hz) ?_ ?_⟩
  ·rintro i xv σ H2 hxv ⟨v1,rfl,rfl⟩
   obtain⟨v,hv,rfl⟩:=Kf hxv
   have b:=F.htr v (ApY hv)
   refine⟨_,rfl,_,_,rfl,rfl,_,rfl,?_⟩
   refine Cg (by lia) ?_
   refine⟨_,rfl,_,rfl,_,_,rfl,rfl,_,rfl,?_⟩
   refine Cg (by lia) ?_
   exact⟨_,rfl,rfl⟩
  ·rintro σ H2 ⟨v1,rfl,rfl⟩
   exact k
def df (a b c:Addr):List (Str × V):=[("threading", .ref a),("ties", .ref b),("treading", .ref c)]
theorem Akg(a b c:Addr):(df a b c).lookup ("threading" : Str)=some (V.ref a):=rfl
theorem Akh(a b c:Addr):(df a b c).lookup ("ties" : Str)=some (V.ref b):=rfl
theorem Aki(a b c:Addr):(df a b c).lookup ("treading" : Str)=some (V.ref c):=rfl
theorem NL.other{H H':Hp}{r C dx y:Addr}{fs:List (Str × V)}{rs:List Addr}{tss:List (List Int)}(N:NL H y rs tss)(b:CV r H H')(hr:H r=some (.ins C dx fs)):NL H' y rs tss :=
 ⟨b _ _ (λe=>by have:=N.h;rw[e,hr] at this;cases this) N.h,N.l,λi a ks h1 h2=>b _ _ (λe=>by have:=N.r i a ks h1 h2;rw[e,hr] at this;cases this) (N.r i a ks h1 h2)⟩
structure IsD (t:Adr) (H:Hp) (d dx a b c:Addr) (qs:List Addr) (th:List Int) (tss:List (List Int)) (tr:List Int):Prop where
 o:H d=some (.ins t.Eh dx (df a b c))
 ha:H a=some (.lst (vI th))
 hb:NL H b qs tss
 hc:H c=some (.lst (vI tr))
theorem IsD.same{H H':Hp}{d dx a b c:Addr}{qs:List Addr}{th:List Int}{tss:List (List Int)}{tr:List Int}(D:IsD t H d dx a b c qs th tss tr)(s:Ar H H'):IsD t H' d dx a b c qs th tss tr:=⟨s _ _ D.o,s _ _ D.ha,D.hb.same s,s _ _ D.hc⟩
def AhA (t:Adr):Sp:=λvs H Q _=>∃(r dx x y z:Addr) (rs:List Addr) (th:List Int) (tss:List (List Int)) (tr:List Int),vs=[.ref r,.ref x,.ref y,.ref z]/\H r=some (.ins t.Eh dx [])/\H x=some (.lst (vI th))/\NL H y rs tss/\H z=some (.lst (vI tr))/\Ft th tss tr /\
 ∀ a b c qs H',CV r H H'->H a=none->H b=none->H c=none->(∀ q∈qs,H q=none)->IsD t H' r dx a b c qs th tss tr->Q .non H'
theorem Ja(T:Txt K mg t):Bd P w K mg base CX0 4 t.Gd t.J5 ["self", "threading", "ties", "treading"] (AhA t):=by
 refine T.Gf.F.ok Iu (λvs H Q E h=>?_) (λcdv A outer s H vs Q E hr h=>?_)
 ·obtain⟨r,dx,x,y,z,rs,th,tss,tr,rfl,_⟩:=h
  rfl
 ·obtain⟨r,dx,x,y,z,rs,th,tss,tr,rfl,hr1,hx,N,hz,F,k⟩:=h
  have hsz:sizeLine=16777216:=yA
  refine⟨_,(Ac (Bp (Bb T.Py (Uo T) hr (Aa (pv 1) (Aa (pv 2) Ab))))
   (Ac (Bp (Bb T.MJ (S8 T) hr (Aa (pv 3) (Aa (Ao (Av (K:=K)) rfl T.BK Bq (Aa (pv 2) Ab)) Ab))))
   (Ac (Hg (K:=K) (pv 0) (Cp (DQ (K:=K)) rfl T.Ku Hf (Aa (pv 1) Ab)))
   (Ac (Hg (K:=K) (pv 0) (BR (cok [] ["tie"] Iu) rfl (Bf (K:=K) (pv 2)) (λ_ _ _ _ _=>.nil) (λ_ _ _ _ _=>(Cp (DQ (K:=K)) rfl T.Ku Hf (Aa (pv 0) Ab)))))
   (Ad (Hg (K:=K) (pv 0) (Cp (DQ (K:=K)) rfl T.Ku Hf (Aa (pv 3) Ab)))))))),?_⟩
  refine⟨_,rfl,_,rfl,x,y,rs,th,tss,tr,rfl,hx,N,F,?_⟩
  refine⟨_,rfl,_,rfl,_,_,rfl,.inl (SqL.of N.h),z,th,tss,tr,(by rw[ApO,N.l] <;> rfl),hz,F,?_⟩
  refine⟨_,rfl,_,_,rfl,.inl (SqL.of hx),λa na=>?_⟩
  have s1:Ar H (upd H a (.lst (vI th))):=.upd na
  have nra:a≠r:=λe=>by rw[e,hr1] at na;cases na
  refine⟨_,rfl,_,_,_,_,rfl,s1 _ _ hr1,T.Fz.c,T.Ff,(by decide),?_⟩
  generalize hH2:upd (upd H a (.lst (vI th))) r (.ins t.Eh dx (Jd "threading" (.ref a) []))=H2
  have b2:CV r H H2:=λb o nb e=>by rw[<- hH2,Ah nb];exact s1 _ _ e
  have hr2:H2 r=some (.ins t.Eh dx [("threading", .ref a)]):=by rw[<- hH2];exact Ae
  have ha2:H2 a=some (.lst (vI th)):=by rw[<- hH2,Ah nra];exact Ae
  have fre:∀ q,H2 q=none->H q=none:=λq hq=>by
   have nq:q≠r:=λe=>by rw[e,hr2] at hq;cases hq
   cases e:H q with
   | none=>rfl
   | some o=>rw[b2 q o nq e] at hq;cases hq
  clear hH2
  have N2:=N.other b2 hr1
  refine⟨_,rfl,_,rfl,⟨_,SqL.of N2.h⟩,Bu (K:=K) (a:=y) (xs:=rs.map V.ref) (λi ys H3=>Ar H2 H3/\∃ qs:List Addr,ys=qs.map V.ref/\qs.length=i/\(∀ q∈qs,H2 q=none)/\∀(j:Nat) (q:Addr) (ks:List Int),qs[j]?=some q->tss[j]?=some ks->H3 q=some (.lst (vI ks)))
   ⟨.refl _,[],rfl,rfl,λq hq=>(by cases hq),λj q ks h=>(by simp at h)⟩ ?_ ?_ ?_ ?_⟩
  ·rintro i ys H3 hi ⟨s3,qs,rfl,hq,_⟩
   exact⟨SqL.of (s3 _ _ N2.h),by rw[ApO];lia⟩
  ·rw[ApO,N.l];have:=F.t40;lia
  ·rintro i xv ys H3 hi hxv ⟨s3,qs,rfl,hq,nq,hqs⟩
   obtain⟨r',ks',rfl,_,hks,hr'⟩:=N2.at hxv
   refine BZ.no ?_
   refine⟨_,rfl,_,_,rfl,.inl (SqL.of (s3 _ _ hr')),λl nl=>?_⟩
   refine CN.of hi ⟨s3.new nl,qs++[l],by rw[ApV];rfl,by rw[ApQ,hq];rfl,λq h=>?_,λj q ks h1 h2=>?_⟩
   ·rcases zG.mp h with h | h
    ·exact nq q h
    ·rw[zF.mp h];exact s3.free nl
   ·by_cases hj:j<qs.length
    ·rw[Aqo hj] at h1
     exact(Ar.upd nl) _ _ (hqs j q ks h1 h2)
    ·rw[Aqi (by lia)] at h1
     have e0:j=i:=by
      have:=(zC.mp h1).1
      simp at this
      lia
     rw[show j-qs.length=0 by lia] at h1
     have e1:l=q:=by simpa using h1
     rw[e0,hks] at h2
     cases h2
     rw[<- e1]
     exact Ae
  ·rintro ys H3 b ⟨s3,qs,rfl,hq,nq,hqs⟩ nb
   rw[ApO,N.l] at hq
   have s4:Ar H2 (upd H3 b (.lst (qs.map V.ref))):=s3.new nb
   have nbr:b≠r:=λe=>by rw[e,s3 _ _ hr2] at nb;cases nb
   refine⟨_,rfl,_,_,_,_,rfl,s4 _ _ hr2,T.Fz.c,T.Jp,(by show 1<1000;decide),?_⟩
   generalize hH5:upd (upd H3 b (.lst (qs.map V.ref))) r (.ins t.Eh dx (Jd "ties" (.ref b) [("threading", .ref a)]))=H5
   have b5:CV r H2 H5:=λb' o nb e=>by rw[<- hH5,Ah nb];exact s4 _ _ e
   have hr5:H5 r=some (.ins t.Eh dx [("threading", .ref a),("ties", .ref b)]):=by rw[<- hH5];exact Ae
   have hb5:H5 b=some (.lst (qs.map V.ref)):=by rw[<- hH5,Ah nbr];exact Ae
   have hq5:∀(j:Nat) (q:Addr) (ks:List Int),qs[j]?=some q->tss[j]?=some ks->H5 q=some (.lst (vI ks)):=λj q ks h1 h2=>by
    have nqr:q≠r:=λe=>by have:=nq q (ApY h1);rw[e,hr2] at this;cases this
    rw[<- hH5,Ah nqr]
    exact(Ar.upd nb) _ _ (hqs j q ks h1 h2)
   clear hH5
   have nzr:z≠r:=λe=>by rw[e,hr1] at hz;cases hz
   have hz5:H5 z=some (.lst (vI tr)):=b5 _ _ nzr (b2 _ _ nzr hz)
   refine⟨_,rfl,_,_,rfl,.inl (SqL.of hz5),λc nc=>?_⟩
   have s6:Ar H5 (upd H5 c (.lst (vI tr))):=.upd nc
   have ncr:c≠r:=λe=>by rw[e,hr5] at nc;cases nc
   refine⟨_,rfl,_,_,_,_,rfl,s6 _ _ hr5,T.Fz.c,T.FJ,(by show 2<1000;decide),?_⟩
   have f5:∀ q,H5 q=none->H q=none:=λq h=>fre q (by
    have nqr:q≠r:=λe=>by rw[e,hr5] at h;cases h
    cases e:H2 q with
    | none=>rfl
    | some o=>rw[b5 q o nqr e] at h;cases h)
   refine k a b c qs _ (λb' o nb' e=>by rw[Ah nb'];exact s6 _ _ (b5 _ _ nb' (b2 _ _ nb' e))) na (fre b (s3.free nb)) (f5 c nc) (λq h=>fre q (nq q h)) ⟨Ae,?_,⟨?_,hq,λj q ks h1 h2=>?_⟩,?_⟩
   ·rw[Ah nra];exact s6 _ _ (b5 _ _ nra ha2)
   ·rw[Ah nbr];exact s6 _ _ hb5
   ·have nqr:q≠r:=λe=>by have:=nq q (ApY h1);rw[e,hr2] at this;cases this
    rw[Ah nqr];exact s6 _ _ (hq5 j q ks h1 h2)
   ·rw[Ah ncr];exact Ae
def nn (l:List Int):List Nat:=l.map Int.toNat
theorem AhB{l:List Int}(h:∀ z∈l,0<=z):ofN (nn l)=l:=by
 unfold ofN nn
 rw[AqW]
 refine(Ard λz hz=>?_).trans (List.map_id l)
 exact Int.toNat_of_nonneg (h z hz)
noncomputable def shI (ks:List Int):List Nat:=shT (nn ks)
structure Sw (ks:List Int):Prop where
 w:Shn (nn ks)
 l:(shI ks).length<=240
def Al7 (K:W.Frag):Sp:=λvs H Q _=>∃(l:Addr) (ks:List Int),vs=[.ref l]/\SqL K H l (vI ks)/\(∀ z∈ks,0<=z/\z<40)/\ks.length<=40/\∀ H',Ar H H'->Sw ks->Q (.str (tx (shI ks))) H'
theorem AdD(T:Txt K mg t):Bd P w K mg base CX0 3 t.Wv t.Ww ["row"] (Al7 K):=(Al5 T).imp λvs H Q E ⟨l,ks,e,hS,hb,hl,k⟩=>by
 have en:=AhB λz hz=>(hb z hz).1
 have ln:(nn ks).length=ks.length:=by unfold nn;rw[ApO]
 refine⟨l,nn ks,e,by rw[en];exact hS,λn hn=>?_,by lia,λH' s S=>k H' s ⟨S,?_⟩⟩
 ·unfold nn at hn
  obtain⟨z,hz,rfl⟩:=yG.mp hn
  have:=hb z hz
  lia
 ·have:=S.len (by lia)
  unfold shI
  lia
theorem S9(sp:List Nat):∀ us:List (List Nat),Txt.join (tx sp) (us.map tx)=tx (jnS sp us)
 | []=>by simp[Txt.join,Builtin.Str.glued,tx,Str.empty,jnS]
 | u::us=>by
  have key:∀(us:List (List Nat)) (u:List Nat),u++(us.map λy=>sp++y).flatten=jnS sp (u::us):=λus=>by
   induction us with
   | nil=>intro u;simp[jnS]
   | cons v r ih =>
    intro u
    rw[ApT,Aqg,Aqz,ih v]
    rfl
  rw[JP,key]
theorem SJ(sp:List Nat){B:Nat}:∀ us:List (List Nat),(∀ u∈us,u.length<=B)->(jnS sp us).length<=us.length*(B+sp.length)
 | [],_=>Aqb _
 | [u],h=>by
  have:=h u ApS
  show u.length<=1*(B+sp.length)
  lia
 | u::v::r,h=>by
  have h1:=h u ApS
  have h2:=SJ sp (v::r) λx hx=>h x (ApW _ hx)
  show(u++(sp++jnS sp (v::r))).length<=((v::r).length+1)*(B+sp.length)
  rw[ApQ,ApQ,Nat.add_mul]
  lia
theorem JR{B:Nat}:∀ us:List (List Nat),(∀ u∈us,u.length<=B)->((us.map tx).map (·.length)).sum<=us.length*B
 | [],_=>Aqb _
 | u::r,h=>by
  have h1:=h u ApS
  have h2:=JR r λx hx=>h x (ApW _ hx)
  rw[ApT,ApT,Aqm,Ai,ApU,Nat.add_mul]
  lia
def drT (a:List Nat)(bs:List (List Nat))(c:List Nat):List Nat:=jnS [32,47,32] [a,jnS [44,32] bs,c]
theorem JS:((" / " : Str))=tx [32,47,32]:=by decide +kernel
theorem Oa:((", " : Str))=tx [44,32]:=by decide +kernel
def Anh (t:Adr):Sp:=λvs H Q _=>∃(d dx a b c:Addr) (qs:List Addr) (th:List Int) (tss:List (List Int)) (tr:List Int),vs=[.ref d]/\IsD t H d dx a b c qs th tss tr/\Ft th tss tr/\∀ H',Ar H H'->Sw th->(∀ ks∈tss,Sw ks)->Sw tr->Q (.str (tx (drT (shI th) (tss.map shI) (shI tr)))) H'
theorem Up(T:Txt K mg t):Bd P w K mg base CX0 4 t.Ld t.Le ["draft"] (Anh t):=by
 refine T.P0.F.ok FZ (λvs H Q E h=>?_) (λcdv A outer s H vs Q E hr h=>?_)
 ·obtain⟨d,dx,a,b,c,qs,th,tss,tr,rfl,_⟩:=h
  rfl
 ·obtain⟨d,dx,a,b,c,qs,th,tss,tr,rfl,D,F,k⟩:=h
  have m40:=F.m40
  have n40:=F.n40
  have t40:=F.t40
  have ql:=D.hb.l
  have hsz:sizeLine=16777216:=yA
  refine⟨_,(Ac (Az (i:=1) FZ.nd rfl (Or.inl rfl) (Bo (K:=K) zI zS zV (CG (K:=K)) (Ck (v:=.str ", ") rfl T.MN.choose_spec ⟨_,rfl⟩) (Aa (BR (cok [] ["tie"] FZ) rfl (Bf (K:=K) (Cu (K:=K) (pv 0) rfl)) (λ_ _ _ _ _=>.nil) (λ_ _ _ _ _=>(Bb T.shown (AdD T) hr (Aa (pv 0) Ab)))) Ab)))
   (Ad (An (Bo (K:=K) zI zS zV (CG (K:=K)) (Ck (v:=.str " / ") rfl T.Lh.choose_spec ⟨_,rfl⟩) (Aa (CJ (Aa (Bb T.shown (AdD T) hr (Aa (Cu (K:=K) (pv 0) rfl) Ab)) (Aa (pv 1) (Aa (Bb T.shown (AdD T) hr (Aa (Cu (K:=K) (pv 0) rfl) Ab)) Ab)))) Ab))))),?_⟩
  refine⟨rfl,_,rfl,_,_,_,_,_,rfl,D.o,T.Fz.c,T.Jp,Akh a b c,_,rfl,⟨_,SqL.of D.hb.h⟩,Bu (K:=K) (a:=b) (xs:=qs.map V.ref) (λi ys H2=>Ar H H2/\ys=vS ((tss.take i).map shI)/\∀ ks∈tss.take i,Sw ks) ⟨.refl _,rfl,λks h=>(by simp at h)⟩ ?_ ?_ ?_ ?_⟩
  ·rintro i ys H2 hi ⟨s2,rfl,_⟩
   refine⟨SqL.of (s2 _ _ D.hb.h),?_⟩
   rw[Ay,ApO,Aqf]
   lia
  ·rw[ApO];lia
  ·rintro i x ys H2 hi hx ⟨s2,rfl,sw⟩
   obtain⟨r,ks,rfl,h1,h2,h3⟩:=(D.hb.same s2).at hx
   have R:=F.hti ks (ApY h2)
   refine BZ.no ?_
   refine⟨_,rfl,r,ks,rfl,SqL.of h3,R.2,Ajp R,λH3 s3 S=>?_⟩
   dsimp only
   rw[Dc]
   refine CN.of hi ⟨s2.trans s3,?_,λks' h=>?_⟩
   ·rw[Aqd,h2,ApV]
    rfl
   ·rw[Aqd,h2] at h
    rcases zG.mp h with h | h
    ·exact sw ks' h
    ·rw[zF.mp h];exact S
  rintro ys H2 q ⟨s2,rfl,sw⟩ hq
  rw[ApO,ql,Aqk] at sw ⊢
  have lb:∀ u∈tss.map shI,u.length<=240:=λu hu=>by
   obtain⟨ks,hk,rfl⟩:=yG.mp hu
   exact(sw ks hk).l
  have jb:=SJ [44,32] (tss.map shI) lb
  rw[ApO] at jb
  simp only [ApU,Aqr] at jb
  refine⟨_,_,(tss.map shI).map tx,rfl,rfl,SqL.of (by rw[Ae,DG]),?_,?_⟩
  ·have:=JR (tss.map shI) lb
   rw[ApO] at this
   rw[ApO,ApO,Oa,Ai]
   simp only [ApU,Aqr]
   lia
  rw[Oa,S9]
  have s3:Ar H (upd H2 q (.lst (vS (tss.map shI)))):=s2.new hq
  generalize upd H2 q (.lst (vS (tss.map shI)))=H3 at s3 ⊢
  have D3:=D.same s3
  refine⟨rfl,_,rfl,_,_,_,_,_,rfl,D3.o,T.Fz.c,T.Ff,Akg a b c,a,th,rfl,SqL.of D3.ha,F.hth,m40,λH4 s4 S1=>?_⟩
  have D4:=D3.same s4
  refine⟨_,rfl,_,rfl,_,_,_,_,_,rfl,D4.o,T.Fz.c,T.FJ,Aki a b c,c,tr,rfl,SqL.of D4.hc,λz hz=>?_,n40,λH5 s5 S2=>?_⟩
  ·have:=F.htr z hz
   lia
  refine⟨(by show 3<=sizeLine;decide),λl nl=>?_⟩
  refine⟨_,_,[shI th,jnS [44,32] (tss.map shI),shI tr].map tx,rfl,rfl,SqL.of Ae,?_,?_⟩
  ·have l1:=S1.l
   have l2:=S2.l
   rw[JS]
   simp only [ApT,AqD,Aqm,List.sum_nil,ApU,Aqr,Ai]
   lia
  rw[JS,S9]
  exact k _ (((s3.trans s4).trans s5).new nl) S1 sw S2
def Cps (H0 H:Hp)(qs:List Addr)(tss:List (List Int))(i:Nat):Prop:=qs.length=i/\(∀ q∈qs,H0 q=none)/\∀(j:Nat) (q:Addr) (ks:List Int),qs[j]?=some q->tss[j]?=some ks->H q=some (.lst (vI ks))
theorem Cps.nil(H0 H:Hp)(tss:List (List Int)):Cps H0 H [] tss 0:=⟨rfl,λq hq=>(by cases hq),λj q ks h=>(by simp at h)⟩
theorem Cps.Ao8{H0 H H':Hp}{qs:List Addr}{tss:List (List Int)}{i:Nat}(C:Cps H0 H qs tss i){l:Addr}{ks':List Int}(s:Ar H H')(hl:H' l=some (.lst (vI ks')))(n0:H0 l=none)(hk:tss[i]?=some ks'):Cps H0 H' (qs++[l]) tss (i+1):=by
 refine⟨by rw[ApQ,C.1];rfl,λq h=>?_,λj q ks h1 h2=>?_⟩
 ·rcases zG.mp h with h | h
  ·exact C.2.1 q h
  ·rw[zF.mp h];exact n0
 ·have ql:=C.1
  by_cases hj:j<qs.length
  ·rw[Aqo hj] at h1
   exact s _ _ (C.2.2 j q ks h1 h2)
  ·rw[Aqi (by lia)] at h1
   have e0:j=i:=by
    have:=(zC.mp h1).1
    simp at this
    lia
   rw[show j-qs.length=0 by lia] at h1
   have e1:l=q:=by simpa using h1
   rw[e0,hk] at h2
   cases h2
   rw[<- e1]
   exact hl
def Ani (t:Adr):Sp:=λvs H Q _=>∃(u0:List Nat) (us:List (List Nat)) (u2:List Nat) (th:List Int) (tss:List (List Int)) (tr:List Int),vs=[.str (tx (drT u0 us u2))]/\Wr u0 th/\us.length=tss.length/\(∀(i:Nat) (u:List Nat) (ks:List Int),us[i]?=some u->tss[i]?=some ks->Wr u ks)/\Wr u2 tr/\Ft th tss tr/\(drT u0 us u2).length<=1000000 /\
 ∀(d dx a b c:Addr) (qs:List Addr) (H':Hp),Ar H H'->IsD t H' d dx a b c qs th tss tr->Q (.ref d) H'
theorem Zq(T:Txt K mg t):Bd P w K mg base CX0 10 t.Ry t.Rz ["text"] (Ani t):=by
 refine T.Yq.F.ok Ey (λvs H Q E h=>?_) (λcdv A outer s H vs Q E hr h=>?_)
 ·obtain⟨u0,us,u2,th,tss,tr,rfl,_⟩:=h
  rfl
 ·obtain⟨u0,us,u2,th,tss,tr,rfl,W0,ul,Ws,W2,F,dl,k⟩:=h
  have t1:=F.t1
  have t40:=F.t40
  have hsz:sizeLine=16777216:=yA
  have une:us≠[]:=λz=>by rw[z] at ul;simp at ul;lia
  have Anj:∀ u∈us,∀ c∈u,c≠47/\c≠44:=λu hu=>by
   obtain⟨i,hi,e⟩:=Aq9 hu
   have hit:i<tss.length:=by lia
   exact(Ws i u tss[i] (by rw[<- e];exact ApP hi) (ApP hit)).signs
  have Al8:∀(us:List (List Nat)),(∀ u∈us,∀ c∈u,c≠47/\c≠44)->47∉jnS [44,32] us:=λus=>by
   induction us with
   | nil=>intro _ h;cases h
   | cons u r ih =>
    intro h z
    cases r with
    | nil=>exact(h u ApS 47 z).1 rfl
    | cons v r =>
     rcases zG.mp (show 47∈u++([44,32]++jnS [44,32] (v::r)) from z) with z | z
     ·exact(h u ApS 47 z).1 rfl
     ·rcases zG.mp z with z | z
      ·simp at z
      ·exact ih (λx hx=>h x (ApW _ hx)) z
  have jl:(jnS [44,32] us).length<=1000000:=by
   have:(drT u0 us u2).length=u0.length+(3+((jnS [44,32] us).length+(3+u2.length))):=by
    unfold drT
    simp[jnS]
    lia
   lia
  refine⟨_,(Ac (Az (i:=1) Ey.nd rfl (Or.inl rfl) (Bo (K:=K) zI zY z7 N8 (pv 0) (Aa (Ck (v:=.str " / ") rfl T.Lh.choose_spec ⟨_,rfl⟩) Ab)))
   (Ac (Be (Al GR (Ao (Av (K:=K)) rfl T.BK Bq (Aa (pv 1) Ab)) Ag (Aw _))
    (Ad Bc)
    Aq)
   (Ac (Az (i:=2) Ey.nd rfl (Or.inl rfl) (Bb T.RQ (AdC T) hr (Aa (Bg (Ax (K:=K)) (pv 1) Ag (λ_ _=>rfl)) Ab)))
   (Ac (Kd (i:=3) (cok [] ["tie"] Ey) rfl Ey.nd rfl rfl (Bf (K:=K) (Bo (K:=K) zI zY z7 N8 (Bg (Ax (K:=K)) (pv 1) Ag (λ_ _=>rfl)) (Aa (Ck (v:=.str ", ") rfl T.MN.choose_spec ⟨_,rfl⟩) Ab))) (λ_ _ _ _ _=>.nil) (λ_ _ _ _ _=>(Bb T.RQ (AdC T) hr (Aa (pv 0) Ab))) rfl)
   (Ad (An (Gh T.Fz.m ((Ja T).mono (by decide)) hr rfl T.Aer T.Gf.b .nil By (Aa (pv 2) (Aa (pv 3) (Aa (Bb T.RQ (AdC T) hr (Aa (Bg (Ax (K:=K)) (pv 1) Ag (λ_ _=>rfl)) Ab)) Ab)))))))))),?_⟩
  refine⟨_,rfl,rfl,[32,47,32],47,1,[u0,jnS [44,32] us,u2],rfl,congrArg (λz=>[V.str z]) JS,ZK,(by unfold drT at dl;lia),by simp,λw hw=>?_,λlp nlp=>?_⟩
  ·simp only [Aqs,Aqt,or_false] at hw
   rcases hw with z | z | z <;> rw[z]
   ·exact λh=>(W0.signs _ h).1 rfl
   ·exact Al8 us Anj
   ·exact λh=>(W2.signs _ h).1 rfl
  obtain⟨H1,e9,s1,hp⟩:=nu9 (o:=.lst (vS [u0,jnS [44,32] us,u2])) (.refl _) nlp
  rw[e9]
  refine⟨_,rfl,_,_,rfl,.inl (SqL.of hp),rfl,_,rfl,?_⟩
  refine Ht rfl ?_
  refine⟨_,rfl,_,_,_,_,rfl,rfl,SqL.of hp,rfl,u0,th,rfl,W0,λq0 H2 s2 nq0 hq0=>?_⟩
  have hp2:=s2 _ _ hp
  refine⟨_,rfl,_,_,_,_,rfl,rfl,SqL.of hp2,rfl,rfl,[44,32],44,0,us,rfl,congrArg (λz=>[V.str z]) Oa,Aca,by lia,une,λw hw h=>(Anj w hw _ h).2 rfl,λlt nlt=>?_⟩
  obtain⟨H3,e9,s3,ht⟩:=nu9 (o:=.lst (vS us)) (.refl _) nlt
  rw[e9]
  refine⟨_,rfl,⟨_,SqL.of ht⟩,Bu (K:=K) (a:=lt) (xs:=vS us) (λi ys H4=>Ar H3 H4/\∃ qs:List Addr,ys=qs.map V.ref/\Cps H3 H4 qs tss i) ⟨.refl _,[],rfl,Cps.nil _ _ _⟩ ?_ ?_ ?_ ?_⟩
  ·rintro i ys H4 hi ⟨s4,qs,rfl,C⟩
   exact⟨SqL.of (s4 _ _ ht),by rw[ApO,C.1];exact ApR _⟩
  ·rw[Ay];lia
  ·rintro i xv ys H4 hi hxv ⟨s4,qs,rfl,C⟩
   obtain⟨u,hu,rfl⟩:=Dh hxv
   have hit:i<tss.length:=by have:=(zC.mp hu).1;lia
   have hk:tss[i]?=some tss[i]:=ApP hit
   refine BZ.no ?_
   refine⟨_,rfl,u,tss[i],rfl,Ws i u _ hu hk,λq H5 s5 nq hq=>?_⟩
   exact CN.of hi ⟨s4.trans s5,qs++[q],by rw[ApV];rfl,C.Ao8 s5 hq (s4.free nq) hk⟩
  rintro ys H4 lz ⟨s4,qs0,rfl,C4⟩ nlz
  rw[Ay,ul] at C4
  obtain⟨H5,e9,s5,hlz⟩:=nu9 (o:=.lst (qs0.map V.ref)) (.refl _) nlz
  rw[e9]
  have Z5:NL H5 lz qs0 tss:=⟨hlz,C4.1,λj q ks h1 h2=>s5 _ _ (C4.2.2 j q ks h1 h2)⟩
  have u35:=(s3.trans s4).trans s5
  refine⟨_,rfl,_,rfl,_,rfl,_,_,_,_,rfl,rfl,SqL.of (u35 _ _ hp2),rfl,u2,tr,rfl,W2,λq2 H6 s6 nq2 hq2=>?_⟩
  refine λd dx nd ndx ndd=>?_
  have sd:Ar H6 (upd (upd H6 dx (.own d)) d (.ins t.Eh dx [])):=(Ar.upd ndx).over nd
  refine⟨d,dx,q0,lz,q2,qs0,th,tss,tr,rfl,Ae,sd _ _ (s6 _ _ (u35 _ _ hq0)),(Z5.same s6).same sd,sd _ _ hq2,F,λa b c qs H7 b7 _ _ _ _ D=>⟨rfl,?_⟩⟩
  have s7:Ar H6 H7:=λb o e=>b7 b o (λz=>by rw[z,nd] at e;cases e) (sd _ _ e)
  exact k d dx a b c qs H7 (((s1.trans s2).trans u35).trans (s6.trans s7)) D
theorem AhC(u:List Nat):∀ f:List (List Nat),inV (.str (tx u)) (vS f)=decide (u∈f)
 | []=>by simp[inV,vS]
 | k::f=>by
  have ih:=AhC u f
  unfold inV vS at ih ⊢
  rw[ApT,Arb,ih]
  by_cases h:k=u
  ·subst h
   have:eqV (V.str (tx k)) (V.str (tx k))=true:=Xf rfl
   rw[this]
   simp
  ·have:eqV (V.str (tx k)) (V.str (tx u))=false:=by
    show(tx k == tx u)=false
    rw[z5]
    exact λz=>h (Fd z)
   rw[this,Bool.false_or,z6]
   exact⟨ApW _,λz=>by
    rcases yH.mp z with e | e
    ·exact absurd e.symm h
    ·exact e⟩
def AfS (K:W.Frag):Sp:=λvs H Q _=>∃(a:Addr) (us:List (List Nat)),vs=[.ref a]/\SqL K H a (vS us)/\us.length<=40/\∀ l H',Ar H H'->H l=none->H' l=some (.lst (vS (unl us)))->Q (.ref l) H'
theorem Aaw(T:Txt K mg t):Bd P w K mg base CX0 1 t.Acq t.Acr ["things"] (AfS K):=by
 refine T.unlike.F.ok T9 (λvs H Q E h=>?_) (λcdv A outer s H vs Q E hr h=>?_)
 ·obtain⟨a,us,rfl,_⟩:=h
  rfl
 ·obtain⟨a,us,rfl,hS,hl,k⟩:=h
  refine⟨_,(Ac (Az (i:=1) T9.nd rfl (Or.inl rfl) (CJ Ab))
   (Ac (Cj PassesOwn.never rfl (Bf (K:=K) (pv 0)) (Br (i:=2) T9.nd rfl (Or.inl rfl))
    (Ad (Be (Al (Oo (K:=K)) (pv 2) (pv 1) rfl)
     (Ad (Bp (Bo (K:=K) zM zL zQ Cq (pv 1) (Aa (pv 2) Ab))))
     Aq)))
   (Ad (An (pv 1))))),?_⟩
  refine⟨Aqb _,λq nq=>?_⟩
  have s1:Ar H (upd H q (.lst [])):=.upd nq
  refine⟨_,rfl,_,rfl,⟨_,s1.seq hS⟩,?_⟩
  refine Dd (K:=K) (a:=a) (xs:=vS us) (λi σ H2=>∃(v:Option V),σ=[some (.ref a),some (.ref q),v]/\Ar H H2/\H2 q=some (.lst (vS (unl (us.take i)))))
   ⟨none,rfl,s1,Ae⟩ (λi σ H2 _ ⟨_,_,s2,_⟩=>s2.seq hS) ?_ ?_
  ·rintro i xv σ H2 hx ⟨v,rfl,s2,h2⟩
   have hil:i<us.length:=by
    have:=(zC.mp hx).1
    rwa [Ay] at this
   obtain⟨u,hu,rfl⟩:=Dh hx
   have et:us.take (i+1)=us.take i++[u]:=by rw[Aqd,hu];rfl
   have lf:(unl (us.take i)).length<=i:=Aqn (Adz _) (by rw[Aqf];lia)
   refine⟨_,rfl,_,rfl,_,_,rfl,.inl (SqL.of h2),rfl,AiA _,_,rfl,?_⟩
   show if (!inV (.str (tx u)) (vS (unl (us.take i))))=true then _ else _
   rw[AhC]
   by_cases hm:u∈unl (us.take i)
   ·refine Ht hm ?_
    exact⟨_,rfl,s2,by rw[et,Hv,if_pos hm];exact h2⟩
   ·refine AjM hm ?_
    refine⟨_,rfl,.inl ⟨rfl,_,SqL.of h2⟩,_,rfl,_,_,_,rfl,rfl,h2,(by rw[Ay];exact Cz (by lia)),?_⟩
    rw[Dc]
    exact⟨_,rfl,s2.over nq,by rw[et,Hv,if_neg hm];exact Ae⟩
  ·rintro σ H2 ⟨v,rfl,s2,h2⟩
   rw[Ay,Aqk] at h2
   exact⟨_,rfl,k q H2 s2 nq h2⟩
theorem AcC:∀(m:Nat) (l:List Nat),l.Nodup->(∀ x∈l,x<m)->l.length<=m
 | 0,l,_,h=>by
  cases l with
  | nil=>exact ApR _
  | cons a r=>exact absurd (h a ApS) (by lia)
 | m+1,l,n,h=>by
  have:=AcC m (l.erase m) (n.erase m) λx hx=>by
   have g:=n.mem_erase_iff.mp hx
   have:=h x g.2
   lia
  have e:=List.length_erase (a:=m) (l:=l)
  split at e <;> lia
theorem Ajq{ds:List Int}(n:ds.Nodup)(h:∀ z∈ds,0<=z/\z<40):ds.length<64:=by
 have:=AcC 40 (ds.map Int.toNat) (by
  rw[List.Nodup,List.pairwise_map]
  refine n.imp_of_mem λ{a b} ha hb ne e=>ne ?_
  have:=h a ha
  have:=h b hb
  lia) λx hx=>by
   obtain⟨z,hz,rfl⟩:=yG.mp hx
   have:=h z hz
   lia
 rw[ApO] at this
 lia
def AhD (th:List Int)(u:List Nat)(ks:List Int):Prop:=∀ z:Int,z∈ks↔∃ e:Nat,th[e]?=some z/\u[e]?=some 35
def Ajr:Sp:=λvs H Q _=>∃(x:Addr) (th:List Int) (u:List Nat),vs=[.ref x,.str (tx u)]/\H x=some (.lst (vI th))/\th.length=u.length/\u.length<=40/\(∀ z∈th,0<=z/\z<40)/\∀ l ks H',Ar H H'->H l=none->H' l=some (.lst (vI ks))->Rs ks->AhD th u ks->Q (.ref l) H'
theorem YK(T:Txt K mg t):Bd P w K mg base CX0 1 t.Ph t.Pj ["threading", "text"] Ajr:=by
 refine T.VG.F.ok XD (λvs H Q E h=>?_) (λcdv A outer s H vs Q E hr h=>?_)
 ·obtain⟨x,th,u,rfl,_⟩:=h
  rfl
 ·obtain⟨x,th,u,rfl,hx,hlu,h40,hth,k⟩:=h
  have hsz:sizeLine=16777216:=yA
  refine⟨_,(Ad (An (Ady (K:=K) rfl T.Aha rfl T.AmW (Afx (K:=K) (N7.mk (Bl:=[]) (Nc:=["shaft", "sign"]) rfl (by decide +kernel) (by decide +kernel) (AaD (sc0:=Af Jh) rfl (by decide +kernel)) rfl rfl rfl rfl rfl (by decide +kernel) (λ_ _ h=>by simp at h)) rfl (AdX (K:=K) rfl T.Akb (Aa (pv 0) (Aa (pv 1) Ab))) (λ_ _ _ _ _=>.one (Al Ca (pv 1) Am (Aw _))) (λ_ _ _ _ _=>(pv 0)))))),?_⟩
  refine⟨_,rfl,_,rfl,.l x,.s (tx u),rfl,trivial,⟨_,SqL.of hx⟩,trivial,?_⟩
  refine AgA (n:=u.length) (λi=>(vI th).getD i .non) (λi=>.str ⟨#[u.getD i 0]⟩) (λi ys H2=>Ar H H2/\∃ ns:List Int,ys=vI ns/\ns.length<=i/\∀ z:Int,z∈ns↔∃ e:Nat,e<i/\th[e]?=some z/\u[e]?=some 35) ⟨.refl _,[],rfl,ApR _,λz=>⟨λh=>(by cases h),λ⟨e,h,_⟩=>absurd h (Nat.not_lt_zero _)⟩⟩ ?_ ?_ ?_ ?_ ?_ ?_ ?_
  ·rintro i ys H2 hi ⟨s2,ns,rfl,hn,_⟩
   rw[Bm]
   exact hn
  ·lia
  ·rintro i ys H2 hi ⟨s2,_⟩
   exact AaJ (SqL.of (s2 _ _ hx)) (by rw[Bm];lia)
  ·rintro i ys H2 hi _
   exact Alb hi
  ·rintro ys H2 ⟨s2,_⟩
   exact⟨⟨_,SqL.of (s2 _ _ hx)⟩,trivial,.inl ⟨_,SqL.of (s2 _ _ hx),by rw[Bm];exact hlu⟩⟩
  ·rintro i ys H2 T2 hi ⟨s2,ns,rfl,hn,hm⟩ nT
   have hit:i<th.length:=by lia
   have ev:(vI th).getD i .non=.int th[i]:=by
    rw[Aqj,Eb (ApP hit)]
    rfl
   have eu:u.getD i 0=u[i]:=by
    rw[Aqj,ApP hi]
    rfl
   rw[ev,eu]
   have s3:Ar H (upd H2 T2 (.tup [.int th[i],.str ⟨#[u[i]]⟩])):=s2.new nT
   unfold BZ
   refine⟨_,rfl,rfl,_,rfl,?_⟩
   have hh:("#" : Str)=⟨#[35]⟩:=by decide +kernel
   rw[hh]
   refine GX (λh=>?_) (λh=>?_)
   ·have h35:u[i]=35:=Ah8.mp h
    refine⟨_,rfl,?_⟩
    refine CN.of hi ⟨s3,ns++[th[i]],Xl _ _,by rw[ApQ];show ns.length+1<=i+1;lia,λz=>?_⟩
    rw[Arf,Ar4,hm z]
    constructor
    ·rintro(⟨e,h1,h2⟩ | rfl)
     ·exact⟨e,by lia,h2⟩
     ·exact⟨i,by lia,ApP hit,by rw[ApP hi,h35]⟩
    ·rintro⟨e,h1,h2,h3⟩
     by_cases q:e=i
     ·subst q
      rw[ApP hit] at h2
      exact .inr (Option.some.inj h2).symm
     ·exact .inl ⟨e,by lia,h2,h3⟩
   ·refine CN.of hi ⟨s3,ns,rfl,by lia,λz=>?_⟩
    rw[hm z]
    constructor
    ·rintro⟨e,h1,h2⟩
     exact⟨e,by lia,h2⟩
    ·rintro⟨e,h1,h2,h3⟩
     by_cases q:e=i
     ·subst q
      rw[ApP hi] at h3
      exact absurd (Ah8.mpr (Option.some.inj h3)) h
     ·exact⟨e,by lia,h2,h3⟩
  ·rintro ys H2 p ⟨s2,ns,rfl,hn,hm⟩ np
   have Ank:∀ z∈ns,z∈th:=λz hz=>by
    obtain⟨e,_,h2,_⟩:=(hm z).mp hz
    exact ApY h2
   refine⟨_,_,rfl,SqL.of Ae,by lia,λds nd hs=>Ajq nd λz hz=>hth z (Ank z (hs z hz)),λl ks hk hp nl=>?_⟩
   have s3:Ar H (upd H2 p (.lst (vI ns))):=s2.new np
   refine k l ks _ (s3.new nl) (s3.free nl) Ae ⟨λi a b e1 e2=>?_,λa ha=>hth a (Ank a ((hk a).mp ha))⟩ λz=>?_
   ·obtain⟨i1,rfl⟩:=zC.mp e1
    obtain⟨i2,rfl⟩:=zC.mp e2
    exact List.pairwise_iff_getElem.mp hp i (i+1) i1 i2 (by lia)
   ·rw[hk z,hm z]
    exact⟨λ⟨e,_,h⟩=>⟨e,h⟩,λ⟨e,h1,h2⟩=>⟨e,(zC.mp h2).1,h1,h2⟩⟩
theorem Ae5{f:List (List Nat)}{u:List Nat}(h:u∈f):(f.map tx)[ix f u]?=some (tx u)/\(∀ i,i<ix f u->(f.map tx)[i]?≠some (tx u))/\ix f u<f.length:=by
 refine⟨by rw[ApX,AgN h];rfl,λi hi z=>?_,ZL h⟩
 rw[ApX] at z
 obtain⟨y,hy,e⟩:=zU.mp z
 rw[Fd e] at hy
 exact AjS hi hy
theorem Ae6(l:List Nat)(z:Nat):nts l++[(z:Int)]=nts (l++[z]):=by unfold nts;rw[ApV];rfl
def Abj {α:Type}[DecidableEq α](l:List α)(i:Nat):List Nat:=(l.take i).map λx=>ix (unl l) x
theorem AcD{α:Type}[DecidableEq α](l:List α):Abj l l.length=num l:=by unfold Abj num;rw[Aqk]
theorem AcE{α:Type}[DecidableEq α]{l:List α}{i:Nat}{x:α}(h:l[i]?=some x):Abj l (i+1)=Abj l i++[ix (unl l) x]:=by
 unfold Abj
 rw[Aqd,h,ApV]
 rfl
theorem AcF{α:Type}[DecidableEq α]{l:List α}{i:Nat}(h:i<=l.length):(Abj l i).length=i:=by
 unfold Abj
 rw[ApO,Aqf]
 lia
theorem Ae7{α:Type}[DecidableEq α]{l:List α}{z:Int}(h:z∈nts (num l)):0<=z/\z<((unl l).length:Int):=by
 obtain⟨y,hy,rfl⟩:=AaM.mp h
 have:=AgM hy
 lia
structure Lts (cl:List (List Nat)) (m:Nat) (tss:List (List Int)):Prop where
 l:tss.length=(unl cl).length
 r:∀(j:Nat) (u:List Nat) (ks:List Int),(unl cl)[j]?=some u->tss[j]?=some ks->Rs ks/\AhD (nts (num (cols cl m))) u ks
def AhE (K:W.Frag)(t:Adr):Sp:=λvs H Q _=>∃(a:Addr) (cl:List (List Nat)) (m n:Nat),vs=[.ref a]/\SqL K H a (vS cl)/\Cl cl m n /\
 ∀ d dx a' b' c' qs tss H',Ar H H'->H d=none->Lts cl m tss->Ft (nts (num (cols cl m))) tss (nts (num cl))->IsD t H' d dx a' b' c' qs (nts (num (cols cl m))) tss (nts (num cl))->Q (.ref d) H'
theorem YL(T:Txt K mg t):Bd P w K mg base CX0 6 t.OJ t.Pa ["cloth"] (AhE K t):=by
 refine T.VF.F.ok BW (λvs H Q E h=>?_) (λcdv A outer s H vs Q E hr h=>?_)
 ·obtain⟨a,cl,m,n,rfl,_⟩:=h
  rfl
 ·obtain⟨a,cl,m,n,rfl,hS,C,k⟩:=h
  refine⟨_,(Ac (Az (i:=1) BW.nd rfl (Or.inl rfl) (Bb T.measured (Ng T) hr (Aa (pv 0) Ab)))
   (Ac (Kd (i:=2) (cok [0] ["end", "cloth"] BW) rfl BW.nd rfl rfl (Ci rfl T.Cv (Aa (Bg (Ef (K:=K)) (pv 1) Ag (λ_ _=>rfl)) Ab)) (λ_ _ _ _ _=>.nil) (λ_ _ _ _ _=>(Bb T.TY (S7 T) hr (Aa (pv 1) (Aa (pv 0) Ab)))) rfl)
   (Ac (Az (i:=3) BW.nd rfl (Or.inr rfl) (Bb T.unlike (Aaw T) hr (Aa (pv 2) Ab)))
   (Ac (Az (i:=4) BW.nd rfl (Or.inr rfl) (Bb T.unlike (Aaw T) hr (Aa (pv 0) Ab)))
   (Ac (Az (i:=5) BW.nd rfl (Or.inr rfl) (BR (cok [3] ["signs", "unlike_ends"] BW) rfl (Bf (K:=K) (pv 2)) (λ_ _ _ _ _=>.nil) (λ_ _ _ _ _=>(Bo (K:=K) zM F.slot_list_index F.type_list_index Aef (pv 1) (Aa (pv 0) Ab)))))
   (Ac (Kd (i:=6) (cok [4] ["text", "unlike_picks"] BW) rfl BW.nd rfl rfl (Bf (K:=K) (pv 0)) (λ_ _ _ _ _=>.nil) (λ_ _ _ _ _=>(Bo (K:=K) zM F.slot_list_index F.type_list_index Aef (pv 1) (Aa (pv 0) Ab))) rfl)
   (Ad (An (Gh T.Fz.m ((Ja T).mono (by decide)) hr rfl T.Aer T.Gf.b .nil By (Aa (pv 5) (Aa (BR (cok [5] ["text", "threading"] BW) rfl (Bf (K:=K) (pv 4)) (λ_ _ _ _ _=>.nil) (λ_ _ _ _ _=>(Bb T.VG (YK T) hr (Aa (pv 1) (Aa (pv 0) Ab))))) (Aa (pv 6) Ab)))))))))))),?_⟩
  refine⟨_,rfl,a,cl,m,n,rfl,hS,C,λp hp=>?_⟩
  have hsz:sizeLine=16777216:=yA
  have m1:=C.m1
  have m40:=C.m40
  have n1:=C.n1
  have n40:=C.n40
  have hn:=C.hn
  have s1:Ar H (upd H p (.tup [.int (m:Int),.int (n:Int)])):=.upd hp
  refine⟨_,rfl,_,_,_,_,rfl,rfl,SqT.of Ae,BP (by decide) rfl,(m:Int),rfl,(by lia),(by lia),?_⟩
  rw[Aqc]
  refine Dz (lo:=0) (n:=m) (λi ys H2=>Ar H H2/\ys=vS ((List.range i).map (col cl))) ⟨s1,rfl⟩ ?_ ?_ ?_ ?_
  ·rintro i ys H2 hi ⟨s2,rfl⟩
   rw[Ay,ApO,Aql]
   lia
  ·exact Cz m40
  ·rintro i ys H2 hi ⟨s2,rfl⟩
   refine BZ.no ?_
   refine⟨_,rfl,_,rfl,a,cl,m,n,i,(by rw[AqC];rfl),s2.seq hS,C,hi,λH3 s3=>?_⟩
   refine CN.of hi ⟨s2.trans s3,?_⟩
   rw[Dc,Aq3,ApV]
   rfl
  rintro ys H2 p2 ⟨s2,rfl⟩ np2
  obtain⟨es,hes⟩:∃ es,es=cols cl m:=⟨_,rfl⟩
  have les:es.length=m:=by rw[hes,Hw]
  rw[show(List.range m).map (col cl)=es from hes.symm]
  rw[<- hes] at k
  have s3:Ar H (upd H2 p2 (.lst (vS es))):=s2.new np2
  generalize hH3:upd H2 p2 (.lst (vS es))=H3 at s3 ⊢
  have h3:H3 p2=some (.lst (vS es)):=by rw[<- hH3];exact Ae
  clear hH3
  refine⟨_,rfl,p2,es,rfl,SqL.of h3,by lia,λq1 H4 s4 nq1 h4=>?_⟩
  have lf1:=Adz es
  have mf1:∀ u∈es,u∈unl es:=λu hu=>(Im u es).mpr hu
  have s14:=s3.trans s4
  refine⟨_,rfl,a,cl,rfl,s14.seq hS,by lia,λq2 H5 s5 nq2 h5=>?_⟩
  have lf2:=Adz cl
  have mf2:∀ u∈cl,u∈unl cl:=λu hu=>(Im u cl).mpr hu
  have mg2:∀ u∈unl cl,u∈cl:=λu hu=>(Im u cl).mp hu
  have s15:=s14.trans s5
  have hp2:=s5 _ _ (s4 _ _ h3)
  have hq1:=s5 _ _ h4
  have g1:0<(unl cl).length:=AiQ λz=>by rw[z] at hn;simp at hn;lia
  refine⟨_,rfl,_,rfl,⟨_,SqL.of hp2⟩,Bu (K:=K) (a:=p2) (xs:=vS es) (λi ys H6=>H6=H5/\ys=vI (nts (Abj es i))) ⟨rfl,rfl⟩ ?_ ?_ ?_ ?_⟩
  ·rintro i ys H6 hi ⟨rfl,rfl⟩
   rw[Ay] at hi
   exact⟨SqL.of hp2,by rw[Bm,Gk,AcF hi];exact ApR _⟩
  ·rw[Ay];lia
  ·rintro i xv ys H6 hi hxv ⟨rfl,rfl⟩
   obtain⟨u,hu,rfl⟩:=Dh hxv
   obtain⟨j1,j2,j3⟩:=Ae5 (mf1 u (ApY hu))
   refine BZ.no ?_
   refine⟨_,rfl,.inl ⟨rfl,_,SqL.of hq1⟩,_,rfl,q1,(unl es).map tx,tx u,_,rfl,rfl,(by rw[<- DG];exact hq1),j1,j2,(by rw[ApO];lia),?_⟩
   refine CN.of hi ⟨rfl,?_⟩
   rw[Xl,Ae6,AcE hu]
  rintro ys H6 p3 ⟨rfl,rfl⟩ np3
  rw[Ay,AcD]
  obtain⟨th,eth⟩:∃ th,th=nts (num es):=⟨_,rfl⟩
  rw[<- eth] at k ⊢
  have lth:th.length=m:=by rw[eth,Gk,Dt,les]
  have hth:∀ z∈th,0<=z/\z<40:=λz hz=>by rw[eth] at hz;have:=Ae7 hz;lia
  have s6:Ar H6 (upd H6 p3 (.lst (vI th))):=.upd np3
  generalize hH7:upd H6 p3 (.lst (vI th))=H7 at s6 ⊢
  have h7:H7 p3=some (.lst (vI th)):=by rw[<- hH7];exact Ae
  clear hH7
  have s17:=s15.trans s6
  have h5':=s6 _ _ h5
  refine⟨_,rfl,_,rfl,⟨_,s17.seq hS⟩,Bu (K:=K) (a:=a) (xs:=vS cl) (λi ys H8=>H8=H7/\ys=vI (nts (Abj cl i))) ⟨rfl,rfl⟩ ?_ ?_ ?_ ?_⟩
  ·rintro i ys H8 hi ⟨rfl,rfl⟩
   rw[Ay] at hi
   exact⟨s17.seq hS,by rw[Bm,Gk,AcF hi];exact ApR _⟩
  ·rw[Ay];lia
  ·rintro i xv ys H8 hi hxv ⟨rfl,rfl⟩
   obtain⟨u,hu,rfl⟩:=Dh hxv
   obtain⟨j1,j2,j3⟩:=Ae5 (mf2 u (ApY hu))
   refine BZ.no ?_
   refine⟨_,rfl,.inl ⟨rfl,_,SqL.of h5'⟩,_,rfl,q2,(unl cl).map tx,tx u,_,rfl,rfl,(by rw[<- DG];exact h5'),j1,j2,(by rw[ApO];lia),?_⟩
   refine CN.of hi ⟨rfl,?_⟩
   rw[Xl,Ae6,AcE hu]
  rintro ys H8 p4 ⟨rfl,rfl⟩ np4
  rw[Ay,AcD]
  obtain⟨tr,etr⟩:∃ tr,tr=nts (num cl):=⟨_,rfl⟩
  rw[<- etr] at k ⊢
  have ltr:tr.length=n:=by rw[etr,Gk,Dt,hn]
  have htr:∀ z∈tr,0<=z/\z<((unl cl).length:Int):=λz hz=>by rw[etr] at hz;exact Ae7 hz
  have s8:Ar H8 (upd H8 p4 (.lst (vI tr))):=.upd np4
  generalize hH9:upd H8 p4 (.lst (vI tr))=H9 at s8 ⊢
  have h9:H9 p4=some (.lst (vI tr)):=by rw[<- hH9];exact Ae
  clear hH9
  have s19:=s17.trans s8
  have h9t:=s8 _ _ h7
  have h9u:=s8 _ _ h5'
  refine⟨_,rfl,_,rfl,_,rfl,⟨_,SqL.of h9u⟩,Bu (K:=K) (a:=q2) (xs:=vS (unl cl)) (λi ys H10=>Ar H9 H10/\∃(rs:List Addr) (tss:List (List Int)),ys=rs.map V.ref/\rs.length=i/\tss.length=i/\(∀ ks∈tss,Rs ks)/\(∀(j:Nat) (u:List Nat) (ks:List Int),(unl cl)[j]?=some u->tss[j]?=some ks->AhD th u ks)/\∀(j:Nat) (r:Addr) (ks:List Int),rs[j]?=some r->tss[j]?=some ks->H10 r=some (.lst (vI ks)))
   ⟨.refl _,[],[],rfl,rfl,rfl,λ_ h=>absurd h (by simp),λj u ks _ h=>(by simp at h),λj r ks h=>(by simp at h)⟩ ?_ ?_ ?_ ?_⟩
  ·rintro i ys H10 hi ⟨s10,rs,tss,rfl,e,_⟩
   exact⟨SqL.of (s10 _ _ h9u),by rw[ApO];lia⟩
  ·rw[Ay];lia
  ·rintro i xv ys H10 hi hxv ⟨s10,rs,tss,rfl,e,e2,hR,hT,hrs⟩
   obtain⟨u,hu,rfl⟩:=Dh hxv
   refine BZ.no ?_
   refine⟨_,rfl,_,rfl,p3,th,u,rfl,s10 _ _ h9t,?_,?_,hth,λl ks H11 s11 nl hl R TO=>?_⟩
   ·rw[C.hm u (mg2 u (ApY hu))];exact lth
   ·rw[C.hm u (mg2 u (ApY hu))];exact m40
   refine CN.of hi ⟨s10.trans s11,rs++[l],tss++[ks],by rw[ApV];rfl,by rw[ApQ,e];rfl,by rw[ApQ,e2];rfl,λx hx=>?_,λj u' x h1 h2=>?_,λj r x h1 h2=>?_⟩
   ·rcases zG.mp hx with h | h
    ·exact hR x h
    ·rw[zF.mp h];exact R
   ·by_cases hj:j<tss.length
    ·rw[Aqo hj] at h2
     exact hT j u' x h1 h2
    ·have hj2:j=i:=by
      have:=(zC.mp h2).1
      rw[ApQ] at this
      simp at this
      lia
     rw[Aqi (by lia),hj2,e2,Aq5] at h2
     cases h2
     rw[hj2,hu] at h1
     cases h1
     exact TO
   ·by_cases hj:j<rs.length
    ·rw[Aqo hj] at h1
     rw[Aqo (by lia)] at h2
     exact s11 _ _ (hrs j r x h1 h2)
    ·have hj2:j=i:=by
      have:=(zC.mp h1).1
      rw[ApQ] at this
      simp at this
      lia
     subst hj2
     rw[Aqi (by lia),e,Aq5] at h1
     rw[Aqi (by lia),e2,Aq5] at h2
     cases h1
     cases h2
     exact hl
  rintro ys H10 p5 ⟨s10,rs,tss,rfl,lrs,Anl,hR,hT,hrs⟩ np5
  rw[Ay] at lrs Anl
  have s11:Ar H9 (upd H10 p5 (.lst (rs.map V.ref))):=s10.new np5
  have sn:Ar H10 (upd H10 p5 (.lst (rs.map V.ref))):=.upd np5
  generalize Anm:upd H10 p5 (.lst (rs.map V.ref))=H11 at s11 sn ⊢
  have h11:H11 p5=some (.lst (rs.map V.ref)):=by rw[<- Anm];exact Ae
  clear Anm
  have FT:Ft th tss tr:={ m1:=by lia,m40:=by lia,t1:=by lia,t40:=by lia,n1:=by lia,n40:=by lia,hth:=hth,hti:=hR,htr:=λv hv=>by have:=htr v hv;lia }
  refine⟨_,rfl,λx dx nx ndx hne=>?_⟩
  have sz:Ar H11 (upd (upd H11 dx (.own x)) x (.ins t.Eh dx [])):=(Ar.upd ndx).new (by rw[Ah (λz=>hne z.symm)];exact nx)
  refine⟨x,dx,p3,p5,p4,rs,th,tss,tr,rfl,Ae,sz _ _ (s11 _ _ h9t),⟨sz _ _ h11,by lia,λj r ks e1 e2=>sz _ _ (sn _ _ (hrs j r ks e1 e2))⟩,sz _ _ (s11 _ _ h9),?_,λa' b' c' qs H' sb _ _ _ _ D=>⟨rfl,?_⟩⟩
  ·exact FT
  ·have nx0:H x=none:=by
    cases e:H x with
    | none=>rfl
    | some o=>rw[s11 _ _ (s19 _ _ e)] at nx;cases nx
   refine k x dx a' b' c' qs tss H' (λb o e=>?_) nx0 ⟨Anl,λj u ks h1 h2=>⟨hR ks (ApY h2),by rw[<- hes,<- eth];exact hT j u ks h1 h2⟩⟩ FT D
   have e11:=s11 _ _ (s19 _ _ e)
   exact sb b o (λz=>by rw[z,nx] at e11;cases e11) (sz _ _ e11)
def Ajs:Sp:=λvs H Q _=>∃(x l:Addr) (th ks:List Int),vs=[.ref x,.ref l]/\H x=some (.lst (vI th))/\H l=some (.lst (vI ks))/\th.length<=40/\∀ H',Ar H H'->Q (.str (tx (shd th ks))) H'
theorem Abk(T:Txt K mg t):Bd P w K mg base CX0 1 t.Vp t.Vq ["threading", "lifted"] Ajs:=by
 refine T.Aaf.F.ok QJ (λvs H Q E h=>?_) (λcdv A outer s H vs Q E hr h=>?_)
 ·obtain⟨x,l,th,ks,rfl,_⟩:=h
  rfl
 ·obtain⟨x,l,th,ks,rfl,hx,hl,h40,k⟩:=h
  refine⟨_,(Ad (An (Bo (K:=K) zI zS zV (CG (K:=K)) Am (Aa (BR (cok [1] ["shaft", "lifted"] QJ) rfl (Bf (K:=K) (pv 0)) (λ_ _ _ _ _=>.nil) (λ_ _ _ _ _=>(Lw (Al (Qg (K:=K)) (pv 0) (pv 1) rfl) Am Am))) Ab)))),?_⟩
  refine⟨rfl,_,rfl,_,rfl,⟨_,SqL.of hx⟩,Bu (K:=K) (a:=x) (xs:=vI th) (λi ys H2=>H2=H/\ys=vS ((th.take i).map λs=>[if s∈ks then 35 else 46])) ⟨rfl,rfl⟩ ?_ ?_ ?_ ?_⟩
  ·rintro i ys H2 hi ⟨rfl,rfl⟩
   refine⟨SqL.of hx,?_⟩
   rw[Ay,ApO,Aqf]
   lia
  ·rw[Bm];exact Cz h40
  ·rintro i xv ys H2 hi hxv ⟨rfl,rfl⟩
   obtain⟨z,hz,rfl⟩:=Kf hxv
   refine BZ.no ?_
   have fin:∀ d,d=(if z∈ks then 35 else 46)->CN (vI th).length (λi ys H2'=>H2'=H2/\ys=vS ((th.take i).map λs=>[if s∈ks then 35 else 46])) i (vS ((th.take i).map λs=>[if s∈ks then 35 else 46])++[.str (tx [d])]) H2:=λd hd=>by
    subst hd
    refine CN.of hi ⟨rfl,?_⟩
    rw[Dc,Aqd,hz,ApV]
    rfl
   refine⟨_,rfl,_,rfl,_,_,rfl,.inl (SqL.of hl),rfl,AdV _,_,rfl,?_⟩
   show if (inV (.int z) (vI ks))=true then _ else _
   rw[Ado]
   refine GX (λh=>?_) (λh=>?_)
   ·have:=fin 35 (by rw[if_pos h])
    rw[<- LQ,e35] at this
    exact this
   ·have:=fin 46 (by rw[if_neg h])
    rw[<- LQ,e46] at this
    exact this
  ·rintro ys H2 p ⟨rfl,rfl⟩ hp
   rw[Bm,Aqk]
   refine⟨_,_,((th.map λs=>[if s∈ks then 35 else 46]).map tx),rfl,rfl,SqL.of (by rw[Ae,DG]),?_,?_⟩
   ·have e1:=Ai8 (λs:Int=>if s∈ks then 35 else 46) th
    rw[e1,ApO,ApO]
    have:th.length*(Str.length "")=0:=by rw[show Str.length "" = 0 from by decide +kernel];lia
    lia
   ·rw[show(("" : Str))=tx [] from by decide +kernel,Nv]
    have e2:=Xg (λs:Int=>if s∈ks then 35 else 46) th
    rw[e2]
    exact k _ (.upd hp)
def AhF (t:Adr):Sp:=λvs H Q _=>∃(d dx a b c:Addr) (qs:List Addr) (th:List Int) (tss:List (List Int)) (tr:List Int),vs=[.ref d]/\IsD t H d dx a b c qs th tss tr/\Ft th tss tr/\∀ l H',Ar H H'->H l=none->H' l=some (.lst (vS (wv th tss tr)))->Q (.ref l) H'
theorem AhG(T:Txt K mg t):Bd P w K mg base CX0 2 t.Aem t.Aen ["draft"] (AhF t):=by
 refine T.AjX.F.ok Acl (λvs H Q E h=>?_) (λcdv A outer s H vs Q E hr h=>?_)
 ·obtain⟨d,dx,a,b,c,qs,th,tss,tr,rfl,_⟩:=h
  rfl
 ·obtain⟨d,dx,a,b,c,qs,th,tss,tr,rfl,D,F,k⟩:=h
  have n40:=F.n40
  refine⟨_,(Ad (An (BR (cok [0] ["treadle", "draft"] Acl) rfl (Bf (K:=K) (Cu (K:=K) (pv 0) rfl)) (λ_ _ _ _ _=>.nil) (λ_ _ _ _ _=>(Bb T.Aaf (Abk T) hr (Aa (Cu (K:=K) (pv 1) rfl) (Aa (Bg (Ax (K:=K)) (Cu (K:=K) (pv 1) rfl) (pv 0) (λ_ _=>rfl)) Ab))))))),?_⟩
  refine⟨_,rfl,_,_,_,_,_,rfl,D.o,T.Fz.c,T.FJ,Aki a b c,_,rfl,⟨_,SqL.of D.hc⟩,Bu (K:=K) (a:=c) (xs:=vI tr) (λi ys H2=>Ar H H2/\ys=vS (wv th tss (tr.take i))) ⟨.refl _,rfl⟩ ?_ ?_ ?_ ?_⟩
  ·rintro i ys H2 hi ⟨s2,rfl⟩
   refine⟨SqL.of (s2 _ _ D.hc),?_⟩
   rw[Ay,Alo,Aqf]
   lia
  ·rw[Bm];exact Cz n40
  ·rintro i xv ys H2 hi hxv ⟨s2,rfl⟩
   obtain⟨v,hv,rfl⟩:=Kf hxv
   have bv:=F.htr v (ApY hv)
   have D2:=D.same s2
   have hvq:v.toNat<qs.length:=by rw[D2.hb.l];lia
   have hrow:=D2.hb.r v.toNat qs[v.toNat] _ (ApP hvq) (Aeh bv)
   refine BZ.no ?_
   refine⟨_,rfl,_,_,_,_,_,rfl,D2.o,T.Fz.c,T.Ff,Akg a b c,_,rfl,_,_,_,_,_,rfl,D2.o,T.Fz.c,T.Jp,Akh a b c,_,rfl,_,_,_,_,rfl,rfl,SqL.of D2.hb.h,BP bv.1 (by rw[ApX,ApP hvq];rfl),
    a,qs[v.toNat],th,_,rfl,D2.ha,hrow,F.m40,λH3 s3=>?_⟩
   refine CN.of hi ⟨s2.trans s3,?_⟩
   rw[Dc]
   unfold wv
   rw[Aqd,hv,ApV]
   rfl
  ·rintro ys H2 l ⟨s2,rfl⟩ nl
   rw[Bm,Aqk]
   exact k l _ (s2.new nl) (s2.free nl) Ae
end
inductive Nd where
 | nam (w:List Nat)
 | num (n:Nat)
 | run (r:List Nat)
 | node (w:List Nat) (ts:List Nd)
namespace Pat
def sk (l:List Nat):List Nat:=l.dropWhile λc=>decide (c=32)
def letter(c:Nat):Bool:=decide (97<=c/\c<=122)
def AdE (c:Nat):Bool:=decide (48<=c/\c<=57)
def knot(c:Nat):Bool:=decide (c=35\/c=46)
def one (c:Nat):List Nat->Option (List Nat)
 | []=>none
 | a::l=>if a=c then some l else none
def Ann (f:List Nat):Bool:=decide ((1<=f.length/\f.length<=2)/\¬(f.length=2/\f[0]?=some 48))
def num (l:List Nat):Option (Nat × List Nat) :=
 if Ann (l.takeWhile AdE)=true then some (PySem.NumText.digitsVal (l.takeWhile AdE),sk (l.dropWhile AdE)) else none
def comma(l:List Nat):Option (List Nat):=(one 44 l).map sk
def run (l:List Nat):Option (List Nat × List Nat) :=
 if l.takeWhile knot=[] then none else some (l.takeWhile knot,sk (l.dropWhile knot))
def AcG:Nat->List Nat->Option (List (List Nat) × List Nat)
 | 0,_=>none
 | k+1,l=>match one 44 l with
  | none=>some ([],l)
  | some l1=>match run (sk l1) with
   | none=>none
   | some (r,l2)=>(AcG k l2).map λp=>(r::p.1,p.2)
def runs(l:List Nat):Option (List (List Nat) × List Nat) :=
 match run l with
 | none=>none
 | some (r,l1)=>match AcG (l1.length+1) l1 with
  | none=>none
  | some (rs,l2)=>if (r::rs).length>40 then none else some (r::rs,l2)
def wants(w:List Nat):Option (List Nat) :=
 if w=[116,119,105,108,108]\/w=[115,97,116,105,110] then some [110,110]
 else if w=[98,101,115,105,100,101]\/w=[97,98,111,118,101]\/w=[108,97,121] then some [112,112]
 else if w=[109,105,114,114,111,114]\/w=[117,112,101,110,100]\/w=[98,97,99,107]\/w=[113,117,97,114,116,101,114] then some [112]
 else if w=[116,105,108,101] then some [112,110,110]
 else if w=[98,108,111,99,107,115] then some [112,112,112]
 else none
def Ej:List Nat:=[114,111,119,115]
def isWord(w:List Nat):Bool:=decide (w=Ej) || (wants w).isSome
def isName(w:List Nat):Bool:=decide (1<=w.length/\w.length<=20) && w.all letter && !isWord w
def args(sub:List Nat->Option (Nd × List Nat)):Bool->List Nat->List Nat->Option (List Nd × List Nat)
 | _,[],l=>some ([],l)
 | fst,k::ks,l =>
  match (if fst=true then some l else comma l) with
  | none=>none
  | some l1=>match (if k=112 then sub l1 else (num l1).map λp=>(Nd.num p.1,p.2)) with
   | none=>none
   | some (a,l2)=>(args sub false ks l2).map λp=>(a::p.1,p.2)
def things(sub:List Nat->Option (Nd × List Nat))(w l:List Nat):Option (List Nd × List Nat) :=
 if w=Ej then (runs l).map λp=>(p.1.map Nd.run,p.2)
 else match wants w with
  | none=>none
  | some ks=>args sub true ks l
def node:Nat->List Nat->Option (Nd × List Nat)
 | 0,_=>none
 | d+1,l =>
  match one 40 (sk (l.dropWhile letter)) with
  | none=>if isName (l.takeWhile letter)=true then some (.nam (l.takeWhile letter),sk (l.dropWhile letter)) else none
  | some l1=>match things (node d) (l.takeWhile letter) (sk l1) with
   | none=>none
   | some (ts,l2)=>match one 41 l2 with
    | none=>none
    | some l3=>some (.node (l.takeWhile letter) ts,sk l3)
def whole(l:List Nat):Option Nd :=
 match node 12 (sk l) with
 | some (n,[])=>some n
 | _=>none
end Pat
def wid (cl:List (List Nat))(ac:Nat):List (List Nat):=cl.map λt=>(List.replicate ac t).flatten
def til (cl:List (List Nat))(ac al:Nat):List (List Nat):=(List.replicate al (wid cl ac)).flatten
theorem Ae8{α:Type}(l:List α):∀ k,((List.replicate k l).flatten).length=k*l.length
 | 0=>by simp
 | k+1=>by rw[Aq6,Aqg,ApQ,Ae8 l k,Nat.add_mul,Nat.one_mul];omega
theorem Ae9{α:Type}{l:List α}{x:α}:∀{k},x∈(List.replicate k l).flatten->x∈l
 | 0,h=>by simp at h
 | k+1,h=>by
  rw[Aq6,Aqg] at h
  rcases zG.mp h with h | h
  ·exact h
  ·exact Ae9 h
def plc (os:List Int)(k:Nat):Nat:=(os.take k).count (os.getD k 0)
def Ano (o e:Int)(own:List Nat)(p:Nat):Nat:=if o=e then own.getD p 0 else if e<o then 35 else 46
def Al9 (ps:List (List (List Nat)))(es:List Int)(o:Int)(b:Nat):List Nat:=(List.range es.length).map λk=>Ano o (es.getD k 0) ((ps.getD o.toNat []).getD b []) (plc es k)
def lay (ps:List (List (List Nat)))(es os:List Int):List (List Nat):=(List.range os.length).map λj=>Al9 ps es (os.getD j 0) (plc os j)
structure Ao9 (ps:List (List (List Nat))) (es os:List Int):Prop where
 e:∀ z∈es,0<=z/\z<(ps.length:Int)
 o:∀ z∈os,0<=z/\z<(ps.length:Int)
 hn:∀ i,i<ps.length->(ps.getD i []).length=os.count (i:Int)
 hm:∀ i,i<ps.length->∀ t∈ps.getD i [],t.length=es.count (i:Int)/\∀ c∈t,Sg c
 e1:1<=es.length
 e40:es.length<=40
 o1:1<=os.length
 o40:os.length<=40
theorem getD_mem{os:List Int}{k:Nat}(h:k<os.length):os.getD k 0∈os:=by
 have e:os.getD k 0=os[k]:=by simp[List.getD,h]
 rw[e]
 exact Aqq h
structure Own (es:List Int) (z:Int) (i:Nat) (ms:List Nat):Prop where
 len:ms.length=(es.take i).count z
 lt:∀ m∈ms,m<i
 at':∀ a m,ms[a]?=some m->es.getD m 0=z/\(es.take m).count z=a
def twW:List Nat:=[116,119,105,108,108]
def saW:List Nat:=[115,97,116,105,110]
def beW:List Nat:=[98,101,115,105,100,101]
def abW:List Nat:=[97,98,111,118,101]
def miW:List Nat:=[109,105,114,114,111,114]
def upW:List Nat:=[117,112,101,110,100]
def baW:List Nat:=[98,97,99,107]
def quW:List Nat:=[113,117,97,114,116,101,114]
def tiW:List Nat:=[116,105,108,101]
def blW:List Nat:=[98,108,111,99,107,115]
def laW:List Nat:=[108,97,121]
def twl (m n:Nat)(y x:Nat):Nat:=if (x+(m+n)-y)%(m+n)<m then 35 else 46
def twT (m n y:Nat):List Nat:=(List.range (m+n)).map (twl m n y)
def ApL (m n:Nat):List Nat:=List.replicate m 35++List.replicate n 46
def stT (s o:Nat):List Nat:=(List.range s).map λx=>if x=o then 35 else 46
def saT (s p y:Nat):List Nat:=stT s (y*p%s)
def AoA (m n i:Nat):List Bool:=(List.range i).map λj=>decide (m%(2+j)=0) && decide (n%(2+j)=0)
def cop (m n k:Nat):Bool:=(AoA m n (k-1)).any id
def Pri (s p:Nat):Prop:=1<=p/\p<s/\cop s p p=false
instance (s p:Nat):Decidable (Pri s p):=inferInstanceAs (Decidable (_/\_/\_))
inductive Rf where
 | nop
 | big
 | unk
inductive Res where
 | ok (rows:List (List Nat))
 | no (f:Rf)
def wdt (x:List (List Nat)):Nat:=(x.headD []).length
def Anp (rs:List (List Nat)):Res:=if (rs.map λr=>decide (¬r.length=wdt rs)).any id=true then .no .nop else if 40<wdt rs\/40<rs.length then .no .big else .ok rs
def AlA (a b:Nat):Res:=if a<1\/b<1 then .no .nop else if 40<a+b then .no .big else .ok ((List.range (a+b)).map (twT a b))
def AlB (m n:Nat):Res:=if ¬Pri m n then .no .nop else if 40<m then .no .big else .ok ((List.range m).map (saT m n))
def Ajt (x y:List (List Nat)):Res:=if ¬x.length=y.length then .no .nop else if 40<wdt x+wdt y\/40<x.length then .no .big else .ok (List.zipWith (·++·) x y)
def AlC (x y:List (List Nat)):Res:=if ¬wdt x=wdt y then .no .nop else if 40<wdt x\/40<x.length+y.length then .no .big else .ok (x++y)
def AoB (z:List Nat)(x:List (List Nat)):Res:=if z=miW then .ok (x.map List.reverse) else if z=upW then .ok x.reverse else if z=baW then .ok (back x) else .ok (GZ x (wdt x))
def Anq (x:List (List Nat))(a b:Nat):Res:=if a<1\/b<1 then .no .nop else if 40<wdt x*a\/40<x.length*b then .no .big else .ok (til x a b)
def Aju (p x y:List (List Nat)):Res:=if ¬wdt x=wdt y\/¬x.length=y.length then .no .nop else if 40<wdt p*wdt x\/40<p.length*x.length then .no .big else .ok (fil p x y)
def Abl (k:Nat):List Int:=(List.replicate k [(0:Int),1]).flatten
def AoC (x y:List (List Nat)):Res:=if ¬wdt x=wdt y\/¬x.length=y.length then .no .nop else if 40<2*wdt x\/40<2*x.length then .no .big else .ok (lay [x,y] (Abl (wdt x)) (Abl x.length))
inductive Arg where
 | num (n:Nat)
 | run (r:List Nat)
 | cl (x:List (List Nat)) (z:List Nat)
def runOf:Arg->List Nat
 | .run r=>r
 | _=>[]
def made(z:List Nat)(as:List Arg):Res :=
 if z=Pat.Ej then Anp (as.map runOf) else
 match as with
 | [.num a,.num b]=>if z=twW then AlA a b else AlB a b
 | [.cl x _]=>AoB z x
 | [.cl x _,.cl y _]=>if z=beW then Ajt x y else if z=abW then AlC x y else AoC x y
 | [.cl x _,.num a,.num b]=>Anq x a b
 | [.cl x _,.cl y _,.cl w _]=>Aju x y w
 | _=>.no .nop
def cj:List (List Nat)->List Nat
 | []=>[]
 | y::ys=>y++(ys.map λy=>[44]++y).flatten
def wrA:Arg->List Nat
 | .num n=>dec n
 | .run r=>r
 | .cl _ z=>z
def wz (z:List Nat)(ys:List (List Nat)):List Nat:=z++(40::(cj ys++[41]))
def wr:Nat->Nd->List Nat
 | _,.nam z=>z
 | _,.num n=>dec n
 | _,.run r=>r
 | 0,.node _ _=>[]
 | d+1,.node z ts=>wz z (ts.map (wr d))
def arg (sub:Nd->Res)(wrt:Nd->List Nat):Nd->Rf ⊕ Arg
 | .num n=>.inr (.num n)
 | .run r=>.inr (.run r)
 | .nam z=>match sub (.nam z) with
  | .ok x=>.inr (.cl x (wrt (.nam z)))
  | .no f=>.inl f
 | .node z ts=>match sub (.node z ts) with
  | .ok x=>.inr (.cl x (wrt (.node z ts)))
  | .no f=>.inl f
def args(sub:Nd->Res)(wrt:Nd->List Nat):List Nd->Rf ⊕ List Arg
 | []=>.inr []
 | x::ts=>match arg sub wrt x with
  | .inl f=>.inl f
  | .inr a=>match args sub wrt ts with
   | .inl f=>.inl f
   | .inr as=>.inr (a::as)
abbrev Kns:=List (List Nat × List (List Nat))
def known(kn:Kns)(z:List Nat):Res:=match kn.find? λp=>decide (p.1=z) with
 | some p=>.ok p.2
 | none=>.no .unk
def out (kn:Kns):Nat->Nd->Res
 | _,.nam z=>known kn z
 | d+1,.node z ts=>match args (out kn d) (wr d) ts with
  | .inl f=>.no f
  | .inr as=>made z as
 | _,_=>.no .nop
inductive Wd:Nat->Nd->Prop
 | nam {d:Nat} {z:List Nat}:Pat.isName z=true->Wd (d+1) (.nam z)
 | rows {d:Nat} {rs:List (List Nat)}:rs≠[]->rs.length<=40->(∀ r∈rs,r≠[]/\∀ c∈r,Sg c)->Wd (d+1) (.node Pat.Ej (rs.map Nd.run))
 | nums {d:Nat} {z:List Nat} {a b:Nat}:z=twW\/z=saW->a<100->b<100->Wd (d+1) (.node z [.num a,.num b])
 | one {d:Nat} {z:List Nat} {x:Nd}:z=miW\/z=upW\/z=baW\/z=quW->Wd d x->Wd (d+1) (.node z [x])
 | two {d:Nat} {z:List Nat} {x y:Nd}:z=beW\/z=abW\/z=laW->Wd d x->Wd d y->Wd (d+1) (.node z [x,y])
 | tile {d:Nat} {x:Nd} {a b:Nat}:Wd d x->a<100->b<100->Wd (d+1) (.node tiW [x,.num a,.num b])
 | blk {d:Nat} {x y w:Nd}:Wd d x->Wd d y->Wd d w->Wd (d+1) (.node blW [x,y,w])
def Rdg (d:Nat)(l:List Nat)(x:Nd)(l':List Nat):Prop:=(wr d x).length+l'.length<=l.length
def Kds (d:Nat):List Nat->List Nd->Prop
 | [],[]=>True
 | k::ks,x::ts=>(if k=112 then Wd d x else ∃ n,x=Nd.num n/\n<100)/\Kds d ks ts
 | _,_=>False
theorem Cl.wdt{x:List (List Nat)}{m n:Nat}(C:Cl x m n):wdt x=m:=by
 cases x with
 | nil=>have:=C.hn;have:=C.n1;simp at *;omega
 | cons r x=>exact C.hm r ApS
theorem Cl.same{x:List (List Nat)}{m n:Nat}(C:Cl x m n):Cl x (Mine.wdt x) x.length:=by rw[C.wdt,C.hn];exact C
def Clo (x:List (List Nat)):Prop:=Cl x (wdt x) x.length
theorem Cl.clo{x:List (List Nat)}{m n:Nat}(C:Cl x m n):Clo x:=C.same
theorem SM(k:Nat):(Abl k).length=2*k:=by unfold Abl;rw[Ae8];simp;omega
theorem Ky(k:Nat)(i:Int):(Abl k).count i=if i=0\/i=1 then k else 0:=by
 unfold Abl
 induction k with
 | zero=>simp
 | succ k ih =>
  rw[Aq6,Aqg,AqX,ih]
  by_cases h0:i=0
  ·subst h0;simp;omega
  ·by_cases h1:i=1
   ·subst h1;simp;omega
   ·rw[if_neg (by omega),if_neg (by omega)]
    simp[List.count_cons,Ne.symm h0,Ne.symm h1]
theorem AcH{k:Nat}{i:Int}(h:i∈Abl k):0<=i/\i<2:=by
 have:=Ae9 h
 simp at this
 omega
theorem AgI{x y:List (List Nat)}{m n:Nat}(C:Cl x m n)(D:Cl y m n)(hm:2*m<=40)(hn:2*n<=40):Ao9 [x,y] (Abl m) (Abl n) where
 e:=λz hz=>by have:=AcH hz;exact⟨this.1,by show z<2;exact this.2⟩
 o:=λz hz=>by have:=AcH hz;exact⟨this.1,by show z<2;exact this.2⟩
 hn:=λi hi=>by
  have:i=0\/i=1:=by simp only [ApU,Aqr] at hi;omega
  rcases this with rfl | rfl
  ·rw[Ky,if_pos (by decide)];exact C.hn
  ·rw[Ky,if_pos (by decide)];exact D.hn
 hm:=λi hi t ht=>by
  have:i=0\/i=1:=by simp only [ApU,Aqr] at hi;omega
  rcases this with rfl | rfl
  ·rw[Ky,if_pos (by decide)];exact⟨C.hm t ht,C.sg t ht⟩
  ·rw[Ky,if_pos (by decide)];exact⟨D.hm t ht,D.sg t ht⟩
 e1:=by have:=C.m1;rw[SM];omega
 e40:=by rw[SM];exact hm
 o1:=by have:=C.n1;rw[SM];omega
 o40:=by rw[SM];exact hn
inductive Fit:List Nat->List Arg->Prop
 | rows {rs:List (List Nat)}:rs≠[]->rs.length<=40->(∀ r∈rs,r≠[]/\∀ c∈r,Sg c)->Fit Pat.Ej (rs.map Arg.run)
 | nums {z:List Nat} {a b:Nat}:z=twW\/z=saW->a<100->b<100->Fit z [.num a,.num b]
 | one {z v:List Nat} {x:List (List Nat)}:z=miW\/z=upW\/z=baW\/z=quW->Clo x->Fit z [.cl x v]
 | two {z v u:List Nat} {x y:List (List Nat)}:z=beW\/z=abW\/z=laW->Clo x->Clo y->Fit z [.cl x v,.cl y u]
 | tile {v:List Nat} {x:List (List Nat)} {a b:Nat}:Clo x->a<100->b<100->Fit tiW [.cl x v,.num a,.num b]
 | blk {v u s:List Nat} {x y w:List (List Nat)}:Clo x->Clo y->Clo w->Fit blW [.cl x v,.cl y u,.cl w s]
section
variable {P:Program}{w:World}{K:W.Frag}{mg:Str->Option Value}{base:Heap}{t:Adr}
def AfT:Sp:=λvs H Q _=>∃(t:List Nat),vs=[.str (tx t)]/\t.length<=40/\∀ H',Ar H H'->Q (.str (tx (t.map flip))) H'
theorem Lq(T:Txt K mg t):Bd P w K mg base CX0 1 t.Mu t.Mv ["signs"] AfT:=by
 refine T.Ks.F.ok K4 (λvs H Q E h=>?_) (λcdv A outer s H vs Q E hr h=>?_)
 ·obtain⟨t,rfl,_⟩:=h
  rfl
 ·obtain⟨t,rfl,hl,k⟩:=h
  refine⟨_,(Ad (An (Bo (K:=K) zI zS zV (CG (K:=K)) Am (Aa (BR (cok [] ["sign"] K4) rfl (Xd (pv 0)) (λ_ _ _ _ _=>.nil) (λ_ _ _ _ _=>(Lw (Al Ca (pv 0) Am (Aw _)) Am Am))) Ab)))),?_⟩
  refine⟨rfl,_,rfl,_,rfl,Xe (z:=tx t) (λi ys H2=>H2=H/\ys=vS ((t.take i).map λc=>[flip c])) ⟨rfl,rfl⟩ ?_ ?_ ?_ ?_⟩
  ·rintro i ys H2 hi ⟨rfl,rfl⟩
   rw[Ay,ApO,Aqf]
   lia
  ·rw[Ke];exact Cz hl
  ·rintro i c ys H2 hi hc ⟨rfl,rfl⟩
   rw[Jf] at hc
   refine BZ.no ?_
   have fin:∀ d,d=flip c->CN (tx t).cps.size (λi ys H2'=>H2'=H2/\ys=vS ((t.take i).map λc=>[flip c])) i (vS ((t.take i).map λc=>[flip c])++[.str (tx [d])]) H2:=λd hd=>by
    subst hd
    refine CN.of hi ⟨rfl,?_⟩
    rw[Dc,Aqd,hc,ApV]
    rfl
   refine⟨_,rfl,rfl,_,rfl,?_⟩
   refine GX (λh=>?_) (λh=>?_)
   ·have e:c=35:=by
     rw[<- e35] at h
     injection h with h
     exact List.cons.inj (Fd h) |>.1
    have:=fin 46 (by rw[e];rfl)
    rw[<- LQ,e46] at this
    exact this
   ·have e:c≠35:=λz=>h (by rw[z];exact e35)
    have:=fin 35 (by unfold flip;rw[if_neg e])
    rw[<- LQ,e35] at this
    exact this
  ·rintro ys H2 p ⟨rfl,rfl⟩ hp
   rw[Ke,Aqk]
   refine⟨_,_,((t.map λc=>[flip c]).map tx),rfl,rfl,SqL.of (by rw[Ae,DG]),?_,?_⟩
   ·have e1:=Ai8 flip t
    rw[e1,ApO,ApO]
    have:t.length*(Str.length "")=0:=by rw[show Str.length "" = 0 from by decide +kernel];lia
    lia
   ·rw[show(("" : Str))=tx [] from by decide +kernel,Nv]
    have e2:=Xg flip t
    rw[e2]
    exact k _ (.upd hp)
def Ajv (K:W.Frag):Sp:=λvs H Q _=>∃(a:Addr) (cl:List (List Nat)) (m n:Nat),vs=[.ref a]/\SqL K H a (vS cl)/\Cl cl m n/\∀ l H',Ar H H'->H l=none->H' l=some (.lst (vS (back cl)))->Q (.ref l) H'
theorem AdF(T:Txt K mg t):Bd P w K mg base CX0 4 t.ZV t.ZW ["cloth"] (Ajv K):=by
 refine T.Aeo.F.ok X8 (λvs H Q E h=>?_) (λcdv A outer s H vs Q E hr h=>?_)
 ·obtain⟨a,cl,m,n,rfl,_⟩:=h
  rfl
 ·obtain⟨a,cl,m,n,rfl,hS,C,k⟩:=h
  have c2:=C.n40
  have c4:=C.m40
  refine⟨_,(Ac (Bp (Bb T.measured (Ng T) hr (Aa (pv 0) Ab)))
   (Ad (An (BR (cok [] ["text"] X8) rfl (Bf (K:=K) (pv 0)) (λ_ _ _ _ _=>.nil) (λ_ _ _ _ _=>(Bb T.Ks (Lq T) hr (Aa (Bo (K:=K) zI zS zV Adj Am (Aa (Cp AbK rfl T.Yz U0 (Aa (pv 0) Ab)) Ab)) Ab))))))),?_⟩
  refine⟨_,rfl,a,cl,m,n,rfl,hS,C,λp hp=>?_⟩
  have s1:Ar H (upd H p (.tup [.int (m:Int),.int (n:Int)])):=.upd hp
  refine⟨_,rfl,_,rfl,⟨_,s1.seq hS⟩,Bu (K:=K) (a:=a) (xs:=vS cl) (λi ys H2=>Ar H H2/\ys=vS ((cl.take i).map λt=>t.reverse.map flip)) ⟨s1,rfl⟩ ?_ ?_ ?_ ?_⟩
  ·rintro i ys H2 hi ⟨s2,rfl⟩
   refine⟨s2.seq hS,?_⟩
   rw[Ay,ApO,Aqf]
   lia
  ·rw[Ay,C.hn];exact Cz c2
  ·rintro i x ys H2 hi hx ⟨s2,rfl⟩
   obtain⟨t,ht,rfl⟩:=Dh hx
   have htm:=ApY ht
   have htl:=C.hm t htm
   refine BZ.no ?_
   refine⟨rfl,_,rfl,_,rfl,(by rw[Ai,htl];exact Cz c4),λq hq=>?_⟩
   refine⟨_,_,q,rfl,rfl,Ae,(by decide +kernel),(by rw[Ai];lia),?_⟩
   rw[Ce,show(("" : Str))=tx [] from by decide +kernel,show(t.reverse.map λc=>(⟨#[c]⟩:Str))=(t.reverse.map λc=>[c]).map tx by rw[AqW];rfl,Nv]
   have e2:(t.reverse.map λc=>[c]).flatten=t.reverse:=(Xg id t.reverse).trans (List.map_id _)
   rw[e2]
   refine⟨t.reverse,rfl,(by rw[AqF];lia),λH3 s3=>?_⟩
   refine CN.of hi ⟨((s2.new hq).over (s2.free hq)).trans s3,?_⟩
   rw[Dc,Aqd,ht,ApV]
   rfl
  ·rintro ys H2 p2 ⟨s2,rfl⟩ hp2
   rw[Ay,Aqk]
   exact k p2 _ (s2.new hp2) (s2.free hp2) Ae
def AdG (K:W.Frag):Sp:=λvs H Q _=>∃(a:Addr) (cl:List (List Nat)) (m n:Nat),vs=[.ref a]/\SqL K H a (vS cl)/\Cl cl m n/\∀ l H',Ar H H'->H l=none->H' l=some (.lst (vS (GZ cl m)))->Q (.ref l) H'
theorem Zr(T:Txt K mg t):Bd P w K mg base CX0 4 t.Ro t.Rp ["cloth"] (AdG K):=by
 refine T.Ym.F.ok Jg (λvs H Q E h=>?_) (λcdv A outer s H vs Q E hr h=>?_)
 ·obtain⟨a,cl,m,n,rfl,_⟩:=h
  rfl
 ·obtain⟨a,cl,m,n,rfl,hS,C,k⟩:=h
  have c2:=C.n40
  have c4:=C.m40
  refine⟨_,(Ac (Az (i:=1) Jg.nd rfl (Or.inl rfl) (Bb T.measured (Ng T) hr (Aa (pv 0) Ab)))
   (Ad (An (BR (cok [0] ["end", "cloth"] Jg) rfl (Ci rfl T.Cv (Aa (Bg (Ef (K:=K)) (pv 1) Ag (λ_ _=>rfl)) Ab)) (λ_ _ _ _ _=>.nil) (λ_ _ _ _ _=>(Bb T.Ks (Lq T) hr (Aa (Bb T.TY (S7 T) hr (Aa (pv 1) (Aa (pv 0) Ab))) Ab))))))),?_⟩
  refine⟨_,rfl,a,cl,m,n,rfl,hS,C,λp hp=>?_⟩
  have s1:Ar H (upd H p (.tup [.int (m:Int),.int (n:Int)])):=.upd hp
  refine⟨_,rfl,_,_,_,_,rfl,rfl,SqT.of Ae,BP (by decide) rfl,(m:Int),rfl,(by lia),(by lia),?_⟩
  rw[Aqc]
  refine Dz (lo:=0) (n:=m) (λi ys H2=>Ar H H2/\ys=vS ((List.range i).map λe=>(col cl e).map flip)) ⟨s1,rfl⟩ ?_ ?_ ?_ ?_
  ·rintro i ys H2 hi ⟨s2,rfl⟩
   rw[Ay,ApO,Aql]
   lia
  ·exact Cz c4
  ·rintro i ys H2 hi ⟨s2,rfl⟩
   refine BZ.no ?_
   refine⟨_,rfl,_,rfl,a,cl,m,n,i,(by rw[AqC];rfl),s2.seq hS,C,hi,λH3 s3=>?_⟩
   refine⟨col cl i,rfl,(by unfold col;rw[ApO,C.hn];lia),λH4 s4=>?_⟩
   refine CN.of hi ⟨(s2.trans s3).trans s4,?_⟩
   rw[Dc,Aq3,ApV]
   rfl
  ·rintro ys H2 p2 ⟨s2,rfl⟩ hp2
   exact k p2 _ (s2.new hp2) (s2.free hp2) Ae
theorem SN:(("(" : Str))=tx [40]:=by decide +kernel
theorem Uq:((")" : Str))=tx [41]:=by decide +kernel
theorem Ob:(("," : Str))=tx [44]:=by decide +kernel
def pf (l:Addr)(z:Str):List (Str × V):=[("texts", .ref l),("writing", .str z)]
def AhH (K:W.Frag):Sp:=λvs H Q _=>∃(C r dx a:Addr) (ts:List (List Nat)) (z:Str),vs=[.ref r,.ref a,.str z]/\H r=some (.ins C dx [])/\Cls K C/\Cy K C "texts" /\ Cy K C "writing" /\ SqL K H a (vS ts) /\
 ∀ l,H l=none->Q .non (upd (upd H l (.lst (vS ts))) r (.ins C dx (pf l z)))
theorem Ek(T:Txt K mg t):Bd P w K mg base CX0 1 t.Ep t.J8 ["self", "texts", "writing"] (AhH K):=by
 refine T.Dv.F.ok Rh (λvs H Q E h=>?_) (λcdv A outer s H vs Q E hr h=>?_)
 ·obtain⟨C,r,dx,a,ts,z,rfl,_⟩:=h
  rfl
 ·obtain⟨C,r,dx,a,ts,z,rfl,h1,hc,hn1,hn2,hS,k⟩:=h
  refine⟨_,(Ac (Hg (K:=K) (pv 0) (Cp (DQ (K:=K)) rfl T.Ku Hf (Aa (pv 1) Ab)))
   (Ad (Hg (K:=K) (pv 0) (pv 2)))),?_⟩
  refine⟨_,rfl,_,_,rfl,.inl hS,λl hl=>?_⟩
  have nlr:r≠l:=Ak h1 hl
  have h1':(upd H l (.lst (vS ts))) r=some (.ins C dx []):=by rw[Ah nlr];exact h1
  refine⟨_,rfl,_,_,_,_,rfl,h1',hc,hn1,(by decide),?_⟩
  refine⟨_,rfl,_,rfl,_,_,_,_,rfl,Ae,hc,hn2,(by show 1<1000;decide),?_⟩
  rw[JW]
  exact k l hl
def pcs (t:Adr):List Addr:=[t.Fp,t.HH,t.Jl,t.DW]
structure PcC (K:W.Frag) (t:Adr) (C:Addr):Prop where
 c:Cls K C
 n1:Cy K C "texts"
 n2:Cy K C "writing"
 Anr:Meth K C "cloth" t.De
 told:Meth K C "told" t.Dl
theorem pcC(T:Txt K mg t){C:Addr}(h:C∈pcs t):PcC K t C:=by
 simp only [pcs,Aqs,Aqt,or_false] at h
 rcases h with rfl | rfl | rfl | rfl
 ·exact⟨T.AaS.c,T.MP,T.JL,T.Y6,T.Zh⟩
 ·exact⟨T.Ad4.c,T.PJ,T.Li,T.Zi,T.AaT⟩
 ·exact⟨T.Ad5.c,T.PL,T.Lj,T.Zj,T.AaU⟩
 ·exact⟨T.Ud.c,T.JM,T.Ib,T.Ue,T.Wc⟩
def Pc (t:Adr)(H:Hp)(p:Addr)(x:List (List Nat))(z:List Nat):Prop:=∃ C dx l,C∈pcs t/\H p=some (.ins C dx (pf l (tx z)))/\H l=some (.lst (vS x))
theorem Pc.mono{H H':Hp}{p:Addr}{x:List (List Nat)}{z:List Nat}(h:Pc t H p x z)(s:∀ b o,H b=some o->H' b=some o):Pc t H' p x z:=by
 obtain⟨C,dx,l,hC,h1,h2⟩:=h
 exact⟨C,dx,l,hC,s _ _ h1,s _ _ h2⟩
theorem AhI(l:Addr)(z:Str):(pf l z).lookup ("texts" : Str)=some (V.ref l):=rfl
theorem AdH(l:Addr)(z:Str):(pf l z).lookup ("writing" : Str)=some (V.str z):=rfl
theorem AeA(l:Addr)(z:Str):(pf l z).lookup ("wide" : Str)=none/\(pf l z).lookup ("high" : Str)=none/\(pf l z).lookup ("sign" : Str)=none/\(pf l z).lookup ("cloth" : Str)=none/\(pf l z).lookup ("told" : Str)=none:=⟨rfl,rfl,rfl,rfl,rfl⟩
theorem Aax{cl:List (List Nat)}{i:Nat}{x:List Nat}(h:cl[i]?=some x):atI (vS cl) (i:Int)=some (.str (tx x)):=BP (by lia) (by rw[Aqc];unfold vS;rw[ApX,h];rfl)
theorem Cl.at{x:List (List Nat)}{m n i:Nat}(C:Cl x m n)(h:i<n):∃ u,x[i]?=some u/\u.length=m:=by
 have hi:i<x.length:=by rw[C.hn];exact h
 exact⟨x[i],ApP hi,C.hm _ (Aqq hi)⟩
def AcI (t:Adr):Sp:=λvs H Q _=>∃ p x z,vs=[.ref p]/\Pc t H p x z/\∀ l,H l=none->Q (.ref l) (upd H l (.lst (vS x)))
theorem Ih(T:Txt K mg t):Bd P w K mg base CX0 1 t.De t.OD ["self"] (AcI t):=by
 refine T.Gm.F.ok XX (λvs H Q E h=>?_) (λcdv A outer s H vs Q E hr h=>?_)
 ·obtain⟨p,x,z,rfl,_⟩:=h
  rfl
 ·obtain⟨p,x,z,rfl,⟨C,dx,l,hC,hp,hl⟩,k⟩:=h
  have C:=pcC T hC
  refine⟨_,(Ad (An (Cp (DQ (K:=K)) rfl T.Ku Hf (Aa (Cu (K:=K) (pv 0) rfl) Ab)))),?_⟩
  exact⟨_,rfl,_,_,_,_,_,rfl,hp,C.c,C.n1,AhI _ _,_,_,rfl,.inl (SqL.of hl),λq hq=>k q hq⟩
def AeB (t:Adr):Sp:=λvs H Q _=>∃ p x z,vs=[.ref p]/\Pc t H p x z/\Q (.str (tx z)) H
theorem PN(T:Txt K mg t):Bd P w K mg base CX0 1 t.Dl t.Rm ["self"] (AeB t):=by
 refine T.Kw.F.ok Zf (λvs H Q E h=>?_) (λcdv A outer s H vs Q E hr h=>?_)
 ·obtain⟨p,x,z,rfl,_⟩:=h
  rfl
 ·obtain⟨p,x,z,rfl,⟨C,dx,l,hC,hp,hl⟩,k⟩:=h
  have C:=pcC T hC
  refine⟨_,(Ad (An (Cu (K:=K) (pv 0) rfl))),?_⟩
  exact⟨_,rfl,_,_,_,_,_,rfl,hp,C.c,C.n2,AdH _ _,k⟩
def AhJ:Sp:=λvs H Q _=>∃ m n:Nat,vs=[.int (m:Int),.int (n:Int)]/\m<=40/\n<=40/\Q .non H
theorem Zt(T:Txt K mg t):Bd P w K mg base CX0 1 t.R8 t.R9 ["ends", "picks"] AhJ:=by
 refine T.Yr.F.ok Zd (λvs H Q E h=>?_) (λcdv A outer s H vs Q E hr h=>?_)
 ·obtain⟨m,n,rfl,_⟩:=h
  rfl
 ·obtain⟨m,n,rfl,h1,h2,k⟩:=h
  refine⟨_,(Ad (Be (PW.pt (pw_or (Al Jr (pv 0) (Ck (v:=.int 40) rfl T.Eo.choose_spec ⟨_,rfl⟩) (Aw _)) (pw_or1 (Al Jr (pv 1) (Ck (v:=.int 40) rfl T.Eo.choose_spec ⟨_,rfl⟩) (Aw _)))))
    (Ad Bc)
    Aq)),?_⟩
  refine⟨_,rfl,_,_,rfl,rfl,_,rfl,?_⟩
  refine Cg (by lia) ?_
  refine⟨_,rfl,_,_,rfl,rfl,_,rfl,?_⟩
  refine Cg (by lia) ?_
  exact k
theorem AlD:∀(ys:List (List Nat)),((ys.map tx).map (·.length)).sum+ys.length<=(cj ys).length+1
 | []=>by simp[cj]
 | y::ys=>by
  have h:∀ ys:List (List Nat),((ys.map tx).map (·.length)).sum+ys.length=((ys.map λy=>[44]++y).flatten).length:=λys=>by
   induction ys with
   | nil=>rfl
   | cons x ys ih =>
    rw[ApT,ApT,Aqm,ApT,Aqg,ApQ,ApQ,<- ih,Ai,ApU,Aq0]
    lia
  have:=h ys
  unfold cj
  rw[ApT,ApT,Aqm,ApQ,Ai,ApU,<- this]
  lia
theorem AhK(z:List Nat)(ys:List (List Nat)):(wz z ys).length=z.length+(cj ys).length+2:=by
 unfold wz
 rw[ApQ,ApU,ApQ,Aq0]
 lia
def AdI (K:W.Frag):Sp:=λvs H Q _=>∃(a:Addr) (ws:List Nat) (ys:List (List Nat)),vs=[.str (tx ws),.ref a]/\SqL K H a (vS ys)/\ys≠[]/\(wz ws ys).length<=1000000/\Q (.str (tx (wz ws ys))) H
theorem Qz(T:Txt K mg t):Bd P w K mg base CX0 1 t.Aac t.Aad ["word", "things"] (AdI K):=by
 refine T.written.F.ok Ad3 (λvs H Q E h=>?_) (λcdv A outer s H vs Q E hr h=>?_)
 ·obtain⟨a,ws,ys,rfl,_⟩:=h
  rfl
 ·obtain⟨a,ws,ys,rfl,hS,hne,hw,k⟩:=h
  refine⟨_,(Ad (An (Bx CW (Bx CW (Bx CW (pv 0) Am) (Bo (K:=K) zI zS zV (CG (K:=K)) Am (Aa (pv 1) Ab))) Am))),?_⟩
  have e1:(("," : Str)).length=1:=by decide +kernel
  have cl:=AlD ys
  rw[AhK] at hw
  refine⟨_,rfl,_,_,rfl,rfl,(by rw[SN,Ai,Ai];exact big (by simp only [ApU,Aqr];lia)),rfl,_,rfl,_,_,ys.map tx,rfl,rfl,(by rw[<- DG];exact hS),?_,?_⟩
  ·rw[e1,ApO,Nat.mul_one]
   have:sizeLine=16777216:=yA
   lia
  ·have ej:Txt.join (tx [44]) (ys.map tx)=tx (cj ys):=by
    cases ys with
    | nil=>exact absurd rfl hne
    | cons y ys=>exact JP [44] y ys
   rw[SN,Ob,Uq,ej,G7]
   refine⟨_,_,rfl,rfl,(by rw[Ai,Ai];exact big (by simp only [ApQ,ApU,Aqr];lia)),?_⟩
   rw[G7]
   refine⟨_,_,rfl,rfl,(by rw[Ai,Ai];exact big (by simp only [ApQ,ApU,Aqr];lia)),?_⟩
   rw[G7,show(ws++[40]++cj ys)++[41]=wz ws ys by unfold wz;simp]
   exact k
def Oi (C dx r:Addr)(H:Hp)(Q:VK)(x:List (List Nat))(z:List Nat):Prop:=∀ l H',CV r H H'->H l=none->H' l=some (.lst (vS x))->H' r=some (.ins C dx (pf l (tx z)))->Q .non H'
theorem Oi.fin{C dx r l:Addr}{H H3:Hp}{Q:VK}{x:List (List Nat)}{z:List Nat}(k:Oi C dx r H Q x z)(sb:Ar H H3)(h1:H r=some (.ins C dx []))(hl:H3 l=none):Q .non (upd (upd H3 l (.lst (vS x))) r (.ins C dx (pf l (tx z)))):=by
 have hr:H3 r=some (.ins C dx []):=sb _ _ h1
 have nlr:l≠r:=λy=>by rw[y,hr] at hl;cases hl
 have hlH:H l=none:=by
  cases e:H l with
  | none=>rfl
  | some o=>rw[sb _ _ e] at hl;cases hl
 refine k l _ (λb o hb e=>?_) hlH (by rw[Ah nlr];exact Ae) Ae
 rw[Ah hb,Ah (Ak (sb b o e) hl)]
 exact sb b o e
def AhL (K:W.Frag)(t:Adr):Sp:=λvs H Q _=>∃(r dx a:Addr) (x:List (List Nat)) (z:List Nat),vs=[.ref r,.str (tx z),.ref a]/\H r=some (.ins t.Fp dx [])/\SqL K H a (vS x)/\Oi t.Fp dx r H Q x z
theorem SQ(T:Txt K mg t):Bd P w K mg base CX0 3 t.Ge t.J9 ["self", "name", "known_cloth"] (AhL K t):=by
 refine T.JN.F.ok Rj (λvs H Q E h=>?_) (λcdv A outer s H vs Q E hr h=>?_)
 ·obtain⟨r,dx,a,x,z,rfl,_⟩:=h
  rfl
 ·obtain⟨r,dx,a,x,z,rfl,h1,hS,k⟩:=h
  refine⟨_,(Ad (Bp (Wo (Ck (v:=.ref t.Ez) rfl T.Wx rfl) T.RX ((Ek T).mono (by decide)) hr T.Dv.b .nil By (Aa (pv 0) (Aa (pv 2) (Aa (pv 1) Ab)))))),?_⟩
  refine⟨rfl,_,rfl,_,rfl,_,rfl,t.Fp,r,dx,a,x,_,rfl,h1,T.AaS.c,T.MP,T.JL,hS,λl hl=>?_⟩
  exact k.fin (.refl _) h1 hl
theorem SX:(("rows" : Str))=tx Pat.Ej:=by decide +kernel
theorem AeC:(("back" : Str))=tx baW:=by decide +kernel
theorem Ajw:(("quarter" : Str))=tx quW:=by decide +kernel
def Ajx (K:W.Frag)(t:Adr):Sp:=λvs H Q _=>∃(r dx a:Addr) (rs:List (List Nat)) (m n:Nat),vs=[.ref r,.ref a]/\H r=some (.ins t.HH dx [])/\SqL K H a (vS rs)/\Cl rs m n/\(wz Pat.Ej rs).length<=1000000/\Oi t.HH dx r H Q rs (wz Pat.Ej rs)
theorem Ur(T:Txt K mg t):Bd P w K mg base CX0 2 t.GJ t.KQ ["self", "runs"] (Ajx K t):=by
 refine T.Ln.F.ok J4 (λvs H Q E h=>?_) (λcdv A outer s H vs Q E hr h=>?_)
 ·obtain⟨r,dx,a,rs,m,n,rfl,_⟩:=h
  rfl
 ·obtain⟨r,dx,a,rs,m,n,rfl,h1,hS,C,hw,k⟩:=h
  have n1:=C.n1
  have n40:=C.n40
  have m40:=C.m40
  have hn:=C.hn
  have l0:0<rs.length:=by lia
  have hu0:rs[0]?=some rs[0]:=ApP l0
  have e0:(rs[0]).length=m:=C.hm _ (Aqq l0)
  generalize rs[0]=u0 at hu0 e0
  refine⟨_,(Ac (Be (Cr (Ao (ZG (K:=K)) rfl T.AjY Agz (Aa (BR (cok [1] ["run", "runs"] J4) rfl (Bf (K:=K) (pv 1)) (λ_ _ _ _ _=>.nil) (λ_ _ _ _ _=>(Dm GR (Ao Bt rfl T.BK Bq (Aa (pv 0) Ab)) (Ao Bt rfl T.BK Bq (Aa (Bg (Ax (K:=K)) (pv 1) Ag (λ_ _=>rfl)) Ab)) (Aw _)))) Ab)))
    (Ad Bc)
    Aq)
   (Ac (Bp (Bb T.Yr (Zt T) hr (Aa (Ao Bt rfl T.BK Bq (Aa (Bg (Ax (K:=K)) (pv 1) Ag (λ_ _=>rfl)) Ab)) (Aa (Ao (Av (K:=K)) rfl T.BK Bq (Aa (pv 1) Ab)) Ab))))
   (Ad (Bp (Wo (Ck (v:=.ref t.Ez) rfl T.Wx rfl) T.RX ((Ek T).mono (by decide)) hr T.Dv.b .nil By (Aa (pv 0) (Aa (pv 1) (Aa (Bb T.written (Qz T) hr (Aa Am (Aa (pv 1) Ab))) Ab)))))))),?_⟩
  refine⟨_,rfl,_,rfl,⟨_,hS⟩,Bu (K:=K) (a:=a) (xs:=vS rs) (λi ys H2=>H2=H/\ys=vB (List.replicate i false)) ⟨rfl,rfl⟩ ?_ ?_ ?_ ?_⟩
  ·rintro i ys H2 hi ⟨rfl,rfl⟩
   refine⟨hS,?_⟩
   rw[Qi,AqO]
   exact ApR _
  ·rw[Ay];exact Cz (by lia)
  ·rintro i x ys H2 hi hx ⟨rfl,rfl⟩
   obtain⟨u,hu,rfl⟩:=Dh hx
   have lu:=C.hm u (ApY hu)
   refine BZ.no ?_
   refine⟨_,rfl,_,rfl,(by rw[Ai];exact big (by lia)),_,rfl,_,_,_,_,rfl,rfl,hS,Aax (i:=0) hu0,_,rfl,(by rw[Ai];exact big (by lia)),rfl,?_⟩
   rw[show(!decide (V.int ((tx u).length:Int)=V.int ((tx u0).length:Int)))=false by rw[Ai,Ai,lu,e0];simp]
   exact CN.of hi ⟨rfl,by rw[Qj,<- Ark]⟩
  ·rintro ys H2 q ⟨rfl,rfl⟩ hq
   refine⟨_,_,rfl,SqL.of Ae,_,rfl,?_⟩
   rw[show(List.replicate (vS rs).length false).any id=false by simp]
   have s3:Ar H2 (upd H2 q (.lst (vB (List.replicate (vS rs).length false)))):=.upd hq
   generalize upd H2 q (.lst (vB (List.replicate (vS rs).length false)))=H3 at s3 ⊢
   refine DP ?_
   refine⟨_,rfl,_,_,_,_,rfl,rfl,s3.seq hS,Aax (i:=0) hu0,_,rfl,(by rw[Ai];exact big (by lia)),_,rfl,_,_,rfl,.inl (s3.seq hS),m,n,(by rw[Ai,e0,Ay,hn];rfl),m40,n40,?_⟩
   refine⟨rfl,_,rfl,_,rfl,_,rfl,a,Pat.Ej,rs,(by rw[SX];rfl),s3.seq hS,(λz=>by rw[z] at l0;cases l0),hw,?_⟩
   refine⟨t.HH,r,dx,a,rs,_,rfl,s3 _ _ h1,T.Ad4.c,T.PJ,T.Li,s3.seq hS,λl hl=>?_⟩
   exact k.fin s3 h1 hl
theorem YM(T:Txt K mg t){H:Hp}{p:Addr}{x:List (List Nat)}{z:List Nat}{Q:VK}{E:XK}(hp:Pc t H p x z)(k:∀ l,H l=none->Q (.ref l) (upd H l (.lst (vS x)))):∃ a dx fs C,(V.ref p)=.ref a/\H a=some (.ins C dx fs)/\fs.lookup ("cloth" : Str)=none/\Cls K C/\Meth K C "cloth" t.De/\AcI t [.ref p] H Q E:=by
 obtain⟨D,dx,l,hC,h1,h2⟩:=id hp
 exact⟨p,dx,_,D,rfl,h1,(AeA _ _).2.2.2.1,(pcC T hC).c,(pcC T hC).Anr,p,x,z,rfl,hp,k⟩
theorem AeD(T:Txt K mg t){H:Hp}{p:Addr}{x:List (List Nat)}{z:List Nat}{Q:VK}{E:XK}(hp:Pc t H p x z)(k:Q (.str (tx z)) H):∃ a dx fs C,(V.ref p)=.ref a/\H a=some (.ins C dx fs)/\fs.lookup ("told" : Str)=none/\Cls K C/\Meth K C "told" t.Dl/\AeB t [.ref p] H Q E:=by
 obtain⟨D,dx,l,hC,h1,h2⟩:=id hp
 exact⟨p,dx,_,D,rfl,h1,(AeA _ _).2.2.2.2,(pcC T hC).c,(pcC T hC).told,p,x,z,rfl,hp,k⟩
def AhM (K:W.Frag)(t:Adr)(C:Addr)(wd:List Nat)(mk:List (List Nat)->List (List Nat)):Sp:=λvs H Q _=>∃(r dx p:Addr) (x:List (List Nat)) (zx:List Nat),vs=[.ref r,.ref p]/\H r=some (.ins C dx [])/\Pc t H p x zx/\Clo x/\(wz wd [zx]).length<=1000000/\Oi C dx r H Q (mk x) (wz wd [zx])
theorem Us(T:Txt K mg t):Bd P w K mg base CX0 6 t.GK t.KR ["self", "inner"] (AhM K t t.Jl baW back):=by
 refine T.Lp.F.ok TX (λvs H Q E h=>?_) (λcdv A outer s H vs Q E hr h=>?_)
 ·obtain⟨r,dx,p,x,zx,rfl,_⟩:=h
  rfl
 ·obtain⟨r,dx,p,x,zx,rfl,h1,hp,C,hw,k⟩:=h
  refine⟨_,(Ad (Bp (Wo (Ck (v:=.ref t.Ez) rfl T.Wx rfl) T.RX ((Ek T).mono (by decide)) hr T.Dv.b .nil By (Aa (pv 0) (Aa (Bb T.Aeo (AdF T) hr (Aa (LR (K:=K) rfl (pv 1) ((Ih T).mono (by decide)) hr T.Gm.b By) Ab)) (Aa (Bb T.written (Qz T) hr (Aa Am (Aa (CJ (Aa (LR (K:=K) rfl (pv 1) ((PN T).mono (by decide)) hr T.Kw.b By) Ab)) Ab))) Ab)))))),?_⟩
  have x40:=C.n40
  have AdJ:=C.m40
  refine⟨rfl,_,rfl,_,rfl,YM T hp λl1 nl1=>?_⟩
  obtain⟨H1,e9,s1,hl1⟩:=nu9 (o:=.lst (vS x)) (.refl _) nl1
  rw[e9]
  refine⟨l1,x,wdt x,x.length,rfl,SqL.of hl1,C,λl8 H9 s9 nl8 hl8=>?_⟩
  have u8:=s1.trans s9
  refine⟨_,rfl,AeD T (hp.mono u8) ?_⟩
  refine⟨(by show 1<=sizeLine;decide),λp9 np9=>?_⟩
  have v9:Ar H9 (upd H9 p9 (.lst (vS [zx]))):=.upd np9
  have hp9:(upd H9 p9 (.lst (vS [zx]))) p9=some (.lst (vS [zx])):=Ae
  rw[show(upd H9 p9 (.lst [V.str (tx zx)]))=upd H9 p9 (.lst (vS [zx])) from rfl]
  generalize upd H9 p9 (.lst (vS [zx]))=Ha at v9 hp9 ⊢
  refine⟨p9,baW,[zx],(by rw[AeC];rfl),SqL.of hp9,(by simp),hw,?_⟩
  refine⟨t.Jl,r,dx,l8,_,_,rfl,(u8.trans v9) _ _ h1,T.Ad5.c,T.PL,T.Lj,SqL.of (v9 _ _ hl8),λl hl=>?_⟩
  exact k.fin (u8.trans v9) h1 hl
theorem Oj(T:Txt K mg t):Bd P w K mg base CX0 6 t.Fe t.HJ ["self", "inner"] (AhM K t t.DW quW (λx=>GZ x (wdt x))):=by
 refine T.Ig.F.ok Og (λvs H Q E h=>?_) (λcdv A outer s H vs Q E hr h=>?_)
 ·obtain⟨r,dx,p,x,zx,rfl,_⟩:=h
  rfl
 ·obtain⟨r,dx,p,x,zx,rfl,h1,hp,C,hw,k⟩:=h
  refine⟨_,(Ad (Bp (Wo (Ck (v:=.ref t.Ez) rfl T.Wx rfl) T.RX ((Ek T).mono (by decide)) hr T.Dv.b .nil By (Aa (pv 0) (Aa (Bb T.Ym (Zr T) hr (Aa (LR (K:=K) rfl (pv 1) ((Ih T).mono (by decide)) hr T.Gm.b By) Ab)) (Aa (Bb T.written (Qz T) hr (Aa Am (Aa (CJ (Aa (LR (K:=K) rfl (pv 1) ((PN T).mono (by decide)) hr T.Kw.b By) Ab)) Ab))) Ab)))))),?_⟩
  have x40:=C.n40
  have AdJ:=C.m40
  refine⟨rfl,_,rfl,_,rfl,YM T hp λl1 nl1=>?_⟩
  obtain⟨H1,e9,s1,hl1⟩:=nu9 (o:=.lst (vS x)) (.refl _) nl1
  rw[e9]
  refine⟨l1,x,wdt x,x.length,rfl,SqL.of hl1,C,λl8 H9 s9 nl8 hl8=>?_⟩
  have u8:=s1.trans s9
  refine⟨_,rfl,AeD T (hp.mono u8) ?_⟩
  refine⟨(by show 1<=sizeLine;decide),λp9 np9=>?_⟩
  have v9:Ar H9 (upd H9 p9 (.lst (vS [zx]))):=.upd np9
  have hp9:(upd H9 p9 (.lst (vS [zx]))) p9=some (.lst (vS [zx])):=Ae
  rw[show(upd H9 p9 (.lst [V.str (tx zx)]))=upd H9 p9 (.lst (vS [zx])) from rfl]
  generalize upd H9 p9 (.lst (vS [zx]))=Ha at v9 hp9 ⊢
  refine⟨p9,quW,[zx],(by rw[Ajw];rfl),SqL.of hp9,(by simp),hw,?_⟩
  refine⟨t.DW,r,dx,l8,_,_,rfl,(u8.trans v9) _ _ h1,T.Ud.c,T.JM,T.Ib,SqL.of (v9 _ _ hl8),λl hl=>?_⟩
  exact k.fin (u8.trans v9) h1 hl
theorem Ut:((" " : Str))=tx [32]:=by decide +kernel
theorem Ajy:(("#." : Str))=tx [35,46]:=by decide +kernel
def Kz:List (List Nat):=[[114,111,119,115],[116,119,105,108,108],[115,97,116,105,110],[98,101,115,105,100,101],[97,98,111,118,101],[109,105,114,114,111,114],[117,112,101,110,100],[98,97,99,107],[113,117,97,114,116,101,114],[116,105,108,101],[98,108,111,99,107,115],[108,97,121]]
theorem AhN:(["rows", "twill", "satin", "beside", "above", "mirror", "upend", "back", "quarter", "tile", "blocks", "lay"]:List Str)=Kz.map tx:=by decide +kernel
theorem AfU(u:List Nat):Pat.isWord u=decide (u∈Kz):=by
 by_cases h:u∈Kz
 ·rw[zN h]
  simp only [Kz,Aqs,Aqt,or_false] at h
  rcases h with rfl | rfl | rfl | rfl | rfl | rfl | rfl | rfl | rfl | rfl | rfl | rfl <;> decide
 ·rw[zJ h]
  simp only [Kz,Aqs,Aqt,or_false,not_or] at h
  obtain⟨h1,h2,h3,h4,h5,h6,h7,h8,h9,h10,h11,h12⟩:=h
  unfold Pat.isWord Pat.wants Pat.Ej
  rw[zJ h1,if_neg (λz=>z.elim h2 h3),if_neg (λz=>z.elim h4 λz=>z.elim h5 h12),if_neg (λz=>z.elim h6 λz=>z.elim h7 λz=>z.elim h8 h9),if_neg h10,if_neg h11]
  rfl
def YQ:List Nat:=[97,98,99,100,101,102,103,104,105,106,107,108,109,110,111,112,113,114,115,116,117,118,119,120,121,122]
theorem AhO:(("abcdefghijklmnopqrstuvwxyz" : Str))=tx YQ:=by decide +kernel
theorem AlE(c:Nat):decide (c∈YQ)=Pat.letter c:=z6.mpr (by
 rw[show YQ=List.range' 97 26 from rfl,List.mem_range'_1]
 lia)
theorem in_words(u:List Nat):∀ ls:List (List Nat),inV (V.str (tx u)) ((ls.map tx).map V.str)=decide (u∈ls)
 | []=>rfl
 | a::ls=>by
  have ih:=in_words u ls
  unfold inV at ih ⊢
  rw[ApT,ApT,Arb,ih]
  by_cases h:u=a
  ·rw[h,zN (ApS)]
   have:eqV (V.str (tx a)) (V.str (tx a))=true:=Xf rfl
   rw[this,Bool.true_or]
  ·have e1:(eqV (V.str (tx a)) (V.str (tx u))=false)/\(eqV (V.str (tx u)) (V.str (tx a))=false):=⟨z5.mpr λz=>h (Fd z).symm,z5.mpr λz=>h (Fd z)⟩
   first | rw[e1.1] | rw[e1.2]
   rw[Bool.false_or]
   exact z6.mpr ⟨λz=>ApW _ z,λz=>(yH.mp z).elim (λz=>absurd z h) id⟩
def AfV:Sp:=λvs H Q _=>∃ u,vs=[.str (tx u)]/\u.length<=1000000/\∀ H',Ar H H'->Q (.bl (Pat.isName u)) H'
theorem Q0(T:Txt K mg t):Bd P w K mg base CX0 1 t.ZX t.ZZ ["text"] AfV:=by
 refine T.NB.F.ok XF (λvs H Q E h=>?_) (λcdv A outer s H vs Q E hr h=>?_)
 ·obtain⟨u,rfl,_⟩:=h
  rfl
 ·obtain⟨u,rfl,hu,k⟩:=h
  refine⟨_,(Ac (Be (PW.pt (pw_or (Al K3 (Ao Bt rfl T.BK Bq (Aa (pv 0) Ab)) Ag (Aw _)) (pw_or1 (Al Jr (Ao Bt rfl T.BK Bq (Aa (pv 0) Ab)) (Ck (v:=.int 20) rfl T.Y0.choose_spec ⟨_,rfl⟩) (Aw _)))))
    (Ad (An Ew))
    Aq)
   (Ad (An (Akz (Dm (Oo (K:=K)) (pv 0) (Ck (v:=.ref t.AaR) rfl T.AiZ rfl) rfl) (Aky (Ao (Ju (K:=K)) rfl T.Acw Xj (Aa (BR (cok [] ["sign"] XF) rfl (Xd (pv 0)) (λ_ _ _ _ _=>.nil) (λ_ _ _ _ _=>(Dm Nr (pv 0) (Ck (v:=.str "abcdefghijklmnopqrstuvwxyz") rfl T.Aap.choose_spec ⟨_,rfl⟩) rfl))) Ab))))))),?_⟩
  have zl:(tx u).length<=sizeLine:=by rw[Ai];exact big hu
  refine⟨_,rfl,_,rfl,zl,_,_,rfl,rfl,_,rfl,?_⟩
  rw[Ai]
  unfold Pat.isName at k
  refine GX (λc1=>?_) (λc1=>?_)
  ·refine JZ ?_
   rw[zJ (show ¬(1<=u.length/\u.length<=20) by lia)] at k
   exact k _ (.refl _)
  ·refine⟨_,rfl,_,rfl,zl,_,_,rfl,rfl,_,rfl,?_⟩
   rw[Ai]
   refine GX (λc2=>?_) (λc2=>?_)
   ·rw[zJ (show ¬(1<=u.length/\u.length<=20) by lia)] at k
    exact k _ (.refl _)
   ·rw[zN (show 1<=u.length/\u.length<=20 by lia),Arv,AfU] at k
    refine⟨_,rfl,_,_,rfl,.inr (T.Aja H),rfl,(by decide),_,rfl,?_⟩
    rw[AhN,in_words]
    show if (!decide (u∈Kz))=true then _ else _
    by_cases cw:u∈Kz
    ·rw[zN cw] at k ⊢
     refine DP ?_
     rw[Bool.not_true,Bool.and_false] at k
     exact k _ (.refl _)
    ·rw[zJ cw] at k ⊢
     refine JZ ?_
     rw[Bool.not_false,Bool.and_true] at k
     refine⟨_,rfl,_,rfl,?_⟩
     refine Xe (z:=tx u) (λi ys H2=>H2=H/\ys=vB ((u.take i).map Pat.letter)) ⟨rfl,rfl⟩ ?_ ?_ ?_ ?_
     ·rintro i ys H2 hi ⟨rfl,rfl⟩
      rw[Qi,ApO,Aqf]
      exact Arl _ _
     ·exact zl
     ·rintro i c ys H2 hi hc ⟨rfl,rfl⟩
      refine BZ.no ?_
      have hu':u[i]?=some c:=by
       rw[<- Ce u,zO]
       exact hc
      refine⟨_,rfl,_,_,rfl,rfl,?_⟩
      rw[AhO,Ss,AlE]
      exact CN.of hi ⟨rfl,by rw[Qj,Aqd,hu',ApV];rfl⟩
     ·rintro ys H2 q ⟨rfl,rfl⟩ hq
      refine⟨_,_,rfl,SqL.of Ae,?_⟩
      have e9:(((u.take (tx u).cps.size).map Pat.letter).all id)=u.all Pat.letter:=by
       rw[show(tx u).cps.size=u.length from Ai u,Aqk,List.all_map]
       rfl
      rw[e9]
      exact k _ (.upd hq)
theorem Abm{H H':Hp}{r dx q:Addr}{u:List Nat}{p:Nat}(s:CV r H H')(R:Rd t H' r dx u p)(h:H' q=none):H q=none/\q≠r:=by
 have n:q≠r:=λe=>by rw[e,R.1] at h;cases h
 refine⟨?_,n⟩
 cases e:H q with
 | none=>rfl
 | some o=>rw[s q o n e] at h;cases h
theorem YS{u a b:List Nat}{p:Nat}(hp:p<=u.length)(hd:u.drop p=a++b):p+a.length<=u.length/\u.drop (p+a.length)=b:=by
 have:=congrArg List.length hd
 rw[Aqx,ApQ] at this
 exact⟨by lia,by rw[<- Ara,hd,Arw]⟩
theorem Ni{H:Hp}{r dx:Addr}{u a b:List Nat}{p:Nat}(hR:Rd t H r dx u p)(hd:u.drop p=a++b):∃ H1,upd H r (.ins t.Bh dx (rf u (p+a.length)))=H1/\CV r H H1/\Rd t H1 r dx u (p+a.length)/\u.drop (p+a.length)=b :=
 ⟨_,rfl,CV.upd,⟨Ae,(YS hR.2.1 hd).1,hR.2.2⟩,(YS hR.2.1 hd).2⟩
theorem Oc{sg b:List Nat}(h:∀ c,b[0]?=some c->c∉sg):stp sg b=[]:=AaX (a:=[]) (λc hc=>by cases hc) h
theorem Akj{l:List Nat}{c:Nat}(h:l[0]?≠some c):l.take [c].length≠[c]:=λy=>h (by
 cases l with
 | nil=>cases y
 | cons d l=>cases y;rfl)
def AlF (t:Adr):Sp:=λvs H Q _=>∃ r dx u p a b,vs=[.ref r]/\Rd t H r dx u p/\u.drop p=a++b/\a≠[]/\(∀ c∈a,c∈[35,46])/\(∀ c,b[0]?=some c->c∉[35,46]/\c∉[32])/\∀ H',CV r H H'->Rd t H' r dx u (p+a.length)->Q (.str (tx a)) H'
theorem VL(T:Txt K mg t):Bd P w K mg base CX0 3 t.Yd t.Ye ["reader"] (AlF t):=by
 refine T.Yt.F.ok UL (λvs H Q E h=>?_) (λcdv A outer s H vs Q E hr h=>?_)
 ·obtain⟨r,dx,u,p,a,b,rfl,_⟩:=h
  rfl
 ·obtain⟨r,dx,u,p,a,b,rfl,hR,hd,ne,ha,hb,k⟩:=h
  refine⟨_,(Ac (Az (i:=1) UL.nd rfl (Or.inl rfl) (Dy (pv 0) T.Bj.c T.Ba.m ((BV T).mono (by decide)) hr T.Ba.b .nil By (Aa Am Ab)))
   (Ac (Be (Al Ca (pv 1) Am (Aw _))
    (Ad Bc)
    Aq)
   (Ac (Bp (Dy (pv 0) T.Bj.c T.Ba.m ((BV T).mono (by decide)) hr T.Ba.b .nil By (Aa Am Ab)))
   (Ad (An (pv 1)))))),?_⟩
  refine⟨_,rfl,r,dx,rf u p,rfl,hR.1,(CP u p).2.2.2,r,dx,u,p,_,(by rw[Ajy];rfl),hR,(by decide),?_⟩
  rw[hd,AaX ha λc hc=>(hb c hc).1]
  obtain⟨H1,e1,s1,R1,d1⟩:=Ni hR hd
  rw[e1]
  refine⟨_,rfl,rfl,_,rfl,?_⟩
  refine Cg (λz=>ne ?_) ?_
  ·have e:(("" : Str))=tx []:=by decide +kernel
   rw[e] at z
   injection z with z
   exact Fd z
  refine⟨_,rfl,r,dx,_,rfl,R1.1,(CP u _).2.2.2,r,dx,u,_,_,(by rw[Ut];rfl),R1,(by decide),?_⟩
  rw[d1,Oc λc hc=>(hb c hc).2]
  obtain⟨H2,e2,s2,R2,_⟩:=Ni (a:=[]) R1 d1
  rw[e2]
  exact⟨_,rfl,k H2 (s1.trans s2) R2⟩
def mr (ys:List (List Nat)):List Nat:=(ys.map λy=>[44]++y).flatten
theorem Akk{ys:List (List Nat)}{b:List Nat}{c:Nat}(h:(mr ys++(41::b))[0]?=some c):c∉[35,46]/\c∉[32]:=by
 cases ys with
 | nil=>cases h;decide
 | cons y ys=>cases h;decide
def Rn (rs:List (List Nat)):Prop:=rs≠[]/\rs.length<=40/\∀ y∈rs,y≠[]/\∀ c∈y,c∈[35,46]
def Ajz (t:Adr):Sp:=λvs H Q _=>∃ r dx u p rs b,vs=[.ref r]/\Rd t H r dx u p/\u.drop p=cj rs++(41::b)/\Rn rs/\∀ q H',CV r H H'->Rd t H' r dx u (p+(cj rs).length)->u.drop (p+(cj rs).length)=41::b->H q=none->H' q=some (.lst (vS rs))->Q (.ref q) H'
theorem Abn(T:Txt K mg t):Bd P w K mg base CX0 4 t.Vx t.Vy ["reader"] (Ajz t):=by
 refine T.NK.F.ok QV (λvs H Q E h=>?_) (λcdv A outer s H vs Q E hr h=>?_)
 ·obtain⟨r,dx,u,p,rs,b,rfl,_⟩:=h
  rfl
 ·obtain⟨r,dx,u,p,rs,b,rfl,hR,hd,⟨ne,l40,gd⟩,k⟩:=h
  have fin:=YS hR.2.1 hd
  obtain⟨y,ys,rfl⟩:∃ y ys,rs=y::ys:=by
   cases rs with
   | nil=>exact absurd rfl ne
   | cons y ys=>exact⟨y,ys,rfl⟩
  refine⟨_,(Ac (Az (i:=1) QV.nd rfl (Or.inl rfl) (CJ (Aa (Bb T.Yt (VL T) hr (Aa (pv 0) Ab)) Ab)))
   (Ac (Q5 PassesOwn.never (Cr (Dy (pv 0) T.Bj.c T.BL.m ((Dw T).mono (by decide)) hr T.BL.b .nil By (Aa Am Ab)))
    (Ac (Bp (Dy (pv 0) T.Bj.c T.Ba.m ((BV T).mono (by decide)) hr T.Ba.b .nil By (Aa Am Ab)))
    (Ad (Bp (Bo (K:=K) zM zL zQ Cq (pv 1) (Aa (Bb T.Yt (VL T) hr (Aa (pv 0) Ab)) Ab))))))
   (Ac (Be (Al Jr (Ao (Av (K:=K)) rfl T.BK Bq (Aa (pv 1) Ab)) (Ck (v:=.int 40) rfl T.Acz.choose_spec ⟨_,rfl⟩) (Aw _))
    (Ad Bc)
    Aq)
   (Ad (An (pv 1)))))),?_⟩
  have g0:=gd y ApS
  refine⟨_,rfl,r,dx,u,p,y,mr ys++(41::b),rfl,hR,(by rw[hd];unfold cj mr;rw[Aqz]),g0.1,g0.2,(λc=>Akk),λH1 s1 R1=>?_⟩
  refine⟨(by show 1<=sizeLine;decide),λq hq=>?_⟩
  have fq:=Abm s1 R1 hq
  have d1:u.drop (p+y.length)=mr ys++(41::b):=(YS hR.2.1 (by rw[hd];unfold cj mr;rw[Aqz])).2
  refine⟨λm σ H2=>∃ j,σ=[some (.ref r),some (.ref q)]/\CV r H H2/\j<=ys.length/\m=ys.length-j/\H2 q=some (.lst (vS (y::ys.take j)))/\∃ p2,Rd t H2 r dx u p2/\u.drop p2=mr (ys.drop j)++(41::b),
   ⟨_,0,rfl,(λb o nb e=>by rw[Ah (Ak e fq.1)];exact s1 b o nb e),Aqb _,rfl,Ae,_,⟨by rw[Ah fq.2.symm];exact R1.1,R1.2⟩,d1⟩,?_⟩
  rintro m σ H2 ⟨j,rfl,s2,hj,rfl,hq2,p2,R2,d2⟩
  cases e:ys.drop j with
  | nil =>
   have jl:ys.length<=j:=List.drop_eq_nil_iff.mp e
   rw[e] at d2
   refine⟨_,rfl,r,dx,_,rfl,R2.1,(CP u _).2.1,r,dx,u,p2,[44],(by rw[Ob];rfl),R2,(by decide),λy=>absurd y (Akj (by rw[d2];exact λz=>by cases z)),λ_=>?_⟩
   refine⟨_,rfl,DP ?_⟩
   rw[Aq1 jl] at hq2
   refine⟨_,rfl,_,_,rfl,.inl (SqL.of hq2),_,_,rfl,rfl,_,rfl,?_⟩
   rw[Ay]
   refine Cg (by lia) ?_
   refine⟨_,rfl,?_⟩
   have pe:p2=p+(cj (y::ys)).length:=by
    have h1:=congrArg List.length d2
    have h2:=congrArg List.length fin.2
    have h3:=R2.2.1
    rw[Aqx] at h1 h2
    have h4:(mr []++(41::b)).length=(41::b).length:=rfl
    have h5:(41::b).length=b.length+1:=rfl
    lia
   exact k q H2 s2 (pe▸R2) fin.2 fq.1 hq2
  | cons z zs =>
   have jl:j<ys.length:=by
    refine Nat.lt_of_not_le λc=>?_
    rw[List.drop_eq_nil_iff.mpr c] at e
    cases e
   have hz:ys[j]?=some z:=by rw[<- List.head?_drop,e];rfl
   have ez:ys.drop (j+1)=zs:=by rw[<- Ara,e];rfl
   rw[e] at d2
   have g1:=gd z (ApW _ (ApY hz))
   have d2':u.drop p2=[44]++(z++(mr zs++(41::b))):=by rw[d2];unfold mr;simp
   obtain⟨H3,e3,s3,R3,d3⟩:=Ni R2 d2'
   refine⟨_,rfl,r,dx,_,rfl,R2.1,(CP u _).2.1,r,dx,u,p2,[44],(by rw[Ob];rfl),R2,(by decide),λ_=>?_,λn=>absurd (by rw[d2'];rfl) n⟩
   rw[e3]
   refine⟨_,rfl,JZ ?_⟩
   refine⟨_,λσ' H' h=>h,?_⟩
   have nb:∀ c,(z++(mr zs++(41::b)))[0]?=some c->c∉[32]:=λc hc c32=>by
    obtain⟨f,zt,rfl⟩:∃ f zt,z=f::zt:=by
     cases z with
     | nil=>exact absurd rfl g1.1
     | cons f zt=>exact⟨f,zt,rfl⟩
    cases hc
    have:=g1.2 _ ApS
    revert this c32
    simp only [Aqs,Aqt,or_false]
    lia
   refine⟨_,rfl,r,dx,_,rfl,R3.1,(CP u _).2.2.2,r,dx,u,_,_,(by rw[Ut];rfl),R3,(by decide),?_⟩
   rw[d3,Oc nb]
   obtain⟨H4,e4,s4,R4,d4⟩:=Ni (a:=[]) R3 d3
   rw[e4]
   refine⟨_,rfl,.inl ⟨rfl,_,SqL.of (s4 _ _ fq.2 (s3 _ _ fq.2 hq2))⟩,_,rfl,r,dx,u,_,z,_,rfl,R4,d4,g1.1,g1.2,(λc=>Akk),λH5 s5 R5=>?_⟩
   refine⟨_,_,_,rfl,rfl,s5 _ _ fq.2 (s4 _ _ fq.2 (s3 _ _ fq.2 hq2)),(by rw[Ay,ApU,Aqf];exact Ar0 (show _<=50 by simp only [ApU] at l40;lia) (by decide)),?_⟩
   rw[Dc]
   refine⟨_,(by lia:ys.length-(j+1)<ys.length-j),j+1,rfl,(λc o nb eo=>?_),by lia,rfl,?_,_,⟨by rw[Ah fq.2.symm];exact R5.1,R5.2⟩,?_⟩
   ·rw[Ah (Ak eo fq.1)]
    exact s5 _ _ nb (s4 _ _ nb (s3 _ _ nb (s2 _ _ nb eo)))
   ·rw[Ae,Aqd,hz]
    rfl
   ·rw[ez]
    exact(YS R4.2.1 d4).2
theorem Akl{k:Nat}{CX:CXT}{f:Addr}{fd:FuncData}{ps:List Str}:Bd P w K mg base CX k f fd ps (λ_ _ _ _=>False):=⟨λ_ _ _ _ h=>h.elim,λ_ _ _ _ _ _ _ _ _ _ _ _ _ h=>h.elim⟩
inductive Fm where
 | nam (z:List Nat)
 | rows (rs:List (List Nat))
 | one (wd z:List Nat)
def Nm (z:List Nat):Prop:=(∀ c∈z,c∈YQ)/\Pat.isName z=true/\z.length<=20
def Fm.Ok:Fm->Prop
 | .nam z=>Nm z
 | .rows rs=>Rn rs
 | .one wd z=>(wd=baW\/wd=quW)/\Nm z
def Fm.word:Fm->List Nat
 | .nam z=>z
 | .rows _=>Pat.Ej
 | .one wd _=>wd
def Fm.inner:Fm->List Nat
 | .nam _=>[]
 | .rows rs=>cj rs
 | .one _ z=>z
def Fm.cmp:Fm->Bool
 | .nam _=>false
 | _=>true
def Fm.tail(f:Fm):List Nat:=if f.cmp=true then 40::(f.inner++[41]) else []
def Fm.In(H:Hp)(q:Addr):Fm->Prop
 | .nam _=>False
 | .rows rs=>H q=some (.lst (vS rs))
 | .one _ z=>∃ a,H q=some (.lst [.ref a])/\H a=some (.tup [.str (tx z),.non])
def Fm.At(H:Hp)(v:Addr)(f:Fm):Prop:=if f.cmp=true then ∃ q,H v=some (.tup [.str (tx f.word),.ref q])/\f.In H q else H v=some (.tup [.str (tx f.word),.non])
theorem Fm.In.keep{H H':Hp}{q:Addr}{f:Fm}(h:f.In H q)(s:∀ b o,H b=some o->(∀ C dx fs,o≠.ins C dx fs)->H' b=some o):f.In H' q:=by
 cases f with
 | nam z=>exact h
 | rows rs=>exact s _ _ h (λ_ _ _ e=>by cases e)
 | one wd z =>
  obtain⟨a,h1,h2⟩:=h
  exact⟨a,s _ _ h1 (λ_ _ _ e=>by cases e),s _ _ h2 (λ_ _ _ e=>by cases e)⟩
theorem Fm.Ok.word{f:Fm}(h:f.Ok):(∀ c∈f.word,c∈YQ)/\f.word.length<=20:=by
 cases f with
 | nam z=>exact⟨h.1,h.2.2⟩
 | rows rs=>exact(show(∀ c∈Pat.Ej,c∈YQ)/\Pat.Ej.length<=20 by decide)
 | one wd z =>
  rcases h.1 with rfl | rfl
  ·exact(show(∀ c∈baW,c∈YQ)/\baW.length<=20 by decide)
  ·exact(show(∀ c∈quW,c∈YQ)/\quW.length<=20 by decide)
def Aay (t:Adr)(D:Nat)(B:Fm->Prop):Sp:=λvs H Q _=>∃(r dx:Addr) (u:List Nat) (p:Nat) (f:Fm) (b:List Nat) (dep:Nat),vs=[.ref r,.str (tx f.word),.int (dep:Int)]/\B f/\f.Ok/\f.cmp=true/\dep<=D/\Rd t H r dx u p/\u.drop p=f.inner++(41::b) /\
 ∀ q H',CV r H H'->Rd t H' r dx u (p+f.inner.length)->u.drop (p+f.inner.length)=41::b->H q=none->f.In H' q->Q (.ref q) H'
def Wy (t:Adr)(D:Nat)(B:Fm->Prop):Sp:=λvs H Q _=>∃(r dx:Addr) (u:List Nat) (p:Nat) (f:Fm) (b:List Nat) (dep:Nat),vs=[.ref r,.int (dep:Int)]/\B f/\f.Ok/\dep<=D/\Rd t H r dx u p/\u.drop p=f.word++(f.tail++b)/\(∀ c,b[0]?=some c->c∉YQ/\c∉[32]/\c≠40) /\
 ∀ v H',CV r H H'->Rd t H' r dx u (p+(f.word++f.tail).length)->u.drop (p+(f.word++f.tail).length)=b->H v=none->f.At H' v->Q (.ref v) H'
theorem Tc{D k:Nat}{B:Fm->Prop}(hD:D<=11)(hk:2<=k)(T:Txt K mg t)(Zu:Bd P w K mg base CX0 k t.Jm t.Jo ["reader", "word", "depth"] (Aay t (D+1) B)):Bd P w K mg base CX0 (k+1) t.Gv t.Gw ["reader", "depth"] (Wy t D B):=by
 refine T.JK.F.ok Kl (λvs H Q E h=>?_) (λcdv A outer s H vs Q E hr h=>?_)
 ·obtain⟨r,dx,u,p,f,b,dep,rfl,_⟩:=h
  rfl
 ·obtain⟨r,dx,u,p,f,b,dep,rfl,hB,ok,Ans,hR,hd,hb,k⟩:=h
  refine⟨_,(Ac (Be (Al Jr (pv 1) (Ck (v:=.int 12) rfl T.Qt.choose_spec ⟨_,rfl⟩) (Aw _))
    (Ad Bc)
    Aq)
   (Ac (Az (i:=2) Kl.nd rfl (Or.inl rfl) (Dy (pv 0) T.Bj.c T.Ba.m ((BV T).mono (by lia)) hr T.Ba.b .nil By (Aa (Ck (v:=.str "abcdefghijklmnopqrstuvwxyz") rfl T.Aap.choose_spec ⟨_,rfl⟩) Ab)))
   (Ac (Bp (Dy (pv 0) T.Bj.c T.Ba.m ((BV T).mono (by lia)) hr T.Ba.b .nil By (Aa Am Ab)))
   (Ac (Be (Dg (Cr (Dy (pv 0) T.Bj.c T.BL.m ((Dw T).mono (by lia)) hr T.BL.b .nil By (Aa Am Ab))))
    (Ac (Be (Dg (Cr (Ed ((Q0 T).mono (by lia)) hr rfl T.NB.m T.NB.F.kp T.NB.b .nil By (Aa (pv 2) Ab))))
     (Ad Bc)
     Aq)
    (Ad (An (Je (Aa (pv 2) (Aa WD Ab))))))
    Aq)
   (Ac (Bp (Dy (pv 0) T.Bj.c T.Ba.m ((BV T).mono (by lia)) hr T.Ba.b .nil By (Aa Am Ab)))
   (Ac (Az (i:=3) Kl.nd rfl (Or.inl rfl) (Ed (Zu.mono (by lia)) hr rfl T.IK.m T.IK.F.kp T.IK.b .nil By (Aa (pv 0) (Aa (pv 2) (Aa (Bx Eu (pv 1) Ag) Ab)))))
   (Ac (Be (Dg (Cr (Dy (pv 0) T.Bj.c T.BL.m ((Dw T).mono (by lia)) hr T.BL.b .nil By (Aa Am Ab))))
    (Ad Bc)
    Aq)
   (Ac (Bp (Dy (pv 0) T.Bj.c T.Ba.m ((BV T).mono (by lia)) hr T.Ba.b .nil By (Aa Am Ab)))
   (Ad (An (Je (Aa (pv 2) (Aa (pv 3) Ab))))))))))))),?_⟩
  refine⟨_,rfl,_,_,rfl,rfl,_,rfl,?_⟩
  refine Cg (by lia) ?_
  have tb:∀ c,(f.tail++b)[0]?=some c->c∉YQ/\c∉[32]:=λc hc=>by
   unfold Fm.tail at hc
   cases e:f.cmp with
   | true=>rw[e,if_pos rfl] at hc;cases hc;decide
   | false=>rw[e,if_neg (λz=>nomatch z)] at hc;exact⟨(hb c hc).1,(hb c hc).2.1⟩
  obtain⟨H1,e1,s1,R1,d1⟩:=Ni hR hd
  refine⟨_,rfl,r,dx,rf u p,rfl,hR.1,(CP u p).2.2.2,r,dx,u,p,YQ,(by rw[AhO];rfl),hR,(by decide),?_⟩
  rw[hd,AaX ok.word.1 λc hc=>(tb c hc).1,e1]
  obtain⟨H2,e2,s2,R2,d2⟩:=Ni (a:=[]) R1 d1
  refine⟨_,rfl,r,dx,_,rfl,R1.1,(CP u _).2.2.2,r,dx,u,_,_,(by rw[Ut];rfl),R1,(by decide),?_⟩
  rw[d1,Oc λc hc=>(tb c hc).2,e2]
  have s12:=s1.trans s2
  cases ec:f.cmp with
  | false =>
   have et:f.tail=[]:=by unfold Fm.tail;rw[ec,if_neg λz=>nomatch z]
   rw[et] at d2 k
   rw[Aqv] at k
   refine⟨_,rfl,r,dx,_,rfl,R2.1,(CP u _).2.1,r,dx,u,_,[40],(by rw[SN];rfl),R2,(by decide),λy=>absurd y (Akj (by rw[d2];exact λz=>(hb 40 z).2.2 rfl)),λ_=>?_⟩
   refine⟨_,rfl,JZ ?_⟩
   have nm:Nm f.word:=by
    cases f with
    | nam z=>exact ok
    | rows rs=>cases ec
    | one wd z=>cases ec
   refine⟨_,rfl,f.word,rfl,(by have:=nm.2.2;lia),λH3 s3=>?_⟩
   rw[nm.2.1]
   refine⟨_,rfl,DP ?_⟩
   refine⟨_,rfl,(by show 2<=sizeLine;decide),λv nv=>?_⟩
   have sH:CV r H H3:=s12.trans (Ahp s3)
   have R3:Rd t H3 r dx u _:=⟨s3 _ _ R2.1,R2.2⟩
   have fv:=Abm sH R3 nv
   refine k v _ (λb o nb e=>by rw[Ah (Ak e fv.1)];exact sH b o nb e) ⟨by rw[Ah fv.2.symm];exact R3.1,R3.2⟩ d2 fv.1 ?_
   unfold Fm.At
   rw[ec,if_neg λz=>nomatch z]
   exact Ae
  | true =>
   have et:f.tail=40::(f.inner++[41]):=by unfold Fm.tail;rw[ec,if_pos rfl]
   rw[et] at d2 k
   have d2':u.drop (p+f.word.length+([]:List Nat).length)=[40]++(f.inner++(41::b)):=by rw[d2];simp
   obtain⟨H3,e3,s3,R3,d3⟩:=Ni R2 d2'
   refine⟨_,rfl,r,dx,_,rfl,R2.1,(CP u _).2.1,r,dx,u,_,[40],(by rw[SN];rfl),R2,(by decide),λ_=>?_,λn=>absurd (by rw[d2'];rfl) n⟩
   rw[e3]
   refine⟨_,rfl,DP ?_⟩
   have ib:∀ c,(f.inner++(41::b))[0]?=some c->c∉[32]:=λc hc c32=>by
    have:c=32:=by simpa using c32
    subst this
    cases f with
    | nam z=>cases ec
    | rows rs =>
     obtain⟨ne,_,gd⟩:=ok
     cases rs with
     | nil=>exact ne rfl
     | cons y ys =>
      have g:=gd y ApS
      cases y with
      | nil=>exact g.1 rfl
      | cons x y =>
       have:x=32:=Option.some.inj hc
       have:=g.2 x ApS
       simp at this
       lia
    | one wd z =>
     cases z with
     | nil=>cases hc
     | cons x z =>
      have e:x=32:=Option.some.inj hc
      have:=ok.2.1 x ApS
      rw[e] at this
      exact absurd this (by decide)
   obtain⟨H4,e4,s4,R4,d4⟩:=Ni (a:=[]) R3 d3
   refine⟨_,rfl,r,dx,_,rfl,R3.1,(CP u _).2.2.2,r,dx,u,_,_,(by rw[Ut];rfl),R3,(by decide),?_⟩
   rw[d3,Oc ib,e4]
   have sH4:=(s12.trans s3).trans s4
   refine⟨_,rfl,_,rfl,_,rfl,_,_,rfl,rfl,r,dx,u,_,f,b,dep+1,rfl,hB,ok,ec,by lia,R4,d4,λq H5 s5 R5 d5 nq hI=>?_⟩
   have sH5:=sH4.trans s5
   obtain⟨H6,e6,s6,R6,d6⟩:=Ni (a:=[41]) R5 d5
   refine⟨_,rfl,r,dx,_,rfl,R5.1,(CP u _).2.1,r,dx,u,_,[41],(by rw[Uq];rfl),R5,(by decide),λ_=>?_,λn=>absurd (by rw[d5];rfl) n⟩
   rw[e6]
   refine⟨_,rfl,DP ?_⟩
   obtain⟨H7,e7,s7,R7,d7⟩:=Ni (a:=[]) R6 d6
   refine⟨_,rfl,r,dx,_,rfl,R6.1,(CP u _).2.2.2,r,dx,u,_,_,(by rw[Ut];rfl),R6,(by decide),?_⟩
   rw[d6,Oc λc hc=>(hb c hc).2.1,e7]
   refine⟨_,rfl,_,rfl,(by show 2<=sizeLine;decide),λv nv=>?_⟩
   have sH:=(sH5.trans s6).trans s7
   have fv:=Abm sH R7 nv
   have pe:p+(f.word++40::(f.inner++[41])).length=p+f.word.length+([]:List Nat).length+[40].length+([]:List Nat).length+f.inner.length+[41].length+([]:List Nat).length:=by
    simp only [ApQ,ApU,Aqr]
    lia
   rw[pe] at k
   refine k v _ (λb o nb e=>by rw[Ah (Ak e fv.1)];exact sH b o nb e) ⟨by rw[Ah fv.2.symm];exact R7.1,R7.2⟩ d7 fv.1 ?_
   unfold Fm.At
   rw[ec,if_pos rfl]
   refine⟨q,Ae,hI.keep λb o e no=>?_⟩
   have nb:b≠r:=λz=>by rw[z,R5.1] at e;cases e;exact no _ _ _ rfl
   have e8:=s7 _ _ nb (s6 _ _ nb e)
   rw[Ah (Ak e8 nv)]
   exact e8
theorem YT{D k:Nat}{B:Fm->Prop}(hk:4<=k)(hN:∀ wd z,B (.one wd z)->B (.nam z))(T:Txt K mg t)(Nj:Bd P w K mg base CX0 k t.Gv t.Gw ["reader", "depth"] (Wy t D (λf=>f.cmp=false))):Bd P w K mg base CX0 (k+1) t.Jm t.Jo ["reader", "word", "depth"] (Aay t D B):=by
 refine T.IK.F.ok Hz (λvs H Q E h=>?_) (λcdv A outer s H vs Q E hr h=>?_)
 ·obtain⟨r,dx,u,p,f,b,dep,rfl,_⟩:=h
  rfl
 ·obtain⟨r,dx,u,p,f,b,dep,rfl,hB,ok,ec,Ans,hR,hd,k⟩:=h
  refine⟨_,(Ac (Be (Al Ca (pv 1) Am (Aw _))
    (Ad (An (Ed ((Abn T).mono (by lia)) hr rfl T.NK.m T.NK.F.kp T.NK.b .nil By (Aa (pv 0) Ab))))
    Aq)
   (Ac (Be (Akx (AbQ T.Ac1 (pv 1) (Ck (v:=.ref t.Rk) rfl T.Ac0 rfl)))
    (Ad Bc)
    Aq)
   (Ac (Az (i:=3) Hz.nd rfl (Or.inl rfl) (CJ Ab))
   (Ac (Cj PassesOwn.never rfl (Xd (Afs T.Ac1 (Ck (v:=.ref t.Rk) rfl T.Ac0 rfl) (pv 1) (λ_ _=>rfl))) (Br (i:=4) Hz.nd rfl (Or.inl rfl))
    (Ac (Be (Jt (K:=K) (pv 3) (λ_=>rfl))
     (Ad Bc)
     Aq)
    (Ad (Bp (Bo (K:=K) zM zL zQ Cq (pv 3) (Aa (Lw (Al Ca (pv 4) Am (Aw _)) (Ed (Nj.mono (by lia)) hr rfl T.JK.m T.JK.F.kp T.JK.b .nil By (Aa (pv 0) (Aa (pv 2) Ab))) AgX) Ab))))))
   (Ad (An (pv 3))))))),?_⟩
  refine⟨_,rfl,rfl,_,rfl,?_⟩
  cases f with
  | nam z=>cases ec
  | rows rs =>
   refine Ex (by rw[SX];rfl) ?_
   exact⟨_,rfl,r,dx,u,p,rs,b,rfl,hR,hd,ok,λq H1 s1 R1 d1 nq hq=>k q H1 s1 R1 d1 nq hq⟩
  | one wd z =>
   have nr:wd≠Pat.Ej:=by rcases ok.1 with rfl | rfl <;> decide
   refine Cg (λy=>nr ?_) ?_
   ·rw[SX] at y
    injection y with y
    exact Fd y
   have hlk:lk [("twill", "nn"),("satin", "nn"),("beside", "pp"),("above", "pp"),("mirror", "p"),("upend", "p"),("back", "p"),("quarter", "p"),("tile", "pnn"),("blocks", "ppp"),("lay", "pp")] (tx wd)=some (tx [112]):=by
    rcases ok.1 with rfl | rfl <;> decide +kernel
   refine⟨_,rfl,tx wd,rfl,rfl,_,rfl,?_⟩
   rw[hlk]
   refine DP ?_
   refine⟨(by decide),λq nq=>?_⟩
   have nqr:q≠r:=λz=>by rw[z,hR.1] at nq;cases nq
   refine⟨_,rfl,tx wd,_,rfl,rfl,hlk,_,rfl,?_⟩
   have R0:Rd t (upd H q (.lst [])) r dx u p:=⟨by rw[Ah nqr.symm];exact hR.1,hR.2⟩
   refine AdU (z:=tx [112]) (λi σ H2=>(i=0->H2=upd H q (.lst [])/\∃ v,σ=[some (.ref r),some (.str (tx wd)),some (.int (dep:Int)),some (.ref q),v])/\(i=1->∃ v a,σ=[some (.ref r),some (.str (tx wd)),some (.int (dep:Int)),some (.ref q),v]/\CV r H H2/\Rd t H2 r dx u (p+z.length)/\u.drop (p+z.length)=41::b/\H2 q=some (.lst [.ref a])/\H2 a=some (.tup [.str (tx z),.non]))) ⟨λ_=>⟨rfl,none,rfl⟩,λe=>(by cases e)⟩ ?_ ?_
   ·rintro i c σ H2 hc ⟨i0,_⟩
    have hi:i=0/\c=112:=by
     rw[Jf] at hc
     match i,hc with
     | 0,hc=>cases hc;exact⟨rfl,rfl⟩
     | i+1,hc=>cases hc
    obtain⟨rfl,rfl⟩:=hi
    obtain⟨rfl,v,rfl⟩:=i0 rfl
    refine⟨_,rfl,false,.inl ⟨[],SqL.of Ae,rfl⟩,?_⟩
    refine DP ?_
    refine⟨_,rfl,.inl ⟨rfl,_,SqL.of Ae⟩,_,rfl,rfl,_,rfl,?_⟩
    refine Ex (by decide +kernel) ?_
    refine⟨_,rfl,_,rfl,r,dx,u,p,.nam z,41::b,dep,rfl,rfl,ok.2,Ans,R0,hd,(λc hc=>by cases hc;decide),λa H3 s3 R3 d3 na hA=>?_⟩
    have lz:((Fm.nam z).word++(Fm.nam z).tail).length=z.length:=by simp[Fm.word,Fm.tail,Fm.cmp]
    rw[lz] at R3 d3
    have hq3:=s3 q _ nqr Ae
    refine⟨_,_,_,rfl,rfl,hq3,(by decide),?_⟩
    have naq:a≠q:=λe=>by rw[e,Ae] at na;cases na
    refine⟨λe=>(by cases e),λ_=>⟨_,a,rfl,λb o nb e=>?_,⟨by rw[Ah nqr.symm];exact R3.1,R3.2⟩,d3,Ae,by rw[Ah naq];exact hA⟩⟩
    rw[Ah (Ak e nq)]
    exact s3 b o nb (by rw[Ah (Ak e nq)];exact e)
   ·rintro σ H2 ⟨_,i1⟩
    obtain⟨v,a,rfl,s2,R2,d2,h1,h2⟩:=i1 rfl
    refine⟨_,rfl,?_⟩
    exact k q H2 s2 R2 d2 nq ⟨a,h1,h2⟩
def AhP (t:Adr):Sp:=λvs H Q _=>∃ f:Fm,vs=[.str (tx (f.word++f.tail))]/\f.Ok/\(f.word++f.tail).length<=1000000/\∀ v H',Ar H H'->f.At H' v->Q (.ref v) H'
theorem Zv(T:Txt K mg t):Bd P w K mg base CX0 8 t.RB t.RC ["text"] (AhP t):=by
 have N0:Bd P w K mg base CX0 4 t.Gv t.Gw ["reader", "depth"] (Wy t 2 (λf=>f.cmp=false)):=Tc (k:=3) (by decide) (by decide) T (Akl.imp λvs H Q E ⟨_,_,_,_,f,_,_,_,h1,_,h2,_⟩=>by rw[h1] at h2;cases h2)
 have Nj:Bd P w K mg base CX0 7 t.Gv t.Gw ["reader", "depth"] (Wy t 1 (λ_=>True)):=(Tc (k:=5) (by decide) (by decide) T (YT (k:=4) (by decide) (λ_ _ _=>trivial) T N0)).mono (by decide)
 refine T.Ys.F.ok Ji (λvs H Q E h=>?_) (λcdv A outer s H vs Q E hr h=>?_)
 ·obtain⟨f,rfl,_⟩:=h
  rfl
 ·obtain⟨f,rfl,ok,hu,k⟩:=h
  refine⟨_,(Ac (Az (i:=1) Ji.nd rfl (Or.inl rfl) (Gh T.Bj.m ((Fg T).mono (by decide)) hr rfl T.Y5 T.CT.b .nil By (Aa (pv 0) Ab)))
   (Ac (Bp (Dy (pv 1) T.Bj.c T.Ba.m ((BV T).mono (by decide)) hr T.Ba.b .nil By (Aa Am Ab)))
   (Ac (Az (i:=2) Ji.nd rfl (Or.inl rfl) (Bb T.JK Nj hr (Aa (pv 1) (Aa Ag Ab))))
   (Ac (Be (Dg (Cr (Hr (pv 1) T.Bj.c T.Cw.m ((Fb T).mono (by decide)) hr T.Cw.b .nil By)))
    (Ad Bc)
    Aq)
   (Ad (An (pv 2))))))),?_⟩
  refine⟨_,rfl,λr dx hr1 hdx hne=>⟨r,dx,f.word++f.tail,rfl,Ae,?_⟩⟩
  rw[JW]
  refine⟨rfl,?_⟩
  have s0:∀ H',CV r (upd (upd H dx (.own r)) r (.ins t.Bh dx (rf (f.word++f.tail) 0))) H'->Ar H H':=λH' sb b o e=>by
   have n1:=Ak e hr1
   refine sb b o n1 ?_
   rw[Ah n1,Ah (Ak e hdx)]
   exact e
  have R0:Rd t (upd (upd H dx (.own r)) r (.ins t.Bh dx (rf (f.word++f.tail) 0))) r dx (f.word++f.tail) 0:=⟨Ae,Aqb _,hu⟩
  generalize upd (upd H dx (.own r)) r (.ins t.Bh dx (rf (f.word++f.tail) 0))=H0 at s0 R0 ⊢
  have w0:∀ c,(f.word++f.tail)[0]?=some c->c∉[32]:=λc hc c32=>by
   have:c=32:=by simpa using c32
   subst this
   cases ew:f.word with
   | nil =>
    cases f with
    | nam z =>
     rw[show z=[] from ew] at ok
     exact absurd ok.2.1 (by decide)
    | rows rs=>cases ew
    | one wd z=>rcases ok.1 with rfl | rfl <;> cases ew
   | cons x l =>
    have h:=ok.word.1
    rw[ew] at h hc
    have e:x=32:=Option.some.inj hc
    have:=h x ApS
    rw[e] at this
    exact absurd this (by decide)
  obtain⟨H1,e1,s1,R1,d1⟩:=Ni (a:=[]) (b:=f.word++f.tail) R0 rfl
  refine⟨_,rfl,r,dx,_,rfl,R0.1,(CP _ _).2.2.2,r,dx,_,0,_,(by rw[Ut];rfl),R0,(by decide),?_⟩
  rw[Arq,Oc w0,e1]
  refine⟨_,rfl,r,dx,_,_,f,[],1,rfl,trivial,ok,(by decide),R1,(by rw[d1,Aqv]),(λc hc=>by cases hc),λv H2 s2 R2 d2 nv hA=>?_⟩
  refine⟨_,rfl,r,dx,_,rfl,R2.1,(CP _ _).1,r,dx,_,_,rfl,R2,?_⟩
  refine⟨_,rfl,?_⟩
  rw[zN (by simp only [Aqr];lia)]
  refine DP ?_
  exact⟨_,rfl,k v H2 (s0 H2 (s1.trans s2)) hA⟩
theorem AfW{r dx C:Addr}{H H':Hp}(h1:H r=none)(h2:H dx=none)(s:CV r (upd (upd H dx (.own r)) r (.ins C dx [])) H'):Ar H H':=λb o e=>by
 have n1:=Ak e h1
 refine s b o n1 ?_
 rw[Ah n1,Ah (Ak e h2)]
 exact e
theorem Wz{C r dx:Addr}{H:Hp}{Q:VK}{x:List (List Nat)}{z:List Nat}(k:∀ p H',Ar H H'->Pc t H' p x z->Q (.ref p) H')(hC:C∈pcs t)(h1:H r=none)(h2:H dx=none):Oi C dx r (upd (upd H dx (.own r)) r (.ins C dx [])) (λv H2=>v=.non/\Q (.ref r) H2) x z:=λl H' sb hl hl' hr'=>⟨rfl,k r H' (AfW h1 h2 sb) ⟨C,dx,l,hC,hr',hl'⟩⟩
theorem Td{r dx C:Addr}{H:Hp}(h1:H r=none)(h2:H dx=none):Ar H (upd (upd H dx (.own r)) r (.ins C dx [])):=λb o e=>by
 rw[Ah (Ak e h1),Ah (Ak e h2)]
 exact e
theorem Lr{a b:List Nat}(h:¬a=b):¬(V.str (tx a):V)=V.str (tx b):=λz=>h (by injection z with z;exact Fd z)
def Kn (H:Hp)(kp:Addr)(kn:Kns):Prop:=∃ as:List Addr,H kp=some (.lst (as.map V.ref))/\as.length=kn.length/\∀(i:Nat) (a:Addr) (p:List Nat × List (List Nat)),as[i]?=some a->kn[i]?=some p->∃ q,H a=some (.tup [.str (tx p.1),.ref q])/\H q=some (.lst (vS p.2))
theorem Kn.same{H H':Hp}{kp:Addr}{kn:Kns}(h:Kn H kp kn)(s:Ar H H'):Kn H' kp kn:=by
 obtain⟨as,h1,h2,h3⟩:=h
 refine⟨as,s _ _ h1,h2,λi a p g1 g2=>?_⟩
 obtain⟨q,e1,e2⟩:=h3 i a p g1 g2
 exact⟨q,s _ _ e1,s _ _ e2⟩
def AhQ:Sp:=λvs H Q _=>∃(z:List Nat) (kp:Addr) (kn:Kns) (x:List (List Nat)),vs=[.str (tx z),.ref kp]/\Kn H kp kn/\known kn z=.ok x/\∀ q,H q=some (.lst (vS x))->Q (.ref q) H
theorem Nk(T:Txt K mg t):Bd P w K mg base CX0 1 t.Pq t.Pr ["name", "known"] (AhQ):=by
 refine T.Gx.F.ok HB (λvs H Q E h=>?_) (λcdv A outer s H vs Q E hr h=>?_)
 ·obtain⟨z,kp,kn,x,rfl,_⟩:=h
  rfl
 ·obtain⟨z,kp,kn,x,rfl,⟨as,h1,h2,h3⟩,hx0,k1⟩:=h
  refine⟨_,(Ac (Cj PassesOwn.never rfl (Bf (K:=K) (pv 1)) (Aa5 rfl (Gn (Br (i:=2) HB.nd rfl (Or.inl rfl)) (Gn (Br (i:=3) HB.nd rfl (Or.inl rfl)) Wm)))
    (Ad (Be (Al Ca (pv 2) (pv 0) (Aw _))
     (Ad (An (pv 3)))
     Aq)))
   (Ad Bc)),?_⟩
  refine⟨_,rfl,_,rfl,⟨_,SqL.of h1⟩,Dd (K:=K) (a:=kp) (xs:=as.map V.ref) (λi σ H2=>∃ v1 v2,σ=[some (.str (tx z)),some (.ref kp),v1,v2]/\H2=H/\∀ p∈kn.take i,¬p.1=z) ⟨none,none,rfl,rfl,λp hp=>by simp at hp⟩ (λi σ H2 _ ⟨_,_,_,e,_⟩=>by rw[e];exact SqL.of h1) ?_ ?_⟩
  ·rintro i xv σ H2 hx ⟨v1,v2,rfl,rfl,no⟩
   rw[ApX] at hx
   cases ea:as[i]? with
   | none=>rw[ea] at hx;cases hx
   | some a =>
    rw[ea] at hx
    cases hx
    have hi:i<kn.length:=by rw[<- h2];exact(zC.mp ea).1
    have ep:=ApP hi
    obtain⟨q,e1,e2⟩:=h3 i a _ ea ep
    refine⟨a,_,rfl,SqT.of e1,rfl,_,_,rfl,_,_,rfl,rfl,?_⟩
    refine⟨_,rfl,_,rfl,rfl,_,rfl,?_⟩
    by_cases c:kn[i].1=z
    ·refine Ex (by rw[c]) ?_
     refine⟨_,rfl,k1 q ?_⟩
     unfold known at hx0
     have:kn.find? (λp=>decide (p.1=z))=some kn[i]:=by
      rw[List.find?_eq_some_iff_getElem]
      refine⟨by simpa using c,i,hi,rfl,λj hj=>?_⟩
      have:=no kn[j] (List.mem_iff_getElem?.mpr ⟨j,by rw[Ary hj];exact ApP (by lia)⟩)
      simpa using this
     rw[this] at hx0
     injection hx0 with hx0
     rw[<- hx0]
     exact e2
    ·refine Cg (Lr c) ?_
     refine⟨_,_,rfl,rfl,λp hp=>?_⟩
     rw[Aqd,ep] at hp
     rcases zG.mp hp with hp | hp
     ·exact no p hp
     ·rw[Ar7,Ar4] at hp
      rw[hp]
      exact c
  ·rintro σ H2 ⟨v1,v2,rfl,rfl,no⟩
   rw[ApO,h2,Aqk] at no
   unfold known at hx0
   have:kn.find? (λp=>decide (p.1=z))=none:=List.find?_eq_none.mpr λp hp=>by simpa using no p hp
   rw[this] at hx0
   cases hx0
def turn(wd:List Nat)(x:List (List Nat)):List (List Nat):=if wd=baW then back x else GZ x (wdt x)
theorem Aj0:(("mirror" : Str))=tx miW:=by decide +kernel
theorem Aj1:(("upend" : Str))=tx upW:=by decide +kernel
def Ant (t:Adr):Sp:=λvs H Q _=>∃(wd zx:List Nat) (x:List (List Nat)) (p:Addr),vs=[.str (tx wd),.ref p]/\(wd=baW\/wd=quW)/\Pc t H p x zx/\Clo x/\(wz wd [zx]).length<=1000000/\∀ p H',Ar H H'->Pc t H' p (turn wd x) (wz wd [zx])->Q (.ref p) H'
theorem YW(T:Txt K mg t):Bd P w K mg base CX0 8 t.Pu t.Px ["word", "inner"] (Ant t):=by
 refine T.IV.F.ok XN (λvs H Q E h=>?_) (λcdv A outer s H vs Q E hr h=>?_)
 ·obtain⟨z,zx,x,p,rfl,_⟩:=h
  rfl
 ·obtain⟨z,zx,x,p,rfl,hz,hp,C,hw,k⟩:=h
  refine⟨_,(Ac (Be (Al Ca (pv 0) Am (Aw _))
    (Ad Bc)
    Aq)
   (Ac (Be (Al Ca (pv 0) Am (Aw _))
    (Ad Bc)
    Aq)
   (Ac (Be (Al Ca (pv 0) Am (Aw _))
    (Ad (An (Gh T.Ad5.m ((Us T).mono (by decide)) hr rfl T.Alv T.Lp.b .nil By (Aa (pv 1) Ab))))
    Aq)
   (Ad (An (Gh T.Ud.m ((Oj T).mono (by decide)) hr rfl T.AfE T.Ig.b .nil By (Aa (pv 1) Ab))))))),?_⟩
  refine⟨_,rfl,rfl,_,rfl,?_⟩
  rw[Aj0]
  refine Cg (Lr (by rcases hz with rfl | rfl <;> decide)) ?_
  refine⟨_,rfl,rfl,_,rfl,?_⟩
  rw[Aj1]
  refine Cg (Lr (by rcases hz with rfl | rfl <;> decide)) ?_
  refine⟨_,rfl,rfl,_,rfl,?_⟩
  rw[AeC]
  rcases hz with rfl | rfl
  ·refine Ex rfl ?_
   exact⟨_,rfl,λr dx hr1 hdx hne=>⟨r,dx,p,x,zx,rfl,Ae,hp.mono (Td hr1 hdx),C,hw,Wz k (by simp[pcs]) hr1 hdx⟩⟩
  refine Cg (Lr (by decide)) ?_
  exact⟨_,rfl,λr dx hr1 hdx hne=>⟨r,dx,p,x,zx,rfl,Ae,hp.mono (Td hr1 hdx),C,hw,Wz k (by simp[pcs]) hr1 hdx⟩⟩
def Fm.val(kn:Kns)(x:List (List Nat)):Fm->Prop
 | .nam z=>known kn z=.ok x
 | .rows rs=>x=rs/\Clo x
 | .one wd z=>∃ y,known kn z=.ok y/\Clo y/\x=turn wd y
def AeE (t:Adr)(B:Fm->Prop):Sp:=λvs H Q _=>∃(f:Fm) (v kp:Addr) (kn:Kns) (x:List (List Nat)),vs=[.ref v,.ref kp]/\B f/\f.Ok/\(f.word++f.tail).length<=1000000/\f.At H v/\Kn H kp kn/\f.val kn x/\∀ p H',Ar H H'->Pc t H' p x (f.word++f.tail)->Q (.ref p) H'
theorem AlG(z:List Nat):cj [z]=z:=by unfold cj;simp
theorem PQ{k:Nat}(hk:7<=k){B:Fm->Prop}(T:Txt K mg t)(K1:Bd P w K mg base CX0 (k+1) t.Fw t.Fy ["node", "known"] (AeE t (λf=>f.cmp=false/\∃ wd z,B (.one wd z)))):Bd P w K mg base CX0 (k+2) t.Fw t.Fy ["node", "known"] (AeE t B):=by
 refine T.HY.F.ok Jj (λvs H Q E h=>?_) (λcdv A outer s H vs Q E hr h=>?_)
 ·obtain⟨f,v,kp,kn,x,rfl,_⟩:=h
  rfl
 ·obtain⟨f,v,kp,kn,x,rfl,hB,ok,hw,hA,hK,hv,k⟩:=h
  refine⟨_,(Ac (Be (Al Agm (Bg (Ef (K:=K)) (pv 0) Ag (λ_ _=>rfl)) WD (Aw _))
    (Ad (An (Gh T.AaS.m ((SQ T).mono (by lia)) hr rfl T.AiY T.JN.b .nil By (Aa (Bg (Ef (K:=K)) (pv 0) Ag (λ_ _=>rfl)) (Aa (Ed ((Nk T).mono (by lia)) hr rfl T.Gx.m T.Gx.F.kp T.Gx.b .nil By (Aa (Bg (Ef (K:=K)) (pv 0) Ag (λ_ _=>rfl)) (Aa (pv 1) Ab))) Ab)))))
    Aq)
   (Ac (Kd (i:=2) (cok [1] ["thing", "known"] Jj) rfl Jj.nd rfl rfl (Bf (K:=K) (Bg (Ef (K:=K)) (pv 0) Ag (λ_ _=>rfl))) (λ_ _ _ _ _=>.nil) (λ_ _ _ _ _=>(Lw (Cr (Ao (Nx (K:=K)) rfl T.Hm Gj (Aa (pv 0) (Aa (Wl (v:=.ty "tuple") rfl T.Aeq AbL rfl) Ab)))) (Ed (K1.mono (by lia)) hr rfl T.HY.m T.HY.F.kp T.HY.b .nil By (Aa (pv 0) (Aa (pv 1) Ab))) (pv 0))) rfl)
   (Ac (Be (Al Ca (Bg (Ef (K:=K)) (pv 0) Ag (λ_ _=>rfl)) Am (Aw _))
    (Ad (An (Gh T.Ad4.m ((Ur T).mono (by lia)) hr rfl T.Alu T.Ln.b .nil By (Aa (pv 2) Ab))))
    Aq)
   (Ac (Be (Al Ca (Ao (Av (K:=K)) rfl T.BK Bq (Aa (pv 2) Ab)) Ag (Aw _))
    (Ad (An (Ed ((YW T).mono (by lia)) hr rfl T.IV.m T.IV.F.kp T.IV.b .nil By (Aa (Bg (Ef (K:=K)) (pv 0) Ag (λ_ _=>rfl)) (Aa (Bg (Ax (K:=K)) (pv 2) Ag (λ_ _=>rfl)) Ab)))))
    Aq)
   (Ac (Be (Al Ca (Ao (Av (K:=K)) rfl T.BK Bq (Aa (pv 2) Ab)) Ag (Aw _))
    (Ad Bc)
    Aq)
   (Ad Bc)))))),?_⟩
  have hsz:sizeLine=16777216:=yA
  cases f with
  | nam z =>
   have hA:H v=some (.tup [.str (tx z),.non]):=hA
   refine⟨_,rfl,_,_,_,_,rfl,rfl,SqT.of hA,(show atI [V.str (tx z),V.non] 1=some V.non from rfl),rfl,_,rfl,?_⟩
   refine Ex rfl ?_
   have kk:∀ p H',Ar H H'->Pc t H' p x z->Q (.ref p) H':=λp H' s hp=>k p H' s (by simpa [Fm.word,Fm.tail,Fm.cmp] using hp)
   exact⟨_,rfl,_,_,_,_,rfl,rfl,SqT.of hA,(show atI [V.str (tx z),V.non] 0=some (V.str (tx z)) from rfl),_,rfl,_,_,_,_,rfl,rfl,SqT.of hA,(show atI [V.str (tx z),V.non] 0=some (V.str (tx z)) from rfl),_,rfl,z,kp,kn,x,rfl,hK,hv,λq hq=>λr dx hr1 hdx hne=>⟨r,dx,q,x,z,rfl,Ae,SqL.of (Td hr1 hdx _ _ hq),Wz kk (by simp[pcs]) hr1 hdx⟩⟩
  | rows rs =>
   obtain⟨q,hA,hq⟩:∃ q,H v=some (.tup [.str (tx Pat.Ej),.ref q])/\H q=some (.lst (vS rs)):=hA
   obtain⟨rfl,C⟩:=hv
   have c40:=C.n40
   have a0:atI [V.str (tx Pat.Ej),V.ref q] 0=some (.str (tx Pat.Ej)):=rfl
   have a1:atI [V.str (tx Pat.Ej),V.ref q] 1=some (.ref q):=rfl
   refine⟨_,rfl,_,_,_,_,rfl,rfl,SqT.of hA,a1,rfl,_,rfl,?_⟩
   refine Cg (λz=>nomatch z) ?_
   refine⟨_,rfl,_,_,_,_,rfl,rfl,SqT.of hA,a1,_,rfl,⟨_,SqL.of hq⟩,?_⟩
   refine Bu (K:=K) (a:=q) (xs:=vS x) (λi ys H2=>H2=H/\ys=vS (x.take i)) ⟨rfl,rfl⟩ ?_ ?_ ?_ ?_
   ·rintro i ys H2 hi ⟨rfl,rfl⟩
    refine⟨SqL.of hq,?_⟩
    rw[Ay,Aqf]
    exact Arl _ _
   ·rw[Ay]
    lia
   ·rintro i xv ys H2 hi hx ⟨rfl,rfl⟩
    refine BZ.no ?_
    obtain⟨u,hu,rfl⟩:=Dh hx
    refine⟨_,rfl,_,_,false,.str _,.inl ⟨_,rfl,rfl⟩,_,rfl,?_⟩
    refine DP ?_
    refine⟨_,rfl,?_⟩
    exact CN.of hi ⟨rfl,by rw[Aqd,hu];unfold vS;rw[ApV];rfl⟩
   ·rintro ys H2 l ⟨rfl,rfl⟩ hlN
    rw[Ay,Aqk]
    obtain⟨H3,e9,u3,hl3⟩:=nu9 (o:=.lst (vS x)) (.refl _) hlN
    rw[e9]
    refine⟨_,rfl,_,_,_,_,rfl,rfl,SqT.of (u3 _ _ hA),a0,rfl,_,rfl,?_⟩
    rw[SX]
    refine Ex rfl ?_
    exact⟨_,rfl,λr dx hr1 hdx hne=>⟨r,dx,l,x,_,_,rfl,Ae,SqL.of (Td hr1 hdx _ _ hl3),C,hw,Wz (λp H' s hp=>k p H' (u3.trans s) hp) (by simp[pcs]) hr1 hdx⟩⟩
  | one wd z =>
   obtain⟨q,hA,a,hq,ha⟩:∃ q,H v=some (.tup [.str (tx wd),.ref q])/\∃ a,H q=some (.lst [.ref a])/\H a=some (.tup [.str (tx z),.non]):=hA
   obtain⟨y,hy,C,rfl⟩:=hv
   have zl:=ok.2.2.2
   have a0:atI [V.str (tx wd),V.ref q] 0=some (.str (tx wd)):=rfl
   have a1:atI [V.str (tx wd),V.ref q] 1=some (.ref q):=rfl
   refine⟨_,rfl,_,_,_,_,rfl,rfl,SqT.of hA,a1,rfl,_,rfl,?_⟩
   refine Cg (λz=>nomatch z) ?_
   refine⟨_,rfl,_,_,_,_,rfl,rfl,SqT.of hA,a1,_,rfl,⟨_,SqL.of hq⟩,?_⟩
   refine Bu (K:=K) (a:=q) (xs:=[.ref a]) (λi ys H2=>Ar H H2/\ys.length=i/\(i=1->∃ p,ys=[.ref p]/\Pc t H2 p y z)) ⟨.refl _,rfl,λe=>(by cases e)⟩ ?_ ?_ ?_ ?_
   ·rintro i ys H2 hi ⟨s2,hl,_⟩
    exact⟨SqL.of (s2 _ _ hq),by lia⟩
   ·show 1<=sizeLine
    decide
   ·rintro i xv ys H2 hi hx ⟨s2,hl,_⟩
    have i0:i=0:=by have:i<1:=hi;lia
    subst i0
    have ye:ys=[]:=z9.mp hl
    subst ye
    cases hx
    refine BZ.no ?_
    refine⟨_,rfl,_,_,true,.tup (s2 _ _ ha),.inl ⟨_,rfl,Sy K _⟩,_,rfl,?_⟩
    refine JZ ?_
    refine⟨_,rfl,_,rfl,.nam z,a,kp,kn,y,rfl,⟨rfl,wd,z,hB⟩,ok.2,(by simp[Fm.word,Fm.tail,Fm.cmp];lia),s2 _ _ ha,hK.same s2,hy,λp H3 s3 hp=>?_⟩
    exact CN.of hi ⟨s2.trans s3,rfl,λ_=>⟨p,rfl,by simpa [Fm.word,Fm.tail,Fm.cmp] using hp⟩⟩
   ·rintro ys H2 l ⟨s2,hl,h1⟩ hlN
    obtain⟨p,rfl,hp⟩:=h1 rfl
    have u3:Ar H (upd H2 l (.lst [.ref p])):=s2.new hlN
    have p3:Pc t (upd H2 l (.lst [.ref p])) p y z:=hp.mono (Ar.upd hlN)
    have hl3:(upd H2 l (.lst [.ref p])) l=some (.lst [.ref p]):=Ae
    generalize upd H2 l (.lst [.ref p])=H3 at u3 p3 hl3 ⊢
    have nr:wd≠Pat.Ej:=by rcases ok.1 with rfl | rfl <;> decide
    refine⟨_,rfl,_,_,_,_,rfl,rfl,SqT.of (u3 _ _ hA),a0,rfl,_,rfl,?_⟩
    rw[SX]
    refine Cg (Lr nr) ?_
    refine⟨_,rfl,_,_,rfl,.inl (SqL.of hl3),rfl,_,rfl,?_⟩
    refine Ex rfl ?_
    have we:wz wd [z]=wd++(40::(z++[41])):=by unfold wz;rw[AlG]
    exact⟨_,rfl,_,_,_,_,rfl,rfl,SqT.of (u3 _ _ hA),a0,_,rfl,_,_,_,_,rfl,rfl,SqL.of hl3,(show atI [V.ref p] 0=some (V.ref p) from rfl),wd,z,y,p,rfl,ok.1,p3,C,(by rw[we];exact hw),λp4 H4 s4 hp4=>k p4 H4 (u3.trans s4) (we▸hp4)⟩
def Aj2 (t:Adr):Sp:=λvs H Q _=>∃(f:Fm) (kp:Addr) (kn:Kns) (x:List (List Nat)),vs=[.str (tx (f.word++f.tail)),.ref kp]/\f.Ok/\(f.word++f.tail).length<=1000000/\Kn H kp kn/\f.val kn x/\∀ p z H',Ar H H'->Pc t H' p x z->Q (.ref p) H'
theorem Wg(T:Txt K mg t):Bd P w K mg base CX0 11 t.My t.Mz ["text", "known"] (Aj2 t):=by
 have W0:Bd P w K mg base CX0 9 t.Fw t.Fy ["node", "known"] (AeE t (λf=>f.cmp=false)):=PQ (k:=7) (by decide) T (Akl.imp λvs H Q E ⟨f,_,_,_,_,_,h,_⟩=>by obtain⟨_,_,_,e⟩:=h;cases e)
 have K1:Bd P w K mg base CX0 10 t.Fw t.Fy ["node", "known"] (AeE t (λ_=>True)):=PQ (k:=8) (by decide) T (W0.imp λvs H Q E ⟨f,v,kp,kn,x,h0,h,r⟩=>⟨f,v,kp,kn,x,h0,h.1,r⟩)
 refine T.RW.F.ok Wa (λvs H Q E h=>?_) (λcdv A outer s H vs Q E hr h=>?_)
 ·obtain⟨f,kp,kn,x,rfl,_⟩:=h
  rfl
 ·obtain⟨f,kp,kn,x,rfl,ok,hl,hK,hv,k⟩:=h
  refine⟨_,(Ad (An (Bb T.HY K1 hr (Aa (Bb T.Ys (Zv T) hr (Aa (pv 0) Ab)) (Aa (pv 1) Ab))))),?_⟩
  exact⟨_,rfl,f,rfl,ok,hl,λv H1 s1 hA=>⟨_,rfl,f,v,kp,kn,x,rfl,trivial,ok,hl,hA,hK.same s1,hv,λp H2 s2 hp=>k p _ H2 (s1.trans s2) hp⟩⟩
end
def Hn (c:Nat):List Nat->List (List Nat)
 | []=>[[]]
 | a::u=>if a=c then []::Hn c u else match Hn c u with
  | []=>[[a]]
  | w::ws=>(a::w)::ws
theorem W5(c:Nat):∀ u,Hn c u≠[]
 | []=>by unfold Hn;simp
 | a::u=>by
  unfold Hn
  split
  ·simp
  ·split <;> simp
theorem Abo(c:Nat):∀ u,jn c (Hn c u)=u
 | []=>rfl
 | a::u=>by
  have ih:=Abo c u
  have ne:=W5 c u
  unfold Hn
  split
  ·rename_i h
   cases e:Hn c u with
   | nil=>exact absurd e ne
   | cons w ws=>rw[e] at ih;show[]++c::jn c (w::ws)=_;rw[ih,h];rfl
  ·cases e:Hn c u with
   | nil=>exact absurd e ne
   | cons w ws =>
    rw[e] at ih
    cases ws with
    | nil=>have ih:w=u:=ih;show a::w=_;rw[ih]
    | cons v r=>have ih:w++c::jn c (v::r)=u:=ih;show(a::w)++c::jn c (v::r)=_;rw[AqL,ih]
theorem AeF(c:Nat):∀ u,∀ w∈Hn c u,c∉w
 | [],w,h=>by unfold Hn at h;rw[zF.mp h];simp
 | a::u,w,h=>by
  have ih:=AeF c u
  unfold Hn at h
  split at h
  ·rcases yH.mp h with rfl | h
   ·simp
   ·exact ih w h
  ·rename_i ha
   split at h
   ·rw[zF.mp h]
    simp
    exact λz=>ha z.symm
   ·rename_i v ws e
    rcases yH.mp h with rfl | h
    ·rw[Aqs,not_or]
     exact⟨λz=>ha z.symm,ih v (by rw[e];simp)⟩
    ·exact ih w (by rw[e];simp[h])
theorem AcJ(c:Nat)(u:List Nat):((Hn c u).map List.length).sum+(Hn c u).length=u.length+1:=by
 have:∀ ws:List (List Nat),ws≠[]->(ws.map List.length).sum+ws.length=(jn c ws).length+1:=λws=>by
  induction ws with
  | nil=>exact λh=>absurd rfl h
  | cons w r ih =>
   intro _
   cases r with
   | nil=>simp[jn]
   | cons v r =>
    have:=ih (by simp)
    show((w::v::r).map List.length).sum+_=(w++c::jn c (v::r)).length+1
    rw[ApT,Aqm,ApQ,ApU (as:=v::r),ApU (as:=jn c (v::r))]
    omega
 have h:=this (Hn c u) (W5 c u)
 rw[Abo] at h
 exact h
def AhR (u:List Nat):List (List Nat):=(Hn 32 u).filter λw=>decide (¬w=[])
theorem AeG{u:List Nat}(h1:u.head?≠some 32)(h2:u.getLast?≠some 32):trim u=u:=by
 unfold trim
 have e1:u.dropWhile (λc=>decide (c=32))=u:=by
  cases u with
  | nil=>rfl
  | cons a u=>rw[List.dropWhile_cons_of_neg (by simpa using h1)]
 rw[e1]
 have e2:u.reverse.dropWhile (λc=>decide (c=32))=u.reverse:=by
  cases e:u.reverse with
  | nil=>rfl
  | cons a v =>
   rw[List.dropWhile_cons_of_neg]
   have:u.getLast?=some a:=by rw[<- List.head?_reverse,e];rfl
   rw[this] at h2
   simpa using h2
 rw[e2,Ar3]
theorem Te(u:List Nat):(trim u).length<=u.length:=by
 unfold trim
 rw[AqF]
 refine Aqn (Arx _).length_le ?_
 rw[AqF]
 exact(Arx _).length_le
section
variable {P:Program}{w:World}{K:W.Frag}{mg:Str->Option Value}{base:Heap}{t:Adr}
theorem Bs{i:Nat}{v v':V}{σ σ':St}{H:Hp}{Kt:St->Hp->Prop}(ev:v=v')(h:σ.set i (some v')=σ')(k:Kt σ' H):Jq i v σ H Kt:=by subst ev;subst h;exact k
theorem JT:(Str.ofString " ")=tx [32]:=by decide +kernel
theorem Od:(Str.ofString "\n")=tx [10]:=by decide +kernel
theorem AhS:(Str.ofString "?")=tx [63]:=by decide +kernel
theorem AfX:(Str.ofString ";")=tx [59]:=by decide +kernel
theorem AfY:(Str.ofString "=")=tx [61]:=by decide +kernel
theorem AfZ:(Str.ofString "=:")=tx [61,58]:=by decide +kernel
theorem JV:(Str.ofString "")=tx []:=by decide +kernel
theorem Aaz{u:List Nat}{k:Nat}(h:k<=u.length):Qh u (some (k:Int)) none=u.drop k:=by
 unfold Qh
 rw[HT.Nt,Arh h]
 exact Aq1 (by rw[Aqx];exact ApR _)
theorem AoD(u:List Nat):Qh u (some 1) none=u.tail:=by
 cases u with
 | nil=>decide +kernel
 | cons a u=>exact Aaz (k:=1) (by simp)
theorem AhT{c A B:Prop}[Decidable c](hc:¬c)(h:A):if (!decide c)=true then A else B:=by rw[zJ hc];exact JZ h
def AlH:Sp:=λvs H Q _=>∃(u:List Nat),vs=[.str (tx u)]/\u.length<=1000000/\∀ q H',Ar H H'->H' q=some (.lst (vS (AhR u)))->Q (.ref q) H'
theorem AcK(T:Txt K mg t):Bd P w K mg base CX0 1 t.Yg t.Yh ["text"] AlH:=by
 refine T.words_of.F.ok Va (λvs H Q E h=>?_) (λcdv A outer s H vs Q E hr h=>?_)
 ·obtain⟨u,rfl,_⟩:=h
  rfl
 ·obtain⟨u,rfl,hu,k⟩:=h
  refine⟨_,(Ad (An (BR (cok [] ["word"] Va) rfl (Bf (K:=K) (Bo (K:=K) zI zY z7 Ma (pv 0) (Aa Am Ab))) (λ_ _ _ _ _=>.one (Al GR (pv 0) Am (Aw _))) (λ_ _ _ _ _=>(pv 0))))),?_⟩
  rw[JT,JV]
  have hsz:sizeLine=16777216:=yA
  refine⟨_,rfl,rfl,u,32,Hn 32 u,rfl,rfl,(by decide),(by lia),W5 _ _,Abo _ _,AeF _ _,λl hl=>?_⟩
  obtain⟨H1,e9,s1,h1⟩:=nu9 (o:=.lst (vS (Hn 32 u))) (.refl _) hl
  rw[e9]
  have pl:(Hn 32 u).length<=u.length+1:=by have:=AcJ 32 u;lia
  refine⟨_,rfl,⟨_,SqL.of h1⟩,Bu (K:=K) (a:=l) (xs:=vS (Hn 32 u)) (λi ys H2=>H2=H1/\ys=vS (((Hn 32 u).take i).filter λw=>decide (¬w=[]))) ⟨rfl,rfl⟩ ?_ ?_ ?_ ?_⟩
  ·rintro i ys H2 hi ⟨rfl,rfl⟩
   refine⟨SqL.of h1,?_⟩
   rw[Ay]
   exact Aqn (AqB _ _) (by rw[Aqf];exact Arl _ _)
  ·rw[Ay];lia
  ·rintro i xv ys H2 hi hx ⟨rfl,rfl⟩
   obtain⟨x,hx2,rfl⟩:=Dh hx
   have et:(Hn 32 u).take (i+1)=(Hn 32 u).take i++[x]:=by rw[Aqd,hx2];rfl
   unfold BZ
   refine⟨_,rfl,rfl,_,rfl,?_⟩
   by_cases c:x=[]
   ·subst c
    refine Ht rfl ?_
    exact CN.of hi ⟨rfl,by rw[et,AqR];simp⟩
   ·refine AhT (Lr c) ?_
    refine⟨_,rfl,CN.of hi ⟨rfl,?_⟩⟩
    rw[et,AqR,AqS (by simpa using c)]
    unfold vS
    rw[ApV]
    rfl
  ·rintro ys H2 q ⟨rfl,rfl⟩ hq
   rw[Ay,Aqk]
   exact k q _ (s1.new hq) Ae
def AlI:Sp:=λvs H Q _=>∃(a b:List Nat) (c:Nat),vs=[.str (tx (a++c::b))]/\(∀ x∈a,¬(x=61\/x=58))/\(c=61\/c=58)/\∀ H',Ar H H'->Q (.int (a.length:Int)) H'
theorem Uu(T:Txt K mg t):Bd P w K mg base CX0 1 t.Lf t.Lg ["line"] AlI:=by
 refine T.PB.F.ok Ga (λvs H Q E h=>?_) (λcdv A outer s H vs Q E hr h=>?_)
 ·obtain⟨a,b,c,rfl,_⟩:=h
  rfl
 ·obtain⟨a,b,c,rfl,ha,hc,k⟩:=h
  refine⟨_,(Ac (Cj PassesOwn.never rfl (AgW rfl T.Acx (Aa (pv 0) Ab)) (Aa5 rfl (Gn (Br (i:=1) Ga.nd rfl (Or.inl rfl)) (Gn (Br (i:=2) Ga.nd rfl (Or.inl rfl)) Wm)))
    (Ad (Be (Al Nr (pv 2) Am rfl)
     (Ad (An (pv 1)))
     Aq)))
   (Ad Bc)),?_⟩
  rw[AfZ]
  refine⟨_,rfl,_,rfl,Af9 (u:=a++c::b) (λi σ H2=>∃ v1 v2,σ=[some (.str (tx (a++c::b))),v1,v2]/\Ar H H2/\i<=a.length) ⟨none,none,rfl,.refl _,Aqb _⟩ ?_ ?_⟩
  ·rintro i x σ H2 T0 hx ⟨v1,v2,rfl,s2,hi⟩ hT
   refine⟨T0,_,rfl,SqT.of Ae,rfl,_,_,rfl,_,_,rfl,rfl,?_⟩
   have s3:Ar H (upd H2 T0 (.tup [.int (i:Int),.str (tx [x])])):=s2.new hT
   generalize upd H2 T0 (.tup [.int (i:Int),.str (tx [x])])=H3 at s3 ⊢
   refine⟨_,rfl,_,_,rfl,rfl,?_⟩
   rw[<- LQ,Ss]
   refine⟨_,rfl,?_⟩
   by_cases e:i=a.length
   ·subst e
    rw[Aqi (ApR _),Aq5] at hx
    injection hx with hx
    subst hx
    refine Ex (by rcases hc with rfl | rfl <;> decide) ?_
    exact⟨_,rfl,k _ s3⟩
   ·have hi2:i<a.length:=by lia
    rw[Aqo hi2] at hx
    have:=ha x (ApY hx)
    refine Cg (λz=>this ?_) ⟨_,_,rfl,s3,hi2⟩
    simpa using z
  ·rintro σ H2 ⟨v1,v2,rfl,s2,hi⟩
   rw[ApQ,ApU] at hi
   lia
inductive Lk (kn:Kns):List Nat->List Nat × List (List Nat)->Prop
 | pat {a b nm:List Nat} {x:List (List Nat)} {f:Fm}:(∀ x∈a,¬(x=61\/x=58))->trim a=nm->Pat.isName nm=true->(∀ q∈kn,¬q.1=nm)->trim b=f.word++f.tail->f.Ok->f.val kn x->x≠[]->Lk kn (a++61::b) (nm,x)
 | dra {a b nm u0 u2:List Nat} {us:List (List Nat)} {th tr:List Int} {tss:List (List Int)}:(∀ x∈a,¬(x=61\/x=58))->trim a=nm->Pat.isName nm=true->(∀ q∈kn,¬q.1=nm)->trim b=drT u0 us u2->Wr u0 th->us.length=tss.length->(∀(i:Nat) (u:List Nat) (ks:List Int),us[i]?=some u->tss[i]?=some ks->Wr u ks)->Wr u2 tr->Ft th tss tr->wv th tss tr≠[]->Lk kn (a++58::b) (nm,wv th tss tr)
def AhU (t:Adr):Sp:=λvs H Q _=>∃(l:List Nat) (kp:Addr) (kn:Kns) (p:List Nat × List (List Nat)),vs=[.str (tx l),.ref kp]/\l.length<=1000000/\Kn H kp kn/\kn.length<=1000/\Lk kn l p/\∀ a q H',Ar H H'->H' a=some (.tup [.str (tx p.1),.ref q])->H' q=some (.lst (vS p.2))->Q (.ref a) H'
theorem Abp{c d:Nat}:∀{a a' b b':List Nat},(∀ x∈a,¬(x=61\/x=58))->(∀ x∈a',¬(x=61\/x=58))->(c=61\/c=58)->(d=61\/d=58)->a++c::b=a'++d::b'->a=a'/\c=d/\b=b'
 | [],[],b,b',_,_,_,_,e=>by cases e;exact⟨rfl,rfl,rfl⟩
 | [],y::a',b,b',_,h,hc,_,e=>by cases e;exact absurd hc (h c ApS)
 | x::a,[],b,b',h,_,_,hd,e=>by cases e;exact absurd hd (h d ApS)
 | x::a,y::a',b,b',h,h',hc,hd,e=>by
  have e1:=(List.cons.inj e).1
  obtain⟨r1,r2,r3⟩:=Abp (λz hz=>h z (ApW _ hz)) (λz hz=>h' z (ApW _ hz)) hc hd (List.cons.inj e).2
  exact⟨by rw[e1,r1],r2,r3⟩
theorem Abq(T:Txt K mg t):Bd P w K mg base CX0 12 t.V1 t.V3 ["line", "known"] (AhU t):=by
 refine T.Aaj.F.ok Fo (λvs H Q E h=>?_) (λcdv A outer s H vs Q E hr h=>?_)
 ·obtain⟨l,kp,kn,p,rfl,_⟩:=h
  rfl
 ·obtain⟨l,kp,kn,p,rfl,hl,hK,hkl,hL,k⟩:=h
  obtain⟨a,b,c,nm,rs,rfl,rfl,hc,ha,ena,hnm,hno⟩:∃ a b c nm rs,l=a++c::b/\p=(nm,rs)/\(c=61\/c=58)/\(∀ x∈a,¬(x=61\/x=58))/\trim a=nm/\Pat.isName nm=true/\∀ q∈kn,¬q.1=nm:=by
   cases hL with
   | pat h1 h2 h3 h4=>exact⟨_,_,_,_,_,rfl,rfl,.inl rfl,h1,h2,h3,h4⟩
   | dra h1 h2 h3 h4=>exact⟨_,_,_,_,_,rfl,rfl,.inr rfl,h1,h2,h3,h4⟩
  refine⟨_,(Ac (Az (i:=2) Fo.nd rfl (Or.inl rfl) (Bb T.PB (Uu T) hr (Aa (pv 0) Ab)))
   (Ac (Az (i:=3) Fo.nd rfl (Or.inr rfl) (Bo (K:=K) zI F.slot_str_strip F.type_str_strip QC (Gq Tw (pv 0) Nu (Gi (pv 2))) (Aa Am Ab)))
   (Ac (Be (Dg (Cr (Bb T.NB (Q0 T) hr (Aa (pv 3) Ab))))
    (Ad Bc)
    Aq)
   (Ac (Be (Cr (Ao (ZG (K:=K)) rfl T.AjY Agz (Aa (BR (cok [3] ["pair", "name"] Fo) rfl (Bf (K:=K) (pv 1)) (λ_ _ _ _ _=>.nil) (λ_ _ _ _ _=>(Dm Ca (Bg (Ef (K:=K)) (pv 0) Ag (λ_ _=>rfl)) (pv 1) (Aw _)))) Ab)))
    (Ad Bc)
    Aq)
   (Ac (Az (i:=4) Fo.nd rfl (Or.inl rfl) (Bo (K:=K) zI F.slot_str_strip F.type_str_strip QC (Gq Tw (pv 0) (Gi (Bx Eu (pv 2) Ag)) Nu) (Aa Am Ab)))
   (Ac (Be (Al Ca (Bg Hs (pv 0) (pv 2) (λ_ _=>rfl)) Am (Aw _))
    (Ad (An (Je (Aa (pv 3) (Aa (LR (K:=K) rfl (Bb T.RW (Wg T) hr (Aa (pv 4) (Aa (pv 1) Ab))) ((Ih T).mono (by decide)) hr T.Gm.b By) Ab)))))
    Aq)
   (Ad (An (Je (Aa (pv 3) (Aa (Bb T.AjX (AhG T) hr (Aa (Bb T.Yq (Zq T) hr (Aa (pv 4) Ab)) Ab)) Ab))))))))))),?_⟩
  dsimp only at k
  rw[JT,AfY]
  have hsz:sizeLine=16777216:=yA
  have hl2:=hl
  rw[ApQ,ApU] at hl2
  refine⟨_,rfl,a,b,c,rfl,ha,hc,λH1 s1=>?_⟩
  refine Bs rfl rfl ?_
  have ec:Qh (a++c::b) none (some (a.length:Int))=a:=by
   unfold Qh
   rw[HT.WW,HT.Nt,Arh (by simp),Nat.sub_zero,Arq,ArB (ApR _),Aqk]
  refine⟨_,rfl,_,rfl,_,rfl,_,rfl,big hl,?_⟩
  rw[ec]
  refine⟨rfl,_,_,rfl,rfl,(by rw[Ai];lia),?_⟩
  rw[Wu,ena]
  refine Bs rfl rfl ?_
  have hnl:nm.length<=1000000:=by have:=Te a;rw[ena] at this;lia
  refine⟨_,rfl,nm,rfl,hnl,λH2 s2=>⟨_,rfl,?_⟩⟩
  rw[hnm]
  refine DP ?_
  have u2:=s1.trans s2
  obtain⟨as,k1,k2,k3⟩:=hK.same u2
  refine⟨_,rfl,_,rfl,⟨_,SqL.of k1⟩,Bu (K:=K) (a:=kp) (xs:=as.map V.ref) (λi ys G=>G=H2/\ys=vB (List.replicate i false)) ⟨rfl,rfl⟩ ?_ ?_ ?_ ?_⟩
  ·rintro i ys G hi ⟨rfl,rfl⟩
   refine⟨SqL.of k1,?_⟩
   rw[Qi,AqO]
   exact ApR _
  ·rw[ApO,k2];lia
  ·rintro i xv ys G hi hx ⟨rfl,rfl⟩
   rw[ApX] at hx
   cases ea:as[i]? with
   | none=>rw[ea] at hx;cases hx
   | some q =>
    rw[ea] at hx
    cases hx
    have hi2:i<kn.length:=by rw[<- k2];exact(zC.mp ea).1
    obtain⟨q2,e1,e2⟩:=k3 i q _ ea (ApP hi2)
    have:=hno kn[i] (Aqq hi2)
    refine BZ.no ?_
    refine⟨_,rfl,_,_,_,_,rfl,rfl,SqT.of e1,BP (by decide) rfl,_,rfl,rfl,?_⟩
    rw[zJ (Lr this)]
    exact CN.of hi ⟨rfl,by rw[Qj,Ark]⟩
  ·rintro ys G q ⟨rfl,rfl⟩ hq
   refine⟨_,_,rfl,SqL.of Ae,?_⟩
   rw[show((List.replicate (as.map V.ref).length false).any id)=false by rw[List.any_eq_false];intro x hx;rw[List.eq_of_mem_replicate hx];decide]
   have u3:Ar H (upd G q (.lst (vB (List.replicate (as.map V.ref).length false)))):=u2.new hq
   generalize upd G q (.lst (vB (List.replicate (as.map V.ref).length false)))=H3 at u3 ⊢
   refine⟨_,rfl,DP ?_⟩
   have ed:Qh (a++c::b) (some ((a.length:Int)+1)) none=b:=by
    rw[show((a.length:Int)+1)=((a.length+1:Nat):Int) by lia,Aaz (by simp),List.drop_append]
    simp
   refine⟨_,rfl,_,rfl,_,_,rfl,rfl,_,rfl,_,rfl,big hl,?_⟩
   rw[ed]
   refine⟨rfl,_,_,rfl,rfl,(by rw[Ai];lia),?_⟩
   rw[Wu]
   refine Bs rfl rfl ?_
   have tb:=Te b
   refine⟨_,rfl,_,rfl,_,_,c,rfl,rfl,(by rw[Ai];exact big hl),BP (by lia) (by rw[Ce,Aqc,Aqi (ApR _),Aq5];rfl),rfl,_,rfl,?_⟩
   have fin:∀(l9:Addr) (H5:Hp) (q9:Addr),Ar H H5->H5 l9=some (.lst (vS rs))->H5 q9=none->Q (.ref q9) (upd H5 q9 (.tup [.str (tx nm),.ref l9])):=λl9 H5 q9 u5 h5 hq9=>k q9 l9 _ (u5.new hq9) Ae (by rw[Ah (Ak h5 hq9)];exact h5)
   generalize hp:(nm,rs)=p at hL
   generalize hz:a++c::b=z at hL
   cases hL with
   | @pat a' b' nm' x f h1 h2 h3 h4 h5 h6 h7 h8 =>
    cases hp
    obtain⟨rfl,rfl,rfl⟩:=Abp ha h1 hc (.inl rfl) hz
    refine Ex rfl ?_
    rw[h5]
    refine⟨_,rfl,_,rfl,_,rfl,f,kp,kn,rs,rfl,h6,(by rw[<- h5];lia),hK.same u3,h7,λpc zz H4 s4 hp=>?_⟩
    refine YM T hp λl9 hl9=>?_
    obtain⟨H5,e9,u5,h5⟩:=nu9 (o:=.lst (vS rs)) (u3.trans s4) hl9
    rw[e9]
    exact⟨(by show 2<=sizeLine;decide),λq9 hq9=>fin l9 H5 q9 u5 h5 hq9⟩
   | @dra a' b' nm' u0 u2 us th tr tss h1 h2 h3 h4 h5 h6 h7 h8 h9 h10 h11 =>
    cases hp
    obtain⟨rfl,rfl,rfl⟩:=Abp ha h1 hc (.inr rfl) hz
    refine Cg (by decide +kernel) ?_
    rw[h5]
    refine⟨_,rfl,_,rfl,u0,us,u2,th,tss,tr,rfl,h6,h7,h8,h9,h10,(by rw[<- h5];lia),λd dx a b c qs H4 s4 D=>?_⟩
    refine⟨d,dx,a,b,c,qs,th,tss,tr,rfl,D,h10,λl9 H5 s5 nl9 hl9=>?_⟩
    exact⟨(by show 2<=sizeLine;decide),λq9 hq9=>fin l9 H5 q9 ((u3.trans s4).trans s5) hl9 hq9⟩
inductive Bk:Kns->List (List Nat)->Kns->Prop
 | nil {kn:Kns}:Bk kn [] kn
 | line {kn kn':Kns} {l:List Nat} {ls:List (List Nat)} {p:List Nat × List (List Nat)}:¬(trim l).head?=some 59->Lk kn (trim l) p->p.2≠[]->Bk (kn++[p]) ls kn'->Bk kn (l::ls) kn'
def AhV (t:Adr):Sp:=λvs H Q _=>∃(bs:List (List Nat)) (kn:Kns),vs=[.str (tx (jn 10 bs))]/\(jn 10 bs).length<=1000000/\bs≠[]/\(∀ b∈bs,10∉b)/\bs.length<=900/\Bk [] bs kn/\∀ q H',Ar H H'->Kn H' q kn->Q (.ref q) H'
theorem AhW{c:Nat}{w:List Nat}:∀{ws:List (List Nat)},w∈ws->w.length<=(jn c ws).length
 | [],h=>by simp at h
 | [v],h=>by rw[zF.mp h];exact ApR _
 | v::x::r,h=>by
  show _<=(v++c::jn c (x::r)).length
  rw[ApQ,ApU]
  rcases yH.mp h with rfl | h
  ·lia
  ·have:=AhW (c:=c) h
   lia
theorem Abr(T:Txt K mg t):Bd P w K mg base CX0 13 t.Vz t.V0 ["text"] (AhV t):=by
 refine T.Aai.F.ok Hh (λvs H Q E h=>?_) (λcdv A outer s H vs Q E hr h=>?_)
 ·obtain⟨bs,kn,rfl,_⟩:=h
  rfl
 ·obtain⟨bs,kn,rfl,hu,hne,hno,hbl,hB,k⟩:=h
  obtain⟨u,hj⟩:∃ u,jn 10 bs=u:=⟨_,rfl⟩
  rw[hj] at hu ⊢
  refine⟨_,(Ac (Az (i:=1) Hh.nd rfl (Or.inl rfl) (CJ Ab))
   (Ac (Cj PassesOwn.never rfl (Bf (K:=K) (Bo (K:=K) zI zY z7 Ma (pv 0) (Aa Am Ab))) (Br (i:=2) Hh.nd rfl (Or.inl rfl))
    (Ac (Az (i:=3) Hh.nd rfl (Or.inl rfl) (Bo (K:=K) zI F.slot_str_strip F.type_str_strip QC (pv 2) (Aa Am Ab)))
    (Ad (Be (PW.pt (pw_and (Al GR (pv 3) Am (Aw _)) (pw_and1 (Dg (Cr (Bo (K:=K) zI F.slot_str_startswith F.type_str_startswith T7 (pv 3) (Aa Am Ab)))))))
     (Ad (Bp (Bo (K:=K) zM zL zQ Cq (pv 1) (Aa (Bb T.Aaj (Abq T) hr (Aa (pv 3) (Aa (pv 1) Ab))) Ab))))
     Aq))))
   (Ad (An (pv 1))))),?_⟩
  rw[Od,JT,AfX,JV]
  have hsz:sizeLine=16777216:=yA
  refine⟨(by show 0<=sizeLine;decide),λq hq=>?_⟩
  obtain⟨H1,e9,s1,h1⟩:=nu9 (o:=.lst []) (.refl _) hq
  rw[e9]
  refine Bs rfl rfl ?_
  refine⟨_,rfl,rfl,u,10,bs,rfl,rfl,(by decide),(by lia),hne,hj,hno,λl hl=>?_⟩
  have s2:Ar H1 (upd H1 l (.lst (vS bs))):=.upd hl
  have h2:(upd H1 l (.lst (vS bs))) l=some (.lst (vS bs)):=Ae
  have nql:q≠l:=Ak h1 hl
  have hlH:H l=none:=s1.free hl
  generalize upd H1 l (.lst (vS bs))=H2 at s2 h2 ⊢
  refine⟨_,rfl,⟨_,SqL.of h2⟩,Dd (K:=K) (a:=l) (xs:=vS bs) (λi σ G=>∃(v2 v3:Option V) (kq:Kns),σ=[some (.str (tx u)),some (.ref q),v2,v3]/\Ar H G/\G l=some (.lst (vS bs))/\Kn G q kq/\(∀ p∈kq,p.2≠[])/\kq.length<=i/\Bk kq (bs.drop i) kn) ⟨none,none,[],rfl,s1.trans s2,h2,⟨[],s2 _ _ h1,rfl,λi a p g=>by simp at g⟩,(λp hp=>by cases hp),Aqb _,hB⟩ (λi σ G _ ⟨_,_,_,_,_,h,_⟩=>SqL.of h) ?_ ?_⟩
  ·rintro i xv σ G hx ⟨v2,v3,kq,rfl,sG,hG,hK,nek,hkl,hB⟩
   obtain⟨b,hb,rfl⟩:=Dh hx
   have hi:=(zC.mp hb).1
   have ed:bs.drop i=b::bs.drop (i+1):=by
    rw[AqQ hi]
    have:=ApP hi
    rw[hb] at this
    injection this with this
    rw[<- this]
   rw[ed] at hB
   have bl:=AhW (c:=10) (ApY hb)
   rw[hj] at bl
   have tl:=Te b
   refine Bs rfl rfl ?_
   refine⟨_,rfl,rfl,_,_,rfl,rfl,(by rw[Ai];lia),?_⟩
   rw[Wu]
   refine Bs rfl rfl ?_
   refine⟨_,rfl,rfl,_,rfl,?_⟩
   cases hB with
   | @line _ _ _ _ p h59 hL pne hB =>
   have c1:¬trim b=[]:=λz=>by
    rw[z] at hL
    generalize e:([]:List Nat)=l0 at hL
    cases hL with
    | pat=>cases ‹List Nat› <;> simp at e
    | dra=>cases ‹List Nat› <;> simp at e
   refine AhT (Lr c1) ?_
   refine⟨_,rfl,rfl,_,_,rfl,rfl,?_⟩
   rw[T8]
   refine⟨_,rfl,?_⟩
   rw[zJ h59]
   refine JZ ?_
   have hK2:=hK
   have hqG:∃ zs,G q=some (.lst zs):=by obtain⟨as,g,_⟩:=hK2;exact⟨_,g⟩
   refine⟨_,rfl,hqG.elim λzs hz=>.inl ⟨rfl,_,SqL.of hz⟩,_,rfl,_,rfl,trim b,q,kq,p,rfl,(by lia),hK2,(by lia),hL,λa9 q9 G' s' n1 n2=>?_⟩
   obtain⟨as,g1,g2,g3⟩:=hK
   have sG':=sG.trans s'
   have hq':G' q=some (.lst (as.map V.ref)):=s' _ _ g1
   refine⟨q,_,_,rfl,rfl,hq',(by rw[ApO,g2];lia),?_⟩
   have sF:Ar H (upd G' q (.lst (as.map V.ref++[.ref a9]))):=λb o e=>by
    rw[Ah (Ak e hq)];exact sG' b o e
   have lq:l≠q:=λz=>nql z.symm
   have ntq:∀{b:Addr} {zs:List V},G' b=some (.tup zs)->b≠q:=λe z=>by rw[z,hq'] at e;cases e
   have nlq:∀{b:Addr} {y:List (List Nat)},y≠[]->G' b=some (.lst (vS y))->b≠q:=λ{b y} ny e z=>by
    rw[z,hq'] at e
    injection e with e
    injection e with e
    cases y with
    | nil=>exact ny rfl
    | cons y0 yr =>
     cases as with
     | nil=>cases e
     | cons a0 ar=>cases e
   refine⟨_,_,kq++[p],rfl,sF,by rw[Ah lq];exact s' _ _ hG,⟨as++[a9],by rw[Ae,ApV];rfl,by rw[ApQ,ApQ,g2];rfl,λj a p' e1 e2=>?_⟩,λp' hp'=>?_,by rw[ApQ,Aq0];lia,hB⟩
   ·by_cases cj:j<as.length
    ·rw[Aqo cj] at e1
     rw[Aqo (by rw[<- g2];exact cj)] at e2
     obtain⟨q8,f1,f2⟩:=g3 j a p' e1 e2
     have f1':=s' _ _ f1
     have f2':=s' _ _ f2
     exact⟨q8,by rw[Ah (ntq f1')];exact f1',by rw[Ah (nlq (nek p' (ApY e2)) f2')];exact f2'⟩
    ·rw[Aqi (by lia)] at e1
     rw[Aqi (by rw[<- g2];lia),<- g2] at e2
     have j0:j-as.length=0:=by
      have:=(zC.mp e1).1
      rw[Aq0] at this
      lia
     rw[j0] at e1 e2
     cases e1
     cases e2
     exact⟨q9,by rw[Ah (ntq n1)];exact n1,by rw[Ah (nlq pne n2)];exact n2⟩
   ·rcases zG.mp hp' with h | h
    ·exact nek p' h
    ·rw[zF.mp h];exact pne
  ·rintro σ G ⟨v2,v3,kq,rfl,sG,hG,hK,nek,hkl,hB⟩
   rw[Ay,List.drop_length] at hB
   cases hB
   exact⟨_,rfl,k q G sG hK⟩
def AlJ:Sp:=λvs H Q _=>vs=[.bl true]/\Q .non H
theorem Ol(T:Txt K mg t):Bd P w K mg base CX0 1 t.HR t.HS ["fits"] AlJ:=by
 refine T.Er.F.ok Oe (λvs H Q E h=>?_) (λcdv A outer s H vs Q E hr h=>?_)
 ·obtain⟨rfl,_⟩:=h
  rfl
 ·obtain⟨rfl,k1⟩:=h
  exact⟨_,(Ad (Be (Dg (Jt (K:=K) (pv 0) (λ_=>rfl)))
    (Ad Bc)
    Aq)),_,rfl,_,rfl,DP k1⟩
def AlK:Sp:=λvs H Q _=>∃(u:List Nat),vs=[.str (tx u)]/\u.length<=1000000/\Pat.isName u=true/\∀ H',Ar H H'->Q .non H'
theorem Zw(T:Txt K mg t):Bd P w K mg base CX0 2 t.RD t.RG ["word"] AlK:=by
 refine T.Yv.F.ok Ze (λvs H Q E h=>?_) (λcdv A outer s H vs Q E hr h=>?_)
 ·obtain⟨u,rfl,_⟩:=h
  rfl
 ·obtain⟨u,rfl,hu,e,k1⟩:=h
  refine⟨_,(Ad (Be (Dg (Cr (Bb T.NB (Q0 T) hr (Aa (pv 0) Ab))))
    (Ad Bc)
    Aq)),?_⟩
  refine⟨_,rfl,u,rfl,hu,λH' s'=>⟨_,rfl,?_⟩⟩
  rw[e]
  exact DP (k1 _ s')
def clW:List Nat:=[99,108,111,116,104]
def Anu:List Nat:=[108,97,121,101,114,115]
def drW:List Nat:=[100,114,97,102,116]
theorem Aj3:(Str.ofString "cloth")=tx clW:=by decide +kernel
theorem Aj4:(Str.ofString "layers")=tx Anu:=by decide +kernel
theorem AeH:(Str.ofString "draft")=tx drW:=by decide +kernel
def Dr (x:List (List Nat))(u:List Nat):Prop:=∃ tss,Lts x (wdt x) tss/\Ft (nts (num (cols x (wdt x)))) tss (nts (num x))/\Sw (nts (num (cols x (wdt x))))/\(∀ ks∈tss,Sw ks)/\Sw (nts (num x))/\u=drT (shI (nts (num (cols x (wdt x))))) (tss.map shI) (shI (nts (num x)))
def AnD (H:Hp)(a:Addr)(x:List (List Nat)):Prop:=∃ u,H a=some (.tup [.str (tx drW),.str (tx u)])/\Dr x u
theorem AnD.same{H H':Hp}{a:Addr}{x:List (List Nat)}(h:AnD H a x)(s:Ar H H'):AnD H' a x:=by
 obtain⟨u,h1,h2⟩:=h
 exact⟨u,s _ _ h1,h2⟩
def AlL:Sp:=λvs H Q _=>∃(lt bk:Addr) (z:List Nat) (kn:Kns) (x:List (List Nat)),vs=[.str (tx drW),.ref lt,.ref bk]/\H lt=some (.lst (vS [z]))/\Kn H bk kn/\z.length<=1000000/\Pat.isName z=true/\known kn z=.ok x/\Clo x/\∀ a H',Ar H H'->AnD H' a x->Q (.ref a) H'
theorem Abs(T:Txt K mg t):Bd P w K mg base CX0 7 t.V6 t.V7 ["word", "things", "book"] AlL:=by
 refine T.Aal.F.ok QZ (λvs H Q E h=>?_) (λcdv A outer s H vs Q E hr h=>?_)
 ·obtain⟨lt,bk,z,kn,x,rfl,_⟩:=h
  rfl
 ·obtain⟨lt,bk,z,kn,x,rfl,hlt,hK,zl,nm,hx,C,k⟩:=h
  have a0:atI (vS [z]) 0=some (V.str (tx z)):=rfl
  refine⟨_,(Ac (Bp (Ed ((Ol T).mono (by decide)) hr rfl T.Er.m T.Er.F.kp T.Er.b .nil By (Aa (Dm Ca (Ao (Av (K:=K)) rfl T.BK Bq (Aa (pv 1) Ab)) Ag (Aw _)) Ab)))
   (Ac (Bp (Bb T.Yv (Zw T) hr (Aa (Bg (Ax (K:=K)) (pv 1) Ag (λ_ _=>rfl)) Ab)))
   (Ac (Az (i:=3) QZ.nd rfl (Or.inr rfl) (Bb T.Gx (Nk T) hr (Aa (Bg (Ax (K:=K)) (pv 1) Ag (λ_ _=>rfl)) (Aa (pv 2) Ab))))
   (Ac (Be (Al Ca (pv 0) Am (Aw _))
    (Ad (An (Je (Aa Am (Aa (Cp (DQ (K:=K)) rfl T.Ku Hf (Aa (pv 3) Ab)) Ab)))))
    Aq)
   (Ac (Be (Al Ca (pv 0) Am (Aw _))
    (Ac Bc
    (Ad Bc))
    Aq)
   (Ac (Be (Al Ca (pv 0) Am (Aw _))
    (Ad (An (Je (Aa Am (Aa (Bb T.P0 (Up T) hr (Aa (Bb T.VF (YL T) hr (Aa (pv 3) Ab)) Ab)) Ab)))))
    Aq)
   (Ac (Be (Al Ca (pv 0) Am (Aw _))
    (Ad Bc)
    Aq)
   (Ad Bc)))))))),?_⟩
  refine⟨_,rfl,_,_,rfl,.inl (SqL.of hlt),rfl,(by rw[zN (show(V.int ((vS [z]).length:Int))=V.int 1 from rfl)];rfl),?_⟩
  refine⟨_,rfl,_,_,_,_,rfl,rfl,SqL.of hlt,a0,z,rfl,zl,nm,λH1 s1=>?_⟩
  refine⟨_,rfl,_,_,_,_,rfl,rfl,SqL.of (s1 _ _ hlt),a0,_,rfl,z,bk,kn,x,rfl,hK.same s1,hx,λq hq=>?_⟩
  refine⟨_,rfl,rfl,_,rfl,?_⟩
  rw[Aj3]
  refine Cg (Lr (by decide)) ?_
  refine⟨_,rfl,rfl,_,rfl,?_⟩
  rw[Aj4]
  refine Cg (Lr (by decide)) ?_
  refine⟨_,rfl,rfl,_,rfl,?_⟩
  rw[AeH]
  refine Ex rfl ?_
  refine⟨_,rfl,q,x,_,_,rfl,SqL.of hq,C,λd dx a' b' c' qs tss H2 s2 nd L F D=>?_⟩
  refine⟨d,dx,a',b',c',qs,_,tss,_,rfl,D,F,λH3 s3 S1 S2 S3=>?_⟩
  exact⟨(by show 2<=sizeLine;decide),λa na=>k a _ (((s1.trans s2).trans s3).new na) ⟨_,Ae,tss,L,F,S1,S2,S3,rfl⟩⟩
def Anv:List (List Nat):=[clW,Anu,drW,[115,104,105,102,116,115],[102,108,111,97,116,115]]
theorem Aj5:(["cloth", "layers", "draft", "shifts", "floats"]:List Str)=Anv.map tx:=by decide +kernel
def AhX:Sp:=λvs H Q _=>∃(wp bk:Addr) (z:List Nat) (kn:Kns) (x:List (List Nat)),vs=[.ref wp,.ref bk]/\H wp=some (.lst (vS [drW,z]))/\Kn H bk kn/\z.length<=1000000/\Pat.isName z=true/\known kn z=.ok x/\Clo x/\∀ a H',Ar H H'->AnD H' a x->Q (.ref a) H'
theorem AcL(T:Txt K mg t):Bd P w K mg base CX0 8 t.Yi t.Yj ["words", "book"] AhX:=by
 refine T.answered.F.ok Vc (λvs H Q E h=>?_) (λcdv A outer s H vs Q E hr h=>?_)
 ·obtain⟨wp,bk,z,kn,x,rfl,_⟩:=h
  rfl
 ·obtain⟨wp,bk,z,kn,x,rfl,hw,hK,zl,nm,hx,C,k⟩:=h
  refine⟨_,(Ac (Az (i:=2) Vc.nd rfl (Or.inl rfl) (Lw (Jt (K:=K) (pv 0) (λ_=>rfl)) (Bg (Ax (K:=K)) (pv 0) Ag (λ_ _=>rfl)) Am))
   (Ac (Be (Al (Qg (K:=K)) (pv 2) (Ck (v:=.ref t.Fq) rfl T.RZ rfl) rfl)
    (Ad (An (Bb T.Aal (Abs T) hr (Aa (pv 2) (Aa (Gq (AbN (K:=K)) (pv 0) (Gi Ag) Nu) (Aa (pv 1) Ab))))))
    Aq)
   (Ac (Be (Al Ca (pv 2) Am (Aw _))
    (Ad Bc)
    Aq)
   (Ac (Be (Al Ca (pv 2) Am (Aw _))
    (Ad Bc)
    Aq)
   (Ac (Be (Al Ca (pv 2) Am (Aw _))
    (Ad Bc)
    Aq)
   (Ac (Be (Al Ca (pv 2) Am (Aw _))
    (Ad Bc)
    Aq)
   (Ad Bc))))))),?_⟩
  refine⟨_,rfl,true,.inl ⟨_,SqL.of hw,rfl⟩,?_⟩
  refine JZ ?_
  refine⟨_,rfl,_,_,_,_,rfl,rfl,SqL.of hw,BP (by decide) rfl,?_⟩
  refine Bs rfl rfl ?_
  refine⟨_,rfl,_,_,rfl,.inr (T.Sh H),rfl,(by decide),_,rfl,?_⟩
  rw[Aj5,in_words]
  refine Ex (c:=drW∈Anv) (by decide) ?_
  refine⟨_,rfl,_,rfl,_,rfl,_,_,rfl,SqL.of hw,λl hl9=>?_⟩
  have s1:Ar H (upd H l (.lst (vS [z]))):=.upd hl9
  exact⟨_,rfl,l,bk,z,kn,x,rfl,Ae,hK.same s1,zl,nm,hx,C,λa H' s' hA=>k a H' (s1.trans s') hA⟩
theorem Abt(T:Txt K mg t):Bd P w K mg base CX0 9 t.V4 t.V5 ["words", "book"] AhX:=by
 refine T.Aak.F.ok AaP (λvs H Q E h=>?_) (λcdv A outer s H vs Q E hr h=>?_)
 ·obtain⟨wp,bk,z,kn,x,rfl,_⟩:=h
  rfl
 ·obtain⟨wp,bk,z,kn,x,rfl,r⟩:=h
  exact⟨_,(Ad (AiV (λ_ _ z=>z) (Ad (An (Bb T.answered (AcL T) hr (Aa (pv 0) (Aa (pv 1) Ab))))))),_,rfl,_,rfl,wp,bk,z,kn,x,rfl,r⟩
def isQ (l:List Nat):Bool:=decide (l.head?=some 63)
def Qok (kn:Kns)(l:List Nat)(x:List (List Nat)):Prop:=∃ z,AhR l.tail=[drW,z]/\Pat.isName z=true/\known kn z=.ok x/\Clo x
def Aj6 (t:Adr):Sp:=λvs H Q _=>∃(ls:List (List Nat)) (kn:Kns) (qs:List (List (List Nat))),vs=[.str (tx (jn 10 ls))]/\(jn 10 ls).length<=100000/\ls≠[]/\(∀ l∈ls,10∉l)/\ls.length<=900 /\
 Bk [] ((ls.map trim).filter λl=>!isQ l) kn/\((ls.map trim).filter λl=>!isQ l)≠[]/\((ls.map trim).filter isQ).length=qs.length/\(∀(i:Nat) l x,((ls.map trim).filter isQ)[i]?=some l->qs[i]?=some x->Qok kn l x) /\
 ∀ q (as:List Addr) H',Ar H H'->H' q=some (.lst (as.map V.ref))->as.length=qs.length->(∀(i:Nat) a x,as[i]?=some a->qs[i]?=some x->AnD H' a x)->Q (.ref q) H'
theorem Tf(c:Nat):∀ us:List (List Nat),Txt.join (tx [c]) (us.map tx)=tx (jn c us)
 | []=>by simp[Txt.join,Builtin.Str.glued,tx,Str.empty,jn]
 | u::us=>by
  have key:∀(us:List (List Nat)) (u:List Nat),u++(us.map λy=>[c]++y).flatten=jn c (u::us):=λus=>by
   induction us with
   | nil=>intro u;simp[jn]
   | cons v r ih =>
    intro u
    rw[ApT,Aqg,Aqz,ih v]
    rfl
  rw[JP,key]
theorem Abu(c:Nat):∀ ws:List (List Nat),ws≠[]->(ws.map List.length).sum+ws.length=(jn c ws).length+1
 | [],h=>absurd rfl h
 | [w],_=>by simp[jn]
 | w::v::r,_=>by
  have:=Abu c (v::r) (by simp)
  show((w::v::r).map List.length).sum+_=(w++c::jn c (v::r)).length+1
  rw[ApT,Aqm,ApQ,ApU (as:=v::r),ApU (as:=jn c (v::r))]
  lia
theorem AhY(ws:List (List Nat)):(((ws.map tx)).map (·.length)).sum=(ws.map List.length).sum:=by
 rw[AqW]
 exact congrArg List.sum (Ard λw _=>Ai w)
theorem AeI(p:List Nat->Bool):∀ ws:List (List Nat),((ws.filter p).map List.length).sum<=(ws.map List.length).sum
 | []=>ApR _
 | w::ws=>by
  have:=AeI p ws
  rw[AqY]
  split
  ·simp only [ApT,Aqm];lia
  ·simp only [ApT,Aqm];lia
theorem AcM:∀ ws:List (List Nat),((ws.map trim).map List.length).sum<=(ws.map List.length).sum
 | []=>ApR _
 | w::ws=>by
  have:=AcM ws
  have:=Te w
  simp only [ApT,Aqm]
  lia
theorem W6{w:List Nat}:∀{ws:List (List Nat)},w∈ws->w.length<=(ws.map List.length).sum
 | [],h=>by simp at h
 | v::ws,h=>by
  simp only [ApT,Aqm]
  rcases yH.mp h with rfl | h
  ·lia
  ·have:=W6 h
   lia
theorem AhZ{u:List Nat}{c:Nat}(h:c∈trim u):c∈u:=by
 unfold trim at h
 rw[List.mem_reverse] at h
 have:=(Arx _).subset h
 rw[List.mem_reverse] at this
 exact(Arx _).subset this
theorem Aia{u w:List Nat}(h:w∈AhR u):w.length<=u.length:=by
 unfold AhR at h
 have h1:=(z8.mp h).1
 have h2:=W6 h1
 have h3:=AcJ 32 u
 have:0<(Hn 32 u).length:=zZ.mpr (W5 _ _)
 lia
theorem Np{p:List Nat->Bool}{ws:List (List Nat)}{i:Nat}{x:List Nat}(h:ws[i]?=some x):(ws.take (i+1)).filter p=(ws.take i).filter p++(if p x=true then [x] else []):=by
 rw[Aqd,h,AqR]
 congr 1
 simp only [Ar7,AqY,List.filter_nil]
theorem VM{ws:List (List Nat)}(p:List Nat->Bool)(i:Nat):((ws.take i).filter p).length<=i:=Aqn (AqB _ _) (by rw[Aqf];exact Arl _ _)
theorem Zx(T:Txt K mg t):Bd P w K mg base CX0 14 t.Kq t.Kr ["paper"] (Aj6 t):=by
 refine T.Yu.F.ok DR (λvs H Q E h=>?_) (λcdv A outer s H vs Q E hr h=>?_)
 ·obtain⟨ls,kn,qs,rfl,_⟩:=h
  rfl
 ·obtain⟨ls,kn,qs,rfl,hu,hne,hno,hll,hB,hBn,hql,hQ,k⟩:=h
  obtain⟨u,hj⟩:∃ u,jn 10 ls=u:=⟨_,rfl⟩
  rw[hj] at hu ⊢
  refine⟨_,(Ac (Kd (i:=1) (cok [] ["line"] DR) rfl DR.nd rfl rfl (Bf (K:=K) (Bo (K:=K) zI zY z7 Ma (pv 0) (Aa Am Ab))) (λ_ _ _ _ _=>.nil) (λ_ _ _ _ _=>(Bo (K:=K) zI F.slot_str_strip F.type_str_strip QC (pv 0) (Aa Am Ab))) rfl)
   (Ac (Az (i:=2) DR.nd rfl (Or.inr rfl) (Bb T.Aai (Abr T) hr (Aa (Bo (K:=K) zI zS zV (CG (K:=K)) Am (Aa (BR (cok [] ["line"] DR) rfl (Bf (K:=K) (pv 1)) (λ_ _ _ _ _=>.one (Dg (Cr (Bo (K:=K) zI F.slot_str_startswith F.type_str_startswith T7 (pv 0) (Aa Am Ab))))) (λ_ _ _ _ _=>(pv 0))) Ab)) Ab)))
   (Ad (An (BR (cok [2] ["line", "book"] DR) rfl (Bf (K:=K) (pv 1)) (λ_ _ _ _ _=>.one (Cr (Bo (K:=K) zI F.slot_str_startswith F.type_str_startswith T7 (pv 0) (Aa Am Ab)))) (λ_ _ _ _ _=>(Bb T.Aak (Abt T) hr (Aa (Bb T.words_of (AcK T) hr (Aa (Gq Tw (pv 0) (Gi Ag) Nu) Ab)) (Aa (pv 1) Ab))))))))),?_⟩
  rw[Od,JT,AhS]
  have hsz:sizeLine=16777216:=yA
  have sl:=Abu 10 ls hne
  rw[hj] at sl
  have st:=AcM ls
  refine⟨_,rfl,rfl,u,10,ls,rfl,rfl,(by decide),(by lia),hne,hj,hno,λl hl=>?_⟩
  obtain⟨H1,e9,s1,h1⟩:=nu9 (o:=.lst (vS ls)) (.refl _) hl
  rw[e9]
  refine⟨_,rfl,⟨_,SqL.of h1⟩,Bu (K:=K) (a:=l) (xs:=vS ls) (λi ys G=>G=H1/\ys=vS ((ls.take i).map trim)) ⟨rfl,rfl⟩ ?_ ?_ ?_ ?_⟩
  ·rintro i ys G hi ⟨rfl,rfl⟩
   refine⟨SqL.of h1,?_⟩
   rw[Ay,ApO,Aqf]
   exact Arl _ _
  ·rw[Ay];lia
  ·rintro i xv ys G hi hx ⟨rfl,rfl⟩
   obtain⟨b,hb,rfl⟩:=Dh hx
   refine BZ.no ?_
   have:=W6 (ApY hb)
   refine⟨_,rfl,rfl,_,_,rfl,rfl,(by rw[Ai];lia),?_⟩
   rw[Wu]
   refine CN.of hi ⟨rfl,?_⟩
   rw[Aqd,hb,ApV]
   unfold vS
   rw[ApV]
   rfl
  ·rintro ys G p1 ⟨rfl,rfl⟩ hp1
   rw[Ay,Aqk]
   generalize hts:ls.map trim=ts at hB hBn hql hQ st ⊢
   have tl:ts.length=ls.length:=by rw[<- hts,ApO]
   obtain⟨H2,e9,s2,h2⟩:=nu9 (o:=.lst (vS ts)) s1 hp1
   rw[e9]
   refine Bs rfl rfl ?_
   refine⟨rfl,_,rfl,_,rfl,⟨_,SqL.of h2⟩,Bu (K:=K) (a:=p1) (xs:=vS ts) (λi ys G=>G=H2/\ys=vS ((ts.take i).filter λl=>!isQ l)) ⟨rfl,rfl⟩ ?_ ?_ ?_ ?_⟩
   ·rintro i ys G hi ⟨rfl,rfl⟩
    refine⟨SqL.of h2,?_⟩
    rw[Ay]
    exact VM _ _
   ·rw[Ay];lia
   ·rintro i xv ys G hi hx ⟨rfl,rfl⟩
    obtain⟨b,hb,rfl⟩:=Dh hx
    unfold BZ
    refine⟨_,rfl,rfl,_,_,rfl,rfl,?_⟩
    rw[T8]
    refine⟨_,rfl,?_⟩
    show if (!isQ b)=true then _ else _
    refine AmD (λc=>?_) (λc=>?_)
    ·refine⟨_,rfl,CN.of hi ⟨rfl,?_⟩⟩
     rw[Np hb,if_pos c]
     unfold vS
     rw[ApV]
     rfl
    ·exact CN.of hi ⟨rfl,by rw[Np hb,if_neg (by rw[c];decide),Aqv]⟩
   ·rintro ys G p2 ⟨rfl,rfl⟩ hp2
    rw[Ay,Aqk]
    generalize hbs:(ts.filter λl=>!isQ l)=bs at hB hBn ⊢
    have bl:bs.length<=ts.length:=by rw[<- hbs];exact AqB _ _
    have sb:(bs.map List.length).sum<=(ts.map List.length).sum:=by rw[<- hbs];exact AeI _ _
    have s3:Ar H (upd G p2 (.lst (vS bs))):=s2.new hp2
    have h3:(upd G p2 (.lst (vS bs))) p2=some (.lst (vS bs)):=Ae
    have h23:(upd G p2 (.lst (vS bs))) p1=some (.lst (vS ts)):=by rw[Ah (Ak h2 hp2)];exact h2
    generalize upd G p2 (.lst (vS bs))=H3 at s3 h3 h23 ⊢
    refine⟨_,p2,bs.map tx,rfl,rfl,(by rw[<- DG];exact SqL.of h3),?_,?_⟩
    ·rw[AhY,ApO,Ai]
     show _+_*1<=_
     lia
    rw[Tf]
    have sj:=Abu 10 bs hBn
    refine⟨bs,kn,rfl,(by lia),hBn,λb hb z=>?_,(by lia),hB,λkp H4 s4 hK=>?_⟩
    ·rw[<- hbs,z8,<- hts,yG] at hb
     obtain⟨⟨l0,hl0,rfl⟩,_⟩:=hb
     exact hno l0 hl0 (AhZ z)
    refine Bs rfl rfl ?_
    have hK4:=hK
    have u4:=s3.trans s4
    have h4:H4 p1=some (.lst (vS ts)):=s4 _ _ h23
    have nt:(ts.filter isQ).length<=900:=by have:=AqB isQ ts;lia
    refine⟨_,rfl,_,rfl,⟨_,SqL.of h4⟩,Bu (K:=K) (a:=p1) (xs:=vS ts) (λi ys G=>∃ as:List Addr,ys=as.map V.ref/\Ar H4 G/\as.length=((ts.take i).filter isQ).length/\∀(j:Nat) a x,as[j]?=some a->qs[j]?=some x->AnD G a x) ⟨[],rfl,.refl _,rfl,λj a ths g=>by simp at g⟩ ?_ ?_ ?_ ?_⟩
    ·rintro i ys G hi ⟨as,rfl,sG,hal,_⟩
     refine⟨SqL.of (sG _ _ h4),?_⟩
     rw[ApO,hal]
     exact VM _ _
    ·rw[Ay];lia
    ·rintro i xv ys G hi hx ⟨as,rfl,sG,hal,hA⟩
     obtain⟨b,hb,rfl⟩:=Dh hx
     have bl9:=W6 (ApY hb)
     unfold BZ
     refine⟨_,rfl,rfl,_,_,rfl,rfl,?_⟩
     rw[T8]
     refine⟨_,rfl,?_⟩
     show if isQ b=true then _ else _
     refine AmD (λc=>?_) (λc=>?_)
     ·have hlt:((ts.take i).filter isQ).length<qs.length:=by
       have e1:(ts.take (i+1)).filter isQ=(ts.take i).filter isQ++[b]:=by rw[Np hb,if_pos c]
       have e2:((ts.take (i+1)).filter isQ).length<=(ts.filter isQ).length:=((Arz _ _).filter _).length_le
       rw[e1,ApQ,Aq0] at e2
       lia
      have hqb:(ts.filter isQ)[as.length]?=some b:=by
       have e1:ts.filter isQ=(ts.take i).filter isQ++(b::(ts.drop (i+1)).filter isQ):=by
        have hi2:i<ts.length:=(zC.mp hb).1
        have hbe:ts[i]=b:=by have:=ApP hi2;rw[hb] at this;injection this with this;exact this.symm
        conv=>lhs;rw[<- AqK i ts]
        rw[AqR,AqQ hi2,hbe,AqS c]
       rw[e1,hal,Aqi (ApR _),Aq5]
       rfl
      have AlM:=ApP (hal▸hlt)
      generalize qs[as.length]=ths at AlM
      have qk:=hQ _ _ _ hqb AlM
      obtain⟨z,qk,qn,qx,qc⟩:=qk
      refine⟨_,rfl,_,rfl,b,rfl,big (by lia),?_⟩
      rw[AoD]
      refine⟨_,rfl,(by rw[List.length_tail];lia),λwp G1 g1 hw=>?_⟩
      rw[qk] at hw
      have zl:z.length<=b.tail.length:=Aia (by rw[qk];simp)
      rw[List.length_tail] at zl
      refine⟨_,rfl,wp,kp,z,kn,ths,rfl,hw,hK4.same (sG.trans g1),(by lia),qn,qx,qc,λq9 G2 g2 hq9=>?_⟩
      have gg:=g1.trans g2
      refine CN.of hi ⟨as++[q9],by rw[ApV];rfl,sG.trans gg,by rw[Np hb,if_pos c,ApQ,ApQ,hal];rfl,λj a AoE e1 e2=>?_⟩
      by_cases cj:j<as.length
      ·rw[Aqo cj] at e1
       exact(hA j a AoE e1 e2).same gg
      ·rw[Aqi (by lia)] at e1
       have j0:j-as.length=0:=by
        have:=(zC.mp e1).1
        rw[Aq0] at this
        lia
       rw[j0] at e1
       cases e1
       have jj:j=as.length:=by lia
       rw[jj,AlM] at e2
       cases e2
       exact hq9
     ·exact CN.of hi ⟨as,rfl,sG,by rw[Np hb,if_neg (by rw[c];decide),Aqv];exact hal,hA⟩
    ·rintro ys G q ⟨as,rfl,sG,hal,hA⟩ hq
     rw[Ay,Aqk,hql] at hal
     refine k q as _ ((u4.trans sG).new hq) Ae hal λj a ths g1 g2=>?_
     exact(hA j a ths g1 g2).same (.upd hq)
theorem AlN(m:Nat)(z:Int):(List.replicate m [V.int z]).flatten=vI (List.replicate m z):=by
 induction m with
 | zero=>rfl
 | succ m ih=>rw[Aq6,Aqg,ih,Aq6];rfl
def Anw (K:W.Frag):Sp:=λvs H Q _=>∃(a:Addr) (ns:List Int) (i:Int),vs=[.ref a,.int i]/\SqL K H a (vI ns)/\0<=i/\∀ c:Int,Q (.int c) H
theorem Ho(T:Txt K mg t):Bd P w K mg base CX0 1 t.Yk t.Yl ["script", "k"] (Anw K):=by
 refine T.MK.F.ok AfA (λvs H Q E h=>?_) (λcdv A outer s H vs Q E hr h=>?_)
 ·obtain⟨a,ns,i,rfl,_⟩:=h
  rfl
 ·obtain⟨a,ns,i,rfl,hS,hi,k⟩:=h
  refine⟨_,(Ac (Be (Al K3 (pv 1) (Ao (Av (K:=K)) rfl T.BK Bq (Aa (pv 0) Ab)) (Aw _))
    (Ad (An (Bg (Ax (K:=K)) (pv 0) (pv 1) (λ_ _=>rfl))))
    Aq)
   (Ad (An Ag))),?_⟩
  refine⟨_,rfl,_,rfl,_,_,rfl,.inl hS,_,_,rfl,rfl,_,rfl,?_⟩
  refine GX (λh1=>?_) (λh1=>?_)
  ·rw[Bm] at h1
   have hlt:i.toNat<ns.length:=by lia
   exact⟨_,rfl,_,rfl,_,_,_,_,rfl,rfl,hS,BP hi (Eb (ApP hlt)),k _⟩
  ·exact k 0
theorem AoF(z:Int):atI ((".#" : Str)).cps.toList (z%2)=some (if z%2=1 then 35 else 46):=by
 rcases Int.emod_two_eq z with h | h <;> rw[h] <;> decide +kernel
theorem AoG(z:Int):Sg (if z%2=1 then 35 else 46):=by split;exact .inl rfl;exact .inr rfl
theorem AlO{u:List Nat}{c:Nat}(h:∀ d∈u,Sg d)(hc:Sg c):∀ d∈u++[c],Sg d:=λd hd=>by
 rcases zG.mp hd with h1 | h1
 ·exact h d h1
 ·rw[zF.mp h1];exact hc
theorem Aib{G:Prop}{R:Addr->Nat->Hp->Prop}(C:Addr->Nat->Hp->Prop)(main:(∀ q L H,C q L H->R q L H)->G)(rest:∀ q L H,C q L H->R q L H):G:=main rest
def Aga (K:W.Frag):Sp:=λvs H Q _=>∃(a:Addr) (ns:List Int),vs=[.ref a]/\SqL K H a (vI ns)/\ns.length<=63/\∀(l:Addr) (cl:List (List Nat)) (m n:Nat) (H':Hp),Ar H H'->H' l=some (.lst (vS cl))->Cl cl m n->m<=9->n<=9->Q (.ref l) H'
theorem Abv(T:Txt K mg t):Bd P w K mg base CX0 2 t.M3 t.M4 ["script"] (Aga K):=by
 refine T.Aam.F.ok Bv (λvs H Q E h=>?_) (λcdv A outer s H vs Q E hr h=>?_)
 ·obtain⟨a,ns,rfl,_⟩:=h
  rfl
 ·obtain⟨a,ns,rfl,hS,hl,k⟩:=h
  have hsz:sizeLine=16777216:=yA
  refine⟨_,(Ac (Az (i:=1) Bv.nd rfl (Or.inl rfl) (Bx Eu Ag (Bx Hq (Bb T.MK (Ho T) hr (Aa (pv 0) (Aa Ag Ab))) Ag)))
   (Ac (Az (i:=2) Bv.nd rfl (Or.inr rfl) (Bx Eu Ag (Bx Hq (Bb T.MK (Ho T) hr (Aa (pv 0) (Aa Ag Ab))) Ag)))
   (Ac (Az (i:=3) Bv.nd rfl (Or.inr rfl) (Bx AkN (CJ (Aa Ag Ab)) (pv 2)))
   (Ac (Cj PassesOwn.never rfl (Ci rfl T.Cv (Aa (Ao (Av (K:=K)) rfl T.BK Bq (Aa (pv 0) Ab)) Ab)) (Br (i:=4) Bv.nd rfl (Or.inl rfl))
    (Ac (Az (i:=5) Bv.nd rfl (Or.inl rfl) (Bx Hq (pv 4) (pv 2)))
    (Ac (Az (i:=6) Bv.nd rfl (Or.inl rfl) (Bx Eu (Bx Agk (Bg (Ax (K:=K)) (pv 3) (pv 5) (λ_ _=>rfl)) Ag) (Bg (Ax (K:=K)) (pv 0) (pv 4) (λ_ _=>rfl))))
    (Ad (Ak3 (Bx Hq (pv 6) Ag) (Ak2 (pv 3) (pv 5) set_list))))))
   (Ac (Az (i:=7) Bv.nd rfl (Or.inl rfl) (pv 1))
   (Ac (Be (Al Ca (Bx Hq (Bb T.MK (Ho T) hr (Aa (pv 0) (Aa Ag Ab))) Ag) Ag (Aw _))
    (Ac (Az (i:=7) Bv.nd rfl (Or.inl rfl) (Bx Eu Ag (Bx Hq (Bb T.MK (Ho T) hr (Aa (pv 0) (Aa Ag Ab))) (pv 1))))
    (Ad (Az (i:=3) Bv.nd rfl (Or.inr rfl) (BR (cok [0,2,3] ["j", "script", "picks", "numbers"] Bv) rfl (Ci rfl T.Cv (Aa (pv 2) Ab)) (λ_ _ _ _ _=>.nil) (λ_ _ _ _ _=>(Bg (Ax (K:=K)) (pv 3) (Bx Hq (pv 0) (Bx Eu Ag (Bx Hq (Bb T.MK (Ho T) hr (Aa (pv 1) (Aa Ag Ab))) (pv 2)))) (λ_ _=>rfl)))))))
    Aq)
   (Ac (Az (i:=8) Bv.nd rfl (Or.inl rfl) (CJ Ab))
   (Ac (Cj PassesOwn.never rfl (Bf (K:=K) (pv 3)) (Br (i:=6) Bv.nd rfl (Or.inl rfl))
    (Ac (Az (i:=9) Bv.nd rfl (Or.inl rfl) Am)
    (Ac (Cj PassesOwn.never rfl (Ci rfl T.Cv (Aa (pv 7) Ab)) (Br (i:=4) Bv.nd rfl (Or.inl rfl))
     (Ac (Az (i:=9) Bv.nd rfl (Or.inl rfl) (Bx CW (pv 9) (Bg Hs Am (Bx Hq (pv 6) Ag) (λ_ _=>rfl))))
     (Ad (Az (i:=6) Bv.nd rfl (Or.inl rfl) (Bx Aiw (pv 6) Ag)))))
    (Ad (Bp (Bo (K:=K) zM zL zQ Cq (pv 8) (Aa (Gq Tw (Bx AiE (pv 9) (pv 1)) Nu (Gi (pv 1))) Ab)))))))
   (Ad (An (pv 8))))))))))),?_⟩
  rw[JV]
  refine⟨_,rfl,a,ns,0,rfl,hS,(by decide),λc1=>?_⟩
  refine⟨_,_,rfl,rfl,(by show(0:Int)<9;decide),_,_,rfl,rfl,?_⟩
  obtain⟨m,em,m1,m9⟩:∃ m:Nat,1+c1%9=(m:Int)/\1<=m/\m<=9:=⟨(1+c1%9).toNat,by lia,by lia,by lia⟩
  refine Bs (congrArg V.int em) rfl ?_
  refine⟨_,rfl,a,ns,1,rfl,hS,(by decide),λc2=>?_⟩
  refine⟨_,_,rfl,rfl,(by show(0:Int)<9;decide),_,_,rfl,rfl,?_⟩
  obtain⟨n,en,n1,n9⟩:∃ n:Nat,1+c2%9=(n:Int)/\1<=n/\n<=9:=⟨(1+c2%9).toNat,by lia,by lia,by lia⟩
  refine Bs (congrArg V.int en) rfl ?_
  refine⟨(by show 1<=sizeLine;decide),λp hp=>?_⟩
  refine⟨_,rfl,_,_,_,rfl,rfl,Ae,(by lia),(by lia),(by show 1*((n:Int).toNat)<=sizeLine;lia),λq hq=>?_⟩
  rw[Aqc,AlN]
  have s1:Ar H (upd H p (.lst [.int 0])):=.upd hp
  have nq:H q=none:=s1.free hq
  have s2:Ar H (upd (upd H p (.lst [.int 0])) q (.lst (vI (List.replicate n 0)))):=s1.new hq
  refine Bs rfl rfl ?_
  refine⟨_,rfl,_,_,rfl,.inl (s2.seq hS),_,rfl,(by lia),(by rw[Bm];lia),?_⟩
  rw[Aqc,Bm]
  refine Di (lo:=0) (n:=ns.length) (λi σ H2=>∃(ks:List Int) (v1 v2 v3:Option V),σ=[some (.ref a),some (.int (m:Int)),some (.int (n:Int)),some (.ref q),v1,v2,v3,none,none,none]/\Ar H H2/\H2 q=some (.lst (vI ks))/\ks.length=n)
   ⟨_,none,none,none,rfl,s2,Ae,by rw[AqO]⟩ ?_ ?_
  ·rintro i σ H2 hi ⟨ks,v1,v2,v3,rfl,s3,hq2,hkl⟩
   have hix:(0+(i:Int))%(n:Int)=((i%n:Nat):Int):=by rw[AqC];lia
   have hlt:i%n<ks.length:=by rw[hkl];exact Nat.mod_lt _ (by lia)
   have e1:(vI ks)[((0+(i:Int))%(n:Int)).toNat]?=some (.int ks[i%n]):=by
    rw[hix,Aqc]
    exact Eb (ApP hlt)
   have e2:(vI ns)[(0+(i:Int)).toNat]?=some (.int ns[i]):=by
    rw[AqC,Aqc]
    exact Eb (ApP hi)
   have n1:0<=(0+(i:Int))%(n:Int):=by rw[hix];lia
   refine⟨_,rfl,_,rfl,_,_,rfl,rfl,(by show(0:Int)<n;lia),?_⟩
   refine⟨_,rfl,_,rfl,_,_,_,_,rfl,rfl,SqL.of hq2,BP n1 e1,_,_,rfl,rfl,.inr ⟨by decide,by decide⟩,?_⟩
   refine⟨_,rfl,_,rfl,_,_,_,_,rfl,rfl,s3.seq hS,BP (by lia) e2,_,_,rfl,rfl,?_⟩
   refine⟨_,rfl,_,_,rfl,rfl,(by show(0:Int)<1099511627776;decide),?_⟩
   refine⟨_,rfl,_,rfl,_,_,_,_,rfl,rfl,hq2,Ag1 n1 (by rw[Bm,hkl,hix];lia),?_⟩
   rw[AkS]
   exact⟨_,_,_,_,rfl,s3.over nq,Ae,by rw[List.length_set];exact hkl⟩
  ·rintro σ H2 ⟨ks,v1,v2,v3,rfl,s3,hq2,hkl⟩
   obtain⟨m',em'⟩:∃ x:Nat,x=m:=⟨_,rfl⟩
   refine⟨_,rfl,?_⟩
   refine Bs (v':=.int (m':Int)) (by rw[em']) rfl ?_
   apply Aib (λq L H3=>Ar H H3/\1<=L/\L<=9/\∃ ks:List Int,H3 q=some (.lst (vI ks))/\ks.length=n)
   ·intro rest
    obtain⟨G2,eG⟩:∃ G,G=H2:=⟨_,rfl⟩
    obtain⟨q',eq⟩:∃ x,x=q:=⟨_,rfl⟩
    obtain⟨L,eL⟩:∃ x,x=m':=⟨_,rfl⟩
    rw[<- eG,<- eq] at hq2
    rw[<- eG] at s3
    rw[<- eG,<- eq,<- eL]
    refine⟨_,rfl,a,ns,2,rfl,s3.seq hS,(by decide),λc3=>?_⟩
    refine⟨_,_,rfl,rfl,(by show(0:Int)<2;decide),rfl,_,rfl,?_⟩
    refine GX ?tt ?ff
    case ff=>exact λ_=>rest q' L G2 ⟨s3,by lia,by lia,ks,hq2,hkl⟩
    case tt =>
     intro _
     refine⟨_,rfl,a,ns,3,rfl,s3.seq hS,(by decide),λc4=>?_⟩
     refine⟨_,rfl,_,_,rfl,rfl,(by show(0:Int)<m;lia),_,_,rfl,rfl,?_⟩
     obtain⟨L2,eL2,l1,l9⟩:∃ L2:Nat,1+c4%(m:Int)=(L2:Int)/\1<=L2/\L2<=9:=by
      have q1:=Int.emod_nonneg c4 (show(m:Int)≠0 by lia)
      have q2:=Ar8 c4 (show(0:Int)<(m:Int) by lia)
      exact⟨(1+c4%(m:Int)).toNat,by lia,by lia,by lia⟩
     refine Bs (congrArg V.int eL2) rfl ?_
     refine⟨_,rfl,_,rfl,(by lia),(by lia),?_⟩
     rw[Aqc]
     refine Dz (lo:=0) (n:=n) (λi ys H4=>H4=G2/\∃ zs:List Int,ys=vI zs/\zs.length=i) ⟨rfl,[],rfl,rfl⟩ ?_ ?_ ?_ ?_
     ·rintro i ys H4 hi ⟨rfl,zs,rfl,hz⟩
      rw[Bm,hz]
      exact ApR _
     ·lia
     ·rintro i ys H4 hi ⟨rfl,zs,rfl,hz⟩
      refine BZ.no ?_
      refine⟨_,rfl,_,rfl,_,rfl,a,ns,4,rfl,s3.seq hS,(by decide),λc5=>?_⟩
      have p1:=Int.emod_nonneg c5 (show(n:Int)≠0 by lia)
      have p2:=Ar8 c5 (show(0:Int)<(n:Int) by lia)
      obtain⟨d,ed,d1,d9⟩:∃ d:Nat,1+c5%(n:Int)=(d:Int)/\1<=d/\d<=n:=⟨(1+c5%(n:Int)).toNat,by lia,by lia,by lia⟩
      refine⟨_,rfl,_,_,rfl,rfl,(by show(0:Int)<n;lia),_,_,rfl,rfl,_,_,rfl,rfl,(by show(0:Int)<1+c5%(n:Int);lia),?_⟩
      have jx:(0+(i:Int))%(1+c5%(n:Int))=((i%d:Nat):Int):=by rw[ed,AqC];lia
      have jl:i%d<ks.length:=by have:=Nat.mod_lt i (show 0<d by lia);lia
      refine⟨_,_,_,_,rfl,rfl,SqL.of hq2,BP (by rw[jx];lia) (by rw[jx,Aqc];exact Eb (ApP jl)),?_⟩
      exact CN.of hi ⟨rfl,zs++[ks[i%d]],by unfold vI;rw[ApV];rfl,by rw[ApQ,hz];rfl⟩
     ·rintro ys H4 l2 ⟨rfl,zs,rfl,hz⟩ hl2
      obtain⟨H5,e9,s5,h5⟩:=nu9 (o:=.lst (vI zs)) s3 hl2
      rw[e9]
      exact rest l2 L2 H5 ⟨s5,l1,l9,zs,h5,hz⟩
   rintro q L H3 ⟨s4,L1,L9,zs,hq3,hzl⟩
   refine⟨(by show 0<=sizeLine;decide),λr nr=>?_⟩
   have s5:Ar H (upd H3 r (.lst [])):=s4.new nr
   have h5:(upd H3 r (.lst [])) r=some (.lst (vS [])):=Ae
   have hq5:(upd H3 r (.lst [])) q=some (.lst (vI zs)):=(Ar.upd nr) _ _ hq3
   have nqr:q≠r:=Ak hq3 nr
   have nrH:H r=none:=s4.free nr
   generalize upd H3 r (.lst [])=H5 at s5 h5 hq5 ⊢
   refine Bs rfl rfl ?_
   refine⟨_,rfl,_,rfl,⟨_,SqL.of hq5⟩,Dd (K:=K) (a:=q) (xs:=vI zs) (λi σ G=>∃(v4 v5 v6 v9:Option V) (cl:List (List Nat)),σ=[some (.ref a),some (.int (m:Int)),some (.int (n:Int)),some (.ref q),v4,v5,v6,some (.int (L:Int)),some (.ref r),v9]/\Ar H G/\G q=some (.lst (vI zs))/\G r=some (.lst (vS cl))/\cl.length=i/\∀ u∈cl,u.length=m/\∀ c∈u,Sg c) ⟨_,_,_,_,[],rfl,s5,hq5,h5,rfl,by simp⟩ (λi σ G _ ⟨_,_,_,_,_,_,_,e,_⟩=>SqL.of e) ?_ ?_⟩
   ·rintro i xv σ G hx ⟨v4,v5,v6,v9,cl,rfl,sG,hGq,hGr,hcl,hu⟩
    obtain⟨z0,_,rfl⟩:=Kf hx
    have hin:i<n:=by have:=(zC.mp hx).1;rw[Bm,hzl] at this;exact this
    refine Bs rfl rfl ?_
    refine Bs rfl rfl ?_
    refine⟨_,rfl,_,rfl,(by lia),(by lia),?_⟩
    rw[Aqc]
    refine Di (lo:=0) (n:=L) (λj σ G2=>∃(z:Int) (u:List Nat) (v4:Option V),σ=[some (.ref a),some (.int (m:Int)),some (.int (n:Int)),some (.ref q),v4,v5,some (.int z),some (.int (L:Int)),some (.ref r),some (.str (tx u))]/\G2=G/\u.length=j/\∀ c∈u,Sg c) ⟨z0,[],v4,rfl,rfl,rfl,by simp⟩ ?_ ?_
    ·rintro j σ G2 hj ⟨z,u,v4,rfl,rfl,hu,hs⟩
     refine Bs rfl rfl ?_
     refine⟨_,rfl,_,rfl,_,_,rfl,rfl,(by show(0:Int)<2;decide),_,_,_,rfl,rfl,(by show 2<=sizeLine;decide),AoF z,_,_,rfl,rfl,(by rw[Ai];show u.length+1<=sizeLine;lia),?_⟩
     rw[LQ,G7]
     refine Bs rfl rfl ?_
     refine⟨_,rfl,_,_,rfl,rfl,⟨by decide,by decide⟩,?_⟩
     exact⟨_,_,_,rfl,rfl,by rw[ApQ,hu];rfl,AlO hs (AoG z)⟩
    ·rintro σ G2 ⟨z,u,v4,rfl,rfl,hul,hs⟩
     have ml:u.length*((m:Int).toNat)<=81:=by
      rw[Aqc,hul]
      exact Aqn (Arc L9 m9) (by decide)
     refine⟨_,rfl,.inl ⟨rfl,_,SqL.of hGr⟩,_,rfl,_,rfl,u,_,rfl,rfl,(by lia),(by lia),(by lia),?_⟩
     have rl:(List.replicate ((m:Int).toNat) u).flatten.length=m*L:=by
      rw[Aqc,List.length_flatten,List.map_replicate,hul,List.sum_replicate_nat]
     have ml2:m<=m*L:=Nat.le_mul_of_pos_right m L1
     refine⟨_,rfl,_,rfl,_,rfl,(by rw[rl];rw[Aqc,hul,Nat.mul_comm] at ml;lia),?_⟩
     have ec:Qh (List.replicate ((m:Int).toNat) u).flatten none (some (m:Int))=(List.replicate m u).flatten.take m:=by
      unfold Qh
      rw[HT.WW,HT.Nt,Arh (by rw[rl];exact ml2),Nat.sub_zero,Arq,Aqc]
     rw[ec]
     refine⟨_,_,_,rfl,rfl,hGr,(by rw[Ay,hcl];lia),?_⟩
     rw[Dc]
     refine⟨_,_,_,_,cl++[(List.replicate m u).flatten.take m],rfl,sG.over nrH,by rw[Ah nqr];exact hGq,Ae,by rw[ApQ,hcl];rfl,λw hw=>?_⟩
     rcases zG.mp hw with h | h
     ·exact hu w h
     ·rw[zF.mp h]
      refine⟨by rw[Aqf];rw[Aqc] at rl;lia,λc hc=>?_⟩
      obtain⟨w2,hw2,hc2⟩:=List.mem_flatten.mp (List.mem_of_mem_take hc)
      rw[List.eq_of_mem_replicate hw2] at hc2
      exact hs c hc2
   ·rintro σ G ⟨v4,v5,v6,v9,cl,rfl,sG,hGq,hGr,hcl,hu⟩
    rw[Bm,hzl] at hcl
    exact⟨_,rfl,k r cl m n G sG hGr ⟨hcl,λu h=>(hu u h).1,λu h=>(hu u h).2,m1,by lia,n1,by lia⟩ m9 n9⟩
def sj (ks:List Nat):List Nat:=jn 32 (ks.map dec)
def Wh (ks:List Nat):List (List Nat):=ks.map λk=>[k]
theorem Akm(ks:List Nat):sj ks=rT (Wh ks):=by
 cases ks with
 | nil=>rfl
 | cons k ks =>
  have key:∀(r:List Nat) (x:List Nat),jn 32 (x::r.map dec)=x++more (Wh r):=λr=>by
   induction r with
   | nil=>intro x;show x=x++[];rw[Aqv]
   | cons y r ih =>
    intro x
    show x++32::jn 32 (dec y::r.map dec)=x++(32::(BJ [y]++more (Wh r)))
    rw[ih]
    show _=x++32::((dec y++[])++more (Wh r))
    rw[Aqv]
  show jn 32 (dec k::ks.map dec)=(dec k++[])++more (Wh ks)
  rw[key,Aqv]
theorem AcN{ks:List Nat}(h:∀ k∈ks,k<100):∀ p∈Wh ks,Okp p:=λp hp=>by
 obtain⟨k,hk,rfl⟩:=yG.mp hp
 exact⟨by simp,by simp,λn hn=>by rw[zF.mp hn];exact h k hk⟩
theorem AcO(ks:List Nat):nT (Wh ks)=ofN ks:=by
 unfold nT Wh
 induction ks with
 | nil=>rfl
 | cons k ks ih =>
  rw[ApT,ApT,ApT,Aqg,ih]
  rfl
theorem Agb(ks:List Nat):(Wh ks).flatten=ks:=by
 unfold Wh
 induction ks with
 | nil=>rfl
 | cons k ks ih=>rw[ApT,Aqg,ih];rfl
theorem Q3{ks:List Nat}(h:∀ k∈ks,k<100):(sj ks).length<=3*ks.length:=by
 rw[Akm]
 have:=Ac9 (AcN h)
 rwa [Agb] at this
theorem Aic{ks:List Nat}(h:∀ k∈ks,k<100)(hl:ks.length<=40):Wr (sj ks) (ofN ks):=by
 have l:=Q3 h
 rw[Akm] at l ⊢
 refine⟨Wh ks,rfl,AcN h,by unfold Wh;rw[ApO];lia,by lia,?_,AcO ks⟩
 rw[AcO]
 unfold ofN
 rw[ApO]
 lia
theorem Nq{n:Nat}:V.str (Str.ofString (toString ((n:Nat):Int)))=V.str (tx (dec n)):=congrArg V.str (Ahe n)
theorem AdK{n:Nat}(AoH:n<100):(n:Int).natAbs.log2<1920:=by
 rw[Int.natAbs_natCast]
 by_cases c:n=0
 ·rw[c];decide
 ·have:n.log2<7:=(Nat.log2_lt c).mpr (Aqa AoH (by decide))
  lia
theorem js{ks:List Nat}(h:∀ k∈ks,k<100):(((ks.map dec).map tx).map (·.length)).sum<=ks.length*2:=by
 have:=JR (B:=2) (ks.map dec) λu hu=>by
  obtain⟨k,hk,rfl⟩:=yG.mp hu
  exact(dec_is (h k hk)).l2
 rwa [ApO] at this
theorem rg9{m:Nat}(h:m<=9):∀ k∈List.range m,k<100:=λk hk=>by have:=yI.mp hk;lia
theorem d1:Str.length (tx [32])=1:=by decide +kernel
theorem Anx:((": " : Str))=tx [58,32]:=by decide +kernel
theorem Aj7:(("= rows(" : Str))=tx [61,32,114,111,119,115,40]:=by decide +kernel
theorem AeJ(ys:List (List Nat))(h:0<ys.length):(cj ys).length+1=((ys.map tx).map (·.length)).sum+ys.length:=by
 cases ys with
 | nil=>cases h
 | cons y ys =>
  have key:∀ ys:List (List Nat),((ys.map λy=>[44]++y).flatten).length=((ys.map tx).map (·.length)).sum+ys.length:=λys=>by
   induction ys with
   | nil=>rfl
   | cons y ys ih =>
    rw[ApT,Aqg,ApQ,ih,ApT,ApT,Aqm,Ai]
    simp only [ApQ,ApU,Aqr]
    lia
  unfold cj
  rw[ApQ,key,ApT,ApT,Aqm,Ai,ApU]
  lia
def tp (u:List Nat):List Nat:=(List.range u.length).filter λk=>decide (u.getD k 0=35)
def told(cl:List (List Nat))(m n:Nat)(b:Bool):List Nat:=if b=true then [58,32]++drT (sj (List.range m)) (cl.map λu=>sj (tp u)) (sj (List.range n)) else [61,32]++wz Pat.Ej cl
def Aid:Sp:=λvs H Q _=>∃(a:Addr) (cl:List (List Nat)) (m n:Nat) (b:Bool),vs=[.ref a,.bl b]/\H a=some (.lst (vS cl))/\Cl cl m n/\m<=9/\n<=9/\∀ H',Ar H H'->Q (.str (tx (told cl m n b))) H'
theorem AcP(T:Txt K mg t):Bd P w K mg base CX0 1 t.Qp t.Qq ["rows", "by_draft"] Aid:=by
 refine T.Acv.F.ok En (λvs H Q E h=>?_) (λcdv A outer s H vs Q E hr h=>?_)
 ·obtain⟨a,cl,m,n,b,rfl,_⟩:=h
  rfl
 ·obtain⟨a,cl,m,n,b,rfl,ha,C,m9,n9,k⟩:=h
  have hsz:sizeLine=16777216:=yA
  have hn:=C.hn
  refine⟨_,(Ac (Be (Dg (Jt (K:=K) (pv 1) (λ_=>rfl)))
    (Ad (An (Bx CW (Bx CW Am (Bo (K:=K) zI zS zV (CG (K:=K)) Am (Aa (pv 0) Ab))) Am)))
    Aq)
   (Ac (Az (i:=2) En.nd rfl (Or.inl rfl) (CJ (Aa (Bo (K:=K) zI zS zV (CG (K:=K)) Am (Aa (BR (cok [] ["k"] En) rfl (Ci rfl T.Cv (Aa (Ao Bt rfl T.BK Bq (Aa (Bg (Ax (K:=K)) (pv 0) Ag (λ_ _=>rfl)) Ab)) Ab)) (λ_ _ _ _ _=>.nil) (λ_ _ _ _ _=>(Cp Hd rfl T.Acy Xk (Aa (pv 0) Ab)))) Ab)) Ab)))
   (Ac (Az (i:=3) En.nd rfl (Or.inl rfl) (CJ Ab))
   (Ac (Cj PassesOwn.never rfl (Bf (K:=K) (pv 0)) (Br (i:=4) En.nd rfl (Or.inr rfl))
    (Ad (Bp (Bo (K:=K) zM zL zQ Cq (pv 3) (Aa (Bo (K:=K) zI zS zV (CG (K:=K)) Am (Aa (BR (cok [4] ["k", "row"] En) rfl (Ci rfl T.Cv (Aa (Ao Bt rfl T.BK Bq (Aa (pv 4) Ab)) Ab)) (λ_ _ _ _ _=>.one (Al Ca (Bg Hs (pv 1) (pv 0) (λ_ _=>rfl)) Am (Aw _))) (λ_ _ _ _ _=>(Cp Hd rfl T.Acy Xk (Aa (pv 0) Ab)))) Ab)) Ab)))))
   (Ac (Bp (Bo (K:=K) zM zL zQ Cq (pv 2) (Aa (Bo (K:=K) zI zS zV (CG (K:=K)) Am (Aa (pv 3) Ab)) Ab)))
   (Ac (Bp (Bo (K:=K) zM zL zQ Cq (pv 2) (Aa (Bo (K:=K) zI zS zV (CG (K:=K)) Am (Aa (BR (cok [] ["j"] En) rfl (Ci rfl T.Cv (Aa (Ao (Av (K:=K)) rfl T.BK Bq (Aa (pv 0) Ab)) Ab)) (λ_ _ _ _ _=>.nil) (λ_ _ _ _ _=>(Cp Hd rfl T.Acy Xk (Aa (pv 0) Ab)))) Ab)) Ab)))
   (Ad (An (Bx CW Am (Bo (K:=K) zI zS zV (CG (K:=K)) Am (Aa (pv 2) Ab))))))))))),?_⟩
  have m1:=C.m1
  have n1:=C.n1
  have l0:0<cl.length:=by lia
  have hu0:cl[0]?=some cl[0]:=ApP l0
  have e0:(cl[0]).length=m:=C.hm _ (Aqq l0)
  generalize cl[0]=u0 at hu0 e0
  rw[JT]
  cases b with
  | false =>
   refine⟨_,rfl,_,rfl,JZ ?_⟩
   have sl:=JR (B:=9) cl λu hu=>by rw[C.hm u hu];exact m9
   have cl9:=AeJ cl (by lia)
   have e1:(("," : Str)).length=1:=by decide +kernel
   refine⟨rfl,_,rfl,_,_,cl.map tx,rfl,rfl,SqL.of (by rw[ha,DG]),(by rw[e1,ApO];lia),?_⟩
   have ej:Txt.join (tx [44]) (cl.map tx)=tx (cj cl):=by
    cases cl with
    | nil=>exact absurd l0 (by decide)
    | cons y ys=>exact JP [44] y ys
   rw[Ob,ej,Aj7,Uq]
   refine⟨_,_,rfl,rfl,(by rw[Ai,Ai];simp only [ApU,Aqr];lia),?_⟩
   rw[G7]
   refine⟨_,_,rfl,rfl,(by rw[Ai,Ai];simp only [ApQ,ApU,Aqr];lia),?_⟩
   rw[G7,show([61,32,114,111,119,115,40]++cj cl)++[41]=told cl m n false by unfold told wz Pat.Ej;simp]
   exact k _ (.refl _)
  | true =>
   refine⟨_,rfl,_,rfl,DP ?_⟩
   refine⟨rfl,_,rfl,_,_,_,_,rfl,rfl,SqL.of ha,Aax (i:=0) hu0,_,rfl,(by rw[Ai];exact big (by lia)),_,rfl,(by lia),(by rw[Ai];lia),?_⟩
   rw[Ai,e0,Aqc]
   refine Dz (lo:=0) (n:=m) (λi ys H2=>H2=H/\ys=vS ((List.range i).map dec)) ⟨rfl,rfl⟩ ?_ ?_ ?_ ?_
   ·rintro i ys H2 hi ⟨rfl,rfl⟩
    rw[Ay,ApO,Aql]
    exact ApR _
   ·lia
   ·rintro i ys H2 hi ⟨rfl,rfl⟩
    refine BZ.no ?_
    rw[AqC]
    refine⟨_,rfl,_,rfl,AdK (by lia),?_⟩
    rw[Nq]
    exact CN.of hi ⟨rfl,by rw[Dc,Aq3,ApV];rfl⟩
   rintro ys H2 p1 ⟨rfl,rfl⟩ np1
   refine⟨_,_,((List.range m).map dec).map tx,rfl,rfl,SqL.of (by rw[Ae,DG]),?_,?_⟩
   ·have:=js (rg9 m9)
    rw[Aql] at this
    rw[d1,ApO,ApO,Aql]
    lia
   rw[Tf]
   have s1:Ar H2 (upd H2 p1 (.lst (vS ((List.range m).map dec)))):=.upd np1
   generalize upd H2 p1 (.lst (vS ((List.range m).map dec)))=H1 at s1 ⊢
   refine⟨(by show 1<=sizeLine;decide),λq nq=>?_⟩
   have s2:Ar H2 (upd H1 q (.lst (vS [sj (List.range m)]))):=s1.new nq
   have hq2:(upd H1 q (.lst (vS [sj (List.range m)]))) q=some (.lst (vS [sj (List.range m)])):=Ae
   have nqH:H2 q=none:=s1.free nq
   rw[show(upd H1 q (.lst [V.str (tx (jn 32 ((List.range m).map dec)))]))=upd H1 q (.lst (vS [sj (List.range m)])) from rfl]
   generalize upd H1 q (.lst (vS [sj (List.range m)]))=H3 at s2 hq2 ⊢
   refine Bs rfl rfl ?_
   refine⟨(by show 0<=sizeLine;decide),λr nr=>?_⟩
   have s3:Ar H2 (upd H3 r (.lst [])):=s2.new nr
   have hr3:(upd H3 r (.lst [])) r=some (.lst (vS [])):=Ae
   have hq3:=(Ar.upd (o:=.lst []) nr) _ _ hq2
   have nqr:q≠r:=Ak hq2 nr
   have nrH:H2 r=none:=s2.free nr
   generalize upd H3 r (.lst [])=H4 at s3 hr3 hq3 ⊢
   refine Bs rfl rfl ?_
   refine⟨_,rfl,_,rfl,⟨_,SqL.of (s3 _ _ ha)⟩,Dd (K:=K) (a:=a) (xs:=vS cl) (λi σ G=>∃(v4:Option V),σ=[some (.ref a),some (.bl true),some (.ref q),some (.ref r),v4]/\Ar H2 G/\G q=some (.lst (vS [sj (List.range m)]))/\G r=some (.lst (vS ((cl.take i).map λu=>sj (tp u))))) ⟨_,rfl,s3,hq3,hr3⟩ (λi σ G _ ⟨_,_,sG,_⟩=>SqL.of (sG _ _ ha)) ?_ ?_⟩
   ·rintro i xv σ G hx ⟨v4,rfl,sG,hGq,hGr⟩
    obtain⟨u,hu,rfl⟩:=Dh hx
    have ul:=C.hm u (ApY hu)
    have us:=C.sg u (ApY hu)
    have il:i<cl.length:=(zC.mp hu).1
    refine Bs rfl rfl ?_
    refine⟨_,rfl,.inl ⟨rfl,_,SqL.of hGr⟩,rfl,_,rfl,_,rfl,(by rw[Ai];exact big (by lia)),_,rfl,(by lia),(by rw[Ai];lia),?_⟩
    rw[Ai,ul,Aqc]
    refine Dz (lo:=0) (n:=m) (λj ys G2=>G2=G/\ys=vS (((List.range j).filter λk=>decide (u.getD k 0=35)).map dec)) ⟨rfl,rfl⟩ ?_ ?_ ?_ ?_
    ·rintro j ys G2 hj ⟨rfl,rfl⟩
     rw[Ay,ApO]
     exact Aqn (AqB _ _) (by rw[Aql];exact ApR _)
    ·lia
    ·rintro j ys G2 hj ⟨rfl,rfl⟩
     have jl:j<u.length:=by lia
     have gd:u.getD j 0=u[j]:=by rw[Aqj,ApP jl];rfl
     have at1:atI (tx u).cps.toList (0+(j:Int))=some u[j]:=BP (by lia) (by rw[z0,zO,Jf];exact ApP jl)
     have hh:("#" : Str)=⟨#[35]⟩:=by decide +kernel
     unfold BZ
     refine⟨_,rfl,_,rfl,_,_,_,rfl,rfl,(by rw[Ai];exact big (by lia)),at1,rfl,_,rfl,?_⟩
     by_cases c:u[j]=35
     ·refine Ex (by rw[c,hh]) ?_
      rw[AqC]
      refine⟨_,rfl,_,rfl,AdK (by lia),?_⟩
      rw[Nq]
      refine CN.of hj ⟨rfl,?_⟩
      rw[Dc,Aq3,AqR,ApV,AqS (by rw[gd];exact zN c)]
      rfl
     ·refine Cg (λz=>c ?_) ?_
      ·rw[hh] at z
       injection z with z
       exact(List.cons.inj (Fd (a:=[u[j]]) (b:=[35]) z)).1
      refine CN.of hj ⟨rfl,?_⟩
      rw[Aq3,AqR,Arj (by rw[gd,zJ c];exact Aqe),List.filter_nil,Aqv]
    rintro ys G2 p2 ⟨rfl,rfl⟩ np2
    have tpe:((List.range m).filter λk=>decide (u.getD k 0=35))=tp u:=by unfold tp;rw[ul]
    rw[tpe]
    have tb:∀ k∈tp u,k<100:=λk hk=>by
     have:=yI.mp (z8.mp hk).1
     lia
    have tl:(tp u).length<=9:=by
     have:=AqB (λk=>decide (u.getD k 0=35)) (List.range u.length)
     rw[Aql] at this
     unfold tp
     lia
    refine⟨_,_,((tp u).map dec).map tx,rfl,rfl,SqL.of (by rw[Ae,DG]),?_,?_⟩
    ·have:=js tb
     rw[d1,ApO,ApO]
     lia
    rw[Tf]
    have ApM:r≠p2:=Ak hGr np2
    refine⟨_,_,_,rfl,rfl,(Ar.upd np2) _ _ hGr,(by rw[Ay,ApO,Aqf];lia),?_⟩
    rw[Dc]
    refine⟨_,rfl,λb o e=>by rw[Ah (Ak e nrH)];exact(sG.new np2) b o e,by rw[Ah nqr];exact(Ar.upd np2) _ _ hGq,?_⟩
    rw[Ae,Aqd,hu,ApV]
    rfl
   rintro σ G ⟨v4,rfl,sG,hGq,hGr⟩
   rw[Ay,Aqk] at hGr
   have tl:∀ u∈cl.map (λu=>sj (tp u)),u.length<=27:=λv hv=>by
    obtain⟨u,hu,rfl⟩:=yG.mp hv
    have ul:=C.hm u hu
    have tb:∀ k∈tp u,k<100:=λk hk=>by
     have:=yI.mp (z8.mp hk).1
     lia
    have h1:=Q3 tb
    have h2:=AqB (λk=>decide (u.getD k 0=35)) (List.range u.length)
    rw[Aql] at h2
    have h3:(tp u).length<=9:=by unfold tp;lia
    lia
   have jl:=SJ [44,32] (cl.map λu=>sj (tp u)) tl
   rw[ApO] at jl
   simp only [ApU,Aqr] at jl
   have jl2:(jnS [44,32] (cl.map λu=>sj (tp u))).length<=300:=by
    have:cl.length*(27+(0+1+1))<=9*29:=Arc (by lia) (by decide)
    lia
   generalize hus:(cl.map λu=>sj (tp u))=us at hGr tl jl2
   have usl:us.length<=9:=by rw[<- hus,ApO];lia
   refine⟨_,rfl,.inl ⟨rfl,_,SqL.of hGq⟩,rfl,_,rfl,_,_,us.map tx,rfl,rfl,SqL.of (by rw[hGr,DG]),?_,?_⟩
   ·have:=JR us tl
    rw[ApO,Oa,Ai]
    simp only [ApU,Aqr]
    lia
   rw[Oa,S9]
   refine⟨_,_,_,rfl,rfl,hGq,(by show 1<sizeLine;decide),?_⟩
   rw[Dc]
   have s5:Ar H2 (upd G q (.lst (vS ([sj (List.range m)]++[jnS [44,32] us])))):=λb o e=>by rw[Ah (Ak e nqH)];exact sG b o e
   have h5:(upd G q (.lst (vS ([sj (List.range m)]++[jnS [44,32] us])))) q=some (.lst (vS [sj (List.range m),jnS [44,32] us])):=Ae
   generalize upd G q (.lst (vS ([sj (List.range m)]++[jnS [44,32] us])))=H5 at s5 h5 ⊢
   refine⟨_,rfl,.inl ⟨rfl,_,SqL.of h5⟩,rfl,_,rfl,_,_,rfl,.inl (SqL.of (s5 _ _ ha)),_,rfl,(by lia),(by rw[Ay];lia),?_⟩
   rw[Ay,hn,Aqc]
   refine Dz (lo:=0) (n:=n) (λi ys G=>G=H5/\ys=vS ((List.range i).map dec)) ⟨rfl,rfl⟩ ?_ ?_ ?_ ?_
   ·rintro i ys G hi ⟨rfl,rfl⟩
    rw[Ay,ApO,Aql]
    exact ApR _
   ·lia
   ·rintro i ys G hi ⟨rfl,rfl⟩
    refine BZ.no ?_
    rw[AqC]
    refine⟨_,rfl,_,rfl,AdK (by lia),?_⟩
    rw[Nq]
    exact CN.of hi ⟨rfl,by rw[Dc,Aq3,ApV];rfl⟩
   rintro ys G p3 ⟨rfl,rfl⟩ np3
   refine⟨_,_,((List.range n).map dec).map tx,rfl,rfl,SqL.of (by rw[Ae,DG]),?_,?_⟩
   ·have:=js (rg9 n9)
    rw[Aql] at this
    rw[d1,ApO,ApO,Aql]
    lia
   rw[Tf]
   have ApN:q≠p3:=Ak h5 np3
   refine⟨_,_,_,rfl,rfl,(Ar.upd np3) _ _ h5,(by show 2<sizeLine;decide),?_⟩
   rw[Dc]
   have s6:Ar H2 (upd (upd G p3 (.lst (vS ((List.range n).map dec)))) q (.lst (vS ([sj (List.range m),jnS [44,32] us]++[jn 32 ((List.range n).map dec)])))):=λb o e=>by rw[Ah (Ak e nqH)];exact(s5.new np3) b o e
   have h6:(upd (upd G p3 (.lst (vS ((List.range n).map dec)))) q (.lst (vS ([sj (List.range m),jnS [44,32] us]++[jn 32 ((List.range n).map dec)])))) q=some (.lst (vS [sj (List.range m),jnS [44,32] us,sj (List.range n)])):=Ae
   generalize upd (upd G p3 (.lst (vS ((List.range n).map dec)))) q (.lst (vS ([sj (List.range m),jnS [44,32] us]++[jn 32 ((List.range n).map dec)])))=H6 at s6 h6 ⊢
   have l1:=Q3 (rg9 m9)
   have l2:=Q3 (rg9 n9)
   rw[Aql] at l1 l2
   refine⟨rfl,_,rfl,_,_,[sj (List.range m),jnS [44,32] us,sj (List.range n)].map tx,rfl,rfl,SqL.of (by rw[h6,DG]),?_,?_⟩
   ·rw[JS]
    simp only [ApT,AqD,Aqm,List.sum_nil,ApU,Aqr,Ai]
    lia
   rw[JS,S9,Anx]
   have dl:(jnS [32,47,32] [sj (List.range m),jnS [44,32] us,sj (List.range n)]).length<=1000:=by
    have:(jnS [32,47,32] [sj (List.range m),jnS [44,32] us,sj (List.range n)]).length=(sj (List.range m)).length+(3+((jnS [44,32] us).length+(3+(sj (List.range n)).length))):=by
     simp[jnS]
     lia
    lia
   refine⟨_,_,rfl,rfl,(by rw[Ai,Ai];simp only [ApU,Aqr];lia),?_⟩
   rw[G7]
   have:=k H6 s6
   unfold told drT at this
   rw[if_pos rfl,hus] at this
   exact this
def Agc:Sp:=λvs H Q _=>∃ c,vs=[.str ⟨#[c]⟩]/\Q (.str (tx [flip c])) H
theorem Tg(T:Txt K mg t):Bd P w K mg base CX0 1 t.V8 t.V9 ["sign"] Agc:=by
 refine T.Ub.F.ok AaQ (λvs H Q E h=>?_) (λcdv A outer s H vs Q E hr h=>?_)
 ·obtain⟨c,rfl,_⟩:=h
  rfl
 ·obtain⟨c,rfl,k⟩:=h
  refine⟨_,(Ac (Be (Al Ca (pv 0) Am (Aw _))
    (Ad (An Am))
    Aq)
   (Ad (An Am))),?_⟩
  refine⟨_,rfl,rfl,_,rfl,?_⟩
  refine GX (λh=>?_) (λh=>?_)
  ·have e:c=35:=Ah8.mp (h.trans e35.symm)
   rw[e] at k
   rw[show(("." : Str))=tx [46] from by decide +kernel]
   exact k
  ·have e:¬c=35:=λz=>h (by rw[z];exact e35)
   rw[show flip c=35 by unfold flip;rw[if_neg e]] at k
   rw[show(("#" : Str))=tx [35] from by decide +kernel]
   exact k
theorem AeK:∀ l:List (List Nat),((l.map tx).map (·.length)).sum=l.flatten.length:=λl=>by
 induction l with
 | nil=>rfl
 | cons x l ih=>rw[ApT,ApT,Aqm,ih,Aqg,ApQ,Ai]
theorem AeL:(Str.length "")=0:=by decide +kernel
theorem Aie:(("" : Str))=tx []:=by decide +kernel
def fm:Nat->Fm
 | 0=>.nam clW
 | 1=>.one baW clW
 | _=>.one quW clW
def Th (i:Nat):List Nat:=(fm i).word++(fm i).tail
def Ti (i:Nat)(x:List (List Nat)):List (List Nat):=match i with
 | 0=>x
 | 1=>back x
 | _=>GZ x (wdt x)
theorem Anz:(("back(cloth)" : Str))=tx (Th 1):=by decide +kernel
theorem An0:(("quarter(cloth)" : Str))=tx (Th 2):=by decide +kernel
theorem An1:(("cloth" : Str))=tx (Th 0):=by decide +kernel
def AlP (K:W.Frag):Sp:=λvs H Q _=>∃(a:Addr) (x:List (List Nat)) (i:Nat),vs=[.ref a,.int (i:Int)]/\i<=2/\H a=some (.lst (vS x))/\Clo x/\∀ p l H',Ar H H'->H' p=some (.tup [.str (tx (Th i)),.ref l])->H' l=some (.lst (vS (Ti i x)))->Q (.ref p) H'
theorem Abw(T:Txt K mg t):Bd P w K mg base CX0 2 t.M5 t.M6 ["rows", "way"] (AlP K):=by
 refine T.Uc.F.ok Hi (λvs H Q E h=>?_) (λcdv A outer s H vs Q E hr h=>?_)
 ·obtain⟨a,x,i,rfl,_⟩:=h
  rfl
 ·obtain⟨a,x,i,rfl,i2,ha,C,k⟩:=h
  have hsz:sizeLine=16777216:=yA
  have x40:=C.n40
  have AdJ:=C.m40
  have hS:SqL K H a (vS x):=SqL.of ha
  refine⟨_,(Ac (Be (Al Ca (pv 1) Ag (Aw _))
    (Ad (An (Je (Aa Am (Aa (pv 0) Ab)))))
    Aq)
   (Ac (Be (Al Ca (pv 1) Ag (Aw _))
    (Ac (Kd (i:=2) (cok [] ["row"] Hi) rfl Hi.nd rfl rfl (Bf (K:=K) (pv 0)) (λ_ _ _ _ _=>.nil) (λ_ _ _ _ _=>(Bo (K:=K) zI zS zV (CG (K:=K)) Am (Aa (BR (LK.mk (Bl:=[]) (Nc:=["sign"]) rfl (by decide +kernel) (by decide +kernel) (AgL (by decide +kernel)) rfl rfl rfl (by decide +kernel) (λ_ _ h=>by simp at h)) rfl (AiO rfl T.Yz (Aa (pv 0) Ab)) (λ_ _ _ _ _=>.nil) (λ_ _ _ _ _=>(Bb T.Ub (Tg T) hr (Aa (pv 0) Ab)))) Ab))) rfl)
    (Ad (An (Je (Aa Am (Aa (pv 2) Ab))))))
    Aq)
   (Ac (AgT (i:=3) (Kg.mk (Bl:=[0]) (Nc:=["k", "rows"]) rfl rfl (by decide +kernel) (AaD (sc0:=Af Ir) rfl (by decide +kernel)) rfl rfl rfl (by decide +kernel) (λk j h=>match k,h with | 0,h=>by obtain rfl:=Option.some.inj h;exact⟨_,rfl,rfl,rfl⟩ | _+1,h=>by simp at h)) rfl Hi.nd rfl rfl (Ci rfl T.Cv (Aa (Ao Bt rfl T.BK Bq (Aa (Bg (Ax (K:=K)) (pv 0) Ag (λ_ _=>rfl)) Ab)) Ab)) (λ_ _ _ _ _=>.nil) (λ_ _ _ _ _=>(Bo (K:=K) zI zS zV (CG (K:=K)) Am (Aa (BR (LK.mk (Bl:=[0]) (Nc:=["row", "k"]) rfl (by decide +kernel) (by decide +kernel) (AgU (sc0:=Af Ir) rfl (by decide +kernel)) rfl rfl rfl (by decide +kernel) (λk j h=>match k,h with | 0,h=>by obtain rfl:=Option.some.inj h;exact⟨_,rfl,rfl,rfl⟩ | _+1,h=>by simp at h)) rfl (Bf (K:=K) (pv 1)) (λ_ _ _ _ _=>.nil) (λ_ _ _ _ _=>(Bb T.Ub (Tg T) hr (Aa (Bg Hs (pv 0) (pv 1) (λ_ _=>rfl)) Ab)))) Ab))) rfl)
   (Ad (An (Je (Aa Am (Aa (pv 3) Ab)))))))),?_⟩
  refine⟨_,rfl,rfl,_,rfl,?_⟩
  by_cases c1:i=0
  ·subst c1
   refine Ex rfl ?_
   rw[An1]
   exact⟨_,rfl,(by show 2<=sizeLine;decide),λp np=>k p a _ (.upd np) Ae (by rw[Ah (Ak ha np)];exact ha)⟩
  refine Cg (λz=>c1 (by have:=V.int.inj z;lia)) ?_
  refine⟨_,rfl,rfl,_,rfl,?_⟩
  by_cases c2:i=1
  ·subst c2
   refine Ex rfl ?_
   refine⟨_,rfl,_,rfl,⟨_,hS⟩,Bu (K:=K) (a:=a) (xs:=vS x) (λi ys H2=>Ar H H2/\ys=vS (back (x.take i))) ⟨.refl _,rfl⟩ ?_ ?_ ?_ ?_⟩
   ·rintro i ys H2 hi ⟨s2,rfl⟩
    refine⟨s2.seq hS,?_⟩
    unfold back
    rw[Ay,ApO,Aqf]
    lia
   ·rw[Ay];exact Cz x40
   ·rintro i xv ys H2 hi hx ⟨s2,rfl⟩
    obtain⟨u,hu,rfl⟩:=Dh hx
    have hul:=C.hm u (ApY hu)
    refine BZ.no ?_
    refine⟨rfl,_,rfl,_,rfl,(by rw[Ai,hul];exact Cz AdJ),?_⟩
    refine Af7 (z:=tx u) (λj ys H3=>H3=H2/\ys=vS (((u.reverse.take j).map flip).map λc=>[c])) ⟨rfl,rfl⟩ ?_ ?_ ?_ ?_
    ·rintro j ys H3 hj ⟨rfl,rfl⟩
     rw[Ay,ApO,ApO,Aqf]
     lia
    ·rw[Ke,hul];exact Cz AdJ
    ·rintro j c ys H3 hj hc ⟨rfl,rfl⟩
     refine BZ.no ?_
     rw[Ke] at hj hc
     rw[Jf] at hc
     refine⟨_,rfl,c,rfl,?_⟩
     rw[Ke]
     refine CN.of hj ⟨rfl,?_⟩
     rw[Dc,Aqd,List.getElem?_reverse hj,hc,ApV,ApV]
     rfl
    ·rintro ys H3 l ⟨rfl,rfl⟩ nl
     rw[Ke,Aq1 (by rw[AqF];exact ApR _)]
     obtain⟨H4,e9,s3,h3⟩:=nu9 (o:=.lst (vS ((u.reverse.map flip).map λc=>[c]))) s2 nl
     rw[e9]
     have e2:((u.reverse.map flip).map λc=>[c]).flatten=u.reverse.map flip:=(Xg id (u.reverse.map flip)).trans (List.map_id _)
     refine⟨_,_,(((u.reverse.map flip).map λc=>[c]).map tx),rfl,rfl,SqL.of (by rw[h3,DG]),(by rw[AeK,e2,ApO,AqF,AeL,hul,Nat.mul_zero];lia),?_⟩
     rw[Aie,Nv,e2]
     refine CN.of hi ⟨s3,?_⟩
     unfold back
     rw[Dc,Aqd,hu,ApV]
     rfl
   ·rintro ys H2 l ⟨s2,rfl⟩ nl
    rw[Ay,Aqk]
    obtain⟨H9,e9,s9,h9⟩:=nu9 (o:=.lst (vS (back x))) s2 nl
    rw[e9]
    refine Bs rfl rfl ?_
    rw[Anz]
    exact⟨_,rfl,(by show 2<=sizeLine;decide),λp np=>k p l _ (s9.new np) Ae (by rw[Ah (Ak h9 np)];exact h9)⟩
  ·have c3:i=2:=by lia
   subst c3
   refine Cg (λz=>by cases z) ?_
   obtain⟨u0,hu0,AlQ⟩:=C.at C.n1
   refine⟨_,rfl,_,_,_,_,rfl,rfl,hS,Aax (i:=0) hu0,_,rfl,(by rw[Ai,AlQ];exact Cz AdJ),_,rfl,(by lia),(by rw[Ai,AlQ];lia),?_⟩
   rw[Ai,AlQ,Aqc]
   refine Dz (lo:=0) (n:=wdt x) (λi ys H2=>Ar H H2/\ys=vS ((List.range i).map λe=>(col x e).map flip)) ⟨.refl _,rfl⟩ ?_ ?_ ?_ ?_
   ·rintro i ys H2 hi ⟨s2,rfl⟩
    rw[Ay,ApO,Aql]
    exact ApR _
   ·exact Cz AdJ
   ·rintro i ys H2 hi ⟨s2,rfl⟩
    refine BZ.no ?_
    have cl:(col x i).length=x.length:=by unfold col;rw[ApO]
    refine⟨rfl,_,rfl,_,rfl,⟨_,s2.seq hS⟩,Bu (K:=K) (a:=a) (xs:=vS x) (λj ys H3=>H3=H2/\ys=vS ((((col x i).take j).map flip).map λc=>[c])) ⟨rfl,rfl⟩ ?_ ?_ ?_ ?_⟩
    ·rintro j ys H3 hj ⟨rfl,rfl⟩
     refine⟨s2.seq hS,?_⟩
     rw[Ay,ApO,ApO,Aqf]
     lia
    ·rw[Ay];exact Cz x40
    ·rintro j xv ys H3 hj hx ⟨rfl,rfl⟩
     obtain⟨u,hu,rfl⟩:=Dh hx
     have hul:=C.hm u (ApY hu)
     have hiu:i<u.length:=by rw[hul];exact hi
     refine BZ.no ?_
     refine⟨_,rfl,_,rfl,_,_,u[i],rfl,rfl,(by rw[Ai,hul];exact Cz AdJ),BP (by lia) (by rw[z0,Ce];exact ApP hiu),u[i],rfl,?_⟩
     refine CN.of hj ⟨rfl,?_⟩
     have ec:(col x i)[j]?=some u[i]:=by
      unfold col
      rw[ApX,hu]
      show some (u.getD i 0)=_
      rw[Aqj,ApP hiu]
      rfl
     rw[Dc,Aqd,ec,ApV,ApV]
     rfl
    ·rintro ys H3 l ⟨rfl,rfl⟩ nl
     rw[Ay,Aq1 (by rw[cl];exact ApR _)]
     obtain⟨H4,e9,s3,h3⟩:=nu9 (o:=.lst (vS (((col x i).map flip).map λc=>[c]))) s2 nl
     rw[e9]
     have e2:(((col x i).map flip).map λc=>[c]).flatten=(col x i).map flip:=(Xg id ((col x i).map flip)).trans (List.map_id _)
     refine⟨_,_,((((col x i).map flip).map λc=>[c]).map tx),rfl,rfl,SqL.of (by rw[h3,DG]),(by rw[AeK,e2,ApO,cl,AeL,Nat.mul_zero];lia),?_⟩
     rw[Aie,Nv,e2]
     refine CN.of hi ⟨s3,?_⟩
     rw[Dc,Aq3,ApV]
     rfl
   ·rintro ys H2 l ⟨s2,rfl⟩ nl
    have s9:=s2.new (o:=.lst (vS (GZ x (wdt x)))) nl
    have h9:(upd H2 l (.lst (vS (GZ x (wdt x))))) l=some (.lst (vS (GZ x (wdt x)))):=Ae
    rw[show(upd H2 l (.lst (vS ((List.range (wdt x)).map λe=>(col x e).map flip))))=upd H2 l (.lst (vS (GZ x (wdt x)))) from rfl]
    generalize upd H2 l (.lst (vS (GZ x (wdt x))))=H9 at s9 h9 ⊢
    refine Bs rfl rfl ?_
    rw[An0]
    exact⟨_,rfl,(by show 2<=sizeLine;decide),λp np=>k p l _ (s9.new np) Ae (by rw[Ah (Ak h9 np)];exact h9)⟩
def AdL:Sp:=λvs H Q _=>∃ n:Nat,vs=[.str (tx (dec n))]/\n<100/\∀ H',Ar H H'->Q (.int (n:Int)) H'
theorem Zy(T:Txt K mg t):Bd P w K mg base CX0 1 t.RJ t.RK ["word"] AdL:=by
 refine T.Yw.F.ok O4 (λvs H Q E h=>?_) (λcdv A outer s H vs Q E hr h=>?_)
 ·obtain⟨n,rfl,_⟩:=h
  rfl
 ·obtain⟨n,rfl,hn,k⟩:=h
  have D:=dec_is hn
  have l1:=D.l1
  have l2:=D.l2
  refine⟨_,(Ac (Be (PW.pt (pw_or (Al Ca (pv 0) Am (Aw _)) (pw_or (Al Jr (Ao Bt rfl T.BK Bq (Aa (pv 0) Ab)) Ag (Aw _)) (pw_or1 (Dg (Cr (Ao (Ju (K:=K)) rfl T.Acw Xj (Aa (BR (cok [] ["sign"] O4) rfl (Xd (pv 0)) (λ_ _ _ _ _=>.nil) (λ_ _ _ _ _=>(Dm Nr (pv 0) Am rfl))) Ab))))))))
    (Ad (An (Uv Lz Ag)))
    Aq)
   (Ad (An (Cp ZD rfl T.AjZ Ag0 (Aa (pv 0) Ab))))),?_⟩
  rw[JV]
  refine⟨_,rfl,rfl,_,rfl,?_⟩
  refine Cg (Lr (λz=>by rw[z] at l1;cases l1)) ?_
  refine⟨_,rfl,_,rfl,(by rw[Ai];exact big (by lia)),_,_,rfl,rfl,_,rfl,?_⟩
  rw[Ai]
  refine Cg (by lia) ?_
  refine⟨_,rfl,_,rfl,Xe (z:=tx (dec n)) (λi ys H2=>H2=H/\ys=vB (List.replicate i true)) ⟨rfl,rfl⟩ ?_ ?_ ?_ ?_⟩
  ·rintro i ys H2 hi ⟨rfl,rfl⟩
   rw[Qi,AqO]
   exact ApR _
  ·rw[Ke];exact big (by lia)
  ·rintro i c ys H2 hi hc ⟨rfl,rfl⟩
   refine BZ.no ?_
   have hu':(dec n)[i]?=some c:=by
    rw[<- Ce (dec n),zO]
    exact hc
   have dc:=D.dg c (ApY hu')
   refine⟨_,rfl,_,_,rfl,rfl,?_⟩
   rw[Ahi,Ss,zN (Y9.mpr dc)]
   exact CN.of hi ⟨rfl,by rw[Qj,<- Ark]⟩
  ·rintro ys H2 q ⟨rfl,rfl⟩ hq
   refine⟨_,_,rfl,SqL.of Ae,_,rfl,?_⟩
   rw[show(List.replicate (tx (dec n)).cps.size true).all id=true by simp]
   refine DP ?_
   have e:=PySem.intText_digits (x:=tx (dec n)) (by rw[Ce];exact D.dg) (by rw[Ce];intro z;rw[z] at l1;cases l1) (by rw[Ai];lia)
   rw[Ce,D.v] at e
   exact⟨_,rfl,_,n,rfl,e,(by rw[Ai];lia),k _ (.upd hq)⟩
theorem Aif:∀{p:List Nat},p≠[]->BJ p=jn 45 (p.map dec)
 | [],h=>absurd rfl h
 | n::r,_=>by
  have key:∀(r:List Nat) (x:List Nat),x++tails r=jn 45 (x::r.map dec):=λr=>by
   induction r with
   | nil=>intro x;show x++[]=x;rw[Aqv]
   | cons y r ih =>
    intro x
    show x++(45::(dec y++tails r))=x++45::jn 45 (dec y::r.map dec)
    rw[ih]
  exact key r (dec n)
theorem Akn(pss:List (List Nat)):rT pss=jn 32 (pss.map BJ):=by
 cases pss with
 | nil=>rfl
 | cons p r =>
  have key:∀(r:List (List Nat)) (x:List Nat),x++more r=jn 32 (x::r.map BJ):=λr=>by
   induction r with
   | nil=>intro x;show x++[]=x;rw[Aqv]
   | cons y r ih =>
    intro x
    show x++(32::(BJ y++more r))=x++32::jn 32 (BJ y::r.map BJ)
    rw[ih]
  exact key r (BJ p)
theorem Abx{n c:Nat}(h:n<100)(hc:c<48):c∉dec n:=λz=>by have:=(dec_is h).dg c z;lia
theorem Aj8{p:List Nat}(h:∀ n∈p,n<100):32∉BJ p:=by
 cases p with
 | nil=>exact λz=>by cases z
 | cons n r =>
  have key:∀(r:List Nat),(∀ n∈r,n<100)->32∉tails r:=λr=>by
   induction r with
   | nil=>intro _ z;cases z
   | cons y r ih =>
    intro h z
    rcases yH.mp (show 32∈45::(dec y++tails r) from z) with z | z
    ·cases z
    ·rcases zG.mp z with z | z
     ·exact Abx (h y ApS) (by decide) z
     ·exact ih (λn hn=>h n (ApW _ hn)) z
  intro z
  rcases zG.mp (show 32∈dec n++tails r from z) with z | z
  ·exact Abx (h n ApS) (by decide) z
  ·exact key r (λn hn=>h n (ApW _ hn)) z
theorem Agd{l:List Int}{k:Nat}(h1:1<=k)(h2:k<l.length):DN (l.take (k+1))=DN (l.take k)++Gg (l.getD (k-1) 0) (l.getD k 0):=by
 cases l with
 | nil=>cases h2
 | cons a r =>
  obtain⟨j,rfl⟩:∃ j,k=j+1:=⟨k-1,by lia⟩
  have hj:j<r.length:=by simp only [ApU] at h2;lia
  show a::go a (r.take (j+1))=(a::go a (r.take j))++_
  rw[Aqd,ApP hj,Ar7,NP,Ahv]
  have e2:(a::r).getD (j+1) 0=r[j]:=by
   show r.getD j 0=_
   rw[Aqj,ApP hj]
   rfl
  rw[e2]
  ·rfl
  ·lia
theorem Ako:∀(a:Int) (r:List Int) (j:Nat),(go a (r.take j)).length<=(go a r).length
 | a,[],j=>by rw[List.take_nil];exact ApR _
 | a,b::r,0=>Aqb _
 | a,b::r,j+1=>by
  have:=Ako b r j
  rw[Aq4,go,go,ApQ,ApQ]
  lia
theorem Aj9(l:List Int)(j:Nat):(DN (l.take j)).length<=(DN l).length:=by
 cases l with
 | nil=>rw[List.take_nil];exact ApR _
 | cons a r =>
  cases j with
  | zero=>exact Aqb _
  | succ j=>exact Nat.succ_le_succ (Ako a r j)
theorem Aig{G:Prop}{R:Int->Prop}(C:Int->Prop)(main:(∀ x,C x->R x)->G)(rest:∀ x,C x->R x):G:=main rest
theorem AlR{i:Nat}{v:V}{σ σ':St}{H:Hp}{b:TS}{D:Ends}(h:σ.set i (some v)=σ')(k:b D σ' H):Aml (Agj (tC v) (Jq i)) b D σ H:=by subst h;exact k
def AjA:Sp:=λvs H Q _=>∃(pss:List (List Nat)),vs=[.str (tx (rT pss))]/\(∀ p∈pss,Okp p)/\pss.length<=900/\(rT pss).length<=1000000/\(nT pss).length<=400/\∀ q H',Ar H H'->H q=none->H' q=some (.lst (vI (nT pss)))->Q (.ref q) H'
theorem Wi(T:Txt K mg t):Bd P w K mg base CX0 2 t.HW t.HX ["text"] AjA:=by
 refine T.Hl.F.ok Cm (λvs H Q E h=>?_) (λcdv A outer s H vs Q E hr h=>?_)
 ·obtain⟨pss,rfl,_⟩:=h
  rfl
 ·obtain⟨pss,rfl,hO,hl,ul,Ane,k⟩:=h
  have hsz:sizeLine=16777216:=yA
  refine⟨_,(Ac (Az (i:=1) Cm.nd rfl (Or.inl rfl) (CJ Ab))
   (Ac (Be (Al Ca (pv 0) Am (Aw _))
    (Ad (An (pv 1)))
    Aq)
   (Ac (Cj PassesOwn.never rfl (Bf (K:=K) (Bo (K:=K) zI zY z7 Ma (pv 0) (Aa Am Ab))) (Br (i:=2) Cm.nd rfl (Or.inl rfl))
    (Ac (Kd (i:=3) (cok [] ["word"] Cm) rfl Cm.nd rfl rfl (Bf (K:=K) (Bo (K:=K) zI zY z7 Ma (pv 2) (Aa Am Ab))) (λ_ _ _ _ _=>.nil) (λ_ _ _ _ _=>(Bb T.Yw (Zy T) hr (Aa (pv 0) Ab))) rfl)
    (Ac (Bp (Bo (K:=K) zM zL zQ Cq (pv 1) (Aa (Bg (Ax (K:=K)) (pv 3) Ag (λ_ _=>rfl)) Ab)))
    (Ad (Cj PassesOwn.never rfl (Tp rfl T.Cv (Aa Ag (Aa (Ao (Av (K:=K)) rfl T.BK Bq (Aa (pv 3) Ab)) Ab))) (Br (i:=4) Cm.nd rfl (Or.inl rfl))
     (Ac (Az (i:=5) Cm.nd rfl (Or.inl rfl) Ag)
     (Ac (Be (Al K3 (Bg (Ax (K:=K)) (pv 3) (pv 4) (λ_ _=>rfl)) (Bg (Ax (K:=K)) (pv 3) (Bx FN (pv 4) Ag) (λ_ _=>rfl)) (Aw _))
      (Ad (Az (i:=5) Cm.nd rfl (Or.inl rfl) (Uv Lz Ag)))
      Aq)
     (Ad (Cj PassesOwn.never rfl (Tp rfl T.Cv (Aa Ag (Aa (Bx Eu (Ao WN rfl T.AgZ Adl (Aa (Bx FN (Bg (Ax (K:=K)) (pv 3) (pv 4) (λ_ _=>rfl)) (Bg (Ax (K:=K)) (pv 3) (Bx FN (pv 4) Ag) (λ_ _=>rfl))) Ab)) Ag) Ab))) (Br (i:=6) Cm.nd rfl (Or.inl rfl))
      (Ad (Bp (Bo (K:=K) zM zL zQ Cq (pv 1) (Aa (Bx Eu (Bg (Ax (K:=K)) (pv 3) (Bx FN (pv 4) Ag) (λ_ _=>rfl)) (Bx Agk (pv 5) (pv 6))) Ab)))))))))))))
   (Ad (An (pv 1)))))),?_⟩
  rw[JV]
  refine⟨(by show 0<=sizeLine;decide),λq nq=>?_⟩
  have s1:Ar H (upd H q (.lst [])):=.upd nq
  have h1:(upd H q (.lst [])) q=some (.lst (vI [])):=Ae
  generalize upd H q (.lst [])=H1 at s1 h1 ⊢
  refine Bs rfl rfl ?_
  refine⟨_,rfl,rfl,_,rfl,?_⟩
  by_cases c:pss=[]
  ·subst c
   refine Ex rfl ?_
   exact⟨_,rfl,k q H1 s1 nq h1⟩
  have ne:rT pss≠[]:=λz=>by
   cases pss with
   | nil=>exact c rfl
   | cons p r =>
    have:=(hO p ApS)
    cases p with
    | nil=>exact absurd this.ne (by decide)
    | cons n p =>
     have l1:=(dec_is (this.bd n ApS)).l1
     have e:(dec n++tails p)++more r=[]:=z
     have:=congrArg List.length e
     rw[ApQ,ApQ,Aqr] at this
     lia
  refine Cg (Lr ne) ?_
  refine⟨_,rfl,rfl,rT pss,32,pss.map BJ,rfl,rfl,(by decide),(by lia),(by simpa using c),(Akn pss).symm,(λw hw=>?_),λlp nlp=>?_⟩
  ·obtain⟨p,hp,rfl⟩:=yG.mp hw
   exact Aj8 (hO p hp).bd
  have s2:Ar H (upd H1 lp (.lst (vS (pss.map BJ)))):=s1.new nlp
  have h2:(upd H1 lp (.lst (vS (pss.map BJ)))) lp=some (.lst (vS (pss.map BJ))):=Ae
  have hq2:=(Ar.upd (o:=.lst (vS (pss.map BJ))) nlp) _ _ h1
  have npq:lp≠q:=λz=>by rw[z,h1] at nlp;cases nlp
  generalize upd H1 lp (.lst (vS (pss.map BJ)))=H2 at s2 h2 hq2 ⊢
  have AeM:∀ i p,pss[i]?=some p->nT (pss.take (i+1))=nT (pss.take i)++DN (ofN p):=λi p hp=>by
   unfold nT
   rw[Aqd,hp,ApV,ApV,AqG]
   simp
  have An2:∀ i,(nT (pss.take i)).length<=400:=λi=>by
   have e:nT pss=nT (pss.take i)++nT (pss.drop i):=by
    unfold nT
    rw[<- AqG,<- ApV,<- ApV,AqK]
   rw[e,ApQ] at Ane
   lia
  refine⟨_,rfl,⟨_,SqL.of h2⟩,Dd (K:=K) (a:=lp) (xs:=vS (pss.map BJ)) (λi σ G=>∃(v2 v3 v4 v5 v6:Option V),σ=[some (.str (tx (rT pss))),some (.ref q),v2,v3,v4,v5,v6]/\Ar H G/\G lp=some (.lst (vS (pss.map BJ)))/\G q=some (.lst (vI (nT (pss.take i))))) ⟨_,_,_,_,_,rfl,s2,h2,hq2⟩ (λi σ G _ ⟨_,_,_,_,_,_,_,e,_⟩=>SqL.of e) ?_ ?_⟩
  ·rintro i xv σ G hx ⟨v2,v3,v4,v5,v6,rfl,sG,hGl,hGq⟩
   obtain⟨u,hu,rfl⟩:=Dh hx
   rw[ApX] at hu
   obtain⟨p,hp,rfl⟩:=zU.mp hu
   have okp:=hO p (ApY hp)
   have pne:p≠[]:=λz=>by rw[z] at okp;exact absurd okp.ne (by decide)
   have ple:=okp.le
   have pl1:=okp.ne
   have pul:(BJ p).length<=1000000:=by
    have:=AhW (c:=32) (List.mem_map_of_mem (f:=BJ) (ApY hp))
    rw[<- Akn] at this
    lia
   refine Bs rfl rfl ?_
   refine⟨_,rfl,rfl,BJ p,45,p.map dec,rfl,rfl,(by decide),(by lia),(by simpa using pne),(Aif pne).symm,(λw hw=>?_),λl2 nl2=>?_⟩
   ·obtain⟨n,hn,rfl⟩:=yG.mp hw
    exact Abx (okp.bd n hn) (by decide)
   obtain⟨G1,e9,g1,hl2⟩:=nu9 (o:=.lst (vS (p.map dec))) (.refl _) nl2
   rw[e9]
   refine⟨_,rfl,⟨_,SqL.of hl2⟩,Bu (K:=K) (a:=l2) (xs:=vS (p.map dec)) (λj ys G2=>Ar G1 G2/\ys=vI (ofN (p.take j))) ⟨.refl _,rfl⟩ ?_ ?_ ?_ ?_⟩
   ·rintro j ys G2 hj ⟨g2,rfl⟩
    refine⟨SqL.of (g2 _ _ hl2),?_⟩
    rw[Bm]
    unfold ofN
    rw[ApO,Aqf]
    lia
   ·rw[Ay,ApO];lia
   ·rintro j xv ys G2 hj hxv ⟨g2,rfl⟩
    obtain⟨w,hw,rfl⟩:=Dh hxv
    rw[ApX] at hw
    obtain⟨n,hn,rfl⟩:=zU.mp hw
    refine BZ.no ?_
    refine⟨_,rfl,n,rfl,okp.bd n (ApY hn),λG3 g3=>?_⟩
    refine CN.of hj ⟨g2.trans g3,?_⟩
    unfold ofN vI
    rw[Aqd,hn,ApV,ApV]
    rfl
   rintro ys G2 l3 ⟨g2,rfl⟩ nl3
   rw[Ay,ApO,Aqk]
   have n3q:q≠l3:=Ak ((g1.trans g2) _ _ hGq) nl3
   obtain⟨G3,e9,g3,hl3⟩:=nu9 (o:=.lst (vI (ofN p))) (g1.trans g2) nl3
   rw[e9]
   have hq3:=g3 _ _ hGq
   refine Bs rfl rfl ?_
   have Akp:∀ j,(nT (pss.take i)).length+(DN ((ofN p).take j)).length<=400:=λj=>by
    have h:=An2 (i+1)
    rw[AeM i p hp,ApQ] at h
    have:(DN ((ofN p).take j)).length<=(DN (ofN p)).length:=Aj9 _ _
    lia
   have opl:(ofN p).length=p.length:=by unfold ofN;rw[ApO]
   have gtd:∀ j,j<p.length->(vI (ofN p))[j]?=some (.int ((ofN p).getD j 0)):=λj hj=>Eb (by rw[Aqj,ApP (by lia)];rfl)
   have a0:atI (vI (ofN p)) 0=some (.int ((ofN p).getD 0 0)):=BP (by decide) (gtd 0 (by lia))
   have e0:DN ((ofN p).take 1)=[(ofN p).getD 0 0]:=by
    cases p with
    | nil=>exact absurd rfl pne
    | cons x r=>rfl
   have b0:=Akp 1
   rw[e0] at b0
   refine⟨_,rfl,.inl ⟨rfl,_,SqL.of hq3⟩,_,rfl,_,_,_,_,rfl,rfl,SqL.of hl3,a0,_,_,_,rfl,rfl,hq3,(by rw[Bm];simp only [ApU,Aqr] at b0;lia),?_⟩
   have An3:∀(l:List Int) (z:Int),vI l++[V.int z]=vI (l++[z]):=λl z=>by unfold vI;rw[ApV];rfl
   rw[An3]
   have s4:Ar H (upd G3 q (.lst (vI (nT (pss.take i)++[(ofN p).getD 0 0])))):=λb o e=>by rw[Ah (Ak e nq)];exact(sG.trans g3) b o e
   have hl4:(upd G3 q (.lst (vI (nT (pss.take i)++[(ofN p).getD 0 0])))) l3=some (.lst (vI (ofN p))):=by rw[Ah n3q.symm];exact hl3
   have hp4:(upd G3 q (.lst (vI (nT (pss.take i)++[(ofN p).getD 0 0])))) lp=some (.lst (vS (pss.map BJ))):=by rw[Ah npq];exact g3 _ _ hGl
   have hq4:(upd G3 q (.lst (vI (nT (pss.take i)++[(ofN p).getD 0 0])))) q=some (.lst (vI (nT (pss.take i)++DN ((ofN p).take 1)))):=by rw[Ae,e0]
   generalize upd G3 q (.lst (vI (nT (pss.take i)++[(ofN p).getD 0 0])))=G4 at s4 hl4 hp4 hq4 ⊢
   refine⟨_,rfl,_,_,rfl,.inl (SqL.of hl4),_,_,rfl,⟨by decide,by decide,by rw[Bm];lia,by rw[Bm];lia⟩,?_⟩
   rw[Bm,opl]
   refine Di (lo:=1) (n:=((p.length:Int)-1).toNat) (λj σ G5=>∃(v4 v5 v6:Option V),σ=[some (.str (tx (rT pss))),some (.ref q),some (.str (tx (BJ p))),some (.ref l3),v4,v5,v6]/\Ar H G5/\G5 l3=some (.lst (vI (ofN p)))/\G5 lp=some (.lst (vS (pss.map BJ)))/\G5 q=some (.lst (vI (nT (pss.take i)++DN ((ofN p).take (j+1)))))) ⟨_,_,_,rfl,s4,hl4,hp4,hq4⟩ ?_ ?_
   ·rintro j σ G5 hj ⟨v4,v5,v6,rfl,s5,hl5,hp5,hq5⟩
    have jl:j+1<p.length:=by lia
    obtain⟨st0,An4⟩:∃ z:Int,z=1:=⟨_,rfl⟩
    refine AlR (i:=5) (v:=.int 1) (σ':=[some (.str (tx (rT pss))),some (.ref q),some (.str (tx (BJ p))),some (.ref l3),some (.int (1+(j:Int))),some (.int st0),v6]) (by rw[An4];rfl) ?_
    have at1:atI (vI (ofN p)) (1+(j:Int))=some (.int ((ofN p).getD (j+1) 0)):=BP (by lia) (by rw[show(1+(j:Int)).toNat=j+1 by lia];exact gtd _ jl)
    have at2:atI (vI (ofN p)) (1+(j:Int)-1)=some (.int ((ofN p).getD j 0)):=BP (by lia) (by rw[show(1+(j:Int)-1).toNat=j by lia];exact gtd _ (by lia))
    have pt:=Agd (l:=ofN p) (k:=j+1) (by lia) (by lia)
    rw[show j+1-1=j from rfl] at pt
    have bl:=Akp (j+1+1)
    rw[pt,ApQ] at bl
    generalize (ofN p).getD (j+1) 0=y at at1 pt bl
    generalize (ofN p).getD j 0=x at at2 pt bl
    apply Aig (λst=>st=if y-x<0 then -1 else 1)
    ·intro rest
     obtain⟨st,hst⟩:∃ z,z=st0:=⟨_,rfl⟩
     rw[<- hst]
     refine⟨_,rfl,_,rfl,_,_,_,_,rfl,rfl,SqL.of hl5,at1,_,rfl,_,rfl,_,_,rfl,rfl,_,_,_,_,rfl,rfl,SqL.of hl5,at2,_,_,rfl,rfl,_,rfl,?_⟩
     refine GX ?tt ?ff
     case ff=>exact λc=>rest st (by rw[hst,An4,if_neg (by lia)])
     case tt =>
      intro c
      exact⟨_,rfl,rest (-1) (by rw[if_pos (by lia)])⟩
    rintro st hst
    have sl:=Nb x y
    have ab:(if y-x<0 then -(y-x) else y-x)=Ug (y-x):=rfl
    refine⟨_,rfl,_,rfl,_,_,_,_,rfl,rfl,SqL.of hl5,at1,_,rfl,_,rfl,_,_,rfl,rfl,_,_,_,_,rfl,rfl,SqL.of hl5,at2,_,_,rfl,rfl,_,rfl,_,_,rfl,rfl,_,_,rfl,⟨by decide,by decide,by rw[ab];lia,by rw[ab];lia⟩,?_⟩
    rw[ab]
    refine Di (lo:=1) (n:=(Ug (y-x)+1-1).toNat) (λf σ G6=>∃(v6:Option V),σ=[some (.str (tx (rT pss))),some (.ref q),some (.str (tx (BJ p))),some (.ref l3),some (.int (1+(j:Int))),some (.int st),v6]/\Ar H G6/\G6 l3=some (.lst (vI (ofN p)))/\G6 lp=some (.lst (vS (pss.map BJ)))/\G6 q=some (.lst (vI (nT (pss.take i)++DN ((ofN p).take (j+1))++(Gg x y).take f)))) ⟨_,rfl,s5,hl5,hp5,by rw[List.take_zero,Aqv];exact hq5⟩ ?_ ?_
    ·rintro f σ G6 hf ⟨v6,rfl,s6,hl6,hp6,hq6⟩
     refine Bs rfl rfl ?_
     have fl:f<(Gg x y).length:=by lia
     have sg:=Y7 (a:=x) (b:=y) (q:=f+1) (by lia) (by lia)
     rw[show f+1-1=f from rfl,<- hst] at sg
     refine⟨_,rfl,.inl ⟨rfl,_,SqL.of hq6⟩,_,rfl,_,rfl,_,_,rfl,rfl,_,_,_,_,rfl,rfl,SqL.of hl6,at2,_,rfl,_,rfl,_,_,rfl,rfl,?_,_,_,rfl,rfl,_,_,_,rfl,rfl,hq6,(by rw[Bm,ApQ,ApQ,Aqf];lia),?_⟩
     ·rw[hst]
      split
      ·exact .inl ⟨by decide,by decide⟩
      ·exact .inl ⟨by decide,by decide⟩
     rw[An3]
     refine⟨_,rfl,(λb o e=>by rw[Ah (Ak e nq)];exact s6 b o e),by rw[Ah n3q.symm];exact hl6,by rw[Ah npq];exact hp6,?_⟩
     have te:(Gg x y).take (f+1)=(Gg x y).take f++[x+st*(1+(f:Int))]:=by
      rw[Aqd,sg,show(((f+1:Nat):Int))=1+(f:Int) by lia]
      rfl
     rw[Ae,te,<- Aqz]
    ·rintro σ G6 ⟨v6,rfl,s6,hl6,hp6,hq6⟩
     refine⟨_,_,_,rfl,s6,hl6,hp6,?_⟩
     rw[hq6,pt,Aq1 (l:=Gg x y) (by lia),Aqz]
   ·rintro σ G5 ⟨v4,v5,v6,rfl,s5,hl5,hp5,hq5⟩
    refine⟨_,_,_,_,_,rfl,s5,hp5,?_⟩
    rw[hq5,AeM i p hp,Aq1 (l:=ofN p) (by rw[opl];lia)]
  ·rintro σ G ⟨v2,v3,v4,v5,v6,rfl,sG,hGl,hGq⟩
   rw[Ay,ApO,Aqk] at hGq
   exact⟨_,rfl,k q G sG nq hGq⟩
theorem AlS{i:Nat}{v:V}{σ σ':St}{H:Hp}{Kt:St->Hp->Prop}(h:σ.set i (some v)=σ')(k:Kt σ' H):Jq i v σ H Kt:=by subst h;exact k
def An5 (K:W.Frag):Sp:=λvs H Q _=>∃(a:Addr) (l:List (List Nat)),vs=[.ref a]/\SqL K H a (vI (nts (num l)))/\Q (.bl true) H
theorem Jb(T:Txt K mg t):Bd P w K mg base CX0 1 t.JG t.JH ["row"] (An5 K):=by
 refine T.Ia.F.ok Eg (λvs H Q E h=>?_) (λcdv A outer s H vs Q E hr h=>?_)
 ·obtain⟨a,l,rfl,_⟩:=h
  rfl
 ·obtain⟨a,l,rfl,hS,k⟩:=h
  refine⟨_,(Ac (Az (i:=1) Eg.nd rfl (Or.inl rfl) (Uv Lz Ag))
   (Ac (Cj PassesOwn.never rfl (Bf (K:=K) (pv 0)) (Br (i:=2) Eg.nd rfl (Or.inl rfl))
    (Ac (Be (PW.pt (pw_or (Al K3 (pv 2) Ag (Aw _)) (pw_or1 (Al Jr (pv 2) (Bx Eu (pv 1) Ag) (Aw _)))))
     (Ad (An Ew))
     Aq)
    (Ad (Az (i:=1) Eg.nd rfl (Or.inl rfl) (Ao Adk rfl T.Aka Agy (Aa (pv 1) (Aa (pv 2) Ab)))))))
   (Ad (An Ew)))),?_⟩
  refine⟨_,rfl,?_⟩
  refine⟨_,rfl,_,rfl,⟨_,hS⟩,Dd (K:=K) (a:=a) (xs:=vI (nts (num l))) (λi σ H2=>∃ v,σ=[some (.ref a),some (.int (((unl (l.take i)).length:Int)-1)),v]/\H2=H) ⟨none,rfl,rfl⟩ (λi σ H2 _ ⟨_,_,q⟩=>q▸hS) ?_ ?_⟩
  ·rintro i xv σ H2 hx ⟨v,rfl,rfl⟩
   obtain⟨z,hz,rfl⟩:=Kf hx
   obtain⟨y,hy,rfl⟩:=AgP hz
   have hi:i<l.length:=by have:=(zC.mp hy).1;rwa [Dt] at this
   have hl:=ApP hi
   have ey:=AaL hl
   rw[hy] at ey
   have ey:=Option.some.inj ey
   have st:=AgQ hl
   rw[<- ey] at st
   refine⟨_,rfl,_,_,rfl,rfl,_,rfl,?_⟩
   refine Cg (by lia) ?_
   refine⟨_,rfl,_,rfl,_,_,rfl,rfl,_,_,rfl,rfl,_,rfl,?_⟩
   refine Cg (by lia) ?_
   refine⟨_,rfl,_,rfl,_,_,rfl,?_⟩
   refine AlS (σ':=[some (.ref a),some (.int (((unl (l.take (i+1))).length:Int)-1)),some (.int (y:Int))]) ?_ ⟨_,rfl,rfl⟩
   have:(if (y:Int)>((unl (l.take i)).length:Int)-1 then (y:Int) else ((unl (l.take i)).length:Int)-1)=((unl (l.take (i+1))).length:Int)-1:=by split <;> lia
   show[some (V.ref a),some (V.int (if (y:Int)>((unl (l.take i)).length:Int)-1 then (y:Int) else ((unl (l.take i)).length:Int)-1)),some (V.int (y:Int))]=_
   rw[this]
  ·rintro σ H2 ⟨v,rfl,rfl⟩
   exact k
def AlT:Sp:=λvs H Q _=>∃(a:Addr) (ks:List Int),vs=[.ref a]/\H a=some (.lst (vI ks))/\Rs ks/\∀ H',Ar H H'->Q (.bl true) H'
theorem Zz(T:Txt K mg t):Bd P w K mg base CX0 1 t.RL t.RM ["tie"] AlT:=by
 refine T.Yx.F.ok O5 (λvs H Q E h=>?_) (λcdv A outer s H vs Q E hr h=>?_)
 ·obtain⟨a,ks,rfl,_⟩:=h
  rfl
 ·obtain⟨a,ks,rfl,ha,R,k⟩:=h
  have k40:=Ajp R
  have hsz:sizeLine=16777216:=yA
  refine⟨_,(Ad (An (Ao (Ju (K:=K)) rfl T.Acw Xj (Aa (BR (cok [0] ["k", "tie"] O5) rfl (Ci rfl T.Cv (Aa (Bx FN (Ao (Av (K:=K)) rfl T.BK Bq (Aa (pv 0) Ab)) Ag) Ab)) (λ_ _ _ _ _=>.nil) (λ_ _ _ _ _=>(Dm K3 (Bg (Ax (K:=K)) (pv 1) (pv 0) (λ_ _=>rfl)) (Bg (Ax (K:=K)) (pv 1) (Bx Eu (pv 0) Ag) (λ_ _=>rfl)) (Aw _)))) Ab)))),?_⟩
  refine⟨_,rfl,_,_,rfl,.inl (SqL.of ha),_,_,rfl,rfl,_,rfl,(by rw[Bm];lia),(by rw[Bm];lia),?_⟩
  rw[Bm,show((ks.length:Int)-1).toNat=ks.length-1 by lia]
  refine Dz (lo:=0) (n:=ks.length-1) (λi ys H2=>H2=H/\ys=vB (List.replicate i true)) ⟨rfl,rfl⟩ ?_ ?_ ?_ ?_
  ·rintro i ys H2 hi ⟨rfl,rfl⟩
   rw[Qi,AqO]
   exact ApR _
  ·lia
  ·rintro i ys H2 hi ⟨rfl,rfl⟩
   refine BZ.no ?_
   have i0:i<ks.length:=by lia
   have i1:i+1<ks.length:=by lia
   have e1:atI (vI ks) (0+(i:Int))=some (.int ks[i]):=BP (by lia) (by rw[z0];exact Eb (ApP i0))
   have e2:atI (vI ks) (0+(i:Int)+1)=some (.int ks[i+1]):=BP (by lia) (by rw[show(0+(i:Int)+1).toNat=i+1 by lia];exact Eb (ApP i1))
   have up:=R.1 i ks[i] ks[i+1] (ApP i0) (ApP i1)
   refine⟨_,rfl,_,rfl,_,_,_,_,rfl,rfl,SqL.of ha,e1,_,rfl,_,rfl,_,_,rfl,rfl,_,_,_,_,rfl,rfl,SqL.of ha,e2,_,_,rfl,rfl,?_⟩
   show CN _ _ i (_++[V.bl (decide (ks[i]<ks[i+1]))]) H2
   rw[zN up]
   exact CN.of hi ⟨rfl,by rw[Qj,<- Ark]⟩
  ·rintro ys H2 q ⟨rfl,rfl⟩ hq
   refine⟨_,_,rfl,SqL.of Ae,?_⟩
   rw[show(List.replicate (ks.length-1) true).all id=true by simp]
   exact k _ (.upd hq)
theorem An6{th tr:List Int}{tss:List (List Int)}{cl:List (List Nat)}{j e:Nat}(w:wv th tss tr=cl)(hj:j<tr.length)(he:e<th.length):∃ u,cl[j]?=some u/\u[e]?=some (if th[e]∈tss.getD (tr[j]).toNat [] then 35 else 46):=by
 refine⟨shd th (tss.getD (tr[j]).toNat []),?_,?_⟩
 ·rw[<- w]
  unfold wv
  rw[ApX,ApP hj]
  rfl
 ·unfold shd
  rw[ApX,ApP he]
  rfl
theorem NL.get{H:Hp}{y:Addr}{rs:List Addr}{tss:List (List Int)}(N:NL H y rs tss){i:Nat}{ks:List Int}(h:tss[i]?=some ks):∃ a,(rs.map V.ref)[i]?=some (.ref a)/\H a=some (.lst (vI ks)):=by
 have hi:i<rs.length:=by rw[N.l];exact(zC.mp h).1
 exact⟨rs[i],by rw[ApX,ApP hi];rfl,N.r i _ _ (ApP hi) h⟩
def AjB:Sp:=λvs H Q _=>∃(x y z a:Addr) (rs:List Addr) (th:List Int) (tss:List (List Int)) (tr:List Int) (cl:List (List Nat)) (m n:Nat),vs=[.ref x,.ref y,.ref z,.ref a]/\H x=some (.lst (vI th))/\NL H y rs tss/\H z=some (.lst (vI tr))/\H a=some (.lst (vS cl))/\Cl cl m n/\Ft th tss tr/\th.length=m/\tr.length=n/\wv th tss tr=cl/\Q (.bl true) H
theorem Z0(T:Txt K mg t):Bd P w K mg base CX0 1 t.RN t.RP ["threading", "ties", "treading", "rows"] AjB:=by
 refine T.Yy.F.ok Jk (λvs H Q E h=>?_) (λcdv A outer s H vs Q E hr h=>?_)
 ·obtain⟨x,y,z,a,rs,th,tss,tr,cl,m,n,rfl,_⟩:=h
  rfl
 ·obtain⟨x,y,z,a,rs,th,tss,tr,cl,m,n,rfl,hx,N,hz,ha,C,F,lm,ln,wv,k⟩:=h
  have m40:=C.m40
  have n40:=C.n40
  have n1:=C.n1
  have hn:=C.hn
  have l0:0<cl.length:=by lia
  have hu0:cl[0]?=some cl[0]:=ApP l0
  have e0:(cl[0]).length=m:=C.hm _ (Aqq l0)
  generalize cl[0]=u0 at hu0 e0
  refine⟨_,(Ac (Cj PassesOwn.never rfl (Ci rfl T.Cv (Aa (Ao (Av (K:=K)) rfl T.BK Bq (Aa (pv 3) Ab)) Ab)) (Br (i:=4) Jk.nd rfl (Or.inl rfl))
    (Ad (Cj PassesOwn.never rfl (Ci rfl T.Cv (Aa (Ao Bt rfl T.BK Bq (Aa (Bg (Ax (K:=K)) (pv 3) Ag (λ_ _=>rfl)) Ab)) Ab)) (Br (i:=5) Jk.nd rfl (Or.inl rfl))
     (Ad (Be (Al GR (Dm (Qg (K:=K)) (Bg (Ax (K:=K)) (pv 0) (pv 5) (λ_ _=>rfl)) (Bg (Ax (K:=K)) (pv 1) (Bg (Ax (K:=K)) (pv 2) (pv 4) (λ_ _=>rfl)) (λ_ _=>rfl)) rfl) (Dm Ca (Bg Hs (Bg (Ax (K:=K)) (pv 3) (pv 4) (λ_ _=>rfl)) (pv 5) (λ_ _=>rfl)) Am (Aw _)) (Aw _))
      (Ad (An Ew))
      Aq)))))
   (Ad (An Ew))),?_⟩
  refine⟨_,rfl,_,_,rfl,.inl (SqL.of ha),_,rfl,(by lia),(by rw[Ay];lia),?_⟩
  rw[Ay,hn,Aqc]
  refine Di (lo:=0) (n:=n) (λj σ H2=>∃(v4 v5:Option V),σ=[some (.ref x),some (.ref y),some (.ref z),some (.ref a),v4,v5]/\H2=H) ⟨_,_,rfl,rfl⟩ ?_ ?_
  ·rintro j σ H2 hj ⟨v4,v5,rfl,rfl⟩
   refine Bs rfl rfl ?_
   refine⟨_,rfl,_,_,_,_,rfl,rfl,SqL.of ha,Aax (i:=0) hu0,_,rfl,(by rw[Ai];exact Cz (by lia)),_,rfl,(by lia),(by rw[Ai];lia),?_⟩
   rw[Ai,e0,Aqc]
   refine Di (lo:=0) (n:=m) (λe σ H3=>∃(v5:Option V),σ=[some (.ref x),some (.ref y),some (.ref z),some (.ref a),some (.int (0+(j:Int))),v5]/\H3=H2) ⟨_,rfl,rfl⟩ ?_ ?_
   ·rintro e σ H3 he ⟨v5,rfl,rfl⟩
    refine Bs rfl rfl ?_
    have jt:j<tr.length:=by lia
    have et:e<th.length:=by lia
    obtain⟨u,hu,hc⟩:=An6 wv jt et
    have bt:=F.htr _ (Aqq jt)
    obtain⟨ra,hra,hrb⟩:=N.get (Aeh bt)
    have t1:atI (vI th) (0+(e:Int))=some (.int th[e]):=BP (by lia) (by rw[z0];exact Eb (ApP et))
    have t2:atI (vI tr) (0+(j:Int))=some (.int tr[j]):=BP (by lia) (by rw[z0];exact Eb (ApP jt))
    have t3:atI (rs.map V.ref) tr[j]=some (.ref ra):=BP bt.1 hra
    have t4:atI (vS cl) (0+(j:Int))=some (.str (tx u)):=BP (by lia) (by rw[z0];exact AaG hu)
    have ul:=C.hm u (ApY hu)
    have t5:atI (tx u).cps.toList (0+(e:Int))=some (if th[e]∈tss.getD (tr[j]).toNat [] then 35 else 46):=BP (by lia) (by rw[z0,zO,Jf];exact hc)
    have hh:("#" : Str)=⟨#[35]⟩:=by decide +kernel
    refine⟨_,rfl,_,rfl,_,_,_,_,rfl,rfl,SqL.of hx,t1,_,rfl,_,rfl,_,rfl,_,_,_,_,rfl,rfl,SqL.of hz,t2,_,_,_,_,rfl,rfl,SqL.of N.h,t3,_,_,rfl,.inl (SqL.of hrb),rfl,AdV _,?_⟩
    refine⟨_,rfl,_,rfl,_,_,_,_,rfl,rfl,SqL.of ha,t4,_,rfl,_,_,_,rfl,rfl,(by rw[Ai];exact Cz (by lia)),t5,rfl,rfl,_,rfl,?_⟩
    rw[Ado,hh]
    refine Ht (congrArg V.bl ?_) ?_
    ·by_cases c:th[e]∈tss.getD (tr[j]).toNat []
     ·simp[c]
     ·simp[c]
    exact⟨_,rfl,rfl⟩
   ·rintro σ H3 ⟨v5,rfl,rfl⟩
    exact⟨_,_,rfl,rfl⟩
  ·rintro σ H2 ⟨v4,v5,rfl,rfl⟩
   exact k
theorem Aih{l:List (List Nat)}{i j a b:Nat}(hi:(num l)[i]?=some a)(hj:(num l)[j]?=some b):a=b↔l[i]?=l[j]?:=by
 have h1:=(QB hi).1
 have h2:=(QB hj).1
 refine⟨λe=>by rw[h1,h2,e],λe=>?_⟩
 have il:i<l.length:=by have:=(zC.mp hi).1;rwa [Dt] at this
 have x1:=AaL (ApP il)
 rw[hi] at x1
 rw[ApP il] at e
 have x2:=AaL e.symm
 rw[hj] at x2
 rw[Option.some.inj x1,Option.some.inj x2]
def AlU:Sp:=λvs H Q _=>∃(x z a:Addr) (cl:List (List Nat)) (m n:Nat),vs=[.ref x,.ref z,.ref a]/\H x=some (.lst (vI (nts (num (cols cl m)))))/\H z=some (.lst (vI (nts (num cl))))/\H a=some (.lst (vS cl))/\Cl cl m n/\∀ H',Ar H H'->Q (.bl true) H'
theorem Aby(T:Txt K mg t):Bd P w K mg base CX0 1 t.VB t.VD ["threading", "treading", "rows"] AlU:=by
 refine T.Aan.F.ok Dk (λvs H Q E h=>?_) (λcdv A outer s H vs Q E hr h=>?_)
 ·obtain⟨x,z,a,cl,m,n,rfl,_⟩:=h
  rfl
 ·obtain⟨x,z,a,cl,m,n,rfl,hx,hz,ha,C,k⟩:=h
  have m40:=C.m40
  have n40:=C.n40
  have hn:=C.hn
  have hsz:sizeLine=16777216:=yA
  have lx:(nts (num (cols cl m))).length=m:=by rw[Gk,Dt,Hw]
  have lz:(nts (num cl)).length=n:=by rw[Gk,Dt,hn]
  have gx:∀ i,i<m->∃ y:Nat,(num (cols cl m))[i]?=some y/\atI (vI (nts (num (cols cl m)))) (0+(i:Int))=some (.int (y:Int)):=λi hi=>by
   have h:i<(num (cols cl m)).length:=by rw[Dt,Hw];exact hi
   exact⟨_,ApP h,BP (by lia) (by rw[z0];exact Eb (X5 (ApP h)))⟩
  have gz:∀ i,i<n->∃ y:Nat,(num cl)[i]?=some y/\atI (vI (nts (num cl))) (0+(i:Int))=some (.int (y:Int)):=λi hi=>by
   have h:i<(num cl).length:=by rw[Dt,hn];exact hi
   exact⟨_,ApP h,BP (by lia) (by rw[z0];exact Eb (X5 (ApP h)))⟩
  refine⟨_,(Ac (Cj PassesOwn.never rfl (Ci rfl T.Cv (Aa (Ao (Av (K:=K)) rfl T.BK Bq (Aa (pv 0) Ab)) Ab)) (Br (i:=3) Dk.nd rfl (Or.inr rfl))
    (Ad (Cj PassesOwn.never rfl (Ci rfl T.Cv (Aa (pv 3) Ab)) (Br (i:=4) Dk.nd rfl (Or.inr rfl))
     (Ac (Az (i:=5) Dk.nd rfl (Or.inl rfl) (Ao (Ju (K:=K)) rfl T.Acw Xj (Aa (BR (cok [3,4] ["row", "k", "other"] Dk) rfl (Bf (K:=K) (pv 2)) (λ_ _ _ _ _=>.nil) (λ_ _ _ _ _=>(Dm Ca (Bg Hs (pv 0) (pv 1) (λ_ _=>rfl)) (Bg Hs (pv 0) (pv 2) (λ_ _=>rfl)) (Aw _)))) Ab)))
     (Ad (Be (Al GR (pv 5) (Dm Ca (Bg (Ax (K:=K)) (pv 0) (pv 3) (λ_ _=>rfl)) (Bg (Ax (K:=K)) (pv 0) (pv 4) (λ_ _=>rfl)) (Aw _)) (Aw _))
      (Ad (An Ew))
      Aq))))))
   (Ac (Cj PassesOwn.never rfl (Ci rfl T.Cv (Aa (Ao (Av (K:=K)) rfl T.BK Bq (Aa (pv 1) Ab)) Ab)) (Br (i:=6) Dk.nd rfl (Or.inl rfl))
    (Ad (Cj PassesOwn.never rfl (Ci rfl T.Cv (Aa (pv 6) Ab)) (Br (i:=4) Dk.nd rfl (Or.inr rfl))
     (Ac (Az (i:=5) Dk.nd rfl (Or.inl rfl) (Dm Ca (Bg (Ax (K:=K)) (pv 2) (pv 6) (λ_ _=>rfl)) (Bg (Ax (K:=K)) (pv 2) (pv 4) (λ_ _=>rfl)) (Aw _)))
     (Ad (Be (Al GR (pv 5) (Dm Ca (Bg (Ax (K:=K)) (pv 1) (pv 6) (λ_ _=>rfl)) (Bg (Ax (K:=K)) (pv 1) (pv 4) (λ_ _=>rfl)) (Aw _)) (Aw _))
      (Ad (An Ew))
      Aq))))))
   (Ad (An Ew)))),?_⟩
  refine⟨_,rfl,_,_,rfl,.inl (SqL.of hx),_,rfl,(by lia),(by rw[Bm];lia),?_⟩
  rw[Bm,lx,Aqc]
  refine Di (lo:=0) (n:=m) (λi σ H2=>∃(v3 v4 v5:Option V),σ=[some (.ref x),some (.ref z),some (.ref a),v3,v4,v5,none]/\Ar H H2) ⟨_,_,_,rfl,.refl _⟩ ?_ ?_
  ·rintro i σ H2 hi ⟨v3,v4,v5,rfl,s2⟩
   refine Bs rfl rfl ?_
   refine⟨_,rfl,_,rfl,(by lia),(by lia),?_⟩
   rw[show(0+(i:Int)).toNat=i by lia]
   refine Di (lo:=0) (n:=i) (λj σ H3=>∃(v4 v5:Option V),σ=[some (.ref x),some (.ref z),some (.ref a),some (.int (0+(i:Int))),v4,v5,none]/\Ar H H3) ⟨_,_,rfl,s2⟩ ?_ ?_
   ·rintro j σ H3 hj ⟨v4,v5,rfl,s3⟩
    refine Bs rfl rfl ?_
    refine⟨_,rfl,_,rfl,⟨_,SqL.of (s3 _ _ ha)⟩,Bu (K:=K) (a:=a) (xs:=vS cl) (λr ys H4=>H4=H3/\ys=vB ((cl.take r).map λu=>decide (u.getD i 0=u.getD j 0))) ⟨rfl,rfl⟩ ?_ ?_ ?_ ?_⟩
    ·rintro r ys H4 hr' ⟨rfl,rfl⟩
     refine⟨SqL.of (s3 _ _ ha),?_⟩
     rw[Qi,ApO,Aqf]
     lia
    ·rw[Ay];lia
    ·rintro r xv ys H4 hr' hxv ⟨rfl,rfl⟩
     obtain⟨u,hu,rfl⟩:=Dh hxv
     have ul:=C.hm u (ApY hu)
     have il:i<u.length:=by lia
     have jl:j<u.length:=by lia
     have g1:u.getD i 0=u[i]:=by rw[Aqj,ApP il];rfl
     have g2:u.getD j 0=u[j]:=by rw[Aqj,ApP jl];rfl
     have t1:atI (tx u).cps.toList (0+(i:Int))=some u[i]:=BP (by lia) (by rw[z0,zO,Jf];exact ApP il)
     have t2:atI (tx u).cps.toList (0+(j:Int))=some u[j]:=BP (by lia) (by rw[z0,zO,Jf];exact ApP jl)
     refine BZ.no ?_
     refine⟨_,rfl,_,rfl,_,_,_,rfl,rfl,(by rw[Ai];lia),t1,_,rfl,_,rfl,_,_,_,rfl,rfl,(by rw[Ai];lia),t2,rfl,?_⟩
     rw[show decide (V.str ⟨#[u[i]]⟩=V.str ⟨#[u[j]]⟩)=decide (u.getD i 0=u.getD j 0) by
      rw[g1,g2]
      refine z6.mpr ⟨λe=>?_,λe=>by rw[e]⟩
      injection e with e
      exact(List.cons.inj (Fd (a:=[u[i]]) (b:=[u[j]]) e)).1]
     exact CN.of hr' ⟨rfl,by rw[Qj,Aqd,hu,ApV];rfl⟩
    rintro ys H4 q ⟨rfl,rfl⟩ nq
    rw[Ay,Aqk]
    refine⟨_,_,rfl,SqL.of Ae,?_⟩
    have s4:Ar H (upd H4 q (.lst (vB (cl.map λu=>decide (u.getD i 0=u.getD j 0))))):=s3.new nq
    generalize upd H4 q (.lst (vB (cl.map λu=>decide (u.getD i 0=u.getD j 0))))=H5 at s4 ⊢
    refine Bs rfl rfl ?_
    obtain⟨y1,hy1,t1⟩:=gx i hi
    obtain⟨y2,hy2,t2⟩:=gx j (by lia)
    refine⟨_,rfl,_,rfl,_,rfl,_,_,_,_,rfl,rfl,SqL.of (s4 _ _ hx),t1,_,rfl,_,rfl,_,_,_,_,rfl,rfl,SqL.of (s4 _ _ hx),t2,rfl,rfl,_,rfl,?_⟩
    refine Ht (congrArg V.bl ?_) ?_
    ·have ne:=Aih hy1 hy2
     unfold cols at ne
     rw[ApX,ApX,AqJ hi,AqJ (show j<m by lia)] at ne
     have e1:(cl.map λu=>decide (u.getD i 0=u.getD j 0)).all id=decide (col cl i=col cl j):=by
      rw[AqN,Are,decide_eq_true_iff]
      unfold col
      rw[List.map_inj_left]
      constructor
      ·intro h u hu
       exact of_decide_eq_true (h _ (List.mem_map_of_mem hu))
      ·intro h b hb
       obtain⟨u,hu,rfl⟩:=yG.mp hb
       exact zN (h u hu)
     rw[e1]
     refine z6.mpr ⟨λe=>?_,λe=>?_⟩
     ·rw[ne.mpr (by show some _=some _;rw[e])]
     ·have:=ne.mp (by have:=V.int.inj e;lia)
      exact Option.some.inj this
    exact⟨_,_,rfl,s4⟩
   ·rintro σ H3 ⟨v4,v5,rfl,s3⟩
    exact⟨_,_,_,rfl,s3⟩
  rintro σ H2 ⟨v3,v4,v5,rfl,s2⟩
  refine⟨_,rfl,_,_,rfl,.inl (SqL.of (s2 _ _ hz)),_,rfl,(by lia),(by rw[Bm];lia),?_⟩
  rw[Bm,lz,Aqc]
  refine Di (lo:=0) (n:=n) (λi σ H3=>∃(v4 v5 v6:Option V),σ=[some (.ref x),some (.ref z),some (.ref a),v3,v4,v5,v6]/\H3=H2) ⟨_,_,_,rfl,rfl⟩ ?_ ?_
  ·rintro i σ H3 hi ⟨v4,v5,v6,rfl,rfl⟩
   refine Bs rfl rfl ?_
   refine⟨_,rfl,_,rfl,(by lia),(by lia),?_⟩
   rw[show(0+(i:Int)).toNat=i by lia]
   refine Di (lo:=0) (n:=i) (λj σ H4=>∃(v4 v5:Option V),σ=[some (.ref x),some (.ref z),some (.ref a),v3,v4,v5,some (.int (0+(i:Int)))]/\H4=H3) ⟨_,_,rfl,rfl⟩ ?_ ?_
   ·rintro j σ H4 hj ⟨v4,v5,rfl,rfl⟩
    refine Bs rfl rfl ?_
    have il:i<cl.length:=by lia
    have jl:j<cl.length:=by lia
    have t1:atI (vS cl) (0+(i:Int))=some (.str (tx cl[i])):=BP (by lia) (by rw[z0];exact AaG (ApP il))
    have t2:atI (vS cl) (0+(j:Int))=some (.str (tx cl[j])):=BP (by lia) (by rw[z0];exact AaG (ApP jl))
    refine⟨_,rfl,_,rfl,_,_,_,_,rfl,rfl,SqL.of (s2 _ _ ha),t1,_,rfl,_,rfl,_,_,_,_,rfl,rfl,SqL.of (s2 _ _ ha),t2,rfl,?_⟩
    refine Bs rfl rfl ?_
    obtain⟨y1,hy1,g1⟩:=gz i hi
    obtain⟨y2,hy2,g2⟩:=gz j (by lia)
    refine⟨_,rfl,_,rfl,_,rfl,_,_,_,_,rfl,rfl,SqL.of (s2 _ _ hz),g1,_,rfl,_,rfl,_,_,_,_,rfl,rfl,SqL.of (s2 _ _ hz),g2,rfl,rfl,_,rfl,?_⟩
    refine Ht (congrArg V.bl ?_) ?_
    ·have ne:=Aih hy1 hy2
     rw[ApP il,ApP jl] at ne
     refine z6.mpr ⟨λe=>?_,λe=>?_⟩
     ·injection e with e
      rw[ne.mpr (by rw[Fd e])]
     ·have:=ne.mp (by have:=V.int.inj e;lia)
      rw[Option.some.inj this]
    exact⟨_,_,rfl,rfl⟩
   ·rintro σ H4 ⟨v4,v5,rfl,rfl⟩
    exact⟨_,_,_,rfl,rfl⟩
  ·rintro σ H3 ⟨v4,v5,v6,rfl,rfl⟩
   exact k _ s2
theorem Sw.wr{ks:List Int}(S:Sw ks)(hb:∀ z∈ks,0<=z)(hl:ks.length<=40):Wr (shI ks) ks:=by
 have ln:(nn ks).length=ks.length:=by unfold nn;rw[ApO]
 have o:=S.w.okp (by lia)
 have e:=S.w.num
 have l:=S.l
 rw[AhB hb] at e
 exact⟨(prt (nn ks)).map stq,rfl,o.1,by rw[ApO];lia,(by have:(rT ((prt (nn ks)).map stq)).length<=240:=l;lia),by rw[e];lia,e⟩
def AjC:Sp:=λvs H Q _=>∃(u:List Nat) (ks:List Int),vs=[.str (tx u)]/\Wr u ks/\∀ q H',Ar H H'->H q=none->H' q=some (.lst (vI ks))->Q (.ref q) H'
theorem Abz(T:Txt K mg t):Bd P w K mg base CX0 2 t.HW t.HX ["text"] AjC:=(Wi T).imp λvs H Q E ⟨u,ks,e,⟨pss,eu,h1,h2,h3,h4,en⟩,k⟩=>⟨pss,by rw[e,eu],h1,h2,h3,h4,λq H' s nq hq=>k q H' s nq (en▸hq)⟩
theorem Al8:∀(us:List (List Nat)),(∀ u∈us,∀ c∈u,c≠47/\c≠44)->47∉jnS [44,32] us:=λus=>by
 induction us with
 | nil=>intro _ h;cases h
 | cons u r ih =>
  intro h z
  cases r with
  | nil=>exact(h u ApS 47 z).1 rfl
  | cons v r =>
   rcases zG.mp (show 47∈u++([44,32]++jnS [44,32] (v::r)) from z) with z | z
   ·exact(h u ApS 47 z).1 rfl
   ·rcases zG.mp z with z | z
    ·simp at z
    ·exact ih (λx hx=>h x (ApW _ hx)) z
def Age:Sp:=λvs H Q _=>∃(l a:Addr) (x:List (List Nat)),vs=[.ref l,.ref a]/\H l=some (.lst (vS x))/\Clo x/\AnD H a x/\∀ H',Ar H H'->Q (.bl true) H'
theorem Ab0(T:Txt K mg t):Bd P w K mg base CX0 3 t.M7 t.M8 ["rows", "answer"] Age:=by
 refine T.Aao.F.ok DK (λvs H Q E h=>?_) (λcdv A outer s H vs Q E hr h=>?_)
 ·obtain⟨l,a,x,rfl,_⟩:=h
  rfl
 ·obtain⟨l,a,x,rfl,hl,C,⟨u,hA,tss,L,F,S1,S2,S3,rfl⟩,k⟩:=h
  have hsz:sizeLine=16777216:=yA
  have m40:=C.m40
  have n40:=C.n40
  have n1:=C.n1
  have lth:(nts (num (cols x (wdt x)))).length=wdt x:=by rw[Gk,Dt,Hw]
  have ltr:(nts (num x)).length=x.length:=by rw[Gk,Dt]
  have W0:=S1.wr (λz hz=>(F.hth z hz).1) F.m40
  have W2:=S3.wr (λz hz=>(F.htr z hz).1) F.n40
  have Ws:∀ ks∈tss,Wr (shI ks) ks:=λks hk=>(S2 ks hk).wr (λz hz=>((F.hti ks hk).2 z hz).1) (Ajp (F.hti ks hk))
  have wvx:=Acf C L.l λj u ks h1 h2=>(L.r j u ks h1 h2).2
  have sg:∀ u∈tss.map shI,∀ c∈u,c≠47/\c≠44:=λu hu=>by
   obtain⟨ks,hk,rfl⟩:=yG.mp hu
   exact(Ws ks hk).signs
  have lb:∀ u∈tss.map shI,u.length<=240:=λu hu=>by
   obtain⟨ks,hk,rfl⟩:=yG.mp hu
   exact(S2 ks hk).l
  have jb:=SJ [44,32] (tss.map shI) lb
  rw[ApO] at jb
  simp only [ApU,Aqr] at jb
  have t40:=F.t40
  have jb2:(jnS [44,32] (tss.map shI)).length<=9680:=by
   have:tss.length*(240+(0+1+1))<=40*242:=Arc t40 (by decide)
   lia
  have dl:(drT (shI (nts (num (cols x (wdt x))))) (tss.map shI) (shI (nts (num x)))).length<=20000:=by
   have h1:=S1.l
   have h2:=S3.l
   have:(drT (shI (nts (num (cols x (wdt x))))) (tss.map shI) (shI (nts (num x)))).length=(shI (nts (num (cols x (wdt x))))).length+(3+((jnS [44,32] (tss.map shI)).length+(3+(shI (nts (num x))).length))):=by
    unfold drT
    simp[jnS]
    lia
   lia
  have fc1:∀ H' q,H' q=some (.lst (vI (nts (num (cols x (wdt x))))))->SqL K H' q (vI (nts (num (cols x (wdt x))))):=λ_ _ h=>SqL.of h
  have l0:0<x.length:=n1
  have hu0:x[0]?=some x[0]:=ApP l0
  have e0:(x[0]).length=wdt x:=C.hm _ (Aqq l0)
  generalize x[0]=u0 at hu0 e0
  refine⟨_,(Ac (Be (PW.pt (pw_or (Dg (Cr (Ao (Nx (K:=K)) rfl T.Hm Gj (Aa (pv 1) (Aa (Wl (v:=.ty "tuple") rfl T.Aeq AbL rfl) Ab))))) (pw_or1 (Al GR (Ao (Av (K:=K)) rfl T.BK Bq (Aa (pv 1) Ab)) Ag (Aw _)))))
    (Ad (An Ew))
    Aq)
   (Ac (Be (PW.pt (pw_or (Al GR (Bg (Ef (K:=K)) (pv 1) Ag (λ_ _=>rfl)) Am (Aw _)) (pw_or1 (Dg (Cr (Ao (Nx (K:=K)) rfl T.Hm Gj (Aa (Bg (Ef (K:=K)) (pv 1) Ag (λ_ _=>rfl)) (Aa (Wl (v:=.ty "str") rfl T.Acy Xk rfl) Ab))))))))
    (Ad (An Ew))
    Aq)
   (Ac (Az (i:=2) DK.nd rfl (Or.inl rfl) (Bo (K:=K) zI zY z7 N8 (Bg (Ef (K:=K)) (pv 1) Ag (λ_ _=>rfl)) (Aa Am Ab)))
   (Ac (Be (Al GR (Ao (Av (K:=K)) rfl T.BK Bq (Aa (pv 2) Ab)) Ag (Aw _))
    (Ad (An Ew))
    Aq)
   (Ac (Az (i:=3) DK.nd rfl (Or.inl rfl) (Bb T.Hl (Abz T) hr (Aa (Bg (Ax (K:=K)) (pv 2) Ag (λ_ _=>rfl)) Ab)))
   (Ac (Az (i:=4) DK.nd rfl (Or.inl rfl) (CJ Ab))
   (Ac (Cj PassesOwn.never rfl (Bf (K:=K) (Bo (K:=K) zI zY z7 N8 (Bg (Ax (K:=K)) (pv 2) Ag (λ_ _=>rfl)) (Aa Am Ab))) (Br (i:=5) DK.nd rfl (Or.inl rfl))
    (Ad (Bp (Bo (K:=K) zM zL zQ Cq (pv 4) (Aa (Bb T.Hl (Abz T) hr (Aa (pv 5) Ab)) Ab)))))
   (Ac (Az (i:=6) DK.nd rfl (Or.inl rfl) (Bb T.Hl (Abz T) hr (Aa (Bg (Ax (K:=K)) (pv 2) Ag (λ_ _=>rfl)) Ab)))
   (Ac (Be (PW.pt (pw_or (Al GR (Ao (Av (K:=K)) rfl T.BK Bq (Aa (pv 3) Ab)) (Ao Bt rfl T.BK Bq (Aa (Bg (Ax (K:=K)) (pv 0) Ag (λ_ _=>rfl)) Ab)) (Aw _)) (pw_or1 (Al GR (Ao (Av (K:=K)) rfl T.BK Bq (Aa (pv 6) Ab)) (Ao (Av (K:=K)) rfl T.BK Bq (Aa (pv 0) Ab)) (Aw _)))))
    (Ad (An Ew))
    Aq)
   (Ac (Be (PW.pt (pw_or (Dg (Cr (Bb T.Ia (Jb T) hr (Aa (pv 3) Ab)))) (pw_or1 (Dg (Cr (Bb T.Ia (Jb T) hr (Aa (pv 6) Ab)))))))
    (Ad (An Ew))
    Aq)
   (Ac (Be (PW.pt (pw_or (Al GR (Ao (Av (K:=K)) rfl T.BK Bq (Aa (pv 4) Ab)) (Bx Eu (Ao (Af2 (K:=K)) rfl T.Aka Agy (Aa (pv 6) Ab)) Ag) (Aw _)) (pw_or1 (Dg (Cr (Ao (Ju (K:=K)) rfl T.Acw Xj (Aa (BR (cok [] ["tie"] DK) rfl (Bf (K:=K) (pv 4)) (λ_ _ _ _ _=>.nil) (λ_ _ _ _ _=>(Bb T.Yx (Zz T) hr (Aa (pv 0) Ab)))) Ab)))))))
    (Ad (An Ew))
    Aq)
   (Ac (Be (Dg (Cr (Bb T.Yy (Z0 T) hr (Aa (pv 3) (Aa (pv 4) (Aa (pv 6) (Aa (pv 0) Ab)))))))
    (Ad (An Ew))
    Aq)
   (Ad (An (Bb T.Aan (Aby T) hr (Aa (pv 3) (Aa (pv 6) (Aa (pv 0) Ab)))))))))))))))))),?_⟩
  refine⟨_,rfl,_,_,true,.tup hA,.inl ⟨_,rfl,Sy K _⟩,_,rfl,DP ?_⟩
  refine⟨_,rfl,_,_,rfl,.inr (SqT.of hA),rfl,_,rfl,?_⟩
  refine Ht rfl ?_
  have a0:∀ v,atI [V.str (tx drW),v] 0=some (.str (tx drW)):=λ_=>rfl
  have a1:∀ v,atI [V.str (tx drW),v] 1=some v:=λ_=>rfl
  refine⟨_,rfl,_,_,_,_,rfl,rfl,SqT.of hA,a0 _,rfl,_,rfl,?_⟩
  rw[AeH]
  refine Ht rfl ?_
  refine⟨_,rfl,_,_,_,_,rfl,rfl,SqT.of hA,a1 _,_,_,true,.str _,.inl ⟨_,rfl,Sy K _⟩,_,rfl,DP ?_⟩
  refine⟨_,rfl,_,_,_,_,rfl,rfl,SqT.of hA,a1 _,rfl,[32,47,32],47,1,[shI (nts (num (cols x (wdt x)))),jnS [44,32] (tss.map shI),shI (nts (num x))],rfl,congrArg (λz=>[V.str z]) JS,ZK,(by unfold drT at dl;lia),by simp,λw hw=>?_,λlp nlp=>?_⟩
  ·simp only [Aqs,Aqt,or_false] at hw
   rcases hw with z | z | z <;> rw[z]
   ·exact λh=>(W0.signs _ h).1 rfl
   ·exact Al8 _ sg
   ·exact λh=>(W2.signs _ h).1 rfl
  obtain⟨H1,e9,s1,hp⟩:=nu9 (o:=.lst (vS [shI (nts (num (cols x (wdt x)))),jnS [44,32] (tss.map shI),shI (nts (num x))])) (.refl _) nlp
  rw[e9]
  refine Bs rfl rfl ?_
  refine⟨_,rfl,_,_,rfl,.inl (SqL.of hp),rfl,_,rfl,?_⟩
  refine Ht rfl ?_
  refine⟨_,rfl,_,_,_,_,rfl,rfl,SqL.of hp,rfl,_,_,rfl,W0,λq0 H2 s2 nq0 hq0=>?_⟩
  refine Bs rfl rfl ?_
  refine⟨(by show 0<=sizeLine;decide),λy ny=>?_⟩
  obtain⟨H3,e9,s3,hy3⟩:=nu9 (o:=.lst []) (.refl _) ny
  rw[e9]
  refine Bs rfl rfl ?_
  refine⟨_,rfl,_,_,_,_,rfl,rfl,SqL.of (s3 _ _ (s2 _ _ hp)),rfl,rfl,[44,32],44,0,tss.map shI,rfl,congrArg (λz=>[V.str z]) Oa,Aca,by lia,(λz=>by have:=F.t1;have z:=congrArg List.length z;rw[ApO,Aqr] at z;lia),λw hw h=>(sg w hw _ h).2 rfl,λlt nlt=>?_⟩
  have s4:Ar H2 (upd H3 lt (.lst (vS (tss.map shI)))):=s3.new nlt
  have hl4:(upd H3 lt (.lst (vS (tss.map shI)))) lt=some (.lst (vS (tss.map shI))):=Ae
  have hy4:(upd H3 lt (.lst (vS (tss.map shI)))) y=some (.lst []):=(Ar.upd nlt) _ _ hy3
  have nly:lt≠y:=λz=>by rw[z,hy3] at nlt;cases nlt
  generalize upd H3 lt (.lst (vS (tss.map shI)))=H4 at s4 hl4 hy4 ⊢
  refine⟨_,rfl,⟨_,SqL.of hl4⟩,Dd (K:=K) (a:=lt) (xs:=vS (tss.map shI)) (λi σ G=>∃(v5:Option V) (rs:List Addr),σ=[some (.ref l),some (.ref a),some (.ref lp),some (.ref q0),some (.ref y),v5,none]/\Ar H2 G/\G lt=some (.lst (vS (tss.map shI)))/\G y=some (.lst (rs.map V.ref))/\rs.length=i/\∀(j:Nat) (r:Addr) (ks:List Int),rs[j]?=some r->tss[j]?=some ks->G r=some (.lst (vI ks))/\r≠y) ⟨_,[],rfl,s4,hl4,hy4,rfl,λj r ks h=>by simp at h⟩ (λi σ G _ ⟨_,_,_,_,e,_⟩=>SqL.of e) ?_ ?_⟩
  ·rintro i xv σ G hx ⟨v5,rs,rfl,sG,hGl,hGy,hrl,hr'⟩
   obtain⟨w,hw,rfl⟩:=Dh hx
   rw[ApX] at hw
   obtain⟨ks,hk,rfl⟩:=zU.mp hw
   have it:i<tss.length:=(zC.mp hk).1
   refine Bs rfl rfl ?_
   refine⟨_,rfl,.inl ⟨rfl,_,SqL.of hGy⟩,_,rfl,_,ks,rfl,Ws ks (ApY hk),λr G2 g2 nr hr2=>?_⟩
   have nry:r≠y:=λz=>by rw[z,hGy] at nr;cases nr
   refine⟨_,_,_,rfl,rfl,g2 _ _ hGy,(by rw[ApO,hrl];lia),?_⟩
   refine⟨_,rs++[r],rfl,(λb o e=>by rw[Ah (Ak e ny)];exact(sG.trans g2) b o e),by rw[Ah nly];exact g2 _ _ hGl,by rw[Ae,ApV];rfl,by rw[ApQ,hrl];rfl,λj r' ks' h1 h2=>?_⟩
   by_cases cj:j<rs.length
   ·rw[Aqo cj] at h1
    obtain⟨g,ng⟩:=hr' j r' ks' h1 h2
    exact⟨by rw[Ah ng];exact g2 _ _ g,ng⟩
   ·rw[Aqi (by lia)] at h1
    have j0:j-rs.length=0:=by
     have:=(zC.mp h1).1
     rw[Aq0] at this
     lia
    rw[j0] at h1
    cases h1
    rw[show j=i by lia,hk] at h2
    cases h2
    exact⟨by rw[Ah nry];exact hr2,nry⟩
  rintro σ G ⟨v5,rs,rfl,sG,hGl,hGy,hrl,hr'⟩
  rw[Ay,ApO] at hrl
  have N:NL G y rs tss:=⟨hGy,hrl,λj r ks h1 h2=>(hr' j r ks h1 h2).1⟩
  have u2:=(s1.trans s2).trans sG
  refine⟨_,rfl,_,_,_,_,rfl,rfl,SqL.of (sG _ _ (s2 _ _ hp)),rfl,_,_,rfl,W2,λq2 H6 s6 nq2 hq2=>?_⟩
  refine Bs rfl rfl ?_
  have u6:=u2.trans s6
  have N6:=N.same s6
  have hq6:=s6 _ _ (sG _ _ hq0)
  have hl6:=u6 _ _ hl
  refine⟨_,rfl,_,_,rfl,.inl (SqL.of hq6),_,rfl,_,_,_,_,rfl,rfl,SqL.of hl6,Aax (i:=0) hu0,_,rfl,(by rw[Ai];lia),rfl,_,rfl,?_⟩
  refine Ht (congrArg V.int (by rw[Bm,lth,Ai,e0])) ?_
  refine⟨_,rfl,_,_,rfl,.inl (SqL.of hq2),_,rfl,_,_,rfl,.inl (SqL.of hl6),rfl,_,rfl,?_⟩
  refine Ht (congrArg V.int (by rw[Bm,ltr,Ay])) ?_
  refine⟨_,rfl,q0,_,rfl,SqL.of hq6,_,rfl,DP ?_⟩
  refine⟨_,rfl,q2,_,rfl,SqL.of hq2,_,rfl,DP ?_⟩
  refine⟨_,rfl,_,_,rfl,.inl (SqL.of N6.h),_,rfl,q2,_,rfl,SqL.of hq2,(by rw[ltr];exact n1),λM hM AoI=>?_⟩
  refine⟨_,_,rfl,rfl,rfl,_,rfl,?_⟩
  have ml:((rs.map V.ref).length:Int)=M+1:=by
   obtain⟨M',hM',rfl⟩:=AaM.mp hM
   have:=AiS hM' λz hz=>by
    have:=AoI (z:Int) (AaM.mpr ⟨z,hz,rfl⟩)
    lia
   rw[ApO,hrl,L.l]
   lia
  refine Ht (congrArg V.int ml) ?_
  refine⟨_,rfl,_,rfl,⟨_,SqL.of N6.h⟩,Bu (K:=K) (a:=y) (xs:=rs.map V.ref) (λi ys G=>Ar H6 G/\ys=vB (List.replicate i true)) ⟨.refl _,rfl⟩ ?_ ?_ ?_ ?_⟩
  ·rintro i ys G hi ⟨sG,rfl⟩
   refine⟨SqL.of (sG _ _ N6.h),?_⟩
   rw[Qi,AqO]
   exact ApR _
  ·rw[ApO];lia
  ·rintro i xv ys G hi hx ⟨sG,rfl⟩
   obtain⟨r,ks,rfl,h1,h2,h3⟩:=(N6.same sG).at hx
   refine BZ.no ?_
   refine⟨_,rfl,r,ks,rfl,h3,F.hti ks (ApY h2),λG2 g2=>?_⟩
   exact CN.of hi ⟨sG.trans g2,by rw[Qj,<- Ark]⟩
  rintro ys G p9 ⟨sG,rfl⟩ np9
  refine⟨_,_,rfl,SqL.of Ae,_,rfl,?_⟩
  rw[show(List.replicate (rs.map V.ref).length true).all id=true by simp]
  have s9:Ar H6 (upd G p9 (.lst (vB (List.replicate (rs.map V.ref).length true)))):=sG.new np9
  generalize upd G p9 (.lst (vB (List.replicate (rs.map V.ref).length true)))=H9 at s9 ⊢
  refine DP ?_
  refine⟨_,rfl,_,rfl,_,rfl,_,rfl,q0,y,q2,l,rs,_,tss,_,x,_,_,rfl,s9 _ _ hq6,N6.same s9,s9 _ _ hq2,s9 _ _ hl6,C,F,lth,ltr,wvx,_,rfl,DP ?_⟩
  exact⟨_,rfl,_,rfl,_,rfl,q0,q2,l,x,_,_,rfl,s9 _ _ hq6,s9 _ _ hq2,s9 _ _ hl6,C,λH' s'=>k H' ((u6.trans s9).trans s')⟩
theorem AlV{x:List (List Nat)}{m n:Nat}(C:Cl x m n):wdt x=m:=by
 have h:=C.hm
 have n1:=C.n1
 have hn:=C.hn
 cases x with
 | nil=>simp at hn;lia
 | cons u r=>exact h u ApS
theorem W7{i m n:Nat}{x:List (List Nat)}(C:Cl x m n):Clo (Ti i x):=by
 have w:=AlV C
 match i with
 | 0=>exact C.clo
 | 1=>exact C.back.clo
 | i+2 =>
  show Clo (GZ x (wdt x))
  rw[w]
  exact C.GZ.clo
theorem Aii{s c:Nat}:∀{ws:List (List Nat)},c∈jn s ws->c=s\/∃ w∈ws,c∈w
 | [],h=>by cases h
 | [w],h=>.inr ⟨w,ApS,h⟩
 | w::v::r,h=>by
  rcases zG.mp (show c∈w++s::jn s (v::r) from h) with h | h
  ·exact .inr ⟨w,ApS,h⟩
  ·rcases yH.mp h with h | h
   ·exact .inl h
   ·rcases Aii h with h | ⟨x,hx,hc⟩
    ·exact .inl h
    ·exact .inr ⟨x,ApW _ hx,hc⟩
theorem Ab1{s:List Nat}{c:Nat}:∀{ws:List (List Nat)},c∈jnS s ws->c∈s\/∃ w∈ws,c∈w
 | [],h=>by cases h
 | [w],h=>.inr ⟨w,ApS,h⟩
 | w::v::r,h=>by
  rcases zG.mp (show c∈w++(s++jnS s (v::r)) from h) with h | h
  ·exact .inr ⟨w,ApS,h⟩
  ·rcases zG.mp h with h | h
   ·exact .inl h
   ·rcases Ab1 h with h | ⟨x,hx,hc⟩
    ·exact .inl h
    ·exact .inr ⟨x,ApW _ hx,hc⟩
theorem AdM{ks:List Nat}{c:Nat}(h:∀ k∈ks,k<100)(hc:c∈sj ks):c=32\/(48<=c/\c<=57):=by
 rcases Aii hc with e | ⟨w,hw,hc⟩
 ·exact .inl e
 ·obtain⟨k,hk,rfl⟩:=yG.mp hw
  exact .inr ((dec_is (h k hk)).dg c hc)
theorem Akq{u:List Nat}{k:Nat}(h:k∈tp u):k<u.length:=yI.mp (z8.mp h).1
section
variable {cl:List (List Nat)}{m n:Nat}
theorem Aij(C:Cl cl m n){u:List Nat}(hu:u∈cl):∀ k∈tp u,k<100:=λk hk=>by
 have:=Akq hk
 have:=C.hm u hu
 have:=C.m40
 lia
theorem Aik(C:Cl cl m n)(m9:m<=9)(n9:n<=9){b:Bool}:10∉told cl m n b:=λh=>by
 unfold told at h
 cases b with
 | false =>
  rw[if_neg (λz=>nomatch z)] at h
  rcases zG.mp h with h | h
  ·simp at h
  ·unfold wz at h
   rcases zG.mp h with h | h
   ·exact absurd h (by decide)
   ·rcases yH.mp h with h | h
    ·cases h
    ·rcases zG.mp h with h | h
     ·have key:∀ ys:List (List Nat),(∀ y∈ys,∀ c∈y,Sg c)->10∉(ys.map λy=>[44]++y).flatten:=λys hy z=>by
       obtain⟨l,hl,hc⟩:=List.mem_flatten.mp z
       obtain⟨y,hy',rfl⟩:=yG.mp hl
       rcases zG.mp hc with h | h
       ·simp at h
       ·rcases hy y hy' 10 h with e | e <;> cases e
      have sg:=C.sg
      cases cl with
      | nil=>cases h
      | cons y ys =>
       rcases zG.mp (show 10∈y++(ys.map λy=>[44]++y).flatten from h) with h | h
       ·rcases sg y ApS 10 h with e | e <;> cases e
       ·exact key ys (λz hz=>sg z (ApW _ hz)) h
     ·simp at h
 | true =>
  rw[if_pos rfl] at h
  rcases zG.mp h with h | h
  ·simp at h
  ·rcases Ab1 h with h | ⟨w,hw,h⟩
   ·simp at h
   ·simp only [Aqs,Aqt,or_false] at hw
    rcases hw with rfl | rfl | rfl
    ·rcases AdM (rg9 m9) h with e | e <;> lia
    ·rcases Ab1 h with h | ⟨w,hw,h⟩
     ·simp at h
     ·obtain⟨u,hu,rfl⟩:=yG.mp hw
      rcases AdM (Aij C hu) h with e | e <;> lia
    ·rcases AdM (rg9 n9) h with e | e <;> lia
theorem AeN(s:Nat)(w:List Nat)(hw:w≠[]):∀ ws:List (List Nat),(jn s (ws++[w])).getLast?=w.getLast?
 | []=>rfl
 | [v]=>by
  show(v++s::w).getLast?=_
  rw[AqA,Arm]
  cases e:w.getLast? with
  | none=>exact absurd (List.getLast?_eq_none_iff.mp e) hw
  | some z=>rfl
 | v::x::r=>by
  have ih:=AeN s w hw (x::r)
  show(v++s::jn s ((x::r)++[w])).getLast?=_
  rw[AqA,Arm,ih]
  cases e:w.getLast? with
  | none=>exact absurd (List.getLast?_eq_none_iff.mp e) hw
  | some z=>rfl
theorem AjD{n:Nat}(n1:1<=n)(n9:n<=9):∃ c,(sj (List.range n)).getLast?=some c/\48<=c:=by
 obtain⟨k,rfl⟩:∃ k,n=k+1:=⟨n-1,by lia⟩
 have D:=dec_is (show k<100 by lia)
 have ne:dec k≠[]:=λz=>by have:=D.l1;rw[z] at this;cases this
 unfold sj
 rw[Aq3,ApV]
 show ∃ c,(jn 32 ((List.range k).map dec++[dec k])).getLast?=some c/\_
 rw[AeN 32 _ ne]
 cases e:(dec k).getLast? with
 | none=>exact absurd (List.getLast?_eq_none_iff.mp e) ne
 | some z=>exact⟨z,rfl,(D.dg z (List.mem_of_getLast? e)).1⟩
theorem Aa0(C:Cl cl m n)(m9:m<=9)(n9:n<=9)(b:Bool):∃ c d,told cl m n b=(if b=true then 58 else 61)::32::d/\d.head?≠some 32/\d.getLast?=some c/\c≠32/\d=(if b=true then drT (sj (List.range m)) (cl.map λu=>sj (tp u)) (sj (List.range n)) else wz Pat.Ej cl):=by
 cases b with
 | false =>
  refine⟨41,wz Pat.Ej cl,rfl,(λz=>by cases z),?_,(by decide),rfl⟩
  unfold wz
  rw[AqA,Arm,AqA]
  rfl
 | true =>
  obtain⟨c,hc,c48⟩:=AjD C.n1 n9
  refine⟨c,_,rfl,?_,?_,(by lia),rfl⟩
  ·have m1:=C.m1
   obtain⟨k,rfl⟩:∃ k,m=k+1:=⟨m-1,by lia⟩
   intro h
   have e:(sj (List.range (k+1))).head?=some 48:=by
    unfold sj
    rw[List.range_succ_eq_map,ApT]
    have d0:dec 0=[48]:=by decide +kernel
    rw[d0]
    cases (List.range k).map Nat.succ with
    | nil=>rfl
    | cons a r=>rfl
   have e2:(drT (sj (List.range (k+1))) (cl.map λu=>sj (tp u)) (sj (List.range n))).head?=some 48:=by
    show((sj (List.range (k+1)))++_).head?=_
    rw[List.head?_append,e]
    rfl
   have h:(drT (sj (List.range (k+1))) (cl.map λu=>sj (tp u)) (sj (List.range n))).head?=some 32:=h
   rw[e2] at h
   cases h
  ·show((sj (List.range m))++([32,47,32]++(jnS [44,32] (cl.map λu=>sj (tp u))++([32,47,32]++sj (List.range n))))).getLast?=_
   rw[AqA,AqA,AqA,AqA,hc]
   rfl
theorem AjE(C:Cl cl m n):wv (ofN (List.range m)) (cl.map λu=>ofN (tp u)) (ofN (List.range n))=cl:=by
 have hn:=C.hn
 refine AqE λp=>?_
 unfold wv
 rw[ApX]
 unfold ofN
 rw[ApX]
 by_cases hp:p<n
 case neg=>rw[Aqw (by rw[Aql];lia),Aqw (by lia)];rfl
 have pl:p<cl.length:=by lia
 rw[AqJ hp,ApP pl]
 have hu:=C.hm _ (Aqq pl)
 have sg:=C.sg _ (Aqq pl)
 have hg:(cl.map λu=>(tp u).map Int.ofNat).getD (Int.ofNat p).toNat []=(tp cl[p]).map Int.ofNat:=by
  rw[Aqj,ApX]
  show((cl[p]?).map _).getD []=_
  rw[ApP pl]
  rfl
 show some (shd _ _)=some cl[p]
 congr 1
 rw[hg]
 generalize cl[p]=u at hu sg
 unfold shd
 refine AqE λe=>?_
 rw[ApX,ApX]
 by_cases he:e<m
 case neg=>rw[Aqw (by rw[Aql];lia),Aqw (by lia)];rfl
 have el:e<u.length:=by lia
 rw[AqJ he,ApP el]
 show some (if (e:Int)∈(tp u).map Int.ofNat then 35 else 46)=some u[e]
 congr 1
 have gd:u.getD e 0=u[e]:=by rw[Aqj,ApP el];rfl
 have iff:(e:Int)∈(tp u).map Int.ofNat↔u[e]=35:=by
  rw[yG]
  constructor
  ·rintro⟨k,hk,ek⟩
   have:k=e:=by have:(k:Int)=(e:Int):=ek;lia
   subst this
   have:=of_decide_eq_true (z8.mp hk).2
   rwa [gd] at this
  ·intro h
   exact⟨e,z8.mpr ⟨yI.mpr el,zN (by rw[gd];exact h)⟩,rfl⟩
 by_cases c:u[e]=35
 ·rw[if_pos (iff.mpr c),c]
 ·rw[if_neg (λz=>c (iff.mp z))]
  rcases sg _ (Aqq el) with h | h
  ·exact absurd h c
  ·exact h.symm
theorem AjF(C:Cl cl m n):Ft (ofN (List.range m)) (cl.map λu=>ofN (tp u)) (ofN (List.range n)):=by
 have m1:=C.m1
 have m40:=C.m40
 have n1:=C.n1
 have n40:=C.n40
 have hn:=C.hn
 have lr:∀ k,(ofN (List.range k)).length=k:=λk=>by unfold ofN;rw[ApO,Aql]
 refine⟨by rw[lr];lia,by rw[lr];lia,by rw[ApO];lia,by rw[ApO];lia,by rw[lr];lia,by rw[lr];lia,λv hv=>?_,λks hk=>?_,λv hv=>?_⟩
 ·obtain⟨k,hk,rfl⟩:=yG.mp hv
  have:=yI.mp hk
  exact⟨Ar9 k,by show(k:Int)<40;lia⟩
 ·obtain⟨u,hu,rfl⟩:=yG.mp hk
  have ul:=C.hm u hu
  have pw:(tp u).Pairwise (·<·):=List.pairwise_lt_range.filter _
  refine⟨λi a b h1 h2=>?_,λk hk=>?_⟩
  ·unfold ofN at h1 h2
   rw[ApX] at h1 h2
   obtain⟨x,hx,rfl⟩:=zU.mp h1
   obtain⟨y,hy,rfl⟩:=zU.mp h2
   obtain⟨ix,ex⟩:=zC.mp hx
   obtain⟨iy,ey⟩:=zC.mp hy
   have:=List.pairwise_iff_getElem.mp pw i (i+1) ix iy (by lia)
   rw[ex,ey] at this
   show(x:Int)<(y:Int)
   lia
  ·obtain⟨x,hx,rfl⟩:=yG.mp hk
   have:=Akq hx
   exact⟨Ar9 x,by show(x:Int)<40;lia⟩
 ·obtain⟨k,hk,rfl⟩:=yG.mp hv
  have:=yI.mp hk
  exact⟨Ar9 k,by show(k:Int)<_;rw[ApO];lia⟩
end
end
section
variable {P:Program}{w:World}{K:W.Frag}{mg:Str->Option Value}{base:Heap}{t:Adr}
def nmW (i:Nat):List Nat:=[97,115,107,101,100,97+i]
def lnA (i:Nat):List Nat:=nmW i++[32,61,32]++Th i
def lnQ (i:Nat):List Nat:=[63,32,100,114,97,102,116,32]++nmW i
def ln0 (cl:List (List Nat))(m n:Nat)(b:Bool):List Nat:=[99,108,111,116,104,32]++told cl m n b
def lns (ws:List Nat):List (List Nat):=ws.flatMap λi=>[lnA i,lnQ i]
theorem Ii{i:Nat}(hi:i<=2):trim (lnA i)=lnA i/\isQ (lnA i)=false/\trim (lnQ i)=lnQ i/\isQ (lnQ i)=true/\10∉lnA i/\10∉lnQ i/\(lnA i).length<=30/\(lnQ i).length<=30/\AhR (lnQ i).tail=[drW,nmW i]/\Pat.isName (nmW i)=true/\trim (nmW i++[32])=nmW i/\trim (32::Th i)=Th i/\(∀ x∈nmW i++[32],¬(x=61\/x=58))/\¬(lnA i).head?=some 59:=match i,hi with
 | 0,_=>by decide +kernel
 | 1,_=>by decide +kernel
 | 2,_=>by decide +kernel
theorem AeO{i j:Nat}(h:nmW i=nmW j):i=j:=by
 unfold nmW at h
 simp at h
 exact h
theorem Ail(i:Nat):clW≠nmW i:=λh=>by unfold clW nmW at h;simp at h
section
variable {cl:List (List Nat)}{m n:Nat}
theorem Aim:Nm clW:=by unfold Nm;decide +kernel
theorem Akr(C:Cl cl m n):Rn cl:=by
 have n1:=C.n1
 have hn:=C.hn
 refine⟨λz=>by rw[z] at hn;simp at hn;lia,by have:=C.n40;lia,λy hy=>⟨λz=>?_,λc hc=>?_⟩⟩
 ·have:=C.hm y hy
  have:=C.m1
  rw[z] at *
  simp at *
  lia
 ·rcases C.sg y hy c hc with e | e <;> rw[e] <;> decide
theorem Ain(C:Cl cl m n):cl≠[]:=(Akr C).1
theorem AlW{d:List Nat}{c:Nat}(h1:d.head?≠some 32)(h2:d.getLast?=some c)(h3:c≠32):trim (32::d)=d:=by
 have e:trim (32::d)=trim d:=by
  unfold trim
  rw[List.dropWhile_cons_of_pos (by decide)]
 rw[e]
 exact AeG h1 (by rw[h2];intro z;exact h3 (Option.some.inj z))
theorem Aio(C:Cl cl m n)(m9:m<=9)(n9:n<=9)(b:Bool):trim (ln0 cl m n b)=ln0 cl m n b/\isQ (ln0 cl m n b)=false:=by
 obtain⟨c,d,e,h1,h2,h3,_⟩:=Aa0 C m9 n9 b
 unfold ln0
 rw[e]
 refine⟨AeG (λz=>by cases z) ?_,rfl⟩
 have e2:([99,108,111,116,104,32]++(if b=true then 58 else 61)::32::d).getLast?=some c:=by
  rw[AqA,Arm,Arm,h2]
  rfl
 rw[e2]
 exact λz=>h3 (Option.some.inj z)
theorem lk0(C:Cl cl m n)(m9:m<=9)(n9:n<=9)(b:Bool):Lk [] (ln0 cl m n b) (clW,cl):=by
 obtain⟨c,d,e,h1,h2,h3,h4⟩:=Aa0 C m9 n9 b
 unfold ln0
 rw[e]
 have tb:=AlW h1 h2 h3
 cases b with
 | false =>
  rw[if_neg (λz=>nomatch z)] at h4
  show Lk [] ([99,108,111,116,104,32]++61::(32::d)) (clW,cl)
  exact .pat (f:=.rows cl) (by decide) (by decide +kernel) (by decide +kernel) (λq hq=>by cases hq) (by rw[tb,h4];rfl) (Akr C) ⟨rfl,C.clo⟩ (Ain C)
 | true =>
  rw[if_pos rfl] at h4
  show Lk [] ([99,108,111,116,104,32]++58::(32::d)) (clW,cl)
  have w:=AjE C
  have hn:=C.hn
  have m40:=C.m40
  have n40:=C.n40
  have key:Lk [] ([99,108,111,116,104,32]++58::(32::d)) (clW,wv (ofN (List.range m)) (cl.map λu=>ofN (tp u)) (ofN (List.range n))):=.dra (by decide) (by decide +kernel) (by decide +kernel) (λq hq=>by cases hq) (by rw[tb,h4]) (Aic (rg9 m9) (by rw[Aql];lia)) (by rw[ApO,ApO]) (λi u ks g1 g2=>by
   rw[ApX] at g1 g2
   obtain⟨v,hv,rfl⟩:=zU.mp g1
   rw[hv] at g2
   cases g2
   have vm:=ApY hv
   refine Aic (Aij C vm) ?_
   have:=AqB (λk=>decide (v.getD k 0=35)) (List.range v.length)
   rw[Aql,C.hm v vm] at this
   unfold tp
   rw[C.hm v vm]
   lia) (Aic (rg9 n9) (by rw[Aql];lia)) (AjF C) (by rw[w];exact Ain C)
  rw[w] at key
  exact key
theorem An7{i:Nat}(hi:i<=2):(fm i).Ok:=match i,hi with
 | 0,_=>Aim
 | 1,_=>⟨.inl rfl,Aim⟩
 | 2,_=>⟨.inr rfl,Aim⟩
theorem AlX{i:Nat}(hi:i<=2){kn:Kns}(hk:known kn clW=.ok cl)(C:Cl cl m n):(fm i).val kn (Ti i cl):=match i,hi with
 | 0,_=>hk
 | 1,_=>⟨cl,hk,C.clo,by show back cl=turn baW cl;unfold turn;rw[if_pos rfl]⟩
 | 2,_=>⟨cl,hk,C.clo,by show GZ cl (wdt cl)=turn quW cl;unfold turn;rw[if_neg (by decide)]⟩
theorem lkA{kn:Kns}{i:Nat}(hi:i<=2)(hk:known kn clW=.ok cl)(C:Cl cl m n)(hno:∀ q∈kn,¬q.1=nmW i):Lk kn (lnA i) (nmW i,Ti i cl):=by
 obtain⟨_,_,_,_,_,_,_,_,_,h1,h2,h3,h4,_⟩:=Ii hi
 have e:lnA i=(nmW i++[32])++61::(32::Th i):=by unfold lnA;simp
 rw[e]
 exact .pat h4 h2 h1 hno h3 (An7 hi) (AlX hi hk C) (by have:=(W7 (i:=i) C).n1;intro z;rw[z] at this;cases this)
theorem Agf{kn r:Kns}{z:List Nat}{x:List (List Nat)}(h:known kn z=.ok x):known (kn++r) z=.ok x:=by
 unfold known at h ⊢
 rw[List.find?_append]
 cases e:kn.find? λp=>decide (p.1=z) with
 | none=>rw[e] at h;cases h
 | some p=>rw[e] at h;exact h
theorem bkA(C:Cl cl m n):∀(ws:List Nat) (kn:Kns),(∀ i∈ws,i<=2)->ws.Nodup->known kn clW=.ok cl->(∀ i∈ws,∀ q∈kn,¬q.1=nmW i)->Bk kn (ws.map lnA) (kn++ws.map λi=>(nmW i,Ti i cl))
 | [],kn,_,_,_,_=>by rw[AqD,AqD,Aqv];exact .nil
 | i::ws,kn,h2,nd,hk,hno=>by
  have f:=Ii (h2 i ApS)
  have r:=bkA C ws (kn++[(nmW i,Ti i cl)]) (λj hj=>h2 j (ApW _ hj)) (List.nodup_cons.mp nd).2 (Agf hk) (λj hj q hq=>by
   rcases zG.mp hq with h | h
   ·exact hno j (ApW _ hj) q h
   ·rw[zF.mp h]
    intro z
    have:=AeO z
    rw[<- this] at hj
    exact(List.nodup_cons.mp nd).1 hj)
  rw[Aqz] at r
  rw[ApT,ApT]
  refine .line (p:=(nmW i,Ti i cl)) (by rw[f.1];exact f.2.2.2.2.2.2.2.2.2.2.2.2.2) (by rw[f.1];exact lkA (h2 i ApS) hk C (hno i ApS)) ?_ r
  have:=(W7 (i:=i) C).n1
  intro z
  have z:Ti i cl=[]:=z
  rw[z] at this
  cases this
theorem YX:∀(ws:List Nat),(∀ i∈ws,i<=2)->(lns ws).map trim=lns ws/\(lns ws).filter isQ=ws.map lnQ/\((lns ws).filter λl=>!isQ l)=ws.map lnA/\(∀ l∈lns ws,10∉l)/\(lns ws).length=2*ws.length/\((lns ws).map List.length).sum<=60*ws.length
 | [],_=>⟨rfl,rfl,rfl,(λl h=>by cases h),rfl,ApR _⟩
 | i::ws,h=>by
  obtain⟨r1,r2,r3,r4,r5,r6⟩:=YX ws λj hj=>h j (ApW _ hj)
  obtain⟨f1,f2,f3,f4,f5,f6,f7,f8,_⟩:=Ii (h i ApS)
  have e:lns (i::ws)=lnA i::lnQ i::lns ws:=rfl
  rw[e]
  refine⟨by rw[ApT,ApT,f1,f3,r1],?_,?_,λl hl=>?_,by simp only [ApU,r5];lia,?_⟩
  ·rw[Arj (by rw[f2];exact Aqe),AqS f4,r2];rfl
  ·rw[AqS (by rw[f2];rfl),Arj (by rw[f4];exact Aqe),r3];rfl
  ·rcases yH.mp hl with z | z
   ·rw[z];exact f5
   ·rcases yH.mp z with z | z
    ·rw[z];exact f6
    ·exact r4 l z
  ·simp only [ApT,Aqm,ApU]
   lia
theorem Aa1:∀{ws:List Nat} {i:Nat},i∈ws->known (ws.map λi=>(nmW i,Ti i cl)) (nmW i)=.ok (Ti i cl)
 | j::ws,i,h=>by
  unfold known
  rw[ApT,Ars]
  by_cases e:j=i
  ·subst e
   rw[zN rfl]
  ·rw[zJ (λz=>e (AeO z))]
   have:=Aa1 ((yH.mp h).resolve_left λz=>e z.symm)
   unfold known at this
   exact this
theorem Aip(C:Cl cl m n)(m9:m<=9)(n9:n<=9)(b:Bool):(told cl m n b).length<=1000:=by
 have hn:=C.hn
 have n1:=C.n1
 unfold told
 cases b with
 | false =>
  rw[if_neg (λz=>nomatch z)]
  have h1:=AeJ cl (by lia)
  have h2:=JR (B:=9) cl λu hu=>by rw[C.hm u hu];exact m9
  rw[ApQ,AhK]
  simp only [ApU,Aqr,Pat.Ej]
  lia
 | true =>
  rw[if_pos rfl]
  have l1:=Q3 (rg9 m9)
  have l2:=Q3 (rg9 n9)
  rw[Aql] at l1 l2
  have jl:=SJ [44,32] (B:=27) (cl.map λu=>sj (tp u)) λv hv=>by
   obtain⟨u,hu,rfl⟩:=yG.mp hv
   have h1:=Q3 (Aij C hu)
   have h2:=AqB (λk=>decide (u.getD k 0=35)) (List.range u.length)
   rw[Aql,C.hm u hu] at h2
   have h3:(tp u).length<=9:=by unfold tp;rw[C.hm u hu];lia
   lia
  rw[ApO] at jl
  simp only [ApU,Aqr] at jl
  have:cl.length*(27+(0+1+1))<=9*29:=Arc (by lia) (by decide)
  unfold drT
  simp[jnS]
  lia
end
end
section
variable {P:Program}{w:World}{K:W.Frag}{mg:Str->Option Value}{base:Heap}{t:Adr}
def Ab2 (K:W.Frag):Sp:=λvs H Q _=>∃(a:Addr) (ns:List Int),vs=[.ref a]/\SqL K H a (vI ns)/\ns.length<=63/\∀ H',Q (.bl true) H'
theorem Ab3{K:W.Frag}{H:Hp}{a:Addr}{ns:List Int}(hl:ns.length<=63)(hS:SqL K H a (ns.map V.int)):Ab2 K [.ref a] H (λv _=>v=.bl true) λ_ _ _=>False:=⟨a,ns,rfl,hS,hl,λ_=>rfl⟩
def Wok (ws:List Nat):Prop:=(∀ i∈ws,i<=2)/\ws.Nodup/\ws.length<=3/\1<=ws.length
theorem AlY{i:Nat}(h:i<=2):atI ((("abc" : Str)).cps.toList) (i:Int)=some (97+i):=match i,h with
 | 0,_=>by decide +kernel
 | 1,_=>by decide +kernel
 | 2,_=>by decide +kernel
theorem AlZ:(("asked" : Str))=tx [97,115,107,101,100]:=by decide +kernel
theorem An8:(("cloth " : Str))=tx [99,108,111,116,104,32]:=by decide +kernel
theorem An9:((" = " : Str))=tx [32,61,32]:=by decide +kernel
theorem AnA:(("? draft " : Str))=tx [63,32,100,114,97,102,116,32]:=by decide +kernel
theorem Ama(T:Txt K mg t):Bd P w K mg base CX0 16 t.AjW t.AgY ["script"] (Ab2 K):=by
 have AcQ:Bd P w K mg base CX0 1 t.Yk t.Yl _ _:=Ho T
 have AcR:Bd P w K mg base CX0 2 t.M3 t.M4 _ _:=Abv T
 have AdN:Bd P w K mg base CX0 1 t.Qp t.Qq _ _:=AcP T
 have VN:Bd P w K mg base CX0 2 t.M5 t.M6 _ _:=Abw T
 have AcS:Bd P w K mg base CX0 3 t.M7 t.M8 _ _:=Ab0 T
 have Ab4:Bd P w K mg base CX0 14 t.Kq t.Kr _ _:=Zx T
 refine T.law.F.ok Km (λvs H Q E h=>?_) (λcdv A outer s H vs Q E hr h=>?_)
 ·obtain⟨a,ns,rfl,_⟩:=h
  rfl
 ·obtain⟨a,ns,rfl,hS,hl,k⟩:=h
  have hsz:sizeLine=16777216:=yA
  refine⟨_,(Ac (Az (i:=1) Km.nd rfl (Or.inl rfl) (Bb T.Aam AcR hr (Aa (pv 0) Ab)))
   (Ac (Az (i:=2) Km.nd rfl (Or.inl rfl) (Bg (Ax (K:=K)) (CJ (Aa (CJ (Aa Ag Ab)) (Aa (CJ (Aa Ag Ab)) (Aa (CJ (Aa Ag Ab)) (Aa (CJ (Aa Ag (Aa Ag (Aa Ag Ab)))) Ab))))) (Bx Hq (Bb T.MK AcQ hr (Aa (pv 0) (Aa Ag Ab))) Ag) (λ_ _=>rfl)))
   (Ac (Az (i:=3) Km.nd rfl (Or.inl rfl) (CJ (Aa (Bx CW Am (Bb T.Acv AdN hr (Aa (pv 1) (Aa (Dm Ca (Bx Hq (Bb T.MK AcQ hr (Aa (pv 0) (Aa Ag Ab))) Ag) Ag (Aw _)) Ab)))) Ab)))
   (Ac (Cj PassesOwn.never rfl (Bf (K:=K) (pv 2)) (Br (i:=4) Km.nd rfl (Or.inl rfl))
    (Ac (Az (i:=5) Km.nd rfl (Or.inl rfl) (Bx CW Am (Bg Hs Am (pv 4) (λ_ _=>rfl))))
    (Ac (Bp (Bo (K:=K) zM zL zQ Cq (pv 3) (Aa (Bx CW (Bx CW (pv 5) Am) (Bg (Ef (K:=K)) (Bb T.Uc VN hr (Aa (pv 1) (Aa (pv 4) Ab))) Ag (λ_ _=>rfl))) Ab)))
    (Ad (Bp (Bo (K:=K) zM zL zQ Cq (pv 3) (Aa (Bx CW Am (pv 5)) Ab)))))))
   (Ac (Az (i:=6) Km.nd rfl (Or.inl rfl) (Bb T.Yu Ab4 hr (Aa (Bo (K:=K) zI zS zV (CG (K:=K)) Am (Aa (pv 3) Ab)) Ab)))
   (Ac (Be (PW.pt (pw_or (Dg (Cr (Ao (Nx (K:=K)) rfl T.Hm Gj (Aa (pv 6) (Aa (Wl (v:=.ty "list") rfl T.Ku Hf rfl) Ab))))) (pw_or1 (Al GR (Ao (Av (K:=K)) rfl T.BK Bq (Aa (pv 6) Ab)) (Ao (Av (K:=K)) rfl T.BK Bq (Aa (pv 2) Ab)) (Aw _)))))
    (Ad (An Ew))
    Aq)
   (Ac (Cj PassesOwn.never rfl (AdX (K:=K) rfl T.Akb (Aa (pv 2) (Aa (pv 6) Ab))) (Aa5 rfl (Gn (Br (i:=4) Km.nd rfl (Or.inl rfl)) (Gn (Br (i:=7) Km.nd rfl (Or.inl rfl)) Wm)))
    (Ad (Be (Dg (Cr (Bb T.Aao AcS hr (Aa (Bg (Ef (K:=K)) (Bb T.Uc VN hr (Aa (pv 1) (Aa (pv 4) Ab))) Ag (λ_ _=>rfl)) (Aa (pv 7) Ab)))))
     (Ad (An Ew))
     Aq)))
   (Ad (An Ew))))))))),?_⟩
  refine⟨_,rfl,a,ns,rfl,hS,hl,λl cl m n H1 s1 hl1 C m9 n9=>?_⟩
  refine Bs rfl rfl ?_
  refine⟨(by show 1<=sizeLine;decide),λp0 np0=>?_⟩
  have t1:Ar H1 (upd H1 p0 (.lst (vI (ofN [0])))):=.upd np0
  have g1:(upd H1 p0 (.lst (vI (ofN [0])))) p0=some (.lst (vI (ofN [0]))):=Ae
  rw[show(upd H1 p0 (.lst [V.int 0]))=upd H1 p0 (.lst (vI (ofN [0]))) from rfl]
  generalize upd H1 p0 (.lst (vI (ofN [0])))=H2 at t1 g1 ⊢
  refine⟨(by show 1<=sizeLine;decide),λp1 np1=>?_⟩
  have t2:Ar H2 (upd H2 p1 (.lst (vI (ofN [1])))):=.upd np1
  have g2:(upd H2 p1 (.lst (vI (ofN [1])))) p1=some (.lst (vI (ofN [1]))):=Ae
  rw[show(upd H2 p1 (.lst [V.int 1]))=upd H2 p1 (.lst (vI (ofN [1]))) from rfl]
  generalize upd H2 p1 (.lst (vI (ofN [1])))=H3 at t2 g2 ⊢
  refine⟨(by show 1<=sizeLine;decide),λp2 np2=>?_⟩
  have t3:Ar H3 (upd H3 p2 (.lst (vI (ofN [2])))):=.upd np2
  have g3:(upd H3 p2 (.lst (vI (ofN [2])))) p2=some (.lst (vI (ofN [2]))):=Ae
  rw[show(upd H3 p2 (.lst [V.int 2]))=upd H3 p2 (.lst (vI (ofN [2]))) from rfl]
  generalize upd H3 p2 (.lst (vI (ofN [2])))=H4 at t3 g3 ⊢
  refine⟨(by show 3<=sizeLine;decide),λp3 np3=>?_⟩
  have t4:Ar H4 (upd H4 p3 (.lst (vI (ofN [0,1,2])))):=.upd np3
  have g4:(upd H4 p3 (.lst (vI (ofN [0,1,2])))) p3=some (.lst (vI (ofN [0,1,2]))):=Ae
  rw[show(upd H4 p3 (.lst [V.int 0,V.int 1,V.int 2]))=upd H4 p3 (.lst (vI (ofN [0,1,2]))) from rfl]
  generalize upd H4 p3 (.lst (vI (ofN [0,1,2])))=H5 at t4 g4 ⊢
  refine⟨(by show 4<=sizeLine;decide),λpp npp=>?_⟩
  obtain⟨H6,e9,t5,g5⟩:=nu9 (o:=.lst [.ref p0,.ref p1,.ref p2,.ref p3]) (.refl _) npp
  rw[e9]
  have s6:=(((((s1.trans t1).trans t2).trans t3).trans t4).trans t5)
  have l6:=t5 _ _ (t4 _ _ (t3 _ _ (t2 _ _ (t1 _ _ hl1))))
  refine⟨_,rfl,a,ns,5,rfl,s6.seq hS,(by decide),λc5=>?_⟩
  refine⟨_,_,rfl,rfl,(by show(0:Int)<4;decide),?_⟩
  obtain⟨w,ws,hat,hw6,W⟩:∃(w:Addr) (ws:List Nat),atI [V.ref p0,V.ref p1,V.ref p2,V.ref p3] (c5%4)=some (.ref w)/\H6 w=some (.lst (vI (ofN ws)))/\Wok ws:=by
   have h0:=Int.emod_nonneg c5 (show(4:Int)≠0 by decide)
   have h4:=Ar8 c5 (show(0:Int)<4 by decide)
   have c:c5%4=0\/c5%4=1\/c5%4=2\/c5%4=3:=by lia
   rcases c with c | c | c | c <;> rw[c]
   ·exact⟨p0,[0],rfl,t5 _ _ (t4 _ _ (t3 _ _ (t2 _ _ g1))),by unfold Wok;decide⟩
   ·exact⟨p1,[1],rfl,t5 _ _ (t4 _ _ (t3 _ _ g2)),by unfold Wok;decide⟩
   ·exact⟨p2,[2],rfl,t5 _ _ (t4 _ _ g3),by unfold Wok;decide⟩
   ·exact⟨p3,[0,1,2],rfl,t5 _ _ g4,by unfold Wok;decide⟩
  refine⟨_,_,_,_,rfl,rfl,SqL.of g5,hat,?_⟩
  refine Bs rfl rfl ?_
  have wl:(ofN ws).length=ws.length:=by unfold ofN;rw[ApO]
  obtain⟨W1,W2,W3,W4⟩:=W
  refine⟨_,rfl,_,rfl,a,ns,6,rfl,s6.seq hS,(by decide),λc6=>?_⟩
  refine⟨_,_,rfl,rfl,(by show(0:Int)<2;decide),rfl,?_⟩
  obtain⟨b,hb⟩:∃ b,b=decide (V.int (c6%2)=V.int 1):=⟨_,rfl⟩
  rw[<- hb]
  have tll:=Aip C m9 n9 b
  refine⟨l,cl,m,n,b,rfl,l6,C,m9,n9,λH7 s7=>?_⟩
  rw[An8,AlZ,An9,AnA]
  refine⟨_,_,rfl,rfl,(by rw[Ai,Ai];simp only [ApU,Aqr];lia),?_⟩
  rw[G7]
  refine⟨(by show 1<=sizeLine;decide),λq nq=>?_⟩
  have s8:Ar H6 (upd H7 q (.lst (vS (ln0 cl m n b::lns (ws.take 0))))):=s7.new nq
  have hq8:(upd H7 q (.lst (vS (ln0 cl m n b::lns (ws.take 0))))) q=some (.lst (vS (ln0 cl m n b::lns (ws.take 0)))):=Ae
  have nq6:H6 q=none:=s7.free nq
  rw[show(upd H7 q (.lst [V.str (tx ([99,108,111,116,104,32]++told cl m n b))]))=upd H7 q (.lst (vS (ln0 cl m n b::lns (ws.take 0)))) from rfl]
  generalize upd H7 q (.lst (vS (ln0 cl m n b::lns (ws.take 0))))=H8 at s8 hq8 ⊢
  refine Bs rfl rfl ?_
  have Aiq:∀ i j,ws[i]?=some j->lns (ws.take (i+1))=lns (ws.take i)++[lnA j,lnQ j]:=λi j h=>by
   unfold lns
   rw[Aqd,h,List.flatMap_append]
   rfl
  refine⟨_,rfl,_,rfl,⟨_,SqL.of (s8 _ _ hw6)⟩,Dd (K:=K) (a:=w) (xs:=vI (ofN ws)) (λi σ G=>∃(v4 v5:Option V),σ=[some (.ref a),some (.ref l),some (.ref w),some (.ref q),v4,v5,none,none]/\Ar H6 G/\G q=some (.lst (vS (ln0 cl m n b::lns (ws.take i))))) ⟨_,_,rfl,s8,hq8⟩ (λi σ G _ ⟨_,_,_,sG,_⟩=>SqL.of (sG _ _ hw6)) ?_ ?_⟩
  ·rintro i xv σ G hx ⟨v4,v5,rfl,sG,hGq⟩
   obtain⟨z,hz,rfl⟩:=Kf hx
   unfold ofN at hz
   rw[ApX] at hz
   obtain⟨j,hj,rfl⟩:=zU.mp hz
   have j2:=W1 j (ApY hj)
   have il:i<ws.length:=(zC.mp hj).1
   have ll:=(YX (ws.take i) λk hk=>W1 k (List.mem_of_mem_take hk)).2.2.2.2.1
   rw[Aqf] at ll
   obtain⟨_,_,_,_,_,_,fl,fq,_⟩:=Ii j2
   refine Bs rfl rfl ?_
   refine⟨_,rfl,_,_,_,rfl,rfl,(by show 3<=sizeLine;decide),AlY j2,_,_,rfl,rfl,(by rw[Ai];show 5+1<=sizeLine;lia),?_⟩
   rw[LQ,G7,show[97,115,107,101,100]++[97+j]=nmW j from rfl]
   refine Bs rfl rfl ?_
   refine⟨_,rfl,.inl ⟨rfl,_,SqL.of hGq⟩,_,rfl,_,_,rfl,rfl,(by rw[Ai,Ai];show 6+3<=sizeLine;lia),?_⟩
   rw[G7]
   refine⟨_,rfl,_,rfl,l,cl,j,rfl,j2,sG _ _ l6,C.clo,λp lz G1 g1 hp1 hl1=>?_⟩
   refine⟨_,_,_,_,rfl,rfl,SqT.of hp1,(show atI [V.str (tx (Th j)),V.ref lz] 0=some (V.str (tx (Th j))) from rfl),_,_,rfl,rfl,?_,?_⟩
   ·rw[Ai,Ai]
    unfold lnA at fl
    rw[ApQ] at fl
    lia
   rw[G7]
   refine⟨_,_,_,rfl,rfl,g1 _ _ hGq,(by rw[Ay,ApU];lia),?_⟩
   rw[Dc]
   have gq2:(upd G1 q (.lst (vS (ln0 cl m n b::lns (ws.take i)++[nmW j++[32,61,32]++Th j])))) q=some (.lst (vS (ln0 cl m n b::lns (ws.take i)++[lnA j]))):=Ae
   have g2s:Ar H6 (upd G1 q (.lst (vS (ln0 cl m n b::lns (ws.take i)++[nmW j++[32,61,32]++Th j])))):=λb o e=>by rw[Ah (Ak e nq6)];exact(sG.trans g1) b o e
   generalize upd G1 q (.lst (vS (ln0 cl m n b::lns (ws.take i)++[nmW j++[32,61,32]++Th j])))=G2 at gq2 g2s ⊢
   refine⟨_,rfl,.inl ⟨rfl,_,SqL.of gq2⟩,_,rfl,_,_,rfl,rfl,(by rw[Ai,Ai];show 8+6<=sizeLine;lia),?_⟩
   rw[G7]
   refine⟨_,_,_,rfl,rfl,gq2,(by rw[Ay,ApQ,ApU];simp only [ApU,Aqr];lia),?_⟩
   rw[Dc]
   refine⟨_,_,rfl,λb o e=>by rw[Ah (Ak e nq6)];exact g2s b o e,?_⟩
   rw[Ae,Aiq i j hj]
   simp[lnQ]
  rintro σ G ⟨v4,v5,rfl,sG,hGq⟩
  rw[Bm,wl,Aqk] at hGq
  obtain⟨r1,r2,r3,r4,r5,r6⟩:=YX ws W1
  obtain⟨z1,z2⟩:=Aio C m9 n9 b
  generalize hls:ln0 cl m n b::lns ws=ls at hGq
  have lsl:ls.length<=7:=by rw[<- hls,ApU,r5];lia
  have lsn:ls≠[]:=by rw[<- hls];exact λz=>by cases z
  have lss:(ls.map List.length).sum<=2000:=by
   rw[<- hls,ApT,Aqm]
   unfold ln0
   rw[ApQ]
   simp only [ApU,Aqr]
   lia
  have ljn:=Abu 10 ls lsn
  refine⟨rfl,_,rfl,_,_,ls.map tx,rfl,rfl,SqL.of (by rw[hGq,DG]),?_,?_⟩
  ·rw[AhY,ApO,Od,Ai]
   show _+_*1<=_
   lia
  rw[Od,Tf]
  have tls:ls.map trim=ls:=by rw[<- hls,ApT,z1,r1]
  have fq:ls.filter isQ=ws.map lnQ:=by rw[<- hls,Arj (by rw[z2];exact Aqe),r2]
  have fb:(ls.filter λl=>!isQ l)=ln0 cl m n b::ws.map lnA:=by rw[<- hls,AqS (by rw[z2];rfl),r3]
  refine⟨ls,(clW,cl)::ws.map (λi=>(nmW i,Ti i cl)),ws.map λi=>Ti i cl,rfl,(by lia),lsn,(λx hx=>?_),(by lia),?_,?_,?_,?_,λf as H9 s9 hf hal hA=>?_⟩
  ·rw[<- hls] at hx
   rcases yH.mp hx with z | z
   ·rw[z]
    unfold ln0
    intro z
    rcases zG.mp z with z | z
    ·exact absurd z (by decide)
    ·exact Aik C m9 n9 z
   ·exact r4 x z
  ·rw[tls,fb]
   refine .line (p:=(clW,cl)) (by rw[z1];intro z;cases z) (by rw[z1];exact lk0 C m9 n9 b) (Ain C) ?_
   exact bkA C ws [(clW,cl)] W1 W2 rfl λi _ q hq=>by rw[zF.mp hq];exact Ail i
  ·rw[tls,fb]
   exact λz=>by cases z
  ·rw[tls,fq,ApO,ApO]
  ·intro i x y h1 h2
   rw[tls,fq,ApX] at h1
   rw[ApX] at h2
   obtain⟨j,hj,rfl⟩:=zU.mp h1
   rw[hj] at h2
   cases h2
   obtain⟨_,_,_,_,_,_,_,_,fw,fn,_⟩:=Ii (W1 j (ApY hj))
   refine⟨nmW j,fw,fn,?_,W7 C⟩
   have:=Aa1 (cl:=cl) (ApY hj)
   unfold known at this ⊢
   rw[Ars,zJ (Ail j)]
   exact this
  refine Bs rfl rfl ?_
  have hw9:=s9 _ _ (sG _ _ hw6)
  have l9:=s9 _ _ (sG _ _ l6)
  rw[ApO] at hal
  refine⟨_,rfl,_,_,true,.lst hf,.inl ⟨_,rfl,Sy K _⟩,_,rfl,DP ?_⟩
  refine⟨_,rfl,_,_,rfl,.inl (SqL.of hf),_,rfl,_,_,rfl,.inl (SqL.of hw9),rfl,_,rfl,?_⟩
  refine Ht (congrArg V.int (by rw[Bm,wl,ApO,hal])) ?_
  refine⟨_,rfl,_,rfl,.l w,.l f,rfl,trivial,⟨_,SqL.of hw9⟩,⟨_,SqL.of hf⟩,AgB (K:=K) (n:=ws.length) (λi=>(vI (ofN ws)).getD i .non) (λi=>(as.map V.ref).getD i .non) (λi σ G=>∃(v4 v7:Option V),σ=[some (.ref a),some (.ref l),some (.ref w),some (.ref q),v4,v5,some (.ref f),v7]/\Ar H9 G) ⟨_,_,rfl,.refl _⟩ (λi σ G hi ⟨_,_,_,sG⟩=>AaJ (SqL.of (sG _ _ hw9)) (by rw[Bm,wl];exact hi)) (λi σ G hi ⟨_,_,_,sG⟩=>AaJ (SqL.of (sG _ _ hf)) (by rw[ApO,hal];exact hi)) (λσ G ⟨_,_,_,sG⟩=>⟨⟨_,SqL.of (sG _ _ hw9)⟩,⟨_,SqL.of (sG _ _ hf)⟩,.inl ⟨_,SqL.of (sG _ _ hw9),by rw[Bm,wl]⟩⟩) ?_ ?_⟩
  ·rintro i σ G T0 hi ⟨v4,v7,rfl,sG⟩ nT
   have hj:=ApP hi
   have ia:i<as.length:=by lia
   have ha9:=ApP ia
   generalize ws[i]=j at hj
   generalize as[i]=a9 at ha9
   rw[show(vI (ofN ws)).getD i .non=.int (Int.ofNat j) by rw[Aqj];unfold vI ofN;rw[ApX,ApX,hj];rfl,show(as.map V.ref).getD i .non=.ref a9 by rw[Aqj,ApX,ha9];rfl]
   have j2:=W1 j (ApY hj)
   have an:=hA i a9 (Ti j cl) ha9 (by rw[ApX,hj];rfl)
   refine⟨T0,_,rfl,SqT.of Ae,rfl,_,_,rfl,_,_,rfl,rfl,?_⟩
   have sT:=sG.new (o:=.tup [.int (Int.ofNat j),.ref a9]) nT
   generalize upd G T0 (.tup [.int (Int.ofNat j),.ref a9])=G0 at sT ⊢
   refine⟨_,rfl,_,rfl,l,cl,j,rfl,j2,sT _ _ l9,C.clo,λp lz G1 g1 hp1 hl1=>?_⟩
   refine⟨_,_,_,_,rfl,rfl,SqT.of hp1,(show atI [V.str (tx (Th j)),V.ref lz] 1=some (V.ref lz) from rfl),_,rfl,lz,a9,Ti j cl,rfl,hl1,W7 C,(an.same sT).same g1,λG2 g2=>?_⟩
   refine⟨_,rfl,DP ?_⟩
   exact⟨_,_,rfl,(sT.trans g1).trans g2⟩
  ·rintro σ G ⟨v4,v7,rfl,sG⟩
   exact k _
end
theorem Amb{P:Program}{w:World}{K:W.Frag}{mg:Str->Option Value}{fa:Addr}{t:Adr}(hfa:mg "law" = some (.ref fa)) (T:Txt K mg t):∃ fd:FuncData,(∀(s:Shared) (v:Value),BindsTo s fd ⟨[v],[]⟩ [("script", v)])/\∀ base:Heap,K.In base->base.Ns mainGlobals mg->Bd P w K mg base CX0 16 fa fd ["script"] (Ab2 K):=by
 have e:=hfa.symm.trans T.law.m
 injection e with e
 injection e with e
 subst e
 obtain⟨oc,od,kV,doc,pm,an,cdv,ct,osl,e1,lk,hcd⟩:=T.law.F.ex
 exact⟨t.AgY,λs v=>by rw[e1];exact .of_eq rfl,λbase _ _=>Ama T⟩
end Mine
open PySem PySem.W PyProof.Rows
open Lean in
local macro_rules|`(universe $xs*)=>do return mkNullNode (← xs.mapM fun x=>`(def $x:ident:=()))
namespace PySem.W.Fast
universe tw8577841820816207832 tw7755434163668306094 tw18342082711182472462 tw1920354292420335910 tw14475695288785907577 tw12297051647353283666 tw12181641899214598947 tw2384843142587728527 tw4020094858813067077 tw3023442013726262927 tw13825613556858031686 tw4719140478796479141 tw14204212445309934840 tw6552545351672159030 tw9097350935037682433 tw12286432944783585451 tw12295824208595913829 tw14976146703732134964 tw10849435882672358191 tw5604092829238606433 tw12058535686065831786 tw7461339288283348097 tw6736222142742583426 tw8162595999617106932 tw7504306727704204684 tw10906175162722223467 tw2626593317093176678 tw11574426858015555789 tw6764222070744141639 tw10984136843132625166 tw11351115118674799442 tw4580748260245688957 tw12153664015458645882 tw6342280519926296772 tw15646490223457603698 tw6962663309236155940 tw14221614680364020220 tw3200390372244128366 tw6639394365991009644 tw11434745072397028249 tw18037688498857832158 tw11530130702404619066 tw2366775742973310832 tw1332458577662573299 tw2222181305709250308 tw8960688424957046216 tw17611536619767545363 tw11104827955431970478 tw6844272569011016519 tw6848410290936173525 tw8095216286772422485 tw7705745990983054277 tw6696937232932051278 tw6475667606555606728 tw4231741690685834589 tw18242355258895652555 tw9385767874915098472 tw7084504669539255875 tw12360764786524716625 tw16267783446919480638 tw6204453355614994074 tw3408080972564601658 tw4310264988821239863 tw15128972374544390343 tw1505558359250109116 tw9260487985674684760 tw9657199119186482092 tw11367422796502976416 tw8471651270227791798 tw3431315606560717106 tw8537924016393614609 tw11205256386776772328 tw11891563130902661271 tw7523144629410609063 tw9579308018412129150 tw6470175613692779084 tw11750036983516900113 tw13642208803417922246 tw660828350602241475 tw3231219496857447157 tw6227559428768778813 tw16912204670566504251 tw8858815162534590731 tw7496923944889846968 tw514223673573210906 tw13185284895668019822 tw13796400676503152261 tw14376857017433234673 tw8706723132713928657 tw2779857405207758226 tw1070767634699344796 tw1049770045531459849 tw9055882248532893680 tw8888425404655850410 tw16178006400077387144 tw2109622147103560766 tw16094051373367299109 tw16509373812442183122 tw11972910272443810576 tw13924839684788182840 tw17252678937103379991 tw5528664587094301516 tw8591055740590505857 tw7483288280034860400 tw1448154978649802176 tw15539452269644456695 tw18369779971476954290 tw2521600605138086944 tw13432346578815445680 tw2720888429239198496 tw11172212685002947858 tw2117565172338471925 tw13011112579509094682 tw3236614291649358514 tw6559273386286328997 tw3085520375216795610 tw2277384943547955176 tw11065399523286295565 tw14725645764076011797 tw15369141581241923819 tw14240584644797151106 tw13843795705265026031 tw1989052917811867204 tw14782485409627213966 tw10921634447257294142 tw16736011827606356482 tw9915274327640386909 tw17150397210981016762 tw12411877039191753122 tw10590765461883000869 tw11581801228445251681 tw599985902262374197 tw7362662236918658733 tw6322079392230203545 tw13898898415336838120 tw5340402393043212191 tw5727055513256859398 tw8859136966449188362 tw14763839815603068150 tw14572710454046645581 tw17589060682482107196 tw8617084735613825466 tw12020094146480089812 tw8042737017218061475 tw1024037510932021715 tw14697855703342271539 tw7049240333953076446 tw2538555684202631480 tw10699101961203753012 tw7017932695468796102 tw10874447926351667351 tw2624767961133895778 tw14498198880722352606 tw6103670345768622055 tw15928460687387204002 tw4255133092149241479 tw5231419321269907199 tw9125407364313956271 tw3992986136699996107 tw12985485414412609304 tw5376612724255626387 tw2527173602345472498 tw3025772553267844822 tw2912690777084617496 tw13085325666160369844 tw3686300492669847234 tw15002651733963985382 tw9982275469942598131 tw17658984025359364925 tw11896255529438270354 tw16310635844216834827 tw13988863844220219550 tw777178736812733199 tw16635352400873644406 tw3512768276694427619 tw8238770361387205382 tw5925141467747531548 tw18223081768327380142 tw12150111738107552274 tw7103410468150715746 tw9698636565019758542 tw16501258920989252385 tw12259799071590851626 tw16479867705662739691 tw4135398124557011601 tw11322163339204220355 tw10653777602729332773 tw5600595565751197221 tw1148714617619621403 tw9583942801124669720 tw7929278785947978691 tw14364438140713913300 tw14913873387793478818 tw16180086266875528585 tw7626977018689187456 tw13083272736170639763 tw9295774487877970226 tw11897957081360409192 tw13686478868068689706 tw4510519309481495482 tw7874323815392668825 tw7339559949069530803 tw439967914872929091 tw2924128865185019671 tw16926492432378810429 tw9792868413579112055 tw14006053053683293524 tw17103699374540224271 tw17180221102689792075 tw7343919898034511621 tw11507033807274317803 tw4053098476113145745 tw15636409766635802002 tw17417860292765615657 tw17756338914237247109 tw16280726546959416788 tw11890677220368040969 tw1422023794639848325 tw7728356869828177538 tw13588383653346501117 tw14456416487749609481 tw6078639889403699334 tw8241671821036412943 tw7394071037184389632 tw12354933642303282614 tw13578821652610709711 tw2443224023775689541 tw1534448909648306939 tw14466820835528487568 tw13197497857785138695 tw8234003979994881453 tw7251511317208016130 tw18187676185480863146 tw13778553844590519741 tw11883791511302288260 tw4335786659673278567 tw9220445560170025094 tw3872924092520183413 tw6942990182940622273 tw4689590127913929779 tw12585205065577340725 tw11617864000610680835 tw12879869605154618916 tw7086088692194613186 tw2001905235255141024 tw1181104884559417288 tw14958873219221010519 tw7134048819774085437 tw11798541968144909987 tw3674902786652770941 tw4129251172027750436 tw1430537685373570494 tw3162967934783582742 tw17490167254591064850 tw2198070116699589899 tw10121018513528403583 tw10337674382250386075 tw9972422343003600394 tw1937125048625918041 tw8284271710526738645 tw13253901477914027707 tw509236313890657911 tw8635776023636335507 tw15974551280238398684 tw12108675264753720044 tw3341289754552798448 tw7943762222301859308 tw9378484110430070571 tw7103534353856753837 tw10742395684894866570 tw12694088930617142362 tw5107660914894901779 tw16514779352097651494 tw6435908032463882448 tw15349937184095065277 tw15017966642245387772 tw14699598741311665505 tw4949441515953013980 tw1126676561601068064 tw10607169208644601732 tw226270361525448674 tw9730762098786873679 tw11879873418816029315 tw456722359529206040 tw6663290032871504705 tw5715128766389236576 tw2279367165728433387 tw18134734165937864801 tw8050050039984444021 tw17493439865304661893 tw5580637437905151715 tw1486076475446887041 tw2226211713045393185 tw6683171263132863519 tw2605777915615548034 tw12761121831161756464 tw2046567495440656234 tw294176676937486199 tw17030393650350741938 tw14775543801950349662 tw7933065487006636222 tw9976202536374503303 tw10157443318474396150 tw6403572681317447773 tw4845074526131456277 tw9241258640302342308 tw13926746451461736111 tw16206321293805918292 tw13106336794017174320 tw2560309196218509082 tw2232348876599695672 tw8983889573370884475 tw11542522214027169687 tw10010701165965097631 tw9794674773864224719 tw17937698878363340270 tw2054164679438327943 tw17587198828983900573 tw2101073869336441445 tw12233471907040030923 tw1201475873264021268 tw7701680168936744093 tw17666290682940404438 tw8262273096179701869 tw11690948970935062051 tw1345219725942275111 tw10734921568011027739 tw4812488795364529695 tw13548985137486195038 tw18206746582622428145 tw12813625798635212675 tw14285911161754555896 tw17423894823547003463 tw16847999002879396542 tw15971932950339692473 tw15940505239555950489 tw8656538343611866901 tw3346122529093302959 tw16822316789136713987 tw499159362163506895 tw16479684464077030288 tw10406226284524811350 tw4620581378365086310 tw13051434316471283712 tw3150989688879629561 tw3146189357474861027 tw4928003733128901200 tw15637998720217626102 tw4719894262437449765 tw3040392476261517594 tw11140820097740953343 tw11016199403498316663 tw15767418723652434999 tw10767134617197129723 tw8739572734387034202 tw15213375081091113649 tw12909526657715853737 tw2531504041492749633 tw2168872510870293455 tw1057187749805808198 tw568783564527174294 tw11823908933523439311 tw513146007681631980 tw9396482498857868567 tw5577038637059128300 tw5836808909971581517 tw17703690124147507325 tw7708857165323792239 tw14429418863892576443 tw14425893848140073720 tw5195662329761437396 tw15254219909666773823 tw14275914604053153242 tw8708900219961239722 tw17713127405067552043 tw15958915004798607713 tw7087748427236581666 tw7670155826628455371 tw17772261655795556849 tw15875098518381108540 tw4354802431645288427 tw16639928111991486906 tw14835543686358713927 tw5106944565245340457 tw7405450562701395385 tw9085047471125867146 tw11725695267249114558 tw2232513846611148092 tw1508806192764292625 tw15520439887715181187 tw4732670244167192830 tw11305823088405222747 tw13287117311338782965 tw9374168378774017718 tw13543593328261002401 tw100661619892112404 tw15598295595138952093 tw10439502519575878841 tw14517485716760307952 tw4753230484442336880 tw11591216844105391873 tw17246384538526464475 tw13001197875213435401 tw2958409449649804368 tw6102376434179303123 tw11400696512457784985 tw401504320597425125 tw10054536275850747038 tw7633823405829538850 tw14444341591559282063 tw9122355234386598087 tw2331504861406713066 tw3856522082242262131 tw8444152375302517359 tw12316716565822665363 tw1374244555499602622 tw15115787073327490234 tw14166291171128498711 tw9848853172217487383 tw4095049526469418206 tw4928076824231670654 tw5268753391091223634 tw17140670166695664433 tw4927106541935752954 tw14843394978269830093 tw12134240882108041025 tw14475452102588251692 tw7277257962158896132 tw4662829651702726742 tw2427291869176358744 tw3834420075951049706 tw1223684411617638627 tw8348893475725463455 tw15702745535429130568 tw3289094919678896914 tw16345637102494438126 tw14644021872858875804 tw1437192884355154363 tw16501835000495144838 tw4192370065268835406 tw665593328346488390 tw880942021349174702 tw10460295795494104861 tw4680614054674521873 tw17990883992496304674 tw15741799611520272725 tw17181076992728775581 tw7294374338303213092 tw17890635962149877931 tw17377452240324762863 tw5927564893975645139 tw15189168711025649230 tw5722181211456989250 tw2935867507101021809 tw6877988330875761414 tw7865609592014014630 tw5110567958920188001 tw5673352022817984571 tw12353524505103397427 tw18131766065008971639 tw12762867671360738975 tw5047499812309598507 tw126869984313933866 tw4444590211525030541 tw4296165588637904911 tw12681379343870171651 tw18333419080114934700 tw8406718183364768807 tw16462595871697866929 tw1978620515942194880 tw14346592795357200932 tw9887284719584451365 tw3282059158247556723 tw11402506710718174432 tw114083780988959987 tw4527518879435901014 tw7962449621118005765 tw13993263044953728044 tw18027222532527880240 tw4393989984964851800 tw5616823281323529838 tw2463574014349070412 tw10070720487408693114 tw9555140447247087270 tw7338617796563637652 tw423544450040217542 tw4447539987557065631 tw10588618602779044401 tw9622447222383694221 tw8720822698147601365 tw3244717285944179385 tw6629162160003436469 tw6139830825630908513 tw3739589364970905995 tw1979208633954955605 tw6423030252838440470 tw11095166780287593092 tw8932875664460518139 tw8295084578648835545 tw7702109441299434005 tw6295845269016419869 tw17592240088615198127 tw17365502958417912396 tw7938124757377113949 tw12818270532762302729 tw8535541069106476922 tw12730380595288220299 tw15362104790201976171 tw7464284701027463010 tw10006302269340306267 tw9734460093902577350 tw9156550554396430980 tw11286449422480800016 tw4241669366753084734 tw5202744870809470823 tw17971047157881344493 tw8066680063701618382 tw11388512260083806237 tw2047756184191848273 tw2671592360402579115 tw13632223610206758412 tw15620106422999645339 tw18101792902811625104 tw13807183963266298485 tw17378262138411725567 tw10225713859460435972 tw13145359801178838793 tw527423114481152456 tw11391215576603000751 tw5260450971585481183 tw14947710481293072375 tw964722209310974787 tw18444883580730378005 tw12104973589139718904 tw10471119009618251021 tw10657630867938909175 tw12481755497092164051 tw10974765152642518855 tw4815382561298057513 tw5089061240272350741 tw14701382395740324288 tw10081973347536780147 tw381958600518746849 tw3707936472711482977 tw567637038990716406 tw13843446854374474136 tw17638775002310525870 tw8743890049660347989 tw8095034494647839681 tw3793241826486644955 tw17017060561727736102 tw13410029922014678254 tw359662633165989735 tw6773161171909118740 tw6832217675421289913 tw2094546538890292141 tw7644968480647515599 tw12619775604079954665 tw11546707037896752489 tw16690347853044153504 tw1451626008453756473 tw16005622934200720180 tw14434989798610237801 tw13361936417036521147 tw13972672924088591605 tw17728315282087998340 tw17080110701827291042 tw6149858593381482946 tw2654022459764127448 tw11936075941678599691 tw7916596498350631963 tw1896966821411059224 tw6729099227749255435 tw6032213299318263056 tw17097136804586327301 tw15969710127224838341 tw6804505077753618373 tw13953128279228858748 tw4612311133481807831 tw13495016574810651520 tw274493466911139707 tw5343600700606271936 tw13764583694525625522 tw4239577659012596928 tw16331619917692351616 tw11338839623234223228 tw7138080735642406710 tw10780154193615944763 tw12740776253757317175 tw5411250484691476788 tw17129279013717516685 tw627363749634066343 tw10729357863498704721 tw7934412417164712869 tw5819212194103574328 tw9810898168127243389 tw4922834451305066089 tw14172374644559261877 tw12091711136080627391 tw4147083334752197342 tw16717825566022388637 tw13753210373486326255 tw689216610104365852 tw4509972116209432056 tw12811600786775508895 tw17395480764479608015 tw7187967582173599410 tw4447486101764379172 tw7967009171051479055 tw3002654826762452549 tw6102792078298927993 tw3406934681246424400 tw2359247741170313869 tw321853705803142318 tw11291273393420892745 tw3581392478364343749 tw13928404772466413030 tw13769300327706375293 tw11947046426699477014 tw12855821523212239663 tw5603466928439070203 tw1586500884186709551 tw12335548835158097881 tw8683886447092244976 tw11150143331856496248 tw12561572094626735024 tw13202515901153877677 tw3414194488470370794 tw10822875375380859822 tw5795394197482070567 tw2924314167900216257 tw251454305271631036 tw12353224974197431588 tw16572762774314558413 tw12361017839649317939 tw16722032056102550693 tw7118496418089146513 tw6318880974710566580 tw4814945214491088939 tw4368366080796964500 tw12617045769789438106 tw11976658742309243652 tw17602579545816724585 tw16493228898649868433 tw3728500344443710590 tw14112662654015955166 tw283833164324787184 tw5400044398123744873 tw10665338326095928984 tw4020167456008535817 tw14493115426527907071 tw17075247561911944483 tw14968010980309283843 tw4747548533608717020 tw5609029953977775922 tw10644896545269270545 tw17602083072983674273 tw9881521473675707354 tw15442834693291514322 tw7876677493756500546 tw12230684052492752156 tw2322367362003808372 tw1996117760807093384 tw12525372036642241330 tw3187786228860221160 tw5098055837188591312 tw3538598578745596739 tw17331473802289199541 tw1040807270519599087 tw17296985098924143980 tw14137681140231319632 tw3894884592422720451 tw4697857047402630472 tw16630206376641323524 tw18010996788565000532 tw3687046702268100899 tw18346861691699668472 tw2204314899061304369 tw17865771585625849108 tw15004757875306386002 tw14332754829746596398 tw9321363463125397412 tw4479879611060261698 tw11278630615940044049 tw12813883559672264578 tw7272189614420328003 tw13541821843927294937 tw12770543818477099573 tw2527395604411128382 tw10445456716049260175 tw6846216219830718677 tw12163181218426451754 tw11113009154917733173 tw2905662125131095841 tw15981888236254844751 tw17664552315633742522 tw5061417200942942446 tw6330010755771072608 tw11860648064850162919 tw2688304116077629794 tw16120711411844039171 tw2717465405229713657 tw935961314967134365 tw9524833148601356060 tw1023316914837011594 tw11989256975776636788 tw11058048937984379785 tw3043136930676994831 tw15372624904627704152 tw13817548167996230272 tw6379501059082625766 tw9226904899187306802 tw628671619865764619 tw1492465764479633315 tw11487806504898385059 tw4544056169835929065 tw4754220902177189181 tw16721504119555343613 tw12783487169895790503 tw18091038247376762413 tw13737001176385804878 tw1620018347789726512 tw4179207801050717106 tw4773841503564169530 tw11320527791276939413 tw12013929645241852554 tw7435219805267749273 tw4180954487840887754 tw18265066487104701660 tw6106897239670411931 tw4407960249324985448 tw697263155984515454 tw18278756425336491023 tw14572470401960368929 tw3086459380817874842 tw15391699899775258512 tw16496905023530855951 tw7362935399548115271 tw13925111467575917774 tw12985229290490942350 tw3973381235745701459 tw3616583278038834610 tw10363552333035591089 tw9349913706253209301 tw15949028406234222690 tw3772121449915014186 tw18136561813004509839 tw5259133733914796714 tw5356784875482213866 tw13052469449190346517 tw15494712189010023768 tw7645485481913470753 tw6424092289126157899 tw15973224450780897011 tw1396655292374400290 tw16404064904695022019 tw15764504571212164776 tw350065537447249279 tw12898227962191925658 tw15088602450199993494 tw18403607741424906184 tw6233135393419594021 tw4378880374143362195 tw1894293095298889328 tw5233135946262079901 tw10307146896477239026 tw8474233807269351474 tw2292114858026045355 tw15853795203866795322 tw13019385978801783956 tw897361236276767153 tw3465135405504143028 tw10011466063685716626 tw718389715564336071 tw15879215083740170045 tw14512068403084740086 tw11626773952319852998 tw6856725024166460915 tw11799788693867895519 tw6966435878145715655 tw8972362063688267813 tw12579860257733534997 tw14503820740674717830 tw607352330214570007 tw15037791746490508954 tw13183671949219099279 tw15095435911984788461 tw8042018320460841685 tw782510621928677879 tw4033532369495641930 tw1385135827496995278 tw11472198543717107068 tw9590878283157428652 tw2455915726186253681 tw12909422541551946875 tw1938854327103277487 tw12282762788681786990 tw7263439124138909371 tw2625054301413651171 tw15334198280184173072 tw6470819663171217900 tw11814842666559761147 tw14268184268409277405 tw17108702124244707 tw5207397722487265902 tw6399603784532088194 tw15821766613523214582 tw5234288499504773923 tw3672801654615602171 tw15577143754400520683 tw13923785347893766492 tw4329893142618278088 tw8608028606174142179 tw15217451299517161430 tw15633889067810100449 tw11769819385727563293 tw9496586449664165006 tw16718273992085995884 tw14495692687665879116 tw9800603722663220044 tw6227966424770068437 tw716788901671804067 tw12063675432733601535 tw15302325305115914531 tw8584041700406635351 tw7783219722615569009 tw4999527673486988782 tw10156926702354192264 tw14426515769589865224 tw15449317703266146122 tw11914986227661518698 tw11806645688588916460 tw14897235863403974757 tw12069710569428559857 tw17903767797657919379 tw14660082600656517100 tw5268534516666242996 tw5017250526819657584 tw2677697981683944975 tw16062187229918054830 tw12879022475522010515 tw3191172350848691970 tw14026243160423885582 tw10682779825015345687 tw8363280447725943485 tw8762110844619472531 tw3062824351169929072 tw5314938861390054661 tw7244086299967114200 tw10013590758952636653 tw17966389670642229945 tw12550435390745305406 tw11439822941163437022 tw11332237436613267366 tw1565121393084185798 tw12611666887998459379 tw16250585512684298873 tw2774162313312712227 tw97980528650482027 tw3841583692925718112 tw7942136674313767405 tw17602388902691275412 tw4548097692390711390 tw8891558129921185347 tw10583291846837606317 tw6403873152866263808 tw10495512791052084562 tw18422645908999994827 tw2815198531041906410 tw2882529741080869537 tw12079972513568036170 tw954786448462823534 tw9267052635506234686 tw18161085441529827932 tw13660587712693390216 tw5264770136885640738 tw7117092046454884478 tw876559763625047851 tw15200575093942063214 tw17179072548194078658 tw16108458258781636825 tw18077607515614117984 tw5020446936370304782 tw11839051483832290427 tw17510477192000850634 tw3593787435475961498 tw8107005770397150806 tw1035269257933267112 tw6059801930517757952 tw11572018707140994958 tw10213594797874925722 tw5778741497706501773 tw11882908405609767077 tw4508542209448715183 tw7976027060789060539 tw6755005468497434710 tw17500660722267058131 tw16657272426246838155 tw13630238316828260864 tw7477243821169182980 tw6276533818531594268 tw10582308526197802589 tw2359922847409404586 tw10158851596591876359 tw7101619858934942797 tw4165258075131653852 tw11613905194902555194 tw662981359974569637 tw7126368152799852279 tw14633028897884261813 tw16078426127308530182 tw11415716645542402767 tw3212244526673877211 tw10079393425505770001 tw4046437061367719685 tw14028271491988855317 tw593048900749182508 tw17236604029777124261 tw8243126164812361295 tw17437698533950187688 tw8306827205866324052 tw17891735464436515057 tw9966427568220850943 tw8695039025320894891 tw17600853720497690912 tw11388094904165644250 tw8665275667264048662 tw11822597597236691688 tw4219659072236262670 tw17005319017794134632 tw15295796171023610971 tw14489620419390244754 tw9065076557016996927 tw6433838618559904753 tw15938967414318182250 tw1922573788891172372 tw8908669426202977969 tw8221759077487579597 tw16138646864732401344 tw11061967457607044914 tw14560975289989696535 tw377428213227761433 tw13765389336439120507 tw9385727236535405671 tw14013013916863651643 tw15703237153733842390 tw7107438581403873800 tw12282532493770743500 tw13247493815751517903 tw3384105675472261672 tw16673864031362495289 tw1136014399896823198 tw17390550651337322126 tw11787398084194198629 tw9598824228459500600 tw8943517569976404252 tw13671340962531304708 tw5724009715525446998 tw13191735491468256663 tw2388619294655712595 tw5501145183009902289 tw9824048503205392160 tw16111063884565629654 tw3118920150843693614 tw9102588310452358778 tw1041125328832896652 tw14968651801880808900 tw12291909331266915085 tw6980785384068391961 tw13300953059477786084 tw3861939228504138205 tw5430618269260835045 tw15033019029316445027 tw938570870747487485 tw11467595846173347999 tw14259498053679472311 tw15052211401475515883 tw13060926612997438400 tw15065882388450527968 tw12819770304036746871 tw14452016421141016737 tw12825353386343934286 tw9739162391509022921 tw16910723967675306676 tw5155588904526013434 tw15497589450015170069 tw3747857753519119385 tw11675338593417461061 tw6849049396232815344 tw10509486394395421036 tw5649032836803984364 tw6614992531860113294 tw5189632840311429697 tw10772589448420576286 tw13576649353994978859 tw10721018373502177020 tw10148517552348177940 tw12597371218351835694 tw7384536099839204326 tw8304544827130100251 tw715576418287188948 tw17171954165550081990 tw7484642610305365751 tw16830586938735840108 tw15671666730390005402 tw14561540994622276590 tw6978929436124033701 tw3416872377689483151 tw15398398711556665664 tw1560818904496833557 tw16185890909022552534 tw9026167467456058833 tw657117942749410837 tw4730161401797248872 tw16866603376954071805 tw18399020268319962757 tw3581394283539144110 tw2993341115655519356 tw16084854045748186343 tw1009364115638325709 tw129059673792402857 tw15017924261637621927 tw18325094537959810018 tw13391903893845817310 tw9406514833965324510 tw10003155423420863359 tw2348165198035020980 tw15683191746901698104 tw12009155736705078611 tw6613289603698754964 tw10336628115129294412 tw11311897428425198316 tw1137721960453430129 tw6501335776323339561 tw17543686138031948795 tw5022917043809135080 tw12872341845326274746 tw3116905674240197018 tw8699689829415392905 tw4767179917847296172 tw3603293542720211200 tw17797897800401312375 tw11363773323332441929 tw6357298499991139986 tw13636297705346490751 tw9463900185008509759 tw15507179644899625607 tw4214005890468220600 tw14406019848300123877 tw7947406487007186848 tw13333593512220172847 tw7997935106100630517 tw16525950585207232542 tw11727340451762168167 tw11623598768826453907 tw93828936405809854 tw4045699154167134376 tw11702870733129040774 tw17368624546960927779 tw8688590888939039260 tw5334969863754931339 tw1588447330709631293 tw14227948122581725479 tw8149853110321413512 tw15972277808149953063 tw16295388906223843191 tw4643003025980659602 tw9134999350591316819 tw17833413428896993630 tw17172368855431546762 tw7321701440105965088 tw2419558452061260442 tw13561811902842313186 tw18105249142991970841 tw4736888504739492774 tw13353840576449207715 tw15577603744276181724 tw12721985002127267838 tw7187678306170719144 tw7984133089021394684 tw12307103932088242305 tw14043790601435479898 tw10115666970761795963 tw10849805788785152130 tw15319574205640730661 tw4734974838788770162 tw12772889878125335588 tw4656457604898867713 tw18428034599418205012 tw14521629354978958477 tw2041783041279004729 tw16569986542470708576 tw6077822226072513612 tw17206393611588314995 tw18334139194399250467 tw2629291048325949356 tw9806553930311667887 tw8506898313152247210 tw13942857176188009361 tw9393663013444194907 tw16774683863230161017 tw10154608724916486747 tw5630583222488034896 tw12815569824415137250 tw8733708968238221959 tw10984764130819757721 tw6354950717038703198 tw14355228708592576931 tw13622650932201405491 tw2876613362862066657 tw1841770542503622037 tw5510079784317262996 tw7956977295117594158 tw7081008944090026660 tw15111457760825079033 tw37552569227621017 tw16392800656288340028 tw10159927937227441803 tw13771540076315896192 tw9559936215137467464 tw3195884469688301567 tw11225991475672124474 tw1657073413011163102 tw860311322391118069 tw13040541464921111161 tw8441932325868937149 tw1232492199507428299 tw553763136732866917 tw12617953066564169980 tw11281234936339002400 tw12001970422734084997 tw8530365437008063092 tw16250206882290623937 tw4234759302304799050 tw431106694102929810 tw4482533318975660040 tw10863382137385377805 tw15752515982891406285 tw9004257486384780776 tw13853286485783242019 tw5203169488809205809 tw16278075293370930357 tw9409793230160799154 tw3482323766577164874 tw12804945906470233287 tw5900908135477003378 tw10396112120807467157 tw10669696626268720780 tw6077144146192271599 tw13574177160353787110 tw17545154903340706323 tw15265267195252516302 tw8601696380257072781 tw1891804312356897484 tw13551597664686275880 tw4597898616027895202 tw4140897467624809505 tw4576992534671161239 tw1874788812598977525 tw4917895253446192212 tw11480511298625219668 tw6716578842514324387 tw15659023395199592061 tw3531661685484043273 tw8911404298089651047 tw3036569704291911274 tw14555911395235801975 tw2339360054618844177 tw8254810124967470772 tw12410426037778721378 tw15153159653251092643 tw9531160596869098830 tw4209922594647527525 tw13034448190435179144 tw7018104607424515625 tw3546043425612988101 tw13947890525201832076 tw8707900897257625788 tw3668942558769430449 tw13971132065874371129 tw7505015552382506375 tw14332696424187732409 tw16420634956929834784 tw9099969339448887763 tw18004888752160451673 tw3015287532139243959 tw8146249422724664764 tw10127877219157435587 tw8674264436740849150 tw3795708589980087810 tw12592755322866121347 tw6637452917363829197 tw6906202931240094198 tw8723587425532223725 tw14850144280044567507 tw18146001509925714320 tw8893230938872922073 tw11830565922698939885 tw13116825444711931111 tw8427630066256473919 tw7858062282310885976 tw11352585142903599732 tw2455370824925771007 tw6200891440470752302 tw3862811190273174286 tw15470011329987405870 tw16235207338651609021 tw4956427208292196988 tw9351113830483713477 tw6416871312615433696 tw2285720805483093581 tw14203578615084810243 tw15212998465748814330 tw11200109702854799549 tw3854641778145850383 tw9938985712072936426 tw5535672669341455627 tw13043984779694587649 tw15333436355163632698 tw1310220875009763203 tw8868973894085864758 tw16727380744323128347 tw17996846333964740 tw3637903557686526945 tw11637483362231058215 tw12387035963025189994 tw10119684610872437882 tw1196249873465185289 tw2318148792406192191 tw13014519213168145891 tw15454890020277892846 tw16831288216783920739 tw3348298934297333836 tw16410771475331192707 tw12185817183734757688 tw16382738291128436445 tw6920941154370401839 tw17094892884704416410 tw3796980772344265696 tw5442413291613690342 tw2105880576223754837 tw12921437904275142582 tw15228811354740882048 tw860913429862923068 tw3633459645976331838 tw11446759605953365508 tw10856333339035989300 tw15541675291851977638 tw9354231296470606161 tw5819047284653069987 tw3978064043669652450 tw6410122342792288845 tw1055999100727692908 tw8426125329927466752 tw1654542063037264948 tw3800943514553859025 tw13266921996289144289 tw3988763207050065587 tw12702458712086045465 tw16150214796733481634 tw11854568304603889163 tw10983800691082883300 tw14819438671955774 tw7400821745943440349 tw17174500378507963777 tw17843954557899888729 tw17813567055198661945 tw17288720901697390001 tw9099010911424966723 tw7140941165711755376 tw9854915312950117820 tw14621806949159145389 tw9382642101312874090 tw13355501063791784803 tw4871159857631748028 tw12793983058012857317 tw13402389658197372370 tw368383432463954180 tw12610275198676786714 tw7609987425371939075 tw12169901291857600674 tw3099257228561120450 tw5495168448111992910 tw8133140841389988426 tw7996085639932092875 tw7350924873225078255 tw13244433072173804560 tw16307913990528774181 tw4716449108227005682 tw17533717137668488388 tw1301458816034410528 tw2774031275878635146 tw2551061487221817895 tw1435057885013540854 tw720322484008145612 tw14074088494259541214 tw18374944872406408149 tw2257183279792633952 tw3537860298410773421 tw2325743687739789624 tw15352414621329867851 tw1700237108661977749 tw17571459092190266244 tw15825806227619190213 tw2128887270143766300 tw13397710984800729678 tw7441536225084627831 tw1990879510603102182 tw13404443267116018073 tw5915902768210861167 tw4637810659664839620 tw6492726809496715370 tw12838757040153640907 tw15381175000878939687 tw7081999593152690259 tw6200412970956129979 tw1694120069935236464 tw10021124550024813761 tw16433358630576636189 tw4310795361323364441 tw5685329207627523322 tw3743175566762937775 tw17172640222603775056 tw15618655062362270697 tw17284657769105991374 tw7315452409950422587 tw13885220019892065562 tw15376910172319622760 tw17599032505764349068 tw556878940674078255 tw11598844877887709513 tw2364785199531477349 tw16151097587925646368 tw17684443549707772668 tw15278961555364928925 tw5519611594209905694 tw8509473369118608872 tw7398575185103742275 tw1023648338921200541 tw486114267176918180 tw3762199333471956313 tw80941218937973459 tw5195134768333388177 tw16227622736568071495 tw12995696465218466285 tw16211365077837045993 tw12844615727007954212 tw17858519826900606501 tw18313316553578875585 tw11354319306408595278 tw970857156996781412 tw812857931619748804 tw13096287021814518531 tw16585065801196405071 tw6663092106402656171 tw1510771582443531260 tw7665952290098545577 tw675928970648207797 tw8607788138781701877 tw8775345214361435789 tw18395744287712176612 tw8958718352558264995 tw7939890505639319874 tw14019425172690036510 tw3702798017843131290 tw3920339352804108747 tw14075776364778836900 tw13128688330372254409 tw16658543762776365833 tw17102547861592812002 tw2592245092309991999 tw12048279450145667975 tw6608684108290188000 tw13536651627768352591 tw262756767701083005 tw4044400999603792670 tw4663207247038363206 tw2439319901725764519 tw3919706359006000876 tw1208170606370421374 tw13367108153625768975 tw10839470682954325321 tw4923332996486373106 tw10869951716230914632 tw11969864058345768157 tw14995768928986377436 tw6824571051416109731 tw11801211409255157457 tw4162055932976349330 tw5594212063073799975 tw1103242966347819321 tw8787006621953339651 tw10131086266906826760 tw10578023814378176402 tw15397955783100214159 tw3389604946853066098 tw17782326476612079344 tw17836300551867145409 tw7888730457490210677 tw12336745865684846423 tw9461952423097280856 tw12183872207330752413 tw8469593205728659138 tw1539258298279155604 tw7555266738596412 tw16756904700923924472 tw9633645905130082696 tw12231489338463004093 tw17110493604346800238 tw7393890394439842563 tw12467653162849243016 tw8770583860874554021 tw3531639535850167272 tw8356618055139351855 tw16874515786146528708 tw38376182968564259 tw12157522586218874880 tw15453803316225929699 tw2708199277243451977 tw1760489537070295130 tw11307852383381199509 tw9597160641105355871 tw15717255870603040681 tw14321662758956028145 tw1076042313496493396 tw6577024195493501956 tw9821042888195724210 tw10888214219679795436 tw2591365725874660557 tw17455604419470490931 tw13941261506610958766 tw16009739332180894503 tw1716694419547095283 tw1721958247172766181
end PySem.W.Fast
namespace HdQ
open PySem PySem.W
def live (o : Obj) : Bool := match o.data with
  | .freed => false
  | _ => true
noncomputable def pick (l : List Obj) : Nat -> List Nat -> List (Obj × Bool) :=
  @List.rec Obj (λ_ => Nat -> List Nat -> List (Obj × Bool)) (λ_ _ => [])
    (λo _ ih i as => @List.rec Nat (λ_ => List (Obj × Bool)) [] (λa as' _ => @Bool.rec (λ_ => List (Obj × Bool)) (ih (i + 1) (a :: as')) ((o, live o) :: ih (i + 1) as') (Nat.beq i a)) as) l
theorem pick_is : ∀ (l : List Obj) (i : Nat) (as : List Nat), (pick l i as).length = as.length -> ∀ (k a : Nat) (o : Obj × Bool), as[k]? = some a -> (pick l i as)[k]? = some o -> i <= a /\ l[a - i]? = some o.1 /\ o.2 = live o.1
  | [], i, as, h, k, a, o, h1, h2 => by
    exfalso
    have : (pick [] i as)[k]? = none := rfl
    rw [this] at h2
    cases h2
  | x :: l, i, [], h, k, a, o, h1, h2 => by simp at h1
  | x :: l, i, b :: as, h, k, a, o, h1, h2 => by
    have e : pick (x :: l) i (b :: as) = @Bool.rec (λ_ => List (Obj × Bool)) (pick l (i + 1) (b :: as)) ((x, live x) :: pick l (i + 1) as) (Nat.beq i b) := rfl
    rw [e] at h h2
    cases q : Nat.beq i b with
    | true =>
      have ib := Nat.eq_of_beq_eq_true q
      rw [q] at h h2
      have h' : (pick l (i + 1) as).length + 1 = as.length + 1 := h
      cases k with
      | zero =>
        cases h1
        cases h2
        exact ⟨by omega, by rw [ib, Nat.sub_self]; rfl, rfl⟩
      | succ k =>
        obtain ⟨g1, g2, g3⟩ := pick_is l (i + 1) as (by omega) k a o h1 h2
        exact ⟨by omega, by rw [show a - i = (a - (i + 1)) + 1 by omega]; exact g2, g3⟩
    | false =>
      rw [q] at h h2
      obtain ⟨g1, g2, g3⟩ := pick_is l (i + 1) (b :: as) h k a o h1 h2
      exact ⟨by omega, by rw [show a - i = (a - (i + 1)) + 1 by omega]; exact g2, g3⟩
theorem get_live {h : Heap} {a : Addr} {o : Obj} (e : h.objs[a]? = some o) (l : live o = true) : h.get? a = some o := by
  unfold Heap.get?
  rw [e]
  obtain ⟨c, d, dt, sl⟩ := o
  cases dt <;> first | rfl | (exact absurd l Bool.false_ne_true)
theorem pick_get {K : Frag} {as : List Addr} {h : Heap} (e : as = K.map (·.1)) (x : pick h.objs.toList 0 as = K.map λp => (p.2, true)) : as.map h.get? = K.map λp => some p.2 := by
  have hl : (pick h.objs.toList 0 as).length = as.length := by rw [x, e, List.length_map, List.length_map]
  refine List.ext_getElem? λk => ?_
  rw [List.getElem?_map, List.getElem?_map]
  cases q : K[k]? with
  | none =>
    have : as[k]? = none := by rw [e, List.getElem?_map, q]; rfl
    rw [this]; rfl
  | some p =>
    have h1 : as[k]? = some p.1 := by rw [e, List.getElem?_map, q]; rfl
    have h2 : (pick h.objs.toList 0 as)[k]? = some (p.2, true) := by rw [x, List.getElem?_map, q]; rfl
    obtain ⟨_, g, gl⟩ := pick_is _ _ _ hl k p.1 _ h1 h2
    rw [h1]
    show some (h.get? p.1) = some (some p.2)
    rw [Nat.sub_zero, Array.getElem?_toList] at g
    rw [get_live g gl.symm]
noncomputable def hk (K : Params -> Frag) (as : List Addr) (e : ∀ P, as = (K P).map (·.1)) : Hook :=
  ⟨List (Obj × Bool), λs => pick s.heap.objs.toList 0 as, λw => (K w.params).map λp => (p.2, true), InK K, λw s x => InK.of e w s (pick_get (e _) x), InK.keeps⟩
theorem hk_in {K : Params -> Frag} {as : List Addr} {e : ∀ P, as = (K P).map (·.1)} {w : World} {h : Heap} (Y : (hk K as e).says w h) : (K w.params).In h := Y
end HdQ
namespace HdQ
open PySem PySem.W
def q0 : Program := { PySem.Challenge.rw_heddle_k64_whole_drafts_asked.prog with main := { PySem.Challenge.rw_heddle_k64_whole_drafts_asked.prog.main with body := PySem.Challenge.rw_heddle_k64_whole_drafts_asked.prog.main.body.drop 205 } }
def l0 : List Str := [Str.ofString "WeaveError",Str.ofString "NoRow",Str.ofString "TooLarge",Str.ofString "NoCloth",Str.ofString "NoDraft",Str.ofString "NoStrand",Str.ofString "NoLaying",Str.ofString "NoShuttle",Str.ofString "NoColour",Str.ofString "NoBlock",Str.ofString "NoPattern",Str.ofString "Unknown",Str.ofString "Twice",Str.ofString "MOST_STRANDS",Str.ofString "measured",Str.ofString "back_of",Str.ofString "quarter_of",Str.ofString "measured_texts",Str.ofString "check_pick",Str.ofString "check_strand",Str.ofString "end_signs",Str.ofString "turned_signs",Str.ofString "MOST_SHAFTS",Str.ofString "Draft",Str.ofString "woven",Str.ofString "least_draft",Str.ofString "check_setting",Str.ofString "check_count",Str.ofString "check_count_drafts",Str.ofString "check_shaft",Str.ofString "check_tie",Str.ofString "check_treading",Str.ofString "shed_over",Str.ofString "shafts_over",Str.ofString "unlike",Str.ofString "LETTERS",Str.ofString "MOST_LETTERS",Str.ofString "WORDS",Str.ofString "is_name",Str.ofString "FIGURES",Str.ofString "Reader",Str.ofString "number_of",Str.ofString "MOST_NUMBERS",Str.ofString "MOST_DEEP_rows",Str.ofString "Path",Str.ofString "Times",Str.ofString "unfolded",Str.ofString "shown",Str.ofString "whole_size",Str.ofString "all_numbers",Str.ofString "steps_between",Str.ofString "read_row",Str.ofString "read_items",Str.ofString "read_item",Str.ofString "read_times",Str.ofString "read_path",Str.ofString "read_number",Str.ofString "read_number_rows",Str.ofString "parted",Str.ofString "written_path",Str.ofString "is_stop",Str.ofString "BETWEEN_PARTS",Str.ofString "BETWEEN_TIES",Str.ofString "written_draft",Str.ofString "read_draft",Str.ofString "filled_blocks",Str.ofString "unit_size",Str.ofString "overs_within",Str.ofString "tiled",Str.ofString "times_met",Str.ofString "scores_of",Str.ofString "tops_of",Str.ofString "layers_of",Str.ofString "layer_numbers",Str.ofString "laid_together",Str.ofString "check_owners",Str.ofString "check_piece",Str.ofString "places_within",Str.ofString "sign_at",Str.ofString "Piece",Str.ofString "Named",Str.ofString "Rows",Str.ofString "Twill",Str.ofString "Satin",Str.ofString "Beside",Str.ofString "Above",Str.ofString "Mirror",Str.ofString "Upend",Str.ofString "Back",Str.ofString "Quarter",Str.ofString "Tile",Str.ofString "Blocks",Str.ofString "Lay",Str.ofString "check_size",Str.ofString "check_one_size",Str.ofString "prime_to",Str.ofString "written",Str.ofString "MOST_DEEP_reader",Str.ofString "MOST_RUNS",Str.ofString "THINGS",Str.ofString "read_pattern",Str.ofString "read_whole",Str.ofString "read_node",Str.ofString "read_things",Str.ofString "read_runs",Str.ofString "read_run",Str.ofString "read_number_reader",Str.ofString "read_comma",Str.ofString "worked_out",Str.ofString "known_cloth",Str.ofString "made_of_one",Str.ofString "made_of_two",Str.ofString "made_of_three",Str.ofString "read_book",Str.ofString "read_line",Str.ofString "parting_place",Str.ofString "check_set",Str.ofString "lower_strands",Str.ofString "lower_within",Str.ofString "ways_from",Str.ofString "way_to",Str.ofString "upper_part",Str.ofString "measured_half",Str.ofString "finished_cloth",Str.ofString "settle",Str.ofString "longest_float",Str.ofString "COLOURS",Str.ofString "free_half",Str.ofString "measured_picture",Str.ofString "check_threads",Str.ofString "free_pick",Str.ofString "free_sign",Str.ofString "first_colouring",Str.ofString "crossings_of",Str.ofString "settle_strand",Str.ofString "chain_from",Str.ofString "made_draft",Str.ofString "shifts_of",Str.ofString "least_across",Str.ofString "stays",Str.ofString "moved",Str.ofString "SHUTTLES",Str.ofString "seams_of",Str.ofString "tubes_of",Str.ofString "sheets_of",Str.ofString "check_shuttles",Str.ofString "seams_along",Str.ofString "bearers",Str.ofString "round_way",Str.ofString "web_of_set",Str.ofString "MOST_FIGURES",Str.ofString "ASKED_OF_A_NAME",Str.ofString "answers_to",Str.ofString "words_of",Str.ofString "answer_to",Str.ofString "answered",Str.ofString "of_a_name",Str.ofString "overs",Str.ofString "sheets",Str.ofString "paint",Str.ofString "check_count_desk",Str.ofString "check_name",Str.ofString "far_number",Str.ofString "whole_number",Str.ofString "_law_at",Str.ofString "_law_cloth",Str.ofString "_law_told",Str.ofString "_law_other",Str.ofString "_law_asked",Str.ofString "_law_number",Str.ofString "_law_unfolded",Str.ofString "_law_first_come",Str.ofString "_law_rising",Str.ofString "_law_weaves",Str.ofString "_law_least",Str.ofString "_law_right"]
end HdQ
open Lean in
local macro_rules
  | `(tactic| refine $f:ident $args*) => do
    unless f.getId == `PySem.W.holds_open do Macro.throwUnsupported
    let some qa := args.find? λa => a.raw.isOfKind ``Lean.Parser.Term.namedArgument && a.raw[1].getId.eraseMacroScopes == `q | Macro.throwUnsupported
    let qs := qa.raw[3]
    if qs.isIdent && qs.getId == `HdQ.q0 then Macro.throwUnsupported
    let q0 := (mkIdent `HdQ.q0).raw
    let args := args.map λa => ⟨Id.run do
      if a.raw.isOfKind ``Lean.Parser.Term.namedArgument then
        if a.raw[1].getId.eraseMacroScopes == `loose then return a.raw.setArg 3 (mkIdent `HdQ.l0)
        return Id.run (a.raw.replaceM λs => pure (if s.structEq qs then some q0 else none))
      return a.raw⟩
    `(tactic| refine $f:ident $args*)
open Lean in
local macro_rules
  | `(tactic| o_head ($h:ident $a $b $c $_ds*)) => do
    unless [`kHook, `kmHook, `PySem.W.kHook, `PySem.W.kmHook].contains h.getId.eraseMacroScopes do Macro.throwUnsupported
    `(tactic| o_head (HdQ.hk $a $b $c))
set_option maxRecDepth 100000 in
set_option maxHeartbeats 0 in
theorem PySem.Challenge.cw_heddle_k64_whole_drafts_asked_holds : PySem.Challenge.rw_heddle_k64_whole_drafts_asked.Holds := by
 w_on;o_law;k_head;(case hw=>w_witness2)
 k_fill
 refine L2.Agv (l:=PySem.Challenge.rw_heddle_k64_whole_drafts_asked) (n:=63) (k:=16) (x := "script") (CX:=L2.CX0) (sp:=Mine.Ab2) rfl (by decide) rfl ⟨rfl,by decide,by decide⟩ (λw h Y=>HdQ.hk_in Y) ?F ?S ?C
 case F =>
  intro w mg fa h KX G hmg
  refine' Mine.Amb (t:=Mine.Adr.mk) hmg ?T
  case T =>
   constructor <;> (try dsimp only) <;> first
   | (refine' L2.DfH.df ⟨?a,?b⟩ KX G ?c;(case a=>k_is);(case b=>(apply L2.Adb <;> k_is));(case c=>(intro _ _ _ _ _ _ us hl;first | exact Mine.bl1 (λ_=>rfl) us hl | exact Mine.bl2 (λ_ _=>rfl) us hl | exact Mine.bl3 (λ_ _ _=>rfl) us hl | exact Mine.bl4 (λ_ _ _ _=>rfl) us hl)))
   | (refine' L2.DfA.of ?a ?b KX G ?c;(case a=>k_is);(case b=>(apply L2.Adb <;> k_is));(case c=>(intro _ _ _ _ _ _ us hl;first | exact Mine.bl1 (λ_=>rfl) us hl | exact Mine.bl2 (λ_ _=>rfl) us hl | exact Mine.bl3 (λ_ _ _=>rfl) us hl | exact Mine.bl4 (λ_ _ _ _=>rfl) us hl)))
   | exact W.mg_none_of KX G (by k_is)
   | exact⟨_,W.mg_of KX G (by k_is)⟩
   | exact W.mg_of KX G (by k_is)
   | (refine' L2.MfH.mf ⟨?a,?b,?d⟩ ?c;(case a=>k_is);(case b=>k_is);(case d=>(apply L2.Adb <;> k_is));(case c=>(intro _ _ _ _ _ _ us hl;first | exact Mine.bl1 (λ_=>rfl) us hl | exact Mine.bl2 (λ_ _=>rfl) us hl | exact Mine.bl3 (λ_ _ _=>rfl) us hl | exact Mine.bl4 (λ_ _ _ _=>rfl) us hl)))
   | (apply L2.AkV <;> k_is)
   | (unfold L2.Cy;k_is)
   | (apply L2.AkT <;> first | k_exc | k_is)
   | k_is
   | kernel_rfl
   | (refine L2.AiD (by k_is) rfl rfl (by decide) ?_;repeat (first | exact .nil | refine .cons ⟨_,rfl⟩ ?_))
   | (refine L2.AkX ?_;kernel_rfl)
   | (constructor <;> first | k_is | rfl)
 case S=>exact λK H a ns hl hO hS=>Mine.Ab3 hl hS
 case C=>exact λ_ _ _ _ z=>z
