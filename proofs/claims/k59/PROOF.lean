import PyProof.Rows.All
import Wide.All
import OpenK.AllK
import Wide.FinOn
import Lean
import PyProof.EqAt
import PyProof.EqKinds
import PyProof.TupleCall
import PyProof.StrBlockL
import PyProof.EnumMake
import PyProof.CollectIter
import PyProof.JoinWalk
import PyProof.StrOps
import PyProof.StrLawsIdx
import PyProof.StrLawsIn
import PyProof.ListRange
import PyProof.Rows.Range3
import PyProof.Rows.SumAny
import KE.KIntText
import KE.LcSums
import OpenK.KCls
import KE.KTabLook
import PyProof.LongRange
import PyProof.StrOps2
import PyProof.FitsBits
import PyProof.Rows.ZipGen
import PyProof.NeKinds
import PyProof.Draws
import KE.KRevIter
import PyProof.ConsumeWalk
import KE.KUnpack
import PyProof.Rows.SeqMore
import PyProof.Rows.SortRev
import PyProof.Rows.SortWalk
import PyProof.Rows.CallKwBuiltin
import PyProof.Rows.MinMaxN
import PySem.Challenge.RW_heddle_k59_whole_patterns
set_option Elab.async false
set_option linter.all false
set_option maxRecDepth 100000
namespace Zz
def Apq:=@List.length_map
def Aps:=@List.length_append
def Apt:=@List.length_cons
def Apu:=@List.getElem?_eq_getElem
def Apv:=@Nat.le_refl
def Apw:=@List.map_cons
def Apx:=@List.map_append
def Apy:=@Nat.ne_of_lt
def Apz:=@List.length_nil
def Ap0:=@Nat.lt_of_lt_of_le
def Ap1:=@Int.toNat_natCast
def Ap2:=@List.length_take
def Ap3:=@List.size_toArray
def Ap4:=@List.take_add_one
def Ap5:=@Bool.false_ne_true
def Ap6:=@List.mem_cons_self
def Ap7:=@List.mem_cons_of_mem
def Ap8:=@Nat.zero_le
def Ap9:=@List.getElem?_map
def ApA:=@List.mem_cons
def ApB:=@List.not_mem_nil
def ApC:=@Nat.lt_irrefl
def ApD:=@List.mem_of_getElem?
def ApE:=@List.length_range
def ApF:=@Nat.le_trans
def ApG:=@List.mem_append_right
def ApH:=@List.flatten_cons
def ApI:=@List.getElem_mem
def ApJ:=@List.take_length
def ApK:=@List.length_drop
def ApL:=@Int.natCast_mul
def ApM:=@List.replicate_succ
def ApN:=@List.append_assoc
def ApO:=@List.lookup_cons
def ApP:=@List.take_of_length_le
def ApQ:=@List.length_replicate
def ApR:=@List.getD_eq_getElem?_getD
def ApS:=@Int.zero_add
def ApT:=@List.append_nil
def ApU:=@Bool.and_eq_true
def ApV:=@List.length_reverse
def ApW:=@List.map_nil
def ApX:=@List.length_singleton
def ApY:=@List.getElem?_eq_none
def ApZ:=@List.range_succ
def Aqa:=@List.map_map
def Aqb:=@Nat.min_self
def Aqc:=@List.map_id
def Aqd:=@Nat.ne_of_gt
def Aqe:=@Nat.le_of_eq
def Aqf:=@Nat.le_succ
def Aqg:=@Nat.mul_comm
def Aqh:=@Nat.min_eq_left
def Aqi:=@Nat.mul_zero
def Aqj:=@List.filterMap_cons
def Aqk:=@Nat.lt_succ_self
def Aql:=@List.sum_cons
def Aqm:=@List.getElem?_append_right
def Aqn:=@List.getElem?_append_left
def Aqo:=@List.takeWhile_cons
def Aqp:=@List.mem_append_left
def Aqq:=@Bool.eq_iff_iff
def Aqr:=@List.ext_getElem?
def Aqs:=@Nat.mul_le_mul
def Aqt:=@List.length_zip
def Aqu:=@List.getElem?_cons_succ
def Aqv:=@Nat.lt_succ_of_lt
def Aqw:=@List.getElem_append_left
def Aqx:=@List.cons_append
def Aqy:=@Nat.le_of_lt
def Aqz:=@List.of_mem_zip
def Aq0:=@List.all_cons
def Aq1:=@List.foldl_cons
def Aq2:=@Nat.succ_mul
def Aq3:=@List.nil_append
def Aq4:=@List.forIn_cons
def Aq5:=@List.tail_cons
def Aq6:=@List.getElem?_reverse
def Aq7:=@List.map_congr_left
def Aq8:=@List.drop_zero
def Aq9:=@List.filter_cons
def AqA:=@List.all_eq_true
def AqB:=@List.getElem?_range
def AqC:=@List.getElem_replicate
def AqD:=@List.getElem_append_right
def AqE:=@Bool.not_false
def AqF:=@Nat.sub_self
def AqG:=@Int.natCast_emod
def AqH:=@List.flatMap_def
def AqI:=@List.take_append_drop
def AqJ:=@List.getElem?_drop
def AqK:=@Nat.mod_eq_of_lt
def AqL:=@List.flatMap_cons
def AqM:=@List.dropWhile_suffix
def AqN:=@List.length_zipWith
def AqO:=@List.dropWhile_cons
def AqP:=@List.mem_of_mem_drop
def AqQ:=@List.mem_of_mem_take
def AqR:=@List.eq_nil_of_length_eq_zero
end Zz
open Zz
namespace L2
open PySem PySem.Spec PyProof.Rows
abbrev Key:=Sum Int Str
def Akk:Key->Value->Bool
 | .inl k,v=>Value.isInt k v
 | .inr x,v=>Value.isStrOf x v
def An1 (w:World):Key->Int
 | .inl k=>hashInt k
 | .inr x=>hashStr w x
theorem Es:∀{k:Key} {v:Value},Akk k v=true->(∃ i t,k=Sum.inl i/\v=Value.int i t)\/(∃ x t,k=Sum.inr x/\v=Value.str x t)
 | .inl i,v,h=>by
  obtain⟨t,e⟩:=Value.isInt_shape (k:=i) (v:=v) h
  exact .inl ⟨i,t,rfl,e⟩
 | .inr x,v,h=>by
  obtain⟨t,e⟩:=Value.isStrOf_shape (x:=x) (v:=v) h
  exact .inr ⟨x,t,rfl,e⟩
theorem Ak7(a b:Int):decide ((Sum.inl a:Key)=Sum.inl b)=(a == b):=by
 by_cases e:a=b
 ·subst e;simp
 ·have h:¬(Sum.inl a:Key)=Sum.inl b:=λq=>e (Sum.inl.inj q)
  rw[decide_eq_false h]
  exact(beq_eq_false_iff_ne.mpr e).symm
theorem Ak8(a b:Str):decide ((Sum.inr a:Key)=Sum.inr b)=decide (a=b):=by
 by_cases e:a=b
 ·subst e;simp
 ·have h:¬(Sum.inr a:Key)=Sum.inr b:=λq=>e (Sum.inr.inj q)
  rw[decide_eq_false h,decide_eq_false e]
theorem Ak9(a:Int)(b:Str):decide ((Sum.inl a:Key)=Sum.inr b)=false:=decide_eq_false (λq=>nomatch q)
theorem AkA(a:Str)(b:Int):decide ((Sum.inr a:Key)=Sum.inl b)=false:=decide_eq_false (λq=>nomatch q)
def Abj (prog:Program)(w:World):PySem.KeyKind prog w Key where
 is:=Akk
 hash:=An1 w
 inj:=λv a b ha hb=>by
  rcases Es ha with ⟨i,t,rfl,rfl⟩ | ⟨x,t,rfl,rfl⟩
  ·rcases Es hb with ⟨j,u,rfl,e⟩ | ⟨y,u,rfl,e⟩
   ·injection e with e1 _;rw[e1]
   ·exact nomatch e
  ·rcases Es hb with ⟨j,u,rfl,e⟩ | ⟨y,u,rfl,e⟩
   ·exact nomatch e
   ·injection e with e1 _;rw[e1]
 byValue:=λk v h=>by
  rcases Es h with ⟨i,t,rfl,rfl⟩ | ⟨x,t,rfl,rfl⟩ <;> rfl
 pyHash:=λhv h=>by
  rcases Es hv with ⟨i,t,rfl,rfl⟩ | ⟨x,t,rfl,rfl⟩
  ·exact wpAny_pyHash_int h
  ·exact wpAny_pyHash_str h
 eqBool:=λhu hv h=>by
  rcases Es hu with ⟨i,t,rfl,rfl⟩ | ⟨x,t,rfl,rfl⟩
  ·rcases Es hv with ⟨j,u,rfl,rfl⟩ | ⟨y,u,rfl,rfl⟩
   ·rw[Ak7] at h;exact wpAny_eqBool_int h
   ·rw[Ak9] at h;exact SeqAt.EqAt.int_str i t y u _ _ _ _ h
  ·rcases Es hv with ⟨j,u,rfl,rfl⟩ | ⟨y,u,rfl,rfl⟩
   ·rw[AkA] at h;exact SeqAt.EqAt.str_int x t j u _ _ _ _ h
   ·rw[Ak8] at h;exact wpAny_eqBool_str h
 «strs»:=λk x t v h=>by
  rcases Es h with ⟨i,u,rfl,e⟩ | ⟨y,u,rfl,e⟩
  ·exact nomatch e
  ·injection e with e1 _
   subst e1
   cases v <;> rfl
inductive V where
 | non | bl (b:Bool) | int (i:Int) | str (x:Str) | byt (b:Array UInt8) | flt (b:UInt64) | ref (a:Addr) | ty (n:String)
 deriving DecidableEq
def RelV:V->Value->Prop
 | .non,u=>u=Value.none
 | .bl b,u=>u=Value.bool b
 | .int i,u=>∃ t,u=Value.int i t
 | .str x,u=>∃ t,u=Value.str x t
 | .byt b,u=>∃ t,u=Value.bytes b t
 | .flt b,u=>∃ t,u=Value.float b t
 | .ref a,u=>u=Value.ref a
 | .ty n,u=>u=Value.type n
abbrev Vals:List V->List Value->Prop:=Paired RelV
theorem Vals.length{xs:List V}{us:List Value}(r:Vals xs us):xs.length=us.length:=Paired.length r
theorem Vals.get:∀{xs:List V} {us:List Value} {i:Nat} {x:V},Vals xs us->xs[i]?=some x->∃ u,us[i]?=some u/\RelV x u
 | _,_,_,_,.nil,e=>by simp at e
 | _,_,0,_,.cons r _,e=>by simp at e;subst e;exact⟨_,rfl,r⟩
 | _,_,i+1,x,.cons _ t,e=>by
  obtain⟨u,h1,h2⟩:=Vals.get (i:=i) (x:=x) t (by simpa using e)
  exact⟨u,by simpa using h1,h2⟩
theorem Vals.append:∀{xs ys:List V} {us ws:List Value},Vals xs us->Vals ys ws->Vals (xs++ys) (us++ws)
 | _,_,_,_,.nil,s=>s
 | _,_,_,_,.cons r t,s=>.cons r (Vals.append t s)
theorem Vals.take:∀{xs:List V} {us:List Value} (n:Nat),Vals xs us->Vals (xs.take n) (us.take n)
 | _,_,0,_=>.nil
 | _,_,_+1,.nil=>.nil
 | _,_,n+1,.cons r t=>.cons r (Vals.take n t)
theorem Vals.drop:∀{xs:List V} {us:List Value} (n:Nat),Vals xs us->Vals (xs.drop n) (us.drop n)
 | _,_,0,r=>r
 | _,_,_+1,.nil=>.nil
 | _,_,n+1,.cons _ t=>Vals.drop n t
def ZF:Option V->Option Value->Prop
 | some v,some u=>RelV v u
 | none,none=>True
 | _,_=>False
def KV {κ:Type}:List (κ × V)->List (κ × Value)->Prop:=Paired λ(p:κ × V) (q:κ × Value)=>p.1=q.1/\RelV p.2 q.2
def kV:Key->V
 | .inl i=>.int i
 | .inr x=>.str x
inductive HO where
 | lst (xs:List V)
 | tup (xs:List V)
 | dK (kvs:List (Key × V)) | dT (kvs:List (List Key × V))
 | set (S:Int->Bool) (n:Nat)
 | ins (C dx:Addr) (fs:List (Str × V))
 | own (x:Addr)
 | xd (fs:List (Str × V))
 | met (f x:Addr)
 | rng (lo hi:Int)
 | frz (o:Obj) (u:HO)
 | tbl (ps:Array Value)
 | ext (φ:Heap->Prop)
abbrev Hp:=Addr->Option HO
def upd (H:Hp)(a:Addr)(o:HO):Hp:=λb=>if b=a then some o else H b
theorem Ae{H:Hp}{a:Addr}{o:HO}:upd H a o a=some o:=by unfold upd;rw[if_pos rfl]
theorem Ao{H:Hp}{a b:Addr}{o:HO}(h:b≠a):upd H a o b=H b:=by unfold upd;rw[if_neg h]
theorem G5{H:Hp}{a:Addr}{o u:HO}:upd (upd H a o) a u=upd H a u:=by
 funext b;unfold upd;split <;> rfl
theorem Ay{H:Hp}{a b:Addr}{o:HO}(h:H a=some o)(h':H b=none):a≠b:=by
 intro e;subst e;rw[h] at h';cases h'
section
variable (P:Program) (w:World)
def GJ (H:Hp)(h:Heap)(a:Addr):HO->Prop
 | .lst xs=>xs.length<=sizeLine/\∃(its:List Value) (n:Nat),Vals xs its/\h.get? a=some { cls:=.type "list", data:=.seq its.toArray n }
 | .tup xs=>xs.length<=sizeLine/\∃ its:List Value,Vals xs its/\IsTup h a its.toArray
 | .dK kvs=>kvs.length<=sizeLine/\(a == sysModules)=false/\∃ vs,KV kvs vs/\h.DictOf (Abj P w) a vs
 | .dT kvs=>kvs.length<=sizeLine/\(a == sysModules)=false/\∃ xs:List (List Key × Addr × Value),
   Paired (λ(p:List Key × V) (q:List Key × Addr × Value)=>p.1=q.1/\H q.2.1=some (.tup (p.1.map kV))/\RelV p.2 q.2.2) kvs xs /\
   ∃ o es ep,h.get? a=some o/\o.ExactDict/\o.data=.dict es ep/\es.toList=xs.map (entryOfKey (tupleKind (Abj P w)))/\(xs.map (·.1)).Nodup
 | .set S n=>h.SetOf (intKind P w) a S n
 | .ins C dx fs=>H dx=some (.own a)/\fs.length<=1000/\dx≠a/\h.get? a=some (W.instObj C dx) /\
   ∃ mA,h.Ns1 dx mA/\(∀ f,ZF (fs.lookup f) (mA f))/\PySem.Within mA (fs.map (·.1))
 | .own _=>∃ o,h.get? a=some o
 | .xd fs=>∃ mA,h.Ns1 a mA/\∀ f,ZF (fs.lookup f) (mA f)
 | .rng lo hi=>∃ t u v,h.get? a=some { cls:=.type "range", data:=.fields #[.int lo t,.int hi u,.int 1 v] }
 | .frz o u=>h.get? a=some o/\GJ H h a u
 | .tbl ps=>h.get? a=some { cls:=.none,data:=.fields ps }
 | .met f x=>h.get? a=some (W.methodObj (.ref f) (.ref x))
 | .ext φ=>φ h/\(∃ o,h.get? a=some o)/\∀ h1 h2:Heap,φ h1->(∀ o,h1.get? a=some o->h2.get? a=some o)->φ h2
def HOk (H:Hp)(h:Heap):Prop:=∀ a o,H a=some o->GJ P w H h a o
end
section
variable {P:Program}{w:World}{H H':Hp}{h h':Heap}{a:Addr}{o:HO}
theorem GJ.lt(x:GJ P w H h a o):a<h.objs.size:=by
 cases o with
 | lst xs=>obtain⟨_,_,_,_,e⟩:=x;exact Heap.lt_size e
 | tup xs=>obtain⟨_,_,_,p⟩:=x;exact p.lt
 | dK kvs=>obtain⟨_,_,_,_,o,_,_,e,_⟩:=x;exact Heap.lt_size e
 | dT kvs=>obtain⟨_,_,_,_,o,_,_,e,_⟩:=x;exact Heap.lt_size e
 | set S n=>obtain⟨o,_,_,_,e,_⟩:=x;exact Heap.lt_size e
 | ins C dx fs=>obtain⟨_,_,_,e,_⟩:=x;exact Heap.lt_size e
 | own y=>obtain⟨_,e⟩:=x;exact Heap.lt_size e
 | xd fs=>obtain⟨_,⟨_,_,_,e,_⟩,_⟩:=x;exact Heap.lt_size e
 | rng lo hi=>obtain⟨_,_,_,e⟩:=x;exact Heap.lt_size e
 | frz ob u=>obtain⟨e,_⟩:=x;exact Heap.lt_size e
 | tbl ps=>exact Heap.lt_size (show h.get? a=some _ from x)
 | met f y=>exact Heap.lt_size (show h.get? a=some _ from x)
 | ext φ=>obtain⟨_,⟨_,e⟩,_⟩:=x;exact Heap.lt_size e
theorem Paired.AlS{α β:Type}{F G:α->β->Prop}:∀{l₁:List α} {l₂:List β},Paired F l₁ l₂->(∀ a b,F a b->G a b)->Paired G l₁ l₂
 | _,_,.nil,_=>.nil
 | _,_,.cons r t,f=>.cons (f _ _ r) (Paired.AlS t f)
theorem GJ.stay(x:GJ P w H h a o)(k:∀ b u,(b=a\/H b=some (.own a))->h.get? b=some u->h'.get? b=some u)
  (ho:∀ b,H b=some (.own a)->H' b=some (.own a)) (ht:∀ b xs,H b=some (.tup xs)->H' b=some (.tup xs)):GJ P w H' h' a o:=by
 induction o with
 | lst xs=>obtain⟨z,its,n,r,e⟩:=x;exact⟨z,its,n,r,k _ _ (.inl rfl) e⟩
 | tup xs=>obtain⟨z,its,r,ob,e,c⟩:=x;exact⟨z,its,r,ob,k _ _ (.inl rfl) e,c⟩
 | dK kvs=>obtain⟨z,y,vs,r,ob,es,ep,e,c⟩:=x;exact⟨z,y,vs,r,ob,es,ep,k _ _ (.inl rfl) e,c⟩
 | dT kvs =>
  obtain⟨z,y,xs,r,ob,es,ep,e,c⟩:=x
  exact⟨z,y,xs,Paired.AlS r λp q z=>⟨z.1,ht _ _ z.2.1,z.2.2⟩,ob,es,ep,k _ _ (.inl rfl) e,c⟩
 | set S n=>obtain⟨ob,es,ep,t,e,c⟩:=x;exact⟨ob,es,ep,t,k _ _ (.inl rfl) e,c⟩
 | ins C dx fs =>
  obtain⟨d,z,ne,e,mA,⟨od,es,ep,e2,c⟩,r⟩:=x
  exact⟨ho _ d,z,ne,k _ _ (.inl rfl) e,mA,⟨od,es,ep,k _ _ (.inr d) e2,c⟩,r⟩
 | own y=>obtain⟨ob,e⟩:=x;exact⟨ob,k _ _ (.inl rfl) e⟩
 | xd fs=>obtain⟨mA,⟨od,es,ep,e,c⟩,r⟩:=x;exact⟨mA,⟨od,es,ep,k _ _ (.inl rfl) e,c⟩,r⟩
 | rng lo hi=>obtain⟨t,u,v,e⟩:=x;exact⟨t,u,v,k _ _ (.inl rfl) e⟩
 | frz ob u ih=>obtain⟨e,q⟩:=x;exact⟨k _ _ (.inl rfl) e,ih q⟩
 | tbl ps =>
  have e:h.get? a=some { cls:=.none,data:=.fields ps }:=x
  show h'.get? a=some { cls:=.none,data:=.fields ps }
  exact k a _ (.inl rfl) e
 | met f y =>
  have e:h.get? a=some (W.methodObj (.ref f) (.ref y)):=x
  show h'.get? a=some (W.methodObj (.ref f) (.ref y))
  exact k a _ (.inl rfl) e
 | ext φ=>obtain⟨p,⟨o,e⟩,st⟩:=x;exact⟨st _ _ p λo q=>k _ _ (.inl rfl) q,⟨o,k _ _ (.inl rfl) e⟩,st⟩
theorem HOk.lt(x:HOk P w H h)(e:H a=some o):a<h.objs.size:=(x a o e).lt
theorem HOk.fresh(x:HOk P w H h)(e:h.objs.size<=a):H a=none:=by
 cases q:H a with
 | none=>rfl
 | some u=>exact absurd (Ap0 (x.lt q) e) (ApC _)
theorem HOk.kept(x:HOk P w H h)(k:∀ b u,h.get? b=some u->h'.get? b=some u):HOk P w H h':=λa o e =>
 (x a o e).stay (λb u _ q=>k b u q) (λ_ q=>q) λ_ _ q=>q
theorem HOk.laid(x:HOk P w H h)(k:∀ b u,h.get? b=some u->h'.get? b=some u)(hp:h.objs.size<=a)(new:GJ P w (upd H a o) h' a o):HOk P w (upd H a o) h':=λb u e=>by
 have hn:=x.fresh hp
 by_cases hb:b=a
 ·subst hb;rw[Ae] at e;cases e;exact new
 ·rw[Ao hb] at e
  exact(x b u e).stay (λc v _ q=>k c v q) (λc q=>by rw[Ao (Ay q hn)];exact q) λc xs q=>by rw[Ao (Ay q hn)];exact q
end
def Rd (H:Hp)(a:Addr)(u:HO):Prop:=H a=some u\/∃ o,H a=some (.frz o u)
theorem Rd.ok{P:Program}{w:World}{H:Hp}{h:Heap}{a:Addr}{u:HO}(r:Rd H a u)(x:HOk P w H h):GJ P w H h a u:=by
 rcases r with r | ⟨o,r⟩
 ·exact x a u r
 ·obtain⟨_,q⟩:=x a _ r
  exact q
def Mut:Option HO->Prop
 | some (.lst _)=>True
 | some (.dK _)=>True
 | some (.dT _)=>True
 | some (.set _ _)=>True
 | some (.ins _ _ _)=>True
 | some (.ext _)=>True
 | _=>False
section
variable {P:Program}{w:World}{H:Hp}{h h':Heap}{x e:Addr}{o':HO}
theorem HOk.write(ok:HOk P w H h)(mu:Mut (H x))(he:e=x\/H e=some (.own x))(k:∀ b u,b≠e->h.get? b=some u->h'.get? b=some u)(heo:∃ u,h'.get? e=some u)
  (new:GJ P w (upd H x o') h' x o'):HOk P w (upd H x o') h':=λb u q=>by
 have AlT:∀ c y,H c=some (.own y)->c≠x:=λc y r z=>by subst z;rw[r] at mu;exact mu
 have An2:∀ c xs,H c=some (.tup xs)->c≠x:=λc xs r z=>by subst z;rw[r] at mu;exact mu
 by_cases hb:b=x
 ·subst hb;rw[Ae] at q;cases q;exact new
 ·rw[Ao hb] at q
  by_cases hbe:b=e
  ·have q':H b=some (.own x):=by
    rcases he with z | z
    ·exact absurd (hbe.trans z) hb
    ·rw[hbe];exact z
   rw[q] at q';cases q'
   obtain⟨v,hv⟩:=heo
   exact⟨v,by rw[hbe];exact hv⟩
  ·refine(ok b u q).stay (λc v hc r=>k c v ?_ r) (λc r=>by rw[Ao (AlT c b r)];exact r) λc xs r=>by rw[Ao (An2 c xs r)];exact r
   rcases hc with rfl | hc
   ·exact hbe
   ·rintro rfl
    rcases he with z | z
    ·exact AlT c b hc z
    ·rw[hc] at z;cases z;exact hb rfl
end
structure Un (fs ex:List Addr) (H H':Hp) (h h':Heap):Prop where
 keep:∀ b o,h.get? b=some o->H b=none->b∉fs->b∉ex->h'.get? b=some o
 slot:∀ b o,h.get? b=some o->H b=none->b∈fs->b∉ex->∃ sl,h'.get? b=some { o with slots:=sl }
 free:∀ b o,h.get? b=some o->H b=none->b∉ex->H' b=none
 there:∀ b o,h.get? b=some o->b∉ex->∃ o',h'.get? b=some o'
 tups:∀ b xs,H b=some (.tup xs)->H' b=some (.tup xs)
 JG:∀ b o u,H b=some (.frz o u)->H' b=some (.frz o u)
 Kv:∀ b ps,H b=some (.tbl ps)->∃ more,H' b=some (.tbl (ps++more))
section
variable {fs fs' ex ex':List Addr}{H H1 H2:Hp}{h h1 h2 h':Heap}{a x e:Addr}{o:HO}
theorem Un.any(u:Un fs ex H H1 h h1){b:Addr}{ob:Obj}(q:h.get? b=some ob)(n:H b=none)(hx:b∉ex):∃ sl,h1.get? b=some { ob with slots:=sl }:=by
 by_cases hb:b∈fs
 ·exact u.slot b ob q n hb hx
 ·exact⟨ob.slots,u.keep b ob q n hb hx⟩
theorem Un.kept(k:∀ b u,h.get? b=some u->h'.get? b=some u):Un fs ex H H h h' :=
 ⟨λb ob q _ _ _=>k b ob q,λb ob q _ _ _=>⟨ob.slots,k b ob q⟩,λ_ _ _ n _=>n,λb ob q _=>⟨ob,k b ob q⟩,λ_ _ q=>q,λ_ _ _ q=>q,λ_ ps q=>⟨#[],by rw[q];simp⟩⟩
theorem Un.refl:Un fs ex H H h h:=Un.kept λ_ _ q=>q
theorem Un.laid(k:∀ b u,h.get? b=some u->h'.get? b=some u)(hp:h.objs.size<=a)(hn:H a=none):Un fs ex H (upd H a o) h h' where
 keep:=λb u q _ _ _=>k b u q
 slot:=λb u q _ _ _=>⟨u.slots,k b u q⟩
 free:=λb u q n _=>by rw[Ao (Apy (Ap0 (Heap.lt_size q) hp))];exact n
 there:=λb u q _=>⟨u,k b u q⟩
 tups:=λb xs q=>by rw[Ao (Ay q hn)];exact q
 JG:=λb u xs q=>by rw[Ao (Ay q hn)];exact q
 Kv:=λb ps q=>⟨#[],by rw[Ao (Ay q hn),q];simp⟩
theorem Un.write(mu:Mut (H x))(he:e=x\/H e=some (.own x))(k:∀ b u,b≠e->h.get? b=some u->h'.get? b=some u)(heo:∃ u,h'.get? e=some u):Un fs ex H (upd H x o) h h':=by
 have hx:∀ b,H b=none->b≠x:=λb n z=>by subst z;rw[n] at mu;exact mu
 have hb:∀ b,H b=none->b≠e:=λb n z=>by
  subst z
  rcases he with r | r
  ·exact hx b n r
  ·rw[n] at r;cases r
 have hm:∀ b u,H b=some u->¬Mut (some u)->b≠x:=λb u q nm z=>by subst z;rw[q] at mu;exact nm mu
 refine⟨λb u q n _ _=>k b u (hb b n) q,λb u q n _ _=>⟨u.slots,k b u (hb b n) q⟩,λb u q n _=>by rw[Ao (hx b n)];exact n,λb u q _=>?_,
  λb xs q=>by rw[Ao (hm b _ q λz=>z)];exact q,λb u xs q=>by rw[Ao (hm b _ q λz=>z)];exact q,λb ps q=>⟨#[],by rw[Ao (hm b _ q λz=>z),q];simp⟩⟩
 by_cases hbe:b=e
 ·subst hbe;exact heo
 ·exact⟨u,k b u hbe q⟩
end
def trk (h:Heap)(H:Hp):List Addr:=(List.range h.objs.size).filter λa=>(H a).isSome
def Abk (h:Heap)(H:Hp):Heap:=W.hideAll h (trk h H)
theorem Af0(h:Heap)(H:Hp):(Abk h H).objs.size=h.objs.size:=W.hideAll_size _ _
theorem AgE{h:Heap}{H:Hp}{b:Addr}{o:Obj}(e:h.get? b=some o)(n:H b=none):(Abk h H).get? b=some o :=
 W.hideAll_get _ e λhm=>by
  have q:(H b).isSome=true:=(List.mem_filter.mp hm).2
  rw[n] at q;simp at q
theorem AiO{h:Heap}{H:Hp}{b:Addr}{o:Obj}(e:(Abk h H).get? b=some o):h.get? b=some o/\H b=none:=by
 have e':h.get? b=some o:=W.of_hideAll (trk h H) e
 refine⟨e',?_⟩
 cases q:H b with
 | none=>rfl
 | some x =>
  have hm:b∈trk h H:=List.mem_filter.mpr ⟨List.mem_range.mpr (Heap.lt_size e'),by simp[q]⟩
  have z:(Abk h H).get? b=none:=W.hideAll_none (trk h H) hm
  rw[z] at e;cases e
def AiP (g h:Heap)(L:Addr):List (Addr × Obj):=(List.range h.objs.size).filterMap λa=>if a=L\/(g.get? a).isSome=true then none else (h.get? a).map λo=>(a,o)
def rest(g h:Heap)(L d:Addr):List (Addr × Obj):=(AiP g h L).filter λp=>decide (p.1≠d)
structure Mod (K:W.Frag) (mg:Str->Option Value) (base:Heap):Prop where
 kin:K.In base
 glob:base.Ns mainGlobals mg
 blt:∃ mb,base.Ns builtinsNs mb/\∀ x:Str,x ≠ "__name__" -> mb x=bootBuiltins x
 nolimit:base.NoLimit
structure Cx where
 prog:Program
 w:World
 K:W.Frag
 mg:Str->Option Value
 base:Heap
 A:Around
 N:List Str
 s₀:Shared
 H₀:Hp
 env:Env
 outer:List Env
 stack:List Env
 ex:List Addr
 fn:Str->Bool
 calm:Bool
 pn:List (Addr × Obj)
 xe:Value->Shared->Prop
def frs (l:List Env):List Addr:=l.filterMap (·.frame)
abbrev Cx.fs (X:Cx):List Addr:=frs X.outer
def Vis (sc:Scope)(x:Str):Prop:=sc.names.lookup x=some .local\/sc.names.lookup x=some .cell\/sc.names.lookup x=some .free
def Loc (sc:Scope)(x:Str):Prop:=sc.names.lookup x=some .local\/sc.names.lookup x=some .cell
def Look(env:Env)(h:Heap)(m:Str->Option Value)(x:Str)(u:Value):Prop :=
 (env.kindOf x=some .local/\m x=some u)\/((env.kindOf x=some .cell\/env.kindOf x=some .free)/\∃ c,env.cells.lookup x=some c/\h.IsCell c (some u))
structure Cx.Ok (X:Cx):Prop where
 mod:Mod X.K X.mg X.base
 kind:X.env.scope.kind=.function
 glob:X.env.globals=mainGlobals
 blt:X.env.builtins=builtinsNs
 above:X.s₀.heap.objs.size<=X.env.locals
 inj:∀ x y c,X.env.cells.lookup x=some c->X.env.cells.lookup y=some c->x=y
 has:∀ x,(X.env.kindOf x=some .cell\/X.env.kindOf x=some .free)->∃ c,X.env.cells.lookup x=some c
 cab:∀ x c,X.fn x=true->X.env.cells.lookup x=some c->X.s₀.heap.objs.size<=c
 hd:X.calm=true->X.A.handled=none
 frames:X.A.frames=some X.stack
 stk:X.stack=X.outer\/(X.stack=X.env::X.outer/\X.env.frame=some X.env.locals)
 exf:∀ b∈X.ex,b≠X.env.locals/\∀ x c,X.env.cells.lookup x=some c->c≠b
 bs:∀ b o,X.base.get? b=some o->X.s₀.heap.get? b=some o/\X.H₀ b=none
 bsz:X.base.objs.size<=X.s₀.heap.objs.size
 Xa:∀ b o,X.base.get? b=some o->b∉X.ex
 Vs:∀ b∈X.ex,b∉X.fs
 PJ:X.s₀.heap.FunFrames X.base X.outer
 frf:∀ b∈X.fs,X.H₀ b=none
structure Inv (X:Cx) (pins:List (Addr × Obj)) (σ:List (Option V)) (H:Hp) (s:Shared):Prop where
 ok:X.Ok
 os:s.os=X.s₀.os
 bare:AllBare s.gens
 base:Un X.fs X.ex X.H₀ H X.s₀.heap s.heap
 loc:∃ m,s.heap.Ns X.env.locals m/\∀(i:Nat) (x:Str) (v:V),X.N[i]?=some x->σ[i]?=some (some v)->Vis X.env.scope x->∃ u,RelV v u/\Look X.env s.heap m x u
 cell:∀ x c,X.env.cells.lookup x=some c->∃ v,s.heap.IsCell c v
 free:H X.env.locals=none
 Je:∀ x c,X.env.cells.lookup x=some c->H c=none
 pin:∀ p∈X.pn++pins,s.heap.get? p.1=some p.2/\H p.1=none/\p.1≠X.env.locals/\p.1∉X.fs/\∀ v,p.2.data≠.cell v
 hok:HOk X.prog X.w H s.heap
 len:σ.length=X.N.length
section
variable {X:Cx}{pins:List (Addr × Obj)}{σ:List (Option V)}{H H':Hp}{s:Shared}{h':Heap}
theorem Cx.Ok.An3(ok:X.Ok){b:Addr}{o:Obj}(e:X.base.get? b=some o):b∉X.fs:=λhb=>by
 have:=(ok.PJ.mem hb).1
 rw[e] at this;cases this
theorem Inv.bs(I:Inv X pins σ H s):∀ b o,X.base.get? b=some o->s.heap.get? b=some o/\H b=none:=λb o e =>
 ⟨I.base.keep b o (I.ok.bs b o e).1 (I.ok.bs b o e).2 (I.ok.An3 e) (I.ok.Xa b o e),I.base.free b o (I.ok.bs b o e).1 (I.ok.bs b o e).2 (I.ok.Xa b o e)⟩
theorem Inv.bk(I:Inv X pins σ H s):∀ b o,X.base.get? b=some o->s.heap.get? b=some o:=λb o e=>(I.bs b o e).1
theorem Inv.mod(I:Inv X pins σ H s):Mod X.K X.mg X.base:=I.ok.mod
theorem Inv.kIn(I:Inv X pins σ H s):X.K.In s.heap:=I.ok.mod.kin.keeps I.bk
theorem Inv.lt(I:Inv X pins σ H s):X.env.locals<s.heap.objs.size:=let ⟨_,hn,_⟩:=I.loc;hn.lt
theorem Inv.sz(I:Inv X pins σ H s):X.s₀.heap.objs.size<=s.heap.objs.size:=ApF I.ok.above (Aqy I.lt)
theorem Inv.An4(I:Inv X pins σ H s){a:Addr}(h:s.heap.objs.size<=a):a∉X.fs:=λhb=>by
 obtain⟨_,o,ho,_⟩:=I.ok.PJ.mem hb
 exact absurd (Ap0 (Heap.lt_size ho) (ApF I.sz h)) (ApC _)
theorem Inv.cne(I:Inv X pins σ H s):∀ x c,X.env.cells.lookup x=some c->c≠X.env.locals:=λx c e z=>by
 obtain⟨v,o,ho,hd⟩:=I.cell x c e
 obtain⟨m,⟨o',es,ep,ho',hd',_⟩,_⟩:=I.loc
 rw[z,ho'] at ho;cases ho;rw[hd'] at hd;cases hd
theorem Inv.PJ(I:Inv X pins σ H s):s.heap.FunFrames X.base X.outer:=by
 have all:∀(l:List Env),(∀ b∈frs l,b∈X.fs)->X.s₀.heap.FunFrames X.base l->s.heap.FunFrames X.base l:=by
  intro l
  induction l with
  | nil=>intro _ _;trivial
  | cons env r ih =>
   intro hs hl
   obtain⟨hk,⟨L,o,hf,hn,ho,hd⟩,hr⟩:=hl
   have hL:L∈X.fs:=hs L (by unfold frs;rw[Aqj,hf];exact Ap6)
   obtain⟨sl,e⟩:=I.base.slot L o ho (I.ok.frf L hL) hL λz=>I.ok.Vs L z hL
   exact⟨hk,⟨L,_,hf,hn,e,hd⟩,ih (λb hb=>hs b (by unfold frs;rw[Aqj,hf];exact Ap7 _ hb)) hr⟩
 exact all X.outer (λ_ hb=>hb) I.ok.PJ
theorem Inv.stack(I:Inv X pins σ H s):s.heap.FunFrames X.base X.stack:=by
 rcases I.ok.stk with e | ⟨e,hf⟩
 ·rw[e];exact I.PJ
 ·rw[e]
  obtain⟨m,hn,_⟩:=I.loc
  refine .cons (by rw[I.ok.kind];decide) hf hn ?_ I.PJ
  exact Heap.get?_none_of_le (ApF I.ok.bsz I.ok.above)
theorem Inv.Vt(I:Inv X pins σ H s):∀ b∈frs X.stack,b∈X.env.locals::X.fs:=λb hb=>by
 rcases I.ok.stk with e | ⟨e,hf⟩
 ·rw[e] at hb;exact Ap7 _ hb
 ·rw[e] at hb
  unfold frs at hb
  rw[Aqj,hf] at hb
  exact hb
theorem Inv.QR(I:Inv X pins σ H s):∀ b∈frs X.stack,H b=none:=λb hb=>by
 rcases List.mem_cons.mp (I.Vt b hb) with e | hb
 ·rw[e];exact I.free
 ·obtain⟨_,o,ho,_⟩:=I.ok.PJ.mem hb
  exact I.base.free b o ho (I.ok.frf b hb) λz=>I.ok.Vs b z hb
theorem Inv.step{g':Array GenState}{t':Nat}{d':Drawn}{ch:List Addr}(I:Inv X pins σ H s)
  (hch:∀ b∈ch,(b∈X.ex\/X.s₀.heap.objs.size<=b)/\b≠X.env.locals/\(∀ x c,X.env.cells.lookup x=some c->c≠b)/\∀ p∈X.pn++pins,p.1≠b)
  (keep:∀ b o,b≠X.env.locals->b∉X.fs->b∉ch->s.heap.get? b=some o->H b=none->h'.get? b=some o)
  (slot:∀ b o,b≠X.env.locals->b∈X.fs->b∉ch->s.heap.get? b=some o->H b=none->∃ sl,h'.get? b=some { o with slots:=sl }) (free:∀ b o,b∉ch->s.heap.get? b=some o->H b=none->H' b=none)
  (there:∀ b o,b∉ch->s.heap.get? b=some o->∃ o',h'.get? b=some o')
  (tups:∀ b xs,H b=some (.tup xs)->H' b=some (.tup xs)) (JG:∀ b o u,H b=some (.frz o u)->H' b=some (.frz o u)) (Kv:∀ b ps,H b=some (.tbl ps)->∃ more,H' b=some (.tbl (ps++more)))
  (ns:∀ m,s.heap.Ns X.env.locals m->h'.Ns X.env.locals m) (hok:HOk X.prog X.w H' h') (hg:AllBare g') :
  Inv X pins σ H' { s with heap:=h',gens:=g',drawn:=d',toks:=t' }:=by
 have neL:∀ b o,X.s₀.heap.get? b=some o->b≠X.env.locals:=λb o e=>Apy (Ap0 (Heap.lt_size e) I.ok.above)
 have neC:∀ b o,X.s₀.heap.get? b=some o->b∉X.ex->b∉ch:=λb o e hx hb=>by
  rcases(hch b hb).1 with z | z
  ·exact hx z
  ·exact absurd (Ap0 (Heap.lt_size e) z) (ApC _)
 have cellK:∀ x c,X.env.cells.lookup x=some c->∀ v,s.heap.IsCell c v->h'.IsCell c v:=λx c e v ⟨o,ho,hd⟩=>by
  have nch:c∉ch:=λz=>(hch c z).2.2.1 x c e rfl
  by_cases hc:c∈X.fs
  ·obtain⟨sl,q⟩:=slot c o (I.cne x c e) hc nch ho (I.Je x c e)
   exact⟨_,q,hd⟩
  ·exact⟨o,keep c o (I.cne x c e) hc nch ho (I.Je x c e),hd⟩
 refine⟨I.ok,I.os,hg,⟨λb o e n hb hx=>?_,λb o e n hb hx=>?_,λb o e n hx=>?_,λb o e hx=>?_,λb xs e=>tups b xs (I.base.tups b xs e),λb o xs e=>JG b o xs (I.base.JG b o xs e),λb ps e=>?_⟩,?_,λx c e=>?_,?_,λx c e=>?_,λp hp=>?_,hok,I.len⟩
 ·exact keep b o (neL b o e) hb (neC b o e hx) (I.base.keep b o e n hb hx) (I.base.free b o e n hx)
 ·obtain⟨sl,e1⟩:=I.base.slot b o e n hb hx
  obtain⟨sl',e2⟩:=slot b _ (neL b o e) hb (neC b o e hx) e1 (I.base.free b o e n hx)
  exact⟨sl',e2⟩
 ·obtain⟨o',e1⟩:=I.base.there b o e hx
  exact free b o' (neC b o e hx) e1 (I.base.free b o e n hx)
 ·obtain⟨o',e1⟩:=I.base.there b o e hx
  exact there b o' (neC b o e hx) e1
 ·obtain⟨m1,e1⟩:=I.base.Kv b ps e
  obtain⟨m2,e2⟩:=Kv b _ e1
  exact⟨m1++m2,by rw[e2,Array.append_assoc]⟩
 ·obtain⟨m,hn,hl⟩:=I.loc
  refine⟨m,ns m hn,λi x v e1 e2 e3=>?_⟩
  obtain⟨u,r,l⟩:=hl i x v e1 e2 e3
  refine⟨u,r,?_⟩
  rcases l with l | ⟨k,c,e,z⟩
  ·exact .inl l
  ·exact .inr ⟨k,c,e,cellK x c e _ z⟩
 ·obtain⟨v,z⟩:=I.cell x c e
  exact⟨v,cellK x c e v z⟩
 ·obtain⟨m,⟨o,_,_,ho,_⟩,_⟩:=I.loc
  exact free _ o (λz=>(hch _ z).2.1 rfl) ho I.free
 ·obtain⟨v,o,ho,hd⟩:=I.cell x c e
  exact free c o (λz=>(hch c z).2.2.1 x c e rfl) ho (I.Je x c e)
 ·obtain⟨e,n,ne,nf,d⟩:=I.pin p hp
  have nch:p.1∉ch:=λz=>(hch p.1 z).2.2.2 p hp rfl
  exact⟨keep p.1 p.2 ne nf nch e n,free p.1 p.2 nch e n,ne,nf,d⟩
theorem Inv.un{t':Nat}(I:Inv X pins σ H s)(u:Un X.fs [] H H' s.heap h')(hok:HOk X.prog X.w H' h'):Inv X pins σ H' { s with heap:=h',toks:=t' }:=by
 obtain⟨m,⟨o,es,ep,ho,r⟩,_⟩:=id I.loc
 obtain⟨sl,hL⟩:=u.any ho I.free (by simp)
 exact I.step (g':=s.gens) (d':=s.drawn) (ch:=[]) (λ_ z=>nomatch z) (λb o _ hb _ e n=>u.keep b o e n hb (by simp)) (λb o _ hb _ e n=>u.slot b o e n hb (by simp)) (λb o _ e n=>u.free b o e n (by simp)) (λb o _ e=>u.there b o e (by simp)) u.tups u.JG u.Kv (λm' hm=>by
  obtain⟨o',es',ep',ho',r'⟩:=hm
  rw[ho] at ho';cases ho'
  exact⟨_,es',ep',hL,r'⟩) hok I.bare
theorem Inv.call{g':Array GenState}{t':Nat}{d':Drawn}{ch:List Addr}(I:Inv X pins σ H s)(u:Un (frs X.stack) ch H H' s.heap h')(hok:HOk X.prog X.w H' h')(hg:AllBare g')
  (hch:∀ b∈ch,(b∈X.ex\/X.s₀.heap.objs.size<=b)/\b≠X.env.locals/\(∀ x c,X.env.cells.lookup x=some c->c≠b)/\∀ p∈X.pn++pins,p.1≠b) :
  Inv X pins σ H' { s with heap:=h',gens:=g',drawn:=d',toks:=t' }:=by
 obtain⟨m,⟨o,es,ep,ho,r⟩,_⟩:=id I.loc
 obtain⟨sl,hL⟩:=u.any ho I.free λz=>(hch _ z).2.1 rfl
 exact I.step (ch:=ch) hch (λb o hL hb hc e n=>u.keep b o e n (λz=>(List.mem_cons.mp (I.Vt b z)).elim hL hb) hc) (λb o _ _ hc e n=>u.any e n hc) (λb o hc e n=>u.free b o e n hc) (λb o hc e=>u.there b o e hc) u.tups u.JG u.Kv (λm' hm=>by
  obtain⟨o',es',ep',ho',r'⟩:=hm
  rw[ho] at ho';cases ho'
  exact⟨_,es',ep',hL,r'⟩) hok hg
theorem Inv.turned{t':Nat}{it:Addr}(I:Inv X pins σ H s)(k:∀ b o,b≠it->s.heap.get? b=some o->h'.get? b=some o)(hn:H it=none)(hL:it≠X.env.locals)
  (h1:it∈X.ex\/X.s₀.heap.objs.size<=it) (h2:∀ x c,X.env.cells.lookup x=some c->c≠it) (h3:∀ p∈X.pn++pins,p.1≠it):Inv X pins σ H { s with heap:=h',toks:=t' }:=by
 have nit:∀ b u,H b=some u->b≠it:=λb u e z=>by rw[z,hn] at e;cases e
 refine I.step (g':=s.gens) (d':=s.drawn) (ch:=[it]) (λb hb=>?_) (λb o _ _ hc e _=>k b o (λz=>hc (by simp[z])) e) (λb o _ _ hc e _=>⟨o.slots,k b o (λz=>hc (by simp[z])) e⟩) (λ_ _ _ _ n=>n)
  (λb o hc e=>⟨o,k b o (λz=>hc (by simp[z])) e⟩) (λ_ _ e=>e) (λ_ _ _ e=>e) (λb ps e=>⟨#[],by rw[e];simp⟩) (λm hm=>?_) (λb u e=>?_) I.bare
 ·have e:b=it:=by simpa using hb
  subst e
  exact⟨h1,hL,h2,h3⟩
 ·obtain⟨o,es,ep,ho,r⟩:=hm
  exact⟨o,es,ep,k _ o (Ne.symm hL) ho,r⟩
 ·refine(I.hok b u e).stay (λc v hc q=>k c v ?_ q) (λ_ q=>q) λ_ _ q=>q
  rcases hc with z | z
  ·rw[z];exact nit b u e
  ·exact nit c _ z
theorem Inv.tok(I:Inv X pins σ H s)(t:Nat):Inv X pins σ H { s with toks:=t }:=I.un (h':=s.heap) (t':=t) Un.refl I.hok
theorem Inv.kept{t':Nat}(I:Inv X pins σ H s)(k:∀ b u,s.heap.get? b=some u->h'.get? b=some u):Inv X pins σ H { s with heap:=h',toks:=t' }:=I.un (Un.kept k) (I.hok.kept k)
theorem Inv.laid{a:Addr}{o:HO}{t':Nat}(I:Inv X pins σ H s)(k:∀ b u,s.heap.get? b=some u->h'.get? b=some u)(hp:s.heap.objs.size<=a)(new:GJ X.prog X.w (upd H a o) h' a o) :
  Inv X pins σ (upd H a o) { s with heap:=h',toks:=t' }:=I.un (Un.laid k hp (I.hok.fresh hp)) (I.hok.laid k hp new)
theorem Inv.write{x e:Addr}{o:HO}{t':Nat}(I:Inv X pins σ H s)(mu:Mut (H x))(he:e=x\/H e=some (.own x))(k:∀ b u,b≠e->s.heap.get? b=some u->h'.get? b=some u)(heo:∃ u,h'.get? e=some u)
  (new:GJ X.prog X.w (upd H x o) h' x o):Inv X pins σ (upd H x o) { s with heap:=h',toks:=t' }:=I.un (Un.write mu he k heo) (I.hok.write mu he k heo new)
theorem Inv.Gf{Akl:List (Addr × Obj)}(I:Inv X pins σ H s)(h:∀ p∈Akl,s.heap.get? p.1=some p.2/\H p.1=none/\p.1≠X.env.locals/\p.1∉X.fs/\∀ v,p.2.data≠.cell v):Inv X Akl σ H s :=
 ⟨I.ok,I.os,I.bare,I.base,I.loc,I.cell,I.free,I.Je,λp hp=>(List.mem_append.mp hp).elim (λz=>I.pin p (Aqp _ z)) (h p),I.hok,I.len⟩
theorem Ac0{N:List Str}(hN:N.Nodup){i j:Nat}{x:Str}(a:N[i]?=some x)(b:N[j]?=some x):i=j:=by
 obtain⟨h1,e1⟩:=List.getElem?_eq_some_iff.mp a
 obtain⟨h2,e2⟩:=List.getElem?_eq_some_iff.mp b
 exact(List.getElem_inj hN).mp (e1.trans e2.symm)
theorem Ly{M:Model}{A:Around}{E:Value->Shared->Prop}{i:Nat}{x:Str}{v:V}{u:Value}{Q:Unit->Shared->Prop}(I:Inv X pins σ H s)(hN:X.N.Nodup)(hi:X.N[i]?=some x)(hx:Loc X.env.scope x)(r:RelV v u)
  (h:∀ s',Inv X pins (σ.set i (some v)) H s'->(∃ a,Heap.SameBut a s.heap s'.heap/\(a=X.env.locals\/X.env.cells.lookup x=some a))->Q () s') (hf:X.fn x=true\/X.env.scope.names.lookup x=some .local:=by first | exact .inl rfl | exact .inr rfl | assumption):wpAny M A (storeName X.env x u) Q E s:=by
 obtain⟨m,hn,hl⟩:=id I.loc
 have hcls:(X.env.scope.kind == .class || (X.env.scope.kind == .module && X.env.locals != X.env.globals))=false:=by rw[I.ok.kind];rfl
 have hiσ:i<σ.length:=by rw[I.len];exact(List.getElem?_eq_some_iff.mp hi).1
 have cne:=I.cne
 have tracked:∀{a:Addr} {h':Heap},(∃ o,s.heap.get? a=some o/\H a=none)->Heap.SameBut a s.heap h'->HOk X.prog X.w H h':=λ{a h'} ha hs b ob e=>by
  obtain⟨_,_,hfree⟩:=ha
  refine(I.hok b ob e).stay (λc w' hc q=>(hs.2 c ?_).trans q) (λ_ q=>q) λ_ _ q=>q
  rintro rfl
  rcases hc with rfl | hc
  ·rw[hfree] at e;cases e
  ·rw[hfree] at hc;cases hc
 rcases hx with hk | hk
 ·refine wpAny_storeName_local hk hn (λh' hn' hs=>?_) hcls
  obtain⟨oL,_,_,hoL,_⟩:=id hn
  refine h _ ⟨I.ok,I.os,I.bare,⟨λb o e n hb hx=>?_,λb o e n hb hx=>?_,I.base.free,λb o e hx=>?_,I.base.tups,I.base.JG,I.base.Kv⟩,⟨_,hn',λj y v' e1 e2 e3=>?_⟩,λy c e=>?_,I.free,I.Je,λp hp=>?_,tracked ⟨oL,hoL,I.free⟩ hs,by simpa using I.len⟩ ⟨_,hs,.inl rfl⟩
  ·exact(hs.2 b (Apy (Ap0 (Heap.lt_size e) I.ok.above))).trans (I.base.keep b o e n hb hx)
  ·obtain⟨sl,e1⟩:=I.base.slot b o e n hb hx
   exact⟨sl,(hs.2 b (Apy (Ap0 (Heap.lt_size e) I.ok.above))).trans e1⟩
  ·obtain⟨o',e1⟩:=I.base.there b o e hx
   exact⟨o',(hs.2 b (Apy (Ap0 (Heap.lt_size e) I.ok.above))).trans e1⟩
  ·by_cases hj:j=i
   ·subst hj
    rw[hi] at e1;cases e1
    rw[List.getElem?_set_self hiσ] at e2
    cases e2
    exact⟨u,r,.inl ⟨hk,by simp⟩⟩
   ·rw[List.getElem?_set_ne (Ne.symm hj)] at e2
    obtain⟨u',r',q⟩:=hl j y v' e1 e2 e3
    refine⟨u',r',?_⟩
    rcases q with ⟨k,e⟩ | ⟨k,c,e,z⟩
    ·refine .inl ⟨k,?_⟩
     have:y≠x:=λe=>hj (Ac0 hN e1 (e▸hi))
     simp[this,e]
    ·exact .inr ⟨k,c,e,z.sameBut hs (cne y c e)⟩
  ·obtain⟨w',z⟩:=I.cell y c e
   exact⟨w',z.sameBut hs (cne y c e)⟩
  ·obtain⟨e,n,ne,nf,d⟩:=I.pin p hp
   exact⟨(hs.2 p.1 ne).trans e,n,ne,nf,d⟩
 ·have hfn:X.fn x=true:=by
   rcases hf with z | z
   ·exact z
   ·rw[z] at hk;cases hk
  obtain⟨c,hc⟩:=I.ok.has x (.inl hk)
  obtain⟨w',z⟩:=I.cell x c hc
  refine wpAny_storeName_cell I.ok.kind hk hc z (λh' hc' hs=>?_)
  obtain⟨oc,hoc,An5⟩:=id z
  refine h { s with heap:=h' } ⟨I.ok,I.os,I.bare,⟨λb o e n hb hx=>?_,λb o e n hb hx=>?_,I.base.free,λb o e hx=>?_,I.base.tups,I.base.JG,I.base.Kv⟩,⟨m,hn.sameBut hs (Ne.symm (cne x c hc)),λj y v' e1 e2 e3=>?_⟩,λy c' e=>?_,I.free,I.Je,λp hp=>?_,tracked ⟨oc,hoc,I.Je x c hc⟩ hs,by simpa using I.len⟩ ⟨c,hs,.inr hc⟩
  ·exact(hs.2 b (Apy (Ap0 (Heap.lt_size e) (I.ok.cab x c hfn hc)))).trans (I.base.keep b o e n hb hx)
  ·obtain⟨sl,e1⟩:=I.base.slot b o e n hb hx
   exact⟨sl,(hs.2 b (Apy (Ap0 (Heap.lt_size e) (I.ok.cab x c hfn hc)))).trans e1⟩
  ·obtain⟨o',e1⟩:=I.base.there b o e hx
   exact⟨o',(hs.2 b (Apy (Ap0 (Heap.lt_size e) (I.ok.cab x c hfn hc)))).trans e1⟩
  ·by_cases hj:j=i
   ·subst hj
    rw[hi] at e1;cases e1
    rw[List.getElem?_set_self hiσ] at e2
    cases e2
    exact⟨u,r,.inr ⟨.inl hk,c,hc,hc'⟩⟩
   ·rw[List.getElem?_set_ne (Ne.symm hj)] at e2
    obtain⟨u',r',q⟩:=hl j y v' e1 e2 e3
    refine⟨u',r',?_⟩
    rcases q with q | ⟨k,c',e,z'⟩
    ·exact .inl q
    ·refine .inr ⟨k,c',e,z'.sameBut hs ?_⟩
     rintro rfl
     exact hj (Ac0 hN e1 (I.ok.inj _ _ _ e hc▸hi))
  ·by_cases hcc:c'=c
   ·subst hcc;exact⟨_,hc'⟩
   ·obtain⟨w2,z2⟩:=I.cell y c' e
    exact⟨w2,z2.sameBut hs hcc⟩
  ·obtain⟨e,n,ne,nf,d⟩:=I.pin p hp
   refine⟨(hs.2 p.1 ?_).trans e,n,ne,nf,d⟩
   intro q
   rw[q,hoc] at e
   have q':oc=p.2:=Option.some.inj e
   exact d w' (by rw[<- q'];exact An5)
theorem XH{M:Model}{A:Around}{E:Value->Shared->Prop}{i:Nat}{x:Str}{v:V}{u:Value}{Q:Unit->Shared->Prop}(I:Inv X pins σ H s)(hN:X.N.Nodup)(hi:X.N[i]?=some x)(hx:Loc X.env.scope x)(r:RelV v u)
  (h:∀ s',Inv X pins (σ.set i (some v)) H s'->Q () s') (hf:X.fn x=true\/X.env.scope.names.lookup x=some .local:=by first | exact .inl rfl | exact .inr rfl | assumption):wpAny M A (storeName X.env x u) Q E s :=
 Ly I hN hi hx r (λs' I' _=>h s' I') hf
theorem Inv.call'{s':Shared}{ch:List Addr}(I:Inv X pins σ H s)(ho:s'.os=s.os)(u:Un (frs X.stack) ch H H' s.heap s'.heap)(hok:HOk X.prog X.w H' s'.heap)(hg:AllBare s'.gens)
  (hch:∀ b∈ch,(b∈X.ex\/X.s₀.heap.objs.size<=b)/\b≠X.env.locals/\(∀ x c,X.env.cells.lookup x=some c->c≠b)/\∀ p∈X.pn++pins,p.1≠b):Inv X pins σ H' s':=by
 obtain⟨h',g',d',t',o'⟩:=s'
 have e:o'=s.os:=ho
 subst e
 exact I.call (g':=g') (t':=t') (d':=d') u hok hg hch
end
abbrev XK:=Value->Option Addr->Hp->Prop
abbrev St:=List (Option V)
abbrev VK:=V->Hp->Prop
abbrev TE:=St->Hp->VK->Prop
abbrev TT:=St->Hp->(Bool->Hp->Prop)->Prop
abbrev TA:=St->Hp->(List V->Hp->Prop)->Prop
structure Ends where
 nx:St->Hp->Prop
 rt:VK
 bk:St->Hp->Prop:=λ_ _=>False
 ct:St->Hp->Prop:=λ_ _=>False
abbrev TS:=Ends->St->Hp->Prop
def EP (X:Cx)(pins:List (Addr × Obj))(σ:St)(Q:VK)(u:Value)(s':Shared):Prop:=∃ v H',Inv X pins σ H' s'/\RelV v u/\Q v H'
def TP (X:Cx)(pins:List (Addr × Obj))(σ:St)(Q:Bool->Hp->Prop)(b:Bool)(s':Shared):Prop:=∃ H',Inv X pins σ H' s'/\Q b H'
def AP (X:Cx)(pins:List (Addr × Obj))(σ:St)(Q:List V->Hp->Prop)(us:List Value)(s':Shared):Prop:=∃ vs H',Inv X pins σ H' s'/\Vals vs us/\Q vs H'
def SP (X:Cx)(pins:List (Addr × Obj))(D:Ends)(f:Flow)(s':Shared):Prop :=
 match f with
 | .next=>∃ σ' H',Inv X pins σ' H' s'/\D.nx σ' H'
 | .brk=>∃ σ' H',Inv X pins σ' H' s'/\D.bk σ' H'
 | .cont=>∃ σ' H',Inv X pins σ' H' s'/\D.ct σ' H'
 | .ret u=>∃ v σ' H',Inv X pins σ' H' s'/\RelV v u/\D.rt v H'
def PE (X:Cx)(e:Expr)(t:TE):Prop :=
 ∀(pins:List (Addr × Obj)) (s:Shared) (σ:St) (H:Hp) (Q:VK),Inv X pins σ H s->t σ H Q->wpAny (model X.prog X.w) X.A (eval e X.env) (EP X pins σ Q) X.xe s
def PT (X:Cx)(e:Expr)(t:TT):Prop :=
 ∀(pins:List (Addr × Obj)) (s:Shared) (σ:St) (H:Hp) (Q:Bool->Hp->Prop),Inv X pins σ H s->t σ H Q->wpAny (model X.prog X.w) X.A (isTrue e X.env (eval e X.env)) (TP X pins σ Q) X.xe s
def PW (X:Cx)(e:Expr)(t:TT):Prop :=
 ∀(whole:Sem Value) (pins:List (Addr × Obj)) (s:Shared) (σ:St) (H:Hp) (Q:Bool->Hp->Prop),Inv X pins σ H s->t σ H Q->wpAny (model X.prog X.w) X.A (isTrue e X.env whole) (TP X pins σ Q) X.xe s
theorem PW.pt{X:Cx}{e:Expr}{t:TT}(h:PW X e t):PT X e t:=h _
def PA (X:Cx)(es:List Expr)(t:TA):Prop :=
 ∀(pos:Pos) (pins:List (Addr × Obj)) (s:Shared) (σ:St) (H:Hp) (Q:List V->Hp->Prop),Inv X pins σ H s->t σ H Q->wpAny (model X.prog X.w) X.A (spliced (backTo pos (starEach es X.env))) (AP X pins σ Q) X.xe s
def PS (X:Cx)(st:Stmt)(t:TS):Prop :=
 ∀(pins:List (Addr × Obj)) (s:Shared) (σ:St) (H:Hp) (D:Ends),Inv X pins σ H s->t D σ H->wpAny (model X.prog X.w) X.A (exec st X.env) (SP X pins D) X.xe s
def PSs (X:Cx)(st:List Stmt)(t:TS):Prop :=
 ∀(pins:List (Addr × Obj)) (s:Shared) (σ:St) (H:Hp) (D:Ends),Inv X pins σ H s->t D σ H->wpAny (model X.prog X.w) X.A (execs st X.env) (SP X pins D) X.xe s
theorem thn{α:Type}{t:Sem α}{Q Q':α->Shared->Prop}{M:Model}{A:Around}{E:Value->Shared->Prop}{s:Shared}(h:wpAny M A t Q E s)(hQ:∀ a s,Q a s->Q' a s):wpAny M A t Q' E s:=wpAny_mono h hQ λ_ _ x=>x
section
variable {X:Cx}
def AlU (i:Nat):TE:=λσ H Q=>∃ v,σ[i]?=some (some v)/\Q v H
def tC (v:V):TE:=λ_ H Q=>Q v H
theorem AkB{i:Nat}{x:Str}{pos:Pos}(hN:X.N[i]?=some x)(hv:Vis X.env.scope x)(hd:(x == ("__debug__" : Str))=false:=by decide) (hcd:(x == ("__classdict__" : Str))=false:=by decide):PE X (.Name x pos) (AlU i):=by
 intro pins s σ H Q I h
 obtain⟨v,e,h⟩:=h
 obtain⟨m,hn,hl⟩:=I.loc
 obtain⟨u,r,l⟩:=hl i x v hN e hv
 have fin:EP X pins σ Q u s:=⟨v,H,I,r,h⟩
 rcases l with ⟨hk,hm⟩ | ⟨hk,c,hc,hcell⟩
 ·exact wpAny_Name (wpAny_loadName_local I.ok.kind hk hn hm fin) hd
 ·rcases hk with hk | hk
  ·exact wpAny_Name (wpAny_loadName_cell I.ok.kind hk hc hcell fin) hd
  ·exact wpAny_Name (wpAny_loadName_free I.ok.kind hk hc hcell fin hcd) hd
theorem Ag{i j pos}:PE X (.Constant (.int i) j pos) (tC (.int i)):=λ_ _ _ H _ I h=>wpAny_Constant_int ⟨.int i,H,I.tok _,⟨_,rfl⟩,h⟩
theorem PL{b j pos}:PE X (.Constant (.bool b) j pos) (tC (.bl b)):=λ_ _ _ H _ I h=>Constant_bool ⟨.bl b,H,I,rfl,h⟩
theorem Sy{j pos}:PE X (.Constant .none j pos) (tC .non):=λ_ _ _ H _ I h=>Constant_none ⟨.non,H,I,rfl,h⟩
theorem Af{x j pos}:PE X (.Constant (.str x) j pos) (tC (.str x)):=λ_ _ _ H _ I h=>Calls.Constant_str ⟨.str x,H,I.tok _,⟨_,rfl⟩,h⟩
def Gl (X:Cx)(x:Str):Prop:=X.env.kindOf x=some .globalImplicit
theorem QS{E:Value->Shared->Prop}{pins:List (Addr × Obj)}{s:Shared}{σ:St}{H:Hp}{x:Str}{u:Value}{pos:Pos}{Q:Value->Shared->Prop}(I:Inv X pins σ H s)(hg:Gl X x)(hm:X.mg x=some u)(h:Q u s)
  (hd:(x == ("__debug__" : Str))=false:=by decide):wpAny (model X.prog X.w) X.A (eval (.Name x pos) X.env) Q E s :=
 Calls.Name_function_global I.ok.kind hg (Calls.loadGlobal_global (by rw[I.ok.glob];exact I.mod.glob.keeps I.bk) hm h) hd
theorem HW{E:Value->Shared->Prop}{pins:List (Addr × Obj)}{s:Shared}{σ:St}{H:Hp}{x:Str}{u:Value}{pos:Pos}{Q:Value->Shared->Prop}(I:Inv X pins σ H s)(hg:Gl X x)(hm:X.mg x=none)(hv:bootBuiltins x=some u)(h:Q u s)
  (hn:x ≠ "__name__" := by decide) (hd:(x == ("__debug__" : Str))=false:=by decide):wpAny (model X.prog X.w) X.A (eval (.Name x pos) X.env) Q E s:=by
 obtain⟨mb,h1,h2⟩:=I.mod.blt
 exact Calls.Name_function_global I.ok.kind hg (Calls.loadGlobal_builtin (by rw[I.ok.glob];exact I.mod.glob.keeps I.bk) hm (by rw[I.ok.blt];exact h1.keeps I.bk) ((h2 x hn).trans hv) h) hd
theorem Ce{x:Str}{v:V}{u:Value}{pos:Pos}(hg:Gl X x)(hm:X.mg x=some u)(r:RelV v u)(hd:(x == ("__debug__" : Str))=false:=by decide):PE X (.Name x pos) (tC v) :=
 λ_ _ _ H _ I h=>QS I hg hm ⟨v,H,I,r,h⟩ hd
theorem AeA{x:Str}{v:V}{u:Value}{pos:Pos}(hg:Gl X x)(hm:X.mg x=none)(hv:bootBuiltins x=some u)(r:RelV v u)(hn:x ≠ "__name__" := by decide) (hd:(x == ("__debug__" : Str))=false:=by decide):PE X (.Name x pos) (tC v) :=
 λ_ _ _ H _ I h=>HW I hg hm hv ⟨v,H,I,r,h⟩ hn hd
def t2I (ta tb:TE)(k:Int->Int->Hp->Prop):St->Hp->Prop:=λσ H=>ta σ H λx H1=>tb σ H1 λy H2=>∃ i j,x=.int i/\y=.int j/\k i j H2
def AoE (ta tb:TE):TE:=λσ H Q=>t2I ta tb (λi j H2=>Q (.int (i+j)) H2) σ H
def AoF (ta tb:TE):TE:=λσ H Q=>t2I ta tb (λi j H2=>Q (.int (i-j)) H2) σ H
def AoG (ta tb:TE):TE:=λσ H Q=>t2I ta tb (λi j H2=>(-(2 ^ 64)<i/\i<2 ^ 64)/\Q (.int (i*j)) H2) σ H
variable {a b:Expr}{ta tb:TE}{pos:Pos}
def PC (X:Cx)(op:CmpOp)(a b:Expr)(t:TE):Prop :=
 ∀(pins:List (Addr × Obj)) (s:Shared) (σ:St) (H:Hp) (Q:VK),Inv X pins σ H s->t σ H Q ->
  wpAny (model X.prog X.w) X.A (eval a X.env) (λv s₁=>wpAny (model X.prog X.w) X.A (eval b X.env) (λu s₂=>wpAny (model X.prog X.w) X.A (compareOp op v u) (EP X pins σ Q) X.xe s₂) X.xe s₁) X.xe s
theorem AgF(b:Expr){op:CmpOp}(h:op≠.In)(h2:op≠.NotIn):behindInMarks op b=false:=by
 have e1:(op == CmpOp.In)=false:=by cases op <;> first | rfl | exact absurd rfl h
 have e2:(op == CmpOp.NotIn)=false:=by cases op <;> first | rfl | exact absurd rfl h2
 cases b <;> simp[behindInMarks,e1,e2]
def Af1 (p:Int->Int->Bool)(ta tb:TE):TE:=λσ H Q=>t2I ta tb (λi j H2=>Q (.bl (p i j)) H2) σ H
abbrev tLt:TE->TE->TE:=Af1 λi j=>decide (i<j)
abbrev tLe:TE->TE->TE:=Af1 λi j=>decide (i<=j)
abbrev tGt:TE->TE->TE:=Af1 λi j=>decide (j<i)
abbrev tGe:TE->TE->TE:=Af1 λi j=>decide (j<=i)
abbrev AoH:TE->TE->TE:=Af1 λi j=>decide (i=j)
abbrev AoI:TE->TE->TE:=Af1 λi j=>!decide (i=j)
def AoJ (ta:TE):TE:=λσ H Q=>ta σ H λx H1=>Q (.bl (decide (x=.non))) H1
def Aou (ta:TE):TE:=λσ H Q=>ta σ H λx H1=>Q (.bl (!decide (x=.non))) H1
def tB (t:TE):TT:=λσ H Q=>t σ H λx H1=>∃ c,x=.bl c/\Q c H1
theorem AkC{op:CmpOp}{t:TE}(h:PC X op a b t)(h1:behindInMarks op b=false:=by first | exact AgF _ (by decide) (by decide) | rfl):PT X (.Compare a [op] [b] pos) (tB t):=by
 intro pins s σ H Q I hw
 refine wpAny_isTrue_Compare1 (thn (h pins s σ H _ I hw) λv s1 h1=>thn h1 λu s2 h2=>thn h2 λc s3 ⟨x,H1,I1,r1,q1⟩=>?_) h1
 obtain⟨d,rfl,q⟩:=q1
 cases r1
 exact wpAny_truthy_bool ⟨H1,I1,q⟩
theorem Gn{e:Expr}{t:TE}(h:PE X e t)(he:∀ whole,isTrue e X.env whole=(do let v <- whole;standAt e.pos;holding [v] (truthy v)):=by intro _;rfl):PT X e (tB t):=by
 intro pins s σ H Q I hw
 refine isTrue_plain (thn (h pins s σ H _ I hw) λv s1 ⟨x,H1,I1,r1,q1⟩=>?_) (he _)
 obtain⟨d,rfl,q⟩:=q1
 cases r1
 exact wpAny_truthy_bool ⟨H1,I1,q⟩
variable {tA tB':TT}{rest:List Expr}
def An6 (t u:TT):TT:=λσ H Q=>t σ H λc H1=>if c=true then u σ H1 Q else Q false H1
def tOr (t u:TT):TT:=λσ H Q=>t σ H λc H1=>if c=true then Q true H1 else u σ H1 Q
def An7 (t:TT):TT:=λσ H Q=>t σ H λc H1=>Q (!c) H1
theorem pw_and1(ha:PT X a tA):PW X (.BoolOp .And [a] pos) tA:=by
 intro wh pins s σ H Q I h
 refine isTrue_and (thn (ha pins s σ H Q I h) λc s1 e=>?_)
 cases c with
 | true=>exact isTrue_and_nil e
 | false=>exact e
theorem pw_or1(ha:PT X a tA):PW X (.BoolOp .Or [a] pos) tA:=by
 intro wh pins s σ H Q I h
 refine isTrue_or (thn (ha pins s σ H Q I h) λc s1 e=>?_)
 cases c with
 | false=>exact isTrue_or_nil e
 | true=>exact e
theorem pw_and(ha:PT X a tA)(hb:PW X (.BoolOp .And (b::rest) pos) tB'):PW X (.BoolOp .And (a::b::rest) pos) (An6 tA tB'):=by
 intro wh pins s σ H Q I h
 refine isTrue_and (thn (ha pins s σ H _ I h) λc s1 ⟨H1,I1,q1⟩=>?_)
 cases c with
 | true=>exact hb wh pins s1 σ H1 Q I1 q1
 | false=>exact⟨H1,I1,q1⟩
theorem pw_or(ha:PT X a tA)(hb:PW X (.BoolOp .Or (b::rest) pos) tB'):PW X (.BoolOp .Or (a::b::rest) pos) (tOr tA tB'):=by
 intro wh pins s σ H Q I h
 refine isTrue_or (thn (ha pins s σ H _ I h) λc s1 ⟨H1,I1,q1⟩=>?_)
 cases c with
 | true=>exact⟨H1,I1,q1⟩
 | false=>exact hb wh pins s1 σ H1 Q I1 q1
theorem Hj(ha:PT X a tA):PT X (.UnaryOp .Not a pos) (An7 tA):=by
 intro pins s σ H Q I h
 exact isTrue_not (ha pins s σ H (λc H1=>Q (!c) H1) I h)
def AlV (ta tb:TE):TE:=λσ H Q=>ta σ H λx H1=>∃ c,x=.bl c/\if c=true then tb σ H1 Q else Q (.bl false) H1
def AoK (ta tb:TE):TE:=λσ H Q=>ta σ H λx H1=>∃ c,x=.bl c/\if c=true then Q (.bl true) H1 else tb σ H1 Q
def AlW (ta:TE):TE:=λσ H Q=>ta σ H λx H1=>∃ c,x=.bl c/\Q (.bl (!c)) H1
theorem PN{op}{t:TE}(h:PE X a t):PE X (.BoolOp op [a] pos) t:=λpins s σ H Q I hw=>BoolOp_one (h pins s σ H Q I hw)
theorem Lk(ha:PE X a ta)(hb:PE X (.BoolOp .And (b::rest) pos) tb):PE X (.BoolOp .And (a::b::rest) pos) (AlV ta tb):=by
 intro pins s σ H Q I h
 refine BoolOp_and (thn (ha pins s σ H _ I h) λv s1 ⟨x,H1,I1,r1,q1⟩=>?_)
 obtain⟨c,rfl,q1⟩:=q1
 cases r1
 refine wpAny_truthy_bool ?_
 cases c with
 | true=>exact hb pins s1 σ H1 Q I1 q1
 | false=>exact⟨.bl false,H1,I1,rfl,q1⟩
theorem AkD(ha:PE X a ta):PE X (.UnaryOp .Not a pos) (AlW ta):=by
 intro pins s σ H Q I h
 refine UnaryOp_ (thn (ha pins s σ H _ I h) λv s1 ⟨x,H1,I1,r1,q1⟩=>?_)
 obtain⟨c,rfl,q1⟩:=q1
 cases r1
 exact not_of (wpAny_truthy_bool ⟨.bl (!c),H1,I1,rfl,q1⟩)
def tIf (t:TT)(ta tb:TE):TE:=λσ H Q=>t σ H λc H1=>if c=true then ta σ H1 Q else tb σ H1 Q
theorem PQ{c:Expr}(hc:PT X c tA)(ha:PE X a ta)(hb:PE X b tb):PE X (.IfExp c a b pos) (tIf tA ta tb):=by
 intro pins s σ H Q I h
 refine wpAny_IfExp (thn (hc pins s σ H _ I h) λd s1 ⟨H1,I1,q1⟩=>?_)
 cases d with
 | true=>exact ha pins s1 σ H1 Q I1 q1
 | false=>exact hb pins s1 σ H1 Q I1 q1
end
def SqL (K:W.Frag)(H:Hp)(a:Addr)(xs:List V):Prop :=
 Rd H a (.lst xs) \/
  ∃(o:Obj) (its:Array Value) (n:Nat),K.lookup a=some o/\o.cls=.type "list" /\ o.dict=none/\o.data=.seq its n/\its.size<=sizeLine/\Vals xs its.toList
def SqT (K:W.Frag)(H:Hp)(a:Addr)(xs:List V):Prop :=
 Rd H a (.tup xs) \/
  ∃(o:Obj) (its:Array Value) (n:Nat),K.lookup a=some o/\o.cls=.type "tuple" /\ o.data=.seq its n/\its.size<=sizeLine/\Vals xs its.toList
def An8:Value->Option V
 | .none=>some .non
 | .bool b=>some (.bl b)
 | .int i _=>some (.int i)
 | .str x _=>some (.str x)
 | .bytes b _=>some (.byt b)
 | .float b _=>some (.flt b)
 | .ref a=>some (.ref a)
 | .type n=>some (.ty n)
 | _=>none
theorem RelV.abs{x:V}{u:Value}(r:RelV x u):An8 u=some x:=by
 cases x with
 | non=>cases r;rfl
 | bl _=>cases r;rfl
 | int _=>obtain⟨t,rfl⟩:=r;rfl
 | str _=>obtain⟨t,rfl⟩:=r;rfl
 | byt _=>obtain⟨t,rfl⟩:=r;rfl
 | flt _=>obtain⟨t,rfl⟩:=r;rfl
 | ref _=>cases r;rfl
 | ty _=>cases r;rfl
theorem RelV.inj{x y:V}{u:Value}(r:RelV x u)(q:RelV y u):x=y:=Option.some.inj (r.abs.symm.trans q.abs)
theorem Vals.inj:∀{xs ys:List V} {us:List Value},Vals xs us->Vals ys us->xs=ys
 | _,_,_,.nil,.nil=>rfl
 | _,_,_,.cons r t,.cons r' t'=>by rw[r.inj r',Vals.inj t t']
section
variable {X:Cx}{pins:List (Addr × Obj)}{σ:St}{H:Hp}{s:Shared}{a:Addr}{xs ys:List V}
theorem SqL.of{K:W.Frag}(h:H a=some (.lst xs)):SqL K H a xs:=.inl (.inl h)
theorem SqT.of{K:W.Frag}(h:H a=some (.tup xs)):SqT K H a xs:=.inl (.inl h)
theorem Inv.list(I:Inv X pins σ H s)(h:SqL X.K H a xs):∃ its:List Value,Vals xs its/\PlainL s.heap a its.toArray/\xs.length<=sizeLine:=by
 rcases h with h | ⟨o,its,n,hk,hc,hd,hs,hz,r⟩
 ·obtain⟨z,its,n,r,e⟩:=h.ok I.hok
  exact⟨its,r,⟨_,n,e,rfl,rfl,rfl⟩,z⟩
 ·refine⟨its.toList,r,⟨o,n,I.kIn a o hk,hc,hd,by simpa using hs⟩,?_⟩
  have e:=r.length
  simp only [Array.length_toList] at e
  omega
theorem Inv.tuple(I:Inv X pins σ H s)(h:SqT X.K H a xs):∃ its:List Value,Vals xs its/\IsTup s.heap a its.toArray/\xs.length<=sizeLine:=by
 rcases h with h | ⟨o,its,n,hk,hc,hs,hz,r⟩
 ·obtain⟨z,its,r,p⟩:=h.ok I.hok
  exact⟨its,r,p,z⟩
 ·refine⟨its.toList,r,⟨o,I.kIn a o hk,hc,n,by simpa using hs⟩,?_⟩
  have e:=r.length
  simp only [Array.length_toList] at e
  omega
theorem Inv.JR(I:Inv X pins σ H s)(h:SqL X.K H a xs)(h':SqL X.K H a ys):xs=ys:=by
 obtain⟨its,r,⟨o,n,e,_,_,d⟩,_⟩:=I.list h
 obtain⟨its',r',⟨o',n',e',_,_,d'⟩,_⟩:=I.list h'
 rw[e] at e';cases e'
 rw[d] at d'
 injection d' with d1 _
 have:its=its':=by simpa using congrArg Array.toList d1
 subst this
 exact r.inj r'
end
abbrev Cx.wish (X:Cx) (E:Value->Shared->Prop):Cx:={ X with xe:=E }
abbrev Cx.nox (X:Cx):Cx:=X.wish λ_ _=>False
theorem Cx.Ok.wish{X:Cx}(ok:X.Ok)(E:Value->Shared->Prop):(X.wish E).Ok :=
 ⟨ok.mod,ok.kind,ok.glob,ok.blt,ok.above,ok.inj,ok.has,ok.cab,ok.hd,ok.frames,ok.stk,ok.exf,ok.bs,ok.bsz,ok.Xa,ok.Vs,ok.PJ,ok.frf⟩
theorem Cx.Ok.Hs{X:Cx}{E:Value->Shared->Prop}(ok:(X.wish E).Ok):X.Ok :=
 ⟨ok.mod,ok.kind,ok.glob,ok.blt,ok.above,ok.inj,ok.has,ok.cab,ok.hd,ok.frames,ok.stk,ok.exf,ok.bs,ok.bsz,ok.Xa,ok.Vs,ok.PJ,ok.frf⟩
section
variable {X:Cx}{pins:List (Addr × Obj)}{σ:St}{H:Hp}{s:Shared}{E:Value->Shared->Prop}
theorem Inv.wish(I:Inv X pins σ H s)(E:Value->Shared->Prop):Inv (X.wish E) pins σ H s:=⟨I.ok.wish E,I.os,I.bare,I.base,I.loc,I.cell,I.free,I.Je,I.pin,I.hok,I.len⟩
theorem Inv.Hs(I:Inv (X.wish E) pins σ H s):Inv X pins σ H s:=⟨I.ok.Hs,I.os,I.bare,I.base,I.loc,I.cell,I.free,I.Je,I.pin,I.hok,I.len⟩
theorem SP.Hs{D:Ends}{f:Flow}{s':Shared}(h:SP (X.wish E) pins D f s'):SP X pins D f s':=by
 cases f with
 | next=>obtain⟨σ',H',I,q⟩:=h;exact⟨σ',H',I.Hs,q⟩
 | brk=>obtain⟨σ',H',I,q⟩:=h;exact⟨σ',H',I.Hs,q⟩
 | cont=>obtain⟨σ',H',I,q⟩:=h;exact⟨σ',H',I.Hs,q⟩
 | ret u=>obtain⟨v,σ',H',I,r,q⟩:=h;exact⟨v,σ',H',I.Hs,r,q⟩
theorem PE.nox{e:Expr}{t:TE}(h:PE X.nox e t):PE X e t:=λpins s σ H Q I hw =>
 wpAny_mono (h pins s σ H Q (I.wish _) hw) (λ_ _ ⟨v,H',I',r,q⟩=>⟨v,H',I'.Hs,r,q⟩) λ_ _ z=>False.elim z
theorem PSs.nox{st:List Stmt}{t:TS}(h:PSs X.nox st t):PSs X st t:=λpins s σ H D I hw =>
 wpAny_mono (h pins s σ H D (I.wish _) hw) (λ_ _ q=>q.Hs) λ_ _ z=>False.elim z
end
section
variable {X:Cx}{st:Stmt}{rest:List Stmt}{t u:TS}{e:Expr}{te:TE}{pos:Pos}
def AgG:TS:=λD σ H=>D.nx σ H
def AlX (t u:TS):TS:=λD σ H=>t { D with nx:=u D } σ H
theorem An:PSs X [] AgG:=λ_ _ σ H _ I h=>wpAny_execs_nil ⟨σ,H,I,h⟩
theorem Ac(h1:PS X st t)(h2:PSs X rest u):PSs X (st::rest) (AlX t u):=by
 intro pins s σ H D I h
 refine wpAny_execs_cons (thn (h1 pins s σ H { D with nx:=u D } I h) λf s1 q=>?_)
 cases f with
 | next =>
  obtain⟨σ',H',I',q⟩:=q
  exact h2 pins s1 σ' H' D I' q
 | ret v=>exact q
 | brk=>exact q
 | cont=>exact q
theorem Ad(h1:PS X st t):PSs X [st] t:=by
 intro pins s σ H D I h
 refine wpAny_execs_cons (thn (h1 pins s σ H D I h) λf s1 q=>?_)
 cases f with
 | next=>exact wpAny_execs_nil q
 | ret v=>exact q
 | brk=>exact q
 | cont=>exact q
def An9:TS:=λD σ H=>D.bk σ H
def Aov:TS:=λD σ H=>D.ct σ H
theorem Inv.quiet{pins:List (Addr × Obj)}{σ:St}{H:Hp}{s:Shared}(I:Inv X pins σ H s):interactive X.env=false:=by simp[interactive,I.ok.kind]
def AlY (te:TE):TS:=λD σ H=>te σ H λ_ H1=>D.nx σ H1
theorem Bl(he:PE X e te)(hs:swapsWith e none pos.line X.env=pure false:=by rfl):PS X (.Expr e pos) (AlY te):=by
 intro pins s σ H D I h
 exact wpAny_Expr_any (thn (he pins s σ H _ I h) λv s1 ⟨x,H1,I1,r1,q1⟩=>⟨σ,H1,I1,q1⟩) I.quiet hs
def AnA (te:TE):TS:=λD σ H=>te σ H D.rt
theorem Av(he:PE X e te):PS X (.Return (some e) pos) (AnA te):=by
 intro pins s σ H D I h
 exact wpAny_Return_some (thn (he pins s σ H _ I h) λv s1 ⟨x,H1,I1,r1,q1⟩=>⟨x,σ,H1,I1,r1,q1⟩)
def Aow:TS:=λD _ H=>D.rt .non H
def AlZ (c:TT)(t u:TS):TS:=λD σ H=>c σ H λb H1=>if b=true then t D σ H1 else u D σ H1
theorem Bj{c:Expr}{a b:List Stmt}{tc:TT}(hc:PT X c tc)(ha:PSs X a t)(hb:PSs X b u):PS X (.If c a b pos) (AlZ tc t u):=by
 intro pins s σ H D I h
 refine wpAny_If (thn (hc pins s σ H _ I h) λd s1 ⟨H1,I1,q1⟩=>?_)
 cases d with
 | true=>exact ha pins s1 σ H1 D I1 q1
 | false=>exact hb pins s1 σ H1 D I1 q1
def AkE:TS:=λ_ _ _=>False
theorem GZ:PS X st AkE:=λ_ _ _ _ _ _ h=>h.elim
end
abbrev TG:=V->St->Hp->(St->Hp->Prop)->Prop
abbrev TGs:=List V->St->Hp->(St->Hp->Prop)->Prop
def PG (X:Cx)(target:Expr)(t:TG):Prop :=
 ∀(pins:List (Addr × Obj)) (s:Shared) (σ:St) (H:Hp) (v:V) (u:Value) (Q:St->Hp->Prop),Inv X pins σ H s->RelV v u->t v σ H Q ->
  wpAny (model X.prog X.w) X.A (assign target X.env u) (λ_ s'=>∃ σ' H',Inv X pins σ' H' s'/\Q σ' H') X.xe s
def PGs (X:Cx)(ts:List Expr)(t:TGs):Prop :=
 ∀(pins:List (Addr × Obj)) (s:Shared) (σ:St) (H:Hp) (vs:List V) (us:List Value) (Q:St->Hp->Prop),Inv X pins σ H s->Vals vs us->t vs σ H Q ->
  wpAny (model X.prog X.w) X.A (assignInOrder ((assignEach ts X.env).map (·.2)) us) (λ_ s'=>∃ σ' H',Inv X pins σ' H' s'/\Q σ' H') X.xe s
abbrev AkF:=V->V->V->Hp->(Hp->Prop)->Prop
def Ama (X:Cx)(t:AkF):Prop :=
 ∀(pins:List (Addr × Obj)) (s:Shared) (σ:St) (H:Hp) (o i v:V) (ov iv u:Value) (Q:Hp->Prop),Inv X pins σ H s->RelV o ov->RelV i iv->RelV v u->t o i v H Q ->
  wpAny (model X.prog X.w) X.A (setItem ov iv u) (λ_ s'=>∃ H',Inv X pins σ H' s'/\Q H') X.xe s
abbrev TIp:=V->V->Hp->VK->Prop
def PIp (X:Cx)(op:Operator)(t:TIp):Prop :=
 ∀(pins:List (Addr × Obj)) (s:Shared) (σ:St) (H:Hp) (x y:V) (v u:Value) (Q:VK),Inv X pins σ H s->RelV x v->RelV y u->t x y H Q ->
  wpAny (model X.prog X.w) X.A (inplaceOp op v u) (EP X pins σ Q) X.xe s
section
variable {X:Cx}{pos:Pos}
def J8 (i:Nat):TG:=λv σ H Q=>Q (σ.set i (some v)) H
theorem BK{i:Nat}{x:Str}(hN:X.N.Nodup)(hi:X.N[i]?=some x)(hx:Loc X.env.scope x)(hf:X.fn x=true\/X.env.scope.names.lookup x=some .local:=by first | exact .inl rfl | exact .inr rfl | assumption):PG X (.Name x pos) (J8 i):=by
 intro pins s σ H v u Q I r h
 exact wpAny_assign_Name (XH I hN hi hx r (λs' I'=>⟨_,H,I',h⟩) hf)
def Amb:TGs:=λvs σ H Q=>vs=[]/\Q σ H
def AgH (t:TG)(u:TGs):TGs:=λvs σ H Q=>∃ v r,vs=v::r/\t v σ H λσ' H'=>u r σ' H' Q
theorem JH:PGs X [] Amb:=by
 intro pins s σ H vs us Q I r h
 obtain⟨e,h⟩:=h
 subst e
 cases r
 exact assignInOrder_nil ⟨σ,H,I,h⟩
theorem De{e:Expr}{es:List Expr}{t:TG}{u:TGs}(h1:PG X e t)(h2:PGs X es u)
  (hs:(assignEach (e::es) X.env).map (·.2)=assign e X.env::(assignEach es X.env).map (·.2):=by rfl):PGs X (e::es) (AgH t u):=by
 intro pins s σ H vs us Q I r h
 obtain⟨v,vr,e1,h⟩:=h
 subst e1
 cases r with
 | cons r rr =>
  rw[hs]
  refine assignInOrder_cons (thn (h1 pins s σ H _ _ _ I r h) λ_ s1 ⟨σ1,H1,I1,q1⟩=>?_)
  exact h2 pins s1 σ1 H1 _ _ Q I1 rr q1
def Amc (K:W.Frag)(n:Nat)(t:TGs):TG:=λv σ H Q=>∃ a xs,v=.ref a/\SqT K H a xs/\xs.length=n/\t xs σ H Q
theorem Nh{es:List Expr}{k:Nat}{t:TGs}{n:Nat}(hc:X.calm=true)(h:PGs X es t)
  (hn:(assignEach es X.env).length=n:=by rfl) (hst:(assignEach es X.env).findIdx? (·.1)=none:=by rfl):PG X (.Tuple es k pos) (Amc X.K n t):=by
 intro pins s σ H v u Q I r hw
 obtain⟨a,xs,e1,hq,hl,hw⟩:=hw
 subst e1
 cases r
 obtain⟨its,rv,ht,hz⟩:=I.tuple hq
 refine assign_Tuple_tuple (I.ok.hd hc) ht (by simp[hn,<- hl,rv.length]) hst λh' hx=>?_
 have I1:Inv X pins σ H { s with heap:=h' }:=I.kept (t':=s.toks) λb o e=>hx b o (Apy (Heap.lt_size e)) e
 exact h pins _ σ H xs _ Q I1 (by simpa using rv) hw
def AoL (to ti:TE)(t:AkF):TG:=λv σ H Q=>to σ H λo H1=>ti σ H1 λi H2=>t o i v H2 λH3=>Q σ H3
def Ac1 (te:TE)(g:TG):TS:=λD σ H=>te σ H λx H1=>g x σ H1 D.nx
theorem Abl{tg e:Expr}{te:TE}{g:TG}(he:PE X e te)(hg:PG X tg g)(hs:swapsWithSole [tg] e pos.line X.env=pure false:=by rfl)(hw:swappedStores [tg] e X.env=pure none:=by rfl)
  (h1:(assignEach [tg] X.env).map (·.2)=[assign tg X.env]:=by rfl):PS X (.Assign [tg] e pos) (Ac1 te g):=by
 intro pins s σ H D I h
 refine wpAny_Assign_stores (thn (he pins s σ H _ I h) λv s1 ⟨x,H1,I1,r1,q1⟩=>?_) hs hw
 rw[h1]
 exact thn (hg pins s1 σ H1 x v _ I1 r1 q1) λ_ s2 q=>q
theorem Bh{i:Nat}{x:Str}{e:Expr}{te:TE}{pos':Pos}(hN:X.N.Nodup)(hi:X.N[i]?=some x)(hx:Loc X.env.scope x)(he:PE X e te)(hs:swapsWith e (some (.Name x pos')) pos.line X.env=pure false:=by rfl)(hf:X.fn x=true\/X.env.scope.names.lookup x=some .local:=by first | exact .inl rfl | exact .inr rfl | assumption) :
  PS X (.Assign [.Name x pos'] e pos) (Ac1 te (J8 i)):=by
 intro pins s σ H D I h
 refine wpAny_Assign_Name (thn (he pins s σ H _ I h) λv s1 ⟨y,H1,I1,r1,q1⟩=>?_) hs
 exact XH I1 hN hi hx r1 (λs2 I2=>⟨_,H1,I2,q1⟩) hf
def AoM (i j:Nat)(ta:TA):TS:=λD σ H=>ta σ H λvs H1=>∃ v w,vs=[v,w]/\D.nx ((σ.set i (some v)).set j (some w)) H1
def AoN (i:Nat)(te:TE)(ti:TIp):TS:=λD σ H=>∃ x,σ[i]?=some (some x)/\te σ H λy H1=>ti x y H1 λz H2=>D.nx (σ.set i (some z)) H2
def Aox (to ti te:TE)(AnB:V->V->Hp->VK->Prop)(tip:TIp)(AnC:AkF):TS:=λD σ H=>to σ H λo H1=>ti σ H1 λi H2=>AnB o i H2 λx H3=>te σ H3 λy H4=>tip x y H4 λz H5=>AnC o i z H5 λH6=>D.nx σ H6
def Amd (X:Cx)(t:V->V->Hp->VK->Prop):Prop :=
 ∀(pins:List (Addr × Obj)) (s:Shared) (σ:St) (H:Hp) (o i:V) (ov iv:Value) (Q:VK),Inv X pins σ H s->RelV o ov->RelV i iv->t o i H Q ->
  wpAny (model X.prog X.w) X.A (getItem ov iv) (EP X pins σ Q) X.xe s
def ipI (f:Int->Int->Int):TIp:=λx y H Q=>∃ i j,x=.int i/\y=.int j/\Q (.int (f i j)) H
def AkG (c:TT)(tb:TS):TS:=λD σ H=>∃ W:Nat->St->Hp->Prop,(∃ m,W m σ H)/\∀ m σ H,W m σ H ->
 c σ H λb H1=>if b=true then ∃ N:St->Hp->Prop,(∀ σ' H',N σ' H'->∃ m',m'<m/\W m' σ' H')/\tb { D with nx:=N,ct:=N,bk:=D.nx } σ H1 else D.nx σ H1
theorem Ac2{c:Expr}{body:List Stmt}{tc:TT}{tb:TS}(hp:PassesOwn (model X.prog X.w) X.A X.env X.xe)(hc:PT X c tc)(hb:PSs X body tb):PS X (.While c body [] pos) (AkG tc tb):=by
 intro pins s σ H D I h
 obtain⟨W,⟨m0,w0⟩,turn⟩:=h
 refine wpAny_While (codeAny_whileLoop (λn s'=>∃ σ' H',Inv X pins σ' H' s'/\W n σ' H') ?_ m0 ⟨σ,H,I,w0⟩)
 rintro n s1 ⟨σ1,H1,I1,w1⟩
 refine wpAny_passesOwn hp (thn (hc pins s1 σ1 H1 _ I1 (turn n σ1 H1 w1)) λb s2 ⟨H2,I2,q2⟩=>?_)
 cases b with
 | true =>
  obtain⟨N,hN,q2⟩:=q2
  rw[if_pos rfl]
  refine wpAny_passesOwn hp (thn (hb pins s2 σ1 H2 _ I2 q2) λf s3 q3=>?_)
  cases f with
  | next =>
   obtain⟨σ3,H3,I3,n3⟩:=q3
   obtain⟨m',hm,w3⟩:=hN σ3 H3 n3
   exact⟨m',hm,σ3,H3,I3,w3⟩
  | cont =>
   obtain⟨σ3,H3,I3,n3⟩:=q3
   obtain⟨m',hm,w3⟩:=hN σ3 H3 n3
   exact⟨m',hm,σ3,H3,I3,w3⟩
  | brk=>exact q3
  | ret v=>exact q3
 | false =>
  rw[if_neg Ap5]
  exact wpAny_execs_nil ⟨σ1,H2,I2,q2⟩
end
structure It where
 go:Nat->Hp->Prop
 yld:Nat->Hp->V->Hp->Prop
 stop:Nat->Hp->Prop
def Hr (X:Cx)(pins:List (Addr × Obj))(H:Hp)(b:Addr):Prop :=
 H b=none/\b≠X.env.locals/\b∉X.fs/\(b∈X.ex\/X.s₀.heap.objs.size<=b)/\(∀ x c,X.env.cells.lookup x=some c->c≠b)/\∀ p∈X.pn++pins,p.1≠b
theorem Inv.AdH{X:Cx}{pins:List (Addr × Obj)}{σ:St}{H H':Hp}{s:Shared}{b:Addr}(I:Inv X pins σ H s)(hb:s.heap.objs.size<=b)(hn:H' b=none):Hr X pins H' b:=by
 refine⟨hn,Aqd (Ap0 I.lt hb),I.An4 hb,.inr (ApF I.sz hb),λx c e z=>?_,λp hp z=>?_⟩
 ·obtain⟨v,q⟩:=I.cell x c e
  exact absurd (Ap0 q.lt (by rw[z];exact hb)) (ApC _)
 ·exact absurd (Ap0 (Heap.lt_size (I.pin p hp).1) (by rw[z];exact hb)) (ApC _)
structure Turn (P:Program) (w:World) (K:W.Frag) (tg:Expr) (J:It) (fp:List Addr) (it:Addr) (tn:Nat->Heap->Prop):Prop where
 mem:it∈fp
 obj:∀ i h,tn i h->∀ b∈fp,∃ o,h.get? b=some o/\∀ v,o.data≠.cell v
 keep:∀ i h h',tn i h->(∀ b∈fp,∀ o,h.get? b=some o->h'.get? b=some o)->tn i h'
 item:∀(X:Cx),X.prog=P->X.w=w->X.K=K->X.calm=true->∀(i:Nat) (pins:List (Addr × Obj)) (s:Shared) (σ:St) (H:Hp) (E:Value->Shared->Prop),Inv X pins σ H s->(∀ b∈fp,Hr X pins H b)->tn i s.heap->J.go i H ->
  wpAny (model P w) X.A (pyNext (.ref it)) (λr s1=>∃ u,r=some u /\
   wpAny (model P w) X.A (letOwnedTupleGo tg (.ref it) u) (λ_ s2=>∃ x H',Inv X pins σ H' s2/\RelV x u/\J.yld i H x H'/\tn (i+1) s2.heap/\∀ b∈fp,H' b=none) E s1) E s
 done:∀(X:Cx),X.prog=P->X.w=w->X.K=K->X.calm=true->∀(i:Nat) (pins:List (Addr × Obj)) (s:Shared) (σ:St) (H:Hp) (E:Value->Shared->Prop),Inv X pins σ H s->(∀ b∈fp,Hr X pins H b)->tn i s.heap->J.stop i H ->
  wpAny (model P w) X.A (pyNext (.ref it)) (λr s1=>r=none/\Inv X pins σ H s1) E s
 self:∀(A:Around) (i:Nat) (s:Shared) (Q:Value->Shared->Prop) (E:Value->Shared->Prop),tn i s.heap->Q (.ref it) s->wpAny (model P w) A (pyIter (.ref it)) Q E s
abbrev TI:=St->Hp->(It->Hp->Prop)->Prop
def PIE (X:Cx)(pins:List (Addr × Obj))(σ:St)(tg:Expr)(R:It->Hp->Prop)(itv:Value)(s2:Shared):Prop :=
 ∃(it:Addr) (fp:List Addr) (tn:Nat->Heap->Prop) (J:It) (H':Hp),itv=.ref it/\Inv X pins σ H' s2/\Turn X.prog X.w X.K tg J fp it tn/\tn 0 s2.heap/\(∀ b∈fp,Hr X pins H' b)/\R J H'
def PI (X:Cx)(tg iter:Expr)(wi:TI):Prop :=
 ∀(pins:List (Addr × Obj)) (s:Shared) (σ:St) (H:Hp) (R:It->Hp->Prop),Inv X pins σ H s->wi σ H R ->
  wpAny (model X.prog X.w) X.A (eval iter X.env) (λv s1=>wpAny (model X.prog X.w) X.A (pyIter v) (PIE X pins σ tg R) X.xe s1) X.xe s
theorem Ac3{M:Model}{A:Around}{E:Value->Shared->Prop}{s:Shared}{tg:Expr}{it:Addr}{u:Value}{o:Obj}{n:String}{vs:Array Value}{Q:Unit->Shared->Prop}(ho:s.heap.get? it=some o)(hc:o.cls=.type n)(hd:o.data=.fields vs)
    (hn:["enumerate", "zip", "dict_itemiterator", "dict_reverseitemiterator", "odict_iterator", "itertools.zip_longest", "itertools.pairwise"].contains n=false) (hQ:Q () s):wpAny M A (letOwnedTupleGo tg (.ref it) u) Q E s:=by
  unfold letOwnedTupleGo
  cases tg <;> first
    | exact wpAny_pure hQ
    | (cases u <;> first
        | exact wpAny_pure hQ
        | (refine wpAny_bind (wpAny_load ho ?_)
           rw[hc,hd]
           show wpAny M A (if (["enumerate", "zip", "dict_itemiterator", "dict_reverseitemiterator", "odict_iterator", "itertools.zip_longest", "itertools.pairwise"].contains n && vs[0]? == some (rawInt _))=true then _ else _) Q E s
           rw[if_neg (by intro h;rw[hn,Bool.false_and] at h;cases h)]
           exact wpAny_pure hQ))
def Itl (K:W.Frag)(a:Addr):It :=
 ⟨λi H=>∃ xs x,SqL K H a xs/\xs[i]?=some x,λi H x H'=>H'=H/\∀ xs,SqL K H a xs->xs[i]?=some x,λi H=>∃ xs,SqL K H a xs/\xs.length<=i⟩
def Itt (K:W.Frag)(a:Addr):It :=
 ⟨λi H=>∃ xs x,SqT K H a xs/\xs[i]?=some x,λi H x H'=>H'=H/\∀ xs,SqT K H a xs->xs[i]?=some x,λi H=>∃ xs,SqT K H a xs/\xs.length<=i⟩
def Itr (lo:Int)(n:Nat):It:=⟨λi _=>i<n,λi H x H'=>H'=H/\x=.int (lo+i),λi _=>n<=i⟩
theorem Af2{P:Program}{w:World}{K:W.Frag}{tg:Expr}(a it:Addr):Turn P w K tg (Itl K a) [it] it (λi h=>h.IsListIter it a i) where
 mem:=by simp
 obj:=λi h st b hb=>by
  have e:b=it:=by simpa using hb
  subst e
  obtain⟨o,e,c,d⟩:=st
  exact⟨o,e,λv z=>by rw[d] at z;cases z⟩
 keep:=λi h h' st k=>st.at λo e=>k it (by simp) o e
 item:=by
  intro X hP hw hK hc i pins s σ H E I hf st hg
  subst hP hw hK
  obtain⟨xs,x,hq,hx⟩:=hg
  obtain⟨its,rv,p,hz⟩:=I.list hq
  obtain⟨u,hu,ru⟩:=rv.get hx
  obtain⟨f0,f1,f2,f3,f4,f5⟩:=hf it (by simp)
  refine wpAny_pyNext_list_item st p.isList (x:=u) (by simpa using hu) λh' st' sb=>?_
  have I1:Inv X pins σ H { s with heap:=h' }:=I.turned (t':=s.toks) (λb o hb e=>(sb.2 b hb).trans e) f0 f1 f3 f4 f5
  obtain⟨o,e,c,d⟩:=id st'
  exact⟨u,rfl,Ac3 (s:={ s with heap:=h' }) e c d (by decide) ⟨x,H,I1,ru,⟨rfl,λys hy=>by rw[I.JR hy hq];exact hx⟩,st',λb hb=>(hf b hb).1⟩⟩
 done:=by
  intro X hP hw hK hc i pins s σ H E I hf st hg
  subst hP hw hK
  obtain⟨xs,hq,hx⟩:=hg
  obtain⟨its,rv,p,hz⟩:=I.list hq
  obtain⟨f0,f1,f2,f3,f4,f5⟩:=hf it (by simp)
  have hl:=rv.length
  exact wpAny_pyNext_list_end (I.ok.hd hc) st p.isList (by simp;omega) λh' eb=>⟨rfl,I.turned (t':=s.toks) (λb o hb e=>eb b o hb e) f0 f1 f3 f4 f5⟩
 self:=λ_ _ _ _ _ st h=>wpAny_pyIter_listiter st h
theorem AdI{P:Program}{w:World}{K:W.Frag}{tg:Expr}(it:Addr)(lo:Int)(n:Nat):Turn P w K tg (Itr lo n) [it] it (λi h=>IsRangeIter h it (lo+(i:Nat)*1) ((n:Int)-(i:Nat)) 1) where
 mem:=by simp
 obj:=λi h st b hb=>by
  have e:b=it:=by simpa using hb
  subst e
  exact⟨_,st,λv z=>by
   have z':Data.fields _=Data.cell v:=z
   cases z'⟩
 keep:=λi h h' st k=>k it (by simp) _ st
 item:=by
  intro X hP hw hK hc i pins s σ H E I hf st hg
  subst hP hw hK
  obtain⟨f0,f1,f2,f3,f4,f5⟩:=hf it (by simp)
  have W:=Walks.range (prog:=X.prog) (w:=X.w) (I.ok.hd hc) it lo 1 n
  refine W.item i s _ _ hg st λv h' tk hv st' kk=>?_
  obtain⟨t,rfl⟩:=hv
  have I1:Inv X pins σ H { s with heap:=h',toks:=tk }:=I.turned (λb o hb e=>kk b o (by simpa using hb) e) f0 f1 f3 f4 f5
  refine⟨_,rfl,Ac3 (s:={ s with heap:=h',toks:=tk }) (n := "range_iterator") st' rfl rfl (by decide) ⟨.int (lo+i),H,I1,⟨t,?_⟩,⟨rfl,rfl⟩,st',λb hb=>(hf b hb).1⟩⟩
  rw[Int.mul_one]
 done:=by
  intro X hP hw hK hc i pins s σ H E I hf st hg
  subst hP hw hK
  obtain⟨f0,f1,f2,f3,f4,f5⟩:=hf it (by simp)
  exact wpAny_pyNext_range_end (I.ok.hd hc) st (by have:n<=i:=hg;omega) λh' eb=>⟨rfl,I.turned (t':=s.toks) (λb o hb e=>eb b o hb e) f0 f1 f3 f4 f5⟩
 self:=λ_ _ _ _ _ st h=>wpAny_pyIter_rangeiter st h
section
variable {X:Cx}{tg:Expr}
def Akm (K:W.Frag)(tl:TE):TI:=λσ H R=>tl σ H λx H1=>∃ a,x=.ref a/\(∃ xs,SqL K H1 a xs)/\R (Itl K a) H1
def AoO (K:W.Frag)(tl:TE):TI:=λσ H R=>tl σ H λx H1=>∃ a,x=.ref a/\(∃ xs,SqT K H1 a xs)/\R (Itt K a) H1
theorem AiQ{l:Expr}{tl:TE}(hl:PE X l tl):PI X tg l (Akm X.K tl):=by
 intro pins s σ H R I h
 refine thn (hl pins s σ H _ I h) λv s1 ⟨x,H1,I1,r1,q1⟩=>?_
 obtain⟨a,e,⟨xs,hq⟩,q⟩:=q1
 subst e
 cases r1
 obtain⟨its,rv,p,hz⟩:=I1.list hq
 refine wpAny_pyIter_list p.isList ?_
 refine⟨s1.heap.objs.size,[s1.heap.objs.size],_,_,H1,rfl,I1.kept (t':=s1.toks) λb o e=>Heap.get?_push_of_some _ e,Af2 a _,⟨_,Heap.get?_push_size _ rfl,rfl,rfl⟩,λb hb=>?_,q⟩
 have e:b=s1.heap.objs.size:=by simpa using hb
 subst e
 exact I1.AdH (Apv _) (I1.hok.fresh (Apv _))
theorem Ac4{pins:List (Addr × Obj)}{σ:St}{H:Hp}{s:Shared}{R:It->Hp->Prop}{E:Value->Shared->Prop}{lo hi:Int}{t u v:Tok}{tk:Nat}(I:Inv X pins σ H s)(h1 : -(2 ^ 62)<=lo)(h2:lo<2 ^ 62)(h3 : -(2 ^ 62)<=hi)(h4:hi<2 ^ 62)
  (q:R (Itr lo (hi-lo).toNat) H):wpAny (model X.prog X.w) X.A (pyIter (.ref s.heap.objs.size)) (PIE X pins σ tg R) E { s with heap:=s.heap.push { cls:=.type "range", data:=.fields #[.int lo t,.int hi u,.int 1 v] },toks:=tk }:=by
 refine wpAny_pyIter_range (IsRange.new ..) (small_one h1 h2 h3 h4) ?_
 have I1:Inv X pins σ H { s with heap:=s.heap.push { cls:=.type "range", data:=.fields #[.int lo t,.int hi u,.int 1 v] },toks:=tk }:=I.kept λb o e=>Heap.get?_push_of_some _ e
 refine⟨(s.heap.push { cls:=.type "range", data:=.fields #[.int lo t,.int hi u,.int 1 v] }).objs.size,[(s.heap.push { cls:=.type "range", data:=.fields #[.int lo t,.int hi u,.int 1 v] }).objs.size],_,_,H,rfl,
  I1.kept (t':=tk) λb o e=>Heap.get?_push_of_some _ e,AdI _ lo (hi-lo).toNat,?_,λb hb=>?_,q⟩
 ·have e1:lo+((0:Nat):Int)*1=lo:=by simp
  have e2:(((hi-lo).toNat:Nat):Int)-((0:Nat):Int)=Builtin.Range.rangeSize lo hi 1:=by rw[rangeSize_one];split <;> omega
  show IsRangeIter _ _ (lo+((0:Nat):Int)*1) ((((hi-lo).toNat:Nat):Int)-((0:Nat):Int)) 1
  rw[e1,e2]
  exact Heap.get?_push_size _ rfl
 ·have e:b=(s.heap.push { cls:=.type "range", data:=.fields #[.int lo t,.int hi u,.int 1 v] }).objs.size:=by simpa using hb
  subst e
  exact I1.AdH (Apv _) (I1.hok.fresh (Apv _))
def Ame (ta:TA):TI:=λσ H R=>ta σ H λvs H1=>∃ j:Int,vs=[.int j] /\ -(2 ^ 62)<=j/\j<2 ^ 62/\R (Itr 0 j.toNat) H1
def Amf (ta:TA):TI:=λσ H R=>ta σ H λvs H1=>∃ i j:Int,vs=[.int i,.int j]/\(-(2 ^ 62)<=i/\i<2 ^ 62 /\ -(2 ^ 62)<=j/\j<2 ^ 62)/\R (Itr i (j-i).toNat) H1
theorem Dw{a:Expr}{ta:TA}{p pos:Pos}(hg:Gl X "range") (hm:X.mg "range" = none) (ha:PA X [a] ta) (hs:starEach [a] X.env=[(false,eval a X.env)]:=by rfl):PI X tg (.Call (.Name "range" p) [a] [] pos) (Ame ta):=by
 intro pins s σ H R I h
 refine Call_ (HW I hg hm boot_range (PyProof.Rows.callWith_type1 (thn (ha pos pins s σ H _ I h) λus s1 ⟨vs,H1,I1,r1,q1⟩=>?_) hs rfl))
 obtain⟨j,e,q1,q2,q⟩:=q1
 subst e
 cases r1 with
 | cons r rr =>
  cases rr
  obtain⟨t,rfl⟩:=r
  exact call_range_1 (Ac4 I1 (by omega) (by omega) q1 q2 (by simpa using q))
theorem Af3{a b:Expr}{ta:TA}{p pos:Pos}(hg:Gl X "range") (hm:X.mg "range" = none) (ha:PA X [a,b] ta) (hs:starEach [a,b] X.env=[(false,eval a X.env),(false,eval b X.env)]:=by rfl) (hs2:starEach [b] X.env=[(false,eval b X.env)]:=by rfl) :
  PI X tg (.Call (.Name "range" p) [a,b] [] pos) (Amf ta):=by
 intro pins s σ H R I h
 refine Call_ (HW I hg hm boot_range (PyProof.Rows.callWith_type1 (thn (ha pos pins s σ H _ I h) λus s1 ⟨vs,H1,I1,r1,q1⟩=>?_) (by rw[hs,hs2]) (by rw[hs2];rfl)))
 obtain⟨i,j,e,⟨q1,q2,q3,q4⟩,q⟩:=q1
 subst e
 cases r1 with
 | cons r rr =>
  cases rr with
  | cons r' rr =>
   cases rr
   obtain⟨t,rfl⟩:=r
   obtain⟨t',rfl⟩:=r'
   exact call_range_2 (Ac4 I1 q1 q2 q3 q4 q)
def AnD (wi:TI)(g:TG)(tb:TS):TS:=λD σ H=>wi σ H λJ H1=>∃ W:Nat->Nat->St->Hp->Prop,(∃ m,W 0 m σ H1)/\∀ i m σ H,W i m σ H ->
 (J.stop i H/\D.nx σ H)\/(J.go i H/\∃ N:St->Hp->Prop,(∀ σ' H',N σ' H'->∃ m',m'<m/\W (i+1) m' σ' H')/\∀ x H',J.yld i H x H'->g x σ H' λσ2 H2=>tb { D with nx:=N,ct:=N,bk:=D.nx } σ2 H2)
def PX (fp:List Addr)(h:Heap):List (Addr × Obj):=fp.filterMap λb=>(h.get? b).map λo=>(b,o)
theorem Ez{fp:List Addr}{h:Heap}{b:Addr}{o:Obj}(hb:b∈fp)(e:h.get? b=some o):(b,o)∈PX fp h:=List.mem_filterMap.mpr ⟨b,hb,by rw[e];rfl⟩
theorem Af4{fp:List Addr}{h:Heap}{p:Addr × Obj}(hp:p∈PX fp h):p.1∈fp/\h.get? p.1=some p.2:=by
 obtain⟨b,hb,e⟩:=List.mem_filterMap.mp hp
 cases q:h.get? b with
 | none=>rw[q] at e;cases e
 | some o =>
  rw[q] at e
  have e':(b,o)=p:=Option.some.inj e
  subst e'
  exact⟨hb,q⟩
theorem Inv.pinned{pins:List (Addr × Obj)}{σ:St}{H:Hp}{s:Shared}{fp:List Addr}(I:Inv X pins σ H s)(hf:∀ b∈fp,Hr X pins H b)(ho:∀ b∈fp,∃ o,s.heap.get? b=some o/\∀ v,o.data≠.cell v):Inv X (pins++PX fp s.heap) σ H s :=
 I.Gf λp hp=>(List.mem_append.mp hp).elim (λz=>I.pin p (ApG _ z)) λz=>by
  obtain⟨hb,e⟩:=Af4 z
  obtain⟨f0,f1,f2,_⟩:=hf p.1 hb
  obtain⟨o,e',d⟩:=ho p.1 hb
  rw[e] at e';cases e'
  exact⟨e,f0,f1,f2,d⟩
theorem Inv.XJ{pins pl:List (Addr × Obj)}{σ:St}{H:Hp}{s:Shared}(I:Inv X (pins++pl) σ H s):Inv X pins σ H s:=I.Gf λp hp=>I.pin p (ApG _ (Aqp _ hp))
theorem Fw{iter:Expr}{body:List Stmt}{wi:TI}{g:TG}{tb:TS}{pos:Pos}(hp:PassesOwn (model X.prog X.w) X.A X.env X.xe)(hc:X.calm=true)(hi:PI X tg iter wi)(hg:PG X tg g)(hb:PSs X body tb)
  (hs:∀ x,foldedSetIterable iter X.env x=pure x:=by intro _;rfl):PS X (.For tg iter body [] pos) (AnD wi g tb):=by
 intro pins s σ H D I h
 refine wpAny_For (thn (hi pins s σ H _ I h) λv s1 h1=>thn h1 λitv s2 h2=>?_) hs
 obtain⟨it,fp,tn,J,H2,e,I2,T,st2,f2,W,⟨m0,w0⟩,turn⟩:=h2
 subst e
 have stat:∀{H':Hp},(∀ b∈fp,H' b=none)->∀ b∈fp,Hr X pins H' b:=λhn b hb=>⟨hn b hb,(f2 b hb).2⟩
 refine codeAny_forLoop_any (λn s'=>∃ i σ' H',Inv X pins σ' H' s'/\tn i s'.heap/\(∀ b∈fp,H' b=none)/\W i n σ' H') ?_ m0 ⟨0,σ,H2,I2,st2,λb hb=>(f2 b hb).1,w0⟩
 rintro n s3 ⟨i,σ3,H3,I3,st3,fr3,w3⟩
 rcases turn i n σ3 H3 w3 with ⟨stop,qn⟩ | ⟨go,N,hN,step⟩
 ·refine wpAny_passesOwn hp (thn (T.done X rfl rfl rfl hc i pins s3 σ3 H3 X.xe I3 (stat fr3) st3 stop) λr s4 ⟨hr,I4⟩=>?_)
  subst hr
  exact wpAny_execs_nil ⟨σ3,H3,I4,qn⟩
 ·refine wpAny_passesOwn hp (thn (T.item X rfl rfl rfl hc i pins s3 σ3 H3 X.xe I3 (stat fr3) st3 go) λr s4 ⟨u,hr,h4⟩=>?_)
  subst hr
  refine wpAny_passesOwn hp (thn h4 λ_ s5 ⟨x,H5,I5,r5,y5,st5,fr5⟩=>?_)
  have I5':=I5.pinned (stat fr5) (T.obj _ _ st5)
  refine wpAny_passesOwn hp (thn (hg _ s5 σ3 H5 x u _ I5' r5 (step x H5 y5)) λ_ s6 ⟨σ6,H6,I6,q6⟩=>?_)
  refine wpAny_passesOwn hp (thn (hb _ s6 σ6 H6 _ I6 q6) λf s7 q7=>?_)
  have again:∀{σ7:St} {H7:Hp},Inv X (pins++PX fp s5.heap) σ7 H7 s7->N σ7 H7->∃ m,m<n/\∃ i σ' H',Inv X pins σ' H' s7/\tn i s7.heap/\(∀ b∈fp,H' b=none)/\W i m σ' H':=λ{σ7 H7} I7 n7=>by
   obtain⟨m',hm,w7⟩:=hN σ7 H7 n7
   refine⟨m',hm,i+1,σ7,H7,I7.XJ,T.keep _ _ _ st5 λb hb o e=>(I7.pin (b,o) (ApG _ (ApG _ (Ez hb e)))).1,λb hb=>?_,w7⟩
   obtain⟨o,e,d⟩:=T.obj _ _ st5 b hb
   exact(I7.pin (b,o) (ApG _ (ApG _ (Ez hb e)))).2.1
  cases f with
  | next=>obtain⟨σ7,H7,I7,n7⟩:=q7;exact again I7 n7
  | cont=>obtain⟨σ7,H7,I7,n7⟩:=q7;exact again I7 n7
  | brk=>obtain⟨σ7,H7,I7,q7⟩:=q7;exact⟨σ7,H7,I7.XJ,q7⟩
  | ret v=>obtain⟨x7,σ7,H7,I7,r7,q7⟩:=q7;exact⟨x7,σ7,H7,I7.XJ,r7,q7⟩
end
theorem Jf{K:W.Frag}{a:Addr}{xs:List V}{g:TG}{tb:TS}{D:Ends}{σ:St}{H:Hp}(Pv:Nat->St->Hp->Prop)(h0:Pv 0 σ H)(hl:∀ i σ H,i<=xs.length->Pv i σ H->SqL K H a xs)
  (hs:∀ i x σ H,xs[i]?=some x->Pv i σ H->g x σ H λσ2 H2=>tb { D with nx:=Pv (i+1),ct:=Pv (i+1),bk:=D.nx } σ2 H2) (hd:∀ σ H,Pv xs.length σ H->D.nx σ H) :
  ∃ W:Nat->Nat->St->Hp->Prop,(∃ m,W 0 m σ H)/\∀ i m σ H,W i m σ H ->
   ((Itl K a).stop i H/\D.nx σ H)\/((Itl K a).go i H/\∃ N:St->Hp->Prop,(∀ σ' H',N σ' H'->∃ m',m'<m/\W (i+1) m' σ' H')/\∀ x H',(Itl K a).yld i H x H'->g x σ H' λσ2 H2=>tb { D with nx:=N,ct:=N,bk:=D.nx } σ2 H2):=by
 refine⟨λi m σ H=>m=xs.length-i/\i<=xs.length/\Pv i σ H,⟨xs.length,by simp,Ap8 _,h0⟩,?_⟩
 rintro i m σ H ⟨rfl,hi,p⟩
 have q:=hl i σ H hi p
 by_cases hlt:i<xs.length
 ·refine .inr ⟨⟨xs,xs[i],q,by simp[hlt]⟩,Pv (i+1),λσ' H' p'=>⟨xs.length-(i+1),by omega,rfl,hlt,p'⟩,λx H' y=>?_⟩
  obtain⟨e,y⟩:=y
  subst e
  exact hs i x σ _ (y xs q) p
 ·have e:i=xs.length:=by omega
  subst e
  exact .inl ⟨⟨xs,q,Apv _⟩,hd σ H p⟩
theorem Lz{lo:Int}{n:Nat}{g:TG}{tb:TS}{D:Ends}{σ:St}{H:Hp}(Pv:Nat->St->Hp->Prop)(h0:Pv 0 σ H)
  (hs:∀ i σ H,i<n->Pv i σ H->g (.int (lo+i)) σ H λσ2 H2=>tb { D with nx:=Pv (i+1),ct:=Pv (i+1),bk:=D.nx } σ2 H2) (hd:∀ σ H,Pv n σ H->D.nx σ H) :
  ∃ W:Nat->Nat->St->Hp->Prop,(∃ m,W 0 m σ H)/\∀ i m σ H,W i m σ H ->
   ((Itr lo n).stop i H/\D.nx σ H)\/((Itr lo n).go i H/\∃ N:St->Hp->Prop,(∀ σ' H',N σ' H'->∃ m',m'<m/\W (i+1) m' σ' H')/\∀ x H',(Itr lo n).yld i H x H'->g x σ H' λσ2 H2=>tb { D with nx:=N,ct:=N,bk:=D.nx } σ2 H2):=by
 refine⟨λi m σ H=>m=n-i/\i<=n/\Pv i σ H,⟨n,by simp,Ap8 _,h0⟩,?_⟩
 rintro i m σ H ⟨rfl,hi,p⟩
 by_cases hlt:i<n
 ·refine .inr ⟨hlt,Pv (i+1),λσ' H' p'=>⟨n-(i+1),by omega,rfl,hlt,p'⟩,λx H' y=>?_⟩
  obtain⟨e,y⟩:=y
  subst e y
  exact hs i σ _ hlt p
 ·have e:i=n:=by omega
  subst e
  exact .inl ⟨Apv _,hd σ H p⟩
abbrev R2:=V->V->Hp->VK->Prop
def OpR (X:Cx)(f:Value->Value->Sem Value)(r:R2):Prop :=
 ∀(pins:List (Addr × Obj)) (s:Shared) (σ:St) (H:Hp) (x y:V) (v u:Value) (Q:VK),Inv X pins σ H s->RelV x v->RelV y u->r x y H Q ->
  wpAny (model X.prog X.w) X.A (f v u) (EP X pins σ Q) X.xe s
def UnR (X:Cx)(f:Value->Sem Value)(r:V->Hp->VK->Prop):Prop :=
 ∀(pins:List (Addr × Obj)) (s:Shared) (σ:St) (H:Hp) (x:V) (v:Value) (Q:VK),Inv X pins σ H s->RelV x v->r x H Q ->
  wpAny (model X.prog X.w) X.A (f v) (EP X pins σ Q) X.xe s
def JC (X:Cx)(f:Value)(r:List V->Hp->VK->Prop):Prop :=
 ∀(pins:List (Addr × Obj)) (s:Shared) (σ:St) (H:Hp) (xs:List V) (us:List Value) (Q:VK),Inv X pins σ H s->Vals xs us->r xs H Q ->
  wpAny (model X.prog X.w) X.A (call f us) (EP X pins σ Q) X.xe s
def AnE (X:Cx)(r:V->Hp->(Bool->Hp->Prop)->Prop):Prop :=
 ∀(pins:List (Addr × Obj)) (s:Shared) (σ:St) (H:Hp) (x:V) (v:Value) (Q:Bool->Hp->Prop),Inv X pins σ H s->RelV x v->r x H Q ->
  wpAny (model X.prog X.w) X.A (truthy v) (TP X pins σ Q) X.xe s
def tOp (r:R2)(ta tb:TE):TE:=λσ H Q=>ta σ H λx H1=>tb σ H1 λy H2=>r x y H2 Q
def tUn (r:V->Hp->VK->Prop)(ta:TE):TE:=λσ H Q=>ta σ H λx H1=>r x H1 Q
def rI (C:Int->Int->Prop)(g:Int->Int->V):R2:=λx y H Q=>∃ i j,x=.int i/\y=.int j/\C i j/\Q (g i j) H
def rI0 (g:Int->Int->V):R2:=λx y H Q=>∃ i j,x=.int i/\y=.int j/\Q (g i j) H
def rU (g:Int->V):V->Hp->VK->Prop:=λx H Q=>∃ i,x=.int i/\Q (g i) H
section
variable {X:Cx}{a b c:Expr}{ta tb tc:TE}{pos:Pos}
theorem AkH(ha:PE X a ta)(hb:PE X b tb){pins:List (Addr × Obj)}{s:Shared}{σ:St}{H:Hp}{R:V->V->Hp->Prop}(I:Inv X pins σ H s)
  (h:ta σ H λx H1=>tb σ H1 λy H2=>R x y H2) {Q:Value->Shared->Prop} {f:Value->Value->Sem Value}
  (hf:∀ v u s2 x y H2,Inv X pins σ H2 s2->RelV x v->RelV y u->R x y H2->wpAny (model X.prog X.w) X.A (f v u) Q X.xe s2) :
  wpAny (model X.prog X.w) X.A (eval a X.env) (λv s₁=>wpAny (model X.prog X.w) X.A (eval b X.env) (λu s₂=>wpAny (model X.prog X.w) X.A (f v u) Q X.xe s₂) X.xe s₁) X.xe s:=by
 refine thn (ha pins s σ H _ I h) λv s1 ⟨x,H1,I1,r1,q1⟩=>?_
 refine thn (hb pins s1 σ H1 _ I1 q1) λu s2 ⟨y,H2,I2,r2,q2⟩=>?_
 exact hf v u s2 x y H2 I2 r1 r2 q2
theorem Ar{op:Operator}{r:R2}(ho:OpR X (binaryOp op) r)(ha:PE X a ta)(hb:PE X b tb):PE X (.BinOp a op b pos) (tOp r ta tb):=by
 intro pins s σ H Q I h
 exact wpAny_BinOp (AkH ha hb I h λv u s2 x y H2 I2 rx ry q=>ho pins s2 σ H2 x y v u Q I2 rx ry q)
theorem Ac5{op:UnaryOp}{r:V->Hp->VK->Prop}(ho:UnR X (unaryOp op) r)(ha:PE X a ta):PE X (.UnaryOp op a pos) (tUn r ta):=by
 intro pins s σ H Q I h
 exact UnaryOp_ (thn (ha pins s σ H _ I h) λv s1 ⟨x,H1,I1,r1,q1⟩=>ho pins s1 σ H1 x v Q I1 r1 q1)
theorem opI{f:Value->Value->Sem Value}{C:Int->Int->Prop}{g:Int->Int->Int}
  (rule:∀(i j:Int) (t u:Tok) (s:Shared) (Q:Value->Shared->Prop) (E:Value->Shared->Prop),C i j->Q (.int (g i j) s.toks) { s with toks:=s.toks+1 }->wpAny (model X.prog X.w) X.A (f (.int i t) (.int j u)) Q E s) :
  OpR X f (rI C λi j=>.int (g i j)):=by
 intro pins s σ H x y v u Q I rx ry h
 obtain⟨i,j,rfl,rfl,hc,q⟩:=h
 obtain⟨t,rfl⟩:=rx
 obtain⟨t',rfl⟩:=ry
 exact rule i j t t' s _ _ hc ⟨.int (g i j),H,I.tok _,⟨_,rfl⟩,q⟩
theorem Amg{f:Value->Value->Sem Value}{g:Int->Int->Int}
  (rule:∀(i j:Int) (t u:Tok) (s:Shared) (Q:Value->Shared->Prop) (E:Value->Shared->Prop),Q (.int (g i j) s.toks) { s with toks:=s.toks+1 }->wpAny (model X.prog X.w) X.A (f (.int i t) (.int j u)) Q E s) :
  OpR X f (rI0 λi j=>.int (g i j)):=by
 intro pins s σ H x y v u Q I rx ry h
 obtain⟨i,j,rfl,rfl,q⟩:=h
 obtain⟨t,rfl⟩:=rx
 obtain⟨t',rfl⟩:=ry
 exact rule i j t t' s _ _ ⟨.int (g i j),H,I.tok _,⟨_,rfl⟩,q⟩
theorem AiR{f:Value->Value->Sem Value}{g:Int->Int->Bool}
  (rule:∀(i j:Int) (t u:Tok) (s:Shared) (Q:Value->Shared->Prop) (E:Value->Shared->Prop),Q (.bool (g i j)) s->wpAny (model X.prog X.w) X.A (f (.int i t) (.int j u)) Q E s) :
  OpR X f (rI0 λi j=>.bl (g i j)):=by
 intro pins s σ H x y v u Q I rx ry h
 obtain⟨i,j,rfl,rfl,q⟩:=h
 obtain⟨t,rfl⟩:=rx
 obtain⟨t',rfl⟩:=ry
 exact rule i j t t' s _ _ ⟨.bl (g i j),H,I,rfl,q⟩
def AnF (i j:Int):Prop:=0<j/\j<1073741824
def Aoy (i j:Int):Prop:=j≠0/\j.natAbs<1073741824
def AoP (i j:Int):Prop:=0<=j/\j<=1000000/\i.natAbs<2 ^ 64
def AkI (i j:Int):Prop:=(-(2 ^ 64)<i/\i<2 ^ 64)\/(-(2 ^ 64)<j/\j<2 ^ 64)
theorem AkI.ok{i j:Int}(h:AkI i j):IntMulOk i j:=by
 rcases h with ⟨h1,h2⟩ | ⟨h1,h2⟩
 ·exact .of_left (intBits_le_64 h1 h2)
 ·exact .of_right (intBits_le_64 h1 h2)
theorem Fy:OpR X (binaryOp .Add) (rI0 λi j=>.int (i+j)):=Amg λ_ _ _ _ _ _ _ q=>add_int q
theorem JS:OpR X (binaryOp .Sub) (rI0 λi j=>.int (i-j)):=Amg λ_ _ _ _ _ _ _ q=>sub_int q
theorem Gp:OpR X (binaryOp .Mult) (rI AkI λi j=>.int (i*j)):=opI λ_ _ _ _ _ _ _ hc q=>mul_int q hc.ok
theorem Fz:OpR X (binaryOp .FloorDiv) (rI AnF λi j=>.int (i / j)):=opI λi j _ _ _ _ _ hc q=>by
 have h1:(0:Int)<j:=hc.1
 have h2:j<1073741824:=hc.2
 exact floordiv_int (by omega) (by rw[Int.fdiv_eq_ediv_of_nonneg i (by omega)];exact q) (.inl (PyProof.noPylong_small (by omega)))
theorem Dz:OpR X (binaryOp .Mod) (rI (λ_ j=>0<j) λi j=>.int (i%j)):=opI λi j _ _ _ _ _ hc q=>by
 have h1:(0:Int)<j:=hc
 exact mod_int' (by omega) (by rw[Int.fmod_eq_emod_of_nonneg i (by omega)];exact q)
theorem unI{f:Value->Sem Value}{g:Int->Int}
  (rule:∀(i:Int) (t:Tok) (s:Shared) (Q:Value->Shared->Prop) (E:Value->Shared->Prop),Q (.int (g i) s.toks) { s with toks:=s.toks+1 }->wpAny (model X.prog X.w) X.A (f (.int i t)) Q E s) :
  UnR X f (rU λi=>.int (g i)):=by
 intro pins s σ H x v Q I rx h
 obtain⟨i,rfl,q⟩:=h
 obtain⟨t,rfl⟩:=rx
 exact rule i t s _ _ ⟨.int (g i),H,I.tok _,⟨_,rfl⟩,q⟩
theorem XM:UnR X (unaryOp .USub) (rU λi=>.int (-i)):=unI λ_ _ _ _ _ q=>neg_int q
end
def Amh:V->V->Bool
 | .non,.non=>true | .non,.int _=>true | .int _,.non=>true | .non,.bl _=>true | .bl _,.non=>true | .non,.str _=>true | .str _,.non=>true
 | .int _,.int _=>true | .bl _,.bl _=>true | .str _,.str _=>true | .byt _,.byt _=>true
 | .int _,.str _=>true | .str _,.int _=>true | .bl _,.str _=>true | .str _,.bl _=>true
 | _,_=>false
def rEq:R2:=λx y H Q=>Amh x y=true/\Q (.bl (decide (x=y))) H
def rNe:R2:=λx y H Q=>Amh x y=true/\Q (.bl (!decide (x=y))) H
theorem AeB{i j:Int}:decide (V.int i=V.int j)=(i == j):=by
 rw[Aqq]
 simp
theorem AgI{i j:Bool}:decide (V.bl i=V.bl j)=(i == j):=by
 rw[Aqq]
 simp
theorem AeC{i j:Str}:decide (V.str i=V.str j)=(i == j):=by
 rw[Aqq]
 simp
theorem AeD{i j:Array UInt8}:decide (V.byt i=V.byt j)=(i.toList == j.toList):=by
 rw[Aqq]
 cases i
 cases j
 simp
section
variable {X:Cx}{a b c:Expr}{ta tb tc:TE}{pos:Pos}
theorem CW{pins:List (Addr × Obj)}{σ:St}{H:Hp}{s:Shared}{Q:VK}{k k':Bool}(I:Inv X pins σ H s)(q:Q (.bl k) H)(e:k=k'):EP X pins σ Q (.bool k') s:=by
 subst e
 exact⟨.bl k,H,I,rfl,q⟩
theorem Cu:OpR X (compareOp .Eq) rEq:=by
 intro pins s σ H x y v u Q I rx ry h
 obtain⟨hs,q⟩:=h
 cases x with
 | non =>
  cases rx
  cases y with
  | non=>cases ry;exact PySem.EqNone.eq_none_none (CW I q (by simp))
  | bl j=>cases ry;exact PySem.EqNone.eq_none_bool (CW I q (by simp))
  | int j=>obtain⟨t',rfl⟩:=ry;exact PySem.EqNone.eq_none_int (CW I q (by simp))
  | str j=>obtain⟨t',rfl⟩:=ry;exact PySem.EqNone.eq_none_str (CW I q (by simp))
  | _=>exact absurd (show false=true from hs) Ap5
 | bl i =>
  cases rx
  cases y with
  | non=>cases ry;exact PySem.EqNone.eq_bool_none (CW I q (by simp))
  | bl j=>cases ry;exact eq_bool (CW I q AgI)
  | str j=>obtain⟨t',rfl⟩:=ry;exact PySem.EqMixed.eq_bool_str (CW I q (by simp))
  | _=>exact absurd (show false=true from hs) Ap5
 | int i =>
  obtain⟨t,rfl⟩:=rx
  cases y with
  | non=>cases ry;exact PySem.EqNone.eq_int_none (CW I q (by simp))
  | int j=>obtain⟨t',rfl⟩:=ry;exact eq_int (CW I q AeB)
  | str j=>obtain⟨t',rfl⟩:=ry;exact PySem.EqMixed.eq_int_str (CW I q (by simp))
  | _=>exact absurd (show false=true from hs) Ap5
 | str i =>
  obtain⟨t,rfl⟩:=rx
  cases y with
  | non=>cases ry;exact PySem.EqNone.eq_str_none (CW I q (by simp))
  | bl j=>cases ry;exact PySem.EqMixed.eq_str_bool (CW I q (by simp))
  | int j=>obtain⟨t',rfl⟩:=ry;exact PySem.EqMixed.eq_str_int (CW I q (by simp))
  | str j=>obtain⟨t',rfl⟩:=ry;exact eq_str (CW I q AeC)
  | _=>exact absurd (show false=true from hs) Ap5
 | byt i =>
  obtain⟨t,rfl⟩:=rx
  cases y with
  | byt j=>obtain⟨t',rfl⟩:=ry;exact W.eq_bytes (CW I q AeD)
  | _=>exact absurd (show false=true from hs) Ap5
 | _=>cases y <;> exact absurd (show false=true from hs) Ap5
theorem Jg:OpR X (compareOp .NotEq) rNe:=by
 intro pins s σ H x y v u Q I rx ry h
 obtain⟨hs,q⟩:=h
 cases x with
 | non =>
  cases rx
  cases y with
  | non=>cases ry;exact PySem.EqNone.ne_none_none (CW I q (by simp))
  | bl j=>cases ry;exact PySem.EqNone.ne_none_bool (CW I q (by simp))
  | int j=>obtain⟨t',rfl⟩:=ry;exact PySem.EqNone.ne_none_int (CW I q (by simp))
  | str j=>obtain⟨t',rfl⟩:=ry;exact PySem.EqNone.ne_none_str (CW I q (by simp))
  | _=>exact absurd (show false=true from hs) Ap5
 | bl i =>
  cases rx
  cases y with
  | non=>cases ry;exact PySem.EqNone.ne_bool_none (CW I q (by simp))
  | bl j=>cases ry;exact ne_bool (CW I q (congrArg not AgI))
  | str j=>obtain⟨t',rfl⟩:=ry;exact PySem.EqMixed.ne_bool_str (CW I q (by simp))
  | _=>exact absurd (show false=true from hs) Ap5
 | int i =>
  obtain⟨t,rfl⟩:=rx
  cases y with
  | non=>cases ry;exact PySem.EqNone.ne_int_none (CW I q (by simp))
  | int j=>obtain⟨t',rfl⟩:=ry;exact ne_int (CW I q (congrArg not AeB))
  | str j=>obtain⟨t',rfl⟩:=ry;exact PySem.EqMixed.ne_int_str (CW I q (by simp))
  | _=>exact absurd (show false=true from hs) Ap5
 | str i =>
  obtain⟨t,rfl⟩:=rx
  cases y with
  | non=>cases ry;exact PySem.EqNone.ne_str_none (CW I q (by simp))
  | bl j=>cases ry;exact PySem.EqMixed.ne_str_bool (CW I q (by simp))
  | int j=>obtain⟨t',rfl⟩:=ry;exact PySem.EqMixed.ne_str_int (CW I q (by simp))
  | str j=>obtain⟨t',rfl⟩:=ry;exact ne_str (CW I q (congrArg not AeC))
  | _=>exact absurd (show false=true from hs) Ap5
 | byt i =>
  obtain⟨t,rfl⟩:=rx
  cases y with
  | byt j=>obtain⟨t',rfl⟩:=ry;exact W.ne_bytes (CW I q (congrArg not AeD))
  | _=>exact absurd (show false=true from hs) Ap5
 | _=>cases y <;> exact absurd (show false=true from hs) Ap5
theorem Kz:OpR X (compareOp .Lt) (rI0 λi j=>.bl (decide (i<j))):=AiR λ_ _ _ _ _ _ _ q=>lt_int q
theorem Akn:OpR X (compareOp .LtE) (rI0 λi j=>.bl (decide (i<=j))):=AiR λ_ _ _ _ _ _ _ q=>le_int q
theorem Ht:OpR X (compareOp .Gt) (rI0 λi j=>.bl (decide (j<i))):=AiR λ_ _ _ _ _ _ _ q=>gt_int q
theorem Ako:OpR X (compareOp .GtE) (rI0 λi j=>.bl (decide (j<=i))):=AiR λ_ _ _ _ _ _ _ q=>ge_int q
theorem Vu:OpR X (compareOp .In) (λx y H Q=>∃ i j,x=.str i/\y=.str j/\Q (.bl (!(Builtin.Str.occurrences j i 0 j.length 1).isEmpty)) H):=by
 intro pins s σ H x y v u Q I rx ry h
 obtain⟨i,j,rfl,rfl,q⟩:=h
 obtain⟨t,rfl⟩:=rx
 obtain⟨t',rfl⟩:=ry
 exact in_str (CW I q rfl)
theorem AgJ:OpR X (compareOp .Is) (λx y H Q=>y=.non/\Q (.bl (decide (x=.non))) H):=by
 intro pins s σ H x y v u Q I rx ry h
 obtain⟨rfl,q⟩:=h
 cases ry
 refine is_none_gen (CW I q ?_)
 cases x <;> first
  | (cases rx;rfl)
  | (obtain⟨t,rfl⟩:=rx;rfl)
theorem Th:OpR X (compareOp .NotIn) (λx y H Q=>∃ i j,x=.str i/\y=.str j/\Q (.bl (!(!(Builtin.Str.occurrences j i 0 j.length 1).isEmpty))) H):=by
 intro pins s σ H x y v u Q I rx ry h
 obtain⟨i,j,rfl,rfl,q⟩:=h
 obtain⟨t,rfl⟩:=rx
 obtain⟨t',rfl⟩:=ry
 exact notIn_str (CW I q rfl)
def isObj:HO->Bool
 | .lst _=>true
 | .ins _ _ _=>true
 | _=>false
theorem Am(b:Expr){op:CmpOp}(h:op≠.In:=by decide)(h2:op≠.NotIn:=by decide):behindInMarks op b=false:=by
 have e1:(op == CmpOp.In)=false:=by cases op <;> first | rfl | exact absurd rfl h
 have e2:(op == CmpOp.NotIn)=false:=by cases op <;> first | rfl | exact absurd rfl h2
 cases b <;> simp[behindInMarks,e1,e2]
theorem DX{op:CmpOp}{r:R2}(ho:OpR X (compareOp op) r)(ha:PE X a ta)(hb:PE X b tb)(hm:behindInMarks op b=false):PE X (.Compare a [op] [b] pos) (tOp r ta tb):=by
 intro pins s σ H Q I h
 exact wpAny_Compare1 (AkH ha hb I h λv u s2 x y H2 I2 rx ry q=>ho pins s2 σ H2 x y v u Q I2 rx ry q) hm
def Ami (t:TE):TT:=λσ H Q=>t σ H λx H'=>∃ k,x=.bl k/\Q k H'
theorem Aj{op:CmpOp}{r:R2}(ho:OpR X (compareOp op) r)(ha:PE X a ta)(hb:PE X b tb)(hm:behindInMarks op b=false):PT X (.Compare a [op] [b] pos) (Ami (tOp r ta tb)):=by
 intro pins s σ H Q I h
 refine wpAny_isTrue_Compare1 (thn (ha pins s σ H _ I h) λv s1 ⟨x,H1,I1,r1,q1⟩=>thn (hb pins s1 σ H1 _ I1 q1) λu s2 ⟨y,H2,I2,r2,q2⟩ =>
  thn (ho pins s2 σ H2 x y v u _ I2 r1 r2 q2) λc s3 ⟨z,H3,I3,r3,k,e,q3⟩=>?_) hm
 subst e
 cases r3
 exact wpAny_truthy_bool ⟨H3,I3,q3⟩
def AnG (r r':R2)(ta tb tc:TE):TE:=λσ H Q=>ta σ H λx H1=>tb σ H1 λy H2=>r x y H2 λz H3=>∃ k,z=.bl k /\
 (if k=true then tc σ H3 λw' H4=>r' y w' H4 Q else Q (.bl false) H3)
def AkJ (K:W.Frag)(x:V)(H:Hp)(k:Bool):Prop :=
 match x with
 | .non=>k=false
 | .bl b=>k=b
 | .int i=>k=(i != 0)
 | .str y=>y.length<=sizeLine/\k=((y.length:Int) != 0)
 | .byt y=>y.size<=sizeLine/\k=((y.size:Int) != 0)
 | .ref p=>(∃ xs,SqL K H p xs/\k=!xs.isEmpty)\/(∃ xs,SqT K H p xs/\k=!xs.isEmpty)\/∃ kvs,H p=some (.dK kvs)/\k=!kvs.isEmpty
 | _=>False
theorem AdJ{κ:Type}{kvs:List (κ × V)}{vs:List (κ × Value)}(r:KV kvs vs):(!vs.isEmpty)=!kvs.isEmpty:=by
 cases r <;> rfl
theorem XN{xs:List V}{its:List Value}(r:Vals xs its):(!its.toArray.isEmpty)=!xs.isEmpty:=by
 cases r <;> simp
theorem Vv:(sizeLine:Nat)<2 ^ 63:=by rw[sizeLine_eq];decide
theorem AkK:AnE X (λx H Q=>∃ k,AkJ X.K x H k/\Q k H):=by
 intro pins s σ H x v Q I rx h
 obtain⟨k,e,q⟩:=h
 have hl:=Vv
 have hs:sizeLine=16777216:=sizeLine_eq
 cases x with
 | non =>
  cases rx
  have e':k=false:=e
  subst e'
  exact truthy_none ⟨H,I,q⟩
 | bl b =>
  cases rx
  have e':k=b:=e
  subst e'
  exact wpAny_truthy_bool ⟨H,I,q⟩
 | int i =>
  obtain⟨t,rfl⟩:=rx
  have e':k=(i != 0):=e
  subst e'
  exact PySem.P.truthy_int ⟨H,I,q⟩
 | str y =>
  obtain⟨t,rfl⟩:=rx
  obtain⟨hy,e'⟩:y.length<=sizeLine/\k=((y.length:Int) != 0):=e
  subst e'
  exact PySem.P.truthy_str (by omega) ⟨H,I.tok _,q⟩
 | byt y =>
  obtain⟨t,rfl⟩:=rx
  obtain⟨hy,e'⟩:y.size<=sizeLine/\k=((y.size:Int) != 0):=e
  subst e'
  exact W.truthy_bytes (by omega) ⟨H,I.tok _,q⟩
 | ref p =>
  cases rx
  have e':(∃ xs,SqL X.K H p xs/\k=!xs.isEmpty)\/(∃ xs,SqT X.K H p xs/\k=!xs.isEmpty)\/∃ kvs,H p=some (.dK kvs)/\k=!kvs.isEmpty:=e
  rcases e' with ⟨xs,hx,e'⟩ | ⟨xs,hx,e'⟩ | ⟨kvs,hx,e'⟩
  ·subst e'
   obtain⟨its,r,pl,hz⟩:=I.list hx
   have hlen:=r.length
   exact wpAny_truthy_list pl.isList (by simp only [Ap3];omega) ⟨H,I.tok _,by rw[XN r];exact q⟩
  ·subst e'
   obtain⟨its,r,pl,hz⟩:=I.tuple hx
   have hlen:=r.length
   exact truthy_tuple pl (by simp only [Ap3];omega) ⟨H,I.tok _,by rw[XN r];exact q⟩
  ·subst e'
   obtain⟨hz,hS,vs,r,m⟩:kvs.length<=sizeLine/\(p == sysModules)=false/\∃ vs,KV kvs vs/\s.heap.DictOf (Abj X.prog X.w) p vs:=I.hok p _ hx
   have hlen:kvs.length=vs.length:=Paired.length r
   exact wpAny_truthy_dict hS m (by omega) ⟨H,I.tok _,by rw[AdJ r];exact q⟩
 | _=>exact(show False from e).elim
theorem AgK(ha:PE X a ta)(he:∀ whole,isTrue a X.env whole=(do let v <- whole;standAt a.pos;holding [v] (truthy v))) :
  PT X a (λσ H Q=>ta σ H λx H'=>∃ k,AkJ X.K x H' k/\Q k H'):=by
 intro pins s σ H Q I h
 exact isTrue_plain (thn (ha pins s σ H _ I h) λv s1 ⟨x,H1,I1,r1,q1⟩=>AkK pins s1 σ H1 x v Q I1 r1 q1) (he _)
theorem Bg:OpR X (binaryOp .Add) (λx y H Q=>∃ i j,x=.str i/\y=.str j/\i.length+j.length<=sizeLine/\Q (.str (i++j)) H):=by
 intro pins s σ H x y v u Q I rx ry h
 obtain⟨i,j,rfl,rfl,hz,q⟩:=h
 obtain⟨t,rfl⟩:=rx
 obtain⟨t',rfl⟩:=ry
 exact add_str (λt' tk=>⟨.str (i++j),H,I.tok _,⟨_,rfl⟩,q⟩) hz
def Amj (b:Expr):Prop:=∀ o i,subscripted b false o i=operate [o,i] (getItem o i)
theorem vals1{x:V}{us:List Value}(r:Vals [x] us):∃ u,us=[u]/\RelV x u:=by
 cases r with
 | cons r1 r2=>cases r2;exact⟨_,rfl,r1⟩
theorem LC:JC X (.type "int") (λxs H Q=>(∃ i,xs=[.int i]/\Q (.int i) H)\/∃ k,xs=[.bl k]/\Q (.int (if k then 1 else 0)) H):=by
 intro pins s σ H xs us Q I r h
 rcases h with ⟨i,rfl,q⟩ | ⟨k,rfl,q⟩
 ·obtain⟨u,rfl,t,rfl⟩:=vals1 r
  exact call_int_int ⟨.int i,H,I,⟨_,rfl⟩,q⟩
 ·obtain⟨u,rfl,r1⟩:=vals1 r
  cases r1
  exact call_int_bool ⟨.int (if k then 1 else 0),H,I.tok _,⟨_,rfl⟩,q⟩
theorem Di:JC X (.type "str") (λxs H Q=>∃ i,xs=[.int i]/\i.natAbs.log2<1920/\Q (.str (toString i)) H):=by
 intro pins s σ H xs us Q I r h
 obtain⟨i,rfl,hz,q⟩:=h
 obtain⟨u,rfl,t,rfl⟩:=vals1 r
 exact PySem.P.str_of_int hz ⟨.str _,H,I.tok _,⟨_,rfl⟩,q⟩
def AoQ (K:W.Frag)(x:V)(H:Hp)(n:Nat):Prop :=
 match x with
 | .str y=>y.length<=sizeLine/\n=y.length
 | .byt y=>y.size<=sizeLine/\n=y.size
 | .ref p=>(∃ xs,SqL K H p xs/\n=xs.length)\/∃ xs,SqT K H p xs/\n=xs.length
 | _=>False
end
structure AdK (h:Heap) (x dx C:Addr) (mA:Str->Option Value):Prop where
 obj:h.get? x=some (W.instObj C dx)
 ns:h.Ns1 dx mA
 ne:dx≠x
theorem Af5{h:Heap}{dx:Addr}{mA:Str->Option Value}(n:h.Ns1 dx mA):∃ od,h.get? dx=some od/\∀ name,W.lookIn name od=some (mA name):=by
 obtain⟨o,es,ep,ho,hd,hk,_,hm⟩:=n
 refine⟨o,ho,λname=>?_⟩
 have e:=hm name
 unfold nsFind findBy at e
 rw[<- Array.find?_toList] at e
 unfold W.lookIn
 rw[hd]
 dsimp only
 split
 ·rename_i y q
  rw[q] at e
  exact congrArg some e
 ·rename_i q
  rw[q] at e
  have a:es.toList.any (·.refKey)=false:=by
   rw[List.any_eq_false]
   intro y hy
   obtain⟨z,t,hkey⟩:=hk y (Array.mem_toList_iff.mp hy)
   simp[DictEntry.refKey,hkey]
  have a':¬es.toList.any (·.refKey)=true:=by rw[a];exact Ap5
  rw[if_neg a']
  exact congrArg some e
theorem AdK.look{h:Heap}{x dx C:Addr}{mA:Str->Option Value}(I:AdK h x dx C mA):∃ od,W.InstAt h x (W.instObj C dx) C (some od)/\∀ name,W.lookIn name od=some (mA name) :=
 let ⟨od,ho,hl⟩:=Af5 I.ns
 ⟨od,⟨I.obj,rfl,rfl,ho⟩,hl⟩
section
variable {prog:Program}{w:World}{A:Around}{E:Value->Shared->Prop}{s:Shared}{K:W.Frag}{x dx C f:Addr}{mA:Str->Option Value}{name:Str}{v:Value}
theorem get_map{expr:Bool}{Q:Value->Shared->Prop}(X:K.In s.heap)(I:AdK s.heap x dx C mA)(hg:W.plainGet K C name=true)(hh:W.hasDictIn K C=true)
  (ha:W.findIn K (.ref C) name=some none) (hv:mA name=some v) (hv':W.handedIn v=true) (h:Q v { s with toks:=s.toks+1 }) :
  wpAny (model prog w) A (getAttr (.ref x) name expr) Q E s:=by
 obtain⟨od,J,hl⟩:=I.look
 exact W.get_value X J (W.plainGet_of hg).1 (W.findObj_own hh ha rfl (by rw[hl,hv])) hv' h
theorem AgL{pl:Sem Bool}{Q:Value × List Value->Shared->Prop}(X:K.In s.heap)(I:AdK s.heap x dx C mA)(hg:W.plainGet K C name=true)
  (hf:W.findIn K (.ref C) name=some (some (.ref f))) (ht:W.isFn K (.ref f)=true) (hv:mA name=none) (h:Q (.ref f,[.ref x]) s) :
  wpAny (model prog w) A (getMethod (.ref x) name pl) Q E s:=by
 obtain⟨od,J,hl⟩:=I.look
 exact W.method_fn X J (W.plainGet_of hg).1 (W.plainGet_of hg).2 hf (beq_iff_eq.mp ht) (by show(W.lookIn name od).map (·.isSome)=some false;rw[hl,hv];rfl) h
theorem AiS{ns:List Str}{Q:Unit->Shared->Prop}(X:K.In s.heap)(I:AdK s.heap x dx C mA)
  (hs:W.findIn K (.ref C) "__setattr__" = some (some (.builtin "object.__setattr__"))) (hp:W.plainOver K C=true) (ht:W.takerIn K C name=some none) (hh:W.hasDictIn K C=true)
  (hw:PySem.Within mA ns) (hsz:ns.length<=sizeLine)
  (h:∀ h',AdK h' x dx C (λy=>if y=name then some v else mA y)->Heap.SameBut dx s.heap h'->Q () { s with heap:=h',toks:=s.toks+2 }) :
  wpAny (model prog w) A (setAttr (.ref x) name v) Q E s:=by
 obtain⟨od,J,hl⟩:=I.look
 refine W.set_plain X J hs (W.osa_open (s:={ s with toks:=s.toks+1 }) (r:=none) X J hp ht λb=>?_)
 obtain⟨cd,hc,hd'⟩:=W.any_some hh
 have hx:s.heap.get? x=some ⟨.ref C,some dx,.plain,#[]⟩:=I.obj
 refine wpAny_bind (wpAny_pure (wpAny_bind (wpAny_bind (wpAny_loadPart hx (wpAny_bind (W.Looks.here (s:={ s with toks:=s.toks+1 }) (W.looks_clsIn X hc) ?_))))))
 rw[hd']
 refine wpAny_pure (a:=some dx) (wpAny_bind (wpAny_pure (wpAny_bind ?_)))
 refine wpAny_nsSet1 (s:={ s with toks:=s.toks+1 }) I.ns λh' hn2 hs2=>?_
 obtain⟨oD,esD,epD,hoD,hdD,hcD⟩:=hn2.count (PySem.Within.cons name v hw)
 refine wpAny_bind (wpAny_lookBehind hoD (by rw[hdD];exact pastItsLine_dict (ApF hcD (by rw[Apt];omega))) ?_)
 exact wpAny_pure (h _ ⟨(hs2.2 _ (Ne.symm I.ne)).trans I.obj,hn2,I.ne⟩ hs2)
theorem AgM{R:Result->Shared->Prop}{vs:List Value}{kw:List (Str × Value)}(X:K.In s.heap)(hm:W.makesIn K C=true)
  (hi:W.findIn K (.ref C) "__init__" = some (some (.ref f))) (hf:W.typeIn K (.ref f)=some (.type "function"))
  (h:codeAny (model prog w) (A.under (.builtin "type.__call__" ⟨.ref C::vs,kw⟩)) (.call (.ref f) ⟨.ref (s.heap.objs.size+1)::vs,kw⟩) (W.InitBack (s.heap.objs.size+1) R)
   { s with heap:=(s.heap.push W.emptyDict).push (W.instObj C s.heap.objs.size) }) :
  codeAny (model prog w) A (.call (.ref C) ⟨vs,kw⟩) R s:=by
 obtain⟨hh,g,d,t,os⟩:=s
 exact W.make_core (W.makes_of X hm) (W.looks_findIn X hi) (λself=>W.bind_fn X self hf) (.inl rfl) h
end
def Ni (f:Str)(v:V):List (Str × V)->List (Str × V)
 | []=>[(f,v)]
 | (g,x)::r=>if g=f then (g,v)::r else (g,x)::Ni f v r
theorem Wj(f g:Str)(v:V):∀ fs:List (Str × V),(Ni f v fs).lookup g=if g=f then some v else fs.lookup g
 | []=>by
  show List.lookup g [(f,v)]=_
  by_cases h:g=f
  ·have hb:(g == f)=true:=beq_iff_eq.mpr h
   simp only [List.lookup,hb,if_pos h]
  ·have hb:(g == f)=false:=beq_eq_false_iff_ne.mpr h
   simp only [List.lookup,hb,if_neg h]
 | (k,x)::r=>by
  have ih:=Wj f g v r
  rw[show Ni f v ((k,x)::r)=(if k=f then (k,v)::r else (k,x)::Ni f v r) from rfl]
  by_cases hk:k=f
  ·rw[if_pos hk]
   by_cases h:g=k
   ·have hb:(g == k)=true:=beq_iff_eq.mpr h
    simp only [List.lookup,hb,if_pos (h.trans hk)]
   ·have hb:(g == k)=false:=beq_eq_false_iff_ne.mpr h
    simp only [List.lookup,hb,if_neg (λe:g=f=>h (e.trans hk.symm))]
  ·rw[if_neg hk]
   by_cases h:g=k
   ·have hb:(g == k)=true:=beq_iff_eq.mpr h
    simp only [List.lookup,hb,if_neg (λe:g=f=>hk (h.symm.trans e))]
   ·have hb:(g == k)=false:=beq_eq_false_iff_ne.mpr h
    simp only [List.lookup,hb]
    exact ih
theorem Vw(f:Str)(v:V):∀ fs:List (Str × V),f∈(Ni f v fs).map (·.1)/\∀ g,g∈fs.map (·.1)->g∈(Ni f v fs).map (·.1)
 | []=>⟨by simp[Ni],λg h=>by simp at h⟩
 | (k,x)::r=>by
  obtain⟨i1,i2⟩:=Vw f v r
  rw[show Ni f v ((k,x)::r)=(if k=f then (k,v)::r else (k,x)::Ni f v r) from rfl]
  by_cases hk:k=f
  ·rw[if_pos hk]
   subst hk
   exact⟨by simp,λg h=>by simpa using h⟩
  ·rw[if_neg hk]
   refine⟨?_,λg h=>?_⟩
   ·rw[Apw]
    exact Ap7 _ i1
   ·rw[Apw] at h ⊢
    rcases List.mem_cons.mp h with e | e
    ·exact List.mem_cons.mpr (.inl e)
    ·exact Ap7 _ (i2 g e)
theorem Wk(f:Str)(v:V):∀ fs:List (Str × V),(Ni f v fs).length<=fs.length+1
 | []=>by simp[Ni]
 | (k,x)::r=>by
  have ih:=Wk f v r
  rw[show Ni f v ((k,x)::r)=(if k=f then (k,v)::r else (k,x)::Ni f v r) from rfl]
  by_cases hk:k=f
  ·rw[if_pos hk,Apt,Apt];omega
  ·rw[if_neg hk,Apt,Apt];omega
theorem ZF.some_of{v:V}{o:Option Value}(r:ZF (some v) o):∃ u,o=some u/\RelV v u:=by
 cases o with
 | none=>exact(show False from r).elim
 | some u=>exact⟨u,rfl,r⟩
theorem ZF.none_of{o:Option Value}(r:ZF none o):o=none:=by
 cases o with
 | none=>rfl
 | some u=>exact(show False from r).elim
theorem Af6{v:V}{u:Value}(r:RelV v u):W.handedIn u=true:=by
 cases v with
 | non=>cases (show u=Value.none from r);rfl
 | bl b=>cases (show u=Value.bool b from r);rfl
 | int i=>obtain⟨t,e⟩:=(show ∃ t,u=Value.int i t from r);cases e;rfl
 | str x=>obtain⟨t,e⟩:=(show ∃ t,u=Value.str x t from r);cases e;rfl
 | byt b=>obtain⟨t,e⟩:=(show ∃ t,u=Value.bytes b t from r);cases e;rfl
 | flt b=>obtain⟨t,e⟩:=(show ∃ t,u=Value.float b t from r);cases e;rfl
 | ref a=>cases (show u=Value.ref a from r);rfl
 | ty n=>cases (show u=Value.type n from r);rfl
section
variable {P:Program}{w:World}{H H':Hp}{h h':Heap}{a C dx:Addr}{fs fs':List (Str × V)}
theorem Xv(hok:HOk P w H h)(e:H a=some (.ins C dx fs)):∃ mA,AdK h a dx C mA/\(∀ f,ZF (fs.lookup f) (mA f))/\PySem.Within mA (fs.map (·.1))/\fs.length<=1000/\H dx=some (.own a):=by
 obtain⟨d,z,ne,ob,mA,n,r,q⟩:=(show GJ P w H h a (.ins C dx fs) from hok a _ e)
 exact⟨mA,⟨ob,n,ne⟩,r,q,z,d⟩
end
structure Cls (K:W.Frag) (C:Addr):Prop where
 pg:W.plainGet K C Str.empty=true
 hd:W.hasDictIn K C=true
 po:W.plainOver K C=true
 sa:W.findIn K (.ref C) "__setattr__" = some (some (.builtin "object.__setattr__"))
theorem Cls.get{K:W.Frag}{C:Addr}(c:Cls K C)(f:Str):W.plainGet K C f=true:=c.pg
def Cg (K:W.Frag)(C:Addr)(f:Str):Prop:=W.findIn K (.ref C) f=some none
theorem Cg.taker{K:W.Frag}{C:Addr}{f:Str}(n:Cg K C f):W.takerIn K C f=some none:=by
 unfold W.takerIn
 rw[show W.findIn K (.ref C) f=some none from n]
 rfl
structure Con (K:W.Frag) (C:Addr) (f:Str) (v:V) (u:Value):Prop where
 at_:W.findIn K (.ref C) f=some (some u)
 rel:RelV v u
 get:W.specialIn K u "__get__" = some none
 cp:W.copiedNames.contains f=false
structure Meth (K:W.Frag) (C:Addr) (m:Str) (f:Addr):Prop where
 at_:W.findIn K (.ref C) m=some (some (.ref f))
 fn:W.isFn K (.ref f)=true
 kp:W.keepIn K (.ref f)=true
section
variable {X:Cx}{pins:List (Addr × Obj)}{σ:St}{H:Hp}{s:Shared}{a C dx:Addr}{fs:List (Str × V)}{f:Str}{v:V}{A:Around}{E:Value->Shared->Prop}
theorem XQ{b:Bool}{Q:Value->Shared->Prop}(I:Inv X pins σ H s)(e:H a=some (.ins C dx fs))(c:Cls X.K C)(n:Cg X.K C f)(l:fs.lookup f=some v)
  (h:∀ u s',Inv X pins σ H s'->RelV v u->Q u s'):wpAny (model X.prog X.w) A (getAttr (.ref a) f b) Q E s:=by
 obtain⟨mA,O,r,_,_,_⟩:=Xv I.hok e
 obtain⟨u,hu,ru⟩:=ZF.some_of (v:=v) (o:=mA f) (by rw[<- l];exact r f)
 exact get_map I.kIn O (c.get f) c.hd n hu (Af6 ru) (h u _ (I.tok _) ru)
theorem Nj{m:Str}{g:Addr}{pl:Sem Bool}{Q:Value × List Value->Shared->Prop}(I:Inv X pins σ H s)(e:H a=some (.ins C dx fs))(c:Cls X.K C)(k:Meth X.K C m g)(l:fs.lookup m=none)
  (h:Q (.ref g,[.ref a]) s):wpAny (model X.prog X.w) A (getMethod (.ref a) m pl) Q E s:=by
 obtain⟨mA,O,r,_,_,_⟩:=Xv I.hok e
 have hn:mA m=none:=ZF.none_of (by rw[<- l];exact r m)
 exact AgL I.kIn O (c.get m) k.at_ k.fn hn h
theorem XR{y:V}{u:Value}{Q:Unit->Shared->Prop}(I:Inv X pins σ H s)(e:H a=some (.ins C dx fs))(c:Cls X.K C)(n:Cg X.K C f)(hl:fs.length<1000)(ry:RelV y u)
  (h:∀ s',Inv X pins σ (upd H a (.ins C dx (Ni f y fs))) s'->Q () s'):wpAny (model X.prog X.w) A (setAttr (.ref a) f u) Q E s:=by
 obtain⟨mA,O,r,wi,_,ho⟩:=Xv I.hok e
 have hz:(fs.map (·.1)).length<=sizeLine:=by rw[Apq,sizeLine_eq];omega
 refine AiS I.kIn O c.sa c.po n.taker c.hd wi hz λh' O' sb=>h _ ?_
 have hd:∃ o,h'.get? dx=some o:=let ⟨o,_,_,e',_⟩:=O'.ns;⟨o,e'⟩
 refine I.write (x:=a) (e:=dx) (by rw[e];exact True.intro) (.inr ho) (λb q hb z=>(sb.2 b hb).trans z) hd ?_
 refine⟨by rw[Ao O.ne];exact ho,?_,O.ne,O'.obj,_,O'.ns,λg=>?_,λg hg=>?_⟩
 ·have:=Wk f y fs;omega
 ·show ZF ((Ni f y fs).lookup g) (if g=f then some u else mA g)
  rw[Wj]
  by_cases q:g=f
  ·rw[if_pos q,if_pos q];exact ry
  ·rw[if_neg q,if_neg q];exact r g
 ·by_cases q:g=f
  ·rw[q];exact(Vw f y fs).1
  ·refine(Vw f y fs).2 g (wi g λz=>hg ?_)
   show(if g=f then some u else mA g)=none
   rw[if_neg q];exact z
theorem Inv.made(I:Inv X pins σ H s):Inv X pins σ (upd (upd H s.heap.objs.size (.own (s.heap.objs.size+1))) (s.heap.objs.size+1) (.ins C s.heap.objs.size []))
  { s with heap:=(s.heap.push W.emptyDict).push (W.instObj C s.heap.objs.size) }:=by
 have e1:(s.heap.push W.emptyDict).get? s.heap.objs.size=some W.emptyDict:=Heap.get?_push_size s.heap rfl
 have e2:((s.heap.push W.emptyDict).push (W.instObj C s.heap.objs.size)).get? (s.heap.objs.size+1)=some (W.instObj C s.heap.objs.size):=by
  have:=Heap.get?_push_size (s.heap.push W.emptyDict) (o:=W.instObj C s.heap.objs.size) rfl
  rwa [Heap.size_push] at this
 have e3:(s.heap.push W.emptyDict).Ns s.heap.objs.size (λ_=>none):=⟨W.emptyDict,#[],_,e1,rfl,(λe he=>absurd he (by simp)),λ_=>rfl⟩
 have I1:=I.laid (a:=s.heap.objs.size) (o:=.own (s.heap.objs.size+1)) (h':=s.heap.push W.emptyDict) (t':=s.toks) (λb u q=>Heap.get?_push_of_some _ q) (Apv _) ⟨_,e1⟩
 refine I1.laid (a:=s.heap.objs.size+1) (o:=.ins C s.heap.objs.size []) (t':=s.toks) (λb u q=>Heap.get?_push_of_some _ q) (Aqe (Heap.size_push _ _)) ?_
 have ne:s.heap.objs.size≠s.heap.objs.size+1:=Apy (Aqk _)
 refine⟨by rw[Ao ne,Ae],Ap8 _,ne,e2,λ_=>none,(Heap.Ns1.of_empty e3).at λo q=>Heap.get?_push_of_some _ q,λ_=>True.intro,λy hy=>absurd rfl hy⟩
theorem AiT{prog:Program}{w:World}{env:Env}{e:Expr}{f:Str}{pos:Pos}{s:Shared}{Q:Value->Shared->Prop}(hb:attributeBase e f env (eval e env)=eval e env)
  (h:wpAny (model prog w) A (eval e env) (λo s₁=>wpAny (model prog w) A (getAttr o f true) Q E s₁) E s):wpAny (model prog w) A (eval (.Attribute e f pos) env) Q E s :=
 Attribute_any_ h (by rw[arm_eval_Attribute,hb])
end
def Amk (K:W.Frag)(ta:TE)(f:Str):TE:=λσ H Q=>ta σ H λx H1=>∃ a C dx fs v,x=.ref a/\H1 a=some (.ins C dx fs)/\Cls K C/\Cg K C f/\fs.lookup f=some v/\Q v H1
def AoR (K:W.Frag)(ta:TE)(f:Str):TE:=λσ H Q=>ta σ H λx H1=>∃ a C dx fs v u,x=.ref a/\H1 a=some (.ins C dx fs)/\Cls K C/\Con K C f v u/\fs.lookup f=none/\Q v H1
def Aml (K:W.Frag)(ta tv:TE)(f:Str):TS:=λD σ H=>tv σ H λy H1=>ta σ H1 λx H2=>∃ a C dx fs,x=.ref a/\H2 a=some (.ins C dx fs)/\Cls K C/\Cg K C f/\fs.length<1000 /\
 D.nx σ (upd H2 a (.ins C dx (Ni f y fs)))
def AkL (X:Cx)(op:Operator)(rd:V->V->Hp->VK->Prop):Prop :=
 ∀(pins:List (Addr × Obj)) (s:Shared) (σ:St) (H:Hp) (x y:V) (u v:Value) (Q:VK),Inv X pins σ H s->RelV x u->RelV y v->rd x y H Q->wpAny (model X.prog X.w) X.A (inplaceOp op u v) (EP X pins σ Q) X.xe s
def AeE (K:W.Frag)(ta tv:TE)(rd:V->V->Hp->VK->Prop)(f:Str):TS:=λD σ H=>ta σ H λx H1=>∃ a C dx fs v,x=.ref a/\H1 a=some (.ins C dx fs)/\Cls K C/\Cg K C f/\fs.lookup f=some v /\
 tv σ H1 λy H2=>rd v y H2 λz H3=>∃ dx' fs',H3 a=some (.ins C dx' fs')/\fs'.length<1000/\D.nx σ (upd H3 a (.ins C dx' (Ni f z fs')))
section
variable {X:Cx}{o e value:Expr}{f:Str}{pos pos' tpos:Pos}{ta tv:TE}
theorem AkM(he:PE X e ta)(hb:attributeBase e f X.env (eval e X.env)=eval e X.env):PE X (.Attribute e f pos) (Amk X.K ta f):=by
 intro pins s σ H Q I h
 refine AiT hb (thn (he pins s σ H _ I h) λu s1 ⟨x,H1,I1,rx,a,C,dx,fs,v,ex,ea,c,n,l,q⟩=>?_)
 subst ex
 obtain rfl:u=Value.ref a:=rx
 exact XQ I1 ea c n l λu' s2 I2 ru=>⟨v,H1,I2,ru,q⟩
theorem AkN(ha:PE X o ta)(hv:PE X value tv)(hs:swapsWith value (some (.Attribute o f pos')) pos.line X.env=pure false):PS X (.Assign [.Attribute o f pos'] value pos) (Aml X.K ta tv f):=by
 intro pins s σ H D I h
 refine plainObj_wpAny_Assign_Attribute (thn (hv pins s σ H _ I h) λu s1 ⟨y,H1,I1,ry,q⟩=>thn (ha pins s1 σ H1 _ I1 q) λov s2 ⟨x,H2,I2,rx,a,C,dx,fs,ex,ea,c,n,l,q2⟩=>?_) hs
 subst ex
 obtain rfl:ov=Value.ref a:=rx
 exact XR I2 ea c n l ry λs3 I3=>⟨σ,_,I3,q2⟩
theorem Af7{op:Operator}{rd:V->V->Hp->VK->Prop}(ha:PE X o ta)(hv:PE X value tv)(hop:AkL X op rd):PS X (.AugAssign (.Attribute o f tpos) op value pos) (AeE X.K ta tv rd f):=by
 intro pins s σ H D I h
 refine wpAny_AugAssign_AttributeAny (thn (ha pins s σ H _ I h) λov s1 ⟨x,H1,I1,rx,a,C,dx,fs,v,ex,ea,c,n,l,q⟩=>?_)
 subst ex
 obtain rfl:ov=Value.ref a:=rx
 refine XQ I1 ea c n l λu s2 I2 ru=>thn (hv pins s2 σ H1 _ I2 q) λw3 s3 ⟨y,H2,I3,ry,q3⟩=>thn (hop pins s3 σ H2 v y u w3 _ I3 ru ry q3) λw4 s4 ⟨z,H3,I4,rz,dx',fs',ea',l',q4⟩=>?_
 exact XR I4 ea' c n l' rz λs5 I5=>⟨σ,_,I5,q4⟩
def AnH:V->V->Hp->VK->Prop:=λx y H Q=>∃ i j,x=.int i/\y=.int j/\Q (.int (i+j)) H
def AoS:V->V->Hp->VK->Prop:=λx y H Q=>∃ i j,x=.int i/\y=.int j/\Q (.int (i-j)) H
theorem AkO:AkL X .Add AnH:=by
 rintro pins s σ H x y u v Q I rx ry ⟨i,j,rfl,rfl,q⟩
 obtain⟨t,rfl⟩:=(show ∃ t,u=Value.int i t from rx)
 obtain⟨t',rfl⟩:=(show ∃ t',v=Value.int j t' from ry)
 exact PyProof.Rows.iadd_int ⟨.int (i+j),H,I.tok _,⟨_,rfl⟩,q⟩
end
section
variable {X:Cx}{pins:List (Addr × Obj)}{σ:St}{H:Hp}{s:Shared}{A:Around}{E:Value->Shared->Prop}{Q:Value->Shared->Prop}{c:Value}{b:Bool}
inductive Ti (K:W.Frag) (H:Hp):V->Value->Prop where
 | non:Ti K H .non (.type "NoneType")
 | bl (x:Bool):Ti K H (.bl x) (.type "bool")
 | int (i:Int):Ti K H (.int i) (.type "int")
 | str (x:Str):Ti K H (.str x) (.type "str")
 | flt (x:UInt64):Ti K H (.flt x) (.type "float")
 | lst {a:Addr} {xs:List V} (e:H a=some (.lst xs)):Ti K H (.ref a) (.type "list")
 | frz {a:Addr} {o:Obj} {xs:List V} (e:H a=some (.frz o (.lst xs))):Ti K H (.ref a) (.type "list")
 | tup {a:Addr} {xs:List V} (e:H a=some (.tup xs)):Ti K H (.ref a) (.type "tuple")
 | dK {a:Addr} {kvs:List (Key × V)} (e:H a=some (.dK kvs)):Ti K H (.ref a) (.type "dict")
 | dT {a:Addr} {kvs:List (List Key × V)} (e:H a=some (.dT kvs)):Ti K H (.ref a) (.type "dict")
 | ins {a C dx:Addr} {fs:List (Str × V)} (e:H a=some (.ins C dx fs)) (cl:Cls K C) (ha:W.findIn K (.ref C) "__class__" = some (some (.builtin "object.__class__")))
   (hn:W.specialIn K (.builtin "object.__class__") "__get__" = some (some (.builtin "getset_descriptor.__get__"))) (htk:W.takesIn K (.builtin "object.__class__")=some true)
   (hm:W.mroIn K C (.type "object")=some true):Ti K H (.ref a) (.ref C)
theorem Aa6{x:V}{u t:Value}(I:Inv X pins σ H s)(rx:RelV x u)(ty:Ti X.K H x t)(e:W.kitOne X.K t c=some b)(h:∀ tk,Q (.bool b) { s with toks:=tk }) :
  wpAny (model X.prog X.w) A (call (.builtin "isinstance") [u,c]) Q E s:=by
 cases ty with
 | non=>cases (show u=Value.none from rx);exact W.kia_one W.kitx_none I.kIn True.intro e (λz=>nomatch z) h
 | bl y=>cases (show u=Value.bool y from rx);exact W.kia_one W.kitx_bool I.kIn True.intro e (λz=>nomatch z) h
 | int i=>obtain⟨t,q⟩:=(show ∃ t,u=Value.int i t from rx);cases q;exact W.kia_one W.kitx_int I.kIn True.intro e (λz=>nomatch z) h
 | str y=>obtain⟨t,q⟩:=(show ∃ t,u=Value.str y t from rx);cases q;exact W.kia_one W.kitx_str I.kIn True.intro e (λz=>nomatch z) h
 | flt y=>obtain⟨t,q⟩:=(show ∃ t,u=Value.float y t from rx);cases q;exact W.kia_one W.kitx_float I.kIn True.intro e (λz=>nomatch z) h
 | @lst a xs ea =>
  cases (show u=Value.ref a from rx)
  obtain⟨_,_,n,_,h1⟩:=(show GJ X.prog X.w H s.heap a (.lst xs) from I.hok a _ ea)
  exact W.kia_one W.kitx_list I.kIn ⟨_,h1,rfl⟩ e (λz=>nomatch z) h
 | @frz a ob xs ea =>
  cases (show u=Value.ref a from rx)
  obtain⟨_,_,_,n,_,h1⟩:=(show GJ X.prog X.w H s.heap a (.frz ob (.lst xs)) from I.hok a _ ea)
  exact W.kia_one W.kitx_list I.kIn ⟨_,h1,rfl⟩ e (λz=>nomatch z) h
 | @tup a xs ea =>
  cases (show u=Value.ref a from rx)
  obtain⟨_,_,_,p⟩:=(show GJ X.prog X.w H s.heap a (.tup xs) from I.hok a _ ea)
  obtain⟨o,h1,h2,_⟩:=p
  exact W.kia_one W.kitx_tuple I.kIn ⟨o,h1,h2⟩ e (λz=>nomatch z) h
 | @dK a kvs ea =>
  cases (show u=Value.ref a from rx)
  obtain⟨_,_,vs,_,p⟩:=(show GJ X.prog X.w H s.heap a (.dK kvs) from I.hok a _ ea)
  obtain⟨o,es,ep,h1,h2,_⟩:=p
  exact W.kia_one W.kitx_dict I.kIn ⟨o,h1,h2.1⟩ e (λz=>nomatch z) h
 | @dT a kvs ea =>
  cases (show u=Value.ref a from rx)
  obtain⟨_,_,xs,_,o,es,ep,h1,h2,_⟩:=(show GJ X.prog X.w H s.heap a (.dT kvs) from I.hok a _ ea)
  exact W.kia_one W.kitx_dict I.kIn ⟨o,h1,h2.1⟩ e (λz=>nomatch z) h
 | @ins a C dx fs ea cl ha hn htk hm =>
  cases (show u=Value.ref a from rx)
  obtain⟨mA,O,_⟩:=Xv I.hok ea
  obtain⟨od,J,_⟩:=O.look
  exact W.kia_one (W.kitx_own (cl.get _) cl.hd ha hn htk hm) I.kIn J e (λz=>nomatch z) h
end
structure GK (k:Nat) (A:Around):Prop where
 hd:A.handled=none
 dp:A.depth+3*k+5<recursionLimit
 un:A.units+16*k+200<cLine
theorem GK.mono{j k:Nat}{A:Around}(r:GK k A)(h:j<=k):GK j A:=⟨r.hd,by have:=r.dp;omega,by have:=r.un;omega⟩
theorem GK.deeper{k:Nat}{A:Around}(r:GK (k+1) A)(env:Env):GK k (A.deeper env) :=
 ⟨r.hd,by have:=r.dp;show A.depth+1+3*k+5<_;omega,by have:=r.un;show A.units+3+16*k+200<_;omega⟩
theorem AdL{A:Around}{C:Addr}{us:List Value}{kw:List (Str × Value)}:(A.under (.builtin "type.__call__" ⟨.ref C::us,kw⟩)).depth=A.depth+1:=by
 first | rfl | simp[Around.under,Code.weight,Code.isCreation,Code.isGuard,Code.isCaller,Code.frames,Code.isFrame,guardIds]
theorem AdM{A:Around}{C:Addr}{us:List Value}{kw:List (Str × Value)}:(A.under (.builtin "type.__call__" ⟨.ref C::us,kw⟩)).units=A.units+1:=by
 first | rfl | simp[Around.under,Code.cUnits,Code.frames,Code.isFrame]
theorem GK.make{k:Nat}{A:Around}(r:GK (k+1) A)(C:Addr)(us:List Value)(kw:List (Str × Value)):GK k (A.under (.builtin "type.__call__" ⟨.ref C::us,kw⟩)) :=
 ⟨r.hd,by have:=r.dp;rw[AdL];omega,by have:=r.un;rw[AdM];omega⟩
theorem GK.depth{k:Nat}{A:Around}(r:GK k A):A.depth<recursionLimit:=by have:=r.dp;omega
theorem GK.AkP{k:Nat}{A:Around}(r:GK k A):A.units<cLine:=by have:=r.un;omega
def Amm:TA:=λ_ H Q=>Q [] H
def Amn (ta:TE)(tr:TA):TA:=λσ H Q=>ta σ H λx H1=>tr σ H1 λxs H2=>Q (x::xs) H2
section
variable {X:Cx}{e:Expr}{es:List Expr}{te:TE}{t:TA}{pos:Pos}
theorem Ab:PA X [] Amm:=λ_ _ _ _ H Q I h=>Calls.spliced_nil ⟨[],H,I,.nil,h⟩
theorem Aa(ha:PE X e te)(hr:PA X es t)(hs:starEach (e::es) X.env=(false,eval e X.env)::starEach es X.env:=by rfl):PA X (e::es) (Amn te t):=by
 intro pos pins s σ H Q I h
 rw[hs]
 show wpAny _ _ (spliced ((false,eval e X.env)::backTo pos (starEach es X.env))) _ _ s
 refine Calls.spliced_cons (thn (ha pins s σ H _ I h) λu s1 ⟨x,H1,I1,r1,q1⟩=>?_)
 exact thn (hr pos pins s1 σ H1 _ I1 q1) λus s2 ⟨xs,H2,I2,r2,q2⟩=>⟨x::xs,H2,I2,.cons r1 r2,q2⟩
def AnI (t:TA):TE:=λσ H Q=>t σ H λxs H1=>xs.length<=sizeLine/\∀ p,H1 p=none->Q (.ref p) (upd H1 p (.tup xs))
def AnJ (t:TA):TE:=λσ H Q=>t σ H λxs H1=>xs.length<=sizeLine/\∀ p,H1 p=none->Q (.ref p) (upd H1 p (.lst xs))
theorem DG{x1}(h:PA X es t):PE X (.Tuple es x1 pos) (AnI t):=by
 intro pins s σ H Q I hq
 refine wpAny_Tuple_spliced (thn (h pos pins s σ H _ I hq) λus s1 ⟨xs,H1,I1,r,z,q⟩=>⟨by rw[<- r.length];exact z,?_⟩)
 have hf:H1 s1.heap.objs.size=none:=I1.hok.fresh (Apv _)
 refine⟨.ref s1.heap.objs.size,upd H1 s1.heap.objs.size (.tup xs),I1.laid (t':=s1.toks) (λb u e=>Heap.get?_push_of_some _ e) (Apv _) ?_,rfl,q _ hf⟩
 exact⟨z,us,r,⟨_,Heap.get?_push_size _ rfl,rfl,_,rfl⟩⟩
theorem BV(h:PA X es t):PE X (.List es pos) (AnJ t):=by
 intro pins s σ H Q I hq
 refine wpAny_List_spliced (thn (h pos pins s σ H _ I hq) λus s1 ⟨xs,H1,I1,r,z,q⟩=>⟨by rw[<- r.length];exact z,?_⟩)
 have hf:H1 s1.heap.objs.size=none:=I1.hok.fresh (Apv _)
 refine⟨.ref s1.heap.objs.size,upd H1 s1.heap.objs.size (.lst xs),I1.laid (t':=s1.toks) (λb u e=>Heap.get?_push_of_some _ e) (Apv _) ?_,rfl,q _ hf⟩
 exact⟨z,us,0,r,Heap.get?_push_size _ rfl⟩
end
abbrev Sp:=List V->Hp->VK->XK->Prop
abbrev CXT:=List Env->Hp->Shared->XK->Value->Shared->Prop
structure AdN (P:Program) (w:World) (K:W.Frag) (mg:Str->Option Value) (base:Heap) (A:Around) (outer:List Env) (s:Shared) (H:Hp):Prop where
 frames:A.frames=some outer
 mod:Mod K mg base
 bs:∀ b o,base.get? b=some o->s.heap.get? b=some o/\H b=none
 bsz:base.objs.size<=s.heap.objs.size
 PJ:s.heap.FunFrames base outer
 frf:∀ b∈frs outer,H b=none
 hok:HOk P w H s.heap
 bare:AllBare s.gens
def CE (outer:List Env)(P:Program)(w:World)(H:Hp)(s:Shared)(Q:VK)(u:Value)(s':Shared):Prop :=
 ∃ v H',s'.os=s.os/\AllBare s'.gens/\Un (frs outer) [] H H' s.heap s'.heap/\HOk P w H' s'.heap/\RelV v u/\Q v H'
def CR (CX:CXT)(outer:List Env)(P:Program)(w:World)(H:Hp)(s:Shared)(Q:VK)(E:XK)(r:Result)(s':Shared):Prop :=
 match r with
 | .ok (.ret u)=>CE outer P w H s Q u s'
 | .ok _=>False
 | .error e=>CX outer H s E e s'
structure Br (P:Program) (w:World) (K:W.Frag) (mg:Str->Option Value) (base:Heap) (CX:CXT) (k:Nat) (f:Addr) (fd:FuncData) (ps:List Str) (sp:Sp):Prop where
 len:∀ vs H Q E,sp vs H Q E->vs.length=ps.length
 run:∀(A:Around) (outer:List Env) (s:Shared) (H:Hp) (args:Args) (us:List Value) (vs:List V) (Q:VK) (E:XK),GK k A->AdN P w K mg base A outer s H->BindsTo s fd args (ps.zip us)->Vals vs us->sp vs H Q E ->
  codeAny (model P w) A (.call (.ref f) args) (CR CX outer P w H s Q E) s
theorem Br.mono{P:Program}{w:World}{K:W.Frag}{mg:Str->Option Value}{base:Heap}{CX:CXT}{j k:Nat}{f:Addr}{fd:FuncData}{ps:List Str}{sp:Sp}(F:Br P w K mg base CX j f fd ps sp)(h:j<=k) :
  Br P w K mg base CX k f fd ps sp:=⟨F.len,λA outer s H args us vs Q E hr=>F.run A outer s H args us vs Q E (hr.mono h)⟩
theorem AdN.make{P:Program}{w:World}{K:W.Frag}{mg:Str->Option Value}{base:Heap}{A:Around}{outer:List Env}{s:Shared}{H:Hp}(e:AdN P w K mg base A outer s H)(C:Addr)(us:List Value)(kw:List (Str × Value)) :
  AdN P w K mg base (A.under (.builtin "type.__call__" ⟨.ref C::us,kw⟩)) outer s H:=⟨by first | exact e.frames | (simpa [Around.under,Code.envs,Code.isFrame,pushEnvs] using e.frames),e.mod,e.bs,e.bsz,e.PJ,e.frf,e.hok,e.bare⟩
section
variable {X:Cx}{pins:List (Addr × Obj)}{σ:St}{H:Hp}{s s':Shared}
theorem Inv.env0(I:Inv X pins σ H s):AdN X.prog X.w X.K X.mg X.base X.A X.stack s H :=
 ⟨I.ok.frames,I.ok.mod,I.bs,ApF I.ok.bsz I.sz,I.stack,I.QR,I.hok,I.bare⟩
theorem Inv.after{Q:VK}{u:Value}(I:Inv X pins σ H s)(h:CE X.stack X.prog X.w H s Q u s'):EP X pins σ Q u s':=by
 obtain⟨v,H',os,bare,un,hok,r,q⟩:=h
 obtain⟨hh,g,d,t,os'⟩:=s'
 obtain rfl:os'=s.os:=os
 exact⟨v,H',I.call (h':=hh) (g':=g) (d':=d) (t':=t) (ch:=[]) un hok bare (λb z=>absurd z (by simp)),r,q⟩
end
def Akp (sp:Sp)(dvs:List V)(E:XK)(t:TA):TE:=λσ H Q=>t σ H λvs H1=>sp (vs++dvs) H1 Q E
def Akq (C:Addr)(m:Str)(sp:Sp)(dvs:List V)(E:XK)(ta:TE)(t:TA):TE:=λσ H Q=>ta σ H λx H1=>∃ a dx fs,x=.ref a/\H1 a=some (.ins C dx fs)/\fs.lookup m=none /\
 t σ H1 λvs H2=>sp (x::(vs++dvs)) H2 Q E
def Amo (C:Addr)(sp:Sp)(dvs:List V)(E:XK)(t:TA):TE:=λσ H Q=>t σ H λvs H1=>∀ x dx,H1 x=none->H1 dx=none->dx≠x ->
 sp (.ref x::(vs++dvs)) (upd (upd H1 dx (.own x)) x (.ins C dx [])) (λv H2=>v=.non/\Q (.ref x) H2) E
def Binds(K:W.Frag)(fd:FuncData)(ps:List Str)(ds:List Value):Prop :=
 ∀(s:Shared) (us:List Value),K.In s.heap->(us++ds).length=ps.length->BindsTo s fd ⟨us,[]⟩ (ps.zip (us++ds))
theorem Binds.all{K:W.Frag}{fd:FuncData}{ps:List Str}(h:∀ us:List Value,us.length=ps.length->bindArgs fd ⟨us,[]⟩=pure (ps.zip us)):Binds K fd ps []:=λs us _ hl=>by
 rw[ApT] at hl ⊢
 exact .of_eq (h us hl)
def Passes(CX:CXT)(X:Cx)(E:XK):Prop:=∀(pins:List (Addr × Obj)) (σ:St) (H:Hp) (s:Shared) (e:Value) (s':Shared),Inv X pins σ H s->CX X.stack H s E e s'->X.xe e s'
section
variable {X:Cx}{CX:CXT}{k:Nat}{f C:Addr}{fd:FuncData}{ps:List Str}{sp:Sp}{dvs:List V}{ds:List Value}{E:XK}{x m:Str}{p pos apos:Pos}{e o:Expr}{es:List Expr}{ta:TE}{t:TA}
theorem Vx{pins:List (Addr × Obj)}{σ:St}{H:Hp}{s:Shared}{Q:VK}{us:List Value}{vs:List V}(F:Br X.prog X.w X.K X.mg X.base CX k f fd ps sp)(hr:GK k X.A)(hb:Binds X.K fd ps ds)(hd:Vals dvs ds)(hx:Passes CX X E)
  (I:Inv X pins σ H s) (r:Vals vs us) (h:sp (vs++dvs) H Q E):wpAny (model X.prog X.w) X.A (call (.ref f) us) (EP X pins σ Q) X.xe s:=by
 have r2:Vals (vs++dvs) (us++ds):=r.append hd
 have hl:(us++ds).length=ps.length:=by rw[<- r2.length];exact F.len _ _ _ _ h
 refine wpAny_call (codeAny_mono (F.run X.A X.stack s H ⟨us,[]⟩ (us++ds) (vs++dvs) Q E hr I.env0 (hb s us I.kIn hl) r2 h) λr s' hq=>?_)
 cases r with
 | error e=>exact hx pins σ H s e s' I hq
 | ok fl =>
  cases fl with
  | ret u=>exact I.after hq
  | next=>exact False.elim hq
  | brk=>exact False.elim hq
  | cont=>exact False.elim hq
theorem Aq(F:Br X.prog X.w X.K X.mg X.base CX k f fd ps sp)(hr:GK k X.A)(hg:Gl X x)(hm:X.mg x=some (.ref f))(hk:W.keepIn X.K (.ref f)=true)(hb:Binds X.K fd ps ds)(hd:Vals dvs ds)(hx:Passes CX X E)
  (ha:PA X (e::es) t) (hdb:(x == ("__debug__" : Str))=false:=by decide) (he:starEach (e::es) X.env=(false,eval e X.env)::starEach es X.env:=by rfl) (hpl:(backTo pos (starEach es X.env)).any (·.1)=false:=by rfl) :
  PE X (.Call (.Name x p) (e::es) [] pos) (Akp sp dvs E t):=by
 intro pins s σ H Q I h
 refine wpAny_Call_Name_kw (QS I hg hm ?_ hdb)
 refine W.callWith_K (h₀:=X.base) I.ok.mod.kin hk (thn (ha pos pins s σ H _ I h) λus s1 ⟨vs,H1,I1,r,q⟩=>⟨I1.kIn,?_⟩) he hpl
 exact Vx F hr hb hd hx I1 r q
theorem DN{pl:Sem Bool}(he:PE X o ta)(c:Cls X.K C)(hm:Meth X.K C m f)(F:Br X.prog X.w X.K X.mg X.base CX k f fd ps sp)(hr:GK k X.A)(hb:Binds X.K fd ps ds)(hd:Vals dvs ds)(hx:Passes CX X E)(ha:PA X (e::es) t)
  (hst:starEach (e::es) X.env=(false,eval e X.env)::starEach es X.env:=by rfl) (hpl:(backTo pos (starEach es X.env)).any (·.1)=false:=by rfl)
  (ht:eval (.Call (.Attribute o m apos) (e::es) [] pos) X.env=(do
   let ov <- eval o X.env
   standAt apos.atName
   let (f,first) <- holding [ov] (getMethod ov m pl)
   callWith pos f first (backTo pos (starEach (e::es) X.env)) (backToKw pos (keywordEach [] X.env))):=by rfl) :
  PE X (.Call (.Attribute o m apos) (e::es) [] pos) (Akq C m sp dvs E ta t):=by
 intro pins s σ H Q I h
 refine W.methodCall_KW (pl:=pl) (thn (he pins s σ H _ I h) λu s1 ⟨x,H1,I1,rx,a,dx,fs,ex,ea,l,q⟩=>?_) ht
 subst ex
 obtain rfl:u=Value.ref a:=rx
 refine Nj I1 ea c hm l ?_
 refine W.callWith_K (first:=[.ref a]) (h₀:=X.base) I.ok.mod.kin hm.kp (thn (ha pos pins s1 σ H1 _ I1 q) λus s2 ⟨vs,H2,I2,r,q2⟩=>⟨I2.kIn,?_⟩) hst hpl
 exact Vx (us:=.ref a::us) (vs:=.ref a::vs) F hr hb hd hx I2 (.cons rfl r) q2
theorem XS{pl:Sem Bool}(he:PE X o ta)(c:Cls X.K C)(hm:Meth X.K C m f)(F:Br X.prog X.w X.K X.mg X.base CX k f fd ps sp)(hr:GK k X.A)(hb:Binds X.K fd ps ds)(hd:Vals dvs ds)(hx:Passes CX X E)
  (ht:eval (.Call (.Attribute o m apos) [] [] pos) X.env=(do
   let ov <- eval o X.env
   standAt apos.atName
   let (f,first) <- holding [ov] (getMethod ov m pl)
   callWith pos f first (backTo pos (starEach [] X.env)) (backToKw pos (keywordEach [] X.env))):=by rfl) :
  PE X (.Call (.Attribute o m apos) [] [] pos) (Akq C m sp dvs E ta Amm):=by
 intro pins s σ H Q I h
 refine W.methodCall_KW (pl:=pl) (thn (he pins s σ H _ I h) λu s1 ⟨x,H1,I1,rx,a,dx,fs,ex,ea,l,q⟩=>?_) ht
 subst ex
 obtain rfl:u=Value.ref a:=rx
 refine Nj I1 ea c hm l ?_
 exact W.callWith_K0 (first:=[.ref a]) I1.kIn hm.kp (Vx (us:=[.ref a]) (vs:=[.ref a]) F hr hb hd hx I1 (.cons rfl .nil) q)
structure Mk (K:W.Frag) (C f:Addr):Prop where
 makes:W.makesIn K C=true
 init:W.findIn K (.ref C) "__init__" = some (some (.ref f))
 fn:W.isFn K (.ref f)=true
 kp:W.keepIn K (.ref C)=true
theorem AgN{pins:List (Addr × Obj)}{σ:St}{H:Hp}{s:Shared}{Q:VK}{us:List Value}{vs:List V}(M:Mk X.K C f)(F:Br X.prog X.w X.K X.mg X.base CX k f fd ps sp)(hr:GK (k+1) X.A)(hb:Binds X.K fd ps ds)(hd:Vals dvs ds)
  (hx:Passes CX X E) (I:Inv X pins σ H s) (r:Vals vs us)
  (h:∀ x dx,H x=none->H dx=none->dx≠x->sp (.ref x::(vs++dvs)) (upd (upd H dx (.own x)) x (.ins C dx [])) (λv H2=>v=.non/\Q (.ref x) H2) E) :
  wpAny (model X.prog X.w) X.A (call (.ref C) us) (EP X pins σ Q) X.xe s:=by
 have hq:=h (s.heap.objs.size+1) s.heap.objs.size (I.hok.fresh (Aqf _)) (I.hok.fresh (Apv _)) (Apy (Aqk _))
 have I2:=Inv.made (C:=C) I
 have r2:Vals (V.ref (s.heap.objs.size+1)::(vs++dvs)) (Value.ref (s.heap.objs.size+1)::(us++ds)):=.cons rfl (r.append hd)
 have hl:(Value.ref (s.heap.objs.size+1)::us++ds).length=ps.length:=by
  have e:=r2.length
  rw[F.len _ _ _ _ hq] at e
  exact e.symm
 refine wpAny_call (AgM (f:=f) I.kIn M.makes M.init (beq_iff_eq.mp M.fn) (codeAny_mono (F.run _ X.stack _ _ ⟨Value.ref (s.heap.objs.size+1)::us,[]⟩ (Value.ref (s.heap.objs.size+1)::(us++ds)) _ _ E (hr.make C us [])
  (I2.env0.make C us []) (hb _ (Value.ref (s.heap.objs.size+1)::us) I2.kIn hl) r2 hq) λr s' hq'=>?_))
 cases r with
 | error e=>exact hx pins σ _ _ e s' I2 hq'
 | ok fl =>
  cases fl with
  | ret u =>
   obtain⟨v,H',I3,rv,ev,q3⟩:=I2.after hq'
   subst ev
   exact⟨rv,⟨V.ref (s.heap.objs.size+1),H',I3,rfl,q3⟩⟩
  | next=>exact False.elim hq'
  | brk=>exact False.elim hq'
  | cont=>exact False.elim hq'
theorem Gg(M:Mk X.K C f)(F:Br X.prog X.w X.K X.mg X.base CX k f fd ps sp)(hr:GK (k+1) X.A)(hg:Gl X x)(hm:X.mg x=some (.ref C))(hb:Binds X.K fd ps ds)(hd:Vals dvs ds)(hx:Passes CX X E)
  (ha:PA X (e::es) t) (hdb:(x == ("__debug__" : Str))=false:=by decide) (he:starEach (e::es) X.env=(false,eval e X.env)::starEach es X.env:=by rfl) (hpl:(backTo pos (starEach es X.env)).any (·.1)=false:=by rfl) :
  PE X (.Call (.Name x p) (e::es) [] pos) (Amo C sp dvs E t):=by
 intro pins s σ H Q I h
 refine wpAny_Call_Name_kw (QS I hg hm ?_ hdb)
 refine W.callWith_K (h₀:=X.base) I.ok.mod.kin M.kp (thn (ha pos pins s σ H _ I h) λus s1 ⟨vs,H1,I1,r,q⟩=>⟨I1.kIn,?_⟩) he hpl
 exact AgN M F hr hb hd hx I1 r q
end
def PK (X:Cx)(kws:List Keyword)(t:TA):Prop :=
 ∀(pos:Pos) (pins:List (Addr × Obj)) (s:Shared) (σ:St) (H:Hp) (Q:List V->Hp->Prop),Inv X pins σ H s->t σ H Q->wpAny (model X.prog X.w) X.A (evalAll ((backToKw pos (keywordEach kws X.env)).map (·.2))) (AP X pins σ Q) X.xe s
section
variable {X:Cx}{CX:CXT}{k:Nat}{f C:Addr}{fd:FuncData}{ps ks:List Str}{sp:Sp}{E:XK}{x m:Str}{p pos apos AoT:Pos}{e o:Expr}{es:List Expr}{kws:List Keyword}{te ta:TE}{t tk:TA}{nm:Option Str}
structure AnK (K:W.Frag) (fd:FuncData) (ps ks:List Str) (g:List Value->List Value->List Value) (gV:List V->List V->List V):Prop where
 to:∀(s:Shared) (us ws:List Value),K.In s.heap->(g us ws).length=ps.length->BindsTo s fd ⟨us,ks.zip ws⟩ (ps.zip (g us ws))
 rel:∀{vs:List V} {us:List Value} {zs:List V} {ws:List Value},Vals vs us->Vals zs ws->Vals (gV vs zs) (g us ws)
def AnL (sp:Sp)(gV:List V->List V->List V)(E:XK)(t tk:TA):TE:=λσ H Q=>t σ H λvs H1=>tk σ H1 λzs H2=>sp (gV vs zs) H2 Q E
variable {g:List Value->List Value->List Value}{gV:List V->List V->List V}
end
structure Aw (N P:List Str) (sc:Scope):Prop where
 kind:sc.kind=.function
 co:sc.isCoroutine=false
 gen:sc.isGenerator=false
 nd:N.Nodup
 pre:N.take P.length=P
 par:∀ x∈P,sc.names.lookup x=some .local\/sc.names.lookup x=some .cell
 AkQ:∀ y∈sc.names,y.2≠.free
theorem Aa7{kindOf:Str->Option NameKind}{x:Str}:∀{binds:List (Str × Value)} {m:Str->Option Value},(∀ v,(x,v)∉binds)->bindL kindOf binds m x=m x
 | [],_,_=>rfl
 | (n,v)::r,m,h=>by
  unfold bindL
  rw[Aa7 λw hw=>h w (Ap7 _ hw)]
  split
  ·have:x≠n:=by rintro rfl;exact h v Ap6
   simp[this]
  ·rfl
theorem Aa8{kindOf:Str->Option NameKind}{x:Str}:∀{binds:List (Str × Value)} {m:Str->Option Value},(∀ v,(x,v)∉binds)->bindC kindOf binds m x=m x
 | [],_,_=>rfl
 | (n,v)::r,m,h=>by
  unfold bindC
  rw[Aa8 λw hw=>h w (Ap7 _ hw)]
  split
  ·rfl
  ·have:x≠n:=by rintro rfl;exact h v Ap6
   simp[this]
theorem Aa9{kindOf:Str->Option NameKind}{x:Str}{v:Value}:∀{P:List Str} {vs:List Value} {i:Nat} {m:Str->Option Value},P.Nodup->P[i]?=some x->vs[i]?=some v->kindOf x=some .local ->
  bindL kindOf (P.zip vs) m x=some v
 | [],_,_,_,_,h,_,_=>by simp at h
 | _::_,[],_,_,_,_,h,_=>by simp at h
 | p::P,w::vs,0,m,nd,h1,h2,hk=>by
  simp at h1 h2;subst h1;subst h2
  show bindL kindOf ((p,w)::P.zip vs) m p=_
  unfold bindL
  rw[Aa7 λv hv=>(List.nodup_cons.mp nd).1 (Aqz hv).1,if_pos hk]
  simp
 | p::P,w::vs,i+1,m,nd,h1,h2,hk=>by
  show bindL kindOf ((p,w)::P.zip vs) m x=_
  unfold bindL
  exact Aa9 (i:=i) (List.nodup_cons.mp nd).2 (by simpa using h1) (by simpa using h2) hk
theorem AaA{kindOf:Str->Option NameKind}{x:Str}{v:Value}:∀{P:List Str} {vs:List Value} {i:Nat} {m:Str->Option Value},P.Nodup->P[i]?=some x->vs[i]?=some v->kindOf x≠some .local ->
  bindC kindOf (P.zip vs) m x=some v
 | [],_,_,_,_,h,_,_=>by simp at h
 | _::_,[],_,_,_,_,h,_=>by simp at h
 | p::P,w::vs,0,m,nd,h1,h2,hk=>by
  simp at h1 h2;subst h1;subst h2
  show bindC kindOf ((p,w)::P.zip vs) m p=_
  unfold bindC
  rw[Aa8 λv hv=>(List.nodup_cons.mp nd).1 (Aqz hv).1,if_neg hk]
  simp
 | p::P,w::vs,i+1,m,nd,h1,h2,hk=>by
  show bindC kindOf ((p,w)::P.zip vs) m x=_
  unfold bindC
  exact AaA (i:=i) (List.nodup_cons.mp nd).2 (by simpa using h1) (by simpa using h2) hk
def start(N:List Str)(vs:List V):St:=vs.map some++List.replicate (N.length-vs.length) none
def Abm (CX:CXT)(P:Program)(w:World)(K:W.Frag)(mg:Str->Option Value)(base:Heap)(N:List Str)(qual:Str)(scope:Scope)(f:Addr)(cd:Value)(A:Around)(outer:List Env)(s:Shared)(H:Hp)(E:XK):Cx where
 prog:=P
 w:=w
 K:=K
 mg:=mg
 base:=base
 A:=A.deeper (envOfC qual scope s.heap.objs.size f cd)
 N:=N
 s₀:=s
 H₀:=H
 env:=envOfC qual scope s.heap.objs.size f cd
 outer:=outer
 stack:=envOfC qual scope s.heap.objs.size f cd::outer
 ex:=[]
 calm:=true
 fn:=λ_=>true
 pn:=[]
 xe:=λe s'=>wpAny (model P w) (A.deeper (envOfC qual scope s.heap.objs.size f cd)) (leaving (envOfC qual scope s.heap.objs.size f cd) e) (λ_ s''=>CX outer H s E e s'') (λe' s''=>CX outer H s E e' s'') s'
theorem Ac6{sc:Scope}{n:Nat}{x:Str}(h:sc.names.lookup x=some .cell):∃ c,(cellsFrom n sc.names []).lookup x=some c:=by
 have q:=W.cellsFrom_some sc.names n [] (.inl h)
 exact Option.isSome_iff_exists.mp q
theorem Af8{CX:CXT}{P:Program}{w:World}{K:W.Frag}{mg:Str->Option Value}{base:Heap}{N ps:List Str}{qual:Str}{scope:Scope}{f:Addr}{cd:Value}{A:Around}{outer:List Env}{s s1:Shared}{H:Hp}{E:XK}{us:List Value}{vs:List V}
  (S:Aw N ps scope) (hd:A.handled=none) (e0:AdN P w K mg base A outer s H) (hl:vs.length=ps.length) (r:Vals vs us)
  (x:InCallC s s.heap.objs.size (bindL (envOfC qual scope s.heap.objs.size f cd).kindOf (ps.zip us) λ_=>none) (cellsFrom (s.heap.objs.size+1) scope.names []) (bindC (envOfC qual scope s.heap.objs.size f cd).kindOf (ps.zip us) λ_=>none) s1) :
  Inv (Abm CX P w K mg base N qual scope f cd A outer s H E) [] (start N vs) H s1:=by
 have hpl:ps.length<=N.length:=by have:=congrArg List.length S.pre;rw[Ap2] at this;omega
 obtain⟨h1,tk,rfl,hk⟩:=x.done
 have noA:∀ b:Addr,b∉(Abm CX P w K mg base N qual scope f cd A outer s H E).ex:=λb z=>absurd (show b∈([]:List Addr) from z) (by simp)
 refine⟨⟨e0.mod,S.kind,rfl,rfl,Apv _,λy z c h1 h2=>?_,λy hy=>?_,λy c _ h=>?_,λ_=>hd,Around.frames_deeper e0.frames,.inr ⟨rfl,rfl⟩,λb z=>absurd z (noA b),e0.bs,e0.bsz,λb _ _=>noA b,λb z=>absurd z (noA b),e0.PJ,e0.frf⟩,
  rfl,e0.bare,Un.kept hk,⟨_,x.toInCall.ns,λi y v h1 h2 h3=>?_⟩,λy c h=>⟨_,x.cell y c h⟩,e0.hok.fresh (Apv _),λy c h=>?_,λp hp=>absurd (show p∈([]:List (Addr × Obj)) from hp) (by simp),e0.hok.kept hk,?_⟩
 ·exact name_of_addr x.apart (PySem.mem_of_lookup h1) (PySem.mem_of_lookup h2)
 ·have hy:scope.names.lookup y=some .cell\/scope.names.lookup y=some .free:=hy
  rcases hy with hy | hy
  ·exact Ac6 hy
  ·exact absurd rfl (S.AkQ _ (PySem.mem_of_lookup hy))
 ·exact Aqy (x.above y c (PySem.mem_of_lookup h))
 ·have hi:i<vs.length:=by
   unfold start at h2
   by_cases hi:i<vs.length
   ·exact hi
   ·rw[Aqm (by simpa using hi)] at h2
    rw[List.getElem?_replicate] at h2
    split at h2 <;> cases h2
  have ha:vs[i]?=some v:=by
   unfold start at h2
   rw[Aqn (by simpa using hi),Ap9] at h2
   cases e:vs[i]? with
   | none=>rw[e] at h2;cases h2
   | some a=>rw[e] at h2;cases h2;rfl
  obtain⟨u,hu,rv⟩:=r.get ha
  have hp:ps[i]?=some y:=by
   rw[<- S.pre,List.getElem?_take_of_lt (by omega)];exact h1
  have ndP:ps.Nodup:=by rw[<- S.pre];exact S.nd.sublist (List.take_sublist _ _)
  refine⟨u,rv,?_⟩
  rcases S.par y (ApD hp) with k | k
  ·exact .inl ⟨k,Aa9 ndP hp hu k⟩
  ·obtain⟨c,e⟩:=Ac6 (n:=s.heap.objs.size+1) k
   refine .inr ⟨.inl k,c,e,?_⟩
   have q:=x.cell y c e
   rw[AaA ndP hp hu (by show scope.names.lookup y≠_;rw[k];decide)] at q
   exact q
 ·exact e0.hok.fresh (Aqy (x.above y c (PySem.mem_of_lookup h)))
 ·unfold start
  show _=N.length
  rw[Aps,Apq,ApQ]
  omega
theorem Akr{CX:CXT}{P:Program}{w:World}{K:W.Frag}{mg:Str->Option Value}{base:Heap}{k:Nat}{f:Addr}{name qual:Str}{params:Arguments}{body:List Stmt}{scope:Scope}{dV kV doc pm cdv ct oc:Value}{an od:Option Addr}
  {osl:Array (Option Value)}{N ps:List Str}{sp:Sp} (lk:K.lookup f=some ⟨oc,od,.func (W.fnOf name qual params body scope dV kV doc pm an cdv ct),osl⟩) (hcd:W.codeIn K cdv qual=true) (S:Aw N ps scope)
  (len:∀ vs H Q E,sp vs H Q E->vs.length=ps.length)
  (hbody:∀(A:Around) (outer:List Env) (s:Shared) (H:Hp) (vs:List V) (Q:VK) (E:XK),GK k (A.deeper (envOfC qual scope s.heap.objs.size f cdv))->sp vs H Q E ->
   ∃ t,PSs (Abm CX P w K mg base N qual scope f cdv A outer s H E) body t/\t { nx:=λ_ H'=>Q .non H',rt:=Q } (start N vs) H) :
  Br P w K mg base CX (k+1) f (W.fnOf name qual params body scope dV kV doc pm an cdv ct) ps sp:=by
 refine⟨len,λA outer s H args us vs Q E hr e0 hb r hsp=>?_⟩
 have hl:=len _ _ _ _ hsp
 have KX:K.In s.heap:=e0.mod.kin.keeps λb o e=>(e0.bs b o e).1
 have lim:s.heap.NoLimit:=e0.mod.nolimit.keeps λb o e=>(e0.bs b o e).1
 have hkind:∀ y∈ps.zip us,scope.names.lookup y.1=some .local\/(scope.names.lookup y.1=some .cell/\((cellsFrom (s.heap.objs.size+1) scope.names []).lookup y.1).isSome=true):=λ⟨n,v⟩ hy=>by
  rcases S.par n (Aqz hy).1 with q | q
  ·exact .inl q
  ·exact .inr ⟨q,W.cellsFrom_some _ _ _ (.inl q)⟩
 refine codeAny_call_function hr.depth (KX _ _ lk) rfl S.co S.gen rfl (W.codeRec_of KX hcd) (hb _ _ _ _ ?_)
 refine wpAny_newFunctionEnv_cells S.kind hkind λenv he s1 x=>?_
 subst he
 refine⟨lim.keeps x.toInCall.keep,codeAny_func ?_⟩
 obtain⟨t,ht,hq⟩:=hbody A outer s H vs Q E (hr.deeper _) hsp
 have I:Inv (Abm CX P w K mg base N qual scope f cdv A outer s H E) [] (start N vs) H s1:=Af8 S hr.hd e0 hl r x
 refine wpAny_mono (ht [] s1 (start N vs) H _ I hq) (λfl s' hs=>?_) λe s' hs=>hs
 have fin:∀{σ':St} {H':Hp} {v:V} {u:Value},Inv (Abm CX P w K mg base N qual scope f cdv A outer s H E) [] σ' H' s'->RelV v u->Q v H'->CE outer P w H s Q u s' :=
  λ{σ' H' v u} J rv q=>⟨v,H',J.os,J.bare,J.base,J.hok,rv,q⟩
 cases fl with
 | ret u =>
  obtain⟨v,σ',H',J,rv,q⟩:=hs
  exact fin J rv q
 | next =>
  obtain⟨σ',H',J,q⟩:=hs
  exact fin (v:=V.non) (u:=Value.none) J rfl q
 | brk =>
  obtain⟨_,_,_,q⟩:=hs
  exact False.elim q
 | cont =>
  obtain⟨_,_,_,q⟩:=hs
  exact False.elim q
section
variable {X:Cx}{x:Str}{p pos:Pos}{e:Expr}{es:List Expr}{t:TA}{id T:String}{r:List V->Hp->VK->Prop}
def tCB (r:List V->Hp->VK->Prop)(t:TA):TE:=λσ H Q=>t σ H λvs H1=>r vs H1 Q
theorem Az(hc:JC X (.builtin id) r)(hg:Gl X x)(hm:X.mg x=none)(hv:bootBuiltins x=some (.builtin id))(ha:PA X (e::es) t)(hn:x ≠ "__name__" := by decide) (hdb:(x == ("__debug__" : Str))=false:=by decide)
  (he:starEach (e::es) X.env=(false,eval e X.env)::starEach es X.env:=by rfl) (hpl:(backTo pos (starEach es X.env)).any (·.1)=false:=by rfl):PE X (.Call (.Name x p) (e::es) [] pos) (tCB r t):=by
 intro pins s σ H Q I h
 refine wpAny_Call_Name_kw (HW I hg hm hv ?_ hn hdb)
 exact PyProof.Rows.callWith_builtin1 (thn (ha pos pins s σ H _ I h) λus s1 ⟨vs,H1,I1,r1,q1⟩=>hc pins s1 σ H1 vs us Q I1 r1 q1) he hpl
theorem Cm(hc:JC X (.type T) r)(hg:Gl X x)(hm:X.mg x=none)(hv:bootBuiltins x=some (.type T))(ha:PA X (e::es) t)(hn:x ≠ "__name__" := by decide) (hdb:(x == ("__debug__" : Str))=false:=by decide)
  (he:starEach (e::es) X.env=(false,eval e X.env)::starEach es X.env:=by rfl) (hpl:(backTo pos (starEach es X.env)).any (·.1)=false:=by rfl):PE X (.Call (.Name x p) (e::es) [] pos) (tCB r t):=by
 intro pins s σ H Q I h
 refine wpAny_Call_Name_kw (HW I hg hm hv ?_ hn hdb)
 exact PyProof.Rows.callWith_type1 (thn (ha pos pins s σ H _ I h) λus s1 ⟨vs,H1,I1,r1,q1⟩=>hc pins s1 σ H1 vs us Q I1 r1 q1) he hpl
end
end L2
namespace HT
open PySem PyProof.Rows
def lexLt:List Int->List Int->Bool
 | [],[]=>false
 | [],_::_=>true
 | _::_,[]=>false
 | x::xs,y::ys=>if x=y then lexLt xs ys else decide (x<y)
section
variable {prog:Program}{w:World}{A:Around}{E:Value->Shared->Prop}{s:Shared}
def sIx (n d:Nat):Option Int->Nat
 | none=>d
 | some v=>if v<0 then (v+(n:Int)).toNat else min v.toNat n
theorem Qa(n d:Nat):sIx n d none=d:=rfl
theorem K3(n d k:Nat):sIx n d (some (k:Int))=min k n:=by
 show(if (k:Int)<0 then ((k:Int)+(n:Int)).toNat else min (k:Int).toNat n)=min k n
 rw[if_neg (by omega),Ap1]
theorem AkR(n d:Nat)(hd:d<=n)(o:Option Int):sIx n d o<=n:=by
 cases o with
 | none=>exact hd
 | some v =>
  show(if v<0 then (v+(n:Int)).toNat else min v.toNat n)<=n
  by_cases hv:v<0
  ·rw[if_pos hv];omega
  ·rw[if_neg hv];exact Nat.min_le_right _ _
end
end HT
namespace L2
open PySem PySem.Spec PyProof.Rows
abbrev TO:=St->Hp->(Option Int->Hp->Prop)->Prop
def PO (X:Cx)(e:Option Expr)(t:TO):Prop :=
 ∀(pins:List (Addr × Obj)) (s:Shared) (σ:St) (H:Hp) (Q:Option Int->Hp->Prop),Inv X pins σ H s->t σ H Q ->
  wpAny (model X.prog X.w) X.A (evalPart e X.env) (λu s'=>∃ o H',Inv X pins σ H' s'/\IsPart u o/\Q o H') X.xe s
def AiU:TO:=λ_ H Q=>Q none H
def Amp (t:TE):TO:=λσ H Q=>t σ H λx H1=>∃ i,x=.int i/\Q (some i) H1
theorem intsAre_of{ns:List Int}:∀{us:List Value},Vals (ns.map V.int) us->IntsAre us ns:=by
 induction ns with
 | nil=>intro us r;rw[ApW] at r;cases r;exact .nil
 | cons n ns ih =>
  intro us r
  rw[Apw] at r
  cases r with
  | cons r1 r2 =>
   obtain⟨t,e⟩:=r1
   subst e
   exact .cons n t (ih r2)
section
variable {X:Cx}{e:Expr}{te:TE}{lo hi:Option Expr}{tl th:TO}{pos p2:Pos}
theorem K4:PO X none AiU:=by
 intro pins s σ H Q I h
 rw[evalPart_none]
 exact wpAny_pure ⟨none,H,I,.none,h⟩
theorem Hh(h:PE X e te):PO X (some e) (Amp te):=by
 intro pins s σ H Q I hw
 rw[evalPart_some]
 refine thn (h pins s σ H _ I hw) λu s1 ⟨x,H1,I1,r1,q1⟩=>?_
 obtain⟨i,rfl,q⟩:=q1
 obtain⟨t,rfl⟩:=r1
 exact⟨some i,H1,I1,.int i t,q⟩
def SlR (X:Cx)(r:V->Option Int->Option Int->Hp->VK->Prop):Prop :=
 ∀(pins:List (Addr × Obj)) (s:Shared) (σ:St) (H:Hp) (x:V) (v vl vu:Value) (lo hi:Option Int) (sl:Addr) (Q:VK),Inv X pins σ H s->RelV x v->s.heap.IsSliceOf sl vl vu .none->IsPart vl lo->IsPart vu hi->r x lo hi H Q ->
  ∃ T id,typeLookup (.type T) "__getitem__" = pure (some (.builtin id))/\s.TypeIs v T/\wpAny (model X.prog X.w) X.A (getItem v (.ref sl)) (EP X pins σ Q) X.xe s
def tSl (r:V->Option Int->Option Int->Hp->VK->Prop)(te:TE)(tl th:TO):TE:=λσ H Q=>te σ H λx H1=>tl σ H1 λl H2=>th σ H2 λu H3=>r x l u H3 Q
theorem Hf{r:V->Option Int->Option Int->Hp->VK->Prop}(hr:SlR X r)(he:PE X e te)(hl:PO X lo tl)(hu:PO X hi th):PE X (.Subscript e (.Slice lo hi none p2) pos) (tSl r te tl th):=by
 intro pins s σ H Q I h
 refine Subscript_ (thn (he pins s σ H _ I h) λv s1 ⟨x,H1,I1,r1,q1⟩=>?_)
 refine wpAny_Slice (thn (hl pins s1 σ H1 _ I1 q1) λvl s2 ⟨l,H2,I2,pl,q2⟩=>thn (hu pins s2 σ H2 _ I2 q2) λvu s3 ⟨u,H3,I3,pu,q3⟩=>?_)
 rw[evalPart_none]
 refine wpAny_pure ?_
 have I4:Inv X pins σ H3 { s3 with heap:=s3.heap.push { cls:=.type "slice", data:=.fields #[vl,vu,.none] } }:=I3.kept (t':=s3.toks) λb ob q=>Heap.get?_push_of_some _ q
 obtain⟨T,id,hT,ht,hg⟩:=hr pins { s3 with heap:=s3.heap.push { cls:=.type "slice", data:=.fields #[vl,vu,.none] } } σ H3 x v vl vu l u s3.heap.objs.size Q I4 r1 (Heap.IsSliceOf.new ..) pl pu q3
 show wpAny (model X.prog X.w) X.A (subscriptTail e (.Slice lo hi none p2) v (.ref s3.heap.objs.size)) (EP X pins σ Q) X.xe { s3 with heap:=s3.heap.push { cls:=.type "slice", data:=.fields #[vl,vu,.none] } }
 exact tail_any (ops:=[.ref s3.heap.objs.size,v]) ht hT hg (by with_unfolding_all rfl)
def Tj (xs:List V)(lo hi:Option Int):List V:=(xs.drop (HT.sIx xs.length 0 lo)).take (HT.sIx xs.length xs.length hi-HT.sIx xs.length 0 lo)
theorem Ac7(xs:List V)(lo hi:Option Int):(Tj xs lo hi).length<=xs.length:=by
 unfold Tj
 rw[Ap2,ApK]
 omega
def AoU (K:W.Frag):V->Option Int->Option Int->Hp->VK->Prop:=λx lo hi H Q=>∃ a xs,x=.ref a/\SqT K H a xs /\
 ¬(HT.sIx xs.length 0 lo=0/\HT.sIx xs.length xs.length hi=xs.length)/\∀ p,H p=none->Q (.ref p) (upd H p (.tup (Tj xs lo hi)))
def AoV (K:W.Frag):R2:=λx y H Q=>∃ a b ns ms,x=.ref a/\y=.ref b/\SqT K H a (ns.map V.int)/\SqT K H b (ms.map V.int)/\Q (.bl (HT.lexLt ns ms)) H
def Aoz (K:W.Frag):R2:=λx y H Q=>∃ a b xs ys,x=.ref a/\y=.ref b/\SqT K H a xs/\SqT K H b ys/\xs≠[]/\xs.length+ys.length<=sizeLine /\
 (ys=[]->Q (.ref a) H)/\(ys≠[]->∀ p,H p=none->Q (.ref p) (upd H p (.tup (xs++ys))))
end
def ixN (n:Nat)(i:Int):Option Nat:=if 0<=i then (if i<n then some i.toNat else none) else if -(n:Int)<=i then some (i+n).toNat else none
def atI {α:Type}(xs:List α)(i:Int):Option α:=(ixN xs.length i).bind λj=>xs[j]?
theorem AiV{n:Nat}{i:Int}{j:Nat}(h:ixN n i=some j):seqIndex? i n=some j/\j<n /\ -(n:Int)<=i/\i<n:=by
 unfold ixN at h
 by_cases h0:0<=i
 ·rw[if_pos h0] at h
  by_cases h1:i<n
  ·rw[if_pos h1] at h
   have e:i.toNat=j:=Option.some.inj h
   exact⟨by rw[seqIndex_of h0 h1,e],by omega,by omega,h1⟩
  ·rw[if_neg h1] at h;cases h
 ·rw[if_neg h0] at h
  by_cases h1 : -(n:Int)<=i
  ·rw[if_pos h1] at h
   have e:(i+n).toNat=j:=Option.some.inj h
   exact⟨by rw[seqIndex_neg (by omega) h1,e],by omega,h1,by omega⟩
  ·rw[if_neg h1] at h;cases h
theorem Abn{α:Type}{xs:List α}{i:Int}{v:α}(h:atI xs i=some v):∃ j,seqIndex? i xs.length=some j/\xs[j]?=some v/\j<xs.length /\ -(xs.length:Int)<=i/\i<xs.length:=by
 unfold atI at h
 cases e:ixN xs.length i with
 | none=>rw[e] at h;cases h
 | some j =>
  rw[e] at h
  obtain⟨h1,h2,h3,h4⟩:=AiV e
  exact⟨j,h1,h,h2,h3,h4⟩
theorem AeF{α:Type}{xs:List α}{j:Nat}{v:α}(h:xs[j]?=some v):atI xs (j:Int)=some v:=by
 have hj:j<xs.length:=(List.getElem?_eq_some_iff.mp h).1
 have e:ixN xs.length (j:Int)=some j:=by
  unfold ixN
  rw[if_pos (by omega),if_pos (by omega)];simp
 unfold atI;rw[e];exact h
theorem AgO{α:Type}(xs:List α)(v:α):atI (xs++[v]) (-1)=some v:=by
 have hl:(xs++[v]).length=xs.length+1:=by simp
 have e:ixN (xs++[v]).length (-1)=some xs.length:=by
  unfold ixN
  rw[hl,if_neg (by decide),if_pos (by omega)]
  congr 1
  omega
 unfold atI
 rw[e]
 show(xs++[v])[xs.length]?=some v
 simp
def AiW (b:Expr):Prop:=∀ o i,subscripted b false o i=operate [o,i] (getItem o i)
def IxR (X:Cx)(r:R2):Prop :=
 ∀(value slice:Expr) (pins:List (Addr × Obj)) (s:Shared) (σ:St) (H:Hp) (x y:V) (v u:Value) (Q:VK),Inv X pins σ H s->RelV x v->RelV y u->r x y H Q ->
  subscripted slice false v u=operate [v,u] (getItem v u)->wpAny (model X.prog X.w) X.A (subscriptTail value slice v u) (EP X pins σ Q) X.xe s
def MtR (X:Cx)(id:String)(r:V->List V->Hp->VK->Prop):Prop :=
 ∀(pins:List (Addr × Obj)) (s:Shared) (σ:St) (H:Hp) (x:V) (xs:List V) (v:Value) (us:List Value) (Q:VK),Inv X pins σ H s->RelV x v->Vals xs us->r x xs H Q ->
  wpAny (model X.prog X.w) X.A (call (.builtin id) (v::us)) (EP X pins σ Q) X.xe s
section
variable {X:Cx}{a b:Expr}{ta tb:TE}{pos:Pos}
theorem Bf{r:R2}(hr:IxR X r)(ha:PE X a ta)(hb:PE X b tb)(hs:AiW b):PE X (.Subscript a b pos) (tOp r ta tb):=by
 intro pins s σ H Q I h
 exact Subscript_ (AkH ha hb I h λv u s2 x y H2 I2 rx ry q=>hr a b pins s2 σ H2 x y v u Q I2 rx ry q (hs _ _))
def AkS (K:W.Frag):R2:=λx y H Q=>∃ p xs i v,x=.ref p/\y=.int i/\SqL K H p xs/\atI xs i=some v/\Q v H
def AkT (K:W.Frag):R2:=λx y H Q=>∃ p xs i v,x=.ref p/\y=.int i/\SqT K H p xs/\atI xs i=some v/\Q v H
def Amq:R2:=λx y H Q=>∃ z i c,x=.str z/\y=.int i/\z.length<=sizeLine/\atI z.cps.toList i=some c/\Q (.str ⟨#[c]⟩) H
theorem AiX:IxR X (AkS X.K):=by
 intro value slice pins s σ H x y v u Q I rx ry h hs
 obtain⟨p,xs,i,z,rfl,rfl,hq,he,q⟩:=h
 cases rx
 obtain⟨t,rfl⟩:=ry
 obtain⟨its,r,pl,hz⟩:=I.list hq
 obtain⟨j,h1,h2,h3,h4,h5⟩:=Abn he
 obtain⟨w,ew,rw'⟩:=r.get h2
 have hl:=r.length
 have hn:=Vv
 have fin:EP X pins σ Q w s:=⟨z,H,I,rw',q⟩
 by_cases h0:0<=i
 ·have hj:i.toNat=j:=by
   rw[seqIndex_of h0 h5] at h1
   exact Option.some.inj h1
  exact item_listR pl.isList h0 (by omega) (by rw[hj];simpa using ew) fin hs
 ·have hj:(i+(its.toArray.size:Int)).toNat=j:=by
   rw[seqIndex_neg (by omega) h4] at h1
   rw[Ap3,<- hl]
   exact Option.some.inj h1
  exact subscriptTail_builtinR (x:=w) pl.isList.typeIs slot_list_getitem.lookup
   (wpAny_getItem_list_neg (Q:=λr s'=>r=w/\EP X pins σ Q r s') pl.isList (by omega) (by rw[Ap3] <;> omega) (by omega) (by rw[hj];simpa using ew) ⟨rfl,fin⟩) hs
theorem AkU:IxR X (AkT X.K):=by
 intro value slice pins s σ H x y v u Q I rx ry h hs
 obtain⟨p,xs,i,z,rfl,rfl,hq,he,q⟩:=h
 cases rx
 obtain⟨t,rfl⟩:=ry
 obtain⟨its,r,pl,hz⟩:=I.tuple hq
 obtain⟨j,h1,h2,h3,h4,h5⟩:=Abn he
 obtain⟨w,ew,rw'⟩:=r.get h2
 have hl:=r.length
 have hn:=Vv
 have fin:EP X pins σ Q w s:=⟨z,H,I,rw',q⟩
 exact subscriptTail_builtinR (x:=w) pl.typeIs slot_tuple_getitem.lookup
  (getItem_tuple (j:=j) (Q:=λr s'=>r=w/\EP X pins σ Q r s') pl (by omega) (by omega) (by rw[Ap3,<- hl];exact h1) (by simpa using ew) ⟨rfl,fin⟩) hs
theorem Jo:IxR X Amq:=by
 intro value slice pins s σ H x y v u Q I rx ry h hs
 obtain⟨z,i,c,rfl,rfl,hz,he,q⟩:=h
 obtain⟨t,rfl⟩:=rx
 obtain⟨t',rfl⟩:=ry
 obtain⟨j,h1,h2,h3,h4,h5⟩:=Abn he
 have hl:z.cps.toList.length=z.length:=by simp[Str.length]
 rw[hl] at h1 h4 h5
 have hn:=Vv
 exact tail_any (typeIs_str s z t) slot_str_getitem.lookup (getItem_str (c:=c) (by
  have e1:decide (i < -(2 ^ 63:Int))=false:=decide_eq_false (by omega)
  have e2:decide (i ≥ 2 ^ 63)=false:=decide_eq_false (by omega)
  rw[e1,e2,Bool.or_false]) (by rw[h1];simpa using h2) ⟨.str ⟨#[c]⟩,H,I.tok _,⟨_,rfl⟩,q⟩) hs
def rIx (K:W.Frag):R2:=λx y H Q=>AkS K x y H Q\/AkT K x y H Q\/Amq x y H Q
def Ao0:V->V->V->Hp->(Hp->Prop)->Prop:=λo i v H Q=>∃ p xs k j,o=.ref p/\i=.int k/\H p=some (.lst xs)/\ixN xs.length k=some j/\Q (upd H p (.lst (xs.set j v)))
theorem Abo(lo hi:Option Int)(n:Nat):(sliceBounds lo hi none n).1=((HT.sIx n 0 lo:Nat):Int)/\(sliceBounds lo hi none n).2.1=((HT.sIx n n hi:Nat):Int)/\(sliceBounds lo hi none n).2.2=1:=by
 refine⟨?_,?_,rfl⟩
 ·cases lo with
  | none=>simp[sliceBounds,HT.sIx]
  | some i =>
   simp only [sliceBounds,HT.sIx,Option.getD_none,show(1:Int)>0 by decide,if_true]
   by_cases h:i<0
   ·simp only [h,if_true] <;> omega
   ·simp only [h,if_false] <;> omega
 ·cases hi with
  | none=>simp[sliceBounds,HT.sIx]
  | some i =>
   simp only [sliceBounds,HT.sIx,Option.getD_none,show(1:Int)>0 by decide,if_true]
   by_cases h:i<0
   ·simp only [h,if_true] <;> omega
   ·simp only [h,if_false] <;> omega
theorem ZG(its:List Value)(lo hi:Option Int):slicePick its.toArray lo hi none=((its.drop (HT.sIx its.length 0 lo)).take (HT.sIx its.length its.length hi-HT.sIx its.length 0 lo)).toArray:=by
 obtain⟨h1,h2,h3⟩:=Abo lo hi its.toArray.size
 unfold slicePick
 rw[h1,h2,h3]
 simp only [sliceRange_one,pick_run,Ap3] <;> rfl
def Amr (K:W.Frag):V->Option Int->Option Int->Hp->VK->Prop:=λx lo hi H Q=>∃ a xs,x=.ref a/\SqL K H a xs/\∀ p,H p=none->Q (.ref p) (upd H p (.lst (Tj xs lo hi)))
theorem AiY:SlR X (Amr X.K):=by
 intro pins s σ H x v vl vu lo hi sl Q I rx hs pl pu h
 obtain⟨a,xs,rfl,hx,q⟩:=h
 cases rx
 obtain⟨its,r,ht,hz⟩:=I.list hx
 have hlen:=r.length
 refine⟨"list", _,slot_list_getitem.lookup,ht.isList.typeIs,?_⟩
 refine wpAny_getItem_list_slice ht.isList hs pl pu .none (by simp) ?_ (by rw[Ap3] <;> omega)
 rw[ZG,<- hlen]
 refine⟨.ref s.heap.objs.size,_,I.laid (t':=s.toks) (o:=.lst (Tj xs lo hi)) (λb ob q=>Heap.get?_push_of_some _ q) (Apv _) ?_,rfl,q _ (I.hok.fresh (Apv _))⟩
 exact⟨ApF (Ac7 xs lo hi) hz,_,0,(r.drop (HT.sIx xs.length 0 lo)).take (HT.sIx xs.length xs.length hi-HT.sIx xs.length 0 lo),Heap.get?_push_size _ rfl⟩
def Jh:V->Bool
 | .non=>true
 | .bl _=>true
 | .int _=>true
 | .str _=>true
 | _=>false
def eqV:V->V->Bool
 | .non,.non=>true
 | .bl a,.bl b=>a == b
 | .bl a,.int b=>(if a then 1 else 0) == b
 | .int a,.bl b=>a == (if b then 1 else 0)
 | .int a,.int b=>a == b
 | .str a,.str b=>a == b
 | _,_=>false
theorem Abp{A:Around}{s:Shared}{y x:V}{u v:Value}(ry:RelV y u)(rx:RelV x v)(fy:Jh y=true)(fx:Jh x=true):SeqAt.EqAt A s u v (eqV y x):=by
 cases y with
 | non =>
  cases ry
  cases x with
  | non=>cases rx;exact SeqAt.EqAt.same _
  | bl b=>cases rx;exact SeqAt.EqAt.none_bool b
  | int b=>obtain⟨t,rfl⟩:=rx;exact SeqAt.EqAt.none_int b t
  | str b=>obtain⟨t,rfl⟩:=rx;exact SeqAt.EqAt.none_str b t
  | _=>exact absurd (show false=true from fx) Ap5
 | bl a =>
  cases ry
  cases x with
  | non=>cases rx;exact SeqAt.EqAt.bool_none a
  | bl b=>cases rx;exact SeqAt.EqAt.bool_bool a b
  | int b=>obtain⟨t,rfl⟩:=rx;exact SeqAt.EqAt.bool_int a b t
  | str b=>obtain⟨t,rfl⟩:=rx;exact SeqAt.EqAt.bool_str a b t
  | _=>exact absurd (show false=true from fx) Ap5
 | int a =>
  obtain⟨t',rfl⟩:=ry
  cases x with
  | non=>cases rx;exact SeqAt.EqAt.int_none a t'
  | bl b=>cases rx;exact SeqAt.EqAt.int_bool a t' b
  | int b=>obtain⟨t,rfl⟩:=rx;exact SeqAt.EqAt.int_int a t' b t
  | str b=>obtain⟨t,rfl⟩:=rx;exact SeqAt.EqAt.int_str a t' b t
  | _=>exact absurd (show false=true from fx) Ap5
 | str a =>
  obtain⟨t',rfl⟩:=ry
  cases x with
  | non=>cases rx;exact SeqAt.EqAt.str_none a t'
  | bl b=>cases rx;exact SeqAt.EqAt.str_bool a t' b
  | int b=>obtain⟨t,rfl⟩:=rx;exact SeqAt.EqAt.str_int a t' b t
  | str b=>obtain⟨t,rfl⟩:=rx;exact SeqAt.EqAt.str_str a t' b t
  | _=>exact absurd (show false=true from fx) Ap5
 | _=>exact absurd (show false=true from fy) Ap5
def eqU (x:V)(u:Value):Bool:=match u with
 | .none=>eqV .non x
 | .bool b=>eqV (.bl b) x
 | .int i _=>eqV (.int i) x
 | .str z _=>eqV (.str z) x
 | _=>false
theorem AgP{x y:V}{u:Value}(r:RelV y u)(f:Jh y=true):eqU x u=eqV y x:=by
 cases y with
 | non=>cases r;rfl
 | bl b=>cases r;rfl
 | int i=>obtain⟨t,rfl⟩:=r;rfl
 | str z=>obtain⟨t,rfl⟩:=r;rfl
 | _=>exact absurd (show false=true from f) Ap5
theorem Tn{x:V}:∀{xs:List V} {us:List Value},Vals xs us->xs.all Jh=true->us.any (eqU x)=xs.any λy=>eqV y x
 | _,_,.nil,_=>rfl
 | y::xs,u::us,.cons r t,f=>by
  rw[Aq0,ApU] at f
  rw[List.any_cons,List.any_cons,AgP r f.1,Tn t f.2]
theorem Qc{A:Around}{s:Shared}{x:V}{v:Value}(rx:RelV x v)(fx:Jh x=true):∀{xs:List V} {us:List Value},Vals xs us->xs.all Jh=true->∀ u∈us,SeqAt.EqAt A s u v (eqU x u)
 | _,_,.nil,_=>λu hu=>by cases hu
 | y::xs,u::us,.cons r t,f=>λu' hu=>by
  rw[Aq0,ApU] at f
  rcases List.mem_cons.mp hu with rfl | hu
  ·rw[AgP r f.1];exact Abp r rx f.1 fx
  ·exact Qc rx fx t f.2 u' hu
def inV (x:V)(xs:List V):Bool:=xs.any λy=>eqV y x
def rIn (K:W.Frag)(neg:Bool):R2:=λx y H Q=>∃ p xs,y=.ref p/\(SqL K H p xs\/SqT K H p xs)/\Jh x=true/\xs.all Jh=true/\Q (.bl (if neg then !inV x xs else inV x xs)) H
theorem Af9:OpR X (compareOp .In) (rIn X.K false):=by
 intro pins s σ H x y v u Q I rx ry h
 obtain⟨p,xs,rfl,hq,fx,fs,q⟩:=h
 cases ry
 rcases hq with hq | hq
 ·obtain⟨its,r,pl,hz⟩:=I.list hq
  refine SeqAt.in_listAt (eqU x) pl.isList (λw hw=>Qc rx fx r fs w (by simpa using hw)) ⟨.bl _,H,I,rfl,?_⟩
  rw[show its.toArray.any (eqU x)=its.any (eqU x) by simp,Tn r fs]
  exact q
 ·obtain⟨its,r,pl,hz⟩:=I.tuple hq
  refine SeqAt.in_tupleAt (eqU x) pl (λw hw=>Qc rx fx r fs w (by simpa using hw)) ⟨.bl _,H,I,rfl,?_⟩
  rw[show its.toArray.any (eqU x)=its.any (eqU x) by simp,Tn r fs]
  exact q
theorem Abq:OpR X (compareOp .NotIn) (rIn X.K true):=by
 intro pins s σ H x y v u Q I rx ry h
 obtain⟨p,xs,rfl,hq,fx,fs,q⟩:=h
 cases ry
 rcases hq with hq | hq
 ·obtain⟨its,r,pl,hz⟩:=I.list hq
  refine SeqAt.notIn_listAt (eqU x) pl.isList (λw hw=>Qc rx fx r fs w (by simpa using hw)) ⟨.bl _,H,I,rfl,?_⟩
  rw[show its.toArray.any (eqU x)=its.any (eqU x) by simp,Tn r fs]
  exact q
 ·obtain⟨its,r,pl,hz⟩:=I.tuple hq
  refine SeqAt.notIn_tupleAt (eqU x) pl (λw hw=>Qc rx fx r fs w (by simpa using hw)) ⟨.bl _,H,I,rfl,?_⟩
  rw[show its.toArray.any (eqU x)=its.any (eqU x) by simp,Tn r fs]
  exact q
theorem Abr:JC X (.builtin "len") (λxs H Q=>∃ p ys,xs=[.ref p]/\(SqL X.K H p ys\/SqT X.K H p ys)/\Q (.int ys.length) H):=by
 intro pins s σ H xs us Q I r h
 obtain⟨p,ys,rfl,hq,q⟩:=h
 obtain⟨u,rfl,rx⟩:=vals1 r
 cases rx
 have hn:=Vv
 rcases hq with hq | hq
 ·obtain⟨its,r',pl,hz⟩:=I.list hq
  have hlen:=r'.length
  exact Calls.call_len_list pl.isList (by simp only [Ap3] <;> omega) ⟨.int ys.length,H,I.tok _,⟨s.toks+1,by rw[Ap3,hlen]⟩,q⟩
 ·obtain⟨its,r',pl,hz⟩:=I.tuple hq
  have hlen:=r'.length
  exact len_tuple pl (by simp only [Ap3] <;> omega) ⟨.int ys.length,H,I.tok _,⟨s.toks+1,by rw[Ap3,hlen]⟩,q⟩
theorem Bo:JC X (.builtin "len") (λxs H Q=>∃ z,xs=[.str z]/\z.length<=sizeLine/\Q (.int z.length) H):=by
 intro pins s σ H xs us Q I r h
 obtain⟨z,rfl,hz,q⟩:=h
 obtain⟨u,rfl,t,rfl⟩:=vals1 r
 have hn:=Vv
 exact len_str (by omega) ⟨.int z.length,H,I.tok _,⟨_,rfl⟩,q⟩
theorem Abs:JC X (.type "list") (λxs H Q=>∃ p ys,xs=[.ref p]/\(SqL X.K H p ys\/SqT X.K H p ys)/\∀ l,H l=none->Q (.ref l) (upd H l (.lst ys))):=by
 intro pins s σ H xs us Q I r h
 obtain⟨p,ys,rfl,hq,q⟩:=h
 obtain⟨u,rfl,rx⟩:=vals1 r
 cases rx
 have fin:∀(its:List Value),Vals ys its->ys.length<=sizeLine->∀(h':Heap) (c':Nat),(∀ b o',s.heap.get? b=some o'->h'.get? b=some o') ->
   h'.get? s.heap.objs.size=some { cls:=.type "list", dict:=none,data:=.seq its.toArray c',slots:=#[] }->EP X pins σ Q (.ref s.heap.objs.size) { s with heap:=h' }:=λits r' hz h' c' kp e =>
  ⟨.ref s.heap.objs.size,_,I.laid (t':=s.toks) kp (Apv _) (show GJ X.prog X.w _ h' _ (.lst ys) from⟨hz,its,c',r',e⟩),rfl,q _ (I.hok.fresh (Apv _))⟩
 rcases hq with hq | hq
 ·obtain⟨its,r',pl,hz⟩:=I.list hq
  have hlen:=r'.length
  obtain⟨o,ho,hc,n,hd⟩:=pl.isList
  exact call_list_seq p (.inl rfl) ho hc hd (λh' c' kp e=>fin its r' hz h' c' kp e) (by simp only [Ap3] <;> omega)
 ·obtain⟨its,r',pl,hz⟩:=I.tuple hq
  have hlen:=r'.length
  obtain⟨o,ho,hc,n,hd⟩:=pl
  exact call_list_seq p (.inr rfl) ho hc hd (λh' c' kp e=>fin its r' hz h' c' kp e) (by simp only [Ap3] <;> omega)
def tyV (K:W.Frag)(T:String)(x:V)(H:Hp):Prop:=match x with
 | .str _=>T = "str"
 | .int _=>T = "int"
 | .ref p=>(T = "list" /\ ∃ xs,SqL K H p xs)\/(T = "tuple" /\ ∃ o,K.lookup p=some o/\o.cls=.type "tuple" /\ o.dict=none) \/
   (T = "dict" /\ ((∃ kvs,H p=some (.dK kvs))\/∃ kvs,H p=some (.dT kvs)))\/(T = "set" /\ ∃ S n,H p=some (.set S n))
 | _=>False
theorem AgQ{pins:List (Addr × Obj)}{σ:St}{H:Hp}{s:Shared}{T:String}{x:V}{v:Value}(I:Inv X pins σ H s)(r:RelV x v)(ty:tyV X.K T x H) :
  s.TypeIs v T/\∀ a,v=.ref a->∃ ob,s.heap.get? a=some ob/\ob.dict=none:=by
 cases x with
 | str z =>
  obtain⟨t,rfl⟩:=r
  cases (show T = "str" from ty)
  exact⟨typeIs_str s z t,λ_ e=>nomatch e⟩
 | int i =>
  obtain⟨t,rfl⟩:=r
  cases (show T = "int" from ty)
  exact⟨typeIs_int s i t,λ_ e=>nomatch e⟩
 | ref p =>
  cases r
  rcases ty with ⟨rfl,xs,hq⟩ | ⟨rfl,o,hk,hc,hd⟩ | ⟨rfl,hk⟩ | ⟨rfl,S,n,hk⟩
  ·obtain⟨its,_,pl,_⟩:=I.list hq
   refine⟨pl.isList.typeIs,λa e=>?_⟩
   cases e
   obtain⟨o,n,e,c,hd,_⟩:=pl
   exact⟨o,e,hd⟩
  ·refine⟨⟨o,I.kIn p o hk,hc⟩,λa e=>?_⟩
   cases e
   exact⟨o,I.kIn _ o hk,hd⟩
  ·have z:∃ o,s.heap.get? p=some o/\o.ExactDict:=by
    rcases hk with ⟨kvs,hk⟩ | ⟨kvs,hk⟩
    ·obtain⟨_,_,_,_,o,_,_,e,ex,_⟩:=I.hok p _ hk
     exact⟨o,e,ex⟩
    ·obtain⟨_,_,_,_,o,_,_,e,ex,_⟩:=I.hok p _ hk
     exact⟨o,e,ex⟩
   obtain⟨o,e,ex⟩:=z
   refine⟨⟨o,e,ex.1⟩,λa e2=>?_⟩
   cases e2
   exact⟨o,e,ex.2.1⟩
  ·obtain⟨o,_,_,_,e,ex,_⟩:=I.hok p _ hk
   refine⟨⟨o,e,ex.1⟩,λa e2=>?_⟩
   cases e2
   exact⟨o,e,ex.2.1⟩
 | _=>exact False.elim ty
def Ams (K:W.Frag)(T:String)(r:V->List V->Hp->VK->Prop)(to:TE):TE:=λσ H Q=>to σ H λx H1=>tyV K T x H1/\r x [] H1 Q
def tBM (K:W.Frag)(T:String)(r:V->List V->Hp->VK->Prop)(to:TE)(t:TA):TE:=λσ H Q=>to σ H λx H1=>tyV K T x H1/\t σ H1 λxs H2=>r x xs H2 Q
variable {o e:Expr}{es:List Expr}{to:TE}{t:TA}{name:Str}{apos cpos:Pos}{T id:String}{r:V->List V->Hp->VK->Prop}
theorem AkV(pa:PlainAttrs T)(slot:Slot T name id)(hty:typeOf (.builtin id)=pure (.type "method_descriptor")) (hm:MtR X id r) (ho:PE X o to)
  (hbase:attributeBase o name X.env (eval o X.env)=eval o X.env:=by rfl) (hline:(apos.endLine == cpos.line)=true:=by rfl):PE X (.Call (.Attribute o name apos) [] [] cpos) (Ams X.K T r to):=by
 intro pins s σ H Q I h
 refine wpAny_Call_method0_late hbase hline (thn (ho pins s σ H _ I h) λv s1 ⟨x,H1,I1,r1,ty,q1⟩=>?_)
 obtain⟨h1,h2⟩:=AgQ I1 r1 ty
 exact⟨T,id,pa,slot,hty,h1,h2,Calls.callWith_builtin rfl (PySem.evalArgs_none (hm pins s1 σ H1 x [] v [] Q I1 r1 .nil q1))⟩
theorem Amt(pa:PlainAttrs T)(slot:Slot T name id)(hty:typeOf (.builtin id)=pure (.type "method_descriptor")) (hm:MtR X id r) (ho:PE X o to) (ha:PA X (e::es) t)
  (hbase:attributeBase o name X.env (eval o X.env)=eval o X.env:=by rfl)
  (hfew:((backTo cpos (starEach (e::es) X.env)).all (λx=>!x.1) && (backToKw cpos (keywordEach [] X.env)).all (λx=>x.1.isSome)
   && decide ((e::es).length+([]:List Keyword).length+(if ([]:List Keyword).isEmpty then 0 else 1)<30))=true:=by rfl)
  (hline:(apos.endLine == cpos.line)=true:=by rfl) (hs:starEach (e::es) X.env=(false,eval e X.env)::starEach es X.env:=by rfl) (hplain:(backTo cpos (starEach es X.env)).any (·.1)=false:=by rfl) :
  PE X (.Call (.Attribute o name apos) (e::es) [] cpos) (tBM X.K T r to t):=by
 intro pins s σ H Q I h
 refine wpAny_Call_method_late hbase hfew hline rfl (thn (ho pins s σ H _ I h) λv s1 ⟨x,H1,I1,r1,ty,q1⟩=>?_)
 obtain⟨h1,h2⟩:=AgQ I1 r1 ty
 refine⟨T,id,pa,slot,hty,h1,h2,?_⟩
 have hA:=ha cpos pins s1 σ H1 _ I1 q1
 rw[hs] at hA ⊢
 refine Calls.callWith_builtin (by show(false || (backTo cpos (starEach es X.env)).any (·.1))=false;rw[hplain] <;> rfl) (Calls.evalArgs_plain ?_)
 exact thn hA λus s2 ⟨vs,H2,I2,r2,q2⟩=>hm pins s2 σ H2 x vs v us Q I2 r1 r2 q2
end
def MtM (X:Cx)(id:String)(r:V->List V->Hp->VK->Prop):Prop :=
 ∀(pins:List (Addr × Obj)) (s:Shared) (σ:St) (H:Hp) (x:V) (xs:List V) (v:Value) (us:List Value) (Q:VK),Inv X pins σ H s->RelV x v->Vals xs us->r x xs H Q ->
  wpAny (model X.prog X.w) X.A (call (.builtin id) (v::us)) (EP X pins σ Q) X.xe s
theorem Vals.one:∀{x:V} {us:List Value},Vals [x] us->∃ u,us=[u]/\RelV x u
 | _,_,.cons r .nil=>⟨_,rfl,r⟩
theorem Vals.two:∀{x y:V} {us:List Value},Vals [x,y] us->∃ u v,us=[u,v]/\RelV x u/\RelV y v
 | _,_,_,.cons r (.cons q .nil)=>⟨_,_,rfl,r,q⟩
theorem Vals.zero:∀{us:List Value},Vals [] us->us=[]
 | _,.nil=>rfl
theorem Vals.rep{xs:List V}{us:List Value}(h:Vals xs us):∀ k:Nat,Vals (List.replicate k xs).flatten (List.replicate k us).flatten
 | 0=>.nil
 | k+1=>by
  rw[ApM,ApM,ApH,ApH]
  exact Vals.append h (Vals.rep h k)
theorem foldl_rep(its:List Value):∀(k:Nat) (acc:List Value),
  List.foldl (λx1 x2=>x1++x2) acc.toArray (List.replicate k its.toArray)=(acc++(List.replicate k its).flatten).toArray
 | 0,acc=>by simp
 | k+1,acc=>by
  have e:acc.toArray++its.toArray=(acc++its).toArray:=by simp
  have e2:(acc++its)++(List.replicate k its).flatten=acc++(List.replicate (k+1) its).flatten:=by
   rw[ApM,ApH,ApN]
  rw[<- e2,<- foldl_rep its k (acc++its),<- e,ApM,Aq1]
section
variable {X:Cx}{pins:List (Addr × Obj)}{σ:St}{H:Hp}{s:Shared}{l b:Addr}{xs ys zs:List V}
theorem Inv.Amu{its its':List Value}{n:Nat}{f:Array Value->Array Value}{t':Nat}(I:Inv X pins σ H s)(hH:H l=some (.lst xs))
  (e:s.heap.get? l=some { cls:=.type "list", data:=.seq its.toArray n }) (hf:f its.toArray=its'.toArray) (hv:Vals ys its') (hz:ys.length<=sizeLine) :
  Inv X pins σ (upd H l (.lst ys)) { s with heap:=s.heap.update l (Obj.mapSeq f),toks:=t' }:=by
 have q:=PySem.IsL.update e f
 rw[hf] at q
 refine I.write (x:=l) (e:=l) (by rw[hH];exact trivial) (.inl rfl) (λb' u hb hu=>(Heap.get?_update_other s.heap (Obj.mapSeq f) (Ne.symm hb)).trans hu) ⟨_,q⟩ ?_
 exact⟨hz,its',_,hv,q⟩
theorem Inv.Amv{its:List Value}{t':Nat}(I:Inv X pins σ H s)(hv:Vals ys its)(hz:ys.length<=sizeLine) :
  Inv X pins σ (upd H s.heap.objs.size (.lst ys)) { s with heap:=s.heap.push { cls:=.type "list", data:=.seq its.toArray },toks:=t' } :=
 I.laid (λ_ _ q=>Heap.get?_push_of_some _ q) (Apv _) ⟨hz,its,0,hv,Heap.get?_push_size _ rfl⟩
theorem Inv.fresh(I:Inv X pins σ H s):H s.heap.objs.size=none:=I.hok.fresh (Apv _)
theorem Inv.AgR(I:Inv X pins σ H s)(hH:H l=some (.lst xs)):xs.length<=sizeLine/\∃(its:List Value) (n:Nat),Vals xs its/\xs.length=its.length/\s.heap.get? l=some { cls:=.type "list", data:=.seq its.toArray n }:=by
 obtain⟨z,its,n,r,e⟩:=I.hok l _ hH
 exact⟨z,its,n,r,r.length,e⟩
theorem AgS{n:Nat}(h:n<=sizeLine):Builtin.List.listTooLong n=false:=by
 unfold Builtin.List.listTooLong
 exact decide_eq_false (by omega)
end
section
variable {X:Cx}
def AiZ:V->List V->Hp->VK->Prop:=λx vs H Q=>∃ l xs y,x=.ref l/\vs=[y]/\H l=some (.lst xs)/\xs.length<sizeLine/\Q .non (upd H l (.lst (xs++[y])))
theorem Ga:MtM X "list.append" AiZ:=by
 intro pins s σ H x vs v us Q I rx rv h
 obtain⟨l,xs,y,rfl,rfl,hH,hz,q⟩:=h
 cases rx
 obtain⟨u,rfl,ru⟩:=rv.one
 obtain⟨z,its,n,r,hl,e⟩:=I.AgR hH
 refine call_meets F.slot_list_append ⟨_,e,rfl⟩ F.entry_list_append (F.args_list_append_2 _ _) (PySem.list_append l its.toArray n u (by rw[Ap3];omega)) ⟨e,?_⟩
 refine⟨.non,_,I.Amu (its':=its++[u]) hH e (by simp) (r.append (.cons ru .nil)) ?_,rfl,q⟩
 rw[Aps,ApX]
 omega
def Anw:V->List V->Hp->VK->Prop:=λx vs H Q=>∃ l b xs zs,x=.ref l/\vs=[.ref b]/\H l=some (.lst xs)/\H b=some (.lst zs)/\xs.length+zs.length<=sizeLine/\Q .non (upd H l (.lst (xs++zs)))
def AoW:V->List V->Hp->VK->Prop:=λx vs H Q=>∃ l xs y,x=.ref l/\vs=[]/\H l=some (.lst xs)/\xs[xs.length-1]?=some y/\Q y (upd H l (.lst xs.dropLast))
def AnM:V->List V->Hp->VK->Prop:=λx vs H Q=>∃ l xs i k y,x=.ref l/\vs=[.int i]/\H l=some (.lst xs) /\ -(2 ^ 63)<=i/\i<2 ^ 63/\seqIndex? i xs.length=some k/\xs[k]?=some y/\Q y (upd H l (.lst (xs.eraseIdx k)))
def Amw:V->List V->Hp->VK->Prop:=λx vs H Q=>∃ l xs,x=.ref l/\vs=[]/\H l=some (.lst xs)/\Q .non (upd H l (.lst xs.reverse))
def AkW:V->List V->Hp->VK->Prop:=λx vs H Q=>∃ l xs,x=.ref l/\vs=[]/\H l=some (.lst xs)/\Q .non (upd H l (.lst []))
theorem Ac8:MtM X "list.clear" AkW:=by
 intro pins s σ H x vs v us Q I rx rv h
 obtain⟨l,xs,rfl,rfl,hH,q⟩:=h
 cases rx
 have hus:=rv.zero
 subst hus
 obtain⟨z,its,n,r,hl,e⟩:=I.AgR hH
 refine call_meets F.slot_list_clear ⟨_,e,rfl⟩ F.entry_list_clear (F.args_list_clear_1 _) (AutoSeq1.list_clear_list_0 l its.toArray n (by rw[Ap3];omega)) ⟨e,?_⟩
 exact⟨.non,_,I.Amu (its':=[]) (ys:=[]) hH e rfl .nil (Ap8 _),rfl,q⟩
def Amx:R2:=λx y H Q=>∃ l b xs zs,x=.ref l/\y=.ref b/\H l=some (.lst xs)/\H b=some (.lst zs)/\xs.length+zs.length<=sizeLine/\∀ p,H p=none->Q (.ref p) (upd H p (.lst (xs++zs)))
theorem XX:OpR X (binaryOp .Add) Amx:=by
 intro pins s σ H x y v u Q I rx ry h
 obtain⟨l,b,xs,zs,rfl,rfl,hH,hB,hz,q⟩:=h
 cases rx
 cases ry
 obtain⟨z,its,n,r,hl,e⟩:=I.AgR hH
 obtain⟨z2,its2,n2,r2,hl2,e2⟩:=I.AgR hB
 refine PySem.P.add_list e e2 ?_ (by rw[Ap3,Ap3];omega)
 have ea:its.toArray++its2.toArray=(its++its2).toArray:=by simp
 rw[ea]
 exact⟨.ref _,_,I.Amv (t':=s.toks) (r.append r2) (by rw[Aps];omega),rfl,q _ I.fresh⟩
def AnN:R2:=λx y H Q=>∃ l k xs,x=.ref l/\y=.int k/\H l=some (.lst xs) /\ -(2 ^ 63)<=k/\k<2 ^ 63/\xs.length*k.toNat<=sizeLine /\
 ∀ p,H p=none->Q (.ref p) (upd H p (.lst (List.replicate k.toNat xs).flatten))
theorem len_rep{α:Type}(xs:List α)(k:Nat):(List.replicate k xs).flatten.length=k*xs.length:=by
 induction k with
 | zero=>simp
 | succ k ih=>rw[ApM,ApH,Aps,ih,Aq2,Nat.add_comm]
theorem Abt:OpR X (binaryOp .Mult) AnN:=by
 intro pins s σ H x y v u Q I rx ry h
 obtain⟨l,k,xs,rfl,rfl,hH,h1,h2,hz,q⟩:=h
 cases rx
 obtain⟨t,rfl⟩:=ry
 obtain⟨z,its,n,r,hl,e⟩:=I.AgR hH
 have hlen:its.toArray.size*k.toNat<=sizeLine:=by rw[Ap3,<- hl];exact hz
 have AnO:¬its.toArray.size*k.toNat>(2 ^ 63-1) / 8:=by
  have:(sizeLine:Nat)<=(2 ^ 63-1) / 8:=by decide
  omega
 have hfit:¬(!Builtin.List.listFitsIndex k)=true:=by
  rw[fitsIndex_both h1 h2]
  exact Ap5
 have Amy:¬Builtin.List.listTooLong (its.toArray.size*k.toNat)=true:=by
  rw[AgS hlen]
  exact Ap5
 have hnew:List.foldl (λx1 x2=>x1++x2) #[] (List.replicate (if its.toArray.isEmpty=true then 0 else k.toNat) its.toArray)=(List.replicate k.toNat its).flatten.toArray:=by
  have f0:∀ m:Nat,List.foldl (λx1 x2=>x1++x2) #[] (List.replicate m its.toArray)=(List.replicate m its).flatten.toArray:=λm=>by
   have:=foldl_rep its m []
   rw[Aq3] at this
   exact this
  rw[f0]
  cases its with
  | nil=>simp
  | cons a r'=>rw[if_neg (by simp)]
 refine wpAny_binaryOp_repeat_ref (T := "list") (U := "int") (by decide) ⟨_,e,rfl⟩ (λs'=>typeIs_int s' k t) noFill_list_mul F.fills_int_mul F.slot_int_rmul repeat_list F.slot_int_index.lookup
  (call_meets F.slot_int_rmul (typeIs_int s k t) F.entry_int_rmul (F.args_int_rmul_2 _ _) (int___rmul___int_list k t l its.toArray n)
   ⟨e,rfl,⟨_,e,rfl⟩,call_meets F.slot_list_mul ⟨_,e,rfl⟩ F.entry_list_mul (F.args_list_mul_2 _ _) (AutoListH.list___mul___list_int_3 l its.toArray n k t hfit AnO Amy) ⟨e,?_⟩⟩)
 rw[hnew]
 exact⟨.ref _,_,I.Amv (t':=s.toks) (r.rep k.toNat) (by rw[len_rep,Aqg];exact hz),rfl,q _ I.fresh⟩
end
end L2
namespace Att
open PySem PySem.W PySem.Calls PyProof.Rows
theorem Xb{P:Params}{h:Heap}:∀(ns:List Int) (vs:List Value),WellAll P h vs (ns.map WData.int)->IntsAre vs ns:=by
 intro ns
 induction ns with
 | nil =>
  intro vs w
  rw[ApW] at w
  cases w
  exact .nil
 | cons n ns ih =>
  intro vs w
  rw[Apw] at w
  cases w with
  | cons a b =>
   cases a
   exact .cons _ _ (ih _ b)
theorem AfA{l:OpenLaw}{n:Nat}(hn:l.most=some n){P:Params}{h:Heap}{args:List WData}{vals:List Value}
  (hpre:l.row.toRowW.claim.pre args=true) (hwl:WellAll P h vals args) :
  ∃ a vs ns,vals=[Value.ref a]/\args=[WData.list (ns.map WData.int)]/\h.get? a=some { cls:=.type "list", data:=.seq vs.toArray }/\IntsAre vs ns/\ns.length<=n:=by
 have hsh:WShape.hasAll [] args [.list .int]=true:=(pre_splitW hpre).1
 have hc:l.pre.holds [] { args:=args }=true:=(pre_splitW hpre).2
 obtain⟨d,r,rfl,h1,h2⟩:=hasAllW_cons hsh
 obtain rfl:=hasAllW_nil h2
 obtain⟨xs,rfl,h3⟩:=hasW_list h1
 obtain⟨ns,rfl⟩:=items_int h3
 have hlen:ns.length<=n:=by
  unfold OpenLaw.pre at hc
  have h4:(WTm.not (.lt (.lit (.int (n:Int))) (.len (.arg 0)))).holds [] { args:=[.list (ns.map .int)] }=true:=by
   have h4:=(holds_andW hc).1
   rw[hn] at h4
   exact h4
  have h5:=condW_of h4 (w_not (w_lt w_lit (w_len_list (w_arg rfl))))
  rw[Apq] at h5
  refine Nat.le_of_not_lt λq=>?_
  have q':(n:Int)<((ns.length:Nat):Int):=by omega
  first
   | (rw[decide_eq_true q'] at h5;exact absurd h5 (by decide))
   | (simp at h5;omega)
 cases hwl with
 | cons w1 w2 =>
  cases w2
  cases w1 with
  | list ho hall=>exact⟨_,_,ns,rfl,rfl,ho,Xb ns _ hall,hlen⟩
theorem AfB(l:OpenLaw)(args:List WData):l.row.toRowW.claim.post args (.bool true) args=true :=
 postW_of (r:=l.row.toRowW) (X:=(true == true))
  (show WShape.has [] (.bool true) .bool=true by first | rfl | decide | simp[WShape.has,WShape.arms,WShape.armsAll])
  (show(WTm.eq .res (.lit (.bool true))).value [] { args:=args,res:=some (.bool true),after:=args }=some (.bool (true == true)) from w_eq_bool (w_res rfl) w_lit) rfl
theorem Ac9{l:OpenLaw}{n:Nat}{q:Program}{loose:List Str}{XP:(Str->Option Value)->Heap->Prop}{YP:World->Heap->Prop}{d:DefRec}
  (hn:l.most=some n) (hdf:d.params.defaults=[])
  (call:∀(w:World) (s₀ s₁:Shared) (mg mb:Str->Option Value) (fa:Addr) (o:Obj) (pm cd doc:Value) (a:Addr) (vs:List Value) (ns:List Int),
   Ground q loose [] XP w s₀ mg mb s₁.heap->YP w s₁.heap ->
   s₁.heap.get? fa=some o->o.data=.func (docDef d.name d.params d.body d.scope pm cd doc)->s₁.heap.CodeRec cd d.name->mg d.name=some (.ref fa) ->
   s₁.heap.get? a=some { cls:=.type "list", data:=.seq vs.toArray }->IntsAre vs ns->ns.length<=n->s₁.gens=#[] ->
   codeAny (model l.prog w) callerA (.call (.ref fa) ⟨[.ref a],[]⟩) (λr s'=>r=.ok (.ret (.bool true))/\OldK s₁.heap s'.heap/\s'.os=s₁.os/\AllBare s'.gens) s₁) :
  WalkO q loose XP YP l.row.toRowW d [] (λf vs=>PySem.call f vs):=by
 intro w s₀ s₁ mg mb G Y fa o pm cd doc dV kV ho hd hcd hD hmg hg args vals as hpre hlay hrd hwl hlo
 obtain rfl:dV=.none:=Dflts.none hD hdf
 obtain rfl:kV=.none:=Dflts.noKw hD
 obtain⟨a,vs,ns,rfl,rfl,hobj,hints,hlen⟩:=AfA hn hpre hwl
 refine enter_call (codeAny_mono (call w s₀ s₁ mg mb fa o pm cd doc a vs ns G Y ho (fd_plain hd) hcd hmg hobj hints hlen hg) λr s' hq=>?_)
 obtain⟨rfl,h2,h3,h4⟩:=hq
 exact⟨.inl ⟨.bool true,.bool true,[],rfl,λ_=>rfl,.bool true,AfB l _,λ_=>⟨List.Pairwise.nil,λ_ hm=>(nomatch hm)⟩⟩,h2,h3,h4⟩
section
variable {prog:Program}{w:World}{A:Around}{E:Value->Shared->Prop}{s:Shared}{K:Frag}
def AnP (h:Heap):Heap:={ h with objs:=#[] }
def ledger(h:Heap)(L d:Addr):List (Addr × Obj):=(List.range h.objs.size).filterMap λa=>if a=L\/a=d then none else (h.get? a).map λo=>(a,o)
end
end Att
namespace L2
open PySem PySem.Spec PyProof.Rows
theorem AaB:∀{vs:List Value} {ns:List Int},IntsAre vs ns->Vals (ns.map V.int) vs
 | _,_,.nil=>.nil
 | _,_,.cons n t h=>.cons ⟨t,rfl⟩ (AaB h)
def Only(H:Hp):Prop:=∀ b,H b=none\/∃ o xs,H b=some (.frz o (.lst xs))
theorem AgT{P:Program}{w:World}{K:W.Frag}{mg mb:Str->Option Value}{CX:CXT}{k:Nat}{fa a:Addr}{fd:FuncData}{x:Str}{sp:Sp}{s₁:Shared}{vs:List Value}{ns:List Int}
  (KX:K.In s₁.heap) (hns:s₁.heap.Ns mainGlobals mg) (hb:s₁.heap.Ns builtinsNs mb) (hbb:∀ x:Str,x ≠ "__name__" -> mb x=bootBuiltins x) (hlim:s₁.heap.NoLimit) (hg:s₁.gens=#[])
  (ha:s₁.heap.get? a=some { cls:=.type "list", data:=.seq vs.toArray }) (hi:IntsAre vs ns) (hl:ns.length<=sizeLine) (hr:GK k callerA)
  (F:∀ base:Heap,K.In base->base.Ns mainGlobals mg->Br P w K mg base CX k fa fd [x] sp) (hbind:∀(s:Shared) (u:Value),BindsTo s fd ⟨[u],[]⟩ [(x,u)])
  (hsp:∀ H:Hp,Only H->SqL K H a (ns.map V.int)->sp [.ref a] H (λv _=>v=.bl true) λ_ _ _=>False)
  (hCX:∀ H e s',CX [] H s₁ (λ_ _ _=>False) e s'->False) :
  codeAny (model P w) callerA (.call (.ref fa) ⟨[.ref a],[]⟩) (λr s'=>r=.ok (.ret (.bool true))/\OldK s₁.heap s'.heap/\s'.os=s₁.os/\AllBare s'.gens) s₁:=by
 have rv:=AaB hi
 have lenV:=hi.length
 have core:∀ H:Hp,Only H->SqL K H a (ns.map V.int)->HOk P w H s₁.heap->(∀ b,H b≠none->b=a)->(H a≠none->K.lookup a=none) ->
   codeAny (model P w) callerA (.call (.ref fa) ⟨[.ref a],[]⟩) (λr s'=>r=.ok (.ret (.bool true))/\OldK s₁.heap s'.heap/\s'.os=s₁.os/\AllBare s'.gens) s₁:=by
  intro H hO hS hok hA hK
  have AeG:∀{b:Addr} {o:Obj},s₁.heap.get? b=some o->H b=none->(Abk s₁.heap H).get? b=some o:=λe n=>AgE e n
  have noA:∀{b:Addr} {o:Obj} {es:Array DictEntry} {ep:Nat},s₁.heap.get? b=some o->o.data=.dict es ep->H b=none:=λ{b o es ep} e d=>by
   cases q:H b with
   | none=>rfl
   | some u =>
    have e':b=a:=hA b (by rw[q];simp)
    subst e'
    rw[ha] at e;cases e
    have d':Data.seq vs.toArray _=Data.dict es ep:=d
    cases d'
  have nsK:∀{b:Addr} {m:Str->Option Value},s₁.heap.Ns b m->(Abk s₁.heap H).Ns b m:=λ{b m} ⟨o,es,ep,e,d,r⟩=>⟨o,es,ep,AeG e (noA e d),d,r⟩
  have hKb:K.In (Abk s₁.heap H):=λb o e=>AeG (KX b o e) (by
   cases q:H b with
   | none=>rfl
   | some u =>
    have e':b=a:=hA b (by rw[q];simp)
    subst e'
    rw[hK (by rw[q];simp)] at e;cases e)
  have hM:Mod K mg (Abk s₁.heap H):=⟨hKb,nsK hns,⟨mb,nsK hb,hbb⟩,let ⟨mc,h1,h2⟩:=hlim;⟨mc,nsK h1,h2⟩⟩
  have e0:AdN P w K mg (Abk s₁.heap H) callerA [] s₁ H:=⟨rfl,hM,λb o e=>AiO e,Aqe (Af0 _ _),trivial,λb hb=>absurd (show b∈([]:List Addr) from hb) (by simp),hok,.of_eq hg⟩
  refine codeAny_mono ((F _ hKb (nsK hns)).run callerA [] s₁ H ⟨[.ref a],[]⟩ [.ref a] [.ref a] _ _ hr e0 (hbind s₁ (.ref a)) (.cons rfl .nil) (hsp H hO hS)) λr s' h=>?_
  cases r with
  | error e=>exact(hCX H e s' h).elim
  | ok fl =>
   cases fl with
   | next=>exact False.elim h
   | brk=>exact False.elim h
   | cont=>exact False.elim h
   | ret u =>
    obtain⟨v,H',os,bare,un,hok',r',q⟩:=h
    have q':v=.bl true:=q
    subst q'
    obtain rfl:u=Value.bool true:=r'
    refine⟨rfl,OldK.of_keep λb o e=>?_,os,bare⟩
    cases q:H b with
    | none=>exact un.keep b o e q (by intro z;exact absurd (show b∈([]:List Addr) from z) (by simp)) (by simp)
    | some u =>
     rcases hO b with z | ⟨ob,xs,z⟩
     ·rw[q] at z;cases z
     ·have z2:=un.JG b ob _ z
      obtain⟨e1,_⟩:=hok b _ z
      obtain⟨e2,_⟩:=hok' b _ z2
      rw[e] at e1;cases e1
      exact e2
 cases hk:K.lookup a with
 | some o =>
  have e:=KX a o hk
  rw[ha] at e
  cases e
  refine core (λ_=>none) (λ_=>.inl rfl) (.inr ⟨_,vs.toArray,_,hk,rfl,rfl,rfl,by rw[Ap3,lenV];exact hl,by simpa using rv⟩) (λb u z=>by have z':(none:Option HO)=some u:=z;cases z') (λb z=>absurd rfl z) λz=>absurd rfl z
 | none =>
  refine core (λb=>if b=a then some (.frz { cls:=.type "list", data:=.seq vs.toArray } (.lst (ns.map V.int))) else none) (λb=>?_) (.inl (.inr ⟨{ cls:=.type "list", data:=.seq vs.toArray },if_pos rfl⟩)) (λb u z=>?_) (λb z=>?_) λ_=>hk
  ·by_cases hb:b=a
   ·exact .inr ⟨_,_,if_pos hb⟩
   ·exact .inl (if_neg hb)
  ·by_cases hb:b=a
   ·have z':=(if_pos hb).symm.trans z
    cases z'
    subst hb
    exact⟨ha,by rw[Apq];exact hl,vs,_,rv,ha⟩
   ·have z':=(if_neg hb).symm.trans z
    cases z'
  ·by_cases hb:b=a
   ·exact hb
   ·exact absurd (if_neg hb) z
abbrev KOf {K:W.Frag} {h:Heap} (_:K.In h):W.Frag:=K
theorem Aja{l:W.OpenLaw}{n k:Nat}{q:Program}{loose:List Str}{XP:(Str->Option Value)->Heap->Prop}{YP:World->Heap->Prop}{d:DefRec}{K:Params->W.Frag}{CX:World->CXT}{sp:World->Sp}{x:Str}
  (hn:l.most=some n) (hn2:n<=sizeLine) (hdf:d.params.defaults=[]) (hr:GK k callerA)
  (hY:∀(w:World) (h:Heap),YP w h->(K w.params).In h)
  (F:∀(w:World) (mg:Str->Option Value) (fa:Addr) (h:Heap),(K w.params).In h->h.Ns mainGlobals mg->mg d.name=some (.ref fa) ->
   ∃ fd:FuncData,(∀(s:Shared) (u:Value),BindsTo s fd ⟨[u],[]⟩ [(x,u)]) /\
    ∀ base:Heap,(K w.params).In base->base.Ns mainGlobals mg->Br l.prog w (K w.params) mg base (CX w) k fa fd [x] (sp w))
  (hsp:∀(w:World) (H:Hp) (a:Addr) (ns:List Int),ns.length<=n->Only H->SqL (K w.params) H a (ns.map V.int)->sp w [.ref a] H (λv _=>v=.bl true) λ_ _ _=>False)
  (hCX:∀(w:World) (H:Hp) (s:Shared) (e:Value) (s':Shared),CX w [] H s (λ_ _ _=>False) e s'->False) :
  W.WalkO q loose XP YP l.row.toRowW d [] (λf vs=>PySem.call f vs):=by
 refine Att.Ac9 hn hdf λw s₀ s₁ mg mb fa o pm cd doc a vs ns G Y ho hd hcd hmg hobj hints hlen hg=>?_
 have KX:=hY w _ Y
 obtain⟨fd,hb,hF⟩:=F w mg fa _ KX G.T.g hmg
 exact AgT KX G.T.g G.T.b G.T.builtins G.T.nolimit hg hobj hints (ApF hlen hn2) hr hF hb (λH hO hS=>hsp w H a ns hlen hO hS) λH e s'=>hCX w H s₁ e s'
theorem AgU{l:W.OpenLaw}{n k:Nat}{q:Program}{loose:List Str}{XP:(Str->Option Value)->Heap->Prop}{YP:World->Heap->Prop}{d:DefRec}{K:Params->W.Frag}{CX:CXT}{sp:W.Frag->Sp}{x:Str}
  (hn:l.most=some n) (hn2:n<=sizeLine) (hdf:d.params.defaults=[]) (hr:GK k callerA)
  (hY:∀(w:World) (h:Heap),YP w h->(K w.params).In h)
  (F:∀(w:World) (mg:Str->Option Value) (fa:Addr) (h:Heap),(K w.params).In h->h.Ns mainGlobals mg->mg d.name=some (.ref fa) ->
   ∃ fd:FuncData,(∀(s:Shared) (u:Value),BindsTo s fd ⟨[u],[]⟩ [(x,u)]) /\
    ∀ base:Heap,(K w.params).In base->base.Ns mainGlobals mg->Br l.prog w (K w.params) mg base CX k fa fd [x] (sp (K w.params)))
  (hsp:∀(K:W.Frag) (H:Hp) (a:Addr) (ns:List Int),ns.length<=n->Only H->SqL K H a (ns.map V.int)->sp K [.ref a] H (λv _=>v=.bl true) λ_ _ _=>False)
  (hCX:∀(H:Hp) (s:Shared) (e:Value) (s':Shared),CX [] H s (λ_ _ _=>False) e s'->False) :
  W.WalkO q loose XP YP l.row.toRowW d [] (λf vs=>PySem.call f vs) :=
 Aja (K:=K) (CX:=λ_=>CX) (sp:=λw=>sp (K w.params)) hn hn2 hdf hr hY F (λw H a ns h1 h2 h3=>hsp (K w.params) H a ns h1 h2 h3) λ_ H s e s'=>hCX H s e s'
def inClass(s:Stmt)(j:Nat):Stmt:=match s with
 | .ClassDef _ _ _ body _ _ _ _ _ _ _=>body.getD j (.Pass ⟨0,0,0,0⟩)
 | _=>.Pass ⟨0,0,0,0⟩
def QT (s:Stmt):Arguments:=match s with
 | .FunctionDef _ a _ _ _ _ _ _ _ _=>a
 | _=>{ posonlyargs:=[],args:=[],vararg:=none,kwonlyargs:=[],kw_defaults:=[],kwarg:=none,defaults:=[] }
def K5 (s:Stmt):List Stmt:=match s with
 | .FunctionDef _ _ b _ _ _ _ _ _ _=>b
 | _=>[]
def Ah (s:Stmt):Scope:=match s with
 | .FunctionDef _ _ _ _ _ _ sc _ _ _=>sc
 | _=>{ kind:=.function,names:=[],isGenerator:=false,isCoroutine:=false }
abbrev CX0:CXT:=λ_ _ _ _ _ _=>False
abbrev E0:XK:=λ_ _ _=>False
theorem Ak{X:Cx}:Passes CX0 X E0:=λ_ _ _ _ _ _ _ h=>h.elim
structure Fun (K:W.Frag) (x qual:Str) (st:Stmt) (f:Addr) (fd:FuncData):Prop where
 ex:∃(oc:Value) (od:Option Addr) (kV doc pm:Value) (an:Option Addr) (cdv ct:Value) (osl:Array (Option Value)),
  fd=W.fnOf x qual (QT st) (K5 st) (Ah st) .none kV doc pm an cdv ct/\K.lookup f=some ⟨oc,od,.func fd,osl⟩/\W.codeIn K cdv qual=true
 kp:W.keepIn K (.ref f)=true
section
variable {P:Program}{w:World}{K:W.Frag}{mg:Str->Option Value}{base:Heap}
theorem Fun.ok{x qual:Str}{st:Stmt}{f:Addr}{fd:FuncData}{N ps:List Str}{k:Nat}{sp:Sp}(F:Fun K x qual st f fd)(S:Aw N ps (Ah st))(len:∀ vs H Q E,sp vs H Q E->vs.length=ps.length)
  (hbody:∀(cdv:Value) (A:Around) (outer:List Env) (s:Shared) (H:Hp) (vs:List V) (Q:VK) (E:XK),GK k (A.deeper (envOfC qual (Ah st) s.heap.objs.size f cdv))->sp vs H Q E ->
   ∃ t,PSs (Abm CX0 P w K mg base N qual (Ah st) f cdv A outer s H E).nox (K5 st) t/\t { nx:=λ_ H'=>Q .non H',rt:=Q } (start N vs) H):Br P w K mg base CX0 (k+1) f fd ps sp:=by
 obtain⟨oc,od,kV,doc,pm,an,cdv,ct,osl,rfl,lk,hcd⟩:=F.ex
 refine Akr lk hcd S len λA outer s H vs Q E hr hsp=>?_
 obtain⟨t,h,q⟩:=hbody cdv A outer s H vs Q E hr hsp
 exact⟨t,h.nox,q⟩
theorem Fun.binds{x qual:Str}{st:Stmt}{f:Addr}{fd:FuncData}{ps:List Str}(F:Fun K x qual st f fd)
  (h:∀(kV doc pm:Value) (an:Option Addr) (cdv ct:Value) (us:List Value),us.length=ps.length->bindArgs (W.fnOf x qual (QT st) (K5 st) (Ah st) .none kV doc pm an cdv ct) ⟨us,[]⟩=pure (ps.zip us)):Binds K fd ps []:=by
 obtain⟨oc,od,kV,doc,pm,an,cdv,ct,osl,rfl,lk,hcd⟩:=F.ex
 exact .all (h kV doc pm an cdv ct)
theorem AgV{x qual:Str}{st:Stmt}{f:Addr}{oc:Value}{od an:Option Addr}{osl:Array (Option Value)}{kV doc pm cdv ct:Value}(l:K.lookup f=some ⟨oc,od,.func (W.fnOf x qual (QT st) (K5 st) (Ah st) .none kV doc pm an cdv ct),osl⟩)
  (c:W.codeIn K cdv qual=true) (k:W.keepIn K (.ref f)=true):Fun K x qual st f (W.fnOf x qual (QT st) (K5 st) (Ah st) .none kV doc pm an cdv ct):=⟨⟨oc,od,kV,doc,pm,an,cdv,ct,osl,rfl,l,c⟩,k⟩
end
section
variable {X:Cx}
theorem pv(i:Nat){x:Str}{pos:Pos}(hN:X.N[i]?=some x:=by rfl)(hv:Vis X.env.scope x:=by first | exact Or.inl rfl | exact Or.inr (Or.inl rfl) | exact Or.inr (Or.inr rfl))(hd:(x == ("__debug__" : Str))=false:=by decide)
  (hcd:(x == ("__classdict__" : Str))=false:=by decide):PE X (.Name x pos) (AlU i):=AkB hN hv hd hcd
end
theorem Hu{A B:Prop}(h:B):if false=true then A else B:=by
 rw[if_neg Ap5]
 exact h
theorem Gq{A B:Prop}(h:A):if true=true then A else B:=by
 rw[if_pos rfl]
 exact h
theorem JT{c A B:Prop}[Decidable c](hc:c)(h:B):if (!decide c)=true then A else B:=by
 rw[decide_eq_true hc]
 exact Hu h
def Be (H H':Hp):Prop:=∀ b o,H b=some o->H' b=some o
theorem Be.refl(H:Hp):Be H H:=λ_ _ h=>h
theorem Be.trans{H H1 H2:Hp}(a:Be H H1)(b:Be H1 H2):Be H H2:=λc o h=>b c o (a c o h)
theorem Be.free{H H':Hp}(e:Be H H'){l:Addr}(h:H' l=Option.none):H l=Option.none:=by
 cases q:H l with
 | none=>rfl
 | some o =>
  rw[e l o q] at h
  cases h
theorem Be.seq{K:W.Frag}{H H':Hp}{a:Addr}{xs:List V}(e:Be H H')(h:SqL K H a xs):SqL K H' a xs:=by
 rcases h with (h | ⟨o,h⟩) | h
 ·exact .inl (.inl (e _ _ h))
 ·exact .inl (.inr ⟨o,e _ _ h⟩)
 ·exact .inr h
theorem HX{scope:Scope}{env:Env}(h:∀ y∈scope.names,y.2=.free->∃ c,env.cells.lookup y.1=some c) :
  ∃ cl,closureFor scope env=pure cl/\(∀ x c,cl.lookup x=some c->env.cells.lookup x=some c/\(x,NameKind.free)∈scope.names) /\
   ∀ x,(x,NameKind.free)∈scope.names->cl.lookup x=env.cells.lookup x:=by
 have key:∀(l:List (Str × NameKind)) (cs:List (Str × Addr)),(∀ y∈l,y.2=.free->∃ c,env.cells.lookup y.1=some c) ->
   ∃ cl,(forIn l cs (λ(x:Str × NameKind) (cs:List (Str × Addr))=>do
     if x.2 == .free then
      let c <- cellOf env x.1
      pure (ForInStep.yield ((x.1,c)::cs))
     else pure (ForInStep.yield cs)):Sem (List (Str × Addr)))=pure cl /\
    (∀ x c,cl.lookup x=some c->(env.cells.lookup x=some c/\(x,NameKind.free)∈l)\/cs.lookup x=some c) /\
    ∀ x,((x,NameKind.free)∈l->cl.lookup x=env.cells.lookup x)/\((cs.lookup x=env.cells.lookup x)->cl.lookup x=env.cells.lookup x):=by
  intro l
  induction l with
  | nil=>intro cs _;exact⟨cs,rfl,λx c e=>.inr e,λx=>⟨λz=>absurd z (by simp),λz=>z⟩⟩
  | cons y r ih =>
   intro cs hl
   obtain⟨n,k⟩:=y
   by_cases hk:k=.free
   ·subst hk
    obtain⟨c,hc⟩:=hl (n,.free) Ap6 rfl
    obtain⟨cl,e1,e2,e3⟩:=ih ((n,c)::cs) λy hy=>hl y (Ap7 _ hy)
    refine⟨cl,?_,λx d e=>?_,λx=>⟨λz=>?_,λz=>?_⟩⟩
    ·rw[Aq4]
     simp only [beq_self_eq_true,if_true,cellOf,hc]
     exact e1
    ·rcases e2 x d e with ⟨z1,z2⟩ | z
     ·exact .inl ⟨z1,Ap7 _ z2⟩
     ·rw[ApO] at z
      by_cases hx:x == n
      ·rw[hx] at z
       have hx':x=n:=by simpa using hx
       subst hx'
       refine .inl ⟨?_,Ap6⟩
       rw[hc];exact z
      ·have hx':(x == n)=false:=by simpa using hx
       rw[hx'] at z
       exact .inr z
    ·rcases List.mem_cons.mp z with z | z
     ·injection z with z1 _
      subst z1
      refine(e3 x).2 ?_
      rw[ApO,hc]
      simp
     ·exact(e3 x).1 z
    ·by_cases hx:x=n
     ·subst hx
      refine(e3 x).2 ?_
      rw[ApO,hc]
      simp
     ·refine(e3 x).2 ?_
      rw[ApO]
      have hx':(x == n)=false:=by simpa using hx
      rw[hx']
      exact z
   ·obtain⟨cl,e1,e2,e3⟩:=ih cs λy hy=>hl y (Ap7 _ hy)
    have hb:(k == NameKind.free)=false:=by simpa using hk
    refine⟨cl,?_,λx d e=>?_,λx=>⟨λz=>?_,(e3 x).2⟩⟩
    ·rw[Aq4]
     simp only [hb,Bool.false_eq_true,if_false]
     exact e1
    ·rcases e2 x d e with ⟨z1,z2⟩ | z
     ·exact .inl ⟨z1,Ap7 _ z2⟩
     ·exact .inr z
    ·rcases List.mem_cons.mp z with z | z
     ·injection z with _ z2
      exact absurd z2.symm hk
     ·exact(e3 x).1 z
 obtain⟨cl,e1,e2,e3⟩:=key scope.names [] h
 refine⟨cl,?_,λx c e=>?_,λx z=>(e3 x).1 z⟩
 ·unfold closureFor
  have:=e1
  simpa using this
 ·rcases e2 x c e with z | z
  ·exact z
  ·simp at z
theorem Dg{env:Env}(hk:env.scope.kind=.function):∀{names:List (Str × NameKind)} {x:Str} {k:NameKind},names.lookup x=some k->k≠.free ->
  (names.map λ(n,k)=>if (k == NameKind.free && env.scope.kind == .function && env.kindOf n == some .cell) then (n,NameKind.cell) else (n,k)).lookup x=some k
 | [],_,_,h,_=>by simp at h
 | (n,k')::r,x,k,h,hf=>by
  have ih:=@Dg env hk r x k
  show List.lookup x ((if (k' == NameKind.free && env.scope.kind == .function && env.kindOf n == some .cell)=true then (n,NameKind.cell) else (n,k'))::_)=_
  cases hx:x == n with
  | true =>
   simp only [ApO,hx] at h
   cases h
   have:(k' == NameKind.free)=false:=by simpa using hf
   simp[ApO,hx,this]
  | false =>
   simp only [ApO,hx] at h
   by_cases hc:(k' == NameKind.free && env.scope.kind == .function && env.kindOf n == some .cell)=true
   ·rw[if_pos hc];simp only [ApO,hx];exact ih h hf
   ·rw[if_neg hc];simp only [ApO,hx];exact ih h hf
theorem Fd{env:Env}(hk:env.scope.kind=.function):∀{names:List (Str × NameKind)} {x:Str},names.lookup x=some .free->env.kindOf x=some .cell ->
  (names.map λ(n,k)=>if (k == NameKind.free && env.scope.kind == .function && env.kindOf n == some .cell) then (n,NameKind.cell) else (n,k)).lookup x=some .cell
 | [],_,h,_=>by simp at h
 | (n,k')::r,x,h,hc=>by
  have ih:=@Fd env hk r x
  show List.lookup x ((if (k' == NameKind.free && env.scope.kind == .function && env.kindOf n == some .cell)=true then (n,NameKind.cell) else (n,k'))::_)=_
  cases hx:x == n with
  | true =>
   simp only [ApO,hx] at h
   cases h
   have hxn:x=n:=by simpa using hx
   subst hxn
   simp[ApO,hk,hc]
  | false =>
   simp only [ApO,hx] at h
   by_cases hd:(k' == NameKind.free && env.scope.kind == .function && env.kindOf n == some .cell)=true
   ·rw[if_pos hd];simp only [ApO,hx];exact ih h hc
   ·rw[if_neg hd];simp only [ApO,hx];exact ih h hc
def FJ (X:Cx)(Nc:List Str)(scope:Scope)(cl:List (Str × Addr))(C:Addr)(fp:List Addr)(s:Shared)(H:Hp):Cx where
 prog:=X.prog
 w:=X.w
 K:=X.K
 mg:=X.mg
 base:=X.base
 A:=X.A
 N:=Nc
 s₀:=s
 H₀:=H
 env:=compEnvC scope cl C X.env
 outer:=X.stack
 stack:=X.stack
 ex:=fp
 fn:=λ_=>false
 calm:=X.calm
 pn:=[]
 xe:=λ_ _=>False
def EY (σ:St)(Bd:List Nat):St:=Bd.map λj=>(σ[j]?).join
structure CG (X:Cx) (x:Str) (Nc:List Str) (Bd:List Nat) (scope:Scope):Prop where
 kind:scope.kind=.function
 cell:∀ y∈scope.names,y.2≠.cell
 names:∀ y∈scope.names,y.2=.local->scope.names.lookup y.1=some .local
 fr:∀ y∈scope.names,y.2=.free->X.env.scope.names.lookup y.1=some .cell/\scope.names.lookup y.1=some .free
 loc:scope.names.lookup x=some .local
 len:Nc.length=Bd.length+1
 hd:Nc[0]?=some x
 nd:Nc.Nodup
 cap:∀ k j,Bd[k]?=some j->∃ y,Nc[k+1]?=some y/\X.N[j]?=some y/\scope.names.lookup y=some .free
theorem JK{prog:Program}{w:World}{A:Around}{R:Result->Shared->Prop}{s:Shared}{elt target iter:Expr}{ifs:List Expr}{scope:Scope}{pos:Pos}{it acc:Value}{env:Env}(I:Nat->Shared->Prop)
  (turn:∀ n s,I n s->wpAny (model prog w) A (pyNext it) (λr s₁=>match r with
   | none=>R (.ok .next) s₁
   | some v=>wpAny (model prog w) A (letOwnedTupleGo target it v) (λ_ s1'=>wpAny (model prog w) A (assign target env v) (λ_ s₂ =>
     wpAny (model prog w) A (forIn ifs true λc r=>if r=true then do let ok <- isTrue c env (eval c env);pure (ForInStep.yield ok) else pure (ForInStep.yield r)) (λok s₃ =>
      if ok=true then wpAny (model prog w) A (eval elt env) (λx s₄ =>
       wpAny (model prog w) A (call (.builtin "list.append") [acc,x]) (λ_ s₅=>∃ m,m<n/\I m s₅) (notedBy (model prog w) A env λe s'=>R (.error e) s') s₄) (notedBy (model prog w) A env λe s'=>R (.error e) s') s₃
      else ∃ m,m<n/\I m s₃) (notedBy (model prog w) A env λe s'=>R (.error e) s') s₂) (notedBy (model prog w) A env λe s'=>R (.error e) s') s1') (notedBy (model prog w) A env λe s'=>R (.error e) s') s₁) (notedBy (model prog w) A env λe s'=>R (.error e) s') s)
  (n:Nat) (h:I n s) :
  codeAny (model prog w) A (.compLoop (.ListComp elt [⟨target,iter,ifs,0⟩] scope pos) 0 it acc env) R s:=by
 refine codeAny_loop rfl I (λn s hI=>?_) n h
 show wpAny _ A ((compTurn (.ListComp elt [⟨target,iter,ifs,0⟩] scope pos) 0 it acc env).onRaise (λx=>do noteFrame x env;theTreesLotGoes x)) _ _ s
 refine wpAny_noted ?_
 rw[compTurn_list]
 refine wpAny_bind (wpAny_standAt (wpAny_bind (wpAny_mono (turn n s hI) (λr s₁ h₁=>?_) λ_ _ h'=>h')))
 cases r with
 | none=>exact wpAny_pure h₁
 | some v =>
  refine wpAny_bind (wpAny_mono h₁ (λ_ s1' h₁=>?_) λ_ _ h'=>h')
  refine wpAny_bind (wpAny_mono h₁ (λ_ s₂ h₂=>wpAny_bind (wpAny_mono h₂ (λok s₃ h₃=>?_) λ_ _ h'=>h')) λ_ _ h'=>h')
  cases ok with
  | false=>exact wpAny_pure ⟨rfl,h₃⟩
  | true =>
   exact wpAny_bind (wpAny_bind (wpAny_mono h₃ (λx s₄ h₄=>wpAny_bind (wpAny_mono h₄ (λ_ s₅ h₅=>wpAny_pure (wpAny_pure ⟨rfl,h₅⟩)) λ_ _ h'=>h')) λ_ _ h'=>h'))
def Abu:TT:=λ_ H Q=>Q true H
inductive PIf (X:Cx):List Expr->TT->Prop where
 | nil:PIf X [] Abu
 | one {c:Expr} {t:TT} (h:PT X c t):PIf X [c] t
theorem PIf.run{X:Cx}{ifs:List Expr}{t:TT}(h:PIf X ifs t){pins:List (Addr × Obj)}{s:Shared}{σ:St}{H:Hp}{Q:Bool->Hp->Prop}(I:Inv X pins σ H s)(ht:t σ H Q) :
  wpAny (model X.prog X.w) X.A (forIn ifs true λc r=>if r=true then do let ok <- isTrue c X.env (eval c X.env);pure (ForInStep.yield ok) else pure (ForInStep.yield r)) (TP X pins σ Q) X.xe s:=by
 cases h with
 | nil=>exact wpAny_tests_nil ⟨H,I,ht⟩
 | one h=>exact wpAny_tests_one (h pins s σ H Q I ht)
def Qd (Bd:List Nat)(tc:TT)(te:TE)(J:It)(σ:St)(H:Hp)(Q:VK):Prop :=
 ∃ W:Nat->Nat->List V->Hp->Prop,(∃ m,W 0 m [] H)/\∀ i m ys H,W i m ys H ->
  (J.stop i H/\ys.length<=sizeLine/\∀ p,H p=none->Q (.ref p) (upd H p (.lst ys))) \/
  (J.go i H/\ys.length<sizeLine/\∀ x H',J.yld i H x H'->tc (some x::EY σ Bd) H' λb H2 =>
   if b=true then te (some x::EY σ Bd) H2 λy H3=>∃ m',m'<m/\W (i+1) m' (ys++[y]) H3 else ∃ m',m'<m/\W (i+1) m' ys H2)
def AcA (wi:TI)(Bd:List Nat)(tc:TT)(te:TE):TE:=λσ H Q=>wi σ H λJ H1=>Qd Bd tc te J σ H1 Q
section
variable {X:Cx}{pins:List (Addr × Obj)}{σ:St}{H:Hp}{s:Shared}
theorem Un.track{fs ex:List Addr}{H H':Hp}{h h':Heap}{a:Addr}{o:HO}(u:Un fs ex H H' h h')(ha:h.objs.size<=a)(hn:H' a=none):Un fs ex H (upd H' a o) h h' where
 keep:=u.keep
 slot:=u.slot
 free:=λb ob q n hx=>by rw[Ao (Apy (Ap0 (Heap.lt_size q) ha))];exact u.free b ob q n hx
 there:=u.there
 tups:=λb xs q=>by rw[Ao (Ay (u.tups b xs q) hn)];exact u.tups b xs q
 JG:=λb ob xs q=>by rw[Ao (Ay (u.JG b ob xs q) hn)];exact u.JG b ob xs q
 Kv:=λb ps q=>by
  obtain⟨m,e⟩:=u.Kv b ps q
  exact⟨m,by rw[Ao (Ay e hn)];exact e⟩
theorem HOk.track{P:Program}{w:World}{H:Hp}{h:Heap}{a:Addr}{o:HO}(x:HOk P w H h)(hn:H a=none)(new:GJ P w (upd H a o) h a o):HOk P w (upd H a o) h:=λb u e=>by
 by_cases hb:b=a
 ·subst hb;rw[Ae] at e;cases e;exact new
 ·rw[Ao hb] at e
  exact(x b u e).stay (λc v _ q=>q) (λc q=>by rw[Ao (Ay q hn)];exact q) λc xs q=>by rw[Ao (Ay q hn)];exact q
theorem Ajb{x:Str}{Nc:List Str}{Bd:List Nat}{scope:Scope}{cl:List (Str × Addr)}{C:Addr}{fp:List Addr}(I:Inv X pins σ H s)(O:CG X x Nc Bd scope)
  (hcl:∀ x c,cl.lookup x=some c->X.env.cells.lookup x=some c/\(x,NameKind.free)∈scope.names) (Kw:∀ x,(x,NameKind.free)∈scope.names->cl.lookup x=X.env.cells.lookup x)
  (hC:s.heap.objs.size<=C) (hfp:∀ b∈fp,Hr X pins H b) (hfo:∀ b∈fp,b<s.heap.objs.size):(FJ X Nc scope cl C fp s H).Ok where
 mod:=I.ok.mod
 kind:=O.kind
 glob:=I.ok.glob
 blt:=I.ok.blt
 above:=hC
 inj:=λa b c e1 e2=>I.ok.inj a b c (hcl a c e1).1 (hcl b c e2).1
 has:=λy hy=>by
  have mem:(y,NameKind.free)∈scope.names:=by
   have hy':((relabel scope X.env).names.lookup y=some .cell)\/((relabel scope X.env).names.lookup y=some .free):=hy
   have hm:∃ k,(y,k)∈(relabel scope X.env).names/\(k=.cell\/k=.free):=by
    rcases hy' with h | h
    ·exact⟨_,PySem.mem_of_lookup h,.inl rfl⟩
    ·exact⟨_,PySem.mem_of_lookup h,.inr rfl⟩
   obtain⟨k,hm,hk⟩:=hm
   obtain⟨⟨n,k'⟩,hm',e⟩:=List.mem_map.mp hm
   dsimp only at e
   by_cases hc:(k' == NameKind.free && X.env.scope.kind == .function && X.env.kindOf n == some .cell)=true
   ·rw[if_pos hc] at e
    injection e with e1 _
    subst e1
    have:k'=.free:=by
     have:=(ApU _ _▸(ApU _ _▸hc).1).1
     simpa using this
    subst this
    exact hm'
   ·rw[if_neg hc] at e
    injection e with e1 e2
    subst e1 e2
    rcases hk with hk | hk
    ·subst hk;exact absurd rfl (O.cell _ hm')
    ·subst hk;exact hm'
  obtain⟨c,e⟩:=I.ok.has y (.inl (O.fr _ mem rfl).1)
  exact⟨c,(Kw y mem).trans e⟩
 cab:=λ_ _ z=>nomatch z
 hd:=I.ok.hd
 frames:=I.ok.frames
 stk:=.inl rfl
 exf:=λb hb=>⟨Apy (Ap0 (hfo b hb) hC),λy c e=>(hfp b hb).2.2.2.2.1 y c (hcl y c e).1⟩
 bs:=I.bs
 bsz:=ApF I.ok.bsz I.sz
 Xa:=λb o e hb=>by
  rcases(hfp b hb).2.2.2.1 with z | z
  ·exact I.ok.Xa b o e z
  ·exact absurd (Ap0 (Heap.lt_size e) (ApF I.ok.bsz z)) (ApC _)
 Vs:=λb hb z=>by
  rcases List.mem_cons.mp (I.Vt b z) with e | e
  ·exact(hfp b hb).2.1 e
  ·exact(hfp b hb).2.2.1 e
 PJ:=I.stack
 frf:=I.QR
theorem Yb(σ:St)(Bd:List Nat):(EY σ Bd).length=Bd.length:=by unfold EY;rw[Apq]
theorem Yc{σ:St}{Bd:List Nat}{k:Nat}{v:V}(e:(EY σ Bd)[k]?=some (some v)):∃ j,Bd[k]?=some j/\σ[j]?=some (some v):=by
 unfold EY at e
 rw[Ap9] at e
 cases hk:Bd[k]? with
 | none=>rw[hk] at e;cases e
 | some j =>
  rw[hk] at e
  have e':(σ[j]?).join=some v:=Option.some.inj e
  refine⟨j,rfl,?_⟩
  cases hj:σ[j]? with
  | none=>rw[hj] at e';cases e'
  | some o=>rw[hj] at e';rw[show o=some v from e']
theorem Un.but{fs ex:List Addr}{H H':Hp}{h h1 h2:Heap}{C:Addr}(u:Un fs ex H H' h h1)(hs:Heap.SameBut C h1 h2)(hC:h.objs.size<=C):Un fs ex H H' h h2 where
 keep:=λb o q n hb hx=>(hs.2 b (Apy (Ap0 (Heap.lt_size q) hC))).trans (u.keep b o q n hb hx)
 slot:=λb o q n hb hx=>by
  obtain⟨sl,e⟩:=u.slot b o q n hb hx
  exact⟨sl,(hs.2 b (Apy (Ap0 (Heap.lt_size q) hC))).trans e⟩
 free:=u.free
 there:=λb o q hx=>by
  obtain⟨o',e⟩:=u.there b o q hx
  exact⟨o',(hs.2 b (Apy (Ap0 (Heap.lt_size q) hC))).trans e⟩
 tups:=u.tups
 JG:=u.JG
 Kv:=u.Kv
theorem Yd{x:Str}{Nc:List Str}{Bd:List Nat}{scope:Scope}{cl:List (Str × Addr)}{C:Addr}{fp:List Addr}{h':Heap}{tk:Nat}{m0:Str->Option Value}(I:Inv X pins σ H s)(O:CG X x Nc Bd scope)
  (hcl:∀ x c,cl.lookup x=some c->X.env.cells.lookup x=some c/\(x,NameKind.free)∈scope.names) (Kw:∀ x,(x,NameKind.free)∈scope.names->cl.lookup x=X.env.cells.lookup x)
  (hC:s.heap.objs.size<=C) (hfp:∀ b∈fp,Hr X pins H b) (hfo:∀ b∈fp,b<s.heap.objs.size)
  (old:∀ b o,s.heap.get? b=some o->h'.get? b=some o) (hns:h'.Ns C m0) :
  Inv (FJ X Nc scope cl C fp s H) [] (none::EY σ Bd) H { s with heap:=h',toks:=tk } where
 ok:=Ajb I O hcl Kw hC hfp hfo
 os:=rfl
 bare:=I.bare
 base:=Un.kept old
 loc:=by
  refine⟨m0,hns,λi y v hN hσ hv=>?_⟩
  cases i with
  | zero=>simp at hσ
  | succ k =>
   rw[Aqu] at hσ
   obtain⟨j,hj,hs⟩:=Yc hσ
   obtain⟨z,hz1,hz2,hz3⟩:=O.cap k j hj
   have hN':Nc[k+1]?=some y:=hN
   rw[hz1] at hN'
   cases hN'
   have mem:(y,NameKind.free)∈scope.names:=PySem.mem_of_lookup hz3
   have hk:=(O.fr _ mem rfl).1
   obtain⟨m,hn,hl⟩:=I.loc
   obtain⟨u,r,l⟩:=hl j y v hz2 hs (.inr (.inl hk))
   refine⟨u,r,?_⟩
   rcases l with ⟨k',_⟩ | ⟨_,c,hc,z⟩
   ·have k'':X.env.scope.names.lookup y=some .local:=k'
    rw[hk] at k'';cases k''
   ·obtain⟨o,ho,hd⟩:=z
    exact .inr ⟨.inl (Fd I.ok.kind hz3 hk),c,(Kw y mem).trans hc,o,old _ _ ho,hd⟩
 cell:=λy c e=>by
  obtain⟨v,o,ho,hd⟩:=I.cell y c (hcl y c e).1
  exact⟨v,o,old _ _ ho,hd⟩
 free:=I.hok.fresh hC
 Je:=λy c e=>I.Je y c (hcl y c e).1
 pin:=λp hp=>absurd (show p∈([]:List (Addr × Obj)) from hp) (by simp)
 hok:=I.hok.kept old
 len:=by
  show(none::EY σ Bd).length=Nc.length
  rw[Apt,Yb,O.len]
abbrev Gm (us:List Value) (n:Nat):Obj:={ cls:=.type "list", data:=.seq us.toArray n }
theorem Cp{X:Cx}{sc0 scope:Scope}(h:X.env.scope=sc0)(hd:∀ y∈scope.names,y.2=.free->sc0.names.lookup y.1=some .cell/\scope.names.lookup y.1=some .free) :
  ∀ y∈scope.names,y.2=.free->X.env.scope.names.lookup y.1=some .cell/\scope.names.lookup y.1=some .free:=by
 rw[h]
 exact hd
theorem Ye{x:Str}{px:Pos}{Nc:List Str}{Bd:List Nat}{scope:Scope}{cl:List (Str × Addr)}{iter elt:Expr}{ifs:List Expr}{pos:Pos}{tc:TT}{te:TE}{Q:VK}{it:Addr}{fp:List Addr}{tn:Nat->Heap->Prop}{J:It}
  {RR:Value->Addr->Result->Shared->Prop}{E:Value->Shared->Prop}
  (O:CG X x Nc Bd scope) (hc:X.calm=true)
  (hcl:∀ x c,cl.lookup x=some c->X.env.cells.lookup x=some c/\(x,NameKind.free)∈scope.names) (Kw:∀ x,(x,NameKind.free)∈scope.names->cl.lookup x=X.env.cells.lookup x)
  (hte:∀ C fp s H,PE (FJ X Nc scope cl C fp s H) elt te) (htc:∀ C fp s H,PIf (FJ X Nc scope cl C fp s H) ifs tc)
  (I:Inv X pins σ H s) (T:Turn X.prog X.w X.K (.Name x px) J fp it tn) (st:tn 0 s.heap) (hfp:∀ b∈fp,Hr X pins H b) (h:Qd Bd tc te J σ H Q)
  (hRR:∀(D C:Addr) (s':Shared) (m:Str->Option Value),s'.heap.Ns C m->(∀ h',Heap.SameBut C s'.heap h'->∃ H',Inv X pins σ H' { s' with heap:=h' }/\H' C=none/\Q (.ref D) H') ->
   s.heap.objs.size<=C->RR (.ref D) C (.ok .next) s') :
  wpAny (model X.prog X.w) X.A (newList []) (λacc s₃=>wpAny (model X.prog X.w) X.A (newFunctionEnv scope X.env.globals cl [] X.env.qual none .none (some X.env)) (λcenv s₄ =>
   codeAny (model X.prog X.w) X.A (.compStart (.ListComp elt [⟨.Name x px,iter,ifs,0⟩] scope pos) 0 (.ref it) acc { cenv with scope:=relabel scope X.env }) (RR acc cenv.locals) s₄) E s₃) E s:=by
 refine wpAny_newObj_type (wpAny_newFunctionEnv O.cell (by intro y hy;simp at hy) (λh₁ hns₁ hsb₁=>?_) O.kind)
 dsimp only at hns₁ hsb₁ ⊢
 generalize hH2:s.heap.push { cls:=.type "list", dict:=none,data:=.seq ([]:List Value).toArray }=H2 at hns₁ hsb₁ ⊢
 have hC:H2.objs.size=s.heap.objs.size+1:=by rw[<- hH2,Heap.size_push]
 have hCle:s.heap.objs.size<=H2.objs.size:=by rw[hC];exact Aqf _
 have hDC:s.heap.objs.size≠H2.objs.size:=by rw[hC];exact Apy (Aqk _)
 have below:∀ b,b<s.heap.objs.size->b≠H2.objs.size/\b≠s.heap.objs.size:=λb hb=>⟨by rw[hC];exact Apy (Aqv hb),Apy hb⟩
 have old:∀ b o,s.heap.get? b=some o->h₁.get? b=some o:=λb o e=>hsb₁.extBut b o (below b (Heap.lt_size e)).1 (Heap.get?_push_of_some _ (hH2▸Heap.get?_push_of_some _ e))
 have hacc:h₁.get? s.heap.objs.size=some (Gm [] 0):=hsb₁.extBut _ _ hDC (Heap.get?_push_of_some _ (hH2▸Heap.get?_push_size _ rfl))
 have hfo:∀ b∈fp,b<s.heap.objs.size:=λb hb=>by
  obtain⟨o,e,_⟩:=T.obj _ _ st b hb
  exact Heap.lt_size e
 have st1:tn 0 h₁:=T.keep _ _ _ st λb _ o e=>old b o e
 generalize hDD:s.heap.objs.size=D at *
 generalize hCC:H2.objs.size=C at *
 have AcB:D<=C:=hCle
 let Y:Cx:=FJ X Nc scope cl C fp s H
 have I0:Inv Y [] (none::EY σ Bd) H { s with heap:=h₁,toks:=s.toks+([]:List (Str × Value)).length }:=Yd I O hcl Kw (by rw[hDD];exact hCle) hfp (λb hb=>by rw[hDD];exact hfo b hb) old hns₁
 have Yg:H D=none:=by rw[<- hDD];exact I.hok.fresh (Apv _)
 have Nk:D≠C:=hDC
 have Dfs:D∉Y.fs:=λz=>by
  have:=I.stack.mem (show D∈frs X.stack from z)
  obtain⟨_,o,e,_⟩:=this
  have:=Heap.lt_size e
  rw[hDD] at this
  exact ApC _ this
 have Yh:∀ y c,Y.env.cells.lookup y=some c->c≠D:=λy c e z=>by
  obtain⟨v,q⟩:=I.cell y c (hcl y c e).1
  have:=q.lt
  rw[z,hDD] at this
  exact ApC _ this
 have Dfp:∀ b∈fp,b≠D:=λb hb=>Apy (hfo b hb)
 have fpY:∀{H':Hp},(∀ b∈fp,H' b=none)->∀ b∈fp,Hr Y [] H' b:=λhn b hb =>
  ⟨hn b hb,Apy (Ap0 (hfo b hb) AcB),λz=>I0.ok.Vs b hb z,.inl hb,λy c e=>(I0.ok.exf b hb).2 y c e,λp hp=>absurd (show p∈([]:List (Addr × Obj)) from hp) (by simp)⟩
 obtain⟨W,⟨m0,w0⟩,turn⟩:=h
 have loop:∀ s₃:Shared,s₃={ s with heap:=h₁,toks:=s.toks+([]:List (Str × Value)).length } ->
   codeAny (model X.prog X.w) X.A (.compLoop (.ListComp elt [⟨.Name x px,iter,ifs,0⟩] scope pos) 0 (.ref it) (.ref D) (compEnvC scope cl C X.env)) (RR (.ref D) C) s₃:=by
  rintro s₃ rfl
  refine JK (λn s'=>∃(i:Nat) (o:Option V) (H':Hp) (ys:List V) (us:List Value) (k:Nat),Inv Y [] (o::EY σ Bd) H' s'/\tn i s'.heap/\(∀ b∈fp,H' b=none)/\s'.heap.get? D=some (Gm us k)/\H' D=none/\Vals ys us/\W i n ys H')
   ?_ m0 ⟨0,none,H,[],[],0,I0,st1,λb hb=>(hfp b hb).1,hacc,Yg,.nil,w0⟩
  rintro n s3 ⟨i,o3,H3,ys,us,k,I3,st3,fr3,hD3,nD3,rv,w3⟩
  have fpP:∀{H':Hp} {ob:Obj},(∀ b∈fp,H' b=none)->∀ b∈fp,Hr Y [(D,ob)] H' b:=λhn b hb=>by
   obtain⟨g0,g1,g2,g3,g4,_⟩:=fpY hn b hb
   refine⟨g0,g1,g2,g3,g4,λp hp=>?_⟩
   have e:p=(D,_):=List.mem_singleton.mp (show p∈[(D,_)] from hp)
   rw[e]
   exact Ne.symm (Dfp b hb)
  have IP:Inv Y [(D,Gm us k)] (o3::EY σ Bd) H3 s3:=I3.Gf λp hp=>by
   have e:p=(D,Gm us k):=List.mem_singleton.mp hp
   subst e
   exact⟨hD3,nD3,Nk,Dfs,λv z=>by cases z⟩
  have S5:∀{σ':St} {H':Hp} {s':Shared} {pl:List (Addr × Obj)},Inv Y ([(D,Gm us k)]++pl) σ' H' s'->s'.heap.get? D=some (Gm us k)/\H' D=none:=λI'=>by
   have z:=I'.pin (D,Gm us k) (ApG _ (Aqp _ Ap6))
   exact⟨z.1,z.2.1⟩
  rcases turn i n ys H3 w3 with ⟨stop,hlen,fin⟩ | ⟨go,hlen,step⟩
  ·
   refine wpAny_mono (T.done Y rfl rfl rfl hc i _ s3 _ H3 (λ_ _=>False) IP (fpP fr3) st3 stop) (λr s4 hr=>?_) λ_ _ z=>z.elim
   obtain⟨hr,I4⟩:=hr
   subst hr
   obtain⟨gD,nD⟩:=S5 (pl:=[]) (by simpa using I4)
   obtain⟨m,hn,_⟩:=I4.loc
   refine hRR D C s4 m hn (λh' hs'=>⟨upd H3 D (.lst ys),?_,(Ao (Ne.symm Nk)).trans I4.free,fin D nD⟩) hCle
   have nt:∀ b ob,H3 b=some ob->b≠C:=λb ob e z=>by
    have:=I4.free
    rw[z] at e
    rw[show H3 C=none from this] at e
    cases e
   have u1:Un (frs X.stack) fp H H3 s.heap h':=Un.but I4.base hs' (show s.heap.objs.size<=C by rw[hDD];exact hCle)
   have ok1:HOk X.prog X.w H3 h':=λb ob e=>(I4.hok b ob e).stay (λc v hc q=>(hs'.2 c (by
    rcases hc with z | z
    ·rw[z];exact nt b ob e
    ·exact nt c _ z)).trans q) (λ_ q=>q) λ_ _ q=>q
   have gD':h'.get? D=some (Gm us k):=(hs'.2 D Nk).trans gD
   exact I.call' (s':={ s4 with heap:=h' }) (ch:=fp) I4.os (u1.track (Aqe hDD) nD) (ok1.track nD ⟨hlen,us,k,rv,gD'⟩) I4.bare λb hb=>by
    obtain⟨_,g1,_,g3,g4,g5⟩:=hfp b hb
    exact⟨g3,g1,g4,g5⟩
  ·
   refine wpAny_mono (T.item Y rfl rfl rfl hc i _ s3 _ H3 (λ_ _=>False) IP (fpP fr3) st3 go) (λr s4 hr=>?_) λ_ _ z=>z.elim
   obtain⟨u0,hr,h4⟩:=hr
   subst hr
   refine wpAny_mono h4 (λ_ s5 h5=>?_) λ_ _ z=>z.elim
   obtain⟨x5,H5,I5,r5,y5,st5,fr5⟩:=h5
   have I5':=I5.pinned (fpP fr5) (T.obj _ _ st5)
   have tgt:PG Y (.Name x px) (J8 0):=BK (i:=0) O.nd O.hd (.inl (Dg I.ok.kind O.loc (by intro z;cases z))) (.inr (Dg I.ok.kind O.loc (by intro z;cases z)))
   refine wpAny_mono (tgt _ s5 _ H5 x5 u0 (λσ2 H2=>σ2=some x5::EY σ Bd/\H2=H5) I5' r5 ⟨rfl,rfl⟩) (λ_ s6 h6=>?_) λ_ _ z=>z.elim
   obtain⟨_,_,I6,rfl,rfl⟩:=h6
   refine wpAny_mono ((htc C fp s H).run I6 (step x5 _ y5)) (λb s7 h7=>?_) λ_ _ z=>z.elim
   obtain⟨H7,I7,q7⟩:=h7
   have Qe:∀{σ':St} {H':Hp} {s':Shared},Inv Y ([(D,Gm us k)]++PX fp s5.heap) σ' H' s'->tn (i+1) s'.heap/\∀ b∈fp,H' b=none:=λI' =>
    ⟨T.keep _ _ _ st5 λb hb o e=>(I'.pin (b,o) (ApG _ (ApG _ (Ez hb e)))).1,λb hb=>by
     obtain⟨o,e,d⟩:=T.obj _ _ st5 b hb
     exact(I'.pin (b,o) (ApG _ (ApG _ (Ez hb e)))).2.1⟩
   cases b with
   | false =>
    rw[if_neg Ap5] at q7
    rw[if_neg Ap5]
    obtain⟨m',hm,w7⟩:=q7
    obtain⟨gD,nD⟩:=S5 I7
    obtain⟨k1,k2⟩:=Qe I7
    exact⟨m',hm,i+1,some x5,H7,ys,us,k,I7.Gf (λp hp=>nomatch hp),k1,k2,gD,nD,rv,w7⟩
   | true =>
    rw[if_pos rfl] at q7
    rw[if_pos rfl]
    refine wpAny_mono (hte C fp s H _ s7 _ H7 _ I7 q7) (λu8 s8 h8=>?_) λ_ _ z=>z.elim
    obtain⟨y8,H8,I8,r8,m',hm,w8⟩:=h8
    obtain⟨gD,nD⟩:=S5 I8
    obtain⟨k1,k2⟩:=Qe I8
    refine call_meets F.slot_list_append ⟨_,gD,rfl⟩ F.entry_list_append (F.args_list_append_2 _ _) (PySem.list_append D us.toArray k u8 (by rw[Ap3,<- rv.length];omega)) ⟨gD,?_⟩
    have q:=PySem.IsL.update gD (·.push u8)
    have e1:us.toArray.push u8=(us++[u8]).toArray:=by simp
    rw[e1] at q
    have I8':Inv Y [] (some x5::EY σ Bd) H8 s8:=I8.Gf (λp hp=>nomatch hp)
    have I9:Inv Y [] (some x5::EY σ Bd) H8 { s8 with heap:=s8.heap.update D (Obj.mapSeq (·.push u8)),toks:=s8.toks } :=
     I8'.turned (it:=D) (λb o hb e=>(Heap.get?_update_other s8.heap (Obj.mapSeq (·.push u8)) (Ne.symm hb)).trans e) nD Nk (.inr (Aqe hDD)) Yh (λp hp=>nomatch hp)
    refine⟨m',hm,i+1,some x5,H8,ys++[y8],us++[u8],_,I9,T.keep _ _ _ k1 λb hb o e=>(Heap.get?_update_other s8.heap (Obj.mapSeq (·.push u8)) (Ne.symm (Dfp b hb))).trans e,k2,q,nD,rv.append (.cons r8 .nil),w8⟩
 exact codeAny_compStart_list (loop _ rfl) (T.self X.A 0 _ _ _ st1 (loop _ rfl))
theorem Dl{x:Str}{px pos:Pos}{Nc:List Str}{Bd:List Nat}{scope:Scope}{iter elt:Expr}{ifs:List Expr}{wi:TI}{tc:TT}{te:TE}(O:CG X x Nc Bd scope)(hc:X.calm=true)(hi:PI X (.Name x px) iter wi)
  (htc:∀ cl C fp s H,PIf (FJ X Nc scope cl C fp s H) ifs tc) (hte:∀ cl C fp s H,PE (FJ X Nc scope cl C fp s H) elt te) (hs:∀ x,foldedSetIterable iter X.env x=pure x:=by intro _;rfl) :
  PE X (.ListComp elt [⟨.Name x px,iter,ifs,0⟩] scope pos) (AcA wi Bd tc te):=by
 intro pins s σ H Q I h
 rw[eval_ListComp]
 obtain⟨cl,e1,e2,e3⟩:=HX (scope:=scope) (env:=X.env) λy hy hf=>I.ok.has y.1 (.inl (O.fr y hy hf).1)
 refine wpAny_comprehension_free (use:=none) rfl hs e1 O.kind O.names (thn (hi pins s σ H _ I h) λv s1 h1=>thn h1 λitv s2 h2=>?_)
 obtain⟨it,fp,tn,J,H2,e,I2,T,st2,f2,w2⟩:=h2
 subst e
 refine Ye (RR:=λacc C=>compPost (model X.prog X.w) X.A X.xe none (EP X pins σ Q) acc C) O hc e2 e3 (hte cl) (htc cl) I2 T st2 f2 w2 ?_
 intro D C s' m hn hq hC
 refine⟨m,hn,λh' hs'=>?_⟩
 obtain⟨H',I',_,q⟩:=hq h' hs'
 exact⟨.ref D,H',I',rfl,q⟩
theorem Tp{i:Nat}{y x:Str}{px py pos spos:Pos}{Nc:List Str}{Bd:List Nat}{scope:Scope}{iter elt:Expr}{ifs:List Expr}{wi:TI}{tc:TT}{te:TE}(O:CG X x Nc Bd scope)(hc:X.calm=true)
  (hN:X.N.Nodup) (hy:X.N[i]?=some y) (hx:X.env.scope.names.lookup y=some .local) (hi:PI X (.Name x px) iter wi)
  (htc:∀ cl C fp s H,PIf (FJ X Nc scope cl C fp s H) ifs tc) (hte:∀ cl C fp s H,PE (FJ X Nc scope cl C fp s H) elt te)
  (hsw:swapsWith (.ListComp elt [⟨.Name x px,iter,ifs,0⟩] scope pos) (some (.Name y py)) spos.line X.env=pure true) (hs:∀ x,foldedSetIterable iter X.env x=pure x:=by intro _;rfl) :
  PS X (.Assign [.Name y py] (.ListComp elt [⟨.Name x px,iter,ifs,0⟩] scope pos) spos) (Ac1 (AcA wi Bd tc te) (J8 i)):=by
 intro pins s σ H Dn I h
 rw[exec_Assign_Name_used _ _ _ _ hsw]
 refine wpAny_bind (wpAny_standAt (wpAny_bind ?_))
 obtain⟨cl,e1,e2,e3⟩:=HX (scope:=scope) (env:=X.env) λy hy hf=>I.ok.has y.1 (.inl (O.fr y hy hf).1)
 show wpAny _ X.A (do let _ <- comprehension (.ListComp elt [⟨.Name x px,iter,ifs,0⟩] scope pos) scope X.env _ (newList []) false (eval iter X.env) (some (assign (.Name y py) X.env))) _ _ s
 refine wpAny_bind (wpAny_mono (wpAny_comprehension_free (use:=some (assign (.Name y py) X.env)) (Q:=λ_ s'=>SP X pins Dn .next s') rfl hs e1 O.kind O.names
  (thn (hi pins s σ H _ I h) λv s1 h1=>thn h1 λitv s2 h2=>?_)) (λ_ s' hq=>wpAny_pure (wpAny_pure hq)) λ_ _ e=>e)
 obtain⟨it,fp,tn,J,H2,e,I2,T,st2,f2,w2⟩:=h2
 subst e
 refine Ye (RR:=λacc C=>compPost (model X.prog X.w) X.A X.xe (some (assign (.Name y py) X.env)) (λ_ s'=>SP X pins Dn .next s') acc C) O hc e2 e3 (hte cl) (htc cl) I2 T st2 f2 w2 ?_
 intro D C s' m hn hq hC
 show wpAny _ X.A (assign (.Name y py) X.env (.ref D)) _ _ _
 obtain⟨H',I',nC,q⟩:=hq s'.heap (.refl ..)
 have I'':Inv X pins σ H' s':=I'
 have CL:C≠X.env.locals:=Aqd (Ap0 I2.lt hC)
 have Qf:∀ y c,X.env.cells.lookup y=some c->c≠C:=λy c e z=>by
  obtain⟨v,q⟩:=I2.cell y c e
  have:=Ap0 q.lt hC
  rw[z] at this
  exact ApC _ this
 refine wpAny_assign_Name (Ly I'' hN hy (.inl hx) (show RelV (.ref D) (.ref D) from rfl) (λs3 I3 hsb=>?_) (.inr hx))
 obtain⟨a,hsb,ha⟩:=hsb
 have aC:C≠a:=by
  rcases ha with z | z
  ·rw[z];exact CL
  ·exact Ne.symm (Qf _ _ z)
 refine⟨m,hn.sameBut hsb aC,λh4 hs4=>?_⟩
 refine⟨_,H',I3.turned (it:=C) (t':=s3.toks) (λb o hb e=>(hs4.2 b hb).trans e) nC CL (.inr (ApF I2.sz hC)) Qf (λp hp z=>?_),q⟩
 ·have:=Ap0 (Heap.lt_size (I2.pin p hp).1) hC
  rw[z] at this
  exact ApC _ this
end
def Its (x:Str):It:=⟨λi _=>i<x.cps.size,λi H v H'=>H'=H/\∃ c,x.cps[i]?=some c/\v=.str ⟨#[c]⟩,λi _=>x.cps.size<=i⟩
theorem AfC{P:Program}{w:World}{K:W.Frag}{tg:Expr}(it:Addr)(x:Str)(t:Tok):Turn P w K tg (Its x) [it] it (λi h=>i<=x.cps.size/\h.IsStrIter it "str_ascii_iterator" x t i) where
 mem:=by simp
 obj:=λi h st b hb=>by
  have e:b=it:=by simpa using hb
  subst e
  obtain⟨_,o,e,c,d⟩:=st
  exact⟨o,e,λv z=>by rw[d] at z;cases z⟩
 keep:=λi h h' st k=>by
  obtain⟨hl,o,e,c,d⟩:=st
  exact⟨hl,o,k it (by simp) o e,c,d⟩
 item:=by
  intro X hP hw hK hc i pins s σ H E I hf st hg
  subst hP hw hK
  obtain⟨hl,st⟩:=st
  have hg:i<x.cps.size:=hg
  obtain⟨f0,f1,f2,f3,f4,f5⟩:=hf it (by simp)
  have hx:x.cps[i]?=some x.cps[i]:=by simp[hg]
  refine wpAny_pyNext_ascii_item st hx λh' st' sb=>?_
  have I1:Inv X pins σ H { s with heap:=h',toks:=s.toks+1 }:=I.turned (λb o hb e=>(sb.2 b hb).trans e) f0 f1 f3 f4 f5
  obtain⟨o,e,c,d⟩:=id st'
  exact⟨_,rfl,Ac3 (s:={ s with heap:=h',toks:=s.toks+1 }) e c d (by decide) ⟨.str ⟨#[x.cps[i]]⟩,H,I1,⟨_,rfl⟩,⟨rfl,_,hx,rfl⟩,⟨hg,st'⟩,λb hb=>(hf b hb).1⟩⟩
 done:=by
  intro X hP hw hK hc i pins s σ H E I hf st hg
  subst hP hw hK
  obtain⟨hl,st⟩:=st
  have hg:x.cps.size<=i:=hg
  obtain⟨f0,f1,f2,f3,f4,f5⟩:=hf it (by simp)
  exact wpAny_pyNext_ascii_end (I.ok.hd hc) st (by simp;omega) λh' eb=>⟨rfl,I.turned (t':=s.toks) (λb o hb e=>eb b o hb e) f0 f1 f3 f4 f5⟩
 self:=λ_ _ _ _ _ st h=>wpAny_pyIter_striter_ascii st.2 h
theorem AfD{P:Program}{w:World}{K:W.Frag}{tg:Expr}(it:Addr)(x:Str)(t:Tok):Turn P w K tg (Its x) [it] it (λi h=>i<=x.cps.size/\h.IsStrIter it "str_iterator" x t i) where
 mem:=by simp
 obj:=λi h st b hb=>by
  have e:b=it:=by simpa using hb
  subst e
  obtain⟨_,o,e,c,d⟩:=st
  exact⟨o,e,λv z=>by rw[d] at z;cases z⟩
 keep:=λi h h' st k=>by
  obtain⟨hl,o,e,c,d⟩:=st
  exact⟨hl,o,k it (by simp) o e,c,d⟩
 item:=by
  intro X hP hw hK hc i pins s σ H E I hf st hg
  subst hP hw hK
  obtain⟨hl,st⟩:=st
  have hg:i<x.cps.size:=hg
  obtain⟨f0,f1,f2,f3,f4,f5⟩:=hf it (by simp)
  have hx:x.cps[i]?=some x.cps[i]:=by simp[hg]
  refine wpAny_pyNext_wide_item st hx λh' st' sb=>?_
  have I1:Inv X pins σ H { s with heap:=h',toks:=s.toks+1 }:=I.turned (λb o hb e=>(sb.2 b hb).trans e) f0 f1 f3 f4 f5
  obtain⟨o,e,c,d⟩:=id st'
  exact⟨_,rfl,Ac3 (s:={ s with heap:=h',toks:=s.toks+1 }) e c d (by decide) ⟨.str ⟨#[x.cps[i]]⟩,H,I1,⟨_,rfl⟩,⟨rfl,_,hx,rfl⟩,⟨hg,st'⟩,λb hb=>(hf b hb).1⟩⟩
 done:=by
  intro X hP hw hK hc i pins s σ H E I hf st hg
  subst hP hw hK
  obtain⟨hl,st⟩:=st
  have hg:x.cps.size<=i:=hg
  obtain⟨f0,f1,f2,f3,f4,f5⟩:=hf it (by simp)
  exact wpAny_pyNext_wide_end (I.ok.hd hc) st (by simp;omega) λh' eb=>⟨rfl,I.turned (t':=s.toks) (λb o hb e=>eb b o hb e) f0 f1 f3 f4 f5⟩
 self:=λ_ _ _ _ _ st h=>wpAny_pyIter_striter_wide st.2 h
section
variable {X:Cx}{tg:Expr}
def AnQ (tl:TE):TI:=λσ H R=>tl σ H λx H1=>∃ z,x=.str z/\R (Its z) H1
theorem Nm{l:Expr}{tl:TE}(hl:PE X l tl):PI X tg l (AnQ tl):=by
 intro pins s σ H R I h
 refine thn (hl pins s σ H _ I h) λv s1 ⟨x,H1,I1,r1,q1⟩=>?_
 obtain⟨z,e,q⟩:=q1
 subst e
 obtain⟨t,rfl⟩:=r1
 have fpn:∀ b∈[s1.heap.objs.size],Hr X pins H1 b:=λb hb=>by
  have e:b=s1.heap.objs.size:=by simpa using hb
  subst e
  exact I1.AdH (Apv _) (I1.hok.fresh (Apv _))
 cases ha:z.cps.all (·<128)
 ·refine wpAny_pyIter_wide ha ?_
  exact⟨s1.heap.objs.size,[s1.heap.objs.size],_,_,H1,rfl,I1.kept (t':=s1.toks) λb o e=>Heap.get?_push_of_some _ e,AfD _ z t,⟨Ap8 _,_,Heap.get?_push_size _ rfl,rfl,rfl⟩,fpn,q⟩
 ·refine wpAny_pyIter_ascii ha ?_
  exact⟨s1.heap.objs.size,[s1.heap.objs.size],_,_,H1,rfl,I1.kept (t':=s1.toks) λb o e=>Heap.get?_push_of_some _ e,AfC _ z t,⟨Ap8 _,_,Heap.get?_push_size _ rfl,rfl,rfl⟩,fpn,q⟩
end
theorem Abv{z:Str}{g:TG}{tb:TS}{D:Ends}{σ:St}{H:Hp}(Pv:Nat->St->Hp->Prop)(h0:Pv 0 σ H)
  (hs:∀ i c σ H,z.cps[i]?=some c->Pv i σ H->g (.str ⟨#[c]⟩) σ H λσ2 H2=>tb { D with nx:=Pv (i+1),ct:=Pv (i+1),bk:=D.nx } σ2 H2) (hd:∀ σ H,Pv z.cps.size σ H->D.nx σ H) :
  ∃ W:Nat->Nat->St->Hp->Prop,(∃ m,W 0 m σ H)/\∀ i m σ H,W i m σ H ->
   ((Its z).stop i H/\D.nx σ H)\/((Its z).go i H/\∃ N:St->Hp->Prop,(∀ σ' H',N σ' H'->∃ m',m'<m/\W (i+1) m' σ' H')/\∀ x H',(Its z).yld i H x H'->g x σ H' λσ2 H2=>tb { D with nx:=N,ct:=N,bk:=D.nx } σ2 H2):=by
 refine⟨λi m σ H=>m=z.cps.size-i/\i<=z.cps.size/\Pv i σ H,⟨z.cps.size,by simp,Ap8 _,h0⟩,?_⟩
 rintro i m σ H ⟨rfl,hi,p⟩
 by_cases hlt:i<z.cps.size
 ·refine .inr ⟨hlt,Pv (i+1),λσ' H' p'=>⟨z.cps.size-(i+1),by omega,rfl,hlt,p'⟩,λx H' y=>?_⟩
  obtain⟨e,c,hc,rfl⟩:=y
  subst e
  exact hs i c σ _ hc p
 ·have e:i=z.cps.size:=by omega
  subst e
  exact .inl ⟨Apv _,hd σ H p⟩
def CN (n:Nat)(Pv:Nat->List V->Hp->Prop)(i:Nat)(ys:List V)(H:Hp):Prop:=∃ m',m'<n-i/\m'=n-(i+1)/\i+1<=n/\Pv (i+1) ys H
theorem CN.of{n:Nat}{Pv:Nat->List V->Hp->Prop}{i:Nat}{ys:List V}{H:Hp}(h:i<n)(p:Pv (i+1) ys H):CN n Pv i ys H:=⟨n-(i+1),by omega,rfl,h,p⟩
def Dh (n:Nat)(Pv:Nat->List V->Hp->Prop)(tc:TT)(te:TE)(σ:St)(i:Nat)(ys:List V)(H:Hp):Prop :=
 tc σ H λb H2=>if b=true then te σ H2 λy H3=>CN n Pv i (ys++[y]) H3 else CN n Pv i ys H2
theorem Dh.no{n:Nat}{Pv:Nat->List V->Hp->Prop}{te:TE}{σ:St}{i:Nat}{ys:List V}{H:Hp}(h:te σ H λy H3=>CN n Pv i (ys++[y]) H3):Dh n Pv Abu te σ i ys H:=by
 unfold Dh Abu
 exact Gq h
theorem DY{K:W.Frag}{a:Addr}{xs:List V}{Bd:List Nat}{tc:TT}{te:TE}{σ:St}{H:Hp}{Q:VK}(Pv:Nat->List V->Hp->Prop)(h0:Pv 0 [] H)(hl:∀ i ys H,i<=xs.length->Pv i ys H->SqL K H a xs/\ys.length<=i)
  (hz:xs.length<=sizeLine) (hs:∀ i x ys H,i<xs.length->xs[i]?=some x->Pv i ys H->Dh xs.length Pv tc te (some x::EY σ Bd) i ys H)
  (hd:∀ ys H p,Pv xs.length ys H->H p=none->Q (.ref p) (upd H p (.lst ys))):Qd Bd tc te (Itl K a) σ H Q:=by
 refine⟨λi m ys H=>m=xs.length-i/\i<=xs.length/\Pv i ys H,⟨xs.length,by simp,Ap8 _,h0⟩,?_⟩
 rintro i m ys H ⟨rfl,hi,p⟩
 obtain⟨q,hy⟩:=hl i ys H hi p
 by_cases hlt:i<xs.length
 ·refine .inr ⟨⟨xs,xs[i],q,by simp[hlt]⟩,by omega,λx H' y=>?_⟩
  obtain⟨e,y⟩:=y
  subst e
  exact hs i x ys _ hlt (y xs q) p
 ·have e:i=xs.length:=by omega
  subst e
  exact .inl ⟨⟨xs,q,Apv _⟩,by omega,λp' hp=>hd ys H p' p hp⟩
theorem Ea{lo:Int}{n:Nat}{Bd:List Nat}{tc:TT}{te:TE}{σ:St}{H:Hp}{Q:VK}(Pv:Nat->List V->Hp->Prop)(h0:Pv 0 [] H)(hl:∀ i ys H,i<=n->Pv i ys H->ys.length<=i)
  (hz:n<=sizeLine) (hs:∀ i ys H,i<n->Pv i ys H->Dh n Pv tc te (some (.int (lo+i))::EY σ Bd) i ys H)
  (hd:∀ ys H p,Pv n ys H->H p=none->Q (.ref p) (upd H p (.lst ys))):Qd Bd tc te (Itr lo n) σ H Q:=by
 refine⟨λi m ys H=>m=n-i/\i<=n/\Pv i ys H,⟨n,by simp,Ap8 _,h0⟩,?_⟩
 rintro i m ys H ⟨rfl,hi,p⟩
 have hy:=hl i ys H hi p
 by_cases hlt:i<n
 ·refine .inr ⟨hlt,by omega,λx H' y=>?_⟩
  obtain⟨e,y⟩:=y
  subst e y
  exact hs i ys _ hlt p
 ·have e:i=n:=by omega
  subst e
  exact .inl ⟨Apv _,by omega,λp' hp=>hd ys H p' p hp⟩
theorem LK{z:Str}{Bd:List Nat}{tc:TT}{te:TE}{σ:St}{H:Hp}{Q:VK}(Pv:Nat->List V->Hp->Prop)(h0:Pv 0 [] H)(hl:∀ i ys H,i<=z.cps.size->Pv i ys H->ys.length<=i)
  (hz:z.cps.size<=sizeLine) (hs:∀ i c ys H,i<z.cps.size->z.cps[i]?=some c->Pv i ys H->Dh z.cps.size Pv tc te (some (.str ⟨#[c]⟩)::EY σ Bd) i ys H)
  (hd:∀ ys H p,Pv z.cps.size ys H->H p=none->Q (.ref p) (upd H p (.lst ys))):Qd Bd tc te (Its z) σ H Q:=by
 refine⟨λi m ys H=>m=z.cps.size-i/\i<=z.cps.size/\Pv i ys H,⟨z.cps.size,by simp,Ap8 _,h0⟩,?_⟩
 rintro i m ys H ⟨rfl,hi,p⟩
 have hy:=hl i ys H hi p
 by_cases hlt:i<z.cps.size
 ·refine .inr ⟨hlt,by omega,λx H' y=>?_⟩
  obtain⟨e,c,hc,rfl⟩:=y
  subst e
  exact hs i c ys _ hlt hc p
 ·have e:i=z.cps.size:=by omega
  subst e
  exact .inl ⟨Apv _,by omega,λp' hp=>hd ys H p' p hp⟩
theorem AdO{ys:List Str}:∀{us:List Value},Vals (ys.map V.str) us->StrsAre us ys:=by
 induction ys with
 | nil=>intro us r;rw[ApW] at r;cases r;exact .nil
 | cons n ns ih =>
  intro us r
  rw[Apw] at r
  cases r with
  | cons r1 r2 =>
   obtain⟨t,e⟩:=r1
   subst e
   exact .cons n t (ih r2)
def rJoin(K:W.Frag):V->List V->Hp->VK->Prop:=λx vs H Q=>∃ z a ys,x=.str z/\vs=[.ref a]/\SqL K H a (ys.map V.str)/\(ys.map (·.length)).sum+ys.length*z.length<=16777216/\Q (.str (Txt.join z ys)) H
section
variable {X:Cx}
theorem Ajc:MtR X "str.join" (rJoin X.K):=by
 intro pins s σ H x vs v us Q I rx rv h
 obtain⟨z,a,ys,rfl,rfl,hq,hz,q⟩:=h
 obtain⟨t,rfl⟩:=rx
 obtain⟨u,rfl,ru⟩:=rv.one
 cases ru
 obtain⟨its,r,pl,hl⟩:=I.list hq
 exact join_list pl.isList (AdO (by simpa using r)) hz λt' k=>⟨.str _,H,I.tok _,⟨_,rfl⟩,q⟩
def Amz (K:W.Frag):List V->Hp->VK->Prop:=λvs H Q=>∃ x t b,Ti K H x t /\
 ((∃ n,vs=[x,.ty n]/\W.kitOne K t (.type n)=some b)\/(∃ a,vs=[x,.ref a]/\W.kitOne K t (.ref a)=some b))/\Q (.bl b) H
theorem AgW:JC X (.builtin "isinstance") (Amz X.K):=by
 intro pins s σ H xs us Q I rv h
 obtain⟨x,t,b,ty,hv,q⟩:=h
 rcases hv with ⟨n,rfl,e⟩ | ⟨a,rfl,e⟩
 ·obtain⟨u1,u2,rfl,r1,r2⟩:=rv.two
  cases r2
  exact Aa6 I r1 ty e λtk=>⟨.bl b,H,I.tok _,rfl,q⟩
 ·obtain⟨u1,u2,rfl,r1,r2⟩:=rv.two
  cases r2
  exact Aa6 I r1 ty e λtk=>⟨.bl b,H,I.tok _,rfl,q⟩
def eqL:List V->List V->Bool
 | [],[]=>true
 | x::xs,y::ys=>eqV x y && eqL xs ys
 | _,_=>false
theorem Yi{x:V}(h:Jh x=true):eqV x x=true:=by
 cases x with
 | non=>rfl
 | bl b=>simp[eqV]
 | int i=>simp[eqV]
 | str z=>simp[eqV]
 | _=>exact absurd (show false=true from h) Ap5
theorem AcC:∀{xs:List V},xs.all Jh=true->eqL xs xs=true
 | [],_=>rfl
 | x::xs,h=>by
  rw[Aq0,ApU] at h
  rw[eqL,Yi h.1,AcC h.2]
  rfl
theorem AeH:∀{xs ys:List V},xs.length≠ys.length->eqL xs ys=false
 | [],[],h=>absurd rfl h
 | [],_::_,_=>rfl
 | _::_,[],_=>rfl
 | x::xs,y::ys,h=>by
  rw[eqL,AeH (xs:=xs) (ys:=ys) (λz=>h (by rw[Apt,Apt,z])),Bool.and_false]
theorem AaC:∀{xs ys:List V},xs.length=ys.length->(List.range xs.length).all (λj=>eqV (xs.getD j .non) (ys.getD j .non))=eqL xs ys
 | [],[],_=>rfl
 | [],_::_,h=>by simp at h
 | _::_,[],h=>by simp at h
 | x::xs,y::ys,h=>by
  have h':xs.length=ys.length:=by simpa using h
  rw[Apt,List.range_succ_eq_map,Aq0,List.all_map]
  rw[eqL,<- AaC h']
  rfl
def Am0 (K:W.Frag):R2:=λx y H Q=>∃ p q xs ys,x=.ref p/\y=.ref q/\SqL K H p xs/\SqL K H q ys/\xs.all Jh=true/\ys.all Jh=true/\Q (.bl (eqL xs ys)) H
theorem AkX(hu:X.A.units<cLine):OpR X (compareOp .Eq) (Am0 X.K):=by
 intro pins s σ H x y v u Q I rx ry h
 obtain⟨p,q,xs,ys,rfl,rfl,hx,hy,fx,fy,k⟩:=h
 cases rx
 cases ry
 obtain⟨its,r,pl,hz⟩:=I.list hx
 obtain⟨its2,r2,pl2,hz2⟩:=I.list hy
 have l1:=r.length
 have l2:=r2.length
 by_cases hl:xs.length=ys.length
 ·refine SeqAt.eq_listAt (e:=λj=>eqV (xs.getD j .non) (ys.getD j .non)) pl.isList pl2.isList (by simp only [Ap3];omega) hu (λj h1 h2=>?_) ?_
  ·have j1:j<xs.length:=by simp only [Ap3] at h1;omega
   have j2:j<ys.length:=by omega
   obtain⟨w1,e1,q1⟩:=r.get (i:=j) (x:=xs[j]) (by simp[j1])
   obtain⟨w2,e2,q2⟩:=r2.get (i:=j) (x:=ys[j]) (by simp[j2])
   have g1:its.toArray[j]=w1:=by
    have:its.toArray[j]?=some w1:=by simpa using e1
    exact Option.some.inj ((Array.getElem?_eq_getElem h1).symm.trans this)
   have g2:its2.toArray[j]=w2:=by
    have:its2.toArray[j]?=some w2:=by simpa using e2
    exact Option.some.inj ((Array.getElem?_eq_getElem h2).symm.trans this)
   rw[g1,g2]
   have d1:xs.getD j .non=xs[j]:=by simp[List.getD,j1]
   have d2:ys.getD j .non=ys[j]:=by simp[List.getD,j2]
   show SeqAt.EqAt _ _ _ _ (eqV (xs.getD j .non) (ys.getD j .non))
   rw[d1,d2]
   exact Abp q1 q2 (List.all_eq_true.mp fx _ (ApI j1)) (List.all_eq_true.mp fy _ (ApI j2))
  ·refine⟨.bl (eqL xs ys),H,I,?_,k⟩
   show Value.bool _=Value.bool _
   rw[Ap3,<- l1,AaC hl]
 ·refine SeqAt.eq_list_lengthsAt pl.isList pl2.isList (by simp only [Ap3,bne_iff_ne];omega) hu ?_
  exact⟨.bl (eqL xs ys),H,I,by rw[AeH hl];rfl,k⟩
end
open PySem
def tx (l:List Nat):Str:=⟨l.toArray⟩
theorem Ai(l:List Nat):(tx l).length=l.length:=by simp[tx,Str.length]
theorem Gh(l:List Nat):(tx l).cps.size=l.length:=by simp[tx]
theorem Et(l:List Nat):(tx l).cps.toList=l:=by simp[tx]
theorem Np(l:List Nat)(i:Nat):(tx l).cps[i]?=l[i]?:=by simp[tx]
theorem Aks(z:Str):tx z.cps.toList=z:=by cases z;simp[tx]
theorem CJ(a b:List Nat):tx a++tx b=tx (a++b):=by
 show Str.append (tx a) (tx b)=_
 simp[tx,Str.append]
theorem Jp{a b:List Nat}(h:tx a=tx b):a=b:=by
 have:=congrArg (λz:Str=>z.cps.toList) h
 simpa [tx] using this
theorem Gr(c:Nat):(⟨#[c]⟩:Str)=tx [c]:=rfl
theorem AaD:∀(ys:List (List Nat)) (acc:Array Nat),(ys.map tx).foldl (λacc p=>acc++(tx []).cps++p.cps) acc=acc++ys.flatten.toArray
 | [],acc=>by simp
 | y::ys,acc=>by
  rw[Apw,Aq1,AaD ys]
  simp[tx]
theorem FN:∀(ys:List (List Nat)),Txt.join (tx []) (ys.map tx)=tx ys.flatten
 | []=>by simp[Txt.join,Builtin.Str.glued,tx,Str.empty]
 | y::ys=>by
  show Str.mk _=_
  simp only [Apw,List.drop_one,Aq5,List.headD_cons]
  rw[AaD]
  simp[tx]
theorem Om{α:Type}(f:α->Nat):∀(l:List α),(l.map λc=>[f c]).flatten=l.map f
 | []=>rfl
 | a::l=>by rw[Apw,ApH,Om f l];rfl
theorem Ajd{α:Type}(f:α->Nat):∀(l:List α),(((l.map λc=>[f c]).map tx).map (·.length)).sum=l.length
 | []=>rfl
 | a::l=>by
  rw[Apw,Apw,Apw,Aql,Ajd f l,Ai,Apt]
  show 1+l.length=l.length+1
  omega
end L2
namespace PySem
open Sem (wp)
open Builtin Builtin.Str Builtin.Int
namespace RV
theorem Vy:Manifest.owners.lookup (String.ofList ['d','e','s','r','e','v','e','r'].reverse)=some Manifest.sig_reversed:=by kernel_rfl
theorem mro_reversed:mroOf (.type "reversed")=pure [.type "reversed", .type "object"]:=by rw[mroOf_type];kernel_rfl
theorem lookup_reversed_new:typeLookup (.type "reversed") "__new__" = pure (some (.builtin "reversed.__new__")):=by rw[typeLookup_type,builtinLookup_eq_fast];kernel_rfl
theorem AfE:Slot "reversed" "__init__" "object.__init__" :=
 .of (owner := "object") (n := "__init__") (by rw[typeLookup_type,builtinLookup_eq_fast];kernel_rfl) (by decide +kernel) (by decide +kernel) (by decide +kernel)
  (by first | exact .inl (by decide +kernel) | exact .inr (by decide +kernel)) (by rw[isSubtype_type];kernel_rfl)
theorem Xc:TypeCalled "reversed" "reversed.__new__" "object.__init__" :=
 ⟨by decide +kernel,by decide +kernel,⟨_,_,mro_reversed⟩,madeBy_type mro_reversed lookup_reversed_new (by decide +kernel),by decide +kernel,by rw[isSubtype_type];kernel_rfl,AfE⟩
theorem AdP(a:Value):checkTypeCall "reversed" ⟨[a],[]⟩=pure ():=by kernel_rfl
theorem AfF(a:Value):checkBuiltinCall "reversed.__new__" ⟨[.type "reversed", a],[]⟩=pure ():=by kernel_rfl
theorem AfG:entryFor table "reversed.__new__" = some Builtin.«reversed.__new__»:=entryFor_of_tree (by kernel_rfl)
theorem sub_self:isSubtype (.type "reversed") (.type "reversed")=pure true:=by rw[isSubtype_type];kernel_rfl
theorem AfH:typeLookup (.type "str") "__reversed__" = pure none:=by rw[typeLookup_type,builtinLookup_eq_fast];kernel_rfl
theorem AdQ:isSubtype (.type "str") (.type "dict")=pure false:=by rw[isSubtype_type];kernel_rfl
theorem slot_next:Slot "reversed" "__next__" "reversed.__next__" :=
 .of (owner := "reversed") (n := "__next__") (by rw[typeLookup_type,builtinLookup_eq_fast];kernel_rfl) (by decide +kernel) (by decide +kernel) (by decide +kernel)
  (by first | exact .inl (by decide +kernel) | exact .inr (by decide +kernel)) (by rw[isSubtype_type];kernel_rfl)
theorem entry_next:entryFor table "reversed.__next__" = some Builtin.«reversed.__next__»:=entryFor_of_tree (by kernel_rfl)
theorem Wl(a:Value):argsOk "reversed.__next__" ⟨[a],[]⟩:=by
 unfold argsOk;rw[signature?_of (id := "reversed.__next__") (n:=['_','_','t','x','e','n','_','_']) (o:=['d','e','s','r','e','v','e','r']) (by kernel_rfl) Vy];kernel_rfl
theorem AaE:Slot "reversed" "__iter__" "reversed.__iter__" :=
 .of (owner := "reversed") (n := "__iter__") (by rw[typeLookup_type,builtinLookup_eq_fast];kernel_rfl) (by decide +kernel) (by decide +kernel) (by decide +kernel)
  (by first | exact .inl (by decide +kernel) | exact .inr (by decide +kernel)) (by rw[isSubtype_type];kernel_rfl)
theorem AdR:entryFor table "reversed.__iter__" = some Builtin.«dict_keyiterator.__iter__» :=
 entryFor_alias (id' := "dict_keyiterator.__iter__") (by kernel_rfl) (by first | rfl | decide +kernel | (unfold String.splitOn;simp +decide [String.splitOnAux])) (by decide +kernel) (by kernel_rfl)
theorem AcD(a:Value):argsOk "reversed.__iter__" ⟨[a],[]⟩:=by
 unfold argsOk;rw[signature?_of (id := "reversed.__iter__") (n:=['_','_','r','e','t','i','_','_']) (o:=['d','e','s','r','e','v','e','r']) (by kernel_rfl) Vy];kernel_rfl
theorem Vz:Slot "reversed" "__length_hint__" "reversed.__length_hint__" :=
 .of (owner := "reversed") (n := "__length_hint__") (by rw[typeLookup_type,builtinLookup_eq_fast];kernel_rfl) (by decide +kernel) (by decide +kernel) (by decide +kernel)
  (by first | exact .inl (by decide +kernel) | exact .inr (by decide +kernel)) (by rw[isSubtype_type];kernel_rfl)
theorem AdS:entryFor table "reversed.__length_hint__" = some Builtin.«reversed.__length_hint__»:=entryFor_of_tree (by kernel_rfl)
theorem AcE(a:Value):argsOk "reversed.__length_hint__" ⟨[a],[]⟩:=by
 unfold argsOk;rw[signature?_of (id := "reversed.__length_hint__") (n:=['_','_','t','n','i','h','_','h','t','g','n','e','l','_','_']) (o:=['d','e','s','r','e','v','e','r']) (by kernel_rfl) Vy];kernel_rfl
theorem Akt:typeLookup (.type "reversed") "__len__" = pure none:=by rw[typeLookup_type,builtinLookup_eq_fast];kernel_rfl
theorem hint:typeLookup (.type "reversed") "__length_hint__" = pure (some (.builtin "reversed.__length_hint__")):=by rw[typeLookup_type,builtinLookup_eq_fast];kernel_rfl
end RV
def Yj (x:Str)(t:Tok)(i:Int):Obj:={ cls:=.type "reversed", data:=.fields #[.str x t,rawInt i] }
set_option maxHeartbeats 1000000 in
theorem Yk(x:Str)(t:Tok)(hx:¬(x.length:Int) ≥ 2 ^ 63) :
  Meets (Builtin.«reversed.__new__» ⟨[.type "reversed", .str x t],[]⟩) (λ_ R s =>
   R (.ok (.ret (.ref s.heap.objs.size))) { s with heap:=s.heap.push (Yj x t ((x.length:Int)-1)),toks:=s.toks+1+1 }) :=
 .of_wp λprog w A R s h=>by
  obtain⟨hp,g,d,tk,os⟩:=s
  have hsub:=RV.sub_self
  have h1:=RV.AfH
  have h2:=RV.AdQ
  have h3:=F.slot_str_getitem.lookup
  wp_walk using (PySem.P.len_str hx)
  exact⟨_,rfl,h⟩
def Heap.Dp(h:Heap)(a:Addr)(x:Str)(t:Tok)(i:Int):Prop:=∃ o,h.get? a=some o/\o.cls=.type "reversed" /\ o.data=.fields #[.str x t,rawInt i]
theorem Heap.Dp.typeIs{s:Shared}{a:Addr}{x:Str}{t:Tok}{i:Int}(y:s.heap.Dp a x t i):s.TypeIs (.ref a) "reversed" := let ⟨o,ho,hc,_⟩:=y;⟨o,ho,hc⟩
theorem Heap.Dp.at{h h':Heap}{a:Addr}{x:Str}{t:Tok}{i:Int}(y:h.Dp a x t i)(e:∀ o,h.get? a=some o->h'.get? a=some o):h'.Dp a x t i:=let ⟨o,ho,r⟩:=y;⟨o,e _ ho,r⟩
section
variable {prog:Program}{w:World}{A:Around}{E:Value->Shared->Prop}{s:Shared}
theorem Hv{x:Str}{t:Tok}{Q:Value->Shared->Prop}(hx:¬(x.length:Int) ≥ 2 ^ 63)
  (h:Q (.ref s.heap.objs.size) { s with heap:=s.heap.push (Yj x t ((x.length:Int)-1)),toks:=s.toks+1+1 }):wpAny (model prog w) A (call (.type "reversed") [.str x t]) Q E s :=
 callType_new RV.Xc (by decide) (RV.AdP _) (RV.AfF _) (λobj=>F.args_object_init_2 obj _) RV.AfG (Yk x t hx) ⟨⟨_,Heap.get?_push_size _ rfl,rfl⟩,h⟩
theorem Ji{it:Addr}{x:Str}{t:Tok}{i:Int}{Q:Value->Shared->Prop}(hit:s.heap.Dp it x t i)(h:Q (.ref it) s):wpAny (model prog w) A (pyIter (.ref it)) Q E s:=by
 refine wpAny_pyIter_slot hit.typeIs RV.AaE (wpAny_call_entry RV.AaE hit.typeIs RV.AdR ?_ (RV.AcD _))
 show wpAny _ _ (ret (.ref it)) _ _ s
 exact wpAny_pure ⟨_,rfl, "reversed", _,hit.typeIs,RV.slot_next.lookup,h⟩
theorem HY{it:Addr}{x:Str}{t:Tok}{i c:Nat}{Q:Option Value->Shared->Prop}(hit:s.heap.Dp it x t (i:Int))(hx:x.cps[i]?=some c)(hb:¬(x.length:Int) ≥ 2 ^ 63)
  (hQ:∀ h' u tk,h'.Dp it x t ((i:Int)-1)->Heap.SameBut it s.heap h'->Q (some (.str ⟨#[c]⟩ u)) { s with heap:=h',toks:=tk }):wpAny (model prog w) A (pyNext (.ref it)) Q E s:=by
 obtain⟨o,ho,hc,hd⟩:=id hit
 have hi:i<x.length:=(Array.getElem?_eq_some_iff.mp hx).1
 unfold pyNext
 refine wpAny_bind (wpAny_attempt (wpAny_callSpecial?_slot (name:=Str.ofString "__next__") hit.typeIs RV.slot_next
  (wpAny_call_entry RV.slot_next hit.typeIs RV.entry_next ?_ (RV.Wl _))))
 unfold Builtin.«reversed.__next__»
 refine wpAny_bind (wpAny_of_eq (a:=(Value.ref it,[])) rfl ?_)
 try dsimp only
 refine wpAny_bind (wpAny_field ho hd (x:=.str x t) rfl ?_)
 show wpAny _ _ (field (.ref it) 1 >>= _) _ _ s
 refine wpAny_bind (wpAny_field ho hd (x:=rawInt (i:Int)) rfl ?_)
 show wpAny _ _ (if (i:Int)<0 then _ else _) _ _ s
 rw[if_neg (by omega)]
 refine wpAny_bind (wpAny_specialOf (typeIs_str s x t) F.slot_str_getitem.lookup ?_)
 rw[if_neg (by decide)]
 refine wpAny_bind (wpAny_mkInt ?_)
 have e1:seqIndex? (i:Int) x.length=some i:=by
  have:=PySem.StrLaws.seqIndex_nonneg (i:=(i:Int)) (n:=x.length) (by omega) (by omega)
  simpa using this
 refine wpAny_bind (wpAny_attempt (PySem.P.getItem_str (c:=c) (by
  have e1:decide ((i:Int) < -(2 ^ 63:Int))=false:=decide_eq_false (by omega)
  have e2:decide ((i:Int) ≥ 2 ^ 63)=false:=decide_eq_false (by omega)
  rw[e1,e2];rfl) (by rw[e1];exact hx) ?_))
 show wpAny _ _ (field (.ref it) 1 >>= _) _ _ _
 refine wpAny_bind (wpAny_field (s:={ s with toks:=s.toks+1+1 }) ho hd (x:=rawInt (i:Int)) rfl ?_)
 show wpAny _ _ (setField (.ref it) 1 (rawInt ((i:Int)-1)) >>= _) _ _ _
 refine wpAny_bind (wpAny_setField (s:={ s with toks:=s.toks+1+1 }) ho hd (by simp) ?_)
 refine wpAny_pure ⟨_,rfl,wpAny_pure (hQ _ _ _ ?_ (Heap.SameBut.update ..))⟩
 exact⟨_,Heap.get?_update_self _ ho (Obj.isFreed_of_fields (Obj.data_mapFields hd _)),(Obj.cls_mapFields ..).trans hc,by
  rw[Obj.data_mapFields hd];simp⟩
theorem Jq{it:Addr}{x:Str}{t:Tok}{Q:Option Value->Shared->Prop}(hh:A.handled=none)(hit:s.heap.Dp it x t (-1))
  (hQ:∀ h',Heap.ExtBut it s.heap h'->(∃ o,h'.get? it=some o)->Q none { s with heap:=h' }):wpAny (model prog w) A (pyNext (.ref it)) Q E s:=by
 obtain⟨o,ho,hc,hd⟩:=id hit
 unfold pyNext
 refine wpAny_bind (wpAny_attempt (wpAny_callSpecial?_slot (name:=Str.ofString "__next__") hit.typeIs RV.slot_next
  (wpAny_call_entry RV.slot_next hit.typeIs RV.entry_next ?_ (RV.Wl _))))
 unfold Builtin.«reversed.__next__»
 refine wpAny_bind (wpAny_of_eq (a:=(Value.ref it,[])) rfl ?_)
 try dsimp only
 refine wpAny_bind (wpAny_field ho hd (x:=.str x t) rfl ?_)
 show wpAny _ _ (field (.ref it) 1 >>= _) _ _ s
 refine wpAny_bind (wpAny_field ho hd (x:=rawInt (-1)) rfl ?_)
 show wpAny _ _ (if (-1:Int)<0 then _ else _) _ _ s
 rw[if_pos (by decide)]
 refine wpAny_bind (wpAny_rule ?_)
 refine wpAny_bind ?_
 show wpAny _ _ (setField (.ref it) 1 (rawInt (-1)) >>= λ_=>setField (.ref it) 0 .none) _ _ _
 refine wpAny_bind (wpAny_setField ho hd (by simp) ?_)
 have ho2:=Heap.get?_update_self (Obj.mapFields λvs=>vs.set! 1 (rawInt (-1))) ho (Obj.isFreed_of_fields (Obj.data_mapFields hd _))
 have hd2:=Obj.data_mapFields hd λvs=>vs.set! 1 (rawInt (-1))
 refine wpAny_setField (s:={ s with heap:=s.heap.update it (Obj.mapFields λvs=>vs.set! 1 (rawInt (-1))) }) ho2 hd2 (by simp) ?_
 have hd3:=Obj.data_mapFields hd2 λvs=>vs.set! 0 Value.none
 have ho3:=Heap.get?_update_self (Obj.mapFields λvs=>vs.set! 0 Value.none) ho2 (Obj.isFreed_of_fields hd3)
 refine wpAny_bind ?_
 show wpAny _ _ (newExc (.type "StopIteration") [] >>= _) _ _ _
 refine wpAny_bind ?_
 simp only [newExc,newTuple]
 refine wpAny_bind (wpAny_newObj_type ?_ (by size_fits))
 refine wpAny_bind (m:=firstArgMember _ _) (wpAny_of_eq (a:=Value.none) (by first | rfl | (simp only [firstArgMember];rfl)) ?_)
 refine wpAny_newObj_type ?_ (by size_fits)
 simp only [raiseNew]
 refine wpAny_bind (wpAny_handled ?_)
 first | rw[show A.in1.handled=none from hh] | rw[hh]
 refine wpAny_bind (wpAny_pure (wpAny_throw ?_))
 refine wpAny_bind (wpAny_isInstance (T := "StopIteration") (b:=true) ⟨_,Heap.get?_push_size _ rfl,rfl⟩ isSubtype_stop ?_)
 refine wpAny_pure (hQ _ ((((Heap.SameBut.update ..).extBut.trans (Heap.SameBut.update ..).extBut).push _).push _) ⟨_,Heap.get?_push_of_some _ (Heap.get?_push_of_some _ ho3)⟩)
theorem Walks.Yj(hh:A.handled=none)(I:Addr)(x:Str)(t:Tok)(hb:¬(x.length:Int) ≥ 2 ^ 63) :
  Walks prog w A I [I] [I] x.cps.size (λi v=>∃ c u,x.cps[x.cps.size-1-i]?=some c/\v=.str ⟨#[c]⟩ u) (λi h=>i<=x.cps.size/\h.Dp I x t ((x.cps.size:Int)-1-(i:Int))) where
 sub:=λ_ hb=>hb
 frame:=λ_ _ _ st hk=>⟨st.1,st.2.at λo e=>hk I (by simp) o e⟩
 item:=λi s Q E hi st hQ=>by
  have e:(x.cps.size:Int)-1-(i:Int)=((x.cps.size-1-i:Nat):Int):=by omega
  have hit:=st.2
  rw[e] at hit
  have hx:x.cps[x.cps.size-1-i]?=some (x.cps[x.cps.size-1-i]'(by omega)):=Array.getElem?_eq_getElem (by omega)
  refine HY hit hx hb λh' u tk hit' hs'=>?_
  have e2:((x.cps.size-1-i:Nat):Int)-1=(x.cps.size:Int)-1-((i+1:Nat):Int):=by omega
  rw[e2] at hit'
  exact hQ _ h' tk ⟨_,_,hx,rfl⟩ ⟨hi,hit'⟩ λb o hb eo=>hs'.extBut b o (λh=>hb (by simp[h])) eo
 done:=λs Q E st hQ=>by
  have e:(x.cps.size:Int)-1-(x.cps.size:Int) = -1:=by omega
  have hit:=st.2
  rw[e] at hit
  exact Jq hh hit λh' he' _=>hQ h' s.toks λb o hb eo=>he' b o (λh=>hb (by simp[h])) eo
 self:=λ_ _ _ _ st hQ=>Ji st.2 hQ
theorem Qg{it:Addr}{x:Str}{t:Tok}{Q:Value->Shared->Prop}(hb:¬(x.length:Int) ≥ 2 ^ 63)(hit:s.heap.Dp it x t ((x.length:Int)-1))
  (h:∀ u tk,s.toks<=tk->Q (.int x.length u) { s with toks:=tk }):wpAny (model prog w) A (call (.builtin "reversed.__length_hint__") [.ref it]) Q E s:=by
 obtain⟨o,ho,hc,hd⟩:=id hit
 refine wpAny_call_entry RV.Vz hit.typeIs RV.AdS ?_ (RV.AcE _)
 unfold Builtin.«reversed.__length_hint__»
 refine wpAny_bind (wpAny_of_eq (a:=Value.ref it) rfl ?_)
 refine wpAny_bind (wpAny_field ho hd (x:=.str x t) rfl ?_)
 rw[if_neg (show ¬((Value.str x t == Value.none)=true) from Ap5)]
 refine wpAny_bind (PySem.P.len_str hb ?_)
 refine wpAny_bind (m:=asInt? (.int x.length (s.toks+1))) (wpAny_pure ?_)
 dsimp only
 show wpAny _ _ (field (.ref it) 1 >>= _) _ _ _
 refine wpAny_bind (wpAny_field (s:={ s with toks:=s.toks+1+1 }) ho hd (x:=rawInt ((x.length:Int)-1)) rfl ?_)
 show wpAny _ _ (if (x.length:Int)<(x.length:Int)-1+1 then _ else retInt ((x.length:Int)-1+1)) _ _ _
 rw[if_neg (by omega),show(x.length:Int)-1+1=x.length by omega]
 unfold retInt
 refine wpAny_bind (wpAny_mkInt (wpAny_pure ⟨_,rfl,h _ _ ?_⟩))
 show s.toks<=s.toks+1+1+1
 omega
theorem Ip{R:Result->Shared->Prop}{I:Addr}{x:Str}{t:Tok}(hh:A.handled=none)(hb:x.length<=sizeLine)(S:Addr)(hSI:S≠I)(res:Value) :
  ∀(k i:Nat) (s:Shared) (acc:Array Value) (c:Nat),x.cps.size-i=k->i<=x.cps.size->s.heap.Dp I x t ((x.cps.size:Int)-1-(i:Int)) ->
  s.heap.get? S=some { cls:=.type "list", dict:=none,data:=.seq acc c,slots:=#[] }->ItemsOf (λi v=>∃ c u,x.cps[x.cps.size-1-i]?=some c/\v=.str ⟨#[c]⟩ u) acc i ->
  (∀ h' tk acc' c',(∀ b o,b≠S->b≠I->s.heap.get? b=some o->h'.get? b=some o)->(∃ o,h'.get? I=some o)->h'.get? S=some { cls:=.type "list", dict:=none,data:=.seq acc' c',slots:=#[] } ->
   ItemsOf (λi v=>∃ c u,x.cps[x.cps.size-1-i]?=some c/\v=.str ⟨#[c]⟩ u) acc' x.cps.size->R (.ok (.ret res)) { s with heap:=h',toks:=tk }) ->
  codeAny (model prog w) A (.builtin "list.extend.loop" ⟨[.ref S,.ref I,res],[]⟩) R s:=by
 have hl:sizeLine=16777216:=sizeLine_eq
 have hb':¬(x.length:Int) ≥ 2 ^ 63:=by omega
 have hn:x.cps.size<=sizeLine:=hb
 intro k
 induction k with
 | zero =>
  intro i s acc c hk hi hst hS hacc hR
  have hin:i=x.cps.size:=by omega
  subst hin
  refine codeAny_builtin F.entry_extend_loop ?_
  rw[Around.under_plainId F.plain_extend_loop _]
  show wpAny _ A.in1 (pyNext (.ref I) >>= _) _ _ s
  have e:(x.cps.size:Int)-1-(x.cps.size:Int) = -1:=by omega
  rw[e] at hst
  refine wpAny_bind (Jq (by exact hh) hst λh' he' ho'=>?_)
  exact wpAny_pure (hR h' s.toks acc c (λb o _ hI q=>he' b o hI q) ho' (he' S _ hSI hS) hacc)
 | succ k ih =>
  intro i s acc c hk hi hst hS hacc hR
  have hlt:i<x.cps.size:=by omega
  refine codeAny_builtin F.entry_extend_loop ?_
  rw[Around.under_plainId F.plain_extend_loop _]
  show wpAny _ A.in1 (pyNext (.ref I) >>= _) _ _ s
  have e:(x.cps.size:Int)-1-(i:Int)=((x.cps.size-1-i:Nat):Int):=by omega
  rw[e] at hst
  have hx:x.cps[x.cps.size-1-i]?=some (x.cps[x.cps.size-1-i]'(by omega)):=Array.getElem?_eq_getElem (by omega)
  refine wpAny_bind (HY hst hx hb' λh' u tk hit' hs'=>?_)
  have e2:((x.cps.size-1-i:Nat):Int)-1=(x.cps.size:Int)-1-((i+1:Nat):Int):=by omega
  rw[e2] at hit'
  have hS':h'.get? S=some { cls:=.type "list", dict:=none,data:=.seq acc c,slots:=#[] }:=(hs'.2 S hSI).trans hS
  show wpAny _ A.in1 (updateSeq S (·.push _) >>= _) _ _ _
  refine wpAny_bind ?_
  refine wpAny_updateSeq (s:={ s with heap:=h',toks:=tk }) hS' rfl (wpAny_pure ⟨plainId_quiet F.plain_extend_loop _,ih (i+1) _ (acc.push _) _ (by omega) hlt (hit'.at λo q=>(Heap.get?_update_other _ _ hSI).trans q) (Heap.get?_update_self _ hS' rfl) (hacc.push ⟨_,u,hx,rfl⟩) λh2 tk2 acc' c' kp ho2 hS2 hacc'=>?_⟩)
   (by rw[hacc.1];omega) (by show(acc.push _).size<=sizeLine+1;rw[Array.size_push,hacc.1];omega)
  exact hR h2 tk2 acc' c' (λb o hbS hbI q=>kp b o hbS hbI ((Heap.get?_update_other _ _ (Ne.symm hbS)).trans ((hs'.2 b hbI).trans q))) ho2 hS2 hacc'
theorem Abw{I:Addr}{x:Str}{t:Tok}{Q:List Value->Shared->Prop}(hh:A.handled=none)(hb:x.length<=sizeLine)(hit:s.heap.Dp I x t ((x.length:Int)-1))
  (hQ:∀ h' tk acc,(∀ b o,b≠I->s.heap.get? b=some o->h'.get? b=some o)->(∃ o,h'.get? I=some o)->ItemsOf (λi v=>∃ c u,x.cps[x.cps.size-1-i]?=some c/\v=.str ⟨#[c]⟩ u) acc x.cps.size->Q acc.toList { s with heap:=h',toks:=tk }) :
  wpAny (model prog w) A (collect (.ref I)) Q E s:=by
 have hl:sizeLine=16777216:=sizeLine_eq
 have hb':¬(x.length:Int) ≥ 2 ^ 63:=by omega
 have hn:x.cps.size<=sizeLine:=hb
 have W:=(Walks.Yj (prog:=prog) (w:=w) (A:=A.in1) hh I x t hb').toS
 have hst:(λ(i:Nat) (s:Shared)=>i<=x.cps.size/\s.heap.Dp I x t ((x.cps.size:Int)-1-(i:Int))) 0 s:=⟨Ap8 _,by
  have e:(x.cps.size:Int)-1-((0:Nat):Int)=(x.length:Int)-1:=by show(x.cps.size:Int)-1-((0:Nat):Int)=(x.cps.size:Int)-1;omega
  rw[e];exact hit⟩
 have hI:I<s.heap.objs.size:=by
  obtain⟨o,ho,_⟩:=hit
  exact Heap.lt_size ho
 have hSf:s.heap.objs.size∉[I]:=λhm=>by
  have:=List.mem_singleton.mp hm
  rw[this] at hI
  exact ApC _ hI
 have hSI:s.heap.objs.size≠I:=λe=>hSf (by rw[e];simp)
 unfold collect
 refine wpAny_bind (wpAny_runValue (codeAny_builtin F.entry_proto_collect ?_))
 rw[Around.under_plainId F.plain_proto_collect _]
 show wpAny _ A.in1 (newList [] >>= λl=>again (.builtin "list.__iadd__" ⟨[l,.ref I],[]⟩)) _ _ s
 refine wpAny_bind (wpAny_newObj_type ?_)
 refine wpAny_pure ⟨plainId_quiet F.plain_list_iadd _,codeAny_builtin F.entry_list_iadd ?_⟩
 rw[Around.under_plainId F.plain_list_iadd _]
 have hit1:(s.heap.push { cls:=.type "list", data:=.seq ([]:List Value).toArray }).Dp I x t ((x.length:Int)-1):=hit.at λo e=>Heap.get?_push_of_some _ e
 have hst₁:=W.frame 0 s (s.heap.push { cls:=.type "list", data:=.seq ([]:List Value).toArray }) s.toks hst (Apv _) λb _ o e=>Heap.get?_push_of_some _ e
 have hS₁:(s.heap.push { cls:=.type "list", data:=.seq ([]:List Value).toArray }).get? s.heap.objs.size=some { cls:=.type "list", data:=.seq ([]:List Value).toArray }:=Heap.get?_push_size _ rfl
 have h1:Builtin.List.listSameRef (.ref s.heap.objs.size) (.ref I)=false:=by simp[Builtin.List.listSameRef,hSI]
 have hT1:({ s with heap:=s.heap.push { cls:=.type "list", data:=.seq ([]:List Value).toArray } }:Shared).TypeIs (.ref I) "reversed" := Heap.Dp.typeIs (s:={ s with heap:=s.heap.push { cls:=.type "list", data:=.seq ([]:List Value).toArray } }) hit1
 show wpAny _ A.in1 (Builtin.List.listExtendWith (.ref s.heap.objs.size) (.ref I) (.ref s.heap.objs.size)) _ _ _
 unfold Builtin.List.listExtendWith
 refine wpAny_bind (wpAny_typeOf hT1 ?_)
 rw[if_neg (by rw[h1];decide)]
 refine wpAny_bind (W.self 0 _ _ _ hst₁ ?_)
 refine wpAny_bind (wpAny_holding ?_)
 unfold Builtin.List.listLengthHint
 refine wpAny_bind (wpAny_specialOf hT1 RV.Akt ?_)
 show wpAny _ A.in1 (specialOf (Value.ref I) (Str.ofString "__length_hint__") >>= _) _ _ _
 refine wpAny_bind (wpAny_specialOf hT1 RV.hint ?_)
 (generalize hid:("reversed.__length_hint__" : String)=id0;(fail_if_success (clear hid id0));wp_delta;rw[show splitId id0=some ("reversed", "__length_hint__") from by subst hid;decide +kernel];subst hid)
 refine wpAny_bind (wpAny_isInstance (b:=true) hT1 (by rw[isSubtype_type];kernel_rfl) ?_)
 show wpAny _ A.in1 (rule "list.length-hint.hint" >>= _) _ _ _
 refine wpAny_bind (wpAny_rule ?_)
 refine wpAny_bind (wpAny_of_eq (RV.Vz.bind _) ?_)
 dsimp only
 refine wpAny_bind (wpAny_attempt (Qg (s:={ s with heap:=s.heap.push { cls:=.type "list", data:=.seq ([]:List Value).toArray } }) hb' hit1 λu tk htk=>?_))
 have hk0:∃ k:Int,k=(x.length:Int):=⟨_,rfl⟩
 obtain⟨k,hk⟩:=hk0
 rw[<- hk]
 dsimp only
 refine wpAny_bind (m:=asInt? (.int k u)) (wpAny_pure ?_)
 dsimp only
 have f1:Builtin.List.listFitsIndex k=true:=by
  unfold Builtin.List.listFitsIndex
  simp
  omega
 have f2:Builtin.List.listTooLong k.toNat=false:=by
  unfold Builtin.List.listTooLong
  exact decide_eq_false (by omega)
 rw[if_neg (by rw[f1];decide),if_neg (by omega),if_neg (by rw[f2];decide)]
 refine wpAny_pure ?_
 have e00:(x.cps.size:Int)-1-((0:Nat):Int)=(x.length:Int)-1:=by show(x.cps.size:Int)-1-((0:Nat):Int)=(x.cps.size:Int)-1;omega
 have old:∀ b o,s.heap.get? b=some o->(s.heap.push { cls:=.type "list", data:=.seq ([]:List Value).toArray }).get? b=some o:=λb o e=>Heap.get?_push_of_some _ e
 have neS:∀ b o,s.heap.get? b=some o->b≠s.heap.objs.size:=λb o e=>Apy (Heap.lt_size e)
 by_cases h0:x.length=0
 ·have e0:(k != 0)=false:=by rw[hk,h0];rfl
  rw[e0,if_neg (by decide)]
  have st0:(s.heap.push { cls:=.type "list", data:=.seq ([]:List Value).toArray }).Dp I x t ((x.cps.size:Int)-1-((0:Nat):Int)):=by rw[e00];exact hit1
  refine wpAny_pure ⟨plainId_quiet F.plain_extend_loop _,?_⟩
  refine Ip (A:=A) hh hb _ hSI _ _ 0 { s with heap:=s.heap.push { cls:=.type "list", data:=.seq ([]:List Value).toArray },toks:=tk } #[] _ rfl (Ap8 _) st0 hS₁ (ItemsOf.nil _) λh' tk' acc' c' kp ho' hS' hacc=>?_
  show wpAny _ A (load s.heap.objs.size >>= _) _ _ _
  refine wpAny_bind (wpAny_load (s:={ s with heap:=h',toks:=tk' }) hS' ?_)
  exact wpAny_pure (hQ h' tk' acc' (λb o hbI q=>kp b o (neS b o q) hbI (old b o q)) ho' hacc)
 ·have e0:(k != 0)=true:=by simp;omega
  rw[e0,if_pos (by decide)]
  refine wpAny_bind (wpAny_rule ?_)
  refine wpAny_bind ?_
  show wpAny _ A.in1 (updateSeq s.heap.objs.size (·.push .none) >>= λ_=>updateSeq s.heap.objs.size (·.pop)) _ _ _
  refine wpAny_bind (wpAny_updateSeq hS₁ rfl ?_)
  have hS₂:=Heap.get?_update_self (Obj.mapSeq (·.push Value.none)) hS₁ rfl
  refine wpAny_updateSeq hS₂ rfl ?_
  have hS₃:=Heap.get?_update_self (Obj.mapSeq (·.pop)) hS₂ rfl
  have oth:∀ b o,b≠s.heap.objs.size->(s.heap.push { cls:=.type "list", data:=.seq ([]:List Value).toArray }).get? b=some o ->
    (((s.heap.push { cls:=.type "list", data:=.seq ([]:List Value).toArray }).update s.heap.objs.size (Obj.mapSeq (·.push Value.none))).update s.heap.objs.size (Obj.mapSeq (·.pop))).get? b=some o :=
   λb o hb e=>(Heap.get?_update_other _ _ (Ne.symm hb)).trans ((Heap.get?_update_other _ _ (Ne.symm hb)).trans e)
  have st0:(((s.heap.push { cls:=.type "list", data:=.seq ([]:List Value).toArray }).update s.heap.objs.size (Obj.mapSeq (·.push Value.none))).update s.heap.objs.size (Obj.mapSeq (·.pop))).Dp I x t ((x.cps.size:Int)-1-((0:Nat):Int)):=by
   rw[e00];exact hit1.at λo q=>oth I o (Ne.symm hSI) q
  refine wpAny_pure ⟨plainId_quiet F.plain_extend_loop _,?_⟩
  refine Ip (A:=A) hh hb _ hSI _ _ 0
   { s with heap:=((s.heap.push { cls:=.type "list", data:=.seq ([]:List Value).toArray }).update s.heap.objs.size (Obj.mapSeq (·.push Value.none))).update s.heap.objs.size (Obj.mapSeq (·.pop)),toks:=tk } #[] _ rfl (Ap8 _) st0 hS₃ (ItemsOf.nil _) λh' tk' acc' c' kp ho' hS' hacc=>?_
  show wpAny _ A (load s.heap.objs.size >>= _) _ _ _
  refine wpAny_bind (wpAny_load (s:={ s with heap:=h',toks:=tk' }) hS' ?_)
  exact wpAny_pure (hQ h' tk' acc' (λb o hbI q=>kp b o (neS b o q) hbI (oth b o (neS b o q) (old b o q))) ho' hacc)
theorem AfI{I:Addr}{sep x:Str}{t u:Tok}{Q:Value->Shared->Prop}(hh:A.handled=none)(hb:x.length<=1000)(hs:sep.length<=16)(hit:s.heap.Dp I x t ((x.length:Int)-1))
  (h:∀ h' t' k,(∀ b o,b≠I->s.heap.get? b=some o->h'.get? b=some o)->(∃ o,h'.get? I=some o)->Q (.str (Txt.join sep (x.cps.toList.reverse.map λc=>⟨#[c]⟩)) t') { s with heap:=h',toks:=k }) :
  wpAny (model prog w) A (call (.builtin "str.join") [.str sep u,.ref I]) Q E s:=by
 have hl:sizeLine=16777216:=sizeLine_eq
 refine wpAny_call (codeAny_call_builtin F.slot_str_join.plain F.entry_str_join (F.slot_str_join.check _ _ _ _ _ _ _ _ (typeIs_str _ _ _) (F.args_str_join_2 _ _) ?_))
 rw[join_tree_other]
 refine wpAny_bind (wpAny_typeOf hit.typeIs ?_)
 show wpAny _ A.in1 ((pyIter (.ref I)).tryCatch _ >>= λit=>collect it >>= λitems=>joinTail sep items) _ _ s
 refine wpAny_bind (wpAny_tryCatch (Ji hit ?_))
 refine wpAny_bind (Abw (by exact hh) (by omega) hit λh' tk' acc hm ho' hacc=>?_)
 obtain⟨l,hl'⟩:=exists_strValues acc.toList λv hv=>by
  obtain⟨j,hj,rfl⟩:=Array.mem_iff_getElem.mp (Array.mem_toList_iff.mp hv)
  obtain⟨c,u,_,e⟩:=hacc.2 j _ (Array.getElem?_eq_getElem hj)
  exact⟨_,u,e⟩
 rw[<- hl']
 have key:l.map (·.1)=x.cps.toList.reverse.map λc=>(⟨#[c]⟩:Str):=by
  have hlen:l.length=x.cps.size:=by
   have:=congrArg List.length hl'
   simp only [strValues,Apq,Array.length_toList,hacc.1] at this
   exact this
  apply Aqr
  intro j
  rw[Ap9,Ap9]
  by_cases hj:j<x.cps.size
  ·have hj':j<acc.size:=by rw[hacc.1];exact hj
   obtain⟨c,u,e1,e2⟩:=hacc.2 j _ (Array.getElem?_eq_getElem hj')
   have g:(strValues l)[j]?=some (.str ⟨#[c]⟩ u):=by
    rw[hl',<- e2]
    simp[hj']
   have g2:l[j]?=some (⟨#[c]⟩,u):=by
    unfold strValues at g
    rw[Ap9] at g
    cases hlj:l[j]? with
    | none=>rw[hlj] at g;cases g
    | some p =>
     rw[hlj] at g
     obtain⟨p1,p2⟩:=p
     have g':Value.str p1 p2=Value.str ⟨#[c]⟩ u:=Option.some.inj g
     injection g' with a b
     rw[a,b]
   rw[g2,Aq6 (by simpa using hj)]
   simp only [Array.length_toList,Array.getElem?_toList,e1]
   rfl
  ·rw[ApY (by omega),ApY (by simp;omega)]
   rfl
 have hok:JoinOk sep (l.map (·.1))=true:=by
  rw[key]
  unfold JoinOk
  rw[StrLaws.joinTotal]
  have e1:((x.cps.toList.reverse.map λc=>(⟨#[c]⟩:Str)).map (·.length)).sum=x.cps.size:=by
   have:∀(l:List Nat),((l.map λc=>(⟨#[c]⟩:Str)).map (·.length)).sum=l.length:=by
    intro l
    induction l with
    | nil=>rfl
    | cons a r ih=>simp only [Apw,Aql,Apt,ih];show 1+_=_;omega
   rw[this]
   simp
  rw[e1]
  simp only [Apq,ApV,Array.length_toList]
  have hx:x.cps.size<=1000:=hb
  have hm:x.cps.size*sep.length<=1000*16:=Aqs hx hs
  unfold tooLong
  rw[decide_eq_false (by omega)]
  rfl
 have Aje:=hok
 unfold JoinOk at Aje
 rw[Bool.not_eq_true'] at Aje
 have g:Gives (joinTail sep (strValues l)) (joinMade sep l):=by
  have g0:=gives_joinTail sep l Aje
  cases l with
  | nil=>exact g0
  | cons p r=>cases r with
   | nil=>exact g0
   | cons q r'=>exact g0
 refine g prog w A (wants Q E) _ (post_join l ⟨joinFit_length Aje,λt' k=>?_⟩)
 rw[key]
 exact h h' t' k hm ho'
end
end PySem
namespace L2
open PySem PySem.Spec PyProof.Rows
def AkY (p:Addr)(x:Str):HO:=.ext λh=>∃ t,h.Dp p x t ((x.length:Int)-1)
def Am1 (p:Addr):HO:=.ext λh=>∃ o,h.get? p=some o
section
variable {X:Cx}
theorem Wm:JC X (.type "reversed") (λxs H Q=>∃ z,xs=[.str z]/\z.length<=sizeLine/\∀ p,H p=none->Q (.ref p) (upd H p (AkY p z))):=by
 intro pins s σ H xs us Q I rv h
 obtain⟨z,rfl,hz,q⟩:=h
 obtain⟨u,rfl,ru⟩:=rv.one
 obtain⟨t,rfl⟩:=ru
 have hl:sizeLine=16777216:=sizeLine_eq
 refine Hv (by omega) ?_
 have hg:(s.heap.push (Yj z t ((z.length:Int)-1))).get? s.heap.objs.size=some (Yj z t ((z.length:Int)-1)):=Heap.get?_push_size _ rfl
 refine⟨.ref s.heap.objs.size,_,I.laid (o:=AkY s.heap.objs.size z) (λb o e=>Heap.get?_push_of_some _ e) (Apv _) ?_,rfl,q _ (I.hok.fresh (Apv _))⟩
 exact⟨⟨t,_,hg,rfl,rfl⟩,⟨_,hg⟩,λh1 h2 y k=>by
  obtain⟨t',y⟩:=y
  exact⟨t',y.at k⟩⟩
theorem Yl(hc:X.calm=true:=by rfl):MtR X "str.join" (λx vs H Q=>∃ z y p,x=.str z/\vs=[.ref p]/\H p=some (AkY p y)/\z.length<=16/\y.length<=1000 /\
  Q (.str (Txt.join z (y.cps.toList.reverse.map λc=>⟨#[c]⟩))) (upd H p (Am1 p))):=by
 intro pins s σ H x vs v us Q I rx rv h
 obtain⟨z,y,p,rfl,rfl,hp,hz,hy,q⟩:=h
 obtain⟨t,rfl⟩:=rx
 obtain⟨u,rfl,ru⟩:=rv.one
 cases ru
 obtain⟨⟨t',hit⟩,⟨o,ho⟩,_⟩:=I.hok p _ hp
 refine AfI (I.ok.hd hc) hy hz hit λh' t2 k kp hp'=>?_
 refine⟨.str _,_,I.write (t':=k) (x:=p) (e:=p) (o:=Am1 p) (by rw[hp];exact trivial) (.inl rfl) (λb u hb e=>kp b u hb e) hp' ?_,⟨_,rfl⟩,q⟩
 exact⟨hp',hp',λh1 h2 y k=>by
  obtain⟨o,y⟩:=y
  exact⟨o,k o y⟩⟩
end
theorem Dc{c A B:Prop}[Decidable c](h:¬c)(k:B):if decide c=true then A else B:=by rw[decide_eq_false h];exact Hu k
theorem Ec{c A B:Prop}[Decidable c](h:c)(k:A):if decide c=true then A else B:=by rw[decide_eq_true h];exact Gq k
theorem AcF{c A B:Prop}[Decidable c](h:¬c)(k:A):if (!decide c)=true then A else B:=by rw[decide_eq_false h];exact Gq k
theorem AnR{b:Bool}{A B:Prop}(h1:b=true->A)(h2:b=false->B):if b=true then A else B:=by
 cases b with
 | true=>exact Gq (h1 rfl)
 | false=>exact Hu (h2 rfl)
theorem Dk{c A B:Prop}[Decidable c](h1:c->A)(h2:¬c->B):if decide c=true then A else B:=by
 by_cases h:c
 ·exact Ec h (h1 h)
 ·exact Dc h (h2 h)
theorem Be.upd{H:Hp}{p:Addr}{o:HO}(h:H p=none):Be H (L2.upd H p o):=λb o' e=>by rw[Ao (Ay e h)];exact e
theorem Be.new{H H1:Hp}{p:Addr}{o:HO}(e:Be H H1)(h:H1 p=none):Be H (L2.upd H1 p o):=e.trans (.upd h)
theorem nu9{G B:Hp}{o:HO}{a:Addr}(s:Be G B)(n:B a=none):∃ N,upd B a o=N/\Be G N/\N a=some o:=⟨_,rfl,s.new n,Ae⟩
theorem Be.over{H H1:Hp}{p:Addr}{o:HO}(e:Be H H1)(h:H p=none):Be H (L2.upd H1 p o):=λb o' q=>by rw[Ao (Ay q h)];exact e b o' q
theorem Bs:bootBuiltins "len" = some (.builtin "len"):=by decide +kernel
theorem Ln:bootBuiltins "isinstance" = some (.builtin "isinstance"):=by decide +kernel
theorem AkZ:bootBuiltins "max" = some (.builtin "max"):=by decide +kernel
theorem AgX:bootBuiltins "any" = some (.builtin "any"):=by decide +kernel
theorem Ala:bootBuiltins "all" = some (.builtin "all"):=by decide +kernel
theorem Tq:bootBuiltins "list" = some (.type "list"):=by decide +kernel
theorem Jr:bootBuiltins "str" = some (.type "str"):=by decide +kernel
theorem V0:bootBuiltins "int" = some (.type "int"):=by decide +kernel
theorem AgY:bootBuiltins "tuple" = some (.type "tuple"):=by decide +kernel
theorem Jj:bootBuiltins "reversed" = some (.type "reversed"):=by decide +kernel
theorem Abx:bootBuiltins "enumerate" = some (.type "enumerate"):=by decide +kernel
theorem AgZ:bootBuiltins "zip" = some (.type "zip"):=by decide +kernel
structure Df (K:W.Frag) (mg:Str->Option Value) (x:Str) (st:Stmt) (ps:List Str) (f:Addr) (fd:FuncData):Prop where
 F:Fun K x x st f fd
 m:mg x=some (.ref f)
 b:Binds K fd ps []
def vS (cl:List (List Nat)):List V:=cl.map λt=>V.str (tx t)
def vI (ns:List Int):List V:=ns.map V.int
theorem Ba(cl:List (List Nat)):(vS cl).length=cl.length:=by unfold vS;rw[Apq]
theorem Gd(ns:List Int):(vI ns).length=ns.length:=by unfold vI;rw[Apq]
theorem Aby{cl:List (List Nat)}{i:Nat}{t:List Nat}(h:cl[i]?=some t):(vS cl)[i]?=some (.str (tx t)):=by unfold vS;rw[Ap9,h];rfl
theorem Ym{ns:List Int}{i:Nat}{n:Int}(h:ns[i]?=some n):(vI ns)[i]?=some (.int n):=by unfold vI;rw[Ap9,h];rfl
theorem GP{cl:List (List Nat)}{i:Nat}{v:V}(h:(vS cl)[i]?=some v):∃ t,cl[i]?=some t/\v=.str (tx t):=by
 unfold vS at h
 rw[Ap9] at h
 cases e:cl[i]? with
 | none=>rw[e] at h;cases h
 | some t=>rw[e] at h;exact⟨t,rfl,(Option.some.inj h).symm⟩
theorem Alb{ns:List Int}{i:Nat}{v:V}(h:(vI ns)[i]?=some v):∃ t,ns[i]?=some t/\v=.int t:=by
 unfold vI at h
 rw[Ap9] at h
 cases e:ns[i]? with
 | none=>rw[e] at h;cases h
 | some t=>rw[e] at h;exact⟨t,rfl,(Option.some.inj h).symm⟩
theorem Abz(cl:List (List Nat)):(vS cl).all Jh=true:=by unfold vS;rw[List.all_map];exact List.all_eq_true.mpr λ_ _=>rfl
theorem GQ(cl:List (List Nat)):vS cl=(cl.map tx).map V.str:=by unfold vS;rw[Aqa];rfl
theorem Aha(ns:List Int)(n:Int):vI ns++[.int n]=vI (ns++[n]):=by unfold vI;rw[Apx];rfl
theorem CP(cl:List (List Nat))(t:List Nat):vS cl++[.str (tx t)]=vS (cl++[t]):=by unfold vS;rw[Apx];rfl
theorem Cj{α:Type}{xs:List α}{i:Int}{v:α}(h0:0<=i)(h:xs[i.toNat]?=some v):atI xs i=some v:=by
 have e:i=(i.toNat:Int):=by omega
 rw[e]
 exact AeF h
section
variable {X:Cx}{K:W.Frag}{tg:Expr}
theorem Ax(hK:X.K=K:=by rfl):IxR X (AkS K):=by subst hK;exact AiX
theorem Dd(hK:X.K=K:=by rfl):IxR X (AkT K):=by subst hK;exact AkU
theorem AdT(hK:X.K=K:=by rfl):OpR X (compareOp .In) (rIn K false):=by subst hK;exact Af9
theorem ZJ(hK:X.K=K:=by rfl):OpR X (compareOp .NotIn) (rIn K true):=by subst hK;exact Abq
theorem Ajf(hu:X.A.units<cLine)(hK:X.K=K:=by rfl):OpR X (compareOp .Eq) (Am0 K):=by subst hK;exact AkX hu
theorem Bb(hK:X.K=K:=by rfl):JC X (.builtin "len") (λxs H Q=>∃ p ys,xs=[.ref p]/\(SqL K H p ys\/SqT K H p ys)/\Q (.int ys.length) H):=by subst hK;exact Abr
theorem Rv(hK:X.K=K:=by rfl):JC X (.type "list") (λxs H Q=>∃ p ys,xs=[.ref p]/\(SqL K H p ys\/SqT K H p ys)/\∀ l,H l=none->Q (.ref l) (upd H l (.lst ys))):=by subst hK;exact Abs
theorem V1(hK:X.K=K:=by rfl):JC X (.builtin "isinstance") (Amz K):=by subst hK;exact AgW
theorem Ed(hK:X.K=K:=by rfl):MtR X "str.join" (rJoin K):=by subst hK;exact Ajc
theorem Qh(hK:X.K=K:=by rfl):SlR X (Amr K):=by subst hK;exact AiY
theorem CV{l:Expr}{tl:TE}(hl:PE X l tl)(hK:X.K=K:=by rfl):PI X tg l (Akm K tl):=by subst hK;exact AiQ hl
theorem AaF{a:Expr}{ta:TE}(ha:PE X a ta)(he:∀ whole,isTrue a X.env whole=(do let v <- whole;standAt a.pos;holding [v] (truthy v)))(hK:X.K=K:=by rfl) :
  PT X a (λσ H Q=>ta σ H λx H'=>∃ k,AkJ K x H' k/\Q k H'):=by subst hK;exact AgK ha he
variable {o e:Expr}{es:List Expr}{to:TE}{t:TA}{name:Str}{apos cpos:Pos}{T id:String}{r:V->List V->Hp->VK->Prop}
theorem AeI(pa:PlainAttrs T)(slot:Slot T name id)(hty:typeOf (.builtin id)=pure (.type "method_descriptor")) (hm:MtR X id r) (ho:PE X o to)
  (hbase:attributeBase o name X.env (eval o X.env)=eval o X.env:=by rfl) (hline:(apos.endLine == cpos.line)=true:=by rfl) (hK:X.K=K:=by rfl):PE X (.Call (.Attribute o name apos) [] [] cpos) (Ams K T r to):=by
 subst hK
 exact AkV pa slot hty hm ho hbase hline
theorem Dj(pa:PlainAttrs T)(slot:Slot T name id)(hty:typeOf (.builtin id)=pure (.type "method_descriptor")) (hm:MtR X id r) (ho:PE X o to) (ha:PA X (e::es) t)
  (hbase:attributeBase o name X.env (eval o X.env)=eval o X.env:=by rfl)
  (hfew:((backTo cpos (starEach (e::es) X.env)).all (λx=>!x.1) && (backToKw cpos (keywordEach [] X.env)).all (λx=>x.1.isSome)
   && decide ((e::es).length+([]:List Keyword).length+(if ([]:List Keyword).isEmpty then 0 else 1)<30))=true:=by rfl)
  (hline:(apos.endLine == cpos.line)=true:=by rfl) (hs:starEach (e::es) X.env=(false,eval e X.env)::starEach es X.env:=by rfl) (hplain:(backTo cpos (starEach es X.env)).any (·.1)=false:=by rfl) (hK:X.K=K:=by rfl) :
  PE X (.Call (.Attribute o name apos) (e::es) [] cpos) (tBM K T r to t):=by
 subst hK
 exact Amt pa slot hty hm ho ha hbase hfew hline hs hplain
end
abbrev exO (C t:Addr) (tb:Value):Obj:={ cls:=.ref C,data:=.fields #[.ref t,tb,.none,.none,.bool false,.none] }
structure Fx (B:Heap) (l:List Env) (e C t:Addr) (fl:Value) (h:Heap):Prop where
 st:B.StaysIn h
 ne:B.get? e=none
 fr:h.FunFrames B l
 ob:∃(T:Addr) (oT:Obj) (ts:Array Value),h.get? e=some (exO C t (.ref T))/\B.get? T=none/\T≠e/\h.get? T=some oT/\oT.data=.fields ts/\ts[3]?=some fl
theorem Fx.outer{B:Heap}{env:Env}{l:List Env}{e C t:Addr}{fl:Value}{h:Heap}(x:Fx B (env::l) e C t fl h):Fx B l e C t fl h:=⟨x.st,x.ne,x.fr.2.2,x.ob⟩
section
variable {M:Model}{A:Around}{E:Value->Shared->Prop}{s:Shared}{B:Heap}{env:Env}{l:List Env}{e C t L:Addr}
theorem Ab0{fl:Value}{Q:Unit->Shared->Prop}(x:Fx B l e C t fl s.heap)(k:∀ h',Fx B l e C t .none h'->s.heap.UpToSlots h'->Q () { s with heap:=h' }):wpAny M A (setFlight (.ref e) none) Q E s:=by
 obtain⟨st,ne,fr,T,oT,ts,hE,hBT,hTe,hT,hdT,h3⟩:=x
 have h3s:3<ts.size:=(Array.getElem?_eq_some_iff.mp h3).1
 unfold setFlight
 refine wpAny_bind (wpAny_field hE rfl (x:=.ref T) rfl ?_)
 rw[if_pos (show(Value.ref T != Value.none)=true by simp)]
 refine wpAny_setField hT hdT h3s (k _ ?_ ?_)
 all_goals
  have oth:∀ b,b≠T->(s.heap.update T (Obj.mapFields (·.setIfInBounds 3 ((none:Option Addr).elim Value.none λf=>rawInt f)))).get? b=s.heap.get? b:=λb hb=>Heap.get?_update_other _ _ (Ne.symm hb)
  have Yn:∀ b o,s.heap.get? b=some o->(∀ vs,o.data≠.fields vs)->b≠T:=λb o hb hn q=>by
   rw[q,hT] at hb
   cases hb
   exact hn ts hdT
 ·refine⟨λb o hb=>(oth b λq=>by rw[q,hBT] at hb;cases hb).trans (st b o hb),ne,fr.of_keeps λb o hb hn=>⟨o,(oth b (Yn b o hb hn)).trans hb,rfl⟩,T,_,_,(oth e (Ne.symm hTe)).trans hE,hBT,hTe,
   Heap.get?_update_self _ hT (Obj.isFreed_of_fields (Obj.data_mapFields hdT _)),Obj.data_mapFields hdT _,?_⟩
  simp[h3s]
 ·exact λb o hb hn=>⟨o.slots,(oth b (Yn b o hb hn)).trans hb⟩
theorem AcG{tb:Value}{had:Bool}{Q:Unit->Shared->Prop}(hfr:A.frames=some (env::l))(hf:env.frame=some L)(st:B.StaysIn s.heap)(ne:B.get? e=none)(fr:s.heap.FunFrames B (env::l))
  (hE:s.heap.get? e=some (exO C t tb)) (k:∀ h',Fx B (env::l) e C t (rawInt L) h'->s.heap.UpToSlots h'->Q () { s with heap:=h' }) :
  wpAny M A (do let a <- frameOf env;let pl <- entryPlaceOf L had;let b <- EntryCells.newEntry tb a .none (rawInt L) .none pl;setField (.ref e) 1 b) Q E s:=by
 have eF:e∉(env::l).filterMap (·.frame):=λhm=>by
  obtain⟨_,o,ho,hn⟩:=fr.mem hm
  rw[hE] at ho
  cases ho
  exact hn _ rfl
 refine wpAny_bind (wpAny_frameOf_fun hfr fr hf λh1 so=>wpAny_bind (wpAny_entryPlaceOf λpl hpl=>?_))
 unfold EntryCells.newEntry newFields
 refine wpAny_bind (wpAny_newObj_type ?_ (hpl.sizeOk5 _ _ _ _ _))
 have E1:h1.get? e=some (exO C t tb):=(so.2.1 e eF).trans hE
 have st1:B.StaysIn h1:=λb o hb=>(so.2.1 b λhm=>by rw[(fr.mem hm).1] at hb;cases hb).trans (st b o hb)
 have TE:h1.objs.size≠e:=Aqd (Heap.lt_size E1)
 generalize hN:({ cls:=.type "traceback", dict:=none,data:=.fields ([tb,.ref L,.none,rawInt L,.none]++(if pl.isEmpty then List.replicate 6 Value.none else pl)).toArray }:Obj)=nT
 have E2:(h1.push nT).get? e=some (exO C t tb):=Heap.get?_push_of_some nT E1
 refine wpAny_setField (s:={ s with heap:=h1.push nT }) E2 rfl (by show 1<6;decide) (k _ ?_ ?_)
 all_goals
  have kp:∀ b o,b≠e->h1.get? b=some o->((h1.push nT).update e (Obj.mapFields (·.setIfInBounds 1 (Value.ref h1.objs.size)))).get? b=some o:=λb o hb q =>
   (Heap.get?_update_other _ _ (Ne.symm hb)).trans (Heap.get?_push_of_some nT q)
  have Yn:∀ b o,s.heap.get? b=some o->(∀ vs,o.data≠.fields vs)->b≠e:=λb o hb hn q=>by
   rw[q,hE] at hb
   cases hb
   exact hn _ rfl
 ·have freed:nT.isFreed=false:=by rw[<- hN];rfl
  refine⟨λb o hb=>kp b o (λq=>by rw[q,ne] at hb;cases hb) (st1 b o hb),ne,fr.of_keeps λb o hb hn=>?_,h1.objs.size,nT,_,Heap.get?_update_self _ E2 rfl,st1.fresh,TE,
   (Heap.get?_update_other _ _ (Ne.symm TE)).trans (Heap.get?_push_size h1 freed),by rw[<- hN],by simp⟩
  obtain⟨sl,q⟩:=so.2.2 b o hb
  exact⟨_,kp b _ (Yn b o hb hn) q,rfl⟩
 ·intro b o hb hn
  obtain⟨sl,q⟩:=so.2.2 b o hb
  exact⟨sl,kp b _ (Yn b o hb hn) q⟩
theorem Ahb{Q:Unit->Shared->Prop}(hfr:A.frames=some (env::l))(hf:env.frame=some L)(st:B.StaysIn s.heap)(ne:B.get? e=none)(fr:s.heap.FunFrames B (env::l))
  (hE:s.heap.get? e=some (exO C t .none)) (k:∀ h',Fx B (env::l) e C t (rawInt L) h'->s.heap.UpToSlots h'->Q () { s with heap:=h' }):wpAny M A (noteFrame (.ref e) env) Q E s:=by
 unfold noteFrame
 simp only [hf]
 refine wpAny_bind (wpAny_field hE rfl (x:=.none) rfl ?_)
 rw[if_neg (by decide)]
 exact AcG hfr hf st ne fr hE k
theorem Ajg{Q:Unit->Shared->Prop}(hfr:A.frames=some (env::l))(hf:env.frame=some L)(x:Fx B (env::l) e C t .none s.heap)
  (k:∀ h',Fx B (env::l) e C t (rawInt L) h'->s.heap.UpToSlots h'->Q () { s with heap:=h' }):wpAny M A (noteFrame (.ref e) env) Q E s:=by
 obtain⟨st,ne,fr,T,oT,ts,hE,hBT,hTe,hT,hdT,h3⟩:=x
 unfold noteFrame
 simp only [hf]
 refine wpAny_bind (wpAny_field hE rfl (x:=.ref T) rfl ?_)
 rw[if_pos (show(Value.ref T != Value.none)=true by simp)]
 refine wpAny_bind (wpAny_field hT hdT h3 ?_)
 rw[if_neg (show ¬((Value.none == rawInt L)=true) by simp[rawInt])]
 refine wpAny_bind (wpAny_setField hT hdT (Array.getElem?_eq_some_iff.mp h3).1 ?_)
 have oth:∀ b,b≠T->(s.heap.update T (Obj.mapFields (·.setIfInBounds 3 Value.none))).get? b=s.heap.get? b:=λb hb=>Heap.get?_update_other _ _ (Ne.symm hb)
 have Yn:∀ b o,s.heap.get? b=some o->(∀ vs,o.data≠.fields vs)->b≠T:=λb o hb hn q=>by
  rw[q,hT] at hb
  cases hb
  exact hn ts hdT
 exact AcG (s:={ s with heap:=s.heap.update T (Obj.mapFields (·.setIfInBounds 3 Value.none)) }) hfr hf (λb o hb=>(oth b λq=>by rw[q,hBT] at hb;cases hb).trans (st b o hb)) ne
  (fr.of_keeps λb o hb hn=>⟨o,(oth b (Yn b o hb hn)).trans hb,rfl⟩) ((oth e (Ne.symm hTe)).trans hE)
  λh' y u=>k h' y λb o hb hn=>u b o ((oth b (Yn b o hb hn)).trans hb) hn
theorem AaG{fl:Value}{f:Option Addr}{Q:Unit->Shared->Prop}(x:Fx B l e C t fl s.heap)(k:∀ h',Fx B l e C t (f.elim Value.none λf=>rawInt f) h'->s.heap.UpToSlots h'->Q () { s with heap:=h' }):wpAny M A (setFlight (.ref e) f) Q E s:=by
 obtain⟨st,ne,fr,T,oT,ts,hE,hBT,hTe,hT,hdT,h3⟩:=x
 have h3s:3<ts.size:=(Array.getElem?_eq_some_iff.mp h3).1
 unfold setFlight
 refine wpAny_bind (wpAny_field hE rfl (x:=.ref T) rfl ?_)
 rw[if_pos (show(Value.ref T != Value.none)=true by simp)]
 refine wpAny_setField hT hdT h3s (k _ ?_ ?_)
 all_goals
  have oth:∀ b,b≠T->(s.heap.update T (Obj.mapFields (·.setIfInBounds 3 (f.elim Value.none λf=>rawInt f)))).get? b=s.heap.get? b:=λb hb=>Heap.get?_update_other _ _ (Ne.symm hb)
  have Yn:∀ b o,s.heap.get? b=some o->(∀ vs,o.data≠.fields vs)->b≠T:=λb o hb hn q=>by
   rw[q,hT] at hb
   cases hb
   exact hn ts hdT
 ·refine⟨λb o hb=>(oth b λq=>by rw[q,hBT] at hb;cases hb).trans (st b o hb),ne,fr.of_keeps λb o hb hn=>⟨o,(oth b (Yn b o hb hn)).trans hb,rfl⟩,T,_,_,(oth e (Ne.symm hTe)).trans hE,hBT,hTe,
   Heap.get?_update_self _ hT (Obj.isFreed_of_fields (Obj.data_mapFields hdT _)),Obj.data_mapFields hdT _,?_⟩
  simp[h3s]
 ·exact λb o hb hn=>⟨o.slots,(oth b (Yn b o hb hn)).trans hb⟩
theorem Ahc{Q:Unit->Shared->Prop}(hf:env.frame=some L)(x:Fx B l e C t (rawInt L) s.heap)(k:Q () s):wpAny M A (noteFrame (.ref e) env) Q E s:=by
 obtain⟨st,ne,fr,T,oT,ts,hE,hBT,hTe,hT,hdT,h3⟩:=x
 unfold noteFrame
 simp only [hf]
 refine wpAny_bind (wpAny_field hE rfl (x:=.ref T) rfl ?_)
 rw[if_pos (show(Value.ref T != Value.none)=true by simp)]
 refine wpAny_bind (wpAny_field hT hdT h3 ?_)
 rw[if_pos (show((rawInt L == rawInt L)=true) by simp)]
 exact wpAny_pure k
end
structure Bk (P:Program) (w:World) (outer:List Env) (H:Hp) (h:Heap) (H':Hp) (B h':Heap):Prop where
 ok:HOk P w H' B
 keep:∀ b o,h.get? b=some o->H b=none->b∉frs outer->B.get? b=some o
 slot:∀ b o,h.get? b=some o->b∈frs outer->∃ sl,h'.get? b=some { o with slots:=sl }
 free:∀ b o,h.get? b=some o->H b=none->H' b=none
 there:∀ b o,h.get? b=some o->b∉frs outer->∃ o',B.get? b=some o'
 tups:∀ b xs,H b=some (.tup xs)->H' b=some (.tup xs)
 JG:∀ b o u,H b=some (.frz o u)->H' b=some (.frz o u)
 Kv:∀ b ps,H b=some (.tbl ps)->∃ more,H' b=some (.tbl (ps++more))
theorem Bk.slots{P:Program}{w:World}{outer:List Env}{H H':Hp}{h B h1 h2:Heap}(k:Bk P w outer H h H' B h1)(fr:h1.FunFrames B outer)(u:h1.UpToSlots h2):Bk P w outer H h H' B h2 :=
 ⟨k.ok,k.keep,λb o q hb=>by
  obtain⟨sl,e⟩:=k.slot b o q hb
  obtain⟨_,o2,e2,n2⟩:=fr.mem hb
  rw[e] at e2
  cases e2
  obtain⟨sl2,e3⟩:=u b _ e n2
  exact⟨sl2,e3⟩,k.free,k.there,k.tups,k.JG,k.Kv⟩
def CX1 (P:Program)(w:World):CXT:=λouter H s E e s'=>∃ ea C t H' B,e=.ref ea/\Fx B outer ea C t .none s'.heap/\s'.os=s.os/\AllBare s'.gens/\Bk P w outer H s.heap H' B s'.heap/\E (.ref C) none H'
inductive Fly (B:Heap) (l:List Env) (L ea C t:Addr) (h:Heap):Prop where
 | new (st:B.StaysIn h) (ne:B.get? ea=none) (fr:h.FunFrames B l) (ob:h.get? ea=some (exO C t .none))
 | came (x:Fx B l ea C t .none h)
 | seen (x:Fx B l ea C t (rawInt L) h)
theorem Fly.fr{B:Heap}{l:List Env}{L ea C t:Addr}{h:Heap}(x:Fly B l L ea C t h):h.FunFrames B l:=by
 cases x with
 | new st ne fr ob=>exact fr
 | came x=>exact x.fr
 | seen x=>exact x.fr
def FlX (X:Cx)(E:XK):Value->Shared->Prop:=λe s'=>∃ ea C t H' B,e=.ref ea/\Fly B X.stack X.env.locals ea C t s'.heap/\s'.os=X.s₀.os/\AllBare s'.gens/\Bk X.prog X.w X.outer X.H₀ X.s₀.heap H' B s'.heap/\E (.ref C) none H'
structure Body (X:Cx):Prop where
 stack:X.stack=X.env::X.outer
 frame:X.env.frame=some X.env.locals
 ex:X.ex=[]
section
variable {X:Cx}{pins:List (Addr × Obj)}{σ:St}{H:Hp}{s s':Shared}{E:XK}{e:Value}
theorem Inv.AfJ(I:Inv X pins σ H s){b:Addr}{o:Obj}(q:X.s₀.heap.get? b=some o)(hb:b∉X.fs):b∉frs X.stack:=λhm=>by
 rcases List.mem_cons.mp (I.Vt b hm) with z | z
 ·rw[z] at q
  exact absurd (Ap0 (Heap.lt_size q) I.ok.above) (ApC _)
 ·exact hb z
theorem Am2(hB:Body X)(I:Inv X pins σ H s)(c:CX1 X.prog X.w X.stack H s E e s'):FlX X E e s':=by
 obtain⟨ea,C,t,H',B,rfl,fx,os,bare,bk,q⟩:=c
 have nx:∀ b:Addr,b∉X.ex:=λb z=>by rw[hB.ex] at z;exact nomatch z
 have fsS:∀ b,b∈X.fs->b∈frs X.stack:=λb hb=>by
  rw[hB.stack];unfold frs;rw[Aqj,hB.frame];exact Ap7 _ hb
 refine⟨ea,C,t,H',B,rfl,.came fx,os.trans I.os,bare,⟨bk.ok,λb o e n hb=>?_,λb o e hb=>?_,λb o e n=>?_,λb o e hb=>?_,λb xs e=>bk.tups b xs (I.base.tups b xs e),λb o u e=>bk.JG b o u (I.base.JG b o u e),λb ps e=>?_⟩,q⟩
 ·exact bk.keep b o (I.base.keep b o e n hb (nx b)) (I.base.free b o e n (nx b)) (I.AfJ e hb)
 ·obtain⟨sl,e1⟩:=I.base.slot b o e (I.ok.frf b hb) hb (nx b)
  obtain⟨sl2,e2⟩:=bk.slot b _ e1 (fsS b hb)
  exact⟨sl2,e2⟩
 ·obtain⟨o',e1⟩:=I.base.there b o e (nx b)
  exact bk.free b o' e1 (I.base.free b o e n (nx b))
 ·obtain⟨o',e1⟩:=I.base.there b o e (nx b)
  exact bk.there b o' e1 (I.AfJ e hb)
 ·obtain⟨m1,e1⟩:=I.base.Kv b ps e
  obtain⟨m2,e2⟩:=bk.Kv b _ e1
  exact⟨m1++m2,by rw[e2,Array.append_assoc]⟩
theorem Am3{h':Heap}{ea C:Addr}{vs:List Value}(hB:Body X)(I:Inv X pins σ H s)(hx:Heap.MadeExcOf s.heap h' ea (.ref C) vs)(q:E (.ref C) none H):FlX X E (.ref ea) { s with heap:=h' }:=by
 obtain⟨t,ht,_,_⟩:=hx.there
 have nx:∀ b:Addr,b∉X.ex:=λb z=>by rw[hB.ex] at z;exact nomatch z
 have nfr:∀ b u,H b=some u->b∉frs X.stack:=λb u e hm=>by rw[I.QR b hm] at e;cases e
 refine⟨ea,C,t,H,W.hideAll s.heap (frs X.stack),rfl,.new (λb o e=>hx.keeps b o (W.of_hideAll _ e)) ?_ ?_ ht,I.os,I.bare,⟨λb u e=>?_,λb o e n hb=>?_,λb o e hb=>?_,λb o e n=>I.base.free b o e n (nx b),λb o e hb=>?_,I.base.tups,I.base.JG,I.base.Kv⟩,q⟩
 ·cases z:(W.hideAll s.heap (frs X.stack)).get? ea with
  | none=>rfl
  | some o =>
   have:=W.of_hideAll _ z
   rw[hx.new] at this
   cases this
 ·exact(W.funFrames_hide I.stack λenv he a ha=>List.mem_filterMap.mpr ⟨env,he,ha⟩).of_keeps λb o hb _=>⟨o,hx.keeps b o hb,rfl⟩
 ·refine(I.hok b u e).stay (λc v hc z=>W.hideAll_get _ z ?_) (λ_ z=>z) λ_ _ z=>z
  rcases hc with z | z
  ·rw[z];exact nfr b u e
  ·exact nfr c _ z
 ·exact W.hideAll_get _ (I.base.keep b o e n hb (nx b)) (I.AfJ e hb)
 ·obtain⟨sl,e1⟩:=I.base.slot b o e (I.ok.frf b hb) hb (nx b)
  exact⟨sl,hx.keeps _ _ e1⟩
 ·obtain⟨o',e1⟩:=I.base.there b o e (nx b)
  exact⟨o',W.hideAll_get _ e1 (I.AfJ e hb)⟩
theorem AeJ{M:Model}{Q:Unit->Shared->Prop}{E':Value->Shared->Prop}{B:Heap}{ea C t:Addr}(hB:Body X)(hfr:X.A.frames=some X.stack)(x:Fly B X.stack X.env.locals ea C t s.heap)
  (k:∀ h',Fx B X.stack ea C t (rawInt X.env.locals) h'->s.heap.UpToSlots h'->Q () { s with heap:=h' }):wpAny M X.A (noteFrame (.ref ea) X.env) Q E' s:=by
 rw[hB.stack] at x hfr k
 cases x with
 | new st ne fr ob=>exact Ahb hfr hB.frame st ne fr ob k
 | came x=>exact Ajg hfr hB.frame x k
 | seen x=>exact Ahc hB.frame x (k s.heap x (.refl _))
theorem Xw(hB:Body X){B h:Heap}(x:h.FunFrames B X.stack):h.FunFrames B X.outer:=by
 rw[hB.stack] at x
 exact x.2.2
theorem leaveX{M:Model}{E':Value->Shared->Prop}(hB:Body X)(hfr:X.A.frames=some X.stack)(c:FlX X E e s):wpAny M X.A (leaving X.env e) (λ_ s''=>CX1 X.prog X.w X.outer X.H₀ X.s₀ E e s'') E' s:=by
 obtain⟨ea,C,t,H',B,rfl,fx,os,bare,bk,q⟩:=c
 unfold leaving
 refine wpAny_bind (AeJ hB hfr fx λh1 x1 u1=>Ab0 (s:={ s with heap:=h1 }) x1 λh2 x2 u2=>?_)
 have x3:=x2
 rw[hB.stack] at x3
 exact⟨ea,C,t,H',B,rfl,x3.outer,os,bare,bk.slots (Xw hB fx.fr) (u1.trans u2),q⟩
theorem Am4(hB:Body X)(hfr:X.A.frames=some X.stack):PassesOwn (model X.prog X.w) X.A X.env (FlX X E):=by
 rintro e s ⟨ea,C,t,H',B,rfl,fx,os,bare,bk,q⟩
 unfold notedBy
 refine AeJ hB hfr fx λh1 x1 u1=>?_
 obtain⟨T,oT,ts,hE,_⟩:=x1.ob
 unfold cameBackBy
 refine wpAny_bind (wpAny_field (s:={ s with heap:=h1 }) hE rfl (x:=.ref T) rfl ?_)
 rw[if_neg (by simp)]
 refine AaG (s:={ s with heap:=h1 }) (f:=X.env.frame) x1 λh2 x2 u2=>?_
 rw[hB.frame] at x2
 exact⟨ea,C,t,H',B,rfl,.seen x2,os,bare,bk.slots (Xw hB fx.fr) (u1.trans u2),q⟩
end
def Ab1 (K:W.Frag)(C:Addr):List Value:=match K.lookup C with
 | some ⟨_,_,.cls cd,_⟩=>cd.mro
 | _=>[]
theorem Ab2{K:W.Frag}{h:Heap}{C:Addr}{bmB:List Value}{nid:String}(X:K.In h)(q:W.excIn K C bmB nid=true) :
  ∃ bm N nm qn bs hdct sn sub ab col dd k0 k1 k2 k3 k5 mN,Ab1 K C=.ref C::bm/\h.get? C=some (excClassObj nm qn C N bs bm hdct sn sub ab col dd k0 k1 k2 k3 k5 nid)/\h.Ns N mN/\mN "__init__" = none/\OwnTail h bmB bm:=by
 unfold W.excIn at q
 split at q
 next dd cd sl ho =>
  split at q
  next C' bm k0 k1 k2 k3 n k5 hm hs =>
   have hM:Ab1 K C=cd.mro:=by unfold Ab1;rw[ho]
   simp only [ApU,beq_iff_eq,Bool.not_eq_true'] at q
   obtain⟨⟨⟨⟨⟨q1,q2⟩,hdel⟩,ht⟩,hok⟩,hni⟩:=q
   subst q1 q2
   have hsl:sl=#[k0,k1,k2,k3,some (.builtin n),k5]:=by rw[<- hs]
   rw[hm] at hM
   cases cd
   dsimp only at hm hdel hok hni
   subst hm hdel hsl
   exact⟨bm,_,_,_,_,_,_,_,_,_,dd,k0,k1,k2,k3,k5,_,hM,X _ _ ho,.of_isNs (W.isNs_of_in X hok),W.nsMap_none_of_in X hok hni,W.tail_of_in X ht⟩
  next=>cases q
 next=>cases q
def Alc (C:Addr)(E:XK)(t:TA):TS:=λ_ σ H=>t σ H λvs H1=>vs.length<=sizeLine/\E (.ref C) none H1
section
variable {X:Cx}{x:Str}{C:Addr}{bmB bmN:List Value}{B Bn nid AnS iid AnT:String}{E:XK}{e:Expr}{es:List Expr}{t:TA}{np cpos pos:Pos}
theorem CQ(hB:Body X)(hc:X.calm=true)(hw:∀ e s',FlX X E e s'->X.xe e s')(Fn:ExcBaseFacts Bn nid iid bmN)(hn:bmB.contains (.type Bn)=true)(FB:ExcBaseFacts B AnS AnT bmB)(q:W.excIn X.K C bmB nid=true)(hg:Gl X x)(hm:X.mg x=some (.ref C))(ha:PA X.nox (e::es) t)
  (hd:(x == ("__debug__" : Str))=false:=by decide) (he:starEach (e::es) X.env=(false,eval e X.env)::starEach es X.env:=by rfl) (hpl:(backTo cpos (starEach es X.env)).any (·.1)=false:=by rfl) :
  PS X (.Raise (some (.Call (.Name x np) (e::es) [] cpos)) none pos) (Alc C E t):=by
 intro pins s σ H D I h
 obtain⟨bm,N,nm,qn,bs,hdct,sn,sub,ab,col,dd,k0,k1,k2,k3,k5,mN,_,hC,hN,hni,T⟩:=Ab2 I.ok.mod.kin q
 refine wpAny_Raise_call_subU (N:=N) (C:=C) (k5:=k5) (k3:=k3) (k2:=k2) (k1:=k1) (k0:=k0) (dd:=dd) (col:=col) (ab:=ab) (sub:=sub) (sn:=sn) (hdct:=hdct) (bs:=bs) (q:=qn) (nm:=nm) (newId:=nid) Fn hn FB (mN:=mN) (T.hasType FB.hasBase) (I.ok.hd hc) (by rw[he];show(false || (backTo cpos (starEach es X.env)).any (·.1))=false;rw[hpl];rfl) hni (QS I hg hm ⟨rfl,?_⟩ hd)
 have h1:=ha cpos pins s σ H _ (I.wish _) h
 rw[he] at h1 ⊢
 refine Calls.evalArgs_plain (wpAny_mono h1 (λus s2 z=>?_) λ_ _ z=>z.elim)
 obtain⟨vs,H1,I1,r,hl,hE⟩:=z
 have I2:Inv X pins σ H1 s2:=I1.Hs
 exact⟨rfl,by rw[<- r.length];exact hl,I2.bk _ _ hC,hN.keeps I2.bk,T.keeps I2.bk,λh' ea hx=>hw _ _ (Am3 hB I2 hx hE)⟩
end
abbrev cx1 (P:Program) (w:World) (K:W.Frag) (mg:Str->Option Value) (base:Heap) (N:List Str) (qual:Str) (scope:Scope) (f:Addr) (cd:Value) (A:Around) (outer:List Env) (s:Shared) (H:Hp) (E:XK):Cx :=
 (Abm (CX1 P w) P w K mg base N qual scope f cd A outer s H E).wish (FlX (Abm (CX1 P w) P w K mg base N qual scope f cd A outer s H E) E)
section
variable {P:Program}{w:World}{K:W.Frag}{mg:Str->Option Value}{base:Heap}
theorem Fp{N:List Str}{qual:Str}{scope:Scope}{f:Addr}{cd:Value}{A:Around}{outer:List Env}{s:Shared}{H:Hp}{E:XK}:Body (cx1 P w K mg base N qual scope f cd A outer s H E):=⟨rfl,rfl,rfl⟩
theorem Fun.okX{x qual:Str}{st:Stmt}{f:Addr}{fd:FuncData}{N ps:List Str}{k:Nat}{sp:Sp}(F:Fun K x qual st f fd)(S:Aw N ps (Ah st))(len:∀ vs H Q E,sp vs H Q E->vs.length=ps.length)
  (hbody:∀(cdv:Value) (A:Around) (outer:List Env) (s:Shared) (H:Hp) (vs:List V) (Q:VK) (E:XK),GK k (A.deeper (envOfC qual (Ah st) s.heap.objs.size f cdv))->sp vs H Q E ->
   ∃ t,PSs (cx1 P w K mg base N qual (Ah st) f cdv A outer s H E) (K5 st) t/\t { nx:=λ_ H'=>Q .non H',rt:=Q } (start N vs) H):Br P w K mg base (CX1 P w) (k+1) f fd ps sp:=by
 obtain⟨oc,od,kV,doc,pm,an,cdv,ct,osl,rfl,lk,hcd⟩:=F.ex
 refine Akr lk hcd S len λA outer s H vs Q E hr hsp=>?_
 obtain⟨t,h,q⟩:=hbody cdv A outer s H vs Q E hr hsp
 refine⟨t,λpins s1 σ H1 D I h1=>?_,q⟩
 exact wpAny_mono (h pins s1 σ H1 D (I.wish _) h1) (λ_ _ z=>z.Hs) λe s' z=>leaveX (X:=Abm (CX1 P w) P w K mg base N qual (Ah st) f cdv A outer s H E) ⟨rfl,rfl,rfl⟩ I.ok.frames z
theorem Ej{N:List Str}{qual:Str}{scope:Scope}{f:Addr}{cd:Value}{A:Around}{outer:List Env}{s:Shared}{H:Hp}{E:XK} :
  Passes (CX1 P w) (cx1 P w K mg base N qual scope f cd A outer s H E) E:=λ_ _ _ _ _ _ I c=>Am2 ⟨rfl,rfl,rfl⟩ I.Hs c
end
theorem PS.nox{X:Cx}{st:Stmt}{t:TS}(h:PS X.nox st t):PS X st t:=λpins s σ H D I hw =>
 wpAny_mono (h pins s σ H D (I.wish _) hw) (λ_ _ q=>q.Hs) λ_ _ z=>False.elim z
def PEX (X:Cx)(e:Expr)(t:XK->TE):Prop:=∀(pins:List (Addr × Obj)) (s:Shared) (σ:St) (H:Hp) (Q:VK) (E:XK),Inv X pins σ H s->t E σ H Q ->
 wpAny (model X.prog X.w) X.A (eval e X.env) (EP X pins σ Q) (λex s'=>∃ H1 s1,Inv X pins σ H1 s1/\CX1 X.prog X.w X.stack H1 s1 E ex s') s
section
variable {X:Cx}{k:Nat}{f C:Addr}{fd:FuncData}{ps:List Str}{sp:Sp}{dvs:List V}{ds:List Value}{x m:Str}{p pos apos:Pos}{e o:Expr}{es:List Expr}{ta:TE}{t:TA}
theorem Ajh{pins:List (Addr × Obj)}{σ:St}{H:Hp}{s:Shared}{Q:VK}{E:XK}{us:List Value}{vs:List V}(F:Br X.prog X.w X.K X.mg X.base (CX1 X.prog X.w) k f fd ps sp)(hr:GK k X.A)(hb:Binds X.K fd ps ds)(hd:Vals dvs ds)
  (I:Inv X pins σ H s) (r:Vals vs us) (h:sp (vs++dvs) H Q E):wpAny (model X.prog X.w) X.A (call (.ref f) us) (EP X pins σ Q) (λex s'=>∃ H1 s1,Inv X pins σ H1 s1/\CX1 X.prog X.w X.stack H1 s1 E ex s') s:=by
 have r2:Vals (vs++dvs) (us++ds):=r.append hd
 have hl:(us++ds).length=ps.length:=(r2.length.symm).trans (F.len _ _ _ _ h)
 refine wpAny_call (codeAny_mono (F.run X.A X.stack s H ⟨us,[]⟩ (us++ds) (vs++dvs) Q E hr I.env0 (hb s us I.kIn hl) r2 h) λrs s' hq=>?_)
 match rs,hq with
 | .error e,hq=>exact⟨H,s,I,hq⟩
 | .ok (.ret u),hq=>exact I.after hq
 | .ok .next,hq=>exact False.elim hq
 | .ok .brk,hq=>exact False.elim hq
 | .ok .cont,hq=>exact False.elim hq
theorem Ahd(F:Br X.prog X.w X.K X.mg X.base (CX1 X.prog X.w) k f fd ps sp)(hr:GK k X.A)(hg:Gl X x)(hm:X.mg x=some (.ref f))(hk:W.keepIn X.K (.ref f)=true)(hb:Binds X.K fd ps ds)(hd:Vals dvs ds)
  (ha:PA X.nox (e::es) t) (hdb:(x == ("__debug__" : Str))=false:=by decide) (he:starEach (e::es) X.env=(false,eval e X.env)::starEach es X.env:=by rfl) (hpl:(backTo pos (starEach es X.env)).any (·.1)=false:=by rfl) :
  PEX X (.Call (.Name x p) (e::es) [] pos) λE=>Akp sp dvs E t:=by
 intro pins s σ H Q E I h
 refine wpAny_Call_Name_kw (QS I hg hm ?_ hdb)
 refine W.callWith_K (h₀:=X.base) I.ok.mod.kin hk (wpAny_mono (ha pos pins s σ H _ (I.wish _) h) (λus s1 ⟨vs,H1,I1,r,q⟩=>⟨I1.kIn,?_⟩) λ_ _ z=>z.elim) he hpl
 exact Ajh F hr hb hd (I1.Hs) r q
end
def exH (C a:Addr):HO:=.ext λh=>∃ t tb,h.get? a=some (exO C t tb)
theorem GJ.get{P:Program}{w:World}{H:Hp}{h:Heap}{a:Addr}{o:HO}(x:GJ P w H h a o):∃ u,h.get? a=some u:=by
 induction o with
 | lst xs=>obtain⟨_,_,_,_,e⟩:=x;exact⟨_,e⟩
 | tup xs=>obtain⟨_,_,_,_,e,_⟩:=x;exact⟨_,e⟩
 | dK kvs=>obtain⟨_,_,_,_,_,_,_,e,_⟩:=x;exact⟨_,e⟩
 | dT kvs=>obtain⟨_,_,_,_,_,_,_,e,_⟩:=x;exact⟨_,e⟩
 | set S n=>obtain⟨_,_,_,_,e,_⟩:=x;exact⟨_,e⟩
 | ins C dx fs=>obtain⟨_,_,_,e,_⟩:=x;exact⟨_,e⟩
 | own y=>obtain⟨_,e⟩:=x;exact⟨_,e⟩
 | xd fs=>obtain⟨_,⟨_,_,_,e,_⟩,_⟩:=x;exact⟨_,e⟩
 | rng lo hi=>obtain⟨_,_,_,e⟩:=x;exact⟨_,e⟩
 | frz ob u ih=>obtain⟨e,_⟩:=x;exact⟨_,e⟩
 | tbl ps=>exact⟨_,x⟩
 | met f y=>exact⟨_,x⟩
 | ext φ=>exact x.2.1
section
variable {X:Cx}{pins:List (Addr × Obj)}{σ:St}{H H':Hp}{s s':Shared}{B h2:Heap}{ea C t:Addr}{fl:Value}
theorem Bk.none{P:Program}{w:World}{outer:List Env}{h h':Heap}(k:Bk P w outer H h H' B h')(ne:B.get? ea=Option.none):H' ea=Option.none:=by
 cases q:H' ea with
 | none=>rfl
 | some o =>
  obtain⟨u,e⟩:=(k.ok ea o q).get
  rw[ne] at e
  cases e
theorem AeK(I:Inv X pins σ H s)(os:s'.os=s.os)(bare:AllBare s'.gens)(bk:Bk X.prog X.w X.stack H s.heap H' B h2)(fx:Fx B X.stack ea C t fl h2) :
  Inv X pins σ (upd H' ea (exH C ea)) { s' with heap:=h2 }:=by
 have hn:=bk.none fx.ne
 obtain⟨T,oT,ts,hE,_⟩:=fx.ob
 have ne:∀ b o,s.heap.get? b=some o->b≠ea:=λb o e z=>by
  by_cases hb:b∈frs X.stack
  ·obtain⟨_,o2,e2,n2⟩:=fx.fr.mem hb
   rw[z,hE] at e2
   cases e2
   exact n2 _ rfl
  ·obtain⟨o',e1⟩:=bk.there b o e hb
   rw[z,fx.ne] at e1
   cases e1
 have nt:∀ b u,H' b=some u->b≠ea:=λb u e z=>by
  rw[z,hn] at e
  cases e
 obtain⟨hh,g,d,tk,os'⟩:=s'
 obtain rfl:os'=s.os:=os
 refine I.call (s:=s) (h':=h2) (g':=g) (d':=d) (t':=tk) (ch:=[]) ⟨λb o e n hb _=>fx.st _ _ (bk.keep b o e n hb),λb o e n hb _=>bk.slot b o e hb,λb o e n _=>?_,λb o e _=>?_,λb xs e=>?_,λb o u e=>?_,λb ps e=>?_⟩ (λb u e=>?_) bare (λb z=>nomatch z)
 ·rw[Ao (ne b o e)]
  exact bk.free b o e n
 ·by_cases hb:b∈frs X.stack
  ·obtain⟨sl,e1⟩:=bk.slot b o e hb
   exact⟨_,e1⟩
  ·obtain⟨o',e1⟩:=bk.there b o e hb
   exact⟨o',fx.st _ _ e1⟩
 ·have e1:=bk.tups b xs e
  rw[Ao (nt _ _ e1)]
  exact e1
 ·have e1:=bk.JG b o u e
  rw[Ao (nt _ _ e1)]
  exact e1
 ·obtain⟨m1,e1⟩:=bk.Kv b ps e
  exact⟨m1,by rw[Ao (nt _ _ e1)];exact e1⟩
 ·by_cases hb:b=ea
  ·subst hb
   rw[Ae] at e
   cases e
   exact⟨⟨t,_,hE⟩,⟨_,hE⟩,λh1 h3 ⟨t',tb',q⟩ k=>⟨t',tb',k _ q⟩⟩
  ·rw[Ao hb] at e
   refine(bk.ok b u e).stay (λc v _ q=>fx.st _ _ q) (λc q=>?_) λc xs q=>?_
   ·rw[Ao (nt _ _ q)];exact q
   ·rw[Ao (nt _ _ q)];exact q
abbrev Cx.hdl (X:Cx) (e:Addr):Cx:={ X with A:=X.A.mark (some (.ref e)),calm:=false,xe:=λ_ _=>False }
theorem Inv.hdl(I:Inv X pins σ H s)(e:Addr):Inv (X.hdl e) pins σ H s :=
 ⟨⟨I.ok.mod,I.ok.kind,I.ok.glob,I.ok.blt,I.ok.above,I.ok.inj,I.ok.has,I.ok.cab,(λz=>nomatch z),I.ok.frames,I.ok.stk,I.ok.exf,I.ok.bs,I.ok.bsz,I.ok.Xa,I.ok.Vs,I.ok.PJ,I.ok.frf⟩,I.os,I.bare,I.base,I.loc,I.cell,I.free,I.Je,I.pin,I.hok,I.len⟩
theorem Inv.AeL{e:Addr}(hd:X.calm=true->X.A.handled=none)(I:Inv (X.hdl e) pins σ H s):Inv X pins σ H s :=
 ⟨⟨I.ok.mod,I.ok.kind,I.ok.glob,I.ok.blt,I.ok.above,I.ok.inj,I.ok.has,I.ok.cab,hd,I.ok.frames,I.ok.stk,I.ok.exf,I.ok.bs,I.ok.bsz,I.ok.Xa,I.ok.Vs,I.ok.PJ,I.ok.frf⟩,I.os,I.bare,I.base,I.loc,I.cell,I.free,I.Je,I.pin,I.hok,I.len⟩
end
section
variable {M:Model}{A:Around}{E:Value->Shared->Prop}{h:Heap}{g:Array GenState}{d:Drawn}{t:Nat}{os:OsState}
theorem AcH{K:W.Frag}{C D e:Addr}{bC bD:List Value}{nC nD:String}{oe:Obj}{Q:Bool->Shared->Prop}(X:K.In h)(qC:W.excIn K C bC nC=true)(qD:W.excIn K D bD nD=true)
  (hb:bD.contains (.type "BaseException")=true) (he:h.get? e=some oe) (hc:oe.cls=.ref C) (hq:Q ((Ab1 K C).contains (.ref D)) ⟨h,g,d,t,os⟩):wpAny M A (excMatches (.ref e) (.ref D)) Q E ⟨h,g,d,t,os⟩:=by
 obtain⟨bm1,_,_,_,_,_,_,_,_,_,_,_,_,_,_,_,_,e1,hC,_,_,T1⟩:=Ab2 X qC
 obtain⟨bm2,_,_,_,_,_,_,_,_,_,_,_,_,_,_,_,_,_,hD,_,_,T2⟩:=Ab2 X qD
 have hcB:(Value.ref D::bm2).contains (.type "BaseException")=true:=by rw[List.contains_cons,T2.hasType hb,Bool.or_true]
 have f:=tc_notTuple
 rw[e1] at hq
 unfold excMatches
 repeat (first | (with_reducible refine wpAny_loadPart_at he ?_;rw[hc]) | with_reducible refine wpAny_loadPart_at hD ?_ | (with_reducible refine wpAny_isSubtype_exc hD ?_;rw[hcB]) | with_reducible refine wpAny_isSubtype_exc hC ?_ | wp_step)
 all_goals (revert hq;cases (Value.ref C::bm1).contains (Value.ref D) <;> intro hq)
 all_goals (repeat (first | exact hq | wp_step))
end
abbrev WX (X:Cx) (pins:List (Addr × Obj)) (σ:St) (E:XK):Value->Shared->Prop:=λex s'=>∃ H1 s1,Inv X pins σ H1 s1/\CX1 X.prog X.w X.stack H1 s1 E ex s'
def PSX (X:Cx)(st:Stmt)(t:XK->TS):Prop:=∀(pins:List (Addr × Obj)) (s:Shared) (σ:St) (H:Hp) (D:Ends) (E:XK),Inv X pins σ H s->t E D σ H->wpAny (model X.prog X.w) X.A (exec st X.env) (SP X pins D) (WX X pins σ E) s
def Aji (X:Cx)(st:List Stmt)(t:XK->TS):Prop:=∀(pins:List (Addr × Obj)) (s:Shared) (σ:St) (H:Hp) (D:Ends) (E:XK),Inv X pins σ H s->t E D σ H->wpAny (model X.prog X.w) X.A (execs st X.env) (SP X pins D) (WX X pins σ E) s
section
variable {X:Cx}{e:Expr}{t u:XK->TS}{te:XK->TE}{pos:Pos}{st:Stmt}
theorem Ahe(h:PSX X st t):Aji X [st] t:=by
 intro pins s σ H D E I h1
 refine wpAny_execs_cons (thn (h pins s σ H D E I h1) λf s1 q=>?_)
 match f,q with
 | .next,q=>exact wpAny_execs_nil q
 | .brk,q=>exact q
 | .cont,q=>exact q
 | .ret u,q=>exact q
theorem Ajj{i:Nat}{x:Str}{pos':Pos}(hN:X.N.Nodup)(hi:X.N[i]?=some x)(hx:Loc X.env.scope x)(he:PEX X e te)(hs:swapsWith e (some (.Name x pos')) pos.line X.env=pure false:=by rfl)
  (hf:X.fn x=true\/X.env.scope.names.lookup x=some .local:=by first | exact .inl rfl | exact .inr rfl | assumption):PSX X (.Assign [.Name x pos'] e pos) λE=>Ac1 (te E) (J8 i):=by
 intro pins s σ H D E I h
 refine wpAny_Assign_Name (thn (he pins s σ H _ E I h) λv s1 ⟨y,H1,I1,r1,q1⟩=>?_) hs
 exact XH I1 hN hi hx r1 (λs2 I2=>⟨_,H1,I2,q1⟩) hf
abbrev Ends.un (D:Ends) (j:Nat):Ends:={ nx:=λσ H=>D.nx (σ.set j none) H,rt:=D.rt,bk:=λσ H=>D.bk (σ.set j none) H,ct:=λσ H=>D.ct (σ.set j none) H }
def Sub (K:W.Frag)(C D:Addr):Prop:=(∃ bm nid,W.excIn K C bm nid=true)/\(Ab1 K C).contains (.ref D)=true
def AoX (K:W.Frag)(Ch:Addr)(j:Nat)(t:XK->TS)(ts:TS):TS:=λD σ H=>t (λc _ H'=>∃ C,c=.ref C/\Sub K C Ch/\∀ ea,H' ea=none->ts (D.un j) (σ.set j (some (.ref ea))) (upd H' ea (exH C ea))) D σ H
end
structure ExC (K:W.Frag) (C:Addr):Prop where
 ga:W.findIn K (.ref C) "__getattribute__" = some (some (.builtin "BaseException.__getattribute__"))
 gt:W.findIn K (.ref C) "__getattr__" = some none
 cl:W.findIn K (.ref C) "__class__" = some (some (.builtin "object.__class__"))
 gc:W.specialIn K (.builtin "object.__class__") "__get__" = some (some (.builtin "getset_descriptor.__get__"))
 tk:W.takesIn K (.builtin "object.__class__")=some true
 ob:W.mroIn K C (.type "object")=some true
 be:W.mroIn K C (.type "BaseException")=some true
 is:(W.clsIn K C).isSome=true
def AoY (K:W.Frag):List V->Hp->VK->Prop:=λvs H Q=>∃ a C b,H a=some (exH C a)/\ExC K C /\
 ((∃ n,vs=[.ref a,.ty n]/\W.kitOne K (.ref C) (.type n)=some b)\/(∃ D,vs=[.ref a,.ref D]/\W.kitOne K (.ref C) (.ref D)=some b))/\Q (.bl b) H
section
variable {X:Cx}{K:W.Frag}
variable {CX:CXT}{k:Nat}{ps:List Str}{sp:Addr->Sp}{E:XK}{m:Str}{pos apos:Pos}{o:Expr}{ta:TE}
def AnU (K:W.Frag)(m:Str)(sp:Addr->Sp)(E:XK)(ta:TE):TE:=λσ H Q=>ta σ H λx H1=>∃ a C,x=.ref a/\H1 a=some (exH C a)/\sp C [x] H1 Q E
end
abbrev vE:List Value:=[.type "ValueError", .type "Exception", .type "BaseException", .type "object"]
abbrev vN:String := "ValueError.__new__"
structure Exn (K:W.Frag) (C:Addr):Prop where
 q:W.excIn K C vE vN=true
 c:ExC K C
 ty:W.typeIn K (.ref C)=some (.type "type")
 ve:W.mroIn K C (.type "ValueError")=some true
theorem Ald{K:W.Frag}{C:Addr}(q:W.excIn K C vE vN=true)(ga:W.findIn K (.ref C) "__getattribute__" = some (some (.builtin "BaseException.__getattribute__"))) (gt:W.findIn K (.ref C) "__getattr__" = some none)
  (cl:W.findIn K (.ref C) "__class__" = some (some (.builtin "object.__class__"))) (gc:W.specialIn K (.builtin "object.__class__") "__get__" = some (some (.builtin "getset_descriptor.__get__"))) (tk:W.takesIn K (.builtin "object.__class__")=some true)
  (ob:W.mroIn K C (.type "object")=some true) (be:W.mroIn K C (.type "BaseException")=some true) (is:W.isClsIn K C=true) (ty:W.typeIn K (.ref C)=some (.type "type")) (ve:W.mroIn K C (.type "ValueError")=some true):Exn K C :=
 ⟨q,⟨ga,gt,cl,gc,tk,ob,be,is⟩,ty,ve⟩
theorem Yo:vE.contains (.type "BaseException")=true:=by decide
theorem El:vE.contains (.type "ValueError")=true:=by decide
section
variable {X:Cx}{CX:CXT}{k:Nat}{C f:Addr}{fd:FuncData}{ps:List Str}{sp:Sp}{E:XK}{m:Str}{pos apos:Pos}{o:Expr}{ta:TE}
def AnV (C:Addr)(sp:Sp)(E:XK)(ta:TE):TE:=λσ H Q=>ta σ H λx H1=>∃ a,x=.ref a/\H1 a=some (exH C a)/\sp [x] H1 Q E
end
def Dm (s:Stmt):List Stmt:=match s with
 | .ClassDef _ _ _ b _ _ _ _ _ _ _=>b
 | _=>[]
structure Mf (K:W.Frag) (x q:Str) (st:Stmt) (ps:List Str) (C f:Addr) (fd:FuncData):Prop where
 F:Fun K x q st f fd
 m:Meth K C x f
 b:Binds K fd ps []
section
variable {X:Cx}{t:XK->TS}{pos:Pos}
def Ao1 (K:W.Frag)(Ch:Addr)(t:XK->TS)(ts:TS):TS:=λD σ H=>t (λc _ H'=>∃ C,c=.ref C/\Sub K C Ch/\∀ ea,H' ea=none->ts D σ (upd H' ea (exH C ea))) D σ H
end
theorem Exn.has{K:W.Frag}{C D:Addr}{b:Bool}(r:W.mroIn K C (.ref D)=some b):(Ab1 K C).contains (.ref D)=b:=by
 obtain⟨cd,h1,h2⟩:=Option.bind_eq_some_iff.mp r
 unfold W.clsIn at h1
 unfold Ab1
 split at h1
 next c d cd' sl ho =>
  cases h1
  rw[ho]
  dsimp only
  split at h2
  ·cases h2
  ·exact Option.some.inj h2
 ·cases h1
section
variable {X:Cx}{t:XK->TS}{pos:Pos}
def pick(K:W.Frag)(C:Addr):List (Addr × TS)->TS
 | []=>λ_ _ _=>False
 | (Ch,ts)::l=>λD σ H=>((Ab1 K C).contains (.ref Ch)=true/\ts D σ H)\/((Ab1 K C).contains (.ref Ch)=false/\pick K C l D σ H)
def Am5 (K:W.Frag)(l:List (Addr × TS))(t:XK->TS):TS:=λD σ H=>t (λc _ H'=>∃ C,c=.ref C/\(∃ bm nid,W.excIn K C bm nid=true)/\∀ ea,H' ea=none->pick K C l D σ (upd H' ea (exH C ea))) D σ H
inductive HL (X:Cx):List ExceptHandler->List (Addr × TS)->Prop
 | nil:HL X [] []
 | cons {suite:List Stmt} {b₀:Stmt} {ts:TS} {x:Str} {Ch:Addr} {bmB:List Value} {nid:String} {np hpos:Pos} {hs:List ExceptHandler} {l:List (Addr × TS)}
   (hg:Gl X x) (hm:X.mg x=some (.ref Ch)) (hq:W.excIn X.K Ch bmB nid=true) (hbs:bmB.contains (.type "BaseException")=true) (hs':∀ ea,PSs (X.hdl ea) (b₀::suite) ts) (hd:(x == ("__debug__" : Str))=false) (r:HL X hs l) :
   HL X (.ExceptHandler (some (.Name x np)) none (b₀::suite) hpos::hs) ((Ch,ts)::l)
theorem Ajk{body:List Stmt}{h₀:ExceptHandler}{hs:List ExceptHandler}{l:List (Addr × TS)}(hB:Body X)(hc:X.calm=true)(hb:Aji X body t)(L:HL X (h₀::hs) l) :
  PS X (.Try body (h₀::hs) [] [] pos) (Am5 X.K l t):=by
 intro pins s σ H D I h
 refine wpAny_Try_except (wpAny_mono (hb pins s σ H D _ I h) (λf s1 q=>?_) λex s1 z=>?_)
 ·match f,q with
  | .next,q=>exact wpAny_execs_nil q
  | .brk,q=>exact q
  | .cont,q=>exact q
  | .ret u,q=>exact q
 ·obtain⟨H1,s0,I0,ea,C,t0,H',B,rfl,fx,os,bare,bk,C',eC,⟨bC,nC,qC⟩,ht⟩:=z
  obtain rfl:C=C':=by cases eC;rfl
  refine AeJ hB I.ok.frames (.came fx) λh1 x1 u1=>Ab0 (s:={ s1 with heap:=h1 }) x1 λh2 x2 u2=>?_
  have bk2:=(bk.slots fx.fr u1).slots x1.fr u2
  have I2:Inv X pins σ (upd H' ea (exH C ea)) { s1 with heap:=h2 }:=AeK I0 os bare bk2 x2
  replace ht:=ht ea (bk.none fx.ne)
  generalize hhs:h₀::hs=all at L ⊢
  clear hhs h
  induction L with
  | nil=>exact ht.elim
  | cons hg hm hq hbs hs' hd r ih =>
   refine wpAny_handleBy_cons (codeAny_handlers_test (QS (X:=X.hdl ea) (I2.hdl ea) hg hm ?_ hd)) (by intro q;cases q)
   obtain⟨T,oT,tt,hE,_⟩:=id x2.ob
   refine AcH I2.kIn qC hq hbs hE rfl ?_
   rcases ht with ⟨sub,ht⟩ | ⟨sub,ht⟩
   ·rw[sub]
    refine codeAny_handlers_suite ?_
    refine Ab0 (s:={ s1 with heap:=h2 }) x2 λh3 x3 u3=>?_
    have I3:Inv X pins σ (upd H' ea (exH C ea)) { s1 with heap:=h3 }:=AeK I0 os bare (bk2.slots x2.fr u3) x3
    refine wpAny_mono (hs' ea pins _ _ _ _ (I3.hdl ea) ht) (λf s5 q=>?_) λ_ _ z=>z.elim
    match f,q with
    | .next,⟨σ',H5,J,q⟩=>exact⟨σ',H5,J.AeL I.ok.hd,q⟩
    | .brk,⟨σ',H5,J,q⟩=>exact⟨σ',H5,J.AeL I.ok.hd,q⟩
    | .cont,⟨σ',H5,J,q⟩=>exact⟨σ',H5,J.AeL I.ok.hd,q⟩
    | .ret u,⟨v,σ',H5,J,r,q⟩=>exact⟨v,σ',H5,J.AeL I.ok.hd,r,q⟩
   ·rw[sub]
    exact ih ht
end
open Builtin Builtin.Str
def Yp (u:List Nat)(lo hi:Option Int):List Nat:=(u.drop (HT.sIx u.length 0 lo)).take (HT.sIx u.length u.length hi-HT.sIx u.length 0 lo)
theorem Ale(a b:Nat):sliceRange (a:Int) (b:Int) 1=(List.range (b-a)).map λk=>a+k:=by
 unfold sliceRange
 simp only [show(1:Int)>0 by decide,if_true]
 by_cases h:(a:Int)<(b:Int)
 ·rw[if_pos h,Int.ediv_one,show(b:Int)-(a:Int)+1-1=((b-a:Nat):Int) by omega,Ap1]
  exact Aq7 λk _=>by omega
 ·rw[if_neg h,show b-a=0 by omega]
  rfl
theorem QV(n d:Nat)(i:Int):max 0 (min (if i<0 then i+(n:Int) else i) (n:Int))=(HT.sIx n d (some i):Int):=by
 show _=(((if i<0 then (i+(n:Int)).toNat else min i.toNat n):Nat):Int)
 by_cases h:i<0
 ·rw[if_pos h,if_pos h];omega
 ·rw[if_neg h,if_neg h];omega
theorem idx_eq(n:Nat)(lo hi:Option Int):strSliceIndices lo hi 1 n=(List.range (HT.sIx n n hi-HT.sIx n 0 lo)).map λk=>HT.sIx n 0 lo+k:=by
 rw[<- Ale]
 cases lo with
 | none =>
  cases hi with
  | none=>rfl
  | some j=>rw[<- QV];rfl
 | some i =>
  cases hi with
  | none=>rw[<- QV n 0 i];rfl
  | some j=>rw[<- QV n 0 i,<- QV n n j];rfl
theorem Ahf(u:List Nat)(lo hi:Option Int):Txt.slice (tx u) lo hi=tx (Yp u lo hi):=by
 unfold Txt.slice Yp
 rw[Ai,idx_eq]
 have hle:HT.sIx u.length u.length hi<=u.length:=HT.AkR _ _ (Apv _) _
 have key:∀(a k:Nat),a+k<=u.length->((List.range k).map λj=>a+j).filterMap (λi=>(tx u).cps[i]?)=(u.drop a).take k:=by
  intro a k
  induction k with
  | zero=>intro _;simp
  | succ k ih =>
   intro h
   rw[ApZ,Apx,List.filterMap_append,ih (by omega)]
   have:a+k<u.length:=by omega
   simp only [Apw,ApW,Aqj,List.filterMap_nil,Np,Apu this]
   rw[List.take_succ,AqJ,Apu this]
   rfl
 split
 next h =>
  simp only [Apq,ApE,ApU,beq_iff_eq] at h
  have h2:=h.2
  have:HT.sIx u.length 0 lo=0\/u.length=0:=by omega
  rcases this with e | e
  ·rw[e,Aq8,ApP (by omega)]
  ·rw[AqR e];simp
 next h =>
  by_cases hlt:HT.sIx u.length 0 lo<=HT.sIx u.length u.length hi
  ·show(Str.mk _)=_
   rw[key _ _ (by omega)]
   rfl
  ·have e:HT.sIx u.length u.length hi-HT.sIx u.length 0 lo=0:=by omega
   rw[e]
   simp[tx]
theorem Ahg{u:List Nat}{k:Nat}(h:k<=u.length):Yp u none (some (k:Int))=u.take k:=by
 unfold Yp
 rw[HT.Qa,HT.K3,Aq8,Aqh h,Nat.sub_zero]
section
variable {X:Cx}
theorem Yq:SlR X (λx lo hi H Q=>∃ u:List Nat,x=.str (tx u)/\u.length<=sizeLine/\Q (.str (tx (Yp u lo hi))) H):=by
 intro pins s σ H x v vl vu lo hi sl Q I rx hs pl pu h
 obtain⟨u,rfl,hz,q⟩:=h
 obtain⟨t,rfl⟩:=rx
 rw[<- Ahf] at q
 refine⟨"str", _,F.slot_str_getitem.lookup,typeIs_str _ _ _,?_⟩
 have hsz:(tx u).length<=sizeLine:=by rw[Ai];exact hz
 obtain⟨os,hos,hcs,hds⟩:=id hs
 have fin:∀(l u':Option (Int × Tok)),s.heap.IsSlice sl l u' none->Q (.str (Txt.slice (tx u) (l.map (·.1)) (u'.map (·.1)))) H->wpAny (model X.prog X.w) X.A (getItem (.str (tx u) t) (.ref sl)) (EP X pins σ Q) X.xe s:=λl u' z q' =>
  wpAny_getItem_str_slice z rfl (post_val_or_str ⟨ApF (Txt.slice_le (tx u) _ _) hsz,λt' k=>⟨.str _,H,I.tok _,⟨t',rfl⟩,q'⟩⟩)
 cases pl with
 | none=>cases pu with
  | none=>exact fin none none ⟨os,hos,hcs,hds⟩ q
  | int j tj=>exact fin none (some (j,tj)) ⟨os,hos,hcs,hds⟩ q
 | int i ti=>cases pu with
  | none=>exact fin (some (i,ti)) none ⟨os,hos,hcs,hds⟩ q
  | int j tj=>exact fin (some (i,ti)) (some (j,tj)) ⟨os,hos,hcs,hds⟩ q
end
theorem Yr:∀(xs:List V) (us:List Value),xs.length=us.length->(∀(i:Nat) x u,xs[i]?=some x->us[i]?=some u->RelV x u)->Vals xs us
 | [],[],_,_=>.nil
 | [],_::_,h,_=>by simp at h
 | _::_,[],h,_=>by simp at h
 | x::xs,u::us,h,p=>.cons (p 0 x u rfl rfl) (Yr xs us (by simpa using h) λi y v e1 e2=>p (i+1) y v e1 e2)
def AoZ (p:Addr)(a b c:Int):HO:=.ext λh=>∃ t u v,IsRange h p a b c t u v
def Am6 (a c:Int)(n:Nat):List Int:=(List.range n).map λ(i:Nat)=>a+(i:Int)*c
section
variable {X:Cx}{K:W.Frag}
theorem AfK:JC X (.type "int") (λxs H Q=>∃ z n,xs=[.str z]/\PySem.intText? z=some n/\z.length<=640/\Q (.int n) H):=by
 intro pins s σ H xs us Q I rv h
 obtain⟨z,n,rfl,hn,hl,q⟩:=h
 obtain⟨u,rfl,t,rfl⟩:=rv.one
 exact W.KIN.call_text hn hl ⟨.int n,H,I.tok _,⟨_,rfl⟩,q⟩
end
section
variable {X:Cx}{K:W.Frag}{o e value:Expr}{f:Str}{pos pos' tpos:Pos}{ta tv:TE}{st:Stmt}{t:TS}
theorem FP(he:PE X e ta)(hb:attributeBase e f X.env (eval e X.env)=eval e X.env)(hK:X.K=K:=by rfl):PE X (.Attribute e f pos) (Amk K ta f):=by subst hK;exact AkM he hb
theorem Tr(ha:PE X o ta)(hv:PE X value tv)(hs:swapsWith value (some (.Attribute o f pos')) pos.line X.env=pure false:=by rfl)(hK:X.K=K:=by rfl):PS X (.Assign [.Attribute o f pos'] value pos) (Aml K ta tv f):=by subst hK;exact AkN ha hv hs
theorem AdU{op:Operator}{rd:V->V->Hp->VK->Prop}(ha:PE X o ta)(hv:PE X value tv)(hop:AkL X op rd)(hK:X.K=K:=by rfl):PS X (.AugAssign (.Attribute o f tpos) op value pos) (AeE K ta tv rd f):=by subst hK;exact Af7 ha hv hop
theorem Aku(h:X.A.frames=some X.stack->PS X st t):PS X st t:=λpins s σ H D I hw=>h I.ok.frames pins s σ H D I hw
end
structure Own (K:W.Frag) (C f:Addr):Prop where
 c:Cls K C
 m:Mk K C f
theorem Alf{K:W.Frag}{C f:Addr}(h1:W.plainGet K C Str.empty=true)(h2:W.hasDictIn K C=true)(h3:W.plainOver K C=true)(h4:W.findIn K (.ref C) "__setattr__" = some (some (.builtin "object.__setattr__")))
  (h5:W.makesIn K C=true) (h6:W.findIn K (.ref C) "__init__" = some (some (.ref f))) (h7:W.isFn K (.ref f)=true) (h8:W.keepIn K (.ref C)=true):Own K C f:=⟨⟨h1,h2,h3,h4⟩,⟨h5,h6,h7,h8⟩⟩
structure Am7 (K:W.Frag) (C:Addr) (m:Str) (f:Addr):Prop where
 rd:W.readsIn K C (.type "type")=true
 fi:W.findCls K (.ref C) (.type "type") m=some (.val (.ref f))
 ha:W.handedIn (.ref f)=true
 sp:W.specialIn K (.ref C) "__getattribute__" = some (some (.builtin "type.__getattribute__"))
 kp:W.keepIn K (.ref f)=true
def Am8 (C:Addr)(sp:Sp)(dvs:List V)(E:XK)(ta:TE)(t:TA):TE:=λσ H Q=>ta σ H λx H1=>x=.ref C/\t σ H1 λvs H2=>sp (vs++dvs) H2 Q E
section
variable {X:Cx}{CX:CXT}{k:Nat}{f C:Addr}{fd:FuncData}{ps:List Str}{sp:Sp}{dvs:List V}{ds:List Value}{E:XK}{m:Str}{pos apos:Pos}{e o:Expr}{es:List Expr}{ta:TE}{t:TA}
theorem G6{pl:Sem Bool}(he:PE X o ta)(M:Am7 X.K C m f)(F:Br X.prog X.w X.K X.mg X.base CX k f fd ps sp)(hr:GK k X.A)(hb:Binds X.K fd ps ds)(hd:Vals dvs ds)(hx:Passes CX X E)(ha:PA X (e::es) t)
  (hst:starEach (e::es) X.env=(false,eval e X.env)::starEach es X.env:=by rfl) (hpl:(backTo pos (starEach es X.env)).any (·.1)=false:=by rfl)
  (ht:eval (.Call (.Attribute o m apos) (e::es) [] pos) X.env=(do
   let ov <- eval o X.env
   standAt apos.atName
   let (f,first) <- holding [ov] (getMethod ov m pl)
   callWith pos f first (backTo pos (starEach (e::es) X.env)) (backToKw pos (keywordEach [] X.env))):=by rfl) :
  PE X (.Call (.Attribute o m apos) (e::es) [] pos) (Am8 C sp dvs E ta t):=by
 intro pins s σ H Q I h
 refine W.methodCall_KW (pl:=pl) (thn (he pins s σ H _ I h) λu s1 ⟨x,H1,I1,rx,ex,q⟩=>?_) ht
 subst ex
 obtain rfl:u=Value.ref C:=rx
 refine W.method_cls I1.kIn M.sp (W.cls_value I1.kIn M.rd M.fi M.ha ?_)
 refine W.callWith_K (first:=[]) (h₀:=X.base) I.ok.mod.kin M.kp (thn (ha pos pins _ σ H1 _ (I1.tok (s1.toks+1)) q) λus s2 ⟨vs,H2,I2,r,q2⟩=>⟨I2.kIn,?_⟩) hst hpl
 exact Vx (us:=us) (vs:=vs) F hr hb hd hx I2 r q2
end
section
variable {κ:Type} [DecidableEq κ]
def AfL (kvs:List (κ × V))(k:κ):Option V:=(kvs.find? λkv=>decide (kv.1=k)).map (·.2)
def putK(kvs:List (κ × V))(k:κ)(v:V):List (κ × V) :=
 if (kvs.any λkv=>decide (kv.1=k))=true then kvs.map (λkv=>if kv.1=k then (kv.1,v) else kv) else kvs++[(k,v)]
def Ahh (kvs:List (κ × V))(k:κ):List (κ × V):=kvs.filter λkv=>decide (kv.1≠k)
end
abbrev KT (H:Hp):List (List Key × V)->List (List Key × Addr × Value)->Prop:=Paired λp q=>p.1=q.1/\H q.2.1=some (.tup (p.1.map kV))/\RelV p.2 q.2.2
def AfM (H:Hp)(a:Addr)(y:V)(r:Option V):Prop :=
 (∃ kvs k,Rd H a (.dK kvs)/\y=kV k/\r=AfL kvs k)\/∃ kvs k b,Rd H a (.dT kvs)/\y=.ref b/\H b=some (.tup (k.map kV))/\r=AfL kvs k
def Am9 (H:Hp)(a:Addr)(y v:V)(H':Hp):Prop :=
 (∃ kvs k,H a=some (.dK kvs)/\y=kV k/\kvs.length<sizeLine/\H'=upd H a (.dK (putK kvs k v))) \/
 ∃ kvs k b,H a=some (.dT kvs)/\y=.ref b/\H b=some (.tup (k.map kV))/\kvs.length<sizeLine/\H'=upd H a (.dT (putK kvs k v))
def AmA (i:Expr):Prop:=∀ ov iv,subscripted i false ov iv=operate [ov,iv] (getItem ov iv)
theorem Ajl{prog:Program}{w:World}{A:Around}{E:Value->Shared->Prop}{s:Shared}{env:Env}{value slice:Expr}{pos:Pos}{T id:String}{Q:Value->Shared->Prop}
  (hl:typeLookup (.type T) "__getitem__" = pure (some (.builtin id))) (hs:AmA slice)
  (h:wpAny (model prog w) A (eval value env) (λo s₁=>wpAny (model prog w) A (eval slice env) (λi s₂=>s₂.TypeIs o T/\wpAny (model prog w) A (getItem o i) Q E s₂) E s₁) E s) :
  wpAny (model prog w) A (eval (.Subscript value slice pos) env) Q E s:=by
 refine Subscript_ (wpAny_mono h (λo s₁ h₁=>wpAny_mono h₁ (λi s₂ h₂=>?_) λ_ _ x=>x) λ_ _ x=>x)
 obtain⟨hT,h₂⟩:=h₂
 unfold subscriptTail
 refine wpAny_bind ?_
 rw[getitemInPython_of_ne hT.not_modules]
 refine wpAny_bind (wpAny_specialOf hT hl ?_)
 have fin:wpAny (model prog w) A (subscripted slice false o i) (λr s₃=>wpAny (model prog w) A (letTemporaryGo value o r >>= λ_=>pure r) Q E s₃) E s₂:=by
  rw[hs o i]
  exact wpAny_operating (wpAny_mono h₂ (λr s₃ h₃=>wpAny_bind (wpAny_letTemporaryGo (wpAny_pure h₃))) λ_ _ x=>x)
 first
  | exact wpAny_pure (wpAny_bind fin)
  | exact wpAny_bind (wpAny_pure (wpAny_bind fin))
  | exact wpAny_bind fin
def Ao2 (td ty:TE):TE:=λσ H Q=>td σ H λx H1=>ty σ H1 λy H2=>∃ a v,x=.ref a/\AfM H2 a y (some v)/\Q v H2
def Apa (ty td:TE):TE:=λσ H Q=>ty σ H λy H1=>td σ H1 λx H2=>∃ a o,x=.ref a/\AfM H2 a y o/\Q (.bl o.isSome) H2
def Anx (ty td:TE):TE:=λσ H Q=>ty σ H λy H1=>td σ H1 λx H2=>∃ a o,x=.ref a/\AfM H2 a y o/\Q (.bl (!o.isSome)) H2
def Ao3 (td ty tv:TE):TS:=λD σ H=>tv σ H λv H1=>td σ H1 λx H2=>ty σ H2 λy H3=>∃ a H4,x=.ref a/\Am9 H3 a y v H4/\D.nx σ H4
def Ao4 (td ty tv:TE)(rd:V->V->Hp->VK->Prop):TS:=λD σ H=>td σ H λx H1=>ty σ H1 λy H2=>∃ a v,x=.ref a/\AfM H2 a y (some v) /\
 tv σ H2 λy2 H3=>rd v y2 H3 λz H4=>∃ H5,Am9 H4 a y z H5/\D.nx σ H5
def Ao5 (td ty:TE):TS:=λD σ H=>td σ H λx H1=>ty σ H1 λy H2=>∃ a kvs k,x=.ref a/\H2 a=some (.dK kvs)/\y=kV k/\(AfL kvs k).isSome=true/\D.nx σ (upd H2 a (.dK (Ahh kvs k)))
def AnW:TE:=λ_ H Q=>∀ p,H p=none->Q (.ref p) (upd H p (.dK []))
def AnX:TE:=λ_ H Q=>∀ p,H p=none->Q (.ref p) (upd H p (.dT []))
def AdV:List (TE × TE)->St->Hp->(List (V × V)->Hp->Prop)->Prop
 | [],_,H,Q=>Q [] H
 | (tk,tv)::r,σ,H,Q=>tk σ H λx H1=>tv σ H1 λy H2=>AdV r σ H2 λps H3=>Q ((x,y)::ps) H3
abbrev VV:List (V × V)->List (Value × Value)->Prop:=Paired λp q=>RelV p.1 q.1/\RelV p.2 q.2
def PPs (X:Cx)(pos:Pos)(keys:List (Option Expr))(values:List Expr)(trs:List (TE × TE)):Prop :=
 ∀(pins:List (Addr × Obj)) (s:Shared) (σ:St) (H:Hp) (Q:List (V × V)->Hp->Prop),Inv X pins σ H s->AdV trs σ H Q ->
  wpAny (model X.prog X.w) X.A (evalPairs (pairTrees keys values X.env pos)) (λvs s'=>∃ ps H',Inv X pins σ H' s'/\VV ps vs/\Q ps H') X.xe s
def Alh (kvs more:List (Key × V)):List (Key × V):=more.foldl (λacc kv=>putK acc kv.1 kv.2) kvs
def Ao6 (trs:List (TE × TE)):TE:=λσ H Q=>∀ p,H p=none->AdV trs σ (upd H p (.dK [])) λps H2=>H2 p=some (.dK [])/\∃ kvs:List (Key × V),ps=kvs.map (λkv=>(kV kv.1,kv.2))/\kvs.length<=15/\Q (.ref p) (upd H2 p (.dK (Alh [] kvs)))
structure M1 (X:Cx) (o:Expr) (m:Str) (apos:Pos) (e:Expr) (cpos:Pos):Prop where
 base:attributeBase o m X.env (eval o X.env)=eval o X.env
 few:((backTo cpos (starEach [e] X.env)).all (λx=>!x.1) && (backToKw cpos (keywordEach [] X.env)).all (λx=>x.1.isSome)
  && decide (([e]:List Expr).length+([]:List Keyword).length+(if ([]:List Keyword).isEmpty then 0 else 1)<30))=true
 line:(apos.endLine == cpos.line)=true
 trees:backTo cpos (starEach [e] X.env)=[(false,eval e X.env)]
structure M2 (X:Cx) (o:Expr) (m:Str) (apos:Pos) (e f:Expr) (cpos:Pos):Prop where
 base:attributeBase o m X.env (eval o X.env)=eval o X.env
 few:((backTo cpos (starEach [e,f] X.env)).all (λx=>!x.1) && (backToKw cpos (keywordEach [] X.env)).all (λx=>x.1.isSome)
  && decide (([e,f]:List Expr).length+([]:List Keyword).length+(if ([]:List Keyword).isEmpty then 0 else 1)<30))=true
 line:(apos.endLine == cpos.line)=true
 trees:backTo cpos (starEach [e,f] X.env)=[(false,eval e X.env),(false,eval f X.env)]
def IsD (H:Hp)(a:Addr):Prop:=(∃ kvs,Rd H a (.dK kvs))\/∃ kvs,Rd H a (.dT kvs)
def AnY (td ty:TE):TE:=λσ H Q=>td σ H λx H1=>∃ a,x=.ref a/\IsD H1 a/\ty σ H1 λy H2=>∃ o,AfM H2 a y o/\Q (o.getD .non) H2
def AnZ (td ty tx:TE):TE:=λσ H Q=>td σ H λx H1=>∃ a,x=.ref a/\IsD H1 a/\ty σ H1 λy H2=>tx σ H2 λz H3=>∃ o,AfM H3 a y o/\Q (o.getD z) H3
def Aoa (td ty:TE):TE:=λσ H Q=>td σ H λx H1=>∃ a,x=.ref a/\IsD H1 a/\ty σ H1 λy H2=>∃ kvs k v,H2 a=some (.dK kvs)/\y=kV k/\AfL kvs k=some v/\Q v (upd H2 a (.dK (Ahh kvs k)))
def Aob (td ty tx:TE):TE:=λσ H Q=>td σ H λx H1=>∃ a,x=.ref a/\IsD H1 a/\ty σ H1 λy H2=>tx σ H2 λz H3=>∃ kvs k,H3 a=some (.dK kvs)/\y=kV k /\
 (∀ v,AfL kvs k=some v->Q v (upd H3 a (.dK (Ahh kvs k))))/\(AfL kvs k=none->Q z H3)
open PySem PySem.Spec PySem.Calls PyProof.Rows PyProof.Rows.KTD
def Top (K:W.Frag)(a:Addr)(D:List (Str × Str)):Prop:=∀ h:Heap,K.In h->TextTab h a (D.map λp=>(p.1,Dat.flat (.str p.2)))
theorem Ali{K:W.Frag}{a:Addr}{D:List (Str × Str)}(hl:tabLook (datLooks λb=>K.lookup b) (λb=>K.lookup b) a (D.map λp=>(p.1,Dat.flat (.str p.2)))=true):Top K a D:=λh X=>text_of_look (λb o e=>X b o e) hl
def lk (D:List (Str × Str))(k:Str):Option Str:=(D.find? λp=>decide (p.1=k)).map (·.2)
theorem AaH(k:Str):∀ D:List (Str × Str),inKeys k (D.map λp=>(p.1,Dat.flat (.str p.2)))=(lk D k).isSome
 | []=>rfl
 | p::D=>by
  have ih:=AaH k D
  unfold lk at ih ⊢
  rw[Apw,List.find?_cons]
  by_cases c:p.1=k
  ·simp[inKeys,c]
  ·have c':¬k=p.1:=λz=>c z.symm
   simp[inKeys,c,c']
   simpa using ih
theorem Akv{k v:Str}:∀{D:List (Str × Str)},lk D k=some v->∃ d,datumAt k (D.map λp=>(p.1,Dat.flat (.str p.2)))=some d/\d=Dat.flat (.str v)
 | [],h=>by simp[lk] at h
 | p::D,h=>by
  unfold lk at h
  rw[List.find?_cons] at h
  by_cases c:p.1=k
  ·simp[c] at h
   subst h
   exact⟨_,by simp[datumAt,c],rfl⟩
  ·have c':¬k=p.1:=λz=>c z.symm
   simp only [c,decide_false] at h
   obtain⟨d,e1,e2⟩:=Akv (D:=D) h
   exact⟨d,by simp[datumAt,c',e1],e2⟩
def AfN (a:Addr)(D:List (Str × Str))(ty td:TE):TE:=λσ H Q=>ty σ H λy H1=>td σ H1 λx H2=>∃ k,y=.str k/\x=.ref a/\Q (.bl (!(lk D k).isSome)) H2
def Ajm (a:Addr)(D:List (Str × Str))(td ty:TE):TE:=λσ H Q=>td σ H λx H1=>ty σ H1 λy H2=>∃ k v,y=.str k/\x=.ref a/\lk D k=some v/\Q (.str v) H2
section
variable {X:Cx}{o i:Expr}{pos:Pos}{td ty:TE}{a:Addr}{D:List (Str × Str)}
theorem AcI(T:Top X.K a D)(hi:PE X i ty)(ho:PE X o td):PC X .NotIn i o (AfN a D ty td):=by
 intro pins s σ H Q I h
 refine thn (hi pins s σ H _ I h) λiv s1 ⟨y,H1,I1,ry,q1⟩=>thn (ho pins s1 σ H1 _ I1 q1) λu s2 ⟨x,H2,I2,rx,k,ey,ex,q2⟩=>?_
 subst ey ex
 obtain⟨tk,rfl⟩:=ry
 obtain rfl:u=Value.ref a:=rx
 refine notin_text (h₀:=s2.heap) ⟨T s2.heap I2.kIn,λb o e=>e⟩ ?_
 rw[AaH]
 exact⟨.bl _,H2,I2.tok _,rfl,q2⟩
theorem AcJ{A:Around}{E:Value->Shared->Prop}{s:Shared}{pins:List (Addr × Obj)}{σ:St}{H:Hp}{k v:Str}{tk:Tok}{Q:Value->Shared->Prop}(T:Top X.K a D)(I:Inv X pins σ H s)(e:lk D k=some v)(h:∀ t s',Inv X pins σ H s'->Q (.str v t) s') :
  wpAny (model X.prog X.w) A (getItem (.ref a) (.str k tk)) Q E s:=by
 have T':Here s.heap s.heap a (D.map λp=>(p.1,Dat.flat (.str p.2))):=⟨T s.heap I.kIn,λb o e=>e⟩
 unfold getItem
 try with_reducible refine wpAny_holding ?_
 refine wpAny_bind (wpAny_sequenceKey T'.typeIs (by decide) ?_)
 refine wpAny_bind (wpAny_callSpecial?_slot (name:=Str.ofString "__getitem__") T'.typeIs F.slot_dict_getitem
  (wpAny_call_entry F.slot_dict_getitem T'.typeIs F.entry_dict_getitem ?_ (args_dict_getitem _ _)))
 show wpAny _ _ (dictGet a (.str k tk) >>= _) _ _ s
 obtain⟨d,hd,ed⟩:=Akv e
 refine wpAny_bind (dictGet_text T' (λd' v' ha hv=>wpAny_pure ⟨v',rfl,wpAny_pure ?_⟩) λhn=>by rw[hd] at hn;cases hn)
 rw[hd] at ha
 cases ha
 subst ed
 exact Opened.of (P:=λx=>Q x _) (opened_str λt=>h t _ (I.tok _)) v' hv
theorem AfO(T:Top X.K a D)(ho:PE X o td)(hi:PE X i ty)(hs:AmA i):PE X (.Subscript o i pos) (Ajm a D td ty):=by
 intro pins s σ H Q I h
 refine Ajl F.slot_dict_getitem.lookup hs (thn (ho pins s σ H _ I h) λu s1 ⟨x,H1,I1,rx,q1⟩=>thn (hi pins s1 σ H1 _ I1 q1) λiv s2 ⟨y,H2,I2,ry,k,v,ey,ex,el,q2⟩=>?_)
 subst ex ey
 obtain rfl:u=Value.ref a:=rx
 obtain⟨tk,rfl⟩:=ry
 have T':Here s2.heap s2.heap a (D.map λp=>(p.1,Dat.flat (.str p.2))):=⟨T s2.heap I2.kIn,λb o e=>e⟩
 exact⟨T'.typeIs,AcJ T I2 el λt s3 I3=>⟨.str v,H2,I3,⟨t,rfl⟩,q2⟩⟩
end
def Ao7 (K:W.Frag)(no:Bool):R2:=λx y H Q=>∃(z:Str) (q:Addr) (ys:List Str),x=.str z/\y=.ref q/\SqT K H q (ys.map V.str)/\Q (.bl (no != ys.any (· == z))) H
def AmB (K:W.Frag)(a:Addr)(ys:List Str):Prop:=∀ H:Hp,SqT K H a (ys.map V.str)
theorem Ajn{K:W.Frag}{a:Addr}{o:Obj}{its:Array Value}{n:Nat}{ys:List Str}(e:K.lookup a=some o)(c:o.cls=.type "tuple") (d:o.data=.seq its n) (z:its.size<=sizeLine) (r:Vals (ys.map V.str) its.toList):AmB K a ys:=λ_=>.inr ⟨o,its,n,e,c,d,z,r⟩
structure Isa (K:W.Frag) (C:Addr):Prop where
 ha:W.findIn K (.ref C) "__class__" = some (some (.builtin "object.__class__"))
 hn:W.specialIn K (.builtin "object.__class__") "__get__" = some (some (.builtin "getset_descriptor.__get__"))
 htk:W.takesIn K (.builtin "object.__class__")=some true
 hm:W.mroIn K C (.type "object")=some true
theorem Isa.ty{K:W.Frag}{C a dx:Addr}{fs:List (Str × V)}{H:Hp}(h:Isa K C)(cl:Cls K C)(e:H a=some (.ins C dx fs)):Ti K H (.ref a) (.ref C):=.ins e cl h.ha h.hn h.htk h.hm
structure DfH (K:W.Frag) (x:Str) (st:Stmt) (f:Addr) (fd:FuncData):Prop where
 a:W.nsIn K mainGlobals x=some (some (.ref f))
 F:Fun K x x st f fd
structure MfH (K:W.Frag) (x q:Str) (st:Stmt) (C f:Addr) (fd:FuncData):Prop where
 m:W.findIn K (.ref C) x=some (some (.ref f))
 g:W.isFn K (.ref f)=true
 F:Fun K x q st f fd
structure ClH (K:W.Frag) (x:Str) (C:Addr):Prop where
 n:W.nsIn K mainGlobals x=some (some (.ref C))
 o1:W.plainGet K C Str.empty=true
 o2:W.hasDictIn K C=true
 o3:W.plainOver K C=true
 o4:W.findIn K (.ref C) "__setattr__" = some (some (.builtin "object.__setattr__"))
 o5:W.makesIn K C=true
 o8:W.keepIn K (.ref C)=true
structure IsH (K:W.Frag) (C B:Addr):Prop where
 v1:W.findIn K (.ref C) "__class__" = some (some (.builtin "object.__class__"))
 v4:W.mroIn K C (.type "object")=some true
structure ExH (K:W.Frag) (x:Str) (C:Addr):Prop where
 n:W.nsIn K mainGlobals x=some (some (.ref C))
 y2:W.findIn K (.ref C) "__getattribute__" = some (some (.builtin "BaseException.__getattribute__"))
 y3:W.findIn K (.ref C) "__getattr__" = some none
 y4:W.findIn K (.ref C) "__class__" = some (some (.builtin "object.__class__"))
 y7:W.mroIn K C (.type "object")=some true
 y8:W.mroIn K C (.type "BaseException")=some true
 y9:W.isClsIn K C=true
 y10:W.typeIn K (.ref C)=some (.type "type")
 y11:W.mroIn K C (.type "ValueError")=some true
section
variable {K:W.Frag}{mg:Str->Option Value}{h:Heap}
theorem DfH.df{x:Str}{st:Stmt}{f:Addr}{fd:FuncData}{ps:List Str}(D:DfH K x st f fd)(X:K.In h)(G:h.Ns mainGlobals mg)
  (hb:∀ kV dc pm an cd ct us,us.length=ps.length->bindArgs (W.fnOf x x (QT st) (K5 st) (Ah st) .none kV dc pm an cd ct) ⟨us,[]⟩=pure (ps.zip us)):Df K mg x st ps f fd:=⟨D.F,W.mg_of X G D.a,D.F.binds hb⟩
theorem MfH.meth{x q:Str}{st:Stmt}{C f:Addr}{fd:FuncData}(D:MfH K x q st C f fd):Meth K C x f:=⟨D.m,D.g,D.F.2⟩
theorem MfH.mf{x q:Str}{st:Stmt}{C f:Addr}{fd:FuncData}{ps:List Str}(D:MfH K x q st C f fd)
  (hb:∀ kV dc pm an cd ct us,us.length=ps.length->bindArgs (W.fnOf x q (QT st) (K5 st) (Ah st) .none kV dc pm an cd ct) ⟨us,[]⟩=pure (ps.zip us)):Mf K x q st ps C f fd:=⟨D.F,D.meth,D.F.binds hb⟩
structure DfA (K:W.Frag) (mg:Str->Option Value) (x y:Str) (st:Stmt) (ps:List Str) (f:Addr) (fd:FuncData):Prop where
 F:Fun K y y st f fd
 m:mg x=some (.ref f)
 b:Binds K fd ps []
theorem sc9{N P:List Str}{sc:Scope}(h:sc.kind=.function/\sc.isCoroutine=false/\sc.isGenerator=false/\N.take P.length=P:=by exact⟨rfl,rfl,rfl,rfl⟩)
  (g:N.Nodup/\(∀ x∈P,sc.names.lookup x=some .local\/sc.names.lookup x=some .cell)/\∀ y∈sc.names,y.2≠.free:=by decide +kernel):Aw N P sc:=⟨h.1,h.2.1,h.2.2.1,g.1,h.2.2.2,g.2.1,g.2.2⟩
end
section
variable {X:Cx}{tg:Expr}
def Aoc (ta:TA):TI:=λσ H R=>ta σ H λvs H1=>∃ i j:Int,vs=[.int i,.int j]/\R (Itr i (j-i).toNat) H1
end
section
variable {X:Cx}
theorem AcK(l:List Nat):∀(k:Nat) (acc:List Nat),List.foldl (λx1 x2=>x1++x2) acc.toArray (List.replicate k l.toArray)=(acc++(List.replicate k l).flatten).toArray
 | 0,acc=>by simp
 | k+1,acc=>by
  have e:acc.toArray++l.toArray=(acc++l).toArray:=by simp
  have e2:(acc++l)++(List.replicate k l).flatten=acc++(List.replicate (k+1) l).flatten:=by
   rw[ApM,ApH,ApN]
  rw[<- e2,<- AcK l k (acc++l),<- e,ApM,Aq1]
def AmC:R2:=λx y H Q=>∃ u n,x=.str (tx u)/\y=.int n/\0<=n/\n<=1000000/\u.length*n.toNat<=sizeLine/\Q (.str (tx (List.replicate n.toNat u).flatten)) H
theorem K6:OpR X (binaryOp .Mult) AmC:=by
 intro pins s σ H x y v z Q I rx ry h
 obtain⟨u,n,rfl,rfl,h0,h1,h2,q⟩:=h
 obtain⟨t,rfl⟩:=rx
 obtain⟨t',rfl⟩:=ry
 have hsz:sizeLine=16777216:=sizeLine_eq
 have hlen:(tx u).length=u.length:=Ai u
 refine P.mul_str ?_ (λc1 c2=>?_) (λc1 c2=>?_) ?_
 ·rw[decide_eq_false (by omega),decide_eq_false (by omega)]
  rfl
 ·rw[hlen]
  have hn:0<n:=by omega
  have hm:(u.length:Int)*n<=16777216:=by
   have e:n=(n.toNat:Int):=by omega
   rw[e,<- ApL]
   omega
  have:(u.length:Int)<=(2 ^ 63-1) / n:=(Int.le_ediv_iff_mul_le hn).mpr (by omega)
  omega
 ·rw[hlen]
  exact decide_eq_false (by omega)
 ·split
  ·next c =>
   have e:n=0:=by omega
   rw[e] at q
   exact⟨by decide,.str (tx []),H,I.tok _,⟨_,rfl⟩,q⟩
  ·split
   ·next c =>
    have e:tx (List.replicate n.toNat u).flatten=tx u:=by
     simp only [Bool.or_eq_true,beq_iff_eq] at c
     rcases c with c | c
     ·rw[c];simp
     ·rw[hlen] at c
      rw[AqR c]
      simp
    rw[e] at q
    exact⟨.str (tx u),H,I,⟨_,rfl⟩,q⟩
   ·have hf:(⟨(List.replicate n.toNat (tx u).cps).foldl (·++·) #[]⟩:Str)=tx (List.replicate n.toNat u).flatten:=by
     have:=AcK u n.toNat []
     simp only [Aq3] at this
     exact congrArg Str.mk this
    rw[hf]
    refine⟨?_,.str (tx (List.replicate n.toNat u).flatten),H,I.tok _,⟨_,rfl⟩,q⟩
    rw[Ai,len_rep,Aqg]
    exact h2
def Aod:V->List V->Hp->VK->Prop:=λx vs H Q=>∃ u c,x=.str (tx u)/\vs=[.str ⟨#[c]⟩]/\Q (.int (u.count c:Nat)) H
end
section
variable {X:Cx}{K:W.Frag}
def Ao8 (K:W.Frag):List V->Hp->VK->Prop:=λvs H Q=>∃(a C p:Addr) (Ds:List Addr) (b:Bool),vs=[.ref a,.ref p]/\H a=some (exH C a)/\ExC K C/\H p=some (.tup (Ds.map V.ref))/\W.kitAny K (.ref C) (Ds.map Value.ref)=some b/\Q (.bl b) H
end
theorem Inv.QW{X:Cx}{pins:List (Addr × Obj)}{σ:St}{H:Hp}{s:Shared}{h':Heap}{t':Nat}{its:List Addr}(I:Inv X pins σ H s)
  (k:∀ b o,b∉its->s.heap.get? b=some o->h'.get? b=some o) (hf:∀ b∈its,Hr X pins H b):Inv X pins σ H { s with heap:=h',toks:=t' }:=by
 have nit:∀ b u,H b=some u->b∉its:=λb u e z=>by
  have:=(hf b z).1
  rw[this] at e
  cases e
 have nL:X.env.locals∉its:=λz=>(hf _ z).2.1 rfl
 refine I.step (g':=s.gens) (d':=s.drawn) (ch:=its) (λb hb=>?_) (λb o _ _ hc e _=>k b o hc e) (λb o _ _ hc e _=>⟨o.slots,k b o hc e⟩) (λ_ _ _ _ n=>n)
  (λb o hc e=>⟨o,k b o hc e⟩) (λ_ _ e=>e) (λ_ _ _ e=>e) (λb ps e=>⟨#[],by rw[e];simp⟩) (λm hm=>?_) (λb u e=>?_) I.bare
 ·obtain⟨_,h2,_,h4,h5,h6⟩:=hf b hb
  exact⟨h4,h2,h5,h6⟩
 ·obtain⟨o,es,ep,ho,r⟩:=hm
  exact⟨o,es,ep,k _ o nL ho,r⟩
 ·refine(I.hok b u e).stay (λc v hc q=>k c v ?_ q) (λ_ q=>q) λ_ _ q=>q
  rcases hc with z | z
  ·rw[z];exact nit b u e
  ·exact nit c _ z
def Itz (K:W.Frag)(a b:Addr):It where
 go:=λi H=>∃ xs ys x y,SqL K H a xs/\SqL K H b ys/\xs[i]?=some x/\ys[i]?=some y
 yld:=λi H x H'=>∃ T,x=.ref T/\H T=none/\∀ xs ys u v,SqL K H a xs->SqL K H b ys->xs[i]?=some u->ys[i]?=some v->H'=upd H T (.tup [u,v])
 stop:=λi H=>∃ xs ys,SqL K H a xs/\SqL K H b ys/\(xs.length<=i\/ys.length<=i)
def AmD (z TI TO i1 i2 a b:Addr)(i:Nat)(h:Heap):Prop:=IsZip h z TI TO .none/\IsPair h TI (.ref i1) (.ref i2)/\(∃ p q,IsPair h TO p q)/\h.IsListIter i1 a i/\h.IsListIter i2 b i
theorem Ahi{P:Program}{w:World}{K:W.Frag}{es:List Expr}{kx:Nat}{tp:Pos}{z TI TO i1 i2 a b:Addr}(D:ZipApart z TI TO i1 i2 a b) :
  Turn P w K (.Tuple es kx tp) (Itz K a b) [z,TI,TO,i1,i2] z (AmD z TI TO i1 i2 a b) where
 mem:=by simp
 obj:=λi h st c hc=>by
  obtain⟨s1,s2,⟨p,q,s3⟩,s4,s5⟩:=st
  simp only [ApA,ApB,or_false] at hc
  rcases hc with e | e | e | e | e
  ·subst e;exact⟨_,s1,λv z=>by cases (show Data.fields _=Data.cell v from z)⟩
  ·subst e;exact⟨_,s2,λv z=>by cases (show Data.seq _ _=Data.cell v from z)⟩
  ·subst e;exact⟨_,s3,λv z=>by cases (show Data.seq _ _=Data.cell v from z)⟩
  ·subst e;obtain⟨o,e,_,d⟩:=s4;exact⟨o,e,λv z=>by rw[d] at z;cases z⟩
  ·subst e;obtain⟨o,e,_,d⟩:=s5;exact⟨o,e,λv z=>by rw[d] at z;cases z⟩
 keep:=λi h h' st k=>by
  obtain⟨s1,s2,⟨p,q,s3⟩,s4,s5⟩:=st
  exact⟨k _ (by simp) _ s1,k _ (by simp) _ s2,⟨p,q,k _ (by simp) _ s3⟩,s4.at λo e=>k _ (by simp) o e,s5.at λo e=>k _ (by simp) o e⟩
 item:=by
  intro X hP hw hK hc i pins s σ H E I hf st hg
  subst hP hw hK
  obtain⟨xs,ys,x,y,hq1,hq2,hx,hy⟩:=hg
  obtain⟨Xd,rv1,p1,_⟩:=I.list hq1
  obtain⟨its2,rv2,p2,_⟩:=I.list hq2
  obtain⟨u,hu,ru⟩:=rv1.get hx
  obtain⟨v,hv,rw'⟩:=rv2.get hy
  obtain⟨s1,s2,⟨p,q,s3⟩,s4,s5⟩:=st
  refine wpAny_pyNext_zip_item D s1 s2 s3 s4 s5 p1.isList p2.isList (x:=u) (y:=v) (by simpa using hu) (by simpa using hv) λh1 z1 t1 j1 j2 hT hsz kk=>?_
  refine⟨_,rfl,wpAny_letOwnedTupleGo_zip z1 λh2 z2 sb=>?_⟩
  have zl:z<s.heap.objs.size:=Heap.lt_size s1
  have TIl:TI<s.heap.objs.size:=Heap.lt_size s2
  have TOl:TO<s.heap.objs.size:=Heap.lt_size s3
  have i1l:i1<s.heap.objs.size:=by obtain⟨_,e,_⟩:=s4;exact Heap.lt_size e
  have i2l:i2<s.heap.objs.size:=by obtain⟨_,e,_⟩:=s5;exact Heap.lt_size e
  have up:∀ c o,c≠z->h1.get? c=some o->h2.get? c=some o:=λc o c1 e=>(sb.2 c c1).trans e
  have hTn:H s.heap.objs.size=none:=I.hok.fresh (Apv _)
  have I1:Inv X pins σ (upd H s.heap.objs.size (.tup [x,y])) { s with heap:=s.heap.push { cls:=.type "tuple", data:=.seq #[u,v] },toks:=s.toks } :=
   I.laid (λc o e=>Heap.get?_push_of_some _ e) (Apv _) ⟨by show 2<=sizeLine;decide,[u,v],.cons ru (.cons rw' .nil),⟨_,Heap.get?_push_size _ rfl,rfl,_,rfl⟩⟩
  have fp2:∀ c∈[z,TI,TO,i1,i2],Hr X pins (upd H s.heap.objs.size (.tup [x,y])) c:=λc hc=>by
   obtain⟨f0,f⟩:=hf c hc
   refine⟨?_,f⟩
   have lt:c<s.heap.objs.size:=by
    simp only [ApA,ApB,or_false] at hc
    rcases hc with e | e | e | e | e <;> subst e <;> assumption
   rw[Ao (Apy lt)]
   exact f0
  have I2:Inv X pins σ (upd H s.heap.objs.size (.tup [x,y])) { s with heap:=h2 }:=by
   refine Inv.QW (s:={ s with heap:=s.heap.push { cls:=.type "tuple", data:=.seq #[u,v] },toks:=s.toks }) (h':=h2) (t':=s.toks) (its:=[z,TI,TO,i1,i2]) I1 (λc o hc e=>?_) fp2
   simp only [ApA,ApB,or_false,not_or] at hc
   refine up c o hc.1 ?_
   by_cases hcs:c=s.heap.objs.size
   ·subst hcs
    have e':(s.heap.push { cls:=.type "tuple", data:=.seq #[u,v] }).get? s.heap.objs.size=some { cls:=.type "tuple", data:=.seq #[u,v] }:=Heap.get?_push_size _ rfl
    rw[e'] at e
    cases e
    exact hT
   ·have e':s.heap.get? c=some o:=by
     rw[<- e]
     exact(Heap.get?_push_ne _ _ _ hcs).symm
    exact kk c o hc.1 hc.2.2.1 hc.2.2.2.1 hc.2.2.2.2 e'
  refine⟨.ref s.heap.objs.size,_,I2,rfl,⟨s.heap.objs.size,rfl,hTn,λxs' ys' u' v' a1 a2 a3 a4=>?_⟩,⟨z2,up _ _ D.TIz (kk _ _ D.TIz D.TITO D.TIi1 D.TIi2 s2),⟨u,v,up _ _ D.TOz t1⟩,j1.at λo e=>up _ o D.i1z e,j2.at λo e=>up _ o D.i2z e⟩,λc hc=>(fp2 c hc).1⟩
  rw[I.JR a1 hq1,hx] at a3
  rw[I.JR a2 hq2,hy] at a4
  cases a3
  cases a4
  rfl
 done:=by
  intro X hP hw hK hc i pins s σ H E I hf st hg
  subst hP hw hK
  obtain⟨xs,ys,hq1,hq2,hend⟩:=hg
  obtain⟨Xd,rv1,p1,_⟩:=I.list hq1
  obtain⟨its2,rv2,p2,_⟩:=I.list hq2
  have l1:=rv1.length
  have l2:=rv2.length
  obtain⟨s1,s2,⟨p,q,s3⟩,s4,s5⟩:=st
  refine wpAny_pyNext_zip_end (I.ok.hd hc) D s1 s2 s3 s4 s5 p1.isList p2.isList ?_ λh' kk=>⟨rfl,I.QW (t':=s.toks) (its:=[z,TI,TO,i1,i2]) (λc o hc e=>?_) hf⟩
  ·rcases hend with e | e
   ·exact .inl (by simp;omega)
   ·exact .inr (by simp;omega)
  ·simp only [ApA,ApB,or_false,not_or] at hc
   exact kk c o hc.1 hc.2.2.1 hc.2.2.2.1 hc.2.2.2.2 e
 self:=λ_ _ _ _ _ st h=>wpAny_pyIter_zip st.1 h
section
variable {X:Cx}{es:List Expr}{kx:Nat}{tp:Pos}
def Aoe (K:W.Frag)(ta:TA):TI:=λσ H R=>ta σ H λvs H1=>∃ a b,vs=[.ref a,.ref b]/\(∃ xs,SqL K H1 a xs)/\(∃ ys,SqL K H1 b ys)/\R (Itz K a b) H1
theorem Ahj{K:W.Frag}{a b:Expr}{ta:TA}{p pos:Pos}(hg:Gl X "zip") (hm:X.mg "zip" = none) (ha:PA X [a,b] ta) (hK:X.K=K:=by rfl) (hs:starEach [a,b] X.env=[(false,eval a X.env),(false,eval b X.env)]:=by rfl) (hs2:starEach [b] X.env=[(false,eval b X.env)]:=by rfl) :
  PI X (.Tuple es kx tp) (.Call (.Name "zip" p) [a,b] [] pos) (Aoe K ta):=by
 subst hK
 intro pins s σ H R I h
 refine Call_ (HW I hg hm AgZ (PyProof.Rows.callWith_type1 (thn (ha pos pins s σ H _ I h) λus s1 ⟨vs,H1,I1,r1,q1⟩=>?_) (by rw[hs,hs2]) (by rw[hs2];rfl)))
 obtain⟨a,b,e,⟨xs,hq1⟩,⟨ys,hq2⟩,q⟩:=q1
 subst e
 cases r1 with
 | cons r rr =>
  cases rr with
  | cons r' rr =>
   cases rr
   cases r
   cases r'
   obtain⟨Xd,rv1,p1,_⟩:=I1.list hq1
   obtain⟨its2,rv2,p2,_⟩:=I1.list hq2
   obtain⟨o1,e1,_⟩:=id p1.isList
   obtain⟨o2,e2,_⟩:=id p2.isList
   refine call_zip_2 p1.isList p2.isList λh' hz hTI hTO j1 j2 hsz kk=>wpAny_pyIter_zip hz ?_
   refine⟨_,[s1.heap.objs.size+4,s1.heap.objs.size+2,s1.heap.objs.size+3,s1.heap.objs.size,s1.heap.objs.size+1],_,_,H1,rfl,I1.kept (t':=s1.toks) kk,Ahi (zipApart_new (Heap.lt_size e1) (Heap.lt_size e2)),
    ⟨hz,hTI,⟨_,_,hTO⟩,j1,j2⟩,λc hc=>?_,q⟩
   have le:s1.heap.objs.size<=c:=by
    simp only [ApA,ApB,or_false] at hc
    rcases hc with e | e | e | e | e <;> subst e <;> omega
   exact I1.AdH le (I1.hok.fresh le)
theorem AeM{K:W.Frag}{a b:Addr}{xs ys:List V}{g:TG}{tb:TS}{D:Ends}{σ:St}{H:Hp}{n:Nat}(hn:n=min xs.length ys.length)(Pv:Nat->St->Hp->Prop)(h0:Pv 0 σ H)(hl:∀ i σ H,Pv i σ H->SqL K H a xs/\SqL K H b ys)
  (hs:∀ i x y σ H T,xs[i]?=some x->ys[i]?=some y->Pv i σ H->H T=none->g (.ref T) σ (upd H T (.tup [x,y])) λσ2 H2=>tb { D with nx:=Pv (i+1),ct:=Pv (i+1),bk:=D.nx } σ2 H2) (hd:∀ σ H,Pv n σ H->D.nx σ H) :
  ∃ W:Nat->Nat->St->Hp->Prop,(∃ m,W 0 m σ H)/\∀ i m σ H,W i m σ H ->
   ((Itz K a b).stop i H/\D.nx σ H)\/((Itz K a b).go i H/\∃ N:St->Hp->Prop,(∀ σ' H',N σ' H'->∃ m',m'<m/\W (i+1) m' σ' H')/\∀ x H',(Itz K a b).yld i H x H'->g x σ H' λσ2 H2=>tb { D with nx:=N,ct:=N,bk:=D.nx } σ2 H2):=by
 refine⟨λi m σ H=>m=n-i/\i<=n/\Pv i σ H,⟨n,by simp,Ap8 _,h0⟩,?_⟩
 rintro i m σ H ⟨rfl,hi,p⟩
 obtain⟨q1,q2⟩:=hl i σ H p
 by_cases hlt:i<n
 ·have x1:i<xs.length:=by omega
  have y1:i<ys.length:=by omega
  refine .inr ⟨⟨xs,ys,xs[i],ys[i],q1,q2,Apu x1,Apu y1⟩,Pv (i+1),λσ' H' p'=>⟨n-(i+1),by omega,rfl,hlt,p'⟩,λx H' y=>?_⟩
  obtain⟨T,rfl,hT,y⟩:=y
  have e:=y xs ys _ _ q1 q2 (Apu x1) (Apu y1)
  subst e
  exact hs i _ _ σ H T (Apu x1) (Apu y1) p hT
 ·have e:i=n:=by omega
  subst e
  exact .inl ⟨⟨xs,ys,q1,q2,by omega⟩,hd σ H p⟩
end
section
variable {X:Cx}{K:W.Frag}
def Apb (K:W.Frag):R2:=λx y H Q=>∃ p q xs ys,x=.ref p/\y=.ref q/\SqL K H p xs/\SqL K H q ys/\xs.all Jh=true/\ys.all Jh=true/\Q (.bl (!eqL xs ys)) H
end
theorem GK.AcL{k:Nat}{A:Around}(r:GK k A):A.units+100<cLine:=by have:=r.un;omega
def AmE (K:W.Frag)(H:Hp)(p q:Addr):Prop:=∃ as bs:List Addr,SqL K H p (as.map V.ref)/\SqL K H q (bs.map V.ref)/\as.length=bs.length /\
 ∀(i:Nat) (a b:Addr),as[i]?=some a->bs[i]?=some b->∃ xs:List V,xs.all Jh=true/\SqL K H a xs/\SqL K H b xs
section
variable {X:Cx}{K:W.Frag}
def Ao9 (K:W.Frag):R2:=λx y H Q=>∃ p q,x=.ref p/\y=.ref q/\AmE K H p q/\Q (.bl false) H
def AoA (K:W.Frag):R2:=λx y H Q=>∃ p q,x=.ref p/\y=.ref q/\AmE K H p q/\Q (.bl true) H
end
def Apc (K:W.Frag):R2:=λx y H Q=>∃(p q:Addr) (as:List Addr) (ks:List Int),x=.ref p/\y=.ref q/\SqL K H q (as.map V.ref)/\SqT K H p (vI ks) /\
 (∀ a∈as,∃ js:List Int,SqT K H a (vI js))/\(∃ a∈as,SqT K H a (vI ks))/\Q (.bl true) H
section
variable {prog:Program}{w:World}{A:Around}{E:Value->Shared->Prop}{s:Shared}
theorem Ahk(hh:A.handled=none)(it:Addr)(x:Str)(t:Tok):Draws prog w A it [it] x.cps.size (λi v=>∃ c u,x.cps[i]?=some c/\v=.str ⟨#[c]⟩ u) (λi h=>h.IsStrIter it (strIterType x) x t i):=by
 unfold strIterType
 split
 ·exact Draws.strAscii hh it x t
 ·exact Draws.strWide hh it x t
structure V2 (z TI TO i1 i2:Addr):Prop where
 TIz:TI≠z
 TOz:TO≠z
 i1z:i1≠z
 i2z:i2≠z
 TITO:TI≠TO
 TIi1:TI≠i1
 TIi2:TI≠i2
 TOi1:TO≠i1
 TOi2:TO≠i2
 i12:i1≠i2
theorem AfP{z TI TO i1 i2:Addr}{fp1 fp2:List Addr}{n1 n2 k:Nat}{P1 P2:Nat->Value->Prop}{S1 S2:Nat->Heap->Prop}{a b:Value}{Q:Value->Shared->Prop}(D:V2 z TI TO i1 i2)
  (D1:∀ A':Around,A'.handled=none->Draws prog w A' i1 fp1 n1 P1 S1) (D2:∀ A':Around,A'.handled=none->Draws prog w A' i2 fp2 n2 P2 S2) (hh:A.handled=none)
  (f1:∀ c∈fp1,c≠z/\c≠TO/\c≠i2) (f2:∀ c∈fp2,c≠z/\c≠TO/\c≠i1)
  (hz:IsZip s.heap z TI TO .none) (hTI:IsPair s.heap TI (.ref i1) (.ref i2)) (hTO:IsPair s.heap TO a b) (h1:S1 k s.heap) (h2:S2 k s.heap) (lt1:k<n1) (lt2:k<n2)
  (hQ:∀ x y h' tk,P1 k x->P2 k y->IsZip h' z TI TO (rawInt s.heap.objs.size)->IsPair h' TO x y->S1 (k+1) h'->S2 (k+1) h'->IsPair h' s.heap.objs.size x y->h'.objs.size=s.heap.objs.size+1 ->
   (∀ c o,c≠z->c≠TO->c≠i1->c≠i2->s.heap.get? c=some o->h'.get? c=some o)->Q (.ref s.heap.objs.size) { s with heap:=h',toks:=tk }) :
  wpAny (model prog w) A (Builtin.«zip.__next__» ⟨[.ref z],[]⟩) (λfin s'=>∃ v,fin=.done (.ret v)/\Q v s') E s:=by
 show wpAny _ _ (field (.ref z) 2 >>= _) _ _ _
 refine wpAny_bind (wpAny_field hz rfl (x:=.bool false) rfl ?_)
 show wpAny _ _ (field (.ref z) 3 >>= _) _ _ _
 refine wpAny_bind (wpAny_field hz rfl (x:=.ref TI) rfl ?_)
 refine wpAny_bind (wpAny_seqItems hTI rfl ?_)
 show wpAny _ _ (Builtin.SmallTypes.ownedTupleIsFree (.ref z) >>= _) _ _ _
 refine wpAny_bind ?_
 unfold Builtin.SmallTypes.ownedTupleIsFree
 refine wpAny_bind (wpAny_field hz rfl (x:=.none) rfl (wpAny_pure ?_))
 simp only [if_true]
 refine wpAny_bind (wpAny_rule ?_)
 refine wpAny_bind (wpAny_field hz rfl (x:=.ref TO) rfl ?_)
 refine wpAny_bind (wpAny_setField_rec hz (by simp) λh₁ hz₁ hs₁=>?_)
 replace hz₁:IsZip h₁ z TI TO .ellipsis:=hz₁
 refine wpAny_bind ?_
 simp only [List.zipIdx_cons,List.zipIdx_nil,Aq4,List.forIn_nil]
 refine wpAny_bind (wpAny_bind (wpAny_onRaise ?_))
 show wpAny _ _ (Builtin.SmallTypes.nextOf (.ref i1) >>= _) _ _ _
 refine wpAny_bind ((D1 _ hh).item k _ _ _ lt1 ((D1 A hh).frame _ _ _ h1 λc hc o e=>hs₁.extBut _ _ (f1 c hc).1 e) λx h₂ tk₂ px h1₂ hs₂=>wpAny_pure ?_)
 have hs₂:Heap.SameBut i1 h₁ h₂:=hs₂
 have hTO₂:IsPair h₂ TO a b:=hs₂.extBut _ _ D.TOi1 (hs₁.extBut _ _ D.TOz hTO)
 refine wpAny_bind (wpAny_seqItems hTO₂ rfl ?_)
 refine wpAny_bind (wpAny_updateSeq_pair hTO₂ λh₃ hTO₃ hs₃=>?_)
 have hs₃:Heap.SameBut TO h₂ h₃:=hs₃
 replace hTO₃:IsPair h₃ TO x b:=hTO₃
 refine wpAny_bind (wpAny_letGo (wpAny_pure ?_))
 refine wpAny_bind (wpAny_bind (wpAny_onRaise ?_))
 show wpAny _ _ (Builtin.SmallTypes.nextOf (.ref i2) >>= _) _ _ _
 refine wpAny_bind ((D2 _ hh).item k _ _ _ lt2 ((D2 A hh).frame _ _ _ h2 λc hc o e=>hs₃.extBut _ _ (f2 c hc).2.1 (hs₂.extBut _ _ (f2 c hc).2.2 (hs₁.extBut _ _ (f2 c hc).1 e))) λy h₄ tk₄ py h2₄ hs₄=>wpAny_pure ?_)
 have hs₄:Heap.SameBut i2 h₃ h₄:=hs₄
 have hTO₄:IsPair h₄ TO x b:=hs₄.extBut _ _ D.TOi2 hTO₃
 refine wpAny_bind (wpAny_seqItems hTO₄ rfl ?_)
 refine wpAny_bind (wpAny_updateSeq_pair hTO₄ λh₅ hTO₅ hs₅=>?_)
 have hs₅:Heap.SameBut TO h₄ h₅:=hs₅
 replace hTO₅:IsPair h₅ TO x y:=hTO₅
 refine wpAny_bind (wpAny_letGo (wpAny_pure (wpAny_pure ?_)))
 refine wpAny_bind (wpAny_seqItems hTO₅ rfl ?_)
 refine wpAny_bind (wpAny_newTuple ?_)
 have hsz:h₅.objs.size=s.heap.objs.size:=by rw[hs₅.1,hs₄.1,hs₃.1,hs₂.1,hs₁.1]
 have hz₅:IsZip h₅ z TI TO .ellipsis:=hs₅.extBut _ _ D.TOz.symm (hs₄.extBut _ _ D.i2z.symm (hs₃.extBut _ _ D.TOz.symm (hs₂.extBut _ _ D.i1z.symm hz₁)))
 have hk₅:∀ c o,c≠z->c≠TO->c≠i1->c≠i2->s.heap.get? c=some o->h₅.get? c=some o:=λc o c1 c2 c3 c4 e =>
  hs₅.extBut _ _ c2 (hs₄.extBut _ _ c4 (hs₃.extBut _ _ c2 (hs₂.extBut _ _ c3 (hs₁.extBut _ _ c1 e))))
 have h1₅:S1 (k+1) h₅:=(D1 A hh).frame _ _ _ h1₂ λc hc o e=>hs₅.extBut _ _ (f1 c hc).2.1 (hs₄.extBut _ _ (f1 c hc).2.2 (hs₃.extBut _ _ (f1 c hc).2.1 e))
 have h2₅:S2 (k+1) h₅:=(D2 A hh).frame _ _ _ h2₄ λc hc o e=>hs₅.extBut _ _ (f2 c hc).2.1 e
 have hzlt:z<h₅.objs.size:=Heap.lt_size hz₅
 show wpAny _ _ (Builtin.SmallTypes.ownedTupleHandOut (.ref z) (.ref h₅.objs.size) >>= _) _ _ _
 refine wpAny_bind ?_
 unfold Builtin.SmallTypes.ownedTupleHandOut
 have hz₆:IsZip (h₅.push { cls:=.type "tuple", data:=.seq #[x,y] }) z TI TO .ellipsis:=Heap.get?_push_of_some _ hz₅
 refine wpAny_bind (wpAny_setField_rec hz₆ (by simp) λh₇ hz₇ hs₇=>?_)
 replace hz₇:IsZip h₇ z TI TO (rawInt h₅.objs.size):=hz₇
 refine wpAny_setField_rec hz₇ (by simp) λh₈ hz₈ hs₈=>?_
 replace hz₈:IsZip h₈ z TI TO (rawInt h₅.objs.size):=hz₈
 have up:∀ c o,c≠z->h₅.get? c=some o->h₈.get? c=some o:=λc o c1 e=>hs₈.extBut _ _ c1 (hs₇.extBut _ _ c1 (Heap.get?_push_of_some _ e))
 have hT₈:IsPair h₈ h₅.objs.size x y:=hs₈.extBut _ _ (Aqd hzlt) (hs₇.extBut _ _ (Aqd hzlt) (Heap.get?_push_size _ rfl))
 have hz8:h₈.objs.size=h₅.objs.size+1:=by rw[hs₈.1,hs₇.1,Heap.size_push]
 rw[hsz] at hz₈ hT₈ hz8
 refine wpAny_pure ⟨_,rfl,?_⟩
 show Q (.ref h₅.objs.size) _
 rw[hsz]
 exact hQ x y h₈ tk₄ px py hz₈ (up _ _ D.TOz hTO₅) ((D1 A hh).frame _ _ _ h1₅ λc hc o e=>up _ o (f1 c hc).1 e) ((D2 A hh).frame _ _ _ h2₅ λc hc o e=>up _ o (f2 c hc).1 e) hT₈ hz8 λc o c1 c2 c3 c4 e=>up c o c1 (hk₅ c o c1 c2 c3 c4 e)
theorem Ahl{z TI TO i1 i2:Addr}{fp1 fp2:List Addr}{n1 n2 k:Nat}{P1 P2:Nat->Value->Prop}{S1 S2:Nat->Heap->Prop}{a b:Value}{Q:Fin->Shared->Prop}(D:V2 z TI TO i1 i2)
  (D1:∀ A':Around,A'.handled=none->Draws prog w A' i1 fp1 n1 P1 S1) (D2:∀ A':Around,A'.handled=none->Draws prog w A' i2 fp2 n2 P2 S2) (hh:A.handled=none)
  (f1:∀ c∈fp1,c≠z/\c≠TO/\c≠i2) (f2:∀ c∈fp2,c≠z/\c≠TO/\c≠i1)
  (hz:IsZip s.heap z TI TO .none) (hTI:IsPair s.heap TI (.ref i1) (.ref i2)) (hTO:IsPair s.heap TO a b) (h1:S1 k s.heap) (h2:S2 k s.heap) (hend:k=n1\/(k<n1/\k=n2))
  (hE:∀ h' e tk,(∀ c o,c≠z->c≠TO->c≠i1->c≠i2->s.heap.get? c=some o->h'.get? c=some o)->(∃ o,h'.get? e=some o/\o.cls=.type "StopIteration")->E (.ref e) { s with heap:=h',toks:=tk }) :
  wpAny (model prog w) A (Builtin.«zip.__next__» ⟨[.ref z],[]⟩) Q E s:=by
 show wpAny _ _ (field (.ref z) 2 >>= _) _ _ _
 refine wpAny_bind (wpAny_field hz rfl (x:=.bool false) rfl ?_)
 show wpAny _ _ (field (.ref z) 3 >>= _) _ _ _
 refine wpAny_bind (wpAny_field hz rfl (x:=.ref TI) rfl ?_)
 refine wpAny_bind (wpAny_seqItems hTI rfl ?_)
 show wpAny _ _ (Builtin.SmallTypes.ownedTupleIsFree (.ref z) >>= _) _ _ _
 refine wpAny_bind ?_
 unfold Builtin.SmallTypes.ownedTupleIsFree
 refine wpAny_bind (wpAny_field hz rfl (x:=.none) rfl (wpAny_pure ?_))
 simp only [if_true]
 refine wpAny_bind (wpAny_rule ?_)
 refine wpAny_bind (wpAny_field hz rfl (x:=.ref TO) rfl ?_)
 refine wpAny_bind (wpAny_setField_rec hz (by simp) λh₁ hz₁ hs₁=>?_)
 replace hz₁:IsZip h₁ z TI TO .ellipsis:=hz₁
 refine wpAny_bind ?_
 simp only [List.zipIdx_cons,List.zipIdx_nil,Aq4,List.forIn_nil]
 refine wpAny_bind (wpAny_bind (wpAny_onRaise ?_))
 show wpAny _ _ (Builtin.SmallTypes.nextOf (.ref i1) >>= _) _ _ _
 have g1:S1 k h₁:=(D1 A hh).frame _ _ _ h1 λc hc o e=>hs₁.extBut _ _ (f1 c hc).1 e
 rcases hend with hk | ⟨lt1,hk⟩
 ·subst hk
  refine wpAny_bind ((D1 _ hh).done _ _ _ g1 λh₂ e hs₂ he=>?_)
  have hs₂:Heap.ExtBut i1 h₁ h₂:=hs₂
  obtain⟨oe,hoe,hce⟩:=he
  have hz₂:IsZip h₂ z TI TO .ellipsis:=hs₂ _ _ D.i1z.symm hz₁
  have hez:e≠z:=λx=>by subst x;rw[hz₂] at hoe;cases hoe;simp at hce
  refine wpAny_setField_rec hz₂ (by simp) λh₃ _ hs₃=>hE h₃ e _ (λc o c1 _ c3 _ x=>hs₃.extBut _ _ c1 (hs₂ _ _ c3 (hs₁.extBut _ _ c1 x))) ⟨oe,hs₃.extBut _ _ hez hoe,hce⟩
 ·refine wpAny_bind ((D1 _ hh).item k _ _ _ lt1 g1 λx h₂ tk₂ px h1₂ hs₂=>wpAny_pure ?_)
  have hs₂:Heap.SameBut i1 h₁ h₂:=hs₂
  have hTO₂:IsPair h₂ TO a b:=hs₂.extBut _ _ D.TOi1 (hs₁.extBut _ _ D.TOz hTO)
  refine wpAny_bind (wpAny_seqItems hTO₂ rfl ?_)
  refine wpAny_bind (wpAny_updateSeq_pair hTO₂ λh₃ hTO₃ hs₃=>?_)
  have hs₃:Heap.SameBut TO h₂ h₃:=hs₃
  refine wpAny_bind (wpAny_letGo (wpAny_pure ?_))
  refine wpAny_bind (wpAny_bind (wpAny_onRaise ?_))
  show wpAny _ _ (Builtin.SmallTypes.nextOf (.ref i2) >>= _) _ _ _
  subst hk
  refine wpAny_bind ((D2 _ hh).done _ _ _ ((D2 A hh).frame _ _ _ h2 λc hc o e=>hs₃.extBut _ _ (f2 c hc).2.1 (hs₂.extBut _ _ (f2 c hc).2.2 (hs₁.extBut _ _ (f2 c hc).1 e))) λh₄ e hs₄ he=>?_)
  have hs₄:Heap.ExtBut i2 h₃ h₄:=hs₄
  obtain⟨oe,hoe,hce⟩:=he
  have hz₄:IsZip h₄ z TI TO .ellipsis:=hs₄ _ _ D.i2z.symm (hs₃.extBut _ _ D.TOz.symm (hs₂.extBut _ _ D.i1z.symm hz₁))
  have hez:e≠z:=λx=>by subst x;rw[hz₄] at hoe;cases hoe;simp at hce
  refine wpAny_setField_rec hz₄ (by simp) λh₅ _ hs₅=>hE h₅ e _ (λc o c1 c2 c3 c4 x=>hs₅.extBut _ _ c1 (hs₄ _ _ c4 (hs₃.extBut _ _ c2 (hs₂.extBut _ _ c3 (hs₁.extBut _ _ c1 x))))) ⟨oe,hs₅.extBut _ _ hez hoe,hce⟩
theorem AdW{z TI TO i1 i2:Addr}{fp1 fp2:List Addr}{n1 n2 k:Nat}{P1 P2:Nat->Value->Prop}{S1 S2:Nat->Heap->Prop}{a b:Value}{Q:Option Value->Shared->Prop}(D:V2 z TI TO i1 i2)
  (D1:∀ A':Around,A'.handled=none->Draws prog w A' i1 fp1 n1 P1 S1) (D2:∀ A':Around,A'.handled=none->Draws prog w A' i2 fp2 n2 P2 S2) (hh:A.handled=none)
  (f1:∀ c∈fp1,c≠z/\c≠TO/\c≠i2) (f2:∀ c∈fp2,c≠z/\c≠TO/\c≠i1)
  (hz:IsZip s.heap z TI TO .none) (hTI:IsPair s.heap TI (.ref i1) (.ref i2)) (hTO:IsPair s.heap TO a b) (h1:S1 k s.heap) (h2:S2 k s.heap) (lt1:k<n1) (lt2:k<n2)
  (hQ:∀ x y h' tk,P1 k x->P2 k y->IsZip h' z TI TO (rawInt s.heap.objs.size)->IsPair h' TO x y->S1 (k+1) h'->S2 (k+1) h'->IsPair h' s.heap.objs.size x y->h'.objs.size=s.heap.objs.size+1 ->
   (∀ c o,c≠z->c≠TO->c≠i1->c≠i2->s.heap.get? c=some o->h'.get? c=some o)->Q (some (.ref s.heap.objs.size)) { s with heap:=h',toks:=tk }) :
  wpAny (model prog w) A (pyNext (.ref z)) Q E s:=by
 have hT:s.TypeIs (.ref z) "zip" := ⟨_,hz,rfl⟩
 unfold pyNext
 exact wpAny_bind (wpAny_attempt (wpAny_callSpecial?_slot (name:=Str.ofString "__next__") hT F.slot_zip_next
  (wpAny_call_entry F.slot_zip_next hT F.entry_zip_next
   (AfP D D1 D2 hh f1 f2 hz hTI hTO h1 h2 lt1 lt2 λx y h' tk a1 a2 a3 a4 a5 a6 a7 a8 a9=>wpAny_pure (hQ x y h' tk a1 a2 a3 a4 a5 a6 a7 a8 a9)) (F.args_zip_next_1 _))))
theorem AfQ{z TI TO i1 i2:Addr}{fp1 fp2:List Addr}{n1 n2 k:Nat}{P1 P2:Nat->Value->Prop}{S1 S2:Nat->Heap->Prop}{a b:Value}{Q:Option Value->Shared->Prop}(D:V2 z TI TO i1 i2)
  (D1:∀ A':Around,A'.handled=none->Draws prog w A' i1 fp1 n1 P1 S1) (D2:∀ A':Around,A'.handled=none->Draws prog w A' i2 fp2 n2 P2 S2) (hh:A.handled=none)
  (f1:∀ c∈fp1,c≠z/\c≠TO/\c≠i2) (f2:∀ c∈fp2,c≠z/\c≠TO/\c≠i1)
  (hz:IsZip s.heap z TI TO .none) (hTI:IsPair s.heap TI (.ref i1) (.ref i2)) (hTO:IsPair s.heap TO a b) (h1:S1 k s.heap) (h2:S2 k s.heap) (hend:k=n1\/(k<n1/\k=n2))
  (hQ:∀ h' tk,(∀ c o,c≠z->c≠TO->c≠i1->c≠i2->s.heap.get? c=some o->h'.get? c=some o)->Q none { s with heap:=h',toks:=tk }):wpAny (model prog w) A (pyNext (.ref z)) Q E s:=by
 have hT:s.TypeIs (.ref z) "zip" := ⟨_,hz,rfl⟩
 unfold pyNext
 refine wpAny_bind (wpAny_attempt (wpAny_callSpecial?_slot (name:=Str.ofString "__next__") hT F.slot_zip_next
  (wpAny_call_entry F.slot_zip_next hT F.entry_zip_next (Ahl D D1 D2 hh f1 f2 hz hTI hTO h1 h2 hend λh' e tk hk he=>?_) (F.args_zip_next_1 _))))
 obtain⟨o,ho,hc⟩:=he
 refine wpAny_bind (wpAny_isInstance (T := "StopIteration") (b:=true) ⟨o,ho,hc⟩ isSubtype_stop ?_)
 exact wpAny_pure (hQ _ _ hk)
abbrev Rw (x:Str) (t:Tok):Obj:={ cls:=.type (strIterType x),data:=.fields #[.str x t,.int 0 0] }
abbrev AeN (l:Addr):Obj:={ cls:=.type "list_iterator", data:=.fields #[.ref l,.int 0 0] }
abbrev LQ (h:Heap) (o1 o2:Obj):Heap:=((((h.push o1).push o2).push { cls:=.type "tuple", data:=.seq #[.ref h.objs.size,.ref (h.push o1).objs.size] }).push { cls:=.type "tuple", data:=.seq #[.none,.none] }).push
 { cls:=.type "zip", data:=.fields #[.none,.bool false,.bool false,.ref ((h.push o1).push o2).objs.size,.ref (((h.push o1).push o2).push { cls:=.type "tuple", data:=.seq #[.ref h.objs.size,.ref (h.push o1).objs.size] }).objs.size] }
abbrev AaI (h:Heap) (o1 o2:Obj):Addr:=((((h.push o1).push o2).push { cls:=.type "tuple", data:=.seq #[.ref h.objs.size,.ref (h.push o1).objs.size] }).push { cls:=.type "tuple", data:=.seq #[.none,.none] }).objs.size
set_option maxHeartbeats 4000000 in
theorem AcM(l1:Addr)(xs:Array Value)(x:Str)(t:Tok) :
  Meets (Builtin.«zip.__new__» ⟨[.type "zip", .ref l1,.str x t],[]⟩) (λ_ R s=>s.heap.IsList l1 xs/\R (.ok (.ret (.ref (AaI s.heap (AeN l1) (Rw x t))))) { s with heap:=LQ s.heap (AeN l1) (Rw x t) }) :=
 .of_wp λprog w A R s h=>by
  obtain⟨hp,g,d,tk,os⟩:=s;obtain⟨hl1,h⟩:=h
  have hsub:=sub_zip
  have hL1:Heap.IsList (Shared.heap ⟨hp,g,d,tk,os⟩) l1 xs:=hl1
  wp_walk using wpAny_pyIter_list hL1,wpAny_pyIter_strU
  exact⟨_,rfl,h⟩
set_option maxHeartbeats 4000000 in
theorem AcN(y:Str)(u:Tok)(x:Str)(t:Tok) :
  Meets (Builtin.«zip.__new__» ⟨[.type "zip", .str y u,.str x t],[]⟩) (λ_ R s=>R (.ok (.ret (.ref (AaI s.heap (Rw y u) (Rw x t))))) { s with heap:=LQ s.heap (Rw y u) (Rw x t) }) :=
 .of_wp λprog w A R s h=>by
  obtain⟨hp,g,d,tk,os⟩:=s
  have hsub:=sub_zip
  wp_walk using wpAny_pyIter_strU
  exact⟨_,rfl,h⟩
end
inductive Src where
 | l (a:Addr)
 | s (z:Str)
def AmF:Src->V
 | .l a=>.ref a
 | .s z=>.str z
def Ys (K:W.Frag)(H:Hp):Src->Prop
 | .l a=>∃ xs,SqL K H a xs
 | .s _=>True
def Qi (K:W.Frag)(H:Hp):Src->Nat->V->Prop
 | .l a,i,v=>∃ xs,SqL K H a xs/\xs[i]?=some v
 | .s z,i,v=>∃ c,z.cps[i]?=some c/\v=.str ⟨#[c]⟩
def AdX (K:W.Frag)(H:Hp):Src->Nat->Prop
 | .l a,i=>∃ xs,SqL K H a xs/\xs.length=i
 | .s z,i=>z.cps.size=i
def Tt (it:Addr)(t:Tok):Src->Nat->Heap->Prop
 | .l a,i,h=>h.IsListIter it a i
 | .s z,i,h=>h.IsStrIter it (strIterType z) z t i
def Ahm (it:Addr):Src->List Addr
 | .l a=>[it,a]
 | .s _=>[it]
def AoB (t:Tok):Src->Obj
 | .l a=>AeN a
 | .s z=>Rw z t
theorem Yt{X:Cx}{pins:List (Addr × Obj)}{σ:St}{H:Hp}{s:Shared}(I:Inv X pins σ H s){S:Src}{i:Nat}{u v:V}(h1:Qi X.K H S i u)(h2:Qi X.K H S i v):u=v:=by
 cases S with
 | l a =>
  obtain⟨xs,q1,e1⟩:=h1
  obtain⟨ys,q2,e2⟩:=h2
  rw[I.JR q2 q1,e1] at e2
  exact Option.some.inj e2
 | s z =>
  obtain⟨c,e1,rfl⟩:=h1
  obtain⟨d,e2,rfl⟩:=h2
  rw[e1] at e2
  cases e2
  rfl
theorem QX{X:Cx}{pins:List (Addr × Obj)}{σ:St}{H:Hp}{s:Shared}(I:Inv X pins σ H s){it:Addr}{t:Tok}{S:Src}{i:Nat}(st:Tt it t S i s.heap)(ok:Ys X.K H S)(ap:∀ a,S=.l a->a≠it) :
  ∃(n:Nat) (Pd:Nat->Value->Prop) (Sd:Nat->Heap->Prop),(∀ A':Around,A'.handled=none->Draws X.prog X.w A' it (Ahm it S) n Pd Sd)/\Sd i s.heap/\(∀ h',Sd (i+1) h'->Tt it t S (i+1) h') /\
   (∀ v,Qi X.K H S i v->i<n/\∀ u,Pd i u->RelV v u)/\(AdX X.K H S i->i=n):=by
 cases S with
 | l a =>
  obtain⟨xs,q⟩:=ok
  obtain⟨its,rv,p1,_⟩:=I.list q
  have len:=rv.length
  refine⟨_,_,_,λA' hh=>Draws.list hh it a (ap a rfl) its.toArray,⟨st,p1.isList⟩,λh' z=>z.1,λv hv=>?_,λhe=>?_⟩
  ·obtain⟨ys,q2,e⟩:=hv
   rw[I.JR q2 q] at e
   obtain⟨u,hu,r⟩:=rv.get e
   refine⟨by have:=(List.getElem?_eq_some_iff.mp hu).1;simpa using this,λu' hu'=>?_⟩
   have:its[i]?=some u':=by simpa using hu'
   rw[hu] at this
   cases this
   exact r
  ·obtain⟨ys,q2,e⟩:=he
   rw[I.JR q2 q] at e
   simp only [Ap3]
   omega
 | s z =>
  refine⟨_,_,_,λA' hh=>Ahk hh it z t,st,λh' z=>z,λv hv=>?_,λhe=>he.symm⟩
  obtain⟨c,e,rfl⟩:=hv
  refine⟨by rw[Array.getElem?_eq_some_iff] at e;exact e.1,λu ⟨d,tk,e2,hu⟩=>?_⟩
  rw[e] at e2
  cases e2
  exact⟨tk,hu⟩
def Ajo (K:W.Frag)(S1 S2:Src):It where
 go:=λi H=>(∃ u,Qi K H S1 i u)/\∃ v,Qi K H S2 i v
 yld:=λi H x H'=>∃ T,x=.ref T/\H T=none/\∀ u v,Qi K H S1 i u->Qi K H S2 i v->H'=upd H T (.tup [u,v])
 stop:=λi H=>Ys K H S1/\Ys K H S2/\(AdX K H S1 i\/((∃ u,Qi K H S1 i u)/\AdX K H S2 i))
theorem AcO{K:W.Frag}{H:Hp}{S:Src}{i:Nat}{u:V}(h:Qi K H S i u):Ys K H S:=by
 cases S with
 | l a=>obtain⟨xs,q,_⟩:=h;exact⟨xs,q⟩
 | s z=>trivial
def Alj (z TI TO i1 i2:Addr)(t1 t2:Tok)(S1 S2:Src)(i:Nat)(h:Heap):Prop:=IsZip h z TI TO .none/\IsPair h TI (.ref i1) (.ref i2)/\(∃ p q,IsPair h TO p q)/\Tt i1 t1 S1 i h/\Tt i2 t2 S2 i h
theorem Tu{it:Addr}{t:Tok}{S:Src}{i:Nat}{h h':Heap}(st:Tt it t S i h)(k:∀ o,h.get? it=some o->h'.get? it=some o):Tt it t S i h':=by
 cases S with
 | l a=>exact Heap.IsListIter.at st k
 | s z=>obtain⟨o,e,c⟩:=st;exact⟨o,k o e,c⟩
theorem QZ{it:Addr}{t:Tok}{S:Src}{i:Nat}{h:Heap}(st:Tt it t S i h):∃ o,h.get? it=some o/\∀ v,o.data≠.cell v:=by
 cases S with
 | l a=>obtain⟨o,e,_,d⟩:=st;exact⟨o,e,λv z=>by rw[d] at z;cases z⟩
 | s z=>obtain⟨o,e,_,d⟩:=st;exact⟨o,e,λv z=>by rw[d] at z;cases z⟩
theorem AfR{P:Program}{w:World}{K:W.Frag}{es:List Expr}{kx:Nat}{tp:Pos}{z TI TO i1 i2:Addr}{t1 t2:Tok}{S1 S2:Src}(D:V2 z TI TO i1 i2)
  (a1:∀ a,S1=.l a->a≠z/\a≠TO/\a≠i1/\a≠i2) (a2:∀ a,S2=.l a->a≠z/\a≠TO/\a≠i1/\a≠i2) :
  Turn P w K (.Tuple es kx tp) (Ajo K S1 S2) [z,TI,TO,i1,i2] z (Alj z TI TO i1 i2 t1 t2 S1 S2):=by
 have f1:∀ c∈Ahm i1 S1,c≠z/\c≠TO/\c≠i2:=λc hc=>by
  cases S1 with
  | l a =>
   rcases List.mem_cons.mp hc with e | e
   ·subst e;exact⟨D.i1z,D.TOi1.symm,D.i12⟩
   ·rw[List.mem_singleton.mp e];exact⟨(a1 a rfl).1,(a1 a rfl).2.1,(a1 a rfl).2.2.2⟩
  | s x=>rw[List.mem_singleton.mp hc];exact⟨D.i1z,D.TOi1.symm,D.i12⟩
 have f2:∀ c∈Ahm i2 S2,c≠z/\c≠TO/\c≠i1:=λc hc=>by
  cases S2 with
  | l a =>
   rcases List.mem_cons.mp hc with e | e
   ·subst e;exact⟨D.i2z,D.TOi2.symm,D.i12.symm⟩
   ·rw[List.mem_singleton.mp e];exact⟨(a2 a rfl).1,(a2 a rfl).2.1,(a2 a rfl).2.2.1⟩
  | s x=>rw[List.mem_singleton.mp hc];exact⟨D.i2z,D.TOi2.symm,D.i12.symm⟩
 exact {
  mem:=by simp
  obj:=λi h st c hc=>by
   obtain⟨s1,s2,⟨p,q,s3⟩,s4,s5⟩:=st
   simp only [ApA,ApB,or_false] at hc
   rcases hc with e | e | e | e | e
   ·subst e;exact⟨_,s1,λv z=>by cases (show Data.fields _=Data.cell v from z)⟩
   ·subst e;exact⟨_,s2,λv z=>by cases (show Data.seq _ _=Data.cell v from z)⟩
   ·subst e;exact⟨_,s3,λv z=>by cases (show Data.seq _ _=Data.cell v from z)⟩
   ·subst e;exact QZ s4
   ·subst e;exact QZ s5
  keep:=λi h h' st k=>by
   obtain⟨s1,s2,⟨p,q,s3⟩,s4,s5⟩:=st
   exact⟨k _ (by simp) _ s1,k _ (by simp) _ s2,⟨p,q,k _ (by simp) _ s3⟩,Tu s4 λo e=>k _ (by simp) o e,Tu s5 λo e=>k _ (by simp) o e⟩
  item:=by
   intro X hP hw hK hc i pins s σ H E I hf st hg
   subst hP hw hK
   obtain⟨⟨x,hx⟩,y,hy⟩:=hg
   obtain⟨s1,s2,⟨p,q,s3⟩,s4,s5⟩:=st
   obtain⟨n1,P1,Q1,D1,g1,e1,v1,_⟩:=QX I s4 (AcO hx) (λa e=>(a1 a e).2.2.1)
   obtain⟨n2,P2,Q2,D2,g2,e2,v2,_⟩:=QX I s5 (AcO hy) (λa e=>(a2 a e).2.2.2)
   obtain⟨l1,r1⟩:=v1 x hx
   obtain⟨l2,r2⟩:=v2 y hy
   refine AdW D D1 D2 (I.ok.hd hc) f1 f2 s1 s2 s3 g1 g2 l1 l2 λu v h1 tk pu pv z1 w1 j1 j2 hT hsz kk=>?_
   have ru:=r1 u pu
   have rw':=r2 v pv
   refine⟨_,rfl,wpAny_letOwnedTupleGo_zip z1 λh2 z2 sb=>?_⟩
   have sb:Heap.SameBut z h1 h2:=sb
   have zl:z<s.heap.objs.size:=Heap.lt_size s1
   have TIl:TI<s.heap.objs.size:=Heap.lt_size s2
   have TOl:TO<s.heap.objs.size:=Heap.lt_size s3
   have i1l:i1<s.heap.objs.size:=by obtain⟨_,e,_⟩:=QZ s4;exact Heap.lt_size e
   have i2l:i2<s.heap.objs.size:=by obtain⟨_,e,_⟩:=QZ s5;exact Heap.lt_size e
   have up:∀ c o,c≠z->h1.get? c=some o->h2.get? c=some o:=λc o c1 e=>(sb.2 c c1).trans e
   have hTn:H s.heap.objs.size=none:=I.hok.fresh (Apv _)
   have I1:Inv X pins σ (upd H s.heap.objs.size (.tup [x,y])) { s with heap:=s.heap.push { cls:=.type "tuple", data:=.seq #[u,v] },toks:=tk } :=
    I.laid (λc o e=>Heap.get?_push_of_some _ e) (Apv _) ⟨by show 2<=sizeLine;decide,[u,v],.cons ru (.cons rw' .nil),⟨_,Heap.get?_push_size _ rfl,rfl,_,rfl⟩⟩
   have fp2:∀ c∈[z,TI,TO,i1,i2],Hr X pins (upd H s.heap.objs.size (.tup [x,y])) c:=λc hc=>by
    obtain⟨f0,f⟩:=hf c hc
    refine⟨?_,f⟩
    have lt:c<s.heap.objs.size:=by
     simp only [ApA,ApB,or_false] at hc
     rcases hc with e | e | e | e | e <;> subst e <;> assumption
    rw[Ao (Apy lt)]
    exact f0
   have I2:Inv X pins σ (upd H s.heap.objs.size (.tup [x,y])) { s with heap:=h2,toks:=tk }:=by
    refine Inv.QW (s:={ s with heap:=s.heap.push { cls:=.type "tuple", data:=.seq #[u,v] },toks:=tk }) (h':=h2) (t':=tk) (its:=[z,TI,TO,i1,i2]) I1 (λc o hc e=>?_) fp2
    simp only [ApA,ApB,or_false,not_or] at hc
    refine up c o hc.1 ?_
    by_cases hcs:c=s.heap.objs.size
    ·subst hcs
     have e':(s.heap.push { cls:=.type "tuple", data:=.seq #[u,v] }).get? s.heap.objs.size=some { cls:=.type "tuple", data:=.seq #[u,v] }:=Heap.get?_push_size _ rfl
     rw[e'] at e
     cases e
     exact hT
    ·have e':s.heap.get? c=some o:=by
      rw[<- e]
      exact(Heap.get?_push_ne _ _ _ hcs).symm
     exact kk c o hc.1 hc.2.2.1 hc.2.2.2.1 hc.2.2.2.2 e'
   refine⟨.ref s.heap.objs.size,_,I2,rfl,⟨s.heap.objs.size,rfl,hTn,λu' v' q1 q2=>?_⟩,⟨z2,up _ _ D.TIz (kk _ _ D.TIz D.TITO D.TIi1 D.TIi2 s2),⟨u,v,up _ _ D.TOz w1⟩,Tu (e1 _ j1) λo e=>up _ o D.i1z e,Tu (e2 _ j2) λo e=>up _ o D.i2z e⟩,λc hc=>(fp2 c hc).1⟩
   rw[Yt I q1 hx,Yt I q2 hy]
  done:=by
   intro X hP hw hK hc i pins s σ H E I hf st hg
   subst hP hw hK
   obtain⟨o1,o2,hend⟩:=hg
   obtain⟨s1,s2,⟨p,q,s3⟩,s4,s5⟩:=st
   obtain⟨n1,P1,Q1,D1,g1,e1,v1,d1⟩:=QX I s4 o1 (λa e=>(a1 a e).2.2.1)
   obtain⟨n2,P2,Q2,D2,g2,e2,v2,d2⟩:=QX I s5 o2 (λa e=>(a2 a e).2.2.2)
   have he:i=n1\/(i<n1/\i=n2):=by
    rcases hend with h | ⟨⟨u,hu⟩,h⟩
    ·exact .inl (d1 h)
    ·exact .inr ⟨(v1 u hu).1,d2 h⟩
   refine AfQ D D1 D2 (I.ok.hd hc) f1 f2 s1 s2 s3 g1 g2 he λh' tk kk=>⟨rfl,I.QW (t':=tk) (its:=[z,TI,TO,i1,i2]) (λc o hc e=>?_) hf⟩
   simp only [ApA,ApB,or_false,not_or] at hc
   exact kk c o hc.1 hc.2.2.1 hc.2.2.2.1 hc.2.2.2.2 e
  self:=λ_ _ _ _ _ st h=>wpAny_pyIter_zip st.1 h }
theorem AcP{h:Heap}{o1 o2:Obj}(e1:o1.isFreed=false)(e2:o2.isFreed=false):AaI h o1 o2=h.objs.size+4/\IsZip (LQ h o1 o2) (h.objs.size+4) (h.objs.size+2) (h.objs.size+3) .none /\
  IsPair (LQ h o1 o2) (h.objs.size+2) (.ref h.objs.size) (.ref (h.objs.size+1))/\IsPair (LQ h o1 o2) (h.objs.size+3) .none .none/\(LQ h o1 o2).get? h.objs.size=some o1/\(LQ h o1 o2).get? (h.objs.size+1)=some o2 /\
  ∀ c o,h.get? c=some o->(LQ h o1 o2).get? c=some o:=by
 have z1:(h.push o1).objs.size=h.objs.size+1:=Heap.size_push ..
 have z2:((h.push o1).push o2).objs.size=h.objs.size+2:=by rw[Heap.size_push,z1]
 have z3:(((h.push o1).push o2).push { cls:=.type "tuple", data:=.seq #[.ref h.objs.size,.ref (h.push o1).objs.size] }).objs.size=h.objs.size+3:=by rw[Heap.size_push,z2]
 have z4:AaI h o1 o2=h.objs.size+4:=by unfold AaI;rw[Heap.size_push,z3]
 have g5:(LQ h o1 o2).get? (AaI h o1 o2)=some _:=Heap.get?_push_size _ rfl
 have g4:(LQ h o1 o2).get? (((h.push o1).push o2).push { cls:=.type "tuple", data:=.seq #[.ref h.objs.size,.ref (h.push o1).objs.size] }).objs.size=some _:=Heap.get?_push_of_some _ (Heap.get?_push_size _ rfl)
 have g3:(LQ h o1 o2).get? ((h.push o1).push o2).objs.size=some _:=Heap.get?_push_of_some _ (Heap.get?_push_of_some _ (Heap.get?_push_size _ rfl))
 have g2:(LQ h o1 o2).get? (h.push o1).objs.size=some o2:=Heap.get?_push_of_some _ (Heap.get?_push_of_some _ (Heap.get?_push_of_some _ (Heap.get?_push_size _ e2)))
 have g1:(LQ h o1 o2).get? h.objs.size=some o1:=Heap.get?_push_of_some _ (Heap.get?_push_of_some _ (Heap.get?_push_of_some _ (Heap.get?_push_of_some _ (Heap.get?_push_size _ e1))))
 refine⟨z4,?_,?_,?_,g1,?_,λc o x=>Heap.get?_push_of_some _ (Heap.get?_push_of_some _ (Heap.get?_push_of_some _ (Heap.get?_push_of_some _ (Heap.get?_push_of_some _ x))))⟩
 ·rw[z4,z2,z3] at g5;exact g5
 ·rw[z2,z1] at g3;exact g3
 ·rw[z3] at g4;exact g4
 ·rw[z1] at g2;exact g2
theorem ane{a b:Nat}(h:a≠b):@Ne Addr a b:=h
theorem lne{a n:Nat}(h:a<n)(k:Nat):@Ne Addr a (n+k):=λz=>by have z:a=n+k:=z;omega
theorem AdY(n:Nat):V2 (n+4) (n+2) (n+3) n (n+1) where
 TIz:=ane (by omega)
 TOz:=ane (by omega)
 i1z:=ane (by omega)
 i2z:=ane (by omega)
 TITO:=ane (by omega)
 TIi1:=ane (by omega)
 TIi2:=ane (by omega)
 TOi1:=ane (by omega)
 TOi2:=ane (by omega)
 i12:=ane (by omega)
section
variable {X:Cx}{es:List Expr}{kx:Nat}{tp:Pos}
def zOk:Src->Src->Prop
 | .s _,.l _=>False
 | _,_=>True
def AmG (K:W.Frag)(ta:TA):TI:=λσ H R=>ta σ H λvs H1=>∃ S1 S2,vs=[AmF S1,AmF S2]/\zOk S1 S2/\Ys K H1 S1/\Ys K H1 S2/\R (Ajo K S1 S2) H1
theorem AeO{K:W.Frag}{a b:Expr}{ta:TA}{p pos:Pos}(hg:Gl X "zip") (hm:X.mg "zip" = none) (ha:PA X [a,b] ta) (hK:X.K=K:=by rfl) (hs:starEach [a,b] X.env=[(false,eval a X.env),(false,eval b X.env)]:=by rfl) (hs2:starEach [b] X.env=[(false,eval b X.env)]:=by rfl) :
  PI X (.Tuple es kx tp) (.Call (.Name "zip" p) [a,b] [] pos) (AmG K ta):=by
 subst hK
 intro pins s σ H R I h
 refine Call_ (HW I hg hm AgZ (PyProof.Rows.callWith_type1 (thn (ha pos pins s σ H _ I h) λus s1 ⟨vs,H1,I1,r1,q1⟩=>?_) (by rw[hs,hs2]) (by rw[hs2];rfl)))
 obtain⟨S1,S2,e,hz,o1,o2,q⟩:=q1
 subst e
 obtain⟨u1,u2,rfl,ru1,ru2⟩:=r1.two
 have fin:∀(t1 t2:Tok) (h':Heap) (tk:Nat),IsZip h' (s1.heap.objs.size+4) (s1.heap.objs.size+2) (s1.heap.objs.size+3) .none->IsPair h' (s1.heap.objs.size+2) (.ref s1.heap.objs.size) (.ref (s1.heap.objs.size+1))->IsPair h' (s1.heap.objs.size+3) .none .none ->
   Tt s1.heap.objs.size t1 S1 0 h'->Tt (s1.heap.objs.size+1) t2 S2 0 h'->(∀ c o,s1.heap.get? c=some o->h'.get? c=some o) ->
   wpAny (model X.prog X.w) X.A (pyIter (.ref (s1.heap.objs.size+4))) (PIE X pins σ (.Tuple es kx tp) R) X.xe { s1 with heap:=h',toks:=tk }:=λt1 t2 h' tk hzz hTI hTO j1 j2 kk=>by
  refine wpAny_pyIter_zip hzz ?_
  have lt:∀ S:Src,Ys X.K H1 S->∀ a,S=.l a->a<s1.heap.objs.size:=λS ok a e=>by
   subst e
   obtain⟨xs,q⟩:=ok
   obtain⟨its,_,p1,_⟩:=I1.list q
   obtain⟨o,e,_⟩:=p1.isList
   exact Heap.lt_size e
  refine⟨_,[s1.heap.objs.size+4,s1.heap.objs.size+2,s1.heap.objs.size+3,s1.heap.objs.size,s1.heap.objs.size+1],_,_,H1,rfl,I1.kept (t':=tk) kk,AfR (t1:=t1) (t2:=t2) (AdY _) (λa e=>?_) (λa e=>?_),
   ⟨hzz,hTI,⟨_,_,hTO⟩,j1,j2⟩,λc hc=>?_,q⟩
  ·have:=lt S1 o1 a e;exact⟨lne this 4,lne this 3,lne this 0,lne this 1⟩
  ·have:=lt S2 o2 a e;exact⟨lne this 4,lne this 3,lne this 0,lne this 1⟩
  ·have le:s1.heap.objs.size<=c:=by
    simp only [ApA,ApB,or_false] at hc
    rcases hc with e | e | e | e | e <;> subst e <;> omega
   exact I1.AdH le (I1.hok.fresh le)
 cases S1 with
 | l a =>
  cases ru1
  obtain⟨xs,hq1⟩:=id o1
  obtain⟨Xd,rv1,p1,_⟩:=I1.list hq1
  cases S2 with
  | l b =>
   cases ru2
   obtain⟨ys,hq2⟩:=id o2
   obtain⟨its2,rv2,p2,_⟩:=I1.list hq2
   refine call_zip_2 p1.isList p2.isList λh' hzz hTI hTO j1 j2 hsz kk=>fin 0 0 h' s1.toks hzz hTI hTO j1 j2 kk
  | s x =>
   obtain⟨t,rfl⟩:=ru2
   refine callType_new F.called_zip (by decide) (F.typeCall_zip_2 _ _) (F.newCall_zip_2 _ _) (λobj=>F.args_object_init_3 obj _ _) F.entry_zip_new (AcM a Xd.toArray x t) ⟨p1.isList,?_⟩
   obtain⟨z4,g5,g3,g4,g1,g2,kk⟩:=AcP (h:=s1.heap) (o1:=AeN a) (o2:=Rw x t) rfl rfl
   show _/\_
   rw[z4]
   exact⟨⟨_,g5,rfl⟩,fin 0 t _ s1.toks g5 g3 g4 ⟨_,g1,rfl,rfl⟩ ⟨_,g2,rfl,rfl⟩ kk⟩
 | s y =>
  obtain⟨t1,rfl⟩:=ru1
  cases S2 with
  | l b=>exact hz.elim
  | s x =>
   obtain⟨t,rfl⟩:=ru2
   refine callType_new F.called_zip (by decide) (F.typeCall_zip_2 _ _) (F.newCall_zip_2 _ _) (λobj=>F.args_object_init_3 obj _ _) F.entry_zip_new (AcN y t1 x t) ?_
   obtain⟨z4,g5,g3,g4,g1,g2,kk⟩:=AcP (h:=s1.heap) (o1:=Rw y t1) (o2:=Rw x t) rfl rfl
   show _/\_
   rw[z4]
   exact⟨⟨_,g5,rfl⟩,fin t1 t _ s1.toks g5 g3 g4 ⟨_,g1,rfl,rfl⟩ ⟨_,g2,rfl,rfl⟩ kk⟩
end
theorem AfS:typeLookup (.type "list_reverseiterator") "__len__" = pure none:=by
 rw[typeLookup_type,builtinLookup_eq_fast];kernel_rfl
theorem Ahn:typeLookup (.type "list_reverseiterator") "__length_hint__" = pure (some (.builtin "list_reverseiterator.__length_hint__")):=by
 rw[typeLookup_type,builtinLookup_eq_fast];kernel_rfl
section
variable {prog:Program}{w:World}{A:Around}{E:Value->Shared->Prop}{s:Shared}{R:Result->Shared->Prop}{it:Addr}{fp wr:List Addr}{G:Array GenState->Array GenState->Prop}{n:Nat}{P:Nat->Value->Prop}{St:Nat->Shared->Prop}
theorem AdZ(V:WalksS prog w A.in1 it fp wr G n P St)(ty:∀ i s,St i s->s.TypeIs (.ref it) "list_reverseiterator") (M:Addr) (res:Value) (c:Nat) (st0:St 0 s) (nf:M∉fp) (mi:it∈fp) (hM:s.heap.get? M=some { cls:=.type "list", data:=.seq #[] c })
  (fin:∀ s' acc c',Moved (M::wr) G s s'->s'.heap.get? M=some { cls:=.type "list", dict:=none,data:=.seq acc c',slots:=#[] }->ItemsOf P acc n->R (.ok (.ret res)) s') (hn:n<=sizeLine) :
  wpAny (model prog w) A.in1 (Builtin.List.listExtendWith (.ref M) (.ref it) res)
   (λf s'=>match f with | .done d=>R (.ok d) s' | .again k=>k.quiet=true/\codeAny (model prog w) A k R s') (λe s'=>R (.error e) s') s:=by
 have ne:M≠it:=λe=>nf (e▸mi)
 have q1:Builtin.List.listSameRef (.ref M) (.ref it)=false:=by simp[Builtin.List.listSameRef,ne]
 unfold Builtin.List.listExtendWith
 refine wpAny_bind (wpAny_typeOf (ty 0 _ st0) ?_)
 rw[if_neg (by rw[q1];decide)]
 refine wpAny_bind (V.self 0 _ _ _ st0 ?_);refine wpAny_bind (wpAny_holding ?_)
 unfold Builtin.List.listLengthHint
 refine wpAny_bind (wpAny_specialOf (ty 0 _ st0) AfS ?_)
 show wpAny _ A.in1 (specialOf (Value.ref it) (Str.ofString "__length_hint__") >>= _) _ _ _
 refine wpAny_bind (wpAny_specialOf (ty 0 _ st0) Ahn ?_)
 generalize hid:("list_reverseiterator.__length_hint__" : String)=name
 wp_delta
 rw[show splitId name=some ("list_reverseiterator", "__length_hint__") from by subst hid;decide +kernel]
 subst hid
 refine wpAny_bind (wpAny_isInstance (b:=true) (ty 0 _ st0) (by rw[isSubtype_type];kernel_rfl) ?_);refine wpAny_pure ?_
 rw[if_neg (by decide)]
 refine wpAny_pure ⟨plainId_quiet F.plain_extend_loop _,codeAny_extend_loopS V hn _ nf _ n 0 _ _ _ rfl (Ap8 _) st0 hM (ItemsOf.nil P) λs' acc c' mv hM' ha=>?_⟩
 exact fin s' acc c' mv hM' ha
theorem Aho(V:WalksS prog w A.in1 it fp wr G n P St)(ty:∀ i s,St i s->s.TypeIs (.ref it) "list_reverseiterator") (M:Addr) (st0:St 0 s) (nf:M∉fp) (mi:it∈fp) (hM:s.heap.get? M=some { cls:=.type "list", data:=.seq #[] })
  (fin:∀ s' acc c',Moved (M::wr) G s s'->s'.heap.get? M=some { cls:=.type "list", dict:=none,data:=.seq acc c',slots:=#[] }->ItemsOf P acc n->R (.ok (.ret .none)) s') (hn:n<=sizeLine) :
  wpAny (model prog w) A.in1 (Builtin.«list.__init__» ⟨[.ref M,.ref it],[]⟩)
   (λf s'=>match f with | .done d=>R (.ok d) s' | .again k=>k.quiet=true/\codeAny (model prog w) A k R s') (λe s'=>R (.error e) s') s:=by
 show wpAny _ A.in1 (do let old <- Builtin.List.listItems (.ref M);Builtin.List.listUpdate (.ref M) (λ_=>#[]);letGo old.toList.reverse;Builtin.List.listExtendWith (.ref M) (.ref it) .none) _ _ s
 refine wpAny_bind ?_;unfold Builtin.List.listItems
 refine wpAny_bind (wpAny_seqItems hM rfl (wpAny_pure ?_))
 show wpAny _ A.in1 (updateSeq M (λ_=>#[]) >>= λ_=>letGo (#[]:Array Value).toList.reverse >>= λ_=>Builtin.List.listExtendWith (.ref M) (.ref it) .none) _ _ s
 refine wpAny_bind (wpAny_updateSeq hM rfl ?_)
 have hM2:=Heap.get?_update_self (Obj.mapSeq (λ_=>(#[]:Array Value))) hM rfl
 have off:∀ b o,b≠M->s.heap.get? b=some o->(s.heap.update M (Obj.mapSeq (λ_=>(#[]:Array Value)))).get? b=some o:=λb o nb e=>(Heap.get?_update_other _ _ (Ne.symm nb)).trans e
 refine wpAny_bind (wpAny_letGo ?_)
 refine AdZ V ty M .none _ (V.frame 0 s _ s.toks st0 (Apv _) λb hb o e=>off b o (λz=>nf (z▸hb)) e) nf mi hM2 (λs' acc c' mv hM' ha=>?_) hn
 exact fin s' acc c' (Moved.trans V.gtrans ((Moved.refl V.grefl).then_heap (Apv _) λb o hb e=>off b o (λz=>hb (z▸Ap6)) e) mv) hM' ha
theorem Ahp{Q:Value->Shared->Prop}(V:WalksS prog w A.in1.in1 it fp wr G n P St)(ty:∀ i s,St i s->s.TypeIs (.ref it) "list_reverseiterator") (st0:St 0 s) (below:∀ b∈fp,b<s.heap.objs.size) (mi:it∈fp)
  (fin:∀ s' acc c',Moved (s.heap.objs.size::wr) G { s with heap:=s.heap.push { cls:=.type "list", data:=.seq #[] } } s' ->
   s'.heap.get? s.heap.objs.size=some { cls:=.type "list", dict:=none,data:=.seq acc c',slots:=#[] }->ItemsOf P acc n->Q (.ref s.heap.objs.size) s') (hn:n<=sizeLine) :
  wpAny (model prog w) A (call (.type "list") [.ref it]) Q E s:=by
 have nf:s.heap.objs.size∉fp:=λz=>ApC _ (below _ z)
 refine callType_codes (Q₁:=λob s1=>ob=.ref s.heap.objs.size/\s1={ s with heap:=s.heap.push { cls:=.type "list", data:=.seq #[] } }) F.called_list (F.typeCall_list_1 _) F.entry_list_init (code_list_new _ ⟨rfl,rfl⟩) λob s1 h1=>?_
 obtain⟨rfl,rfl⟩:=h1
 have hM:(s.heap.push { cls:=.type "list", data:=.seq #[] }).get? s.heap.objs.size=some { cls:=.type "list", data:=.seq #[] }:=Heap.get?_push_size _ rfl
 refine⟨⟨_,hM,rfl⟩,F.args_list_init_2 _ _,Aho V ty _ (V.frame 0 s _ s.toks st0 (Apv _) λb _ o e=>Heap.get?_push_of_some _ e) nf mi hM (λs' acc c' mv hM' ha=>?_) hn⟩
 exact⟨rfl,fin s' acc c' mv hM' ha⟩
end
section
variable {X:Cx}{K:W.Frag}{p1 p2 pos1 pos2:Pos}{e:Expr}{te:TE}
def Ahq (K:W.Frag)(te:TE):TE:=λσ H Q=>te σ H λx H1=>∃ a ys,x=.ref a/\SqL K H1 a ys/\ys.length<=1000/\∀ l,H1 l=none->Q (.ref l) (upd H1 l (.lst ys.reverse))
theorem Yu(hg1:Gl X "list") (hm1:X.mg "list" = none) (hg2:Gl X "reversed") (hm2:X.mg "reversed" = none) (he:PE X e te) (hK:X.K=K:=by rfl) (hc:X.calm=true:=by rfl)
  (hs2:starEach [e] X.env=(false,eval e X.env)::starEach [] X.env:=by rfl)
  (hs1:starEach [.Call (.Name "reversed" p2) [e] [] pos2] X.env=(false,eval (.Call (.Name "reversed" p2) [e] [] pos2) X.env)::starEach [] X.env:=by rfl)
  (hq1:(backTo pos1 (starEach [] X.env)).any (·.1)=false:=by rfl) (hq2:(backTo pos2 (starEach [] X.env)).any (·.1)=false:=by rfl) :
  PE X (.Call (.Name "list" p1) [.Call (.Name "reversed" p2) [e] [] pos2] [] pos1) (Ahq K te):=by
 subst hK
 intro pins s σ H Q I h
 have hsz:sizeLine=16777216:=sizeLine_eq
 refine wpAny_Call_Name_kw (HW I hg1 hm1 Tq ?_)
 refine PyProof.Rows.callWith_type1 ?_ hs1 hq1
 rw[hs1]
 show wpAny _ _ (spliced ((false,eval (.Call (.Name "reversed" p2) [e] [] pos2) X.env)::backTo pos1 (starEach [] X.env))) _ _ s
 refine Calls.spliced_cons ?_
 refine wpAny_Call_Name_kw (HW I hg2 hm2 Jj ?_)
 refine PyProof.Rows.callWith_type1 ?_ hs2 hq2
 rw[hs2]
 show wpAny _ _ (spliced ((false,eval e X.env)::backTo pos2 (starEach [] X.env))) _ _ s
 refine Calls.spliced_cons (thn (he pins s σ H _ I h) λu s1 ⟨x,H1,I1,r1,a,ys,ex,hq,hy,q⟩=>?_)
 subst ex
 cases r1
 refine Calls.spliced_nil ?_
 obtain⟨its,r,pl,hz⟩:=I1.list hq
 have hl:=r.length
 refine call_reversed_list pl.isList ?_
 refine Calls.spliced_nil ?_
 obtain⟨h1,g1,d1,k1,o1⟩:=s1
 have hit:(h1.push (revObj a ((its.toArray.size:Int)-1))).IsRevIter h1.objs.size a ((its.toArray.size:Int)-1-((0:Nat):Int)):=⟨_,Heap.get?_push_size _ rfl,rfl,by show Data.fields _=Data.fields _;rw[show(its.toArray.size:Int)-1-((0:Nat):Int)=(its.toArray.size:Int)-1 by omega]⟩
 have hli:(h1.push (revObj a ((its.toArray.size:Int)-1))).IsList a its.toArray:=pl.isList.push _
 obtain⟨oa,hoa,_⟩:=pl.isList
 have hlt:a<h1.objs.size:=Heap.lt_size hoa
 have hh:X.A.in1.in1.handled=none:=by simp[I.ok.hd hc]
 have ps:(h1.push (revObj a ((its.toArray.size:Int)-1))).objs.size=h1.objs.size+1:=Heap.size_push _ _
 refine Ahp (Walks.toS (Walks.listRev hh h1.objs.size a (Apy hlt) its.toArray)) (λi s x=>x.2.1.typeIs) ⟨Ap8 _,hit,hli⟩ (λb hb=>?_) (by simp) (λs' acc c' mv hM ha=>?_) (by rw[Ap3];omega)
 ·show b<(h1.push (revObj a ((its.toArray.size:Int)-1))).objs.size
  rw[ps]
  rcases List.mem_cons.mp hb with e | e
  ·rw[e];exact Aqk _
  ·rw[List.mem_singleton.mp e];exact Aqv hlt
 ·have vs:Vals ys.reverse acc.toList:=by
   refine Yr _ _ (by rw[ApV,hl];have:=ha.1;simpa using this.symm) λi x u e1 e2=>?_
   have hi:i<ys.length:=by
    have:=(List.getElem?_eq_some_iff.mp e1).1
    rwa [ApV] at this
   have e3:=ha.2 i u (by rw[<- Array.getElem?_toList];exact e2)
   rw[Aq6 hi] at e1
   obtain⟨v,hv,rv'⟩:=r.get e1
   rw[Ap3,<- hl] at e3
   have e4:its[ys.length-1-i]?=some u:=by simpa using e3
   rw[hv] at e4
   cases e4
   exact rv'
  rw[Moved.eq_with mv]
  have hM':s'.heap.get? (h1.objs.size+1)=some { cls:=.type "list", dict:=none,data:=.seq acc c',slots:=#[] }:=by
   have:=hM
   dsimp only at this
   rw[ps] at this
   exact this
  show EP X pins σ Q (Value.ref (h1.push (revObj a ((its.toArray.size:Int)-1))).objs.size) _
  rw[ps]
  refine⟨.ref (h1.objs.size+1),_,I1.laid (t':=s'.toks) (o:=.lst ys.reverse) (h':=s'.heap) (λb o e=>?_) (Aqf _) ?_,rfl,q _ (I1.hok.fresh (Aqf _))⟩
  ·have hb:=Heap.lt_size e
   refine mv.heap b o ?_ (Heap.get?_push_of_some _ (Heap.get?_push_of_some _ e))
   show b∉[(h1.push (revObj a ((its.toArray.size:Int)-1))).objs.size,h1.objs.size]
   rw[ps]
   have hb2:b<h1.objs.size:=hb
   simp only [ApA,ApB,or_false,not_or]
   exact⟨Apy (Aqv hb2),Apy hb2⟩
  ·exact⟨by rw[ApV];exact hz,acc.toList,c',vs,by simpa using hM'⟩
end
def Itv (K:W.Frag)(a:Addr)(n:Nat):It :=
 ⟨λi H=>∃ xs x,SqL K H a xs/\xs.length=n/\i<n/\xs.reverse[i]?=some x,λi H x H'=>H'=H/\∀ xs,SqL K H a xs->xs.reverse[i]?=some x,λi H=>n=i⟩
theorem Ahr{X:Cx}{scope:Scope}(hd:∀ y∈scope.names,y.2≠.free):∀ y∈scope.names,y.2=.free->X.env.scope.names.lookup y.1=some .cell/\scope.names.lookup y.1=some .free:=λy hy e=>absurd e (hd y hy)
section
variable {X:Cx}{tg:Expr}
def AoC (K:W.Frag)(ta:TA):TI:=λσ H R=>ta σ H λvs H1=>∃ a xs,vs=[.ref a]/\SqL K H1 a xs/\R (Itv K a xs.length) H1
end
end L2
namespace PySem
open Sem (wp)
open Builtin Builtin.Str Builtin.Int
open PySem.Spec PyProof.Rows
section
variable {prog:Program}{w:World}{A:Around}{E:Value->Shared->Prop}{s:Shared}{R:Result->Shared->Prop}
abbrev RvP (x:Str):Nat->Value->Prop:=λi v=>∃ c u,x.cps[x.cps.size-1-i]?=some c/\v=.str ⟨#[c]⟩ u
theorem Aea{M I:Addr}{x:Str}{t:Tok}{c:Nat}(hh:A.handled=none)(hb:x.length<=sizeLine)(hit1:s.heap.Dp I x t ((x.length:Int)-1))(hSI:M≠I)(hS₁:s.heap.get? M=some { cls:=.type "list", data:=.seq #[] c }) (res:Value)
  (fin:∀ h' tk acc c',(∀ b o,b≠M->b≠I->s.heap.get? b=some o->h'.get? b=some o)->h'.get? M=some { cls:=.type "list", dict:=none,data:=.seq acc c',slots:=#[] }->ItemsOf (RvP x) acc x.cps.size->R (.ok (.ret res)) { s with heap:=h',toks:=tk }) :
  wpAny (model prog w) A.in1 (Builtin.List.listExtendWith (.ref M) (.ref I) res)
   (λf s'=>match f with | .done d=>R (.ok d) s' | .again k=>k.quiet=true/\codeAny (model prog w) A k R s') (λe s'=>R (.error e) s') s:=by
 have hl:sizeLine=16777216:=sizeLine_eq
 have hb':¬(x.length:Int) ≥ 2 ^ 63:=by omega
 have h1:Builtin.List.listSameRef (.ref M) (.ref I)=false:=by simp[Builtin.List.listSameRef,hSI]
 have hT1:s.TypeIs (.ref I) "reversed" := hit1.typeIs
 unfold Builtin.List.listExtendWith
 refine wpAny_bind (wpAny_typeOf hT1 ?_)
 rw[if_neg (by rw[h1];decide)]
 refine wpAny_bind (Ji hit1 ?_)
 refine wpAny_bind (wpAny_holding ?_)
 unfold Builtin.List.listLengthHint
 refine wpAny_bind (wpAny_specialOf hT1 RV.Akt ?_)
 show wpAny _ A.in1 (specialOf (Value.ref I) (Str.ofString "__length_hint__") >>= _) _ _ _
 refine wpAny_bind (wpAny_specialOf hT1 RV.hint ?_)
 (generalize hid:("reversed.__length_hint__" : String)=id0;(fail_if_success (clear hid id0));wp_delta;rw[show splitId id0=some ("reversed", "__length_hint__") from by subst hid;decide +kernel];subst hid)
 refine wpAny_bind (wpAny_isInstance (b:=true) hT1 (by rw[isSubtype_type];kernel_rfl) ?_)
 show wpAny _ A.in1 (rule "list.length-hint.hint" >>= _) _ _ _
 refine wpAny_bind (wpAny_rule ?_)
 refine wpAny_bind (wpAny_of_eq (RV.Vz.bind _) ?_)
 dsimp only
 refine wpAny_bind (wpAny_attempt (Qg hb' hit1 λu tk htk=>?_))
 have hk0:∃ k:Int,k=(x.length:Int):=⟨_,rfl⟩
 obtain⟨k,hk⟩:=hk0
 rw[<- hk]
 dsimp only
 refine wpAny_bind (m:=asInt? (.int k u)) (wpAny_pure ?_)
 dsimp only
 have f1:Builtin.List.listFitsIndex k=true:=by
  unfold Builtin.List.listFitsIndex
  simp
  omega
 have f2:Builtin.List.listTooLong k.toNat=false:=by
  unfold Builtin.List.listTooLong
  exact decide_eq_false (by omega)
 rw[if_neg (by rw[f1];decide),if_neg (by omega),if_neg (by rw[f2];decide)]
 refine wpAny_pure ?_
 have e00:(x.cps.size:Int)-1-((0:Nat):Int)=(x.length:Int)-1:=by show(x.cps.size:Int)-1-((0:Nat):Int)=(x.cps.size:Int)-1;omega
 by_cases h0:x.length=0
 ·have e0:(k != 0)=false:=by rw[hk,h0];rfl
  rw[e0,if_neg (by decide)]
  have st0:s.heap.Dp I x t ((x.cps.size:Int)-1-((0:Nat):Int)):=by rw[e00];exact hit1
  refine wpAny_pure ⟨plainId_quiet F.plain_extend_loop _,?_⟩
  refine Ip (A:=A) hh hb _ hSI _ _ 0 { s with toks:=tk } #[] _ rfl (Ap8 _) st0 hS₁ (ItemsOf.nil _) λh' tk' acc' c' kp ho' hS' hacc=>?_
  exact fin h' tk' acc' c' (λb o hM hI q=>kp b o hM hI q) hS' hacc
 ·have e0:(k != 0)=true:=by simp;omega
  rw[e0,if_pos (by decide)]
  refine wpAny_bind (wpAny_rule ?_)
  refine wpAny_bind ?_
  show wpAny _ A.in1 (updateSeq M (·.push .none) >>= λ_=>updateSeq M (·.pop)) _ _ _
  refine wpAny_bind (wpAny_updateSeq hS₁ rfl ?_)
  have hS₂:=Heap.get?_update_self (Obj.mapSeq (·.push Value.none)) hS₁ rfl
  refine wpAny_updateSeq hS₂ rfl ?_
  have hS₃:=Heap.get?_update_self (Obj.mapSeq (·.pop)) hS₂ rfl
  have oth:∀ b o,b≠M->s.heap.get? b=some o->((s.heap.update M (Obj.mapSeq (·.push Value.none))).update M (Obj.mapSeq (·.pop))).get? b=some o :=
   λb o hb e=>(Heap.get?_update_other _ _ (Ne.symm hb)).trans ((Heap.get?_update_other _ _ (Ne.symm hb)).trans e)
  have st0:((s.heap.update M (Obj.mapSeq (·.push Value.none))).update M (Obj.mapSeq (·.pop))).Dp I x t ((x.cps.size:Int)-1-((0:Nat):Int)):=by
   rw[e00];exact hit1.at λo q=>oth I o (Ne.symm hSI) q
  refine wpAny_pure ⟨plainId_quiet F.plain_extend_loop _,?_⟩
  refine Ip (A:=A) hh hb _ hSI _ _ 0
   { s with heap:=(s.heap.update M (Obj.mapSeq (·.push Value.none))).update M (Obj.mapSeq (·.pop)),toks:=tk } #[] _ rfl (Ap8 _) st0 hS₃ (ItemsOf.nil _) λh' tk' acc' c' kp ho' hS' hacc=>?_
  exact fin h' tk' acc' c' (λb o hM hI q=>kp b o hM hI (oth b o hM q)) hS' hacc
theorem Ahs{I:Addr}{x:Str}{t:Tok}{Q:Value->Shared->Prop}(hh:A.handled=none)(hb:x.length<=sizeLine)(hit:s.heap.Dp I x t ((x.length:Int)-1))
  (fin:∀ h' tk acc c',(∀ b o,b≠I->s.heap.get? b=some o->h'.get? b=some o)->h'.get? s.heap.objs.size=some { cls:=.type "list", dict:=none,data:=.seq acc c',slots:=#[] }->ItemsOf (RvP x) acc x.cps.size->Q (.ref s.heap.objs.size) { s with heap:=h',toks:=tk }) :
  wpAny (model prog w) A (call (.type "list") [.ref I]) Q E s:=by
 have hlt:I<s.heap.objs.size:=by
  obtain⟨o,ho,_⟩:=hit
  exact Heap.lt_size ho
 refine callType_codes (Q₁:=λob s1=>ob=.ref s.heap.objs.size/\s1={ s with heap:=s.heap.push { cls:=.type "list", data:=.seq #[] } }) F.called_list (F.typeCall_list_1 _) F.entry_list_init (code_list_new _ ⟨rfl,rfl⟩) λob s1 h1=>?_
 obtain⟨rfl,rfl⟩:=h1
 have hM:(s.heap.push { cls:=.type "list", data:=.seq #[] }).get? s.heap.objs.size=some { cls:=.type "list", data:=.seq #[] }:=Heap.get?_push_size _ rfl
 refine⟨⟨_,hM,rfl⟩,F.args_list_init_2 _ _,?_⟩
 show wpAny _ A.in1.in1 (do let old <- Builtin.List.listItems (.ref s.heap.objs.size);Builtin.List.listUpdate (.ref s.heap.objs.size) (λ_=>#[]);letGo old.toList.reverse;Builtin.List.listExtendWith (.ref s.heap.objs.size) (.ref I) .none) _ _ _
 refine wpAny_bind ?_;unfold Builtin.List.listItems
 refine wpAny_bind (wpAny_seqItems hM rfl (wpAny_pure ?_))
 show wpAny _ A.in1.in1 (updateSeq s.heap.objs.size (λ_=>#[]) >>= λ_=>letGo (#[]:Array Value).toList.reverse >>= λ_=>Builtin.List.listExtendWith (.ref s.heap.objs.size) (.ref I) .none) _ _ _
 refine wpAny_bind (wpAny_updateSeq hM rfl ?_)
 have hM2:=Heap.get?_update_self (Obj.mapSeq (λ_=>(#[]:Array Value))) hM rfl
 have ne:s.heap.objs.size≠I:=Aqd hlt
 have off:∀ b o,b≠s.heap.objs.size->s.heap.get? b=some o->((s.heap.push { cls:=.type "list", data:=.seq #[] }).update s.heap.objs.size (Obj.mapSeq (λ_=>(#[]:Array Value)))).get? b=some o:=λb o nb e=>(Heap.get?_update_other _ _ (Ne.symm nb)).trans (Heap.get?_push_of_some _ e)
 refine wpAny_bind (wpAny_letGo ?_)
 refine Aea (A:=A.in1) (s:={ s with heap:=(s.heap.push { cls:=.type "list", data:=.seq #[] }).update s.heap.objs.size (Obj.mapSeq (λ_=>(#[]:Array Value))) }) (by exact hh) hb (hit.at λo e=>off I o (Ne.symm ne) e) ne hM2 .none λh' tk acc c' kp hS' hacc=>?_
 exact⟨rfl,fin h' tk acc c' (λb o hI e=>kp b o (Apy (Heap.lt_size e)) hI (off b o (Apy (Heap.lt_size e)) e)) hS' hacc⟩
end
end PySem
namespace L2
open PySem PySem.Spec PyProof.Rows
section
variable {X:Cx}{K:W.Frag}{p1 p2 pos1 pos2:Pos}{e:Expr}{te:TE}
def AfT (te:TE):TE:=λσ H Q=>te σ H λx H1=>∃ z:Str,x=.str z/\z.length<=1000/\∀ l,H1 l=none->Q (.ref l) (upd H1 l (.lst (z.cps.toList.reverse.map λc=>V.str ⟨#[c]⟩)))
theorem AcQ(hg1:Gl X "list") (hm1:X.mg "list" = none) (hg2:Gl X "reversed") (hm2:X.mg "reversed" = none) (he:PE X e te) (hc:X.calm=true:=by rfl)
  (hs2:starEach [e] X.env=(false,eval e X.env)::starEach [] X.env:=by rfl)
  (hs1:starEach [.Call (.Name "reversed" p2) [e] [] pos2] X.env=(false,eval (.Call (.Name "reversed" p2) [e] [] pos2) X.env)::starEach [] X.env:=by rfl)
  (hq1:(backTo pos1 (starEach [] X.env)).any (·.1)=false:=by rfl) (hq2:(backTo pos2 (starEach [] X.env)).any (·.1)=false:=by rfl) :
  PE X (.Call (.Name "list" p1) [.Call (.Name "reversed" p2) [e] [] pos2] [] pos1) (AfT te):=by
 intro pins s σ H Q I h
 have hsz:sizeLine=16777216:=sizeLine_eq
 refine wpAny_Call_Name_kw (HW I hg1 hm1 Tq ?_)
 refine PyProof.Rows.callWith_type1 ?_ hs1 hq1
 rw[hs1]
 show wpAny _ _ (spliced ((false,eval (.Call (.Name "reversed" p2) [e] [] pos2) X.env)::backTo pos1 (starEach [] X.env))) _ _ s
 refine Calls.spliced_cons ?_
 refine wpAny_Call_Name_kw (HW I hg2 hm2 Jj ?_)
 refine PyProof.Rows.callWith_type1 ?_ hs2 hq2
 rw[hs2]
 show wpAny _ _ (spliced ((false,eval e X.env)::backTo pos2 (starEach [] X.env))) _ _ s
 refine Calls.spliced_cons (thn (he pins s σ H _ I h) λu s1 ⟨x,H1,I1,r1,z,ex,hz,q⟩=>?_)
 subst ex
 obtain⟨tk,rfl⟩:=r1
 refine Calls.spliced_nil ?_
 refine Hv (by omega) ?_
 refine Calls.spliced_nil ?_
 obtain⟨h1,g1,d1,k1,o1⟩:=s1
 have hit:(h1.push (Yj z tk ((z.length:Int)-1))).Dp h1.objs.size z tk ((z.length:Int)-1):=⟨_,Heap.get?_push_size _ rfl,rfl,rfl⟩
 have hh:X.A.handled=none:=I.ok.hd hc
 have ps:(h1.push (Yj z tk ((z.length:Int)-1))).objs.size=h1.objs.size+1:=Heap.size_push _ _
 refine Ahs (by simp[hh]) (by omega) hit λh' tk' acc c' kp hM ha=>?_
 have vs:Vals (z.cps.toList.reverse.map λc=>V.str ⟨#[c]⟩) acc.toList:=by
  refine Yr _ _ (by rw[Apq,ApV,Array.length_toList];have:=ha.1;simpa using this.symm) λi x u e1 e2=>?_
  obtain⟨c,u',hc',rfl⟩:=ha.2 i u (by rw[<- Array.getElem?_toList];exact e2)
  have hi:i<z.cps.size:=by
   have:=(List.getElem?_eq_some_iff.mp e1).1
   rw[Apq,ApV,Array.length_toList] at this
   exact this
  rw[Ap9,Aq6 (by rw[Array.length_toList];exact hi),Array.length_toList,Array.getElem?_toList,hc'] at e1
  cases e1
  exact⟨_,rfl⟩
 have hM':h'.get? (h1.objs.size+1)=some { cls:=.type "list", dict:=none,data:=.seq acc c',slots:=#[] }:=by
  have:=hM
  dsimp only at this
  rw[ps] at this
  exact this
 show EP X pins σ Q (Value.ref (h1.push (Yj z tk ((z.length:Int)-1))).objs.size) _
 rw[ps]
 refine⟨.ref (h1.objs.size+1),_,I1.laid (t':=tk') (o:=.lst (z.cps.toList.reverse.map λc=>V.str ⟨#[c]⟩)) (h':=h') (λb o e=>?_) (Aqf _) ?_,rfl,q _ (I1.hok.fresh (Aqf _))⟩
 ·have hb:=Heap.lt_size e
  have hb2:b<h1.objs.size:=hb
  exact kp b o (Apy hb2) (Heap.get?_push_of_some _ e)
 ·exact⟨by rw[Apq,ApV,Array.length_toList];show z.length<=_;omega,acc.toList,c',vs,by simpa using hM'⟩
end
def Alk (z:Str):It:=⟨λi _=>i<z.cps.size,λi H x H'=>H'=H/\∃ c,z.cps[z.cps.size-1-i]?=some c/\x=.str ⟨#[c]⟩,λi _=>z.cps.size=i⟩
theorem AfU{P:Program}{w:World}{K:W.Frag}{tg:Expr}(z:Str)(tk:Tok)(it:Addr)(hz:z.length<=sizeLine):Turn P w K tg (Alk z) [it] it (λi h=>h.Dp it z tk ((z.cps.size:Int)-1-(i:Int))) where
 mem:=by simp
 obj:=λi h st b hb=>by
  have e:b=it:=by simpa using hb
  subst e
  obtain⟨o,e,c,d⟩:=st
  exact⟨o,e,λv z=>by rw[d] at z;cases z⟩
 keep:=λi h h' st k=>st.at λo e=>k it (by simp) o e
 item:=by
  intro X hP hw hK hc i pins s σ H E I hf st hg
  subst hP hw hK
  have hl:sizeLine=16777216:=sizeLine_eq
  have hi:i<z.cps.size:=hg
  have hb':¬(z.length:Int) ≥ 2 ^ 63:=by omega
  obtain⟨f0,f1,f2,f3,f4,f5⟩:=hf it (by simp)
  have st2:s.heap.Dp it z tk ((z.cps.size-1-i:Nat):Int):=by rw[show((z.cps.size-1-i:Nat):Int)=(z.cps.size:Int)-1-(i:Int) by omega];exact st
  have hx:z.cps[z.cps.size-1-i]?=some (z.cps[z.cps.size-1-i]'(by omega)):=Array.getElem?_eq_getElem (by omega)
  refine HY st2 hx hb' λh' u tk' st' sb=>?_
  have I1:Inv X pins σ H { s with heap:=h',toks:=tk' }:=I.turned (t':=tk') (λb o hb e=>(sb.2 b hb).trans e) f0 f1 f3 f4 f5
  obtain⟨o,e,c,d⟩:=id st'
  refine⟨_,rfl,Ac3 (s:={ s with heap:=h',toks:=tk' }) e c d (by decide) ⟨.str _,H,I1,⟨u,rfl⟩,⟨rfl,_,hx,rfl⟩,?_,λb hb=>(hf b hb).1⟩⟩
  show h'.Dp it z tk ((z.cps.size:Int)-1-((i+1:Nat):Int))
  rw[show(z.cps.size:Int)-1-((i+1:Nat):Int)=((z.cps.size-1-i:Nat):Int)-1 by omega]
  exact st'
 done:=by
  intro X hP hw hK hc i pins s σ H E I hf st hg
  subst hP hw hK
  have e:z.cps.size=i:=hg
  subst e
  obtain⟨f0,f1,f2,f3,f4,f5⟩:=hf it (by simp)
  have st2:s.heap.Dp it z tk (-1):=by rw[show(-1:Int)=(z.cps.size:Int)-1-(z.cps.size:Int) by omega];exact st
  exact Jq (I.ok.hd hc) st2 λh' eb _=>⟨rfl,I.turned (t':=s.toks) (λb o hb e=>eb b o hb e) f0 f1 f3 f4 f5⟩
 self:=λ_ _ _ _ _ st h=>Ji st h
section
variable {X:Cx}{tg:Expr}
def AmH (ta:TA):TI:=λσ H R=>ta σ H λvs H1=>∃ z:Str,vs=[.str z]/\z.length<=sizeLine/\R (Alk z) H1
theorem Ajp{a:Expr}{ta:TA}{p pos:Pos}(hg:Gl X "reversed") (hm:X.mg "reversed" = none) (ha:PA X [a] ta) (hs:starEach [a] X.env=[(false,eval a X.env)]:=by rfl) :
  PI X tg (.Call (.Name "reversed" p) [a] [] pos) (AmH ta):=by
 intro pins s σ H R I h
 refine Call_ (HW I hg hm Jj (PyProof.Rows.callWith_type1 (thn (ha pos pins s σ H _ I h) λus s1 ⟨vs,H1,I1,r1,q1⟩=>?_) hs rfl))
 obtain⟨z,e,hz,q⟩:=q1
 subst e
 have hl:sizeLine=16777216:=sizeLine_eq
 cases r1 with
 | cons r rr =>
  cases rr
  obtain⟨tk,rfl⟩:=r
  refine Hv (by omega) ?_
  have st0:(s1.heap.push (Yj z tk ((z.length:Int)-1))).Dp s1.heap.objs.size z tk ((z.cps.size:Int)-1-((0:Nat):Int)) :=
   ⟨_,Heap.get?_push_size _ rfl,rfl,by show Data.fields _=Data.fields _;rw[show(z.cps.size:Int)-1-((0:Nat):Int)=(z.length:Int)-1 by show(z.cps.size:Int)-1-((0:Nat):Int)=(z.cps.size:Int)-1;omega]⟩
  refine Ji (s:={ s1 with heap:=s1.heap.push (Yj z tk ((z.length:Int)-1)),toks:=s1.toks+1+1 }) st0 ?_
  refine⟨s1.heap.objs.size,[s1.heap.objs.size],_,_,H1,rfl,I1.kept (t':=s1.toks+1+1) λb o e=>Heap.get?_push_of_some _ e,AfU z tk _ hz,st0,λb hb=>?_,q⟩
  have e:b=s1.heap.objs.size:=by simpa using hb
  subst e
  exact I1.AdH (Apv _) (I1.hok.fresh (Apv _))
theorem AfV{z:Str}{Bd:List Nat}{tc:TT}{te:TE}{σ:St}{H:Hp}{Q:VK}(Pv:Nat->List V->Hp->Prop)(h0:Pv 0 [] H)(hl:∀ i ys H,i<=z.cps.size->Pv i ys H->ys.length<=i)
  (hz:z.cps.size<=sizeLine) (hs:∀ i c ys H,i<z.cps.size->z.cps[z.cps.size-1-i]?=some c->Pv i ys H->Dh z.cps.size Pv tc te (some (.str ⟨#[c]⟩)::EY σ Bd) i ys H)
  (hd:∀ ys H p,Pv z.cps.size ys H->H p=none->Q (.ref p) (upd H p (.lst ys))):Qd Bd tc te (Alk z) σ H Q:=by
 refine⟨λi m ys H=>m=z.cps.size-i/\i<=z.cps.size/\Pv i ys H,⟨z.cps.size,by simp,Ap8 _,h0⟩,?_⟩
 rintro i m ys H ⟨rfl,hi,p⟩
 have hy:=hl i ys H hi p
 by_cases hlt:i<z.cps.size
 ·refine .inr ⟨hlt,by omega,λx H' y=>?_⟩
  obtain⟨e,c,hc,rfl⟩:=y
  subst e
  exact hs i c ys _ hlt hc p
 ·have e:i=z.cps.size:=by omega
  subst e
  exact .inl ⟨rfl,by omega,λp' hp=>hd ys H p' p hp⟩
end
theorem Yv{acc:List (Str × Addr)}:∀{names:List (Str × NameKind)} {n:Nat} {h:Heap},names.filter (λy=>y.2 == .cell)=[]->cellsFrom n names acc=acc/\pushCells h names=h
 | [],_,_,_=>⟨rfl,rfl⟩
 | (a,k)::r,n,h,e=>by
  cases hk:k == NameKind.cell with
  | true=>simp[Aq9,hk] at e
  | false =>
   have e':r.filter (λy=>y.2 == .cell)=[]:=by simpa [Aq9,hk] using e
   unfold cellsFrom pushCells
   rw[hk]
   exact Yv e'
theorem AaJ{x:Str}{acc:List (Str × Addr)}:∀{names:List (Str × NameKind)} {n:Nat} {h:Heap},names.filter (λy=>y.2 == .cell)=[(x,.cell)] ->
  cellsFrom n names acc=(x,n)::acc/\pushCells h names=h.push { cls:=.type "cell", data:=.cell none }
 | [],_,_,e=>by simp at e
 | (a,k)::r,n,h,e=>by
  cases hk:k == NameKind.cell with
  | true =>
   have e':(a,k)::r.filter (λy=>y.2 == .cell)=[(x,.cell)]:=by simpa [Aq9,hk] using e
   injection e' with e1 e2
   cases e1
   have:=Yv (acc:=(x,n)::acc) (n:=n+1) (h:=h.push { cls:=.type "cell", data:=.cell none }) e2
   unfold cellsFrom pushCells
   rw[if_pos hk,if_pos hk]
   exact this
  | false =>
   have e':r.filter (λy=>y.2 == .cell)=[(x,.cell)]:=by simpa [Aq9,hk] using e
   have:=AaJ (acc:=acc) (n:=n) (h:=h) e'
   unfold cellsFrom pushCells
   rw[hk]
   exact this
abbrev AeP:Obj:={ cls:=.type "dict", data:=.dict #[] }
abbrev Akw:Obj:={ cls:=.type "cell", data:=.cell none }
theorem AcR{M:Model}{A:Around}{E:Value->Shared->Prop}{s:Shared}{x:Str}{scope:Scope}{globals:Addr}{cl:List (Str × Addr)}{qual:Str}{env:Env}{Q:Env->Shared->Prop}
  (hone:scope.names.filter (λy=>y.2 == .cell)=[(x,.cell)])
  (hQ:Q { scope,locals:=s.heap.objs.size,globals,cells:=(x,s.heap.objs.size+1)::cl,qual,func:=none,code:=env.code,frame:=env.frame,builtins:=env.builtins } { s with heap:=(s.heap.push AeP).push Akw }) :
  wpAny M A (newFunctionEnv scope globals cl [] qual none .none (some env)) Q E s:=by
 simp only [newFunctionEnv,Option.isSome_some,if_true]
 refine wpAny_bind (wpAny_alloc ?_)
 refine wpAny_bind (wpAny_layCells _ (λname kind cells=>by cases hkc:kind == NameKind.cell <;> simp[hkc]) _ _ _ _ ?_)
 have e1:=λ(n:Nat) (h:Heap)=>AaJ (acc:=cl) (n:=n) (h:=h) hone
 rw[(e1 _ s.heap).1,(e1 0 _).2]
 rw[show({ s with heap:=s.heap.push AeP }:Shared).heap.objs.size=s.heap.objs.size+1 from Heap.size_push ..]
 exact wpAny_bind (by rw[List.forIn_nil];exact wpAny_pure (wpAny_pure hQ))
def Ir (X:Cx)(x:Str)(Nc:List Str)(scope:Scope)(cs:List (Str × Addr))(C:Addr)(fp:List Addr)(s:Shared)(H:Hp):Cx where
 prog:=X.prog
 w:=X.w
 K:=X.K
 mg:=X.mg
 base:=X.base
 A:=X.A
 N:=Nc
 s₀:=s
 H₀:=H
 env:=compEnvC scope cs C X.env
 outer:=X.stack
 stack:=X.stack
 ex:=fp
 fn:=λy=>y == x
 calm:=X.calm
 pn:=[]
 xe:=λ_ _=>False
structure Iu (X:Cx) (x:Str) (Nc:List Str) (Bd:List Nat) (scope:Scope):Prop where
 kind:scope.kind=.function
 one:scope.names.filter (λy=>y.2 == .cell)=[(x,.cell)]
 names:∀ y∈scope.names,y.2=.local->scope.names.lookup y.1=some .local
 fr:∀ y∈scope.names,y.2=.free->X.env.scope.names.lookup y.1=some .cell/\scope.names.lookup y.1=some .free
 loc:scope.names.lookup x=some .cell
 len:Nc.length=Bd.length+1
 hd:Nc[0]?=some x
 nd:Nc.Nodup
 cap:∀ k j,Bd[k]?=some j->∃ y,Nc[k+1]?=some y/\X.N[j]?=some y/\scope.names.lookup y=some .free
theorem Iu.cell{X:Cx}{x:Str}{Nc:List Str}{Bd:List Nat}{scope:Scope}(O:Iu X x Nc Bd scope){y:Str}(h:(y,NameKind.cell)∈scope.names):y=x:=by
 have:(y,NameKind.cell)∈scope.names.filter (λy=>y.2 == .cell):=List.mem_filter.mpr ⟨h,rfl⟩
 rw[O.one] at this
 have:=List.mem_singleton.mp this
 injection this
section
variable {X:Cx}{pins:List (Addr × Obj)}{σ:St}{H:Hp}{s:Shared}
theorem Nq{x y:Str}{c0 c:Addr}{cl:List (Str × Addr)}(h:List.lookup y ((x,c0)::cl)=some c):(y=x/\c=c0)\/(y≠x/\cl.lookup y=some c):=by
 rw[ApO] at h
 cases hb:y == x with
 | true=>rw[hb] at h;cases h;exact .inl ⟨beq_iff_eq.mp hb,rfl⟩
 | false=>rw[hb] at h;exact .inr ⟨by simpa using hb,h⟩
theorem Aht{x:Str}{c0:Addr}{cl:List (Str × Addr)}:List.lookup x ((x,c0)::cl)=some c0:=by simp[ApO]
theorem AcS{x y:Str}{c0:Addr}{cl:List (Str × Addr)}(h:y≠x):List.lookup y ((x,c0)::cl)=cl.lookup y:=by
 have:(y == x)=false:=by simpa using h
 simp[ApO,this]
theorem Ahu{x:Str}{Nc:List Str}{Bd:List Nat}{scope:Scope}{cl:List (Str × Addr)}{C c0:Addr}{fp:List Addr}(I:Inv X pins σ H s)(O:Iu X x Nc Bd scope)
  (hcl:∀ x c,cl.lookup x=some c->X.env.cells.lookup x=some c/\(x,NameKind.free)∈scope.names) (Kw:∀ x,(x,NameKind.free)∈scope.names->cl.lookup x=X.env.cells.lookup x)
  (hC:s.heap.objs.size<=C) (hc0:s.heap.objs.size<=c0) (hfp:∀ b∈fp,Hr X pins H b) (hfo:∀ b∈fp,b<s.heap.objs.size):(Ir X x Nc scope ((x,c0)::cl) C fp s H).Ok where
 mod:=I.ok.mod
 kind:=O.kind
 glob:=I.ok.glob
 blt:=I.ok.blt
 above:=hC
 inj:=λa b c e1 e2=>by
  have no:∀{y},cl.lookup y=some c0->False:=λ{y} e=>by
   obtain⟨v,q⟩:=I.cell y c0 (hcl y c0 e).1
   exact ApC _ (Ap0 q.lt hc0)
  rcases Nq e1 with ⟨a1,a2⟩ | ⟨a1,a2⟩ <;> rcases Nq e2 with ⟨b1,b2⟩ | ⟨b1,b2⟩
  ·rw[a1,b1]
  ·subst a2;exact(no b2).elim
  ·subst b2;exact(no a2).elim
  ·exact I.ok.inj a b c (hcl a c a2).1 (hcl b c b2).1
 has:=λy hy=>by
  by_cases hyx:y=x
  ·exact⟨c0,by rw[hyx];exact Aht⟩
  have mem:(y,NameKind.free)∈scope.names:=by
   have hy':((relabel scope X.env).names.lookup y=some .cell)\/((relabel scope X.env).names.lookup y=some .free):=hy
   have hm:∃ k,(y,k)∈(relabel scope X.env).names/\(k=.cell\/k=.free):=by
    rcases hy' with h | h
    ·exact⟨_,PySem.mem_of_lookup h,.inl rfl⟩
    ·exact⟨_,PySem.mem_of_lookup h,.inr rfl⟩
   obtain⟨k,hm,hk⟩:=hm
   obtain⟨⟨n,k'⟩,hm',e⟩:=List.mem_map.mp hm
   dsimp only at e
   by_cases hc:(k' == NameKind.free && X.env.scope.kind == .function && X.env.kindOf n == some .cell)=true
   ·rw[if_pos hc] at e
    injection e with e1 _
    subst e1
    have:k'=.free:=by
     have:=(ApU _ _▸(ApU _ _▸hc).1).1
     simpa using this
    subst this
    exact hm'
   ·rw[if_neg hc] at e
    injection e with e1 e2
    subst e1 e2
    rcases hk with hk | hk
    ·subst hk;exact absurd (O.cell hm') hyx
    ·subst hk;exact hm'
  obtain⟨c,e⟩:=I.ok.has y (.inl (O.fr _ mem rfl).1)
  exact⟨c,(AcS hyx).trans ((Kw y mem).trans e)⟩
 cab:=λy c z e=>by
  have:y=x:=beq_iff_eq.mp z
  rcases Nq e with ⟨_,a2⟩ | ⟨a1,_⟩
  ·rw[a2];exact hc0
  ·exact absurd this a1
 hd:=I.ok.hd
 frames:=I.ok.frames
 stk:=.inl rfl
 exf:=λb hb=>⟨Apy (Ap0 (hfo b hb) hC),λy c e=>by
  rcases Nq e with ⟨_,a2⟩ | ⟨_,a2⟩
  ·rw[a2];exact Aqd (Ap0 (hfo b hb) hc0)
  ·exact(hfp b hb).2.2.2.2.1 y c (hcl y c a2).1⟩
 bs:=I.bs
 bsz:=ApF I.ok.bsz I.sz
 Xa:=λb o e hb=>by
  rcases(hfp b hb).2.2.2.1 with z | z
  ·exact I.ok.Xa b o e z
  ·exact absurd (Ap0 (Heap.lt_size e) (ApF I.ok.bsz z)) (ApC _)
 Vs:=λb hb z=>by
  rcases List.mem_cons.mp (I.Vt b z) with e | e
  ·exact(hfp b hb).2.1 e
  ·exact(hfp b hb).2.2.1 e
 PJ:=I.stack
 frf:=I.QR
theorem AcT{x:Str}{Nc:List Str}{Bd:List Nat}{scope:Scope}{cl:List (Str × Addr)}{C c0:Addr}{fp:List Addr}{h':Heap}{tk:Nat}{m0:Str->Option Value}(I:Inv X pins σ H s)(O:Iu X x Nc Bd scope)
  (hcl:∀ x c,cl.lookup x=some c->X.env.cells.lookup x=some c/\(x,NameKind.free)∈scope.names) (Kw:∀ x,(x,NameKind.free)∈scope.names->cl.lookup x=X.env.cells.lookup x)
  (hC:s.heap.objs.size<=C) (hc0:s.heap.objs.size<=c0) (hfp:∀ b∈fp,Hr X pins H b) (hfo:∀ b∈fp,b<s.heap.objs.size)
  (old:∀ b o,s.heap.get? b=some o->h'.get? b=some o) (hns:h'.Ns C m0) (hce:h'.IsCell c0 none) :
  Inv (Ir X x Nc scope ((x,c0)::cl) C fp s H) [] (none::EY σ Bd) H { s with heap:=h',toks:=tk } where
 ok:=Ahu I O hcl Kw hC hc0 hfp hfo
 os:=rfl
 bare:=I.bare
 base:=Un.kept old
 loc:=by
  refine⟨m0,hns,λi y v hN hσ hv=>?_⟩
  cases i with
  | zero=>simp at hσ
  | succ k =>
   rw[Aqu] at hσ
   obtain⟨j,hj,hs⟩:=Yc hσ
   obtain⟨z,hz1,hz2,hz3⟩:=O.cap k j hj
   have hN':Nc[k+1]?=some y:=hN
   rw[hz1] at hN'
   cases hN'
   have mem:(y,NameKind.free)∈scope.names:=PySem.mem_of_lookup hz3
   have hyx:y≠x:=λe=>by rw[e,O.loc] at hz3;cases hz3
   have hk:=(O.fr _ mem rfl).1
   obtain⟨m,hn,hl⟩:=I.loc
   obtain⟨u,r,l⟩:=hl j y v hz2 hs (.inr (.inl hk))
   refine⟨u,r,?_⟩
   rcases l with ⟨k',_⟩ | ⟨_,c,hc,z⟩
   ·have k'':X.env.scope.names.lookup y=some .local:=k'
    rw[hk] at k'';cases k''
   ·obtain⟨o,ho,hd⟩:=z
    exact .inr ⟨.inl (Fd I.ok.kind hz3 hk),c,(AcS hyx).trans ((Kw y mem).trans hc),o,old _ _ ho,hd⟩
 cell:=λy c e=>by
  rcases Nq e with ⟨_,a2⟩ | ⟨_,a2⟩
  ·rw[a2];exact⟨none,hce⟩
  ·obtain⟨v,o,ho,hd⟩:=I.cell y c (hcl y c a2).1
   exact⟨v,o,old _ _ ho,hd⟩
 free:=I.hok.fresh hC
 Je:=λy c e=>by
  rcases Nq e with ⟨_,a2⟩ | ⟨_,a2⟩
  ·rw[a2];exact I.hok.fresh hc0
  ·exact I.Je y c (hcl y c a2).1
 pin:=λp hp=>absurd (show p∈([]:List (Addr × Obj)) from hp) (by simp)
 hok:=I.hok.kept old
 len:=by
  show(none::EY σ Bd).length=Nc.length
  rw[Apt,Yb,O.len]
theorem Wn{x:Str}{px:Pos}{Nc:List Str}{Bd:List Nat}{scope:Scope}{cl:List (Str × Addr)}{iter elt:Expr}{ifs:List Expr}{pos:Pos}{tc:TT}{te:TE}{Q:VK}{it:Addr}{fp:List Addr}{tn:Nat->Heap->Prop}{J:It}
  {RR:Value->Addr->Result->Shared->Prop}{E:Value->Shared->Prop}
  (O:Iu X x Nc Bd scope) (hc:X.calm=true)
  (hcl:∀ x c,cl.lookup x=some c->X.env.cells.lookup x=some c/\(x,NameKind.free)∈scope.names) (Kw:∀ x,(x,NameKind.free)∈scope.names->cl.lookup x=X.env.cells.lookup x)
  (hte:∀ cs C fp s H,PE (Ir X x Nc scope cs C fp s H) elt te) (htc:∀ cs C fp s H,PIf (Ir X x Nc scope cs C fp s H) ifs tc)
  (I:Inv X pins σ H s) (T:Turn X.prog X.w X.K (.Name x px) J fp it tn) (st:tn 0 s.heap) (hfp:∀ b∈fp,Hr X pins H b) (h:Qd Bd tc te J σ H Q)
  (hRR:∀(D C:Addr) (s':Shared) (m:Str->Option Value),s'.heap.Ns C m->(∀ h',Heap.SameBut C s'.heap h'->∃ H',Inv X pins σ H' { s' with heap:=h' }/\H' C=none/\Q (.ref D) H') ->
   s.heap.objs.size<=C->RR (.ref D) C (.ok .next) s') :
  wpAny (model X.prog X.w) X.A (newList []) (λacc s₃=>wpAny (model X.prog X.w) X.A (newFunctionEnv scope X.env.globals cl [] X.env.qual none .none (some X.env)) (λcenv s₄ =>
   codeAny (model X.prog X.w) X.A (.compStart (.ListComp elt [⟨.Name x px,iter,ifs,0⟩] scope pos) 0 (.ref it) acc { cenv with scope:=relabel scope X.env }) (RR acc cenv.locals) s₄) E s₃) E s:=by
 refine wpAny_newObj_type (AcR O.one ?_)
 dsimp only
 generalize hH2:s.heap.push { cls:=.type "list", dict:=none,data:=.seq ([]:List Value).toArray }=H2 at ⊢
 have hC:H2.objs.size=s.heap.objs.size+1:=by rw[<- hH2,Heap.size_push]
 have hCle:s.heap.objs.size<=H2.objs.size:=by rw[hC];exact Aqf _
 have hc0:s.heap.objs.size<=H2.objs.size+1:=Nat.le_succ_of_le hCle
 have hDC:s.heap.objs.size≠H2.objs.size:=by rw[hC];exact Apy (Aqk _)
 generalize hh1:(H2.push AeP).push Akw=h₁ at ⊢
 have old:∀ b o,s.heap.get? b=some o->h₁.get? b=some o:=λb o e=>by rw[<- hh1];exact Heap.get?_push_of_some _ (Heap.get?_push_of_some _ (hH2▸Heap.get?_push_of_some _ e))
 have hacc:h₁.get? s.heap.objs.size=some (Gm [] 0):=by rw[<- hh1];exact Heap.get?_push_of_some _ (Heap.get?_push_of_some _ (hH2▸Heap.get?_push_size _ rfl))
 have hns₁:h₁.Ns H2.objs.size (λ_=>none):=by rw[<- hh1];exact(Heap.Ns.new H2 (.type "dict")).keeps λb o e=>Heap.get?_push_of_some _ e
 have hce:h₁.IsCell (H2.objs.size+1) none:=by
  rw[<- hh1,show H2.objs.size+1=(H2.push AeP).objs.size from(Heap.size_push ..).symm]
  exact⟨_,Heap.get?_push_size _ rfl,rfl⟩
 have hfo:∀ b∈fp,b<s.heap.objs.size:=λb hb=>by
  obtain⟨o,e,_⟩:=T.obj _ _ st b hb
  exact Heap.lt_size e
 have st1:tn 0 h₁:=T.keep _ _ _ st λb _ o e=>old b o e
 generalize hDD:s.heap.objs.size=D at *
 generalize hCC:H2.objs.size=C at *
 have AcB:D<=C:=hCle
 let Y:Cx:=Ir X x Nc scope ((x,C+1)::cl) C fp s H
 have I0:Inv Y [] (none::EY σ Bd) H { s with heap:=h₁ }:=AcT (tk:=s.toks) I O hcl Kw (by rw[hDD];exact hCle) (by rw[hDD];exact hc0) hfp (λb hb=>by rw[hDD];exact hfo b hb) old hns₁ hce
 have Yg:H D=none:=by rw[<- hDD];exact I.hok.fresh (Apv _)
 have Nk:D≠C:=hDC
 have Dfs:D∉Y.fs:=λz=>by
  have:=I.stack.mem (show D∈frs X.stack from z)
  obtain⟨_,o,e,_⟩:=this
  have:=Heap.lt_size e
  rw[hDD] at this
  exact ApC _ this
 have Yh:∀ y c,Y.env.cells.lookup y=some c->c≠D:=λy c e z=>by
  rcases Nq e with ⟨_,a2⟩ | ⟨_,a2⟩
  ·exact absurd (z.symm.trans a2) (Apy (Nat.lt_succ_of_le AcB))
  obtain⟨v,q⟩:=I.cell y c (hcl y c a2).1
  have:=q.lt
  rw[z,hDD] at this
  exact ApC _ this
 have Dfp:∀ b∈fp,b≠D:=λb hb=>Apy (hfo b hb)
 have fpY:∀{H':Hp},(∀ b∈fp,H' b=none)->∀ b∈fp,Hr Y [] H' b:=λhn b hb =>
  ⟨hn b hb,Apy (Ap0 (hfo b hb) AcB),λz=>I0.ok.Vs b hb z,.inl hb,λy c e=>(I0.ok.exf b hb).2 y c e,λp hp=>absurd (show p∈([]:List (Addr × Obj)) from hp) (by simp)⟩
 obtain⟨W,⟨m0,w0⟩,turn⟩:=h
 have loop:∀ s₃:Shared,s₃={ s with heap:=h₁ } ->
   codeAny (model X.prog X.w) X.A (.compLoop (.ListComp elt [⟨.Name x px,iter,ifs,0⟩] scope pos) 0 (.ref it) (.ref D) (compEnvC scope ((x,C+1)::cl) C X.env)) (RR (.ref D) C) s₃:=by
  rintro s₃ rfl
  refine JK (λn s'=>∃(i:Nat) (o:Option V) (H':Hp) (ys:List V) (us:List Value) (k:Nat),Inv Y [] (o::EY σ Bd) H' s'/\tn i s'.heap/\(∀ b∈fp,H' b=none)/\s'.heap.get? D=some (Gm us k)/\H' D=none/\Vals ys us/\W i n ys H')
   ?_ m0 ⟨0,none,H,[],[],0,I0,st1,λb hb=>(hfp b hb).1,hacc,Yg,.nil,w0⟩
  rintro n s3 ⟨i,o3,H3,ys,us,k,I3,st3,fr3,hD3,nD3,rv,w3⟩
  have fpP:∀{H':Hp} {ob:Obj},(∀ b∈fp,H' b=none)->∀ b∈fp,Hr Y [(D,ob)] H' b:=λhn b hb=>by
   obtain⟨g0,g1,g2,g3,g4,_⟩:=fpY hn b hb
   refine⟨g0,g1,g2,g3,g4,λp hp=>?_⟩
   have e:p=(D,_):=List.mem_singleton.mp (show p∈[(D,_)] from hp)
   rw[e]
   exact Ne.symm (Dfp b hb)
  have IP:Inv Y [(D,Gm us k)] (o3::EY σ Bd) H3 s3:=I3.Gf λp hp=>by
   have e:p=(D,Gm us k):=List.mem_singleton.mp hp
   subst e
   exact⟨hD3,nD3,Nk,Dfs,λv z=>by cases z⟩
  have S5:∀{σ':St} {H':Hp} {s':Shared} {pl:List (Addr × Obj)},Inv Y ([(D,Gm us k)]++pl) σ' H' s'->s'.heap.get? D=some (Gm us k)/\H' D=none:=λI'=>by
   have z:=I'.pin (D,Gm us k) (ApG _ (Aqp _ Ap6))
   exact⟨z.1,z.2.1⟩
  rcases turn i n ys H3 w3 with ⟨stop,hlen,fin⟩ | ⟨go,hlen,step⟩
  ·
   refine wpAny_mono (T.done Y rfl rfl rfl hc i _ s3 _ H3 (λ_ _=>False) IP (fpP fr3) st3 stop) (λr s4 hr=>?_) λ_ _ z=>z.elim
   obtain⟨hr,I4⟩:=hr
   subst hr
   obtain⟨gD,nD⟩:=S5 (pl:=[]) (by simpa using I4)
   obtain⟨m,hn,_⟩:=I4.loc
   refine hRR D C s4 m hn (λh' hs'=>⟨upd H3 D (.lst ys),?_,(Ao (Ne.symm Nk)).trans I4.free,fin D nD⟩) hCle
   have nt:∀ b ob,H3 b=some ob->b≠C:=λb ob e z=>by
    have:=I4.free
    rw[z] at e
    rw[show H3 C=none from this] at e
    cases e
   have u1:Un (frs X.stack) fp H H3 s.heap h':=Un.but I4.base hs' (show s.heap.objs.size<=C by rw[hDD];exact hCle)
   have ok1:HOk X.prog X.w H3 h':=λb ob e=>(I4.hok b ob e).stay (λc v hc q=>(hs'.2 c (by
    rcases hc with z | z
    ·rw[z];exact nt b ob e
    ·exact nt c _ z)).trans q) (λ_ q=>q) λ_ _ q=>q
   have gD':h'.get? D=some (Gm us k):=(hs'.2 D Nk).trans gD
   exact I.call' (s':={ s4 with heap:=h' }) (ch:=fp) I4.os (u1.track (Aqe hDD) nD) (ok1.track nD ⟨hlen,us,k,rv,gD'⟩) I4.bare λb hb=>by
    obtain⟨_,g1,_,g3,g4,g5⟩:=hfp b hb
    exact⟨g3,g1,g4,g5⟩
  ·
   refine wpAny_mono (T.item Y rfl rfl rfl hc i _ s3 _ H3 (λ_ _=>False) IP (fpP fr3) st3 go) (λr s4 hr=>?_) λ_ _ z=>z.elim
   obtain⟨u0,hr,h4⟩:=hr
   subst hr
   refine wpAny_mono h4 (λ_ s5 h5=>?_) λ_ _ z=>z.elim
   obtain⟨x5,H5,I5,r5,y5,st5,fr5⟩:=h5
   have I5':=I5.pinned (fpP fr5) (T.obj _ _ st5)
   have tgt:PG Y (.Name x px) (J8 0):=BK (i:=0) O.nd O.hd (.inr (Dg I.ok.kind O.loc (by intro z;cases z))) (.inl (beq_self_eq_true x))
   refine wpAny_mono (tgt _ s5 _ H5 x5 u0 (λσ2 H2=>σ2=some x5::EY σ Bd/\H2=H5) I5' r5 ⟨rfl,rfl⟩) (λ_ s6 h6=>?_) λ_ _ z=>z.elim
   obtain⟨_,_,I6,rfl,rfl⟩:=h6
   refine wpAny_mono ((htc _ C fp s H).run I6 (step x5 _ y5)) (λb s7 h7=>?_) λ_ _ z=>z.elim
   obtain⟨H7,I7,q7⟩:=h7
   have Qe:∀{σ':St} {H':Hp} {s':Shared},Inv Y ([(D,Gm us k)]++PX fp s5.heap) σ' H' s'->tn (i+1) s'.heap/\∀ b∈fp,H' b=none:=λI' =>
    ⟨T.keep _ _ _ st5 λb hb o e=>(I'.pin (b,o) (ApG _ (ApG _ (Ez hb e)))).1,λb hb=>by
     obtain⟨o,e,d⟩:=T.obj _ _ st5 b hb
     exact(I'.pin (b,o) (ApG _ (ApG _ (Ez hb e)))).2.1⟩
   cases b with
   | false =>
    rw[if_neg Ap5] at q7
    rw[if_neg Ap5]
    obtain⟨m',hm,w7⟩:=q7
    obtain⟨gD,nD⟩:=S5 I7
    obtain⟨k1,k2⟩:=Qe I7
    exact⟨m',hm,i+1,some x5,H7,ys,us,k,I7.Gf (λp hp=>nomatch hp),k1,k2,gD,nD,rv,w7⟩
   | true =>
    rw[if_pos rfl] at q7
    rw[if_pos rfl]
    refine wpAny_mono (hte _ C fp s H _ s7 _ H7 _ I7 q7) (λu8 s8 h8=>?_) λ_ _ z=>z.elim
    obtain⟨y8,H8,I8,r8,m',hm,w8⟩:=h8
    obtain⟨gD,nD⟩:=S5 I8
    obtain⟨k1,k2⟩:=Qe I8
    refine call_meets F.slot_list_append ⟨_,gD,rfl⟩ F.entry_list_append (F.args_list_append_2 _ _) (PySem.list_append D us.toArray k u8 (by rw[Ap3,<- rv.length];omega)) ⟨gD,?_⟩
    have q:=PySem.IsL.update gD (·.push u8)
    have e1:us.toArray.push u8=(us++[u8]).toArray:=by simp
    rw[e1] at q
    have I8':Inv Y [] (some x5::EY σ Bd) H8 s8:=I8.Gf (λp hp=>nomatch hp)
    have I9:Inv Y [] (some x5::EY σ Bd) H8 { s8 with heap:=s8.heap.update D (Obj.mapSeq (·.push u8)),toks:=s8.toks } :=
     I8'.turned (it:=D) (λb o hb e=>(Heap.get?_update_other s8.heap (Obj.mapSeq (·.push u8)) (Ne.symm hb)).trans e) nD Nk (.inr (Aqe hDD)) Yh (λp hp=>nomatch hp)
    refine⟨m',hm,i+1,some x5,H8,ys++[y8],us++[u8],_,I9,T.keep _ _ _ k1 λb hb o e=>(Heap.get?_update_other s8.heap (Obj.mapSeq (·.push u8)) (Ne.symm (Dfp b hb))).trans e,k2,q,nD,rv.append (.cons r8 .nil),w8⟩
 exact codeAny_compStart_list (loop _ rfl) (T.self X.A 0 _ _ _ st1 (loop _ rfl))
theorem Ahv{x:Str}{px pos:Pos}{Nc:List Str}{Bd:List Nat}{scope:Scope}{iter elt:Expr}{ifs:List Expr}{wi:TI}{tc:TT}{te:TE}(O:Iu X x Nc Bd scope)(hc:X.calm=true)(hi:PI X (.Name x px) iter wi)
  (htc:∀ cl C fp s H,PIf (Ir X x Nc scope cl C fp s H) ifs tc) (hte:∀ cl C fp s H,PE (Ir X x Nc scope cl C fp s H) elt te) (hs:∀ x,foldedSetIterable iter X.env x=pure x:=by intro _;rfl) :
  PE X (.ListComp elt [⟨.Name x px,iter,ifs,0⟩] scope pos) (AcA wi Bd tc te):=by
 intro pins s σ H Q I h
 rw[eval_ListComp]
 obtain⟨cl,e1,e2,e3⟩:=HX (scope:=scope) (env:=X.env) λy hy hf=>I.ok.has y.1 (.inl (O.fr y hy hf).1)
 refine wpAny_comprehension_free (use:=none) rfl hs e1 O.kind O.names (thn (hi pins s σ H _ I h) λv s1 h1=>thn h1 λitv s2 h2=>?_)
 obtain⟨it,fp,tn,J,H2,e,I2,T,st2,f2,w2⟩:=h2
 subst e
 refine Wn (RR:=λacc C=>compPost (model X.prog X.w) X.A X.xe none (EP X pins σ Q) acc C) O hc e2 e3 hte htc I2 T st2 f2 w2 ?_
 intro D C s' m hn hq hC
 refine⟨m,hn,λh' hs'=>?_⟩
 obtain⟨H',I',_,q⟩:=hq h' hs'
 exact⟨.ref D,H',I',rfl,q⟩
theorem AcU{i:Nat}{y x:Str}{px py pos spos:Pos}{Nc:List Str}{Bd:List Nat}{scope:Scope}{iter elt:Expr}{ifs:List Expr}{wi:TI}{tc:TT}{te:TE}(O:Iu X x Nc Bd scope)(hc:X.calm=true)
  (hN:X.N.Nodup) (hy:X.N[i]?=some y) (hx:X.env.scope.names.lookup y=some .local) (hi:PI X (.Name x px) iter wi)
  (htc:∀ cl C fp s H,PIf (Ir X x Nc scope cl C fp s H) ifs tc) (hte:∀ cl C fp s H,PE (Ir X x Nc scope cl C fp s H) elt te)
  (hsw:swapsWith (.ListComp elt [⟨.Name x px,iter,ifs,0⟩] scope pos) (some (.Name y py)) spos.line X.env=pure true) (hs:∀ x,foldedSetIterable iter X.env x=pure x:=by intro _;rfl) :
  PS X (.Assign [.Name y py] (.ListComp elt [⟨.Name x px,iter,ifs,0⟩] scope pos) spos) (Ac1 (AcA wi Bd tc te) (J8 i)):=by
 intro pins s σ H Dn I h
 rw[exec_Assign_Name_used _ _ _ _ hsw]
 refine wpAny_bind (wpAny_standAt (wpAny_bind ?_))
 obtain⟨cl,e1,e2,e3⟩:=HX (scope:=scope) (env:=X.env) λy hy hf=>I.ok.has y.1 (.inl (O.fr y hy hf).1)
 show wpAny _ X.A (do let _ <- comprehension (.ListComp elt [⟨.Name x px,iter,ifs,0⟩] scope pos) scope X.env _ (newList []) false (eval iter X.env) (some (assign (.Name y py) X.env))) _ _ s
 refine wpAny_bind (wpAny_mono (wpAny_comprehension_free (use:=some (assign (.Name y py) X.env)) (Q:=λ_ s'=>SP X pins Dn .next s') rfl hs e1 O.kind O.names
  (thn (hi pins s σ H _ I h) λv s1 h1=>thn h1 λitv s2 h2=>?_)) (λ_ s' hq=>wpAny_pure (wpAny_pure hq)) λ_ _ e=>e)
 obtain⟨it,fp,tn,J,H2,e,I2,T,st2,f2,w2⟩:=h2
 subst e
 refine Wn (RR:=λacc C=>compPost (model X.prog X.w) X.A X.xe (some (assign (.Name y py) X.env)) (λ_ s'=>SP X pins Dn .next s') acc C) O hc e2 e3 hte htc I2 T st2 f2 w2 ?_
 intro D C s' m hn hq hC
 show wpAny _ X.A (assign (.Name y py) X.env (.ref D)) _ _ _
 obtain⟨H',I',nC,q⟩:=hq s'.heap (.refl ..)
 have I'':Inv X pins σ H' s':=I'
 have CL:C≠X.env.locals:=Aqd (Ap0 I2.lt hC)
 have Qf:∀ y c,X.env.cells.lookup y=some c->c≠C:=λy c e z=>by
  obtain⟨v,q⟩:=I2.cell y c e
  have:=Ap0 q.lt hC
  rw[z] at this
  exact ApC _ this
 refine wpAny_assign_Name (Ly I'' hN hy (.inl hx) (show RelV (.ref D) (.ref D) from rfl) (λs3 I3 hsb=>?_) (.inr hx))
 obtain⟨a,hsb,ha⟩:=hsb
 have aC:C≠a:=by
  rcases ha with z | z
  ·rw[z];exact CL
  ·exact Ne.symm (Qf _ _ z)
 refine⟨m,hn.sameBut hsb aC,λh4 hs4=>?_⟩
 refine⟨_,H',I3.turned (it:=C) (t':=s3.toks) (λb o hb e=>(hs4.2 b hb).trans e) nC CL (.inr (ApF I2.sz hC)) Qf (λp hp z=>?_),q⟩
 ·have:=Ap0 (Heap.lt_size (I2.pin p hp).1) hC
  rw[z] at this
  exact ApC _ this
def Aof (scope sc:Scope):Scope:={ scope with names:=scope.names.map λ(n,k)=>if (k == .free && sc.kind == .function && sc.names.lookup n == some .cell) then (n,.cell) else (n,k) }
theorem Yw{X:Cx}{sc0 sc1 scope:Scope}{x:Str}{Nc:List Str}{cs:List (Str × Addr)}{C:Addr}{fp:List Addr}{s:Shared}{H:Hp}(h:X.env.scope=sc0)(hd:∀ y∈scope.names,y.2=.free->(Aof sc1 sc0).names.lookup y.1=some .cell/\scope.names.lookup y.1=some .free) :
  ∀ y∈scope.names,y.2=.free->(Ir X x Nc sc1 cs C fp s H).env.scope.names.lookup y.1=some .cell/\scope.names.lookup y.1=some .free:=by
 subst h
 exact hd
end
end L2
namespace Mine
open PySem L2
def Aog (a b:Int):List Int:=if a<b then Am6 (a+1) 1 (b-a).toNat else Am6 (a-1) (-1) (a-b).toNat
def Apd (z:Int):Int:=if z<0 then -z else z
def go (a:Int):List Int->List Int
 | []=>[]
 | b::r=>Aog a b++go b r
def Ape:List Int->List Int
 | []=>[]
 | s::r=>s::go s r
def lst (a:Int):List Int->Int
 | []=>a
 | b::r=>lst b r
def dec (n:Nat):List Nat:=(Str.ofString (toString (n:Int))).cps.toList
theorem Js(n:Nat):Str.ofString (toString (n:Int))=tx (dec n):=(Aks _).symm
def Akx (n:Nat):Bool:=(dec n).all (λc=>decide (48<=c/\c<=57)) && decide (1<=(dec n).length/\(dec n).length<=2) && decide (¬((dec n).length=2/\(dec n)[0]?=some 48)) && decide (PySem.NumText.digitsVal (dec n)=n)
theorem Alm:∀ n,n<100->Akx n=true:=by decide +kernel
structure Dec (n:Nat):Prop where
 dg:∀ c∈dec n,48<=c/\c<=57
 l1:1<=(dec n).length
 l2:(dec n).length<=2
 z:¬((dec n).length=2/\(dec n)[0]?=some 48)
 v:PySem.NumText.digitsVal (dec n)=n
theorem dec_is{n:Nat}(h:n<100):Dec n:=by
 have:=Alm n h
 unfold Akx at this
 simp only [ApU,decide_eq_true_eq,AqA] at this
 obtain⟨⟨⟨h1,h2⟩,h3⟩,h4⟩:=this
 exact⟨h1,h2.1,h2.2,h3,h4⟩
def tails:List Nat->List Nat
 | []=>[]
 | n::r=>45::(dec n++tails r)
def AoD:List Nat->List Nat
 | []=>[]
 | n::r=>dec n++tails r
def Stop(rest:List Nat):Prop:=∀ c,rest[0]?=some c->¬(48<=c/\c<=57)/\c≠45
inductive Nd where
 | nam (w:List Nat)
 | num (n:Nat)
 | run (r:List Nat)
 | node (w:List Nat) (ts:List Nd)
namespace Pat
def sk (l:List Nat):List Nat:=l.dropWhile λc=>decide (c=32)
def letter(c:Nat):Bool:=decide (97<=c/\c<=122)
def Ge (c:Nat):Bool:=decide (48<=c/\c<=57)
def knot(c:Nat):Bool:=decide (c=35\/c=46)
def one (c:Nat):List Nat->Option (List Nat)
 | []=>none
 | a::l=>if a=c then some l else none
def Yx (f:List Nat):Bool:=decide ((1<=f.length/\f.length<=2)/\¬(f.length=2/\f[0]?=some 48))
def num (l:List Nat):Option (Nat × List Nat) :=
 if Yx (l.takeWhile Ge)=true then some (PySem.NumText.digitsVal (l.takeWhile Ge),sk (l.dropWhile Ge)) else none
def comma(l:List Nat):Option (List Nat):=(one 44 l).map sk
def run (l:List Nat):Option (List Nat × List Nat) :=
 if l.takeWhile knot=[] then none else some (l.takeWhile knot,sk (l.dropWhile knot))
def Ef:Nat->List Nat->Option (List (List Nat) × List Nat)
 | 0,_=>none
 | k+1,l=>match one 44 l with
  | none=>some ([],l)
  | some l1=>match run (sk l1) with
   | none=>none
   | some (r,l2)=>(Ef k l2).map λp=>(r::p.1,p.2)
def runs(l:List Nat):Option (List (List Nat) × List Nat) :=
 match run l with
 | none=>none
 | some (r,l1)=>match Ef (l1.length+1) l1 with
  | none=>none
  | some (rs,l2)=>if (r::rs).length>40 then none else some (r::rs,l2)
def wants(w:List Nat):Option (List Nat) :=
 if w=[116,119,105,108,108]\/w=[115,97,116,105,110] then some [110,110]
 else if w=[98,101,115,105,100,101]\/w=[97,98,111,118,101]\/w=[108,97,121] then some [112,112]
 else if w=[109,105,114,114,111,114]\/w=[117,112,101,110,100]\/w=[98,97,99,107]\/w=[113,117,97,114,116,101,114] then some [112]
 else if w=[116,105,108,101] then some [112,110,110]
 else if w=[98,108,111,99,107,115] then some [112,112,112]
 else none
def Fq:List Nat:=[114,111,119,115]
def isWord(w:List Nat):Bool:=decide (w=Fq) || (wants w).isSome
def isName(w:List Nat):Bool:=decide (1<=w.length/\w.length<=20) && w.all letter && !isWord w
def args(sub:List Nat->Option (Nd × List Nat)):Bool->List Nat->List Nat->Option (List Nd × List Nat)
 | _,[],l=>some ([],l)
 | fst,k::ks,l =>
  match (if fst=true then some l else comma l) with
  | none=>none
  | some l1=>match (if k=112 then sub l1 else (num l1).map λp=>(Nd.num p.1,p.2)) with
   | none=>none
   | some (a,l2)=>(args sub false ks l2).map λp=>(a::p.1,p.2)
def things(sub:List Nat->Option (Nd × List Nat))(w l:List Nat):Option (List Nd × List Nat) :=
 if w=Fq then (runs l).map λp=>(p.1.map Nd.run,p.2)
 else match wants w with
  | none=>none
  | some ks=>args sub true ks l
def node:Nat->List Nat->Option (Nd × List Nat)
 | 0,_=>none
 | d+1,l =>
  match one 40 (sk (l.dropWhile letter)) with
  | none=>if isName (l.takeWhile letter)=true then some (.nam (l.takeWhile letter),sk (l.dropWhile letter)) else none
  | some l1=>match things (node d) (l.takeWhile letter) (sk l1) with
   | none=>none
   | some (ts,l2)=>match one 41 l2 with
    | none=>none
    | some l3=>some (.node (l.takeWhile letter) ts,sk l3)
def whole(l:List Nat):Option Nd :=
 match node 12 (sk l) with
 | some (n,[])=>some n
 | _=>none
end Pat
def Sg (c:Nat):Prop:=c=35\/c=46
structure Cl (cl:List (List Nat)) (m n:Nat):Prop where
 hn:cl.length=n
 hm:∀ t∈cl,t.length=m
 sg:∀ t∈cl,∀ c∈t,Sg c
 m1:1<=m
 m40:m<=40
 n1:1<=n
 n40:n<=40
def flip(c:Nat):Nat:=if c=35 then 46 else 35
theorem AeQ(c:Nat):Sg (flip c):=by unfold flip Sg;split <;> simp
def back(cl:List (List Nat)):List (List Nat):=cl.map λt=>t.reverse.map flip
def col (cl:List (List Nat))(e:Nat):List Nat:=cl.map λt=>t.getD e 0
def Wo (cl:List (List Nat))(m:Nat):List (List Nat):=(List.range m).map λe=>(col cl e).map flip
theorem Cl.back{cl:List (List Nat)}{m n:Nat}(h:Cl cl m n):Cl (back cl) m n where
 hn:=by unfold Mine.back;rw[Apq];exact h.hn
 hm:=λt ht=>by
  obtain⟨s,hs,rfl⟩:=List.mem_map.mp ht
  simp[h.hm s hs]
 sg:=λt ht c hc=>by
  obtain⟨s,hs,rfl⟩:=List.mem_map.mp ht
  obtain⟨d,_,rfl⟩:=List.mem_map.mp hc
  exact AeQ d
 m1:=h.m1
 m40:=h.m40
 n1:=h.n1
 n40:=h.n40
theorem Cl.Wo{cl:List (List Nat)}{m n:Nat}(h:Cl cl m n):Cl (Wo cl m) n m where
 hn:=by unfold Mine.Wo;simp
 hm:=λt ht=>by
  obtain⟨e,_,rfl⟩:=List.mem_map.mp ht
  simp[col,h.hn]
 sg:=λt ht c hc=>by
  obtain⟨e,_,rfl⟩:=List.mem_map.mp ht
  obtain⟨d,_,rfl⟩:=List.mem_map.mp hc
  exact AeQ d
 m1:=h.n1
 m40:=h.n40
 n1:=h.m1
 n40:=h.m40
def sgn (cl:List (List Nat))(m n:Nat)(x y:Int):Nat:=(cl.getD (y%(n:Int)).toNat []).getD (x%(m:Int)).toNat 0
def wid (cl:List (List Nat))(ac:Nat):List (List Nat):=cl.map λt=>(List.replicate ac t).flatten
def til (cl:List (List Nat))(ac al:Nat):List (List Nat):=(List.replicate al (wid cl ac)).flatten
theorem Xx{α:Type}(l:List α):∀ k,((List.replicate k l).flatten).length=k*l.length
 | 0=>by simp
 | k+1=>by rw[ApM,ApH,Aps,Xx l k,Nat.add_mul,Nat.one_mul];omega
theorem Tv{α:Type}{l:List α}{x:α}:∀{k},x∈(List.replicate k l).flatten->x∈l
 | 0,h=>by simp at h
 | k+1,h=>by
  rw[ApM,ApH] at h
  rcases List.mem_append.mp h with h | h
  ·exact h
  ·exact Tv h
theorem AeR{α:Type}(l:List α):∀(k i:Nat),i<k*l.length->((List.replicate k l).flatten)[i]?=l[i%l.length]?
 | 0,i,h=>by simp at h
 | k+1,i,h=>by
  rw[ApM,ApH]
  by_cases hi:i<l.length
  ·rw[Aqn hi,AqK hi]
  ·rw[Nat.add_mul,Nat.one_mul] at h
   rw[Aqm (by omega),AeR l k (i-l.length) (by omega)]
   congr 1
   exact(Nat.mod_eq_sub_mod (by omega)).symm
theorem Cl.til{cl:List (List Nat)}{m n ac al:Nat}(h:Cl cl m n)(h1:1<=ac)(h2:1<=al)(h3:ac*m<=40)(h4:al*n<=40):Cl (til cl ac al) (ac*m) (al*n) where
 hn:=by unfold Mine.til;rw[Xx];unfold wid;rw[Apq,h.hn]
 hm:=λt ht=>by
  obtain⟨s,hs,rfl⟩:=List.mem_map.mp (Tv ht)
  rw[Xx,h.hm s hs]
 sg:=λt ht c hc=>by
  obtain⟨s,hs,rfl⟩:=List.mem_map.mp (Tv ht)
  exact h.sg s hs c (Tv hc)
 m1:=Nat.mul_pos h1 h.m1
 m40:=h3
 n1:=Nat.mul_pos h2 h.n1
 n40:=h4
def plc (os:List Int)(k:Nat):Nat:=(os.take k).count (os.getD k 0)
theorem S6{os:List Int}{k:Nat}(h:k<os.length)(z:Int):(os.take (k+1)).count z=(os.take k).count z+if os.getD k 0=z then 1 else 0:=by
 rw[Ap4,List.count_append,Apu h]
 have e:os.getD k 0=os[k]:=by simp[List.getD,h]
 rw[e]
 simp only [Option.toList_some,List.count_cons,List.count_nil,beq_iff_eq]
 simp
theorem count_le{os:List Int}(k:Nat)(z:Int):(os.take k).count z<=os.count z:=List.Sublist.count_le _ (List.take_sublist _ _)
theorem Aeb{os:List Int}{k:Nat}(h:k<os.length):plc os k<os.count (os.getD k 0):=by
 have h1:=S6 h (os.getD k 0)
 rw[if_pos rfl] at h1
 have h2:=count_le (os:=os) (k+1) (os.getD k 0)
 unfold plc
 omega
def Tw (o e:Int)(own:List Nat)(p:Nat):Nat:=if o=e then own.getD p 0 else if e<o then 35 else 46
def FQ (ps:List (List (List Nat)))(es:List Int)(o:Int)(b:Nat):List Nat:=(List.range es.length).map λk=>Tw o (es.getD k 0) ((ps.getD o.toNat []).getD b []) (plc es k)
def lay (ps:List (List (List Nat)))(es os:List Int):List (List Nat):=(List.range os.length).map λj=>FQ ps es (os.getD j 0) (plc os j)
theorem JV(ps:List (List (List Nat)))(es:List Int)(o:Int)(b:Nat):(FQ ps es o b).length=es.length:=by unfold FQ;rw[Apq,ApE]
theorem S7{ps:List (List (List Nat))}{es:List Int}{o:Int}{b k:Nat}(h:k<es.length):(FQ ps es o b)[k]?=some (Tw o (es.getD k 0) ((ps.getD o.toNat []).getD b []) (plc es k)):=by
 unfold FQ
 rw[Ap9,AqB h]
 rfl
theorem Ab3(ps:List (List (List Nat)))(es os:List Int):(lay ps es os).length=os.length:=by unfold lay;rw[Apq,ApE]
theorem AeS{ps:List (List (List Nat))}{es os:List Int}{j:Nat}(h:j<os.length):(lay ps es os)[j]?=some (FQ ps es (os.getD j 0) (plc os j)):=by
 unfold lay
 rw[Ap9,AqB h]
 rfl
structure Aec (ps:List (List (List Nat))) (es os:List Int):Prop where
 e:∀ z∈es,0<=z/\z<(ps.length:Int)
 o:∀ z∈os,0<=z/\z<(ps.length:Int)
 hn:∀ i,i<ps.length->(ps.getD i []).length=os.count (i:Int)
 hm:∀ i,i<ps.length->∀ t∈ps.getD i [],t.length=es.count (i:Int)/\∀ c∈t,Sg c
 e1:1<=es.length
 e40:es.length<=40
 o1:1<=os.length
 o40:os.length<=40
theorem getD_mem{os:List Int}{k:Nat}(h:k<os.length):os.getD k 0∈os:=by
 have e:os.getD k 0=os[k]:=by simp[List.getD,h]
 rw[e]
 exact ApI h
theorem Aec.own{ps:List (List (List Nat))}{es os:List Int}(C:Aec ps es os){j:Nat}(h:j<os.length):(os.getD j 0).toNat<ps.length/\plc os j<(ps.getD (os.getD j 0).toNat []).length:=by
 have h1:=C.o _ (getD_mem h)
 have h2:(os.getD j 0).toNat<ps.length:=by omega
 refine⟨h2,?_⟩
 rw[C.hn _ h2,show(((os.getD j 0).toNat:Nat):Int)=os.getD j 0 by omega]
 exact Aeb h
theorem Aec.row{ps:List (List (List Nat))}{es os:List Int}(C:Aec ps es os){i b:Nat}(h:i<ps.length)(hb:b<(ps.getD i []).length):((ps.getD i []).getD b []).length=es.count (i:Int):=by
 have e:(ps.getD i []).getD b []=(ps.getD i [])[b]:=by rw[ApR,Apu hb];rfl
 rw[e]
 exact(C.hm i h _ (ApI hb)).1
structure Own (es:List Int) (z:Int) (i:Nat) (ms:List Nat):Prop where
 len:ms.length=(es.take i).count z
 lt:∀ m∈ms,m<i
 at':∀ a m,ms[a]?=some m->es.getD m 0=z/\(es.take m).count z=a
def Rs (ks:List Int):Prop:=(∀(i:Nat) (a b:Int),ks[i]?=some a->ks[i+1]?=some b->a<b)/\∀ k∈ks,0<=k/\k<40
structure Ft (th:List Int) (tss:List (List Int)) (tr:List Int):Prop where
 m1:1<=th.length
 m40:th.length<=40
 t1:1<=tss.length
 t40:tss.length<=40
 n1:1<=tr.length
 n40:tr.length<=40
 hth:∀ v∈th,0<=v/\v<40
 hti:∀ ks∈tss,Rs ks
 htr:∀ v∈tr,0<=v/\v<tss.length
def shd (th ks:List Int):List Nat:=th.map λs=>if s∈ks then 35 else 46
def wv (th:List Int)(tss:List (List Int))(tr:List Int):List (List Nat):=tr.map λv=>shd th (tss.getD v.toNat [])
section
variable {α β:Type} [DecidableEq α] [DecidableEq β]
def unl (l:List α):List α:=l.foldl (λf x=>if x∈f then f else f++[x]) []
def ix (l:List α)(x:α):Nat:=@List.idxOf α instBEqOfDecidableEq x l
def num (l:List α):List Nat:=l.map λx=>ix (unl l) x
end
theorem Gs{α β:Type}{f:α->List β}{h:Nat}:∀ xs:List α,(∀ x∈xs,(f x).length=h)->(xs.flatMap f).length=xs.length*h
 | [],_=>by simp
 | x::xs,k=>by
  rw[AqL,Aps,k x Ap6,Gs xs λy hy=>k y (Ap7 _ hy),Apt,Aq2]
  omega
theorem Tz{α β:Type}{f:α->List β}{h:Nat}:∀(xs:List α),(∀ x∈xs,(f x).length=h)->∀ i s,s<h->(xs.flatMap f)[i*h+s]?=xs[i]?.bind λx=>(f x)[s]?
 | [],_,i,s,hs=>by simp
 | x::xs,k,0,s,hs=>by
  rw[AqL,Nat.zero_mul,Nat.zero_add,Aqn (by rw[k x Ap6];exact hs)]
  rfl
 | x::xs,k,i+1,s,hs=>by
  have kx:=k x Ap6
  rw[AqL,Aqm (by rw[kx,Aq2];omega),kx,show(i+1)*h+s-h=i*h+s by rw[Aq2];omega,
   Tz xs (λy hy=>k y (Ap7 _ hy)) i s hs,Aqu]
def bw (bs:List Nat)(F:Nat)(ws:List Nat):List Nat:=bs.flatMap λb=>ws.map λx=>b*F+x
def fil (pr one other:List (List Nat)):List (List Nat):=pr.flatMap λu=>(one.zip other).map λq=>u.flatMap λc=>if c=35 then q.1 else q.2
section
variable {pr one other:List (List Nat)}{m n w h:Nat} (C:Cl pr m n) (C1:Cl one w h) (C2:Cl other w h)
include C C1 C2
theorem Ajq:(fil pr one other).length=n*h:=by
 unfold fil
 rw[Gs (h:=h) pr λx _=>by rw[Apq,Aqt,C1.hn,C2.hn,Aqb],C.hn]
theorem Ahw{u a b:List Nat}(ha:a∈one)(hb:b∈other):(u.flatMap λc=>if c=35 then a else b).length=u.length*w:=Gs u λx _=>by split;exact C1.hm a ha;exact C2.hm b hb
theorem Aln(hm:m*w<=40)(hn:n*h<=40):Cl (fil pr one other) (m*w) (n*h):=by
 have key:∀ r∈fil pr one other,∃ u∈pr,∃ a∈one,∃ b∈other,r=u.flatMap λc=>if c=35 then a else b:=λr hr=>by
  unfold fil at hr
  obtain⟨u,hu,hr⟩:=List.mem_flatMap.mp hr
  obtain⟨⟨a,b⟩,hq,rfl⟩:=List.mem_map.mp hr
  have z:=Aqz hq
  exact⟨u,hu,a,z.1,b,z.2,rfl⟩
 refine⟨Ajq C C1 C2,λr hr=>?_,λr hr c hc=>?_,Nat.mul_pos C.m1 C1.m1,hm,Nat.mul_pos C.n1 C1.n1,hn⟩
 ·obtain⟨u,hu,a,ha,b,hb,rfl⟩:=key r hr
  rw[Ahw C C1 C2 ha hb,C.hm u hu]
 ·obtain⟨u,hu,a,ha,b,hb,rfl⟩:=key r hr
  obtain⟨d,hd,hc⟩:=List.mem_flatMap.mp hc
  split at hc
  ·exact C1.sg a ha c hc
  ·exact C2.sg b hb c hc
end
def twW:List Nat:=[116,119,105,108,108]
def saW:List Nat:=[115,97,116,105,110]
def beW:List Nat:=[98,101,115,105,100,101]
def abW:List Nat:=[97,98,111,118,101]
def miW:List Nat:=[109,105,114,114,111,114]
def upW:List Nat:=[117,112,101,110,100]
def baW:List Nat:=[98,97,99,107]
def quW:List Nat:=[113,117,97,114,116,101,114]
def tiW:List Nat:=[116,105,108,101]
def blW:List Nat:=[98,108,111,99,107,115]
def laW:List Nat:=[108,97,121]
def twl (m n:Nat)(y x:Nat):Nat:=if (x+(m+n)-y)%(m+n)<m then 35 else 46
def twT (m n y:Nat):List Nat:=(List.range (m+n)).map (twl m n y)
def Yy (m n:Nat):List Nat:=List.replicate m 35++List.replicate n 46
theorem AcV{m n:Nat}:(Yy m n).length=m+n:=by unfold Yy;rw[Aps,ApQ,ApQ]
theorem AeT{m n i:Nat}(h:i<(Yy m n).length):(Yy m n)[i]=if i<m then 35 else 46:=by
 unfold Yy at h ⊢
 by_cases c:i<m
 ·rw[if_pos c,Aqw (by rw[ApQ];exact c),AqC]
 ·rw[if_neg c,AqD (by rw[ApQ];lia),AqC]
theorem Alo{m n y:Nat}(hy:y<m+n):(Yy m n).drop (m+n-y)++(Yy m n).take (m+n-y)=twT m n y:=by
 have fl:=@AcV m n
 apply List.ext_getElem
 ·unfold twT
  rw[Aps,ApK,Ap2,fl,Apq,ApE]
  lia
 ·intro x h1 h2
  have hx:x<m+n:=by
   unfold twT at h2
   rw[Apq,ApE] at h2
   exact h2
  have hd:((Yy m n).drop (m+n-y)).length=y:=by rw[ApK,fl];lia
  have e2:(twT m n y)[x]=twl m n y x:=by simp only [twT,List.getElem_map,List.getElem_range]
  rw[e2]
  unfold twl
  by_cases c:x<y
  ·rw[Aqw (by rw[hd];exact c),List.getElem_drop,AeT,show m+n-y+x=x+(m+n)-y by lia,AqK (show x+(m+n)-y<m+n by lia)]
  ·rw[AqD (by rw[hd];lia),List.getElem_take,AeT,hd]
   have e:(x+(m+n)-y)%(m+n)=x-y:=by
    rw[show x+(m+n)-y=(x-y)+(m+n) by lia,Nat.add_mod_right]
    exact AqK (by lia)
   rw[e]
theorem rep1(n c:Nat):(List.replicate n [c]).flatten=List.replicate n c:=by
 induction n with
 | zero=>rfl
 | succ n ih=>rw[ApM,ApH,ih,ApM];rfl
def stT (s o:Nat):List Nat:=(List.range s).map λx=>if x=o then 35 else 46
theorem Alp{s o:Nat}(ho:o<s):List.replicate o 46++[35]++List.replicate (s-1-o) 46=stT s o:=by
 apply List.ext_getElem
 ·unfold stT
  simp only [Aps,ApQ,Apt,Apz,Apq,ApE]
  lia
 ·intro x h1 h2
  have e2:(stT s o)[x]=if x=o then 35 else 46:=by simp only [stT,List.getElem_map,List.getElem_range]
  rw[e2]
  by_cases c:x<o
  ·rw[if_neg (by lia),Aqw (by simp only [Aps,ApQ,Apt,Apz];lia),Aqw (by rw[ApQ];exact c),AqC]
  ·by_cases c2:x=o
   ·subst c2
    rw[if_pos rfl,Aqw (by simp only [Aps,ApQ,Apt,Apz];lia),AqD (by rw[ApQ];lia)]
    simp
   ·rw[if_neg c2,AqD (by simp only [Aps,ApQ,Apt,Apz];lia),AqC]
def saT (s p y:Nat):List Nat:=stT s (y*p%s)
def Ab4 (m n i:Nat):List Bool:=(List.range i).map λj=>decide (m%(2+j)=0) && decide (n%(2+j)=0)
def cop (m n k:Nat):Bool:=(Ab4 m n (k-1)).any id
theorem Ahx{m n i:Nat}:(Ab4 m n i).length=i:=by unfold Ab4;rw[Apq,ApE]
theorem AfW{m n i:Nat}:Ab4 m n (i+1)=Ab4 m n i++[decide (m%(2+i)=0) && decide (n%(2+i)=0)]:=by
 unfold Ab4
 rw[ApZ,Apx]
 rfl
def Pri (s p:Nat):Prop:=1<=p/\p<s/\cop s p p=false
instance (s p:Nat):Decidable (Pri s p):=inferInstanceAs (Decidable (_/\_/\_))
inductive Rf where
 | nop
 | big
 | unk
inductive Res where
 | ok (rows:List (List Nat))
 | no (f:Rf)
def wdt (x:List (List Nat)):Nat:=(x.headD []).length
def Yz (rs:List (List Nat)):Res:=if (rs.map λr=>decide (¬r.length=wdt rs)).any id=true then .no .nop else if 40<wdt rs\/40<rs.length then .no .big else .ok rs
def Nr (a b:Nat):Res:=if a<1\/b<1 then .no .nop else if 40<a+b then .no .big else .ok ((List.range (a+b)).map (twT a b))
def Nt (m n:Nat):Res:=if ¬Pri m n then .no .nop else if 40<m then .no .big else .ok ((List.range m).map (saT m n))
def Nu (x y:List (List Nat)):Res:=if ¬x.length=y.length then .no .nop else if 40<wdt x+wdt y\/40<x.length then .no .big else .ok (List.zipWith (·++·) x y)
def S8 (x y:List (List Nat)):Res:=if ¬wdt x=wdt y then .no .nop else if 40<wdt x\/40<x.length+y.length then .no .big else .ok (x++y)
def AcW (z:List Nat)(x:List (List Nat)):Res:=if z=miW then .ok (x.map List.reverse) else if z=upW then .ok x.reverse else if z=baW then .ok (back x) else .ok (Wo x (wdt x))
def Y0 (x:List (List Nat))(a b:Nat):Res:=if a<1\/b<1 then .no .nop else if 40<wdt x*a\/40<x.length*b then .no .big else .ok (til x a b)
def Nv (p x y:List (List Nat)):Res:=if ¬wdt x=wdt y\/¬x.length=y.length then .no .nop else if 40<wdt p*wdt x\/40<p.length*x.length then .no .big else .ok (fil p x y)
def Ia (k:Nat):List Int:=(List.replicate k [(0:Int),1]).flatten
def Aed (x y:List (List Nat)):Res:=if ¬wdt x=wdt y\/¬x.length=y.length then .no .nop else if 40<2*wdt x\/40<2*x.length then .no .big else .ok (lay [x,y] (Ia (wdt x)) (Ia x.length))
inductive Arg where
 | num (n:Nat)
 | run (r:List Nat)
 | cl (x:List (List Nat)) (z:List Nat)
def runOf:Arg->List Nat
 | .run r=>r
 | _=>[]
def made(z:List Nat)(as:List Arg):Res :=
 if z=Pat.Fq then Yz (as.map runOf) else
 match as with
 | [.num a,.num b]=>if z=twW then Nr a b else Nt a b
 | [.cl x _]=>AcW z x
 | [.cl x _,.cl y _]=>if z=beW then Nu x y else if z=abW then S8 x y else Aed x y
 | [.cl x _,.num a,.num b]=>Y0 x a b
 | [.cl x _,.cl y _,.cl w _]=>Nv x y w
 | _=>.no .nop
def cj:List (List Nat)->List Nat
 | []=>[]
 | y::ys=>y++(ys.map λy=>[44]++y).flatten
def wrA:Arg->List Nat
 | .num n=>dec n
 | .run r=>r
 | .cl _ z=>z
def wz (z:List Nat)(ys:List (List Nat)):List Nat:=z++(40::(cj ys++[41]))
def wr:Nat->Nd->List Nat
 | _,.nam z=>z
 | _,.num n=>dec n
 | _,.run r=>r
 | 0,.node _ _=>[]
 | d+1,.node z ts=>wz z (ts.map (wr d))
def arg (sub:Nd->Res)(wrt:Nd->List Nat):Nd->Rf ⊕ Arg
 | .num n=>.inr (.num n)
 | .run r=>.inr (.run r)
 | .nam z=>match sub (.nam z) with
  | .ok x=>.inr (.cl x (wrt (.nam z)))
  | .no f=>.inl f
 | .node z ts=>match sub (.node z ts) with
  | .ok x=>.inr (.cl x (wrt (.node z ts)))
  | .no f=>.inl f
def args(sub:Nd->Res)(wrt:Nd->List Nat):List Nd->Rf ⊕ List Arg
 | []=>.inr []
 | x::ts=>match arg sub wrt x with
  | .inl f=>.inl f
  | .inr a=>match args sub wrt ts with
   | .inl f=>.inl f
   | .inr as=>.inr (a::as)
abbrev Kns:=List (List Nat × List (List Nat))
def known(kn:Kns)(z:List Nat):Res:=match kn.find? λp=>decide (p.1=z) with
 | some p=>.ok p.2
 | none=>.no .unk
def out (kn:Kns):Nat->Nd->Res
 | _,.nam z=>known kn z
 | d+1,.node z ts=>match args (out kn d) (wr d) ts with
  | .inl f=>.no f
  | .inr as=>made z as
 | _,_=>.no .nop
theorem Ab5{kn:Kns}{d:Nat}{z:List Nat}:out kn d (.nam z)=known kn z:=by cases d <;> rfl
theorem V3{d:Nat}{z:List Nat}:wr d (.nam z)=z:=by cases d <;> rfl
theorem Jt{d n:Nat}:wr d (.num n)=dec n:=by cases d <;> rfl
theorem S9{d:Nat}{r:List Nat}:wr d (.run r)=r:=by cases d <;> rfl
theorem AeU{kn:Kns}{d:Nat}:∀{ts:List Nd} {as:List Arg},args (out kn d) (wr d) ts=.inr as->as.map wrA=ts.map (wr d)
 | [],as,h=>by cases h;rfl
 | x::ts,as,h=>by
  unfold args at h
  have hx:∀ a,arg (out kn d) (wr d) x=.inr a->wrA a=wr d x:=λa ha=>by
   cases x with
   | num n=>cases ha;exact Jt.symm
   | run r=>cases ha;exact S9.symm
   | nam z =>
    unfold arg at ha
    dsimp only at ha
    cases e:out kn d (.nam z) with
    | ok x=>rw[e] at ha;cases ha;rfl
    | no f=>rw[e] at ha;cases ha
   | node z ts =>
    unfold arg at ha
    dsimp only at ha
    cases e:out kn d (.node z ts) with
    | ok x=>rw[e] at ha;cases ha;rfl
    | no f=>rw[e] at ha;cases ha
  cases e:arg (out kn d) (wr d) x with
  | inl f=>rw[e] at h;cases h
  | inr a =>
   rw[e] at h
   dsimp only at h
   cases e2:args (out kn d) (wr d) ts with
   | inl f=>rw[e2] at h;cases h
   | inr as' =>
    rw[e2] at h
    cases h
    rw[Apw,Apw,hx a e,AeU e2]
theorem Y4{sub:Nd->Res}{wrt:Nd->List Nat}:∀{ts:List Nd} {as:List Arg},args sub wrt ts=.inr as->as.length=ts.length
 | [],as,h=>by cases h;rfl
 | x::ts,as,h=>by
  unfold args at h
  cases e:arg sub wrt x with
  | inl f=>rw[e] at h;cases h
  | inr a =>
   rw[e] at h
   dsimp only at h
   cases e2:args sub wrt ts with
   | inl f=>rw[e2] at h;cases h
   | inr as'=>rw[e2] at h;cases h;rw[Apt,Apt,Y4 e2]
theorem AaK{sub:Nd->Res}{wrt:Nd->List Nat}{x:Nd}:∀{ts:List Nd} {as:List Arg},args sub wrt ts=.inr as->args sub wrt (ts++[x])=match arg sub wrt x with
  | .inl f=>.inl f
  | .inr a=>.inr (as++[a])
 | [],as,h=>by
  cases h
  rw[Aq3]
  unfold args
  cases arg sub wrt x with
  | inl f=>rfl
  | inr a=>rfl
 | y::ts,as,h=>by
  unfold args at h
  rw[Aqx]
  conv=>lhs;unfold args
  cases e:arg sub wrt y with
  | inl f=>rw[e] at h;cases h
  | inr a =>
   rw[e] at h
   dsimp only at h ⊢
   cases e2:args sub wrt ts with
   | inl f=>rw[e2] at h;cases h
   | inr as' =>
    rw[e2] at h
    cases h
    rw[AaK e2]
    cases arg sub wrt x with
    | inl f=>rfl
    | inr b=>rfl
theorem AeV{sub:Nd->Res}{wrt:Nd->List Nat}{f:Rf}:∀{ts us:List Nd},args sub wrt ts=.inl f->args sub wrt (ts++us)=.inl f
 | [],us,h=>by cases h
 | y::ts,us,h=>by
  unfold args at h
  rw[Aqx]
  unfold args
  cases e:arg sub wrt y with
  | inl f=>rw[e] at h;exact h
  | inr a =>
   rw[e] at h
   dsimp only at h ⊢
   cases e2:args sub wrt ts with
   | inl f=>rw[e2] at h;rw[AeV e2];exact h
   | inr as'=>rw[e2] at h;cases h
inductive Wd:Nat->Nd->Prop
 | nam {d:Nat} {z:List Nat}:Pat.isName z=true->Wd (d+1) (.nam z)
 | rows {d:Nat} {rs:List (List Nat)}:rs≠[]->rs.length<=40->(∀ r∈rs,r≠[]/\∀ c∈r,Sg c)->Wd (d+1) (.node Pat.Fq (rs.map Nd.run))
 | nums {d:Nat} {z:List Nat} {a b:Nat}:z=twW\/z=saW->a<100->b<100->Wd (d+1) (.node z [.num a,.num b])
 | one {d:Nat} {z:List Nat} {x:Nd}:z=miW\/z=upW\/z=baW\/z=quW->Wd d x->Wd (d+1) (.node z [x])
 | two {d:Nat} {z:List Nat} {x y:Nd}:z=beW\/z=abW\/z=laW->Wd d x->Wd d y->Wd (d+1) (.node z [x,y])
 | tile {d:Nat} {x:Nd} {a b:Nat}:Wd d x->a<100->b<100->Wd (d+1) (.node tiW [x,.num a,.num b])
 | blk {d:Nat} {x y w:Nd}:Wd d x->Wd d y->Wd d w->Wd (d+1) (.node blW [x,y,w])
theorem Pat.Qj(l:List Nat):(Pat.sk l).length<=l.length:=(AqM _).length_le
theorem Pat.Aee(p:Nat->Bool)(l:List Nat):(l.takeWhile p).length+(l.dropWhile p).length=l.length:=by
 have:=congrArg List.length (List.takeWhile_append_dropWhile (p:=p) (l:=l))
 rw[Aps] at this
 exact this
theorem Pat.Xy{c:Nat}{l l':List Nat}(h:Pat.one c l=some l'):l'.length+1=l.length:=by
 cases l with
 | nil=>cases h
 | cons a l =>
  unfold Pat.one at h
  dsimp only at h
  by_cases e:a=c
  ·rw[if_pos e] at h;cases h;rfl
  ·rw[if_neg e] at h;cases h
theorem Aef{p:Nat->Bool}:∀{l:List Nat} {c:Nat},c∈l.takeWhile p->p c=true
 | [],c,h=>by simp at h
 | a::l,c,h=>by
  rw[Aqo] at h
  split at h
  next e =>
   rcases List.mem_cons.mp h with rfl | h
   ·exact e
   ·exact Aef h
  ·simp at h
theorem Ajr{f:List Nat}(h:Pat.Yx f=true)(hf:∀ c∈f,Pat.Ge c=true):NumText.digitsVal f<100/\(dec (NumText.digitsVal f)).length<=f.length:=by
 unfold Pat.Yx at h
 have h:=of_decide_eq_true h
 have dig:∀ c,Pat.Ge c=true->48<=c/\c<=57:=λc hc=>of_decide_eq_true hc
 rcases f with _ | ⟨a,_ | ⟨b,_ | ⟨c,f⟩⟩⟩
 ·simp at h
 ·have ha:=dig a (hf a (by simp))
  have e:a=48\/a=49\/a=50\/a=51\/a=52\/a=53\/a=54\/a=55\/a=56\/a=57:=by lia
  rcases e with rfl | rfl | rfl | rfl | rfl | rfl | rfl | rfl | rfl | rfl <;> decide +kernel
 ·have ha:=dig a (hf a (by simp))
  have hb:=dig b (hf b (by simp))
  have e:a=48\/a=49\/a=50\/a=51\/a=52\/a=53\/a=54\/a=55\/a=56\/a=57:=by lia
  have e2:b=48\/b=49\/b=50\/b=51\/b=52\/b=53\/b=54\/b=55\/b=56\/b=57:=by lia
  have key:∀ x∈List.range 58,∀ y∈List.range 58,48<=x->48<=y->NumText.digitsVal [x,y]<100/\(dec (NumText.digitsVal [x,y])).length<=2:=by decide +kernel
  exact key a (List.mem_range.mpr (by lia)) b (List.mem_range.mpr (by lia)) (by lia) (by lia)
 ·simp at h
theorem Pat.Alq{l l':List Nat}{n:Nat}(h:Pat.num l=some (n,l')):n<100/\(dec n).length+l'.length<=l.length:=by
 unfold Pat.num at h
 split at h
 next e =>
  cases h
  have g:=Ajr e λc hc=>Aef hc
  have:=Pat.Qj (l.dropWhile Pat.Ge)
  have:=Pat.Aee Pat.Ge l
  exact⟨g.1,by lia⟩
 ·cases h
theorem Pat.AfX{l l':List Nat}(h:Pat.comma l=some l'):l'.length+1<=l.length:=by
 unfold Pat.comma at h
 cases e:Pat.one 44 l with
 | none=>rw[e] at h;cases h
 | some l1 =>
  rw[e] at h
  cases h
  have:=Pat.Xy e
  have:=Pat.Qj l1
  lia
theorem Pat.Ahy{l r l':List Nat}(h:Pat.run l=some (r,l')):r≠[]/\(∀ c∈r,Sg c)/\r.length+l'.length<=l.length:=by
 unfold Pat.run at h
 split at h
 ·cases h
 next e =>
  cases h
  have:=Pat.Qj (l.dropWhile Pat.knot)
  have:=Pat.Aee Pat.knot l
  exact⟨e,λc hc=>of_decide_eq_true (p:=c=35\/c=46) (Aef hc),by lia⟩
theorem Pat.AeW:∀{k:Nat} {l l':List Nat} {rs:List (List Nat)},Pat.Ef k l=some (rs,l')->(∀ r∈rs,r≠[]/\∀ c∈r,Sg c)/\((rs.map λy=>[44]++y).flatten).length+l'.length<=l.length
 | 0,l,l',rs,h=>by cases h
 | k+1,l,l',rs,h=>by
  unfold Pat.Ef at h
  cases e:Pat.one 44 l with
  | none=>rw[e] at h;cases h;exact⟨λr hr=>by simp at hr,by simp⟩
  | some l1 =>
   rw[e] at h
   dsimp only at h
   cases e2:Pat.run (Pat.sk l1) with
   | none=>rw[e2] at h;cases h
   | some q =>
    obtain⟨r,l2⟩:=q
    rw[e2] at h
    dsimp only at h
    cases e3:Pat.Ef k l2 with
    | none=>rw[e3] at h;cases h
    | some q =>
     obtain⟨rs',l3⟩:=q
     rw[e3] at h
     cases h
     have g1:=Pat.Xy e
     have g2:=Pat.Ahy e2
     have g3:=Pat.AeW e3
     have g4:=Pat.Qj l1
     refine⟨λs hs=>?_,?_⟩
     ·rcases List.mem_cons.mp hs with rfl | hs
      ·exact⟨g2.1,g2.2.1⟩
      ·exact g3.1 s hs
     ·rw[Apw,ApH,Aps,Aps,ApX]
      have:=g3.2
      have:=g2.2.2
      dsimp only
      lia
theorem Pat.Ab6{l l':List Nat}{rs:List (List Nat)}(h:Pat.runs l=some (rs,l')):rs≠[]/\rs.length<=40/\(∀ r∈rs,r≠[]/\∀ c∈r,Sg c)/\(cj rs).length+l'.length<=l.length:=by
 unfold Pat.runs at h
 cases e:Pat.run l with
 | none=>rw[e] at h;cases h
 | some q =>
  obtain⟨r,l1⟩:=q
  rw[e] at h
  dsimp only at h
  cases e2:Pat.Ef (l1.length+1) l1 with
  | none=>rw[e2] at h;cases h
  | some q =>
   obtain⟨rs',l2⟩:=q
   rw[e2] at h
   dsimp only at h
   split at h
   ·cases h
   next c =>
    cases h
    have g1:=Pat.Ahy e
    have g2:=Pat.AeW e2
    refine⟨by simp,by lia,λs hs=>?_,?_⟩
    ·rcases List.mem_cons.mp hs with rfl | hs
     ·exact⟨g1.1,g1.2.1⟩
     ·exact g2.1 s hs
    ·unfold cj
     rw[Aps]
     have:=g1.2.2
     have:=g2.2
     lia
def Rdg (d:Nat)(l:List Nat)(x:Nd)(l':List Nat):Prop:=(wr d x).length+l'.length<=l.length
def Kds (d:Nat):List Nat->List Nd->Prop
 | [],[]=>True
 | k::ks,x::ts=>(if k=112 then Wd d x else ∃ n,x=Nd.num n/\n<100)/\Kds d ks ts
 | _,_=>False
theorem AeX{d:Nat}(ih:∀{l l':List Nat} {x:Nd},Pat.node d l=some (x,l')->Wd d x/\Rdg d l x l'):∀{ks l l':List Nat} {ts:List Nd} {fst:Bool},Pat.args (Pat.node d) fst ks l=some (ts,l') ->
  Kds d ks ts/\(if fst=true then (cj (ts.map (wr d))).length else ((ts.map (wr d)).map λy=>[44]++y).flatten.length)+l'.length<=l.length
 | [],l,l',ts,fst,h=>by
  unfold Pat.args at h
  cases h
  refine⟨trivial,?_⟩
  cases fst <;> simp[cj]
 | k::ks,l,l',ts,fst,h=>by
  unfold Pat.args at h
  cases e:(if fst=true then some l else Pat.comma l) with
  | none=>rw[e] at h;cases h
  | some l1 =>
   rw[e] at h
   dsimp only at h
   cases e2:(if k=112 then Pat.node d l1 else (Pat.num l1).map λp=>(Nd.num p.1,p.2)) with
   | none=>rw[e2] at h;cases h
   | some q =>
    obtain⟨a,l2⟩:=q
    rw[e2] at h
    dsimp only at h
    cases e3:Pat.args (Pat.node d) false ks l2 with
    | none=>rw[e3] at h;cases h
    | some q =>
     obtain⟨ts',l3⟩:=q
     rw[e3] at h
     cases h
     have g3:=AeX ih e3
     have g2:(if k=112 then Wd d a else ∃ n,a=Nd.num n/\n<100)/\(wr d a).length+l2.length<=l1.length:=by
      by_cases c:k=112
      ·rw[if_pos c] at e2
       rw[if_pos c]
       exact ih e2
      ·rw[if_neg c] at e2
       rw[if_neg c]
       cases e4:Pat.num l1 with
       | none=>rw[e4] at e2;cases e2
       | some q =>
        obtain⟨n,l4⟩:=q
        rw[e4] at e2
        cases e2
        have g:=Pat.Alq e4
        exact⟨⟨n,rfl,g.1⟩,by rw[Jt];exact g.2⟩
     refine⟨⟨g2.1,g3.1⟩,?_⟩
     have g3:=g3.2
     rw[if_neg (λz=>nomatch z)] at g3
     cases fst with
     | true =>
      cases e
      rw[if_pos rfl,Apw]
      unfold cj
      rw[Aps]
      dsimp only
      lia
     | false =>
      rw[if_neg (λz=>nomatch z)] at e ⊢
      have:=Pat.AfX e
      rw[Apw,Apw,ApH,Aps,Aps,ApX]
      dsimp only
      lia
theorem Kds.nil{d:Nat}{ts:List Nd}(h:Kds d [] ts):ts=[]:=by
 cases ts with
 | nil=>rfl
 | cons _ _=>exact h.elim
theorem Kds.cons{d k:Nat}{ks:List Nat}{ts:List Nd}(h:Kds d (k::ks) ts):∃ x ts',ts=x::ts'/\(if k=112 then Wd d x else ∃ n,x=Nd.num n/\n<100)/\Kds d ks ts':=by
 cases ts with
 | nil=>exact h.elim
 | cons x ts'=>exact⟨x,ts',rfl,h.1,h.2⟩
theorem AeY:∀{d:Nat} {l l':List Nat} {x:Nd},Pat.node d l=some (x,l')->Wd d x/\Rdg d l x l'
 | 0,l,l',x,h=>by cases h
 | d+1,l,l',x,h=>by
  unfold Pat.node at h
  have t1:=Pat.Aee Pat.letter l
  have t2:=Pat.Qj (l.dropWhile Pat.letter)
  cases e:Pat.one 40 (Pat.sk (l.dropWhile Pat.letter)) with
  | none =>
   rw[e] at h
   dsimp only at h
   split at h
   next c =>
    cases h
    exact⟨.nam c,by unfold Rdg;rw[V3];lia⟩
   ·cases h
  | some l1 =>
   rw[e] at h
   dsimp only at h
   have o1:=Pat.Xy e
   have s1:=Pat.Qj l1
   generalize hz:l.takeWhile Pat.letter=z at h t1
   cases e2:Pat.things (Pat.node d) z (Pat.sk l1) with
   | none=>rw[e2] at h;cases h
   | some q =>
    obtain⟨ts,l2⟩:=q
    rw[e2] at h
    dsimp only at h
    cases e3:Pat.one 41 l2 with
    | none=>rw[e3] at h;cases h
    | some l3 =>
     rw[e3] at h
     cases h
     have o3:=Pat.Xy e3
     have s3:=Pat.Qj l3
     have main:Wd (d+1) (.node z ts)/\(cj (ts.map (wr d))).length+l2.length<=(Pat.sk l1).length:=by
      unfold Pat.things at e2
      by_cases c:z=Pat.Fq
      ·rw[if_pos c] at e2
       cases e4:Pat.runs (Pat.sk l1) with
       | none=>rw[e4] at e2;cases e2
       | some q =>
        obtain⟨rs,l4⟩:=q
        rw[e4] at e2
        cases e2
        have g:=Pat.Ab6 e4
        refine⟨by rw[c];exact .rows g.1 g.2.1 g.2.2.1,?_⟩
        rw[Aqa,show(wr d∘Nd.run)=id from funext λr=>S9,Aqc]
        exact g.2.2.2
      ·rw[if_neg c] at e2
       cases e4:Pat.wants z with
       | none=>rw[e4] at e2;cases e2
       | some ks =>
        rw[e4] at e2
        dsimp only at e2
        have g:=AeX (λh=>AeY h) e2
        rw[if_pos rfl] at g
        refine⟨?_,g.2⟩
        have K:=g.1
        unfold Pat.wants at e4
        split at e4
        next w =>
         cases e4
         obtain⟨a,t1,rfl,p1,K⟩:=K.cons
         obtain⟨b,t2,rfl,p2,K⟩:=K.cons
         cases K.nil
         obtain⟨a,rfl,ha⟩:=p1
         obtain⟨b,rfl,hb⟩:=p2
         exact .nums w ha hb
        split at e4
        next w =>
         cases e4
         obtain⟨a,t1,rfl,p1,K⟩:=K.cons
         obtain⟨b,t2,rfl,p2,K⟩:=K.cons
         cases K.nil
         exact .two w p1 p2
        split at e4
        next w =>
         cases e4
         obtain⟨a,t1,rfl,p1,K⟩:=K.cons
         cases K.nil
         exact .one w p1
        split at e4
        next w =>
         cases e4
         obtain⟨a,t1,rfl,p1,K⟩:=K.cons
         obtain⟨b,t2,rfl,p2,K⟩:=K.cons
         obtain⟨c,t3,rfl,p3,K⟩:=K.cons
         cases K.nil
         obtain⟨b,rfl,hb⟩:=p2
         obtain⟨c,rfl,hc⟩:=p3
         rw[w]
         exact .tile p1 hb hc
        split at e4
        next w =>
         cases e4
         obtain⟨a,t1,rfl,p1,K⟩:=K.cons
         obtain⟨b,t2,rfl,p2,K⟩:=K.cons
         obtain⟨c,t3,rfl,p3,K⟩:=K.cons
         cases K.nil
         rw[w]
         exact .blk p1 p2 p3
        ·cases e4
     exact⟨main.1,by unfold Rdg wr wz;rw[Aps,Apt,Aps,ApX];have:=main.2;lia⟩
theorem Ahz{l:List Nat}{x:Nd}(h:Pat.whole l=some x):Wd 12 x/\(wr 12 x).length<=l.length:=by
 unfold Pat.whole at h
 cases e:Pat.node 12 (Pat.sk l) with
 | none=>rw[e] at h;cases h
 | some q =>
  obtain⟨n,l'⟩:=q
  rw[e] at h
  cases l' with
  | nil =>
   cases h
   have g:=AeY e
   refine⟨g.1,?_⟩
   have:=g.2
   unfold Rdg at this
   have:=Pat.Qj l
   lia
  | cons _ _=>cases h
theorem Cl.wdt{x:List (List Nat)}{m n:Nat}(C:Cl x m n):wdt x=m:=by
 cases x with
 | nil=>have:=C.hn;have:=C.n1;simp at *;lia
 | cons r x=>exact C.hm r Ap6
theorem Cl.same{x:List (List Nat)}{m n:Nat}(C:Cl x m n):Cl x (Mine.wdt x) x.length:=by rw[C.wdt,C.hn];exact C
def Clo (x:List (List Nat)):Prop:=Cl x (wdt x) x.length
theorem Cl.clo{x:List (List Nat)}{m n:Nat}(C:Cl x m n):Clo x:=C.same
theorem Ah0{p:Prop}[Decidable p]:Sg (if p then 35 else 46):=by split;exact .inl rfl;exact .inr rfl
theorem Ah1{a b:Nat}(h1:1<=a)(h3:a+b<=40):Cl ((List.range (a+b)).map (twT a b)) (a+b) (a+b) where
 hn:=by rw[Apq,ApE]
 hm:=λt ht=>by
  obtain⟨y,_,rfl⟩:=List.mem_map.mp ht
  unfold twT
  rw[Apq,ApE]
 sg:=λt ht c hc=>by
  obtain⟨y,_,rfl⟩:=List.mem_map.mp ht
  obtain⟨x,_,rfl⟩:=List.mem_map.mp hc
  exact Ah0
 m1:=by lia
 m40:=h3
 n1:=by lia
 n40:=h3
theorem Ah2{m n:Nat}(h1:1<=m)(h3:m<=40):Cl ((List.range m).map (saT m n)) m m where
 hn:=by rw[Apq,ApE]
 hm:=λt ht=>by
  obtain⟨y,_,rfl⟩:=List.mem_map.mp ht
  unfold saT stT
  rw[Apq,ApE]
 sg:=λt ht c hc=>by
  obtain⟨y,_,rfl⟩:=List.mem_map.mp ht
  obtain⟨x,_,rfl⟩:=List.mem_map.mp hc
  exact Ah0
 m1:=h1
 m40:=h3
 n1:=h1
 n40:=h3
theorem Aeg:∀{x y:List (List Nat)} {r:List Nat},r∈List.zipWith (·++·) x y->∃ a∈x,∃ b∈y,r=a++b
 | [],_,r,h=>by simp at h
 | _::_,[],r,h=>by simp at h
 | a::x,b::y,r,h=>by
  rw[List.zipWith_cons_cons] at h
  rcases List.mem_cons.mp h with rfl | h
  ·exact⟨a,Ap6,b,Ap6,rfl⟩
  ·obtain⟨a',ha,b',hb,e⟩:=Aeg h
   exact⟨a',Ap7 _ ha,b',Ap7 _ hb,e⟩
theorem AfY{x y:List (List Nat)}{m n m':Nat}(C:Cl x m n)(D:Cl y m' n)(h:m+m'<=40):Cl (List.zipWith (·++·) x y) (m+m') n where
 hn:=by rw[AqN,C.hn,D.hn,Aqb]
 hm:=λt ht=>by
  obtain⟨a,ha,b,hb,rfl⟩:=Aeg ht
  rw[Aps,C.hm a ha,D.hm b hb]
 sg:=λt ht c hc=>by
  obtain⟨a,ha,b,hb,rfl⟩:=Aeg ht
  rcases List.mem_append.mp hc with hc | hc
  ·exact C.sg a ha c hc
  ·exact D.sg b hb c hc
 m1:=by have:=C.m1;lia
 m40:=h
 n1:=C.n1
 n40:=C.n40
theorem Ah3{x y:List (List Nat)}{m n n':Nat}(C:Cl x m n)(D:Cl y m n')(h:n+n'<=40):Cl (x++y) m (n+n') where
 hn:=by rw[Aps,C.hn,D.hn]
 hm:=λt ht=>by
  rcases List.mem_append.mp ht with ht | ht
  ·exact C.hm t ht
  ·exact D.hm t ht
 sg:=λt ht c hc=>by
  rcases List.mem_append.mp ht with ht | ht
  ·exact C.sg t ht c hc
  ·exact D.sg t ht c hc
 m1:=C.m1
 m40:=C.m40
 n1:=by have:=C.n1;lia
 n40:=h
theorem AfZ{x:List (List Nat)}{m n:Nat}(C:Cl x m n):Cl (x.map List.reverse) m n where
 hn:=by rw[Apq,C.hn]
 hm:=λt ht=>by
  obtain⟨a,ha,rfl⟩:=List.mem_map.mp ht
  rw[ApV,C.hm a ha]
 sg:=λt ht c hc=>by
  obtain⟨a,ha,rfl⟩:=List.mem_map.mp ht
  exact C.sg a ha c (List.mem_reverse.mp hc)
 m1:=C.m1
 m40:=C.m40
 n1:=C.n1
 n40:=C.n40
theorem Ah4{x:List (List Nat)}{m n:Nat}(C:Cl x m n):Cl x.reverse m n where
 hn:=by rw[ApV,C.hn]
 hm:=λt ht=>C.hm t (List.mem_reverse.mp ht)
 sg:=λt ht c hc=>C.sg t (List.mem_reverse.mp ht) c hc
 m1:=C.m1
 m40:=C.m40
 n1:=C.n1
 n40:=C.n40
theorem Gu(k:Nat):(Ia k).length=2*k:=by unfold Ia;rw[Xx];simp;lia
theorem Nx(k:Nat)(i:Int):(Ia k).count i=if i=0\/i=1 then k else 0:=by
 unfold Ia
 induction k with
 | zero=>simp
 | succ k ih =>
  rw[ApM,ApH,List.count_append,ih]
  by_cases h0:i=0
  ·subst h0;simp;lia
  ·by_cases h1:i=1
   ·subst h1;simp;lia
   ·rw[if_neg (by lia),if_neg (by lia)]
    simp[List.count_cons,Ne.symm h0,Ne.symm h1]
theorem AcX{k:Nat}{i:Int}(h:i∈Ia k):0<=i/\i<2:=by
 have:=Tv h
 simp at this
 lia
theorem Ah5{x y:List (List Nat)}{m n:Nat}(C:Cl x m n)(D:Cl y m n)(hm:2*m<=40)(hn:2*n<=40):Aec [x,y] (Ia m) (Ia n) where
 e:=λz hz=>by have:=AcX hz;exact⟨this.1,by show z<2;exact this.2⟩
 o:=λz hz=>by have:=AcX hz;exact⟨this.1,by show z<2;exact this.2⟩
 hn:=λi hi=>by
  have:i=0\/i=1:=by simp only [Apt,Apz] at hi;lia
  rcases this with rfl | rfl
  ·rw[Nx,if_pos (by decide)];exact C.hn
  ·rw[Nx,if_pos (by decide)];exact D.hn
 hm:=λi hi t ht=>by
  have:i=0\/i=1:=by simp only [Apt,Apz] at hi;lia
  rcases this with rfl | rfl
  ·rw[Nx,if_pos (by decide)];exact⟨C.hm t ht,C.sg t ht⟩
  ·rw[Nx,if_pos (by decide)];exact⟨D.hm t ht,D.sg t ht⟩
 e1:=by have:=C.m1;rw[Gu];lia
 e40:=by rw[Gu];exact hm
 o1:=by have:=C.n1;rw[Gu];lia
 o40:=by rw[Gu];exact hn
theorem Alr{ps:List (List (List Nat))}{es os:List Int}(C:Aec ps es os):Cl (lay ps es os) es.length os.length where
 hn:=Ab3 ps es os
 hm:=λt ht=>by
  obtain⟨j,_,rfl⟩:=List.mem_map.mp ht
  exact JV ..
 sg:=λt ht c hc=>by
  obtain⟨j,hj,rfl⟩:=List.mem_map.mp ht
  have hj:=List.mem_range.mp hj
  obtain⟨k,hk,rfl⟩:=List.mem_map.mp hc
  have hk:=List.mem_range.mp hk
  unfold Tw
  split
  next e =>
   obtain⟨o1,o2⟩:=C.own hj
   have e9:(ps.getD (os.getD j 0).toNat []).getD (plc os j) []=(ps.getD (os.getD j 0).toNat [])[plc os j]:=by rw[ApR,Apu o2];rfl
   have M:=C.hm _ o1 _ (ApI o2)
   rw[e9]
   have oz:=C.o _ (getD_mem hj)
   have lt:=Aeb hk
   rw[<- e,show os.getD j 0=(((os.getD j 0).toNat:Nat):Int) by lia,<- M.1] at lt
   have e8:((ps.getD (os.getD j 0).toNat [])[plc os j]).getD (plc es k) 0=((ps.getD (os.getD j 0).toNat [])[plc os j])[plc es k]:=by rw[ApR,Apu lt];rfl
   rw[e8]
   exact M.2 _ (ApI lt)
  ·exact Ah0
 m1:=C.e1
 m40:=C.e40
 n1:=C.o1
 n40:=C.o40
theorem Y5{sub:Nd->Res}{wrt:Nd->List Nat}{d:Nat}{x:Nd}(h:Wd d x):arg sub wrt x=match sub x with
  | .ok r=>.inr (.cl r (wrt x))
  | .no f=>.inl f:=by
 cases h <;> rfl
theorem Aga{kn:Kns}{z:List Nat}{r:List (List Nat)}(hk:∀ p∈kn,Clo p.2)(h:known kn z=.ok r):Clo r:=by
 unfold known at h
 cases e:kn.find? λp=>decide (p.1=z) with
 | none=>rw[e] at h;cases h
 | some p=>rw[e] at h;cases h;exact hk p (List.mem_of_find?_eq_some e)
theorem Xz{z:List Nat}{x r:List (List Nat)}(C:Clo x)(h:AcW z x=.ok r):Clo r:=by
 unfold AcW at h
 split at h
 ·cases h;exact(AfZ C).clo
 split at h
 ·cases h;exact(Ah4 C).clo
 split at h
 ·cases h;exact(Cl.back C).clo
 ·cases h;exact(Cl.Wo C).clo
theorem Aeh{x y r:List (List Nat)}(C:Clo x)(D:Clo y)(h:Nu x y=.ok r):Clo r:=by
 unfold Nu at h
 split at h
 ·cases h
 next e =>
  split at h
  ·cases h
  next e2 =>
   cases h
   have e:=Decidable.of_not_not e
   unfold Clo at D
   rw[<- e] at D
   exact(AfY C D (by lia)).clo
theorem Agb{x y r:List (List Nat)}(C:Clo x)(D:Clo y)(h:S8 x y=.ok r):Clo r:=by
 unfold S8 at h
 split at h
 ·cases h
 next e =>
  split at h
  ·cases h
  next e2 =>
   cases h
   have e:=Decidable.of_not_not e
   unfold Clo at D
   rw[<- e] at D
   exact(Ah3 C D (by lia)).clo
theorem Ajs{x y r:List (List Nat)}(C:Clo x)(D:Clo y)(h:Aed x y=.ok r):Clo r:=by
 unfold Aed at h
 split at h
 ·cases h
 next e =>
  split at h
  ·cases h
  next e2 =>
   cases h
   have e1:wdt x=wdt y:=Decidable.of_not_not λz=>e (.inl z)
   have e3:x.length=y.length:=Decidable.of_not_not λz=>e (.inr z)
   unfold Clo at D
   rw[<- e1,<- e3] at D
   exact(Alr (Ah5 C D (by lia) (by lia))).clo
theorem Ah6{x r:List (List Nat)}{a b:Nat}(C:Clo x)(h:Y0 x a b=.ok r):Clo r:=by
 unfold Y0 at h
 split at h
 ·cases h
 next e =>
  split at h
  ·cases h
  next e2 =>
   cases h
   exact(Cl.til C (by lia) (by lia) (by rw[Aqg];lia) (by rw[Aqg];lia)).clo
theorem Aei{p x y r:List (List Nat)}(B:Clo p)(C:Clo x)(D:Clo y)(h:Nv p x y=.ok r):Clo r:=by
 unfold Nv at h
 split at h
 ·cases h
 next e =>
  split at h
  ·cases h
  next e2 =>
   cases h
   have e1:wdt x=wdt y:=Decidable.of_not_not λz=>e (.inl z)
   have e3:x.length=y.length:=Decidable.of_not_not λz=>e (.inr z)
   unfold Clo at D
   rw[<- e1,<- e3] at D
   exact(Aln B C D (by lia) (by lia)).clo
theorem Ah7{rs r:List (List Nat)}(h1:rs≠[])(h2:∀ r∈rs,r≠[]/\∀ c∈r,Sg c)(h:Yz rs=.ok r):Clo r:=by
 unfold Yz at h
 split at h
 ·cases h
 next e =>
  split at h
  ·cases h
  next e2 =>
   cases h
   have w:∀ u∈rs,u.length=wdt rs:=λu hu=>Decidable.of_not_not λz=>e (by
    rw[List.any_map]
    exact List.any_eq_true.mpr ⟨u,hu,decide_eq_true z⟩)
   refine⟨rfl,w,λu hu=>(h2 u hu).2,?_,by lia,List.length_pos_iff.mpr h1,by lia⟩
   cases rs with
   | nil=>exact absurd rfl h1
   | cons u r=>exact List.length_pos_iff.mpr (h2 u Ap6).1
theorem Agc{a b:Nat}{r:List (List Nat)}(h:Nr a b=.ok r):Clo r:=by
 unfold Nr at h
 split at h
 ·cases h
 next e =>
  split at h
  ·cases h
  ·cases h;exact(Ah1 (by lia) (by lia)).clo
theorem Agd{a b:Nat}{r:List (List Nat)}(h:Nt a b=.ok r):Clo r:=by
 unfold Nt at h
 split at h
 ·cases h
 next e =>
  have e:=Decidable.of_not_not e
  split at h
  ·cases h
  ·cases h;exact(Ah2 (by have:=e.1;have:=e.2.1;lia) (by lia)).clo
theorem V4{sub:Nd->Res}{wrt:Nd->List Nat}:∀ rs:List (List Nat),args sub wrt (rs.map Nd.run)=.inr (rs.map Arg.run)
 | []=>rfl
 | r::rs=>by
  rw[Apw]
  unfold args
  rw[V4 rs]
  rfl
theorem V5(rs:List (List Nat)):(rs.map Arg.run).map runOf=rs:=by rw[Aqa];exact Aqc _
inductive Fit:List Nat->List Arg->Prop
 | rows {rs:List (List Nat)}:rs≠[]->rs.length<=40->(∀ r∈rs,r≠[]/\∀ c∈r,Sg c)->Fit Pat.Fq (rs.map Arg.run)
 | nums {z:List Nat} {a b:Nat}:z=twW\/z=saW->a<100->b<100->Fit z [.num a,.num b]
 | one {z v:List Nat} {x:List (List Nat)}:z=miW\/z=upW\/z=baW\/z=quW->Clo x->Fit z [.cl x v]
 | two {z v u:List Nat} {x y:List (List Nat)}:z=beW\/z=abW\/z=laW->Clo x->Clo y->Fit z [.cl x v,.cl y u]
 | tile {v:List Nat} {x:List (List Nat)} {a b:Nat}:Clo x->a<100->b<100->Fit tiW [.cl x v,.num a,.num b]
 | blk {v u s:List Nat} {x y w:List (List Nat)}:Clo x->Clo y->Clo w->Fit blW [.cl x v,.cl y u,.cl w s]
theorem Ah8{z:List Nat}{as:List Arg}{r:List (List Nat)}(F:Fit z as)(h:made z as=.ok r):Clo r:=by
 cases F with
 | rows h1 h2 h3 =>
  unfold made at h
  rw[if_pos rfl,V5] at h
  exact Ah7 h1 h3 h
 | nums w ha hb =>
  rcases w with rfl | rfl
  ·exact Agc h
  ·exact Agd h
 | one w C =>
  rcases w with rfl | rfl | rfl | rfl
  ·exact Xz (z:=miW) C h
  ·exact Xz (z:=upW) C h
  ·exact Xz (z:=baW) C h
  ·exact Xz (z:=quW) C h
 | two w C D =>
  rcases w with rfl | rfl | rfl
  ·exact Aeh C D h
  ·exact Agb C D h
  ·exact Ajs C D h
 | tile C ha hb=>exact Ah6 C h
 | blk B C D=>exact Aei B C D h
theorem Ah9{kn:Kns}{d:Nat}(ih:∀{x:Nd} {r:List (List Nat)},Wd d x->out kn d x=.ok r->Clo r){z:List Nat}{ts:List Nd}{as:List Arg}(W:Wd (d+1) (.node z ts))(h:args (out kn d) (wr d) ts=.inr as):Fit z as:=by
 have sub:∀{x:Nd} {a:Arg},Wd d x->arg (out kn d) (wr d) x=.inr a->∃ r,a=.cl r (wr d x)/\Clo r:=λ{x a} W h=>by
  rw[Y5 W] at h
  cases e:out kn d x with
  | no f=>rw[e] at h;cases h
  | ok r=>rw[e] at h;cases h;exact⟨r,rfl,ih W e⟩
 have inv:∀{x:Nd} {ts:List Nd} {as:List Arg},args (out kn d) (wr d) (x::ts)=.inr as->∃ a as',as=a::as'/\arg (out kn d) (wr d) x=.inr a/\args (out kn d) (wr d) ts=.inr as':=λ{x ts as} h=>by
  unfold args at h
  cases e:arg (out kn d) (wr d) x with
  | inl f=>rw[e] at h;cases h
  | inr a =>
   rw[e] at h
   dsimp only at h
   cases e2:args (out kn d) (wr d) ts with
   | inl f=>rw[e2] at h;cases h
   | inr as'=>rw[e2] at h;cases h;exact⟨a,as',rfl,rfl,rfl⟩
 have nil:∀{as:List Arg},args (out kn d) (wr d) []=.inr as->as=[]:=λh=>by cases h;rfl
 cases W with
 | rows h1 h2 h3 =>
  rw[V4] at h
  cases h
  exact .rows h1 h2 h3
 | nums w ha hb =>
  obtain⟨a,_,rfl,e1,h⟩:=inv h
  obtain⟨b,_,rfl,e2,h⟩:=inv h
  cases nil h
  cases e1
  cases e2
  exact .nums w ha hb
 | one w X =>
  obtain⟨a,_,rfl,e1,h⟩:=inv h
  cases nil h
  obtain⟨r,rfl,C⟩:=sub X e1
  exact .one w C
 | two w X Y =>
  obtain⟨a,_,rfl,e1,h⟩:=inv h
  obtain⟨b,_,rfl,e2,h⟩:=inv h
  cases nil h
  obtain⟨r,rfl,C⟩:=sub X e1
  obtain⟨r2,rfl,D⟩:=sub Y e2
  exact .two w C D
 | tile X ha hb =>
  obtain⟨a,_,rfl,e1,h⟩:=inv h
  obtain⟨b,_,rfl,e2,h⟩:=inv h
  obtain⟨c,_,rfl,e3,h⟩:=inv h
  cases nil h
  cases e2
  cases e3
  obtain⟨r,rfl,C⟩:=sub X e1
  exact .tile C ha hb
 | blk X Y Z =>
  obtain⟨a,_,rfl,e1,h⟩:=inv h
  obtain⟨b,_,rfl,e2,h⟩:=inv h
  obtain⟨c,_,rfl,e3,h⟩:=inv h
  cases nil h
  obtain⟨r,rfl,C⟩:=sub X e1
  obtain⟨r2,rfl,D⟩:=sub Y e2
  obtain⟨r3,rfl,F⟩:=sub Z e3
  exact .blk C D F
theorem Ra{kn:Kns}(hk:∀ p∈kn,Clo p.2):∀{d:Nat} {x:Nd} {r:List (List Nat)},Wd d x->out kn d x=.ok r->Clo r
 | 0,x,r,W,h=>by cases W
 | d+1,.nam z,r,W,h=>Aga hk h
 | d+1,.num n,r,W,h=>by cases W
 | d+1,.run n,r,W,h=>by cases W
 | d+1,.node z ts,r,W,h=>by
  unfold out at h
  cases e:args (out kn d) (wr d) ts with
  | inl f=>rw[e] at h;cases h
  | inr as =>
   rw[e] at h
   exact Ah8 (Ah9 (Ra hk) W e) h
theorem AeZ:∀{xs:List (List Nat)} {y:List Nat},y∈xs->y.length<=((xs.map λy=>[44]++y).flatten).length
 | [],y,h=>by simp at h
 | a::xs,y,h=>by
  rw[Apw,ApH,Aps,Aps]
  rcases List.mem_cons.mp h with rfl | h
  ·lia
  ·have:=AeZ h;lia
theorem Aky:∀{ys:List (List Nat)} {y:List Nat},y∈ys->y.length<=(cj ys).length
 | [],y,h=>by simp at h
 | x::xs,y,h=>by
  unfold cj
  rw[Aps]
  rcases List.mem_cons.mp h with rfl | h
  ·lia
  ·have:=AeZ h
   lia
theorem Ajt{d:Nat}{z:List Nat}{ts:List Nd}{x:Nd}(h:x∈ts):(wr d x).length<=(wr (d+1) (.node z ts)).length:=by
 have:=Aky (List.mem_map.mpr ⟨x,h,rfl⟩:wr d x∈ts.map (wr d))
 show _<=(wz z (ts.map (wr d))).length
 unfold wz
 rw[Aps,Apt,Aps]
 lia
def rdp (kn:Kns)(u:List Nat):Res × List Nat:=match Pat.whole u with
 | none=>(.no .nop,[])
 | some x=>(out kn 12 x,wr 12 x)
def Pat.good(c:Nat):Prop:=Pat.letter c=true\/Pat.Ge c=true\/c=35\/c=46\/c=44\/c=40\/c=41\/c=32
def Bt (l l':List Nat):Prop:=∃ p,l=p++l'/\∀ c∈p,Pat.good c
def bl (g:Nat):List Nat:=List.replicate g 32
mutual
inductive Wt:Nd->List Nat->Prop
 | num {n g:Nat}:Wt (.num n) (dec n++bl g)
 | run {r:List Nat} {g:Nat}:Wt (.run r) (r++bl g)
 | nam {z:List Nat} {g:Nat}:Wt (.nam z) (z++bl g)
 | node {z:List Nat} {ts:List Nd} {us:List Nat} {g1 g2 g3:Nat}:WtL ts us->Wt (.node z ts) (z++(bl g1++(40::(bl g2++(us++(41::bl g3))))))
inductive WtL:List Nd->List Nat->Prop
 | one {x:Nd} {u:List Nat}:Wt x u->WtL [x] u
 | cons {x:Nd} {u us:List Nat} {xs:List Nd} {g:Nat}:Wt x u->WtL xs us->WtL (x::xs) (u++(44::(bl g++us)))
end
def Stp (l:List Nat):Prop:=l=[]\/∃ c l',l=c::l'/\(c=44\/c=41)
theorem V6{p:Nat->Bool}:∀{a b:List Nat},(∀ c∈a,p c=true)->(b=[]\/∃ c b',b=c::b'/\p c=false)->(a++b).takeWhile p=a/\(a++b).dropWhile p=b
 | [],b,_,hb=>by
  rcases hb with rfl | ⟨c,b',rfl,h⟩
  ·exact⟨rfl,rfl⟩
  ·rw[Aq3,Aqo,AqO,h]
   exact⟨rfl,rfl⟩
 | c::a,b,ha,hb=>by
  have ih:=V6 (p:=p) (a:=a) (λd hd=>ha d (Ap7 _ hd)) hb
  rw[Aqx,Aqo,AqO,ha c Ap6]
  exact⟨by rw[if_pos rfl,ih.1],by rw[if_pos rfl,ih.2]⟩
theorem Als{g c:Nat}(h:c∈bl g):c=32:=(List.mem_replicate.mp h).2
theorem Rx{g:Nat}{l:List Nat}(h:l=[]\/∃ c b',l=c::b'/\¬c=32):Pat.sk (bl g++l)=l:=by
 unfold Pat.sk
 refine(V6 (λc hc=>decide_eq_true (Als hc)) ?_).2
 rcases h with h | ⟨c,b',e,h⟩
 ·exact .inl h
 ·exact .inr ⟨c,b',e,decide_eq_false h⟩
theorem Stp.nb{l:List Nat}(h:Stp l):l=[]\/∃ c b',l=c::b'/\¬c=32:=by
 rcases h with h | ⟨c,l',e,h⟩
 ·exact .inl h
 ·exact .inr ⟨c,l',e,by lia⟩
theorem Stp.no{p:Nat->Bool}(h1:p 32=false)(h2:p 44=false)(h3:p 41=false){g:Nat}{l:List Nat}(h:Stp l):bl g++l=[]\/∃ c b',bl g++l=c::b'/\p c=false:=by
 cases g with
 | zero =>
  rcases h with h | ⟨c,l',e,h⟩
  ·exact .inl (by rw[h];rfl)
  ·exact .inr ⟨c,l',by rw[e];rfl,by rcases h with rfl | rfl <;> assumption⟩
 | succ g=>exact .inr ⟨32,bl g++l,rfl,h1⟩
theorem Ab7:∀ n∈List.range 100,Pat.Yx (dec n)=true/\NumText.digitsVal (dec n)=n/\(∀ c∈dec n,Pat.Ge c=true)/\dec n≠[]:=by decide +kernel
theorem Alu{n g:Nat}{l:List Nat}(hn:n<100)(h:Stp l):Pat.num (dec n++bl g++l)=some (n,l):=by
 obtain⟨d1,d2,d3,d4⟩:=Ab7 n (List.mem_range.mpr hn)
 have t:=V6 (p:=Pat.Ge) d3 (h.no (g:=g) (by decide) (by decide) (by decide))
 unfold Pat.num
 rw[ApN,t.1,t.2,if_pos d1,d2,Rx h.nb]
theorem AhA{r:List Nat}{g:Nat}{l:List Nat}(h1:r≠[])(h2:∀ c∈r,Sg c)(h:Stp l):Pat.run (r++bl g++l)=some (r,l):=by
 have t:=V6 (p:=Pat.knot) (a:=r) (λc hc=>decide_eq_true (h2 c hc)) (h.no (g:=g) (by decide) (by decide) (by decide))
 unfold Pat.run
 rw[ApN,t.1,t.2,if_neg h1,Rx h.nb]
def Nb (l:List Nat):Prop:=∃ c b',l=c::b'/\¬c=32
theorem Nb.app{l l':List Nat}(h:Nb l):Nb (l++l'):=by
 obtain⟨c,b,rfl,h⟩:=h
 exact⟨c,b++l',rfl,h⟩
theorem Afa{p:Nat->Bool}(h0:p 32=false){z:List Nat}(h1:z≠[])(h2:∀ c∈z,p c=true):Nb z:=by
 cases z with
 | nil=>exact absurd rfl h1
 | cons c z =>
  refine⟨c,z,rfl,λe=>?_⟩
  have:=h2 c Ap6
  rw[e,h0] at this
  cases this
theorem Ny{z:List Nat}(h:Pat.isName z=true):z≠[]/\∀ c∈z,Pat.letter c=true:=by
 unfold Pat.isName at h
 simp only [ApU,decide_eq_true_eq] at h
 refine⟨λe=>by rw[e] at h;simp at h,λc hc=>List.all_eq_true.mp h.1.2 c hc⟩
theorem Y6{d:Nat}{z:List Nat}{ts:List Nd}(h:Wd (d+1) (.node z ts)):z≠[]/\∀ c∈z,Pat.letter c=true:=by
 cases h with
 | rows _ _ _=>decide
 | nums w _ _=>rcases w with rfl | rfl <;> decide
 | one w _=>rcases w with rfl | rfl | rfl | rfl <;> decide
 | two w _ _=>rcases w with rfl | rfl | rfl <;> decide
 | tile _ _ _=>decide
 | blk _ _ _=>decide
theorem Akz{d:Nat}{x:Nd}{u:List Nat}(W:Wd d x)(h:Wt x u):Nb u:=by
 cases h with
 | num=>cases W
 | run=>cases W
 | nam =>
  cases W with
  | nam h=>exact(Afa (p:=Pat.letter) (by decide) (Ny h).1 (Ny h).2).app
 | node hl =>
  cases d with
  | zero=>cases W
  | succ d=>exact(Afa (p:=Pat.letter) (by decide) (Y6 W).1 (Y6 W).2).app
def Kd (d k:Nat)(x:Nd):Prop:=if k=112 then Wd d x else ∃ n,x=Nd.num n/\n<100
theorem Ak0{d k:Nat}{x:Nd}{u:List Nat}(W:Kd d k x)(h:Wt x u):Nb u:=by
 unfold Kd at W
 split at W
 ·exact Akz W h
 ·obtain⟨n,rfl,hn⟩:=W
  cases h with
  | num =>
   obtain⟨_,_,d3,d4⟩:=Ab7 n (List.mem_range.mpr hn)
   exact(Afa (p:=Pat.Ge) (by decide) d4 d3).app
theorem AhB{d:Nat}{ks:List Nat}{ts:List Nd}{us:List Nat}(W:Kds d ks ts)(h:WtL ts us):Nb us:=by
 cases h with
 | one h =>
  cases ks with
  | nil=>exact W.elim
  | cons k ks=>exact Ak0 W.1 h
 | cons h hs =>
  cases ks with
  | nil=>exact W.elim
  | cons k ks=>exact(Ak0 W.1 h).app
theorem Aej{sub:List Nat->Option (Nd × List Nat)}{k:Nat}{ks l:List Nat}:Pat.args sub false (k::ks) (44::l)=Pat.args sub true (k::ks) (Pat.sk l):=by
 unfold Pat.args
 rfl
theorem AaL{sub:List Nat->Option (Nd × List Nat)}{k:Nat}{ks l l2:List Nat}{x:Nd}(h:(if k=112 then sub l else (Pat.num l).map λp=>(Nd.num p.1,p.2))=some (x,l2)):Pat.args sub true (k::ks) l=(Pat.args sub false ks l2).map λp=>(x::p.1,p.2):=by
 conv=>lhs;unfold Pat.args
 rw[if_pos rfl]
 dsimp only
 rw[h]
theorem Afb{d:Nat}(ih:∀{x:Nd} {u l:List Nat},Wd d x->Wt x u->Stp l->Pat.node d (u++l)=some (x,l)):∀{ts:List Nd} {ks us l:List Nat},Kds d ks ts->WtL ts us->Stp l->Pat.args (Pat.node d) true ks (us++l)=some (ts,l)
 | [],ks,us,l,W,h,hl=>by cases h
 | x::ts,[],us,l,W,h,hl=>W.elim
 | x::ts,k::ks,us,l,W,h,hl=>by
  have thing:∀{u l:List Nat},Wt x u->Stp l->(if k=112 then Pat.node d (u++l) else (Pat.num (u++l)).map λp=>(Nd.num p.1,p.2))=some (x,l):=λ{u l} hu hl=>by
   have w:=W.1
   by_cases c:k=112
   ·rw[if_pos c] at w
    rw[if_pos c]
    exact ih w hu hl
   ·rw[if_neg c] at w
    rw[if_neg c]
    obtain⟨n,rfl,hn⟩:=w
    cases hu with
    | num=>rw[Alu hn hl];rfl
  cases h with
  | one hu =>
   have e:ks=[]:=by
    cases ks with
    | nil=>rfl
    | cons k2 ks=>exact W.2.elim
   subst e
   rw[AaL (thing hu hl)]
   unfold Pat.args
   rfl
  | cons hu hs =>
   rename_i u us g
   cases ks with
   | nil =>
    exfalso
    cases ts with
    | nil=>cases hs
    | cons y ts=>exact W.2
   | cons k2 ks =>
    rw[ApN,Aqx,AaL (thing hu (.inr ⟨44,(bl g++us)++l,rfl,.inl rfl⟩)),Aej]
    have nb:=(AhB W.2 hs).app (l':=l)
    rw[ApN,Rx (.inr nb),Afb ih W.2 hs hl]
    rfl
theorem Afc{rs:List (List Nat)}{us:List Nat}(W:∀ r∈rs,r≠[]/\∀ c∈r,Sg c)(h:WtL (rs.map Nd.run) us):Nb us:=by
 cases rs with
 | nil=>cases h
 | cons r rs =>
  have k:=Afa (p:=Pat.knot) (by decide) (W r (by simp)).1 (λc hc=>decide_eq_true ((W r (by simp)).2 c hc))
  generalize hts:(r::rs).map Nd.run=ts at h
  rw[Apw] at hts
  cases h with
  | one h =>
   have e:=(List.cons.inj hts).1
   subst e
   cases h with | run=>exact k.app
  | cons h _ =>
   have e:=(List.cons.inj hts).1
   subst e
   cases h with | run=>exact k.app.app
theorem Afd:∀{rs:List (List Nat)} {us l:List Nat} {k:Nat},(∀ r∈rs,r≠[]/\∀ c∈r,Sg c)->WtL (rs.map Nd.run) us->(∃ l',l=41::l')->us.length<k->∃ r rs',rs=r::rs'/\∃ l1,Pat.run (us++l)=some (r,l1)/\l1.length<us.length+l.length/\∀ k',l1.length<k'+l.length->Pat.Ef k' l1=some (rs',l)
 | [],us,l,k,_,h,hl,hk=>by cases h
 | r::rs,us,l,k,W,h,hl,hk=>by
  have w:=W r Ap6
  generalize hts:(r::rs).map Nd.run=ts at h
  cases h with
  | one hu =>
   rename_i x
   have e:rs=[]:=by
    rw[Apw] at hts
    have:=(List.cons.inj hts).2
    exact List.map_eq_nil_iff.mp this
   subst e
   cases hts
   cases hu with
   | run =>
    rename_i g
    refine⟨r,[],rfl,l,AhA w.1 w.2 (.inr (by obtain⟨l',e⟩:=hl;exact⟨41,l',e,.inr rfl⟩)),?_,λk' hk'=>?_⟩
    ·have:=List.length_pos_iff.mpr w.1
     rw[Aps]
     lia
    ·cases k' with
     | zero=>lia
     | succ k' =>
      unfold Pat.Ef
      obtain⟨l',e⟩:=hl
      rw[e]
      rfl
  | cons hu hs =>
   rename_i x u us xs g
   rw[Apw] at hts
   obtain⟨e1,e2⟩:=List.cons.inj hts
   subst e1
   subst e2
   cases hu with
   | run =>
    rename_i g0
    refine⟨r,rs,rfl,44::(bl g++us)++l,?_,?_,λk' hk'=>?_⟩
    ·rw[ApN]
     exact AhA w.1 w.2 (.inr ⟨44,(bl g++us)++l,rfl,.inl rfl⟩)
    ·have:=List.length_pos_iff.mpr w.1
     simp only [Aps,Apt]
     lia
    ·cases k' with
     | zero =>
      simp only [Aps,Apt] at hk'
      lia
     | succ k' =>
      obtain⟨r2,rs2,e,l1,e1,e2,e3⟩:=Afd (k:=us.length+1) (λr hr=>W r (Ap7 _ hr)) hs hl (by lia)
      unfold Pat.Ef
      have o:Pat.one 44 (44::(bl g++us)++l)=some ((bl g++us)++l):=rfl
      rw[o]
      dsimp only
      have nb:Nb us:=Afc (λr hr=>W r (Ap7 _ hr)) hs
      rw[ApN,Rx (.inr nb.app),e1]
      dsimp only
      rw[e3 k' (by simp only [Aps,Apt] at hk';lia)]
      rw[e]
      rfl
theorem Aju{rs:List (List Nat)}{us l:List Nat}(h0:rs.length<=40)(W:∀ r∈rs,r≠[]/\∀ c∈r,Sg c)(h:WtL (rs.map Nd.run) us):Pat.runs (us++41::l)=some (rs,41::l):=by
 obtain⟨r,rs',rfl,l1,e1,e2,e3⟩:=Afd (k:=us.length+1) W h ⟨l,rfl⟩ (by lia)
 unfold Pat.runs
 rw[e1]
 dsimp only
 rw[e3 (l1.length+1) (by lia)]
 dsimp only
 rw[if_neg (by lia)]
theorem Afe:∀{d:Nat} {x:Nd} {u l:List Nat},Wd d x->Wt x u->Stp l->Pat.node d (u++l)=some (x,l)
 | 0,x,u,l,W,h,hl=>by cases W
 | d+1,x,u,l,W,h,hl=>by
  cases h with
  | num=>cases W
  | run=>cases W
  | nam =>
   rename_i z g
   cases W with
   | nam hz =>
    have t:=V6 (p:=Pat.letter) (Ny hz).2 (hl.no (g:=g) (by decide) (by decide) (by decide))
    unfold Pat.node
    rw[ApN,t.1,t.2,Rx hl.nb]
    have o:Pat.one 40 l=none:=by
     rcases hl with rfl | ⟨c,l',rfl,hc⟩
     ·rfl
     ·show(if c=40 then some l' else none)=none
      rw[if_neg (by lia)]
    rw[o]
    dsimp only
    rw[if_pos hz]
  | node hs =>
   rename_i z ts us g1 g2 g3
   have wl:=Y6 W
   have eu:z++(bl g1++(40::(bl g2++(us++(41::bl g3)))))++l=z++(bl g1++(40::(bl g2++(us++(41::(bl g3++l)))))):=by simp
   rw[eu]
   have t:=V6 (p:=Pat.letter) (b:=bl g1++(40::(bl g2++(us++(41::(bl g3++l)))))) wl.2 (by
    cases g1 with
    | zero=>exact .inr ⟨40,_,rfl,by decide⟩
    | succ g=>exact .inr ⟨32,_,rfl,by decide⟩)
   unfold Pat.node
   rw[t.1,t.2,Rx (.inr ⟨40,_,rfl,by decide⟩)]
   have o:Pat.one 40 (40::(bl g2++(us++(41::(bl g3++l)))))=some (bl g2++(us++(41::(bl g3++l)))):=rfl
   rw[o]
   dsimp only
   have main:Pat.things (Pat.node d) z (Pat.sk (bl g2++(us++(41::(bl g3++l)))))=some (ts,41::(bl g3++l)):=by
    have st:Stp (41::(bl g3++l)):=.inr ⟨41,_,rfl,.inr rfl⟩
    have fin:∀{ks:List Nat},¬z=Pat.Fq->Pat.wants z=some ks->Kds d ks ts->Pat.things (Pat.node d) z (Pat.sk (bl g2++(us++(41::(bl g3++l)))))=some (ts,41::(bl g3++l)):=λ{ks} hz hk K=>by
     rw[Rx (.inr ((AhB K hs).app))]
     unfold Pat.things
     rw[if_neg hz,hk]
     exact Afb (λw h hl=>Afe w h hl) K hs st
    cases W with
    | rows h1 h2 h3 =>
     rename_i rs
     have rr:=Aju (l:=bl g3++l) h2 h3 hs
     have nb:Nb us:=Afc h3 hs
     rw[Rx (.inr nb.app)]
     unfold Pat.things
     rw[if_pos rfl,rr]
     rfl
    | nums w ha hb =>
     exact fin (ks:=[110,110]) (by rcases w with rfl | rfl <;> decide) (by rcases w with rfl | rfl <;> decide) ⟨⟨_,rfl,ha⟩,⟨_,rfl,hb⟩,trivial⟩
    | one w h=>exact fin (ks:=[112]) (by rcases w with rfl | rfl | rfl | rfl <;> decide) (by rcases w with rfl | rfl | rfl | rfl <;> decide) ⟨h,trivial⟩
    | two w h1 h2=>exact fin (ks:=[112,112]) (by rcases w with rfl | rfl | rfl <;> decide) (by rcases w with rfl | rfl | rfl <;> decide) ⟨h1,h2,trivial⟩
    | tile h ha hb=>exact fin (ks:=[112,110,110]) (by decide) (by decide) ⟨h,⟨_,rfl,ha⟩,⟨_,rfl,hb⟩,trivial⟩
    | blk h1 h2 h3=>exact fin (ks:=[112,112,112]) (by decide) (by decide) ⟨h1,h2,h3,trivial⟩
   rw[main]
   dsimp only
   have o2:Pat.one 41 (41::(bl g3++l))=some (bl g3++l):=rfl
   rw[o2]
   dsimp only
   rw[Rx hl.nb]
theorem AhC{x:Nd}{u:List Nat}{g:Nat}(W:Wd 12 x)(h:Wt x u):Pat.whole (bl g++u)=some x:=by
 unfold Pat.whole
 rw[Rx (.inr (Akz W h))]
 have:=Afe (l:=[]) W h (.inl rfl)
 rw[ApT] at this
 rw[this]
theorem Afg{d:Nat}:∀{ts:List Nd},ts≠[]->(∀ x∈ts,Wt x (wr d x))->WtL ts (cj (ts.map (wr d)))
 | [],h,_=>absurd rfl h
 | [x],_,h=>by
  have:cj ([x].map (wr d))=wr d x:=by simp[cj]
  rw[this]
  exact .one (h x (by simp))
 | x::y::ts,_,h=>by
  have e:cj ((x::y::ts).map (wr d))=wr d x++(44::(bl 0++cj ((y::ts).map (wr d)))):=by simp[cj,bl]
  rw[e]
  exact .cons (h x (by simp)) (Afg (by simp) λz hz=>h z (Ap7 _ hz))
theorem Ab8{d n:Nat}:Wt (.num n) (wr d (.num n)):=by
 rw[Jt]
 have:=Wt.num (n:=n) (g:=0)
 rw[show dec n++bl 0=dec n from ApT _] at this
 exact this
theorem Alv{d:Nat}{r:List Nat}:Wt (.run r) (wr d (.run r)):=by
 rw[S9]
 have:=Wt.run (r:=r) (g:=0)
 rw[show r++bl 0=r from ApT _] at this
 exact this
theorem Alw{d:Nat}{z:List Nat}:Wt (.nam z) (wr d (.nam z)):=by
 rw[V3]
 have:=Wt.nam (z:=z) (g:=0)
 rw[show z++bl 0=z from ApT _] at this
 exact this
theorem Rb{d:Nat}{z:List Nat}{ts:List Nd}(h0:ts≠[])(h:∀ x∈ts,Wt x (wr d x)):Wt (.node z ts) (wr (d+1) (.node z ts)):=by
 have:=Wt.node (z:=z) (g1:=0) (g2:=0) (g3:=0) (Afg h0 h)
 have e:z++(bl 0++(40::(bl 0++(cj (ts.map (wr d))++(41::bl 0)))))=wr (d+1) (.node z ts):=by
  show _=wz z (ts.map (wr d))
  unfold wz
  simp[bl]
 rw[e] at this
 exact this
theorem Wq:∀{d:Nat} {x:Nd},Wd d x->Wt x (wr d x)
 | 0,x,W=>by cases W
 | d+1,x,W=>by
  cases W with
  | nam h=>exact Alw
  | rows h1 h2 h3 =>
   refine Rb (λe=>h1 (List.map_eq_nil_iff.mp e)) λx hx=>?_
   obtain⟨r,_,rfl⟩:=List.mem_map.mp hx
   exact Alv
  | nums w ha hb =>
   refine Rb (by simp) λx hx=>?_
   rcases List.mem_cons.mp hx with rfl | hx
   ·exact Ab8
   ·rw[List.mem_singleton.mp hx];exact Ab8
  | one w h =>
   refine Rb (by simp) λx hx=>?_
   rw[List.mem_singleton.mp hx]
   exact Wq h
  | two w h1 h2 =>
   refine Rb (by simp) λx hx=>?_
   rcases List.mem_cons.mp hx with rfl | hx
   ·exact Wq h1
   ·rw[List.mem_singleton.mp hx];exact Wq h2
  | tile h ha hb =>
   refine Rb (by simp) λx hx=>?_
   rcases List.mem_cons.mp hx with rfl | hx
   ·exact Wq h
   ·rcases List.mem_cons.mp hx with rfl | hx
    ·exact Ab8
    ·rw[List.mem_singleton.mp hx];exact Ab8
  | blk h1 h2 h3 =>
   refine Rb (by simp) λx hx=>?_
   rcases List.mem_cons.mp hx with rfl | hx
   ·exact Wq h1
   ·rcases List.mem_cons.mp hx with rfl | hx
    ·exact Wq h2
    ·rw[List.mem_singleton.mp hx];exact Wq h3
theorem AhD{kn:Kns}{x:Nd}{u:List Nat}{g:Nat}(W:Wd 12 x)(h:Wt x u):rdp kn (bl g++u)=(out kn 12 x,wr 12 x):=by
 unfold rdp
 rw[AhC W h]
theorem Alx{kn:Kns}{x:Nd}(W:Wd 12 x):rdp kn (wr 12 x)=(out kn 12 x,wr 12 x):=AhD (g:=0) W (Wq W)
theorem K7:∀{d:Nat} {x:Nd},Wd d x->Wd (d+1) x
 | 0,x,W=>by cases W
 | d+1,x,W=>by
  cases W with
  | nam h=>exact .nam h
  | rows h1 h2 h3=>exact .rows h1 h2 h3
  | nums w ha hb=>exact .nums w ha hb
  | one w h=>exact .one w (K7 h)
  | two w h1 h2=>exact .two w (K7 h1) (K7 h2)
  | tile h ha hb=>exact .tile (K7 h) ha hb
  | blk h1 h2 h3=>exact .blk (K7 h1) (K7 h2) (K7 h3)
theorem Afh{d e:Nat}{x:Nd}(h:Wd d x)(l:d<=e):Wd e x:=by
 obtain⟨k,rfl⟩:∃ k,e=d+k:=⟨e-d,by lia⟩
 clear l
 induction k with
 | zero=>exact h
 | succ k ih=>exact K7 ih
theorem Afi{d:Nat}{z:List Nat}{ts:List Nd}(h:Wd (d+1) (.node z ts)):∀ x∈ts,(∃ n,x=.num n)\/(∃ r,x=.run r)\/Wd d x:=by
 intro x hx
 cases h with
 | rows h1 h2 h3 =>
  obtain⟨r,_,rfl⟩:=List.mem_map.mp hx
  exact .inr (.inl ⟨r,rfl⟩)
 | nums w _ _ =>
  rcases List.mem_cons.mp hx with rfl | h
  ·exact .inl ⟨_,rfl⟩
  ·exact .inl ⟨_,List.mem_singleton.mp h⟩
 | one w h1=>rw[List.mem_singleton.mp hx];exact .inr (.inr h1)
 | two w h1 h2 =>
  rcases List.mem_cons.mp hx with rfl | h
  ·exact .inr (.inr h1)
  ·rw[List.mem_singleton.mp h];exact .inr (.inr h2)
 | tile h1 _ _ =>
  rcases List.mem_cons.mp hx with rfl | h
  ·exact .inr (.inr h1)
  ·rcases List.mem_cons.mp h with rfl | h
   ·exact .inl ⟨_,rfl⟩
   ·exact .inl ⟨_,List.mem_singleton.mp h⟩
 | blk h1 h2 h3 =>
  rcases List.mem_cons.mp hx with rfl | h
  ·exact .inr (.inr h1)
  ·rcases List.mem_cons.mp h with rfl | h
   ·exact .inr (.inr h2)
   ·rw[List.mem_singleton.mp h];exact .inr (.inr h3)
theorem Ab9:∀{d:Nat} {x:Nd},Wd d x->wr (d+1) x=wr d x
 | 0,x,W=>by cases W
 | d+1,.nam z,W=>by rw[V3,V3]
 | d+1,.num n,W=>by cases W
 | d+1,.run r,W=>by cases W
 | d+1,.node z ts,W=>by
  show wz z (ts.map (wr (d+1)))=wz z (ts.map (wr d))
  congr 1
  apply Aq7
  intro x hx
  rcases Afi W x hx with ⟨n,rfl⟩ | ⟨r,rfl⟩ | h
  ·rw[Jt,Jt]
  ·rw[S9,S9]
  ·exact Ab9 h
theorem Ak1{d e:Nat}{x:Nd}(h:Wd d x)(l:d<=e):wr e x=wr d x:=by
 obtain⟨k,rfl⟩:∃ k,e=d+k:=⟨e-d,by lia⟩
 clear l
 induction k with
 | zero=>rfl
 | succ k ih=>rw[show d+(k+1)=(d+k)+1 by lia,Ab9 (Afh h (by lia)),ih]
theorem Y7{s1 s2:Nd->Res}{w1 w2:Nd->List Nat}:∀{ts:List Nd},(∀ x∈ts,arg s1 w1 x=arg s2 w2 x)->args s1 w1 ts=args s2 w2 ts
 | [],_=>rfl
 | x::ts,h=>by
  unfold args
  rw[h x Ap6,Y7 λy hy=>h y (Ap7 _ hy)]
theorem AcY{kn:Kns}:∀{d:Nat} {x:Nd},Wd d x->out kn (d+1) x=out kn d x
 | 0,x,W=>by cases W
 | d+1,.nam z,W=>by rw[Ab5,Ab5]
 | d+1,.num n,W=>by cases W
 | d+1,.run r,W=>by cases W
 | d+1,.node z ts,W=>by
  have e:args (out kn (d+1)) (wr (d+1)) ts=args (out kn d) (wr d) ts:=Y7 λx hx=>by
   rcases Afi W x hx with ⟨n,rfl⟩ | ⟨r,rfl⟩ | h
   ·rfl
   ·rfl
   ·rw[Y5 h,Y5 h,AcY h,Ab9 h]
  show(match args (out kn (d+1)) (wr (d+1)) ts with | .inl f=>_ | .inr as=>_)=(match args (out kn d) (wr d) ts with | .inl f=>_ | .inr as=>_)
  rw[e]
theorem AhE{kn:Kns}{d e:Nat}{x:Nd}(h:Wd d x)(l:d<=e):out kn e x=out kn d x:=by
 obtain⟨k,rfl⟩:∃ k,e=d+k:=⟨e-d,by lia⟩
 clear l
 induction k with
 | zero=>rfl
 | succ k ih=>rw[show d+(k+1)=(d+k)+1 by lia,AcY (Afh h (by lia)),ih]
def brk (c:Nat):Bool:=decide (c=40\/c=41\/c=44)
inductive Ins:List Nat->List Nat->Prop
 | nil:Ins [] []
 | let {c:Nat} {v u:List Nat}:brk c=false->Ins v u->Ins (c::v) (c::u)
 | brk {c g h:Nat} {v u:List Nat}:brk c=true->Ins v u->Ins (c::v) (bl g++(c::(bl h++u)))
theorem Ins.split:∀{a b u:List Nat},Ins (a++b) u->∃ u1 u2,u=u1++u2/\Ins a u1/\Ins b u2
 | [],b,u,h=>⟨[],u,rfl,.nil,h⟩
 | c::a,b,u,h=>by
  rw[Aqx] at h
  cases h with
  | «let» hc h =>
   obtain⟨u1,u2,rfl,h1,h2⟩:=Ins.split h
   exact⟨_::u1,u2,rfl,.let hc h1,h2⟩
  | brk hc h =>
   obtain⟨u1,u2,rfl,h1,h2⟩:=Ins.split h
   rename_i g h'
   exact⟨bl g++(c::(bl h'++u1)),u2,by simp,.brk hc h1,h2⟩
theorem Ins.word:∀{z u:List Nat},(∀ c∈z,Mine.brk c=false)->Ins z u->u=z
 | [],u,_,h=>by cases h;rfl
 | c::z,u,hz,h=>by
  cases h with
  | «let» hc h=>rw[Ins.word (λd hd=>hz d (Ap7 _ hd)) h]
  | brk hc h=>rw[hz c Ap6] at hc;cases hc
theorem AbA(g h:Nat):bl g++bl h=bl (g+h):=by unfold bl;rw[List.replicate_append_replicate]
theorem Wt.bl'{x:Nd}{u:List Nat}{g:Nat}(h:Wt x u):Wt x (u++bl g):=by
 cases h with
 | num=>rw[ApN,AbA];exact .num
 | run=>rw[ApN,AbA];exact .run
 | nam=>rw[ApN,AbA];exact .nam
 | node h =>
  rename_i z ts us g1 g2 g3
  have e:z++(bl g1++(40::(bl g2++(us++(41::bl g3)))))++bl g=z++(bl g1++(40::(bl g2++(us++(41::(bl (g3+g))))))):=by
   rw[<- AbA]
   simp
  rw[e]
  exact .node h
theorem Afj{c:Nat}(h:Pat.letter c=true):brk c=false:=by
 have:=of_decide_eq_true h
 exact decide_eq_false (by lia)
theorem Ajv{c:Nat}(h:Pat.Ge c=true):brk c=false:=by
 have:=of_decide_eq_true h
 exact decide_eq_false (by lia)
theorem Aly{c:Nat}(h:Sg c):brk c=false:=by
 rcases h with h | h <;> rw[h] <;> decide
theorem AbB{c:Nat}(hc:brk c=true){v u:List Nat}(h:Ins (c::v) u):∃ g k u',u=bl g++(c::(bl k++u'))/\Ins v u':=by
 cases h with
 | «let» h1 _=>rw[hc] at h1;cases h1
 | brk _ h=>exact⟨_,_,_,rfl,h⟩
theorem AcZ{d:Nat}:∀{ts:List Nd} {u:List Nat} {g:Nat},ts≠[]->(∀ x∈ts,∀{u:List Nat},Ins (wr d x) u->Wt x u)->Ins (cj (ts.map (wr d))) u->WtL ts (u++bl g)
 | [],u,g,h,_,_=>absurd rfl h
 | [x],u,g,_,hx,h=>by
  have:cj ([x].map (wr d))=wr d x:=by simp[cj]
  rw[this] at h
  exact .one (hx x (by simp) h).bl'
 | x::y::ts,u,g,_,hx,h=>by
  have e:cj ((x::y::ts).map (wr d))=wr d x++(44::cj ((y::ts).map (wr d))):=by simp[cj]
  rw[e] at h
  obtain⟨u1,u2,rfl,h1,h2⟩:=h.split
  obtain⟨g1,k1,u3,rfl,h3⟩:=AbB (by decide) h2
  have e2:u1++(bl g1++(44::(bl k1++u3)))++bl g=(u1++bl g1)++(44::(bl k1++(u3++bl g))):=by simp
  rw[e2]
  exact .cons (hx x (by simp) h1).bl' (AcZ (by simp) (λz hz=>hx z (Ap7 _ hz)) h3)
theorem ins_node{d:Nat}{z:List Nat}{ts:List Nd}{u:List Nat}(h0:ts≠[])(hz:∀ c∈z,Pat.letter c=true)(hx:∀ x∈ts,∀{u:List Nat},Ins (wr d x) u->Wt x u)(h:Ins (wr (d+1) (.node z ts)) u):Wt (.node z ts) u:=by
 have e:wr (d+1) (.node z ts)=z++(40::(cj (ts.map (wr d))++[41])):=rfl
 rw[e] at h
 obtain⟨u1,u2,rfl,h1,h2⟩:=h.split
 obtain⟨g1,k1,u3,rfl,h3⟩:=AbB (by decide) h2
 obtain⟨u4,u5,rfl,h4,h5⟩:=h3.split
 obtain⟨g2,k2,u6,rfl,h6⟩:=AbB (by decide) h5
 cases h6
 rw[Ins.word (λc hc=>Afj (hz c hc)) h1]
 have e2:z++(bl g1++(40::(bl k1++(u4++(bl g2++(41::(bl k2++[])))))))=z++(bl g1++(40::(bl k1++((u4++bl g2)++(41::bl k2))))):=by simp
 rw[e2]
 exact .node (AcZ h0 hx h4)
theorem X3{d n:Nat}(hn:n<100){u:List Nat}(h:Ins (wr d (.num n)) u):Wt (.num n) u:=by
 rw[Jt] at h
 rw[Ins.word (λc hc=>Ajv ((Ab7 n (List.mem_range.mpr hn)).2.2.1 c hc)) h]
 have:=Wt.num (n:=n) (g:=0)
 rw[show dec n++bl 0=dec n from ApT _] at this
 exact this
theorem Qk:∀{d:Nat} {x:Nd} {u:List Nat},Wd d x->Ins (wr d x) u->Wt x u
 | 0,x,u,W,h=>by cases W
 | d+1,x,u,W,h=>by
  cases W with
  | nam hz =>
   rw[V3] at h
   rename_i z
   rw[Ins.word (λc hc=>Afj ((Ny hz).2 c hc)) h]
   have:=Wt.nam (z:=z) (g:=0)
   rw[show z++bl 0=z from ApT _] at this
   exact this
  | rows h1 h2 h3 =>
   refine ins_node (λe=>h1 (List.map_eq_nil_iff.mp e)) (by decide) (λx hx u hh=>?_) h
   obtain⟨r,hr,rfl⟩:=List.mem_map.mp hx
   rw[S9] at hh
   rw[Ins.word (λc hc=>Aly ((h3 r hr).2 c hc)) hh]
   have:=Wt.run (r:=r) (g:=0)
   rw[show r++bl 0=r from ApT _] at this
   exact this
  | nums w ha hb =>
   refine ins_node (by simp) (by rcases w with rfl | rfl <;> decide) (λx hx u hh=>?_) h
   rcases List.mem_cons.mp hx with rfl | hx
   ·exact X3 ha hh
   ·rw[List.mem_singleton.mp hx] at hh ⊢;exact X3 hb hh
  | one w h1 =>
   refine ins_node (by simp) (by rcases w with rfl | rfl | rfl | rfl <;> decide) (λx hx u hh=>?_) h
   rw[List.mem_singleton.mp hx] at hh ⊢
   exact Qk h1 hh
  | two w h1 h2 =>
   refine ins_node (by simp) (by rcases w with rfl | rfl | rfl <;> decide) (λx hx u hh=>?_) h
   rcases List.mem_cons.mp hx with rfl | hx
   ·exact Qk h1 hh
   ·rw[List.mem_singleton.mp hx] at hh ⊢;exact Qk h2 hh
  | tile h1 ha hb =>
   refine ins_node (by simp) (by decide) (λx hx u hh=>?_) h
   rcases List.mem_cons.mp hx with rfl | hx
   ·exact Qk h1 hh
   ·rcases List.mem_cons.mp hx with rfl | hx
    ·exact X3 ha hh
    ·rw[List.mem_singleton.mp hx] at hh ⊢;exact X3 hb hh
  | blk h1 h2 h3 =>
   refine ins_node (by simp) (by decide) (λx hx u hh=>?_) h
   rcases List.mem_cons.mp hx with rfl | hx
   ·exact Qk h1 hh
   ·rcases List.mem_cons.mp hx with rfl | hx
    ·exact Qk h2 hh
    ·rw[List.mem_singleton.mp hx] at hh ⊢;exact Qk h3 hh
theorem Ajw{kn:Kns}{x:Nd}{u:List Nat}(W:Wd 12 x)(h:Ins (wr 12 x) u):rdp kn u=(out kn 12 x,wr 12 x):=AhD (g:=0) W (Qk W h)
theorem Ins.AmI{v u:List Nat}{c:Nat}(hc:Mine.brk c=false)(h:Ins v u):Ins (v++[c]) (u++[c]):=by
 induction h with
 | nil=>exact .let hc .nil
 | «let» hc' _ ih=>exact .let hc' ih
 | brk hc' _ ih =>
  rename_i d g k v u _
  have e:bl g++(d::(bl k++u))++[c]=bl g++(d::(bl k++(u++[c]))):=by simp
  rw[e]
  exact .brk hc' ih
theorem Ins.AmJ{v u:List Nat}{c g' k':Nat}(hc:Mine.brk c=true)(h:Ins v u):Ins (v++[c]) (u++(bl g'++(c::bl k'))):=by
 induction h with
 | nil =>
  have:=Ins.brk (g:=g') (h:=k') hc .nil
  rw[ApT] at this
  exact this
 | «let» hc' _ ih=>exact .let hc' ih
 | brk hc' _ ih =>
  rename_i d g k v u _
  have e:bl g++(d::(bl k++u))++(bl g'++(c::bl k'))=bl g++(d::(bl k++(u++(bl g'++(c::bl k'))))):=by simp
  rw[e]
  exact .brk hc' ih
end Mine
namespace L2
open PySem PySem.Spec PyProof.Rows
section
variable {X:Cx}{CX CX':CXT}{k k':Nat}{f f' C C':Addr}{fd fd':FuncData}{ps ps':List Str}{sp sp':Sp}{E:XK}{m:Str}{pos apos:Pos}{o:Expr}{ta:TE}
def Aoh (C C':Addr)(m:Str)(sp sp':Sp)(E:XK)(ta:TE):TE:=λσ H Q=>ta σ H λx H1=>∃ a dx fs,x=.ref a/\fs.lookup m=none /\
 ((H1 a=some (.ins C dx fs)/\sp [x] H1 Q E)\/(H1 a=some (.ins C' dx fs)/\sp' [x] H1 Q E))
end
section
variable {X:Cx}{CX:CXT}{k:Nat}{f:Addr}{fd:FuncData}{ps:List Str}{sp:Sp}{E:XK}{m:Str}{pos apos:Pos}{o e:Expr}{es:List Expr}{ta:TE}{t:TA}{dvs:List V}{ds:List Value}
def Alz (K:W.Frag)(m:Str)(f:Addr)(sp:Sp)(E:XK)(ta:TE):TE:=λσ H Q=>ta σ H λx H1=>∃ a dx fs C,x=.ref a/\H1 a=some (.ins C dx fs)/\fs.lookup m=none/\Cls K C/\Meth K C m f/\sp [x] H1 Q E
theorem Bc{pl:Sem Bool}{K:W.Frag}(hK:K=X.K)(he:PE X o ta)(F:Br X.prog X.w X.K X.mg X.base CX k f fd ps sp)(hr:GK k X.A)(hb:Binds X.K fd ps [])(hx:Passes CX X E)
  (ht:eval (.Call (.Attribute o m apos) [] [] pos) X.env=(do
   let ov <- eval o X.env
   standAt apos.atName
   let (f,first) <- holding [ov] (getMethod ov m pl)
   callWith pos f first (backTo pos (starEach [] X.env)) (backToKw pos (keywordEach [] X.env))):=by rfl) :
  PE X (.Call (.Attribute o m apos) [] [] pos) (Alz K m f sp E ta):=by
 subst hK
 intro pins s σ H Q I h
 refine W.methodCall_KW (pl:=pl) (thn (he pins s σ H _ I h) λu s1 ⟨x,H1,I1,rx,a,dx,fs,C,ex,ea,l,c,hm,q⟩=>?_) ht
 subst ex
 obtain rfl:u=Value.ref a:=rx
 refine Nj I1 ea c hm l ?_
 exact W.callWith_K0 (first:=[.ref a]) I1.kIn hm.kp (Vx (us:=[.ref a]) (vs:=[.ref a]) F hr hb .nil hx I1 (.cons rfl .nil) (by simpa using q))
def Ajx (K:W.Frag)(m:Str)(f:Addr)(sp:Sp)(E:XK)(ta:TE)(t:TA):TE:=λσ H Q=>ta σ H λx H1=>∃ a dx fs C,x=.ref a/\H1 a=some (.ins C dx fs)/\fs.lookup m=none/\Cls K C/\Meth K C m f/\t σ H1 λvs H2=>sp (x::vs) H2 Q E
theorem Age{pl:Sem Bool}{K:W.Frag}(hK:K=X.K)(he:PE X o ta)(F:Br X.prog X.w X.K X.mg X.base CX k f fd ps sp)(hr:GK k X.A)(hb:Binds X.K fd ps [])(hx:Passes CX X E)(ha:PA X (e::es) t)
  (hst:starEach (e::es) X.env=(false,eval e X.env)::starEach es X.env:=by rfl) (hpl:(backTo pos (starEach es X.env)).any (·.1)=false:=by rfl)
  (ht:eval (.Call (.Attribute o m apos) (e::es) [] pos) X.env=(do
   let ov <- eval o X.env
   standAt apos.atName
   let (f,first) <- holding [ov] (getMethod ov m pl)
   callWith pos f first (backTo pos (starEach (e::es) X.env)) (backToKw pos (keywordEach [] X.env))):=by rfl) :
  PE X (.Call (.Attribute o m apos) (e::es) [] pos) (Ajx K m f sp E ta t):=by
 subst hK
 intro pins s σ H Q I h
 refine W.methodCall_KW (pl:=pl) (thn (he pins s σ H _ I h) λu s1 ⟨x,H1,I1,rx,a,dx,fs,C,ex,ea,l,c,hm,q⟩=>?_) ht
 subst ex
 obtain rfl:u=Value.ref a:=rx
 refine Nj I1 ea c hm l ?_
 refine W.callWith_K (first:=[.ref a]) (h₀:=X.base) I.ok.mod.kin hm.kp (thn (ha pos pins s1 σ H1 _ I1 q) λus s2 ⟨vs,H2,I2,r,q2⟩=>⟨I2.kIn,?_⟩) hst hpl
 exact Vx (us:=.ref a::us) (vs:=.ref a::vs) F hr hb .nil hx I2 (.cons rfl r) (by simpa using q2)
end
def vB (bs:List Bool):List V:=bs.map V.bl
theorem Aek(bs:List Bool):(vB bs).length=bs.length:=by unfold vB;rw[Apq]
theorem Ael(bs:List Bool)(b:Bool):vB bs++[.bl b]=vB (bs++[b]):=by unfold vB;rw[Apx];rfl
theorem Y8{bs:List Bool}:∀{us:List Value},Vals (bs.map V.bl) us->us=bs.map Value.bool:=by
 induction bs with
 | nil=>intro us r;rw[ApW] at r;cases r;rfl
 | cons n ns ih =>
  intro us r
  rw[Apw] at r
  cases r with
  | cons r1 r2 =>
   cases r1
   rw[ih r2]
   rfl
theorem any_range(bs:List Bool):(List.range bs.length).any (λi=>bs.getD i false)=bs.any id:=by
 rw[Aqq,List.any_eq_true,List.any_eq_true]
 constructor
 ·rintro⟨i,hi,h⟩
  have hl:=List.mem_range.mp hi
  refine⟨bs[i],ApI hl,?_⟩
  rw[ApR,Apu hl] at h
  exact h
 ·rintro⟨b,hb,h⟩
  obtain⟨i,hi,e⟩:=List.getElem_of_mem hb
  refine⟨i,List.mem_range.mpr hi,?_⟩
  rw[ApR,Apu hi,e]
  exact h
section
variable {X:Cx}{K:W.Frag}
theorem AaM(hK:X.K=K:=by rfl)(hc:X.calm=true:=by rfl):JC X (.builtin "any") (λxs H Q=>∃ a bs,xs=[.ref a]/\SqL K H a (vB bs)/\Q (.bl (bs.any id)) H):=by
 subst hK
 intro pins s σ H xs us Q I rv h
 obtain⟨a,bs,rfl,hq,q⟩:=h
 obtain⟨u,rfl,ru⟩:=rv.one
 cases ru
 obtain⟨its,r,pl,hl⟩:=I.list hq
 have ei:=Y8 (bs:=bs) r
 subst ei
 obtain⟨o,eo,_⟩:=id pl.isList
 have alt:=Heap.lt_size eo
 refine call_any_walk (wpAny_pyIter_list pl.isList ?_)
 refine⟨_,_,_,_,_,_,λi=>bs.getD i false,rfl,Walks.list (A:=X.A.in1) (I.ok.hd hc) _ a (Apy alt) (bs.map Value.bool).toArray,⟨⟨_,Heap.get?_push_size _ rfl,rfl,rfl⟩,pl.isList.push _⟩,?_,λh' tk hk=>?_⟩
 ·intro i v s' Q' E' hP hQ
  have hv:(bs.map Value.bool)[i]?=some v:=by simpa using hP
  rw[Ap9] at hv
  cases e:bs[i]? with
  | none=>rw[e] at hv;cases hv
  | some b =>
   rw[e] at hv
   cases hv
   have eb:bs.getD i false=b:=by rw[ApR,e];rfl
   have hQ':Q' (bs.getD i false) s':=hQ
   rw[eb] at hQ'
   exact wpAny_truthy_bool hQ'
 ·have e1:(List.range ((bs.map Value.bool).toArray).size).any (λi=>bs.getD i false)=bs.any id:=by
   rw[Ap3,Apq]
   exact any_range bs
  rw[e1]
  refine⟨.bl (bs.any id),H,I.kept (t':=tk) (λb ob e=>hk b ob ?_ (Heap.get?_push_of_some _ e)),rfl,q⟩
  have lt:=Heap.lt_size e
  intro hm
  rw[List.mem_singleton.mp hm] at lt
  exact ApC _ lt
end
theorem all_range(bs:List Bool):(List.range bs.length).all (λi=>bs.getD i false)=bs.all id:=by
 rw[Aqq,AqA,AqA]
 constructor
 ·rintro h b hb
  obtain⟨i,hi,e⟩:=List.getElem_of_mem hb
  have:=h i (List.mem_range.mpr hi)
  rw[ApR,Apu hi,e] at this
  exact this
 ·rintro h i hi
  have hl:=List.mem_range.mp hi
  rw[ApR,Apu hl]
  exact h _ (ApI hl)
section
variable {X:Cx}{K:W.Frag}
theorem Agf(hK:X.K=K:=by rfl)(hc:X.calm=true:=by rfl):JC X (.builtin "all") (λxs H Q=>∃ a bs,xs=[.ref a]/\SqL K H a (vB bs)/\Q (.bl (bs.all id)) H):=by
 subst hK
 intro pins s σ H xs us Q I rv h
 obtain⟨a,bs,rfl,hq,q⟩:=h
 obtain⟨u,rfl,ru⟩:=rv.one
 cases ru
 obtain⟨its,r,pl,hl⟩:=I.list hq
 have ei:=Y8 (bs:=bs) r
 subst ei
 obtain⟨o,eo,_⟩:=id pl.isList
 have alt:=Heap.lt_size eo
 refine call_all_walk (wpAny_pyIter_list pl.isList ?_)
 refine⟨_,_,_,_,_,_,λi=>bs.getD i false,rfl,Walks.list (A:=X.A.in1) (I.ok.hd hc) _ a (Apy alt) (bs.map Value.bool).toArray,⟨⟨_,Heap.get?_push_size _ rfl,rfl,rfl⟩,pl.isList.push _⟩,?_,λh' tk hk=>?_⟩
 ·intro i v s' Q' E' hP hQ
  have hv:(bs.map Value.bool)[i]?=some v:=by simpa using hP
  rw[Ap9] at hv
  cases e:bs[i]? with
  | none=>rw[e] at hv;cases hv
  | some b =>
   rw[e] at hv
   cases hv
   have eb:bs.getD i false=b:=by rw[ApR,e];rfl
   have hQ':Q' (bs.getD i false) s':=hQ
   rw[eb] at hQ'
   exact wpAny_truthy_bool hQ'
 ·have e1:(List.range ((bs.map Value.bool).toArray).size).all (λi=>bs.getD i false)=bs.all id:=by
   rw[Ap3,Apq]
   exact all_range bs
  rw[e1]
  refine⟨.bl (bs.all id),H,I.kept (t':=tk) (λb ob e=>hk b ob ?_ (Heap.get?_push_of_some _ e)),rfl,q⟩
  have lt:=Heap.lt_size e
  intro hm
  rw[List.mem_singleton.mp hm] at lt
  exact ApC _ lt
end
def Apf (K:W.Frag)(n:Nat)(t:TGs):TG:=λv σ H Q=>∃ a xs,v=.ref a/\SqL K H a xs/\xs.length=n/\t xs σ H Q
structure Nz (X:Cx) (x x':Str) (Nc:List Str) (Bd:List Nat) (scope:Scope):Prop where
 kind:scope.kind=.function
 cell:∀ y∈scope.names,y.2≠.cell
 names:∀ y∈scope.names,y.2=.local->scope.names.lookup y.1=some .local
 fr:∀ y∈scope.names,y.2=.free->X.env.scope.names.lookup y.1=some .cell/\scope.names.lookup y.1=some .free
 loc:scope.names.lookup x=some .local
 AmK:scope.names.lookup x'=some .local
 len:Nc.length=Bd.length+2
 hd:Nc[0]?=some x
 hd2:Nc[1]?=some x'
 nd:Nc.Nodup
 cap:∀ k j,Bd[k]?=some j->∃ y,Nc[k+2]?=some y/\X.N[j]?=some y/\scope.names.lookup y=some .free
def AbC (K:W.Frag)(Bd:List Nat)(tc:TT)(te:TE)(J:It)(σ:St)(H:Hp)(Q:VK):Prop :=
 ∃ W:Nat->Nat->List V->Hp->Prop,(∃ m,W 0 m [] H)/\∀ i m ys H,W i m ys H ->
  (J.stop i H/\ys.length<=sizeLine/\∀ p,H p=none->Q (.ref p) (upd H p (.lst ys))) \/
  (J.go i H/\ys.length<sizeLine/\∀ x H',J.yld i H x H'->∃ a u v,x=.ref a/\SqT K H' a [u,v]/\tc (some u::some v::EY σ Bd) H' λb H2 =>
   if b=true then te (some u::some v::EY σ Bd) H2 λy H3=>∃ m',m'<m/\W (i+1) m' (ys++[y]) H3 else ∃ m',m'<m/\W (i+1) m' ys H2)
def AhF (K:W.Frag)(wi:TI)(Bd:List Nat)(tc:TT)(te:TE):TE:=λσ H Q=>wi σ H λJ H1=>AbC K Bd tc te J σ H1 Q
section
variable {X:Cx}{pins:List (Addr × Obj)}{σ:St}{H:Hp}{s:Shared}
theorem AhG{x x':Str}{Nc:List Str}{Bd:List Nat}{scope:Scope}{cl:List (Str × Addr)}{C:Addr}{fp:List Addr}(I:Inv X pins σ H s)(O:Nz X x x' Nc Bd scope)
  (hcl:∀ x c,cl.lookup x=some c->X.env.cells.lookup x=some c/\(x,NameKind.free)∈scope.names) (Kw:∀ x,(x,NameKind.free)∈scope.names->cl.lookup x=X.env.cells.lookup x)
  (hC:s.heap.objs.size<=C) (hfp:∀ b∈fp,Hr X pins H b) (hfo:∀ b∈fp,b<s.heap.objs.size):(FJ X Nc scope cl C fp s H).Ok where
 mod:=I.ok.mod
 kind:=O.kind
 glob:=I.ok.glob
 blt:=I.ok.blt
 above:=hC
 inj:=λa b c e1 e2=>I.ok.inj a b c (hcl a c e1).1 (hcl b c e2).1
 has:=λy hy=>by
  have mem:(y,NameKind.free)∈scope.names:=by
   have hy':((relabel scope X.env).names.lookup y=some .cell)\/((relabel scope X.env).names.lookup y=some .free):=hy
   have hm:∃ k,(y,k)∈(relabel scope X.env).names/\(k=.cell\/k=.free):=by
    rcases hy' with h | h
    ·exact⟨_,PySem.mem_of_lookup h,.inl rfl⟩
    ·exact⟨_,PySem.mem_of_lookup h,.inr rfl⟩
   obtain⟨k,hm,hk⟩:=hm
   obtain⟨⟨n,k'⟩,hm',e⟩:=List.mem_map.mp hm
   dsimp only at e
   by_cases hc:(k' == NameKind.free && X.env.scope.kind == .function && X.env.kindOf n == some .cell)=true
   ·rw[if_pos hc] at e
    injection e with e1 _
    subst e1
    have:k'=.free:=by
     have:=(ApU _ _▸(ApU _ _▸hc).1).1
     simpa using this
    subst this
    exact hm'
   ·rw[if_neg hc] at e
    injection e with e1 e2
    subst e1 e2
    rcases hk with hk | hk
    ·subst hk;exact absurd rfl (O.cell _ hm')
    ·subst hk;exact hm'
  obtain⟨c,e⟩:=I.ok.has y (.inl (O.fr _ mem rfl).1)
  exact⟨c,(Kw y mem).trans e⟩
 cab:=λ_ _ z=>nomatch z
 hd:=I.ok.hd
 frames:=I.ok.frames
 stk:=.inl rfl
 exf:=λb hb=>⟨Apy (Ap0 (hfo b hb) hC),λy c e=>(hfp b hb).2.2.2.2.1 y c (hcl y c e).1⟩
 bs:=I.bs
 bsz:=ApF I.ok.bsz I.sz
 Xa:=λb o e hb=>by
  rcases(hfp b hb).2.2.2.1 with z | z
  ·exact I.ok.Xa b o e z
  ·exact absurd (Ap0 (Heap.lt_size e) (ApF I.ok.bsz z)) (ApC _)
 Vs:=λb hb z=>by
  rcases List.mem_cons.mp (I.Vt b z) with e | e
  ·exact(hfp b hb).2.1 e
  ·exact(hfp b hb).2.2.1 e
 PJ:=I.stack
 frf:=I.QR
theorem Ada{x x':Str}{Nc:List Str}{Bd:List Nat}{scope:Scope}{cl:List (Str × Addr)}{C:Addr}{fp:List Addr}{h':Heap}{tk:Nat}{m0:Str->Option Value}(I:Inv X pins σ H s)(O:Nz X x x' Nc Bd scope)
  (hcl:∀ x c,cl.lookup x=some c->X.env.cells.lookup x=some c/\(x,NameKind.free)∈scope.names) (Kw:∀ x,(x,NameKind.free)∈scope.names->cl.lookup x=X.env.cells.lookup x)
  (hC:s.heap.objs.size<=C) (hfp:∀ b∈fp,Hr X pins H b) (hfo:∀ b∈fp,b<s.heap.objs.size)
  (old:∀ b o,s.heap.get? b=some o->h'.get? b=some o) (hns:h'.Ns C m0) :
  Inv (FJ X Nc scope cl C fp s H) [] (none::none::EY σ Bd) H { s with heap:=h',toks:=tk } where
 ok:=AhG I O hcl Kw hC hfp hfo
 os:=rfl
 bare:=I.bare
 base:=Un.kept old
 loc:=by
  refine⟨m0,hns,λi y v hN hσ hv=>?_⟩
  match i with
  | 0=>simp at hσ
  | 1=>simp at hσ
  | k+2 =>
   rw[Aqu,Aqu] at hσ
   obtain⟨j,hj,hs⟩:=Yc hσ
   obtain⟨z,hz1,hz2,hz3⟩:=O.cap k j hj
   have hN':Nc[k+2]?=some y:=hN
   rw[hz1] at hN'
   cases hN'
   have mem:(y,NameKind.free)∈scope.names:=PySem.mem_of_lookup hz3
   have hk:=(O.fr _ mem rfl).1
   obtain⟨m,hn,hl⟩:=I.loc
   obtain⟨u,r,l⟩:=hl j y v hz2 hs (.inr (.inl hk))
   refine⟨u,r,?_⟩
   rcases l with ⟨k',_⟩ | ⟨_,c,hc,z⟩
   ·have k'':X.env.scope.names.lookup y=some .local:=k'
    rw[hk] at k'';cases k''
   ·obtain⟨o,ho,hd⟩:=z
    exact .inr ⟨.inl (Fd I.ok.kind hz3 hk),c,(Kw y mem).trans hc,o,old _ _ ho,hd⟩
 cell:=λy c e=>by
  obtain⟨v,o,ho,hd⟩:=I.cell y c (hcl y c e).1
  exact⟨v,o,old _ _ ho,hd⟩
 free:=I.hok.fresh hC
 Je:=λy c e=>I.Je y c (hcl y c e).1
 pin:=λp hp=>absurd (show p∈([]:List (Addr × Obj)) from hp) (by simp)
 hok:=I.hok.kept old
 len:=by
  show(none::none::EY σ Bd).length=Nc.length
  rw[Apt,Apt,Yb,O.len]
theorem Adb{x x':Str}{px px' tp:Pos}{kx:Nat}{Nc:List Str}{Bd:List Nat}{scope:Scope}{cl:List (Str × Addr)}{iter elt:Expr}{ifs:List Expr}{pos:Pos}{tc:TT}{te:TE}{Q:VK}{it:Addr}{fp:List Addr}{tn:Nat->Heap->Prop}{J:It}
  {RR:Value->Addr->Result->Shared->Prop}{E:Value->Shared->Prop}
  (O:Nz X x x' Nc Bd scope) (hc:X.calm=true)
  (hcl:∀ x c,cl.lookup x=some c->X.env.cells.lookup x=some c/\(x,NameKind.free)∈scope.names) (Kw:∀ x,(x,NameKind.free)∈scope.names->cl.lookup x=X.env.cells.lookup x)
  (hte:∀ C fp s H,PE (FJ X Nc scope cl C fp s H) elt te) (htc:∀ C fp s H,PIf (FJ X Nc scope cl C fp s H) ifs tc)
  (I:Inv X pins σ H s) (T:Turn X.prog X.w X.K (.Tuple [.Name x px,.Name x' px'] kx tp) J fp it tn) (st:tn 0 s.heap) (hfp:∀ b∈fp,Hr X pins H b) (h:AbC X.K Bd tc te J σ H Q)
  (hRR:∀(D C:Addr) (s':Shared) (m:Str->Option Value),s'.heap.Ns C m->(∀ h',Heap.SameBut C s'.heap h'->∃ H',Inv X pins σ H' { s' with heap:=h' }/\H' C=none/\Q (.ref D) H') ->
   s.heap.objs.size<=C->RR (.ref D) C (.ok .next) s') :
  wpAny (model X.prog X.w) X.A (newList []) (λacc s₃=>wpAny (model X.prog X.w) X.A (newFunctionEnv scope X.env.globals cl [] X.env.qual none .none (some X.env)) (λcenv s₄ =>
   codeAny (model X.prog X.w) X.A (.compStart (.ListComp elt [⟨(.Tuple [.Name x px,.Name x' px'] kx tp),iter,ifs,0⟩] scope pos) 0 (.ref it) acc { cenv with scope:=relabel scope X.env }) (RR acc cenv.locals) s₄) E s₃) E s:=by
 refine wpAny_newObj_type (wpAny_newFunctionEnv O.cell (by intro y hy;simp at hy) (λh₁ hns₁ hsb₁=>?_) O.kind)
 dsimp only at hns₁ hsb₁ ⊢
 generalize hH2:s.heap.push { cls:=.type "list", dict:=none,data:=.seq ([]:List Value).toArray }=H2 at hns₁ hsb₁ ⊢
 have hC:H2.objs.size=s.heap.objs.size+1:=by rw[<- hH2,Heap.size_push]
 have hCle:s.heap.objs.size<=H2.objs.size:=by rw[hC];exact Aqf _
 have hDC:s.heap.objs.size≠H2.objs.size:=by rw[hC];exact Apy (Aqk _)
 have below:∀ b,b<s.heap.objs.size->b≠H2.objs.size/\b≠s.heap.objs.size:=λb hb=>⟨by rw[hC];exact Apy (Aqv hb),Apy hb⟩
 have old:∀ b o,s.heap.get? b=some o->h₁.get? b=some o:=λb o e=>hsb₁.extBut b o (below b (Heap.lt_size e)).1 (Heap.get?_push_of_some _ (hH2▸Heap.get?_push_of_some _ e))
 have hacc:h₁.get? s.heap.objs.size=some (Gm [] 0):=hsb₁.extBut _ _ hDC (Heap.get?_push_of_some _ (hH2▸Heap.get?_push_size _ rfl))
 have hfo:∀ b∈fp,b<s.heap.objs.size:=λb hb=>by
  obtain⟨o,e,_⟩:=T.obj _ _ st b hb
  exact Heap.lt_size e
 have st1:tn 0 h₁:=T.keep _ _ _ st λb _ o e=>old b o e
 generalize hDD:s.heap.objs.size=D at *
 generalize hCC:H2.objs.size=C at *
 have AcB:D<=C:=hCle
 let Y:Cx:=FJ X Nc scope cl C fp s H
 have I0:Inv Y [] (none::none::EY σ Bd) H { s with heap:=h₁,toks:=s.toks+([]:List (Str × Value)).length }:=Ada I O hcl Kw (by rw[hDD];exact hCle) hfp (λb hb=>by rw[hDD];exact hfo b hb) old hns₁
 have Yg:H D=none:=by rw[<- hDD];exact I.hok.fresh (Apv _)
 have Nk:D≠C:=hDC
 have Dfs:D∉Y.fs:=λz=>by
  have:=I.stack.mem (show D∈frs X.stack from z)
  obtain⟨_,o,e,_⟩:=this
  have:=Heap.lt_size e
  rw[hDD] at this
  exact ApC _ this
 have Yh:∀ y c,Y.env.cells.lookup y=some c->c≠D:=λy c e z=>by
  obtain⟨v,q⟩:=I.cell y c (hcl y c e).1
  have:=q.lt
  rw[z,hDD] at this
  exact ApC _ this
 have Dfp:∀ b∈fp,b≠D:=λb hb=>Apy (hfo b hb)
 have fpY:∀{H':Hp},(∀ b∈fp,H' b=none)->∀ b∈fp,Hr Y [] H' b:=λhn b hb =>
  ⟨hn b hb,Apy (Ap0 (hfo b hb) AcB),λz=>I0.ok.Vs b hb z,.inl hb,λy c e=>(I0.ok.exf b hb).2 y c e,λp hp=>absurd (show p∈([]:List (Addr × Obj)) from hp) (by simp)⟩
 obtain⟨W,⟨m0,w0⟩,turn⟩:=h
 have loop:∀ s₃:Shared,s₃={ s with heap:=h₁,toks:=s.toks+([]:List (Str × Value)).length } ->
   codeAny (model X.prog X.w) X.A (.compLoop (.ListComp elt [⟨(.Tuple [.Name x px,.Name x' px'] kx tp),iter,ifs,0⟩] scope pos) 0 (.ref it) (.ref D) (compEnvC scope cl C X.env)) (RR (.ref D) C) s₃:=by
  rintro s₃ rfl
  refine JK (λn s'=>∃(i:Nat) (o o':Option V) (H':Hp) (ys:List V) (us:List Value) (k:Nat),Inv Y [] (o::o'::EY σ Bd) H' s'/\tn i s'.heap/\(∀ b∈fp,H' b=none)/\s'.heap.get? D=some (Gm us k)/\H' D=none/\Vals ys us/\W i n ys H')
   ?_ m0 ⟨0,none,none,H,[],[],0,I0,st1,λb hb=>(hfp b hb).1,hacc,Yg,.nil,w0⟩
  rintro n s3 ⟨i,o3,o3',H3,ys,us,k,I3,st3,fr3,hD3,nD3,rv,w3⟩
  have fpP:∀{H':Hp} {ob:Obj},(∀ b∈fp,H' b=none)->∀ b∈fp,Hr Y [(D,ob)] H' b:=λhn b hb=>by
   obtain⟨g0,g1,g2,g3,g4,_⟩:=fpY hn b hb
   refine⟨g0,g1,g2,g3,g4,λp hp=>?_⟩
   have e:p=(D,_):=List.mem_singleton.mp (show p∈[(D,_)] from hp)
   rw[e]
   exact Ne.symm (Dfp b hb)
  have IP:Inv Y [(D,Gm us k)] (o3::o3'::EY σ Bd) H3 s3:=I3.Gf λp hp=>by
   have e:p=(D,Gm us k):=List.mem_singleton.mp hp
   subst e
   exact⟨hD3,nD3,Nk,Dfs,λv z=>by cases z⟩
  have S5:∀{σ':St} {H':Hp} {s':Shared} {pl:List (Addr × Obj)},Inv Y ([(D,Gm us k)]++pl) σ' H' s'->s'.heap.get? D=some (Gm us k)/\H' D=none:=λI'=>by
   have z:=I'.pin (D,Gm us k) (ApG _ (Aqp _ Ap6))
   exact⟨z.1,z.2.1⟩
  rcases turn i n ys H3 w3 with ⟨stop,hlen,fin⟩ | ⟨go,hlen,step⟩
  ·
   refine wpAny_mono (T.done Y rfl rfl rfl hc i _ s3 _ H3 (λ_ _=>False) IP (fpP fr3) st3 stop) (λr s4 hr=>?_) λ_ _ z=>z.elim
   obtain⟨hr,I4⟩:=hr
   subst hr
   obtain⟨gD,nD⟩:=S5 (pl:=[]) (by simpa using I4)
   obtain⟨m,hn,_⟩:=I4.loc
   refine hRR D C s4 m hn (λh' hs'=>⟨upd H3 D (.lst ys),?_,(Ao (Ne.symm Nk)).trans I4.free,fin D nD⟩) hCle
   have nt:∀ b ob,H3 b=some ob->b≠C:=λb ob e z=>by
    have:=I4.free
    rw[z] at e
    rw[show H3 C=none from this] at e
    cases e
   have u1:Un (frs X.stack) fp H H3 s.heap h':=Un.but I4.base hs' (show s.heap.objs.size<=C by rw[hDD];exact hCle)
   have ok1:HOk X.prog X.w H3 h':=λb ob e=>(I4.hok b ob e).stay (λc v hc q=>(hs'.2 c (by
    rcases hc with z | z
    ·rw[z];exact nt b ob e
    ·exact nt c _ z)).trans q) (λ_ q=>q) λ_ _ q=>q
   have gD':h'.get? D=some (Gm us k):=(hs'.2 D Nk).trans gD
   exact I.call' (s':={ s4 with heap:=h' }) (ch:=fp) I4.os (u1.track (Aqe hDD) nD) (ok1.track nD ⟨hlen,us,k,rv,gD'⟩) I4.bare λb hb=>by
    obtain⟨_,g1,_,g3,g4,g5⟩:=hfp b hb
    exact⟨g3,g1,g4,g5⟩
  ·
   refine wpAny_mono (T.item Y rfl rfl rfl hc i _ s3 _ H3 (λ_ _=>False) IP (fpP fr3) st3 go) (λr s4 hr=>?_) λ_ _ z=>z.elim
   obtain⟨u0,hr,h4⟩:=hr
   subst hr
   refine wpAny_mono h4 (λ_ s5 h5=>?_) λ_ _ z=>z.elim
   obtain⟨x5,H5,I5,r5,y5,st5,fr5⟩:=h5
   have I5':=I5.pinned (fpP fr5) (T.obj _ _ st5)
   have n1:PG Y (.Name x px) (J8 0):=BK (i:=0) O.nd O.hd (.inl (Dg I.ok.kind O.loc (by intro z;cases z))) (.inr (Dg I.ok.kind O.loc (by intro z;cases z)))
   have n2:PG Y (.Name x' px') (J8 1):=BK (i:=1) O.nd O.hd2 (.inl (Dg I.ok.kind O.AmK (by intro z;cases z))) (.inr (Dg I.ok.kind O.AmK (by intro z;cases z)))
   have tgt:PG Y (.Tuple [.Name x px,.Name x' px'] kx tp) (Amc Y.K 2 (AgH (J8 0) (AgH (J8 1) Amb))):=Nh hc (De n1 (De n2 JH))
   obtain⟨aT,uT,vT,rfl,hT,stepT⟩:=step x5 _ y5
   refine wpAny_mono (tgt _ s5 _ H5 (.ref aT) u0 (λσ2 H2=>σ2=some uT::some vT::EY σ Bd/\H2=H5) I5' r5 ⟨aT,[uT,vT],rfl,hT,rfl,uT,[vT],rfl,vT,[],rfl,rfl,rfl,rfl⟩) (λ_ s6 h6=>?_) λ_ _ z=>z.elim
   obtain⟨_,_,I6,rfl,rfl⟩:=h6
   refine wpAny_mono ((htc C fp s H).run I6 stepT) (λb s7 h7=>?_) λ_ _ z=>z.elim
   obtain⟨H7,I7,q7⟩:=h7
   have Qe:∀{σ':St} {H':Hp} {s':Shared},Inv Y ([(D,Gm us k)]++PX fp s5.heap) σ' H' s'->tn (i+1) s'.heap/\∀ b∈fp,H' b=none:=λI' =>
    ⟨T.keep _ _ _ st5 λb hb o e=>(I'.pin (b,o) (ApG _ (ApG _ (Ez hb e)))).1,λb hb=>by
     obtain⟨o,e,d⟩:=T.obj _ _ st5 b hb
     exact(I'.pin (b,o) (ApG _ (ApG _ (Ez hb e)))).2.1⟩
   cases b with
   | false =>
    rw[if_neg Ap5] at q7
    rw[if_neg Ap5]
    obtain⟨m',hm,w7⟩:=q7
    obtain⟨gD,nD⟩:=S5 I7
    obtain⟨k1,k2⟩:=Qe I7
    exact⟨m',hm,i+1,some uT,some vT,H7,ys,us,k,I7.Gf (λp hp=>nomatch hp),k1,k2,gD,nD,rv,w7⟩
   | true =>
    rw[if_pos rfl] at q7
    rw[if_pos rfl]
    refine wpAny_mono (hte C fp s H _ s7 _ H7 _ I7 q7) (λu8 s8 h8=>?_) λ_ _ z=>z.elim
    obtain⟨y8,H8,I8,r8,m',hm,w8⟩:=h8
    obtain⟨gD,nD⟩:=S5 I8
    obtain⟨k1,k2⟩:=Qe I8
    refine call_meets F.slot_list_append ⟨_,gD,rfl⟩ F.entry_list_append (F.args_list_append_2 _ _) (PySem.list_append D us.toArray k u8 (by rw[Ap3,<- rv.length];omega)) ⟨gD,?_⟩
    have q:=PySem.IsL.update gD (·.push u8)
    have e1:us.toArray.push u8=(us++[u8]).toArray:=by simp
    rw[e1] at q
    have I8':Inv Y [] (some uT::some vT::EY σ Bd) H8 s8:=I8.Gf (λp hp=>nomatch hp)
    have I9:Inv Y [] (some uT::some vT::EY σ Bd) H8 { s8 with heap:=s8.heap.update D (Obj.mapSeq (·.push u8)),toks:=s8.toks } :=
     I8'.turned (it:=D) (λb o hb e=>(Heap.get?_update_other s8.heap (Obj.mapSeq (·.push u8)) (Ne.symm hb)).trans e) nD Nk (.inr (Aqe hDD)) Yh (λp hp=>nomatch hp)
    refine⟨m',hm,i+1,some uT,some vT,H8,ys++[y8],us++[u8],_,I9,T.keep _ _ _ k1 λb hb o e=>(Heap.get?_update_other s8.heap (Obj.mapSeq (·.push u8)) (Ne.symm (Dfp b hb))).trans e,k2,q,nD,rv.append (.cons r8 .nil),w8⟩
 exact codeAny_compStart_list (loop _ rfl) (T.self X.A 0 _ _ _ st1 (loop _ rfl))
theorem AhH{i:Nat}{y x x':Str}{px px' tp py pos spos:Pos}{kx:Nat}{Nc:List Str}{Bd:List Nat}{scope:Scope}{iter elt:Expr}{ifs:List Expr}{wi:TI}{tc:TT}{te:TE}(O:Nz X x x' Nc Bd scope)(hc:X.calm=true)
  (hN:X.N.Nodup) (hy:X.N[i]?=some y) (hx:X.env.scope.names.lookup y=some .local) (hi:PI X (.Tuple [.Name x px,.Name x' px'] kx tp) iter wi)
  (htc:∀ cl C fp s H,PIf (FJ X Nc scope cl C fp s H) ifs tc) (hte:∀ cl C fp s H,PE (FJ X Nc scope cl C fp s H) elt te)
  (hsw:swapsWith (.ListComp elt [⟨(.Tuple [.Name x px,.Name x' px'] kx tp),iter,ifs,0⟩] scope pos) (some (.Name y py)) spos.line X.env=pure true) (hs:∀ x,foldedSetIterable iter X.env x=pure x:=by intro _;rfl) :
  PS X (.Assign [.Name y py] (.ListComp elt [⟨(.Tuple [.Name x px,.Name x' px'] kx tp),iter,ifs,0⟩] scope pos) spos) (Ac1 (AhF X.K wi Bd tc te) (J8 i)):=by
 intro pins s σ H Dn I h
 rw[exec_Assign_Name_used _ _ _ _ hsw]
 refine wpAny_bind (wpAny_standAt (wpAny_bind ?_))
 obtain⟨cl,e1,e2,e3⟩:=HX (scope:=scope) (env:=X.env) λy hy hf=>I.ok.has y.1 (.inl (O.fr y hy hf).1)
 show wpAny _ X.A (do let _ <- comprehension (.ListComp elt [⟨(.Tuple [.Name x px,.Name x' px'] kx tp),iter,ifs,0⟩] scope pos) scope X.env _ (newList []) false (eval iter X.env) (some (assign (.Name y py) X.env))) _ _ s
 refine wpAny_bind (wpAny_mono (wpAny_comprehension_free (use:=some (assign (.Name y py) X.env)) (Q:=λ_ s'=>SP X pins Dn .next s') rfl hs e1 O.kind O.names
  (thn (hi pins s σ H _ I h) λv s1 h1=>thn h1 λitv s2 h2=>?_)) (λ_ s' hq=>wpAny_pure (wpAny_pure hq)) λ_ _ e=>e)
 obtain⟨it,fp,tn,J,H2,e,I2,T,st2,f2,w2⟩:=h2
 subst e
 refine Adb (RR:=λacc C=>compPost (model X.prog X.w) X.A X.xe (some (assign (.Name y py) X.env)) (λ_ s'=>SP X pins Dn .next s') acc C) O hc e2 e3 (hte cl) (htc cl) I2 T st2 f2 w2 ?_
 intro D C s' m hn hq hC
 show wpAny _ X.A (assign (.Name y py) X.env (.ref D)) _ _ _
 obtain⟨H',I',nC,q⟩:=hq s'.heap (.refl ..)
 have I'':Inv X pins σ H' s':=I'
 have CL:C≠X.env.locals:=Aqd (Ap0 I2.lt hC)
 have Qf:∀ y c,X.env.cells.lookup y=some c->c≠C:=λy c e z=>by
  obtain⟨v,q⟩:=I2.cell y c e
  have:=Ap0 q.lt hC
  rw[z] at this
  exact ApC _ this
 refine wpAny_assign_Name (Ly I'' hN hy (.inl hx) (show RelV (.ref D) (.ref D) from rfl) (λs3 I3 hsb=>?_) (.inr hx))
 obtain⟨a,hsb,ha⟩:=hsb
 have aC:C≠a:=by
  rcases ha with z | z
  ·rw[z];exact CL
  ·exact Ne.symm (Qf _ _ z)
 refine⟨m,hn.sameBut hsb aC,λh4 hs4=>?_⟩
 refine⟨_,H',I3.turned (it:=C) (t':=s3.toks) (λb o hb e=>(hs4.2 b hb).trans e) nC CL (.inr (ApF I2.sz hC)) Qf (λp hp z=>?_),q⟩
 ·have:=Ap0 (Heap.lt_size (I2.pin p hp).1) hC
  rw[z] at this
  exact ApC _ this
theorem AaN{K:W.Frag}{i:Nat}{y x x':Str}{px px' tp py pos spos:Pos}{kx:Nat}{Nc:List Str}{Bd:List Nat}{scope:Scope}{iter elt:Expr}{ifs:List Expr}{wi:TI}{tc:TT}{te:TE}(O:Nz X x x' Nc Bd scope)(hc:X.calm=true)
  (hN:X.N.Nodup) (hy:X.N[i]?=some y) (hx:X.env.scope.names.lookup y=some .local) (hi:PI X (.Tuple [.Name x px,.Name x' px'] kx tp) iter wi)
  (htc:∀ cl C fp s H,PIf (FJ X Nc scope cl C fp s H) ifs tc) (hte:∀ cl C fp s H,PE (FJ X Nc scope cl C fp s H) elt te)
  (hsw:swapsWith (.ListComp elt [⟨(.Tuple [.Name x px,.Name x' px'] kx tp),iter,ifs,0⟩] scope pos) (some (.Name y py)) spos.line X.env=pure true) (hs:∀ x,foldedSetIterable iter X.env x=pure x:=by intro _;rfl) (hK:X.K=K:=by rfl) :
  PS X (.Assign [.Name y py] (.ListComp elt [⟨(.Tuple [.Name x px,.Name x' px'] kx tp),iter,ifs,0⟩] scope pos) spos) (Ac1 (AhF K wi Bd tc te) (J8 i)):=by
 subst hK
 exact AhH O hc hN hy hx hi htc hte hsw hs
theorem Adc{K:W.Frag}{S1 S2:Src}{n:Nat}{Bd:List Nat}{tc:TT}{te:TE}{σ:St}{H:Hp}{Q:VK}(f g:Nat->V)(Pv:Nat->List V->Hp->Prop)(h0:Pv 0 [] H)(hl:∀ i ys H,i<=n->Pv i ys H->ys.length<=i)
  (hz:n<=sizeLine) (h1:∀ i ys H,i<n->Pv i ys H->Qi K H S1 i (f i)) (h2:∀ i ys H,i<n->Pv i ys H->Qi K H S2 i (g i)) (hst:∀ ys H,Pv n ys H->(Ajo K S1 S2).stop n H)
  (hs:∀ i ys H T,i<n->Pv i ys H->H T=none->Dh n Pv tc te (some (f i)::some (g i)::EY σ Bd) i ys (upd H T (.tup [f i,g i])))
  (hd:∀ ys H p,Pv n ys H->H p=none->Q (.ref p) (upd H p (.lst ys))):AbC K Bd tc te (Ajo K S1 S2) σ H Q:=by
 refine⟨λi m ys H=>m=n-i/\i<=n/\Pv i ys H,⟨n,by simp,Ap8 _,h0⟩,?_⟩
 rintro i m ys H ⟨rfl,hi,p⟩
 have hy:=hl i ys H hi p
 by_cases hlt:i<n
 ·refine .inr ⟨⟨⟨_,h1 i ys H hlt p⟩,_,h2 i ys H hlt p⟩,by omega,λx H' y=>?_⟩
  obtain⟨T,rfl,hT,e⟩:=y
  have e:=e _ _ (h1 i ys H hlt p) (h2 i ys H hlt p)
  subst e
  exact⟨T,f i,g i,rfl,SqT.of Ae,hs i ys H T hlt p hT⟩
 ·have e:i=n:=by omega
  subst e
  exact .inl ⟨hst ys H p,by omega,λp' hp=>hd ys H p' p hp⟩
end
section
variable {X:Cx}
def Ajy (K:W.Frag):V->List V->Hp->VK->Prop:=λx vs H Q=>∃ a ns k,x=.ref a/\vs=[.int k]/\SqL K H a (vI ns)/\Q (.int (ns.count k:Nat)) H
theorem V7{K:W.Frag}(hK:X.K=K:=by rfl):MtR X "list.count" (Ajy K):=by
 subst hK
 intro pins s σ H x vs v us Q I rx rv h
 obtain⟨a,ns,k,rfl,rfl,hx,q⟩:=h
 cases rx
 obtain⟨u,rfl,ru⟩:=rv.one
 obtain⟨t,rfl⟩:=ru
 obtain⟨its,r,ht,hz⟩:=I.list hx
 refine PyProof.Rows.count_list_ints (ns:=ns) ht.isList (intsAre_of r) ?_
 exact⟨.int _,H,I.tok _,⟨_,rfl⟩,q⟩
end
def Ite (K:W.Frag)(a:Addr):It where
 go:=λi H=>∃ xs x,SqL K H a xs/\xs[i]?=some x
 yld:=λi H x H'=>∃ T,x=.ref T/\H T=none/\∀ xs u,SqL K H a xs->xs[i]?=some u->H'=upd H T (.tup [.int (i:Int),u])
 stop:=λi H=>∃ xs,SqL K H a xs/\xs.length=i
def Aoi (e it a:Addr)(i:Nat)(h:Heap):Prop:=(∃ old,IsEnum h e it i old)/\h.IsListIter it a i
theorem Agg{P:Program}{w:World}{K:W.Frag}{es:List Expr}{kx:Nat}{tp:Pos}{e it a:Addr}(hei:e≠it)(hae:a≠e)(hai:a≠it) :
  Turn P w K (.Tuple es kx tp) (Ite K a) [e,it] e (Aoi e it a) where
 mem:=by simp
 obj:=λi h st c hc=>by
  obtain⟨⟨old,s1⟩,s2⟩:=st
  simp only [ApA,ApB,or_false] at hc
  rcases hc with z | z
  ·subst z;exact⟨_,s1,λv z=>by cases (show Data.fields _=Data.cell v from z)⟩
  ·subst z;obtain⟨o,e,_,d⟩:=s2;exact⟨o,e,λv z=>by rw[d] at z;cases z⟩
 keep:=λi h h' st k=>by
  obtain⟨⟨old,s1⟩,s2⟩:=st
  exact⟨⟨old,k _ (by simp) _ s1⟩,s2.at λo e=>k _ (by simp) o e⟩
 item:=by
  intro X hP hw hK hc i pins s σ H E I hf st hg
  subst hP hw hK
  obtain⟨xs,x,hq1,hx⟩:=hg
  obtain⟨Xd,rv1,p1,_⟩:=I.list hq1
  obtain⟨u,hu,ru⟩:=rv1.get hx
  obtain⟨⟨old,s1⟩,s4⟩:=st
  have hlt:i<Xd.toArray.size:=by have:=(List.getElem?_eq_some_iff.mp hu).1;simpa using this
  have hh:X.A.in1.handled=none:=I.ok.hd hc
  refine wpAny_pyNext_enum_itemD (Draws.list hh it a hai Xd.toArray) s1 ⟨s4,p1.isList⟩ hlt hei (λz=>?_) λu' h1 tk hu' ho hst hT hsz kk=>?_
  ·simp only [ApA,ApB,or_false] at z
   rcases z with z | z
   ·exact hei z
   ·exact hae z.symm
  have hu2:Xd[i]?=some u':=by simpa using hu'
  rw[hu] at hu2
  cases hu2
  refine⟨_,rfl,wpAny_letOwnedTupleGo_enum ho λh2 he2 sb=>?_⟩
  have sb:Heap.SameBut e h1 h2:=sb
  have el:e<s.heap.objs.size:=Heap.lt_size s1
  have il:it<s.heap.objs.size:=by obtain⟨_,e,_⟩:=s4;exact Heap.lt_size e
  have up:∀ c o,c≠e->h1.get? c=some o->h2.get? c=some o:=λc o c1 z=>(sb.2 c c1).trans z
  have hTn:H s.heap.objs.size=none:=I.hok.fresh (Apv _)
  have I1:Inv X pins σ (upd H s.heap.objs.size (.tup [.int (i:Int),x])) { s with heap:=s.heap.push { cls:=.type "tuple", data:=.seq #[.int i tk,u] },toks:=tk+1 } :=
   I.laid (λc o e=>Heap.get?_push_of_some _ e) (Apv _) ⟨by show 2<=sizeLine;decide,[.int i tk,u],.cons ⟨tk,rfl⟩ (.cons ru .nil),⟨_,Heap.get?_push_size _ rfl,rfl,_,rfl⟩⟩
  have fp2:∀ c∈[e,it],Hr X pins (upd H s.heap.objs.size (.tup [.int (i:Int),x])) c:=λc hc=>by
   obtain⟨f0,f⟩:=hf c hc
   refine⟨?_,f⟩
   have lt:c<s.heap.objs.size:=by
    simp only [ApA,ApB,or_false] at hc
    rcases hc with e | e <;> subst e <;> assumption
   rw[Ao (Apy lt)]
   exact f0
  have I2:Inv X pins σ (upd H s.heap.objs.size (.tup [.int (i:Int),x])) { s with heap:=h2,toks:=tk+1 }:=by
   refine Inv.QW (s:={ s with heap:=s.heap.push { cls:=.type "tuple", data:=.seq #[.int i tk,u] },toks:=tk+1 }) (h':=h2) (t':=tk+1) (its:=[e,it]) I1 (λc o hc z=>?_) fp2
   simp only [ApA,ApB,or_false,not_or] at hc
   refine up c o hc.1 ?_
   by_cases hcs:c=s.heap.objs.size
   ·subst hcs
    have e':(s.heap.push { cls:=.type "tuple", data:=.seq #[.int i tk,u] }).get? s.heap.objs.size=some { cls:=.type "tuple", data:=.seq #[.int i tk,u] }:=Heap.get?_push_size _ rfl
    rw[e'] at z
    cases z
    exact hT
   ·have e':s.heap.get? c=some o:=by
     rw[<- z]
     exact(Heap.get?_push_ne _ _ _ hcs).symm
    exact kk c o hc.1 hc.2 e'
  refine⟨.ref s.heap.objs.size,_,I2,rfl,⟨s.heap.objs.size,rfl,hTn,λxs' u' a1 a3=>?_⟩,⟨⟨u,by simpa using he2⟩,hst.1.at λo z=>up _ o hei.symm z⟩,λc hc=>(fp2 c hc).1⟩
  rw[I.JR a1 hq1,hx] at a3
  cases a3
  rfl
 done:=by
  intro X hP hw hK hc i pins s σ H E I hf st hg
  subst hP hw hK
  obtain⟨xs,hq1,hend⟩:=hg
  obtain⟨Xd,rv1,p1,_⟩:=I.list hq1
  have l1:=rv1.length
  obtain⟨⟨old,s1⟩,s4⟩:=st
  have hh:X.A.in1.handled=none:=I.ok.hd hc
  have en:i=Xd.toArray.size:=by simp;omega
  subst en
  refine wpAny_pyNext_enum_endD (Draws.list hh it a hai Xd.toArray) s1 ⟨s4,p1.isList⟩ λh' kk=>⟨rfl,I.QW (t':=s.toks) (its:=[e,it]) (λc o hc z=>?_) hf⟩
  simp only [ApA,ApB,or_false,not_or] at hc
  exact kk c o hc.2 z
 self:=λ_ _ _ _ _ st h=>by obtain⟨⟨old,s1⟩,_⟩:=st;exact wpAny_pyIter_enum s1 h
section
variable {X:Cx}{es:List Expr}{kx:Nat}{tp:Pos}
def AmL (K:W.Frag)(ta:TA):TI:=λσ H R=>ta σ H λvs H1=>∃ a,vs=[.ref a]/\(∃ xs,SqL K H1 a xs)/\R (Ite K a) H1
theorem Ajz{K:W.Frag}{a:Expr}{ta:TA}{p pos:Pos}(hg:Gl X "enumerate") (hm:X.mg "enumerate" = none) (ha:PA X [a] ta) (hK:X.K=K:=by rfl) (hs:starEach [a] X.env=[(false,eval a X.env)]:=by rfl) :
  PI X (.Tuple es kx tp) (.Call (.Name "enumerate" p) [a] [] pos) (AmL K ta):=by
 subst hK
 intro pins s σ H R I h
 refine Call_ (HW I hg hm Abx (PyProof.Rows.callWith_type1 (thn (ha pos pins s σ H _ I h) λus s1 ⟨vs,H1,I1,r1,q1⟩=>?_) hs rfl))
 obtain⟨a,e,⟨xs,hq1⟩,q⟩:=q1
 subst e
 cases r1 with
 | cons r rr =>
  cases rr
  cases r
  obtain⟨Xd,rv1,p1,_⟩:=I1.list hq1
  obtain⟨o1,e1,_⟩:=id p1.isList
  have la:a<s1.heap.objs.size:=Heap.lt_size e1
  refine call_enumerate_list p1.isList λh' he hi hsz kk=>wpAny_pyIter_enum he ?_
  refine⟨_,[s1.heap.objs.size+1,s1.heap.objs.size],_,_,H1,rfl,I1.kept (t':=s1.toks) kk,Agg (lne (Aqk _) 0).symm (lne la 1) (lne la 0),⟨⟨_,he⟩,hi⟩,λc hc=>?_,q⟩
  have le:s1.heap.objs.size<=c:=by
   simp only [ApA,ApB,or_false] at hc
   rcases hc with e | e <;> subst e <;> omega
  exact I1.AdH le (I1.hok.fresh le)
theorem AhI{K:W.Frag}{a:Addr}{xs:List V}{g:TG}{tb:TS}{D:Ends}{σ:St}{H:Hp}(Pv:Nat->St->Hp->Prop)(h0:Pv 0 σ H)(hl:∀ i σ H,Pv i σ H->SqL K H a xs)
  (hs:∀ i x σ H T,xs[i]?=some x->Pv i σ H->H T=none->g (.ref T) σ (upd H T (.tup [.int (i:Int),x])) λσ2 H2=>tb { D with nx:=Pv (i+1),ct:=Pv (i+1),bk:=D.nx } σ2 H2) (hd:∀ σ H,Pv xs.length σ H->D.nx σ H) :
  ∃ W:Nat->Nat->St->Hp->Prop,(∃ m,W 0 m σ H)/\∀ i m σ H,W i m σ H ->
   ((Ite K a).stop i H/\D.nx σ H)\/((Ite K a).go i H/\∃ N:St->Hp->Prop,(∀ σ' H',N σ' H'->∃ m',m'<m/\W (i+1) m' σ' H')/\∀ x H',(Ite K a).yld i H x H'->g x σ H' λσ2 H2=>tb { D with nx:=N,ct:=N,bk:=D.nx } σ2 H2):=by
 refine⟨λi m σ H=>m=xs.length-i/\i<=xs.length/\Pv i σ H,⟨xs.length,by simp,Ap8 _,h0⟩,?_⟩
 rintro i m σ H ⟨rfl,hi,p⟩
 have q1:=hl i σ H p
 by_cases hlt:i<xs.length
 ·refine .inr ⟨⟨xs,xs[i],q1,Apu hlt⟩,Pv (i+1),λσ' H' p'=>⟨xs.length-(i+1),by omega,rfl,hlt,p'⟩,λx H' y=>?_⟩
  obtain⟨T,rfl,hT,y⟩:=y
  have e:=y xs _ q1 (Apu hlt)
  subst e
  exact hs i _ σ H T (Apu hlt) p hT
 ·have e:i=xs.length:=by omega
  subst e
  exact .inl ⟨⟨xs,q1,rfl⟩,hd σ H p⟩
end
inductive ZK (K:W.Frag) (H:Hp):Nat->V->V->Prop where
 | flat {n:Nat} {x:V} (h:Jh x=true):ZK K H n x x
 | lst {n:Nat} {p q:Addr} {xs ys:List V} (hp:SqL K H p xs) (hq:SqL K H q ys) (hl:xs.length=ys.length) (hi:∀(i:Nat) (x y:V),xs[i]?=some x->ys[i]?=some y->ZK K H n x y):ZK K H (n+1) (.ref p) (.ref q)
 | tup {n:Nat} {p q:Addr} {xs ys:List V} (hp:SqT K H p xs) (hq:SqT K H q ys) (hl:xs.length=ys.length) (hi:∀(i:Nat) (x y:V),xs[i]?=some x->ys[i]?=some y->ZK K H n x y):ZK K H (n+1) (.ref p) (.ref q)
section
variable {X:Cx}{K:W.Frag}
theorem LR{xs:List V}{us:List Value}(r:Vals xs us){j:Nat}(h:j<us.toArray.size):∃ x,xs[j]?=some x/\RelV x us.toArray[j]:=by
 have l:=r.length
 simp only [Ap3] at h
 obtain⟨u,e,q⟩:=r.get (i:=j) (x:=xs[j]) (by simp[show j<xs.length by omega])
 refine⟨xs[j],by simp[show j<xs.length by omega],?_⟩
 have:us.toArray[j]=u:=by
  have h2:us.toArray[j]?=some u:=by simpa using e
  exact Option.some.inj ((Array.getElem?_eq_getElem (by simpa using h)).symm.trans h2)
 rw[this]
 exact q
theorem AhJ{pins:List (Addr × Obj)}{σ:St}{H:Hp}{s:Shared}(I:Inv X pins σ H s){n:Nat}{x y:V}(S:ZK X.K H n x y):∀{A:Around} {u v:Value},RelV x u->RelV y v->A.units+n<cLine->SeqAt.EqAt A s u v true:=by
 induction S with
 | flat h =>
  intro A u v r1 r2 hu
  have:=Abp (A:=A) (s:=s) r1 r2 h h
  rw[Yi h] at this
  exact this
 | lst hp hq hl hi ih =>
  intro A u v r1 r2 hu
  rename_i n p q xs ys
  cases r1
  cases r2
  by_cases e:p=q
  ·subst e;exact SeqAt.EqAt.same _
  ·refine SeqAt.EqAt.of_refs e ?_
   obtain⟨its,r,pl,hz⟩:=I.list hp
   obtain⟨its2,r2,pl2,hz2⟩:=I.list hq
   have l1:=r.length
   have l2:=r2.length
   have key:=SeqAt.RcAt.lists (A:=A) (s:=s) (e:=λ_=>true) pl.isList pl2.isList (by simp only [Ap3];omega) (by omega) (λj h1 h2=>?_)
   ·have e1:(List.range its.toArray.size).all (λ_=>true)=true:=by simp
    rw[e1] at key
    exact key
   ·obtain⟨x,ex,qx⟩:=LR r h1
    obtain⟨y,ey,qy⟩:=LR r2 h2
    exact ih j x y ex ey qx qy (by show A.units+1+n<cLine;omega)
 | tup hp hq hl hi ih =>
  intro A u v r1 r2 hu
  rename_i n p q xs ys
  cases r1
  cases r2
  by_cases e:p=q
  ·subst e;exact SeqAt.EqAt.same _
  ·refine SeqAt.EqAt.of_refs e ?_
   obtain⟨its,r,pl,hz⟩:=I.tuple hp
   obtain⟨its2,r2,pl2,hz2⟩:=I.tuple hq
   have l1:=r.length
   have l2:=r2.length
   have key:=SeqAt.RcAt.tuples (A:=A) (s:=s) (e:=λ_=>true) pl pl2 (by omega) (λj h1 h2=>?_)
   ·have e1:((List.range (min its.toArray.size its2.toArray.size)).all (λ_=>true) && its.toArray.size == its2.toArray.size)=true:=by
     have e2:its.length=its2.length:=by omega
     simp[e2]
    rw[e1] at key
    exact key
   ·obtain⟨x,ex,qx⟩:=LR r h1
    obtain⟨y,ey,qy⟩:=LR r2 h2
    exact ih j x y ex ey qx qy (by show A.units+1+n<cLine;omega)
def AmM (K:W.Frag)(H:Hp)(p q:Addr):Prop:=∃ xs ys:List V,SqL K H p xs/\SqL K H q ys/\xs.length=ys.length/\∀(i:Nat) (x y:V),xs[i]?=some x->ys[i]?=some y->ZK K H 50 x y
def Apg (K:W.Frag):R2:=λx y H Q=>∃ p q,x=.ref p/\y=.ref q/\AmM K H p q/\Q (.bl true) H
def Aoj (K:W.Frag):R2:=λx y H Q=>∃ p q,x=.ref p/\y=.ref q/\AmM K H p q/\Q (.bl false) H
theorem Al0(hu:X.A.units+100<cLine)(hK:X.K=K:=by rfl):OpR X (compareOp .NotEq) (Aoj K):=by
 subst hK
 intro pins s σ H x y v u Q I rx ry h
 obtain⟨p,q,rfl,rfl,⟨xs,ys,hx,hy,hl,hi⟩,k⟩:=h
 cases rx
 cases ry
 obtain⟨its,r,pl,hz⟩:=I.list hx
 obtain⟨its2,r2,pl2,hz2⟩:=I.list hy
 have l1:=r.length
 have l2:=r2.length
 refine SeqAt.RcNeAt.lists (e:=λ_=>true) pl.isList pl2.isList (by simp only [Ap3];omega) (by omega) (λj h1 h2=>?_) _ _ _ _ ?_
 ·obtain⟨x,ex,qx⟩:=LR r h1
  obtain⟨y,ey,qy⟩:=LR r2 h2
  exact AhJ I (hi j x y ex ey) qx qy (by show X.A.units+1+50<cLine;omega)
 refine⟨.bl false,H,I,?_,k⟩
 show Value.bool _=Value.bool _
 simp
end
section
variable {X:Cx}{K:W.Frag}{k:Nat}{f C:Addr}{fd:FuncData}{ps:List Str}{sp:Sp}{dvs:List V}{ds:List Value}{x m:Str}{p pos apos:Pos}{e o:Expr}{es:List Expr}{ta:TE}{t:TA}
def Aph (K:W.Frag):R2:=λx y H Q=>∃ p q xs,x=.ref p/\y=.ref q/\SqL K H p xs/\SqL K H q []/\Q (.bl (!xs.isEmpty)) H
def Api (K:W.Frag):R2:=λx y H Q=>∃ p q xs,x=.ref p/\y=.ref q/\SqL K H p xs/\SqL K H q []/\Q (.bl xs.isEmpty) H
end
def YX (X:Cx)(fp:List Addr)(C:Addr)(s:Shared)(H:Hp)(E:XK):Value->Shared->Prop:=λe s' =>
 ∃(H1:Hp) (s1:Shared) (m:Str->Option Value),Un (frs X.stack) fp H H1 s.heap s1.heap/\s1.os=s.os/\s1.heap.Ns C m/\H1 C=none/\CX1 X.prog X.w X.stack H1 s1 E e s'
abbrev Rc (X:Cx) (Nc:List Str) (scope:Scope) (cl:List (Str × Addr)) (C:Addr) (fp:List Addr) (s:Shared) (H:Hp) (E:XK):Cx:=(FJ X Nc scope cl C fp s H).wish (YX X fp C s H E)
theorem AmN{X:Cx}{Nc:List Str}{scope:Scope}{cl:List (Str × Addr)}{C:Addr}{fp:List Addr}{s:Shared}{H:Hp}{E:XK}:Passes (CX1 X.prog X.w) (Rc X Nc scope cl C fp s H E) E:=λpins σ H1 s1 e s' I c=>by
 obtain⟨m,hn,_⟩:=I.loc
 exact⟨H1,s1,m,I.base,I.os,hn,I.free,c⟩
def Aft (X:Cx)(E:XK)(C:Addr)(e:Value)(s':Shared):Prop :=
 (∃ m,s'.heap.Ns C m)/\∀ h',Heap.SameBut C s'.heap h'->∃ ea Cc t H' B,e=.ref ea/\Fx B X.stack ea Cc t (rawInt X.env.locals) h'/\s'.os=X.s₀.os/\AllBare s'.gens/\Bk X.prog X.w X.outer X.H₀ X.s₀.heap H' B h'/\E (.ref Cc) none H'
theorem Xe{e:Value}{env env':Env}(h:env.frame=env'.frame):noteFrame e env=noteFrame e env':=by
 unfold noteFrame PySem.frameOf
 rw[h]
theorem Ry{h h' base:Heap}:∀{l:List Env},(∀ b∈frs l,h'.get? b=h.get? b)->h.FunFrames base l->h'.FunFrames base l
 | [],_,_=>trivial
 | env::r,k,⟨hk,⟨L,o,hf,hn,ho,hd⟩,hr⟩=>by
  have m:∀ b∈frs r,b∈frs (env::r):=λb hb=>by unfold frs;rw[Aqj,hf];exact Ap7 _ hb
  have mL:L∈frs (env::r):=by unfold frs;rw[Aqj,hf];exact Ap6
  exact⟨hk,⟨L,o,hf,hn,(k L mL).trans ho,hd⟩,Ry (λb hb=>k b (m b hb)) hr⟩
section
variable {X:Cx}{pins:List (Addr × Obj)}{σ:St}{H:Hp}{s s':Shared}{E:XK}{e:Value}{C:Addr}{fp:List Addr}
theorem Aok{M:Model}{R:Shared->Prop}{E':Value->Shared->Prop}{cenv:Env}(hB:Body X)(I:Inv X pins σ H s)(hfp:∀ b∈fp,Hr X pins H b)(hC:s.heap.objs.size<=C)(hf:cenv.frame=X.env.frame)
  (c:YX X fp C s H E e s') (k:∀ s'',Aft X E C e s''->R s''):wpAny M X.A (noteFrame e cenv) (λ_ s''=>R s'') E' s':=by
 obtain⟨H1,s1,m,un,os1,hns,nC,ea,Cc,t,H',B,rfl,fx,os,bare,bk,q⟩:=c
 have nx:∀ b:Addr,b∉X.ex:=λb z=>by rw[hB.ex] at z;exact nomatch z
 have fsS:∀ b,b∈X.fs->b∈frs X.stack:=λb hb=>by
  rw[hB.stack];unfold frs;rw[Aqj,hB.frame];exact Ap7 _ hb
 have stk:∀ b,b∈frs X.stack->∃ o,s.heap.get? b=some o:=λb hb=>by
  obtain⟨_,o,e,_⟩:=I.stack.mem hb
  exact⟨o,e⟩
 have CS:C∉frs X.stack:=λz=>by
  obtain⟨o,e⟩:=stk C z
  exact absurd (Heap.lt_size e) (Nat.not_lt.mpr hC)
 have old:∀ b o,s.heap.get? b=some o->b≠C:=λb o e z=>absurd (Heap.lt_size e) (Nat.not_lt.mpr (z▸hC))
 have nfp:∀ b o,X.s₀.heap.get? b=some o->b∉fp:=λb o e z=>by
  rcases(hfp b z).2.2.2.1 with y | y
  ·exact nx b y
  ·exact absurd (Heap.lt_size e) (Nat.not_lt.mpr y)
 obtain⟨oC,es,ep,hoC,dC,sk,nf⟩:=hns
 have hBC:B.get? C=some oC:=bk.keep C oC hoC nC CS
 have AmO:H' C=none:=bk.free C oC hoC nC
 have B'C:(W.hideAll B [C]).get? C=none:=W.hideAll_none _ Ap6
 have Al1:∀ b o,B.get? b=some o->b≠C->(W.hideAll B [C]).get? b=some o:=λb o e z=>W.hideAll_get _ e λy=>z (List.mem_singleton.mp y)
 have stays:(W.hideAll B [C]).StaysIn B:=λb o e=>W.of_hideAll _ e
 have fx':Fx (W.hideAll B [C]) X.stack ea Cc t .none s'.heap:=by
  obtain⟨st,ne,fr,T,oT,ts,hE,hBT,hTe,hT,hdT,h3⟩:=fx
  exact⟨λb o e=>st b o (stays b o e),W.fresh_of_stays stays ne,W.funFrames_base stays fr,T,oT,ts,hE,W.fresh_of_stays stays hBT,hTe,hT,hdT,h3⟩
 have bkX:Bk X.prog X.w X.outer X.H₀ X.s₀.heap H' (W.hideAll B [C]) s'.heap:=by
  refine⟨λb u e=>?_,λb o e n hb=>?_,λb o e hb=>?_,λb o e n=>?_,λb o e hb=>?_,λb xs e=>bk.tups b xs (un.tups b xs (I.base.tups b xs e)),λb o u e=>bk.JG b o u (un.JG b o u (I.base.JG b o u e)),λb ps e=>?_⟩
  ·refine(bk.ok b u e).stay (λc v hc z=>Al1 c v z λy=>?_) (λ_ z=>z) λ_ _ z=>z
   rcases hc with x | x
   ·rw[<- x,y,AmO] at e;cases e
   ·rw[y,AmO] at x;cases x
  ·have e1:=I.base.keep b o e n hb (nx b)
   have n1:=I.base.free b o e n (nx b)
   have bfr:=I.AfJ e hb
   exact Al1 b o (bk.keep b o (un.keep b o e1 n1 bfr (nfp b o e)) (un.free b o e1 n1 (nfp b o e)) bfr) (old b o e1)
  ·obtain⟨sl,e1⟩:=I.base.slot b o e (I.ok.frf b hb) hb (nx b)
   obtain⟨sl2,e2⟩:=un.slot b _ e1 (I.QR b (fsS b hb)) (fsS b hb) (nfp b o e)
   obtain⟨sl3,e3⟩:=bk.slot b _ e2 (fsS b hb)
   exact⟨sl3,e3⟩
  ·obtain⟨o',e1⟩:=I.base.there b o e (nx b)
   obtain⟨o2,e2⟩:=un.there b o' e1 (nfp b o e)
   exact bk.free b o2 e2 (un.free b o' e1 (I.base.free b o e n (nx b)) (nfp b o e))
  ·obtain⟨o',e1⟩:=I.base.there b o e (nx b)
   obtain⟨o2,e2⟩:=un.there b o' e1 (nfp b o e)
   obtain⟨o3,e3⟩:=bk.there b o2 e2 (I.AfJ e hb)
   exact⟨o3,Al1 b o3 e3 (old b o' e1)⟩
  ·obtain⟨m1,e1⟩:=I.base.Kv b ps e
   obtain⟨m2,e2⟩:=un.Kv b _ e1
   obtain⟨m3,e3⟩:=bk.Kv b _ e2
   exact⟨m1++m2++m3,by rw[e3,Array.append_assoc,Array.append_assoc,Array.append_assoc]⟩
 rw[Xe hf]
 refine AeJ hB I.ok.frames (.came fx') λh1 x1 u1=>k _ ?_
 obtain⟨sl,hC1⟩:=u1 C oC (fx.st C oC hBC) (λvs z=>by rw[dC] at z;cases z)
 refine⟨⟨m,_,es,ep,hC1,dC,sk,nf⟩,λh' sb=>?_⟩
 have bk1:=bkX.slots (Xw hB fx'.fr) u1
 obtain⟨st,ne,fr,T,oT,ts,hE,hBT,hTe,hT,hdT,h3⟩:=x1
 have TC:T≠C:=λz=>by rw[z,hC1] at hT;cases hT;rw[dC] at hdT;cases hdT
 have EC:ea≠C:=λz=>by rw[z,hC1] at hE;have:=congrArg Obj.data (Option.some.inj hE);dsimp only at this;rw[dC] at this;cases this
 refine⟨ea,Cc,t,H',_,rfl,⟨λb o e=>(sb.2 b λz=>by rw[z,B'C] at e;cases e).trans (st b o e),ne,Ry (λb hb=>sb.2 b λz=>CS (z▸hb)) fr,T,oT,ts,(sb.2 ea EC).trans hE,hBT,hTe,(sb.2 T TC).trans hT,hdT,h3⟩,os.trans (os1.trans I.os),bare,
  ⟨bk1.ok,bk1.keep,λb o e hb=>?_,bk1.free,bk1.there,bk1.tups,bk1.JG,bk1.Kv⟩,q⟩
 obtain⟨sl2,e2⟩:=bk1.slot b o e hb
 exact⟨sl2,(sb.2 b λz=>CS (z▸fsS b hb)).trans e2⟩
end
def AlQ (M:Model)(A:Around)(E:Value->Shared->Prop)(Q:Value->Shared->Prop)(acc:Value)(C:Addr)(f:Option Addr)(r:Result)(s':Shared):Prop :=
 match r with
 | .ok _=>∃ m,s'.heap.Ns C m/\∀ h',Heap.SameBut C s'.heap h'->Q acc { s' with heap:=h' }
 | .error x=>∃ m,s'.heap.Ns C m/\∀ h',Heap.SameBut C s'.heap h'->∀ cenv:Env,cenv.locals=C->cenv.frame=f->wpAny M A (passOn "comprehension.variables-let-go" x cenv:Sem Value) (λ_ _=>False) E { s' with heap:=h' }
section
variable {X:Cx}{pins:List (Addr × Obj)}{σ:St}{H:Hp}{s:Shared}
theorem Ade{x:Str}{px:Pos}{Nc:List Str}{Bd:List Nat}{scope:Scope}{cl:List (Str × Addr)}{iter elt:Expr}{ifs:List Expr}{pos:Pos}{tc:TT}{te:TE}{Q:VK}{it:Addr}{fp:List Addr}{tn:Nat->Heap->Prop}{J:It}
  {RR:Value->Addr->Option Addr->Result->Shared->Prop}{E:Value->Shared->Prop}{E':XK} (hB:Body X)
  (O:CG X x Nc Bd scope) (hc:X.calm=true)
  (hcl:∀ x c,cl.lookup x=some c->X.env.cells.lookup x=some c/\(x,NameKind.free)∈scope.names) (Kw:∀ x,(x,NameKind.free)∈scope.names->cl.lookup x=X.env.cells.lookup x)
  (hte:∀ C fp s H,PE (Rc X Nc scope cl C fp s H E') elt te) (htc:∀ C fp s H,PIf (Rc X Nc scope cl C fp s H E') ifs tc)
  (I:Inv X pins σ H s) (T:Turn X.prog X.w X.K (.Name x px) J fp it tn) (st:tn 0 s.heap) (hfp:∀ b∈fp,Hr X pins H b) (h:Qd Bd tc te J σ H Q)
  (hRR:∀(D C:Addr) (s':Shared) (m:Str->Option Value),s'.heap.Ns C m->(∀ h',Heap.SameBut C s'.heap h'->∃ H',Inv X pins σ H' { s' with heap:=h' }/\H' C=none/\Q (.ref D) H') ->
   s.heap.objs.size<=C->RR (.ref D) C X.env.frame (.ok .next) s')
  (hRE:∀(D C:Addr) (e:Value) (s':Shared),Aft X E' C e s'->RR (.ref D) C X.env.frame (.error e) s') :
  wpAny (model X.prog X.w) X.A (newList []) (λacc s₃=>wpAny (model X.prog X.w) X.A (newFunctionEnv scope X.env.globals cl [] X.env.qual none .none (some X.env)) (λcenv s₄ =>
   codeAny (model X.prog X.w) X.A (.compStart (.ListComp elt [⟨.Name x px,iter,ifs,0⟩] scope pos) 0 (.ref it) acc { cenv with scope:=relabel scope X.env }) (RR acc cenv.locals cenv.frame) s₄) E s₃) E s:=by
 refine wpAny_newObj_type (wpAny_newFunctionEnv O.cell (by intro y hy;simp at hy) (λh₁ hns₁ hsb₁=>?_) O.kind)
 dsimp only at hns₁ hsb₁ ⊢
 generalize hH2:s.heap.push { cls:=.type "list", dict:=none,data:=.seq ([]:List Value).toArray }=H2 at hns₁ hsb₁ ⊢
 have hC:H2.objs.size=s.heap.objs.size+1:=by rw[<- hH2,Heap.size_push]
 have hCle:s.heap.objs.size<=H2.objs.size:=by rw[hC];exact Aqf _
 have hDC:s.heap.objs.size≠H2.objs.size:=by rw[hC];exact Apy (Aqk _)
 have below:∀ b,b<s.heap.objs.size->b≠H2.objs.size/\b≠s.heap.objs.size:=λb hb=>⟨by rw[hC];exact Apy (Aqv hb),Apy hb⟩
 have old:∀ b o,s.heap.get? b=some o->h₁.get? b=some o:=λb o e=>hsb₁.extBut b o (below b (Heap.lt_size e)).1 (Heap.get?_push_of_some _ (hH2▸Heap.get?_push_of_some _ e))
 have hacc:h₁.get? s.heap.objs.size=some (Gm [] 0):=hsb₁.extBut _ _ hDC (Heap.get?_push_of_some _ (hH2▸Heap.get?_push_size _ rfl))
 have hfo:∀ b∈fp,b<s.heap.objs.size:=λb hb=>by
  obtain⟨o,e,_⟩:=T.obj _ _ st b hb
  exact Heap.lt_size e
 have st1:tn 0 h₁:=T.keep _ _ _ st λb _ o e=>old b o e
 generalize hDD:s.heap.objs.size=D at *
 generalize hCC:H2.objs.size=C at *
 have AcB:D<=C:=hCle
 let Y:Cx:=Rc X Nc scope cl C fp s H E'
 have I0:Inv Y [] (none::EY σ Bd) H { s with heap:=h₁,toks:=s.toks+([]:List (Str × Value)).length }:=(Yd I O hcl Kw (by rw[hDD];exact hCle) hfp (λb hb=>by rw[hDD];exact hfo b hb) old hns₁).wish _
 have Yg:H D=none:=by rw[<- hDD];exact I.hok.fresh (Apv _)
 have Nk:D≠C:=hDC
 have Dfs:D∉Y.fs:=λz=>by
  have:=I.stack.mem (show D∈frs X.stack from z)
  obtain⟨_,o,e,_⟩:=this
  have:=Heap.lt_size e
  rw[hDD] at this
  exact ApC _ this
 have Yh:∀ y c,Y.env.cells.lookup y=some c->c≠D:=λy c e z=>by
  obtain⟨v,q⟩:=I.cell y c (hcl y c e).1
  have:=q.lt
  rw[z,hDD] at this
  exact ApC _ this
 have Dfp:∀ b∈fp,b≠D:=λb hb=>Apy (hfo b hb)
 have fpY:∀{H':Hp},(∀ b∈fp,H' b=none)->∀ b∈fp,Hr Y [] H' b:=λhn b hb =>
  ⟨hn b hb,Apy (Ap0 (hfo b hb) AcB),λz=>I0.ok.Vs b hb z,.inl hb,λy c e=>(I0.ok.exf b hb).2 y c e,λp hp=>absurd (show p∈([]:List (Addr × Obj)) from hp) (by simp)⟩
 obtain⟨W,⟨m0,w0⟩,turn⟩:=h
 have loop:∀ s₃:Shared,s₃={ s with heap:=h₁,toks:=s.toks+([]:List (Str × Value)).length } ->
   codeAny (model X.prog X.w) X.A (.compLoop (.ListComp elt [⟨.Name x px,iter,ifs,0⟩] scope pos) 0 (.ref it) (.ref D) (compEnvC scope cl C X.env)) (RR (.ref D) C X.env.frame) s₃:=by
  rintro s₃ rfl
  have err:∀ e s',YX X fp C s H E' e s'->notedBy (model X.prog X.w) X.A (compEnvC scope cl C X.env) (λe s''=>RR (.ref D) C X.env.frame (.error e) s'') e s':=λe s' c =>
   Aok hB I hfp (by rw[hDD];exact hCle) rfl c λs'' q=>hRE D C e s'' q
  refine JK (λn s'=>∃(i:Nat) (o:Option V) (H':Hp) (ys:List V) (us:List Value) (k:Nat),Inv Y [] (o::EY σ Bd) H' s'/\tn i s'.heap/\(∀ b∈fp,H' b=none)/\s'.heap.get? D=some (Gm us k)/\H' D=none/\Vals ys us/\W i n ys H')
   ?_ m0 ⟨0,none,H,[],[],0,I0,st1,λb hb=>(hfp b hb).1,hacc,Yg,.nil,w0⟩
  rintro n s3 ⟨i,o3,H3,ys,us,k,I3,st3,fr3,hD3,nD3,rv,w3⟩
  have fpP:∀{H':Hp} {ob:Obj},(∀ b∈fp,H' b=none)->∀ b∈fp,Hr Y [(D,ob)] H' b:=λhn b hb=>by
   obtain⟨g0,g1,g2,g3,g4,_⟩:=fpY hn b hb
   refine⟨g0,g1,g2,g3,g4,λp hp=>?_⟩
   have e:p=(D,_):=List.mem_singleton.mp (show p∈[(D,_)] from hp)
   rw[e]
   exact Ne.symm (Dfp b hb)
  have IP:Inv Y [(D,Gm us k)] (o3::EY σ Bd) H3 s3:=I3.Gf λp hp=>by
   have e:p=(D,Gm us k):=List.mem_singleton.mp hp
   subst e
   exact⟨hD3,nD3,Nk,Dfs,λv z=>by cases z⟩
  have S5:∀{σ':St} {H':Hp} {s':Shared} {pl:List (Addr × Obj)},Inv Y ([(D,Gm us k)]++pl) σ' H' s'->s'.heap.get? D=some (Gm us k)/\H' D=none:=λI'=>by
   have z:=I'.pin (D,Gm us k) (ApG _ (Aqp _ Ap6))
   exact⟨z.1,z.2.1⟩
  rcases turn i n ys H3 w3 with ⟨stop,hlen,fin⟩ | ⟨go,hlen,step⟩
  ·
   refine wpAny_mono (T.done Y rfl rfl rfl hc i _ s3 _ H3 (λ_ _=>False) IP (fpP fr3) st3 stop) (λr s4 hr=>?_) λ_ _ z=>z.elim
   obtain⟨hr,I4⟩:=hr
   subst hr
   obtain⟨gD,nD⟩:=S5 (pl:=[]) (by simpa using I4)
   obtain⟨m,hn,_⟩:=I4.loc
   refine hRR D C s4 m hn (λh' hs'=>⟨upd H3 D (.lst ys),?_,(Ao (Ne.symm Nk)).trans I4.free,fin D nD⟩) hCle
   have nt:∀ b ob,H3 b=some ob->b≠C:=λb ob e z=>by
    have:=I4.free
    rw[z] at e
    rw[show H3 C=none from this] at e
    cases e
   have u1:Un (frs X.stack) fp H H3 s.heap h':=Un.but I4.base hs' (show s.heap.objs.size<=C by rw[hDD];exact hCle)
   have ok1:HOk X.prog X.w H3 h':=λb ob e=>(I4.hok b ob e).stay (λc v hc q=>(hs'.2 c (by
    rcases hc with z | z
    ·rw[z];exact nt b ob e
    ·exact nt c _ z)).trans q) (λ_ q=>q) λ_ _ q=>q
   have gD':h'.get? D=some (Gm us k):=(hs'.2 D Nk).trans gD
   exact I.call' (s':={ s4 with heap:=h' }) (ch:=fp) I4.os (u1.track (Aqe hDD) nD) (ok1.track nD ⟨hlen,us,k,rv,gD'⟩) I4.bare λb hb=>by
    obtain⟨_,g1,_,g3,g4,g5⟩:=hfp b hb
    exact⟨g3,g1,g4,g5⟩
  ·
   refine wpAny_mono (T.item Y rfl rfl rfl hc i _ s3 _ H3 (λ_ _=>False) IP (fpP fr3) st3 go) (λr s4 hr=>?_) λ_ _ z=>z.elim
   obtain⟨u0,hr,h4⟩:=hr
   subst hr
   refine wpAny_mono h4 (λ_ s5 h5=>?_) λ_ _ z=>z.elim
   obtain⟨x5,H5,I5,r5,y5,st5,fr5⟩:=h5
   have I5':=I5.pinned (fpP fr5) (T.obj _ _ st5)
   have tgt:PG Y (.Name x px) (J8 0):=BK (i:=0) O.nd O.hd (.inl (Dg I.ok.kind O.loc (by intro z;cases z))) (.inr (Dg I.ok.kind O.loc (by intro z;cases z)))
   refine wpAny_mono (tgt _ s5 _ H5 x5 u0 (λσ2 H2=>σ2=some x5::EY σ Bd/\H2=H5) I5' r5 ⟨rfl,rfl⟩) (λ_ s6 h6=>?_) err
   obtain⟨_,_,I6,rfl,rfl⟩:=h6
   refine wpAny_mono ((htc C fp s H).run I6 (step x5 _ y5)) (λb s7 h7=>?_) err
   obtain⟨H7,I7,q7⟩:=h7
   have Qe:∀{σ':St} {H':Hp} {s':Shared},Inv Y ([(D,Gm us k)]++PX fp s5.heap) σ' H' s'->tn (i+1) s'.heap/\∀ b∈fp,H' b=none:=λI' =>
    ⟨T.keep _ _ _ st5 λb hb o e=>(I'.pin (b,o) (ApG _ (ApG _ (Ez hb e)))).1,λb hb=>by
     obtain⟨o,e,d⟩:=T.obj _ _ st5 b hb
     exact(I'.pin (b,o) (ApG _ (ApG _ (Ez hb e)))).2.1⟩
   cases b with
   | false =>
    rw[if_neg Ap5] at q7
    rw[if_neg Ap5]
    obtain⟨m',hm,w7⟩:=q7
    obtain⟨gD,nD⟩:=S5 I7
    obtain⟨k1,k2⟩:=Qe I7
    exact⟨m',hm,i+1,some x5,H7,ys,us,k,I7.Gf (λp hp=>nomatch hp),k1,k2,gD,nD,rv,w7⟩
   | true =>
    rw[if_pos rfl] at q7
    rw[if_pos rfl]
    refine wpAny_mono (hte C fp s H _ s7 _ H7 _ I7 q7) (λu8 s8 h8=>?_) err
    obtain⟨y8,H8,I8,r8,m',hm,w8⟩:=h8
    obtain⟨gD,nD⟩:=S5 I8
    obtain⟨k1,k2⟩:=Qe I8
    refine call_meets F.slot_list_append ⟨_,gD,rfl⟩ F.entry_list_append (F.args_list_append_2 _ _) (PySem.list_append D us.toArray k u8 (by rw[Ap3,<- rv.length];omega)) ⟨gD,?_⟩
    have q:=PySem.IsL.update gD (·.push u8)
    have e1:us.toArray.push u8=(us++[u8]).toArray:=by simp
    rw[e1] at q
    have I8':Inv Y [] (some x5::EY σ Bd) H8 s8:=I8.Gf (λp hp=>nomatch hp)
    have I9:Inv Y [] (some x5::EY σ Bd) H8 { s8 with heap:=s8.heap.update D (Obj.mapSeq (·.push u8)),toks:=s8.toks } :=
     I8'.turned (it:=D) (λb o hb e=>(Heap.get?_update_other s8.heap (Obj.mapSeq (·.push u8)) (Ne.symm hb)).trans e) nD Nk (.inr (Aqe hDD)) Yh (λp hp=>nomatch hp)
    refine⟨m',hm,i+1,some x5,H8,ys++[y8],us++[u8],_,I9,T.keep _ _ _ k1 λb hb o e=>(Heap.get?_update_other s8.heap (Obj.mapSeq (·.push u8)) (Ne.symm (Dfp b hb))).trans e,k2,q,nD,rv.append (.cons r8 .nil),w8⟩
 exact codeAny_compStart_list (loop _ rfl) (T.self X.A 0 _ _ _ st1 (loop _ rfl))
end
def AaO (M:Model)(A:Around)(E:Value->Shared->Prop)(u:Value->Sem Unit)(Q:Value->Shared->Prop)(acc:Value)(C:Addr)(f:Option Addr)(r:Result)(s':Shared):Prop :=
 match r with
 | .ok _=>wpAny M A (u acc) (λ_ s''=>∃ m,s''.heap.Ns C m/\∀ h',Heap.SameBut C s''.heap h'->Q .none { s'' with heap:=h' }) E s'
 | .error x=>∃ m,s'.heap.Ns C m/\∀ h',Heap.SameBut C s'.heap h'->∀ cenv:Env,cenv.locals=C->cenv.frame=f->wpAny M A (passOn "comprehension.variables-let-go" x cenv:Sem Value) (λ_ _=>False) E { s' with heap:=h' }
theorem Aem{M:Model}{A:Around}{E:Value->Shared->Prop}{s:Shared}{env:Env}{e:Expr}{scope:Scope}{pos:Pos}{newAcc first:Sem Value}{g:Comprehension}{gs:List Comprehension}{cl:List (Str × Addr)}{u:Value->Sem Unit}{Q:Value->Shared->Prop}
  (hcl:clausesOf e=g::gs) (hs:∀ x,foldedSetIterable g.iter env x=pure x) (hclos:closureFor scope env=pure cl)
  (hkind:scope.kind=.function) (hnames:∀ x∈scope.names,x.2=.local->scope.names.lookup x.1=some .local)
  (h:wpAny M A first (λx s₁=>wpAny M A (pyIter x) (λit s₂=>wpAny M A newAcc (λacc s₃ =>
   wpAny M A (newFunctionEnv scope env.globals cl [] env.qual none .none (some env)) (λcenv s₄ =>
    codeAny M A (.compStart e 0 it acc { cenv with scope:=relabel scope env }) (AaO M A E u Q acc cenv.locals cenv.frame) s₄) E s₃) E s₂) E s₁) E s) :
  wpAny M A (comprehension e scope env pos newAcc false first (some u)) Q E s:=by
 unfold comprehension
 rw[hclos,hcl]
 refine wpAny_bind (wpAny_mono h (λx s₁ h₁=>wpAny_bind (wpAny_standAt (wpAny_bind (wpAny_of_eq (hs x) (wpAny_bind (wpAny_holding (wpAny_mono h₁ (λit s₂ h₂ =>
  wpAny_standIf (wpAny_bind (wpAny_mono h₂ (λacc s₃ h₃=>wpAny_bind (wpAny_pure (wpAny_bind (wpAny_mono h₃ (λcenv s₄ h₄=>?_) λ_ _ h'=>h')))) λ_ _ h'=>h')))
   λ_ _ h'=>h'))))))) λ_ _ h'=>h')
 dsimp only
 have hv:∀ x∈(scope.names.filter λx=>(x.2 == .local || x.2 == .cell) && x.1 != (".0" : Str)).reverse,x.2=.local ->
   Env.kindOf { cenv with scope:=relabel scope env } x.1=some .local:=λx hx hl=>lookup_relabel_local (hnames x (List.mem_filter.mp (List.mem_reverse.mp hx)).1 hl)
 have hv':∀ x∈(scope.names.filter λx=>(x.2 == .local || x.2 == .cell) && x.1 != (".0" : Str)).reverse.drop 1++(scope.names.filter λx=>(x.2 == .local || x.2 == .cell) && x.1 != (".0" : Str)).reverse.take 1,
   x.2=.local->Env.kindOf { cenv with scope:=relabel scope env } x.1=some .local:=λx hx hl=>(List.mem_append.mp hx).elim (λh1=>hv x (AqP h1) hl) (λh1=>hv x (AqQ h1) hl)
 refine wpAny_holding (wpAny_bind (wpAny_attempt (wpAny_holding (wpAny_run (codeAny_mono h₄ λr s' hr=>?_)))))
 cases r with
 | ok f =>
  refine wpAny_bind (wpAny_rule (wpAny_bind (wpAny_holding (wpAny_mono hr (λ_ s'' hr'=>?_) λ_ _ h'=>h'))))
  obtain⟨m,hn,hr'⟩:=hr'
  exact wpAny_bind (wpAny_comp_letGo (cenv:={ cenv with scope:=relabel scope env }) hkind _ s'' m hv' hn λh' m' _ hs'=>wpAny_pure (hr' h' hs'))
 | error x =>
  obtain⟨m,hn,hr⟩:=hr
  exact wpAny_bind (wpAny_holding (wpAny_comp_letGo (cenv:={ cenv with scope:=relabel scope env }) hkind _ s' m hv hn λh' m' _ hs'=>wpAny_mono (hr h' hs' _ rfl rfl) (λ_ _ f=>f.elim) λ_ _ y=>y))
section
variable {X:Cx}{pins:List (Addr × Obj)}{σ:St}{H:Hp}{s:Shared}
theorem AhK{E':XK}{i:Nat}{y x:Str}{px py pos spos:Pos}{Nc:List Str}{Bd:List Nat}{scope:Scope}{iter elt:Expr}{ifs:List Expr}{wi:TI}{tc:TT}{te:TE}(hB:Body X)(hw:∀ e s',FlX X E' e s'->X.xe e s')(O:CG X x Nc Bd scope)(hc:X.calm=true)
  (hN:X.N.Nodup) (hy:X.N[i]?=some y) (hx:X.env.scope.names.lookup y=some .local) (hi:PI X (.Name x px) iter wi)
  (htc:∀ cl C fp s H,PIf (Rc X Nc scope cl C fp s H E') ifs tc) (hte:∀ cl C fp s H,PE (Rc X Nc scope cl C fp s H E') elt te)
  (hsw:swapsWith (.ListComp elt [⟨.Name x px,iter,ifs,0⟩] scope pos) (some (.Name y py)) spos.line X.env=pure true) (hs:∀ x,foldedSetIterable iter X.env x=pure x:=by intro _;rfl) :
  PS X (.Assign [.Name y py] (.ListComp elt [⟨.Name x px,iter,ifs,0⟩] scope pos) spos) (Ac1 (AcA wi Bd tc te) (J8 i)):=by
 intro pins s σ H Dn I h
 rw[exec_Assign_Name_used _ _ _ _ hsw]
 refine wpAny_bind (wpAny_standAt (wpAny_bind ?_))
 obtain⟨cl,e1,e2,e3⟩:=HX (scope:=scope) (env:=X.env) λy hy hf=>I.ok.has y.1 (.inl (O.fr y hy hf).1)
 show wpAny _ X.A (do let _ <- comprehension (.ListComp elt [⟨.Name x px,iter,ifs,0⟩] scope pos) scope X.env _ (newList []) false (eval iter X.env) (some (assign (.Name y py) X.env))) _ _ s
 refine wpAny_bind (wpAny_mono (Aem (u:=assign (.Name y py) X.env) (Q:=λ_ s'=>SP X pins Dn .next s') rfl hs e1 O.kind O.names
  (thn (hi pins s σ H _ I h) λv s1 h1=>thn h1 λitv s2 h2=>?_)) (λ_ s' hq=>wpAny_pure (wpAny_pure hq)) λ_ _ e=>e)
 obtain⟨it,fp,tn,J,H2,e,I2,T,st2,f2,w2⟩:=h2
 subst e
 refine Ade (RR:=λacc C f=>AaO (model X.prog X.w) X.A X.xe (assign (.Name y py) X.env) (λ_ s'=>SP X pins Dn .next s') acc C f) hB O hc e2 e3 (hte cl) (htc cl) I2 T st2 f2 w2 ?_ ?_
 ·intro D C s' m hn hq hC
  show wpAny _ X.A (assign (.Name y py) X.env (.ref D)) _ _ _
  obtain⟨H',I',nC,q⟩:=hq s'.heap (.refl ..)
  have I'':Inv X pins σ H' s':=I'
  have CL:C≠X.env.locals:=Aqd (Ap0 I2.lt hC)
  have Qf:∀ y c,X.env.cells.lookup y=some c->c≠C:=λy c e z=>by
   obtain⟨v,q⟩:=I2.cell y c e
   have:=Ap0 q.lt hC
   rw[z] at this
   exact ApC _ this
  refine wpAny_assign_Name (Ly I'' hN hy (.inl hx) (show RelV (.ref D) (.ref D) from rfl) (λs3 I3 hsb=>?_) (.inr hx))
  obtain⟨a,hsb,ha⟩:=hsb
  have aC:C≠a:=by
   rcases ha with z | z
   ·rw[z];exact CL
   ·exact Ne.symm (Qf _ _ z)
  refine⟨m,hn.sameBut hsb aC,λh4 hs4=>?_⟩
  refine⟨_,H',I3.turned (it:=C) (t':=s3.toks) (λb o hb e=>(hs4.2 b hb).trans e) nC CL (.inr (ApF I2.sz hC)) Qf (λp hp z=>?_),q⟩
  ·have:=Ap0 (Heap.lt_size (I2.pin p hp).1) hC
   rw[z] at this
   exact ApC _ this
 ·intro D C e s' ⟨⟨m,hn⟩,hq⟩
  refine⟨m,hn,λh' hs' cenv _ hf=>?_⟩
  obtain⟨ea,Cc,t,H',B,rfl,fx,os,bare,bk,q⟩:=hq h' hs'
  unfold PySem.passOn
  obtain⟨T',oT,ts,hE,_⟩:=fx.ob
  refine wpAny_bind (wpAny_field (s:={ s' with heap:=h' }) hE rfl (x:=.ref T') rfl ?_)
  rw[if_neg (by simp)]
  refine wpAny_bind (AaG (s:={ s' with heap:=h' }) (f:=cenv.frame) fx λh2 x2 u2=>?_)
  rw[hf,hB.frame] at x2
  refine wpAny_throw (hw _ _ ⟨ea,Cc,t,H',B,rfl,.seen x2,os,bare,bk.slots (Xw hB fx.fr) u2,q⟩)
end
section
variable {X:Cx}{K:W.Frag}
def AmP (K:W.Frag):R2:=λx y H Q=>∃(p q:Addr) (js ks:List Int),x=.ref p/\y=.ref q/\SqT K H p (vI js)/\SqT K H q (vI ks)/\Q (.bl (!decide (js=ks))) H
theorem Aj0(hu:X.A.units+100<cLine)(hK:X.K=K:=by rfl):OpR X (compareOp .NotEq) (AmP K):=by
 subst hK
 intro pins s σ H x y v u Q I rx ry h
 obtain⟨p,q,js,ks,rfl,rfl,hx,hy,k⟩:=h
 cases rx
 cases ry
 obtain⟨its,r,pl,hz⟩:=I.tuple hx
 obtain⟨its2,r2,pl2,hz2⟩:=I.tuple hy
 have l1:=r.length
 have l2:=r2.length
 unfold vI at l1 l2
 rw[Apq] at l1 l2
 refine SeqAt.RcNeAt.tuples (e:=λj=>decide (js[j]?=ks[j]?)) pl pl2 (by omega) (λj h1 h2=>?_) _ _ _ _ ?_
 ·simp only [Ap3] at h1 h2
  have j1:j<js.length:=by omega
  have j2:j<ks.length:=by omega
  obtain⟨w1,e1,q1⟩:=r.get (i:=j) (x:=V.int js[j]) (by simp[vI,j1])
  obtain⟨w2,e2,q2⟩:=r2.get (i:=j) (x:=V.int ks[j]) (by simp[vI,j2])
  have g1:its.toArray[j]=w1:=by
   have:its.toArray[j]?=some w1:=by simpa using e1
   exact Option.some.inj ((Array.getElem?_eq_getElem (by simpa using h1)).symm.trans this)
  have g2:its2.toArray[j]=w2:=by
   have:its2.toArray[j]?=some w2:=by simpa using e2
   exact Option.some.inj ((Array.getElem?_eq_getElem (by simpa using h2)).symm.trans this)
  rw[g1,g2]
  have:=Abp (A:=X.A.in1) (s:=s) q1 q2 rfl rfl
  have e3:eqV (V.int js[j]) (V.int ks[j])=decide (js[j]?=ks[j]?):=by
   rw[Apu j1,Apu j2]
   show(js[j] == ks[j])=_
   by_cases h:js[j]=ks[j] <;> simp[h]
  rw[e3] at this
  exact this
 refine⟨.bl (!decide (js=ks)),H,I,?_,k⟩
 show Value.bool _=Value.bool _
 congr 1
 simp only [Ap3]
 rw[<- l1,<- l2]
 by_cases h:js=ks
 ·subst h
  simp
 ·rw[decide_eq_false h]
  by_cases hl:js.length=ks.length
  ·have:¬((List.range (min js.length ks.length)).all (λj=>decide (js[j]?=ks[j]?))=true):=λz=>h (by
    rw[AqA] at z
    refine Aqr λj=>?_
    by_cases hj:j<js.length
    ·exact of_decide_eq_true (z j (List.mem_range.mpr (by omega)))
    ·rw[ApY (by omega),ApY (by omega)])
   rw[Bool.eq_false_iff.mpr this,Bool.false_and]
  ·have:(js.length == ks.length)=false:=by simp[hl]
   rw[this,Bool.and_false]
end
end L2
set_option maxHeartbeats 4000000
namespace Mine
open PySem L2
def top (i:Nat):Stmt:=PySem.Challenge.pw_heddle_k59_whole_patterns.main.body.getD i (.Pass ⟨0,0,0,0⟩)
abbrev V8:Stmt:=top 12
theorem Aen:Aw ["text"] ["text"] (Ah V8):=sc9
abbrev Y9:Stmt:=top 15
theorem Adf:Aw ["cloth"] ["cloth"] (Ah Y9):=sc9
abbrev V9:Stmt:=top 16
theorem Aeo:Aw ["cloth"] ["cloth"] (Ah V9):=sc9
abbrev N5:Stmt:=top 17
theorem Rz:Aw ["cloth", "size"] ["cloth"] (Ah N5):=sc9
abbrev Ma:Stmt:=top 18
theorem Hw:Aw ["texts", "least", "signs", "ends", "text"] ["texts", "least", "signs"] (Ah Ma):=sc9
abbrev T3:Stmt:=top 19
theorem R0:Aw ["text", "ends", "signs", "sign"] ["text", "ends", "signs"] (Ah T3):=sc9
abbrev Ql:Stmt:=top 20
theorem AbD:Aw ["cloth", "end"] ["cloth", "end"] (Ah Ql):=sc9
abbrev JW:Stmt:=top 21
theorem Xf:Aw ["signs"] ["signs"] (Ah JW):=sc9
abbrev Ju:Stmt:=top 23
theorem DK:Aw ["profile", "one", "other", "size", "unit", "cloth", "text", "of_one", "of_other"] ["profile", "one", "other"] (Ah Ju):=sc9
abbrev Wr:Stmt:=top 24
theorem T4:Aw ["one", "other", "size"] ["one", "other"] (Ah Wr):=sc9
abbrev AbE:Stmt:=top 26
theorem Adg:Aw ["cloth", "across", "along", "size"] ["cloth", "across", "along"] (Ah AbE):=sc9
abbrev Jv:Stmt:=top 28
theorem Cv:Aw ["pieces", "ends", "picks", "number", "piece", "end_places", "pick_places", "cloth", "owner", "place", "own", "signs"] ["pieces", "ends", "picks"] (Ah Jv):=sc9
abbrev Qm:Stmt:=top 29
theorem Oo:Aw ["owners", "pieces", "owner"] ["owners", "pieces"] (Ah Qm):=sc9
abbrev R1:Stmt:=top 30
theorem JX:Aw ["piece", "ends", "picks", "text", "sign"] ["piece", "ends", "picks"] (Ah R1):=sc9
abbrev Jw:Stmt:=top 31
theorem VB:Aw ["owners"] ["owners"] (Ah Jw):=sc9
abbrev AaP:Stmt:=top 32
theorem Aep:Aw ["pick_owner", "own", "end_owner", "place"] ["pick_owner", "own", "end_owner", "place"] (Ah AaP):=sc9
abbrev T5:Stmt:=top 48
theorem ZL:Aw ["ends", "picks"] ["ends", "picks"] (Ah T5):=sc9
abbrev Mg:Stmt:=top 49
theorem T7:Aw ["one", "other"] ["one", "other"] (Ah Mg):=sc9
abbrev SJ:Stmt:=top 50
theorem Adh:Aw ["size", "step"] ["size", "step"] (Ah SJ):=sc9
abbrev AaQ:Stmt:=top 51
theorem Aeq:Aw ["word", "things"] ["word", "things"] (Ah AaQ):=sc9
abbrev Ws:Stmt:=top 55
theorem AbF:Aw ["figures"] ["figures"] (Ah Ws):=sc9
abbrev Qn:Stmt:=top 60
theorem Xg:Aw ["text", "known"] ["text", "known"] (Ah Qn):=sc9
abbrev T9:Stmt:=top 61
theorem Lp:Aw ["text", "reader", "node"] ["text"] (Ah T9):=sc9
abbrev Wu:Stmt:=top 62
theorem G7:Aw ["reader", "depth", "word", "things"] ["reader", "depth"] (Ah Wu):=sc9
abbrev R3:Stmt:=top 63
theorem JZ:Aw ["reader", "word", "depth", "things", "kind"] ["reader", "word", "depth"] (Ah R3):=sc9
abbrev Wv:Stmt:=top 64
theorem TF:Aw ["reader", "runs"] ["reader"] (Ah Wv):=sc9
abbrev YB:Stmt:=top 65
theorem Ww:Aw ["reader", "run"] ["reader"] (Ah YB):=sc9
abbrev R4:Stmt:=top 66
theorem Qo:Aw ["reader", "number"] ["reader"] (Ah R4):=sc9
abbrev TJ:Stmt:=top 67
theorem ZM:Aw ["reader"] ["reader"] (Ah TJ):=sc9
abbrev N6:Stmt:=top 68
theorem R5:Aw ["node", "known", "things"] ["node", "known"] (Ah N6):=sc9
abbrev R6:Stmt:=top 69
theorem Ka:Aw ["name", "known", "one", "cloth"] ["name", "known"] (Ah R6):=sc9
abbrev R7:Stmt:=top 70
theorem YC:Aw ["word", "inner"] ["word", "inner"] (Ah R7):=sc9
abbrev R8:Stmt:=top 71
theorem YD:Aw ["word", "one", "other"] ["word", "one", "other"] (Ah R8):=sc9
abbrev Oq:Stmt:=top 72
theorem VD:Aw ["word", "things"] ["word", "things"] (Ah Oq):=sc9
abbrev YF:Stmt:=top 74
theorem Gv:Aw ["number", "ends", "picks", "rows", "j", "signs", "k"] ["number", "ends", "picks"] (Ah YF):=sc9
abbrev Wy:Stmt:=top 75
theorem AbG:Aw ["sign"] ["sign"] (Ah Wy):=sc9
abbrev Ib:Stmt:=top 76
theorem Fv:Aw ["cell", "a", "b", "rows", "text", "size"] ["cell"] (Ah Ib):=sc9
abbrev G8:Stmt:=top 77
theorem ZP:Aw ["word", "rows"] ["word", "rows"] (Ah G8):=sc9
abbrev N7:Stmt:=top 78
theorem Iv:Aw ["profile", "one", "other", "rows", "texts", "j"] ["profile", "one", "other"] (Ah N7):=sc9
abbrev N8:Stmt:=top 79
theorem Qp:Aw ["one", "other", "rows", "j"] ["one", "other"] (Ah N8):=sc9
abbrev W0:Stmt:=top 80
theorem Hx:Aw ["word", "cloths", "a", "b", "wide", "high", "same_wide", "same_high"] ["word", "cloths", "a", "b"] (Ah W0):=sc9
abbrev NB:Stmt:=top 81
theorem Adi:Aw ["word", "cloths", "a", "b"] ["word", "cloths", "a", "b"] (Ah NB):=sc9
abbrev Hy:Stmt:=top 82
theorem DP:Aw ["word", "things", "a", "b", "text", "deep", "thing", "cloths", "wide", "high", "fits"] ["word", "things", "a", "b"] (Ah Hy):=sc9
abbrev W2:Stmt:=top 83
theorem AbH:Aw ["item"] ["item"] (Ah W2):=sc9
abbrev AaR:Stmt:=top 84
theorem Em:Aw ["line", "cell", "words", "word", "many", "a", "b", "things", "made"] ["line", "cell"] (Ah AaR):=sc9
abbrev TQ:Stmt:=top 85
theorem Gb:Aw ["text", "cell", "signs", "k"] ["text", "cell"] (Ah TQ):=sc9
abbrev R9:Stmt:=top 86
theorem En:Aw ["text", "known", "refused", "piece"] ["text", "known"] (Ah R9):=sc9
abbrev W3:Stmt:=top 87
theorem TV:Aw ["piece", "text", "rows", "found"] ["piece", "text", "rows"] (Ah W3):=sc9
abbrev AhL:Stmt:=top 88
theorem GR:Aw ["script", "line", "total", "cell", "text", "rows", "due", "deep", "known", "refused", "piece", "y", "again"] ["script"] (Ah AhL):=sc9
abbrev Mh:Stmt:=(Dm (top 34)).getD 0 (.Pass ⟨0,0,0,0⟩)
theorem TX:Aw ["self", "texts", "writing"] ["self", "texts", "writing"] (Ah Mh):=sc9
abbrev TY:Stmt:=(Dm (top 34)).getD 1 (.Pass ⟨0,0,0,0⟩)
theorem ZQ:Aw ["self"] ["self"] (Ah TY):=sc9
abbrev Ua:Stmt:=(Dm (top 34)).getD 2 (.Pass ⟨0,0,0,0⟩)
theorem ZR:Aw ["self"] ["self"] (Ah Ua):=sc9
abbrev Ub:Stmt:=(Dm (top 34)).getD 3 (.Pass ⟨0,0,0,0⟩)
theorem ZS:Aw ["self", "x", "y"] ["self", "x", "y"] (Ah Ub):=sc9
abbrev RB:Stmt:=(Dm (top 34)).getD 4 (.Pass ⟨0,0,0,0⟩)
theorem YG:Aw ["self"] ["self"] (Ah RB):=sc9
abbrev Uc:Stmt:=(Dm (top 34)).getD 5 (.Pass ⟨0,0,0,0⟩)
theorem ZV:Aw ["self"] ["self"] (Ah Uc):=sc9
abbrev Mi:Stmt:=(Dm (top 35)).getD 0 (.Pass ⟨0,0,0,0⟩)
theorem Ud:Aw ["self", "name", "known_cloth"] ["self", "name", "known_cloth"] (Ah Mi):=sc9
abbrev Jx:Stmt:=(Dm (top 36)).getD 0 (.Pass ⟨0,0,0,0⟩)
theorem VF:Aw ["self", "runs"] ["self", "runs"] (Ah Jx):=sc9
abbrev Ie:Stmt:=(Dm (top 37)).getD 0 (.Pass ⟨0,0,0,0⟩)
theorem Gi:Aw ["self", "over", "under", "size", "first", "texts"] ["self", "over", "under"] (Ah Ie):=sc9
abbrev G9:Stmt:=(Dm (top 38)).getD 0 (.Pass ⟨0,0,0,0⟩)
theorem Hz:Aw ["self", "size", "step", "overs", "texts"] ["self", "size", "step"] (Ah G9):=sc9
abbrev HB:Stmt:=(Dm (top 39)).getD 0 (.Pass ⟨0,0,0,0⟩)
theorem Kc:Aw ["self", "one", "other", "texts"] ["self", "one", "other"] (Ah HB):=sc9
abbrev Mj:Stmt:=(Dm (top 40)).getD 0 (.Pass ⟨0,0,0,0⟩)
theorem Ue:Aw ["self", "one", "other"] ["self", "one", "other"] (Ah Mj):=sc9
abbrev HD:Stmt:=(Dm (top 41)).getD 0 (.Pass ⟨0,0,0,0⟩)
theorem Ke:Aw ["self", "inner", "texts"] ["self", "inner"] (Ah HD):=sc9
abbrev Ml:Stmt:=(Dm (top 42)).getD 0 (.Pass ⟨0,0,0,0⟩)
theorem Ug:Aw ["self", "inner"] ["self", "inner"] (Ah Ml):=sc9
abbrev Ot:Stmt:=(Dm (top 43)).getD 0 (.Pass ⟨0,0,0,0⟩)
theorem VG:Aw ["self", "inner"] ["self", "inner"] (Ah Ot):=sc9
abbrev Kf:Stmt:=(Dm (top 44)).getD 0 (.Pass ⟨0,0,0,0⟩)
theorem Ro:Aw ["self", "inner"] ["self", "inner"] (Ah Kf):=sc9
abbrev Ou:Stmt:=(Dm (top 45)).getD 0 (.Pass ⟨0,0,0,0⟩)
theorem Mm:Aw ["self", "inner", "across", "along", "texts"] ["self", "inner", "across", "along"] (Ah Ou):=sc9
abbrev K8:Stmt:=(Dm (top 46)).getD 0 (.Pass ⟨0,0,0,0⟩)
theorem Kg:Aw ["self", "profile", "one", "other", "texts"] ["self", "profile", "one", "other"] (Ah K8):=sc9
abbrev Qq:Stmt:=(Dm (top 47)).getD 0 (.Pass ⟨0,0,0,0⟩)
theorem Ov:Aw ["self", "upper", "lower", "texts"] ["self", "upper", "lower"] (Ah Qq):=sc9
abbrev K9:Stmt:=(Dm (top 54)).getD 0 (.Pass ⟨0,0,0,0⟩)
theorem SM:Aw ["self", "text"] ["self", "text"] (Ah K9):=sc9
abbrev Qs:Stmt:=(Dm (top 54)).getD 1 (.Pass ⟨0,0,0,0⟩)
theorem Xh:Aw ["self"] ["self"] (Ah Qs):=sc9
abbrev RC:Stmt:=(Dm (top 54)).getD 2 (.Pass ⟨0,0,0,0⟩)
theorem Qt:Aw ["self", "wanted", "behind"] ["self", "wanted"] (Ah RC):=sc9
abbrev Mp:Stmt:=(Dm (top 54)).getD 3 (.Pass ⟨0,0,0,0⟩)
theorem KC:Aw ["self", "signs", "begin"] ["self", "signs"] (Ah Mp):=sc9
abbrev Ow:Stmt:=(Dm (top 54)).getD 4 (.Pass ⟨0,0,0,0⟩)
theorem VH:Aw ["self"] ["self"] (Ah Ow):=sc9
set_option genInjectivity false in
structure Adr where
 {BL:Addr}
 {Eu:Addr}
 {Gw:Addr}
 {Ew:Addr}
 {Ex:Addr}
 {Eg:Addr}
 {Fe:Addr}
 {Eh:Addr}
 {Ff:Addr}
 {GX:Addr}
 {Dy:Addr}
 {Gx:Addr}
 {DQ:Addr}
 {JD:Addr}
 {Ck:Addr}
 {Uh:Addr}
 {AbI:Addr}
 {GC:Addr}
 {Mq:FuncData}
 {BW:Addr}
 {Ui:FuncData}
 {BX:Addr}
 {Uj:FuncData}
 {BZ:Addr}
 {NK:FuncData}
 {Bw:Addr}
 {Lq:FuncData}
 {Ca:Addr}
 {Uk:FuncData}
 {Ig:Addr}
 {Mr:FuncData}
 {Jy:Addr}
 {Ox:FuncData}
 {Ih:Addr}
 {Ms:FuncData}
 {Ii:Addr}
 {Mt:FuncData}
 {HF:Addr}
 {KD:FuncData}
 {Ij:Addr}
 {Mu:FuncData}
 {HH:Addr}
 {KH:FuncData}
 {Ik:Addr}
 {Mv:FuncData}
 {Jz:Addr}
 {O1:FuncData}
 {Hl:Addr}
 {Kh:FuncData}
 {J0:Addr}
 {O2:FuncData}
 {HJ:Addr}
 {KJ:FuncData}
 {Kl:Addr}
 {Qu:FuncData}
 {HN:Addr}
 {KN:FuncData}
 {Qv:Addr}
 {Qw:FuncData}
 {RD:Addr}
 {RG:FuncData}
 {Mw:Addr}
 {Mx:FuncData}
 {O3:Addr}
 {O4:FuncData}
 {AaS:Addr}
 {AaT:FuncData}
 {YH:Addr}
 {YJ:FuncData}
 {AaU:Addr}
 {AaV:FuncData}
 {Ul:Addr}
 {Um:FuncData}
 {My:Addr}
 {Mz:FuncData}
 {Uo:Addr}
 {Up:FuncData}
 {W4:Addr}
 {W5:FuncData}
 {Qx:Addr}
 {Qy:FuncData}
 {O5:Addr}
 {O6:FuncData}
 {W6:Addr}
 {W7:FuncData}
 {Afk:Addr}
 {Afl:FuncData}
 {O7:Addr}
 {O8:FuncData}
 {Qz:Addr}
 {Q0:FuncData}
 {RJ:Addr}
 {RK:FuncData}
 {O9:Addr}
 {OD:FuncData}
 {AaW:Addr}
 {AaX:FuncData}
 {Uq:Addr}
 {Ur:FuncData}
 {M3:Addr}
 {M4:FuncData}
 {YK:Addr}
 {YL:FuncData}
 {AaY:Addr}
 {AaZ:FuncData}
 {W8:Addr}
 {W9:FuncData}
 {Q3:Addr}
 {Q4:FuncData}
 {Us:Addr}
 {Ut:FuncData}
 {Jk:Addr}
 {Jl:FuncData}
 {Iw:Addr}
 {Iz:FuncData}
 {WD:Addr}
 {WK:FuncData}
 {YM:Addr}
 {YQ:FuncData}
 {RL:Addr}
 {RM:FuncData}
 {Uu:Addr}
 {Uv:FuncData}
 {JL:Addr}
 {JM:FuncData}
 {RN:Addr}
 {RP:FuncData}
 {RQ:Addr}
 {RT:FuncData}
 {RW:Addr}
 {RX:FuncData}
 {OJ:Addr}
 {Pa:FuncData}
 {YS:Addr}
 {YT:FuncData}
 {WL:Addr}
 {WM:FuncData}
 {SN:Addr}
 {SQ:FuncData}
 {Uw:Addr}
 {Ux:FuncData}
 {Uy:Addr}
 {Uz:FuncData}
 {YW:Addr}
 {YZ:FuncData}
 {WN:Addr}
 {WQ:FuncData}
 {Za:Addr}
 {Zb:FuncData}
 {U0:Addr}
 {U3:FuncData}
 {WR:Addr}
 {WT:FuncData}
 {VJ:Addr}
 {VL:FuncData}
 {NP:Addr}
 {NQ:FuncData}
 {Lr:Addr}
 {Ls:FuncData}
 {Q5:Addr}
 {Q6:FuncData}
 {Ak2:Addr}
 {AhM:FuncData}
 {HQ:Addr}
 {CZ:Addr}
 {By:Addr}
 {Er:Addr}
structure Txt (K:W.Frag) (mg:Str->Option Value) (t:Adr):Prop where
 NT:Df K mg "is_name" V8 ["text"] t.AaS t.AaT
 measured:Df K mg "measured" Y9 ["cloth"] t.YH t.YJ
 X4:Df K mg "back_of" V9 ["cloth"] t.AaU t.AaV
 NZ:Df K mg "quarter_of" N5 ["cloth"] t.Ul t.Um
 HR:Df K mg "measured_texts" Ma ["texts", "least", "signs"] t.My t.Mz
 Oa:Df K mg "check_pick" T3 ["text", "ends", "signs"] t.Uo t.Up
 Rg:Df K mg "end_signs" Ql ["cloth", "end"] t.W4 t.W5
 FT:Df K mg "turned_signs" JW ["signs"] t.Qx t.Qy
 IK:Df K mg "filled_blocks" Ju ["profile", "one", "other"] t.O5 t.O6
 Rh:Df K mg "unit_size" Wr ["one", "other"] t.W6 t.W7
 Afm:Df K mg "tiled" AbE ["cloth", "across", "along"] t.Afk t.Afl
 IV:Df K mg "laid_together" Jv ["pieces", "ends", "picks"] t.O7 t.O8
 FW:Df K mg "check_owners" Qm ["owners", "pieces"] t.Qz t.Q0
 KQ:Df K mg "check_piece" R1 ["piece", "ends", "picks"] t.RJ t.RK
 Fb:Df K mg "places_within" Jw ["owners"] t.O9 t.OD
 X5:Df K mg "sign_at" AaP ["pick_owner", "own", "end_owner", "place"] t.AaW t.AaX
 Cq:Df K mg "check_size" T5 ["ends", "picks"] t.Uq t.Ur
 Eo:Df K mg "check_one_size" Mg ["one", "other"] t.M3 t.M4
 U4:Df K mg "prime_to" SJ ["size", "step"] t.YK t.YL
 written:Df K mg "written" AaQ ["word", "things"] t.AaY t.AaZ
 Ri:Df K mg "number_of" Ws ["figures"] t.W8 t.W9
 JN:Df K mg "read_pattern" Qn ["text", "known"] t.Q3 t.Q4
 Ob:Df K mg "read_whole" T9 ["text"] t.Us t.Ut
 Ho:Df K mg "read_node" Wu ["reader", "depth"] t.Jk t.Jl
 Gy:Df K mg "read_things" R3 ["reader", "word", "depth"] t.Iw t.Iz
 Rj:Df K mg "read_runs" Wv ["reader"] t.WD t.WK
 Km:Df K mg "read_run" YB ["reader"] t.YM t.YQ
 KR:Df K mg "read_number" R4 ["reader"] t.RL t.RM
 Od:Df K mg "read_comma" TJ ["reader"] t.Uu t.Uv
 Hm:Df K mg "worked_out" N6 ["node", "known"] t.JL t.JM
 KY:Df K mg "known_cloth" R6 ["name", "known"] t.RN t.RP
 KZ:Df K mg "made_of_one" R7 ["word", "inner"] t.RQ t.RT
 La:Df K mg "made_of_two" R8 ["word", "one", "other"] t.RW t.RX
 IW:Df K mg "made_of_three" Oq ["word", "things"] t.OJ t.Pa
 U5:Df K mg "_law_rows" YF ["number", "ends", "picks"] t.YS t.YT
 Il:Df K mg "_law_other" Wy ["sign"] t.WL t.WM
 Hg:Df K mg "_law_leaf" Ib ["cell"] t.SN t.SQ
 Oe:Df K mg "_law_turned" G8 ["word", "rows"] t.Uw t.Ux
 Og:Df K mg "_law_filled" N7 ["profile", "one", "other"] t.Uy t.Uz
 U6:Df K mg "_law_laid" N8 ["one", "other"] t.YW t.YZ
 Rk:Df K mg "_law_sizes" W0 ["word", "cloths", "a", "b"] t.WN t.WQ
 U7:Df K mg "_law_made" NB ["word", "cloths", "a", "b"] t.Za t.Zb
 Hn:Df K mg "_law_joined" Hy ["word", "things", "a", "b"] t.U0 t.U3
 law_small:Df K mg "_law_small" W2 ["item"] t.WR t.WT
 X6:Df K mg "_law_put" AaR ["line", "cell"] t.VJ t.VL
 Oh:Df K mg "_law_blanks" TQ ["text", "cell"] t.NP t.NQ
 Gz:Df K mg "_law_reading" R9 ["text", "known"] t.Lr t.Ls
 Ek:Df K mg "_law_tells" W3 ["piece", "text", "rows"] t.Q5 t.Q6
 law:Df K mg "law" AhL ["script"] t.Ak2 t.AhM
 Aj1:mg "ValueError" = none
 AmQ:mg "all" = none
 Ak3:mg "any" = none
 Adj:mg "enumerate" = none
 Aba:mg "int" = none
 Oj:mg "isinstance" = none
 Cr:mg "len" = none
 VM:mg "list" = none
 AmR:mg "max" = none
 Ey:mg "range" = none
 Im:mg "reversed" = none
 Pb:mg "str" = none
 Aj2:mg "tuple" = none
 Afn:mg "zip" = none
 VN:∃ tk,mg "LETTERS" = some (.str "abcdefghijklmnopqrstuvwxyz" tk)
 Zc:∃ tk,mg "MOST_LETTERS" = some (.int 20 tk)
 Dt:∃ tk,mg "MOST_STRANDS" = some (.int 40 tk)
 Agh:∃ tk,mg "FIGURES" = some (.str "0123456789" tk)
 WW:∃ tk,mg "MOST_DEEP" = some (.int 12 tk)
 Adk:∃ tk,mg "MOST_RUNS" = some (.int 40 tk)
 Aj3:mg "WeaveError" = some (.ref t.HQ)
 Aj4:Exn K t.HQ
 Ol:mg "TooLarge" = some (.ref t.CZ)
 Ko:Exn K t.CZ
 Acz:W.mroIn K t.CZ (.ref t.HQ)=some true
 Rp:W.mroIn K t.CZ (.ref t.CZ)=some true
 Q7:W.mroIn K t.CZ (.ref t.By)=some false
 Aer:W.mroIn K t.CZ (.ref t.Er)=some false
 BR:mg "NoPattern" = some (.ref t.By)
 BP:Exn K t.By
 AbJ:W.mroIn K t.By (.ref t.HQ)=some true
 Adl:W.mroIn K t.By (.ref t.CZ)=some false
 PB:W.mroIn K t.By (.ref t.By)=some true
 AdG:W.mroIn K t.By (.ref t.Er)=some false
 Abb:mg "Unknown" = some (.ref t.Er)
 VP:Exn K t.Er
 Adm:W.mroIn K t.Er (.ref t.HQ)=some true
 SX:W.mroIn K t.Er (.ref t.CZ)=some false
 Rq:W.mroIn K t.Er (.ref t.By)=some false
 U8:W.mroIn K t.Er (.ref t.Er)=some true
 Gj:mg "Piece" = some (.ref t.BL)
 Anz:L2.Own K t.BL t.GC
 AhN:Cg K t.BL "texts"
 Agi:Cg K t.BL "writing"
 Aj5:mg "Named" = some (.ref t.Eu)
 AbK:L2.Own K t.Eu t.Ig
 Q8:Cg K t.Eu "texts"
 M5:Cg K t.Eu "writing"
 AhO:Isa K t.Eu
 AhP:W.kitOne K (.ref t.Eu) (.ref t.BL)=some true
 ZW:Meth K t.Eu "wide" t.BW
 ZX:Meth K t.Eu "high" t.BX
 ZZ:Meth K t.Eu "sign" t.BZ
 Zd:Meth K t.Eu "cloth" t.Bw
 Aaa:Meth K t.Eu "told" t.Ca
 Al2:mg "Rows" = some (.ref t.Gw)
 Aes:L2.Own K t.Gw t.Jy
 RZ:Cg K t.Gw "texts"
 Pg:Cg K t.Gw "writing"
 Aj6:Isa K t.Gw
 Aj7:W.kitOne K (.ref t.Gw) (.ref t.BL)=some true
 AbL:Meth K t.Gw "wide" t.BW
 AbM:Meth K t.Gw "high" t.BX
 AbN:Meth K t.Gw "sign" t.BZ
 Aab:Meth K t.Gw "cloth" t.Bw
 AbO:Meth K t.Gw "told" t.Ca
 Aj8:mg "Twill" = some (.ref t.Ew)
 AbP:L2.Own K t.Ew t.Ih
 Q9:Cg K t.Ew "texts"
 M6:Cg K t.Ew "writing"
 AhQ:Isa K t.Ew
 AhR:W.kitOne K (.ref t.Ew) (.ref t.BL)=some true
 Aac:Meth K t.Ew "wide" t.BW
 Aad:Meth K t.Ew "high" t.BX
 Aae:Meth K t.Ew "sign" t.BZ
 Ze:Meth K t.Ew "cloth" t.Bw
 Aaf:Meth K t.Ew "told" t.Ca
 Aj9:mg "Satin" = some (.ref t.Ex)
 AbQ:L2.Own K t.Ex t.Ii
 QB:Cg K t.Ex "texts"
 M7:Cg K t.Ex "writing"
 AhS:Isa K t.Ex
 AhT:W.kitOne K (.ref t.Ex) (.ref t.BL)=some true
 Aag:Meth K t.Ex "wide" t.BW
 Aah:Meth K t.Ex "high" t.BX
 Aai:Meth K t.Ex "sign" t.BZ
 Zf:Meth K t.Ex "cloth" t.Bw
 Aaj:Meth K t.Ex "told" t.Ca
 AhU:mg "Beside" = some (.ref t.Eg)
 Zg:L2.Own K t.Eg t.HF
 Ph:Cg K t.Eg "texts"
 Lb:Cg K t.Eg "writing"
 Agj:Isa K t.Eg
 Agk:W.kitOne K (.ref t.Eg) (.ref t.BL)=some true
 Zh:Meth K t.Eg "wide" t.BW
 Zi:Meth K t.Eg "high" t.BX
 Zj:Meth K t.Eg "sign" t.BZ
 Xi:Meth K t.Eg "cloth" t.Bw
 Zk:Meth K t.Eg "told" t.Ca
 AjA:mg "Above" = some (.ref t.Fe)
 AbR:L2.Own K t.Fe t.Ij
 QC:Cg K t.Fe "texts"
 M8:Cg K t.Fe "writing"
 AhV:Isa K t.Fe
 AhW:W.kitOne K (.ref t.Fe) (.ref t.BL)=some true
 Aak:Meth K t.Fe "wide" t.BW
 Aal:Meth K t.Fe "high" t.BX
 Aam:Meth K t.Fe "sign" t.BZ
 Zm:Meth K t.Fe "cloth" t.Bw
 Aan:Meth K t.Fe "told" t.Ca
 AhX:mg "Mirror" = some (.ref t.Eh)
 Zn:L2.Own K t.Eh t.HH
 Pj:Cg K t.Eh "texts"
 Ld:Cg K t.Eh "writing"
 Agl:Isa K t.Eh
 Agm:W.kitOne K (.ref t.Eh) (.ref t.BL)=some true
 Zo:Meth K t.Eh "wide" t.BW
 Zq:Meth K t.Eh "high" t.BX
 Zr:Meth K t.Eh "sign" t.BZ
 Xj:Meth K t.Eh "cloth" t.Bw
 Zt:Meth K t.Eh "told" t.Ca
 AjB:mg "Upend" = some (.ref t.Ff)
 AbS:L2.Own K t.Ff t.Ik
 QD:Cg K t.Ff "texts"
 M9:Cg K t.Ff "writing"
 AhY:Isa K t.Ff
 AhZ:W.kitOne K (.ref t.Ff) (.ref t.BL)=some true
 Aao:Meth K t.Ff "wide" t.BW
 Aap:Meth K t.Ff "high" t.BX
 Aaq:Meth K t.Ff "sign" t.BZ
 Zu:Meth K t.Ff "cloth" t.Bw
 Aar:Meth K t.Ff "told" t.Ca
 Al3:mg "Back" = some (.ref t.GX)
 Aet:L2.Own K t.GX t.Jz
 Sh:Cg K t.GX "texts"
 Pk:Cg K t.GX "writing"
 AjC:Isa K t.GX
 AjD:W.kitOne K (.ref t.GX) (.ref t.BL)=some true
 AbT:Meth K t.GX "wide" t.BW
 AbU:Meth K t.GX "high" t.BX
 AbV:Meth K t.GX "sign" t.BZ
 Aas:Meth K t.GX "cloth" t.Bw
 AbW:Meth K t.GX "told" t.Ca
 Agn:mg "Quarter" = some (.ref t.Dy)
 VR:L2.Own K t.Dy t.Hl
 MF:Cg K t.Dy "texts"
 Kp:Cg K t.Dy "writing"
 Aeu:Isa K t.Dy
 Aev:W.kitOne K (.ref t.Dy) (.ref t.BL)=some true
 Xk:Meth K t.Dy "wide" t.BW
 Xl:Meth K t.Dy "high" t.BX
 Xm:Meth K t.Dy "sign" t.BZ
 Wa:Meth K t.Dy "cloth" t.Bw
 Xn:Meth K t.Dy "told" t.Ca
 Al4:mg "Tile" = some (.ref t.Gx)
 Aew:L2.Own K t.Gx t.J0
 Sq:Cg K t.Gx "texts"
 Pn:Cg K t.Gx "writing"
 AjE:Isa K t.Gx
 AjF:W.kitOne K (.ref t.Gx) (.ref t.BL)=some true
 AbX:Meth K t.Gx "wide" t.BW
 AbY:Meth K t.Gx "high" t.BX
 AbZ:Meth K t.Gx "sign" t.BZ
 Aat:Meth K t.Gx "cloth" t.Bw
 Aca:Meth K t.Gx "told" t.Ca
 Aia:mg "Blocks" = some (.ref t.DQ)
 Zv:L2.Own K t.DQ t.HJ
 Pq:Cg K t.DQ "texts"
 Le:Cg K t.DQ "writing"
 Ago:Isa K t.DQ
 Agp:W.kitOne K (.ref t.DQ) (.ref t.BL)=some true
 Zw:Meth K t.DQ "wide" t.BW
 Zx:Meth K t.DQ "high" t.BX
 Zy:Meth K t.DQ "sign" t.BZ
 Xo:Meth K t.DQ "cloth" t.Bw
 Zz:Meth K t.DQ "told" t.Ca
 AmS:mg "Lay" = some (.ref t.JD)
 Aib:L2.Own K t.JD t.Kl
 U9:Cg K t.JD "texts"
 QF:Cg K t.JD "writing"
 Al5:Isa K t.JD
 Al6:W.kitOne K (.ref t.JD) (.ref t.BL)=some true
 Adn:Meth K t.JD "wide" t.BW
 Ado:Meth K t.JD "high" t.BX
 Adp:Meth K t.JD "sign" t.BZ
 Acb:Meth K t.JD "cloth" t.Bw
 Adq:Meth K t.JD "told" t.Ca
 Aic:mg "Reader" = some (.ref t.Ck)
 Bm:L2.Own K t.Ck t.HN
 Fg:Cg K t.Ck "text"
 CT:Cg K t.Ck "place"
 Fi:Am7 K t.BL "__init__" t.GC
 AjG:mg "WORDS" = some (.ref t.AbI)
 AjH:AmB K t.AbI (["rows", "twill", "satin", "beside", "above", "mirror", "upend", "back", "quarter", "tile", "blocks", "lay"]:List Str)
 Ads:mg "THINGS" = some (.ref t.Uh)
 Adt:Top K t.Uh ([("twill", "nn"),("satin", "nn"),("beside", "pp"),("above", "pp"),("mirror", "p"),("upend", "p"),("back", "p"),("quarter", "p"),("tile", "pnn"),("blocks", "ppp"),("lay", "pp")]:List (Str × Str))
 Bu:Mf K "__init__" "Piece.__init__" Mh ["self", "texts", "writing"] t.BL t.GC t.Mq
 Du:Mf K "wide" "Piece.wide" TY ["self"] t.BL t.BW t.Ui
 Dv:Mf K "high" "Piece.high" Ua ["self"] t.BL t.BX t.Uj
 UG:Mf K "sign" "Piece.sign" Ub ["self", "x", "y"] t.BL t.BZ t.NK
 Bx:Mf K "cloth" "Piece.cloth" RB ["self"] t.BL t.Bw t.Lq
 Ci:Mf K "told" "Piece.told" Uc ["self"] t.BL t.Ca t.Uk
 MJ:Mf K "__init__" "Named.__init__" Mi ["self", "name", "known_cloth"] t.Eu t.Ig t.Mr
 Pr:Mf K "__init__" "Rows.__init__" Jx ["self", "runs"] t.Gw t.Jy t.Ox
 MK:Mf K "__init__" "Twill.__init__" Ie ["self", "over", "under"] t.Ew t.Ih t.Ms
 MN:Mf K "__init__" "Satin.__init__" G9 ["self", "size", "step"] t.Ex t.Ii t.Mt
 Lf:Mf K "__init__" "Beside.__init__" HB ["self", "one", "other"] t.Eg t.HF t.KD
 MP:Mf K "__init__" "Above.__init__" Mj ["self", "one", "other"] t.Fe t.Ij t.Mu
 Lg:Mf K "__init__" "Mirror.__init__" HD ["self", "inner"] t.Eh t.HH t.KH
 MT:Mf K "__init__" "Upend.__init__" Ml ["self", "inner"] t.Ff t.Ik t.Mv
 Pu:Mf K "__init__" "Back.__init__" Ot ["self", "inner"] t.GX t.Jz t.O1
 Kq:Mf K "__init__" "Quarter.__init__" Kf ["self", "inner"] t.Dy t.Hl t.Kh
 Px:Mf K "__init__" "Tile.__init__" Ou ["self", "inner", "across", "along"] t.Gx t.J0 t.O2
 Lh:Mf K "__init__" "Blocks.__init__" K8 ["self", "profile", "one", "other"] t.DQ t.HJ t.KJ
 QG:Mf K "__init__" "Lay.__init__" Qq ["self", "upper", "lower"] t.JD t.Kl t.Qu
 Li:Mf K "__init__" "Reader.__init__" K9 ["self", "text"] t.Ck t.HN t.KN
 G4:Mf K "ended" "Reader.ended" Qs ["self"] t.Ck t.Qv t.Qw
 Cz:Mf K "took" "Reader.took" RC ["self", "wanted"] t.Ck t.RD t.RG
 Al:Mf K "stretch" "Reader.stretch" Mp ["self", "signs"] t.Ck t.Mw t.Mx
 J7:Mf K "number" "Reader.number" Ow ["self"] t.Ck t.O3 t.O4
theorem bl1{fd:FuncData}{ps:List Str}(h:∀ a0:Value,bindArgs fd ⟨[a0],[]⟩=pure (ps.zip [a0]))(us:List Value)(hl:us.length=1):bindArgs fd ⟨us,[]⟩=pure (ps.zip us):=by
 rcases us with _ | ⟨a0,us⟩
 ·cases hl
 rcases us with _ | ⟨b,us⟩
 ·exact h a0
 ·cases hl
theorem bl2{fd:FuncData}{ps:List Str}(h:∀ a0 a1:Value,bindArgs fd ⟨[a0,a1],[]⟩=pure (ps.zip [a0,a1]))(us:List Value)(hl:us.length=2):bindArgs fd ⟨us,[]⟩=pure (ps.zip us):=by
 rcases us with _ | ⟨a0,us⟩
 ·cases hl
 rcases us with _ | ⟨a1,us⟩
 ·cases hl
 rcases us with _ | ⟨b,us⟩
 ·exact h a0 a1
 ·cases hl
theorem bl3{fd:FuncData}{ps:List Str}(h:∀ a0 a1 a2:Value,bindArgs fd ⟨[a0,a1,a2],[]⟩=pure (ps.zip [a0,a1,a2]))(us:List Value)(hl:us.length=3):bindArgs fd ⟨us,[]⟩=pure (ps.zip us):=by
 rcases us with _ | ⟨a0,us⟩
 ·cases hl
 rcases us with _ | ⟨a1,us⟩
 ·cases hl
 rcases us with _ | ⟨a2,us⟩
 ·cases hl
 rcases us with _ | ⟨b,us⟩
 ·exact h a0 a1 a2
 ·cases hl
theorem bl4{fd:FuncData}{ps:List Str}(h:∀ a0 a1 a2 a3:Value,bindArgs fd ⟨[a0,a1,a2,a3],[]⟩=pure (ps.zip [a0,a1,a2,a3]))(us:List Value)(hl:us.length=4):bindArgs fd ⟨us,[]⟩=pure (ps.zip us):=by
 rcases us with _ | ⟨a0,us⟩
 ·cases hl
 rcases us with _ | ⟨a1,us⟩
 ·cases hl
 rcases us with _ | ⟨a2,us⟩
 ·cases hl
 rcases us with _ | ⟨a3,us⟩
 ·cases hl
 rcases us with _ | ⟨b,us⟩
 ·exact h a0 a1 a2 a3
 ·cases hl
section
variable {P:Program}{w:World}{K:W.Frag}{mg:Str->Option Value}{base:Heap}{t:Adr}
def AlR (z:Str):Sp:=λvs H Q _=>∃ v,vs=[v]/\Q (.str z) H
end
seal PE PT PW PA PS PSs PC PG PGs Ama PIp Amd PIE PI PO PEX PSX Aji
section
variable {P:Program}{w:World}{K:W.Frag}{mg:Str->Option Value}{base:Heap}{t:Adr}
def rf (u:List Nat)(p:Nat):List (Str × V):=[("text", .str (tx u)),("place", .int (p:Int))]
def Rd (t:Adr)(H:Hp)(r dx:Addr)(u:List Nat)(p:Nat):Prop:=H r=some (.ins t.Ck dx (rf u p))/\p<=u.length/\u.length<=1000000
theorem UJ(u:List Nat)(p:Nat):(rf u p).lookup ("text" : Str)=some (V.str (tx u)):=rfl
theorem Jm(u:List Nat)(p:Nat):(rf u p).lookup ("place" : Str)=some (V.int (p:Int)):=rfl
theorem Al7(u:List Nat)(p q:Nat):Ni "place" (.int (q:Int)) (rf u p)=rf u q:=rfl
theorem big{n:Nat}(h:n<=1000000):n<=sizeLine:=ApF h (by decide)
def Aid (t:Adr):Sp:=λvs H Q _=>∃ r dx u p,vs=[.ref r]/\Rd t H r dx u p/\Q (.bl (decide (p=u.length))) H
theorem Py(T:Txt K mg t):Br P w K mg base CX0 1 t.Qv t.Qw ["self"] (Aid t):=by
 refine T.G4.F.ok Xh (λvs H Q E h=>?_) (λcdv A outer s H vs Q E hr h=>?_)
 ·obtain⟨r,dx,u,p,rfl,_⟩:=h
  rfl
 ·obtain⟨r,dx,u,p,rfl,⟨hr1,hp,hu⟩,k⟩:=h
  refine⟨_,(Ad (Av (DX Cu (FP (K:=K) (pv 0) rfl) (Az Bo rfl T.Cr Bs (Aa (FP (K:=K) (pv 0) rfl) Ab)) (Am _)))),?_⟩
  refine⟨_,rfl,_,_,_,_,_,rfl,hr1,T.Bm.c,T.CT,Jm u p,?_⟩
  refine⟨_,rfl,_,_,_,_,_,rfl,hr1,T.Bm.c,T.Fg,UJ u p,?_⟩
  refine⟨_,rfl,(by rw[Ai];exact big hu),rfl,?_⟩
  have e:decide (V.int (p:Int)=V.int ((tx u).length:Int))=decide (p=u.length):=by
   rw[Ai]
   apply decide_eq_decide.mpr
   constructor
   ·intro z;injection z with z;lia
   ·intro z;rw[z]
  rw[e]
  exact k
def AjI (t:Adr):Sp:=λvs H Q _=>∃ r dx u p v,vs=[.ref r,.str (tx v)]/\Rd t H r dx u p/\v.length<=100 /\
 ((u.drop p).take v.length=v->Q (.bl true) (upd H r (.ins t.Ck dx (rf u (p+v.length)))))/\((u.drop p).take v.length≠v->Q (.bl false) H)
theorem Afo{u:List Nat}{p n:Nat}(h:p<=u.length):Yp u (some (p:Int)) (some ((p:Int)+(n:Int)))=(u.drop p).take n:=by
 unfold Yp
 rw[show((p:Int)+(n:Int))=((p+n:Nat):Int) by lia,HT.K3,HT.K3,Aqh h]
 by_cases h2:p+n<=u.length
 ·rw[Aqh h2,Nat.add_sub_cancel_left]
 ·rw[Nat.min_eq_right (by lia),ApP (by rw[ApK];lia),ApP (by rw[ApK];lia)]
theorem Fj(T:Txt K mg t):Br P w K mg base CX0 1 t.RD t.RG ["self", "wanted"] (AjI t):=by
 refine T.Cz.F.ok Qt (λvs H Q E h=>?_) (λcdv A outer s H vs Q E hr h=>?_)
 ·obtain⟨r,dx,u,p,v,rfl,_⟩:=h
  rfl
 ·obtain⟨r,dx,u,p,v,rfl,⟨hr1,hp,hu⟩,hv,k1,k2⟩:=h
  refine⟨_,(Ac (Bh (i:=2) Qt.nd rfl (Or.inl rfl) (Ar Fy (FP (K:=K) (pv 0) rfl) (Az Bo rfl T.Cr Bs (Aa (pv 1) Ab))))
   (Ac (Bj (Aj Jg (Hf Yq (FP (K:=K) (pv 0) rfl) (Hh (FP (K:=K) (pv 0) rfl)) (Hh (pv 2))) (pv 1) (Am _))
    (Ad (Av PL))
    An)
   (Ac (Tr (K:=K) (pv 0) (pv 2))
   (Ad (Av PL))))),?_⟩
  refine⟨_,rfl,_,_,_,_,_,rfl,hr1,T.Bm.c,T.CT,Jm u p,_,rfl,_,rfl,(by rw[Ai];exact big (by lia)),_,_,rfl,rfl,?_⟩
  rw[Ai]
  refine⟨_,rfl,_,_,_,_,_,rfl,hr1,T.Bm.c,T.Fg,UJ u p,?_⟩
  refine⟨_,rfl,_,_,_,_,_,rfl,hr1,T.Bm.c,T.CT,Jm u p,_,rfl,_,rfl,_,rfl,u,rfl,big hu,_,rfl,rfl,_,rfl,?_⟩
  rw[Afo hp]
  by_cases hc:(u.drop p).take v.length=v
  ·refine JT (by rw[hc]) ?_
   refine⟨_,rfl,_,rfl,_,_,_,_,rfl,hr1,T.Bm.c,T.CT,(by show 2<1000;decide),?_⟩
   show Q (.bl true) (upd H r (.ins t.Ck dx (Ni ("place" : Str) (.int ((p:Int)+(v.length:Int))) (rf u p))))
   rw[show((p:Int)+(v.length:Int))=((p+v.length:Nat):Int) by lia,Al7]
   exact k1 hc
  ·refine AcF (λz=>hc (by injection z with z;exact Jp z)) ?_
   exact k2 hc
def dg (c:Nat):Bool:=decide (48<=c/\c<=57)
def Apj (l:List Nat):List Nat:=l.takeWhile dg
def Aie (v:List Nat):V:=if (1<=v.length/\v.length<=2)/\¬(v.length=2/\v[0]?=some 48) then .int ((PySem.NumText.digitsVal v:Nat):Int) else .non
theorem Aif{H:Hp}{r:Addr}{o:HO}(h:H r=some o):upd H r o=H:=by
 funext b
 unfold upd
 split
 next e=>rw[e,h]
 next=>rfl
theorem z48(c:Nat):(V.str ⟨#[c]⟩:V)=V.str "0" ↔ c=48:=by
 have e:(("0" : Str))=tx [48]:=by decide +kernel
 rw[e]
 exact⟨λz=>by injection z with z;exact(List.cons.inj (Jp (a:=[c]) (b:=[48]) z)).1,λz=>by rw[z];rfl⟩
def Aig:Sp:=λvs H Q _=>∃ v:List Nat,vs=[.str (tx v)]/\(∀ c∈v,48<=c/\c<=57)/\v.length<=1000000/\Q (Aie v) H
theorem Acd(T:Txt K mg t):Br P w K mg base CX0 1 t.W8 t.W9 ["figures"] Aig:=by
 refine T.Ri.F.ok AbF (λvs H Q E h=>?_) (λcdv A outer s H vs Q E hr h=>?_)
 ·obtain⟨v,rfl,_⟩:=h
  rfl
 ·obtain⟨v,rfl,hd,hl,k⟩:=h
  have sz:(tx v).length<=sizeLine:=by rw[Ai];exact big hl
  refine⟨_,(Ac (Bj (PW.pt (pw_or (Aj Kz (Az Bo rfl T.Cr Bs (Aa (pv 0) Ab)) Ag (Am _)) (pw_or1 (Aj Ht (Az Bo rfl T.Cr Bs (Aa (pv 0) Ab)) Ag (Am _)))))
    (Ad (Av Sy))
    An)
   (Ac (Bj (PW.pt (pw_and (Aj Cu (Az Bo rfl T.Cr Bs (Aa (pv 0) Ab)) Ag (Am _)) (pw_and1 (Aj Cu (Bf Jo (pv 0) Ag (λ_ _=>rfl)) Af (Am _)))))
    (Ad (Av Sy))
    An)
   (Ad (Av (Cm AfK rfl T.Aba V0 (Aa (pv 0) Ab)))))),?_⟩
  unfold Aie at k
  refine⟨_,rfl,_,rfl,sz,_,_,rfl,rfl,_,rfl,?_⟩
  rw[Ai]
  refine Dk (λc1=>?_) (λc1=>?_)
  ·refine Gq ?_
   rw[if_neg (by lia)] at k
   exact k
  ·refine⟨_,rfl,_,rfl,sz,_,_,rfl,rfl,_,rfl,?_⟩
   rw[Ai]
   refine Dk (λc2=>?_) (λc2=>?_)
   ·rw[if_neg (by lia)] at k
    exact k
   ·refine⟨_,rfl,_,rfl,sz,rfl,_,rfl,?_⟩
    rw[Ai]
    have fin:¬(v.length=2/\v[0]?=some 48)->∃ z n,[V.str (tx v)]=[V.str z]/\PySem.intText? z=some n/\z.length<=640/\Q (.int n) H:=λc3=>by
     rw[if_pos ⟨by lia,c3⟩] at k
     refine⟨tx v,_,rfl,PySem.intText_digits (x:=tx v) (by rw[Et];exact hd) (by rw[Et];intro z;rw[z] at c1;simp at c1) (by rw[Ai];lia),by rw[Ai];lia,?_⟩
     rw[Et]
     exact k
    refine Dk (λc3=>?_) (λc3=>?_)
    ·have l2:v.length=2:=by injection c3 with c3;lia
     have h0:0<v.length:=by lia
     refine⟨_,rfl,_,_,v[0],rfl,rfl,sz,Cj (by decide) (by rw[Et];exact Apu h0),rfl,_,rfl,?_⟩
     refine Dk (λc4=>?_) (λc4=>?_)
     ·rw[if_neg (λz=>z.2 ⟨l2,by rw[Apu h0,(z48 _).mp c4]⟩)] at k
      exact k
     ·exact⟨_,rfl,fin λz=>c4 ((z48 _).mpr (by have:=z.2;rw[Apu h0] at this;exact Option.some.inj this))⟩
    ·exact Hu ⟨_,rfl,fin λz=>c3 (by rw[z.1];rfl)⟩
theorem Ep(u:List Nat)(p:Nat):(rf u p).lookup ("ended" : Str)=none/\(rf u p).lookup ("took" : Str)=none/\(rf u p).lookup ("number" : Str)=none/\(rf u p).lookup ("stretch" : Str)=none:=⟨rfl,rfl,rfl,rfl⟩
def An0:Sp:=λvs H Q _=>∃(C r dx:Addr) (u:List Nat),vs=[.ref r,.str (tx u)]/\H r=some (.ins C dx [])/\Q .non (upd H r (.ins C dx (rf u 0)))
theorem Tc(T:Txt K mg t):Br P w K mg base CX0 1 t.HN t.KN ["self", "text"] (λvs H Q E=>∃(r dx:Addr) (u:List Nat),vs=[.ref r,.str (tx u)]/\H r=some (.ins t.Ck dx [])/\Q .non (upd H r (.ins t.Ck dx (rf u 0)))):=by
 refine T.Li.F.ok SM (λvs H Q E h=>?_) (λcdv A outer s H vs Q E hr h=>?_)
 ·obtain⟨r,dx,u,rfl,_⟩:=h
  rfl
 ·obtain⟨r,dx,u,rfl,h1,k⟩:=h
  refine⟨_,(Ac (Tr (K:=K) (pv 0) (pv 1))
   (Ad (Tr (K:=K) (pv 0) Ag))),?_⟩
  refine⟨_,rfl,_,rfl,_,_,_,_,rfl,h1,T.Bm.c,T.Fg,(by decide),?_⟩
  refine⟨_,rfl,_,_,_,_,rfl,Ae,T.Bm.c,T.CT,(by show 1<1000;decide),?_⟩
  rw[G5]
  exact k
def stp (sg l:List Nat):List Nat:=l.takeWhile λc=>decide (c∈sg)
theorem Aih{sg:List Nat}:∀(l:List Nat) (n:Nat),n<=l.length->(∀ c∈l.take n,c∈sg)->(∀ c,l[n]?=some c->c∉sg)->stp sg l=l.take n
 | [],n,h,_,_=>by simp[stp]
 | c::l,0,_,_,h2=>by
  unfold stp
  rw[Aqo,if_neg (by rw[decide_eq_true_eq];exact h2 c rfl)]
  rfl
 | c::l,n+1,h,h1,h2=>by
  have hc:c∈sg:=h1 c (by simp)
  have:=Aih (sg:=sg) l n (by simpa using h) (λd hd=>h1 d (by rw[List.take_succ_cons];exact Ap7 _ hd)) (λd hd=>h2 d (by simpa using hd))
  unfold stp at this ⊢
  rw[Aqo,if_pos (decide_eq_true hc),this,List.take_succ_cons]
theorem Afp(sg:List Nat):∀(l:List Nat),(∀ c∈stp sg l,c∈sg)/\(stp sg l).length<=l.length
 | []=>⟨λc hc=>(by cases hc),Apv _⟩
 | a::l=>by
  have ih:=Afp sg l
  unfold stp at ih ⊢
  rw[Aqo]
  by_cases h:a∈sg
  ·rw[if_pos (decide_eq_true h)]
   refine⟨λc hc=>?_,by simp only [Apt];lia⟩
   rcases List.mem_cons.mp hc with e | e
   ·rw[e];exact h
   ·exact ih.1 c e
  ·rw[if_neg (by rw[decide_eq_true_eq];exact h)]
   exact⟨λc hc=>(by cases hc),Ap8 _⟩
theorem Z0(sg:List Nat)(c:Nat):(!(Builtin.Str.occurrences (tx sg) ⟨#[c]⟩ 0 (tx sg).length 1).isEmpty)=decide (c∈sg):=by
 rw[StrLaws.found_one,Et]
def Aex (t:Adr):Sp:=λvs H Q _=>∃ r dx u p sg,vs=[.ref r,.str (tx sg)]/\Rd t H r dx u p/\sg.length<=1000/\Q (.str (tx (stp sg (u.drop p)))) (upd H r (.ins t.Ck dx (rf u (p+(stp sg (u.drop p)).length))))
theorem Bp(T:Txt K mg t):Br P w K mg base CX0 2 t.Mw t.Mx ["self", "signs"] (Aex t):=by
 refine T.Al.F.ok KC (λvs H Q E h=>?_) (λcdv A outer s H vs Q E hr h=>?_)
 ·obtain⟨r,dx,u,p,sg,rfl,_⟩:=h
  rfl
 ·obtain⟨r,dx,u,p,sg,rfl,⟨hr1,hp,hu⟩,hsg,k⟩:=h
  refine⟨_,(Ac (Bh (i:=2) KC.nd rfl (Or.inl rfl) (FP (K:=K) (pv 0) rfl))
   (Ac (Ac2 PassesOwn.never (PW.pt (pw_and (Hj (Gn (XS (pv 0) T.Bm.c T.G4.m ((Py T).mono (by decide)) hr T.G4.b .nil Ak))) (pw_and1 (Aj Vu (Bf Jo (FP (K:=K) (pv 0) rfl) (FP (K:=K) (pv 0) rfl) (λ_ _=>rfl)) (pv 1) rfl))))
    (Ad (AdU (K:=K) (pv 0) Ag AkO)))
   (Ad (Av (Hf Yq (FP (K:=K) (pv 0) rfl) (Hh (pv 2)) (Hh (FP (K:=K) (pv 0) rfl))))))),?_⟩
  refine⟨_,rfl,_,_,_,_,_,rfl,hr1,T.Bm.c,T.CT,Jm u p,?_⟩
  refine⟨λm σ H2=>∃ n,σ=[some (.ref r),some (.str (tx sg)),some (.int (p:Int))]/\H2=upd H r (.ins t.Ck dx (rf u (p+n)))/\p+n<=u.length/\(∀ c∈(u.drop p).take n,c∈sg)/\m=u.length-(p+n),
   ⟨_,0,rfl,(Aif hr1).symm,hp,(λc hc=>by simp at hc),rfl⟩,?_⟩
  rintro m σ H2 ⟨n,rfl,rfl,hn,ha,rfl⟩
  have hS:(upd H r (.ins t.Ck dx (rf u (p+n)))) r=some (.ins t.Ck dx (rf u (p+n))):=Ae
  have done:(∀ c,(u.drop p)[n]?=some c->c∉sg)->(u.drop p).take n=stp sg (u.drop p):=λhs=>(Aih _ n (by rw[ApK];lia) ha hs).symm
  have ln:((u.drop p).take n).length=n:=by rw[Ap2,ApK];lia
  have e3:Yp u (some (p:Int)) (some ((p+n:Nat):Int))=(u.drop p).take n:=by rw[Int.natCast_add];exact Afo hp
  have fin:(u.drop p).take n=stp sg (u.drop p)->Q (.str (tx (Yp u (some (p:Int)) (some ((p+n:Nat):Int))))) (upd H r (.ins t.Ck dx (rf u (p+n)))):=λe2=>by
   have e1:(stp sg (u.drop p)).length=n:=by rw[<- e2,ln]
   rw[e3,e2];rw[e1] at k;exact k
  refine⟨_,rfl,r,dx,rf u (p+n),rfl,hS,(Ep u _).1,r,dx,u,p+n,rfl,⟨hS,hn,hu⟩,_,rfl,?_⟩
  by_cases c1:p+n=u.length
  ·rw[decide_eq_true c1]
   refine Hu ?_
   refine Hu ?_
   exact⟨_,rfl,_,_,_,_,_,rfl,hS,T.Bm.c,T.Fg,UJ u _,_,rfl,_,rfl,_,rfl,_,_,_,_,_,rfl,hS,T.Bm.c,T.CT,Jm u _,_,rfl,u,rfl,big hu,
    fin (done λc hc=>by rw[ApY (by rw[ApK];lia)] at hc;cases hc)⟩
  ·rw[decide_eq_false c1]
   refine Gq ?_
   have hlt:p+n<u.length:=by lia
   refine⟨_,rfl,_,_,_,_,_,rfl,hS,T.Bm.c,T.Fg,UJ u _,_,rfl,_,_,_,_,_,rfl,hS,T.Bm.c,T.CT,Jm u _,_,_,u[p+n],rfl,rfl,(by rw[Ai];exact big hu),
    Cj (by lia) (by rw[Ap1,Et];exact Apu hlt),_,rfl,_,_,rfl,rfl,_,rfl,?_⟩
   rw[Z0]
   refine Dk (λc2=>?_) (λc2=>?_)
   ·refine⟨_,λσ' H' h=>h,?_⟩
    refine⟨_,rfl,_,_,_,_,_,rfl,hS,T.Bm.c,T.CT,Jm u _,_,_,rfl,rfl,dx,rf u (p+n),hS,(by show 2<1000;decide),?_⟩
    refine⟨u.length-(p+(n+1)),by lia,n+1,rfl,?_,by lia,λc hc=>?_,rfl⟩
    ·rw[G5]
     rfl
    ·rw[Ap4,AqJ,Apu hlt] at hc
     rcases List.mem_append.mp hc with h | h
     ·exact ha c h
     ·rw[show c=u[p+n] by simpa using h]
      exact c2
   ·exact⟨_,rfl,_,_,_,_,_,rfl,hS,T.Bm.c,T.Fg,UJ u _,_,rfl,_,rfl,_,rfl,_,_,_,_,_,rfl,hS,T.Bm.c,T.CT,Jm u _,_,rfl,u,rfl,big hu,
     fin (done λc hc=>by rw[AqJ,Apu hlt] at hc;cases hc;exact c2)⟩
def Adu:List Nat:=[48,49,50,51,52,53,54,55,56,57]
theorem Al8:(("0123456789" : Str))=tx Adu:=by decide +kernel
theorem Adv{c:Nat}:c∈Adu↔48<=c/\c<=57:=by
 rw[show Adu=List.range' 48 10 from rfl,List.mem_range'_1]
 lia
def Agq (t:Adr):Sp:=λvs H Q _=>∃ r dx u p,vs=[.ref r]/\Rd t H r dx u p/\Q (Aie (stp Adu (u.drop p))) (upd H r (.ins t.Ck dx (rf u (p+(stp Adu (u.drop p)).length))))
theorem Wb(T:Txt K mg t):Br P w K mg base CX0 3 t.O3 t.O4 ["self"] (Agq t):=by
 refine T.J7.F.ok VH (λvs H Q E h=>?_) (λcdv A outer s H vs Q E hr h=>?_)
 ·obtain⟨r,dx,u,p,rfl,_⟩:=h
  rfl
 ·obtain⟨r,dx,u,p,rfl,hR,k⟩:=h
  refine⟨_,(Ad (Av (Aq ((Acd T).mono (by decide)) hr rfl T.Ri.m T.Ri.F.kp T.Ri.b .nil Ak (Aa (DN (pv 0) T.Bm.c T.Al.m ((Bp T).mono (by decide)) hr T.Al.b .nil Ak (Aa (Ce (v:=.str "0123456789") rfl T.Agh.choose_spec ⟨_,rfl⟩) Ab)) Ab)))),?_⟩
  have hf:=Afp Adu (u.drop p)
  refine⟨_,rfl,r,dx,rf u p,rfl,hR.1,(Ep u p).2.2.2,r,dx,u,p,Adu,(by rw[Al8];rfl),hR,(by decide),?_⟩
  exact⟨_,rfl,λc hc=>Adv.mp (hf.1 c hc),by have:=hR.2.2;have:=hf.2;rw[ApK] at this;lia,k⟩
def DR (r:Addr)(H H':Hp):Prop:=∀ b o,b≠r->H b=some o->H' b=some o
theorem DR.trans{r:Addr}{H H1 H2:Hp}(a:DR r H H1)(b:DR r H1 H2):DR r H H2:=λc o n e=>b c o n (a c o n e)
theorem DR.upd{r:Addr}{H:Hp}{o:HO}:DR r H (L2.upd H r o):=λb o' n e=>by rw[Ao n];exact e
def GD (t:Adr)(H:Hp)(r dx:Addr)(u:List Nat)(p:Nat):Hp:=upd H r (.ins t.Ck dx (rf u p))
theorem QH{H:Hp}{r dx:Addr}{u:List Nat}{p q:Nat}(h:Rd t H r dx u p)(hq:q<=u.length):Rd t (GD t H r dx u q) r dx u q:=⟨Ae,hq,h.2.2⟩
theorem Afq(f:Nat->Bool):∀ l:List Nat,l.drop (l.takeWhile f).length=l.dropWhile f
 | []=>rfl
 | a::l=>by
  rw[Aqo,AqO]
  by_cases h:f a=true
  ·rw[if_pos h,if_pos h,Apt,List.drop_succ_cons]
   exact Afq f l
  ·rw[if_neg h,if_neg h]
   rfl
theorem Kr{sg:List Nat}{f:Nat->Bool}(h:∀ c,decide (c∈sg)=f c)(l:List Nat):stp sg l=l.takeWhile f:=by
 unfold stp
 rw[show(λc=>decide (c∈sg))=f from funext h]
theorem Al9(c:Nat):decide (c∈Adu)=Pat.Ge c:=decide_eq_decide.mpr Adv
theorem WY(c:Nat):decide (c∈[32])=decide (c=32):=decide_eq_decide.mpr List.mem_singleton
theorem QJ:((" " : Str))=tx [32]:=by decide +kernel
theorem behind{u:List Nat}{p:Nat}(f:Nat->Bool)(hp:p<=u.length):u.drop (p+((u.drop p).takeWhile f).length)=(u.drop p).dropWhile f/\p+((u.drop p).takeWhile f).length<=u.length:=by
 refine⟨by rw[<- List.drop_drop,Afq],?_⟩
 have h:=(List.takeWhile_prefix f (l:=u.drop p)).length_le
 rw[ApK] at h
 lia
theorem Abd{f:List Nat}:Pat.Yx f=true↔((1<=f.length/\f.length<=2)/\¬(f.length=2/\f[0]?=some 48)):=by unfold Pat.Yx;exact decide_eq_true_iff
def AjJ (t:Adr):Sp:=λvs H Q E=>∃ r dx u p,vs=[.ref r]/\Rd t H r dx u p /\
 (∀ n l p',Pat.num (u.drop p)=some (n,l)->p<=p'->p'<=u.length->u.drop p'=l->Q (.int ((n:Nat):Int)) (GD t H r dx u p'))/\(Pat.num (u.drop p)=none->∀ H',DR r H H'->E (.ref t.By) none H')
theorem Xp(T:Txt K mg t):Br P w K mg base (CX1 P w) 4 t.RL t.RM ["reader"] (AjJ t):=by
 refine T.KR.F.okX Qo (λvs H Q E h=>?_) (λcdv A outer s H vs Q E hr h=>?_)
 ·obtain⟨r,dx,u,p,rfl,_⟩:=h
  rfl
 ·obtain⟨r,dx,u,p,rfl,hR,k1,k2⟩:=h
  refine⟨_,(Ac (Bh (i:=1) Qo.nd rfl (Or.inl rfl) (XS (pv 0) T.Bm.c T.J7.m ((Wb T).mono (by decide)) hr T.J7.b .nil Ak))
   (Ac (Bj (Aj AgJ (pv 1) Sy (Am _))
    (Ad (CQ Fp rfl (λ_ _ z=>z) F.excBase_ValueError El F.excBase_ValueError T.BP.q rfl T.BR (Aa Af Ab)))
    An)
   (Ac (Bl (DN (pv 0) T.Bm.c T.Al.m ((Bp T).mono (by decide)) hr T.Al.b .nil Ak (Aa Af Ab)))
   (Ad (Av (pv 1)))))),?_⟩
  refine⟨_,rfl,r,dx,rf u p,rfl,hR.1,(Ep u p).2.2.1,r,dx,u,p,rfl,hR,?_⟩
  show ∃ _,_
  rw[Kr Al9]
  have b1:=behind Pat.Ge hR.2.1
  unfold Pat.num at k1 k2
  by_cases c:Pat.Yx ((u.drop p).takeWhile Pat.Ge)=true
  ·rw[if_pos c] at k1
   rw[show Aie ((u.drop p).takeWhile Pat.Ge)=.int ((PySem.NumText.digitsVal ((u.drop p).takeWhile Pat.Ge):Nat):Int) from if_pos (Abd.mp c)]
   refine⟨_,rfl,rfl,_,rfl,?_⟩
   refine Dc (λz=>nomatch z) ?_
   have hR2:=QH hR b1.2
   refine⟨_,rfl,r,dx,rf u _,rfl,hR2.1,(Ep u _).2.2.2,r,dx,u,_,[32],(by rw[QJ];rfl),hR2,(by decide),?_⟩
   rw[Kr WY,G5]
   have b2:=behind (λc=>decide (c=32)) b1.2
   show ∃ _,_
   refine⟨_,rfl,?_⟩
   exact k1 _ _ _ rfl (by lia) b2.2 (by rw[b2.1,b1.1];rfl)
  ·rw[if_neg c] at k2
   rw[show Aie ((u.drop p).takeWhile Pat.Ge)=.non from if_neg λz=>c (Abd.mpr z)]
   refine⟨_,rfl,rfl,_,rfl,?_⟩
   refine Ec rfl ?_
   exact⟨by decide,k2 rfl _ DR.upd⟩
theorem Io:(("," : Str))=tx [44]:=by decide +kernel
theorem UT{c a:Nat}{v:List Nat}:Pat.one c (a::v)=if a=c then some v else none:=rfl
theorem QK{u:List Nat}{p c:Nat}:(u.drop p).take [c].length=[c]↔∃ l,Pat.one c (u.drop p)=some l:=by
 cases e:u.drop p with
 | nil=>exact⟨λz=>by simp at z,λ⟨l,z⟩=>by simp[Pat.one] at z⟩
 | cons a v =>
  constructor
  ·intro z
   have h:a=c:=by simpa using z
   exact⟨v,by rw[UT,if_pos h]⟩
  ·rintro⟨l,z⟩
   rw[UT] at z
   by_cases h:a=c
   ·rw[h];rfl
   ·rw[if_neg h] at z;cases z
theorem UW{u l:List Nat}{p c:Nat}(h:Pat.one c (u.drop p)=some l):u.drop (p+[c].length)=l/\p+[c].length<=u.length:=by
 cases e:u.drop p with
 | nil=>rw[e] at h;simp[Pat.one] at h
 | cons a v =>
  rw[e] at h
  rw[UT] at h
  by_cases ha:a=c
  ·rw[if_pos ha] at h
   have hl:=congrArg List.length e
   rw[ApK,Apt] at hl
   refine⟨?_,by simp only [Apt,Apz];lia⟩
   rw[<- List.drop_drop,e]
   exact Option.some.inj h
  ·rw[if_neg ha] at h;cases h
theorem Va{u:List Nat}{p c:Nat}(h:(u.drop p).take [c].length≠[c]):Pat.one c (u.drop p)=none:=by
 cases e:Pat.one c (u.drop p) with
 | none=>rfl
 | some l=>exact absurd (QK.mpr ⟨l,e⟩) h
def Agr (t:Adr):Sp:=λvs H Q E=>∃ r dx u p,vs=[.ref r]/\Rd t H r dx u p /\
 (∀ l p',Pat.comma (u.drop p)=some l->p<=p'->p'<=u.length->u.drop p'=l->Q .non (GD t H r dx u p'))/\(Pat.comma (u.drop p)=none->∀ H',DR r H H'->E (.ref t.By) none H')
theorem Z1(T:Txt K mg t):Br P w K mg base (CX1 P w) 3 t.Uu t.Uv ["reader"] (Agr t):=by
 refine T.Od.F.okX ZM (λvs H Q E h=>?_) (λcdv A outer s H vs Q E hr h=>?_)
 ·obtain⟨r,dx,u,p,rfl,_⟩:=h
  rfl
 ·obtain⟨r,dx,u,p,rfl,hR,k1,k2⟩:=h
  refine⟨_,(Ac (Bj (Hj (Gn (DN (pv 0) T.Bm.c T.Cz.m ((Fj T).mono (by decide)) hr T.Cz.b .nil Ak (Aa Af Ab))))
    (Ad (CQ Fp rfl (λ_ _ z=>z) F.excBase_ValueError El F.excBase_ValueError T.BP.q rfl T.BR (Aa Af Ab)))
    An)
   (Ad (Bl (DN (pv 0) T.Bm.c T.Al.m ((Bp T).mono (by decide)) hr T.Al.b .nil Ak (Aa Af Ab))))),?_⟩
  unfold Pat.comma at k1 k2
  refine⟨_,rfl,r,dx,rf u p,rfl,hR.1,(Ep u p).2.1,r,dx,u,p,[44],(by rw[Io];rfl),hR,(by decide),λAii=>?_,λhno=>?_⟩
  ·obtain⟨l,e⟩:=QK.mp Aii
   have d:=UW e
   have hR2:=QH hR d.2
   refine⟨_,rfl,?_⟩
   refine Hu ?_
   refine⟨_,rfl,r,dx,rf u _,rfl,hR2.1,(Ep u _).2.2.2,r,dx,u,_,[32],(by rw[QJ];rfl),hR2,(by decide),?_⟩
   rw[Kr WY,G5]
   have b2:=behind (λc=>decide (c=32)) d.2
   rw[e] at k1
   exact k1 _ _ rfl (by lia) b2.2 (by rw[b2.1,d.1];rfl)
  ·refine⟨_,rfl,?_⟩
   refine Gq ?_
   exact⟨by decide,k2 (by rw[Va hno];rfl) _ (λb o _ e=>e)⟩
theorem AjK:(("#." : Str))=tx [35,46]:=by decide +kernel
theorem AjL(c:Nat):decide (c∈[35,46])=Pat.knot c:=decide_eq_decide.mpr (by simp only [ApA,ApB,or_false])
def AjM (t:Adr):Sp:=λvs H Q E=>∃ r dx u p,vs=[.ref r]/\Rd t H r dx u p /\
 (∀ z l p',Pat.run (u.drop p)=some (z,l)->p<p'->p'<=u.length->u.drop p'=l->Q (.str (tx z)) (GD t H r dx u p'))/\(Pat.run (u.drop p)=none->∀ H',DR r H H'->E (.ref t.By) none H')
theorem Vb(T:Txt K mg t):Br P w K mg base (CX1 P w) 3 t.YM t.YQ ["reader"] (AjM t):=by
 refine T.Km.F.okX Ww (λvs H Q E h=>?_) (λcdv A outer s H vs Q E hr h=>?_)
 ·obtain⟨r,dx,u,p,rfl,_⟩:=h
  rfl
 ·obtain⟨r,dx,u,p,rfl,hR,k1,k2⟩:=h
  refine⟨_,(Ac (Bh (i:=1) Ww.nd rfl (Or.inl rfl) (DN (pv 0) T.Bm.c T.Al.m ((Bp T).mono (by decide)) hr T.Al.b .nil Ak (Aa Af Ab)))
   (Ac (Bj (Aj Cu (pv 1) Af (Am _))
    (Ad (CQ Fp rfl (λ_ _ z=>z) F.excBase_ValueError El F.excBase_ValueError T.BP.q rfl T.BR (Aa Af Ab)))
    An)
   (Ac (Bl (DN (pv 0) T.Bm.c T.Al.m ((Bp T).mono (by decide)) hr T.Al.b .nil Ak (Aa Af Ab)))
   (Ad (Av (pv 1)))))),?_⟩
  unfold Pat.run at k1 k2
  have b1:=behind Pat.knot hR.2.1
  refine⟨_,rfl,r,dx,rf u p,rfl,hR.1,(Ep u p).2.2.2,r,dx,u,p,[35,46],(by rw[AjK];rfl),hR,(by decide),?_⟩
  rw[Kr AjL]
  refine⟨_,rfl,rfl,_,rfl,?_⟩
  by_cases c:(u.drop p).takeWhile Pat.knot=[]
  ·rw[if_pos c] at k2
   refine Ec (by rw[c];decide +kernel) ?_
   exact⟨by decide,k2 rfl _ DR.upd⟩
  ·rw[if_neg c] at k1
   have hR2:=QH hR b1.2
   refine Dc (λz=>c ?_) ?_
   ·have e:(("" : Str))=tx []:=by decide +kernel
    rw[e] at z
    injection z with z
    exact Jp z
   refine⟨_,rfl,r,dx,rf u _,rfl,hR2.1,(Ep u _).2.2.2,r,dx,u,_,[32],(by rw[QJ];rfl),hR2,(by decide),?_⟩
   rw[Kr WY,G5]
   have b2:=behind (λc=>decide (c=32)) b1.2
   have l0:0<((u.drop p).takeWhile Pat.knot).length:=List.length_pos_iff.mpr c
   refine⟨_,rfl,?_⟩
   exact k1 _ _ _ rfl (by lia) b2.2 (by rw[b2.1,b1.1];rfl)
theorem Aij(l:List Nat):(Pat.sk l).length<=l.length:=(AqM _).length_le
theorem Aik{c:Nat}{l l1:List Nat}(h:Pat.one c l=some l1):l1.length<l.length:=by
 cases l with
 | nil=>simp[Pat.one] at h
 | cons a v =>
  rw[UT] at h
  by_cases ha:a=c
  ·rw[if_pos ha] at h
   rw[<- Option.some.inj h,Apt]
   lia
  ·rw[if_neg ha] at h;cases h
theorem Ail{l z l2:List Nat}(h:Pat.run l=some (z,l2)):l2.length<=l.length:=by
 unfold Pat.run at h
 split at h
 ·cases h
 ·injection h with h
  injection h with _ h
  rw[<- h]
  exact ApF (Aij _) (AqM _).length_le
theorem Abe:∀(k k':Nat) (l:List Nat),l.length<k->l.length<k'->Pat.Ef k l=Pat.Ef k' l
 | 0,_,_,h,_=>by lia
 | _+1,0,_,_,h=>by lia
 | k+1,k'+1,l,h1,h2=>by
  unfold Pat.Ef
  cases e:Pat.one 44 l with
  | none=>rfl
  | some l1 =>
   cases e2:Pat.run (Pat.sk l1) with
   | none=>simp only [e2]
   | some q =>
    obtain⟨z,l2⟩:=q
    have a:=Aik e
    have b:=Ail e2
    have c:=Aij l1
    simp only [e2]
    rw[Abe k k' l2 (by lia) (by lia)]
def more(l:List Nat):Option (List (List Nat) × List Nat):=Pat.Ef (l.length+1) l
theorem Aim{l:List Nat}(h:Pat.one 44 l=none):more l=some ([],l):=by
 unfold more Pat.Ef
 rw[h]
theorem Ain{l l1:List Nat}(h:Pat.one 44 l=some l1)(h2:Pat.run (Pat.sk l1)=none):more l=none:=by
 unfold more Pat.Ef
 rw[h]
 simp only [h2]
theorem Ags{l l1 z l2:List Nat}(h:Pat.one 44 l=some l1)(h2:Pat.run (Pat.sk l1)=some (z,l2)):more l=(more l2).map λp=>(z::p.1,p.2):=by
 have a:=Aik h
 have b:=Ail h2
 have c:=Aij l1
 unfold more
 rw[Abe (l2.length+1) l.length l2 (by lia) (by lia)]
 conv=>lhs;unfold Pat.Ef
 rw[h]
 simp only [h2]
def Ss (done:List (List Nat))(l:List Nat):Option (List (List Nat) × List Nat):=match more l with
 | none=>none
 | some (rs,l2)=>if (done++rs).length>40 then none else some (done++rs,l2)
theorem Ab6{l z l1:List Nat}(h:Pat.run l=some (z,l1)):Pat.runs l=Ss [z] l1:=by
 unfold Pat.runs Ss more
 rw[h]
 rfl
theorem Aio{done:List (List Nat)}{l l1 z l2:List Nat}(h:Pat.one 44 l=some l1)(h2:Pat.run (Pat.sk l1)=some (z,l2)):Ss done l=Ss (done++[z]) l2:=by
 unfold Ss
 rw[Ags h h2]
 cases more l2 with
 | none=>rfl
 | some q =>
  obtain⟨rs,l3⟩:=q
  simp only [Option.map_some,ApN,List.singleton_append]
def Aip (t:Adr):Sp:=λvs H Q E=>∃ r dx u p,vs=[.ref r]/\Rd t H r dx u p /\
 (∀ zs l p' q,Pat.runs (u.drop p)=some (zs,l)->p<=p'->p'<=u.length->u.drop p'=l->H q=none->q≠r->Q (.ref q) (upd (GD t H r dx u p') q (.lst (vS zs))))/\(Pat.runs (u.drop p)=none->∀ H',DR r H H'->E (.ref t.By) none H')
theorem swp{H:Hp}{r dx q:Addr}{u:List Nat}{p1 p2:Nat}{o:HO}(h:q≠r):upd (upd (GD t H r dx u p1) q o) r (.ins t.Ck dx (rf u p2))=upd (GD t H r dx u p2) q o:=by
 funext b
 show upd (upd (upd H r _) q _) r _ b=upd (upd H r _) q _ b
 by_cases e1:b=r
 ·rw[e1,Ae,Ao h.symm,Ae]
 ·by_cases e2:b=q
  ·rw[e2,Ao h,Ae,Ae]
  ·rw[Ao e1,Ao e2,Ao e1,Ao e2,Ao e1]
theorem Aau(T:Txt K mg t):Br P w K mg base (CX1 P w) 4 t.WD t.WK ["reader"] (Aip t):=by
 refine T.Rj.F.okX TF (λvs H Q E h=>?_) (λcdv A outer s H vs Q E hr h=>?_)
 ·obtain⟨r,dx,u,p,rfl,_⟩:=h
  rfl
 ·obtain⟨r,dx,u,p,rfl,hR,k1,k2⟩:=h
  refine⟨_,(Ac (Bh (i:=1) TF.nd rfl (Or.inl rfl) (BV (Aa (Aq ((Vb T).mono (by decide)) hr rfl T.Km.m T.Km.F.kp T.Km.b .nil Ej (Aa (pv 0) Ab)) Ab)))
   (Ac (Aku λhfr=>(Ac2 (Am4 Fp hfr) (Gn (DN (pv 0) T.Bm.c T.Cz.m ((Fj T).mono (by decide)) hr T.Cz.b .nil Ak (Aa Af Ab)))
    (Ac (Bl (DN (pv 0) T.Bm.c T.Al.m ((Bp T).mono (by decide)) hr T.Al.b .nil Ak (Aa Af Ab)))
    (Ad (Bl (Dj (K:=K) F.plainAttrs_list F.slot_list_append F.type_list_append Ga (pv 1) (Aa (Aq ((Vb T).mono (by decide)) hr rfl T.Km.m T.Km.F.kp T.Km.b .nil Ej (Aa (pv 0) Ab)) Ab)))))))
   (Ac (Bj (Aj Ht (Az (Bb (K:=K)) rfl T.Cr Bs (Aa (pv 1) Ab)) (Ce (v:=.int 40) rfl T.Adk.choose_spec ⟨_,rfl⟩) (Am _))
    (Ad (CQ Fp rfl (λ_ _ z=>z) F.excBase_ValueError El F.excBase_ValueError T.BP.q rfl T.BR (Aa Af Ab)))
    An)
   (Ad (Av (pv 1)))))),?_⟩
  refine⟨_,rfl,r,dx,u,p,rfl,hR,λz l p1 hz hp1 hl1 hd1=>?_,λhz H' sb=>k2 (by unfold Pat.runs;rw[hz]) H' sb⟩
  rw[Ab6 hz] at k1 k2
  refine⟨(by show 1<=sizeLine;decide),λq hq=>?_⟩
  have nqr:q≠r:=λz=>by rw[z,show GD t H r dx u p1 r=some _ from Ae] at hq;cases hq
  rw[show GD t H r dx u p1 q=H q from Ao nqr] at hq
  have hH:∀ p9 o,(upd (GD t H r dx u p9) q o) r=some (.ins t.Ck dx (rf u p9)):=λp9 o=>by rw[Ao nqr.symm];exact Ae
  have sbq:∀ p9 o,DR r H (upd (GD t H r dx u p9) q o):=λp9 o b o' hb e=>by rw[Ao (Ay e hq)];show(upd H r _) b=_;rw[Ao hb];exact e
  have AlA:=hR.2.2
  refine⟨λm σ H2=>∃ done p2,σ=[some (.ref r),some (.ref q)]/\H2=upd (GD t H r dx u p2) q (.lst (vS done))/\Ss [z] l=Ss done (u.drop p2)/\p<=p2/\p2<=u.length/\done.length<=p2/\m=u.length-p2,
   ⟨_,[z],p1,rfl,rfl,by rw[hd1],by lia,hl1,by simp only [Apt,Apz];lia,rfl⟩,?_⟩
  rintro m σ H2 ⟨done,p2,rfl,rfl,hf,hp2,hl2,hdl,rfl⟩
  refine⟨_,rfl,r,dx,rf u p2,rfl,hH _ _,(Ep u _).2.1,r,dx,u,p2,[44],(by rw[Io];rfl),⟨hH _ _,hl2,AlA⟩,(by decide),λAii=>?_,λhno=>?_⟩
  ·obtain⟨l1,e1⟩:=QK.mp Aii
   have d:=UW e1
   rw[swp nqr]
   refine⟨_,rfl,?_⟩
   refine Gq ?_
   refine⟨_,λσ' H' h=>h,?_⟩
   refine⟨_,rfl,r,dx,rf u _,rfl,hH _ _,(Ep u _).2.2.2,r,dx,u,_,[32],(by rw[QJ];rfl),⟨hH _ _,d.2,AlA⟩,(by decide),?_⟩
   rw[Kr WY,swp nqr]
   have b2:=behind (λc=>decide (c=32)) d.2
   rw[d.1] at b2
   rw[d.1]
   obtain⟨p3,e3⟩:∃ p3,p3=p2+[44].length+(l1.takeWhile λc=>decide (c=32)).length:=⟨_,rfl⟩
   rw[<- e3] at b2
   have d3:u.drop p3=Pat.sk l1:=b2.1
   have p23:p2<p3:=by rw[e3];simp only [Apt,Apz];lia
   rw[<- e3]
   refine⟨_,rfl,.inl ⟨rfl,_,SqL.of Ae⟩,_,rfl,r,dx,u,p3,rfl,⟨hH _ _,b2.2,AlA⟩,λz2 l2 p4 hz2 hp4 hl4 hd4=>?_,λhz2 H' sb=>?_⟩
   ·rw[d3] at hz2
    rw[show ∀ p8 p9 o,GD t (upd (GD t H r dx u p8) q o) r dx u p9=upd (GD t H r dx u p9) q o from λ_ _ _=>swp nqr]
    refine⟨_,_,_,rfl,rfl,Ae,(by rw[Ba];exact Ap0 (show done.length<1000001 by lia) (by decide)),?_⟩
    rw[G5,CP]
    exact⟨u.length-p4,by lia,done++[z2],p4,rfl,rfl,by rw[hf,Aio e1 hz2,hd4],by lia,hl4,by rw[Aps,ApX];lia,rfl⟩
   ·rw[d3] at hz2
    refine k2 (by rw[hf];unfold Ss;rw[Ain e1 hz2]) H' (λb o hb e=>sb b o hb (sbq _ _ b o hb e))
  ·have e1:=Va hno
   refine⟨_,rfl,?_⟩
   refine Hu ?_
   have hf2:Ss done (u.drop p2)=if (done++[]).length>40 then none else some (done++[],u.drop p2):=by unfold Ss;rw[Aim e1]
   rw[ApT] at hf2
   refine⟨_,rfl,_,_,rfl,.inl (SqL.of Ae),_,_,rfl,rfl,_,rfl,?_⟩
   rw[Ba]
   refine Dk (λc1=>?_) (λc1=>?_)
   ·exact⟨by decide,k2 (by rw[hf,hf2,if_pos (by lia)]) _ (sbq _ _)⟩
   ·refine⟨_,rfl,?_⟩
    exact k1 done _ p2 q (by rw[hf,hf2,if_neg (by lia)]) hp2 hl2 rfl hq nqr
def Hi:List (List Nat):=[[114,111,119,115],[116,119,105,108,108],[115,97,116,105,110],[98,101,115,105,100,101],[97,98,111,118,101],[109,105,114,114,111,114],[117,112,101,110,100],[98,97,99,107],[113,117,97,114,116,101,114],[116,105,108,101],[98,108,111,99,107,115],[108,97,121]]
theorem Aiq:(["rows", "twill", "satin", "beside", "above", "mirror", "upend", "back", "quarter", "tile", "blocks", "lay"]:List Str)=Hi.map tx:=by decide +kernel
theorem Agt(u:List Nat):Pat.isWord u=decide (u∈Hi):=by
 by_cases h:u∈Hi
 ·rw[decide_eq_true h]
  simp only [Hi,ApA,ApB,or_false] at h
  rcases h with rfl | rfl | rfl | rfl | rfl | rfl | rfl | rfl | rfl | rfl | rfl | rfl <;> decide
 ·rw[decide_eq_false h]
  simp only [Hi,ApA,ApB,or_false,not_or] at h
  obtain⟨h1,h2,h3,h4,h5,h6,h7,h8,h9,h10,h11,h12⟩:=h
  unfold Pat.isWord Pat.wants Pat.Fq
  rw[decide_eq_false h1,if_neg (λz=>z.elim h2 h3),if_neg (λz=>z.elim h4 λz=>z.elim h5 h12),if_neg (λz=>z.elim h6 λz=>z.elim h7 λz=>z.elim h8 h9),if_neg h10,if_neg h11]
  rfl
def AjN:List Nat:=[97,98,99,100,101,102,103,104,105,106,107,108,109,110,111,112,113,114,115,116,117,118,119,120,121,122]
theorem Air:(("abcdefghijklmnopqrstuvwxyz" : Str))=tx AjN:=by decide +kernel
theorem Ais(c:Nat):decide (c∈AjN)=Pat.letter c:=decide_eq_decide.mpr (by
 rw[show AjN=List.range' 97 26 from rfl,List.mem_range'_1]
 lia)
theorem in_words(u:List Nat):∀ ls:List (List Nat),inV (V.str (tx u)) ((ls.map tx).map V.str)=decide (u∈ls)
 | []=>rfl
 | a::ls=>by
  have ih:=in_words u ls
  unfold inV at ih ⊢
  rw[Apw,Apw,List.any_cons,ih]
  by_cases h:u=a
  ·rw[h,decide_eq_true (Ap6)]
   have:eqV (V.str (tx a)) (V.str (tx a))=true:=Yi rfl
   rw[this,Bool.true_or]
  ·have e1:(eqV (V.str (tx a)) (V.str (tx u))=false)/\(eqV (V.str (tx u)) (V.str (tx a))=false):=⟨beq_eq_false_iff_ne.mpr λz=>h (Jp z).symm,beq_eq_false_iff_ne.mpr λz=>h (Jp z)⟩
   first | rw[e1.1] | rw[e1.2]
   rw[Bool.false_or]
   exact decide_eq_decide.mpr ⟨λz=>Ap7 _ z,λz=>(List.mem_cons.mp z).elim (λz=>absurd z h) id⟩
def Agu:Sp:=λvs H Q _=>∃ u,vs=[.str (tx u)]/\u.length<=1000000/\∀ H',Be H H'->Q (.bl (Pat.isName u)) H'
theorem Z2(T:Txt K mg t):Br P w K mg base CX0 1 t.AaS t.AaT ["text"] Agu:=by
 refine T.NT.F.ok Aen (λvs H Q E h=>?_) (λcdv A outer s H vs Q E hr h=>?_)
 ·obtain⟨u,rfl,_⟩:=h
  rfl
 ·obtain⟨u,rfl,hu,k⟩:=h
  refine⟨_,(Ac (Bj (PW.pt (pw_or (Aj Kz (Az Bo rfl T.Cr Bs (Aa (pv 0) Ab)) Ag (Am _)) (pw_or1 (Aj Ht (Az Bo rfl T.Cr Bs (Aa (pv 0) Ab)) (Ce (v:=.int 20) rfl T.Zc.choose_spec ⟨_,rfl⟩) (Am _)))))
    (Ad (Av PL))
    An)
   (Ad (Av (Lk (DX (ZJ (K:=K)) (pv 0) (Ce (v:=.ref t.AbI) rfl T.AjG rfl) rfl) (PN (Az (Agf (K:=K)) rfl T.AmQ Ala (Aa (Dl (CG.mk (Bd:=[]) (Nc:=["sign"]) rfl (by decide +kernel) (by decide +kernel) (Cp (sc0:=Ah V8) rfl (by decide +kernel)) rfl rfl rfl (by decide +kernel) (λ_ _ h=>by simp at h)) rfl (Nm (pv 0)) (λ_ _ _ _ _=>.nil) (λ_ _ _ _ _=>(DX Vu (pv 0) (Ce (v:=.str "abcdefghijklmnopqrstuvwxyz") rfl T.VN.choose_spec ⟨_,rfl⟩) rfl))) Ab))))))),?_⟩
  have zl:(tx u).length<=sizeLine:=by rw[Ai];exact big hu
  refine⟨_,rfl,_,rfl,zl,_,_,rfl,rfl,_,rfl,?_⟩
  rw[Ai]
  unfold Pat.isName at k
  refine Dk (λc1=>?_) (λc1=>?_)
  ·refine Gq ?_
   rw[decide_eq_false (show ¬(1<=u.length/\u.length<=20) by lia)] at k
   exact k _ (.refl _)
  ·refine⟨_,rfl,_,rfl,zl,_,_,rfl,rfl,_,rfl,?_⟩
   rw[Ai]
   refine Dk (λc2=>?_) (λc2=>?_)
   ·rw[decide_eq_false (show ¬(1<=u.length/\u.length<=20) by lia)] at k
    exact k _ (.refl _)
   ·rw[decide_eq_true (show 1<=u.length/\u.length<=20 by lia),Bool.true_and,Agt] at k
    refine⟨_,rfl,_,_,rfl,.inr (T.AjH H),rfl,(by decide),_,rfl,?_⟩
    rw[Aiq,in_words]
    show if (!decide (u∈Hi))=true then _ else _
    by_cases cw:u∈Hi
    ·rw[decide_eq_true cw] at k ⊢
     refine Hu ?_
     rw[Bool.not_true,Bool.and_false] at k
     exact k _ (.refl _)
    ·rw[decide_eq_false cw] at k ⊢
     refine Gq ?_
     rw[AqE,Bool.and_true] at k
     refine⟨_,rfl,_,rfl,?_⟩
     refine LK (z:=tx u) (λi ys H2=>H2=H/\ys=vB ((u.take i).map Pat.letter)) ⟨rfl,rfl⟩ ?_ ?_ ?_ ?_
     ·rintro i ys H2 hi ⟨rfl,rfl⟩
      rw[Aek,Apq,Ap2]
      exact Nat.min_le_left _ _
     ·exact zl
     ·rintro i c ys H2 hi hc ⟨rfl,rfl⟩
      refine Dh.no ?_
      have hu':u[i]?=some c:=by
       rw[<- Et u,Array.getElem?_toList]
       exact hc
      refine⟨_,rfl,_,_,rfl,rfl,?_⟩
      rw[Air,Z0,Ais]
      exact CN.of hi ⟨rfl,by rw[Ael,Ap4,hu',Apx];rfl⟩
     ·rintro ys H2 q ⟨rfl,rfl⟩ hq
      refine⟨_,_,rfl,SqL.of Ae,?_⟩
      have e9:(((u.take (tx u).cps.size).map Pat.letter).all id)=u.all Pat.letter:=by
       rw[show(tx u).cps.size=u.length from Ai u,ApJ,List.all_map]
       rfl
      rw[e9]
      exact k _ (.upd hq)
inductive AtN (H:Hp):Nd->V->Prop
 | num {n:Nat}:AtN H (.num n) (.int (n:Int))
 | run {r:List Nat}:AtN H (.run r) (.str (tx r))
 | nam {z:List Nat} {a:Addr}:H a=some (.tup [.str (tx z),.non])->AtN H (.nam z) (.ref a)
 | node {z:List Nat} {ts:List Nd} {a q:Addr} {vs:List V}:H a=some (.tup [.str (tx z),.ref q])->H q=some (.lst vs)->vs.length=ts.length->(∀(i:Nat) (x:Nd) (v:V),ts[i]?=some x->vs[i]?=some v->AtN H x v)->AtN H (.node z ts) (.ref a)
theorem AtN.mono{H H':Hp}(s:∀ b o,H b=some o->H' b=some o){x:Nd}{v:V}(h:AtN H x v):AtN H' x v:=by
 induction h with
 | num=>exact .num
 | run=>exact .run
 | nam h=>exact .nam (s _ _ h)
 | node h1 h2 h3 _ ih=>exact .node (s _ _ h1) (s _ _ h2) h3 ih
def nw (H H':Hp):Hp:=λb=>match H b with
 | none=>H' b
 | some _=>none
theorem Su{H H':Hp}{b:Addr}(h:H b=none):nw H H' b=H' b:=by unfold nw;rw[h]
theorem Nf{H H':Hp}{b:Addr}{o:HO}(h:nw H H' b=some o):H b=none/\H' b=some o:=by
 unfold nw at h
 cases e:H b with
 | none=>rw[e] at h;exact⟨rfl,h⟩
 | some o'=>rw[e] at h;cases h
theorem X7{A H2 H3:Hp}{r:Addr}(hr:A r≠none)(s:DR r H2 H3):∀ b o,nw A H2 b=some o->nw A H3 b=some o:=λb o h=>by
 have g:=Nf h
 rw[Su g.1]
 exact s b o (λz=>hr (by rw[<- z];exact g.1)) g.2
theorem Adw{A B H3:Hp}(h:∀ b,B b=none->A b=none):∀ b o,nw B H3 b=some o->nw A H3 b=some o:=λb o g=>by
 have g:=Nf g
 rw[Su (h b g.1)]
 exact g.2
theorem Ait{A H:Hp}{q:Addr}{o:HO}(h:A q≠none):nw A (upd H q o)=nw A H:=by
 funext b
 unfold nw
 cases e:A b with
 | none =>
  show upd H q o b=H b
  exact Ao λz=>h (by rw[<- z];exact e)
 | some o'=>rfl
def Aav (H:Hp)(ts:List Nd)(vs:List V):Prop:=vs.length=ts.length/\∀(i:Nat) (x:Nd) (v:V),ts[i]?=some x->vs[i]?=some v->AtN H x v
theorem Aav.snoc{H:Hp}{ts:List Nd}{vs:List V}{x:Nd}{v:V}(h:Aav H ts vs)(hx:AtN H x v):Aav H (ts++[x]) (vs++[v]):=by
 refine⟨by rw[Aps,Aps,h.1];rfl,λi y w g1 g2=>?_⟩
 by_cases c:i<ts.length
 ·rw[Aqn c] at g1
  rw[Aqn (by rw[h.1];exact c)] at g2
  exact h.2 i y w g1 g2
 ·have e:i=ts.length:=by
   have:=(List.getElem?_eq_some_iff.mp g1).1
   rw[Aps,ApX] at this
   lia
  subst e
  rw[Aqm (Apv _),AqF] at g1
  rw[Aqm (by rw[h.1];exact Apv _),h.1,AqF] at g2
  cases g1
  cases g2
  exact hx
theorem Aav.mono{H H':Hp}(s:∀ b o,H b=some o->H' b=some o){ts:List Nd}{vs:List V}(h:Aav H ts vs):Aav H' ts vs:=⟨h.1,λi x v g1 g2=>(h.2 i x v g1 g2).mono s⟩
theorem args_nil{sub:List Nat->Option (Nd × List Nat)}{b:Bool}{l:List Nat}:Pat.args sub b [] l=some ([],l):=by unfold Pat.args;rfl
def Aey (sub:List Nat->Option (Nd × List Nat))(done:List Nd)(ks l:List Nat):Option (List Nd × List Nat):=(Pat.args sub done.isEmpty ks l).map λp=>(done++p.1,p.2)
theorem Aiu{sub:List Nat->Option (Nd × List Nat)}{done:List Nd}{l:List Nat}:Aey sub done [] l=some (done,l):=by unfold Aey;rw[args_nil];simp
def Vc (t:Adr)(d:Nat):Sp:=λvs H Q E=>∃ r dx u p dep,vs=[.ref r,.int ((dep:Nat):Int)]/\dep+d=13/\Rd t H r dx u p /\
 (∀ x l p' v H',Pat.node d (u.drop p)=some (x,l)->p<=p'->u.drop p'=l->DR r H H'->Rd t H' r dx u p'->AtN (nw H H') x v->Q v H')/\(Pat.node d (u.drop p)=none->∀ H',DR r H H'->E (.ref t.By) none H')
def Z3 (t:Adr)(d:Nat):Sp:=λvs H Q E=>∃ r dx u p dep z,vs=[.ref r,.str (tx z),.int ((dep:Nat):Int)]/\dep+d=13/\Rd t H r dx u p /\
 (∀ ts l p' q vs' H',Pat.things (Pat.node d) z (u.drop p)=some (ts,l)->p<=p'->u.drop p'=l->DR r H H'->Rd t H' r dx u p'->H q=none->H' q=some (.lst vs')->Aav (nw H H') ts vs'->Q (.ref q) H')/\(Pat.things (Pat.node d) z (u.drop p)=none->∀ H',DR r H H'->E (.ref t.By) none H')
theorem Adx(z:List Nat):lk [("twill", "nn"),("satin", "nn"),("beside", "pp"),("above", "pp"),("mirror", "p"),("upend", "p"),("back", "p"),("quarter", "p"),("tile", "pnn"),("blocks", "ppp"),("lay", "pp")] (tx z)=(Pat.wants z).map tx:=by
 by_cases h:z∈Hi.tail
 ·simp only [Hi,Aq5,ApA,ApB,or_false] at h
  rcases h with rfl | rfl | rfl | rfl | rfl | rfl | rfl | rfl | rfl | rfl | rfl <;> decide +kernel
 ·have hn:lk [("twill", "nn"),("satin", "nn"),("beside", "pp"),("above", "pp"),("mirror", "p"),("upend", "p"),("back", "p"),("quarter", "p"),("tile", "pnn"),("blocks", "ppp"),("lay", "pp")] (tx z)=none:=by
   unfold lk
   rw[Option.map_eq_none_iff,List.find?_eq_none]
   intro q hq
   rw[decide_eq_true_eq]
   intro e
   have hm:tx z∈Hi.tail.map tx:=by
    rw[<- e]
    have:∀ q∈([("twill", "nn"),("satin", "nn"),("beside", "pp"),("above", "pp"),("mirror", "p"),("upend", "p"),("back", "p"),("quarter", "p"),("tile", "pnn"),("blocks", "ppp"),("lay", "pp")]:List (Str × Str)),q.1∈Hi.tail.map tx:=by decide +kernel
    exact this q hq
   obtain⟨y,hy,ey⟩:=List.mem_map.mp hm
   exact h (Jp ey▸hy)
  rw[hn]
  simp only [Hi,Aq5,ApA,ApB,or_false,not_or] at h
  obtain⟨h2,h3,h4,h5,h6,h7,h8,h9,h10,h11,h12⟩:=h
  unfold Pat.wants
  rw[if_neg (λz=>z.elim h2 h3),if_neg (λz=>z.elim h4 λz=>z.elim h5 h12),if_neg (λz=>z.elim h6 λz=>z.elim h7 λz=>z.elim h8 h9),if_neg h10,if_neg h11]
  rfl
theorem X8:(("rows" : Str))=tx Pat.Fq:=by decide +kernel
theorem Agv{z ks:List Nat}(h:Pat.wants z=some ks):ks.length<=3:=by
 unfold Pat.wants at h
 split at h
 ·cases h;decide
 ·split at h
  ·cases h;decide
  ·split at h
   ·cases h;decide
   ·split at h
    ·cases h;decide
    ·split at h
     ·cases h;decide
     ·cases h
theorem Rm{H:Hp}{r dx:Addr}{u:List Nat}{p:Nat}(_:Rd t H r dx u p)(p4:Nat):DR r H (GD t H r dx u p4):=DR.upd
def thing(sub:List Nat->Option (Nd × List Nat))(c:Nat)(l:List Nat):Option (Nd × List Nat):=if c=112 then sub l else (Pat.num l).map λp=>(Nd.num p.1,p.2)
theorem Agw{sub:List Nat->Option (Nd × List Nat)}{done:List Nd}{c:Nat}{ks l:List Nat}:Aey sub done (c::ks) l=match (if done.isEmpty=true then some l else Pat.comma l) with
  | none=>none
  | some l1=>match thing sub c l1 with
   | none=>none
   | some (a,l2)=>Aey sub (done++[a]) ks l2:=by
 unfold Aey thing
 conv=>lhs;unfold Pat.args
 cases (if done.isEmpty=true then some l else Pat.comma l) with
 | none=>rfl
 | some l1 =>
  dsimp only
  cases (if c=112 then sub l1 else (Pat.num l1).map λp=>(Nd.num p.1,p.2)) with
  | none=>rfl
  | some q =>
   obtain⟨a,l2⟩:=q
   dsimp only
   rw[show(done++[a]).isEmpty=false by cases done <;> rfl,Option.map_map]
   congr 1
   funext p
   simp
theorem Xq{d k:Nat}(hk:4<=k)(T:Txt K mg t)(Ady:Br P w K mg base (CX1 P w) k t.Jk t.Jl ["reader", "depth"] (Vc t d)):Br P w K mg base (CX1 P w) (k+1) t.Iw t.Iz ["reader", "word", "depth"] (Z3 t d):=by
 refine T.Gy.F.okX JZ (λvs H Q E h=>?_) (λcdv A outer s H vs Q E hr h=>?_)
 ·obtain⟨r,dx,u,p,dep,z,rfl,_⟩:=h
  rfl
 ·obtain⟨r,dx,u,p,dep,z,rfl,AlB,hR,k1,k2⟩:=h
  refine⟨_,(Ac (Bj (Aj Cu (pv 1) Af (Am _))
    (Ad (Av (Aq ((Aau T).mono (by lia)) hr rfl T.Rj.m T.Rj.F.kp T.Rj.b .nil Ej (Aa (pv 0) Ab))))
    An)
   (Ac (Bj (AkC (AcI T.Adt (pv 1) (Ce (v:=.ref t.Uh) rfl T.Ads rfl)))
    (Ad (CQ Fp rfl (λ_ _ z=>z) F.excBase_ValueError El F.excBase_ValueError T.BP.q rfl T.BR (Aa Af Ab)))
    An)
   (Ac (Bh (i:=3) JZ.nd rfl (Or.inl rfl) (BV Ab))
   (Ac (Aku λhfr=>(Fw (Am4 Fp hfr) rfl (Nm (AfO T.Adt (Ce (v:=.ref t.Uh) rfl T.Ads rfl) (pv 1) (λ_ _=>rfl))) (BK (i:=4) JZ.nd rfl (Or.inl rfl))
    (Ac (Bj (AaF (K:=K) (pv 3) (λ_=>rfl))
     (Ad (Bl (Aq ((Z1 T).mono (by lia)) hr rfl T.Od.m T.Od.F.kp T.Od.b .nil Ej (Aa (pv 0) Ab))))
     An)
    (Ad (Bl (Dj (K:=K) F.plainAttrs_list F.slot_list_append F.type_list_append Ga (pv 3) (Aa (PQ (Aj Cu (pv 4) Af (Am _)) (Aq (Ady.mono (by lia)) hr rfl T.Ho.m T.Ho.F.kp T.Ho.b .nil Ej (Aa (pv 0) (Aa (pv 2) Ab))) (Aq ((Xp T).mono (by lia)) hr rfl T.KR.m T.KR.F.kp T.KR.b .nil Ej (Aa (pv 0) Ab))) Ab)))))))
   (Ad (Av (pv 3))))))),?_⟩
  refine⟨_,rfl,rfl,_,rfl,?_⟩
  unfold Pat.things at k1 k2
  by_cases c:z=Pat.Fq
  ·refine Ec (by rw[c,X8]) ?_
   rw[if_pos c] at k1 k2
   refine⟨_,rfl,r,dx,u,p,rfl,hR,λzs l p' q hz hp hp' hd hq nqr=>?_,λhz H' sb=>k2 (by rw[hz];rfl) H' sb⟩
   have hn:nw H (upd (GD t H r dx u p') q (.lst (vS zs)))=nw H (upd (GD t H r dx u p') q (.lst (vS zs))):=rfl
   refine k1 (zs.map Nd.run) l p' q (vS zs) _ (by rw[hz];rfl) hp hd (λb o hb e=>by rw[Ao (Ay e hq)];show(upd H r _) b=_;rw[Ao hb];exact e) ⟨by rw[Ao nqr.symm];exact Ae,hp',hR.2.2⟩ hq Ae ⟨by rw[Ba,Apq],λi x v g1 g2=>?_⟩
   rw[Ap9] at g1
   unfold vS at g2
   rw[Ap9] at g2
   cases e:zs[i]? with
   | none=>rw[e] at g1;cases g1
   | some y =>
    rw[e] at g1 g2
    cases g1
    cases g2
    exact .run
  ·refine Dc (λy=>c ?_) ?_
   ·rw[X8] at y
    injection y with y
    exact Jp y
   rw[if_neg c] at k1 k2
   refine⟨_,rfl,tx z,rfl,rfl,_,rfl,?_⟩
   rw[Adx]
   cases ew:Pat.wants z with
   | none =>
    rw[ew] at k2
    refine Gq ?_
    exact⟨by decide,k2 rfl _ (λb o _ e=>e)⟩
   | some ks =>
    rw[ew] at k1 k2
    dsimp only at k1 k2
    refine Hu ?_
    refine⟨(by decide),λq hq=>?_⟩
    have nqr:q≠r:=λz=>by rw[z,hR.1] at hq;cases hq
    have hlk:lk [("twill", "nn"),("satin", "nn"),("beside", "pp"),("above", "pp"),("mirror", "p"),("upend", "p"),("back", "p"),("quarter", "p"),("tile", "pnn"),("blocks", "ppp"),("lay", "pp")] (tx z)=some (tx ks):=by rw[Adx,ew];rfl
    have hq0:(upd H q (.lst [])) q≠none:=by rw[Ae];exact λz=>nomatch z
    have hr0:(upd H q (.lst [])) r≠none:=by rw[Ao nqr.symm,hR.1];exact λz=>nomatch z
    have sk0:∀ b o,H b=some o->(upd H q (.lst [])) b=some o:=λb o e=>by rw[Ao (Ay e hq)];exact e
    refine⟨_,rfl,tx z,_,rfl,rfl,hlk,_,rfl,?_⟩
    have ksl:=Agv ew
    have Aol:(tx ks).cps.size=ks.length:=Ai ks
    refine Abv (z:=tx ks) (λi σ H2=>∃ v done vs p2,σ=[some (.ref r),some (.str (tx z)),some (.int (dep:Int)),some (.ref q),v]/\DR r H H2/\(∀ b,H2 b=none->(upd H q (.lst [])) b=none)/\Rd t H2 r dx u p2/\H2 q=some (.lst vs)/\Aav (nw (upd H q (.lst [])) H2) done vs/\done.length=i/\p<=p2/\Pat.args (Pat.node d) true ks (u.drop p)=Aey (Pat.node d) done (ks.drop i) (u.drop p2)) ⟨none,[],[],p,rfl,(λb o _ e=>sk0 b o e),(λb e=>e),⟨by rw[Ao nqr.symm];exact hR.1,hR.2⟩,Ae,⟨rfl,λi x v g=>by simp at g⟩,rfl,Apv _,?_⟩ ?_ ?_
    ·unfold Aey
     simp
    ·rintro i c' σ H2 hc ⟨v,done,vs,p2,rfl,sb2,AlC,hR2,hq2,hN2,hl2,hp2,hA⟩
     have hci:ks[i]?=some c':=by
      rw[<- Et ks,Array.getElem?_toList]
      exact hc
     have hik:i<ks.length:=(List.getElem?_eq_some_iff.mp hci).1
     have hdk:ks.drop i=c'::ks.drop (i+1):=by
      rw[List.drop_eq_getElem_cons hik,(List.getElem?_eq_some_iff.mp hci).2]
     rw[hdk,Agw] at hA
     have hvl:=hN2.1
     refine⟨_,rfl,!vs.isEmpty,.inl ⟨vs,SqL.of hq2,rfl⟩,?_⟩
     by_cases ce:done=[]
     case' pos =>
      have ve:vs=[]:=List.length_eq_zero_iff.mp (by rw[hvl,ce];rfl)
      rw[if_pos (by rw[ce];rfl)] at hA
      rw[show(!vs.isEmpty)=false by rw[ve];rfl]
      refine Hu ?_
      obtain⟨p3,ep3⟩:∃ p3,p3=p2:=⟨_,rfl⟩
      rw[<- ep3] at hR2 hp2 hA
      have hR3:=hR2
      have sb3:=sb2
      have Aiv:=AlC
      have hq3:=hq2
      have hN3:=hN2
      have hA3:=hA
      have hp3:=hp2
     case' neg =>
      have ve:vs.isEmpty=false:=by
       cases vs with
       | nil=>exact absurd (List.length_eq_zero_iff.mp hvl.symm) ce
       | cons _ _=>rfl
      rw[if_neg (by cases done with | nil=>exact absurd rfl ce | cons _ _=>exact λz=>nomatch z)] at hA
      rw[ve]
      refine Gq ?_
      refine⟨_,rfl,r,dx,u,p2,rfl,hR2,λl p3 hz hp hpl hd=>?_,λhz H' sb=>k2 (by rw[hA,hz]) H' (sb2.trans sb)⟩
      have hR3:=QH hR2 hpl
      have s23:DR r H2 (GD t H2 r dx u p3):=DR.upd
      have sb3:=sb2.trans s23
      have Aiv:∀ b,GD t H2 r dx u p3 b=none->(upd H q (.lst [])) b=none:=λb e=>AlC b (by
       have nb:b≠r:=λz=>by rw[z,show GD t H2 r dx u p3 r=some _ from Ae] at e;cases e
       rw[show GD t H2 r dx u p3 b=H2 b from Ao nb] at e
       exact e)
      have hq3:=s23 _ _ nqr hq2
      have hN3:=hN2.mono (X7 hr0 s23)
      rw[hz,<- hd] at hA
      have hA3:=hA
      have hp3:p<=p3:=ApF hp2 hp
      generalize GD t H2 r dx u p3=H3 at hR3 sb3 Aiv hq3 hN3 ⊢
     all_goals
      have small:vs.length<sizeLine:=Ap0 (show vs.length<1000 by lia) (by decide)
      refine⟨_,rfl,.inl ⟨rfl,_,SqL.of hq3⟩,_,rfl,rfl,_,rfl,?_⟩
      unfold thing at hA3
      dsimp only at hA3
      by_cases cp:c'=112
      ·rw[if_pos cp] at hA3
       refine Ec (by rw[cp];decide +kernel) ?_
       refine⟨_,rfl,_,rfl,r,dx,u,p3,dep,rfl,AlB,hR3,λx l p4 v4 H4 hz4 hp4 hd4 sb4 hR4 hN4=>?_,λhz4 H' sb=>k2 (by rw[hA3,hz4]) H' (sb3.trans sb)⟩
       have hq4:=sb4 _ _ nqr hq3
       refine⟨_,_,_,rfl,rfl,hq4,small,?_⟩
       refine⟨_,done++[x],vs++[v4],p4,rfl,?_,?_,?_,Ae,?_,by rw[Aps,hl2];rfl,by lia,by rw[hA3,hz4,hd4]⟩
       ·intro b o hb e
        rw[Ao (Ay e hq)]
        exact sb4 b o hb (sb3 b o hb e)
       ·intro b e
        have nb:b≠q:=λz=>by rw[z,Ae] at e;cases e
        rw[Ao nb] at e
        refine Aiv b (Option.eq_none_iff_forall_ne_some.mpr λo e3=>?_)
        by_cases hb:b=r
        ·rw[hb,hR4.1] at e;cases e
        ·rw[sb4 b o hb e3] at e;cases e
       ·exact⟨by rw[Ao nqr.symm];exact hR4.1,hR4.2⟩
       ·rw[Ait hq0]
        exact(hN3.mono (X7 hr0 sb4)).snoc (hN4.mono (Adw Aiv))
      ·rw[if_neg cp] at hA3
       refine Dc (λy=>cp ?_) ?_
       ·have e:(("p" : Str))=tx [112]:=by decide +kernel
        rw[e] at y
        injection y with y
        exact(List.cons.inj (Jp (a:=[c']) (b:=[112]) y)).1
       refine⟨_,rfl,r,dx,u,p3,rfl,hR3,λn l p4 hz4 hp4 hl4 hd4=>?_,λhz4 H' sb=>k2 (by rw[hA3,hz4];rfl) H' (sb3.trans sb)⟩
       have hR4:=QH hR3 hl4
       have sb4:=Rm hR3 p4
       have hq4:=sb4 _ _ nqr hq3
       refine⟨_,_,_,rfl,rfl,hq4,small,?_⟩
       refine⟨_,done++[Nd.num n],vs++[.int (n:Int)],p4,rfl,?_,?_,?_,Ae,?_,by rw[Aps,hl2];rfl,by lia,by rw[hA3,hz4,hd4];rfl⟩
       ·intro b o hb e
        rw[Ao (Ay e hq)]
        exact sb4 b o hb (sb3 b o hb e)
       ·intro b e
        have nb:b≠q:=λz=>by rw[z,Ae] at e;cases e
        rw[Ao nb] at e
        refine Aiv b (Option.eq_none_iff_forall_ne_some.mpr λo e3=>?_)
        by_cases hb:b=r
        ·rw[hb] at e;rw[hR4.1] at e;cases e
        ·rw[sb4 b o hb e3] at e;cases e
       ·exact⟨by rw[Ao nqr.symm];exact hR4.1,hR4.2⟩
       ·rw[Ait hq0]
        exact(hN3.mono (X7 hr0 sb4)).snoc .num
    ·rintro σ H2 ⟨v,done,vs,p2,rfl,sb2,AlC,hR2,hq2,hN2,hl2,hp2,hA⟩
     rw[Aol,List.drop_length,Aiu] at hA
     refine⟨_,rfl,?_⟩
     exact k1 done _ p2 q vs H2 hA hp2 rfl sb2 hR2 hq hq2 (hN2.mono (Adw (λb e=>by
      by_cases eb:b=q
      ·rw[eb,Ae] at e;cases e
      ·rw[Ao eb] at e;exact e)))
theorem QL:(("(" : Str))=tx [40]:=by decide +kernel
theorem JQ:((")" : Str))=tx [41]:=by decide +kernel
theorem Agx(d:Nat)(l:List Nat):Pat.node (d+1) l=match Pat.one 40 (Pat.sk (l.dropWhile Pat.letter)) with
  | none=>if Pat.isName (l.takeWhile Pat.letter)=true then some (.nam (l.takeWhile Pat.letter),Pat.sk (l.dropWhile Pat.letter)) else none
  | some l1=>match Pat.things (Pat.node d) (l.takeWhile Pat.letter) (Pat.sk l1) with
   | none=>none
   | some (ts,l2)=>match Pat.one 41 l2 with
    | none=>none
    | some l3=>some (.node (l.takeWhile Pat.letter) ts,Pat.sk l3):=by
 (conv=>lhs;unfold Pat.node) <;> rfl
theorem Aaw{d k:Nat}(hk:2<=k)(T:Txt K mg t)(Lw:Br P w K mg base (CX1 P w) k t.Iw t.Iz ["reader", "word", "depth"] (Z3 t d)):Br P w K mg base (CX1 P w) (k+1) t.Jk t.Jl ["reader", "depth"] (Vc t (d+1)):=by
 refine T.Ho.F.okX G7 (λvs H Q E h=>?_) (λcdv A outer s H vs Q E hr h=>?_)
 ·obtain⟨r,dx,u,p,dep,rfl,_⟩:=h
  rfl
 ·obtain⟨r,dx,u,p,dep,rfl,AlB,hR,k1,k2⟩:=h
  refine⟨_,(Ac (Bj (Aj Ht (pv 1) (Ce (v:=.int 12) rfl T.WW.choose_spec ⟨_,rfl⟩) (Am _))
    (Ad (CQ Fp rfl (λ_ _ z=>z) F.excBase_ValueError El F.excBase_ValueError T.BP.q rfl T.BR (Aa Af Ab)))
    An)
   (Ac (Bh (i:=2) G7.nd rfl (Or.inl rfl) (DN (pv 0) T.Bm.c T.Al.m ((Bp T).mono (by lia)) hr T.Al.b .nil Ak (Aa (Ce (v:=.str "abcdefghijklmnopqrstuvwxyz") rfl T.VN.choose_spec ⟨_,rfl⟩) Ab)))
   (Ac (Bl (DN (pv 0) T.Bm.c T.Al.m ((Bp T).mono (by lia)) hr T.Al.b .nil Ak (Aa Af Ab)))
   (Ac (Bj (Hj (Gn (DN (pv 0) T.Bm.c T.Cz.m ((Fj T).mono (by lia)) hr T.Cz.b .nil Ak (Aa Af Ab))))
    (Ac (Bj (Hj (Gn (Aq ((Z2 T).mono (by lia)) hr rfl T.NT.m T.NT.F.kp T.NT.b .nil Ak (Aa (pv 2) Ab))))
     (Ad (CQ Fp rfl (λ_ _ z=>z) F.excBase_ValueError El F.excBase_ValueError T.BP.q rfl T.BR (Aa Af Ab)))
     An)
    (Ad (Av (DG (Aa (pv 2) (Aa Sy Ab))))))
    An)
   (Ac (Bl (DN (pv 0) T.Bm.c T.Al.m ((Bp T).mono (by lia)) hr T.Al.b .nil Ak (Aa Af Ab)))
   (Ac (Bh (i:=3) G7.nd rfl (Or.inl rfl) (Aq (Lw.mono (by lia)) hr rfl T.Gy.m T.Gy.F.kp T.Gy.b .nil Ej (Aa (pv 0) (Aa (pv 2) (Aa (Ar Fy (pv 1) Ag) Ab)))))
   (Ac (Bj (Hj (Gn (DN (pv 0) T.Bm.c T.Cz.m ((Fj T).mono (by lia)) hr T.Cz.b .nil Ak (Aa Af Ab))))
    (Ad (CQ Fp rfl (λ_ _ z=>z) F.excBase_ValueError El F.excBase_ValueError T.BP.q rfl T.BR (Aa Af Ab)))
    An)
   (Ac (Bl (DN (pv 0) T.Bm.c T.Al.m ((Bp T).mono (by lia)) hr T.Al.b .nil Ak (Aa Af Ab)))
   (Ad (Av (DG (Aa (pv 2) (Aa (pv 3) Ab))))))))))))),?_⟩
  rw[Agx] at k1 k2
  refine⟨_,rfl,_,_,rfl,rfl,_,rfl,?_⟩
  refine Dc (by lia) ?_
  have b1:=behind Pat.letter hR.2.1
  obtain⟨p1,e1⟩:∃ p1,p1=p+((u.drop p).takeWhile Pat.letter).length:=⟨_,rfl⟩
  rw[<- e1] at b1
  have b2:=behind (λc=>decide (c=32)) b1.2
  obtain⟨p2,e2⟩:∃ p2,p2=p1+((u.drop p1).takeWhile λc=>decide (c=32)).length:=⟨_,rfl⟩
  rw[<- e2] at b2
  have d2:u.drop p2=Pat.sk ((u.drop p).dropWhile Pat.letter):=by rw[b2.1,b1.1];rfl
  rw[<- d2] at k1 k2
  have hR1:=QH hR b1.2
  have hR2:=QH hR b2.2
  have hz:((u.drop p).takeWhile Pat.letter).length<=1000000:=by have:=hR.2.2;lia
  refine⟨_,rfl,r,dx,rf u p,rfl,hR.1,(Ep u p).2.2.2,r,dx,u,p,AjN,(by rw[Air];rfl),hR,(by decide),?_⟩
  rw[Kr Ais,<- e1]
  refine⟨_,rfl,r,dx,rf u _,rfl,hR1.1,(Ep u _).2.2.2,r,dx,u,_,[32],(by rw[QJ];rfl),hR1,(by decide),?_⟩
  rw[Kr WY,G5,<- e2]
  generalize hzz:(u.drop p).takeWhile Pat.letter=z at k1 k2 hz ⊢
  refine⟨_,rfl,r,dx,rf u _,rfl,hR2.1,(Ep u _).2.1,r,dx,u,_,[40],(by rw[QL];rfl),hR2,(by decide),λAii=>?_,λhno=>?_⟩
  ·obtain⟨l1,el⟩:=QK.mp Aii
   have d:=UW el
   rw[el] at k1 k2
   dsimp only at k1 k2
   have b3:=behind (λc=>decide (c=32)) d.2
   obtain⟨p3,e3⟩:∃ p3,p3=p2+[40].length+((u.drop (p2+[40].length)).takeWhile λc=>decide (c=32)).length:=⟨_,rfl⟩
   rw[<- e3] at b3
   have d3:u.drop p3=Pat.sk l1:=by rw[b3.1,d.1];rfl
   rw[<- d3] at k1 k2
   have hRa:=QH hR d.2
   have hR3:=QH hR b3.2
   rw[G5]
   refine⟨_,rfl,?_⟩
   refine Hu ?_
   refine⟨_,rfl,r,dx,rf u _,rfl,hRa.1,(Ep u _).2.2.2,r,dx,u,_,[32],(by rw[QJ];rfl),hRa,(by decide),?_⟩
   rw[Kr WY,G5,<- e3]
   refine⟨_,rfl,_,rfl,_,rfl,_,_,rfl,rfl,r,dx,u,p3,dep+1,z,rfl,by lia,hR3,λts l p4 q vs' H4 hz4 hp4 hd4 sb4 hR4 hqn hq4 hN4=>?_,λhz4 H' sb=>k2 (by rw[hz4]) H' ((Rm hR p3).trans sb)⟩
   rw[hz4] at k1 k2
   dsimp only at k1 k2
   have sH4:DR r H H4:=(Rm hR p3).trans sb4
   refine⟨_,rfl,r,dx,rf u p4,rfl,hR4.1,(Ep u _).2.1,r,dx,u,p4,[41],(by rw[JQ];rfl),hR4,(by decide),λAmT=>?_,λAmU=>?_⟩
   ·obtain⟨l5,el5⟩:=QK.mp AmT
    have d5:=UW el5
    rw[hd4] at el5
    rw[el5] at k1
    dsimp only at k1
    have b6:=behind (λc=>decide (c=32)) d5.2
    obtain⟨p6,e6⟩:∃ p6,p6=p4+[41].length+((u.drop (p4+[41].length)).takeWhile λc=>decide (c=32)).length:=⟨_,rfl⟩
    rw[<- e6] at b6
    have hR5:=QH hR4 d5.2
    refine⟨_,rfl,?_⟩
    refine Hu ?_
    refine⟨_,rfl,r,dx,rf u _,rfl,hR5.1,(Ep u _).2.2.2,r,dx,u,_,[32],(by rw[QJ];rfl),hR5,(by decide),?_⟩
    rw[Kr WY,G5,<- e6]
    have s6:=Rm hR4 p6
    have hR6:=QH hR4 b6.2
    have hqn:GD t H r dx u p3 q=none:=hqn
    have hN4:Aav (nw (GD t H r dx u p3) H4) ts vs':=hN4
    have nqr:q≠r:=λy=>by rw[y,hR3.1] at hqn;cases hqn
    have hqH:H q=none:=by rw[show GD t H r dx u p3 q=H q from Ao nqr] at hqn;exact hqn
    have hN6:Aav (nw H (GD t H4 r dx u p6)) ts vs':=(hN4.mono (X7 (by rw[hR3.1];exact λy=>nomatch y) s6)).mono (Adw λb e=>by
     by_cases eb:b=r
     ·rw[eb,hR3.1] at e;cases e
     ·rw[show GD t H r dx u p3 b=H b from Ao eb] at e;exact e)
    have sH6:=sH4.trans s6
    have hq6:=s6 _ _ nqr hq4
    have heq:upd H4 r (.ins t.Ck dx (rf u p6))=GD t H4 r dx u p6:=rfl
    rw[heq]
    generalize GD t H4 r dx u p6=H6 at hR6 hN6 sH6 hq6 ⊢
    refine⟨_,rfl,_,rfl,(by show 2<=sizeLine;decide),λa ha=>?_⟩
    have nar:a≠r:=λy=>by rw[y,hR6.1] at ha;cases ha
    have naq:a≠q:=λy=>by rw[y,hq6] at ha;cases ha
    have haH:H a=none:=by
     cases e:H a with
     | none=>rfl
     | some o=>rw[sH6 a o nar e] at ha;cases ha
    refine k1 (.node z ts) _ p6 (.ref a) _ rfl (by lia) (by rw[b6.1,d5.1];rfl) (λb o hb e=>by rw[Ao (Ay (sH6 b o hb e) ha)];exact sH6 b o hb e) ⟨by rw[Ao nar.symm];exact hR6.1,hR6.2⟩ (.node (q:=q) (vs:=vs') ?_ ?_ hN6.1 (λi x v g1 g2=>(hN6.2 i x v g1 g2).mono λb o e=>?_))
    ·rw[Su haH];exact Ae
    ·rw[Su hqH,Ao naq.symm];exact hq6
    ·have g:=Nf e
     rw[Su g.1,Ao (Ay g.2 ha)]
     exact g.2
   ·rw[hd4] at AmU
    have e9:=Va (u:=u) (p:=p4) (c:=41) (by rw[hd4];exact AmU)
    rw[hd4] at e9
    rw[e9] at k2
    refine⟨_,rfl,?_⟩
    refine Gq ?_
    exact⟨by decide,k2 rfl _ sH4⟩
  ·rw[Va hno] at k1 k2
   dsimp only at k1 k2
   refine⟨_,rfl,?_⟩
   refine Gq ?_
   refine⟨_,rfl,z,rfl,hz,λH1 s1=>?_⟩
   refine⟨_,rfl,?_⟩
   cases cn:Pat.isName z with
   | true =>
    rw[cn,if_pos rfl] at k1
    refine Hu ?_
    refine⟨_,rfl,(by show 2<=sizeLine;decide),λa ha=>?_⟩
    have sH:DR r H H1:=(Rm hR p2).trans λb o _ e=>s1 b o e
    have hr1:H1 r=some (.ins t.Ck dx (rf u p2)):=s1 _ _ hR2.1
    have nar:a≠r:=λy=>by rw[y,hr1] at ha;cases ha
    have haH:H a=none:=by
     cases e:H a with
     | none=>rfl
     | some o=>rw[sH a o nar e] at ha;cases ha
    refine k1 (.nam z) _ p2 (.ref a) _ rfl (by lia) rfl (λb o hb e=>by rw[Ao (Ay (sH b o hb e) ha)];exact sH b o hb e) ⟨by rw[Ao nar.symm];exact hr1,b2.2,hR.2.2⟩ (.nam ?_)
    rw[Su haH]
    exact Ae
   | false =>
    rw[cn] at k2
    refine Gq ?_
    exact⟨by decide,k2 (if_neg (λy=>nomatch y)) _ ((Rm hR p2).trans λb o _ e=>s1 b o e)⟩
theorem AmV{k:Nat}{CX:CXT}{f:Addr}{fd:FuncData}{ps:List Str}:Br P w K mg base CX k f fd ps (λ_ _ _ _=>False):=⟨λ_ _ _ _ h=>h.elim,λ_ _ _ _ _ _ _ _ _ _ _ _ _ h=>h.elim⟩
theorem Z4{k:Nat}(hk:2<=k)(T:Txt K mg t):Br P w K mg base (CX1 P w) (k+1) t.Jk t.Jl ["reader", "depth"] (Vc t 0):=by
 have Lw:Br P w K mg base (CX1 P w) 1 t.Iw t.Iz ["reader", "word", "depth"] _:=AmV
 refine T.Ho.F.okX G7 (λvs H Q E h=>?_) (λcdv A outer s H vs Q E hr h=>?_)
 ·obtain⟨r,dx,u,p,dep,rfl,_⟩:=h
  rfl
 ·obtain⟨r,dx,u,p,dep,rfl,AlB,hR,k1,k2⟩:=h
  refine⟨_,(Ac (Bj (Aj Ht (pv 1) (Ce (v:=.int 12) rfl T.WW.choose_spec ⟨_,rfl⟩) (Am _))
    (Ad (CQ Fp rfl (λ_ _ z=>z) F.excBase_ValueError El F.excBase_ValueError T.BP.q rfl T.BR (Aa Af Ab)))
    An)
   (Ac (Bh (i:=2) G7.nd rfl (Or.inl rfl) (DN (pv 0) T.Bm.c T.Al.m ((Bp T).mono (by lia)) hr T.Al.b .nil Ak (Aa (Ce (v:=.str "abcdefghijklmnopqrstuvwxyz") rfl T.VN.choose_spec ⟨_,rfl⟩) Ab)))
   (Ac (Bl (DN (pv 0) T.Bm.c T.Al.m ((Bp T).mono (by lia)) hr T.Al.b .nil Ak (Aa Af Ab)))
   (Ac (Bj (Hj (Gn (DN (pv 0) T.Bm.c T.Cz.m ((Fj T).mono (by lia)) hr T.Cz.b .nil Ak (Aa Af Ab))))
    (Ac (Bj (Hj (Gn (Aq ((Z2 T).mono (by lia)) hr rfl T.NT.m T.NT.F.kp T.NT.b .nil Ak (Aa (pv 2) Ab))))
     (Ad (CQ Fp rfl (λ_ _ z=>z) F.excBase_ValueError El F.excBase_ValueError T.BP.q rfl T.BR (Aa Af Ab)))
     An)
    (Ad (Av (DG (Aa (pv 2) (Aa Sy Ab))))))
    An)
   (Ac (Bl (DN (pv 0) T.Bm.c T.Al.m ((Bp T).mono (by lia)) hr T.Al.b .nil Ak (Aa Af Ab)))
   (Ac (Bh (i:=3) G7.nd rfl (Or.inl rfl) (Aq (Lw.mono (by lia)) hr rfl T.Gy.m T.Gy.F.kp T.Gy.b .nil Ej (Aa (pv 0) (Aa (pv 2) (Aa (Ar Fy (pv 1) Ag) Ab)))))
   (Ac (Bj (Hj (Gn (DN (pv 0) T.Bm.c T.Cz.m ((Fj T).mono (by lia)) hr T.Cz.b .nil Ak (Aa Af Ab))))
    (Ad (CQ Fp rfl (λ_ _ z=>z) F.excBase_ValueError El F.excBase_ValueError T.BP.q rfl T.BR (Aa Af Ab)))
    An)
   (Ac (Bl (DN (pv 0) T.Bm.c T.Al.m ((Bp T).mono (by lia)) hr T.Al.b .nil Ak (Aa Af Ab)))
   (Ad (Av (DG (Aa (pv 2) (Aa (pv 3) Ab))))))))))))),?_⟩
  refine⟨_,rfl,_,_,rfl,rfl,_,rfl,?_⟩
  refine Ec (by lia) ?_
  exact⟨by decide,k2 rfl _ (λb o _ e=>e)⟩
theorem Abf(T:Txt K mg t):∀ d,Br P w K mg base (CX1 P w) (2*d+5) t.Jk t.Jl ["reader", "depth"] (Vc t d)
 | 0=>Z4 (k:=4) (by decide) T
 | d+1=>Aaw (k:=2*d+6) (by lia) T (Xq (k:=2*d+5) (by lia) T (Abf T d))
def Agy (t:Adr):Sp:=λvs H Q E=>∃ u,vs=[.str (tx u)]/\u.length<=1000000 /\
 (∀ x v H',Pat.whole u=some x->Be H H'->AtN (nw H H') x v->Q v H')/\(Pat.whole u=none->∀ H',Be H H'->E (.ref t.By) none H')
theorem Z5(T:Txt K mg t):Br P w K mg base (CX1 P w) 30 t.Us t.Ut ["text"] (Agy t):=by
 refine T.Ob.F.okX Lp (λvs H Q E h=>?_) (λcdv A outer s H vs Q E hr h=>?_)
 ·obtain⟨u,rfl,_⟩:=h
  rfl
 ·obtain⟨u,rfl,hu,k1,k2⟩:=h
  refine⟨_,(Ac (Bh (i:=1) Lp.nd rfl (Or.inl rfl) (Gg T.Bm.m ((Tc T).mono (by decide)) hr rfl T.Aic T.Li.b .nil Ak (Aa (pv 0) Ab)))
   (Ac (Bl (DN (pv 1) T.Bm.c T.Al.m ((Bp T).mono (by decide)) hr T.Al.b .nil Ak (Aa Af Ab)))
   (Ac (Bh (i:=2) Lp.nd rfl (Or.inl rfl) (Aq ((Abf T 12).mono (by decide)) hr rfl T.Ho.m T.Ho.F.kp T.Ho.b .nil Ej (Aa (pv 1) (Aa Ag Ab))))
   (Ac (Bj (Hj (Gn (XS (pv 1) T.Bm.c T.G4.m ((Py T).mono (by decide)) hr T.G4.b .nil Ak)))
    (Ad (CQ Fp rfl (λ_ _ z=>z) F.excBase_ValueError El F.excBase_ValueError T.BP.q rfl T.BR (Aa Af Ab)))
    An)
   (Ad (Av (pv 2))))))),?_⟩
  refine⟨_,rfl,λr dx hr1 hdx hne=>⟨r,dx,u,rfl,Ae,?_⟩⟩
  rw[G5]
  refine⟨rfl,?_⟩
  have hR0:Rd t (GD t (upd H dx (.own r)) r dx u 0) r dx u 0:=⟨Ae,Ap8 _,hu⟩
  have b1:=behind (u:=u) (p:=0) (λc=>decide (c=32)) (Ap8 _)
  refine⟨_,rfl,r,dx,rf u 0,rfl,hR0.1,(Ep u _).2.2.2,r,dx,u,0,[32],(by rw[QJ];rfl),hR0,(by decide),?_⟩
  rw[Kr WY,G5]
  obtain⟨p1,e1⟩:∃ p1,p1=0+((u.drop 0).takeWhile λc=>decide (c=32)).length:=⟨_,rfl⟩
  rw[<- e1] at b1 ⊢
  have hR1:Rd t (GD t (upd H dx (.own r)) r dx u p1) r dx u p1:=⟨Ae,b1.2,hu⟩
  have d1:u.drop p1=Pat.sk u:=b1.1
  unfold Pat.whole at k1 k2
  rw[<- d1] at k1 k2
  have sH:∀ H',DR r (GD t (upd H dx (.own r)) r dx u p1) H'->Be H H':=λH' sb b o e=>by
   have n1:=Ay e hr1
   refine sb b o n1 ?_
   show(upd (upd H dx _) r _) b=_
   rw[Ao n1,Ao (Ay e hdx)]
   exact e
  refine⟨_,rfl,r,dx,u,p1,1,rfl,rfl,hR1,λx l p4 v H4 hz4 hp4 hd4 sb4 hR4 hN4=>?_,λhz4 H' sb=>k2 (by rw[hz4]) H' (sH H' sb)⟩
  have hN4:AtN (nw (GD t (upd H dx (.own r)) r dx u p1) H4) x v:=hN4
  rw[hz4] at k1 k2
  refine⟨_,rfl,r,dx,rf u p4,rfl,hR4.1,(Ep u _).1,r,dx,u,p4,rfl,hR4,?_⟩
  refine⟨_,rfl,?_⟩
  by_cases c:p4=u.length
  ·rw[decide_eq_true c]
   refine Hu ?_
   have el:l=[]:=by rw[<- hd4,c,List.drop_length]
   refine⟨_,rfl,k1 x v H4 (by rw[el]) (sH H4 sb4) (hN4.mono (Adw λb e=>?_))⟩
   by_cases e1:b=r
   ·rw[e1];exact hr1
   ·by_cases e2:b=dx
    ·rw[e2];exact hdx
    ·have e:(upd (upd H dx (.own r)) r (.ins t.Ck dx (rf u p1))) b=none:=e
     rw[Ao e1,Ao e2] at e
     exact e
  ·rw[decide_eq_false c]
   refine Gq ?_
   have el:l≠[]:=λy=>by
    rw[y] at hd4
    have:=congrArg List.length hd4
    rw[ApK] at this
    have:=hR4.2.1
    simp only [Apz] at *
    lia
   refine⟨by decide,k2 ?_ _ (sH H4 sb4)⟩
   cases l with
   | nil=>exact absurd rfl el
   | cons _ _=>rfl
end
theorem Adz(z:List Nat):∀(ys:List (List Nat)) (acc:Array Nat),(ys.map tx).foldl (λacc p=>acc++(tx z).cps++p.cps) acc=acc++((ys.map λy=>z++y).flatten).toArray
 | [],acc=>by simp
 | y::ys,acc=>by
  rw[Apw,Aq1,Adz z ys]
  simp[tx]
theorem Z6(z y:List Nat)(ys:List (List Nat)):Txt.join (tx z) ((y::ys).map tx)=tx (y++(ys.map λy=>z++y).flatten):=by
 show Str.mk _=_
 simp only [Apw,List.drop_one,Aq5,List.headD_cons]
 rw[Adz]
 simp[tx]
section
variable {P:Program}{w:World}{K:W.Frag}{mg:Str->Option Value}{base:Heap}{t:Adr}
def pf (l:Addr)(z:Str):List (Str × V):=[("texts", .ref l),("writing", .str z)]
def Aiw (K:W.Frag):Sp:=λvs H Q _=>∃(C r dx a:Addr) (ts:List (List Nat)) (z:Str),vs=[.ref r,.ref a,.str z]/\H r=some (.ins C dx [])/\Cls K C/\Cg K C "texts" /\ Cg K C "writing" /\ SqL K H a (vS ts) /\
 ∀ l,H l=none->Q .non (upd (upd H l (.lst (vS ts))) r (.ins C dx (pf l z)))
theorem Bv(T:Txt K mg t):Br P w K mg base CX0 1 t.GC t.Mq ["self", "texts", "writing"] (Aiw K):=by
 refine T.Bu.F.ok TX (λvs H Q E h=>?_) (λcdv A outer s H vs Q E hr h=>?_)
 ·obtain⟨C,r,dx,a,ts,z,rfl,_⟩:=h
  rfl
 ·obtain⟨C,r,dx,a,ts,z,rfl,h1,hc,hn1,hn2,hS,k⟩:=h
  refine⟨_,(Ac (Tr (K:=K) (pv 0) (Cm (Rv (K:=K)) rfl T.VM Tq (Aa (pv 1) Ab)))
   (Ad (Tr (K:=K) (pv 0) (pv 2)))),?_⟩
  refine⟨_,rfl,_,_,rfl,.inl hS,λl hl=>?_⟩
  have nlr:r≠l:=Ay h1 hl
  have h1':(upd H l (.lst (vS ts))) r=some (.ins C dx []):=by rw[Ao nlr];exact h1
  refine⟨_,rfl,_,_,_,_,rfl,h1',hc,hn1,(by decide),?_⟩
  refine⟨_,rfl,_,rfl,_,_,_,_,rfl,Ae,hc,hn2,(by show 1<1000;decide),?_⟩
  rw[G5]
  exact k l hl
def pcs (t:Adr):List Addr:=[t.Eu,t.Gw,t.Ew,t.Ex,t.Eg,t.Fe,t.Eh,t.Ff,t.GX,t.Dy,t.Gx,t.DQ,t.JD]
structure PcC (K:W.Frag) (t:Adr) (C:Addr):Prop where
 c:Cls K C
 n1:Cg K C "texts"
 n2:Cg K C "writing"
 wide:Meth K C "wide" t.BW
 high:Meth K C "high" t.BX
 sign:Meth K C "sign" t.BZ
 AmW:Meth K C "cloth" t.Bw
 told:Meth K C "told" t.Ca
theorem pcC(T:Txt K mg t){C:Addr}(h:C∈pcs t):PcC K t C:=by
 simp only [pcs,ApA,ApB,or_false] at h
 rcases h with rfl | rfl | rfl | rfl | rfl | rfl | rfl | rfl | rfl | rfl | rfl | rfl | rfl
 ·exact⟨T.AbK.c,T.Q8,T.M5,T.ZW,T.ZX,T.ZZ,T.Zd,T.Aaa⟩
 ·exact⟨T.Aes.c,T.RZ,T.Pg,T.AbL,T.AbM,T.AbN,T.Aab,T.AbO⟩
 ·exact⟨T.AbP.c,T.Q9,T.M6,T.Aac,T.Aad,T.Aae,T.Ze,T.Aaf⟩
 ·exact⟨T.AbQ.c,T.QB,T.M7,T.Aag,T.Aah,T.Aai,T.Zf,T.Aaj⟩
 ·exact⟨T.Zg.c,T.Ph,T.Lb,T.Zh,T.Zi,T.Zj,T.Xi,T.Zk⟩
 ·exact⟨T.AbR.c,T.QC,T.M8,T.Aak,T.Aal,T.Aam,T.Zm,T.Aan⟩
 ·exact⟨T.Zn.c,T.Pj,T.Ld,T.Zo,T.Zq,T.Zr,T.Xj,T.Zt⟩
 ·exact⟨T.AbS.c,T.QD,T.M9,T.Aao,T.Aap,T.Aaq,T.Zu,T.Aar⟩
 ·exact⟨T.Aet.c,T.Sh,T.Pk,T.AbT,T.AbU,T.AbV,T.Aas,T.AbW⟩
 ·exact⟨T.VR.c,T.MF,T.Kp,T.Xk,T.Xl,T.Xm,T.Wa,T.Xn⟩
 ·exact⟨T.Aew.c,T.Sq,T.Pn,T.AbX,T.AbY,T.AbZ,T.Aat,T.Aca⟩
 ·exact⟨T.Zv.c,T.Pq,T.Le,T.Zw,T.Zx,T.Zy,T.Xo,T.Zz⟩
 ·exact⟨T.Aib.c,T.U9,T.QF,T.Adn,T.Ado,T.Adp,T.Acb,T.Adq⟩
def Pc (t:Adr)(H:Hp)(p:Addr)(x:List (List Nat))(z:List Nat):Prop:=∃ C dx l,C∈pcs t/\H p=some (.ins C dx (pf l (tx z)))/\H l=some (.lst (vS x))
theorem Pc.mono{H H':Hp}{p:Addr}{x:List (List Nat)}{z:List Nat}(h:Pc t H p x z)(s:∀ b o,H b=some o->H' b=some o):Pc t H' p x z:=by
 obtain⟨C,dx,l,hC,h1,h2⟩:=h
 exact⟨C,dx,l,hC,s _ _ h1,s _ _ h2⟩
theorem Vd(l:Addr)(z:Str):(pf l z).lookup ("texts" : Str)=some (V.ref l):=rfl
theorem Aez(l:Addr)(z:Str):(pf l z).lookup ("writing" : Str)=some (V.str z):=rfl
theorem Ve(l:Addr)(z:Str):(pf l z).lookup ("wide" : Str)=none/\(pf l z).lookup ("high" : Str)=none/\(pf l z).lookup ("sign" : Str)=none/\(pf l z).lookup ("cloth" : Str)=none/\(pf l z).lookup ("told" : Str)=none:=⟨rfl,rfl,rfl,rfl,rfl⟩
theorem HS{cl:List (List Nat)}{i:Nat}{x:List Nat}(h:cl[i]?=some x):atI (vS cl) (i:Int)=some (.str (tx x)):=Cj (by lia) (by rw[Ap1];unfold vS;rw[Ap9,h];rfl)
theorem Cl.at{x:List (List Nat)}{m n i:Nat}(C:Cl x m n)(h:i<n):∃ u,x[i]?=some u/\u.length=m:=by
 have hi:i<x.length:=by rw[C.hn];exact h
 exact⟨x[i],Apu hi,C.hm _ (ApI hi)⟩
def Afr (t:Adr):Sp:=λvs H Q _=>∃ p x z m n,vs=[.ref p]/\Pc t H p x z/\Cl x m n/\Q (.int ((m:Nat):Int)) H
theorem Dq(T:Txt K mg t):Br P w K mg base CX0 1 t.BW t.Ui ["self"] (Afr t):=by
 refine T.Du.F.ok ZQ (λvs H Q E h=>?_) (λcdv A outer s H vs Q E hr h=>?_)
 ·obtain⟨p,x,z,m,n,rfl,_⟩:=h
  rfl
 ·obtain⟨p,x,z,m,n,rfl,⟨C,dx,l,hC,hp,hl⟩,D,k⟩:=h
  have C:=pcC T hC
  obtain⟨u,hu,hul⟩:=D.at D.n1
  have:=D.m40
  refine⟨_,(Ad (Av (Az Bo rfl T.Cr Bs (Aa (Bf (Ax (K:=K)) (FP (K:=K) (pv 0) rfl) Ag (λ_ _=>rfl)) Ab)))),?_⟩
  refine⟨_,rfl,_,_,_,_,_,rfl,hp,C.c,C.n1,Vd _ _,_,_,_,_,rfl,rfl,SqL.of hl,HS (i:=0) hu,_,rfl,(by rw[Ai,hul];exact big (by lia)),?_⟩
  rw[Ai,hul]
  exact k
def Afs (t:Adr):Sp:=λvs H Q _=>∃ p x z m n,vs=[.ref p]/\Pc t H p x z/\Cl x m n/\Q (.int ((n:Nat):Int)) H
theorem Dr(T:Txt K mg t):Br P w K mg base CX0 1 t.BX t.Uj ["self"] (Afs t):=by
 refine T.Dv.F.ok ZR (λvs H Q E h=>?_) (λcdv A outer s H vs Q E hr h=>?_)
 ·obtain⟨p,x,z,m,n,rfl,_⟩:=h
  rfl
 ·obtain⟨p,x,z,m,n,rfl,⟨C,dx,l,hC,hp,hl⟩,D,k⟩:=h
  have C:=pcC T hC
  refine⟨_,(Ad (Av (Az (Bb (K:=K)) rfl T.Cr Bs (Aa (FP (K:=K) (pv 0) rfl) Ab)))),?_⟩
  refine⟨_,rfl,_,_,_,_,_,rfl,hp,C.c,C.n1,Vd _ _,_,_,rfl,.inl (SqL.of hl),?_⟩
  rw[Ba,D.hn]
  exact k
def Ad0 (t:Adr):Sp:=λvs H Q _=>∃ p x z,vs=[.ref p]/\Pc t H p x z/\∀ l,H l=none->Q (.ref l) (upd H l (.lst (vS x)))
theorem BJ(T:Txt K mg t):Br P w K mg base CX0 1 t.Bw t.Lq ["self"] (Ad0 t):=by
 refine T.Bx.F.ok YG (λvs H Q E h=>?_) (λcdv A outer s H vs Q E hr h=>?_)
 ·obtain⟨p,x,z,rfl,_⟩:=h
  rfl
 ·obtain⟨p,x,z,rfl,⟨C,dx,l,hC,hp,hl⟩,k⟩:=h
  have C:=pcC T hC
  refine⟨_,(Ad (Av (Cm (Rv (K:=K)) rfl T.VM Tq (Aa (FP (K:=K) (pv 0) rfl) Ab)))),?_⟩
  exact⟨_,rfl,_,_,_,_,_,rfl,hp,C.c,C.n1,Vd _ _,_,_,rfl,.inl (SqL.of hl),λq hq=>k q hq⟩
def Afu (t:Adr):Sp:=λvs H Q _=>∃ p x z,vs=[.ref p]/\Pc t H p x z/\Q (.str (tx z)) H
theorem Cd(T:Txt K mg t):Br P w K mg base CX0 1 t.Ca t.Uk ["self"] (Afu t):=by
 refine T.Ci.F.ok ZV (λvs H Q E h=>?_) (λcdv A outer s H vs Q E hr h=>?_)
 ·obtain⟨p,x,z,rfl,_⟩:=h
  rfl
 ·obtain⟨p,x,z,rfl,⟨C,dx,l,hC,hp,hl⟩,k⟩:=h
  have C:=pcC T hC
  refine⟨_,(Ad (Av (FP (K:=K) (pv 0) rfl))),?_⟩
  exact⟨_,rfl,_,_,_,_,_,rfl,hp,C.c,C.n2,Aez _ _,k⟩
def Aix (t:Adr):Sp:=λvs H Q E=>∃ m n:Nat,vs=[.int (m:Int),.int (n:Int)]/\(m<=40/\n<=40->Q .non H)/\(40<m\/40<n->∀ H',Be H H'->E (.ref t.CZ) none H')
theorem Fl(T:Txt K mg t):Br P w K mg base (CX1 P w) 2 t.Uq t.Ur ["ends", "picks"] (Aix t):=by
 refine T.Cq.F.okX ZL (λvs H Q E h=>?_) (λcdv A outer s H vs Q E hr h=>?_)
 ·obtain⟨m,n,rfl,_⟩:=h
  rfl
 ·obtain⟨m,n,rfl,k1,k2⟩:=h
  refine⟨_,(Ad (Bj (PW.pt (pw_or (Aj Ht (pv 0) (Ce (v:=.int 40) rfl T.Dt.choose_spec ⟨_,rfl⟩) (Am _)) (pw_or1 (Aj Ht (pv 1) (Ce (v:=.int 40) rfl T.Dt.choose_spec ⟨_,rfl⟩) (Am _)))))
    (Ad (CQ Fp rfl (λ_ _ z=>z) F.excBase_ValueError El F.excBase_ValueError T.Ko.q rfl T.Ol (Aa Af Ab)))
    An)),?_⟩
  refine⟨_,rfl,_,_,rfl,rfl,_,rfl,?_⟩
  refine Dk (λc1=>?_) (λc1=>?_)
  ·refine Gq ?_
   exact⟨by decide,k2 (.inl (by lia)) _ (.refl _)⟩
  ·refine⟨_,rfl,_,_,rfl,rfl,_,rfl,?_⟩
   refine Dk (λc2=>?_) (λc2=>?_)
   ·exact⟨by decide,k2 (.inr (by lia)) _ (.refl _)⟩
   ·exact k1 (by lia)
theorem AmX(m i:Nat):decide (V.int ((m:Int)%(2+(i:Int)))=V.int 0)=decide (m%(2+i)=0):=by
 apply decide_eq_decide.mpr
 have e:(m:Int)%(2+(i:Int))=((m%(2+i):Nat):Int):=by
  rw[AqG]
  rfl
 rw[e]
 exact⟨λz=>by injection z with z;lia,λz=>by rw[z];rfl⟩
def Aiy:Sp:=λvs H Q _=>∃ m n:Nat,vs=[.int (m:Int),.int (n:Int)]/\m<=100/\1<=n/\n<=100/\∀ H',Be H H'->Q (.bl (!cop m n n)) H'
theorem Ad1(T:Txt K mg t):Br P w K mg base CX0 2 t.YK t.YL ["size", "step"] Aiy:=by
 refine T.U4.F.ok Adh (λvs H Q E h=>?_) (λcdv A outer s H vs Q E hr h=>?_)
 ·obtain⟨m,n,rfl,_⟩:=h
  rfl
 ·obtain⟨m,n,rfl,hm,hn1,hn,k⟩:=h
  refine⟨_,(Ad (Av (AkD (Az (AaM (K:=K)) rfl T.Ak3 AgX (Aa (Dl (CG.mk (Bd:=[0,1]) (Nc:=["k", "size", "step"]) rfl (by decide +kernel) (by decide +kernel) (Cp (sc0:=Ah SJ) rfl (by decide +kernel)) rfl rfl rfl (by decide +kernel) (λk j h=>match k,h with | 0,h=>by obtain rfl:=Option.some.inj h;exact⟨_,rfl,rfl,rfl⟩ | 1,h=>by obtain rfl:=Option.some.inj h;exact⟨_,rfl,rfl,rfl⟩ | _+2,h=>by simp at h)) rfl (Af3 rfl T.Ey (Aa Ag (Aa (Ar Fy (pv 1) Ag) Ab))) (λ_ _ _ _ _=>.nil) (λ_ _ _ _ _=>(Lk (DX Cu (Ar Dz (pv 1) (pv 0)) Ag (Am _)) (PN (DX Cu (Ar Dz (pv 2) (pv 0)) Ag (Am _)))))) Ab))))),?_⟩
  refine⟨_,rfl,_,_,rfl,rfl,_,_,rfl,⟨by decide,by decide,by lia,by lia⟩,?_⟩
  rw[show((n:Int)+1-2).toNat=n-1 by lia]
  refine Ea (lo:=2) (n:=n-1) (λi ys H2=>H2=H/\ys=vB (Ab4 m n i)) ⟨rfl,rfl⟩ ?_ ?_ ?_ ?_
  ·rintro i ys H2 hi ⟨rfl,rfl⟩
   rw[Aek,Ahx]
   exact Apv _
  ·exact big (by lia)
  ·rintro i ys H2 hi ⟨rfl,rfl⟩
   refine Dh.no ?_
   refine⟨_,rfl,_,rfl,_,_,rfl,rfl,(by show(0:Int)<2+(i:Int);lia),rfl,_,rfl,?_⟩
   rw[AmX]
   have fin:CN (n-1) (λi ys H3=>H3=H2/\ys=vB (Ab4 m n i)) i (vB (Ab4 m n i)++[.bl (decide (m%(2+i)=0) && decide (n%(2+i)=0))]) H2:=CN.of hi ⟨rfl,by rw[Ael,AfW]⟩
   refine Dk (λc1=>?_) (λc1=>?_)
   ·refine⟨_,rfl,_,rfl,_,_,rfl,rfl,(by show(0:Int)<2+(i:Int);lia),rfl,?_⟩
    rw[AmX]
    rw[decide_eq_true c1,Bool.true_and] at fin
    exact fin
   ·rw[decide_eq_false c1,Bool.false_and] at fin
    exact fin
  ·rintro ys H2 q ⟨rfl,rfl⟩ hq
   refine⟨_,_,rfl,SqL.of Ae,_,rfl,?_⟩
   exact k _ (.upd hq)
theorem Ae0:∀(ys:List (List Nat)),((ys.map tx).map (·.length)).sum+ys.length<=(cj ys).length+1
 | []=>by simp[cj]
 | y::ys=>by
  have h:∀ ys:List (List Nat),((ys.map tx).map (·.length)).sum+ys.length=((ys.map λy=>[44]++y).flatten).length:=λys=>by
   induction ys with
   | nil=>rfl
   | cons x ys ih =>
    rw[Apw,Apw,Aql,Apw,ApH,Aps,Aps,<- ih,Ai,Apt,ApX]
    lia
  have:=h ys
  unfold cj
  rw[Apw,Apw,Aql,Aps,Ai,Apt,<- this]
  lia
theorem Ace(z:List Nat)(ys:List (List Nat)):(wz z ys).length=z.length+(cj ys).length+2:=by
 unfold wz
 rw[Aps,Apt,Aps,ApX]
 lia
def Ae1 (K:W.Frag):Sp:=λvs H Q _=>∃(a:Addr) (ws:List Nat) (ys:List (List Nat)),vs=[.str (tx ws),.ref a]/\SqL K H a (vS ys)/\ys≠[]/\(wz ws ys).length<=1000000/\Q (.str (tx (wz ws ys))) H
theorem Eb(T:Txt K mg t):Br P w K mg base CX0 1 t.AaY t.AaZ ["word", "things"] (Ae1 K):=by
 refine T.written.F.ok Aeq (λvs H Q E h=>?_) (λcdv A outer s H vs Q E hr h=>?_)
 ·obtain⟨a,ws,ys,rfl,_⟩:=h
  rfl
 ·obtain⟨a,ws,ys,rfl,hS,hne,hw,k⟩:=h
  refine⟨_,(Ad (Av (Ar Bg (Ar Bg (Ar Bg (pv 0) Af) (Dj (K:=K) F.plainAttrs_str F.slot_str_join F.type_str_join (Ed (K:=K)) Af (Aa (pv 1) Ab))) Af))),?_⟩
  have e1:(("," : Str)).length=1:=by decide +kernel
  have cl:=Ae0 ys
  rw[Ace] at hw
  refine⟨_,rfl,_,_,rfl,rfl,(by rw[QL,Ai,Ai];exact big (by simp only [Apt,Apz];lia)),rfl,_,rfl,_,_,ys.map tx,rfl,rfl,(by rw[<- GQ];exact hS),?_,?_⟩
  ·rw[e1,Apq,Nat.mul_one]
   have:sizeLine=16777216:=sizeLine_eq
   lia
  ·have ej:Txt.join (tx [44]) (ys.map tx)=tx (cj ys):=by
    cases ys with
    | nil=>exact absurd rfl hne
    | cons y ys=>exact Z6 [44] y ys
   rw[QL,Io,JQ,ej,CJ]
   refine⟨_,_,rfl,rfl,(by rw[Ai,Ai];exact big (by simp only [Aps,Apt,Apz];lia)),?_⟩
   rw[CJ]
   refine⟨_,_,rfl,rfl,(by rw[Ai,Ai];exact big (by simp only [Aps,Apt,Apz];lia)),?_⟩
   rw[CJ,show(ws++[40]++cj ys)++[41]=wz ws ys by unfold wz;simp]
   exact k
theorem z0(i:Nat):(0+(i:Int)).toNat=i:=by lia
theorem Ad2(K:W.Frag)(n:String):W.kitOne K (.type n) (.type n)=some true:=if_pos (beq_self_eq_true _)
theorem Ad3{c d:Nat}:(V.str ⟨#[c]⟩:V)=V.str ⟨#[d]⟩↔c=d :=
 ⟨λz=>by injection z with z;exact(List.cons.inj (Jp (a:=[c]) (b:=[d]) z)).1,λz=>by rw[z]⟩
theorem e35:(V.str ⟨#[35]⟩:V)=V.str "#" := congrArg V.str (by decide +kernel)
theorem e46:(V.str ⟨#[46]⟩:V)=V.str "." := congrArg V.str (by decide +kernel)
theorem Bq{n:Nat}(h:n<=40):n<=sizeLine:=ApF h (by decide)
theorem occ{c:Nat}(h:Sg c):(!(!(Builtin.Str.occurrences "#." ⟨#[c]⟩ 0 (Str.length "#.") 1).isEmpty))=false:=by
 rcases h with h | h <;> subst h <;> decide +kernel
def Aax:Sp:=λvs H Q _=>∃(t:List Nat),vs=[.str (tx t),.int (t.length:Int),.str "#."]/\(∀ c∈t,Sg c)/\t.length<=40/\Q .non H
theorem Aay(T:Txt K mg t):Br P w K mg base CX0 1 t.Uo t.Up ["text", "ends", "signs"] Aax:=by
 refine T.Oa.F.ok R0 (λvs H Q E h=>?_) (λcdv A outer s H vs Q E hr h=>?_)
 ·obtain⟨t,rfl,_⟩:=h
  rfl
 ·obtain⟨t,rfl,hsg,hl,k⟩:=h
  refine⟨_,(Ac (Bj (Aj Jg (Az Bo rfl T.Cr Bs (Aa (pv 0) Ab)) (pv 1) (Am _))
    (Ad GZ)
    An)
   (Ad (Fw PassesOwn.never rfl (Nm (pv 0)) (BK (i:=3) R0.nd rfl (Or.inl rfl))
    (Ad (Bj (Aj Th (pv 3) (pv 2) rfl)
     (Ad GZ)
     An))))),?_⟩
  refine⟨_,rfl,_,rfl,(by rw[Ai];exact Bq hl),_,rfl,rfl,_,rfl,?_⟩
  refine JT (by rw[Ai]) ?_
  refine⟨_,rfl,_,rfl,Abv (z:=tx t) (λi σ H2=>∃ v,σ=[some (.str (tx t)),some (.int (t.length:Int)),some (.str "#."),v]/\H2=H) ⟨none,rfl,rfl⟩ ?_ ?_⟩
  ·rintro i c σ H2 hc ⟨v,rfl,rfl⟩
   rw[Np] at hc
   refine⟨_,rfl,_,rfl,_,_,rfl,rfl,_,rfl,?_⟩
   rw[occ (hsg c (ApD hc))]
   exact Hu ⟨_,rfl,rfl⟩
  ·rintro σ H2 ⟨v,rfl,rfl⟩
   exact k
def Vf (K:W.Frag):Sp:=λvs H Q _=>∃(a:Addr) (cl:List (List Nat)) (m n:Nat),vs=[.ref a,.int 1,.str "#."]/\SqL K H a (vS cl)/\Cl cl m n/\∀ p,H p=none->Q (.ref p) (upd H p (.tup [.int (m:Int),.int (n:Int)]))
theorem Vg(T:Txt K mg t):Br P w K mg base CX0 2 t.My t.Mz ["texts", "least", "signs"] (Vf K):=by
 refine T.HR.F.ok Hw (λvs H Q E h=>?_) (λcdv A outer s H vs Q E hr h=>?_)
 ·obtain⟨a,cl,m,n,rfl,_⟩:=h
  rfl
 ·obtain⟨a,cl,m,n,rfl,hS,C,k⟩:=h
  have hlen:(vS cl).length=n:=by rw[Ba,C.hn]
  have h0:0<cl.length:=by rw[C.hn];exact C.n1
  have hm0:=C.hm cl[0] (ApI h0)
  have c1:=C.n1
  have c2:=C.n40
  have c3:=C.m1
  have c4:=C.m40
  refine⟨_,(Ac (Bj (PW.pt (pw_or (Aj Kz (Az (Bb (K:=K)) rfl T.Cr Bs (Aa (pv 0) Ab)) (pv 1) (Am _)) (pw_or1 (Aj Ht (Az (Bb (K:=K)) rfl T.Cr Bs (Aa (pv 0) Ab)) (Ce (v:=.int 40) rfl T.Dt.choose_spec ⟨_,rfl⟩) (Am _)))))
    (Ad GZ)
    An)
   (Ac (Bh (i:=3) Hw.nd rfl (Or.inl rfl) (Az Bo rfl T.Cr Bs (Aa (Bf (Ax (K:=K)) (pv 0) Ag (λ_ _=>rfl)) Ab)))
   (Ac (Bj (PW.pt (pw_or (Aj Kz (pv 3) (pv 1) (Am _)) (pw_or1 (Aj Ht (pv 3) (Ce (v:=.int 40) rfl T.Dt.choose_spec ⟨_,rfl⟩) (Am _)))))
    (Ad GZ)
    An)
   (Ac (Fw PassesOwn.never rfl (CV (K:=K) (pv 0)) (BK (i:=4) Hw.nd rfl (Or.inl rfl))
    (Ad (Bl (Aq ((Aay T).mono (by decide)) hr rfl T.Oa.m T.Oa.F.kp T.Oa.b .nil Ak (Aa (pv 4) (Aa (pv 3) (Aa (pv 2) Ab)))))))
   (Ad (Av (DG (Aa (pv 3) (Aa (Az (Bb (K:=K)) rfl T.Cr Bs (Aa (pv 0) Ab)) Ab))))))))),?_⟩
  refine⟨_,rfl,_,_,rfl,.inl hS,_,rfl,_,_,rfl,rfl,_,rfl,?_⟩
  refine Dc (by rw[hlen];lia) ?_
  refine⟨_,rfl,_,_,rfl,.inl hS,_,_,rfl,rfl,_,rfl,?_⟩
  refine Dc (by rw[hlen];lia) ?_
  refine⟨_,rfl,_,_,_,_,rfl,rfl,hS,Cj (by decide) (Aby (Apu h0)),_,rfl,(by rw[Ai,hm0];exact Bq c4),?_⟩
  rw[Ai,hm0]
  refine⟨_,rfl,_,rfl,_,_,rfl,rfl,_,rfl,?_⟩
  refine Dc (by lia) ?_
  refine⟨_,rfl,_,_,rfl,rfl,_,rfl,?_⟩
  refine Dc (by lia) ?_
  refine⟨_,rfl,_,rfl,⟨_,hS⟩,Jf (K:=K) (a:=a) (xs:=vS cl) (λi σ H2=>∃ v,σ=[some (.ref a),some (.int 1),some (.str "#."),some (.int (m:Int)),v]/\H2=H) ⟨none,rfl,rfl⟩ (λi σ H2 _ ⟨_,_,e⟩=>e▸hS) ?_ ?_⟩
  ·rintro i x σ H2 hx ⟨v,rfl,rfl⟩
   obtain⟨t,ht,rfl⟩:=GP hx
   have htm:=ApD ht
   refine⟨_,rfl,_,rfl,_,rfl,t,?_,C.sg t htm,?_,⟨_,rfl,rfl⟩⟩
   ·rw[C.hm t htm];rfl
   ·rw[C.hm t htm];exact c4
  ·rintro σ H2 ⟨v,rfl,rfl⟩
   refine⟨_,rfl,_,rfl,_,_,rfl,.inl hS,(by show 2<=sizeLine;decide),λp hp=>?_⟩
   rw[hlen]
   exact k p hp
def Ad4 (K:W.Frag):Sp:=λvs H Q _=>∃(a:Addr) (cl:List (List Nat)) (m n:Nat),vs=[.ref a]/\SqL K H a (vS cl)/\Cl cl m n/\∀ p,H p=none->Q (.ref p) (upd H p (.tup [.int (m:Int),.int (n:Int)]))
theorem Hq(T:Txt K mg t):Br P w K mg base CX0 3 t.YH t.YJ ["cloth"] (Ad4 K):=by
 refine T.measured.F.ok Adf (λvs H Q E h=>?_) (λcdv A outer s H vs Q E hr h=>?_)
 ·obtain⟨a,cl,m,n,rfl,_⟩:=h
  rfl
 ·obtain⟨a,cl,m,n,rfl,hS,C,k⟩:=h
  exact⟨_,(Ad (Av (Aq ((Vg T).mono (by decide)) hr rfl T.HR.m T.HR.F.kp T.HR.b .nil Ak (Aa (pv 0) (Aa Ag (Aa Af Ab)))))),_,rfl,a,cl,m,n,rfl,hS,C,k⟩
def Acf (K:W.Frag):Sp:=λvs H Q _=>∃(a:Addr) (cl:List (List Nat)) (m n e:Nat),vs=[.ref a,.int (e:Int)]/\SqL K H a (vS cl)/\Cl cl m n/\e<m/\∀ H',Be H H'->Q (.str (tx (col cl e))) H'
theorem Acg(T:Txt K mg t):Br P w K mg base CX0 1 t.W4 t.W5 ["cloth", "end"] (Acf K):=by
 refine T.Rg.F.ok AbD (λvs H Q E h=>?_) (λcdv A outer s H vs Q E hr h=>?_)
 ·obtain⟨a,cl,m,n,e,rfl,_⟩:=h
  rfl
 ·obtain⟨a,cl,m,n,e,rfl,hS,C,he,k⟩:=h
  have c2:=C.n40
  have c4:=C.m40
  refine⟨_,(Ad (Av (Dj (K:=K) F.plainAttrs_str F.slot_str_join F.type_str_join (Ed (K:=K)) Af (Aa (Dl (CG.mk (Bd:=[1]) (Nc:=["text", "end"]) rfl (by decide +kernel) (by decide +kernel) (Cp (sc0:=Ah Ql) rfl (by decide +kernel)) rfl rfl rfl (by decide +kernel) (λk j h=>match k,h with | 0,h=>by obtain rfl:=Option.some.inj h;exact⟨_,rfl,rfl,rfl⟩ | _+1,h=>by simp at h)) rfl (CV (K:=K) (pv 0)) (λ_ _ _ _ _=>.nil) (λ_ _ _ _ _=>(Bf Jo (pv 0) (pv 1) (λ_ _=>rfl)))) Ab)))),?_⟩
  refine⟨rfl,_,rfl,_,rfl,⟨_,hS⟩,DY (K:=K) (a:=a) (xs:=vS cl) (λi ys H2=>H2=H/\ys=vS ((cl.take i).map λt=>[t.getD e 0])) ⟨rfl,rfl⟩ ?_ ?_ ?_ ?_⟩
  ·rintro i ys H2 hi ⟨rfl,rfl⟩
   refine⟨hS,?_⟩
   rw[Ba,Apq,Ap2]
   lia
  ·rw[Ba,C.hn];exact Bq c2
  ·rintro i x ys H2 hi hx ⟨rfl,rfl⟩
   obtain⟨t,ht,rfl⟩:=GP hx
   have htm:=ApD ht
   have htl:=C.hm t htm
   have hel:e<t.length:=by lia
   refine Dh.no ?_
   refine⟨_,rfl,_,rfl,_,_,t[e],rfl,rfl,(by rw[Ai,htl];exact Bq c4),(by rw[Et];exact AeF (Apu hel)),?_⟩
   refine CN.of hi ⟨rfl,?_⟩
   rw[Gr,CP,Ap4,ht,Apx]
   simp[List.getD,hel]
  ·rintro ys H2 p ⟨rfl,rfl⟩ hp
   rw[Ba,ApJ]
   refine⟨_,_,((cl.map λt=>[t.getD e 0]).map tx),rfl,rfl,SqL.of (by rw[Ae,GQ]),?_,?_⟩
   ·have e1:=Ajd (λt:List Nat=>t.getD e 0) cl
    rw[e1,Apq,Apq,C.hn]
    have:n*(Str.length "")=0:=by rw[show Str.length "" = 0 from by decide +kernel];lia
    lia
   ·rw[show(("" : Str))=tx [] from by decide +kernel,FN]
    have e2:(cl.map λt=>[t.getD e 0]).flatten=col cl e:=Om (λt:List Nat=>t.getD e 0) cl
    rw[e2]
    exact k _ (.upd hp)
def Agz:Sp:=λvs H Q _=>∃(t:List Nat),vs=[.str (tx t)]/\t.length<=40/\∀ H',Be H H'->Q (.str (tx (t.map flip))) H'
theorem Pz(T:Txt K mg t):Br P w K mg base CX0 1 t.Qx t.Qy ["signs"] Agz:=by
 refine T.FT.F.ok Xf (λvs H Q E h=>?_) (λcdv A outer s H vs Q E hr h=>?_)
 ·obtain⟨t,rfl,_⟩:=h
  rfl
 ·obtain⟨t,rfl,hl,k⟩:=h
  refine⟨_,(Ad (Av (Dj (K:=K) F.plainAttrs_str F.slot_str_join F.type_str_join (Ed (K:=K)) Af (Aa (Dl (CG.mk (Bd:=[]) (Nc:=["sign"]) rfl (by decide +kernel) (by decide +kernel) (Cp (sc0:=Ah JW) rfl (by decide +kernel)) rfl rfl rfl (by decide +kernel) (λ_ _ h=>by simp at h)) rfl (Nm (pv 0)) (λ_ _ _ _ _=>.nil) (λ_ _ _ _ _=>(PQ (Aj Cu (pv 0) Af (Am _)) Af Af))) Ab)))),?_⟩
  refine⟨rfl,_,rfl,_,rfl,LK (z:=tx t) (λi ys H2=>H2=H/\ys=vS ((t.take i).map λc=>[flip c])) ⟨rfl,rfl⟩ ?_ ?_ ?_ ?_⟩
  ·rintro i ys H2 hi ⟨rfl,rfl⟩
   rw[Ba,Apq,Ap2]
   lia
  ·rw[Gh];exact Bq hl
  ·rintro i c ys H2 hi hc ⟨rfl,rfl⟩
   rw[Np] at hc
   refine Dh.no ?_
   have fin:∀ d,d=flip c->CN (tx t).cps.size (λi ys H2'=>H2'=H2/\ys=vS ((t.take i).map λc=>[flip c])) i (vS ((t.take i).map λc=>[flip c])++[.str (tx [d])]) H2:=λd hd=>by
    subst hd
    refine CN.of hi ⟨rfl,?_⟩
    rw[CP,Ap4,hc,Apx]
    rfl
   refine⟨_,rfl,rfl,_,rfl,?_⟩
   refine Dk (λh=>?_) (λh=>?_)
   ·have e:c=35:=by
     rw[<- e35] at h
     injection h with h
     exact List.cons.inj (Jp h) |>.1
    have:=fin 46 (by rw[e];rfl)
    rw[<- Gr,e46] at this
    exact this
   ·have e:c≠35:=λz=>h (by rw[z];exact e35)
    have:=fin 35 (by unfold flip;rw[if_neg e])
    rw[<- Gr,e35] at this
    exact this
  ·rintro ys H2 p ⟨rfl,rfl⟩ hp
   rw[Gh,ApJ]
   refine⟨_,_,((t.map λc=>[flip c]).map tx),rfl,rfl,SqL.of (by rw[Ae,GQ]),?_,?_⟩
   ·have e1:=Ajd flip t
    rw[e1,Apq,Apq]
    have:t.length*(Str.length "")=0:=by rw[show Str.length "" = 0 from by decide +kernel];lia
    lia
   ·rw[show(("" : Str))=tx [] from by decide +kernel,FN]
    have e2:=Om flip t
    rw[e2]
    exact k _ (.upd hp)
def AjO (K:W.Frag):Sp:=λvs H Q _=>∃(a:Addr) (cl:List (List Nat)) (m n:Nat),vs=[.ref a]/\SqL K H a (vS cl)/\Cl cl m n/\∀ l H',Be H H'->H l=none->H' l=some (.lst (vS (back cl)))->Q (.ref l) H'
theorem Ae2(T:Txt K mg t):Br P w K mg base CX0 4 t.AaU t.AaV ["cloth"] (AjO K):=by
 refine T.X4.F.ok Aeo (λvs H Q E h=>?_) (λcdv A outer s H vs Q E hr h=>?_)
 ·obtain⟨a,cl,m,n,rfl,_⟩:=h
  rfl
 ·obtain⟨a,cl,m,n,rfl,hS,C,k⟩:=h
  have c2:=C.n40
  have c4:=C.m40
  refine⟨_,(Ac (Bl (Aq ((Hq T).mono (by decide)) hr rfl T.measured.m T.measured.F.kp T.measured.b .nil Ak (Aa (pv 0) Ab)))
   (Ad (Av (Dl (CG.mk (Bd:=[]) (Nc:=["text"]) rfl (by decide +kernel) (by decide +kernel) (Cp (sc0:=Ah V9) rfl (by decide +kernel)) rfl rfl rfl (by decide +kernel) (λ_ _ h=>by simp at h)) rfl (CV (K:=K) (pv 0)) (λ_ _ _ _ _=>.nil) (λ_ _ _ _ _=>(Aq ((Pz T).mono (by decide)) hr rfl T.FT.m T.FT.F.kp T.FT.b .nil Ak (Aa (Dj (K:=K) F.plainAttrs_str F.slot_str_join F.type_str_join Yl Af (Aa (Cm Wm rfl T.Im Jj (Aa (pv 0) Ab)) Ab)) Ab))))))),?_⟩
  refine⟨_,rfl,a,cl,m,n,rfl,hS,C,λp hp=>?_⟩
  have s1:Be H (upd H p (.tup [.int (m:Int),.int (n:Int)])):=.upd hp
  refine⟨_,rfl,_,rfl,⟨_,s1.seq hS⟩,DY (K:=K) (a:=a) (xs:=vS cl) (λi ys H2=>Be H H2/\ys=vS ((cl.take i).map λt=>t.reverse.map flip)) ⟨s1,rfl⟩ ?_ ?_ ?_ ?_⟩
  ·rintro i ys H2 hi ⟨s2,rfl⟩
   refine⟨s2.seq hS,?_⟩
   rw[Ba,Apq,Ap2]
   lia
  ·rw[Ba,C.hn];exact Bq c2
  ·rintro i x ys H2 hi hx ⟨s2,rfl⟩
   obtain⟨t,ht,rfl⟩:=GP hx
   have htm:=ApD ht
   have htl:=C.hm t htm
   refine Dh.no ?_
   refine⟨rfl,_,rfl,_,rfl,(by rw[Ai,htl];exact Bq c4),λq hq=>?_⟩
   refine⟨_,_,q,rfl,rfl,Ae,(by decide +kernel),(by rw[Ai];lia),?_⟩
   rw[Et,show(("" : Str))=tx [] from by decide +kernel,show(t.reverse.map λc=>(⟨#[c]⟩:Str))=(t.reverse.map λc=>[c]).map tx by rw[Aqa];rfl,FN]
   have e2:(t.reverse.map λc=>[c]).flatten=t.reverse:=(Om id t.reverse).trans (Aqc _)
   rw[e2]
   refine⟨t.reverse,rfl,(by rw[ApV];lia),λH3 s3=>?_⟩
   refine CN.of hi ⟨((s2.new hq).over (s2.free hq)).trans s3,?_⟩
   rw[CP,Ap4,ht,Apx]
   rfl
  ·rintro ys H2 p2 ⟨s2,rfl⟩ hp2
   rw[Ba,ApJ]
   exact k p2 _ (s2.new hp2) (s2.free hp2) Ae
def Ae3 (K:W.Frag):Sp:=λvs H Q _=>∃(a:Addr) (cl:List (List Nat)) (m n:Nat),vs=[.ref a]/\SqL K H a (vS cl)/\Cl cl m n/\∀ l H',Be H H'->H l=none->H' l=some (.lst (vS (Wo cl m)))->Q (.ref l) H'
theorem Aaz(T:Txt K mg t):Br P w K mg base CX0 4 t.Ul t.Um ["cloth"] (Ae3 K):=by
 refine T.NZ.F.ok Rz (λvs H Q E h=>?_) (λcdv A outer s H vs Q E hr h=>?_)
 ·obtain⟨a,cl,m,n,rfl,_⟩:=h
  rfl
 ·obtain⟨a,cl,m,n,rfl,hS,C,k⟩:=h
  have c2:=C.n40
  have c4:=C.m40
  refine⟨_,(Ac (Bh (i:=1) Rz.nd rfl (Or.inl rfl) (Aq ((Hq T).mono (by decide)) hr rfl T.measured.m T.measured.F.kp T.measured.b .nil Ak (Aa (pv 0) Ab)))
   (Ad (Av (Dl (CG.mk (Bd:=[0]) (Nc:=["end", "cloth"]) rfl (by decide +kernel) (by decide +kernel) (Cp (sc0:=Ah N5) rfl (by decide +kernel)) rfl rfl rfl (by decide +kernel) (λk j h=>match k,h with | 0,h=>by obtain rfl:=Option.some.inj h;exact⟨_,rfl,rfl,rfl⟩ | _+1,h=>by simp at h)) rfl (Dw rfl T.Ey (Aa (Bf (Dd (K:=K)) (pv 1) Ag (λ_ _=>rfl)) Ab)) (λ_ _ _ _ _=>.nil) (λ_ _ _ _ _=>(Aq ((Pz T).mono (by decide)) hr rfl T.FT.m T.FT.F.kp T.FT.b .nil Ak (Aa (Aq ((Acg T).mono (by decide)) hr rfl T.Rg.m T.Rg.F.kp T.Rg.b .nil Ak (Aa (pv 1) (Aa (pv 0) Ab))) Ab))))))),?_⟩
  refine⟨_,rfl,a,cl,m,n,rfl,hS,C,λp hp=>?_⟩
  have s1:Be H (upd H p (.tup [.int (m:Int),.int (n:Int)])):=.upd hp
  refine⟨_,rfl,_,_,_,_,rfl,rfl,SqT.of Ae,Cj (by decide) rfl,(m:Int),rfl,(by lia),(by lia),?_⟩
  rw[Ap1]
  refine Ea (lo:=0) (n:=m) (λi ys H2=>Be H H2/\ys=vS ((List.range i).map λe=>(col cl e).map flip)) ⟨s1,rfl⟩ ?_ ?_ ?_ ?_
  ·rintro i ys H2 hi ⟨s2,rfl⟩
   rw[Ba,Apq,ApE]
   lia
  ·exact Bq c4
  ·rintro i ys H2 hi ⟨s2,rfl⟩
   refine Dh.no ?_
   refine⟨_,rfl,_,rfl,a,cl,m,n,i,(by rw[ApS];rfl),s2.seq hS,C,hi,λH3 s3=>?_⟩
   refine⟨col cl i,rfl,(by unfold col;rw[Apq,C.hn];lia),λH4 s4=>?_⟩
   refine CN.of hi ⟨(s2.trans s3).trans s4,?_⟩
   rw[CP,ApZ,Apx]
   rfl
  ·rintro ys H2 p2 ⟨s2,rfl⟩ hp2
   exact k p2 _ (s2.new hp2) (s2.free hp2) Ae
def Aiz (K:W.Frag)(t:Adr):Sp:=λvs H Q E=>∃(a:Addr) (cl:List (List Nat)) (m n:Nat) (ac al:Int),vs=[.ref a,.int ac,.int al]/\SqL K H a (vS cl)/\Cl cl m n/\1<=ac/\1<=al /\
 (((m:Int)*ac<=40/\(n:Int)*al<=40)->∀ l H',Be H H'->H l=none->H' l=some (.lst (vS (til cl ac.toNat al.toNat)))->Q (.ref l) H')/\(¬((m:Int)*ac<=40/\(n:Int)*al<=40)->∀ H',Be H H'->E (.ref t.CZ) none H')
theorem Abg{m:Nat}{z:Int}(hm:1<=m)(hz:1<=z)(h:(m:Int)*z<=40):z<=40:=by
 have:1*z<=(m:Int)*z:=Int.mul_le_mul_of_nonneg_right (by lia) (by lia)
 lia
theorem Z7{m:Nat}{z:Int}(hz:1<=z)(h:(m:Int)*z<=40):z.toNat*m<=40:=by
 have e:z=(z.toNat:Int):=by lia
 rw[e,<- ApL] at h
 rw[Aqg]
 lia
theorem Ae4(cl:List (List Nat)):∀ k:Nat,(List.replicate k (vS cl)).flatten=vS ((List.replicate k cl).flatten)
 | 0=>rfl
 | k+1=>by
  rw[ApM,ApH,Ae4 cl k,ApM,ApH]
  unfold vS
  rw[Apx]
theorem Ai0(T:Txt K mg t):Br P w K mg base (CX1 P w) 4 t.Afk t.Afl ["cloth", "across", "along"] (Aiz K t):=by
 refine T.Afm.F.okX Adg (λvs H Q E h=>?_) (λcdv A outer s H vs Q E hr h=>?_)
 ·obtain⟨a,cl,m,n,ac,al,rfl,_⟩:=h
  rfl
 ·obtain⟨a,cl,m,n,ac,al,rfl,hS,C,h1,h2,k1,k2⟩:=h
  have hsz:sizeLine=16777216:=sizeLine_eq
  have c1:=C.n1
  have c2:=C.n40
  have c3:=C.m1
  have c4:=C.m40
  refine⟨_,(Ac (Bh (i:=3) Adg.nd rfl (Or.inl rfl) (Aq ((Hq T).mono (by decide)) hr rfl T.measured.m T.measured.F.kp T.measured.b .nil Ak (Aa (pv 0) Ab)))
   (Ac (Bj (PW.pt (pw_or (Aj Ht (Ar Gp (Bf (Dd (K:=K)) (pv 3) Ag (λ_ _=>rfl)) (pv 1)) (Ce (v:=.int 40) rfl T.Dt.choose_spec ⟨_,rfl⟩) (Am _)) (pw_or1 (Aj Ht (Ar Gp (Bf (Dd (K:=K)) (pv 3) Ag (λ_ _=>rfl)) (pv 2)) (Ce (v:=.int 40) rfl T.Dt.choose_spec ⟨_,rfl⟩) (Am _)))))
    (Ad (CQ Fp rfl (λ_ _ z=>z) F.excBase_ValueError El F.excBase_ValueError T.Ko.q rfl T.Ol (Aa Af Ab)))
    An)
   (Ad (Av (Ar Abt (PE.nox (Dl (CG.mk (Bd:=[1]) (Nc:=["text", "across"]) rfl (by decide +kernel) (by decide +kernel) (Cp (sc0:=Ah AbE) rfl (by decide +kernel)) rfl rfl rfl (by decide +kernel) (λk j h=>match k,h with | 0,h=>by obtain rfl:=Option.some.inj h;exact⟨_,rfl,rfl,rfl⟩ | _+1,h=>by simp at h)) rfl (CV (K:=K) (pv 0)) (λ_ _ _ _ _=>.nil) (λ_ _ _ _ _=>(Ar K6 (pv 0) (pv 1))))) (pv 2)))))),?_⟩
  refine⟨_,rfl,a,cl,m,n,rfl,hS,C,λp hp=>?_⟩
  have s1:Be H (upd H p (.tup [.int (m:Int),.int (n:Int)])):=.upd hp
  have gp:SqT K (upd H p (.tup [.int (m:Int),.int (n:Int)])) p [.int (m:Int),.int (n:Int)]:=SqT.of Ae
  refine⟨_,rfl,_,_,_,_,rfl,rfl,gp,Cj (by decide) rfl,_,rfl,_,_,rfl,rfl,.inl ⟨by lia,by lia⟩,_,_,rfl,rfl,_,rfl,?_⟩
  refine Dk (λg1=>?_) (λg1=>?_)
  ·exact Gq ⟨by decide,k2 (λz=>by lia) _ s1⟩
  refine⟨_,rfl,_,_,_,_,rfl,rfl,gp,Cj (by decide) rfl,_,rfl,_,_,rfl,rfl,.inl ⟨by lia,by lia⟩,_,_,rfl,rfl,_,rfl,?_⟩
  refine Dk (λg2=>?_) (λg2=>?_)
  ·exact⟨by decide,k2 (λz=>by lia) _ s1⟩
  have b1:(m:Int)*ac<=40:=by lia
  have b2:(n:Int)*al<=40:=by lia
  have a40:=Abg c3 h1 b1
  have l40:=Abg c1 h2 b2
  have d1:=Z7 h1 b1
  have d2:=Z7 h2 b2
  refine⟨_,rfl,_,rfl,⟨_,s1.seq hS⟩,DY (K:=K) (a:=a) (xs:=vS cl) (λi ys H2=>H2=upd H p (.tup [.int (m:Int),.int (n:Int)])/\ys=vS (wid (cl.take i) ac.toNat)) ⟨rfl,rfl⟩ ?_ ?_ ?_ ?_⟩
  ·rintro i ys H2 hi ⟨rfl,rfl⟩
   refine⟨s1.seq hS,?_⟩
   unfold wid
   rw[Ba,Apq,Ap2]
   lia
  ·rw[Ba,C.hn];exact Bq c2
  ·rintro i x ys H2 hi hx ⟨rfl,rfl⟩
   obtain⟨t,ht,rfl⟩:=GP hx
   have htl:=C.hm t (ApD ht)
   refine Dh.no ?_
   refine⟨_,rfl,_,rfl,t,ac,rfl,rfl,by lia,by lia,(by rw[htl,Aqg];lia),?_⟩
   refine CN.of hi ⟨rfl,?_⟩
   unfold wid
   rw[CP,Ap4,ht,Apx]
   rfl
  ·rintro ys H2 q ⟨rfl,rfl⟩ hq
   rw[Ba,ApJ]
   refine⟨_,rfl,_,_,_,rfl,rfl,Ae,by lia,by lia,?_,λl hl=>?_⟩
   ·rw[Ba]
    unfold wid
    rw[Apq,C.hn,Aqg]
    lia
   ·rw[Ae4]
    exact k1 ⟨b1,b2⟩ l _ ((s1.new hq).new hl) ((s1.new hq).free hl) Ae
def AjP (K:W.Frag):Sp:=λvs H Q _=>∃(b c:Addr) (cb cc:List (List Nat)) (w h:Nat),vs=[.ref b,.ref c]/\SqL K H b (vS cb)/\SqL K H c (vS cc)/\Cl cb w h/\Cl cc w h /\
 ∀ p H',Be H H'->H' p=some (.tup [.int (w:Int),.int (h:Int)])->Q (.ref p) H'
theorem Ach(T:Txt K mg t):Br P w K mg base CX0 4 t.W6 t.W7 ["one", "other"] (AjP K):=by
 refine T.Rh.F.ok T4 (λvs H Q E h=>?_) (λcdv A outer s H vs Q E hr h=>?_)
 ·obtain⟨b,c,cb,cc,w,h,rfl,_⟩:=h
  rfl
 ·obtain⟨b,c,cb,cc,w,h,rfl,hB,hC,C,C',k⟩:=h
  refine⟨_,(Ac (Bh (i:=2) T4.nd rfl (Or.inl rfl) (Aq ((Hq T).mono (by decide)) hr rfl T.measured.m T.measured.F.kp T.measured.b .nil Ak (Aa (pv 0) Ab)))
   (Ac (Bj (Aj (Aj0 (K:=K) (hr.AcL)) (Aq ((Hq T).mono (by decide)) hr rfl T.measured.m T.measured.F.kp T.measured.b .nil Ak (Aa (pv 1) Ab)) (pv 2) (Am _))
    (Ad GZ)
    An)
   (Ad (Av (pv 2))))),?_⟩
  refine⟨_,rfl,b,cb,w,h,rfl,hB,C,λp np=>?_⟩
  have s1:Be H (upd H p (.tup [.int (w:Int),.int (h:Int)])):=.upd np
  have hp1:(upd H p (.tup [.int (w:Int),.int (h:Int)])) p=some (.tup (vI [(w:Int),(h:Int)])):=Ae
  generalize upd H p (.tup [.int (w:Int),.int (h:Int)])=H1 at s1 hp1 ⊢
  refine⟨_,rfl,c,cc,w,h,rfl,s1.seq hC,C',λp' np'=>?_⟩
  have s2:Be H1 (upd H1 p' (.tup [.int (w:Int),.int (h:Int)])):=.upd np'
  have hp2:(upd H1 p' (.tup [.int (w:Int),.int (h:Int)])) p'=some (.tup (vI [(w:Int),(h:Int)])):=Ae
  generalize upd H1 p' (.tup [.int (w:Int),.int (h:Int)])=H2 at s2 hp2 ⊢
  refine⟨_,rfl,p',p,_,_,rfl,rfl,SqT.of hp2,SqT.of (s2 _ _ hp1),_,rfl,?_⟩
  refine JT rfl ?_
  exact⟨_,rfl,k p _ (s1.trans s2) (s2 _ _ hp1)⟩
def rowOf(u a b:List Nat):List Nat:=u.flatMap λc=>if c=35 then a else b
theorem Ad5(pr one other:List (List Nat))(u:List Nat):fil (pr++[u]) one other=fil pr one other++(one.zip other).map λq=>rowOf u q.1 q.2:=by
 unfold fil rowOf
 rw[List.flatMap_append,List.flatMap_singleton]
def Ag0 (K:W.Frag)(t:Adr):Sp:=λvs H Q E=>∃(a b c:Addr) (pr one other:List (List Nat)) (m n w h:Nat),vs=[.ref a,.ref b,.ref c]/\SqL K H a (vS pr)/\SqL K H b (vS one)/\SqL K H c (vS other)/\Cl pr m n/\Cl one w h/\Cl other w h /\
 (m*w<=40/\n*h<=40->∀ l H',Be H H'->H l=none->H' l=some (.lst (vS (fil pr one other)))->Q (.ref l) H')/\(40<m*w\/40<n*h->∀ H',Be H H'->E (.ref t.CZ) none H')
theorem Wc(T:Txt K mg t):Br P w K mg base (CX1 P w) 5 t.O5 t.O6 ["profile", "one", "other"] (Ag0 K t):=by
 refine T.IK.F.okX DK (λvs H Q E h=>?_) (λcdv A outer s H vs Q E hr h=>?_)
 ·obtain⟨a,b,c,pr,one,other,m,n,w,h,rfl,_⟩:=h
  rfl
 ·obtain⟨a,b,c,pr,one,other,m,n,w,h,rfl,hA,hB,hC,C,C1,C2,k1,k2⟩:=h
  have hsz:sizeLine=16777216:=sizeLine_eq
  have m1:=C.m1
  have m40:=C.m40
  have n40:=C.n40
  have w40:=C1.m40
  have h40:=C1.n40
  refine⟨_,(Ac (Bh (i:=3) DK.nd rfl (Or.inl rfl) (Aq ((Hq T).mono (by decide)) hr rfl T.measured.m T.measured.F.kp T.measured.b .nil Ak (Aa (pv 0) Ab)))
   (Ac (Bh (i:=4) DK.nd rfl (Or.inl rfl) (Aq ((Ach T).mono (by decide)) hr rfl T.Rh.m T.Rh.F.kp T.Rh.b .nil Ak (Aa (pv 1) (Aa (pv 2) Ab))))
   (Ac (Bj (PW.pt (pw_or (Aj Ht (Ar Gp (Bf (Dd (K:=K)) (pv 3) Ag (λ_ _=>rfl)) (Bf (Dd (K:=K)) (pv 4) Ag (λ_ _=>rfl))) (Ce (v:=.int 40) rfl T.Dt.choose_spec ⟨_,rfl⟩) (Am _)) (pw_or1 (Aj Ht (Ar Gp (Bf (Dd (K:=K)) (pv 3) Ag (λ_ _=>rfl)) (Bf (Dd (K:=K)) (pv 4) Ag (λ_ _=>rfl))) (Ce (v:=.int 40) rfl T.Dt.choose_spec ⟨_,rfl⟩) (Am _)))))
    (Ad (CQ Fp rfl (λ_ _ z=>z) F.excBase_ValueError El F.excBase_ValueError T.Ko.q rfl T.Ol (Aa Af Ab)))
    An)
   (Ac (Bh (i:=5) DK.nd rfl (Or.inl rfl) (BV Ab))
   (Ac (PS.nox (Fw PassesOwn.never rfl (CV (K:=K) (pv 0)) (BK (i:=6) DK.nd rfl (Or.inl rfl))
    (Ad (Fw PassesOwn.never rfl (Ahj (K:=K) rfl T.Afn (Aa (pv 1) (Aa (pv 2) Ab))) (Nh rfl (De (BK (i:=7) DK.nd rfl (Or.inr rfl)) (De (BK (i:=8) DK.nd rfl (Or.inr rfl)) JH)))
     (Ad (Bl (Dj (K:=K) F.plainAttrs_list F.slot_list_append F.type_list_append Ga (pv 5) (Aa (Dj (K:=K) F.plainAttrs_str F.slot_str_join F.type_str_join (Ed (K:=K)) Af (Aa (Dl (CG.mk (Bd:=[7,8]) (Nc:=["sign", "of_one", "of_other"]) rfl (by decide +kernel) (by decide +kernel) (Cp (sc0:=Ah Ju) rfl (by decide +kernel)) rfl rfl rfl (by decide +kernel) (λk j h=>match k,h with | 0,h=>by obtain rfl:=Option.some.inj h;exact⟨_,rfl,rfl,rfl⟩ | 1,h=>by obtain rfl:=Option.some.inj h;exact⟨_,rfl,rfl,rfl⟩ | _+2,h=>by simp at h)) rfl (Nm (pv 6)) (λ_ _ _ _ _=>.nil) (λ_ _ _ _ _=>(PQ (Aj Cu (pv 0) Af (Am _)) (pv 1) (pv 2)))) Ab)) Ab))))))))
   (Ad (Av (pv 5)))))))),?_⟩
  refine⟨_,rfl,a,pr,m,n,rfl,hA,C,λp np=>?_⟩
  obtain⟨H1,e9,s1,hp1⟩:=nu9 (o:=.tup [.int (m:Int),.int (n:Int)]) (.refl _) np
  rw[e9]
  refine⟨_,rfl,_,rfl,b,c,one,other,w,h,rfl,s1.seq hB,s1.seq hC,C1,C2,λp2 H2 s2 hp2=>?_⟩
  have u2:=s1.trans s2
  have AmY:=s2 _ _ hp1
  refine⟨_,rfl,_,_,_,_,rfl,rfl,SqT.of AmY,Cj (by decide) rfl,_,rfl,_,_,_,_,rfl,rfl,SqT.of hp2,Cj (by decide) rfl,_,_,rfl,rfl,.inl ⟨by lia,by lia⟩,_,_,rfl,rfl,_,rfl,?_⟩
  have em:(m:Int)*(w:Int)=((m*w:Nat):Int):=by rw[ApL]
  have en:(n:Int)*(h:Int)=((n*h:Nat):Int):=by rw[ApL]
  rw[em]
  refine Dk (λg1=>?_) (λg1=>?_)
  ·exact Gq ⟨by decide,k2 (.inl (by lia)) _ u2⟩
  refine⟨_,rfl,_,_,_,_,rfl,rfl,SqT.of AmY,Cj (by decide) rfl,_,rfl,_,_,_,_,rfl,rfl,SqT.of hp2,Cj (by decide) rfl,_,_,rfl,rfl,.inl ⟨by lia,by lia⟩,_,_,rfl,rfl,_,rfl,?_⟩
  rw[en]
  refine Dk (λg2=>?_) (λg2=>?_)
  ·exact⟨by decide,k2 (.inr (by lia)) _ u2⟩
  have hm:m*w<=40:=by lia
  have hn:n*h<=40:=by lia
  have k:=k1 ⟨hm,hn⟩
  refine⟨Ap8 _,λq nq=>?_⟩
  have s3:Be H2 (upd H2 q (.lst [])):=.upd nq
  have hq3:(upd H2 q (.lst [])) q=some (.lst (vS [])):=Ae
  generalize upd H2 q (.lst [])=H3 at s3 hq3 ⊢
  have u3:=u2.trans s3
  have nqH:H q=none:=u2.free nq
  refine⟨_,rfl,_,rfl,⟨_,u3.seq hA⟩,Jf (K:=K) (a:=a) (xs:=vS pr) (λi σ H4=>∃(v6 v7 v8:Option V),σ=[some (.ref a),some (.ref b),some (.ref c),some (.ref p),some (.ref p2),some (.ref q),v6,v7,v8]/\Be H H4/\H4 q=some (.lst (vS (fil (pr.take i) one other))))
   ⟨none,none,none,rfl,u3,hq3⟩ (λi σ H4 _ ⟨_,_,_,_,s4,_⟩=>s4.seq hA) ?_ ?_⟩
  ·rintro i xv σ H4 hx ⟨v6,v7,v8,rfl,s4,hq4⟩
   obtain⟨u,hu,rfl⟩:=GP hx
   have lu:=C.hm u (ApD hu)
   have il:i<n:=by rw[<- C.hn];exact(List.getElem?_eq_some_iff.mp hu).1
   have et:pr.take (i+1)=pr.take i++[u]:=by rw[Ap4,hu];rfl
   have Apk:(fil (pr.take i) one other).length<=40:=by
    unfold fil
    rw[Gs (h:=h) _ λx _=>by rw[Apq,Aqt,C1.hn,C2.hn,Aqb],Ap2,C.hn,Aqh (by lia)]
    exact ApF (Nat.mul_le_mul_right h (Aqy il)) hn
   have lz:(one.zip other).length=h:=by rw[Aqt,C1.hn,C2.hn,Aqb]
   refine⟨_,rfl,_,rfl,b,c,rfl,⟨_,s4.seq hB⟩,⟨_,s4.seq hC⟩,AeM (K:=K) (a:=b) (b:=c) (xs:=vS one) (ys:=vS other) (n:=h) (by rw[Ba,Ba,C1.hn,C2.hn,Aqb]) (λj σ H5=>∃(v7 v8:Option V),σ=[some (.ref a),some (.ref b),some (.ref c),some (.ref p),some (.ref p2),some (.ref q),some (.str (tx u)),v7,v8]/\Be H H5/\H5 q=some (.lst (vS (fil (pr.take i) one other++((one.zip other).take j).map λq=>rowOf u q.1 q.2))))
    ⟨_,_,rfl,s4,by rw[List.take_zero,ApW,ApT];exact hq4⟩ (λj σ H5 ⟨_,_,_,s5,_⟩=>⟨s5.seq hB,s5.seq hC⟩) ?_ ?_⟩
   ·rintro j xo yo σ H5 TT hxo hyo ⟨v7',v8',rfl,s5,hq5⟩ nT
    obtain⟨ao,hao,rfl⟩:=GP hxo
    obtain⟨bo,hbo,rfl⟩:=GP hyo
    have la:=C1.hm ao (ApD hao)
    have lb:=C2.hm bo (ApD hbo)
    have jl:j<h:=by rw[<- C1.hn];exact(List.getElem?_eq_some_iff.mp hao).1
    have zj:(one.zip other)[j]?=some (ao,bo):=List.getElem?_zip_eq_some.mpr ⟨hao,hbo⟩
    have s6:Be H (upd H5 TT (.tup [.str (tx ao),.str (tx bo)])):=s5.new nT
    have hq6:=(Be.upd nT (o:=.tup [.str (tx ao),.str (tx bo)])) _ _ hq5
    refine⟨_,_,rfl,SqT.of Ae,rfl,_,_,rfl,_,_,rfl,rfl,?_⟩
    generalize upd H5 TT (.tup [.str (tx ao),.str (tx bo)])=H6 at s6 hq6 ⊢
    refine⟨_,rfl,.inl ⟨rfl,_,SqL.of hq6⟩,rfl,_,rfl,_,rfl,LK (z:=tx u) (λe ys H7=>H7=H6/\ys=vS ((u.take e).map λc=>if c=35 then ao else bo)) ⟨rfl,rfl⟩ ?_ ?_ ?_ ?_⟩
    ·rintro e ys H7 he ⟨rfl,rfl⟩
     rw[Ba,Apq,Ap2]
     lia
    ·rw[Gh,lu];exact Bq m40
    ·rintro e cc ys H7 he hcc ⟨rfl,rfl⟩
     rw[Np] at hcc
     refine Dh.no ?_
     refine⟨_,rfl,rfl,_,rfl,?_⟩
     have hh:("#" : Str)=⟨#[35]⟩:=by decide +kernel
     rw[hh]
     refine Dk (λz=>?_) (λz=>?_)
     ·refine⟨_,rfl,CN.of he ⟨rfl,?_⟩⟩
      rw[CP,Ap4,hcc,Apx]
      show _=vS (_++[if cc=35 then ao else bo])
      rw[if_pos (Ad3.mp z)]
     ·refine⟨_,rfl,CN.of he ⟨rfl,?_⟩⟩
      rw[CP,Ap4,hcc,Apx]
      show _=vS (_++[if cc=35 then ao else bo])
      rw[if_neg λy=>z (Ad3.mpr y)]
    ·rintro ys H7 p7 ⟨rfl,rfl⟩ np7
     rw[Gh,ApJ]
     have s7:Be H (upd H7 p7 (.lst (vS (u.map λc=>if c=35 then ao else bo)))):=s6.new np7
     have hq7:=(Be.upd np7 (o:=.lst (vS (u.map λc=>if c=35 then ao else bo)))) _ _ hq6
     have hp7:(upd H7 p7 (.lst (vS (u.map λc=>if c=35 then ao else bo)))) p7=some (.lst (vS (u.map λc=>if c=35 then ao else bo))):=Ae
     generalize upd H7 p7 (.lst (vS (u.map λc=>if c=35 then ao else bo)))=H8 at s7 hq7 hp7 ⊢
     have ef:(u.map λc=>if c=35 then ao else bo).flatten=rowOf u ao bo:=by unfold rowOf;rw[AqH]
     have lr:(rowOf u ao bo).length=m*w:=by
      unfold rowOf
      rw[Gs (h:=w) u λx _=>by split;exact la;exact lb,lu]
     refine⟨_,_,((u.map λc=>if c=35 then ao else bo).map tx),rfl,rfl,SqL.of (by rw[hp7,GQ]),?_,?_⟩
     ·have:∀ l:List (List Nat),((l.map tx).map (·.length)).sum=l.flatten.length:=λl=>by
       induction l with
       | nil=>rfl
       | cons x l ih=>rw[Apw,Apw,Aql,ih,ApH,Aps,Ai]
      rw[this,ef,lr]
      have:(((u.map λc=>if c=35 then ao else bo).map tx).length)*(Str.length "")=0:=by rw[show Str.length "" = 0 from by decide +kernel];lia
      lia
     ·rw[show(("" : Str))=tx [] from by decide +kernel,FN,ef]
      refine⟨_,_,_,rfl,rfl,hq7,(by rw[Ba,Aps,Apq,Ap2];lia),?_⟩
      rw[CP]
      refine⟨_,_,rfl,s7.over nqH,?_⟩
      rw[Ae,ApN,Ap4,zj,Apx]
      rfl
   ·rintro σ H5 ⟨v7',v8',rfl,s5,hq5⟩
    rw[ApP (l:=one.zip other) (i:=h) (by lia)] at hq5
    exact⟨_,_,_,rfl,s5,by rw[et,Ad5];exact hq5⟩
  ·rintro σ H4 ⟨v6,v7,v8,rfl,s4,hq4⟩
   rw[Ba,ApJ] at hq4
   exact⟨_,rfl,k q H4 s4 nqH hq4⟩
theorem AjQ{ns:List Int}{k:Nat}(h:k<=ns.length):Tj (vI ns) none (some (0+(k:Int)))=vI (ns.take k):=by
 unfold Tj
 rw[ApS,HT.Qa,HT.K3,Aq8,Gd,Aqh h,Nat.sub_zero]
 unfold vI
 rw[List.map_take]
theorem AmZ{ns:List Int}{k:Nat}(h:k<ns.length):atI (vI ns) (0+(k:Int))=some (.int (ns.getD k 0)):=by
 refine Cj (by lia) ?_
 rw[z0]
 have e:ns.getD k 0=ns[k]:=by simp[List.getD,h]
 rw[e]
 exact Ym (Apu h)
def Pcs (K:W.Frag)(H:Hp)(as:List Addr)(ps:List (List (List Nat))):Prop:=as.length=ps.length/\∀ i a,as[i]?=some a->SqL K H a (vS (ps.getD i []))
theorem AlD{as:List Addr}{z:Int}(h0:0<=z)(h:z.toNat<as.length):atI (as.map V.ref) z=some (.ref as[z.toNat]):=Cj h0 (by rw[Ap9,Apu h];rfl)
def Ae5 (K:W.Frag):Sp:=λvs H Q _=>∃(a:Addr) (os:List Int) (n:Int),vs=[.ref a,.int n]/\SqL K H a (vI os)/\1<=os.length/\os.length<=40/\(∀ z∈os,0<=z/\z<n)/\Q .non H
theorem P0(T:Txt K mg t):Br P w K mg base CX0 1 t.Qz t.Q0 ["owners", "pieces"] (Ae5 K):=by
 refine T.FW.F.ok Oo (λvs H Q E h=>?_) (λcdv A outer s H vs Q E hr h=>?_)
 ·obtain⟨a,os,n,rfl,_⟩:=h
  rfl
 ·obtain⟨a,os,n,rfl,hS,o1,o40,hz,k⟩:=h
  refine⟨_,(Ac (Bj (PW.pt (pw_or (Aj Kz (Az (Bb (K:=K)) rfl T.Cr Bs (Aa (pv 0) Ab)) Ag (Am _)) (pw_or1 (Aj Ht (Az (Bb (K:=K)) rfl T.Cr Bs (Aa (pv 0) Ab)) (Ce (v:=.int 40) rfl T.Dt.choose_spec ⟨_,rfl⟩) (Am _)))))
    (Ad GZ)
    An)
   (Ad (Fw PassesOwn.never rfl (CV (K:=K) (pv 0)) (BK (i:=2) Oo.nd rfl (Or.inl rfl))
    (Ad (Bj (PW.pt (pw_or (Aj Kz (pv 2) Ag (Am _)) (pw_or1 (Aj Ako (pv 2) (pv 1) (Am _)))))
     (Ad GZ)
     An))))),?_⟩
  refine⟨_,rfl,_,_,rfl,.inl hS,_,_,rfl,rfl,_,rfl,?_⟩
  refine Dc (by rw[Gd];lia) ?_
  refine⟨_,rfl,_,_,rfl,.inl hS,_,_,rfl,rfl,_,rfl,?_⟩
  refine Dc (by rw[Gd];lia) ?_
  refine⟨_,rfl,_,rfl,⟨_,hS⟩,Jf (K:=K) (a:=a) (xs:=vI os) (λi σ H2=>∃ v,σ=[some (.ref a),some (.int n),v]/\H2=H) ⟨none,rfl,rfl⟩ (λi σ H2 _ ⟨_,_,e⟩=>e▸hS) ?_ ?_⟩
  ·rintro i x σ H2 hx ⟨v,rfl,rfl⟩
   obtain⟨z,hz2,rfl⟩:=Alb hx
   have hb:=hz z (ApD hz2)
   refine⟨_,rfl,_,_,rfl,rfl,_,rfl,?_⟩
   refine Dc (by lia) ?_
   refine⟨_,rfl,_,rfl,_,_,rfl,rfl,_,rfl,?_⟩
   refine Dc (by lia) ?_
   exact⟨_,rfl,rfl⟩
  ·rintro σ H2 ⟨v,rfl,rfl⟩
   exact k
def Ag1 (K:W.Frag):Sp:=λvs H Q _=>∃(a:Addr) (cl:List (List Nat)) (m n:Nat),vs=[.ref a,.int (m:Int),.int (n:Int)]/\SqL K H a (vS cl)/\cl.length=n/\m<=40/\(∀ t∈cl,t.length=m/\∀ c∈t,Sg c)/\Q .non H
theorem Z8(T:Txt K mg t):Br P w K mg base CX0 1 t.RJ t.RK ["piece", "ends", "picks"] (Ag1 K):=by
 refine T.KQ.F.ok JX (λvs H Q E h=>?_) (λcdv A outer s H vs Q E hr h=>?_)
 ·obtain⟨a,cl,m,n,rfl,_⟩:=h
  rfl
 ·obtain⟨a,cl,m,n,rfl,hS,hn,hm,hc,k⟩:=h
  refine⟨_,(Ac (Bj (Aj Jg (Az (Bb (K:=K)) rfl T.Cr Bs (Aa (pv 0) Ab)) (pv 2) (Am _))
    (Ad GZ)
    An)
   (Ad (Fw PassesOwn.never rfl (CV (K:=K) (pv 0)) (BK (i:=3) JX.nd rfl (Or.inl rfl))
    (Ac (Bj (Aj Jg (Az Bo rfl T.Cr Bs (Aa (pv 3) Ab)) (pv 1) (Am _))
     (Ad GZ)
     An)
    (Ad (Fw PassesOwn.never rfl (Nm (pv 3)) (BK (i:=4) JX.nd rfl (Or.inl rfl))
     (Ad (Bj (Aj Th (pv 4) Af rfl)
      (Ad GZ)
      An)))))))),?_⟩
  refine⟨_,rfl,_,_,rfl,.inl hS,_,rfl,rfl,_,rfl,?_⟩
  refine JT (by rw[Ba,hn]) ?_
  refine⟨_,rfl,_,rfl,⟨_,hS⟩,Jf (K:=K) (a:=a) (xs:=vS cl) (λi σ H2=>∃ v v2,σ=[some (.ref a),some (.int (m:Int)),some (.int (n:Int)),v,v2]/\H2=H) ⟨none,none,rfl,rfl⟩ (λi σ H2 _ ⟨_,_,_,e⟩=>e▸hS) ?_ ?_⟩
  ·rintro i x σ H2 hx ⟨v,v2,rfl,rfl⟩
   obtain⟨u,hu,rfl⟩:=GP hx
   obtain⟨u1,u2⟩:=hc u (ApD hu)
   refine⟨_,rfl,_,rfl,(by rw[Ai,u1];exact Bq hm),_,rfl,rfl,_,rfl,?_⟩
   refine JT (by rw[Ai,u1]) ?_
   refine⟨_,rfl,_,rfl,Abv (z:=tx u) (λi σ H3=>∃ v2,σ=[some (.ref a),some (.int (m:Int)),some (.int (n:Int)),some (.str (tx u)),v2]/\H3=H2) ⟨_,rfl,rfl⟩ ?_ ?_⟩
   ·rintro i c σ H3 hc ⟨v2,rfl,rfl⟩
    rw[Np] at hc
    refine⟨_,rfl,_,_,rfl,rfl,_,rfl,?_⟩
    rw[occ (u2 c (ApD hc))]
    exact Hu ⟨_,rfl,rfl⟩
   ·rintro σ H3 ⟨v2,rfl,rfl⟩
    exact⟨_,_,rfl,rfl⟩
  ·rintro σ H2 ⟨v,v2,rfl,rfl⟩
   exact k
def Aa0 (os:List Int)(i:Nat):List Int:=(List.range i).map λk=>(plc os k:Int)
theorem Ad6(os:List Int)(i:Nat):(Aa0 os i).length=i:=by unfold Aa0;rw[Apq,ApE]
theorem Ag2(os:List Int)(i:Nat):Aa0 os (i+1)=Aa0 os i++[(plc os i:Int)]:=by unfold Aa0;rw[ApZ,Apx];rfl
theorem Ad7{os:List Int}{i k:Nat}(h:k<i):(Aa0 os i)[k]?=some (plc os k:Int):=by unfold Aa0;rw[Ap9,AqB h];rfl
def Ag3 (K:W.Frag):Sp:=λvs H Q _=>∃(a:Addr) (os:List Int),vs=[.ref a]/\SqL K H a (vI os)/\os.length<=40/\∀ l H',Be H H'->H l=none->H' l=some (.lst (vI (Aa0 os os.length)))->Q (.ref l) H'
theorem Ng(T:Txt K mg t):Br P w K mg base CX0 1 t.O9 t.OD ["owners"] (Ag3 K):=by
 refine T.Fb.F.ok VB (λvs H Q E h=>?_) (λcdv A outer s H vs Q E hr h=>?_)
 ·obtain⟨a,os,rfl,_⟩:=h
  rfl
 ·obtain⟨a,os,rfl,hS,o40,k⟩:=h
  refine⟨_,(Ad (Av (Dl (CG.mk (Bd:=[0]) (Nc:=["k", "owners"]) rfl (by decide +kernel) (by decide +kernel) (Cp (sc0:=Ah Jw) rfl (by decide +kernel)) rfl rfl rfl (by decide +kernel) (λk j h=>match k,h with | 0,h=>by obtain rfl:=Option.some.inj h;exact⟨_,rfl,rfl,rfl⟩ | _+1,h=>by simp at h)) rfl (Dw rfl T.Ey (Aa (Az (Bb (K:=K)) rfl T.Cr Bs (Aa (pv 0) Ab)) Ab)) (λ_ _ _ _ _=>.nil) (λ_ _ _ _ _=>(Dj (K:=K) F.plainAttrs_list F.slot_list_count F.type_list_count (V7 (K:=K)) (Hf (Qh (K:=K)) (pv 1) K4 (Hh (pv 0))) (Aa (Bf (Ax (K:=K)) (pv 1) (pv 0) (λ_ _=>rfl)) Ab)))))),?_⟩
  refine⟨_,rfl,_,_,rfl,.inl hS,_,rfl,(by lia),(by rw[Gd];lia),?_⟩
  rw[Ap1,Gd]
  refine Ea (lo:=0) (n:=os.length) (λi ys H2=>Be H H2/\ys=vI (Aa0 os i)) ⟨.refl _,rfl⟩ ?_ ?_ ?_ ?_
  ·rintro i ys H2 hi ⟨s2,rfl⟩
   rw[Gd,Ad6]
   exact Apv _
  ·exact Bq o40
  ·rintro i ys H2 hi ⟨s2,rfl⟩
   refine Dh.no ?_
   refine⟨_,rfl,_,rfl,_,rfl,_,_,rfl,s2.seq hS,λp hp=>?_⟩
   rw[AjQ (by lia)]
   have s3:Be H (upd H2 p (.lst (vI (os.take i)))):=s2.new hp
   refine⟨.inl ⟨rfl,_,SqL.of Ae⟩,_,rfl,_,rfl,_,_,_,_,rfl,rfl,s3.seq hS,AmZ hi,_,_,_,rfl,rfl,SqL.of Ae,?_⟩
   refine CN.of hi ⟨s3,?_⟩
   rw[Ag2,Aha]
   rfl
  ·rintro ys H2 l ⟨s2,rfl⟩ hl
   exact k l _ (s2.new hl) (s2.free hl) Ae
def Ag4:Sp:=λvs H Q _=>∃(o e:Int) (own:List Nat) (p:Nat),vs=[.int o,.str (tx own),.int e,.int (p:Int)]/\(o=e->p<own.length)/\own.length<=40/\Q (.str ⟨#[Tw o e own p]⟩) H
theorem AlE{u:List Nat}{i:Nat}(h:i<u.length):atI (tx u).cps.toList (i:Int)=some (u.getD i 0):=by
 refine Cj (by lia) ?_
 rw[Ap1]
 show u.toArray.toList[i]?=_
 simp[List.getD,h]
theorem Ae6(T:Txt K mg t):Br P w K mg base CX0 1 t.AaW t.AaX ["pick_owner", "own", "end_owner", "place"] Ag4:=by
 refine T.X5.F.ok Aep (λvs H Q E h=>?_) (λcdv A outer s H vs Q E hr h=>?_)
 ·obtain⟨o,e,own,p,rfl,_⟩:=h
  rfl
 ·obtain⟨o,e,own,p,rfl,hp,h40,k⟩:=h
  refine⟨_,(Ac (Bj (Aj Cu (pv 0) (pv 2) (Am _))
    (Ad (Av (Bf Jo (pv 1) (pv 3) (λ_ _=>rfl))))
    An)
   (Ad (Av (PQ (Aj Kz (pv 2) (pv 0) (Am _)) Af Af)))),?_⟩
  unfold Tw at k
  refine⟨_,rfl,_,rfl,rfl,_,rfl,?_⟩
  refine Dk (λh=>?_) (λh=>?_)
  ·have h:o=e:=by injection h
   rw[if_pos h] at k
   exact⟨_,rfl,_,rfl,_,_,_,rfl,rfl,(by rw[Ai];exact Bq h40),AlE (hp h),k⟩
  ·have h:¬o=e:=λz=>h (by rw[z])
   rw[if_neg h] at k
   refine⟨_,rfl,_,rfl,_,_,rfl,rfl,_,rfl,?_⟩
   refine Dk (λh2=>?_) (λh2=>?_)
   ·rw[if_pos h2,e35] at k
    exact k
   ·rw[if_neg h2,e46] at k
    exact k
def AjR (K:W.Frag):Sp:=λvs H Q _=>∃(p pe po:Addr) (as:List Addr) (ps:List (List (List Nat))) (es os:List Int),vs=[.ref p,.ref pe,.ref po]/\SqL K H p (as.map V.ref)/\Pcs K H as ps/\SqL K H pe (vI es)/\SqL K H po (vI os)/\Aec ps es os /\
 ∀ l H',Be H H'->H l=none->H' l=some (.lst (vS (lay ps es os)))->Q (.ref l) H'
theorem We(T:Txt K mg t):Br P w K mg base CX0 2 t.O7 t.O8 ["pieces", "ends", "picks"] (AjR K):=by
 refine T.IV.F.ok Cv (λvs H Q E h=>?_) (λcdv A outer s H vs Q E hr h=>?_)
 ·obtain⟨p,pe,po,as,ps,es,os,rfl,_⟩:=h
  rfl
 ·obtain⟨p,pe,po,as,ps,es,os,rfl,hP,hA,hE,hO,C,k⟩:=h
  have hsz:sizeLine=16777216:=sizeLine_eq
  have al:=hA.1
  have ce1:=C.e1
  have AjS:=C.e40
  have co1:=C.o1
  have Ana:=C.o40
  have ml:(as.map V.ref).length=ps.length:=by rw[Apq,al]
  refine⟨_,(Ac (Bl (Aq ((P0 T).mono (by decide)) hr rfl T.FW.m T.FW.F.kp T.FW.b .nil Ak (Aa (pv 1) (Aa (Az (Bb (K:=K)) rfl T.Cr Bs (Aa (pv 0) Ab)) Ab))))
   (Ac (Bl (Aq ((P0 T).mono (by decide)) hr rfl T.FW.m T.FW.F.kp T.FW.b .nil Ak (Aa (pv 2) (Aa (Az (Bb (K:=K)) rfl T.Cr Bs (Aa (pv 0) Ab)) Ab))))
   (Ac (Fw PassesOwn.never rfl (Ajz (K:=K) rfl T.Adj (Aa (pv 0) Ab)) (Nh rfl (De (BK (i:=3) Cv.nd rfl (Or.inl rfl)) (De (BK (i:=4) Cv.nd rfl (Or.inl rfl)) JH)))
    (Ad (Bl (Aq ((Z8 T).mono (by decide)) hr rfl T.KQ.m T.KQ.F.kp T.KQ.b .nil Ak (Aa (pv 4) (Aa (Dj (K:=K) F.plainAttrs_list F.slot_list_count F.type_list_count (V7 (K:=K)) (pv 1) (Aa (pv 3) Ab)) (Aa (Dj (K:=K) F.plainAttrs_list F.slot_list_count F.type_list_count (V7 (K:=K)) (pv 2) (Aa (pv 3) Ab)) Ab)))))))
   (Ac (Bh (i:=5) Cv.nd rfl (Or.inl rfl) (Aq ((Ng T).mono (by decide)) hr rfl T.Fb.m T.Fb.F.kp T.Fb.b .nil Ak (Aa (pv 1) Ab)))
   (Ac (Bh (i:=6) Cv.nd rfl (Or.inl rfl) (Aq ((Ng T).mono (by decide)) hr rfl T.Fb.m T.Fb.F.kp T.Fb.b .nil Ak (Aa (pv 2) Ab)))
   (Ac (Bh (i:=7) Cv.nd rfl (Or.inl rfl) (BV Ab))
   (Ac (Fw PassesOwn.never rfl (Ahj (K:=K) rfl T.Afn (Aa (pv 2) (Aa (pv 6) Ab))) (Nh rfl (De (BK (i:=8) Cv.nd rfl (Or.inr rfl)) (De (BK (i:=9) Cv.nd rfl (Or.inl rfl)) JH)))
    (Ac (Bh (i:=10) Cv.nd rfl (Or.inr rfl) (Bf (Ax (K:=K)) (Bf (Ax (K:=K)) (pv 0) (pv 8) (λ_ _=>rfl)) (pv 9) (λ_ _=>rfl)))
    (Ac (AaN (K:=K) (i:=11) (Nz.mk (Bd:=[8,10]) (Nc:=["end_owner", "k", "owner", "own"]) rfl (by decide +kernel) (by decide +kernel) (Cp (sc0:=Ah Jv) rfl (by decide +kernel)) rfl rfl rfl rfl rfl (by decide +kernel) (λk j h=>match k,h with | 0,h=>by obtain rfl:=Option.some.inj h;exact⟨_,rfl,rfl,rfl⟩ | 1,h=>by obtain rfl:=Option.some.inj h;exact⟨_,rfl,rfl,rfl⟩ | _+2,h=>by simp at h)) rfl Cv.nd rfl rfl (AeO (K:=K) rfl T.Afn (Aa (pv 1) (Aa (pv 5) Ab))) (λ_ _ _ _ _=>.nil) (λ_ _ _ _ _=>(Aq ((Ae6 T).mono (by decide)) hr rfl T.X5.m T.X5.F.kp T.X5.b .nil Ak (Aa (pv 2) (Aa (pv 3) (Aa (pv 0) (Aa (pv 1) Ab)))))) rfl)
    (Ad (Bl (Dj (K:=K) F.plainAttrs_list F.slot_list_append F.type_list_append Ga (pv 7) (Aa (Dj (K:=K) F.plainAttrs_str F.slot_str_join F.type_str_join (Ed (K:=K)) Af (Aa (pv 11) Ab)) Ab)))))))
   (Ad (Av (pv 7)))))))))),?_⟩
  refine⟨_,rfl,_,rfl,_,_,rfl,.inl hP,pe,es,_,rfl,hE,ce1,AjS,(by rw[ml];exact C.e),?_⟩
  refine⟨_,rfl,_,rfl,_,_,rfl,.inl hP,po,os,_,rfl,hO,co1,Ana,(by rw[ml];exact C.o),?_⟩
  refine⟨_,rfl,_,rfl,⟨_,hP⟩,AhI (K:=K) (a:=p) (xs:=as.map V.ref) (λi σ H2=>∃ v1 v2,σ=[some (.ref p),some (.ref pe),some (.ref po),v1,v2,none,none,none,none,none,none,none]/\Be H H2) ⟨none,none,rfl,.refl _⟩ (λi σ H2 ⟨_,_,_,s2⟩=>s2.seq hP) ?_ ?_⟩
  ·rintro i x σ H2 T2 hx ⟨v1,v2,rfl,s2⟩ nT
   obtain⟨a,ha,rfl⟩:∃ a,as[i]?=some a/\x=.ref a:=by
    rw[Ap9] at hx
    cases e:as[i]? with
    | none=>rw[e] at hx;cases hx
    | some b=>rw[e] at hx;cases hx;exact⟨b,rfl,rfl⟩
   have hi:i<ps.length:=by rw[<- al];exact(List.getElem?_eq_some_iff.mp ha).1
   have s3:Be H (upd H2 T2 (.tup [.int (i:Int),.ref a])):=s2.new nT
   refine⟨_,_,rfl,SqT.of Ae,rfl,_,_,rfl,_,_,rfl,rfl,?_⟩
   refine⟨_,rfl,_,rfl,.inl ⟨rfl,_,s3.seq hE⟩,_,rfl,_,_,_,rfl,rfl,s3.seq hE,?_⟩
   refine⟨_,rfl,.inl ⟨rfl,_,s3.seq hO⟩,_,rfl,_,_,_,rfl,rfl,s3.seq hO,?_⟩
   refine⟨a,ps.getD i [],es.count (i:Int),os.count (i:Int),rfl,s3.seq (hA.2 i a ha),C.hn i hi,ApF (List.count_le_length ..) AjS,C.hm i hi,?_⟩
   exact⟨_,_,rfl,s3⟩
  ·rintro σ H2 ⟨v1,v2,rfl,s2⟩
   refine⟨_,rfl,pe,es,rfl,s2.seq hE,AjS,λl1 H3 s3 nl1 hl1=>?_⟩
   have u3:=s2.trans s3
   refine⟨_,rfl,po,os,rfl,u3.seq hO,Ana,λl2 H4 s4 nl2 hl2=>?_⟩
   have u4:=u3.trans s4
   refine⟨Ap8 _,λq hq=>?_⟩
   have nq:H q=none:=u4.free hq
   have u5:Be H (upd H4 q (.lst [])):=u4.new hq
   have w5:Be H4 (upd H4 q (.lst [])):=.upd hq
   refine⟨_,rfl,_,rfl,_,_,rfl,⟨_,u5.seq hO⟩,⟨_,SqL.of (w5 _ _ hl2)⟩,AeM (K:=K) (n:=os.length) (xs:=vI os) (ys:=vI (Aa0 os os.length)) (by rw[Gd,Gd,Ad6,Aqb])
    (λj σ H6=>∃(v3 v4 v5 v6:Option V),σ=[some (.ref p),some (.ref pe),some (.ref po),v1,v2,some (.ref l1),some (.ref l2),some (.ref q),v3,v4,v5,v6]/\Be H H6/\Be H4 H6/\H6 q=some (.lst (vS ((lay ps es os).take j))))
    ⟨none,none,none,none,rfl,u5,w5,Ae⟩ (λj σ H6 ⟨_,_,_,_,_,u6,w6,_⟩=>⟨u6.seq hO,SqL.of (w6 _ _ hl2)⟩) ?_ ?_⟩
   ·rintro j x y σ H6 T6 hx hy ⟨v3,v4,v5,v6,rfl,u6,w6,hq6⟩ nT
    have hj:j<os.length:=by
     have:=(List.getElem?_eq_some_iff.mp hx).1
     rwa [Gd] at this
    have ex:x=.int (os.getD j 0):=by
     have e:os.getD j 0=os[j]:=by simp[List.getD,hj]
     rw[e]
     exact Option.some.inj (hx.symm.trans (Ym (Apu hj)))
    have ey:y=.int (plc os j:Int):=Option.some.inj (hy.symm.trans (Ym (Ad7 hj)))
    subst ex
    subst ey
    obtain⟨o,eo⟩:∃ o,o=os.getD j 0:=⟨_,rfl⟩
    obtain⟨b,eb⟩:∃ b,b=plc os j:=⟨_,rfl⟩
    obtain⟨o1,o2⟩:=C.own hj
    have oz:=C.o _ (getD_mem hj)
    rw[<- eo,<- eb] at o2
    rw[<- eo] at o1 oz
    rw[<- eo,<- eb]
    have hq7:(upd H6 T6 (.tup [.int o,.int (b:Int)])) q=some (.lst (vS ((lay ps es os).take j))):=(Be.upd nT) _ _ hq6
    have u7:Be H (upd H6 T6 (.tup [.int o,.int (b:Int)])):=u6.new nT
    have w7:Be H4 (upd H6 T6 (.tup [.int o,.int (b:Int)])):=w6.new nT
    have hT7:(upd H6 T6 (.tup [.int o,.int (b:Int)])) T6=some (.tup [.int o,.int (b:Int)]):=Ae
    generalize upd H6 T6 (.tup [.int o,.int (b:Int)])=H7 at hq7 u7 w7 hT7 ⊢
    refine⟨_,_,rfl,SqT.of hT7,rfl,_,_,rfl,_,_,rfl,rfl,?_⟩
    have lo:o.toNat<as.length:=by rw[al];exact o1
    have sa:=u7.seq (hA.2 _ _ (Apu lo))
    have Anb:((ps.getD o.toNat []).getD b []).length<=40:=by
     rw[C.row o1 o2]
     exact ApF (List.count_le_length ..) AjS
    have ab:atI (vS (ps.getD o.toNat [])) (b:Int)=some (.str (tx ((ps.getD o.toNat []).getD b []))):=by
     refine Cj (by lia) ?_
     rw[Ap1]
     have e:(ps.getD o.toNat []).getD b []=(ps.getD o.toNat [])[b]:=by rw[ApR,Apu o2];rfl
     rw[e]
     exact Aby (Apu o2)
    refine⟨_,rfl,_,rfl,_,_,_,_,rfl,rfl,u7.seq hP,AlD oz.1 lo,_,rfl,_,_,_,_,rfl,rfl,sa,ab,?_⟩
    refine⟨_,rfl,_,rfl,.l pe,.l l1,rfl,trivial,⟨_,u7.seq hE⟩,⟨_,SqL.of (w7 _ _ (s4 _ _ hl1))⟩,?_⟩
    refine Adc (n:=es.length) (λi=>.int (es.getD i 0)) (λi=>.int (plc es i:Int)) (λi ys H8=>Be H7 H8/\ys=vS (((FQ ps es o b).take i).map λd=>[d])) ⟨.refl _,rfl⟩ ?_ ?_ ?_ ?_ ?_ ?_ ?_
    ·rintro i ys H8 hi ⟨s8,rfl⟩
     rw[Ba,Apq,Ap2]
     lia
    ·lia
    ·rintro i ys H8 hi ⟨s8,_⟩
     have e:es.getD i 0=es[i]:=by simp[List.getD,hi]
     exact⟨_,(u7.trans s8).seq hE,by rw[e];exact Ym (Apu hi)⟩
    ·rintro i ys H8 hi ⟨s8,_⟩
     exact⟨_,SqL.of ((w7.trans s8) _ _ (s4 _ _ hl1)),Ym (Ad7 hi)⟩
    ·rintro ys H8 ⟨s8,_⟩
     exact⟨⟨_,(u7.trans s8).seq hE⟩,⟨_,SqL.of ((w7.trans s8) _ _ (s4 _ _ hl1))⟩,.inl ⟨_,(u7.trans s8).seq hE,by rw[Gd]⟩⟩
    ·rintro i ys H8 T8 hi ⟨s8,rfl⟩ nT8
     refine Dh.no ?_
     refine⟨_,rfl,_,rfl,_,rfl,_,rfl,o,es.getD i 0,(ps.getD o.toNat []).getD b [],plc es i,rfl,λh=>?_,Anb,?_⟩
     ·rw[C.row o1 o2,show((o.toNat:Nat):Int)=o by lia,h]
      exact Aeb hi
     ·refine CN.of hi ⟨s8.new nT8,?_⟩
      rw[Ap4,S7 hi,Gr,CP,Apx]
      rfl
    ·rintro ys H8 l8 ⟨s8,rfl⟩ nl8
     have e0:(FQ ps es o b).take es.length=FQ ps es o b:=ApP (by rw[JV];exact Apv _)
     rw[e0]
     have u8:=(u7.trans s8).new (o:=.lst (vS ((FQ ps es o b).map λd=>[d]))) nl8
     have w8:=(w7.trans s8).new (o:=.lst (vS ((FQ ps es o b).map λd=>[d]))) nl8
     have hq8:=(s8.new (o:=.lst (vS ((FQ ps es o b).map λd=>[d]))) nl8) _ _ hq7
     refine⟨_,rfl,.inl ⟨rfl,_,SqL.of hq8⟩,rfl,_,rfl,_,_,(((FQ ps es o b).map λd=>[d]).map tx),rfl,rfl,SqL.of (by rw[Ae,GQ]),?_,?_⟩
     ·have e1:=Ajd (λd:Nat=>d) (FQ ps es o b)
      rw[e1,Apq,Apq,JV]
      have:es.length*(Str.length "")=0:=by rw[show Str.length "" = 0 from by decide +kernel];lia
      lia
     ·rw[show(("" : Str))=tx [] from by decide +kernel,FN]
      have e2:((FQ ps es o b).map λd=>[d]).flatten=FQ ps es o b:=(Om (λd:Nat=>d) (FQ ps es o b)).trans (Aqc _)
      rw[e2]
      refine⟨_,_,_,rfl,rfl,hq8,(by rw[Ba,Ap2];lia),?_⟩
      refine⟨_,_,_,_,rfl,u8.over nq,w8.over hq,?_⟩
      rw[Ae,CP,Ap4,AeS hj,<- eo,<- eb]
      rfl
   ·rintro σ H6 ⟨v3,v4,v5,v6,rfl,u6,w6,hq6⟩
    have e0:(lay ps es os).take os.length=lay ps es os:=ApP (by rw[Ab3];exact Apv _)
    rw[e0] at hq6
    exact⟨_,rfl,k q H6 u6 nq hq6⟩
def rfa (t:Adr):Rf->Addr
 | .nop=>t.By
 | .big=>t.CZ
 | .unk=>t.Er
def Oi (t:Adr)(C dx r:Addr)(H:Hp)(Q:VK)(E:XK)(R:Res)(z:List Nat):Prop:=match R with
 | .ok x=>∀ l H',DR r H H'->H l=none->H' l=some (.lst (vS x))->H' r=some (.ins C dx (pf l (tx z)))->Q .non H'
 | .no f=>∀ H',DR r H H'->E (.ref (rfa t f)) none H'
theorem Fo{r:Addr}{H H':Hp}(s:Be H H'):DR r H H':=λb o _ e=>s b o e
theorem Oi.fin{C dx r l:Addr}{H H3:Hp}{Q:VK}{E:XK}{x:List (List Nat)}{z:List Nat}(k:Oi t C dx r H Q E (.ok x) z)(sb:Be H H3)(h1:H r=some (.ins C dx []))(hl:H3 l=none):Q .non (upd (upd H3 l (.lst (vS x))) r (.ins C dx (pf l (tx z)))):=by
 have hr:H3 r=some (.ins C dx []):=sb _ _ h1
 have nlr:l≠r:=λy=>by rw[y,hr] at hl;cases hl
 have hlH:H l=none:=by
  cases e:H l with
  | none=>rfl
  | some o=>rw[sb _ _ e] at hl;cases hl
 refine k l _ (λb o hb e=>?_) hlH (by rw[Ao nlr];exact Ae) Ae
 rw[Ao hb,Ao (Ay (sb b o e) hl)]
 exact sb b o e
def Ai1 (K:W.Frag)(t:Adr):Sp:=λvs H Q E=>∃(r dx a:Addr) (x:List (List Nat)) (z:List Nat),vs=[.ref r,.str (tx z),.ref a]/\H r=some (.ins t.Eu dx [])/\SqL K H a (vS x)/\Oi t t.Eu dx r H Q E (.ok x) z
theorem Vh(T:Txt K mg t):Br P w K mg base CX0 3 t.Ig t.Mr ["self", "name", "known_cloth"] (Ai1 K t):=by
 refine T.MJ.F.ok Ud (λvs H Q E h=>?_) (λcdv A outer s H vs Q E hr h=>?_)
 ·obtain⟨r,dx,a,x,z,rfl,_⟩:=h
  rfl
 ·obtain⟨r,dx,a,x,z,rfl,h1,hS,k⟩:=h
  refine⟨_,(Ad (Bl (G6 (Ce (v:=.ref t.BL) rfl T.Gj rfl) T.Fi ((Bv T).mono (by decide)) hr T.Bu.b .nil Ak (Aa (pv 0) (Aa (pv 2) (Aa (pv 1) Ab)))))),?_⟩
  refine⟨rfl,_,rfl,_,rfl,_,rfl,t.Eu,r,dx,a,x,_,rfl,h1,T.AbK.c,T.Q8,T.M5,hS,λl hl=>?_⟩
  exact k.fin (.refl _) h1 hl
def AjT (K:W.Frag)(t:Adr):Sp:=λvs H Q E=>∃(r dx a:Addr) (rs:List (List Nat)),vs=[.ref r,.ref a]/\H r=some (.ins t.Gw dx [])/\SqL K H a (vS rs)/\rs≠[]/\rs.length<=40/\(wz Pat.Fq rs).length<=1000000/\Oi t t.Gw dx r H Q E (Yz rs) (wz Pat.Fq rs)
theorem Vi(T:Txt K mg t):Br P w K mg base (CX1 P w) 3 t.Jy t.Ox ["self", "runs"] (AjT K t):=by
 refine T.Pr.F.okX VF (λvs H Q E h=>?_) (λcdv A outer s H vs Q E hr h=>?_)
 ·obtain⟨r,dx,a,rs,rfl,_⟩:=h
  rfl
 ·obtain⟨r,dx,a,rs,rfl,h1,hS,hne,Aom,hw,k⟩:=h
  refine⟨_,(Ac (Bj (Gn (Az (AaM (K:=K)) rfl T.Ak3 AgX (Aa (PE.nox (Dl (CG.mk (Bd:=[1]) (Nc:=["run", "runs"]) rfl (by decide +kernel) (by decide +kernel) (Cp (sc0:=Ah Jx) rfl (by decide +kernel)) rfl rfl rfl (by decide +kernel) (λk j h=>match k,h with | 0,h=>by obtain rfl:=Option.some.inj h;exact⟨_,rfl,rfl,rfl⟩ | _+1,h=>by simp at h)) rfl (CV (K:=K) (pv 1)) (λ_ _ _ _ _=>.nil) (λ_ _ _ _ _=>(DX Jg (Az Bo rfl T.Cr Bs (Aa (pv 0) Ab)) (Az Bo rfl T.Cr Bs (Aa (Bf (Ax (K:=K)) (pv 1) Ag (λ_ _=>rfl)) Ab)) (Am _))))) Ab)))
    (Ad (CQ Fp rfl (λ_ _ z=>z) F.excBase_ValueError El F.excBase_ValueError T.BP.q rfl T.BR (Aa Af Ab)))
    An)
   (Ac (Bl (Aq ((Fl T).mono (by decide)) hr rfl T.Cq.m T.Cq.F.kp T.Cq.b .nil Ej (Aa (Az Bo rfl T.Cr Bs (Aa (Bf (Ax (K:=K)) (pv 1) Ag (λ_ _=>rfl)) Ab)) (Aa (Az (Bb (K:=K)) rfl T.Cr Bs (Aa (pv 1) Ab)) Ab))))
   (Ad (Bl (G6 (Ce (v:=.ref t.BL) rfl T.Gj rfl) T.Fi ((Bv T).mono (by decide)) hr T.Bu.b .nil Ak (Aa (pv 0) (Aa (pv 1) (Aa (Aq ((Eb T).mono (by decide)) hr rfl T.written.m T.written.F.kp T.written.b .nil Ak (Aa Af (Aa (pv 1) Ab))) Ab)))))))),?_⟩
  have hb:∀ u∈rs,u.length<=1000000:=λu hu=>by
   have:=Aky hu
   rw[Ace] at hw
   lia
  obtain⟨u0,hu0,e0⟩:∃ u0,rs[0]?=some u0/\u0.length=wdt rs:=by
   cases rs with
   | nil=>exact absurd rfl hne
   | cons u rs=>exact⟨u,rfl,rfl⟩
  have b0:=hb u0 (ApD hu0)
  refine⟨_,rfl,_,rfl,⟨_,hS⟩,DY (K:=K) (a:=a) (xs:=vS rs) (λi ys H2=>H2=H/\ys=vB ((rs.take i).map λr=>decide (¬r.length=wdt rs))) ⟨rfl,rfl⟩ ?_ ?_ ?_ ?_⟩
  ·rintro i ys H2 hi ⟨rfl,rfl⟩
   refine⟨hS,?_⟩
   rw[Aek,Apq,Ap2]
   lia
  ·rw[Ba];exact Bq Aom
  ·rintro i x ys H2 hi hx ⟨rfl,rfl⟩
   obtain⟨u,hu,rfl⟩:=GP hx
   have bu:=hb u (ApD hu)
   refine Dh.no ?_
   refine⟨_,rfl,_,rfl,(by rw[Ai];exact big bu),_,rfl,_,_,_,_,rfl,rfl,hS,HS (i:=0) hu0,_,rfl,(by rw[Ai];exact big b0),rfl,?_⟩
   rw[show(!decide (V.int ((tx u).length:Int)=V.int ((tx u0).length:Int)))=decide (¬u.length=wdt rs) by
    rw[Ai,Ai,e0,<- decide_not]
    exact decide_eq_decide.mpr ⟨λz y=>z (by rw[y]),λz y=>z (by injection y with y;lia)⟩]
   exact CN.of hi ⟨rfl,by rw[Ael,Ap4,hu,Apx];rfl⟩
  ·rintro ys H2 q ⟨rfl,rfl⟩ hq
   rw[Ba,ApJ]
   refine⟨_,_,rfl,SqL.of Ae,_,rfl,?_⟩
   have s3:Be H2 (upd H2 q (.lst (vB (rs.map λr=>decide (¬r.length=wdt rs))))):=.upd hq
   generalize upd H2 q (.lst (vB (rs.map λr=>decide (¬r.length=wdt rs))))=H3 at s3 ⊢
   unfold Yz at k
   refine AnR (λc=>?_) (λc=>?_)
   ·rw[if_pos c] at k
    exact⟨by decide,k _ (Fo s3)⟩
   ·rw[if_neg (by rw[c];exact λz=>nomatch z)] at k
    refine⟨_,rfl,_,_,_,_,rfl,rfl,s3.seq hS,HS (i:=0) hu0,_,rfl,(by rw[Ai];exact big b0),_,rfl,_,_,rfl,.inl (s3.seq hS),wdt rs,rs.length,(by rw[Ai,e0,Ba];rfl),λc2=>?_,λc2 H' s'=>?_⟩
    ·rw[if_neg (by lia)] at k
     refine⟨rfl,_,rfl,_,rfl,_,rfl,a,Pat.Fq,rs,(by rw[X8];rfl),s3.seq hS,hne,hw,?_⟩
     refine⟨t.Gw,r,dx,a,rs,_,rfl,s3 _ _ h1,T.Aes.c,T.RZ,T.Pg,s3.seq hS,λl hl=>?_⟩
     exact k.fin s3 h1 hl
    ·rw[if_pos (by lia)] at k
     exact k _ (Fo (s3.trans s'))
theorem lg{m:Nat}(h:m<100):((m:Int)).natAbs.log2<1920:=by
 rw[Int.natAbs_natCast]
 exact Nat.lt_of_le_of_lt (Nat.log2_le_self m) (by lia)
theorem Ad8:(("#" : Str))=tx [35]:=by decide +kernel
theorem Aci:(("." : Str))=tx [46]:=by decide +kernel
theorem Acj:(("twill" : Str))=tx twW:=by decide +kernel
theorem Ack:(("satin" : Str))=tx saW:=by decide +kernel
theorem Ai2{u:List Nat}{k:Nat}(h:k<=u.length):Yp u (some (k:Int)) none=u.drop k:=by
 unfold Yp
 rw[HT.K3,Aqh h]
 exact ApP (by rw[ApK];exact Apv _)
theorem Ai3{z x y:List Nat}(hz:z.length<=100)(hx:x.length<=100)(hy:y.length<=100):(wz z [x,y]).length<=1000000:=by
 rw[Ace]
 unfold cj
 rw[Aps,Apw,ApW,ApH,List.flatten_nil,Aps,Aps,Apz,ApX]
 lia
def Ai4 (K:W.Frag)(t:Adr):Sp:=λvs H Q E=>∃(r dx:Addr) (m n:Nat),vs=[.ref r,.int (m:Int),.int (n:Int)]/\H r=some (.ins t.Ew dx [])/\m<100/\n<100/\Oi t t.Ew dx r H Q E (Nr m n) (wz twW [dec m,dec n])
theorem Td(T:Txt K mg t):Br P w K mg base (CX1 P w) 3 t.Ih t.Ms ["self", "over", "under"] (Ai4 K t):=by
 refine T.MK.F.okX Gi (λvs H Q E h=>?_) (λcdv A outer s H vs Q E hr h=>?_)
 ·obtain⟨r,dx,m,n,rfl,_⟩:=h
  rfl
 ·obtain⟨r,dx,m,n,rfl,h1,hm,hn,k0⟩:=h
  refine⟨_,(Ac (Bj (PW.pt (pw_or (Aj Kz (pv 1) Ag (Am _)) (pw_or1 (Aj Kz (pv 2) Ag (Am _)))))
    (Ad (CQ Fp rfl (λ_ _ z=>z) F.excBase_ValueError El F.excBase_ValueError T.BP.q rfl T.BR (Aa Af Ab)))
    An)
   (Ac (Bh (i:=3) Gi.nd rfl (Or.inr rfl) (Ar Fy (pv 1) (pv 2)))
   (Ac (Bl (Aq ((Fl T).mono (by decide)) hr rfl T.Cq.m T.Cq.F.kp T.Cq.b .nil Ej (Aa (pv 3) (Aa (pv 3) Ab))))
   (Ac (Bh (i:=4) Gi.nd rfl (Or.inr rfl) (Ar Bg (Ar K6 Af (pv 1)) (Ar K6 Af (pv 2))))
   (Ac (PS.nox (Tp (i:=5) (CG.mk (Bd:=[3,4]) (Nc:=["y", "size", "first"]) rfl (by decide +kernel) (by decide +kernel) (Cp (sc0:=Ah Ie) rfl (by decide +kernel)) rfl rfl rfl (by decide +kernel) (λk j h=>match k,h with | 0,h=>by obtain rfl:=Option.some.inj h;exact⟨_,rfl,rfl,rfl⟩ | 1,h=>by obtain rfl:=Option.some.inj h;exact⟨_,rfl,rfl,rfl⟩ | _+2,h=>by simp at h)) rfl Gi.nd rfl rfl (Dw rfl T.Ey (Aa (pv 3) Ab)) (λ_ _ _ _ _=>.nil) (λ_ _ _ _ _=>(Ar Bg (Hf Yq (pv 2) (Hh (Ar JS (pv 1) (pv 0))) K4) (Hf Yq (pv 2) K4 (Hh (Ar JS (pv 1) (pv 0)))))) rfl))
   (Ad (Bl (G6 (Ce (v:=.ref t.BL) rfl T.Gj rfl) T.Fi ((Bv T).mono (by decide)) hr T.Bu.b .nil Ak (Aa (pv 0) (Aa (pv 5) (Aa (Aq ((Eb T).mono (by decide)) hr rfl T.written.m T.written.F.kp T.written.b .nil Ak (Aa Af (Aa (BV (Aa (Cm Di rfl T.Pb Jr (Aa (pv 1) Ab)) (Aa (Cm Di rfl T.Pb Jr (Aa (pv 2) Ab)) Ab))) Ab))) Ab))))))))))),?_⟩
  have k2:(m=0\/n=0)->∀ H',DR r H H'->E (.ref t.By) none H':=λg=>by
   unfold Nr at k0
   rw[if_pos (by lia)] at k0
   exact k0
  have k3:1<=m->1<=n->40<m+n->∀ H',DR r H H'->E (.ref t.CZ) none H':=λg1 g2 g3=>by
   unfold Nr at k0
   rw[if_neg (by lia),if_pos g3] at k0
   exact k0
  refine⟨_,rfl,_,_,rfl,rfl,_,rfl,?_⟩
  refine Dk (λc1=>?_) (λc1=>?_)
  ·refine Gq ?_
   exact⟨by decide,k2 (.inl (by lia)) _ (λb o _ e=>e)⟩
  ·refine⟨_,rfl,_,_,rfl,rfl,_,rfl,?_⟩
   refine Dk (λc2=>?_) (λc2=>?_)
   ·exact⟨by decide,k2 (.inr (by lia)) _ (λb o _ e=>e)⟩
   ·refine⟨_,rfl,_,rfl,_,_,rfl,rfl,?_⟩
    refine⟨_,rfl,_,rfl,m+n,m+n,rfl,λc3=>?_,λc3 H' s'=>k3 (by lia) (by lia) (by lia) _ (λb o _ e=>s' b o e)⟩
    refine⟨_,rfl,[35],(m:Int),(by rw[Ad8]),rfl,(by lia),(by lia),(big (by simp only [Apt,Apz];lia)),?_⟩
    refine⟨_,rfl,[46],(n:Int),(by rw[Aci]),rfl,(by lia),(by lia),(big (by simp only [Apt,Apz];lia)),?_⟩
    rw[Ap1,Ap1,rep1,rep1]
    refine⟨_,_,rfl,rfl,(by rw[Ai,Ai];exact big (by rw[ApQ,ApQ];lia)),?_⟩
    rw[CJ,show List.replicate m 35++List.replicate n 46=Yy m n from rfl]
    obtain⟨N,hN⟩:∃ N,N=m+n:=⟨_,rfl⟩
    refine⟨_,rfl,_,rfl,(by show -(2 ^ 62)<=(m:Int)+(n:Int);lia),(by show(m:Int)+(n:Int)<2 ^ 62;lia),?_⟩
    rw[show((m:Int)+(n:Int)).toNat=m+n by lia]
    refine Ea (lo:=0) (n:=m+n) (λi ys H2=>H2=H/\ys=vS ((List.range i).map (twT m n))) ⟨rfl,rfl⟩ ?_ ?_ ?_ ?_
    ·rintro i ys H2 hi ⟨rfl,rfl⟩
     rw[Ba,Apq,ApE]
     exact Apv _
    ·exact big (by lia)
    ·rintro i ys H2 hi ⟨rfl,rfl⟩
     refine Dh.no ?_
     have fl:=@AcV m n
     refine⟨_,rfl,_,rfl,_,rfl,_,_,rfl,rfl,_,rfl,Yy m n,rfl,big (by lia),?_⟩
     rw[show(m:Int)+(n:Int)-(0+(i:Int))=((m+n-i:Nat):Int) by lia,Ai2 (by lia)]
     refine⟨_,rfl,_,rfl,_,rfl,_,_,rfl,rfl,_,rfl,Yy m n,rfl,big (by lia),?_⟩
     rw[show(m:Int)+(n:Int)-(0+(i:Int))=((m+n-i:Nat):Int) by lia,Ahg (by lia)]
     refine⟨_,_,rfl,rfl,(by rw[Ai,Ai];exact big (by rw[ApK,Ap2];lia)),?_⟩
     rw[CJ,Alo hi]
     exact(CN.of hi ⟨rfl,by rw[ApZ,Apx];exact CP _ _⟩:CN (m+n) (λi ys H3=>H3=H2/\ys=vS ((List.range i).map (twT m n))) i (vS ((List.range i).map (twT m n))++[.str (tx (twT m n i))]) H2)
    ·rintro ys H2 q ⟨rfl,rfl⟩ hq
     have hqr:r≠q:=Ay h1 hq
     refine⟨rfl,_,rfl,_,rfl,_,rfl,_,rfl,lg hm,_,rfl,_,rfl,lg hn,(by show 2<=sizeLine;decide),λp hp=>?_⟩
     rw[Js m,Js n]
     have d1:=(dec_is hm).l2
     have d2:=(dec_is hn).l2
     have npq:q≠p:=λz=>by rw[<- z,Ae] at hp;cases hp
     have s1:Be H2 (upd H2 q (.lst (vS ((List.range (m+n)).map (twT m n))))):=.upd hq
     have hq1:(upd H2 q (.lst (vS ((List.range (m+n)).map (twT m n))))) q=some (.lst (vS ((List.range (m+n)).map (twT m n)))):=Ae
     generalize upd H2 q (.lst (vS ((List.range (m+n)).map (twT m n))))=H3 at s1 hq1 hp ⊢
     have s2:Be H3 (upd H3 p (.lst [.str (tx (dec m)),.str (tx (dec n))])):=.upd hp
     have hp2:(upd H3 p (.lst [.str (tx (dec m)),.str (tx (dec n))])) p=some (.lst (vS [dec m,dec n])):=Ae
     generalize upd H3 p (.lst [.str (tx (dec m)),.str (tx (dec n))])=H4 at s2 hp2 ⊢
     refine⟨p,twW,[dec m,dec n],(by rw[Acj];rfl),SqL.of hp2,(by simp),Ai3 (by decide) (by lia) (by lia),?_⟩
     refine⟨t.Ew,r,dx,q,(List.range (m+n)).map (twT m n),_,rfl,s2 _ _ (s1 _ _ h1),T.AbP.c,T.Q9,T.M6,SqL.of (s2 _ _ hq1),λl hl=>?_⟩
     unfold Nr at k0
     rw[if_neg (by lia),if_neg (by lia)] at k0
     exact k0.fin (s1.trans s2) h1 hl
def Ai5 (K:W.Frag)(t:Adr):Sp:=λvs H Q E=>∃(r dx:Addr) (m n:Nat),vs=[.ref r,.int (m:Int),.int (n:Int)]/\H r=some (.ins t.Ex dx [])/\m<100/\n<100/\Oi t t.Ex dx r H Q E (Nt m n) (wz saW [dec m,dec n])
theorem Te(T:Txt K mg t):Br P w K mg base (CX1 P w) 3 t.Ii t.Mt ["self", "size", "step"] (Ai5 K t):=by
 refine T.MN.F.okX Hz (λvs H Q E h=>?_) (λcdv A outer s H vs Q E hr h=>?_)
 ·obtain⟨r,dx,m,n,rfl,_⟩:=h
  rfl
 ·obtain⟨r,dx,m,n,rfl,h1,hm,hn,k0⟩:=h
  refine⟨_,(Ac (Bj (PW.pt (pw_or (Aj Kz (pv 2) Ag (Am _)) (pw_or (Aj Ako (pv 2) (pv 1) (Am _)) (pw_or1 (Hj (Gn (Aq ((Ad1 T).mono (by decide)) hr rfl T.U4.m T.U4.F.kp T.U4.b .nil Ak (Aa (pv 1) (Aa (pv 2) Ab)))))))))
    (Ad (CQ Fp rfl (λ_ _ z=>z) F.excBase_ValueError El F.excBase_ValueError T.BP.q rfl T.BR (Aa Af Ab)))
    An)
   (Ac (Bl (Aq ((Fl T).mono (by decide)) hr rfl T.Cq.m T.Cq.F.kp T.Cq.b .nil Ej (Aa (pv 1) (Aa (pv 1) Ab))))
   (Ac (PS.nox (Tp (i:=3) (CG.mk (Bd:=[1,2]) (Nc:=["y", "size", "step"]) rfl (by decide +kernel) (by decide +kernel) (Cp (sc0:=Ah G9) rfl (by decide +kernel)) rfl rfl rfl (by decide +kernel) (λk j h=>match k,h with | 0,h=>by obtain rfl:=Option.some.inj h;exact⟨_,rfl,rfl,rfl⟩ | 1,h=>by obtain rfl:=Option.some.inj h;exact⟨_,rfl,rfl,rfl⟩ | _+2,h=>by simp at h)) rfl Hz.nd rfl rfl (Dw rfl T.Ey (Aa (pv 1) Ab)) (λ_ _ _ _ _=>.nil) (λ_ _ _ _ _=>(Ar Dz (Ar Gp (pv 0) (pv 2)) (pv 1))) rfl))
   (Ac (PS.nox (Tp (i:=4) (CG.mk (Bd:=[1]) (Nc:=["over", "size"]) rfl (by decide +kernel) (by decide +kernel) (Cp (sc0:=Ah G9) rfl (by decide +kernel)) rfl rfl rfl (by decide +kernel) (λk j h=>match k,h with | 0,h=>by obtain rfl:=Option.some.inj h;exact⟨_,rfl,rfl,rfl⟩ | _+1,h=>by simp at h)) rfl Hz.nd rfl rfl (CV (K:=K) (pv 3)) (λ_ _ _ _ _=>.nil) (λ_ _ _ _ _=>(Ar Bg (Ar Bg (Ar K6 Af (pv 0)) Af) (Ar K6 Af (Ar JS (Ar JS (pv 1) Ag) (pv 0))))) rfl))
   (Ad (Bl (G6 (Ce (v:=.ref t.BL) rfl T.Gj rfl) T.Fi ((Bv T).mono (by decide)) hr T.Bu.b .nil Ak (Aa (pv 0) (Aa (pv 4) (Aa (Aq ((Eb T).mono (by decide)) hr rfl T.written.m T.written.F.kp T.written.b .nil Ak (Aa Af (Aa (BV (Aa (Cm Di rfl T.Pb Jr (Aa (pv 1) Ab)) (Aa (Cm Di rfl T.Pb Jr (Aa (pv 2) Ab)) Ab))) Ab))) Ab)))))))))),?_⟩
  have k2:¬Pri m n->∀ H',DR r H H'->E (.ref t.By) none H':=λg=>by
   unfold Nt at k0
   rw[if_pos g] at k0
   exact k0
  have k3:Pri m n->40<m->∀ H',DR r H H'->E (.ref t.CZ) none H':=λg1 g3=>by
   unfold Nt at k0
   rw[if_neg (λz=>z g1),if_pos g3] at k0
   exact k0
  refine⟨_,rfl,_,_,rfl,rfl,_,rfl,?_⟩
  refine Dk (λc1=>?_) (λc1=>?_)
  ·refine Gq ?_
   exact⟨by decide,k2 (λz=>by have:=z.1;lia) _ (λb o _ e=>e)⟩
  ·refine⟨_,rfl,_,rfl,_,_,rfl,rfl,_,rfl,?_⟩
   refine Dk (λc2=>?_) (λc2=>?_)
   ·exact⟨by decide,k2 (λz=>by have:=z.2.1;lia) _ (λb o _ e=>e)⟩
   ·refine⟨_,rfl,_,rfl,m,n,rfl,by lia,by lia,by lia,λH1 s1=>?_⟩
    refine⟨_,rfl,?_⟩
    cases c3:cop m n n with
    | true =>
     refine Gq ?_
     exact⟨by decide,k2 (λz=>by have:=z.2.2;rw[c3] at this;cases this) _ (λb o _ e=>s1 b o e)⟩
    | false =>
     refine Hu ?_
     have pr:Pri m n:=⟨by lia,by lia,c3⟩
     refine⟨_,rfl,_,rfl,m,m,rfl,λc4=>?_,λc4 H' s'=>k3 pr (by lia) _ (λb o _ e=>s' b o (s1 b o e))⟩
     have h1':=s1 _ _ h1
     have m0:0<m:=by lia
     refine⟨_,rfl,_,rfl,(by lia),(by lia),?_⟩
     rw[Ap1]
     refine Ea (lo:=0) (n:=m) (λi ys H2=>H2=H1/\ys=vI ((List.range i).map λy=>((y*n%m:Nat):Int))) ⟨rfl,rfl⟩ ?_ ?_ ?_ ?_
     ·rintro i ys H2 hi ⟨rfl,rfl⟩
      rw[Gd,Apq,ApE]
      exact Apv _
     ·exact big (by lia)
     ·rintro i ys H2 hi ⟨rfl,rfl⟩
      refine Dh.no ?_
      refine⟨_,rfl,_,rfl,_,_,rfl,rfl,(.inr ⟨by lia,by lia⟩),_,rfl,_,_,rfl,rfl,(by lia),?_⟩
      show CN _ _ _ (_++[V.int ((0+(i:Int))*(n:Int)%(m:Int))]) _
      rw[show(0+(i:Int))*(n:Int)%(m:Int)=((i*n%m:Nat):Int) by rw[ApS,<- ApL,<- AqG]]
      exact(CN.of hi ⟨rfl,by rw[ApZ,Apx];exact Aha _ _⟩:CN m (λi ys H3=>H3=H2/\ys=vI ((List.range i).map λy=>((y*n%m:Nat):Int))) i (vI ((List.range i).map λy=>((y*n%m:Nat):Int))++[.int ((i*n%m:Nat):Int)]) H2)
     ·rintro ys H2 q ⟨rfl,rfl⟩ hq
      have hqr:r≠q:=Ay h1' hq
      have e3:(upd H2 q (.lst (vI ((List.range m).map λy=>((y*n%m:Nat):Int))))) q=some (.lst (vI ((List.range m).map λy=>((y*n%m:Nat):Int)))):=Ae
      have s3:Be H2 (upd H2 q (.lst (vI ((List.range m).map λy=>((y*n%m:Nat):Int))))):=.upd hq
      generalize upd H2 q (.lst (vI ((List.range m).map λy=>((y*n%m:Nat):Int))))=H3 at e3 s3 ⊢
      have h3:=s3 _ _ h1'
      refine⟨_,rfl,_,rfl,⟨_,SqL.of e3⟩,?_⟩
      refine DY (K:=K) (a:=q) (xs:=vI ((List.range m).map λy=>((y*n%m:Nat):Int))) (λi ys H4=>H4=H3/\ys=vS ((List.range i).map (saT m n))) ⟨rfl,rfl⟩ ?_ ?_ ?_ ?_
      ·rintro i ys H4 hi ⟨rfl,rfl⟩
       refine⟨SqL.of e3,?_⟩
       rw[Ba,Apq,ApE]
       exact Apv _
      ·rw[Gd,Apq,ApE]
       exact big (by lia)
      ·rintro i x ys H4 hi hx ⟨rfl,rfl⟩
       rw[Gd,Apq,ApE] at hi
       have ex:x=.int ((i*n%m:Nat):Int):=by
        unfold vI at hx
        rw[Ap9,Ap9,AqB hi] at hx
        exact(Option.some.inj hx).symm
       have lo:i*n%m<m:=Nat.mod_lt _ m0
       obtain⟨o,eo⟩:∃ o,o=i*n%m:=⟨_,rfl⟩
       rw[ex]
       rw[<- eo] at lo ⊢
       refine Dh.no ?_
       refine⟨_,rfl,[46],(o:Int),(by rw[Aci]),rfl,(by lia),(by lia),(big (by simp only [Apt,Apz];lia)),?_⟩
       rw[Ap1,rep1,Ad8]
       refine⟨_,_,rfl,rfl,(by rw[Ai,Ai];exact big (by rw[ApQ];simp only [Apt,Apz];lia)),?_⟩
       rw[CJ]
       refine⟨_,rfl,_,_,rfl,rfl,_,rfl,_,_,rfl,rfl,[46],((m-1-o:Nat):Int),(by rw[Aci]),?_,(by lia),(by lia),(big (by simp only [Apt,Apz];lia)),?_⟩
       ·show V.int ((m:Int)-1-(o:Int))=_
        rw[show(m:Int)-1-(o:Int)=((m-1-o:Nat):Int) by lia]
       rw[Ap1,rep1]
       refine⟨_,_,rfl,rfl,(by rw[Ai,Ai];exact big (by rw[Aps,ApQ,ApQ];simp only [Apt,Apz];lia)),?_⟩
       rw[CJ,Alp lo]
       rw[Gd,Apq,ApE]
       exact(CN.of hi ⟨rfl,by rw[ApZ,Apx,eo];exact CP _ _⟩:CN m (λi ys H5=>H5=H4/\ys=vS ((List.range i).map (saT m n))) i (vS ((List.range i).map (saT m n))++[.str (tx (stT m o))]) H4)
      ·rintro ys H4 q2 ⟨rfl,rfl⟩ hq2
       rw[Gd,Apq,ApE]
       have Apl:r≠q2:=Ay h3 hq2
       refine⟨rfl,_,rfl,_,rfl,_,rfl,_,rfl,lg hm,_,rfl,_,rfl,lg hn,(by show 2<=sizeLine;decide),λp hp=>?_⟩
       rw[Js m,Js n]
       have d1:=(dec_is hm).l2
       have d2:=(dec_is hn).l2
       have s4:Be H4 (upd H4 q2 (.lst (vS ((List.range m).map (saT m n))))):=.upd hq2
       have hq4:(upd H4 q2 (.lst (vS ((List.range m).map (saT m n))))) q2=some (.lst (vS ((List.range m).map (saT m n)))):=Ae
       generalize upd H4 q2 (.lst (vS ((List.range m).map (saT m n))))=H5 at s4 hq4 hp ⊢
       have s5:Be H5 (upd H5 p (.lst [.str (tx (dec m)),.str (tx (dec n))])):=.upd hp
       have hp5:(upd H5 p (.lst [.str (tx (dec m)),.str (tx (dec n))])) p=some (.lst (vS [dec m,dec n])):=Ae
       generalize upd H5 p (.lst [.str (tx (dec m)),.str (tx (dec n))])=H6 at s5 hp5 ⊢
       have u6:=((s1.trans s3).trans s4).trans s5
       refine⟨p,saW,[dec m,dec n],(by rw[Ack];rfl),SqL.of hp5,(by simp),Ai3 (by decide) (by lia) (by lia),?_⟩
       refine⟨t.Ex,r,dx,q2,(List.range m).map (saT m n),_,rfl,u6 _ _ h1,T.AbQ.c,T.QB,T.M7,SqL.of (s5 _ _ hq4),λl hl=>?_⟩
       unfold Nt at k0
       rw[if_neg (λz=>z pr),if_neg (by lia)] at k0
       exact k0.fin u6 h1 hl
theorem Ja(T:Txt K mg t){H:Hp}{p:Addr}{x:List (List Nat)}{z:List Nat}{Q:VK}{E:XK}(hp:Pc t H p x z){m n:Nat}(C:Cl x m n)(k:Q (.int ((m:Nat):Int)) H):∃ a dx fs C,(V.ref p)=.ref a/\H a=some (.ins C dx fs)/\fs.lookup ("wide" : Str)=none/\Cls K C/\Meth K C "wide" t.BW/\Afr t [.ref p] H Q E:=by
 obtain⟨D,dx,l,hC,h1,h2⟩:=id hp
 exact⟨p,dx,_,D,rfl,h1,(Ve _ _).1,(pcC T hC).c,(pcC T hC).wide,p,x,z,m,n,rfl,hp,C,k⟩
theorem Jd(T:Txt K mg t){H:Hp}{p:Addr}{x:List (List Nat)}{z:List Nat}{Q:VK}{E:XK}(hp:Pc t H p x z){m n:Nat}(C:Cl x m n)(k:Q (.int ((n:Nat):Int)) H):∃ a dx fs C,(V.ref p)=.ref a/\H a=some (.ins C dx fs)/\fs.lookup ("high" : Str)=none/\Cls K C/\Meth K C "high" t.BX/\Afs t [.ref p] H Q E:=by
 obtain⟨D,dx,l,hC,h1,h2⟩:=id hp
 exact⟨p,dx,_,D,rfl,h1,(Ve _ _).2.1,(pcC T hC).c,(pcC T hC).high,p,x,z,m,n,rfl,hp,C,k⟩
theorem DW(T:Txt K mg t){H:Hp}{p:Addr}{x:List (List Nat)}{z:List Nat}{Q:VK}{E:XK}(hp:Pc t H p x z)(k:∀ l,H l=none->Q (.ref l) (upd H l (.lst (vS x)))):∃ a dx fs C,(V.ref p)=.ref a/\H a=some (.ins C dx fs)/\fs.lookup ("cloth" : Str)=none/\Cls K C/\Meth K C "cloth" t.Bw/\Ad0 t [.ref p] H Q E:=by
 obtain⟨D,dx,l,hC,h1,h2⟩:=id hp
 exact⟨p,dx,_,D,rfl,h1,(Ve _ _).2.2.2.1,(pcC T hC).c,(pcC T hC).AmW,p,x,z,rfl,hp,k⟩
theorem FZ(T:Txt K mg t){H:Hp}{p:Addr}{x:List (List Nat)}{z:List Nat}{Q:VK}{E:XK}(hp:Pc t H p x z)(k:Q (.str (tx z)) H):∃ a dx fs C,(V.ref p)=.ref a/\H a=some (.ins C dx fs)/\fs.lookup ("told" : Str)=none/\Cls K C/\Meth K C "told" t.Ca/\Afu t [.ref p] H Q E:=by
 obtain⟨D,dx,l,hC,h1,h2⟩:=id hp
 exact⟨p,dx,_,D,rfl,h1,(Ve _ _).2.2.2.2,(pcC T hC).c,(pcC T hC).told,p,x,z,rfl,hp,k⟩
theorem Vj:(("beside" : Str))=tx beW:=by decide +kernel
theorem Vk:(("above" : Str))=tx abW:=by decide +kernel
theorem Vl:(("mirror" : Str))=tx miW:=by decide +kernel
theorem Vm:(("upend" : Str))=tx upW:=by decide +kernel
theorem Vn:(("back" : Str))=tx baW:=by decide +kernel
theorem Acl:(("quarter" : Str))=tx quW:=by decide +kernel
theorem Rn:(("tile" : Str))=tx tiW:=by decide +kernel
theorem Acm:(("blocks" : Str))=tx blW:=by decide +kernel
theorem XC:(("lay" : Str))=tx laW:=by decide +kernel
def AjU (t:Adr):Sp:=λvs H Q E=>∃(p q:Addr) (x y:List (List Nat)) (zx zy:List Nat) (m n m' n':Nat),vs=[.ref p,.ref q]/\Pc t H p x zx/\Pc t H q y zy/\Cl x m n/\Cl y m' n'/\(m=m'/\n=n'->Q .non H)/\(¬(m=m'/\n=n')->E (.ref t.By) none H)
theorem Ks(T:Txt K mg t):Br P w K mg base (CX1 P w) 2 t.M3 t.M4 ["one", "other"] (AjU t):=by
 refine T.Eo.F.okX T7 (λvs H Q E h=>?_) (λcdv A outer s H vs Q E hr h=>?_)
 ·obtain⟨p,q,x,y,zx,zy,m,n,m',n',rfl,_⟩:=h
  rfl
 ·obtain⟨p,q,x,y,zx,zy,m,n,m',n',rfl,hp,hq,C,D,k1,k2⟩:=h
  refine⟨_,(Ad (Bj (PW.pt (pw_or (Aj Jg (Bc (K:=K) rfl (pv 0) ((Dq T).mono (by decide)) hr T.Du.b Ak) (Bc (K:=K) rfl (pv 1) ((Dq T).mono (by decide)) hr T.Du.b Ak) (Am _)) (pw_or1 (Aj Jg (Bc (K:=K) rfl (pv 0) ((Dr T).mono (by decide)) hr T.Dv.b Ak) (Bc (K:=K) rfl (pv 1) ((Dr T).mono (by decide)) hr T.Dv.b Ak) (Am _)))))
    (Ad (CQ Fp rfl (λ_ _ z=>z) F.excBase_ValueError El F.excBase_ValueError T.BP.q rfl T.BR (Aa Af Ab)))
    An)),?_⟩
  refine⟨_,rfl,Ja T hp C ?_⟩
  refine⟨_,rfl,Ja T hq D ?_⟩
  refine⟨rfl,_,rfl,?_⟩
  by_cases c1:m=m'
  ·refine JT (by rw[c1]) ?_
   refine⟨_,rfl,Jd T hp C ?_⟩
   refine⟨_,rfl,Jd T hq D ?_⟩
   refine⟨rfl,_,rfl,?_⟩
   by_cases c2:n=n'
   ·refine JT (by rw[c2]) ?_
    exact k1 ⟨c1,c2⟩
   ·refine AcF (λz=>c2 (by injection z with z;lia)) ?_
    exact⟨by decide,k2 (λz=>c2 z.2)⟩
  ·refine AcF (λz=>c1 (by injection z with z;lia)) ?_
   exact Gq ⟨by decide,k2 (λz=>c1 z.1)⟩
def Ae7 (K:W.Frag)(t:Adr)(C:Addr)(mk:List (List Nat)->List (List Nat)->Res)(wd:List Nat):Sp:=λvs H Q E=>∃(r dx p q:Addr) (x y:List (List Nat)) (zx zy:List Nat),vs=[.ref r,.ref p,.ref q]/\H r=some (.ins C dx [])/\Pc t H p x zx/\Pc t H q y zy/\Clo x/\Clo y/\(wz wd [zx,zy]).length<=1000000/\Oi t C dx r H Q E (mk x y) (wz wd [zx,zy])
theorem Rr(T:Txt K mg t):Br P w K mg base (CX1 P w) 3 t.HF t.KD ["self", "one", "other"] (Ae7 K t t.Eg Nu beW):=by
 refine T.Lf.F.okX Kc (λvs H Q E h=>?_) (λcdv A outer s H vs Q E hr h=>?_)
 ·obtain⟨r,dx,p,q,x,y,zx,zy,rfl,_⟩:=h
  rfl
 ·obtain⟨r,dx,p,q,x,y,zx,zy,rfl,h1,hp,hq,C,D,hw,k⟩:=h
  refine⟨_,(Ac (Bj (Aj Jg (Bc (K:=K) rfl (pv 1) ((Dr T).mono (by decide)) hr T.Dv.b Ak) (Bc (K:=K) rfl (pv 2) ((Dr T).mono (by decide)) hr T.Dv.b Ak) (Am _))
    (Ad (CQ Fp rfl (λ_ _ z=>z) F.excBase_ValueError El F.excBase_ValueError T.BP.q rfl T.BR (Aa Af Ab)))
    An)
   (Ac (Bl (Aq ((Fl T).mono (by decide)) hr rfl T.Cq.m T.Cq.F.kp T.Cq.b .nil Ej (Aa (Ar Fy (Bc (K:=K) rfl (pv 1) ((Dq T).mono (by decide)) hr T.Du.b Ak) (Bc (K:=K) rfl (pv 2) ((Dq T).mono (by decide)) hr T.Du.b Ak)) (Aa (Bc (K:=K) rfl (pv 1) ((Dr T).mono (by decide)) hr T.Dv.b Ak) Ab))))
   (Ac (PS.nox (AaN (K:=K) (i:=3) (Nz.mk (Bd:=[]) (Nc:=["left", "right"]) rfl (by decide +kernel) (by decide +kernel) (Cp (sc0:=Ah HB) rfl (by decide +kernel)) rfl rfl rfl rfl rfl (by decide +kernel) (λ_ _ h=>by simp at h)) rfl Kc.nd rfl rfl (AeO (K:=K) rfl T.Afn (Aa (Bc (K:=K) rfl (pv 1) ((BJ T).mono (by decide)) hr T.Bx.b Ak) (Aa (Bc (K:=K) rfl (pv 2) ((BJ T).mono (by decide)) hr T.Bx.b Ak) Ab))) (λ_ _ _ _ _=>.nil) (λ_ _ _ _ _=>(Ar Bg (pv 0) (pv 1))) rfl))
   (Ad (Bl (G6 (Ce (v:=.ref t.BL) rfl T.Gj rfl) T.Fi ((Bv T).mono (by decide)) hr T.Bu.b .nil Ak (Aa (pv 0) (Aa (pv 3) (Aa (Aq ((Eb T).mono (by decide)) hr rfl T.written.m T.written.F.kp T.written.b .nil Ak (Aa Af (Aa (BV (Aa (Bc (K:=K) rfl (pv 1) ((Cd T).mono (by decide)) hr T.Ci.b Ak) (Aa (Bc (K:=K) rfl (pv 2) ((Cd T).mono (by decide)) hr T.Ci.b Ak) Ab))) Ab))) Ab))))))))),?_⟩
  have x40:=C.n40
  have Ky:=C.m40
  have Aon:=D.m40
  unfold Nu at k
  refine⟨_,rfl,Jd T hp C ?_⟩
  refine⟨_,rfl,Jd T hq D ?_⟩
  refine⟨rfl,_,rfl,?_⟩
  by_cases c1:x.length=y.length
  case neg =>
   rw[if_pos c1] at k
   refine AcF (λz=>c1 (by injection z with z;lia)) ?_
   exact⟨by decide,k _ (Fo (.refl _))⟩
  rw[if_neg (λz=>z c1)] at k
  refine JT (by rw[c1]) ?_
  refine⟨_,rfl,Ja T hp C ?_⟩
  refine⟨_,rfl,Ja T hq D ?_⟩
  refine⟨_,_,rfl,rfl,?_⟩
  refine⟨_,rfl,Jd T hp C ?_⟩
  refine⟨wdt x+wdt y,x.length,rfl,λc2=>?_,λc2 H' s'=>?_⟩
  case' refine_2 =>
   rw[if_pos c2] at k
   exact k _ (Fo s')
  rw[if_neg (by lia)] at k
  refine⟨_,rfl,DW T hp λl1 nl1=>?_⟩
  obtain⟨H1,e9,s1,hl1⟩:=nu9 (o:=.lst (vS x)) (.refl _) nl1
  rw[e9]
  refine⟨_,rfl,DW T (hq.mono s1) λl2 nl2=>?_⟩
  obtain⟨H2,e9,s2,hl2⟩:=nu9 (o:=.lst (vS y)) (.refl _) nl2
  rw[e9]
  have hl1:=s2 _ _ hl1
  refine⟨.l l1,.l l2,rfl,trivial,⟨_,SqL.of hl1⟩,⟨_,SqL.of hl2⟩,?_⟩
  have zl:(List.zipWith (·++·) x y).length=x.length:=by rw[AqN,<- c1,Aqb]
  refine Adc (n:=x.length) (λi=>.str (tx (x.getD i []))) (λi=>.str (tx (y.getD i []))) (λi ys H8=>Be H2 H8/\ys=vS ((List.zipWith (·++·) x y).take i)) ⟨.refl _,rfl⟩ ?_ ?_ ?_ ?_ ?_ ?_ ?_
  ·rintro i ys H8 hi ⟨s8,rfl⟩
   rw[Ba,Ap2]
   lia
  ·exact Bq x40
  ·rintro i ys H8 hi ⟨s8,_⟩
   have e:x.getD i []=x[i]:=by simp[List.getD,hi]
   exact⟨_,SqL.of (s8 _ _ hl1),by rw[e];exact Aby (Apu hi)⟩
  ·rintro i ys H8 hi ⟨s8,_⟩
   have hi2:i<y.length:=by lia
   have e:y.getD i []=y[i]:=by simp[List.getD,hi2]
   exact⟨_,SqL.of (s8 _ _ hl2),by rw[e];exact Aby (Apu hi2)⟩
  ·rintro ys H8 ⟨s8,_⟩
   exact⟨⟨_,SqL.of (s8 _ _ hl1)⟩,⟨_,SqL.of (s8 _ _ hl2)⟩,.inl ⟨_,SqL.of (s8 _ _ hl1),by rw[Ba]⟩⟩
  ·rintro i ys H8 T8 hi ⟨s8,rfl⟩ nT8
   have hi2:i<y.length:=by lia
   have e1:x.getD i []=x[i]:=by simp[List.getD,hi]
   have e2:y.getD i []=y[i]:=by simp[List.getD,hi2]
   have w1:=C.hm _ (ApI hi)
   have w2:=D.hm _ (ApI hi2)
   refine Dh.no ?_
   rw[e1,e2]
   refine⟨_,rfl,_,rfl,_,_,rfl,rfl,(by rw[Ai,Ai,w1,w2];exact big (by lia)),?_⟩
   rw[CJ]
   refine CN.of hi ⟨s8.new nT8,?_⟩
   rw[CP,Ap4,List.getElem?_zipWith,Apu hi,Apu hi2]
   rfl
  ·rintro ys H8 l8 ⟨s8,rfl⟩ nl8
   rw[ApP (by rw[zl];exact Apv _)]
   obtain⟨H9,e9,u8,hl8⟩:=nu9 (o:=.lst (vS (List.zipWith (·++·) x y))) ((s1.trans s2).trans s8) nl8
   rw[e9]
   refine⟨rfl,_,rfl,_,rfl,_,rfl,FZ T (hp.mono u8) ?_⟩
   refine⟨_,rfl,FZ T (hq.mono u8) ?_⟩
   refine⟨(by show 2<=sizeLine;decide),λp9 np9=>?_⟩
   have v9:Be H9 (upd H9 p9 (.lst (vS [zx,zy]))):=.upd np9
   have hp9:(upd H9 p9 (.lst (vS [zx,zy]))) p9=some (.lst (vS [zx,zy])):=Ae
   rw[show(upd H9 p9 (.lst [V.str (tx zx),V.str (tx zy)]))=upd H9 p9 (.lst (vS [zx,zy])) from rfl]
   generalize upd H9 p9 (.lst (vS [zx,zy]))=Ha at v9 hp9 ⊢
   refine⟨p9,beW,[zx,zy],(by rw[Vj];rfl),SqL.of hp9,(by simp),hw,?_⟩
   refine⟨t.Eg,r,dx,l8,_,_,rfl,(u8.trans v9) _ _ h1,T.Zg.c,T.Ph,T.Lb,SqL.of (v9 _ _ hl8),λl hl=>?_⟩
   exact k.fin (u8.trans v9) h1 hl
theorem Tf(T:Txt K mg t):Br P w K mg base (CX1 P w) 3 t.Ij t.Mu ["self", "one", "other"] (Ae7 K t t.Fe S8 abW):=by
 refine T.MP.F.okX Ue (λvs H Q E h=>?_) (λcdv A outer s H vs Q E hr h=>?_)
 ·obtain⟨r,dx,p,q,x,y,zx,zy,rfl,_⟩:=h
  rfl
 ·obtain⟨r,dx,p,q,x,y,zx,zy,rfl,h1,hp,hq,C,D,hw,k⟩:=h
  refine⟨_,(Ac (Bj (Aj Jg (Bc (K:=K) rfl (pv 1) ((Dq T).mono (by decide)) hr T.Du.b Ak) (Bc (K:=K) rfl (pv 2) ((Dq T).mono (by decide)) hr T.Du.b Ak) (Am _))
    (Ad (CQ Fp rfl (λ_ _ z=>z) F.excBase_ValueError El F.excBase_ValueError T.BP.q rfl T.BR (Aa Af Ab)))
    An)
   (Ac (Bl (Aq ((Fl T).mono (by decide)) hr rfl T.Cq.m T.Cq.F.kp T.Cq.b .nil Ej (Aa (Bc (K:=K) rfl (pv 1) ((Dq T).mono (by decide)) hr T.Du.b Ak) (Aa (Ar Fy (Bc (K:=K) rfl (pv 1) ((Dr T).mono (by decide)) hr T.Dv.b Ak) (Bc (K:=K) rfl (pv 2) ((Dr T).mono (by decide)) hr T.Dv.b Ak)) Ab))))
   (Ad (Bl (G6 (Ce (v:=.ref t.BL) rfl T.Gj rfl) T.Fi ((Bv T).mono (by decide)) hr T.Bu.b .nil Ak (Aa (pv 0) (Aa (Ar XX (Bc (K:=K) rfl (pv 1) ((BJ T).mono (by decide)) hr T.Bx.b Ak) (Bc (K:=K) rfl (pv 2) ((BJ T).mono (by decide)) hr T.Bx.b Ak)) (Aa (Aq ((Eb T).mono (by decide)) hr rfl T.written.m T.written.F.kp T.written.b .nil Ak (Aa Af (Aa (BV (Aa (Bc (K:=K) rfl (pv 1) ((Cd T).mono (by decide)) hr T.Ci.b Ak) (Aa (Bc (K:=K) rfl (pv 2) ((Cd T).mono (by decide)) hr T.Ci.b Ak) Ab))) Ab))) Ab)))))))),?_⟩
  have x40:=C.n40
  have y40:=D.n40
  unfold S8 at k
  refine⟨_,rfl,Ja T hp C ?_⟩
  refine⟨_,rfl,Ja T hq D ?_⟩
  refine⟨rfl,_,rfl,?_⟩
  by_cases c1:wdt x=wdt y
  case neg =>
   rw[if_pos c1] at k
   refine AcF (λz=>c1 (by injection z with z;lia)) ?_
   exact⟨by decide,k _ (Fo (.refl _))⟩
  rw[if_neg (λz=>z c1)] at k
  refine JT (by rw[c1]) ?_
  refine⟨_,rfl,Ja T hp C ?_⟩
  refine⟨_,rfl,Jd T hp C ?_⟩
  refine⟨_,rfl,Jd T hq D ?_⟩
  refine⟨_,_,rfl,rfl,?_⟩
  refine⟨wdt x,x.length+y.length,rfl,λc2=>?_,λc2 H' s'=>?_⟩
  case' refine_2 =>
   rw[if_pos c2] at k
   exact k _ (Fo s')
  rw[if_neg (by lia)] at k
  refine⟨rfl,_,rfl,_,rfl,DW T hp λl1 nl1=>?_⟩
  obtain⟨H1,e9,s1,hl1⟩:=nu9 (o:=.lst (vS x)) (.refl _) nl1
  rw[e9]
  refine⟨_,rfl,DW T (hq.mono s1) λl2 nl2=>?_⟩
  obtain⟨H2,e9,s2,hl2⟩:=nu9 (o:=.lst (vS y)) (.refl _) nl2
  rw[e9]
  have hl1:=s2 _ _ hl1
  refine⟨_,_,_,_,rfl,rfl,hl1,hl2,(by rw[Ba,Ba];exact big (by lia)),λl8 nl8=>?_⟩
  rw[show vS x++vS y=vS (x++y) by unfold vS;rw[Apx]]
  obtain⟨H9,e9,u8,hl8⟩:=nu9 (o:=.lst (vS (x++y))) (s1.trans s2) nl8
  rw[e9]
  refine⟨_,rfl,FZ T (hp.mono u8) ?_⟩
  refine⟨_,rfl,FZ T (hq.mono u8) ?_⟩
  refine⟨(by show 2<=sizeLine;decide),λp9 np9=>?_⟩
  have v9:Be H9 (upd H9 p9 (.lst (vS [zx,zy]))):=.upd np9
  have hp9:(upd H9 p9 (.lst (vS [zx,zy]))) p9=some (.lst (vS [zx,zy])):=Ae
  rw[show(upd H9 p9 (.lst [V.str (tx zx),V.str (tx zy)]))=upd H9 p9 (.lst (vS [zx,zy])) from rfl]
  generalize upd H9 p9 (.lst (vS [zx,zy]))=Ha at v9 hp9 ⊢
  refine⟨p9,abW,[zx,zy],(by rw[Vk];rfl),SqL.of hp9,(by simp),hw,?_⟩
  refine⟨t.Fe,r,dx,l8,_,_,rfl,(u8.trans v9) _ _ h1,T.AbR.c,T.QC,T.M8,SqL.of (v9 _ _ hl8),λl hl=>?_⟩
  exact k.fin (u8.trans v9) h1 hl
def Acn (K:W.Frag)(t:Adr)(C:Addr)(wd:List Nat)(mk:List (List Nat)->List (List Nat)):Sp:=λvs H Q E=>∃(r dx p:Addr) (x:List (List Nat)) (zx:List Nat),vs=[.ref r,.ref p]/\H r=some (.ins C dx [])/\Pc t H p x zx/\Clo x/\(wz wd [zx]).length<=1000000/\Oi t C dx r H Q E (.ok (mk x)) (wz wd [zx])
theorem Tg(T:Txt K mg t):Br P w K mg base CX0 3 t.HH t.KH ["self", "inner"] (Acn K t t.Eh miW (List.map List.reverse)):=by
 refine T.Lg.F.ok Ke (λvs H Q E h=>?_) (λcdv A outer s H vs Q E hr h=>?_)
 ·obtain⟨r,dx,p,x,zx,rfl,_⟩:=h
  rfl
 ·obtain⟨r,dx,p,x,zx,rfl,h1,hp,C,hw,k⟩:=h
  refine⟨_,(Ac (Tp (i:=2) (CG.mk (Bd:=[]) (Nc:=["text"]) rfl (by decide +kernel) (by decide +kernel) (Cp (sc0:=Ah HD) rfl (by decide +kernel)) rfl rfl rfl (by decide +kernel) (λ_ _ h=>by simp at h)) rfl Ke.nd rfl rfl (CV (K:=K) (Bc (K:=K) rfl (pv 1) ((BJ T).mono (by decide)) hr T.Bx.b Ak)) (λ_ _ _ _ _=>.nil) (λ_ _ _ _ _=>(Dj (K:=K) F.plainAttrs_str F.slot_str_join F.type_str_join Yl Af (Aa (Cm Wm rfl T.Im Jj (Aa (pv 0) Ab)) Ab))) rfl)
   (Ad (Bl (G6 (Ce (v:=.ref t.BL) rfl T.Gj rfl) T.Fi ((Bv T).mono (by decide)) hr T.Bu.b .nil Ak (Aa (pv 0) (Aa (pv 2) (Aa (Aq ((Eb T).mono (by decide)) hr rfl T.written.m T.written.F.kp T.written.b .nil Ak (Aa Af (Aa (BV (Aa (Bc (K:=K) rfl (pv 1) ((Cd T).mono (by decide)) hr T.Ci.b Ak) Ab)) Ab))) Ab))))))),?_⟩
  have x40:=C.n40
  have Ky:=C.m40
  refine⟨_,rfl,DW T hp λl1 nl1=>?_⟩
  obtain⟨H1,e9,s1,hl1⟩:=nu9 (o:=.lst (vS x)) (.refl _) nl1
  rw[e9]
  refine⟨_,rfl,⟨_,SqL.of hl1⟩,DY (K:=K) (a:=l1) (xs:=vS x) (λi ys H2=>Be H1 H2/\ys=vS ((x.take i).map List.reverse)) ⟨.refl _,rfl⟩ ?_ ?_ ?_ ?_⟩
  ·rintro i ys H2 hi ⟨s2,rfl⟩
   refine⟨SqL.of (s2 _ _ hl1),?_⟩
   rw[Ba,Apq,Ap2]
   lia
  ·rw[Ba];exact Bq x40
  ·rintro i xv ys H2 hi hx ⟨s2,rfl⟩
   obtain⟨u,hu,rfl⟩:=GP hx
   have hul:=C.hm u (ApD hu)
   refine Dh.no ?_
   refine⟨rfl,_,rfl,_,rfl,(by rw[Ai,hul];exact Bq Ky),λq hq=>?_⟩
   refine⟨_,_,q,rfl,rfl,Ae,(by decide +kernel),(by rw[Ai];lia),?_⟩
   rw[Et,show(("" : Str))=tx [] from by decide +kernel,show(u.reverse.map λc=>(⟨#[c]⟩:Str))=(u.reverse.map λc=>[c]).map tx by rw[Aqa];rfl,FN]
   have e2:(u.reverse.map λc=>[c]).flatten=u.reverse:=(Om id u.reverse).trans (Aqc _)
   rw[e2]
   refine CN.of hi ⟨(s2.new hq).over (s2.free hq),?_⟩
   rw[CP,Ap4,hu,Apx]
   rfl
  rintro ys H2 l8 ⟨s2,rfl⟩ nl8
  rw[Ba,ApJ]
  obtain⟨H9,e9,u8,hl8⟩:=nu9 (o:=.lst (vS (x.map List.reverse))) (s1.trans s2) nl8
  rw[e9]
  refine⟨rfl,_,rfl,_,rfl,?_⟩
  refine⟨_,rfl,FZ T (hp.mono u8) ?_⟩
  refine⟨(by show 1<=sizeLine;decide),λp9 np9=>?_⟩
  have v9:Be H9 (upd H9 p9 (.lst (vS [zx]))):=.upd np9
  have hp9:(upd H9 p9 (.lst (vS [zx]))) p9=some (.lst (vS [zx])):=Ae
  rw[show(upd H9 p9 (.lst [V.str (tx zx)]))=upd H9 p9 (.lst (vS [zx])) from rfl]
  generalize upd H9 p9 (.lst (vS [zx]))=Ha at v9 hp9 ⊢
  refine⟨p9,miW,[zx],(by rw[Vl];rfl),SqL.of hp9,(by simp),hw,?_⟩
  refine⟨t.Eh,r,dx,l8,_,_,rfl,(u8.trans v9) _ _ h1,T.Zn.c,T.Pj,T.Ld,SqL.of (v9 _ _ hl8),λl hl=>?_⟩
  exact k.fin (u8.trans v9) h1 hl
theorem Vo(T:Txt K mg t):Br P w K mg base CX0 3 t.Ik t.Mv ["self", "inner"] (Acn K t t.Ff upW List.reverse):=by
 refine T.MT.F.ok Ug (λvs H Q E h=>?_) (λcdv A outer s H vs Q E hr h=>?_)
 ·obtain⟨r,dx,p,x,zx,rfl,_⟩:=h
  rfl
 ·obtain⟨r,dx,p,x,zx,rfl,h1,hp,C,hw,k⟩:=h
  refine⟨_,(Ad (Bl (G6 (Ce (v:=.ref t.BL) rfl T.Gj rfl) T.Fi ((Bv T).mono (by decide)) hr T.Bu.b .nil Ak (Aa (pv 0) (Aa (Yu (K:=K) rfl T.VM rfl T.Im (Bc (K:=K) rfl (pv 1) ((BJ T).mono (by decide)) hr T.Bx.b Ak)) (Aa (Aq ((Eb T).mono (by decide)) hr rfl T.written.m T.written.F.kp T.written.b .nil Ak (Aa Af (Aa (BV (Aa (Bc (K:=K) rfl (pv 1) ((Cd T).mono (by decide)) hr T.Ci.b Ak) Ab)) Ab))) Ab)))))),?_⟩
  have x40:=C.n40
  have Ky:=C.m40
  refine⟨rfl,_,rfl,_,rfl,DW T hp λl1 nl1=>?_⟩
  obtain⟨H1,e9,s1,hl1⟩:=nu9 (o:=.lst (vS x)) (.refl _) nl1
  rw[e9]
  refine⟨l1,vS x,rfl,SqL.of hl1,(by rw[Ba];lia),λl8 nl8=>?_⟩
  rw[show(vS x).reverse=vS x.reverse by unfold vS;rw[List.map_reverse]]
  obtain⟨H9,e9,u8,hl8⟩:=nu9 (o:=.lst (vS x.reverse)) s1 nl8
  rw[e9]
  refine⟨_,rfl,FZ T (hp.mono u8) ?_⟩
  refine⟨(by show 1<=sizeLine;decide),λp9 np9=>?_⟩
  have v9:Be H9 (upd H9 p9 (.lst (vS [zx]))):=.upd np9
  have hp9:(upd H9 p9 (.lst (vS [zx]))) p9=some (.lst (vS [zx])):=Ae
  rw[show(upd H9 p9 (.lst [V.str (tx zx)]))=upd H9 p9 (.lst (vS [zx])) from rfl]
  generalize upd H9 p9 (.lst (vS [zx]))=Ha at v9 hp9 ⊢
  refine⟨p9,upW,[zx],(by rw[Vm];rfl),SqL.of hp9,(by simp),hw,?_⟩
  refine⟨t.Ff,r,dx,l8,_,_,rfl,(u8.trans v9) _ _ h1,T.AbS.c,T.QD,T.M9,SqL.of (v9 _ _ hl8),λl hl=>?_⟩
  exact k.fin (u8.trans v9) h1 hl
theorem Wf(T:Txt K mg t):Br P w K mg base CX0 6 t.Jz t.O1 ["self", "inner"] (Acn K t t.GX baW back):=by
 refine T.Pu.F.ok VG (λvs H Q E h=>?_) (λcdv A outer s H vs Q E hr h=>?_)
 ·obtain⟨r,dx,p,x,zx,rfl,_⟩:=h
  rfl
 ·obtain⟨r,dx,p,x,zx,rfl,h1,hp,C,hw,k⟩:=h
  refine⟨_,(Ad (Bl (G6 (Ce (v:=.ref t.BL) rfl T.Gj rfl) T.Fi ((Bv T).mono (by decide)) hr T.Bu.b .nil Ak (Aa (pv 0) (Aa (Aq ((Ae2 T).mono (by decide)) hr rfl T.X4.m T.X4.F.kp T.X4.b .nil Ak (Aa (Bc (K:=K) rfl (pv 1) ((BJ T).mono (by decide)) hr T.Bx.b Ak) Ab)) (Aa (Aq ((Eb T).mono (by decide)) hr rfl T.written.m T.written.F.kp T.written.b .nil Ak (Aa Af (Aa (BV (Aa (Bc (K:=K) rfl (pv 1) ((Cd T).mono (by decide)) hr T.Ci.b Ak) Ab)) Ab))) Ab)))))),?_⟩
  have x40:=C.n40
  have Ky:=C.m40
  refine⟨rfl,_,rfl,_,rfl,DW T hp λl1 nl1=>?_⟩
  obtain⟨H1,e9,s1,hl1⟩:=nu9 (o:=.lst (vS x)) (.refl _) nl1
  rw[e9]
  refine⟨l1,x,wdt x,x.length,rfl,SqL.of hl1,C,λl8 H9 s9 nl8 hl8=>?_⟩
  have u8:=s1.trans s9
  refine⟨_,rfl,FZ T (hp.mono u8) ?_⟩
  refine⟨(by show 1<=sizeLine;decide),λp9 np9=>?_⟩
  have v9:Be H9 (upd H9 p9 (.lst (vS [zx]))):=.upd np9
  have hp9:(upd H9 p9 (.lst (vS [zx]))) p9=some (.lst (vS [zx])):=Ae
  rw[show(upd H9 p9 (.lst [V.str (tx zx)]))=upd H9 p9 (.lst (vS [zx])) from rfl]
  generalize upd H9 p9 (.lst (vS [zx]))=Ha at v9 hp9 ⊢
  refine⟨p9,baW,[zx],(by rw[Vn];rfl),SqL.of hp9,(by simp),hw,?_⟩
  refine⟨t.GX,r,dx,l8,_,_,rfl,(u8.trans v9) _ _ h1,T.Aet.c,T.Sh,T.Pk,SqL.of (v9 _ _ hl8),λl hl=>?_⟩
  exact k.fin (u8.trans v9) h1 hl
theorem Rt(T:Txt K mg t):Br P w K mg base CX0 6 t.Hl t.Kh ["self", "inner"] (Acn K t t.Dy quW (λx=>Wo x (wdt x))):=by
 refine T.Kq.F.ok Ro (λvs H Q E h=>?_) (λcdv A outer s H vs Q E hr h=>?_)
 ·obtain⟨r,dx,p,x,zx,rfl,_⟩:=h
  rfl
 ·obtain⟨r,dx,p,x,zx,rfl,h1,hp,C,hw,k⟩:=h
  refine⟨_,(Ad (Bl (G6 (Ce (v:=.ref t.BL) rfl T.Gj rfl) T.Fi ((Bv T).mono (by decide)) hr T.Bu.b .nil Ak (Aa (pv 0) (Aa (Aq ((Aaz T).mono (by decide)) hr rfl T.NZ.m T.NZ.F.kp T.NZ.b .nil Ak (Aa (Bc (K:=K) rfl (pv 1) ((BJ T).mono (by decide)) hr T.Bx.b Ak) Ab)) (Aa (Aq ((Eb T).mono (by decide)) hr rfl T.written.m T.written.F.kp T.written.b .nil Ak (Aa Af (Aa (BV (Aa (Bc (K:=K) rfl (pv 1) ((Cd T).mono (by decide)) hr T.Ci.b Ak) Ab)) Ab))) Ab)))))),?_⟩
  have x40:=C.n40
  have Ky:=C.m40
  refine⟨rfl,_,rfl,_,rfl,DW T hp λl1 nl1=>?_⟩
  obtain⟨H1,e9,s1,hl1⟩:=nu9 (o:=.lst (vS x)) (.refl _) nl1
  rw[e9]
  refine⟨l1,x,wdt x,x.length,rfl,SqL.of hl1,C,λl8 H9 s9 nl8 hl8=>?_⟩
  have u8:=s1.trans s9
  refine⟨_,rfl,FZ T (hp.mono u8) ?_⟩
  refine⟨(by show 1<=sizeLine;decide),λp9 np9=>?_⟩
  have v9:Be H9 (upd H9 p9 (.lst (vS [zx]))):=.upd np9
  have hp9:(upd H9 p9 (.lst (vS [zx]))) p9=some (.lst (vS [zx])):=Ae
  rw[show(upd H9 p9 (.lst [V.str (tx zx)]))=upd H9 p9 (.lst (vS [zx])) from rfl]
  generalize upd H9 p9 (.lst (vS [zx]))=Ha at v9 hp9 ⊢
  refine⟨p9,quW,[zx],(by rw[Acl];rfl),SqL.of hp9,(by simp),hw,?_⟩
  refine⟨t.Dy,r,dx,l8,_,_,rfl,(u8.trans v9) _ _ h1,T.VR.c,T.MF,T.Kp,SqL.of (v9 _ _ hl8),λl hl=>?_⟩
  exact k.fin (u8.trans v9) h1 hl
def AjV (K:W.Frag)(t:Adr):Sp:=λvs H Q E=>∃(r dx p:Addr) (x:List (List Nat)) (zx:List Nat) (a b:Nat),vs=[.ref r,.ref p,.int (a:Int),.int (b:Int)]/\H r=some (.ins t.Gx dx [])/\Pc t H p x zx/\Clo x/\a<100/\b<100/\(wz tiW [zx,dec a,dec b]).length<=1000000/\Oi t t.Gx dx r H Q E (Y0 x a b) (wz tiW [zx,dec a,dec b])
theorem Vp(T:Txt K mg t):Br P w K mg base (CX1 P w) 6 t.J0 t.O2 ["self", "inner", "across", "along"] (AjV K t):=by
 refine T.Px.F.okX Mm (λvs H Q E h=>?_) (λcdv A outer s H vs Q E hr h=>?_)
 ·obtain⟨r,dx,p,x,zx,a,b,rfl,_⟩:=h
  rfl
 ·obtain⟨r,dx,p,x,zx,a,b,rfl,h1,hp,C,ha,hb,hw,k⟩:=h
  refine⟨_,(Ac (Bj (PW.pt (pw_or (Aj Kz (pv 2) Ag (Am _)) (pw_or1 (Aj Kz (pv 3) Ag (Am _)))))
    (Ad (CQ Fp rfl (λ_ _ z=>z) F.excBase_ValueError El F.excBase_ValueError T.BP.q rfl T.BR (Aa Af Ab)))
    An)
   (Ac (Bh (i:=4) Mm.nd rfl (Or.inl rfl) (Aq ((Ai0 T).mono (by decide)) hr rfl T.Afm.m T.Afm.F.kp T.Afm.b .nil Ej (Aa (Bc (K:=K) rfl (pv 1) ((BJ T).mono (by decide)) hr T.Bx.b Ak) (Aa (pv 2) (Aa (pv 3) Ab)))))
   (Ad (Bl (G6 (Ce (v:=.ref t.BL) rfl T.Gj rfl) T.Fi ((Bv T).mono (by decide)) hr T.Bu.b .nil Ak (Aa (pv 0) (Aa (pv 4) (Aa (Aq ((Eb T).mono (by decide)) hr rfl T.written.m T.written.F.kp T.written.b .nil Ak (Aa Af (Aa (BV (Aa (Bc (K:=K) rfl (pv 1) ((Cd T).mono (by decide)) hr T.Ci.b Ak) (Aa (Cm Di rfl T.Pb Jr (Aa (pv 2) Ab)) (Aa (Cm Di rfl T.Pb Jr (Aa (pv 3) Ab)) Ab)))) Ab))) Ab)))))))),?_⟩
  unfold Y0 at k
  have fin:(a<1\/b<1)->∀ H',DR r H H'->E (.ref t.By) none H':=λg=>by
   rw[if_pos g] at k
   exact k
  refine⟨_,rfl,_,_,rfl,rfl,_,rfl,?_⟩
  refine Dk (λc1=>?_) (λc1=>?_)
  ·exact Gq ⟨by decide,fin (.inl (by lia)) _ (Fo (.refl _))⟩
  refine⟨_,rfl,_,_,rfl,rfl,_,rfl,?_⟩
  refine Dk (λc2=>?_) (λc2=>?_)
  ·exact⟨by decide,fin (.inr (by lia)) _ (Fo (.refl _))⟩
  rw[if_neg (by lia)] at k
  refine⟨_,rfl,DW T hp λl1 nl1=>?_⟩
  obtain⟨H1,e9,s1,hl1⟩:=nu9 (o:=.lst (vS x)) (.refl _) nl1
  rw[e9]
  have e1:((wdt x:Nat):Int)*(a:Int)=((wdt x*a:Nat):Int):=by rw[ApL]
  have e2:((x.length:Nat):Int)*(b:Int)=((x.length*b:Nat):Int):=by rw[ApL]
  refine⟨_,rfl,_,rfl,l1,x,wdt x,x.length,(a:Int),(b:Int),rfl,SqL.of hl1,C,(by lia),(by lia),λc3 l8 H9 s9 nl8 hl8=>?_,λc3 H' s'=>?_⟩
  case' refine_2 =>
   rw[e1,e2] at c3
   rw[if_pos (by lia)] at k
   exact k _ (Fo (s1.trans s'))
  rw[e1,e2] at c3
  rw[if_neg (by lia)] at k
  rw[Ap1,Ap1] at hl8
  have u8:=s1.trans s9
  refine⟨rfl,_,rfl,_,rfl,_,rfl,FZ T (hp.mono u8) ?_⟩
  refine⟨_,rfl,_,rfl,lg ha,_,rfl,_,rfl,lg hb,?_⟩
  rw[Js a,Js b]
  refine⟨(by show 3<=sizeLine;decide),λp9 np9=>?_⟩
  have v9:Be H9 (upd H9 p9 (.lst (vS [zx,dec a,dec b]))):=.upd np9
  have hp9:(upd H9 p9 (.lst (vS [zx,dec a,dec b]))) p9=some (.lst (vS [zx,dec a,dec b])):=Ae
  rw[show(upd H9 p9 (.lst [V.str (tx zx),V.str (tx (dec a)),V.str (tx (dec b))]))=upd H9 p9 (.lst (vS [zx,dec a,dec b])) from rfl]
  generalize upd H9 p9 (.lst (vS [zx,dec a,dec b]))=Ha at v9 hp9 ⊢
  refine⟨p9,tiW,[zx,dec a,dec b],(by rw[Rn];rfl),SqL.of hp9,(by simp),hw,?_⟩
  refine⟨t.Gx,r,dx,l8,_,_,rfl,(u8.trans v9) _ _ h1,T.Aew.c,T.Sq,T.Pn,SqL.of (v9 _ _ hl8),λl hl=>?_⟩
  exact k.fin (u8.trans v9) h1 hl
def AlF (K:W.Frag)(t:Adr):Sp:=λvs H Q E=>∃(r dx o p q:Addr) (v x y:List (List Nat)) (zv zx zy:List Nat),vs=[.ref r,.ref o,.ref p,.ref q]/\H r=some (.ins t.DQ dx [])/\Pc t H o v zv/\Pc t H p x zx/\Pc t H q y zy/\Clo v/\Clo x/\Clo y/\(wz blW [zv,zx,zy]).length<=1000000/\Oi t t.DQ dx r H Q E (Nv v x y) (wz blW [zv,zx,zy])
theorem Ru(T:Txt K mg t):Br P w K mg base (CX1 P w) 7 t.HJ t.KJ ["self", "profile", "one", "other"] (AlF K t):=by
 refine T.Lh.F.okX Kg (λvs H Q E h=>?_) (λcdv A outer s H vs Q E hr h=>?_)
 ·obtain⟨r,dx,o,p,q,v,x,y,zv,zx,zy,rfl,_⟩:=h
  rfl
 ·obtain⟨r,dx,o,p,q,v,x,y,zv,zx,zy,rfl,h1,ho,hp,hq,B,C,D,hw,k⟩:=h
  refine⟨_,(Ac (Bl (Aq ((Ks T).mono (by decide)) hr rfl T.Eo.m T.Eo.F.kp T.Eo.b .nil Ej (Aa (pv 2) (Aa (pv 3) Ab))))
   (Ac (Bh (i:=4) Kg.nd rfl (Or.inl rfl) (Aq ((Wc T).mono (by decide)) hr rfl T.IK.m T.IK.F.kp T.IK.b .nil Ej (Aa (Bc (K:=K) rfl (pv 1) ((BJ T).mono (by decide)) hr T.Bx.b Ak) (Aa (Bc (K:=K) rfl (pv 2) ((BJ T).mono (by decide)) hr T.Bx.b Ak) (Aa (Bc (K:=K) rfl (pv 3) ((BJ T).mono (by decide)) hr T.Bx.b Ak) Ab)))))
   (Ad (Bl (G6 (Ce (v:=.ref t.BL) rfl T.Gj rfl) T.Fi ((Bv T).mono (by decide)) hr T.Bu.b .nil Ak (Aa (pv 0) (Aa (pv 4) (Aa (Aq ((Eb T).mono (by decide)) hr rfl T.written.m T.written.F.kp T.written.b .nil Ak (Aa Af (Aa (BV (Aa (Bc (K:=K) rfl (pv 1) ((Cd T).mono (by decide)) hr T.Ci.b Ak) (Aa (Bc (K:=K) rfl (pv 2) ((Cd T).mono (by decide)) hr T.Ci.b Ak) (Aa (Bc (K:=K) rfl (pv 3) ((Cd T).mono (by decide)) hr T.Ci.b Ak) Ab)))) Ab))) Ab)))))))),?_⟩
  unfold Nv at k
  refine⟨_,rfl,_,rfl,p,q,x,y,zx,zy,wdt x,x.length,wdt y,y.length,rfl,hp,hq,C,D,λc1=>?_,λc1=>?_⟩
  case' refine_2 =>
   rw[if_pos (by lia)] at k
   exact k _ (Fo (.refl _))
  rw[if_neg (by lia)] at k
  refine⟨_,rfl,DW T ho λl1 nl1=>?_⟩
  obtain⟨H1,e9,s1,hl1⟩:=nu9 (o:=.lst (vS v)) (.refl _) nl1
  rw[e9]
  refine⟨_,rfl,DW T (hp.mono s1) λl2 nl2=>?_⟩
  obtain⟨H2,e9,s2,hl2⟩:=nu9 (o:=.lst (vS x)) (.refl _) nl2
  rw[e9]
  refine⟨_,rfl,DW T (hq.mono (s1.trans s2)) λl3 nl3=>?_⟩
  obtain⟨H3,e9,s3,hl3⟩:=nu9 (o:=.lst (vS y)) (.refl _) nl3
  rw[e9]
  have u3:=(s1.trans s2).trans s3
  have D':Cl y (wdt x) x.length:=by rw[c1.1,c1.2];exact D
  refine⟨l1,l2,l3,v,x,y,wdt v,v.length,wdt x,x.length,rfl,SqL.of (s3 _ _ (s2 _ _ hl1)),SqL.of (s3 _ _ hl2),SqL.of hl3,B,C,D',λc3 l8 H9 s9 nl8 hl8=>?_,λc3 H' s'=>?_⟩
  case' refine_2 =>
   rw[if_pos (by lia)] at k
   exact k _ (Fo (u3.trans s'))
  rw[if_neg (by lia)] at k
  have u8:=u3.trans s9
  refine⟨rfl,_,rfl,_,rfl,_,rfl,FZ T (ho.mono u8) ?_⟩
  refine⟨_,rfl,FZ T (hp.mono u8) ?_⟩
  refine⟨_,rfl,FZ T (hq.mono u8) ?_⟩
  refine⟨(by show 3<=sizeLine;decide),λp9 np9=>?_⟩
  have v9:Be H9 (upd H9 p9 (.lst (vS [zv,zx,zy]))):=.upd np9
  have hp9:(upd H9 p9 (.lst (vS [zv,zx,zy]))) p9=some (.lst (vS [zv,zx,zy])):=Ae
  rw[show(upd H9 p9 (.lst [V.str (tx zv),V.str (tx zx),V.str (tx zy)]))=upd H9 p9 (.lst (vS [zv,zx,zy])) from rfl]
  generalize upd H9 p9 (.lst (vS [zv,zx,zy]))=Ha at v9 hp9 ⊢
  refine⟨p9,blW,[zv,zx,zy],(by rw[Acm];rfl),SqL.of hp9,(by simp),hw,?_⟩
  refine⟨t.DQ,r,dx,l8,_,_,rfl,(u8.trans v9) _ _ h1,T.Zv.c,T.Pq,T.Le,SqL.of (v9 _ _ hl8),λl hl=>?_⟩
  exact k.fin (u8.trans v9) h1 hl
theorem Ai6(k:Nat):(List.replicate k [V.int 0,V.int 1]).flatten=vI (Ia k):=by
 unfold Ia
 induction k with
 | zero=>rfl
 | succ k ih =>
  rw[ApM,ApH,ih,ApM,ApH]
  rfl
theorem Wg(T:Txt K mg t):Br P w K mg base (CX1 P w) 4 t.Kl t.Qu ["self", "upper", "lower"] (Ae7 K t t.JD Aed laW):=by
 refine T.QG.F.okX Ov (λvs H Q E h=>?_) (λcdv A outer s H vs Q E hr h=>?_)
 ·obtain⟨r,dx,p,q,x,y,zx,zy,rfl,_⟩:=h
  rfl
 ·obtain⟨r,dx,p,q,x,y,zx,zy,rfl,h1,hp,hq,C,D,hw,k⟩:=h
  refine⟨_,(Ac (Bl (Aq ((Ks T).mono (by decide)) hr rfl T.Eo.m T.Eo.F.kp T.Eo.b .nil Ej (Aa (pv 1) (Aa (pv 2) Ab))))
   (Ac (Bl (Aq ((Fl T).mono (by decide)) hr rfl T.Cq.m T.Cq.F.kp T.Cq.b .nil Ej (Aa (Ar Gp Ag (Bc (K:=K) rfl (pv 1) ((Dq T).mono (by decide)) hr T.Du.b Ak)) (Aa (Ar Gp Ag (Bc (K:=K) rfl (pv 1) ((Dr T).mono (by decide)) hr T.Dv.b Ak)) Ab))))
   (Ac (Bh (i:=3) Ov.nd rfl (Or.inl rfl) (Aq ((We T).mono (by decide)) hr rfl T.IV.m T.IV.F.kp T.IV.b .nil Ak (Aa (BV (Aa (Bc (K:=K) rfl (pv 1) ((BJ T).mono (by decide)) hr T.Bx.b Ak) (Aa (Bc (K:=K) rfl (pv 2) ((BJ T).mono (by decide)) hr T.Bx.b Ak) Ab))) (Aa (Ar Abt (BV (Aa Ag (Aa Ag Ab))) (Bc (K:=K) rfl (pv 1) ((Dq T).mono (by decide)) hr T.Du.b Ak)) (Aa (Ar Abt (BV (Aa Ag (Aa Ag Ab))) (Bc (K:=K) rfl (pv 1) ((Dr T).mono (by decide)) hr T.Dv.b Ak)) Ab)))))
   (Ad (Bl (G6 (Ce (v:=.ref t.BL) rfl T.Gj rfl) T.Fi ((Bv T).mono (by decide)) hr T.Bu.b .nil Ak (Aa (pv 0) (Aa (pv 3) (Aa (Aq ((Eb T).mono (by decide)) hr rfl T.written.m T.written.F.kp T.written.b .nil Ak (Aa Af (Aa (BV (Aa (Bc (K:=K) rfl (pv 1) ((Cd T).mono (by decide)) hr T.Ci.b Ak) (Aa (Bc (K:=K) rfl (pv 2) ((Cd T).mono (by decide)) hr T.Ci.b Ak) Ab))) Ab))) Ab))))))))),?_⟩
  unfold Aed at k
  have hsz:sizeLine=16777216:=sizeLine_eq
  refine⟨_,rfl,_,rfl,p,q,x,y,zx,zy,wdt x,x.length,wdt y,y.length,rfl,hp,hq,C,D,λc1=>?_,λc1=>?_⟩
  case' refine_2 =>
   rw[if_pos (by lia)] at k
   exact k _ (Fo (.refl _))
  rw[if_neg (by lia)] at k
  have Ky:=C.m40
  have x40:=C.n40
  refine⟨_,rfl,Ja T hp C ?_⟩
  refine⟨_,_,rfl,rfl,.inl ⟨by decide,by decide⟩,?_⟩
  refine⟨_,rfl,Jd T hp C ?_⟩
  refine⟨_,_,rfl,rfl,.inl ⟨by decide,by decide⟩,?_⟩
  refine⟨2*wdt x,2*x.length,(by rw[ApL,ApL];rfl),λc2=>?_,λc2 H' s'=>?_⟩
  case' refine_2 =>
   rw[if_pos c2] at k
   exact k _ (Fo s')
  rw[if_neg (by lia)] at k
  refine⟨_,rfl,DW T hp λl1 nl1=>?_⟩
  obtain⟨H1,e9,s1,hl1⟩:=nu9 (o:=.lst (vS x)) (.refl _) nl1
  rw[e9]
  refine⟨_,rfl,DW T (hq.mono s1) λl2 nl2=>?_⟩
  obtain⟨H2,e9,s2,hl2⟩:=nu9 (o:=.lst (vS y)) (.refl _) nl2
  rw[e9]
  refine⟨(by show 2<=sizeLine;decide),λl3 nl3=>?_⟩
  obtain⟨H3,e9,s3,hl3⟩:=nu9 (o:=.lst [V.ref l1,V.ref l2]) (.refl _) nl3
  rw[e9]
  refine⟨(by show 2<=sizeLine;decide),λl4 nl4=>?_⟩
  obtain⟨H4,e9,s4,hl4⟩:=nu9 (o:=.lst [V.int 0,V.int 1]) (.refl _) nl4
  rw[e9]
  have u4:=((s1.trans s2).trans s3).trans s4
  refine⟨_,rfl,Ja T (hp.mono u4) C ?_⟩
  refine⟨_,_,_,rfl,rfl,hl4,(by lia),(by lia),(by rw[Ap1];show 2*_<=_;lia),λl5 nl5=>?_⟩
  rw[Ap1,Ai6]
  obtain⟨H5,e9,s5,hl5⟩:=nu9 (o:=.lst (vI (Ia (wdt x)))) (.refl _) nl5
  rw[e9]
  refine⟨(by show 2<=sizeLine;decide),λl6 nl6=>?_⟩
  obtain⟨H6,e9,s6,hl6⟩:=nu9 (o:=.lst [V.int 0,V.int 1]) (.refl _) nl6
  rw[e9]
  have u6:=(u4.trans s5).trans s6
  refine⟨_,rfl,Jd T (hp.mono u6) C ?_⟩
  refine⟨_,_,_,rfl,rfl,hl6,(by lia),(by lia),(by rw[Ap1];show 2*_<=_;lia),λl7 nl7=>?_⟩
  rw[Ap1,Ai6]
  obtain⟨H7,e9,s7,hl7⟩:=nu9 (o:=.lst (vI (Ia x.length))) (.refl _) nl7
  rw[e9]
  have u7:=u6.trans s7
  have w3:Be H3 H7:=((s4.trans s5).trans s6).trans s7
  have D':Cl y (wdt x) x.length:=by rw[c1.1,c1.2];exact D
  refine⟨l3,l5,l7,[l1,l2],[x,y],Ia (wdt x),Ia x.length,rfl,SqL.of (w3 _ _ hl3),⟨rfl,λi a hi=>?_⟩,SqL.of ((s6.trans s7) _ _ hl5),SqL.of hl7,Ah5 C D' c2.1 c2.2,λl8 H9 s9 nl8 hl8=>?_⟩
  ·rcases i with _ | _ | i
   ·cases hi
    exact SqL.of (w3 _ _ (s3 _ _ (s2 _ _ hl1)))
   ·cases hi
    exact SqL.of (w3 _ _ (s3 _ _ hl2))
   ·simp at hi
  have u8:=u7.trans s9
  refine⟨rfl,_,rfl,_,rfl,_,rfl,FZ T (hp.mono u8) ?_⟩
  refine⟨_,rfl,FZ T (hq.mono u8) ?_⟩
  refine⟨(by show 2<=sizeLine;decide),λp9 np9=>?_⟩
  have v9:Be H9 (upd H9 p9 (.lst (vS [zx,zy]))):=.upd np9
  have hp9:(upd H9 p9 (.lst (vS [zx,zy]))) p9=some (.lst (vS [zx,zy])):=Ae
  rw[show(upd H9 p9 (.lst [V.str (tx zx),V.str (tx zy)]))=upd H9 p9 (.lst (vS [zx,zy])) from rfl]
  generalize upd H9 p9 (.lst (vS [zx,zy]))=Ha at v9 hp9 ⊢
  refine⟨p9,laW,[zx,zy],(by rw[XC];rfl),SqL.of hp9,(by simp),hw,?_⟩
  refine⟨t.JD,r,dx,l8,_,_,rfl,(u8.trans v9) _ _ h1,T.Aib.c,T.U9,T.QF,SqL.of (v9 _ _ hl8),λl hl=>?_⟩
  exact k.fin (u8.trans v9) h1 hl
def Oc (t:Adr)(H:Hp)(Q:VK)(E:XK)(R:Res)(z:List Nat):Prop:=match R with
 | .ok x=>∀ p H',Be H H'->Pc t (nw H H') p x z->Q (.ref p) H'
 | .no f=>∀ H',Be H H'->E (.ref (rfa t f)) none H'
theorem Abh{r dx C:Addr}{H H':Hp}(h1:H r=none)(h2:H dx=none)(s:DR r (upd (upd H dx (.own r)) r (.ins C dx [])) H'):Be H H':=λb o e=>by
 have n1:=Ay e h1
 refine s b o n1 ?_
 rw[Ao n1,Ao (Ay e h2)]
 exact e
theorem Afv{H H1 H2:Hp}(s:Be H H1):∀ b o,nw H1 H2 b=some o->nw H H2 b=some o:=Adw λb e=>by
 cases e2:H b with
 | none=>rfl
 | some o=>rw[s _ _ e2] at e;cases e
theorem Oc.same{H H1:Hp}{Q:VK}{E:XK}{R:Res}{z:List Nat}(k:Oc t H Q E R z)(s:Be H H1):Oc t H1 Q E R z:=by
 cases R with
 | ok x=>exact λp H' s' hp=>k p H' (s.trans s') (hp.mono (Afv s))
 | no f=>exact λH' s'=>k H' (s.trans s')
theorem Oc.make{C r dx:Addr}{H:Hp}{Q:VK}{E:XK}{R:Res}{z:List Nat}(k:Oc t H Q E R z)(hC:C∈pcs t)(h1:H r=none)(h2:H dx=none):Oi t C dx r (upd (upd H dx (.own r)) r (.ins C dx [])) (λv H2=>v=.non/\Q (.ref r) H2) E R z:=by
 cases R with
 | ok x =>
  intro l H' sb hl hl' hr'
  have nl:H l=none:=by
   by_cases e1:l=r
   ·rw[e1];exact h1
   ·rw[Ao e1] at hl
    by_cases e2:l=dx
    ·rw[e2];exact h2
    ·rw[Ao e2] at hl;exact hl
  exact⟨rfl,k r H' (Abh h1 h2 sb) ⟨C,dx,l,hC,by rw[Su h1];exact hr',by rw[Su nl];exact hl'⟩⟩
 | no f=>exact λH' sb=>k H' (Abh h1 h2 sb)
inductive AtA (t:Adr) (H:Hp):Arg->V->Prop
 | num {n:Nat}:AtA t H (.num n) (.int (n:Int))
 | run {r:List Nat}:AtA t H (.run r) (.str (tx r))
 | cl {x:List (List Nat)} {z:List Nat} {p:Addr}:Pc t H p x z->AtA t H (.cl x z) (.ref p)
theorem AtA.mono{H H':Hp}(s:∀ b o,H b=some o->H' b=some o){x:Arg}{v:V}(h:AtA t H x v):AtA t H' x v:=by
 cases h with
 | num=>exact .num
 | run=>exact .run
 | cl h=>exact .cl (h.mono s)
theorem Ei{r dx C:Addr}{H:Hp}(h1:H r=none)(h2:H dx=none):Be H (upd (upd H dx (.own r)) r (.ins C dx [])):=λb o e=>by
 rw[Ao (Ay e h1),Ao (Ay e h2)]
 exact e
theorem GF:t.Eu∈pcs t/\t.Gw∈pcs t/\t.Ew∈pcs t/\t.Ex∈pcs t/\t.Eg∈pcs t/\t.Fe∈pcs t/\t.Eh∈pcs t/\t.Ff∈pcs t/\t.GX∈pcs t/\t.Dy∈pcs t/\t.Gx∈pcs t/\t.DQ∈pcs t/\t.JD∈pcs t:=by
 simp[pcs]
def Anc (t:Adr):Sp:=λvs H Q _=>∃(z zx:List Nat) (x:List (List Nat)) (p:Addr) (E:XK),vs=[.str (tx z),.ref p]/\(z=miW\/z=upW\/z=baW\/z=quW)/\Pc t H p x zx/\Clo x/\(wz z [zx]).length<=1000000/\Oc t H Q E (AcW z x) (wz z [zx])
theorem Gk{a b:List Nat}(h:¬a=b):¬(V.str (tx a):V)=V.str (tx b):=λz=>h (by injection z with z;exact Jp z)
theorem Z9(T:Txt K mg t):Br P w K mg base CX0 8 t.RQ t.RT ["word", "inner"] (Anc t):=by
 refine T.KZ.F.ok YC (λvs H Q E h=>?_) (λcdv A outer s H vs Q E hr h=>?_)
 ·obtain⟨z,zx,x,p,E',rfl,_⟩:=h
  rfl
 ·obtain⟨z,zx,x,p,E',rfl,hz,hp,C,hw,k⟩:=h
  refine⟨_,(Ac (Bj (Aj Cu (pv 0) Af (Am _))
    (Ad (Av (Gg T.Zn.m ((Tg T).mono (by decide)) hr rfl T.AhX T.Lg.b .nil Ak (Aa (pv 1) Ab))))
    An)
   (Ac (Bj (Aj Cu (pv 0) Af (Am _))
    (Ad (Av (Gg T.AbS.m ((Vo T).mono (by decide)) hr rfl T.AjB T.MT.b .nil Ak (Aa (pv 1) Ab))))
    An)
   (Ac (Bj (Aj Cu (pv 0) Af (Am _))
    (Ad (Av (Gg T.Aet.m ((Wf T).mono (by decide)) hr rfl T.Al3 T.Pu.b .nil Ak (Aa (pv 1) Ab))))
    An)
   (Ad (Av (Gg T.VR.m ((Rt T).mono (by decide)) hr rfl T.Agn T.Kq.b .nil Ak (Aa (pv 1) Ab))))))),?_⟩
  refine⟨_,rfl,rfl,_,rfl,?_⟩
  rw[Vl]
  by_cases c1:z=miW
  ·subst c1
   refine Ec rfl ?_
   exact⟨_,rfl,λr dx hr1 hdx hne=>⟨r,dx,p,x,zx,rfl,Ae,hp.mono (Ei hr1 hdx),C,hw,Oc.make k GF.2.2.2.2.2.2.1 hr1 hdx⟩⟩
  refine Dc (Gk c1) ?_
  refine⟨_,rfl,rfl,_,rfl,?_⟩
  rw[Vm]
  by_cases c2:z=upW
  ·subst c2
   refine Ec rfl ?_
   exact⟨_,rfl,λr dx hr1 hdx hne=>⟨r,dx,p,x,zx,rfl,Ae,hp.mono (Ei hr1 hdx),C,hw,Oc.make k GF.2.2.2.2.2.2.2.1 hr1 hdx⟩⟩
  refine Dc (Gk c2) ?_
  refine⟨_,rfl,rfl,_,rfl,?_⟩
  rw[Vn]
  by_cases c3:z=baW
  ·subst c3
   refine Ec rfl ?_
   exact⟨_,rfl,λr dx hr1 hdx hne=>⟨r,dx,p,x,zx,rfl,Ae,hp.mono (Ei hr1 hdx),C,hw,Oc.make k GF.2.2.2.2.2.2.2.2.1 hr1 hdx⟩⟩
  refine Dc (Gk c3) ?_
  have c4:z=quW:=by
   rcases hz with h | h | h | h
   ·exact absurd h c1
   ·exact absurd h c2
   ·exact absurd h c3
   ·exact h
  subst c4
  exact⟨_,rfl,λr dx hr1 hdx hne=>⟨r,dx,p,x,zx,rfl,Ae,hp.mono (Ei hr1 hdx),C,hw,Oc.make k GF.2.2.2.2.2.2.2.2.2.1 hr1 hdx⟩⟩
def Ane (t:Adr):Sp:=λvs H Q E=>∃(z:List Nat) (a b:Arg) (va vb:V),vs=[.str (tx z),va,vb]/\¬z=Pat.Fq/\Fit z [a,b]/\AtA t H a va/\AtA t H b vb/\(wz z [wrA a,wrA b]).length<=1000000/\Oc t H Q E (made z [a,b]) (wz z [wrA a,wrA b])
theorem Xr(T:Txt K mg t):Br P w K mg base (CX1 P w) 6 t.RW t.RX ["word", "one", "other"] (Ane t):=by
 refine T.La.F.okX YD (λvs H Q E h=>?_) (λcdv A outer s H vs Q E hr h=>?_)
 ·obtain⟨z,a,b,va,vb,rfl,_⟩:=h
  rfl
 ·obtain⟨z,a,b,va,vb,rfl,hz0,F,ha,hb,hw,k⟩:=h
  refine⟨_,(Ac (Bj (Aj Cu (pv 0) Af (Am _))
    (Ad (Av (Gg T.AbP.m ((Td T).mono (by decide)) hr rfl T.Aj8 T.MK.b .nil Ej (Aa (pv 1) (Aa (pv 2) Ab)))))
    An)
   (Ac (Bj (Aj Cu (pv 0) Af (Am _))
    (Ad (Av (Gg T.AbQ.m ((Te T).mono (by decide)) hr rfl T.Aj9 T.MN.b .nil Ej (Aa (pv 1) (Aa (pv 2) Ab)))))
    An)
   (Ac (Bj (Aj Cu (pv 0) Af (Am _))
    (Ad (Av (Gg T.Zg.m ((Rr T).mono (by decide)) hr rfl T.AhU T.Lf.b .nil Ej (Aa (pv 1) (Aa (pv 2) Ab)))))
    An)
   (Ac (Bj (Aj Cu (pv 0) Af (Am _))
    (Ad (Av (Gg T.AbR.m ((Tf T).mono (by decide)) hr rfl T.AjA T.MP.b .nil Ej (Aa (pv 1) (Aa (pv 2) Ab)))))
    An)
   (Ad (Av (Gg T.Aib.m ((Wg T).mono (by decide)) hr rfl T.AmS T.QG.b .nil Ej (Aa (pv 1) (Aa (pv 2) Ab))))))))),?_⟩
  have both:(∃ m n,(z=twW\/z=saW)/\a=.num m/\b=.num n/\m<100/\n<100)\/∃ x zx y zy,(z=beW\/z=abW\/z=laW)/\a=.cl x zx/\b=.cl y zy/\Clo x/\Clo y:=by
   generalize has:[a,b]=as at F
   cases F with
   | rows h1 h2 h3=>exact absurd rfl hz0
   | nums w h1 h2=>cases has;exact .inl ⟨_,_,w,rfl,rfl,h1,h2⟩
   | one w h1=>cases has
   | two w h1 h2=>cases has;exact .inr ⟨_,_,_,_,w,rfl,rfl,h1,h2⟩
   | tile h1 h2 h3=>cases has
   | blk h1 h2 h3=>cases has
  rcases both with ⟨m,n,w,rfl,rfl,hm,hn⟩ | ⟨x,zx,y,zy,w,rfl,rfl,C,D⟩
  ·cases ha
   cases hb
   refine⟨_,rfl,rfl,_,rfl,?_⟩
   rw[Acj]
   by_cases c1:z=twW
   ·subst c1
    refine Ec rfl ?_
    exact⟨_,rfl,_,rfl,λr dx hr1 hdx hne=>⟨r,dx,m,n,rfl,Ae,hm,hn,Oc.make k GF.2.2.1 hr1 hdx⟩⟩
   have c2:z=saW:=w.resolve_left c1
   subst c2
   refine Dc (Gk c1) ?_
   refine⟨_,rfl,rfl,_,rfl,?_⟩
   rw[Ack]
   refine Ec rfl ?_
   exact⟨_,rfl,_,rfl,λr dx hr1 hdx hne=>⟨r,dx,m,n,rfl,Ae,hm,hn,Oc.make k GF.2.2.2.1 hr1 hdx⟩⟩
  ·obtain _ | _ | hp:=ha
   obtain _ | _ | hq:=hb
   have d1:¬z=twW:=by rcases w with rfl | rfl | rfl <;> decide
   have d2:¬z=saW:=by rcases w with rfl | rfl | rfl <;> decide
   refine⟨_,rfl,rfl,_,rfl,?_⟩
   rw[Acj]
   refine Dc (Gk d1) ?_
   refine⟨_,rfl,rfl,_,rfl,?_⟩
   rw[Ack]
   refine Dc (Gk d2) ?_
   refine⟨_,rfl,rfl,_,rfl,?_⟩
   rw[Vj]
   by_cases c1:z=beW
   ·subst c1
    refine Ec rfl ?_
    exact⟨_,rfl,_,rfl,λr dx hr1 hdx hne=>⟨r,dx,_,_,x,y,zx,zy,rfl,Ae,hp.mono (Ei hr1 hdx),hq.mono (Ei hr1 hdx),C,D,hw,Oc.make k GF.2.2.2.2.1 hr1 hdx⟩⟩
   refine Dc (Gk c1) ?_
   refine⟨_,rfl,rfl,_,rfl,?_⟩
   rw[Vk]
   by_cases c2:z=abW
   ·subst c2
    refine Ec rfl ?_
    exact⟨_,rfl,_,rfl,λr dx hr1 hdx hne=>⟨r,dx,_,_,x,y,zx,zy,rfl,Ae,hp.mono (Ei hr1 hdx),hq.mono (Ei hr1 hdx),C,D,hw,Oc.make k GF.2.2.2.2.2.1 hr1 hdx⟩⟩
   refine Dc (Gk c2) ?_
   have c3:z=laW:=(w.resolve_left c1).resolve_left c2
   subst c3
   exact⟨_,rfl,_,rfl,λr dx hr1 hdx hne=>⟨r,dx,_,_,x,y,zx,zy,rfl,Ae,hp.mono (Ei hr1 hdx),hq.mono (Ei hr1 hdx),C,D,hw,Oc.make k GF.2.2.2.2.2.2.2.2.2.2.2.2 hr1 hdx⟩⟩
def Anf (K:W.Frag)(t:Adr):Sp:=λvs H Q E=>∃(z:List Nat) (a b c:Arg) (va vb vc:V) (l:Addr),vs=[.str (tx z),.ref l]/\SqL K H l [va,vb,vc]/\¬z=Pat.Fq/\Fit z [a,b,c]/\AtA t H a va/\AtA t H b vb/\AtA t H c vc/\(wz z [wrA a,wrA b,wrA c]).length<=1000000/\Oc t H Q E (made z [a,b,c]) (wz z [wrA a,wrA b,wrA c])
theorem Vq(T:Txt K mg t):Br P w K mg base (CX1 P w) 9 t.OJ t.Pa ["word", "things"] (Anf K t):=by
 refine T.IW.F.okX VD (λvs H Q E h=>?_) (λcdv A outer s H vs Q E hr h=>?_)
 ·obtain⟨z,a,b,c,va,vb,vc,l,rfl,_⟩:=h
  rfl
 ·obtain⟨z,a,b,c,va,vb,vc,l,rfl,hl,hz0,F,ha,hb,hc,hw,k⟩:=h
  refine⟨_,(Ac (Bj (Aj Cu (pv 0) Af (Am _))
    (Ad (Av (Gg T.Aew.m ((Vp T).mono (by decide)) hr rfl T.Al4 T.Px.b .nil Ej (Aa (Bf (Ax (K:=K)) (pv 1) Ag (λ_ _=>rfl)) (Aa (Bf (Ax (K:=K)) (pv 1) Ag (λ_ _=>rfl)) (Aa (Bf (Ax (K:=K)) (pv 1) Ag (λ_ _=>rfl)) Ab))))))
    An)
   (Ad (Av (Gg T.Zv.m ((Ru T).mono (by decide)) hr rfl T.Aia T.Lh.b .nil Ej (Aa (Bf (Ax (K:=K)) (pv 1) Ag (λ_ _=>rfl)) (Aa (Bf (Ax (K:=K)) (pv 1) Ag (λ_ _=>rfl)) (Aa (Bf (Ax (K:=K)) (pv 1) Ag (λ_ _=>rfl)) Ab))))))),?_⟩
  have a0:atI [va,vb,vc] 0=some va:=Cj (by decide) rfl
  have a1:atI [va,vb,vc] 1=some vb:=Cj (by decide) rfl
  have a2:atI [va,vb,vc] 2=some vc:=Cj (by decide) rfl
  have both:(∃ x zx m n,z=tiW/\a=.cl x zx/\b=.num m/\c=.num n/\Clo x/\m<100/\n<100)\/∃ v zv x zx y zy,z=blW/\a=.cl v zv/\b=.cl x zx/\c=.cl y zy/\Clo v/\Clo x/\Clo y:=by
   generalize has:[a,b,c]=as at F
   cases F with
   | rows h1 h2 h3=>exact absurd rfl hz0
   | nums w h1 h2=>cases has
   | one w h1=>cases has
   | two w h1 h2=>cases has
   | tile h1 h2 h3=>cases has;exact .inl ⟨_,_,_,_,rfl,rfl,rfl,rfl,h1,h2,h3⟩
   | blk h1 h2 h3=>cases has;exact .inr ⟨_,_,_,_,_,_,rfl,rfl,rfl,rfl,h1,h2,h3⟩
  refine⟨_,rfl,rfl,_,rfl,?_⟩
  rw[Rn]
  rcases both with ⟨x,zx,m,n,rfl,rfl,rfl,rfl,C,hm,hn⟩ | ⟨v,zv,x,zx,y,zy,rfl,rfl,rfl,rfl,B,C,D⟩
  ·obtain _ | _ | hp:=ha
   cases hb
   cases hc
   refine Ec rfl ?_
   exact⟨_,rfl,_,_,_,_,rfl,rfl,hl,a0,_,rfl,_,_,_,_,rfl,rfl,hl,a1,_,rfl,_,_,_,_,rfl,rfl,hl,a2,λr dx hr1 hdx hne=>⟨r,dx,_,x,zx,m,n,rfl,Ae,hp.mono (Ei hr1 hdx),C,hm,hn,hw,Oc.make k GF.2.2.2.2.2.2.2.2.2.2.1 hr1 hdx⟩⟩
  ·obtain _ | _ | ho:=ha
   obtain _ | _ | hp:=hb
   obtain _ | _ | hq:=hc
   refine Dc (Gk (by decide)) ?_
   exact⟨_,rfl,_,_,_,_,rfl,rfl,hl,a0,_,rfl,_,_,_,_,rfl,rfl,hl,a1,_,rfl,_,_,_,_,rfl,rfl,hl,a2,λr dx hr1 hdx hne=>⟨r,dx,_,_,_,v,x,y,zv,zx,zy,rfl,Ae,ho.mono (Ei hr1 hdx),hp.mono (Ei hr1 hdx),hq.mono (Ei hr1 hdx),B,C,D,hw,Oc.make k GF.2.2.2.2.2.2.2.2.2.2.2.1 hr1 hdx⟩⟩
def Kn (H:Hp)(kp:Addr)(kn:Kns):Prop:=∃ as:List Addr,H kp=some (.lst (as.map V.ref))/\as.length=kn.length/\∀(i:Nat) (a:Addr) (p:List Nat × List (List Nat)),as[i]?=some a->kn[i]?=some p->∃ q,H a=some (.tup [.str (tx p.1),.ref q])/\H q=some (.lst (vS p.2))
theorem Kn.same{H H':Hp}{kp:Addr}{kn:Kns}(h:Kn H kp kn)(s:Be H H'):Kn H' kp kn:=by
 obtain⟨as,h1,h2,h3⟩:=h
 refine⟨as,s _ _ h1,h2,λi a p g1 g2=>?_⟩
 obtain⟨q,e1,e2⟩:=h3 i a p g1 g2
 exact⟨q,s _ _ e1,s _ _ e2⟩
def Ai7 (t:Adr):Sp:=λvs H Q E=>∃(z:List Nat) (kp:Addr) (kn:Kns),vs=[.str (tx z),.ref kp]/\Kn H kp kn/\(∀ x q,known kn z=.ok x->H q=some (.lst (vS x))->Q (.ref q) H)/\(known kn z=.no .unk->E (.ref t.Er) none H)
theorem Xu(T:Txt K mg t):Br P w K mg base (CX1 P w) 1 t.RN t.RP ["name", "known"] (Ai7 t):=by
 refine T.KY.F.okX Ka (λvs H Q E h=>?_) (λcdv A outer s H vs Q E hr h=>?_)
 ·obtain⟨z,kp,kn,rfl,_⟩:=h
  rfl
 ·obtain⟨z,kp,kn,rfl,⟨as,h1,h2,h3⟩,k1,k2⟩:=h
  refine⟨_,(Ac (PS.nox (Fw PassesOwn.never rfl (CV (K:=K) (pv 1)) (Nh rfl (De (BK (i:=2) Ka.nd rfl (Or.inl rfl)) (De (BK (i:=3) Ka.nd rfl (Or.inl rfl)) JH)))
    (Ad (Bj (Aj Cu (pv 2) (pv 0) (Am _))
     (Ad (Av (pv 3)))
     An))))
   (Ad (CQ Fp rfl (λ_ _ z=>z) F.excBase_ValueError El F.excBase_ValueError T.VP.q rfl T.Abb (Aa Af Ab)))),?_⟩
  refine⟨_,rfl,_,rfl,⟨_,SqL.of h1⟩,Jf (K:=K) (a:=kp) (xs:=as.map V.ref) (λi σ H2=>∃ v1 v2,σ=[some (.str (tx z)),some (.ref kp),v1,v2]/\H2=H/\∀ p∈kn.take i,¬p.1=z) ⟨none,none,rfl,rfl,λp hp=>by simp at hp⟩ (λi σ H2 _ ⟨_,_,_,e,_⟩=>by rw[e];exact SqL.of h1) ?_ ?_⟩
  ·rintro i xv σ H2 hx ⟨v1,v2,rfl,rfl,no⟩
   rw[Ap9] at hx
   cases ea:as[i]? with
   | none=>rw[ea] at hx;cases hx
   | some a =>
    rw[ea] at hx
    cases hx
    have hi:i<kn.length:=by rw[<- h2];exact(List.getElem?_eq_some_iff.mp ea).1
    have ep:=Apu hi
    obtain⟨q,e1,e2⟩:=h3 i a _ ea ep
    refine⟨a,_,rfl,SqT.of e1,rfl,_,_,rfl,_,_,rfl,rfl,?_⟩
    refine⟨_,rfl,_,rfl,rfl,_,rfl,?_⟩
    by_cases c:kn[i].1=z
    ·refine Ec (by rw[c]) ?_
     refine⟨_,rfl,k1 kn[i].2 q ?_ e2⟩
     unfold known
     have:kn.find? (λp=>decide (p.1=z))=some kn[i]:=by
      rw[List.find?_eq_some_iff_getElem]
      refine⟨by simpa using c,i,hi,rfl,λj hj=>?_⟩
      have:=no kn[j] (List.mem_iff_getElem?.mpr ⟨j,by rw[List.getElem?_take_of_lt hj];exact Apu (by lia)⟩)
      simpa using this
     rw[this]
    ·refine Dc (Gk c) ?_
     refine⟨_,_,rfl,rfl,λp hp=>?_⟩
     rw[Ap4,ep] at hp
     rcases List.mem_append.mp hp with hp | hp
     ·exact no p hp
     ·rw[Option.toList_some,List.mem_singleton] at hp
      rw[hp]
      exact c
  ·rintro σ H2 ⟨v1,v2,rfl,rfl,no⟩
   rw[Apq,h2,ApJ] at no
   refine⟨by decide,k2 ?_⟩
   unfold known
   have:kn.find? (λp=>decide (p.1=z))=none:=List.find?_eq_none.mpr λp hp=>by simpa using no p hp
   rw[this]
def Ai8 (t:Adr)(d:Nat):Sp:=λvs H Q E=>∃(x:Nd) (v:V) (kp:Addr) (kn:Kns),vs=[v,.ref kp]/\Wd d x/\AtN H x v/\(wr d x).length<=1000000/\Kn H kp kn/\(∀ p∈kn,Clo p.2)/\Oc t H Q E (out kn d x) (wr d x)
def Ad9 (t:Adr)(H:Hp)(as:List Arg)(vs:List V):Prop:=vs.length=as.length/\∀(i:Nat) (a:Arg) (v:V),as[i]?=some a->vs[i]?=some v->AtA t H a v
theorem Ad9.snoc{H:Hp}{ts:List Arg}{vs:List V}{x:Arg}{v:V}(h:Ad9 t H ts vs)(hx:AtA t H x v):Ad9 t H (ts++[x]) (vs++[v]):=by
 refine⟨by rw[Aps,Aps,h.1];rfl,λi y w g1 g2=>?_⟩
 by_cases c:i<ts.length
 ·rw[Aqn c] at g1
  rw[Aqn (by rw[h.1];exact c)] at g2
  exact h.2 i y w g1 g2
 ·have e:i=ts.length:=by
   have:=(List.getElem?_eq_some_iff.mp g1).1
   rw[Aps,ApX] at this
   lia
  subst e
  rw[Aqm (Apv _),AqF] at g1
  rw[Aqm (by rw[h.1];exact Apv _),h.1,AqF] at g2
  cases g1
  cases g2
  exact hx
theorem Ad9.mono{H H':Hp}(s:∀ b o,H b=some o->H' b=some o){ts:List Arg}{vs:List V}(h:Ad9 t H ts vs):Ad9 t H' ts vs:=⟨h.1,λi x v g1 g2=>(h.2 i x v g1 g2).mono s⟩
theorem Afw{H H1 H2:Hp}(s:Be H1 H2):∀ b o,nw H H1 b=some o->nw H H2 b=some o:=λb o h=>by
 have g:=Nf h
 rw[Su g.1]
 exact s _ _ g.2
theorem AdA{kn:Kns}{d:Nat}{z:List Nat}{ts:List Nd}:out kn (d+1) (.node z ts)=match args (out kn d) (wr d) ts with
  | .inl f=>.no f
  | .inr as=>made z as:=rfl
theorem AjW{d:Nat}{z:List Nat}{ts:List Nd}(h:Wd (d+1) (.node z ts)):1<=ts.length/\ts.length<=40/\(¬z=Pat.Fq->ts.length<=3):=by
 cases h with
 | rows h1 h2 h3=>rw[Apq];exact⟨List.length_pos_iff.mpr h1,h2,λc=>absurd rfl c⟩
 | nums w _ _=>exact⟨by simp,by simp,by simp⟩
 | one w _=>exact⟨by simp,by simp,by simp⟩
 | two w _ _=>exact⟨by simp,by simp,by simp⟩
 | tile _ _ _=>exact⟨by simp,by simp,by simp⟩
 | blk _ _ _=>exact⟨by simp,by simp,by simp⟩
theorem Ai9{d:Nat}{z:List Nat}{ts:List Nd}(h:Wd (d+1) (.node z ts)){i:Nat}{x:Nd}(hx:ts[i]?=some x):(∃ n,x=.num n)\/(∃ r,x=.run r)\/Wd d x:=by
 cases h with
 | rows h1 h2 h3 =>
  rw[Ap9] at hx
  cases e:(_:List (List Nat))[i]? with
  | none=>rw[e] at hx;cases hx
  | some r=>rw[e] at hx;cases hx;exact .inr (.inl ⟨r,rfl⟩)
 | nums w _ _ =>
  rcases List.mem_cons.mp (ApD hx) with rfl | h
  ·exact .inl ⟨_,rfl⟩
  ·exact .inl ⟨_,List.mem_singleton.mp h⟩
 | one w h1=>rw[List.mem_singleton.mp (ApD hx)];exact .inr (.inr h1)
 | two w h1 h2 =>
  rcases List.mem_cons.mp (ApD hx) with rfl | h
  ·exact .inr (.inr h1)
  ·rw[List.mem_singleton.mp h];exact .inr (.inr h2)
 | tile h1 _ _ =>
  rcases List.mem_cons.mp (ApD hx) with rfl | h
  ·exact .inr (.inr h1)
  ·rcases List.mem_cons.mp h with rfl | h
   ·exact .inl ⟨_,rfl⟩
   ·exact .inl ⟨_,List.mem_singleton.mp h⟩
 | blk h1 h2 h3 =>
  rcases List.mem_cons.mp (ApD hx) with rfl | h
  ·exact .inr (.inr h1)
  ·rcases List.mem_cons.mp h with rfl | h
   ·exact .inr (.inr h2)
   ·rw[List.mem_singleton.mp h];exact .inr (.inr h3)
theorem ZC{d k:Nat}(hk:8<=k)(T:Txt K mg t)(Aco:Br P w K mg base (CX1 P w) (k+1) t.JL t.JM ["node", "known"] (Ai8 t d)):Br P w K mg base (CX1 P w) (k+2) t.JL t.JM ["node", "known"] (Ai8 t (d+1)):=by
 refine T.Hm.F.okX R5 (λvs H Q E h=>?_) (λcdv A outer s H vs Q E hr h=>?_)
 ·obtain⟨x,v,kp,kn,rfl,_⟩:=h
  rfl
 ·obtain⟨x,v,kp,kn,rfl,W,hv,hw,hK,hC,k0⟩:=h
  refine⟨_,(Ac (Bj (Aj AgJ (Bf (Dd (K:=K)) (pv 0) Ag (λ_ _=>rfl)) Sy (Am _))
    (Ad (Av (Gg T.AbK.m ((Vh T).mono (by lia)) hr rfl T.Aj5 T.MJ.b .nil Ak (Aa (Bf (Dd (K:=K)) (pv 0) Ag (λ_ _=>rfl)) (Aa (Aq ((Xu T).mono (by lia)) hr rfl T.KY.m T.KY.F.kp T.KY.b .nil Ej (Aa (Bf (Dd (K:=K)) (pv 0) Ag (λ_ _=>rfl)) (Aa (pv 1) Ab))) Ab)))))
    An)
   (Ac (AhK (i:=2) (E':=E) Fp (λ_ _ z=>z) (CG.mk (Bd:=[1]) (Nc:=["thing", "known"]) rfl (by decide +kernel) (by decide +kernel) (Cp (sc0:=Ah N6) rfl (by decide +kernel)) rfl rfl rfl (by decide +kernel) (λk j h=>match k,h with | 0,h=>by obtain rfl:=Option.some.inj h;exact⟨_,rfl,rfl,rfl⟩ | _+1,h=>by simp at h)) rfl R5.nd rfl rfl (CV (K:=K) (Bf (Dd (K:=K)) (pv 0) Ag (λ_ _=>rfl))) (λ_ _ _ _ _=>.nil) (λ_ _ _ _ _=>(PQ (Gn (Az (V1 (K:=K)) rfl T.Oj Ln (Aa (pv 0) (Aa (AeA (v:=.ty "tuple") rfl T.Aj2 AgY rfl) Ab)))) (Aq (Aco.mono (by lia)) hr rfl T.Hm.m T.Hm.F.kp T.Hm.b .nil AmN (Aa (pv 0) (Aa (pv 1) Ab))) (pv 0))) rfl)
   (Ac (Bj (Aj Cu (Bf (Dd (K:=K)) (pv 0) Ag (λ_ _=>rfl)) Af (Am _))
    (Ad (Av (Gg T.Aes.m ((Vi T).mono (by lia)) hr rfl T.Al2 T.Pr.b .nil Ej (Aa (pv 2) Ab))))
    An)
   (Ac (Bj (Aj Cu (Az (Bb (K:=K)) rfl T.Cr Bs (Aa (pv 2) Ab)) Ag (Am _))
    (Ad (Av (Aq ((Z9 T).mono (by lia)) hr rfl T.KZ.m T.KZ.F.kp T.KZ.b .nil Ak (Aa (Bf (Dd (K:=K)) (pv 0) Ag (λ_ _=>rfl)) (Aa (Bf (Ax (K:=K)) (pv 2) Ag (λ_ _=>rfl)) Ab)))))
    An)
   (Ac (Bj (Aj Cu (Az (Bb (K:=K)) rfl T.Cr Bs (Aa (pv 2) Ab)) Ag (Am _))
    (Ad (Av (Aq ((Vq T).mono (by lia)) hr rfl T.IW.m T.IW.F.kp T.IW.b .nil Ej (Aa (Bf (Dd (K:=K)) (pv 0) Ag (λ_ _=>rfl)) (Aa (pv 2) Ab)))))
    An)
   (Ad (Av (Aq ((Xr T).mono (by lia)) hr rfl T.La.m T.La.F.kp T.La.b .nil Ej (Aa (Bf (Dd (K:=K)) (pv 0) Ag (λ_ _=>rfl)) (Aa (Bf (Ax (K:=K)) (pv 2) Ag (λ_ _=>rfl)) (Aa (Bf (Ax (K:=K)) (pv 2) Ag (λ_ _=>rfl)) Ab))))))))))),?_⟩
  cases hv with
  | num=>cases W
  | run=>cases W
  | nam ha =>
   rename_i z a
   have a0:atI [V.str (tx z),V.non] 0=some (.str (tx z)):=Cj (by decide) rfl
   have a1:atI [V.str (tx z),V.non] 1=some .non:=Cj (by decide) rfl
   rw[Ab5,V3] at k0
   refine⟨_,rfl,_,_,_,_,rfl,rfl,SqT.of ha,a1,rfl,_,rfl,?_⟩
   refine Ec rfl ?_
   refine⟨_,rfl,_,_,_,_,rfl,rfl,SqT.of ha,a0,_,rfl,_,_,_,_,rfl,rfl,SqT.of ha,a0,_,rfl,z,kp,kn,rfl,hK,λxx q e hq=>?_,λe=>?_⟩
   ·rw[e] at k0
    exact λr dx hr1 hdx hne=>⟨r,dx,q,xx,z,rfl,Ae,SqL.of (Ei hr1 hdx _ _ hq),Oc.make k0 GF.1 hr1 hdx⟩
   ·rw[e] at k0
    exact k0 _ (.refl _)
  | node ha hq hl hN =>
   rename_i z ts a q vs
   have wl:=AjW W
   have a0:atI [V.str (tx z),V.ref q] 0=some (.str (tx z)):=Cj (by decide) rfl
   have a1:atI [V.str (tx z),V.ref q] 1=some (.ref q):=Cj (by decide) rfl
   refine⟨_,rfl,_,_,_,_,rfl,rfl,SqT.of ha,a1,rfl,_,rfl,?_⟩
   refine Dc (λz=>nomatch z) ?_
   refine⟨_,rfl,_,_,_,_,rfl,rfl,SqT.of ha,a1,_,rfl,⟨_,SqL.of hq⟩,?_⟩
   refine DY (K:=K) (a:=q) (xs:=vs) (λi ys H2=>Be H H2/\∃ as,args (out kn d) (wr d) (ts.take i)=.inr as/\Ad9 t (nw H H2) as ys) ⟨.refl _,[],rfl,rfl,λi a v g=>by simp at g⟩ ?_ ?_ ?_ ?_
   ·rintro i ys H2 hi ⟨s2,as,ea,hA⟩
    refine⟨SqL.of (s2 _ _ hq),?_⟩
    rw[hA.1,Y4 ea,Ap2]
    exact Nat.min_le_left _ _
   ·rw[hl]
    exact Bq wl.2.1
   ·rintro i xv ys H2 hi hx ⟨s2,as,ea,hA⟩
    refine Dh.no ?_
    have hit:i<ts.length:=by rw[<- hl];exact hi
    have ex:=Apu hit
    have et:ts.take (i+1)=ts.take i++[ts[i]]:=by rw[Ap4,ex];rfl
    have hxv:=hN i _ xv ex hx
    have hpart:=Ajt (d:=d) (z:=z) (ApI hit)
    generalize ts[i]=x at ex et hxv hpart
    have sn:=AaK (x:=x) ea
    rw[<- et] at sn
    rcases Ai9 W ex with ⟨n,rfl⟩ | ⟨r,rfl⟩ | Wx
    ·cases hxv
     refine⟨_,rfl,_,_,false,.int _,.inl ⟨_,rfl,rfl⟩,_,rfl,?_⟩
     refine Hu ?_
     refine⟨_,rfl,?_⟩
     exact CN.of hi ⟨s2,_,sn,hA.snoc .num⟩
    ·cases hxv
     refine⟨_,rfl,_,_,false,.str _,.inl ⟨_,rfl,rfl⟩,_,rfl,?_⟩
     refine Hu ?_
     refine⟨_,rfl,?_⟩
     exact CN.of hi ⟨s2,_,sn,hA.snoc .run⟩
    ·rw[Y5 Wx] at sn
     obtain⟨ra,ro,rfl,hro⟩:∃ ra ro,xv=.ref ra/\H2 ra=some (.tup ro):=by
      cases hxv with
      | num=>cases Wx
      | run=>cases Wx
      | nam h=>exact⟨_,_,rfl,s2 _ _ h⟩
      | node h _ _ _=>exact⟨_,_,rfl,s2 _ _ h⟩
     refine⟨_,rfl,_,_,true,.tup hro,.inl ⟨_,rfl,Ad2 K "tuple"⟩,_,rfl,?_⟩
     refine Gq ?_
     refine⟨_,rfl,_,rfl,x,.ref ra,kp,kn,rfl,Wx,hxv.mono s2,by lia,hK.same s2,hC,?_⟩
     cases eo:out kn d x with
     | ok r =>
      rw[eo] at sn
      intro p H3 s3 hp
      have u3:=s2.trans s3
      exact CN.of hi ⟨u3,_,sn,(hA.mono (Afw s3)).snoc (.cl (hp.mono (Afv s2)))⟩
     | no f =>
      rw[eo] at sn
      intro H3 s3
      have en:args (out kn d) (wr d) ts=.inl f:=by
       have:=AeV (us:=ts.drop (i+1)) sn
       rw[AqI] at this
       exact this
      rw[AdA,en] at k0
      exact k0 H3 (s2.trans s3)
   ·rintro ys H2 l ⟨s2,as,ea,hA⟩ hlN
    rw[hl,ApJ] at ea
    have F:=Ah9 (λW e=>Ra hC W e) W ea
    have ew:=AeU ea
    rw[AdA,ea] at k0
    have ewr:wr (d+1) (.node z ts)=wz z (as.map wrA):=by rw[ew];rfl
    rw[ewr] at k0 hw
    dsimp only at k0
    have al:=Y4 ea
    have u3:Be H (upd H2 l (.lst ys)):=s2.new hlN
    have hl3:(upd H2 l (.lst ys)) l=some (.lst ys):=Ae
    have hA3:Ad9 t (upd H2 l (.lst ys)) as ys:=(hA.mono (Afw (.upd hlN))).mono (λb o e=>(Nf e).2)
    have k3:=k0.same u3
    generalize upd H2 l (.lst ys)=H3 at u3 hl3 hA3 k3 ⊢
    have ha3:=u3 _ _ ha
    refine⟨_,rfl,_,_,_,_,rfl,rfl,SqT.of ha3,a0,rfl,_,rfl,?_⟩
    rw[X8]
    by_cases c:z=Pat.Fq
    ·refine Ec (by rw[c]) ?_
     obtain⟨rs,rfl,r1,r2,r3⟩:∃ rs,as=rs.map Arg.run/\rs≠[]/\rs.length<=40/\∀ r∈rs,r≠[]/\∀ c∈r,Sg c:=by
      cases F with
      | rows h1 h2 h3=>exact⟨_,rfl,h1,h2,h3⟩
      | nums w _ _=>rcases w with rfl | rfl <;> exact absurd c (by decide)
      | one w _=>rcases w with rfl | rfl | rfl | rfl <;> exact absurd c (by decide)
      | two w _ _=>rcases w with rfl | rfl | rfl <;> exact absurd c (by decide)
      | tile _ _ _=>exact absurd c (by decide)
      | blk _ _ _=>exact absurd c (by decide)
     have ey:ys=vS rs:=by
      apply Aqr
      intro i
      unfold vS
      rw[Ap9]
      cases e1:rs[i]? with
      | none =>
       have h1:=List.getElem?_eq_none_iff.mp e1
       have h2:=hA3.1
       rw[Apq] at h2
       exact ApY (by lia)
      | some r =>
       have h1:=(List.getElem?_eq_some_iff.mp e1).1
       have h2:=hA3.1
       rw[Apq] at h2
       have hy:i<ys.length:=by lia
       have:=hA3.2 i (.run r) ys[i] (by rw[Ap9,e1];rfl) (Apu hy)
       rw[Apu hy]
       generalize ys[i]=yv at this ⊢
       cases this
       rfl
     have Ang:(rs.map Arg.run).map wrA=rs:=by rw[Aqa];exact Aqc _
     have em:made z (rs.map Arg.run)=Yz rs:=by unfold made;rw[if_pos c,V5]
     rw[Ang,c] at hw
     rw[em,Ang,c] at k3
     refine⟨_,rfl,λr dx hr1 hdx hne=>⟨r,dx,l,rs,rfl,Ae,SqL.of (by rw[<- ey];exact Ei hr1 hdx _ _ hl3),r1,r2,hw,Oc.make k3 GF.2.1 hr1 hdx⟩⟩
    refine Dc (Gk c) ?_
    have l3:=wl.2.2 c
    rw[<- al,<- hA3.1] at l3
    have l1:1<=ys.length:=by rw[hA3.1,al];exact wl.1
    refine⟨_,rfl,_,_,rfl,.inl (SqL.of hl3),rfl,_,rfl,?_⟩
    obtain⟨hlen,hat⟩:=hA3
    rcases ys with _ | ⟨v1,_ | ⟨v2,_ | ⟨v3,_ | ⟨v4,ys⟩⟩⟩⟩
    ·simp at l1
    ·obtain⟨b1,rfl⟩:∃ b1,as=[b1]:=List.length_eq_one_iff.mp hlen.symm
     refine Ec rfl ?_
     have g1:=hat 0 b1 v1 rfl rfl
     have c0:atI [v1] 0=some v1:=Cj (by decide) rfl
     obtain⟨x,zx,ww,rfl,Cx⟩:∃ x zx,(z=miW\/z=upW\/z=baW\/z=quW)/\b1=.cl x zx/\Clo x:=by
      generalize has:[b1]=as at F
      cases F with
      | rows h1 h2 h3=>exact absurd rfl c
      | nums w h1 h2=>cases has
      | one w h1=>cases has;exact⟨_,_,w,rfl,h1⟩
      | two w h1 h2=>cases has
      | tile h1 h2 h3=>cases has
      | blk h1 h2 h3=>cases has
     obtain _ | _ | hp:=g1
     have em:made z [.cl x zx]=AcW z x:=by unfold made;rw[if_neg c]
     rw[em] at k3
     exact⟨_,rfl,_,_,_,_,rfl,rfl,SqT.of ha3,a0,_,rfl,_,_,_,_,rfl,rfl,SqL.of hl3,c0,z,zx,x,_,E,rfl,ww,hp,Cx,hw,k3⟩
    ·obtain⟨b1,b2,rfl⟩:∃ b1 b2,as=[b1,b2]:=by
      rcases as with _ | ⟨b1,_ | ⟨b2,_ | ⟨b3,as⟩⟩⟩
      ·simp at hlen
      ·simp at hlen
      ·exact⟨b1,b2,rfl⟩
      ·simp at hlen
     refine Dc (by show ¬(V.int 2:V)=V.int 1;decide) ?_
     refine⟨_,rfl,_,_,rfl,.inl (SqL.of hl3),rfl,_,rfl,?_⟩
     refine Dc (by show ¬(V.int 2:V)=V.int 3;decide) ?_
     have c0:atI [v1,v2] 0=some v1:=Cj (by decide) rfl
     have c1:atI [v1,v2] 1=some v2:=Cj (by decide) rfl
     exact⟨_,rfl,_,_,_,_,rfl,rfl,SqT.of ha3,a0,_,rfl,_,_,_,_,rfl,rfl,SqL.of hl3,c0,_,rfl,_,_,_,_,rfl,rfl,SqL.of hl3,c1,z,b1,b2,v1,v2,rfl,c,F,hat 0 b1 v1 rfl rfl,hat 1 b2 v2 rfl rfl,hw,k3⟩
    ·obtain⟨b1,b2,b3,rfl⟩:∃ b1 b2 b3,as=[b1,b2,b3]:=by
      rcases as with _ | ⟨b1,_ | ⟨b2,_ | ⟨b3,_ | ⟨b4,as⟩⟩⟩⟩
      ·simp at hlen
      ·simp at hlen
      ·simp at hlen
      ·exact⟨b1,b2,b3,rfl⟩
      ·simp at hlen
     refine Dc (by show ¬(V.int 3:V)=V.int 1;decide) ?_
     refine⟨_,rfl,_,_,rfl,.inl (SqL.of hl3),rfl,_,rfl,?_⟩
     refine Ec rfl ?_
     exact⟨_,rfl,_,_,_,_,rfl,rfl,SqT.of ha3,a0,_,rfl,z,b1,b2,b3,v1,v2,v3,l,rfl,SqL.of hl3,c,F,hat 0 b1 v1 rfl rfl,hat 1 b2 v2 rfl rfl,hat 2 b3 v3 rfl rfl,hw,k3⟩
    ·simp at l3
theorem Abi(T:Txt K mg t):∀ d,Br P w K mg base (CX1 P w) (d+9) t.JL t.JM ["node", "known"] (Ai8 t d)
 | 0=>⟨λ_ _ _ _ h=>(by obtain⟨x,v,kp,kn,_,W,_⟩:=h;cases W),λ_ _ _ _ _ _ _ _ _ _ _ _ _ h=>(by obtain⟨x,v,kp,kn,_,W,_⟩:=h;cases W)⟩
 | d+1=>ZC (k:=d+8) (by lia) T (Abi T d)
def AjX (t:Adr):Sp:=λvs H Q E=>∃(u:List Nat) (kp:Addr) (kn:Kns),vs=[.str (tx u),.ref kp]/\u.length<=1000000/\Kn H kp kn/\(∀ p∈kn,Clo p.2)/\Oc t H Q E (rdp kn u).1 (rdp kn u).2
theorem Wh(T:Txt K mg t):Br P w K mg base (CX1 P w) 31 t.Q3 t.Q4 ["text", "known"] (AjX t):=by
 refine T.JN.F.okX Xg (λvs H Q E h=>?_) (λcdv A outer s H vs Q E hr h=>?_)
 ·obtain⟨u,kp,kn,rfl,_⟩:=h
  rfl
 ·obtain⟨u,kp,kn,rfl,hu,hK,hC,k⟩:=h
  refine⟨_,(Ad (Av (Aq ((Abi T 12).mono (by decide)) hr rfl T.Hm.m T.Hm.F.kp T.Hm.b .nil Ej (Aa (Aq ((Z5 T).mono (by decide)) hr rfl T.Ob.m T.Ob.F.kp T.Ob.b .nil Ej (Aa (pv 0) Ab)) (Aa (pv 1) Ab))))),?_⟩
  unfold rdp at k
  refine⟨_,rfl,u,rfl,hu,λx v H1 e s1 hN=>?_,λe H1 s1=>?_⟩
  ·rw[e] at k
   have W:=Ahz e
   exact⟨_,rfl,x,v,kp,kn,rfl,W.1,hN.mono (λb o e=>(Nf e).2),by lia,hK.same s1,hC,k.same s1⟩
  ·rw[e] at k
   exact k H1 s1
end
def ldA (u:List Nat):List Nat:=u.flatMap λc=>[c,46]
def ldB (u:List Nat):List Nat:=u.flatMap λc=>[35,c]
def ld2 (x y:List (List Nat)):List (List Nat):=(x.zip y).flatMap λq=>[ldA q.1,ldB q.2]
theorem QM{k i:Nat}(h:i<2*k):(Ia k).getD i 0=((i%2:Nat):Int):=by
 unfold Ia
 rw[ApR,AeR [(0:Int),1] k i (by simp;lia)]
 have:i%2=0\/i%2=1:=by lia
 rcases this with e | e <;> simp[e]
theorem AdB{k:Nat}:∀{i:Nat},i<=2*k->((Ia k).take i).count 0=(i+1) / 2/\((Ia k).take i).count 1=i / 2
 | 0,_=>by simp
 | i+1,h=>by
  have ih:=AdB (k:=k) (i:=i) (by lia)
  have hl:i<(Ia k).length:=by rw[Gu];lia
  rw[S6 hl,S6 hl,ih.1,ih.2,QM (by lia)]
  have:i%2=0\/i%2=1:=by lia
  rcases this with e | e
  ·rw[e]
   simp
   lia
  ·rw[e]
   simp
   lia
theorem Acp{k i:Nat}(h:i<2*k):plc (Ia k) i=i / 2:=by
 unfold plc
 rw[QM h]
 have:=AdB (k:=k) (i:=i) (by lia)
 have e:i%2=0\/i%2=1:=by lia
 rcases e with e | e
 ·rw[e]
  show((Ia k).take i).count 0=_
  rw[this.1]
  lia
 ·rw[e]
  exact this.2
theorem AjY{u:List Nat}{k:Nat}(h:k<2*u.length):(ldA u)[k]?=some (if k%2=0 then u.getD (k / 2) 0 else 46):=by
 unfold ldA
 have e:=Tz (h:=2) (f:=λc:Nat=>[c,46]) u (λx _=>rfl) (k / 2) (k%2) (by lia)
 rw[show k / 2*2+k%2=k by lia] at e
 rw[e]
 have hk:k / 2<u.length:=by lia
 rw[Apu hk]
 show[u[k / 2],46][k%2]?=_
 have e2:u.getD (k / 2) 0=u[k / 2]:=by rw[ApR,Apu hk];rfl
 rw[e2]
 have:k%2=0\/k%2=1:=by lia
 rcases this with e3 | e3 <;> rw[e3] <;> rfl
theorem AjZ{u:List Nat}{k:Nat}(h:k<2*u.length):(ldB u)[k]?=some (if k%2=0 then 35 else u.getD (k / 2) 0):=by
 unfold ldB
 have e:=Tz (h:=2) (f:=λc:Nat=>[35,c]) u (λx _=>rfl) (k / 2) (k%2) (by lia)
 rw[show k / 2*2+k%2=k by lia] at e
 rw[e]
 have hk:k / 2<u.length:=by lia
 rw[Apu hk]
 show[35,u[k / 2]][k%2]?=_
 have e2:u.getD (k / 2) 0=u[k / 2]:=by rw[ApR,Apu hk];rfl
 rw[e2]
 have:k%2=0\/k%2=1:=by lia
 rcases this with e3 | e3 <;> rw[e3] <;> rfl
theorem Afx(u:List Nat):(ldA u).length=2*u.length:=by unfold ldA;rw[Gs (h:=2) u λx _=>rfl];lia
theorem Afy(u:List Nat):(ldB u).length=2*u.length:=by unfold ldB;rw[Gs (h:=2) u λx _=>rfl];lia
theorem Aka{x y:List (List Nat)}{m n:Nat}(C:Cl x m n)(D:Cl y m n):lay [x,y] (Ia m) (Ia n)=ld2 x y:=by
 have zl:(x.zip y).length=n:=by rw[Aqt,C.hn,D.hn,Aqb]
 have l2:(ld2 x y).length=2*n:=by
  unfold ld2
  rw[Gs (h:=2) _ λq _=>rfl,zl]
  lia
 apply Aqr
 intro j
 by_cases hj:j<2*n
 ·have hjo:j<(Ia n).length:=by rw[Gu];exact hj
  rw[AeS hjo,QM hj,Acp hj]
  have hx:j / 2<x.length:=by rw[C.hn];lia
  have hy:j / 2<y.length:=by rw[D.hn];lia
  have e:=Tz (h:=2) (f:=λq:List Nat × List Nat=>[ldA q.1,ldB q.2]) (x.zip y) (λq _=>rfl) (j / 2) (j%2) (by lia)
  rw[show j / 2*2+j%2=j by lia] at e
  show _=(ld2 x y)[j]?
  unfold ld2
  rw[e]
  have ez:(x.zip y)[j / 2]?=some (x[j / 2],y[j / 2]):=List.getElem?_zip_eq_some.mpr ⟨Apu hx,Apu hy⟩
  rw[ez]
  show _=[ldA x[j / 2],ldB y[j / 2]][j%2]?
  have wx:=C.hm _ (ApI hx)
  have wy:=D.hm _ (ApI hy)
  have ex:x.getD (j / 2) []=x[j / 2]:=by rw[ApR,Apu hx];rfl
  have ey:y.getD (j / 2) []=y[j / 2]:=by rw[ApR,Apu hy];rfl
  have par:j%2=0\/j%2=1:=by lia
  rcases par with e3 | e3
  ·rw[e3]
   show some (FQ [x,y] (Ia m) 0 (j / 2))=some (ldA x[j / 2])
   congr 1
   apply Aqr
   intro k
   by_cases hk:k<2*m
   ·rw[S7 (by rw[Gu];exact hk),AjY (by rw[wx];exact hk),QM hk,Acp hk]
    show some (Tw 0 ((k%2:Nat):Int) (x.getD (j / 2) []) (k / 2))=_
    rw[ex]
    unfold Tw
    have pk:k%2=0\/k%2=1:=by lia
    rcases pk with e4 | e4
    ·rw[e4];rfl
    ·rw[e4];rfl
   ·rw[ApY (by rw[JV,Gu];lia),ApY (by rw[Afx,wx];lia)]
  ·rw[e3]
   show some (FQ [x,y] (Ia m) 1 (j / 2))=some (ldB y[j / 2])
   congr 1
   apply Aqr
   intro k
   by_cases hk:k<2*m
   ·rw[S7 (by rw[Gu];exact hk),AjZ (by rw[wy];exact hk),QM hk,Acp hk]
    show some (Tw 1 ((k%2:Nat):Int) (y.getD (j / 2) []) (k / 2))=_
    rw[ey]
    unfold Tw
    have pk:k%2=0\/k%2=1:=by lia
    rcases pk with e4 | e4
    ·rw[e4];rfl
    ·rw[e4];rfl
   ·rw[ApY (by rw[JV,Gu];lia),ApY (by rw[Afy,wy];lia)]
 ·rw[ApY (by rw[Ab3,Gu];lia),ApY (by rw[l2];lia)]
section
variable {P:Program}{w:World}{K:W.Frag}{mg:Str->Option Value}{base:Heap}{t:Adr}
theorem CK{i:Nat}{v v':V}{σ σ':St}{H:Hp}{Kt:St->Hp->Prop}(ev:v=v')(h:σ.set i (some v')=σ')(k:Kt σ' H):J8 i v σ H Kt:=by subst ev;subst h;exact k
def AiA:Sp:=λvs H Q _=>∃(z:Int) (m n:Nat),vs=[.int z,.int (m:Int),.int (n:Int)]/\1<=m/\m<=40/\1<=n/\n<=40/\∀ l x H',Be H H'->H l=none->H' l=some (.lst (vS x))->Cl x m n->Q (.ref l) H'
theorem Ag5{z:Int}:∃ c,atI ((tx [46,35]).cps.toList) (z%2)=some c/\Sg c:=by
 have h:z%2=0\/z%2=1:=by lia
 rw[Et]
 rcases h with h | h
 ·exact⟨46,by rw[h];exact Cj (by decide) rfl,.inr rfl⟩
 ·exact⟨35,by rw[h];exact Cj (by decide) rfl,.inl rfl⟩
theorem AdC(T:Txt K mg t):Br P w K mg base CX0 1 t.YS t.YT ["number", "ends", "picks"] AiA:=by
 refine T.U5.F.ok Gv (λvs H Q E h=>?_) (λcdv A outer s H vs Q E hr h=>?_)
 ·obtain⟨z,m,n,rfl,_⟩:=h
  rfl
 ·obtain⟨z,m,n,rfl,m1,m40,n1,n40,k⟩:=h
  refine⟨_,(Ac (Bh (i:=3) Gv.nd rfl (Or.inl rfl) (BV Ab))
   (Ac (Fw PassesOwn.never rfl (Dw rfl T.Ey (Aa (pv 2) Ab)) (BK (i:=4) Gv.nd rfl (Or.inl rfl))
    (Ac (Bh (i:=5) Gv.nd rfl (Or.inl rfl) Af)
    (Ac (Fw PassesOwn.never rfl (Dw rfl T.Ey (Aa (pv 1) Ab)) (BK (i:=6) Gv.nd rfl (Or.inl rfl))
     (Ac (Bh (i:=5) Gv.nd rfl (Or.inl rfl) (Ar Bg (pv 5) (Bf Jo Af (Ar Dz (pv 0) Ag) (λ_ _=>rfl))))
     (Ad (Bh (i:=0) Gv.nd rfl (Or.inl rfl) (Ar Fz (pv 0) Ag)))))
    (Ad (Bl (Dj (K:=K) F.plainAttrs_list F.slot_list_append F.type_list_append Ga (pv 3) (Aa (pv 5) Ab)))))))
   (Ad (Av (pv 3))))),?_⟩
  have hsz:sizeLine=16777216:=sizeLine_eq
  have e0:(Str.ofString ".#")=tx [46,35]:=by decide +kernel
  refine⟨Ap8 _,λq nq=>?_⟩
  have s1:Be H (upd H q (.lst [])):=.upd nq
  have hq1:(upd H q (.lst [])) q=some (.lst (vS [])):=Ae
  generalize upd H q (.lst [])=H1 at s1 hq1 ⊢
  refine⟨_,rfl,_,rfl,(by lia),(by lia),?_⟩
  rw[Ap1]
  refine Lz (lo:=0) (n:=n) (λi σ H2=>∃(y:Int) (v4 v5 v6:Option V) (x:List (List Nat)),σ=[some (.int y),some (.int (m:Int)),some (.int (n:Int)),some (.ref q),v4,v5,v6]/\Be H H2/\H2 q=some (.lst (vS x))/\x.length=i/\∀ r∈x,r.length=m/\∀ c∈r,Sg c) ⟨z,none,none,none,[],rfl,s1,hq1,rfl,λr h=>by simp at h⟩ ?_ ?_
  ·rintro i σ H2 hi ⟨y,v4,v5,v6,x,rfl,s2,hq2,hx,hr2⟩
   refine⟨_,rfl,_,rfl,(by lia),(by lia),?_⟩
   rw[Ap1]
   refine Lz (lo:=0) (n:=m) (λj σ H3=>∃(y:Int) (v6:Option V) (u:List Nat),σ=[some (.int y),some (.int (m:Int)),some (.int (n:Int)),some (.ref q),some (.int (0+(i:Int))),some (.str (tx u)),v6]/\H3=H2/\u.length=j/\∀ c∈u,Sg c) ⟨y,_,[],by rw[show(("" : Str))=tx [] from by decide +kernel] <;> rfl,rfl,rfl,λc h=>by simp at h⟩ ?_ ?_
   ·rintro j σ H3 hj ⟨y,v6,u,rfl,rfl,hu,hs⟩
    obtain⟨c,hc,sc⟩:=Ag5 (z:=y)
    rw[e0]
    refine⟨_,rfl,_,rfl,_,_,rfl,rfl,(by show(0:Int)<2;decide),_,_,c,rfl,rfl,(by rw[Ai];exact big (by decide)),hc,?_⟩
    refine⟨_,_,rfl,rfl,(by rw[Gr,Ai,Ai];exact big (by simp only [Apt,Apz];lia)),?_⟩
    rw[Gr,CJ]
    refine⟨_,rfl,_,_,rfl,rfl,⟨by decide,by decide⟩,?_⟩
    refine⟨_,_,u++[c],rfl,rfl,by rw[Aps,hu];rfl,λd hd=>?_⟩
    rcases List.mem_append.mp hd with hd | hd
    ·exact hs d hd
    ·rw[List.mem_singleton.mp hd];exact sc
   ·rintro σ H3 ⟨y,v6,u,rfl,rfl,hu,hs⟩
    refine⟨_,rfl,.inl ⟨rfl,_,SqL.of hq2⟩,_,rfl,_,_,_,rfl,rfl,hq2,(by rw[Ba];lia),?_⟩
    rw[CP]
    refine⟨y,_,_,_,x++[u],rfl,s2.over (by
     cases e:H q with
     | none=>rfl
     | some o=>exact absurd (nq.symm.trans e) (λz=>nomatch z)),Ae,by rw[Aps,hx];rfl,λr hr=>?_⟩
    rcases List.mem_append.mp hr with hr | hr
    ·exact hr2 r hr
    ·rw[List.mem_singleton.mp hr];exact⟨hu,hs⟩
  ·rintro σ H2 ⟨y,v4,v5,v6,x,rfl,s2,hq2,hx,hr2⟩
   exact⟨_,rfl,k q x H2 s2 nq hq2 ⟨hx,λr hr=>(hr2 r hr).1,λr hr=>(hr2 r hr).2,m1,m40,n1,n40⟩⟩
def Ag6:Sp:=λvs H Q _=>∃ c,vs=[.str ⟨#[c]⟩]/\Q (.str (tx [flip c])) H
theorem Vr(T:Txt K mg t):Br P w K mg base CX0 1 t.WL t.WM ["sign"] Ag6:=by
 refine T.Il.F.ok AbG (λvs H Q E h=>?_) (λcdv A outer s H vs Q E hr h=>?_)
 ·obtain⟨c,rfl,_⟩:=h
  rfl
 ·obtain⟨c,rfl,k⟩:=h
  refine⟨_,(Ac (Bj (Aj Cu (pv 0) Af (Am _))
    (Ad (Av Af))
    An)
   (Ad (Av Af))),?_⟩
  refine⟨_,rfl,rfl,_,rfl,?_⟩
  refine Dk (λh=>?_) (λh=>?_)
  ·have e:c=35:=Ad3.mp (h.trans e35.symm)
   rw[e] at k
   rw[show(("." : Str))=tx [46] from by decide +kernel]
   exact k
  ·have e:¬c=35:=λz=>h (by rw[z];exact e35)
   rw[show flip c=35 by unfold flip;rw[if_neg e]] at k
   rw[show(("#" : Str))=tx [35] from by decide +kernel]
   exact k
def AiB (K:W.Frag):Sp:=λvs H Q _=>∃(z:List Nat) (a:Addr) (x:List (List Nat)),vs=[.str (tx z),.ref a]/\(z=miW\/z=upW\/z=baW\/z=quW)/\SqL K H a (vS x)/\Clo x/\∀ l y H',Be H H'->H l=none->H' l=some (.lst (vS y))->AcW z x=.ok y->Q (.ref l) H'
theorem JP:∀ l:List (List Nat),((l.map tx).map (·.length)).sum=l.flatten.length:=λl=>by
 induction l with
 | nil=>rfl
 | cons x l ih=>rw[Apw,Apw,Aql,ih,ApH,Aps,Ai]
theorem XD:(Str.length "")=0:=by decide +kernel
theorem Ku:(("" : Str))=tx []:=by decide +kernel
theorem Aa1(T:Txt K mg t):Br P w K mg base CX0 2 t.Uw t.Ux ["word", "rows"] (AiB K):=by
 refine T.Oe.F.ok ZP (λvs H Q E h=>?_) (λcdv A outer s H vs Q E hr h=>?_)
 ·obtain⟨z,a,x,rfl,_⟩:=h
  rfl
 ·obtain⟨z,a,x,rfl,hz,hS,C,k⟩:=h
  refine⟨_,(Ac (Bj (Aj Cu (pv 0) Af (Am _))
    (Ad (Av (Yu (K:=K) rfl T.VM rfl T.Im (pv 1))))
    An)
   (Ac (Bj (Aj Cu (pv 0) Af (Am _))
    (Ad (Av (Dl (CG.mk (Bd:=[]) (Nc:=["row"]) rfl (by decide +kernel) (by decide +kernel) (Cp (sc0:=Ah G8) rfl (by decide +kernel)) rfl rfl rfl (by decide +kernel) (λ_ _ h=>by simp at h)) rfl (CV (K:=K) (pv 1)) (λ_ _ _ _ _=>.nil) (λ_ _ _ _ _=>(Dj (K:=K) F.plainAttrs_str F.slot_str_join F.type_str_join (Ed (K:=K)) Af (Aa (AcQ rfl T.VM rfl T.Im (pv 0)) Ab))))))
    An)
   (Ac (Bj (Aj Cu (pv 0) Af (Am _))
    (Ad (Av (Dl (CG.mk (Bd:=[]) (Nc:=["row"]) rfl (by decide +kernel) (by decide +kernel) (Cp (sc0:=Ah G8) rfl (by decide +kernel)) rfl rfl rfl (by decide +kernel) (λ_ _ h=>by simp at h)) rfl (CV (K:=K) (pv 1)) (λ_ _ _ _ _=>.nil) (λ_ _ _ _ _=>(Dj (K:=K) F.plainAttrs_str F.slot_str_join F.type_str_join (Ed (K:=K)) Af (Aa (Dl (CG.mk (Bd:=[]) (Nc:=["sign"]) rfl (by decide +kernel) (by decide +kernel) (Ahr (by decide +kernel)) rfl rfl rfl (by decide +kernel) (λ_ _ h=>by simp at h)) rfl (Ajp rfl T.Im (Aa (pv 0) Ab)) (λ_ _ _ _ _=>.nil) (λ_ _ _ _ _=>(Aq ((Vr T).mono (by decide)) hr rfl T.Il.m T.Il.F.kp T.Il.b .nil Ak (Aa (pv 0) Ab)))) Ab))))))
    An)
   (Ad (Av (Ahv (Iu.mk (Bd:=[1]) (Nc:=["k", "rows"]) rfl rfl (by decide +kernel) (Cp (sc0:=Ah G8) rfl (by decide +kernel)) rfl rfl rfl (by decide +kernel) (λk j h=>match k,h with | 0,h=>by obtain rfl:=Option.some.inj h;exact⟨_,rfl,rfl,rfl⟩ | _+1,h=>by simp at h)) rfl (Dw rfl T.Ey (Aa (Az Bo rfl T.Cr Bs (Aa (Bf (Ax (K:=K)) (pv 1) Ag (λ_ _=>rfl)) Ab)) Ab)) (λ_ _ _ _ _=>.nil) (λ_ _ _ _ _=>(Dj (K:=K) F.plainAttrs_str F.slot_str_join F.type_str_join (Ed (K:=K)) Af (Aa (Dl (CG.mk (Bd:=[0]) (Nc:=["row", "k"]) rfl (by decide +kernel) (by decide +kernel) (Yw (sc0:=Ah G8) rfl (by decide +kernel)) rfl rfl rfl (by decide +kernel) (λk j h=>match k,h with | 0,h=>by obtain rfl:=Option.some.inj h;exact⟨_,rfl,rfl,rfl⟩ | _+1,h=>by simp at h)) rfl (CV (K:=K) (pv 1)) (λ_ _ _ _ _=>.nil) (λ_ _ _ _ _=>(Aq ((Vr T).mono (by decide)) hr rfl T.Il.m T.Il.F.kp T.Il.b .nil Ak (Aa (Bf Jo (pv 0) (pv 1) (λ_ _=>rfl)) Ab)))) Ab))))))))),?_⟩
  have hsz:sizeLine=16777216:=sizeLine_eq
  have x40:=C.n40
  have Ky:=C.m40
  refine⟨_,rfl,rfl,_,rfl,?_⟩
  rw[Vm]
  by_cases c1:z=upW
  ·subst c1
   refine Ec rfl ?_
   refine⟨_,rfl,a,vS x,rfl,hS,(by rw[Ba];lia),λl nl=>?_⟩
   rw[show(vS x).reverse=vS x.reverse by unfold vS;rw[List.map_reverse]]
   exact k l x.reverse _ (.upd nl) nl Ae rfl
  refine Dc (Gk c1) ?_
  refine⟨_,rfl,rfl,_,rfl,?_⟩
  rw[Vl]
  by_cases c2:z=miW
  ·subst c2
   refine Ec rfl ?_
   refine⟨_,rfl,_,rfl,⟨_,hS⟩,DY (K:=K) (a:=a) (xs:=vS x) (λi ys H2=>Be H H2/\ys=vS ((x.take i).map List.reverse)) ⟨.refl _,rfl⟩ ?_ ?_ ?_ ?_⟩
   ·rintro i ys H2 hi ⟨s2,rfl⟩
    refine⟨s2.seq hS,?_⟩
    rw[Ba,Apq,Ap2]
    lia
   ·rw[Ba];exact Bq x40
   ·rintro i xv ys H2 hi hx ⟨s2,rfl⟩
    obtain⟨u,hu,rfl⟩:=GP hx
    have hul:=C.hm u (ApD hu)
    refine Dh.no ?_
    refine⟨rfl,_,rfl,_,rfl,(by rw[Ai,hul];lia),λq hq=>?_⟩
    have el:((tx u).cps.toList.reverse.map λc=>V.str ⟨#[c]⟩)=vS (u.reverse.map λc=>[c]):=by
     rw[Et]
     unfold vS
     rw[Aqa]
     rfl
    rw[el]
    obtain⟨H3,e9,s3,h3⟩:=nu9 (o:=.lst (vS (u.reverse.map λc=>[c]))) s2 hq
    rw[e9]
    have e2:(u.reverse.map λc=>[c]).flatten=u.reverse:=(Om id u.reverse).trans (Aqc _)
    refine⟨_,_,((u.reverse.map λc=>[c]).map tx),rfl,rfl,SqL.of (by rw[h3,GQ]),(by rw[JP,e2,ApV,XD,hul,Aqi];lia),?_⟩
    rw[Ku,FN,e2]
    refine CN.of hi ⟨s3,?_⟩
    rw[CP,Ap4,hu,Apx]
    rfl
   ·rintro ys H2 l ⟨s2,rfl⟩ nl
    rw[Ba,ApJ]
    exact k l _ _ (s2.new nl) (s2.free nl) Ae rfl
  refine Dc (Gk c2) ?_
  refine⟨_,rfl,rfl,_,rfl,?_⟩
  rw[Vn]
  by_cases c3:z=baW
  ·subst c3
   refine Ec rfl ?_
   refine⟨_,rfl,_,rfl,⟨_,hS⟩,DY (K:=K) (a:=a) (xs:=vS x) (λi ys H2=>Be H H2/\ys=vS (back (x.take i))) ⟨.refl _,rfl⟩ ?_ ?_ ?_ ?_⟩
   ·rintro i ys H2 hi ⟨s2,rfl⟩
    refine⟨s2.seq hS,?_⟩
    unfold back
    rw[Ba,Apq,Ap2]
    lia
   ·rw[Ba];exact Bq x40
   ·rintro i xv ys H2 hi hx ⟨s2,rfl⟩
    obtain⟨u,hu,rfl⟩:=GP hx
    have hul:=C.hm u (ApD hu)
    refine Dh.no ?_
    refine⟨rfl,_,rfl,_,rfl,(by rw[Ai,hul];exact Bq Ky),?_⟩
    refine AfV (z:=tx u) (λj ys H3=>H3=H2/\ys=vS (((u.reverse.take j).map flip).map λc=>[c])) ⟨rfl,rfl⟩ ?_ ?_ ?_ ?_
    ·rintro j ys H3 hj ⟨rfl,rfl⟩
     rw[Ba,Apq,Apq,Ap2]
     lia
    ·rw[Gh,hul];exact Bq Ky
    ·rintro j c ys H3 hj hc ⟨rfl,rfl⟩
     refine Dh.no ?_
     rw[Gh] at hj hc
     rw[Np] at hc
     refine⟨_,rfl,c,rfl,?_⟩
     rw[Gh]
     refine CN.of hj ⟨rfl,?_⟩
     rw[CP,Ap4,Aq6 hj,hc,Apx,Apx]
     rfl
    ·rintro ys H3 l ⟨rfl,rfl⟩ nl
     rw[Gh,ApP (by rw[ApV];exact Apv _)]
     obtain⟨H4,e9,s3,h3⟩:=nu9 (o:=.lst (vS ((u.reverse.map flip).map λc=>[c]))) s2 nl
     rw[e9]
     have e2:((u.reverse.map flip).map λc=>[c]).flatten=u.reverse.map flip:=(Om id (u.reverse.map flip)).trans (Aqc _)
     refine⟨_,_,(((u.reverse.map flip).map λc=>[c]).map tx),rfl,rfl,SqL.of (by rw[h3,GQ]),(by rw[JP,e2,Apq,ApV,XD,hul,Aqi];lia),?_⟩
     rw[Ku,FN,e2]
     refine CN.of hi ⟨s3,?_⟩
     unfold back
     rw[CP,Ap4,hu,Apx]
     rfl
   ·rintro ys H2 l ⟨s2,rfl⟩ nl
    rw[Ba,ApJ]
    exact k l _ _ (s2.new nl) (s2.free nl) Ae rfl
  refine Dc (Gk c3) ?_
  have c4:z=quW:=by
   rcases hz with h | h | h | h
   ·exact absurd h c2
   ·exact absurd h c1
   ·exact absurd h c3
   ·exact h
  subst c4
  obtain⟨u0,hu0,AlG⟩:=C.at C.n1
  refine⟨_,rfl,_,_,_,_,rfl,rfl,hS,HS (i:=0) hu0,_,rfl,(by rw[Ai,AlG];exact Bq Ky),_,rfl,(by lia),(by rw[Ai,AlG];lia),?_⟩
  rw[Ai,AlG,Ap1]
  refine Ea (lo:=0) (n:=wdt x) (λi ys H2=>Be H H2/\ys=vS ((List.range i).map λe=>(col x e).map flip)) ⟨.refl _,rfl⟩ ?_ ?_ ?_ ?_
  ·rintro i ys H2 hi ⟨s2,rfl⟩
   rw[Ba,Apq,ApE]
   exact Apv _
  ·exact Bq Ky
  ·rintro i ys H2 hi ⟨s2,rfl⟩
   refine Dh.no ?_
   have cl:(col x i).length=x.length:=by unfold col;rw[Apq]
   refine⟨rfl,_,rfl,_,rfl,⟨_,s2.seq hS⟩,DY (K:=K) (a:=a) (xs:=vS x) (λj ys H3=>H3=H2/\ys=vS ((((col x i).take j).map flip).map λc=>[c])) ⟨rfl,rfl⟩ ?_ ?_ ?_ ?_⟩
   ·rintro j ys H3 hj ⟨rfl,rfl⟩
    refine⟨s2.seq hS,?_⟩
    rw[Ba,Apq,Apq,Ap2]
    lia
   ·rw[Ba];exact Bq x40
   ·rintro j xv ys H3 hj hx ⟨rfl,rfl⟩
    obtain⟨u,hu,rfl⟩:=GP hx
    have hul:=C.hm u (ApD hu)
    have hiu:i<u.length:=by rw[hul];exact hi
    refine Dh.no ?_
    refine⟨_,rfl,_,rfl,_,_,u[i],rfl,rfl,(by rw[Ai,hul];exact Bq Ky),Cj (by lia) (by rw[z0,Et];exact Apu hiu),u[i],rfl,?_⟩
    refine CN.of hj ⟨rfl,?_⟩
    have ec:(col x i)[j]?=some u[i]:=by
     unfold col
     rw[Ap9,hu]
     show some (u.getD i 0)=_
     rw[ApR,Apu hiu]
     rfl
    rw[CP,Ap4,ec,Apx,Apx]
    rfl
   ·rintro ys H3 l ⟨rfl,rfl⟩ nl
    rw[Ba,ApP (by rw[cl];exact Apv _)]
    obtain⟨H4,e9,s3,h3⟩:=nu9 (o:=.lst (vS (((col x i).map flip).map λc=>[c]))) s2 nl
    rw[e9]
    have e2:(((col x i).map flip).map λc=>[c]).flatten=(col x i).map flip:=(Om id ((col x i).map flip)).trans (Aqc _)
    refine⟨_,_,((((col x i).map flip).map λc=>[c]).map tx),rfl,rfl,SqL.of (by rw[h3,GQ]),(by rw[JP,e2,Apq,cl,XD,Aqi];lia),?_⟩
    rw[Ku,FN,e2]
    refine CN.of hi ⟨s3,?_⟩
    rw[CP,ApZ,Apx]
    rfl
  ·rintro ys H2 l ⟨s2,rfl⟩ nl
   exact k l _ _ (s2.new nl) (s2.free nl) Ae rfl
def AiC (K:W.Frag):Sp:=λvs H Q _=>∃(a b c:Addr) (v x y:List (List Nat)),vs=[.ref a,.ref b,.ref c]/\SqL K H a (vS v)/\SqL K H b (vS x)/\SqL K H c (vS y)/\Clo v/\Clo x/\Cl y (wdt x) x.length/\∀ l H',Be H H'->H l=none->H' l=some (.lst (vS (fil v x y)))->Q (.ref l) H'
theorem AlH{p:Prop}[Decidable p]{u v:V}:atI [u,v] (if decide p=true then (1:Int) else 0)=some (if p then v else u):=by
 by_cases h:p
 ·rw[decide_eq_true h,if_pos rfl,if_pos h];exact Cj (by decide) rfl
 ·rw[decide_eq_false h,if_neg (λz=>nomatch z),if_neg h];exact Cj (by decide) rfl
theorem Aa2(T:Txt K mg t):Br P w K mg base CX0 1 t.Uy t.Uz ["profile", "one", "other"] (AiC K):=by
 refine T.Og.F.ok Iv (λvs H Q E h=>?_) (λcdv A outer s H vs Q E hr h=>?_)
 ·obtain⟨a,b,c,v,x,y,rfl,_⟩:=h
  rfl
 ·obtain⟨a,b,c,v,x,y,rfl,hA,hB,hC,VC,C,D,k⟩:=h
  refine⟨_,(Ac (Bh (i:=3) Iv.nd rfl (Or.inl rfl) (BV Ab))
   (Ac (Fw PassesOwn.never rfl (CV (K:=K) (pv 0)) (BK (i:=4) Iv.nd rfl (Or.inl rfl))
    (Ad (Fw PassesOwn.never rfl (Dw rfl T.Ey (Aa (Az (Bb (K:=K)) rfl T.Cr Bs (Aa (pv 1) Ab)) Ab)) (BK (i:=5) Iv.nd rfl (Or.inr rfl))
     (Ad (Bl (Dj (K:=K) F.plainAttrs_list F.slot_list_append F.type_list_append Ga (pv 3) (Aa (Dj (K:=K) F.plainAttrs_str F.slot_str_join F.type_str_join (Ed (K:=K)) Af (Aa (Dl (CG.mk (Bd:=[1,2,5]) (Nc:=["sign", "one", "other", "j"]) rfl (by decide +kernel) (by decide +kernel) (Cp (sc0:=Ah N7) rfl (by decide +kernel)) rfl rfl rfl (by decide +kernel) (λk j h=>match k,h with | 0,h=>by obtain rfl:=Option.some.inj h;exact⟨_,rfl,rfl,rfl⟩ | 1,h=>by obtain rfl:=Option.some.inj h;exact⟨_,rfl,rfl,rfl⟩ | 2,h=>by obtain rfl:=Option.some.inj h;exact⟨_,rfl,rfl,rfl⟩ | _+3,h=>by simp at h)) rfl (Nm (pv 4)) (λ_ _ _ _ _=>.nil) (λ_ _ _ _ _=>(Bf (Ax (K:=K)) (BV (Aa (Bf (Ax (K:=K)) (pv 2) (pv 3) (λ_ _=>rfl)) (Aa (Bf (Ax (K:=K)) (pv 1) (pv 3) (λ_ _=>rfl)) Ab))) (Cm LC rfl T.Aba V0 (Aa (DX Cu (pv 0) Af (Am _)) Ab)) (λ_ _=>rfl)))) Ab)) Ab)))))))
   (Ad (Av (pv 3))))),?_⟩
  have hsz:sizeLine=16777216:=sizeLine_eq
  have v40:=VC.n40
  have Anh:=VC.m40
  have x40:=C.n40
  have Ky:=C.m40
  have zl:(x.zip y).length=x.length:=by rw[Aqt,D.hn,Aqb]
  have eh:("#" : Str)=⟨#[35]⟩:=by decide +kernel
  refine⟨Ap8 _,λq nq=>?_⟩
  have s1:Be H (upd H q (.lst [])):=.upd nq
  have hq1:(upd H q (.lst [])) q=some (.lst (vS [])):=Ae
  generalize upd H q (.lst [])=H1 at s1 hq1 ⊢
  refine⟨_,rfl,_,rfl,⟨_,s1.seq hA⟩,Jf (K:=K) (a:=a) (xs:=vS v) (λi σ H2=>∃(v4 v5:Option V),σ=[some (.ref a),some (.ref b),some (.ref c),some (.ref q),v4,v5]/\Be H H2/\H2 q=some (.lst (vS (fil (v.take i) x y)))) ⟨none,none,rfl,s1,hq1⟩ (λi σ H2 _ ⟨_,_,_,s2,_⟩=>s2.seq hA) ?_ ?_⟩
  ·rintro i xv σ H2 hx ⟨v4,v5,rfl,s2,hq2⟩
   obtain⟨u,hu,rfl⟩:=GP hx
   have hul:=VC.hm u (ApD hu)
   have hi:i<v.length:=(List.getElem?_eq_some_iff.mp hu).1
   have et:v.take (i+1)=v.take i++[u]:=by rw[Ap4,hu];rfl
   have lf:(fil (v.take i) x y).length<=1600:=by
    unfold fil
    rw[Gs (h:=x.length) _ λx _=>by rw[Apq,zl],Ap2,Aqh (by lia)]
    have:i*x.length<=40*40:=Aqs (by lia) x40
    lia
   refine⟨_,rfl,_,_,rfl,.inl (s2.seq hB),_,rfl,(by lia),(by rw[Ba];lia),?_⟩
   rw[Ba,Ap1]
   refine Lz (lo:=0) (n:=x.length) (λj σ H3=>∃(v5:Option V),σ=[some (.ref a),some (.ref b),some (.ref c),some (.ref q),some (.str (tx u)),v5]/\Be H H3/\H3 q=some (.lst (vS (fil (v.take i) x y++((x.zip y).take j).map λq=>rowOf u q.1 q.2)))) ⟨_,rfl,s2,by rw[List.take_zero,ApW,ApT];exact hq2⟩ ?_ ?_
   ·rintro j σ H3 hj ⟨v5,rfl,s3,hq3⟩
    have hjy:j<y.length:=by rw[D.hn];exact hj
    have ex:=Apu hj
    have ey:=Apu hjy
    have wx:=C.hm _ (ApI hj)
    have wy:=D.hm _ (ApI hjy)
    have ez:(x.zip y)[j]?=some (x[j],y[j]):=List.getElem?_zip_eq_some.mpr ⟨ex,ey⟩
    generalize x[j]=xr at ex wx ez
    generalize y[j]=yr at ey wy ez
    refine⟨_,rfl,.inl ⟨rfl,_,SqL.of hq3⟩,rfl,_,rfl,_,rfl,LK (z:=tx u) (λe ys H4=>Be H3 H4/\ys=vS ((u.take e).map λc=>if c=35 then xr else yr)) ⟨.refl _,rfl⟩ ?_ ?_ ?_ ?_⟩
    ·rintro e ys H4 he ⟨s4,rfl⟩
     rw[Ba,Apq,Ap2]
     lia
    ·rw[Gh,hul];exact Bq Anh
    ·rintro e cc ys H4 he hcc ⟨s4,rfl⟩
     rw[Np] at hcc
     refine Dh.no ?_
     have u4:=s3.trans s4
     refine⟨_,rfl,_,rfl,_,_,_,_,rfl,rfl,u4.seq hC,(by rw[ApS];exact HS ey),_,rfl,_,rfl,_,_,_,_,rfl,rfl,u4.seq hB,(by rw[ApS];exact HS ex),(by show 2<=sizeLine;decide),λp np=>?_⟩
     obtain⟨H5,e9,s5,h5⟩:=nu9 (o:=.lst [.str (tx yr),.str (tx xr)]) s4 np
     rw[e9]
     refine⟨_,rfl,rfl,.inr ⟨_,rfl,?_⟩⟩
     refine⟨p,_,_,_,rfl,rfl,SqL.of h5,AlH,?_⟩
     rw[eh]
     rw[show(if (V.str ⟨#[cc]⟩:V)=V.str ⟨#[35]⟩ then V.str (tx xr) else V.str (tx yr))=V.str (tx (if cc=35 then xr else yr)) by
      by_cases h:cc=35
      ·rw[if_pos (Ad3.mpr h),if_pos h]
      ·rw[if_neg (λz=>h (Ad3.mp z)),if_neg h]]
     refine CN.of he ⟨s5,?_⟩
     rw[CP,Ap4,hcc,Apx]
     rfl
    ·rintro ys H4 p ⟨s4,rfl⟩ np
     rw[Gh,ApJ]
     obtain⟨H5,e9,s5,h5⟩:=nu9 (o:=.lst (vS (u.map λc=>if c=35 then xr else yr))) s4 np
     rw[e9]
     have ef:(u.map λc=>if c=35 then xr else yr).flatten=rowOf u xr yr:=by unfold rowOf;rw[AqH]
     have lr:(rowOf u xr yr).length<=1600:=by
      unfold rowOf
      rw[Gs (h:=wdt x) u λx _=>by split;exact wx;exact wy,hul]
      have:wdt v*wdt x<=40*40:=Aqs Anh Ky
      lia
     refine⟨_,_,((u.map λc=>if c=35 then xr else yr).map tx),rfl,rfl,SqL.of (by rw[h5,GQ]),(by rw[JP,ef,XD,Aqi];lia),?_⟩
     rw[Ku,FN,ef]
     refine⟨_,_,_,rfl,rfl,s5 _ _ hq3,(by rw[Ba,Aps,Apq,Ap2];lia),?_⟩
     rw[CP]
     refine⟨_,rfl,(s3.trans s5).over nq,?_⟩
     rw[Ae,ApN,Ap4,ez,Apx]
     rfl
   ·rintro σ H3 ⟨v5,rfl,s3,hq3⟩
    rw[ApP (l:=x.zip y) (i:=x.length) (by rw[zl];exact Apv _)] at hq3
    exact⟨_,_,rfl,s3,by rw[et,Ad5];exact hq3⟩
  ·rintro σ H2 ⟨v4,v5,rfl,s2,hq2⟩
   rw[Ba,ApJ] at hq2
   exact⟨_,rfl,k q H2 s2 nq hq2⟩
def AiD (K:W.Frag):Sp:=λvs H Q _=>∃(a b:Addr) (x y:List (List Nat)),vs=[.ref a,.ref b]/\SqL K H a (vS x)/\SqL K H b (vS y)/\Clo x/\Cl y (wdt x) x.length/\∀ l H',Be H H'->H l=none->H' l=some (.lst (vS (ld2 x y)))->Q (.ref l) H'
theorem AdD(T:Txt K mg t):Br P w K mg base CX0 1 t.YW t.YZ ["one", "other"] (AiD K):=by
 refine T.U6.F.ok Qp (λvs H Q E h=>?_) (λcdv A outer s H vs Q E hr h=>?_)
 ·obtain⟨a,b,x,y,rfl,_⟩:=h
  rfl
 ·obtain⟨a,b,x,y,rfl,hA,hB,C,D,k⟩:=h
  refine⟨_,(Ac (Bh (i:=2) Qp.nd rfl (Or.inl rfl) (BV Ab))
   (Ac (Fw PassesOwn.never rfl (Dw rfl T.Ey (Aa (Az (Bb (K:=K)) rfl T.Cr Bs (Aa (pv 0) Ab)) Ab)) (BK (i:=3) Qp.nd rfl (Or.inl rfl))
    (Ac (Bl (Dj (K:=K) F.plainAttrs_list F.slot_list_append F.type_list_append Ga (pv 2) (Aa (Dj (K:=K) F.plainAttrs_str F.slot_str_join F.type_str_join (Ed (K:=K)) Af (Aa (Dl (CG.mk (Bd:=[]) (Nc:=["sign"]) rfl (by decide +kernel) (by decide +kernel) (Cp (sc0:=Ah N8) rfl (by decide +kernel)) rfl rfl rfl (by decide +kernel) (λ_ _ h=>by simp at h)) rfl (Nm (Bf (Ax (K:=K)) (pv 0) (pv 3) (λ_ _=>rfl))) (λ_ _ _ _ _=>.nil) (λ_ _ _ _ _=>(Ar Bg (pv 0) Af))) Ab)) Ab)))
    (Ad (Bl (Dj (K:=K) F.plainAttrs_list F.slot_list_append F.type_list_append Ga (pv 2) (Aa (Dj (K:=K) F.plainAttrs_str F.slot_str_join F.type_str_join (Ed (K:=K)) Af (Aa (Dl (CG.mk (Bd:=[]) (Nc:=["sign"]) rfl (by decide +kernel) (by decide +kernel) (Cp (sc0:=Ah N8) rfl (by decide +kernel)) rfl rfl rfl (by decide +kernel) (λ_ _ h=>by simp at h)) rfl (Nm (Bf (Ax (K:=K)) (pv 1) (pv 3) (λ_ _=>rfl))) (λ_ _ _ _ _=>.nil) (λ_ _ _ _ _=>(Ar Bg Af (pv 0)))) Ab)) Ab))))))
   (Ad (Av (pv 2))))),?_⟩
  rw[Ku]
  have hsz:sizeLine=16777216:=sizeLine_eq
  have x40:=C.n40
  have Ky:=C.m40
  have zl:(x.zip y).length=x.length:=by rw[Aqt,D.hn,Aqb]
  refine⟨Ap8 _,λq nq=>?_⟩
  have s1:Be H (upd H q (.lst [])):=.upd nq
  have hq1:(upd H q (.lst [])) q=some (.lst (vS [])):=Ae
  generalize upd H q (.lst [])=H1 at s1 hq1 ⊢
  refine⟨_,rfl,_,_,rfl,.inl (s1.seq hA),_,rfl,(by lia),(by rw[Ba];lia),?_⟩
  rw[Ba,Ap1]
  refine Lz (lo:=0) (n:=x.length) (λj σ H3=>∃(v5:Option V),σ=[some (.ref a),some (.ref b),some (.ref q),v5]/\Be H H3/\H3 q=some (.lst (vS (((x.zip y).take j).flatMap λq=>[ldA q.1,ldB q.2])))) ⟨none,rfl,s1,hq1⟩ ?_ ?_
  ·rintro j σ H3 hj ⟨v5,rfl,s3,hq3⟩
   have hjy:j<y.length:=by rw[D.hn];exact hj
   have ex:=Apu hj
   have ey:=Apu hjy
   have wx:=C.hm _ (ApI hj)
   have wy:=D.hm _ (ApI hjy)
   have ez:(x.zip y)[j]?=some (x[j],y[j]):=List.getElem?_zip_eq_some.mpr ⟨ex,ey⟩
   generalize x[j]=xr at ex wx ez
   generalize y[j]=yr at ey wy ez
   have lz:(((x.zip y).take j).flatMap λq=>[ldA q.1,ldB q.2]).length<=80:=by
    rw[Gs (h:=2) _ λq _=>rfl,Ap2]
    lia
   generalize ew:(((x.zip y).take j).flatMap λq=>[ldA q.1,ldB q.2])=w0 at hq3 lz
   have en:((x.zip y).take (j+1)).flatMap (λq=>[ldA q.1,ldB q.2])=w0++[ldA xr,ldB yr]:=by
    rw[Ap4,ez,List.flatMap_append,ew]
    rfl
   refine⟨_,rfl,.inl ⟨rfl,_,SqL.of hq3⟩,rfl,_,rfl,_,rfl,_,_,_,_,rfl,rfl,s3.seq hA,(by rw[ApS];exact HS ex),_,rfl,LK (z:=tx xr) (λe ys H4=>H4=H3/\ys=vS ((xr.take e).map λc=>[c,46])) ⟨rfl,rfl⟩ ?_ ?_ ?_ ?_⟩
   ·rintro e ys H4 he ⟨rfl,rfl⟩
    rw[Ba,Apq,Ap2]
    lia
   ·rw[Gh,wx];exact Bq Ky
   ·rintro e cc ys H4 he hcc ⟨rfl,rfl⟩
    rw[Np] at hcc
    refine Dh.no ?_
    rw[show(("." : Str))=tx [46] from by decide +kernel]
    refine⟨_,rfl,_,_,rfl,rfl,(by rw[Gr,Ai,Ai];exact big (by show 2<=1000000;decide)),?_⟩
    rw[Gr,CJ]
    refine CN.of he ⟨rfl,?_⟩
    rw[CP,Ap4,hcc,Apx]
    rfl
   ·rintro ys H4 p ⟨rfl,rfl⟩ np
    rw[Gh,ApJ]
    obtain⟨H5,e9,s5,h5⟩:=nu9 (o:=.lst (vS (xr.map λc=>[c,46]))) (.refl _) np
    rw[e9]
    have ef:(xr.map λc=>[c,46]).flatten=ldA xr:=by unfold ldA;rw[AqH]
    have la:=Afx xr
    refine⟨_,_,((xr.map λc=>[c,46]).map tx),rfl,rfl,SqL.of (by rw[h5,GQ]),(by rw[JP,ef,Ai,Apz,Aqi];lia),?_⟩
    rw[FN,ef]
    refine⟨_,_,_,rfl,rfl,s5 _ _ hq3,(by rw[Ba];lia),?_⟩
    rw[CP]
    have s6:Be H (upd H5 q (.lst (vS (w0++[ldA xr])))):=(s3.trans s5).over nq
    have hq6:(upd H5 q (.lst (vS (w0++[ldA xr])))) q=some (.lst (vS (w0++[ldA xr]))):=Ae
    generalize upd H5 q (.lst (vS (w0++[ldA xr])))=H6 at s6 hq6 ⊢
    refine⟨_,rfl,.inl ⟨rfl,_,SqL.of hq6⟩,rfl,_,rfl,_,rfl,_,_,_,_,rfl,rfl,s6.seq hB,(by rw[ApS];exact HS ey),_,rfl,LK (z:=tx yr) (λe ys H7=>H7=H6/\ys=vS ((yr.take e).map λc=>[35,c])) ⟨rfl,rfl⟩ ?_ ?_ ?_ ?_⟩
    ·rintro e ys H7 he ⟨rfl,rfl⟩
     rw[Ba,Apq,Ap2]
     lia
    ·rw[Gh,wy];exact Bq Ky
    ·rintro e cc ys H7 he hcc ⟨rfl,rfl⟩
     rw[Np] at hcc
     refine Dh.no ?_
     rw[show(("#" : Str))=tx [35] from by decide +kernel]
     refine⟨_,rfl,_,_,rfl,rfl,(by rw[Gr,Ai,Ai];exact big (by show 2<=1000000;decide)),?_⟩
     rw[Gr,CJ]
     refine CN.of he ⟨rfl,?_⟩
     rw[CP,Ap4,hcc,Apx]
     rfl
    ·rintro ys H7 p7 ⟨rfl,rfl⟩ np7
     rw[Gh,ApJ]
     obtain⟨H8,e9,s8,h8⟩:=nu9 (o:=.lst (vS (yr.map λc=>[35,c]))) (.refl _) np7
     rw[e9]
     have eg:(yr.map λc=>[35,c]).flatten=ldB yr:=by unfold ldB;rw[AqH]
     have lb:=Afy yr
     refine⟨_,_,((yr.map λc=>[35,c]).map tx),rfl,rfl,SqL.of (by rw[h8,GQ]),(by rw[JP,eg,Ai,Apz,Aqi];lia),?_⟩
     rw[FN,eg]
     refine⟨_,_,_,rfl,rfl,s8 _ _ hq6,(by rw[Ba,Aps];exact Ap0 (show w0.length+1<1000 by lia) (by decide)),?_⟩
     rw[CP]
     refine⟨_,rfl,(s6.trans s8).over nq,?_⟩
     rw[Ae,en,ApN]
     rfl
  ·rintro σ H3 ⟨v5,rfl,s3,hq3⟩
   rw[ApP (by rw[zl];exact Apv _)] at hq3
   exact⟨_,rfl,k q H3 s3 nq hq3⟩
end
namespace K59
def s2 (s:String):List Nat:=(Str.ofString s).cps.toList
theorem st(s:String):Str.ofString s=tx (s2 s):=(Aks _).symm
def knL:Kns:=[([118,118],[[35,35,46],[46,35,46]]),([118,119],[[35,46],[46,35],[35,35]])]
theorem sgs{x:List (List Nat)}(h:(x.all λt=>t.all λc=>c == 35 || c == 46)=true):∀ t∈x,∀ c∈t,Sg c:=λt ht c hc=>by
 have:=List.all_eq_true.mp (List.all_eq_true.mp h t ht) c hc
 simp only [Bool.or_eq_true,beq_iff_eq] at this
 exact this
theorem Wi:∀ p∈knL,Clo p.2:=by
 intro p hp
 rcases List.mem_cons.mp hp with rfl | hp
 ·exact⟨rfl,by decide,sgs (by decide),by decide,by decide,by decide,by decide⟩
 ·rw[List.mem_singleton.mp hp]
  exact⟨rfl,by decide,sgs (by decide),by decide,by decide,by decide,by decide⟩
def dueS:Rf->Str
 | .nop => "NoPattern"
 | .big => "TooLarge"
 | .unk => "Unknown"
def rowsR:Res->List (List Nat)
 | .ok x=>x
 | .no _=>[]
def dueR:Res->Str
 | .ok _ => ""
 | .no f=>dueS f
theorem AiE{rs:List (List Nat)}{d:Nat}(C:Clo rs):out knL (d+1) (.node Pat.Fq (rs.map Nd.run))=.ok rs/\Wd (d+1) (.node Pat.Fq (rs.map Nd.run))/\wr (d+1) (.node Pat.Fq (rs.map Nd.run))=wz Pat.Fq rs:=by
 have ne:rs≠[]:=λe=>by have:=C.n1;rw[e] at this;simp at this
 have hr:∀ r∈rs,r≠[]/\∀ c∈r,Sg c:=λr h=>⟨λe=>by have:=C.hm r h;have:=C.m1;rw[e] at *;simp at *;lia,C.sg r h⟩
 refine⟨?_,.rows ne C.n40 hr,?_⟩
 ·show(match args (out knL d) (wr d) (rs.map Nd.run) with | .inl f=>_ | .inr as=>_)=_
  rw[V4]
  show made Pat.Fq (rs.map Arg.run)=_
  unfold made
  rw[if_pos rfl,V5]
  unfold Yz
  have e:((rs.map λr=>decide (¬r.length=wdt rs)).any id)=false:=by
   rw[List.any_map,List.any_eq_false]
   intro r h
   simp[C.hm r h]
  rw[e,if_neg (λz=>nomatch z),if_neg (by have:=C.m40;have:=C.n40;lia)]
 ·show wz Pat.Fq ((rs.map Nd.run).map (wr d))=_
  rw[Aqa,show(wr d∘Nd.run)=id from funext λr=>S9,Aqc]
theorem Ag7{a b d:Nat}(ha:1<=a)(ha4:a<=4)(hb:1<=b)(hb4:b<=4):out knL (d+1) (.node twW [.num a,.num b])=.ok ((List.range (a+b)).map (twT a b))/\Wd (d+1) (.node twW [.num a,.num b])/\wr (d+1) (.node twW [.num a,.num b])=wz twW [dec a,dec b]:=by
 refine⟨?_,.nums (.inl rfl) (by lia) (by lia),?_⟩
 ·show Nr a b=_
  unfold Nr
  rw[if_neg (by lia),if_neg (by lia)]
 ·show wz twW [wr d (.num a),wr d (.num b)]=_
  rw[Jt,Jt]
theorem Ag8{m d:Nat}(hm:m=2\/m=3\/m=5\/m=7):out knL (d+1) (.node saW [.num m,.num (m-1)])=.ok ((List.range m).map (saT m (m-1)))/\Wd (d+1) (.node saW [.num m,.num (m-1)])/\wr (d+1) (.node saW [.num m,.num (m-1)])=wz saW [dec m,dec (m-1)]:=by
 refine⟨?_,.nums (.inr rfl) (by lia) (by lia),?_⟩
 ·show Nt m (m-1)=_
  unfold Nt
  have:Pri m (m-1):=by rcases hm with rfl | rfl | rfl | rfl <;> decide
  rw[if_neg (λz=>z this),if_neg (by lia)]
 ·show wz saW [wr d (.num m),wr d (.num (m-1))]=_
  rw[Jt,Jt]
theorem Akb{m n y x:Nat}(hy:y<=m+n):twl m n y x=if ((x:Int)-(y:Int))%((m:Int)+(n:Int))<(m:Int) then 35 else 46:=by
 have e:(((x+(m+n)-y)%(m+n):Nat):Int)=((x:Int)-(y:Int))%((m:Int)+(n:Int)):=by
  rw[AqG,show((x+(m+n)-y:Nat):Int)=((x:Int)-(y:Int))+((m+n:Nat):Int) by lia,Int.add_emod_right]
  rfl
 unfold twl
 rw[<- e]
 by_cases h:(x+(m+n)-y)%(m+n)<m
 ·rw[if_pos h,if_pos (by lia)]
 ·rw[if_neg h,if_neg (by lia)]
theorem Akc{m y:Nat}(hm:1<=m):((y*(m-1)%m:Nat):Int)=(y:Int)*((m:Int)-1)%(m:Int):=by
 rw[AqG,ApL,show((m-1:Nat):Int)=(m:Int)-1 by lia]
theorem AiF{p:Prop}[Decidable p]:atI ((tx [46,35]).cps.toList) (if decide p=true then (1:Int) else 0)=some (if p then 35 else 46):=by
 rw[Et]
 by_cases h:p
 ·rw[decide_eq_true h,if_pos rfl,if_pos h];exact Cj (by decide) rfl
 ·rw[decide_eq_false h,if_neg (λz=>nomatch z),if_neg h];exact Cj (by decide) rfl
theorem Akd:∀ k∈List.range 11,Pat.isName ((s2 "nobodyknows").take (1+k))=true/\((s2 "nobodyknows").take (1+k))≠[118,118]/\((s2 "nobodyknows").take (1+k))≠[118,119]:=by decide +kernel
theorem Ake{u:List Nat}{d:Nat}(h:Pat.isName u=true)(h1:u≠[118,118])(h2:u≠[118,119]):out knL (d+1) (.nam u)=.no .unk/\Wd (d+1) (.nam u)/\wr (d+1) (.nam u)=u:=by
 refine⟨?_,.nam h,rfl⟩
 show known knL u=_
 unfold known
 have e:(knL.find? λp=>decide (p.1=u))=none:=by
  rw[List.find?_eq_none]
  intro p hp
  rcases List.mem_cons.mp hp with rfl | hp
  ·exact λz=>h1 (of_decide_eq_true z).symm
  ·rw[List.mem_singleton.mp hp]
   exact λz=>h2 (of_decide_eq_true z).symm
 rw[e]
theorem AiG:∀ p∈knL,out knL 1 (.nam p.1)=.ok p.2/\Wd 1 (.nam p.1)/\wr 1 (.nam p.1)=p.1:=by
 intro p hp
 rcases List.mem_cons.mp hp with rfl | hp
 ·exact⟨rfl,.nam (by decide +kernel),rfl⟩
 ·rw[List.mem_singleton.mp hp]
  exact⟨rfl,.nam (by decide +kernel),rfl⟩
theorem vvE:Str.ofString "vv" = tx [118,118]:=by decide +kernel
theorem vwE:Str.ofString "vw" = tx [118,119]:=by decide +kernel
theorem rE1:Str.ofString "##." = tx [35,35,46]:=by decide +kernel
theorem rE2:Str.ofString ".#." = tx [46,35,46]:=by decide +kernel
theorem rE3:Str.ofString "#." = tx [35,46]:=by decide +kernel
theorem rE4:Str.ofString ".#" = tx [46,35]:=by decide +kernel
theorem rE5:Str.ofString "##" = tx [35,35]:=by decide +kernel
def w9:List (List Nat):=[beW,abW,laW,blW,tiW,miW,upW,baW,quW]
def cnt (z:List Nat):Nat:=if z=beW\/z=abW\/z=laW then 2 else if z=blW then 3 else 1
def nd9 (z:List Nat)(xs:List Nd)(a b:Nat):Nd:=.node z (if z=tiW then xs++[.num a,.num b] else xs)
def sz9 (z:List Nat)(cs:List (List (List Nat)))(a b:Nat):Nat × Nat × Bool :=
 match cs with
 | [x]=>if z=tiW then (a*wdt x,b*x.length,decide (0<a/\0<b)) else if z=quW then (x.length,wdt x,true) else (wdt x,x.length,true)
 | [x,y]=>if z=beW then (wdt x+wdt y,y.length,decide (x.length=y.length)) else if z=abW then (wdt y,x.length+y.length,decide (wdt x=wdt y)) else (2*wdt y,2*y.length,decide (wdt x=wdt y/\x.length=y.length))
 | [v,x,y]=>(wdt v*wdt y,v.length*y.length,decide (wdt x=wdt y/\x.length=y.length))
 | _=>(0,0,false)
def mk9 (z:List Nat)(cs:List (List (List Nat)))(a b:Nat):List (List Nat) :=
 match cs with
 | [x]=>if z=tiW then til x a b else rowsR (AcW z x)
 | [x,y]=>if z=beW then List.zipWith (·++·) x y else if z=abW then x++y else ld2 x y
 | [v,x,y]=>fil v x y
 | _=>[]
def res9(z:List Nat)(cs:List (List (List Nat)))(a b:Nat):Res :=
 if (sz9 z cs a b).2.2=false then .no .nop else if 40<(sz9 z cs a b).1\/40<(sz9 z cs a b).2.1 then .no .big else .ok (mk9 z cs a b)
theorem Ak4{y:List (List Nat)}{a b:Nat}:sz9 tiW [y] a b=(a*wdt y,b*y.length,decide (0<a/\0<b)):=rfl
theorem Ani{z:List Nat}{y:List (List Nat)}{a b:Nat}(h:z∈[miW,upW,baW]):sz9 z [y] a b=(wdt y,y.length,true):=by
 simp only [ApA,ApB,or_false] at h
 rcases h with rfl | rfl | rfl <;> rfl
theorem Anj{y:List (List Nat)}{a b:Nat}:sz9 quW [y] a b=(y.length,wdt y,true):=rfl
theorem Ank{x y:List (List Nat)}{a b:Nat}:sz9 beW [x,y] a b=(wdt x+wdt y,y.length,decide (x.length=y.length)):=rfl
theorem Anl{x y:List (List Nat)}{a b:Nat}:sz9 abW [x,y] a b=(wdt y,x.length+y.length,decide (wdt x=wdt y)):=rfl
theorem Ak5{x y:List (List Nat)}{a b:Nat}:sz9 laW [x,y] a b=(2*wdt y,2*y.length,decide (wdt x=wdt y/\x.length=y.length)):=rfl
theorem Ak6{v x y:List (List Nat)}{a b:Nat}:sz9 blW [v,x,y] a b=(wdt v*wdt y,v.length*y.length,decide (wdt x=wdt y/\x.length=y.length)):=rfl
theorem shape{z:List Nat}{cs:List (List (List Nat))}(hz:z∈w9)(hc:cs.length=cnt z):(z∈[tiW,miW,upW,baW,quW]/\∃ y,cs=[y])\/(z∈[beW,abW,laW]/\∃ x y,cs=[x,y])\/(z=blW/\∃ v x y,cs=[v,x,y]):=by
 simp only [w9,ApA,ApB,or_false] at hz
 rcases hz with rfl | rfl | rfl | rfl | rfl | rfl | rfl | rfl | rfl
 ·exact .inr (.inl ⟨by decide,by rcases cs with _ | ⟨x,_ | ⟨y,_ | ⟨w,cs⟩⟩⟩ <;> first | exact⟨x,y,rfl⟩ | cases hc⟩)
 ·exact .inr (.inl ⟨by decide,by rcases cs with _ | ⟨x,_ | ⟨y,_ | ⟨w,cs⟩⟩⟩ <;> first | exact⟨x,y,rfl⟩ | cases hc⟩)
 ·exact .inr (.inl ⟨by decide,by rcases cs with _ | ⟨x,_ | ⟨y,_ | ⟨w,cs⟩⟩⟩ <;> first | exact⟨x,y,rfl⟩ | cases hc⟩)
 ·exact .inr (.inr ⟨rfl,by rcases cs with _ | ⟨x,_ | ⟨y,_ | ⟨w,_ | ⟨w2,cs⟩⟩⟩⟩ <;> first | exact⟨x,y,w,rfl⟩ | cases hc⟩)
 ·exact .inl ⟨by decide,by rcases cs with _ | ⟨x,_ | ⟨y,cs⟩⟩ <;> first | exact⟨x,rfl⟩ | cases hc⟩
 ·exact .inl ⟨by decide,by rcases cs with _ | ⟨x,_ | ⟨y,cs⟩⟩ <;> first | exact⟨x,rfl⟩ | cases hc⟩
 ·exact .inl ⟨by decide,by rcases cs with _ | ⟨x,_ | ⟨y,cs⟩⟩ <;> first | exact⟨x,rfl⟩ | cases hc⟩
 ·exact .inl ⟨by decide,by rcases cs with _ | ⟨x,_ | ⟨y,cs⟩⟩ <;> first | exact⟨x,rfl⟩ | cases hc⟩
 ·exact .inl ⟨by decide,by rcases cs with _ | ⟨x,_ | ⟨y,cs⟩⟩ <;> first | exact⟨x,rfl⟩ | cases hc⟩
theorem Anm{z v:List Nat}{x:List (List Nat)}{a b:Nat}(hz:z=miW\/z=upW\/z=baW\/z=quW)(C:Clo x):made z [.cl x v]=res9 z [x] a b:=by
 have m40:=C.m40
 have n40:=C.n40
 unfold res9 sz9 mk9
 rcases hz with rfl | rfl | rfl | rfl
 ·show Res.ok (x.map List.reverse)=_
  simp only [show ¬(miW=tiW) by decide,show ¬(miW=quW) by decide,if_false]
  rw[if_neg (by simp),if_neg (by lia)]
  rfl
 ·show Res.ok x.reverse=_
  simp only [show ¬(upW=tiW) by decide,show ¬(upW=quW) by decide,if_false]
  rw[if_neg (by simp),if_neg (by lia)]
  rfl
 ·show Res.ok (back x)=_
  simp only [show ¬(baW=tiW) by decide,show ¬(baW=quW) by decide,if_false]
  rw[if_neg (by simp),if_neg (by lia)]
  rfl
 ·show Res.ok (Wo x (wdt x))=_
  simp only [show ¬(quW=tiW) by decide,if_true,if_false]
  rw[if_neg (by simp),if_neg (by lia)]
  rfl
theorem Ann{v:List Nat}{x:List (List Nat)}{a b:Nat}:made tiW [.cl x v,.num a,.num b]=res9 tiW [x] a b:=by
 show Y0 x a b=_
 unfold Y0 res9 sz9 mk9
 simp only [if_true]
 by_cases h:a<1\/b<1
 ·rw[if_pos h,if_pos (decide_eq_false (by lia))]
 ·rw[if_neg h,decide_eq_true (show 0<a/\0<b by lia),if_neg (show ¬(true=false) from λz=>nomatch z),Aqg a,Aqg b]
theorem Ano{z v u:List Nat}{x y:List (List Nat)}{a b:Nat}(hz:z=beW\/z=abW\/z=laW)(C:Clo x)(D:Clo y):made z [.cl x v,.cl y u]=res9 z [x,y] a b:=by
 unfold res9 sz9 mk9
 rcases hz with rfl | rfl | rfl
 ·show Nu x y=_
  unfold Nu
  simp only [if_true]
  by_cases h:x.length=y.length
  ·rw[if_neg (λz=>z h),decide_eq_true h,if_neg (show ¬(true=false) from λz=>nomatch z),h]
  ·rw[if_pos h,if_pos (decide_eq_false h)]
 ·show S8 x y=_
  unfold S8
  simp only [show ¬(abW=beW) by decide,if_true,if_false]
  by_cases h:wdt x=wdt y
  ·rw[if_neg (λz=>z h),decide_eq_true h,if_neg (show ¬(true=false) from λz=>nomatch z),h]
  ·rw[if_pos h,if_pos (decide_eq_false h)]
 ·show Aed x y=_
  unfold Aed
  simp only [show ¬(laW=beW) by decide,show ¬(laW=abW) by decide,if_false]
  by_cases h:wdt x=wdt y/\x.length=y.length
  ·rw[if_neg (by lia),decide_eq_true h,if_neg (show ¬(true=false) from λz=>nomatch z)]
   have D':Cl y (wdt x) x.length:=by rw[h.1,h.2];exact D
   rw[Aka C D',h.1,h.2]
  ·rw[if_pos (by lia),if_pos (decide_eq_false h)]
theorem Anp{v u s:List Nat}{x y w:List (List Nat)}{a b:Nat}:made blW [.cl x v,.cl y u,.cl w s]=res9 blW [x,y,w] a b:=by
 show Nv x y w=(if decide (wdt y=wdt w/\y.length=w.length)=false then Res.no Rf.nop else if 40<wdt x*wdt w\/40<x.length*w.length then Res.no .big else .ok (fil x y w))
 unfold Nv
 by_cases h:wdt y=wdt w/\y.length=w.length
 ·rw[if_neg (by lia),decide_eq_true h,if_neg (show ¬(true=false) from λz=>nomatch z)]
  rw[h.1,h.2]
 ·rw[if_pos (by lia),if_pos (decide_eq_false h)]
def fst9:List Res->Rf ⊕ List (List (List Nat))
 | []=>.inr []
 | .no f::_=>.inl f
 | .ok x::rs=>match fst9 rs with
  | .inl f=>.inl f
  | .inr cs=>.inr (x::cs)
def all9(z:List Nat)(rs:List Res)(a b:Nat):Res:=match fst9 rs with
 | .inl f=>.no f
 | .inr cs=>res9 z cs a b
theorem AlI{ts:List (List Nat)}{p q:List Nat}(h:ts≠[]):cj (ts++[p,q])=cj ts++([44]++p++[44]++q):=by
 cases ts with
 | nil=>exact absurd rfl h
 | cons y ys =>
  show y++((ys++[p,q]).map λy=>[44]++y).flatten=(y++(ys.map λy=>[44]++y).flatten)++([44]++p++[44]++q)
  rw[Apx,List.flatten_append,ApN]
  simp
theorem AlJ{D:Nat}{z:List Nat}{xs:List Nd}{a b:Nat}:wr (D+1) (nd9 z xs a b)=wz z (if z=tiW then xs.map (wr D)++[dec a,dec b] else xs.map (wr D)):=by
 unfold nd9
 by_cases h:z=tiW
 ·rw[if_pos h,if_pos h]
  show wz z ((xs++[Nd.num a,Nd.num b]).map (wr D))=_
  rw[Apx,Apw,Apw,Jt,Jt]
  rfl
 ·rw[if_neg h,if_neg h]
  rfl
def Aa3 (z:List Nat)(a b:Nat):List Nat:=if z=tiW then [44]++dec a++[44]++dec b else []
theorem Aoo{D:Nat}{z:List Nat}{xs:List Nd}{a b:Nat}(h:xs≠[]):z++[40]++cj (xs.map (wr D))++Aa3 z a b++[41]=wr (D+1) (nd9 z xs a b):=by
 rw[AlJ]
 unfold Aa3 wz
 by_cases c:z=tiW
 ·rw[if_pos c,if_pos c,AlI (by simp[h])]
  simp
 ·rw[if_neg c,if_neg c]
  simp
theorem Anq(ts:List (List Nat)):(cj ts).length<=(ts.map List.length).sum+ts.length:=by
 have h:∀ ys:List (List Nat),((ys.map λy=>[44]++y).flatten).length=(ys.map List.length).sum+ys.length:=λys=>by
  induction ys with
  | nil=>rfl
  | cons y ys ih =>
   rw[Apw,ApH,Aps,ih,Apw,Aql,Aps,Apt]
   simp only [Apt,Apz]
   lia
 cases ts with
 | nil=>exact Apv _
 | cons y ys =>
  unfold cj
  rw[Aps,h,Apw,Aql,Apt]
  lia
theorem Akf{pre post:List Res}{f:Rf}(h:∀ r∈pre,∃ x,r=.ok x):fst9 (pre++.no f::post)=.inl f:=by
 induction pre with
 | nil=>rfl
 | cons r pre ih =>
  obtain⟨x,rfl⟩:=h r Ap6
  show(match fst9 (pre++.no f::post) with | .inl f=>_ | .inr cs=>_)=_
  rw[ih λr hr=>h r (Ap7 _ hr)]
theorem Afz:∀{cs:List (List (List Nat))},fst9 (cs.map Res.ok)=.inr cs
 | []=>rfl
 | x::cs=>by
  show(match fst9 (cs.map Res.ok) with | .inl f=>_ | .inr cs=>_)=_
  rw[Afz]
theorem AlK{r:Res}(h:dueR r = ""):∃ x,r=.ok x:=by
 cases r with
 | ok x=>exact⟨x,rfl⟩
 | no f=>cases f <;> exact absurd h (by decide +kernel)
theorem AiH{z:List Nat}:cnt z<=3/\1<=cnt z:=by
 unfold cnt
 split
 ·lia
 ·split <;> lia
theorem AlL:∀ z∈w9,z.length<=7:=by decide
theorem Aop{z:List Nat}{xs:List Nd}{D a b:Nat}(hz:z∈w9)(hc:xs.length=cnt z)(hW:∀ x∈xs,Wd D x)(ha:a<100)(hb:b<100):Wd (D+1) (nd9 z xs a b)/\out knL (D+1) (nd9 z xs a b)=all9 z (xs.map (out knL D)) a b:=by
 have cl:∀{x:Nd} {r:List (List Nat)},x∈xs->out knL D x=.ok r->Clo r:=λhx e=>Ra Wi (hW _ hx) e
 have ar:∀{x:Nd},x∈xs->arg (out knL D) (wr D) x=match out knL D x with | .ok r=>.inr (.cl r (wr D x)) | .no f=>.inl f:=λhx=>Y5 (hW _ hx)
 simp only [w9,ApA,ApB,or_false] at hz
 have one:∀ x,xs=[x]->(z=miW\/z=upW\/z=baW\/z=quW)->Wd (D+1) (nd9 z xs a b)/\out knL (D+1) (nd9 z xs a b)=all9 z (xs.map (out knL D)) a b:=λx e hz=>by
  subst e
  have hx:x∈[x]:=by simp
  have e0:nd9 z [x] a b=.node z [x]:=by unfold nd9;rw[if_neg (by rcases hz with rfl | rfl | rfl | rfl <;> decide)]
  rw[e0]
  refine⟨.one hz (hW x hx),?_⟩
  show(match args (out knL D) (wr D) [x] with | .inl f=>_ | .inr as=>_)=_
  unfold args
  rw[ar hx]
  unfold all9
  simp only [Apw,ApW]
  cases e1:out knL D x with
  | no f=>rfl
  | ok r=>exact Anm hz (cl hx e1)
 have two:∀ x y,xs=[x,y]->(z=beW\/z=abW\/z=laW)->Wd (D+1) (nd9 z xs a b)/\out knL (D+1) (nd9 z xs a b)=all9 z (xs.map (out knL D)) a b:=λx y e hz=>by
  subst e
  have hx:x∈[x,y]:=by simp
  have hy:y∈[x,y]:=by simp
  have e0:nd9 z [x,y] a b=.node z [x,y]:=by unfold nd9;rw[if_neg (by rcases hz with rfl | rfl | rfl <;> decide)]
  rw[e0]
  refine⟨.two hz (hW x hx) (hW y hy),?_⟩
  show(match args (out knL D) (wr D) [x,y] with | .inl f=>_ | .inr as=>_)=_
  unfold args
  rw[ar hx]
  unfold all9
  simp only [Apw,ApW]
  cases e1:out knL D x with
  | no f=>rfl
  | ok r =>
   dsimp only
   unfold args
   rw[ar hy]
   cases e2:out knL D y with
   | no f=>rfl
   | ok r2=>exact Ano hz (cl hx e1) (cl hy e2)
 rcases hz with rfl | rfl | rfl | rfl | rfl | rfl | rfl | rfl | rfl
 ·rcases xs with _ | ⟨x,_ | ⟨y,_ | ⟨w,xs⟩⟩⟩
  ·cases hc
  ·cases hc
  ·exact two x y rfl (.inl rfl)
  ·cases hc
 ·rcases xs with _ | ⟨x,_ | ⟨y,_ | ⟨w,xs⟩⟩⟩
  ·cases hc
  ·cases hc
  ·exact two x y rfl (.inr (.inl rfl))
  ·cases hc
 ·rcases xs with _ | ⟨x,_ | ⟨y,_ | ⟨w,xs⟩⟩⟩
  ·cases hc
  ·cases hc
  ·exact two x y rfl (.inr (.inr rfl))
  ·cases hc
 ·rcases xs with _ | ⟨x,_ | ⟨y,_ | ⟨w,_ | ⟨w2,xs⟩⟩⟩⟩
  ·cases hc
  ·cases hc
  ·cases hc
  ·have hx:x∈[x,y,w]:=by simp
   have hy:y∈[x,y,w]:=by simp
   have hw:w∈[x,y,w]:=by simp
   refine⟨.blk (hW x hx) (hW y hy) (hW w hw),?_⟩
   show(match args (out knL D) (wr D) [x,y,w] with | .inl f=>_ | .inr as=>_)=_
   unfold args
   rw[ar hx]
   unfold all9
   simp only [Apw,ApW]
   cases e1:out knL D x with
   | no f=>rfl
   | ok r =>
    dsimp only
    unfold args
    rw[ar hy]
    cases e2:out knL D y with
    | no f=>rfl
    | ok r2 =>
     dsimp only
     unfold args
     rw[ar hw]
     cases e3:out knL D w with
     | no f=>rfl
     | ok r3=>exact Anp
  ·cases hc
 ·rcases xs with _ | ⟨x,_ | ⟨y,xs⟩⟩
  ·cases hc
  ·have hx:x∈[x]:=by simp
   refine⟨.tile (hW x hx) ha hb,?_⟩
   show(match args (out knL D) (wr D) [x,.num a,.num b] with | .inl f=>_ | .inr as=>_)=_
   unfold args
   rw[ar hx]
   unfold all9
   simp only [Apw,ApW]
   cases e1:out knL D x with
   | no f=>rfl
   | ok r=>exact Ann
  ·cases hc
 ·rcases xs with _ | ⟨x,_ | ⟨y,xs⟩⟩
  ·cases hc
  ·exact one x rfl (.inl rfl)
  ·cases hc
 ·rcases xs with _ | ⟨x,_ | ⟨y,xs⟩⟩
  ·cases hc
  ·exact one x rfl (.inr (.inl rfl))
  ·cases hc
 ·rcases xs with _ | ⟨x,_ | ⟨y,xs⟩⟩
  ·cases hc
  ·exact one x rfl (.inr (.inr (.inl rfl)))
  ·cases hc
 ·rcases xs with _ | ⟨x,_ | ⟨y,xs⟩⟩
  ·cases hc
  ·exact one x rfl (.inr (.inr (.inr rfl)))
  ·cases hc
end K59
open K59 (s2 st knL dueS rowsR dueR w9 cnt nd9 sz9 mk9 res9 fst9 all9)
section
variable {P:Program}{w:World}{K:W.Frag}{mg:Str->Option Value}{base:Heap}{t:Adr}
def It9 (H:Hp)(v:V)(x:Nd)(d:Nat):Prop:=Wd d x/\∃ p l,v=.ref p/\H p=some (.tup [.str (tx (wr d x)),.ref l,.str (dueR (out knL d x)),.int (d:Int)])/\H l=some (.lst (vS (rowsR (out knL d x))))
theorem It9.same{H H':Hp}{v:V}{x:Nd}{d:Nat}(h:It9 H v x d)(s:Be H H'):It9 H' v x d:=by
 obtain⟨W,p,l,e,h1,h2⟩:=h
 exact⟨W,p,l,e,s _ _ h1,s _ _ h2⟩
def Akg:Sp:=λvs H Q _=>∃ c:Int,vs=[.int c]/\∀ p x H',Be H H'->It9 H' (.ref p) x 1->(wr 1 x).length<=40->Q (.ref p) H'
theorem Ag9:∀ n∈List.range 10,(dec n).length=1:=by decide +kernel
theorem QQ(T:Txt K mg t):Br P w K mg base CX0 2 t.SN t.SQ ["cell"] Akg:=by
 refine T.Hg.F.ok Fv (λvs H Q E h=>?_) (λcdv A outer s H vs Q E hr h=>?_)
 ·obtain⟨c,rfl,_⟩:=h
  rfl
 ·obtain⟨c,rfl,k⟩:=h
  refine⟨_,(Ac (Bh (i:=1) Fv.nd rfl (Or.inr rfl) (Ar Fy Ag (Ar Dz (Ar Fz (pv 0) Ag) Ag)))
   (Ac (Bh (i:=2) Fv.nd rfl (Or.inr rfl) (Ar Fy Ag (Ar Dz (Ar Fz (pv 0) Ag) Ag)))
   (Ac (Bj (Aj Cu (Ar Dz (pv 0) Ag) Ag (Am _))
    (Ac (Bh (i:=3) Fv.nd rfl (Or.inl rfl) (Aq ((AdC T).mono (by decide)) hr rfl T.U5.m T.U5.F.kp T.U5.b .nil Ak (Aa (Ar Fz (pv 0) Ag) (Aa (pv 1) (Aa (pv 2) Ab)))))
    (Ad (Av (DG (Aa (Ar Bg (Ar Bg Af (Dj (K:=K) F.plainAttrs_str F.slot_str_join F.type_str_join (Ed (K:=K)) Af (Aa (pv 3) Ab))) Af) (Aa (pv 3) (Aa Af (Aa Ag Ab))))))))
    An)
   (Ac (Bj (Aj Cu (Ar Dz (pv 0) Ag) Ag (Am _))
    (Ac (Bh (i:=4) Fv.nd rfl (Or.inl rfl) (Ar Bg (Ar Bg (Ar Bg (Ar Bg Af (Cm Di rfl T.Pb Jr (Aa (pv 1) Ab))) Af) (Cm Di rfl T.Pb Jr (Aa (pv 2) Ab))) Af))
    (Ac (AcU (i:=3) (Iu.mk (Bd:=[1,2]) (Nc:=["y", "a", "b"]) rfl rfl (by decide +kernel) (Cp (sc0:=Ah Ib) rfl (by decide +kernel)) rfl rfl rfl (by decide +kernel) (λk j h=>match k,h with | 0,h=>by obtain rfl:=Option.some.inj h;exact⟨_,rfl,rfl,rfl⟩ | 1,h=>by obtain rfl:=Option.some.inj h;exact⟨_,rfl,rfl,rfl⟩ | _+2,h=>by simp at h)) rfl Fv.nd rfl rfl (Dw rfl T.Ey (Aa (Ar Fy (pv 1) (pv 2)) Ab)) (λ_ _ _ _ _=>.nil) (λ_ _ _ _ _=>(Dj (K:=K) F.plainAttrs_str F.slot_str_join F.type_str_join (Ed (K:=K)) Af (Aa (Dl (CG.mk (Bd:=[0,1,2]) (Nc:=["x", "y", "a", "b"]) rfl (by decide +kernel) (by decide +kernel) (Yw (sc0:=Ah Ib) rfl (by decide +kernel)) rfl rfl rfl (by decide +kernel) (λk j h=>match k,h with | 0,h=>by obtain rfl:=Option.some.inj h;exact⟨_,rfl,rfl,rfl⟩ | 1,h=>by obtain rfl:=Option.some.inj h;exact⟨_,rfl,rfl,rfl⟩ | 2,h=>by obtain rfl:=Option.some.inj h;exact⟨_,rfl,rfl,rfl⟩ | _+3,h=>by simp at h)) rfl (Dw rfl T.Ey (Aa (Ar Fy (pv 1) (pv 2)) Ab)) (λ_ _ _ _ _=>.nil) (λ_ _ _ _ _=>(Bf Jo Af (Cm LC rfl T.Aba V0 (Aa (DX Kz (Ar Dz (Ar JS (pv 0) (pv 1)) (Ar Fy (pv 2) (pv 3))) (pv 2) (Am _)) Ab)) (λ_ _=>rfl)))) Ab))) rfl)
    (Ad (Av (DG (Aa (pv 4) (Aa (pv 3) (Aa Af (Aa Ag Ab)))))))))
    An)
   (Ac (Bj (Aj Cu (Ar Dz (pv 0) Ag) Ag (Am _))
    (Ac (Bh (i:=5) Fv.nd rfl (Or.inr rfl) (Bf (Ax (K:=K)) (BV (Aa Ag (Aa Ag (Aa Ag (Aa Ag Ab))))) (Ar JS (pv 1) Ag) (λ_ _=>rfl)))
    (Ac (AcU (i:=3) (Iu.mk (Bd:=[5]) (Nc:=["y", "size"]) rfl rfl (by decide +kernel) (Cp (sc0:=Ah Ib) rfl (by decide +kernel)) rfl rfl rfl (by decide +kernel) (λk j h=>match k,h with | 0,h=>by obtain rfl:=Option.some.inj h;exact⟨_,rfl,rfl,rfl⟩ | _+1,h=>by simp at h)) rfl Fv.nd rfl rfl (Dw rfl T.Ey (Aa (pv 5) Ab)) (λ_ _ _ _ _=>.nil) (λ_ _ _ _ _=>(Dj (K:=K) F.plainAttrs_str F.slot_str_join F.type_str_join (Ed (K:=K)) Af (Aa (Dl (CG.mk (Bd:=[0,1]) (Nc:=["x", "y", "size"]) rfl (by decide +kernel) (by decide +kernel) (Yw (sc0:=Ah Ib) rfl (by decide +kernel)) rfl rfl rfl (by decide +kernel) (λk j h=>match k,h with | 0,h=>by obtain rfl:=Option.some.inj h;exact⟨_,rfl,rfl,rfl⟩ | 1,h=>by obtain rfl:=Option.some.inj h;exact⟨_,rfl,rfl,rfl⟩ | _+2,h=>by simp at h)) rfl (Dw rfl T.Ey (Aa (pv 1) Ab)) (λ_ _ _ _ _=>.nil) (λ_ _ _ _ _=>(Bf Jo Af (Cm LC rfl T.Aba V0 (Aa (DX Cu (pv 0) (Ar Dz (Ar Gp (pv 1) (Ar JS (pv 2) Ag)) (pv 2)) (Am _)) Ab)) (λ_ _=>rfl)))) Ab))) rfl)
    (Ad (Av (DG (Aa (Ar Bg (Ar Bg (Ar Bg (Ar Bg Af (Cm Di rfl T.Pb Jr (Aa (pv 5) Ab))) Af) (Cm Di rfl T.Pb Jr (Aa (Ar JS (pv 5) Ag) Ab))) Af) (Aa (pv 3) (Aa Af (Aa Ag Ab)))))))))
    An)
   (Ac (Bj (Aj Cu (Ar Dz (Ar Fz (pv 0) Ag) Ag) Ag (Am _))
    (Ad (Av (DG (Aa (Hf Yq Af K4 (Hh (Ar Fy Ag (Ar Dz (Ar Fz (pv 0) Ag) Ag)))) (Aa (BV Ab) (Aa Af (Aa Ag Ab)))))))
    An)
   (Ad (Av (Bf (Ax (K:=K)) (BV (Aa (DG (Aa Af (Aa (BV (Aa Af (Aa Af Ab))) (Aa Af (Aa Ag Ab))))) (Aa (DG (Aa Af (Aa (BV (Aa Af (Aa Af (Aa Af Ab)))) (Aa Af (Aa Ag Ab))))) Ab))) (Ar Dz (Ar Fz (pv 0) Ag) Ag) (λ_ _=>rfl)))))))))),?_⟩
  have hsz:sizeLine=16777216:=sizeLine_eq
  obtain⟨a,ea,ha⟩:∃ a:Nat,c / 5%4=(a:Int)/\a<4:=⟨(c / 5%4).toNat,by lia,by lia⟩
  obtain⟨b,eb,hb⟩:∃ b:Nat,c / 20%4=(b:Int)/\b<4:=⟨(c / 20%4).toNat,by lia,by lia⟩
  refine⟨_,rfl,_,_,rfl,rfl,⟨by decide,by decide⟩,_,_,rfl,rfl,(by show(0:Int)<4;decide),_,_,rfl,rfl,?_⟩
  refine CK (v':=.int ((1+a:Nat):Int)) (congrArg V.int (by lia)) rfl ?_
  refine⟨_,rfl,_,_,rfl,rfl,⟨by decide,by decide⟩,_,_,rfl,rfl,(by show(0:Int)<4;decide),_,_,rfl,rfl,?_⟩
  refine CK (v':=.int ((1+b:Nat):Int)) (congrArg V.int (by lia)) rfl ?_
  have pa:=Ag9 (1+a) (List.mem_range.mpr (by lia))
  have pb:=Ag9 (1+b) (List.mem_range.mpr (by lia))
  refine⟨_,rfl,_,_,rfl,rfl,(by show(0:Int)<5;decide),rfl,_,rfl,?_⟩
  refine Dk (λc0=>?_) (λc0=>?_)
  ·refine⟨_,rfl,_,_,rfl,rfl,⟨by decide,by decide⟩,_,rfl,_,rfl,_,1+a,1+b,rfl,by lia,by lia,by lia,by lia,λl x H1 s1 nl hl C=>?_⟩
   refine CK rfl rfl ?_
   have R:=K59.AiE (d:=0) C.clo
   have xn:=C.hn
   have lc:(cj x).length<=19:=by
    have h:∀ x:List (List Nat),(∀ r∈x,r.length=1+a)->((x.map λy=>[44]++y).flatten).length=x.length*(2+a):=λx hx=>by
     induction x with
     | nil=>simp
     | cons r x ih =>
      rw[Apw,ApH,Aps,Aps,ih (λr hr=>hx r (Ap7 _ hr)),hx r Ap6]
      show 1+(1+a)+x.length*(2+a)=(x.length+1)*(2+a)
      rw[Nat.add_mul]
      lia
    cases x with
    | nil=>simp[cj]
    | cons r x =>
     unfold cj
     rw[Aps,C.hm r Ap6,h x (λr hr=>C.hm r (Ap7 _ hr))]
     rw[Apt] at xn
     have:x.length*(2+a)<=3*5:=Aqs (by lia) (by lia)
     lia
   have cl:=Ae0 x
   have ne:x≠[]:=λe=>by rw[e] at xn;simp at xn;lia
   have ej:Txt.join (tx [44]) (x.map tx)=tx (cj x):=by
    cases x with
    | nil=>exact absurd rfl ne
    | cons y ys=>exact Z6 [44] y ys
   have l5:(s2 "rows(").length=5:=by decide +kernel
   rw[st "rows(", Io,JQ]
   refine⟨rfl,_,rfl,_,_,x.map tx,rfl,rfl,SqL.of (by rw[hl,GQ]),(by rw[Ai,Apq];show _+_*1<=_;lia),?_⟩
   rw[ej]
   refine⟨_,_,rfl,rfl,(by rw[Ai,Ai];exact big (by lia)),?_⟩
   rw[CJ]
   refine⟨_,_,rfl,rfl,(by rw[Ai,Ai,Aps];exact big (by simp only [Apt,Apz];lia)),?_⟩
   rw[CJ]
   have ew:s2 "rows(" ++ cj x++[41]=wr 1 (.node Pat.Fq (x.map Nd.run)):=by
    rw[R.2.2]
    have:s2 "rows(" = Pat.Fq++[40]:=by decide +kernel
    rw[this]
    unfold wz
    simp
   rw[ew]
   refine⟨_,rfl,(by show 4<=sizeLine;decide),λp np=>?_⟩
   refine k p (.node Pat.Fq (x.map Nd.run)) _ (s1.new np) ⟨R.2.1,p,l,rfl,?_,?_⟩ ?_
   ·rw[R.1,Ae];rfl
   ·rw[R.1,Ao (Ay hl np)];exact hl
   ·rw[R.2.2,Ace]
    show 4+_+2<=40
    lia
  refine⟨_,rfl,_,_,rfl,rfl,(by show(0:Int)<5;decide),rfl,_,rfl,?_⟩
  have e0:(Str.ofString ".#")=tx [46,35]:=by decide +kernel
  refine Dk (λc1=>?_) (λc1=>?_)
  ·rw[st "twill(", Io,JQ,e0,Ku]
   have l6:(s2 "twill(").length=6:=by decide +kernel
   refine⟨_,rfl,_,rfl,lg (by lia),?_⟩
   rw[Js]
   refine⟨_,_,rfl,rfl,(by rw[Ai,Ai];exact big (by lia)),?_⟩
   rw[CJ]
   refine⟨_,_,rfl,rfl,(by rw[Ai,Ai,Aps];exact big (by simp only [Apt,Apz];lia)),?_⟩
   rw[CJ]
   refine⟨_,rfl,_,rfl,lg (by lia),?_⟩
   rw[Js]
   refine⟨_,_,rfl,rfl,(by rw[Ai,Ai];exact big (by simp only [Aps,Apt,Apz];lia)),?_⟩
   rw[CJ]
   refine⟨_,_,rfl,rfl,(by rw[Ai,Ai];exact big (by simp only [Aps,Apt,Apz];lia)),?_⟩
   rw[CJ]
   refine CK rfl rfl ?_
   have R:=K59.Ag7 (a:=1+a) (b:=1+b) (d:=0) (by lia) (by lia) (by lia) (by lia)
   refine⟨_,rfl,_,rfl,_,_,rfl,rfl,_,rfl,(by lia),(by lia),?_⟩
   rw[show(((1+a:Nat):Int)+((1+b:Nat):Int))=((1+a+(1+b):Nat):Int) by lia,Ap1]
   refine Ea (lo:=0) (n:=1+a+(1+b)) (λi ys H2=>Be H H2/\ys=vS ((List.range i).map (twT (1+a) (1+b)))) ⟨.refl _,rfl⟩ ?_ ?_ ?_ ?_
   ·rintro i ys H2 hi ⟨s2,rfl⟩
    rw[Ba,Apq,ApE]
    exact Apv _
   ·exact Bq (by lia)
   ·rintro i ys H2 hi ⟨s2,rfl⟩
    refine Dh.no ?_
    refine⟨rfl,_,rfl,_,rfl,_,_,rfl,rfl,_,rfl,(by lia),(by lia),?_⟩
    rw[show(((1+a:Nat):Int)+((1+b:Nat):Int))=((1+a+(1+b):Nat):Int) by lia,Ap1]
    refine Ea (lo:=0) (n:=1+a+(1+b)) (λj ys H3=>H3=H2/\ys=vS ((List.range j).map λx=>[twl (1+a) (1+b) i x])) ⟨rfl,rfl⟩ ?_ ?_ ?_ ?_
    ·rintro j ys H3 hj ⟨rfl,rfl⟩
     rw[Ba,Apq,ApE]
     exact Apv _
    ·exact Bq (by lia)
    ·rintro j ys H3 hj ⟨rfl,rfl⟩
     refine Dh.no ?_
     refine⟨_,rfl,_,rfl,_,_,rfl,rfl,_,rfl,_,rfl,_,_,rfl,rfl,_,_,rfl,rfl,(by lia),_,rfl,_,_,rfl,rfl,.inr ⟨_,rfl,?_⟩⟩
     refine⟨_,_,twl (1+a) (1+b) i j,rfl,rfl,(by rw[Ai];exact big (by decide)),?_,?_⟩
     ·rw[K59.AiF,K59.Akb (by lia),ApS,ApS]
     ·rw[Gr]
      refine CN.of hj ⟨rfl,?_⟩
      rw[CP,ApZ,Apx]
      rfl
    ·rintro ys H3 l ⟨rfl,rfl⟩ nl
     obtain⟨H4,e9,s3,h3⟩:=nu9 (o:=.lst (vS ((List.range (1+a+(1+b))).map λx=>[twl (1+a) (1+b) i x]))) s2 nl
     rw[e9]
     have e2:((List.range (1+a+(1+b))).map λx=>[twl (1+a) (1+b) i x]).flatten=twT (1+a) (1+b) i:=Om _ _
     have lt:(twT (1+a) (1+b) i).length<=8:=by unfold twT;rw[Apq,ApE];lia
     refine⟨_,_,(((List.range (1+a+(1+b))).map λx=>[twl (1+a) (1+b) i x]).map tx),rfl,rfl,SqL.of (by rw[h3,GQ]),(by rw[JP,e2,Ai,Apz,Aqi];lia),?_⟩
     rw[FN,e2]
     refine CN.of hi ⟨s3,?_⟩
     rw[CP,ApZ,Apx]
     rfl
   ·rintro ys H2 l ⟨s2,rfl⟩ nl
    refine CK rfl rfl ?_
    refine⟨_,rfl,_,rfl,(by show 4<=sizeLine;decide),λp np=>?_⟩
    have s3:=s2.new (o:=.lst (vS ((List.range (1+a+(1+b))).map (twT (1+a) (1+b))))) nl
    refine k p (.node twW [.num (1+a),.num (1+b)]) _ (s3.new np) ⟨R.2.1,p,l,rfl,?_,?_⟩ ?_
    ·rw[R.1,Ae,R.2.2]
     rw[show K59.s2 "twill(" = twW++[40] by decide +kernel]
     unfold wz cj
     simp[<- Ku,dueR]
    ·rw[R.1,Ao (Ay Ae np)];exact Ae
    ·rw[R.2.2]
     unfold wz cj
     simp[pa,pb,twW]
  refine⟨_,rfl,_,_,rfl,rfl,(by show(0:Int)<5;decide),rfl,_,rfl,?_⟩
  refine Dk (λc2=>?_) (λc2=>?_)
  ·rw[st "satin(", Io,JQ,e0,Ku]
   have l6:(s2 "satin(").length=6:=by decide +kernel
   refine⟨(by show 4<=sizeLine;decide),λq nq=>?_⟩
   obtain⟨H1,e9,s1,h1⟩:=nu9 (o:=.lst [.int 2,.int 3,.int 5,.int 7]) (.refl _) nq
   rw[e9]
   obtain⟨m,hm,em⟩:∃ m:Nat,(m=2\/m=3\/m=5\/m=7)/\([.int 2,.int 3,.int 5,.int 7]:List V)[a]?=some (.int (m:Int)):=by
    have:a=0\/a=1\/a=2\/a=3:=by lia
    rcases this with rfl | rfl | rfl | rfl
    ·exact⟨2,by lia,rfl⟩
    ·exact⟨3,by lia,rfl⟩
    ·exact⟨5,by lia,rfl⟩
    ·exact⟨7,by lia,rfl⟩
   have m7:2<=m/\m<=7:=by lia
   have pm:=Ag9 m (List.mem_range.mpr (by lia))
   have pn:=Ag9 (m-1) (List.mem_range.mpr (by lia))
   refine⟨_,rfl,_,_,rfl,rfl,q,_,_,.int (m:Int),rfl,rfl,SqL.of h1,?_,?_⟩
   ·rw[show((1+a:Nat):Int)-1=(a:Int) by lia]
    exact Cj (by lia) (by rw[Ap1];exact em)
   refine CK rfl rfl ?_
   have R:=K59.Ag8 (m:=m) (d:=0) hm
   refine⟨_,rfl,_,rfl,(by lia),(by lia),?_⟩
   rw[Ap1]
   refine Ea (lo:=0) (n:=m) (λi ys H2=>Be H H2/\ys=vS ((List.range i).map (saT m (m-1)))) ⟨s1,rfl⟩ ?_ ?_ ?_ ?_
   ·rintro i ys H2 hi ⟨s2,rfl⟩
    rw[Ba,Apq,ApE]
    exact Apv _
   ·exact Bq (by lia)
   ·rintro i ys H2 hi ⟨s2,rfl⟩
    refine Dh.no ?_
    refine⟨rfl,_,rfl,_,rfl,(by lia),(by lia),?_⟩
    rw[Ap1]
    refine Ea (lo:=0) (n:=m) (λj ys H3=>H3=H2/\ys=vS ((List.range j).map λx=>[if x=i*(m-1)%m then 35 else 46])) ⟨rfl,rfl⟩ ?_ ?_ ?_ ?_
    ·rintro j ys H3 hj ⟨rfl,rfl⟩
     rw[Ba,Apq,ApE]
     exact Apv _
    ·exact Bq (by lia)
    ·rintro j ys H3 hj ⟨rfl,rfl⟩
     refine Dh.no ?_
     refine⟨_,rfl,_,rfl,_,rfl,_,_,rfl,rfl,_,_,rfl,rfl,.inl ⟨by lia,by lia⟩,_,rfl,_,_,rfl,rfl,(by lia),rfl,.inr ⟨_,rfl,?_⟩⟩
     refine⟨_,_,(if j=i*(m-1)%m then 35 else 46),rfl,rfl,(by rw[Ai];exact big (by decide)),?_,?_⟩
     ·have e5:(V.int (0+(j:Int))=V.int ((0+(i:Int))*((m:Int)-1)%(m:Int)))↔j=i*(m-1)%m:=by
       rw[ApS,ApS,<- K59.Akc (by lia)]
       exact⟨λz=>by injection z with z;lia,λz=>by rw[z]⟩
      refine K59.AiF.trans ?_
      by_cases h:j=i*(m-1)%m
      ·rw[if_pos h,if_pos (e5.mpr h)]
      ·rw[if_neg h,if_neg (λz=>h (e5.mp z))]
     ·rw[Gr]
      refine CN.of hj ⟨rfl,?_⟩
      rw[CP,ApZ,Apx]
      rfl
    ·rintro ys H3 l ⟨rfl,rfl⟩ nl
     obtain⟨H4,e9,s3,h3⟩:=nu9 (o:=.lst (vS ((List.range m).map λx=>[if x=i*(m-1)%m then 35 else 46]))) s2 nl
     rw[e9]
     have e2:((List.range m).map λx=>[if x=i*(m-1)%m then 35 else 46]).flatten=saT m (m-1) i:=Om _ _
     have lt:(saT m (m-1) i).length<=8:=by unfold saT stT;rw[Apq,ApE];lia
     refine⟨_,_,(((List.range m).map λx=>[if x=i*(m-1)%m then 35 else 46]).map tx),rfl,rfl,SqL.of (by rw[h3,GQ]),(by rw[JP,e2,Ai,Apz,Aqi];lia),?_⟩
     rw[FN,e2]
     refine CN.of hi ⟨s3,?_⟩
     rw[CP,ApZ,Apx]
     rfl
   ·rintro ys H2 l ⟨s2,rfl⟩ nl
    refine CK rfl rfl ?_
    refine⟨_,rfl,_,rfl,lg (by lia),?_⟩
    rw[Js]
    refine⟨_,_,rfl,rfl,(by rw[Ai,Ai];exact big (by lia)),?_⟩
    rw[CJ]
    refine⟨_,_,rfl,rfl,(by rw[Ai,Ai,Aps];exact big (by simp only [Apt,Apz];lia)),?_⟩
    rw[CJ]
    refine⟨_,rfl,_,_,rfl,rfl,_,rfl,?_⟩
    rw[show(m:Int)-1=((m-1:Nat):Int) by lia]
    refine⟨lg (by lia),?_⟩
    rw[Js]
    refine⟨_,_,rfl,rfl,(by rw[Ai,Ai];exact big (by simp only [Aps,Apt,Apz];lia)),?_⟩
    rw[CJ]
    refine⟨_,_,rfl,rfl,(by rw[Ai,Ai];exact big (by simp only [Aps,Apt,Apz];lia)),?_⟩
    rw[CJ]
    refine⟨_,rfl,(by show 4<=sizeLine;decide),λp np=>?_⟩
    have s3:=s2.new (o:=.lst (vS ((List.range m).map (saT m (m-1))))) nl
    refine k p (.node saW [.num m,.num (m-1)]) _ (s3.new np) ⟨R.2.1,p,l,rfl,?_,?_⟩ ?_
    ·rw[R.1,Ae,R.2.2]
     rw[show K59.s2 "satin(" = saW++[40] by decide +kernel]
     unfold wz cj
     simp[<- Ku,dueR]
    ·rw[R.1,Ao (Ay Ae np)];exact Ae
    ·rw[R.2.2]
     unfold wz cj
     simp[pm,pn,saW]
  refine⟨_,rfl,_,_,rfl,rfl,⟨by decide,by decide⟩,_,_,rfl,rfl,(by show(0:Int)<8;decide),rfl,_,rfl,?_⟩
  refine Dk (λc3=>?_) (λc3=>?_)
  ·obtain⟨n,en,hn⟩:∃ n:Nat,c / 640%11=(n:Int)/\n<11:=⟨(c / 640%11).toNat,by lia,by lia⟩
   rw[st "nobodyknows"]
   refine⟨_,rfl,_,_,rfl,rfl,⟨by decide,by decide⟩,_,_,rfl,rfl,(by show(0:Int)<11;decide),_,_,rfl,rfl,?_⟩
   have N:=K59.Akd n (List.mem_range.mpr hn)
   have nl:(s2 "nobodyknows").length=11:=by decide +kernel
   refine⟨_,rfl,_,rfl,(by rw[nl];exact big (by decide)),?_⟩
   rw[show(1+c / 640%11:Int)=((1+n:Nat):Int) by lia,Ahg (by rw[nl];lia)]
   refine⟨Ap8 _,λl nl0=>⟨(by show 4<=sizeLine;decide),λp np=>?_⟩⟩
   have U:=K59.Ake (d:=0) N.1 N.2.1 N.2.2
   refine k p (.nam ((s2 "nobodyknows").take (1+n))) _ ((Be.upd nl0).new np) ⟨U.2.1,p,l,rfl,?_,?_⟩ ?_
   ·rw[U.1,U.2.2,Ae];rfl
   ·rw[U.1,Ao (Ay Ae np)];exact Ae
   ·rw[U.2.2,Ap2];lia
  rw[K59.vvE,K59.vwE,K59.rE1,K59.rE2,K59.rE3,K59.rE4,K59.rE5]
  have step:∀{G G':Hp} {o:HO} {a:Addr},Be G G'->G' a=none->∃ G2,upd G' a o=G2/\Be G G2/\Be G' G2/\G2 a=some o:=λs n=>⟨_,rfl,s.new n,.upd n,Ae⟩
  refine⟨(by show 2<=sizeLine;decide),λl1 n1=>?_⟩
  obtain⟨H1,e,s1,_,h1⟩:=step (o:=.lst [V.str (tx [35,35,46]),V.str (tx [46,35,46])]) (Be.refl H) n1
  rw[e]
  refine⟨(by show 4<=sizeLine;decide),λp1 np1=>?_⟩
  obtain⟨H2,e,s2,t2,h2⟩:=step (o:=.tup [V.str (tx [118,118]),V.ref l1,V.str (Str.ofString ""),V.int 1]) s1 np1
  rw[e]
  refine⟨(by show 3<=sizeLine;decide),λl2 n2=>?_⟩
  obtain⟨H3,e,s3,t3,h3⟩:=step (o:=.lst [V.str (tx [35,46]),V.str (tx [46,35]),V.str (tx [35,35])]) s2 n2
  rw[e]
  refine⟨(by show 4<=sizeLine;decide),λp2 np2=>?_⟩
  obtain⟨H4,e,s4,t4,h4⟩:=step (o:=.tup [V.str (tx [118,119]),V.ref l2,V.str (Str.ofString ""),V.int 1]) s3 np2
  rw[e]
  refine⟨(by show 2<=sizeLine;decide),λq nq=>?_⟩
  obtain⟨H5,e,s5,t5,h5⟩:=step (o:=.lst [.ref p1,.ref p2]) s4 nq
  rw[e]
  refine⟨_,rfl,_,_,rfl,rfl,⟨by decide,by decide⟩,_,_,rfl,rfl,(by show(0:Int)<2;decide),?_⟩
  have K1:=K59.AiG _ (Ap6 (a:=([118,118],[[35,35,46],[46,35,46]])) (l:=[([118,119],[[35,46],[46,35],[35,35]])]))
  have K2:=K59.AiG ([118,119],[[35,46],[46,35],[35,35]]) (Ap7 _ Ap6)
  have hc:c / 5%2=0\/c / 5%2=1:=by lia
  rcases hc with hc | hc
  ·refine⟨q,_,_,.ref p1,rfl,rfl,SqL.of h5,(by rw[hc];exact Cj (by decide) rfl),k p1 (.nam [118,118]) H5 s5 ⟨K1.2.1,p1,l1,rfl,?_,?_⟩ (by decide)⟩
   ·rw[K1.1];exact t5 _ _ (t4 _ _ (t3 _ _ h2))
   ·rw[K1.1];exact t5 _ _ (t4 _ _ (t3 _ _ (t2 _ _ h1)))
  ·refine⟨q,_,_,.ref p2,rfl,rfl,SqL.of h5,(by rw[hc];exact Cj (by decide) rfl),k p2 (.nam [118,119]) H5 s5 ⟨K2.2.1,p2,l2,rfl,?_,?_⟩ (by decide)⟩
   ·rw[K2.1];exact t5 _ _ h4
   ·rw[K2.1];exact t5 _ _ (t4 _ _ h3)
def Cs9 (K:W.Frag)(H:Hp)(v:Addr)(cs:List (List (List Nat))):Prop:=∃ ls:List Addr,SqL K H v (ls.map .ref)/\ls.length=cs.length/\(∀(i:Nat) (l:Addr) (x:List (List Nat)),ls[i]?=some l->cs[i]?=some x->H l=some (.lst (vS x)))/\∀ x∈cs,Clo x
def AiI (K:W.Frag):Sp:=λvs H Q _=>∃(z:List Nat) (v:Addr) (cs:List (List (List Nat))) (a b:Nat),vs=[.str (tx z),.ref v,.int (a:Int),.int (b:Int)]/\z∈w9/\cs.length=cnt z/\a<4/\b<4/\Cs9 K H v cs/\∀ p H',Be H H'->H' p=some (.tup [.int ((sz9 z cs a b).1:Int),.int ((sz9 z cs a b).2.1:Int),.bl (sz9 z cs a b).2.2])->Q (.ref p) H'
theorem Acq(T:Txt K mg t):Br P w K mg base CX0 1 t.WN t.WQ ["word", "cloths", "a", "b"] (AiI K):=by
 refine T.Rk.F.ok Hx (λvs H Q E h=>?_) (λcdv A outer s H vs Q E hr h=>?_)
 ·obtain⟨z,v,cs,a,b,rfl,_⟩:=h
  rfl
 ·obtain⟨z,v,cs,a,b,rfl,hz,hc,ha,hb,⟨ls,hS,hl,hR',hC⟩,k⟩:=h
  have hR:∀(i:Nat) (l:Addr) (x:List (List Nat)),ls[i]?=some l->cs[i]?=some x->SqL K H l (vS x):=λi l x h1 h2=>SqL.of (hR' i l x h1 h2)
  refine⟨_,(Ac (Bh (i:=4) Hx.nd rfl (Or.inl rfl) (Az Bo rfl T.Cr Bs (Aa (Bf (Ax (K:=K)) (Bf (Ax (K:=K)) (pv 1) (Ac5 XM Ag) (λ_ _=>rfl)) Ag (λ_ _=>rfl)) Ab)))
   (Ac (Bh (i:=5) Hx.nd rfl (Or.inl rfl) (Az (Bb (K:=K)) rfl T.Cr Bs (Aa (Bf (Ax (K:=K)) (pv 1) (Ac5 XM Ag) (λ_ _=>rfl)) Ab)))
   (Ac (Bj (Aj Cu (pv 0) Af (Am _))
    (Ad (Av (DG (Aa (Ar Gp (pv 2) (pv 4)) (Aa (Ar Gp (pv 3) (pv 5)) (Aa (Lk (DX Ht (pv 2) Ag (Am _)) (PN (DX Ht (pv 3) Ag (Am _)))) Ab))))))
    An)
   (Ac (Bj (Aj (AdT (K:=K)) (pv 0) (BV (Aa Af (Aa Af (Aa Af Ab)))) rfl)
    (Ad (Av (DG (Aa (pv 4) (Aa (pv 5) (Aa PL Ab))))))
    An)
   (Ac (Bj (Aj Cu (pv 0) Af (Am _))
    (Ad (Av (DG (Aa (pv 5) (Aa (pv 4) (Aa PL Ab))))))
    An)
   (Ac (Bh (i:=6) Hx.nd rfl (Or.inl rfl) (DX Cu (Az Bo rfl T.Cr Bs (Aa (Bf (Ax (K:=K)) (Bf (Ax (K:=K)) (pv 1) (Ac5 XM Ag) (λ_ _=>rfl)) Ag (λ_ _=>rfl)) Ab)) (pv 4) (Am _)))
   (Ac (Bh (i:=7) Hx.nd rfl (Or.inl rfl) (DX Cu (Az (Bb (K:=K)) rfl T.Cr Bs (Aa (Bf (Ax (K:=K)) (pv 1) (Ac5 XM Ag) (λ_ _=>rfl)) Ab)) (pv 5) (Am _)))
   (Ac (Bj (Aj Cu (pv 0) Af (Am _))
    (Ad (Av (DG (Aa (Ar Fy (Az Bo rfl T.Cr Bs (Aa (Bf (Ax (K:=K)) (Bf (Ax (K:=K)) (pv 1) Ag (λ_ _=>rfl)) Ag (λ_ _=>rfl)) Ab)) (pv 4)) (Aa (pv 5) (Aa (pv 7) Ab))))))
    An)
   (Ac (Bj (Aj Cu (pv 0) Af (Am _))
    (Ad (Av (DG (Aa (pv 4) (Aa (Ar Fy (Az (Bb (K:=K)) rfl T.Cr Bs (Aa (Bf (Ax (K:=K)) (pv 1) Ag (λ_ _=>rfl)) Ab)) (pv 5)) (Aa (pv 6) Ab))))))
    An)
   (Ac (Bj (Aj Cu (pv 0) Af (Am _))
    (Ad (Av (DG (Aa (Ar Gp Ag (pv 4)) (Aa (Ar Gp Ag (pv 5)) (Aa (Lk (pv 6) (PN (pv 7))) Ab))))))
    An)
   (Ad (Av (DG (Aa (Ar Gp (Az Bo rfl T.Cr Bs (Aa (Bf (Ax (K:=K)) (Bf (Ax (K:=K)) (pv 1) Ag (λ_ _=>rfl)) Ag (λ_ _=>rfl)) Ab)) (pv 4)) (Aa (Ar Gp (Az (Bb (K:=K)) rfl T.Cr Bs (Aa (Bf (Ax (K:=K)) (pv 1) Ag (λ_ _=>rfl)) Ab)) (pv 5)) (Aa (Lk (pv 6) (PN (pv 7))) Ab)))))))))))))))),?_⟩
  have hsz:sizeLine=16777216:=sizeLine_eq
  have fin:∀{G:Hp} {x y:Nat} {f:Bool},Be H G->sz9 z cs a b=(x,y,f)->3<=sizeLine/\∀ p,G p=none->Q (.ref p) (upd G p (.tup [.int (x:Int),.int (y:Int),.bl f])):=λs e=>⟨by decide,λp np=>k p _ (s.new np) (by rw[Ae,e])⟩
  have fin2:∀{G:Hp} {x y:Nat} {f g:Bool} {i j:Int},Be H G->sz9 z cs a b=(x,y,f)->i=(x:Int)->j=(y:Int)->g=f->3<=sizeLine/\∀ p,G p=none->Q (.ref p) (upd G p (.tup [.int i,.int j,.bl g])):=λs e e1 e2 e3=>by rw[e1,e2,e3];exact fin s e
  obtain⟨l,y,h1,h2,Cy,sh⟩:∃ l y,atI (ls.map V.ref) (-1)=some (.ref l)/\SqL K H l (vS y)/\Clo y/\((z∈[tiW,miW,upW,baW,quW]/\cs=[y])\/(∃ l0 x,z∈[beW,abW,laW]/\cs=[x,y]/\ls=[l0,l])\/(∃ l0 l1 w x,z=blW/\cs=[w,x,y]/\ls=[l0,l1,l])):=by
   rcases K59.shape hz hc with ⟨h,y,rfl⟩ | ⟨h,x,y,rfl⟩ | ⟨h,v,x,y,rfl⟩
   ·match ls,hl with
    | [l],_=>exact⟨l,y,rfl,hR 0 _ _ rfl rfl,hC y (by simp),.inl ⟨h,rfl⟩⟩
   ·match ls,hl with
    | [l0,l],_=>exact⟨l,y,rfl,hR 1 _ _ rfl rfl,hC y (by simp),.inr (.inl ⟨l0,x,h,rfl,rfl⟩)⟩
   ·match ls,hl with
    | [l0,l1,l],_=>exact⟨l,y,rfl,hR 2 _ _ rfl rfl,hC y (by simp),.inr (.inr ⟨l0,l1,v,x,h,rfl,rfl⟩)⟩
  obtain⟨u,hu,ul⟩:=Cy.at Cy.n1
  have m40:=Cy.m40
  have n40:=Cy.n40
  refine⟨_,rfl,_,rfl,v,_,-1,_,rfl,rfl,hS,h1,l,_,_,_,rfl,rfl,h2,HS (i:=0) hu,_,rfl,(by rw[Ai,ul];exact Bq m40),?_⟩
  rw[Ai,ul]
  refine CK rfl rfl ?_
  refine⟨_,rfl,_,rfl,v,_,-1,_,rfl,rfl,hS,h1,_,_,rfl,.inl h2,?_⟩
  rw[Ba]
  refine CK rfl rfl ?_
  rw[Rn,Vl,Vm,Vn,Acl,Vj,Vk,XC]
  refine⟨_,rfl,rfl,_,rfl,?_⟩
  by_cases c1:z=tiW
  ·refine Ec (by rw[c1]) ?_
   rcases sh with ⟨_,rfl⟩ | ⟨_,_,h,_⟩ | ⟨_,_,_,_,h,_⟩
   ·subst c1
    refine⟨_,rfl,_,rfl,_,_,rfl,rfl,.inl ⟨by lia,by lia⟩,_,rfl,_,rfl,_,_,rfl,rfl,.inl ⟨by lia,by lia⟩,_,rfl,_,_,rfl,rfl,_,rfl,?_⟩
    refine Dk (λh=>⟨_,rfl,_,_,rfl,rfl,?_⟩) (λh=>?_)
    ·exact fin2 (.refl _) K59.Ak4 (ApL _ _).symm (ApL _ _).symm (decide_eq_decide.mpr (by lia))
    ·exact fin2 (.refl _) K59.Ak4 (ApL _ _).symm (ApL _ _).symm (decide_eq_false (by lia)).symm
   ·exact absurd (c1▸h) (by decide)
   ·exact absurd (c1▸h) (by decide)
  refine Dc (Gk c1) ?_
  refine⟨_,rfl,(by show 3<=sizeLine;decide),λq nq=>?_⟩
  obtain⟨H1,e9,s1,q1⟩:=nu9 (o:=.lst [.str (tx miW),.str (tx upW),.str (tx baW)]) (.refl _) nq
  rw[e9]
  refine⟨q,_,rfl,.inl (SqL.of q1),rfl,rfl,_,rfl,?_⟩
  have ei:inV (V.str (tx z)) [.str (tx miW),.str (tx upW),.str (tx baW)]=decide (z∈[miW,upW,baW]):=in_words z [miW,upW,baW]
  rw[if_neg (show ¬(false=true) from λz=>nomatch z),ei]
  refine Dk (λc2=>?_) (λc2=>?_)
  ·rcases sh with ⟨_,rfl⟩ | ⟨_,_,h,_⟩ | ⟨_,_,_,_,h,_⟩
   ·exact⟨_,rfl,_,rfl,fin s1 (K59.Ani c2)⟩
   ·simp only [ApA,ApB,or_false] at c2
    rcases c2 with rfl | rfl | rfl <;> exact absurd h (by decide)
   ·subst h
    exact absurd c2 (by decide)
  refine⟨_,rfl,rfl,_,rfl,?_⟩
  by_cases c3:z=quW
  ·refine Ec (by rw[c3]) ?_
   rcases sh with ⟨_,rfl⟩ | ⟨_,_,h,_⟩ | ⟨_,_,_,_,h,_⟩
   ·subst c3
    exact⟨_,rfl,_,rfl,fin s1 K59.Anj⟩
   ·exact absurd (c3▸h) (by decide)
   ·exact absurd (c3▸h) (by decide)
  refine Dc (Gk c3) ?_
  have eb:∀{i j:Nat},decide ((V.int (i:Int):V)=V.int (j:Int))=decide (i=j):=λ{i j}=>decide_eq_decide.mpr ⟨λz=>by injection z with z;lia,λz=>by rw[z]⟩
  obtain⟨l1,x,g1,g2,Cx⟩:∃ l1 x,atI (ls.map V.ref) (-2)=some (.ref l1)/\SqL K H l1 (vS x)/\Clo x/\((z∈[beW,abW,laW]/\cs=[x,y]/\ls=[l1,l])\/(∃ l0 w,z=blW/\cs=[w,x,y]/\ls=[l0,l1,l])):=by
   rcases sh with ⟨h,_⟩ | ⟨l0,x,h,rfl,rfl⟩ | ⟨l0,l1,w,x,h,rfl,rfl⟩
   ·simp only [ApA,ApB,or_false] at h c2
    rcases h with h | h | h | h | h
    ·exact absurd h c1
    ·exact absurd (.inl h) c2
    ·exact absurd (.inr (.inl h)) c2
    ·exact absurd (.inr (.inr h)) c2
    ·exact absurd h c3
   ·exact⟨l0,x,rfl,hR 0 _ _ rfl rfl,hC x (by simp),.inl ⟨h,rfl,rfl⟩⟩
   ·exact⟨l1,x,rfl,hR 1 _ _ rfl rfl,hC x (by simp),.inr ⟨l0,w,h,rfl,rfl⟩⟩
  obtain⟨Cx,sh2⟩:=Cx
  obtain⟨u1,hu1,ul1⟩:=Cx.at Cx.n1
  have Ky:=Cx.m40
  have Apm:=Cx.n40
  refine⟨_,rfl,_,rfl,v,_,-2,_,rfl,rfl,s1.seq hS,g1,l1,_,_,_,rfl,rfl,s1.seq g2,HS (i:=0) hu1,_,rfl,(by rw[Ai,ul1];exact Bq Ky),?_⟩
  rw[Ai,ul1]
  refine⟨_,rfl,rfl,?_⟩
  rw[eb]
  refine CK rfl rfl ?_
  refine⟨_,rfl,_,rfl,v,_,-2,_,rfl,rfl,s1.seq hS,g1,_,_,rfl,.inl (s1.seq g2),?_⟩
  rw[Ba]
  refine⟨_,rfl,rfl,?_⟩
  rw[eb]
  refine CK rfl rfl ?_
  refine⟨_,rfl,rfl,_,rfl,?_⟩
  by_cases c4:z=beW
  ·refine Ec (by rw[c4]) ?_
   rcases sh2 with ⟨_,rfl,rfl⟩ | ⟨_,_,h,_⟩
   ·subst c4
    refine⟨_,rfl,v,_,0,_,rfl,rfl,s1.seq hS,rfl,l1,_,_,_,rfl,rfl,s1.seq g2,HS (i:=0) hu1,_,rfl,(by rw[Ai,ul1];exact Bq Ky),?_⟩
    rw[Ai,ul1]
    refine⟨_,rfl,_,_,rfl,rfl,_,rfl,_,rfl,?_⟩
    exact fin s1 K59.Ank
   ·exact absurd (c4▸h) (by decide)
  refine Dc (Gk c4) ?_
  refine⟨_,rfl,rfl,_,rfl,?_⟩
  by_cases c5:z=abW
  ·refine Ec (by rw[c5]) ?_
   rcases sh2 with ⟨_,rfl,rfl⟩ | ⟨_,_,h,_⟩
   ·subst c5
    refine⟨_,rfl,_,rfl,v,_,0,_,rfl,rfl,s1.seq hS,rfl,_,_,rfl,.inl (s1.seq g2),?_⟩
    rw[Ba]
    refine⟨_,rfl,_,_,rfl,rfl,_,rfl,?_⟩
    exact fin s1 K59.Anl
   ·exact absurd (c5▸h) (by decide)
  refine Dc (Gk c5) ?_
  refine⟨_,rfl,rfl,_,rfl,?_⟩
  by_cases c6:z=laW
  ·refine Ec (by rw[c6]) ?_
   rcases sh2 with ⟨_,rfl,rfl⟩ | ⟨_,_,h,_⟩
   ·subst c6
    refine⟨_,rfl,_,_,rfl,rfl,.inl ⟨by decide,by decide⟩,_,rfl,_,_,rfl,rfl,.inl ⟨by decide,by decide⟩,_,rfl,_,rfl,?_⟩
    refine Dk (λh=>⟨_,rfl,?_⟩) (λh=>?_)
    ·exact fin s1 (by rw[K59.Ak5];congr 2;exact decide_eq_decide.mpr (by lia))
    ·exact fin s1 (by rw[K59.Ak5];congr 2;exact decide_eq_false (by lia))
   ·exact absurd (c6▸h) (by decide)
  refine Dc (Gk c6) ?_
  rcases sh2 with ⟨h,_⟩ | ⟨l0,w0,h,rfl,rfl⟩
  ·simp only [ApA,ApB,or_false] at h
   rcases h with h | h | h
   ·exact absurd h c4
   ·exact absurd h c5
   ·exact absurd h c6
  ·subst h
   have Cw:=hC w0 (by simp)
   obtain⟨u2,hu2,ul2⟩:=Cw.at Cw.n1
   have Aoq:=Cw.m40
   have Apn:=Cw.n40
   have g0:=hR 0 _ _ rfl rfl
   refine⟨_,rfl,v,_,0,_,rfl,rfl,s1.seq hS,rfl,l0,_,_,_,rfl,rfl,s1.seq g0,HS (i:=0) hu2,_,rfl,(by rw[Ai,ul2];exact Bq Aoq),?_⟩
   rw[Ai,ul2]
   refine⟨_,rfl,_,_,rfl,rfl,.inl ⟨by lia,by lia⟩,?_⟩
   refine⟨_,rfl,v,_,0,_,rfl,rfl,s1.seq hS,rfl,_,_,rfl,.inl (s1.seq g0),?_⟩
   rw[Ba]
   refine⟨_,rfl,_,_,rfl,rfl,.inl ⟨by lia,by lia⟩,?_⟩
   refine⟨_,rfl,_,rfl,?_⟩
   refine Dk (λh=>⟨_,rfl,?_⟩) (λh=>?_)
   ·exact fin2 s1 K59.Ak6 (ApL _ _).symm (ApL _ _).symm (decide_eq_decide.mpr (by lia))
   ·exact fin2 s1 K59.Ak6 (ApL _ _).symm (ApL _ _).symm (decide_eq_false (by lia)).symm
def Akh (K:W.Frag):Sp:=λvs H Q _=>∃(z:List Nat) (v:Addr) (cs:List (List (List Nat))) (a b:Nat),vs=[.str (tx z),.ref v,.int (a:Int),.int (b:Int)]/\z∈w9/\cs.length=cnt z/\a<4/\b<4/\Cs9 K H v cs/\(sz9 z cs a b).2.2=true/\∀ l H',Be H H'->H' l=some (.lst (vS (mk9 z cs a b)))->Q (.ref l) H'
theorem AdE(T:Txt K mg t):Br P w K mg base CX0 3 t.Za t.Zb ["word", "cloths", "a", "b"] (Akh K):=by
 refine T.U7.F.ok Adi (λvs H Q E h=>?_) (λcdv A outer s H vs Q E hr h=>?_)
 ·obtain⟨z,v,cs,a,b,rfl,_⟩:=h
  rfl
 ·obtain⟨z,v,cs,a,b,rfl,hz,hc,ha,hb,⟨ls,hS,hl,hR,hC⟩,hf,k⟩:=h
  refine⟨_,(Ac (Bj (Aj Cu (pv 0) Af (Am _))
    (Ad (Av (Ar Abt (Dl (CG.mk (Bd:=[2]) (Nc:=["row", "a"]) rfl (by decide +kernel) (by decide +kernel) (Cp (sc0:=Ah NB) rfl (by decide +kernel)) rfl rfl rfl (by decide +kernel) (λk j h=>match k,h with | 0,h=>by obtain rfl:=Option.some.inj h;exact⟨_,rfl,rfl,rfl⟩ | _+1,h=>by simp at h)) rfl (CV (K:=K) (Bf (Ax (K:=K)) (pv 1) Ag (λ_ _=>rfl))) (λ_ _ _ _ _=>.nil) (λ_ _ _ _ _=>(Ar K6 (pv 0) (pv 1)))) (pv 3))))
    An)
   (Ac (Bj (Aj Cu (pv 0) Af (Am _))
    (Ad (Av (Dl (CG.mk (Bd:=[1]) (Nc:=["j", "cloths"]) rfl (by decide +kernel) (by decide +kernel) (Cp (sc0:=Ah NB) rfl (by decide +kernel)) rfl rfl rfl (by decide +kernel) (λk j h=>match k,h with | 0,h=>by obtain rfl:=Option.some.inj h;exact⟨_,rfl,rfl,rfl⟩ | _+1,h=>by simp at h)) rfl (Dw rfl T.Ey (Aa (Az (Bb (K:=K)) rfl T.Cr Bs (Aa (Bf (Ax (K:=K)) (pv 1) Ag (λ_ _=>rfl)) Ab)) Ab)) (λ_ _ _ _ _=>.nil) (λ_ _ _ _ _=>(Ar Bg (Bf (Ax (K:=K)) (Bf (Ax (K:=K)) (pv 1) Ag (λ_ _=>rfl)) (pv 0) (λ_ _=>rfl)) (Bf (Ax (K:=K)) (Bf (Ax (K:=K)) (pv 1) Ag (λ_ _=>rfl)) (pv 0) (λ_ _=>rfl)))))))
    An)
   (Ac (Bj (Aj Cu (pv 0) Af (Am _))
    (Ad (Av (Ar XX (Bf (Ax (K:=K)) (pv 1) Ag (λ_ _=>rfl)) (Bf (Ax (K:=K)) (pv 1) Ag (λ_ _=>rfl)))))
    An)
   (Ac (Bj (Aj Cu (pv 0) Af (Am _))
    (Ad (Av (Aq ((AdD T).mono (by decide)) hr rfl T.U6.m T.U6.F.kp T.U6.b .nil Ak (Aa (Bf (Ax (K:=K)) (pv 1) Ag (λ_ _=>rfl)) (Aa (Bf (Ax (K:=K)) (pv 1) Ag (λ_ _=>rfl)) Ab)))))
    An)
   (Ac (Bj (Aj Cu (pv 0) Af (Am _))
    (Ad (Av (Aq ((Aa2 T).mono (by decide)) hr rfl T.Og.m T.Og.F.kp T.Og.b .nil Ak (Aa (Bf (Ax (K:=K)) (pv 1) Ag (λ_ _=>rfl)) (Aa (Bf (Ax (K:=K)) (pv 1) Ag (λ_ _=>rfl)) (Aa (Bf (Ax (K:=K)) (pv 1) Ag (λ_ _=>rfl)) Ab))))))
    An)
   (Ad (Av (Aq ((Aa1 T).mono (by decide)) hr rfl T.Oe.m T.Oe.F.kp T.Oe.b .nil Ak (Aa (pv 0) (Aa (Bf (Ax (K:=K)) (pv 1) Ag (λ_ _=>rfl)) Ab)))))))))),?_⟩
  have hsz:sizeLine=16777216:=sizeLine_eq
  have one:∀{y:List (List Nat)},cs=[y]->∃ l,ls=[l]/\H l=some (.lst (vS y))/\Clo y:=λ{y} e=>by
   subst e
   match ls,hl with
   | [l],_=>exact⟨l,rfl,hR 0 _ _ rfl rfl,hC y (by simp)⟩
  have two:∀{x y:List (List Nat)},cs=[x,y]->∃ l m,ls=[l,m]/\H l=some (.lst (vS x))/\Clo x/\H m=some (.lst (vS y))/\Clo y:=λ{x y} e=>by
   subst e
   match ls,hl with
   | [l,m],_=>exact⟨l,m,rfl,hR 0 _ _ rfl rfl,hC x (by simp),hR 1 _ _ rfl rfl,hC y (by simp)⟩
  rw[Rn,Vj,Vk,XC,Acm]
  refine⟨_,rfl,rfl,_,rfl,?_⟩
  have sh:=K59.shape hz hc
  by_cases c1:z=tiW
  ·refine Ec (by rw[c1]) ?_
   rcases sh with ⟨_,y,rfl⟩ | ⟨h,_⟩ | ⟨h,_⟩
   ·subst c1
    obtain⟨l,rfl,g,C⟩:=one rfl
    have x40:=C.n40
    have Ky:=C.m40
    refine⟨_,rfl,v,_,0,_,rfl,rfl,hS,rfl,_,rfl,⟨_,SqL.of g⟩,DY (K:=K) (a:=l) (xs:=vS y) (λi ys H2=>H2=H/\ys=vS (wid (y.take i) a)) ⟨rfl,rfl⟩ ?_ ?_ ?_ ?_⟩
    ·rintro i ys H2 hi ⟨rfl,rfl⟩
     refine⟨SqL.of g,?_⟩
     unfold wid
     rw[Ba,Apq,Ap2]
     lia
    ·rw[Ba];exact Bq x40
    ·rintro i xv ys H2 hi hx ⟨rfl,rfl⟩
     obtain⟨u,hu,rfl⟩:=GP hx
     have hul:=C.hm u (ApD hu)
     refine Dh.no ?_
     have:u.length*a<=40*4:=Aqs (by lia) (by lia)
     refine⟨_,rfl,_,rfl,_,_,rfl,rfl,(by lia),(by lia),(by rw[Ap1];lia),?_⟩
     rw[Ap1]
     refine CN.of hi ⟨rfl,?_⟩
     unfold wid
     rw[CP,Ap4,hu,Apx]
     rfl
    ·rintro ys H2 l2 ⟨rfl,rfl⟩ nl
     rw[Ba,ApJ]
     obtain⟨H4,e9,s3,h3⟩:=nu9 (o:=.lst (vS (wid y a))) (.refl _) nl
     rw[e9]
     have:y.length*b<=40*4:=Aqs (by lia) (by lia)
     refine⟨_,rfl,_,_,_,rfl,rfl,h3,(by lia),(by lia),(by rw[Ba];unfold wid;rw[Apq,Ap1];lia),λp np=>?_⟩
     refine k p _ (s3.new np) ?_
     rw[Ae,Ap1]
     show _=some (HO.lst (vS (til y a b)))
     unfold til
     rw[Ae4]
   ·exact absurd (c1▸h) (by decide)
   ·exact absurd (c1▸h) (by decide)
  refine Dc (Gk c1) ?_
  refine⟨_,rfl,rfl,_,rfl,?_⟩
  by_cases c4:z=beW
  ·refine Ec (by rw[c4]) ?_
   rcases sh with ⟨h,_⟩ | ⟨_,x,y,rfl⟩ | ⟨h,_⟩
   ·exact absurd (c4▸h) (by decide)
   ·subst c4
    obtain⟨l,m,rfl,g1,C,g2,D⟩:=two rfl
    have x40:=C.n40
    have Ky:=C.m40
    have Aon:=D.m40
    have hh:x.length=y.length:=of_decide_eq_true hf
    have zl:(List.zipWith (·++·) x y).length=x.length:=by rw[AqN,<- hh,Aqb]
    refine⟨_,rfl,v,_,0,_,rfl,rfl,hS,rfl,_,_,rfl,.inl (SqL.of g1),_,rfl,(by lia),(by rw[Ba];lia),?_⟩
    rw[Ba,Ap1]
    refine Ea (lo:=0) (n:=x.length) (λi ys H2=>H2=H/\ys=vS ((List.zipWith (·++·) x y).take i)) ⟨rfl,rfl⟩ ?_ ?_ ?_ ?_
    ·rintro i ys H2 hi ⟨rfl,rfl⟩
     rw[Ba,Ap2]
     lia
    ·exact Bq x40
    ·rintro i ys H2 hi ⟨rfl,rfl⟩
     refine Dh.no ?_
     have hi2:i<y.length:=by lia
     have l1:=C.hm _ (ApI hi)
     have l2:=D.hm _ (ApI hi2)
     refine⟨_,rfl,v,_,0,_,rfl,rfl,hS,rfl,_,rfl,l,_,_,_,rfl,rfl,SqL.of g1,(by rw[ApS];exact HS (Apu hi)),?_⟩
     refine⟨_,rfl,v,_,1,_,rfl,rfl,hS,rfl,_,rfl,m,_,_,_,rfl,rfl,SqL.of g2,(by rw[ApS];exact HS (Apu hi2)),?_⟩
     refine⟨_,_,rfl,rfl,(by rw[Ai,Ai];exact big (by lia)),?_⟩
     rw[CJ]
     refine CN.of hi ⟨rfl,?_⟩
     rw[CP,Ap4,List.getElem?_zipWith,Apu hi,Apu hi2]
     rfl
    ·rintro ys H2 p ⟨rfl,rfl⟩ np
     rw[ApP (by rw[zl];exact Apv _)]
     exact k p _ (.upd np) Ae
   ·exact absurd (c4▸h) (by decide)
  refine Dc (Gk c4) ?_
  refine⟨_,rfl,rfl,_,rfl,?_⟩
  by_cases c5:z=abW
  ·refine Ec (by rw[c5]) ?_
   rcases sh with ⟨h,_⟩ | ⟨_,x,y,rfl⟩ | ⟨h,_⟩
   ·exact absurd (c5▸h) (by decide)
   ·subst c5
    obtain⟨l,m,rfl,g1,C,g2,D⟩:=two rfl
    have x40:=C.n40
    have y40:=D.n40
    refine⟨_,rfl,v,_,0,_,rfl,rfl,hS,rfl,_,rfl,v,_,1,_,rfl,rfl,hS,rfl,l,m,_,_,rfl,rfl,g1,g2,(by rw[Ba,Ba];lia),λp np=>?_⟩
    refine k p _ (.upd np) ?_
    rw[Ae]
    show _=some (HO.lst (vS (x++y)))
    unfold vS
    rw[Apx]
   ·exact absurd (c5▸h) (by decide)
  refine Dc (Gk c5) ?_
  refine⟨_,rfl,rfl,_,rfl,?_⟩
  by_cases c6:z=laW
  ·refine Ec (by rw[c6]) ?_
   rcases sh with ⟨h,_⟩ | ⟨_,x,y,rfl⟩ | ⟨h,_⟩
   ·exact absurd (c6▸h) (by decide)
   ·subst c6
    obtain⟨l,m,rfl,g1,C,g2,D⟩:=two rfl
    have hh:wdt x=wdt y/\x.length=y.length:=of_decide_eq_true hf
    refine⟨_,rfl,v,_,0,_,rfl,rfl,hS,rfl,_,rfl,v,_,1,_,rfl,rfl,hS,rfl,l,m,x,y,rfl,SqL.of g1,SqL.of g2,C,(by rw[hh.1,hh.2];exact D),λp H' s' _ h'=>k p H' s' h'⟩
   ·exact absurd (c6▸h) (by decide)
  refine Dc (Gk c6) ?_
  refine⟨_,rfl,rfl,_,rfl,?_⟩
  by_cases c7:z=blW
  ·refine Ec (by rw[c7]) ?_
   rcases sh with ⟨h,_⟩ | ⟨h,_⟩ | ⟨_,u,x,y,rfl⟩
   ·exact absurd (c7▸h) (by decide)
   ·exact absurd (c7▸h) (by decide)
   ·subst c7
    match ls,hl with
    | [l0,l,m],_ =>
     have hh:wdt x=wdt y/\x.length=y.length:=of_decide_eq_true hf
     have D:=hC y (by simp)
     exact⟨_,rfl,v,_,0,_,rfl,rfl,hS,rfl,_,rfl,v,_,1,_,rfl,rfl,hS,rfl,_,rfl,v,_,2,_,rfl,rfl,hS,rfl,l0,l,m,u,x,y,rfl,SqL.of (hR 0 _ _ rfl rfl),SqL.of (hR 1 _ _ rfl rfl),SqL.of (hR 2 _ _ rfl rfl),hC u (by simp),hC x (by simp),(by rw[hh.1,hh.2];exact D),λp H' s' _ h'=>k p H' s' h'⟩
  refine Dc (Gk c7) ?_
  rcases sh with ⟨h,y,rfl⟩ | ⟨h,_⟩ | ⟨h,_⟩
  ·obtain⟨l,rfl,g,C⟩:=one rfl
   have hz4:z=miW\/z=upW\/z=baW\/z=quW:=by
    simp only [ApA,ApB,or_false] at h
    rcases h with h | h
    ·exact absurd h c1
    ·exact h
   refine⟨_,rfl,_,rfl,v,_,0,_,rfl,rfl,hS,rfl,z,l,y,rfl,hz4,SqL.of g,C,λp x H' s' _ h' e=>k p H' s' ?_⟩
   rw[h']
   show _=some (HO.lst (vS (if z=tiW then til y a b else rowsR (AcW z y))))
   rw[if_neg c1,e]
   rfl
  ·simp only [ApA,ApB,or_false] at h
   rcases h with h | h | h
   ·exact absurd h c4
   ·exact absurd h c5
   ·exact absurd h c6
  ·exact absurd h c7
end
end Mine
namespace L2
open PySem PySem.Spec PyProof.Rows
section
variable {X:Cx}{K:W.Frag}
def Aor (K:W.Frag)(tl:TE):TE:=λσ H Q=>tl σ H λx H1=>∃ a ns,x=.ref a/\SqL K H1 a (vI ns)/\ns.length<64/\∀ l ns',ns'.Perm ns->ns'.Pairwise (· ≥ ·)->H1 l=none->Q (.ref l) (upd H1 l (.lst (vI ns')))
theorem AgA(hK:X.K=K:=by rfl)(hc:X.calm=true:=by rfl):JC X (.builtin "max") (λxs H Q=>∃ a ns,xs=[.ref a]/\SqL K H a (vI ns)/\0<ns.length/\∀ M:Int,M∈ns->(∀ z∈ns,z<=M)->Q (.int M) H):=by
 subst hK
 intro pins s σ H xs us Q I rv h
 obtain⟨a,ns,rfl,hq,h0,q⟩:=h
 obtain⟨u,rfl,ru⟩:=rv.one
 cases ru
 obtain⟨its,r,pl,hl⟩:=I.list hq
 have hi:IntsAre its ns:=intsAre_of r
 obtain⟨xs,hx⟩:=hi.allInts.items
 have hns:ns=xs.toList.map (·.1):=by rw[<- hi.numsOf,<- nums_intItems,<- hx]
 have hsz:0<xs.size:=by rw[hns,Apq,Array.length_toList] at h0;exact h0
 have hL:s.heap.IsList a (intItems xs):=by rw[<- hx];exact pl.isList
 refine max_intList (I.ok.hd hc) hL hsz λv h' tk hv hk=>?_
 obtain⟨t,rfl⟩:=intItems_at hv
 obtain⟨h1,h2⟩:=argBest_gt (numAt xs) (xs.size-1)
 refine⟨.int _,H,I.kept hk,⟨t,rfl⟩,q _ ?_ λz hz=>?_⟩
 ·rw[hns,numAt_eq];exact getD_mem (by rw[Apq,Array.length_toList];omega)
 ·rw[hns] at hz
  obtain⟨j,hj,rfl⟩:=mem_getD hz
  rw[Apq,Array.length_toList] at hj
  rw[<- numAt_eq];exact h2 j (by omega)
end
end L2
namespace Mine
open PySem L2
seal PE PT PW PA PS PSs PC PG PGs Ama PIp Amd PIE PI PO PEX PSX Aji
open K59 (s2 st knL dueS rowsR dueR w9 cnt nd9 sz9 mk9 res9 fst9 all9)
section
variable {P:Program}{w:World}{K:W.Frag}{mg:Str->Option Value}{base:Heap}{t:Adr}
def Its (H:Hp)(its:List (Addr × Nd × Nat)):Prop:=∀ i∈its,It9 H (.ref i.1) i.2.1 i.2.2
def vA (its:List (Addr × Nd × Nat)):List V:=its.map λi=>.ref i.1
def tln (its:List (Addr × Nd × Nat)):Nat:=(its.map λi=>(wr i.2.2 i.2.1).length).sum
def dmx (its:List (Addr × Nd × Nat)):Nat:=its.foldl (λm i=>max m i.2.2) 0
def AgB (K:W.Frag):Sp:=λvs H Q _=>∃(z:List Nat) (v:Addr) (its:List (Addr × Nd × Nat)) (a b:Nat),vs=[.str (tx z),.ref v,.int (a:Int),.int (b:Int)]/\z∈w9/\its.length=cnt z/\a<4/\b<4/\SqL K H v (vA its)/\Its H its/\tln its<=10000/\∀ p x d H',Be H H'->It9 H' (.ref p) x d->(wr d x).length<=tln its+20->Q (.ref p) H'
theorem ifJ{c:Prop}[Decidable c]{t:TS}{D:Ends}{σ:St}{H:Hp}(S:St->Prop)(h2:¬c->S σ)(h1:c->(∀ σ',S σ'->D.nx σ' H)->t D σ H)(k:∀ σ',S σ'->D.nx σ' H):if decide c=true then t D σ H else AgG D σ H:=by
 by_cases h:c
 ·rw[if_pos (decide_eq_true h)];exact h1 h k
 ·rw[if_neg (by simp[h])];exact k σ (h2 h)
theorem Acr{its:List (Addr × Nd × Nat)}{i:Nat}{x:V}(h:(vA its)[i]?=some x):∃ it,its[i]?=some it/\x=.ref it.1:=by
 unfold vA at h
 rw[Ap9] at h
 cases e:its[i]? with
 | none=>rw[e] at h;exact nomatch h
 | some it=>rw[e] at h;exact⟨it,rfl,by injection h with h;exact h.symm⟩
theorem Lx{its:List (Addr × Nd × Nat)}:(vA its).length=its.length:=by unfold vA;rw[Apq]
theorem Sv(T:Txt K mg t):Br P w K mg base CX0 4 t.U0 t.U3 ["word", "things", "a", "b"] (AgB K):=by
 refine T.Hn.F.ok DP (λvs H Q E h=>?_) (λcdv A outer s H vs Q E hr h=>?_)
 ·obtain⟨z,v,its,a,b,rfl,_⟩:=h
  rfl
 ·obtain⟨z,v,its,a,b,rfl,hz,hc,ha,hb,hS,hI,hT,k⟩:=h
  refine⟨_,(Ac (Bh (i:=4) DP.nd rfl (Or.inl rfl) (Ar Bg (Ar Bg (pv 0) Af) (Dj (K:=K) F.plainAttrs_str F.slot_str_join F.type_str_join (Ed (K:=K)) Af (Aa (Dl (CG.mk (Bd:=[]) (Nc:=["thing"]) rfl (by decide +kernel) (by decide +kernel) (Cp (sc0:=Ah Hy) rfl (by decide +kernel)) rfl rfl rfl (by decide +kernel) (λ_ _ h=>by simp at h)) rfl (CV (K:=K) (pv 1)) (λ_ _ _ _ _=>.nil) (λ_ _ _ _ _=>(Bf (Dd (K:=K)) (pv 0) Ag (λ_ _=>rfl)))) Ab))))
   (Ac (Bj (Aj Cu (pv 0) Af (Am _))
    (Ad (Bh (i:=4) DP.nd rfl (Or.inl rfl) (Ar Bg (Ar Bg (Ar Bg (Ar Bg (pv 4) Af) (Cm Di rfl T.Pb Jr (Aa (pv 2) Ab))) Af) (Cm Di rfl T.Pb Jr (Aa (pv 3) Ab)))))
    An)
   (Ac (Bh (i:=5) DP.nd rfl (Or.inl rfl) (Ar Fy Ag (Az (AgA (K:=K)) rfl T.AmR AkZ (Aa (Dl (CG.mk (Bd:=[]) (Nc:=["thing"]) rfl (by decide +kernel) (by decide +kernel) (Cp (sc0:=Ah Hy) rfl (by decide +kernel)) rfl rfl rfl (by decide +kernel) (λ_ _ h=>by simp at h)) rfl (CV (K:=K) (pv 1)) (λ_ _ _ _ _=>.nil) (λ_ _ _ _ _=>(Bf (Dd (K:=K)) (pv 0) Ag (λ_ _=>rfl)))) Ab))))
   (Ac (Fw PassesOwn.never rfl (CV (K:=K) (pv 1)) (BK (i:=6) DP.nd rfl (Or.inl rfl))
    (Ad (Bj (Aj Jg (Bf (Dd (K:=K)) (pv 6) Ag (λ_ _=>rfl)) Af (Am _))
     (Ad (Av (DG (Aa (Ar Bg (pv 4) Af) (Aa (BV Ab) (Aa (Bf (Dd (K:=K)) (pv 6) Ag (λ_ _=>rfl)) (Aa (pv 5) Ab)))))))
     An)))
   (Ac (Tp (i:=7) (CG.mk (Bd:=[]) (Nc:=["thing"]) rfl (by decide +kernel) (by decide +kernel) (Cp (sc0:=Ah Hy) rfl (by decide +kernel)) rfl rfl rfl (by decide +kernel) (λ_ _ h=>by simp at h)) rfl DP.nd rfl rfl (CV (K:=K) (pv 1)) (λ_ _ _ _ _=>.nil) (λ_ _ _ _ _=>(Bf (Dd (K:=K)) (pv 0) Ag (λ_ _=>rfl))) rfl)
   (Ac (Abl (Aq ((Acq T).mono (by decide)) hr rfl T.Rk.m T.Rk.F.kp T.Rk.b .nil Ak (Aa (pv 0) (Aa (pv 7) (Aa (pv 2) (Aa (pv 3) Ab))))) (Nh rfl (De (BK (i:=8) DP.nd rfl (Or.inl rfl)) (De (BK (i:=9) DP.nd rfl (Or.inl rfl)) (De (BK (i:=10) DP.nd rfl (Or.inl rfl)) JH)))))
   (Ac (Bj (Hj (AaF (K:=K) (pv 10) (λ_=>rfl)))
    (Ad (Av (DG (Aa (Ar Bg (pv 4) Af) (Aa (BV Ab) (Aa Af (Aa (pv 5) Ab)))))))
    An)
   (Ac (Bj (PW.pt (pw_or (Aj Ht (pv 8) Ag (Am _)) (pw_or1 (Aj Ht (pv 9) Ag (Am _)))))
    (Ad (Av (DG (Aa (Ar Bg (pv 4) Af) (Aa (BV Ab) (Aa Af (Aa (pv 5) Ab)))))))
    An)
   (Ad (Av (DG (Aa (Ar Bg (pv 4) Af) (Aa (Aq ((AdE T).mono (by decide)) hr rfl T.U7.m T.U7.F.kp T.U7.b .nil Ak (Aa (pv 0) (Aa (pv 7) (Aa (pv 2) (Aa (pv 3) Ab))))) (Aa Af (Aa (pv 5) Ab))))))))))))))),?_⟩
  have hsz:sizeLine=16777216:=sizeLine_eq
  have cl:=K59.AiH (z:=z)
  have zl:=K59.AlL z hz
  have got:∀ it∈its,∃ l,H it.1=some (.tup [.str (tx (wr it.2.2 it.2.1)),.ref l,.str (dueR (out knL it.2.2 it.2.1)),.int (it.2.2:Int)])/\H l=some (.lst (vS (rowsR (out knL it.2.2 it.2.1)))):=λit hit=>by
   obtain⟨W,p,l,e,h1,h2⟩:=hI it hit
   injection e with e
   subst e
   exact⟨l,h1,h2⟩
  obtain⟨ts,ets⟩:∃ ts,ts=its.map λi=>wr i.2.2 i.2.1:=⟨_,rfl⟩
  have tl:ts.length=its.length:=by rw[ets,Apq]
  have Apo:(ts.map List.length).sum=tln its:=by rw[ets,Aqa];rfl
  have cu:=K59.Anq ts
  have cll:=Ae0 ts
  have ne:ts≠[]:=λe=>by rw[e] at tl;simp at tl;lia
  have ej:Txt.join (tx [44]) (ts.map tx)=tx (cj ts):=by
   cases ts with
   | nil=>exact absurd rfl ne
   | cons y ys=>exact Z6 [44] y ys
  have QL:(Str.ofString "(")=tx [40]:=by decide +kernel
  rw[QL,Io,JQ,Rn]
  refine⟨_,rfl,_,_,rfl,rfl,(by rw[Ai,Ai];exact big (by simp only [Apt,Apz];lia)),?_⟩
  rw[CJ]
  refine⟨rfl,_,rfl,_,rfl,⟨_,hS⟩,DY (K:=K) (a:=v) (xs:=vA its) (λi ys H2=>H2=H/\ys=vS (ts.take i)) ⟨rfl,rfl⟩ ?_ ?_ ?_ ?_⟩
  ·rintro i ys H2 hi ⟨rfl,rfl⟩
   refine⟨hS,?_⟩
   rw[Ba,Ap2]
   lia
  ·rw[Lx];exact Bq (by lia)
  ·rintro i xv ys H2 hi hx ⟨rfl,rfl⟩
   obtain⟨it,hit,rfl⟩:=Acr hx
   obtain⟨l,g1,g2⟩:=got it (ApD hit)
   refine Dh.no ?_
   refine⟨_,rfl,it.1,_,0,.str (tx (wr it.2.2 it.2.1)),rfl,rfl,SqT.of g1,rfl,?_⟩
   refine CN.of hi ⟨rfl,?_⟩
   rw[CP,Ap4,show ts[i]?=some (wr it.2.2 it.2.1) by rw[ets,Ap9,hit];rfl]
   rfl
  rintro ys H2 q ⟨rfl,rfl⟩ nq
  rw[Lx,ApP (by lia)]
  obtain⟨H1,e9,s1,h1⟩:=nu9 (o:=.lst (vS ts)) (.refl _) nq
  rw[e9]
  refine⟨_,_,ts.map tx,rfl,rfl,SqL.of (by rw[h1,GQ]),(by rw[Ai,Apq];show _+_*1<=_;lia),?_⟩
  rw[ej]
  refine⟨_,_,rfl,rfl,(by rw[Ai,Ai];exact big (by simp only [Aps,Apt,Apz];lia)),?_⟩
  rw[CJ]
  refine CK rfl rfl ?_
  refine⟨_,rfl,rfl,_,rfl,?_⟩
  have d1:=Ag9 a (List.mem_range.mpr (by lia))
  have d2:=Ag9 b (List.mem_range.mpr (by lia))
  have tL:(K59.Aa3 z a b).length<=4:=by unfold K59.Aa3;split <;> simp[d1,d2]
  have UL:(z++[40]++cj ts++K59.Aa3 z a b).length<=tln its+19:=by
   simp only [Aps,Apt,Apz]
   lia
  refine ifJ (λσ=>σ=[some (.str (tx z)),some (.ref v),some (.int (a:Int)),some (.int (b:Int)),some (.str (tx (z++[40]++cj ts++K59.Aa3 z a b))),none,none,none,none,none,none]) (λc=>?_) (λc k2=>?_) ?_
  ·have c':¬z=tiW:=λe=>c (by rw[e])
   unfold K59.Aa3
   rw[if_neg c',ApT]
   rfl
  ·have c':z=tiW:=by injection c with c;exact Jp c
   refine⟨_,rfl,_,_,rfl,rfl,(by rw[Ai,Ai];exact big (by simp only [Aps,Apt,Apz];lia)),?_⟩
   rw[CJ]
   refine⟨_,rfl,_,rfl,lg (by lia),?_⟩
   rw[Js]
   refine⟨_,_,rfl,rfl,(by rw[Ai,Ai];exact big (by simp only [Aps,Apt,Apz];lia)),?_⟩
   rw[CJ]
   refine⟨_,_,rfl,rfl,(by rw[Ai,Ai];exact big (by simp only [Aps,Apt,Apz];lia)),?_⟩
   rw[CJ]
   refine⟨_,rfl,_,rfl,lg (by lia),?_⟩
   rw[Js]
   refine⟨_,_,rfl,rfl,(by rw[Ai,Ai];exact big (by simp only [Aps,Apt,Apz];lia)),?_⟩
   rw[CJ]
   refine CK (v':=.str (tx (z++[40]++cj ts++K59.Aa3 z a b))) ?_ rfl ?_
   ·unfold K59.Aa3
    rw[if_pos c']
    simp
   ·exact k2 _ rfl
  rintro σ rfl
  generalize hU:z++[40]++cj ts++K59.Aa3 z a b=U at UL
  refine⟨_,rfl,_,rfl,⟨_,s1.seq hS⟩,DY (K:=K) (a:=v) (xs:=vA its) (λi ys H3=>H3=H1/\ys=vI ((its.take i).map λi=>(i.2.2:Int))) ⟨rfl,rfl⟩ ?_ ?_ ?_ ?_⟩
  ·rintro i ys H3 hi ⟨rfl,rfl⟩
   refine⟨s1.seq hS,?_⟩
   rw[Gd,Apq,Ap2]
   lia
  ·rw[Lx];exact Bq (by lia)
  ·rintro i xv ys H3 hi hx ⟨rfl,rfl⟩
   obtain⟨it,hit,rfl⟩:=Acr hx
   obtain⟨l,g1,g2⟩:=got it (ApD hit)
   refine Dh.no ?_
   refine⟨_,rfl,it.1,_,3,.int (it.2.2:Int),rfl,rfl,SqT.of (s1 _ _ g1),rfl,?_⟩
   refine CN.of hi ⟨rfl,?_⟩
   rw[Ap4,hit,Apx]
   unfold vI
   rw[Apx]
   rfl
  rintro ys H3 q2 ⟨rfl,rfl⟩ nq2
  rw[Lx,ApJ]
  obtain⟨H4,e9,s3,h3⟩:=nu9 (o:=.lst (vI (its.map λi=>(i.2.2:Int)))) s1 nq2
  rw[e9]
  refine⟨_,_,rfl,SqL.of h3,(by rw[Apq];lia),λM hM1 hM2=>?_⟩
  obtain⟨D,rfl,hD⟩:∃ D:Nat,M=(D:Int)/\∀ it∈its,it.2.2<=D:=by
   obtain⟨it,hit,rfl⟩:=List.mem_map.mp hM1
   refine⟨it.2.2,rfl,λj hj=>?_⟩
   have:=hM2 _ (List.mem_map.mpr ⟨j,hj,rfl⟩)
   lia
  refine⟨_,_,rfl,rfl,?_⟩
  refine CK (v':=.int ((D+1:Nat):Int)) (congrArg V.int (by lia)) rfl ?_
  have ne2:its.map (λi=>i.2.1)≠[]:=λe=>ne (by rw[ets,List.map_eq_nil_iff.mp e];rfl)
  have ots:(its.map λi=>i.2.1).map (wr D)=ts:=by
   rw[ets,Aqa]
   exact Aq7 λit hit=>Ak1 (hI it hit).1 (hD it hit)
  have oo:(its.map λi=>i.2.1).map (out knL D)=its.map λi=>out knL i.2.2 i.2.1:=by
   rw[Aqa]
   exact Aq7 λit hit=>AhE (hI it hit).1 (hD it hit)
  obtain⟨Wz,Oz⟩:=K59.Aop (z:=z) (xs:=its.map λi=>i.2.1) (D:=D) (a:=a) (b:=b) hz (by rw[Apq];exact hc) (λx hx=>by
   obtain⟨it,hit,rfl⟩:=List.mem_map.mp hx
   exact Afh (hI it hit).1 (hD it hit)) (by lia) (by lia)
  have tz:U++[41]=wr (D+1) (nd9 z (its.map λi=>i.2.1) a b):=by rw[<- K59.Aoo ne2,ots,hU]
  rw[oo] at Oz
  have fin:∀{p l:Addr} {G:Hp} {R:Res},Be H2 G->G p=some (.tup [.str (tx (U++[41])),.ref l,.str (dueR R),.int ((D+1:Nat):Int)])->G l=some (.lst (vS (rowsR R)))->all9 z (its.map λi=>out knL i.2.2 i.2.1) a b=R->Q (.ref p) G:=λ{p l G R} sg hp hl e=>by
   refine k p (nd9 z (its.map λi=>i.2.1) a b) (D+1) G sg ⟨Wz,p,l,rfl,?_,?_⟩ ?_
   ·rw[hp,tz,Oz,e]
   ·rw[hl,Oz,e]
   ·rw[<- tz,Aps]
    show U.length+1<=_
    lia
  refine⟨_,rfl,_,rfl,⟨_,s3.seq hS⟩,Jf (K:=K) (a:=v) (xs:=vA its) (λi σ G=>∃ v6,σ=[some (.str (tx z)),some (.ref v),some (.int (a:Int)),some (.int (b:Int)),some (.str (tx U)),some (.int ((D+1:Nat):Int)),v6,none,none,none,none]/\G=H4/\∀ it∈its.take i,∃ x,out knL it.2.2 it.2.1=.ok x) ⟨none,rfl,rfl,λit h=>by simp at h⟩ ?_ ?_ ?_⟩
  ·rintro i σ G hi ⟨v6,rfl,rfl,_⟩
   exact s3.seq hS
  ·rintro i xv σ G hx ⟨v6,rfl,rfl,hok⟩
   obtain⟨it,hit,rfl⟩:=Acr hx
   obtain⟨l,g1,g2⟩:=got it (ApD hit)
   refine CK rfl rfl ?_
   refine⟨_,rfl,it.1,_,2,.str (dueR (out knL it.2.2 it.2.1)),rfl,rfl,SqT.of (s3 _ _ g1),rfl,rfl,_,rfl,?_⟩
   cases eo:out knL it.2.2 it.2.1 with
   | ok x =>
    rw[decide_eq_true (show V.str (dueR (Res.ok x))=V.str (Str.ofString "") from rfl),Bool.not_true]
    refine Hu ⟨_,rfl,rfl,λj hj=>?_⟩
    rw[Ap4,hit] at hj
    rcases List.mem_append.mp hj with hj | hj
    ·exact hok j hj
    ·rw[List.mem_singleton.mp hj];exact⟨x,eo⟩
   | no f =>
    have nf:¬(V.str (dueR (Res.no f)):V)=V.str (Str.ofString ""):=by cases f <;> decide +kernel
    rw[decide_eq_false nf,AqE]
    refine Gq ?_
    refine⟨_,rfl,_,_,rfl,rfl,(by rw[Ai,Ai];exact big (by simp only [Apt,Apz];lia)),?_⟩
    rw[CJ]
    refine⟨Ap8 _,λl2 nl2=>?_⟩
    obtain⟨H5,e9,s5,h5⟩:=nu9 (o:=.lst []) s3 nl2
    rw[e9]
    refine⟨_,rfl,it.1,_,2,.str (dueR (out knL it.2.2 it.2.1)),rfl,rfl,SqT.of (s5 _ _ g1),rfl,_,rfl,(by show 4<=sizeLine;decide),λp np=>?_⟩
    refine fin (R:=.no f) (s5.new np) ?_ (by rw[Ao (Ay h5 np)];exact h5) ?_
    ·rw[Ae,eo]
    ·unfold all9
     have hl:i<its.length:=(List.getElem?_eq_some_iff.mp hit).1
     have e8:its.map (λi=>out knL i.2.2 i.2.1)=(its.take i).map (λi=>out knL i.2.2 i.2.1)++Res.no f::(its.drop (i+1)).map λi=>out knL i.2.2 i.2.1:=by
      have e9:its=its.take i++it::its.drop (i+1):=by
       have:=List.getElem_cons_drop (as:=its) (i:=i) hl
       rw[(List.getElem?_eq_some_iff.mp hit).2] at this
       rw[this,AqI]
      conv=>lhs;rw[e9]
      rw[Apx,Apw,eo]
     rw[e8,K59.Akf λr hr=>?_]
     obtain⟨j,hj,rfl⟩:=List.mem_map.mp hr
     exact hok j hj
  ·rintro σ G ⟨v6,rfl,rfl,hok⟩
   rw[Lx,ApJ] at hok
   obtain⟨cs,hcs⟩:∃ cs:List (List (List Nat)),its.map (λi=>out knL i.2.2 i.2.1)=cs.map Res.ok:=by
    have:∀ js:List (Addr × Nd × Nat),(∀ it∈js,∃ x,out knL it.2.2 it.2.1=.ok x)->∃ cs:List (List (List Nat)),js.map (λi=>out knL i.2.2 i.2.1)=cs.map Res.ok:=λjs hj=>by
     induction js with
     | nil=>exact⟨[],rfl⟩
     | cons j js ih =>
      obtain⟨cs,e⟩:=ih λit h=>hj it (Ap7 _ h)
      obtain⟨x,ex⟩:=hj j Ap6
      exact⟨x::cs,by rw[Apw,e,ex];rfl⟩
    exact this its hok
   have cl3:cs.length=its.length:=by have:=congrArg List.length hcs;rw[Apq,Apq] at this;exact this.symm
   have ca:∀{i:Nat} {it:Addr × Nd × Nat} {x:List (List Nat)},its[i]?=some it->cs[i]?=some x->out knL it.2.2 it.2.1=.ok x:=λ{i it x} h1 h2=>by
    have:(its.map λi=>out knL i.2.2 i.2.1)[i]?=(cs.map Res.ok)[i]?:=by rw[hcs]
    rw[Ap9,Ap9,h1,h2] at this
    exact Option.some.inj this
   have aR:all9 z (its.map λi=>out knL i.2.2 i.2.1) a b=res9 z cs a b:=by unfold all9;rw[hcs,K59.Afz]
   rw[aR] at fin
   obtain⟨ls,hls⟩:∃ ls:List Addr,ls.length=its.length/\∀(i:Nat) (it:Addr × Nd × Nat) (l:Addr),its[i]?=some it->ls[i]?=some l->H2 it.1=some (.tup [.str (tx (wr it.2.2 it.2.1)),.ref l,.str (dueR (out knL it.2.2 it.2.1)),.int (it.2.2:Int)])/\H2 l=some (.lst (vS (rowsR (out knL it.2.2 it.2.1)))):=by
    have:∀ js:List (Addr × Nd × Nat),(∀ it∈js,it∈its)->∃ ls:List Addr,ls.length=js.length/\∀(i:Nat) (it:Addr × Nd × Nat) (l:Addr),js[i]?=some it->ls[i]?=some l->H2 it.1=some (.tup [.str (tx (wr it.2.2 it.2.1)),.ref l,.str (dueR (out knL it.2.2 it.2.1)),.int (it.2.2:Int)])/\H2 l=some (.lst (vS (rowsR (out knL it.2.2 it.2.1)))):=λjs hj=>by
     induction js with
     | nil=>exact⟨[],rfl,λi it l h _=>by simp at h⟩
     | cons j js ih =>
      obtain⟨ls,e1,e2⟩:=ih λit h=>hj it (Ap7 _ h)
      obtain⟨l,g1,g2⟩:=got j (hj j Ap6)
      refine⟨l::ls,by rw[Apt,Apt,e1],λi it m h1 h2=>?_⟩
      cases i with
      | zero =>
       injection h1 with h1
       injection h2 with h2
       subst h1 h2
       exact⟨g1,g2⟩
      | succ i=>exact e2 i it m h1 h2
    exact this its λit h=>h
   refine⟨_,rfl,_,rfl,⟨_,s3.seq hS⟩,DY (K:=K) (a:=v) (xs:=vA its) (λi ys H3=>H3=G/\ys=(ls.take i).map V.ref) ⟨rfl,rfl⟩ ?_ ?_ ?_ ?_⟩
   ·rintro i ys H5 hi ⟨rfl,rfl⟩
    refine⟨s3.seq hS,?_⟩
    rw[Apq,Ap2]
    lia
   ·rw[Lx];exact Bq (by lia)
   ·rintro i xv ys H5 hi hx ⟨rfl,rfl⟩
    obtain⟨it,hit,rfl⟩:=Acr hx
    have hil:i<ls.length:=by rw[hls.1];exact(List.getElem?_eq_some_iff.mp hit).1
    obtain⟨g1,g2⟩:=hls.2 i it ls[i] hit (Apu hil)
    refine Dh.no ?_
    refine⟨_,rfl,it.1,_,1,.ref ls[i],rfl,rfl,SqT.of (s3 _ _ g1),rfl,?_⟩
    refine CN.of hi ⟨rfl,?_⟩
    rw[Ap4,Apu hil,Apx]
    rfl
   rintro ys H5 q3 ⟨rfl,rfl⟩ nq3
   rw[Lx,ApP (by rw[hls.1];exact Apv _)]
   obtain⟨H6,e9,s6,h6⟩:=nu9 (o:=.lst (ls.map V.ref)) s3 nq3
   rw[e9]
   refine CK rfl rfl ?_
   have CS:∀{G:Hp},Be H6 G->Cs9 K G q3 cs:=λ{G} sg=>⟨ls,SqL.of (sg _ _ h6),by rw[hls.1,cl3],λi l x hl hx=>by
    have hi:i<its.length:=by rw[<- cl3];exact(List.getElem?_eq_some_iff.mp hx).1
    have e:=(hls.2 i its[i] l (Apu hi) hl).2
    rw[ca (Apu hi) hx] at e
    exact sg _ _ (s6 _ _ e),λx hx=>by
    obtain⟨i,hi,rfl⟩:=List.mem_iff_getElem.mp hx
    have hi2:i<its.length:=by rw[<- cl3];exact hi
    have e:=ca (Apu hi2) (Apu hi)
    exact Ra K59.Wi (hI its[i] (ApI hi2)).1 e⟩
   refine⟨_,rfl,_,rfl,_,rfl,_,rfl,z,q3,cs,a,b,rfl,hz,(by rw[cl3];exact hc),ha,hb,CS (.refl _),λp7 H7 s7 h7=>?_⟩
   refine⟨_,_,rfl,SqT.of h7,rfl,_,_,rfl,_,_,rfl,_,_,rfl,rfl,?_⟩
   have s8:Be H2 H7:=s6.trans s7
   have ul:(tx U).length+(tx [41]).length<=sizeLine:=by rw[Ai,Ai];exact big (by simp only [Apt,Apz];lia)
   have none9:∀{f:Rf} {Aki:Str},Aki=dueS f->res9 z cs a b=.no f->0<=sizeLine/\∀ l,H7 l=none->4<=sizeLine/\∀ p,(upd H7 l (.lst [])) p=none->Q (.ref p) (upd (upd H7 l (.lst [])) p (.tup [.str (tx (U++[41])),.ref l,.str Aki,.int ((D+1:Nat):Int)])):=λ{f S0} e1 e=>by subst e1;exact⟨Ap8 _,λl nl=>⟨by decide,λp np=>fin (R:=.no f) ((s8.new nl).new np) (by rw[Ae];rfl) (by rw[Ao (Ay Ae np)];exact Ae) e⟩⟩
   refine⟨_,rfl,(sz9 z cs a b).2.2,rfl,?_⟩
   cases hf:(sz9 z cs a b).2.2 with
   | false =>
    rw[AqE]
    refine Gq ?_
    refine⟨_,rfl,_,_,rfl,rfl,ul,?_⟩
    rw[CJ]
    obtain⟨n1,n2⟩:=none9 (f:=.nop) (Aki := "NoPattern") rfl (by unfold res9;rw[if_pos hf])
    refine⟨n1,λl nl=>⟨_,rfl,(n2 l nl).1,(n2 l nl).2⟩⟩
   | true =>
    rw[Bool.not_true]
    refine Hu ?_
    by_cases c40:40<(sz9 z cs a b).1\/40<(sz9 z cs a b).2.1
    ·have Aos:res9 z cs a b=.no .big:=by unfold res9;rw[if_neg (by rw[hf];exact λz=>nomatch z),if_pos c40]
     obtain⟨n1,n2⟩:=none9 (f:=.big) (Aki := "TooLarge") rfl Aos
     refine⟨_,rfl,_,_,rfl,rfl,_,rfl,?_⟩
     refine Dk (λh=>?_) (λh=>?_)
     ·refine Gq ?_
      refine⟨_,rfl,_,_,rfl,rfl,ul,?_⟩
      rw[CJ]
      exact⟨n1,λl nl=>⟨_,rfl,(n2 l nl).1,(n2 l nl).2⟩⟩
     ·refine⟨_,rfl,_,_,rfl,rfl,_,rfl,?_⟩
      refine Ec (by lia) ?_
      refine⟨_,rfl,_,_,rfl,rfl,ul,?_⟩
      rw[CJ]
      exact⟨n1,λl nl=>⟨_,rfl,(n2 l nl).1,(n2 l nl).2⟩⟩
    ·have ok9:res9 z cs a b=.ok (mk9 z cs a b):=by unfold res9;rw[if_neg (by rw[hf];exact λz=>nomatch z),if_neg c40]
     refine⟨_,rfl,_,_,rfl,rfl,_,rfl,Dc (by lia) ⟨_,rfl,_,_,rfl,rfl,_,rfl,Dc (by lia) ?_⟩⟩
     refine⟨_,rfl,_,_,rfl,rfl,ul,?_⟩
     rw[CJ]
     refine⟨_,rfl,_,rfl,_,rfl,_,rfl,z,q3,cs,a,b,rfl,hz,(by rw[cl3];exact hc),ha,hb,CS s7,hf,λl9 H9 s9 h9=>?_⟩
     refine⟨_,rfl,(by show 4<=sizeLine;decide),λp np=>?_⟩
     exact fin (R:=.ok (mk9 z cs a b)) ((s8.trans s9).new np) (by rw[Ae];rfl) (by rw[Ao (Ay h9 np)];exact h9) ok9
def AiJ:Sp:=λvs H Q _=>∃(p:Addr) (x:Nd) (d:Nat),vs=[.ref p]/\It9 H (.ref p) x d/\∀ b,Q (.bl b) H
theorem Acs(T:Txt K mg t):Br P w K mg base CX0 1 t.WR t.WT ["item"] AiJ:=by
 refine T.law_small.F.ok AbH (λvs H Q E h=>?_) (λcdv A outer s H vs Q E hr h=>?_)
 ·obtain⟨p,x,d,rfl,_⟩:=h
  rfl
 ·obtain⟨p,x,d,rfl,⟨W,p2,l,e,h1,h2⟩,k⟩:=h
  injection e with e
  subst e
  refine⟨_,(Ad (Av (Lk (DX Cu (Bf (Dd (K:=K)) (pv 0) Ag (λ_ _=>rfl)) Af (Am _)) (Lk (DX Akn (Az (Bb (K:=K)) rfl T.Cr Bs (Aa (Bf (Dd (K:=K)) (pv 0) Ag (λ_ _=>rfl)) Ab)) Ag (Am _)) (PN (DX Akn (Az Bo rfl T.Cr Bs (Aa (Bf (Ax (K:=K)) (Bf (Dd (K:=K)) (pv 0) Ag (λ_ _=>rfl)) Ag (λ_ _=>rfl)) Ab)) Ag (Am _))))))),?_⟩
  have hsz:sizeLine=16777216:=sizeLine_eq
  refine⟨_,rfl,p,_,2,.str (dueR (out knL d x)),rfl,rfl,SqT.of h1,rfl,rfl,_,rfl,?_⟩
  refine Dk (λc=>?_) (λc=>k _)
  obtain⟨r,hr⟩:=K59.AlK (by injection c with c)
  rw[hr] at h1 h2
  have C:=Ra K59.Wi W hr
  obtain⟨u,hu,ul⟩:=C.at C.n1
  have m40:=C.m40
  refine⟨_,rfl,p,_,1,.ref l,rfl,rfl,SqT.of h1,rfl,_,_,rfl,.inl (SqL.of h2),_,_,rfl,rfl,_,rfl,?_⟩
  refine Dk (λc2=>?_) (λc2=>k _)
  refine⟨_,rfl,p,_,1,.ref l,rfl,rfl,SqT.of h1,rfl,l,_,0,.str (tx u),rfl,rfl,SqL.of h2,HS (i:=0) hu,_,rfl,(by rw[Ai,ul];exact Bq m40),_,_,rfl,rfl,k _⟩
structure Ln9 (H:Hp) (its:List (Addr × Nd × Nat)) (n:Nat):Prop where
 I:Its H its
 ne:its≠[]
 ln:its.length<=n+1
 tl:tln its<=60*(n+1)
 dp:∀ it∈its,it.2.2<=12
def AlM:Sp:=λvs H Q _=>∃(v:Addr) (its:List (Addr × Nd × Nat)) (n:Nat) (c:Int),vs=[.ref v,.int c]/\n<=60/\H v=some (.lst (vA its))/\Ln9 H its n/\∀ p its' H',Be H H'->H' p=some (.lst (vA its'))->Ln9 H' its' (n+1)->Q (.ref p) H'
theorem XF(a b:List (Addr × Nd × Nat)):tln (a++b)=tln a+tln b:=by unfold tln;rw[Apx,List.sum_append]
theorem Ln9.put{H H':Hp}{its:List (Addr × Nd × Nat)}{n:Nat}(L:Ln9 H its n)(s:Be H H')(k:Nat){p:Addr}{x:Nd}{d:Nat}(hi:It9 H' (.ref p) x d)(hd:d<=12)(hl:(wr d x).length<=tln (its.drop k)+40):Ln9 H' (its.take k++[(p,x,d)]) (n+1) where
 I:=λi h=>by
  rcases List.mem_append.mp h with h | h
  ·exact(L.I i (AqQ h)).same s
  ·rw[List.mem_singleton.mp h];exact hi
 ne:=by simp
 ln:=by
  have:=L.ln
  rw[Aps,Ap2,ApX]
  lia
 tl:=by
  have:=L.tl
  have e:tln its=tln (its.take k)+tln (its.drop k):=by rw[<- XF,AqI]
  have e2:tln [(p,x,d)]=(wr d x).length:=by unfold tln;simp
  rw[XF,e2]
  lia
 dp:=λi h=>by
  rcases List.mem_append.mp h with h | h
  ·exact L.dp i (AqQ h)
  ·rw[List.mem_singleton.mp h];exact hd
theorem Anr{xs:List V}{k:Nat}(h:k<=xs.length):Tj xs (some (k:Int)) none=xs.drop k:=by
 unfold Tj
 rw[HT.K3,HT.Qa,Aqh h,ApP (by rw[ApK];exact Apv _)]
theorem Ans{xs:List V}{k:Nat}(h:k<=xs.length):Tj xs none (some (k:Int))=xs.take k:=by
 unfold Tj
 rw[HT.K3,HT.Qa,Aqh h,Aq8,Nat.sub_zero]
theorem Ant{c:TT}{t u:TS}{D:Ends}{σ:St}{H:Hp}(S:St->Hp->Prop)(h:(∀ σ' H',S σ' H'->u D σ' H')->c σ H λb H1=>if b=true then t { D with nx:=u D } σ H1 else u D σ H1)(k:∀ σ' H',S σ' H'->u D σ' H'):AlX (AlZ c t AgG) u D σ H:=h k
theorem Ae8(T:Txt K mg t):Br P w K mg base CX0 5 t.VJ t.VL ["line", "cell"] AlM:=by
 refine T.X6.F.ok Em (λvs H Q E h=>?_) (λcdv A outer s H vs Q E hr h=>?_)
 ·obtain⟨v,its,n,c,rfl,_⟩:=h
  rfl
 ·obtain⟨v,its,n,c,rfl,hn,hv,L,k⟩:=h
  refine⟨_,(Ac (Bh (i:=2) Em.nd rfl (Or.inl rfl) (BV (Aa Af (Aa Af (Aa Af (Aa Af (Aa Af (Aa Af (Aa Af (Aa Af (Aa Af Ab)))))))))))
   (Ac (Bh (i:=3) Em.nd rfl (Or.inl rfl) (Bf (Ax (K:=K)) (pv 2) (Ar Dz (Ar Fz (pv 1) Ag) Ag) (λ_ _=>rfl)))
   (Ac (Bh (i:=4) Em.nd rfl (Or.inl rfl) (Bf (Ax (K:=K)) (BV (Aa Ag (Aa Ag (Aa Ag (Aa Ag (Aa Ag (Aa Ag (Aa Ag (Aa Ag (Aa Ag Ab)))))))))) (Ar Dz (Ar Fz (pv 1) Ag) Ag) (λ_ _=>rfl)))
   (Ac (Bh (i:=5) Em.nd rfl (Or.inl rfl) (Ar Dz (Ar Fz (pv 1) Ag) Ag))
   (Ac (Bh (i:=6) Em.nd rfl (Or.inl rfl) (Ar Dz (Ar Fz (pv 1) Ag) Ag))
   (Ac (Bj (PW.pt (pw_or (Aj Cu (Ar Dz (pv 1) Ag) Ag (Am _)) (pw_or1 (Aj Kz (Az (Bb (K:=K)) rfl T.Cr Bs (Aa (pv 0) Ab)) (pv 4) (Am _)))))
    (Ad (Av (Ar XX (pv 0) (BV (Aa (Aq ((QQ T).mono (by decide)) hr rfl T.Hg.m T.Hg.F.kp T.Hg.b .nil Ak (Aa (Ar Fz (pv 1) Ag) Ab)) Ab)))))
    An)
   (Ac (Bh (i:=7) Em.nd rfl (Or.inl rfl) (Hf (Qh (K:=K)) (pv 0) (Hh (Ar JS (Az (Bb (K:=K)) rfl T.Cr Bs (Aa (pv 0) Ab)) (pv 4))) K4))
   (Ac (Bh (i:=8) Em.nd rfl (Or.inl rfl) (Aq ((Sv T).mono (by decide)) hr rfl T.Hn.m T.Hn.F.kp T.Hn.b .nil Ak (Aa (pv 3) (Aa (pv 7) (Aa (pv 5) (Aa (pv 6) Ab))))))
   (Ac (Bj (PW.pt (pw_and (Aj Jg (Ar Dz (Ar Fz (pv 1) Ag) Ag) Ag (Am _)) (pw_and1 (Hj (Gn (Aq ((Acs T).mono (by decide)) hr rfl T.law_small.m T.law_small.F.kp T.law_small.b .nil Ak (Aa (pv 8) Ab)))))))
    (Ac (Bh (i:=3) Em.nd rfl (Or.inl rfl) (Bf (Ax (K:=K)) (BV (Aa Af (Aa Af (Aa Af (Aa Af Ab))))) (Ar Dz (Ar Fz (pv 1) Ag) Ag) (λ_ _=>rfl)))
    (Ac (Bh (i:=7) Em.nd rfl (Or.inl rfl) (Hf (Qh (K:=K)) (pv 0) (Hh (Ar JS (Az (Bb (K:=K)) rfl T.Cr Bs (Aa (pv 0) Ab)) Ag)) K4))
    (Ad (Bh (i:=8) Em.nd rfl (Or.inl rfl) (Aq ((Sv T).mono (by decide)) hr rfl T.Hn.m T.Hn.F.kp T.Hn.b .nil Ak (Aa (pv 3) (Aa (pv 7) (Aa (pv 5) (Aa (pv 6) Ab)))))))))
    An)
   (Ac (Bj (Aj Ht (Bf (Dd (K:=K)) (pv 8) Ag (λ_ _=>rfl)) Ag (Am _))
    (Ad (Av (Ar XX (pv 0) (BV (Aa (Aq ((QQ T).mono (by decide)) hr rfl T.Hg.m T.Hg.F.kp T.Hg.b .nil Ak (Aa (Ar Fz (pv 1) Ag) Ab)) Ab)))))
    An)
   (Ad (Av (Ar XX (Hf (Qh (K:=K)) (pv 0) K4 (Hh (Ar JS (Az (Bb (K:=K)) rfl T.Cr Bs (Aa (pv 0) Ab)) (Az (Bb (K:=K)) rfl T.Cr Bs (Aa (pv 7) Ab))))) (BV (Aa (pv 8) Ab))))))))))))))),?_⟩
  have hsz:sizeLine=16777216:=sizeLine_eq
  have il:=L.ln
  have tl:=L.tl
  have vl:(vA its).length=its.length:=Lx
  have AiK:∀{G:Hp},Be H G->∀ p x H',Be G H'->It9 H' (.ref p) x 1->(wr 1 x).length<=40->1<=sizeLine/\∀ q,H' q=none->Amx (.ref v) (.ref q) (upd H' q (.lst [.ref p])) Q:=λ{G} sg p x H' s' hi hl=>⟨by decide,λq nq=>by
   have s2:Be H (upd H' q (.lst [.ref p])):=(sg.trans s').new nq
   refine⟨v,q,vA its,[.ref p],rfl,rfl,s2 _ _ hv,Ae,(by rw[vl];show _+1<=_;lia),λr nr=>?_⟩
   refine k r (its++[(p,x,1)]) _ (s2.new nr) (by rw[Ae];unfold vA;rw[Apx];rfl) ?_
   rw[show its++[(p,x,1)]=its.take its.length++[(p,x,1)] by rw[ApJ]]
   exact L.put (s2.new nr) _ ((hi.same (.upd nq)).same (.upd nr)) (by decide) (by lia)⟩
  rw[Vj,Vk,XC,Acm,Rn,Vl,Vm,Vn,Acl]
  refine⟨(by show 9<=sizeLine;decide),λq0 nq0=>?_⟩
  have s0:Be H (upd H q0 (.lst [.str (tx beW),.str (tx abW),.str (tx laW),.str (tx blW),.str (tx tiW),.str (tx miW),.str (tx upW),.str (tx baW),.str (tx quW)])):=.upd nq0
  have h0:(upd H q0 (.lst [.str (tx beW),.str (tx abW),.str (tx laW),.str (tx blW),.str (tx tiW),.str (tx miW),.str (tx upW),.str (tx baW),.str (tx quW)])) q0=some (.lst (vS w9)):=Ae
  generalize upd H q0 (.lst [.str (tx beW),.str (tx abW),.str (tx laW),.str (tx blW),.str (tx tiW),.str (tx miW),.str (tx upW),.str (tx baW),.str (tx quW)])=H0 at s0 h0 ⊢
  refine CK rfl rfl ?_
  obtain⟨j,ej,hj⟩:∃ j:Nat,c / 3%9=(j:Int)/\j<9:=⟨(c / 3%9).toNat,by lia,by lia⟩
  obtain⟨a,ea,ha⟩:∃ a:Nat,c / 27%4=(a:Int)/\a<4:=⟨(c / 27%4).toNat,by lia,by lia⟩
  obtain⟨b,eb,hb⟩:∃ b:Nat,c / 108%4=(b:Int)/\b<4:=⟨(c / 108%4).toNat,by lia,by lia⟩
  obtain⟨z,e1,e2,hz⟩:∃ z,(vS w9)[j]?=some (.str (tx z))/\([.int 2,.int 2,.int 2,.int 3,.int 1,.int 1,.int 1,.int 1,.int 1]:List V)[j]?=some (.int (cnt z:Int))/\z∈w9:=by
   have:j=0\/j=1\/j=2\/j=3\/j=4\/j=5\/j=6\/j=7\/j=8:=by lia
   rcases this with rfl | rfl | rfl | rfl | rfl | rfl | rfl | rfl | rfl <;> exact⟨_,rfl,rfl,by decide⟩
  have cl:=K59.AiH (z:=z)
  refine⟨_,rfl,_,rfl,_,_,rfl,rfl,⟨by decide,by decide⟩,_,_,rfl,rfl,(by show(0:Int)<9;decide),q0,_,_,.str (tx z),rfl,rfl,SqL.of h0,(by rw[ej];exact Cj (by lia) (by rw[Ap1];exact e1)),?_⟩
  refine CK rfl rfl ?_
  refine⟨(by show 9<=sizeLine;decide),λq1 nq1=>?_⟩
  obtain⟨H1,e9,s1,h1⟩:=nu9 (o:=.lst [.int 2,.int 2,.int 2,.int 3,.int 1,.int 1,.int 1,.int 1,.int 1]) s0 nq1
  rw[e9]
  refine⟨_,rfl,_,_,rfl,rfl,⟨by decide,by decide⟩,_,_,rfl,rfl,(by show(0:Int)<9;decide),q1,_,_,.int (cnt z:Int),rfl,rfl,SqL.of h1,(by rw[ej];exact Cj (by lia) (by rw[Ap1];exact e2)),?_⟩
  refine CK rfl rfl ?_
  refine⟨_,rfl,_,_,rfl,rfl,⟨by decide,by decide⟩,_,_,rfl,rfl,(by show(0:Int)<4;decide),?_⟩
  refine CK (v':=.int (a:Int)) (congrArg V.int ea) rfl ?_
  refine⟨_,rfl,_,_,rfl,rfl,⟨by decide,by decide⟩,_,_,rfl,rfl,(by show(0:Int)<4;decide),?_⟩
  refine CK (v':=.int (b:Int)) (congrArg V.int eb) rfl ?_
  refine⟨_,rfl,_,_,rfl,rfl,(by show(0:Int)<3;decide),rfl,_,rfl,?_⟩
  refine Dk (λh=>Gq ?_) (λh=>⟨_,rfl,_,_,rfl,.inl (SqL.of (s1 _ _ hv)),_,rfl,_,_,rfl,rfl,_,rfl,?_⟩)
  ·refine⟨_,rfl,_,rfl,_,_,rfl,rfl,⟨by decide,by decide⟩,_,rfl,AiK s1⟩
  refine Dk (λh2=>?_) (λh2=>?_)
  ·refine⟨_,rfl,_,rfl,_,_,rfl,rfl,⟨by decide,by decide⟩,_,rfl,AiK s1⟩
  rw[vl] at h2
  have hcz:cnt z<=its.length:=by lia
  refine⟨_,rfl,_,rfl,_,_,rfl,.inl (SqL.of (s1 _ _ hv)),_,rfl,_,_,rfl,rfl,_,rfl,v,_,rfl,SqL.of (s1 _ _ hv),λq2 nq2=>?_⟩
  have ed:∀ m,m<=its.length->Tj (vA its) (some (((vA its).length:Int)-(m:Int))) none=vA (its.drop (its.length-m)):=λm hm=>by
   rw[show(((vA its).length:Int)-(m:Int))=((its.length-m:Nat):Int) by rw[vl];lia,Anr (by rw[vl];lia)]
   unfold vA
   rw[List.map_drop]
  rw[ed _ hcz]
  have s2:=s1.new (o:=.lst (vA (its.drop (its.length-cnt z)))) nq2
  have h2':(upd H1 q2 (.lst (vA (its.drop (its.length-cnt z))))) q2=some (.lst (vA (its.drop (its.length-cnt z)))):=Ae
  generalize upd H1 q2 (.lst (vA (its.drop (its.length-cnt z))))=H2 at s2 h2' ⊢
  refine CK rfl rfl ?_
  have AdF:∀ k,tln (its.drop k)<=tln its:=λk=>by
   have e:tln its=tln (its.take k)+tln (its.drop k):=by rw[<- XF,AqI]
   lia
  refine⟨_,rfl,_,rfl,_,rfl,_,rfl,z,q2,its.drop (its.length-cnt z),a,b,rfl,hz,(by rw[ApK];lia),ha,hb,SqL.of h2',(λi hi=>(L.I i (AqP hi)).same s2),(by have:=AdF (its.length-cnt z);lia),λp3 x3 d3 H3 s3 it3 l3=>?_⟩
  refine CK rfl rfl ?_
  dsimp only
  refine Ant (λσ G=>∃ z' q' kk p x d,σ=[some (.ref v),some (.int c),some (.ref q0),some (.str z'),some (.int (cnt z:Int)),some (.int (a:Int)),some (.int (b:Int)),some (.ref q'),some (.ref p)]/\Be H G/\G q'=some (.lst (vA (its.drop kk)))/\kk<=its.length/\It9 G (.ref p) x d/\(wr d x).length<=tln (its.drop kk)+20) (λkN=>?_) ?_
  ·refine⟨_,rfl,_,_,rfl,rfl,⟨by decide,by decide⟩,_,_,rfl,rfl,(by show(0:Int)<8;decide),rfl,_,rfl,?_⟩
   have stay:∀{G:Hp},G=H3->_:=λ{G} (e:G=H3)=>kN [some (.ref v),some (.int c),some (.ref q0),some (.str (tx z)),some (.int (cnt z:Int)),some (.int (a:Int)),some (.int (b:Int)),some (.ref q2),some (.ref p3)] G ⟨tx z,q2,its.length-cnt z,p3,x3,d3,rfl,by rw[e];exact s2.trans s3,by rw[e];exact s3 _ _ h2',Nat.sub_le _ _,by rw[e];exact it3,l3⟩
   cases hb8:(!decide (V.int (c / 432%8)=V.int 5)) with
   | false=>exact Hu (Hu (stay rfl))
   | true =>
    refine Gq ?_
    refine⟨_,rfl,p3,x3,d3,rfl,it3,λbb=>⟨_,rfl,?_⟩⟩
    cases bb with
    | true=>exact Hu (stay rfl)
    | false =>
     refine Gq ?_
     refine⟨(by show 4<=sizeLine;decide),λq4 nq4=>?_⟩
     have s4:=(s2.trans s3).new (o:=.lst [.str (tx miW),.str (tx upW),.str (tx baW),.str (tx quW)]) nq4
     have h4:(upd H3 q4 (.lst [.str (tx miW),.str (tx upW),.str (tx baW),.str (tx quW)])) q4=some (.lst (vS [miW,upW,baW,quW])):=Ae
     generalize upd H3 q4 (.lst [.str (tx miW),.str (tx upW),.str (tx baW),.str (tx quW)])=H4 at s4 h4 ⊢
     obtain⟨y,f1,f2,hy⟩:∃ y,(vS [miW,upW,baW,quW])[a]?=some (.str (tx y))/\cnt y=1/\y∈w9:=by
      have:a=0\/a=1\/a=2\/a=3:=by lia
      rcases this with rfl | rfl | rfl | rfl <;> exact⟨_,rfl,rfl,by decide⟩
     refine⟨_,rfl,_,_,rfl,rfl,⟨by decide,by decide⟩,_,_,rfl,rfl,(by show(0:Int)<4;decide),q4,_,_,.str (tx y),rfl,rfl,SqL.of h4,(by rw[ea];exact Cj (by lia) (by rw[Ap1];exact f1)),?_⟩
     refine CK rfl rfl ?_
     refine⟨_,rfl,_,rfl,_,_,rfl,.inl (SqL.of (s4 _ _ hv)),_,_,rfl,rfl,_,rfl,v,_,rfl,SqL.of (s4 _ _ hv),λq5 nq5=>?_⟩
     have e5:=ed 1 (by lia)
     rw[show(((1:Nat):Int))=1 from rfl] at e5
     rw[e5]
     obtain⟨H5,e9,s5,h5⟩:=nu9 (o:=.lst (vA (its.drop (its.length-1)))) s4 nq5
     rw[e9]
     refine CK rfl rfl ?_
     refine⟨_,rfl,_,rfl,_,rfl,_,rfl,y,q5,its.drop (its.length-1),a,b,rfl,hy,(by rw[ApK,f2];lia),ha,hb,SqL.of h5,(λi hi=>(L.I i (AqP hi)).same s5),(by have:=AdF (its.length-1);lia),λp6 x6 d6 H6 s6 it6 l6=>?_⟩
     refine CK rfl rfl ?_
     exact kN _ _ ⟨tx y,q5,its.length-1,p6,x6,d6,rfl,s5.trans s6,s6 _ _ h5,Nat.sub_le _ _,it6,l6⟩
  ·rintro σ G ⟨z',q',kk,p,x,d,rfl,sG,hq',hk,hI,hl⟩
   obtain⟨W,p',l,e,g1,g2⟩:=id hI
   injection e with e
   subst e
   refine⟨_,rfl,p,_,3,.int (d:Int),rfl,rfl,SqT.of g1,rfl,_,_,rfl,rfl,_,rfl,?_⟩
   refine Dk (λh=>?_) (λh=>?_)
   ·exact⟨_,rfl,_,rfl,_,_,rfl,rfl,⟨by decide,by decide⟩,_,rfl,AiK sG⟩
   have dl:(vA (its.drop kk)).length=its.length-kk:=by rw[Lx,ApK]
   refine⟨_,rfl,_,rfl,_,_,rfl,.inl (SqL.of (sG _ _ hv)),_,rfl,_,_,rfl,.inl (SqL.of hq'),_,_,rfl,rfl,_,rfl,v,_,rfl,SqL.of (sG _ _ hv),λq7 nq7=>?_⟩
   rw[show(((vA its).length:Int)-((vA (its.drop kk)).length:Int))=(kk:Int) by rw[vl,dl];lia,Ans (by rw[vl];exact hk)]
   have ek:(vA its).take kk=vA (its.take kk):=by unfold vA;rw[List.map_take]
   rw[ek]
   have s7:=sG.new (o:=.lst (vA (its.take kk))) nq7
   have t7:Be G (upd G q7 (.lst (vA (its.take kk)))):=.upd nq7
   have h7:(upd G q7 (.lst (vA (its.take kk)))) q7=some (.lst (vA (its.take kk))):=Ae
   generalize upd G q7 (.lst (vA (its.take kk)))=H7 at s7 h7 t7 ⊢
   refine⟨_,rfl,(by show 1<=sizeLine;decide),λq8 nq8=>?_⟩
   refine⟨q7,q8,_,[.ref p],rfl,rfl,(by rw[Ao (Ay h7 nq8)];exact h7),Ae,(by rw[Lx,Ap2];show _+1<=_;lia),λr nr=>?_⟩
   refine k r (its.take kk++[(p,x,d)]) _ ((s7.new nq8).new nr) (by rw[Ae];unfold vA;rw[Apx];rfl) ?_
   exact L.put ((s7.new nq8).new nr) kk (((hI.same t7).same (.upd nq8)).same (.upd nr)) (by lia) (by lia)
theorem AiL(T:Txt K mg t){C:Addr}(h:C∈pcs t):Isa K C/\W.kitOne K (.ref C) (.ref t.BL)=some true:=by
 simp only [pcs,ApA,ApB,or_false] at h
 rcases h with rfl | rfl | rfl | rfl | rfl | rfl | rfl | rfl | rfl | rfl | rfl | rfl | rfl
 ·exact⟨T.AhO,T.AhP⟩
 ·exact⟨T.Aj6,T.Aj7⟩
 ·exact⟨T.AhQ,T.AhR⟩
 ·exact⟨T.AhS,T.AhT⟩
 ·exact⟨T.Agj,T.Agk⟩
 ·exact⟨T.AhV,T.AhW⟩
 ·exact⟨T.Agl,T.Agm⟩
 ·exact⟨T.AhY,T.AhZ⟩
 ·exact⟨T.AjC,T.AjD⟩
 ·exact⟨T.Aeu,T.Aev⟩
 ·exact⟨T.AjE,T.AjF⟩
 ·exact⟨T.Ago,T.Agp⟩
 ·exact⟨T.Al5,T.Al6⟩
def Rdo (t:Adr)(H:Hp)(Q:VK)(R:Res)(z:List Nat):Prop:=match R with
 | .ok x=>∀ p q H',Be H H'->Pc t (nw H H') p x z->H' q=some (.tup [.str "", .ref p])->Q (.ref q) H'
 | .no f=>∀ q H',Be H H'->H' q=some (.tup [.str (dueS f),.non])->Q (.ref q) H'
def AiM (t:Adr):Sp:=λvs H Q _=>∃(u:List Nat) (kp:Addr) (kn:Kns),vs=[.str (tx u),.ref kp]/\u.length<=1000000/\Kn H kp kn/\(∀ p∈kn,Clo p.2)/\Rdo t H Q (rdp kn u).1 (rdp kn u).2
theorem ZD(T:Txt K mg t):Br P w K mg base CX0 32 t.Lr t.Ls ["text", "known"] (AiM t):=by
 refine T.Gz.F.ok En (λvs H Q E h=>?_) (λcdv A outer s H vs Q E hr h=>?_)
 ·obtain⟨u,kp,kn,rfl,_⟩:=h
  rfl
 ·obtain⟨u,kp,kn,rfl,hu,hK,hC,k⟩:=h
  refine⟨_,(Ac (Bh (i:=2) En.nd rfl (Or.inl rfl) Af)
   (Ac (Bh (i:=3) En.nd rfl (Or.inl rfl) Sy)
   (Ac (Ajk ⟨rfl,rfl,rfl⟩ rfl (Ahe (Ajj (i:=3) En.nd rfl (Or.inl rfl) (Ahd ((Wh T).mono (by decide)) hr rfl T.JN.m T.JN.F.kp T.JN.b .nil (Aa (pv 0) (Aa (pv 1) Ab))))) (.cons rfl T.BR T.BP.q Yo (λ_=>(Ad (Bh (i:=2) En.nd rfl (Or.inl rfl) Af))) (by decide) (.cons rfl T.Ol T.Ko.q Yo (λ_=>(Ad (Bh (i:=2) En.nd rfl (Or.inl rfl) Af))) (by decide) (.cons rfl T.Abb T.VP.q Yo (λ_=>(Ad (Bh (i:=2) En.nd rfl (Or.inl rfl) Af))) (by decide) .nil))))
   (Ad (Av (DG (Aa (pv 2) (Aa (pv 3) Ab)))))))),?_⟩
  refine⟨_,rfl,_,rfl,u,kp,kn,rfl,hu,hK,hC,?_⟩
  generalize (rdp kn u).1=R at k ⊢
  generalize (rdp kn u).2=z at k ⊢
  cases R with
  | ok x =>
   intro p H1 s1 hp
   refine CK rfl rfl ?_
   refine⟨_,rfl,_,rfl,(by show 2<=sizeLine;decide),λq nq=>?_⟩
   refine k p q _ (s1.new nq) (hp.mono λb o e=>?_) Ae
   have g:=Nf e
   rw[Su g.1,Ao (Ay g.2 nq)]
   exact g.2
  | no f =>
   intro H1 s1
   cases f with
   | nop =>
    refine⟨t.By,rfl,⟨_,_,T.BP.q⟩,λea nea=>.inl ⟨Exn.has T.PB,?_⟩⟩
    refine CK rfl rfl ?_
    refine⟨_,rfl,_,rfl,(by show 2<=sizeLine;decide),λq nq=>?_⟩
    exact k q _ ((s1.new nea).new nq) Ae
   | big =>
    refine⟨t.CZ,rfl,⟨_,_,T.Ko.q⟩,λea nea=>.inr ⟨Exn.has T.Q7,.inl ⟨Exn.has T.Rp,?_⟩⟩⟩
    refine CK rfl rfl ?_
    refine⟨_,rfl,_,rfl,(by show 2<=sizeLine;decide),λq nq=>?_⟩
    exact k q _ ((s1.new nea).new nq) Ae
   | unk =>
    refine⟨t.Er,rfl,⟨_,_,T.VP.q⟩,λea nea=>.inr ⟨Exn.has T.Rq,.inr ⟨Exn.has T.SX,.inl ⟨Exn.has T.U8,?_⟩⟩⟩⟩
    refine CK rfl rfl ?_
    refine⟨_,rfl,_,rfl,(by show 2<=sizeLine;decide),λq nq=>?_⟩
    exact k q _ ((s1.new nea).new nq) Ae
def AiN (t:Adr):Sp:=λvs H Q _=>∃(p rl:Addr) (x:List (List Nat)) (u:List Nat),vs=[.ref p,.str (tx u),.ref rl]/\Pc t H p x u/\H rl=some (.lst (vS x))/\Clo x/\∀ H',Be H H'->Q (.bl true) H'
theorem Acu(T:Txt K mg t):Br P w K mg base CX0 2 t.Q5 t.Q6 ["piece", "text", "rows"] (AiN t):=by
 refine T.Ek.F.ok TV (λvs H Q E h=>?_) (λcdv A outer s H vs Q E hr h=>?_)
 ·obtain⟨p,rl,x,u,rfl,_⟩:=h
  rfl
 ·obtain⟨p,rl,x,u,rfl,hp,hl,C,k⟩:=h
  refine⟨_,(Ac (Bj (PW.pt (pw_or (Hj (Gn (Az (V1 (K:=K)) rfl T.Oj Ln (Aa (pv 0) (Aa (Ce (v:=.ref t.BL) rfl T.Gj rfl) Ab))))) (pw_or (Aj Jg (Bc (K:=K) rfl (pv 0) ((Dq T).mono (by decide)) hr T.Du.b Ak) (Az Bo rfl T.Cr Bs (Aa (Bf (Ax (K:=K)) (pv 2) Ag (λ_ _=>rfl)) Ab)) (Am _)) (pw_or1 (Aj Jg (Bc (K:=K) rfl (pv 0) ((Dr T).mono (by decide)) hr T.Dv.b Ak) (Az (Bb (K:=K)) rfl T.Cr Bs (Aa (pv 2) Ab)) (Am _))))))
    (Ad (Av PL))
    An)
   (Ac (Bh (i:=3) TV.nd rfl (Or.inl rfl) (Bc (K:=K) rfl (pv 0) ((BJ T).mono (by decide)) hr T.Bx.b Ak))
   (Ad (Av (Lk (Az (V1 (K:=K)) rfl T.Oj Ln (Aa (pv 3) (Aa (AeA (v:=.ty "list") rfl T.VM Tq rfl) Ab))) (Lk (DX (Ajf (K:=K) (hr.AkP)) (pv 3) (pv 2) (Am _)) (PN (DX Cu (Bc (K:=K) rfl (pv 0) ((Cd T).mono (by decide)) hr T.Ci.b Ak) (pv 1) (Am _))))))))),?_⟩
  obtain⟨CC,dx,l9,hCC,h9,h10⟩:=id hp
  obtain⟨u0,hu0,lu0⟩:=C.at C.n1
  have m40:=C.m40
  have n40:=C.n40
  refine⟨_,rfl,_,_,true,(AiL T hCC).1.ty (pcC T hCC).c h9,.inr ⟨_,rfl,(AiL T hCC).2⟩,_,rfl,?_⟩
  refine Hu ?_
  refine⟨_,rfl,Ja T hp C ?_⟩
  refine⟨_,rfl,_,_,_,_,rfl,rfl,SqL.of hl,HS (i:=0) hu0,_,rfl,(by rw[Ai];exact big (by lia)),rfl,_,rfl,?_⟩
  refine JT (by rw[Ai,lu0]) ?_
  refine⟨_,rfl,Jd T hp C ?_⟩
  refine⟨_,rfl,_,_,rfl,.inl (SqL.of hl),rfl,_,rfl,?_⟩
  refine JT (by rw[Ba]) ?_
  refine⟨_,rfl,DW T hp λl2 hl2=>?_⟩
  obtain⟨H6,e9,s6,e6⟩:=nu9 (o:=.lst (vS x)) (.refl _) hl2
  rw[e9]
  refine CK rfl rfl ?_
  refine⟨_,rfl,_,_,true,.lst e6,.inl ⟨_,rfl,Ad2 _ _⟩,_,rfl,?_⟩
  refine Gq ?_
  have eqv:eqL (vS x) (vS x)=true:=AcC (Abz _)
  refine⟨_,rfl,_,rfl,_,_,_,_,rfl,rfl,SqL.of e6,SqL.of (s6 _ _ hl),Abz _,Abz _,?_⟩
  rw[eqv]
  refine⟨_,rfl,Gq ?_⟩
  refine⟨_,rfl,FZ T (hp.mono s6) ?_⟩
  refine⟨_,rfl,rfl,?_⟩
  rw[decide_eq_true rfl]
  exact k _ s6
def AgC:Sp:=λvs H Q _=>∃(v:List Nat) (c:Int),vs=[.str (tx v),.int c]/\v.length<=10000/\∀ u,Ins v u->u.length<=3*v.length->Q (.str (tx u)) H
theorem Aa4(T:Txt K mg t):Br P w K mg base CX0 1 t.NP t.NQ ["text", "cell"] AgC:=by
 refine T.Oh.F.ok Gb (λvs H Q E h=>?_) (λcdv A outer s H vs Q E hr h=>?_)
 ·obtain⟨v,c,rfl,_⟩:=h
  rfl
 ·obtain⟨v,c,rfl,hl,k⟩:=h
  refine⟨_,(Ac (Bh (i:=2) Gb.nd rfl (Or.inl rfl) Af)
   (Ac (Fw PassesOwn.never rfl (Dw rfl T.Ey (Aa (Az Bo rfl T.Cr Bs (Aa (pv 0) Ab)) Ab)) (BK (i:=3) Gb.nd rfl (Or.inl rfl))
    (Ad (Bj (Aj Vu (Bf Jo (pv 0) (pv 3) (λ_ _=>rfl)) Af rfl)
     (Ac (Bh (i:=2) Gb.nd rfl (Or.inl rfl) (Ar Bg (Ar Bg (pv 2) (Ar K6 Af (Cm LC rfl T.Aba V0 (Aa (DX Cu (Ar Dz (Ar Gp (Ar Fy (pv 3) Ag) (Ar Dz (pv 1) Ag)) Ag) Ag (Am _)) Ab)))) (Bf Jo (pv 0) (pv 3) (λ_ _=>rfl))))
     (Ad (Bh (i:=2) Gb.nd rfl (Or.inl rfl) (Ar Bg (pv 2) (Ar K6 Af (Cm LC rfl T.Aba V0 (Aa (DX Cu (Ar Dz (Ar Gp (Ar Fy (pv 3) Ag) (Ar Dz (pv 1) Ag)) Ag) Ag (Am _)) Ab)))))))
     (Ad (Bh (i:=2) Gb.nd rfl (Or.inl rfl) (Ar Bg (pv 2) (Bf Jo (pv 0) (pv 3) (λ_ _=>rfl))))))))
   (Ad (Av (pv 2))))),?_⟩
  have hsz:sizeLine=16777216:=sizeLine_eq
  have eb:(Str.ofString "(),")=tx [40,41,44]:=by decide +kernel
  have es:(Str.ofString " ")=tx [32]:=by decide +kernel
  rw[eb,es,Ku]
  refine⟨_,rfl,_,rfl,(by rw[Ai];lia),_,rfl,(by lia),(by rw[Ai];lia),?_⟩
  rw[Ai,Ap1]
  refine Lz (lo:=0) (n:=v.length) (λi σ G=>∃(x3:Option V) (u:List Nat),σ=[some (.str (tx v)),some (.int c),some (.str (tx u)),x3]/\G=H/\Ins (v.take i) u/\u.length<=3*i) ⟨none,[],rfl,rfl,.nil,by simp⟩ ?_ ?_
  ·rintro i σ G hi ⟨x3,u,rfl,rfl,hI,hu⟩
   have hvi:=Apu hi
   generalize v[i]=b at hvi
   have ta:v.take (i+1)=v.take i++[b]:=by rw[Ap4,hvi];rfl
   have at9:atI ((tx v).cps.toList) (0+(i:Int))=some b:=by rw[Et,ApS];exact Cj (by lia) (by rw[Ap1];exact hvi)
   refine⟨_,rfl,_,rfl,_,_,b,rfl,rfl,(by rw[Ai];lia),at9,_,_,rfl,rfl,_,rfl,?_⟩
   rw[Z0]
   have rep:∀(p:Prop) [Decidable p],((List.replicate (if decide p=true then (1:Int) else 0).toNat [32]).flatten=bl (if p then 1 else 0))/\0<=(if decide p=true then (1:Int) else 0)/\(if decide p=true then (1:Int) else 0)<=1000000/\([32]:List Nat).length*(if decide p=true then (1:Int) else 0).toNat<=sizeLine/\(bl (if p then 1 else 0)).length<=1:=λp _=>by
    by_cases h:p
    ·simp only [h,decide_true,if_true]
     exact⟨rfl,by decide,by decide,by decide,by decide⟩
    ·simp only [h,decide_false,if_false,Bool.false_eq_true]
     exact⟨rfl,by decide,by decide,by decide,by decide⟩
   refine Dk (λhb=>?_) (λhb=>?_)
   ·have r1:=rep (V.int (((0+(i:Int))+1)*(c%97)%5)=V.int 1)
    refine⟨_,rfl,_,rfl,_,_,rfl,rfl,_,rfl,_,_,rfl,rfl,(by show(0:Int)<97;decide),_,_,rfl,rfl,.inr ⟨by lia,by lia⟩,_,_,rfl,rfl,(by show(0:Int)<5;decide),rfl,.inr ⟨_,rfl,?_⟩⟩
    refine⟨[32],_,rfl,rfl,r1.2.1,r1.2.2.1,r1.2.2.2.1,?_⟩
    rw[r1.1]
    have r2:=rep (V.int (((0+(i:Int))+1)*(c%89)%7)=V.int 1)
    obtain⟨g,eg⟩:∃ g,bl (if V.int (((0+(i:Int))+1)*(c%97)%5)=V.int 1 then 1 else 0)=bl g:=⟨_,rfl⟩
    obtain⟨h,eh⟩:∃ h,bl (if V.int (((0+(i:Int))+1)*(c%89)%7)=V.int 1 then 1 else 0)=bl h:=⟨_,rfl⟩
    have l1:=r1.2.2.2.2
    have l2:=r2.2.2.2.2
    rw[eg] at l1
    rw[eh] at l2
    rw[eg]
    refine⟨_,_,rfl,rfl,(by rw[Ai,Ai];exact big (by lia)),?_⟩
    rw[CJ]
    refine⟨_,rfl,_,rfl,_,_,b,rfl,rfl,(by rw[Ai];lia),at9,_,_,rfl,rfl,(by rw[Gr,Ai,Ai];exact big (by simp only [Aps,Apt,Apz];lia)),?_⟩
    rw[Gr,CJ]
    refine CK rfl rfl ?_
    refine⟨_,rfl,_,rfl,_,_,rfl,rfl,_,rfl,_,_,rfl,rfl,(by show(0:Int)<89;decide),_,_,rfl,rfl,.inr ⟨by lia,by lia⟩,_,_,rfl,rfl,(by show(0:Int)<7;decide),rfl,.inr ⟨_,rfl,?_⟩⟩
    refine⟨[32],_,rfl,rfl,r2.2.1,r2.2.2.1,r2.2.2.2.1,?_⟩
    rw[r2.1,eh]
    refine⟨_,_,rfl,rfl,(by rw[Ai,Ai];exact big (by simp only [Aps,Apt,Apz];lia)),?_⟩
    rw[CJ]
    refine⟨_,u++bl g++[b]++bl h,rfl,rfl,?_,by simp only [Aps,Apt,Apz];lia⟩
    rw[ta,show u++bl g++[b]++bl h=u++(bl g++(b::bl h)) by simp]
    exact hI.AmJ (decide_eq_true (by simpa using hb))
   ·refine⟨_,rfl,_,rfl,_,rfl,_,_,b,rfl,rfl,(by rw[Ai];lia),at9,_,_,rfl,rfl,(by rw[Gr,Ai,Ai];exact big (by simp only [Apt,Apz];lia)),?_⟩
    rw[Gr,CJ]
    refine⟨_,u++[b],rfl,rfl,?_,by rw[Aps,ApX];lia⟩
    rw[ta]
    exact hI.AmI (decide_eq_false (by simpa using hb))
  ·rintro σ G ⟨x3,u,rfl,rfl,hI,hu⟩
   rw[ApJ] at hI
   exact⟨_,rfl,k u hI hu⟩
def Akj (t:Adr):Sp:=λvs H Q _=>∃(p:Addr) (cl:List (List Nat)) (z u:List Nat) (x y c:Nat),vs=[.ref p,.int (x:Int),.int (y:Int)]/\Pc t H p cl z/\cl[y]?=some u/\u[x]?=some c/\u.length<=40/\Q (.str (tx [c])) H
theorem Aa5(T:Txt K mg t):Br P w K mg base CX0 1 t.BZ t.NK ["self", "x", "y"] (Akj t):=by
 refine T.UG.F.ok ZS (λvs H Q E h=>?_) (λcdv A outer s H vs Q E hr h=>?_)
 ·obtain⟨p,cl,z,u,x,y,c,rfl,_⟩:=h
  rfl
 ·obtain⟨p,cl,z,u,x,y,c,rfl,⟨C,dx,l,hC,hp,hl⟩,hy,hx,hu,k⟩:=h
  have C:=pcC T hC
  refine⟨_,(Ad (Av (Bf Jo (Bf (Ax (K:=K)) (FP (K:=K) (pv 0) rfl) (pv 2) (λ_ _=>rfl)) (pv 1) (λ_ _=>rfl)))),?_⟩
  refine⟨_,rfl,_,_,_,_,_,rfl,hp,C.c,C.n1,Vd _ _,_,rfl,_,_,_,_,rfl,rfl,SqL.of hl,HS hy,_,rfl,_,_,c,rfl,rfl,(by rw[Ai];exact big (by lia)),Cj (by lia) (by rw[Ap1,Et];exact hx),?_⟩
  rw[Gr]
  exact k
theorem AlN{H:Hp}{Q:VK}{R:Res}{u:List Nat}(h:∀ q G rf pv,Be H G->G q=some (.tup [.str rf,pv])->rf=dueR R->(∀ y,R=.ok y->∃ p,pv=.ref p/\Pc t (nw H G) p y u)->Q (.ref q) G):Rdo t H Q R u:=by
 cases R with
 | ok y=>exact λp q G sg hp hq=>h q G "" (.ref p) sg hq rfl λy' e=>by injection e with e;subst e;exact⟨p,rfl,hp⟩
 | no f=>exact λq G sg hq=>h q G (dueS f) .non sg hq rfl λy' e=>nomatch e
def Acv (K:W.Frag):Sp:=λvs H Q _=>∃(a:Addr) (ns:List Int),vs=[.ref a]/\SqL K H a (vI ns)/\ns.length<=63/\∀ H',Q (.bl true) H'
theorem Acw{K:W.Frag}{H:Hp}{a:Addr}{ns:List Int}(hl:ns.length<=63)(hS:SqL K H a (ns.map V.int)):Acv K [.ref a] H (λv _=>v=.bl true) λ_ _ _=>False:=⟨a,ns,rfl,hS,hl,λ_=>rfl⟩
theorem AlO(T:Txt K mg t):Br P w K mg base CX0 38 t.Ak2 t.AhM ["script"] (Acv K):=by
 have Ae9:Br P w K mg base CX0 2 t.SN t.SQ _ _:=QQ T
 have AgD:Br P w K mg base CX0 5 t.VJ t.VL _ _:=Ae8 T
 have Acx:Br P w K mg base CX0 1 t.NP t.NQ _ _:=Aa4 T
 have Sw:Br P w K mg base CX0 32 t.Lr t.Ls _ _:=ZD T
 have Lj:Br P w K mg base CX0 2 t.Q5 t.Q6 _ _:=Acu T
 have Acy:Br P w K mg base CX0 1 t.BZ t.NK _ _:=Aa5 T
 have Sx:Br P w K mg base CX0 1 t.Bw t.Lq _ _:=BJ T
 refine T.law.F.ok GR (λvs H Q E h=>?_) (λcdv A outer s H vs Q E hr h=>?_)
 ·obtain⟨a,ns,rfl,_⟩:=h
  rfl
 ·obtain⟨a,sc,rfl,hS,hl,k⟩:=h
  refine⟨_,(Ac (Bh (i:=1) GR.nd rfl (Or.inl rfl) (BV (Aa (Aq (Ae9.mono (by decide)) hr rfl T.Hg.m T.Hg.F.kp T.Hg.b .nil Ak (Aa Ag Ab)) Ab)))
   (Ac (Bh (i:=2) GR.nd rfl (Or.inl rfl) Ag)
   (Ac (Fw PassesOwn.never rfl (CV (K:=K) (Hf (Qh (K:=K)) (pv 0) K4 (Hh Ag))) (BK (i:=3) GR.nd rfl (Or.inl rfl))
    (Ac (Bh (i:=1) GR.nd rfl (Or.inl rfl) (Aq (AgD.mono (by decide)) hr rfl T.X6.m T.X6.F.kp T.X6.b .nil Ak (Aa (pv 1) (Aa (pv 3) Ab))))
    (Ad (Bh (i:=2) GR.nd rfl (Or.inl rfl) (Ar Dz (Ar Fy (Ar Gp (pv 2) Ag) (pv 3)) Ag)))))
   (Ac (Abl (Bf (Ax (K:=K)) (pv 1) (Ac5 XM Ag) (λ_ _=>rfl)) (Nh rfl (De (BK (i:=4) GR.nd rfl (Or.inl rfl)) (De (BK (i:=5) GR.nd rfl (Or.inl rfl)) (De (BK (i:=6) GR.nd rfl (Or.inl rfl)) (De (BK (i:=7) GR.nd rfl (Or.inl rfl)) JH))))))
   (Ac (Bh (i:=8) GR.nd rfl (Or.inl rfl) (BV (Aa (DG (Aa Af (Aa (BV (Aa Af (Aa Af Ab))) Ab))) (Aa (DG (Aa Af (Aa (BV (Aa Af (Aa Af (Aa Af Ab)))) Ab))) Ab))))
   (Ac (Abl (Aq (Sw.mono (by decide)) hr rfl T.Gz.m T.Gz.F.kp T.Gz.b .nil Ak (Aa (Aq (Acx.mono (by decide)) hr rfl T.Oh.m T.Oh.F.kp T.Oh.b .nil Ak (Aa (pv 4) (Aa (pv 2) Ab))) (Aa (pv 8) Ab))) (Nh rfl (De (BK (i:=9) GR.nd rfl (Or.inl rfl)) (De (BK (i:=10) GR.nd rfl (Or.inr rfl)) JH))))
   (Ac (Bj (PW.pt (pw_or (Aj Jg (pv 9) (pv 6) (Am _)) (pw_or1 (Aj (Al0 (K:=K) (hr.AcL)) (pv 8) (BV (Aa (DG (Aa Af (Aa (BV (Aa Af (Aa Af Ab))) Ab))) (Aa (DG (Aa Af (Aa (BV (Aa Af (Aa Af (Aa Af Ab)))) Ab))) Ab))) (Am _)))))
    (Ad (Av PL))
    An)
   (Ac (Bj (Aj Jg (pv 6) Af (Am _))
    (Ad (Av PL))
    An)
   (Ac (Bh (i:=11) GR.nd rfl (Or.inr rfl) (Ar Dz (pv 2) (Az (Bb (K:=K)) rfl T.Cr Bs (Aa (pv 5) Ab))))
   (Ac (Bj (Hj (Gn (Aq (Lj.mono (by decide)) hr rfl T.Ek.m T.Ek.F.kp T.Ek.b .nil Ak (Aa (pv 10) (Aa (pv 4) (Aa (pv 5) Ab))))))
    (Ad (Av PL))
    An)
   (Ac (Bj (Aj Jg (Dj (K:=K) F.plainAttrs_str F.slot_str_join F.type_str_join (Ed (K:=K)) Af (Aa (Dl (CG.mk (Bd:=[10,11]) (Nc:=["x", "piece", "y"]) rfl (by decide +kernel) (by decide +kernel) (Cp (sc0:=Ah AhL) rfl (by decide +kernel)) rfl rfl rfl (by decide +kernel) (λk j h=>match k,h with | 0,h=>by obtain rfl:=Option.some.inj h;exact⟨_,rfl,rfl,rfl⟩ | 1,h=>by obtain rfl:=Option.some.inj h;exact⟨_,rfl,rfl,rfl⟩ | _+2,h=>by simp at h)) rfl (Dw rfl T.Ey (Aa (Az Bo rfl T.Cr Bs (Aa (Bf (Ax (K:=K)) (pv 5) Ag (λ_ _=>rfl)) Ab)) Ab)) (λ_ _ _ _ _=>.nil) (λ_ _ _ _ _=>(Age (K:=K) rfl (pv 1) (Acy.mono (by decide)) hr T.UG.b Ak (Aa (pv 0) (Aa (pv 2) Ab))))) Ab)) (Bf (Ax (K:=K)) (pv 5) (pv 11) (λ_ _=>rfl)) (Am _))
    (Ad (Av PL))
    An)
   (Ac (Abl (Aq (Sw.mono (by decide)) hr rfl T.Gz.m T.Gz.F.kp T.Gz.b .nil Ak (Aa (pv 4) (Aa (pv 8) Ab))) (Nh rfl (De (BK (i:=9) GR.nd rfl (Or.inl rfl)) (De (BK (i:=12) GR.nd rfl (Or.inl rfl)) JH))))
   (Ac (Bj (PW.pt (pw_or (Aj Jg (pv 9) Af (Am _)) (pw_or1 (Hj (Gn (Aq (Lj.mono (by decide)) hr rfl T.Ek.m T.Ek.F.kp T.Ek.b .nil Ak (Aa (pv 12) (Aa (pv 4) (Aa (pv 5) Ab)))))))))
    (Ad (Av PL))
    An)
   (Ac (Bl (Dj (K:=K) F.plainAttrs_list F.slot_list_append F.type_list_append Ga (Bc (K:=K) rfl (pv 10) (Sx.mono (by decide)) hr T.Bx.b Ak) (Aa Af Ab)))
   (Ac (Bl (AeI (K:=K) F.plainAttrs_list F.slot_list_clear F.type_list_clear Ac8 (Bc (K:=K) rfl (pv 12) (Sx.mono (by decide)) hr T.Bx.b Ak)))
   (Ac (Bl (Dj (K:=K) F.plainAttrs_list F.slot_list_append F.type_list_append Ga (Bf (Dd (K:=K)) (Bf (Ax (K:=K)) (pv 8) Ag (λ_ _=>rfl)) Ag (λ_ _=>rfl)) (Aa Af Ab)))
   (Ac (Bl (AeI (K:=K) F.plainAttrs_list F.slot_list_clear F.type_list_clear Ac8 (Bf (Dd (K:=K)) (Bf (Ax (K:=K)) (pv 8) Ag (λ_ _=>rfl)) Ag (λ_ _=>rfl))))
   (Ad (Av (Lk (Aq (Lj.mono (by decide)) hr rfl T.Ek.m T.Ek.F.kp T.Ek.b .nil Ak (Aa (pv 10) (Aa (pv 4) (Aa (pv 5) Ab)))) (PN (Aq (Lj.mono (by decide)) hr rfl T.Ek.m T.Ek.F.kp T.Ek.b .nil Ak (Aa (pv 12) (Aa (pv 4) (Aa (pv 5) Ab))))))))))))))))))))))))),?_⟩
  have hsz:sizeLine=16777216:=sizeLine_eq
  have step:∀{G G':Hp} {o:HO} {a:Addr},Be G G'->G' a=none->∃ G2,upd G' a o=G2/\Be G G2/\Be G' G2/\G2 a=some o:=λs n=>⟨_,rfl,s.new n,.upd n,Ae⟩
  refine⟨0,rfl,λp0 x0 H1 s1 it0 l0=>⟨(by show 1<=sizeLine;decide),λq0 nq0=>?_⟩⟩
  obtain⟨H2,e2,s2,t2,h2⟩:=step (o:=.lst [.ref p0]) s1 nq0
  rw[e2]
  refine CK rfl rfl ?_
  have L0:Ln9 H2 [(p0,x0,1)] 0:=⟨λi h=>by rw[List.mem_singleton.mp h];exact it0.same t2,by simp,by simp,by unfold tln;simp;lia,λi h=>by rw[List.mem_singleton.mp h];show 1<=12;decide⟩
  refine⟨_,rfl,_,rfl,_,_,rfl,s2.seq hS,λq1 nq1=>?_⟩
  obtain⟨zs,ez,zl⟩:∃ zs:List Int,Tj (vI sc) none (some 60)=vI zs/\zs.length<=60:=by
   unfold Tj vI
   refine⟨(sc.drop (HT.sIx (sc.map V.int).length 0 none)).take (HT.sIx (sc.map V.int).length (sc.map V.int).length (some 60)-HT.sIx (sc.map V.int).length 0 none),by rw[<- List.map_drop,<- List.map_take],?_⟩
   rw[show(60:Int)=((60:Nat):Int) from rfl,HT.K3,HT.Qa,Ap2]
   lia
  rw[ez]
  obtain⟨H3,e3,s3,t3,h3⟩:=step (o:=.lst (vI zs)) s2 nq1
  rw[e3]
  refine⟨_,rfl,⟨_,SqL.of h3⟩,Jf (K:=K) (a:=q1) (xs:=vI zs) (λi σ G=>∃(v:Addr) (its:List (Addr × Nd × Nat)) (tot:Int) (v3:Option V),σ=[some (.ref a),some (.ref v),some (.int tot),v3,none,none,none,none,none,none,none,none,none]/\Be H3 G/\G v=some (.lst (vA its))/\Ln9 G its i) ⟨q0,[(p0,x0,1)],0,none,rfl,.refl _,t3 _ _ h2,⟨λi h=>(L0.I i h).same t3,L0.ne,L0.ln,L0.tl,L0.dp⟩⟩ ?_ ?_ ?_⟩
  ·rintro i σ G hi ⟨v,its,tot,v3,rfl,sG,_⟩
   exact SqL.of (sG _ _ h3)
  ·rintro i xv σ G hx ⟨v,its,tot,v3,rfl,sG,hv,L⟩
   have hi:i<zs.length:=by have:=(List.getElem?_eq_some_iff.mp hx).1;rw[Gd] at this;exact this
   obtain⟨c,rfl⟩:∃ c,xv=.int c:=by
    unfold vI at hx
    rw[Ap9] at hx
    obtain⟨z,_,rfl⟩:=Option.map_eq_some_iff.mp hx
    exact⟨z,rfl⟩
   refine CK rfl rfl ?_
   refine⟨_,rfl,_,rfl,v,its,i,c,rfl,(by lia),hv,L,λp its' G' s' h' L'=>?_⟩
   refine CK rfl rfl ?_
   refine⟨_,rfl,_,_,rfl,rfl,.inr ⟨by decide,by decide⟩,_,rfl,_,_,rfl,rfl,_,_,rfl,rfl,(by show(0:Int)<1000003;decide),?_⟩
   exact⟨p,its',_,_,rfl,sG.trans s',h',L'⟩
  ·rintro σ G ⟨v,its,tot,v3,rfl,sG,hv,L⟩
   rw[Gd] at L
   obtain⟨ini,it,eit⟩:∃ ini it,its=ini++[it]:=⟨its.dropLast,its.getLast L.ne,(List.dropLast_concat_getLast L.ne).symm⟩
   have mit:it∈its:=by rw[eit];simp
   obtain⟨W,p1,rl,ep,g1,g2⟩:=L.I it mit
   injection ep with ep
   subst ep
   have d12:=L.dp it mit
   have ul:(wr it.2.2 it.2.1).length<=4000:=by
    have tl:=L.tl
    rw[eit,XF] at tl
    have:tln [it]=(wr it.2.2 it.2.1).length:=by unfold tln;simp
    lia
   have W12:=Afh W d12
   rw[<- Ak1 W d12] at ul g1
   rw[<- AhE W d12] at g1 g2
   generalize hd:it.2.2=d0 at g1
   generalize it.2.1=x at W12 ul g1 g2
   have al:atI (vA its) (-1)=some (.ref it.1):=by rw[eit];unfold vA;rw[Apx];exact AgO _ _
   refine⟨_,rfl,_,rfl,v,_,-1,.ref it.1,rfl,rfl,SqL.of hv,al,_,_,rfl,SqT.of g1,rfl,_,_,rfl,_,_,rfl,_,_,rfl,_,_,rfl,rfl,?_⟩
   rw[K59.vvE,K59.vwE,K59.rE1,K59.rE2,K59.rE3,K59.rE4,K59.rE5]
   refine⟨(by show 2<=sizeLine;decide),λl1 n1=>?_⟩
   obtain⟨Ha,e,_,ta,ha⟩:=step (o:=.lst [.str (tx [35,35,46]),.str (tx [46,35,46])]) (Be.refl G) n1
   rw[e]
   refine⟨(by show 2<=sizeLine;decide),λk1 nk1=>?_⟩
   obtain⟨Hb,e,sb,tb,hb⟩:=step (o:=.tup [.str (tx [118,118]),.ref l1]) ta nk1
   rw[e]
   refine⟨(by show 3<=sizeLine;decide),λl2 n2=>?_⟩
   obtain⟨Hc,e,sc',tc,hc⟩:=step (o:=.lst [.str (tx [35,46]),.str (tx [46,35]),.str (tx [35,35])]) sb n2
   rw[e]
   refine⟨(by show 2<=sizeLine;decide),λk2 nk2=>?_⟩
   obtain⟨Hd,e,sd,td,hd'⟩:=step (o:=.tup [.str (tx [118,119]),.ref l2]) sc' nk2
   rw[e]
   refine⟨(by show 2<=sizeLine;decide),λkp nkp=>?_⟩
   obtain⟨Hk,e,sk,tk,hk⟩:=step (o:=.lst [.ref k1,.ref k2]) sd nkp
   rw[e]
   refine CK rfl rfl ?_
   have f1:Hk k1=some (.tup [.str (tx [118,118]),.ref l1]):=tk _ _ (td _ _ (tc _ _ hb))
   have f2:Hk l1=some (.lst (vS [[35,35,46],[46,35,46]])):=tk _ _ (td _ _ (tc _ _ (tb _ _ ha)))
   have f3:Hk k2=some (.tup [.str (tx [118,119]),.ref l2]):=tk _ _ hd'
   have f4:Hk l2=some (.lst (vS [[35,46],[46,35],[35,35]])):=tk _ _ (td _ _ hc)
   have hK:Kn Hk kp knL:=by
    refine⟨[k1,k2],hk,rfl,λi a p g1 g2=>?_⟩
    rcases i with _ | _ | i
    ·cases g1
     cases g2
     exact⟨l1,f1,f2⟩
    ·cases g1
     cases g2
     exact⟨l2,f3,f4⟩
    ·simp at g1
   have rk:=sk _ _ g2
   have rl1:rl≠l1:=λe=>by rw[e] at g2;exact absurd (g2.symm.trans n1) (λz=>nomatch z)
   have rl2:rl≠l2:=λe=>by
    have:=sb _ _ g2
    rw[e] at this
    exact absurd (this.symm.trans n2) (λz=>nomatch z)
   refine⟨_,rfl,_,rfl,wr 12 x,tot,rfl,(by lia),λu' hI hl'=>?_⟩
   refine⟨_,rfl,u',kp,knL,rfl,(by lia),hK,K59.Wi,?_⟩
   rw[Ajw W12 hI]
   have oc:∀{y:List (List Nat)},out knL 12 x=.ok y->Clo y:=λe=>Ra K59.Wi W12 e
   have er:=Alx (kn:=knL) W12
   generalize wr 12 x=u at ul g1 er
   generalize out knL 12 x=R at g1 g2 rk oc er
   refine AlN λq2 G2 rf pv sg hq2 erf hpv=>?_
   refine⟨_,_,rfl,SqT.of hq2,rfl,_,_,rfl,_,_,rfl,rfl,?_⟩
   subst erf
   refine⟨_,rfl,_,rfl,rfl,_,rfl,?_⟩
   refine JT rfl ?_
   refine⟨_,rfl,(by show 2<=sizeLine;decide),λm1 nm1=>?_⟩
   obtain⟨J1,e,z1,w1,j1⟩:=step (o:=.lst [.str (tx [35,35,46]),.str (tx [46,35,46])]) sg nm1
   rw[e]
   refine⟨(by show 2<=sizeLine;decide),λm2 nm2=>?_⟩
   obtain⟨J2,e,z2,w2,j2⟩:=step (o:=.tup [.str (tx [118,118]),.ref m1]) z1 nm2
   rw[e]
   refine⟨(by show 3<=sizeLine;decide),λm3 nm3=>?_⟩
   obtain⟨J3,e,z3,w3,j3⟩:=step (o:=.lst [.str (tx [35,46]),.str (tx [46,35]),.str (tx [35,35])]) z2 nm3
   rw[e]
   refine⟨(by show 2<=sizeLine;decide),λm4 nm4=>?_⟩
   obtain⟨J4,e,z4,w4,j4⟩:=step (o:=.tup [.str (tx [118,119]),.ref m3]) z3 nm4
   rw[e]
   refine⟨(by show 2<=sizeLine;decide),λm5 nm5=>?_⟩
   obtain⟨J5,e,z5,w5,j5⟩:=step (o:=.lst [.ref m2,.ref m4]) z4 nm5
   rw[e]
   have b1:J5 m2=some (.tup [.str (tx [118,118]),.ref m1]):=w5 _ _ (w4 _ _ (w3 _ _ j2))
   have b2:J5 m1=some (.lst (vS [[35,35,46],[46,35,46]])):=w5 _ _ (w4 _ _ (w3 _ _ (w2 _ _ j1)))
   have b3:J5 m4=some (.tup [.str (tx [118,119]),.ref m3]):=w5 _ _ j4
   have b4:J5 m3=some (.lst (vS [[35,46],[46,35],[35,35]])):=w5 _ _ (w4 _ _ j3)
   have flat:∀{u:List (List Nat)} {i:Nat} {xx yy:V},(vS u)[i]?=some xx->(vS u)[i]?=some yy->ZK K J5 48 xx yy:=λ{u i xx yy} g1 g2=>by
    rw[g1] at g2
    cases g2
    obtain⟨w,_,rfl⟩:=GP g1
    exact .flat rfl
   have sl:∀{p q:Addr} {u:List (List Nat)},J5 p=some (.lst (vS u))->J5 q=some (.lst (vS u))->ZK K J5 49 (.ref p) (.ref q):=λh1 h2=>.lst (SqL.of h1) (SqL.of h2) rfl λi xx yy g1 g2=>flat g1 g2
   have st2:∀{p q c d:Addr} {nn:List Nat} {u:List (List Nat)},J5 p=some (.tup [.str (tx nn),.ref c])->J5 q=some (.tup [.str (tx nn),.ref d])->J5 c=some (.lst (vS u))->J5 d=some (.lst (vS u))->ZK K J5 50 (.ref p) (.ref q):=λh1 h2 h3 h4=>.tup (SqT.of h1) (SqT.of h2) rfl λi xx yy g1 g2=>by
    rcases i with _ | _ | i
    ·cases g1
     cases g2
     exact .flat rfl
    ·cases g1
     cases g2
     exact sl h3 h4
    ·simp at g1
   refine⟨kp,m5,rfl,rfl,⟨_,_,SqL.of (z5 _ _ hk),SqL.of j5,rfl,λi xx yy g1 g2=>?_⟩,_,rfl,Hu ?_⟩
   ·rcases i with _ | _ | i
    ·cases g1
     cases g2
     exact st2 (z5 _ _ f1) b1 (z5 _ _ f2) b2
    ·cases g1
     cases g2
     exact st2 (z5 _ _ f3) b3 (z5 _ _ f4) b4
    ·simp at g1
   have z6:Be G2 J5:=λb o e=>w5 _ _ (w4 _ _ (w3 _ _ (w2 _ _ (w1 _ _ e))))
   clear b1 b2 b3 b4 flat sl st2 j1 j2 j3 j4 j5 w1 w2 w3 w4 w5 z1 z2 z3 z4
   refine⟨_,rfl,rfl,_,rfl,?_⟩
   cases eR:R with
   | no f =>
    have nf:¬(V.str (dueR (Res.no f)):V)=V.str (Str.ofString ""):=by cases f <;> decide +kernel
    rw[decide_eq_false nf,AqE]
    exact Gq (k _)
   | ok y =>
    refine JT rfl ?_
    subst eR
    obtain⟨p,rfl,hp0⟩:=hpv y rfl
    have C:=oc rfl
    have m40:=C.m40
    have n40:=C.n40
    have n1':=C.n1
    have m1':=C.m1
    have rk:Hk rl=some (.lst (vS y)):=rk
    have rJ:=z5 _ _ rk
    have hpJ:Pc t J5 p y u:=hp0.mono λb o e=>z6 _ _ (Nf e).2
    obtain⟨yy,ey,hyy⟩:∃ yy:Nat,tot%(y.length:Int)=(yy:Int)/\yy<y.length:=by
     have h1:=Int.emod_nonneg tot (show(y.length:Int)≠0 by lia)
     have h2:=Int.emod_lt_of_pos tot (show(0:Int)<(y.length:Int) by lia)
     exact⟨(tot%(y.length:Int)).toNat,by lia,by lia⟩
    refine⟨_,rfl,_,rfl,_,_,rfl,.inl (SqL.of rJ),_,_,rfl,rfl,(by rw[Ba];lia),?_⟩
    rw[Ba]
    refine CK (v':=.int (yy:Int)) (congrArg V.int ey) rfl ?_
    refine⟨_,rfl,_,rfl,_,rfl,p,rl,y,u,rfl,hpJ,rJ,C,λJ6 z7=>⟨_,rfl,Hu ?_⟩⟩
    have hp6:=hpJ.mono z7
    have r6:=z7 _ _ rJ
    obtain⟨u0,hu0,lu0⟩:=C.at C.n1
    have hr:=Apu hyy
    have lr:=C.hm _ (ApI hyy)
    generalize y[yy]=r at hr lr
    rw[Ku]
    refine⟨rfl,_,rfl,rl,_,0,.str (tx u0),rfl,rfl,SqL.of r6,HS (i:=0) hu0,_,rfl,(by rw[Ai];exact big (by lia)),_,rfl,(by lia),(by rw[Ai];lia),?_⟩
    rw[Ai,lu0,Ap1]
    refine Ea (lo:=0) (n:=wdt y) (λi ys G3=>G3=J6/\ys=vS ((r.take i).map λc=>[c])) ⟨rfl,rfl⟩ ?_ ?_ ?_ ?_
    ·rintro i ys G3 hi ⟨rfl,rfl⟩
     rw[Ba,Apq,Ap2]
     lia
    ·exact Bq m40
    ·rintro i ys G3 hi ⟨rfl,rfl⟩
     refine Dh.no ?_
     have hri:i<r.length:=by lia
     obtain⟨CC,dx,lq,hCC,c1,c2⟩:=id hp6
     refine⟨_,rfl,p,dx,_,CC,rfl,c1,(Ve _ _).2.2.1,(pcC T hCC).c,(pcC T hCC).sign,_,rfl,_,rfl,p,y,u,r,i,yy,r[i],(by rw[ApS]),hp6,hr,Apu hri,(by lia),?_⟩
     refine CN.of hi ⟨rfl,?_⟩
     rw[CP,Ap4,Apu hri,Apx]
     rfl
    rintro ys G3 q9 ⟨rfl,rfl⟩ nq9
    rw[ApP (by lia)]
    obtain⟨J9,e9,s9,h9⟩:=nu9 (o:=.lst (vS (r.map λc=>[c]))) (.refl _) nq9
    rw[e9]
    have e9:(r.map λc=>[c]).flatten=r:=(Om id r).trans (Aqc _)
    refine⟨_,_,((r.map λc=>[c]).map tx),rfl,rfl,SqL.of (by rw[h9,GQ]),(by rw[JP,e9,Ai,Apz,Aqi];lia),?_⟩
    rw[FN,e9]
    have r9:=s9 _ _ r6
    have hp9:=hp6.mono s9
    refine⟨_,rfl,_,rfl,rl,_,_,.str (tx r),rfl,rfl,SqL.of r9,HS hr,rfl,_,rfl,?_⟩
    refine JT rfl ?_
    have zk9:Be Hk J9:=λb o e=>s9 _ _ (z7 _ _ (z5 _ _ e))
    refine⟨_,rfl,_,rfl,u,kp,knL,rfl,(by lia),hK.same zk9,K59.Wi,?_⟩
    rw[er]
    intro pb qb Jb tb' hpb hqb
    refine⟨_,_,rfl,SqT.of hqb,rfl,_,_,rfl,_,_,rfl,rfl,?_⟩
    have hpa:=hp9.mono tb'
    have Anu:Pc t Jb pb y u:=hpb.mono λb o e=>(Nf e).2
    have rb:=tb' _ _ r9
    refine⟨_,rfl,rfl,_,rfl,?_⟩
    refine JT rfl ?_
    refine⟨_,rfl,_,rfl,_,rfl,pb,rl,y,u,rfl,Anu,rb,C,λJc tc'=>⟨_,rfl,Hu ?_⟩⟩
    have hpc:=hpa.mono tc'
    have hpd:=Anu.mono tc'
    refine⟨_,rfl,DW T hpc λlA nlA=>?_⟩
    refine⟨.inl ⟨rfl,_,SqL.of Ae⟩,lA,_,_,rfl,rfl,Ae,(by rw[Ba];lia),?_⟩
    have sA:Be Jc (upd (upd Jc lA (.lst (vS y))) lA (.lst (vS y++[.str (Str.ofString "#")]))):=(Be.upd nlA).over nlA
    generalize upd (upd Jc lA (.lst (vS y))) lA (.lst (vS y++[.str (Str.ofString "#")]))=JA at sA ⊢
    refine⟨_,rfl,DW T (hpd.mono sA) λlB nlB=>?_⟩
    refine⟨.inl ⟨rfl,_,SqL.of Ae⟩,lB,_,rfl,rfl,Ae,?_⟩
    have sB:Be JA (upd (upd JA lB (.lst (vS y))) lB (.lst [])):=(Be.upd nlB).over nlB
    generalize upd (upd JA lB (.lst (vS y))) lB (.lst [])=JB at sB ⊢
    have zB:Be J9 JB:=λb o e=>sB _ _ (sA _ _ (tc' _ _ (tb' _ _ e)))
    have zkB:Be Hk JB:=zk9.trans zB
    have l1k:l1≠kp:=Ay (td _ _ (tc _ _ (tb _ _ ha))) nkp
    have Aot:l1≠k2:=Ay (tc _ _ (tb _ _ ha)) nk2
    have Anv:l1≠l2:=Ay (tb _ _ ha) n2
    refine⟨_,rfl,kp,_,0,.ref k1,rfl,rfl,SqL.of (zkB _ _ hk),rfl,k1,_,1,.ref l1,rfl,rfl,SqT.of (zkB _ _ f1),rfl,.inl ⟨rfl,_,SqL.of (zkB _ _ f2)⟩,l1,_,_,rfl,rfl,zkB _ _ f2,(by show 2<sizeLine;decide),?_⟩
    refine⟨_,rfl,kp,_,1,.ref k2,rfl,rfl,SqL.of (by rw[Ao (Ne.symm l1k)];exact zkB _ _ hk),rfl,k2,_,1,.ref l2,rfl,rfl,SqT.of (by rw[Ao (Ne.symm Aot)];exact zkB _ _ f3),rfl,.inl ⟨rfl,_,SqL.of (by rw[Ao (Ne.symm Anv)];exact zkB _ _ f4)⟩,l2,_,rfl,rfl,(by rw[Ao (Ne.symm Anv)];exact zkB _ _ f4),?_⟩
    have old:∀ b o,Hk b=none->JB b=some o->∀ X Y,(upd (upd JB l1 X) l2 Y) b=some o:=λb o hb e X Y=>by
     rw[Ao (Ne.symm (Ay f4 hb)),Ao (Ne.symm (Ay f2 hb))]
     exact e
    have rB:JB rl=some (.lst (vS y)):=zB _ _ r9
    refine⟨_,rfl,_,rfl,_,rfl,p,rl,y,u,rfl,?_,?_,C,λJE sE=>⟨_,rfl,Gq ⟨_,rfl,_,rfl,_,rfl,pb,rl,y,u,rfl,?_,?_,C,λJF sF=>k _⟩⟩⟩
    ·exact hp0.mono λb o e=>old b o (Nf e).1 (zB _ _ (s9 _ _ (z7 _ _ (z6 _ _ (Nf e).2)))) _ _
    ·rw[Ao rl2,Ao rl1];exact rB
    ·refine hpb.mono λb o e=>sE _ _ (old b o ?_ (sB _ _ (sA _ _ (tc' _ _ (Nf e).2))) _ _)
     cases hb:Hk b with
     | none=>rfl
     | some o'=>exact absurd ((zk9 _ _ hb).symm.trans (Nf e).1) (λz=>nomatch z)
    ·refine sE _ _ ?_
     rw[Ao rl2,Ao rl1];exact rB
end
theorem AlP{P:Program}{w:World}{K:W.Frag}{mg:Str->Option Value}{fa:Addr}{t:Adr}(hfa:mg "law" = some (.ref fa)) (T:Txt K mg t):∃ fd:FuncData,(∀(s:Shared) (v:Value),BindsTo s fd ⟨[v],[]⟩ [("script", v)])/\∀ base:Heap,K.In base->base.Ns mainGlobals mg->Br P w K mg base CX0 38 fa fd ["script"] (Acv K):=by
 have e:=hfa.symm.trans T.law.m
 injection e with e
 injection e with e
 subst e
 obtain⟨oc,od,kV,doc,pm,an,cdv,ct,osl,e1,lk,hcd⟩:=T.law.F.ex
 exact⟨t.AhM,λs v=>by rw[e1];exact .of_eq rfl,λbase _ _=>AlO T⟩
end Mine
open PySem PySem.W PyProof.Rows
namespace PySem.W.Fast
def tw18414068136177418336:=()
def tw15854497368709933848:=()
def tw11407904147344735338:=()
def tw17593997837303526796:=()
def tw16525483024358384341:=()
def tw663059164657883671:=()
def tw16207231824748833470:=()
def tw7851044805342868315:=()
def tw9692687916217378960:=()
def tw16834445726207910182:=()
def tw1906472760072998812:=()
def tw17079367624740225566:=()
def tw5697080277625027477:=()
def tw4232326140507976935:=()
def tw5803124373892519302:=()
def tw7167740876505633053:=()
def tw16581179623087806622:=()
def tw17428799742673897554:=()
def tw896517084748937224:=()
def tw351033110709840805:=()
def tw12464412939530358168:=()
def tw11566521618599089629:=()
def tw1445109530075094110:=()
def tw12483872107385988429:=()
def tw7965853888871990925:=()
def tw4493230637994151068:=()
def tw5777582093820557105:=()
def tw17952652952097283435:=()
def tw4078210104496115631:=()
def tw15317235458911407459:=()
def tw7257361668073478800:=()
def tw14452954457819436619:=()
def tw9324850321467321926:=()
def tw9565318388358185209:=()
def tw1031033737214384330:=()
def tw13687082382317784655:=()
def tw7387419823193033427:=()
def tw18324351745186144472:=()
def tw6363443667759846440:=()
def tw9964854938091510505:=()
def tw16029140339116301887:=()
def tw11948077161358413254:=()
def tw15141954726624573627:=()
def tw637959926751077927:=()
def tw10583051963740324354:=()
def tw6463493061534579173:=()
def tw13734958384762633943:=()
def tw13036490180657039034:=()
def tw2515882777807940202:=()
def tw10684277354633619887:=()
def tw14225752030041633936:=()
def tw11616743656551360644:=()
def tw17671426798996055462:=()
def tw9006691471228640153:=()
def tw17586837530772449813:=()
def tw14477556269261445004:=()
def tw3919915749074366868:=()
def tw12214231908105587196:=()
def tw154271109404416634:=()
def tw9529465471296107404:=()
def tw13835559082930217064:=()
def tw5625356861146301539:=()
def tw4880921039971349717:=()
def tw1976886100428510058:=()
def tw13526761448816369222:=()
def tw14271695124186019930:=()
def tw16342281025923566400:=()
def tw14895143181482684668:=()
def tw4819542969273866815:=()
def tw14096186640977199068:=()
def tw3866214157574215619:=()
def tw13966254654926867171:=()
def tw13889982140557930825:=()
def tw9530356491433391374:=()
def tw14435193764292521707:=()
def tw7259271970133294428:=()
def tw1355689270183376162:=()
def tw11016243461651331300:=()
def tw10883610835849179791:=()
def tw6907226234517669968:=()
def tw9784612470256880600:=()
def tw13472613116343966955:=()
def tw9877488330824231489:=()
def tw1431648087466516795:=()
def tw6920794566020370592:=()
def tw1925738069358085507:=()
def tw9830686668271809252:=()
def tw6841397788491638851:=()
def tw7654609774113124950:=()
def tw16297951919390534000:=()
def tw17215491121312879113:=()
def tw11755810556128728423:=()
def tw1899117747531770017:=()
def tw2428189946922872352:=()
def tw16302206064660513006:=()
def tw7566986023309228483:=()
def tw9763686896694640220:=()
def tw10342410760674371460:=()
def tw4917068800951234307:=()
def tw4759267723518466406:=()
def tw8981030641887564487:=()
def tw590073700626999044:=()
def tw12412484979154900086:=()
def tw13542837065554704436:=()
def tw6774072593656008922:=()
def tw5566265589935778985:=()
def tw527378791742518970:=()
def tw11524133395566543916:=()
def tw8145627556849209387:=()
def tw5811388269378769528:=()
def tw11958702473398637601:=()
def tw12973433857791607892:=()
def tw11124533898836921225:=()
def tw8684487672696475131:=()
def tw2176290618575478769:=()
def tw5608907149298539428:=()
def tw10300685750452426002:=()
def tw5180302392722121856:=()
def tw13075844455036606189:=()
def tw3418457535750695819:=()
def tw14818095142900195125:=()
def tw16843158630126211200:=()
def tw5799480894986556:=()
def tw16975873515271138797:=()
def tw8738768888759566133:=()
def tw5122123507548467442:=()
def tw13720278076518058179:=()
def tw16956019115034766325:=()
def tw18234367393879696049:=()
def tw9948679072305084277:=()
def tw7837574630415176960:=()
def tw10213028459909185028:=()
def tw3281211567334881783:=()
def tw2471931373198099326:=()
def tw4548748805936844809:=()
def tw15137300719204985792:=()
def tw16424834081074401413:=()
def tw11427888160521641916:=()
def tw13307483924472171992:=()
def tw16387184829383676155:=()
def tw8750264215985645087:=()
def tw6687290499802550901:=()
def tw6265979708434362493:=()
def tw5143197698606452113:=()
def tw10355253799851997179:=()
def tw3054746779543959546:=()
def tw692281490095096861:=()
def tw3873720617481733764:=()
def tw10508683179593007926:=()
def tw8887783813217904156:=()
def tw4456725247119622370:=()
def tw15517649469136756797:=()
def tw18267076622698674816:=()
def tw3823379610868397326:=()
def tw18248839881712985172:=()
def tw16015160847601382317:=()
def tw6692724819775559272:=()
def tw12742904873633013725:=()
def tw7499848055510183018:=()
def tw8462674593675732002:=()
def tw17223266896468354458:=()
def tw12514739838368107316:=()
def tw13553935235167488753:=()
def tw10114318210176034962:=()
def tw13445985166217571571:=()
def tw9757552346483394047:=()
def tw14819655612496550806:=()
def tw6020379564649122458:=()
def tw18035015048423880125:=()
def tw10313678992448146390:=()
def tw3420577952690688183:=()
def tw7246589507234009115:=()
def tw11644342628742235822:=()
def tw11616171891585947089:=()
def tw7170059294503369087:=()
def tw14917786447365117938:=()
def tw7271278726922577339:=()
def tw13917910541588653392:=()
def tw8447319933876116258:=()
def tw11746492168571093352:=()
def tw6901613752508013649:=()
def tw17096223790966562919:=()
def tw5027737092593300247:=()
def tw13472694854226279374:=()
def tw8538374289298177140:=()
def tw8106917797024007295:=()
def tw3673604521506462717:=()
def tw4669061194280888974:=()
def tw10189196209969357569:=()
def tw7229955936575425393:=()
def tw5547066400874647503:=()
def tw3970658093730013882:=()
def tw15780654862152999364:=()
def tw13485022179880896630:=()
def tw18254688914473125970:=()
def tw10310339457612324560:=()
def tw5657488539919036250:=()
def tw492730188119864024:=()
def tw17775992763485611981:=()
def tw10075343137341116186:=()
def tw9647026848323124344:=()
def tw14860873174376729329:=()
def tw10677512205452695022:=()
def tw10113000672480647683:=()
def tw9982873656853218325:=()
def tw1385613176842341399:=()
def tw3590223721849496929:=()
def tw12689989269189564352:=()
def tw14187005271383902146:=()
def tw15510928411596437825:=()
def tw854828605651441429:=()
def tw16630906444412872838:=()
def tw878961404918829893:=()
def tw3926556114237691526:=()
def tw17301638464817964530:=()
def tw10302098011438382573:=()
def tw7958663749528204468:=()
def tw9907997386288793940:=()
def tw4728356364044254689:=()
def tw6222129440457840684:=()
def tw9859469730517886745:=()
def tw4470627119637698610:=()
def tw821819046687325161:=()
def tw12719714546609517731:=()
def tw130905725129312427:=()
def tw8662004495574436664:=()
def tw17406996219337022581:=()
def tw1517931432428228801:=()
def tw5560590040840958262:=()
def tw13285466382985217985:=()
def tw4657621114193849828:=()
def tw12963416500232553678:=()
def tw1096619108794548308:=()
def tw4605949707117049052:=()
def tw12446990368656475775:=()
def tw10300787731827829493:=()
def tw11158547515243443732:=()
def tw16256123100585502829:=()
def tw9916289136914972220:=()
def tw4259839508577049292:=()
def tw7530764819289152219:=()
def tw15047143787583535118:=()
def tw14882201450211432434:=()
def tw14207007137850600809:=()
def tw14430228440751582568:=()
def tw10316453731321992516:=()
def tw10763448556932786207:=()
def tw17658707458243367132:=()
def tw631053893704084705:=()
def tw15883748394548371189:=()
def tw18064007576611455461:=()
def tw6440644015546833114:=()
def tw3403315879622727167:=()
def tw10154060462662619357:=()
def tw1482364571784065177:=()
def tw1076630616778804624:=()
def tw14299875724224048671:=()
def tw8830245864228082498:=()
def tw16299485418064971508:=()
def tw5170246095646871972:=()
def tw12019833108789632747:=()
def tw601019039675761525:=()
def tw11863327333616830732:=()
def tw16557798375747530227:=()
def tw3175116558009958450:=()
def tw13687039272031509984:=()
def tw13163954453589021701:=()
def tw5821343866687526193:=()
def tw3175045573500643921:=()
def tw16618645585372818677:=()
def tw6876871025499042254:=()
def tw8659383919080328890:=()
def tw11549243027383454287:=()
def tw17866615944100646323:=()
def tw5976548133842950767:=()
def tw5968384141710499659:=()
def tw12047304107946041825:=()
def tw8400234039583111912:=()
def tw15821049604061392305:=()
def tw6408751884238365653:=()
def tw14818661788903471292:=()
def tw10756662375274592283:=()
def tw5953114235485830110:=()
def tw824015992006385215:=()
def tw9874359558064295641:=()
def tw1264849996150708346:=()
def tw13918391285067289497:=()
def tw6754850392340450624:=()
def tw10302809409853407682:=()
def tw6810571160545193870:=()
def tw18094115454364034547:=()
def tw520374518598508788:=()
def tw4768453854214769161:=()
def tw10155027804157566189:=()
def tw8208845477704671540:=()
def tw10748650727565342357:=()
def tw310790524086273485:=()
def tw12760689777745086724:=()
def tw14870649640863934991:=()
def tw10152577127005664256:=()
def tw7311956532408030194:=()
def tw15751836747817547142:=()
def tw11034027649031699917:=()
def tw12855207420645366158:=()
def tw14220716104740078885:=()
def tw14111159149536964163:=()
def tw5040329447364244354:=()
def tw9874255772641513322:=()
def tw6234160313501724824:=()
def tw6786209607284204502:=()
def tw15476365188106472156:=()
def tw14625217555260216786:=()
def tw16944080249861185850:=()
def tw4231346230991053191:=()
def tw14985487511375496575:=()
def tw11401008587069951188:=()
def tw17203134102776564931:=()
def tw13579158549038855636:=()
def tw13511785508814598756:=()
def tw17334900835309455177:=()
def tw12097976154667069859:=()
def tw4228982757546423797:=()
def tw11661927246009205712:=()
def tw1099600979996446582:=()
def tw3104602650508576144:=()
def tw3742329173779832208:=()
def tw9590870430454934007:=()
def tw12945849634336399497:=()
def tw2486089140093454734:=()
def tw11368264802602001468:=()
def tw14204187661957831446:=()
def tw9789338789502059363:=()
def tw14700310278864927609:=()
def tw3349182597060098377:=()
def tw18204317356297785074:=()
def tw6577746365228927034:=()
def tw13425782419221827894:=()
def tw3002430638875823817:=()
def tw14294162546821616080:=()
def tw7202314033556924534:=()
def tw13912142037660620852:=()
def tw8717751259979281985:=()
def tw12541059201640522337:=()
def tw5312583175083641538:=()
def tw8267802040257385394:=()
def tw8407622668856279522:=()
def tw6322536858918204041:=()
def tw5248386199421898769:=()
def tw5349671950868921724:=()
def tw9466905025110619206:=()
def tw13659789261419097760:=()
def tw159910950832040378:=()
def tw16320226106119415341:=()
def tw17432143656758202472:=()
def tw5595089535530226468:=()
def tw10556647393529895588:=()
def tw4981201459220757013:=()
def tw18291022481495843495:=()
def tw1422053298747809908:=()
def tw10710887262053654098:=()
def tw5353477292175250643:=()
def tw15090095835044781121:=()
def tw4197462752402374740:=()
def tw5382739155999526845:=()
def tw10543166743378300022:=()
def tw5735697459396666512:=()
def tw13946469375028413812:=()
def tw1168348474743975188:=()
def tw17045080308807045680:=()
def tw12224619586085071023:=()
def tw11214366102459250219:=()
def tw7382404824531696233:=()
def tw14209518237118331730:=()
def tw11417399475392153509:=()
end PySem.W.Fast
set_option maxRecDepth 100000 in
set_option maxHeartbeats 0 in
theorem PySem.Challenge.cw_heddle_k59_whole_patterns_holds : PySem.Challenge.rw_heddle_k59_whole_patterns.Holds := by
 w_on;o_law;k_head;(case hw=>w_witness2)
 k_fill
 refine L2.AgU (l:=PySem.Challenge.rw_heddle_k59_whole_patterns) (n:=63) (k:=38) (x := "script") (CX:=L2.CX0) (sp:=Mine.Acv) rfl (by decide) rfl ⟨rfl,by decide,by decide⟩ (λw h Y=>W.kIn_of Y) ?F ?S ?C
 case F =>
  intro w mg fa h KX G hmg
  refine' Mine.AlP (t:=Mine.Adr.mk) hmg ?T
  case T =>
   constructor <;> (try dsimp only) <;> first
   | (refine' L2.DfH.df ⟨?a,?b⟩ KX G ?c;(case a=>k_is);(case b=>(apply L2.AgV <;> k_is));(case c=>(intro _ _ _ _ _ _ us hl;first | exact Mine.bl1 (λ_=>rfl) us hl | exact Mine.bl2 (λ_ _=>rfl) us hl | exact Mine.bl3 (λ_ _ _=>rfl) us hl | exact Mine.bl4 (λ_ _ _ _=>rfl) us hl)))
   | exact W.mg_none_of KX G (by k_is)
   | exact⟨_,W.mg_of KX G (by k_is)⟩
   | exact W.mg_of KX G (by k_is)
   | (refine' L2.MfH.mf ⟨?a,?b,?d⟩ ?c;(case a=>k_is);(case b=>k_is);(case d=>(apply L2.AgV <;> k_is));(case c=>(intro _ _ _ _ _ _ us hl;first | exact Mine.bl1 (λ_=>rfl) us hl | exact Mine.bl2 (λ_ _=>rfl) us hl | exact Mine.bl3 (λ_ _ _=>rfl) us hl | exact Mine.bl4 (λ_ _ _ _=>rfl) us hl)))
   | (apply L2.Alf <;> k_is)
   | (unfold L2.Cg;k_is)
   | (apply L2.Ald <;> first | k_exc | k_is)
   | k_is
   | kernel_rfl
   | (refine L2.Ajn (by k_is) rfl rfl (by decide) ?_;repeat (first | exact .nil | refine .cons ⟨_,rfl⟩ ?_))
   | (refine L2.Ali ?_;kernel_rfl)
   | (constructor <;> first | k_is | rfl)
 case S=>exact λK H a ns hl hO hS=>Mine.Acw hl hS
 case C=>exact λ_ _ _ _ z=>z
