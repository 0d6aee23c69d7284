import PyProof.Rows.All
import Wide.FinOn
import KE.KNestM
import OpenK.KOwn
import KE.KItem
import KE.IntText
import KE.KTabLook
import KE.KFromBytes
import KE.KIntText
import KE.KTab
import KE.KIsAll
import KE.KLam
import KE.KRevIter
import KE.KDictOf
import KE.KxBytes
import OpenK.KRaise
import Lean
import PyProof.EqAt
import PyProof.EqKinds
import PyProof.TupleCall
import PyProof.StrBlockL
import PyProof.EnumMake
import PyProof.CollectIter
import PyProof.JoinWalk
import PyProof.StrOps
import PyProof.StrLawsIdx
import PyProof.StrLawsIn
import PyProof.ListRange
import PyProof.Rows.Range3
import PyProof.Rows.SumAny
import KE.LcSums
import OpenK.KCls
import PyProof.LongRange
import PyProof.StrOps2
import PyProof.FitsBits
import PyProof.Rows.ZipGen
import PyProof.NeKinds
import PyProof.Draws
import PyProof.Rows.SeqMore
import Wide.Txt
import PyProof.Rows.StrNews
import PyProof.StrLawsChain
import PyProof.ConsumeWalk
import KE.KUnpack
import PySem.Challenge.RW_heddle_k74_refusals_stand_alone
set_option Elab.async false
set_option linter.all false
set_option maxRecDepth 100000
namespace Zz
def Apv:=@Nat.le_refl
def Apw:=@List.length_append
def Apx:=@List.length_map
def Apy:=@List.getElem?_eq_getElem
def Apz:=@List.length_cons
def Ap0:=@Nat.lt_of_lt_of_le
def Ap1:=@List.size_toArray
def Ap2:=@List.map_append
def Ap3:=@Nat.ne_of_lt
def Ap4:=@Bool.false_ne_true
def Ap5:=@List.map_cons
def Ap6:=@List.mem_cons_of_mem
def Ap7:=@Nat.zero_le
def Ap8:=@List.getElem?_map
def Ap9:=@List.length_replicate
def ApA:=@Nat.le_trans
def ApB:=@List.mem_cons_self
def ApC:=@Nat.lt_irrefl
def ApD:=@List.length_drop
def ApE:=@List.mem_append_right
def ApF:=@List.length_singleton
def ApG:=@List.length_range
def ApH:=@List.take_add_one
def ApI:=@List.range_succ
def ApJ:=@List.mem_cons
def ApK:=@Int.toNat_natCast
def ApL:=@List.lookup_cons
def ApM:=@List.flatten_cons
def ApN:=@List.not_mem_nil
def ApO:=@List.take_length
def ApP:=@List.mem_of_getElem?
def ApQ:=@List.replicate_succ
def ApR:=@List.getElem_mem
def ApS:=@List.take_of_length_le
def ApT:=@List.takeWhile_cons
def ApU:=@List.filterMap_cons
def ApV:=@List.getElem?_append_right
def ApW:=@List.append_assoc
def ApX:=@List.length_nil
def ApY:=@List.length_take
def ApZ:=@List.getElem?_append_left
def Aqa:=@Bool.and_eq_true
def Aqb:=@List.take_succ_cons
def Aqc:=@List.drop_drop
def Aqd:=@Bool.eq_iff_iff
def Aqe:=@Nat.le_of_eq
def Aqf:=@List.map_map
def Aqg:=@List.drop_zero
def Aqh:=@List.getD_eq_getElem?_getD
def Aqi:=@Nat.lt_succ_self
def Aqj:=@List.append_nil
def Aqk:=@List.map_nil
def Aql:=@List.length_reverse
def Aqm:=@List.sum_cons
def Aqn:=@List.cons_append
def Aqo:=@List.dropWhile_suffix
def Aqp:=@Nat.min_eq_left
def Aqq:=@Nat.le_of_lt
def Aqr:=@List.mem_append_left
def Aqs:=@Nat.ne_of_gt
def Aqt:=@Bool.and_false
def Aqu:=@List.eq_nil_of_length_eq_zero
def Aqv:=@List.takeWhile_append_dropWhile
def Aqw:=@Bool.true_and
def Aqx:=@List.getElem?_eq_none
def Aqy:=@Nat.sub_self
def Aqz:=@List.drop_length
def Aq0:=@List.getElem?_set_ne
def Aq1:=@Option.bind_some
def Aq2:=@List.map_congr_left
def Aq3:=@List.getElem?_drop
def Aq4:=@List.drop_eq_getElem_cons
def Aq5:=@List.take_append_of_le_length
def Aq6:=@List.getElem_of_mem
def Aq7:=@List.all_eq_true
def Aq8:=@List.drop_succ_cons
def Aq9:=@List.singleton_append
def AqA:=@List.take_append_drop
def AqB:=@List.eq_of_mem_replicate
def AqC:=@Int.emod_lt_of_pos
end Zz
open Zz
namespace L2
open PySem PySem.Spec PyProof.Rows
abbrev Key:=Sum Int Str
def Ajr:Key→Value→Bool
 | .inl k,v=>Value.isInt k v
 | .inr x,v=>Value.isStrOf x v
def AmY (w:World):Key→Int
 | .inl k=>hashInt k
 | .inr x=>hashStr w x
theorem Ef:∀{k:Key} {v:Value},Ajr k v=true→(∃ i t,k=Sum.inl i∧v=Value.int i t)∨(∃ x t,k=Sum.inr x∧v=Value.str x t)
 | .inl i,v,h=>by
  obtain⟨t,e⟩:=Value.isInt_shape (k:=i) (v:=v) h
  exact .inl ⟨i,t,rfl,e⟩
 | .inr x,v,h=>by
  obtain⟨t,e⟩:=Value.isStrOf_shape (x:=x) (v:=v) h
  exact .inr ⟨x,t,rfl,e⟩
theorem AjE(a b:Int):decide ((Sum.inl a:Key)=Sum.inl b)=(a == b):=by
 by_cases e:a=b
 ·subst e;simp
 ·have h:¬(Sum.inl a:Key)=Sum.inl b:=fun q=>e (Sum.inl.inj q)
  rw[decide_eq_false h]
  exact(beq_eq_false_iff_ne.mpr e).symm
theorem AjF(a b:Str):decide ((Sum.inr a:Key)=Sum.inr b)=decide (a=b):=by
 by_cases e:a=b
 ·subst e;simp
 ·have h:¬(Sum.inr a:Key)=Sum.inr b:=fun q=>e (Sum.inr.inj q)
  rw[decide_eq_false h,decide_eq_false e]
theorem AjG(a:Int)(b:Str):decide ((Sum.inl a:Key)=Sum.inr b)=false:=decide_eq_false (fun q=>nomatch q)
theorem AjH(a:Str)(b:Int):decide ((Sum.inr a:Key)=Sum.inl b)=false:=decide_eq_false (fun q=>nomatch q)
def Ac6 (prog:Program)(w:World):PySem.KeyKind prog w Key where
 is:=Ajr
 hash:=AmY w
 inj:=fun v a b ha hb=>by
  rcases Ef ha with ⟨i,t,rfl,rfl⟩ | ⟨x,t,rfl,rfl⟩
  ·rcases Ef hb with ⟨j,u,rfl,e⟩ | ⟨y,u,rfl,e⟩
   ·injection e with e1 _;rw[e1]
   ·exact nomatch e
  ·rcases Ef hb with ⟨j,u,rfl,e⟩ | ⟨y,u,rfl,e⟩
   ·exact nomatch e
   ·injection e with e1 _;rw[e1]
 byValue:=fun k v h=>by
  rcases Ef h with ⟨i,t,rfl,rfl⟩ | ⟨x,t,rfl,rfl⟩ <;> rfl
 pyHash:=fun hv h=>by
  rcases Ef hv with ⟨i,t,rfl,rfl⟩ | ⟨x,t,rfl,rfl⟩
  ·exact wpAny_pyHash_int h
  ·exact wpAny_pyHash_str h
 eqBool:=fun hu hv h=>by
  rcases Ef hu with ⟨i,t,rfl,rfl⟩ | ⟨x,t,rfl,rfl⟩
  ·rcases Ef hv with ⟨j,u,rfl,rfl⟩ | ⟨y,u,rfl,rfl⟩
   ·rw[AjE] at h;exact wpAny_eqBool_int h
   ·rw[AjG] at h;exact SeqAt.EqAt.int_str i t y u _ _ _ _ h
  ·rcases Ef hv with ⟨j,u,rfl,rfl⟩ | ⟨y,u,rfl,rfl⟩
   ·rw[AjH] at h;exact SeqAt.EqAt.str_int x t j u _ _ _ _ h
   ·rw[AjF] at h;exact wpAny_eqBool_str h
 «strs»:=fun k x t v h=>by
  rcases Ef h with ⟨i,u,rfl,e⟩ | ⟨y,u,rfl,e⟩
  ·exact nomatch e
  ·injection e with e1 _
   subst e1
   cases v <;> rfl
open PySem PySem.Spec PyProof.Rows
inductive V where
 | non | bl (b:Bool) | int (i:Int) | str (x:Str) | byt (b:Array UInt8) | flt (b:UInt64) | ref (a:Addr) | ty (n:String)
 deriving DecidableEq
def RelV:V→Value→Prop
 | .non,u=>u=Value.none
 | .bl b,u=>u=Value.bool b
 | .int i,u=>∃ t,u=Value.int i t
 | .str x,u=>∃ t,u=Value.str x t
 | .byt b,u=>∃ t,u=Value.bytes b t
 | .flt b,u=>∃ t,u=Value.float b t
 | .ref a,u=>u=Value.ref a
 | .ty n,u=>u=Value.type n
abbrev Vals:List V→List Value→Prop:=Paired RelV
theorem Vals.length{xs:List V}{us:List Value}(r:Vals xs us):xs.length=us.length:=Paired.length r
theorem Vals.get:∀{xs:List V} {us:List Value} {i:Nat} {x:V},Vals xs us→xs[i]?=some x→∃ u,us[i]?=some u∧RelV x u
 | _,_,_,_,.nil,e=>by simp at e
 | _,_,0,_,.cons r _,e=>by simp at e;subst e;exact⟨_,rfl,r⟩
 | _,_,i+1,x,.cons _ t,e=>by
  obtain⟨u,h1,h2⟩:=Vals.get (i:=i) (x:=x) t (by simpa using e)
  exact⟨u,by simpa using h1,h2⟩
theorem Vals.append:∀{xs ys:List V} {us ws:List Value},Vals xs us→Vals ys ws→Vals (xs++ys) (us++ws)
 | _,_,_,_,.nil,s=>s
 | _,_,_,_,.cons r t,s=>.cons r (Vals.append t s)
theorem Vals.take:∀{xs:List V} {us:List Value} (n:Nat),Vals xs us→Vals (xs.take n) (us.take n)
 | _,_,0,_=>.nil
 | _,_,_+1,.nil=>.nil
 | _,_,n+1,.cons r t=>.cons r (Vals.take n t)
theorem Vals.drop:∀{xs:List V} {us:List Value} (n:Nat),Vals xs us→Vals (xs.drop n) (us.drop n)
 | _,_,0,r=>r
 | _,_,_+1,.nil=>.nil
 | _,_,n+1,.cons _ t=>Vals.drop n t
def Ab4:Option V→Option Value→Prop
 | some v,some u=>RelV v u
 | none,none=>True
 | _,_=>False
def KV {κ:Type}:List (κ × V)→List (κ × Value)→Prop:=Paired fun(p:κ × V) (q:κ × Value)=>p.1=q.1∧RelV p.2 q.2
def kV:Key→V
 | .inl i=>.int i
 | .inr x=>.str x
inductive HO where
 | lst (xs:List V)
 | tup (xs:List V)
 | dK (kvs:List (Key × V)) | dT (kvs:List (List Key × V))
 | set (S:Int→Bool) (n:Nat)
 | ins (C dx:Addr) (fs:List (Str × V))
 | own (x:Addr)
 | xd (fs:List (Str × V))
 | met (f x:Addr)
 | rng (lo hi:Int)
 | frz (o:Obj) (u:HO)
 | tbl (ps:Array Value)
 | ext (φ:Heap→Prop)
abbrev Hp:=Addr→Option HO
def upd (H:Hp)(a:Addr)(o:HO):Hp:=fun b=>if b=a then some o else H b
theorem Ae{H:Hp}{a:Addr}{o:HO}:upd H a o a=some o:=by unfold upd;rw[if_pos rfl]
theorem Ao{H:Hp}{a b:Addr}{o:HO}(h:b≠a):upd H a o b=H b:=by unfold upd;rw[if_neg h]
theorem Ea{H:Hp}{a:Addr}{o u:HO}:upd (upd H a o) a u=upd H a u:=by
 funext b;unfold upd;split <;> rfl
theorem Bf{H:Hp}{a b:Addr}{o:HO}(h:H a=some o)(h':H b=none):a≠b:=by
 intro e;subst e;rw[h] at h';cases h'
section
variable (P:Program) (w:World)
def Fy (H:Hp)(h:Heap)(a:Addr):HO→Prop
 | .lst xs=>xs.length≤sizeLine∧∃(its:List Value) (n:Nat),Vals xs its∧h.get? a=some { cls:=.type "list", data:=.seq its.toArray n }
 | .tup xs=>xs.length≤sizeLine∧∃ its:List Value,Vals xs its∧IsTup h a its.toArray
 | .dK kvs=>kvs.length≤sizeLine∧(a == sysModules)=false∧∃ vs,KV kvs vs∧h.DictOf (Ac6 P w) a vs
 | .dT kvs=>kvs.length≤sizeLine∧(a == sysModules)=false∧∃ xs:List (List Key × Addr × Value),
   Paired (fun(p:List Key × V) (q:List Key × Addr × Value)=>p.1=q.1∧H q.2.1=some (.tup (p.1.map kV))∧RelV p.2 q.2.2) kvs xs ∧
   ∃ o es ep,h.get? a=some o∧o.ExactDict∧o.data=.dict es ep∧es.toList=xs.map (entryOfKey (tupleKind (Ac6 P w)))∧(xs.map (·.1)).Nodup
 | .set S n=>h.SetOf (intKind P w) a S n
 | .ins C dx fs=>H dx=some (.own a)∧fs.length≤1000∧dx≠a∧h.get? a=some (PySem.W.instObj C dx) ∧
   ∃ mA,h.Ns1 dx mA∧(∀ f,Ab4 (fs.lookup f) (mA f))∧PySem.Within mA (fs.map (·.1))
 | .own _=>∃ o,h.get? a=some o
 | .xd fs=>∃ mA,h.Ns1 a mA∧∀ f,Ab4 (fs.lookup f) (mA f)
 | .rng lo hi=>∃ t u v,h.get? a=some { cls:=.type "range", data:=.fields #[.int lo t,.int hi u,.int 1 v] }
 | .frz o u=>h.get? a=some o∧Fy H h a u
 | .tbl ps=>h.get? a=some { cls:=.none,data:=.fields ps }
 | .met f x=>h.get? a=some (PySem.W.methodObj (.ref f) (.ref x))
 | .ext φ=>φ h∧(∃ o,h.get? a=some o)∧∀ h1 h2:Heap,φ h1→(∀ o,h1.get? a=some o→h2.get? a=some o)→φ h2
def HOk (H:Hp)(h:Heap):Prop:=∀ a o,H a=some o→Fy P w H h a o
end
section
variable {P:Program}{w:World}{H H':Hp}{h h':Heap}{a:Addr}{o:HO}
theorem Fy.lt(x:Fy P w H h a o):a<h.objs.size:=by
 cases o with
 | lst xs=>obtain⟨_,_,_,_,e⟩:=x;exact Heap.lt_size e
 | tup xs=>obtain⟨_,_,_,p⟩:=x;exact p.lt
 | dK kvs=>obtain⟨_,_,_,_,o,_,_,e,_⟩:=x;exact Heap.lt_size e
 | dT kvs=>obtain⟨_,_,_,_,o,_,_,e,_⟩:=x;exact Heap.lt_size e
 | set S n=>obtain⟨o,_,_,_,e,_⟩:=x;exact Heap.lt_size e
 | ins C dx fs=>obtain⟨_,_,_,e,_⟩:=x;exact Heap.lt_size e
 | own y=>obtain⟨_,e⟩:=x;exact Heap.lt_size e
 | xd fs=>obtain⟨_,⟨_,_,_,e,_⟩,_⟩:=x;exact Heap.lt_size e
 | rng lo hi=>obtain⟨_,_,_,e⟩:=x;exact Heap.lt_size e
 | frz ob u=>obtain⟨e,_⟩:=x;exact Heap.lt_size e
 | tbl ps=>exact Heap.lt_size (show h.get? a=some _ from x)
 | met f y=>exact Heap.lt_size (show h.get? a=some _ from x)
 | ext φ=>obtain⟨_,⟨_,e⟩,_⟩:=x;exact Heap.lt_size e
theorem Paired.Al6{α β:Type}{F G:α→β→Prop}:∀{l₁:List α} {l₂:List β},Paired F l₁ l₂→(∀ a b,F a b→G a b)→Paired G l₁ l₂
 | _,_,.nil,_=>.nil
 | _,_,.cons r t,f=>.cons (f _ _ r) (Paired.Al6 t f)
theorem Fy.stay(x:Fy P w H h a o)(k:∀ b u,(b=a∨H b=some (.own a))→h.get? b=some u→h'.get? b=some u)
  (ho:∀ b,H b=some (.own a)→H' b=some (.own a)) (ht:∀ b xs,H b=some (.tup xs)→H' b=some (.tup xs)):Fy P w H' h' a o:=by
 induction o with
 | lst xs=>obtain⟨z,its,n,r,e⟩:=x;exact⟨z,its,n,r,k _ _ (.inl rfl) e⟩
 | tup xs=>obtain⟨z,its,r,ob,e,c⟩:=x;exact⟨z,its,r,ob,k _ _ (.inl rfl) e,c⟩
 | dK kvs=>obtain⟨z,y,vs,r,ob,es,ep,e,c⟩:=x;exact⟨z,y,vs,r,ob,es,ep,k _ _ (.inl rfl) e,c⟩
 | dT kvs =>
  obtain⟨z,y,xs,r,ob,es,ep,e,c⟩:=x
  exact⟨z,y,xs,Paired.Al6 r fun p q z=>⟨z.1,ht _ _ z.2.1,z.2.2⟩,ob,es,ep,k _ _ (.inl rfl) e,c⟩
 | set S n=>obtain⟨ob,es,ep,t,e,c⟩:=x;exact⟨ob,es,ep,t,k _ _ (.inl rfl) e,c⟩
 | ins C dx fs =>
  obtain⟨d,z,ne,e,mA,⟨od,es,ep,e2,c⟩,r⟩:=x
  exact⟨ho _ d,z,ne,k _ _ (.inl rfl) e,mA,⟨od,es,ep,k _ _ (.inr d) e2,c⟩,r⟩
 | own y=>obtain⟨ob,e⟩:=x;exact⟨ob,k _ _ (.inl rfl) e⟩
 | xd fs=>obtain⟨mA,⟨od,es,ep,e,c⟩,r⟩:=x;exact⟨mA,⟨od,es,ep,k _ _ (.inl rfl) e,c⟩,r⟩
 | rng lo hi=>obtain⟨t,u,v,e⟩:=x;exact⟨t,u,v,k _ _ (.inl rfl) e⟩
 | frz ob u ih=>obtain⟨e,q⟩:=x;exact⟨k _ _ (.inl rfl) e,ih q⟩
 | tbl ps =>
  have e:h.get? a=some { cls:=.none,data:=.fields ps }:=x
  show h'.get? a=some { cls:=.none,data:=.fields ps }
  exact k a _ (.inl rfl) e
 | met f y =>
  have e:h.get? a=some (PySem.W.methodObj (.ref f) (.ref y)):=x
  show h'.get? a=some (PySem.W.methodObj (.ref f) (.ref y))
  exact k a _ (.inl rfl) e
 | ext φ=>obtain⟨p,⟨o,e⟩,st⟩:=x;exact⟨st _ _ p fun o q=>k _ _ (.inl rfl) q,⟨o,k _ _ (.inl rfl) e⟩,st⟩
theorem HOk.lt(x:HOk P w H h)(e:H a=some o):a<h.objs.size:=(x a o e).lt
theorem HOk.fresh(x:HOk P w H h)(e:h.objs.size≤a):H a=none:=by
 cases q:H a with
 | none=>rfl
 | some u=>exact absurd (Ap0 (x.lt q) e) (ApC _)
theorem HOk.kept(x:HOk P w H h)(k:∀ b u,h.get? b=some u→h'.get? b=some u):HOk P w H h':=fun a o e =>
 (x a o e).stay (fun b u _ q=>k b u q) (fun _ q=>q) fun _ _ q=>q
theorem HOk.laid(x:HOk P w H h)(k:∀ b u,h.get? b=some u→h'.get? b=some u)(hp:h.objs.size≤a)(new:Fy P w (upd H a o) h' a o):HOk P w (upd H a o) h':=fun b u e=>by
 have hn:=x.fresh hp
 by_cases hb:b=a
 ·subst hb;rw[Ae] at e;cases e;exact new
 ·rw[Ao hb] at e
  exact(x b u e).stay (fun c v _ q=>k c v q) (fun c q=>by rw[Ao (Bf q hn)];exact q) fun c xs q=>by rw[Ao (Bf q hn)];exact q
end
def Rd (H:Hp)(a:Addr)(u:HO):Prop:=H a=some u∨∃ o,H a=some (.frz o u)
theorem Rd.ok{P:Program}{w:World}{H:Hp}{h:Heap}{a:Addr}{u:HO}(r:Rd H a u)(x:HOk P w H h):Fy P w H h a u:=by
 rcases r with r | ⟨o,r⟩
 ·exact x a u r
 ·obtain⟨_,q⟩:=x a _ r
  exact q
def Mut:Option HO→Prop
 | some (.lst _)=>True
 | some (.dK _)=>True
 | some (.dT _)=>True
 | some (.set _ _)=>True
 | some (.ins _ _ _)=>True
 | some (.ext _)=>True
 | _=>False
section
variable {P:Program}{w:World}{H:Hp}{h h':Heap}{x e:Addr}{o':HO}
theorem HOk.write(ok:HOk P w H h)(mu:Mut (H x))(he:e=x∨H e=some (.own x))(k:∀ b u,b≠e→h.get? b=some u→h'.get? b=some u)(heo:∃ u,h'.get? e=some u)
  (new:Fy P w (upd H x o') h' x o'):HOk P w (upd H x o') h':=fun b u q=>by
 have Al7:∀ c y,H c=some (.own y)→c≠x:=fun c y r z=>by subst z;rw[r] at mu;exact mu
 have AmZ:∀ c xs,H c=some (.tup xs)→c≠x:=fun c xs r z=>by subst z;rw[r] at mu;exact mu
 by_cases hb:b=x
 ·subst hb;rw[Ae] at q;cases q;exact new
 ·rw[Ao hb] at q
  by_cases hbe:b=e
  ·have q':H b=some (.own x):=by
    rcases he with z | z
    ·exact absurd (hbe.trans z) hb
    ·rw[hbe];exact z
   rw[q] at q';cases q'
   obtain⟨v,hv⟩:=heo
   exact⟨v,by rw[hbe];exact hv⟩
  ·refine(ok b u q).stay (fun c v hc r=>k c v ?_ r) (fun c r=>by rw[Ao (Al7 c b r)];exact r) fun c xs r=>by rw[Ao (AmZ c xs r)];exact r
   rcases hc with rfl | hc
   ·exact hbe
   ·rintro rfl
    rcases he with z | z
    ·exact Al7 c b hc z
    ·rw[hc] at z;cases z;exact hb rfl
end
structure Un (fs ex:List Addr) (H H':Hp) (h h':Heap):Prop where
 keep:∀ b o,h.get? b=some o→H b=none→b∉fs→b∉ex→h'.get? b=some o
 slot:∀ b o,h.get? b=some o→H b=none→b∈fs→b∉ex→∃ sl,h'.get? b=some { o with slots:=sl }
 free:∀ b o,h.get? b=some o→H b=none→b∉ex→H' b=none
 there:∀ b o,h.get? b=some o→b∉ex→∃ o',h'.get? b=some o'
 tups:∀ b xs,H b=some (.tup xs)→H' b=some (.tup xs)
 Iz:∀ b o u,H b=some (.frz o u)→H' b=some (.frz o u)
 J5:∀ b ps,H b=some (.tbl ps)→∃ more,H' b=some (.tbl (ps++more))
section
variable {fs fs' ex ex':List Addr}{H H1 H2:Hp}{h h1 h2 h':Heap}{a x e:Addr}{o:HO}
theorem Un.any(u:Un fs ex H H1 h h1){b:Addr}{ob:Obj}(q:h.get? b=some ob)(n:H b=none)(hx:b∉ex):∃ sl,h1.get? b=some { ob with slots:=sl }:=by
 by_cases hb:b∈fs
 ·exact u.slot b ob q n hb hx
 ·exact⟨ob.slots,u.keep b ob q n hb hx⟩
theorem Un.kept(k:∀ b u,h.get? b=some u→h'.get? b=some u):Un fs ex H H h h' :=
 ⟨fun b ob q _ _ _=>k b ob q,fun b ob q _ _ _=>⟨ob.slots,k b ob q⟩,fun _ _ _ n _=>n,fun b ob q _=>⟨ob,k b ob q⟩,fun _ _ q=>q,fun _ _ _ q=>q,fun _ ps q=>⟨#[],by rw[q];simp⟩⟩
theorem Un.refl:Un fs ex H H h h:=Un.kept fun _ _ q=>q
theorem Un.laid(k:∀ b u,h.get? b=some u→h'.get? b=some u)(hp:h.objs.size≤a)(hn:H a=none):Un fs ex H (upd H a o) h h' where
 keep:=fun b u q _ _ _=>k b u q
 slot:=fun b u q _ _ _=>⟨u.slots,k b u q⟩
 free:=fun b u q n _=>by rw[Ao (Ap3 (Ap0 (Heap.lt_size q) hp))];exact n
 there:=fun b u q _=>⟨u,k b u q⟩
 tups:=fun b xs q=>by rw[Ao (Bf q hn)];exact q
 Iz:=fun b u xs q=>by rw[Ao (Bf q hn)];exact q
 J5:=fun b ps q=>⟨#[],by rw[Ao (Bf q hn),q];simp⟩
theorem Un.write(mu:Mut (H x))(he:e=x∨H e=some (.own x))(k:∀ b u,b≠e→h.get? b=some u→h'.get? b=some u)(heo:∃ u,h'.get? e=some u):Un fs ex H (upd H x o) h h':=by
 have hx:∀ b,H b=none→b≠x:=fun b n z=>by subst z;rw[n] at mu;exact mu
 have hb:∀ b,H b=none→b≠e:=fun b n z=>by
  subst z
  rcases he with r | r
  ·exact hx b n r
  ·rw[n] at r;cases r
 have hm:∀ b u,H b=some u→¬Mut (some u)→b≠x:=fun b u q nm z=>by subst z;rw[q] at mu;exact nm mu
 refine⟨fun b u q n _ _=>k b u (hb b n) q,fun b u q n _ _=>⟨u.slots,k b u (hb b n) q⟩,fun b u q n _=>by rw[Ao (hx b n)];exact n,fun b u q _=>?_,
  fun b xs q=>by rw[Ao (hm b _ q fun z=>z)];exact q,fun b u xs q=>by rw[Ao (hm b _ q fun z=>z)];exact q,fun b ps q=>⟨#[],by rw[Ao (hm b _ q fun z=>z),q];simp⟩⟩
 by_cases hbe:b=e
 ·subst hbe;exact heo
 ·exact⟨u,k b u hbe q⟩
end
def trk (h:Heap)(H:Hp):List Addr:=(List.range h.objs.size).filter fun a=>(H a).isSome
def Ac7 (h:Heap)(H:Hp):Heap:=PySem.W.hideAll h (trk h H)
theorem Afo(h:Heap)(H:Hp):(Ac7 h H).objs.size=h.objs.size:=PySem.W.hideAll_size _ _
theorem Agm{h:Heap}{H:Hp}{b:Addr}{o:Obj}(e:h.get? b=some o)(n:H b=none):(Ac7 h H).get? b=some o :=
 PySem.W.hideAll_get _ e fun hm=>by
  have q:(H b).isSome=true:=(List.mem_filter.mp hm).2
  rw[n] at q;simp at q
theorem Aik{h:Heap}{H:Hp}{b:Addr}{o:Obj}(e:(Ac7 h H).get? b=some o):h.get? b=some o∧H b=none:=by
 have e':h.get? b=some o:=PySem.W.of_hideAll (trk h H) e
 refine⟨e',?_⟩
 cases q:H b with
 | none=>rfl
 | some x =>
  have hm:b∈trk h H:=List.mem_filter.mpr ⟨List.mem_range.mpr (Heap.lt_size e'),by simp[q]⟩
  have z:(Ac7 h H).get? b=none:=PySem.W.hideAll_none (trk h H) hm
  rw[z] at e;cases e
def Ail (g h:Heap)(L:Addr):List (Addr × Obj):=(List.range h.objs.size).filterMap fun a=>if a=L∨(g.get? a).isSome=true then none else (h.get? a).map fun o=>(a,o)
def rest(g h:Heap)(L d:Addr):List (Addr × Obj):=(Ail g h L).filter fun p=>decide (p.1≠d)
open PySem PySem.Spec PyProof.Rows
structure Mod (K:PySem.W.Frag) (mg:Str→Option Value) (base:Heap):Prop where
 kin:K.In base
 glob:base.Ns mainGlobals mg
 blt:∃ mb,base.Ns builtinsNs mb∧∀ x:Str,x ≠ "__name__" → mb x=bootBuiltins x
 nolimit:base.NoLimit
structure Cx where
 prog:Program
 w:World
 K:PySem.W.Frag
 mg:Str→Option Value
 base:Heap
 A:Around
 N:List Str
 s₀:Shared
 H₀:Hp
 env:Env
 outer:List Env
 stack:List Env
 ex:List Addr
 fn:Str→Bool
 calm:Bool
 pn:List (Addr × Obj)
 xe:Value→Shared→Prop
def frs (l:List Env):List Addr:=l.filterMap (·.frame)
abbrev Cx.fs (X:Cx):List Addr:=frs X.outer
def Vis (sc:Scope)(x:Str):Prop:=sc.names.lookup x=some .local∨sc.names.lookup x=some .cell∨sc.names.lookup x=some .free
def Loc (sc:Scope)(x:Str):Prop:=sc.names.lookup x=some .local∨sc.names.lookup x=some .cell
def Look(env:Env)(h:Heap)(m:Str→Option Value)(x:Str)(u:Value):Prop :=
 (env.kindOf x=some .local∧m x=some u)∨((env.kindOf x=some .cell∨env.kindOf x=some .free)∧∃ c,env.cells.lookup x=some c∧h.IsCell c (some u))
structure Cx.Ok (X:Cx):Prop where
 mod:Mod X.K X.mg X.base
 kind:X.env.scope.kind=.function
 glob:X.env.globals=mainGlobals
 blt:X.env.builtins=builtinsNs
 above:X.s₀.heap.objs.size≤X.env.locals
 inj:∀ x y c,X.env.cells.lookup x=some c→X.env.cells.lookup y=some c→x=y
 has:∀ x,(X.env.kindOf x=some .cell∨X.env.kindOf x=some .free)→∃ c,X.env.cells.lookup x=some c
 cab:∀ x c,X.fn x=true→X.env.cells.lookup x=some c→X.s₀.heap.objs.size≤c
 hd:X.calm=true→X.A.handled=none
 frames:X.A.frames=some X.stack
 stk:X.stack=X.outer∨(X.stack=X.env::X.outer∧X.env.frame=some X.env.locals)
 exf:∀ b∈X.ex,b≠X.env.locals∧∀ x c,X.env.cells.lookup x=some c→c≠b
 bs:∀ b o,X.base.get? b=some o→X.s₀.heap.get? b=some o∧X.H₀ b=none
 bsz:X.base.objs.size≤X.s₀.heap.objs.size
 Adx:∀ b o,X.base.get? b=some o→b∉X.ex
 Ac8:∀ b∈X.ex,b∉X.fs
 Tr:X.s₀.heap.FunFrames X.base X.outer
 frf:∀ b∈X.fs,X.H₀ b=none
structure Inv (X:Cx) (pins:List (Addr × Obj)) (σ:List (Option V)) (H:Hp) (s:Shared):Prop where
 ok:X.Ok
 os:s.os=X.s₀.os
 bare:AllBare s.gens
 base:Un X.fs X.ex X.H₀ H X.s₀.heap s.heap
 loc:∃ m,s.heap.Ns X.env.locals m∧∀(i:Nat) (x:Str) (v:V),X.N[i]?=some x→σ[i]?=some (some v)→Vis X.env.scope x→∃ u,RelV v u∧Look X.env s.heap m x u
 cell:∀ x c,X.env.cells.lookup x=some c→∃ v,s.heap.IsCell c v
 free:H X.env.locals=none
 Km:∀ x c,X.env.cells.lookup x=some c→H c=none
 pin:∀ p∈X.pn++pins,s.heap.get? p.1=some p.2∧H p.1=none∧p.1≠X.env.locals∧p.1∉X.fs∧∀ v,p.2.data≠.cell v
 hok:HOk X.prog X.w H s.heap
 len:σ.length=X.N.length
section
variable {X:Cx}{pins:List (Addr × Obj)}{σ:List (Option V)}{H H':Hp}{s:Shared}{h':Heap}
theorem Cx.Ok.Ana(ok:X.Ok){b:Addr}{o:Obj}(e:X.base.get? b=some o):b∉X.fs:=fun hb=>by
 have:=(ok.Tr.mem hb).1
 rw[e] at this;cases this
theorem Inv.bs(I:Inv X pins σ H s):∀ b o,X.base.get? b=some o→s.heap.get? b=some o∧H b=none:=fun b o e =>
 ⟨I.base.keep b o (I.ok.bs b o e).1 (I.ok.bs b o e).2 (I.ok.Ana e) (I.ok.Adx b o e),I.base.free b o (I.ok.bs b o e).1 (I.ok.bs b o e).2 (I.ok.Adx b o e)⟩
theorem Inv.bk(I:Inv X pins σ H s):∀ b o,X.base.get? b=some o→s.heap.get? b=some o:=fun b o e=>(I.bs b o e).1
theorem Inv.mod(I:Inv X pins σ H s):Mod X.K X.mg X.base:=I.ok.mod
theorem Inv.kIn(I:Inv X pins σ H s):X.K.In s.heap:=I.ok.mod.kin.keeps I.bk
theorem Inv.lt(I:Inv X pins σ H s):X.env.locals<s.heap.objs.size:=let ⟨_,hn,_⟩:=I.loc;hn.lt
theorem Inv.sz(I:Inv X pins σ H s):X.s₀.heap.objs.size≤s.heap.objs.size:=ApA I.ok.above (Aqq I.lt)
theorem Inv.Anb(I:Inv X pins σ H s){a:Addr}(h:s.heap.objs.size≤a):a∉X.fs:=fun hb=>by
 obtain⟨_,o,ho,_⟩:=I.ok.Tr.mem hb
 exact absurd (Ap0 (Heap.lt_size ho) (ApA I.sz h)) (ApC _)
theorem Inv.cne(I:Inv X pins σ H s):∀ x c,X.env.cells.lookup x=some c→c≠X.env.locals:=fun x c e z=>by
 obtain⟨v,o,ho,hd⟩:=I.cell x c e
 obtain⟨m,⟨o',es,ep,ho',hd',_⟩,_⟩:=I.loc
 rw[z,ho'] at ho;cases ho;rw[hd'] at hd;cases hd
theorem Inv.Tr(I:Inv X pins σ H s):s.heap.FunFrames X.base X.outer:=by
 have all:∀(l:List Env),(∀ b∈frs l,b∈X.fs)→X.s₀.heap.FunFrames X.base l→s.heap.FunFrames X.base l:=by
  intro l
  induction l with
  | nil=>intro _ _;trivial
  | cons env r ih =>
   intro hs hl
   obtain⟨hk,⟨L,o,hf,hn,ho,hd⟩,hr⟩:=hl
   have hL:L∈X.fs:=hs L (by unfold frs;rw[ApU,hf];exact ApB)
   obtain⟨sl,e⟩:=I.base.slot L o ho (I.ok.frf L hL) hL fun z=>I.ok.Ac8 L z hL
   exact⟨hk,⟨L,_,hf,hn,e,hd⟩,ih (fun b hb=>hs b (by unfold frs;rw[ApU,hf];exact Ap6 _ hb)) hr⟩
 exact all X.outer (fun _ hb=>hb) I.ok.Tr
theorem Inv.stack(I:Inv X pins σ H s):s.heap.FunFrames X.base X.stack:=by
 rcases I.ok.stk with e | ⟨e,hf⟩
 ·rw[e];exact I.Tr
 ·rw[e]
  obtain⟨m,hn,_⟩:=I.loc
  refine .cons (by rw[I.ok.kind];decide) hf hn ?_ I.Tr
  exact Heap.get?_none_of_le (ApA I.ok.bsz I.ok.above)
theorem Inv.Ac9(I:Inv X pins σ H s):∀ b∈frs X.stack,b∈X.env.locals::X.fs:=fun b hb=>by
 rcases I.ok.stk with e | ⟨e,hf⟩
 ·rw[e] at hb;exact Ap6 _ hb
 ·rw[e] at hb
  unfold frs at hb
  rw[ApU,hf] at hb
  exact hb
theorem Inv.Aam(I:Inv X pins σ H s):∀ b∈frs X.stack,H b=none:=fun b hb=>by
 rcases List.mem_cons.mp (I.Ac9 b hb) with e | hb
 ·rw[e];exact I.free
 ·obtain⟨_,o,ho,_⟩:=I.ok.Tr.mem hb
  exact I.base.free b o ho (I.ok.frf b hb) fun z=>I.ok.Ac8 b z hb
theorem Inv.step{g':Array GenState}{t':Nat}{d':Drawn}{ch:List Addr}(I:Inv X pins σ H s)
  (hch:∀ b∈ch,(b∈X.ex∨X.s₀.heap.objs.size≤b)∧b≠X.env.locals∧(∀ x c,X.env.cells.lookup x=some c→c≠b)∧∀ p∈X.pn++pins,p.1≠b)
  (keep:∀ b o,b≠X.env.locals→b∉X.fs→b∉ch→s.heap.get? b=some o→H b=none→h'.get? b=some o)
  (slot:∀ b o,b≠X.env.locals→b∈X.fs→b∉ch→s.heap.get? b=some o→H b=none→∃ sl,h'.get? b=some { o with slots:=sl }) (free:∀ b o,b∉ch→s.heap.get? b=some o→H b=none→H' b=none)
  (there:∀ b o,b∉ch→s.heap.get? b=some o→∃ o',h'.get? b=some o')
  (tups:∀ b xs,H b=some (.tup xs)→H' b=some (.tup xs)) (Iz:∀ b o u,H b=some (.frz o u)→H' b=some (.frz o u)) (J5:∀ b ps,H b=some (.tbl ps)→∃ more,H' b=some (.tbl (ps++more)))
  (ns:∀ m,s.heap.Ns X.env.locals m→h'.Ns X.env.locals m) (hok:HOk X.prog X.w H' h') (hg:AllBare g') :
  Inv X pins σ H' { s with heap:=h',gens:=g',drawn:=d',toks:=t' }:=by
 have neL:∀ b o,X.s₀.heap.get? b=some o→b≠X.env.locals:=fun b o e=>Ap3 (Ap0 (Heap.lt_size e) I.ok.above)
 have neC:∀ b o,X.s₀.heap.get? b=some o→b∉X.ex→b∉ch:=fun b o e hx hb=>by
  rcases(hch b hb).1 with z | z
  ·exact hx z
  ·exact absurd (Ap0 (Heap.lt_size e) z) (ApC _)
 have cellK:∀ x c,X.env.cells.lookup x=some c→∀ v,s.heap.IsCell c v→h'.IsCell c v:=fun x c e v ⟨o,ho,hd⟩=>by
  have nch:c∉ch:=fun z=>(hch c z).2.2.1 x c e rfl
  by_cases hc:c∈X.fs
  ·obtain⟨sl,q⟩:=slot c o (I.cne x c e) hc nch ho (I.Km x c e)
   exact⟨_,q,hd⟩
  ·exact⟨o,keep c o (I.cne x c e) hc nch ho (I.Km x c e),hd⟩
 refine⟨I.ok,I.os,hg,⟨fun b o e n hb hx=>?_,fun b o e n hb hx=>?_,fun b o e n hx=>?_,fun b o e hx=>?_,fun b xs e=>tups b xs (I.base.tups b xs e),fun b o xs e=>Iz b o xs (I.base.Iz b o xs e),fun b ps e=>?_⟩,?_,fun x c e=>?_,?_,fun x c e=>?_,fun p hp=>?_,hok,I.len⟩
 ·exact keep b o (neL b o e) hb (neC b o e hx) (I.base.keep b o e n hb hx) (I.base.free b o e n hx)
 ·obtain⟨sl,e1⟩:=I.base.slot b o e n hb hx
  obtain⟨sl',e2⟩:=slot b _ (neL b o e) hb (neC b o e hx) e1 (I.base.free b o e n hx)
  exact⟨sl',e2⟩
 ·obtain⟨o',e1⟩:=I.base.there b o e hx
  exact free b o' (neC b o e hx) e1 (I.base.free b o e n hx)
 ·obtain⟨o',e1⟩:=I.base.there b o e hx
  exact there b o' (neC b o e hx) e1
 ·obtain⟨m1,e1⟩:=I.base.J5 b ps e
  obtain⟨m2,e2⟩:=J5 b _ e1
  exact⟨m1++m2,by rw[e2,Array.append_assoc]⟩
 ·obtain⟨m,hn,hl⟩:=I.loc
  refine⟨m,ns m hn,fun i x v e1 e2 e3=>?_⟩
  obtain⟨u,r,l⟩:=hl i x v e1 e2 e3
  refine⟨u,r,?_⟩
  rcases l with l | ⟨k,c,e,z⟩
  ·exact .inl l
  ·exact .inr ⟨k,c,e,cellK x c e _ z⟩
 ·obtain⟨v,z⟩:=I.cell x c e
  exact⟨v,cellK x c e v z⟩
 ·obtain⟨m,⟨o,_,_,ho,_⟩,_⟩:=I.loc
  exact free _ o (fun z=>(hch _ z).2.1 rfl) ho I.free
 ·obtain⟨v,o,ho,hd⟩:=I.cell x c e
  exact free c o (fun z=>(hch c z).2.2.1 x c e rfl) ho (I.Km x c e)
 ·obtain⟨e,n,ne,nf,d⟩:=I.pin p hp
  have nch:p.1∉ch:=fun z=>(hch p.1 z).2.2.2 p hp rfl
  exact⟨keep p.1 p.2 ne nf nch e n,free p.1 p.2 nch e n,ne,nf,d⟩
theorem Inv.un{t':Nat}(I:Inv X pins σ H s)(u:Un X.fs [] H H' s.heap h')(hok:HOk X.prog X.w H' h'):Inv X pins σ H' { s with heap:=h',toks:=t' }:=by
 obtain⟨m,⟨o,es,ep,ho,r⟩,_⟩:=id I.loc
 obtain⟨sl,hL⟩:=u.any ho I.free (by simp)
 exact I.step (g':=s.gens) (d':=s.drawn) (ch:=[]) (fun _ z=>nomatch z) (fun b o _ hb _ e n=>u.keep b o e n hb (by simp)) (fun b o _ hb _ e n=>u.slot b o e n hb (by simp)) (fun b o _ e n=>u.free b o e n (by simp)) (fun b o _ e=>u.there b o e (by simp)) u.tups u.Iz u.J5 (fun m' hm=>by
  obtain⟨o',es',ep',ho',r'⟩:=hm
  rw[ho] at ho';cases ho'
  exact⟨_,es',ep',hL,r'⟩) hok I.bare
theorem Inv.call{g':Array GenState}{t':Nat}{d':Drawn}{ch:List Addr}(I:Inv X pins σ H s)(u:Un (frs X.stack) ch H H' s.heap h')(hok:HOk X.prog X.w H' h')(hg:AllBare g')
  (hch:∀ b∈ch,(b∈X.ex∨X.s₀.heap.objs.size≤b)∧b≠X.env.locals∧(∀ x c,X.env.cells.lookup x=some c→c≠b)∧∀ p∈X.pn++pins,p.1≠b) :
  Inv X pins σ H' { s with heap:=h',gens:=g',drawn:=d',toks:=t' }:=by
 obtain⟨m,⟨o,es,ep,ho,r⟩,_⟩:=id I.loc
 obtain⟨sl,hL⟩:=u.any ho I.free fun z=>(hch _ z).2.1 rfl
 exact I.step (ch:=ch) hch (fun b o hL hb hc e n=>u.keep b o e n (fun z=>(List.mem_cons.mp (I.Ac9 b z)).elim hL hb) hc) (fun b o _ _ hc e n=>u.any e n hc) (fun b o hc e n=>u.free b o e n hc) (fun b o hc e=>u.there b o e hc) u.tups u.Iz u.J5 (fun m' hm=>by
  obtain⟨o',es',ep',ho',r'⟩:=hm
  rw[ho] at ho';cases ho'
  exact⟨_,es',ep',hL,r'⟩) hok hg
theorem Inv.turned{t':Nat}{it:Addr}(I:Inv X pins σ H s)(k:∀ b o,b≠it→s.heap.get? b=some o→h'.get? b=some o)(hn:H it=none)(hL:it≠X.env.locals)
  (h1:it∈X.ex∨X.s₀.heap.objs.size≤it) (h2:∀ x c,X.env.cells.lookup x=some c→c≠it) (h3:∀ p∈X.pn++pins,p.1≠it):Inv X pins σ H { s with heap:=h',toks:=t' }:=by
 have nit:∀ b u,H b=some u→b≠it:=fun b u e z=>by rw[z,hn] at e;cases e
 refine I.step (g':=s.gens) (d':=s.drawn) (ch:=[it]) (fun b hb=>?_) (fun b o _ _ hc e _=>k b o (fun z=>hc (by simp[z])) e) (fun b o _ _ hc e _=>⟨o.slots,k b o (fun z=>hc (by simp[z])) e⟩) (fun _ _ _ _ n=>n)
  (fun b o hc e=>⟨o,k b o (fun z=>hc (by simp[z])) e⟩) (fun _ _ e=>e) (fun _ _ _ e=>e) (fun b ps e=>⟨#[],by rw[e];simp⟩) (fun m hm=>?_) (fun b u e=>?_) I.bare
 ·have e:b=it:=by simpa using hb
  subst e
  exact⟨h1,hL,h2,h3⟩
 ·obtain⟨o,es,ep,ho,r⟩:=hm
  exact⟨o,es,ep,k _ o (Ne.symm hL) ho,r⟩
 ·refine(I.hok b u e).stay (fun c v hc q=>k c v ?_ q) (fun _ q=>q) fun _ _ q=>q
  rcases hc with z | z
  ·rw[z];exact nit b u e
  ·exact nit c _ z
theorem Inv.tok(I:Inv X pins σ H s)(t:Nat):Inv X pins σ H { s with toks:=t }:=I.un (h':=s.heap) (t':=t) Un.refl I.hok
theorem Inv.kept{t':Nat}(I:Inv X pins σ H s)(k:∀ b u,s.heap.get? b=some u→h'.get? b=some u):Inv X pins σ H { s with heap:=h',toks:=t' }:=I.un (Un.kept k) (I.hok.kept k)
theorem Inv.laid{a:Addr}{o:HO}{t':Nat}(I:Inv X pins σ H s)(k:∀ b u,s.heap.get? b=some u→h'.get? b=some u)(hp:s.heap.objs.size≤a)(new:Fy X.prog X.w (upd H a o) h' a o) :
  Inv X pins σ (upd H a o) { s with heap:=h',toks:=t' }:=I.un (Un.laid k hp (I.hok.fresh hp)) (I.hok.laid k hp new)
theorem Inv.write{x e:Addr}{o:HO}{t':Nat}(I:Inv X pins σ H s)(mu:Mut (H x))(he:e=x∨H e=some (.own x))(k:∀ b u,b≠e→s.heap.get? b=some u→h'.get? b=some u)(heo:∃ u,h'.get? e=some u)
  (new:Fy X.prog X.w (upd H x o) h' x o):Inv X pins σ (upd H x o) { s with heap:=h',toks:=t' }:=I.un (Un.write mu he k heo) (I.hok.write mu he k heo new)
theorem Inv.Ko{Ajs:List (Addr × Obj)}(I:Inv X pins σ H s)(h:∀ p∈Ajs,s.heap.get? p.1=some p.2∧H p.1=none∧p.1≠X.env.locals∧p.1∉X.fs∧∀ v,p.2.data≠.cell v):Inv X Ajs σ H s :=
 ⟨I.ok,I.os,I.bare,I.base,I.loc,I.cell,I.free,I.Km,fun p hp=>(List.mem_append.mp hp).elim (fun z=>I.pin p (Aqr _ z)) (h p),I.hok,I.len⟩
theorem Aav{N:List Str}(hN:N.Nodup){i j:Nat}{x:Str}(a:N[i]?=some x)(b:N[j]?=some x):i=j:=by
 obtain⟨h1,e1⟩:=List.getElem?_eq_some_iff.mp a
 obtain⟨h2,e2⟩:=List.getElem?_eq_some_iff.mp b
 exact(List.getElem_inj hN).mp (e1.trans e2.symm)
theorem Xp{M:Model}{A:Around}{E:Value→Shared→Prop}{i:Nat}{x:Str}{v:V}{u:Value}{Q:Unit→Shared→Prop}(I:Inv X pins σ H s)(hN:X.N.Nodup)(hi:X.N[i]?=some x)(hx:Loc X.env.scope x)(r:RelV v u)
  (h:∀ s',Inv X pins (σ.set i (some v)) H s'→(∃ a,Heap.SameBut a s.heap s'.heap∧(a=X.env.locals∨X.env.cells.lookup x=some a))→Q () s') (hf:X.fn x=true∨X.env.scope.names.lookup x=some .local:=by first | exact .inl rfl | exact .inr rfl | assumption):wpAny M A (storeName X.env x u) Q E s:=by
 obtain⟨m,hn,hl⟩:=id I.loc
 have hcls:(X.env.scope.kind == .class || (X.env.scope.kind == .module && X.env.locals != X.env.globals))=false:=by rw[I.ok.kind];rfl
 have hiσ:i<σ.length:=by rw[I.len];exact(List.getElem?_eq_some_iff.mp hi).1
 have cne:=I.cne
 have tracked:∀{a:Addr} {h':Heap},(∃ o,s.heap.get? a=some o∧H a=none)→Heap.SameBut a s.heap h'→HOk X.prog X.w H h':=fun {a h'} ha hs b ob e=>by
  obtain⟨_,_,hfree⟩:=ha
  refine(I.hok b ob e).stay (fun c w' hc q=>(hs.2 c ?_).trans q) (fun _ q=>q) fun _ _ q=>q
  rintro rfl
  rcases hc with rfl | hc
  ·rw[hfree] at e;cases e
  ·rw[hfree] at hc;cases hc
 rcases hx with hk | hk
 ·refine wpAny_storeName_local hk hn (fun h' hn' hs=>?_) hcls
  obtain⟨oL,_,_,hoL,_⟩:=id hn
  refine h _ ⟨I.ok,I.os,I.bare,⟨fun b o e n hb hx=>?_,fun b o e n hb hx=>?_,I.base.free,fun b o e hx=>?_,I.base.tups,I.base.Iz,I.base.J5⟩,⟨_,hn',fun j y v' e1 e2 e3=>?_⟩,fun y c e=>?_,I.free,I.Km,fun p hp=>?_,tracked ⟨oL,hoL,I.free⟩ hs,by simpa using I.len⟩ ⟨_,hs,.inl rfl⟩
  ·exact(hs.2 b (Ap3 (Ap0 (Heap.lt_size e) I.ok.above))).trans (I.base.keep b o e n hb hx)
  ·obtain⟨sl,e1⟩:=I.base.slot b o e n hb hx
   exact⟨sl,(hs.2 b (Ap3 (Ap0 (Heap.lt_size e) I.ok.above))).trans e1⟩
  ·obtain⟨o',e1⟩:=I.base.there b o e hx
   exact⟨o',(hs.2 b (Ap3 (Ap0 (Heap.lt_size e) I.ok.above))).trans e1⟩
  ·by_cases hj:j=i
   ·subst hj
    rw[hi] at e1;cases e1
    rw[List.getElem?_set_self hiσ] at e2
    cases e2
    exact⟨u,r,.inl ⟨hk,by simp⟩⟩
   ·rw[Aq0 (Ne.symm hj)] at e2
    obtain⟨u',r',q⟩:=hl j y v' e1 e2 e3
    refine⟨u',r',?_⟩
    rcases q with ⟨k,e⟩ | ⟨k,c,e,z⟩
    ·refine .inl ⟨k,?_⟩
     have:y≠x:=fun e=>hj (Aav hN e1 (e▸hi))
     simp[this,e]
    ·exact .inr ⟨k,c,e,z.sameBut hs (cne y c e)⟩
  ·obtain⟨w',z⟩:=I.cell y c e
   exact⟨w',z.sameBut hs (cne y c e)⟩
  ·obtain⟨e,n,ne,nf,d⟩:=I.pin p hp
   exact⟨(hs.2 p.1 ne).trans e,n,ne,nf,d⟩
 ·have hfn:X.fn x=true:=by
   rcases hf with z | z
   ·exact z
   ·rw[z] at hk;cases hk
  obtain⟨c,hc⟩:=I.ok.has x (.inl hk)
  obtain⟨w',z⟩:=I.cell x c hc
  refine wpAny_storeName_cell I.ok.kind hk hc z (fun h' hc' hs=>?_)
  obtain⟨oc,hoc,Anc⟩:=id z
  refine h { s with heap:=h' } ⟨I.ok,I.os,I.bare,⟨fun b o e n hb hx=>?_,fun b o e n hb hx=>?_,I.base.free,fun b o e hx=>?_,I.base.tups,I.base.Iz,I.base.J5⟩,⟨m,hn.sameBut hs (Ne.symm (cne x c hc)),fun j y v' e1 e2 e3=>?_⟩,fun y c' e=>?_,I.free,I.Km,fun p hp=>?_,tracked ⟨oc,hoc,I.Km x c hc⟩ hs,by simpa using I.len⟩ ⟨c,hs,.inr hc⟩
  ·exact(hs.2 b (Ap3 (Ap0 (Heap.lt_size e) (I.ok.cab x c hfn hc)))).trans (I.base.keep b o e n hb hx)
  ·obtain⟨sl,e1⟩:=I.base.slot b o e n hb hx
   exact⟨sl,(hs.2 b (Ap3 (Ap0 (Heap.lt_size e) (I.ok.cab x c hfn hc)))).trans e1⟩
  ·obtain⟨o',e1⟩:=I.base.there b o e hx
   exact⟨o',(hs.2 b (Ap3 (Ap0 (Heap.lt_size e) (I.ok.cab x c hfn hc)))).trans e1⟩
  ·by_cases hj:j=i
   ·subst hj
    rw[hi] at e1;cases e1
    rw[List.getElem?_set_self hiσ] at e2
    cases e2
    exact⟨u,r,.inr ⟨.inl hk,c,hc,hc'⟩⟩
   ·rw[Aq0 (Ne.symm hj)] at e2
    obtain⟨u',r',q⟩:=hl j y v' e1 e2 e3
    refine⟨u',r',?_⟩
    rcases q with q | ⟨k,c',e,z'⟩
    ·exact .inl q
    ·refine .inr ⟨k,c',e,z'.sameBut hs ?_⟩
     rintro rfl
     exact hj (Aav hN e1 (I.ok.inj _ _ _ e hc▸hi))
  ·by_cases hcc:c'=c
   ·subst hcc;exact⟨_,hc'⟩
   ·obtain⟨w2,z2⟩:=I.cell y c' e
    exact⟨w2,z2.sameBut hs hcc⟩
  ·obtain⟨e,n,ne,nf,d⟩:=I.pin p hp
   refine⟨(hs.2 p.1 ?_).trans e,n,ne,nf,d⟩
   intro q
   rw[q,hoc] at e
   have q':oc=p.2:=Option.some.inj e
   exact d w' (by rw[← q'];exact Anc)
theorem Vd{M:Model}{A:Around}{E:Value→Shared→Prop}{i:Nat}{x:Str}{v:V}{u:Value}{Q:Unit→Shared→Prop}(I:Inv X pins σ H s)(hN:X.N.Nodup)(hi:X.N[i]?=some x)(hx:Loc X.env.scope x)(r:RelV v u)
  (h:∀ s',Inv X pins (σ.set i (some v)) H s'→Q () s') (hf:X.fn x=true∨X.env.scope.names.lookup x=some .local:=by first | exact .inl rfl | exact .inr rfl | assumption):wpAny M A (storeName X.env x u) Q E s :=
 Xp I hN hi hx r (fun s' I' _=>h s' I') hf
theorem Inv.call'{s':Shared}{ch:List Addr}(I:Inv X pins σ H s)(ho:s'.os=s.os)(u:Un (frs X.stack) ch H H' s.heap s'.heap)(hok:HOk X.prog X.w H' s'.heap)(hg:AllBare s'.gens)
  (hch:∀ b∈ch,(b∈X.ex∨X.s₀.heap.objs.size≤b)∧b≠X.env.locals∧(∀ x c,X.env.cells.lookup x=some c→c≠b)∧∀ p∈X.pn++pins,p.1≠b):Inv X pins σ H' s':=by
 obtain⟨h',g',d',t',o'⟩:=s'
 have e:o'=s.os:=ho
 subst e
 exact I.call (g':=g') (t':=t') (d':=d') u hok hg hch
end
abbrev XK:=Value→Option Addr→Hp→Prop
abbrev St:=List (Option V)
abbrev VK:=V→Hp→Prop
abbrev TE:=St→Hp→VK→Prop
abbrev TT:=St→Hp→(Bool→Hp→Prop)→Prop
abbrev TA:=St→Hp→(List V→Hp→Prop)→Prop
structure Ends where
 nx:St→Hp→Prop
 rt:VK
 bk:St→Hp→Prop:=fun _ _=>False
 ct:St→Hp→Prop:=fun _ _=>False
abbrev TS:=Ends→St→Hp→Prop
def EP (X:Cx)(pins:List (Addr × Obj))(σ:St)(Q:VK)(u:Value)(s':Shared):Prop:=∃ v H',Inv X pins σ H' s'∧RelV v u∧Q v H'
def TP (X:Cx)(pins:List (Addr × Obj))(σ:St)(Q:Bool→Hp→Prop)(b:Bool)(s':Shared):Prop:=∃ H',Inv X pins σ H' s'∧Q b H'
def AP (X:Cx)(pins:List (Addr × Obj))(σ:St)(Q:List V→Hp→Prop)(us:List Value)(s':Shared):Prop:=∃ vs H',Inv X pins σ H' s'∧Vals vs us∧Q vs H'
def SP (X:Cx)(pins:List (Addr × Obj))(D:Ends)(f:Flow)(s':Shared):Prop :=
 match f with
 | .next=>∃ σ' H',Inv X pins σ' H' s'∧D.nx σ' H'
 | .brk=>∃ σ' H',Inv X pins σ' H' s'∧D.bk σ' H'
 | .cont=>∃ σ' H',Inv X pins σ' H' s'∧D.ct σ' H'
 | .ret u=>∃ v σ' H',Inv X pins σ' H' s'∧RelV v u∧D.rt v H'
def PE (X:Cx)(e:Expr)(t:TE):Prop :=
 ∀(pins:List (Addr × Obj)) (s:Shared) (σ:St) (H:Hp) (Q:VK),Inv X pins σ H s→t σ H Q→wpAny (model X.prog X.w) X.A (eval e X.env) (EP X pins σ Q) X.xe s
def PT (X:Cx)(e:Expr)(t:TT):Prop :=
 ∀(pins:List (Addr × Obj)) (s:Shared) (σ:St) (H:Hp) (Q:Bool→Hp→Prop),Inv X pins σ H s→t σ H Q→wpAny (model X.prog X.w) X.A (isTrue e X.env (eval e X.env)) (TP X pins σ Q) X.xe s
def PW (X:Cx)(e:Expr)(t:TT):Prop :=
 ∀(whole:Sem Value) (pins:List (Addr × Obj)) (s:Shared) (σ:St) (H:Hp) (Q:Bool→Hp→Prop),Inv X pins σ H s→t σ H Q→wpAny (model X.prog X.w) X.A (isTrue e X.env whole) (TP X pins σ Q) X.xe s
theorem PW.pt{X:Cx}{e:Expr}{t:TT}(h:PW X e t):PT X e t:=h _
def PA (X:Cx)(es:List Expr)(t:TA):Prop :=
 ∀(pos:Pos) (pins:List (Addr × Obj)) (s:Shared) (σ:St) (H:Hp) (Q:List V→Hp→Prop),Inv X pins σ H s→t σ H Q→wpAny (model X.prog X.w) X.A (spliced (backTo pos (starEach es X.env))) (AP X pins σ Q) X.xe s
def PS (X:Cx)(st:Stmt)(t:TS):Prop :=
 ∀(pins:List (Addr × Obj)) (s:Shared) (σ:St) (H:Hp) (D:Ends),Inv X pins σ H s→t D σ H→wpAny (model X.prog X.w) X.A (exec st X.env) (SP X pins D) X.xe s
def PSs (X:Cx)(st:List Stmt)(t:TS):Prop :=
 ∀(pins:List (Addr × Obj)) (s:Shared) (σ:St) (H:Hp) (D:Ends),Inv X pins σ H s→t D σ H→wpAny (model X.prog X.w) X.A (execs st X.env) (SP X pins D) X.xe s
theorem thn{α:Type}{t:Sem α}{Q Q':α→Shared→Prop}{M:Model}{A:Around}{E:Value→Shared→Prop}{s:Shared}(h:wpAny M A t Q E s)(hQ:∀ a s,Q a s→Q' a s):wpAny M A t Q' E s:=wpAny_mono h hQ fun _ _ x=>x
open PySem PySem.Spec PyProof.Rows
section
variable {X:Cx}
def Al8 (i:Nat):TE:=fun σ H Q=>∃ v,σ[i]?=some (some v)∧Q v H
def tC (v:V):TE:=fun _ H Q=>Q v H
theorem AjI{i:Nat}{x:Str}{pos:Pos}(hN:X.N[i]?=some x)(hv:Vis X.env.scope x)(hd:(x == ("__debug__" : Str))=false:=by decide) (hcd:(x == ("__classdict__" : Str))=false:=by decide):PE X (.Name x pos) (Al8 i):=by
 intro pins s σ H Q I h
 obtain⟨v,e,h⟩:=h
 obtain⟨m,hn,hl⟩:=I.loc
 obtain⟨u,r,l⟩:=hl i x v hN e hv
 have fin:EP X pins σ Q u s:=⟨v,H,I,r,h⟩
 rcases l with ⟨hk,hm⟩ | ⟨hk,c,hc,hcell⟩
 ·exact wpAny_Name (wpAny_loadName_local I.ok.kind hk hn hm fin) hd
 ·rcases hk with hk | hk
  ·exact wpAny_Name (wpAny_loadName_cell I.ok.kind hk hc hcell fin) hd
  ·exact wpAny_Name (wpAny_loadName_free I.ok.kind hk hc hcell fin hcd) hd
theorem Ai{i j pos}:PE X (.Constant (.int i) j pos) (tC (.int i)):=fun _ _ _ H _ I h=>wpAny_Constant_int ⟨.int i,H,I.tok _,⟨_,rfl⟩,h⟩
theorem Ik{b j pos}:PE X (.Constant (.bool b) j pos) (tC (.bl b)):=fun _ _ _ H _ I h=>Constant_bool ⟨.bl b,H,I,rfl,h⟩
theorem La{j pos}:PE X (.Constant .none j pos) (tC .non):=fun _ _ _ H _ I h=>Constant_none ⟨.non,H,I,rfl,h⟩
theorem Ad{x j pos}:PE X (.Constant (.str x) j pos) (tC (.str x)):=fun _ _ _ H _ I h=>Calls.Constant_str ⟨.str x,H,I.tok _,⟨_,rfl⟩,h⟩
def Gl (X:Cx)(x:Str):Prop:=X.env.kindOf x=some .globalImplicit
theorem QT{E:Value→Shared→Prop}{pins:List (Addr × Obj)}{s:Shared}{σ:St}{H:Hp}{x:Str}{u:Value}{pos:Pos}{Q:Value→Shared→Prop}(I:Inv X pins σ H s)(hg:Gl X x)(hm:X.mg x=some u)(h:Q u s)
  (hd:(x == ("__debug__" : Str))=false:=by decide):wpAny (model X.prog X.w) X.A (eval (.Name x pos) X.env) Q E s :=
 Calls.Name_function_global I.ok.kind hg (Calls.loadGlobal_global (by rw[I.ok.glob];exact I.mod.glob.keeps I.bk) hm h) hd
theorem Xq{E:Value→Shared→Prop}{pins:List (Addr × Obj)}{s:Shared}{σ:St}{H:Hp}{x:Str}{u:Value}{pos:Pos}{Q:Value→Shared→Prop}(I:Inv X pins σ H s)(hg:Gl X x)(hm:X.mg x=none)(hv:bootBuiltins x=some u)(h:Q u s)
  (hn:x ≠ "__name__" := by decide) (hd:(x == ("__debug__" : Str))=false:=by decide):wpAny (model X.prog X.w) X.A (eval (.Name x pos) X.env) Q E s:=by
 obtain⟨mb,h1,h2⟩:=I.mod.blt
 exact Calls.Name_function_global I.ok.kind hg (Calls.loadGlobal_builtin (by rw[I.ok.glob];exact I.mod.glob.keeps I.bk) hm (by rw[I.ok.blt];exact h1.keeps I.bk) ((h2 x hn).trans hv) h) hd
theorem Ci{x:Str}{v:V}{u:Value}{pos:Pos}(hg:Gl X x)(hm:X.mg x=some u)(r:RelV v u)(hd:(x == ("__debug__" : Str))=false:=by decide):PE X (.Name x pos) (tC v) :=
 fun _ _ _ H _ I h=>QT I hg hm ⟨v,H,I,r,h⟩ hd
theorem Ep{x:Str}{v:V}{u:Value}{pos:Pos}(hg:Gl X x)(hm:X.mg x=none)(hv:bootBuiltins x=some u)(r:RelV v u)(hn:x ≠ "__name__" := by decide) (hd:(x == ("__debug__" : Str))=false:=by decide):PE X (.Name x pos) (tC v) :=
 fun _ _ _ H _ I h=>Xq I hg hm hv ⟨v,H,I,r,h⟩ hn hd
def t2I (ta tb:TE)(k:Int→Int→Hp→Prop):St→Hp→Prop:=fun σ H=>ta σ H fun x H1=>tb σ H1 fun y H2=>∃ i j,x=.int i∧y=.int j∧k i j H2
def AoG (ta tb:TE):TE:=fun σ H Q=>t2I ta tb (fun i j H2=>Q (.int (i+j)) H2) σ H
def AoH (ta tb:TE):TE:=fun σ H Q=>t2I ta tb (fun i j H2=>Q (.int (i-j)) H2) σ H
def AoI (ta tb:TE):TE:=fun σ H Q=>t2I ta tb (fun i j H2=>(-(2 ^ 64)<i∧i<2 ^ 64)∧Q (.int (i*j)) H2) σ H
variable {a b:Expr}{ta tb:TE}{pos:Pos}
def PC (X:Cx)(op:CmpOp)(a b:Expr)(t:TE):Prop :=
 ∀(pins:List (Addr × Obj)) (s:Shared) (σ:St) (H:Hp) (Q:VK),Inv X pins σ H s→t σ H Q →
  wpAny (model X.prog X.w) X.A (eval a X.env) (fun v s₁=>wpAny (model X.prog X.w) X.A (eval b X.env) (fun u s₂=>wpAny (model X.prog X.w) X.A (compareOp op v u) (EP X pins σ Q) X.xe s₂) X.xe s₁) X.xe s
theorem Agn(b:Expr){op:CmpOp}(h:op≠.In)(h2:op≠.NotIn):behindInMarks op b=false:=by
 have e1:(op == CmpOp.In)=false:=by cases op <;> first | rfl | exact absurd rfl h
 have e2:(op == CmpOp.NotIn)=false:=by cases op <;> first | rfl | exact absurd rfl h2
 cases b <;> simp[behindInMarks,e1,e2]
def Afp (p:Int→Int→Bool)(ta tb:TE):TE:=fun σ H Q=>t2I ta tb (fun i j H2=>Q (.bl (p i j)) H2) σ H
abbrev tLt:TE→TE→TE:=Afp fun i j=>decide (i<j)
abbrev tLe:TE→TE→TE:=Afp fun i j=>decide (i≤j)
abbrev tGt:TE→TE→TE:=Afp fun i j=>decide (j<i)
abbrev tGe:TE→TE→TE:=Afp fun i j=>decide (j≤i)
abbrev AoJ:TE→TE→TE:=Afp fun i j=>decide (i=j)
abbrev AoK:TE→TE→TE:=Afp fun i j=>!decide (i=j)
def AoL (ta:TE):TE:=fun σ H Q=>ta σ H fun x H1=>Q (.bl (decide (x=.non))) H1
def Aoh (ta:TE):TE:=fun σ H Q=>ta σ H fun x H1=>Q (.bl (!decide (x=.non))) H1
def tB (t:TE):TT:=fun σ H Q=>t σ H fun x H1=>∃ c,x=.bl c∧Q c H1
theorem AjJ{op:CmpOp}{t:TE}(h:PC X op a b t)(h1:behindInMarks op b=false:=by first | exact Agn _ (by decide) (by decide) | rfl):PT X (.Compare a [op] [b] pos) (tB t):=by
 intro pins s σ H Q I hw
 refine wpAny_isTrue_Compare1 (thn (h pins s σ H _ I hw) fun v s1 h1=>thn h1 fun u s2 h2=>thn h2 fun c s3 ⟨x,H1,I1,r1,q1⟩=>?_) h1
 obtain⟨d,rfl,q⟩:=q1
 cases r1
 exact wpAny_truthy_bool ⟨H1,I1,q⟩
theorem Cw{e:Expr}{t:TE}(h:PE X e t)(he:∀ whole,isTrue e X.env whole=(do let v ← whole;standAt e.pos;holding [v] (truthy v)):=by intro _;rfl):PT X e (tB t):=by
 intro pins s σ H Q I hw
 refine isTrue_plain (thn (h pins s σ H _ I hw) fun v s1 ⟨x,H1,I1,r1,q1⟩=>?_) (he _)
 obtain⟨d,rfl,q⟩:=q1
 cases r1
 exact wpAny_truthy_bool ⟨H1,I1,q⟩
variable {tA tB':TT}{rest:List Expr}
def Ane (t u:TT):TT:=fun σ H Q=>t σ H fun c H1=>if c=true then u σ H1 Q else Q false H1
def tOr (t u:TT):TT:=fun σ H Q=>t σ H fun c H1=>if c=true then Q true H1 else u σ H1 Q
def Anf (t:TT):TT:=fun σ H Q=>t σ H fun c H1=>Q (!c) H1
theorem pw_and1(ha:PT X a tA):PW X (.BoolOp .And [a] pos) tA:=by
 intro wh pins s σ H Q I h
 refine isTrue_and (thn (ha pins s σ H Q I h) fun c s1 e=>?_)
 cases c with
 | true=>exact isTrue_and_nil e
 | false=>exact e
theorem pw_or1(ha:PT X a tA):PW X (.BoolOp .Or [a] pos) tA:=by
 intro wh pins s σ H Q I h
 refine isTrue_or (thn (ha pins s σ H Q I h) fun c s1 e=>?_)
 cases c with
 | false=>exact isTrue_or_nil e
 | true=>exact e
theorem pw_and(ha:PT X a tA)(hb:PW X (.BoolOp .And (b::rest) pos) tB'):PW X (.BoolOp .And (a::b::rest) pos) (Ane tA tB'):=by
 intro wh pins s σ H Q I h
 refine isTrue_and (thn (ha pins s σ H _ I h) fun c s1 ⟨H1,I1,q1⟩=>?_)
 cases c with
 | true=>exact hb wh pins s1 σ H1 Q I1 q1
 | false=>exact⟨H1,I1,q1⟩
theorem pw_or(ha:PT X a tA)(hb:PW X (.BoolOp .Or (b::rest) pos) tB'):PW X (.BoolOp .Or (a::b::rest) pos) (tOr tA tB'):=by
 intro wh pins s σ H Q I h
 refine isTrue_or (thn (ha pins s σ H _ I h) fun c s1 ⟨H1,I1,q1⟩=>?_)
 cases c with
 | true=>exact⟨H1,I1,q1⟩
 | false=>exact hb wh pins s1 σ H1 Q I1 q1
theorem Dp(ha:PT X a tA):PT X (.UnaryOp .Not a pos) (Anf tA):=by
 intro pins s σ H Q I h
 exact isTrue_not (ha pins s σ H (fun c H1=>Q (!c) H1) I h)
def Al9 (ta tb:TE):TE:=fun σ H Q=>ta σ H fun x H1=>∃ c,x=.bl c∧if c=true then tb σ H1 Q else Q (.bl false) H1
def AoM (ta tb:TE):TE:=fun σ H Q=>ta σ H fun x H1=>∃ c,x=.bl c∧if c=true then Q (.bl true) H1 else tb σ H1 Q
def Aoi (ta:TE):TE:=fun σ H Q=>ta σ H fun x H1=>∃ c,x=.bl c∧Q (.bl (!c)) H1
theorem GQ{op}{t:TE}(h:PE X a t):PE X (.BoolOp op [a] pos) t:=fun pins s σ H Q I hw=>BoolOp_one (h pins s σ H Q I hw)
theorem GR(ha:PE X a ta)(hb:PE X (.BoolOp .And (b::rest) pos) tb):PE X (.BoolOp .And (a::b::rest) pos) (Al9 ta tb):=by
 intro pins s σ H Q I h
 refine BoolOp_and (thn (ha pins s σ H _ I h) fun v s1 ⟨x,H1,I1,r1,q1⟩=>?_)
 obtain⟨c,rfl,q1⟩:=q1
 cases r1
 refine wpAny_truthy_bool ?_
 cases c with
 | true=>exact hb pins s1 σ H1 Q I1 q1
 | false=>exact⟨.bl false,H1,I1,rfl,q1⟩
def tIf (t:TT)(ta tb:TE):TE:=fun σ H Q=>t σ H fun c H1=>if c=true then ta σ H1 Q else tb σ H1 Q
theorem Ve{c:Expr}(hc:PT X c tA)(ha:PE X a ta)(hb:PE X b tb):PE X (.IfExp c a b pos) (tIf tA ta tb):=by
 intro pins s σ H Q I h
 refine wpAny_IfExp (thn (hc pins s σ H _ I h) fun d s1 ⟨H1,I1,q1⟩=>?_)
 cases d with
 | true=>exact ha pins s1 σ H1 Q I1 q1
 | false=>exact hb pins s1 σ H1 Q I1 q1
end
open PySem PySem.Spec PyProof.Rows
def SqL (K:PySem.W.Frag)(H:Hp)(a:Addr)(xs:List V):Prop :=
 Rd H a (.lst xs) ∨
  ∃(o:Obj) (its:Array Value) (n:Nat),K.lookup a=some o∧o.cls=.type "list" ∧ o.dict=none∧o.data=.seq its n∧its.size≤sizeLine∧Vals xs its.toList
def SqT (K:PySem.W.Frag)(H:Hp)(a:Addr)(xs:List V):Prop :=
 Rd H a (.tup xs) ∨
  ∃(o:Obj) (its:Array Value) (n:Nat),K.lookup a=some o∧o.cls=.type "tuple" ∧ o.data=.seq its n∧its.size≤sizeLine∧Vals xs its.toList
def Ang:Value→Option V
 | .none=>some .non
 | .bool b=>some (.bl b)
 | .int i _=>some (.int i)
 | .str x _=>some (.str x)
 | .bytes b _=>some (.byt b)
 | .float b _=>some (.flt b)
 | .ref a=>some (.ref a)
 | .type n=>some (.ty n)
 | _=>none
theorem RelV.abs{x:V}{u:Value}(r:RelV x u):Ang u=some x:=by
 cases x with
 | non=>cases r;rfl
 | bl _=>cases r;rfl
 | int _=>obtain⟨t,rfl⟩:=r;rfl
 | str _=>obtain⟨t,rfl⟩:=r;rfl
 | byt _=>obtain⟨t,rfl⟩:=r;rfl
 | flt _=>obtain⟨t,rfl⟩:=r;rfl
 | ref _=>cases r;rfl
 | ty _=>cases r;rfl
theorem RelV.inj{x y:V}{u:Value}(r:RelV x u)(q:RelV y u):x=y:=Option.some.inj (r.abs.symm.trans q.abs)
theorem Vals.inj:∀{xs ys:List V} {us:List Value},Vals xs us→Vals ys us→xs=ys
 | _,_,_,.nil,.nil=>rfl
 | _,_,_,.cons r t,.cons r' t'=>by rw[r.inj r',Vals.inj t t']
section
variable {X:Cx}{pins:List (Addr × Obj)}{σ:St}{H:Hp}{s:Shared}{a:Addr}{xs ys:List V}
theorem SqL.of{K:PySem.W.Frag}(h:H a=some (.lst xs)):SqL K H a xs:=.inl (.inl h)
theorem SqT.of{K:PySem.W.Frag}(h:H a=some (.tup xs)):SqT K H a xs:=.inl (.inl h)
theorem Inv.list(I:Inv X pins σ H s)(h:SqL X.K H a xs):∃ its:List Value,Vals xs its∧PlainL s.heap a its.toArray∧xs.length≤sizeLine:=by
 rcases h with h | ⟨o,its,n,hk,hc,hd,hs,hz,r⟩
 ·obtain⟨z,its,n,r,e⟩:=h.ok I.hok
  exact⟨its,r,⟨_,n,e,rfl,rfl,rfl⟩,z⟩
 ·refine⟨its.toList,r,⟨o,n,I.kIn a o hk,hc,hd,by simpa using hs⟩,?_⟩
  have e:=r.length
  simp only [Array.length_toList] at e
  omega
theorem Inv.tuple(I:Inv X pins σ H s)(h:SqT X.K H a xs):∃ its:List Value,Vals xs its∧IsTup s.heap a its.toArray∧xs.length≤sizeLine:=by
 rcases h with h | ⟨o,its,n,hk,hc,hs,hz,r⟩
 ·obtain⟨z,its,r,p⟩:=h.ok I.hok
  exact⟨its,r,p,z⟩
 ·refine⟨its.toList,r,⟨o,I.kIn a o hk,hc,n,by simpa using hs⟩,?_⟩
  have e:=r.length
  simp only [Array.length_toList] at e
  omega
theorem Inv.Ago(I:Inv X pins σ H s)(h:SqL X.K H a xs)(h':SqL X.K H a ys):xs=ys:=by
 obtain⟨its,r,⟨o,n,e,_,_,d⟩,_⟩:=I.list h
 obtain⟨its',r',⟨o',n',e',_,_,d'⟩,_⟩:=I.list h'
 rw[e] at e';cases e'
 rw[d] at d'
 injection d' with d1 _
 have:its=its':=by simpa using congrArg Array.toList d1
 subst this
 exact r.inj r'
end
abbrev Cx.wish (X:Cx) (E:Value→Shared→Prop):Cx:={ X with xe:=E }
abbrev Cx.nox (X:Cx):Cx:=X.wish fun _ _=>False
theorem Cx.Ok.wish{X:Cx}(ok:X.Ok)(E:Value→Shared→Prop):(X.wish E).Ok :=
 ⟨ok.mod,ok.kind,ok.glob,ok.blt,ok.above,ok.inj,ok.has,ok.cab,ok.hd,ok.frames,ok.stk,ok.exf,ok.bs,ok.bsz,ok.Adx,ok.Ac8,ok.Tr,ok.frf⟩
theorem Cx.Ok.GX{X:Cx}{E:Value→Shared→Prop}(ok:(X.wish E).Ok):X.Ok :=
 ⟨ok.mod,ok.kind,ok.glob,ok.blt,ok.above,ok.inj,ok.has,ok.cab,ok.hd,ok.frames,ok.stk,ok.exf,ok.bs,ok.bsz,ok.Adx,ok.Ac8,ok.Tr,ok.frf⟩
section
variable {X:Cx}{pins:List (Addr × Obj)}{σ:St}{H:Hp}{s:Shared}{E:Value→Shared→Prop}
theorem Inv.wish(I:Inv X pins σ H s)(E:Value→Shared→Prop):Inv (X.wish E) pins σ H s:=⟨I.ok.wish E,I.os,I.bare,I.base,I.loc,I.cell,I.free,I.Km,I.pin,I.hok,I.len⟩
theorem Inv.GX(I:Inv (X.wish E) pins σ H s):Inv X pins σ H s:=⟨I.ok.GX,I.os,I.bare,I.base,I.loc,I.cell,I.free,I.Km,I.pin,I.hok,I.len⟩
theorem SP.GX{D:Ends}{f:Flow}{s':Shared}(h:SP (X.wish E) pins D f s'):SP X pins D f s':=by
 cases f with
 | next=>obtain⟨σ',H',I,q⟩:=h;exact⟨σ',H',I.GX,q⟩
 | brk=>obtain⟨σ',H',I,q⟩:=h;exact⟨σ',H',I.GX,q⟩
 | cont=>obtain⟨σ',H',I,q⟩:=h;exact⟨σ',H',I.GX,q⟩
 | ret u=>obtain⟨v,σ',H',I,r,q⟩:=h;exact⟨v,σ',H',I.GX,r,q⟩
theorem PE.nox{e:Expr}{t:TE}(h:PE X.nox e t):PE X e t:=fun pins s σ H Q I hw =>
 wpAny_mono (h pins s σ H Q (I.wish _) hw) (fun _ _ ⟨v,H',I',r,q⟩=>⟨v,H',I'.GX,r,q⟩) fun _ _ z=>False.elim z
theorem PSs.nox{st:List Stmt}{t:TS}(h:PSs X.nox st t):PSs X st t:=fun pins s σ H D I hw =>
 wpAny_mono (h pins s σ H D (I.wish _) hw) (fun _ _ q=>q.GX) fun _ _ z=>False.elim z
end
section
variable {X:Cx}{st:Stmt}{rest:List Stmt}{t u:TS}{e:Expr}{te:TE}{pos:Pos}
def AlA:TS:=fun D σ H=>D.nx σ H
def Anh (t u:TS):TS:=fun D σ H=>t { D with nx:=u D } σ H
theorem Ak:PSs X [] AlA:=fun _ _ σ H _ I h=>wpAny_execs_nil ⟨σ,H,I,h⟩
theorem Ac(h1:PS X st t)(h2:PSs X rest u):PSs X (st::rest) (Anh t u):=by
 intro pins s σ H D I h
 refine wpAny_execs_cons (thn (h1 pins s σ H { D with nx:=u D } I h) fun f s1 q=>?_)
 cases f with
 | next =>
  obtain⟨σ',H',I',q⟩:=q
  exact h2 pins s1 σ' H' D I' q
 | ret v=>exact q
 | brk=>exact q
 | cont=>exact q
theorem Af(h1:PS X st t):PSs X [st] t:=by
 intro pins s σ H D I h
 refine wpAny_execs_cons (thn (h1 pins s σ H D I h) fun f s1 q=>?_)
 cases f with
 | next=>exact wpAny_execs_nil q
 | ret v=>exact q
 | brk=>exact q
 | cont=>exact q
def Ani:TS:=fun D σ H=>D.bk σ H
def Aoj:TS:=fun D σ H=>D.ct σ H
theorem Inv.quiet{pins:List (Addr × Obj)}{σ:St}{H:Hp}{s:Shared}(I:Inv X pins σ H s):interactive X.env=false:=by simp[interactive,I.ok.kind]
def Ajt (te:TE):TS:=fun D σ H=>te σ H fun _ H1=>D.nx σ H1
theorem Cq(he:PE X e te)(hs:swapsWith e none pos.line X.env=pure false:=by rfl):PS X (.Expr e pos) (Ajt te):=by
 intro pins s σ H D I h
 exact wpAny_Expr_any (thn (he pins s σ H _ I h) fun v s1 ⟨x,H1,I1,r1,q1⟩=>⟨σ,H1,I1,q1⟩) I.quiet hs
def Anj (te:TE):TS:=fun D σ H=>te σ H D.rt
theorem Am(he:PE X e te):PS X (.Return (some e) pos) (Anj te):=by
 intro pins s σ H D I h
 exact wpAny_Return_some (thn (he pins s σ H _ I h) fun v s1 ⟨x,H1,I1,r1,q1⟩=>⟨x,σ,H1,I1,r1,q1⟩)
def Aok:TS:=fun D _ H=>D.rt .non H
def Ank (c:TT)(t u:TS):TS:=fun D σ H=>c σ H fun b H1=>if b=true then t D σ H1 else u D σ H1
theorem Bs{c:Expr}{a b:List Stmt}{tc:TT}(hc:PT X c tc)(ha:PSs X a t)(hb:PSs X b u):PS X (.If c a b pos) (Ank tc t u):=by
 intro pins s σ H D I h
 refine wpAny_If (thn (hc pins s σ H _ I h) fun d s1 ⟨H1,I1,q1⟩=>?_)
 cases d with
 | true=>exact ha pins s1 σ H1 D I1 q1
 | false=>exact hb pins s1 σ H1 D I1 q1
def Agp:TS:=fun _ _ _=>False
theorem Fd:PS X st Agp:=fun _ _ _ _ _ _ h=>h.elim
theorem Fg{sts:List Stmt}:PSs X sts Agp:=fun _ _ _ _ _ _ h=>h.elim
end
abbrev TG:=V→St→Hp→(St→Hp→Prop)→Prop
abbrev TGs:=List V→St→Hp→(St→Hp→Prop)→Prop
def PG (X:Cx)(target:Expr)(t:TG):Prop :=
 ∀(pins:List (Addr × Obj)) (s:Shared) (σ:St) (H:Hp) (v:V) (u:Value) (Q:St→Hp→Prop),Inv X pins σ H s→RelV v u→t v σ H Q →
  wpAny (model X.prog X.w) X.A (assign target X.env u) (fun _ s'=>∃ σ' H',Inv X pins σ' H' s'∧Q σ' H') X.xe s
def PGs (X:Cx)(ts:List Expr)(t:TGs):Prop :=
 ∀(pins:List (Addr × Obj)) (s:Shared) (σ:St) (H:Hp) (vs:List V) (us:List Value) (Q:St→Hp→Prop),Inv X pins σ H s→Vals vs us→t vs σ H Q →
  wpAny (model X.prog X.w) X.A (assignInOrder ((assignEach ts X.env).map (·.2)) us) (fun _ s'=>∃ σ' H',Inv X pins σ' H' s'∧Q σ' H') X.xe s
abbrev AjK:=V→V→V→Hp→(Hp→Prop)→Prop
def AlB (X:Cx)(t:AjK):Prop :=
 ∀(pins:List (Addr × Obj)) (s:Shared) (σ:St) (H:Hp) (o i v:V) (ov iv u:Value) (Q:Hp→Prop),Inv X pins σ H s→RelV o ov→RelV i iv→RelV v u→t o i v H Q →
  wpAny (model X.prog X.w) X.A (setItem ov iv u) (fun _ s'=>∃ H',Inv X pins σ H' s'∧Q H') X.xe s
abbrev TIp:=V→V→Hp→VK→Prop
def PIp (X:Cx)(op:Operator)(t:TIp):Prop :=
 ∀(pins:List (Addr × Obj)) (s:Shared) (σ:St) (H:Hp) (x y:V) (v u:Value) (Q:VK),Inv X pins σ H s→RelV x v→RelV y u→t x y H Q →
  wpAny (model X.prog X.w) X.A (inplaceOp op v u) (EP X pins σ Q) X.xe s
section
variable {X:Cx}{pos:Pos}
def YT (i:Nat):TG:=fun v σ H Q=>Q (σ.set i (some v)) H
theorem Eb{i:Nat}{x:Str}(hN:X.N.Nodup)(hi:X.N[i]?=some x)(hx:Loc X.env.scope x)(hf:X.fn x=true∨X.env.scope.names.lookup x=some .local:=by first | exact .inl rfl | exact .inr rfl | assumption):PG X (.Name x pos) (YT i):=by
 intro pins s σ H v u Q I r h
 exact wpAny_assign_Name (Vd I hN hi hx r (fun s' I'=>⟨_,H,I',h⟩) hf)
def Anl:TGs:=fun vs σ H Q=>vs=[]∧Q σ H
def AlC (t:TG)(u:TGs):TGs:=fun vs σ H Q=>∃ v r,vs=v::r∧t v σ H fun σ' H'=>u r σ' H' Q
theorem AeK:PGs X [] Anl:=by
 intro pins s σ H vs us Q I r h
 obtain⟨e,h⟩:=h
 subst e
 cases r
 exact assignInOrder_nil ⟨σ,H,I,h⟩
theorem Vf{e:Expr}{es:List Expr}{t:TG}{u:TGs}(h1:PG X e t)(h2:PGs X es u)
  (hs:(assignEach (e::es) X.env).map (·.2)=assign e X.env::(assignEach es X.env).map (·.2):=by rfl):PGs X (e::es) (AlC t u):=by
 intro pins s σ H vs us Q I r h
 obtain⟨v,vr,e1,h⟩:=h
 subst e1
 cases r with
 | cons r rr =>
  rw[hs]
  refine assignInOrder_cons (thn (h1 pins s σ H _ _ _ I r h) fun _ s1 ⟨σ1,H1,I1,q1⟩=>?_)
  exact h2 pins s1 σ1 H1 _ _ Q I1 rr q1
def Anm (K:PySem.W.Frag)(n:Nat)(t:TGs):TG:=fun v σ H Q=>∃ a xs,v=.ref a∧SqT K H a xs∧xs.length=n∧t xs σ H Q
theorem Agq{es:List Expr}{k:Nat}{t:TGs}{n:Nat}(hc:X.calm=true)(h:PGs X es t)
  (hn:(assignEach es X.env).length=n:=by rfl) (hst:(assignEach es X.env).findIdx? (·.1)=none:=by rfl):PG X (.Tuple es k pos) (Anm X.K n t):=by
 intro pins s σ H v u Q I r hw
 obtain⟨a,xs,e1,hq,hl,hw⟩:=hw
 subst e1
 cases r
 obtain⟨its,rv,ht,hz⟩:=I.tuple hq
 refine assign_Tuple_tuple (I.ok.hd hc) ht (by simp[hn,← hl,rv.length]) hst fun h' hx=>?_
 have I1:Inv X pins σ H { s with heap:=h' }:=I.kept (t':=s.toks) fun b o e=>hx b o (Ap3 (Heap.lt_size e)) e
 exact h pins _ σ H xs _ Q I1 (by simpa using rv) hw
def AoN (to ti:TE)(t:AjK):TG:=fun v σ H Q=>to σ H fun o H1=>ti σ H1 fun i H2=>t o i v H2 fun H3=>Q σ H3
def AjL (te:TE)(g:TG):TS:=fun D σ H=>te σ H fun x H1=>g x σ H1 D.nx
theorem Aw{i:Nat}{x:Str}{e:Expr}{te:TE}{pos':Pos}(hN:X.N.Nodup)(hi:X.N[i]?=some x)(hx:Loc X.env.scope x)(he:PE X e te)(hs:swapsWith e (some (.Name x pos')) pos.line X.env=pure false:=by rfl)(hf:X.fn x=true∨X.env.scope.names.lookup x=some .local:=by first | exact .inl rfl | exact .inr rfl | assumption) :
  PS X (.Assign [.Name x pos'] e pos) (AjL te (YT i)):=by
 intro pins s σ H D I h
 refine wpAny_Assign_Name (thn (he pins s σ H _ I h) fun v s1 ⟨y,H1,I1,r1,q1⟩=>?_) hs
 exact Vd I1 hN hi hx r1 (fun s2 I2=>⟨_,H1,I2,q1⟩) hf
def AoO (i j:Nat)(ta:TA):TS:=fun D σ H=>ta σ H fun vs H1=>∃ v w,vs=[v,w]∧D.nx ((σ.set i (some v)).set j (some w)) H1
def Ann (i:Nat)(te:TE)(ti:TIp):TS:=fun D σ H=>∃ x,σ[i]?=some (some x)∧te σ H fun y H1=>ti x y H1 fun z H2=>D.nx (σ.set i (some z)) H2
theorem AjM{i:Nat}{x:Str}{e:Expr}{te:TE}{op:Operator}{ti:TIp}{pos':Pos}(hN:X.N.Nodup)(hi:X.N[i]?=some x)(hx:Loc X.env.scope x)(he:PE X e te)(ho:PIp X op ti)(hf:X.fn x=true∨X.env.scope.names.lookup x=some .local:=by first | exact .inl rfl | exact .inr rfl | assumption) :
  PS X (.AugAssign (.Name x pos') op e pos) (Ann i te ti):=by
 intro pins s σ H D I h
 obtain⟨v,e1,h⟩:=h
 obtain⟨m,hn,hl⟩:=I.loc
 have vis:Vis X.env.scope x:=by rcases hx with k | k;exact .inl k;exact .inr (.inl k)
 obtain⟨u,r,l⟩:=hl i x v hi e1 vis
 refine wpAny_AugAssign_Name ?_
 have go:wpAny (model X.prog X.w) X.A (eval e X.env) (fun w s₂=>wpAny (model X.prog X.w) X.A (inplaceOp op u w) (fun r s₃=>wpAny (model X.prog X.w) X.A (storeName X.env x r) (fun _=>SP X pins D .next) X.xe s₃) X.xe s₂) X.xe s:=by
  refine thn (he pins s σ H _ I h) fun w s1 ⟨y,H1,I1,r1,q1⟩=>?_
  refine thn (ho pins s1 σ H1 v y u w _ I1 r r1 q1) fun z s2 ⟨zv,H2,I2,r2,q2⟩=>?_
  exact Vd I2 hN hi hx r2 (fun s3 I3=>⟨_,H2,I3,q2⟩) hf
 rcases l with ⟨hk,hm⟩ | ⟨hk,c,hc,hcell⟩
 ·exact wpAny_loadName_local I.ok.kind hk hn hm go
 ·rcases hk with hk | hk
  ·exact wpAny_loadName_cell I.ok.kind hk hc hcell go
  ·rcases hx with k | k
   ·have:X.env.scope.names.lookup x=some .free:=hk
    rw[k] at this;cases this
   ·have:X.env.scope.names.lookup x=some .free:=hk
    rw[k] at this;cases this
def Aol (to ti te:TE)(Ano:V→V→Hp→VK→Prop)(tip:TIp)(Anp:AjK):TS:=fun D σ H=>to σ H fun o H1=>ti σ H1 fun i H2=>Ano o i H2 fun x H3=>te σ H3 fun y H4=>tip x y H4 fun z H5=>Anp o i z H5 fun H6=>D.nx σ H6
def AlD (X:Cx)(t:V→V→Hp→VK→Prop):Prop :=
 ∀(pins:List (Addr × Obj)) (s:Shared) (σ:St) (H:Hp) (o i:V) (ov iv:Value) (Q:VK),Inv X pins σ H s→RelV o ov→RelV i iv→t o i H Q →
  wpAny (model X.prog X.w) X.A (getItem ov iv) (EP X pins σ Q) X.xe s
def ipI (f:Int→Int→Int):TIp:=fun x y H Q=>∃ i j,x=.int i∧y=.int j∧Q (.int (f i j)) H
theorem AjN:PIp X .Add (ipI fun i j=>i+j):=by
 intro pins s σ H x y v u Q I r1 r2 h
 obtain⟨i,j,e1,e2,q⟩:=h
 subst e1;subst e2
 obtain⟨t,rfl⟩:=r1
 obtain⟨t',rfl⟩:=r2
 exact iadd_int ⟨.int _,H,I.tok _,⟨_,rfl⟩,q⟩
end
section
variable {X:Cx}{pos:Pos}
def AjO (c:TT)(tb:TS):TS:=fun D σ H=>∃ W:Nat→St→Hp→Prop,(∃ m,W m σ H)∧∀ m σ H,W m σ H →
 c σ H fun b H1=>if b=true then ∃ N:St→Hp→Prop,(∀ σ' H',N σ' H'→∃ m',m'<m∧W m' σ' H')∧tb { D with nx:=N,ct:=N,bk:=D.nx } σ H1 else D.nx σ H1
theorem Vg{c:Expr}{body:List Stmt}{tc:TT}{tb:TS}(hp:PassesOwn (model X.prog X.w) X.A X.env X.xe)(hc:PT X c tc)(hb:PSs X body tb):PS X (.While c body [] pos) (AjO tc tb):=by
 intro pins s σ H D I h
 obtain⟨W,⟨m0,w0⟩,turn⟩:=h
 refine wpAny_While (codeAny_whileLoop (fun n s'=>∃ σ' H',Inv X pins σ' H' s'∧W n σ' H') ?_ m0 ⟨σ,H,I,w0⟩)
 rintro n s1 ⟨σ1,H1,I1,w1⟩
 refine wpAny_passesOwn hp (thn (hc pins s1 σ1 H1 _ I1 (turn n σ1 H1 w1)) fun b s2 ⟨H2,I2,q2⟩=>?_)
 cases b with
 | true =>
  obtain⟨N,hN,q2⟩:=q2
  rw[if_pos rfl]
  refine wpAny_passesOwn hp (thn (hb pins s2 σ1 H2 _ I2 q2) fun f s3 q3=>?_)
  cases f with
  | next =>
   obtain⟨σ3,H3,I3,n3⟩:=q3
   obtain⟨m',hm,w3⟩:=hN σ3 H3 n3
   exact⟨m',hm,σ3,H3,I3,w3⟩
  | cont =>
   obtain⟨σ3,H3,I3,n3⟩:=q3
   obtain⟨m',hm,w3⟩:=hN σ3 H3 n3
   exact⟨m',hm,σ3,H3,I3,w3⟩
  | brk=>exact q3
  | ret v=>exact q3
 | false =>
  rw[if_neg Ap4]
  exact wpAny_execs_nil ⟨σ1,H2,I2,q2⟩
end
structure It where
 go:Nat→Hp→Prop
 yld:Nat→Hp→V→Hp→Prop
 stop:Nat→Hp→Prop
def O3 (X:Cx)(pins:List (Addr × Obj))(H:Hp)(b:Addr):Prop :=
 H b=none∧b≠X.env.locals∧b∉X.fs∧(b∈X.ex∨X.s₀.heap.objs.size≤b)∧(∀ x c,X.env.cells.lookup x=some c→c≠b)∧∀ p∈X.pn++pins,p.1≠b
theorem Inv.Aim{X:Cx}{pins:List (Addr × Obj)}{σ:St}{H H':Hp}{s:Shared}{b:Addr}(I:Inv X pins σ H s)(hb:s.heap.objs.size≤b)(hn:H' b=none):O3 X pins H' b:=by
 refine⟨hn,Aqs (Ap0 I.lt hb),I.Anb hb,.inr (ApA I.sz hb),fun x c e z=>?_,fun p hp z=>?_⟩
 ·obtain⟨v,q⟩:=I.cell x c e
  exact absurd (Ap0 q.lt (by rw[z];exact hb)) (ApC _)
 ·exact absurd (Ap0 (Heap.lt_size (I.pin p hp).1) (by rw[z];exact hb)) (ApC _)
structure Turn (P:Program) (w:World) (K:PySem.W.Frag) (tg:Expr) (J:It) (fp:List Addr) (it:Addr) (tn:Nat→Heap→Prop):Prop where
 mem:it∈fp
 obj:∀ i h,tn i h→∀ b∈fp,∃ o,h.get? b=some o∧∀ v,o.data≠.cell v
 keep:∀ i h h',tn i h→(∀ b∈fp,∀ o,h.get? b=some o→h'.get? b=some o)→tn i h'
 item:∀(X:Cx),X.prog=P→X.w=w→X.K=K→X.calm=true→∀(i:Nat) (pins:List (Addr × Obj)) (s:Shared) (σ:St) (H:Hp) (E:Value→Shared→Prop),Inv X pins σ H s→(∀ b∈fp,O3 X pins H b)→tn i s.heap→J.go i H →
  wpAny (model P w) X.A (pyNext (.ref it)) (fun r s1=>∃ u,r=some u ∧
   wpAny (model P w) X.A (letOwnedTupleGo tg (.ref it) u) (fun _ s2=>∃ x H',Inv X pins σ H' s2∧RelV x u∧J.yld i H x H'∧tn (i+1) s2.heap∧∀ b∈fp,H' b=none) E s1) E s
 done:∀(X:Cx),X.prog=P→X.w=w→X.K=K→X.calm=true→∀(i:Nat) (pins:List (Addr × Obj)) (s:Shared) (σ:St) (H:Hp) (E:Value→Shared→Prop),Inv X pins σ H s→(∀ b∈fp,O3 X pins H b)→tn i s.heap→J.stop i H →
  wpAny (model P w) X.A (pyNext (.ref it)) (fun r s1=>r=none∧Inv X pins σ H s1) E s
 self:∀(A:Around) (i:Nat) (s:Shared) (Q:Value→Shared→Prop) (E:Value→Shared→Prop),tn i s.heap→Q (.ref it) s→wpAny (model P w) A (pyIter (.ref it)) Q E s
abbrev TI:=St→Hp→(It→Hp→Prop)→Prop
def PIE (X:Cx)(pins:List (Addr × Obj))(σ:St)(tg:Expr)(R:It→Hp→Prop)(itv:Value)(s2:Shared):Prop :=
 ∃(it:Addr) (fp:List Addr) (tn:Nat→Heap→Prop) (J:It) (H':Hp),itv=.ref it∧Inv X pins σ H' s2∧Turn X.prog X.w X.K tg J fp it tn∧tn 0 s2.heap∧(∀ b∈fp,O3 X pins H' b)∧R J H'
def PI (X:Cx)(tg iter:Expr)(wi:TI):Prop :=
 ∀(pins:List (Addr × Obj)) (s:Shared) (σ:St) (H:Hp) (R:It→Hp→Prop),Inv X pins σ H s→wi σ H R →
  wpAny (model X.prog X.w) X.A (eval iter X.env) (fun v s1=>wpAny (model X.prog X.w) X.A (pyIter v) (PIE X pins σ tg R) X.xe s1) X.xe s
theorem AeL{M:Model}{A:Around}{E:Value→Shared→Prop}{s:Shared}{tg:Expr}{it:Addr}{u:Value}{o:Obj}{n:String}{vs:Array Value}{Q:Unit→Shared→Prop}(ho:s.heap.get? it=some o)(hc:o.cls=.type n)(hd:o.data=.fields vs)
    (hn:["enumerate", "zip", "dict_itemiterator", "dict_reverseitemiterator", "odict_iterator", "itertools.zip_longest", "itertools.pairwise"].contains n=false) (hQ:Q () s):wpAny M A (letOwnedTupleGo tg (.ref it) u) Q E s:=by
  unfold letOwnedTupleGo
  cases tg <;> first
    | exact wpAny_pure hQ
    | (cases u <;> first
        | exact wpAny_pure hQ
        | (refine wpAny_bind (wpAny_load ho ?_)
           rw[hc,hd]
           show wpAny M A (if (["enumerate", "zip", "dict_itemiterator", "dict_reverseitemiterator", "odict_iterator", "itertools.zip_longest", "itertools.pairwise"].contains n && vs[0]? == some (rawInt _))=true then _ else _) Q E s
           rw[if_neg (by intro h;rw[hn,Bool.false_and] at h;cases h)]
           exact wpAny_pure hQ))
def Itl (K:PySem.W.Frag)(a:Addr):It :=
 ⟨fun i H=>∃ xs x,SqL K H a xs∧xs[i]?=some x,fun i H x H'=>H'=H∧∀ xs,SqL K H a xs→xs[i]?=some x,fun i H=>∃ xs,SqL K H a xs∧xs.length≤i⟩
def Itt (K:PySem.W.Frag)(a:Addr):It :=
 ⟨fun i H=>∃ xs x,SqT K H a xs∧xs[i]?=some x,fun i H x H'=>H'=H∧∀ xs,SqT K H a xs→xs[i]?=some x,fun i H=>∃ xs,SqT K H a xs∧xs.length≤i⟩
def Itr (lo:Int)(n:Nat):It:=⟨fun i _=>i<n,fun i H x H'=>H'=H∧x=.int (lo+i),fun i _=>n≤i⟩
theorem Afq{P:Program}{w:World}{K:PySem.W.Frag}{tg:Expr}(a it:Addr):Turn P w K tg (Itl K a) [it] it (fun i h=>h.IsListIter it a i) where
 mem:=by simp
 obj:=fun i h st b hb=>by
  have e:b=it:=by simpa using hb
  subst e
  obtain⟨o,e,c,d⟩:=st
  exact⟨o,e,fun v z=>by rw[d] at z;cases z⟩
 keep:=fun i h h' st k=>st.at fun o e=>k it (by simp) o e
 item:=by
  intro X hP hw hK hc i pins s σ H E I hf st hg
  subst hP hw hK
  obtain⟨xs,x,hq,hx⟩:=hg
  obtain⟨its,rv,p,hz⟩:=I.list hq
  obtain⟨u,hu,ru⟩:=rv.get hx
  obtain⟨f0,f1,f2,f3,f4,f5⟩:=hf it (by simp)
  refine wpAny_pyNext_list_item st p.isList (x:=u) (by simpa using hu) fun h' st' sb=>?_
  have I1:Inv X pins σ H { s with heap:=h' }:=I.turned (t':=s.toks) (fun b o hb e=>(sb.2 b hb).trans e) f0 f1 f3 f4 f5
  obtain⟨o,e,c,d⟩:=id st'
  exact⟨u,rfl,AeL (s:={ s with heap:=h' }) e c d (by decide) ⟨x,H,I1,ru,⟨rfl,fun ys hy=>by rw[I.Ago hy hq];exact hx⟩,st',fun b hb=>(hf b hb).1⟩⟩
 done:=by
  intro X hP hw hK hc i pins s σ H E I hf st hg
  subst hP hw hK
  obtain⟨xs,hq,hx⟩:=hg
  obtain⟨its,rv,p,hz⟩:=I.list hq
  obtain⟨f0,f1,f2,f3,f4,f5⟩:=hf it (by simp)
  have hl:=rv.length
  exact wpAny_pyNext_list_end (I.ok.hd hc) st p.isList (by simp;omega) fun h' eb=>⟨rfl,I.turned (t':=s.toks) (fun b o hb e=>eb b o hb e) f0 f1 f3 f4 f5⟩
 self:=fun _ _ _ _ _ st h=>wpAny_pyIter_listiter st h
theorem Ael{P:Program}{w:World}{K:PySem.W.Frag}{tg:Expr}(it:Addr)(lo:Int)(n:Nat):Turn P w K tg (Itr lo n) [it] it (fun i h=>IsRangeIter h it (lo+(i:Nat)*1) ((n:Int)-(i:Nat)) 1) where
 mem:=by simp
 obj:=fun i h st b hb=>by
  have e:b=it:=by simpa using hb
  subst e
  exact⟨_,st,fun v z=>by
   have z':Data.fields _=Data.cell v:=z
   cases z'⟩
 keep:=fun i h h' st k=>k it (by simp) _ st
 item:=by
  intro X hP hw hK hc i pins s σ H E I hf st hg
  subst hP hw hK
  obtain⟨f0,f1,f2,f3,f4,f5⟩:=hf it (by simp)
  have W:=Walks.range (prog:=X.prog) (w:=X.w) (I.ok.hd hc) it lo 1 n
  refine W.item i s _ _ hg st fun v h' tk hv st' kk=>?_
  obtain⟨t,rfl⟩:=hv
  have I1:Inv X pins σ H { s with heap:=h',toks:=tk }:=I.turned (fun b o hb e=>kk b o (by simpa using hb) e) f0 f1 f3 f4 f5
  refine⟨_,rfl,AeL (s:={ s with heap:=h',toks:=tk }) (n := "range_iterator") st' rfl rfl (by decide) ⟨.int (lo+i),H,I1,⟨t,?_⟩,⟨rfl,rfl⟩,st',fun b hb=>(hf b hb).1⟩⟩
  rw[Int.mul_one]
 done:=by
  intro X hP hw hK hc i pins s σ H E I hf st hg
  subst hP hw hK
  obtain⟨f0,f1,f2,f3,f4,f5⟩:=hf it (by simp)
  exact wpAny_pyNext_range_end (I.ok.hd hc) st (by have:n≤i:=hg;omega) fun h' eb=>⟨rfl,I.turned (t':=s.toks) (fun b o hb e=>eb b o hb e) f0 f1 f3 f4 f5⟩
 self:=fun _ _ _ _ _ st h=>wpAny_pyIter_rangeiter st h
open PySem PySem.Spec PyProof.Rows
section
variable {X:Cx}{tg:Expr}
def Aju (K:PySem.W.Frag)(tl:TE):TI:=fun σ H R=>tl σ H fun x H1=>∃ a,x=.ref a∧(∃ xs,SqL K H1 a xs)∧R (Itl K a) H1
def AoP (K:PySem.W.Frag)(tl:TE):TI:=fun σ H R=>tl σ H fun x H1=>∃ a,x=.ref a∧(∃ xs,SqT K H1 a xs)∧R (Itt K a) H1
theorem Ain{l:Expr}{tl:TE}(hl:PE X l tl):PI X tg l (Aju X.K tl):=by
 intro pins s σ H R I h
 refine thn (hl pins s σ H _ I h) fun v s1 ⟨x,H1,I1,r1,q1⟩=>?_
 obtain⟨a,e,⟨xs,hq⟩,q⟩:=q1
 subst e
 cases r1
 obtain⟨its,rv,p,hz⟩:=I1.list hq
 refine wpAny_pyIter_list p.isList ?_
 refine⟨s1.heap.objs.size,[s1.heap.objs.size],_,_,H1,rfl,I1.kept (t':=s1.toks) fun b o e=>Heap.get?_push_of_some _ e,Afq a _,⟨_,Heap.get?_push_size _ rfl,rfl,rfl⟩,fun b hb=>?_,q⟩
 have e:b=s1.heap.objs.size:=by simpa using hb
 subst e
 exact I1.Aim (Apv _) (I1.hok.fresh (Apv _))
theorem Ady{pins:List (Addr × Obj)}{σ:St}{H:Hp}{s:Shared}{R:It→Hp→Prop}{E:Value→Shared→Prop}{lo hi:Int}{t u v:Tok}{tk:Nat}(I:Inv X pins σ H s)(h1 : -(2 ^ 62)≤lo)(h2:lo<2 ^ 62)(h3 : -(2 ^ 62)≤hi)(h4:hi<2 ^ 62)
  (q:R (Itr lo (hi-lo).toNat) H):wpAny (model X.prog X.w) X.A (pyIter (.ref s.heap.objs.size)) (PIE X pins σ tg R) E { s with heap:=s.heap.push { cls:=.type "range", data:=.fields #[.int lo t,.int hi u,.int 1 v] },toks:=tk }:=by
 refine wpAny_pyIter_range (IsRange.new ..) (small_one h1 h2 h3 h4) ?_
 have I1:Inv X pins σ H { s with heap:=s.heap.push { cls:=.type "range", data:=.fields #[.int lo t,.int hi u,.int 1 v] },toks:=tk }:=I.kept fun b o e=>Heap.get?_push_of_some _ e
 refine⟨(s.heap.push { cls:=.type "range", data:=.fields #[.int lo t,.int hi u,.int 1 v] }).objs.size,[(s.heap.push { cls:=.type "range", data:=.fields #[.int lo t,.int hi u,.int 1 v] }).objs.size],_,_,H,rfl,
  I1.kept (t':=tk) fun b o e=>Heap.get?_push_of_some _ e,Ael _ lo (hi-lo).toNat,?_,fun b hb=>?_,q⟩
 ·have e1:lo+((0:Nat):Int)*1=lo:=by simp
  have e2:(((hi-lo).toNat:Nat):Int)-((0:Nat):Int)=Builtin.Range.rangeSize lo hi 1:=by rw[rangeSize_one];split <;> omega
  show IsRangeIter _ _ (lo+((0:Nat):Int)*1) ((((hi-lo).toNat:Nat):Int)-((0:Nat):Int)) 1
  rw[e1,e2]
  exact Heap.get?_push_size _ rfl
 ·have e:b=(s.heap.push { cls:=.type "range", data:=.fields #[.int lo t,.int hi u,.int 1 v] }).objs.size:=by simpa using hb
  subst e
  exact I1.Aim (Apv _) (I1.hok.fresh (Apv _))
def AlE (ta:TA):TI:=fun σ H R=>ta σ H fun vs H1=>∃ j:Int,vs=[.int j] ∧ -(2 ^ 62)≤j∧j<2 ^ 62∧R (Itr 0 j.toNat) H1
def AlF (ta:TA):TI:=fun σ H R=>ta σ H fun vs H1=>∃ i j:Int,vs=[.int i,.int j]∧(-(2 ^ 62)≤i∧i<2 ^ 62 ∧ -(2 ^ 62)≤j∧j<2 ^ 62)∧R (Itr i (j-i).toNat) H1
theorem Dy{a:Expr}{ta:TA}{p pos:Pos}(hg:Gl X "range") (hm:X.mg "range" = none) (ha:PA X [a] ta) (hs:starEach [a] X.env=[(false,eval a X.env)]:=by rfl):PI X tg (.Call (.Name "range" p) [a] [] pos) (AlE ta):=by
 intro pins s σ H R I h
 refine Call_ (Xq I hg hm boot_range (PyProof.Rows.callWith_type1 (thn (ha pos pins s σ H _ I h) fun us s1 ⟨vs,H1,I1,r1,q1⟩=>?_) hs rfl))
 obtain⟨j,e,q1,q2,q⟩:=q1
 subst e
 cases r1 with
 | cons r rr =>
  cases rr
  obtain⟨t,rfl⟩:=r
  exact call_range_1 (Ady I1 (by omega) (by omega) q1 q2 (by simpa using q))
theorem Afr{a b:Expr}{ta:TA}{p pos:Pos}(hg:Gl X "range") (hm:X.mg "range" = none) (ha:PA X [a,b] ta) (hs:starEach [a,b] X.env=[(false,eval a X.env),(false,eval b X.env)]:=by rfl) (hs2:starEach [b] X.env=[(false,eval b X.env)]:=by rfl) :
  PI X tg (.Call (.Name "range" p) [a,b] [] pos) (AlF ta):=by
 intro pins s σ H R I h
 refine Call_ (Xq I hg hm boot_range (PyProof.Rows.callWith_type1 (thn (ha pos pins s σ H _ I h) fun us s1 ⟨vs,H1,I1,r1,q1⟩=>?_) (by rw[hs,hs2]) (by rw[hs2];rfl)))
 obtain⟨i,j,e,⟨q1,q2,q3,q4⟩,q⟩:=q1
 subst e
 cases r1 with
 | cons r rr =>
  cases rr with
  | cons r' rr =>
   cases rr
   obtain⟨t,rfl⟩:=r
   obtain⟨t',rfl⟩:=r'
   exact call_range_2 (Ady I1 q1 q2 q3 q4 q)
def Anq (wi:TI)(g:TG)(tb:TS):TS:=fun D σ H=>wi σ H fun J H1=>∃ W:Nat→Nat→St→Hp→Prop,(∃ m,W 0 m σ H1)∧∀ i m σ H,W i m σ H →
 (J.stop i H∧D.nx σ H)∨(J.go i H∧∃ N:St→Hp→Prop,(∀ σ' H',N σ' H'→∃ m',m'<m∧W (i+1) m' σ' H')∧∀ x H',J.yld i H x H'→g x σ H' fun σ2 H2=>tb { D with nx:=N,ct:=N,bk:=D.nx } σ2 H2)
def Xr (fp:List Addr)(h:Heap):List (Addr × Obj):=fp.filterMap fun b=>(h.get? b).map fun o=>(b,o)
theorem Hu{fp:List Addr}{h:Heap}{b:Addr}{o:Obj}(hb:b∈fp)(e:h.get? b=some o):(b,o)∈Xr fp h:=List.mem_filterMap.mpr ⟨b,hb,by rw[e];rfl⟩
theorem Afs{fp:List Addr}{h:Heap}{p:Addr × Obj}(hp:p∈Xr fp h):p.1∈fp∧h.get? p.1=some p.2:=by
 obtain⟨b,hb,e⟩:=List.mem_filterMap.mp hp
 cases q:h.get? b with
 | none=>rw[q] at e;cases e
 | some o =>
  rw[q] at e
  have e':(b,o)=p:=Option.some.inj e
  subst e'
  exact⟨hb,q⟩
theorem Inv.pinned{pins:List (Addr × Obj)}{σ:St}{H:Hp}{s:Shared}{fp:List Addr}(I:Inv X pins σ H s)(hf:∀ b∈fp,O3 X pins H b)(ho:∀ b∈fp,∃ o,s.heap.get? b=some o∧∀ v,o.data≠.cell v):Inv X (pins++Xr fp s.heap) σ H s :=
 I.Ko fun p hp=>(List.mem_append.mp hp).elim (fun z=>I.pin p (ApE _ z)) fun z=>by
  obtain⟨hb,e⟩:=Afs z
  obtain⟨f0,f1,f2,_⟩:=hf p.1 hb
  obtain⟨o,e',d⟩:=ho p.1 hb
  rw[e] at e';cases e'
  exact⟨e,f0,f1,f2,d⟩
theorem Inv.Aaw{pins pl:List (Addr × Obj)}{σ:St}{H:Hp}{s:Shared}(I:Inv X (pins++pl) σ H s):Inv X pins σ H s:=I.Ko fun p hp=>I.pin p (ApE _ (Aqr _ hp))
theorem GZ{iter:Expr}{body:List Stmt}{wi:TI}{g:TG}{tb:TS}{pos:Pos}(hp:PassesOwn (model X.prog X.w) X.A X.env X.xe)(hc:X.calm=true)(hi:PI X tg iter wi)(hg:PG X tg g)(hb:PSs X body tb)
  (hs:∀ x,foldedSetIterable iter X.env x=pure x:=by intro _;rfl):PS X (.For tg iter body [] pos) (Anq wi g tb):=by
 intro pins s σ H D I h
 refine wpAny_For (thn (hi pins s σ H _ I h) fun v s1 h1=>thn h1 fun itv s2 h2=>?_) hs
 obtain⟨it,fp,tn,J,H2,e,I2,T,st2,f2,W,⟨m0,w0⟩,turn⟩:=h2
 subst e
 have stat:∀{H':Hp},(∀ b∈fp,H' b=none)→∀ b∈fp,O3 X pins H' b:=fun hn b hb=>⟨hn b hb,(f2 b hb).2⟩
 refine codeAny_forLoop_any (fun n s'=>∃ i σ' H',Inv X pins σ' H' s'∧tn i s'.heap∧(∀ b∈fp,H' b=none)∧W i n σ' H') ?_ m0 ⟨0,σ,H2,I2,st2,fun b hb=>(f2 b hb).1,w0⟩
 rintro n s3 ⟨i,σ3,H3,I3,st3,fr3,w3⟩
 rcases turn i n σ3 H3 w3 with ⟨stop,qn⟩ | ⟨go,N,hN,step⟩
 ·refine wpAny_passesOwn hp (thn (T.done X rfl rfl rfl hc i pins s3 σ3 H3 X.xe I3 (stat fr3) st3 stop) fun r s4 ⟨hr,I4⟩=>?_)
  subst hr
  exact wpAny_execs_nil ⟨σ3,H3,I4,qn⟩
 ·refine wpAny_passesOwn hp (thn (T.item X rfl rfl rfl hc i pins s3 σ3 H3 X.xe I3 (stat fr3) st3 go) fun r s4 ⟨u,hr,h4⟩=>?_)
  subst hr
  refine wpAny_passesOwn hp (thn h4 fun _ s5 ⟨x,H5,I5,r5,y5,st5,fr5⟩=>?_)
  have I5':=I5.pinned (stat fr5) (T.obj _ _ st5)
  refine wpAny_passesOwn hp (thn (hg _ s5 σ3 H5 x u _ I5' r5 (step x H5 y5)) fun _ s6 ⟨σ6,H6,I6,q6⟩=>?_)
  refine wpAny_passesOwn hp (thn (hb _ s6 σ6 H6 _ I6 q6) fun f s7 q7=>?_)
  have again:∀{σ7:St} {H7:Hp},Inv X (pins++Xr fp s5.heap) σ7 H7 s7→N σ7 H7→∃ m,m<n∧∃ i σ' H',Inv X pins σ' H' s7∧tn i s7.heap∧(∀ b∈fp,H' b=none)∧W i m σ' H':=fun {σ7 H7} I7 n7=>by
   obtain⟨m',hm,w7⟩:=hN σ7 H7 n7
   refine⟨m',hm,i+1,σ7,H7,I7.Aaw,T.keep _ _ _ st5 fun b hb o e=>(I7.pin (b,o) (ApE _ (ApE _ (Hu hb e)))).1,fun b hb=>?_,w7⟩
   obtain⟨o,e,d⟩:=T.obj _ _ st5 b hb
   exact(I7.pin (b,o) (ApE _ (ApE _ (Hu hb e)))).2.1
  cases f with
  | next=>obtain⟨σ7,H7,I7,n7⟩:=q7;exact again I7 n7
  | cont=>obtain⟨σ7,H7,I7,n7⟩:=q7;exact again I7 n7
  | brk=>obtain⟨σ7,H7,I7,q7⟩:=q7;exact⟨σ7,H7,I7.Aaw,q7⟩
  | ret v=>obtain⟨x7,σ7,H7,I7,r7,q7⟩:=q7;exact⟨x7,σ7,H7,I7.Aaw,r7,q7⟩
end
theorem Ha{K:PySem.W.Frag}{a:Addr}{xs:List V}{g:TG}{tb:TS}{D:Ends}{σ:St}{H:Hp}(Pv:Nat→St→Hp→Prop)(h0:Pv 0 σ H)(hl:∀ i σ H,i≤xs.length→Pv i σ H→SqL K H a xs)
  (hs:∀ i x σ H,xs[i]?=some x→Pv i σ H→g x σ H fun σ2 H2=>tb { D with nx:=Pv (i+1),ct:=Pv (i+1),bk:=D.nx } σ2 H2) (hd:∀ σ H,Pv xs.length σ H→D.nx σ H) :
  ∃ W:Nat→Nat→St→Hp→Prop,(∃ m,W 0 m σ H)∧∀ i m σ H,W i m σ H →
   ((Itl K a).stop i H∧D.nx σ H)∨((Itl K a).go i H∧∃ N:St→Hp→Prop,(∀ σ' H',N σ' H'→∃ m',m'<m∧W (i+1) m' σ' H')∧∀ x H',(Itl K a).yld i H x H'→g x σ H' fun σ2 H2=>tb { D with nx:=N,ct:=N,bk:=D.nx } σ2 H2):=by
 refine⟨fun i m σ H=>m=xs.length-i∧i≤xs.length∧Pv i σ H,⟨xs.length,by simp,Ap7 _,h0⟩,?_⟩
 rintro i m σ H ⟨rfl,hi,p⟩
 have q:=hl i σ H hi p
 by_cases hlt:i<xs.length
 ·refine .inr ⟨⟨xs,xs[i],q,by simp[hlt]⟩,Pv (i+1),fun σ' H' p'=>⟨xs.length-(i+1),by omega,rfl,hlt,p'⟩,fun x H' y=>?_⟩
  obtain⟨e,y⟩:=y
  subst e
  exact hs i x σ _ (y xs q) p
 ·have e:i=xs.length:=by omega
  subst e
  exact .inl ⟨⟨xs,q,Apv _⟩,hd σ H p⟩
theorem AbT{lo:Int}{n:Nat}{g:TG}{tb:TS}{D:Ends}{σ:St}{H:Hp}(Pv:Nat→St→Hp→Prop)(h0:Pv 0 σ H)
  (hs:∀ i σ H,i<n→Pv i σ H→g (.int (lo+i)) σ H fun σ2 H2=>tb { D with nx:=Pv (i+1),ct:=Pv (i+1),bk:=D.nx } σ2 H2) (hd:∀ σ H,Pv n σ H→D.nx σ H) :
  ∃ W:Nat→Nat→St→Hp→Prop,(∃ m,W 0 m σ H)∧∀ i m σ H,W i m σ H →
   ((Itr lo n).stop i H∧D.nx σ H)∨((Itr lo n).go i H∧∃ N:St→Hp→Prop,(∀ σ' H',N σ' H'→∃ m',m'<m∧W (i+1) m' σ' H')∧∀ x H',(Itr lo n).yld i H x H'→g x σ H' fun σ2 H2=>tb { D with nx:=N,ct:=N,bk:=D.nx } σ2 H2):=by
 refine⟨fun i m σ H=>m=n-i∧i≤n∧Pv i σ H,⟨n,by simp,Ap7 _,h0⟩,?_⟩
 rintro i m σ H ⟨rfl,hi,p⟩
 by_cases hlt:i<n
 ·refine .inr ⟨hlt,Pv (i+1),fun σ' H' p'=>⟨n-(i+1),by omega,rfl,hlt,p'⟩,fun x H' y=>?_⟩
  obtain⟨e,y⟩:=y
  subst e y
  exact hs i σ _ hlt p
 ·have e:i=n:=by omega
  subst e
  exact .inl ⟨Apv _,hd σ H p⟩
open PySem PySem.Spec PyProof.Rows
abbrev R2:=V→V→Hp→VK→Prop
def OpR (X:Cx)(f:Value→Value→Sem Value)(r:R2):Prop :=
 ∀(pins:List (Addr × Obj)) (s:Shared) (σ:St) (H:Hp) (x y:V) (v u:Value) (Q:VK),Inv X pins σ H s→RelV x v→RelV y u→r x y H Q →
  wpAny (model X.prog X.w) X.A (f v u) (EP X pins σ Q) X.xe s
def UnR (X:Cx)(f:Value→Sem Value)(r:V→Hp→VK→Prop):Prop :=
 ∀(pins:List (Addr × Obj)) (s:Shared) (σ:St) (H:Hp) (x:V) (v:Value) (Q:VK),Inv X pins σ H s→RelV x v→r x H Q →
  wpAny (model X.prog X.w) X.A (f v) (EP X pins σ Q) X.xe s
def Hb (X:Cx)(f:Value)(r:List V→Hp→VK→Prop):Prop :=
 ∀(pins:List (Addr × Obj)) (s:Shared) (σ:St) (H:Hp) (xs:List V) (us:List Value) (Q:VK),Inv X pins σ H s→Vals xs us→r xs H Q →
  wpAny (model X.prog X.w) X.A (call f us) (EP X pins σ Q) X.xe s
def Anr (X:Cx)(r:V→Hp→(Bool→Hp→Prop)→Prop):Prop :=
 ∀(pins:List (Addr × Obj)) (s:Shared) (σ:St) (H:Hp) (x:V) (v:Value) (Q:Bool→Hp→Prop),Inv X pins σ H s→RelV x v→r x H Q →
  wpAny (model X.prog X.w) X.A (truthy v) (TP X pins σ Q) X.xe s
def tOp (r:R2)(ta tb:TE):TE:=fun σ H Q=>ta σ H fun x H1=>tb σ H1 fun y H2=>r x y H2 Q
def tUn (r:V→Hp→VK→Prop)(ta:TE):TE:=fun σ H Q=>ta σ H fun x H1=>r x H1 Q
def rI (C:Int→Int→Prop)(g:Int→Int→V):R2:=fun x y H Q=>∃ i j,x=.int i∧y=.int j∧C i j∧Q (g i j) H
def rI0 (g:Int→Int→V):R2:=fun x y H Q=>∃ i j,x=.int i∧y=.int j∧Q (g i j) H
def rU (g:Int→V):V→Hp→VK→Prop:=fun x H Q=>∃ i,x=.int i∧Q (g i) H
section
variable {X:Cx}{a b c:Expr}{ta tb tc:TE}{pos:Pos}
theorem AjP(ha:PE X a ta)(hb:PE X b tb){pins:List (Addr × Obj)}{s:Shared}{σ:St}{H:Hp}{R:V→V→Hp→Prop}(I:Inv X pins σ H s)
  (h:ta σ H fun x H1=>tb σ H1 fun y H2=>R x y H2) {Q:Value→Shared→Prop} {f:Value→Value→Sem Value}
  (hf:∀ v u s2 x y H2,Inv X pins σ H2 s2→RelV x v→RelV y u→R x y H2→wpAny (model X.prog X.w) X.A (f v u) Q X.xe s2) :
  wpAny (model X.prog X.w) X.A (eval a X.env) (fun v s₁=>wpAny (model X.prog X.w) X.A (eval b X.env) (fun u s₂=>wpAny (model X.prog X.w) X.A (f v u) Q X.xe s₂) X.xe s₁) X.xe s:=by
 refine thn (ha pins s σ H _ I h) fun v s1 ⟨x,H1,I1,r1,q1⟩=>?_
 refine thn (hb pins s1 σ H1 _ I1 q1) fun u s2 ⟨y,H2,I2,r2,q2⟩=>?_
 exact hf v u s2 x y H2 I2 r1 r2 q2
theorem Bu{op:Operator}{r:R2}(ho:OpR X (binaryOp op) r)(ha:PE X a ta)(hb:PE X b tb):PE X (.BinOp a op b pos) (tOp r ta tb):=by
 intro pins s σ H Q I h
 exact wpAny_BinOp (AjP ha hb I h fun v u s2 x y H2 I2 rx ry q=>ho pins s2 σ H2 x y v u Q I2 rx ry q)
theorem Ajv{op:UnaryOp}{r:V→Hp→VK→Prop}(ho:UnR X (unaryOp op) r)(ha:PE X a ta):PE X (.UnaryOp op a pos) (tUn r ta):=by
 intro pins s σ H Q I h
 exact UnaryOp_ (thn (ha pins s σ H _ I h) fun v s1 ⟨x,H1,I1,r1,q1⟩=>ho pins s1 σ H1 x v Q I1 r1 q1)
theorem opI{f:Value→Value→Sem Value}{C:Int→Int→Prop}{g:Int→Int→Int}
  (rule:∀(i j:Int) (t u:Tok) (s:Shared) (Q:Value→Shared→Prop) (E:Value→Shared→Prop),C i j→Q (.int (g i j) s.toks) { s with toks:=s.toks+1 }→wpAny (model X.prog X.w) X.A (f (.int i t) (.int j u)) Q E s) :
  OpR X f (rI C fun i j=>.int (g i j)):=by
 intro pins s σ H x y v u Q I rx ry h
 obtain⟨i,j,rfl,rfl,hc,q⟩:=h
 obtain⟨t,rfl⟩:=rx
 obtain⟨t',rfl⟩:=ry
 exact rule i j t t' s _ _ hc ⟨.int (g i j),H,I.tok _,⟨_,rfl⟩,q⟩
theorem AlG{f:Value→Value→Sem Value}{g:Int→Int→Int}
  (rule:∀(i j:Int) (t u:Tok) (s:Shared) (Q:Value→Shared→Prop) (E:Value→Shared→Prop),Q (.int (g i j) s.toks) { s with toks:=s.toks+1 }→wpAny (model X.prog X.w) X.A (f (.int i t) (.int j u)) Q E s) :
  OpR X f (rI0 fun i j=>.int (g i j)):=by
 intro pins s σ H x y v u Q I rx ry h
 obtain⟨i,j,rfl,rfl,q⟩:=h
 obtain⟨t,rfl⟩:=rx
 obtain⟨t',rfl⟩:=ry
 exact rule i j t t' s _ _ ⟨.int (g i j),H,I.tok _,⟨_,rfl⟩,q⟩
theorem Aio{f:Value→Value→Sem Value}{g:Int→Int→Bool}
  (rule:∀(i j:Int) (t u:Tok) (s:Shared) (Q:Value→Shared→Prop) (E:Value→Shared→Prop),Q (.bool (g i j)) s→wpAny (model X.prog X.w) X.A (f (.int i t) (.int j u)) Q E s) :
  OpR X f (rI0 fun i j=>.bl (g i j)):=by
 intro pins s σ H x y v u Q I rx ry h
 obtain⟨i,j,rfl,rfl,q⟩:=h
 obtain⟨t,rfl⟩:=rx
 obtain⟨t',rfl⟩:=ry
 exact rule i j t t' s _ _ ⟨.bl (g i j),H,I,rfl,q⟩
def Ans (i j:Int):Prop:=0<j∧j<1073741824
def Aom (i j:Int):Prop:=j≠0∧j.natAbs<1073741824
def AoQ (i j:Int):Prop:=0≤j∧j≤1000000∧i.natAbs<2 ^ 64
def AjQ (i j:Int):Prop:=(-(2 ^ 64)<i∧i<2 ^ 64)∨(-(2 ^ 64)<j∧j<2 ^ 64)
theorem AjQ.ok{i j:Int}(h:AjQ i j):IntMulOk i j:=by
 rcases h with ⟨h1,h2⟩ | ⟨h1,h2⟩
 ·exact .of_left (intBits_le_64 h1 h2)
 ·exact .of_right (intBits_le_64 h1 h2)
theorem Hc:OpR X (binaryOp .Add) (rI0 fun i j=>.int (i+j)):=AlG fun _ _ _ _ _ _ _ q=>add_int q
theorem Aax:OpR X (binaryOp .Sub) (rI0 fun i j=>.int (i-j)):=AlG fun _ _ _ _ _ _ _ q=>sub_int q
theorem AjR:OpR X (binaryOp .Mult) (rI AjQ fun i j=>.int (i*j)):=opI fun _ _ _ _ _ _ _ hc q=>mul_int q hc.ok
theorem Fw:OpR X (binaryOp .FloorDiv) (rI Ans fun i j=>.int (i / j)):=opI fun i j _ _ _ _ _ hc q=>by
 have h1:(0:Int)<j:=hc.1
 have h2:j<1073741824:=hc.2
 exact floordiv_int (by omega) (by rw[Int.fdiv_eq_ediv_of_nonneg i (by omega)];exact q) (.inl (PyProof.noPylong_small (by omega)))
theorem Fz:OpR X (binaryOp .Mod) (rI (fun _ j=>0<j) fun i j=>.int (i%j)):=opI fun i j _ _ _ _ _ hc q=>by
 have h1:(0:Int)<j:=hc
 exact mod_int' (by omega) (by rw[Int.fmod_eq_emod_of_nonneg i (by omega)];exact q)
theorem unI{f:Value→Sem Value}{g:Int→Int}
  (rule:∀(i:Int) (t:Tok) (s:Shared) (Q:Value→Shared→Prop) (E:Value→Shared→Prop),Q (.int (g i) s.toks) { s with toks:=s.toks+1 }→wpAny (model X.prog X.w) X.A (f (.int i t)) Q E s) :
  UnR X f (rU fun i=>.int (g i)):=by
 intro pins s σ H x v Q I rx h
 obtain⟨i,rfl,q⟩:=h
 obtain⟨t,rfl⟩:=rx
 exact rule i t s _ _ ⟨.int (g i),H,I.tok _,⟨_,rfl⟩,q⟩
theorem Agr:UnR X (unaryOp .USub) (rU fun i=>.int (-i)):=unI fun _ _ _ _ _ q=>neg_int q
end
def AlH:V→V→Bool
 | .non,.non=>true | .non,.int _=>true | .int _,.non=>true | .non,.bl _=>true | .bl _,.non=>true | .non,.str _=>true | .str _,.non=>true
 | .int _,.int _=>true | .bl _,.bl _=>true | .str _,.str _=>true | .byt _,.byt _=>true
 | .int _,.str _=>true | .str _,.int _=>true | .bl _,.str _=>true | .str _,.bl _=>true
 | _,_=>false
def rEq:R2:=fun x y H Q=>AlH x y=true∧Q (.bl (decide (x=y))) H
def rNe:R2:=fun x y H Q=>AlH x y=true∧Q (.bl (!decide (x=y))) H
theorem AeM{i j:Int}:decide (V.int i=V.int j)=(i == j):=by
 rw[Aqd]
 simp
theorem Ags{i j:Bool}:decide (V.bl i=V.bl j)=(i == j):=by
 rw[Aqd]
 simp
theorem AeN{i j:Str}:decide (V.str i=V.str j)=(i == j):=by
 rw[Aqd]
 simp
theorem AeO{i j:Array UInt8}:decide (V.byt i=V.byt j)=(i.toList == j.toList):=by
 rw[Aqd]
 cases i
 cases j
 simp
section
variable {X:Cx}{a b c:Expr}{ta tb tc:TE}{pos:Pos}
theorem Di{pins:List (Addr × Obj)}{σ:St}{H:Hp}{s:Shared}{Q:VK}{k k':Bool}(I:Inv X pins σ H s)(q:Q (.bl k) H)(e:k=k'):EP X pins σ Q (.bool k') s:=by
 subst e
 exact⟨.bl k,H,I,rfl,q⟩
theorem Ce:OpR X (compareOp .Eq) rEq:=by
 intro pins s σ H x y v u Q I rx ry h
 obtain⟨hs,q⟩:=h
 cases x with
 | non =>
  cases rx
  cases y with
  | non=>cases ry;exact PySem.EqNone.eq_none_none (Di I q (by simp))
  | bl j=>cases ry;exact PySem.EqNone.eq_none_bool (Di I q (by simp))
  | int j=>obtain⟨t',rfl⟩:=ry;exact PySem.EqNone.eq_none_int (Di I q (by simp))
  | str j=>obtain⟨t',rfl⟩:=ry;exact PySem.EqNone.eq_none_str (Di I q (by simp))
  | _=>exact absurd (show false=true from hs) Ap4
 | bl i =>
  cases rx
  cases y with
  | non=>cases ry;exact PySem.EqNone.eq_bool_none (Di I q (by simp))
  | bl j=>cases ry;exact eq_bool (Di I q Ags)
  | str j=>obtain⟨t',rfl⟩:=ry;exact PySem.EqMixed.eq_bool_str (Di I q (by simp))
  | _=>exact absurd (show false=true from hs) Ap4
 | int i =>
  obtain⟨t,rfl⟩:=rx
  cases y with
  | non=>cases ry;exact PySem.EqNone.eq_int_none (Di I q (by simp))
  | int j=>obtain⟨t',rfl⟩:=ry;exact eq_int (Di I q AeM)
  | str j=>obtain⟨t',rfl⟩:=ry;exact PySem.EqMixed.eq_int_str (Di I q (by simp))
  | _=>exact absurd (show false=true from hs) Ap4
 | str i =>
  obtain⟨t,rfl⟩:=rx
  cases y with
  | non=>cases ry;exact PySem.EqNone.eq_str_none (Di I q (by simp))
  | bl j=>cases ry;exact PySem.EqMixed.eq_str_bool (Di I q (by simp))
  | int j=>obtain⟨t',rfl⟩:=ry;exact PySem.EqMixed.eq_str_int (Di I q (by simp))
  | str j=>obtain⟨t',rfl⟩:=ry;exact eq_str (Di I q AeN)
  | _=>exact absurd (show false=true from hs) Ap4
 | byt i =>
  obtain⟨t,rfl⟩:=rx
  cases y with
  | byt j=>obtain⟨t',rfl⟩:=ry;exact PySem.W.eq_bytes (Di I q AeO)
  | _=>exact absurd (show false=true from hs) Ap4
 | _=>cases y <;> exact absurd (show false=true from hs) Ap4
theorem AbU:OpR X (compareOp .NotEq) rNe:=by
 intro pins s σ H x y v u Q I rx ry h
 obtain⟨hs,q⟩:=h
 cases x with
 | non =>
  cases rx
  cases y with
  | non=>cases ry;exact PySem.EqNone.ne_none_none (Di I q (by simp))
  | bl j=>cases ry;exact PySem.EqNone.ne_none_bool (Di I q (by simp))
  | int j=>obtain⟨t',rfl⟩:=ry;exact PySem.EqNone.ne_none_int (Di I q (by simp))
  | str j=>obtain⟨t',rfl⟩:=ry;exact PySem.EqNone.ne_none_str (Di I q (by simp))
  | _=>exact absurd (show false=true from hs) Ap4
 | bl i =>
  cases rx
  cases y with
  | non=>cases ry;exact PySem.EqNone.ne_bool_none (Di I q (by simp))
  | bl j=>cases ry;exact ne_bool (Di I q (congrArg not Ags))
  | str j=>obtain⟨t',rfl⟩:=ry;exact PySem.EqMixed.ne_bool_str (Di I q (by simp))
  | _=>exact absurd (show false=true from hs) Ap4
 | int i =>
  obtain⟨t,rfl⟩:=rx
  cases y with
  | non=>cases ry;exact PySem.EqNone.ne_int_none (Di I q (by simp))
  | int j=>obtain⟨t',rfl⟩:=ry;exact ne_int (Di I q (congrArg not AeM))
  | str j=>obtain⟨t',rfl⟩:=ry;exact PySem.EqMixed.ne_int_str (Di I q (by simp))
  | _=>exact absurd (show false=true from hs) Ap4
 | str i =>
  obtain⟨t,rfl⟩:=rx
  cases y with
  | non=>cases ry;exact PySem.EqNone.ne_str_none (Di I q (by simp))
  | bl j=>cases ry;exact PySem.EqMixed.ne_str_bool (Di I q (by simp))
  | int j=>obtain⟨t',rfl⟩:=ry;exact PySem.EqMixed.ne_str_int (Di I q (by simp))
  | str j=>obtain⟨t',rfl⟩:=ry;exact ne_str (Di I q (congrArg not AeN))
  | _=>exact absurd (show false=true from hs) Ap4
 | byt i =>
  obtain⟨t,rfl⟩:=rx
  cases y with
  | byt j=>obtain⟨t',rfl⟩:=ry;exact PySem.W.ne_bytes (Di I q (congrArg not AeO))
  | _=>exact absurd (show false=true from hs) Ap4
 | _=>cases y <;> exact absurd (show false=true from hs) Ap4
theorem Nr:OpR X (compareOp .Lt) (rI0 fun i j=>.bl (decide (i<j))):=Aio fun _ _ _ _ _ _ _ q=>lt_int q
theorem AlI:OpR X (compareOp .LtE) (rI0 fun i j=>.bl (decide (i≤j))):=Aio fun _ _ _ _ _ _ _ q=>le_int q
theorem J7:OpR X (compareOp .Gt) (rI0 fun i j=>.bl (decide (j<i))):=Aio fun _ _ _ _ _ _ _ q=>gt_int q
theorem Agt:OpR X (compareOp .GtE) (rI0 fun i j=>.bl (decide (j≤i))):=Aio fun _ _ _ _ _ _ _ q=>ge_int q
theorem Xu:OpR X (compareOp .In) (fun x y H Q=>∃ i j,x=.str i∧y=.str j∧Q (.bl (!(Builtin.Str.occurrences j i 0 j.length 1).isEmpty)) H):=by
 intro pins s σ H x y v u Q I rx ry h
 obtain⟨i,j,rfl,rfl,q⟩:=h
 obtain⟨t,rfl⟩:=rx
 obtain⟨t',rfl⟩:=ry
 exact in_str (Di I q rfl)
theorem Aay:OpR X (compareOp .Is) (fun x y H Q=>y=.non∧Q (.bl (decide (x=.non))) H):=by
 intro pins s σ H x y v u Q I rx ry h
 obtain⟨rfl,q⟩:=h
 cases ry
 refine is_none_gen (Di I q ?_)
 cases x <;> first
  | (cases rx;rfl)
  | (obtain⟨t,rfl⟩:=rx;rfl)
theorem AcA:OpR X (compareOp .NotIn) (fun x y H Q=>∃ i j,x=.str i∧y=.str j∧Q (.bl (!(!(Builtin.Str.occurrences j i 0 j.length 1).isEmpty))) H):=by
 intro pins s σ H x y v u Q I rx ry h
 obtain⟨i,j,rfl,rfl,q⟩:=h
 obtain⟨t,rfl⟩:=rx
 obtain⟨t',rfl⟩:=ry
 exact notIn_str (Di I q rfl)
def isObj:HO→Bool
 | .lst _=>true
 | .ins _ _ _=>true
 | _=>false
theorem Al(b:Expr){op:CmpOp}(h:op≠.In:=by decide)(h2:op≠.NotIn:=by decide):behindInMarks op b=false:=by
 have e1:(op == CmpOp.In)=false:=by cases op <;> first | rfl | exact absurd rfl h
 have e2:(op == CmpOp.NotIn)=false:=by cases op <;> first | rfl | exact absurd rfl h2
 cases b <;> simp[behindInMarks,e1,e2]
theorem BP{op:CmpOp}{r:R2}(ho:OpR X (compareOp op) r)(ha:PE X a ta)(hb:PE X b tb)(hm:behindInMarks op b=false):PE X (.Compare a [op] [b] pos) (tOp r ta tb):=by
 intro pins s σ H Q I h
 exact wpAny_Compare1 (AjP ha hb I h fun v u s2 x y H2 I2 rx ry q=>ho pins s2 σ H2 x y v u Q I2 rx ry q) hm
def AlJ (t:TE):TT:=fun σ H Q=>t σ H fun x H'=>∃ k,x=.bl k∧Q k H'
theorem Ay{op:CmpOp}{r:R2}(ho:OpR X (compareOp op) r)(ha:PE X a ta)(hb:PE X b tb)(hm:behindInMarks op b=false):PT X (.Compare a [op] [b] pos) (AlJ (tOp r ta tb)):=by
 intro pins s σ H Q I h
 refine wpAny_isTrue_Compare1 (thn (ha pins s σ H _ I h) fun v s1 ⟨x,H1,I1,r1,q1⟩=>thn (hb pins s1 σ H1 _ I1 q1) fun u s2 ⟨y,H2,I2,r2,q2⟩ =>
  thn (ho pins s2 σ H2 x y v u _ I2 r1 r2 q2) fun c s3 ⟨z,H3,I3,r3,k,e,q3⟩=>?_) hm
 subst e
 cases r3
 exact wpAny_truthy_bool ⟨H3,I3,q3⟩
def Ant (r r':R2)(ta tb tc:TE):TE:=fun σ H Q=>ta σ H fun x H1=>tb σ H1 fun y H2=>r x y H2 fun z H3=>∃ k,z=.bl k ∧
 (if k=true then tc σ H3 fun w' H4=>r' y w' H4 Q else Q (.bl false) H3)
def AjS (K:PySem.W.Frag)(x:V)(H:Hp)(k:Bool):Prop :=
 match x with
 | .non=>k=false
 | .bl b=>k=b
 | .int i=>k=(i != 0)
 | .str y=>y.length≤sizeLine∧k=((y.length:Int) != 0)
 | .byt y=>y.size≤sizeLine∧k=((y.size:Int) != 0)
 | .ref p=>(∃ xs,SqL K H p xs∧k=!xs.isEmpty)∨(∃ xs,SqT K H p xs∧k=!xs.isEmpty)∨∃ kvs,H p=some (.dK kvs)∧k=!kvs.isEmpty
 | _=>False
theorem Aem{κ:Type}{kvs:List (κ × V)}{vs:List (κ × Value)}(r:KV kvs vs):(!vs.isEmpty)=!kvs.isEmpty:=by
 cases r <;> rfl
theorem Aaz{xs:List V}{its:List Value}(r:Vals xs its):(!its.toArray.isEmpty)=!xs.isEmpty:=by
 cases r <;> simp
theorem Xv:(sizeLine:Nat)<2 ^ 63:=by rw[sizeLine_eq];decide
theorem AjT:Anr X (fun x H Q=>∃ k,AjS X.K x H k∧Q k H):=by
 intro pins s σ H x v Q I rx h
 obtain⟨k,e,q⟩:=h
 have hl:=Xv
 have hs:sizeLine=16777216:=sizeLine_eq
 cases x with
 | non =>
  cases rx
  have e':k=false:=e
  subst e'
  exact truthy_none ⟨H,I,q⟩
 | bl b =>
  cases rx
  have e':k=b:=e
  subst e'
  exact wpAny_truthy_bool ⟨H,I,q⟩
 | int i =>
  obtain⟨t,rfl⟩:=rx
  have e':k=(i != 0):=e
  subst e'
  exact PySem.P.truthy_int ⟨H,I,q⟩
 | str y =>
  obtain⟨t,rfl⟩:=rx
  obtain⟨hy,e'⟩:y.length≤sizeLine∧k=((y.length:Int) != 0):=e
  subst e'
  exact PySem.P.truthy_str (by omega) ⟨H,I.tok _,q⟩
 | byt y =>
  obtain⟨t,rfl⟩:=rx
  obtain⟨hy,e'⟩:y.size≤sizeLine∧k=((y.size:Int) != 0):=e
  subst e'
  exact PySem.W.truthy_bytes (by omega) ⟨H,I.tok _,q⟩
 | ref p =>
  cases rx
  have e':(∃ xs,SqL X.K H p xs∧k=!xs.isEmpty)∨(∃ xs,SqT X.K H p xs∧k=!xs.isEmpty)∨∃ kvs,H p=some (.dK kvs)∧k=!kvs.isEmpty:=e
  rcases e' with ⟨xs,hx,e'⟩ | ⟨xs,hx,e'⟩ | ⟨kvs,hx,e'⟩
  ·subst e'
   obtain⟨its,r,pl,hz⟩:=I.list hx
   have hlen:=r.length
   exact wpAny_truthy_list pl.isList (by simp only [Ap1];omega) ⟨H,I.tok _,by rw[Aaz r];exact q⟩
  ·subst e'
   obtain⟨its,r,pl,hz⟩:=I.tuple hx
   have hlen:=r.length
   exact truthy_tuple pl (by simp only [Ap1];omega) ⟨H,I.tok _,by rw[Aaz r];exact q⟩
  ·subst e'
   obtain⟨hz,hS,vs,r,m⟩:kvs.length≤sizeLine∧(p == sysModules)=false∧∃ vs,KV kvs vs∧s.heap.DictOf (Ac6 X.prog X.w) p vs:=I.hok p _ hx
   have hlen:kvs.length=vs.length:=Paired.length r
   exact wpAny_truthy_dict hS m (by omega) ⟨H,I.tok _,by rw[Aem r];exact q⟩
 | _=>exact(show False from e).elim
theorem Agu(ha:PE X a ta)(he:∀ whole,isTrue a X.env whole=(do let v ← whole;standAt a.pos;holding [v] (truthy v))) :
  PT X a (fun σ H Q=>ta σ H fun x H'=>∃ k,AjS X.K x H' k∧Q k H'):=by
 intro pins s σ H Q I h
 exact isTrue_plain (thn (ha pins s σ H _ I h) fun v s1 ⟨x,H1,I1,r1,q1⟩=>AjT pins s1 σ H1 x v Q I1 r1 q1) (he _)
theorem DX:OpR X (binaryOp .Add) (fun x y H Q=>∃ i j,x=.str i∧y=.str j∧i.length+j.length≤sizeLine∧Q (.str (i++j)) H):=by
 intro pins s σ H x y v u Q I rx ry h
 obtain⟨i,j,rfl,rfl,hz,q⟩:=h
 obtain⟨t,rfl⟩:=rx
 obtain⟨t',rfl⟩:=ry
 exact add_str (fun t' tk=>⟨.str (i++j),H,I.tok _,⟨_,rfl⟩,q⟩) hz
def AlK (b:Expr):Prop:=∀ o i,subscripted b false o i=operate [o,i] (getItem o i)
theorem vals1{x:V}{us:List Value}(r:Vals [x] us):∃ u,us=[u]∧RelV x u:=by
 cases r with
 | cons r1 r2=>cases r2;exact⟨_,rfl,r1⟩
theorem Agv:Hb X (.builtin "abs") (fun xs H Q=>∃ i,xs=[.int i]∧Q (.int (if i<0 then -i else i)) H):=by
 intro pins s σ H xs us Q I r h
 obtain⟨i,rfl,q⟩:=h
 obtain⟨u,rfl,t,rfl⟩:=vals1 r
 exact call_abs_int fun u tk=>⟨.int (if i<0 then -i else i),H,I.tok _,⟨_,rfl⟩,q⟩
theorem AcB:Hb X (.type "str") (fun xs H Q=>∃ i,xs=[.int i]∧i.natAbs.log2<1920∧Q (.str (toString i)) H):=by
 intro pins s σ H xs us Q I r h
 obtain⟨i,rfl,hz,q⟩:=h
 obtain⟨u,rfl,t,rfl⟩:=vals1 r
 exact PySem.P.str_of_int hz ⟨.str _,H,I.tok _,⟨_,rfl⟩,q⟩
def AoR (K:PySem.W.Frag)(x:V)(H:Hp)(n:Nat):Prop :=
 match x with
 | .str y=>y.length≤sizeLine∧n=y.length
 | .byt y=>y.size≤sizeLine∧n=y.size
 | .ref p=>(∃ xs,SqL K H p xs∧n=xs.length)∨∃ xs,SqT K H p xs∧n=xs.length
 | _=>False
end
open PySem PySem.Spec PyProof.Rows
structure Aen (h:Heap) (x dx C:Addr) (mA:Str→Option Value):Prop where
 obj:h.get? x=some (PySem.W.instObj C dx)
 ns:h.Ns1 dx mA
 ne:dx≠x
theorem Afu{h:Heap}{dx:Addr}{mA:Str→Option Value}(n:h.Ns1 dx mA):∃ od,h.get? dx=some od∧∀ name,PySem.W.lookIn name od=some (mA name):=by
 obtain⟨o,es,ep,ho,hd,hk,_,hm⟩:=n
 refine⟨o,ho,fun name=>?_⟩
 have e:=hm name
 unfold nsFind findBy at e
 rw[← Array.find?_toList] at e
 unfold PySem.W.lookIn
 rw[hd]
 dsimp only
 split
 ·rename_i y q
  rw[q] at e
  exact congrArg some e
 ·rename_i q
  rw[q] at e
  have a:es.toList.any (·.refKey)=false:=by
   rw[List.any_eq_false]
   intro y hy
   obtain⟨z,t,hkey⟩:=hk y (Array.mem_toList_iff.mp hy)
   simp[DictEntry.refKey,hkey]
  have a':¬es.toList.any (·.refKey)=true:=by rw[a];exact Ap4
  rw[if_neg a']
  exact congrArg some e
theorem Aen.look{h:Heap}{x dx C:Addr}{mA:Str→Option Value}(I:Aen h x dx C mA):∃ od,PySem.W.InstAt h x (PySem.W.instObj C dx) C (some od)∧∀ name,PySem.W.lookIn name od=some (mA name) :=
 let ⟨od,ho,hl⟩:=Afu I.ns
 ⟨od,⟨I.obj,rfl,rfl,ho⟩,hl⟩
section
variable {prog:Program}{w:World}{A:Around}{E:Value→Shared→Prop}{s:Shared}{K:PySem.W.Frag}{x dx C f:Addr}{mA:Str→Option Value}{name:Str}{v:Value}
theorem get_map{expr:Bool}{Q:Value→Shared→Prop}(X:K.In s.heap)(I:Aen s.heap x dx C mA)(hg:PySem.W.plainGet K C name=true)(hh:PySem.W.hasDictIn K C=true)
  (ha:PySem.W.findIn K (.ref C) name=some none) (hv:mA name=some v) (hv':PySem.W.handedIn v=true) (h:Q v { s with toks:=s.toks+1 }) :
  wpAny (model prog w) A (getAttr (.ref x) name expr) Q E s:=by
 obtain⟨od,J,hl⟩:=I.look
 exact PySem.W.get_value X J (PySem.W.plainGet_of hg).1 (PySem.W.findObj_own hh ha rfl (by rw[hl,hv])) hv' h
theorem Agw{pl:Sem Bool}{Q:Value × List Value→Shared→Prop}(X:K.In s.heap)(I:Aen s.heap x dx C mA)(hg:PySem.W.plainGet K C name=true)
  (hf:PySem.W.findIn K (.ref C) name=some (some (.ref f))) (ht:PySem.W.isFn K (.ref f)=true) (hv:mA name=none) (h:Q (.ref f,[.ref x]) s) :
  wpAny (model prog w) A (getMethod (.ref x) name pl) Q E s:=by
 obtain⟨od,J,hl⟩:=I.look
 exact PySem.W.method_fn X J (PySem.W.plainGet_of hg).1 (PySem.W.plainGet_of hg).2 hf (beq_iff_eq.mp ht) (by show(PySem.W.lookIn name od).map (·.isSome)=some false;rw[hl,hv];rfl) h
theorem Aip{ns:List Str}{Q:Unit→Shared→Prop}(X:K.In s.heap)(I:Aen s.heap x dx C mA)
  (hs:PySem.W.findIn K (.ref C) "__setattr__" = some (some (.builtin "object.__setattr__"))) (hp:PySem.W.plainOver K C=true) (ht:PySem.W.takerIn K C name=some none) (hh:PySem.W.hasDictIn K C=true)
  (hw:PySem.Within mA ns) (hsz:ns.length≤sizeLine)
  (h:∀ h',Aen h' x dx C (fun y=>if y=name then some v else mA y)→Heap.SameBut dx s.heap h'→Q () { s with heap:=h',toks:=s.toks+2 }) :
  wpAny (model prog w) A (setAttr (.ref x) name v) Q E s:=by
 obtain⟨od,J,hl⟩:=I.look
 refine PySem.W.set_plain X J hs (PySem.W.osa_open (s:={ s with toks:=s.toks+1 }) (r:=none) X J hp ht fun b=>?_)
 obtain⟨cd,hc,hd'⟩:=PySem.W.any_some hh
 have hx:s.heap.get? x=some ⟨.ref C,some dx,.plain,#[]⟩:=I.obj
 refine wpAny_bind (wpAny_pure (wpAny_bind (wpAny_bind (wpAny_loadPart hx (wpAny_bind (PySem.W.Looks.here (s:={ s with toks:=s.toks+1 }) (PySem.W.looks_clsIn X hc) ?_))))))
 rw[hd']
 refine wpAny_pure (a:=some dx) (wpAny_bind (wpAny_pure (wpAny_bind ?_)))
 refine wpAny_nsSet1 (s:={ s with toks:=s.toks+1 }) I.ns fun h' hn2 hs2=>?_
 obtain⟨oD,esD,epD,hoD,hdD,hcD⟩:=hn2.count (PySem.Within.cons name v hw)
 refine wpAny_bind (wpAny_lookBehind hoD (by rw[hdD];exact pastItsLine_dict (ApA hcD (by rw[Apz];omega))) ?_)
 exact wpAny_pure (h _ ⟨(hs2.2 _ (Ne.symm I.ne)).trans I.obj,hn2,I.ne⟩ hs2)
theorem Agx{R:Result→Shared→Prop}{vs:List Value}{kw:List (Str × Value)}(X:K.In s.heap)(hm:PySem.W.makesIn K C=true)
  (hi:PySem.W.findIn K (.ref C) "__init__" = some (some (.ref f))) (hf:PySem.W.typeIn K (.ref f)=some (.type "function"))
  (h:codeAny (model prog w) (A.under (.builtin "type.__call__" ⟨.ref C::vs,kw⟩)) (.call (.ref f) ⟨.ref (s.heap.objs.size+1)::vs,kw⟩) (PySem.W.InitBack (s.heap.objs.size+1) R)
   { s with heap:=(s.heap.push PySem.W.emptyDict).push (PySem.W.instObj C s.heap.objs.size) }) :
  codeAny (model prog w) A (.call (.ref C) ⟨vs,kw⟩) R s:=by
 obtain⟨hh,g,d,t,os⟩:=s
 exact PySem.W.make_core (PySem.W.makes_of X hm) (PySem.W.looks_findIn X hi) (fun self=>PySem.W.bind_fn X self hf) (.inl rfl) h
end
def Ej (f:Str)(v:V):List (Str × V)→List (Str × V)
 | []=>[(f,v)]
 | (g,x)::r=>if g=f then (g,v)::r else (g,x)::Ej f v r
theorem YW(f g:Str)(v:V):∀ fs:List (Str × V),(Ej f v fs).lookup g=if g=f then some v else fs.lookup g
 | []=>by
  show List.lookup g [(f,v)]=_
  by_cases h:g=f
  ·have hb:(g == f)=true:=beq_iff_eq.mpr h
   simp only [List.lookup,hb,if_pos h]
  ·have hb:(g == f)=false:=beq_eq_false_iff_ne.mpr h
   simp only [List.lookup,hb,if_neg h]
 | (k,x)::r=>by
  have ih:=YW f g v r
  rw[show Ej f v ((k,x)::r)=(if k=f then (k,v)::r else (k,x)::Ej f v r) from rfl]
  by_cases hk:k=f
  ·rw[if_pos hk]
   by_cases h:g=k
   ·have hb:(g == k)=true:=beq_iff_eq.mpr h
    simp only [List.lookup,hb,if_pos (h.trans hk)]
   ·have hb:(g == k)=false:=beq_eq_false_iff_ne.mpr h
    simp only [List.lookup,hb,if_neg (fun e:g=f=>h (e.trans hk.symm))]
  ·rw[if_neg hk]
   by_cases h:g=k
   ·have hb:(g == k)=true:=beq_iff_eq.mpr h
    simp only [List.lookup,hb,if_neg (fun e:g=f=>hk (h.symm.trans e))]
   ·have hb:(g == k)=false:=beq_eq_false_iff_ne.mpr h
    simp only [List.lookup,hb]
    exact ih
theorem Xw(f:Str)(v:V):∀ fs:List (Str × V),f∈(Ej f v fs).map (·.1)∧∀ g,g∈fs.map (·.1)→g∈(Ej f v fs).map (·.1)
 | []=>⟨by simp[Ej],fun g h=>by simp at h⟩
 | (k,x)::r=>by
  obtain⟨i1,i2⟩:=Xw f v r
  rw[show Ej f v ((k,x)::r)=(if k=f then (k,v)::r else (k,x)::Ej f v r) from rfl]
  by_cases hk:k=f
  ·rw[if_pos hk]
   subst hk
   exact⟨by simp,fun g h=>by simpa using h⟩
  ·rw[if_neg hk]
   refine⟨?_,fun g h=>?_⟩
   ·rw[Ap5]
    exact Ap6 _ i1
   ·rw[Ap5] at h ⊢
    rcases List.mem_cons.mp h with e | e
    ·exact List.mem_cons.mpr (.inl e)
    ·exact Ap6 _ (i2 g e)
theorem YZ(f:Str)(v:V):∀ fs:List (Str × V),(Ej f v fs).length≤fs.length+1
 | []=>by simp[Ej]
 | (k,x)::r=>by
  have ih:=YZ f v r
  rw[show Ej f v ((k,x)::r)=(if k=f then (k,v)::r else (k,x)::Ej f v r) from rfl]
  by_cases hk:k=f
  ·rw[if_pos hk,Apz,Apz];omega
  ·rw[if_neg hk,Apz,Apz];omega
theorem Ab4.some_of{v:V}{o:Option Value}(r:Ab4 (some v) o):∃ u,o=some u∧RelV v u:=by
 cases o with
 | none=>exact(show False from r).elim
 | some u=>exact⟨u,rfl,r⟩
theorem Ab4.none_of{o:Option Value}(r:Ab4 none o):o=none:=by
 cases o with
 | none=>rfl
 | some u=>exact(show False from r).elim
theorem Afv{v:V}{u:Value}(r:RelV v u):PySem.W.handedIn u=true:=by
 cases v with
 | non=>cases (show u=Value.none from r);rfl
 | bl b=>cases (show u=Value.bool b from r);rfl
 | int i=>obtain⟨t,e⟩:=(show ∃ t,u=Value.int i t from r);cases e;rfl
 | str x=>obtain⟨t,e⟩:=(show ∃ t,u=Value.str x t from r);cases e;rfl
 | byt b=>obtain⟨t,e⟩:=(show ∃ t,u=Value.bytes b t from r);cases e;rfl
 | flt b=>obtain⟨t,e⟩:=(show ∃ t,u=Value.float b t from r);cases e;rfl
 | ref a=>cases (show u=Value.ref a from r);rfl
 | ty n=>cases (show u=Value.type n from r);rfl
section
variable {P:Program}{w:World}{H H':Hp}{h h':Heap}{a C dx:Addr}{fs fs':List (Str × V)}
theorem Aan(hok:HOk P w H h)(e:H a=some (.ins C dx fs)):∃ mA,Aen h a dx C mA∧(∀ f,Ab4 (fs.lookup f) (mA f))∧PySem.Within mA (fs.map (·.1))∧fs.length≤1000∧H dx=some (.own a):=by
 obtain⟨d,z,ne,ob,mA,n,r,q⟩:=(show Fy P w H h a (.ins C dx fs) from hok a _ e)
 exact⟨mA,⟨ob,n,ne⟩,r,q,z,d⟩
end
structure Cls (K:PySem.W.Frag) (C:Addr):Prop where
 pg:PySem.W.plainGet K C Str.empty=true
 hd:PySem.W.hasDictIn K C=true
 po:PySem.W.plainOver K C=true
 sa:PySem.W.findIn K (.ref C) "__setattr__" = some (some (.builtin "object.__setattr__"))
theorem Cls.get{K:PySem.W.Frag}{C:Addr}(c:Cls K C)(f:Str):PySem.W.plainGet K C f=true:=c.pg
def Dl (K:PySem.W.Frag)(C:Addr)(f:Str):Prop:=PySem.W.findIn K (.ref C) f=some none
theorem Dl.taker{K:PySem.W.Frag}{C:Addr}{f:Str}(n:Dl K C f):PySem.W.takerIn K C f=some none:=by
 unfold PySem.W.takerIn
 rw[show PySem.W.findIn K (.ref C) f=some none from n]
 rfl
structure Con (K:PySem.W.Frag) (C:Addr) (f:Str) (v:V) (u:Value):Prop where
 at_:PySem.W.findIn K (.ref C) f=some (some u)
 rel:RelV v u
 get:PySem.W.specialIn K u "__get__" = some none
 cp:PySem.W.copiedNames.contains f=false
structure Meth (K:PySem.W.Frag) (C:Addr) (m:Str) (f:Addr):Prop where
 at_:PySem.W.findIn K (.ref C) m=some (some (.ref f))
 fn:PySem.W.isFn K (.ref f)=true
 kp:PySem.W.keepIn K (.ref f)=true
section
variable {X:Cx}{pins:List (Addr × Obj)}{σ:St}{H:Hp}{s:Shared}{a C dx:Addr}{fs:List (Str × V)}{f:Str}{v:V}{A:Around}{E:Value→Shared→Prop}
theorem Aa0{b:Bool}{Q:Value→Shared→Prop}(I:Inv X pins σ H s)(e:H a=some (.ins C dx fs))(c:Cls X.K C)(n:Dl X.K C f)(l:fs.lookup f=some v)
  (h:∀ u s',Inv X pins σ H s'→RelV v u→Q u s'):wpAny (model X.prog X.w) A (getAttr (.ref a) f b) Q E s:=by
 obtain⟨mA,O,r,_,_,_⟩:=Aan I.hok e
 obtain⟨u,hu,ru⟩:=Ab4.some_of (v:=v) (o:=mA f) (by rw[← l];exact r f)
 exact get_map I.kIn O (c.get f) c.hd n hu (Afv ru) (h u _ (I.tok _) ru)
theorem J8{m:Str}{g:Addr}{pl:Sem Bool}{Q:Value × List Value→Shared→Prop}(I:Inv X pins σ H s)(e:H a=some (.ins C dx fs))(c:Cls X.K C)(k:Meth X.K C m g)(l:fs.lookup m=none)
  (h:Q (.ref g,[.ref a]) s):wpAny (model X.prog X.w) A (getMethod (.ref a) m pl) Q E s:=by
 obtain⟨mA,O,r,_,_,_⟩:=Aan I.hok e
 have hn:mA m=none:=Ab4.none_of (by rw[← l];exact r m)
 exact Agw I.kIn O (c.get m) k.at_ k.fn hn h
theorem Aa1{y:V}{u:Value}{Q:Unit→Shared→Prop}(I:Inv X pins σ H s)(e:H a=some (.ins C dx fs))(c:Cls X.K C)(n:Dl X.K C f)(hl:fs.length<1000)(ry:RelV y u)
  (h:∀ s',Inv X pins σ (upd H a (.ins C dx (Ej f y fs))) s'→Q () s'):wpAny (model X.prog X.w) A (setAttr (.ref a) f u) Q E s:=by
 obtain⟨mA,O,r,wi,_,ho⟩:=Aan I.hok e
 have hz:(fs.map (·.1)).length≤sizeLine:=by rw[Apx,sizeLine_eq];omega
 refine Aip I.kIn O c.sa c.po n.taker c.hd wi hz fun h' O' sb=>h _ ?_
 have hd:∃ o,h'.get? dx=some o:=let ⟨o,_,_,e',_⟩:=O'.ns;⟨o,e'⟩
 refine I.write (x:=a) (e:=dx) (by rw[e];exact True.intro) (.inr ho) (fun b q hb z=>(sb.2 b hb).trans z) hd ?_
 refine⟨by rw[Ao O.ne];exact ho,?_,O.ne,O'.obj,_,O'.ns,fun g=>?_,fun g hg=>?_⟩
 ·have:=YZ f y fs;omega
 ·show Ab4 ((Ej f y fs).lookup g) (if g=f then some u else mA g)
  rw[YW]
  by_cases q:g=f
  ·rw[if_pos q,if_pos q];exact ry
  ·rw[if_neg q,if_neg q];exact r g
 ·by_cases q:g=f
  ·rw[q];exact(Xw f y fs).1
  ·refine(Xw f y fs).2 g (wi g fun z=>hg ?_)
   show(if g=f then some u else mA g)=none
   rw[if_neg q];exact z
theorem Inv.made(I:Inv X pins σ H s):Inv X pins σ (upd (upd H s.heap.objs.size (.own (s.heap.objs.size+1))) (s.heap.objs.size+1) (.ins C s.heap.objs.size []))
  { s with heap:=(s.heap.push PySem.W.emptyDict).push (PySem.W.instObj C s.heap.objs.size) }:=by
 have e1:(s.heap.push PySem.W.emptyDict).get? s.heap.objs.size=some PySem.W.emptyDict:=Heap.get?_push_size s.heap rfl
 have e2:((s.heap.push PySem.W.emptyDict).push (PySem.W.instObj C s.heap.objs.size)).get? (s.heap.objs.size+1)=some (PySem.W.instObj C s.heap.objs.size):=by
  have:=Heap.get?_push_size (s.heap.push PySem.W.emptyDict) (o:=PySem.W.instObj C s.heap.objs.size) rfl
  rwa [Heap.size_push] at this
 have e3:(s.heap.push PySem.W.emptyDict).Ns s.heap.objs.size (fun _=>none):=⟨PySem.W.emptyDict,#[],_,e1,rfl,(fun e he=>absurd he (by simp)),fun _=>rfl⟩
 have I1:=I.laid (a:=s.heap.objs.size) (o:=.own (s.heap.objs.size+1)) (h':=s.heap.push PySem.W.emptyDict) (t':=s.toks) (fun b u q=>Heap.get?_push_of_some _ q) (Apv _) ⟨_,e1⟩
 refine I1.laid (a:=s.heap.objs.size+1) (o:=.ins C s.heap.objs.size []) (t':=s.toks) (fun b u q=>Heap.get?_push_of_some _ q) (Aqe (Heap.size_push _ _)) ?_
 have ne:s.heap.objs.size≠s.heap.objs.size+1:=Ap3 (Aqi _)
 refine⟨by rw[Ao ne,Ae],Ap7 _,ne,e2,fun _=>none,(Heap.Ns1.of_empty e3).at fun o q=>Heap.get?_push_of_some _ q,fun _=>True.intro,fun y hy=>absurd rfl hy⟩
theorem Aiq{prog:Program}{w:World}{env:Env}{e:Expr}{f:Str}{pos:Pos}{s:Shared}{Q:Value→Shared→Prop}(hb:attributeBase e f env (eval e env)=eval e env)
  (h:wpAny (model prog w) A (eval e env) (fun o s₁=>wpAny (model prog w) A (getAttr o f true) Q E s₁) E s):wpAny (model prog w) A (eval (.Attribute e f pos) env) Q E s :=
 Attribute_any_ h (by rw[arm_eval_Attribute,hb])
end
def AlL (K:PySem.W.Frag)(ta:TE)(f:Str):TE:=fun σ H Q=>ta σ H fun x H1=>∃ a C dx fs v,x=.ref a∧H1 a=some (.ins C dx fs)∧Cls K C∧Dl K C f∧fs.lookup f=some v∧Q v H1
def AoS (K:PySem.W.Frag)(ta:TE)(f:Str):TE:=fun σ H Q=>ta σ H fun x H1=>∃ a C dx fs v u,x=.ref a∧H1 a=some (.ins C dx fs)∧Cls K C∧Con K C f v u∧fs.lookup f=none∧Q v H1
def AlM (K:PySem.W.Frag)(ta tv:TE)(f:Str):TS:=fun D σ H=>tv σ H fun y H1=>ta σ H1 fun x H2=>∃ a C dx fs,x=.ref a∧H2 a=some (.ins C dx fs)∧Cls K C∧Dl K C f∧fs.length<1000 ∧
 D.nx σ (upd H2 a (.ins C dx (Ej f y fs)))
def AjU (X:Cx)(op:Operator)(rd:V→V→Hp→VK→Prop):Prop :=
 ∀(pins:List (Addr × Obj)) (s:Shared) (σ:St) (H:Hp) (x y:V) (u v:Value) (Q:VK),Inv X pins σ H s→RelV x u→RelV y v→rd x y H Q→wpAny (model X.prog X.w) X.A (inplaceOp op u v) (EP X pins σ Q) X.xe s
def AeP (K:PySem.W.Frag)(ta tv:TE)(rd:V→V→Hp→VK→Prop)(f:Str):TS:=fun D σ H=>ta σ H fun x H1=>∃ a C dx fs v,x=.ref a∧H1 a=some (.ins C dx fs)∧Cls K C∧Dl K C f∧fs.lookup f=some v ∧
 tv σ H1 fun y H2=>rd v y H2 fun z H3=>∃ dx' fs',H3 a=some (.ins C dx' fs')∧fs'.length<1000∧D.nx σ (upd H3 a (.ins C dx' (Ej f z fs')))
section
variable {X:Cx}{o e value:Expr}{f:Str}{pos pos' tpos:Pos}{ta tv:TE}
theorem AjV(he:PE X e ta)(hb:attributeBase e f X.env (eval e X.env)=eval e X.env):PE X (.Attribute e f pos) (AlL X.K ta f):=by
 intro pins s σ H Q I h
 refine Aiq hb (thn (he pins s σ H _ I h) fun u s1 ⟨x,H1,I1,rx,a,C,dx,fs,v,ex,ea,c,n,l,q⟩=>?_)
 subst ex
 obtain rfl:u=Value.ref a:=rx
 exact Aa0 I1 ea c n l fun u' s2 I2 ru=>⟨v,H1,I2,ru,q⟩
theorem AjW(ha:PE X o ta)(hv:PE X value tv)(hs:swapsWith value (some (.Attribute o f pos')) pos.line X.env=pure false):PS X (.Assign [.Attribute o f pos'] value pos) (AlM X.K ta tv f):=by
 intro pins s σ H D I h
 refine plainObj_wpAny_Assign_Attribute (thn (hv pins s σ H _ I h) fun u s1 ⟨y,H1,I1,ry,q⟩=>thn (ha pins s1 σ H1 _ I1 q) fun ov s2 ⟨x,H2,I2,rx,a,C,dx,fs,ex,ea,c,n,l,q2⟩=>?_) hs
 subst ex
 obtain rfl:ov=Value.ref a:=rx
 exact Aa1 I2 ea c n l ry fun s3 I3=>⟨σ,_,I3,q2⟩
theorem Afw{op:Operator}{rd:V→V→Hp→VK→Prop}(ha:PE X o ta)(hv:PE X value tv)(hop:AjU X op rd):PS X (.AugAssign (.Attribute o f tpos) op value pos) (AeP X.K ta tv rd f):=by
 intro pins s σ H D I h
 refine wpAny_AugAssign_AttributeAny (thn (ha pins s σ H _ I h) fun ov s1 ⟨x,H1,I1,rx,a,C,dx,fs,v,ex,ea,c,n,l,q⟩=>?_)
 subst ex
 obtain rfl:ov=Value.ref a:=rx
 refine Aa0 I1 ea c n l fun u s2 I2 ru=>thn (hv pins s2 σ H1 _ I2 q) fun w3 s3 ⟨y,H2,I3,ry,q3⟩=>thn (hop pins s3 σ H2 v y u w3 _ I3 ru ry q3) fun w4 s4 ⟨z,H3,I4,rz,dx',fs',ea',l',q4⟩=>?_
 exact Aa1 I4 ea' c n l' rz fun s5 I5=>⟨σ,_,I5,q4⟩
def Anu:V→V→Hp→VK→Prop:=fun x y H Q=>∃ i j,x=.int i∧y=.int j∧Q (.int (i+j)) H
def AoT:V→V→Hp→VK→Prop:=fun x y H Q=>∃ i j,x=.int i∧y=.int j∧Q (.int (i-j)) H
theorem AjX:AjU X .Add Anu:=by
 rintro pins s σ H x y u v Q I rx ry ⟨i,j,rfl,rfl,q⟩
 obtain⟨t,rfl⟩:=(show ∃ t,u=Value.int i t from rx)
 obtain⟨t',rfl⟩:=(show ∃ t',v=Value.int j t' from ry)
 exact PyProof.Rows.iadd_int ⟨.int (i+j),H,I.tok _,⟨_,rfl⟩,q⟩
end
section
variable {X:Cx}{pins:List (Addr × Obj)}{σ:St}{H:Hp}{s:Shared}{A:Around}{E:Value→Shared→Prop}{Q:Value→Shared→Prop}{c:Value}{b:Bool}
inductive Xx (K:PySem.W.Frag) (H:Hp):V→Value→Prop where
 | non:Xx K H .non (.type "NoneType")
 | bl (x:Bool):Xx K H (.bl x) (.type "bool")
 | int (i:Int):Xx K H (.int i) (.type "int")
 | str (x:Str):Xx K H (.str x) (.type "str")
 | flt (x:UInt64):Xx K H (.flt x) (.type "float")
 | lst {a:Addr} {xs:List V} (e:H a=some (.lst xs)):Xx K H (.ref a) (.type "list")
 | frz {a:Addr} {o:Obj} {xs:List V} (e:H a=some (.frz o (.lst xs))):Xx K H (.ref a) (.type "list")
 | tup {a:Addr} {xs:List V} (e:H a=some (.tup xs)):Xx K H (.ref a) (.type "tuple")
 | dK {a:Addr} {kvs:List (Key × V)} (e:H a=some (.dK kvs)):Xx K H (.ref a) (.type "dict")
 | dT {a:Addr} {kvs:List (List Key × V)} (e:H a=some (.dT kvs)):Xx K H (.ref a) (.type "dict")
 | ins {a C dx:Addr} {fs:List (Str × V)} (e:H a=some (.ins C dx fs)) (cl:Cls K C) (ha:PySem.W.findIn K (.ref C) "__class__" = some (some (.builtin "object.__class__")))
   (hn:PySem.W.specialIn K (.builtin "object.__class__") "__get__" = some (some (.builtin "getset_descriptor.__get__"))) (htk:PySem.W.takesIn K (.builtin "object.__class__")=some true)
   (hm:PySem.W.mroIn K C (.type "object")=some true):Xx K H (.ref a) (.ref C)
theorem AbV{x:V}{u t:Value}(I:Inv X pins σ H s)(rx:RelV x u)(ty:Xx X.K H x t)(e:PySem.W.kitOne X.K t c=some b)(h:∀ tk,Q (.bool b) { s with toks:=tk }) :
  wpAny (model X.prog X.w) A (call (.builtin "isinstance") [u,c]) Q E s:=by
 cases ty with
 | non=>cases (show u=Value.none from rx);exact PySem.W.kia_one PySem.W.kitx_none I.kIn True.intro e (fun z=>nomatch z) h
 | bl y=>cases (show u=Value.bool y from rx);exact PySem.W.kia_one PySem.W.kitx_bool I.kIn True.intro e (fun z=>nomatch z) h
 | int i=>obtain⟨t,q⟩:=(show ∃ t,u=Value.int i t from rx);cases q;exact PySem.W.kia_one PySem.W.kitx_int I.kIn True.intro e (fun z=>nomatch z) h
 | str y=>obtain⟨t,q⟩:=(show ∃ t,u=Value.str y t from rx);cases q;exact PySem.W.kia_one PySem.W.kitx_str I.kIn True.intro e (fun z=>nomatch z) h
 | flt y=>obtain⟨t,q⟩:=(show ∃ t,u=Value.float y t from rx);cases q;exact PySem.W.kia_one PySem.W.kitx_float I.kIn True.intro e (fun z=>nomatch z) h
 | @lst a xs ea =>
  cases (show u=Value.ref a from rx)
  obtain⟨_,_,n,_,h1⟩:=(show Fy X.prog X.w H s.heap a (.lst xs) from I.hok a _ ea)
  exact PySem.W.kia_one PySem.W.kitx_list I.kIn ⟨_,h1,rfl⟩ e (fun z=>nomatch z) h
 | @frz a ob xs ea =>
  cases (show u=Value.ref a from rx)
  obtain⟨_,_,_,n,_,h1⟩:=(show Fy X.prog X.w H s.heap a (.frz ob (.lst xs)) from I.hok a _ ea)
  exact PySem.W.kia_one PySem.W.kitx_list I.kIn ⟨_,h1,rfl⟩ e (fun z=>nomatch z) h
 | @tup a xs ea =>
  cases (show u=Value.ref a from rx)
  obtain⟨_,_,_,p⟩:=(show Fy X.prog X.w H s.heap a (.tup xs) from I.hok a _ ea)
  obtain⟨o,h1,h2,_⟩:=p
  exact PySem.W.kia_one PySem.W.kitx_tuple I.kIn ⟨o,h1,h2⟩ e (fun z=>nomatch z) h
 | @dK a kvs ea =>
  cases (show u=Value.ref a from rx)
  obtain⟨_,_,vs,_,p⟩:=(show Fy X.prog X.w H s.heap a (.dK kvs) from I.hok a _ ea)
  obtain⟨o,es,ep,h1,h2,_⟩:=p
  exact PySem.W.kia_one PySem.W.kitx_dict I.kIn ⟨o,h1,h2.1⟩ e (fun z=>nomatch z) h
 | @dT a kvs ea =>
  cases (show u=Value.ref a from rx)
  obtain⟨_,_,xs,_,o,es,ep,h1,h2,_⟩:=(show Fy X.prog X.w H s.heap a (.dT kvs) from I.hok a _ ea)
  exact PySem.W.kia_one PySem.W.kitx_dict I.kIn ⟨o,h1,h2.1⟩ e (fun z=>nomatch z) h
 | @ins a C dx fs ea cl ha hn htk hm =>
  cases (show u=Value.ref a from rx)
  obtain⟨mA,O,_⟩:=Aan I.hok ea
  obtain⟨od,J,_⟩:=O.look
  exact PySem.W.kia_one (PySem.W.kitx_own (cl.get _) cl.hd ha hn htk hm) I.kIn J e (fun z=>nomatch z) h
end
open PySem PySem.Spec PyProof.Rows
structure FJ (k:Nat) (A:Around):Prop where
 hd:A.handled=none
 dp:A.depth+3*k+5<recursionLimit
 un:A.units+16*k+200<cLine
theorem FJ.mono{j k:Nat}{A:Around}(r:FJ k A)(h:j≤k):FJ j A:=⟨r.hd,by have:=r.dp;omega,by have:=r.un;omega⟩
theorem FJ.deeper{k:Nat}{A:Around}(r:FJ (k+1) A)(env:Env):FJ k (A.deeper env) :=
 ⟨r.hd,by have:=r.dp;show A.depth+1+3*k+5<_;omega,by have:=r.un;show A.units+3+16*k+200<_;omega⟩
theorem Aeo{A:Around}{C:Addr}{us:List Value}{kw:List (Str × Value)}:(A.under (.builtin "type.__call__" ⟨.ref C::us,kw⟩)).depth=A.depth+1:=by
 first | rfl | simp[Around.under,Code.weight,Code.isCreation,Code.isGuard,Code.isCaller,Code.frames,Code.isFrame,guardIds]
theorem Aep{A:Around}{C:Addr}{us:List Value}{kw:List (Str × Value)}:(A.under (.builtin "type.__call__" ⟨.ref C::us,kw⟩)).units=A.units+1:=by
 first | rfl | simp[Around.under,Code.cUnits,Code.frames,Code.isFrame]
theorem FJ.make{k:Nat}{A:Around}(r:FJ (k+1) A)(C:Addr)(us:List Value)(kw:List (Str × Value)):FJ k (A.under (.builtin "type.__call__" ⟨.ref C::us,kw⟩)) :=
 ⟨r.hd,by have:=r.dp;rw[Aeo];omega,by have:=r.un;rw[Aep];omega⟩
theorem FJ.depth{k:Nat}{A:Around}(r:FJ k A):A.depth<recursionLimit:=by have:=r.dp;omega
theorem FJ.Hv{k:Nat}{A:Around}(r:FJ k A):A.units<cLine:=by have:=r.un;omega
def AlN:TA:=fun _ H Q=>Q [] H
def AlO (ta:TE)(tr:TA):TA:=fun σ H Q=>ta σ H fun x H1=>tr σ H1 fun xs H2=>Q (x::xs) H2
section
variable {X:Cx}{e:Expr}{es:List Expr}{te:TE}{t:TA}{pos:Pos}
theorem Ab:PA X [] AlN:=fun _ _ _ _ H Q I h=>Calls.spliced_nil ⟨[],H,I,.nil,h⟩
theorem Aa(ha:PE X e te)(hr:PA X es t)(hs:starEach (e::es) X.env=(false,eval e X.env)::starEach es X.env:=by rfl):PA X (e::es) (AlO te t):=by
 intro pos pins s σ H Q I h
 rw[hs]
 show wpAny _ _ (spliced ((false,eval e X.env)::backTo pos (starEach es X.env))) _ _ s
 refine Calls.spliced_cons (thn (ha pins s σ H _ I h) fun u s1 ⟨x,H1,I1,r1,q1⟩=>?_)
 exact thn (hr pos pins s1 σ H1 _ I1 q1) fun us s2 ⟨xs,H2,I2,r2,q2⟩=>⟨x::xs,H2,I2,.cons r1 r2,q2⟩
def Anv (t:TA):TE:=fun σ H Q=>t σ H fun xs H1=>xs.length≤sizeLine∧∀ p,H1 p=none→Q (.ref p) (upd H1 p (.tup xs))
def Anw (t:TA):TE:=fun σ H Q=>t σ H fun xs H1=>xs.length≤sizeLine∧∀ p,H1 p=none→Q (.ref p) (upd H1 p (.lst xs))
theorem Tt{x1}(h:PA X es t):PE X (.Tuple es x1 pos) (Anv t):=by
 intro pins s σ H Q I hq
 refine wpAny_Tuple_spliced (thn (h pos pins s σ H _ I hq) fun us s1 ⟨xs,H1,I1,r,z,q⟩=>⟨by rw[← r.length];exact z,?_⟩)
 have hf:H1 s1.heap.objs.size=none:=I1.hok.fresh (Apv _)
 refine⟨.ref s1.heap.objs.size,upd H1 s1.heap.objs.size (.tup xs),I1.laid (t':=s1.toks) (fun b u e=>Heap.get?_push_of_some _ e) (Apv _) ?_,rfl,q _ hf⟩
 exact⟨z,us,r,⟨_,Heap.get?_push_size _ rfl,rfl,_,rfl⟩⟩
theorem BJ(h:PA X es t):PE X (.List es pos) (Anw t):=by
 intro pins s σ H Q I hq
 refine wpAny_List_spliced (thn (h pos pins s σ H _ I hq) fun us s1 ⟨xs,H1,I1,r,z,q⟩=>⟨by rw[← r.length];exact z,?_⟩)
 have hf:H1 s1.heap.objs.size=none:=I1.hok.fresh (Apv _)
 refine⟨.ref s1.heap.objs.size,upd H1 s1.heap.objs.size (.lst xs),I1.laid (t':=s1.toks) (fun b u e=>Heap.get?_push_of_some _ e) (Apv _) ?_,rfl,q _ hf⟩
 exact⟨z,us,0,r,Heap.get?_push_size _ rfl⟩
end
abbrev Sp:=List V→Hp→VK→XK→Prop
abbrev CXT:=List Env→Hp→Shared→XK→Value→Shared→Prop
structure Adz (P:Program) (w:World) (K:PySem.W.Frag) (mg:Str→Option Value) (base:Heap) (A:Around) (outer:List Env) (s:Shared) (H:Hp):Prop where
 frames:A.frames=some outer
 mod:Mod K mg base
 bs:∀ b o,base.get? b=some o→s.heap.get? b=some o∧H b=none
 bsz:base.objs.size≤s.heap.objs.size
 Tr:s.heap.FunFrames base outer
 frf:∀ b∈frs outer,H b=none
 hok:HOk P w H s.heap
 bare:AllBare s.gens
def CE (outer:List Env)(P:Program)(w:World)(H:Hp)(s:Shared)(Q:VK)(u:Value)(s':Shared):Prop :=
 ∃ v H',s'.os=s.os∧AllBare s'.gens∧Un (frs outer) [] H H' s.heap s'.heap∧HOk P w H' s'.heap∧RelV v u∧Q v H'
def CR (CX:CXT)(outer:List Env)(P:Program)(w:World)(H:Hp)(s:Shared)(Q:VK)(E:XK)(r:Result)(s':Shared):Prop :=
 match r with
 | .ok (.ret u)=>CE outer P w H s Q u s'
 | .ok _=>False
 | .error e=>CX outer H s E e s'
structure Be (P:Program) (w:World) (K:PySem.W.Frag) (mg:Str→Option Value) (base:Heap) (CX:CXT) (k:Nat) (f:Addr) (fd:FuncData) (ps:List Str) (sp:Sp):Prop where
 len:∀ vs H Q E,sp vs H Q E→vs.length=ps.length
 run:∀(A:Around) (outer:List Env) (s:Shared) (H:Hp) (args:Args) (us:List Value) (vs:List V) (Q:VK) (E:XK),FJ k A→Adz P w K mg base A outer s H→BindsTo s fd args (ps.zip us)→Vals vs us→sp vs H Q E →
  codeAny (model P w) A (.call (.ref f) args) (CR CX outer P w H s Q E) s
theorem Be.mono{P:Program}{w:World}{K:PySem.W.Frag}{mg:Str→Option Value}{base:Heap}{CX:CXT}{j k:Nat}{f:Addr}{fd:FuncData}{ps:List Str}{sp:Sp}(F:Be P w K mg base CX j f fd ps sp)(h:j≤k) :
  Be P w K mg base CX k f fd ps sp:=⟨F.len,fun A outer s H args us vs Q E hr=>F.run A outer s H args us vs Q E (hr.mono h)⟩
theorem Be.imp{P:Program}{w:World}{K:PySem.W.Frag}{mg:Str→Option Value}{base:Heap}{CX:CXT}{k:Nat}{f:Addr}{fd:FuncData}{ps:List Str}{sp sp':Sp}(F:Be P w K mg base CX k f fd ps sp)
  (h:∀ vs H Q E,sp' vs H Q E→sp vs H Q E):Be P w K mg base CX k f fd ps sp' :=
 ⟨fun vs H Q E q=>F.len vs H Q E (h _ _ _ _ q),fun A outer s H args us vs Q E hr he hb hv hs=>F.run A outer s H args us vs Q E hr he hb hv (h _ _ _ _ hs)⟩
theorem Adz.make{P:Program}{w:World}{K:PySem.W.Frag}{mg:Str→Option Value}{base:Heap}{A:Around}{outer:List Env}{s:Shared}{H:Hp}(e:Adz P w K mg base A outer s H)(C:Addr)(us:List Value)(kw:List (Str × Value)) :
  Adz P w K mg base (A.under (.builtin "type.__call__" ⟨.ref C::us,kw⟩)) outer s H:=⟨by first | exact e.frames | (simpa [Around.under,Code.envs,Code.isFrame,pushEnvs] using e.frames),e.mod,e.bs,e.bsz,e.Tr,e.frf,e.hok,e.bare⟩
section
variable {X:Cx}{pins:List (Addr × Obj)}{σ:St}{H:Hp}{s s':Shared}
theorem Inv.env0(I:Inv X pins σ H s):Adz X.prog X.w X.K X.mg X.base X.A X.stack s H :=
 ⟨I.ok.frames,I.ok.mod,I.bs,ApA I.ok.bsz I.sz,I.stack,I.Aam,I.hok,I.bare⟩
theorem Inv.after{Q:VK}{u:Value}(I:Inv X pins σ H s)(h:CE X.stack X.prog X.w H s Q u s'):EP X pins σ Q u s':=by
 obtain⟨v,H',os,bare,un,hok,r,q⟩:=h
 obtain⟨hh,g,d,t,os'⟩:=s'
 obtain rfl:os'=s.os:=os
 exact⟨v,H',I.call (h':=hh) (g':=g) (d':=d) (t':=t) (ch:=[]) un hok bare (fun b z=>absurd z (by simp)),r,q⟩
end
def Ajw (sp:Sp)(dvs:List V)(E:XK)(t:TA):TE:=fun σ H Q=>t σ H fun vs H1=>sp (vs++dvs) H1 Q E
def Ajx (C:Addr)(m:Str)(sp:Sp)(dvs:List V)(E:XK)(ta:TE)(t:TA):TE:=fun σ H Q=>ta σ H fun x H1=>∃ a dx fs,x=.ref a∧H1 a=some (.ins C dx fs)∧fs.lookup m=none ∧
 t σ H1 fun vs H2=>sp (x::(vs++dvs)) H2 Q E
def AlP (C:Addr)(sp:Sp)(dvs:List V)(E:XK)(t:TA):TE:=fun σ H Q=>t σ H fun vs H1=>∀ x dx,H1 x=none→H1 dx=none→dx≠x →
 sp (.ref x::(vs++dvs)) (upd (upd H1 dx (.own x)) x (.ins C dx [])) (fun v H2=>v=.non∧Q (.ref x) H2) E
def Binds(K:PySem.W.Frag)(fd:FuncData)(ps:List Str)(ds:List Value):Prop :=
 ∀(s:Shared) (us:List Value),K.In s.heap→(us++ds).length=ps.length→BindsTo s fd ⟨us,[]⟩ (ps.zip (us++ds))
theorem Binds.all{K:PySem.W.Frag}{fd:FuncData}{ps:List Str}(h:∀ us:List Value,us.length=ps.length→bindArgs fd ⟨us,[]⟩=pure (ps.zip us)):Binds K fd ps []:=fun s us _ hl=>by
 rw[Aqj] at hl ⊢
 exact .of_eq (h us hl)
def Passes(CX:CXT)(X:Cx)(E:XK):Prop:=∀(pins:List (Addr × Obj)) (σ:St) (H:Hp) (s:Shared) (e:Value) (s':Shared),Inv X pins σ H s→CX X.stack H s E e s'→X.xe e s'
section
variable {X:Cx}{CX:CXT}{k:Nat}{f C:Addr}{fd:FuncData}{ps:List Str}{sp:Sp}{dvs:List V}{ds:List Value}{E:XK}{x m:Str}{p pos apos:Pos}{e o:Expr}{es:List Expr}{ta:TE}{t:TA}
theorem OJ{pins:List (Addr × Obj)}{σ:St}{H:Hp}{s:Shared}{Q:VK}{us:List Value}{vs:List V}(F:Be X.prog X.w X.K X.mg X.base CX k f fd ps sp)(hr:FJ k X.A)(hb:Binds X.K fd ps ds)(hd:Vals dvs ds)(hx:Passes CX X E)
  (I:Inv X pins σ H s) (r:Vals vs us) (h:sp (vs++dvs) H Q E):wpAny (model X.prog X.w) X.A (call (.ref f) us) (EP X pins σ Q) X.xe s:=by
 have r2:Vals (vs++dvs) (us++ds):=r.append hd
 have hl:(us++ds).length=ps.length:=by rw[← r2.length];exact F.len _ _ _ _ h
 refine wpAny_call (codeAny_mono (F.run X.A X.stack s H ⟨us,[]⟩ (us++ds) (vs++dvs) Q E hr I.env0 (hb s us I.kIn hl) r2 h) fun r s' hq=>?_)
 cases r with
 | error e=>exact hx pins σ H s e s' I hq
 | ok fl =>
  cases fl with
  | ret u=>exact I.after hq
  | next=>exact False.elim hq
  | brk=>exact False.elim hq
  | cont=>exact False.elim hq
theorem Aj(F:Be X.prog X.w X.K X.mg X.base CX k f fd ps sp)(hr:FJ k X.A)(hg:Gl X x)(hm:X.mg x=some (.ref f))(hk:PySem.W.keepIn X.K (.ref f)=true)(hb:Binds X.K fd ps ds)(hd:Vals dvs ds)(hx:Passes CX X E)
  (ha:PA X (e::es) t) (hdb:(x == ("__debug__" : Str))=false:=by decide) (he:starEach (e::es) X.env=(false,eval e X.env)::starEach es X.env:=by rfl) (hpl:(backTo pos (starEach es X.env)).any (·.1)=false:=by rfl) :
  PE X (.Call (.Name x p) (e::es) [] pos) (Ajw sp dvs E t):=by
 intro pins s σ H Q I h
 refine wpAny_Call_Name_kw (QT I hg hm ?_ hdb)
 refine PySem.W.callWith_K (h₀:=X.base) I.ok.mod.kin hk (thn (ha pos pins s σ H _ I h) fun us s1 ⟨vs,H1,I1,r,q⟩=>⟨I1.kIn,?_⟩) he hpl
 exact OJ F hr hb hd hx I1 r q
theorem Dj{pl:Sem Bool}(he:PE X o ta)(c:Cls X.K C)(hm:Meth X.K C m f)(F:Be X.prog X.w X.K X.mg X.base CX k f fd ps sp)(hr:FJ k X.A)(hb:Binds X.K fd ps ds)(hd:Vals dvs ds)(hx:Passes CX X E)(ha:PA X (e::es) t)
  (hst:starEach (e::es) X.env=(false,eval e X.env)::starEach es X.env:=by rfl) (hpl:(backTo pos (starEach es X.env)).any (·.1)=false:=by rfl)
  (ht:eval (.Call (.Attribute o m apos) (e::es) [] pos) X.env=(do
   let ov ← eval o X.env
   standAt apos.atName
   let (f,first) ← holding [ov] (getMethod ov m pl)
   callWith pos f first (backTo pos (starEach (e::es) X.env)) (backToKw pos (keywordEach [] X.env))):=by rfl) :
  PE X (.Call (.Attribute o m apos) (e::es) [] pos) (Ajx C m sp dvs E ta t):=by
 intro pins s σ H Q I h
 refine PySem.W.methodCall_KW (pl:=pl) (thn (he pins s σ H _ I h) fun u s1 ⟨x,H1,I1,rx,a,dx,fs,ex,ea,l,q⟩=>?_) ht
 subst ex
 obtain rfl:u=Value.ref a:=rx
 refine J8 I1 ea c hm l ?_
 refine PySem.W.callWith_K (first:=[.ref a]) (h₀:=X.base) I.ok.mod.kin hm.kp (thn (ha pos pins s1 σ H1 _ I1 q) fun us s2 ⟨vs,H2,I2,r,q2⟩=>⟨I2.kIn,?_⟩) hst hpl
 exact OJ (us:=.ref a::us) (vs:=.ref a::vs) F hr hb hd hx I2 (.cons rfl r) q2
theorem Li{pl:Sem Bool}(he:PE X o ta)(c:Cls X.K C)(hm:Meth X.K C m f)(F:Be X.prog X.w X.K X.mg X.base CX k f fd ps sp)(hr:FJ k X.A)(hb:Binds X.K fd ps ds)(hd:Vals dvs ds)(hx:Passes CX X E)
  (ht:eval (.Call (.Attribute o m apos) [] [] pos) X.env=(do
   let ov ← eval o X.env
   standAt apos.atName
   let (f,first) ← holding [ov] (getMethod ov m pl)
   callWith pos f first (backTo pos (starEach [] X.env)) (backToKw pos (keywordEach [] X.env))):=by rfl) :
  PE X (.Call (.Attribute o m apos) [] [] pos) (Ajx C m sp dvs E ta AlN):=by
 intro pins s σ H Q I h
 refine PySem.W.methodCall_KW (pl:=pl) (thn (he pins s σ H _ I h) fun u s1 ⟨x,H1,I1,rx,a,dx,fs,ex,ea,l,q⟩=>?_) ht
 subst ex
 obtain rfl:u=Value.ref a:=rx
 refine J8 I1 ea c hm l ?_
 exact PySem.W.callWith_K0 (first:=[.ref a]) I1.kIn hm.kp (OJ (us:=[.ref a]) (vs:=[.ref a]) F hr hb hd hx I1 (.cons rfl .nil) q)
structure Mk (K:PySem.W.Frag) (C f:Addr):Prop where
 makes:PySem.W.makesIn K C=true
 init:PySem.W.findIn K (.ref C) "__init__" = some (some (.ref f))
 fn:PySem.W.isFn K (.ref f)=true
 kp:PySem.W.keepIn K (.ref C)=true
theorem Agy{pins:List (Addr × Obj)}{σ:St}{H:Hp}{s:Shared}{Q:VK}{us:List Value}{vs:List V}(M:Mk X.K C f)(F:Be X.prog X.w X.K X.mg X.base CX k f fd ps sp)(hr:FJ (k+1) X.A)(hb:Binds X.K fd ps ds)(hd:Vals dvs ds)
  (hx:Passes CX X E) (I:Inv X pins σ H s) (r:Vals vs us)
  (h:∀ x dx,H x=none→H dx=none→dx≠x→sp (.ref x::(vs++dvs)) (upd (upd H dx (.own x)) x (.ins C dx [])) (fun v H2=>v=.non∧Q (.ref x) H2) E) :
  wpAny (model X.prog X.w) X.A (call (.ref C) us) (EP X pins σ Q) X.xe s:=by
 have hq:=h (s.heap.objs.size+1) s.heap.objs.size (I.hok.fresh (Nat.le_succ _)) (I.hok.fresh (Apv _)) (Ap3 (Aqi _))
 have I2:=Inv.made (C:=C) I
 have r2:Vals (V.ref (s.heap.objs.size+1)::(vs++dvs)) (Value.ref (s.heap.objs.size+1)::(us++ds)):=.cons rfl (r.append hd)
 have hl:(Value.ref (s.heap.objs.size+1)::us++ds).length=ps.length:=by
  have e:=r2.length
  rw[F.len _ _ _ _ hq] at e
  exact e.symm
 refine wpAny_call (Agx (f:=f) I.kIn M.makes M.init (beq_iff_eq.mp M.fn) (codeAny_mono (F.run _ X.stack _ _ ⟨Value.ref (s.heap.objs.size+1)::us,[]⟩ (Value.ref (s.heap.objs.size+1)::(us++ds)) _ _ E (hr.make C us [])
  (I2.env0.make C us []) (hb _ (Value.ref (s.heap.objs.size+1)::us) I2.kIn hl) r2 hq) fun r s' hq'=>?_))
 cases r with
 | error e=>exact hx pins σ _ _ e s' I2 hq'
 | ok fl =>
  cases fl with
  | ret u =>
   obtain⟨v,H',I3,rv,ev,q3⟩:=I2.after hq'
   subst ev
   exact⟨rv,⟨V.ref (s.heap.objs.size+1),H',I3,rfl,q3⟩⟩
  | next=>exact False.elim hq'
  | brk=>exact False.elim hq'
  | cont=>exact False.elim hq'
theorem Gw(M:Mk X.K C f)(F:Be X.prog X.w X.K X.mg X.base CX k f fd ps sp)(hr:FJ (k+1) X.A)(hg:Gl X x)(hm:X.mg x=some (.ref C))(hb:Binds X.K fd ps ds)(hd:Vals dvs ds)(hx:Passes CX X E)
  (ha:PA X (e::es) t) (hdb:(x == ("__debug__" : Str))=false:=by decide) (he:starEach (e::es) X.env=(false,eval e X.env)::starEach es X.env:=by rfl) (hpl:(backTo pos (starEach es X.env)).any (·.1)=false:=by rfl) :
  PE X (.Call (.Name x p) (e::es) [] pos) (AlP C sp dvs E t):=by
 intro pins s σ H Q I h
 refine wpAny_Call_Name_kw (QT I hg hm ?_ hdb)
 refine PySem.W.callWith_K (h₀:=X.base) I.ok.mod.kin M.kp (thn (ha pos pins s σ H _ I h) fun us s1 ⟨vs,H1,I1,r,q⟩=>⟨I1.kIn,?_⟩) he hpl
 exact Agy M F hr hb hd hx I1 r q
end
def PK (X:Cx)(kws:List Keyword)(t:TA):Prop :=
 ∀(pos:Pos) (pins:List (Addr × Obj)) (s:Shared) (σ:St) (H:Hp) (Q:List V→Hp→Prop),Inv X pins σ H s→t σ H Q→wpAny (model X.prog X.w) X.A (evalAll ((backToKw pos (keywordEach kws X.env)).map (·.2))) (AP X pins σ Q) X.xe s
section
variable {X:Cx}{CX:CXT}{k:Nat}{f C:Addr}{fd:FuncData}{ps ks:List Str}{sp:Sp}{E:XK}{x m:Str}{p pos apos AoU:Pos}{e o:Expr}{es:List Expr}{kws:List Keyword}{te ta:TE}{t tk:TA}{nm:Option Str}
structure Anx (K:PySem.W.Frag) (fd:FuncData) (ps ks:List Str) (g:List Value→List Value→List Value) (gV:List V→List V→List V):Prop where
 to:∀(s:Shared) (us ws:List Value),K.In s.heap→(g us ws).length=ps.length→BindsTo s fd ⟨us,ks.zip ws⟩ (ps.zip (g us ws))
 rel:∀{vs:List V} {us:List Value} {zs:List V} {ws:List Value},Vals vs us→Vals zs ws→Vals (gV vs zs) (g us ws)
def Anz (sp:Sp)(gV:List V→List V→List V)(E:XK)(t tk:TA):TE:=fun σ H Q=>t σ H fun vs H1=>tk σ H1 fun zs H2=>sp (gV vs zs) H2 Q E
variable {g:List Value→List Value→List Value}{gV:List V→List V→List V}
end
structure Aq (N P:List Str) (sc:Scope):Prop where
 kind:sc.kind=.function
 co:sc.isCoroutine=false
 gen:sc.isGenerator=false
 nd:N.Nodup
 pre:N.take P.length=P
 par:∀ x∈P,sc.names.lookup x=some .local∨sc.names.lookup x=some .cell
 AjY:∀ y∈sc.names,y.2≠.free
theorem AbW{kindOf:Str→Option NameKind}{x:Str}:∀{binds:List (Str × Value)} {m:Str→Option Value},(∀ v,(x,v)∉binds)→bindL kindOf binds m x=m x
 | [],_,_=>rfl
 | (n,v)::r,m,h=>by
  unfold bindL
  rw[AbW fun w hw=>h w (Ap6 _ hw)]
  split
  ·have:x≠n:=by rintro rfl;exact h v ApB
   simp[this]
  ·rfl
theorem AbX{kindOf:Str→Option NameKind}{x:Str}:∀{binds:List (Str × Value)} {m:Str→Option Value},(∀ v,(x,v)∉binds)→bindC kindOf binds m x=m x
 | [],_,_=>rfl
 | (n,v)::r,m,h=>by
  unfold bindC
  rw[AbX fun w hw=>h w (Ap6 _ hw)]
  split
  ·rfl
  ·have:x≠n:=by rintro rfl;exact h v ApB
   simp[this]
theorem AbY{kindOf:Str→Option NameKind}{x:Str}{v:Value}:∀{P:List Str} {vs:List Value} {i:Nat} {m:Str→Option Value},P.Nodup→P[i]?=some x→vs[i]?=some v→kindOf x=some .local →
  bindL kindOf (P.zip vs) m x=some v
 | [],_,_,_,_,h,_,_=>by simp at h
 | _::_,[],_,_,_,_,h,_=>by simp at h
 | p::P,w::vs,0,m,nd,h1,h2,hk=>by
  simp at h1 h2;subst h1;subst h2
  show bindL kindOf ((p,w)::P.zip vs) m p=_
  unfold bindL
  rw[AbW fun v hv=>(List.nodup_cons.mp nd).1 (List.of_mem_zip hv).1,if_pos hk]
  simp
 | p::P,w::vs,i+1,m,nd,h1,h2,hk=>by
  show bindL kindOf ((p,w)::P.zip vs) m x=_
  unfold bindL
  exact AbY (i:=i) (List.nodup_cons.mp nd).2 (by simpa using h1) (by simpa using h2) hk
theorem AbZ{kindOf:Str→Option NameKind}{x:Str}{v:Value}:∀{P:List Str} {vs:List Value} {i:Nat} {m:Str→Option Value},P.Nodup→P[i]?=some x→vs[i]?=some v→kindOf x≠some .local →
  bindC kindOf (P.zip vs) m x=some v
 | [],_,_,_,_,h,_,_=>by simp at h
 | _::_,[],_,_,_,_,h,_=>by simp at h
 | p::P,w::vs,0,m,nd,h1,h2,hk=>by
  simp at h1 h2;subst h1;subst h2
  show bindC kindOf ((p,w)::P.zip vs) m p=_
  unfold bindC
  rw[AbX fun v hv=>(List.nodup_cons.mp nd).1 (List.of_mem_zip hv).1,if_neg hk]
  simp
 | p::P,w::vs,i+1,m,nd,h1,h2,hk=>by
  show bindC kindOf ((p,w)::P.zip vs) m x=_
  unfold bindC
  exact AbZ (i:=i) (List.nodup_cons.mp nd).2 (by simpa using h1) (by simpa using h2) hk
def start(N:List Str)(vs:List V):St:=vs.map some++List.replicate (N.length-vs.length) none
def AcC (CX:CXT)(P:Program)(w:World)(K:PySem.W.Frag)(mg:Str→Option Value)(base:Heap)(N:List Str)(qual:Str)(scope:Scope)(f:Addr)(cd:Value)(A:Around)(outer:List Env)(s:Shared)(H:Hp)(E:XK):Cx where
 prog:=P
 w:=w
 K:=K
 mg:=mg
 base:=base
 A:=A.deeper (envOfC qual scope s.heap.objs.size f cd)
 N:=N
 s₀:=s
 H₀:=H
 env:=envOfC qual scope s.heap.objs.size f cd
 outer:=outer
 stack:=envOfC qual scope s.heap.objs.size f cd::outer
 ex:=[]
 calm:=true
 fn:=fun _=>true
 pn:=[]
 xe:=fun e s'=>wpAny (model P w) (A.deeper (envOfC qual scope s.heap.objs.size f cd)) (leaving (envOfC qual scope s.heap.objs.size f cd) e) (fun _ s''=>CX outer H s E e s'') (fun e' s''=>CX outer H s E e' s'') s'
theorem Ad0{sc:Scope}{n:Nat}{x:Str}(h:sc.names.lookup x=some .cell):∃ c,(cellsFrom n sc.names []).lookup x=some c:=by
 have q:=PySem.W.cellsFrom_some sc.names n [] (.inl h)
 exact Option.isSome_iff_exists.mp q
theorem Afx{CX:CXT}{P:Program}{w:World}{K:PySem.W.Frag}{mg:Str→Option Value}{base:Heap}{N ps:List Str}{qual:Str}{scope:Scope}{f:Addr}{cd:Value}{A:Around}{outer:List Env}{s s1:Shared}{H:Hp}{E:XK}{us:List Value}{vs:List V}
  (S:Aq N ps scope) (hd:A.handled=none) (e0:Adz P w K mg base A outer s H) (hl:vs.length=ps.length) (r:Vals vs us)
  (x:InCallC s s.heap.objs.size (bindL (envOfC qual scope s.heap.objs.size f cd).kindOf (ps.zip us) fun _=>none) (cellsFrom (s.heap.objs.size+1) scope.names []) (bindC (envOfC qual scope s.heap.objs.size f cd).kindOf (ps.zip us) fun _=>none) s1) :
  Inv (AcC CX P w K mg base N qual scope f cd A outer s H E) [] (start N vs) H s1:=by
 have hpl:ps.length≤N.length:=by have:=congrArg List.length S.pre;rw[ApY] at this;omega
 obtain⟨h1,tk,rfl,hk⟩:=x.done
 have noA:∀ b:Addr,b∉(AcC CX P w K mg base N qual scope f cd A outer s H E).ex:=fun b z=>absurd (show b∈([]:List Addr) from z) (by simp)
 refine⟨⟨e0.mod,S.kind,rfl,rfl,Apv _,fun y z c h1 h2=>?_,fun y hy=>?_,fun y c _ h=>?_,fun _=>hd,Around.frames_deeper e0.frames,.inr ⟨rfl,rfl⟩,fun b z=>absurd z (noA b),e0.bs,e0.bsz,fun b _ _=>noA b,fun b z=>absurd z (noA b),e0.Tr,e0.frf⟩,
  rfl,e0.bare,Un.kept hk,⟨_,x.toInCall.ns,fun i y v h1 h2 h3=>?_⟩,fun y c h=>⟨_,x.cell y c h⟩,e0.hok.fresh (Apv _),fun y c h=>?_,fun p hp=>absurd (show p∈([]:List (Addr × Obj)) from hp) (by simp),e0.hok.kept hk,?_⟩
 ·exact name_of_addr x.apart (PySem.mem_of_lookup h1) (PySem.mem_of_lookup h2)
 ·have hy:scope.names.lookup y=some .cell∨scope.names.lookup y=some .free:=hy
  rcases hy with hy | hy
  ·exact Ad0 hy
  ·exact absurd rfl (S.AjY _ (PySem.mem_of_lookup hy))
 ·exact Aqq (x.above y c (PySem.mem_of_lookup h))
 ·have hi:i<vs.length:=by
   unfold start at h2
   by_cases hi:i<vs.length
   ·exact hi
   ·rw[ApV (by simpa using hi)] at h2
    rw[List.getElem?_replicate] at h2
    split at h2 <;> cases h2
  have ha:vs[i]?=some v:=by
   unfold start at h2
   rw[ApZ (by simpa using hi),Ap8] at h2
   cases e:vs[i]? with
   | none=>rw[e] at h2;cases h2
   | some a=>rw[e] at h2;cases h2;rfl
  obtain⟨u,hu,rv⟩:=r.get ha
  have hp:ps[i]?=some y:=by
   rw[← S.pre,List.getElem?_take_of_lt (by omega)];exact h1
  have ndP:ps.Nodup:=by rw[← S.pre];exact S.nd.sublist (List.take_sublist _ _)
  refine⟨u,rv,?_⟩
  rcases S.par y (ApP hp) with k | k
  ·exact .inl ⟨k,AbY ndP hp hu k⟩
  ·obtain⟨c,e⟩:=Ad0 (n:=s.heap.objs.size+1) k
   refine .inr ⟨.inl k,c,e,?_⟩
   have q:=x.cell y c e
   rw[AbZ ndP hp hu (by show scope.names.lookup y≠_;rw[k];decide)] at q
   exact q
 ·exact e0.hok.fresh (Aqq (x.above y c (PySem.mem_of_lookup h)))
 ·unfold start
  show _=N.length
  rw[Apw,Apx,Ap9]
  omega
theorem Ajy{CX:CXT}{P:Program}{w:World}{K:PySem.W.Frag}{mg:Str→Option Value}{base:Heap}{k:Nat}{f:Addr}{name qual:Str}{params:Arguments}{body:List Stmt}{scope:Scope}{dV kV doc pm cdv ct oc:Value}{an od:Option Addr}
  {osl:Array (Option Value)}{N ps:List Str}{sp:Sp} (lk:K.lookup f=some ⟨oc,od,.func (PySem.W.fnOf name qual params body scope dV kV doc pm an cdv ct),osl⟩) (hcd:PySem.W.codeIn K cdv qual=true) (S:Aq N ps scope)
  (len:∀ vs H Q E,sp vs H Q E→vs.length=ps.length)
  (hbody:∀(A:Around) (outer:List Env) (s:Shared) (H:Hp) (vs:List V) (Q:VK) (E:XK),FJ k (A.deeper (envOfC qual scope s.heap.objs.size f cdv))→sp vs H Q E →
   ∃ t,PSs (AcC CX P w K mg base N qual scope f cdv A outer s H E) body t∧t { nx:=fun _ H'=>Q .non H',rt:=Q } (start N vs) H) :
  Be P w K mg base CX (k+1) f (PySem.W.fnOf name qual params body scope dV kV doc pm an cdv ct) ps sp:=by
 refine⟨len,fun A outer s H args us vs Q E hr e0 hb r hsp=>?_⟩
 have hl:=len _ _ _ _ hsp
 have KX:K.In s.heap:=e0.mod.kin.keeps fun b o e=>(e0.bs b o e).1
 have lim:s.heap.NoLimit:=e0.mod.nolimit.keeps fun b o e=>(e0.bs b o e).1
 have hkind:∀ y∈ps.zip us,scope.names.lookup y.1=some .local∨(scope.names.lookup y.1=some .cell∧((cellsFrom (s.heap.objs.size+1) scope.names []).lookup y.1).isSome=true):=fun⟨n,v⟩ hy=>by
  rcases S.par n (List.of_mem_zip hy).1 with q | q
  ·exact .inl q
  ·exact .inr ⟨q,PySem.W.cellsFrom_some _ _ _ (.inl q)⟩
 refine codeAny_call_function hr.depth (KX _ _ lk) rfl S.co S.gen rfl (PySem.W.codeRec_of KX hcd) (hb _ _ _ _ ?_)
 refine wpAny_newFunctionEnv_cells S.kind hkind fun env he s1 x=>?_
 subst he
 refine⟨lim.keeps x.toInCall.keep,codeAny_func ?_⟩
 obtain⟨t,ht,hq⟩:=hbody A outer s H vs Q E (hr.deeper _) hsp
 have I:Inv (AcC CX P w K mg base N qual scope f cdv A outer s H E) [] (start N vs) H s1:=Afx S hr.hd e0 hl r x
 refine wpAny_mono (ht [] s1 (start N vs) H _ I hq) (fun fl s' hs=>?_) fun e s' hs=>hs
 have fin:∀{σ':St} {H':Hp} {v:V} {u:Value},Inv (AcC CX P w K mg base N qual scope f cdv A outer s H E) [] σ' H' s'→RelV v u→Q v H'→CE outer P w H s Q u s' :=
  fun {σ' H' v u} J rv q=>⟨v,H',J.os,J.bare,J.base,J.hok,rv,q⟩
 cases fl with
 | ret u =>
  obtain⟨v,σ',H',J,rv,q⟩:=hs
  exact fin J rv q
 | next =>
  obtain⟨σ',H',J,q⟩:=hs
  exact fin (v:=V.non) (u:=Value.none) J rfl q
 | brk =>
  obtain⟨_,_,_,q⟩:=hs
  exact False.elim q
 | cont =>
  obtain⟨_,_,_,q⟩:=hs
  exact False.elim q
open PySem PySem.Spec PyProof.Rows
section
variable {X:Cx}{x:Str}{p pos:Pos}{e:Expr}{es:List Expr}{t:TA}{id T:String}{r:List V→Hp→VK→Prop}
def tCB (r:List V→Hp→VK→Prop)(t:TA):TE:=fun σ H Q=>t σ H fun vs H1=>r vs H1 Q
theorem Ar(hc:Hb X (.builtin id) r)(hg:Gl X x)(hm:X.mg x=none)(hv:bootBuiltins x=some (.builtin id))(ha:PA X (e::es) t)(hn:x ≠ "__name__" := by decide) (hdb:(x == ("__debug__" : Str))=false:=by decide)
  (he:starEach (e::es) X.env=(false,eval e X.env)::starEach es X.env:=by rfl) (hpl:(backTo pos (starEach es X.env)).any (·.1)=false:=by rfl):PE X (.Call (.Name x p) (e::es) [] pos) (tCB r t):=by
 intro pins s σ H Q I h
 refine wpAny_Call_Name_kw (Xq I hg hm hv ?_ hn hdb)
 exact PyProof.Rows.callWith_builtin1 (thn (ha pos pins s σ H _ I h) fun us s1 ⟨vs,H1,I1,r1,q1⟩=>hc pins s1 σ H1 vs us Q I1 r1 q1) he hpl
theorem Fi(hc:Hb X (.type T) r)(hg:Gl X x)(hm:X.mg x=none)(hv:bootBuiltins x=some (.type T))(ha:PA X (e::es) t)(hn:x ≠ "__name__" := by decide) (hdb:(x == ("__debug__" : Str))=false:=by decide)
  (he:starEach (e::es) X.env=(false,eval e X.env)::starEach es X.env:=by rfl) (hpl:(backTo pos (starEach es X.env)).any (·.1)=false:=by rfl):PE X (.Call (.Name x p) (e::es) [] pos) (tCB r t):=by
 intro pins s σ H Q I h
 refine wpAny_Call_Name_kw (Xq I hg hm hv ?_ hn hdb)
 exact PyProof.Rows.callWith_type1 (thn (ha pos pins s σ H _ I h) fun us s1 ⟨vs,H1,I1,r1,q1⟩=>hc pins s1 σ H1 vs us Q I1 r1 q1) he hpl
end
end L2
namespace HT
open PySem PyProof.Rows
def lexLt:List Int→List Int→Bool
 | [],[]=>false
 | [],_::_=>true
 | _::_,[]=>false
 | x::xs,y::ys=>if x=y then lexLt xs ys else decide (x<y)
section
open PySem.SeqAt
open PySem.AutoSeq1 (wpAny_loadPart')
open PySem.MeetsSeq PySem.MeetsSeq2 PySem.MeetsSeq3
end
section
variable {prog:Program}{w:World}{A:Around}{E:Value→Shared→Prop}{s:Shared}
def sIx (n d:Nat):Option Int→Nat
 | none=>d
 | some v=>if v<0 then (v+(n:Int)).toNat else min v.toNat n
theorem Aa2(n d:Nat):sIx n d none=d:=rfl
theorem QV(n d k:Nat):sIx n d (some (k:Int))=min k n:=by
 show(if (k:Int)<0 then ((k:Int)+(n:Int)).toNat else min (k:Int).toNat n)=min k n
 rw[if_neg (by omega),ApK]
theorem AjZ(n d:Nat)(hd:d≤n)(o:Option Int):sIx n d o≤n:=by
 cases o with
 | none=>exact hd
 | some v =>
  show(if v<0 then (v+(n:Int)).toNat else min v.toNat n)≤n
  by_cases hv:v<0
  ·rw[if_pos hv];omega
  ·rw[if_neg hv];exact Nat.min_le_right _ _
end
end HT
namespace L2
open PySem PySem.Spec PyProof.Rows
abbrev TO:=St→Hp→(Option Int→Hp→Prop)→Prop
def PO (X:Cx)(e:Option Expr)(t:TO):Prop :=
 ∀(pins:List (Addr × Obj)) (s:Shared) (σ:St) (H:Hp) (Q:Option Int→Hp→Prop),Inv X pins σ H s→t σ H Q →
  wpAny (model X.prog X.w) X.A (evalPart e X.env) (fun u s'=>∃ o H',Inv X pins σ H' s'∧IsPart u o∧Q o H') X.xe s
def Air:TO:=fun _ H Q=>Q none H
def AlQ (t:TE):TO:=fun σ H Q=>t σ H fun x H1=>∃ i,x=.int i∧Q (some i) H1
theorem intsAre_of{ns:List Int}:∀{us:List Value},Vals (ns.map V.int) us→IntsAre us ns:=by
 induction ns with
 | nil=>intro us r;rw[Aqk] at r;cases r;exact .nil
 | cons n ns ih =>
  intro us r
  rw[Ap5] at r
  cases r with
  | cons r1 r2 =>
   obtain⟨t,e⟩:=r1
   subst e
   exact .cons n t (ih r2)
section
variable {X:Cx}{e:Expr}{te:TE}{lo hi:Option Expr}{tl th:TO}{pos p2:Pos}
theorem Vh:PO X none Air:=by
 intro pins s σ H Q I h
 rw[evalPart_none]
 exact wpAny_pure ⟨none,H,I,.none,h⟩
theorem Jq(h:PE X e te):PO X (some e) (AlQ te):=by
 intro pins s σ H Q I hw
 rw[evalPart_some]
 refine thn (h pins s σ H _ I hw) fun u s1 ⟨x,H1,I1,r1,q1⟩=>?_
 obtain⟨i,rfl,q⟩:=q1
 obtain⟨t,rfl⟩:=r1
 exact⟨some i,H1,I1,.int i t,q⟩
def SlR (X:Cx)(r:V→Option Int→Option Int→Hp→VK→Prop):Prop :=
 ∀(pins:List (Addr × Obj)) (s:Shared) (σ:St) (H:Hp) (x:V) (v vl vu:Value) (lo hi:Option Int) (sl:Addr) (Q:VK),Inv X pins σ H s→RelV x v→s.heap.IsSliceOf sl vl vu .none→IsPart vl lo→IsPart vu hi→r x lo hi H Q →
  ∃ T id,typeLookup (.type T) "__getitem__" = pure (some (.builtin id))∧s.TypeIs v T∧wpAny (model X.prog X.w) X.A (getItem v (.ref sl)) (EP X pins σ Q) X.xe s
def tSl (r:V→Option Int→Option Int→Hp→VK→Prop)(te:TE)(tl th:TO):TE:=fun σ H Q=>te σ H fun x H1=>tl σ H1 fun l H2=>th σ H2 fun u H3=>r x l u H3 Q
theorem J9{r:V→Option Int→Option Int→Hp→VK→Prop}(hr:SlR X r)(he:PE X e te)(hl:PO X lo tl)(hu:PO X hi th):PE X (.Subscript e (.Slice lo hi none p2) pos) (tSl r te tl th):=by
 intro pins s σ H Q I h
 refine Subscript_ (thn (he pins s σ H _ I h) fun v s1 ⟨x,H1,I1,r1,q1⟩=>?_)
 refine wpAny_Slice (thn (hl pins s1 σ H1 _ I1 q1) fun vl s2 ⟨l,H2,I2,pl,q2⟩=>thn (hu pins s2 σ H2 _ I2 q2) fun vu s3 ⟨u,H3,I3,pu,q3⟩=>?_)
 rw[evalPart_none]
 refine wpAny_pure ?_
 have I4:Inv X pins σ H3 { s3 with heap:=s3.heap.push { cls:=.type "slice", data:=.fields #[vl,vu,.none] } }:=I3.kept (t':=s3.toks) fun b ob q=>Heap.get?_push_of_some _ q
 obtain⟨T,id,hT,ht,hg⟩:=hr pins { s3 with heap:=s3.heap.push { cls:=.type "slice", data:=.fields #[vl,vu,.none] } } σ H3 x v vl vu l u s3.heap.objs.size Q I4 r1 (Heap.IsSliceOf.new ..) pl pu q3
 show wpAny (model X.prog X.w) X.A (subscriptTail e (.Slice lo hi none p2) v (.ref s3.heap.objs.size)) (EP X pins σ Q) X.xe { s3 with heap:=s3.heap.push { cls:=.type "slice", data:=.fields #[vl,vu,.none] } }
 exact tail_any (ops:=[.ref s3.heap.objs.size,v]) ht hT hg (by with_unfolding_all rfl)
def Aeq (xs:List V)(lo hi:Option Int):List V:=(xs.drop (HT.sIx xs.length 0 lo)).take (HT.sIx xs.length xs.length hi-HT.sIx xs.length 0 lo)
theorem Ad1(xs:List V)(lo hi:Option Int):(Aeq xs lo hi).length≤xs.length:=by
 unfold Aeq
 rw[ApY,ApD]
 omega
def AoV (K:PySem.W.Frag):V→Option Int→Option Int→Hp→VK→Prop:=fun x lo hi H Q=>∃ a xs,x=.ref a∧SqT K H a xs ∧
 ¬(HT.sIx xs.length 0 lo=0∧HT.sIx xs.length xs.length hi=xs.length)∧∀ p,H p=none→Q (.ref p) (upd H p (.tup (Aeq xs lo hi)))
def AoW (K:PySem.W.Frag):R2:=fun x y H Q=>∃ a b ns ms,x=.ref a∧y=.ref b∧SqT K H a (ns.map V.int)∧SqT K H b (ms.map V.int)∧Q (.bl (HT.lexLt ns ms)) H
def Aon (K:PySem.W.Frag):R2:=fun x y H Q=>∃ a b xs ys,x=.ref a∧y=.ref b∧SqT K H a xs∧SqT K H b ys∧xs≠[]∧xs.length+ys.length≤sizeLine ∧
 (ys=[]→Q (.ref a) H)∧(ys≠[]→∀ p,H p=none→Q (.ref p) (upd H p (.tup (xs++ys))))
end
open PySem PySem.Spec PyProof.Rows
def ixN (n:Nat)(i:Int):Option Nat:=if 0≤i then (if i<n then some i.toNat else none) else if -(n:Int)≤i then some (i+n).toNat else none
def atI {α:Type}(xs:List α)(i:Int):Option α:=(ixN xs.length i).bind fun j=>xs[j]?
theorem Ais{n:Nat}{i:Int}{j:Nat}(h:ixN n i=some j):seqIndex? i n=some j∧j<n ∧ -(n:Int)≤i∧i<n:=by
 unfold ixN at h
 by_cases h0:0≤i
 ·rw[if_pos h0] at h
  by_cases h1:i<n
  ·rw[if_pos h1] at h
   have e:i.toNat=j:=Option.some.inj h
   exact⟨by rw[seqIndex_of h0 h1,e],by omega,by omega,h1⟩
  ·rw[if_neg h1] at h;cases h
 ·rw[if_neg h0] at h
  by_cases h1 : -(n:Int)≤i
  ·rw[if_pos h1] at h
   have e:(i+n).toNat=j:=Option.some.inj h
   exact⟨by rw[seqIndex_neg (by omega) h1,e],by omega,h1,by omega⟩
  ·rw[if_neg h1] at h;cases h
theorem AcD{α:Type}{xs:List α}{i:Int}{v:α}(h:atI xs i=some v):∃ j,seqIndex? i xs.length=some j∧xs[j]?=some v∧j<xs.length ∧ -(xs.length:Int)≤i∧i<xs.length:=by
 unfold atI at h
 cases e:ixN xs.length i with
 | none=>rw[e] at h;cases h
 | some j =>
  rw[e] at h
  obtain⟨h1,h2,h3,h4⟩:=Ais e
  exact⟨j,h1,h,h2,h3,h4⟩
theorem Ait{α:Type}{xs:List α}{j:Nat}{v:α}(h:xs[j]?=some v):atI xs (j:Int)=some v:=by
 have hj:j<xs.length:=(List.getElem?_eq_some_iff.mp h).1
 have e:ixN xs.length (j:Int)=some j:=by
  unfold ixN
  rw[if_pos (by omega),if_pos (by omega)];simp
 unfold atI;rw[e];exact h
theorem Ad2{α:Type}(xs:List α)(v:α):atI (xs++[v]) (-1)=some v:=by
 have hl:(xs++[v]).length=xs.length+1:=by simp
 have e:ixN (xs++[v]).length (-1)=some xs.length:=by
  unfold ixN
  rw[hl,if_neg (by decide),if_pos (by omega)]
  congr 1
  omega
 unfold atI
 rw[e]
 show(xs++[v])[xs.length]?=some v
 simp
def Aiu (b:Expr):Prop:=∀ o i,subscripted b false o i=operate [o,i] (getItem o i)
def IxR (X:Cx)(r:R2):Prop :=
 ∀(value slice:Expr) (pins:List (Addr × Obj)) (s:Shared) (σ:St) (H:Hp) (x y:V) (v u:Value) (Q:VK),Inv X pins σ H s→RelV x v→RelV y u→r x y H Q →
  subscripted slice false v u=operate [v,u] (getItem v u)→wpAny (model X.prog X.w) X.A (subscriptTail value slice v u) (EP X pins σ Q) X.xe s
def MtR (X:Cx)(id:String)(r:V→List V→Hp→VK→Prop):Prop :=
 ∀(pins:List (Addr × Obj)) (s:Shared) (σ:St) (H:Hp) (x:V) (xs:List V) (v:Value) (us:List Value) (Q:VK),Inv X pins σ H s→RelV x v→Vals xs us→r x xs H Q →
  wpAny (model X.prog X.w) X.A (call (.builtin id) (v::us)) (EP X pins σ Q) X.xe s
section
variable {X:Cx}{a b:Expr}{ta tb:TE}{pos:Pos}
theorem CG{r:R2}(hr:IxR X r)(ha:PE X a ta)(hb:PE X b tb)(hs:Aiu b):PE X (.Subscript a b pos) (tOp r ta tb):=by
 intro pins s σ H Q I h
 exact Subscript_ (AjP ha hb I h fun v u s2 x y H2 I2 rx ry q=>hr a b pins s2 σ H2 x y v u Q I2 rx ry q (hs _ _))
def Aka (K:PySem.W.Frag):R2:=fun x y H Q=>∃ p xs i v,x=.ref p∧y=.int i∧SqL K H p xs∧atI xs i=some v∧Q v H
def Akb (K:PySem.W.Frag):R2:=fun x y H Q=>∃ p xs i v,x=.ref p∧y=.int i∧SqT K H p xs∧atI xs i=some v∧Q v H
def AlR:R2:=fun x y H Q=>∃ z i c,x=.str z∧y=.int i∧z.length≤sizeLine∧atI z.cps.toList i=some c∧Q (.str ⟨#[c]⟩) H
theorem Aiv:IxR X (Aka X.K):=by
 intro value slice pins s σ H x y v u Q I rx ry h hs
 obtain⟨p,xs,i,z,rfl,rfl,hq,he,q⟩:=h
 cases rx
 obtain⟨t,rfl⟩:=ry
 obtain⟨its,r,pl,hz⟩:=I.list hq
 obtain⟨j,h1,h2,h3,h4,h5⟩:=AcD he
 obtain⟨w,ew,rw'⟩:=r.get h2
 have hl:=r.length
 have hn:=Xv
 have fin:EP X pins σ Q w s:=⟨z,H,I,rw',q⟩
 by_cases h0:0≤i
 ·have hj:i.toNat=j:=by
   rw[seqIndex_of h0 h5] at h1
   exact Option.some.inj h1
  exact item_listR pl.isList h0 (by omega) (by rw[hj];simpa using ew) fin hs
 ·have hj:(i+(its.toArray.size:Int)).toNat=j:=by
   rw[seqIndex_neg (by omega) h4] at h1
   rw[Ap1,← hl]
   exact Option.some.inj h1
  exact subscriptTail_builtinR (x:=w) pl.isList.typeIs slot_list_getitem.lookup
   (wpAny_getItem_list_neg (Q:=fun r s'=>r=w∧EP X pins σ Q r s') pl.isList (by omega) (by rw[Ap1] <;> omega) (by omega) (by rw[hj];simpa using ew) ⟨rfl,fin⟩) hs
theorem Akc:IxR X (Akb X.K):=by
 intro value slice pins s σ H x y v u Q I rx ry h hs
 obtain⟨p,xs,i,z,rfl,rfl,hq,he,q⟩:=h
 cases rx
 obtain⟨t,rfl⟩:=ry
 obtain⟨its,r,pl,hz⟩:=I.tuple hq
 obtain⟨j,h1,h2,h3,h4,h5⟩:=AcD he
 obtain⟨w,ew,rw'⟩:=r.get h2
 have hl:=r.length
 have hn:=Xv
 have fin:EP X pins σ Q w s:=⟨z,H,I,rw',q⟩
 exact subscriptTail_builtinR (x:=w) pl.typeIs slot_tuple_getitem.lookup
  (getItem_tuple (j:=j) (Q:=fun r s'=>r=w∧EP X pins σ Q r s') pl (by omega) (by omega) (by rw[Ap1,← hl];exact h1) (by simpa using ew) ⟨rfl,fin⟩) hs
theorem Aa3:IxR X AlR:=by
 intro value slice pins s σ H x y v u Q I rx ry h hs
 obtain⟨z,i,c,rfl,rfl,hz,he,q⟩:=h
 obtain⟨t,rfl⟩:=rx
 obtain⟨t',rfl⟩:=ry
 obtain⟨j,h1,h2,h3,h4,h5⟩:=AcD he
 have hl:z.cps.toList.length=z.length:=by simp[Str.length]
 rw[hl] at h1 h4 h5
 have hn:=Xv
 exact tail_any (typeIs_str s z t) slot_str_getitem.lookup (getItem_str (c:=c) (by
  have e1:decide (i < -(2 ^ 63:Int))=false:=decide_eq_false (by omega)
  have e2:decide (i ≥ 2 ^ 63)=false:=decide_eq_false (by omega)
  rw[e1,e2,Bool.or_false]) (by rw[h1];simpa using h2) ⟨.str ⟨#[c]⟩,H,I.tok _,⟨_,rfl⟩,q⟩) hs
def rIx (K:PySem.W.Frag):R2:=fun x y H Q=>Aka K x y H Q∨Akb K x y H Q∨AlR x y H Q
def Aoo:V→V→V→Hp→(Hp→Prop)→Prop:=fun o i v H Q=>∃ p xs k j,o=.ref p∧i=.int k∧H p=some (.lst xs)∧ixN xs.length k=some j∧Q (upd H p (.lst (xs.set j v)))
theorem AcE(lo hi:Option Int)(n:Nat):(sliceBounds lo hi none n).1=((HT.sIx n 0 lo:Nat):Int)∧(sliceBounds lo hi none n).2.1=((HT.sIx n n hi:Nat):Int)∧(sliceBounds lo hi none n).2.2=1:=by
 refine⟨?_,?_,rfl⟩
 ·cases lo with
  | none=>simp[sliceBounds,HT.sIx]
  | some i =>
   simp only [sliceBounds,HT.sIx,Option.getD_none,show(1:Int)>0 by decide,if_true]
   by_cases h:i<0
   ·simp only [h,if_true] <;> omega
   ·simp only [h,if_false] <;> omega
 ·cases hi with
  | none=>simp[sliceBounds,HT.sIx]
  | some i =>
   simp only [sliceBounds,HT.sIx,Option.getD_none,show(1:Int)>0 by decide,if_true]
   by_cases h:i<0
   ·simp only [h,if_true] <;> omega
   ·simp only [h,if_false] <;> omega
theorem Ab5(its:List Value)(lo hi:Option Int):slicePick its.toArray lo hi none=((its.drop (HT.sIx its.length 0 lo)).take (HT.sIx its.length its.length hi-HT.sIx its.length 0 lo)).toArray:=by
 obtain⟨h1,h2,h3⟩:=AcE lo hi its.toArray.size
 unfold slicePick
 rw[h1,h2,h3]
 simp only [sliceRange_one,pick_run,Ap1] <;> rfl
def AlS (K:PySem.W.Frag):V→Option Int→Option Int→Hp→VK→Prop:=fun x lo hi H Q=>∃ a xs,x=.ref a∧SqL K H a xs∧∀ p,H p=none→Q (.ref p) (upd H p (.lst (Aeq xs lo hi)))
theorem Aiw:SlR X (AlS X.K):=by
 intro pins s σ H x v vl vu lo hi sl Q I rx hs pl pu h
 obtain⟨a,xs,rfl,hx,q⟩:=h
 cases rx
 obtain⟨its,r,ht,hz⟩:=I.list hx
 have hlen:=r.length
 refine⟨"list", _,slot_list_getitem.lookup,ht.isList.typeIs,?_⟩
 refine wpAny_getItem_list_slice ht.isList hs pl pu .none (by simp) ?_ (by rw[Ap1] <;> omega)
 rw[Ab5,← hlen]
 refine⟨.ref s.heap.objs.size,_,I.laid (t':=s.toks) (o:=.lst (Aeq xs lo hi)) (fun b ob q=>Heap.get?_push_of_some _ q) (Apv _) ?_,rfl,q _ (I.hok.fresh (Apv _))⟩
 exact⟨ApA (Ad1 xs lo hi) hz,_,0,(r.drop (HT.sIx xs.length 0 lo)).take (HT.sIx xs.length xs.length hi-HT.sIx xs.length 0 lo),Heap.get?_push_size _ rfl⟩
def JB:V→Bool
 | .non=>true
 | .bl _=>true
 | .int _=>true
 | .str _=>true
 | _=>false
def eqV:V→V→Bool
 | .non,.non=>true
 | .bl a,.bl b=>a == b
 | .bl a,.int b=>(if a then 1 else 0) == b
 | .int a,.bl b=>a == (if b then 1 else 0)
 | .int a,.int b=>a == b
 | .str a,.str b=>a == b
 | _,_=>false
theorem Aer{A:Around}{s:Shared}{y x:V}{u v:Value}(ry:RelV y u)(rx:RelV x v)(fy:JB y=true)(fx:JB x=true):SeqAt.EqAt A s u v (eqV y x):=by
 cases y with
 | non =>
  cases ry
  cases x with
  | non=>cases rx;exact SeqAt.EqAt.same _
  | bl b=>cases rx;exact SeqAt.EqAt.none_bool b
  | int b=>obtain⟨t,rfl⟩:=rx;exact SeqAt.EqAt.none_int b t
  | str b=>obtain⟨t,rfl⟩:=rx;exact SeqAt.EqAt.none_str b t
  | _=>exact absurd (show false=true from fx) Ap4
 | bl a =>
  cases ry
  cases x with
  | non=>cases rx;exact SeqAt.EqAt.bool_none a
  | bl b=>cases rx;exact SeqAt.EqAt.bool_bool a b
  | int b=>obtain⟨t,rfl⟩:=rx;exact SeqAt.EqAt.bool_int a b t
  | str b=>obtain⟨t,rfl⟩:=rx;exact SeqAt.EqAt.bool_str a b t
  | _=>exact absurd (show false=true from fx) Ap4
 | int a =>
  obtain⟨t',rfl⟩:=ry
  cases x with
  | non=>cases rx;exact SeqAt.EqAt.int_none a t'
  | bl b=>cases rx;exact SeqAt.EqAt.int_bool a t' b
  | int b=>obtain⟨t,rfl⟩:=rx;exact SeqAt.EqAt.int_int a t' b t
  | str b=>obtain⟨t,rfl⟩:=rx;exact SeqAt.EqAt.int_str a t' b t
  | _=>exact absurd (show false=true from fx) Ap4
 | str a =>
  obtain⟨t',rfl⟩:=ry
  cases x with
  | non=>cases rx;exact SeqAt.EqAt.str_none a t'
  | bl b=>cases rx;exact SeqAt.EqAt.str_bool a t' b
  | int b=>obtain⟨t,rfl⟩:=rx;exact SeqAt.EqAt.str_int a t' b t
  | str b=>obtain⟨t,rfl⟩:=rx;exact SeqAt.EqAt.str_str a t' b t
  | _=>exact absurd (show false=true from fx) Ap4
 | _=>exact absurd (show false=true from fy) Ap4
def eqU (x:V)(u:Value):Bool:=match u with
 | .none=>eqV .non x
 | .bool b=>eqV (.bl b) x
 | .int i _=>eqV (.int i) x
 | .str z _=>eqV (.str z) x
 | _=>false
theorem Agz{x y:V}{u:Value}(r:RelV y u)(f:JB y=true):eqU x u=eqV y x:=by
 cases y with
 | non=>cases r;rfl
 | bl b=>cases r;rfl
 | int i=>obtain⟨t,rfl⟩:=r;rfl
 | str z=>obtain⟨t,rfl⟩:=r;rfl
 | _=>exact absurd (show false=true from f) Ap4
theorem AcF{x:V}:∀{xs:List V} {us:List Value},Vals xs us→xs.all JB=true→us.any (eqU x)=xs.any fun y=>eqV y x
 | _,_,.nil,_=>rfl
 | y::xs,u::us,.cons r t,f=>by
  rw[List.all_cons,Aqa] at f
  rw[List.any_cons,List.any_cons,Agz r f.1,AcF t f.2]
theorem Aa4{A:Around}{s:Shared}{x:V}{v:Value}(rx:RelV x v)(fx:JB x=true):∀{xs:List V} {us:List Value},Vals xs us→xs.all JB=true→∀ u∈us,SeqAt.EqAt A s u v (eqU x u)
 | _,_,.nil,_=>fun u hu=>by cases hu
 | y::xs,u::us,.cons r t,f=>fun u' hu=>by
  rw[List.all_cons,Aqa] at f
  rcases List.mem_cons.mp hu with rfl | hu
  ·rw[Agz r f.1];exact Aer r rx f.1 fx
  ·exact Aa4 rx fx t f.2 u' hu
def inV (x:V)(xs:List V):Bool:=xs.any fun y=>eqV y x
def rIn (K:PySem.W.Frag)(neg:Bool):R2:=fun x y H Q=>∃ p xs,y=.ref p∧(SqL K H p xs∨SqT K H p xs)∧JB x=true∧xs.all JB=true∧Q (.bl (if neg then !inV x xs else inV x xs)) H
theorem AcG:OpR X (compareOp .NotIn) (rIn X.K true):=by
 intro pins s σ H x y v u Q I rx ry h
 obtain⟨p,xs,rfl,hq,fx,fs,q⟩:=h
 cases ry
 rcases hq with hq | hq
 ·obtain⟨its,r,pl,hz⟩:=I.list hq
  refine SeqAt.notIn_listAt (eqU x) pl.isList (fun w hw=>Aa4 rx fx r fs w (by simpa using hw)) ⟨.bl _,H,I,rfl,?_⟩
  rw[show its.toArray.any (eqU x)=its.any (eqU x) by simp,AcF r fs]
  exact q
 ·obtain⟨its,r,pl,hz⟩:=I.tuple hq
  refine SeqAt.notIn_tupleAt (eqU x) pl (fun w hw=>Aa4 rx fx r fs w (by simpa using hw)) ⟨.bl _,H,I,rfl,?_⟩
  rw[show its.toArray.any (eqU x)=its.any (eqU x) by simp,AcF r fs]
  exact q
theorem AcH:Hb X (.builtin "len") (fun xs H Q=>∃ p ys,xs=[.ref p]∧(SqL X.K H p ys∨SqT X.K H p ys)∧Q (.int ys.length) H):=by
 intro pins s σ H xs us Q I r h
 obtain⟨p,ys,rfl,hq,q⟩:=h
 obtain⟨u,rfl,rx⟩:=vals1 r
 cases rx
 have hn:=Xv
 rcases hq with hq | hq
 ·obtain⟨its,r',pl,hz⟩:=I.list hq
  have hlen:=r'.length
  exact Calls.call_len_list pl.isList (by simp only [Ap1] <;> omega) ⟨.int ys.length,H,I.tok _,⟨s.toks+1,by rw[Ap1,hlen]⟩,q⟩
 ·obtain⟨its,r',pl,hz⟩:=I.tuple hq
  have hlen:=r'.length
  exact len_tuple pl (by simp only [Ap1] <;> omega) ⟨.int ys.length,H,I.tok _,⟨s.toks+1,by rw[Ap1,hlen]⟩,q⟩
theorem De:Hb X (.builtin "len") (fun xs H Q=>∃ z,xs=[.str z]∧z.length≤sizeLine∧Q (.int z.length) H):=by
 intro pins s σ H xs us Q I r h
 obtain⟨z,rfl,hz,q⟩:=h
 obtain⟨u,rfl,t,rfl⟩:=vals1 r
 have hn:=Xv
 exact len_str (by omega) ⟨.int z.length,H,I.tok _,⟨_,rfl⟩,q⟩
theorem AcI:Hb X (.type "list") (fun xs H Q=>∃ p ys,xs=[.ref p]∧(SqL X.K H p ys∨SqT X.K H p ys)∧∀ l,H l=none→Q (.ref l) (upd H l (.lst ys))):=by
 intro pins s σ H xs us Q I r h
 obtain⟨p,ys,rfl,hq,q⟩:=h
 obtain⟨u,rfl,rx⟩:=vals1 r
 cases rx
 have fin:∀(its:List Value),Vals ys its→ys.length≤sizeLine→∀(h':Heap) (c':Nat),(∀ b o',s.heap.get? b=some o'→h'.get? b=some o') →
   h'.get? s.heap.objs.size=some { cls:=.type "list", dict:=none,data:=.seq its.toArray c',slots:=#[] }→EP X pins σ Q (.ref s.heap.objs.size) { s with heap:=h' }:=fun its r' hz h' c' kp e =>
  ⟨.ref s.heap.objs.size,_,I.laid (t':=s.toks) kp (Apv _) (show Fy X.prog X.w _ h' _ (.lst ys) from⟨hz,its,c',r',e⟩),rfl,q _ (I.hok.fresh (Apv _))⟩
 rcases hq with hq | hq
 ·obtain⟨its,r',pl,hz⟩:=I.list hq
  have hlen:=r'.length
  obtain⟨o,ho,hc,n,hd⟩:=pl.isList
  exact call_list_seq p (.inl rfl) ho hc hd (fun h' c' kp e=>fin its r' hz h' c' kp e) (by simp only [Ap1] <;> omega)
 ·obtain⟨its,r',pl,hz⟩:=I.tuple hq
  have hlen:=r'.length
  obtain⟨o,ho,hc,n,hd⟩:=pl
  exact call_list_seq p (.inr rfl) ho hc hd (fun h' c' kp e=>fin its r' hz h' c' kp e) (by simp only [Ap1] <;> omega)
def tyV (K:PySem.W.Frag)(T:String)(x:V)(H:Hp):Prop:=match x with
 | .str _=>T = "str"
 | .int _=>T = "int"
 | .ref p=>(T = "list" ∧ ∃ xs,SqL K H p xs)∨(T = "tuple" ∧ ∃ o,K.lookup p=some o∧o.cls=.type "tuple" ∧ o.dict=none) ∨
   (T = "dict" ∧ ((∃ kvs,H p=some (.dK kvs))∨∃ kvs,H p=some (.dT kvs)))∨(T = "set" ∧ ∃ S n,H p=some (.set S n))
 | _=>False
theorem Akd{pins:List (Addr × Obj)}{σ:St}{H:Hp}{s:Shared}{T:String}{x:V}{v:Value}(I:Inv X pins σ H s)(r:RelV x v)(ty:tyV X.K T x H) :
  s.TypeIs v T∧∀ a,v=.ref a→∃ ob,s.heap.get? a=some ob∧ob.dict=none:=by
 cases x with
 | str z =>
  obtain⟨t,rfl⟩:=r
  cases (show T = "str" from ty)
  exact⟨typeIs_str s z t,fun _ e=>nomatch e⟩
 | int i =>
  obtain⟨t,rfl⟩:=r
  cases (show T = "int" from ty)
  exact⟨typeIs_int s i t,fun _ e=>nomatch e⟩
 | ref p =>
  cases r
  rcases ty with ⟨rfl,xs,hq⟩ | ⟨rfl,o,hk,hc,hd⟩ | ⟨rfl,hk⟩ | ⟨rfl,S,n,hk⟩
  ·obtain⟨its,_,pl,_⟩:=I.list hq
   refine⟨pl.isList.typeIs,fun a e=>?_⟩
   cases e
   obtain⟨o,n,e,c,hd,_⟩:=pl
   exact⟨o,e,hd⟩
  ·refine⟨⟨o,I.kIn p o hk,hc⟩,fun a e=>?_⟩
   cases e
   exact⟨o,I.kIn _ o hk,hd⟩
  ·have z:∃ o,s.heap.get? p=some o∧o.ExactDict:=by
    rcases hk with ⟨kvs,hk⟩ | ⟨kvs,hk⟩
    ·obtain⟨_,_,_,_,o,_,_,e,ex,_⟩:=I.hok p _ hk
     exact⟨o,e,ex⟩
    ·obtain⟨_,_,_,_,o,_,_,e,ex,_⟩:=I.hok p _ hk
     exact⟨o,e,ex⟩
   obtain⟨o,e,ex⟩:=z
   refine⟨⟨o,e,ex.1⟩,fun a e2=>?_⟩
   cases e2
   exact⟨o,e,ex.2.1⟩
  ·obtain⟨o,_,_,_,e,ex,_⟩:=I.hok p _ hk
   refine⟨⟨o,e,ex.1⟩,fun a e2=>?_⟩
   cases e2
   exact⟨o,e,ex.2.1⟩
 | _=>exact False.elim ty
def AoX (K:PySem.W.Frag)(T:String)(r:V→List V→Hp→VK→Prop)(to:TE):TE:=fun σ H Q=>to σ H fun x H1=>tyV K T x H1∧r x [] H1 Q
def tBM (K:PySem.W.Frag)(T:String)(r:V→List V→Hp→VK→Prop)(to:TE)(t:TA):TE:=fun σ H Q=>to σ H fun x H1=>tyV K T x H1∧t σ H1 fun xs H2=>r x xs H2 Q
variable {o e:Expr}{es:List Expr}{to:TE}{t:TA}{name:Str}{apos cpos:Pos}{T id:String}{r:V→List V→Hp→VK→Prop}
theorem AlT(pa:PlainAttrs T)(slot:Slot T name id)(hty:typeOf (.builtin id)=pure (.type "method_descriptor")) (hm:MtR X id r) (ho:PE X o to) (ha:PA X (e::es) t)
  (hbase:attributeBase o name X.env (eval o X.env)=eval o X.env:=by rfl)
  (hfew:((backTo cpos (starEach (e::es) X.env)).all (fun x=>!x.1) && (backToKw cpos (keywordEach [] X.env)).all (fun x=>x.1.isSome)
   && decide ((e::es).length+([]:List Keyword).length+(if ([]:List Keyword).isEmpty then 0 else 1)<30))=true:=by rfl)
  (hline:(apos.endLine == cpos.line)=true:=by rfl) (hs:starEach (e::es) X.env=(false,eval e X.env)::starEach es X.env:=by rfl) (hplain:(backTo cpos (starEach es X.env)).any (·.1)=false:=by rfl) :
  PE X (.Call (.Attribute o name apos) (e::es) [] cpos) (tBM X.K T r to t):=by
 intro pins s σ H Q I h
 refine wpAny_Call_method_late hbase hfew hline rfl (thn (ho pins s σ H _ I h) fun v s1 ⟨x,H1,I1,r1,ty,q1⟩=>?_)
 obtain⟨h1,h2⟩:=Akd I1 r1 ty
 refine⟨T,id,pa,slot,hty,h1,h2,?_⟩
 have hA:=ha cpos pins s1 σ H1 _ I1 q1
 rw[hs] at hA ⊢
 refine Calls.callWith_builtin (by show(false || (backTo cpos (starEach es X.env)).any (·.1))=false;rw[hplain] <;> rfl) (Calls.evalArgs_plain ?_)
 exact thn hA fun us s2 ⟨vs,H2,I2,r2,q2⟩=>hm pins s2 σ H2 x vs v us Q I2 r1 r2 q2
end
open PySem PySem.Spec PyProof.Rows
def MtM (X:Cx)(id:String)(r:V→List V→Hp→VK→Prop):Prop :=
 ∀(pins:List (Addr × Obj)) (s:Shared) (σ:St) (H:Hp) (x:V) (xs:List V) (v:Value) (us:List Value) (Q:VK),Inv X pins σ H s→RelV x v→Vals xs us→r x xs H Q →
  wpAny (model X.prog X.w) X.A (call (.builtin id) (v::us)) (EP X pins σ Q) X.xe s
theorem Vals.one:∀{x:V} {us:List Value},Vals [x] us→∃ u,us=[u]∧RelV x u
 | _,_,.cons r .nil=>⟨_,rfl,r⟩
theorem Vals.two:∀{x y:V} {us:List Value},Vals [x,y] us→∃ u v,us=[u,v]∧RelV x u∧RelV y v
 | _,_,_,.cons r (.cons q .nil)=>⟨_,_,rfl,r,q⟩
theorem Vals.rep{xs:List V}{us:List Value}(h:Vals xs us):∀ k:Nat,Vals (List.replicate k xs).flatten (List.replicate k us).flatten
 | 0=>.nil
 | k+1=>by
  rw[ApQ,ApQ,ApM,ApM]
  exact Vals.append h (Vals.rep h k)
theorem foldl_rep(its:List Value):∀(k:Nat) (acc:List Value),
  List.foldl (fun x1 x2=>x1++x2) acc.toArray (List.replicate k its.toArray)=(acc++(List.replicate k its).flatten).toArray
 | 0,acc=>by simp
 | k+1,acc=>by
  have e:acc.toArray++its.toArray=(acc++its).toArray:=by simp
  have e2:(acc++its)++(List.replicate k its).flatten=acc++(List.replicate (k+1) its).flatten:=by
   rw[ApQ,ApM,ApW]
  rw[← e2,← foldl_rep its k (acc++its),← e,ApQ,List.foldl_cons]
section
variable {X:Cx}{pins:List (Addr × Obj)}{σ:St}{H:Hp}{s:Shared}{l b:Addr}{xs ys zs:List V}
theorem Inv.AlU{its its':List Value}{n:Nat}{f:Array Value→Array Value}{t':Nat}(I:Inv X pins σ H s)(hH:H l=some (.lst xs))
  (e:s.heap.get? l=some { cls:=.type "list", data:=.seq its.toArray n }) (hf:f its.toArray=its'.toArray) (hv:Vals ys its') (hz:ys.length≤sizeLine) :
  Inv X pins σ (upd H l (.lst ys)) { s with heap:=s.heap.update l (Obj.mapSeq f),toks:=t' }:=by
 have q:=PySem.IsL.update e f
 rw[hf] at q
 refine I.write (x:=l) (e:=l) (by rw[hH];exact trivial) (.inl rfl) (fun b' u hb hu=>(Heap.get?_update_other s.heap (Obj.mapSeq f) (Ne.symm hb)).trans hu) ⟨_,q⟩ ?_
 exact⟨hz,its',_,hv,q⟩
theorem Inv.AlV{its:List Value}{t':Nat}(I:Inv X pins σ H s)(hv:Vals ys its)(hz:ys.length≤sizeLine) :
  Inv X pins σ (upd H s.heap.objs.size (.lst ys)) { s with heap:=s.heap.push { cls:=.type "list", data:=.seq its.toArray },toks:=t' } :=
 I.laid (fun _ _ q=>Heap.get?_push_of_some _ q) (Apv _) ⟨hz,its,0,hv,Heap.get?_push_size _ rfl⟩
theorem Inv.fresh(I:Inv X pins σ H s):H s.heap.objs.size=none:=I.hok.fresh (Apv _)
theorem Inv.Afy(I:Inv X pins σ H s)(hH:H l=some (.lst xs)):xs.length≤sizeLine∧∃(its:List Value) (n:Nat),Vals xs its∧xs.length=its.length∧s.heap.get? l=some { cls:=.type "list", data:=.seq its.toArray n }:=by
 obtain⟨z,its,n,r,e⟩:=I.hok l _ hH
 exact⟨z,its,n,r,r.length,e⟩
theorem Ad3{n:Nat}(h:n≤sizeLine):Builtin.List.listTooLong n=false:=by
 unfold Builtin.List.listTooLong
 exact decide_eq_false (by omega)
end
section
variable {X:Cx}
def Aix:V→List V→Hp→VK→Prop:=fun x vs H Q=>∃ l xs y,x=.ref l∧vs=[y]∧H l=some (.lst xs)∧xs.length<sizeLine∧Q .non (upd H l (.lst (xs++[y])))
theorem Lj:MtM X "list.append" Aix:=by
 intro pins s σ H x vs v us Q I rx rv h
 obtain⟨l,xs,y,rfl,rfl,hH,hz,q⟩:=h
 cases rx
 obtain⟨u,rfl,ru⟩:=rv.one
 obtain⟨z,its,n,r,hl,e⟩:=I.Afy hH
 refine call_meets F.slot_list_append ⟨_,e,rfl⟩ F.entry_list_append (F.args_list_append_2 _ _) (PySem.list_append l its.toArray n u (by rw[Ap1];omega)) ⟨e,?_⟩
 refine⟨.non,_,I.AlU (its':=its++[u]) hH e (by simp) (r.append (.cons ru .nil)) ?_,rfl,q⟩
 rw[Apw,ApF]
 omega
def Aiy:V→List V→Hp→VK→Prop:=fun x vs H Q=>∃ l b xs zs,x=.ref l∧vs=[.ref b]∧H l=some (.lst xs)∧H b=some (.lst zs)∧xs.length+zs.length≤sizeLine∧Q .non (upd H l (.lst (xs++zs)))
theorem Aca:MtM X "list.extend" Aiy:=by
 intro pins s σ H x vs v us Q I rx rv h
 obtain⟨l,b,xs,zs,rfl,rfl,hH,hB,hz,q⟩:=h
 cases rx
 obtain⟨u,rfl,ru⟩:=rv.one
 cases ru
 obtain⟨z,its,n,r,hl,e⟩:=I.Afy hH
 obtain⟨z2,its2,n2,r2,hl2,e2⟩:=I.Afy hB
 have hsz:its.toArray.size+its2.toArray.size≤sizeLine:=by rw[Ap1,Ap1];omega
 have Ag0:¬(!its.toArray.isEmpty && Builtin.List.listTooLong (its.toArray.size+its2.toArray.size))=true:=by
  rw[Ad3 hsz,Aqt]
  exact Ap4
 refine call_meets F.slot_list_extend ⟨_,e,rfl⟩ F.entry_list_extend (F.args_list_extend_2 _ _)
  (AutoSeq1.list_extend_list_list_0 l its.toArray n b its2.toArray n2 Ag0 (by rw[Ap1];omega) (by omega)) ⟨e,e2,?_⟩
 refine⟨.non,_,I.AlU (its':=its++its2) hH e (by simp) (r.append r2) ?_,rfl,q⟩
 rw[Apw]
 omega
def AoY:V→List V→Hp→VK→Prop:=fun x vs H Q=>∃ l xs y,x=.ref l∧vs=[]∧H l=some (.lst xs)∧xs[xs.length-1]?=some y∧Q y (upd H l (.lst xs.dropLast))
def An0:V→List V→Hp→VK→Prop:=fun x vs H Q=>∃ l xs i k y,x=.ref l∧vs=[.int i]∧H l=some (.lst xs) ∧ -(2 ^ 63)≤i∧i<2 ^ 63∧seqIndex? i xs.length=some k∧xs[k]?=some y∧Q y (upd H l (.lst (xs.eraseIdx k)))
def AlW:V→List V→Hp→VK→Prop:=fun x vs H Q=>∃ l xs,x=.ref l∧vs=[]∧H l=some (.lst xs)∧Q .non (upd H l (.lst xs.reverse))
def An1:V→List V→Hp→VK→Prop:=fun x vs H Q=>∃ l xs,x=.ref l∧vs=[]∧H l=some (.lst xs)∧Q .non (upd H l (.lst []))
def An2:R2:=fun x y H Q=>∃ l b xs zs,x=.ref l∧y=.ref b∧H l=some (.lst xs)∧H b=some (.lst zs)∧xs.length+zs.length≤sizeLine∧∀ p,H p=none→Q (.ref p) (upd H p (.lst (xs++zs)))
theorem Fq:OpR X (binaryOp .Add) An2:=by
 intro pins s σ H x y v u Q I rx ry h
 obtain⟨l,b,xs,zs,rfl,rfl,hH,hB,hz,q⟩:=h
 cases rx
 cases ry
 obtain⟨z,its,n,r,hl,e⟩:=I.Afy hH
 obtain⟨z2,its2,n2,r2,hl2,e2⟩:=I.Afy hB
 refine PySem.P.add_list e e2 ?_ (by rw[Ap1,Ap1];omega)
 have ea:its.toArray++its2.toArray=(its++its2).toArray:=by simp
 rw[ea]
 exact⟨.ref _,_,I.AlV (t':=s.toks) (r.append r2) (by rw[Apw];omega),rfl,q _ I.fresh⟩
def An3:R2:=fun x y H Q=>∃ l k xs,x=.ref l∧y=.int k∧H l=some (.lst xs) ∧ -(2 ^ 63)≤k∧k<2 ^ 63∧xs.length*k.toNat≤sizeLine ∧
 ∀ p,H p=none→Q (.ref p) (upd H p (.lst (List.replicate k.toNat xs).flatten))
theorem len_rep{α:Type}(xs:List α)(k:Nat):(List.replicate k xs).flatten.length=k*xs.length:=by
 induction k with
 | zero=>simp
 | succ k ih=>rw[ApQ,ApM,Apw,ih,Nat.succ_mul,Nat.add_comm]
theorem Aes:OpR X (binaryOp .Mult) An3:=by
 intro pins s σ H x y v u Q I rx ry h
 obtain⟨l,k,xs,rfl,rfl,hH,h1,h2,hz,q⟩:=h
 cases rx
 obtain⟨t,rfl⟩:=ry
 obtain⟨z,its,n,r,hl,e⟩:=I.Afy hH
 have hlen:its.toArray.size*k.toNat≤sizeLine:=by rw[Ap1,← hl];exact hz
 have An4:¬its.toArray.size*k.toNat>(2 ^ 63-1) / 8:=by
  have:(sizeLine:Nat)≤(2 ^ 63-1) / 8:=by decide
  omega
 have hfit:¬(!Builtin.List.listFitsIndex k)=true:=by
  rw[fitsIndex_both h1 h2]
  exact Ap4
 have Ag0:¬Builtin.List.listTooLong (its.toArray.size*k.toNat)=true:=by
  rw[Ad3 hlen]
  exact Ap4
 have hnew:List.foldl (fun x1 x2=>x1++x2) #[] (List.replicate (if its.toArray.isEmpty=true then 0 else k.toNat) its.toArray)=(List.replicate k.toNat its).flatten.toArray:=by
  have f0:∀ m:Nat,List.foldl (fun x1 x2=>x1++x2) #[] (List.replicate m its.toArray)=(List.replicate m its).flatten.toArray:=fun m=>by
   have:=foldl_rep its m []
   rw[List.nil_append] at this
   exact this
  rw[f0]
  cases its with
  | nil=>simp
  | cons a r'=>rw[if_neg (by simp)]
 refine wpAny_binaryOp_repeat_ref (T := "list") (U := "int") (by decide) ⟨_,e,rfl⟩ (fun s'=>typeIs_int s' k t) noFill_list_mul F.fills_int_mul F.slot_int_rmul repeat_list F.slot_int_index.lookup
  (call_meets F.slot_int_rmul (typeIs_int s k t) F.entry_int_rmul (F.args_int_rmul_2 _ _) (int___rmul___int_list k t l its.toArray n)
   ⟨e,rfl,⟨_,e,rfl⟩,call_meets F.slot_list_mul ⟨_,e,rfl⟩ F.entry_list_mul (F.args_list_mul_2 _ _) (AutoListH.list___mul___list_int_3 l its.toArray n k t hfit An4 Ag0) ⟨e,?_⟩⟩)
 rw[hnew]
 exact⟨.ref _,_,I.AlV (t':=s.toks) (r.rep k.toNat) (by rw[len_rep,Nat.mul_comm];exact hz),rfl,q _ I.fresh⟩
end
section
variable {prog:Program}{w:World}{A:Around}{E:Value→Shared→Prop}{s:Shared}
end
section
variable {X:Cx}
end
end L2
namespace Att
open PySem PySem.W PySem.Calls PyProof.Rows
theorem Z8{P:Params}{h:Heap}:∀(ns:List Int) (vs:List Value),WellAll P h vs (ns.map WData.int)→IntsAre vs ns:=by
 intro ns
 induction ns with
 | nil =>
  intro vs w
  rw[Aqk] at w
  cases w
  exact .nil
 | cons n ns ih =>
  intro vs w
  rw[Ap5] at w
  cases w with
  | cons a b =>
   cases a
   exact .cons _ _ (ih _ b)
theorem Afz{l:OpenLaw}{n:Nat}(hn:l.most=some n){P:Params}{h:Heap}{args:List WData}{vals:List Value}
  (hpre:l.row.toRowW.claim.pre args=true) (hwl:WellAll P h vals args) :
  ∃ a vs ns,vals=[Value.ref a]∧args=[WData.list (ns.map WData.int)]∧h.get? a=some { cls:=.type "list", data:=.seq vs.toArray }∧IntsAre vs ns∧ns.length≤n:=by
 have hsh:WShape.hasAll [] args [.list .int]=true:=(pre_splitW hpre).1
 have hc:l.pre.holds [] { args:=args }=true:=(pre_splitW hpre).2
 obtain⟨d,r,rfl,h1,h2⟩:=hasAllW_cons hsh
 obtain rfl:=hasAllW_nil h2
 obtain⟨xs,rfl,h3⟩:=hasW_list h1
 obtain⟨ns,rfl⟩:=items_int h3
 have hlen:ns.length≤n:=by
  unfold OpenLaw.pre at hc
  have h4:(WTm.not (.lt (.lit (.int (n:Int))) (.len (.arg 0)))).holds [] { args:=[.list (ns.map .int)] }=true:=by
   have h4:=(holds_andW hc).1
   rw[hn] at h4
   exact h4
  have h5:=condW_of h4 (w_not (w_lt w_lit (w_len_list (w_arg rfl))))
  rw[Apx] at h5
  refine Nat.le_of_not_lt fun q=>?_
  have q':(n:Int)<((ns.length:Nat):Int):=by omega
  first
   | (rw[decide_eq_true q'] at h5;exact absurd h5 (by decide))
   | (simp at h5;omega)
 cases hwl with
 | cons w1 w2 =>
  cases w2
  cases w1 with
  | list ho hall=>exact⟨_,_,ns,rfl,rfl,ho,Z8 ns _ hall,hlen⟩
theorem Af0(l:OpenLaw)(args:List WData):l.row.toRowW.claim.post args (.bool true) args=true :=
 postW_of (r:=l.row.toRowW) (X:=(true == true))
  (show WShape.has [] (.bool true) .bool=true by first | rfl | decide | simp[WShape.has,WShape.arms,WShape.armsAll])
  (show(WTm.eq .res (.lit (.bool true))).value [] { args:=args,res:=some (.bool true),after:=args }=some (.bool (true == true)) from w_eq_bool (w_res rfl) w_lit) rfl
theorem Ad4{l:OpenLaw}{n:Nat}{q:Program}{loose:List Str}{XP:(Str→Option Value)→Heap→Prop}{YP:World→Heap→Prop}{d:DefRec}
  (hn:l.most=some n) (hdf:d.params.defaults=[])
  (call:∀(w:World) (s₀ s₁:Shared) (mg mb:Str→Option Value) (fa:Addr) (o:Obj) (pm cd doc:Value) (a:Addr) (vs:List Value) (ns:List Int),
   Ground q loose [] XP w s₀ mg mb s₁.heap→YP w s₁.heap →
   s₁.heap.get? fa=some o→o.data=.func (docDef d.name d.params d.body d.scope pm cd doc)→s₁.heap.CodeRec cd d.name→mg d.name=some (.ref fa) →
   s₁.heap.get? a=some { cls:=.type "list", data:=.seq vs.toArray }→IntsAre vs ns→ns.length≤n→s₁.gens=#[] →
   codeAny (model l.prog w) callerA (.call (.ref fa) ⟨[.ref a],[]⟩) (fun r s'=>r=.ok (.ret (.bool true))∧OldK s₁.heap s'.heap∧s'.os=s₁.os∧AllBare s'.gens) s₁) :
  WalkO q loose XP YP l.row.toRowW d [] (fun f vs=>PySem.call f vs):=by
 intro w s₀ s₁ mg mb G Y fa o pm cd doc dV kV ho hd hcd hD hmg hg args vals as hpre hlay hrd hwl hlo
 obtain rfl:dV=.none:=Dflts.none hD hdf
 obtain rfl:kV=.none:=Dflts.noKw hD
 obtain⟨a,vs,ns,rfl,rfl,hobj,hints,hlen⟩:=Afz hn hpre hwl
 refine enter_call (codeAny_mono (call w s₀ s₁ mg mb fa o pm cd doc a vs ns G Y ho (fd_plain hd) hcd hmg hobj hints hlen hg) fun r s' hq=>?_)
 obtain⟨rfl,h2,h3,h4⟩:=hq
 exact⟨.inl ⟨.bool true,.bool true,[],rfl,fun _=>rfl,.bool true,Af0 l _,fun _=>⟨List.Pairwise.nil,fun _ hm=>(nomatch hm)⟩⟩,h2,h3,h4⟩
section
variable {prog:Program}{w:World}{A:Around}{E:Value→Shared→Prop}{s:Shared}{K:Frag}
def An5 (h:Heap):Heap:={ h with objs:=#[] }
def ledger(h:Heap)(L d:Addr):List (Addr × Obj):=(List.range h.objs.size).filterMap fun a=>if a=L∨a=d then none else (h.get? a).map fun o=>(a,o)
end
end Att
namespace L2
open PySem PySem.Spec PyProof.Rows
theorem Acb:∀{vs:List Value} {ns:List Int},IntsAre vs ns→Vals (ns.map V.int) vs
 | _,_,.nil=>.nil
 | _,_,.cons n t h=>.cons ⟨t,rfl⟩ (Acb h)
def Only(H:Hp):Prop:=∀ b,H b=none∨∃ o xs,H b=some (.frz o (.lst xs))
theorem Ag1{P:Program}{w:World}{K:PySem.W.Frag}{mg mb:Str→Option Value}{CX:CXT}{k:Nat}{fa a:Addr}{fd:FuncData}{x:Str}{sp:Sp}{s₁:Shared}{vs:List Value}{ns:List Int}
  (KX:K.In s₁.heap) (hns:s₁.heap.Ns mainGlobals mg) (hb:s₁.heap.Ns builtinsNs mb) (hbb:∀ x:Str,x ≠ "__name__" → mb x=bootBuiltins x) (hlim:s₁.heap.NoLimit) (hg:s₁.gens=#[])
  (ha:s₁.heap.get? a=some { cls:=.type "list", data:=.seq vs.toArray }) (hi:IntsAre vs ns) (hl:ns.length≤sizeLine) (hr:FJ k callerA)
  (F:∀ base:Heap,K.In base→base.Ns mainGlobals mg→Be P w K mg base CX k fa fd [x] sp) (hbind:∀(s:Shared) (u:Value),BindsTo s fd ⟨[u],[]⟩ [(x,u)])
  (hsp:∀ H:Hp,Only H→SqL K H a (ns.map V.int)→sp [.ref a] H (fun v _=>v=.bl true) fun _ _ _=>False)
  (hCX:∀ H e s',CX [] H s₁ (fun _ _ _=>False) e s'→False) :
  codeAny (model P w) callerA (.call (.ref fa) ⟨[.ref a],[]⟩) (fun r s'=>r=.ok (.ret (.bool true))∧OldK s₁.heap s'.heap∧s'.os=s₁.os∧AllBare s'.gens) s₁:=by
 have rv:=Acb hi
 have lenV:=hi.length
 have core:∀ H:Hp,Only H→SqL K H a (ns.map V.int)→HOk P w H s₁.heap→(∀ b,H b≠none→b=a)→(H a≠none→K.lookup a=none) →
   codeAny (model P w) callerA (.call (.ref fa) ⟨[.ref a],[]⟩) (fun r s'=>r=.ok (.ret (.bool true))∧OldK s₁.heap s'.heap∧s'.os=s₁.os∧AllBare s'.gens) s₁:=by
  intro H hO hS hok hA hK
  have AeQ:∀{b:Addr} {o:Obj},s₁.heap.get? b=some o→H b=none→(Ac7 s₁.heap H).get? b=some o:=fun e n=>Agm e n
  have noA:∀{b:Addr} {o:Obj} {es:Array DictEntry} {ep:Nat},s₁.heap.get? b=some o→o.data=.dict es ep→H b=none:=fun {b o es ep} e d=>by
   cases q:H b with
   | none=>rfl
   | some u =>
    have e':b=a:=hA b (by rw[q];simp)
    subst e'
    rw[ha] at e;cases e
    have d':Data.seq vs.toArray _=Data.dict es ep:=d
    cases d'
  have nsK:∀{b:Addr} {m:Str→Option Value},s₁.heap.Ns b m→(Ac7 s₁.heap H).Ns b m:=fun {b m} ⟨o,es,ep,e,d,r⟩=>⟨o,es,ep,AeQ e (noA e d),d,r⟩
  have hKb:K.In (Ac7 s₁.heap H):=fun b o e=>AeQ (KX b o e) (by
   cases q:H b with
   | none=>rfl
   | some u =>
    have e':b=a:=hA b (by rw[q];simp)
    subst e'
    rw[hK (by rw[q];simp)] at e;cases e)
  have hM:Mod K mg (Ac7 s₁.heap H):=⟨hKb,nsK hns,⟨mb,nsK hb,hbb⟩,let ⟨mc,h1,h2⟩:=hlim;⟨mc,nsK h1,h2⟩⟩
  have e0:Adz P w K mg (Ac7 s₁.heap H) callerA [] s₁ H:=⟨rfl,hM,fun b o e=>Aik e,Aqe (Afo _ _),trivial,fun b hb=>absurd (show b∈([]:List Addr) from hb) (by simp),hok,.of_eq hg⟩
  refine codeAny_mono ((F _ hKb (nsK hns)).run callerA [] s₁ H ⟨[.ref a],[]⟩ [.ref a] [.ref a] _ _ hr e0 (hbind s₁ (.ref a)) (.cons rfl .nil) (hsp H hO hS)) fun r s' h=>?_
  cases r with
  | error e=>exact(hCX H e s' h).elim
  | ok fl =>
   cases fl with
   | next=>exact False.elim h
   | brk=>exact False.elim h
   | cont=>exact False.elim h
   | ret u =>
    obtain⟨v,H',os,bare,un,hok',r',q⟩:=h
    have q':v=.bl true:=q
    subst q'
    obtain rfl:u=Value.bool true:=r'
    refine⟨rfl,OldK.of_keep fun b o e=>?_,os,bare⟩
    cases q:H b with
    | none=>exact un.keep b o e q (by intro z;exact absurd (show b∈([]:List Addr) from z) (by simp)) (by simp)
    | some u =>
     rcases hO b with z | ⟨ob,xs,z⟩
     ·rw[q] at z;cases z
     ·have z2:=un.Iz b ob _ z
      obtain⟨e1,_⟩:=hok b _ z
      obtain⟨e2,_⟩:=hok' b _ z2
      rw[e] at e1;cases e1
      exact e2
 cases hk:K.lookup a with
 | some o =>
  have e:=KX a o hk
  rw[ha] at e
  cases e
  refine core (fun _=>none) (fun _=>.inl rfl) (.inr ⟨_,vs.toArray,_,hk,rfl,rfl,rfl,by rw[Ap1,lenV];exact hl,by simpa using rv⟩) (fun b u z=>by have z':(none:Option HO)=some u:=z;cases z') (fun b z=>absurd rfl z) fun z=>absurd rfl z
 | none =>
  refine core (fun b=>if b=a then some (.frz { cls:=.type "list", data:=.seq vs.toArray } (.lst (ns.map V.int))) else none) (fun b=>?_) (.inl (.inr ⟨{ cls:=.type "list", data:=.seq vs.toArray },if_pos rfl⟩)) (fun b u z=>?_) (fun b z=>?_) fun _=>hk
  ·by_cases hb:b=a
   ·exact .inr ⟨_,_,if_pos hb⟩
   ·exact .inl (if_neg hb)
  ·by_cases hb:b=a
   ·have z':=(if_pos hb).symm.trans z
    cases z'
    subst hb
    exact⟨ha,by rw[Apx];exact hl,vs,_,rv,ha⟩
   ·have z':=(if_neg hb).symm.trans z
    cases z'
  ·by_cases hb:b=a
   ·exact hb
   ·exact absurd (if_neg hb) z
open PySem PySem.Spec PyProof.Rows
abbrev KOf {K:PySem.W.Frag} {h:Heap} (_:K.In h):PySem.W.Frag:=K
theorem Aiz{l:PySem.W.OpenLaw}{n k:Nat}{q:Program}{loose:List Str}{XP:(Str→Option Value)→Heap→Prop}{YP:World→Heap→Prop}{d:DefRec}{K:Params→PySem.W.Frag}{CX:World→CXT}{sp:World→Sp}{x:Str}
  (hn:l.most=some n) (hn2:n≤sizeLine) (hdf:d.params.defaults=[]) (hr:FJ k callerA)
  (hY:∀(w:World) (h:Heap),YP w h→(K w.params).In h)
  (F:∀(w:World) (mg:Str→Option Value) (fa:Addr) (h:Heap),(K w.params).In h→h.Ns mainGlobals mg→mg d.name=some (.ref fa) →
   ∃ fd:FuncData,(∀(s:Shared) (u:Value),BindsTo s fd ⟨[u],[]⟩ [(x,u)]) ∧
    ∀ base:Heap,(K w.params).In base→base.Ns mainGlobals mg→Be l.prog w (K w.params) mg base (CX w) k fa fd [x] (sp w))
  (hsp:∀(w:World) (H:Hp) (a:Addr) (ns:List Int),ns.length≤n→Only H→SqL (K w.params) H a (ns.map V.int)→sp w [.ref a] H (fun v _=>v=.bl true) fun _ _ _=>False)
  (hCX:∀(w:World) (H:Hp) (s:Shared) (e:Value) (s':Shared),CX w [] H s (fun _ _ _=>False) e s'→False) :
  PySem.W.WalkO q loose XP YP l.row.toRowW d [] (fun f vs=>PySem.call f vs):=by
 refine Att.Ad4 hn hdf fun w s₀ s₁ mg mb fa o pm cd doc a vs ns G Y ho hd hcd hmg hobj hints hlen hg=>?_
 have KX:=hY w _ Y
 obtain⟨fd,hb,hF⟩:=F w mg fa _ KX G.T.g hmg
 exact Ag1 KX G.T.g G.T.b G.T.builtins G.T.nolimit hg hobj hints (ApA hlen hn2) hr hF hb (fun H hO hS=>hsp w H a ns hlen hO hS) fun H e s'=>hCX w H s₁ e s'
theorem Ag2{l:PySem.W.OpenLaw}{n k:Nat}{q:Program}{loose:List Str}{XP:(Str→Option Value)→Heap→Prop}{YP:World→Heap→Prop}{d:DefRec}{K:Params→PySem.W.Frag}{CX:CXT}{sp:PySem.W.Frag→Sp}{x:Str}
  (hn:l.most=some n) (hn2:n≤sizeLine) (hdf:d.params.defaults=[]) (hr:FJ k callerA)
  (hY:∀(w:World) (h:Heap),YP w h→(K w.params).In h)
  (F:∀(w:World) (mg:Str→Option Value) (fa:Addr) (h:Heap),(K w.params).In h→h.Ns mainGlobals mg→mg d.name=some (.ref fa) →
   ∃ fd:FuncData,(∀(s:Shared) (u:Value),BindsTo s fd ⟨[u],[]⟩ [(x,u)]) ∧
    ∀ base:Heap,(K w.params).In base→base.Ns mainGlobals mg→Be l.prog w (K w.params) mg base CX k fa fd [x] (sp (K w.params)))
  (hsp:∀(K:PySem.W.Frag) (H:Hp) (a:Addr) (ns:List Int),ns.length≤n→Only H→SqL K H a (ns.map V.int)→sp K [.ref a] H (fun v _=>v=.bl true) fun _ _ _=>False)
  (hCX:∀(H:Hp) (s:Shared) (e:Value) (s':Shared),CX [] H s (fun _ _ _=>False) e s'→False) :
  PySem.W.WalkO q loose XP YP l.row.toRowW d [] (fun f vs=>PySem.call f vs) :=
 Aiz (K:=K) (CX:=fun _=>CX) (sp:=fun w=>sp (K w.params)) hn hn2 hdf hr hY F (fun w H a ns h1 h2 h3=>hsp (K w.params) H a ns h1 h2 h3) fun _ H s e s'=>hCX H s e s'
open PySem PySem.Spec PyProof.Rows
def inClass(s:Stmt)(j:Nat):Stmt:=match s with
 | .ClassDef _ _ _ body _ _ _ _ _ _ _=>body.getD j (.Pass ⟨0,0,0,0⟩)
 | _=>.Pass ⟨0,0,0,0⟩
def M8 (s:Stmt):Arguments:=match s with
 | .FunctionDef _ a _ _ _ _ _ _ _ _=>a
 | _=>{ posonlyargs:=[],args:=[],vararg:=none,kwonlyargs:=[],kw_defaults:=[],kwarg:=none,defaults:=[] }
def Jr (s:Stmt):List Stmt:=match s with
 | .FunctionDef _ _ b _ _ _ _ _ _ _=>b
 | _=>[]
def Ah (s:Stmt):Scope:=match s with
 | .FunctionDef _ _ _ _ _ _ sc _ _ _=>sc
 | _=>{ kind:=.function,names:=[],isGenerator:=false,isCoroutine:=false }
abbrev CX0:CXT:=fun _ _ _ _ _ _=>False
abbrev E0:XK:=fun _ _ _=>False
theorem Bp{X:Cx}:Passes CX0 X E0:=fun _ _ _ _ _ _ _ h=>h.elim
structure Fun (K:PySem.W.Frag) (x qual:Str) (st:Stmt) (f:Addr) (fd:FuncData):Prop where
 ex:∃(oc:Value) (od:Option Addr) (kV doc pm:Value) (an:Option Addr) (cdv ct:Value) (osl:Array (Option Value)),
  fd=PySem.W.fnOf x qual (M8 st) (Jr st) (Ah st) .none kV doc pm an cdv ct∧K.lookup f=some ⟨oc,od,.func fd,osl⟩∧PySem.W.codeIn K cdv qual=true
 kp:PySem.W.keepIn K (.ref f)=true
section
variable {P:Program}{w:World}{K:PySem.W.Frag}{mg:Str→Option Value}{base:Heap}
theorem Fun.ok{x qual:Str}{st:Stmt}{f:Addr}{fd:FuncData}{N ps:List Str}{k:Nat}{sp:Sp}(F:Fun K x qual st f fd)(S:Aq N ps (Ah st))(len:∀ vs H Q E,sp vs H Q E→vs.length=ps.length)
  (hbody:∀(cdv:Value) (A:Around) (outer:List Env) (s:Shared) (H:Hp) (vs:List V) (Q:VK) (E:XK),FJ k (A.deeper (envOfC qual (Ah st) s.heap.objs.size f cdv))→sp vs H Q E →
   ∃ t,PSs (AcC CX0 P w K mg base N qual (Ah st) f cdv A outer s H E).nox (Jr st) t∧t { nx:=fun _ H'=>Q .non H',rt:=Q } (start N vs) H):Be P w K mg base CX0 (k+1) f fd ps sp:=by
 obtain⟨oc,od,kV,doc,pm,an,cdv,ct,osl,rfl,lk,hcd⟩:=F.ex
 refine Ajy lk hcd S len fun A outer s H vs Q E hr hsp=>?_
 obtain⟨t,h,q⟩:=hbody cdv A outer s H vs Q E hr hsp
 exact⟨t,h.nox,q⟩
theorem Fun.binds{x qual:Str}{st:Stmt}{f:Addr}{fd:FuncData}{ps:List Str}(F:Fun K x qual st f fd)
  (h:∀(kV doc pm:Value) (an:Option Addr) (cdv ct:Value) (us:List Value),us.length=ps.length→bindArgs (PySem.W.fnOf x qual (M8 st) (Jr st) (Ah st) .none kV doc pm an cdv ct) ⟨us,[]⟩=pure (ps.zip us)):Binds K fd ps []:=by
 obtain⟨oc,od,kV,doc,pm,an,cdv,ct,osl,rfl,lk,hcd⟩:=F.ex
 exact .all (h kV doc pm an cdv ct)
theorem Aet{x qual:Str}{st:Stmt}{f:Addr}{oc:Value}{od an:Option Addr}{osl:Array (Option Value)}{kV doc pm cdv ct:Value}(l:K.lookup f=some ⟨oc,od,.func (PySem.W.fnOf x qual (M8 st) (Jr st) (Ah st) .none kV doc pm an cdv ct),osl⟩)
  (c:PySem.W.codeIn K cdv qual=true) (k:PySem.W.keepIn K (.ref f)=true):Fun K x qual st f (PySem.W.fnOf x qual (M8 st) (Jr st) (Ah st) .none kV doc pm an cdv ct):=⟨⟨oc,od,kV,doc,pm,an,cdv,ct,osl,rfl,l,c⟩,k⟩
end
theorem Af1{n:Nat}(h:n≤1000):n<sizeLine:=Nat.lt_of_le_of_lt h (by decide)
section
variable {X:Cx}
theorem pv(i:Nat){x:Str}{pos:Pos}(hN:X.N[i]?=some x:=by rfl)(hv:Vis X.env.scope x:=by first | exact Or.inl rfl | exact Or.inr (Or.inl rfl) | exact Or.inr (Or.inr rfl))(hd:(x == ("__debug__" : Str))=false:=by decide)
  (hcd:(x == ("__classdict__" : Str))=false:=by decide):PE X (.Name x pos) (Al8 i):=AjI hN hv hd hcd
end
theorem Ez{A B:Prop}(h:B):if false=true then A else B:=by
 rw[if_neg Ap4]
 exact h
theorem Ed{A B:Prop}(h:A):if true=true then A else B:=by
 rw[if_pos rfl]
 exact h
theorem Ag3{c A B:Prop}[Decidable c](hc:c)(h:B):if (!decide c)=true then A else B:=by
 rw[decide_eq_true hc]
 exact Ez h
def Ax (H H':Hp):Prop:=∀ b o,H b=some o→H' b=some o
theorem Ax.refl(H:Hp):Ax H H:=fun _ _ h=>h
theorem Ax.trans{H H1 H2:Hp}(a:Ax H H1)(b:Ax H1 H2):Ax H H2:=fun c o h=>b c o (a c o h)
theorem Ax.free{H H':Hp}(e:Ax H H'){l:Addr}(h:H' l=Option.none):H l=Option.none:=by
 cases q:H l with
 | none=>rfl
 | some o =>
  rw[e l o q] at h
  cases h
theorem Ax.seq{K:PySem.W.Frag}{H H':Hp}{a:Addr}{xs:List V}(e:Ax H H')(h:SqL K H a xs):SqL K H' a xs:=by
 rcases h with (h | ⟨o,h⟩) | h
 ·exact .inl (.inl (e _ _ h))
 ·exact .inl (.inr ⟨o,e _ _ h⟩)
 ·exact .inr h
open PySem PySem.Spec PyProof.Rows
theorem Tu{scope:Scope}{env:Env}(h:∀ y∈scope.names,y.2=.free→∃ c,env.cells.lookup y.1=some c) :
  ∃ cl,closureFor scope env=pure cl∧(∀ x c,cl.lookup x=some c→env.cells.lookup x=some c∧(x,NameKind.free)∈scope.names) ∧
   ∀ x,(x,NameKind.free)∈scope.names→cl.lookup x=env.cells.lookup x:=by
 have key:∀(l:List (Str × NameKind)) (cs:List (Str × Addr)),(∀ y∈l,y.2=.free→∃ c,env.cells.lookup y.1=some c) →
   ∃ cl,(forIn l cs (fun(x:Str × NameKind) (cs:List (Str × Addr))=>do
     if x.2 == .free then
      let c ← cellOf env x.1
      pure (ForInStep.yield ((x.1,c)::cs))
     else pure (ForInStep.yield cs)):Sem (List (Str × Addr)))=pure cl ∧
    (∀ x c,cl.lookup x=some c→(env.cells.lookup x=some c∧(x,NameKind.free)∈l)∨cs.lookup x=some c) ∧
    ∀ x,((x,NameKind.free)∈l→cl.lookup x=env.cells.lookup x)∧((cs.lookup x=env.cells.lookup x)→cl.lookup x=env.cells.lookup x):=by
  intro l
  induction l with
  | nil=>intro cs _;exact⟨cs,rfl,fun x c e=>.inr e,fun x=>⟨fun z=>absurd z (by simp),fun z=>z⟩⟩
  | cons y r ih =>
   intro cs hl
   obtain⟨n,k⟩:=y
   by_cases hk:k=.free
   ·subst hk
    obtain⟨c,hc⟩:=hl (n,.free) ApB rfl
    obtain⟨cl,e1,e2,e3⟩:=ih ((n,c)::cs) fun y hy=>hl y (Ap6 _ hy)
    refine⟨cl,?_,fun x d e=>?_,fun x=>⟨fun z=>?_,fun z=>?_⟩⟩
    ·rw[List.forIn_cons]
     simp only [beq_self_eq_true,if_true,cellOf,hc]
     exact e1
    ·rcases e2 x d e with ⟨z1,z2⟩ | z
     ·exact .inl ⟨z1,Ap6 _ z2⟩
     ·rw[ApL] at z
      by_cases hx:x == n
      ·rw[hx] at z
       have hx':x=n:=by simpa using hx
       subst hx'
       refine .inl ⟨?_,ApB⟩
       rw[hc];exact z
      ·have hx':(x == n)=false:=by simpa using hx
       rw[hx'] at z
       exact .inr z
    ·rcases List.mem_cons.mp z with z | z
     ·injection z with z1 _
      subst z1
      refine(e3 x).2 ?_
      rw[ApL,hc]
      simp
     ·exact(e3 x).1 z
    ·by_cases hx:x=n
     ·subst hx
      refine(e3 x).2 ?_
      rw[ApL,hc]
      simp
     ·refine(e3 x).2 ?_
      rw[ApL]
      have hx':(x == n)=false:=by simpa using hx
      rw[hx']
      exact z
   ·obtain⟨cl,e1,e2,e3⟩:=ih cs fun y hy=>hl y (Ap6 _ hy)
    have hb:(k == NameKind.free)=false:=by simpa using hk
    refine⟨cl,?_,fun x d e=>?_,fun x=>⟨fun z=>?_,(e3 x).2⟩⟩
    ·rw[List.forIn_cons]
     simp only [hb,Bool.false_eq_true,if_false]
     exact e1
    ·rcases e2 x d e with ⟨z1,z2⟩ | z
     ·exact .inl ⟨z1,Ap6 _ z2⟩
     ·exact .inr z
    ·rcases List.mem_cons.mp z with z | z
     ·injection z with _ z2
      exact absurd z2.symm hk
     ·exact(e3 x).1 z
 obtain⟨cl,e1,e2,e3⟩:=key scope.names [] h
 refine⟨cl,?_,fun x c e=>?_,fun x z=>(e3 x).1 z⟩
 ·unfold closureFor
  have:=e1
  simpa using this
 ·rcases e2 x c e with z | z
  ·exact z
  ·simp at z
theorem FN{env:Env}(hk:env.scope.kind=.function):∀{names:List (Str × NameKind)} {x:Str} {k:NameKind},names.lookup x=some k→k≠.free →
  (names.map fun(n,k)=>if (k == NameKind.free && env.scope.kind == .function && env.kindOf n == some .cell) then (n,NameKind.cell) else (n,k)).lookup x=some k
 | [],_,_,h,_=>by simp at h
 | (n,k')::r,x,k,h,hf=>by
  have ih:=@FN env hk r x k
  show List.lookup x ((if (k' == NameKind.free && env.scope.kind == .function && env.kindOf n == some .cell)=true then (n,NameKind.cell) else (n,k'))::_)=_
  cases hx:x == n with
  | true =>
   simp only [ApL,hx] at h
   cases h
   have:(k' == NameKind.free)=false:=by simpa using hf
   simp[ApL,hx,this]
  | false =>
   simp only [ApL,hx] at h
   by_cases hc:(k' == NameKind.free && env.scope.kind == .function && env.kindOf n == some .cell)=true
   ·rw[if_pos hc];simp only [ApL,hx];exact ih h hf
   ·rw[if_neg hc];simp only [ApL,hx];exact ih h hf
theorem Jj{env:Env}(hk:env.scope.kind=.function):∀{names:List (Str × NameKind)} {x:Str},names.lookup x=some .free→env.kindOf x=some .cell →
  (names.map fun(n,k)=>if (k == NameKind.free && env.scope.kind == .function && env.kindOf n == some .cell) then (n,NameKind.cell) else (n,k)).lookup x=some .cell
 | [],_,h,_=>by simp at h
 | (n,k')::r,x,h,hc=>by
  have ih:=@Jj env hk r x
  show List.lookup x ((if (k' == NameKind.free && env.scope.kind == .function && env.kindOf n == some .cell)=true then (n,NameKind.cell) else (n,k'))::_)=_
  cases hx:x == n with
  | true =>
   simp only [ApL,hx] at h
   cases h
   have hxn:x=n:=by simpa using hx
   subst hxn
   simp[ApL,hk,hc]
  | false =>
   simp only [ApL,hx] at h
   by_cases hd:(k' == NameKind.free && env.scope.kind == .function && env.kindOf n == some .cell)=true
   ·rw[if_pos hd];simp only [ApL,hx];exact ih h hc
   ·rw[if_neg hd];simp only [ApL,hx];exact ih h hc
def Lb (X:Cx)(Nc:List Str)(scope:Scope)(cl:List (Str × Addr))(C:Addr)(fp:List Addr)(s:Shared)(H:Hp):Cx where
 prog:=X.prog
 w:=X.w
 K:=X.K
 mg:=X.mg
 base:=X.base
 A:=X.A
 N:=Nc
 s₀:=s
 H₀:=H
 env:=compEnvC scope cl C X.env
 outer:=X.stack
 stack:=X.stack
 ex:=fp
 fn:=fun _=>false
 calm:=X.calm
 pn:=[]
 xe:=fun _ _=>False
def IK (σ:St)(Cg:List Nat):St:=Cg.map fun j=>(σ[j]?).join
structure Dq (X:Cx) (x:Str) (Nc:List Str) (Cg:List Nat) (scope:Scope):Prop where
 kind:scope.kind=.function
 cell:∀ y∈scope.names,y.2≠.cell
 names:∀ y∈scope.names,y.2=.local→scope.names.lookup y.1=some .local
 fr:∀ y∈scope.names,y.2=.free→X.env.scope.names.lookup y.1=some .cell∧scope.names.lookup y.1=some .free
 loc:scope.names.lookup x=some .local
 len:Nc.length=Cg.length+1
 hd:Nc[0]?=some x
 nd:Nc.Nodup
 cap:∀ k j,Cg[k]?=some j→∃ y,Nc[k+1]?=some y∧X.N[j]?=some y∧scope.names.lookup y=some .free
theorem Vi{prog:Program}{w:World}{A:Around}{R:Result→Shared→Prop}{s:Shared}{elt target iter:Expr}{ifs:List Expr}{scope:Scope}{pos:Pos}{it acc:Value}{env:Env}(I:Nat→Shared→Prop)
  (turn:∀ n s,I n s→wpAny (model prog w) A (pyNext it) (fun r s₁=>match r with
   | none=>R (.ok .next) s₁
   | some v=>wpAny (model prog w) A (letOwnedTupleGo target it v) (fun _ s1'=>wpAny (model prog w) A (assign target env v) (fun _ s₂ =>
     wpAny (model prog w) A (forIn ifs true fun c r=>if r=true then do let ok ← isTrue c env (eval c env);pure (ForInStep.yield ok) else pure (ForInStep.yield r)) (fun ok s₃ =>
      if ok=true then wpAny (model prog w) A (eval elt env) (fun x s₄ =>
       wpAny (model prog w) A (call (.builtin "list.append") [acc,x]) (fun _ s₅=>∃ m,m<n∧I m s₅) (notedBy (model prog w) A env fun e s'=>R (.error e) s') s₄) (notedBy (model prog w) A env fun e s'=>R (.error e) s') s₃
      else ∃ m,m<n∧I m s₃) (notedBy (model prog w) A env fun e s'=>R (.error e) s') s₂) (notedBy (model prog w) A env fun e s'=>R (.error e) s') s1') (notedBy (model prog w) A env fun e s'=>R (.error e) s') s₁) (notedBy (model prog w) A env fun e s'=>R (.error e) s') s)
  (n:Nat) (h:I n s) :
  codeAny (model prog w) A (.compLoop (.ListComp elt [⟨target,iter,ifs,0⟩] scope pos) 0 it acc env) R s:=by
 refine codeAny_loop rfl I (fun n s hI=>?_) n h
 show wpAny _ A ((compTurn (.ListComp elt [⟨target,iter,ifs,0⟩] scope pos) 0 it acc env).onRaise (fun x=>do noteFrame x env;theTreesLotGoes x)) _ _ s
 refine wpAny_noted ?_
 rw[compTurn_list]
 refine wpAny_bind (wpAny_standAt (wpAny_bind (wpAny_mono (turn n s hI) (fun r s₁ h₁=>?_) fun _ _ h'=>h')))
 cases r with
 | none=>exact wpAny_pure h₁
 | some v =>
  refine wpAny_bind (wpAny_mono h₁ (fun _ s1' h₁=>?_) fun _ _ h'=>h')
  refine wpAny_bind (wpAny_mono h₁ (fun _ s₂ h₂=>wpAny_bind (wpAny_mono h₂ (fun ok s₃ h₃=>?_) fun _ _ h'=>h')) fun _ _ h'=>h')
  cases ok with
  | false=>exact wpAny_pure ⟨rfl,h₃⟩
  | true =>
   exact wpAny_bind (wpAny_bind (wpAny_mono h₃ (fun x s₄ h₄=>wpAny_bind (wpAny_mono h₄ (fun _ s₅ h₅=>wpAny_pure (wpAny_pure ⟨rfl,h₅⟩)) fun _ _ h'=>h')) fun _ _ h'=>h'))
def AcJ:TT:=fun _ H Q=>Q true H
inductive PIf (X:Cx):List Expr→TT→Prop where
 | nil:PIf X [] AcJ
 | one {c:Expr} {t:TT} (h:PT X c t):PIf X [c] t
theorem PIf.run{X:Cx}{ifs:List Expr}{t:TT}(h:PIf X ifs t){pins:List (Addr × Obj)}{s:Shared}{σ:St}{H:Hp}{Q:Bool→Hp→Prop}(I:Inv X pins σ H s)(ht:t σ H Q) :
  wpAny (model X.prog X.w) X.A (forIn ifs true fun c r=>if r=true then do let ok ← isTrue c X.env (eval c X.env);pure (ForInStep.yield ok) else pure (ForInStep.yield r)) (TP X pins σ Q) X.xe s:=by
 cases h with
 | nil=>exact wpAny_tests_nil ⟨H,I,ht⟩
 | one h=>exact wpAny_tests_one (h pins s σ H Q I ht)
def Xy (Cg:List Nat)(tc:TT)(te:TE)(J:It)(σ:St)(H:Hp)(Q:VK):Prop :=
 ∃ W:Nat→Nat→List V→Hp→Prop,(∃ m,W 0 m [] H)∧∀ i m ys H,W i m ys H →
  (J.stop i H∧ys.length≤sizeLine∧∀ p,H p=none→Q (.ref p) (upd H p (.lst ys))) ∨
  (J.go i H∧ys.length<sizeLine∧∀ x H',J.yld i H x H'→tc (some x::IK σ Cg) H' fun b H2 =>
   if b=true then te (some x::IK σ Cg) H2 fun y H3=>∃ m',m'<m∧W (i+1) m' (ys++[y]) H3 else ∃ m',m'<m∧W (i+1) m' ys H2)
def Ag4 (wi:TI)(Cg:List Nat)(tc:TT)(te:TE):TE:=fun σ H Q=>wi σ H fun J H1=>Xy Cg tc te J σ H1 Q
section
variable {X:Cx}{pins:List (Addr × Obj)}{σ:St}{H:Hp}{s:Shared}
theorem Un.track{fs ex:List Addr}{H H':Hp}{h h':Heap}{a:Addr}{o:HO}(u:Un fs ex H H' h h')(ha:h.objs.size≤a)(hn:H' a=none):Un fs ex H (upd H' a o) h h' where
 keep:=u.keep
 slot:=u.slot
 free:=fun b ob q n hx=>by rw[Ao (Ap3 (Ap0 (Heap.lt_size q) ha))];exact u.free b ob q n hx
 there:=u.there
 tups:=fun b xs q=>by rw[Ao (Bf (u.tups b xs q) hn)];exact u.tups b xs q
 Iz:=fun b ob xs q=>by rw[Ao (Bf (u.Iz b ob xs q) hn)];exact u.Iz b ob xs q
 J5:=fun b ps q=>by
  obtain⟨m,e⟩:=u.J5 b ps q
  exact⟨m,by rw[Ao (Bf e hn)];exact e⟩
theorem HOk.track{P:Program}{w:World}{H:Hp}{h:Heap}{a:Addr}{o:HO}(x:HOk P w H h)(hn:H a=none)(new:Fy P w (upd H a o) h a o):HOk P w (upd H a o) h:=fun b u e=>by
 by_cases hb:b=a
 ·subst hb;rw[Ae] at e;cases e;exact new
 ·rw[Ao hb] at e
  exact(x b u e).stay (fun c v _ q=>q) (fun c q=>by rw[Ao (Bf q hn)];exact q) fun c xs q=>by rw[Ao (Bf q hn)];exact q
theorem Ai0{x:Str}{Nc:List Str}{Cg:List Nat}{scope:Scope}{cl:List (Str × Addr)}{C:Addr}{fp:List Addr}(I:Inv X pins σ H s)(O:Dq X x Nc Cg scope)
  (hcl:∀ x c,cl.lookup x=some c→X.env.cells.lookup x=some c∧(x,NameKind.free)∈scope.names) (Ad5:∀ x,(x,NameKind.free)∈scope.names→cl.lookup x=X.env.cells.lookup x)
  (hC:s.heap.objs.size≤C) (hfp:∀ b∈fp,O3 X pins H b) (hfo:∀ b∈fp,b<s.heap.objs.size):(Lb X Nc scope cl C fp s H).Ok where
 mod:=I.ok.mod
 kind:=O.kind
 glob:=I.ok.glob
 blt:=I.ok.blt
 above:=hC
 inj:=fun a b c e1 e2=>I.ok.inj a b c (hcl a c e1).1 (hcl b c e2).1
 has:=fun y hy=>by
  have mem:(y,NameKind.free)∈scope.names:=by
   have hy':((relabel scope X.env).names.lookup y=some .cell)∨((relabel scope X.env).names.lookup y=some .free):=hy
   have hm:∃ k,(y,k)∈(relabel scope X.env).names∧(k=.cell∨k=.free):=by
    rcases hy' with h | h
    ·exact⟨_,PySem.mem_of_lookup h,.inl rfl⟩
    ·exact⟨_,PySem.mem_of_lookup h,.inr rfl⟩
   obtain⟨k,hm,hk⟩:=hm
   obtain⟨⟨n,k'⟩,hm',e⟩:=List.mem_map.mp hm
   dsimp only at e
   by_cases hc:(k' == NameKind.free && X.env.scope.kind == .function && X.env.kindOf n == some .cell)=true
   ·rw[if_pos hc] at e
    injection e with e1 _
    subst e1
    have:k'=.free:=by
     have:=(Aqa _ _▸(Aqa _ _▸hc).1).1
     simpa using this
    subst this
    exact hm'
   ·rw[if_neg hc] at e
    injection e with e1 e2
    subst e1 e2
    rcases hk with hk | hk
    ·subst hk;exact absurd rfl (O.cell _ hm')
    ·subst hk;exact hm'
  obtain⟨c,e⟩:=I.ok.has y (.inl (O.fr _ mem rfl).1)
  exact⟨c,(Ad5 y mem).trans e⟩
 cab:=fun _ _ z=>nomatch z
 hd:=I.ok.hd
 frames:=I.ok.frames
 stk:=.inl rfl
 exf:=fun b hb=>⟨Ap3 (Ap0 (hfo b hb) hC),fun y c e=>(hfp b hb).2.2.2.2.1 y c (hcl y c e).1⟩
 bs:=I.bs
 bsz:=ApA I.ok.bsz I.sz
 Adx:=fun b o e hb=>by
  rcases(hfp b hb).2.2.2.1 with z | z
  ·exact I.ok.Adx b o e z
  ·exact absurd (Ap0 (Heap.lt_size e) (ApA I.ok.bsz z)) (ApC _)
 Ac8:=fun b hb z=>by
  rcases List.mem_cons.mp (I.Ac9 b z) with e | e
  ·exact(hfp b hb).2.1 e
  ·exact(hfp b hb).2.2.1 e
 Tr:=I.stack
 frf:=I.Aam
end
open PySem PySem.Spec PyProof.Rows
section
variable {X:Cx}{pins:List (Addr × Obj)}{σ:St}{H:Hp}{s:Shared}
theorem Ag5(σ:St)(Cg:List Nat):(IK σ Cg).length=Cg.length:=by unfold IK;rw[Apx]
theorem Ag6{σ:St}{Cg:List Nat}{k:Nat}{v:V}(e:(IK σ Cg)[k]?=some (some v)):∃ j,Cg[k]?=some j∧σ[j]?=some (some v):=by
 unfold IK at e
 rw[Ap8] at e
 cases hk:Cg[k]? with
 | none=>rw[hk] at e;cases e
 | some j =>
  rw[hk] at e
  have e':(σ[j]?).join=some v:=Option.some.inj e
  refine⟨j,rfl,?_⟩
  cases hj:σ[j]? with
  | none=>rw[hj] at e';cases e'
  | some o=>rw[hj] at e';rw[show o=some v from e']
theorem Un.but{fs ex:List Addr}{H H':Hp}{h h1 h2:Heap}{C:Addr}(u:Un fs ex H H' h h1)(hs:Heap.SameBut C h1 h2)(hC:h.objs.size≤C):Un fs ex H H' h h2 where
 keep:=fun b o q n hb hx=>(hs.2 b (Ap3 (Ap0 (Heap.lt_size q) hC))).trans (u.keep b o q n hb hx)
 slot:=fun b o q n hb hx=>by
  obtain⟨sl,e⟩:=u.slot b o q n hb hx
  exact⟨sl,(hs.2 b (Ap3 (Ap0 (Heap.lt_size q) hC))).trans e⟩
 free:=u.free
 there:=fun b o q hx=>by
  obtain⟨o',e⟩:=u.there b o q hx
  exact⟨o',(hs.2 b (Ap3 (Ap0 (Heap.lt_size q) hC))).trans e⟩
 tups:=u.tups
 Iz:=u.Iz
 J5:=u.J5
theorem Aa5{x:Str}{Nc:List Str}{Cg:List Nat}{scope:Scope}{cl:List (Str × Addr)}{C:Addr}{fp:List Addr}{h':Heap}{tk:Nat}{m0:Str→Option Value}(I:Inv X pins σ H s)(O:Dq X x Nc Cg scope)
  (hcl:∀ x c,cl.lookup x=some c→X.env.cells.lookup x=some c∧(x,NameKind.free)∈scope.names) (Ad5:∀ x,(x,NameKind.free)∈scope.names→cl.lookup x=X.env.cells.lookup x)
  (hC:s.heap.objs.size≤C) (hfp:∀ b∈fp,O3 X pins H b) (hfo:∀ b∈fp,b<s.heap.objs.size)
  (old:∀ b o,s.heap.get? b=some o→h'.get? b=some o) (hns:h'.Ns C m0) :
  Inv (Lb X Nc scope cl C fp s H) [] (none::IK σ Cg) H { s with heap:=h',toks:=tk } where
 ok:=Ai0 I O hcl Ad5 hC hfp hfo
 os:=rfl
 bare:=I.bare
 base:=Un.kept old
 loc:=by
  refine⟨m0,hns,fun i y v hN hσ hv=>?_⟩
  cases i with
  | zero=>simp at hσ
  | succ k =>
   rw[List.getElem?_cons_succ] at hσ
   obtain⟨j,hj,hs⟩:=Ag6 hσ
   obtain⟨z,hz1,hz2,hz3⟩:=O.cap k j hj
   have hN':Nc[k+1]?=some y:=hN
   rw[hz1] at hN'
   cases hN'
   have mem:(y,NameKind.free)∈scope.names:=PySem.mem_of_lookup hz3
   have hk:=(O.fr _ mem rfl).1
   obtain⟨m,hn,hl⟩:=I.loc
   obtain⟨u,r,l⟩:=hl j y v hz2 hs (.inr (.inl hk))
   refine⟨u,r,?_⟩
   rcases l with ⟨k',_⟩ | ⟨_,c,hc,z⟩
   ·have k'':X.env.scope.names.lookup y=some .local:=k'
    rw[hk] at k'';cases k''
   ·obtain⟨o,ho,hd⟩:=z
    exact .inr ⟨.inl (Jj I.ok.kind hz3 hk),c,(Ad5 y mem).trans hc,o,old _ _ ho,hd⟩
 cell:=fun y c e=>by
  obtain⟨v,o,ho,hd⟩:=I.cell y c (hcl y c e).1
  exact⟨v,o,old _ _ ho,hd⟩
 free:=I.hok.fresh hC
 Km:=fun y c e=>I.Km y c (hcl y c e).1
 pin:=fun p hp=>absurd (show p∈([]:List (Addr × Obj)) from hp) (by simp)
 hok:=I.hok.kept old
 len:=by
  show(none::IK σ Cg).length=Nc.length
  rw[Apz,Ag5,O.len]
abbrev O4 (us:List Value) (n:Nat):Obj:={ cls:=.type "list", data:=.seq us.toArray n }
theorem Dr{X:Cx}{sc0 scope:Scope}(h:X.env.scope=sc0)(hd:∀ y∈scope.names,y.2=.free→sc0.names.lookup y.1=some .cell∧scope.names.lookup y.1=some .free) :
  ∀ y∈scope.names,y.2=.free→X.env.scope.names.lookup y.1=some .cell∧scope.names.lookup y.1=some .free:=by
 rw[h]
 exact hd
theorem Aa6{x:Str}{px:Pos}{Nc:List Str}{Cg:List Nat}{scope:Scope}{cl:List (Str × Addr)}{iter elt:Expr}{ifs:List Expr}{pos:Pos}{tc:TT}{te:TE}{Q:VK}{it:Addr}{fp:List Addr}{tn:Nat→Heap→Prop}{J:It}
  {RR:Value→Addr→Result→Shared→Prop}{E:Value→Shared→Prop}
  (O:Dq X x Nc Cg scope) (hc:X.calm=true)
  (hcl:∀ x c,cl.lookup x=some c→X.env.cells.lookup x=some c∧(x,NameKind.free)∈scope.names) (Ad5:∀ x,(x,NameKind.free)∈scope.names→cl.lookup x=X.env.cells.lookup x)
  (hte:∀ C fp s H,PE (Lb X Nc scope cl C fp s H) elt te) (htc:∀ C fp s H,PIf (Lb X Nc scope cl C fp s H) ifs tc)
  (I:Inv X pins σ H s) (T:Turn X.prog X.w X.K (.Name x px) J fp it tn) (st:tn 0 s.heap) (hfp:∀ b∈fp,O3 X pins H b) (h:Xy Cg tc te J σ H Q)
  (hRR:∀(D C:Addr) (s':Shared) (m:Str→Option Value),s'.heap.Ns C m→(∀ h',Heap.SameBut C s'.heap h'→∃ H',Inv X pins σ H' { s' with heap:=h' }∧H' C=none∧Q (.ref D) H') →
   s.heap.objs.size≤C→RR (.ref D) C (.ok .next) s') :
  wpAny (model X.prog X.w) X.A (newList []) (fun acc s₃=>wpAny (model X.prog X.w) X.A (newFunctionEnv scope X.env.globals cl [] X.env.qual none .none (some X.env)) (fun cenv s₄ =>
   codeAny (model X.prog X.w) X.A (.compStart (.ListComp elt [⟨.Name x px,iter,ifs,0⟩] scope pos) 0 (.ref it) acc { cenv with scope:=relabel scope X.env }) (RR acc cenv.locals) s₄) E s₃) E s:=by
 refine wpAny_newObj_type (wpAny_newFunctionEnv O.cell (by intro y hy;simp at hy) (fun h₁ hns₁ hsb₁=>?_) O.kind)
 dsimp only at hns₁ hsb₁ ⊢
 generalize hH2:s.heap.push { cls:=.type "list", dict:=none,data:=.seq ([]:List Value).toArray }=H2 at hns₁ hsb₁ ⊢
 have hC:H2.objs.size=s.heap.objs.size+1:=by rw[← hH2,Heap.size_push]
 have hCle:s.heap.objs.size≤H2.objs.size:=by rw[hC];exact Nat.le_succ _
 have hDC:s.heap.objs.size≠H2.objs.size:=by rw[hC];exact Ap3 (Aqi _)
 have below:∀ b,b<s.heap.objs.size→b≠H2.objs.size∧b≠s.heap.objs.size:=fun b hb=>⟨by rw[hC];exact Ap3 (Nat.lt_succ_of_lt hb),Ap3 hb⟩
 have old:∀ b o,s.heap.get? b=some o→h₁.get? b=some o:=fun b o e=>hsb₁.extBut b o (below b (Heap.lt_size e)).1 (Heap.get?_push_of_some _ (hH2▸Heap.get?_push_of_some _ e))
 have hacc:h₁.get? s.heap.objs.size=some (O4 [] 0):=hsb₁.extBut _ _ hDC (Heap.get?_push_of_some _ (hH2▸Heap.get?_push_size _ rfl))
 have hfo:∀ b∈fp,b<s.heap.objs.size:=fun b hb=>by
  obtain⟨o,e,_⟩:=T.obj _ _ st b hb
  exact Heap.lt_size e
 have st1:tn 0 h₁:=T.keep _ _ _ st fun b _ o e=>old b o e
 generalize hDD:s.heap.objs.size=D at *
 generalize hCC:H2.objs.size=C at *
 have Ake:D≤C:=hCle
 let Y:Cx:=Lb X Nc scope cl C fp s H
 have I0:Inv Y [] (none::IK σ Cg) H { s with heap:=h₁,toks:=s.toks+([]:List (Str × Value)).length }:=Aa5 I O hcl Ad5 (by rw[hDD];exact hCle) hfp (fun b hb=>by rw[hDD];exact hfo b hb) old hns₁
 have Ag7:H D=none:=by rw[← hDD];exact I.hok.fresh (Apv _)
 have AcK:D≠C:=hDC
 have Dfs:D∉Y.fs:=fun z=>by
  have:=I.stack.mem (show D∈frs X.stack from z)
  obtain⟨_,o,e,_⟩:=this
  have:=Heap.lt_size e
  rw[hDD] at this
  exact ApC _ this
 have Ag8:∀ y c,Y.env.cells.lookup y=some c→c≠D:=fun y c e z=>by
  obtain⟨v,q⟩:=I.cell y c (hcl y c e).1
  have:=q.lt
  rw[z,hDD] at this
  exact ApC _ this
 have Dfp:∀ b∈fp,b≠D:=fun b hb=>Ap3 (hfo b hb)
 have fpY:∀{H':Hp},(∀ b∈fp,H' b=none)→∀ b∈fp,O3 Y [] H' b:=fun hn b hb =>
  ⟨hn b hb,Ap3 (Ap0 (hfo b hb) Ake),fun z=>I0.ok.Ac8 b hb z,.inl hb,fun y c e=>(I0.ok.exf b hb).2 y c e,fun p hp=>absurd (show p∈([]:List (Addr × Obj)) from hp) (by simp)⟩
 obtain⟨W,⟨m0,w0⟩,turn⟩:=h
 have loop:∀ s₃:Shared,s₃={ s with heap:=h₁,toks:=s.toks+([]:List (Str × Value)).length } →
   codeAny (model X.prog X.w) X.A (.compLoop (.ListComp elt [⟨.Name x px,iter,ifs,0⟩] scope pos) 0 (.ref it) (.ref D) (compEnvC scope cl C X.env)) (RR (.ref D) C) s₃:=by
  rintro s₃ rfl
  refine Vi (fun n s'=>∃(i:Nat) (o:Option V) (H':Hp) (ys:List V) (us:List Value) (k:Nat),Inv Y [] (o::IK σ Cg) H' s'∧tn i s'.heap∧(∀ b∈fp,H' b=none)∧s'.heap.get? D=some (O4 us k)∧H' D=none∧Vals ys us∧W i n ys H')
   ?_ m0 ⟨0,none,H,[],[],0,I0,st1,fun b hb=>(hfp b hb).1,hacc,Ag7,.nil,w0⟩
  rintro n s3 ⟨i,o3,H3,ys,us,k,I3,st3,fr3,hD3,nD3,rv,w3⟩
  have fpP:∀{H':Hp} {ob:Obj},(∀ b∈fp,H' b=none)→∀ b∈fp,O3 Y [(D,ob)] H' b:=fun hn b hb=>by
   obtain⟨g0,g1,g2,g3,g4,_⟩:=fpY hn b hb
   refine⟨g0,g1,g2,g3,g4,fun p hp=>?_⟩
   have e:p=(D,_):=List.mem_singleton.mp (show p∈[(D,_)] from hp)
   rw[e]
   exact Ne.symm (Dfp b hb)
  have IP:Inv Y [(D,O4 us k)] (o3::IK σ Cg) H3 s3:=I3.Ko fun p hp=>by
   have e:p=(D,O4 us k):=List.mem_singleton.mp hp
   subst e
   exact⟨hD3,nD3,AcK,Dfs,fun v z=>by cases z⟩
  have Aeu:∀{σ':St} {H':Hp} {s':Shared} {pl:List (Addr × Obj)},Inv Y ([(D,O4 us k)]++pl) σ' H' s'→s'.heap.get? D=some (O4 us k)∧H' D=none:=fun I'=>by
   have z:=I'.pin (D,O4 us k) (ApE _ (Aqr _ ApB))
   exact⟨z.1,z.2.1⟩
  rcases turn i n ys H3 w3 with ⟨stop,hlen,fin⟩ | ⟨go,hlen,step⟩
  ·
   refine wpAny_mono (T.done Y rfl rfl rfl hc i _ s3 _ H3 (fun _ _=>False) IP (fpP fr3) st3 stop) (fun r s4 hr=>?_) fun _ _ z=>z.elim
   obtain⟨hr,I4⟩:=hr
   subst hr
   obtain⟨gD,nD⟩:=Aeu (pl:=[]) (by simpa using I4)
   obtain⟨m,hn,_⟩:=I4.loc
   refine hRR D C s4 m hn (fun h' hs'=>⟨upd H3 D (.lst ys),?_,(Ao (Ne.symm AcK)).trans I4.free,fin D nD⟩) hCle
   have nt:∀ b ob,H3 b=some ob→b≠C:=fun b ob e z=>by
    have:=I4.free
    rw[z] at e
    rw[show H3 C=none from this] at e
    cases e
   have u1:Un (frs X.stack) fp H H3 s.heap h':=Un.but I4.base hs' (show s.heap.objs.size≤C by rw[hDD];exact hCle)
   have ok1:HOk X.prog X.w H3 h':=fun b ob e=>(I4.hok b ob e).stay (fun c v hc q=>(hs'.2 c (by
    rcases hc with z | z
    ·rw[z];exact nt b ob e
    ·exact nt c _ z)).trans q) (fun _ q=>q) fun _ _ q=>q
   have gD':h'.get? D=some (O4 us k):=(hs'.2 D AcK).trans gD
   exact I.call' (s':={ s4 with heap:=h' }) (ch:=fp) I4.os (u1.track (Aqe hDD) nD) (ok1.track nD ⟨hlen,us,k,rv,gD'⟩) I4.bare fun b hb=>by
    obtain⟨_,g1,_,g3,g4,g5⟩:=hfp b hb
    exact⟨g3,g1,g4,g5⟩
  ·
   refine wpAny_mono (T.item Y rfl rfl rfl hc i _ s3 _ H3 (fun _ _=>False) IP (fpP fr3) st3 go) (fun r s4 hr=>?_) fun _ _ z=>z.elim
   obtain⟨u0,hr,h4⟩:=hr
   subst hr
   refine wpAny_mono h4 (fun _ s5 h5=>?_) fun _ _ z=>z.elim
   obtain⟨x5,H5,I5,r5,y5,st5,fr5⟩:=h5
   have I5':=I5.pinned (fpP fr5) (T.obj _ _ st5)
   have tgt:PG Y (.Name x px) (YT 0):=Eb (i:=0) O.nd O.hd (.inl (FN I.ok.kind O.loc (by intro z;cases z))) (.inr (FN I.ok.kind O.loc (by intro z;cases z)))
   refine wpAny_mono (tgt _ s5 _ H5 x5 u0 (fun σ2 H2=>σ2=some x5::IK σ Cg∧H2=H5) I5' r5 ⟨rfl,rfl⟩) (fun _ s6 h6=>?_) fun _ _ z=>z.elim
   obtain⟨_,_,I6,rfl,rfl⟩:=h6
   refine wpAny_mono ((htc C fp s H).run I6 (step x5 _ y5)) (fun b s7 h7=>?_) fun _ _ z=>z.elim
   obtain⟨H7,I7,q7⟩:=h7
   have Ad6:∀{σ':St} {H':Hp} {s':Shared},Inv Y ([(D,O4 us k)]++Xr fp s5.heap) σ' H' s'→tn (i+1) s'.heap∧∀ b∈fp,H' b=none:=fun I' =>
    ⟨T.keep _ _ _ st5 fun b hb o e=>(I'.pin (b,o) (ApE _ (ApE _ (Hu hb e)))).1,fun b hb=>by
     obtain⟨o,e,d⟩:=T.obj _ _ st5 b hb
     exact(I'.pin (b,o) (ApE _ (ApE _ (Hu hb e)))).2.1⟩
   cases b with
   | false =>
    rw[if_neg Ap4] at q7
    rw[if_neg Ap4]
    obtain⟨m',hm,w7⟩:=q7
    obtain⟨gD,nD⟩:=Aeu I7
    obtain⟨k1,k2⟩:=Ad6 I7
    exact⟨m',hm,i+1,some x5,H7,ys,us,k,I7.Ko (fun p hp=>nomatch hp),k1,k2,gD,nD,rv,w7⟩
   | true =>
    rw[if_pos rfl] at q7
    rw[if_pos rfl]
    refine wpAny_mono (hte C fp s H _ s7 _ H7 _ I7 q7) (fun u8 s8 h8=>?_) fun _ _ z=>z.elim
    obtain⟨y8,H8,I8,r8,m',hm,w8⟩:=h8
    obtain⟨gD,nD⟩:=Aeu I8
    obtain⟨k1,k2⟩:=Ad6 I8
    refine call_meets F.slot_list_append ⟨_,gD,rfl⟩ F.entry_list_append (F.args_list_append_2 _ _) (PySem.list_append D us.toArray k u8 (by rw[Ap1,← rv.length];omega)) ⟨gD,?_⟩
    have q:=PySem.IsL.update gD (·.push u8)
    have e1:us.toArray.push u8=(us++[u8]).toArray:=by simp
    rw[e1] at q
    have I8':Inv Y [] (some x5::IK σ Cg) H8 s8:=I8.Ko (fun p hp=>nomatch hp)
    have I9:Inv Y [] (some x5::IK σ Cg) H8 { s8 with heap:=s8.heap.update D (Obj.mapSeq (·.push u8)),toks:=s8.toks } :=
     I8'.turned (it:=D) (fun b o hb e=>(Heap.get?_update_other s8.heap (Obj.mapSeq (·.push u8)) (Ne.symm hb)).trans e) nD AcK (.inr (Aqe hDD)) Ag8 (fun p hp=>nomatch hp)
    refine⟨m',hm,i+1,some x5,H8,ys++[y8],us++[u8],_,I9,T.keep _ _ _ k1 fun b hb o e=>(Heap.get?_update_other s8.heap (Obj.mapSeq (·.push u8)) (Ne.symm (Dfp b hb))).trans e,k2,q,nD,rv.append (.cons r8 .nil),w8⟩
 exact codeAny_compStart_list (loop _ rfl) (T.self X.A 0 _ _ _ st1 (loop _ rfl))
theorem M9{x:Str}{px pos:Pos}{Nc:List Str}{Cg:List Nat}{scope:Scope}{iter elt:Expr}{ifs:List Expr}{wi:TI}{tc:TT}{te:TE}(O:Dq X x Nc Cg scope)(hc:X.calm=true)(hi:PI X (.Name x px) iter wi)
  (htc:∀ cl C fp s H,PIf (Lb X Nc scope cl C fp s H) ifs tc) (hte:∀ cl C fp s H,PE (Lb X Nc scope cl C fp s H) elt te) (hs:∀ x,foldedSetIterable iter X.env x=pure x:=by intro _;rfl) :
  PE X (.ListComp elt [⟨.Name x px,iter,ifs,0⟩] scope pos) (Ag4 wi Cg tc te):=by
 intro pins s σ H Q I h
 rw[eval_ListComp]
 obtain⟨cl,e1,e2,e3⟩:=Tu (scope:=scope) (env:=X.env) fun y hy hf=>I.ok.has y.1 (.inl (O.fr y hy hf).1)
 refine wpAny_comprehension_free (use:=none) rfl hs e1 O.kind O.names (thn (hi pins s σ H _ I h) fun v s1 h1=>thn h1 fun itv s2 h2=>?_)
 obtain⟨it,fp,tn,J,H2,e,I2,T,st2,f2,w2⟩:=h2
 subst e
 refine Aa6 (RR:=fun acc C=>compPost (model X.prog X.w) X.A X.xe none (EP X pins σ Q) acc C) O hc e2 e3 (hte cl) (htc cl) I2 T st2 f2 w2 ?_
 intro D C s' m hn hq hC
 refine⟨m,hn,fun h' hs'=>?_⟩
 obtain⟨H',I',_,q⟩:=hq h' hs'
 exact⟨.ref D,H',I',rfl,q⟩
theorem Ge{i:Nat}{y x:Str}{px py pos spos:Pos}{Nc:List Str}{Cg:List Nat}{scope:Scope}{iter elt:Expr}{ifs:List Expr}{wi:TI}{tc:TT}{te:TE}(O:Dq X x Nc Cg scope)(hc:X.calm=true)
  (hN:X.N.Nodup) (hy:X.N[i]?=some y) (hx:X.env.scope.names.lookup y=some .local) (hi:PI X (.Name x px) iter wi)
  (htc:∀ cl C fp s H,PIf (Lb X Nc scope cl C fp s H) ifs tc) (hte:∀ cl C fp s H,PE (Lb X Nc scope cl C fp s H) elt te)
  (hsw:swapsWith (.ListComp elt [⟨.Name x px,iter,ifs,0⟩] scope pos) (some (.Name y py)) spos.line X.env=pure true) (hs:∀ x,foldedSetIterable iter X.env x=pure x:=by intro _;rfl) :
  PS X (.Assign [.Name y py] (.ListComp elt [⟨.Name x px,iter,ifs,0⟩] scope pos) spos) (AjL (Ag4 wi Cg tc te) (YT i)):=by
 intro pins s σ H Dn I h
 rw[exec_Assign_Name_used _ _ _ _ hsw]
 refine wpAny_bind (wpAny_standAt (wpAny_bind ?_))
 obtain⟨cl,e1,e2,e3⟩:=Tu (scope:=scope) (env:=X.env) fun y hy hf=>I.ok.has y.1 (.inl (O.fr y hy hf).1)
 show wpAny _ X.A (do let _ ← comprehension (.ListComp elt [⟨.Name x px,iter,ifs,0⟩] scope pos) scope X.env _ (newList []) false (eval iter X.env) (some (assign (.Name y py) X.env))) _ _ s
 refine wpAny_bind (wpAny_mono (wpAny_comprehension_free (use:=some (assign (.Name y py) X.env)) (Q:=fun _ s'=>SP X pins Dn .next s') rfl hs e1 O.kind O.names
  (thn (hi pins s σ H _ I h) fun v s1 h1=>thn h1 fun itv s2 h2=>?_)) (fun _ s' hq=>wpAny_pure (wpAny_pure hq)) fun _ _ e=>e)
 obtain⟨it,fp,tn,J,H2,e,I2,T,st2,f2,w2⟩:=h2
 subst e
 refine Aa6 (RR:=fun acc C=>compPost (model X.prog X.w) X.A X.xe (some (assign (.Name y py) X.env)) (fun _ s'=>SP X pins Dn .next s') acc C) O hc e2 e3 (hte cl) (htc cl) I2 T st2 f2 w2 ?_
 intro D C s' m hn hq hC
 show wpAny _ X.A (assign (.Name y py) X.env (.ref D)) _ _ _
 obtain⟨H',I',nC,q⟩:=hq s'.heap (.refl ..)
 have I'':Inv X pins σ H' s':=I'
 have CL:C≠X.env.locals:=Aqs (Ap0 I2.lt hC)
 have Ad7:∀ y c,X.env.cells.lookup y=some c→c≠C:=fun y c e z=>by
  obtain⟨v,q⟩:=I2.cell y c e
  have:=Ap0 q.lt hC
  rw[z] at this
  exact ApC _ this
 refine wpAny_assign_Name (Xp I'' hN hy (.inl hx) (show RelV (.ref D) (.ref D) from rfl) (fun s3 I3 hsb=>?_) (.inr hx))
 obtain⟨a,hsb,ha⟩:=hsb
 have aC:C≠a:=by
  rcases ha with z | z
  ·rw[z];exact CL
  ·exact Ne.symm (Ad7 _ _ z)
 refine⟨m,hn.sameBut hsb aC,fun h4 hs4=>?_⟩
 refine⟨_,H',I3.turned (it:=C) (t':=s3.toks) (fun b o hb e=>(hs4.2 b hb).trans e) nC CL (.inr (ApA I2.sz hC)) Ad7 (fun p hp z=>?_),q⟩
 ·have:=Ap0 (Heap.lt_size (I2.pin p hp).1) hC
  rw[z] at this
  exact ApC _ this
end
open PySem PySem.Spec PyProof.Rows
def Its (x:Str):It:=⟨fun i _=>i<x.cps.size,fun i H v H'=>H'=H∧∃ c,x.cps[i]?=some c∧v=.str ⟨#[c]⟩,fun i _=>x.cps.size≤i⟩
theorem Af2{P:Program}{w:World}{K:PySem.W.Frag}{tg:Expr}(it:Addr)(x:Str)(t:Tok):Turn P w K tg (Its x) [it] it (fun i h=>i≤x.cps.size∧h.IsStrIter it "str_ascii_iterator" x t i) where
 mem:=by simp
 obj:=fun i h st b hb=>by
  have e:b=it:=by simpa using hb
  subst e
  obtain⟨_,o,e,c,d⟩:=st
  exact⟨o,e,fun v z=>by rw[d] at z;cases z⟩
 keep:=fun i h h' st k=>by
  obtain⟨hl,o,e,c,d⟩:=st
  exact⟨hl,o,k it (by simp) o e,c,d⟩
 item:=by
  intro X hP hw hK hc i pins s σ H E I hf st hg
  subst hP hw hK
  obtain⟨hl,st⟩:=st
  have hg:i<x.cps.size:=hg
  obtain⟨f0,f1,f2,f3,f4,f5⟩:=hf it (by simp)
  have hx:x.cps[i]?=some x.cps[i]:=by simp[hg]
  refine wpAny_pyNext_ascii_item st hx fun h' st' sb=>?_
  have I1:Inv X pins σ H { s with heap:=h',toks:=s.toks+1 }:=I.turned (fun b o hb e=>(sb.2 b hb).trans e) f0 f1 f3 f4 f5
  obtain⟨o,e,c,d⟩:=id st'
  exact⟨_,rfl,AeL (s:={ s with heap:=h',toks:=s.toks+1 }) e c d (by decide) ⟨.str ⟨#[x.cps[i]]⟩,H,I1,⟨_,rfl⟩,⟨rfl,_,hx,rfl⟩,⟨hg,st'⟩,fun b hb=>(hf b hb).1⟩⟩
 done:=by
  intro X hP hw hK hc i pins s σ H E I hf st hg
  subst hP hw hK
  obtain⟨hl,st⟩:=st
  have hg:x.cps.size≤i:=hg
  obtain⟨f0,f1,f2,f3,f4,f5⟩:=hf it (by simp)
  exact wpAny_pyNext_ascii_end (I.ok.hd hc) st (by simp;omega) fun h' eb=>⟨rfl,I.turned (t':=s.toks) (fun b o hb e=>eb b o hb e) f0 f1 f3 f4 f5⟩
 self:=fun _ _ _ _ _ st h=>wpAny_pyIter_striter_ascii st.2 h
theorem Af3{P:Program}{w:World}{K:PySem.W.Frag}{tg:Expr}(it:Addr)(x:Str)(t:Tok):Turn P w K tg (Its x) [it] it (fun i h=>i≤x.cps.size∧h.IsStrIter it "str_iterator" x t i) where
 mem:=by simp
 obj:=fun i h st b hb=>by
  have e:b=it:=by simpa using hb
  subst e
  obtain⟨_,o,e,c,d⟩:=st
  exact⟨o,e,fun v z=>by rw[d] at z;cases z⟩
 keep:=fun i h h' st k=>by
  obtain⟨hl,o,e,c,d⟩:=st
  exact⟨hl,o,k it (by simp) o e,c,d⟩
 item:=by
  intro X hP hw hK hc i pins s σ H E I hf st hg
  subst hP hw hK
  obtain⟨hl,st⟩:=st
  have hg:i<x.cps.size:=hg
  obtain⟨f0,f1,f2,f3,f4,f5⟩:=hf it (by simp)
  have hx:x.cps[i]?=some x.cps[i]:=by simp[hg]
  refine wpAny_pyNext_wide_item st hx fun h' st' sb=>?_
  have I1:Inv X pins σ H { s with heap:=h',toks:=s.toks+1 }:=I.turned (fun b o hb e=>(sb.2 b hb).trans e) f0 f1 f3 f4 f5
  obtain⟨o,e,c,d⟩:=id st'
  exact⟨_,rfl,AeL (s:={ s with heap:=h',toks:=s.toks+1 }) e c d (by decide) ⟨.str ⟨#[x.cps[i]]⟩,H,I1,⟨_,rfl⟩,⟨rfl,_,hx,rfl⟩,⟨hg,st'⟩,fun b hb=>(hf b hb).1⟩⟩
 done:=by
  intro X hP hw hK hc i pins s σ H E I hf st hg
  subst hP hw hK
  obtain⟨hl,st⟩:=st
  have hg:x.cps.size≤i:=hg
  obtain⟨f0,f1,f2,f3,f4,f5⟩:=hf it (by simp)
  exact wpAny_pyNext_wide_end (I.ok.hd hc) st (by simp;omega) fun h' eb=>⟨rfl,I.turned (t':=s.toks) (fun b o hb e=>eb b o hb e) f0 f1 f3 f4 f5⟩
 self:=fun _ _ _ _ _ st h=>wpAny_pyIter_striter_wide st.2 h
section
variable {X:Cx}{tg:Expr}
def An6 (tl:TE):TI:=fun σ H R=>tl σ H fun x H1=>∃ z,x=.str z∧R (Its z) H1
theorem Aev{l:Expr}{tl:TE}(hl:PE X l tl):PI X tg l (An6 tl):=by
 intro pins s σ H R I h
 refine thn (hl pins s σ H _ I h) fun v s1 ⟨x,H1,I1,r1,q1⟩=>?_
 obtain⟨z,e,q⟩:=q1
 subst e
 obtain⟨t,rfl⟩:=r1
 have fpn:∀ b∈[s1.heap.objs.size],O3 X pins H1 b:=fun b hb=>by
  have e:b=s1.heap.objs.size:=by simpa using hb
  subst e
  exact I1.Aim (Apv _) (I1.hok.fresh (Apv _))
 cases ha:z.cps.all (·<128)
 ·refine wpAny_pyIter_wide ha ?_
  exact⟨s1.heap.objs.size,[s1.heap.objs.size],_,_,H1,rfl,I1.kept (t':=s1.toks) fun b o e=>Heap.get?_push_of_some _ e,Af3 _ z t,⟨Ap7 _,_,Heap.get?_push_size _ rfl,rfl,rfl⟩,fpn,q⟩
 ·refine wpAny_pyIter_ascii ha ?_
  exact⟨s1.heap.objs.size,[s1.heap.objs.size],_,_,H1,rfl,I1.kept (t':=s1.toks) fun b o e=>Heap.get?_push_of_some _ e,Af2 _ z t,⟨Ap7 _,_,Heap.get?_push_size _ rfl,rfl,rfl⟩,fpn,q⟩
end
theorem AeR{z:Str}{g:TG}{tb:TS}{D:Ends}{σ:St}{H:Hp}(Pv:Nat→St→Hp→Prop)(h0:Pv 0 σ H)
  (hs:∀ i c σ H,z.cps[i]?=some c→Pv i σ H→g (.str ⟨#[c]⟩) σ H fun σ2 H2=>tb { D with nx:=Pv (i+1),ct:=Pv (i+1),bk:=D.nx } σ2 H2) (hd:∀ σ H,Pv z.cps.size σ H→D.nx σ H) :
  ∃ W:Nat→Nat→St→Hp→Prop,(∃ m,W 0 m σ H)∧∀ i m σ H,W i m σ H →
   ((Its z).stop i H∧D.nx σ H)∨((Its z).go i H∧∃ N:St→Hp→Prop,(∀ σ' H',N σ' H'→∃ m',m'<m∧W (i+1) m' σ' H')∧∀ x H',(Its z).yld i H x H'→g x σ H' fun σ2 H2=>tb { D with nx:=N,ct:=N,bk:=D.nx } σ2 H2):=by
 refine⟨fun i m σ H=>m=z.cps.size-i∧i≤z.cps.size∧Pv i σ H,⟨z.cps.size,by simp,Ap7 _,h0⟩,?_⟩
 rintro i m σ H ⟨rfl,hi,p⟩
 by_cases hlt:i<z.cps.size
 ·refine .inr ⟨hlt,Pv (i+1),fun σ' H' p'=>⟨z.cps.size-(i+1),by omega,rfl,hlt,p'⟩,fun x H' y=>?_⟩
  obtain⟨e,c,hc,rfl⟩:=y
  subst e
  exact hs i c σ _ hc p
 ·have e:i=z.cps.size:=by omega
  subst e
  exact .inl ⟨Apv _,hd σ H p⟩
def CN (n:Nat)(Pv:Nat→List V→Hp→Prop)(i:Nat)(ys:List V)(H:Hp):Prop:=∃ m',m'<n-i∧m'=n-(i+1)∧i+1≤n∧Pv (i+1) ys H
theorem CN.of{n:Nat}{Pv:Nat→List V→Hp→Prop}{i:Nat}{ys:List V}{H:Hp}(h:i<n)(p:Pv (i+1) ys H):CN n Pv i ys H:=⟨n-(i+1),by omega,rfl,h,p⟩
def Eo (n:Nat)(Pv:Nat→List V→Hp→Prop)(tc:TT)(te:TE)(σ:St)(i:Nat)(ys:List V)(H:Hp):Prop :=
 tc σ H fun b H2=>if b=true then te σ H2 fun y H3=>CN n Pv i (ys++[y]) H3 else CN n Pv i ys H2
theorem Eo.no{n:Nat}{Pv:Nat→List V→Hp→Prop}{te:TE}{σ:St}{i:Nat}{ys:List V}{H:Hp}(h:te σ H fun y H3=>CN n Pv i (ys++[y]) H3):Eo n Pv AcJ te σ i ys H:=by
 unfold Eo AcJ
 exact Ed h
theorem Hw{K:PySem.W.Frag}{a:Addr}{xs:List V}{Cg:List Nat}{tc:TT}{te:TE}{σ:St}{H:Hp}{Q:VK}(Pv:Nat→List V→Hp→Prop)(h0:Pv 0 [] H)(hl:∀ i ys H,i≤xs.length→Pv i ys H→SqL K H a xs∧ys.length≤i)
  (hz:xs.length≤sizeLine) (hs:∀ i x ys H,i<xs.length→xs[i]?=some x→Pv i ys H→Eo xs.length Pv tc te (some x::IK σ Cg) i ys H)
  (hd:∀ ys H p,Pv xs.length ys H→H p=none→Q (.ref p) (upd H p (.lst ys))):Xy Cg tc te (Itl K a) σ H Q:=by
 refine⟨fun i m ys H=>m=xs.length-i∧i≤xs.length∧Pv i ys H,⟨xs.length,by simp,Ap7 _,h0⟩,?_⟩
 rintro i m ys H ⟨rfl,hi,p⟩
 obtain⟨q,hy⟩:=hl i ys H hi p
 by_cases hlt:i<xs.length
 ·refine .inr ⟨⟨xs,xs[i],q,by simp[hlt]⟩,by omega,fun x H' y=>?_⟩
  obtain⟨e,y⟩:=y
  subst e
  exact hs i x ys _ hlt (y xs q) p
 ·have e:i=xs.length:=by omega
  subst e
  exact .inl ⟨⟨xs,q,Apv _⟩,by omega,fun p' hp=>hd ys H p' p hp⟩
theorem Dt{lo:Int}{n:Nat}{Cg:List Nat}{tc:TT}{te:TE}{σ:St}{H:Hp}{Q:VK}(Pv:Nat→List V→Hp→Prop)(h0:Pv 0 [] H)(hl:∀ i ys H,i≤n→Pv i ys H→ys.length≤i)
  (hz:n≤sizeLine) (hs:∀ i ys H,i<n→Pv i ys H→Eo n Pv tc te (some (.int (lo+i))::IK σ Cg) i ys H)
  (hd:∀ ys H p,Pv n ys H→H p=none→Q (.ref p) (upd H p (.lst ys))):Xy Cg tc te (Itr lo n) σ H Q:=by
 refine⟨fun i m ys H=>m=n-i∧i≤n∧Pv i ys H,⟨n,by simp,Ap7 _,h0⟩,?_⟩
 rintro i m ys H ⟨rfl,hi,p⟩
 have hy:=hl i ys H hi p
 by_cases hlt:i<n
 ·refine .inr ⟨hlt,by omega,fun x H' y=>?_⟩
  obtain⟨e,y⟩:=y
  subst e y
  exact hs i ys _ hlt p
 ·have e:i=n:=by omega
  subst e
  exact .inl ⟨Apv _,by omega,fun p' hp=>hd ys H p' p hp⟩
theorem Ag9{z:Str}{Cg:List Nat}{tc:TT}{te:TE}{σ:St}{H:Hp}{Q:VK}(Pv:Nat→List V→Hp→Prop)(h0:Pv 0 [] H)(hl:∀ i ys H,i≤z.cps.size→Pv i ys H→ys.length≤i)
  (hz:z.cps.size≤sizeLine) (hs:∀ i c ys H,i<z.cps.size→z.cps[i]?=some c→Pv i ys H→Eo z.cps.size Pv tc te (some (.str ⟨#[c]⟩)::IK σ Cg) i ys H)
  (hd:∀ ys H p,Pv z.cps.size ys H→H p=none→Q (.ref p) (upd H p (.lst ys))):Xy Cg tc te (Its z) σ H Q:=by
 refine⟨fun i m ys H=>m=z.cps.size-i∧i≤z.cps.size∧Pv i ys H,⟨z.cps.size,by simp,Ap7 _,h0⟩,?_⟩
 rintro i m ys H ⟨rfl,hi,p⟩
 have hy:=hl i ys H hi p
 by_cases hlt:i<z.cps.size
 ·refine .inr ⟨hlt,by omega,fun x H' y=>?_⟩
  obtain⟨e,c,hc,rfl⟩:=y
  subst e
  exact hs i c ys _ hlt hc p
 ·have e:i=z.cps.size:=by omega
  subst e
  exact .inl ⟨Apv _,by omega,fun p' hp=>hd ys H p' p hp⟩
theorem Aew{ys:List Str}:∀{us:List Value},Vals (ys.map V.str) us→StrsAre us ys:=by
 induction ys with
 | nil=>intro us r;rw[Aqk] at r;cases r;exact .nil
 | cons n ns ih =>
  intro us r
  rw[Ap5] at r
  cases r with
  | cons r1 r2 =>
   obtain⟨t,e⟩:=r1
   subst e
   exact .cons n t (ih r2)
def rJoin(K:PySem.W.Frag):V→List V→Hp→VK→Prop:=fun x vs H Q=>∃ z a ys,x=.str z∧vs=[.ref a]∧SqL K H a (ys.map V.str)∧(ys.map (·.length)).sum+ys.length*z.length≤16777216∧Q (.str (Txt.join z ys)) H
section
variable {X:Cx}
theorem Ai1:MtR X "str.join" (rJoin X.K):=by
 intro pins s σ H x vs v us Q I rx rv h
 obtain⟨z,a,ys,rfl,rfl,hq,hz,q⟩:=h
 obtain⟨t,rfl⟩:=rx
 obtain⟨u,rfl,ru⟩:=rv.one
 cases ru
 obtain⟨its,r,pl,hl⟩:=I.list hq
 exact join_list pl.isList (Aew (by simpa using r)) hz fun t' k=>⟨.str _,H,I.tok _,⟨_,rfl⟩,q⟩
def AlX (K:PySem.W.Frag):List V→Hp→VK→Prop:=fun vs H Q=>∃ x t b,Xx K H x t ∧
 ((∃ n,vs=[x,.ty n]∧PySem.W.kitOne K t (.type n)=some b)∨(∃ a,vs=[x,.ref a]∧PySem.W.kitOne K t (.ref a)=some b))∧Q (.bl b) H
theorem AgA:Hb X (.builtin "isinstance") (AlX X.K):=by
 intro pins s σ H xs us Q I rv h
 obtain⟨x,t,b,ty,hv,q⟩:=h
 rcases hv with ⟨n,rfl,e⟩ | ⟨a,rfl,e⟩
 ·obtain⟨u1,u2,rfl,r1,r2⟩:=rv.two
  cases r2
  exact AbV I r1 ty e fun tk=>⟨.bl b,H,I.tok _,rfl,q⟩
 ·obtain⟨u1,u2,rfl,r1,r2⟩:=rv.two
  cases r2
  exact AbV I r1 ty e fun tk=>⟨.bl b,H,I.tok _,rfl,q⟩
def eqL:List V→List V→Bool
 | [],[]=>true
 | x::xs,y::ys=>eqV x y && eqL xs ys
 | _,_=>false
theorem AgB{x:V}(h:JB x=true):eqV x x=true:=by
 cases x with
 | non=>rfl
 | bl b=>simp[eqV]
 | int i=>simp[eqV]
 | str z=>simp[eqV]
 | _=>exact absurd (show false=true from h) Ap4
theorem AeS:∀{xs ys:List V},xs.length≠ys.length→eqL xs ys=false
 | [],[],h=>absurd rfl h
 | [],_::_,_=>rfl
 | _::_,[],_=>rfl
 | x::xs,y::ys,h=>by
  rw[eqL,AeS (xs:=xs) (ys:=ys) (fun z=>h (by rw[Apz,Apz,z])),Aqt]
theorem Acd:∀{xs ys:List V},xs.length=ys.length→(List.range xs.length).all (fun j=>eqV (xs.getD j .non) (ys.getD j .non))=eqL xs ys
 | [],[],_=>rfl
 | [],_::_,h=>by simp at h
 | _::_,[],h=>by simp at h
 | x::xs,y::ys,h=>by
  have h':xs.length=ys.length:=by simpa using h
  rw[Apz,List.range_succ_eq_map,List.all_cons,List.all_map]
  rw[eqL,← Acd h']
  rfl
def AlY (K:PySem.W.Frag):R2:=fun x y H Q=>∃ p q xs ys,x=.ref p∧y=.ref q∧SqL K H p xs∧SqL K H q ys∧xs.all JB=true∧ys.all JB=true∧Q (.bl (eqL xs ys)) H
theorem Akf(hu:X.A.units<cLine):OpR X (compareOp .Eq) (AlY X.K):=by
 intro pins s σ H x y v u Q I rx ry h
 obtain⟨p,q,xs,ys,rfl,rfl,hx,hy,fx,fy,k⟩:=h
 cases rx
 cases ry
 obtain⟨its,r,pl,hz⟩:=I.list hx
 obtain⟨its2,r2,pl2,hz2⟩:=I.list hy
 have l1:=r.length
 have l2:=r2.length
 by_cases hl:xs.length=ys.length
 ·refine SeqAt.eq_listAt (e:=fun j=>eqV (xs.getD j .non) (ys.getD j .non)) pl.isList pl2.isList (by simp only [Ap1];omega) hu (fun j h1 h2=>?_) ?_
  ·have j1:j<xs.length:=by simp only [Ap1] at h1;omega
   have j2:j<ys.length:=by omega
   obtain⟨w1,e1,q1⟩:=r.get (i:=j) (x:=xs[j]) (by simp[j1])
   obtain⟨w2,e2,q2⟩:=r2.get (i:=j) (x:=ys[j]) (by simp[j2])
   have g1:its.toArray[j]=w1:=by
    have:its.toArray[j]?=some w1:=by simpa using e1
    exact Option.some.inj ((Array.getElem?_eq_getElem h1).symm.trans this)
   have g2:its2.toArray[j]=w2:=by
    have:its2.toArray[j]?=some w2:=by simpa using e2
    exact Option.some.inj ((Array.getElem?_eq_getElem h2).symm.trans this)
   rw[g1,g2]
   have d1:xs.getD j .non=xs[j]:=by simp[List.getD,j1]
   have d2:ys.getD j .non=ys[j]:=by simp[List.getD,j2]
   show SeqAt.EqAt _ _ _ _ (eqV (xs.getD j .non) (ys.getD j .non))
   rw[d1,d2]
   exact Aer q1 q2 (List.all_eq_true.mp fx _ (ApR j1)) (List.all_eq_true.mp fy _ (ApR j2))
  ·refine⟨.bl (eqL xs ys),H,I,?_,k⟩
   show Value.bool _=Value.bool _
   rw[Ap1,← l1,Acd hl]
 ·refine SeqAt.eq_list_lengthsAt pl.isList pl2.isList (by simp only [Ap1,bne_iff_ne];omega) hu ?_
  exact⟨.bl (eqL xs ys),H,I,by rw[AeS hl];rfl,k⟩
end
open PySem
def tx (l:List Nat):Str:=⟨l.toArray⟩
theorem BK(l:List Nat):(tx l).length=l.length:=by simp[tx,Str.length]
theorem Eg(l:List Nat):(tx l).cps.toList=l:=by simp[tx]
theorem AgC(l:List Nat)(i:Nat):(tx l).cps[i]?=l[i]?:=by simp[tx]
theorem Hx(a b:List Nat):tx a++tx b=tx (a++b):=by
 show Str.append (tx a) (tx b)=_
 simp[tx,Str.append]
theorem Ld{a b:List Nat}(h:tx a=tx b):a=b:=by
 have:=congrArg (fun z:Str=>z.cps.toList) h
 simpa [tx] using this
theorem AgD(c:Nat):(⟨#[c]⟩:Str)=tx [c]:=rfl
end L2
namespace PySem
open Sem (wp)
open Builtin Builtin.Str Builtin.Int
namespace RV
end RV
def AoZ (x:Str)(t:Tok)(i:Int):Obj:={ cls:=.type "reversed", data:=.fields #[.str x t,rawInt i] }
def Heap.Akg(h:Heap)(a:Addr)(x:Str)(t:Tok)(i:Int):Prop:=∃ o,h.get? a=some o∧o.cls=.type "reversed" ∧ o.data=.fields #[.str x t,rawInt i]
section
variable {prog:Program}{w:World}{A:Around}{E:Value→Shared→Prop}{s:Shared}
end
end PySem
namespace L2
open PySem PySem.Spec PyProof.Rows
def Apa (p:Addr)(x:Str):HO:=.ext fun h=>∃ t,h.Akg p x t ((x.length:Int)-1)
def Apb (p:Addr):HO:=.ext fun h=>∃ o,h.get? p=some o
section
variable {X:Cx}
end
open PySem PySem.Spec PyProof.Rows
theorem Bq{c A B:Prop}[Decidable c](h:¬c)(k:B):if decide c=true then A else B:=by rw[decide_eq_false h];exact Ez k
theorem Eh{c A B:Prop}[Decidable c](h:c)(k:A):if decide c=true then A else B:=by rw[decide_eq_true h];exact Ed k
theorem AgE{c A B:Prop}[Decidable c](h:¬c)(k:A):if (!decide c)=true then A else B:=by rw[decide_eq_false h];exact Ed k
theorem An7{b:Bool}{A B:Prop}(h1:b=true→A)(h2:b=false→B):if b=true then A else B:=by
 cases b with
 | true=>exact Ed (h1 rfl)
 | false=>exact Ez (h2 rfl)
theorem Fe{c A B:Prop}[Decidable c](h1:c→A)(h2:¬c→B):if decide c=true then A else B:=by
 by_cases h:c
 ·exact Eh h (h1 h)
 ·exact Bq h (h2 h)
theorem Ax.upd{H:Hp}{p:Addr}{o:HO}(h:H p=none):Ax H (L2.upd H p o):=fun b o' e=>by rw[Ao (Bf e h)];exact e
theorem Ax.new{H H1:Hp}{p:Addr}{o:HO}(e:Ax H H1)(h:H1 p=none):Ax H (L2.upd H1 p o):=e.trans (.upd h)
theorem Ax.over{H H1:Hp}{p:Addr}{o:HO}(e:Ax H H1)(h:H p=none):Ax H (L2.upd H1 p o):=fun b o' q=>by rw[Ao (Bf q h)];exact e b o' q
theorem Dk:bootBuiltins "len" = some (.builtin "len"):=by decide +kernel
theorem Bb:bootBuiltins "isinstance" = some (.builtin "isinstance"):=by decide +kernel
theorem Akh:bootBuiltins "abs" = some (.builtin "abs"):=by decide +kernel
theorem Aki:bootBuiltins "sum" = some (.builtin "sum"):=by decide +kernel
theorem Aex:bootBuiltins "any" = some (.builtin "any"):=by decide +kernel
theorem AgF:bootBuiltins "all" = some (.builtin "all"):=by decide +kernel
theorem QW:bootBuiltins "list" = some (.type "list"):=by decide +kernel
theorem Akj:bootBuiltins "str" = some (.type "str"):=by decide +kernel
theorem Akk:bootBuiltins "int" = some (.type "int"):=by decide +kernel
theorem Aa7:bootBuiltins "tuple" = some (.type "tuple"):=by decide +kernel
theorem AcL:bootBuiltins "enumerate" = some (.type "enumerate"):=by decide +kernel
theorem Ad8:bootBuiltins "range" = some (.type "range"):=by decide +kernel
structure Df (K:PySem.W.Frag) (mg:Str→Option Value) (x:Str) (st:Stmt) (ps:List Str) (f:Addr) (fd:FuncData):Prop where
 F:Fun K x x st f fd
 m:mg x=some (.ref f)
 b:Binds K fd ps []
def vS (cl:List (List Nat)):List V:=cl.map fun t=>V.str (tx t)
def vI (ns:List Int):List V:=ns.map V.int
theorem JC(cl:List (List Nat)):(vS cl).length=cl.length:=by unfold vS;rw[Apx]
theorem Er(ns:List Int):(vI ns).length=ns.length:=by unfold vI;rw[Apx]
theorem Akl{cl:List (List Nat)}{i:Nat}{t:List Nat}(h:cl[i]?=some t):(vS cl)[i]?=some (.str (tx t)):=by unfold vS;rw[Ap8,h];rfl
theorem Aa8{ns:List Int}{i:Nat}{n:Int}(h:ns[i]?=some n):(vI ns)[i]?=some (.int n):=by unfold vI;rw[Ap8,h];rfl
theorem Aey{cl:List (List Nat)}{i:Nat}{v:V}(h:(vS cl)[i]?=some v):∃ t,cl[i]?=some t∧v=.str (tx t):=by
 unfold vS at h
 rw[Ap8] at h
 cases e:cl[i]? with
 | none=>rw[e] at h;cases h
 | some t=>rw[e] at h;exact⟨t,rfl,(Option.some.inj h).symm⟩
theorem AcM{ns:List Int}{i:Nat}{v:V}(h:(vI ns)[i]?=some v):∃ t,ns[i]?=some t∧v=.int t:=by
 unfold vI at h
 rw[Ap8] at h
 cases e:ns[i]? with
 | none=>rw[e] at h;cases h
 | some t=>rw[e] at h;exact⟨t,rfl,(Option.some.inj h).symm⟩
theorem Akm(cl:List (List Nat)):vS cl=(cl.map tx).map V.str:=by unfold vS;rw[Aqf];rfl
theorem AgG(ns:List Int)(n:Int):vI ns++[.int n]=vI (ns++[n]):=by unfold vI;rw[Ap2];rfl
theorem Akn(cl:List (List Nat))(t:List Nat):vS cl++[.str (tx t)]=vS (cl++[t]):=by unfold vS;rw[Ap2];rfl
theorem CJ{α:Type}{xs:List α}{i:Int}{v:α}(h0:0≤i)(h:xs[i.toNat]?=some v):atI xs i=some v:=by
 have e:i=(i.toNat:Int):=by omega
 rw[e]
 exact Ait h
open PySem PySem.Spec PyProof.Rows
section
variable {X:Cx}{K:PySem.W.Frag}{tg:Expr}
theorem CW(hK:X.K=K:=by rfl):IxR X (Aka K):=by subst hK;exact Aiv
theorem Du(hK:X.K=K:=by rfl):IxR X (Akb K):=by subst hK;exact Akc
theorem Ab6(hK:X.K=K:=by rfl):OpR X (compareOp .NotIn) (rIn K true):=by subst hK;exact AcG
theorem Gf(hu:X.A.units<cLine)(hK:X.K=K:=by rfl):OpR X (compareOp .Eq) (AlY K):=by subst hK;exact Akf hu
theorem BW(hK:X.K=K:=by rfl):Hb X (.builtin "len") (fun xs H Q=>∃ p ys,xs=[.ref p]∧(SqL K H p ys∨SqT K H p ys)∧Q (.int ys.length) H):=by subst hK;exact AcH
theorem HR(hK:X.K=K:=by rfl):Hb X (.type "list") (fun xs H Q=>∃ p ys,xs=[.ref p]∧(SqL K H p ys∨SqT K H p ys)∧∀ l,H l=none→Q (.ref l) (upd H l (.lst ys))):=by subst hK;exact AcI
theorem Xz(hK:X.K=K:=by rfl):Hb X (.builtin "isinstance") (AlX K):=by subst hK;exact AgA
theorem AgH(hK:X.K=K:=by rfl):MtR X "str.join" (rJoin K):=by subst hK;exact Ai1
theorem AgI(hK:X.K=K:=by rfl):SlR X (AlS K):=by subst hK;exact Aiw
theorem DN{l:Expr}{tl:TE}(hl:PE X l tl)(hK:X.K=K:=by rfl):PI X tg l (Aju K tl):=by subst hK;exact Ain hl
theorem Ace{a:Expr}{ta:TE}(ha:PE X a ta)(he:∀ whole,isTrue a X.env whole=(do let v ← whole;standAt a.pos;holding [v] (truthy v)))(hK:X.K=K:=by rfl) :
  PT X a (fun σ H Q=>ta σ H fun x H'=>∃ k,AjS K x H' k∧Q k H'):=by subst hK;exact Agu ha he
variable {o e:Expr}{es:List Expr}{to:TE}{t:TA}{name:Str}{apos cpos:Pos}{T id:String}{r:V→List V→Hp→VK→Prop}
theorem G8(pa:PlainAttrs T)(slot:Slot T name id)(hty:typeOf (.builtin id)=pure (.type "method_descriptor")) (hm:MtR X id r) (ho:PE X o to) (ha:PA X (e::es) t)
  (hbase:attributeBase o name X.env (eval o X.env)=eval o X.env:=by rfl)
  (hfew:((backTo cpos (starEach (e::es) X.env)).all (fun x=>!x.1) && (backToKw cpos (keywordEach [] X.env)).all (fun x=>x.1.isSome)
   && decide ((e::es).length+([]:List Keyword).length+(if ([]:List Keyword).isEmpty then 0 else 1)<30))=true:=by rfl)
  (hline:(apos.endLine == cpos.line)=true:=by rfl) (hs:starEach (e::es) X.env=(false,eval e X.env)::starEach es X.env:=by rfl) (hplain:(backTo cpos (starEach es X.env)).any (·.1)=false:=by rfl) (hK:X.K=K:=by rfl) :
  PE X (.Call (.Attribute o name apos) (e::es) [] cpos) (tBM K T r to t):=by
 subst hK
 exact AlT pa slot hty hm ho ha hbase hfew hline hs hplain
end
open PySem PySem.Spec PyProof.Rows
abbrev exO (C t:Addr) (tb:Value):Obj:={ cls:=.ref C,data:=.fields #[.ref t,tb,.none,.none,.bool false,.none] }
structure Fx (B:Heap) (l:List Env) (e C t:Addr) (fl:Value) (h:Heap):Prop where
 st:B.StaysIn h
 ne:B.get? e=none
 fr:h.FunFrames B l
 ob:∃(T:Addr) (oT:Obj) (ts:Array Value),h.get? e=some (exO C t (.ref T))∧B.get? T=none∧T≠e∧h.get? T=some oT∧oT.data=.fields ts∧ts[3]?=some fl
theorem Fx.outer{B:Heap}{env:Env}{l:List Env}{e C t:Addr}{fl:Value}{h:Heap}(x:Fx B (env::l) e C t fl h):Fx B l e C t fl h:=⟨x.st,x.ne,x.fr.2.2,x.ob⟩
section
variable {M:Model}{A:Around}{E:Value→Shared→Prop}{s:Shared}{B:Heap}{env:Env}{l:List Env}{e C t L:Addr}
theorem AcN{fl:Value}{Q:Unit→Shared→Prop}(x:Fx B l e C t fl s.heap)(k:∀ h',Fx B l e C t .none h'→s.heap.UpToSlots h'→Q () { s with heap:=h' }):wpAny M A (setFlight (.ref e) none) Q E s:=by
 obtain⟨st,ne,fr,T,oT,ts,hE,hBT,hTe,hT,hdT,h3⟩:=x
 have h3s:3<ts.size:=(Array.getElem?_eq_some_iff.mp h3).1
 unfold setFlight
 refine wpAny_bind (wpAny_field hE rfl (x:=.ref T) rfl ?_)
 rw[if_pos (show(Value.ref T != Value.none)=true by simp)]
 refine wpAny_setField hT hdT h3s (k _ ?_ ?_)
 all_goals
  have oth:∀ b,b≠T→(s.heap.update T (Obj.mapFields (·.setIfInBounds 3 ((none:Option Addr).elim Value.none fun f=>rawInt f)))).get? b=s.heap.get? b:=fun b hb=>Heap.get?_update_other _ _ (Ne.symm hb)
  have Aa9:∀ b o,s.heap.get? b=some o→(∀ vs,o.data≠.fields vs)→b≠T:=fun b o hb hn q=>by
   rw[q,hT] at hb
   cases hb
   exact hn ts hdT
 ·refine⟨fun b o hb=>(oth b fun q=>by rw[q,hBT] at hb;cases hb).trans (st b o hb),ne,fr.of_keeps fun b o hb hn=>⟨o,(oth b (Aa9 b o hb hn)).trans hb,rfl⟩,T,_,_,(oth e (Ne.symm hTe)).trans hE,hBT,hTe,
   Heap.get?_update_self _ hT (Obj.isFreed_of_fields (Obj.data_mapFields hdT _)),Obj.data_mapFields hdT _,?_⟩
  simp[h3s]
 ·exact fun b o hb hn=>⟨o.slots,(oth b (Aa9 b o hb hn)).trans hb⟩
theorem Ad9{tb:Value}{had:Bool}{Q:Unit→Shared→Prop}(hfr:A.frames=some (env::l))(hf:env.frame=some L)(st:B.StaysIn s.heap)(ne:B.get? e=none)(fr:s.heap.FunFrames B (env::l))
  (hE:s.heap.get? e=some (exO C t tb)) (k:∀ h',Fx B (env::l) e C t (rawInt L) h'→s.heap.UpToSlots h'→Q () { s with heap:=h' }) :
  wpAny M A (do let a ← frameOf env;let pl ← entryPlaceOf L had;let b ← EntryCells.newEntry tb a .none (rawInt L) .none pl;setField (.ref e) 1 b) Q E s:=by
 have eF:e∉(env::l).filterMap (·.frame):=fun hm=>by
  obtain⟨_,o,ho,hn⟩:=fr.mem hm
  rw[hE] at ho
  cases ho
  exact hn _ rfl
 refine wpAny_bind (wpAny_frameOf_fun hfr fr hf fun h1 so=>wpAny_bind (wpAny_entryPlaceOf fun pl hpl=>?_))
 unfold EntryCells.newEntry newFields
 refine wpAny_bind (wpAny_newObj_type ?_ (hpl.sizeOk5 _ _ _ _ _))
 have E1:h1.get? e=some (exO C t tb):=(so.2.1 e eF).trans hE
 have st1:B.StaysIn h1:=fun b o hb=>(so.2.1 b fun hm=>by rw[(fr.mem hm).1] at hb;cases hb).trans (st b o hb)
 have TE:h1.objs.size≠e:=Aqs (Heap.lt_size E1)
 generalize hN:({ cls:=.type "traceback", dict:=none,data:=.fields ([tb,.ref L,.none,rawInt L,.none]++(if pl.isEmpty then List.replicate 6 Value.none else pl)).toArray }:Obj)=nT
 have E2:(h1.push nT).get? e=some (exO C t tb):=Heap.get?_push_of_some nT E1
 refine wpAny_setField (s:={ s with heap:=h1.push nT }) E2 rfl (by show 1<6;decide) (k _ ?_ ?_)
 all_goals
  have kp:∀ b o,b≠e→h1.get? b=some o→((h1.push nT).update e (Obj.mapFields (·.setIfInBounds 1 (Value.ref h1.objs.size)))).get? b=some o:=fun b o hb q =>
   (Heap.get?_update_other _ _ (Ne.symm hb)).trans (Heap.get?_push_of_some nT q)
  have Aa9:∀ b o,s.heap.get? b=some o→(∀ vs,o.data≠.fields vs)→b≠e:=fun b o hb hn q=>by
   rw[q,hE] at hb
   cases hb
   exact hn _ rfl
 ·have freed:nT.isFreed=false:=by rw[← hN];rfl
  refine⟨fun b o hb=>kp b o (fun q=>by rw[q,ne] at hb;cases hb) (st1 b o hb),ne,fr.of_keeps fun b o hb hn=>?_,h1.objs.size,nT,_,Heap.get?_update_self _ E2 rfl,st1.fresh,TE,
   (Heap.get?_update_other _ _ (Ne.symm TE)).trans (Heap.get?_push_size h1 freed),by rw[← hN],by simp⟩
  obtain⟨sl,q⟩:=so.2.2 b o hb
  exact⟨_,kp b _ (Aa9 b o hb hn) q,rfl⟩
 ·intro b o hb hn
  obtain⟨sl,q⟩:=so.2.2 b o hb
  exact⟨sl,kp b _ (Aa9 b o hb hn) q⟩
theorem AgJ{Q:Unit→Shared→Prop}(hfr:A.frames=some (env::l))(hf:env.frame=some L)(st:B.StaysIn s.heap)(ne:B.get? e=none)(fr:s.heap.FunFrames B (env::l))
  (hE:s.heap.get? e=some (exO C t .none)) (k:∀ h',Fx B (env::l) e C t (rawInt L) h'→s.heap.UpToSlots h'→Q () { s with heap:=h' }):wpAny M A (noteFrame (.ref e) env) Q E s:=by
 unfold noteFrame
 simp only [hf]
 refine wpAny_bind (wpAny_field hE rfl (x:=.none) rfl ?_)
 rw[if_neg (by decide)]
 exact Ad9 hfr hf st ne fr hE k
theorem Ai2{Q:Unit→Shared→Prop}(hfr:A.frames=some (env::l))(hf:env.frame=some L)(x:Fx B (env::l) e C t .none s.heap)
  (k:∀ h',Fx B (env::l) e C t (rawInt L) h'→s.heap.UpToSlots h'→Q () { s with heap:=h' }):wpAny M A (noteFrame (.ref e) env) Q E s:=by
 obtain⟨st,ne,fr,T,oT,ts,hE,hBT,hTe,hT,hdT,h3⟩:=x
 unfold noteFrame
 simp only [hf]
 refine wpAny_bind (wpAny_field hE rfl (x:=.ref T) rfl ?_)
 rw[if_pos (show(Value.ref T != Value.none)=true by simp)]
 refine wpAny_bind (wpAny_field hT hdT h3 ?_)
 rw[if_neg (show ¬((Value.none == rawInt L)=true) by simp[rawInt])]
 refine wpAny_bind (wpAny_setField hT hdT (Array.getElem?_eq_some_iff.mp h3).1 ?_)
 have oth:∀ b,b≠T→(s.heap.update T (Obj.mapFields (·.setIfInBounds 3 Value.none))).get? b=s.heap.get? b:=fun b hb=>Heap.get?_update_other _ _ (Ne.symm hb)
 have Aa9:∀ b o,s.heap.get? b=some o→(∀ vs,o.data≠.fields vs)→b≠T:=fun b o hb hn q=>by
  rw[q,hT] at hb
  cases hb
  exact hn ts hdT
 exact Ad9 (s:={ s with heap:=s.heap.update T (Obj.mapFields (·.setIfInBounds 3 Value.none)) }) hfr hf (fun b o hb=>(oth b fun q=>by rw[q,hBT] at hb;cases hb).trans (st b o hb)) ne
  (fr.of_keeps fun b o hb hn=>⟨o,(oth b (Aa9 b o hb hn)).trans hb,rfl⟩) ((oth e (Ne.symm hTe)).trans hE)
  fun h' y u=>k h' y fun b o hb hn=>u b o ((oth b (Aa9 b o hb hn)).trans hb) hn
end
open PySem PySem.Spec PyProof.Rows
section
variable {M:Model}{A:Around}{E:Value→Shared→Prop}{s:Shared}{B:Heap}{env:Env}{l:List Env}{e C t L:Addr}
theorem Acf{fl:Value}{f:Option Addr}{Q:Unit→Shared→Prop}(x:Fx B l e C t fl s.heap)(k:∀ h',Fx B l e C t (f.elim Value.none fun f=>rawInt f) h'→s.heap.UpToSlots h'→Q () { s with heap:=h' }):wpAny M A (setFlight (.ref e) f) Q E s:=by
 obtain⟨st,ne,fr,T,oT,ts,hE,hBT,hTe,hT,hdT,h3⟩:=x
 have h3s:3<ts.size:=(Array.getElem?_eq_some_iff.mp h3).1
 unfold setFlight
 refine wpAny_bind (wpAny_field hE rfl (x:=.ref T) rfl ?_)
 rw[if_pos (show(Value.ref T != Value.none)=true by simp)]
 refine wpAny_setField hT hdT h3s (k _ ?_ ?_)
 all_goals
  have oth:∀ b,b≠T→(s.heap.update T (Obj.mapFields (·.setIfInBounds 3 (f.elim Value.none fun f=>rawInt f)))).get? b=s.heap.get? b:=fun b hb=>Heap.get?_update_other _ _ (Ne.symm hb)
  have Aa9:∀ b o,s.heap.get? b=some o→(∀ vs,o.data≠.fields vs)→b≠T:=fun b o hb hn q=>by
   rw[q,hT] at hb
   cases hb
   exact hn ts hdT
 ·refine⟨fun b o hb=>(oth b fun q=>by rw[q,hBT] at hb;cases hb).trans (st b o hb),ne,fr.of_keeps fun b o hb hn=>⟨o,(oth b (Aa9 b o hb hn)).trans hb,rfl⟩,T,_,_,(oth e (Ne.symm hTe)).trans hE,hBT,hTe,
   Heap.get?_update_self _ hT (Obj.isFreed_of_fields (Obj.data_mapFields hdT _)),Obj.data_mapFields hdT _,?_⟩
  simp[h3s]
 ·exact fun b o hb hn=>⟨o.slots,(oth b (Aa9 b o hb hn)).trans hb⟩
theorem AgK{Q:Unit→Shared→Prop}(hf:env.frame=some L)(x:Fx B l e C t (rawInt L) s.heap)(k:Q () s):wpAny M A (noteFrame (.ref e) env) Q E s:=by
 obtain⟨st,ne,fr,T,oT,ts,hE,hBT,hTe,hT,hdT,h3⟩:=x
 unfold noteFrame
 simp only [hf]
 refine wpAny_bind (wpAny_field hE rfl (x:=.ref T) rfl ?_)
 rw[if_pos (show(Value.ref T != Value.none)=true by simp)]
 refine wpAny_bind (wpAny_field hT hdT h3 ?_)
 rw[if_pos (show((rawInt L == rawInt L)=true) by simp)]
 exact wpAny_pure k
end
structure Bk (P:Program) (w:World) (outer:List Env) (H:Hp) (h:Heap) (H':Hp) (B h':Heap):Prop where
 ok:HOk P w H' B
 keep:∀ b o,h.get? b=some o→H b=none→b∉frs outer→B.get? b=some o
 slot:∀ b o,h.get? b=some o→b∈frs outer→∃ sl,h'.get? b=some { o with slots:=sl }
 free:∀ b o,h.get? b=some o→H b=none→H' b=none
 there:∀ b o,h.get? b=some o→b∉frs outer→∃ o',B.get? b=some o'
 tups:∀ b xs,H b=some (.tup xs)→H' b=some (.tup xs)
 Iz:∀ b o u,H b=some (.frz o u)→H' b=some (.frz o u)
 J5:∀ b ps,H b=some (.tbl ps)→∃ more,H' b=some (.tbl (ps++more))
theorem Bk.slots{P:Program}{w:World}{outer:List Env}{H H':Hp}{h B h1 h2:Heap}(k:Bk P w outer H h H' B h1)(fr:h1.FunFrames B outer)(u:h1.UpToSlots h2):Bk P w outer H h H' B h2 :=
 ⟨k.ok,k.keep,fun b o q hb=>by
  obtain⟨sl,e⟩:=k.slot b o q hb
  obtain⟨_,o2,e2,n2⟩:=fr.mem hb
  rw[e] at e2
  cases e2
  obtain⟨sl2,e3⟩:=u b _ e n2
  exact⟨sl2,e3⟩,k.free,k.there,k.tups,k.Iz,k.J5⟩
def CX1 (P:Program)(w:World):CXT:=fun outer H s E e s'=>∃ ea C t H' B,e=.ref ea∧Fx B outer ea C t .none s'.heap∧s'.os=s.os∧AllBare s'.gens∧Bk P w outer H s.heap H' B s'.heap∧E (.ref C) none H'
inductive Fly (B:Heap) (l:List Env) (L ea C t:Addr) (h:Heap):Prop where
 | new (st:B.StaysIn h) (ne:B.get? ea=none) (fr:h.FunFrames B l) (ob:h.get? ea=some (exO C t .none))
 | came (x:Fx B l ea C t .none h)
 | seen (x:Fx B l ea C t (rawInt L) h)
theorem Fly.fr{B:Heap}{l:List Env}{L ea C t:Addr}{h:Heap}(x:Fly B l L ea C t h):h.FunFrames B l:=by
 cases x with
 | new st ne fr ob=>exact fr
 | came x=>exact x.fr
 | seen x=>exact x.fr
def FlX (X:Cx)(E:XK):Value→Shared→Prop:=fun e s'=>∃ ea C t H' B,e=.ref ea∧Fly B X.stack X.env.locals ea C t s'.heap∧s'.os=X.s₀.os∧AllBare s'.gens∧Bk X.prog X.w X.outer X.H₀ X.s₀.heap H' B s'.heap∧E (.ref C) none H'
structure Body (X:Cx):Prop where
 stack:X.stack=X.env::X.outer
 frame:X.env.frame=some X.env.locals
 ex:X.ex=[]
section
variable {X:Cx}{pins:List (Addr × Obj)}{σ:St}{H:Hp}{s s':Shared}{E:XK}{e:Value}
theorem Inv.Af4(I:Inv X pins σ H s){b:Addr}{o:Obj}(q:X.s₀.heap.get? b=some o)(hb:b∉X.fs):b∉frs X.stack:=fun hm=>by
 rcases List.mem_cons.mp (I.Ac9 b hm) with z | z
 ·rw[z] at q
  exact absurd (Ap0 (Heap.lt_size q) I.ok.above) (ApC _)
 ·exact hb z
theorem AlZ(hB:Body X)(I:Inv X pins σ H s)(c:CX1 X.prog X.w X.stack H s E e s'):FlX X E e s':=by
 obtain⟨ea,C,t,H',B,rfl,fx,os,bare,bk,q⟩:=c
 have nx:∀ b:Addr,b∉X.ex:=fun b z=>by rw[hB.ex] at z;exact nomatch z
 have fsS:∀ b,b∈X.fs→b∈frs X.stack:=fun b hb=>by
  rw[hB.stack];unfold frs;rw[ApU,hB.frame];exact Ap6 _ hb
 refine⟨ea,C,t,H',B,rfl,.came fx,os.trans I.os,bare,⟨bk.ok,fun b o e n hb=>?_,fun b o e hb=>?_,fun b o e n=>?_,fun b o e hb=>?_,fun b xs e=>bk.tups b xs (I.base.tups b xs e),fun b o u e=>bk.Iz b o u (I.base.Iz b o u e),fun b ps e=>?_⟩,q⟩
 ·exact bk.keep b o (I.base.keep b o e n hb (nx b)) (I.base.free b o e n (nx b)) (I.Af4 e hb)
 ·obtain⟨sl,e1⟩:=I.base.slot b o e (I.ok.frf b hb) hb (nx b)
  obtain⟨sl2,e2⟩:=bk.slot b _ e1 (fsS b hb)
  exact⟨sl2,e2⟩
 ·obtain⟨o',e1⟩:=I.base.there b o e (nx b)
  exact bk.free b o' e1 (I.base.free b o e n (nx b))
 ·obtain⟨o',e1⟩:=I.base.there b o e (nx b)
  exact bk.there b o' e1 (I.Af4 e hb)
 ·obtain⟨m1,e1⟩:=I.base.J5 b ps e
  obtain⟨m2,e2⟩:=bk.J5 b _ e1
  exact⟨m1++m2,by rw[e2,Array.append_assoc]⟩
theorem Ama{h':Heap}{ea C:Addr}{vs:List Value}(hB:Body X)(I:Inv X pins σ H s)(hx:Heap.MadeExcOf s.heap h' ea (.ref C) vs)(q:E (.ref C) none H):FlX X E (.ref ea) { s with heap:=h' }:=by
 obtain⟨t,ht,_,_⟩:=hx.there
 have nx:∀ b:Addr,b∉X.ex:=fun b z=>by rw[hB.ex] at z;exact nomatch z
 have nfr:∀ b u,H b=some u→b∉frs X.stack:=fun b u e hm=>by rw[I.Aam b hm] at e;cases e
 refine⟨ea,C,t,H,PySem.W.hideAll s.heap (frs X.stack),rfl,.new (fun b o e=>hx.keeps b o (PySem.W.of_hideAll _ e)) ?_ ?_ ht,I.os,I.bare,⟨fun b u e=>?_,fun b o e n hb=>?_,fun b o e hb=>?_,fun b o e n=>I.base.free b o e n (nx b),fun b o e hb=>?_,I.base.tups,I.base.Iz,I.base.J5⟩,q⟩
 ·cases z:(PySem.W.hideAll s.heap (frs X.stack)).get? ea with
  | none=>rfl
  | some o =>
   have:=PySem.W.of_hideAll _ z
   rw[hx.new] at this
   cases this
 ·exact(PySem.W.funFrames_hide I.stack fun env he a ha=>List.mem_filterMap.mpr ⟨env,he,ha⟩).of_keeps fun b o hb _=>⟨o,hx.keeps b o hb,rfl⟩
 ·refine(I.hok b u e).stay (fun c v hc z=>PySem.W.hideAll_get _ z ?_) (fun _ z=>z) fun _ _ z=>z
  rcases hc with z | z
  ·rw[z];exact nfr b u e
  ·exact nfr c _ z
 ·exact PySem.W.hideAll_get _ (I.base.keep b o e n hb (nx b)) (I.Af4 e hb)
 ·obtain⟨sl,e1⟩:=I.base.slot b o e (I.ok.frf b hb) hb (nx b)
  exact⟨sl,hx.keeps _ _ e1⟩
 ·obtain⟨o',e1⟩:=I.base.there b o e (nx b)
  exact⟨o',PySem.W.hideAll_get _ e1 (I.Af4 e hb)⟩
theorem AeT{M:Model}{Q:Unit→Shared→Prop}{E':Value→Shared→Prop}{B:Heap}{ea C t:Addr}(hB:Body X)(hfr:X.A.frames=some X.stack)(x:Fly B X.stack X.env.locals ea C t s.heap)
  (k:∀ h',Fx B X.stack ea C t (rawInt X.env.locals) h'→s.heap.UpToSlots h'→Q () { s with heap:=h' }):wpAny M X.A (noteFrame (.ref ea) X.env) Q E' s:=by
 rw[hB.stack] at x hfr k
 cases x with
 | new st ne fr ob=>exact AgJ hfr hB.frame st ne fr ob k
 | came x=>exact Ai2 hfr hB.frame x k
 | seen x=>exact AgK hB.frame x (k s.heap x (.refl _))
theorem Aao(hB:Body X){B h:Heap}(x:h.FunFrames B X.stack):h.FunFrames B X.outer:=by
 rw[hB.stack] at x
 exact x.2.2
theorem leaveX{M:Model}{E':Value→Shared→Prop}(hB:Body X)(hfr:X.A.frames=some X.stack)(c:FlX X E e s):wpAny M X.A (leaving X.env e) (fun _ s''=>CX1 X.prog X.w X.outer X.H₀ X.s₀ E e s'') E' s:=by
 obtain⟨ea,C,t,H',B,rfl,fx,os,bare,bk,q⟩:=c
 unfold leaving
 refine wpAny_bind (AeT hB hfr fx fun h1 x1 u1=>AcN (s:={ s with heap:=h1 }) x1 fun h2 x2 u2=>?_)
 have x3:=x2
 rw[hB.stack] at x3
 exact⟨ea,C,t,H',B,rfl,x3.outer,os,bare,bk.slots (Aao hB fx.fr) (u1.trans u2),q⟩
theorem AaA(hB:Body X)(hfr:X.A.frames=some X.stack):PassesOwn (model X.prog X.w) X.A X.env (FlX X E):=by
 rintro e s ⟨ea,C,t,H',B,rfl,fx,os,bare,bk,q⟩
 unfold notedBy
 refine AeT hB hfr fx fun h1 x1 u1=>?_
 obtain⟨T,oT,ts,hE,_⟩:=x1.ob
 unfold cameBackBy
 refine wpAny_bind (wpAny_field (s:={ s with heap:=h1 }) hE rfl (x:=.ref T) rfl ?_)
 rw[if_neg (by simp)]
 refine Acf (s:={ s with heap:=h1 }) (f:=X.env.frame) x1 fun h2 x2 u2=>?_
 rw[hB.frame] at x2
 exact⟨ea,C,t,H',B,rfl,.seen x2,os,bare,bk.slots (Aao hB fx.fr) (u1.trans u2),q⟩
end
open PySem PySem.Spec PyProof.Rows
def AdA (K:PySem.W.Frag)(C:Addr):List Value:=match K.lookup C with
 | some ⟨_,_,.cls cd,_⟩=>cd.mro
 | _=>[]
theorem AcO{K:PySem.W.Frag}{h:Heap}{C:Addr}{bmB:List Value}{nid:String}(X:K.In h)(q:PySem.W.excIn K C bmB nid=true) :
  ∃ bm N nm qn bs hdct sn sub ab col dd k0 k1 k2 k3 k5 mN,AdA K C=.ref C::bm∧h.get? C=some (excClassObj nm qn C N bs bm hdct sn sub ab col dd k0 k1 k2 k3 k5 nid)∧h.Ns N mN∧mN "__init__" = none∧OwnTail h bmB bm:=by
 unfold PySem.W.excIn at q
 split at q
 next dd cd sl ho =>
  split at q
  next C' bm k0 k1 k2 k3 n k5 hm hs =>
   have hM:AdA K C=cd.mro:=by unfold AdA;rw[ho]
   simp only [Aqa,beq_iff_eq,Bool.not_eq_true'] at q
   obtain⟨⟨⟨⟨⟨q1,q2⟩,hdel⟩,ht⟩,hok⟩,hni⟩:=q
   subst q1 q2
   have hsl:sl=#[k0,k1,k2,k3,some (.builtin n),k5]:=by rw[← hs]
   rw[hm] at hM
   cases cd
   dsimp only at hm hdel hok hni
   subst hm hdel hsl
   exact⟨bm,_,_,_,_,_,_,_,_,_,dd,k0,k1,k2,k3,k5,_,hM,X _ _ ho,.of_isNs (PySem.W.isNs_of_in X hok),PySem.W.nsMap_none_of_in X hok hni,PySem.W.tail_of_in X ht⟩
  next=>cases q
 next=>cases q
def Ako (C:Addr)(E:XK)(t:TA):TS:=fun _ σ H=>t σ H fun vs H1=>vs.length≤sizeLine∧E (.ref C) none H1
section
variable {X:Cx}{x:Str}{C:Addr}{bmB bmN:List Value}{B Bn nid An8 iid An9:String}{E:XK}{e:Expr}{es:List Expr}{t:TA}{np cpos pos:Pos}
theorem Bx(hB:Body X)(hc:X.calm=true)(hw:∀ e s',FlX X E e s'→X.xe e s')(Fn:ExcBaseFacts Bn nid iid bmN)(hn:bmB.contains (.type Bn)=true)(FB:ExcBaseFacts B An8 An9 bmB)(q:PySem.W.excIn X.K C bmB nid=true)(hg:Gl X x)(hm:X.mg x=some (.ref C))(ha:PA X.nox (e::es) t)
  (hd:(x == ("__debug__" : Str))=false:=by decide) (he:starEach (e::es) X.env=(false,eval e X.env)::starEach es X.env:=by rfl) (hpl:(backTo cpos (starEach es X.env)).any (·.1)=false:=by rfl) :
  PS X (.Raise (some (.Call (.Name x np) (e::es) [] cpos)) none pos) (Ako C E t):=by
 intro pins s σ H D I h
 obtain⟨bm,N,nm,qn,bs,hdct,sn,sub,ab,col,dd,k0,k1,k2,k3,k5,mN,_,hC,hN,hni,T⟩:=AcO I.ok.mod.kin q
 refine wpAny_Raise_call_subU (N:=N) (C:=C) (k5:=k5) (k3:=k3) (k2:=k2) (k1:=k1) (k0:=k0) (dd:=dd) (col:=col) (ab:=ab) (sub:=sub) (sn:=sn) (hdct:=hdct) (bs:=bs) (q:=qn) (nm:=nm) (newId:=nid) Fn hn FB (mN:=mN) (T.hasType FB.hasBase) (I.ok.hd hc) (by rw[he];show(false || (backTo cpos (starEach es X.env)).any (·.1))=false;rw[hpl];rfl) hni (QT I hg hm ⟨rfl,?_⟩ hd)
 have h1:=ha cpos pins s σ H _ (I.wish _) h
 rw[he] at h1 ⊢
 refine Calls.evalArgs_plain (wpAny_mono h1 (fun us s2 z=>?_) fun _ _ z=>z.elim)
 obtain⟨vs,H1,I1,r,hl,hE⟩:=z
 have I2:Inv X pins σ H1 s2:=I1.GX
 exact⟨rfl,by rw[← r.length];exact hl,I2.bk _ _ hC,hN.keeps I2.bk,T.keeps I2.bk,fun h' ea hx=>hw _ _ (Ama hB I2 hx hE)⟩
end
abbrev cx1 (P:Program) (w:World) (K:PySem.W.Frag) (mg:Str→Option Value) (base:Heap) (N:List Str) (qual:Str) (scope:Scope) (f:Addr) (cd:Value) (A:Around) (outer:List Env) (s:Shared) (H:Hp) (E:XK):Cx :=
 (AcC (CX1 P w) P w K mg base N qual scope f cd A outer s H E).wish (FlX (AcC (CX1 P w) P w K mg base N qual scope f cd A outer s H E) E)
section
variable {P:Program}{w:World}{K:PySem.W.Frag}{mg:Str→Option Value}{base:Heap}
theorem Cm{N:List Str}{qual:Str}{scope:Scope}{f:Addr}{cd:Value}{A:Around}{outer:List Env}{s:Shared}{H:Hp}{E:XK}:Body (cx1 P w K mg base N qual scope f cd A outer s H E):=⟨rfl,rfl,rfl⟩
theorem Fun.okX{x qual:Str}{st:Stmt}{f:Addr}{fd:FuncData}{N ps:List Str}{k:Nat}{sp:Sp}(F:Fun K x qual st f fd)(S:Aq N ps (Ah st))(len:∀ vs H Q E,sp vs H Q E→vs.length=ps.length)
  (hbody:∀(cdv:Value) (A:Around) (outer:List Env) (s:Shared) (H:Hp) (vs:List V) (Q:VK) (E:XK),FJ k (A.deeper (envOfC qual (Ah st) s.heap.objs.size f cdv))→sp vs H Q E →
   ∃ t,PSs (cx1 P w K mg base N qual (Ah st) f cdv A outer s H E) (Jr st) t∧t { nx:=fun _ H'=>Q .non H',rt:=Q } (start N vs) H):Be P w K mg base (CX1 P w) (k+1) f fd ps sp:=by
 obtain⟨oc,od,kV,doc,pm,an,cdv,ct,osl,rfl,lk,hcd⟩:=F.ex
 refine Ajy lk hcd S len fun A outer s H vs Q E hr hsp=>?_
 obtain⟨t,h,q⟩:=hbody cdv A outer s H vs Q E hr hsp
 refine⟨t,fun pins s1 σ H1 D I h1=>?_,q⟩
 exact wpAny_mono (h pins s1 σ H1 D (I.wish _) h1) (fun _ _ z=>z.GX) fun e s' z=>leaveX (X:=AcC (CX1 P w) P w K mg base N qual (Ah st) f cdv A outer s H E) ⟨rfl,rfl,rfl⟩ I.ok.frames z
theorem BZ{N:List Str}{qual:Str}{scope:Scope}{f:Addr}{cd:Value}{A:Around}{outer:List Env}{s:Shared}{H:Hp}{E:XK} :
  Passes (CX1 P w) (cx1 P w K mg base N qual scope f cd A outer s H E) E:=fun _ _ _ _ _ _ I c=>AlZ ⟨rfl,rfl,rfl⟩ I.GX c
end
theorem PS.nox{X:Cx}{st:Stmt}{t:TS}(h:PS X.nox st t):PS X st t:=fun pins s σ H D I hw =>
 wpAny_mono (h pins s σ H D (I.wish _) hw) (fun _ _ q=>q.GX) fun _ _ z=>False.elim z
def PEX (X:Cx)(e:Expr)(t:XK→TE):Prop:=∀(pins:List (Addr × Obj)) (s:Shared) (σ:St) (H:Hp) (Q:VK) (E:XK),Inv X pins σ H s→t E σ H Q →
 wpAny (model X.prog X.w) X.A (eval e X.env) (EP X pins σ Q) (fun ex s'=>∃ H1 s1,Inv X pins σ H1 s1∧CX1 X.prog X.w X.stack H1 s1 E ex s') s
section
variable {X:Cx}{k:Nat}{f C:Addr}{fd:FuncData}{ps:List Str}{sp:Sp}{dvs:List V}{ds:List Value}{x m:Str}{p pos apos:Pos}{e o:Expr}{es:List Expr}{ta:TE}{t:TA}
theorem Ai3{pins:List (Addr × Obj)}{σ:St}{H:Hp}{s:Shared}{Q:VK}{E:XK}{us:List Value}{vs:List V}(F:Be X.prog X.w X.K X.mg X.base (CX1 X.prog X.w) k f fd ps sp)(hr:FJ k X.A)(hb:Binds X.K fd ps ds)(hd:Vals dvs ds)
  (I:Inv X pins σ H s) (r:Vals vs us) (h:sp (vs++dvs) H Q E):wpAny (model X.prog X.w) X.A (call (.ref f) us) (EP X pins σ Q) (fun ex s'=>∃ H1 s1,Inv X pins σ H1 s1∧CX1 X.prog X.w X.stack H1 s1 E ex s') s:=by
 have r2:Vals (vs++dvs) (us++ds):=r.append hd
 have hl:(us++ds).length=ps.length:=(r2.length.symm).trans (F.len _ _ _ _ h)
 refine wpAny_call (codeAny_mono (F.run X.A X.stack s H ⟨us,[]⟩ (us++ds) (vs++dvs) Q E hr I.env0 (hb s us I.kIn hl) r2 h) fun rs s' hq=>?_)
 match rs,hq with
 | .error e,hq=>exact⟨H,s,I,hq⟩
 | .ok (.ret u),hq=>exact I.after hq
 | .ok .next,hq=>exact False.elim hq
 | .ok .brk,hq=>exact False.elim hq
 | .ok .cont,hq=>exact False.elim hq
theorem AgL(F:Be X.prog X.w X.K X.mg X.base (CX1 X.prog X.w) k f fd ps sp)(hr:FJ k X.A)(hg:Gl X x)(hm:X.mg x=some (.ref f))(hk:PySem.W.keepIn X.K (.ref f)=true)(hb:Binds X.K fd ps ds)(hd:Vals dvs ds)
  (ha:PA X.nox (e::es) t) (hdb:(x == ("__debug__" : Str))=false:=by decide) (he:starEach (e::es) X.env=(false,eval e X.env)::starEach es X.env:=by rfl) (hpl:(backTo pos (starEach es X.env)).any (·.1)=false:=by rfl) :
  PEX X (.Call (.Name x p) (e::es) [] pos) fun E=>Ajw sp dvs E t:=by
 intro pins s σ H Q E I h
 refine wpAny_Call_Name_kw (QT I hg hm ?_ hdb)
 refine PySem.W.callWith_K (h₀:=X.base) I.ok.mod.kin hk (wpAny_mono (ha pos pins s σ H _ (I.wish _) h) (fun us s1 ⟨vs,H1,I1,r,q⟩=>⟨I1.kIn,?_⟩) fun _ _ z=>z.elim) he hpl
 exact Ai3 F hr hb hd (I1.GX) r q
end
open PySem PySem.Spec PyProof.Rows
def exH (C a:Addr):HO:=.ext fun h=>∃ t tb,h.get? a=some (exO C t tb)
theorem Fy.get{P:Program}{w:World}{H:Hp}{h:Heap}{a:Addr}{o:HO}(x:Fy P w H h a o):∃ u,h.get? a=some u:=by
 induction o with
 | lst xs=>obtain⟨_,_,_,_,e⟩:=x;exact⟨_,e⟩
 | tup xs=>obtain⟨_,_,_,_,e,_⟩:=x;exact⟨_,e⟩
 | dK kvs=>obtain⟨_,_,_,_,_,_,_,e,_⟩:=x;exact⟨_,e⟩
 | dT kvs=>obtain⟨_,_,_,_,_,_,_,e,_⟩:=x;exact⟨_,e⟩
 | set S n=>obtain⟨_,_,_,_,e,_⟩:=x;exact⟨_,e⟩
 | ins C dx fs=>obtain⟨_,_,_,e,_⟩:=x;exact⟨_,e⟩
 | own y=>obtain⟨_,e⟩:=x;exact⟨_,e⟩
 | xd fs=>obtain⟨_,⟨_,_,_,e,_⟩,_⟩:=x;exact⟨_,e⟩
 | rng lo hi=>obtain⟨_,_,_,e⟩:=x;exact⟨_,e⟩
 | frz ob u ih=>obtain⟨e,_⟩:=x;exact⟨_,e⟩
 | tbl ps=>exact⟨_,x⟩
 | met f y=>exact⟨_,x⟩
 | ext φ=>exact x.2.1
section
variable {X:Cx}{pins:List (Addr × Obj)}{σ:St}{H H':Hp}{s s':Shared}{B h2:Heap}{ea C t:Addr}{fl:Value}
theorem Bk.none{P:Program}{w:World}{outer:List Env}{h h':Heap}(k:Bk P w outer H h H' B h')(ne:B.get? ea=Option.none):H' ea=Option.none:=by
 cases q:H' ea with
 | none=>rfl
 | some o =>
  obtain⟨u,e⟩:=(k.ok ea o q).get
  rw[ne] at e
  cases e
theorem AeU(I:Inv X pins σ H s)(os:s'.os=s.os)(bare:AllBare s'.gens)(bk:Bk X.prog X.w X.stack H s.heap H' B h2)(fx:Fx B X.stack ea C t fl h2) :
  Inv X pins σ (upd H' ea (exH C ea)) { s' with heap:=h2 }:=by
 have hn:=bk.none fx.ne
 obtain⟨T,oT,ts,hE,_⟩:=fx.ob
 have ne:∀ b o,s.heap.get? b=some o→b≠ea:=fun b o e z=>by
  by_cases hb:b∈frs X.stack
  ·obtain⟨_,o2,e2,n2⟩:=fx.fr.mem hb
   rw[z,hE] at e2
   cases e2
   exact n2 _ rfl
  ·obtain⟨o',e1⟩:=bk.there b o e hb
   rw[z,fx.ne] at e1
   cases e1
 have nt:∀ b u,H' b=some u→b≠ea:=fun b u e z=>by
  rw[z,hn] at e
  cases e
 obtain⟨hh,g,d,tk,os'⟩:=s'
 obtain rfl:os'=s.os:=os
 refine I.call (s:=s) (h':=h2) (g':=g) (d':=d) (t':=tk) (ch:=[]) ⟨fun b o e n hb _=>fx.st _ _ (bk.keep b o e n hb),fun b o e n hb _=>bk.slot b o e hb,fun b o e n _=>?_,fun b o e _=>?_,fun b xs e=>?_,fun b o u e=>?_,fun b ps e=>?_⟩ (fun b u e=>?_) bare (fun b z=>nomatch z)
 ·rw[Ao (ne b o e)]
  exact bk.free b o e n
 ·by_cases hb:b∈frs X.stack
  ·obtain⟨sl,e1⟩:=bk.slot b o e hb
   exact⟨_,e1⟩
  ·obtain⟨o',e1⟩:=bk.there b o e hb
   exact⟨o',fx.st _ _ e1⟩
 ·have e1:=bk.tups b xs e
  rw[Ao (nt _ _ e1)]
  exact e1
 ·have e1:=bk.Iz b o u e
  rw[Ao (nt _ _ e1)]
  exact e1
 ·obtain⟨m1,e1⟩:=bk.J5 b ps e
  exact⟨m1,by rw[Ao (nt _ _ e1)];exact e1⟩
 ·by_cases hb:b=ea
  ·subst hb
   rw[Ae] at e
   cases e
   exact⟨⟨t,_,hE⟩,⟨_,hE⟩,fun h1 h3 ⟨t',tb',q⟩ k=>⟨t',tb',k _ q⟩⟩
  ·rw[Ao hb] at e
   refine(bk.ok b u e).stay (fun c v _ q=>fx.st _ _ q) (fun c q=>?_) fun c xs q=>?_
   ·rw[Ao (nt _ _ q)];exact q
   ·rw[Ao (nt _ _ q)];exact q
abbrev Cx.hdl (X:Cx) (e:Addr):Cx:={ X with A:=X.A.mark (some (.ref e)),calm:=false,xe:=fun _ _=>False }
theorem Inv.hdl(I:Inv X pins σ H s)(e:Addr):Inv (X.hdl e) pins σ H s :=
 ⟨⟨I.ok.mod,I.ok.kind,I.ok.glob,I.ok.blt,I.ok.above,I.ok.inj,I.ok.has,I.ok.cab,(fun z=>nomatch z),I.ok.frames,I.ok.stk,I.ok.exf,I.ok.bs,I.ok.bsz,I.ok.Adx,I.ok.Ac8,I.ok.Tr,I.ok.frf⟩,I.os,I.bare,I.base,I.loc,I.cell,I.free,I.Km,I.pin,I.hok,I.len⟩
theorem Inv.Amb{e:Addr}(hd:X.calm=true→X.A.handled=none)(I:Inv (X.hdl e) pins σ H s):Inv X pins σ H s :=
 ⟨⟨I.ok.mod,I.ok.kind,I.ok.glob,I.ok.blt,I.ok.above,I.ok.inj,I.ok.has,I.ok.cab,hd,I.ok.frames,I.ok.stk,I.ok.exf,I.ok.bs,I.ok.bsz,I.ok.Adx,I.ok.Ac8,I.ok.Tr,I.ok.frf⟩,I.os,I.bare,I.base,I.loc,I.cell,I.free,I.Km,I.pin,I.hok,I.len⟩
theorem Inv.forget{n:Str}{j:Nat}{m:Str→Option Value}{v:Option Value}{tk:Nat}{h':Heap}(I:Inv X pins σ H s)(hN:X.N.Nodup)(hj:X.N[j]?=some n)(hn:s.heap.Ns X.env.locals m)
  (hm:∀(i:Nat) (x:Str) (v:V),X.N[i]?=some x→σ[i]?=some (some v)→Vis X.env.scope x→∃ u,RelV v u∧Look X.env s.heap m x u) (hn':h'.Ns X.env.locals (fun x=>if x=n then v else m x)) (hs:Heap.SameBut X.env.locals s.heap h') :
  Inv X pins (σ.set j none) H { s with heap:=h',toks:=tk }:=by
 obtain⟨oL,_,_,hoL,_⟩:=id hn
 have neL:∀ b o,X.s₀.heap.get? b=some o→b≠X.env.locals:=fun b o e=>Ap3 (Ap0 (Heap.lt_size e) I.ok.above)
 refine⟨I.ok,I.os,I.bare,⟨fun b o e n hb hx=>?_,fun b o e n hb hx=>?_,I.base.free,fun b o e hx=>?_,I.base.tups,I.base.Iz,I.base.J5⟩,⟨_,hn',fun i y w e1 e2 e3=>?_⟩,fun y c e=>?_,I.free,I.Km,fun p hp=>?_,fun b u e=>?_,by rw[List.length_set];exact I.len⟩
 ·exact(hs.2 b (neL b o e)).trans (I.base.keep b o e n hb hx)
 ·obtain⟨sl,e1⟩:=I.base.slot b o e n hb hx
  exact⟨sl,(hs.2 b (neL b o e)).trans e1⟩
 ·obtain⟨o',e1⟩:=I.base.there b o e hx
  exact⟨o',(hs.2 b (neL b o e)).trans e1⟩
 ·by_cases hij:i=j
  ·subst hij
   rw[List.getElem?_set] at e2
   split at e2
   ·split at e2 <;> cases e2
   ·exact absurd rfl ‹_›
  ·rw[Aq0 (Ne.symm hij)] at e2
   obtain⟨u,r,l⟩:=hm i y w e1 e2 e3
   refine⟨u,r,?_⟩
   rcases l with ⟨k,z⟩ | ⟨k,c,z,y'⟩
   ·have:y≠n:=fun q=>hij (Aav hN e1 (q▸hj))
    exact .inl ⟨k,by simp[this,z]⟩
   ·exact .inr ⟨k,c,z,y'.sameBut hs (I.cne y c z)⟩
 ·obtain⟨v',z⟩:=I.cell y c e
  exact⟨v',z.sameBut hs (I.cne y c e)⟩
 ·obtain⟨e,n1,n2,nf,d⟩:=I.pin p hp
  exact⟨(hs.2 p.1 n2).trans e,n1,n2,nf,d⟩
 ·refine(I.hok b u e).stay (fun c w' hc q=>(hs.2 c ?_).trans q) (fun _ q=>q) fun _ _ q=>q
  rintro rfl
  rcases hc with z | z
  ·rw[← z,I.free] at e;cases e
  ·rw[I.free] at z;cases z
end
open PySem PySem.Spec PyProof.Rows
section
variable {M:Model}{A:Around}{E:Value→Shared→Prop}{h:Heap}{g:Array GenState}{d:Drawn}{t:Nat}{os:OsState}
theorem AdB{K:PySem.W.Frag}{C D e:Addr}{bC bD:List Value}{nC nD:String}{oe:Obj}{Q:Bool→Shared→Prop}(X:K.In h)(qC:PySem.W.excIn K C bC nC=true)(qD:PySem.W.excIn K D bD nD=true)
  (hb:bD.contains (.type "BaseException")=true) (he:h.get? e=some oe) (hc:oe.cls=.ref C) (hq:Q ((AdA K C).contains (.ref D)) ⟨h,g,d,t,os⟩):wpAny M A (excMatches (.ref e) (.ref D)) Q E ⟨h,g,d,t,os⟩:=by
 obtain⟨bm1,_,_,_,_,_,_,_,_,_,_,_,_,_,_,_,_,e1,hC,_,_,T1⟩:=AcO X qC
 obtain⟨bm2,_,_,_,_,_,_,_,_,_,_,_,_,_,_,_,_,_,hD,_,_,T2⟩:=AcO X qD
 have hcB:(Value.ref D::bm2).contains (.type "BaseException")=true:=by rw[List.contains_cons,T2.hasType hb,Bool.or_true]
 have f:=tc_notTuple
 rw[e1] at hq
 unfold excMatches
 repeat (first | (with_reducible refine wpAny_loadPart_at he ?_;rw[hc]) | with_reducible refine wpAny_loadPart_at hD ?_ | (with_reducible refine wpAny_isSubtype_exc hD ?_;rw[hcB]) | with_reducible refine wpAny_isSubtype_exc hC ?_ | wp_step)
 all_goals (revert hq;cases (Value.ref C::bm1).contains (Value.ref D) <;> intro hq)
 all_goals (repeat (first | exact hq | wp_step))
end
abbrev WX (X:Cx) (pins:List (Addr × Obj)) (σ:St) (E:XK):Value→Shared→Prop:=fun ex s'=>∃ H1 s1,Inv X pins σ H1 s1∧CX1 X.prog X.w X.stack H1 s1 E ex s'
def PSX (X:Cx)(st:Stmt)(t:XK→TS):Prop:=∀(pins:List (Addr × Obj)) (s:Shared) (σ:St) (H:Hp) (D:Ends) (E:XK),Inv X pins σ H s→t E D σ H→wpAny (model X.prog X.w) X.A (exec st X.env) (SP X pins D) (WX X pins σ E) s
def Ai4 (X:Cx)(st:List Stmt)(t:XK→TS):Prop:=∀(pins:List (Addr × Obj)) (s:Shared) (σ:St) (H:Hp) (D:Ends) (E:XK),Inv X pins σ H s→t E D σ H→wpAny (model X.prog X.w) X.A (execs st X.env) (SP X pins D) (WX X pins σ E) s
section
variable {X:Cx}{e:Expr}{t u:XK→TS}{te:XK→TE}{pos:Pos}{st:Stmt}
theorem AgM(h:PSX X st t):Ai4 X [st] t:=by
 intro pins s σ H D E I h1
 refine wpAny_execs_cons (thn (h pins s σ H D E I h1) fun f s1 q=>?_)
 match f,q with
 | .next,q=>exact wpAny_execs_nil q
 | .brk,q=>exact q
 | .cont,q=>exact q
 | .ret u,q=>exact q
theorem AgN(he:PEX X e te)(hs:swapsWith e none pos.line X.env=pure false:=by rfl):PSX X (.Expr e pos) fun E=>Ajt (te E):=by
 intro pins s σ H D E I h
 exact wpAny_Expr_any (thn (he pins s σ H _ E I h) fun v s1 ⟨x,H1,I1,r1,q1⟩=>⟨σ,H1,I1,q1⟩) I.quiet hs
abbrev Ends.un (D:Ends) (j:Nat):Ends:={ nx:=fun σ H=>D.nx (σ.set j none) H,rt:=D.rt,bk:=fun σ H=>D.bk (σ.set j none) H,ct:=fun σ H=>D.ct (σ.set j none) H }
def Sub (K:PySem.W.Frag)(C D:Addr):Prop:=(∃ bm nid,PySem.W.excIn K C bm nid=true)∧(AdA K C).contains (.ref D)=true
def AnA (K:PySem.W.Frag)(Ch:Addr)(j:Nat)(t:XK→TS)(ts:TS):TS:=fun D σ H=>t (fun c _ H'=>∃ C,c=.ref C∧Sub K C Ch∧∀ ea,H' ea=none→ts (D.un j) (σ.set j (some (.ref ea))) (upd H' ea (exH C ea))) D σ H
theorem Akp{body suite:List Stmt}{b₀:Stmt}{ts:TS}{n x:Str}{j:Nat}{Ch:Addr}{bmB:List Value}{nid:String}{np hpos:Pos}(hB:Body X)(hc:X.calm=true)(hb:Ai4 X body t)(hN:X.N.Nodup)(hj:X.N[j]?=some n)
  (hn:X.env.scope.names.lookup n=some .local) (hg:Gl X x) (hm:X.mg x=some (.ref Ch)) (hq:PySem.W.excIn X.K Ch bmB nid=true) (hbs:bmB.contains (.type "BaseException")=true) (hs:∀ ea,PSs (X.hdl ea) (b₀::suite) ts)
  (hd:(x == ("__debug__" : Str))=false:=by decide) :
  PS X (.Try body [.ExceptHandler (some (.Name x np)) (some n) (b₀::suite) hpos] [] [] pos) (AnA X.K Ch j t ts):=by
 intro pins s σ H D I h
 refine wpAny_Try_except (wpAny_mono (hb pins s σ H D _ I h) (fun f s1 q=>?_) fun ex s1 z=>?_)
 ·match f,q with
  | .next,q=>exact wpAny_execs_nil q
  | .brk,q=>exact q
  | .cont,q=>exact q
  | .ret u,q=>exact q
 ·obtain⟨H1,s0,I0,ea,C,t0,H',B,rfl,fx,os,bare,bk,C',eC,⟨⟨bC,nC,qC⟩,sub⟩,ht⟩:=z
  obtain rfl:C=C':=by cases eC;rfl
  refine AeT hB I.ok.frames (.came fx) fun h1 x1 u1=>AcN (s:={ s1 with heap:=h1 }) x1 fun h2 x2 u2=>?_
  have bk2:=(bk.slots fx.fr u1).slots x1.fr u2
  have I2:Inv X pins σ (upd H' ea (exH C ea)) { s1 with heap:=h2 }:=AeU I0 os bare bk2 x2
  refine wpAny_handleBy_cons (codeAny_handlers_test (QT (X:=X.hdl ea) (I2.hdl ea) hg hm ?_ hd)) (by intro q;cases q)
  obtain⟨T,oT,tt,hE,_⟩:=x2.ob
  refine AdB I2.kIn qC hq hbs hE rfl ?_
  rw[sub]
  refine codeAny_handlers_suite_as ?_
  refine AcN (s:={ s1 with heap:=h2 }) x2 fun h3 x3 u3=>?_
  have I3:Inv X pins σ (upd H' ea (exH C ea)) { s1 with heap:=h3 }:=AeU I0 os bare (bk2.slots x2.fr u3) x3
  refine Vd (X:=X.hdl ea) (I3.hdl ea) hN hj (.inl hn) (v:=.ref ea) rfl (fun s4 I4=>?_) (.inr hn)
  refine wpAny_mono (hs ea pins s4 _ _ _ I4 (ht ea (bk.none fx.ne))) (fun f s5 q=>?_) fun _ _ z=>z.elim
  have go:∀{σ':St} {H5:Hp} {Q:Unit→Shared→Prop},Inv (X.hdl ea) pins σ' H5 s5→(∀ s6,Inv X pins (σ'.set j none) H5 s6→Q () s6)→wpAny (model X.prog X.w) X.A (do bindName X.env n .none;unbindBehindTheSuite X.env n hpos) Q X.xe s5:=fun {σ' H5 Q} J k=>by
   have J':Inv X pins σ' H5 s5:=J.Amb I.ok.hd
   obtain⟨m,hns,hl⟩:=id J'.loc
   refine wpAny_nameGoes_keeps hn hns (by rw[I.ok.kind];rfl) fun h6 v hn6 hs6=>k _ ?_
   exact J'.forget hN hj hns hl hn6 hs6
  match f,q with
  | .next,⟨σ',H5,J,q⟩=>exact go J fun s6 J6=>⟨_,H5,J6,q⟩
  | .brk,⟨σ',H5,J,q⟩=>exact go J fun s6 J6=>⟨_,H5,J6,q⟩
  | .cont,⟨σ',H5,J,q⟩=>exact go J fun s6 J6=>⟨_,H5,J6,q⟩
  | .ret u,⟨v,σ',H5,J,r,q⟩=>exact go J fun s6 J6=>⟨v,_,H5,J6,r,q⟩
end
open PySem PySem.Spec PyProof.Rows
structure ExC (K:PySem.W.Frag) (C:Addr):Prop where
 ga:PySem.W.findIn K (.ref C) "__getattribute__" = some (some (.builtin "BaseException.__getattribute__"))
 gt:PySem.W.findIn K (.ref C) "__getattr__" = some none
 cl:PySem.W.findIn K (.ref C) "__class__" = some (some (.builtin "object.__class__"))
 gc:PySem.W.specialIn K (.builtin "object.__class__") "__get__" = some (some (.builtin "getset_descriptor.__get__"))
 tk:PySem.W.takesIn K (.builtin "object.__class__")=some true
 ob:PySem.W.mroIn K C (.type "object")=some true
 be:PySem.W.mroIn K C (.type "BaseException")=some true
 is:(PySem.W.clsIn K C).isSome=true
theorem Af5:(Manifest.canonical "BaseException.__getattribute__" != "object.__getattribute__")=false:=by decide +kernel
section
variable {prog:Program}{w:World}{A:Around}{E:Value→Shared→Prop}{s:Shared}{K:PySem.W.Frag}{x C t:Addr}{tb:Value}
theorem AcP{h:Heap}(hx:h.get? x=some (exO C t tb)):PySem.W.InstAt h x (exO C t tb) C none:=⟨hx,rfl,rfl,True.intro⟩
theorem Ai5{m:Str}{f:Addr}{pl:Sem Bool}{Q:Value × List Value→Shared→Prop}(X:K.In s.heap)(hx:s.heap.get? x=some (exO C t tb))(c:ExC K C)(hf:PySem.W.findIn K (.ref C) m=some (some (.ref f)))
  (ht:PySem.W.isFn K (.ref f)=true) (h:Q (.ref f,[.ref x]) s):wpAny (model prog w) A (getMethod (.ref x) m pl) Q E s:=by
 have I:=AcP hx
 have hty:PySem.W.typeIn K (.ref f)=some (.type "function"):=beq_iff_eq.mp ht
 unfold getMethod specialOf
 refine wpAny_bind (wpAny_bind (I.type.here ((PySem.W.looks_findIn X c.ga).here ?_)))
 dsimp only
 rw[Af5,if_neg Ap4]
 refine wpAny_bind (wpAny_bind (I.type.here ((PySem.W.looks_findIn X c.gt).here ?_)))
 refine wpAny_bind (wpAny_bind (I.type.here ((PySem.W.looks_findIn X hf).here (wpAny_bind ((PySem.W.looks_typeIn X hty).here ?_)))))
 rw[if_neg (by decide +kernel)]
 refine wpAny_bind (wpAny_loadPart hx ?_)
 exact wpAny_bind (wpAny_rule (wpAny_pure h))
theorem AgO{Q:Option Value→Shared→Prop}(X:K.In s.heap)(hx:s.heap.get? x=some (exO C t tb))(c:ExC K C)(h:Q (some (.ref C)) { s with toks:=s.toks+1 }):wpAny (model prog w) A (getAttr? (.ref x) "__class__") Q E s:=by
 have I:=AcP hx
 obtain⟨hh,g,d,tk,os⟩:=s
 have L0:PySem.W.Looks (model prog w) hh (typeOf (.ref x)) (.ref C):=I.type
 have L1:=PySem.W.looks_findIn (M:=model prog w) X c.ga
 have L2:=PySem.W.looks_findIn (M:=model prog w) X c.gt
 have hfo:PySem.W.findObj K C none "__class__" = some (.bind (.builtin "getset_descriptor.__get__") (.builtin "object.__class__")):=by
  obtain⟨cd,hc⟩:=Option.isSome_iff_exists.mp c.is
  unfold PySem.W.findObj
  rw[hc,Aq1,c.cl,Aq1]
  simp[c.gc,c.tk]
 have L3:=PySem.W.looks_find (M:=model prog w) X I hfo
 have L4:PySem.W.Looks (model prog w) hh (isInstance (.ref x) (.type "BaseException")) true:=L0.andThen (PySem.W.looks_mroIn X c.be)
 have f3:=F.excAttr_ValueError.ga.bind (.ref x)
 unfold getAttr? getAttrBy? getAttrBy
 refine wpAny_bind (wpAny_mkText (wpAny_bind (wpAny_attempt (wpAny_holding (wpAny_bind (L0.at (wpAny_bind (L1.at ?_))))))))
 show wpAny _ _ (getAttrByItsOwn _ _ _ _ _ _) _ _ _
 unfold getAttrByItsOwn hookBefore
 rw[if_pos (show onTheHeap (Value.ref C)=true from rfl)]
 refine wpAny_bind (L2.at (wpAny_bind (wpAny_attempt (wpAny_holding ?_))))
 unfold callGetattribute
 rw[if_neg (show ¬((false && onTheHeap (Value.builtin "BaseException.__getattribute__"))=true) by simp)]
 unfold boundAndCalled
 rw[f3]
 refine wpAny_bind (wpAny_pure (wpAny_call (codeAny_call_builtin F.excAttr_ValueError.ga.plain F.entry_bexc_ga ?_)))
 have hk:builtinKind "BaseException.__getattribute__" = some .slot:=by decide +kernel
 have hsp:splitId "BaseException.__getattribute__" = some ("BaseException", "__getattribute__"):=by decide +kernel
 have ha:=F.args_bexc_ga (.ref x) (.str "__class__" tk)
 simp only [checkBuiltinCall,hk,hsp]
 refine wpAny_bind (L4.at ?_)
 repeat (first | (with_reducible refine wpAny_bind (L0.at (wpAny_bind (L3.at ?_)))) | wp_step)
 refine PySem.W.class_get (s:=⟨hh,g,d,tk+1,os⟩) (ox:=exO C t tb) (od:=none) X I c.ob ?_
 exact wpAny_pure (PySem.W.handed_on rfl (wpAny_pure h))
theorem AdC(c:ExC K C):PySem.W.KitX K (.ref x) (.ref C) (fun h=>∃ t tb,h.get? x=some (exO C t tb)) where
 ty:=fun M h _ ⟨t,tb,e⟩=>(AcP e).type
 it:=fun M h X _=>by
  obtain⟨cd,hc⟩:=Option.isSome_iff_exists.mp c.is
  unfold PySem.W.clsIn at hc
  split at hc
  next ho =>
   intro A' Q' E' s' k q
   unfold isType loadHead
   exact wpAny_bind (wpAny_loadPart (k _ _ (X _ _ ho)) (wpAny_pure q))
  next=>cases hc
 ne:=fun h tp dd its n sl X htp=>by
  obtain⟨cd,hc⟩:=Option.isSome_iff_exists.mp c.is
  refine Bool.eq_false_iff.mpr fun q=>?_
  have e:C=tp:=Value.ref.inj (beq_iff_eq.mp q)
  subst e
  unfold PySem.W.clsIn at hc
  split at hc
  next ho=>cases (X _ _ ho).symm.trans htp
  next=>cases hc
 ca:=fun X ⟨t,tb,e⟩ k=>AgO X e c k
end
def AnB (K:PySem.W.Frag):List V→Hp→VK→Prop:=fun vs H Q=>∃ a C b,H a=some (exH C a)∧ExC K C ∧
 ((∃ n,vs=[.ref a,.ty n]∧PySem.W.kitOne K (.ref C) (.type n)=some b)∨(∃ D,vs=[.ref a,.ref D]∧PySem.W.kitOne K (.ref C) (.ref D)=some b))∧Q (.bl b) H
section
variable {X:Cx}{K:PySem.W.Frag}
theorem AgP{pins:List (Addr × Obj)}{σ:St}{H:Hp}{s:Shared}{a C:Addr}(I:Inv X pins σ H s)(e:H a=some (exH C a)):∃ t tb,s.heap.get? a=some (exO C t tb):=(I.hok a _ e).1
theorem Cu(hK:X.K=K:=by rfl):Hb X (.builtin "isinstance") (AnB K):=by
 subst hK
 intro pins s σ H xs us Q I rv h
 obtain⟨a,C,b,ea,c,hv,q⟩:=h
 rcases hv with ⟨n,rfl,e⟩ | ⟨D,rfl,e⟩
 ·obtain⟨u1,u2,rfl,r1,r2⟩:=rv.two
  cases r1
  cases r2
  exact PySem.W.kia_one (AdC c) I.kIn (AgP I ea) e (fun z=>nomatch z) fun tk=>⟨.bl b,H,I.tok _,rfl,q⟩
 ·obtain⟨u1,u2,rfl,r1,r2⟩:=rv.two
  cases r1
  cases r2
  exact PySem.W.kia_one (AdC c) I.kIn (AgP I ea) e (fun z=>nomatch z) fun tk=>⟨.bl b,H,I.tok _,rfl,q⟩
variable {CX:CXT}{k:Nat}{ps:List Str}{sp:Addr→Sp}{E:XK}{m:Str}{pos apos:Pos}{o:Expr}{ta:TE}
def AnC (K:PySem.W.Frag)(m:Str)(sp:Addr→Sp)(E:XK)(ta:TE):TE:=fun σ H Q=>ta σ H fun x H1=>∃ a C,x=.ref a∧H1 a=some (exH C a)∧sp C [x] H1 Q E
end
open PySem PySem.Spec PyProof.Rows
abbrev vE:List Value:=[.type "ValueError", .type "Exception", .type "BaseException", .type "object"]
abbrev vN:String := "ValueError.__new__"
structure Exn (K:PySem.W.Frag) (C:Addr):Prop where
 q:PySem.W.excIn K C vE vN=true
 c:ExC K C
 ty:PySem.W.typeIn K (.ref C)=some (.type "type")
 ve:PySem.W.mroIn K C (.type "ValueError")=some true
theorem Akq{K:PySem.W.Frag}{C:Addr}(q:PySem.W.excIn K C vE vN=true)(ga:PySem.W.findIn K (.ref C) "__getattribute__" = some (some (.builtin "BaseException.__getattribute__"))) (gt:PySem.W.findIn K (.ref C) "__getattr__" = some none)
  (cl:PySem.W.findIn K (.ref C) "__class__" = some (some (.builtin "object.__class__"))) (gc:PySem.W.specialIn K (.builtin "object.__class__") "__get__" = some (some (.builtin "getset_descriptor.__get__"))) (tk:PySem.W.takesIn K (.builtin "object.__class__")=some true)
  (ob:PySem.W.mroIn K C (.type "object")=some true) (be:PySem.W.mroIn K C (.type "BaseException")=some true) (is:PySem.W.isClsIn K C=true) (ty:PySem.W.typeIn K (.ref C)=some (.type "type")) (ve:PySem.W.mroIn K C (.type "ValueError")=some true):Exn K C :=
 ⟨q,⟨ga,gt,cl,gc,tk,ob,be,is⟩,ty,ve⟩
theorem AgQ:vE.contains (.type "BaseException")=true:=by decide
theorem Ck:vE.contains (.type "ValueError")=true:=by decide
theorem Exn.sub{K:PySem.W.Frag}{C D:Addr}(x:Exn K C)(r:PySem.W.mroIn K C (.ref D)=some true):Sub K C D:=by
 refine⟨⟨_,_,x.q⟩,?_⟩
 obtain⟨cd,h1,h2⟩:=Option.bind_eq_some_iff.mp r
 unfold PySem.W.clsIn at h1
 unfold AdA
 split at h1
 next c d cd' sl ho =>
  cases h1
  rw[ho]
  split at h2
  ·cases h2
  ·exact Option.some.inj h2
 next=>cases h1
theorem Gg{K:PySem.W.Frag}{C D:Addr}{b:Bool}(hC:PySem.W.mroIn K C (.ref C)=some true)(x:Exn K D)(r:PySem.W.mroIn K C (.ref D)=some b):PySem.W.kitOne K (.ref C) (.ref D)=some b:=by
 unfold PySem.W.kitOne
 by_cases q:(Value.ref C == Value.ref D)=true
 ·rw[if_pos q]
  have e:C=D:=Value.ref.inj (beq_iff_eq.mp q)
  subst e
  rw[hC] at r
  exact r
 ·rw[if_neg q]
  unfold PySem.W.kitCls
  have h:((PySem.W.clsIn K D).isSome && PySem.W.typeIn K (.ref D) == some (.type "type"))=true:=by rw[x.c.is,x.ty];rfl
  show(if _ then _ else _)=_
  rw[if_pos h]
  exact r
theorem Hy{K:PySem.W.Frag}{C:Addr}(x:Exn K C):PySem.W.kitOne K (.ref C) (.type "ValueError")=some true:=by
 unfold PySem.W.kitOne
 rw[if_neg (by simp)]
 unfold PySem.W.kitCls
 show(if _ then _ else _)=_
 rw[if_pos (by decide +kernel)]
 exact x.ve
section
variable {X:Cx}{CX:CXT}{k:Nat}{C f:Addr}{fd:FuncData}{ps:List Str}{sp:Sp}{E:XK}{m:Str}{pos apos:Pos}{o:Expr}{ta:TE}
def Akr (C:Addr)(sp:Sp)(E:XK)(ta:TE):TE:=fun σ H Q=>ta σ H fun x H1=>∃ a,x=.ref a∧H1 a=some (exH C a)∧sp [x] H1 Q E
theorem Es{pl:Sem Bool}(he:PE X o ta)(c:ExC X.K C)(hm:Meth X.K C m f)(F:Be X.prog X.w X.K X.mg X.base CX k f fd ps sp)(hr:FJ k X.A)(hb:Binds X.K fd ps [])(hx:Passes CX X E)
  (ht:eval (.Call (.Attribute o m apos) [] [] pos) X.env=(do
   let ov ← eval o X.env
   standAt apos.atName
   let (f,first) ← holding [ov] (getMethod ov m pl)
   callWith pos f first (backTo pos (starEach [] X.env)) (backToKw pos (keywordEach [] X.env))):=by rfl) :
  PE X (.Call (.Attribute o m apos) [] [] pos) (Akr C sp E ta):=by
 intro pins s σ H Q I h
 refine PySem.W.methodCall_KW (pl:=pl) (thn (he pins s σ H _ I h) fun u s1 ⟨x,H1,I1,rx,a,ex,ea,q⟩=>?_) ht
 subst ex
 obtain rfl:u=Value.ref a:=rx
 obtain⟨t,tb,e1⟩:=AgP I1 ea
 refine Ai5 I1.kIn e1 c hm.at_ hm.fn ?_
 exact PySem.W.callWith_K0 (first:=[.ref a]) I1.kIn hm.kp (OJ (us:=[.ref a]) (vs:=[.ref a]) (dvs:=[]) F hr hb .nil hx I1 (.cons rfl .nil) q)
end
def Cy (s:Stmt):List Stmt:=match s with
 | .ClassDef _ _ _ b _ _ _ _ _ _ _=>b
 | _=>[]
structure Mf (K:PySem.W.Frag) (x q:Str) (st:Stmt) (ps:List Str) (C f:Addr) (fd:FuncData):Prop where
 F:Fun K x q st f fd
 m:Meth K C x f
 b:Binds K fd ps []
theorem CK:bootBuiltins "ValueError" = some (.type "ValueError"):=by decide +kernel
open PySem PySem.Spec PyProof.Rows
section
variable {X:Cx}{t:XK→TS}{pos:Pos}
def Aop (K:PySem.W.Frag)(Ch:Addr)(t:XK→TS)(ts:TS):TS:=fun D σ H=>t (fun c _ H'=>∃ C,c=.ref C∧Sub K C Ch∧∀ ea,H' ea=none→ts D σ (upd H' ea (exH C ea))) D σ H
end
open PySem PySem.Spec PyProof.Rows
section
variable {X:Cx}{t:XK→TS}{pos:Pos}
def pick(K:PySem.W.Frag)(C:Addr):List (Addr × TS)→TS
 | []=>fun _ _ _=>False
 | (Ch,ts)::l=>fun D σ H=>((AdA K C).contains (.ref Ch)=true∧ts D σ H)∨((AdA K C).contains (.ref Ch)=false∧pick K C l D σ H)
def Aoq (K:PySem.W.Frag)(l:List (Addr × TS))(t:XK→TS):TS:=fun D σ H=>t (fun c _ H'=>∃ C,c=.ref C∧(∃ bm nid,PySem.W.excIn K C bm nid=true)∧∀ ea,H' ea=none→pick K C l D σ (upd H' ea (exH C ea))) D σ H
inductive HL (X:Cx):List ExceptHandler→List (Addr × TS)→Prop
 | nil:HL X [] []
 | cons {suite:List Stmt} {b₀:Stmt} {ts:TS} {x:Str} {Ch:Addr} {bmB:List Value} {nid:String} {np hpos:Pos} {hs:List ExceptHandler} {l:List (Addr × TS)}
   (hg:Gl X x) (hm:X.mg x=some (.ref Ch)) (hq:PySem.W.excIn X.K Ch bmB nid=true) (hbs:bmB.contains (.type "BaseException")=true) (hs':∀ ea,PSs (X.hdl ea) (b₀::suite) ts) (hd:(x == ("__debug__" : Str))=false) (r:HL X hs l) :
   HL X (.ExceptHandler (some (.Name x np)) none (b₀::suite) hpos::hs) ((Ch,ts)::l)
end
open PySem PySem.Spec PyProof.Rows
open Builtin Builtin.Str
def Vj (u:List Nat)(lo hi:Option Int):List Nat:=(u.drop (HT.sIx u.length 0 lo)).take (HT.sIx u.length u.length hi-HT.sIx u.length 0 lo)
theorem Aks(a b:Nat):sliceRange (a:Int) (b:Int) 1=(List.range (b-a)).map fun k=>a+k:=by
 unfold sliceRange
 simp only [show(1:Int)>0 by decide,if_true]
 by_cases h:(a:Int)<(b:Int)
 ·rw[if_pos h,Int.ediv_one,show(b:Int)-(a:Int)+1-1=((b-a:Nat):Int) by omega,ApK]
  exact Aq2 fun k _=>by omega
 ·rw[if_neg h,show b-a=0 by omega]
  rfl
theorem QX(n d:Nat)(i:Int):max 0 (min (if i<0 then i+(n:Int) else i) (n:Int))=(HT.sIx n d (some i):Int):=by
 show _=(((if i<0 then (i+(n:Int)).toNat else min i.toNat n):Nat):Int)
 by_cases h:i<0
 ·rw[if_pos h,if_pos h];omega
 ·rw[if_neg h,if_neg h];omega
theorem idx_eq(n:Nat)(lo hi:Option Int):strSliceIndices lo hi 1 n=(List.range (HT.sIx n n hi-HT.sIx n 0 lo)).map fun k=>HT.sIx n 0 lo+k:=by
 rw[← Aks]
 cases lo with
 | none =>
  cases hi with
  | none=>rfl
  | some j=>rw[← QX];rfl
 | some i =>
  cases hi with
  | none=>rw[← QX n 0 i];rfl
  | some j=>rw[← QX n 0 i,← QX n n j];rfl
theorem AgR(u:List Nat)(lo hi:Option Int):Txt.slice (tx u) lo hi=tx (Vj u lo hi):=by
 unfold Txt.slice Vj
 rw[BK,idx_eq]
 have hle:HT.sIx u.length u.length hi≤u.length:=HT.AjZ _ _ (Apv _) _
 have key:∀(a k:Nat),a+k≤u.length→((List.range k).map fun j=>a+j).filterMap (fun i=>(tx u).cps[i]?)=(u.drop a).take k:=by
  intro a k
  induction k with
  | zero=>intro _;simp
  | succ k ih =>
   intro h
   rw[ApI,Ap2,List.filterMap_append,ih (by omega)]
   have:a+k<u.length:=by omega
   simp only [Ap5,Aqk,ApU,List.filterMap_nil,AgC,Apy this]
   rw[List.take_succ,Aq3,Apy this]
   rfl
 split
 next h =>
  simp only [Apx,ApG,Aqa,beq_iff_eq] at h
  have h2:=h.2
  have:HT.sIx u.length 0 lo=0∨u.length=0:=by omega
  rcases this with e | e
  ·rw[e,Aqg,ApS (by omega)]
  ·rw[Aqu e];simp
 next h =>
  by_cases hlt:HT.sIx u.length 0 lo≤HT.sIx u.length u.length hi
  ·show(Str.mk _)=_
   rw[key _ _ (by omega)]
   rfl
  ·have e:HT.sIx u.length u.length hi-HT.sIx u.length 0 lo=0:=by omega
   rw[e]
   simp[tx]
section
variable {X:Cx}
theorem X3:SlR X (fun x lo hi H Q=>∃ u:List Nat,x=.str (tx u)∧u.length≤sizeLine∧Q (.str (tx (Vj u lo hi))) H):=by
 intro pins s σ H x v vl vu lo hi sl Q I rx hs pl pu h
 obtain⟨u,rfl,hz,q⟩:=h
 obtain⟨t,rfl⟩:=rx
 rw[← AgR] at q
 refine⟨"str", _,F.slot_str_getitem.lookup,typeIs_str _ _ _,?_⟩
 have hsz:(tx u).length≤sizeLine:=by rw[BK];exact hz
 obtain⟨os,hos,hcs,hds⟩:=id hs
 have fin:∀(l u':Option (Int × Tok)),s.heap.IsSlice sl l u' none→Q (.str (Txt.slice (tx u) (l.map (·.1)) (u'.map (·.1)))) H→wpAny (model X.prog X.w) X.A (getItem (.str (tx u) t) (.ref sl)) (EP X pins σ Q) X.xe s:=fun l u' z q' =>
  wpAny_getItem_str_slice z rfl (post_val_or_str ⟨ApA (Txt.slice_le (tx u) _ _) hsz,fun t' k=>⟨.str _,H,I.tok _,⟨t',rfl⟩,q'⟩⟩)
 cases pl with
 | none=>cases pu with
  | none=>exact fin none none ⟨os,hos,hcs,hds⟩ q
  | int j tj=>exact fin none (some (j,tj)) ⟨os,hos,hcs,hds⟩ q
 | int i ti=>cases pu with
  | none=>exact fin (some (i,ti)) none ⟨os,hos,hcs,hds⟩ q
  | int j tj=>exact fin (some (i,ti)) (some (j,tj)) ⟨os,hos,hcs,hds⟩ q
end
open PySem PySem.Spec PyProof.Rows
theorem AdD:∀(xs:List V) (us:List Value),xs.length=us.length→(∀(i:Nat) x u,xs[i]?=some x→us[i]?=some u→RelV x u)→Vals xs us
 | [],[],_,_=>.nil
 | [],_::_,h,_=>by simp at h
 | _::_,[],h,_=>by simp at h
 | x::xs,u::us,h,p=>.cons (p 0 x u rfl rfl) (AdD xs us (by simpa using h) fun i y v e1 e2=>p (i+1) y v e1 e2)
def AgS (p:Addr)(a b c:Int):HO:=.ext fun h=>∃ t u v,IsRange h p a b c t u v
def X4 (a c:Int)(n:Nat):List Int:=(List.range n).map fun(i:Nat)=>a+(i:Int)*c
section
variable {X:Cx}{K:PySem.W.Frag}
theorem AdE{pins:List (Addr × Obj)}{σ:St}{H:Hp}{s:Shared}{a b c:Int}{t u v:Tok}{Q:VK}{tk:Nat}(I:Inv X pins σ H s)(q:∀ p,H p=none→Q (.ref p) (upd H p (AgS p a b c))) :
  EP X pins σ Q (.ref s.heap.objs.size) { s with heap:=s.heap.push { cls:=.type "range", data:=.fields #[.int a t,.int b u,.int c v] },toks:=tk }:=by
 have hg:(s.heap.push { cls:=.type "range", data:=.fields #[.int a t,.int b u,.int c v] }).get? s.heap.objs.size=some { cls:=.type "range", data:=.fields #[.int a t,.int b u,.int c v] }:=Heap.get?_push_size _ rfl
 refine⟨.ref s.heap.objs.size,_,I.laid (o:=AgS s.heap.objs.size a b c) (fun b o e=>Heap.get?_push_of_some _ e) (Apv _) ?_,rfl,q _ (I.hok.fresh (Apv _))⟩
 exact⟨⟨t,u,v,hg⟩,⟨_,hg⟩,fun h1 h2 y k=>by
  obtain⟨t',u',v',y⟩:=y
  exact⟨t',u',v',k _ y⟩⟩
theorem Af6:Hb X (.type "range") (fun xs H Q=>∃ a b,xs=[.int a,.int b]∧∀ p,H p=none→Q (.ref p) (upd H p (AgS p a b 1))):=by
 intro pins s σ H xs us Q I rv h
 obtain⟨a,b,rfl,q⟩:=h
 obtain⟨u1,u2,rfl,r1,r2⟩:=rv.two
 obtain⟨t,rfl⟩:=r1
 obtain⟨t',rfl⟩:=r2
 exact call_range_2 (AdE I q)
theorem Af7:Hb X (.type "range") (fun xs H Q=>∃ a b c,xs=[.int a,.int b,.int c]∧c≠0∧c.natAbs<1000000∧∀ p,H p=none→Q (.ref p) (upd H p (AgS p a b c))):=by
 intro pins s σ H xs us Q I rv h
 obtain⟨a,b,c,rfl,hc,hz,q⟩:=h
 cases rv with
 | cons r1 rv=>cases rv with
  | cons r2 rv=>cases rv with
   | cons r3 rv =>
    cases rv
    obtain⟨t,rfl⟩:=r1
    obtain⟨t',rfl⟩:=r2
    obtain⟨t'',rfl⟩:=r3
    exact call_range_3 hc (AdE I q) (Or.inl (PyProof.noPylong_small (by omega)))
theorem AaB(hc:X.calm=true:=by rfl):Hb X (.type "list") (fun xs H Q=>∃(p:Addr) (a b c:Int) (n:Nat),xs=[.ref p]∧H p=some (AgS p a b c)∧Builtin.Range.small a b c=true∧Builtin.Range.rangeSize a b c=n∧n≤1000 ∧
  ∀ l,H l=none→Q (.ref l) (upd H l (.lst (vI (X4 a c n))))):=by
 intro pins s σ H xs us Q I rv h
 obtain⟨p,a,b,c,n,rfl,hp,hs,hn,hz,q⟩:=h
 obtain⟨u,rfl,ru⟩:=rv.one
 cases ru
 obtain⟨⟨t,u,v,hr⟩,_,_⟩:=I.hok p _ hp
 refine call_list_range (I.ok.hd hc) hr hs hn (ApA hz (by decide)) fun h' tk acc c' hk hl hi=>?_
 refine⟨.ref s.heap.objs.size,_,I.laid (t':=tk) (o:=.lst (vI (X4 a c n))) hk (Apv _) ?_,rfl,q _ (I.hok.fresh (Apv _))⟩
 have hlen:(vI (X4 a c n)).length=n:=by rw[Er];unfold X4;rw[Apx,ApG]
 refine⟨by rw[hlen];exact Aqq (Af1 hz),acc.toList,c',?_,hl⟩
 refine AdD _ _ (by rw[hlen,Array.length_toList,hi.1]) fun i x u e1 e2=>?_
 obtain⟨z,hz1,rfl⟩:=AcM e1
 obtain⟨t',rfl⟩:=hi.2 i u (by rw[← Array.getElem?_toList];exact e2)
 have hin:i<n:=by
  have:=(List.getElem?_eq_some_iff.mp e1).1
  rwa [hlen] at this
 unfold X4 at hz1
 rw[Ap8,List.getElem?_range hin] at hz1
 cases hz1
 exact⟨t',rfl⟩
theorem Af8:Hb X (.type "int") (fun xs H Q=>∃ z n,xs=[.str z]∧PySem.intText? z=some n∧z.length≤640∧Q (.int n) H):=by
 intro pins s σ H xs us Q I rv h
 obtain⟨z,n,rfl,hn,hl,q⟩:=h
 obtain⟨u,rfl,t,rfl⟩:=rv.one
 exact PySem.W.KIN.call_text hn hl ⟨.int n,H,I.tok _,⟨_,rfl⟩,q⟩
theorem Af9(hK:X.K=K:=by rfl)(hc:X.calm=true:=by rfl):Hb X (.builtin "sum") (fun xs H Q=>∃ a ns,xs=[.ref a]∧SqL K H a (vI ns)∧Q (.int ns.sum) H):=by
 subst hK
 intro pins s σ H xs us Q I rv h
 obtain⟨a,ns,rfl,hq,q⟩:=h
 obtain⟨u,rfl,ru⟩:=rv.one
 cases ru
 obtain⟨its,r,pl,hl⟩:=I.list hq
 have hi:IntsAre its ns:=intsAre_of r
 obtain⟨xs,hx⟩:=hi.allInts.items
 have hL:s.heap.IsList a (intItems xs):=by rw[← hx];exact pl.isList
 refine sum_intListG (I.ok.hd hc) hL fun h' tk t' hk=>?_
 have e1:xs.toList.map (·.1)=ns:=by
  have z:numsOf its.toArray.toList=ns:=hi.numsOf
  rw[hx,nums_intItems] at z
  exact z
 rw[show preSum (numAt xs) xs.size=ns.sum by rw[preSum_eq,ApS (by simp),e1]]
 exact⟨.int ns.sum,H,I.kept hk,⟨t',rfl⟩,q⟩
end
open PySem PySem.Spec PyProof.Rows
section
variable {X:Cx}{K:PySem.W.Frag}{o e value:Expr}{f:Str}{pos pos' tpos:Pos}{ta tv:TE}{st:Stmt}{t:TS}
theorem DG(he:PE X e ta)(hb:attributeBase e f X.env (eval e X.env)=eval e X.env)(hK:X.K=K:=by rfl):PE X (.Attribute e f pos) (AlL K ta f):=by subst hK;exact AjV he hb
theorem Gh(ha:PE X o ta)(hv:PE X value tv)(hs:swapsWith value (some (.Attribute o f pos')) pos.line X.env=pure false:=by rfl)(hK:X.K=K:=by rfl):PS X (.Assign [.Attribute o f pos'] value pos) (AlM K ta tv f):=by subst hK;exact AjW ha hv hs
theorem Aez{op:Operator}{rd:V→V→Hp→VK→Prop}(ha:PE X o ta)(hv:PE X value tv)(hop:AjU X op rd)(hK:X.K=K:=by rfl):PS X (.AugAssign (.Attribute o f tpos) op value pos) (AeP K ta tv rd f):=by subst hK;exact Afw ha hv hop
theorem Pa(h:X.A.frames=some X.stack→PS X st t):PS X st t:=fun pins s σ H D I hw=>h I.ok.frames pins s σ H D I hw
end
structure Own (K:PySem.W.Frag) (C f:Addr):Prop where
 c:Cls K C
 m:Mk K C f
theorem Akt{K:PySem.W.Frag}{C f:Addr}(h1:PySem.W.plainGet K C Str.empty=true)(h2:PySem.W.hasDictIn K C=true)(h3:PySem.W.plainOver K C=true)(h4:PySem.W.findIn K (.ref C) "__setattr__" = some (some (.builtin "object.__setattr__")))
  (h5:PySem.W.makesIn K C=true) (h6:PySem.W.findIn K (.ref C) "__init__" = some (some (.ref f))) (h7:PySem.W.isFn K (.ref f)=true) (h8:PySem.W.keepIn K (.ref C)=true):Own K C f:=⟨⟨h1,h2,h3,h4⟩,⟨h5,h6,h7,h8⟩⟩
open PySem PySem.Spec PyProof.Rows
structure Amc (K:PySem.W.Frag) (C:Addr) (m:Str) (f:Addr):Prop where
 rd:PySem.W.readsIn K C (.type "type")=true
 fi:PySem.W.findCls K (.ref C) (.type "type") m=some (.val (.ref f))
 ha:PySem.W.handedIn (.ref f)=true
 sp:PySem.W.specialIn K (.ref C) "__getattribute__" = some (some (.builtin "type.__getattribute__"))
 kp:PySem.W.keepIn K (.ref f)=true
def Amd (C:Addr)(sp:Sp)(dvs:List V)(E:XK)(ta:TE)(t:TA):TE:=fun σ H Q=>ta σ H fun x H1=>x=.ref C∧t σ H1 fun vs H2=>sp (vs++dvs) H2 Q E
section
variable {X:Cx}{CX:CXT}{k:Nat}{f C:Addr}{fd:FuncData}{ps:List Str}{sp:Sp}{dvs:List V}{ds:List Value}{E:XK}{m:Str}{pos apos:Pos}{e o:Expr}{es:List Expr}{ta:TE}{t:TA}
theorem Ai6{pl:Sem Bool}(he:PE X o ta)(M:Amc X.K C m f)(F:Be X.prog X.w X.K X.mg X.base CX k f fd ps sp)(hr:FJ k X.A)(hb:Binds X.K fd ps ds)(hd:Vals dvs ds)(hx:Passes CX X E)(ha:PA X (e::es) t)
  (hst:starEach (e::es) X.env=(false,eval e X.env)::starEach es X.env:=by rfl) (hpl:(backTo pos (starEach es X.env)).any (·.1)=false:=by rfl)
  (ht:eval (.Call (.Attribute o m apos) (e::es) [] pos) X.env=(do
   let ov ← eval o X.env
   standAt apos.atName
   let (f,first) ← holding [ov] (getMethod ov m pl)
   callWith pos f first (backTo pos (starEach (e::es) X.env)) (backToKw pos (keywordEach [] X.env))):=by rfl) :
  PE X (.Call (.Attribute o m apos) (e::es) [] pos) (Amd C sp dvs E ta t):=by
 intro pins s σ H Q I h
 refine PySem.W.methodCall_KW (pl:=pl) (thn (he pins s σ H _ I h) fun u s1 ⟨x,H1,I1,rx,ex,q⟩=>?_) ht
 subst ex
 obtain rfl:u=Value.ref C:=rx
 refine PySem.W.method_cls I1.kIn M.sp (PySem.W.cls_value I1.kIn M.rd M.fi M.ha ?_)
 refine PySem.W.callWith_K (first:=[]) (h₀:=X.base) I.ok.mod.kin M.kp (thn (ha pos pins _ σ H1 _ (I1.tok (s1.toks+1)) q) fun us s2 ⟨vs,H2,I2,r,q2⟩=>⟨I2.kIn,?_⟩) hst hpl
 exact OJ (us:=us) (vs:=vs) F hr hb hd hx I2 r q2
end
open PySem PySem.Spec PyProof.Rows
section
variable {κ:Type} [DecidableEq κ]
def AfA (kvs:List (κ × V))(k:κ):Option V:=(kvs.find? fun kv=>decide (kv.1=k)).map (·.2)
def putK(kvs:List (κ × V))(k:κ)(v:V):List (κ × V) :=
 if (kvs.any fun kv=>decide (kv.1=k))=true then kvs.map (fun kv=>if kv.1=k then (kv.1,v) else kv) else kvs++[(k,v)]
def AgT (kvs:List (κ × V))(k:κ):List (κ × V):=kvs.filter fun kv=>decide (kv.1≠k)
end
abbrev KT (H:Hp):List (List Key × V)→List (List Key × Addr × Value)→Prop:=Paired fun p q=>p.1=q.1∧H q.2.1=some (.tup (p.1.map kV))∧RelV p.2 q.2.2
section
variable {P:Program}{w:World}{H:Hp}{h:Heap}{a:Addr}
end
def AfB (H:Hp)(a:Addr)(y:V)(r:Option V):Prop :=
 (∃ kvs k,Rd H a (.dK kvs)∧y=kV k∧r=AfA kvs k)∨∃ kvs k b,Rd H a (.dT kvs)∧y=.ref b∧H b=some (.tup (k.map kV))∧r=AfA kvs k
def Ame (H:Hp)(a:Addr)(y v:V)(H':Hp):Prop :=
 (∃ kvs k,H a=some (.dK kvs)∧y=kV k∧kvs.length<sizeLine∧H'=upd H a (.dK (putK kvs k v))) ∨
 ∃ kvs k b,H a=some (.dT kvs)∧y=.ref b∧H b=some (.tup (k.map kV))∧kvs.length<sizeLine∧H'=upd H a (.dT (putK kvs k v))
section
variable {X:Cx}{pins:List (Addr × Obj)}{σ:St}{H:Hp}{s:Shared}{a:Addr}{y v:V}{u r:Value}{o:Option V}{A:Around}{E:Value→Shared→Prop}
end
section
variable {X:Cx}{pins:List (Addr × Obj)}{σ:St}{H:Hp}{s:Shared}{a:Addr}{kvs:List (Key × V)}{k:Key}{u:Value}{A:Around}{E:Value→Shared→Prop}
end
def Amf (i:Expr):Prop:=∀ ov iv,subscripted i false ov iv=operate [ov,iv] (getItem ov iv)
theorem Ai7{prog:Program}{w:World}{A:Around}{E:Value→Shared→Prop}{s:Shared}{env:Env}{value slice:Expr}{pos:Pos}{T id:String}{Q:Value→Shared→Prop}
  (hl:typeLookup (.type T) "__getitem__" = pure (some (.builtin id))) (hs:Amf slice)
  (h:wpAny (model prog w) A (eval value env) (fun o s₁=>wpAny (model prog w) A (eval slice env) (fun i s₂=>s₂.TypeIs o T∧wpAny (model prog w) A (getItem o i) Q E s₂) E s₁) E s) :
  wpAny (model prog w) A (eval (.Subscript value slice pos) env) Q E s:=by
 refine Subscript_ (wpAny_mono h (fun o s₁ h₁=>wpAny_mono h₁ (fun i s₂ h₂=>?_) fun _ _ x=>x) fun _ _ x=>x)
 obtain⟨hT,h₂⟩:=h₂
 unfold subscriptTail
 refine wpAny_bind ?_
 rw[getitemInPython_of_ne hT.not_modules]
 refine wpAny_bind (wpAny_specialOf hT hl ?_)
 have fin:wpAny (model prog w) A (subscripted slice false o i) (fun r s₃=>wpAny (model prog w) A (letTemporaryGo value o r >>= fun _=>pure r) Q E s₃) E s₂:=by
  rw[hs o i]
  exact wpAny_operating (wpAny_mono h₂ (fun r s₃ h₃=>wpAny_bind (wpAny_letTemporaryGo (wpAny_pure h₃))) fun _ _ x=>x)
 first
  | exact wpAny_pure (wpAny_bind fin)
  | exact wpAny_bind (wpAny_pure (wpAny_bind fin))
  | exact wpAny_bind fin
def Aor (td ty:TE):TE:=fun σ H Q=>td σ H fun x H1=>ty σ H1 fun y H2=>∃ a v,x=.ref a∧AfB H2 a y (some v)∧Q v H2
def Apc (ty td:TE):TE:=fun σ H Q=>ty σ H fun y H1=>td σ H1 fun x H2=>∃ a o,x=.ref a∧AfB H2 a y o∧Q (.bl o.isSome) H2
def AmQ (ty td:TE):TE:=fun σ H Q=>ty σ H fun y H1=>td σ H1 fun x H2=>∃ a o,x=.ref a∧AfB H2 a y o∧Q (.bl (!o.isSome)) H2
def Aos (td ty tv:TE):TS:=fun D σ H=>tv σ H fun v H1=>td σ H1 fun x H2=>ty σ H2 fun y H3=>∃ a H4,x=.ref a∧Ame H3 a y v H4∧D.nx σ H4
def Aot (td ty tv:TE)(rd:V→V→Hp→VK→Prop):TS:=fun D σ H=>td σ H fun x H1=>ty σ H1 fun y H2=>∃ a v,x=.ref a∧AfB H2 a y (some v) ∧
 tv σ H2 fun y2 H3=>rd v y2 H3 fun z H4=>∃ H5,Ame H4 a y z H5∧D.nx σ H5
def Aou (td ty:TE):TS:=fun D σ H=>td σ H fun x H1=>ty σ H1 fun y H2=>∃ a kvs k,x=.ref a∧H2 a=some (.dK kvs)∧y=kV k∧(AfA kvs k).isSome=true∧D.nx σ (upd H2 a (.dK (AgT kvs k)))
section
variable {X:Cx}{o i e value:Expr}{pos pos' tpos:Pos}{td ty tv:TE}
end
def AnD:TE:=fun _ H Q=>∀ p,H p=none→Q (.ref p) (upd H p (.dK []))
def AnE:TE:=fun _ H Q=>∀ p,H p=none→Q (.ref p) (upd H p (.dT []))
section
variable {X:Cx}{pos:Pos}
end
def Ae0:List (TE × TE)→St→Hp→(List (V × V)→Hp→Prop)→Prop
 | [],_,H,Q=>Q [] H
 | (tk,tv)::r,σ,H,Q=>tk σ H fun x H1=>tv σ H1 fun y H2=>Ae0 r σ H2 fun ps H3=>Q ((x,y)::ps) H3
abbrev VV:List (V × V)→List (Value × Value)→Prop:=Paired fun p q=>RelV p.1 q.1∧RelV p.2 q.2
def PPs (X:Cx)(pos:Pos)(keys:List (Option Expr))(values:List Expr)(trs:List (TE × TE)):Prop :=
 ∀(pins:List (Addr × Obj)) (s:Shared) (σ:St) (H:Hp) (Q:List (V × V)→Hp→Prop),Inv X pins σ H s→Ae0 trs σ H Q →
  wpAny (model X.prog X.w) X.A (evalPairs (pairTrees keys values X.env pos)) (fun vs s'=>∃ ps H',Inv X pins σ H' s'∧VV ps vs∧Q ps H') X.xe s
def Aku (kvs more:List (Key × V)):List (Key × V):=more.foldl (fun acc kv=>putK acc kv.1 kv.2) kvs
def Aov (trs:List (TE × TE)):TE:=fun σ H Q=>∀ p,H p=none→Ae0 trs σ (upd H p (.dK [])) fun ps H2=>H2 p=some (.dK [])∧∃ kvs:List (Key × V),ps=kvs.map (fun kv=>(kV kv.1,kv.2))∧kvs.length≤15∧Q (.ref p) (upd H2 p (.dK (Aku [] kvs)))
structure M1 (X:Cx) (o:Expr) (m:Str) (apos:Pos) (e:Expr) (cpos:Pos):Prop where
 base:attributeBase o m X.env (eval o X.env)=eval o X.env
 few:((backTo cpos (starEach [e] X.env)).all (fun x=>!x.1) && (backToKw cpos (keywordEach [] X.env)).all (fun x=>x.1.isSome)
  && decide (([e]:List Expr).length+([]:List Keyword).length+(if ([]:List Keyword).isEmpty then 0 else 1)<30))=true
 line:(apos.endLine == cpos.line)=true
 trees:backTo cpos (starEach [e] X.env)=[(false,eval e X.env)]
structure M2 (X:Cx) (o:Expr) (m:Str) (apos:Pos) (e f:Expr) (cpos:Pos):Prop where
 base:attributeBase o m X.env (eval o X.env)=eval o X.env
 few:((backTo cpos (starEach [e,f] X.env)).all (fun x=>!x.1) && (backToKw cpos (keywordEach [] X.env)).all (fun x=>x.1.isSome)
  && decide (([e,f]:List Expr).length+([]:List Keyword).length+(if ([]:List Keyword).isEmpty then 0 else 1)<30))=true
 line:(apos.endLine == cpos.line)=true
 trees:backTo cpos (starEach [e,f] X.env)=[(false,eval e X.env),(false,eval f X.env)]
def IsD (H:Hp)(a:Addr):Prop:=(∃ kvs,Rd H a (.dK kvs))∨∃ kvs,Rd H a (.dT kvs)
section
variable {X:Cx}{pins:List (Addr × Obj)}{σ:St}{H:Hp}{s:Shared}{a:Addr}{y d:V}{u r:Value}{o:Option V}{A:Around}{E:Value→Shared→Prop}
end
def AnF (td ty:TE):TE:=fun σ H Q=>td σ H fun x H1=>∃ a,x=.ref a∧IsD H1 a∧ty σ H1 fun y H2=>∃ o,AfB H2 a y o∧Q (o.getD .non) H2
def AnG (td ty tx:TE):TE:=fun σ H Q=>td σ H fun x H1=>∃ a,x=.ref a∧IsD H1 a∧ty σ H1 fun y H2=>tx σ H2 fun z H3=>∃ o,AfB H3 a y o∧Q (o.getD z) H3
def AnH (td ty:TE):TE:=fun σ H Q=>td σ H fun x H1=>∃ a,x=.ref a∧IsD H1 a∧ty σ H1 fun y H2=>∃ kvs k v,H2 a=some (.dK kvs)∧y=kV k∧AfA kvs k=some v∧Q v (upd H2 a (.dK (AgT kvs k)))
def AnI (td ty tx:TE):TE:=fun σ H Q=>td σ H fun x H1=>∃ a,x=.ref a∧IsD H1 a∧ty σ H1 fun y H2=>tx σ H2 fun z H3=>∃ kvs k,H3 a=some (.dK kvs)∧y=kV k ∧
 (∀ v,AfA kvs k=some v→Q v (upd H3 a (.dK (AgT kvs k))))∧(AfA kvs k=none→Q z H3)
section
variable {X:Cx}{o e f:Expr}{apos cpos:Pos}{td ty tx:TE}
end
section
variable {X:Cx}{pins:List (Addr × Obj)}{σ:St}{H:Hp}{s:Shared}{a:Addr}{kvs:List (Key × V)}{A:Around}{E:Value→Shared→Prop}
end
section
variable {X:Cx}{pins:List (Addr × Obj)}{σ:St}{H:Hp}{s:Shared}{a:Addr}{y:V}{u:Value}{A:Around}{E:Value→Shared→Prop}
end
open PySem PySem.Spec PyProof.Rows
section
variable {X:Cx}
end
section
variable {κ:Type} [DecidableEq κ]
end
open PySem PySem.Spec PySem.Calls PyProof.Rows PyProof.Rows.KTD
def Top (K:PySem.W.Frag)(a:Addr)(D:List (Str × Str)):Prop:=∀ h:Heap,K.In h→TextTab h a (D.map fun p=>(p.1,Dat.flat (.str p.2)))
theorem Akv{K:PySem.W.Frag}{a:Addr}{D:List (Str × Str)}(hl:tabLook (datLooks fun b=>K.lookup b) (fun b=>K.lookup b) a (D.map fun p=>(p.1,Dat.flat (.str p.2)))=true):Top K a D:=fun h X=>text_of_look (fun b o e=>X b o e) hl
def lk (D:List (Str × Str))(k:Str):Option Str:=(D.find? fun p=>decide (p.1=k)).map (·.2)
theorem Acg(k:Str):∀ D:List (Str × Str),inKeys k (D.map fun p=>(p.1,Dat.flat (.str p.2)))=(lk D k).isSome
 | []=>rfl
 | p::D=>by
  have ih:=Acg k D
  unfold lk at ih ⊢
  rw[Ap5,List.find?_cons]
  by_cases c:p.1=k
  ·simp[inKeys,c]
  ·have c':¬k=p.1:=fun z=>c z.symm
   simp[inKeys,c,c']
   simpa using ih
theorem Ajz{k v:Str}:∀{D:List (Str × Str)},lk D k=some v→∃ d,datumAt k (D.map fun p=>(p.1,Dat.flat (.str p.2)))=some d∧d=Dat.flat (.str v)
 | [],h=>by simp[lk] at h
 | p::D,h=>by
  unfold lk at h
  rw[List.find?_cons] at h
  by_cases c:p.1=k
  ·simp[c] at h
   subst h
   exact⟨_,by simp[datumAt,c],rfl⟩
  ·have c':¬k=p.1:=fun z=>c z.symm
   simp only [c,decide_false] at h
   obtain⟨d,e1,e2⟩:=Ajz (D:=D) h
   exact⟨d,by simp[datumAt,c',e1],e2⟩
def AfC (a:Addr)(D:List (Str × Str))(ty td:TE):TE:=fun σ H Q=>ty σ H fun y H1=>td σ H1 fun x H2=>∃ k,y=.str k∧x=.ref a∧Q (.bl (!(lk D k).isSome)) H2
def Ai8 (a:Addr)(D:List (Str × Str))(td ty:TE):TE:=fun σ H Q=>td σ H fun x H1=>ty σ H1 fun y H2=>∃ k v,y=.str k∧x=.ref a∧lk D k=some v∧Q (.str v) H2
section
variable {X:Cx}{o i:Expr}{pos:Pos}{td ty:TE}{a:Addr}{D:List (Str × Str)}
theorem AdF(T:Top X.K a D)(hi:PE X i ty)(ho:PE X o td):PC X .NotIn i o (AfC a D ty td):=by
 intro pins s σ H Q I h
 refine thn (hi pins s σ H _ I h) fun iv s1 ⟨y,H1,I1,ry,q1⟩=>thn (ho pins s1 σ H1 _ I1 q1) fun u s2 ⟨x,H2,I2,rx,k,ey,ex,q2⟩=>?_
 subst ey ex
 obtain⟨tk,rfl⟩:=ry
 obtain rfl:u=Value.ref a:=rx
 refine notin_text (h₀:=s2.heap) ⟨T s2.heap I2.kIn,fun b o e=>e⟩ ?_
 rw[Acg]
 exact⟨.bl _,H2,I2.tok _,rfl,q2⟩
theorem AdG{A:Around}{E:Value→Shared→Prop}{s:Shared}{pins:List (Addr × Obj)}{σ:St}{H:Hp}{k v:Str}{tk:Tok}{Q:Value→Shared→Prop}(T:Top X.K a D)(I:Inv X pins σ H s)(e:lk D k=some v)(h:∀ t s',Inv X pins σ H s'→Q (.str v t) s') :
  wpAny (model X.prog X.w) A (getItem (.ref a) (.str k tk)) Q E s:=by
 have T':Here s.heap s.heap a (D.map fun p=>(p.1,Dat.flat (.str p.2))):=⟨T s.heap I.kIn,fun b o e=>e⟩
 unfold getItem
 try with_reducible refine wpAny_holding ?_
 refine wpAny_bind (wpAny_sequenceKey T'.typeIs (by decide) ?_)
 refine wpAny_bind (wpAny_callSpecial?_slot (name:=Str.ofString "__getitem__") T'.typeIs PySem.F.slot_dict_getitem
  (wpAny_call_entry PySem.F.slot_dict_getitem T'.typeIs PySem.F.entry_dict_getitem ?_ (args_dict_getitem _ _)))
 show wpAny _ _ (dictGet a (.str k tk) >>= _) _ _ s
 obtain⟨d,hd,ed⟩:=Ajz e
 refine wpAny_bind (dictGet_text T' (fun d' v' ha hv=>wpAny_pure ⟨v',rfl,wpAny_pure ?_⟩) fun hn=>by rw[hd] at hn;cases hn)
 rw[hd] at ha
 cases ha
 subst ed
 exact Opened.of (P:=fun x=>Q x _) (opened_str fun t=>h t _ (I.tok _)) v' hv
theorem AfD(T:Top X.K a D)(ho:PE X o td)(hi:PE X i ty)(hs:Amf i):PE X (.Subscript o i pos) (Ai8 a D td ty):=by
 intro pins s σ H Q I h
 refine Ai7 PySem.F.slot_dict_getitem.lookup hs (thn (ho pins s σ H _ I h) fun u s1 ⟨x,H1,I1,rx,q1⟩=>thn (hi pins s1 σ H1 _ I1 q1) fun iv s2 ⟨y,H2,I2,ry,k,v,ey,ex,el,q2⟩=>?_)
 subst ex ey
 obtain rfl:u=Value.ref a:=rx
 obtain⟨tk,rfl⟩:=ry
 have T':Here s2.heap s2.heap a (D.map fun p=>(p.1,Dat.flat (.str p.2))):=⟨T s2.heap I2.kIn,fun b o e=>e⟩
 exact⟨T'.typeIs,AdG T I2 el fun t s3 I3=>⟨.str v,H2,I3,⟨t,rfl⟩,q2⟩⟩
end
open PySem PySem.Spec PyProof.Rows
def Aow (K:PySem.W.Frag)(no:Bool):R2:=fun x y H Q=>∃(z:Str) (q:Addr) (ys:List Str),x=.str z∧y=.ref q∧SqT K H q (ys.map V.str)∧Q (.bl (no != ys.any (· == z))) H
section
variable {X:Cx}{K:PySem.W.Frag}
end
def Amg (K:PySem.W.Frag)(a:Addr)(ys:List Str):Prop:=∀ H:Hp,SqT K H a (ys.map V.str)
theorem Ai9{K:PySem.W.Frag}{a:Addr}{o:Obj}{its:Array Value}{n:Nat}{ys:List Str}(e:K.lookup a=some o)(c:o.cls=.type "tuple") (d:o.data=.seq its n) (z:its.size≤sizeLine) (r:Vals (ys.map V.str) its.toList):Amg K a ys:=fun _=>.inr ⟨o,its,n,e,c,d,z,r⟩
open PySem PySem.Spec PyProof.Rows
structure Isa (K:PySem.W.Frag) (C:Addr):Prop where
 ha:PySem.W.findIn K (.ref C) "__class__" = some (some (.builtin "object.__class__"))
 hn:PySem.W.specialIn K (.builtin "object.__class__") "__get__" = some (some (.builtin "getset_descriptor.__get__"))
 htk:PySem.W.takesIn K (.builtin "object.__class__")=some true
 hm:PySem.W.mroIn K C (.type "object")=some true
open PySem PySem.Spec PyProof.Rows
structure DfH (K:PySem.W.Frag) (x:Str) (st:Stmt) (f:Addr) (fd:FuncData):Prop where
 a:PySem.W.nsIn K mainGlobals x=some (some (.ref f))
 F:Fun K x x st f fd
structure MfH (K:PySem.W.Frag) (x q:Str) (st:Stmt) (C f:Addr) (fd:FuncData):Prop where
 m:PySem.W.findIn K (.ref C) x=some (some (.ref f))
 g:PySem.W.isFn K (.ref f)=true
 F:Fun K x q st f fd
structure ClH (K:PySem.W.Frag) (x:Str) (C:Addr):Prop where
 n:PySem.W.nsIn K mainGlobals x=some (some (.ref C))
 o1:PySem.W.plainGet K C Str.empty=true
 o2:PySem.W.hasDictIn K C=true
 o3:PySem.W.plainOver K C=true
 o4:PySem.W.findIn K (.ref C) "__setattr__" = some (some (.builtin "object.__setattr__"))
 o5:PySem.W.makesIn K C=true
 o8:PySem.W.keepIn K (.ref C)=true
structure IsH (K:PySem.W.Frag) (C B:Addr):Prop where
 v1:PySem.W.findIn K (.ref C) "__class__" = some (some (.builtin "object.__class__"))
 v4:PySem.W.mroIn K C (.type "object")=some true
structure ExH (K:PySem.W.Frag) (x:Str) (C:Addr):Prop where
 n:PySem.W.nsIn K mainGlobals x=some (some (.ref C))
 y2:PySem.W.findIn K (.ref C) "__getattribute__" = some (some (.builtin "BaseException.__getattribute__"))
 y3:PySem.W.findIn K (.ref C) "__getattr__" = some none
 y4:PySem.W.findIn K (.ref C) "__class__" = some (some (.builtin "object.__class__"))
 y7:PySem.W.mroIn K C (.type "object")=some true
 y8:PySem.W.mroIn K C (.type "BaseException")=some true
 y9:PySem.W.isClsIn K C=true
 y10:PySem.W.typeIn K (.ref C)=some (.type "type")
 y11:PySem.W.mroIn K C (.type "ValueError")=some true
section
variable {K:PySem.W.Frag}{mg:Str→Option Value}{h:Heap}
theorem DfH.df{x:Str}{st:Stmt}{f:Addr}{fd:FuncData}{ps:List Str}(D:DfH K x st f fd)(X:K.In h)(G:h.Ns mainGlobals mg)
  (hb:∀ kV dc pm an cd ct us,us.length=ps.length→bindArgs (PySem.W.fnOf x x (M8 st) (Jr st) (Ah st) .none kV dc pm an cd ct) ⟨us,[]⟩=pure (ps.zip us)):Df K mg x st ps f fd:=⟨D.F,PySem.W.mg_of X G D.a,D.F.binds hb⟩
theorem MfH.meth{x q:Str}{st:Stmt}{C f:Addr}{fd:FuncData}(D:MfH K x q st C f fd):Meth K C x f:=⟨D.m,D.g,D.F.2⟩
theorem MfH.mf{x q:Str}{st:Stmt}{C f:Addr}{fd:FuncData}{ps:List Str}(D:MfH K x q st C f fd)
  (hb:∀ kV dc pm an cd ct us,us.length=ps.length→bindArgs (PySem.W.fnOf x q (M8 st) (Jr st) (Ah st) .none kV dc pm an cd ct) ⟨us,[]⟩=pure (ps.zip us)):Mf K x q st ps C f fd:=⟨D.F,D.meth,D.F.binds hb⟩
structure DfA (K:PySem.W.Frag) (mg:Str→Option Value) (x y:Str) (st:Stmt) (ps:List Str) (f:Addr) (fd:FuncData):Prop where
 F:Fun K y y st f fd
 m:mg x=some (.ref f)
 b:Binds K fd ps []
theorem DfA.of{x y:Str}{st:Stmt}{f:Addr}{fd:FuncData}{ps:List Str}(a:PySem.W.nsIn K mainGlobals x=some (some (.ref f)))(F:Fun K y y st f fd)(X:K.In h)(G:h.Ns mainGlobals mg)
  (hb:∀ kV dc pm an cd ct us,us.length=ps.length→bindArgs (PySem.W.fnOf y y (M8 st) (Jr st) (Ah st) .none kV dc pm an cd ct) ⟨us,[]⟩=pure (ps.zip us)):DfA K mg x y st ps f fd:=⟨F,PySem.W.mg_of X G a,F.binds hb⟩
theorem sc9{N P:List Str}{sc:Scope}(h:sc.kind=.function∧sc.isCoroutine=false∧sc.isGenerator=false∧N.take P.length=P:=by exact⟨rfl,rfl,rfl,rfl⟩)
  (g:N.Nodup∧(∀ x∈P,sc.names.lookup x=some .local∨sc.names.lookup x=some .cell)∧∀ y∈sc.names,y.2≠.free:=by decide +kernel):Aq N P sc:=⟨h.1,h.2.1,h.2.2.1,g.1,h.2.2.2,g.2.1,g.2.2⟩
end
open PySem PySem.Spec PyProof.Rows
structure Amh (k:Nat) (A:Around):Prop where
 dp:A.depth+3*k+5<recursionLimit
 un:A.units+16*k+200<cLine
structure Aox (P:Program) (w:World) (K:PySem.W.Frag) (mg:Str→Option Value) (base:Heap) (f:Addr) (fd:FuncData) (ps:List Str) (sp:Sp):Prop where
 len:∀ vs H Q E,sp vs H Q E→vs.length=ps.length
 run:∀(A:Around) (outer:List Env) (s:Shared) (H:Hp) (args:Args) (us:List Value) (vs:List V) (Q:VK) (E:XK),Amh 1 A→Adz P w K mg base A outer s H→BindsTo s fd args (ps.zip us)→Vals vs us→sp vs H Q E →
  codeAny (model P w) A (.call (.ref f) args) (CR CX0 outer P w H s Q E) s
abbrev Cx.stir (X:Cx):Cx:={ X with calm:=false }
section
variable {P:Program}{w:World}{K:PySem.W.Frag}{mg:Str→Option Value}{base:Heap}
end
section
variable {X:Cx}{C f:Addr}{fd:FuncData}{ps:List Str}{sp:Sp}{m:Str}{pos apos:Pos}{o:Expr}{ta:TE}
end
open PySem PySem.Spec PyProof.Rows
abbrev Aoy:Obj:={ cls:=.type "dict", data:=.dict #[] }
abbrev Aoz:Obj:={ cls:=.type "cell", data:=.cell none }
def AmR (X:Cx)(x:Str)(Nc:List Str)(scope:Scope)(cs:List (Str × Addr))(C:Addr)(fp:List Addr)(s:Shared)(H:Hp):Cx where
 prog:=X.prog
 w:=X.w
 K:=X.K
 mg:=X.mg
 base:=X.base
 A:=X.A
 N:=Nc
 s₀:=s
 H₀:=H
 env:=compEnvC scope cs C X.env
 outer:=X.stack
 stack:=X.stack
 ex:=fp
 fn:=fun y=>y == x
 calm:=X.calm
 pn:=[]
 xe:=fun _ _=>False
structure AmS (X:Cx) (x:Str) (Nc:List Str) (Cg:List Nat) (scope:Scope):Prop where
 kind:scope.kind=.function
 one:scope.names.filter (fun y=>y.2 == .cell)=[(x,.cell)]
 names:∀ y∈scope.names,y.2=.local→scope.names.lookup y.1=some .local
 fr:∀ y∈scope.names,y.2=.free→X.env.scope.names.lookup y.1=some .cell∧scope.names.lookup y.1=some .free
 loc:scope.names.lookup x=some .cell
 len:Nc.length=Cg.length+1
 hd:Nc[0]?=some x
 nd:Nc.Nodup
 cap:∀ k j,Cg[k]?=some j→∃ y,Nc[k+1]?=some y∧X.N[j]?=some y∧scope.names.lookup y=some .free
section
variable {X:Cx}{pins:List (Addr × Obj)}{σ:St}{H:Hp}{s:Shared}
def Apd (scope sc:Scope):Scope:={ scope with names:=scope.names.map fun(n,k)=>if (k == .free && sc.kind == .function && sc.names.lookup n == some .cell) then (n,.cell) else (n,k) }
end
open PySem PySem.Spec PyProof.Rows
section
variable {X:Cx}{tg:Expr}
def AnJ (ta:TA):TI:=fun σ H R=>ta σ H fun vs H1=>∃ i j:Int,vs=[.int i,.int j]∧R (Itr i (j-i).toNat) H1
end
section
variable {X:Cx}
theorem AdH(l:List Nat):∀(k:Nat) (acc:List Nat),List.foldl (fun x1 x2=>x1++x2) acc.toArray (List.replicate k l.toArray)=(acc++(List.replicate k l).flatten).toArray
 | 0,acc=>by simp
 | k+1,acc=>by
  have e:acc.toArray++l.toArray=(acc++l).toArray:=by simp
  have e2:(acc++l)++(List.replicate k l).flatten=acc++(List.replicate (k+1) l).flatten:=by
   rw[ApQ,ApM,ApW]
  rw[← e2,← AdH l k (acc++l),← e,ApQ,List.foldl_cons]
def AgU:R2:=fun x y H Q=>∃ u n,x=.str (tx u)∧y=.int n∧0≤n∧n≤1000000∧u.length*n.toNat≤sizeLine∧Q (.str (tx (List.replicate n.toNat u).flatten)) H
theorem Gi:OpR X (binaryOp .Mult) AgU:=by
 intro pins s σ H x y v z Q I rx ry h
 obtain⟨u,n,rfl,rfl,h0,h1,h2,q⟩:=h
 obtain⟨t,rfl⟩:=rx
 obtain⟨t',rfl⟩:=ry
 have hsz:sizeLine=16777216:=sizeLine_eq
 have hlen:(tx u).length=u.length:=BK u
 refine P.mul_str ?_ (fun c1 c2=>?_) (fun c1 c2=>?_) ?_
 ·rw[decide_eq_false (by omega),decide_eq_false (by omega)]
  rfl
 ·rw[hlen]
  have hn:0<n:=by omega
  have hm:(u.length:Int)*n≤16777216:=by
   have e:n=(n.toNat:Int):=by omega
   rw[e,← Int.natCast_mul]
   omega
  have:(u.length:Int)≤(2 ^ 63-1) / n:=(Int.le_ediv_iff_mul_le hn).mpr (by omega)
  omega
 ·rw[hlen]
  exact decide_eq_false (by omega)
 ·split
  ·next c =>
   have e:n=0:=by omega
   rw[e] at q
   exact⟨by decide,.str (tx []),H,I.tok _,⟨_,rfl⟩,q⟩
  ·split
   ·next c =>
    have e:tx (List.replicate n.toNat u).flatten=tx u:=by
     simp only [Bool.or_eq_true,beq_iff_eq] at c
     rcases c with c | c
     ·rw[c];simp
     ·rw[hlen] at c
      rw[Aqu c]
      simp
    rw[e] at q
    exact⟨.str (tx u),H,I,⟨_,rfl⟩,q⟩
   ·have hf:(⟨(List.replicate n.toNat (tx u).cps).foldl (·++·) #[]⟩:Str)=tx (List.replicate n.toNat u).flatten:=by
     have:=AdH u n.toNat []
     simp only [List.nil_append] at this
     exact congrArg Str.mk this
    rw[hf]
    refine⟨?_,.str (tx (List.replicate n.toNat u).flatten),H,I.tok _,⟨_,rfl⟩,q⟩
    rw[BK,len_rep,Nat.mul_comm]
    exact h2
theorem AcQ(x:Str)(c limit:Nat):∀(k i:Nat) (acc:Array Nat) (free:Nat),free≤i→acc.size+k≤limit →
  (forIn (List.range' i k) (acc,free) (StrLaws.occBody x ⟨#[c]⟩ x.length limit)).run.fst.size=acc.size+((x.cps.toList.drop i).take k).count c
 | 0,i,acc,free,_,_=>by simp
 | k+1,i,acc,free,hf,hl=>by
  rw[List.range'_succ,List.forIn_cons]
  by_cases hc:x.cps.toList[i]?=some c
  ·have h1:=(StrLaws.subAt_one x c i).mpr hc
   have e:StrLaws.occBody x ⟨#[c]⟩ x.length limit i (acc,free)=pure (ForInStep.yield (acc.push i,i+(⟨#[c]⟩:Str).length)):=by
    unfold StrLaws.occBody
    rw[if_pos ⟨⟨⟨by show acc.size<limit;omega,hf⟩,h1.1⟩,h1.2⟩]
   rw[e]
   have ih:=AcQ x c limit k (i+1) (acc.push i) (i+(⟨#[c]⟩:Str).length) (Apv _) (by rw[Array.size_push];omega)
   have hd:x.cps.toList.drop i=c::x.cps.toList.drop (i+1):=by
    obtain⟨hlt,he⟩:=List.getElem?_eq_some_iff.mp hc
    rw[Aq4 hlt,he]
   rw[hd,Aqb,List.count_cons_self]
   rw[Array.size_push] at ih
   refine Eq.trans ih ?_
   omega
  ·have h1:¬(i+(⟨#[c]⟩:Str).length≤x.length∧Builtin.Str.subAt x ⟨#[c]⟩ i=true):=fun z=>hc ((StrLaws.subAt_one x c i).mp z)
   have e:StrLaws.occBody x ⟨#[c]⟩ x.length limit i (acc,free)=pure (ForInStep.yield (acc,free)):=by
    unfold StrLaws.occBody
    rw[if_neg fun z=>h1 ⟨z.1.2,z.2⟩]
   rw[e]
   have ih:=AcQ x c limit k (i+1) acc free (by omega) (by omega)
   refine Eq.trans ih ?_
   congr 1
   by_cases hlt:i<x.cps.toList.length
   ·rw[Aq4 hlt,Aqb,List.count_cons_of_ne]
    intro z
    exact hc (by rw[Apy hlt];exact congrArg some z)
   ·rw[List.drop_eq_nil_of_le (by omega),List.drop_eq_nil_of_le (by omega)]
    simp
theorem AfE(l:List Nat)(c:Nat):(Builtin.Str.occurrences (tx l) ⟨#[c]⟩ 0 (tx l).length ((tx l).length+1)).length=l.count c:=by
 rw[StrLaws.occ_eq]
 have:=AcQ (tx l) c ((tx l).length+1) ((tx l).length+1-0) 0 #[] 0 (Apv _) (by simp)
 rw[Array.length_toList,this,Eg,BK]
 simp[ApS]
def AnK:V→List V→Hp→VK→Prop:=fun x vs H Q=>∃ u c,x=.str (tx u)∧vs=[.str ⟨#[c]⟩]∧Q (.int (u.count c:Nat)) H
end
open PySem PySem.Spec PyProof.Rows
section
variable {X:Cx}{K:PySem.W.Frag}
def Ao0 (K:PySem.W.Frag):List V→Hp→VK→Prop:=fun vs H Q=>∃(a C p:Addr) (Ds:List Addr) (b:Bool),vs=[.ref a,.ref p]∧H a=some (exH C a)∧ExC K C∧H p=some (.tup (Ds.map V.ref))∧PySem.W.kitAny K (.ref C) (Ds.map Value.ref)=some b∧Q (.bl b) H
end
open PySem PySem.Spec PyProof.Rows
theorem Inv.AeV{X:Cx}{pins:List (Addr × Obj)}{σ:St}{H:Hp}{s:Shared}{h':Heap}{t':Nat}{its:List Addr}(I:Inv X pins σ H s)
  (k:∀ b o,b∉its→s.heap.get? b=some o→h'.get? b=some o) (hf:∀ b∈its,O3 X pins H b):Inv X pins σ H { s with heap:=h',toks:=t' }:=by
 have nit:∀ b u,H b=some u→b∉its:=fun b u e z=>by
  have:=(hf b z).1
  rw[this] at e
  cases e
 have nL:X.env.locals∉its:=fun z=>(hf _ z).2.1 rfl
 refine I.step (g':=s.gens) (d':=s.drawn) (ch:=its) (fun b hb=>?_) (fun b o _ _ hc e _=>k b o hc e) (fun b o _ _ hc e _=>⟨o.slots,k b o hc e⟩) (fun _ _ _ _ n=>n)
  (fun b o hc e=>⟨o,k b o hc e⟩) (fun _ _ e=>e) (fun _ _ _ e=>e) (fun b ps e=>⟨#[],by rw[e];simp⟩) (fun m hm=>?_) (fun b u e=>?_) I.bare
 ·obtain⟨_,h2,_,h4,h5,h6⟩:=hf b hb
  exact⟨h4,h2,h5,h6⟩
 ·obtain⟨o,es,ep,ho,r⟩:=hm
  exact⟨o,es,ep,k _ o nL ho,r⟩
 ·refine(I.hok b u e).stay (fun c v hc q=>k c v ?_ q) (fun _ q=>q) fun _ _ q=>q
  rcases hc with z | z
  ·rw[z];exact nit b u e
  ·exact nit c _ z
def Itz (K:PySem.W.Frag)(a b:Addr):It where
 go:=fun i H=>∃ xs ys x y,SqL K H a xs∧SqL K H b ys∧xs[i]?=some x∧ys[i]?=some y
 yld:=fun i H x H'=>∃ T,x=.ref T∧H T=none∧∀ xs ys u v,SqL K H a xs→SqL K H b ys→xs[i]?=some u→ys[i]?=some v→H'=upd H T (.tup [u,v])
 stop:=fun i H=>∃ xs ys,SqL K H a xs∧SqL K H b ys∧(xs.length≤i∨ys.length≤i)
def Ao1 (z TI TO i1 i2 a b:Addr)(i:Nat)(h:Heap):Prop:=IsZip h z TI TO .none∧IsPair h TI (.ref i1) (.ref i2)∧(∃ p q,IsPair h TO p q)∧h.IsListIter i1 a i∧h.IsListIter i2 b i
section
variable {X:Cx}{es:List Expr}{kx:Nat}{tp:Pos}
def Ape (K:PySem.W.Frag)(ta:TA):TI:=fun σ H R=>ta σ H fun vs H1=>∃ a b,vs=[.ref a,.ref b]∧(∃ xs,SqL K H1 a xs)∧(∃ ys,SqL K H1 b ys)∧R (Itz K a b) H1
end
open PySem PySem.Spec PyProof.Rows
section
variable {X:Cx}{K:PySem.W.Frag}
def Apf (K:PySem.W.Frag):R2:=fun x y H Q=>∃ p q xs ys,x=.ref p∧y=.ref q∧SqL K H p xs∧SqL K H q ys∧xs.all JB=true∧ys.all JB=true∧Q (.bl (!eqL xs ys)) H
end
open PySem PySem.Spec PyProof.Rows
theorem FJ.AgV{k:Nat}{A:Around}(r:FJ k A):A.units+100<cLine:=by have:=r.un;omega
def Ami (K:PySem.W.Frag)(H:Hp)(p q:Addr):Prop:=∃ as bs:List Addr,SqL K H p (as.map V.ref)∧SqL K H q (bs.map V.ref)∧as.length=bs.length ∧
 ∀(i:Nat) (a b:Addr),as[i]?=some a→bs[i]?=some b→∃ xs:List V,xs.all JB=true∧SqL K H a xs∧SqL K H b xs
section
variable {X:Cx}{K:PySem.W.Frag}
def Ao2 (K:PySem.W.Frag):R2:=fun x y H Q=>∃ p q,x=.ref p∧y=.ref q∧Ami K H p q∧Q (.bl false) H
def Ao3 (K:PySem.W.Frag):R2:=fun x y H Q=>∃ p q,x=.ref p∧y=.ref q∧Ami K H p q∧Q (.bl true) H
end
open PySem PySem.Spec PyProof.Rows
def Apg (K:PySem.W.Frag):R2:=fun x y H Q=>∃(p q:Addr) (as:List Addr) (ks:List Int),x=.ref p∧y=.ref q∧SqL K H q (as.map V.ref)∧SqT K H p (vI ks) ∧
 (∀ a∈as,∃ js:List Int,SqT K H a (vI js))∧(∃ a∈as,SqT K H a (vI ks))∧Q (.bl true) H
section
variable {X:Cx}{K:PySem.W.Frag}
end
open PySem PySem.Spec PyProof.Rows
section
variable {prog:Program}{w:World}{A:Around}{E:Value→Shared→Prop}{s:Shared}
theorem AdI(hh:A.handled=none)(it:Addr)(x:Str)(t:Tok):Draws prog w A it [it] x.cps.size (fun i v=>∃ c u,x.cps[i]?=some c∧v=.str ⟨#[c]⟩ u) (fun i h=>h.IsStrIter it (strIterType x) x t i):=by
 unfold strIterType
 split
 ·exact Draws.strAscii hh it x t
 ·exact Draws.strWide hh it x t
structure AnL (z TI TO i1 i2:Addr):Prop where
 TIz:TI≠z
 TOz:TO≠z
 i1z:i1≠z
 i2z:i2≠z
 TITO:TI≠TO
 TIi1:TI≠i1
 TIi2:TI≠i2
 TOi1:TO≠i1
 TOi2:TO≠i2
 i12:i1≠i2
abbrev Amj (x:Str) (t:Tok):Obj:={ cls:=.type (strIterType x),data:=.fields #[.str x t,.int 0 0] }
abbrev Amk (l:Addr):Obj:={ cls:=.type "list_iterator", data:=.fields #[.ref l,.int 0 0] }
abbrev Ao4 (h:Heap) (o1 o2:Obj):Heap:=((((h.push o1).push o2).push { cls:=.type "tuple", data:=.seq #[.ref h.objs.size,.ref (h.push o1).objs.size] }).push { cls:=.type "tuple", data:=.seq #[.none,.none] }).push
 { cls:=.type "zip", data:=.fields #[.none,.bool false,.bool false,.ref ((h.push o1).push o2).objs.size,.ref (((h.push o1).push o2).push { cls:=.type "tuple", data:=.seq #[.ref h.objs.size,.ref (h.push o1).objs.size] }).objs.size] }
abbrev Ao5 (h:Heap) (o1 o2:Obj):Addr:=((((h.push o1).push o2).push { cls:=.type "tuple", data:=.seq #[.ref h.objs.size,.ref (h.push o1).objs.size] }).push { cls:=.type "tuple", data:=.seq #[.none,.none] }).objs.size
end
open PySem PySem.Spec PyProof.Rows
inductive Src where
 | l (a:Addr)
 | s (z:Str)
def Aml:Src→V
 | .l a=>.ref a
 | .s z=>.str z
def AeW (K:PySem.W.Frag)(H:Hp):Src→Prop
 | .l a=>∃ xs,SqL K H a xs
 | .s _=>True
def AdJ (K:PySem.W.Frag)(H:Hp):Src→Nat→V→Prop
 | .l a,i,v=>∃ xs,SqL K H a xs∧xs[i]?=some v
 | .s z,i,v=>∃ c,z.cps[i]?=some c∧v=.str ⟨#[c]⟩
def AgW (K:PySem.W.Frag)(H:Hp):Src→Nat→Prop
 | .l a,i=>∃ xs,SqL K H a xs∧xs.length=i
 | .s z,i=>z.cps.size=i
def Aj0 (it:Addr)(t:Tok):Src→Nat→Heap→Prop
 | .l a,i,h=>h.IsListIter it a i
 | .s z,i,h=>h.IsStrIter it (strIterType z) z t i
def Ao6 (it:Addr):Src→List Addr
 | .l a=>[it,a]
 | .s _=>[it]
def Ao7 (t:Tok):Src→Obj
 | .l a=>Amk a
 | .s z=>Amj z t
def AnM (K:PySem.W.Frag)(S1 S2:Src):It where
 go:=fun i H=>(∃ u,AdJ K H S1 i u)∧∃ v,AdJ K H S2 i v
 yld:=fun i H x H'=>∃ T,x=.ref T∧H T=none∧∀ u v,AdJ K H S1 i u→AdJ K H S2 i v→H'=upd H T (.tup [u,v])
 stop:=fun i H=>AeW K H S1∧AeW K H S2∧(AgW K H S1 i∨((∃ u,AdJ K H S1 i u)∧AgW K H S2 i))
def AnN (z TI TO i1 i2:Addr)(t1 t2:Tok)(S1 S2:Src)(i:Nat)(h:Heap):Prop:=IsZip h z TI TO .none∧IsPair h TI (.ref i1) (.ref i2)∧(∃ p q,IsPair h TO p q)∧Aj0 i1 t1 S1 i h∧Aj0 i2 t2 S2 i h
theorem lne{a n:Nat}(h:a<n)(k:Nat):@Ne Addr a (n+k):=fun z=>by have z:a=n+k:=z;omega
section
variable {X:Cx}{es:List Expr}{kx:Nat}{tp:Pos}
def zOk:Src→Src→Prop
 | .s _,.l _=>False
 | _,_=>True
def Ao8 (K:PySem.W.Frag)(ta:TA):TI:=fun σ H R=>ta σ H fun vs H1=>∃ S1 S2,vs=[Aml S1,Aml S2]∧zOk S1 S2∧AeW K H1 S1∧AeW K H1 S2∧R (AnM K S1 S2) H1
end
open PySem PySem.Spec PyProof.Rows
structure AmT (X:Cx) (x x':Str) (Nc:List Str) (Cg:List Nat) (scope:Scope):Prop where
 kind:scope.kind=.function
 cell:∀ y∈scope.names,y.2≠.cell
 names:∀ y∈scope.names,y.2=.local→scope.names.lookup y.1=some .local
 fr:∀ y∈scope.names,y.2=.free→X.env.scope.names.lookup y.1=some .cell∧scope.names.lookup y.1=some .free
 loc:scope.names.lookup x=some .local
 Aph:scope.names.lookup x'=some .local
 len:Nc.length=Cg.length+2
 hd:Nc[0]?=some x
 hd2:Nc[1]?=some x'
 nd:Nc.Nodup
 cap:∀ k j,Cg[k]?=some j→∃ y,Nc[k+2]?=some y∧X.N[j]?=some y∧scope.names.lookup y=some .free
def AiA (K:PySem.W.Frag)(Cg:List Nat)(tc:TT)(te:TE)(J:It)(σ:St)(H:Hp)(Q:VK):Prop :=
 ∃ W:Nat→Nat→List V→Hp→Prop,(∃ m,W 0 m [] H)∧∀ i m ys H,W i m ys H →
  (J.stop i H∧ys.length≤sizeLine∧∀ p,H p=none→Q (.ref p) (upd H p (.lst ys))) ∨
  (J.go i H∧ys.length<sizeLine∧∀ x H',J.yld i H x H'→∃ a u v,x=.ref a∧SqT K H' a [u,v]∧tc (some u::some v::IK σ Cg) H' fun b H2 =>
   if b=true then te (some u::some v::IK σ Cg) H2 fun y H3=>∃ m',m'<m∧W (i+1) m' (ys++[y]) H3 else ∃ m',m'<m∧W (i+1) m' ys H2)
def AnO (K:PySem.W.Frag)(wi:TI)(Cg:List Nat)(tc:TT)(te:TE):TE:=fun σ H Q=>wi σ H fun J H1=>AiA K Cg tc te J σ H1 Q
section
variable {X:Cx}{pins:List (Addr × Obj)}{σ:St}{H:Hp}{s:Shared}
end
open PySem PySem.Spec PyProof.Rows
section
variable {X:Cx}
def AmU (K:PySem.W.Frag):V→List V→Hp→VK→Prop:=fun x vs H Q=>∃ a ns k,x=.ref a∧vs=[.int k]∧SqL K H a (vI ns)∧Q (.int (ns.count k:Nat)) H
end
def Ite (K:PySem.W.Frag)(a:Addr):It where
 go:=fun i H=>∃ xs x,SqL K H a xs∧xs[i]?=some x
 yld:=fun i H x H'=>∃ T,x=.ref T∧H T=none∧∀ xs u,SqL K H a xs→xs[i]?=some u→H'=upd H T (.tup [.int (i:Int),u])
 stop:=fun i H=>∃ xs,SqL K H a xs∧xs.length=i
def Api (e it a:Addr)(i:Nat)(h:Heap):Prop:=(∃ old,IsEnum h e it i old)∧h.IsListIter it a i
section
variable {X:Cx}{es:List Expr}{kx:Nat}{tp:Pos}
def Ao9 (K:PySem.W.Frag)(ta:TA):TI:=fun σ H R=>ta σ H fun vs H1=>∃ a,vs=[.ref a]∧(∃ xs,SqL K H1 a xs)∧R (Ite K a) H1
end
open PySem PySem.Spec PyProof.Rows
def AgX (u:List Nat):It where
 go:=fun i _=>i<u.length
 yld:=fun i H x H'=>∃ T c,x=.ref T∧H T=none∧u[i]?=some c∧H'=upd H T (.tup [.int (i:Int),.str (tx [c])])
 stop:=fun i _=>u.length=i
def Amm (e it:Addr)(u:List Nat)(t:Tok)(i:Nat)(h:Heap):Prop:=(∃ old,IsEnum h e it i old)∧h.IsStrIter it (strIterType (tx u)) (tx u) t i
theorem Ae1{P:Program}{w:World}{K:PySem.W.Frag}{es:List Expr}{kx:Nat}{tp:Pos}{e it:Addr}{u:List Nat}{t:Tok}(hei:e≠it) :
  Turn P w K (.Tuple es kx tp) (AgX u) [e,it] e (Amm e it u t) where
 mem:=by simp
 obj:=fun i h st c hc=>by
  obtain⟨⟨old,s1⟩,s2⟩:=st
  simp only [ApJ,ApN,or_false] at hc
  rcases hc with z | z
  ·subst z;exact⟨_,s1,fun v z=>by cases (show Data.fields _=Data.cell v from z)⟩
  ·subst z;obtain⟨o,e,_,d⟩:=s2;exact⟨o,e,fun v z=>by rw[d] at z;cases z⟩
 keep:=fun i h h' st k=>by
  obtain⟨⟨old,s1⟩,o,e1,c,d⟩:=st
  exact⟨⟨old,k _ (by simp) _ s1⟩,o,k _ (by simp) _ e1,c,d⟩
 item:=by
  intro X hP hw hK hc i pins s σ H E I hf st hg
  subst hP hw hK
  have hg:i<u.length:=hg
  obtain⟨⟨old,s1⟩,s4⟩:=st
  have hh:X.A.in1.handled=none:=I.ok.hd hc
  have hn:i<(tx u).cps.size:=by rw[← Array.length_toList,Eg];exact hg
  refine wpAny_pyNext_enum_itemD (AdI hh it (tx u) t) s1 s4 hn hei (fun z=>?_) fun u' h1 tk hu' ho hst hT hsz kk=>?_
  ·simp only [ApJ,ApN,or_false] at z
   exact hei z
  obtain⟨c,tk',hcu,rfl⟩:=hu'
  have hcu:u[i]?=some c:=by rw[← Array.getElem?_toList,Eg] at hcu;exact hcu
  refine⟨_,rfl,wpAny_letOwnedTupleGo_enum ho fun h2 he2 sb=>?_⟩
  have sb:Heap.SameBut e h1 h2:=sb
  have el:e<s.heap.objs.size:=Heap.lt_size s1
  have il:it<s.heap.objs.size:=by obtain⟨_,e,_⟩:=s4;exact Heap.lt_size e
  have up:∀ c o,c≠e→h1.get? c=some o→h2.get? c=some o:=fun c o c1 z=>(sb.2 c c1).trans z
  have hTn:H s.heap.objs.size=none:=I.hok.fresh (Apv _)
  have I1:Inv X pins σ (upd H s.heap.objs.size (.tup [.int (i:Int),.str (tx [c])])) { s with heap:=s.heap.push { cls:=.type "tuple", data:=.seq #[.int i tk,.str ⟨#[c]⟩ tk'] },toks:=tk+1 } :=
   I.laid (fun c o e=>Heap.get?_push_of_some _ e) (Apv _) ⟨by show 2≤sizeLine;decide,[.int i tk,.str ⟨#[c]⟩ tk'],.cons ⟨tk,rfl⟩ (.cons ⟨tk',rfl⟩ .nil),⟨_,Heap.get?_push_size _ rfl,rfl,_,rfl⟩⟩
  have fp2:∀ c'∈[e,it],O3 X pins (upd H s.heap.objs.size (.tup [.int (i:Int),.str (tx [c])])) c':=fun c' hc=>by
   obtain⟨f0,f⟩:=hf c' hc
   refine⟨?_,f⟩
   have lt:c'<s.heap.objs.size:=by
    simp only [ApJ,ApN,or_false] at hc
    rcases hc with e | e <;> subst e <;> assumption
   rw[Ao (Ap3 lt)]
   exact f0
  have I2:Inv X pins σ (upd H s.heap.objs.size (.tup [.int (i:Int),.str (tx [c])])) { s with heap:=h2,toks:=tk+1 }:=by
   refine Inv.AeV (s:={ s with heap:=s.heap.push { cls:=.type "tuple", data:=.seq #[.int i tk,.str ⟨#[c]⟩ tk'] },toks:=tk+1 }) (h':=h2) (t':=tk+1) (its:=[e,it]) I1 (fun c' o hc z=>?_) fp2
   simp only [ApJ,ApN,or_false,not_or] at hc
   refine up c' o hc.1 ?_
   by_cases hcs:c'=s.heap.objs.size
   ·subst hcs
    have e':(s.heap.push { cls:=.type "tuple", data:=.seq #[.int i tk,.str ⟨#[c]⟩ tk'] }).get? s.heap.objs.size=some { cls:=.type "tuple", data:=.seq #[.int i tk,.str ⟨#[c]⟩ tk'] }:=Heap.get?_push_size _ rfl
    rw[e'] at z
    cases z
    exact hT
   ·have e':s.heap.get? c'=some o:=by
     rw[← z]
     exact(Heap.get?_push_ne _ _ _ hcs).symm
    exact kk c' o hc.1 hc.2 e'
  obtain⟨o3,q1,q2,q3⟩:=hst
  exact⟨.ref s.heap.objs.size,_,I2,rfl,⟨s.heap.objs.size,c,rfl,hTn,hcu,rfl⟩,⟨⟨_,by simpa using he2⟩,o3,up _ _ hei.symm q1,q2,q3⟩,fun c hc=>(fp2 c hc).1⟩
 done:=by
  intro X hP hw hK hc i pins s σ H E I hf st hg
  subst hP hw hK
  have hg:u.length=i:=hg
  obtain⟨⟨old,s1⟩,s4⟩:=st
  have hh:X.A.in1.handled=none:=I.ok.hd hc
  have en:i=(tx u).cps.size:=by rw[← Array.length_toList,Eg];exact hg.symm
  subst en
  refine wpAny_pyNext_enum_endD (AdI hh it (tx u) t) s1 s4 fun h' kk=>⟨rfl,I.AeV (t':=s.toks) (its:=[e,it]) (fun c o hc z=>?_) hf⟩
  simp only [ApJ,ApN,or_false,not_or] at hc
  exact kk c o hc.2 z
 self:=fun _ _ _ _ _ st h=>by obtain⟨⟨old,s1⟩,_⟩:=st;exact wpAny_pyIter_enum s1 h
section
variable {X:Cx}{es:List Expr}{kx:Nat}{tp:Pos}
def Akw (ta:TA):TI:=fun σ H R=>ta σ H fun vs H1=>∃ u,vs=[.str (tx u)]∧R (AgX u) H1
theorem AgY{a:Expr}{ta:TA}{p pos:Pos}(hg:Gl X "enumerate") (hm:X.mg "enumerate" = none) (ha:PA X [a] ta) (hs:starEach [a] X.env=[(false,eval a X.env)]:=by rfl) :
  PI X (.Tuple es kx tp) (.Call (.Name "enumerate" p) [a] [] pos) (Akw ta):=by
 intro pins s σ H R I h
 refine Call_ (Xq I hg hm AcL (PyProof.Rows.callWith_type1 (thn (ha pos pins s σ H _ I h) fun us s1 ⟨vs,H1,I1,r1,q1⟩=>?_) hs rfl))
 obtain⟨u,e,q⟩:=q1
 subst e
 cases r1 with
 | cons r rr =>
  cases rr
  obtain⟨t,rfl⟩:=r
  refine call_enumerate_str fun h' he hi hsz kk=>wpAny_pyIter_enum he ?_
  refine⟨_,[s1.heap.objs.size+1,s1.heap.objs.size],_,_,H1,rfl,I1.kept (t':=s1.toks) kk,Ae1 (lne (Aqi _) 0).symm,⟨⟨_,he⟩,hi⟩,fun c hc=>?_,q⟩
  have le:s1.heap.objs.size≤c:=by
   simp only [ApJ,ApN,or_false] at hc
   rcases hc with e | e <;> subst e <;> omega
  exact I1.Aim le (I1.hok.fresh le)
theorem AfF{u:List Nat}{g:TG}{tb:TS}{D:Ends}{σ:St}{H:Hp}(Pv:Nat→St→Hp→Prop)(h0:Pv 0 σ H)
  (hs:∀ i c σ H T,u[i]?=some c→Pv i σ H→H T=none→g (.ref T) σ (upd H T (.tup [.int (i:Int),.str (tx [c])])) fun σ2 H2=>tb { D with nx:=Pv (i+1),ct:=Pv (i+1),bk:=D.nx } σ2 H2) (hd:∀ σ H,Pv u.length σ H→D.nx σ H) :
  ∃ W:Nat→Nat→St→Hp→Prop,(∃ m,W 0 m σ H)∧∀ i m σ H,W i m σ H →
   ((AgX u).stop i H∧D.nx σ H)∨((AgX u).go i H∧∃ N:St→Hp→Prop,(∀ σ' H',N σ' H'→∃ m',m'<m∧W (i+1) m' σ' H')∧∀ x H',(AgX u).yld i H x H'→g x σ H' fun σ2 H2=>tb { D with nx:=N,ct:=N,bk:=D.nx } σ2 H2):=by
 refine⟨fun i m σ H=>m=u.length-i∧i≤u.length∧Pv i σ H,⟨u.length,by simp,Ap7 _,h0⟩,?_⟩
 rintro i m σ H ⟨rfl,hi,p⟩
 by_cases hlt:i<u.length
 ·refine .inr ⟨hlt,Pv (i+1),fun σ' H' p'=>⟨u.length-(i+1),by omega,rfl,hlt,p'⟩,fun x H' y=>?_⟩
  obtain⟨T,c,rfl,hT,hc,rfl⟩:=y
  exact hs i c σ H T hc p hT
 ·have e:i=u.length:=by omega
  subst e
  exact .inl ⟨rfl,hd σ H p⟩
end
open PySem PySem.Spec PyProof.Rows
section
variable {X:Cx}
theorem Pb:MtR X "str.strip" (fun x vs H Q=>∃ z y:Str,x=.str z∧vs=[.str y]∧z.length≤sizeLine∧Q (.str (Txt.stripChars z y)) H):=by
 intro pins s σ H x vs v us Q I rx rv h
 obtain⟨z,y,rfl,rfl,hz,q⟩:=h
 obtain⟨t,rfl⟩:=rx
 obtain⟨u',rfl,ru⟩:=rv.one
 obtain⟨t',rfl⟩:=ru
 exact SC.stripChars (fun t' k=>⟨.str _,H,I.tok _,⟨_,rfl⟩,q⟩) hz
theorem AfG:MtR X "str.startswith" (fun x vs H Q=>∃ z y:Str,x=.str z∧vs=[.str y]∧Q (.bl (Txt.startswith z y)) H):=by
 intro pins s σ H x vs v us Q I rx rv h
 obtain⟨z,y,rfl,rfl,q⟩:=h
 obtain⟨t,rfl⟩:=rx
 obtain⟨u',rfl,ru⟩:=rv.one
 obtain⟨t',rfl⟩:=ru
 exact SC.startswith ⟨.bl _,H,I,rfl,q⟩
def trim(u:List Nat):List Nat:=((u.dropWhile fun c=>decide (c=32)).reverse.dropWhile fun c=>decide (c=32)).reverse
theorem AcR(c:Nat):(tx [32]).cps.contains c=decide (c=32):=by
 show(#[32]:Array Nat).contains c=_
 by_cases h:c=32
 ·rw[h];simp
 ·rw[decide_eq_false h]
  have h':¬32=c:=fun z=>h z.symm
  simp[h,h']
theorem Aap{p:Nat→Bool}(l:List Nat):l.drop (l.takeWhile p).length=l.dropWhile p:=by
 induction l with
 | nil=>rfl
 | cons a l ih =>
  rw[ApT,List.dropWhile_cons]
  by_cases h:p a=true
  ·rw[if_pos h,if_pos h];exact ih
  ·rw[if_neg h,if_neg h];rfl
theorem Vk(u:List Nat):Txt.stripChars (tx u) (tx [32])=tx (trim u):=by
 rw[Txt.stripChars,PySem.W.stripBy_eq]
 have eg:(tx [32]).cps.contains=fun c=>decide (c=32):=funext AcR
 rw[eg]
 unfold PySem.W.stripped
 simp only [if_true]
 rw[Eg,BK]
 generalize hp:(fun c:Nat=>decide (c=32))=p
 have hd:=Aap (p:=p) u
 rw[hd]
 have hl:(u.takeWhile p).length+(u.dropWhile p).length=u.length:=by
  have:=congrArg List.length (Aqv (p:=p) (l:=u))
  rw[Apw] at this
  exact this
 unfold Builtin.Str.strSub trim
 rw[hp]
 apply congrArg
 apply Array.ext'
 rw[Array.toList_extract,Eg]
 show List.extract _ _ _=_
 rw[List.extract_eq_drop_take,hd]
 have hl2:((u.dropWhile p).reverse.takeWhile p).length+((u.dropWhile p).reverse.dropWhile p).length=(u.dropWhile p).length:=by
  have:=congrArg List.length (Aqv (p:=p) (l:=(u.dropWhile p).reverse))
  rw[Apw,Aql] at this
  exact this
 have e:u.length-((u.dropWhile p).reverse.takeWhile p).length-(u.takeWhile p).length=((u.dropWhile p).reverse.dropWhile p).length:=by omega
 rw[e]
 have e2:(u.dropWhile p)=((u.dropWhile p).reverse.dropWhile p).reverse++((u.dropWhile p).reverse.takeWhile p).reverse:=by
  rw[← List.reverse_append,Aqv,List.reverse_reverse]
 generalize ((u.dropWhile p).reverse.takeWhile p)=a at e2
 generalize hb:((u.dropWhile p).reverse.dropWhile p)=b at e2 ⊢
 rw[e2,Aq5 (by rw[Aql];exact Apv _),ApS (by rw[Aql];exact Apv _)]
theorem Ach(u:List Nat)(c:Nat):Txt.startswith (tx u) (tx [c])=decide (u.head?=some c):=by
 unfold Txt.startswith Builtin.Str.subAt
 rw[BK,BK]
 cases u with
 | nil=>rfl
 | cons a u =>
  have e:((tx (a::u)).cps.extract 0 (0+[c].length))=#[a]:=by
   apply Array.ext'
   rw[Array.toList_extract,Eg]
   rfl
  rw[e]
  show(decide (0+1≤u.length+1) && (#[a] == #[c]))=_
  rw[decide_eq_true (by omega),Aqw]
  by_cases h:a=c
  ·rw[h];simp
  ·rw[decide_eq_false (by simpa using h)]
   simpa using h
end
open PySem PySem.Spec PyProof.Rows PySem.Builtin PySem.Builtin.Str
def jn (c:Nat):List (List Nat)→List Nat
 | []=>[]
 | [w]=>w
 | w::v::r=>w++c::jn c (v::r)
theorem AaC(c:Nat):∀{ws:List (List Nat)},ws≠[]→(jn c ws).count c+1=(ws.map (List.count c)).sum+ws.length
 | [],h=>absurd rfl h
 | [w],_=>by simp[jn]
 | w::v::r,_=>by
  have ih:=AaC c (ws:=v::r) (by simp)
  rw[jn,List.count_append,List.count_cons,Ap5,Aqm,Apz]
  simp only [beq_self_eq_true,if_true]
  omega
theorem AgZ{c:Nat}:∀{w v a b:List Nat},c∉w→c∉v→w++c::a=v++c::b→w=v∧a=b
 | [],[],a,b,_,_,h=>⟨rfl,(List.cons.inj h).2⟩
 | [],x::v,a,b,_,hv,h=>absurd (by have:=(List.cons.inj h).1;rw[this];exact ApB) hv
 | x::w,[],a,b,hw,_,h=>absurd (by have:=(List.cons.inj h).1;rw[← this];exact ApB) hw
 | x::w,y::v,a,b,hw,hv,h=>by
  have e:=List.cons.inj h
  have:=AgZ (w:=w) (v:=v) (fun z=>hw (Ap6 _ z)) (fun z=>hv (Ap6 _ z)) e.2
  exact⟨by rw[e.1,this.1],this.2⟩
theorem Aha{c:Nat}:∀{ws vs:List (List Nat)},ws≠[]→vs≠[]→(∀ w∈ws,c∉w)→(∀ v∈vs,c∉v)→jn c ws=jn c vs→ws=vs
 | [],_,h,_,_,_,_=>absurd rfl h
 | _,[],_,h,_,_,_=>absurd rfl h
 | [w],[v],_,_,_,_,e=>by rw[show w=v from e]
 | [w],v::v'::r,_,_,hw,_,e=>absurd (show c∈w by rw[show w=v++c::jn c (v'::r) from e];simp) (hw w ApB)
 | w::w'::r,[v],_,_,_,hv,e=>absurd (show c∈v by rw[← show w++c::jn c (w'::r)=v from e];simp) (hv v ApB)
 | w::w'::r,v::v'::r',_,_,hw,hv,e=>by
  have h:=AgZ (hw w ApB) (hv v ApB) (show w++c::jn c (w'::r)=v++c::jn c (v'::r') from e)
  rw[h.1,Aha (ws:=w'::r) (vs:=v'::r') (by simp) (by simp) (fun x hx=>hw x (Ap6 _ hx)) (fun x hx=>hv x (Ap6 _ hx)) h.2]
theorem join_list(c:Nat):∀ l:List Str,(Str.join ⟨#[c]⟩ l).cps.toList=jn c (l.map fun z=>z.cps.toList)
 | []=>rfl
 | [x]=>rfl
 | x::y::r=>by
  show(x++⟨#[c]⟩++Str.join ⟨#[c]⟩ (y::r)).cps.toList=x.cps.toList++c::jn c ((y::r).map fun z=>z.cps.toList)
  rw[← join_list c (y::r)]
  show((x.cps++#[c])++(Str.join ⟨#[c]⟩ (y::r)).cps).toList=_
  simp
theorem Akx(z:Str):1≤Builtin.Str.strKind z:=by
 unfold Builtin.Str.strKind
 split
 ·omega
 ·split <;> omega
theorem Aky{c:Nat}(h:c<256):Builtin.Str.strKind ⟨#[c]⟩=1:=by
 unfold Builtin.Str.strKind
 rw[if_pos (by simp;exact h)]
theorem split_len{u:List Nat}{c:Nat}(hc:c<256):(Txt.split (tx u) ⟨#[c]⟩).length=u.count c+1:=by
 have n:=AfE u c
 unfold Txt.split
 split
 ·rename_i h
  have:(tx u).length<1:=by
   rcases Bool.or_eq_true_iff.mp h with h | h
   ·exact of_decide_eq_true h
   ·have:=of_decide_eq_true h
    rw[Aky hc] at this
    have:=Akx (tx u)
    omega
  rw[BK] at this
  have:u=[]:=List.length_eq_zero_iff.mp (by omega)
  rw[this]
  rfl
 ·split
  ·rename_i h
   rw[List.isEmpty_iff] at h
   rw[h] at n
   show 1=_
   rw[← n]
   rfl
  ·rw[StrLaws.partsBetween_eq] <;> skip
   rw[← StrLaws.partsBetween_eq,length_partsBetween,n]
theorem AaD:∀{l:List Nat} {a:Nat},a∈l→a≤l.sum
 | [],_,h=>by cases h
 | b::l,a,h=>by
  rw[Aqm]
  rcases List.mem_cons.mp h with z | z
  ·rw[z];omega
  ·have:=AaD z;omega
theorem Ahb{u:List Nat}{c:Nat}(hc:c<256){ws:List (List Nat)}(ne:ws≠[])(hj:jn c ws=u)(no:∀ w∈ws,c∉w):Txt.split (tx u) ⟨#[c]⟩=ws.map tx:=by
 have l:=split_len (u:=u) hc
 have j:=congrArg (fun z:Str=>z.cps.toList) (StrLaws.join_split (tx u) ⟨#[c]⟩)
 rw[join_list,Eg] at j
 generalize Txt.split (tx u) ⟨#[c]⟩=ps at l j
 obtain⟨qs,eqs⟩:∃ qs,qs=ps.map fun z=>z.cps.toList:=⟨_,rfl⟩
 rw[← eqs] at j
 have ql:qs.length=ps.length:=by rw[eqs,Apx]
 have qne:qs≠[]:=fun z=>by rw[z] at ql;simp at ql;omega
 have cnt:=AaC c qne
 rw[j,ql,l] at cnt
 have s0:(qs.map (List.count c)).sum=0:=by omega
 have qno:∀ w∈qs,c∉w:=fun w hw z=>by
  have h1:w.count c≤(qs.map (List.count c)).sum:=AaD (List.mem_map.mpr ⟨w,hw,rfl⟩)
  have h2:=List.count_pos_iff.mpr z
  omega
 have e:qs=ws:=Aha qne ne qno no (by rw[j,hj])
 rw[← e,eqs,Aqf]
 exact(List.map_id' ps).symm.trans (Aq2 fun z _=>by rfl)
theorem Aci:∀{l:List (Str × Tok)} {ws:List (List Nat)},l.map (·.1)=ws.map tx→Vals (vS ws) (strValues l)
 | [],[],_=>.nil
 | [],w::ws,h=>by cases h
 | p::l,[],h=>by cases h
 | p::l,w::ws,h=>by
  have e:=List.cons.inj h
  exact .cons ⟨p.2,by rw[← e.1]⟩ (Aci e.2)
def Akz:V→List V→Hp→VK→Prop:=fun x vs H Q=>∃(u:List Nat) (c:Nat) (ws:List (List Nat)),x=.str (tx u)∧vs=[.str ⟨#[c]⟩]∧c<256∧u.length+2≤sizeLine∧ws≠[]∧jn c ws=u∧(∀ w∈ws,c∉w)∧∀ l,H l=none→Q (.ref l) (upd H l (.lst (vS ws)))
theorem Ahc{X:Cx}:MtR X "str.split" Akz:=by
 intro pins s σ H x vs v us Q I rx rv h
 obtain⟨u,c,ws,rfl,rfl,hc,hz,ne,hj,no,q⟩:=h
 obtain⟨t,rfl⟩:=rx
 obtain⟨u',rfl,ru⟩:=rv.one
 obtain⟨t',rfl⟩:=ru
 have es:=Ahb hc ne hj no
 have wl:ws.length≤u.length+1:=by
  have:=AaC c ne
  rw[hj] at this
  have:=List.count_le_length (a:=c) (l:=u)
  omega
 have hlen:(tx u).length+2≤sizeLine:=by rw[BK];exact hz
 have fin:∀(l:List (Str × Tok)) (tk:Nat),l.map (·.1)=Txt.split (tx u) ⟨#[c]⟩→EP X pins σ Q (.ref s.heap.objs.size) { s with heap:=s.heap.push { cls:=.type "list", data:=.seq (strValues l).toArray },toks:=tk }:=fun l tk e =>
  ⟨.ref s.heap.objs.size,_,I.laid (t':=tk) (fun b o e=>Heap.get?_push_of_some _ e) (Apv _) (show Fy X.prog X.w _ _ _ (.lst (vS ws)) from⟨by rw[JC];omega,_,_,Aci (e.trans es),Heap.get?_push_size _ rfl⟩),rfl,q _ (I.hok.fresh (Apv _))⟩
 have hy:(((⟨#[c]⟩:Str)).length == 0)=false:=rfl
 have hn:(partsBetween (tx u) (occurrences (tx u) ⟨#[c]⟩ 0 (tx u).length ((tx u).length+1)) ((⟨#[c]⟩:Str)).length).length≤sizeLine:=by
  have e1:=StrLaws.occ_length_le (tx u) ⟨#[c]⟩ 0 (tx u).length ((tx u).length+1)
  rw[length_partsBetween];omega
 cases h1:(decide ((tx u).length<((⟨#[c]⟩:Str)).length) || decide (Builtin.Str.strKind (tx u)<Builtin.Str.strKind ⟨#[c]⟩))
 ·cases hf:(occurrences (tx u) ⟨#[c]⟩ 0 (tx u).length ((tx u).length+1)).isEmpty
  ·refine call_meets F.slot_str_split (typeIs_str _ _ _) F.entry_str_split (F.args_str_split_2 _ _) (meets_str_split_sep (tx u) ⟨#[c]⟩ t t' h1 hy hf (by omega) hn) ?_
   show wants (EP X pins σ Q) _ _ { s with toks:=_,heap:=s.heap.push { cls:=.type "list", data:=.seq (strsFrom s.toks (partsBetween (tx u) (occurrences (tx u) ⟨#[c]⟩ 0 (tx u).length ((tx u).length+1)) ((⟨#[c]⟩:Str)).length)).toArray } }
   rw[strsFrom_eq]
   exact fin (numbered s.toks _) _ ((numbered_texts _ _).trans ((if_neg (ne_true_of_eq_false h1)).trans (if_neg (ne_true_of_eq_false hf))).symm)
  ·exact call_meets F.slot_str_split (typeIs_str _ _ _) F.entry_str_split (F.args_str_split_2 _ _) (meets_str_split_not_found (tx u) ⟨#[c]⟩ t t' h1 hy hf)
    (fin [(tx u,t)] s.toks ((if_neg (ne_true_of_eq_false h1)).trans (if_pos hf)).symm)
 ·exact call_meets F.slot_str_split (typeIs_str _ _ _) F.entry_str_split (F.args_str_split_2 _ _) (meets_str_split_cannot_occur (tx u) ⟨#[c]⟩ t t' h1)
   (fin [(tx u,t)] s.toks (if_pos h1).symm)
open PySem PySem.Spec PyProof.Rows
section
variable {X:Cx}{CX CX':CXT}{k k':Nat}{f f' C C':Addr}{fd fd':FuncData}{ps ps':List Str}{sp sp':Sp}{E:XK}{m:Str}{pos apos:Pos}{o:Expr}{ta:TE}
def Ak0 (C C':Addr)(m:Str)(sp sp':Sp)(E:XK)(ta:TE):TE:=fun σ H Q=>ta σ H fun x H1=>∃ a dx fs,x=.ref a∧fs.lookup m=none ∧
 ((H1 a=some (.ins C dx fs)∧sp [x] H1 Q E)∨(H1 a=some (.ins C' dx fs)∧sp' [x] H1 Q E))
theorem AdK{pl:Sem Bool}(he:PE X o ta)(c:Cls X.K C)(hm:Meth X.K C m f)(F:Be X.prog X.w X.K X.mg X.base CX k f fd ps sp)(hr:FJ k X.A)(hb:Binds X.K fd ps [])(hx:Passes CX X E)
  (c':Cls X.K C') (hm':Meth X.K C' m f') (F':Be X.prog X.w X.K X.mg X.base CX' k' f' fd' ps' sp') (hr':FJ k' X.A) (hb':Binds X.K fd' ps' []) (hx':Passes CX' X E)
  (ht:eval (.Call (.Attribute o m apos) [] [] pos) X.env=(do
   let ov ← eval o X.env
   standAt apos.atName
   let (f,first) ← holding [ov] (getMethod ov m pl)
   callWith pos f first (backTo pos (starEach [] X.env)) (backToKw pos (keywordEach [] X.env))):=by rfl) :
  PE X (.Call (.Attribute o m apos) [] [] pos) (Ak0 C C' m sp sp' E ta):=by
 intro pins s σ H Q I h
 refine PySem.W.methodCall_KW (pl:=pl) (thn (he pins s σ H _ I h) fun u s1 ⟨x,H1,I1,rx,a,dx,fs,ex,l,q⟩=>?_) ht
 subst ex
 obtain rfl:u=Value.ref a:=rx
 rcases q with ⟨ea,q⟩ | ⟨ea,q⟩
 ·refine J8 I1 ea c hm l ?_
  exact PySem.W.callWith_K0 (first:=[.ref a]) I1.kIn hm.kp (OJ (us:=[.ref a]) (vs:=[.ref a]) F hr hb .nil hx I1 (.cons rfl .nil) (by simpa using q))
 ·refine J8 I1 ea c' hm' l ?_
  exact PySem.W.callWith_K0 (first:=[.ref a]) I1.kIn hm'.kp (OJ (us:=[.ref a]) (vs:=[.ref a]) F' hr' hb' .nil hx' I1 (.cons rfl .nil) (by simpa using q))
end
open PySem PySem.Spec PyProof.Rows
section
variable {X:Cx}{CX:CXT}{k:Nat}{f:Addr}{fd:FuncData}{ps:List Str}{sp:Sp}{E:XK}{m:Str}{pos apos:Pos}{o e:Expr}{es:List Expr}{ta:TE}{t:TA}{dvs:List V}{ds:List Value}
def Ak1 (K:PySem.W.Frag)(m:Str)(f:Addr)(sp:Sp)(E:XK)(ta:TE):TE:=fun σ H Q=>ta σ H fun x H1=>∃ a dx fs C,x=.ref a∧H1 a=some (.ins C dx fs)∧fs.lookup m=none∧Cls K C∧Meth K C m f∧sp [x] H1 Q E
theorem AdL{pl:Sem Bool}{K:PySem.W.Frag}(hK:K=X.K)(he:PE X o ta)(F:Be X.prog X.w X.K X.mg X.base CX k f fd ps sp)(hr:FJ k X.A)(hb:Binds X.K fd ps [])(hx:Passes CX X E)
  (ht:eval (.Call (.Attribute o m apos) [] [] pos) X.env=(do
   let ov ← eval o X.env
   standAt apos.atName
   let (f,first) ← holding [ov] (getMethod ov m pl)
   callWith pos f first (backTo pos (starEach [] X.env)) (backToKw pos (keywordEach [] X.env))):=by rfl) :
  PE X (.Call (.Attribute o m apos) [] [] pos) (Ak1 K m f sp E ta):=by
 subst hK
 intro pins s σ H Q I h
 refine PySem.W.methodCall_KW (pl:=pl) (thn (he pins s σ H _ I h) fun u s1 ⟨x,H1,I1,rx,a,dx,fs,C,ex,ea,l,c,hm,q⟩=>?_) ht
 subst ex
 obtain rfl:u=Value.ref a:=rx
 refine J8 I1 ea c hm l ?_
 exact PySem.W.callWith_K0 (first:=[.ref a]) I1.kIn hm.kp (OJ (us:=[.ref a]) (vs:=[.ref a]) F hr hb .nil hx I1 (.cons rfl .nil) (by simpa using q))
def AmV (K:PySem.W.Frag)(m:Str)(f:Addr)(sp:Sp)(E:XK)(ta:TE)(t:TA):TE:=fun σ H Q=>ta σ H fun x H1=>∃ a dx fs C,x=.ref a∧H1 a=some (.ins C dx fs)∧fs.lookup m=none∧Cls K C∧Meth K C m f∧t σ H1 fun vs H2=>sp (x::vs) H2 Q E
end
open PySem PySem.Spec PyProof.Rows
def vB (bs:List Bool):List V:=bs.map V.bl
theorem Fv(bs:List Bool):(vB bs).length=bs.length:=by unfold vB;rw[Apx]
theorem FP(bs:List Bool)(b:Bool):vB bs++[.bl b]=vB (bs++[b]):=by unfold vB;rw[Ap2];rfl
theorem AaE{bs:List Bool}:∀{us:List Value},Vals (bs.map V.bl) us→us=bs.map Value.bool:=by
 induction bs with
 | nil=>intro us r;rw[Aqk] at r;cases r;rfl
 | cons n ns ih =>
  intro us r
  rw[Ap5] at r
  cases r with
  | cons r1 r2 =>
   cases r1
   rw[ih r2]
   rfl
theorem any_range(bs:List Bool):(List.range bs.length).any (fun i=>bs.getD i false)=bs.any id:=by
 rw[Aqd,List.any_eq_true,List.any_eq_true]
 constructor
 ·rintro⟨i,hi,h⟩
  have hl:=List.mem_range.mp hi
  refine⟨bs[i],ApR hl,?_⟩
  rw[Aqh,Apy hl] at h
  exact h
 ·rintro⟨b,hb,h⟩
  obtain⟨i,hi,e⟩:=Aq6 hb
  refine⟨i,List.mem_range.mpr hi,?_⟩
  rw[Aqh,Apy hi,e]
  exact h
section
variable {X:Cx}{K:PySem.W.Frag}
theorem X5(hK:X.K=K:=by rfl)(hc:X.calm=true:=by rfl):Hb X (.builtin "any") (fun xs H Q=>∃ a bs,xs=[.ref a]∧SqL K H a (vB bs)∧Q (.bl (bs.any id)) H):=by
 subst hK
 intro pins s σ H xs us Q I rv h
 obtain⟨a,bs,rfl,hq,q⟩:=h
 obtain⟨u,rfl,ru⟩:=rv.one
 cases ru
 obtain⟨its,r,pl,hl⟩:=I.list hq
 have ei:=AaE (bs:=bs) r
 subst ei
 obtain⟨o,eo,_⟩:=id pl.isList
 have alt:=Heap.lt_size eo
 refine call_any_walk (wpAny_pyIter_list pl.isList ?_)
 refine⟨_,_,_,_,_,_,fun i=>bs.getD i false,rfl,Walks.list (A:=X.A.in1) (I.ok.hd hc) _ a (Ap3 alt) (bs.map Value.bool).toArray,⟨⟨_,Heap.get?_push_size _ rfl,rfl,rfl⟩,pl.isList.push _⟩,?_,fun h' tk hk=>?_⟩
 ·intro i v s' Q' E' hP hQ
  have hv:(bs.map Value.bool)[i]?=some v:=by simpa using hP
  rw[Ap8] at hv
  cases e:bs[i]? with
  | none=>rw[e] at hv;cases hv
  | some b =>
   rw[e] at hv
   cases hv
   have eb:bs.getD i false=b:=by rw[Aqh,e];rfl
   have hQ':Q' (bs.getD i false) s':=hQ
   rw[eb] at hQ'
   exact wpAny_truthy_bool hQ'
 ·have e1:(List.range ((bs.map Value.bool).toArray).size).any (fun i=>bs.getD i false)=bs.any id:=by
   rw[Ap1,Apx]
   exact any_range bs
  rw[e1]
  refine⟨.bl (bs.any id),H,I.kept (t':=tk) (fun b ob e=>hk b ob ?_ (Heap.get?_push_of_some _ e)),rfl,q⟩
  have lt:=Heap.lt_size e
  intro hm
  rw[List.mem_singleton.mp hm] at lt
  exact ApC _ lt
end
open PySem PySem.Spec PyProof.Rows
theorem all_range(bs:List Bool):(List.range bs.length).all (fun i=>bs.getD i false)=bs.all id:=by
 rw[Aqd,Aq7,Aq7]
 constructor
 ·rintro h b hb
  obtain⟨i,hi,e⟩:=Aq6 hb
  have:=h i (List.mem_range.mpr hi)
  rw[Aqh,Apy hi,e] at this
  exact this
 ·rintro h i hi
  have hl:=List.mem_range.mp hi
  rw[Aqh,Apy hl]
  exact h _ (ApR hl)
section
variable {X:Cx}{K:PySem.W.Frag}
theorem Acj(hK:X.K=K:=by rfl)(hc:X.calm=true:=by rfl):Hb X (.builtin "all") (fun xs H Q=>∃ a bs,xs=[.ref a]∧SqL K H a (vB bs)∧Q (.bl (bs.all id)) H):=by
 subst hK
 intro pins s σ H xs us Q I rv h
 obtain⟨a,bs,rfl,hq,q⟩:=h
 obtain⟨u,rfl,ru⟩:=rv.one
 cases ru
 obtain⟨its,r,pl,hl⟩:=I.list hq
 have ei:=AaE (bs:=bs) r
 subst ei
 obtain⟨o,eo,_⟩:=id pl.isList
 have alt:=Heap.lt_size eo
 refine call_all_walk (wpAny_pyIter_list pl.isList ?_)
 refine⟨_,_,_,_,_,_,fun i=>bs.getD i false,rfl,Walks.list (A:=X.A.in1) (I.ok.hd hc) _ a (Ap3 alt) (bs.map Value.bool).toArray,⟨⟨_,Heap.get?_push_size _ rfl,rfl,rfl⟩,pl.isList.push _⟩,?_,fun h' tk hk=>?_⟩
 ·intro i v s' Q' E' hP hQ
  have hv:(bs.map Value.bool)[i]?=some v:=by simpa using hP
  rw[Ap8] at hv
  cases e:bs[i]? with
  | none=>rw[e] at hv;cases hv
  | some b =>
   rw[e] at hv
   cases hv
   have eb:bs.getD i false=b:=by rw[Aqh,e];rfl
   have hQ':Q' (bs.getD i false) s':=hQ
   rw[eb] at hQ'
   exact wpAny_truthy_bool hQ'
 ·have e1:(List.range ((bs.map Value.bool).toArray).size).all (fun i=>bs.getD i false)=bs.all id:=by
   rw[Ap1,Apx]
   exact all_range bs
  rw[e1]
  refine⟨.bl (bs.all id),H,I.kept (t':=tk) (fun b ob e=>hk b ob ?_ (Heap.get?_push_of_some _ e)),rfl,q⟩
  have lt:=Heap.lt_size e
  intro hm
  rw[List.mem_singleton.mp hm] at lt
  exact ApC _ lt
end
open PySem PySem.Spec PyProof.Rows
def Apj (K:PySem.W.Frag)(n:Nat)(t:TGs):TG:=fun v σ H Q=>∃ a xs,v=.ref a∧SqL K H a xs∧xs.length=n∧t xs σ H Q
section
variable {X:Cx}{K:PySem.W.Frag}{pos:Pos}
end
open PySem PySem.Spec PyProof.Rows
inductive AfH (K:PySem.W.Frag) (H:Hp):Nat→V→V→Prop where
 | flat {n:Nat} {x:V} (h:JB x=true):AfH K H n x x
 | lst {n:Nat} {p q:Addr} {xs ys:List V} (hp:SqL K H p xs) (hq:SqL K H q ys) (hl:xs.length=ys.length) (hi:∀(i:Nat) (x y:V),xs[i]?=some x→ys[i]?=some y→AfH K H n x y):AfH K H (n+1) (.ref p) (.ref q)
 | tup {n:Nat} {p q:Addr} {xs ys:List V} (hp:SqT K H p xs) (hq:SqT K H q ys) (hl:xs.length=ys.length) (hi:∀(i:Nat) (x y:V),xs[i]?=some x→ys[i]?=some y→AfH K H n x y):AfH K H (n+1) (.ref p) (.ref q)
section
variable {X:Cx}{K:PySem.W.Frag}
def Amn (K:PySem.W.Frag)(H:Hp)(p q:Addr):Prop:=∃ xs ys:List V,SqL K H p xs∧SqL K H q ys∧xs.length=ys.length∧∀(i:Nat) (x y:V),xs[i]?=some x→ys[i]?=some y→AfH K H 50 x y
def Apk (K:PySem.W.Frag):R2:=fun x y H Q=>∃ p q,x=.ref p∧y=.ref q∧Amn K H p q∧Q (.bl true) H
def Apl (K:PySem.W.Frag):R2:=fun x y H Q=>∃ p q,x=.ref p∧y=.ref q∧Amn K H p q∧Q (.bl false) H
end
open PySem PySem.Spec PyProof.Rows
section
variable {X:Cx}{K:PySem.W.Frag}{k:Nat}{f C:Addr}{fd:FuncData}{ps:List Str}{sp:Sp}{dvs:List V}{ds:List Value}{x m:Str}{p pos apos:Pos}{e o:Expr}{es:List Expr}{ta:TE}{t:TA}
def Apm (K:PySem.W.Frag):R2:=fun x y H Q=>∃ p q xs,x=.ref p∧y=.ref q∧SqL K H p xs∧SqL K H q []∧Q (.bl (!xs.isEmpty)) H
def Apn (K:PySem.W.Frag):R2:=fun x y H Q=>∃ p q xs,x=.ref p∧y=.ref q∧SqL K H p xs∧SqL K H q []∧Q (.bl xs.isEmpty) H
end
open PySem PySem.Spec PyProof.Rows
def YX (X:Cx)(fp:List Addr)(C:Addr)(s:Shared)(H:Hp)(E:XK):Value→Shared→Prop:=fun e s' =>
 ∃(H1:Hp) (s1:Shared) (m:Str→Option Value),Un (frs X.stack) fp H H1 s.heap s1.heap∧s1.os=s.os∧s1.heap.Ns C m∧H1 C=none∧CX1 X.prog X.w X.stack H1 s1 E e s'
abbrev QZ (X:Cx) (Nc:List Str) (scope:Scope) (cl:List (Str × Addr)) (C:Addr) (fp:List Addr) (s:Shared) (H:Hp) (E:XK):Cx:=(Lb X Nc scope cl C fp s H).wish (YX X fp C s H E)
theorem Ahd{X:Cx}{Nc:List Str}{scope:Scope}{cl:List (Str × Addr)}{C:Addr}{fp:List Addr}{s:Shared}{H:Hp}{E:XK}:Passes (CX1 X.prog X.w) (QZ X Nc scope cl C fp s H E) E:=fun pins σ H1 s1 e s' I c=>by
 obtain⟨m,hn,_⟩:=I.loc
 exact⟨H1,s1,m,I.base,I.os,hn,I.free,c⟩
def Aft (X:Cx)(E:XK)(C:Addr)(e:Value)(s':Shared):Prop :=
 (∃ m,s'.heap.Ns C m)∧∀ h',Heap.SameBut C s'.heap h'→∃ ea Cc t H' B,e=.ref ea∧Fx B X.stack ea Cc t (rawInt X.env.locals) h'∧s'.os=X.s₀.os∧AllBare s'.gens∧Bk X.prog X.w X.outer X.H₀ X.s₀.heap H' B h'∧E (.ref Cc) none H'
theorem Z9{e:Value}{env env':Env}(h:env.frame=env'.frame):noteFrame e env=noteFrame e env':=by
 unfold noteFrame PySem.frameOf
 rw[h]
theorem RZ{h h' base:Heap}:∀{l:List Env},(∀ b∈frs l,h'.get? b=h.get? b)→h.FunFrames base l→h'.FunFrames base l
 | [],_,_=>trivial
 | env::r,k,⟨hk,⟨L,o,hf,hn,ho,hd⟩,hr⟩=>by
  have m:∀ b∈frs r,b∈frs (env::r):=fun b hb=>by unfold frs;rw[ApU,hf];exact Ap6 _ hb
  have mL:L∈frs (env::r):=by unfold frs;rw[ApU,hf];exact ApB
  exact⟨hk,⟨L,o,hf,hn,(k L mL).trans ho,hd⟩,RZ (fun b hb=>k b (m b hb)) hr⟩
section
variable {X:Cx}{pins:List (Addr × Obj)}{σ:St}{H:Hp}{s s':Shared}{E:XK}{e:Value}{C:Addr}{fp:List Addr}
theorem AnP{M:Model}{R:Shared→Prop}{E':Value→Shared→Prop}{cenv:Env}(hB:Body X)(I:Inv X pins σ H s)(hfp:∀ b∈fp,O3 X pins H b)(hC:s.heap.objs.size≤C)(hf:cenv.frame=X.env.frame)
  (c:YX X fp C s H E e s') (k:∀ s'',Aft X E C e s''→R s''):wpAny M X.A (noteFrame e cenv) (fun _ s''=>R s'') E' s':=by
 obtain⟨H1,s1,m,un,os1,hns,nC,ea,Cc,t,H',B,rfl,fx,os,bare,bk,q⟩:=c
 have nx:∀ b:Addr,b∉X.ex:=fun b z=>by rw[hB.ex] at z;exact nomatch z
 have fsS:∀ b,b∈X.fs→b∈frs X.stack:=fun b hb=>by
  rw[hB.stack];unfold frs;rw[ApU,hB.frame];exact Ap6 _ hb
 have stk:∀ b,b∈frs X.stack→∃ o,s.heap.get? b=some o:=fun b hb=>by
  obtain⟨_,o,e,_⟩:=I.stack.mem hb
  exact⟨o,e⟩
 have CS:C∉frs X.stack:=fun z=>by
  obtain⟨o,e⟩:=stk C z
  exact absurd (Heap.lt_size e) (Nat.not_lt.mpr hC)
 have old:∀ b o,s.heap.get? b=some o→b≠C:=fun b o e z=>absurd (Heap.lt_size e) (Nat.not_lt.mpr (z▸hC))
 have nfp:∀ b o,X.s₀.heap.get? b=some o→b∉fp:=fun b o e z=>by
  rcases(hfp b z).2.2.2.1 with y | y
  ·exact nx b y
  ·exact absurd (Heap.lt_size e) (Nat.not_lt.mpr y)
 obtain⟨oC,es,ep,hoC,dC,sk,nf⟩:=hns
 have hBC:B.get? C=some oC:=bk.keep C oC hoC nC CS
 have Amo:H' C=none:=bk.free C oC hoC nC
 have B'C:(PySem.W.hideAll B [C]).get? C=none:=PySem.W.hideAll_none _ ApB
 have Ak2:∀ b o,B.get? b=some o→b≠C→(PySem.W.hideAll B [C]).get? b=some o:=fun b o e z=>PySem.W.hideAll_get _ e fun y=>z (List.mem_singleton.mp y)
 have stays:(PySem.W.hideAll B [C]).StaysIn B:=fun b o e=>PySem.W.of_hideAll _ e
 have fx':Fx (PySem.W.hideAll B [C]) X.stack ea Cc t .none s'.heap:=by
  obtain⟨st,ne,fr,T,oT,ts,hE,hBT,hTe,hT,hdT,h3⟩:=fx
  exact⟨fun b o e=>st b o (stays b o e),PySem.W.fresh_of_stays stays ne,PySem.W.funFrames_base stays fr,T,oT,ts,hE,PySem.W.fresh_of_stays stays hBT,hTe,hT,hdT,h3⟩
 have bkX:Bk X.prog X.w X.outer X.H₀ X.s₀.heap H' (PySem.W.hideAll B [C]) s'.heap:=by
  refine⟨fun b u e=>?_,fun b o e n hb=>?_,fun b o e hb=>?_,fun b o e n=>?_,fun b o e hb=>?_,fun b xs e=>bk.tups b xs (un.tups b xs (I.base.tups b xs e)),fun b o u e=>bk.Iz b o u (un.Iz b o u (I.base.Iz b o u e)),fun b ps e=>?_⟩
  ·refine(bk.ok b u e).stay (fun c v hc z=>Ak2 c v z fun y=>?_) (fun _ z=>z) fun _ _ z=>z
   rcases hc with x | x
   ·rw[← x,y,Amo] at e;cases e
   ·rw[y,Amo] at x;cases x
  ·have e1:=I.base.keep b o e n hb (nx b)
   have n1:=I.base.free b o e n (nx b)
   have bfr:=I.Af4 e hb
   exact Ak2 b o (bk.keep b o (un.keep b o e1 n1 bfr (nfp b o e)) (un.free b o e1 n1 (nfp b o e)) bfr) (old b o e1)
  ·obtain⟨sl,e1⟩:=I.base.slot b o e (I.ok.frf b hb) hb (nx b)
   obtain⟨sl2,e2⟩:=un.slot b _ e1 (I.Aam b (fsS b hb)) (fsS b hb) (nfp b o e)
   obtain⟨sl3,e3⟩:=bk.slot b _ e2 (fsS b hb)
   exact⟨sl3,e3⟩
  ·obtain⟨o',e1⟩:=I.base.there b o e (nx b)
   obtain⟨o2,e2⟩:=un.there b o' e1 (nfp b o e)
   exact bk.free b o2 e2 (un.free b o' e1 (I.base.free b o e n (nx b)) (nfp b o e))
  ·obtain⟨o',e1⟩:=I.base.there b o e (nx b)
   obtain⟨o2,e2⟩:=un.there b o' e1 (nfp b o e)
   obtain⟨o3,e3⟩:=bk.there b o2 e2 (I.Af4 e hb)
   exact⟨o3,Ak2 b o3 e3 (old b o' e1)⟩
  ·obtain⟨m1,e1⟩:=I.base.J5 b ps e
   obtain⟨m2,e2⟩:=un.J5 b _ e1
   obtain⟨m3,e3⟩:=bk.J5 b _ e2
   exact⟨m1++m2++m3,by rw[e3,Array.append_assoc,Array.append_assoc,Array.append_assoc]⟩
 rw[Z9 hf]
 refine AeT hB I.ok.frames (.came fx') fun h1 x1 u1=>k _ ?_
 obtain⟨sl,hC1⟩:=u1 C oC (fx.st C oC hBC) (fun vs z=>by rw[dC] at z;cases z)
 refine⟨⟨m,_,es,ep,hC1,dC,sk,nf⟩,fun h' sb=>?_⟩
 have bk1:=bkX.slots (Aao hB fx'.fr) u1
 obtain⟨st,ne,fr,T,oT,ts,hE,hBT,hTe,hT,hdT,h3⟩:=x1
 have TC:T≠C:=fun z=>by rw[z,hC1] at hT;cases hT;rw[dC] at hdT;cases hdT
 have EC:ea≠C:=fun z=>by rw[z,hC1] at hE;have:=congrArg Obj.data (Option.some.inj hE);dsimp only at this;rw[dC] at this;cases this
 refine⟨ea,Cc,t,H',_,rfl,⟨fun b o e=>(sb.2 b fun z=>by rw[z,B'C] at e;cases e).trans (st b o e),ne,RZ (fun b hb=>sb.2 b fun z=>CS (z▸hb)) fr,T,oT,ts,(sb.2 ea EC).trans hE,hBT,hTe,(sb.2 T TC).trans hT,hdT,h3⟩,os.trans (os1.trans I.os),bare,
  ⟨bk1.ok,bk1.keep,fun b o e hb=>?_,bk1.free,bk1.there,bk1.tups,bk1.Iz,bk1.J5⟩,q⟩
 obtain⟨sl2,e2⟩:=bk1.slot b o e hb
 exact⟨sl2,(sb.2 b fun z=>CS (z▸fsS b hb)).trans e2⟩
end
def Al5 (M:Model)(A:Around)(E:Value→Shared→Prop)(Q:Value→Shared→Prop)(acc:Value)(C:Addr)(f:Option Addr)(r:Result)(s':Shared):Prop :=
 match r with
 | .ok _=>∃ m,s'.heap.Ns C m∧∀ h',Heap.SameBut C s'.heap h'→Q acc { s' with heap:=h' }
 | .error x=>∃ m,s'.heap.Ns C m∧∀ h',Heap.SameBut C s'.heap h'→∀ cenv:Env,cenv.locals=C→cenv.frame=f→wpAny M A (passOn "comprehension.variables-let-go" x cenv:Sem Value) (fun _ _=>False) E { s' with heap:=h' }
section
variable {X:Cx}{pins:List (Addr × Obj)}{σ:St}{H:Hp}{s:Shared}
end
open PySem PySem.Spec PyProof.Rows
section
variable {X:Cx}{pins:List (Addr × Obj)}{σ:St}{H:Hp}{s:Shared}
theorem AdM{x:Str}{px:Pos}{Nc:List Str}{Cg:List Nat}{scope:Scope}{cl:List (Str × Addr)}{iter elt:Expr}{ifs:List Expr}{pos:Pos}{tc:TT}{te:TE}{Q:VK}{it:Addr}{fp:List Addr}{tn:Nat→Heap→Prop}{J:It}
  {RR:Value→Addr→Option Addr→Result→Shared→Prop}{E:Value→Shared→Prop}{E':XK} (hB:Body X)
  (O:Dq X x Nc Cg scope) (hc:X.calm=true)
  (hcl:∀ x c,cl.lookup x=some c→X.env.cells.lookup x=some c∧(x,NameKind.free)∈scope.names) (Ad5:∀ x,(x,NameKind.free)∈scope.names→cl.lookup x=X.env.cells.lookup x)
  (hte:∀ C fp s H,PE (QZ X Nc scope cl C fp s H E') elt te) (htc:∀ C fp s H,PIf (QZ X Nc scope cl C fp s H E') ifs tc)
  (I:Inv X pins σ H s) (T:Turn X.prog X.w X.K (.Name x px) J fp it tn) (st:tn 0 s.heap) (hfp:∀ b∈fp,O3 X pins H b) (h:Xy Cg tc te J σ H Q)
  (hRR:∀(D C:Addr) (s':Shared) (m:Str→Option Value),s'.heap.Ns C m→(∀ h',Heap.SameBut C s'.heap h'→∃ H',Inv X pins σ H' { s' with heap:=h' }∧H' C=none∧Q (.ref D) H') →
   s.heap.objs.size≤C→RR (.ref D) C X.env.frame (.ok .next) s')
  (hRE:∀(D C:Addr) (e:Value) (s':Shared),Aft X E' C e s'→RR (.ref D) C X.env.frame (.error e) s') :
  wpAny (model X.prog X.w) X.A (newList []) (fun acc s₃=>wpAny (model X.prog X.w) X.A (newFunctionEnv scope X.env.globals cl [] X.env.qual none .none (some X.env)) (fun cenv s₄ =>
   codeAny (model X.prog X.w) X.A (.compStart (.ListComp elt [⟨.Name x px,iter,ifs,0⟩] scope pos) 0 (.ref it) acc { cenv with scope:=relabel scope X.env }) (RR acc cenv.locals cenv.frame) s₄) E s₃) E s:=by
 refine wpAny_newObj_type (wpAny_newFunctionEnv O.cell (by intro y hy;simp at hy) (fun h₁ hns₁ hsb₁=>?_) O.kind)
 dsimp only at hns₁ hsb₁ ⊢
 generalize hH2:s.heap.push { cls:=.type "list", dict:=none,data:=.seq ([]:List Value).toArray }=H2 at hns₁ hsb₁ ⊢
 have hC:H2.objs.size=s.heap.objs.size+1:=by rw[← hH2,Heap.size_push]
 have hCle:s.heap.objs.size≤H2.objs.size:=by rw[hC];exact Nat.le_succ _
 have hDC:s.heap.objs.size≠H2.objs.size:=by rw[hC];exact Ap3 (Aqi _)
 have below:∀ b,b<s.heap.objs.size→b≠H2.objs.size∧b≠s.heap.objs.size:=fun b hb=>⟨by rw[hC];exact Ap3 (Nat.lt_succ_of_lt hb),Ap3 hb⟩
 have old:∀ b o,s.heap.get? b=some o→h₁.get? b=some o:=fun b o e=>hsb₁.extBut b o (below b (Heap.lt_size e)).1 (Heap.get?_push_of_some _ (hH2▸Heap.get?_push_of_some _ e))
 have hacc:h₁.get? s.heap.objs.size=some (O4 [] 0):=hsb₁.extBut _ _ hDC (Heap.get?_push_of_some _ (hH2▸Heap.get?_push_size _ rfl))
 have hfo:∀ b∈fp,b<s.heap.objs.size:=fun b hb=>by
  obtain⟨o,e,_⟩:=T.obj _ _ st b hb
  exact Heap.lt_size e
 have st1:tn 0 h₁:=T.keep _ _ _ st fun b _ o e=>old b o e
 generalize hDD:s.heap.objs.size=D at *
 generalize hCC:H2.objs.size=C at *
 have Ake:D≤C:=hCle
 let Y:Cx:=QZ X Nc scope cl C fp s H E'
 have I0:Inv Y [] (none::IK σ Cg) H { s with heap:=h₁,toks:=s.toks+([]:List (Str × Value)).length }:=(Aa5 I O hcl Ad5 (by rw[hDD];exact hCle) hfp (fun b hb=>by rw[hDD];exact hfo b hb) old hns₁).wish _
 have Ag7:H D=none:=by rw[← hDD];exact I.hok.fresh (Apv _)
 have AcK:D≠C:=hDC
 have Dfs:D∉Y.fs:=fun z=>by
  have:=I.stack.mem (show D∈frs X.stack from z)
  obtain⟨_,o,e,_⟩:=this
  have:=Heap.lt_size e
  rw[hDD] at this
  exact ApC _ this
 have Ag8:∀ y c,Y.env.cells.lookup y=some c→c≠D:=fun y c e z=>by
  obtain⟨v,q⟩:=I.cell y c (hcl y c e).1
  have:=q.lt
  rw[z,hDD] at this
  exact ApC _ this
 have Dfp:∀ b∈fp,b≠D:=fun b hb=>Ap3 (hfo b hb)
 have fpY:∀{H':Hp},(∀ b∈fp,H' b=none)→∀ b∈fp,O3 Y [] H' b:=fun hn b hb =>
  ⟨hn b hb,Ap3 (Ap0 (hfo b hb) Ake),fun z=>I0.ok.Ac8 b hb z,.inl hb,fun y c e=>(I0.ok.exf b hb).2 y c e,fun p hp=>absurd (show p∈([]:List (Addr × Obj)) from hp) (by simp)⟩
 obtain⟨W,⟨m0,w0⟩,turn⟩:=h
 have loop:∀ s₃:Shared,s₃={ s with heap:=h₁,toks:=s.toks+([]:List (Str × Value)).length } →
   codeAny (model X.prog X.w) X.A (.compLoop (.ListComp elt [⟨.Name x px,iter,ifs,0⟩] scope pos) 0 (.ref it) (.ref D) (compEnvC scope cl C X.env)) (RR (.ref D) C X.env.frame) s₃:=by
  rintro s₃ rfl
  have err:∀ e s',YX X fp C s H E' e s'→notedBy (model X.prog X.w) X.A (compEnvC scope cl C X.env) (fun e s''=>RR (.ref D) C X.env.frame (.error e) s'') e s':=fun e s' c =>
   AnP hB I hfp (by rw[hDD];exact hCle) rfl c fun s'' q=>hRE D C e s'' q
  refine Vi (fun n s'=>∃(i:Nat) (o:Option V) (H':Hp) (ys:List V) (us:List Value) (k:Nat),Inv Y [] (o::IK σ Cg) H' s'∧tn i s'.heap∧(∀ b∈fp,H' b=none)∧s'.heap.get? D=some (O4 us k)∧H' D=none∧Vals ys us∧W i n ys H')
   ?_ m0 ⟨0,none,H,[],[],0,I0,st1,fun b hb=>(hfp b hb).1,hacc,Ag7,.nil,w0⟩
  rintro n s3 ⟨i,o3,H3,ys,us,k,I3,st3,fr3,hD3,nD3,rv,w3⟩
  have fpP:∀{H':Hp} {ob:Obj},(∀ b∈fp,H' b=none)→∀ b∈fp,O3 Y [(D,ob)] H' b:=fun hn b hb=>by
   obtain⟨g0,g1,g2,g3,g4,_⟩:=fpY hn b hb
   refine⟨g0,g1,g2,g3,g4,fun p hp=>?_⟩
   have e:p=(D,_):=List.mem_singleton.mp (show p∈[(D,_)] from hp)
   rw[e]
   exact Ne.symm (Dfp b hb)
  have IP:Inv Y [(D,O4 us k)] (o3::IK σ Cg) H3 s3:=I3.Ko fun p hp=>by
   have e:p=(D,O4 us k):=List.mem_singleton.mp hp
   subst e
   exact⟨hD3,nD3,AcK,Dfs,fun v z=>by cases z⟩
  have Aeu:∀{σ':St} {H':Hp} {s':Shared} {pl:List (Addr × Obj)},Inv Y ([(D,O4 us k)]++pl) σ' H' s'→s'.heap.get? D=some (O4 us k)∧H' D=none:=fun I'=>by
   have z:=I'.pin (D,O4 us k) (ApE _ (Aqr _ ApB))
   exact⟨z.1,z.2.1⟩
  rcases turn i n ys H3 w3 with ⟨stop,hlen,fin⟩ | ⟨go,hlen,step⟩
  ·
   refine wpAny_mono (T.done Y rfl rfl rfl hc i _ s3 _ H3 (fun _ _=>False) IP (fpP fr3) st3 stop) (fun r s4 hr=>?_) fun _ _ z=>z.elim
   obtain⟨hr,I4⟩:=hr
   subst hr
   obtain⟨gD,nD⟩:=Aeu (pl:=[]) (by simpa using I4)
   obtain⟨m,hn,_⟩:=I4.loc
   refine hRR D C s4 m hn (fun h' hs'=>⟨upd H3 D (.lst ys),?_,(Ao (Ne.symm AcK)).trans I4.free,fin D nD⟩) hCle
   have nt:∀ b ob,H3 b=some ob→b≠C:=fun b ob e z=>by
    have:=I4.free
    rw[z] at e
    rw[show H3 C=none from this] at e
    cases e
   have u1:Un (frs X.stack) fp H H3 s.heap h':=Un.but I4.base hs' (show s.heap.objs.size≤C by rw[hDD];exact hCle)
   have ok1:HOk X.prog X.w H3 h':=fun b ob e=>(I4.hok b ob e).stay (fun c v hc q=>(hs'.2 c (by
    rcases hc with z | z
    ·rw[z];exact nt b ob e
    ·exact nt c _ z)).trans q) (fun _ q=>q) fun _ _ q=>q
   have gD':h'.get? D=some (O4 us k):=(hs'.2 D AcK).trans gD
   exact I.call' (s':={ s4 with heap:=h' }) (ch:=fp) I4.os (u1.track (Aqe hDD) nD) (ok1.track nD ⟨hlen,us,k,rv,gD'⟩) I4.bare fun b hb=>by
    obtain⟨_,g1,_,g3,g4,g5⟩:=hfp b hb
    exact⟨g3,g1,g4,g5⟩
  ·
   refine wpAny_mono (T.item Y rfl rfl rfl hc i _ s3 _ H3 (fun _ _=>False) IP (fpP fr3) st3 go) (fun r s4 hr=>?_) fun _ _ z=>z.elim
   obtain⟨u0,hr,h4⟩:=hr
   subst hr
   refine wpAny_mono h4 (fun _ s5 h5=>?_) fun _ _ z=>z.elim
   obtain⟨x5,H5,I5,r5,y5,st5,fr5⟩:=h5
   have I5':=I5.pinned (fpP fr5) (T.obj _ _ st5)
   have tgt:PG Y (.Name x px) (YT 0):=Eb (i:=0) O.nd O.hd (.inl (FN I.ok.kind O.loc (by intro z;cases z))) (.inr (FN I.ok.kind O.loc (by intro z;cases z)))
   refine wpAny_mono (tgt _ s5 _ H5 x5 u0 (fun σ2 H2=>σ2=some x5::IK σ Cg∧H2=H5) I5' r5 ⟨rfl,rfl⟩) (fun _ s6 h6=>?_) err
   obtain⟨_,_,I6,rfl,rfl⟩:=h6
   refine wpAny_mono ((htc C fp s H).run I6 (step x5 _ y5)) (fun b s7 h7=>?_) err
   obtain⟨H7,I7,q7⟩:=h7
   have Ad6:∀{σ':St} {H':Hp} {s':Shared},Inv Y ([(D,O4 us k)]++Xr fp s5.heap) σ' H' s'→tn (i+1) s'.heap∧∀ b∈fp,H' b=none:=fun I' =>
    ⟨T.keep _ _ _ st5 fun b hb o e=>(I'.pin (b,o) (ApE _ (ApE _ (Hu hb e)))).1,fun b hb=>by
     obtain⟨o,e,d⟩:=T.obj _ _ st5 b hb
     exact(I'.pin (b,o) (ApE _ (ApE _ (Hu hb e)))).2.1⟩
   cases b with
   | false =>
    rw[if_neg Ap4] at q7
    rw[if_neg Ap4]
    obtain⟨m',hm,w7⟩:=q7
    obtain⟨gD,nD⟩:=Aeu I7
    obtain⟨k1,k2⟩:=Ad6 I7
    exact⟨m',hm,i+1,some x5,H7,ys,us,k,I7.Ko (fun p hp=>nomatch hp),k1,k2,gD,nD,rv,w7⟩
   | true =>
    rw[if_pos rfl] at q7
    rw[if_pos rfl]
    refine wpAny_mono (hte C fp s H _ s7 _ H7 _ I7 q7) (fun u8 s8 h8=>?_) err
    obtain⟨y8,H8,I8,r8,m',hm,w8⟩:=h8
    obtain⟨gD,nD⟩:=Aeu I8
    obtain⟨k1,k2⟩:=Ad6 I8
    refine call_meets F.slot_list_append ⟨_,gD,rfl⟩ F.entry_list_append (F.args_list_append_2 _ _) (PySem.list_append D us.toArray k u8 (by rw[Ap1,← rv.length];omega)) ⟨gD,?_⟩
    have q:=PySem.IsL.update gD (·.push u8)
    have e1:us.toArray.push u8=(us++[u8]).toArray:=by simp
    rw[e1] at q
    have I8':Inv Y [] (some x5::IK σ Cg) H8 s8:=I8.Ko (fun p hp=>nomatch hp)
    have I9:Inv Y [] (some x5::IK σ Cg) H8 { s8 with heap:=s8.heap.update D (Obj.mapSeq (·.push u8)),toks:=s8.toks } :=
     I8'.turned (it:=D) (fun b o hb e=>(Heap.get?_update_other s8.heap (Obj.mapSeq (·.push u8)) (Ne.symm hb)).trans e) nD AcK (.inr (Aqe hDD)) Ag8 (fun p hp=>nomatch hp)
    refine⟨m',hm,i+1,some x5,H8,ys++[y8],us++[u8],_,I9,T.keep _ _ _ k1 fun b hb o e=>(Heap.get?_update_other s8.heap (Obj.mapSeq (·.push u8)) (Ne.symm (Dfp b hb))).trans e,k2,q,nD,rv.append (.cons r8 .nil),w8⟩
 exact codeAny_compStart_list (loop _ rfl) (T.self X.A 0 _ _ _ st1 (loop _ rfl))
end
def Ack (M:Model)(A:Around)(E:Value→Shared→Prop)(u:Value→Sem Unit)(Q:Value→Shared→Prop)(acc:Value)(C:Addr)(f:Option Addr)(r:Result)(s':Shared):Prop :=
 match r with
 | .ok _=>wpAny M A (u acc) (fun _ s''=>∃ m,s''.heap.Ns C m∧∀ h',Heap.SameBut C s''.heap h'→Q .none { s'' with heap:=h' }) E s'
 | .error x=>∃ m,s'.heap.Ns C m∧∀ h',Heap.SameBut C s'.heap h'→∀ cenv:Env,cenv.locals=C→cenv.frame=f→wpAny M A (passOn "comprehension.variables-let-go" x cenv:Sem Value) (fun _ _=>False) E { s' with heap:=h' }
theorem Ae2{M:Model}{A:Around}{E:Value→Shared→Prop}{s:Shared}{env:Env}{e:Expr}{scope:Scope}{pos:Pos}{newAcc first:Sem Value}{g:Comprehension}{gs:List Comprehension}{cl:List (Str × Addr)}{u:Value→Sem Unit}{Q:Value→Shared→Prop}
  (hcl:clausesOf e=g::gs) (hs:∀ x,foldedSetIterable g.iter env x=pure x) (hclos:closureFor scope env=pure cl)
  (hkind:scope.kind=.function) (hnames:∀ x∈scope.names,x.2=.local→scope.names.lookup x.1=some .local)
  (h:wpAny M A first (fun x s₁=>wpAny M A (pyIter x) (fun it s₂=>wpAny M A newAcc (fun acc s₃ =>
   wpAny M A (newFunctionEnv scope env.globals cl [] env.qual none .none (some env)) (fun cenv s₄ =>
    codeAny M A (.compStart e 0 it acc { cenv with scope:=relabel scope env }) (Ack M A E u Q acc cenv.locals cenv.frame) s₄) E s₃) E s₂) E s₁) E s) :
  wpAny M A (comprehension e scope env pos newAcc false first (some u)) Q E s:=by
 unfold comprehension
 rw[hclos,hcl]
 refine wpAny_bind (wpAny_mono h (fun x s₁ h₁=>wpAny_bind (wpAny_standAt (wpAny_bind (wpAny_of_eq (hs x) (wpAny_bind (wpAny_holding (wpAny_mono h₁ (fun it s₂ h₂ =>
  wpAny_standIf (wpAny_bind (wpAny_mono h₂ (fun acc s₃ h₃=>wpAny_bind (wpAny_pure (wpAny_bind (wpAny_mono h₃ (fun cenv s₄ h₄=>?_) fun _ _ h'=>h')))) fun _ _ h'=>h')))
   fun _ _ h'=>h'))))))) fun _ _ h'=>h')
 dsimp only
 have hv:∀ x∈(scope.names.filter fun x=>(x.2 == .local || x.2 == .cell) && x.1 != (".0" : Str)).reverse,x.2=.local →
   Env.kindOf { cenv with scope:=relabel scope env } x.1=some .local:=fun x hx hl=>lookup_relabel_local (hnames x (List.mem_filter.mp (List.mem_reverse.mp hx)).1 hl)
 have hv':∀ x∈(scope.names.filter fun x=>(x.2 == .local || x.2 == .cell) && x.1 != (".0" : Str)).reverse.drop 1++(scope.names.filter fun x=>(x.2 == .local || x.2 == .cell) && x.1 != (".0" : Str)).reverse.take 1,
   x.2=.local→Env.kindOf { cenv with scope:=relabel scope env } x.1=some .local:=fun x hx hl=>(List.mem_append.mp hx).elim (fun h1=>hv x (List.mem_of_mem_drop h1) hl) (fun h1=>hv x (List.mem_of_mem_take h1) hl)
 refine wpAny_holding (wpAny_bind (wpAny_attempt (wpAny_holding (wpAny_run (codeAny_mono h₄ fun r s' hr=>?_)))))
 cases r with
 | ok f =>
  refine wpAny_bind (wpAny_rule (wpAny_bind (wpAny_holding (wpAny_mono hr (fun _ s'' hr'=>?_) fun _ _ h'=>h'))))
  obtain⟨m,hn,hr'⟩:=hr'
  exact wpAny_bind (wpAny_comp_letGo (cenv:={ cenv with scope:=relabel scope env }) hkind _ s'' m hv' hn fun h' m' _ hs'=>wpAny_pure (hr' h' hs'))
 | error x =>
  obtain⟨m,hn,hr⟩:=hr
  exact wpAny_bind (wpAny_holding (wpAny_comp_letGo (cenv:={ cenv with scope:=relabel scope env }) hkind _ s' m hv hn fun h' m' _ hs'=>wpAny_mono (hr h' hs' _ rfl rfl) (fun _ _ f=>f.elim) fun _ _ y=>y))
section
variable {X:Cx}{pins:List (Addr × Obj)}{σ:St}{H:Hp}{s:Shared}
theorem AaF{E':XK}{i:Nat}{y x:Str}{px py pos spos:Pos}{Nc:List Str}{Cg:List Nat}{scope:Scope}{iter elt:Expr}{ifs:List Expr}{wi:TI}{tc:TT}{te:TE}(hB:Body X)(hw:∀ e s',FlX X E' e s'→X.xe e s')(O:Dq X x Nc Cg scope)(hc:X.calm=true)
  (hN:X.N.Nodup) (hy:X.N[i]?=some y) (hx:X.env.scope.names.lookup y=some .local) (hi:PI X (.Name x px) iter wi)
  (htc:∀ cl C fp s H,PIf (QZ X Nc scope cl C fp s H E') ifs tc) (hte:∀ cl C fp s H,PE (QZ X Nc scope cl C fp s H E') elt te)
  (hsw:swapsWith (.ListComp elt [⟨.Name x px,iter,ifs,0⟩] scope pos) (some (.Name y py)) spos.line X.env=pure true) (hs:∀ x,foldedSetIterable iter X.env x=pure x:=by intro _;rfl) :
  PS X (.Assign [.Name y py] (.ListComp elt [⟨.Name x px,iter,ifs,0⟩] scope pos) spos) (AjL (Ag4 wi Cg tc te) (YT i)):=by
 intro pins s σ H Dn I h
 rw[exec_Assign_Name_used _ _ _ _ hsw]
 refine wpAny_bind (wpAny_standAt (wpAny_bind ?_))
 obtain⟨cl,e1,e2,e3⟩:=Tu (scope:=scope) (env:=X.env) fun y hy hf=>I.ok.has y.1 (.inl (O.fr y hy hf).1)
 show wpAny _ X.A (do let _ ← comprehension (.ListComp elt [⟨.Name x px,iter,ifs,0⟩] scope pos) scope X.env _ (newList []) false (eval iter X.env) (some (assign (.Name y py) X.env))) _ _ s
 refine wpAny_bind (wpAny_mono (Ae2 (u:=assign (.Name y py) X.env) (Q:=fun _ s'=>SP X pins Dn .next s') rfl hs e1 O.kind O.names
  (thn (hi pins s σ H _ I h) fun v s1 h1=>thn h1 fun itv s2 h2=>?_)) (fun _ s' hq=>wpAny_pure (wpAny_pure hq)) fun _ _ e=>e)
 obtain⟨it,fp,tn,J,H2,e,I2,T,st2,f2,w2⟩:=h2
 subst e
 refine AdM (RR:=fun acc C f=>Ack (model X.prog X.w) X.A X.xe (assign (.Name y py) X.env) (fun _ s'=>SP X pins Dn .next s') acc C f) hB O hc e2 e3 (hte cl) (htc cl) I2 T st2 f2 w2 ?_ ?_
 ·intro D C s' m hn hq hC
  show wpAny _ X.A (assign (.Name y py) X.env (.ref D)) _ _ _
  obtain⟨H',I',nC,q⟩:=hq s'.heap (.refl ..)
  have I'':Inv X pins σ H' s':=I'
  have CL:C≠X.env.locals:=Aqs (Ap0 I2.lt hC)
  have Ad7:∀ y c,X.env.cells.lookup y=some c→c≠C:=fun y c e z=>by
   obtain⟨v,q⟩:=I2.cell y c e
   have:=Ap0 q.lt hC
   rw[z] at this
   exact ApC _ this
  refine wpAny_assign_Name (Xp I'' hN hy (.inl hx) (show RelV (.ref D) (.ref D) from rfl) (fun s3 I3 hsb=>?_) (.inr hx))
  obtain⟨a,hsb,ha⟩:=hsb
  have aC:C≠a:=by
   rcases ha with z | z
   ·rw[z];exact CL
   ·exact Ne.symm (Ad7 _ _ z)
  refine⟨m,hn.sameBut hsb aC,fun h4 hs4=>?_⟩
  refine⟨_,H',I3.turned (it:=C) (t':=s3.toks) (fun b o hb e=>(hs4.2 b hb).trans e) nC CL (.inr (ApA I2.sz hC)) Ad7 (fun p hp z=>?_),q⟩
  ·have:=Ap0 (Heap.lt_size (I2.pin p hp).1) hC
   rw[z] at this
   exact ApC _ this
 ·intro D C e s' ⟨⟨m,hn⟩,hq⟩
  refine⟨m,hn,fun h' hs' cenv _ hf=>?_⟩
  obtain⟨ea,Cc,t,H',B,rfl,fx,os,bare,bk,q⟩:=hq h' hs'
  unfold PySem.passOn
  obtain⟨T',oT,ts,hE,_⟩:=fx.ob
  refine wpAny_bind (wpAny_field (s:={ s' with heap:=h' }) hE rfl (x:=.ref T') rfl ?_)
  rw[if_neg (by simp)]
  refine wpAny_bind (Acf (s:={ s' with heap:=h' }) (f:=cenv.frame) fx fun h2 x2 u2=>?_)
  rw[hf,hB.frame] at x2
  refine wpAny_throw (hw _ _ ⟨ea,Cc,t,H',B,rfl,.seen x2,os,bare,bk.slots (Aao hB fx.fr) u2,q⟩)
end
open PySem PySem.Spec PyProof.Rows
section
variable {X:Cx}
end
end L2
namespace Mine
open PySem L2
def Sg (c:Nat):Prop:=c=35∨c=46
structure Cl (cl:List (List Nat)) (m n:Nat):Prop where
 hn:cl.length=n
 hm:∀ t∈cl,t.length=m
 sg:∀ t∈cl,∀ c∈t,Sg c
 m1:1≤m
 m40:m≤40
 n1:1≤n
 n40:n≤40
def flip(c:Nat):Nat:=if c=35 then 46 else 35
def back(cl:List (List Nat)):List (List Nat):=cl.map fun t=>t.reverse.map flip
def col (cl:List (List Nat))(e:Nat):List Nat:=cl.map fun t=>t.getD e 0
def Amp (cl:List (List Nat))(m:Nat):List (List Nat):=(List.range m).map fun e=>(col cl e).map flip
def sgn (cl:List (List Nat))(m n:Nat)(x y:Int):Nat:=(cl.getD (y%(n:Int)).toNat []).getD (x%(m:Int)).toNat 0
def Rn (a b:Int):List Int:=if a<b then X4 (a+1) 1 (b-a).toNat else X4 (a-1) (-1) (a-b).toNat
def AcS (z:Int):Int:=if z<0 then -z else z
def go (a:Int):List Int→List Int
 | []=>[]
 | b::r=>Rn a b++go b r
def AdN:List Int→List Int
 | []=>[]
 | s::r=>s::go s r
def lst (a:Int):List Int→Int
 | []=>a
 | b::r=>lst b r
theorem Aaq:∀(a:Int) (r:List Int) (b:Int),go a (r++[b])=go a r++Rn (lst a r) b
 | a,[],b=>by simp[go,lst]
 | a,c::r,b=>by rw[Aqn,go,Aaq c r b,go,lst,ApW]
theorem lst_snoc:∀(a:Int) (r:List Int) (b:Int),lst a (r++[b])=b
 | a,[],b=>rfl
 | a,c::r,b=>by rw[Aqn,lst,lst_snoc c r b]
theorem AdO(a c:Int)(n:Nat):(X4 a c n).length=n:=by unfold X4;rw[Apx,ApG]
theorem AaG(a b:Int):((Rn a b).length:Int)=AcS (b-a):=by
 unfold Rn AcS
 split
 ·rw[AdO,if_neg (by omega)];omega
 ·rw[AdO]
  split <;> omega
theorem AdP{a c:Int}{n i:Nat}(h:i<n):(X4 a c n)[i]?=some (a+(i:Int)*c):=by
 unfold X4
 rw[Ap8,List.getElem?_range h]
 rfl
theorem Ahe{a b:Int}{q:Nat}(h1:1≤q)(h2:(q:Int)≤AcS (b-a)):(Rn a b)[q-1]?=some (a+(if b-a<0 then -1 else 1)*(q:Int)):=by
 unfold Rn
 unfold AcS at h2
 by_cases c:a<b
 ·rw[if_pos c,AdP (by rw[if_neg (by omega)] at h2;omega),if_neg (by omega)]
  congr 1
  omega
 ·rw[if_neg c]
  by_cases d:b-a<0
  ·rw[if_pos d] at h2 ⊢
   rw[AdP (by omega)]
   congr 1
   omega
  ·rw[if_neg d] at h2
   omega
theorem AaH{l r:List Int}(h:r≠[]):(l++r).getLast?=r.getLast?:=by
 rw[List.getLast?_append]
 cases e:r.getLast? with
 | none=>exact absurd (List.getLast?_eq_none_iff.mp e) h
 | some z=>rfl
theorem Acl{a b:Int}(h:a≠b):(Rn a b).getLast?=some b:=by
 have hl:=AaG a b
 have pos:0<(Rn a b).length:=by unfold AcS at hl;split at hl <;> omega
 rw[List.getLast?_eq_getElem?]
 have e:=Ahe (a:=a) (b:=b) (q:=(Rn a b).length) pos (by omega)
 rw[e]
 congr 1
 rw[hl]
 unfold AcS
 split <;> omega
theorem Ahf(a:Int):Rn a a=[]:=by
 have:=AaG a a
 unfold AcS at this
 have h:(Rn a a).length=0:=by split at this <;> omega
 exact Aqu h
theorem AeX:∀(l:List Int) (a:Int) (r:List Int),l.getLast?=some a→(l++go a r).getLast?=some (lst a r)
 | l,a,[],h=>by simpa [go,lst] using h
 | l,a,b::r,h=>by
  rw[go,lst,← ApW]
  refine AeX _ b r ?_
  by_cases e:a=b
  ·rw[e,Ahf,Aqj,← e];exact h
  ·rw[AaH (fun z=>by have:=Acl e;rw[z] at this;cases this)]
   exact Acl e
theorem AfI(s:Int)(r:List Int):(s::go s r).getLast?=some (lst s r):=AeX [s] s r rfl
def dec (n:Nat):List Nat:=(Str.ofString (toString (n:Int))).cps.toList
def AoA (n:Nat):Bool:=(dec n).all (fun c=>decide (48≤c∧c≤57)) && decide (1≤(dec n).length∧(dec n).length≤2) && decide (¬((dec n).length=2∧(dec n)[0]?=some 48)) && decide (PySem.NumText.digitsVal (dec n)=n)
structure Dec (n:Nat):Prop where
 dg:∀ c∈dec n,48≤c∧c≤57
 l1:1≤(dec n).length
 l2:(dec n).length≤2
 z:¬((dec n).length=2∧(dec n)[0]?=some 48)
 v:PySem.NumText.digitsVal (dec n)=n
def tails:List Nat→List Nat
 | []=>[]
 | n::r=>45::(dec n++tails r)
def Amq:List Nat→List Nat
 | []=>[]
 | n::r=>dec n++tails r
def Stop(rest:List Nat):Prop:=∀ c,rest[0]?=some c→¬(48≤c∧c≤57)∧c≠45
inductive Nd where
 | nam (w:List Nat)
 | num (n:Nat)
 | run (r:List Nat)
 | node (w:List Nat) (ts:List Nd)
namespace Pat
def sk (l:List Nat):List Nat:=l.dropWhile fun c=>decide (c=32)
def letter(c:Nat):Bool:=decide (97≤c∧c≤122)
def Dw (c:Nat):Bool:=decide (48≤c∧c≤57)
def knot(c:Nat):Bool:=decide (c=35∨c=46)
def one (c:Nat):List Nat→Option (List Nat)
 | []=>none
 | a::l=>if a=c then some l else none
def Acm (f:List Nat):Bool:=decide ((1≤f.length∧f.length≤2)∧¬(f.length=2∧f[0]?=some 48))
def num (l:List Nat):Option (Nat × List Nat) :=
 if Acm (l.takeWhile Dw)=true then some (PySem.NumText.digitsVal (l.takeWhile Dw),sk (l.dropWhile Dw)) else none
def comma(l:List Nat):Option (List Nat):=(one 44 l).map sk
def run (l:List Nat):Option (List Nat × List Nat) :=
 if l.takeWhile knot=[] then none else some (l.takeWhile knot,sk (l.dropWhile knot))
def Et:Nat→List Nat→Option (List (List Nat) × List Nat)
 | 0,_=>none
 | k+1,l=>match one 44 l with
  | none=>some ([],l)
  | some l1=>match run (sk l1) with
   | none=>none
   | some (r,l2)=>(Et k l2).map fun p=>(r::p.1,p.2)
def runs(l:List Nat):Option (List (List Nat) × List Nat) :=
 match run l with
 | none=>none
 | some (r,l1)=>match Et (l1.length+1) l1 with
  | none=>none
  | some (rs,l2)=>if (r::rs).length>40 then none else some (r::rs,l2)
def wants(w:List Nat):Option (List Nat) :=
 if w=[116,119,105,108,108]∨w=[115,97,116,105,110] then some [110,110]
 else if w=[98,101,115,105,100,101]∨w=[97,98,111,118,101]∨w=[108,97,121] then some [112,112]
 else if w=[109,105,114,114,111,114]∨w=[117,112,101,110,100]∨w=[98,97,99,107]∨w=[113,117,97,114,116,101,114] then some [112]
 else if w=[116,105,108,101] then some [112,110,110]
 else if w=[98,108,111,99,107,115] then some [112,112,112]
 else none
def DQ:List Nat:=[114,111,119,115]
def isWord(w:List Nat):Bool:=decide (w=DQ) || (wants w).isSome
def isName(w:List Nat):Bool:=decide (1≤w.length∧w.length≤20) && w.all letter && !isWord w
def args(sub:List Nat→Option (Nd × List Nat)):Bool→List Nat→List Nat→Option (List Nd × List Nat)
 | _,[],l=>some ([],l)
 | fst,k::ks,l =>
  match (if fst=true then some l else comma l) with
  | none=>none
  | some l1=>match (if k=112 then sub l1 else (num l1).map fun p=>(Nd.num p.1,p.2)) with
   | none=>none
   | some (a,l2)=>(args sub false ks l2).map fun p=>(a::p.1,p.2)
def things(sub:List Nat→Option (Nd × List Nat))(w l:List Nat):Option (List Nd × List Nat) :=
 if w=DQ then (runs l).map fun p=>(p.1.map Nd.run,p.2)
 else match wants w with
  | none=>none
  | some ks=>args sub true ks l
def node:Nat→List Nat→Option (Nd × List Nat)
 | 0,_=>none
 | d+1,l =>
  match one 40 (sk (l.dropWhile letter)) with
  | none=>if isName (l.takeWhile letter)=true then some (.nam (l.takeWhile letter),sk (l.dropWhile letter)) else none
  | some l1=>match things (node d) (l.takeWhile letter) (sk l1) with
   | none=>none
   | some (ts,l2)=>match one 41 l2 with
    | none=>none
    | some l3=>some (.node (l.takeWhile letter) ts,sk l3)
def whole(l:List Nat):Option Nd :=
 match node 12 (sk l) with
 | some (n,[])=>some n
 | _=>none
end Pat
def wid (cl:List (List Nat))(ac:Nat):List (List Nat):=cl.map fun t=>(List.replicate ac t).flatten
def til (cl:List (List Nat))(ac al:Nat):List (List Nat):=(List.replicate al (wid cl ac)).flatten
def plc (os:List Int)(k:Nat):Nat:=(os.take k).count (os.getD k 0)
def Amr (o e:Int)(own:List Nat)(p:Nat):Nat:=if o=e then own.getD p 0 else if e<o then 35 else 46
def Ak3 (ps:List (List (List Nat)))(es:List Int)(o:Int)(b:Nat):List Nat:=(List.range es.length).map fun k=>Amr o (es.getD k 0) ((ps.getD o.toNat []).getD b []) (plc es k)
def lay (ps:List (List (List Nat)))(es os:List Int):List (List Nat):=(List.range os.length).map fun j=>Ak3 ps es (os.getD j 0) (plc os j)
structure Apo (ps:List (List (List Nat))) (es os:List Int):Prop where
 e:∀ z∈es,0≤z∧z<(ps.length:Int)
 o:∀ z∈os,0≤z∧z<(ps.length:Int)
 hn:∀ i,i<ps.length→(ps.getD i []).length=os.count (i:Int)
 hm:∀ i,i<ps.length→∀ t∈ps.getD i [],t.length=es.count (i:Int)∧∀ c∈t,Sg c
 e1:1≤es.length
 e40:es.length≤40
 o1:1≤os.length
 o40:os.length≤40
structure Own (es:List Int) (z:Int) (i:Nat) (ms:List Nat):Prop where
 len:ms.length=(es.take i).count z
 lt:∀ m∈ms,m<i
 at':∀ a m,ms[a]?=some m→es.getD m 0=z∧(es.take m).count z=a
def Rs (ks:List Int):Prop:=(∀(i:Nat) (a b:Int),ks[i]?=some a→ks[i+1]?=some b→a<b)∧∀ k∈ks,0≤k∧k<40
structure Ft (th:List Int) (tss:List (List Int)) (tr:List Int):Prop where
 m1:1≤th.length
 m40:th.length≤40
 t1:1≤tss.length
 t40:tss.length≤40
 n1:1≤tr.length
 n40:tr.length≤40
 hth:∀ v∈th,0≤v∧v<40
 hti:∀ ks∈tss,Rs ks
 htr:∀ v∈tr,0≤v∧v<tss.length
def shd (th ks:List Int):List Nat:=th.map fun s=>if s∈ks then 35 else 46
def wv (th:List Int)(tss:List (List Int))(tr:List Int):List (List Nat):=tr.map fun v=>shd th (tss.getD v.toNat [])
section
variable {α β:Type} [DecidableEq α] [DecidableEq β]
def unl (l:List α):List α:=l.foldl (fun f x=>if x∈f then f else f++[x]) []
def ix (l:List α)(x:α):Nat:=@List.idxOf α instBEqOfDecidableEq x l
def num (l:List α):List Nat:=l.map fun x=>ix (unl l) x
end
def bw (bs:List Nat)(F:Nat)(ws:List Nat):List Nat:=bs.flatMap fun b=>ws.map fun x=>b*F+x
def fil (pr one other:List (List Nat)):List (List Nat):=pr.flatMap fun u=>(one.zip other).map fun q=>u.flatMap fun c=>if c=35 then q.1 else q.2
section
variable {pr one other:List (List Nat)}{m n w h:Nat} (C:Cl pr m n) (C1:Cl one w h) (C2:Cl other w h)
include C C1 C2
end
def twW:List Nat:=[116,119,105,108,108]
def saW:List Nat:=[115,97,116,105,110]
def beW:List Nat:=[98,101,115,105,100,101]
def abW:List Nat:=[97,98,111,118,101]
def miW:List Nat:=[109,105,114,114,111,114]
def upW:List Nat:=[117,112,101,110,100]
def baW:List Nat:=[98,97,99,107]
def quW:List Nat:=[113,117,97,114,116,101,114]
def tiW:List Nat:=[116,105,108,101]
def blW:List Nat:=[98,108,111,99,107,115]
def laW:List Nat:=[108,97,121]
def twl (m n:Nat)(y x:Nat):Nat:=if (x+(m+n)-y)%(m+n)<m then 35 else 46
def twT (m n y:Nat):List Nat:=(List.range (m+n)).map (twl m n y)
def Apq (m n:Nat):List Nat:=List.replicate m 35++List.replicate n 46
def stT (s o:Nat):List Nat:=(List.range s).map fun x=>if x=o then 35 else 46
def saT (s p y:Nat):List Nat:=stT s (y*p%s)
def AnQ (m n i:Nat):List Bool:=(List.range i).map fun j=>decide (m%(2+j)=0) && decide (n%(2+j)=0)
def cop (m n k:Nat):Bool:=(AnQ m n (k-1)).any id
def Pri (s p:Nat):Prop:=1≤p∧p<s∧cop s p p=false
instance (s p:Nat):Decidable (Pri s p):=inferInstanceAs (Decidable (_∧_∧_))
inductive Rf where
 | nop
 | big
 | unk
inductive Res where
 | ok (rows:List (List Nat))
 | no (f:Rf)
def wdt (x:List (List Nat)):Nat:=(x.headD []).length
def Acn (rs:List (List Nat)):Res:=if (rs.map fun r=>decide (¬r.length=wdt rs)).any id=true then .no .nop else if 40<wdt rs∨40<rs.length then .no .big else .ok rs
def Ak4 (a b:Nat):Res:=if a<1∨b<1 then .no .nop else if 40<a+b then .no .big else .ok ((List.range (a+b)).map (twT a b))
def Ak5 (m n:Nat):Res:=if ¬Pri m n then .no .nop else if 40<m then .no .big else .ok ((List.range m).map (saT m n))
def AiB (x y:List (List Nat)):Res:=if ¬x.length=y.length then .no .nop else if 40<wdt x+wdt y∨40<x.length then .no .big else .ok (List.zipWith (·++·) x y)
def Ak6 (x y:List (List Nat)):Res:=if ¬wdt x=wdt y then .no .nop else if 40<wdt x∨40<x.length+y.length then .no .big else .ok (x++y)
def AnR (z:List Nat)(x:List (List Nat)):Res:=if z=miW then .ok (x.map List.reverse) else if z=upW then .ok x.reverse else if z=baW then .ok (back x) else .ok (Amp x (wdt x))
def Ams (x:List (List Nat))(a b:Nat):Res:=if a<1∨b<1 then .no .nop else if 40<wdt x*a∨40<x.length*b then .no .big else .ok (til x a b)
def AiC (p x y:List (List Nat)):Res:=if ¬wdt x=wdt y∨¬x.length=y.length then .no .nop else if 40<wdt p*wdt x∨40<p.length*x.length then .no .big else .ok (fil p x y)
def Amt (k:Nat):List Int:=(List.replicate k [(0:Int),1]).flatten
def AnS (x y:List (List Nat)):Res:=if ¬wdt x=wdt y∨¬x.length=y.length then .no .nop else if 40<2*wdt x∨40<2*x.length then .no .big else .ok (lay [x,y] (Amt (wdt x)) (Amt x.length))
inductive Arg where
 | num (n:Nat)
 | run (r:List Nat)
 | cl (x:List (List Nat)) (z:List Nat)
def runOf:Arg→List Nat
 | .run r=>r
 | _=>[]
def made(z:List Nat)(as:List Arg):Res :=
 if z=Pat.DQ then Acn (as.map runOf) else
 match as with
 | [.num a,.num b]=>if z=twW then Ak4 a b else Ak5 a b
 | [.cl x _]=>AnR z x
 | [.cl x _,.cl y _]=>if z=beW then AiB x y else if z=abW then Ak6 x y else AnS x y
 | [.cl x _,.num a,.num b]=>Ams x a b
 | [.cl x _,.cl y _,.cl w _]=>AiC x y w
 | _=>.no .nop
def cj:List (List Nat)→List Nat
 | []=>[]
 | y::ys=>y++(ys.map fun y=>[44]++y).flatten
def wrA:Arg→List Nat
 | .num n=>dec n
 | .run r=>r
 | .cl _ z=>z
def wz (z:List Nat)(ys:List (List Nat)):List Nat:=z++(40::(cj ys++[41]))
def wr:Nat→Nd→List Nat
 | _,.nam z=>z
 | _,.num n=>dec n
 | _,.run r=>r
 | 0,.node _ _=>[]
 | d+1,.node z ts=>wz z (ts.map (wr d))
def arg (sub:Nd→Res)(wrt:Nd→List Nat):Nd→Rf ⊕ Arg
 | .num n=>.inr (.num n)
 | .run r=>.inr (.run r)
 | .nam z=>match sub (.nam z) with
  | .ok x=>.inr (.cl x (wrt (.nam z)))
  | .no f=>.inl f
 | .node z ts=>match sub (.node z ts) with
  | .ok x=>.inr (.cl x (wrt (.node z ts)))
  | .no f=>.inl f
def args(sub:Nd→Res)(wrt:Nd→List Nat):List Nd→Rf ⊕ List Arg
 | []=>.inr []
 | x::ts=>match arg sub wrt x with
  | .inl f=>.inl f
  | .inr a=>match args sub wrt ts with
   | .inl f=>.inl f
   | .inr as=>.inr (a::as)
abbrev Kns:=List (List Nat × List (List Nat))
def known(kn:Kns)(z:List Nat):Res:=match kn.find? fun p=>decide (p.1=z) with
 | some p=>.ok p.2
 | none=>.no .unk
def out (kn:Kns):Nat→Nd→Res
 | _,.nam z=>known kn z
 | d+1,.node z ts=>match args (out kn d) (wr d) ts with
  | .inl f=>.no f
  | .inr as=>made z as
 | _,_=>.no .nop
theorem Ak7{d:Nat}{z:List Nat}:wr d (.nam z)=z:=by cases d <;> rfl
theorem Ak8{d n:Nat}:wr d (.num n)=dec n:=by cases d <;> rfl
theorem Ahg{d:Nat}{r:List Nat}:wr d (.run r)=r:=by cases d <;> rfl
inductive Wd:Nat→Nd→Prop
 | nam {d:Nat} {z:List Nat}:Pat.isName z=true→Wd (d+1) (.nam z)
 | rows {d:Nat} {rs:List (List Nat)}:rs≠[]→rs.length≤40→(∀ r∈rs,r≠[]∧∀ c∈r,Sg c)→Wd (d+1) (.node Pat.DQ (rs.map Nd.run))
 | nums {d:Nat} {z:List Nat} {a b:Nat}:z=twW∨z=saW→a<100→b<100→Wd (d+1) (.node z [.num a,.num b])
 | one {d:Nat} {z:List Nat} {x:Nd}:z=miW∨z=upW∨z=baW∨z=quW→Wd d x→Wd (d+1) (.node z [x])
 | two {d:Nat} {z:List Nat} {x y:Nd}:z=beW∨z=abW∨z=laW→Wd d x→Wd d y→Wd (d+1) (.node z [x,y])
 | tile {d:Nat} {x:Nd} {a b:Nat}:Wd d x→a<100→b<100→Wd (d+1) (.node tiW [x,.num a,.num b])
 | blk {d:Nat} {x y w:Nd}:Wd d x→Wd d y→Wd d w→Wd (d+1) (.node blW [x,y,w])
theorem Pat.Pg(l:List Nat):(Pat.sk l).length≤l.length:=(Aqo _).length_le
theorem Pat.Ae3(p:Nat→Bool)(l:List Nat):(l.takeWhile p).length+(l.dropWhile p).length=l.length:=by
 have:=congrArg List.length (Aqv (p:=p) (l:=l))
 rw[Apw] at this
 exact this
theorem Pat.Aar{c:Nat}{l l':List Nat}(h:Pat.one c l=some l'):l'.length+1=l.length:=by
 cases l with
 | nil=>cases h
 | cons a l =>
  unfold Pat.one at h
  dsimp only at h
  by_cases e:a=c
  ·rw[if_pos e] at h;cases h;rfl
  ·rw[if_neg e] at h;cases h
theorem Ae4{p:Nat→Bool}:∀{l:List Nat} {c:Nat},c∈l.takeWhile p→p c=true
 | [],c,h=>by simp at h
 | a::l,c,h=>by
  rw[ApT] at h
  split at h
  next e =>
   rcases List.mem_cons.mp h with rfl | h
   ·exact e
   ·exact Ae4 h
  ·simp at h
theorem AiD{f:List Nat}(h:Pat.Acm f=true)(hf:∀ c∈f,Pat.Dw c=true):NumText.digitsVal f<100∧(dec (NumText.digitsVal f)).length≤f.length:=by
 unfold Pat.Acm at h
 have h:=of_decide_eq_true h
 have dig:∀ c,Pat.Dw c=true→48≤c∧c≤57:=fun c hc=>of_decide_eq_true hc
 rcases f with _ | ⟨a,_ | ⟨b,_ | ⟨c,f⟩⟩⟩
 ·simp at h
 ·have ha:=dig a (hf a (by simp))
  have e:a=48∨a=49∨a=50∨a=51∨a=52∨a=53∨a=54∨a=55∨a=56∨a=57:=by omega
  rcases e with rfl | rfl | rfl | rfl | rfl | rfl | rfl | rfl | rfl | rfl <;> decide +kernel
 ·have ha:=dig a (hf a (by simp))
  have hb:=dig b (hf b (by simp))
  have e:a=48∨a=49∨a=50∨a=51∨a=52∨a=53∨a=54∨a=55∨a=56∨a=57:=by omega
  have e2:b=48∨b=49∨b=50∨b=51∨b=52∨b=53∨b=54∨b=55∨b=56∨b=57:=by omega
  have key:∀ x∈List.range 58,∀ y∈List.range 58,48≤x→48≤y→NumText.digitsVal [x,y]<100∧(dec (NumText.digitsVal [x,y])).length≤2:=by decide +kernel
  exact key a (List.mem_range.mpr (by omega)) b (List.mem_range.mpr (by omega)) (by omega) (by omega)
 ·simp at h
theorem Pat.Ak9{l l':List Nat}{n:Nat}(h:Pat.num l=some (n,l')):n<100∧(dec n).length+l'.length≤l.length:=by
 unfold Pat.num at h
 split at h
 next e =>
  cases h
  have g:=AiD e fun c hc=>Ae4 hc
  have:=Pat.Pg (l.dropWhile Pat.Dw)
  have:=Pat.Ae3 Pat.Dw l
  exact⟨g.1,by omega⟩
 ·cases h
theorem Pat.AfJ{l l':List Nat}(h:Pat.comma l=some l'):l'.length+1≤l.length:=by
 unfold Pat.comma at h
 cases e:Pat.one 44 l with
 | none=>rw[e] at h;cases h
 | some l1 =>
  rw[e] at h
  cases h
  have:=Pat.Aar e
  have:=Pat.Pg l1
  omega
theorem Pat.Ahh{l r l':List Nat}(h:Pat.run l=some (r,l')):r≠[]∧(∀ c∈r,Sg c)∧r.length+l'.length≤l.length:=by
 unfold Pat.run at h
 split at h
 ·cases h
 next e =>
  cases h
  have:=Pat.Pg (l.dropWhile Pat.knot)
  have:=Pat.Ae3 Pat.knot l
  exact⟨e,fun c hc=>of_decide_eq_true (p:=c=35∨c=46) (Ae4 hc),by omega⟩
theorem Pat.AeY:∀{k:Nat} {l l':List Nat} {rs:List (List Nat)},Pat.Et k l=some (rs,l')→(∀ r∈rs,r≠[]∧∀ c∈r,Sg c)∧((rs.map fun y=>[44]++y).flatten).length+l'.length≤l.length
 | 0,l,l',rs,h=>by cases h
 | k+1,l,l',rs,h=>by
  unfold Pat.Et at h
  cases e:Pat.one 44 l with
  | none=>rw[e] at h;cases h;exact⟨fun r hr=>by simp at hr,by simp⟩
  | some l1 =>
   rw[e] at h
   dsimp only at h
   cases e2:Pat.run (Pat.sk l1) with
   | none=>rw[e2] at h;cases h
   | some q =>
    obtain⟨r,l2⟩:=q
    rw[e2] at h
    dsimp only at h
    cases e3:Pat.Et k l2 with
    | none=>rw[e3] at h;cases h
    | some q =>
     obtain⟨rs',l3⟩:=q
     rw[e3] at h
     cases h
     have g1:=Pat.Aar e
     have g2:=Pat.Ahh e2
     have g3:=Pat.AeY e3
     have g4:=Pat.Pg l1
     refine⟨fun s hs=>?_,?_⟩
     ·rcases List.mem_cons.mp hs with rfl | hs
      ·exact⟨g2.1,g2.2.1⟩
      ·exact g3.1 s hs
     ·rw[Ap5,ApM,Apw,Apw,ApF]
      have:=g3.2
      have:=g2.2.2
      dsimp only
      omega
theorem Pat.AcT{l l':List Nat}{rs:List (List Nat)}(h:Pat.runs l=some (rs,l')):rs≠[]∧rs.length≤40∧(∀ r∈rs,r≠[]∧∀ c∈r,Sg c)∧(cj rs).length+l'.length≤l.length:=by
 unfold Pat.runs at h
 cases e:Pat.run l with
 | none=>rw[e] at h;cases h
 | some q =>
  obtain⟨r,l1⟩:=q
  rw[e] at h
  dsimp only at h
  cases e2:Pat.Et (l1.length+1) l1 with
  | none=>rw[e2] at h;cases h
  | some q =>
   obtain⟨rs',l2⟩:=q
   rw[e2] at h
   dsimp only at h
   split at h
   ·cases h
   next c =>
    cases h
    have g1:=Pat.Ahh e
    have g2:=Pat.AeY e2
    refine⟨by simp,by omega,fun s hs=>?_,?_⟩
    ·rcases List.mem_cons.mp hs with rfl | hs
     ·exact⟨g1.1,g1.2.1⟩
     ·exact g2.1 s hs
    ·unfold cj
     rw[Apw]
     have:=g1.2.2
     have:=g2.2
     omega
def Rdg (d:Nat)(l:List Nat)(x:Nd)(l':List Nat):Prop:=(wr d x).length+l'.length≤l.length
def Kds (d:Nat):List Nat→List Nd→Prop
 | [],[]=>True
 | k::ks,x::ts=>(if k=112 then Wd d x else ∃ n,x=Nd.num n∧n<100)∧Kds d ks ts
 | _,_=>False
theorem AeZ{d:Nat}(ih:∀{l l':List Nat} {x:Nd},Pat.node d l=some (x,l')→Wd d x∧Rdg d l x l'):∀{ks l l':List Nat} {ts:List Nd} {fst:Bool},Pat.args (Pat.node d) fst ks l=some (ts,l') →
  Kds d ks ts∧(if fst=true then (cj (ts.map (wr d))).length else ((ts.map (wr d)).map fun y=>[44]++y).flatten.length)+l'.length≤l.length
 | [],l,l',ts,fst,h=>by
  unfold Pat.args at h
  cases h
  refine⟨trivial,?_⟩
  cases fst <;> simp[cj]
 | k::ks,l,l',ts,fst,h=>by
  unfold Pat.args at h
  cases e:(if fst=true then some l else Pat.comma l) with
  | none=>rw[e] at h;cases h
  | some l1 =>
   rw[e] at h
   dsimp only at h
   cases e2:(if k=112 then Pat.node d l1 else (Pat.num l1).map fun p=>(Nd.num p.1,p.2)) with
   | none=>rw[e2] at h;cases h
   | some q =>
    obtain⟨a,l2⟩:=q
    rw[e2] at h
    dsimp only at h
    cases e3:Pat.args (Pat.node d) false ks l2 with
    | none=>rw[e3] at h;cases h
    | some q =>
     obtain⟨ts',l3⟩:=q
     rw[e3] at h
     cases h
     have g3:=AeZ ih e3
     have g2:(if k=112 then Wd d a else ∃ n,a=Nd.num n∧n<100)∧(wr d a).length+l2.length≤l1.length:=by
      by_cases c:k=112
      ·rw[if_pos c] at e2
       rw[if_pos c]
       exact ih e2
      ·rw[if_neg c] at e2
       rw[if_neg c]
       cases e4:Pat.num l1 with
       | none=>rw[e4] at e2;cases e2
       | some q =>
        obtain⟨n,l4⟩:=q
        rw[e4] at e2
        cases e2
        have g:=Pat.Ak9 e4
        exact⟨⟨n,rfl,g.1⟩,by rw[Ak8];exact g.2⟩
     refine⟨⟨g2.1,g3.1⟩,?_⟩
     have g3:=g3.2
     rw[if_neg (fun z=>nomatch z)] at g3
     cases fst with
     | true =>
      cases e
      rw[if_pos rfl,Ap5]
      unfold cj
      rw[Apw]
      dsimp only
      omega
     | false =>
      rw[if_neg (fun z=>nomatch z)] at e ⊢
      have:=Pat.AfJ e
      rw[Ap5,Ap5,ApM,Apw,Apw,ApF]
      dsimp only
      omega
theorem Kds.nil{d:Nat}{ts:List Nd}(h:Kds d [] ts):ts=[]:=by
 cases ts with
 | nil=>rfl
 | cons _ _=>exact h.elim
theorem Kds.cons{d k:Nat}{ks:List Nat}{ts:List Nd}(h:Kds d (k::ks) ts):∃ x ts',ts=x::ts'∧(if k=112 then Wd d x else ∃ n,x=Nd.num n∧n<100)∧Kds d ks ts':=by
 cases ts with
 | nil=>exact h.elim
 | cons x ts'=>exact⟨x,ts',rfl,h.1,h.2⟩
theorem Afa:∀{d:Nat} {l l':List Nat} {x:Nd},Pat.node d l=some (x,l')→Wd d x∧Rdg d l x l'
 | 0,l,l',x,h=>by cases h
 | d+1,l,l',x,h=>by
  unfold Pat.node at h
  have t1:=Pat.Ae3 Pat.letter l
  have t2:=Pat.Pg (l.dropWhile Pat.letter)
  cases e:Pat.one 40 (Pat.sk (l.dropWhile Pat.letter)) with
  | none =>
   rw[e] at h
   dsimp only at h
   split at h
   next c =>
    cases h
    exact⟨.nam c,by unfold Rdg;rw[Ak7];omega⟩
   ·cases h
  | some l1 =>
   rw[e] at h
   dsimp only at h
   have o1:=Pat.Aar e
   have s1:=Pat.Pg l1
   generalize hz:l.takeWhile Pat.letter=z at h t1
   cases e2:Pat.things (Pat.node d) z (Pat.sk l1) with
   | none=>rw[e2] at h;cases h
   | some q =>
    obtain⟨ts,l2⟩:=q
    rw[e2] at h
    dsimp only at h
    cases e3:Pat.one 41 l2 with
    | none=>rw[e3] at h;cases h
    | some l3 =>
     rw[e3] at h
     cases h
     have o3:=Pat.Aar e3
     have s3:=Pat.Pg l3
     have main:Wd (d+1) (.node z ts)∧(cj (ts.map (wr d))).length+l2.length≤(Pat.sk l1).length:=by
      unfold Pat.things at e2
      by_cases c:z=Pat.DQ
      ·rw[if_pos c] at e2
       cases e4:Pat.runs (Pat.sk l1) with
       | none=>rw[e4] at e2;cases e2
       | some q =>
        obtain⟨rs,l4⟩:=q
        rw[e4] at e2
        cases e2
        have g:=Pat.AcT e4
        refine⟨by rw[c];exact .rows g.1 g.2.1 g.2.2.1,?_⟩
        rw[Aqf,show(wr d∘Nd.run)=id from funext fun r=>Ahg,List.map_id]
        exact g.2.2.2
      ·rw[if_neg c] at e2
       cases e4:Pat.wants z with
       | none=>rw[e4] at e2;cases e2
       | some ks =>
        rw[e4] at e2
        dsimp only at e2
        have g:=AeZ (fun h=>Afa h) e2
        rw[if_pos rfl] at g
        refine⟨?_,g.2⟩
        have K:=g.1
        unfold Pat.wants at e4
        split at e4
        next w =>
         cases e4
         obtain⟨a,t1,rfl,p1,K⟩:=K.cons
         obtain⟨b,t2,rfl,p2,K⟩:=K.cons
         cases K.nil
         obtain⟨a,rfl,ha⟩:=p1
         obtain⟨b,rfl,hb⟩:=p2
         exact .nums w ha hb
        split at e4
        next w =>
         cases e4
         obtain⟨a,t1,rfl,p1,K⟩:=K.cons
         obtain⟨b,t2,rfl,p2,K⟩:=K.cons
         cases K.nil
         exact .two w p1 p2
        split at e4
        next w =>
         cases e4
         obtain⟨a,t1,rfl,p1,K⟩:=K.cons
         cases K.nil
         exact .one w p1
        split at e4
        next w =>
         cases e4
         obtain⟨a,t1,rfl,p1,K⟩:=K.cons
         obtain⟨b,t2,rfl,p2,K⟩:=K.cons
         obtain⟨c,t3,rfl,p3,K⟩:=K.cons
         cases K.nil
         obtain⟨b,rfl,hb⟩:=p2
         obtain⟨c,rfl,hc⟩:=p3
         rw[w]
         exact .tile p1 hb hc
        split at e4
        next w =>
         cases e4
         obtain⟨a,t1,rfl,p1,K⟩:=K.cons
         obtain⟨b,t2,rfl,p2,K⟩:=K.cons
         obtain⟨c,t3,rfl,p3,K⟩:=K.cons
         cases K.nil
         rw[w]
         exact .blk p1 p2 p3
        ·cases e4
     exact⟨main.1,by unfold Rdg wr wz;rw[Apw,Apz,Apw,ApF];have:=main.2;omega⟩
theorem Ahi{l:List Nat}{x:Nd}(h:Pat.whole l=some x):Wd 12 x∧(wr 12 x).length≤l.length:=by
 unfold Pat.whole at h
 cases e:Pat.node 12 (Pat.sk l) with
 | none=>rw[e] at h;cases h
 | some q =>
  obtain⟨n,l'⟩:=q
  rw[e] at h
  cases l' with
  | nil =>
   cases h
   have g:=Afa e
   refine⟨g.1,?_⟩
   have:=g.2
   unfold Rdg at this
   have:=Pat.Pg l
   omega
  | cons _ _=>cases h
def Clo (x:List (List Nat)):Prop:=Cl x (wdt x) x.length
inductive Fit:List Nat→List Arg→Prop
 | rows {rs:List (List Nat)}:rs≠[]→rs.length≤40→(∀ r∈rs,r≠[]∧∀ c∈r,Sg c)→Fit Pat.DQ (rs.map Arg.run)
 | nums {z:List Nat} {a b:Nat}:z=twW∨z=saW→a<100→b<100→Fit z [.num a,.num b]
 | one {z v:List Nat} {x:List (List Nat)}:z=miW∨z=upW∨z=baW∨z=quW→Clo x→Fit z [.cl x v]
 | two {z v u:List Nat} {x y:List (List Nat)}:z=beW∨z=abW∨z=laW→Clo x→Clo y→Fit z [.cl x v,.cl y u]
 | tile {v:List Nat} {x:List (List Nat)} {a b:Nat}:Clo x→a<100→b<100→Fit tiW [.cl x v,.num a,.num b]
 | blk {v u s:List Nat} {x y w:List (List Nat)}:Clo x→Clo y→Clo w→Fit blW [.cl x v,.cl y u,.cl w s]
theorem Afb:∀{xs:List (List Nat)} {y:List Nat},y∈xs→y.length≤((xs.map fun y=>[44]++y).flatten).length
 | [],y,h=>by simp at h
 | a::xs,y,h=>by
  rw[Ap5,ApM,Apw,Apw]
  rcases List.mem_cons.mp h with rfl | h
  ·omega
  ·have:=Afb h;omega
theorem Amu:∀{ys:List (List Nat)} {y:List Nat},y∈ys→y.length≤(cj ys).length
 | [],y,h=>by simp at h
 | x::xs,y,h=>by
  unfold cj
  rw[Apw]
  rcases List.mem_cons.mp h with rfl | h
  ·omega
  ·have:=Afb h
   omega
def rdp (kn:Kns)(u:List Nat):Res × List Nat:=match Pat.whole u with
 | none=>(.no .nop,[])
 | some x=>(out kn 12 x,wr 12 x)
def Pat.good(c:Nat):Prop:=Pat.letter c=true∨Pat.Dw c=true∨c=35∨c=46∨c=44∨c=40∨c=41∨c=32
def Bt (l l':List Nat):Prop:=∃ p,l=p++l'∧∀ c∈p,Pat.good c
def bl (g:Nat):List Nat:=List.replicate g 32
mutual
inductive Wt:Nd→List Nat→Prop
 | num {n g:Nat}:Wt (.num n) (dec n++bl g)
 | run {r:List Nat} {g:Nat}:Wt (.run r) (r++bl g)
 | nam {z:List Nat} {g:Nat}:Wt (.nam z) (z++bl g)
 | node {z:List Nat} {ts:List Nd} {us:List Nat} {g1 g2 g3:Nat}:WtL ts us→Wt (.node z ts) (z++(bl g1++(40::(bl g2++(us++(41::bl g3))))))
inductive WtL:List Nd→List Nat→Prop
 | one {x:Nd} {u:List Nat}:Wt x u→WtL [x] u
 | cons {x:Nd} {u us:List Nat} {xs:List Nd} {g:Nat}:Wt x u→WtL xs us→WtL (x::xs) (u++(44::(bl g++us)))
end
def Stp (l:List Nat):Prop:=l=[]∨∃ c l',l=c::l'∧(c=44∨c=41)
def Nb (l:List Nat):Prop:=∃ c b',l=c::b'∧¬c=32
def Kd (d k:Nat)(x:Nd):Prop:=if k=112 then Wd d x else ∃ n,x=Nd.num n∧n<100
def brk (c:Nat):Bool:=decide (c=40∨c=41∨c=44)
inductive Ins:List Nat→List Nat→Prop
 | nil:Ins [] []
 | let {c:Nat} {v u:List Nat}:brk c=false→Ins v u→Ins (c::v) (c::u)
 | brk {c g h:Nat} {v u:List Nat}:brk c=true→Ins v u→Ins (c::v) (bl g++(c::(bl h++u)))
end Mine
set_option maxHeartbeats 4000000
namespace Mine
open PySem L2
def top (i:Nat):Stmt:=PySem.Challenge.pw_heddle_k74_refusals_stand_alone.main.body.getD i (.Pass ⟨0,0,0,0⟩)
abbrev Za:Stmt:=top 19
theorem AcU:Aq ["figures"] ["figures"] (Ah Za):=sc9
abbrev AaI:Stmt:=top 25
theorem Zb:Aq ["text", "row_items"] ["text"] (Ah AaI):=sc9
abbrev MF:Stmt:=top 26
theorem Ab7:Aq ["row_items"] ["row_items"] (Ah MF):=sc9
abbrev Sd:Stmt:=top 27
theorem JD:Aq ["row_items", "written", "item"] ["row_items"] (Ah Sd):=sc9
abbrev Nt:Stmt:=top 28
theorem X6:Aq ["start", "stop"] ["start", "stop"] (Ah Nt):=sc9
abbrev AaJ:Stmt:=top 29
theorem Ph:Aq ["text", "reader", "row_items"] ["text"] (Ah AaJ):=sc9
abbrev Vl:Stmt:=top 30
theorem Sh:Aq ["reader", "depth", "row_items"] ["reader", "depth"] (Ah Vl):=sc9
abbrev Zc:Stmt:=top 31
theorem Vm:Aq ["reader", "depth", "first"] ["reader", "depth"] (Ah Zc):=sc9
abbrev Vn:Stmt:=top 32
theorem HS:Aq ["reader", "count", "depth", "inner"] ["reader", "count", "depth"] (Ah Vn):=sc9
abbrev Zd:Stmt:=top 33
theorem Vo:Aq ["reader", "first", "stops"] ["reader", "first"] (Ah Zd):=sc9
abbrev JF:Stmt:=top 34
theorem Jk:Aq ["reader", "number"] ["reader"] (Ah JF):=sc9
abbrev AaK:Stmt:=top 38
theorem AdQ:Aq ["cloth"] ["cloth"] (Ah AaK):=sc9
abbrev Lk:Stmt:=top 41
theorem Hd:Aq ["texts", "least", "signs", "ends", "text"] ["texts", "least", "signs"] (Ah Lk):=sc9
abbrev Vp:Stmt:=top 42
theorem Sq:Aq ["text", "ends", "signs", "sign"] ["text", "ends", "signs"] (Ah Vp):=sc9
abbrev Pj:Stmt:=top 43
theorem ZC:Aq ["number", "count"] ["number", "count"] (Ah Pj):=sc9
abbrev Nu:Stmt:=top 50
theorem Hz:Aq ["threading", "ties", "shaft", "tie"] ["threading", "ties"] (Ah Nu):=sc9
abbrev Ss:Stmt:=top 51
theorem AaL:Aq ["count"] ["count"] (Ah Ss):=sc9
abbrev Su:Stmt:=top 52
theorem AaM:Aq ["shaft"] ["shaft"] (Ah Su):=sc9
abbrev Ze:Stmt:=top 53
theorem Vq:Aq ["tie", "k"] ["tie"] (Ah Ze):=sc9
abbrev X7:Stmt:=top 54
abbrev Nv:Stmt:=top 58
theorem H9:Aq ["profile", "one", "other", "size", "unit", "cloth", "text", "of_one", "of_other"] ["profile", "one", "other"] (Ah Nv):=sc9
abbrev Zf:Stmt:=top 59
theorem Vr:Aq ["one", "other", "size"] ["one", "other"] (Ah Zf):=sc9
abbrev X8:Stmt:=top 64
theorem Ae5:Aq ["text"] ["text"] (Ah X8):=sc9
abbrev Sv:Stmt:=top 72
theorem Pk:Aq ["cloth", "one", "other", "size"] ["cloth", "one", "other"] (Ah Sv):=sc9
abbrev Nx:Stmt:=top 79
theorem XC:Aq ["pieces", "ends", "picks", "number", "piece", "end_places", "pick_places", "cloth", "owner", "place", "own", "signs"] ["pieces", "ends", "picks"] (Ah Nx):=sc9
abbrev Pn:Stmt:=top 80
theorem Ny:Aq ["owners", "pieces", "owner"] ["owners", "pieces"] (Ah Pn):=sc9
abbrev Vs:Stmt:=top 99
theorem Ab8:Aq ["ends", "picks"] ["ends", "picks"] (Ah Vs):=sc9
abbrev Aco:Stmt:=top 102
theorem Ae6:Aq ["word", "things"] ["word", "things"] (Ah Aco):=sc9
abbrev Pq:Stmt:=top 107
theorem IV:Aq ["text", "known"] ["text", "known"] (Ah Pq):=sc9
abbrev Vt:Stmt:=top 108
theorem Le:Aq ["text", "reader", "node"] ["text"] (Ah Vt):=sc9
abbrev Zg:Stmt:=top 109
theorem Gj:Aq ["reader", "depth", "word", "things"] ["reader", "depth"] (Ah Zg):=sc9
abbrev Sw:Stmt:=top 110
theorem JG:Aq ["reader", "word", "depth", "things", "kind"] ["reader", "word", "depth"] (Ah Sw):=sc9
abbrev Zh:Stmt:=top 111
theorem Vu:Aq ["reader", "runs"] ["reader"] (Ah Zh):=sc9
abbrev AaN:Stmt:=top 112
theorem Zi:Aq ["reader", "run"] ["reader"] (Ah AaN):=sc9
abbrev Il:Stmt:=top 113
theorem Hr:Aq ["reader", "number"] ["reader"] (Ah Il):=sc9
abbrev Vv:Stmt:=top 115
theorem Ab9:Aq ["reader"] ["reader"] (Ah Vv):=sc9
abbrev Hf:Stmt:=top 116
theorem Fj:Aq ["node", "known", "things"] ["node", "known"] (Ah Hf):=sc9
abbrev Sx:Stmt:=top 117
theorem JH:Aq ["name", "known", "one", "cloth"] ["name", "known"] (Ah Sx):=sc9
abbrev AbA:Stmt:=top 118
abbrev Zj:Stmt:=top 122
theorem Js:Aq ["text", "pairs", "line", "stripped"] ["text"] (Ah Zj):=sc9
abbrev Kq:Stmt:=top 123
theorem Ei:Aq ["line", "known", "place", "name", "rest"] ["line", "known"] (Ah Kq):=sc9
abbrev Nz:Stmt:=top 124
theorem HB:Aq ["line", "place", "sign"] ["line"] (Ah Nz):=sc9
abbrev Vw:Stmt:=top 127
theorem Sy:Aq ["cloth", "warp", "weft", "size"] ["cloth", "warp", "weft"] (Ah Vw):=sc9
abbrev N5:Stmt:=top 128
theorem XD:Aq ["text", "count", "signs", "sign"] ["text", "count", "signs"] (Ah N5):=sc9
abbrev AaO:Stmt:=top 134
theorem Zk:Aq ["cloth", "shuttles", "size", "pick_layers", "seams", "shuttle", "thrown"] ["cloth", "shuttles"] (Ah AaO):=sc9
abbrev Ln:Stmt:=top 135
theorem Vx:Aq ["shuttles", "picks", "shuttle"] ["shuttles", "picks"] (Ah Ln):=sc9
abbrev AaP:Stmt:=top 138
theorem Pr:Aq ["way", "rest", "letter", "many"] ["way", "rest"] (Ah AaP):=sc9
abbrev Vy:Stmt:=top 139
theorem HW:Aq ["way", "rest", "caught", "e"] ["way", "rest"] (Ah Vy):=sc9
abbrev Vz:Stmt:=top 140
theorem Fl:Aq ["caught", "some"] ["caught"] (Ah Vz):=sc9
abbrev CZ:Stmt:=top 141
theorem Ag:Aq ["cell", "way", "caught", "some", "due"] ["cell"] (Ah CZ):=sc9
abbrev Ahj:Stmt:=top 142
theorem Ahk:Aq ["script", "cell"] ["script"] (Ah Ahj):=sc9
abbrev Pu:Stmt:=(Cy (top 3)).getD 0 (.Pass ⟨0,0,0,0⟩)
theorem ZD:Aq ["self"] ["self"] (Ah Pu):=sc9
abbrev Kr:Stmt:=(Cy (top 4)).getD 0 (.Pass ⟨0,0,0,0⟩)
theorem Tv:Aq ["self"] ["self"] (Ah Kr):=sc9
abbrev Lp:Stmt:=(Cy (top 5)).getD 0 (.Pass ⟨0,0,0,0⟩)
theorem V0:Aq ["self"] ["self"] (Ah Lp):=sc9
abbrev Lq:Stmt:=(Cy (top 6)).getD 0 (.Pass ⟨0,0,0,0⟩)
theorem V1:Aq ["self"] ["self"] (Ah Lq):=sc9
abbrev Ks:Stmt:=(Cy (top 7)).getD 0 (.Pass ⟨0,0,0,0⟩)
theorem Tw:Aq ["self"] ["self"] (Ah Ks):=sc9
abbrev N6:Stmt:=(Cy (top 8)).getD 0 (.Pass ⟨0,0,0,0⟩)
theorem XF:Aq ["self"] ["self"] (Ah N6):=sc9
abbrev Ku:Stmt:=(Cy (top 9)).getD 0 (.Pass ⟨0,0,0,0⟩)
theorem Tz:Aq ["self"] ["self"] (Ah Ku):=sc9
abbrev JK:Stmt:=(Cy (top 10)).getD 0 (.Pass ⟨0,0,0,0⟩)
theorem Ro:Aq ["self"] ["self"] (Ah JK):=sc9
abbrev Kv:Stmt:=(Cy (top 11)).getD 0 (.Pass ⟨0,0,0,0⟩)
theorem T3:Aq ["self"] ["self"] (Ah Kv):=sc9
abbrev Lr:Stmt:=(Cy (top 12)).getD 0 (.Pass ⟨0,0,0,0⟩)
theorem V2:Aq ["self"] ["self"] (Ah Lr):=sc9
abbrev JL:Stmt:=(Cy (top 13)).getD 0 (.Pass ⟨0,0,0,0⟩)
theorem Rp:Aq ["self"] ["self"] (Ah JL):=sc9
abbrev Ls:Stmt:=(Cy (top 14)).getD 0 (.Pass ⟨0,0,0,0⟩)
theorem V3:Aq ["self"] ["self"] (Ah Ls):=sc9
abbrev Px:Stmt:=(Cy (top 15)).getD 0 (.Pass ⟨0,0,0,0⟩)
theorem ZF:Aq ["self"] ["self"] (Ah Px):=sc9
abbrev Kw:Stmt:=(Cy (top 18)).getD 0 (.Pass ⟨0,0,0,0⟩)
theorem T4:Aq ["self", "text"] ["self", "text"] (Ah Kw):=sc9
abbrev Py:Stmt:=(Cy (top 18)).getD 1 (.Pass ⟨0,0,0,0⟩)
theorem ZG:Aq ["self"] ["self"] (Ah Py):=sc9
abbrev S5:Stmt:=(Cy (top 18)).getD 2 (.Pass ⟨0,0,0,0⟩)
theorem Pz:Aq ["self", "wanted", "behind"] ["self", "wanted"] (Ah S5):=sc9
abbrev Lw:Stmt:=(Cy (top 18)).getD 3 (.Pass ⟨0,0,0,0⟩)
theorem Ky:Aq ["self", "signs", "begin"] ["self", "signs"] (Ah Lw):=sc9
abbrev N7:Stmt:=(Cy (top 18)).getD 4 (.Pass ⟨0,0,0,0⟩)
theorem XH:Aq ["self"] ["self"] (Ah N7):=sc9
abbrev N8:Stmt:=(Cy (top 23)).getD 0 (.Pass ⟨0,0,0,0⟩)
theorem XJ:Aq ["self", "stops"] ["self", "stops"] (Ah N8):=sc9
abbrev Zm:Stmt:=(Cy (top 23)).getD 1 (.Pass ⟨0,0,0,0⟩)
theorem Jt:Aq ["self", "total", "k"] ["self"] (Ah Zm):=sc9
abbrev P0:Stmt:=(Cy (top 23)).getD 2 (.Pass ⟨0,0,0,0⟩)
theorem IW:Aq ["self", "written", "stop"] ["self"] (Ah P0):=sc9
abbrev Lx:Stmt:=(Cy (top 24)).getD 0 (.Pass ⟨0,0,0,0⟩)
theorem V4:Aq ["self", "count", "inner"] ["self", "count", "inner"] (Ah Lx):=sc9
abbrev V5:Stmt:=(Cy (top 24)).getD 1 (.Pass ⟨0,0,0,0⟩)
theorem S6:Aq ["self"] ["self"] (Ah V5):=sc9
abbrev NB:Stmt:=(Cy (top 24)).getD 2 (.Pass ⟨0,0,0,0⟩)
theorem Ly:Aq ["self"] ["self"] (Ah NB):=sc9
abbrev Lz:Stmt:=(Cy (top 48)).getD 0 (.Pass ⟨0,0,0,0⟩)
theorem V6:Aq ["self", "threading", "ties", "treading"] ["self", "threading", "ties", "treading"] (Ah Lz):=sc9
abbrev LC:Stmt:=(Cy (top 85)).getD 0 (.Pass ⟨0,0,0,0⟩)
theorem V7:Aq ["self", "texts", "writing"] ["self", "texts", "writing"] (Ah LC):=sc9
abbrev S7:Stmt:=(Cy (top 85)).getD 4 (.Pass ⟨0,0,0,0⟩)
theorem AaQ:Aq ["self"] ["self"] (Ah S7):=sc9
abbrev XM:Stmt:=(Cy (top 86)).getD 0 (.Pass ⟨0,0,0,0⟩)
abbrev Ja:Stmt:=(Cy (top 87)).getD 0 (.Pass ⟨0,0,0,0⟩)
theorem XN:Aq ["self", "runs"] ["self", "runs"] (Ah Ja):=sc9
abbrev Jb:Stmt:=(Cy (top 131)).getD 0 (.Pass ⟨0,0,0,0⟩)
theorem XQ:Aq ["self", "threading", "ties"] ["self", "threading", "ties"] (Ah Jb):=sc9
abbrev PB:Stmt:=(Cy (top 131)).getD 4 (.Pass ⟨0,0,0,0⟩)
theorem ZJ:Aq ["self", "pick"] ["self"] (Ah PB):=sc9
set_option genInjectivity false in
structure Adr where
 {Az:Addr}
 {Hg:Addr}
 {DK:Addr}
 {MJ:Addr}
 {Kz:Addr}
 {Ra:Addr}
 {Lf:Addr}
 {Eu:Addr}
 {V8:Addr}
 {AcV:Addr}
 {Hh:Addr}
 {K1:FuncData}
 {PJ:Addr}
 {PL:FuncData}
 {S8:Addr}
 {S9:FuncData}
 {LK:Addr}
 {LQ:FuncData}
 {Jc:Addr}
 {Jd:FuncData}
 {Je:Addr}
 {NK:FuncData}
 {Zn:Addr}
 {Zo:FuncData}
 {PN:Addr}
 {PQ:FuncData}
 {HD:Addr}
 {LR:FuncData}
 {Ju:Addr}
 {Jv:FuncData}
 {Gx:Addr}
 {Gy:FuncData}
 {HF:Addr}
 {Ma:FuncData}
 {Gk:Addr}
 {Mg:FuncData}
 {Fo:Addr}
 {SJ:FuncData}
 {Gm:Addr}
 {HH:FuncData}
 {Jf:Addr}
 {NP:FuncData}
 {Jg:Addr}
 {NQ:FuncData}
 {PX:Addr}
 {Qa:FuncData}
 {Zq:Addr}
 {Zr:FuncData}
 {AaR:Addr}
 {AaS:FuncData}
 {Jw:Addr}
 {Jx:FuncData}
 {HX:Addr}
 {HY:FuncData}
 {NT:Addr}
 {NZ:FuncData}
 {AaT:Addr}
 {AaU:FuncData}
 {Hi:Addr}
 {Hj:FuncData}
 {Qc:Addr}
 {Qd:FuncData}
 {Jy:Addr}
 {Jz:FuncData}
 {Zt:Addr}
 {Zu:FuncData}
 {JM:Addr}
 {JN:FuncData}
 {AaV:Addr}
 {AaW:FuncData}
 {Mh:Addr}
 {Mi:FuncData}
 {V9:Addr}
 {VB:FuncData}
 {Qe:Addr}
 {Qf:FuncData}
 {Oa:Addr}
 {Ob:FuncData}
 {SM:Addr}
 {SN:FuncData}
 {SQ:Addr}
 {SX:FuncData}
 {Zv:Addr}
 {Zw:FuncData}
 {XR:Addr}
 {XS:FuncData}
 {Od:Addr}
 {Oe:FuncData}
 {Zx:Addr}
 {Zy:FuncData}
 {Acp:Addr}
 {Acq:FuncData}
 {Tc:Addr}
 {Td:FuncData}
 {Og:Addr}
 {Oh:FuncData}
 {Qg:Addr}
 {Qh:FuncData}
 {VD:Addr}
 {VF:FuncData}
 {Acr:Addr}
 {Acs:FuncData}
 {Hk:Addr}
 {Hl:FuncData}
 {VG:Addr}
 {VH:FuncData}
 {Im:Addr}
 {Io:FuncData}
 {Ia:Addr}
 {Ib:FuncData}
 {Zz:Addr}
 {Z0:FuncData}
 {AaX:Addr}
 {AaY:FuncData}
 {Ip:Addr}
 {Ir:FuncData}
 {VJ:Addr}
 {VL:FuncData}
 {Gn:Addr}
 {Gp:FuncData}
 {Te:Addr}
 {Tf:FuncData}
 {AbB:Addr}
 {AbC:FuncData}
 {Z1:Addr}
 {Z2:FuncData}
 {Qi:Addr}
 {Qj:FuncData}
 {Oj:Addr}
 {Ol:FuncData}
 {VM:Addr}
 {VN:FuncData}
 {Om:Addr}
 {Oo:FuncData}
 {AaZ:Addr}
 {Aba:FuncData}
 {Mj:Addr}
 {Ml:FuncData}
 {Abb:Addr}
 {Abd:FuncData}
 {VP:Addr}
 {VR:FuncData}
 {Wa:Addr}
 {Wb:FuncData}
 {CT:Addr}
 {CV:FuncData}
 {Aj1:Addr}
 {Ahl:FuncData}
 {Cr:Addr}
 {BX:Addr}
 {Qk:Addr}
 {Ql:FuncData}
 {Bg:Addr}
 {K3:Addr}
 {K4:FuncData}
 {Bw:Addr}
 {Mm:Addr}
 {Mp:FuncData}
 {Br:Addr}
 {Mq:Addr}
 {Mr:FuncData}
 {Bh:Addr}
 {K5:Addr}
 {K6:FuncData}
 {BV:Addr}
 {Oq:Addr}
 {Ot:FuncData}
 {Bj:Addr}
 {K7:Addr}
 {K8:FuncData}
 {Ba:Addr}
 {JP:Addr}
 {JQ:FuncData}
 {Bl:Addr}
 {K9:Addr}
 {KC:FuncData}
 {By:Addr}
 {Ms:Addr}
 {Mt:FuncData}
 {Av:Addr}
 {JR:Addr}
 {JS:FuncData}
 {Bv:Addr}
 {Mu:Addr}
 {Mv:FuncData}
 {Cd:Addr}
 {Qm:Addr}
 {Qn:FuncData}
structure Txt (K:PySem.W.Frag) (mg:Str→Option Value) (t:Adr):Prop where
 Rb:Df K mg "number_of" Za ["figures"] t.Zq t.Zr
 JT:Df K mg "unfolded" AaI ["text"] t.AaR t.AaS
 G9:Df K mg "whole_size" MF ["row_items"] t.Jw t.Jx
 FQ:Df K mg "all_numbers" Sd ["row_items"] t.HX t.HY
 Ie:Df K mg "steps_between" Nt ["start", "stop"] t.NT t.NZ
 Wc:Df K mg "read_row" AaJ ["text"] t.AaT t.AaU
 Ek:Df K mg "read_items" Vl ["reader", "depth"] t.Hi t.Hj
 HJ:Df K mg "read_item" Zc ["reader", "depth"] t.Qc t.Qd
 JV:Df K mg "read_times" Vn ["reader", "count", "depth"] t.Jy t.Jz
 Rc:Df K mg "read_path" Zd ["reader", "first"] t.Zt t.Zu
 Dz:DfA K mg "read_number_rows" "read_number" JF ["reader"] t.JM t.JN
 measured:Df K mg "measured" AaK ["cloth"] t.AaV t.AaW
 Hm:Df K mg "measured_texts" Lk ["texts", "least", "signs"] t.Mh t.Mi
 MK:Df K mg "check_pick" Vp ["text", "ends", "signs"] t.V9 t.VB
 EY:Df K mg "check_strand" Pj ["number", "count"] t.Qe t.Qf
 El:Df K mg "check_setting" Nu ["threading", "ties"] t.Oa t.Ob
 FT:Df K mg "check_count" Ss ["count"] t.SM t.SN
 FW:Df K mg "check_shaft" Su ["shaft"] t.SQ t.SX
 Rg:Df K mg "check_tie" Ze ["tie"] t.Zv t.Zw
 Ahm:Df K mg "check_treading" X7 ["treading", "treadles"] t.XR t.XS
 Ig:Df K mg "filled_blocks" Nv ["profile", "one", "other"] t.Od t.Oe
 Rh:Df K mg "unit_size" Zf ["one", "other"] t.Zx t.Zy
 Gq:Df K mg "is_name" X8 ["text"] t.Acp t.Acq
 KD:Df K mg "strand_over" Sv ["cloth", "one", "other"] t.Tc t.Td
 Ih:Df K mg "laid_together" Nx ["pieces", "ends", "picks"] t.Og t.Oh
 J0:Df K mg "check_owners" Pn ["owners", "pieces"] t.Qg t.Qh
 MN:Df K mg "check_size" Vs ["ends", "picks"] t.VD t.VF
 written:Df K mg "written" Aco ["word", "things"] t.Acr t.Acs
 Cz:Df K mg "read_pattern" Pq ["text", "known"] t.Hk t.Hl
 Em:Df K mg "read_whole" Vt ["text"] t.VG t.VH
 GJ:Df K mg "read_node" Zg ["reader", "depth"] t.Im t.Io
 FZ:Df K mg "read_things" Sw ["reader", "word", "depth"] t.Ia t.Ib
 Ri:Df K mg "read_runs" Zh ["reader"] t.Zz t.Z0
 JW:Df K mg "read_run" AaN ["reader"] t.AaX t.AaY
 Fb:DfA K mg "read_number_reader" "read_number" Il ["reader"] t.Ip t.Ir
 MP:Df K mg "read_comma" Vv ["reader"] t.VJ t.VL
 Cp:Df K mg "worked_out" Hf ["node", "known"] t.Gn t.Gp
 Ga:Df K mg "known_cloth" Sx ["name", "known"] t.Te t.Tf
 Aj2:Df K mg "made_of_one" AbA ["word", "inner"] t.AbB t.AbC
 Rj:Df K mg "read_book" Zj ["text"] t.Z1 t.Z2
 Mw:Df K mg "read_line" Kq ["line", "known"] t.Qi t.Qj
 En:Df K mg "parting_place" Nz ["line"] t.Oj t.Ol
 MT:Df K mg "picture_of" Vw ["cloth", "warp", "weft"] t.VM t.VN
 Ii:Df K mg "check_threads" N5 ["text", "count", "signs"] t.Om t.Oo
 We:Df K mg "seams_of" AaO ["cloth", "shuttles"] t.AaZ t.Aba
 Hn:Df K mg "check_shuttles" Ln ["shuttles", "picks"] t.Mj t.Ml
 Wf:Df K mg "_law_done" AaP ["way", "rest"] t.Abb t.Abd
 Bc:Df K mg "_law_caught" Vy ["way", "rest"] t.VP t.VR
 Bd:Df K mg "_law_takers" Vz ["caught"] t.Wa t.Wb
 Dg:Df K mg "_law_right" CZ ["cell"] t.CT t.CV
 law:Df K mg "law" Ahj ["script"] t.Aj1 t.Ahl
 Dh:mg "ValueError" = none
 Amv:mg "abs" = none
 Aj3:mg "all" = none
 Ahn:mg "any" = none
 AdR:mg "enumerate" = none
 Amw:mg "int" = none
 Bm:mg "isinstance" = none
 DR:mg "len" = none
 XX:mg "list" = none
 AoB:mg "max" = none
 AoC:mg "min" = none
 Ec:mg "range" = none
 AkA:mg "reversed" = none
 AoD:mg "set" = none
 Amx:mg "sorted" = none
 Amy:mg "str" = none
 Amz:mg "sum" = none
 AcW:mg "tuple" = none
 AoE:mg "zip" = none
 AfK:∃ tk,mg "FIGURES" = some (.str "0123456789" tk)
 Abe:∃ tk,mg "MOST_NUMBERS" = some (.int 400 tk)
 Mx:∃ tk,mg "MOST_DEEP_rows" = some (.int 8 tk)
 Ew:∃ tk,mg "MOST_STRANDS" = some (.int 40 tk)
 AbD:∃ tk,mg "MOST_SHAFTS" = some (.int 40 tk)
 Yb:∃ tk,mg "LETTERS" = some (.str "abcdefghijklmnopqrstuvwxyz" tk)
 Abf:∃ tk,mg "MOST_LETTERS" = some (.int 20 tk)
 Agl:∃ tk,mg "BETWEEN_PARTS" = some (.str " / " tk)
 Aho:∃ tk,mg "BETWEEN_TIES" = some (.str ", " tk)
 JX:∃ tk,mg "MOST_DEEP_reader" = some (.int 12 tk)
 AdS:∃ tk,mg "MOST_RUNS" = some (.int 40 tk)
 AfL:∃ tk,mg "COLOURS" = some (.str "abcdef" tk)
 AkB:∃ tk,mg "SHUTTLES" = some (.int 8 tk)
 AcX:mg "WeaveError" = some (.ref t.Cr)
 AcY:Exn K t.Cr
 J1:mg "NoRow" = some (.ref t.BX)
 Gr:Exn K t.BX
 AcZ:Mf K "called" "NoRow.called" Pu ["self"] t.BX t.Qk t.Ql
 T5:PySem.W.mroIn K t.BX (.ref t.Cr)=some true
 Tg:PySem.W.mroIn K t.BX (.ref t.BX)=some true
 Yc:PySem.W.mroIn K t.BX (.ref t.Bg)=some false
 ZK:PySem.W.mroIn K t.BX (.ref t.Bw)=some false
 ZL:PySem.W.mroIn K t.BX (.ref t.Br)=some false
 Yd:PySem.W.mroIn K t.BX (.ref t.Bh)=some false
 Abg:PySem.W.mroIn K t.BX (.ref t.BV)=some false
 Ye:PySem.W.mroIn K t.BX (.ref t.Bj)=some false
 Wg:PySem.W.mroIn K t.BX (.ref t.Ba)=some false
 Yg:PySem.W.mroIn K t.BX (.ref t.Bl)=some false
 ZM:PySem.W.mroIn K t.BX (.ref t.By)=some false
 Wh:PySem.W.mroIn K t.BX (.ref t.Av)=some false
 ZP:PySem.W.mroIn K t.BX (.ref t.Bv)=some false
 AbE:PySem.W.mroIn K t.BX (.ref t.Cd)=some false
 T6:mg "TooLarge" = some (.ref t.Bg)
 GC:Exn K t.Bg
 T7:Mf K "called" "TooLarge.called" Kr ["self"] t.Bg t.K3 t.K4
 O5:PySem.W.mroIn K t.Bg (.ref t.Cr)=some true
 Yh:PySem.W.mroIn K t.Bg (.ref t.BX)=some false
 Jl:PySem.W.mroIn K t.Bg (.ref t.Bg)=some true
 T8:PySem.W.mroIn K t.Bg (.ref t.Bw)=some false
 T9:PySem.W.mroIn K t.Bg (.ref t.Br)=some false
 Rq:PySem.W.mroIn K t.Bg (.ref t.Bh)=some false
 Wi:PySem.W.mroIn K t.Bg (.ref t.BV)=some false
 Rr:PySem.W.mroIn K t.Bg (.ref t.Bj)=some false
 Qo:PySem.W.mroIn K t.Bg (.ref t.Ba)=some false
 Rt:PySem.W.mroIn K t.Bg (.ref t.Bl)=some false
 TF:PySem.W.mroIn K t.Bg (.ref t.By)=some false
 Qp:PySem.W.mroIn K t.Bg (.ref t.Av)=some false
 TJ:PySem.W.mroIn K t.Bg (.ref t.Bv)=some false
 Yi:PySem.W.mroIn K t.Bg (.ref t.Cd)=some false
 My:mg "NoCloth" = some (.ref t.Bw)
 Gs:Exn K t.Bw
 Yj:Mf K "called" "NoCloth.called" Lp ["self"] t.Bw t.Mm t.Mp
 Qq:PySem.W.mroIn K t.Bw (.ref t.Cr)=some true
 ZQ:PySem.W.mroIn K t.Bw (.ref t.BX)=some false
 TQ:PySem.W.mroIn K t.Bw (.ref t.Bg)=some false
 KH:PySem.W.mroIn K t.Bw (.ref t.Bw)=some true
 Wj:PySem.W.mroIn K t.Bw (.ref t.Br)=some false
 TV:PySem.W.mroIn K t.Bw (.ref t.Bh)=some false
 Yk:PySem.W.mroIn K t.Bw (.ref t.BV)=some false
 TX:PySem.W.mroIn K t.Bw (.ref t.Bj)=some false
 Ru:PySem.W.mroIn K t.Bw (.ref t.Ba)=some false
 TY:PySem.W.mroIn K t.Bw (.ref t.Bl)=some false
 Wl:PySem.W.mroIn K t.Bw (.ref t.By)=some false
 Rv:PySem.W.mroIn K t.Bw (.ref t.Av)=some false
 Wm:PySem.W.mroIn K t.Bw (.ref t.Bv)=some false
 ZR:PySem.W.mroIn K t.Bw (.ref t.Cd)=some false
 Rk:mg "NoDraft" = some (.ref t.Br)
 GK:Exn K t.Br
 Yl:Mf K "called" "NoDraft.called" Lq ["self"] t.Br t.Mq t.Mr
 Qs:PySem.W.mroIn K t.Br (.ref t.Cr)=some true
 ZS:PySem.W.mroIn K t.Br (.ref t.BX)=some false
 Ua:PySem.W.mroIn K t.Br (.ref t.Bg)=some false
 Wn:PySem.W.mroIn K t.Br (.ref t.Bw)=some false
 KJ:PySem.W.mroIn K t.Br (.ref t.Br)=some true
 Ub:PySem.W.mroIn K t.Br (.ref t.Bh)=some false
 Ym:PySem.W.mroIn K t.Br (.ref t.BV)=some false
 Uc:PySem.W.mroIn K t.Br (.ref t.Bj)=some false
 Rx:PySem.W.mroIn K t.Br (.ref t.Ba)=some false
 Ud:PySem.W.mroIn K t.Br (.ref t.Bl)=some false
 Wo:PySem.W.mroIn K t.Br (.ref t.By)=some false
 Ry:PySem.W.mroIn K t.Br (.ref t.Av)=some false
 Wq:PySem.W.mroIn K t.Br (.ref t.Bv)=some false
 ZV:PySem.W.mroIn K t.Br (.ref t.Cd)=some false
 Ue:mg "NoStrand" = some (.ref t.Bh)
 GD:Exn K t.Bh
 Ug:Mf K "called" "NoStrand.called" Ks ["self"] t.Bh t.K5 t.K6
 O6:PySem.W.mroIn K t.Bh (.ref t.Cr)=some true
 Yn:PySem.W.mroIn K t.Bh (.ref t.BX)=some false
 Rz:PySem.W.mroIn K t.Bh (.ref t.Bg)=some false
 Uh:PySem.W.mroIn K t.Bh (.ref t.Bw)=some false
 Ui:PySem.W.mroIn K t.Bh (.ref t.Br)=some false
 Jm:PySem.W.mroIn K t.Bh (.ref t.Bh)=some true
 Wr:PySem.W.mroIn K t.Bh (.ref t.BV)=some false
 R0:PySem.W.mroIn K t.Bh (.ref t.Bj)=some false
 Qt:PySem.W.mroIn K t.Bh (.ref t.Ba)=some false
 R1:PySem.W.mroIn K t.Bh (.ref t.Bl)=some false
 Uj:PySem.W.mroIn K t.Bh (.ref t.By)=some false
 Qu:PySem.W.mroIn K t.Bh (.ref t.Av)=some false
 Uk:PySem.W.mroIn K t.Bh (.ref t.Bv)=some false
 Yo:PySem.W.mroIn K t.Bh (.ref t.Cd)=some false
 AdT:mg "NoDeed" = some (.ref t.BV)
 Mz:Exn K t.BV
 Abh:Mf K "called" "NoDeed.called" N6 ["self"] t.BV t.Oq t.Ot
 R3:PySem.W.mroIn K t.BV (.ref t.Cr)=some true
 Abi:PySem.W.mroIn K t.BV (.ref t.BX)=some false
 Ws:PySem.W.mroIn K t.BV (.ref t.Bg)=some false
 Yp:PySem.W.mroIn K t.BV (.ref t.Bw)=some false
 Yq:PySem.W.mroIn K t.BV (.ref t.Br)=some false
 Wu:PySem.W.mroIn K t.BV (.ref t.Bh)=some false
 Ou:PySem.W.mroIn K t.BV (.ref t.BV)=some true
 Wv:PySem.W.mroIn K t.BV (.ref t.Bj)=some false
 Ul:PySem.W.mroIn K t.BV (.ref t.Ba)=some false
 Ww:PySem.W.mroIn K t.BV (.ref t.Bl)=some false
 Yr:PySem.W.mroIn K t.BV (.ref t.By)=some false
 Um:PySem.W.mroIn K t.BV (.ref t.Av)=some false
 Ys:PySem.W.mroIn K t.BV (.ref t.Bv)=some false
 Abj:PySem.W.mroIn K t.BV (.ref t.Cd)=some false
 Uo:mg "NoLaying" = some (.ref t.Bj)
 GF:Exn K t.Bj
 Up:Mf K "called" "NoLaying.called" Ku ["self"] t.Bj t.K7 t.K8
 O7:PySem.W.mroIn K t.Bj (.ref t.Cr)=some true
 Yt:PySem.W.mroIn K t.Bj (.ref t.BX)=some false
 R4:PySem.W.mroIn K t.Bj (.ref t.Bg)=some false
 Uq:PySem.W.mroIn K t.Bj (.ref t.Bw)=some false
 Ur:PySem.W.mroIn K t.Bj (.ref t.Br)=some false
 R5:PySem.W.mroIn K t.Bj (.ref t.Bh)=some false
 Wx:PySem.W.mroIn K t.Bj (.ref t.BV)=some false
 Jo:PySem.W.mroIn K t.Bj (.ref t.Bj)=some true
 Qv:PySem.W.mroIn K t.Bj (.ref t.Ba)=some false
 R6:PySem.W.mroIn K t.Bj (.ref t.Bl)=some false
 Us:PySem.W.mroIn K t.Bj (.ref t.By)=some false
 Qw:PySem.W.mroIn K t.Bj (.ref t.Av)=some false
 Ut:PySem.W.mroIn K t.Bj (.ref t.Bv)=some false
 Yu:PySem.W.mroIn K t.Bj (.ref t.Cd)=some false
 Z3:mg "NoShuttle" = some (.ref t.Ba)
 GP:Exn K t.Ba
 Qx:Mf K "called" "NoShuttle.called" JK ["self"] t.Ba t.JP t.JQ
 Nf:PySem.W.mroIn K t.Ba (.ref t.Cr)=some true
 Wy:PySem.W.mroIn K t.Ba (.ref t.BX)=some false
 Qy:PySem.W.mroIn K t.Ba (.ref t.Bg)=some false
 R7:PySem.W.mroIn K t.Ba (.ref t.Bw)=some false
 R8:PySem.W.mroIn K t.Ba (.ref t.Br)=some false
 Qz:PySem.W.mroIn K t.Ba (.ref t.Bh)=some false
 Uu:PySem.W.mroIn K t.Ba (.ref t.BV)=some false
 Q0:PySem.W.mroIn K t.Ba (.ref t.Bj)=some false
 Hs:PySem.W.mroIn K t.Ba (.ref t.Ba)=some true
 Q3:PySem.W.mroIn K t.Ba (.ref t.Bl)=some false
 R9:PySem.W.mroIn K t.Ba (.ref t.By)=some false
 O8:PySem.W.mroIn K t.Ba (.ref t.Av)=some false
 RB:PySem.W.mroIn K t.Ba (.ref t.Bv)=some false
 Wz:PySem.W.mroIn K t.Ba (.ref t.Cd)=some false
 Abk:mg "NoColour" = some (.ref t.Bl)
 HN:Exn K t.Bl
 Uv:Mf K "called" "NoColour.called" Kv ["self"] t.Bl t.K9 t.KC
 O9:PySem.W.mroIn K t.Bl (.ref t.Cr)=some true
 Yv:PySem.W.mroIn K t.Bl (.ref t.BX)=some false
 RC:PySem.W.mroIn K t.Bl (.ref t.Bg)=some false
 Uw:PySem.W.mroIn K t.Bl (.ref t.Bw)=some false
 Ux:PySem.W.mroIn K t.Bl (.ref t.Br)=some false
 RD:PySem.W.mroIn K t.Bl (.ref t.Bh)=some false
 W0:PySem.W.mroIn K t.Bl (.ref t.BV)=some false
 RG:PySem.W.mroIn K t.Bl (.ref t.Bj)=some false
 Q4:PySem.W.mroIn K t.Bl (.ref t.Ba)=some false
 Jp:PySem.W.mroIn K t.Bl (.ref t.Bl)=some true
 Uy:PySem.W.mroIn K t.Bl (.ref t.By)=some false
 Q5:PySem.W.mroIn K t.Bl (.ref t.Av)=some false
 Uz:PySem.W.mroIn K t.Bl (.ref t.Bv)=some false
 Yw:PySem.W.mroIn K t.Bl (.ref t.Cd)=some false
 Acu:mg "NoBlock" = some (.ref t.By)
 J3:Exn K t.By
 Yx:Mf K "called" "NoBlock.called" Lr ["self"] t.By t.Ms t.Mt
 Q6:PySem.W.mroIn K t.By (.ref t.Cr)=some true
 ZW:PySem.W.mroIn K t.By (.ref t.BX)=some false
 U0:PySem.W.mroIn K t.By (.ref t.Bg)=some false
 W2:PySem.W.mroIn K t.By (.ref t.Bw)=some false
 W3:PySem.W.mroIn K t.By (.ref t.Br)=some false
 U3:PySem.W.mroIn K t.By (.ref t.Bh)=some false
 Yy:PySem.W.mroIn K t.By (.ref t.BV)=some false
 U4:PySem.W.mroIn K t.By (.ref t.Bj)=some false
 RJ:PySem.W.mroIn K t.By (.ref t.Ba)=some false
 U5:PySem.W.mroIn K t.By (.ref t.Bl)=some false
 KN:PySem.W.mroIn K t.By (.ref t.By)=some true
 RK:PySem.W.mroIn K t.By (.ref t.Av)=some false
 W4:PySem.W.mroIn K t.By (.ref t.Bv)=some false
 ZX:PySem.W.mroIn K t.By (.ref t.Cd)=some false
 Cv:mg "NoPattern" = some (.ref t.Av)
 Ca:Exn K t.Av
 Q7:Mf K "called" "NoPattern.called" JL ["self"] t.Av t.JR t.JS
 Ng:PySem.W.mroIn K t.Av (.ref t.Cr)=some true
 W5:PySem.W.mroIn K t.Av (.ref t.BX)=some false
 Q8:PySem.W.mroIn K t.Av (.ref t.Bg)=some false
 RL:PySem.W.mroIn K t.Av (.ref t.Bw)=some false
 RM:PySem.W.mroIn K t.Av (.ref t.Br)=some false
 Q9:PySem.W.mroIn K t.Av (.ref t.Bh)=some false
 U6:PySem.W.mroIn K t.Av (.ref t.BV)=some false
 QB:PySem.W.mroIn K t.Av (.ref t.Bj)=some false
 OD:PySem.W.mroIn K t.Av (.ref t.Ba)=some false
 QC:PySem.W.mroIn K t.Av (.ref t.Bl)=some false
 RN:PySem.W.mroIn K t.Av (.ref t.By)=some false
 Ht:PySem.W.mroIn K t.Av (.ref t.Av)=some true
 RP:PySem.W.mroIn K t.Av (.ref t.Bv)=some false
 W6:PySem.W.mroIn K t.Av (.ref t.Cd)=some false
 Acv:mg "Unknown" = some (.ref t.Bv)
 J4:Exn K t.Bv
 Yz:Mf K "called" "Unknown.called" Ls ["self"] t.Bv t.Mu t.Mv
 QD:PySem.W.mroIn K t.Bv (.ref t.Cr)=some true
 ZZ:PySem.W.mroIn K t.Bv (.ref t.BX)=some false
 U7:PySem.W.mroIn K t.Bv (.ref t.Bg)=some false
 W7:PySem.W.mroIn K t.Bv (.ref t.Bw)=some false
 W8:PySem.W.mroIn K t.Bv (.ref t.Br)=some false
 U8:PySem.W.mroIn K t.Bv (.ref t.Bh)=some false
 Y0:PySem.W.mroIn K t.Bv (.ref t.BV)=some false
 U9:PySem.W.mroIn K t.Bv (.ref t.Bj)=some false
 RQ:PySem.W.mroIn K t.Bv (.ref t.Ba)=some false
 UG:PySem.W.mroIn K t.Bv (.ref t.Bl)=some false
 W9:PySem.W.mroIn K t.Bv (.ref t.By)=some false
 RT:PySem.W.mroIn K t.Bv (.ref t.Av)=some false
 KQ:PySem.W.mroIn K t.Bv (.ref t.Bv)=some true
 Aaa:PySem.W.mroIn K t.Bv (.ref t.Cd)=some false
 Ada:mg "Twice" = some (.ref t.Cd)
 Nh:Exn K t.Cd
 Adb:Mf K "called" "Twice.called" Px ["self"] t.Cd t.Qm t.Qn
 UJ:PySem.W.mroIn K t.Cd (.ref t.Cr)=some true
 AbF:PySem.W.mroIn K t.Cd (.ref t.BX)=some false
 Y4:PySem.W.mroIn K t.Cd (.ref t.Bg)=some false
 Aab:PySem.W.mroIn K t.Cd (.ref t.Bw)=some false
 Aac:PySem.W.mroIn K t.Cd (.ref t.Br)=some false
 Y5:PySem.W.mroIn K t.Cd (.ref t.Bh)=some false
 Abl:PySem.W.mroIn K t.Cd (.ref t.BV)=some false
 Y6:PySem.W.mroIn K t.Cd (.ref t.Bj)=some false
 WD:PySem.W.mroIn K t.Cd (.ref t.Ba)=some false
 Y7:PySem.W.mroIn K t.Cd (.ref t.Bl)=some false
 Aad:PySem.W.mroIn K t.Cd (.ref t.By)=some false
 WK:PySem.W.mroIn K t.Cd (.ref t.Av)=some false
 Aae:PySem.W.mroIn K t.Cd (.ref t.Bv)=some false
 Th:PySem.W.mroIn K t.Cd (.ref t.Cd)=some true
 AdU:mg "Reader" = some (.ref t.Az)
 Bo:L2.Own K t.Az t.Hh
 Ex:Dl K t.Az "text"
 Dd:Dl K t.Az "place"
 AkC:mg "Path" = some (.ref t.Hg)
 Ni:L2.Own K t.Hg t.Je
 Fp:Dl K t.Hg "stops"
 Afc:mg "Times" = some (.ref t.DK)
 Ij:L2.Own K t.DK t.HD
 JZ:Dl K t.DK "count"
 Ka:Dl K t.DK "inner"
 AiE:mg "Draft" = some (.ref t.MJ)
 AiF:L2.Own K t.MJ t.HF
 Ae7:Dl K t.MJ "threading"
 Aij:Dl K t.MJ "ties"
 Afd:Dl K t.MJ "treading"
 AiG:mg "Piece" = some (.ref t.Kz)
 AmW:L2.Own K t.Kz t.Gk
 Ahp:Dl K t.Kz "texts"
 AfM:Dl K t.Kz "writing"
 Afe:mg "Named" = some (.ref t.Ra)
 Afg:L2.Own K t.Ra t.Gm
 Ahq:Dl K t.Ra "texts"
 AfN:Dl K t.Ra "writing"
 Ahr:Meth K t.Ra "cloth" t.Fo
 Ae8:mg "Rows" = some (.ref t.Lf)
 Abm:L2.Own K t.Lf t.Jf
 Ti:Dl K t.Lf "texts"
 Ov:Dl K t.Lf "writing"
 AbG:Meth K t.Lf "cloth" t.Fo
 AkD:mg "Loom" = some (.ref t.Eu)
 QF:L2.Own K t.Eu t.Jg
 WL:Dl K t.Eu "threading"
 Adc:Dl K t.Eu "ties"
 Ade:Dl K t.Eu "down"
 QG:Dl K t.Eu "thrown"
 AbH:Dl K t.Eu "deeds"
 Ahs:Amc K t.Kz "__init__" t.Gk
 AiH:mg "WORDS" = some (.ref t.AcV)
 AiI:Amg K t.AcV (["rows", "twill", "satin", "beside", "above", "mirror", "upend", "back", "quarter", "tile", "blocks", "lay"]:List Str)
 AdV:mg "THINGS" = some (.ref t.V8)
 AdW:Top K t.V8 ([("twill", "nn"),("satin", "nn"),("beside", "pp"),("above", "pp"),("mirror", "p"),("upend", "p"),("back", "p"),("quarter", "p"),("tile", "pnn"),("blocks", "ppp"),("lay", "pp")]:List (Str × Str))
 Dv:Mf K "__init__" "Reader.__init__" Kw ["self", "text"] t.Az t.Hh t.K1
 DY:Mf K "ended" "Reader.ended" Py ["self"] t.Az t.PJ t.PL
 BL:Mf K "took" "Reader.took" S5 ["self", "wanted"] t.Az t.S8 t.S9
 An:Mf K "stretch" "Reader.stretch" Lw ["self", "signs"] t.Az t.LK t.LQ
 Ff:Mf K "number" "Reader.number" N7 ["self"] t.Az t.Jc t.Jd
 Gz:Mf K "__init__" "Path.__init__" N8 ["self", "stops"] t.Hg t.Je t.NK
 QH:Mf K "size" "Path.size" Zm ["self"] t.Hg t.Zn t.Zo
 Kc:Mf K "numbers" "Path.numbers" P0 ["self"] t.Hg t.PN t.PQ
 Ey:Mf K "__init__" "Times.__init__" Lx ["self", "count", "inner"] t.DK t.HD t.LR
 J2:Mf K "size" "Times.size" V5 ["self"] t.DK t.Ju t.Jv
 G3:Mf K "numbers" "Times.numbers" NB ["self"] t.DK t.Gx t.Gy
 M3:Mf K "__init__" "Draft.__init__" Lz ["self", "threading", "ties", "treading"] t.MJ t.HF t.Ma
 M4:Mf K "__init__" "Piece.__init__" LC ["self", "texts", "writing"] t.Kz t.Gk t.Mg
 Lg:Mf K "cloth" "Piece.cloth" S7 ["self"] t.Kz t.Fo t.SJ
 M5:Mf K "__init__" "Named.__init__" XM ["self", "name", "known_cloth"] t.Ra t.Gm t.HH
 G4:Mf K "__init__" "Rows.__init__" Ja ["self", "runs"] t.Lf t.Jf t.NP
 Ow:Mf K "__init__" "Loom.__init__" Jb ["self", "threading", "ties"] t.Eu t.Jg t.NQ
 Ke:Mf K "unthrow" "Loom.unthrow" PB ["self"] t.Eu t.PX t.Qa
theorem bl1{fd:FuncData}{ps:List Str}(h:∀ a0:Value,bindArgs fd ⟨[a0],[]⟩=pure (ps.zip [a0]))(us:List Value)(hl:us.length=1):bindArgs fd ⟨us,[]⟩=pure (ps.zip us):=by
 rcases us with _ | ⟨a0,us⟩
 ·cases hl
 rcases us with _ | ⟨b,us⟩
 ·exact h a0
 ·cases hl
theorem bl2{fd:FuncData}{ps:List Str}(h:∀ a0 a1:Value,bindArgs fd ⟨[a0,a1],[]⟩=pure (ps.zip [a0,a1]))(us:List Value)(hl:us.length=2):bindArgs fd ⟨us,[]⟩=pure (ps.zip us):=by
 rcases us with _ | ⟨a0,us⟩
 ·cases hl
 rcases us with _ | ⟨a1,us⟩
 ·cases hl
 rcases us with _ | ⟨b,us⟩
 ·exact h a0 a1
 ·cases hl
theorem bl3{fd:FuncData}{ps:List Str}(h:∀ a0 a1 a2:Value,bindArgs fd ⟨[a0,a1,a2],[]⟩=pure (ps.zip [a0,a1,a2]))(us:List Value)(hl:us.length=3):bindArgs fd ⟨us,[]⟩=pure (ps.zip us):=by
 rcases us with _ | ⟨a0,us⟩
 ·cases hl
 rcases us with _ | ⟨a1,us⟩
 ·cases hl
 rcases us with _ | ⟨a2,us⟩
 ·cases hl
 rcases us with _ | ⟨b,us⟩
 ·exact h a0 a1 a2
 ·cases hl
theorem bl4{fd:FuncData}{ps:List Str}(h:∀ a0 a1 a2 a3:Value,bindArgs fd ⟨[a0,a1,a2,a3],[]⟩=pure (ps.zip [a0,a1,a2,a3]))(us:List Value)(hl:us.length=4):bindArgs fd ⟨us,[]⟩=pure (ps.zip us):=by
 rcases us with _ | ⟨a0,us⟩
 ·cases hl
 rcases us with _ | ⟨a1,us⟩
 ·cases hl
 rcases us with _ | ⟨a2,us⟩
 ·cases hl
 rcases us with _ | ⟨a3,us⟩
 ·cases hl
 rcases us with _ | ⟨b,us⟩
 ·exact h a0 a1 a2 a3
 ·cases hl
section
variable {P:Program}{w:World}{K:PySem.W.Frag}{mg:Str→Option Value}{base:Heap}{t:Adr}
def DW (z:Str):Sp:=fun vs H Q _=>∃ v,vs=[v]∧Q (.str z) H
theorem Aaf(T:Txt K mg t):Be P w K mg base CX0 1 t.Qk t.Ql ["self"] (DW "NoRow") :=
 T.AcZ.F.ok ZD (fun vs H Q E h=>by obtain⟨v,rfl,_⟩:=h;rfl) fun cdv A outer s H vs Q E hr h=>by
  obtain⟨v,rfl,k⟩:=h
  exact⟨_,Af (Am Ad),k⟩
theorem UL(T:Txt K mg t):Be P w K mg base CX0 1 t.K3 t.K4 ["self"] (DW "TooLarge") :=
 T.T7.F.ok Tv (fun vs H Q E h=>by obtain⟨v,rfl,_⟩:=h;rfl) fun cdv A outer s H vs Q E hr h=>by
  obtain⟨v,rfl,k⟩:=h
  exact⟨_,Af (Am Ad),k⟩
theorem WM(T:Txt K mg t):Be P w K mg base CX0 1 t.Mm t.Mp ["self"] (DW "NoCloth") :=
 T.Yj.F.ok V0 (fun vs H Q E h=>by obtain⟨v,rfl,_⟩:=h;rfl) fun cdv A outer s H vs Q E hr h=>by
  obtain⟨v,rfl,k⟩:=h
  exact⟨_,Af (Am Ad),k⟩
theorem WN(T:Txt K mg t):Be P w K mg base CX0 1 t.Mq t.Mr ["self"] (DW "NoDraft") :=
 T.Yl.F.ok V1 (fun vs H Q E h=>by obtain⟨v,rfl,_⟩:=h;rfl) fun cdv A outer s H vs Q E hr h=>by
  obtain⟨v,rfl,k⟩:=h
  exact⟨_,Af (Am Ad),k⟩
theorem UT(T:Txt K mg t):Be P w K mg base CX0 1 t.K5 t.K6 ["self"] (DW "NoStrand") :=
 T.Ug.F.ok Tw (fun vs H Q E h=>by obtain⟨v,rfl,_⟩:=h;rfl) fun cdv A outer s H vs Q E hr h=>by
  obtain⟨v,rfl,k⟩:=h
  exact⟨_,Af (Am Ad),k⟩
theorem Y8(T:Txt K mg t):Be P w K mg base CX0 1 t.Oq t.Ot ["self"] (DW "NoDeed") :=
 T.Abh.F.ok XF (fun vs H Q E h=>by obtain⟨v,rfl,_⟩:=h;rfl) fun cdv A outer s H vs Q E hr h=>by
  obtain⟨v,rfl,k⟩:=h
  exact⟨_,Af (Am Ad),k⟩
theorem UW(T:Txt K mg t):Be P w K mg base CX0 1 t.K7 t.K8 ["self"] (DW "NoLaying") :=
 T.Up.F.ok Tz (fun vs H Q E h=>by obtain⟨v,rfl,_⟩:=h;rfl) fun cdv A outer s H vs Q E hr h=>by
  obtain⟨v,rfl,k⟩:=h
  exact⟨_,Af (Am Ad),k⟩
theorem RW(T:Txt K mg t):Be P w K mg base CX0 1 t.JP t.JQ ["self"] (DW "NoShuttle") :=
 T.Qx.F.ok Ro (fun vs H Q E h=>by obtain⟨v,rfl,_⟩:=h;rfl) fun cdv A outer s H vs Q E hr h=>by
  obtain⟨v,rfl,k⟩:=h
  exact⟨_,Af (Am Ad),k⟩
theorem Va(T:Txt K mg t):Be P w K mg base CX0 1 t.K9 t.KC ["self"] (DW "NoColour") :=
 T.Uv.F.ok T3 (fun vs H Q E h=>by obtain⟨v,rfl,_⟩:=h;rfl) fun cdv A outer s H vs Q E hr h=>by
  obtain⟨v,rfl,k⟩:=h
  exact⟨_,Af (Am Ad),k⟩
theorem WQ(T:Txt K mg t):Be P w K mg base CX0 1 t.Ms t.Mt ["self"] (DW "NoBlock") :=
 T.Yx.F.ok V2 (fun vs H Q E h=>by obtain⟨v,rfl,_⟩:=h;rfl) fun cdv A outer s H vs Q E hr h=>by
  obtain⟨v,rfl,k⟩:=h
  exact⟨_,Af (Am Ad),k⟩
theorem RX(T:Txt K mg t):Be P w K mg base CX0 1 t.JR t.JS ["self"] (DW "NoPattern") :=
 T.Q7.F.ok Rp (fun vs H Q E h=>by obtain⟨v,rfl,_⟩:=h;rfl) fun cdv A outer s H vs Q E hr h=>by
  obtain⟨v,rfl,k⟩:=h
  exact⟨_,Af (Am Ad),k⟩
theorem WR(T:Txt K mg t):Be P w K mg base CX0 1 t.Mu t.Mv ["self"] (DW "Unknown") :=
 T.Yz.F.ok V3 (fun vs H Q E h=>by obtain⟨v,rfl,_⟩:=h;rfl) fun cdv A outer s H vs Q E hr h=>by
  obtain⟨v,rfl,k⟩:=h
  exact⟨_,Af (Am Ad),k⟩
theorem Aag(T:Txt K mg t):Be P w K mg base CX0 1 t.Qm t.Qn ["self"] (DW "Twice") :=
 T.Adb.F.ok ZF (fun vs H Q E h=>by obtain⟨v,rfl,_⟩:=h;rfl) fun cdv A outer s H vs Q E hr h=>by
  obtain⟨v,rfl,k⟩:=h
  exact⟨_,Af (Am Ad),k⟩
end
seal PE PT PW PA PS PSs PC PG PGs AlB PIp AlD PIE PI PO PEX PSX Ai4
section
variable {P:Program}{w:World}{K:PySem.W.Frag}{mg:Str→Option Value}{base:Heap}{t:Adr}
def rf (u:List Nat)(p:Nat):List (Str × V):=[("text", .str (tx u)),("place", .int (p:Int))]
def Rd (t:Adr)(H:Hp)(r dx:Addr)(u:List Nat)(p:Nat):Prop:=H r=some (.ins t.Az dx (rf u p))∧p≤u.length∧u.length≤1000000
theorem WT(u:List Nat)(p:Nat):(rf u p).lookup ("text" : Str)=some (V.str (tx u)):=rfl
theorem Iu(u:List Nat)(p:Nat):(rf u p).lookup ("place" : Str)=some (V.int (p:Int)):=rfl
theorem AkE(u:List Nat)(p q:Nat):Ej "place" (.int (q:Int)) (rf u p)=rf u q:=rfl
theorem big{n:Nat}(h:n≤1000000):n≤sizeLine:=ApA h (by decide)
def Aht (t:Adr):Sp:=fun vs H Q _=>∃ r dx u p,vs=[.ref r]∧Rd t H r dx u p∧Q (.bl (decide (p=u.length))) H
theorem Jh(T:Txt K mg t):Be P w K mg base CX0 1 t.PJ t.PL ["self"] (Aht t):=by
 refine T.DY.F.ok ZG (fun vs H Q E h=>?_) (fun cdv A outer s H vs Q E hr h=>?_)
 ·obtain⟨r,dx,u,p,rfl,_⟩:=h
  rfl
 ·obtain⟨r,dx,u,p,rfl,⟨hr1,hp,hu⟩,k⟩:=h
  refine⟨_,(Af (Am (BP Ce (DG (K:=K) (pv 0) rfl) (Ar De rfl T.DR Dk (Aa (DG (K:=K) (pv 0) rfl) Ab)) (Al _)))),?_⟩
  refine⟨_,rfl,_,_,_,_,_,rfl,hr1,T.Bo.c,T.Dd,Iu u p,?_⟩
  refine⟨_,rfl,_,_,_,_,_,rfl,hr1,T.Bo.c,T.Ex,WT u p,?_⟩
  refine⟨_,rfl,(by rw[BK];exact big hu),rfl,?_⟩
  have e:decide (V.int (p:Int)=V.int ((tx u).length:Int))=decide (p=u.length):=by
   rw[BK]
   apply decide_eq_decide.mpr
   constructor
   ·intro z;injection z with z;omega
   ·intro z;rw[z]
  rw[e]
  exact k
def AiJ (t:Adr):Sp:=fun vs H Q _=>∃ r dx u p v,vs=[.ref r,.str (tx v)]∧Rd t H r dx u p∧v.length≤100 ∧
 ((u.drop p).take v.length=v→Q (.bl true) (upd H r (.ins t.Az dx (rf u (p+v.length)))))∧((u.drop p).take v.length≠v→Q (.bl false) H)
theorem Afh{u:List Nat}{p n:Nat}(h:p≤u.length):Vj u (some (p:Int)) (some ((p:Int)+(n:Int)))=(u.drop p).take n:=by
 unfold Vj
 rw[show((p:Int)+(n:Int))=((p+n:Nat):Int) by omega,HT.QV,HT.QV,Aqp h]
 by_cases h2:p+n≤u.length
 ·rw[Aqp h2,Nat.add_sub_cancel_left]
 ·rw[Nat.min_eq_right (by omega),ApS (by rw[ApD];omega),ApS (by rw[ApD];omega)]
theorem Dc(T:Txt K mg t):Be P w K mg base CX0 1 t.S8 t.S9 ["self", "wanted"] (AiJ t):=by
 refine T.BL.F.ok Pz (fun vs H Q E h=>?_) (fun cdv A outer s H vs Q E hr h=>?_)
 ·obtain⟨r,dx,u,p,v,rfl,_⟩:=h
  rfl
 ·obtain⟨r,dx,u,p,v,rfl,⟨hr1,hp,hu⟩,hv,k1,k2⟩:=h
  refine⟨_,(Ac (Aw (i:=2) Pz.nd rfl (Or.inl rfl) (Bu Hc (DG (K:=K) (pv 0) rfl) (Ar De rfl T.DR Dk (Aa (pv 1) Ab))))
   (Ac (Bs (Ay AbU (J9 X3 (DG (K:=K) (pv 0) rfl) (Jq (DG (K:=K) (pv 0) rfl)) (Jq (pv 2))) (pv 1) (Al _))
    (Af (Am Ik))
    Ak)
   (Ac (Gh (K:=K) (pv 0) (pv 2))
   (Af (Am Ik))))),?_⟩
  refine⟨_,rfl,_,_,_,_,_,rfl,hr1,T.Bo.c,T.Dd,Iu u p,_,rfl,_,rfl,(by rw[BK];exact big (by omega)),_,_,rfl,rfl,?_⟩
  rw[BK]
  refine⟨_,rfl,_,_,_,_,_,rfl,hr1,T.Bo.c,T.Ex,WT u p,?_⟩
  refine⟨_,rfl,_,_,_,_,_,rfl,hr1,T.Bo.c,T.Dd,Iu u p,_,rfl,_,rfl,_,rfl,u,rfl,big hu,_,rfl,rfl,_,rfl,?_⟩
  rw[Afh hp]
  by_cases hc:(u.drop p).take v.length=v
  ·refine Ag3 (by rw[hc]) ?_
   refine⟨_,rfl,_,rfl,_,_,_,_,rfl,hr1,T.Bo.c,T.Dd,(by show 2<1000;decide),?_⟩
   show Q (.bl true) (upd H r (.ins t.Az dx (Ej ("place" : Str) (.int ((p:Int)+(v.length:Int))) (rf u p))))
   rw[show((p:Int)+(v.length:Int))=((p+v.length:Nat):Int) by omega,AkE]
   exact k1 hc
  ·refine AgE (fun z=>hc (by injection z with z;exact Ld z)) ?_
   exact k2 hc
def dg (c:Nat):Bool:=decide (48≤c∧c≤57)
def Ji (l:List Nat):List Nat:=l.takeWhile dg
def AbI (v:List Nat):V:=if (1≤v.length∧v.length≤2)∧¬(v.length=2∧v[0]?=some 48) then .int ((PySem.NumText.digitsVal v:Nat):Int) else .non
theorem AiK{l:List Nat}:∀ c∈Ji l,48≤c∧c≤57:=fun c hc=>by
 have h:dg c=true:=by
  unfold Ji at hc
  induction l with
  | nil=>simp at hc
  | cons a l ih =>
   rw[ApT] at hc
   split at hc
   next ha =>
    rcases List.mem_cons.mp hc with e | e
    ·rw[e];exact ha
    ·exact ih e
   next=>simp at hc
 exact of_decide_eq_true h
theorem Ahu{H:Hp}{r:Addr}{o:HO}(h:H r=some o):upd H r o=H:=by
 funext b
 unfold upd
 split
 next e=>rw[e,h]
 next=>rfl
theorem z48(c:Nat):(V.str ⟨#[c]⟩:V)=V.str "0" ↔ c=48:=by
 have e:(("0" : Str))=tx [48]:=by decide +kernel
 rw[e]
 exact⟨fun z=>by injection z with z;exact(List.cons.inj (Ld (a:=[c]) (b:=[48]) z)).1,fun z=>by rw[z];rfl⟩
def Ahv:Sp:=fun vs H Q _=>∃ v:List Nat,vs=[.str (tx v)]∧(∀ c∈v,48≤c∧c≤57)∧v.length≤1000000∧Q (AbI v) H
theorem Adf(T:Txt K mg t):Be P w K mg base CX0 1 t.Zq t.Zr ["figures"] Ahv:=by
 refine T.Rb.F.ok AcU (fun vs H Q E h=>?_) (fun cdv A outer s H vs Q E hr h=>?_)
 ·obtain⟨v,rfl,_⟩:=h
  rfl
 ·obtain⟨v,rfl,hd,hl,k⟩:=h
  have sz:(tx v).length≤sizeLine:=by rw[BK];exact big hl
  refine⟨_,(Ac (Bs (PW.pt (pw_or (Ay Nr (Ar De rfl T.DR Dk (Aa (pv 0) Ab)) Ai (Al _)) (pw_or1 (Ay J7 (Ar De rfl T.DR Dk (Aa (pv 0) Ab)) Ai (Al _)))))
    (Af (Am La))
    Ak)
   (Ac (Bs (PW.pt (pw_and (Ay Ce (Ar De rfl T.DR Dk (Aa (pv 0) Ab)) Ai (Al _)) (pw_and1 (Ay Ce (CG Aa3 (pv 0) Ai (fun _ _=>rfl)) Ad (Al _)))))
    (Af (Am La))
    Ak)
   (Af (Am (Fi Af8 rfl T.Amw Akk (Aa (pv 0) Ab)))))),?_⟩
  unfold AbI at k
  refine⟨_,rfl,_,rfl,sz,_,_,rfl,rfl,_,rfl,?_⟩
  rw[BK]
  refine Fe (fun c1=>?_) (fun c1=>?_)
  ·refine Ed ?_
   rw[if_neg (by omega)] at k
   exact k
  ·refine⟨_,rfl,_,rfl,sz,_,_,rfl,rfl,_,rfl,?_⟩
   rw[BK]
   refine Fe (fun c2=>?_) (fun c2=>?_)
   ·rw[if_neg (by omega)] at k
    exact k
   ·refine⟨_,rfl,_,rfl,sz,rfl,_,rfl,?_⟩
    rw[BK]
    have fin:¬(v.length=2∧v[0]?=some 48)→∃ z n,[V.str (tx v)]=[V.str z]∧PySem.intText? z=some n∧z.length≤640∧Q (.int n) H:=fun c3=>by
     rw[if_pos ⟨by omega,c3⟩] at k
     refine⟨tx v,_,rfl,PySem.intText_digits (x:=tx v) (by rw[Eg];exact hd) (by rw[Eg];intro z;rw[z] at c1;simp at c1) (by rw[BK];omega),by rw[BK];omega,?_⟩
     rw[Eg]
     exact k
    refine Fe (fun c3=>?_) (fun c3=>?_)
    ·have l2:v.length=2:=by injection c3 with c3;omega
     have h0:0<v.length:=by omega
     refine⟨_,rfl,_,_,v[0],rfl,rfl,sz,CJ (by decide) (by rw[Eg];exact Apy h0),rfl,_,rfl,?_⟩
     refine Fe (fun c4=>?_) (fun c4=>?_)
     ·rw[if_neg (fun z=>z.2 ⟨l2,by rw[Apy h0,(z48 _).mp c4]⟩)] at k
      exact k
     ·exact⟨_,rfl,fin fun z=>c4 ((z48 _).mpr (by have:=z.2;rw[Apy h0] at this;exact Option.some.inj this))⟩
    ·exact Ez ⟨_,rfl,fin fun z=>c3 (by rw[z.1];rfl)⟩
theorem Dm(u:List Nat)(p:Nat):(rf u p).lookup ("ended" : Str)=none∧(rf u p).lookup ("took" : Str)=none∧(rf u p).lookup ("number" : Str)=none∧(rf u p).lookup ("stretch" : Str)=none:=⟨rfl,rfl,rfl,rfl⟩
def AmX:Sp:=fun vs H Q _=>∃(C r dx:Addr) (u:List Nat),vs=[.ref r,.str (tx u)]∧H r=some (.ins C dx [])∧Q .non (upd H r (.ins C dx (rf u 0)))
theorem Kf(T:Txt K mg t):Be P w K mg base CX0 1 t.Hh t.K1 ["self", "text"] (fun vs H Q E=>∃(r dx:Addr) (u:List Nat),vs=[.ref r,.str (tx u)]∧H r=some (.ins t.Az dx [])∧Q .non (upd H r (.ins t.Az dx (rf u 0)))):=by
 refine T.Dv.F.ok T4 (fun vs H Q E h=>?_) (fun cdv A outer s H vs Q E hr h=>?_)
 ·obtain⟨r,dx,u,rfl,_⟩:=h
  rfl
 ·obtain⟨r,dx,u,rfl,h1,k⟩:=h
  refine⟨_,(Ac (Gh (K:=K) (pv 0) (pv 1))
   (Af (Gh (K:=K) (pv 0) Ai))),?_⟩
  refine⟨_,rfl,_,rfl,_,_,_,_,rfl,h1,T.Bo.c,T.Ex,(by decide),?_⟩
  refine⟨_,rfl,_,_,_,_,rfl,Ae,T.Bo.c,T.Dd,(by show 1<1000;decide),?_⟩
  rw[Ea]
  exact k
def stp (sg l:List Nat):List Nat:=l.takeWhile fun c=>decide (c∈sg)
theorem Ahw{sg:List Nat}:∀(l:List Nat) (n:Nat),n≤l.length→(∀ c∈l.take n,c∈sg)→(∀ c,l[n]?=some c→c∉sg)→stp sg l=l.take n
 | [],n,h,_,_=>by simp[stp]
 | c::l,0,_,_,h2=>by
  unfold stp
  rw[ApT,if_neg (by rw[decide_eq_true_eq];exact h2 c rfl)]
  rfl
 | c::l,n+1,h,h1,h2=>by
  have hc:c∈sg:=h1 c (by simp)
  have:=Ahw (sg:=sg) l n (by simpa using h) (fun d hd=>h1 d (by rw[Aqb];exact Ap6 _ hd)) (fun d hd=>h2 d (by simpa using hd))
  unfold stp at this ⊢
  rw[ApT,if_pos (decide_eq_true hc),this,Aqb]
theorem Afi(sg:List Nat):∀(l:List Nat),(∀ c∈stp sg l,c∈sg)∧(stp sg l).length≤l.length
 | []=>⟨fun c hc=>(by cases hc),Apv _⟩
 | a::l=>by
  have ih:=Afi sg l
  unfold stp at ih ⊢
  rw[ApT]
  by_cases h:a∈sg
  ·rw[if_pos (decide_eq_true h)]
   refine⟨fun c hc=>?_,by simp only [Apz];omega⟩
   rcases List.mem_cons.mp hc with e | e
   ·rw[e];exact h
   ·exact ih.1 c e
  ·rw[if_neg (by rw[decide_eq_true_eq];exact h)]
   exact⟨fun c hc=>(by cases hc),Ap7 _⟩
theorem Abn(sg:List Nat)(c:Nat):(!(Builtin.Str.occurrences (tx sg) ⟨#[c]⟩ 0 (tx sg).length 1).isEmpty)=decide (c∈sg):=by
 rw[StrLaws.found_one,Eg]
def Ae9 (t:Adr):Sp:=fun vs H Q _=>∃ r dx u p sg,vs=[.ref r,.str (tx sg)]∧Rd t H r dx u p∧sg.length≤1000∧Q (.str (tx (stp sg (u.drop p)))) (upd H r (.ins t.Az dx (rf u (p+(stp sg (u.drop p)).length))))
theorem BR(T:Txt K mg t):Be P w K mg base CX0 2 t.LK t.LQ ["self", "signs"] (Ae9 t):=by
 refine T.An.F.ok Ky (fun vs H Q E h=>?_) (fun cdv A outer s H vs Q E hr h=>?_)
 ·obtain⟨r,dx,u,p,sg,rfl,_⟩:=h
  rfl
 ·obtain⟨r,dx,u,p,sg,rfl,⟨hr1,hp,hu⟩,hsg,k⟩:=h
  refine⟨_,(Ac (Aw (i:=2) Ky.nd rfl (Or.inl rfl) (DG (K:=K) (pv 0) rfl))
   (Ac (Vg PassesOwn.never (PW.pt (pw_and (Dp (Cw (Li (pv 0) T.Bo.c T.DY.m ((Jh T).mono (by decide)) hr T.DY.b .nil Bp))) (pw_and1 (Ay Xu (CG Aa3 (DG (K:=K) (pv 0) rfl) (DG (K:=K) (pv 0) rfl) (fun _ _=>rfl)) (pv 1) rfl))))
    (Af (Aez (K:=K) (pv 0) Ai AjX)))
   (Af (Am (J9 X3 (DG (K:=K) (pv 0) rfl) (Jq (pv 2)) (Jq (DG (K:=K) (pv 0) rfl))))))),?_⟩
  refine⟨_,rfl,_,_,_,_,_,rfl,hr1,T.Bo.c,T.Dd,Iu u p,?_⟩
  refine⟨fun m σ H2=>∃ n,σ=[some (.ref r),some (.str (tx sg)),some (.int (p:Int))]∧H2=upd H r (.ins t.Az dx (rf u (p+n)))∧p+n≤u.length∧(∀ c∈(u.drop p).take n,c∈sg)∧m=u.length-(p+n),
   ⟨_,0,rfl,(Ahu hr1).symm,hp,(fun c hc=>by simp at hc),rfl⟩,?_⟩
  rintro m σ H2 ⟨n,rfl,rfl,hn,ha,rfl⟩
  have hS:(upd H r (.ins t.Az dx (rf u (p+n)))) r=some (.ins t.Az dx (rf u (p+n))):=Ae
  have done:(∀ c,(u.drop p)[n]?=some c→c∉sg)→(u.drop p).take n=stp sg (u.drop p):=fun hs=>(Ahw _ n (by rw[ApD];omega) ha hs).symm
  have ln:((u.drop p).take n).length=n:=by rw[ApY,ApD];omega
  have e3:Vj u (some (p:Int)) (some ((p+n:Nat):Int))=(u.drop p).take n:=by rw[Int.natCast_add];exact Afh hp
  have fin:(u.drop p).take n=stp sg (u.drop p)→Q (.str (tx (Vj u (some (p:Int)) (some ((p+n:Nat):Int))))) (upd H r (.ins t.Az dx (rf u (p+n)))):=fun e2=>by
   have e1:(stp sg (u.drop p)).length=n:=by rw[← e2,ln]
   rw[e3,e2];rw[e1] at k;exact k
  refine⟨_,rfl,r,dx,rf u (p+n),rfl,hS,(Dm u _).1,r,dx,u,p+n,rfl,⟨hS,hn,hu⟩,_,rfl,?_⟩
  by_cases c1:p+n=u.length
  ·rw[decide_eq_true c1]
   refine Ez ?_
   refine Ez ?_
   exact⟨_,rfl,_,_,_,_,_,rfl,hS,T.Bo.c,T.Ex,WT u _,_,rfl,_,rfl,_,rfl,_,_,_,_,_,rfl,hS,T.Bo.c,T.Dd,Iu u _,_,rfl,u,rfl,big hu,
    fin (done fun c hc=>by rw[Aqx (by rw[ApD];omega)] at hc;cases hc)⟩
  ·rw[decide_eq_false c1]
   refine Ed ?_
   have hlt:p+n<u.length:=by omega
   refine⟨_,rfl,_,_,_,_,_,rfl,hS,T.Bo.c,T.Ex,WT u _,_,rfl,_,_,_,_,_,rfl,hS,T.Bo.c,T.Dd,Iu u _,_,_,u[p+n],rfl,rfl,(by rw[BK];exact big hu),
    CJ (by omega) (by rw[ApK,Eg];exact Apy hlt),_,rfl,_,_,rfl,rfl,_,rfl,?_⟩
   rw[Abn]
   refine Fe (fun c2=>?_) (fun c2=>?_)
   ·refine⟨_,fun σ' H' h=>h,?_⟩
    refine⟨_,rfl,_,_,_,_,_,rfl,hS,T.Bo.c,T.Dd,Iu u _,_,_,rfl,rfl,dx,rf u (p+n),hS,(by show 2<1000;decide),?_⟩
    refine⟨u.length-(p+(n+1)),by omega,n+1,rfl,?_,by omega,fun c hc=>?_,rfl⟩
    ·rw[Ea]
     rfl
    ·rw[ApH,Aq3,Apy hlt] at hc
     rcases List.mem_append.mp hc with h | h
     ·exact ha c h
     ·rw[show c=u[p+n] by simpa using h]
      exact c2
   ·exact⟨_,rfl,_,_,_,_,_,rfl,hS,T.Bo.c,T.Ex,WT u _,_,rfl,_,rfl,_,rfl,_,_,_,_,_,rfl,hS,T.Bo.c,T.Dd,Iu u _,_,rfl,u,rfl,big hu,
     fin (done fun c hc=>by rw[Aq3,Apy hlt] at hc;cases hc;exact c2)⟩
def Adg:List Nat:=[48,49,50,51,52,53,54,55,56,57]
theorem AkF:(("0123456789" : Str))=tx Adg:=by decide +kernel
theorem Abo{c:Nat}:c∈Adg↔48≤c∧c≤57:=by
 rw[show Adg=List.range' 48 10 from rfl,List.mem_range'_1]
 omega
def AfO (t:Adr):Sp:=fun vs H Q _=>∃ r dx u p,vs=[.ref r]∧Rd t H r dx u p∧Q (AbI (stp Adg (u.drop p))) (upd H r (.ins t.Az dx (rf u (p+(stp Adg (u.drop p)).length))))
theorem M6(T:Txt K mg t):Be P w K mg base CX0 3 t.Jc t.Jd ["self"] (AfO t):=by
 refine T.Ff.F.ok XH (fun vs H Q E h=>?_) (fun cdv A outer s H vs Q E hr h=>?_)
 ·obtain⟨r,dx,u,p,rfl,_⟩:=h
  rfl
 ·obtain⟨r,dx,u,p,rfl,hR,k⟩:=h
  refine⟨_,(Af (Am (Aj ((Adf T).mono (by decide)) hr rfl T.Rb.m T.Rb.F.kp T.Rb.b .nil Bp (Aa (Dj (pv 0) T.Bo.c T.An.m ((BR T).mono (by decide)) hr T.An.b .nil Bp (Aa (Ci (v:=.str "0123456789") rfl T.AfK.choose_spec ⟨_,rfl⟩) Ab)) Ab)))),?_⟩
  have hf:=Afi Adg (u.drop p)
  refine⟨_,rfl,r,dx,rf u p,rfl,hR.1,(Dm u p).2.2.2,r,dx,u,p,Adg,(by rw[AkF];rfl),hR,(by decide),?_⟩
  exact⟨_,rfl,fun c hc=>Abo.mp (hf.1 c hc),by have:=hR.2.2;have:=hf.2;rw[ApD] at this;omega,k⟩
def Cj (r:Addr)(H H':Hp):Prop:=∀ b o,b≠r→H b=some o→H' b=some o
theorem Cj.trans{r:Addr}{H H1 H2:Hp}(a:Cj r H H1)(b:Cj r H1 H2):Cj r H H2:=fun c o n e=>b c o n (a c o n e)
theorem Cj.upd{r:Addr}{H:Hp}{o:HO}:Cj r H (L2.upd H r o):=fun b o' n e=>by rw[Ao n];exact e
def Gu (t:Adr)(H:Hp)(r dx:Addr)(u:List Nat)(p:Nat):Hp:=upd H r (.ins t.Az dx (rf u p))
theorem QJ{H:Hp}{r dx:Addr}{u:List Nat}{p q:Nat}(h:Rd t H r dx u p)(hq:q≤u.length):Rd t (Gu t H r dx u q) r dx u q:=⟨Ae,hq,h.2.2⟩
theorem Aap(f:Nat→Bool):∀ l:List Nat,l.drop (l.takeWhile f).length=l.dropWhile f
 | []=>rfl
 | a::l=>by
  rw[ApT,List.dropWhile_cons]
  by_cases h:f a=true
  ·rw[if_pos h,if_pos h,Apz,Aq8]
   exact Aap f l
  ·rw[if_neg h,if_neg h]
   rfl
theorem Kg{sg:List Nat}{f:Nat→Bool}(h:∀ c,decide (c∈sg)=f c)(l:List Nat):stp sg l=l.takeWhile f:=by
 unfold stp
 rw[show(fun c=>decide (c∈sg))=f from funext h]
theorem AkG(c:Nat):decide (c∈Adg)=Pat.Dw c:=decide_eq_decide.mpr Abo
theorem Z4(c:Nat):decide (c∈[32])=decide (c=32):=decide_eq_decide.mpr List.mem_singleton
theorem QK:((" " : Str))=tx [32]:=by decide +kernel
theorem behind{u:List Nat}{p:Nat}(f:Nat→Bool)(hp:p≤u.length):u.drop (p+((u.drop p).takeWhile f).length)=(u.drop p).dropWhile f∧p+((u.drop p).takeWhile f).length≤u.length:=by
 refine⟨by rw[← Aqc,Aap],?_⟩
 have h:=(List.takeWhile_prefix f (l:=u.drop p)).length_le
 rw[ApD] at h
 omega
theorem Acw{f:List Nat}:Pat.Acm f=true↔((1≤f.length∧f.length≤2)∧¬(f.length=2∧f[0]?=some 48)):=by unfold Pat.Acm;exact decide_eq_true_iff
def AiL (t:Adr):Sp:=fun vs H Q E=>∃ r dx u p,vs=[.ref r]∧Rd t H r dx u p ∧
 (∀ n l p',Pat.num (u.drop p)=some (n,l)→p≤p'→p'≤u.length→u.drop p'=l→Q (.int ((n:Nat):Int)) (Gu t H r dx u p'))∧(Pat.num (u.drop p)=none→∀ H',Cj r H H'→E (.ref t.Av) none H')
theorem Nj(T:Txt K mg t):Be P w K mg base (CX1 P w) 4 t.Ip t.Ir ["reader"] (AiL t):=by
 refine T.Fb.F.okX Hr (fun vs H Q E h=>?_) (fun cdv A outer s H vs Q E hr h=>?_)
 ·obtain⟨r,dx,u,p,rfl,_⟩:=h
  rfl
 ·obtain⟨r,dx,u,p,rfl,hR,k1,k2⟩:=h
  refine⟨_,(Ac (Aw (i:=1) Hr.nd rfl (Or.inl rfl) (Li (pv 0) T.Bo.c T.Ff.m ((M6 T).mono (by decide)) hr T.Ff.b .nil Bp))
   (Ac (Bs (Ay Aay (pv 1) La (Al _))
    (Af (Bx Cm rfl (fun _ _ z=>z) PySem.F.excBase_ValueError Ck PySem.F.excBase_ValueError T.Ca.q rfl T.Cv (Aa Ad Ab)))
    Ak)
   (Ac (Cq (Dj (pv 0) T.Bo.c T.An.m ((BR T).mono (by decide)) hr T.An.b .nil Bp (Aa Ad Ab)))
   (Af (Am (pv 1)))))),?_⟩
  refine⟨_,rfl,r,dx,rf u p,rfl,hR.1,(Dm u p).2.2.1,r,dx,u,p,rfl,hR,?_⟩
  show ∃ _,_
  rw[Kg AkG]
  have b1:=behind Pat.Dw hR.2.1
  unfold Pat.num at k1 k2
  by_cases c:Pat.Acm ((u.drop p).takeWhile Pat.Dw)=true
  ·rw[if_pos c] at k1
   rw[show AbI ((u.drop p).takeWhile Pat.Dw)=.int ((PySem.NumText.digitsVal ((u.drop p).takeWhile Pat.Dw):Nat):Int) from if_pos (Acw.mp c)]
   refine⟨_,rfl,rfl,_,rfl,?_⟩
   refine Bq (fun z=>nomatch z) ?_
   have hR2:=QJ hR b1.2
   refine⟨_,rfl,r,dx,rf u _,rfl,hR2.1,(Dm u _).2.2.2,r,dx,u,_,[32],(by rw[QK];rfl),hR2,(by decide),?_⟩
   rw[Kg Z4,Ea]
   have b2:=behind (fun c=>decide (c=32)) b1.2
   show ∃ _,_
   refine⟨_,rfl,?_⟩
   exact k1 _ _ _ rfl (by omega) b2.2 (by rw[b2.1,b1.1];rfl)
  ·rw[if_neg c] at k2
   rw[show AbI ((u.drop p).takeWhile Pat.Dw)=.non from if_neg fun z=>c (Acw.mpr z)]
   refine⟨_,rfl,rfl,_,rfl,?_⟩
   refine Eh rfl ?_
   exact⟨by decide,k2 rfl _ Cj.upd⟩
theorem Y9:(("," : Str))=tx [44]:=by decide +kernel
theorem WW{c a:Nat}{v:List Nat}:Pat.one c (a::v)=if a=c then some v else none:=rfl
theorem QL{u:List Nat}{p c:Nat}:(u.drop p).take [c].length=[c]↔∃ l,Pat.one c (u.drop p)=some l:=by
 cases e:u.drop p with
 | nil=>exact⟨fun z=>by simp at z,fun⟨l,z⟩=>by simp[Pat.one] at z⟩
 | cons a v =>
  constructor
  ·intro z
   have h:a=c:=by simpa using z
   exact⟨v,by rw[WW,if_pos h]⟩
  ·rintro⟨l,z⟩
   rw[WW] at z
   by_cases h:a=c
   ·rw[h];rfl
   ·rw[if_neg h] at z;cases z
theorem WY{u l:List Nat}{p c:Nat}(h:Pat.one c (u.drop p)=some l):u.drop (p+[c].length)=l∧p+[c].length≤u.length:=by
 cases e:u.drop p with
 | nil=>rw[e] at h;simp[Pat.one] at h
 | cons a v =>
  rw[e] at h
  rw[WW] at h
  by_cases ha:a=c
  ·rw[if_pos ha] at h
   have hl:=congrArg List.length e
   rw[ApD,Apz] at hl
   refine⟨?_,by simp only [Apz,ApX];omega⟩
   rw[← Aqc,e]
   exact Option.some.inj h
  ·rw[if_neg ha] at h;cases h
theorem Xa{u:List Nat}{p c:Nat}(h:(u.drop p).take [c].length≠[c]):Pat.one c (u.drop p)=none:=by
 cases e:Pat.one c (u.drop p) with
 | none=>rfl
 | some l=>exact absurd (QL.mpr ⟨l,e⟩) h
def AfP (t:Adr):Sp:=fun vs H Q E=>∃ r dx u p,vs=[.ref r]∧Rd t H r dx u p ∧
 (∀ l p',Pat.comma (u.drop p)=some l→p≤p'→p'≤u.length→u.drop p'=l→Q .non (Gu t H r dx u p'))∧(Pat.comma (u.drop p)=none→∀ H',Cj r H H'→E (.ref t.Av) none H')
theorem Abp(T:Txt K mg t):Be P w K mg base (CX1 P w) 3 t.VJ t.VL ["reader"] (AfP t):=by
 refine T.MP.F.okX Ab9 (fun vs H Q E h=>?_) (fun cdv A outer s H vs Q E hr h=>?_)
 ·obtain⟨r,dx,u,p,rfl,_⟩:=h
  rfl
 ·obtain⟨r,dx,u,p,rfl,hR,k1,k2⟩:=h
  refine⟨_,(Ac (Bs (Dp (Cw (Dj (pv 0) T.Bo.c T.BL.m ((Dc T).mono (by decide)) hr T.BL.b .nil Bp (Aa Ad Ab))))
    (Af (Bx Cm rfl (fun _ _ z=>z) PySem.F.excBase_ValueError Ck PySem.F.excBase_ValueError T.Ca.q rfl T.Cv (Aa Ad Ab)))
    Ak)
   (Af (Cq (Dj (pv 0) T.Bo.c T.An.m ((BR T).mono (by decide)) hr T.An.b .nil Bp (Aa Ad Ab))))),?_⟩
  unfold Pat.comma at k1 k2
  refine⟨_,rfl,r,dx,rf u p,rfl,hR.1,(Dm u p).2.1,r,dx,u,p,[44],(by rw[Y9];rfl),hR,(by decide),fun YB=>?_,fun hno=>?_⟩
  ·obtain⟨l,e⟩:=QL.mp YB
   have d:=WY e
   have hR2:=QJ hR d.2
   refine⟨_,rfl,?_⟩
   refine Ez ?_
   refine⟨_,rfl,r,dx,rf u _,rfl,hR2.1,(Dm u _).2.2.2,r,dx,u,_,[32],(by rw[QK];rfl),hR2,(by decide),?_⟩
   rw[Kg Z4,Ea]
   have b2:=behind (fun c=>decide (c=32)) d.2
   rw[e] at k1
   exact k1 _ _ rfl (by omega) b2.2 (by rw[b2.1,d.1];rfl)
  ·refine⟨_,rfl,?_⟩
   refine Ed ?_
   exact⟨by decide,k2 (by rw[Xa hno];rfl) _ (fun b o _ e=>e)⟩
theorem AiM:(("#." : Str))=tx [35,46]:=by decide +kernel
theorem AiN(c:Nat):decide (c∈[35,46])=Pat.knot c:=decide_eq_decide.mpr (by simp only [ApJ,ApN,or_false])
def AiO (t:Adr):Sp:=fun vs H Q E=>∃ r dx u p,vs=[.ref r]∧Rd t H r dx u p ∧
 (∀ z l p',Pat.run (u.drop p)=some (z,l)→p<p'→p'≤u.length→u.drop p'=l→Q (.str (tx z)) (Gu t H r dx u p'))∧(Pat.run (u.drop p)=none→∀ H',Cj r H H'→E (.ref t.Av) none H')
theorem Xb(T:Txt K mg t):Be P w K mg base (CX1 P w) 3 t.AaX t.AaY ["reader"] (AiO t):=by
 refine T.JW.F.okX Zi (fun vs H Q E h=>?_) (fun cdv A outer s H vs Q E hr h=>?_)
 ·obtain⟨r,dx,u,p,rfl,_⟩:=h
  rfl
 ·obtain⟨r,dx,u,p,rfl,hR,k1,k2⟩:=h
  refine⟨_,(Ac (Aw (i:=1) Zi.nd rfl (Or.inl rfl) (Dj (pv 0) T.Bo.c T.An.m ((BR T).mono (by decide)) hr T.An.b .nil Bp (Aa Ad Ab)))
   (Ac (Bs (Ay Ce (pv 1) Ad (Al _))
    (Af (Bx Cm rfl (fun _ _ z=>z) PySem.F.excBase_ValueError Ck PySem.F.excBase_ValueError T.Ca.q rfl T.Cv (Aa Ad Ab)))
    Ak)
   (Ac (Cq (Dj (pv 0) T.Bo.c T.An.m ((BR T).mono (by decide)) hr T.An.b .nil Bp (Aa Ad Ab)))
   (Af (Am (pv 1)))))),?_⟩
  unfold Pat.run at k1 k2
  have b1:=behind Pat.knot hR.2.1
  refine⟨_,rfl,r,dx,rf u p,rfl,hR.1,(Dm u p).2.2.2,r,dx,u,p,[35,46],(by rw[AiM];rfl),hR,(by decide),?_⟩
  rw[Kg AiN]
  refine⟨_,rfl,rfl,_,rfl,?_⟩
  by_cases c:(u.drop p).takeWhile Pat.knot=[]
  ·rw[if_pos c] at k2
   refine Eh (by rw[c];decide +kernel) ?_
   exact⟨by decide,k2 rfl _ Cj.upd⟩
  ·rw[if_neg c] at k1
   have hR2:=QJ hR b1.2
   refine Bq (fun z=>c ?_) ?_
   ·have e:(("" : Str))=tx []:=by decide +kernel
    rw[e] at z
    injection z with z
    exact Ld z
   refine⟨_,rfl,r,dx,rf u _,rfl,hR2.1,(Dm u _).2.2.2,r,dx,u,_,[32],(by rw[QK];rfl),hR2,(by decide),?_⟩
   rw[Kg Z4,Ea]
   have b2:=behind (fun c=>decide (c=32)) b1.2
   have l0:0<((u.drop p).takeWhile Pat.knot).length:=List.length_pos_iff.mpr c
   refine⟨_,rfl,?_⟩
   exact k1 _ _ _ rfl (by omega) b2.2 (by rw[b2.1,b1.1];rfl)
theorem Ahx(l:List Nat):(Pat.sk l).length≤l.length:=(Aqo _).length_le
theorem Ahy{c:Nat}{l l1:List Nat}(h:Pat.one c l=some l1):l1.length<l.length:=by
 cases l with
 | nil=>simp[Pat.one] at h
 | cons a v =>
  rw[WW] at h
  by_cases ha:a=c
  ·rw[if_pos ha] at h
   rw[← Option.some.inj h,Apz]
   omega
  ·rw[if_neg ha] at h;cases h
theorem Ahz{l z l2:List Nat}(h:Pat.run l=some (z,l2)):l2.length≤l.length:=by
 unfold Pat.run at h
 split at h
 ·cases h
 ·injection h with h
  injection h with _ h
  rw[← h]
  exact ApA (Ahx _) (Aqo _).length_le
theorem Acx:∀(k k':Nat) (l:List Nat),l.length<k→l.length<k'→Pat.Et k l=Pat.Et k' l
 | 0,_,_,h,_=>by omega
 | _+1,0,_,_,h=>by omega
 | k+1,k'+1,l,h1,h2=>by
  unfold Pat.Et
  cases e:Pat.one 44 l with
  | none=>rfl
  | some l1 =>
   cases e2:Pat.run (Pat.sk l1) with
   | none=>simp only [e2]
   | some q =>
    obtain⟨z,l2⟩:=q
    have a:=Ahy e
    have b:=Ahz e2
    have c:=Ahx l1
    simp only [e2]
    rw[Acx k k' l2 (by omega) (by omega)]
def more(l:List Nat):Option (List (List Nat) × List Nat):=Pat.Et (l.length+1) l
theorem Ah0{l:List Nat}(h:Pat.one 44 l=none):more l=some ([],l):=by
 unfold more Pat.Et
 rw[h]
theorem Ah1{l l1:List Nat}(h:Pat.one 44 l=some l1)(h2:Pat.run (Pat.sk l1)=none):more l=none:=by
 unfold more Pat.Et
 rw[h]
 simp only [h2]
theorem AfQ{l l1 z l2:List Nat}(h:Pat.one 44 l=some l1)(h2:Pat.run (Pat.sk l1)=some (z,l2)):more l=(more l2).map fun p=>(z::p.1,p.2):=by
 have a:=Ahy h
 have b:=Ahz h2
 have c:=Ahx l1
 unfold more
 rw[Acx (l2.length+1) l.length l2 (by omega) (by omega)]
 conv=>lhs;unfold Pat.Et
 rw[h]
 simp only [h2]
def Tj (done:List (List Nat))(l:List Nat):Option (List (List Nat) × List Nat):=match more l with
 | none=>none
 | some (rs,l2)=>if (done++rs).length>40 then none else some (done++rs,l2)
theorem AcT{l z l1:List Nat}(h:Pat.run l=some (z,l1)):Pat.runs l=Tj [z] l1:=by
 unfold Pat.runs Tj more
 rw[h]
 rfl
theorem Ah2{done:List (List Nat)}{l l1 z l2:List Nat}(h:Pat.one 44 l=some l1)(h2:Pat.run (Pat.sk l1)=some (z,l2)):Tj done l=Tj (done++[z]) l2:=by
 unfold Tj
 rw[AfQ h h2]
 cases more l2 with
 | none=>rfl
 | some q =>
  obtain⟨rs,l3⟩:=q
  simp only [Option.map_some,ApW,Aq9]
def Ah3 (t:Adr):Sp:=fun vs H Q E=>∃ r dx u p,vs=[.ref r]∧Rd t H r dx u p ∧
 (∀ zs l p' q,Pat.runs (u.drop p)=some (zs,l)→p≤p'→p'≤u.length→u.drop p'=l→H q=none→q≠r→Q (.ref q) (upd (Gu t H r dx u p') q (.lst (vS zs))))∧(Pat.runs (u.drop p)=none→∀ H',Cj r H H'→E (.ref t.Av) none H')
theorem swp{H:Hp}{r dx q:Addr}{u:List Nat}{p1 p2:Nat}{o:HO}(h:q≠r):upd (upd (Gu t H r dx u p1) q o) r (.ins t.Az dx (rf u p2))=upd (Gu t H r dx u p2) q o:=by
 funext b
 show upd (upd (upd H r _) q _) r _ b=upd (upd H r _) q _ b
 by_cases e1:b=r
 ·rw[e1,Ae,Ao h.symm,Ae]
 ·by_cases e2:b=q
  ·rw[e2,Ao h,Ae,Ae]
  ·rw[Ao e1,Ao e2,Ao e1,Ao e2,Ao e1]
theorem AbJ(T:Txt K mg t):Be P w K mg base (CX1 P w) 4 t.Zz t.Z0 ["reader"] (Ah3 t):=by
 refine T.Ri.F.okX Vu (fun vs H Q E h=>?_) (fun cdv A outer s H vs Q E hr h=>?_)
 ·obtain⟨r,dx,u,p,rfl,_⟩:=h
  rfl
 ·obtain⟨r,dx,u,p,rfl,hR,k1,k2⟩:=h
  refine⟨_,(Ac (Aw (i:=1) Vu.nd rfl (Or.inl rfl) (BJ (Aa (Aj ((Xb T).mono (by decide)) hr rfl T.JW.m T.JW.F.kp T.JW.b .nil BZ (Aa (pv 0) Ab)) Ab)))
   (Ac (Pa fun hfr=>(Vg (AaA Cm hfr) (Cw (Dj (pv 0) T.Bo.c T.BL.m ((Dc T).mono (by decide)) hr T.BL.b .nil Bp (Aa Ad Ab)))
    (Ac (Cq (Dj (pv 0) T.Bo.c T.An.m ((BR T).mono (by decide)) hr T.An.b .nil Bp (Aa Ad Ab)))
    (Af (Cq (G8 (K:=K) PySem.F.plainAttrs_list PySem.F.slot_list_append PySem.F.type_list_append Lj (pv 1) (Aa (Aj ((Xb T).mono (by decide)) hr rfl T.JW.m T.JW.F.kp T.JW.b .nil BZ (Aa (pv 0) Ab)) Ab)))))))
   (Ac (Bs (Ay J7 (Ar (BW (K:=K)) rfl T.DR Dk (Aa (pv 1) Ab)) (Ci (v:=.int 40) rfl T.AdS.choose_spec ⟨_,rfl⟩) (Al _))
    (Af (Bx Cm rfl (fun _ _ z=>z) PySem.F.excBase_ValueError Ck PySem.F.excBase_ValueError T.Ca.q rfl T.Cv (Aa Ad Ab)))
    Ak)
   (Af (Am (pv 1)))))),?_⟩
  refine⟨_,rfl,r,dx,u,p,rfl,hR,fun z l p1 hz hp1 hl1 hd1=>?_,fun hz H' sb=>k2 (by unfold Pat.runs;rw[hz]) H' sb⟩
  rw[AcT hz] at k1 k2
  refine⟨(by show 1≤sizeLine;decide),fun q hq=>?_⟩
  have nqr:q≠r:=fun z=>by rw[z,show Gu t H r dx u p1 r=some _ from Ae] at hq;cases hq
  rw[show Gu t H r dx u p1 q=H q from Ao nqr] at hq
  have hH:∀ p9 o,(upd (Gu t H r dx u p9) q o) r=some (.ins t.Az dx (rf u p9)):=fun p9 o=>by rw[Ao nqr.symm];exact Ae
  have sbq:∀ p9 o,Cj r H (upd (Gu t H r dx u p9) q o):=fun p9 o b o' hb e=>by rw[Ao (Bf e hq)];show(upd H r _) b=_;rw[Ao hb];exact e
  have AkH:=hR.2.2
  refine⟨fun m σ H2=>∃ done p2,σ=[some (.ref r),some (.ref q)]∧H2=upd (Gu t H r dx u p2) q (.lst (vS done))∧Tj [z] l=Tj done (u.drop p2)∧p≤p2∧p2≤u.length∧done.length≤p2∧m=u.length-p2,
   ⟨_,[z],p1,rfl,rfl,by rw[hd1],by omega,hl1,by simp only [Apz,ApX];omega,rfl⟩,?_⟩
  rintro m σ H2 ⟨done,p2,rfl,rfl,hf,hp2,hl2,hdl,rfl⟩
  refine⟨_,rfl,r,dx,rf u p2,rfl,hH _ _,(Dm u _).2.1,r,dx,u,p2,[44],(by rw[Y9];rfl),⟨hH _ _,hl2,AkH⟩,(by decide),fun YB=>?_,fun hno=>?_⟩
  ·obtain⟨l1,e1⟩:=QL.mp YB
   have d:=WY e1
   rw[swp nqr]
   refine⟨_,rfl,?_⟩
   refine Ed ?_
   refine⟨_,fun σ' H' h=>h,?_⟩
   refine⟨_,rfl,r,dx,rf u _,rfl,hH _ _,(Dm u _).2.2.2,r,dx,u,_,[32],(by rw[QK];rfl),⟨hH _ _,d.2,AkH⟩,(by decide),?_⟩
   rw[Kg Z4,swp nqr]
   have b2:=behind (fun c=>decide (c=32)) d.2
   rw[d.1] at b2
   rw[d.1]
   obtain⟨p3,e3⟩:∃ p3,p3=p2+[44].length+(l1.takeWhile fun c=>decide (c=32)).length:=⟨_,rfl⟩
   rw[← e3] at b2
   have d3:u.drop p3=Pat.sk l1:=b2.1
   have p23:p2<p3:=by rw[e3];simp only [Apz,ApX];omega
   rw[← e3]
   refine⟨_,rfl,.inl ⟨rfl,_,SqL.of Ae⟩,_,rfl,r,dx,u,p3,rfl,⟨hH _ _,b2.2,AkH⟩,fun z2 l2 p4 hz2 hp4 hl4 hd4=>?_,fun hz2 H' sb=>?_⟩
   ·rw[d3] at hz2
    rw[show ∀ p8 p9 o,Gu t (upd (Gu t H r dx u p8) q o) r dx u p9=upd (Gu t H r dx u p9) q o from fun _ _ _=>swp nqr]
    refine⟨_,_,_,rfl,rfl,Ae,(by rw[JC];exact Ap0 (show done.length<1000001 by omega) (by decide)),?_⟩
    rw[Ea,Akn]
    exact⟨u.length-p4,by omega,done++[z2],p4,rfl,rfl,by rw[hf,Ah2 e1 hz2,hd4],by omega,hl4,by rw[Apw,ApF];omega,rfl⟩
   ·rw[d3] at hz2
    refine k2 (by rw[hf];unfold Tj;rw[Ah1 e1 hz2]) H' (fun b o hb e=>sb b o hb (sbq _ _ b o hb e))
  ·have e1:=Xa hno
   refine⟨_,rfl,?_⟩
   refine Ez ?_
   have hf2:Tj done (u.drop p2)=if (done++[]).length>40 then none else some (done++[],u.drop p2):=by unfold Tj;rw[Ah0 e1]
   rw[Aqj] at hf2
   refine⟨_,rfl,_,_,rfl,.inl (SqL.of Ae),_,_,rfl,rfl,_,rfl,?_⟩
   rw[JC]
   refine Fe (fun c1=>?_) (fun c1=>?_)
   ·exact⟨by decide,k2 (by rw[hf,hf2,if_pos (by omega)]) _ (sbq _ _)⟩
   ·refine⟨_,rfl,?_⟩
    exact k1 done _ p2 q (by rw[hf,hf2,if_neg (by omega)]) hp2 hl2 rfl hq nqr
def G5:List (List Nat):=[[114,111,119,115],[116,119,105,108,108],[115,97,116,105,110],[98,101,115,105,100,101],[97,98,111,118,101],[109,105,114,114,111,114],[117,112,101,110,100],[98,97,99,107],[113,117,97,114,116,101,114],[116,105,108,101],[98,108,111,99,107,115],[108,97,121]]
theorem Ah4:(["rows", "twill", "satin", "beside", "above", "mirror", "upend", "back", "quarter", "tile", "blocks", "lay"]:List Str)=G5.map tx:=by decide +kernel
theorem AfR(u:List Nat):Pat.isWord u=decide (u∈G5):=by
 by_cases h:u∈G5
 ·rw[decide_eq_true h]
  simp only [G5,ApJ,ApN,or_false] at h
  rcases h with rfl | rfl | rfl | rfl | rfl | rfl | rfl | rfl | rfl | rfl | rfl | rfl <;> decide
 ·rw[decide_eq_false h]
  simp only [G5,ApJ,ApN,or_false,not_or] at h
  obtain⟨h1,h2,h3,h4,h5,h6,h7,h8,h9,h10,h11,h12⟩:=h
  unfold Pat.isWord Pat.wants Pat.DQ
  rw[decide_eq_false h1,if_neg (fun z=>z.elim h2 h3),if_neg (fun z=>z.elim h4 fun z=>z.elim h5 h12),if_neg (fun z=>z.elim h6 fun z=>z.elim h7 fun z=>z.elim h8 h9),if_neg h10,if_neg h11]
  rfl
def AiP:List Nat:=[97,98,99,100,101,102,103,104,105,106,107,108,109,110,111,112,113,114,115,116,117,118,119,120,121,122]
theorem Ah5:(("abcdefghijklmnopqrstuvwxyz" : Str))=tx AiP:=by decide +kernel
theorem Ah6(c:Nat):decide (c∈AiP)=Pat.letter c:=decide_eq_decide.mpr (by
 rw[show AiP=List.range' 97 26 from rfl,List.mem_range'_1]
 omega)
theorem in_words(u:List Nat):∀ ls:List (List Nat),inV (V.str (tx u)) ((ls.map tx).map V.str)=decide (u∈ls)
 | []=>rfl
 | a::ls=>by
  have ih:=in_words u ls
  unfold inV at ih ⊢
  rw[Ap5,Ap5,List.any_cons,ih]
  by_cases h:u=a
  ·rw[h,decide_eq_true (ApB)]
   have:eqV (V.str (tx a)) (V.str (tx a))=true:=AgB rfl
   rw[this,Bool.true_or]
  ·have e1:(eqV (V.str (tx a)) (V.str (tx u))=false)∧(eqV (V.str (tx u)) (V.str (tx a))=false):=⟨beq_eq_false_iff_ne.mpr fun z=>h (Ld z).symm,beq_eq_false_iff_ne.mpr fun z=>h (Ld z)⟩
   first | rw[e1.1] | rw[e1.2]
   rw[Bool.false_or]
   exact decide_eq_decide.mpr ⟨fun z=>Ap6 _ z,fun z=>(List.mem_cons.mp z).elim (fun z=>absurd z h) id⟩
def AfS:Sp:=fun vs H Q _=>∃ u,vs=[.str (tx u)]∧u.length≤1000000∧∀ H',Ax H H'→Q (.bl (Pat.isName u)) H'
theorem Nk(T:Txt K mg t):Be P w K mg base CX0 1 t.Acp t.Acq ["text"] AfS:=by
 refine T.Gq.F.ok Ae5 (fun vs H Q E h=>?_) (fun cdv A outer s H vs Q E hr h=>?_)
 ·obtain⟨u,rfl,_⟩:=h
  rfl
 ·obtain⟨u,rfl,hu,k⟩:=h
  refine⟨_,(Ac (Bs (PW.pt (pw_or (Ay Nr (Ar De rfl T.DR Dk (Aa (pv 0) Ab)) Ai (Al _)) (pw_or1 (Ay J7 (Ar De rfl T.DR Dk (Aa (pv 0) Ab)) (Ci (v:=.int 20) rfl T.Abf.choose_spec ⟨_,rfl⟩) (Al _)))))
    (Af (Am Ik))
    Ak)
   (Af (Am (GR (BP (Ab6 (K:=K)) (pv 0) (Ci (v:=.ref t.AcV) rfl T.AiH rfl) rfl) (GQ (Ar (Acj (K:=K)) rfl T.Aj3 AgF (Aa (M9 (Dq.mk (Cg:=[]) (Nc:=["sign"]) rfl (by decide +kernel) (by decide +kernel) (Dr (sc0:=Ah X8) rfl (by decide +kernel)) rfl rfl rfl (by decide +kernel) (fun _ _ h=>by simp at h)) rfl (Aev (pv 0)) (fun _ _ _ _ _=>.nil) (fun _ _ _ _ _=>(BP Xu (pv 0) (Ci (v:=.str "abcdefghijklmnopqrstuvwxyz") rfl T.Yb.choose_spec ⟨_,rfl⟩) rfl))) Ab))))))),?_⟩
  have zl:(tx u).length≤sizeLine:=by rw[BK];exact big hu
  refine⟨_,rfl,_,rfl,zl,_,_,rfl,rfl,_,rfl,?_⟩
  rw[BK]
  unfold Pat.isName at k
  refine Fe (fun c1=>?_) (fun c1=>?_)
  ·refine Ed ?_
   rw[decide_eq_false (show ¬(1≤u.length∧u.length≤20) by omega)] at k
   exact k _ (.refl _)
  ·refine⟨_,rfl,_,rfl,zl,_,_,rfl,rfl,_,rfl,?_⟩
   rw[BK]
   refine Fe (fun c2=>?_) (fun c2=>?_)
   ·rw[decide_eq_false (show ¬(1≤u.length∧u.length≤20) by omega)] at k
    exact k _ (.refl _)
   ·rw[decide_eq_true (show 1≤u.length∧u.length≤20 by omega),Aqw,AfR] at k
    refine⟨_,rfl,_,_,rfl,.inr (T.AiI H),rfl,(by decide),_,rfl,?_⟩
    rw[Ah4,in_words]
    show if (!decide (u∈G5))=true then _ else _
    by_cases cw:u∈G5
    ·rw[decide_eq_true cw] at k ⊢
     refine Ez ?_
     rw[Bool.not_true,Aqt] at k
     exact k _ (.refl _)
    ·rw[decide_eq_false cw] at k ⊢
     refine Ed ?_
     rw[Bool.not_false,Bool.and_true] at k
     refine⟨_,rfl,_,rfl,?_⟩
     refine Ag9 (z:=tx u) (fun i ys H2=>H2=H∧ys=vB ((u.take i).map Pat.letter)) ⟨rfl,rfl⟩ ?_ ?_ ?_ ?_
     ·rintro i ys H2 hi ⟨rfl,rfl⟩
      rw[Fv,Apx,ApY]
      exact Nat.min_le_left _ _
     ·exact zl
     ·rintro i c ys H2 hi hc ⟨rfl,rfl⟩
      refine Eo.no ?_
      have hu':u[i]?=some c:=by
       rw[← Eg u,Array.getElem?_toList]
       exact hc
      refine⟨_,rfl,_,_,rfl,rfl,?_⟩
      rw[Ah5,Abn,Ah6]
      exact CN.of hi ⟨rfl,by rw[FP,ApH,hu',Ap2];rfl⟩
     ·rintro ys H2 q ⟨rfl,rfl⟩ hq
      refine⟨_,_,rfl,SqL.of Ae,?_⟩
      have e9:(((u.take (tx u).cps.size).map Pat.letter).all id)=u.all Pat.letter:=by
       rw[show(tx u).cps.size=u.length from BK u,ApO,List.all_map]
       rfl
      rw[e9]
      exact k _ (.upd hq)
inductive AtN (H:Hp):Nd→V→Prop
 | num {n:Nat}:AtN H (.num n) (.int (n:Int))
 | run {r:List Nat}:AtN H (.run r) (.str (tx r))
 | nam {z:List Nat} {a:Addr}:H a=some (.tup [.str (tx z),.non])→AtN H (.nam z) (.ref a)
 | node {z:List Nat} {ts:List Nd} {a q:Addr} {vs:List V}:H a=some (.tup [.str (tx z),.ref q])→H q=some (.lst vs)→vs.length=ts.length→(∀(i:Nat) (x:Nd) (v:V),ts[i]?=some x→vs[i]?=some v→AtN H x v)→AtN H (.node z ts) (.ref a)
theorem AtN.mono{H H':Hp}(s:∀ b o,H b=some o→H' b=some o){x:Nd}{v:V}(h:AtN H x v):AtN H' x v:=by
 induction h with
 | num=>exact .num
 | run=>exact .run
 | nam h=>exact .nam (s _ _ h)
 | node h1 h2 h3 _ ih=>exact .node (s _ _ h1) (s _ _ h2) h3 ih
def nw (H H':Hp):Hp:=fun b=>match H b with
 | none=>H' b
 | some _=>none
theorem Tn{H H':Hp}{b:Addr}(h:H b=none):nw H H' b=H' b:=by unfold nw;rw[h]
theorem Z5{H H':Hp}{b:Addr}{o:HO}(h:nw H H' b=some o):H b=none∧H' b=some o:=by
 unfold nw at h
 cases e:H b with
 | none=>rw[e] at h;exact⟨rfl,h⟩
 | some o'=>rw[e] at h;cases h
theorem Aas{A H2 H3:Hp}{r:Addr}(hr:A r≠none)(s:Cj r H2 H3):∀ b o,nw A H2 b=some o→nw A H3 b=some o:=fun b o h=>by
 have g:=Z5 h
 rw[Tn g.1]
 exact s b o (fun z=>hr (by rw[← z];exact g.1)) g.2
theorem AdX{A B H3:Hp}(h:∀ b,B b=none→A b=none):∀ b o,nw B H3 b=some o→nw A H3 b=some o:=fun b o g=>by
 have g:=Z5 g
 rw[Tn (h b g.1)]
 exact g.2
theorem Ah7{A H:Hp}{q:Addr}{o:HO}(h:A q≠none):nw A (upd H q o)=nw A H:=by
 funext b
 unfold nw
 cases e:A b with
 | none =>
  show upd H q o b=H b
  exact Ao fun z=>h (by rw[← z];exact e)
 | some o'=>rfl
def AbK (H:Hp)(ts:List Nd)(vs:List V):Prop:=vs.length=ts.length∧∀(i:Nat) (x:Nd) (v:V),ts[i]?=some x→vs[i]?=some v→AtN H x v
theorem AbK.snoc{H:Hp}{ts:List Nd}{vs:List V}{x:Nd}{v:V}(h:AbK H ts vs)(hx:AtN H x v):AbK H (ts++[x]) (vs++[v]):=by
 refine⟨by rw[Apw,Apw,h.1];rfl,fun i y w g1 g2=>?_⟩
 by_cases c:i<ts.length
 ·rw[ApZ c] at g1
  rw[ApZ (by rw[h.1];exact c)] at g2
  exact h.2 i y w g1 g2
 ·have e:i=ts.length:=by
   have:=(List.getElem?_eq_some_iff.mp g1).1
   rw[Apw,ApF] at this
   omega
  subst e
  rw[ApV (Apv _),Aqy] at g1
  rw[ApV (by rw[h.1];exact Apv _),h.1,Aqy] at g2
  cases g1
  cases g2
  exact hx
theorem AbK.mono{H H':Hp}(s:∀ b o,H b=some o→H' b=some o){ts:List Nd}{vs:List V}(h:AbK H ts vs):AbK H' ts vs:=⟨h.1,fun i x v g1 g2=>(h.2 i x v g1 g2).mono s⟩
theorem args_nil{sub:List Nat→Option (Nd × List Nat)}{b:Bool}{l:List Nat}:Pat.args sub b [] l=some ([],l):=by unfold Pat.args;rfl
def AeA (sub:List Nat→Option (Nd × List Nat))(done:List Nd)(ks l:List Nat):Option (List Nd × List Nat):=(Pat.args sub done.isEmpty ks l).map fun p=>(done++p.1,p.2)
theorem Ah8{sub:List Nat→Option (Nd × List Nat)}{done:List Nd}{l:List Nat}:AeA sub done [] l=some (done,l):=by unfold AeA;rw[args_nil];simp
def Xc (t:Adr)(d:Nat):Sp:=fun vs H Q E=>∃ r dx u p dep,vs=[.ref r,.int ((dep:Nat):Int)]∧dep+d=13∧Rd t H r dx u p ∧
 (∀ x l p' v H',Pat.node d (u.drop p)=some (x,l)→p≤p'→u.drop p'=l→Cj r H H'→Rd t H' r dx u p'→AtN (nw H H') x v→Q v H')∧(Pat.node d (u.drop p)=none→∀ H',Cj r H H'→E (.ref t.Av) none H')
def Abq (t:Adr)(d:Nat):Sp:=fun vs H Q E=>∃ r dx u p dep z,vs=[.ref r,.str (tx z),.int ((dep:Nat):Int)]∧dep+d=13∧Rd t H r dx u p ∧
 (∀ ts l p' q vs' H',Pat.things (Pat.node d) z (u.drop p)=some (ts,l)→p≤p'→u.drop p'=l→Cj r H H'→Rd t H' r dx u p'→H q=none→H' q=some (.lst vs')→AbK (nw H H') ts vs'→Q (.ref q) H')∧(Pat.things (Pat.node d) z (u.drop p)=none→∀ H',Cj r H H'→E (.ref t.Av) none H')
theorem AdY(z:List Nat):lk [("twill", "nn"),("satin", "nn"),("beside", "pp"),("above", "pp"),("mirror", "p"),("upend", "p"),("back", "p"),("quarter", "p"),("tile", "pnn"),("blocks", "ppp"),("lay", "pp")] (tx z)=(Pat.wants z).map tx:=by
 by_cases h:z∈G5.tail
 ·simp only [G5,List.tail_cons,ApJ,ApN,or_false] at h
  rcases h with rfl | rfl | rfl | rfl | rfl | rfl | rfl | rfl | rfl | rfl | rfl <;> decide +kernel
 ·have hn:lk [("twill", "nn"),("satin", "nn"),("beside", "pp"),("above", "pp"),("mirror", "p"),("upend", "p"),("back", "p"),("quarter", "p"),("tile", "pnn"),("blocks", "ppp"),("lay", "pp")] (tx z)=none:=by
   unfold lk
   rw[Option.map_eq_none_iff,List.find?_eq_none]
   intro q hq
   rw[decide_eq_true_eq]
   intro e
   have hm:tx z∈G5.tail.map tx:=by
    rw[← e]
    have:∀ q∈([("twill", "nn"),("satin", "nn"),("beside", "pp"),("above", "pp"),("mirror", "p"),("upend", "p"),("back", "p"),("quarter", "p"),("tile", "pnn"),("blocks", "ppp"),("lay", "pp")]:List (Str × Str)),q.1∈G5.tail.map tx:=by decide +kernel
    exact this q hq
   obtain⟨y,hy,ey⟩:=List.mem_map.mp hm
   exact h (Ld ey▸hy)
  rw[hn]
  simp only [G5,List.tail_cons,ApJ,ApN,or_false,not_or] at h
  obtain⟨h2,h3,h4,h5,h6,h7,h8,h9,h10,h11,h12⟩:=h
  unfold Pat.wants
  rw[if_neg (fun z=>z.elim h2 h3),if_neg (fun z=>z.elim h4 fun z=>z.elim h5 h12),if_neg (fun z=>z.elim h6 fun z=>z.elim h7 fun z=>z.elim h8 h9),if_neg h10,if_neg h11]
  rfl
theorem Aat:(("rows" : Str))=tx Pat.DQ:=by decide +kernel
theorem AfT{z ks:List Nat}(h:Pat.wants z=some ks):ks.length≤3:=by
 unfold Pat.wants at h
 split at h
 ·cases h;decide
 ·split at h
  ·cases h;decide
  ·split at h
   ·cases h;decide
   ·split at h
    ·cases h;decide
    ·split at h
     ·cases h;decide
     ·cases h
theorem Rm{H:Hp}{r dx:Addr}{u:List Nat}{p:Nat}(_:Rd t H r dx u p)(p4:Nat):Cj r H (Gu t H r dx u p4):=Cj.upd
def thing(sub:List Nat→Option (Nd × List Nat))(c:Nat)(l:List Nat):Option (Nd × List Nat):=if c=112 then sub l else (Pat.num l).map fun p=>(Nd.num p.1,p.2)
theorem AfU{sub:List Nat→Option (Nd × List Nat)}{done:List Nd}{c:Nat}{ks l:List Nat}:AeA sub done (c::ks) l=match (if done.isEmpty=true then some l else Pat.comma l) with
  | none=>none
  | some l1=>match thing sub c l1 with
   | none=>none
   | some (a,l2)=>AeA sub (done++[a]) ks l2:=by
 unfold AeA thing
 conv=>lhs;unfold Pat.args
 cases (if done.isEmpty=true then some l else Pat.comma l) with
 | none=>rfl
 | some l1 =>
  dsimp only
  cases (if c=112 then sub l1 else (Pat.num l1).map fun p=>(Nd.num p.1,p.2)) with
  | none=>rfl
  | some q =>
   obtain⟨a,l2⟩:=q
   dsimp only
   rw[show(done++[a]).isEmpty=false by cases done <;> rfl,Option.map_map]
   congr 1
   funext p
   simp
theorem Aah{d k:Nat}(hk:4≤k)(T:Txt K mg t)(AdZ:Be P w K mg base (CX1 P w) k t.Im t.Io ["reader", "depth"] (Xc t d)):Be P w K mg base (CX1 P w) (k+1) t.Ia t.Ib ["reader", "word", "depth"] (Abq t d):=by
 refine T.FZ.F.okX JG (fun vs H Q E h=>?_) (fun cdv A outer s H vs Q E hr h=>?_)
 ·obtain⟨r,dx,u,p,dep,z,rfl,_⟩:=h
  rfl
 ·obtain⟨r,dx,u,p,dep,z,rfl,AkI,hR,k1,k2⟩:=h
  refine⟨_,(Ac (Bs (Ay Ce (pv 1) Ad (Al _))
    (Af (Am (Aj ((AbJ T).mono (by omega)) hr rfl T.Ri.m T.Ri.F.kp T.Ri.b .nil BZ (Aa (pv 0) Ab))))
    Ak)
   (Ac (Bs (AjJ (AdF T.AdW (pv 1) (Ci (v:=.ref t.V8) rfl T.AdV rfl)))
    (Af (Bx Cm rfl (fun _ _ z=>z) PySem.F.excBase_ValueError Ck PySem.F.excBase_ValueError T.Ca.q rfl T.Cv (Aa Ad Ab)))
    Ak)
   (Ac (Aw (i:=3) JG.nd rfl (Or.inl rfl) (BJ Ab))
   (Ac (Pa fun hfr=>(GZ (AaA Cm hfr) rfl (Aev (AfD T.AdW (Ci (v:=.ref t.V8) rfl T.AdV rfl) (pv 1) (fun _ _=>rfl))) (Eb (i:=4) JG.nd rfl (Or.inl rfl))
    (Ac (Bs (Ace (K:=K) (pv 3) (fun _=>rfl))
     (Af (Cq (Aj ((Abp T).mono (by omega)) hr rfl T.MP.m T.MP.F.kp T.MP.b .nil BZ (Aa (pv 0) Ab))))
     Ak)
    (Af (Cq (G8 (K:=K) PySem.F.plainAttrs_list PySem.F.slot_list_append PySem.F.type_list_append Lj (pv 3) (Aa (Ve (Ay Ce (pv 4) Ad (Al _)) (Aj (AdZ.mono (by omega)) hr rfl T.GJ.m T.GJ.F.kp T.GJ.b .nil BZ (Aa (pv 0) (Aa (pv 2) Ab))) (Aj ((Nj T).mono (by omega)) hr rfl T.Fb.m T.Fb.F.kp T.Fb.b .nil BZ (Aa (pv 0) Ab))) Ab)))))))
   (Af (Am (pv 3))))))),?_⟩
  refine⟨_,rfl,rfl,_,rfl,?_⟩
  unfold Pat.things at k1 k2
  by_cases c:z=Pat.DQ
  ·refine Eh (by rw[c,Aat]) ?_
   rw[if_pos c] at k1 k2
   refine⟨_,rfl,r,dx,u,p,rfl,hR,fun zs l p' q hz hp hp' hd hq nqr=>?_,fun hz H' sb=>k2 (by rw[hz];rfl) H' sb⟩
   have hn:nw H (upd (Gu t H r dx u p') q (.lst (vS zs)))=nw H (upd (Gu t H r dx u p') q (.lst (vS zs))):=rfl
   refine k1 (zs.map Nd.run) l p' q (vS zs) _ (by rw[hz];rfl) hp hd (fun b o hb e=>by rw[Ao (Bf e hq)];show(upd H r _) b=_;rw[Ao hb];exact e) ⟨by rw[Ao nqr.symm];exact Ae,hp',hR.2.2⟩ hq Ae ⟨by rw[JC,Apx],fun i x v g1 g2=>?_⟩
   rw[Ap8] at g1
   unfold vS at g2
   rw[Ap8] at g2
   cases e:zs[i]? with
   | none=>rw[e] at g1;cases g1
   | some y =>
    rw[e] at g1 g2
    cases g1
    cases g2
    exact .run
  ·refine Bq (fun y=>c ?_) ?_
   ·rw[Aat] at y
    injection y with y
    exact Ld y
   rw[if_neg c] at k1 k2
   refine⟨_,rfl,tx z,rfl,rfl,_,rfl,?_⟩
   rw[AdY]
   cases ew:Pat.wants z with
   | none =>
    rw[ew] at k2
    refine Ed ?_
    exact⟨by decide,k2 rfl _ (fun b o _ e=>e)⟩
   | some ks =>
    rw[ew] at k1 k2
    dsimp only at k1 k2
    refine Ez ?_
    refine⟨(by decide),fun q hq=>?_⟩
    have nqr:q≠r:=fun z=>by rw[z,hR.1] at hq;cases hq
    have hlk:lk [("twill", "nn"),("satin", "nn"),("beside", "pp"),("above", "pp"),("mirror", "p"),("upend", "p"),("back", "p"),("quarter", "p"),("tile", "pnn"),("blocks", "ppp"),("lay", "pp")] (tx z)=some (tx ks):=by rw[AdY,ew];rfl
    have hq0:(upd H q (.lst [])) q≠none:=by rw[Ae];exact fun z=>nomatch z
    have hr0:(upd H q (.lst [])) r≠none:=by rw[Ao nqr.symm,hR.1];exact fun z=>nomatch z
    have sk0:∀ b o,H b=some o→(upd H q (.lst [])) b=some o:=fun b o e=>by rw[Ao (Bf e hq)];exact e
    refine⟨_,rfl,tx z,_,rfl,rfl,hlk,_,rfl,?_⟩
    have ksl:=AfT ew
    have AnT:(tx ks).cps.size=ks.length:=BK ks
    refine AeR (z:=tx ks) (fun i σ H2=>∃ v done vs p2,σ=[some (.ref r),some (.str (tx z)),some (.int (dep:Int)),some (.ref q),v]∧Cj r H H2∧(∀ b,H2 b=none→(upd H q (.lst [])) b=none)∧Rd t H2 r dx u p2∧H2 q=some (.lst vs)∧AbK (nw (upd H q (.lst [])) H2) done vs∧done.length=i∧p≤p2∧Pat.args (Pat.node d) true ks (u.drop p)=AeA (Pat.node d) done (ks.drop i) (u.drop p2)) ⟨none,[],[],p,rfl,(fun b o _ e=>sk0 b o e),(fun b e=>e),⟨by rw[Ao nqr.symm];exact hR.1,hR.2⟩,Ae,⟨rfl,fun i x v g=>by simp at g⟩,rfl,Apv _,?_⟩ ?_ ?_
    ·unfold AeA
     simp
    ·rintro i c' σ H2 hc ⟨v,done,vs,p2,rfl,sb2,AkJ,hR2,hq2,hN2,hl2,hp2,hA⟩
     have hci:ks[i]?=some c':=by
      rw[← Eg ks,Array.getElem?_toList]
      exact hc
     have hik:i<ks.length:=(List.getElem?_eq_some_iff.mp hci).1
     have hdk:ks.drop i=c'::ks.drop (i+1):=by
      rw[Aq4 hik,(List.getElem?_eq_some_iff.mp hci).2]
     rw[hdk,AfU] at hA
     have hvl:=hN2.1
     refine⟨_,rfl,!vs.isEmpty,.inl ⟨vs,SqL.of hq2,rfl⟩,?_⟩
     by_cases ce:done=[]
     case' pos =>
      have ve:vs=[]:=List.length_eq_zero_iff.mp (by rw[hvl,ce];rfl)
      rw[if_pos (by rw[ce];rfl)] at hA
      rw[show(!vs.isEmpty)=false by rw[ve];rfl]
      refine Ez ?_
      obtain⟨p3,ep3⟩:∃ p3,p3=p2:=⟨_,rfl⟩
      rw[← ep3] at hR2 hp2 hA
      have hR3:=hR2
      have sb3:=sb2
      have Ah9:=AkJ
      have hq3:=hq2
      have hN3:=hN2
      have hA3:=hA
      have hp3:=hp2
     case' neg =>
      have ve:vs.isEmpty=false:=by
       cases vs with
       | nil=>exact absurd (List.length_eq_zero_iff.mp hvl.symm) ce
       | cons _ _=>rfl
      rw[if_neg (by cases done with | nil=>exact absurd rfl ce | cons _ _=>exact fun z=>nomatch z)] at hA
      rw[ve]
      refine Ed ?_
      refine⟨_,rfl,r,dx,u,p2,rfl,hR2,fun l p3 hz hp hpl hd=>?_,fun hz H' sb=>k2 (by rw[hA,hz]) H' (sb2.trans sb)⟩
      have hR3:=QJ hR2 hpl
      have s23:Cj r H2 (Gu t H2 r dx u p3):=Cj.upd
      have sb3:=sb2.trans s23
      have Ah9:∀ b,Gu t H2 r dx u p3 b=none→(upd H q (.lst [])) b=none:=fun b e=>AkJ b (by
       have nb:b≠r:=fun z=>by rw[z,show Gu t H2 r dx u p3 r=some _ from Ae] at e;cases e
       rw[show Gu t H2 r dx u p3 b=H2 b from Ao nb] at e
       exact e)
      have hq3:=s23 _ _ nqr hq2
      have hN3:=hN2.mono (Aas hr0 s23)
      rw[hz,← hd] at hA
      have hA3:=hA
      have hp3:p≤p3:=ApA hp2 hp
      generalize Gu t H2 r dx u p3=H3 at hR3 sb3 Ah9 hq3 hN3 ⊢
     all_goals
      have small:vs.length<sizeLine:=Ap0 (show vs.length<1000 by omega) (by decide)
      refine⟨_,rfl,.inl ⟨rfl,_,SqL.of hq3⟩,_,rfl,rfl,_,rfl,?_⟩
      unfold thing at hA3
      dsimp only at hA3
      by_cases cp:c'=112
      ·rw[if_pos cp] at hA3
       refine Eh (by rw[cp];decide +kernel) ?_
       refine⟨_,rfl,_,rfl,r,dx,u,p3,dep,rfl,AkI,hR3,fun x l p4 v4 H4 hz4 hp4 hd4 sb4 hR4 hN4=>?_,fun hz4 H' sb=>k2 (by rw[hA3,hz4]) H' (sb3.trans sb)⟩
       have hq4:=sb4 _ _ nqr hq3
       refine⟨_,_,_,rfl,rfl,hq4,small,?_⟩
       refine⟨_,done++[x],vs++[v4],p4,rfl,?_,?_,?_,Ae,?_,by rw[Apw,hl2];rfl,by omega,by rw[hA3,hz4,hd4]⟩
       ·intro b o hb e
        rw[Ao (Bf e hq)]
        exact sb4 b o hb (sb3 b o hb e)
       ·intro b e
        have nb:b≠q:=fun z=>by rw[z,Ae] at e;cases e
        rw[Ao nb] at e
        refine Ah9 b (Option.eq_none_iff_forall_ne_some.mpr fun o e3=>?_)
        by_cases hb:b=r
        ·rw[hb,hR4.1] at e;cases e
        ·rw[sb4 b o hb e3] at e;cases e
       ·exact⟨by rw[Ao nqr.symm];exact hR4.1,hR4.2⟩
       ·rw[Ah7 hq0]
        exact(hN3.mono (Aas hr0 sb4)).snoc (hN4.mono (AdX Ah9))
      ·rw[if_neg cp] at hA3
       refine Bq (fun y=>cp ?_) ?_
       ·have e:(("p" : Str))=tx [112]:=by decide +kernel
        rw[e] at y
        injection y with y
        exact(List.cons.inj (Ld (a:=[c']) (b:=[112]) y)).1
       refine⟨_,rfl,r,dx,u,p3,rfl,hR3,fun n l p4 hz4 hp4 hl4 hd4=>?_,fun hz4 H' sb=>k2 (by rw[hA3,hz4];rfl) H' (sb3.trans sb)⟩
       have hR4:=QJ hR3 hl4
       have sb4:=Rm hR3 p4
       have hq4:=sb4 _ _ nqr hq3
       refine⟨_,_,_,rfl,rfl,hq4,small,?_⟩
       refine⟨_,done++[Nd.num n],vs++[.int (n:Int)],p4,rfl,?_,?_,?_,Ae,?_,by rw[Apw,hl2];rfl,by omega,by rw[hA3,hz4,hd4];rfl⟩
       ·intro b o hb e
        rw[Ao (Bf e hq)]
        exact sb4 b o hb (sb3 b o hb e)
       ·intro b e
        have nb:b≠q:=fun z=>by rw[z,Ae] at e;cases e
        rw[Ao nb] at e
        refine Ah9 b (Option.eq_none_iff_forall_ne_some.mpr fun o e3=>?_)
        by_cases hb:b=r
        ·rw[hb] at e;rw[hR4.1] at e;cases e
        ·rw[sb4 b o hb e3] at e;cases e
       ·exact⟨by rw[Ao nqr.symm];exact hR4.1,hR4.2⟩
       ·rw[Ah7 hq0]
        exact(hN3.mono (Aas hr0 sb4)).snoc .num
    ·rintro σ H2 ⟨v,done,vs,p2,rfl,sb2,AkJ,hR2,hq2,hN2,hl2,hp2,hA⟩
     rw[AnT,Aqz,Ah8] at hA
     refine⟨_,rfl,?_⟩
     exact k1 done _ p2 q vs H2 hA hp2 rfl sb2 hR2 hq hq2 (hN2.mono (AdX (fun b e=>by
      by_cases eb:b=q
      ·rw[eb,Ae] at e;cases e
      ·rw[Ao eb] at e;exact e)))
theorem Abr:(("(" : Str))=tx [40]:=by decide +kernel
theorem Acy:((")" : Str))=tx [41]:=by decide +kernel
theorem AfV(d:Nat)(l:List Nat):Pat.node (d+1) l=match Pat.one 40 (Pat.sk (l.dropWhile Pat.letter)) with
  | none=>if Pat.isName (l.takeWhile Pat.letter)=true then some (.nam (l.takeWhile Pat.letter),Pat.sk (l.dropWhile Pat.letter)) else none
  | some l1=>match Pat.things (Pat.node d) (l.takeWhile Pat.letter) (Pat.sk l1) with
   | none=>none
   | some (ts,l2)=>match Pat.one 41 l2 with
    | none=>none
    | some l3=>some (.node (l.takeWhile Pat.letter) ts,Pat.sk l3):=by
 (conv=>lhs;unfold Pat.node) <;> rfl
theorem AbL{d k:Nat}(hk:2≤k)(T:Txt K mg t)(Lh:Be P w K mg base (CX1 P w) k t.Ia t.Ib ["reader", "word", "depth"] (Abq t d)):Be P w K mg base (CX1 P w) (k+1) t.Im t.Io ["reader", "depth"] (Xc t (d+1)):=by
 refine T.GJ.F.okX Gj (fun vs H Q E h=>?_) (fun cdv A outer s H vs Q E hr h=>?_)
 ·obtain⟨r,dx,u,p,dep,rfl,_⟩:=h
  rfl
 ·obtain⟨r,dx,u,p,dep,rfl,AkI,hR,k1,k2⟩:=h
  refine⟨_,(Ac (Bs (Ay J7 (pv 1) (Ci (v:=.int 12) rfl T.JX.choose_spec ⟨_,rfl⟩) (Al _))
    (Af (Bx Cm rfl (fun _ _ z=>z) PySem.F.excBase_ValueError Ck PySem.F.excBase_ValueError T.Ca.q rfl T.Cv (Aa Ad Ab)))
    Ak)
   (Ac (Aw (i:=2) Gj.nd rfl (Or.inl rfl) (Dj (pv 0) T.Bo.c T.An.m ((BR T).mono (by omega)) hr T.An.b .nil Bp (Aa (Ci (v:=.str "abcdefghijklmnopqrstuvwxyz") rfl T.Yb.choose_spec ⟨_,rfl⟩) Ab)))
   (Ac (Cq (Dj (pv 0) T.Bo.c T.An.m ((BR T).mono (by omega)) hr T.An.b .nil Bp (Aa Ad Ab)))
   (Ac (Bs (Dp (Cw (Dj (pv 0) T.Bo.c T.BL.m ((Dc T).mono (by omega)) hr T.BL.b .nil Bp (Aa Ad Ab))))
    (Ac (Bs (Dp (Cw (Aj ((Nk T).mono (by omega)) hr rfl T.Gq.m T.Gq.F.kp T.Gq.b .nil Bp (Aa (pv 2) Ab))))
     (Af (Bx Cm rfl (fun _ _ z=>z) PySem.F.excBase_ValueError Ck PySem.F.excBase_ValueError T.Ca.q rfl T.Cv (Aa Ad Ab)))
     Ak)
    (Af (Am (Tt (Aa (pv 2) (Aa La Ab))))))
    Ak)
   (Ac (Cq (Dj (pv 0) T.Bo.c T.An.m ((BR T).mono (by omega)) hr T.An.b .nil Bp (Aa Ad Ab)))
   (Ac (Aw (i:=3) Gj.nd rfl (Or.inl rfl) (Aj (Lh.mono (by omega)) hr rfl T.FZ.m T.FZ.F.kp T.FZ.b .nil BZ (Aa (pv 0) (Aa (pv 2) (Aa (Bu Hc (pv 1) Ai) Ab)))))
   (Ac (Bs (Dp (Cw (Dj (pv 0) T.Bo.c T.BL.m ((Dc T).mono (by omega)) hr T.BL.b .nil Bp (Aa Ad Ab))))
    (Af (Bx Cm rfl (fun _ _ z=>z) PySem.F.excBase_ValueError Ck PySem.F.excBase_ValueError T.Ca.q rfl T.Cv (Aa Ad Ab)))
    Ak)
   (Ac (Cq (Dj (pv 0) T.Bo.c T.An.m ((BR T).mono (by omega)) hr T.An.b .nil Bp (Aa Ad Ab)))
   (Af (Am (Tt (Aa (pv 2) (Aa (pv 3) Ab))))))))))))),?_⟩
  rw[AfV] at k1 k2
  refine⟨_,rfl,_,_,rfl,rfl,_,rfl,?_⟩
  refine Bq (by omega) ?_
  have b1:=behind Pat.letter hR.2.1
  obtain⟨p1,e1⟩:∃ p1,p1=p+((u.drop p).takeWhile Pat.letter).length:=⟨_,rfl⟩
  rw[← e1] at b1
  have b2:=behind (fun c=>decide (c=32)) b1.2
  obtain⟨p2,e2⟩:∃ p2,p2=p1+((u.drop p1).takeWhile fun c=>decide (c=32)).length:=⟨_,rfl⟩
  rw[← e2] at b2
  have d2:u.drop p2=Pat.sk ((u.drop p).dropWhile Pat.letter):=by rw[b2.1,b1.1];rfl
  rw[← d2] at k1 k2
  have hR1:=QJ hR b1.2
  have hR2:=QJ hR b2.2
  have hz:((u.drop p).takeWhile Pat.letter).length≤1000000:=by have:=hR.2.2;omega
  refine⟨_,rfl,r,dx,rf u p,rfl,hR.1,(Dm u p).2.2.2,r,dx,u,p,AiP,(by rw[Ah5];rfl),hR,(by decide),?_⟩
  rw[Kg Ah6,← e1]
  refine⟨_,rfl,r,dx,rf u _,rfl,hR1.1,(Dm u _).2.2.2,r,dx,u,_,[32],(by rw[QK];rfl),hR1,(by decide),?_⟩
  rw[Kg Z4,Ea,← e2]
  generalize hzz:(u.drop p).takeWhile Pat.letter=z at k1 k2 hz ⊢
  refine⟨_,rfl,r,dx,rf u _,rfl,hR2.1,(Dm u _).2.1,r,dx,u,_,[40],(by rw[Abr];rfl),hR2,(by decide),fun YB=>?_,fun hno=>?_⟩
  ·obtain⟨l1,el⟩:=QL.mp YB
   have d:=WY el
   rw[el] at k1 k2
   dsimp only at k1 k2
   have b3:=behind (fun c=>decide (c=32)) d.2
   obtain⟨p3,e3⟩:∃ p3,p3=p2+[40].length+((u.drop (p2+[40].length)).takeWhile fun c=>decide (c=32)).length:=⟨_,rfl⟩
   rw[← e3] at b3
   have d3:u.drop p3=Pat.sk l1:=by rw[b3.1,d.1];rfl
   rw[← d3] at k1 k2
   have hRa:=QJ hR d.2
   have hR3:=QJ hR b3.2
   rw[Ea]
   refine⟨_,rfl,?_⟩
   refine Ez ?_
   refine⟨_,rfl,r,dx,rf u _,rfl,hRa.1,(Dm u _).2.2.2,r,dx,u,_,[32],(by rw[QK];rfl),hRa,(by decide),?_⟩
   rw[Kg Z4,Ea,← e3]
   refine⟨_,rfl,_,rfl,_,rfl,_,_,rfl,rfl,r,dx,u,p3,dep+1,z,rfl,by omega,hR3,fun ts l p4 q vs' H4 hz4 hp4 hd4 sb4 hR4 hqn hq4 hN4=>?_,fun hz4 H' sb=>k2 (by rw[hz4]) H' ((Rm hR p3).trans sb)⟩
   rw[hz4] at k1 k2
   dsimp only at k1 k2
   have sH4:Cj r H H4:=(Rm hR p3).trans sb4
   refine⟨_,rfl,r,dx,rf u p4,rfl,hR4.1,(Dm u _).2.1,r,dx,u,p4,[41],(by rw[Acy];rfl),hR4,(by decide),fun Am0=>?_,fun Am1=>?_⟩
   ·obtain⟨l5,el5⟩:=QL.mp Am0
    have d5:=WY el5
    rw[hd4] at el5
    rw[el5] at k1
    dsimp only at k1
    have b6:=behind (fun c=>decide (c=32)) d5.2
    obtain⟨p6,e6⟩:∃ p6,p6=p4+[41].length+((u.drop (p4+[41].length)).takeWhile fun c=>decide (c=32)).length:=⟨_,rfl⟩
    rw[← e6] at b6
    have hR5:=QJ hR4 d5.2
    refine⟨_,rfl,?_⟩
    refine Ez ?_
    refine⟨_,rfl,r,dx,rf u _,rfl,hR5.1,(Dm u _).2.2.2,r,dx,u,_,[32],(by rw[QK];rfl),hR5,(by decide),?_⟩
    rw[Kg Z4,Ea,← e6]
    have s6:=Rm hR4 p6
    have hR6:=QJ hR4 b6.2
    have hqn:Gu t H r dx u p3 q=none:=hqn
    have hN4:AbK (nw (Gu t H r dx u p3) H4) ts vs':=hN4
    have nqr:q≠r:=fun y=>by rw[y,hR3.1] at hqn;cases hqn
    have hqH:H q=none:=by rw[show Gu t H r dx u p3 q=H q from Ao nqr] at hqn;exact hqn
    have hN6:AbK (nw H (Gu t H4 r dx u p6)) ts vs':=(hN4.mono (Aas (by rw[hR3.1];exact fun y=>nomatch y) s6)).mono (AdX fun b e=>by
     by_cases eb:b=r
     ·rw[eb,hR3.1] at e;cases e
     ·rw[show Gu t H r dx u p3 b=H b from Ao eb] at e;exact e)
    have sH6:=sH4.trans s6
    have hq6:=s6 _ _ nqr hq4
    have heq:upd H4 r (.ins t.Az dx (rf u p6))=Gu t H4 r dx u p6:=rfl
    rw[heq]
    generalize Gu t H4 r dx u p6=H6 at hR6 hN6 sH6 hq6 ⊢
    refine⟨_,rfl,_,rfl,(by show 2≤sizeLine;decide),fun a ha=>?_⟩
    have nar:a≠r:=fun y=>by rw[y,hR6.1] at ha;cases ha
    have naq:a≠q:=fun y=>by rw[y,hq6] at ha;cases ha
    have haH:H a=none:=by
     cases e:H a with
     | none=>rfl
     | some o=>rw[sH6 a o nar e] at ha;cases ha
    refine k1 (.node z ts) _ p6 (.ref a) _ rfl (by omega) (by rw[b6.1,d5.1];rfl) (fun b o hb e=>by rw[Ao (Bf (sH6 b o hb e) ha)];exact sH6 b o hb e) ⟨by rw[Ao nar.symm];exact hR6.1,hR6.2⟩ (.node (q:=q) (vs:=vs') ?_ ?_ hN6.1 (fun i x v g1 g2=>(hN6.2 i x v g1 g2).mono fun b o e=>?_))
    ·rw[Tn haH];exact Ae
    ·rw[Tn hqH,Ao naq.symm];exact hq6
    ·have g:=Z5 e
     rw[Tn g.1,Ao (Bf g.2 ha)]
     exact g.2
   ·rw[hd4] at Am1
    have e9:=Xa (u:=u) (p:=p4) (c:=41) (by rw[hd4];exact Am1)
    rw[hd4] at e9
    rw[e9] at k2
    refine⟨_,rfl,?_⟩
    refine Ed ?_
    exact⟨by decide,k2 rfl _ sH4⟩
  ·rw[Xa hno] at k1 k2
   dsimp only at k1 k2
   refine⟨_,rfl,?_⟩
   refine Ed ?_
   refine⟨_,rfl,z,rfl,hz,fun H1 s1=>?_⟩
   refine⟨_,rfl,?_⟩
   cases cn:Pat.isName z with
   | true =>
    rw[cn,if_pos rfl] at k1
    refine Ez ?_
    refine⟨_,rfl,(by show 2≤sizeLine;decide),fun a ha=>?_⟩
    have sH:Cj r H H1:=(Rm hR p2).trans fun b o _ e=>s1 b o e
    have hr1:H1 r=some (.ins t.Az dx (rf u p2)):=s1 _ _ hR2.1
    have nar:a≠r:=fun y=>by rw[y,hr1] at ha;cases ha
    have haH:H a=none:=by
     cases e:H a with
     | none=>rfl
     | some o=>rw[sH a o nar e] at ha;cases ha
    refine k1 (.nam z) _ p2 (.ref a) _ rfl (by omega) rfl (fun b o hb e=>by rw[Ao (Bf (sH b o hb e) ha)];exact sH b o hb e) ⟨by rw[Ao nar.symm];exact hr1,b2.2,hR.2.2⟩ (.nam ?_)
    rw[Tn haH]
    exact Ae
   | false =>
    rw[cn] at k2
    refine Ed ?_
    exact⟨by decide,k2 (if_neg (fun y=>nomatch y)) _ ((Rm hR p2).trans fun b o _ e=>s1 b o e)⟩
theorem Am2{k:Nat}{CX:CXT}{f:Addr}{fd:FuncData}{ps:List Str}:Be P w K mg base CX k f fd ps (fun _ _ _ _=>False):=⟨fun _ _ _ _ h=>h.elim,fun _ _ _ _ _ _ _ _ _ _ _ _ _ h=>h.elim⟩
theorem Abs{k:Nat}(hk:2≤k)(T:Txt K mg t):Be P w K mg base (CX1 P w) (k+1) t.Im t.Io ["reader", "depth"] (Xc t 0):=by
 have Lh:Be P w K mg base (CX1 P w) 1 t.Ia t.Ib ["reader", "word", "depth"] _:=Am2
 refine T.GJ.F.okX Gj (fun vs H Q E h=>?_) (fun cdv A outer s H vs Q E hr h=>?_)
 ·obtain⟨r,dx,u,p,dep,rfl,_⟩:=h
  rfl
 ·obtain⟨r,dx,u,p,dep,rfl,AkI,hR,k1,k2⟩:=h
  refine⟨_,(Ac (Bs (Ay J7 (pv 1) (Ci (v:=.int 12) rfl T.JX.choose_spec ⟨_,rfl⟩) (Al _))
    (Af (Bx Cm rfl (fun _ _ z=>z) PySem.F.excBase_ValueError Ck PySem.F.excBase_ValueError T.Ca.q rfl T.Cv (Aa Ad Ab)))
    Ak)
   (Ac (Aw (i:=2) Gj.nd rfl (Or.inl rfl) (Dj (pv 0) T.Bo.c T.An.m ((BR T).mono (by omega)) hr T.An.b .nil Bp (Aa (Ci (v:=.str "abcdefghijklmnopqrstuvwxyz") rfl T.Yb.choose_spec ⟨_,rfl⟩) Ab)))
   (Ac (Cq (Dj (pv 0) T.Bo.c T.An.m ((BR T).mono (by omega)) hr T.An.b .nil Bp (Aa Ad Ab)))
   (Ac (Bs (Dp (Cw (Dj (pv 0) T.Bo.c T.BL.m ((Dc T).mono (by omega)) hr T.BL.b .nil Bp (Aa Ad Ab))))
    (Ac (Bs (Dp (Cw (Aj ((Nk T).mono (by omega)) hr rfl T.Gq.m T.Gq.F.kp T.Gq.b .nil Bp (Aa (pv 2) Ab))))
     (Af (Bx Cm rfl (fun _ _ z=>z) PySem.F.excBase_ValueError Ck PySem.F.excBase_ValueError T.Ca.q rfl T.Cv (Aa Ad Ab)))
     Ak)
    (Af (Am (Tt (Aa (pv 2) (Aa La Ab))))))
    Ak)
   (Ac (Cq (Dj (pv 0) T.Bo.c T.An.m ((BR T).mono (by omega)) hr T.An.b .nil Bp (Aa Ad Ab)))
   (Ac (Aw (i:=3) Gj.nd rfl (Or.inl rfl) (Aj (Lh.mono (by omega)) hr rfl T.FZ.m T.FZ.F.kp T.FZ.b .nil BZ (Aa (pv 0) (Aa (pv 2) (Aa (Bu Hc (pv 1) Ai) Ab)))))
   (Ac (Bs (Dp (Cw (Dj (pv 0) T.Bo.c T.BL.m ((Dc T).mono (by omega)) hr T.BL.b .nil Bp (Aa Ad Ab))))
    (Af (Bx Cm rfl (fun _ _ z=>z) PySem.F.excBase_ValueError Ck PySem.F.excBase_ValueError T.Ca.q rfl T.Cv (Aa Ad Ab)))
    Ak)
   (Ac (Cq (Dj (pv 0) T.Bo.c T.An.m ((BR T).mono (by omega)) hr T.An.b .nil Bp (Aa Ad Ab)))
   (Af (Am (Tt (Aa (pv 2) (Aa (pv 3) Ab))))))))))))),?_⟩
  refine⟨_,rfl,_,_,rfl,rfl,_,rfl,?_⟩
  refine Eh (by omega) ?_
  exact⟨by decide,k2 rfl _ (fun b o _ e=>e)⟩
theorem Acz(T:Txt K mg t):∀ d,Be P w K mg base (CX1 P w) (2*d+5) t.Im t.Io ["reader", "depth"] (Xc t d)
 | 0=>Abs (k:=4) (by decide) T
 | d+1=>AbL (k:=2*d+6) (by omega) T (Aah (k:=2*d+5) (by omega) T (Acz T d))
def AfW (t:Adr):Sp:=fun vs H Q E=>∃ u,vs=[.str (tx u)]∧u.length≤1000000 ∧
 (∀ x v H',Pat.whole u=some x→Ax H H'→AtN (nw H H') x v→Q v H')∧(Pat.whole u=none→∀ H',Ax H H'→E (.ref t.Av) none H')
theorem Kh(T:Txt K mg t):Be P w K mg base (CX1 P w) 30 t.VG t.VH ["text"] (AfW t):=by
 refine T.Em.F.okX Le (fun vs H Q E h=>?_) (fun cdv A outer s H vs Q E hr h=>?_)
 ·obtain⟨u,rfl,_⟩:=h
  rfl
 ·obtain⟨u,rfl,hu,k1,k2⟩:=h
  refine⟨_,(Ac (Aw (i:=1) Le.nd rfl (Or.inl rfl) (Gw T.Bo.m ((Kf T).mono (by decide)) hr rfl T.AdU T.Dv.b .nil Bp (Aa (pv 0) Ab)))
   (Ac (Cq (Dj (pv 1) T.Bo.c T.An.m ((BR T).mono (by decide)) hr T.An.b .nil Bp (Aa Ad Ab)))
   (Ac (Aw (i:=2) Le.nd rfl (Or.inl rfl) (Aj ((Acz T 12).mono (by decide)) hr rfl T.GJ.m T.GJ.F.kp T.GJ.b .nil BZ (Aa (pv 1) (Aa Ai Ab))))
   (Ac (Bs (Dp (Cw (Li (pv 1) T.Bo.c T.DY.m ((Jh T).mono (by decide)) hr T.DY.b .nil Bp)))
    (Af (Bx Cm rfl (fun _ _ z=>z) PySem.F.excBase_ValueError Ck PySem.F.excBase_ValueError T.Ca.q rfl T.Cv (Aa Ad Ab)))
    Ak)
   (Af (Am (pv 2))))))),?_⟩
  refine⟨_,rfl,fun r dx hr1 hdx hne=>⟨r,dx,u,rfl,Ae,?_⟩⟩
  rw[Ea]
  refine⟨rfl,?_⟩
  have hR0:Rd t (Gu t (upd H dx (.own r)) r dx u 0) r dx u 0:=⟨Ae,Ap7 _,hu⟩
  have b1:=behind (u:=u) (p:=0) (fun c=>decide (c=32)) (Ap7 _)
  refine⟨_,rfl,r,dx,rf u 0,rfl,hR0.1,(Dm u _).2.2.2,r,dx,u,0,[32],(by rw[QK];rfl),hR0,(by decide),?_⟩
  rw[Kg Z4,Ea]
  obtain⟨p1,e1⟩:∃ p1,p1=0+((u.drop 0).takeWhile fun c=>decide (c=32)).length:=⟨_,rfl⟩
  rw[← e1] at b1 ⊢
  have hR1:Rd t (Gu t (upd H dx (.own r)) r dx u p1) r dx u p1:=⟨Ae,b1.2,hu⟩
  have d1:u.drop p1=Pat.sk u:=b1.1
  unfold Pat.whole at k1 k2
  rw[← d1] at k1 k2
  have sH:∀ H',Cj r (Gu t (upd H dx (.own r)) r dx u p1) H'→Ax H H':=fun H' sb b o e=>by
   have n1:=Bf e hr1
   refine sb b o n1 ?_
   show(upd (upd H dx _) r _) b=_
   rw[Ao n1,Ao (Bf e hdx)]
   exact e
  refine⟨_,rfl,r,dx,u,p1,1,rfl,rfl,hR1,fun x l p4 v H4 hz4 hp4 hd4 sb4 hR4 hN4=>?_,fun hz4 H' sb=>k2 (by rw[hz4]) H' (sH H' sb)⟩
  have hN4:AtN (nw (Gu t (upd H dx (.own r)) r dx u p1) H4) x v:=hN4
  rw[hz4] at k1 k2
  refine⟨_,rfl,r,dx,rf u p4,rfl,hR4.1,(Dm u _).1,r,dx,u,p4,rfl,hR4,?_⟩
  refine⟨_,rfl,?_⟩
  by_cases c:p4=u.length
  ·rw[decide_eq_true c]
   refine Ez ?_
   have el:l=[]:=by rw[← hd4,c,Aqz]
   refine⟨_,rfl,k1 x v H4 (by rw[el]) (sH H4 sb4) (hN4.mono (AdX fun b e=>?_))⟩
   by_cases e1:b=r
   ·rw[e1];exact hr1
   ·by_cases e2:b=dx
    ·rw[e2];exact hdx
    ·have e:(upd (upd H dx (.own r)) r (.ins t.Az dx (rf u p1))) b=none:=e
     rw[Ao e1,Ao e2] at e
     exact e
  ·rw[decide_eq_false c]
   refine Ed ?_
   have el:l≠[]:=fun y=>by
    rw[y] at hd4
    have:=congrArg List.length hd4
    rw[ApD] at this
    have:=hR4.2.1
    simp only [ApX] at *
    omega
   refine⟨by decide,k2 ?_ _ (sH H4 sb4)⟩
   cases l with
   | nil=>exact absurd rfl el
   | cons _ _=>rfl
end
theorem Aea(z:List Nat):∀(ys:List (List Nat)) (acc:Array Nat),(ys.map tx).foldl (fun acc p=>acc++(tx z).cps++p.cps) acc=acc++((ys.map fun y=>z++y).flatten).toArray
 | [],acc=>by simp
 | y::ys,acc=>by
  rw[Ap5,List.foldl_cons,Aea z ys]
  simp[tx]
theorem AhA(z y:List Nat)(ys:List (List Nat)):Txt.join (tx z) ((y::ys).map tx)=tx (y++(ys.map fun y=>z++y).flatten):=by
 show Str.mk _=_
 simp only [Ap5,List.drop_one,List.tail_cons,List.headD_cons]
 rw[Aea]
 simp[tx]
section
variable {P:Program}{w:World}{K:PySem.W.Frag}{mg:Str→Option Value}{base:Heap}{t:Adr}
def pf (l:Addr)(z:Str):List (Str × V):=[("texts", .ref l),("writing", .str z)]
def AhB (K:PySem.W.Frag):Sp:=fun vs H Q _=>∃(C r dx a:Addr) (ts:List (List Nat)) (z:Str),vs=[.ref r,.ref a,.str z]∧H r=some (.ins C dx [])∧Cls K C∧Dl K C "texts" ∧ Dl K C "writing" ∧ SqL K H a (vS ts) ∧
 ∀ l,H l=none→Q .non (upd (upd H l (.lst (vS ts))) r (.ins C dx (pf l z)))
theorem Xd(T:Txt K mg t):Be P w K mg base CX0 1 t.Gk t.Mg ["self", "texts", "writing"] (AhB K):=by
 refine T.M4.F.ok V7 (fun vs H Q E h=>?_) (fun cdv A outer s H vs Q E hr h=>?_)
 ·obtain⟨C,r,dx,a,ts,z,rfl,_⟩:=h
  rfl
 ·obtain⟨C,r,dx,a,ts,z,rfl,h1,hc,hn1,hn2,hS,k⟩:=h
  refine⟨_,(Ac (Gh (K:=K) (pv 0) (Fi (HR (K:=K)) rfl T.XX QW (Aa (pv 1) Ab)))
   (Af (Gh (K:=K) (pv 0) (pv 2)))),?_⟩
  refine⟨_,rfl,_,_,rfl,.inl hS,fun l hl=>?_⟩
  have nlr:r≠l:=Bf h1 hl
  have h1':(upd H l (.lst (vS ts))) r=some (.ins C dx []):=by rw[Ao nlr];exact h1
  refine⟨_,rfl,_,_,_,_,rfl,h1',hc,hn1,(by decide),?_⟩
  refine⟨_,rfl,_,rfl,_,_,_,_,rfl,Ae,hc,hn2,(by show 1<1000;decide),?_⟩
  rw[Ea]
  exact k l hl
def pcs (t:Adr):List Addr:=[t.Lf]
structure PcC (K:PySem.W.Frag) (t:Adr) (C:Addr):Prop where
 c:Cls K C
 n1:Dl K C "texts"
 n2:Dl K C "writing"
 Am3:Meth K C "cloth" t.Fo
theorem pcC(T:Txt K mg t){C:Addr}(h:C∈pcs t):PcC K t C:=by
 simp only [pcs,ApJ,ApN,or_false] at h
 subst h
 exact⟨T.Abm.c,T.Ti,T.Ov,T.AbG⟩
def Pc (t:Adr)(H:Hp)(p:Addr)(x:List (List Nat))(z:List Nat):Prop:=∃ C dx l,C∈pcs t∧H p=some (.ins C dx (pf l (tx z)))∧H l=some (.lst (vS x))
theorem Pc.mono{H H':Hp}{p:Addr}{x:List (List Nat)}{z:List Nat}(h:Pc t H p x z)(s:∀ b o,H b=some o→H' b=some o):Pc t H' p x z:=by
 obtain⟨C,dx,l,hC,h1,h2⟩:=h
 exact⟨C,dx,l,hC,s _ _ h1,s _ _ h2⟩
theorem AhC(l:Addr)(z:Str):(pf l z).lookup ("texts" : Str)=some (V.ref l):=rfl
theorem AiQ(l:Addr)(z:Str):(pf l z).lookup ("wide" : Str)=none∧(pf l z).lookup ("high" : Str)=none∧(pf l z).lookup ("sign" : Str)=none∧(pf l z).lookup ("cloth" : Str)=none∧(pf l z).lookup ("told" : Str)=none:=⟨rfl,rfl,rfl,rfl,rfl⟩
theorem Aj4{cl:List (List Nat)}{i:Nat}{x:List Nat}(h:cl[i]?=some x):atI (vS cl) (i:Int)=some (.str (tx x)):=CJ (by omega) (by rw[ApK];unfold vS;rw[Ap8,h];rfl)
def Aeb (t:Adr):Sp:=fun vs H Q _=>∃ p x z,vs=[.ref p]∧Pc t H p x z∧∀ l,H l=none→Q (.ref l) (upd H l (.lst (vS x)))
theorem QM(T:Txt K mg t):Be P w K mg base CX0 1 t.Fo t.SJ ["self"] (Aeb t):=by
 refine T.Lg.F.ok AaQ (fun vs H Q E h=>?_) (fun cdv A outer s H vs Q E hr h=>?_)
 ·obtain⟨p,x,z,rfl,_⟩:=h
  rfl
 ·obtain⟨p,x,z,rfl,⟨C,dx,l,hC,hp,hl⟩,k⟩:=h
  have C:=pcC T hC
  refine⟨_,(Af (Am (Fi (HR (K:=K)) rfl T.XX QW (Aa (DG (K:=K) (pv 0) rfl) Ab)))),?_⟩
  exact⟨_,rfl,_,_,_,_,_,rfl,hp,C.c,C.n1,AhC _ _,_,_,rfl,.inl (SqL.of hl),fun q hq=>k q hq⟩
def AhD (t:Adr):Sp:=fun vs H Q E=>∃ m n:Nat,vs=[.int (m:Int),.int (n:Int)]∧(m≤40∧n≤40→Q .non H)∧(40<m∨40<n→∀ H',Ax H H'→E (.ref t.Bg) none H')
theorem Abt(T:Txt K mg t):Be P w K mg base (CX1 P w) 2 t.VD t.VF ["ends", "picks"] (AhD t):=by
 refine T.MN.F.okX Ab8 (fun vs H Q E h=>?_) (fun cdv A outer s H vs Q E hr h=>?_)
 ·obtain⟨m,n,rfl,_⟩:=h
  rfl
 ·obtain⟨m,n,rfl,k1,k2⟩:=h
  refine⟨_,(Af (Bs (PW.pt (pw_or (Ay J7 (pv 0) (Ci (v:=.int 40) rfl T.Ew.choose_spec ⟨_,rfl⟩) (Al _)) (pw_or1 (Ay J7 (pv 1) (Ci (v:=.int 40) rfl T.Ew.choose_spec ⟨_,rfl⟩) (Al _)))))
    (Af (Bx Cm rfl (fun _ _ z=>z) PySem.F.excBase_ValueError Ck PySem.F.excBase_ValueError T.GC.q rfl T.T6 (Aa Ad Ab)))
    Ak)),?_⟩
  refine⟨_,rfl,_,_,rfl,rfl,_,rfl,?_⟩
  refine Fe (fun c1=>?_) (fun c1=>?_)
  ·refine Ed ?_
   exact⟨by decide,k2 (.inl (by omega)) _ (.refl _)⟩
  ·refine⟨_,rfl,_,_,rfl,rfl,_,rfl,?_⟩
   refine Fe (fun c2=>?_) (fun c2=>?_)
   ·exact⟨by decide,k2 (.inr (by omega)) _ (.refl _)⟩
   ·exact k1 (by omega)
theorem AkK:∀(ys:List (List Nat)),((ys.map tx).map (·.length)).sum+ys.length≤(cj ys).length+1
 | []=>by simp[cj]
 | y::ys=>by
  have h:∀ ys:List (List Nat),((ys.map tx).map (·.length)).sum+ys.length=((ys.map fun y=>[44]++y).flatten).length:=fun ys=>by
   induction ys with
   | nil=>rfl
   | cons x ys ih =>
    rw[Ap5,Ap5,Aqm,Ap5,ApM,Apw,Apw,← ih,BK,Apz,ApF]
    omega
  have:=h ys
  unfold cj
  rw[Ap5,Ap5,Aqm,Apw,BK,Apz,← this]
  omega
theorem AhE(z:List Nat)(ys:List (List Nat)):(wz z ys).length=z.length+(cj ys).length+2:=by
 unfold wz
 rw[Apw,Apz,Apw,ApF]
 omega
def AeB (K:PySem.W.Frag):Sp:=fun vs H Q _=>∃(a:Addr) (ws:List Nat) (ys:List (List Nat)),vs=[.str (tx ws),.ref a]∧SqL K H a (vS ys)∧ys≠[]∧(wz ws ys).length≤1000000∧Q (.str (tx (wz ws ys))) H
theorem AeC(T:Txt K mg t):Be P w K mg base CX0 1 t.Acr t.Acs ["word", "things"] (AeB K):=by
 refine T.written.F.ok Ae6 (fun vs H Q E h=>?_) (fun cdv A outer s H vs Q E hr h=>?_)
 ·obtain⟨a,ws,ys,rfl,_⟩:=h
  rfl
 ·obtain⟨a,ws,ys,rfl,hS,hne,hw,k⟩:=h
  refine⟨_,(Af (Am (Bu DX (Bu DX (Bu DX (pv 0) Ad) (G8 (K:=K) PySem.F.plainAttrs_str PySem.F.slot_str_join PySem.F.type_str_join (AgH (K:=K)) Ad (Aa (pv 1) Ab))) Ad))),?_⟩
  have e1:(("," : Str)).length=1:=by decide +kernel
  have cl:=AkK ys
  rw[AhE] at hw
  refine⟨_,rfl,_,_,rfl,rfl,(by rw[Abr,BK,BK];exact big (by simp only [Apz,ApX];omega)),rfl,_,rfl,_,_,ys.map tx,rfl,rfl,(by rw[← Akm];exact hS),?_,?_⟩
  ·rw[e1,Apx,Nat.mul_one]
   have:sizeLine=16777216:=sizeLine_eq
   omega
  ·have ej:Txt.join (tx [44]) (ys.map tx)=tx (cj ys):=by
    cases ys with
    | nil=>exact absurd rfl hne
    | cons y ys=>exact AhA [44] y ys
   rw[Abr,Y9,Acy,ej,Hx]
   refine⟨_,_,rfl,rfl,(by rw[BK,BK];exact big (by simp only [Apw,Apz,ApX];omega)),?_⟩
   rw[Hx]
   refine⟨_,_,rfl,rfl,(by rw[BK,BK];exact big (by simp only [Apw,Apz,ApX];omega)),?_⟩
   rw[Hx,show(ws++[40]++cj ys)++[41]=wz ws ys by unfold wz;simp]
   exact k
theorem z0(i:Nat):(0+(i:Int)).toNat=i:=by omega
theorem AhF(K:PySem.W.Frag)(n:String):PySem.W.kitOne K (.type n) (.type n)=some true:=if_pos (beq_self_eq_true _)
theorem Ho{n:Nat}(h:n≤40):n≤sizeLine:=ApA h (by decide)
instance (c:Nat):Decidable (Sg c):=inferInstanceAs (Decidable (_∨_))
theorem AnU(c:Nat):(!(!(Builtin.Str.occurrences "#." ⟨#[c]⟩ 0 (Str.length "#.") 1).isEmpty))=!decide (Sg c):=by
 rw[StrLaws.found_one]
 have e:(("#." : Str)).cps.toList=[35,46]:=by decide +kernel
 rw[e]
 congr 1
 apply decide_eq_decide.mpr
 unfold Sg
 simp only [ApJ,ApN,or_false]
def Am4 (cl:List (List Nat)):Prop:=¬∃ m n,Cl cl m n
def AhG (t:Adr):Sp:=fun vs H Q E=>∃(u:List Nat) (m:Nat),vs=[.str (tx u),.int (m:Int),.str "#."]∧u.length≤1000∧((u.length=m∧∀ c∈u,Sg c)→Q .non H)∧(¬(u.length=m∧∀ c∈u,Sg c)→E (.ref t.Bw) none H)
theorem AbM(T:Txt K mg t):Be P w K mg base (CX1 P w) 1 t.V9 t.VB ["text", "ends", "signs"] (AhG t):=by
 refine T.MK.F.okX Sq (fun vs H Q E h=>?_) (fun cdv A outer s H vs Q E hr h=>?_)
 ·obtain⟨u,m,rfl,_⟩:=h
  rfl
 ·obtain⟨u,m,rfl,hl,k1,k2⟩:=h
  have hsz:sizeLine=16777216:=sizeLine_eq
  refine⟨_,(Ac (Bs (Ay AbU (Ar De rfl T.DR Dk (Aa (pv 0) Ab)) (pv 1) (Al _))
    (Af (Bx Cm rfl (fun _ _ z=>z) PySem.F.excBase_ValueError Ck PySem.F.excBase_ValueError T.Gs.q rfl T.My (Aa Ad Ab)))
    Ak)
   (Af (Pa fun hfr=>(GZ (AaA Cm hfr) rfl (Aev (pv 0)) (Eb (i:=3) Sq.nd rfl (Or.inl rfl))
    (Af (Bs (Ay AcA (pv 3) (pv 2) rfl)
     (Af (Bx Cm rfl (fun _ _ z=>z) PySem.F.excBase_ValueError Ck PySem.F.excBase_ValueError T.Gs.q rfl T.My (Aa Ad Ab)))
     Ak)))))),?_⟩
  refine⟨_,rfl,_,rfl,(by rw[BK];omega),_,rfl,rfl,_,rfl,?_⟩
  rw[BK]
  by_cases hm:u.length=m
  ·refine Ag3 (by rw[hm]) ?_
   refine⟨_,rfl,_,rfl,AeR (z:=tx u) (fun i σ H2=>∃ v,σ=[some (.str (tx u)),some (.int (m:Int)),some (.str "#."),v]∧H2=H∧∀ c∈u.take i,Sg c) ⟨none,rfl,rfl,fun c h=>(by simp at h)⟩ ?_ ?_⟩
   ·rintro i c σ H2 hc ⟨v,rfl,rfl,hall⟩
    rw[AgC] at hc
    refine⟨_,rfl,_,rfl,_,_,rfl,rfl,_,rfl,?_⟩
    rw[AnU]
    by_cases hg:Sg c
    ·refine Ag3 hg ?_
     refine⟨_,rfl,rfl,fun d hd=>?_⟩
     rw[ApH,hc] at hd
     rcases List.mem_append.mp hd with h | h
     ·exact hall d h
     ·have:d=c:=by simpa using h
      rw[this];exact hg
    ·refine AgE hg ?_
     exact⟨by decide,k2 fun z=>hg (z.2 c (ApP hc))⟩
   ·rintro σ H2 ⟨v,rfl,rfl,hall⟩
    refine k1 ⟨hm,fun c hc=>hall c ?_⟩
    have e:u.take (tx u).cps.size=u:=by
     rw[ApS]
     have:=BK u
     unfold Str.length at this
     omega
    rw[e]
    exact hc
  ·refine AgE (fun z=>hm (by injection z with z;omega)) ?_
   exact⟨by decide,k2 fun z=>hm z.1⟩
def AkL (K:PySem.W.Frag)(t:Adr):Sp:=fun vs H Q E=>∃(a:Addr) (cl:List (List Nat)),vs=[.ref a,.int 1,.str "#."]∧SqL K H a (vS cl)∧cl.length≤1000∧(∀ u∈cl,u.length≤1000)∧(∀ m n,Cl cl m n→∀ p,H p=none→Q (.ref p) (upd H p (.tup [.int (m:Int),.int (n:Int)])))∧(Am4 cl→E (.ref t.Bw) none H)
theorem Xe(T:Txt K mg t):Be P w K mg base (CX1 P w) 2 t.Mh t.Mi ["texts", "least", "signs"] (AkL K t):=by
 refine T.Hm.F.okX Hd (fun vs H Q E h=>?_) (fun cdv A outer s H vs Q E hr h=>?_)
 ·obtain⟨a,cl,rfl,_⟩:=h
  rfl
 ·obtain⟨a,cl,rfl,hS,l1,l2,k1,k2⟩:=h
  have hsz:sizeLine=16777216:=sizeLine_eq
  have hlen:(vS cl).length=cl.length:=JC cl
  refine⟨_,(Ac (Bs (PW.pt (pw_or (Ay Nr (Ar (BW (K:=K)) rfl T.DR Dk (Aa (pv 0) Ab)) (pv 1) (Al _)) (pw_or1 (Ay J7 (Ar (BW (K:=K)) rfl T.DR Dk (Aa (pv 0) Ab)) (Ci (v:=.int 40) rfl T.Ew.choose_spec ⟨_,rfl⟩) (Al _)))))
    (Af (Bx Cm rfl (fun _ _ z=>z) PySem.F.excBase_ValueError Ck PySem.F.excBase_ValueError T.Gs.q rfl T.My (Aa Ad Ab)))
    Ak)
   (Ac (Aw (i:=3) Hd.nd rfl (Or.inl rfl) (Ar De rfl T.DR Dk (Aa (CG (CW (K:=K)) (pv 0) Ai (fun _ _=>rfl)) Ab)))
   (Ac (Bs (PW.pt (pw_or (Ay Nr (pv 3) (pv 1) (Al _)) (pw_or1 (Ay J7 (pv 3) (Ci (v:=.int 40) rfl T.Ew.choose_spec ⟨_,rfl⟩) (Al _)))))
    (Af (Bx Cm rfl (fun _ _ z=>z) PySem.F.excBase_ValueError Ck PySem.F.excBase_ValueError T.Gs.q rfl T.My (Aa Ad Ab)))
    Ak)
   (Ac (Pa fun hfr=>(GZ (AaA Cm hfr) rfl (DN (K:=K) (pv 0)) (Eb (i:=4) Hd.nd rfl (Or.inl rfl))
    (Af (Cq (Aj ((AbM T).mono (by decide)) hr rfl T.MK.m T.MK.F.kp T.MK.b .nil BZ (Aa (pv 4) (Aa (pv 3) (Aa (pv 2) Ab))))))))
   (Af (Am (Tt (Aa (pv 3) (Aa (Ar (BW (K:=K)) rfl T.DR Dk (Aa (pv 0) Ab)) Ab))))))))),?_⟩
  refine⟨_,rfl,_,_,rfl,.inl hS,_,rfl,_,_,rfl,rfl,_,rfl,?_⟩
  rw[hlen]
  refine Fe (fun h=>Ed ⟨by decide,k2 fun⟨m,n,C⟩=>by have:=C.hn;have:=C.n1;omega⟩) (fun g1=>?_)
  refine⟨_,rfl,_,_,rfl,.inl hS,_,_,rfl,rfl,_,rfl,?_⟩
  rw[hlen]
  refine Fe (fun h=>⟨by decide,k2 fun⟨m,n,C⟩=>by have:=C.hn;have:=C.n40;omega⟩) (fun g2=>?_)
  have h0:0<cl.length:=by omega
  have lm:=l2 cl[0] (ApR h0)
  obtain⟨m,hm⟩:∃ m,m=cl[0].length:=⟨_,rfl⟩
  have hm':∀ m' n',Cl cl m' n'→m'=m:=fun m' n' C=>by rw[hm];exact(C.hm cl[0] (ApR h0)).symm
  refine⟨_,rfl,_,_,_,_,rfl,rfl,hS,CJ (by decide) (Akl (Apy h0)),_,rfl,(by rw[BK];omega),?_⟩
  rw[BK,← hm]
  refine⟨_,rfl,_,rfl,_,_,rfl,rfl,_,rfl,?_⟩
  refine Fe (fun h=>Ed ⟨by decide,k2 fun⟨m,n,C⟩=>by have:=hm' _ _ C;have:=C.m1;omega⟩) (fun g3=>?_)
  refine⟨_,rfl,_,_,rfl,rfl,_,rfl,?_⟩
  refine Fe (fun h=>⟨by decide,k2 fun⟨m,n,C⟩=>by have:=hm' _ _ C;have:=C.m40;omega⟩) (fun g4=>?_)
  refine⟨_,rfl,_,rfl,⟨_,hS⟩,Ha (K:=K) (a:=a) (xs:=vS cl) (fun i σ H2=>∃ v,σ=[some (.ref a),some (.int 1),some (.str "#."),some (.int (m:Int)),v]∧H2=H∧∀ u∈cl.take i,u.length=m∧∀ c∈u,Sg c) ⟨none,rfl,rfl,fun u h=>(by simp at h)⟩ (fun i σ H2 _ ⟨_,_,e,_⟩=>e▸hS) ?_ ?_⟩
  ·rintro i x σ H2 hx ⟨v,rfl,rfl,hall⟩
   obtain⟨u,hu,rfl⟩:=Aey hx
   have um:=ApP hu
   refine⟨_,rfl,_,rfl,_,rfl,u,m,rfl,l2 u um,fun hg=>?_,fun hb=>k2 fun⟨m',n',C⟩=>hb ⟨by rw[← hm' _ _ C];exact C.hm u um,C.sg u um⟩⟩
   refine⟨_,rfl,rfl,fun u' hu'=>?_⟩
   rw[ApH,hu] at hu'
   rcases List.mem_append.mp hu' with h | h
   ·exact hall u' h
   ·have:u'=u:=by simpa using h
    rw[this];exact hg
  ·rintro σ H2 ⟨v,rfl,rfl,hall⟩
   rw[hlen,ApO] at hall
   refine⟨_,rfl,_,rfl,_,_,rfl,.inl hS,(by show 2≤sizeLine;decide),fun p hp=>?_⟩
   rw[hlen]
   exact k1 m cl.length ⟨rfl,fun u hu=>(hall u hu).1,fun u hu=>(hall u hu).2,by omega,by omega,by omega,by omega⟩ p hp
def AkM (K:PySem.W.Frag)(t:Adr):Sp:=fun vs H Q E=>∃(a:Addr) (cl:List (List Nat)),vs=[.ref a]∧SqL K H a (vS cl)∧cl.length≤1000∧(∀ u∈cl,u.length≤1000)∧(∀ m n,Cl cl m n→∀ p,H p=none→Q (.ref p) (upd H p (.tup [.int (m:Int),.int (n:Int)])))∧(Am4 cl→E (.ref t.Bw) none H)
theorem Gb(T:Txt K mg t):Be P w K mg base (CX1 P w) 3 t.AaV t.AaW ["cloth"] (AkM K t):=by
 refine T.measured.F.okX AdQ (fun vs H Q E h=>?_) (fun cdv A outer s H vs Q E hr h=>?_)
 ·obtain⟨a,cl,rfl,_⟩:=h
  rfl
 ·obtain⟨a,cl,rfl,hS,l1,l2,k1,k2⟩:=h
  exact⟨_,(Af (Am (Aj ((Xe T).mono (by decide)) hr rfl T.Hm.m T.Hm.F.kp T.Hm.b .nil BZ (Aa (pv 0) (Aa Ai (Aa Ad Ab)))))),_,rfl,a,cl,rfl,hS,l1,l2,k1,k2⟩
def rfa (t:Adr):Rf→Addr
 | .nop=>t.Av
 | .big=>t.Bg
 | .unk=>t.Bv
def Oi (t:Adr)(C dx r:Addr)(H:Hp)(Q:VK)(E:XK)(R:Res)(z:List Nat):Prop:=match R with
 | .ok x=>∀ l H',Cj r H H'→H l=none→H' l=some (.lst (vS x))→H' r=some (.ins C dx (pf l (tx z)))→Q .non H'
 | .no f=>∀ H',Cj r H H'→E (.ref (rfa t f)) none H'
theorem Aec{r:Addr}{H H':Hp}(s:Ax H H'):Cj r H H':=fun b o _ e=>s b o e
theorem Oi.fin{C dx r l:Addr}{H H3:Hp}{Q:VK}{E:XK}{x:List (List Nat)}{z:List Nat}(k:Oi t C dx r H Q E (.ok x) z)(sb:Ax H H3)(h1:H r=some (.ins C dx []))(hl:H3 l=none):Q .non (upd (upd H3 l (.lst (vS x))) r (.ins C dx (pf l (tx z)))):=by
 have hr:H3 r=some (.ins C dx []):=sb _ _ h1
 have nlr:l≠r:=fun y=>by rw[y,hr] at hl;cases hl
 have hlH:H l=none:=by
  cases e:H l with
  | none=>rfl
  | some o=>rw[sb _ _ e] at hl;cases hl
 refine k l _ (fun b o hb e=>?_) hlH (by rw[Ao nlr];exact Ae) Ae
 rw[Ao hb,Ao (Bf (sb b o e) hl)]
 exact sb b o e
def AiR (K:PySem.W.Frag)(t:Adr):Sp:=fun vs H Q E=>∃(r dx a:Addr) (rs:List (List Nat)),vs=[.ref r,.ref a]∧H r=some (.ins t.Lf dx [])∧SqL K H a (vS rs)∧rs≠[]∧rs.length≤40∧(wz Pat.DQ rs).length≤1000000∧Oi t t.Lf dx r H Q E (Acn rs) (wz Pat.DQ rs)
theorem Hq(T:Txt K mg t):Be P w K mg base (CX1 P w) 3 t.Jf t.NP ["self", "runs"] (AiR K t):=by
 refine T.G4.F.okX XN (fun vs H Q E h=>?_) (fun cdv A outer s H vs Q E hr h=>?_)
 ·obtain⟨r,dx,a,rs,rfl,_⟩:=h
  rfl
 ·obtain⟨r,dx,a,rs,rfl,h1,hS,hne,AnV,hw,k⟩:=h
  refine⟨_,(Ac (Bs (Cw (Ar (X5 (K:=K)) rfl T.Ahn Aex (Aa (PE.nox (M9 (Dq.mk (Cg:=[1]) (Nc:=["run", "runs"]) rfl (by decide +kernel) (by decide +kernel) (Dr (sc0:=Ah Ja) rfl (by decide +kernel)) rfl rfl rfl (by decide +kernel) (fun k j h=>match k,h with | 0,h=>by obtain rfl:=Option.some.inj h;exact⟨_,rfl,rfl,rfl⟩ | _+1,h=>by simp at h)) rfl (DN (K:=K) (pv 1)) (fun _ _ _ _ _=>.nil) (fun _ _ _ _ _=>(BP AbU (Ar De rfl T.DR Dk (Aa (pv 0) Ab)) (Ar De rfl T.DR Dk (Aa (CG (CW (K:=K)) (pv 1) Ai (fun _ _=>rfl)) Ab)) (Al _))))) Ab)))
    (Af (Bx Cm rfl (fun _ _ z=>z) PySem.F.excBase_ValueError Ck PySem.F.excBase_ValueError T.Ca.q rfl T.Cv (Aa Ad Ab)))
    Ak)
   (Ac (Cq (Aj ((Abt T).mono (by decide)) hr rfl T.MN.m T.MN.F.kp T.MN.b .nil BZ (Aa (Ar De rfl T.DR Dk (Aa (CG (CW (K:=K)) (pv 1) Ai (fun _ _=>rfl)) Ab)) (Aa (Ar (BW (K:=K)) rfl T.DR Dk (Aa (pv 1) Ab)) Ab))))
   (Af (Cq (Ai6 (Ci (v:=.ref t.Kz) rfl T.AiG rfl) T.Ahs ((Xd T).mono (by decide)) hr T.M4.b .nil Bp (Aa (pv 0) (Aa (pv 1) (Aa (Aj ((AeC T).mono (by decide)) hr rfl T.written.m T.written.F.kp T.written.b .nil Bp (Aa Ad (Aa (pv 1) Ab))) Ab)))))))),?_⟩
  have hb:∀ u∈rs,u.length≤1000000:=fun u hu=>by
   have:=Amu hu
   rw[AhE] at hw
   omega
  obtain⟨u0,hu0,e0⟩:∃ u0,rs[0]?=some u0∧u0.length=wdt rs:=by
   cases rs with
   | nil=>exact absurd rfl hne
   | cons u rs=>exact⟨u,rfl,rfl⟩
  have b0:=hb u0 (ApP hu0)
  refine⟨_,rfl,_,rfl,⟨_,hS⟩,Hw (K:=K) (a:=a) (xs:=vS rs) (fun i ys H2=>H2=H∧ys=vB ((rs.take i).map fun r=>decide (¬r.length=wdt rs))) ⟨rfl,rfl⟩ ?_ ?_ ?_ ?_⟩
  ·rintro i ys H2 hi ⟨rfl,rfl⟩
   refine⟨hS,?_⟩
   rw[Fv,Apx,ApY]
   omega
  ·rw[JC];exact Ho AnV
  ·rintro i x ys H2 hi hx ⟨rfl,rfl⟩
   obtain⟨u,hu,rfl⟩:=Aey hx
   have bu:=hb u (ApP hu)
   refine Eo.no ?_
   refine⟨_,rfl,_,rfl,(by rw[BK];exact big bu),_,rfl,_,_,_,_,rfl,rfl,hS,Aj4 (i:=0) hu0,_,rfl,(by rw[BK];exact big b0),rfl,?_⟩
   rw[show(!decide (V.int ((tx u).length:Int)=V.int ((tx u0).length:Int)))=decide (¬u.length=wdt rs) by
    rw[BK,BK,e0,← decide_not]
    exact decide_eq_decide.mpr ⟨fun z y=>z (by rw[y]),fun z y=>z (by injection y with y;omega)⟩]
   exact CN.of hi ⟨rfl,by rw[FP,ApH,hu,Ap2];rfl⟩
  ·rintro ys H2 q ⟨rfl,rfl⟩ hq
   rw[JC,ApO]
   refine⟨_,_,rfl,SqL.of Ae,_,rfl,?_⟩
   have s3:Ax H2 (upd H2 q (.lst (vB (rs.map fun r=>decide (¬r.length=wdt rs))))):=.upd hq
   generalize upd H2 q (.lst (vB (rs.map fun r=>decide (¬r.length=wdt rs))))=H3 at s3 ⊢
   unfold Acn at k
   refine An7 (fun c=>?_) (fun c=>?_)
   ·rw[if_pos c] at k
    exact⟨by decide,k _ (Aec s3)⟩
   ·rw[if_neg (by rw[c];exact fun z=>nomatch z)] at k
    refine⟨_,rfl,_,_,_,_,rfl,rfl,s3.seq hS,Aj4 (i:=0) hu0,_,rfl,(by rw[BK];exact big b0),_,rfl,_,_,rfl,.inl (s3.seq hS),wdt rs,rs.length,(by rw[BK,e0,JC];rfl),fun c2=>?_,fun c2 H' s'=>?_⟩
    ·rw[if_neg (by omega)] at k
     refine⟨rfl,_,rfl,_,rfl,_,rfl,a,Pat.DQ,rs,(by rw[Aat];rfl),s3.seq hS,hne,hw,?_⟩
     refine⟨t.Lf,r,dx,a,rs,_,rfl,s3 _ _ h1,T.Abm.c,T.Ti,T.Ov,s3.seq hS,fun l hl=>?_⟩
     exact k.fin s3 h1 hl
    ·rw[if_pos (by omega)] at k
     exact k _ (Aec (s3.trans s'))
def Oc (t:Adr)(H:Hp)(Q:VK)(E:XK)(R:Res)(z:List Nat):Prop:=match R with
 | .ok x=>∀ p H',Ax H H'→Pc t (nw H H') p x z→Q (.ref p) H'
 | .no f=>∀ H',Ax H H'→E (.ref (rfa t f)) none H'
theorem YC{r dx C:Addr}{H H':Hp}(h1:H r=none)(h2:H dx=none)(s:Cj r (upd (upd H dx (.own r)) r (.ins C dx [])) H'):Ax H H':=fun b o e=>by
 have n1:=Bf e h1
 refine s b o n1 ?_
 rw[Ao n1,Ao (Bf e h2)]
 exact e
theorem AiS{H H1 H2:Hp}(s:Ax H H1):∀ b o,nw H1 H2 b=some o→nw H H2 b=some o:=AdX fun b e=>by
 cases e2:H b with
 | none=>rfl
 | some o=>rw[s _ _ e2] at e;cases e
theorem Oc.same{H H1:Hp}{Q:VK}{E:XK}{R:Res}{z:List Nat}(k:Oc t H Q E R z)(s:Ax H H1):Oc t H1 Q E R z:=by
 cases R with
 | ok x=>exact fun p H' s' hp=>k p H' (s.trans s') (hp.mono (AiS s))
 | no f=>exact fun H' s'=>k H' (s.trans s')
theorem Oc.make{C r dx:Addr}{H:Hp}{Q:VK}{E:XK}{R:Res}{z:List Nat}(k:Oc t H Q E R z)(hC:C∈pcs t)(h1:H r=none)(h2:H dx=none):Oi t C dx r (upd (upd H dx (.own r)) r (.ins C dx [])) (fun v H2=>v=.non∧Q (.ref r) H2) E R z:=by
 cases R with
 | ok x =>
  intro l H' sb hl hl' hr'
  have nl:H l=none:=by
   by_cases e1:l=r
   ·rw[e1];exact h1
   ·rw[Ao e1] at hl
    by_cases e2:l=dx
    ·rw[e2];exact h2
    ·rw[Ao e2] at hl;exact hl
  exact⟨rfl,k r H' (YC h1 h2 sb) ⟨C,dx,l,hC,by rw[Tn h1];exact hr',by rw[Tn nl];exact hl'⟩⟩
 | no f=>exact fun H' sb=>k H' (YC h1 h2 sb)
theorem Abu{r dx C:Addr}{H:Hp}(h1:H r=none)(h2:H dx=none):Ax H (upd (upd H dx (.own r)) r (.ins C dx [])):=fun b o e=>by
 rw[Ao (Bf e h1),Ao (Bf e h2)]
 exact e
theorem Afj{a b:List Nat}(h:¬a=b):¬(V.str (tx a):V)=V.str (tx b):=fun z=>h (by injection z with z;exact Ld z)
def Kn (H:Hp)(kp:Addr)(kn:Kns):Prop:=∃ as:List Addr,H kp=some (.lst (as.map V.ref))∧as.length=kn.length∧∀(i:Nat) (a:Addr) (p:List Nat × List (List Nat)),as[i]?=some a→kn[i]?=some p→∃ q,H a=some (.tup [.str (tx p.1),.ref q])∧H q=some (.lst (vS p.2))
theorem Kn.same{H H':Hp}{kp:Addr}{kn:Kns}(h:Kn H kp kn)(s:Ax H H'):Kn H' kp kn:=by
 obtain⟨as,h1,h2,h3⟩:=h
 refine⟨as,s _ _ h1,h2,fun i a p g1 g2=>?_⟩
 obtain⟨q,e1,e2⟩:=h3 i a p g1 g2
 exact⟨q,s _ _ e1,s _ _ e2⟩
def AhH (t:Adr):Sp:=fun vs H Q E=>∃(z:List Nat) (kp:Addr) (kn:Kns),vs=[.str (tx z),.ref kp]∧Kn H kp kn∧(∀ x q,known kn z=.ok x→H q=some (.lst (vS x))→Q (.ref q) H)∧(known kn z=.no .unk→E (.ref t.Bv) none H)
theorem Ox(T:Txt K mg t):Be P w K mg base (CX1 P w) 1 t.Te t.Tf ["name", "known"] (AhH t):=by
 refine T.Ga.F.okX JH (fun vs H Q E h=>?_) (fun cdv A outer s H vs Q E hr h=>?_)
 ·obtain⟨z,kp,kn,rfl,_⟩:=h
  rfl
 ·obtain⟨z,kp,kn,rfl,⟨as,h1,h2,h3⟩,k1,k2⟩:=h
  refine⟨_,(Ac (PS.nox (GZ PassesOwn.never rfl (DN (K:=K) (pv 1)) (Agq rfl (Vf (Eb (i:=2) JH.nd rfl (Or.inl rfl)) (Vf (Eb (i:=3) JH.nd rfl (Or.inl rfl)) AeK)))
    (Af (Bs (Ay Ce (pv 2) (pv 0) (Al _))
     (Af (Am (pv 3)))
     Ak))))
   (Af (Bx Cm rfl (fun _ _ z=>z) PySem.F.excBase_ValueError Ck PySem.F.excBase_ValueError T.J4.q rfl T.Acv (Aa Ad Ab)))),?_⟩
  refine⟨_,rfl,_,rfl,⟨_,SqL.of h1⟩,Ha (K:=K) (a:=kp) (xs:=as.map V.ref) (fun i σ H2=>∃ v1 v2,σ=[some (.str (tx z)),some (.ref kp),v1,v2]∧H2=H∧∀ p∈kn.take i,¬p.1=z) ⟨none,none,rfl,rfl,fun p hp=>by simp at hp⟩ (fun i σ H2 _ ⟨_,_,_,e,_⟩=>by rw[e];exact SqL.of h1) ?_ ?_⟩
  ·rintro i xv σ H2 hx ⟨v1,v2,rfl,rfl,no⟩
   rw[Ap8] at hx
   cases ea:as[i]? with
   | none=>rw[ea] at hx;cases hx
   | some a =>
    rw[ea] at hx
    cases hx
    have hi:i<kn.length:=by rw[← h2];exact(List.getElem?_eq_some_iff.mp ea).1
    have ep:=Apy hi
    obtain⟨q,e1,e2⟩:=h3 i a _ ea ep
    refine⟨a,_,rfl,SqT.of e1,rfl,_,_,rfl,_,_,rfl,rfl,?_⟩
    refine⟨_,rfl,_,rfl,rfl,_,rfl,?_⟩
    by_cases c:kn[i].1=z
    ·refine Eh (by rw[c]) ?_
     refine⟨_,rfl,k1 kn[i].2 q ?_ e2⟩
     unfold known
     have:kn.find? (fun p=>decide (p.1=z))=some kn[i]:=by
      rw[List.find?_eq_some_iff_getElem]
      refine⟨by simpa using c,i,hi,rfl,fun j hj=>?_⟩
      have:=no kn[j] (List.mem_iff_getElem?.mpr ⟨j,by rw[List.getElem?_take_of_lt hj];exact Apy (by omega)⟩)
      simpa using this
     rw[this]
    ·refine Bq (Afj c) ?_
     refine⟨_,_,rfl,rfl,fun p hp=>?_⟩
     rw[ApH,ep] at hp
     rcases List.mem_append.mp hp with hp | hp
     ·exact no p hp
     ·rw[Option.toList_some,List.mem_singleton] at hp
      rw[hp]
      exact c
  ·rintro σ H2 ⟨v1,v2,rfl,rfl,no⟩
   rw[Apx,h2,ApO] at no
   refine⟨by decide,k2 ?_⟩
   unfold known
   have:kn.find? (fun p=>decide (p.1=z))=none:=List.find?_eq_none.mpr fun p hp=>by simpa using no p hp
   rw[this]
theorem Ac0{n:Nat}(h:n≤6000):n<sizeLine:=Nat.lt_of_le_of_lt h (by decide)
theorem Aed:∀(l:List Nat),(∀ c∈Ji l,dg c=true)∧(Ji l).length≤l.length
 | []=>⟨fun c hc=>(by cases hc),Apv _⟩
 | a::l=>by
  have ih:=Aed l
  unfold Ji at ih ⊢
  rw[ApT]
  by_cases h:dg a=true
  ·rw[if_pos h]
   refine⟨fun c hc=>?_,by simp only [Apz];omega⟩
   rcases List.mem_cons.mp hc with e | e
   ·rw[e];exact h
   ·exact ih.1 c e
  ·rw[if_neg h]
   exact⟨fun c hc=>(by cases hc),Ap7 _⟩
theorem AhI(l:List Nat):stp Adg l=Ji l:=by
 unfold stp Ji
 congr 1
 funext c
 unfold dg
 exact decide_eq_decide.mpr Abo
def AeD (t:Adr):Sp:=fun vs H Q _=>∃ r dx u p,vs=[.ref r]∧Rd t H r dx u p∧Q (AbI (Ji (u.drop p))) (upd H r (.ins t.Az dx (rf u (p+(Ji (u.drop p)).length))))
theorem Xf(T:Txt K mg t):Be P w K mg base CX0 3 t.Jc t.Jd ["self"] (AeD t):=(M6 T).imp fun vs H Q E ⟨r,dx,u,p,h1,h2,h3⟩=>⟨r,dx,u,p,h1,h2,by rw[AhI];exact h3⟩
end
section
variable {P:Program}{w:World}{K:PySem.W.Frag}{mg:Str→Option Value}{base:Heap}{t:Adr}
theorem fits{z:Int}(h:z.natAbs≤1000000):Builtin.Range.rangeFitsLong z=true:=by
 unfold Builtin.Range.rangeFitsLong
 simp only [Aqa,decide_eq_true_eq]
 omega
def AhJ:Sp:=fun vs H Q _=>∃(a b:Int),vs=[.int a,.int b]∧a.natAbs≤400∧b.natAbs≤400∧∀ l H',Ax H H'→H l=none→H' l=some (.lst (vI (Rn a b)))→Q (.ref l) H'
theorem YD(T:Txt K mg t):Be P w K mg base CX0 1 t.NT t.NZ ["start", "stop"] AhJ:=by
 refine T.Ie.F.ok X6 (fun vs H Q E h=>?_) (fun cdv A outer s H vs Q E hr h=>?_)
 ·obtain⟨a,b,rfl,_⟩:=h
  rfl
 ·obtain⟨a,b,rfl,ha,hb,k⟩:=h
  refine⟨_,(Ac (Bs (Ay Nr (pv 0) (pv 1) (Al _))
    (Af (Am (Fi AaB rfl T.XX QW (Aa (Fi Af6 rfl T.Ec Ad8 (Aa (Bu Hc (pv 0) Ai) (Aa (Bu Hc (pv 1) Ai) Ab))) Ab))))
    Ak)
   (Af (Am (Fi AaB rfl T.XX QW (Aa (Fi Af7 rfl T.Ec Ad8 (Aa (Bu Aax (pv 0) Ai) (Aa (Bu Aax (pv 1) Ai) (Aa (Ajv Agr Ai) Ab)))) Ab))))),?_⟩
  refine⟨_,rfl,_,rfl,_,_,rfl,rfl,_,rfl,?_⟩
  refine Fe (fun c1=>?_) (fun c1=>?_)
  ·refine⟨_,rfl,_,_,rfl,rfl,_,rfl,_,_,rfl,rfl,_,_,rfl,fun p hp=>?_⟩
   have rs:Builtin.Range.rangeSize (a+1) (b+1) 1=((b-a).toNat:Int):=by
    unfold Builtin.Range.rangeSize
    rw[if_pos (by decide),if_pos (by omega),Int.ediv_one]
    omega
   refine⟨p,a+1,b+1,1,(b-a).toNat,rfl,Ae,?_,rs,by omega,fun l hl=>?_⟩
   ·unfold Builtin.Range.small
    rw[rs,fits (by omega),fits (by omega),fits (by omega),fits (by omega)]
    simp only [show(1:Int)>0 by decide,if_true,Aqw,Bool.or_eq_true]
    exact .inr (fits (by omega))
   ·have:Rn a b=X4 (a+1) 1 (b-a).toNat:=if_pos c1
    rw[← this]
    exact k l _ ((Ax.upd hp).new hl) ((Ax.upd hp).free hl) Ae
  ·refine⟨_,rfl,_,_,rfl,rfl,_,rfl,_,_,rfl,rfl,_,rfl,_,_,_,rfl,(by decide),(by decide),fun p hp=>?_⟩
   have rs:Builtin.Range.rangeSize (a-1) (b-1) (-1)=((a-b).toNat:Int):=by
    unfold Builtin.Range.rangeSize
    rw[if_neg (by decide)]
    by_cases c2:a-1>b-1
    ·rw[if_pos c2,show -(-1:Int)=1 by decide,Int.ediv_one]
     omega
    ·rw[if_neg c2]
     omega
   refine⟨p,a-1,b-1,-1,(a-b).toNat,rfl,Ae,?_,rs,by omega,fun l hl=>?_⟩
   ·unfold Builtin.Range.small
    rw[rs,fits (by omega),fits (by omega),fits (by decide),fits (by omega)]
    simp only [show ¬((-1:Int)>0) by decide,if_false,Aqw,Bool.or_eq_true]
    exact .inr (fits (by omega))
   ·have:Rn a b=X4 (a-1) (-1) (a-b).toNat:=if_neg c1
    rw[← this]
    exact k l _ ((Ax.upd hp).new hl) ((Ax.upd hp).free hl) Ae
def pfR (l:Addr):List (Str × V):=[("stops", .ref l)]
theorem Abv(l:Addr):(pfR l).lookup ("stops" : Str)=some (V.ref l):=rfl
theorem YF(T:Txt K mg t):Be P w K mg base CX0 1 t.Je t.NK ["self", "stops"] (fun vs H Q E=>∃(r dx l:Addr),vs=[.ref r,.ref l]∧H r=some (.ins t.Hg dx [])∧Q .non (upd H r (.ins t.Hg dx (pfR l)))):=by
 refine T.Gz.F.ok XJ (fun vs H Q E h=>?_) (fun cdv A outer s H vs Q E hr h=>?_)
 ·obtain⟨r,dx,l,rfl,_⟩:=h
  rfl
 ·obtain⟨r,dx,l,rfl,h1,k⟩:=h
  refine⟨_,(Af (Gh (K:=K) (pv 0) (pv 1))),?_⟩
  exact⟨_,rfl,_,rfl,_,_,_,_,rfl,h1,T.Ni.c,T.Fp,(by decide),k⟩
def dst (ss:List Int)(k:Nat):Int:=AcS (ss.getD (k+1) 0-ss.getD k 0)
def Xg (ss:List Int)(k:Nat):Int:=1+((List.range k).map (dst ss)).sum
theorem YG(ss:List Int)(k:Nat):Xg ss (k+1)=Xg ss k+dst ss k:=by
 unfold Xg
 rw[ApI,Ap2,List.sum_append]
 simp
 omega
theorem Aj5{ks:List Int}{i:Int}(h0:0≤i)(h:i.toNat<ks.length):atI (vI ks) i=some (.int (ks.getD i.toNat 0)):=CJ h0 (by
 rw[Aa8 (Apy h)]
 simp[List.getD,h])
structure IsP (t:Adr) (H:Hp) (a dx l:Addr) (ss:List Int):Prop where
 o:H a=some (.ins t.Hg dx (pfR l))
 l:H l=some (.lst (vI ss))
 ne:1≤ss.length
 le:ss.length≤6000
def AhK (t:Adr):Sp:=fun vs H Q _=>∃(a dx l:Addr) (ss:List Int),vs=[.ref a]∧IsP t H a dx l ss∧Q (.int (Xg ss (ss.length-1))) H
theorem Adh(T:Txt K mg t):Be P w K mg base CX0 1 t.Zn t.Zo ["self"] (AhK t):=by
 refine T.QH.F.ok Jt (fun vs H Q E h=>?_) (fun cdv A outer s H vs Q E hr h=>?_)
 ·obtain⟨a,dx,l,ss,rfl,_⟩:=h
  rfl
 ·obtain⟨a,dx,l,ss,rfl,hP,k⟩:=h
  have ne:=hP.ne
  have le:=hP.le
  refine⟨_,(Ac (Aw (i:=1) Jt.nd rfl (Or.inl rfl) Ai)
   (Ac (GZ PassesOwn.never rfl (Afr rfl T.Ec (Aa Ai (Aa (Ar (BW (K:=K)) rfl T.DR Dk (Aa (DG (K:=K) (pv 0) rfl) Ab)) Ab))) (Eb (i:=2) Jt.nd rfl (Or.inl rfl))
    (Af (AjM (i:=1) Jt.nd rfl (Or.inl rfl) (Ar Agv rfl T.Amv Akh (Aa (Bu Aax (CG (CW (K:=K)) (DG (K:=K) (pv 0) rfl) (pv 2) (fun _ _=>rfl)) (CG (CW (K:=K)) (DG (K:=K) (pv 0) rfl) (Bu Aax (pv 2) Ai) (fun _ _=>rfl))) Ab)) AjN)))
   (Af (Am (pv 1))))),?_⟩
  refine⟨_,rfl,_,_,_,_,_,rfl,hP.o,T.Ni.c,T.Fp,Abv l,_,_,rfl,.inl (SqL.of hP.l),_,_,rfl,⟨by decide,by decide,by rw[Er];omega,by rw[Er];omega⟩,?_⟩
  rw[Er]
  refine AbT (lo:=1) (n:=((ss.length:Int)-1).toNat) (fun i σ H2=>∃ v,σ=[some (.ref a),some (.int (Xg ss i)),v]∧H2=H) ⟨none,rfl,rfl⟩ ?_ ?_
  ·rintro i σ H2 hi ⟨v,rfl,rfl⟩
   have e1:=Aj5 (ks:=ss) (i:=1+(i:Int)) (by omega) (by omega)
   have e2:=Aj5 (ks:=ss) (i:=1+(i:Int)-1) (by omega) (by omega)
   rw[show(1+(i:Int)).toNat=i+1 by omega] at e1
   rw[show(1+(i:Int)-1).toNat=i by omega] at e2
   refine⟨_,rfl,_,rfl,_,_,_,_,_,rfl,hP.o,T.Ni.c,T.Fp,Abv l,_,rfl,_,_,_,_,rfl,rfl,SqL.of hP.l,e1,?_⟩
   refine⟨_,rfl,_,_,_,_,_,rfl,hP.o,T.Ni.c,T.Fp,Abv l,_,rfl,_,_,rfl,rfl,_,_,_,_,rfl,rfl,SqL.of hP.l,e2,_,_,rfl,rfl,_,rfl,_,_,rfl,rfl,?_⟩
   exact⟨some (.int (1+(i:Int))),by rw[YG];rfl,rfl⟩
  ·rintro σ H2 ⟨v,rfl,rfl⟩
   refine⟨_,rfl,?_⟩
   rw[show((ss.length:Int)-1).toNat=ss.length-1 by omega]
   exact k
end
section
variable {P:Program}{w:World}{K:PySem.W.Frag}{mg:Str→Option Value}{base:Heap}{t:Adr}
theorem Ad2{ks:List Int}{z:Int}(h:ks.getLast?=some z):atI (vI ks) (-1)=some (.int z):=by
 have hne:0<ks.length:=by
  cases ks with
  | nil=>cases h
  | cons a l=>exact Nat.succ_pos _
 rw[List.getLast?_eq_getElem?] at h
 unfold atI ixN
 rw[if_neg (by decide),Er]
 rw[if_pos (by omega)]
 have:((ks.length:Int) + -1).toNat=ks.length-1:=by omega
 show(some _).bind _=_
 rw[Aq1]
 first
  | (rw[this];exact Aa8 h)
  | (rw[show(-1+(ks.length:Int)).toNat=ks.length-1 by omega];exact Aa8 h)
theorem AhL:∀(ss:List Int) (i:Nat),i+1≤ss.length→((AdN (ss.take (i+1))).length:Int)=Xg ss i:=by
 intro ss i
 induction i with
 | zero =>
  intro h
  cases ss with
  | nil=>simp at h
  | cons s r=>simp[AdN,go,Xg]
 | succ i ih =>
  intro h
  have hlt:i+1<ss.length:=by omega
  have e:=ih (by omega)
  rw[YG,← e]
  cases ss with
  | nil=>simp at h
  | cons s r =>
   have hr:i<r.length:=by simpa using hlt
   rw[Aqb,Aqb,ApH,Apy hr]
   show((AdN (s::(r.take i++[r[i]]))).length:Int)=_
   rw[AdN,Aaq,AdN,Apz,Apw,Apz]
   have d:((Rn (lst s (r.take i)) r[i]).length:Int)=dst (s::r) i:=by
    rw[AaG]
    unfold dst
    have e1:(s::r).getD (i+1) 0=r[i]:=by simp[List.getD,hr]
    have e2:(s::r).getD i 0=lst s (r.take i):=by
     cases i with
     | zero=>simp[lst]
     | succ j =>
      have hj:j<r.length:=by omega
      rw[ApH,Apy hj]
      show _=lst s (r.take j++[r[j]])
      rw[lst_snoc]
      simp[List.getD,hj]
    rw[e1,e2]
   omega
theorem AfX(ss:List Int):∀{i j:Nat},i≤j→Xg ss i≤Xg ss j:=by
 intro i j h
 induction h with
 | refl=>exact Int.le_refl _
 | @step m _ ih =>
  have:0≤dst ss m:=by unfold dst AcS;split <;> omega
  have e:=YG ss m
  show Xg ss i≤Xg ss (m+1)
  omega
def AiT (t:Adr):Sp:=fun vs H Q _=>∃(a dx l:Addr) (ss:List Int),vs=[.ref a]∧IsP t H a dx l ss∧Xg ss (ss.length-1)≤400∧(∀ s∈ss,s.natAbs≤400)∧∀ q H',Ax H H'→H q=none→H' q=some (.lst (vI (AdN ss)))→Q (.ref q) H'
theorem Aai(T:Txt K mg t):Be P w K mg base CX0 2 t.PN t.PQ ["self"] (AiT t):=by
 refine T.Kc.F.ok IW (fun vs H Q E h=>?_) (fun cdv A outer s H vs Q E hr h=>?_)
 ·obtain⟨a,dx,l,ss,rfl,_⟩:=h
  rfl
 ·obtain⟨a,dx,l,ss,rfl,hP,Aps,hb,k⟩:=h
  have ne:=hP.ne
  have le:=hP.le
  have hsz:sizeLine=16777216:=sizeLine_eq
  refine⟨_,(Ac (Aw (i:=1) IW.nd rfl (Or.inl rfl) (BJ (Aa (CG (CW (K:=K)) (DG (K:=K) (pv 0) rfl) Ai (fun _ _=>rfl)) Ab)))
   (Ac (GZ PassesOwn.never rfl (DN (K:=K) (J9 (AgI (K:=K)) (DG (K:=K) (pv 0) rfl) (Jq Ai) Vh)) (Eb (i:=2) IW.nd rfl (Or.inl rfl))
    (Af (Cq (G8 (K:=K) PySem.F.plainAttrs_list PySem.F.slot_list_extend PySem.F.type_list_extend Aca (pv 1) (Aa (Aj ((YD T).mono (by decide)) hr rfl T.Ie.m T.Ie.F.kp T.Ie.b .nil Bp (Aa (CG (CW (K:=K)) (pv 1) (Ajv Agr Ai) (fun _ _=>rfl)) (Aa (pv 2) Ab))) Ab)))))
   (Af (Am (pv 1))))),?_⟩
  obtain⟨s0,r,rfl⟩:∃ s0 r,ss=s0::r:=by
   cases ss with
   | nil=>simp at ne
   | cons s0 r=>exact⟨s0,r,rfl⟩
  refine⟨_,rfl,_,_,_,_,_,rfl,hP.o,T.Ni.c,T.Fp,Abv l,_,_,_,_,rfl,rfl,SqL.of hP.l,CJ (by decide) rfl,(by show 1≤sizeLine;decide),fun q hq=>?_⟩
  have s1:Ax H (upd H q (.lst [.int s0])):=.upd hq
  refine⟨_,rfl,_,_,_,_,_,rfl,s1 _ _ hP.o,T.Ni.c,T.Fp,Abv l,_,rfl,_,_,rfl,SqL.of (s1 _ _ hP.l),fun p hp=>?_⟩
  have e1:Aeq (vI (s0::r)) (some 1) none=vI r:=by
   unfold Aeq
   have e0:HT.sIx (vI (s0::r)).length 0 (some 1)=1:=by
    show HT.sIx (vI (s0::r)).length 0 (some ((1:Nat):Int))=1
    rw[HT.QV,Er,Apz]
    omega
   rw[e0,HT.Aa2,Er,Apz]
   show(vI r).take _=vI r
   rw[ApS (by rw[Er];omega)]
  rw[e1]
  have s2:Ax H (upd (upd H q (.lst [.int s0])) p (.lst (vI r))):=s1.new hp
  have nqp:q≠p:=Bf (Ae (H:=H)) hp
  refine⟨_,rfl,⟨_,SqL.of Ae⟩,?_⟩
  refine Ha (K:=K) (a:=p) (xs:=vI r) (fun i σ H2=>∃ v,σ=[some (.ref a),some (.ref q),v]∧Ax H H2∧H2 p=some (.lst (vI r))∧H2 q=some (.lst (vI (s0::go s0 (r.take i)))))
   ⟨none,rfl,s2,Ae,by rw[Ao nqp,Ae];rfl⟩ (fun i σ H2 _ ⟨_,_,_,e,_⟩=>SqL.of e) ?_ ?_
  ·rintro i xv σ H2 hx ⟨v,rfl,s3,hp3,hq3⟩
   obtain⟨z,hz,rfl⟩:=AcM hx
   have hir:i<r.length:=(List.getElem?_eq_some_iff.mp hz).1
   have bz:z.natAbs≤400:=hb z (Ap6 _ (ApP hz))
   have bl:(lst s0 (r.take i)).natAbs≤400:=by
    cases i with
    | zero=>exact hb s0 ApB
    | succ j =>
     have hj:j<r.length:=by omega
     rw[ApH,Apy hj]
     show(lst s0 (r.take j++[r[j]])).natAbs≤400
     rw[lst_snoc]
     exact hb _ (Ap6 _ (ApR hj))
   have hlen:=AhL (s0::r) (i+1) (by rw[Apz];omega)
   have AoF:=AfX (s0::r) (i:=i+1) (j:=(s0::r).length-1) (by simp;omega)
   have e5:(s0::r).take (i+1+1)=s0::(r.take i++[z]):=by rw[Aqb,ApH,hz];rfl
   rw[e5,AdN,Aaq,Apz,Apw] at hlen
   refine⟨_,rfl,.inl ⟨rfl,_,SqL.of hq3⟩,_,rfl,_,rfl,_,_,_,_,rfl,rfl,SqL.of hq3,Ad2 (AfI s0 (r.take i)),_,rfl,lst s0 (r.take i),z,rfl,bl,bz,fun l2 H3 s4 nl2 hl2=>?_⟩
   refine⟨q,l2,_,_,rfl,rfl,s4 _ _ hq3,hl2,(by rw[Er,Er,Apz];omega),?_⟩
   have n2:l2≠q:=(Bf hq3 nl2).symm
   have np:p≠q:=nqp.symm
   refine⟨_,rfl,(s3.trans s4).over hq,by rw[Ao np];exact s4 _ _ hp3,?_⟩
   rw[Ae,ApH,hz]
   show some (HO.lst (vI (s0::go s0 (r.take i))++vI (Rn (lst s0 (r.take i)) z)))=some (HO.lst (vI (s0::go s0 (r.take i++[z]))))
   rw[Aaq]
   unfold vI
   rw[← Ap2]
   rfl
  ·rintro σ H2 ⟨v,rfl,s3,hp3,hq3⟩
   refine⟨_,rfl,k q H2 s3 hq ?_⟩
   rw[hq3,Er,ApO]
   rfl
end
inductive It where
 | pth (ss:List Int)
 | tms (n:Nat) (xs:List It)
def psz (ss:List Int):Int:=Xg ss (ss.length-1)
mutual
def It.sz:It→Int
 | .pth ss=>psz ss
 | .tms n xs=>(n:Int)*szs xs
def szs:List It→Int
 | []=>0
 | x::xs=>x.sz+szs xs
end
theorem Nm:∀ xs:List It,szs xs=(xs.map It.sz).sum
 | []=>by simp[szs]
 | x::xs=>by simp only [szs,Ap5,Aqm];rw[Nm xs]
mutual
def It.nu:It→List Int
 | .pth ss=>AdN ss
 | .tms n xs=>(List.replicate n (nus xs)).flatten
def nus:List It→List Int
 | []=>[]
 | x::xs=>x.nu++nus xs
end
theorem Adi:∀ xs:List It,nus xs=(xs.map It.nu).flatten
 | []=>by simp[nus]
 | x::xs=>by simp only [nus,Ap5,ApM];rw[Adi xs]
section
variable {P:Program}{w:World}{K:PySem.W.Frag}{mg:Str→Option Value}{base:Heap}{t:Adr}
def AtP (t:Adr)(H:Hp)(a:Addr)(ss:List Int):Prop:=∃ dx l,IsP t H a dx l ss
theorem AtP.same{H H':Hp}{a:Addr}{ss:List Int}(h:AtP t H a ss)(s:Ax H H'):AtP t H' a ss :=
 let ⟨dx,l,p⟩:=h
 ⟨dx,l,s _ _ p.o,s _ _ p.l,p.ne,p.le⟩
def tf (n:Nat)(l:Addr):List (Str × V):=[("count", .int (n:Int)),("inner", .ref l)]
theorem Aee(n:Nat)(l:Addr):(tf n l).lookup ("count" : Str)=some (V.int (n:Int)):=rfl
theorem Aef(n:Nat)(l:Addr):(tf n l).lookup ("inner" : Str)=some (V.ref l):=rfl
def AtI (t:Adr)(H:Hp):Nat→Addr→It→Prop
 | _,a,.pth ss=>AtP t H a ss
 | 0,_,.tms _ _=>False
 | d+1,a,.tms n xs=>∃(dx li:Addr) (rs:List Addr),H a=some (.ins t.DK dx (tf n li))∧H li=some (.lst (rs.map V.ref))∧n≤99∧rs.length=xs.length∧rs.length≤6000 ∧
   ∀(i:Nat) r x,rs[i]?=some r→xs[i]?=some x→AtI t H d r x
theorem AtI.same{H H':Hp}(s:Ax H H'):∀(d:Nat) (a:Addr) (x:It),AtI t H d a x→AtI t H' d a x
 | 0,_,.pth _,h=>AtP.same h s
 | 0,_,.tms _ _,h=>h.elim
 | d+1,_,.pth _,h=>AtP.same h s
 | d+1,_,.tms n xs,h=>by
  obtain⟨dx,li,rs,h1,h2,h0,h3,h4,h5⟩:=h
  exact⟨dx,li,rs,s _ _ h1,s _ _ h2,h0,h3,h4,fun i r x e1 e2=>AtI.same s d r x (h5 i r x e1 e2)⟩
structure Aeg (t:Adr) (H:Hp) (d:Nat) (rs:List Addr) (xs:List It):Prop where
 len:rs.length=xs.length
 le:rs.length≤6000
 at_:∀(i:Nat) r x,rs[i]?=some r→xs[i]?=some x→AtI t H d r x
theorem Aeg.same{H H':Hp}{d:Nat}{rs:List Addr}{xs:List It}(h:Aeg t H d rs xs)(s:Ax H H'):Aeg t H' d rs xs:=⟨h.len,h.le,fun i r x e1 e2=>AtI.same s d r x (h.at_ i r x e1 e2)⟩
def AeE (t:Adr)(d:Nat):Sp:=fun vs H Q _=>∃(li:Addr) (rs:List Addr) (xs:List It),vs=[.ref li]∧H li=some (.lst (rs.map V.ref))∧Aeg t H d rs xs∧∀ H',Ax H H'→Q (.int (szs xs)) H'
def AeF (t:Adr):Nat→Sp
 | 0=>fun _ _ _ _=>False
 | d+1=>fun vs H Q _=>∃(a dx li:Addr) (n:Nat) (rs:List Addr) (xs:List It),vs=[.ref a]∧H a=some (.ins t.DK dx (tf n li))∧H li=some (.lst (rs.map V.ref))∧n≤99∧Aeg t H d rs xs∧∀ H',Ax H H'→Q (.int ((n:Int)*szs xs)) H'
theorem Abw(T:Txt K mg t):Be P w K mg base CX0 1 t.Ju t.Jv ["self"] (AeF t 0) :=
 T.J2.F.ok S6 (fun vs H Q E h=>h.elim) (fun cdv A outer s H vs Q E hr h=>h.elim)
theorem AbN{k d:Nat}(T:Txt K mg t)(Adj:Be P w K mg base CX0 k t.Jw t.Jx ["row_items"] (AeE t d)) :
  Be P w K mg base CX0 (k+1) t.Ju t.Jv ["self"] (AeF t (d+1)):=by
 refine T.J2.F.ok S6 (fun vs H Q E h=>?_) (fun cdv A outer s H vs Q E hr h=>?_)
 ·obtain⟨a,dx,li,n,rs,xs,rfl,_⟩:=h
  rfl
 ·obtain⟨a,dx,li,n,rs,xs,rfl,ho,hl,hn,hA,k⟩:=h
  refine⟨_,(Af (Am (Bu AjR (DG (K:=K) (pv 0) rfl) (Aj (Adj.mono (by omega)) hr rfl T.G9.m T.G9.F.kp T.G9.b .nil Bp (Aa (DG (K:=K) (pv 0) rfl) Ab))))),?_⟩
  refine⟨_,rfl,_,_,_,_,_,rfl,ho,T.Ij.c,T.JZ,Aee n li,?_⟩
  refine⟨_,rfl,_,_,_,_,_,rfl,ho,T.Ij.c,T.Ka,Aef n li,?_⟩
  refine⟨li,rs,xs,rfl,hl,hA,fun H1 s1=>?_⟩
  exact⟨_,_,rfl,rfl,.inl ⟨by omega,by omega⟩,k H1 s1⟩
theorem Tp{k d:Nat}(hk:1≤k)(T:Txt K mg t)(Adk:Be P w K mg base CX0 k t.Ju t.Jv ["self"] (AeF t d)) :
  Be P w K mg base CX0 (k+1) t.Jw t.Jx ["row_items"] (AeE t d):=by
 refine T.G9.F.ok Ab7 (fun vs H Q E h=>?_) (fun cdv A outer s H vs Q E hr h=>?_)
 ·obtain⟨li,rs,xs,rfl,_⟩:=h
  rfl
 ·obtain⟨li,rs,xs,rfl,hl,hA,kk⟩:=h
  have ln:=hA.len
  have le:=hA.le
  have hsz:sizeLine=16777216:=sizeLine_eq
  refine⟨_,(Af (Am (Ar (Af9 (K:=K)) rfl T.Amz Aki (Aa (M9 (Dq.mk (Cg:=[]) (Nc:=["item"]) rfl (by decide +kernel) (by decide +kernel) (Dr (sc0:=Ah MF) rfl (by decide +kernel)) rfl rfl rfl (by decide +kernel) (fun _ _ h=>by simp at h)) rfl (DN (K:=K) (pv 0)) (fun _ _ _ _ _=>.nil) (fun _ _ _ _ _=>(AdK (pv 0) T.Ni.c T.QH.m ((Adh T).mono (by omega)) hr T.QH.b Bp T.Ij.c T.J2.m (Adk.mono (by omega)) hr T.J2.b Bp))) Ab)))),?_⟩
  refine⟨_,rfl,_,rfl,⟨_,SqL.of hl⟩,Hw (K:=K) (a:=li) (xs:=rs.map V.ref) (fun i ys H2=>Ax H H2∧ys=vI ((xs.take i).map It.sz)) ⟨.refl _,rfl⟩ ?_ ?_ ?_ ?_⟩
  ·rintro i ys H2 hi ⟨s2,rfl⟩
   refine⟨SqL.of (s2 _ _ hl),?_⟩
   rw[Er,Apx,ApY]
   omega
  ·rw[Apx];omega
  ·rintro i x ys H2 hi hx ⟨s2,rfl⟩
   rw[Apx] at hi
   have hi':i<xs.length:=by omega
   rw[Ap8,Apy hi] at hx
   cases hx
   have hI:=AtI.same s2 d _ _ (hA.at_ i _ _ (Apy hi) (Apy hi'))
   refine Eo.no ?_
   have fin:∀ H3,Ax H2 H3→∀ z:Int,z=(xs[i]).sz→CN (rs.map V.ref).length (fun i ys H2=>Ax H H2∧ys=vI ((xs.take i).map It.sz)) i (vI ((xs.take i).map It.sz)++[.int z]) H3:=fun H3 s3 z hz=>by
    refine CN.of (by rw[Apx];exact hi) ⟨s2.trans s3,?_⟩
    rw[hz,AgG,ApH,Apy hi',Ap2]
    rfl
   generalize hx':xs[i]=x at hI
   cases x with
   | pth ss =>
    have hP0:AtP t H2 rs[i] ss:=by cases d <;> exact hI
    obtain⟨dx,l,hP⟩:=hP0
    refine⟨_,rfl,_,dx,pfR l,rfl,rfl,.inl ⟨hP.o,_,dx,l,_,rfl,hP,?_⟩⟩
    exact fin H2 (.refl _) _ (by rw[hx'];simp only [It.sz];rfl)
   | tms n ys =>
    cases d with
    | zero=>exact hI.elim
    | succ d =>
     obtain⟨dx,l2,rs2,h1,h2,h0,h3,h4,h5⟩:=hI
     refine⟨_,rfl,_,dx,tf n l2,rfl,rfl,.inr ⟨h1,_,dx,l2,n,rs2,ys,rfl,h1,h2,h0,⟨h3,h4,h5⟩,fun H3 s3=>?_⟩⟩
     exact fin H3 s3 _ (by rw[hx'];simp only [It.sz])
  ·rintro ys H2 p ⟨s2,rfl⟩ hp
   rw[Apx,ln,ApO]
   refine⟨_,_,rfl,SqL.of Ae,?_⟩
   rw[← Nm]
   exact kk _ (s2.new hp)
theorem AhM(T:Txt K mg t):∀ d:Nat,Be P w K mg base CX0 (2*d+2) t.Jw t.Jx ["row_items"] (AeE t d)
 | 0=>Tp (Apv 1) T (Abw T)
 | d+1=>Tp (k:=2*d+3) (by omega) T (AbN T (AhM T d))
end
mutual
def It.Sm:It→Prop
 | .pth ss=>1≤ss.length∧∀ s∈ss,s.natAbs≤400
 | .tms n xs=>1≤n∧Sms xs
def Sms:List It→Prop
 | []=>True
 | x::xs=>x.Sm∧Sms xs
end
theorem Sms.of_get:∀{xs:List It} {i:Nat} {x:It},Sms xs→xs[i]?=some x→x.Sm
 | [],i,x,_,e=>by simp at e
 | y::xs,0,x,h,e=>by
  simp only [Sms] at h
  simp at e
  rw[← e];exact h.1
 | y::xs,i+1,x,h,e=>by
  simp only [Sms] at h
  exact Sms.of_get h.2 (by simpa using e)
mutual
theorem It.AeG:∀ x:It,x.Sm→(x.nu.length:Int)=x.sz
 | .pth ss,h=>by
  simp only [It.Sm] at h
  simp only [It.nu,It.sz]
  have:=AhL ss (ss.length-1) (by omega)
  rw[show ss.length-1+1=ss.length by omega,ApO] at this
  exact this
 | .tms n xs,h=>by
  simp only [It.Sm] at h
  simp only [It.nu,It.sz]
  rw[len_rep,Int.natCast_mul,Xh xs h.2]
theorem Xh:∀ xs:List It,Sms xs→((nus xs).length:Int)=szs xs
 | [],_=>by simp[nus,szs]
 | x::xs,h=>by
  simp only [Sms] at h
  simp only [nus,szs]
  rw[Apw,Int.natCast_add,It.AeG x h.1,Xh xs h.2]
end
theorem Sms.nn{xs:List It}(h:Sms xs):0≤szs xs:=by rw[← Xh xs h];omega
theorem It.Sm.nn{x:It}(h:x.Sm):0≤x.sz:=by rw[← x.AeG h];omega
theorem AhN(xs:List It)(x:It):nus (xs++[x])=nus xs++x.nu:=by
 rw[Adi,Adi,Ap2,List.flatten_append]
 simp
theorem AhO(xs:List It)(x:It):szs (xs++[x])=szs xs+x.sz:=by
 rw[Nm,Nm,Ap2,List.sum_append]
 simp
theorem AiU(xs ys:List It):szs (xs++ys)=szs xs+szs ys:=by
 rw[Nm,Nm,Nm,Ap2,List.sum_append]
theorem Sms.app:∀{xs ys:List It},Sms (xs++ys)→Sms xs∧Sms ys
 | [],ys,h=>⟨by simp only [Sms],h⟩
 | x::xs,ys,h=>by
  rw[Aqn] at h
  simp only [Sms] at h
  have:=Sms.app h.2
  exact⟨by simp only [Sms];exact⟨h.1,this.1⟩,this.2⟩
theorem Afk{xs:List It}(h:Sms xs)(i:Nat):szs (xs.take i)≤szs xs∧0≤szs (xs.take i):=by
 have e:xs=xs.take i++xs.drop i:=(AqA i xs).symm
 have h':=h
 rw[e] at h'
 have a:=Sms.app h'
 have e2:szs xs=szs (xs.take i)+szs (xs.drop i):=by rw[← AiU,AqA]
 have n1:=a.1.nn
 have n2:=a.2.nn
 omega
section
variable {P:Program}{w:World}{K:PySem.W.Frag}{mg:Str→Option Value}{base:Heap}{t:Adr}
def AeH (t:Adr)(d:Nat):Sp:=fun vs H Q _=>∃(li:Addr) (rs:List Addr) (xs:List It),vs=[.ref li]∧H li=some (.lst (rs.map V.ref))∧Aeg t H d rs xs∧Sms xs∧szs xs≤400 ∧
 ∀ q H',Ax H H'→H q=none→H' q=some (.lst (vI (nus xs)))→Q (.ref q) H'
def AeI (t:Adr):Nat→Sp
 | 0=>fun _ _ _ _=>False
 | d+1=>fun vs H Q _=>∃(a dx li:Addr) (n:Nat) (rs:List Addr) (xs:List It),vs=[.ref a]∧H a=some (.ins t.DK dx (tf n li))∧H li=some (.lst (rs.map V.ref))∧n≤99∧Aeg t H d rs xs∧(It.tms n xs).Sm∧(It.tms n xs).sz≤400 ∧
   ∀ q H',Ax H H'→H q=none→H' q=some (.lst (vI (It.tms n xs).nu))→Q (.ref q) H'
theorem AkN(n:Nat)(l:List Int):(List.replicate n (vI l)).flatten=vI (List.replicate n l).flatten:=by
 induction n with
 | zero=>rfl
 | succ n ih =>
  rw[ApQ,ApQ,ApM,ApM,ih]
  unfold vI
  rw[Ap2]
theorem Xi(T:Txt K mg t):Be P w K mg base CX0 1 t.Gx t.Gy ["self"] (AeI t 0) :=
 T.G3.F.ok Ly (fun vs H Q E h=>h.elim) (fun cdv A outer s H vs Q E hr h=>h.elim)
theorem YH{k d:Nat}(T:Txt K mg t)(AbO:Be P w K mg base CX0 k t.HX t.HY ["row_items"] (AeH t d)) :
  Be P w K mg base CX0 (k+1) t.Gx t.Gy ["self"] (AeI t (d+1)):=by
 refine T.G3.F.ok Ly (fun vs H Q E h=>?_) (fun cdv A outer s H vs Q E hr h=>?_)
 ·obtain⟨a,dx,li,n,rs,xs,rfl,_⟩:=h
  rfl
 ·obtain⟨a,dx,li,n,rs,xs,rfl,ho,hl,hn,hA,hS,h4,k⟩:=h
  have hsz:sizeLine=16777216:=sizeLine_eq
  simp only [It.Sm] at hS
  simp only [It.sz] at h4
  have nn:=hS.2.nn
  have z4:szs xs≤400:=by
   have:szs xs≤(n:Int)*szs xs:=by
    have h1:=Int.mul_le_mul_of_nonneg_right (show(1:Int)≤(n:Int) by omega) nn
    omega
   omega
  have len:=Xh xs hS.2
  refine⟨_,(Af (Am (Bu Aes (Aj (AbO.mono (by omega)) hr rfl T.FQ.m T.FQ.F.kp T.FQ.b .nil Bp (Aa (DG (K:=K) (pv 0) rfl) Ab)) (DG (K:=K) (pv 0) rfl)))),?_⟩
  refine⟨_,rfl,_,_,_,_,_,rfl,ho,T.Ij.c,T.Ka,Aef n li,?_⟩
  refine⟨li,rs,xs,rfl,hl,hA,hS.2,z4,fun q H1 s1 nq hq=>?_⟩
  refine⟨_,rfl,_,_,_,_,_,rfl,s1 _ _ ho,T.Ij.c,T.JZ,Aee n li,?_⟩
  refine⟨q,(n:Int),vI (nus xs),rfl,rfl,hq,by omega,by omega,?_,fun p hp=>?_⟩
  ·rw[Er,ApK]
   have:(nus xs).length≤400:=by omega
   have:(nus xs).length*n≤400*99:=Nat.mul_le_mul this hn
   omega
  ·refine k p _ (s1.new hp) (s1.free hp) ?_
   rw[Ae,ApK,AkN]
   simp only [It.nu]
theorem QQ{k d:Nat}(hk:2≤k)(T:Txt K mg t)(Aaj:Be P w K mg base CX0 k t.Gx t.Gy ["self"] (AeI t d)) :
  Be P w K mg base CX0 (k+1) t.HX t.HY ["row_items"] (AeH t d):=by
 refine T.FQ.F.ok JD (fun vs H Q E h=>?_) (fun cdv A outer s H vs Q E hr h=>?_)
 ·obtain⟨li,rs,xs,rfl,_⟩:=h
  rfl
 ·obtain⟨li,rs,xs,rfl,hl,hA,hS,h4,kk⟩:=h
  have ln:=hA.len
  have hsz:sizeLine=16777216:=sizeLine_eq
  refine⟨_,(Ac (Aw (i:=1) JD.nd rfl (Or.inl rfl) (BJ Ab))
   (Ac (GZ PassesOwn.never rfl (DN (K:=K) (pv 0)) (Eb (i:=2) JD.nd rfl (Or.inl rfl))
    (Af (Cq (G8 (K:=K) PySem.F.plainAttrs_list PySem.F.slot_list_extend PySem.F.type_list_extend Aca (pv 1) (Aa (AdK (pv 2) T.Ni.c T.Kc.m ((Aai T).mono (by omega)) hr T.Kc.b Bp T.Ij.c T.G3.m (Aaj.mono (by omega)) hr T.G3.b Bp) Ab)))))
   (Af (Am (pv 1))))),?_⟩
  refine⟨Ap7 _,fun q hq=>?_⟩
  have s1:Ax H (upd H q (.lst [])):=.upd hq
  refine⟨_,rfl,_,rfl,⟨_,SqL.of (s1 _ _ hl)⟩,?_⟩
  refine Ha (K:=K) (a:=li) (xs:=rs.map V.ref) (fun i σ H2=>∃ v,σ=[some (.ref li),some (.ref q),v]∧Ax H H2∧H2 q=some (.lst (vI (nus (xs.take i)))))
   ⟨none,rfl,s1,by rw[Ae];simp[nus,vI]⟩ (fun i σ H2 _ ⟨_,_,s2,_⟩=>SqL.of (s2 _ _ hl)) ?_ ?_
  ·rintro i x σ H2 hx ⟨v,rfl,s2,hq2⟩
   have hi:i<rs.length:=by
    have:=(List.getElem?_eq_some_iff.mp hx).1
    rwa [Apx] at this
   have hi':i<xs.length:=by omega
   rw[Ap8,Apy hi] at hx
   cases hx
   have hm:(xs[i]).Sm:=hS.of_get (Apy hi')
   have hI:=AtI.same s2 d _ _ (hA.at_ i _ _ (Apy hi) (Apy hi'))
   have e6:(xs.take (i+1))=xs.take i++[xs[i]]:=by rw[ApH,Apy hi'];rfl
   have p1:=Afk hS (i+1)
   have p0:=Afk hS i
   have e7:szs (xs.take (i+1))=szs (xs.take i)+(xs[i]).sz:=by rw[e6,AhO]
   have m0:=hm.nn
   have x4:(xs[i]).sz≤400:=by omega
   have l1:=(xs[i]).AeG hm
   have sm:Sms (xs.take i):=by
    have h':=hS
    rw[← AqA i xs] at h'
    exact h'.app.1
   have l0:=Xh _ sm
   have fin:∀ l2 H3,Ax H2 H3→H2 l2=none→H3 l2=some (.lst (vI (xs[i]).nu))→∀(nz:(vI (nus (xs.take i))).length+(vI (xs[i]).nu).length≤sizeLine),
     ∃ v,[some (V.ref li),some (.ref q),some (.ref rs[i])]=[some (.ref li),some (.ref q),v]∧Ax H (upd H3 q (.lst (vI (nus (xs.take i))++vI (xs[i]).nu)))∧(upd H3 q (.lst (vI (nus (xs.take i))++vI (xs[i]).nu))) q=some (.lst (vI (nus (xs.take (i+1))))):=fun l2 H3 s3 n3 h3 _=>by
    refine⟨_,rfl,(s2.trans s3).over hq,?_⟩
    rw[Ae,e6,AhN]
    unfold vI
    rw[Ap2]
   have nz:(vI (nus (xs.take i))).length+(vI (xs[i]).nu).length≤sizeLine:=by rw[Er,Er];omega
   generalize hx':xs[i]=x at hI hm x4 fin nz
   refine⟨_,rfl,.inl ⟨rfl,_,SqL.of hq2⟩,_,rfl,?_⟩
   cases x with
   | pth ss =>
    have hP0:AtP t H2 rs[i] ss:=by cases d <;> exact hI
    obtain⟨dx,l,hP⟩:=hP0
    simp only [It.Sm] at hm
    simp only [It.sz] at x4
    refine⟨_,dx,pfR l,rfl,rfl,.inl ⟨hP.o,_,dx,l,_,rfl,hP,x4,hm.2,fun l2 H3 s3 nl2 hl2=>?_⟩⟩
    exact⟨q,l2,_,_,rfl,rfl,s3 _ _ hq2,by rw[hl2];simp only [It.nu],nz,fin l2 H3 s3 nl2 (by rw[hl2];simp only [It.nu]) nz⟩
   | tms n ys =>
    cases d with
    | zero=>exact hI.elim
    | succ d =>
     obtain⟨dx,l2,rs2,h1,h2,h0,h3,h4',h5⟩:=hI
     refine⟨_,dx,tf n l2,rfl,rfl,.inr ⟨h1,_,dx,l2,n,rs2,ys,rfl,h1,h2,h0,⟨h3,h4',h5⟩,hm,x4,fun l3 H3 s3 nl3 hl3=>?_⟩⟩
     exact⟨q,l3,_,_,rfl,rfl,s3 _ _ hq2,hl3,nz,fin l3 H3 s3 nl3 hl3 nz⟩
  ·rintro σ H2 ⟨v,rfl,s2,hq2⟩
   refine⟨_,rfl,kk q H2 s2 hq ?_⟩
   rw[hq2,Apx,ln,ApO]
theorem AhP(T:Txt K mg t):∀ d:Nat,Be P w K mg base CX0 (2*d+3) t.HX t.HY ["row_items"] (AeH t d)
 | 0=>QQ (Apv 2) T ((Xi T).mono (by decide))
 | d+1=>QQ (k:=2*d+4) (by omega) T (YH T (AhP T d))
end
inductive Wk where
 | start | nought | Dw | point | more | done | full | bad | star | closed
deriving DecidableEq
def Wk.cl:Wk→Bool
 | .nought=>true
 | .Dw=>true
 | .full=>true
 | .more=>true
 | .done=>true
 | .closed=>true
 | _=>false
def fgr (s:Wk)(c:Nat):Wk :=
 if s=.start∧c=48 then .nought else if s=.start then .Dw else if s=.point∧c≠48 then .more else if s=.point∨s=.more then .done else if s=.Dw then .full else .bad
def wst (s:Wk)(d c:Nat):Wk × Nat :=
 if 48≤c∧c≤57 then (fgr s c,d)
 else if c=42∧(s=.Dw∨s=.full) then (.star,d)
 else if c=40∧s=.star∧d<8 then (.start,d+1)
 else if c=45∧s.cl=true∧s≠.closed then (.point,d)
 else if c=32∧s.cl=true then (.start,d)
 else if c=41∧s.cl=true∧0<d then (.closed,d-1)
 else (.bad,d)
def AiV:Wk→Nat→List Nat→Wk × Nat
 | s,d,[]=>(s,d)
 | s,d,c::u=>AiV (wst s d c).1 (wst s d c).2 u
def acc (s:Wk)(d:Nat)(u:List Nat):Bool:=decide ((AiV s d u).2=0) && (AiV s d u).1.cl
theorem Iv(s:Wk)(d c:Nat)(u:List Nat):acc s d (c::u)=acc (wst s d c).1 (wst s d c).2 u:=rfl
theorem AiW(d c:Nat):(wst .bad d c).1=.bad:=by
 unfold wst
 split
 ·simp[fgr]
 all_goals simp[Wk.cl]
theorem G6:∀(u:List Nat) (d:Nat),acc .bad d u=false
 | [],d=>by simp[acc,AiV,Wk.cl]
 | c::u,d=>by rw[Iv,AiW];exact G6 u _
theorem Adl(s:Wk)(d:Nat):acc s d []=(decide (d=0) && s.cl):=rfl
def isD (c:Nat):Prop:=48≤c∧c≤57
def NoF (u:List Nat):Prop:=∀ c,u[0]?=some c→¬(48≤c∧c≤57)
theorem Afl{s:Wk}{d c:Nat}(h:48≤c∧c≤57):wst s d c=(fgr s c,d):=by unfold wst;rw[if_pos h]
theorem G7{s:Wk}{d c:Nat}{u:List Nat}(h:48≤c∧c≤57):acc s d (c::u)=acc (fgr s c) d u:=by rw[Iv,Afl h]
def qS (v:List Nat):Wk:=if v=[48] then .nought else if v.length=1 then .Dw else .full
def qP (v:List Nat):Wk:=if v.length=1∧v≠[48] then .more else .done
def okN (v:List Nat):Prop:=(1≤v.length∧v.length≤2)∧¬(v.length=2∧v[0]?=some 48)
theorem Aeh{s:Wk}(hs:s=.start∨s=.point){d:Nat}{u:List Nat}(h:NoF u):acc s d u=false:=by
 cases u with
 | nil=>rcases hs with rfl | rfl <;> simp[Adl,Wk.cl]
 | cons c u =>
  have hc:=h c rfl
  have:(wst s d c).1=.bad:=by
   unfold wst
   rw[if_neg hc]
   rcases hs with rfl | rfl <;> simp[Wk.cl]
  rw[Iv,this]
  exact G6 _ _
theorem AfY{v rest:List Nat}{d:Nat}(hv:∀ c∈v,48≤c∧c≤57)(hr:NoF rest):(okN v→acc .start d (v++rest)=acc (qS v) d rest)∧(¬okN v→acc .start d (v++rest)=false):=by
 match v,hv with
 | [],_=>exact⟨fun h=>absurd h.1.1 (by simp),fun _=>Aeh (.inl rfl) hr⟩
 | [a],hv =>
  have ha:=hv a (by simp)
  refine⟨fun _=>?_,fun h=>absurd ⟨⟨by simp,by simp⟩,by simp⟩ h⟩
  rw[Aq9,G7 ha]
  unfold qS fgr
  by_cases c:a=48 <;> simp[c]
 | [a,b],hv =>
  have ha:=hv a (by simp)
  have hb:=hv b (by simp)
  have e:acc .start d ([a,b]++rest)=acc (fgr (fgr .start a) b) d rest:=by
   show acc .start d (a::b::rest)=_
   rw[G7 ha,G7 hb]
  rw[e]
  by_cases c:a=48
  ·refine⟨fun h=>absurd ⟨rfl,by rw[c];rfl⟩ h.2,fun _=>?_⟩
   have:fgr (fgr .start a) b=.bad:=by simp[fgr,c]
   rw[this];exact G6 _ _
  ·refine⟨fun _=>?_,fun h=>absurd ⟨⟨by simp,by simp⟩,fun z=>c (by simpa using z.2)⟩ h⟩
   have:fgr (fgr .start a) b=.full:=by simp[fgr,c]
   rw[this]
   simp[qS]
 | a::b::e::v,hv =>
  have ha:=hv a (by simp)
  have hb:=hv b (by simp)
  have he:=hv e (by simp)
  refine⟨fun h=>absurd h.1.2 (by simp),fun _=>?_⟩
  show acc .start d (a::b::e::(v++rest))=_
  rw[G7 ha,G7 hb,G7 he]
  have:fgr (fgr (fgr .start a) b) e=.bad:=by
   by_cases c:a=48 <;> simp[fgr,c]
  rw[this];exact G6 _ _
theorem AfZ{v rest:List Nat}{d:Nat}(hv:∀ c∈v,48≤c∧c≤57)(hr:NoF rest):(okN v→acc .point d (v++rest)=acc (qP v) d rest)∧(¬okN v→acc .point d (v++rest)=false):=by
 match v,hv with
 | [],_=>exact⟨fun h=>absurd h.1.1 (by simp),fun _=>Aeh (.inr rfl) hr⟩
 | [a],hv =>
  have ha:=hv a (by simp)
  refine⟨fun _=>?_,fun h=>absurd ⟨⟨by simp,by simp⟩,by simp⟩ h⟩
  rw[Aq9,G7 ha]
  unfold qP fgr
  by_cases c:a=48 <;> simp[c]
 | [a,b],hv =>
  have ha:=hv a (by simp)
  have hb:=hv b (by simp)
  have e:acc .point d ([a,b]++rest)=acc (fgr (fgr .point a) b) d rest:=by
   show acc .point d (a::b::rest)=_
   rw[G7 ha,G7 hb]
  rw[e]
  by_cases c:a=48
  ·refine⟨fun h=>absurd ⟨rfl,by rw[c];rfl⟩ h.2,fun _=>?_⟩
   have:fgr (fgr .point a) b=.bad:=by simp[fgr,c]
   rw[this];exact G6 _ _
  ·refine⟨fun _=>?_,fun h=>absurd ⟨⟨by simp,by simp⟩,fun z=>c (by simpa using z.2)⟩ h⟩
   have:fgr (fgr .point a) b=.done:=by simp[fgr,c]
   rw[this]
   simp[qP]
 | a::b::e::v,hv =>
  have ha:=hv a (by simp)
  have hb:=hv b (by simp)
  have he:=hv e (by simp)
  refine⟨fun h=>absurd h.1.2 (by simp),fun _=>?_⟩
  show acc .point d (a::b::e::(v++rest))=_
  rw[G7 ha,G7 hb,G7 he]
  have:fgr (fgr (fgr .point a) b) e=.bad:=by
   by_cases c:a=48 <;> simp[fgr,c]
  rw[this];exact G6 _ _
def ai (d:Nat):List Nat→Bool
 | []=>decide (d=0)
 | c::v=>if c=32 then acc .start d v else if c=41 then (if 0<d then acc .closed (d-1) v else false) else false
theorem Aj6{s:Wk}{d:Nat}{u:List Nat}(hs:s.cl=true)(h1:s≠.closed→NoF u∧u[0]?≠some 45)(h2:s=.Dw∨s=.full→u.take 2≠[42,40]):acc s d u=ai d u:=by
 cases u with
 | nil=>simp[Adl,ai,hs]
 | cons c u =>
  rw[Iv]
  show _=if c=32 then acc .start d u else if c=41 then (if 0<d then acc .closed (d-1) u else false) else false
  by_cases hD:48≤c∧c≤57
  ·rw[Afl hD,if_neg (by omega),if_neg (by omega)]
   by_cases hc:s=.closed
   ·subst hc
    simp[fgr,G6]
   ·exact absurd hD ((h1 hc).1 c rfl)
  unfold wst
  rw[if_neg hD]
  by_cases c42:c=42∧(s=.Dw∨s=.full)
  ·rw[if_pos c42,if_neg (by omega),if_neg (by omega)]
   have h3:=h2 c42.2
   cases u with
   | nil=>simp[Adl,Wk.cl]
   | cons b u =>
    have hb:b≠40:=fun z=>h3 (by rw[c42.1,z];rfl)
    rw[Iv]
    have:(wst .star d b).1=.bad:=by
     unfold wst
     split
     ·simp[fgr]
     ·simp[hb,Wk.cl]
    rw[this]
    exact G6 _ _
  rw[if_neg c42]
  have n40:¬(c=40∧s=.star∧d<8):=fun z=>by rw[z.2.1] at hs;simp[Wk.cl] at hs
  rw[if_neg n40]
  have n45:¬(c=45∧s.cl=true∧s≠.closed):=fun z=>(h1 z.2.2).2 (by rw[z.1];rfl)
  rw[if_neg n45]
  by_cases c32:c=32
  ·rw[if_pos ⟨c32,hs⟩,if_pos c32]
  ·rw[if_neg (fun z=>c32 z.1),if_neg c32]
   by_cases c41:c=41
   ·rw[if_pos c41]
    by_cases hd:0<d
    ·rw[if_pos ⟨c41,hs,hd⟩,if_pos hd]
    ·rw[if_neg (fun z=>hd z.2.2),if_neg hd]
     exact G6 _ _
   ·rw[if_neg (fun z=>c41 z.1),if_neg c41]
    exact G6 _ _
theorem AhQ{s:Wk}{d:Nat}{u:List Nat}(hs:s.cl=true)(hc:s≠.closed):acc s d (45::u)=acc .point d u:=by
 rw[Iv]
 have:wst s d 45=(.point,d):=by
  unfold wst
  simp[hs,hc]
 rw[this]
theorem Aga{s:Wk}{d:Nat}{u:List Nat}:acc s d (42::40::u)=if (s=.Dw∨s=.full)∧d<8 then acc .start (d+1) u else false:=by
 rw[Iv]
 by_cases h:s=.Dw∨s=.full
 ·have:wst s d 42=(.star,d):=by
   unfold wst
   simp[h]
  rw[this,Iv]
  by_cases hd:d<8
  ·rw[if_pos ⟨h,hd⟩]
   have:wst .star d 40=(.start,d+1):=by
    unfold wst
    simp[hd]
   rw[this]
  ·rw[if_neg (fun z=>hd z.2)]
   have:(wst .star d 40).1=.bad:=by
    unfold wst
    simp[hd,Wk.cl]
   rw[this]
   exact G6 _ _
 ·rw[if_neg (fun z=>h z.1)]
  have:(wst s d 42).1=.bad:=by
   unfold wst
   simp[h]
  rw[this]
  exact G6 _ _
theorem Am5{v:List Nat}:(qS v).cl=true∧qS v≠.closed:=by
 unfold qS
 split
 ·exact⟨rfl,by decide⟩
 ·split <;> exact⟨rfl,by decide⟩
theorem Am6{v:List Nat}:(qP v).cl=true∧qP v≠.closed∧qP v≠.Dw∧qP v≠.full:=by
 unfold qP
 split <;> exact⟨rfl,by decide,by decide,by decide⟩
theorem AkO{v:List Nat}:(qS v=.Dw∨qS v=.full)↔v≠[48]:=by
 unfold qS
 split
 next h=>simp[h]
 next h =>
  split
  ·simp[h]
  ·simp[h]
section
variable {P:Program}{w:World}{K:PySem.W.Frag}{mg:Str→Option Value}{base:Heap}{t:Adr}
theorem Ac1{r:Addr}{H H':Hp}(s:Ax H H'):Cj r H H':=fun b o _ e=>s b o e
theorem Agb(l:List Nat):l=Ji l++l.drop (Ji l).length∧NoF (l.drop (Ji l).length):=by
 induction l with
 | nil=>exact⟨rfl,fun c hc=>by simp at hc⟩
 | cons a l ih =>
  unfold Ji at ih ⊢
  rw[ApT]
  by_cases h:dg a=true
  ·rw[if_pos h]
   refine⟨by rw[Apz,Aq8,Aqn];exact congrArg _ ih.1,?_⟩
   rw[Apz,Aq8]
   exact ih.2
  ·rw[if_neg h]
   refine⟨rfl,fun c hc=>?_⟩
   have:c=a:=by simpa using hc.symm
   rw[this]
   exact fun z=>h (decide_eq_true z)
theorem AiX{v:List Nat}(hv:∀ c∈v,48≤c∧c≤57)(h:okN v):∃ n:Nat,AbI v=.int (n:Int)∧n=PySem.NumText.digitsVal v∧n<100∧(n=0↔v=[48]):=by
 refine⟨PySem.NumText.digitsVal v,by unfold AbI;exact if_pos h,rfl,?_⟩
 match v,hv,h with
 | [],_,h=>exact absurd h.1.1 (by simp)
 | [a],hv,_ =>
  have ha:=hv a (by simp)
  have e:PySem.NumText.digitsVal [a]=a-48:=by show 0*10+(a-48)=_;omega
  rw[e]
  refine⟨by omega,⟨fun z=>?_,fun z=>?_⟩⟩
  ·rw[show a=48 by omega]
  ·injection z with z;omega
 | [a,b],hv,h =>
  have ha:=hv a (by simp)
  have hb:=hv b (by simp)
  have e:PySem.NumText.digitsVal [a,b]=(a-48)*10+(b-48):=by show(0*10+(a-48))*10+(b-48)=_;omega
  have a0:a≠48:=fun z=>h.2 ⟨rfl,by rw[z];rfl⟩
  rw[e]
  refine⟨by omega,⟨fun z=>by omega,fun z=>by simp at z⟩⟩
 | a::b::c::v,_,h=>exact absurd h.1.2 (by simp)
theorem AiY{v:List Nat}(h:¬okN v):AbI v=.non:=by unfold AbI;exact if_neg h
def fg (u:List Nat)(p:Nat):List Nat:=Ji (u.drop p)
theorem AhR{u:List Nat}{p:Nat}:∀ c∈fg u p,48≤c∧c≤57:=AiK
theorem Adm(u:List Nat)(p:Nat):u.drop p=fg u p++u.drop (p+(fg u p).length)∧NoF (u.drop (p+(fg u p).length)):=by
 have:=Agb (u.drop p)
 rw[Aqc] at this
 exact this
theorem Aj7{u:List Nat}{p:Nat}(h:p≤u.length):p+(fg u p).length≤u.length:=by
 have:=congrArg List.length (Adm u p).1
 rw[ApD,Apw,ApD] at this
 have h2:=(Aed (u.drop p)).2
 rw[ApD] at h2
 unfold fg at *
 omega
def vlN (v:List Nat):Nat:=PySem.NumText.digitsVal v
inductive PTr:List Nat→List Nat→List Nat→Prop where
 | stop {u:List Nat}:u[0]?≠some 45→PTr u [] u
 | step {v ns r:List Nat}:PTr (v.drop (Ji v).length) ns r→PTr (45::v) (vlN (Ji v)::ns) r
theorem PTr.det:∀{u ns r ns' r':List Nat},PTr u ns r→PTr u ns' r'→ns=ns'∧r=r':=by
 intro u ns r ns' r' h
 induction h generalizing ns' r' with
 | stop h =>
  intro g
  cases g with
  | stop _=>exact⟨rfl,rfl⟩
  | step _=>exact absurd rfl h
 | step _ ih =>
  intro g
  cases g with
  | stop g=>exact absurd rfl g
  | step g=>exact⟨by rw[(ih g).1],(ih g).2⟩
def AhS (t:Adr):Sp:=fun vs H Q E=>∃ r dx u p,vs=[.ref r]∧Rd t H r dx u p ∧
 (∀ n:Nat,okN (fg u p)→n<100→(n=0↔fg u p=[48])→n=vlN (fg u p)→Q (.int (n:Int)) (upd H r (.ins t.Az dx (rf u (p+(fg u p).length)))))∧(¬okN (fg u p)→∀ H',Cj r H H'→E (.ref t.BX) none H')
theorem Iw(T:Txt K mg t):Be P w K mg base (CX1 P w) 4 t.JM t.JN ["reader"] (AhS t):=by
 refine T.Dz.F.okX Jk (fun vs H Q E h=>?_) (fun cdv A outer s H vs Q E hr h=>?_)
 ·obtain⟨r,dx,u,p,rfl,_⟩:=h
  rfl
 ·obtain⟨r,dx,u,p,rfl,hR,k1,k2⟩:=h
  refine⟨_,(Ac (Aw (i:=1) Jk.nd rfl (Or.inl rfl) (Li (pv 0) T.Bo.c T.Ff.m ((Xf T).mono (by decide)) hr T.Ff.b .nil Bp))
   (Ac (Bs (Ay Aay (pv 1) La (Al _))
    (Af (Bx Cm rfl (fun _ _ z=>z) PySem.F.excBase_ValueError Ck PySem.F.excBase_ValueError T.Gr.q rfl T.J1 (Aa Ad Ab)))
    Ak)
   (Af (Am (pv 1))))),?_⟩
  refine⟨_,rfl,r,dx,rf u p,rfl,hR.1,(Dm u p).2.2.1,r,dx,u,p,rfl,hR,?_⟩
  show ∃ _,_
  by_cases c:okN (fg u p)
  ·obtain⟨n,e,hv,hn,hz⟩:=AiX AhR c
   unfold fg at e
   rw[e]
   refine⟨_,rfl,rfl,_,rfl,?_⟩
   refine Bq (fun z=>nomatch z) ?_
   exact⟨_,rfl,k1 n c hn hz hv⟩
  ·have e:=AiY c
   unfold fg at e
   rw[e]
   refine⟨_,rfl,rfl,_,rfl,?_⟩
   refine Eh rfl ?_
   exact⟨by decide,k2 c _ Cj.upd⟩
theorem AhT:(("-" : Str))=tx [45]:=by decide +kernel
theorem AhU{u:List Nat}{p c:Nat}(h:(u.drop p).take [c].length=[c]):u.drop p=c::u.drop (p+1):=by
 cases e:u.drop p with
 | nil=>rw[e] at h;simp at h
 | cons a v =>
  rw[e] at h
  have:a=c:=by simpa using h
  rw[← Aqc,e,this]
  rfl
theorem Adn{u:List Nat}{p c:Nat}(h:(u.drop p).take [c].length≠[c]):(u.drop p)[0]?≠some c:=fun z=>by
 cases e:u.drop p with
 | nil=>rw[e] at z;simp at z
 | cons a v =>
  rw[e] at z h
  have:a=c:=by simpa using z
  exact h (by rw[this];rfl)
theorem Ado{u v:List Nat}{p c:Nat}(e:u.drop p=c::v):p+1≤u.length:=by
 have:=congrArg List.length e
 rw[ApD,Apz] at this
 omega
def AhV (t:Adr):Sp:=fun vs H Q E=>∃ r dx u p n0 s d,vs=[.ref r,.int ((n0:Nat):Int)]∧Rd t H r dx u p∧u.length≤5000∧n0<100∧Wk.cl s=true∧s≠.closed∧NoF (u.drop p)∧(s=.Dw∨s=.full→(u.drop p).take 2≠[42,40]) ∧
 (∀ a ns p' H',Cj r H H'→Rd t H' r dx u p'→p≤p'→H a=none→AtP t H' a ((n0::ns).map Int.ofNat)→(∀ n∈ns,n<100)→ns.length≤5000→PTr (u.drop p) ns (u.drop p')→acc s d (u.drop p)=ai d (u.drop p')→Q (.ref a) H') ∧
 (∀ H',Cj r H H'→acc s d (u.drop p)=false→E (.ref t.BX) none H')
theorem AbP(T:Txt K mg t):Be P w K mg base (CX1 P w) 5 t.Zt t.Zu ["reader", "first"] (AhV t):=by
 refine T.Rc.F.okX Vo (fun vs H Q E h=>?_) (fun cdv A outer s H vs Q E hr h=>?_)
 ·obtain⟨r,dx,u,p,n0,s,d,rfl,_⟩:=h
  rfl
 ·obtain⟨r,dx,u,p,n0,s,d,rfl,hR,u9,hn0,hs,hsc,hF,hst,k1,k2⟩:=h
  refine⟨_,(Ac (Aw (i:=2) Vo.nd rfl (Or.inl rfl) (BJ (Aa (pv 1) Ab)))
   (Ac (Pa fun hfr=>(Vg (AaA Cm hfr) (Cw (Dj (pv 0) T.Bo.c T.BL.m ((Dc T).mono (by decide)) hr T.BL.b .nil Bp (Aa Ad Ab)))
    (Af (Cq (G8 (K:=K) PySem.F.plainAttrs_list PySem.F.slot_list_append PySem.F.type_list_append Lj (pv 2) (Aa (Aj ((Iw T).mono (by decide)) hr rfl T.Dz.m T.Dz.F.kp T.Dz.b .nil BZ (Aa (pv 0) Ab)) Ab))))))
   (Af (Am (Gw T.Ni.m ((YF T).mono (by decide)) hr rfl T.AkC T.Gz.b .nil Bp (Aa (pv 2) Ab)))))),?_⟩
  refine⟨_,rfl,(by show 1≤sizeLine;decide),fun q hq=>?_⟩
  have nqr:q≠r:=fun z=>by rw[z,hR.1] at hq;cases hq
  refine⟨fun m σ H2=>∃ done p2 s2,σ=[some (.ref r),some (.int (n0:Int)),some (.ref q)]∧Cj r H H2∧H2 q=some (.lst (vI ((n0::done).map Int.ofNat)))∧Rd t H2 r dx u p2∧p+done.length≤p2∧(∀ n∈done,n<100) ∧
    Wk.cl s2=true∧s2≠.closed∧NoF (u.drop p2)∧(s2=.Dw∨s2=.full→(u.drop p2).take 2≠[42,40])∧acc s d (u.drop p)=acc s2 d (u.drop p2)∧(∀ ns r,PTr (u.drop p2) ns r→PTr (u.drop p) (done++ns) r)∧m=u.length-p2,
   ⟨_,[],p,s,rfl,Ac1 (Ax.upd hq),Ae,⟨by rw[Ao nqr.symm];exact hR.1,hR.2⟩,Apv _,(fun n hn=>by simp at hn),hs,hsc,hF,hst,rfl,(fun ns r h=>h),rfl⟩,?_⟩
  rintro m σ H2 ⟨done,p2,s2,rfl,b2,hq2,hR2,hp2,hd2,hs2,hsc2,hF2,hst2,ha2,hPT,rfl⟩
  have p2l:=hR2.2.1
  refine⟨_,rfl,r,dx,rf u p2,rfl,hR2.1,(Dm u _).2.1,r,dx,u,p2,[45],(by rw[AhT];rfl),hR2,(by decide),fun YB=>?_,fun hno=>?_⟩
  ·refine⟨_,rfl,?_⟩
   refine Ed ?_
   have hdr:=AhU YB
   have hlt:=Ado hdr
   rw[hdr,AhQ hs2 hsc2] at ha2
   have hq3:(upd H2 r (.ins t.Az dx (rf u (p2+[45].length)))) q=some (.lst (vI ((n0::done).map Int.ofNat))):=by rw[Ao nqr];exact hq2
   have fr:=Adm u (p2+1)
   have fl:=Aj7 hlt
   have np:=AfZ (d:=d) (AhR (u:=u) (p:=p2+1)) fr.2
   rw[← fr.1] at np
   refine⟨_,fun σ' H' h=>h,?_⟩
   refine⟨_,rfl,.inl ⟨rfl,_,SqL.of hq3⟩,_,rfl,r,dx,u,p2+1,rfl,⟨Ae,hlt,hR2.2.2⟩,fun n hok hn _ hv=>?_,fun AkP H' sb=>?_⟩
   ·rw[Ea]
    have hq4:(upd H2 r (.ins t.Az dx (rf u (p2+1+(fg u (p2+1)).length)))) q=some (.lst (vI ((n0::done).map Int.ofNat))):=by rw[Ao nqr];exact hq2
    refine⟨_,_,_,rfl,rfl,hq4,(by rw[Er,Apx,Apz];exact Ac0 (by omega)),?_⟩
    have ql:=@Am6 (fg u (p2+1))
    refine⟨u.length-(p2+1+(fg u (p2+1)).length),by omega,done++[n],p2+1+(fg u (p2+1)).length,qP (fg u (p2+1)),rfl,?_,?_,?_,by rw[Apw,ApF];omega,?_,ql.1,ql.2.1,fr.2,fun z=>by rcases z with z | z;exact absurd z ql.2.2.1;exact absurd z ql.2.2.2,by rw[ha2,np.1 hok],(fun ns r h=>?_),rfl⟩
    ·intro b o hb e
     rw[Ao (Bf e hq),Ao hb]
     exact b2 b o hb e
    ·rw[Ae]
     show some (HO.lst (vI ((n0::done).map Int.ofNat)++[V.int (Int.ofNat n)]))=_
     rw[AgG,← Aqn,Ap2]
     rfl
    ·refine⟨?_,fl,hR2.2.2⟩
     rw[Ao nqr.symm,Ae]
    ·intro x hx
     rcases List.mem_append.mp hx with hx | hx
     ·exact hd2 x hx
     ·rw[List.mem_singleton.mp hx];exact hn
    ·rw[ApW]
     refine hPT _ _ ?_
     rw[hdr,hv]
     refine PTr.step ?_
     rw[Aqc]
     exact h
   ·refine k2 H' (fun b o hb e=>sb b o hb ?_) (by rw[ha2,np.2 AkP])
    rw[Ao hb]
    exact b2 b o hb e
  ·refine⟨_,rfl,?_⟩
   refine Ez ?_
   have h45:=Adn hno
   refine⟨_,rfl,fun x dx' hx hdx hne=>⟨x,dx',q,rfl,Ae,rfl,?_⟩⟩
   rw[Ea]
   have nx:∀ b o,H2 b=some o→b≠x∧b≠dx':=fun b o e=>⟨Bf e hx,Bf e hdx⟩
   have keep:∀ b o,H2 b=some o→(upd (upd H2 dx' (.own x)) x (.ins t.Hg dx' (pfR q))) b=some o:=fun b o e=>by rw[Ao (nx b o e).1,Ao (nx b o e).2];exact e
   refine k1 x done p2 _ (fun b o hb e=>keep b o (b2 b o hb e)) ⟨keep _ _ hR2.1,hR2.2⟩ (by omega) ?_ ⟨dx',q,Ae,keep _ _ hq2,by simp,by rw[Apx,Apz];omega⟩ hd2 (by omega) ?_ ?_
   ·cases e:H x with
    | none=>rfl
    | some o =>
     by_cases hxr:x=r
     ·rw[hxr,hR2.1] at hx;cases hx
     ·rw[b2 x o hxr e] at hx;cases hx
   ·have:=hPT [] _ (PTr.stop h45)
    rw[Aqj] at this
    exact this
   ·rw[ha2]
    exact Aj6 hs2 (fun _=>⟨hF2,h45⟩) hst2
end
def ofN (ns:List Nat):List Int:=ns.map Int.ofNat
mutual
def It.tx:It→List Nat
 | .pth ss=>Amq (ss.map Int.toNat)
 | .tms n xs=>dec n++42::40::(AnW xs++[41])
def AnW:List It→List Nat
 | []=>[]
 | x::xs=>x.tx++Am7 xs
def Am7:List It→List Nat
 | []=>[]
 | x::xs=>32::(x.tx++Am7 xs)
end
def Gd:Nat→It→Prop
 | _,.pth ss=>∃ n0 ns,ss=ofN (n0::ns)∧(∀ n∈n0::ns,n<100)∧ns.length≤5000
 | 0,.tms _ _=>False
 | d+1,.tms n xs=>1≤n∧n≤99∧xs≠[]∧xs.length≤5000∧∀ x∈xs,Gd d x
def Aft (rest:List Nat):Prop:=∀ c,rest[0]?=some c→c=32∨c=41
section
variable {P:Program}{w:World}{K:PySem.W.Frag}{mg:Str→Option Value}{base:Heap}{t:Adr}
def AtJ (t:Adr)(H:Hp)(F:Addr→Prop):Nat→Addr→It→Prop
 | _,a,.pth ss=>AtP t H a ss
 | 0,_,.tms _ _=>False
 | d+1,a,.tms n xs=>∃(dx li:Addr) (rs:List Addr),H a=some (.ins t.DK dx (tf n li))∧H li=some (.lst (rs.map V.ref))∧F li∧n≤99∧rs.length=xs.length∧rs.length≤6000 ∧
   ∀(i:Nat) r x,rs[i]?=some r→xs[i]?=some x→AtJ t H F d r x
structure Kp (t:Adr) (H H':Hp) (F:Addr→Prop):Prop where
 kp:∀(b dx l:Addr),H b=some (.ins t.Hg dx (pfR l))→H' b=some (.ins t.Hg dx (pfR l))
 ks:∀(b:Addr) (ss:List Int),1≤ss.length→H b=some (.lst (vI ss))→H' b=some (.lst (vI ss))
 kt:∀(b dx:Addr) (n:Nat) (l:Addr),H b=some (.ins t.DK dx (tf n l))→H' b=some (.ins t.DK dx (tf n l))
 kl:∀(b:Addr) (rs:List Addr),F b→H b=some (.lst (rs.map V.ref))→H' b=some (.lst (rs.map V.ref))
theorem AtJ.keep{H H':Hp}{F:Addr→Prop}(k:Kp t H H' F):∀(d:Nat) (a:Addr) (x:It),AtJ t H F d a x→AtJ t H' F d a x
 | 0,_,.pth _,⟨dx,l,h⟩=>⟨dx,l,k.kp _ _ _ h.o,k.ks _ _ h.ne h.l,h.ne,h.le⟩
 | 0,_,.tms _ _,h=>h.elim
 | d+1,_,.pth _,⟨dx,l,h⟩=>⟨dx,l,k.kp _ _ _ h.o,k.ks _ _ h.ne h.l,h.ne,h.le⟩
 | d+1,_,.tms n xs,⟨dx,li,rs,h1,h2,h0,h3,h4,h5,h6⟩=>⟨dx,li,rs,k.kt _ _ _ _ h1,k.kl _ _ h0 h2,h0,h3,h4,h5,fun i r x e1 e2=>AtJ.keep k d r x (h6 i r x e1 e2)⟩
theorem AtJ.imp{H:Hp}{F F':Addr→Prop}(k:∀ b,F b→(∃ o,H b=some o)→F' b):∀(d:Nat) (a:Addr) (x:It),AtJ t H F d a x→AtJ t H F' d a x
 | 0,_,.pth _,h=>h
 | 0,_,.tms _ _,h=>h.elim
 | d+1,_,.pth _,h=>h
 | d+1,_,.tms n xs,⟨dx,li,rs,h1,h2,h0,h3,h4,h5,h6⟩=>⟨dx,li,rs,h1,h2,k _ h0 ⟨_,h2⟩,h3,h4,h5,fun i r x e1 e2=>AtJ.imp k d r x (h6 i r x e1 e2)⟩
theorem AtJ.to{H:Hp}{F:Addr→Prop}:∀(d:Nat) (a:Addr) (x:It),AtJ t H F d a x→AtI t H d a x
 | 0,_,.pth _,h=>h
 | 0,_,.tms _ _,h=>h.elim
 | d+1,_,.pth _,h=>h
 | d+1,_,.tms n xs,⟨dx,li,rs,h1,h2,h0,h3,h4,h5,h6⟩=>⟨dx,li,rs,h1,h2,h3,h4,h5,fun i r x e1 e2=>AtJ.to d r x (h6 i r x e1 e2)⟩
structure Adp (t:Adr) (H:Hp) (F:Addr→Prop) (d:Nat) (rs:List Addr) (xs:List It):Prop where
 len:rs.length=xs.length
 le:rs.length≤6000
 at_:∀(i:Nat) r x,rs[i]?=some r→xs[i]?=some x→AtJ t H F d r x
theorem Adp.snoc{H:Hp}{F:Addr→Prop}{d:Nat}{rs:List Addr}{xs:List It}{a:Addr}{x:It}(h:Adp t H F d rs xs)(hx:AtJ t H F d a x)(hl:rs.length<6000):Adp t H F d (rs++[a]) (xs++[x]):=by
 have ln:=h.len
 refine⟨by rw[Apw,Apw,ln];rfl,by rw[Apw,ApF];omega,fun i r y e1 e2=>?_⟩
 by_cases hi:i<rs.length
 ·rw[ApZ hi] at e1
  rw[ApZ (by omega)] at e2
  exact h.at_ i r y e1 e2
 ·rw[ApV (by omega)] at e1
  rw[ApV (by omega)] at e2
  rw[ln] at e1
  cases hj:i-xs.length with
  | zero =>
   rw[hj] at e1 e2
   cases e1;cases e2
   exact hx
  | succ j=>rw[hj] at e1;simp at e1
theorem Adp.keep{H H':Hp}{F:Addr→Prop}{d:Nat}{rs:List Addr}{xs:List It}(h:Adp t H F d rs xs)(k:Kp t H H' F):Adp t H' F d rs xs:=⟨h.len,h.le,fun i r x e1 e2=>AtJ.keep k d r x (h.at_ i r x e1 e2)⟩
theorem Kp.same{H H':Hp}{F:Addr→Prop}(s:Ax H H'):Kp t H H' F:=⟨fun b dx l e=>s _ _ e,fun b ss _ e=>s _ _ e,fun b dx n l e=>s _ _ e,fun b rs _ e=>s _ _ e⟩
theorem Kp.but{H H':Hp}{F:Addr→Prop}{r dr:Addr}{fs:List (Str × V)}(s:Cj r H H')(er:H r=some (.ins t.Az dr fs))(nc:t.Az≠t.Hg)(nt:t.Az≠t.DK):Kp t H H' F:=by
 refine⟨fun b dx l e=>s _ _ (fun z=>?_) e,fun b ss _ e=>s _ _ (fun z=>?_) e,fun b dx n l e=>s _ _ (fun z=>?_) e,fun b rs _ e=>s _ _ (fun z=>?_) e⟩
 ·rw[z,er] at e
  injection e with e
  injection e with e
  exact nc e
 ·rw[z,er] at e;cases e
 ·rw[z,er] at e
  injection e with e
  injection e with e
  exact nt e
 ·rw[z,er] at e;cases e
theorem Kp.app{H:Hp}{F:Addr→Prop}{li:Addr}{rs:List Addr}{o:HO}(hl:H li=some (.lst (rs.map V.ref)))(nF:¬F li):Kp t H (upd H li o) F:=by
 refine⟨fun b dx l e=>?_,fun b ss n e=>?_,fun b dx n l e=>?_,fun b rs' f e=>?_⟩
 ·rw[Ao (fun z=>by rw[z,hl] at e;cases e)];exact e
 ·rw[Ao (fun z=>by
   rw[z,hl] at e
   injection e with e
   injection e with e
   cases ss with
   | nil=>simp at n
   | cons x y =>
    cases rs with
    | nil=>simp[vI] at e
    | cons c d =>
     unfold vI at e
     rw[Ap5,Ap5] at e
     injection e with e
     cases e)]
  exact e
 ·rw[Ao (fun z=>by rw[z,hl] at e;cases e)];exact e
 ·rw[Ao (fun z=>by rw[z] at f;exact nF f)];exact e
theorem Aj8(T:Txt K mg t):t.Az≠t.Hg:=fun e=>by
 have h1:=T.Dv.m.at_
 have h2:=T.Gz.m.at_
 rw[e,h2] at h1
 injection h1 with h1
 injection h1 with h1
 injection h1 with h1
 obtain⟨_,_,_,_,_,_,_,_,_,e1,l1,_⟩:=T.Dv.F.ex
 obtain⟨_,_,_,_,_,_,_,_,_,e2,l2,_⟩:=T.Gz.F.ex
 rw[h1,l1,e1,e2] at l2
 injection l2 with l2
 injection l2 with _ _ l2 _
 injection l2 with l2
 have q:(("Reader.__init__" : Str))=("Path.__init__" : Str):=congrArg FuncData.qualname l2
 exact absurd q (by decide +kernel)
theorem Aj9(T:Txt K mg t):t.Az≠t.DK:=fun e=>by
 have h1:=T.Dv.m.at_
 have h2:=T.Ey.m.at_
 rw[e,h2] at h1
 injection h1 with h1
 injection h1 with h1
 injection h1 with h1
 obtain⟨_,_,_,_,_,_,_,_,_,e1,l1,_⟩:=T.Dv.F.ex
 obtain⟨_,_,_,_,_,_,_,_,_,e2,l2,_⟩:=T.Ey.F.ex
 rw[h1,l1,e1,e2] at l2
 injection l2 with l2
 injection l2 with _ _ l2 _
 injection l2 with l2
 have q:(("Reader.__init__" : Str))=("Times.__init__" : Str):=congrArg FuncData.qualname l2
 exact absurd q (by decide +kernel)
theorem KR(T:Txt K mg t):Be P w K mg base CX0 1 t.HD t.LR ["self", "count", "inner"] (fun vs H Q E=>∃(r dx l:Addr) (n:Nat),vs=[.ref r,.int (n:Int),.ref l]∧H r=some (.ins t.DK dx [])∧Q .non (upd H r (.ins t.DK dx (tf n l)))):=by
 refine T.Ey.F.ok V4 (fun vs H Q E h=>?_) (fun cdv A outer s H vs Q E hr h=>?_)
 ·obtain⟨r,dx,l,n,rfl,_⟩:=h
  rfl
 ·obtain⟨r,dx,l,n,rfl,h1,k⟩:=h
  refine⟨_,(Ac (Gh (K:=K) (pv 0) (pv 1))
   (Af (Gh (K:=K) (pv 0) (pv 2)))),?_⟩
  refine⟨_,rfl,_,rfl,_,_,_,_,rfl,h1,T.Ij.c,T.JZ,(by decide),?_⟩
  refine⟨_,rfl,_,rfl,_,_,_,_,rfl,Ae,T.Ij.c,T.Ka,(by show 1<1000;decide),?_⟩
  rw[Ea]
  exact k
theorem Agc:(("*(" : Str))=tx [42,40]:=by decide +kernel
theorem AkQ:((")" : Str))=tx [41]:=by decide +kernel
theorem AkR:((" " : Str))=tx [32]:=by decide +kernel
theorem Cj.none{r b:Addr}{H H':Hp}(s:Cj r H H')(n:H' b=none)(h:b≠r):H b=none:=by
 cases e:H b with
 | none=>rfl
 | some o=>rw[s b o h e] at n;cases n
theorem AhW{e:Nat}{v:List Nat}(h:1≤e):ai e (41::v)=acc .closed (e-1) v:=by
 show(if (41:Nat)=32 then acc .start e v else if (41:Nat)=41 then (if 0<e then acc .closed (e-1) v else false) else false)=acc .closed (e-1) v
 rw[if_neg (by decide),if_pos rfl,if_pos (by omega)]
theorem AjA{e c:Nat}{v:List Nat}(h1:c≠32)(h2:c≠41):ai e (c::v)=false:=by
 show(if c=32 then acc .start e v else if c=41 then (if 0<e then acc .closed (e-1) v else false) else false)=false
 rw[if_neg h1,if_neg h2]
inductive RIm (R:List Nat→It→List Nat→Prop):List Nat→List It→List Nat→Prop where
 | nil {u:List Nat}:u[0]?≠some 32→RIm R u [] u
 | cons {v r' r:List Nat} {x:It} {xs:List It}:R v x r'→RIm R r' xs r→RIm R (32::v) (x::xs) r
theorem RIm.det{R:List Nat→It→List Nat→Prop}(hR:∀ u x r x' r',R u x r→R u x' r'→x=x'∧r=r'):∀{u r r':List Nat} {xs xs':List It},RIm R u xs r→RIm R u xs' r'→xs=xs'∧r=r':=by
 intro u r r' xs xs' h
 induction h generalizing xs' r' with
 | nil h =>
  intro g
  cases g with
  | nil _=>exact⟨rfl,rfl⟩
  | cons _ _=>exact absurd rfl h
 | cons a _ ih =>
  intro g
  cases g with
  | nil g=>exact absurd rfl g
  | cons b g =>
   obtain⟨rfl,rfl⟩:=hR _ _ _ _ _ a b
   exact⟨by rw[(ih g).1],(ih g).2⟩
def RI:Nat→List Nat→It→List Nat→Prop
 | _,u,.pth ss,r=>(u.drop (Ji u).length).take 2≠[42,40]∧∃ ns,ss=ofN (vlN (Ji u)::ns)∧PTr (u.drop (Ji u).length) ns r
 | 0,_,.tms _ _,_=>False
 | d+1,u,.tms n xs,r=>n=vlN (Ji u)∧∃ v x ys r',u.drop (Ji u).length=42::40::v∧xs=x::ys∧RI d v x r'∧RIm (RI d) r' ys (41::r)
theorem RI.det:∀(d:Nat) (u:List Nat) (x:It) (r:List Nat) (x':It) (r':List Nat),RI d u x r→RI d u x' r'→x=x'∧r=r':=by
 intro d
 induction d with
 | zero =>
  intro u x r x' r' h g
  cases x with
  | tms _ _=>exact h.elim
  | pth ss =>
   cases x' with
   | tms _ _=>exact g.elim
   | pth ss' =>
    obtain⟨_,ns,rfl,h⟩:=h
    obtain⟨_,ns',rfl,g⟩:=g
    have:=h.det g
    exact⟨by rw[this.1],this.2⟩
 | succ d ih =>
  intro u x r x' r' h g
  cases x with
  | pth ss =>
   cases x' with
   | pth ss' =>
    obtain⟨_,ns,rfl,h⟩:=h
    obtain⟨_,ns',rfl,g⟩:=g
    have:=h.det g
    exact⟨by rw[this.1],this.2⟩
   | tms _ _ =>
    obtain⟨_,v,x,ys,r1,e,_⟩:=g
    exact absurd (by rw[e];rfl) h.1
  | tms n xs =>
   cases x' with
   | pth ss' =>
    obtain⟨_,v,x,ys,r1,e,_⟩:=h
    exact absurd (by rw[e];rfl) g.1
   | tms n' xs' =>
    obtain⟨rfl,v,x,ys,r1,e,rfl,h1,h2⟩:=h
    obtain⟨rfl,v',x',ys',r1',e',rfl,g1,g2⟩:=g
    rw[e] at e'
    injection e' with _ e'
    injection e' with _ e'
    subst e'
    obtain⟨rfl,rfl⟩:=ih _ _ _ _ _ h1 g1
    obtain⟨rfl,e2⟩:=RIm.det ih h2 g2
    injection e2 with _ e2
    exact⟨rfl,e2⟩
def RIs (d:Nat)(u:List Nat)(xs:List It)(r:List Nat):Prop:=∃ x ys r',xs=x::ys∧RI d u x r'∧RIm (RI d) r' ys r
theorem RIs.det{d:Nat}{u r r':List Nat}{xs xs':List It}(h:RIs d u xs r)(g:RIs d u xs' r'):xs=xs'∧r=r':=by
 obtain⟨x,ys,r1,rfl,h1,h2⟩:=h
 obtain⟨x',ys',r1',rfl,g1,g2⟩:=g
 obtain⟨rfl,rfl⟩:=RI.det d _ _ _ _ _ h1 g1
 obtain⟨rfl,e2⟩:=RIm.det (RI.det d) h2 g2
 exact⟨rfl,e2⟩
def YJ (t:Adr)(d:Nat):Sp:=fun vs H Q E=>∃(r dx:Addr) (u:List Nat) (p e:Nat),vs=[.ref r,.int (e:Int)]∧e+d=8∧Rd t H r dx u p∧u.length≤5000 ∧
 (∀(li:Addr) (rs:List Addr) (xs:List It) (p':Nat) (H':Hp),Cj r H H'→Rd t H' r dx u p'→H li=none→H' li=some (.lst (rs.map V.ref))→Adp t H' (fun b=>H b=none) d rs xs→(∀ x∈xs,Gd d x)→xs≠[]→xs.length≤5000→p<p'→(u.drop p')[0]?≠some 32→RIs d (u.drop p) xs (u.drop p')→acc .start e (u.drop p)=ai e (u.drop p')→Q (.ref li) H') ∧
 (∀ H',Cj r H H'→acc .start e (u.drop p)=false→E (.ref t.BX) none H')
def Aei (t:Adr)(d:Nat):Sp:=fun vs H Q E=>∃(r dx:Addr) (u:List Nat) (p e:Nat),vs=[.ref r,.int (e:Int)]∧e+d=8∧Rd t H r dx u p∧u.length≤5000 ∧
 (∀(a:Addr) (x:It) (p':Nat) (H':Hp),Cj r H H'→Rd t H' r dx u p'→p<p'→H a=none→AtJ t H' (fun b=>H b=none) d a x→Gd d x→RI d (u.drop p) x (u.drop p')→acc .start e (u.drop p)=ai e (u.drop p')→Q (.ref a) H') ∧
 (∀ H',Cj r H H'→acc .start e (u.drop p)=false→E (.ref t.BX) none H')
def YK (t:Adr):Nat→Sp
 | 0=>fun vs H Q E=>∃(r dx:Addr) (u:List Nat) (p n:Nat),vs=[.ref r,.int (n:Int),.int ((9:Nat):Int)]∧Rd t H r dx u p∧∀ H',Cj r H H'→E (.ref t.BX) none H'
 | d+1=>fun vs H Q E=>∃(r dx:Addr) (u:List Nat) (p n e:Nat),vs=[.ref r,.int (n:Int),.int (e:Int)]∧e+d=8∧1≤e∧Rd t H r dx u p∧u.length≤5000∧n<100 ∧
   (∀(a:Addr) (xs:List It) (p':Nat) (H':Hp),Cj r H H'→Rd t H' r dx u p'→p≤p'→H a=none→1≤n→AtJ t H' (fun b=>H b=none) (d+1) a (.tms n xs)→Gd (d+1) (.tms n xs)→RIs d (u.drop p) xs (41::u.drop p')→acc .start e (u.drop p)=acc .closed (e-1) (u.drop p')→Q (.ref a) H') ∧
   (∀ H',Cj r H H'→n=0∨acc .start e (u.drop p)=false→E (.ref t.BX) none H')
theorem Aak(T:Txt K mg t)(Np:Be P w K mg base (CX1 P w) 1 t.Hi t.Hj ["reader", "depth"] (fun _ _ _ _=>False)):Be P w K mg base (CX1 P w) 3 t.Jy t.Jz ["reader", "count", "depth"] (YK t 0):=by
 refine T.JV.F.okX HS (fun vs H Q E h=>?_) (fun cdv A outer s H vs Q E hr h=>?_)
 ·obtain⟨r,dx,u,p,n,rfl,_⟩:=h
  rfl
 ·obtain⟨r,dx,u,p,n,rfl,hR,k⟩:=h
  refine⟨_,(Ac (Bs (Ay Ce (pv 1) Ai (Al _))
    (Af (Bx Cm rfl (fun _ _ z=>z) PySem.F.excBase_ValueError Ck PySem.F.excBase_ValueError T.Gr.q rfl T.J1 (Aa Ad Ab)))
    Ak)
   (Ac (Bs (Ay J7 (pv 2) (Ci (v:=.int 8) rfl T.Mx.choose_spec ⟨_,rfl⟩) (Al _))
    (Af (Bx Cm rfl (fun _ _ z=>z) PySem.F.excBase_ValueError Ck PySem.F.excBase_ValueError T.Gr.q rfl T.J1 (Aa Ad Ab)))
    Ak)
   (Ac (Aw (i:=3) HS.nd rfl (Or.inl rfl) (Aj (Np.mono (by omega)) hr rfl T.Ek.m T.Ek.F.kp T.Ek.b .nil BZ (Aa (pv 0) (Aa (pv 2) Ab))))
   (Ac (Bs (Dp (Cw (Dj (pv 0) T.Bo.c T.BL.m ((Dc T).mono (by omega)) hr T.BL.b .nil Bp (Aa Ad Ab))))
    (Af (Bx Cm rfl (fun _ _ z=>z) PySem.F.excBase_ValueError Ck PySem.F.excBase_ValueError T.Gr.q rfl T.J1 (Aa Ad Ab)))
    Ak)
   (Af (Am (Gw T.Ij.m ((KR T).mono (by omega)) hr rfl T.Afc T.Ey.b .nil Bp (Aa (pv 1) (Aa (pv 3) Ab))))))))),?_⟩
  refine⟨_,rfl,rfl,_,rfl,?_⟩
  refine Fe (fun _=>⟨by decide,k H (Ac1 (.refl _))⟩) (fun _=>?_)
  refine⟨_,rfl,_,_,rfl,rfl,_,rfl,?_⟩
  exact Eh (by decide) ⟨by decide,k H (Ac1 (.refl _))⟩
theorem Abx{k d:Nat}(hk:1≤k)(T:Txt K mg t)(Np:Be P w K mg base (CX1 P w) k t.Hi t.Hj ["reader", "depth"] (YJ t d)) :
  Be P w K mg base (CX1 P w) (k+2) t.Jy t.Jz ["reader", "count", "depth"] (YK t (d+1)):=by
 refine T.JV.F.okX HS (fun vs H Q E h=>?_) (fun cdv A outer s H vs Q E hr h=>?_)
 ·obtain⟨r,dx,u,p,n,e,rfl,_⟩:=h
  rfl
 ·obtain⟨r,dx,u,p,n,e,rfl,he,e1,hR,u9,n9,k1,k2⟩:=h
  refine⟨_,(Ac (Bs (Ay Ce (pv 1) Ai (Al _))
    (Af (Bx Cm rfl (fun _ _ z=>z) PySem.F.excBase_ValueError Ck PySem.F.excBase_ValueError T.Gr.q rfl T.J1 (Aa Ad Ab)))
    Ak)
   (Ac (Bs (Ay J7 (pv 2) (Ci (v:=.int 8) rfl T.Mx.choose_spec ⟨_,rfl⟩) (Al _))
    (Af (Bx Cm rfl (fun _ _ z=>z) PySem.F.excBase_ValueError Ck PySem.F.excBase_ValueError T.Gr.q rfl T.J1 (Aa Ad Ab)))
    Ak)
   (Ac (Aw (i:=3) HS.nd rfl (Or.inl rfl) (Aj (Np.mono (by omega)) hr rfl T.Ek.m T.Ek.F.kp T.Ek.b .nil BZ (Aa (pv 0) (Aa (pv 2) Ab))))
   (Ac (Bs (Dp (Cw (Dj (pv 0) T.Bo.c T.BL.m ((Dc T).mono (by omega)) hr T.BL.b .nil Bp (Aa Ad Ab))))
    (Af (Bx Cm rfl (fun _ _ z=>z) PySem.F.excBase_ValueError Ck PySem.F.excBase_ValueError T.Gr.q rfl T.J1 (Aa Ad Ab)))
    Ak)
   (Af (Am (Gw T.Ij.m ((KR T).mono (by omega)) hr rfl T.Afc T.Ey.b .nil Bp (Aa (pv 1) (Aa (pv 3) Ab))))))))),?_⟩
  refine⟨_,rfl,rfl,_,rfl,?_⟩
  refine Fe (fun z=>⟨by decide,k2 H (Ac1 (.refl _)) (.inl (by injection z with z;omega))⟩) (fun n0=>?_)
  have n1:1≤n:=by
   rcases Nat.eq_zero_or_pos n with z | z
   ·exact absurd (by rw[z];rfl) n0
   ·exact z
  refine⟨_,rfl,_,_,rfl,rfl,_,rfl,?_⟩
  refine Bq (fun z=>by omega) ?_
  refine⟨_,rfl,_,rfl,r,dx,u,p,e,rfl,he,hR,u9,fun li rs xs p' H1 s1 hR1 nli hli hA hG hne hxl hpp h32 hRI hac=>?_,fun H1 s1 hac=>k2 H1 s1 (.inr hac)⟩
  refine⟨_,rfl,r,dx,rf u _,rfl,hR1.1,(Dm u _).2.1,r,dx,u,p',[41],(by rw[AkQ];rfl),hR1,(by decide),fun YB=>?_,fun hno=>?_⟩
  ·refine⟨_,rfl,?_⟩
   refine Ez ?_
   have hdr:=AhU YB
   have hlt:=Ado hdr
   have hS:(upd H1 r (.ins t.Az dx (rf u (p'+[41].length)))) r=some (.ins t.Az dx (rf u (p'+[41].length))):=Ae
   have sB:Cj r H1 (upd H1 r (.ins t.Az dx (rf u (p'+[41].length)))):=Cj.upd
   generalize upd H1 r (.ins t.Az dx (rf u (p'+[41].length)))=H2 at hS sB ⊢
   have nlr:li≠r:=fun z=>by rw[z,hR.1] at nli;cases nli
   have AnX:=sB _ _ nlr hli
   have hA2:=hA.keep (Kp.but sB hR1.1 (Aj8 T) (Aj9 T))
   refine⟨_,rfl,_,rfl,fun x dx' hx hdx hnx=>⟨x,dx',li,n,rfl,Ae,rfl,?_⟩⟩
   rw[Ea]
   have s3:Ax H2 (upd (upd H2 dx' (.own x)) x (.ins t.DK dx' (tf n li))):=(Ax.upd hdx).over hx
   have hx2:(upd (upd H2 dx' (.own x)) x (.ins t.DK dx' (tf n li))) x=some (.ins t.DK dx' (tf n li)):=Ae
   generalize upd (upd H2 dx' (.own x)) x (.ins t.DK dx' (tf n li))=H3 at s3 hx2 ⊢
   have nxr:x≠r:=fun z=>by rw[z,hS] at hx;cases hx
   have sH:Cj r H H2:=s1.trans sB
   have l9:=hA2.len
   refine k1 x xs (p'+1) H3 (sH.trans (Ac1 s3)) ⟨s3 _ _ hS,hlt,hR.2.2⟩ ?_ (sH.none hx nxr) n1 ⟨dx',li,rs,hx2,s3 _ _ AnX,nli,by omega,l9,hA2.le,(hA2.keep (Kp.same s3)).at_⟩ ⟨n1,by omega,hne,hxl,hG⟩ (by rw[hdr] at hRI;exact hRI) ?_
   ·omega
   ·rw[hac,hdr]
    exact AhW e1
  ·refine⟨_,rfl,?_⟩
   refine Ed ?_
   have h41:=Adn hno
   refine⟨by decide,k2 H1 s1 (.inr ?_)⟩
   rw[hac]
   cases e9:u.drop p' with
   | nil=>exact decide_eq_false (by omega)
   | cons c v =>
    rw[e9] at h32 h41
    exact AjA (fun z=>h32 (by rw[z];rfl)) (fun z=>h41 (by rw[z];rfl))
theorem AhX{e:Nat}{v:List Nat}:ai e (32::v)=acc .start e v:=by
 show(if (32:Nat)=32 then acc .start e v else if (32:Nat)=41 then (if 0<e then acc .closed (e-1) v else false) else false)=acc .start e v
 rw[if_pos rfl]
theorem Am8{u:List Nat}{p:Nat}(h:(u.drop p).take [42,40].length=[42,40]):u.drop p=42::40::u.drop (p+2):=by
 cases e:u.drop p with
 | nil=>rw[e] at h;simp at h
 | cons a v =>
  cases v with
  | nil=>rw[e] at h;simp at h
  | cons b v =>
   rw[e] at h
   have:a=42∧b=40:=by simpa using h
   rw[← Aqc,e,this.1,this.2]
   rfl
theorem AhY{u v:List Nat}{p a b:Nat}(e:u.drop p=a::b::v):p+2≤u.length:=by
 have:=congrArg List.length e
 rw[ApD,Apz,Apz] at this
 omega
theorem Tq{k d:Nat}(hk:5≤k)(T:Txt K mg t)(Adq:Be P w K mg base (CX1 P w) k t.Jy t.Jz ["reader", "count", "depth"] (YK t d)) :
  Be P w K mg base (CX1 P w) (k+1) t.Qc t.Qd ["reader", "depth"] (Aei t d):=by
 refine T.HJ.F.okX Vm (fun vs H Q E h=>?_) (fun cdv A outer s H vs Q E hr h=>?_)
 ·obtain⟨r,dx,u,p,e,rfl,_⟩:=h
  rfl
 ·obtain⟨r,dx,u,p,e,rfl,he,hR,u9,k1,k2⟩:=h
  have fr:=Adm u p
  have fl:=Aj7 hR.2.1
  have np:=AfY (d:=e) (AhR (u:=u) (p:=p)) fr.2
  rw[← fr.1] at np
  refine⟨_,(Ac (Aw (i:=2) Vm.nd rfl (Or.inl rfl) (Aj ((Iw T).mono (by omega)) hr rfl T.Dz.m T.Dz.F.kp T.Dz.b .nil BZ (Aa (pv 0) Ab)))
   (Ac (Bs (Cw (Dj (pv 0) T.Bo.c T.BL.m ((Dc T).mono (by omega)) hr T.BL.b .nil Bp (Aa Ad Ab)))
    (Af (Am (Aj (Adq.mono (by omega)) hr rfl T.JV.m T.JV.F.kp T.JV.b .nil BZ (Aa (pv 0) (Aa (pv 2) (Aa (Bu Hc (pv 1) Ai) Ab))))))
    Ak)
   (Af (Am (Aj ((AbP T).mono (by omega)) hr rfl T.Rc.m T.Rc.F.kp T.Rc.b .nil BZ (Aa (pv 0) (Aa (pv 2) Ab))))))),?_⟩
  refine⟨_,rfl,r,dx,u,p,rfl,hR,fun n hok hn hz hv=>?_,fun AkP H' sb=>k2 H' sb (np.2 AkP)⟩
  have hac:=np.1 hok
  have hdrop:(u.drop p).drop (Ji (u.drop p)).length=u.drop (p+(fg u p).length):=by rw[Aqc];rfl
  have hpos:p<p+(fg u p).length:=by have:=hok.1.1;omega
  have hqf:=@AkO (fg u p)
  have hS:(upd H r (.ins t.Az dx (rf u (p+(fg u p).length)))) r=some (.ins t.Az dx (rf u (p+(fg u p).length))):=Ae
  have sB:Cj r H (upd H r (.ins t.Az dx (rf u (p+(fg u p).length)))):=Cj.upd
  generalize hp1:p+(fg u p).length=p1 at hac hS sB fl hpos fr np hdrop ⊢
  generalize hq:qS (fg u p)=q at hac hqf
  have qcl:q.cl=true∧q≠.closed:=by rw[← hq];exact Am5
  have back:∀ b,(upd H r (.ins t.Az dx (rf u p1))) b=none→H b=none:=fun b hb=>by
   by_cases hbr:b=r
   ·rw[hbr,hS] at hb;cases hb
   ·exact sB.none hb hbr
  generalize upd H r (.ins t.Az dx (rf u p1))=H1 at hS sB back ⊢
  refine⟨_,rfl,r,dx,rf u p1,rfl,hS,(Dm u _).2.1,r,dx,u,p1,[42,40],(by rw[Agc];rfl),⟨hS,fl,hR.2.2⟩,(by decide),fun YB=>?_,fun hno=>?_⟩
  ·refine⟨_,rfl,?_⟩
   refine Ed ?_
   have hdr:=Am8 YB
   have hlt:=AhY hdr
   have AnY:=hdrop.trans hdr
   rw[hdr,Aga] at hac
   have hS2:(upd H1 r (.ins t.Az dx (rf u (p1+[42,40].length)))) r=some (.ins t.Az dx (rf u (p1+[42,40].length))):=Ae
   have sB2:Cj r H1 (upd H1 r (.ins t.Az dx (rf u (p1+[42,40].length)))):=Cj.upd
   have AhZ:∀ b,(upd H1 r (.ins t.Az dx (rf u (p1+[42,40].length)))) b=none→H b=none:=fun b hb=>by
    by_cases hbr:b=r
    ·rw[hbr,hS2] at hb;cases hb
    ·exact back b (sB2.none hb hbr)
   generalize upd H1 r (.ins t.Az dx (rf u (p1+[42,40].length)))=H2 at hS2 sB2 AhZ ⊢
   refine⟨_,rfl,_,rfl,_,rfl,_,_,rfl,rfl,?_⟩
   cases d with
   | zero =>
    refine⟨r,dx,u,p1+2,n,?_,⟨hS2,hlt,hR.2.2⟩,fun H' sb=>k2 H' ((sB.trans sB2).trans sb) ?_⟩
    ·rw[show e=8 by omega];rfl
    ·rw[hac,if_neg (by omega)]
   | succ d =>
    refine⟨r,dx,u,p1+2,n,e+1,rfl,by omega,by omega,⟨hS2,hlt,hR.2.2⟩,u9,hn,fun a xs p' H' s1 hR1 hpp na n1 hA hG hRI AkS=>?_,fun H' sb hb=>k2 H' ((sB.trans sB2).trans sb) ?_⟩
    ·refine k1 a _ p' H' ((sB.trans sB2).trans s1) hR1 (by omega) (AhZ a na) (AtJ.imp (fun b hb _=>AhZ b hb) _ _ _ hA) hG ?_ ?_
     ·obtain⟨x,ys,r',rfl,q1,q2⟩:=hRI
      exact⟨hv,_,x,ys,r',AnY,rfl,q1,q2⟩
     rw[hac,if_pos ⟨hqf.mpr (fun z=>by have:=hz.mpr z;omega),by omega⟩,AkS]
     exact Aj6 rfl (fun z=>absurd rfl z) (fun z=>by rcases z with z | z <;> cases z)
    ·rw[hac]
     rcases hb with hb | hb
     ·exact if_neg fun z=>hqf.mp z.1 (hz.mp hb)
     ·rw[hb]
      split <;> rfl
  ·refine⟨_,rfl,?_⟩
   refine Ez ?_
   refine⟨_,rfl,_,rfl,r,dx,u,p1,n,q,e,rfl,⟨hS,fl,hR.2.2⟩,u9,hn,qcl.1,qcl.2,fr.2,fun _=>hno,fun a ns p' H' s1 hR1 hpp na hA hns hl hPT AkS=>?_,fun H' sb hb=>k2 H' (sB.trans sb) (by rw[hac,hb])⟩
   refine k1 a (.pth (ofN (n::ns))) p' H' (sB.trans s1) hR1 (by omega) (back a na) (by cases d <;> exact hA) ?_ ?_ (by rw[hac,AkS])
   case refine_2 =>
    have q:((u.drop p).drop (Ji (u.drop p)).length).take 2≠[42,40]∧∃ ns',ofN (n::ns)=ofN (vlN (Ji (u.drop p))::ns')∧PTr ((u.drop p).drop (Ji (u.drop p)).length) ns' (u.drop p'):=⟨by rw[hdrop];exact hno,ns,by rw[hv];rfl,by rw[hdrop];exact hPT⟩
    cases d <;> exact q
   have g:∃ n0 ns',ofN (n::ns)=ofN (n0::ns')∧(∀ m∈n0::ns',m<100)∧ns'.length≤5000:=⟨n,ns,rfl,fun m hm=>by
    rcases List.mem_cons.mp hm with z | z
    ·rw[z];exact hn
    ·exact hns m z,hl⟩
   cases d <;> exact g
end
section
variable {P:Program}{w:World}{K:PySem.W.Frag}{mg:Str→Option Value}{base:Heap}{t:Adr}
theorem QR{k d:Nat}(hk:1≤k)(T:Txt K mg t)(Z6:Be P w K mg base (CX1 P w) k t.Qc t.Qd ["reader", "depth"] (Aei t d)) :
  Be P w K mg base (CX1 P w) (k+1) t.Hi t.Hj ["reader", "depth"] (YJ t d):=by
 refine T.Ek.F.okX Sh (fun vs H Q E h=>?_) (fun cdv A outer s H vs Q E hr h=>?_)
 ·obtain⟨r,dx,u,p,e,rfl,_⟩:=h
  rfl
 ·obtain⟨r,dx,u,p,e,rfl,he,hR,u9,k1,k2⟩:=h
  refine⟨_,(Ac (Aw (i:=2) Sh.nd rfl (Or.inl rfl) (BJ (Aa (Aj (Z6.mono (by omega)) hr rfl T.HJ.m T.HJ.F.kp T.HJ.b .nil BZ (Aa (pv 0) (Aa (pv 1) Ab))) Ab)))
   (Ac (Pa fun hfr=>(Vg (AaA Cm hfr) (Cw (Dj (pv 0) T.Bo.c T.BL.m ((Dc T).mono (by omega)) hr T.BL.b .nil Bp (Aa Ad Ab)))
    (Af (Cq (G8 (K:=K) PySem.F.plainAttrs_list PySem.F.slot_list_append PySem.F.type_list_append Lj (pv 2) (Aa (Aj (Z6.mono (by omega)) hr rfl T.HJ.m T.HJ.F.kp T.HJ.b .nil BZ (Aa (pv 0) (Aa (pv 1) Ab))) Ab))))))
   (Af (Am (pv 2))))),?_⟩
  refine⟨_,rfl,_,rfl,r,dx,u,p,e,rfl,he,hR,u9,fun a x0 p1 H1 s1 hR1 hp1 na hA hG0 AnZ Aoa=>?_,fun H1 s1 hb=>k2 H1 s1 hb⟩
  refine⟨(by show 1≤sizeLine;decide),fun li hli=>?_⟩
  have s2:Ax H1 (upd H1 li (.lst [.ref a])):=.upd hli
  have hl2:(upd H1 li (.lst [.ref a])) li=some (.lst ([a].map V.ref)):=Ae
  have nlr:li≠r:=fun z=>by rw[z,hR1.1] at hli;cases hli
  have nli:H li=none:=s1.none hli nlr
  have a1:Adp t (upd H1 li (.lst [.ref a])) (fun b=>H b=none∧b≠li) d [a] [x0]:=⟨rfl,by simp,fun i b x e1 e2=>by
   cases i with
   | zero =>
    cases e1;cases e2
    exact AtJ.keep (Kp.same s2) d _ _ (AtJ.imp (fun b hb ⟨o,ho⟩=>⟨hb,fun z=>by rw[z,hli] at ho;cases ho⟩) d _ _ hA)
   | succ i=>simp at e1⟩
  generalize upd H1 li (.lst [.ref a])=H1' at s2 hl2 a1 ⊢
  refine⟨fun m σ H2=>∃(q:Nat) (rs:List Addr) (xs:List It),σ=[some (.ref r),some (.int (e:Int)),some (.ref li)]∧Cj r H H2∧Rd t H2 r dx u q∧p+xs.length≤q∧xs≠[]∧(∀ x∈xs,Gd d x)∧acc .start e (u.drop p)=ai e (u.drop q)∧H2 li=some (.lst (rs.map V.ref))∧Adp t H2 (fun b=>H b=none∧b≠li) d rs xs∧(∀ ys r,RIm (RI d) (u.drop q) ys r→RIs d (u.drop p) (xs++ys) r)∧m=u.length-q,
   ⟨_,p1,[a],[x0],rfl,s1.trans (Ac1 s2),⟨s2 _ _ hR1.1,hR1.2⟩,hp1,by simp,(fun x hx=>by rw[List.mem_singleton.mp hx];exact hG0),Aoa,hl2,a1,(fun ys r h=>⟨x0,ys,_,rfl,AnZ,h⟩),rfl⟩,?_⟩
  rintro m σ H2 ⟨q,rs,xs,rfl,s3,hR3,hq3,Am9,hG3,AiZ,hl3,hA3,AmA,rfl⟩
  have q9:=hR3.2.1
  refine⟨_,rfl,r,dx,rf u q,rfl,hR3.1,(Dm u _).2.1,r,dx,u,q,[32],(by rw[AkR];rfl),hR3,(by decide),fun YB=>?_,fun hno=>?_⟩
  ·refine⟨_,rfl,?_⟩
   refine Ed ?_
   have hdr:=AhU YB
   have hlt:=Ado hdr
   rw[hdr,AhX] at AiZ
   have hS4:(upd H2 r (.ins t.Az dx (rf u (q+[32].length)))) r=some (.ins t.Az dx (rf u (q+[32].length))):=Ae
   have hl4:(upd H2 r (.ins t.Az dx (rf u (q+[32].length)))) li=some (.lst (rs.map V.ref)):=by rw[Ao nlr];exact hl3
   have s4:Cj r H2 (upd H2 r (.ins t.Az dx (rf u (q+[32].length)))):=Cj.upd
   generalize upd H2 r (.ins t.Az dx (rf u (q+[32].length)))=H4 at hS4 hl4 s4 ⊢
   refine⟨_,fun σ' H' h=>h,?_⟩
   refine⟨_,rfl,.inl ⟨rfl,_,SqL.of hl4⟩,_,rfl,_,rfl,r,dx,u,q+1,e,rfl,he,⟨hS4,hlt,hR3.2.2⟩,u9,fun b y p5 H5 s5 hR5 hp5 nb hB hGy Aob Aoc=>?_,fun H5 s5 hb=>k2 H5 ((s3.trans s4).trans s5) (by rw[AiZ,hb])⟩
   have hl5:=s5 _ _ nlr hl4
   have p5l:=hR5.2.1
   have lrs:rs.length≤5000:=by
    have:=hA3.len
    omega
   refine⟨_,_,_,rfl,rfl,hl5,(by rw[Apx];exact Ac0 (by omega)),?_⟩
   have sB:Cj r H2 H5:=s4.trans s5
   have hA5:=hA3.keep (Kp.but sB hR3.1 (Aj8 T) (Aj9 T))
   have hB5:AtJ t H5 (fun b=>H b=none∧b≠li) d b y:=AtJ.imp (fun c hc _=>⟨(s3.trans s4).none hc (fun z=>by rw[z,hS4] at hc;cases hc),fun z=>by rw[z,hl4] at hc;cases hc⟩) d _ _ hB
   have nF:¬(H li=none∧li≠li):=fun z=>z.2 rfl
   have hA6:=(hA5.snoc hB5 (by omega)).keep (Kp.app (o:=.lst (rs.map V.ref++[V.ref b])) hl5 nF)
   refine⟨u.length-p5,by omega,p5,rs++[b],xs++[y],rfl,?_,⟨?_,hR5.2⟩,by rw[Apw,ApF];omega,by simp,?_,by rw[AiZ,Aoc],?_,hA6,(fun ys r h=>?_),rfl⟩
   ·intro c o hc ec
    rw[Ao (Bf ec nli)]
    exact sB c o hc (s3 c o hc ec)
   ·rw[Ao nlr.symm];exact hR5.1
   ·intro x hx
    rcases List.mem_append.mp hx with hx | hx
    ·exact hG3 x hx
    ·rw[List.mem_singleton.mp hx];exact hGy
   ·rw[Ae,Ap2];rfl
   ·rw[ApW]
    refine AmA _ _ ?_
    rw[hdr]
    exact RIm.cons Aob h
  ·refine⟨_,rfl,?_⟩
   refine Ez ?_
   have l0:1≤xs.length:=by
    cases xs with
    | nil=>exact absurd rfl Am9
    | cons _ _=>simp
   exact⟨_,rfl,k1 li rs xs q H2 s3 hR3 nli hl3 ⟨hA3.len,hA3.le,fun i r x e1 e2=>AtJ.imp (fun b hb _=>hb.1) d _ _ (hA3.at_ i r x e1 e2)⟩ hG3 Am9 (by omega) (by omega) (Adn hno) (by have:=AmA [] _ (RIm.nil (Adn hno));rw[Aqj] at this;exact this) AiZ⟩
theorem AkT{k:Nat}{CX:CXT}{f:Addr}{fd:FuncData}{ps:List Str}:Be P w K mg base CX k f fd ps (fun _ _ _ _=>False):=⟨fun _ _ _ _ h=>h.elim,fun _ _ _ _ _ _ _ _ _ _ _ _ _ h=>h.elim⟩
theorem Ac2(T:Txt K mg t):∀ d:Nat,Be P w K mg base (CX1 P w) (4*d+7) t.Hi t.Hj ["reader", "depth"] (YJ t d)
 | 0=>QR (k:=6) (by decide) T (Tq (k:=5) (by decide) T ((Aak T AkT).mono (by decide)))
 | d+1=>QR (k:=4*d+10) (by omega) T (Tq (k:=4*d+9) (by omega) T (Abx (k:=4*d+7) (by omega) T (Ac2 T d)))
def Wri (u:List Nat):Prop:=u=[]∨acc .start 0 u=true
def Prs (u:List Nat)(xs:List It):Prop:=(u=[]∧xs=[])∨(u≠[]∧RIs 8 u xs [])
theorem Prs.det{u:List Nat}{xs ys:List It}(h:Prs u xs)(g:Prs u ys):xs=ys:=by
 rcases h with h | h
 ·rcases g with g | g
  ·rw[h.2,g.2]
  ·exact absurd h.1 g.1
 ·rcases g with g | g
  ·exact absurd g.1 h.1
  ·exact(h.2.det g.2).1
def Aja (t:Adr):Sp:=fun vs H Q E=>∃ u:List Nat,vs=[.str (tx u)]∧u.length≤5000 ∧
 (∀(li:Addr) (rs:List Addr) (xs:List It) (H':Hp),Wri u→Ax H H'→H li=none→H' li=some (.lst (rs.map V.ref))→Aeg t H' 8 rs xs→(∀ x∈xs,Gd 8 x)→Prs u xs→Q (.ref li) H')∧(∀ H',¬Wri u→Ax H H'→E (.ref t.BX) none H')
theorem Ads(T:Txt K mg t):Be P w K mg base (CX1 P w) 40 t.AaT t.AaU ["text"] (Aja t):=by
 refine T.Wc.F.okX Ph (fun vs H Q E h=>?_) (fun cdv A outer s H vs Q E hr h=>?_)
 ·obtain⟨u,rfl,_⟩:=h
  rfl
 ·obtain⟨u,rfl,u9,k1,k2⟩:=h
  refine⟨_,(Ac (Bs (Ay Ce (pv 0) Ad (Al _))
    (Af (Am (BJ Ab)))
    Ak)
   (Ac (Aw (i:=1) Ph.nd rfl (Or.inl rfl) (Gw T.Bo.m ((Kf T).mono (by decide)) hr rfl T.AdU T.Dv.b .nil Bp (Aa (pv 0) Ab)))
   (Ac (Aw (i:=2) Ph.nd rfl (Or.inl rfl) (Aj ((Ac2 T 8).mono (by decide)) hr rfl T.Ek.m T.Ek.F.kp T.Ek.b .nil BZ (Aa (pv 1) (Aa Ai Ab))))
   (Ac (Bs (Dp (Cw (Li (pv 1) T.Bo.c T.DY.m ((Jh T).mono (by decide)) hr T.DY.b .nil Bp)))
    (Af (Bx Cm rfl (fun _ _ z=>z) PySem.F.excBase_ValueError Ck PySem.F.excBase_ValueError T.Gr.q rfl T.J1 (Aa Ad Ab)))
    Ak)
   (Af (Am (pv 2))))))),?_⟩
  refine⟨_,rfl,rfl,_,rfl,?_⟩
  by_cases eu:u=[]
  ·refine Eh (by rw[eu];exact congrArg V.str (by decide +kernel)) ?_
   refine⟨Ap7 _,fun li hli=>?_⟩
   exact k1 li [] [] _ (.inl eu) (.upd hli) hli Ae ⟨rfl,by simp,fun i r x e1 _=>by simp at e1⟩ (fun x hx=>by simp at hx) (.inl ⟨eu,rfl⟩)
  refine Bq (fun z=>?_) ?_
  ·injection z with z
   exact eu (Ld (z.trans (by decide +kernel)))
  refine⟨_,rfl,fun r dx hr1 hdx hne=>⟨r,dx,u,rfl,Ae,rfl,?_⟩⟩
  rw[Ea]
  have hR:Rd t (upd (upd H dx (.own r)) r (.ins t.Az dx (rf u 0))) r dx u 0:=⟨Ae,Ap7 _,by omega⟩
  have s1:Ax H (upd (upd H dx (.own r)) r (.ins t.Az dx (rf u 0))):=(Ax.upd hdx).over hr1
  generalize upd (upd H dx (.own r)) r (.ins t.Az dx (rf u 0))=H1 at hR s1 ⊢
  have s3:∀{H'},Cj r H1 H'→Ax H H':=fun s2 b o e=>s2 b o (Bf e hr1) (s1 b o e)
  refine⟨_,rfl,r,dx,u,0,0,rfl,by decide,hR,u9,fun li rs xs p' H' s2 hR' nli hli hA hG hxn hxl hpp h32 hRI hac=>?_,fun H' s2 hb=>k2 H' (fun z=>?_) (s3 s2)⟩
  ·rw[Aqg] at hac
   refine⟨_,rfl,r,dx,rf u p',rfl,hR'.1,(Dm u _).1,r,dx,u,p',rfl,hR',_,rfl,?_⟩
   by_cases ce:p'=u.length
   ·rw[decide_eq_true ce]
    refine Ez ?_
    rw[ce,Aqz] at hac
    exact⟨_,rfl,k1 li rs xs H' (.inr (by rw[hac];rfl)) (s3 s2) (s1.free nli) hli ⟨hA.len,hA.le,fun i r x e1 e2=>AtJ.to 8 _ _ (hA.at_ i r x e1 e2)⟩ hG (.inr ⟨eu,by rw[ce,Aqz,Aqg] at hRI;exact hRI⟩)⟩
   ·rw[decide_eq_false ce]
    refine Ed ⟨by decide,k2 H' (fun z=>?_) (s3 s2)⟩
    rcases z with z | z
    ·exact eu z
    ·rw[hac] at z
     cases e9:u.drop p' with
     | nil =>
      have h1:=congrArg List.length e9
      rw[ApD,ApX] at h1
      have h2:=hR'.2.1
      omega
     | cons c v =>
      rw[e9] at z h32
      by_cases c41:c=41
      ·rw[c41] at z
       have:ai 0 (41::v)=false:=rfl
       rw[this] at z
       cases z
      ·rw[AjA (fun q=>h32 (by rw[q];rfl)) c41] at z
       cases z
  ·rcases z with z | z
   ·exact eu z
   ·rw[Aqg,z] at hb
    cases hb
end
theorem Sms.AeJ:∀{xs:List It},(∀ x∈xs,x.Sm)→Sms xs
 | [],_=>by simp only [Sms]
 | x::xs,h=>by
  simp only [Sms]
  exact⟨h x ApB,Sms.AeJ fun y hy=>h y (Ap6 _ hy)⟩
theorem Gd.sm:∀(d:Nat) (x:It),Gd d x→x.Sm
 | d,.pth ss,h=>by
  have hG0:∃ n0 ns,ss=ofN (n0::ns)∧(∀ n∈n0::ns,n<100)∧ns.length≤5000:=by cases d <;> exact h
  obtain⟨n0,ns,rfl,hn,_⟩:=hG0
  simp only [It.Sm]
  refine⟨by simp[ofN],fun s hs=>?_⟩
  obtain⟨n,hn',rfl⟩:=List.mem_map.mp hs
  have:=hn n hn'
  show n≤400
  omega
 | 0,.tms n xs,h=>h.elim
 | d+1,.tms n xs,h=>by
  obtain⟨h1,_,_,_,h5⟩:=h
  simp only [It.Sm]
  exact⟨h1,Sms.AeJ fun y hy=>Gd.sm d y (h5 y hy)⟩
section
variable {P:Program}{w:World}{K:PySem.W.Frag}{mg:Str→Option Value}{base:Heap}{t:Adr}
structure Rw (u:List Nat) (xs:List It):Prop where
 w:Wri u
 g:∀ x∈xs,Gd 8 x
 r:Prs u xs
def Ajb (t:Adr):Sp:=fun vs H Q E=>∃ u:List Nat,vs=[.str (tx u)]∧u.length≤5000 ∧
 (∀ xs q H',Rw u xs→szs xs≤400→Ax H H'→H q=none→H' q=some (.lst (vI (nus xs)))→Q (.ref q) H')∧(∀ xs H',Rw u xs→400<szs xs→Ax H H'→E (.ref t.Bg) none H')∧(∀ H',¬Wri u→Ax H H'→E (.ref t.BX) none H')
theorem Xj(T:Txt K mg t):Be P w K mg base (CX1 P w) 41 t.AaR t.AaS ["text"] (Ajb t):=by
 refine T.JT.F.okX Zb (fun vs H Q E h=>?_) (fun cdv A outer s H vs Q E hr h=>?_)
 ·obtain⟨u,rfl,_⟩:=h
  rfl
 ·obtain⟨u,rfl,u9,k1,k2,k3⟩:=h
  refine⟨_,(Ac (Aw (i:=1) Zb.nd rfl (Or.inl rfl) (Aj ((Ads T).mono (by decide)) hr rfl T.Wc.m T.Wc.F.kp T.Wc.b .nil BZ (Aa (pv 0) Ab)))
   (Ac (Bs (Ay J7 (Aj ((AhM T 8).mono (by decide)) hr rfl T.G9.m T.G9.F.kp T.G9.b .nil Bp (Aa (pv 1) Ab)) (Ci (v:=.int 400) rfl T.Abe.choose_spec ⟨_,rfl⟩) (Al _))
    (Af (Bx Cm rfl (fun _ _ z=>z) PySem.F.excBase_ValueError Ck PySem.F.excBase_ValueError T.GC.q rfl T.T6 (Aa Ad Ab)))
    Ak)
   (Af (Am (Aj ((AhP T 8).mono (by decide)) hr rfl T.FQ.m T.FQ.F.kp T.FQ.b .nil Bp (Aa (pv 1) Ab)))))),?_⟩
  refine⟨_,rfl,u,rfl,u9,fun li rs xs H1 hw s1 nli hli hA hG hP=>?_,fun H1 hw s1=>k3 H1 hw s1⟩
  refine⟨_,rfl,li,rs,_,rfl,hli,hA,fun H2 s2=>?_⟩
  refine⟨_,_,rfl,rfl,_,rfl,?_⟩
  refine Fe (fun c=>?_) (fun c=>?_)
  ·exact⟨by decide,k2 xs H2 ⟨hw,hG,hP⟩ c (s1.trans s2)⟩
  ·have c':szs xs≤400:=Int.not_lt.mp c
   exact⟨_,rfl,li,rs,xs,rfl,s2 _ _ hli,hA.same s2,Sms.AeJ fun x hx=>Gd.sm 8 x (hG x hx),c',fun q H3 s3 nq hq=>k1 xs q H3 ⟨hw,hG,hP⟩ c' ((s1.trans s2).trans s3) ((s1.trans s2).free nq) hq⟩
def AmB (t:Adr):Sp:=fun vs H Q E=>∃(rs:List (List Nat)) (v:V) (kp:Addr),vs=[v,.ref kp]∧Wd 12 (.node Pat.DQ (rs.map Nd.run))∧AtN H (.node Pat.DQ (rs.map Nd.run)) v∧(wz Pat.DQ rs).length≤1000000∧Oc t H Q E (Acn rs) (wz Pat.DQ rs)
theorem Ajc{rs:List (List Nat)}(h:Wd 12 (.node Pat.DQ (rs.map Nd.run))):rs≠[]∧rs.length≤40:=by
 generalize hz:Nd.node Pat.DQ (rs.map Nd.run)=x at h
 cases h with
 | nam _=>cases hz
 | rows h1 h2 h3 =>
  rename_i rs'
  injection hz with _ e
  have:rs=rs':=by
   have:=congrArg (List.map fun x:Nd=>match x with | .run r=>r | _=>[]) e
   rw[Aqf,Aqf] at this
   simpa [Function.comp_def] using this
  rw[this]
  exact⟨h1,h2⟩
 | nums w _ _=>injection hz with e _;rcases w with rfl | rfl <;> exact absurd e (by decide)
 | one w _=>injection hz with e _;rcases w with rfl | rfl | rfl | rfl <;> exact absurd e (by decide)
 | two w _ _=>injection hz with e _;rcases w with rfl | rfl | rfl <;> exact absurd e (by decide)
 | tile _ _ _=>injection hz with e _;exact absurd e (by decide)
 | blk _ _ _=>injection hz with e _;exact absurd e (by decide)
theorem Ajd{d:Nat}{rs:List (List Nat)}:wr (d+1) (.node Pat.DQ (rs.map Nd.run))=wz Pat.DQ rs:=by
 show wz Pat.DQ ((rs.map Nd.run).map (wr d))=_
 rw[Aqf]
 congr 1
 exact(Aq2 fun r _=>Ahg).trans (List.map_id _)
theorem Afm{k:Nat}{f:Addr}{d:FuncData}{ps:List Str}:Be P w K mg base (CX1 P w) k f d ps (fun _ _ _ _=>False):=⟨fun _ _ _ _ h=>h.elim,fun _ _ _ _ _ _ _ _ _ _ _ _ _ h=>h.elim⟩
theorem Aby(T:Txt K mg t):Be P w K mg base (CX1 P w) 5 t.Gn t.Gp ["node", "known"] (AmB t):=by
 have Nq:Be P w K mg base (CX1 P w) 1 t.Gn t.Gp ["node", "known"] (fun _ _ _ _=>False):=Afm
 refine T.Cp.F.okX Fj (fun vs H Q E h=>?_) (fun cdv A outer s H vs Q E hr h=>?_)
 ·obtain⟨rs,v,kp,rfl,_⟩:=h
  rfl
 ·obtain⟨rs,v,kp,rfl,W,hv,hw,k0⟩:=h
  refine⟨_,(Ac (Bs (Ay Aay (CG (Du (K:=K)) (pv 0) Ai (fun _ _=>rfl)) La (Al _))
    (Af Fd)
    Ak)
   (Ac (AaF (i:=2) (E':=E) Cm (fun _ _ z=>z) (Dq.mk (Cg:=[1]) (Nc:=["thing", "known"]) rfl (by decide +kernel) (by decide +kernel) (Dr (sc0:=Ah Hf) rfl (by decide +kernel)) rfl rfl rfl (by decide +kernel) (fun k j h=>match k,h with | 0,h=>by obtain rfl:=Option.some.inj h;exact⟨_,rfl,rfl,rfl⟩ | _+1,h=>by simp at h)) rfl Fj.nd rfl rfl (DN (K:=K) (CG (Du (K:=K)) (pv 0) Ai (fun _ _=>rfl))) (fun _ _ _ _ _=>.nil) (fun _ _ _ _ _=>(Ve (Cw (Ar (Xz (K:=K)) rfl T.Bm Bb (Aa (pv 0) (Aa (Ep (v:=.ty "tuple") rfl T.AcW Aa7 rfl) Ab)))) (Aj (Nq.mono (by omega)) hr rfl T.Cp.m T.Cp.F.kp T.Cp.b .nil Ahd (Aa (pv 0) (Aa (pv 1) Ab))) (pv 0))) rfl)
   (Ac (Bs (Ay Ce (CG (Du (K:=K)) (pv 0) Ai (fun _ _=>rfl)) Ad (Al _))
    (Af (Am (Gw T.Abm.m ((Hq T).mono (by omega)) hr rfl T.Ae8 T.G4.b .nil BZ (Aa (pv 2) Ab))))
    Ak)
   (Ac (Bs (Ay Ce (Ar (BW (K:=K)) rfl T.DR Dk (Aa (pv 2) Ab)) Ai (Al _))
    (Af Fd)
    Ak)
   (Ac (Bs (Ay Ce (Ar (BW (K:=K)) rfl T.DR Dk (Aa (pv 2) Ab)) Ai (Al _))
    (Af Fd)
    Ak)
   (Af Fd)))))),?_⟩
  obtain⟨r1,r2⟩:=Ajc W
  generalize hz:Nd.node Pat.DQ (rs.map Nd.run)=x at hv
  cases hv with
  | num=>cases hz
  | run=>cases hz
  | nam ha=>cases hz
  | node ha hq hl hN =>
   rename_i z ts a q vs
   injection hz with ez et
   subst ez et
   have a0:atI [V.str (tx Pat.DQ),V.ref q] 0=some (.str (tx Pat.DQ)):=CJ (by decide) rfl
   have a1:atI [V.str (tx Pat.DQ),V.ref q] 1=some (.ref q):=CJ (by decide) rfl
   have ev:vs=vS rs:=by
    apply List.ext_getElem?
    intro i
    unfold vS
    rw[Ap8]
    rw[Apx] at hl
    cases e1:rs[i]? with
    | none=>exact Aqx (by have:=List.getElem?_eq_none_iff.mp e1;omega)
    | some r =>
     have hy:i<vs.length:=by have:=(List.getElem?_eq_some_iff.mp e1).1;omega
     have:=hN i (.run r) vs[i] (by rw[Ap8,e1];rfl) (Apy hy)
     rw[Apy hy]
     generalize vs[i]=yv at this ⊢
     cases this
     rfl
   subst ev
   refine⟨_,rfl,_,_,_,_,rfl,rfl,SqT.of ha,a1,rfl,_,rfl,?_⟩
   refine Bq (fun z=>nomatch z) ?_
   refine⟨_,rfl,_,_,_,_,rfl,rfl,SqT.of ha,a1,_,rfl,⟨_,SqL.of hq⟩,?_⟩
   refine Hw (K:=K) (a:=q) (xs:=vS rs) (fun i ys H2=>H2=H∧ys=vS (rs.take i)) ⟨rfl,rfl⟩ ?_ ?_ ?_ ?_
   ·rintro i ys H2 hi ⟨rfl,rfl⟩
    refine⟨SqL.of hq,?_⟩
    rw[JC,ApY]
    exact Nat.min_le_left _ _
   ·rw[JC]
    exact Ho r2
   ·rintro i xv ys H2 hi hx ⟨rfl,rfl⟩
    refine Eo.no ?_
    obtain⟨u,hu,rfl⟩:=Aey hx
    refine⟨_,rfl,_,_,false,.str _,.inl ⟨_,rfl,rfl⟩,_,rfl,?_⟩
    refine Ez ?_
    refine⟨_,rfl,?_⟩
    exact CN.of hi ⟨rfl,by rw[ApH,hu];unfold vS;rw[Ap2];rfl⟩
   ·rintro ys H2 l ⟨rfl,rfl⟩ hlN
    rw[JC,ApO]
    have u3:Ax H2 (upd H2 l (.lst (vS rs))):=.upd hlN
    have hl3:(upd H2 l (.lst (vS rs))) l=some (.lst (vS rs)):=Ae
    have k3:=k0.same u3
    generalize upd H2 l (.lst (vS rs))=H3 at u3 hl3 k3 ⊢
    refine⟨_,rfl,_,_,_,_,rfl,rfl,SqT.of (u3 _ _ ha),a0,rfl,_,rfl,?_⟩
    rw[Aat]
    refine Eh rfl ?_
    exact⟨_,rfl,fun r dx hr1 hdx hne=>⟨r,dx,l,rs,rfl,Ae,SqL.of (Abu hr1 hdx _ _ hl3),r1,r2,hw,Oc.make k3 (by simp[pcs]) hr1 hdx⟩⟩
def Aje (t:Adr):Sp:=fun vs H Q E=>∃(u:List Nat) (kp:Addr) (rs:List (List Nat)),vs=[.str (tx u),.ref kp]∧u.length≤1000000∧Pat.whole u=some (.node Pat.DQ (rs.map Nd.run))∧Oc t H Q E (Acn rs) (wz Pat.DQ rs)
theorem M7(T:Txt K mg t):Be P w K mg base (CX1 P w) 31 t.Hk t.Hl ["text", "known"] (Aje t):=by
 refine T.Cz.F.okX IV (fun vs H Q E h=>?_) (fun cdv A outer s H vs Q E hr h=>?_)
 ·obtain⟨u,kp,rs,rfl,_⟩:=h
  rfl
 ·obtain⟨u,kp,rs,rfl,hu,hw,k⟩:=h
  refine⟨_,(Af (Am (Aj ((Aby T).mono (by decide)) hr rfl T.Cp.m T.Cp.F.kp T.Cp.b .nil BZ (Aa (Aj ((Kh T).mono (by decide)) hr rfl T.Em.m T.Em.F.kp T.Em.b .nil BZ (Aa (pv 0) Ab)) (Aa (pv 1) Ab))))),?_⟩
  have W:=Ahi hw
  have wl:(wz Pat.DQ rs).length≤1000000:=by
   have:=W.2
   rw[show wr 12 (.node Pat.DQ (rs.map Nd.run))=wz Pat.DQ rs from Ajd] at this
   omega
  refine⟨_,rfl,u,rfl,hu,fun x v H1 e s1 hN=>?_,fun e H1 s1=>?_⟩
  ·rw[hw] at e
   injection e with e
   subst e
   exact⟨_,rfl,rs,v,kp,rfl,W.1,hN.mono (fun b o e=>(Z5 e).2),wl,k.same s1⟩
  ·rw[hw] at e
   cases e
end
def AkU (c:Nat):List Nat→List (List Nat)
 | []=>[[]]
 | a::u=>if a=c then []::AkU c u else match AkU c u with
  | []=>[[a]]
  | w::ws=>(a::w)::ws
def Apt (u:List Nat):List (List Nat):=(AkU 32 u).filter fun w=>decide (¬w=[])
theorem Abz(u:List Nat):(trim u).length≤u.length:=by
 unfold trim
 rw[Aql]
 refine ApA (Aqo _).length_le ?_
 rw[Aql]
 exact(Aqo _).length_le
section
variable {P:Program}{w:World}{K:PySem.W.Frag}{mg:Str→Option Value}{base:Heap}{t:Adr}
def AmC (t:Adr):Sp:=fun vs H _ E=>∃(z:List Nat) (a kp:Addr),vs=[.ref a,.ref kp]∧H a=some (.tup [.str (tx z),.non])∧Kn H kp []∧E (.ref t.Bv) none H
theorem Aej(T:Txt K mg t):Be P w K mg base (CX1 P w) 5 t.Gn t.Gp ["node", "known"] (AmC t):=by
 have Nq:Be P w K mg base (CX1 P w) 1 t.Gn t.Gp ["node", "known"] (fun _ _ _ _=>False):=Afm
 have HQ:Be P w K mg base CX0 1 t.Gm t.HH ["self", "name", "known_cloth"] (fun _ _ _ _=>False):=⟨fun _ _ _ _ h=>h.elim,fun _ _ _ _ _ _ _ _ _ _ _ _ _ h=>h.elim⟩
 refine T.Cp.F.okX Fj (fun vs H Q E h=>?_) (fun cdv A outer s H vs Q E hr h=>?_)
 ·obtain⟨z,a,kp,rfl,_⟩:=h
  rfl
 ·obtain⟨z,a,kp,rfl,ha,hK,k⟩:=h
  refine⟨_,(Ac (Bs (Ay Aay (CG (Du (K:=K)) (pv 0) Ai (fun _ _=>rfl)) La (Al _))
    (Af (Am (Gw T.Afg.m (HQ.mono (by omega)) hr rfl T.Afe T.M5.b .nil Bp (Aa (CG (Du (K:=K)) (pv 0) Ai (fun _ _=>rfl)) (Aa (Aj ((Ox T).mono (by omega)) hr rfl T.Ga.m T.Ga.F.kp T.Ga.b .nil BZ (Aa (CG (Du (K:=K)) (pv 0) Ai (fun _ _=>rfl)) (Aa (pv 1) Ab))) Ab)))))
    Ak)
   (Ac (AaF (i:=2) (E':=E) Cm (fun _ _ z=>z) (Dq.mk (Cg:=[1]) (Nc:=["thing", "known"]) rfl (by decide +kernel) (by decide +kernel) (Dr (sc0:=Ah Hf) rfl (by decide +kernel)) rfl rfl rfl (by decide +kernel) (fun k j h=>match k,h with | 0,h=>by obtain rfl:=Option.some.inj h;exact⟨_,rfl,rfl,rfl⟩ | _+1,h=>by simp at h)) rfl Fj.nd rfl rfl (DN (K:=K) (CG (Du (K:=K)) (pv 0) Ai (fun _ _=>rfl))) (fun _ _ _ _ _=>.nil) (fun _ _ _ _ _=>(Ve (Cw (Ar (Xz (K:=K)) rfl T.Bm Bb (Aa (pv 0) (Aa (Ep (v:=.ty "tuple") rfl T.AcW Aa7 rfl) Ab)))) (Aj (Nq.mono (by omega)) hr rfl T.Cp.m T.Cp.F.kp T.Cp.b .nil Ahd (Aa (pv 0) (Aa (pv 1) Ab))) (pv 0))) rfl)
   (Ac (Bs (Ay Ce (CG (Du (K:=K)) (pv 0) Ai (fun _ _=>rfl)) Ad (Al _))
    (Af (Am (Gw T.Abm.m ((Hq T).mono (by omega)) hr rfl T.Ae8 T.G4.b .nil BZ (Aa (pv 2) Ab))))
    Ak)
   (Ac (Bs (Ay Ce (Ar (BW (K:=K)) rfl T.DR Dk (Aa (pv 2) Ab)) Ai (Al _))
    (Af Fd)
    Ak)
   (Ac (Bs (Ay Ce (Ar (BW (K:=K)) rfl T.DR Dk (Aa (pv 2) Ab)) Ai (Al _))
    (Af Fd)
    Ak)
   (Af Fd)))))),?_⟩
  have a0:atI [V.str (tx z),V.non] 0=some (.str (tx z)):=CJ (by decide) rfl
  have a1:atI [V.str (tx z),V.non] 1=some .non:=CJ (by decide) rfl
  refine⟨_,rfl,_,_,_,_,rfl,rfl,SqT.of ha,a1,rfl,_,rfl,?_⟩
  refine Eh rfl ?_
  refine⟨_,rfl,_,_,_,_,rfl,rfl,SqT.of ha,a0,_,rfl,_,_,_,_,rfl,rfl,SqT.of ha,a0,_,rfl,z,kp,[],rfl,hK,fun xx q e hq=>?_,fun _=>k⟩
  cases e
def AmD (t:Adr):Sp:=fun vs H _ E=>∃(wd z:List Nat) (v:V) (kp:Addr),vs=[v,.ref kp]∧AtN H (.node wd [.nam z]) v∧Kn H kp []∧∀ H',Ax H H'→E (.ref t.Bv) none H'
theorem Ab0(T:Txt K mg t):Be P w K mg base (CX1 P w) 6 t.Gn t.Gp ["node", "known"] (AmD t):=by
 have HQ:Be P w K mg base CX0 1 t.Gm t.HH ["self", "name", "known_cloth"] (fun _ _ _ _=>False):=⟨fun _ _ _ _ h=>h.elim,fun _ _ _ _ _ _ _ _ _ _ _ _ _ h=>h.elim⟩
 refine T.Cp.F.okX Fj (fun vs H Q E h=>?_) (fun cdv A outer s H vs Q E hr h=>?_)
 ·obtain⟨wd,z,v,kp,rfl,_⟩:=h
  rfl
 ·obtain⟨wd,z,v,kp,rfl,hv,hK,k⟩:=h
  refine⟨_,(Ac (Bs (Ay Aay (CG (Du (K:=K)) (pv 0) Ai (fun _ _=>rfl)) La (Al _))
    (Af (Am (Gw T.Afg.m (HQ.mono (by omega)) hr rfl T.Afe T.M5.b .nil Bp (Aa (CG (Du (K:=K)) (pv 0) Ai (fun _ _=>rfl)) (Aa (Aj ((Ox T).mono (by omega)) hr rfl T.Ga.m T.Ga.F.kp T.Ga.b .nil BZ (Aa (CG (Du (K:=K)) (pv 0) Ai (fun _ _=>rfl)) (Aa (pv 1) Ab))) Ab)))))
    Ak)
   (Ac (AaF (i:=2) (E':=E) Cm (fun _ _ z=>z) (Dq.mk (Cg:=[1]) (Nc:=["thing", "known"]) rfl (by decide +kernel) (by decide +kernel) (Dr (sc0:=Ah Hf) rfl (by decide +kernel)) rfl rfl rfl (by decide +kernel) (fun k j h=>match k,h with | 0,h=>by obtain rfl:=Option.some.inj h;exact⟨_,rfl,rfl,rfl⟩ | _+1,h=>by simp at h)) rfl Fj.nd rfl rfl (DN (K:=K) (CG (Du (K:=K)) (pv 0) Ai (fun _ _=>rfl))) (fun _ _ _ _ _=>.nil) (fun _ _ _ _ _=>(Ve (Cw (Ar (Xz (K:=K)) rfl T.Bm Bb (Aa (pv 0) (Aa (Ep (v:=.ty "tuple") rfl T.AcW Aa7 rfl) Ab)))) (Aj ((Aej T).mono (by omega)) hr rfl T.Cp.m T.Cp.F.kp T.Cp.b .nil Ahd (Aa (pv 0) (Aa (pv 1) Ab))) (pv 0))) rfl)
   (Ac (Bs (Ay Ce (CG (Du (K:=K)) (pv 0) Ai (fun _ _=>rfl)) Ad (Al _))
    (Af (Am (Gw T.Abm.m ((Hq T).mono (by omega)) hr rfl T.Ae8 T.G4.b .nil BZ (Aa (pv 2) Ab))))
    Ak)
   (Ac (Bs (Ay Ce (Ar (BW (K:=K)) rfl T.DR Dk (Aa (pv 2) Ab)) Ai (Al _))
    (Af Fd)
    Ak)
   (Ac (Bs (Ay Ce (Ar (BW (K:=K)) rfl T.DR Dk (Aa (pv 2) Ab)) Ai (Al _))
    (Af Fd)
    Ak)
   (Af Fd)))))),?_⟩
  generalize hz:Nd.node wd [.nam z]=x at hv
  cases hv with
  | num=>cases hz
  | run=>cases hz
  | nam ha=>cases hz
  | node ha hq hl hN =>
   rename_i z' ts a q vs
   injection hz with ez et
   subst ez et
   have a1:atI [V.str (tx wd),V.ref q] 1=some (.ref q):=CJ (by decide) rfl
   obtain⟨v0,rfl⟩:∃ v0,vs=[v0]:=by
    match vs,hl with
    | [v0],_=>exact⟨v0,rfl⟩
   have h0:=hN 0 _ v0 rfl rfl
   generalize hz:Nd.nam z=x at h0
   cases h0 with
   | num=>cases hz
   | run=>cases hz
   | node=>cases hz
   | nam hb =>
    injection hz with ez
    subst ez
    rename_i b
    refine⟨_,rfl,_,_,_,_,rfl,rfl,SqT.of ha,a1,rfl,_,rfl,?_⟩
    refine Bq (fun z=>nomatch z) ?_
    refine⟨_,rfl,_,_,_,_,rfl,rfl,SqT.of ha,a1,_,rfl,⟨_,SqL.of hq⟩,?_⟩
    refine Hw (K:=K) (a:=q) (xs:=[.ref b]) (fun i ys H2=>i=0∧H2=H∧ys=[]) ⟨rfl,rfl,rfl⟩ ?_ ?_ ?_ ?_
    ·rintro i ys H2 hi ⟨rfl,rfl,rfl⟩
     exact⟨SqL.of hq,Apv _⟩
    ·show 1≤sizeLine
     decide
    ·rintro i xv ys H2 hi hx ⟨rfl,rfl,rfl⟩
     refine Eo.no ?_
     injection hx with hx
     subst hx
     refine⟨_,rfl,_,_,true,.tup hb,.inl ⟨_,rfl,AhF K "tuple"⟩,_,rfl,?_⟩
     refine Ed ?_
     exact⟨_,rfl,_,rfl,z,b,kp,rfl,hb,hK,k _ (.refl _)⟩
    ·rintro ys H2 l ⟨h,_⟩ hlN
     cases h
def AkV (t:Adr):Sp:=fun vs H _ E=>∃(u:List Nat) (kp:Addr),vs=[.str (tx u),.ref kp]∧u.length≤1000000∧Pat.whole u=none∧∀ H',Ax H H'→E (.ref t.Av) none H'
theorem Ac3(T:Txt K mg t):Be P w K mg base (CX1 P w) 31 t.Hk t.Hl ["text", "known"] (AkV t):=by
 refine T.Cz.F.okX IV (fun vs H Q E h=>?_) (fun cdv A outer s H vs Q E hr h=>?_)
 ·obtain⟨u,kp,rfl,_⟩:=h
  rfl
 ·obtain⟨u,kp,rfl,hu,hw,k⟩:=h
  refine⟨_,(Af (Am (Aj ((Ab0 T).mono (by decide)) hr rfl T.Cp.m T.Cp.F.kp T.Cp.b .nil BZ (Aa (Aj ((Kh T).mono (by decide)) hr rfl T.Em.m T.Em.F.kp T.Em.b .nil BZ (Aa (pv 0) Ab)) (Aa (pv 1) Ab))))),?_⟩
  refine⟨_,rfl,u,rfl,hu,fun x v H1 e s1 hN=>?_,fun e H1 s1=>k H1 s1⟩
  rw[hw] at e
  cases e
def AkW (t:Adr):Sp:=fun vs H _ E=>∃(u wd z:List Nat) (kp:Addr),vs=[.str (tx u),.ref kp]∧u.length≤1000000∧Pat.whole u=some (.node wd [.nam z])∧Kn H kp []∧∀ H',Ax H H'→E (.ref t.Bv) none H'
theorem Ab1(T:Txt K mg t):Be P w K mg base (CX1 P w) 31 t.Hk t.Hl ["text", "known"] (AkW t):=by
 refine T.Cz.F.okX IV (fun vs H Q E h=>?_) (fun cdv A outer s H vs Q E hr h=>?_)
 ·obtain⟨u,wd,z,kp,rfl,_⟩:=h
  rfl
 ·obtain⟨u,wd,z,kp,rfl,hu,hw,hK,k⟩:=h
  refine⟨_,(Af (Am (Aj ((Ab0 T).mono (by decide)) hr rfl T.Cp.m T.Cp.F.kp T.Cp.b .nil BZ (Aa (Aj ((Kh T).mono (by decide)) hr rfl T.Em.m T.Em.F.kp T.Em.b .nil BZ (Aa (pv 0) Ab)) (Aa (pv 1) Ab))))),?_⟩
  refine⟨_,rfl,u,rfl,hu,fun x v H1 e s1 hN=>?_,fun e H1 s1=>?_⟩
  ·rw[hw] at e
   injection e with e
   subst e
   exact⟨_,rfl,wd,z,v,kp,rfl,hN.mono (fun b o e=>(Z5 e).2),hK.same s1,fun H2 s2=>k H2 (s1.trans s2)⟩
  ·rw[hw] at e
   cases e
theorem DP{i:Nat}{v v':V}{σ σ':St}{H:Hp}{Kt:St→Hp→Prop}(ev:v=v')(h:σ.set i (some v')=σ')(k:Kt σ' H):YT i v σ H Kt:=by subst ev;subst h;exact k
theorem YL:(Str.ofString " ")=tx [32]:=by decide +kernel
theorem Agd:(Str.ofString "\n")=tx [10]:=by decide +kernel
theorem Age:(Str.ofString ";")=tx [59]:=by decide +kernel
theorem Ac4:(Str.ofString "=")=tx [61]:=by decide +kernel
theorem Agf:(Str.ofString "=:")=tx [61,58]:=by decide +kernel
theorem Agg:(Str.ofString "")=tx []:=by decide +kernel
theorem Agh{u:List Nat}{k:Nat}(h:k≤u.length):Vj u (some (k:Int)) none=u.drop k:=by
 unfold Vj
 rw[HT.QV,Aqp h]
 exact ApS (by rw[ApD];exact Apv _)
theorem Ab2{c A B:Prop}[Decidable c](hc:¬c)(h:A):if (!decide c)=true then A else B:=by rw[decide_eq_false hc];exact Ed h
def AkX:Sp:=fun vs H Q _=>∃(a b:List Nat) (c:Nat),vs=[.str (tx (a++c::b))]∧(∀ x∈a,¬(x=61∨x=58))∧(c=61∨c=58)∧∀ H',Ax H H'→Q (.int (a.length:Int)) H'
theorem KY(T:Txt K mg t):Be P w K mg base (CX1 P w) 1 t.Oj t.Ol ["line"] AkX:=by
 refine T.En.F.okX HB (fun vs H Q E h=>?_) (fun cdv A outer s H vs Q E hr h=>?_)
 ·obtain⟨a,b,c,rfl,_⟩:=h
  rfl
 ·obtain⟨a,b,c,rfl,ha,hc,k⟩:=h
  refine⟨_,(Ac (PS.nox (GZ PassesOwn.never rfl (AgY rfl T.AdR (Aa (pv 0) Ab)) (Agq rfl (Vf (Eb (i:=1) HB.nd rfl (Or.inl rfl)) (Vf (Eb (i:=2) HB.nd rfl (Or.inl rfl)) AeK)))
    (Af (Bs (Ay Xu (pv 2) Ad rfl)
     (Af (Am (pv 1)))
     Ak))))
   (Af (Bx Cm rfl (fun _ _ z=>z) PySem.F.excBase_ValueError Ck PySem.F.excBase_ValueError T.Ca.q rfl T.Cv (Aa Ad Ab)))),?_⟩
  rw[Agf]
  refine⟨_,rfl,_,rfl,AfF (u:=a++c::b) (fun i σ H2=>∃ v1 v2,σ=[some (.str (tx (a++c::b))),v1,v2]∧Ax H H2∧i≤a.length) ⟨none,none,rfl,.refl _,Ap7 _⟩ ?_ ?_⟩
  ·rintro i x σ H2 T0 hx ⟨v1,v2,rfl,s2,hi⟩ hT
   refine⟨T0,_,rfl,SqT.of Ae,rfl,_,_,rfl,_,_,rfl,rfl,?_⟩
   have s3:Ax H (upd H2 T0 (.tup [.int (i:Int),.str (tx [x])])):=s2.new hT
   generalize upd H2 T0 (.tup [.int (i:Int),.str (tx [x])])=H3 at s3 ⊢
   refine⟨_,rfl,_,_,rfl,rfl,?_⟩
   rw[← AgD,Abn]
   refine⟨_,rfl,?_⟩
   by_cases e:i=a.length
   ·subst e
    rw[ApV (Apv _),Aqy] at hx
    injection hx with hx
    subst hx
    refine Eh (by rcases hc with rfl | rfl <;> decide) ?_
    exact⟨_,rfl,k _ s3⟩
   ·have hi2:i<a.length:=by omega
    rw[ApZ hi2] at hx
    have:=ha x (ApP hx)
    refine Bq (fun z=>this ?_) ⟨_,_,rfl,s3,hi2⟩
    simpa using z
  ·rintro σ H2 ⟨v1,v2,rfl,s2,hi⟩
   rw[Apw,Apz] at hi
   omega
theorem Aia(T:Txt K mg t){H:Hp}{p:Addr}{x:List (List Nat)}{z:List Nat}{Q:VK}{E:XK}(hp:Pc t H p x z)(k:∀ l,H l=none→Q (.ref l) (upd H l (.lst (vS x)))):∃ a dx fs C,(V.ref p)=.ref a∧H a=some (.ins C dx fs)∧fs.lookup ("cloth" : Str)=none∧Cls K C∧Meth K C "cloth" t.Fo∧Aeb t [.ref p] H Q E:=by
 obtain⟨D,dx,l,hC,h1,h2⟩:=id hp
 exact⟨p,dx,_,D,rfl,h1,(AiQ _ _).2.2.2.1,(pcC T hC).c,(pcC T hC).Am3,p,x,z,rfl,hp,k⟩
def Lok (kn:Kns)(l:List Nat)(p:List Nat × List (List Nat)):Prop:=∃ a b,l=a++61::b∧(∀ x∈a,¬(x=61∨x=58))∧trim a=p.1∧Pat.isName p.1=true∧(∀ q∈kn,¬q.1=p.1)∧Pat.whole (trim b)=some (.node Pat.DQ (p.2.map Nd.run))∧Acn p.2=.ok p.2
inductive Bk:Kns→List (List Nat)→Kns→Prop
 | nil {kn:Kns}:Bk kn [] kn
 | skip {kn kn':Kns} {l:List Nat} {ls:List (List Nat)}:trim l=[]∨(trim l).head?=some 59→Bk kn ls kn'→Bk kn (l::ls) kn'
 | line {kn kn':Kns} {l:List Nat} {ls:List (List Nat)} {p:List Nat × List (List Nat)}:¬(trim l).head?=some 59→Lok kn (trim l) p→Bk (kn++[p]) ls kn'→Bk kn (l::ls) kn'
def Aib (t:Adr):Sp:=fun vs H Q _=>∃(l:List Nat) (kp:Addr) (kn:Kns) (p:List Nat × List (List Nat)),vs=[.str (tx l),.ref kp]∧l.length≤1000000∧Kn H kp kn∧kn.length≤1000∧Lok kn l p∧∀ a q H',Ax H H'→nw H H' a=some (.tup [.str (tx p.1),.ref q])→nw H H' q=some (.lst (vS p.2))→Q (.ref a) H'
theorem AbQ(T:Txt K mg t):Be P w K mg base (CX1 P w) 32 t.Qi t.Qj ["line", "known"] (Aib t):=by
 refine T.Mw.F.okX Ei (fun vs H Q E h=>?_) (fun cdv A outer s H vs Q E hr h=>?_)
 ·obtain⟨l,kp,kn,p,rfl,_⟩:=h
  rfl
 ·obtain⟨l,kp,kn,⟨nm,rs⟩,rfl,hl,hK,hkl,⟨a,b,rfl,ha,ena,hnm,hno,hw,hr2⟩,k⟩:=h
  refine⟨_,(Ac (Aw (i:=2) Ei.nd rfl (Or.inl rfl) (Aj ((KY T).mono (by decide)) hr rfl T.En.m T.En.F.kp T.En.b .nil BZ (Aa (pv 0) Ab)))
   (Ac (Aw (i:=3) Ei.nd rfl (Or.inr rfl) (G8 (K:=K) PySem.F.plainAttrs_str PySem.F.slot_str_strip PySem.F.type_str_strip Pb (J9 X3 (pv 0) Vh (Jq (pv 2))) (Aa Ad Ab)))
   (Ac (Bs (Dp (Cw (Aj ((Nk T).mono (by decide)) hr rfl T.Gq.m T.Gq.F.kp T.Gq.b .nil Bp (Aa (pv 3) Ab))))
    (Af (Bx Cm rfl (fun _ _ z=>z) PySem.F.excBase_ValueError Ck PySem.F.excBase_ValueError T.Ca.q rfl T.Cv (Aa Ad Ab)))
    Ak)
   (Ac (Bs (Cw (Ar (X5 (K:=K)) rfl T.Ahn Aex (Aa (PE.nox (M9 (Dq.mk (Cg:=[3]) (Nc:=["pair", "name"]) rfl (by decide +kernel) (by decide +kernel) (Dr (sc0:=Ah Kq) rfl (by decide +kernel)) rfl rfl rfl (by decide +kernel) (fun k j h=>match k,h with | 0,h=>by obtain rfl:=Option.some.inj h;exact⟨_,rfl,rfl,rfl⟩ | _+1,h=>by simp at h)) rfl (DN (K:=K) (pv 1)) (fun _ _ _ _ _=>.nil) (fun _ _ _ _ _=>(BP Ce (CG (Du (K:=K)) (pv 0) Ai (fun _ _=>rfl)) (pv 1) (Al _))))) Ab)))
    (Af (Bx Cm rfl (fun _ _ z=>z) PySem.F.excBase_ValueError Ck PySem.F.excBase_ValueError T.Nh.q rfl T.Ada (Aa Ad Ab)))
    Ak)
   (Ac (Aw (i:=4) Ei.nd rfl (Or.inl rfl) (G8 (K:=K) PySem.F.plainAttrs_str PySem.F.slot_str_strip PySem.F.type_str_strip Pb (J9 X3 (pv 0) (Jq (Bu Hc (pv 2) Ai)) Vh) (Aa Ad Ab)))
   (Ac (Bs (Ay Ce (CG Aa3 (pv 0) (pv 2) (fun _ _=>rfl)) Ad (Al _))
    (Af (Am (Tt (Aa (pv 3) (Aa (AdL (K:=K) rfl (Aj ((M7 T).mono (by decide)) hr rfl T.Cz.m T.Cz.F.kp T.Cz.b .nil BZ (Aa (pv 4) (Aa (pv 1) Ab))) ((QM T).mono (by decide)) hr T.Lg.b Bp) Ab)))))
    Ak)
   (Af Fd))))))),?_⟩
  dsimp only at ena hnm hno hw hr2 k
  rw[YL,Ac4]
  have hsz:sizeLine=16777216:=sizeLine_eq
  have hl2:=hl
  rw[Apw,Apz] at hl2
  refine⟨_,rfl,a,b,61,rfl,ha,.inl rfl,fun H1 s1=>?_⟩
  refine DP rfl rfl ?_
  have ec:Vj (a++61::b) none (some (a.length:Int))=a:=by
   unfold Vj
   rw[HT.Aa2,HT.QV,Aqp (by simp),Nat.sub_zero,Aqg,Aq5 (Apv _),ApO]
  refine⟨_,rfl,_,rfl,_,rfl,_,rfl,big hl,?_⟩
  rw[ec]
  refine⟨rfl,_,_,rfl,rfl,(by rw[BK];omega),?_⟩
  rw[Vk,ena]
  refine DP rfl rfl ?_
  have hnl:nm.length≤1000000:=by have:=Abz a;rw[ena] at this;omega
  refine⟨_,rfl,nm,rfl,hnl,fun H2 s2=>⟨_,rfl,?_⟩⟩
  rw[hnm]
  refine Ez ?_
  have u2:=s1.trans s2
  obtain⟨as,k1,k2,k3⟩:=hK.same u2
  refine⟨_,rfl,_,rfl,⟨_,SqL.of k1⟩,Hw (K:=K) (a:=kp) (xs:=as.map V.ref) (fun i ys G=>G=H2∧ys=vB (List.replicate i false)) ⟨rfl,rfl⟩ ?_ ?_ ?_ ?_⟩
  ·rintro i ys G hi ⟨rfl,rfl⟩
   refine⟨SqL.of k1,?_⟩
   rw[Fv,Ap9]
   exact Apv _
  ·rw[Apx,k2];omega
  ·rintro i xv ys G hi hx ⟨rfl,rfl⟩
   rw[Ap8] at hx
   cases ea:as[i]? with
   | none=>rw[ea] at hx;cases hx
   | some q =>
    rw[ea] at hx
    cases hx
    have hi2:i<kn.length:=by rw[← k2];exact(List.getElem?_eq_some_iff.mp ea).1
    obtain⟨q2,e1,e2⟩:=k3 i q _ ea (Apy hi2)
    have:=hno kn[i] (ApR hi2)
    refine Eo.no ?_
    refine⟨_,rfl,_,_,_,_,rfl,rfl,SqT.of e1,CJ (by decide) rfl,_,rfl,rfl,?_⟩
    rw[decide_eq_false (Afj this)]
    exact CN.of hi ⟨rfl,by rw[FP,List.replicate_succ']⟩
  ·rintro ys G q ⟨rfl,rfl⟩ hq
   refine⟨_,_,rfl,SqL.of Ae,?_⟩
   rw[show((List.replicate (as.map V.ref).length false).any id)=false by rw[List.any_eq_false];intro x hx;rw[AqB hx];decide]
   have u3:Ax H (upd G q (.lst (vB (List.replicate (as.map V.ref).length false)))):=u2.new hq
   generalize upd G q (.lst (vB (List.replicate (as.map V.ref).length false)))=H3 at u3 ⊢
   refine⟨_,rfl,Ez ?_⟩
   have ed:Vj (a++61::b) (some ((a.length:Int)+1)) none=b:=by
    rw[show((a.length:Int)+1)=((a.length+1:Nat):Int) by omega,Agh (by simp),List.drop_append]
    simp
   refine⟨_,rfl,_,rfl,_,_,rfl,rfl,_,rfl,_,rfl,big hl,?_⟩
   rw[ed]
   refine⟨rfl,_,_,rfl,rfl,(by rw[BK];omega),?_⟩
   rw[Vk]
   refine DP rfl rfl ?_
   refine⟨_,rfl,_,rfl,_,_,61,rfl,rfl,(by rw[BK];exact big hl),CJ (by omega) (by rw[Eg,ApK,ApV (Apv _),Aqy];rfl),rfl,_,rfl,?_⟩
   refine Eh rfl ?_
   have tb:=Abz b
   refine⟨_,rfl,_,rfl,_,rfl,trim b,kp,rs,rfl,(by omega),hw,?_⟩
   rw[hr2]
   intro pc H4 s4 hp
   have hp':=hp.mono (fun b o e=>(Z5 e).2)
   refine Aia T hp' fun l9 hl9=>?_
   have u4:=u3.trans s4
   have u5:Ax H (upd H4 l9 (.lst (vS rs))):=u4.new hl9
   have h5:(upd H4 l9 (.lst (vS rs))) l9=some (.lst (vS rs)):=Ae
   have n9:H l9=none:=u4.free hl9
   generalize upd H4 l9 (.lst (vS rs))=H5 at u5 h5 ⊢
   refine⟨(by show 2≤sizeLine;decide),fun q9 hq9=>?_⟩
   have u6:Ax H (upd H5 q9 (.tup [.str (tx nm),.ref l9])):=u5.new hq9
   refine k q9 l9 _ u6 ?_ ?_
   ·rw[Tn (u5.free hq9)];exact Ae
   ·rw[Tn n9,Ao (Bf h5 hq9)];exact h5
def AkY (t:Adr):Sp:=fun vs H _ E=>∃(a b nm:List Nat) (kp:Addr) (rs:List (List Nat)),vs=[.str (tx (a++61::b)),.ref kp]∧(a++61::b).length≤1000000∧(∀ x∈a,¬(x=61∨x=58))∧trim a=nm∧Pat.isName nm=true∧Kn H kp [(nm,rs)]∧∀ H',Ax H H'→E (.ref t.Cd) none H'
theorem Ajf(T:Txt K mg t):Be P w K mg base (CX1 P w) 32 t.Qi t.Qj ["line", "known"] (AkY t):=by
 refine T.Mw.F.okX Ei (fun vs H Q E h=>?_) (fun cdv A outer s H vs Q E hr h=>?_)
 ·obtain⟨a,b,nm,kp,rs,rfl,_⟩:=h
  rfl
 ·obtain⟨a,b,nm,kp,rs,rfl,hl,ha,ena,hnm,hK,k⟩:=h
  refine⟨_,(Ac (Aw (i:=2) Ei.nd rfl (Or.inl rfl) (Aj ((KY T).mono (by decide)) hr rfl T.En.m T.En.F.kp T.En.b .nil BZ (Aa (pv 0) Ab)))
   (Ac (Aw (i:=3) Ei.nd rfl (Or.inr rfl) (G8 (K:=K) PySem.F.plainAttrs_str PySem.F.slot_str_strip PySem.F.type_str_strip Pb (J9 X3 (pv 0) Vh (Jq (pv 2))) (Aa Ad Ab)))
   (Ac (Bs (Dp (Cw (Aj ((Nk T).mono (by decide)) hr rfl T.Gq.m T.Gq.F.kp T.Gq.b .nil Bp (Aa (pv 3) Ab))))
    (Af (Bx Cm rfl (fun _ _ z=>z) PySem.F.excBase_ValueError Ck PySem.F.excBase_ValueError T.Ca.q rfl T.Cv (Aa Ad Ab)))
    Ak)
   (Ac (Bs (Cw (Ar (X5 (K:=K)) rfl T.Ahn Aex (Aa (PE.nox (M9 (Dq.mk (Cg:=[3]) (Nc:=["pair", "name"]) rfl (by decide +kernel) (by decide +kernel) (Dr (sc0:=Ah Kq) rfl (by decide +kernel)) rfl rfl rfl (by decide +kernel) (fun k j h=>match k,h with | 0,h=>by obtain rfl:=Option.some.inj h;exact⟨_,rfl,rfl,rfl⟩ | _+1,h=>by simp at h)) rfl (DN (K:=K) (pv 1)) (fun _ _ _ _ _=>.nil) (fun _ _ _ _ _=>(BP Ce (CG (Du (K:=K)) (pv 0) Ai (fun _ _=>rfl)) (pv 1) (Al _))))) Ab)))
    (Af (Bx Cm rfl (fun _ _ z=>z) PySem.F.excBase_ValueError Ck PySem.F.excBase_ValueError T.Nh.q rfl T.Ada (Aa Ad Ab)))
    Ak)
   (Ac (Aw (i:=4) Ei.nd rfl (Or.inl rfl) (G8 (K:=K) PySem.F.plainAttrs_str PySem.F.slot_str_strip PySem.F.type_str_strip Pb (J9 X3 (pv 0) (Jq (Bu Hc (pv 2) Ai)) Vh) (Aa Ad Ab)))
   (Ac (Bs (Ay Ce (CG Aa3 (pv 0) (pv 2) (fun _ _=>rfl)) Ad (Al _))
    (Af (Am (Tt (Aa (pv 3) (Aa (AdL (K:=K) rfl (Aj ((M7 T).mono (by decide)) hr rfl T.Cz.m T.Cz.F.kp T.Cz.b .nil BZ (Aa (pv 4) (Aa (pv 1) Ab))) ((QM T).mono (by decide)) hr T.Lg.b Bp) Ab)))))
    Ak)
   (Af Fd))))))),?_⟩
  rw[YL,Ac4]
  have hsz:sizeLine=16777216:=sizeLine_eq
  have hl2:=hl
  rw[Apw,Apz] at hl2
  refine⟨_,rfl,a,b,61,rfl,ha,.inl rfl,fun H1 s1=>?_⟩
  refine DP rfl rfl ?_
  have ec:Vj (a++61::b) none (some (a.length:Int))=a:=by
   unfold Vj
   rw[HT.Aa2,HT.QV,Aqp (by simp),Nat.sub_zero,Aqg,Aq5 (Apv _),ApO]
  refine⟨_,rfl,_,rfl,_,rfl,_,rfl,big hl,?_⟩
  rw[ec]
  refine⟨rfl,_,_,rfl,rfl,(by rw[BK];omega),?_⟩
  rw[Vk,ena]
  refine DP rfl rfl ?_
  have hnl:nm.length≤1000000:=by have:=Abz a;rw[ena] at this;omega
  refine⟨_,rfl,nm,rfl,hnl,fun H2 s2=>⟨_,rfl,?_⟩⟩
  rw[hnm]
  refine Ez ?_
  have u2:=s1.trans s2
  obtain⟨as,k1,k2,k3⟩:=hK.same u2
  obtain⟨q,rfl⟩:∃ q,as=[q]:=by
   match as,k2 with
   | [q],_=>exact⟨q,rfl⟩
  obtain⟨q2,e1,e2⟩:=k3 0 q _ rfl rfl
  refine⟨_,rfl,_,rfl,⟨_,SqL.of k1⟩,Hw (K:=K) (a:=kp) (xs:=[.ref q]) (fun i ys G=>G=H2∧ys=vB (List.replicate i true)) ⟨rfl,rfl⟩ ?_ ?_ ?_ ?_⟩
  ·rintro i ys G hi ⟨rfl,rfl⟩
   refine⟨SqL.of k1,?_⟩
   rw[Fv,Ap9]
   exact Apv _
  ·show 1≤sizeLine
   decide
  ·rintro i xv ys G hi hx ⟨rfl,rfl⟩
   have i0:i=0:=by have:i<1:=hi;omega
   subst i0
   injection hx with hx
   subst hx
   refine Eo.no ?_
   refine⟨_,rfl,_,_,_,_,rfl,rfl,SqT.of e1,CJ (by decide) rfl,_,rfl,rfl,?_⟩
   rw[decide_eq_true rfl]
   exact CN.of hi ⟨rfl,rfl⟩
  ·rintro ys G l ⟨rfl,rfl⟩ hq
   refine⟨_,_,rfl,SqL.of Ae,?_⟩
   exact⟨_,rfl,Ed ⟨by decide,k _ (u2.new hq)⟩⟩
theorem Aic{CX:CXT}{k:Nat}{f:Addr}{fd:FuncData}{ps:List Str}{s1 s2:Sp}(F:Be P w K mg base CX k f fd ps s1)(G:Be P w K mg base CX k f fd ps s2):Be P w K mg base CX k f fd ps (fun vs H Q E=>s1 vs H Q E∨s2 vs H Q E) :=
 ⟨fun vs H Q E h=>h.elim (F.len vs H Q E) (G.len vs H Q E),fun A outer s H args us vs Q E hr he hb hv h=>h.elim (F.run A outer s H args us vs Q E hr he hb hv) (G.run A outer s H args us vs Q E hr he hb hv)⟩
theorem Aid{c:Nat}{w:List Nat}:∀{ws:List (List Nat)},w∈ws→w.length≤(jn c ws).length
 | [],h=>by simp at h
 | [v],h=>by rw[List.mem_singleton.mp h];exact Apv _
 | v::x::r,h=>by
  show _≤(v++c::jn c (x::r)).length
  rw[Apw,Apz]
  rcases List.mem_cons.mp h with rfl | h
  ·omega
  ·have:=Aid (c:=c) h
   omega
def AkZ (t:Adr):Sp:=fun vs H _ E=>∃(u b1 b2 a b:List Nat) (p:List Nat × List (List Nat)),vs=[.str (tx u)]∧u.length≤1000000∧jn 10 [b1,b2]=u∧10∉b1∧10∉b2∧trim b1=b1∧trim b2=b2∧¬b1.head?=some 59∧¬b2.head?=some 59∧Lok [] b1 p∧b2=a++61::b∧(∀ x∈a,¬(x=61∨x=58))∧trim a=p.1∧Pat.isName p.1=true∧∀ H',Ax H H'→E (.ref t.Cd) none H'
theorem Ajg(T:Txt K mg t):Be P w K mg base (CX1 P w) 33 t.Z1 t.Z2 ["text"] (AkZ t):=by
 refine T.Rj.F.okX Js (fun vs H Q E h=>?_) (fun cdv A outer s H vs Q E hr h=>?_)
 ·obtain⟨u,b1,b2,a,b,p,rfl,_⟩:=h
  rfl
 ·obtain⟨u,b1,b2,a,b,p,rfl,hu,hj,n1,n2,t1,t2,c1,c2,hL,e2,ha,ena,hnm,k⟩:=h
  refine⟨_,(Ac (Aw (i:=1) Js.nd rfl (Or.inl rfl) (BJ Ab))
   (Ac (Pa fun hfr=>(GZ (AaA Cm hfr) rfl (DN (K:=K) (G8 (K:=K) PySem.F.plainAttrs_str PySem.F.slot_str_split PySem.F.type_str_split Ahc (pv 0) (Aa Ad Ab))) (Eb (i:=2) Js.nd rfl (Or.inl rfl))
    (Ac (Aw (i:=3) Js.nd rfl (Or.inl rfl) (G8 (K:=K) PySem.F.plainAttrs_str PySem.F.slot_str_strip PySem.F.type_str_strip Pb (pv 2) (Aa Ad Ab)))
    (Af (Bs (PW.pt (pw_and (Ay AbU (pv 3) Ad (Al _)) (pw_and1 (Dp (Cw (G8 (K:=K) PySem.F.plainAttrs_str PySem.F.slot_str_startswith PySem.F.type_str_startswith AfG (pv 3) (Aa Ad Ab)))))))
     (Af (Cq (G8 (K:=K) PySem.F.plainAttrs_list PySem.F.slot_list_append PySem.F.type_list_append Lj (pv 1) (Aa (Aj ((Aic (AbQ T) (Ajf T)).mono (by decide)) hr rfl T.Mw.m T.Mw.F.kp T.Mw.b .nil BZ (Aa (pv 3) (Aa (pv 1) Ab))) Ab))))
     Ak)))))
   (Af (Am (pv 1))))),?_⟩
  rw[Agd,YL,Age,Agg]
  have hsz:sizeLine=16777216:=sizeLine_eq
  have z1:¬b1=[]:=fun z=>by
   obtain⟨a,b',e,_⟩:=hL
   rw[z] at e
   simp at e
  have z2:¬b2=[]:=fun z=>by
   rw[z] at e2
   simp at e2
  refine⟨(by show 0≤sizeLine;decide),fun q hq=>?_⟩
  have s1:Ax H (upd H q (.lst [])):=.upd hq
  have h1:(upd H q (.lst [])) q=some (.lst []):=Ae
  generalize upd H q (.lst [])=H1 at s1 h1 ⊢
  refine DP rfl rfl ?_
  refine⟨_,rfl,rfl,u,10,[b1,b2],rfl,rfl,(by decide),(by omega),(by simp),hj,(by intro x hx;simp at hx;rcases hx with rfl | rfl <;> assumption),fun l hl=>?_⟩
  have s2:Ax H1 (upd H1 l (.lst (vS [b1,b2]))):=.upd hl
  have h2:(upd H1 l (.lst (vS [b1,b2]))) l=some (.lst (vS [b1,b2])):=Ae
  have nql:q≠l:=Bf h1 hl
  generalize upd H1 l (.lst (vS [b1,b2]))=H2 at s2 h2 ⊢
  have bl1:b1.length≤u.length:=by have:=Aid (c:=10) (w:=b1) (ws:=[b1,b2]) (by simp);rw[hj] at this;exact this
  have bl2:b2.length≤u.length:=by have:=Aid (c:=10) (w:=b2) (ws:=[b1,b2]) (by simp);rw[hj] at this;exact this
  refine⟨_,rfl,⟨_,SqL.of h2⟩,Ha (K:=K) (a:=l) (xs:=vS [b1,b2]) (fun i σ G=>∃(v2 v3:Option V) (kq:Kns),σ=[some (.str (tx u)),some (.ref q),v2,v3]∧Ax H G∧G l=some (.lst (vS [b1,b2]))∧Kn G q kq∧(i=0∧kq=[]∨i=1∧kq=[p])) ⟨none,none,[],rfl,s1.trans s2,h2,⟨[],s2 _ _ h1,rfl,fun i a p g=>by simp at g⟩,.inl ⟨rfl,rfl⟩⟩ (fun i σ G _ ⟨_,_,_,_,_,h,_⟩=>SqL.of h) ?_ ?_⟩
  ·rintro i xv σ G hx ⟨v2,v3,kq,rfl,sG,hG,hK,⟨rfl,rfl⟩ | ⟨rfl,rfl⟩⟩
   ·injection hx with hx
    subst hx
    refine DP rfl rfl ?_
    refine⟨_,rfl,rfl,_,_,rfl,rfl,(by rw[BK];omega),?_⟩
    rw[Vk,t1]
    refine DP rfl rfl ?_
    refine⟨_,rfl,rfl,_,rfl,?_⟩
    refine Ab2 (Afj z1) ?_
    refine⟨_,rfl,rfl,_,_,rfl,rfl,?_⟩
    rw[Ach]
    refine⟨_,rfl,?_⟩
    rw[decide_eq_false c1]
    refine Ed ?_
    obtain⟨as,g1,g2,g3⟩:=id hK
    obtain rfl:as=[]:=Aqu g2
    refine⟨_,rfl,.inl ⟨rfl,_,SqL.of g1⟩,_,rfl,_,rfl,.inl ⟨b1,q,[],p,rfl,(by omega),hK,(by decide),hL,fun a9 q9 G' s' n1 n2=>?_⟩⟩
    have hq':G' q=some (.lst []):=s' _ _ g1
    refine⟨q,_,_,rfl,rfl,hq',(by show 0+1≤sizeLine;decide),?_⟩
    have n1':=Z5 n1
    have n2':=Z5 n2
    have hqa:a9≠q:=fun z=>by rw[z,g1] at n1';cases n1'.1
    have hqq:q9≠q:=fun z=>by rw[z,g1] at n2';cases n2'.1
    have lq:l≠q:=fun z=>nql z.symm
    refine⟨_,_,[p],rfl,fun b o e=>by rw[Ao (Bf e hq)];exact(sG.trans s') b o e,by rw[Ao lq];exact s' _ _ hG,⟨[a9],Ae,rfl,fun j a p' e1 e2=>?_⟩,.inr ⟨rfl,rfl⟩⟩
    match j with
    | 0 =>
     injection e1 with e1
     injection e2 with e2
     subst e1 e2
     exact⟨q9,by rw[Ao hqa];exact n1'.2,by rw[Ao hqq];exact n2'.2⟩
    | j+1=>simp at e1
   ·injection hx with hx
    subst hx
    refine DP rfl rfl ?_
    refine⟨_,rfl,rfl,_,_,rfl,rfl,(by rw[BK];omega),?_⟩
    rw[Vk,t2]
    refine DP rfl rfl ?_
    refine⟨_,rfl,rfl,_,rfl,?_⟩
    refine Ab2 (Afj z2) ?_
    refine⟨_,rfl,rfl,_,_,rfl,rfl,?_⟩
    rw[Ach]
    refine⟨_,rfl,?_⟩
    rw[decide_eq_false c2]
    refine Ed ?_
    obtain⟨as,g1,g2,g3⟩:=id hK
    refine⟨_,rfl,.inl ⟨rfl,_,SqL.of g1⟩,_,rfl,_,rfl,.inr ⟨a,b,p.1,q,p.2,(by rw[e2];rfl),(by rw[← e2];omega),ha,ena,hnm,hK,fun G' s'=>k _ (sG.trans s')⟩⟩
  ·rintro σ G ⟨v2,v3,kq,rfl,sG,hG,hK,⟨h,_⟩ | ⟨h,_⟩⟩ <;> simp[vS] at h
end
end Mine
namespace L2
open PySem PySem.Spec PyProof.Rows
section
variable {X:Cx}{K:PySem.W.Frag}
def AmE (K:PySem.W.Frag):R2:=fun x y H Q=>∃(p q:Addr) (js ks:List Int),x=.ref p∧y=.ref q∧SqT K H p (vI js)∧SqT K H q (vI ks)∧Q (.bl (!decide (js=ks))) H
theorem Ajh(hu:X.A.units+100<cLine)(hK:X.K=K:=by rfl):OpR X (compareOp .NotEq) (AmE K):=by
 subst hK
 intro pins s σ H x y v u Q I rx ry h
 obtain⟨p,q,js,ks,rfl,rfl,hx,hy,k⟩:=h
 cases rx
 cases ry
 obtain⟨its,r,pl,hz⟩:=I.tuple hx
 obtain⟨its2,r2,pl2,hz2⟩:=I.tuple hy
 have l1:=r.length
 have l2:=r2.length
 unfold vI at l1 l2
 rw[Apx] at l1 l2
 refine SeqAt.RcNeAt.tuples (e:=fun j=>decide (js[j]?=ks[j]?)) pl pl2 (by omega) (fun j h1 h2=>?_) _ _ _ _ ?_
 ·simp only [Ap1] at h1 h2
  have j1:j<js.length:=by omega
  have j2:j<ks.length:=by omega
  obtain⟨w1,e1,q1⟩:=r.get (i:=j) (x:=V.int js[j]) (by simp[vI,j1])
  obtain⟨w2,e2,q2⟩:=r2.get (i:=j) (x:=V.int ks[j]) (by simp[vI,j2])
  have g1:its.toArray[j]=w1:=by
   have:its.toArray[j]?=some w1:=by simpa using e1
   exact Option.some.inj ((Array.getElem?_eq_getElem (by simpa using h1)).symm.trans this)
  have g2:its2.toArray[j]=w2:=by
   have:its2.toArray[j]?=some w2:=by simpa using e2
   exact Option.some.inj ((Array.getElem?_eq_getElem (by simpa using h2)).symm.trans this)
  rw[g1,g2]
  have:=Aer (A:=X.A.in1) (s:=s) q1 q2 rfl rfl
  have e3:eqV (V.int js[j]) (V.int ks[j])=decide (js[j]?=ks[j]?):=by
   rw[Apy j1,Apy j2]
   show(js[j] == ks[j])=_
   by_cases h:js[j]=ks[j] <;> simp[h]
  rw[e3] at this
  exact this
 refine⟨.bl (!decide (js=ks)),H,I,?_,k⟩
 show Value.bool _=Value.bool _
 congr 1
 simp only [Ap1]
 rw[← l1,← l2]
 by_cases h:js=ks
 ·subst h
  simp
 ·rw[decide_eq_false h]
  by_cases hl:js.length=ks.length
  ·have:¬((List.range (min js.length ks.length)).all (fun j=>decide (js[j]?=ks[j]?))=true):=fun z=>h (by
    rw[Aq7] at z
    refine List.ext_getElem? fun j=>?_
    by_cases hj:j<js.length
    ·exact of_decide_eq_true (z j (List.mem_range.mpr (by omega)))
    ·rw[Aqx (by omega),Aqx (by omega)])
   rw[Bool.eq_false_iff.mpr this,Bool.false_and]
  ·have:(js.length == ks.length)=false:=by simp[hl]
   rw[this,Aqt]
end
end L2
namespace Mine
open PySem L2
seal PE PT PW PA PS PSs PC PG PGs AlB PIp AlD PIE PI PO PEX PSX Ai4
section
variable {P:Program}{w:World}{K:PySem.W.Frag}{mg:Str→Option Value}{base:Heap}{t:Adr}
theorem YM{m:Nat}(h1:1≤m)(h2:m≤40):Cl [List.replicate m 35] m 1:=by
 exact⟨rfl,fun t h=>by rw[List.mem_singleton.mp h,Ap9],fun t h c hc=>by rw[List.mem_singleton.mp h] at hc;exact .inl (AqB hc),h1,h2,by decide,by decide⟩
def Bad (a b:Int):Prop:=¬(0≤a∧a<b)
def Aie (t:Adr):Sp:=fun vs H Q E=>∃(a b:Int),vs=[.int a,.int b]∧((0≤a∧a<b)→Q .non H)∧(Bad a b→E (.ref t.Bh) none H)
theorem Oz(T:Txt K mg t):Be P w K mg base (CX1 P w) 1 t.Qe t.Qf ["number", "count"] (Aie t):=by
 refine T.EY.F.okX ZC (fun vs H Q E h=>?_) (fun cdv A outer s H vs Q E hr h=>?_)
 ·obtain⟨a,b,rfl,_⟩:=h
  rfl
 ·obtain⟨a,b,rfl,k1,k2⟩:=h
  refine⟨_,(Af (Bs (PW.pt (pw_or (Ay Nr (pv 0) Ai (Al _)) (pw_or1 (Ay Agt (pv 0) (pv 1) (Al _)))))
    (Af (Bx Cm rfl (fun _ _ z=>z) PySem.F.excBase_ValueError Ck PySem.F.excBase_ValueError T.GD.q rfl T.Ue (Aa Ad Ab)))
    Ak)),?_⟩
  refine⟨_,rfl,_,_,rfl,rfl,_,rfl,?_⟩
  refine Fe (fun h=>?_) (fun h=>?_)
  ·exact Ed ⟨by decide,k2 (by unfold Bad;omega)⟩
  ·refine⟨_,rfl,_,rfl,_,_,rfl,rfl,_,rfl,?_⟩
   refine Fe (fun h2=>?_) (fun h2=>?_)
   ·exact⟨by decide,k2 (by unfold Bad;omega)⟩
   ·exact k1 (by omega)
def Ala (K:PySem.W.Frag)(t:Adr):Sp:=fun vs H _ E=>∃(a:Addr) (m i j:Nat),vs=[.ref a,.int (i:Int),.int (j:Int)]∧SqL K H a (vS [List.replicate m 35])∧m≤40∧i<m∧j<m∧∀ H',Ax H H'→E (.ref t.Bh) none H'
theorem Aal(T:Txt K mg t):Be P w K mg base (CX1 P w) 4 t.Tc t.Td ["cloth", "one", "other"] (Ala K t):=by
 refine T.KD.F.okX Pk (fun vs H Q E h=>?_) (fun cdv A outer s H vs Q E hr h=>?_)
 ·obtain⟨a,m,i,j,rfl,_⟩:=h
  rfl
 ·obtain⟨a,m,i,j,rfl,hS,hm,hi,hj,k⟩:=h
  refine⟨_,(Ac (Aw (i:=3) Pk.nd rfl (Or.inl rfl) (Aj ((Gb T).mono (by decide)) hr rfl T.measured.m T.measured.F.kp T.measured.b .nil BZ (Aa (pv 0) Ab))) (Ac (Cq (Aj ((Oz T).mono (by decide)) hr rfl T.EY.m T.EY.F.kp T.EY.b .nil BZ (Aa (pv 1) (Aa (Bu Hc (CG (Du (K:=K)) (pv 3) Ai (fun _ _=>rfl)) (CG (Du (K:=K)) (pv 3) Ai (fun _ _=>rfl))) Ab)))) (Ac (Cq (Aj ((Oz T).mono (by decide)) hr rfl T.EY.m T.EY.F.kp T.EY.b .nil BZ (Aa (pv 2) (Aa (Bu Hc (CG (Du (K:=K)) (pv 3) Ai (fun _ _=>rfl)) (CG (Du (K:=K)) (pv 3) Ai (fun _ _=>rfl))) Ab)))) (Ac (Bs (Ay Ce (BP Nr (pv 1) (CG (Du (K:=K)) (pv 3) Ai (fun _ _=>rfl)) (Al _)) (BP Nr (pv 2) (CG (Du (K:=K)) (pv 3) Ai (fun _ _=>rfl)) (Al _)) (Al _))
    (Af (Bx Cm rfl (fun _ _ z=>z) PySem.F.excBase_ValueError Ck PySem.F.excBase_ValueError T.GD.q rfl T.Ue (Aa Ad Ab)))
    Ak) Fg)))),?_⟩
  refine⟨_,rfl,a,_,rfl,hS,(by show 1≤1000;decide),(by intro u hu;rw[List.mem_singleton.mp hu,Ap9];omega),fun m' n' C p hp=>?_,fun h=>absurd ⟨_,_,YM (by omega) hm⟩ h⟩
  have em:m'=m:=by have:=C.hm _ (List.mem_singleton.mpr rfl);rw[Ap9] at this;exact this.symm
  subst em
  have s1:Ax H (upd H p (.tup [.int (m':Int),.int (n':Int)])):=.upd hp
  have gp:SqT K (upd H p (.tup [.int (m':Int),.int (n':Int)])) p [.int (m':Int),.int (n':Int)]:=SqT.of Ae
  refine⟨_,rfl,_,rfl,_,_,_,_,rfl,rfl,gp,CJ (by decide) rfl,_,rfl,_,_,_,_,rfl,rfl,gp,CJ (by decide) rfl,_,_,rfl,rfl,i,(m':Int)+(n':Int),rfl,fun _=>?_,fun hb=>absurd (by omega) hb⟩
  refine⟨_,rfl,_,rfl,_,_,_,_,rfl,rfl,gp,CJ (by decide) rfl,_,rfl,_,_,_,_,rfl,rfl,gp,CJ (by decide) rfl,_,_,rfl,rfl,j,(m':Int)+(n':Int),rfl,fun _=>?_,fun hb=>absurd (by omega) hb⟩
  refine⟨_,rfl,_,rfl,_,_,_,_,rfl,rfl,gp,CJ (by decide) rfl,_,_,rfl,rfl,_,rfl,_,rfl,_,_,_,_,rfl,rfl,gp,CJ (by decide) rfl,_,_,rfl,rfl,rfl,_,rfl,?_⟩
  refine Eh (congrArg V.bl (decide_eq_decide.mpr ⟨fun _=>by omega,fun _=>by omega⟩)) ?_
  exact⟨by decide,k _ s1⟩
def Alb (t:Adr):Sp:=fun vs H _ E=>∃(a:Addr) (m:Nat),vs=[.ref a,.int 1]∧H a=some (.lst (vI [0,(m:Int)]))∧1≤m∧E (.ref t.Bj) none H
theorem YQ(T:Txt K mg t):Be P w K mg base (CX1 P w) 1 t.Qg t.Qh ["owners", "pieces"] (Alb t):=by
 refine T.J0.F.okX Ny (fun vs H Q E h=>?_) (fun cdv A outer s H vs Q E hr h=>?_)
 ·obtain⟨a,m,rfl,_⟩:=h
  rfl
 ·obtain⟨a,m,rfl,ha,hm,k⟩:=h
  refine⟨_,(Ac (Bs (PW.pt (pw_or (Ay Nr (Ar (BW (K:=K)) rfl T.DR Dk (Aa (pv 0) Ab)) Ai (Al _)) (pw_or1 (Ay J7 (Ar (BW (K:=K)) rfl T.DR Dk (Aa (pv 0) Ab)) (Ci (v:=.int 40) rfl T.Ew.choose_spec ⟨_,rfl⟩) (Al _)))))
    (Af (Bx Cm rfl (fun _ _ z=>z) PySem.F.excBase_ValueError Ck PySem.F.excBase_ValueError T.GF.q rfl T.Uo (Aa Ad Ab)))
    Ak)
   (Af (Pa fun hfr=>(GZ (AaA Cm hfr) rfl (DN (K:=K) (pv 0)) (Eb (i:=2) Ny.nd rfl (Or.inl rfl))
    (Af (Bs (PW.pt (pw_or (Ay Nr (pv 2) Ai (Al _)) (pw_or1 (Ay Agt (pv 2) (pv 1) (Al _)))))
     (Af (Bx Cm rfl (fun _ _ z=>z) PySem.F.excBase_ValueError Ck PySem.F.excBase_ValueError T.GF.q rfl T.Uo (Aa Ad Ab)))
     Ak)))))),?_⟩
  refine⟨_,rfl,_,_,rfl,.inl (SqL.of ha),_,_,rfl,rfl,_,rfl,?_⟩
  refine Bq (by show ¬((2:Nat):Int)<1;decide) ?_
  refine⟨_,rfl,_,_,rfl,.inl (SqL.of ha),_,_,rfl,rfl,_,rfl,?_⟩
  refine Bq (by show ¬(40:Int)<((2:Nat):Int);decide) ?_
  refine⟨_,rfl,_,rfl,⟨_,SqL.of ha⟩,Ha (K:=K) (a:=a) (xs:=vI [0,(m:Int)]) (fun i σ H2=>∃ v,σ=[some (.ref a),some (.int 1),v]∧H2=H∧i≤1) ⟨none,rfl,rfl,Ap7 _⟩ (fun i σ H2 _ ⟨_,_,e,_⟩=>e▸SqL.of ha) ?_ ?_⟩
  ·rintro i x σ H2 hx ⟨v,rfl,rfl,hi⟩
   match i,hi with
   | 0,_ =>
    injection hx with hx
    subst hx
    refine⟨_,rfl,_,_,rfl,rfl,_,rfl,?_⟩
    refine Bq (by decide) ?_
    refine⟨_,rfl,_,rfl,_,_,rfl,rfl,_,rfl,?_⟩
    exact Bq (by decide) ⟨_,rfl,rfl,Apv _⟩
   | 1,_ =>
    injection hx with hx
    subst hx
    refine⟨_,rfl,_,_,rfl,rfl,_,rfl,?_⟩
    refine Bq (by omega) ?_
    refine⟨_,rfl,_,rfl,_,_,rfl,rfl,_,rfl,?_⟩
    exact Eh (by omega) ⟨by decide,k⟩
  ·rintro σ H2 ⟨v,rfl,rfl,hi⟩
   exact absurd hi (by show ¬2≤1;decide)
def Alc (t:Adr):Sp:=fun vs H _ E=>∃(p pe po:Addr) (v:V) (m:Nat),vs=[.ref p,.ref pe,.ref po]∧H p=some (.lst [v])∧H pe=some (.lst (vI [0,(m:Int)]))∧1≤m∧E (.ref t.Bj) none H
theorem Xk(T:Txt K mg t):Be P w K mg base (CX1 P w) 2 t.Og t.Oh ["pieces", "ends", "picks"] (Alc t):=by
 refine T.Ih.F.okX XC (fun vs H Q E h=>?_) (fun cdv A outer s H vs Q E hr h=>?_)
 ·obtain⟨p,pe,po,v,m,rfl,_⟩:=h
  rfl
 ·obtain⟨p,pe,po,v,m,rfl,hp,he,hm,k⟩:=h
  refine⟨_,(Ac (Cq (Aj ((YQ T).mono (by decide)) hr rfl T.J0.m T.J0.F.kp T.J0.b .nil BZ (Aa (pv 1) (Aa (Ar (BW (K:=K)) rfl T.DR Dk (Aa (pv 0) Ab)) Ab)))) Fg),?_⟩
  exact⟨_,rfl,_,rfl,_,_,rfl,.inl (SqL.of hp),pe,m,rfl,he,hm,k⟩
def Ald (t:Adr):Sp:=fun vs H _ E=>∃(a:Addr) (x y:V),vs=[.ref a,.int 1]∧H a=some (.lst [x,y])∧E (.ref t.Ba) none H
theorem Vb(T:Txt K mg t):Be P w K mg base (CX1 P w) 1 t.Mj t.Ml ["shuttles", "picks"] (Ald t):=by
 refine T.Hn.F.okX Vx (fun vs H Q E h=>?_) (fun cdv A outer s H vs Q E hr h=>?_)
 ·obtain⟨a,x,y,rfl,_⟩:=h
  rfl
 ·obtain⟨a,x,y,rfl,ha,k⟩:=h
  refine⟨_,(Ac (Bs (Ay AbU (Ar (BW (K:=K)) rfl T.DR Dk (Aa (pv 0) Ab)) (pv 1) (Al _))
    (Af (Bx Cm rfl (fun _ _ z=>z) PySem.F.excBase_ValueError Ck PySem.F.excBase_ValueError T.GP.q rfl T.Z3 (Aa Ad Ab)))
    Ak) Fg),?_⟩
  refine⟨_,rfl,_,_,rfl,.inl (SqL.of ha),_,rfl,rfl,_,rfl,?_⟩
  exact Ab2 (by show ¬V.int ((2:Nat):Int)=V.int 1;decide) ⟨by decide,k⟩
def Ale (K:PySem.W.Frag)(t:Adr):Sp:=fun vs H _ E=>∃(a b:Addr) (m:Nat) (x y:V),vs=[.ref a,.ref b]∧SqL K H a (vS [List.replicate m 35])∧1≤m∧m≤40∧H b=some (.lst [x,y])∧∀ H',Ax H H'→E (.ref t.Ba) none H'
theorem Aau{m m' n':Nat}(C:Cl [List.replicate m 35] m' n'):m'=m∧n'=1:=⟨by have:=C.hm _ (List.mem_singleton.mpr rfl);rw[Ap9] at this;exact this.symm,C.hn.symm⟩
theorem Adt(T:Txt K mg t):Be P w K mg base (CX1 P w) 4 t.AaZ t.Aba ["cloth", "shuttles"] (Ale K t):=by
 refine T.We.F.okX Zk (fun vs H Q E h=>?_) (fun cdv A outer s H vs Q E hr h=>?_)
 ·obtain⟨a,b,m,x,y,rfl,_⟩:=h
  rfl
 ·obtain⟨a,b,m,x,y,rfl,hS,m1,m40,hb,k⟩:=h
  refine⟨_,(Ac (Aw (i:=2) Zk.nd rfl (Or.inl rfl) (Aj ((Gb T).mono (by decide)) hr rfl T.measured.m T.measured.F.kp T.measured.b .nil BZ (Aa (pv 0) Ab))) (Ac (Cq (Aj ((Vb T).mono (by decide)) hr rfl T.Hn.m T.Hn.F.kp T.Hn.b .nil BZ (Aa (pv 1) (Aa (CG (Du (K:=K)) (pv 2) Ai (fun _ _=>rfl)) Ab)))) Fg)),?_⟩
  refine⟨_,rfl,a,_,rfl,hS,(by show 1≤1000;decide),(by intro u hu;rw[List.mem_singleton.mp hu,Ap9];omega),fun m' n' C p hp=>?_,fun h=>absurd ⟨_,_,YM m1 m40⟩ h⟩
  obtain⟨rfl,rfl⟩:=Aau C
  have s1:Ax H (upd H p (.tup [.int (m':Int),.int ((1:Nat):Int)])):=.upd hp
  have gp:SqT K (upd H p (.tup [.int (m':Int),.int ((1:Nat):Int)])) p [.int (m':Int),.int ((1:Nat):Int)]:=SqT.of Ae
  exact⟨_,rfl,_,rfl,_,_,_,_,rfl,rfl,gp,CJ (by decide) rfl,b,x,y,rfl,s1 _ _ hb,k _ s1⟩
def Alf (t:Adr):Sp:=fun vs H _ E=>∃(u:List Nat) (m:Nat) (v:V),vs=[.str (tx u),.int (m:Int),v]∧u.length≤1000∧¬u.length=m∧E (.ref t.Bl) none H
theorem Xl(T:Txt K mg t):Be P w K mg base (CX1 P w) 1 t.Om t.Oo ["text", "count", "signs"] (Alf t):=by
 refine T.Ii.F.okX XD (fun vs H Q E h=>?_) (fun cdv A outer s H vs Q E hr h=>?_)
 ·obtain⟨u,m,v,rfl,_⟩:=h
  rfl
 ·obtain⟨u,m,v,rfl,hu,hm,k⟩:=h
  refine⟨_,(Ac (Bs (Ay AbU (Ar De rfl T.DR Dk (Aa (pv 0) Ab)) (pv 1) (Al _))
    (Af (Bx Cm rfl (fun _ _ z=>z) PySem.F.excBase_ValueError Ck PySem.F.excBase_ValueError T.HN.q rfl T.Abk (Aa Ad Ab)))
    Ak) Fg),?_⟩
  refine⟨_,rfl,_,rfl,(by rw[BK];exact big (by omega)),_,rfl,rfl,_,rfl,?_⟩
  refine Ab2 (fun z=>hm ?_) ⟨by decide,k⟩
  injection z with z
  rw[BK] at z
  omega
def Alh (K:PySem.W.Frag)(t:Adr):Sp:=fun vs H _ E=>∃(a:Addr) (m:Nat) (u:List Nat) (v:V),vs=[.ref a,.str (tx u),v]∧SqL K H a (vS [List.replicate m 35])∧1≤m∧m≤40∧u.length=m+1∧∀ H',Ax H H'→E (.ref t.Bl) none H'
theorem Ab3(T:Txt K mg t):Be P w K mg base (CX1 P w) 4 t.VM t.VN ["cloth", "warp", "weft"] (Alh K t):=by
 refine T.MT.F.okX Sy (fun vs H Q E h=>?_) (fun cdv A outer s H vs Q E hr h=>?_)
 ·obtain⟨a,m,u,v,rfl,_⟩:=h
  rfl
 ·obtain⟨a,m,u,v,rfl,hS,m1,m40,hu,k⟩:=h
  refine⟨_,(Ac (Aw (i:=3) Sy.nd rfl (Or.inl rfl) (Aj ((Gb T).mono (by decide)) hr rfl T.measured.m T.measured.F.kp T.measured.b .nil BZ (Aa (pv 0) Ab))) (Ac (Cq (Aj ((Xl T).mono (by decide)) hr rfl T.Ii.m T.Ii.F.kp T.Ii.b .nil BZ (Aa (pv 1) (Aa (CG (Du (K:=K)) (pv 3) Ai (fun _ _=>rfl)) (Aa (Ci (v:=.str "abcdef") rfl T.AfL.choose_spec ⟨_,rfl⟩) Ab))))) Fg)),?_⟩
  refine⟨_,rfl,a,_,rfl,hS,(by show 1≤1000;decide),(by intro u hu;rw[List.mem_singleton.mp hu,Ap9];omega),fun m' n' C p hp=>?_,fun h=>absurd ⟨_,_,YM m1 m40⟩ h⟩
  obtain⟨rfl,rfl⟩:=Aau C
  have s1:Ax H (upd H p (.tup [.int (m':Int),.int ((1:Nat):Int)])):=.upd hp
  have gp:SqT K (upd H p (.tup [.int (m':Int),.int ((1:Nat):Int)])) p [.int (m':Int),.int ((1:Nat):Int)]:=SqT.of Ae
  exact⟨_,rfl,_,rfl,_,_,_,_,rfl,rfl,gp,CJ (by decide) rfl,u,m',_,rfl,(by omega),(by omega),k _ s1⟩
def Ali (K:PySem.W.Frag)(t:Adr):Sp:=fun vs H _ E=>∃(a b:Addr) (m n:Nat),vs=[.ref a,.ref b]∧SqL K H a (vS [List.replicate m 35])∧SqL K H b (vS [List.replicate n 35])∧1≤m∧m≤40∧1≤n∧n≤40∧¬m=n∧∀ H',Ax H H'→E (.ref t.By) none H'
theorem AbR(T:Txt K mg t):Be P w K mg base (CX1 P w) 4 t.Zx t.Zy ["one", "other"] (Ali K t):=by
 refine T.Rh.F.okX Vr (fun vs H Q E h=>?_) (fun cdv A outer s H vs Q E hr h=>?_)
 ·obtain⟨a,b,m,n,rfl,_⟩:=h
  rfl
 ·obtain⟨a,b,m,n,rfl,hS,hS2,m1,m40,n1,n40,hne,k⟩:=h
  refine⟨_,(Ac (Aw (i:=2) Vr.nd rfl (Or.inl rfl) (Aj ((Gb T).mono (by decide)) hr rfl T.measured.m T.measured.F.kp T.measured.b .nil BZ (Aa (pv 0) Ab))) (Ac (Bs (Ay (Ajh (K:=K) (hr.AgV)) (Aj ((Gb T).mono (by decide)) hr rfl T.measured.m T.measured.F.kp T.measured.b .nil BZ (Aa (pv 1) Ab)) (pv 2) (Al _))
    (Af (Bx Cm rfl (fun _ _ z=>z) PySem.F.excBase_ValueError Ck PySem.F.excBase_ValueError T.J3.q rfl T.Acu (Aa Ad Ab)))
    Ak) Fg)),?_⟩
  refine⟨_,rfl,a,_,rfl,hS,(by show 1≤1000;decide),(by intro u hu;rw[List.mem_singleton.mp hu,Ap9];omega),fun m' n' C p hp=>?_,fun h=>absurd ⟨_,_,YM m1 m40⟩ h⟩
  obtain⟨rfl,rfl⟩:=Aau C
  have s1:Ax H (upd H p (.tup [.int (m':Int),.int ((1:Nat):Int)])):=.upd hp
  have hp1:(upd H p (.tup [.int (m':Int),.int ((1:Nat):Int)])) p=some (.tup (vI [(m':Int),1])):=Ae
  generalize upd H p (.tup [.int (m':Int),.int ((1:Nat):Int)])=H1 at s1 hp1 ⊢
  refine⟨_,rfl,b,_,rfl,s1.seq hS2,(by show 1≤1000;decide),(by intro u hu;rw[List.mem_singleton.mp hu,Ap9];omega),fun m2 n2 C2 p2 hp2=>?_,fun h=>absurd ⟨_,_,YM n1 n40⟩ h⟩
  obtain⟨rfl,rfl⟩:=Aau C2
  have s2:Ax H1 (upd H1 p2 (.tup [.int (m2:Int),.int ((1:Nat):Int)])):=.upd hp2
  have hp2':(upd H1 p2 (.tup [.int (m2:Int),.int ((1:Nat):Int)])) p2=some (.tup (vI [(m2:Int),1])):=Ae
  refine⟨_,rfl,p2,p,_,_,rfl,rfl,SqT.of hp2',SqT.of (s2 _ _ hp1),_,rfl,?_⟩
  refine Ab2 (fun z=>hne ?_) ⟨by decide,k _ (s1.trans s2)⟩
  injection z with z1 z2
  omega
def Alj (K:PySem.W.Frag)(t:Adr):Sp:=fun vs H _ E=>∃(a b c:Addr) (m n:Nat),vs=[.ref a,.ref b,.ref c]∧SqL K H a (vS [List.replicate 1 35])∧SqL K H b (vS [List.replicate m 35])∧SqL K H c (vS [List.replicate n 35])∧1≤m∧m≤40∧1≤n∧n≤40∧¬m=n∧∀ H',Ax H H'→E (.ref t.By) none H'
theorem Xm(T:Txt K mg t):Be P w K mg base (CX1 P w) 5 t.Od t.Oe ["profile", "one", "other"] (Alj K t):=by
 refine T.Ig.F.okX H9 (fun vs H Q E h=>?_) (fun cdv A outer s H vs Q E hr h=>?_)
 ·obtain⟨a,b,c,m,n,rfl,_⟩:=h
  rfl
 ·obtain⟨a,b,c,m,n,rfl,hA,hB,hC,m1,m40,n1,n40,hne,k⟩:=h
  refine⟨_,(Ac (Aw (i:=3) H9.nd rfl (Or.inl rfl) (Aj ((Gb T).mono (by decide)) hr rfl T.measured.m T.measured.F.kp T.measured.b .nil BZ (Aa (pv 0) Ab))) (Ac (Aw (i:=4) H9.nd rfl (Or.inl rfl) (Aj ((AbR T).mono (by decide)) hr rfl T.Rh.m T.Rh.F.kp T.Rh.b .nil BZ (Aa (pv 1) (Aa (pv 2) Ab)))) Fg)),?_⟩
  refine⟨_,rfl,a,_,rfl,hA,(by show 1≤1000;decide),(by intro u hu;rw[List.mem_singleton.mp hu,Ap9];omega),fun m' n' C p hp=>?_,fun h=>absurd ⟨_,_,YM (by omega) (by omega)⟩ h⟩
  have s1:Ax H (upd H p (.tup [.int (m':Int),.int (n':Int)])):=.upd hp
  exact⟨_,rfl,_,rfl,b,c,m,n,rfl,s1.seq hB,s1.seq hC,m1,m40,n1,n40,hne,fun H2 s2=>k _ (s1.trans s2)⟩
structure NL (H:Hp) (y:Addr) (rs:List Addr) (tss:List (List Int)):Prop where
 h:H y=some (.lst (rs.map V.ref))
 l:rs.length=tss.length
 r:∀(i:Nat) (a:Addr) (ks:List Int),rs[i]?=some a→tss[i]?=some ks→H a=some (.lst (vI ks))
theorem NL.at{H:Hp}{y:Addr}{rs:List Addr}{tss:List (List Int)}(N:NL H y rs tss){i:Nat}{a:V}(h:(rs.map V.ref)[i]?=some a):∃ r ks,a=.ref r∧rs[i]?=some r∧tss[i]?=some ks∧H r=some (.lst (vI ks)):=by
 rw[Ap8] at h
 cases e:rs[i]? with
 | none=>rw[e] at h;cases h
 | some r =>
  rw[e] at h
  cases h
  have hi:i<tss.length:=by rw[← N.l];exact(List.getElem?_eq_some_iff.mp e).1
  exact⟨r,tss[i],rfl,rfl,Apy hi,N.r i r _ e (Apy hi)⟩
def Aif (c:Nat):Prop:=1≤c∧c≤40
def Ac5 (th:List Int)(tss:List (List Int)):Prop:=Aif th.length∧Aif tss.length∧(∀ v∈th,0≤v∧v<40)∧∀ ks∈tss,Rs ks
def Apu (tr:List Int)(n:Nat):Prop:=Aif tr.length∧∀ v∈tr,0≤v∧v<(n:Int)
def Bd3 (th:List Int)(tss:List (List Int))(tr:List Int):Prop:=th.length≤1000∧tss.length≤1000∧tr.length≤1000∧∀ ks∈tss,ks.length≤2000
def Agi (t:Adr):Sp:=fun vs H Q E=>∃ c:Nat,vs=[.int (c:Int)]∧(Aif c→Q .non H)∧(¬Aif c→E (.ref t.Br) none H)
theorem O1(T:Txt K mg t):Be P w K mg base (CX1 P w) 1 t.SM t.SN ["count"] (Agi t):=by
 refine T.FT.F.okX AaL (fun vs H Q E h=>?_) (fun cdv A outer s H vs Q E hr h=>?_)
 ·obtain⟨c,rfl,_⟩:=h
  rfl
 ·obtain⟨c,rfl,k1,k2⟩:=h
  refine⟨_,(Af (Bs (PW.pt (pw_or (Ay Nr (pv 0) Ai (Al _)) (pw_or1 (Ay J7 (pv 0) (Ci (v:=.int 40) rfl T.Ew.choose_spec ⟨_,rfl⟩) (Al _)))))
    (Af (Bx Cm rfl (fun _ _ z=>z) PySem.F.excBase_ValueError Ck PySem.F.excBase_ValueError T.GK.q rfl T.Rk (Aa Ad Ab)))
    Ak)),?_⟩
  refine⟨_,rfl,_,_,rfl,rfl,_,rfl,?_⟩
  refine Fe (fun h=>Ed ⟨by decide,k2 fun z=>?_⟩) (fun g1=>?_)
  ·have:=z.1;omega
  refine⟨_,rfl,_,_,rfl,rfl,_,rfl,?_⟩
  refine Fe (fun h=>⟨by decide,k2 fun z=>?_⟩) (fun g2=>k1 ⟨by omega,by omega⟩)
  have:=z.2
  omega
def Agj (t:Adr):Sp:=fun vs H Q E=>∃ v:Int,vs=[.int v]∧(0≤v∧v<40→Q .non H)∧(¬(0≤v∧v<40)→E (.ref t.Br) none H)
theorem O2(T:Txt K mg t):Be P w K mg base (CX1 P w) 1 t.SQ t.SX ["shaft"] (Agj t):=by
 refine T.FW.F.okX AaM (fun vs H Q E h=>?_) (fun cdv A outer s H vs Q E hr h=>?_)
 ·obtain⟨v,rfl,_⟩:=h
  rfl
 ·obtain⟨v,rfl,k1,k2⟩:=h
  refine⟨_,(Af (Bs (PW.pt (pw_or (Ay Nr (pv 0) Ai (Al _)) (pw_or1 (Ay Agt (pv 0) (Ci (v:=.int 40) rfl T.AbD.choose_spec ⟨_,rfl⟩) (Al _)))))
    (Af (Bx Cm rfl (fun _ _ z=>z) PySem.F.excBase_ValueError Ck PySem.F.excBase_ValueError T.GK.q rfl T.Rk (Aa Ad Ab)))
    Ak)),?_⟩
  refine⟨_,rfl,_,_,rfl,rfl,_,rfl,?_⟩
  refine Fe (fun h=>Ed ⟨by decide,k2 fun z=>?_⟩) (fun g1=>?_)
  ·omega
  refine⟨_,rfl,_,_,rfl,rfl,_,rfl,?_⟩
  refine Fe (fun h=>⟨by decide,k2 fun z=>?_⟩) (fun g2=>k1 ⟨by omega,by omega⟩)
  omega
def RsI (ks:List Int)(i:Nat):Prop:=(∀(j:Nat) (a:Int),j<i→ks[j]?=some a→0≤a∧a<40)∧∀(j:Nat) (a b:Int),j+1<i→ks[j]?=some a→ks[j+1]?=some b→a<b
theorem RsI.all{ks:List Int}(h:RsI ks ks.length):Rs ks:=⟨fun i a b ha hb=>h.2 i a b (List.getElem?_eq_some_iff.mp hb).1 ha hb,fun k hk=>by
 obtain⟨j,hj,e⟩:=Aq6 hk
 exact h.1 j k hj (by rw[← e];exact Apy hj)⟩
theorem RsI.step{ks:List Int}{i:Nat}(hi:i<ks.length)(h:RsI ks i)(h1:0≤ks[i]∧ks[i]<40)(h2:∀ j a,j+1=i→ks[j]?=some a→a<ks[i]):RsI ks (i+1):=by
 refine⟨fun j a hj ha=>?_,fun j a b hj ha hb=>?_⟩
 ·by_cases e:j<i
  ·exact h.1 j a e ha
  ·have:j=i:=by omega
   subst this
   rw[Apy hi] at ha
   cases ha
   exact h1
 ·by_cases e:j+1<i
  ·exact h.2 j a b e ha hb
  ·have:j+1=i:=by omega
   subst this
   rw[Apy hi] at hb
   cases hb
   exact h2 j a rfl ha
def Aji (t:Adr):Sp:=fun vs H Q E=>∃(a:Addr) (ks:List Int),vs=[.ref a]∧H a=some (.lst (vI ks))∧ks.length≤2000∧(Rs ks→Q .non H)∧(¬Rs ks→E (.ref t.Br) none H)
theorem AbS(T:Txt K mg t):Be P w K mg base (CX1 P w) 2 t.Zv t.Zw ["tie"] (Aji t):=by
 refine T.Rg.F.okX Vq (fun vs H Q E h=>?_) (fun cdv A outer s H vs Q E hr h=>?_)
 ·obtain⟨a,ks,rfl,_⟩:=h
  rfl
 ·obtain⟨a,ks,rfl,ha,hl,k1,k2⟩:=h
  refine⟨_,(Af (Pa fun hfr=>(GZ (AaA Cm hfr) rfl (Dy rfl T.Ec (Aa (Ar (BW (K:=K)) rfl T.DR Dk (Aa (pv 0) Ab)) Ab)) (Eb (i:=1) Vq.nd rfl (Or.inl rfl))
    (Ac (Cq (Aj ((O2 T).mono (by decide)) hr rfl T.FW.m T.FW.F.kp T.FW.b .nil BZ (Aa (CG (CW (K:=K)) (pv 0) (pv 1) (fun _ _=>rfl)) Ab)))
    (Af (Bs (PW.pt (pw_and (Ay J7 (pv 1) Ai (Al _)) (pw_and1 (Ay AlI (CG (CW (K:=K)) (pv 0) (pv 1) (fun _ _=>rfl)) (CG (CW (K:=K)) (pv 0) (Bu Aax (pv 1) Ai) (fun _ _=>rfl)) (Al _)))))
     (Af (Bx Cm rfl (fun _ _ z=>z) PySem.F.excBase_ValueError Ck PySem.F.excBase_ValueError T.GK.q rfl T.Rk (Aa Ad Ab)))
     Ak)))))),?_⟩
  refine⟨_,rfl,_,_,rfl,.inl (SqL.of ha),_,rfl,(by omega),(by rw[Er];omega),?_⟩
  rw[ApK,Er]
  refine AbT (lo:=0) (n:=ks.length) (fun i σ H2=>∃ v,σ=[some (.ref a),v]∧H2=H∧RsI ks i) ⟨none,rfl,rfl,fun j a h=>absurd h (by omega),fun j a b h=>absurd h (by omega)⟩ ?_ ?_
  ·rintro i σ H2 hi ⟨v,rfl,rfl,R⟩
   have e1:atI (vI ks) (0+(i:Int))=some (.int ks[i]):=CJ (by omega) (by rw[z0];exact Aa8 (Apy hi))
   refine⟨_,rfl,_,rfl,_,_,_,_,rfl,rfl,SqL.of ha,e1,ks[i],rfl,fun hg=>?_,fun hb=>k2 fun z=>hb (z.2 _ (ApR hi))⟩
   refine⟨_,rfl,_,_,rfl,rfl,_,rfl,?_⟩
   by_cases h0:i=0
   ·subst h0
    refine Bq (by omega) ?_
    exact Ez ⟨_,rfl,rfl,R.step hi hg fun j a hj=>absurd hj (by omega)⟩
   ·have hi1:i-1<ks.length:=by omega
    have e2:atI (vI ks) (0+(i:Int)-1)=some (.int ks[i-1]):=CJ (by omega) (by rw[show(0+(i:Int)-1).toNat=i-1 by omega];exact Aa8 (Apy hi1))
    refine Eh (by omega) ?_
    refine⟨_,rfl,_,rfl,_,_,_,_,rfl,rfl,SqL.of ha,e1,_,rfl,_,rfl,_,_,rfl,rfl,_,_,_,_,rfl,rfl,SqL.of ha,e2,_,_,rfl,rfl,_,rfl,?_⟩
    refine Fe (fun hle=>?_) (fun hgt=>?_)
    ·refine⟨by decide,k2 fun z=>?_⟩
     have:=z.1 (i-1) ks[i-1] ks[i] (Apy hi1) (by rw[show i-1+1=i by omega];exact Apy hi)
     omega
    ·refine⟨_,rfl,rfl,R.step hi hg fun j a hj hja=>?_⟩
     have:j=i-1:=by omega
     subst this
     rw[Apy hi1] at hja
     cases hja
     omega
  ·rintro σ H2 ⟨v,rfl,rfl,R⟩
   exact k1 R.all
def Aek (t:Adr):Sp:=fun vs H Q E=>∃(x y:Addr) (rs:List Addr) (th:List Int) (tss:List (List Int)),vs=[.ref x,.ref y]∧H x=some (.lst (vI th))∧NL H y rs tss∧th.length≤1000∧tss.length≤1000∧(∀ ks∈tss,ks.length≤2000)∧(Ac5 th tss→Q .non H)∧(¬Ac5 th tss→E (.ref t.Br) none H)
theorem KZ(T:Txt K mg t):Be P w K mg base (CX1 P w) 3 t.Oa t.Ob ["threading", "ties"] (Aek t):=by
 refine T.El.F.okX Hz (fun vs H Q E h=>?_) (fun cdv A outer s H vs Q E hr h=>?_)
 ·obtain⟨x,y,rs,th,tss,rfl,_⟩:=h
  rfl
 ·obtain⟨x,y,rs,th,tss,rfl,hx,N,bl1,bl2,bl3,k1,k2⟩:=h
  refine⟨_,(Ac (Cq (Aj ((O1 T).mono (by decide)) hr rfl T.FT.m T.FT.F.kp T.FT.b .nil BZ (Aa (Ar (BW (K:=K)) rfl T.DR Dk (Aa (pv 0) Ab)) Ab)))
   (Ac (Cq (Aj ((O1 T).mono (by decide)) hr rfl T.FT.m T.FT.F.kp T.FT.b .nil BZ (Aa (Ar (BW (K:=K)) rfl T.DR Dk (Aa (pv 1) Ab)) Ab)))
   (Ac (Pa fun hfr=>(GZ (AaA Cm hfr) rfl (DN (K:=K) (pv 0)) (Eb (i:=2) Hz.nd rfl (Or.inl rfl))
    (Af (Cq (Aj ((O2 T).mono (by decide)) hr rfl T.FW.m T.FW.F.kp T.FW.b .nil BZ (Aa (pv 2) Ab))))))
   (Af (Pa fun hfr=>(GZ (AaA Cm hfr) rfl (DN (K:=K) (pv 1)) (Eb (i:=3) Hz.nd rfl (Or.inl rfl))
    (Af (Cq (Aj ((AbS T).mono (by decide)) hr rfl T.Rg.m T.Rg.F.kp T.Rg.b .nil BZ (Aa (pv 3) Ab)))))))))),?_⟩
  refine⟨_,rfl,_,_,rfl,.inl (SqL.of hx),th.length,(by rw[Er] <;> rfl),fun g1=>?_,fun b=>k2 fun z=>b z.1⟩
  refine⟨_,rfl,_,_,rfl,.inl (SqL.of N.h),tss.length,(by rw[Apx,N.l] <;> rfl),fun g2=>?_,fun b=>k2 fun z=>b z.2.1⟩
  refine⟨_,rfl,_,rfl,⟨_,SqL.of hx⟩,Ha (K:=K) (a:=x) (xs:=vI th) (fun i σ H2=>∃ v1 v2,σ=[some (.ref x),some (.ref y),v1,v2]∧H2=H∧∀ v∈th.take i,0≤v∧v<40) ⟨none,none,rfl,rfl,fun v h=>(by simp at h)⟩ (fun i σ H2 _ ⟨_,_,_,e,_⟩=>e▸SqL.of hx) ?_ ?_⟩
  ·rintro i xv σ H2 hxv ⟨v1,v2,rfl,rfl,hall⟩
   obtain⟨z,hz,rfl⟩:=AcM hxv
   refine⟨_,rfl,z,rfl,fun g=>?_,fun b=>k2 fun w=>b (w.2.2.1 z (ApP hz))⟩
   refine⟨_,_,rfl,rfl,fun v hv=>?_⟩
   rw[ApH,hz] at hv
   rcases List.mem_append.mp hv with h | h
   ·exact hall v h
   ·have e:v=z:=by simpa using h
    rw[e];exact g
  ·rintro σ H2 ⟨v1,v2,rfl,rfl,hall⟩
   rw[Er,ApO] at hall
   refine⟨_,rfl,_,rfl,⟨_,SqL.of N.h⟩,Ha (K:=K) (a:=y) (xs:=rs.map V.ref) (fun i σ H3=>∃ v1 v2,σ=[some (.ref x),some (.ref y),v1,v2]∧H3=H2∧∀ ks∈tss.take i,Rs ks) ⟨v1,v2,rfl,rfl,fun ks h=>(by simp at h)⟩ (fun i σ H3 _ ⟨_,_,_,e,_⟩=>e▸SqL.of N.h) ?_ ?_⟩
   ·rintro i xv σ H3 hxv ⟨v1,v2,rfl,rfl,hall2⟩
    obtain⟨r,ks,rfl,_,hks,hr'⟩:=N.at hxv
    have hm:=ApP hks
    refine⟨_,rfl,r,ks,rfl,hr',bl3 ks hm,fun g=>?_,fun b=>k2 fun w=>b (w.2.2.2 ks hm)⟩
    refine⟨_,_,rfl,rfl,fun v hv=>?_⟩
    rw[ApH,hks] at hv
    rcases List.mem_append.mp hv with h | h
    ·exact hall2 v h
    ·have e:v=ks:=by simpa using h
     rw[e];exact g
   ·rintro σ H3 ⟨v1,v2,rfl,rfl,hall2⟩
    rw[Apx,N.l,ApO] at hall2
    exact k1 ⟨g1,g2,hall,hall2⟩
def Alk (t:Adr):Sp:=fun vs H _ E=>∃(r x y z:Addr) (rs:List Addr) (th:List Int) (tss:List (List Int)),vs=[.ref r,.ref x,.ref y,.ref z]∧H x=some (.lst (vI th))∧NL H y rs tss∧th.length≤1000∧tss.length≤1000∧(∀ ks∈tss,ks.length≤2000)∧¬Ac5 th tss∧E (.ref t.Br) none H
theorem Vc(T:Txt K mg t):Be P w K mg base (CX1 P w) 4 t.HF t.Ma ["self", "threading", "ties", "treading"] (Alk t):=by
 refine T.M3.F.okX V6 (fun vs H Q E h=>?_) (fun cdv A outer s H vs Q E hr h=>?_)
 ·obtain⟨r,x,y,z,rs,th,tss,rfl,_⟩:=h
  rfl
 ·obtain⟨r,x,y,z,rs,th,tss,rfl,hx,N,l1,l2,l3,no,k⟩:=h
  refine⟨_,(Ac (Cq (Aj ((KZ T).mono (by decide)) hr rfl T.El.m T.El.F.kp T.El.b .nil BZ (Aa (pv 1) (Aa (pv 2) Ab)))) Fg),?_⟩
  exact⟨_,rfl,_,rfl,x,y,rs,th,tss,rfl,hx,N,l1,l2,l3,fun g=>absurd g no,fun _=>k⟩
theorem NL.other{H H':Hp}{r C dx y:Addr}{fs:List (Str × V)}{rs:List Addr}{tss:List (List Int)}(N:NL H y rs tss)(b:Cj r H H')(hr:H r=some (.ins C dx fs)):NL H' y rs tss :=
 ⟨b _ _ (fun e=>by have:=N.h;rw[e,hr] at this;cases this) N.h,N.l,fun i a ks h1 h2=>b _ _ (fun e=>by have:=N.r i a ks h1 h2;rw[e,hr] at this;cases this) (N.r i a ks h1 h2)⟩
def lf (a b c e g:Addr):List (Str × V):=[("threading", .ref a),("ties", .ref b),("down", .ref c),("thrown", .ref e),("deeds", .ref g)]
theorem AmF(a b c e g:Addr):(lf a b c e g).lookup ("thrown" : Str)=some (V.ref e):=rfl
structure IsM (t:Adr) (H:Hp) (m dx a b c e g:Addr) (qs:List Addr) (th:List Int) (tss:List (List Int)) (dn:List Int) (tn ds:List V):Prop where
 o:H m=some (.ins t.Eu dx (lf a b c e g))
 ha:H a=some (.lst (vI th))
 hb:NL H b qs tss
 hc:H c=some (.lst (vI dn))
 he:H e=some (.lst tn)
 hg:H g=some (.lst ds)
def Agk (t:Adr):Sp:=fun vs H Q E=>∃(r dx x y:Addr) (rs:List Addr) (th:List Int) (tss:List (List Int)),vs=[.ref r,.ref x,.ref y]∧H r=some (.ins t.Eu dx [])∧H x=some (.lst (vI th))∧NL H y rs tss∧th.length≤1000∧tss.length≤1000∧(∀ ks∈tss,ks.length≤2000) ∧
 (Ac5 th tss→∀ a b c e g qs H',Cj r H H'→(∀ q∈g::e::c::b::a::qs,H q=none)→(g::e::c::b::a::qs).Nodup→IsM t H' r dx a b c e g qs th tss [] [] []→Q .non H')∧(¬Ac5 th tss→E (.ref t.Br) none H)
theorem Xn{H:Hp}{r dx C c:Addr}{n:Str}{fs:List (Str × V)}{xs:List V}(hr:H r=some (.ins C dx fs))(nc:H c=none):(∀ b o,b≠r→H b=some o→(upd (upd H c (.lst xs)) r (.ins C dx (Ej n (.ref c) fs))) b=some o)∧(upd (upd H c (.lst xs)) r (.ins C dx (Ej n (.ref c) fs))) r=some (.ins C dx (Ej n (.ref c) fs))∧(upd (upd H c (.lst xs)) r (.ins C dx (Ej n (.ref c) fs))) c=some (.lst xs)∧c≠r:=by
 have ncr:c≠r:=fun e=>by rw[e,hr] at nc;cases nc
 refine⟨fun b o nb e=>by rw[Ao nb];exact(Ax.upd nc) _ _ e,Ae,by rw[Ao ncr];exact Ae,ncr⟩
theorem Xo(T:Txt K mg t):Be P w K mg base (CX1 P w) 4 t.Jg t.NQ ["self", "threading", "ties"] (Agk t):=by
 refine T.Ow.F.okX XQ (fun vs H Q E h=>?_) (fun cdv A outer s H vs Q E hr h=>?_)
 ·obtain⟨r,dx,x,y,rs,th,tss,rfl,_⟩:=h
  rfl
 ·obtain⟨r,dx,x,y,rs,th,tss,rfl,hr1,hx,N,l1,l2,l3,kq,kb⟩:=h
  have hsz:sizeLine=16777216:=sizeLine_eq
  refine⟨_,(Ac (Cq (Aj ((KZ T).mono (by decide)) hr rfl T.El.m T.El.F.kp T.El.b .nil BZ (Aa (pv 1) (Aa (pv 2) Ab))))
   (Ac (Gh (K:=K) (pv 0) (Fi (HR (K:=K)) rfl T.XX QW (Aa (pv 1) Ab)))
   (Ac (PS.nox (Gh (K:=K) (pv 0) (M9 (Dq.mk (Cg:=[]) (Nc:=["tie"]) rfl (by decide +kernel) (by decide +kernel) (Dr (sc0:=Ah Jb) rfl (by decide +kernel)) rfl rfl rfl (by decide +kernel) (fun _ _ h=>by simp at h)) rfl (DN (K:=K) (pv 2)) (fun _ _ _ _ _=>.nil) (fun _ _ _ _ _=>(Fi (HR (K:=K)) rfl T.XX QW (Aa (pv 0) Ab))))))
   (Ac (Gh (K:=K) (pv 0) (BJ Ab))
   (Ac (Gh (K:=K) (pv 0) (BJ Ab))
   (Af (Gh (K:=K) (pv 0) (BJ Ab)))))))),?_⟩
  refine⟨_,rfl,_,rfl,x,y,rs,th,tss,rfl,hx,N,l1,l2,l3,fun g1=>?_,fun b1=>kb b1⟩
  have k:=kq g1
  refine⟨_,rfl,_,_,rfl,.inl (SqL.of hx),fun a na=>?_⟩
  have s1:Ax H (upd H a (.lst (vI th))):=.upd na
  refine⟨_,rfl,_,_,_,_,rfl,s1 _ _ hr1,T.QF.c,T.WL,(by decide),?_⟩
  obtain⟨b2,hr2,ha2,nra⟩:=Xn (n := "threading") (xs:=vI th) hr1 na
  generalize upd (upd H a (.lst (vI th))) r (.ins t.Eu dx (Ej "threading" (.ref a) []))=H2 at b2 hr2 ha2 ⊢
  have fre:∀ q,H2 q=none→H q=none:=fun q hq=>by
   have nq:q≠r:=fun e=>by rw[e,hr2] at hq;cases hq
   cases e:H q with
   | none=>rfl
   | some o=>rw[b2 q o nq e] at hq;cases hq
  have N2:=N.other b2 hr1
  refine⟨_,rfl,_,rfl,⟨_,SqL.of N2.h⟩,Hw (K:=K) (a:=y) (xs:=rs.map V.ref) (fun i ys H3=>Ax H2 H3∧∃ qs:List Addr,ys=qs.map V.ref∧qs.length=i∧qs.Nodup∧(∀ q∈qs,H2 q=none∧H3 q≠none)∧∀(j:Nat) (q:Addr) (ks:List Int),qs[j]?=some q→tss[j]?=some ks→H3 q=some (.lst (vI ks)))
   ⟨.refl _,[],rfl,rfl,.nil,fun q hq=>(by cases hq),fun j q ks h=>(by simp at h)⟩ ?_ ?_ ?_ ?_⟩
  ·rintro i ys H3 hi ⟨s3,qs,rfl,hq,_⟩
   exact⟨SqL.of (s3 _ _ N2.h),by rw[Apx];omega⟩
  ·rw[Apx,N.l];omega
  ·rintro i xv ys H3 hi hxv ⟨s3,qs,rfl,hq,nd,nq,hqs⟩
   obtain⟨r',ks',rfl,_,hks,hr'⟩:=N2.at hxv
   refine Eo.no ?_
   refine⟨_,rfl,_,_,rfl,.inl (SqL.of (s3 _ _ hr')),fun l nl=>?_⟩
   refine CN.of hi ⟨s3.new nl,qs++[l],by rw[Ap2];rfl,by rw[Apw,hq];rfl,?_,fun q h=>?_,fun j q ks h1 h2=>?_⟩
   ·rw[List.nodup_append]
    refine⟨nd,by simp,fun u hu v hv e=>?_⟩
    rw[List.mem_singleton.mp hv] at e
    rw[e] at hu
    exact(nq l hu).2 nl
   ·rcases List.mem_append.mp h with h | h
    ·refine⟨(nq q h).1,?_⟩
     cases e:H3 q with
     | none=>exact absurd e (nq q h).2
     | some o=>rw[(Ax.upd nl) _ _ e];exact fun z=>by cases z
    ·rw[List.mem_singleton.mp h];exact⟨s3.free nl,by rw[Ae];exact fun z=>by cases z⟩
   ·by_cases hj:j<qs.length
    ·rw[ApZ hj] at h1
     exact(Ax.upd nl) _ _ (hqs j q ks h1 h2)
    ·rw[ApV (by omega)] at h1
     have e0:j=i:=by
      have:=(List.getElem?_eq_some_iff.mp h1).1
      simp at this
      omega
     rw[show j-qs.length=0 by omega] at h1
     have e1:l=q:=by simpa using h1
     rw[e0,hks] at h2
     cases h2
     rw[← e1]
     exact Ae
  ·rintro ys H3 b ⟨s3,qs,rfl,hq,nd,nq,hqs⟩ nb
   rw[Apx,N.l] at hq
   have s4:Ax H2 (upd H3 b (.lst (qs.map V.ref))):=s3.new nb
   refine⟨_,rfl,_,_,_,_,rfl,s4 _ _ hr2,T.QF.c,T.Adc,(by show 1<1000;decide),?_⟩
   obtain⟨b5,hr5,hb5,nbr⟩:=Xn (n := "ties") (xs:=qs.map V.ref) (s3 _ _ hr2) nb
   generalize upd (upd H3 b (.lst (qs.map V.ref))) r (.ins t.Eu dx (Ej "ties" (.ref b) (Ej "threading" (.ref a) [])))=H5 at b5 hr5 hb5 ⊢
   have nqr:∀ q∈qs,q≠r:=fun q h e=>by have:=(nq q h).1;rw[e,hr2] at this;cases this
   have q5:∀ q∈qs,H5 q≠none:=fun q h=>by
    cases e:H3 q with
    | none=>exact absurd e (nq q h).2
    | some o=>rw[b5 q o (nqr q h) e];exact fun z=>by cases z
   have hq5:∀(j:Nat) (q:Addr) (ks:List Int),qs[j]?=some q→tss[j]?=some ks→H5 q=some (.lst (vI ks)):=fun j q ks h1 h2=>b5 _ _ (nqr q (ApP h1)) (hqs j q ks h1 h2)
   have ha5:H5 a=some (.lst (vI th)):=b5 _ _ nra (s3 _ _ ha2)
   have f5:∀ q,H5 q=none→H q=none:=fun q h=>fre q (by
    have Aig:q≠r:=fun e=>by rw[e,hr5] at h;cases h
    cases e:H2 q with
    | none=>rfl
    | some o=>rw[b5 q o Aig (s3 _ _ e)] at h;cases h)
   have pr:∀{H6:Hp} {u:Addr},(∀ b o,b≠r→H5 b=some o→H6 b=some o)→H6 u=none→u≠b∧u≠a∧u∉qs:=fun {H6 u} kk nu=>by
    refine⟨fun e=>?_,fun e=>?_,fun hm=>?_⟩
    ·rw[e,kk _ _ nbr hb5] at nu;cases nu
    ·rw[e,kk _ _ nra ha5] at nu;cases nu
    ·cases e:H5 u with
     | none=>exact q5 u hm e
     | some o=>rw[kk _ _ (nqr u hm) e] at nu;cases nu
   refine⟨Ap7 _,fun c nc=>⟨_,rfl,_,_,_,_,rfl,(Ax.upd nc) _ _ hr5,T.QF.c,T.Ade,(by show 2<1000;decide),?_⟩⟩
   obtain⟨b6,hr6,hc6,ncr⟩:=Xn (n := "down") (xs:=[]) hr5 nc
   generalize upd (upd H5 c (.lst [])) r (.ins t.Eu dx (Ej "down" (.ref c) (Ej "ties" (.ref b) (Ej "threading" (.ref a) []))))=H6 at b6 hr6 hc6 ⊢
   refine⟨Ap7 _,fun e ne=>⟨_,rfl,_,_,_,_,rfl,(Ax.upd ne) _ _ hr6,T.QF.c,T.QG,(by show 3<1000;decide),?_⟩⟩
   obtain⟨b7,hr7,he7,ner⟩:=Xn (n := "thrown") (xs:=[]) hr6 ne
   generalize upd (upd H6 e (.lst [])) r (.ins t.Eu dx (Ej "thrown" (.ref e) (Ej "down" (.ref c) (Ej "ties" (.ref b) (Ej "threading" (.ref a) [])))))=H7 at b7 hr7 he7 ⊢
   refine⟨Ap7 _,fun g ng=>⟨_,rfl,_,_,_,_,rfl,(Ax.upd ng) _ _ hr7,T.QF.c,T.AbH,(by show 4<1000;decide),?_⟩⟩
   obtain⟨b8,hr8,hg8,ngr⟩:=Xn (n := "deeds") (xs:=[]) hr7 ng
   have AmG:(upd (upd H7 g (.lst [])) r (.ins t.Eu dx (Ej "deeds" (.ref g) (Ej "thrown" (.ref e) (Ej "down" (.ref c) (Ej "ties" (.ref b) (Ej "threading" (.ref a) []))))))) r=some (.ins t.Eu dx (lf a b c e g)):=hr8
   generalize upd (upd H7 g (.lst [])) r (.ins t.Eu dx (Ej "deeds" (.ref g) (Ej "thrown" (.ref e) (Ej "down" (.ref c) (Ej "ties" (.ref b) (Ej "threading" (.ref a) []))))))=H8 at b8 hr8 AmG hg8 ⊢
   have b67:∀ u o,u≠r→H5 u=some o→H7 u=some o:=fun u o nu e=>b7 _ _ nu (b6 _ _ nu e)
   have b58:∀ u o,u≠r→H5 u=some o→H8 u=some o:=fun u o nu e=>b8 _ _ nu (b67 _ _ nu e)
   obtain⟨c1,c2,c3⟩:=pr (H6:=H5) (fun _ _ _ e=>e) nc
   obtain⟨e1,e2,e3⟩:=pr b6 ne
   obtain⟨g1',g2,g3⟩:=pr b67 ng
   have ec:e≠c:=fun z=>by rw[z,hc6] at ne;cases ne
   have gc:g≠c:=fun z=>by rw[z,b7 _ _ ncr hc6] at ng;cases ng
   have ge:g≠e:=fun z=>by rw[z,he7] at ng;cases ng
   have ba:b≠a:=fun z=>by rw[z,s3 _ _ ha2] at nb;cases nb
   have bq:b∉qs:=fun h=>(nq b h).2 nb
   have aq:a∉qs:=fun h=>by have:=(nq a h).1;rw[ha2] at this;cases this
   have fr6:∀ q,H6 q=none→H5 q=none:=fun q h=>by
    have Aig:q≠r:=fun e=>by rw[e,hr6] at h;cases h
    cases e:H5 q with
    | none=>rfl
    | some o=>rw[b6 q o Aig e] at h;cases h
   have fr7:∀ q,H7 q=none→H5 q=none:=fun q h=>by
    have Aig:q≠r:=fun e=>by rw[e,hr7] at h;cases h
    cases e:H5 q with
    | none=>rfl
    | some o=>rw[b67 q o Aig e] at h;cases h
   refine k a b c e g qs H8 (fun u o nu e=>b58 _ _ nu (b5 _ _ nu (s3 _ _ (b2 _ _ nu e)))) (fun q hm=>?_) ?_ ⟨AmG,b58 _ _ nra ha5,⟨b58 _ _ nbr hb5,hq,fun j q ks h1 h2=>b58 _ _ (nqr q (ApP h1)) (hq5 j q ks h1 h2)⟩,b8 _ _ ncr (b7 _ _ ncr hc6),b8 _ _ ner he7,hg8⟩
   ·simp only [ApJ] at hm
    rcases hm with rfl | rfl | rfl | rfl | rfl | hm
    ·exact f5 _ (fr7 _ ng)
    ·exact f5 _ (fr6 _ ne)
    ·exact f5 _ nc
    ·exact fre _ (s3.free nb)
    ·exact na
    ·exact fre _ (nq q hm).1
   ·simp only [List.nodup_cons,ApJ,not_or]
    exact⟨⟨ge,gc,g1',g2,g3⟩,⟨ec,e1,e2,e3⟩,⟨c1,c2,c3⟩,⟨ba,bq⟩,aq,nd⟩
def Alm (t:Adr):Sp:=fun vs H _ E=>∃(m dx a b c e g:Addr),vs=[.ref m]∧H m=some (.ins t.Eu dx (lf a b c e g))∧H e=some (.lst [])∧E (.ref t.BV) none H
theorem YS(T:Txt K mg t):Be P w K mg base (CX1 P w) 1 t.PX t.Qa ["self"] (Alm t):=by
 refine T.Ke.F.okX ZJ (fun vs H Q E h=>?_) (fun cdv A outer s H vs Q E hr h=>?_)
 ·obtain⟨m,dx,a,b,c,e,g,rfl,_⟩:=h
  rfl
 ·obtain⟨m,dx,a,b,c,e,g,rfl,hm,he,k⟩:=h
  refine⟨_,(Ac (Bs (Dp (Ace (K:=K) (DG (K:=K) (pv 0) rfl) (fun _=>rfl)))
    (Af (Bx Cm rfl (fun _ _ z=>z) PySem.F.excBase_ValueError Ck PySem.F.excBase_ValueError T.Mz.q rfl T.AdT (Aa Ad Ab)))
    Ak) Fg),?_⟩
  refine⟨_,rfl,_,_,_,_,_,rfl,hm,T.QF.c,T.QG,AmF a b c e g,_,.inl ⟨_,SqL.of he,rfl⟩,?_⟩
  exact Ed ⟨by decide,k⟩
end
def ltm (c m:Nat):List Nat:=List.replicate (m+1) (97+c)
theorem AjB{c m:Nat}(hc:c<6)(hm:m<9):¬Wri (ltm c m):=by
 have:∀ c<6,∀ m<9,acc .start 0 (ltm c m)=false:=by decide +kernel
 rintro(h | h)
 ·simp[ltm] at h
 ·rw[this c hc m hm] at h
  cases h
def mny (m:Nat):List Nat:=[57,57,42,40]++([48+(m+1)]++[42,40,48,32,49,32,50,32,51,32,52,41,41])
def Ajj (m:Nat):It:=.tms 99 [.tms (m+1) [.pth [0],.pth [1],.pth [2],.pth [3],.pth [4]]]
theorem AmH{m:Nat}(hm:m<9):Wri (mny m):=.inr ((by decide +kernel:∀ m<9,acc .start 0 (mny m)=true) m hm)
theorem AmI{m:Nat}(hm:m<9):Prs (mny m) [Ajj m]:=by
 have:m=0∨m=1∨m=2∨m=3∨m=4∨m=5∨m=6∨m=7∨m=8:=by omega
 rcases this with rfl | rfl | rfl | rfl | rfl | rfl | rfl | rfl | rfl <;>
 exact .inr ⟨by decide,_,_,[],rfl,⟨by decide +kernel,_,_,_,[41],rfl,rfl,⟨by decide +kernel,_,_,_,[32,49,32,50,32,51,32,52,41,41],rfl,rfl,⟨by decide +kernel,[],rfl,.stop (by decide +kernel)⟩,.cons (r':=[32,50,32,51,32,52,41,41]) ⟨by decide +kernel,[],rfl,.stop (by decide +kernel)⟩ (.cons (r':=[32,51,32,52,41,41]) ⟨by decide +kernel,[],rfl,.stop (by decide +kernel)⟩ (.cons (r':=[32,52,41,41]) ⟨by decide +kernel,[],rfl,.stop (by decide +kernel)⟩ (.cons (r':=[41,41]) ⟨by decide +kernel,[],rfl,.stop (by decide +kernel)⟩ (.nil (by decide)))))⟩,.nil (by decide)⟩,.nil (by decide)⟩
theorem AmJ{m:Nat}:400<szs [Ajj m]:=by
 have e:szs [Ajj m]=99*(((m+1:Nat):Int)*5):=by
  simp[Ajj,szs,It.sz,psz,Xg]
 rw[e]
 omega
theorem Aln{c m:Nat}(hc:c<6)(hm:m<9):Pat.whole (ltm c m++[40])=none:=by
 have h:∀ c<6,∀ m<9,(Pat.whole (ltm c m++[40])).isNone=true:=by decide +kernel
 exact Option.isNone_iff_eq_none.mp (h c hc m hm)
def mir:List Nat:=[109,105,114,114,111,114,40]
def isM (u:List Nat):Bool:=match Pat.whole u with | some (.node _ [.nam _])=>true | _=>false
theorem Alo{u:List Nat}(h:isM u=true):∃ wd z,Pat.whole u=some (.node wd [.nam z]):=by
 unfold isM at h
 split at h
 ·exact⟨_,_,by assumption⟩
 ·cases h
theorem Ajk{c m:Nat}(hc:c<6)(hm:m<9):∃ wd z,Pat.whole (mir++(ltm c m++[41]))=some (.node wd [.nam z]) :=
 Alo ((by decide +kernel:∀ c<6,∀ m<9,isM (mir++(ltm c m++[41]))=true) c hc m hm)
def bk1:List Nat:=[114,111,119,115,40,35,41]
def bk2:List Nat:=[114,111,119,115,40,46,41]
theorem Ajl:Pat.whole (trim (32::bk1))=some (.node Pat.DQ [.run [35]]):=by rfl
def bkF (c m:Nat):Prop:=10∉ltm c m++(32::61::32::bk1)∧10∉ltm c m++(32::61::32::bk2)∧trim (ltm c m++(32::61::32::bk1))=ltm c m++(32::61::32::bk1)∧trim (ltm c m++(32::61::32::bk2))=ltm c m++(32::61::32::bk2)∧¬(ltm c m++(32::61::32::bk1)).head?=some 59∧¬(ltm c m++(32::61::32::bk2)).head?=some 59∧(∀ x∈ltm c m++[32],¬(x=61∨x=58))∧trim (ltm c m++[32])=ltm c m∧Pat.isName (ltm c m)=true
instance (c m:Nat):Decidable (bkF c m):=inferInstanceAs (Decidable (_∧_))
theorem Aih{c m:Nat}(hc:c<6)(hm:m<9):bkF c m:=(by decide +kernel:∀ c<6,∀ m<9,bkF c m) c hc m hm
theorem Aod{c m:Nat}(hc:c<6)(hm:m<9):Lok [] (ltm c m++(32::61::32::bk1)) (ltm c m,[[35]]):=by
 obtain⟨_,_,_,_,_,_,h7,h8,h9⟩:=Aih hc hm
 exact⟨ltm c m++[32],32::bk1,by simp,h7,h8,h9,fun q hq=>by simp at hq,Ajl,by rfl⟩
section
variable {P:Program}{w:World}{K:PySem.W.Frag}{mg:Str→Option Value}{base:Heap}{t:Adr}
def wcl (t:Adr):Nat→Addr
 | 0=>t.BX
 | 1=>t.Bg
 | 2=>t.Bw
 | 3=>t.Br
 | 4=>t.Bh
 | 5=>t.BV
 | 6=>t.Bj
 | 7=>t.Ba
 | 8=>t.Bl
 | 9=>t.By
 | 10=>t.Av
 | 11=>t.Bv
 | _=>t.Cd
theorem AjC{α:Type}(n:Nat)(x:α):(List.replicate n [x]).flatten=List.replicate n x:=by
 induction n with
 | zero=>rfl
 | succ n ih=>rw[ApQ,ApM,ih,ApQ];rfl
theorem QS{x n:Nat}(hn:n≤40){H:Hp}{Q:VK}(k:Q (.str (tx (List.replicate n x))) H):AgU (.str (tx [x])) (.int (n:Int)) H Q :=
 ⟨[x],n,rfl,rfl,by omega,by omega,by rw[ApK,ApF,Nat.one_mul];exact Ho hn,by rw[ApK,AjC];exact k⟩
theorem Aii{x n:Nat}{i:Int}(e:i=(n:Int))(hn:n≤40){H:Hp}{Q:VK}(k:Q (.str (tx (List.replicate n x))) H):AgU (.str (tx [x])) (.int i) H Q:=by
 subst e
 exact QS hn k
theorem Afn(n:Nat):(List.replicate n [V.int 0]).flatten=vI (List.replicate n 0):=by
 rw[AjC]
 unfold vI
 rw[List.map_replicate]
theorem ltx{c m:Nat}:tx (List.replicate (m+1) (97+c))=tx (ltm c m):=rfl
theorem AmK:(Str.ofString "(")=tx [40]:=by decide +kernel
theorem AmL:(Str.ofString ")")=tx [41]:=by decide +kernel
theorem Alp:(Str.ofString "mirror(")=tx mir:=by decide +kernel
theorem Ajm:(Str.ofString " = rows(#)\n")=tx ([32,61,32]++bk1++[10]):=by decide +kernel
theorem AmM:(Str.ofString " = rows(.)")=tx ([32,61,32]++bk2):=by decide +kernel
theorem ltl{c m:Nat}(hm:m<9):(ltm c m).length≤9:=by unfold ltm;rw[Ap9];omega
theorem lg9{m:Nat}(hm:m<9):((m+1:Nat):Int).natAbs.log2<1920:=(by decide +kernel:∀ m<9,((m+1:Nat):Int).natAbs.log2<1920) m hm
theorem ln1{m:Nat}(hm:m<9):(Str.ofString "99*(").length+(Str.ofString (toString ((m+1:Nat):Int))).length≤sizeLine:=(by decide +kernel:∀ m<9,(Str.ofString "99*(").length+(Str.ofString (toString ((m+1:Nat):Int))).length≤16777216) m hm
theorem ln2{m:Nat}(hm:m<9):(Str.ofString "99*(" ++ Str.ofString (toString ((m+1:Nat):Int))).length+(Str.ofString "*(0 1 2 3 4))").length≤sizeLine:=(by decide +kernel:∀ m<9,(Str.ofString "99*(" ++ Str.ofString (toString ((m+1:Nat):Int))).length+(Str.ofString "*(0 1 2 3 4))").length≤16777216) m hm
theorem AmN(r:Int):atI (("abcdef" : Str)).cps.toList (r%6)=some (97+(r%6).toNat):=by
 have h0:=Int.emod_nonneg r (show(6:Int)≠0 by decide)
 have h1:=AqC r (show(0:Int)<6 by decide)
 have e:(("abcdef" : Str)).cps.toList=[97,98,99,100,101,102]:=by decide +kernel
 refine CJ h0 ?_
 rw[e]
 have:∀ c<6,[97,98,99,100,101,102][c]?=some (97+c):=by decide
 exact this _ (by omega)
theorem s35:(Str.ofString "#")=tx [35]:=by decide +kernel
theorem st1{m:Nat}(hm:m<9):(("99*(" : Str))++((toString ((m+1:Nat):Int):String):Str)++("*(0 1 2 3 4))" : Str)=tx (mny m):=(by decide +kernel:∀ m<9,(("99*(" : Str))++((toString ((m+1:Nat):Int):String):Str)++("*(0 1 2 3 4))" : Str)=tx (mny m)) m hm
def Ajn (t:Adr):Sp:=fun vs H _ E=>∃(wy:Nat) (r:Int),vs=[.int (wy:Int),.int r]∧wy<13∧∀ H',Ax H H'→E (.ref (wcl t wy)) none H'
theorem Adu(T:Txt K mg t):Be P w K mg base (CX1 P w) 43 t.Abb t.Abd ["way", "rest"] (Ajn t):=by
 refine T.Wf.F.okX Pr (fun vs H Q E h=>?_) (fun cdv A outer s H vs Q E hr h=>?_)
 ·obtain⟨wy,r,rfl,_⟩:=h
  rfl
 ·obtain⟨wy,r,rfl,hw,k⟩:=h
  refine⟨_,(Ac (Aw (i:=2) Pr.nd rfl (Or.inl rfl) (CG Aa3 Ad (Bu Fz (pv 1) Ai) (fun _ _=>rfl)))
   (Ac (Aw (i:=3) Pr.nd rfl (Or.inl rfl) (Bu Hc Ai (Bu Fz (pv 1) Ai)))
   (Ac (Bs (Ay Ce (pv 0) Ai (Al _))
    (Af (Am (Aj ((Xj T).mono (by decide)) hr rfl T.JT.m T.JT.F.kp T.JT.b .nil BZ (Aa (Bu Gi (pv 2) (pv 3)) Ab))))
    Ak)
   (Ac (Bs (Ay Ce (pv 0) Ai (Al _))
    (Af (Am (Aj ((Xj T).mono (by decide)) hr rfl T.JT.m T.JT.F.kp T.JT.b .nil BZ (Aa (Bu DX (Bu DX Ad (Fi AcB rfl T.Amy Akj (Aa (pv 3) Ab))) Ad) Ab))))
    Ak)
   (Ac (Bs (Ay Ce (pv 0) Ai (Al _))
    (Af (Am (Aj ((Gb T).mono (by decide)) hr rfl T.measured.m T.measured.F.kp T.measured.b .nil BZ (Aa (BJ (Aa (Bu Gi Ad (pv 3)) (Aa (Bu Gi Ad (Bu Hc (pv 3) Ai)) Ab))) Ab))))
    Ak)
   (Ac (Bs (Ay Ce (pv 0) Ai (Al _))
    (Af (Am (Gw T.AiF.m ((Vc T).mono (by decide)) hr rfl T.AiE T.M3.b .nil BZ (Aa (Bu Aes (BJ (Aa Ai Ab)) (pv 3)) (Aa (BJ (Aa (BJ (Aa Ai Ab)) (Aa (BJ (Aa (pv 3) (Aa (pv 3) Ab))) Ab))) (Aa (BJ (Aa Ai Ab)) Ab))))))
    Ak)
   (Ac (Bs (Ay Ce (pv 0) Ai (Al _))
    (Af (Am (Aj ((Aal T).mono (by decide)) hr rfl T.KD.m T.KD.F.kp T.KD.b .nil BZ (Aa (BJ (Aa (Bu Gi Ad (pv 3)) Ab)) (Aa (Bu Fz (pv 1) (pv 3)) (Aa (Bu Fz (Bu Fw (pv 1) Ai) (pv 3)) Ab))))))
    Ak)
   (Ac (Bs (Ay Ce (pv 0) Ai (Al _))
    (Af (Am (Li (Gw T.QF.m ((Xo T).mono (by decide)) hr rfl T.AkD T.Ow.b .nil BZ (Aa (Bu Aes (BJ (Aa Ai Ab)) (pv 3)) (Aa (BJ (Aa (BJ (Aa Ai Ab)) Ab)) Ab))) T.QF.c T.Ke.m ((YS T).mono (by decide)) hr T.Ke.b .nil BZ)))
    Ak)
   (Ac (Bs (Ay Ce (pv 0) Ai (Al _))
    (Af (Am (Aj ((Xk T).mono (by decide)) hr rfl T.Ih.m T.Ih.F.kp T.Ih.b .nil BZ (Aa (BJ (Aa (BJ (Aa Ad Ab)) Ab)) (Aa (BJ (Aa Ai (Aa (pv 3) Ab))) (Aa (BJ (Aa Ai Ab)) Ab))))))
    Ak)
   (Ac (Bs (Ay Ce (pv 0) Ai (Al _))
    (Af (Am (Aj ((Adt T).mono (by decide)) hr rfl T.We.m T.We.F.kp T.We.b .nil BZ (Aa (BJ (Aa (Bu Gi Ad (pv 3)) Ab)) (Aa (BJ (Aa Ai (Aa (pv 3) Ab))) Ab)))))
    Ak)
   (Ac (Bs (Ay Ce (pv 0) Ai (Al _))
    (Af (Am (Aj ((Ab3 T).mono (by decide)) hr rfl T.MT.m T.MT.F.kp T.MT.b .nil BZ (Aa (BJ (Aa (Bu Gi Ad (pv 3)) Ab)) (Aa (Bu Gi (pv 2) (Bu Hc (pv 3) Ai)) (Aa (pv 2) Ab))))))
    Ak)
   (Ac (Bs (Ay Ce (pv 0) Ai (Al _))
    (Af (Am (Aj ((Xm T).mono (by decide)) hr rfl T.Ig.m T.Ig.F.kp T.Ig.b .nil BZ (Aa (BJ (Aa Ad Ab)) (Aa (BJ (Aa (Bu Gi Ad (pv 3)) Ab)) (Aa (BJ (Aa (Bu Gi Ad (Bu Hc (pv 3) Ai)) Ab)) Ab))))))
    Ak)
   (Ac (Bs (Ay Ce (pv 0) Ai (Al _))
    (Af (Am (Aj ((Aic (Ac3 T) (Ab1 T)).mono (by decide)) hr rfl T.Cz.m T.Cz.F.kp T.Cz.b .nil BZ (Aa (Bu DX (Bu Gi (pv 2) (pv 3)) Ad) (Aa (BJ Ab) Ab)))))
    Ak)
   (Ac (Bs (Ay Ce (pv 0) Ai (Al _))
    (Af (Am (Aj ((Aic (Ac3 T) (Ab1 T)).mono (by decide)) hr rfl T.Cz.m T.Cz.F.kp T.Cz.b .nil BZ (Aa (Bu DX (Bu DX Ad (Bu Gi (pv 2) (pv 3))) Ad) (Aa (BJ Ab) Ab)))))
    Ak)
   (Af (Am (Aj ((Ajg T).mono (by decide)) hr rfl T.Rj.m T.Rj.F.kp T.Rj.b .nil BZ (Aa (Bu DX (Bu DX (Bu DX (Bu Gi (pv 2) (pv 3)) Ad) (Bu Gi (pv 2) (pv 3))) Ad) Ab)))))))))))))))))),?_⟩
  obtain⟨c,ec,hc⟩:∃ c:Nat,(r%6).toNat=c∧c<6:=⟨_,rfl,by omega⟩
  obtain⟨m,em,hm⟩:∃ m:Nat,1+r%9=((m+1:Nat):Int)∧m<9:=⟨(r%9).toNat,by omega,by omega⟩
  refine⟨_,rfl,_,_,rfl,rfl,(by show(0:Int)<6;decide),_,_,_,rfl,rfl,(by decide +kernel),AmN r,?_⟩
  refine DP (v':=.str (tx [97+c])) (by rw[AgD,ec]) rfl ?_
  refine⟨_,rfl,_,_,rfl,rfl,(by show(0:Int)<9;decide),_,_,rfl,rfl,?_⟩
  refine DP (congrArg V.int em) rfl ?_
  rw[s35]
  clear em ec
  have hw':wy=0∨wy=1∨wy=2∨wy=3∨wy=4∨wy=5∨wy=6∨wy=7∨wy=8∨wy=9∨wy=10∨wy=11∨wy=12:=by omega
  rcases hw' with rfl | rfl | rfl | rfl | rfl | rfl | rfl | rfl | rfl | rfl | rfl | rfl | rfl
  ·refine⟨_,rfl,rfl,_,rfl,Eh rfl ?_⟩
   exact⟨_,rfl,_,rfl,QS (by omega) ⟨ltm c m,rfl,by simp[ltm];omega,fun xs q H' R=>absurd R.w (AjB hc hm),fun xs H' R=>absurd R.w (AjB hc hm),fun H' _ s=>k H' s⟩⟩
  ·refine⟨_,rfl,rfl,_,rfl,Bq (by decide) ?_⟩
   refine⟨_,rfl,rfl,_,rfl,Eh rfl ?_⟩
   refine⟨_,rfl,_,rfl,lg9 hm,_,_,rfl,rfl,ln1 hm,_,_,rfl,rfl,ln2 hm,mny m,(by rw[← st1 hm];rfl),(by simp[mny]),fun xs q H' R hs=>?_,fun xs H' _ _ s=>k H' s,fun H' h=>absurd (AmH hm) h⟩
   have:=R.r.det (AmI hm)
   rw[this] at hs
   exact absurd hs (Int.not_le.mpr AmJ)
  ·refine⟨_,rfl,rfl,_,rfl,Bq (by decide) ?_⟩
   refine⟨_,rfl,rfl,_,rfl,Bq (by decide) ?_⟩
   refine⟨_,rfl,rfl,_,rfl,Eh rfl ?_⟩
   refine⟨_,rfl,QS (by omega) ⟨_,rfl,_,_,rfl,rfl,Aii (n:=m+2) (by omega) (by omega) ⟨(by show 2≤sizeLine;decide),fun q hq=>⟨q,[List.replicate (m+1) 35,List.replicate (m+2) 35],rfl,SqL.of Ae,(by show 2≤1000;decide),fun u hu=>?_,fun m' n' C=>?_,fun _=>k _ (.upd hq)⟩⟩⟩⟩
   ·simp at hu
    rcases hu with rfl | rfl <;> simp <;> omega
   ·have h1:=C.hm (List.replicate (m+1) 35) (by simp)
    have h2:=C.hm (List.replicate (m+2) 35) (by simp)
    rw[Ap9] at h1 h2
    omega
  ·refine⟨_,rfl,rfl,_,rfl,Bq (by decide) ?_⟩
   refine⟨_,rfl,rfl,_,rfl,Bq (by decide) ?_⟩
   refine⟨_,rfl,rfl,_,rfl,Bq (by decide) ?_⟩
   refine⟨_,rfl,rfl,_,rfl,Eh rfl ?_⟩
   refine⟨(by show 1≤sizeLine;decide),fun q1 hq1=>⟨_,rfl,q1,_,_,rfl,rfl,Ae,(by omega),(by omega),(by show 1*_≤_;rw[ApK,Nat.one_mul];exact Ho (by omega)),fun p hp=>?_⟩⟩
   rw[ApK,Afn]
   have s1:Ax H (upd H q1 (.lst [.int 0])):=.upd hq1
   generalize upd H q1 (.lst [.int 0])=H1 at s1 hp ⊢
   have s2:Ax H1 (upd H1 p (.lst (vI (List.replicate (m+1) 0)))):=.upd hp
   have h2:(upd H1 p (.lst (vI (List.replicate (m+1) 0)))) p=some (.lst (vI (List.replicate (m+1) 0))):=Ae
   generalize upd H1 p (.lst (vI (List.replicate (m+1) 0)))=H2 at s2 h2 ⊢
   refine⟨(by show 1≤sizeLine;decide),fun a1 ha1=>?_⟩
   have s3:Ax H2 (upd H2 a1 (.lst [.int 0])):=.upd ha1
   have h3:(upd H2 a1 (.lst [.int 0])) a1=some (.lst (vI [0])):=Ae
   generalize upd H2 a1 (.lst [.int 0])=H3 at s3 h3 ⊢
   refine⟨_,rfl,_,rfl,(by show 2≤sizeLine;decide),fun a2 ha2=>?_⟩
   have s4:Ax H3 (upd H3 a2 (.lst [.int ((m+1:Nat):Int),.int ((m+1:Nat):Int)])):=.upd ha2
   have h4:(upd H3 a2 (.lst [.int ((m+1:Nat):Int),.int ((m+1:Nat):Int)])) a2=some (.lst (vI [((m+1:Nat):Int),((m+1:Nat):Int)])):=Ae
   generalize upd H3 a2 (.lst [.int ((m+1:Nat):Int),.int ((m+1:Nat):Int)])=H4 at s4 h4 ⊢
   refine⟨(by show 2≤sizeLine;decide),fun y hy=>?_⟩
   have s5:Ax H4 (upd H4 y (.lst [.ref a1,.ref a2])):=.upd hy
   have h5:(upd H4 y (.lst [.ref a1,.ref a2])) y=some (.lst [.ref a1,.ref a2]):=Ae
   generalize upd H4 y (.lst [.ref a1,.ref a2])=H5 at s5 h5 ⊢
   refine⟨(by show 1≤sizeLine;decide),fun z hz=>?_⟩
   have s6:Ax H5 (upd H5 z (.lst [.int 0])):=.upd hz
   generalize upd H5 z (.lst [.int 0])=H6 at s6 ⊢
   intro r9 dx hr9 hdx hne
   have s7:Ax H6 (upd (upd H6 dx (.own r9)) r9 (.ins t.MJ dx [])):=Abu hr9 hdx
   have u:=s6.trans s7
   refine⟨r9,p,y,z,[a1,a2],List.replicate (m+1) 0,[[0],[((m+1:Nat):Int),((m+1:Nat):Int)]],rfl,u _ _ (s5 _ _ (s4 _ _ (s3 _ _ h2))),⟨u _ _ h5,rfl,fun i a ks e1 e2=>?_⟩,(by rw[Ap9];omega),(by show 2≤1000;decide),fun ks hk=>?_,fun g=>?_,k _ ((((((s1.trans s2).trans s3).trans s4).trans s5).trans s6).trans s7)⟩
   ·rcases i with _ | _ | i
    ·cases e1;cases e2;exact u _ _ (s5 _ _ (s4 _ _ h3))
    ·cases e1;cases e2;exact u _ _ (s5 _ _ h4)
    ·simp at e1
   ·simp at hk
    rcases hk with rfl | rfl <;> simp
   ·have:=(g.2.2.2 [((m+1:Nat):Int),((m+1:Nat):Int)] (by simp)).1 0 _ _ rfl rfl
    omega
  ·refine⟨_,rfl,rfl,_,rfl,Bq (by decide) ?_⟩
   refine⟨_,rfl,rfl,_,rfl,Bq (by decide) ?_⟩
   refine⟨_,rfl,rfl,_,rfl,Bq (by decide) ?_⟩
   refine⟨_,rfl,rfl,_,rfl,Bq (by decide) ?_⟩
   refine⟨_,rfl,rfl,_,rfl,Eh rfl ?_⟩
   refine⟨_,rfl,QS (by omega) ⟨(by show 1≤sizeLine;decide),fun q hq=>?_⟩⟩
   have p1:(0:Int)<((m+1:Nat):Int):=by omega
   refine⟨_,rfl,_,rfl,_,_,rfl,rfl,p1,_,rfl,_,_,rfl,rfl,⟨by decide,by decide⟩,_,rfl,_,_,rfl,rfl,p1,?_⟩
   have a1:=Int.emod_nonneg r (Int.ne_of_gt p1)
   have a2:=AqC r p1
   have b1:=Int.emod_nonneg (r / 9) (Int.ne_of_gt p1)
   have b2:=AqC (r / 9) p1
   exact⟨q,m+1,(r%((m+1:Nat):Int)).toNat,(r / 9%((m+1:Nat):Int)).toNat,(by rw[Int.toNat_of_nonneg a1,Int.toNat_of_nonneg b1];rfl),SqL.of Ae,(by omega),(by omega),(by omega),fun H' s=>k H' ((Ax.upd hq).trans s)⟩
  ·refine⟨_,rfl,rfl,_,rfl,Bq (by decide) ?_⟩
   refine⟨_,rfl,rfl,_,rfl,Bq (by decide) ?_⟩
   refine⟨_,rfl,rfl,_,rfl,Bq (by decide) ?_⟩
   refine⟨_,rfl,rfl,_,rfl,Bq (by decide) ?_⟩
   refine⟨_,rfl,rfl,_,rfl,Bq (by decide) ?_⟩
   refine⟨_,rfl,rfl,_,rfl,Eh rfl ?_⟩
   refine⟨(by show 1≤sizeLine;decide),fun q1 hq1=>⟨_,rfl,q1,_,_,rfl,rfl,Ae,(by omega),(by omega),(by show 1*_≤_;rw[ApK,Nat.one_mul];exact Ho (by omega)),fun p hp=>?_⟩⟩
   rw[ApK,Afn]
   have s1:Ax H (upd H q1 (.lst [.int 0])):=.upd hq1
   generalize upd H q1 (.lst [.int 0])=H1 at s1 hp ⊢
   have s2:Ax H1 (upd H1 p (.lst (vI (List.replicate (m+1) 0)))):=.upd hp
   have h2:(upd H1 p (.lst (vI (List.replicate (m+1) 0)))) p=some (.lst (vI (List.replicate (m+1) 0))):=Ae
   generalize upd H1 p (.lst (vI (List.replicate (m+1) 0)))=H2 at s2 h2 ⊢
   refine⟨(by show 1≤sizeLine;decide),fun a1 ha1=>?_⟩
   have s3:Ax H2 (upd H2 a1 (.lst [.int 0])):=.upd ha1
   have h3:(upd H2 a1 (.lst [.int 0])) a1=some (.lst (vI [0])):=Ae
   generalize upd H2 a1 (.lst [.int 0])=H3 at s3 h3 ⊢
   refine⟨(by show 1≤sizeLine;decide),fun y hy=>?_⟩
   have s5:Ax H3 (upd H3 y (.lst [.ref a1])):=.upd hy
   have h5:(upd H3 y (.lst [.ref a1])) y=some (.lst [.ref a1]):=Ae
   generalize upd H3 y (.lst [.ref a1])=H5 at s5 h5 ⊢
   intro r9 dx hr9 hdx hne
   have s7:Ax H5 (upd (upd H5 dx (.own r9)) r9 (.ins t.Eu dx [])):=Abu hr9 hdx
   have so:Ac5 (List.replicate (m+1) 0) [[0]]:=by
    refine⟨⟨by rw[Ap9];omega,by rw[Ap9];omega⟩,⟨by decide,by decide⟩,fun v hv=>by rw[AqB hv];decide,fun ks hk=>?_⟩
    rw[List.mem_singleton.mp hk]
    exact⟨fun i a b e1 e2=>by simp at e2,fun k hk=>by rw[List.mem_singleton.mp hk];decide⟩
   refine⟨r9,dx,p,y,[a1],List.replicate (m+1) 0,[[0]],rfl,Ae,s7 _ _ (s5 _ _ (s3 _ _ h2)),⟨s7 _ _ h5,rfl,fun i a ks e1 e2=>?_⟩,(by rw[Ap9];omega),(by decide),(by decide),fun _ a b c e g qs H' sb fr nd M=>⟨rfl,?_⟩,fun h=>absurd so h⟩
   ·rcases i with _ | i
    ·cases e1;cases e2;exact s7 _ _ (s5 _ _ h3)
    ·simp at e1
   ·refine⟨r9,dx,_,rfl,M.o,rfl,r9,dx,a,b,c,e,g,rfl,M.o,M.he,k _ ?_⟩
    exact(((s1.trans s2).trans s3).trans s5).trans (YC hr9 hdx sb)
  ·refine⟨_,rfl,rfl,_,rfl,Bq (by decide) ?_⟩
   refine⟨_,rfl,rfl,_,rfl,Bq (by decide) ?_⟩
   refine⟨_,rfl,rfl,_,rfl,Bq (by decide) ?_⟩
   refine⟨_,rfl,rfl,_,rfl,Bq (by decide) ?_⟩
   refine⟨_,rfl,rfl,_,rfl,Bq (by decide) ?_⟩
   refine⟨_,rfl,rfl,_,rfl,Bq (by decide) ?_⟩
   refine⟨_,rfl,rfl,_,rfl,Eh rfl ?_⟩
   refine⟨(by show 1≤sizeLine;decide),fun a ha=>⟨(by show 1≤sizeLine;decide),fun p hp=>?_⟩⟩
   have s2:Ax H (upd (upd H a (.lst [.str (tx [35])])) p (.lst [.ref a])):=(Ax.upd ha).new hp
   have h2:(upd (upd H a (.lst [.str (tx [35])])) p (.lst [.ref a])) p=some (.lst [.ref a]):=Ae
   generalize upd (upd H a (.lst [.str (tx [35])])) p (.lst [.ref a])=H2 at s2 h2 ⊢
   refine⟨_,rfl,(by show 2≤sizeLine;decide),fun pe hpe=>?_⟩
   have s3:Ax H2 (upd H2 pe (.lst [.int 0,.int ((m+1:Nat):Int)])):=.upd hpe
   have h3:(upd H2 pe (.lst [.int 0,.int ((m+1:Nat):Int)])) pe=some (.lst (vI [0,((m+1:Nat):Int)])):=Ae
   generalize upd H2 pe (.lst [.int 0,.int ((m+1:Nat):Int)])=H3 at s3 h3 ⊢
   refine⟨(by show 1≤sizeLine;decide),fun po hpo=>?_⟩
   have s4:Ax H3 (upd H3 po (.lst [.int 0])):=.upd hpo
   exact⟨p,pe,po,_,m+1,rfl,s4 _ _ (s3 _ _ h2),s4 _ _ h3,(by omega),k _ ((s2.trans s3).trans s4)⟩
  ·refine⟨_,rfl,rfl,_,rfl,Bq (by decide) ?_⟩
   refine⟨_,rfl,rfl,_,rfl,Bq (by decide) ?_⟩
   refine⟨_,rfl,rfl,_,rfl,Bq (by decide) ?_⟩
   refine⟨_,rfl,rfl,_,rfl,Bq (by decide) ?_⟩
   refine⟨_,rfl,rfl,_,rfl,Bq (by decide) ?_⟩
   refine⟨_,rfl,rfl,_,rfl,Bq (by decide) ?_⟩
   refine⟨_,rfl,rfl,_,rfl,Bq (by decide) ?_⟩
   refine⟨_,rfl,rfl,_,rfl,Eh rfl ?_⟩
   refine⟨_,rfl,QS (by omega) ⟨(by show 1≤sizeLine;decide),fun q hq=>?_⟩⟩
   have s1:Ax H (upd H q (.lst (vS [List.replicate (m+1) 35]))):=.upd hq
   have h1:(upd H q (.lst (vS [List.replicate (m+1) 35]))) q=some (.lst (vS [List.replicate (m+1) 35])):=Ae
   refine⟨_,rfl,(by show 2≤sizeLine;decide),fun b hb=>?_⟩
   exact⟨q,b,m+1,_,_,rfl,SqL.of ((Ax.upd hb) _ _ h1),(by omega),(by omega),Ae,fun H' s=>k H' ((s1.trans (.upd hb)).trans s)⟩
  ·refine⟨_,rfl,rfl,_,rfl,Bq (by decide) ?_⟩
   refine⟨_,rfl,rfl,_,rfl,Bq (by decide) ?_⟩
   refine⟨_,rfl,rfl,_,rfl,Bq (by decide) ?_⟩
   refine⟨_,rfl,rfl,_,rfl,Bq (by decide) ?_⟩
   refine⟨_,rfl,rfl,_,rfl,Bq (by decide) ?_⟩
   refine⟨_,rfl,rfl,_,rfl,Bq (by decide) ?_⟩
   refine⟨_,rfl,rfl,_,rfl,Bq (by decide) ?_⟩
   refine⟨_,rfl,rfl,_,rfl,Bq (by decide) ?_⟩
   refine⟨_,rfl,rfl,_,rfl,Eh rfl ?_⟩
   refine⟨_,rfl,QS (by omega) ⟨(by show 1≤sizeLine;decide),fun q hq=>?_⟩⟩
   have s1:Ax H (upd H q (.lst (vS [List.replicate (m+1) 35]))):=.upd hq
   refine⟨_,rfl,_,rfl,_,_,rfl,rfl,Aii (n:=m+2) (by omega) (by omega) ?_⟩
   exact⟨_,rfl,q,m+1,List.replicate (m+2) (97+c),_,rfl,SqL.of Ae,(by omega),(by omega),(by rw[Ap9]),fun H' s=>k H' (s1.trans s)⟩
  ·refine⟨_,rfl,rfl,_,rfl,Bq (by decide) ?_⟩
   refine⟨_,rfl,rfl,_,rfl,Bq (by decide) ?_⟩
   refine⟨_,rfl,rfl,_,rfl,Bq (by decide) ?_⟩
   refine⟨_,rfl,rfl,_,rfl,Bq (by decide) ?_⟩
   refine⟨_,rfl,rfl,_,rfl,Bq (by decide) ?_⟩
   refine⟨_,rfl,rfl,_,rfl,Bq (by decide) ?_⟩
   refine⟨_,rfl,rfl,_,rfl,Bq (by decide) ?_⟩
   refine⟨_,rfl,rfl,_,rfl,Bq (by decide) ?_⟩
   refine⟨_,rfl,rfl,_,rfl,Bq (by decide) ?_⟩
   refine⟨_,rfl,rfl,_,rfl,Eh rfl ?_⟩
   refine⟨(by show 1≤sizeLine;decide),fun a ha=>?_⟩
   have s1:Ax H (upd H a (.lst (vS [List.replicate 1 35]))):=.upd ha
   have h1:(upd H a (.lst (vS [List.replicate 1 35]))) a=some (.lst (vS [List.replicate 1 35])):=Ae
   refine⟨_,rfl,QS (by omega) ⟨(by show 1≤sizeLine;decide),fun b hb=>?_⟩⟩
   have s2:Ax (upd H a (.lst (vS [List.replicate 1 35]))) (upd (upd H a (.lst (vS [List.replicate 1 35]))) b (.lst (vS [List.replicate (m+1) 35]))):=.upd hb
   have h2:(upd (upd H a (.lst (vS [List.replicate 1 35]))) b (.lst (vS [List.replicate (m+1) 35]))) b=some (.lst (vS [List.replicate (m+1) 35])):=Ae
   refine⟨_,rfl,_,_,rfl,rfl,Aii (n:=m+2) (by omega) (by omega) ⟨(by show 1≤sizeLine;decide),fun d hd=>?_⟩⟩
   have s3:Ax (upd (upd H a (.lst (vS [List.replicate 1 35]))) b (.lst (vS [List.replicate (m+1) 35]))) (upd (upd (upd H a (.lst (vS [List.replicate 1 35]))) b (.lst (vS [List.replicate (m+1) 35]))) d (.lst (vS [List.replicate (m+2) 35]))):=.upd hd
   exact⟨a,b,d,m+1,m+2,rfl,SqL.of (s3 _ _ (s2 _ _ h1)),SqL.of (s3 _ _ h2),SqL.of Ae,(by omega),(by omega),(by omega),(by omega),(by omega),fun H' s=>k H' (((s1.trans s2).trans s3).trans s)⟩
  ·refine⟨_,rfl,rfl,_,rfl,Bq (by decide) ?_⟩
   refine⟨_,rfl,rfl,_,rfl,Bq (by decide) ?_⟩
   refine⟨_,rfl,rfl,_,rfl,Bq (by decide) ?_⟩
   refine⟨_,rfl,rfl,_,rfl,Bq (by decide) ?_⟩
   refine⟨_,rfl,rfl,_,rfl,Bq (by decide) ?_⟩
   refine⟨_,rfl,rfl,_,rfl,Bq (by decide) ?_⟩
   refine⟨_,rfl,rfl,_,rfl,Bq (by decide) ?_⟩
   refine⟨_,rfl,rfl,_,rfl,Bq (by decide) ?_⟩
   refine⟨_,rfl,rfl,_,rfl,Bq (by decide) ?_⟩
   refine⟨_,rfl,rfl,_,rfl,Bq (by decide) ?_⟩
   refine⟨_,rfl,rfl,_,rfl,Eh rfl ?_⟩
   have l9:=ltl (c:=c) hm
   refine⟨_,rfl,_,rfl,QS (by omega) ⟨_,_,rfl,rfl,(by rw[ltx,AmK,BK,BK];exact Ho (by rw[ApF];omega)),(by show 0≤sizeLine;decide),fun q hq=>.inl ⟨ltm c m++[40],q,(by rw[ltx,AmK,Hx];rfl),(by rw[Apw,ApF];omega),Aln hc hm,fun H' s=>k H' ((Ax.upd hq).trans s)⟩⟩⟩
  ·refine⟨_,rfl,rfl,_,rfl,Bq (by decide) ?_⟩
   refine⟨_,rfl,rfl,_,rfl,Bq (by decide) ?_⟩
   refine⟨_,rfl,rfl,_,rfl,Bq (by decide) ?_⟩
   refine⟨_,rfl,rfl,_,rfl,Bq (by decide) ?_⟩
   refine⟨_,rfl,rfl,_,rfl,Bq (by decide) ?_⟩
   refine⟨_,rfl,rfl,_,rfl,Bq (by decide) ?_⟩
   refine⟨_,rfl,rfl,_,rfl,Bq (by decide) ?_⟩
   refine⟨_,rfl,rfl,_,rfl,Bq (by decide) ?_⟩
   refine⟨_,rfl,rfl,_,rfl,Bq (by decide) ?_⟩
   refine⟨_,rfl,rfl,_,rfl,Bq (by decide) ?_⟩
   refine⟨_,rfl,rfl,_,rfl,Bq (by decide) ?_⟩
   refine⟨_,rfl,rfl,_,rfl,Eh rfl ?_⟩
   have l9:=ltl (c:=c) hm
   obtain⟨wd,z,hz⟩:=Ajk hc hm
   have lm:mir.length=7:=rfl
   refine⟨_,rfl,_,rfl,QS (by omega) ⟨_,_,rfl,rfl,(by rw[ltx,Alp,BK,BK];exact Ho (by omega)),_,_,rfl,rfl,(by rw[ltx,Alp,AmL,Hx,BK,BK,Apw,ApF];exact Ho (by omega)),(by show 0≤sizeLine;decide),fun q hq=>.inr ⟨mir++(ltm c m++[41]),wd,z,q,(by rw[ltx,Alp,AmL,Hx,Hx,ApW];rfl),(by rw[Apw,Apw,ApF];omega),hz,⟨[],Ae,rfl,fun i a p e=>by simp at e⟩,fun H' s=>k H' ((Ax.upd hq).trans s)⟩⟩⟩
  ·refine⟨_,rfl,rfl,_,rfl,Bq (by decide) ?_⟩
   refine⟨_,rfl,rfl,_,rfl,Bq (by decide) ?_⟩
   refine⟨_,rfl,rfl,_,rfl,Bq (by decide) ?_⟩
   refine⟨_,rfl,rfl,_,rfl,Bq (by decide) ?_⟩
   refine⟨_,rfl,rfl,_,rfl,Bq (by decide) ?_⟩
   refine⟨_,rfl,rfl,_,rfl,Bq (by decide) ?_⟩
   refine⟨_,rfl,rfl,_,rfl,Bq (by decide) ?_⟩
   refine⟨_,rfl,rfl,_,rfl,Bq (by decide) ?_⟩
   refine⟨_,rfl,rfl,_,rfl,Bq (by decide) ?_⟩
   refine⟨_,rfl,rfl,_,rfl,Bq (by decide) ?_⟩
   refine⟨_,rfl,rfl,_,rfl,Bq (by decide) ?_⟩
   refine⟨_,rfl,rfl,_,rfl,Bq (by decide) ?_⟩
   have l9:=ltl (c:=c) hm
   obtain⟨f1,f2,f3,f4,f5,f6,f7,f8,f9⟩:=Aih hc hm
   have e1:([32,61,32]++bk1++[10]).length=11:=rfl
   have e2:([32,61,32]++bk2).length=10:=rfl
   refine⟨_,rfl,_,rfl,QS (by omega) ⟨_,_,rfl,rfl,(by rw[ltx,Ajm,BK,BK];exact Ho (by omega)),_,rfl,_,rfl,QS (by omega) ⟨_,_,rfl,rfl,(by rw[ltx,Ajm,Hx,BK,BK,Apw];exact Ho (by omega)),_,_,rfl,rfl,(by rw[ltx,Ajm,AmM,Hx,Hx,BK,BK,Apw,Apw];exact Ho (by omega)),?_⟩⟩⟩
   refine⟨ltm c m++([32,61,32]++bk1++[10])++ltm c m++([32,61,32]++bk2),ltm c m++(32::61::32::bk1),ltm c m++(32::61::32::bk2),ltm c m++[32],32::bk2,(ltm c m,[[35]]),(by rw[ltx,Ajm,AmM,Hx,Hx,Hx];rfl),?_,?_,f1,f2,f3,f4,f5,f6,Aod hc hm,(by simp),f7,f8,f9,fun H' s=>k H' s⟩
   ·rw[Apw,Apw,Apw,e1,e2]
    omega
   ·simp[jn]
theorem xw(T:Txt K mg t):∀ i,i<13→Exn K (wcl t i)
 | 0,_=>T.Gr
 | 1,_=>T.GC
 | 2,_=>T.Gs
 | 3,_=>T.GK
 | 4,_=>T.GD
 | 5,_=>T.Mz
 | 6,_=>T.GF
 | 7,_=>T.GP
 | 8,_=>T.HN
 | 9,_=>T.J3
 | 10,_=>T.Ca
 | 11,_=>T.J4
 | 12,_=>T.Nh
 | n+13,h=>absurd h (by omega)
theorem sw(T:Txt K mg t):∀ i,i<13→PySem.W.mroIn K (wcl t i) (.ref t.Cr)=some true
 | 0,_=>T.T5
 | 1,_=>T.O5
 | 2,_=>T.Qq
 | 3,_=>T.Qs
 | 4,_=>T.O6
 | 5,_=>T.R3
 | 6,_=>T.O7
 | 7,_=>T.Nf
 | 8,_=>T.O9
 | 9,_=>T.Q6
 | 10,_=>T.Ng
 | 11,_=>T.QD
 | 12,_=>T.UJ
 | n+13,h=>absurd h (by omega)
theorem mr0(T:Txt K mg t):∀ i,i<13→PySem.W.mroIn K (wcl t i) (.ref t.BX)=some (decide (i=0))
 | 0,_=>T.Tg
 | 1,_=>T.Yh
 | 2,_=>T.ZQ
 | 3,_=>T.ZS
 | 4,_=>T.Yn
 | 5,_=>T.Abi
 | 6,_=>T.Yt
 | 7,_=>T.Wy
 | 8,_=>T.Yv
 | 9,_=>T.ZW
 | 10,_=>T.W5
 | 11,_=>T.ZZ
 | 12,_=>T.AbF
 | n+13,h=>absurd h (by omega)
theorem mr1(T:Txt K mg t):∀ i,i<13→PySem.W.mroIn K (wcl t i) (.ref t.Bg)=some (decide (i=1))
 | 0,_=>T.Yc
 | 1,_=>T.Jl
 | 2,_=>T.TQ
 | 3,_=>T.Ua
 | 4,_=>T.Rz
 | 5,_=>T.Ws
 | 6,_=>T.R4
 | 7,_=>T.Qy
 | 8,_=>T.RC
 | 9,_=>T.U0
 | 10,_=>T.Q8
 | 11,_=>T.U7
 | 12,_=>T.Y4
 | n+13,h=>absurd h (by omega)
theorem mr2(T:Txt K mg t):∀ i,i<13→PySem.W.mroIn K (wcl t i) (.ref t.Bw)=some (decide (i=2))
 | 0,_=>T.ZK
 | 1,_=>T.T8
 | 2,_=>T.KH
 | 3,_=>T.Wn
 | 4,_=>T.Uh
 | 5,_=>T.Yp
 | 6,_=>T.Uq
 | 7,_=>T.R7
 | 8,_=>T.Uw
 | 9,_=>T.W2
 | 10,_=>T.RL
 | 11,_=>T.W7
 | 12,_=>T.Aab
 | n+13,h=>absurd h (by omega)
theorem mr3(T:Txt K mg t):∀ i,i<13→PySem.W.mroIn K (wcl t i) (.ref t.Br)=some (decide (i=3))
 | 0,_=>T.ZL
 | 1,_=>T.T9
 | 2,_=>T.Wj
 | 3,_=>T.KJ
 | 4,_=>T.Ui
 | 5,_=>T.Yq
 | 6,_=>T.Ur
 | 7,_=>T.R8
 | 8,_=>T.Ux
 | 9,_=>T.W3
 | 10,_=>T.RM
 | 11,_=>T.W8
 | 12,_=>T.Aac
 | n+13,h=>absurd h (by omega)
theorem mr4(T:Txt K mg t):∀ i,i<13→PySem.W.mroIn K (wcl t i) (.ref t.Bh)=some (decide (i=4))
 | 0,_=>T.Yd
 | 1,_=>T.Rq
 | 2,_=>T.TV
 | 3,_=>T.Ub
 | 4,_=>T.Jm
 | 5,_=>T.Wu
 | 6,_=>T.R5
 | 7,_=>T.Qz
 | 8,_=>T.RD
 | 9,_=>T.U3
 | 10,_=>T.Q9
 | 11,_=>T.U8
 | 12,_=>T.Y5
 | n+13,h=>absurd h (by omega)
theorem mr5(T:Txt K mg t):∀ i,i<13→PySem.W.mroIn K (wcl t i) (.ref t.BV)=some (decide (i=5))
 | 0,_=>T.Abg
 | 1,_=>T.Wi
 | 2,_=>T.Yk
 | 3,_=>T.Ym
 | 4,_=>T.Wr
 | 5,_=>T.Ou
 | 6,_=>T.Wx
 | 7,_=>T.Uu
 | 8,_=>T.W0
 | 9,_=>T.Yy
 | 10,_=>T.U6
 | 11,_=>T.Y0
 | 12,_=>T.Abl
 | n+13,h=>absurd h (by omega)
theorem mr6(T:Txt K mg t):∀ i,i<13→PySem.W.mroIn K (wcl t i) (.ref t.Bj)=some (decide (i=6))
 | 0,_=>T.Ye
 | 1,_=>T.Rr
 | 2,_=>T.TX
 | 3,_=>T.Uc
 | 4,_=>T.R0
 | 5,_=>T.Wv
 | 6,_=>T.Jo
 | 7,_=>T.Q0
 | 8,_=>T.RG
 | 9,_=>T.U4
 | 10,_=>T.QB
 | 11,_=>T.U9
 | 12,_=>T.Y6
 | n+13,h=>absurd h (by omega)
theorem mr7(T:Txt K mg t):∀ i,i<13→PySem.W.mroIn K (wcl t i) (.ref t.Ba)=some (decide (i=7))
 | 0,_=>T.Wg
 | 1,_=>T.Qo
 | 2,_=>T.Ru
 | 3,_=>T.Rx
 | 4,_=>T.Qt
 | 5,_=>T.Ul
 | 6,_=>T.Qv
 | 7,_=>T.Hs
 | 8,_=>T.Q4
 | 9,_=>T.RJ
 | 10,_=>T.OD
 | 11,_=>T.RQ
 | 12,_=>T.WD
 | n+13,h=>absurd h (by omega)
theorem mr8(T:Txt K mg t):∀ i,i<13→PySem.W.mroIn K (wcl t i) (.ref t.Bl)=some (decide (i=8))
 | 0,_=>T.Yg
 | 1,_=>T.Rt
 | 2,_=>T.TY
 | 3,_=>T.Ud
 | 4,_=>T.R1
 | 5,_=>T.Ww
 | 6,_=>T.R6
 | 7,_=>T.Q3
 | 8,_=>T.Jp
 | 9,_=>T.U5
 | 10,_=>T.QC
 | 11,_=>T.UG
 | 12,_=>T.Y7
 | n+13,h=>absurd h (by omega)
theorem mr9(T:Txt K mg t):∀ i,i<13→PySem.W.mroIn K (wcl t i) (.ref t.By)=some (decide (i=9))
 | 0,_=>T.ZM
 | 1,_=>T.TF
 | 2,_=>T.Wl
 | 3,_=>T.Wo
 | 4,_=>T.Uj
 | 5,_=>T.Yr
 | 6,_=>T.Us
 | 7,_=>T.R9
 | 8,_=>T.Uy
 | 9,_=>T.KN
 | 10,_=>T.RN
 | 11,_=>T.W9
 | 12,_=>T.Aad
 | n+13,h=>absurd h (by omega)
theorem Aoe(T:Txt K mg t):∀ i,i<13→PySem.W.mroIn K (wcl t i) (.ref t.Av)=some (decide (i=10))
 | 0,_=>T.Wh
 | 1,_=>T.Qp
 | 2,_=>T.Rv
 | 3,_=>T.Ry
 | 4,_=>T.Qu
 | 5,_=>T.Um
 | 6,_=>T.Qw
 | 7,_=>T.O8
 | 8,_=>T.Q5
 | 9,_=>T.RK
 | 10,_=>T.Ht
 | 11,_=>T.RT
 | 12,_=>T.WK
 | n+13,h=>absurd h (by omega)
theorem Aof(T:Txt K mg t):∀ i,i<13→PySem.W.mroIn K (wcl t i) (.ref t.Bv)=some (decide (i=11))
 | 0,_=>T.ZP
 | 1,_=>T.TJ
 | 2,_=>T.Wm
 | 3,_=>T.Wq
 | 4,_=>T.Uk
 | 5,_=>T.Ys
 | 6,_=>T.Ut
 | 7,_=>T.RB
 | 8,_=>T.Uz
 | 9,_=>T.W4
 | 10,_=>T.RP
 | 11,_=>T.KQ
 | 12,_=>T.Aae
 | n+13,h=>absurd h (by omega)
theorem Aog(T:Txt K mg t):∀ i,i<13→PySem.W.mroIn K (wcl t i) (.ref t.Cd)=some (decide (i=12))
 | 0,_=>T.AbE
 | 1,_=>T.Yi
 | 2,_=>T.ZR
 | 3,_=>T.ZV
 | 4,_=>T.Yo
 | 5,_=>T.Abj
 | 6,_=>T.Yu
 | 7,_=>T.Wz
 | 8,_=>T.Yw
 | 9,_=>T.ZX
 | 10,_=>T.W6
 | 11,_=>T.Aaa
 | 12,_=>T.Th
 | n+13,h=>absurd h (by omega)
theorem mrr(T:Txt K mg t):∀ i,i<13→PySem.W.mroIn K (wcl t i) (.ref (wcl t i))=some true
 | 0,_=>T.Tg
 | 1,_=>T.Jl
 | 2,_=>T.KH
 | 3,_=>T.KJ
 | 4,_=>T.Jm
 | 5,_=>T.Ou
 | 6,_=>T.Jo
 | 7,_=>T.Hs
 | 8,_=>T.Jp
 | 9,_=>T.KN
 | 10,_=>T.Ht
 | 11,_=>T.KQ
 | 12,_=>T.Th
 | n+13,h=>absurd h (by omega)
def Alq (t:Adr):Sp:=fun vs H Q _=>∃(wy:Nat) (r:Int),vs=[.int (wy:Int),.int r]∧wy<13∧∀ ea H',Ax H H'→H' ea=some (exH (wcl t wy) ea)→Q (.ref ea) H'
theorem CP(T:Txt K mg t):Be P w K mg base CX0 44 t.VP t.VR ["way", "rest"] (Alq t):=by
 refine T.Bc.F.ok HW (fun vs H Q E h=>?_) (fun cdv A outer s H vs Q E hr h=>?_)
 ·obtain⟨wy,r,rfl,_⟩:=h
  rfl
 ·obtain⟨wy,r,rfl,hw,k⟩:=h
  refine⟨_,(Ac (Aw (i:=2) HW.nd rfl (Or.inl rfl) La)
   (Ac (Akp (j:=3) ⟨rfl,rfl,rfl⟩ rfl (AgM (AgN (AgL ((Adu T).mono (by decide)) hr rfl T.Wf.m T.Wf.F.kp T.Wf.b .nil (Aa (pv 0) (Aa (pv 1) Ab))))) HW.nd rfl rfl rfl T.AcX T.AcY.q AgQ (fun _=>(Af (Aw (i:=2) HW.nd rfl (Or.inl rfl) (pv 3)))))
   (Af (Am (pv 2))))),?_⟩
  refine⟨_,rfl,_,rfl,wy,r,rfl,hw,fun H1 s1=>?_⟩
  refine⟨_,rfl,(xw T wy hw).sub (sw T wy hw),fun ea ne=>?_⟩
  exact⟨_,rfl,_,rfl,k ea _ (s1.new ne) Ae⟩
def tks (wy:Nat):List Bool:=(List.range 13).map fun j=>decide (wy=j)
def AmO (t:Adr):Sp:=fun vs H Q _=>∃(wy:Nat) (ea:Addr),vs=[.ref ea]∧wy<13∧H ea=some (exH (wcl t wy) ea)∧∀ q H',Ax H H'→H' q=some (.lst (vB (tks wy)))→Q (.ref q) H'
theorem CQ(T:Txt K mg t):Be P w K mg base CX0 1 t.Wa t.Wb ["caught"] (AmO t):=by
 refine T.Bd.F.ok Fl (fun vs H Q E h=>?_) (fun cdv A outer s H vs Q E hr h=>?_)
 ·obtain⟨wy,ea,rfl,_⟩:=h
  rfl
 ·obtain⟨wy,ea,rfl,hw,he,k⟩:=h
  refine⟨_,(Ac (Aw (i:=1) Fl.nd rfl (Or.inl rfl) (BJ (Aa (Ar (Cu (K:=K)) rfl T.Bm Bb (Aa (pv 0) (Aa (Ci (v:=.ref t.BX) rfl T.J1 rfl) Ab))) (Aa (Ar (Cu (K:=K)) rfl T.Bm Bb (Aa (pv 0) (Aa (Ci (v:=.ref t.Bg) rfl T.T6 rfl) Ab))) (Aa (Ar (Cu (K:=K)) rfl T.Bm Bb (Aa (pv 0) (Aa (Ci (v:=.ref t.Bw) rfl T.My rfl) Ab))) Ab)))))
   (Ac (Aw (i:=1) Fl.nd rfl (Or.inl rfl) (Bu Fq (pv 1) (BJ (Aa (Ar (Cu (K:=K)) rfl T.Bm Bb (Aa (pv 0) (Aa (Ci (v:=.ref t.Br) rfl T.Rk rfl) Ab))) (Aa (Ar (Cu (K:=K)) rfl T.Bm Bb (Aa (pv 0) (Aa (Ci (v:=.ref t.Bh) rfl T.Ue rfl) Ab))) (Aa (Ar (Cu (K:=K)) rfl T.Bm Bb (Aa (pv 0) (Aa (Ci (v:=.ref t.BV) rfl T.AdT rfl) Ab))) Ab))))))
   (Ac (Aw (i:=1) Fl.nd rfl (Or.inl rfl) (Bu Fq (pv 1) (BJ (Aa (Ar (Cu (K:=K)) rfl T.Bm Bb (Aa (pv 0) (Aa (Ci (v:=.ref t.Bj) rfl T.Uo rfl) Ab))) (Aa (Ar (Cu (K:=K)) rfl T.Bm Bb (Aa (pv 0) (Aa (Ci (v:=.ref t.Ba) rfl T.Z3 rfl) Ab))) Ab)))))
   (Ac (Aw (i:=1) Fl.nd rfl (Or.inl rfl) (Bu Fq (pv 1) (BJ (Aa (Ar (Cu (K:=K)) rfl T.Bm Bb (Aa (pv 0) (Aa (Ci (v:=.ref t.Bl) rfl T.Abk rfl) Ab))) (Aa (Ar (Cu (K:=K)) rfl T.Bm Bb (Aa (pv 0) (Aa (Ci (v:=.ref t.By) rfl T.Acu rfl) Ab))) Ab)))))
   (Ac (Aw (i:=1) Fl.nd rfl (Or.inl rfl) (Bu Fq (pv 1) (BJ (Aa (Ar (Cu (K:=K)) rfl T.Bm Bb (Aa (pv 0) (Aa (Ci (v:=.ref t.Av) rfl T.Cv rfl) Ab))) (Aa (Ar (Cu (K:=K)) rfl T.Bm Bb (Aa (pv 0) (Aa (Ci (v:=.ref t.Bv) rfl T.Acv rfl) Ab))) Ab)))))
   (Af (Am (Bu Fq (pv 1) (BJ (Aa (Ar (Cu (K:=K)) rfl T.Bm Bb (Aa (pv 0) (Aa (Ci (v:=.ref t.Cd) rfl T.Ada rfl) Ab))) Ab)))))))))),?_⟩
  have xc:=(xw T wy hw).c
  have rr:=mrr T wy hw
  refine⟨_,rfl,ea,wcl t wy,decide (wy=0),he,xc,.inr ⟨t.BX,rfl,Gg rr T.Gr (mr0 T wy hw)⟩,_,rfl,ea,wcl t wy,decide (wy=1),he,xc,.inr ⟨t.Bg,rfl,Gg rr T.GC (mr1 T wy hw)⟩,_,rfl,ea,wcl t wy,decide (wy=2),he,xc,.inr ⟨t.Bw,rfl,Gg rr T.Gs (mr2 T wy hw)⟩,(by show 3≤sizeLine;decide),fun q0 n0=>?_⟩
  have u0:Ax H (upd H q0 (.lst [.bl (decide (wy=0)),.bl (decide (wy=1)),.bl (decide (wy=2))])):=.upd n0
  have h0:(upd H q0 (.lst [.bl (decide (wy=0)),.bl (decide (wy=1)),.bl (decide (wy=2))])) q0=some (.lst [.bl (decide (wy=0)),.bl (decide (wy=1)),.bl (decide (wy=2))]):=Ae
  generalize upd H q0 (.lst [.bl (decide (wy=0)),.bl (decide (wy=1)),.bl (decide (wy=2))])=H0 at u0 h0 ⊢
  refine⟨_,rfl,_,rfl,ea,wcl t wy,decide (wy=3),u0 _ _ he,xc,.inr ⟨t.Br,rfl,Gg rr T.GK (mr3 T wy hw)⟩,_,rfl,ea,wcl t wy,decide (wy=4),u0 _ _ he,xc,.inr ⟨t.Bh,rfl,Gg rr T.GD (mr4 T wy hw)⟩,_,rfl,ea,wcl t wy,decide (wy=5),u0 _ _ he,xc,.inr ⟨t.BV,rfl,Gg rr T.Mz (mr5 T wy hw)⟩,(by show 3≤sizeLine;decide),fun b1 m1=>⟨q0,b1,_,_,rfl,rfl,(Ax.upd m1) _ _ h0,Ae,(by show 6≤sizeLine;decide),fun q1 n1=>?_⟩⟩
  have u1:Ax H (upd (upd H0 b1 (.lst [.bl (decide (wy=3)),.bl (decide (wy=4)),.bl (decide (wy=5))])) q1 (.lst [.bl (decide (wy=0)),.bl (decide (wy=1)),.bl (decide (wy=2)),.bl (decide (wy=3)),.bl (decide (wy=4)),.bl (decide (wy=5))])):=(u0.new m1).new n1
  have h1:(upd (upd H0 b1 (.lst [.bl (decide (wy=3)),.bl (decide (wy=4)),.bl (decide (wy=5))])) q1 (.lst [.bl (decide (wy=0)),.bl (decide (wy=1)),.bl (decide (wy=2)),.bl (decide (wy=3)),.bl (decide (wy=4)),.bl (decide (wy=5))])) q1=some (.lst [.bl (decide (wy=0)),.bl (decide (wy=1)),.bl (decide (wy=2)),.bl (decide (wy=3)),.bl (decide (wy=4)),.bl (decide (wy=5))]):=Ae
  generalize hG1:upd (upd H0 b1 (.lst [.bl (decide (wy=3)),.bl (decide (wy=4)),.bl (decide (wy=5))])) q1 (.lst [.bl (decide (wy=0)),.bl (decide (wy=1)),.bl (decide (wy=2)),.bl (decide (wy=3)),.bl (decide (wy=4)),.bl (decide (wy=5))])=H1 at u1 h1
  have e1:upd (upd H0 b1 (.lst [.bl (decide (wy=3)),.bl (decide (wy=4)),.bl (decide (wy=5))])) q1 (.lst ([.bl (decide (wy=0)),.bl (decide (wy=1)),.bl (decide (wy=2))]++[.bl (decide (wy=3)),.bl (decide (wy=4)),.bl (decide (wy=5))]))=H1:=hG1
  rw[e1]
  refine⟨_,rfl,_,rfl,ea,wcl t wy,decide (wy=6),u1 _ _ he,xc,.inr ⟨t.Bj,rfl,Gg rr T.GF (mr6 T wy hw)⟩,_,rfl,ea,wcl t wy,decide (wy=7),u1 _ _ he,xc,.inr ⟨t.Ba,rfl,Gg rr T.GP (mr7 T wy hw)⟩,(by show 2≤sizeLine;decide),fun b2 m2=>⟨q1,b2,_,_,rfl,rfl,(Ax.upd m2) _ _ h1,Ae,(by show 8≤sizeLine;decide),fun q2 n2=>?_⟩⟩
  have u2:Ax H (upd (upd H1 b2 (.lst [.bl (decide (wy=6)),.bl (decide (wy=7))])) q2 (.lst [.bl (decide (wy=0)),.bl (decide (wy=1)),.bl (decide (wy=2)),.bl (decide (wy=3)),.bl (decide (wy=4)),.bl (decide (wy=5)),.bl (decide (wy=6)),.bl (decide (wy=7))])):=(u1.new m2).new n2
  have h2:(upd (upd H1 b2 (.lst [.bl (decide (wy=6)),.bl (decide (wy=7))])) q2 (.lst [.bl (decide (wy=0)),.bl (decide (wy=1)),.bl (decide (wy=2)),.bl (decide (wy=3)),.bl (decide (wy=4)),.bl (decide (wy=5)),.bl (decide (wy=6)),.bl (decide (wy=7))])) q2=some (.lst [.bl (decide (wy=0)),.bl (decide (wy=1)),.bl (decide (wy=2)),.bl (decide (wy=3)),.bl (decide (wy=4)),.bl (decide (wy=5)),.bl (decide (wy=6)),.bl (decide (wy=7))]):=Ae
  generalize hG2:upd (upd H1 b2 (.lst [.bl (decide (wy=6)),.bl (decide (wy=7))])) q2 (.lst [.bl (decide (wy=0)),.bl (decide (wy=1)),.bl (decide (wy=2)),.bl (decide (wy=3)),.bl (decide (wy=4)),.bl (decide (wy=5)),.bl (decide (wy=6)),.bl (decide (wy=7))])=H2 at u2 h2
  have e2:upd (upd H1 b2 (.lst [.bl (decide (wy=6)),.bl (decide (wy=7))])) q2 (.lst ([.bl (decide (wy=0)),.bl (decide (wy=1)),.bl (decide (wy=2)),.bl (decide (wy=3)),.bl (decide (wy=4)),.bl (decide (wy=5))]++[.bl (decide (wy=6)),.bl (decide (wy=7))]))=H2:=hG2
  rw[e2]
  refine⟨_,rfl,_,rfl,ea,wcl t wy,decide (wy=8),u2 _ _ he,xc,.inr ⟨t.Bl,rfl,Gg rr T.HN (mr8 T wy hw)⟩,_,rfl,ea,wcl t wy,decide (wy=9),u2 _ _ he,xc,.inr ⟨t.By,rfl,Gg rr T.J3 (mr9 T wy hw)⟩,(by show 2≤sizeLine;decide),fun b3 m3=>⟨q2,b3,_,_,rfl,rfl,(Ax.upd m3) _ _ h2,Ae,(by show 10≤sizeLine;decide),fun q3 n3=>?_⟩⟩
  have u3:Ax H (upd (upd H2 b3 (.lst [.bl (decide (wy=8)),.bl (decide (wy=9))])) q3 (.lst [.bl (decide (wy=0)),.bl (decide (wy=1)),.bl (decide (wy=2)),.bl (decide (wy=3)),.bl (decide (wy=4)),.bl (decide (wy=5)),.bl (decide (wy=6)),.bl (decide (wy=7)),.bl (decide (wy=8)),.bl (decide (wy=9))])):=(u2.new m3).new n3
  have h3:(upd (upd H2 b3 (.lst [.bl (decide (wy=8)),.bl (decide (wy=9))])) q3 (.lst [.bl (decide (wy=0)),.bl (decide (wy=1)),.bl (decide (wy=2)),.bl (decide (wy=3)),.bl (decide (wy=4)),.bl (decide (wy=5)),.bl (decide (wy=6)),.bl (decide (wy=7)),.bl (decide (wy=8)),.bl (decide (wy=9))])) q3=some (.lst [.bl (decide (wy=0)),.bl (decide (wy=1)),.bl (decide (wy=2)),.bl (decide (wy=3)),.bl (decide (wy=4)),.bl (decide (wy=5)),.bl (decide (wy=6)),.bl (decide (wy=7)),.bl (decide (wy=8)),.bl (decide (wy=9))]):=Ae
  generalize hG3:upd (upd H2 b3 (.lst [.bl (decide (wy=8)),.bl (decide (wy=9))])) q3 (.lst [.bl (decide (wy=0)),.bl (decide (wy=1)),.bl (decide (wy=2)),.bl (decide (wy=3)),.bl (decide (wy=4)),.bl (decide (wy=5)),.bl (decide (wy=6)),.bl (decide (wy=7)),.bl (decide (wy=8)),.bl (decide (wy=9))])=H3 at u3 h3
  have e3:upd (upd H2 b3 (.lst [.bl (decide (wy=8)),.bl (decide (wy=9))])) q3 (.lst ([.bl (decide (wy=0)),.bl (decide (wy=1)),.bl (decide (wy=2)),.bl (decide (wy=3)),.bl (decide (wy=4)),.bl (decide (wy=5)),.bl (decide (wy=6)),.bl (decide (wy=7))]++[.bl (decide (wy=8)),.bl (decide (wy=9))]))=H3:=hG3
  rw[e3]
  refine⟨_,rfl,_,rfl,ea,wcl t wy,decide (wy=10),u3 _ _ he,xc,.inr ⟨t.Av,rfl,Gg rr T.Ca (Aoe T wy hw)⟩,_,rfl,ea,wcl t wy,decide (wy=11),u3 _ _ he,xc,.inr ⟨t.Bv,rfl,Gg rr T.J4 (Aof T wy hw)⟩,(by show 2≤sizeLine;decide),fun b4 m4=>⟨q3,b4,_,_,rfl,rfl,(Ax.upd m4) _ _ h3,Ae,(by show 12≤sizeLine;decide),fun q4 n4=>?_⟩⟩
  have u4:Ax H (upd (upd H3 b4 (.lst [.bl (decide (wy=10)),.bl (decide (wy=11))])) q4 (.lst [.bl (decide (wy=0)),.bl (decide (wy=1)),.bl (decide (wy=2)),.bl (decide (wy=3)),.bl (decide (wy=4)),.bl (decide (wy=5)),.bl (decide (wy=6)),.bl (decide (wy=7)),.bl (decide (wy=8)),.bl (decide (wy=9)),.bl (decide (wy=10)),.bl (decide (wy=11))])):=(u3.new m4).new n4
  have h4:(upd (upd H3 b4 (.lst [.bl (decide (wy=10)),.bl (decide (wy=11))])) q4 (.lst [.bl (decide (wy=0)),.bl (decide (wy=1)),.bl (decide (wy=2)),.bl (decide (wy=3)),.bl (decide (wy=4)),.bl (decide (wy=5)),.bl (decide (wy=6)),.bl (decide (wy=7)),.bl (decide (wy=8)),.bl (decide (wy=9)),.bl (decide (wy=10)),.bl (decide (wy=11))])) q4=some (.lst [.bl (decide (wy=0)),.bl (decide (wy=1)),.bl (decide (wy=2)),.bl (decide (wy=3)),.bl (decide (wy=4)),.bl (decide (wy=5)),.bl (decide (wy=6)),.bl (decide (wy=7)),.bl (decide (wy=8)),.bl (decide (wy=9)),.bl (decide (wy=10)),.bl (decide (wy=11))]):=Ae
  generalize hG4:upd (upd H3 b4 (.lst [.bl (decide (wy=10)),.bl (decide (wy=11))])) q4 (.lst [.bl (decide (wy=0)),.bl (decide (wy=1)),.bl (decide (wy=2)),.bl (decide (wy=3)),.bl (decide (wy=4)),.bl (decide (wy=5)),.bl (decide (wy=6)),.bl (decide (wy=7)),.bl (decide (wy=8)),.bl (decide (wy=9)),.bl (decide (wy=10)),.bl (decide (wy=11))])=H4 at u4 h4
  have e4:upd (upd H3 b4 (.lst [.bl (decide (wy=10)),.bl (decide (wy=11))])) q4 (.lst ([.bl (decide (wy=0)),.bl (decide (wy=1)),.bl (decide (wy=2)),.bl (decide (wy=3)),.bl (decide (wy=4)),.bl (decide (wy=5)),.bl (decide (wy=6)),.bl (decide (wy=7)),.bl (decide (wy=8)),.bl (decide (wy=9))]++[.bl (decide (wy=10)),.bl (decide (wy=11))]))=H4:=hG4
  rw[e4]
  refine⟨_,rfl,_,rfl,ea,wcl t wy,decide (wy=12),u4 _ _ he,xc,.inr ⟨t.Cd,rfl,Gg rr T.Nh (Aog T wy hw)⟩,(by show 1≤sizeLine;decide),fun b5 m5=>⟨q4,b5,_,_,rfl,rfl,(Ax.upd m5) _ _ h4,Ae,(by show 13≤sizeLine;decide),fun q5 n5=>?_⟩⟩
  exact k q5 _ ((u4.new m5).new n5) Ae
theorem Gv{i:Nat}{v v':V}{σ σ':St}{H H':Hp}{Kt:St→Hp→Prop}(ev:v=v')(h:σ.set i (some v')=σ')(eH:H=H')(k:Kt σ' H'):YT i v σ H Kt:=by subst ev;subst h;subst eH;exact k
def nm8:List V:=[.str "NoRow", .str "TooLarge", .str "NoCloth", .str "NoDraft", .str "NoStrand", .str "NoDeed", .str "NoLaying", .str "NoShuttle"]
def nm5:List V:=[.str "NoColour", .str "NoBlock", .str "NoPattern", .str "Unknown", .str "Twice"]
def Kl (wy:Nat):Sp:=fun vs H Q _=>∃(cell:Int),vs=[.int cell]∧cell%13=(wy:Int)∧∀ H',Ax H H'→Q (.bl true) H'
theorem Alr(T:Txt K mg t):Be P w K mg base CX0 45 t.CT t.CV ["cell"] (Kl 0):=by
 refine T.Dg.F.ok Ag (fun vs H Q E h=>?_) (fun cdv A outer s H vs Q E hr h=>?_)
 ·obtain⟨cell,rfl,_⟩:=h
  rfl
 ·obtain⟨cell,rfl,hw,k⟩:=h
  refine⟨_,(Ac (Aw (i:=1) Ag.nd rfl (Or.inr rfl) (Bu Fz (pv 0) Ai))
   (Ac (Aw (i:=2) Ag.nd rfl (Or.inl rfl) (Aj ((CP T).mono (by decide)) hr rfl T.Bc.m T.Bc.F.kp T.Bc.b .nil Bp (Aa (pv 1) (Aa (Bu Fw (pv 0) Ai) Ab))))
   (Ac (Bs (Dp (Cw (Ar (Cu (K:=K)) rfl T.Bm Bb (Aa (pv 2) (Aa (Ep (v:=.ty "ValueError") rfl T.Dh CK rfl) Ab)))))
    (Af (Am Ik))
    Ak)
   (Ac (Aw (i:=3) Ag.nd rfl (Or.inl rfl) (BJ (Aa Ad (Aa Ad (Aa Ad (Aa Ad (Aa Ad (Aa Ad (Aa Ad (Aa Ad Ab))))))))))
   (Ac (Aw (i:=3) Ag.nd rfl (Or.inl rfl) (Bu Fq (pv 3) (BJ (Aa Ad (Aa Ad (Aa Ad (Aa Ad (Aa Ad Ab))))))))
   (Ac (Ge (i:=4) (Dq.mk (Cg:=[1]) (Nc:=["k", "way"]) rfl (by decide +kernel) (by decide +kernel) (Dr (sc0:=Ah CZ) rfl (by decide +kernel)) rfl rfl rfl (by decide +kernel) (fun k j h=>match k,h with | 0,h=>by obtain rfl:=Option.some.inj h;exact⟨_,rfl,rfl,rfl⟩ | _+1,h=>by simp at h)) rfl Ag.nd rfl rfl (Dy rfl T.Ec (Aa Ai Ab)) (fun _ _ _ _ _=>.nil) (fun _ _ _ _ _=>(BP Ce (pv 0) (pv 1) (Al _))) rfl)
   (Af (Am (GR (BP (Gf (K:=K) (hr.Hv)) (Aj ((CQ T).mono (by decide)) hr rfl T.Bd.m T.Bd.F.kp T.Bd.b .nil Bp (Aa (pv 2) Ab)) (pv 4) (Al _)) (GQ (BP Ce (Es (pv 2) T.Gr.c T.AcZ.m ((Aaf T).mono (by decide)) hr T.AcZ.b Bp) (CG (CW (K:=K)) (pv 3) (pv 1) (fun _ _=>rfl)) (Al _)))))))))))),?_⟩
  refine⟨_,rfl,_,_,rfl,rfl,(by show(0:Int)<13;decide),?_⟩
  refine DP (congrArg V.int hw) rfl ?_
  refine⟨_,rfl,_,rfl,_,_,rfl,rfl,⟨by decide,by decide⟩,0,_,rfl,by decide,fun ea H1 s1 he=>?_⟩
  refine⟨_,rfl,ea,t.BX,true,he,T.Gr.c,.inl ⟨_,rfl,Hy T.Gr⟩,_,rfl,Ez ?_⟩
  refine⟨(by show 8≤sizeLine;decide),fun q0 n0=>?_⟩
  refine⟨_,rfl,(by show 5≤sizeLine;decide),fun b m=>⟨q0,b,nm8,nm5,rfl,rfl,(Ax.upd m) _ _ Ae,Ae,(by show 13≤sizeLine;decide),fun q1 n1=>?_⟩⟩
  obtain⟨H2,e2,s2,h2⟩:∃ H2,upd (upd (upd H1 q0 (.lst nm8)) b (.lst nm5)) q1 (.lst (nm8++nm5))=H2∧Ax H1 H2∧H2 q1=some (.lst (nm8++nm5)):=⟨_,rfl,((Ax.upd n0).new m).new n1,Ae⟩
  refine Gv rfl rfl e2 ?_
  refine⟨13,rfl,(by decide),(by decide),?_⟩
  refine Dt (lo:=0) (n:=13) (fun i ys H3=>H3=H2∧ys=vB ((List.range i).map fun j=>decide (j=0))) ⟨rfl,rfl⟩ ?_ (by decide) ?_ ?_
  ·rintro i ys H3 hi ⟨rfl,rfl⟩
   rw[Fv,Apx,ApG]
   exact Apv _
  ·rintro i ys H3 hi ⟨rfl,rfl⟩
   refine Eo.no ?_
   refine⟨_,rfl,_,rfl,rfl,CN.of hi ⟨rfl,?_⟩⟩
   rw[ApI,Ap2,show decide (V.int (0+(i:Int))=V.int ((0:Nat):Int))=decide (i=0) from decide_eq_decide.mpr ⟨fun z=>by injection z with z;omega,fun z=>by rw[z];rfl⟩]
   exact(FP _ _).symm▸rfl
  ·rintro ys H3 q2 ⟨rfl,rfl⟩ n2
   have s3:Ax H3 (upd H3 q2 (.lst (vB ((List.range 13).map fun j=>decide (j=0))))):=.upd n2
   have h3:(upd H3 q2 (.lst (vB ((List.range 13).map fun j=>decide (j=0))))) q2=some (.lst (vB ((List.range 13).map fun j=>decide (j=0)))):=Ae
   generalize upd H3 q2 (.lst (vB ((List.range 13).map fun j=>decide (j=0))))=H4 at s3 h3 ⊢
   refine⟨_,rfl,0,ea,rfl,by decide,s3 _ _ (s2 _ _ he),fun q5 H5 s5 h5=>?_⟩
   refine⟨_,rfl,q5,q2,_,_,rfl,rfl,SqL.of h5,SqL.of (s5 _ _ h3),rfl,rfl,true,rfl,Ed ?_⟩
   refine⟨_,rfl,ea,rfl,s5 _ _ (s3 _ _ (s2 _ _ he)),_,rfl,_,rfl,_,rfl,_,_,_,_,rfl,rfl,SqL.of (s5 _ _ (s3 _ _ h2)),CJ (by decide) rfl,rfl,?_⟩
   exact k _ (((s1.trans s2).trans s3).trans s5)
theorem Als(T:Txt K mg t):Be P w K mg base CX0 45 t.CT t.CV ["cell"] (Kl 1):=by
 refine T.Dg.F.ok Ag (fun vs H Q E h=>?_) (fun cdv A outer s H vs Q E hr h=>?_)
 ·obtain⟨cell,rfl,_⟩:=h
  rfl
 ·obtain⟨cell,rfl,hw,k⟩:=h
  refine⟨_,(Ac (Aw (i:=1) Ag.nd rfl (Or.inr rfl) (Bu Fz (pv 0) Ai))
   (Ac (Aw (i:=2) Ag.nd rfl (Or.inl rfl) (Aj ((CP T).mono (by decide)) hr rfl T.Bc.m T.Bc.F.kp T.Bc.b .nil Bp (Aa (pv 1) (Aa (Bu Fw (pv 0) Ai) Ab))))
   (Ac (Bs (Dp (Cw (Ar (Cu (K:=K)) rfl T.Bm Bb (Aa (pv 2) (Aa (Ep (v:=.ty "ValueError") rfl T.Dh CK rfl) Ab)))))
    (Af (Am Ik))
    Ak)
   (Ac (Aw (i:=3) Ag.nd rfl (Or.inl rfl) (BJ (Aa Ad (Aa Ad (Aa Ad (Aa Ad (Aa Ad (Aa Ad (Aa Ad (Aa Ad Ab))))))))))
   (Ac (Aw (i:=3) Ag.nd rfl (Or.inl rfl) (Bu Fq (pv 3) (BJ (Aa Ad (Aa Ad (Aa Ad (Aa Ad (Aa Ad Ab))))))))
   (Ac (Ge (i:=4) (Dq.mk (Cg:=[1]) (Nc:=["k", "way"]) rfl (by decide +kernel) (by decide +kernel) (Dr (sc0:=Ah CZ) rfl (by decide +kernel)) rfl rfl rfl (by decide +kernel) (fun k j h=>match k,h with | 0,h=>by obtain rfl:=Option.some.inj h;exact⟨_,rfl,rfl,rfl⟩ | _+1,h=>by simp at h)) rfl Ag.nd rfl rfl (Dy rfl T.Ec (Aa Ai Ab)) (fun _ _ _ _ _=>.nil) (fun _ _ _ _ _=>(BP Ce (pv 0) (pv 1) (Al _))) rfl)
   (Af (Am (GR (BP (Gf (K:=K) (hr.Hv)) (Aj ((CQ T).mono (by decide)) hr rfl T.Bd.m T.Bd.F.kp T.Bd.b .nil Bp (Aa (pv 2) Ab)) (pv 4) (Al _)) (GQ (BP Ce (Es (pv 2) T.GC.c T.T7.m ((UL T).mono (by decide)) hr T.T7.b Bp) (CG (CW (K:=K)) (pv 3) (pv 1) (fun _ _=>rfl)) (Al _)))))))))))),?_⟩
  refine⟨_,rfl,_,_,rfl,rfl,(by show(0:Int)<13;decide),?_⟩
  refine DP (congrArg V.int hw) rfl ?_
  refine⟨_,rfl,_,rfl,_,_,rfl,rfl,⟨by decide,by decide⟩,1,_,rfl,by decide,fun ea H1 s1 he=>?_⟩
  refine⟨_,rfl,ea,t.Bg,true,he,T.GC.c,.inl ⟨_,rfl,Hy T.GC⟩,_,rfl,Ez ?_⟩
  refine⟨(by show 8≤sizeLine;decide),fun q0 n0=>?_⟩
  refine⟨_,rfl,(by show 5≤sizeLine;decide),fun b m=>⟨q0,b,nm8,nm5,rfl,rfl,(Ax.upd m) _ _ Ae,Ae,(by show 13≤sizeLine;decide),fun q1 n1=>?_⟩⟩
  obtain⟨H2,e2,s2,h2⟩:∃ H2,upd (upd (upd H1 q0 (.lst nm8)) b (.lst nm5)) q1 (.lst (nm8++nm5))=H2∧Ax H1 H2∧H2 q1=some (.lst (nm8++nm5)):=⟨_,rfl,((Ax.upd n0).new m).new n1,Ae⟩
  refine Gv rfl rfl e2 ?_
  refine⟨13,rfl,(by decide),(by decide),?_⟩
  refine Dt (lo:=0) (n:=13) (fun i ys H3=>H3=H2∧ys=vB ((List.range i).map fun j=>decide (j=1))) ⟨rfl,rfl⟩ ?_ (by decide) ?_ ?_
  ·rintro i ys H3 hi ⟨rfl,rfl⟩
   rw[Fv,Apx,ApG]
   exact Apv _
  ·rintro i ys H3 hi ⟨rfl,rfl⟩
   refine Eo.no ?_
   refine⟨_,rfl,_,rfl,rfl,CN.of hi ⟨rfl,?_⟩⟩
   rw[ApI,Ap2,show decide (V.int (0+(i:Int))=V.int ((1:Nat):Int))=decide (i=1) from decide_eq_decide.mpr ⟨fun z=>by injection z with z;omega,fun z=>by rw[z];rfl⟩]
   exact(FP _ _).symm▸rfl
  ·rintro ys H3 q2 ⟨rfl,rfl⟩ n2
   have s3:Ax H3 (upd H3 q2 (.lst (vB ((List.range 13).map fun j=>decide (j=1))))):=.upd n2
   have h3:(upd H3 q2 (.lst (vB ((List.range 13).map fun j=>decide (j=1))))) q2=some (.lst (vB ((List.range 13).map fun j=>decide (j=1)))):=Ae
   generalize upd H3 q2 (.lst (vB ((List.range 13).map fun j=>decide (j=1))))=H4 at s3 h3 ⊢
   refine⟨_,rfl,1,ea,rfl,by decide,s3 _ _ (s2 _ _ he),fun q5 H5 s5 h5=>?_⟩
   refine⟨_,rfl,q5,q2,_,_,rfl,rfl,SqL.of h5,SqL.of (s5 _ _ h3),rfl,rfl,true,rfl,Ed ?_⟩
   refine⟨_,rfl,ea,rfl,s5 _ _ (s3 _ _ (s2 _ _ he)),_,rfl,_,rfl,_,rfl,_,_,_,_,rfl,rfl,SqL.of (s5 _ _ (s3 _ _ h2)),CJ (by decide) rfl,rfl,?_⟩
   exact k _ (((s1.trans s2).trans s3).trans s5)
theorem Alu(T:Txt K mg t):Be P w K mg base CX0 45 t.CT t.CV ["cell"] (Kl 2):=by
 refine T.Dg.F.ok Ag (fun vs H Q E h=>?_) (fun cdv A outer s H vs Q E hr h=>?_)
 ·obtain⟨cell,rfl,_⟩:=h
  rfl
 ·obtain⟨cell,rfl,hw,k⟩:=h
  refine⟨_,(Ac (Aw (i:=1) Ag.nd rfl (Or.inr rfl) (Bu Fz (pv 0) Ai))
   (Ac (Aw (i:=2) Ag.nd rfl (Or.inl rfl) (Aj ((CP T).mono (by decide)) hr rfl T.Bc.m T.Bc.F.kp T.Bc.b .nil Bp (Aa (pv 1) (Aa (Bu Fw (pv 0) Ai) Ab))))
   (Ac (Bs (Dp (Cw (Ar (Cu (K:=K)) rfl T.Bm Bb (Aa (pv 2) (Aa (Ep (v:=.ty "ValueError") rfl T.Dh CK rfl) Ab)))))
    (Af (Am Ik))
    Ak)
   (Ac (Aw (i:=3) Ag.nd rfl (Or.inl rfl) (BJ (Aa Ad (Aa Ad (Aa Ad (Aa Ad (Aa Ad (Aa Ad (Aa Ad (Aa Ad Ab))))))))))
   (Ac (Aw (i:=3) Ag.nd rfl (Or.inl rfl) (Bu Fq (pv 3) (BJ (Aa Ad (Aa Ad (Aa Ad (Aa Ad (Aa Ad Ab))))))))
   (Ac (Ge (i:=4) (Dq.mk (Cg:=[1]) (Nc:=["k", "way"]) rfl (by decide +kernel) (by decide +kernel) (Dr (sc0:=Ah CZ) rfl (by decide +kernel)) rfl rfl rfl (by decide +kernel) (fun k j h=>match k,h with | 0,h=>by obtain rfl:=Option.some.inj h;exact⟨_,rfl,rfl,rfl⟩ | _+1,h=>by simp at h)) rfl Ag.nd rfl rfl (Dy rfl T.Ec (Aa Ai Ab)) (fun _ _ _ _ _=>.nil) (fun _ _ _ _ _=>(BP Ce (pv 0) (pv 1) (Al _))) rfl)
   (Af (Am (GR (BP (Gf (K:=K) (hr.Hv)) (Aj ((CQ T).mono (by decide)) hr rfl T.Bd.m T.Bd.F.kp T.Bd.b .nil Bp (Aa (pv 2) Ab)) (pv 4) (Al _)) (GQ (BP Ce (Es (pv 2) T.Gs.c T.Yj.m ((WM T).mono (by decide)) hr T.Yj.b Bp) (CG (CW (K:=K)) (pv 3) (pv 1) (fun _ _=>rfl)) (Al _)))))))))))),?_⟩
  refine⟨_,rfl,_,_,rfl,rfl,(by show(0:Int)<13;decide),?_⟩
  refine DP (congrArg V.int hw) rfl ?_
  refine⟨_,rfl,_,rfl,_,_,rfl,rfl,⟨by decide,by decide⟩,2,_,rfl,by decide,fun ea H1 s1 he=>?_⟩
  refine⟨_,rfl,ea,t.Bw,true,he,T.Gs.c,.inl ⟨_,rfl,Hy T.Gs⟩,_,rfl,Ez ?_⟩
  refine⟨(by show 8≤sizeLine;decide),fun q0 n0=>?_⟩
  refine⟨_,rfl,(by show 5≤sizeLine;decide),fun b m=>⟨q0,b,nm8,nm5,rfl,rfl,(Ax.upd m) _ _ Ae,Ae,(by show 13≤sizeLine;decide),fun q1 n1=>?_⟩⟩
  obtain⟨H2,e2,s2,h2⟩:∃ H2,upd (upd (upd H1 q0 (.lst nm8)) b (.lst nm5)) q1 (.lst (nm8++nm5))=H2∧Ax H1 H2∧H2 q1=some (.lst (nm8++nm5)):=⟨_,rfl,((Ax.upd n0).new m).new n1,Ae⟩
  refine Gv rfl rfl e2 ?_
  refine⟨13,rfl,(by decide),(by decide),?_⟩
  refine Dt (lo:=0) (n:=13) (fun i ys H3=>H3=H2∧ys=vB ((List.range i).map fun j=>decide (j=2))) ⟨rfl,rfl⟩ ?_ (by decide) ?_ ?_
  ·rintro i ys H3 hi ⟨rfl,rfl⟩
   rw[Fv,Apx,ApG]
   exact Apv _
  ·rintro i ys H3 hi ⟨rfl,rfl⟩
   refine Eo.no ?_
   refine⟨_,rfl,_,rfl,rfl,CN.of hi ⟨rfl,?_⟩⟩
   rw[ApI,Ap2,show decide (V.int (0+(i:Int))=V.int ((2:Nat):Int))=decide (i=2) from decide_eq_decide.mpr ⟨fun z=>by injection z with z;omega,fun z=>by rw[z];rfl⟩]
   exact(FP _ _).symm▸rfl
  ·rintro ys H3 q2 ⟨rfl,rfl⟩ n2
   have s3:Ax H3 (upd H3 q2 (.lst (vB ((List.range 13).map fun j=>decide (j=2))))):=.upd n2
   have h3:(upd H3 q2 (.lst (vB ((List.range 13).map fun j=>decide (j=2))))) q2=some (.lst (vB ((List.range 13).map fun j=>decide (j=2)))):=Ae
   generalize upd H3 q2 (.lst (vB ((List.range 13).map fun j=>decide (j=2))))=H4 at s3 h3 ⊢
   refine⟨_,rfl,2,ea,rfl,by decide,s3 _ _ (s2 _ _ he),fun q5 H5 s5 h5=>?_⟩
   refine⟨_,rfl,q5,q2,_,_,rfl,rfl,SqL.of h5,SqL.of (s5 _ _ h3),rfl,rfl,true,rfl,Ed ?_⟩
   refine⟨_,rfl,ea,rfl,s5 _ _ (s3 _ _ (s2 _ _ he)),_,rfl,_,rfl,_,rfl,_,_,_,_,rfl,rfl,SqL.of (s5 _ _ (s3 _ _ h2)),CJ (by decide) rfl,rfl,?_⟩
   exact k _ (((s1.trans s2).trans s3).trans s5)
theorem Alv(T:Txt K mg t):Be P w K mg base CX0 45 t.CT t.CV ["cell"] (Kl 3):=by
 refine T.Dg.F.ok Ag (fun vs H Q E h=>?_) (fun cdv A outer s H vs Q E hr h=>?_)
 ·obtain⟨cell,rfl,_⟩:=h
  rfl
 ·obtain⟨cell,rfl,hw,k⟩:=h
  refine⟨_,(Ac (Aw (i:=1) Ag.nd rfl (Or.inr rfl) (Bu Fz (pv 0) Ai))
   (Ac (Aw (i:=2) Ag.nd rfl (Or.inl rfl) (Aj ((CP T).mono (by decide)) hr rfl T.Bc.m T.Bc.F.kp T.Bc.b .nil Bp (Aa (pv 1) (Aa (Bu Fw (pv 0) Ai) Ab))))
   (Ac (Bs (Dp (Cw (Ar (Cu (K:=K)) rfl T.Bm Bb (Aa (pv 2) (Aa (Ep (v:=.ty "ValueError") rfl T.Dh CK rfl) Ab)))))
    (Af (Am Ik))
    Ak)
   (Ac (Aw (i:=3) Ag.nd rfl (Or.inl rfl) (BJ (Aa Ad (Aa Ad (Aa Ad (Aa Ad (Aa Ad (Aa Ad (Aa Ad (Aa Ad Ab))))))))))
   (Ac (Aw (i:=3) Ag.nd rfl (Or.inl rfl) (Bu Fq (pv 3) (BJ (Aa Ad (Aa Ad (Aa Ad (Aa Ad (Aa Ad Ab))))))))
   (Ac (Ge (i:=4) (Dq.mk (Cg:=[1]) (Nc:=["k", "way"]) rfl (by decide +kernel) (by decide +kernel) (Dr (sc0:=Ah CZ) rfl (by decide +kernel)) rfl rfl rfl (by decide +kernel) (fun k j h=>match k,h with | 0,h=>by obtain rfl:=Option.some.inj h;exact⟨_,rfl,rfl,rfl⟩ | _+1,h=>by simp at h)) rfl Ag.nd rfl rfl (Dy rfl T.Ec (Aa Ai Ab)) (fun _ _ _ _ _=>.nil) (fun _ _ _ _ _=>(BP Ce (pv 0) (pv 1) (Al _))) rfl)
   (Af (Am (GR (BP (Gf (K:=K) (hr.Hv)) (Aj ((CQ T).mono (by decide)) hr rfl T.Bd.m T.Bd.F.kp T.Bd.b .nil Bp (Aa (pv 2) Ab)) (pv 4) (Al _)) (GQ (BP Ce (Es (pv 2) T.GK.c T.Yl.m ((WN T).mono (by decide)) hr T.Yl.b Bp) (CG (CW (K:=K)) (pv 3) (pv 1) (fun _ _=>rfl)) (Al _)))))))))))),?_⟩
  refine⟨_,rfl,_,_,rfl,rfl,(by show(0:Int)<13;decide),?_⟩
  refine DP (congrArg V.int hw) rfl ?_
  refine⟨_,rfl,_,rfl,_,_,rfl,rfl,⟨by decide,by decide⟩,3,_,rfl,by decide,fun ea H1 s1 he=>?_⟩
  refine⟨_,rfl,ea,t.Br,true,he,T.GK.c,.inl ⟨_,rfl,Hy T.GK⟩,_,rfl,Ez ?_⟩
  refine⟨(by show 8≤sizeLine;decide),fun q0 n0=>?_⟩
  refine⟨_,rfl,(by show 5≤sizeLine;decide),fun b m=>⟨q0,b,nm8,nm5,rfl,rfl,(Ax.upd m) _ _ Ae,Ae,(by show 13≤sizeLine;decide),fun q1 n1=>?_⟩⟩
  obtain⟨H2,e2,s2,h2⟩:∃ H2,upd (upd (upd H1 q0 (.lst nm8)) b (.lst nm5)) q1 (.lst (nm8++nm5))=H2∧Ax H1 H2∧H2 q1=some (.lst (nm8++nm5)):=⟨_,rfl,((Ax.upd n0).new m).new n1,Ae⟩
  refine Gv rfl rfl e2 ?_
  refine⟨13,rfl,(by decide),(by decide),?_⟩
  refine Dt (lo:=0) (n:=13) (fun i ys H3=>H3=H2∧ys=vB ((List.range i).map fun j=>decide (j=3))) ⟨rfl,rfl⟩ ?_ (by decide) ?_ ?_
  ·rintro i ys H3 hi ⟨rfl,rfl⟩
   rw[Fv,Apx,ApG]
   exact Apv _
  ·rintro i ys H3 hi ⟨rfl,rfl⟩
   refine Eo.no ?_
   refine⟨_,rfl,_,rfl,rfl,CN.of hi ⟨rfl,?_⟩⟩
   rw[ApI,Ap2,show decide (V.int (0+(i:Int))=V.int ((3:Nat):Int))=decide (i=3) from decide_eq_decide.mpr ⟨fun z=>by injection z with z;omega,fun z=>by rw[z];rfl⟩]
   exact(FP _ _).symm▸rfl
  ·rintro ys H3 q2 ⟨rfl,rfl⟩ n2
   have s3:Ax H3 (upd H3 q2 (.lst (vB ((List.range 13).map fun j=>decide (j=3))))):=.upd n2
   have h3:(upd H3 q2 (.lst (vB ((List.range 13).map fun j=>decide (j=3))))) q2=some (.lst (vB ((List.range 13).map fun j=>decide (j=3)))):=Ae
   generalize upd H3 q2 (.lst (vB ((List.range 13).map fun j=>decide (j=3))))=H4 at s3 h3 ⊢
   refine⟨_,rfl,3,ea,rfl,by decide,s3 _ _ (s2 _ _ he),fun q5 H5 s5 h5=>?_⟩
   refine⟨_,rfl,q5,q2,_,_,rfl,rfl,SqL.of h5,SqL.of (s5 _ _ h3),rfl,rfl,true,rfl,Ed ?_⟩
   refine⟨_,rfl,ea,rfl,s5 _ _ (s3 _ _ (s2 _ _ he)),_,rfl,_,rfl,_,rfl,_,_,_,_,rfl,rfl,SqL.of (s5 _ _ (s3 _ _ h2)),CJ (by decide) rfl,rfl,?_⟩
   exact k _ (((s1.trans s2).trans s3).trans s5)
theorem Alw(T:Txt K mg t):Be P w K mg base CX0 45 t.CT t.CV ["cell"] (Kl 4):=by
 refine T.Dg.F.ok Ag (fun vs H Q E h=>?_) (fun cdv A outer s H vs Q E hr h=>?_)
 ·obtain⟨cell,rfl,_⟩:=h
  rfl
 ·obtain⟨cell,rfl,hw,k⟩:=h
  refine⟨_,(Ac (Aw (i:=1) Ag.nd rfl (Or.inr rfl) (Bu Fz (pv 0) Ai))
   (Ac (Aw (i:=2) Ag.nd rfl (Or.inl rfl) (Aj ((CP T).mono (by decide)) hr rfl T.Bc.m T.Bc.F.kp T.Bc.b .nil Bp (Aa (pv 1) (Aa (Bu Fw (pv 0) Ai) Ab))))
   (Ac (Bs (Dp (Cw (Ar (Cu (K:=K)) rfl T.Bm Bb (Aa (pv 2) (Aa (Ep (v:=.ty "ValueError") rfl T.Dh CK rfl) Ab)))))
    (Af (Am Ik))
    Ak)
   (Ac (Aw (i:=3) Ag.nd rfl (Or.inl rfl) (BJ (Aa Ad (Aa Ad (Aa Ad (Aa Ad (Aa Ad (Aa Ad (Aa Ad (Aa Ad Ab))))))))))
   (Ac (Aw (i:=3) Ag.nd rfl (Or.inl rfl) (Bu Fq (pv 3) (BJ (Aa Ad (Aa Ad (Aa Ad (Aa Ad (Aa Ad Ab))))))))
   (Ac (Ge (i:=4) (Dq.mk (Cg:=[1]) (Nc:=["k", "way"]) rfl (by decide +kernel) (by decide +kernel) (Dr (sc0:=Ah CZ) rfl (by decide +kernel)) rfl rfl rfl (by decide +kernel) (fun k j h=>match k,h with | 0,h=>by obtain rfl:=Option.some.inj h;exact⟨_,rfl,rfl,rfl⟩ | _+1,h=>by simp at h)) rfl Ag.nd rfl rfl (Dy rfl T.Ec (Aa Ai Ab)) (fun _ _ _ _ _=>.nil) (fun _ _ _ _ _=>(BP Ce (pv 0) (pv 1) (Al _))) rfl)
   (Af (Am (GR (BP (Gf (K:=K) (hr.Hv)) (Aj ((CQ T).mono (by decide)) hr rfl T.Bd.m T.Bd.F.kp T.Bd.b .nil Bp (Aa (pv 2) Ab)) (pv 4) (Al _)) (GQ (BP Ce (Es (pv 2) T.GD.c T.Ug.m ((UT T).mono (by decide)) hr T.Ug.b Bp) (CG (CW (K:=K)) (pv 3) (pv 1) (fun _ _=>rfl)) (Al _)))))))))))),?_⟩
  refine⟨_,rfl,_,_,rfl,rfl,(by show(0:Int)<13;decide),?_⟩
  refine DP (congrArg V.int hw) rfl ?_
  refine⟨_,rfl,_,rfl,_,_,rfl,rfl,⟨by decide,by decide⟩,4,_,rfl,by decide,fun ea H1 s1 he=>?_⟩
  refine⟨_,rfl,ea,t.Bh,true,he,T.GD.c,.inl ⟨_,rfl,Hy T.GD⟩,_,rfl,Ez ?_⟩
  refine⟨(by show 8≤sizeLine;decide),fun q0 n0=>?_⟩
  refine⟨_,rfl,(by show 5≤sizeLine;decide),fun b m=>⟨q0,b,nm8,nm5,rfl,rfl,(Ax.upd m) _ _ Ae,Ae,(by show 13≤sizeLine;decide),fun q1 n1=>?_⟩⟩
  obtain⟨H2,e2,s2,h2⟩:∃ H2,upd (upd (upd H1 q0 (.lst nm8)) b (.lst nm5)) q1 (.lst (nm8++nm5))=H2∧Ax H1 H2∧H2 q1=some (.lst (nm8++nm5)):=⟨_,rfl,((Ax.upd n0).new m).new n1,Ae⟩
  refine Gv rfl rfl e2 ?_
  refine⟨13,rfl,(by decide),(by decide),?_⟩
  refine Dt (lo:=0) (n:=13) (fun i ys H3=>H3=H2∧ys=vB ((List.range i).map fun j=>decide (j=4))) ⟨rfl,rfl⟩ ?_ (by decide) ?_ ?_
  ·rintro i ys H3 hi ⟨rfl,rfl⟩
   rw[Fv,Apx,ApG]
   exact Apv _
  ·rintro i ys H3 hi ⟨rfl,rfl⟩
   refine Eo.no ?_
   refine⟨_,rfl,_,rfl,rfl,CN.of hi ⟨rfl,?_⟩⟩
   rw[ApI,Ap2,show decide (V.int (0+(i:Int))=V.int ((4:Nat):Int))=decide (i=4) from decide_eq_decide.mpr ⟨fun z=>by injection z with z;omega,fun z=>by rw[z];rfl⟩]
   exact(FP _ _).symm▸rfl
  ·rintro ys H3 q2 ⟨rfl,rfl⟩ n2
   have s3:Ax H3 (upd H3 q2 (.lst (vB ((List.range 13).map fun j=>decide (j=4))))):=.upd n2
   have h3:(upd H3 q2 (.lst (vB ((List.range 13).map fun j=>decide (j=4))))) q2=some (.lst (vB ((List.range 13).map fun j=>decide (j=4)))):=Ae
   generalize upd H3 q2 (.lst (vB ((List.range 13).map fun j=>decide (j=4))))=H4 at s3 h3 ⊢
   refine⟨_,rfl,4,ea,rfl,by decide,s3 _ _ (s2 _ _ he),fun q5 H5 s5 h5=>?_⟩
   refine⟨_,rfl,q5,q2,_,_,rfl,rfl,SqL.of h5,SqL.of (s5 _ _ h3),rfl,rfl,true,rfl,Ed ?_⟩
   refine⟨_,rfl,ea,rfl,s5 _ _ (s3 _ _ (s2 _ _ he)),_,rfl,_,rfl,_,rfl,_,_,_,_,rfl,rfl,SqL.of (s5 _ _ (s3 _ _ h2)),CJ (by decide) rfl,rfl,?_⟩
   exact k _ (((s1.trans s2).trans s3).trans s5)
theorem Alx(T:Txt K mg t):Be P w K mg base CX0 45 t.CT t.CV ["cell"] (Kl 5):=by
 refine T.Dg.F.ok Ag (fun vs H Q E h=>?_) (fun cdv A outer s H vs Q E hr h=>?_)
 ·obtain⟨cell,rfl,_⟩:=h
  rfl
 ·obtain⟨cell,rfl,hw,k⟩:=h
  refine⟨_,(Ac (Aw (i:=1) Ag.nd rfl (Or.inr rfl) (Bu Fz (pv 0) Ai))
   (Ac (Aw (i:=2) Ag.nd rfl (Or.inl rfl) (Aj ((CP T).mono (by decide)) hr rfl T.Bc.m T.Bc.F.kp T.Bc.b .nil Bp (Aa (pv 1) (Aa (Bu Fw (pv 0) Ai) Ab))))
   (Ac (Bs (Dp (Cw (Ar (Cu (K:=K)) rfl T.Bm Bb (Aa (pv 2) (Aa (Ep (v:=.ty "ValueError") rfl T.Dh CK rfl) Ab)))))
    (Af (Am Ik))
    Ak)
   (Ac (Aw (i:=3) Ag.nd rfl (Or.inl rfl) (BJ (Aa Ad (Aa Ad (Aa Ad (Aa Ad (Aa Ad (Aa Ad (Aa Ad (Aa Ad Ab))))))))))
   (Ac (Aw (i:=3) Ag.nd rfl (Or.inl rfl) (Bu Fq (pv 3) (BJ (Aa Ad (Aa Ad (Aa Ad (Aa Ad (Aa Ad Ab))))))))
   (Ac (Ge (i:=4) (Dq.mk (Cg:=[1]) (Nc:=["k", "way"]) rfl (by decide +kernel) (by decide +kernel) (Dr (sc0:=Ah CZ) rfl (by decide +kernel)) rfl rfl rfl (by decide +kernel) (fun k j h=>match k,h with | 0,h=>by obtain rfl:=Option.some.inj h;exact⟨_,rfl,rfl,rfl⟩ | _+1,h=>by simp at h)) rfl Ag.nd rfl rfl (Dy rfl T.Ec (Aa Ai Ab)) (fun _ _ _ _ _=>.nil) (fun _ _ _ _ _=>(BP Ce (pv 0) (pv 1) (Al _))) rfl)
   (Af (Am (GR (BP (Gf (K:=K) (hr.Hv)) (Aj ((CQ T).mono (by decide)) hr rfl T.Bd.m T.Bd.F.kp T.Bd.b .nil Bp (Aa (pv 2) Ab)) (pv 4) (Al _)) (GQ (BP Ce (Es (pv 2) T.Mz.c T.Abh.m ((Y8 T).mono (by decide)) hr T.Abh.b Bp) (CG (CW (K:=K)) (pv 3) (pv 1) (fun _ _=>rfl)) (Al _)))))))))))),?_⟩
  refine⟨_,rfl,_,_,rfl,rfl,(by show(0:Int)<13;decide),?_⟩
  refine DP (congrArg V.int hw) rfl ?_
  refine⟨_,rfl,_,rfl,_,_,rfl,rfl,⟨by decide,by decide⟩,5,_,rfl,by decide,fun ea H1 s1 he=>?_⟩
  refine⟨_,rfl,ea,t.BV,true,he,T.Mz.c,.inl ⟨_,rfl,Hy T.Mz⟩,_,rfl,Ez ?_⟩
  refine⟨(by show 8≤sizeLine;decide),fun q0 n0=>?_⟩
  refine⟨_,rfl,(by show 5≤sizeLine;decide),fun b m=>⟨q0,b,nm8,nm5,rfl,rfl,(Ax.upd m) _ _ Ae,Ae,(by show 13≤sizeLine;decide),fun q1 n1=>?_⟩⟩
  obtain⟨H2,e2,s2,h2⟩:∃ H2,upd (upd (upd H1 q0 (.lst nm8)) b (.lst nm5)) q1 (.lst (nm8++nm5))=H2∧Ax H1 H2∧H2 q1=some (.lst (nm8++nm5)):=⟨_,rfl,((Ax.upd n0).new m).new n1,Ae⟩
  refine Gv rfl rfl e2 ?_
  refine⟨13,rfl,(by decide),(by decide),?_⟩
  refine Dt (lo:=0) (n:=13) (fun i ys H3=>H3=H2∧ys=vB ((List.range i).map fun j=>decide (j=5))) ⟨rfl,rfl⟩ ?_ (by decide) ?_ ?_
  ·rintro i ys H3 hi ⟨rfl,rfl⟩
   rw[Fv,Apx,ApG]
   exact Apv _
  ·rintro i ys H3 hi ⟨rfl,rfl⟩
   refine Eo.no ?_
   refine⟨_,rfl,_,rfl,rfl,CN.of hi ⟨rfl,?_⟩⟩
   rw[ApI,Ap2,show decide (V.int (0+(i:Int))=V.int ((5:Nat):Int))=decide (i=5) from decide_eq_decide.mpr ⟨fun z=>by injection z with z;omega,fun z=>by rw[z];rfl⟩]
   exact(FP _ _).symm▸rfl
  ·rintro ys H3 q2 ⟨rfl,rfl⟩ n2
   have s3:Ax H3 (upd H3 q2 (.lst (vB ((List.range 13).map fun j=>decide (j=5))))):=.upd n2
   have h3:(upd H3 q2 (.lst (vB ((List.range 13).map fun j=>decide (j=5))))) q2=some (.lst (vB ((List.range 13).map fun j=>decide (j=5)))):=Ae
   generalize upd H3 q2 (.lst (vB ((List.range 13).map fun j=>decide (j=5))))=H4 at s3 h3 ⊢
   refine⟨_,rfl,5,ea,rfl,by decide,s3 _ _ (s2 _ _ he),fun q5 H5 s5 h5=>?_⟩
   refine⟨_,rfl,q5,q2,_,_,rfl,rfl,SqL.of h5,SqL.of (s5 _ _ h3),rfl,rfl,true,rfl,Ed ?_⟩
   refine⟨_,rfl,ea,rfl,s5 _ _ (s3 _ _ (s2 _ _ he)),_,rfl,_,rfl,_,rfl,_,_,_,_,rfl,rfl,SqL.of (s5 _ _ (s3 _ _ h2)),CJ (by decide) rfl,rfl,?_⟩
   exact k _ (((s1.trans s2).trans s3).trans s5)
theorem Aly(T:Txt K mg t):Be P w K mg base CX0 45 t.CT t.CV ["cell"] (Kl 6):=by
 refine T.Dg.F.ok Ag (fun vs H Q E h=>?_) (fun cdv A outer s H vs Q E hr h=>?_)
 ·obtain⟨cell,rfl,_⟩:=h
  rfl
 ·obtain⟨cell,rfl,hw,k⟩:=h
  refine⟨_,(Ac (Aw (i:=1) Ag.nd rfl (Or.inr rfl) (Bu Fz (pv 0) Ai))
   (Ac (Aw (i:=2) Ag.nd rfl (Or.inl rfl) (Aj ((CP T).mono (by decide)) hr rfl T.Bc.m T.Bc.F.kp T.Bc.b .nil Bp (Aa (pv 1) (Aa (Bu Fw (pv 0) Ai) Ab))))
   (Ac (Bs (Dp (Cw (Ar (Cu (K:=K)) rfl T.Bm Bb (Aa (pv 2) (Aa (Ep (v:=.ty "ValueError") rfl T.Dh CK rfl) Ab)))))
    (Af (Am Ik))
    Ak)
   (Ac (Aw (i:=3) Ag.nd rfl (Or.inl rfl) (BJ (Aa Ad (Aa Ad (Aa Ad (Aa Ad (Aa Ad (Aa Ad (Aa Ad (Aa Ad Ab))))))))))
   (Ac (Aw (i:=3) Ag.nd rfl (Or.inl rfl) (Bu Fq (pv 3) (BJ (Aa Ad (Aa Ad (Aa Ad (Aa Ad (Aa Ad Ab))))))))
   (Ac (Ge (i:=4) (Dq.mk (Cg:=[1]) (Nc:=["k", "way"]) rfl (by decide +kernel) (by decide +kernel) (Dr (sc0:=Ah CZ) rfl (by decide +kernel)) rfl rfl rfl (by decide +kernel) (fun k j h=>match k,h with | 0,h=>by obtain rfl:=Option.some.inj h;exact⟨_,rfl,rfl,rfl⟩ | _+1,h=>by simp at h)) rfl Ag.nd rfl rfl (Dy rfl T.Ec (Aa Ai Ab)) (fun _ _ _ _ _=>.nil) (fun _ _ _ _ _=>(BP Ce (pv 0) (pv 1) (Al _))) rfl)
   (Af (Am (GR (BP (Gf (K:=K) (hr.Hv)) (Aj ((CQ T).mono (by decide)) hr rfl T.Bd.m T.Bd.F.kp T.Bd.b .nil Bp (Aa (pv 2) Ab)) (pv 4) (Al _)) (GQ (BP Ce (Es (pv 2) T.GF.c T.Up.m ((UW T).mono (by decide)) hr T.Up.b Bp) (CG (CW (K:=K)) (pv 3) (pv 1) (fun _ _=>rfl)) (Al _)))))))))))),?_⟩
  refine⟨_,rfl,_,_,rfl,rfl,(by show(0:Int)<13;decide),?_⟩
  refine DP (congrArg V.int hw) rfl ?_
  refine⟨_,rfl,_,rfl,_,_,rfl,rfl,⟨by decide,by decide⟩,6,_,rfl,by decide,fun ea H1 s1 he=>?_⟩
  refine⟨_,rfl,ea,t.Bj,true,he,T.GF.c,.inl ⟨_,rfl,Hy T.GF⟩,_,rfl,Ez ?_⟩
  refine⟨(by show 8≤sizeLine;decide),fun q0 n0=>?_⟩
  refine⟨_,rfl,(by show 5≤sizeLine;decide),fun b m=>⟨q0,b,nm8,nm5,rfl,rfl,(Ax.upd m) _ _ Ae,Ae,(by show 13≤sizeLine;decide),fun q1 n1=>?_⟩⟩
  obtain⟨H2,e2,s2,h2⟩:∃ H2,upd (upd (upd H1 q0 (.lst nm8)) b (.lst nm5)) q1 (.lst (nm8++nm5))=H2∧Ax H1 H2∧H2 q1=some (.lst (nm8++nm5)):=⟨_,rfl,((Ax.upd n0).new m).new n1,Ae⟩
  refine Gv rfl rfl e2 ?_
  refine⟨13,rfl,(by decide),(by decide),?_⟩
  refine Dt (lo:=0) (n:=13) (fun i ys H3=>H3=H2∧ys=vB ((List.range i).map fun j=>decide (j=6))) ⟨rfl,rfl⟩ ?_ (by decide) ?_ ?_
  ·rintro i ys H3 hi ⟨rfl,rfl⟩
   rw[Fv,Apx,ApG]
   exact Apv _
  ·rintro i ys H3 hi ⟨rfl,rfl⟩
   refine Eo.no ?_
   refine⟨_,rfl,_,rfl,rfl,CN.of hi ⟨rfl,?_⟩⟩
   rw[ApI,Ap2,show decide (V.int (0+(i:Int))=V.int ((6:Nat):Int))=decide (i=6) from decide_eq_decide.mpr ⟨fun z=>by injection z with z;omega,fun z=>by rw[z];rfl⟩]
   exact(FP _ _).symm▸rfl
  ·rintro ys H3 q2 ⟨rfl,rfl⟩ n2
   have s3:Ax H3 (upd H3 q2 (.lst (vB ((List.range 13).map fun j=>decide (j=6))))):=.upd n2
   have h3:(upd H3 q2 (.lst (vB ((List.range 13).map fun j=>decide (j=6))))) q2=some (.lst (vB ((List.range 13).map fun j=>decide (j=6)))):=Ae
   generalize upd H3 q2 (.lst (vB ((List.range 13).map fun j=>decide (j=6))))=H4 at s3 h3 ⊢
   refine⟨_,rfl,6,ea,rfl,by decide,s3 _ _ (s2 _ _ he),fun q5 H5 s5 h5=>?_⟩
   refine⟨_,rfl,q5,q2,_,_,rfl,rfl,SqL.of h5,SqL.of (s5 _ _ h3),rfl,rfl,true,rfl,Ed ?_⟩
   refine⟨_,rfl,ea,rfl,s5 _ _ (s3 _ _ (s2 _ _ he)),_,rfl,_,rfl,_,rfl,_,_,_,_,rfl,rfl,SqL.of (s5 _ _ (s3 _ _ h2)),CJ (by decide) rfl,rfl,?_⟩
   exact k _ (((s1.trans s2).trans s3).trans s5)
theorem Alz(T:Txt K mg t):Be P w K mg base CX0 45 t.CT t.CV ["cell"] (Kl 7):=by
 refine T.Dg.F.ok Ag (fun vs H Q E h=>?_) (fun cdv A outer s H vs Q E hr h=>?_)
 ·obtain⟨cell,rfl,_⟩:=h
  rfl
 ·obtain⟨cell,rfl,hw,k⟩:=h
  refine⟨_,(Ac (Aw (i:=1) Ag.nd rfl (Or.inr rfl) (Bu Fz (pv 0) Ai))
   (Ac (Aw (i:=2) Ag.nd rfl (Or.inl rfl) (Aj ((CP T).mono (by decide)) hr rfl T.Bc.m T.Bc.F.kp T.Bc.b .nil Bp (Aa (pv 1) (Aa (Bu Fw (pv 0) Ai) Ab))))
   (Ac (Bs (Dp (Cw (Ar (Cu (K:=K)) rfl T.Bm Bb (Aa (pv 2) (Aa (Ep (v:=.ty "ValueError") rfl T.Dh CK rfl) Ab)))))
    (Af (Am Ik))
    Ak)
   (Ac (Aw (i:=3) Ag.nd rfl (Or.inl rfl) (BJ (Aa Ad (Aa Ad (Aa Ad (Aa Ad (Aa Ad (Aa Ad (Aa Ad (Aa Ad Ab))))))))))
   (Ac (Aw (i:=3) Ag.nd rfl (Or.inl rfl) (Bu Fq (pv 3) (BJ (Aa Ad (Aa Ad (Aa Ad (Aa Ad (Aa Ad Ab))))))))
   (Ac (Ge (i:=4) (Dq.mk (Cg:=[1]) (Nc:=["k", "way"]) rfl (by decide +kernel) (by decide +kernel) (Dr (sc0:=Ah CZ) rfl (by decide +kernel)) rfl rfl rfl (by decide +kernel) (fun k j h=>match k,h with | 0,h=>by obtain rfl:=Option.some.inj h;exact⟨_,rfl,rfl,rfl⟩ | _+1,h=>by simp at h)) rfl Ag.nd rfl rfl (Dy rfl T.Ec (Aa Ai Ab)) (fun _ _ _ _ _=>.nil) (fun _ _ _ _ _=>(BP Ce (pv 0) (pv 1) (Al _))) rfl)
   (Af (Am (GR (BP (Gf (K:=K) (hr.Hv)) (Aj ((CQ T).mono (by decide)) hr rfl T.Bd.m T.Bd.F.kp T.Bd.b .nil Bp (Aa (pv 2) Ab)) (pv 4) (Al _)) (GQ (BP Ce (Es (pv 2) T.GP.c T.Qx.m ((RW T).mono (by decide)) hr T.Qx.b Bp) (CG (CW (K:=K)) (pv 3) (pv 1) (fun _ _=>rfl)) (Al _)))))))))))),?_⟩
  refine⟨_,rfl,_,_,rfl,rfl,(by show(0:Int)<13;decide),?_⟩
  refine DP (congrArg V.int hw) rfl ?_
  refine⟨_,rfl,_,rfl,_,_,rfl,rfl,⟨by decide,by decide⟩,7,_,rfl,by decide,fun ea H1 s1 he=>?_⟩
  refine⟨_,rfl,ea,t.Ba,true,he,T.GP.c,.inl ⟨_,rfl,Hy T.GP⟩,_,rfl,Ez ?_⟩
  refine⟨(by show 8≤sizeLine;decide),fun q0 n0=>?_⟩
  refine⟨_,rfl,(by show 5≤sizeLine;decide),fun b m=>⟨q0,b,nm8,nm5,rfl,rfl,(Ax.upd m) _ _ Ae,Ae,(by show 13≤sizeLine;decide),fun q1 n1=>?_⟩⟩
  obtain⟨H2,e2,s2,h2⟩:∃ H2,upd (upd (upd H1 q0 (.lst nm8)) b (.lst nm5)) q1 (.lst (nm8++nm5))=H2∧Ax H1 H2∧H2 q1=some (.lst (nm8++nm5)):=⟨_,rfl,((Ax.upd n0).new m).new n1,Ae⟩
  refine Gv rfl rfl e2 ?_
  refine⟨13,rfl,(by decide),(by decide),?_⟩
  refine Dt (lo:=0) (n:=13) (fun i ys H3=>H3=H2∧ys=vB ((List.range i).map fun j=>decide (j=7))) ⟨rfl,rfl⟩ ?_ (by decide) ?_ ?_
  ·rintro i ys H3 hi ⟨rfl,rfl⟩
   rw[Fv,Apx,ApG]
   exact Apv _
  ·rintro i ys H3 hi ⟨rfl,rfl⟩
   refine Eo.no ?_
   refine⟨_,rfl,_,rfl,rfl,CN.of hi ⟨rfl,?_⟩⟩
   rw[ApI,Ap2,show decide (V.int (0+(i:Int))=V.int ((7:Nat):Int))=decide (i=7) from decide_eq_decide.mpr ⟨fun z=>by injection z with z;omega,fun z=>by rw[z];rfl⟩]
   exact(FP _ _).symm▸rfl
  ·rintro ys H3 q2 ⟨rfl,rfl⟩ n2
   have s3:Ax H3 (upd H3 q2 (.lst (vB ((List.range 13).map fun j=>decide (j=7))))):=.upd n2
   have h3:(upd H3 q2 (.lst (vB ((List.range 13).map fun j=>decide (j=7))))) q2=some (.lst (vB ((List.range 13).map fun j=>decide (j=7)))):=Ae
   generalize upd H3 q2 (.lst (vB ((List.range 13).map fun j=>decide (j=7))))=H4 at s3 h3 ⊢
   refine⟨_,rfl,7,ea,rfl,by decide,s3 _ _ (s2 _ _ he),fun q5 H5 s5 h5=>?_⟩
   refine⟨_,rfl,q5,q2,_,_,rfl,rfl,SqL.of h5,SqL.of (s5 _ _ h3),rfl,rfl,true,rfl,Ed ?_⟩
   refine⟨_,rfl,ea,rfl,s5 _ _ (s3 _ _ (s2 _ _ he)),_,rfl,_,rfl,_,rfl,_,_,_,_,rfl,rfl,SqL.of (s5 _ _ (s3 _ _ h2)),CJ (by decide) rfl,rfl,?_⟩
   exact k _ (((s1.trans s2).trans s3).trans s5)
theorem Al0(T:Txt K mg t):Be P w K mg base CX0 45 t.CT t.CV ["cell"] (Kl 8):=by
 refine T.Dg.F.ok Ag (fun vs H Q E h=>?_) (fun cdv A outer s H vs Q E hr h=>?_)
 ·obtain⟨cell,rfl,_⟩:=h
  rfl
 ·obtain⟨cell,rfl,hw,k⟩:=h
  refine⟨_,(Ac (Aw (i:=1) Ag.nd rfl (Or.inr rfl) (Bu Fz (pv 0) Ai))
   (Ac (Aw (i:=2) Ag.nd rfl (Or.inl rfl) (Aj ((CP T).mono (by decide)) hr rfl T.Bc.m T.Bc.F.kp T.Bc.b .nil Bp (Aa (pv 1) (Aa (Bu Fw (pv 0) Ai) Ab))))
   (Ac (Bs (Dp (Cw (Ar (Cu (K:=K)) rfl T.Bm Bb (Aa (pv 2) (Aa (Ep (v:=.ty "ValueError") rfl T.Dh CK rfl) Ab)))))
    (Af (Am Ik))
    Ak)
   (Ac (Aw (i:=3) Ag.nd rfl (Or.inl rfl) (BJ (Aa Ad (Aa Ad (Aa Ad (Aa Ad (Aa Ad (Aa Ad (Aa Ad (Aa Ad Ab))))))))))
   (Ac (Aw (i:=3) Ag.nd rfl (Or.inl rfl) (Bu Fq (pv 3) (BJ (Aa Ad (Aa Ad (Aa Ad (Aa Ad (Aa Ad Ab))))))))
   (Ac (Ge (i:=4) (Dq.mk (Cg:=[1]) (Nc:=["k", "way"]) rfl (by decide +kernel) (by decide +kernel) (Dr (sc0:=Ah CZ) rfl (by decide +kernel)) rfl rfl rfl (by decide +kernel) (fun k j h=>match k,h with | 0,h=>by obtain rfl:=Option.some.inj h;exact⟨_,rfl,rfl,rfl⟩ | _+1,h=>by simp at h)) rfl Ag.nd rfl rfl (Dy rfl T.Ec (Aa Ai Ab)) (fun _ _ _ _ _=>.nil) (fun _ _ _ _ _=>(BP Ce (pv 0) (pv 1) (Al _))) rfl)
   (Af (Am (GR (BP (Gf (K:=K) (hr.Hv)) (Aj ((CQ T).mono (by decide)) hr rfl T.Bd.m T.Bd.F.kp T.Bd.b .nil Bp (Aa (pv 2) Ab)) (pv 4) (Al _)) (GQ (BP Ce (Es (pv 2) T.HN.c T.Uv.m ((Va T).mono (by decide)) hr T.Uv.b Bp) (CG (CW (K:=K)) (pv 3) (pv 1) (fun _ _=>rfl)) (Al _)))))))))))),?_⟩
  refine⟨_,rfl,_,_,rfl,rfl,(by show(0:Int)<13;decide),?_⟩
  refine DP (congrArg V.int hw) rfl ?_
  refine⟨_,rfl,_,rfl,_,_,rfl,rfl,⟨by decide,by decide⟩,8,_,rfl,by decide,fun ea H1 s1 he=>?_⟩
  refine⟨_,rfl,ea,t.Bl,true,he,T.HN.c,.inl ⟨_,rfl,Hy T.HN⟩,_,rfl,Ez ?_⟩
  refine⟨(by show 8≤sizeLine;decide),fun q0 n0=>?_⟩
  refine⟨_,rfl,(by show 5≤sizeLine;decide),fun b m=>⟨q0,b,nm8,nm5,rfl,rfl,(Ax.upd m) _ _ Ae,Ae,(by show 13≤sizeLine;decide),fun q1 n1=>?_⟩⟩
  obtain⟨H2,e2,s2,h2⟩:∃ H2,upd (upd (upd H1 q0 (.lst nm8)) b (.lst nm5)) q1 (.lst (nm8++nm5))=H2∧Ax H1 H2∧H2 q1=some (.lst (nm8++nm5)):=⟨_,rfl,((Ax.upd n0).new m).new n1,Ae⟩
  refine Gv rfl rfl e2 ?_
  refine⟨13,rfl,(by decide),(by decide),?_⟩
  refine Dt (lo:=0) (n:=13) (fun i ys H3=>H3=H2∧ys=vB ((List.range i).map fun j=>decide (j=8))) ⟨rfl,rfl⟩ ?_ (by decide) ?_ ?_
  ·rintro i ys H3 hi ⟨rfl,rfl⟩
   rw[Fv,Apx,ApG]
   exact Apv _
  ·rintro i ys H3 hi ⟨rfl,rfl⟩
   refine Eo.no ?_
   refine⟨_,rfl,_,rfl,rfl,CN.of hi ⟨rfl,?_⟩⟩
   rw[ApI,Ap2,show decide (V.int (0+(i:Int))=V.int ((8:Nat):Int))=decide (i=8) from decide_eq_decide.mpr ⟨fun z=>by injection z with z;omega,fun z=>by rw[z];rfl⟩]
   exact(FP _ _).symm▸rfl
  ·rintro ys H3 q2 ⟨rfl,rfl⟩ n2
   have s3:Ax H3 (upd H3 q2 (.lst (vB ((List.range 13).map fun j=>decide (j=8))))):=.upd n2
   have h3:(upd H3 q2 (.lst (vB ((List.range 13).map fun j=>decide (j=8))))) q2=some (.lst (vB ((List.range 13).map fun j=>decide (j=8)))):=Ae
   generalize upd H3 q2 (.lst (vB ((List.range 13).map fun j=>decide (j=8))))=H4 at s3 h3 ⊢
   refine⟨_,rfl,8,ea,rfl,by decide,s3 _ _ (s2 _ _ he),fun q5 H5 s5 h5=>?_⟩
   refine⟨_,rfl,q5,q2,_,_,rfl,rfl,SqL.of h5,SqL.of (s5 _ _ h3),rfl,rfl,true,rfl,Ed ?_⟩
   refine⟨_,rfl,ea,rfl,s5 _ _ (s3 _ _ (s2 _ _ he)),_,rfl,_,rfl,_,rfl,_,_,_,_,rfl,rfl,SqL.of (s5 _ _ (s3 _ _ h2)),CJ (by decide) rfl,rfl,?_⟩
   exact k _ (((s1.trans s2).trans s3).trans s5)
theorem Al1(T:Txt K mg t):Be P w K mg base CX0 45 t.CT t.CV ["cell"] (Kl 9):=by
 refine T.Dg.F.ok Ag (fun vs H Q E h=>?_) (fun cdv A outer s H vs Q E hr h=>?_)
 ·obtain⟨cell,rfl,_⟩:=h
  rfl
 ·obtain⟨cell,rfl,hw,k⟩:=h
  refine⟨_,(Ac (Aw (i:=1) Ag.nd rfl (Or.inr rfl) (Bu Fz (pv 0) Ai))
   (Ac (Aw (i:=2) Ag.nd rfl (Or.inl rfl) (Aj ((CP T).mono (by decide)) hr rfl T.Bc.m T.Bc.F.kp T.Bc.b .nil Bp (Aa (pv 1) (Aa (Bu Fw (pv 0) Ai) Ab))))
   (Ac (Bs (Dp (Cw (Ar (Cu (K:=K)) rfl T.Bm Bb (Aa (pv 2) (Aa (Ep (v:=.ty "ValueError") rfl T.Dh CK rfl) Ab)))))
    (Af (Am Ik))
    Ak)
   (Ac (Aw (i:=3) Ag.nd rfl (Or.inl rfl) (BJ (Aa Ad (Aa Ad (Aa Ad (Aa Ad (Aa Ad (Aa Ad (Aa Ad (Aa Ad Ab))))))))))
   (Ac (Aw (i:=3) Ag.nd rfl (Or.inl rfl) (Bu Fq (pv 3) (BJ (Aa Ad (Aa Ad (Aa Ad (Aa Ad (Aa Ad Ab))))))))
   (Ac (Ge (i:=4) (Dq.mk (Cg:=[1]) (Nc:=["k", "way"]) rfl (by decide +kernel) (by decide +kernel) (Dr (sc0:=Ah CZ) rfl (by decide +kernel)) rfl rfl rfl (by decide +kernel) (fun k j h=>match k,h with | 0,h=>by obtain rfl:=Option.some.inj h;exact⟨_,rfl,rfl,rfl⟩ | _+1,h=>by simp at h)) rfl Ag.nd rfl rfl (Dy rfl T.Ec (Aa Ai Ab)) (fun _ _ _ _ _=>.nil) (fun _ _ _ _ _=>(BP Ce (pv 0) (pv 1) (Al _))) rfl)
   (Af (Am (GR (BP (Gf (K:=K) (hr.Hv)) (Aj ((CQ T).mono (by decide)) hr rfl T.Bd.m T.Bd.F.kp T.Bd.b .nil Bp (Aa (pv 2) Ab)) (pv 4) (Al _)) (GQ (BP Ce (Es (pv 2) T.J3.c T.Yx.m ((WQ T).mono (by decide)) hr T.Yx.b Bp) (CG (CW (K:=K)) (pv 3) (pv 1) (fun _ _=>rfl)) (Al _)))))))))))),?_⟩
  refine⟨_,rfl,_,_,rfl,rfl,(by show(0:Int)<13;decide),?_⟩
  refine DP (congrArg V.int hw) rfl ?_
  refine⟨_,rfl,_,rfl,_,_,rfl,rfl,⟨by decide,by decide⟩,9,_,rfl,by decide,fun ea H1 s1 he=>?_⟩
  refine⟨_,rfl,ea,t.By,true,he,T.J3.c,.inl ⟨_,rfl,Hy T.J3⟩,_,rfl,Ez ?_⟩
  refine⟨(by show 8≤sizeLine;decide),fun q0 n0=>?_⟩
  refine⟨_,rfl,(by show 5≤sizeLine;decide),fun b m=>⟨q0,b,nm8,nm5,rfl,rfl,(Ax.upd m) _ _ Ae,Ae,(by show 13≤sizeLine;decide),fun q1 n1=>?_⟩⟩
  obtain⟨H2,e2,s2,h2⟩:∃ H2,upd (upd (upd H1 q0 (.lst nm8)) b (.lst nm5)) q1 (.lst (nm8++nm5))=H2∧Ax H1 H2∧H2 q1=some (.lst (nm8++nm5)):=⟨_,rfl,((Ax.upd n0).new m).new n1,Ae⟩
  refine Gv rfl rfl e2 ?_
  refine⟨13,rfl,(by decide),(by decide),?_⟩
  refine Dt (lo:=0) (n:=13) (fun i ys H3=>H3=H2∧ys=vB ((List.range i).map fun j=>decide (j=9))) ⟨rfl,rfl⟩ ?_ (by decide) ?_ ?_
  ·rintro i ys H3 hi ⟨rfl,rfl⟩
   rw[Fv,Apx,ApG]
   exact Apv _
  ·rintro i ys H3 hi ⟨rfl,rfl⟩
   refine Eo.no ?_
   refine⟨_,rfl,_,rfl,rfl,CN.of hi ⟨rfl,?_⟩⟩
   rw[ApI,Ap2,show decide (V.int (0+(i:Int))=V.int ((9:Nat):Int))=decide (i=9) from decide_eq_decide.mpr ⟨fun z=>by injection z with z;omega,fun z=>by rw[z];rfl⟩]
   exact(FP _ _).symm▸rfl
  ·rintro ys H3 q2 ⟨rfl,rfl⟩ n2
   have s3:Ax H3 (upd H3 q2 (.lst (vB ((List.range 13).map fun j=>decide (j=9))))):=.upd n2
   have h3:(upd H3 q2 (.lst (vB ((List.range 13).map fun j=>decide (j=9))))) q2=some (.lst (vB ((List.range 13).map fun j=>decide (j=9)))):=Ae
   generalize upd H3 q2 (.lst (vB ((List.range 13).map fun j=>decide (j=9))))=H4 at s3 h3 ⊢
   refine⟨_,rfl,9,ea,rfl,by decide,s3 _ _ (s2 _ _ he),fun q5 H5 s5 h5=>?_⟩
   refine⟨_,rfl,q5,q2,_,_,rfl,rfl,SqL.of h5,SqL.of (s5 _ _ h3),rfl,rfl,true,rfl,Ed ?_⟩
   refine⟨_,rfl,ea,rfl,s5 _ _ (s3 _ _ (s2 _ _ he)),_,rfl,_,rfl,_,rfl,_,_,_,_,rfl,rfl,SqL.of (s5 _ _ (s3 _ _ h2)),CJ (by decide) rfl,rfl,?_⟩
   exact k _ (((s1.trans s2).trans s3).trans s5)
theorem Ajo(T:Txt K mg t):Be P w K mg base CX0 45 t.CT t.CV ["cell"] (Kl 10):=by
 refine T.Dg.F.ok Ag (fun vs H Q E h=>?_) (fun cdv A outer s H vs Q E hr h=>?_)
 ·obtain⟨cell,rfl,_⟩:=h
  rfl
 ·obtain⟨cell,rfl,hw,k⟩:=h
  refine⟨_,(Ac (Aw (i:=1) Ag.nd rfl (Or.inr rfl) (Bu Fz (pv 0) Ai))
   (Ac (Aw (i:=2) Ag.nd rfl (Or.inl rfl) (Aj ((CP T).mono (by decide)) hr rfl T.Bc.m T.Bc.F.kp T.Bc.b .nil Bp (Aa (pv 1) (Aa (Bu Fw (pv 0) Ai) Ab))))
   (Ac (Bs (Dp (Cw (Ar (Cu (K:=K)) rfl T.Bm Bb (Aa (pv 2) (Aa (Ep (v:=.ty "ValueError") rfl T.Dh CK rfl) Ab)))))
    (Af (Am Ik))
    Ak)
   (Ac (Aw (i:=3) Ag.nd rfl (Or.inl rfl) (BJ (Aa Ad (Aa Ad (Aa Ad (Aa Ad (Aa Ad (Aa Ad (Aa Ad (Aa Ad Ab))))))))))
   (Ac (Aw (i:=3) Ag.nd rfl (Or.inl rfl) (Bu Fq (pv 3) (BJ (Aa Ad (Aa Ad (Aa Ad (Aa Ad (Aa Ad Ab))))))))
   (Ac (Ge (i:=4) (Dq.mk (Cg:=[1]) (Nc:=["k", "way"]) rfl (by decide +kernel) (by decide +kernel) (Dr (sc0:=Ah CZ) rfl (by decide +kernel)) rfl rfl rfl (by decide +kernel) (fun k j h=>match k,h with | 0,h=>by obtain rfl:=Option.some.inj h;exact⟨_,rfl,rfl,rfl⟩ | _+1,h=>by simp at h)) rfl Ag.nd rfl rfl (Dy rfl T.Ec (Aa Ai Ab)) (fun _ _ _ _ _=>.nil) (fun _ _ _ _ _=>(BP Ce (pv 0) (pv 1) (Al _))) rfl)
   (Af (Am (GR (BP (Gf (K:=K) (hr.Hv)) (Aj ((CQ T).mono (by decide)) hr rfl T.Bd.m T.Bd.F.kp T.Bd.b .nil Bp (Aa (pv 2) Ab)) (pv 4) (Al _)) (GQ (BP Ce (Es (pv 2) T.Ca.c T.Q7.m ((RX T).mono (by decide)) hr T.Q7.b Bp) (CG (CW (K:=K)) (pv 3) (pv 1) (fun _ _=>rfl)) (Al _)))))))))))),?_⟩
  refine⟨_,rfl,_,_,rfl,rfl,(by show(0:Int)<13;decide),?_⟩
  refine DP (congrArg V.int hw) rfl ?_
  refine⟨_,rfl,_,rfl,_,_,rfl,rfl,⟨by decide,by decide⟩,10,_,rfl,by decide,fun ea H1 s1 he=>?_⟩
  refine⟨_,rfl,ea,t.Av,true,he,T.Ca.c,.inl ⟨_,rfl,Hy T.Ca⟩,_,rfl,Ez ?_⟩
  refine⟨(by show 8≤sizeLine;decide),fun q0 n0=>?_⟩
  refine⟨_,rfl,(by show 5≤sizeLine;decide),fun b m=>⟨q0,b,nm8,nm5,rfl,rfl,(Ax.upd m) _ _ Ae,Ae,(by show 13≤sizeLine;decide),fun q1 n1=>?_⟩⟩
  obtain⟨H2,e2,s2,h2⟩:∃ H2,upd (upd (upd H1 q0 (.lst nm8)) b (.lst nm5)) q1 (.lst (nm8++nm5))=H2∧Ax H1 H2∧H2 q1=some (.lst (nm8++nm5)):=⟨_,rfl,((Ax.upd n0).new m).new n1,Ae⟩
  refine Gv rfl rfl e2 ?_
  refine⟨13,rfl,(by decide),(by decide),?_⟩
  refine Dt (lo:=0) (n:=13) (fun i ys H3=>H3=H2∧ys=vB ((List.range i).map fun j=>decide (j=10))) ⟨rfl,rfl⟩ ?_ (by decide) ?_ ?_
  ·rintro i ys H3 hi ⟨rfl,rfl⟩
   rw[Fv,Apx,ApG]
   exact Apv _
  ·rintro i ys H3 hi ⟨rfl,rfl⟩
   refine Eo.no ?_
   refine⟨_,rfl,_,rfl,rfl,CN.of hi ⟨rfl,?_⟩⟩
   rw[ApI,Ap2,show decide (V.int (0+(i:Int))=V.int ((10:Nat):Int))=decide (i=10) from decide_eq_decide.mpr ⟨fun z=>by injection z with z;omega,fun z=>by rw[z];rfl⟩]
   exact(FP _ _).symm▸rfl
  ·rintro ys H3 q2 ⟨rfl,rfl⟩ n2
   have s3:Ax H3 (upd H3 q2 (.lst (vB ((List.range 13).map fun j=>decide (j=10))))):=.upd n2
   have h3:(upd H3 q2 (.lst (vB ((List.range 13).map fun j=>decide (j=10))))) q2=some (.lst (vB ((List.range 13).map fun j=>decide (j=10)))):=Ae
   generalize upd H3 q2 (.lst (vB ((List.range 13).map fun j=>decide (j=10))))=H4 at s3 h3 ⊢
   refine⟨_,rfl,10,ea,rfl,by decide,s3 _ _ (s2 _ _ he),fun q5 H5 s5 h5=>?_⟩
   refine⟨_,rfl,q5,q2,_,_,rfl,rfl,SqL.of h5,SqL.of (s5 _ _ h3),rfl,rfl,true,rfl,Ed ?_⟩
   refine⟨_,rfl,ea,rfl,s5 _ _ (s3 _ _ (s2 _ _ he)),_,rfl,_,rfl,_,rfl,_,_,_,_,rfl,rfl,SqL.of (s5 _ _ (s3 _ _ h2)),CJ (by decide) rfl,rfl,?_⟩
   exact k _ (((s1.trans s2).trans s3).trans s5)
theorem Ajp(T:Txt K mg t):Be P w K mg base CX0 45 t.CT t.CV ["cell"] (Kl 11):=by
 refine T.Dg.F.ok Ag (fun vs H Q E h=>?_) (fun cdv A outer s H vs Q E hr h=>?_)
 ·obtain⟨cell,rfl,_⟩:=h
  rfl
 ·obtain⟨cell,rfl,hw,k⟩:=h
  refine⟨_,(Ac (Aw (i:=1) Ag.nd rfl (Or.inr rfl) (Bu Fz (pv 0) Ai))
   (Ac (Aw (i:=2) Ag.nd rfl (Or.inl rfl) (Aj ((CP T).mono (by decide)) hr rfl T.Bc.m T.Bc.F.kp T.Bc.b .nil Bp (Aa (pv 1) (Aa (Bu Fw (pv 0) Ai) Ab))))
   (Ac (Bs (Dp (Cw (Ar (Cu (K:=K)) rfl T.Bm Bb (Aa (pv 2) (Aa (Ep (v:=.ty "ValueError") rfl T.Dh CK rfl) Ab)))))
    (Af (Am Ik))
    Ak)
   (Ac (Aw (i:=3) Ag.nd rfl (Or.inl rfl) (BJ (Aa Ad (Aa Ad (Aa Ad (Aa Ad (Aa Ad (Aa Ad (Aa Ad (Aa Ad Ab))))))))))
   (Ac (Aw (i:=3) Ag.nd rfl (Or.inl rfl) (Bu Fq (pv 3) (BJ (Aa Ad (Aa Ad (Aa Ad (Aa Ad (Aa Ad Ab))))))))
   (Ac (Ge (i:=4) (Dq.mk (Cg:=[1]) (Nc:=["k", "way"]) rfl (by decide +kernel) (by decide +kernel) (Dr (sc0:=Ah CZ) rfl (by decide +kernel)) rfl rfl rfl (by decide +kernel) (fun k j h=>match k,h with | 0,h=>by obtain rfl:=Option.some.inj h;exact⟨_,rfl,rfl,rfl⟩ | _+1,h=>by simp at h)) rfl Ag.nd rfl rfl (Dy rfl T.Ec (Aa Ai Ab)) (fun _ _ _ _ _=>.nil) (fun _ _ _ _ _=>(BP Ce (pv 0) (pv 1) (Al _))) rfl)
   (Af (Am (GR (BP (Gf (K:=K) (hr.Hv)) (Aj ((CQ T).mono (by decide)) hr rfl T.Bd.m T.Bd.F.kp T.Bd.b .nil Bp (Aa (pv 2) Ab)) (pv 4) (Al _)) (GQ (BP Ce (Es (pv 2) T.J4.c T.Yz.m ((WR T).mono (by decide)) hr T.Yz.b Bp) (CG (CW (K:=K)) (pv 3) (pv 1) (fun _ _=>rfl)) (Al _)))))))))))),?_⟩
  refine⟨_,rfl,_,_,rfl,rfl,(by show(0:Int)<13;decide),?_⟩
  refine DP (congrArg V.int hw) rfl ?_
  refine⟨_,rfl,_,rfl,_,_,rfl,rfl,⟨by decide,by decide⟩,11,_,rfl,by decide,fun ea H1 s1 he=>?_⟩
  refine⟨_,rfl,ea,t.Bv,true,he,T.J4.c,.inl ⟨_,rfl,Hy T.J4⟩,_,rfl,Ez ?_⟩
  refine⟨(by show 8≤sizeLine;decide),fun q0 n0=>?_⟩
  refine⟨_,rfl,(by show 5≤sizeLine;decide),fun b m=>⟨q0,b,nm8,nm5,rfl,rfl,(Ax.upd m) _ _ Ae,Ae,(by show 13≤sizeLine;decide),fun q1 n1=>?_⟩⟩
  obtain⟨H2,e2,s2,h2⟩:∃ H2,upd (upd (upd H1 q0 (.lst nm8)) b (.lst nm5)) q1 (.lst (nm8++nm5))=H2∧Ax H1 H2∧H2 q1=some (.lst (nm8++nm5)):=⟨_,rfl,((Ax.upd n0).new m).new n1,Ae⟩
  refine Gv rfl rfl e2 ?_
  refine⟨13,rfl,(by decide),(by decide),?_⟩
  refine Dt (lo:=0) (n:=13) (fun i ys H3=>H3=H2∧ys=vB ((List.range i).map fun j=>decide (j=11))) ⟨rfl,rfl⟩ ?_ (by decide) ?_ ?_
  ·rintro i ys H3 hi ⟨rfl,rfl⟩
   rw[Fv,Apx,ApG]
   exact Apv _
  ·rintro i ys H3 hi ⟨rfl,rfl⟩
   refine Eo.no ?_
   refine⟨_,rfl,_,rfl,rfl,CN.of hi ⟨rfl,?_⟩⟩
   rw[ApI,Ap2,show decide (V.int (0+(i:Int))=V.int ((11:Nat):Int))=decide (i=11) from decide_eq_decide.mpr ⟨fun z=>by injection z with z;omega,fun z=>by rw[z];rfl⟩]
   exact(FP _ _).symm▸rfl
  ·rintro ys H3 q2 ⟨rfl,rfl⟩ n2
   have s3:Ax H3 (upd H3 q2 (.lst (vB ((List.range 13).map fun j=>decide (j=11))))):=.upd n2
   have h3:(upd H3 q2 (.lst (vB ((List.range 13).map fun j=>decide (j=11))))) q2=some (.lst (vB ((List.range 13).map fun j=>decide (j=11)))):=Ae
   generalize upd H3 q2 (.lst (vB ((List.range 13).map fun j=>decide (j=11))))=H4 at s3 h3 ⊢
   refine⟨_,rfl,11,ea,rfl,by decide,s3 _ _ (s2 _ _ he),fun q5 H5 s5 h5=>?_⟩
   refine⟨_,rfl,q5,q2,_,_,rfl,rfl,SqL.of h5,SqL.of (s5 _ _ h3),rfl,rfl,true,rfl,Ed ?_⟩
   refine⟨_,rfl,ea,rfl,s5 _ _ (s3 _ _ (s2 _ _ he)),_,rfl,_,rfl,_,rfl,_,_,_,_,rfl,rfl,SqL.of (s5 _ _ (s3 _ _ h2)),CJ (by decide) rfl,rfl,?_⟩
   exact k _ (((s1.trans s2).trans s3).trans s5)
theorem Ajq(T:Txt K mg t):Be P w K mg base CX0 45 t.CT t.CV ["cell"] (Kl 12):=by
 refine T.Dg.F.ok Ag (fun vs H Q E h=>?_) (fun cdv A outer s H vs Q E hr h=>?_)
 ·obtain⟨cell,rfl,_⟩:=h
  rfl
 ·obtain⟨cell,rfl,hw,k⟩:=h
  refine⟨_,(Ac (Aw (i:=1) Ag.nd rfl (Or.inr rfl) (Bu Fz (pv 0) Ai))
   (Ac (Aw (i:=2) Ag.nd rfl (Or.inl rfl) (Aj ((CP T).mono (by decide)) hr rfl T.Bc.m T.Bc.F.kp T.Bc.b .nil Bp (Aa (pv 1) (Aa (Bu Fw (pv 0) Ai) Ab))))
   (Ac (Bs (Dp (Cw (Ar (Cu (K:=K)) rfl T.Bm Bb (Aa (pv 2) (Aa (Ep (v:=.ty "ValueError") rfl T.Dh CK rfl) Ab)))))
    (Af (Am Ik))
    Ak)
   (Ac (Aw (i:=3) Ag.nd rfl (Or.inl rfl) (BJ (Aa Ad (Aa Ad (Aa Ad (Aa Ad (Aa Ad (Aa Ad (Aa Ad (Aa Ad Ab))))))))))
   (Ac (Aw (i:=3) Ag.nd rfl (Or.inl rfl) (Bu Fq (pv 3) (BJ (Aa Ad (Aa Ad (Aa Ad (Aa Ad (Aa Ad Ab))))))))
   (Ac (Ge (i:=4) (Dq.mk (Cg:=[1]) (Nc:=["k", "way"]) rfl (by decide +kernel) (by decide +kernel) (Dr (sc0:=Ah CZ) rfl (by decide +kernel)) rfl rfl rfl (by decide +kernel) (fun k j h=>match k,h with | 0,h=>by obtain rfl:=Option.some.inj h;exact⟨_,rfl,rfl,rfl⟩ | _+1,h=>by simp at h)) rfl Ag.nd rfl rfl (Dy rfl T.Ec (Aa Ai Ab)) (fun _ _ _ _ _=>.nil) (fun _ _ _ _ _=>(BP Ce (pv 0) (pv 1) (Al _))) rfl)
   (Af (Am (GR (BP (Gf (K:=K) (hr.Hv)) (Aj ((CQ T).mono (by decide)) hr rfl T.Bd.m T.Bd.F.kp T.Bd.b .nil Bp (Aa (pv 2) Ab)) (pv 4) (Al _)) (GQ (BP Ce (Es (pv 2) T.Nh.c T.Adb.m ((Aag T).mono (by decide)) hr T.Adb.b Bp) (CG (CW (K:=K)) (pv 3) (pv 1) (fun _ _=>rfl)) (Al _)))))))))))),?_⟩
  refine⟨_,rfl,_,_,rfl,rfl,(by show(0:Int)<13;decide),?_⟩
  refine DP (congrArg V.int hw) rfl ?_
  refine⟨_,rfl,_,rfl,_,_,rfl,rfl,⟨by decide,by decide⟩,12,_,rfl,by decide,fun ea H1 s1 he=>?_⟩
  refine⟨_,rfl,ea,t.Cd,true,he,T.Nh.c,.inl ⟨_,rfl,Hy T.Nh⟩,_,rfl,Ez ?_⟩
  refine⟨(by show 8≤sizeLine;decide),fun q0 n0=>?_⟩
  refine⟨_,rfl,(by show 5≤sizeLine;decide),fun b m=>⟨q0,b,nm8,nm5,rfl,rfl,(Ax.upd m) _ _ Ae,Ae,(by show 13≤sizeLine;decide),fun q1 n1=>?_⟩⟩
  obtain⟨H2,e2,s2,h2⟩:∃ H2,upd (upd (upd H1 q0 (.lst nm8)) b (.lst nm5)) q1 (.lst (nm8++nm5))=H2∧Ax H1 H2∧H2 q1=some (.lst (nm8++nm5)):=⟨_,rfl,((Ax.upd n0).new m).new n1,Ae⟩
  refine Gv rfl rfl e2 ?_
  refine⟨13,rfl,(by decide),(by decide),?_⟩
  refine Dt (lo:=0) (n:=13) (fun i ys H3=>H3=H2∧ys=vB ((List.range i).map fun j=>decide (j=12))) ⟨rfl,rfl⟩ ?_ (by decide) ?_ ?_
  ·rintro i ys H3 hi ⟨rfl,rfl⟩
   rw[Fv,Apx,ApG]
   exact Apv _
  ·rintro i ys H3 hi ⟨rfl,rfl⟩
   refine Eo.no ?_
   refine⟨_,rfl,_,rfl,rfl,CN.of hi ⟨rfl,?_⟩⟩
   rw[ApI,Ap2,show decide (V.int (0+(i:Int))=V.int ((12:Nat):Int))=decide (i=12) from decide_eq_decide.mpr ⟨fun z=>by injection z with z;omega,fun z=>by rw[z];rfl⟩]
   exact(FP _ _).symm▸rfl
  ·rintro ys H3 q2 ⟨rfl,rfl⟩ n2
   have s3:Ax H3 (upd H3 q2 (.lst (vB ((List.range 13).map fun j=>decide (j=12))))):=.upd n2
   have h3:(upd H3 q2 (.lst (vB ((List.range 13).map fun j=>decide (j=12))))) q2=some (.lst (vB ((List.range 13).map fun j=>decide (j=12)))):=Ae
   generalize upd H3 q2 (.lst (vB ((List.range 13).map fun j=>decide (j=12))))=H4 at s3 h3 ⊢
   refine⟨_,rfl,12,ea,rfl,by decide,s3 _ _ (s2 _ _ he),fun q5 H5 s5 h5=>?_⟩
   refine⟨_,rfl,q5,q2,_,_,rfl,rfl,SqL.of h5,SqL.of (s5 _ _ h3),rfl,rfl,true,rfl,Ed ?_⟩
   refine⟨_,rfl,ea,rfl,s5 _ _ (s3 _ _ (s2 _ _ he)),_,rfl,_,rfl,_,rfl,_,_,_,_,rfl,rfl,SqL.of (s5 _ _ (s3 _ _ h2)),CJ (by decide) rfl,rfl,?_⟩
   exact k _ (((s1.trans s2).trans s3).trans s5)
theorem AmP{CX:CXT}{n k:Nat}{f:Addr}{fd:FuncData}{ps:List Str}{sp:Nat→Sp}(F:∀ i,i<n→Be P w K mg base CX k f fd ps (sp i)):Be P w K mg base CX k f fd ps (fun vs H Q E=>∃ i,i<n∧sp i vs H Q E) :=
 ⟨fun vs H Q E ⟨i,hi,h⟩=>(F i hi).len vs H Q E h,fun A outer s H args us vs Q E hr he hb hv ⟨i,hi,h⟩=>(F i hi).run A outer s H args us vs Q E hr he hb hv h⟩
theorem Al2(T:Txt K mg t):∀ i,i<13→Be P w K mg base CX0 45 t.CT t.CV ["cell"] (Kl i)
 | 0,_=>Alr T
 | 1,_=>Als T
 | 2,_=>Alu T
 | 3,_=>Alv T
 | 4,_=>Alw T
 | 5,_=>Alx T
 | 6,_=>Aly T
 | 7,_=>Alz T
 | 8,_=>Al0 T
 | 9,_=>Al1 T
 | 10,_=>Ajo T
 | 11,_=>Ajp T
 | 12,_=>Ajq T
 | n+13,h=>absurd h (by omega)
theorem AjD{H:Hp}{Q:VK}{E:XK}(cell:Int)(k:∀ H',Ax H H'→Q (.bl true) H'):∃ i,i<13∧Kl i [.int cell] H Q E:=⟨(cell%13).toNat,by omega,cell,rfl,by omega,k⟩
def Adv (K:PySem.W.Frag):Sp:=fun vs H Q _=>∃(a:Addr) (ns:List Int),vs=[.ref a]∧SqL K H a (vI ns)∧ns.length≤63∧∀ H',Q (.bl true) H'
theorem Adw{K:PySem.W.Frag}{H:Hp}{a:Addr}{ns:List Int}(hl:ns.length≤63)(hS:SqL K H a (ns.map V.int)):Adv K [.ref a] H (fun v _=>v=.bl true) fun _ _ _=>False:=⟨a,ns,rfl,hS,hl,fun _=>rfl⟩
theorem Al3(T:Txt K mg t):Be P w K mg base CX0 50 t.Aj1 t.Ahl ["script"] (Adv K):=by
 have Z7:Be P w K mg base CX0 45 t.CT t.CV _ _:=AmP (Al2 T)
 refine T.law.F.ok Ahk (fun vs H Q E h=>?_) (fun cdv A outer s H vs Q E hr h=>?_)
 ·obtain⟨a,ns,rfl,_⟩:=h
  rfl
 ·obtain⟨a,ns,rfl,hS,hl,k⟩:=h
  refine⟨_,(Ac (GZ PassesOwn.never rfl (DN (K:=K) (pv 0)) (Eb (i:=1) Ahk.nd rfl (Or.inl rfl))
    (Af (Bs (Dp (Cw (Aj (Z7.mono (by decide)) hr rfl T.Dg.m T.Dg.F.kp T.Dg.b .nil Bp (Aa (pv 1) Ab))))
     (Af (Am Ik))
     Ak)))
   (Af (Am (Ar (Acj (K:=K)) rfl T.Aj3 AgF (Aa (M9 (Dq.mk (Cg:=[]) (Nc:=["way"]) rfl (by decide +kernel) (by decide +kernel) (Dr (sc0:=Ah Ahj) rfl (by decide +kernel)) rfl rfl rfl (by decide +kernel) (fun _ _ h=>by simp at h)) rfl (Dy rfl T.Ec (Aa Ai Ab)) (fun _ _ _ _ _=>.nil) (fun _ _ _ _ _=>(Aj (Z7.mono (by decide)) hr rfl T.Dg.m T.Dg.F.kp T.Dg.b .nil Bp (Aa (pv 0) Ab)))) Ab))))),?_⟩
  refine⟨_,rfl,_,rfl,⟨_,hS⟩,Ha (K:=K) (a:=a) (xs:=vI ns) (fun i σ H2=>∃ v,σ=[some (.ref a),v]∧Ax H H2) ⟨none,rfl,.refl _⟩ (fun i σ H2 _ ⟨_,_,s2⟩=>s2.seq hS) ?_ ?_⟩
  ·rintro i x σ H2 hx ⟨v,rfl,s2⟩
   obtain⟨z,hz,rfl⟩:=AcM hx
   refine⟨_,rfl,AjD z fun H3 s3=>?_⟩
   exact⟨_,rfl,Ez ⟨_,rfl,s2.trans s3⟩⟩
  ·rintro σ H2 ⟨v,rfl,s2⟩
   refine⟨13,rfl,(by decide),(by decide),?_⟩
   refine Dt (lo:=0) (n:=13) (fun i ys H3=>ys=vB (List.replicate i true)) rfl ?_ (by decide) ?_ ?_
   ·rintro i ys H3 hi rfl
    rw[Fv,Ap9]
    exact Apv _
   ·rintro i ys H3 hi rfl
    refine Eo.no ?_
    refine⟨_,rfl,AjD _ fun H4 s4=>CN.of hi ?_⟩
    rw[FP,List.replicate_succ']
   ·rintro ys H3 q rfl hq
    exact⟨_,_,rfl,SqL.of Ae,k _⟩
end
theorem Al4{P:Program}{w:World}{K:PySem.W.Frag}{mg:Str→Option Value}{fa:Addr}{t:Adr}(hfa:mg "law" = some (.ref fa)) (T:Txt K mg t):∃ fd:FuncData,(∀(s:Shared) (v:Value),BindsTo s fd ⟨[v],[]⟩ [("script", v)])∧∀ base:Heap,K.In base→base.Ns mainGlobals mg→Be P w K mg base CX0 50 fa fd ["script"] (Adv K):=by
 have e:=hfa.symm.trans T.law.m
 injection e with e
 injection e with e
 subst e
 obtain⟨oc,od,kV,doc,pm,an,cdv,ct,osl,e1,lk,hcd⟩:=T.law.F.ex
 exact⟨t.Ahl,fun s v=>by rw[e1];exact .of_eq rfl,fun base _ _=>Al3 T⟩
end Mine
open PySem PySem.W PyProof.Rows
def PySem.W.Fast.tw3923747414019432087:=()
def PySem.W.Fast.tw2143893480400898260:=()
def PySem.W.Fast.tw7275210733655183737:=()
def PySem.W.Fast.tw14052663813699111313:=()
def PySem.W.Fast.tw12822780889391347312:=()
def PySem.W.Fast.tw9851451173914580750:=()
def PySem.W.Fast.tw4719423228547355859:=()
def PySem.W.Fast.tw14076767796986059965:=()
def PySem.W.Fast.tw1207227561469208676:=()
def PySem.W.Fast.tw6740476078409504720:=()
def PySem.W.Fast.tw17567930000283204314:=()
def PySem.W.Fast.tw11895784636814736458:=()
def PySem.W.Fast.tw2020319262525509297:=()
def PySem.W.Fast.tw3380842149730200122:=()
def PySem.W.Fast.tw6780539399350906785:=()
def PySem.W.Fast.tw12130796571255198347:=()
def PySem.W.Fast.tw18339801478781635052:=()
def PySem.W.Fast.tw3270660725076637690:=()
def PySem.W.Fast.tw1960588910695742195:=()
def PySem.W.Fast.tw16904580391344260598:=()
def PySem.W.Fast.tw6880551981596444629:=()
def PySem.W.Fast.tw10385334584486056982:=()
def PySem.W.Fast.tw14559419002233140461:=()
def PySem.W.Fast.tw15903219419373071027:=()
def PySem.W.Fast.tw4691202709824381003:=()
def PySem.W.Fast.tw12685333141764254380:=()
def PySem.W.Fast.tw13433484289166771891:=()
def PySem.W.Fast.tw6371627768233430481:=()
def PySem.W.Fast.tw640606254639179874:=()
def PySem.W.Fast.tw3448933519097416840:=()
def PySem.W.Fast.tw3044874880285336953:=()
def PySem.W.Fast.tw4149431355164161863:=()
def PySem.W.Fast.tw5653569102216465938:=()
def PySem.W.Fast.tw18096786778845968357:=()
def PySem.W.Fast.tw1678962451943529347:=()
def PySem.W.Fast.tw1164707710593745117:=()
def PySem.W.Fast.tw5292340607900706149:=()
def PySem.W.Fast.tw56403030422155451:=()
def PySem.W.Fast.tw4803565143851261657:=()
def PySem.W.Fast.tw12279020462613833771:=()
def PySem.W.Fast.tw6573828084615814985:=()
def PySem.W.Fast.tw8029624266160650139:=()
def PySem.W.Fast.tw6810660496542073765:=()
def PySem.W.Fast.tw12472218827628393007:=()
def PySem.W.Fast.tw12822364760202302516:=()
def PySem.W.Fast.tw16367452940977404355:=()
def PySem.W.Fast.tw1746076761974208647:=()
def PySem.W.Fast.tw4256358873824575834:=()
def PySem.W.Fast.tw4431196350196353876:=()
def PySem.W.Fast.tw16862952808236182297:=()
def PySem.W.Fast.tw7311480210624186504:=()
def PySem.W.Fast.tw5641365477712294762:=()
def PySem.W.Fast.tw13172996946448698090:=()
def PySem.W.Fast.tw5102912341162595138:=()
def PySem.W.Fast.tw8117079861054328249:=()
def PySem.W.Fast.tw5029407377858679175:=()
def PySem.W.Fast.tw6966605612150071538:=()
def PySem.W.Fast.tw11910763534339885843:=()
def PySem.W.Fast.tw14490815885860967975:=()
def PySem.W.Fast.tw10059177274710637444:=()
def PySem.W.Fast.tw8153579298850183654:=()
def PySem.W.Fast.tw1682059981026130345:=()
def PySem.W.Fast.tw6057995564037501861:=()
def PySem.W.Fast.tw5177238922995934584:=()
def PySem.W.Fast.tw10793182639557296648:=()
def PySem.W.Fast.tw12071488427904177531:=()
def PySem.W.Fast.tw12377357301799420951:=()
def PySem.W.Fast.tw6562573716149274219:=()
def PySem.W.Fast.tw13871117031867740693:=()
def PySem.W.Fast.tw5781030596562164319:=()
def PySem.W.Fast.tw119709487906902049:=()
def PySem.W.Fast.tw11986727342544083110:=()
def PySem.W.Fast.tw1422980068106580391:=()
def PySem.W.Fast.tw16475384564875407106:=()
def PySem.W.Fast.tw11083067448797416:=()
def PySem.W.Fast.tw15711494887459132393:=()
def PySem.W.Fast.tw13930840260321988875:=()
def PySem.W.Fast.tw11293624493737403405:=()
def PySem.W.Fast.tw3011270945631929137:=()
def PySem.W.Fast.tw15267779522294635268:=()
def PySem.W.Fast.tw10220418030760203914:=()
def PySem.W.Fast.tw11708347877695234514:=()
def PySem.W.Fast.tw9494367154113901132:=()
def PySem.W.Fast.tw12180636874313898871:=()
def PySem.W.Fast.tw17450700927003422597:=()
def PySem.W.Fast.tw7672312984061558489:=()
def PySem.W.Fast.tw17013197188968394266:=()
def PySem.W.Fast.tw2572266083595608198:=()
def PySem.W.Fast.tw12740021672603476187:=()
def PySem.W.Fast.tw2314703632733666150:=()
def PySem.W.Fast.tw9514112035703686653:=()
def PySem.W.Fast.tw13316553877263893083:=()
def PySem.W.Fast.tw16087507233868548254:=()
def PySem.W.Fast.tw17812560105505344175:=()
def PySem.W.Fast.tw15537409855906139104:=()
def PySem.W.Fast.tw220905543728132167:=()
def PySem.W.Fast.tw9912929014148732073:=()
def PySem.W.Fast.tw15396178873005294522:=()
def PySem.W.Fast.tw627595397842756324:=()
def PySem.W.Fast.tw17924543593531881021:=()
def PySem.W.Fast.tw1698418678861072887:=()
def PySem.W.Fast.tw3671568736616505176:=()
def PySem.W.Fast.tw3818203382684088843:=()
def PySem.W.Fast.tw3986276351978064943:=()
def PySem.W.Fast.tw2876964932885294207:=()
def PySem.W.Fast.tw3815562200065667128:=()
def PySem.W.Fast.tw17920751782620408093:=()
def PySem.W.Fast.tw1781911626102344415:=()
def PySem.W.Fast.tw9022274087067412959:=()
def PySem.W.Fast.tw10893874528347705374:=()
def PySem.W.Fast.tw18108045212999154045:=()
def PySem.W.Fast.tw3419549001431638922:=()
def PySem.W.Fast.tw934930434756665733:=()
def PySem.W.Fast.tw17474734897982233373:=()
def PySem.W.Fast.tw5551620593819903628:=()
def PySem.W.Fast.tw6328489489990845509:=()
def PySem.W.Fast.tw7008529900822462119:=()
def PySem.W.Fast.tw9804897878911356834:=()
def PySem.W.Fast.tw14262194500034138282:=()
def PySem.W.Fast.tw17395280796946976537:=()
def PySem.W.Fast.tw18164917583564988972:=()
def PySem.W.Fast.tw4509561194638819632:=()
def PySem.W.Fast.tw13545948514751564035:=()
def PySem.W.Fast.tw9918772341004837113:=()
def PySem.W.Fast.tw11610675933919783337:=()
def PySem.W.Fast.tw14933098957453620845:=()
def PySem.W.Fast.tw5312394981193103602:=()
def PySem.W.Fast.tw7025939383535588645:=()
def PySem.W.Fast.tw13806339505886803898:=()
def PySem.W.Fast.tw15378450056749615094:=()
def PySem.W.Fast.tw9932349646773757826:=()
def PySem.W.Fast.tw8756337617922364106:=()
def PySem.W.Fast.tw2586603265766121518:=()
def PySem.W.Fast.tw2772909616271319719:=()
def PySem.W.Fast.tw2800453866371028192:=()
def PySem.W.Fast.tw5825758819246078833:=()
def PySem.W.Fast.tw18440575120720977525:=()
def PySem.W.Fast.tw15007929014206105233:=()
def PySem.W.Fast.tw6670917033639415137:=()
def PySem.W.Fast.tw15424422947303090683:=()
def PySem.W.Fast.tw12734669730702614053:=()
def PySem.W.Fast.tw13795992567962333668:=()
def PySem.W.Fast.tw59737432335818152:=()
def PySem.W.Fast.tw1729583025729660692:=()
def PySem.W.Fast.tw4688124703882399092:=()
def PySem.W.Fast.tw1384751874732327241:=()
def PySem.W.Fast.tw7981228110068881399:=()
def PySem.W.Fast.tw1225035657562140403:=()
def PySem.W.Fast.tw174191725670610225:=()
def PySem.W.Fast.tw1468059364389072344:=()
def PySem.W.Fast.tw16273880936411928781:=()
def PySem.W.Fast.tw6026933592936409673:=()
def PySem.W.Fast.tw11977579081682364712:=()
def PySem.W.Fast.tw16397040514454329869:=()
def PySem.W.Fast.tw2733635237772983110:=()
def PySem.W.Fast.tw16565701288122892232:=()
def PySem.W.Fast.tw9269053538526615616:=()
def PySem.W.Fast.tw1160541347308728299:=()
def PySem.W.Fast.tw3084169246449652976:=()
def PySem.W.Fast.tw15730983634256489740:=()
def PySem.W.Fast.tw17083825064156836311:=()
def PySem.W.Fast.tw11348882361726713437:=()
def PySem.W.Fast.tw1973804503094543169:=()
def PySem.W.Fast.tw10515737694743997374:=()
def PySem.W.Fast.tw4899985056054588887:=()
def PySem.W.Fast.tw7774720466234442611:=()
def PySem.W.Fast.tw12931000811847788333:=()
def PySem.W.Fast.tw6729250888602568273:=()
def PySem.W.Fast.tw12886481776414712530:=()
def PySem.W.Fast.tw17577087046180239357:=()
def PySem.W.Fast.tw13001257009296546805:=()
def PySem.W.Fast.tw15481674110697021516:=()
def PySem.W.Fast.tw15966283640767277321:=()
def PySem.W.Fast.tw17906286668937133136:=()
def PySem.W.Fast.tw2786354447395097057:=()
def PySem.W.Fast.tw13985320115798396785:=()
def PySem.W.Fast.tw9681994685839843803:=()
def PySem.W.Fast.tw7612707822884290215:=()
def PySem.W.Fast.tw1431629082881787161:=()
def PySem.W.Fast.tw340020544211648125:=()
def PySem.W.Fast.tw1264538602871287245:=()
def PySem.W.Fast.tw14046114018287901366:=()
def PySem.W.Fast.tw8232903181693900949:=()
def PySem.W.Fast.tw10350020908208621100:=()
def PySem.W.Fast.tw828749213598529777:=()
def PySem.W.Fast.tw12093587901520981542:=()
def PySem.W.Fast.tw4997363464074029828:=()
def PySem.W.Fast.tw3136274456504686428:=()
def PySem.W.Fast.tw12357813669735432469:=()
def PySem.W.Fast.tw8190691275380200083:=()
def PySem.W.Fast.tw11675739229638224141:=()
def PySem.W.Fast.tw2324290430130710814:=()
def PySem.W.Fast.tw1597917113674496319:=()
def PySem.W.Fast.tw9397076099708269268:=()
def PySem.W.Fast.tw2722086302741655965:=()
def PySem.W.Fast.tw1526374207832677597:=()
def PySem.W.Fast.tw3233438139128179605:=()
def PySem.W.Fast.tw90992141336216613:=()
def PySem.W.Fast.tw14202222965659554862:=()
def PySem.W.Fast.tw14350530032965318644:=()
def PySem.W.Fast.tw3842179526288388228:=()
def PySem.W.Fast.tw817020035329147145:=()
def PySem.W.Fast.tw14709535376042437720:=()
def PySem.W.Fast.tw14374165423756151305:=()
def PySem.W.Fast.tw5398094347852356562:=()
def PySem.W.Fast.tw3038039725468642637:=()
def PySem.W.Fast.tw13298650919013175224:=()
def PySem.W.Fast.tw11122057437441046608:=()
def PySem.W.Fast.tw7845406359650010508:=()
def PySem.W.Fast.tw10767323431665205788:=()
def PySem.W.Fast.tw16928210493487286938:=()
def PySem.W.Fast.tw13453141705315134764:=()
def PySem.W.Fast.tw3343821621319043010:=()
def PySem.W.Fast.tw2566667750505427750:=()
def PySem.W.Fast.tw2553070647117811134:=()
def PySem.W.Fast.tw8259468637423216154:=()
def PySem.W.Fast.tw13557198812270378573:=()
def PySem.W.Fast.tw12970365533131219091:=()
def PySem.W.Fast.tw12364207794959908766:=()
def PySem.W.Fast.tw5901084638657912557:=()
def PySem.W.Fast.tw7678101823745481630:=()
def PySem.W.Fast.tw2030382145322458353:=()
def PySem.W.Fast.tw15328933957932045257:=()
def PySem.W.Fast.tw660621049975383376:=()
def PySem.W.Fast.tw7756709793133764799:=()
def PySem.W.Fast.tw9940164563296731681:=()
def PySem.W.Fast.tw11804793117707964122:=()
def PySem.W.Fast.tw16314825117373128764:=()
def PySem.W.Fast.tw10928497376120741199:=()
def PySem.W.Fast.tw2486751752236705565:=()
def PySem.W.Fast.tw1600233104069083976:=()
def PySem.W.Fast.tw8463161752733443394:=()
def PySem.W.Fast.tw8101142924308785517:=()
def PySem.W.Fast.tw11016797132984583506:=()
def PySem.W.Fast.tw10092148053886783043:=()
def PySem.W.Fast.tw16230472673927052022:=()
def PySem.W.Fast.tw6942674070568570280:=()
def PySem.W.Fast.tw4781934185305468145:=()
def PySem.W.Fast.tw6575747700912512342:=()
def PySem.W.Fast.tw2863690790752718196:=()
def PySem.W.Fast.tw8487739956526334666:=()
def PySem.W.Fast.tw3443492955001528644:=()
def PySem.W.Fast.tw16846347776717043184:=()
def PySem.W.Fast.tw12861221278654752995:=()
def PySem.W.Fast.tw13981327254588003679:=()
def PySem.W.Fast.tw12012826930614032007:=()
def PySem.W.Fast.tw6363002070023461418:=()
def PySem.W.Fast.tw10617593118080923032:=()
def PySem.W.Fast.tw15086290962343279826:=()
def PySem.W.Fast.tw12273655711474286564:=()
def PySem.W.Fast.tw16815511097936039442:=()
def PySem.W.Fast.tw11914949787248660195:=()
def PySem.W.Fast.tw15641851166686856745:=()
def PySem.W.Fast.tw9964804306132415797:=()
def PySem.W.Fast.tw4069519514655579777:=()
def PySem.W.Fast.tw13316640542170521164:=()
def PySem.W.Fast.tw15780039856896342976:=()
def PySem.W.Fast.tw9352349467247865820:=()
def PySem.W.Fast.tw12719018115695588981:=()
def PySem.W.Fast.tw1815028183598128110:=()
def PySem.W.Fast.tw15906703875311930474:=()
def PySem.W.Fast.tw1816012574876318716:=()
def PySem.W.Fast.tw18332285571900794808:=()
def PySem.W.Fast.tw13792325056142727380:=()
def PySem.W.Fast.tw7613982047384434091:=()
def PySem.W.Fast.tw1318680035928541103:=()
def PySem.W.Fast.tw7206407176799674320:=()
def PySem.W.Fast.tw6621307633704578219:=()
def PySem.W.Fast.tw1899200087662995522:=()
def PySem.W.Fast.tw13342526684909815029:=()
def PySem.W.Fast.tw9408978697875651298:=()
def PySem.W.Fast.tw7686781032918026437:=()
def PySem.W.Fast.tw10274613895393142673:=()
def PySem.W.Fast.tw17907831990418615378:=()
def PySem.W.Fast.tw11028612918847920631:=()
def PySem.W.Fast.tw5639370376322260155:=()
def PySem.W.Fast.tw14392520066891500251:=()
def PySem.W.Fast.tw16228959016332817654:=()
def PySem.W.Fast.tw3501057548224756447:=()
def PySem.W.Fast.tw16571523853464697411:=()
def PySem.W.Fast.tw13242718402707699789:=()
def PySem.W.Fast.tw9952997252876213904:=()
def PySem.W.Fast.tw11559546075627975620:=()
def PySem.W.Fast.tw14808225403530667208:=()
def PySem.W.Fast.tw3348886853026424791:=()
def PySem.W.Fast.tw18401076547780677151:=()
def PySem.W.Fast.tw8967998383546070572:=()
def PySem.W.Fast.tw15978637738272735222:=()
def PySem.W.Fast.tw3406501371931679242:=()
def PySem.W.Fast.tw8350666753999437064:=()
def PySem.W.Fast.tw7047126400942779162:=()
def PySem.W.Fast.tw18043721391286341142:=()
def PySem.W.Fast.tw8263809612977653430:=()
def PySem.W.Fast.tw3641686871060854112:=()
def PySem.W.Fast.tw6456232134575190977:=()
def PySem.W.Fast.tw5917057617016158957:=()
def PySem.W.Fast.tw13017470732588890607:=()
def PySem.W.Fast.tw17532145510179659733:=()
def PySem.W.Fast.tw6244127559727137309:=()
def PySem.W.Fast.tw12213160858186196425:=()
def PySem.W.Fast.tw2785475577826965237:=()
def PySem.W.Fast.tw14025617662344450345:=()
def PySem.W.Fast.tw5285634814124656840:=()
def PySem.W.Fast.tw17944549245145034337:=()
def PySem.W.Fast.tw17854474578080995314:=()
def PySem.W.Fast.tw12822654255362538339:=()
def PySem.W.Fast.tw1851118945163305968:=()
def PySem.W.Fast.tw2626831121103876293:=()
def PySem.W.Fast.tw3402553709629900563:=()
def PySem.W.Fast.tw3459705934331257327:=()
def PySem.W.Fast.tw15208989911396041605:=()
def PySem.W.Fast.tw1236906030408126495:=()
def PySem.W.Fast.tw4600956875215562968:=()
def PySem.W.Fast.tw11463152777340143584:=()
def PySem.W.Fast.tw16893713845414579472:=()
def PySem.W.Fast.tw15980911548851175001:=()
def PySem.W.Fast.tw16997602474042338582:=()
def PySem.W.Fast.tw6604897504230801714:=()
def PySem.W.Fast.tw6123071743129866746:=()
def PySem.W.Fast.tw8077110122038155788:=()
def PySem.W.Fast.tw3585626833359600083:=()
def PySem.W.Fast.tw17098022007767398841:=()
def PySem.W.Fast.tw11470495145121319986:=()
def PySem.W.Fast.tw13354316988291065665:=()
def PySem.W.Fast.tw7681964742163014500:=()
def PySem.W.Fast.tw2022511924657830248:=()
def PySem.W.Fast.tw11377027813029323356:=()
def PySem.W.Fast.tw8803004624934457225:=()
def PySem.W.Fast.tw10148926910283146697:=()
def PySem.W.Fast.tw16057716787057642374:=()
def PySem.W.Fast.tw297782230941105348:=()
def PySem.W.Fast.tw10803113849462917303:=()
def PySem.W.Fast.tw6809410452052501384:=()
def PySem.W.Fast.tw3511253092607554866:=()
def PySem.W.Fast.tw6893695022734032718:=()
def PySem.W.Fast.tw10499861375654711086:=()
def PySem.W.Fast.tw13395825613680702122:=()
def PySem.W.Fast.tw11212374515568660036:=()
def PySem.W.Fast.tw7853710907360306477:=()
def PySem.W.Fast.tw3838838159382286352:=()
def PySem.W.Fast.tw598185890267734656:=()
def PySem.W.Fast.tw8283052325420512847:=()
def PySem.W.Fast.tw9010111052584194241:=()
def PySem.W.Fast.tw13165076304352662225:=()
def PySem.W.Fast.tw16827460837995782847:=()
def PySem.W.Fast.tw40044883588213902:=()
def PySem.W.Fast.tw14260543684443226404:=()
def PySem.W.Fast.tw2753675514618054571:=()
def PySem.W.Fast.tw16881294949800852751:=()
def PySem.W.Fast.tw15914044387566897761:=()
def PySem.W.Fast.tw17163889710370897850:=()
def PySem.W.Fast.tw6261057749829575045:=()
def PySem.W.Fast.tw4695871568344027315:=()
def PySem.W.Fast.tw16334752575034024312:=()
def PySem.W.Fast.tw2865864398478998844:=()
def PySem.W.Fast.tw18392241115442158789:=()
def PySem.W.Fast.tw17023522456834250263:=()
def PySem.W.Fast.tw15693021428469747227:=()
def PySem.W.Fast.tw8933605666923259198:=()
def PySem.W.Fast.tw9246370538529242326:=()
def PySem.W.Fast.tw17494261439416195344:=()
def PySem.W.Fast.tw16325643342865924785:=()
def PySem.W.Fast.tw11994408776627184385:=()
def PySem.W.Fast.tw5027401352675328909:=()
def PySem.W.Fast.tw17856007295946410411:=()
def PySem.W.Fast.tw6544503363191457368:=()
def PySem.W.Fast.tw2168288908433178283:=()
def PySem.W.Fast.tw9382882325415378402:=()
def PySem.W.Fast.tw10693301873887453202:=()
def PySem.W.Fast.tw201882155326866608:=()
def PySem.W.Fast.tw10664835924416678644:=()
def PySem.W.Fast.tw14231374514307136951:=()
def PySem.W.Fast.tw11270903893882477971:=()
def PySem.W.Fast.tw813619661285149824:=()
def PySem.W.Fast.tw171181931207601733:=()
def PySem.W.Fast.tw10037837170298431765:=()
def PySem.W.Fast.tw12359592138286287468:=()
def PySem.W.Fast.tw1058067308231537568:=()
def PySem.W.Fast.tw9095133489506811277:=()
def PySem.W.Fast.tw4946055841118488844:=()
def PySem.W.Fast.tw7370461905478468998:=()
def PySem.W.Fast.tw16738175697886613499:=()
def PySem.W.Fast.tw699792629757001004:=()
def PySem.W.Fast.tw6073150832091869599:=()
def PySem.W.Fast.tw15676147577149521800:=()
def PySem.W.Fast.tw11678782083006758590:=()
def PySem.W.Fast.tw672614236071453006:=()
def PySem.W.Fast.tw7112005079870969589:=()
def PySem.W.Fast.tw5364827700130924073:=()
def PySem.W.Fast.tw8594787127321899003:=()
def PySem.W.Fast.tw15751290149421449148:=()
def PySem.W.Fast.tw17013860019124097988:=()
def PySem.W.Fast.tw14447689481613331817:=()
def PySem.W.Fast.tw17716698227946664604:=()
def PySem.W.Fast.tw10403390055347036298:=()
def PySem.W.Fast.tw1311878360569405217:=()
def PySem.W.Fast.tw8590976907815411710:=()
def PySem.W.Fast.tw10830220876208943827:=()
def PySem.W.Fast.tw2948256277473079090:=()
def PySem.W.Fast.tw4631655690887479710:=()
def PySem.W.Fast.tw7234378948510542278:=()
def PySem.W.Fast.tw3763492162456552641:=()
def PySem.W.Fast.tw1587901061214742513:=()
def PySem.W.Fast.tw5582398193712944253:=()
def PySem.W.Fast.tw10692772601378817297:=()
def PySem.W.Fast.tw17020087851422304068:=()
def PySem.W.Fast.tw4420868071817811729:=()
def PySem.W.Fast.tw10264480103947706060:=()
def PySem.W.Fast.tw13778720832547604747:=()
def PySem.W.Fast.tw2712878934718158300:=()
def PySem.W.Fast.tw1193018195183735096:=()
def PySem.W.Fast.tw6563088023355175039:=()
def PySem.W.Fast.tw1273173298283790876:=()
def PySem.W.Fast.tw4548439218571709761:=()
def PySem.W.Fast.tw854750251554028557:=()
def PySem.W.Fast.tw3740272734670609498:=()
def PySem.W.Fast.tw12463847910949565247:=()
def PySem.W.Fast.tw12341258275696147832:=()
def PySem.W.Fast.tw14685564654828148723:=()
def PySem.W.Fast.tw16872903963162189428:=()
def PySem.W.Fast.tw1208993317533063400:=()
def PySem.W.Fast.tw16681220985807493862:=()
def PySem.W.Fast.tw18176848764139738267:=()
def PySem.W.Fast.tw4024061494239982394:=()
def PySem.W.Fast.tw7847308432974293495:=()
def PySem.W.Fast.tw6140287004841821694:=()
def PySem.W.Fast.tw12401344849319140426:=()
def PySem.W.Fast.tw442752962428488704:=()
def PySem.W.Fast.tw14484159009730662194:=()
def PySem.W.Fast.tw18311003256975950640:=()
def PySem.W.Fast.tw4244569462245165531:=()
def PySem.W.Fast.tw384664052463151287:=()
def PySem.W.Fast.tw3830440914108822715:=()
def PySem.W.Fast.tw14264119039386100960:=()
def PySem.W.Fast.tw15450734935432886800:=()
def PySem.W.Fast.tw11707874320820449053:=()
def PySem.W.Fast.tw9195559678693889251:=()
def PySem.W.Fast.tw16930815087564784976:=()
def PySem.W.Fast.tw329949557228565613:=()
def PySem.W.Fast.tw18353483323998434062:=()
def PySem.W.Fast.tw18147740910233200655:=()
def PySem.W.Fast.tw8374612575758253455:=()
def PySem.W.Fast.tw12726824791081737762:=()
def PySem.W.Fast.tw16257508176814402841:=()
def PySem.W.Fast.tw854350261412872538:=()
def PySem.W.Fast.tw3886551928886938193:=()
def PySem.W.Fast.tw11350152091334028306:=()
def PySem.W.Fast.tw827946156136037488:=()
def PySem.W.Fast.tw17876224477365509948:=()
def PySem.W.Fast.tw11169135030297357168:=()
def PySem.W.Fast.tw6150992630504077166:=()
def PySem.W.Fast.tw11292748768438058934:=()
def PySem.W.Fast.tw5472998770634049711:=()
def PySem.W.Fast.tw617431928423939383:=()
def PySem.W.Fast.tw3972583674167305839:=()
def PySem.W.Fast.tw2126719531821922882:=()
def PySem.W.Fast.tw10609339937181491797:=()
def PySem.W.Fast.tw14326231097793181164:=()
def PySem.W.Fast.tw2434722581311591272:=()
def PySem.W.Fast.tw2402178878055382870:=()
def PySem.W.Fast.tw10473555262338241562:=()
def PySem.W.Fast.tw16205193557948156795:=()
def PySem.W.Fast.tw4840522552618939363:=()
def PySem.W.Fast.tw6680270556359308660:=()
def PySem.W.Fast.tw4958328521925355578:=()
def PySem.W.Fast.tw1122228198511878182:=()
def PySem.W.Fast.tw12087722456394894700:=()
def PySem.W.Fast.tw17015493703590763859:=()
def PySem.W.Fast.tw8815115972318867717:=()
def PySem.W.Fast.tw17998413651582809539:=()
def PySem.W.Fast.tw8210678211119960400:=()
def PySem.W.Fast.tw36476905951084542:=()
def PySem.W.Fast.tw8385974434432659494:=()
def PySem.W.Fast.tw13818321062879894761:=()
def PySem.W.Fast.tw4639200583248457033:=()
def PySem.W.Fast.tw2728447712714495663:=()
def PySem.W.Fast.tw9065286101645370709:=()
def PySem.W.Fast.tw7052460193560454487:=()
def PySem.W.Fast.tw6573021973160696478:=()
def PySem.W.Fast.tw10744302973683670095:=()
def PySem.W.Fast.tw8091763706631436864:=()
def PySem.W.Fast.tw6096647914260108900:=()
def PySem.W.Fast.tw4062832319739055515:=()
def PySem.W.Fast.tw13588902533741798301:=()
def PySem.W.Fast.tw2784476922104917926:=()
def PySem.W.Fast.tw9014831114548457541:=()
def PySem.W.Fast.tw15527028657093300797:=()
def PySem.W.Fast.tw46580944519855789:=()
def PySem.W.Fast.tw10901988244654049243:=()
def PySem.W.Fast.tw5892731716113741540:=()
def PySem.W.Fast.tw6166939492381004595:=()
def PySem.W.Fast.tw2367682858212382535:=()
def PySem.W.Fast.tw3678200548546895773:=()
def PySem.W.Fast.tw17234572051015297447:=()
def PySem.W.Fast.tw1923708797688427919:=()
def PySem.W.Fast.tw17690946115821532865:=()
def PySem.W.Fast.tw15530927076870503754:=()
def PySem.W.Fast.tw12965200671742608688:=()
def PySem.W.Fast.tw12592689941045781988:=()
def PySem.W.Fast.tw12007299101128339499:=()
def PySem.W.Fast.tw17032073675780030223:=()
def PySem.W.Fast.tw3660460660507935751:=()
def PySem.W.Fast.tw13844489367425397955:=()
def PySem.W.Fast.tw16050558684708243475:=()
def PySem.W.Fast.tw2920943729294899383:=()
def PySem.W.Fast.tw10401887039102376902:=()
def PySem.W.Fast.tw14982930932848864211:=()
def PySem.W.Fast.tw9632391895217647293:=()
def PySem.W.Fast.tw3404581834868753989:=()
def PySem.W.Fast.tw5183855083582805657:=()
def PySem.W.Fast.tw13130919706092429923:=()
def PySem.W.Fast.tw748937100858011565:=()
def PySem.W.Fast.tw3377427719106640038:=()
def PySem.W.Fast.tw1672920237966928877:=()
def PySem.W.Fast.tw17301476806800518166:=()
def PySem.W.Fast.tw17518474466675577710:=()
def PySem.W.Fast.tw16965066152215600586:=()
def PySem.W.Fast.tw758213298137083725:=()
def PySem.W.Fast.tw5092339704180248233:=()
def PySem.W.Fast.tw14487885241963445200:=()
def PySem.W.Fast.tw6624376498755722133:=()
def PySem.W.Fast.tw3400339408665104074:=()
def PySem.W.Fast.tw11894338388542248630:=()
def PySem.W.Fast.tw2384208713764488997:=()
def PySem.W.Fast.tw3288321662984285529:=()
def PySem.W.Fast.tw5070823455232268063:=()
def PySem.W.Fast.tw16738599784332998184:=()
def PySem.W.Fast.tw9185705031516299922:=()
def PySem.W.Fast.tw1518568639609110989:=()
def PySem.W.Fast.tw3588573214585003844:=()
def PySem.W.Fast.tw11906823265289070734:=()
def PySem.W.Fast.tw1258385874085810226:=()
def PySem.W.Fast.tw15329417706369715675:=()
def PySem.W.Fast.tw11131229996613581155:=()
def PySem.W.Fast.tw5236342670957754931:=()
def PySem.W.Fast.tw8943662235773821726:=()
def PySem.W.Fast.tw12952807676460848905:=()
def PySem.W.Fast.tw7856488432801528912:=()
def PySem.W.Fast.tw1238306112117816343:=()
def PySem.W.Fast.tw17310843704097644369:=()
def PySem.W.Fast.tw4961674683786520989:=()
def PySem.W.Fast.tw14172182720973768780:=()
def PySem.W.Fast.tw16051294667499368932:=()
def PySem.W.Fast.tw1539832319662129534:=()
def PySem.W.Fast.tw1830034411428505810:=()
def PySem.W.Fast.tw16457787893092987026:=()
def PySem.W.Fast.tw8363154197469180740:=()
def PySem.W.Fast.tw17530444177483327720:=()
def PySem.W.Fast.tw2809251213447253442:=()
def PySem.W.Fast.tw6140899218703005369:=()
def PySem.W.Fast.tw3805162006549594607:=()
def PySem.W.Fast.tw3556732674958180381:=()
def PySem.W.Fast.tw17918898811975398725:=()
def PySem.W.Fast.tw5420173387192968234:=()
def PySem.W.Fast.tw7489002062552751861:=()
def PySem.W.Fast.tw9642100060449913834:=()
def PySem.W.Fast.tw11339248348381490478:=()
def PySem.W.Fast.tw15053292690750530613:=()
def PySem.W.Fast.tw16880778842381729756:=()
def PySem.W.Fast.tw12361833908703948583:=()
def PySem.W.Fast.tw12693830727168581097:=()
def PySem.W.Fast.tw481505964050995894:=()
def PySem.W.Fast.tw17609377141215604741:=()
def PySem.W.Fast.tw493788514237475407:=()
def PySem.W.Fast.tw10060310711060993872:=()
def PySem.W.Fast.tw7098138130997980566:=()
def PySem.W.Fast.tw697452961800602248:=()
def PySem.W.Fast.tw2856045976799581497:=()
def PySem.W.Fast.tw12137363801898223609:=()
def PySem.W.Fast.tw17968269188213287828:=()
def PySem.W.Fast.tw11150050153464806941:=()
def PySem.W.Fast.tw526901574796827974:=()
def PySem.W.Fast.tw9951434261511229034:=()
def PySem.W.Fast.tw17350541615538362573:=()
def PySem.W.Fast.tw15398043008580657301:=()
def PySem.W.Fast.tw8862330454459889616:=()
def PySem.W.Fast.tw2252802201636906790:=()
def PySem.W.Fast.tw15522118015411646037:=()
def PySem.W.Fast.tw2418034150301205162:=()
def PySem.W.Fast.tw15672723988926920727:=()
def PySem.W.Fast.tw7086685866366199478:=()
def PySem.W.Fast.tw4567926096701679500:=()
def PySem.W.Fast.tw15519809839145562164:=()
def PySem.W.Fast.tw17645273557088657805:=()
def PySem.W.Fast.tw979551817545760516:=()
def PySem.W.Fast.tw2475337962365713767:=()
def PySem.W.Fast.tw11589147739088776917:=()
def PySem.W.Fast.tw498336779564881600:=()
def PySem.W.Fast.tw14295300677400943314:=()
def PySem.W.Fast.tw15345721673261297157:=()
def PySem.W.Fast.tw15901377816351377665:=()
def PySem.W.Fast.tw886226056908894394:=()
def PySem.W.Fast.tw16319269172742502868:=()
def PySem.W.Fast.tw12997602421390870831:=()
def PySem.W.Fast.tw15655687697024284700:=()
def PySem.W.Fast.tw18134756056739458909:=()
def PySem.W.Fast.tw17981023792219807901:=()
def PySem.W.Fast.tw12775086054266192108:=()
def PySem.W.Fast.tw17958709587164204883:=()
def PySem.W.Fast.tw16923925426678413616:=()
def PySem.W.Fast.tw11103489112803428678:=()
def PySem.W.Fast.tw12796583904892142963:=()
def PySem.W.Fast.tw2531498629287209725:=()
def PySem.W.Fast.tw13340482348249029896:=()
def PySem.W.Fast.tw8220360577111133906:=()
def PySem.W.Fast.tw5086506778485209697:=()
def PySem.W.Fast.tw17578387126217717297:=()
def PySem.W.Fast.tw17930713000523512628:=()
def PySem.W.Fast.tw8048114236814154784:=()
def PySem.W.Fast.tw5106223677577511688:=()
def PySem.W.Fast.tw3032426143361869775:=()
def PySem.W.Fast.tw7182143755644808362:=()
def PySem.W.Fast.tw4928128680413820145:=()
def PySem.W.Fast.tw13479211226352981336:=()
def PySem.W.Fast.tw8804638189577648947:=()
def PySem.W.Fast.tw18357100673505493765:=()
def PySem.W.Fast.tw12348931514868150146:=()
def PySem.W.Fast.tw16041224568273017450:=()
def PySem.W.Fast.tw944882817849460536:=()
def PySem.W.Fast.tw17962511014000437173:=()
def PySem.W.Fast.tw10409417697617637945:=()
def PySem.W.Fast.tw16925510490643253307:=()
def PySem.W.Fast.tw14492319564318377222:=()
def PySem.W.Fast.tw1090953780092925372:=()
def PySem.W.Fast.tw1756508010989010554:=()
def PySem.W.Fast.tw2463406480126298864:=()
def PySem.W.Fast.tw10430855765622733529:=()
def PySem.W.Fast.tw11259936345559368700:=()
def PySem.W.Fast.tw375140518140687396:=()
def PySem.W.Fast.tw8958180895328888019:=()
def PySem.W.Fast.tw5601652692011875535:=()
def PySem.W.Fast.tw12550689375047279198:=()
def PySem.W.Fast.tw6425029910784282795:=()
def PySem.W.Fast.tw7489606764332095548:=()
def PySem.W.Fast.tw3573362695740354418:=()
def PySem.W.Fast.tw4836845371067170492:=()
def PySem.W.Fast.tw795471314227578585:=()
def PySem.W.Fast.tw12165560898317127149:=()
def PySem.W.Fast.tw3584139153314871649:=()
def PySem.W.Fast.tw3245335681119314020:=()
def PySem.W.Fast.tw11014068303298640188:=()
def PySem.W.Fast.tw6475280448024473556:=()
def PySem.W.Fast.tw2419736560564327451:=()
def PySem.W.Fast.tw9856574857197062023:=()
def PySem.W.Fast.tw4042725821162997796:=()
def PySem.W.Fast.tw1132460227868983414:=()
def PySem.W.Fast.tw1831650910619231666:=()
def PySem.W.Fast.tw6730398490537094393:=()
def PySem.W.Fast.tw10926994148047246865:=()
def PySem.W.Fast.tw2954612911512261387:=()
def PySem.W.Fast.tw867624059123089931:=()
def PySem.W.Fast.tw1839419240641693546:=()
def PySem.W.Fast.tw10215304930118543844:=()
def PySem.W.Fast.tw6532991431616092224:=()
def PySem.W.Fast.tw6930573054745209336:=()
def PySem.W.Fast.tw17642298858592852120:=()
def PySem.W.Fast.tw5220624178627423750:=()
def PySem.W.Fast.tw373020029177296473:=()
def PySem.W.Fast.tw13632911866321432135:=()
def PySem.W.Fast.tw6533180889332422087:=()
def PySem.W.Fast.tw18342829040231906747:=()
def PySem.W.Fast.tw7364060068572925909:=()
def PySem.W.Fast.tw18278393858655517099:=()
def PySem.W.Fast.tw1944086345716364282:=()
def PySem.W.Fast.tw17674085430194372486:=()
def PySem.W.Fast.tw9921326949996549332:=()
def PySem.W.Fast.tw7636733908218331819:=()
def PySem.W.Fast.tw9174995884045341151:=()
def PySem.W.Fast.tw7540928887287019123:=()
def PySem.W.Fast.tw1485164299247682095:=()
def PySem.W.Fast.tw6420557531327346512:=()
def PySem.W.Fast.tw12918213697270538777:=()
def PySem.W.Fast.tw13964416107636425259:=()
def PySem.W.Fast.tw3425767657102329556:=()
def PySem.W.Fast.tw3682997721069674349:=()
def PySem.W.Fast.tw766446339759102841:=()
def PySem.W.Fast.tw1565033015394682450:=()
def PySem.W.Fast.tw16377148084292280657:=()
def PySem.W.Fast.tw1791030657692377044:=()
def PySem.W.Fast.tw8685757947734149679:=()
def PySem.W.Fast.tw8220132987985363607:=()
def PySem.W.Fast.tw14304385121639595138:=()
def PySem.W.Fast.tw4922083289466039886:=()
def PySem.W.Fast.tw12278456311347692073:=()
def PySem.W.Fast.tw2319180382641596489:=()
def PySem.W.Fast.tw2428115664551897105:=()
def PySem.W.Fast.tw16415093698168971569:=()
def PySem.W.Fast.tw2689887036957109044:=()
def PySem.W.Fast.tw4743964905293612573:=()
def PySem.W.Fast.tw14221970680674286436:=()
def PySem.W.Fast.tw12986270134569320108:=()
def PySem.W.Fast.tw12630655476530628895:=()
def PySem.W.Fast.tw7790822747225165592:=()
def PySem.W.Fast.tw18359742841407789442:=()
def PySem.W.Fast.tw577576409733173587:=()
def PySem.W.Fast.tw12735713949013209523:=()
def PySem.W.Fast.tw912009599904721796:=()
def PySem.W.Fast.tw16619702546103806786:=()
def PySem.W.Fast.tw12108119180422109631:=()
def PySem.W.Fast.tw3955726124130649533:=()
def PySem.W.Fast.tw11567934931311523596:=()
def PySem.W.Fast.tw16602683215934645077:=()
def PySem.W.Fast.tw2442909205540616758:=()
def PySem.W.Fast.tw3779455332746436697:=()
def PySem.W.Fast.tw2160548498151891381:=()
def PySem.W.Fast.tw9861541496198766809:=()
def PySem.W.Fast.tw2552581658747382185:=()
def PySem.W.Fast.tw16952226903227487515:=()
def PySem.W.Fast.tw12168290519982799431:=()
def PySem.W.Fast.tw9678971601941406875:=()
def PySem.W.Fast.tw12538196202335682793:=()
def PySem.W.Fast.tw11271621291004827756:=()
def PySem.W.Fast.tw9146724271159922905:=()
def PySem.W.Fast.tw3804242477310456877:=()
def PySem.W.Fast.tw1238171773834483822:=()
def PySem.W.Fast.tw1941897230020792884:=()
def PySem.W.Fast.tw1482161810956971897:=()
def PySem.W.Fast.tw5928952804729271740:=()
def PySem.W.Fast.tw446224838335305525:=()
def PySem.W.Fast.tw2684412930526697153:=()
def PySem.W.Fast.tw10132435095539534695:=()
def PySem.W.Fast.tw17468426226676306623:=()
def PySem.W.Fast.tw15185897282910122856:=()
def PySem.W.Fast.tw8196493508023022585:=()
def PySem.W.Fast.tw3201575599267207429:=()
def PySem.W.Fast.tw17993170232748667426:=()
def PySem.W.Fast.tw8600554891686605040:=()
def PySem.W.Fast.tw11871011526523481281:=()
def PySem.W.Fast.tw17874102001646037196:=()
def PySem.W.Fast.tw1954145313344346303:=()
def PySem.W.Fast.tw15616399353090029507:=()
def PySem.W.Fast.tw7915358062336963291:=()
def PySem.W.Fast.tw7430486252380522994:=()
def PySem.W.Fast.tw6767508396825707539:=()
def PySem.W.Fast.tw11538312110923657800:=()
def PySem.W.Fast.tw3968243137772084194:=()
def PySem.W.Fast.tw5220326019460839835:=()
def PySem.W.Fast.tw6405460274776398501:=()
def PySem.W.Fast.tw14409598710621015610:=()
def PySem.W.Fast.tw15283950155827829816:=()
def PySem.W.Fast.tw12756031190317497580:=()
def PySem.W.Fast.tw14919195609940182641:=()
def PySem.W.Fast.tw9130629306803942416:=()
def PySem.W.Fast.tw17333286496195664412:=()
def PySem.W.Fast.tw6796450941095484838:=()
def PySem.W.Fast.tw14955828673989512357:=()
def PySem.W.Fast.tw4075532744079691178:=()
def PySem.W.Fast.tw10510896620794074347:=()
def PySem.W.Fast.tw17456671001118634810:=()
def PySem.W.Fast.tw11398377823366422062:=()
def PySem.W.Fast.tw11104336443513146256:=()
def PySem.W.Fast.tw4209337975064757095:=()
def PySem.W.Fast.tw8166314762213531411:=()
def PySem.W.Fast.tw6739113017134971968:=()
def PySem.W.Fast.tw17734925545954422508:=()
def PySem.W.Fast.tw18123045128142749868:=()
def PySem.W.Fast.tw3564487620535495649:=()
def PySem.W.Fast.tw10465233420101956575:=()
def PySem.W.Fast.tw10184379515120794693:=()
def PySem.W.Fast.tw18061843063390225025:=()
def PySem.W.Fast.tw854819792635507065:=()
def PySem.W.Fast.tw1873348098922113319:=()
def PySem.W.Fast.tw18105116754641568195:=()
def PySem.W.Fast.tw4464506056440883612:=()
def PySem.W.Fast.tw1590818129839178749:=()
def PySem.W.Fast.tw9449580126759056768:=()
def PySem.W.Fast.tw1969207771854973830:=()
def PySem.W.Fast.tw4921276692675014867:=()
def PySem.W.Fast.tw13252872823403853382:=()
def PySem.W.Fast.tw8142195282080629090:=()
def PySem.W.Fast.tw4713160311471746431:=()
def PySem.W.Fast.tw4030684254272850845:=()
def PySem.W.Fast.tw14418858462678024536:=()
def PySem.W.Fast.tw11133883418649878460:=()
def PySem.W.Fast.tw8682619390613801384:=()
def PySem.W.Fast.tw2487536227007404156:=()
def PySem.W.Fast.tw3452782041373998859:=()
def PySem.W.Fast.tw2186550497809078849:=()
def PySem.W.Fast.tw14217040293843495111:=()
def PySem.W.Fast.tw4551182178726388107:=()
def PySem.W.Fast.tw10010469686512841026:=()
def PySem.W.Fast.tw10125223963486836967:=()
def PySem.W.Fast.tw17697149274868588238:=()
def PySem.W.Fast.tw12556965053897776649:=()
def PySem.W.Fast.tw5815904099822240505:=()
def PySem.W.Fast.tw13826921397299732474:=()
def PySem.W.Fast.tw17800528525622492919:=()
def PySem.W.Fast.tw9968640272707867611:=()
def PySem.W.Fast.tw6831195322661067715:=()
def PySem.W.Fast.tw4553639162768331480:=()
def PySem.W.Fast.tw7471349933939936918:=()
def PySem.W.Fast.tw7073473030285526676:=()
def PySem.W.Fast.tw15216118540037004902:=()
def PySem.W.Fast.tw135356386818842079:=()
def PySem.W.Fast.tw14752145323028516556:=()
def PySem.W.Fast.tw3995093420177821505:=()
def PySem.W.Fast.tw15034210022782711525:=()
def PySem.W.Fast.tw9372129893905990547:=()
def PySem.W.Fast.tw2812414883171778891:=()
def PySem.W.Fast.tw14041480782033954947:=()
def PySem.W.Fast.tw4086553700553593506:=()
def PySem.W.Fast.tw13027269363409684398:=()
def PySem.W.Fast.tw7039706359987919218:=()
def PySem.W.Fast.tw15940287743559310458:=()
def PySem.W.Fast.tw5520587182107826322:=()
def PySem.W.Fast.tw10205952535901155808:=()
def PySem.W.Fast.tw12502403744478707704:=()
def PySem.W.Fast.tw9682701001205800748:=()
def PySem.W.Fast.tw12062294431055459967:=()
def PySem.W.Fast.tw5593807590501114271:=()
def PySem.W.Fast.tw773882307482175416:=()
def PySem.W.Fast.tw7224049679464006710:=()
def PySem.W.Fast.tw11361588334711127481:=()
def PySem.W.Fast.tw1900638250337255518:=()
def PySem.W.Fast.tw2268337221777543539:=()
def PySem.W.Fast.tw14883516620593990058:=()
def PySem.W.Fast.tw8448172640545204629:=()
def PySem.W.Fast.tw16771576313977884590:=()
def PySem.W.Fast.tw9857472795732954330:=()
def PySem.W.Fast.tw1726760676929638831:=()
def PySem.W.Fast.tw9622473025785691179:=()
def PySem.W.Fast.tw13955350219768425095:=()
def PySem.W.Fast.tw10376204257501599190:=()
def PySem.W.Fast.tw17510434481030936713:=()
def PySem.W.Fast.tw6999588920149188460:=()
def PySem.W.Fast.tw13708435018211207611:=()
def PySem.W.Fast.tw14671709156885453011:=()
def PySem.W.Fast.tw9462782515109131929:=()
def PySem.W.Fast.tw9384066016307231825:=()
def PySem.W.Fast.tw1247304902928810844:=()
def PySem.W.Fast.tw3814648351250735763:=()
def PySem.W.Fast.tw13452122813228179505:=()
def PySem.W.Fast.tw674034592685938089:=()
def PySem.W.Fast.tw16225492586081754168:=()
def PySem.W.Fast.tw18255993145198897087:=()
def PySem.W.Fast.tw7309279492026014251:=()
def PySem.W.Fast.tw15839323045159174917:=()
def PySem.W.Fast.tw582998580209431098:=()
def PySem.W.Fast.tw8926468567799569616:=()
def PySem.W.Fast.tw12306537007514790911:=()
def PySem.W.Fast.tw2668844466297955242:=()
def PySem.W.Fast.tw9539134381256197956:=()
def PySem.W.Fast.tw12172491000303529318:=()
def PySem.W.Fast.tw12932152117267116458:=()
def PySem.W.Fast.tw4036875907716640295:=()
def PySem.W.Fast.tw7142125690047634066:=()
def PySem.W.Fast.tw9859185824911760922:=()
def PySem.W.Fast.tw1491997007779462984:=()
def PySem.W.Fast.tw13730827911768668987:=()
def PySem.W.Fast.tw14981398525763149352:=()
def PySem.W.Fast.tw17504163002538338622:=()
def PySem.W.Fast.tw4452856092912496104:=()
def PySem.W.Fast.tw16775290029749273677:=()
def PySem.W.Fast.tw9848599655813066820:=()
def PySem.W.Fast.tw9304519126950259785:=()
def PySem.W.Fast.tw15880545573063161161:=()
def PySem.W.Fast.tw12603757618196674419:=()
def PySem.W.Fast.tw15393473570179132663:=()
def PySem.W.Fast.tw3546309865218139219:=()
def PySem.W.Fast.tw12775370858296720119:=()
def PySem.W.Fast.tw18127217327670627595:=()
def PySem.W.Fast.tw17402636366501348779:=()
def PySem.W.Fast.tw4158160184450999486:=()
def PySem.W.Fast.tw6793500157409814844:=()
def PySem.W.Fast.tw6638274215132761255:=()
def PySem.W.Fast.tw1881953708294545571:=()
def PySem.W.Fast.tw3246253082574379301:=()
def PySem.W.Fast.tw12334777403362475525:=()
def PySem.W.Fast.tw4321948428006157854:=()
def PySem.W.Fast.tw12950891622851539903:=()
def PySem.W.Fast.tw13372235280138511288:=()
def PySem.W.Fast.tw10627844896534279902:=()
def PySem.W.Fast.tw14953387361978218184:=()
def PySem.W.Fast.tw8943309567926533885:=()
def PySem.W.Fast.tw14099063308805601984:=()
def PySem.W.Fast.tw15523024032760126408:=()
def PySem.W.Fast.tw4216412224420288887:=()
def PySem.W.Fast.tw12484267955537522298:=()
def PySem.W.Fast.tw11740550992385544799:=()
def PySem.W.Fast.tw6911695462622529867:=()
def PySem.W.Fast.tw13552794330533626762:=()
def PySem.W.Fast.tw8547663032475839625:=()
def PySem.W.Fast.tw5266286237062892200:=()
def PySem.W.Fast.tw1073745220836238548:=()
def PySem.W.Fast.tw4293296562398818089:=()
def PySem.W.Fast.tw11556876320728076882:=()
def PySem.W.Fast.tw11487097852741088103:=()
def PySem.W.Fast.tw6276937957871240548:=()
def PySem.W.Fast.tw13384664485249353947:=()
def PySem.W.Fast.tw6432695706237357516:=()
def PySem.W.Fast.tw9974655038782419215:=()
def PySem.W.Fast.tw17834275044498856552:=()
def PySem.W.Fast.tw11286401289450768455:=()
def PySem.W.Fast.tw11325680311809112936:=()
def PySem.W.Fast.tw11157226553641660600:=()
def PySem.W.Fast.tw10775541928210052093:=()
def PySem.W.Fast.tw7008772862271172756:=()
def PySem.W.Fast.tw10672896730383959661:=()
def PySem.W.Fast.tw6625054787198139849:=()
def PySem.W.Fast.tw12086606408546160863:=()
def PySem.W.Fast.tw8879535410345893637:=()
def PySem.W.Fast.tw113535779445334196:=()
def PySem.W.Fast.tw10840236120762846797:=()
def PySem.W.Fast.tw1854232226774877201:=()
def PySem.W.Fast.tw12493270786262318820:=()
def PySem.W.Fast.tw3670525407105578395:=()
def PySem.W.Fast.tw1152961728046845787:=()
def PySem.W.Fast.tw17216376967485725801:=()
def PySem.W.Fast.tw6337398985973287527:=()
def PySem.W.Fast.tw18053142792402993174:=()
def PySem.W.Fast.tw14905530698184515525:=()
def PySem.W.Fast.tw9340323780882896124:=()
def PySem.W.Fast.tw17579883723313643196:=()
def PySem.W.Fast.tw17526346782679183766:=()
def PySem.W.Fast.tw17905966958041622458:=()
def PySem.W.Fast.tw15728074295089082845:=()
def PySem.W.Fast.tw13316787799487681251:=()
def PySem.W.Fast.tw8569010398786897302:=()
def PySem.W.Fast.tw105405726214938350:=()
def PySem.W.Fast.tw13068404693393782291:=()
def PySem.W.Fast.tw6861559502198172622:=()
def PySem.W.Fast.tw15170924848119710751:=()
def PySem.W.Fast.tw322779086965784331:=()
def PySem.W.Fast.tw15042403544122362916:=()
def PySem.W.Fast.tw6797978999882235060:=()
def PySem.W.Fast.tw10090958917118046827:=()
def PySem.W.Fast.tw18083774590415395312:=()
def PySem.W.Fast.tw13504145215226411457:=()
def PySem.W.Fast.tw9727368844933739029:=()
def PySem.W.Fast.tw7064564918888277798:=()
def PySem.W.Fast.tw9291471914789866396:=()
def PySem.W.Fast.tw13901818352007764892:=()
def PySem.W.Fast.tw13440432013537984783:=()
def PySem.W.Fast.tw3331945984219867725:=()
def PySem.W.Fast.tw9098378211016278315:=()
def PySem.W.Fast.tw9259564807241554888:=()
def PySem.W.Fast.tw13679166376098916910:=()
def PySem.W.Fast.tw16452769120624592585:=()
def PySem.W.Fast.tw18168406596868406246:=()
def PySem.W.Fast.tw10349239633247165812:=()
def PySem.W.Fast.tw9367157217195515766:=()
def PySem.W.Fast.tw14906035296050371882:=()
def PySem.W.Fast.tw17309066443549603667:=()
def PySem.W.Fast.tw1520918242110630243:=()
def PySem.W.Fast.tw3920752150470802574:=()
def PySem.W.Fast.tw11580774452042028462:=()
def PySem.W.Fast.tw11554972038436720174:=()
def PySem.W.Fast.tw10445872845348824012:=()
def PySem.W.Fast.tw13553627091260778559:=()
def PySem.W.Fast.tw13645474908601564935:=()
def PySem.W.Fast.tw16410539638850692416:=()
def PySem.W.Fast.tw15120141765699197093:=()
def PySem.W.Fast.tw6333410897608180975:=()
def PySem.W.Fast.tw12166285048809299017:=()
def PySem.W.Fast.tw11000050950185558542:=()
def PySem.W.Fast.tw14528323115477535570:=()
def PySem.W.Fast.tw11591722219221892183:=()
def PySem.W.Fast.tw11547032763027550476:=()
def PySem.W.Fast.tw2886676174021325050:=()
def PySem.W.Fast.tw8622325689024808891:=()
def PySem.W.Fast.tw13486637731913138911:=()
def PySem.W.Fast.tw17497554425856737381:=()
def PySem.W.Fast.tw7401840025314892083:=()
def PySem.W.Fast.tw15338945988051678550:=()
def PySem.W.Fast.tw15295867253085625781:=()
def PySem.W.Fast.tw16421373847818615495:=()
def PySem.W.Fast.tw11419778419187798946:=()
def PySem.W.Fast.tw3291345150485794502:=()
def PySem.W.Fast.tw13648596079514238818:=()
def PySem.W.Fast.tw6909317504849977849:=()
def PySem.W.Fast.tw13237974363510174354:=()
def PySem.W.Fast.tw7578792867555598503:=()
def PySem.W.Fast.tw5722835751748609990:=()
def PySem.W.Fast.tw17782082321737119818:=()
def PySem.W.Fast.tw1809949056383677981:=()
def PySem.W.Fast.tw2354612072361056949:=()
def PySem.W.Fast.tw15490208456232220168:=()
def PySem.W.Fast.tw340226507266919645:=()
def PySem.W.Fast.tw12143641992763773259:=()
def PySem.W.Fast.tw10827439159576003577:=()
def PySem.W.Fast.tw4300509800565675345:=()
def PySem.W.Fast.tw3450772376112783188:=()
def PySem.W.Fast.tw6620980795070502457:=()
def PySem.W.Fast.tw15598644298476474914:=()
def PySem.W.Fast.tw9699010372933238155:=()
def PySem.W.Fast.tw16664697829340879736:=()
def PySem.W.Fast.tw9517190344651234829:=()
def PySem.W.Fast.tw9017571893156608950:=()
def PySem.W.Fast.tw15058250353218126040:=()
def PySem.W.Fast.tw14441656434639598474:=()
def PySem.W.Fast.tw14884779461854081811:=()
def PySem.W.Fast.tw7298475963381070728:=()
def PySem.W.Fast.tw6027471816603377892:=()
def PySem.W.Fast.tw15090400210703104530:=()
def PySem.W.Fast.tw3168710468496905183:=()
def PySem.W.Fast.tw8867013050704856990:=()
def PySem.W.Fast.tw2853729085410939048:=()
def PySem.W.Fast.tw7164905237296633557:=()
def PySem.W.Fast.tw11836029951263046840:=()
def PySem.W.Fast.tw1237213016964431219:=()
def PySem.W.Fast.tw10620091851748327117:=()
def PySem.W.Fast.tw9847360864541132254:=()
def PySem.W.Fast.tw11526402242161292772:=()
def PySem.W.Fast.tw3797979563299355065:=()
def PySem.W.Fast.tw17804949017868137466:=()
def PySem.W.Fast.tw3717797724829581402:=()
def PySem.W.Fast.tw17991608561927816638:=()
def PySem.W.Fast.tw9903999910144259674:=()
def PySem.W.Fast.tw5444338211662900786:=()
def PySem.W.Fast.tw1224288035164473163:=()
def PySem.W.Fast.tw11155173283664330619:=()
def PySem.W.Fast.tw5660656352162706246:=()
def PySem.W.Fast.tw17200587075542973128:=()
def PySem.W.Fast.tw16396425964026709326:=()
def PySem.W.Fast.tw17546739732506696769:=()
def PySem.W.Fast.tw10389815629443214815:=()
def PySem.W.Fast.tw5401537695687778068:=()
def PySem.W.Fast.tw12311114536930353134:=()
def PySem.W.Fast.tw1470958641309179640:=()
def PySem.W.Fast.tw8575057617609798779:=()
def PySem.W.Fast.tw9074383428733186564:=()
def PySem.W.Fast.tw1558814835488142953:=()
def PySem.W.Fast.tw208831189050488736:=()
def PySem.W.Fast.tw5828884652065751661:=()
def PySem.W.Fast.tw16317053684728642500:=()
def PySem.W.Fast.tw18290202551919094114:=()
def PySem.W.Fast.tw10521289676907263585:=()
def PySem.W.Fast.tw7584444479521074452:=()
def PySem.W.Fast.tw9480463737626460239:=()
def PySem.W.Fast.tw4002962623760449968:=()
def PySem.W.Fast.tw262061781838034798:=()
def PySem.W.Fast.tw8472972373862421890:=()
def PySem.W.Fast.tw1631249664655587456:=()
def PySem.W.Fast.tw9714519060721877271:=()
def PySem.W.Fast.tw11889593407245406515:=()
def PySem.W.Fast.tw14521483934736767865:=()
def PySem.W.Fast.tw1563077082613209241:=()
def PySem.W.Fast.tw16574133722360922962:=()
def PySem.W.Fast.tw17577105276758103355:=()
def PySem.W.Fast.tw17390128438942531930:=()
def PySem.W.Fast.tw13694956907837824159:=()
def PySem.W.Fast.tw9566143525711667770:=()
def PySem.W.Fast.tw7288848094932666850:=()
def PySem.W.Fast.tw11957498240591028548:=()
def PySem.W.Fast.tw17234460243078838885:=()
def PySem.W.Fast.tw11165864480485740626:=()
def PySem.W.Fast.tw1251489986713456976:=()
def PySem.W.Fast.tw961615109765504572:=()
def PySem.W.Fast.tw8776349006198953548:=()
def PySem.W.Fast.tw17376879224663811734:=()
def PySem.W.Fast.tw3919616906436915365:=()
def PySem.W.Fast.tw4824302358685606682:=()
def PySem.W.Fast.tw11784408142979227041:=()
def PySem.W.Fast.tw12161382140684771676:=()
def PySem.W.Fast.tw15246406959380743299:=()
def PySem.W.Fast.tw2805828432633227126:=()
def PySem.W.Fast.tw11435786788778881237:=()
def PySem.W.Fast.tw6381456171891300581:=()
def PySem.W.Fast.tw7318996865236774814:=()
def PySem.W.Fast.tw13120706463858352512:=()
def PySem.W.Fast.tw11940751029986679588:=()
def PySem.W.Fast.tw7639697403813642073:=()
def PySem.W.Fast.tw5647007541444255946:=()
def PySem.W.Fast.tw13285389892647236516:=()
def PySem.W.Fast.tw14710293675668396811:=()
def PySem.W.Fast.tw16025672372677424324:=()
def PySem.W.Fast.tw2325583180763908722:=()
def PySem.W.Fast.tw15442494553066828656:=()
def PySem.W.Fast.tw18164675561072023900:=()
def PySem.W.Fast.tw1497811548272350981:=()
def PySem.W.Fast.tw16484292037414094495:=()
def PySem.W.Fast.tw12454660994332025012:=()
def PySem.W.Fast.tw16851427426866194465:=()
def PySem.W.Fast.tw10248602705464388927:=()
def PySem.W.Fast.tw5763976921730278057:=()
def PySem.W.Fast.tw2865963156877906115:=()
def PySem.W.Fast.tw14572852250499744755:=()
def PySem.W.Fast.tw17113317286351733777:=()
def PySem.W.Fast.tw15165739341510140134:=()
def PySem.W.Fast.tw16795514446937960420:=()
def PySem.W.Fast.tw2053372288436999591:=()
def PySem.W.Fast.tw67871267370935373:=()
def PySem.W.Fast.tw16096606321652288994:=()
def PySem.W.Fast.tw17184686876717842731:=()
def PySem.W.Fast.tw3240257482474134259:=()
def PySem.W.Fast.tw11819881802663577446:=()
def PySem.W.Fast.tw16766670494322290794:=()
def PySem.W.Fast.tw15020271690089854326:=()
def PySem.W.Fast.tw6764898252494845940:=()
def PySem.W.Fast.tw3951844563257889789:=()
def PySem.W.Fast.tw11031022382746983181:=()
def PySem.W.Fast.tw13515136186382292812:=()
def PySem.W.Fast.tw10195934549398170531:=()
def PySem.W.Fast.tw16099059087046545266:=()
def PySem.W.Fast.tw17201550436366519574:=()
def PySem.W.Fast.tw12748482121831609326:=()
def PySem.W.Fast.tw7430247339299382478:=()
def PySem.W.Fast.tw2295957606335081798:=()
def PySem.W.Fast.tw4703571525286531460:=()
def PySem.W.Fast.tw6387960175866278905:=()
def PySem.W.Fast.tw9745407924887713583:=()
def PySem.W.Fast.tw16560234819824467067:=()
def PySem.W.Fast.tw18376144243851080514:=()
def PySem.W.Fast.tw15569849994807036068:=()
def PySem.W.Fast.tw16187135429969109627:=()
def PySem.W.Fast.tw17279775765433230383:=()
def PySem.W.Fast.tw8320619922552540026:=()
def PySem.W.Fast.tw4336668795143700029:=()
def PySem.W.Fast.tw13943203127001118448:=()
def PySem.W.Fast.tw8099515580535158405:=()
def PySem.W.Fast.tw2449950195621779012:=()
def PySem.W.Fast.tw17321674388805451021:=()
def PySem.W.Fast.tw14944271947017990329:=()
def PySem.W.Fast.tw16165992050074727093:=()
def PySem.W.Fast.tw9275536394595652364:=()
def PySem.W.Fast.tw8000011354397290288:=()
def PySem.W.Fast.tw6878055311886328527:=()
def PySem.W.Fast.tw8197832246143524794:=()
def PySem.W.Fast.tw12592864958629079434:=()
def PySem.W.Fast.tw14930015083223006732:=()
def PySem.W.Fast.tw8897157622251669853:=()
def PySem.W.Fast.tw10282973413568712579:=()
def PySem.W.Fast.tw2557584215454870261:=()
def PySem.W.Fast.tw5105630186380440424:=()
def PySem.W.Fast.tw3031660548271492923:=()
def PySem.W.Fast.tw3595171085495238753:=()
def PySem.W.Fast.tw10070552110671736203:=()
def PySem.W.Fast.tw5973261831551570453:=()
def PySem.W.Fast.tw14250609958002846570:=()
def PySem.W.Fast.tw5756659996406669087:=()
def PySem.W.Fast.tw2563144110688761666:=()
def PySem.W.Fast.tw2180312079030645132:=()
def PySem.W.Fast.tw4986892744637512234:=()
def PySem.W.Fast.tw10145198481627479619:=()
def PySem.W.Fast.tw7364705204249020762:=()
def PySem.W.Fast.tw7148879236939034075:=()
def PySem.W.Fast.tw16852068002099828409:=()
def PySem.W.Fast.tw8707780799522834401:=()
def PySem.W.Fast.tw9719540660931742904:=()
def PySem.W.Fast.tw16279617374758805585:=()
def PySem.W.Fast.tw6372818855673949486:=()
def PySem.W.Fast.tw11151861546590039472:=()
def PySem.W.Fast.tw11876287557848707715:=()
def PySem.W.Fast.tw8488073877896343750:=()
def PySem.W.Fast.tw4786368704044250380:=()
def PySem.W.Fast.tw1584987284055422824:=()
def PySem.W.Fast.tw12435857142349312404:=()
def PySem.W.Fast.tw9190225556258933515:=()
def PySem.W.Fast.tw8369158144492919804:=()
def PySem.W.Fast.tw9359563238401632342:=()
def PySem.W.Fast.tw6720718546925946034:=()
def PySem.W.Fast.tw18312819070995602414:=()
def PySem.W.Fast.tw9510186457314887408:=()
def PySem.W.Fast.tw366739757183378191:=()
def PySem.W.Fast.tw13535911640264504190:=()
def PySem.W.Fast.tw6823476582214642489:=()
def PySem.W.Fast.tw1040847383732062076:=()
def PySem.W.Fast.tw4390633222966629765:=()
def PySem.W.Fast.tw7891550641883522343:=()
def PySem.W.Fast.tw14662965233624140057:=()
def PySem.W.Fast.tw7563004045302684491:=()
def PySem.W.Fast.tw16113349765335937904:=()
def PySem.W.Fast.tw8979408263396118778:=()
def PySem.W.Fast.tw988129809692850911:=()
def PySem.W.Fast.tw12750604875536141087:=()
def PySem.W.Fast.tw2457847215960069563:=()
def PySem.W.Fast.tw5782799772499868978:=()
def PySem.W.Fast.tw18260088110469691529:=()
def PySem.W.Fast.tw5095109238370171686:=()
def PySem.W.Fast.tw12521967990420489860:=()
def PySem.W.Fast.tw15162526301474930482:=()
def PySem.W.Fast.tw7857282100060866798:=()
def PySem.W.Fast.tw14900972701468021780:=()
def PySem.W.Fast.tw9571429549968484646:=()
def PySem.W.Fast.tw5131493293416048264:=()
def PySem.W.Fast.tw14584902800080466306:=()
def PySem.W.Fast.tw7105714445437586443:=()
def PySem.W.Fast.tw2371462396830981934:=()
def PySem.W.Fast.tw15095203682090919784:=()
def PySem.W.Fast.tw11121196644812962232:=()
def PySem.W.Fast.tw4856577578036974368:=()
def PySem.W.Fast.tw9957381249210694696:=()
def PySem.W.Fast.tw1590864047247124938:=()
def PySem.W.Fast.tw12691864595180571498:=()
def PySem.W.Fast.tw17474955236667632646:=()
def PySem.W.Fast.tw14441094669115964154:=()
def PySem.W.Fast.tw7677392748157393059:=()
def PySem.W.Fast.tw10029510029683530948:=()
def PySem.W.Fast.tw9800438411724842965:=()
def PySem.W.Fast.tw13948275028285599635:=()
def PySem.W.Fast.tw9370444982643596141:=()
def PySem.W.Fast.tw2966023997871043115:=()
def PySem.W.Fast.tw13471540115979959422:=()
def PySem.W.Fast.tw16657109208406783120:=()
def PySem.W.Fast.tw8155061554420211447:=()
def PySem.W.Fast.tw9267398611968093321:=()
def PySem.W.Fast.tw2600501726050854896:=()
def PySem.W.Fast.tw760559322729593744:=()
def PySem.W.Fast.tw2734963372790468148:=()
def PySem.W.Fast.tw3289581455500025457:=()
def PySem.W.Fast.tw4642651638245933805:=()
def PySem.W.Fast.tw8811966595436624786:=()
def PySem.W.Fast.tw4835834527423414416:=()
def PySem.W.Fast.tw5229037201170291616:=()
def PySem.W.Fast.tw3750090459603779878:=()
def PySem.W.Fast.tw10634696570525859715:=()
def PySem.W.Fast.tw4191702618769083089:=()
def PySem.W.Fast.tw3217676067390003566:=()
def PySem.W.Fast.tw9756891816364961630:=()
def PySem.W.Fast.tw10301381681755014680:=()
def PySem.W.Fast.tw14754059001144179469:=()
def PySem.W.Fast.tw10174093059824715802:=()
def PySem.W.Fast.tw5512002749392290268:=()
def PySem.W.Fast.tw11879424700584997153:=()
def PySem.W.Fast.tw9086123254701125887:=()
def PySem.W.Fast.tw7216705205200533291:=()
def PySem.W.Fast.tw1203202167345091125:=()
def PySem.W.Fast.tw9814683169231637451:=()
def PySem.W.Fast.tw14088715370883089960:=()
def PySem.W.Fast.tw2761956641619484311:=()
def PySem.W.Fast.tw11727834013071348006:=()
def PySem.W.Fast.tw18054088013785053860:=()
def PySem.W.Fast.tw5796352150494708328:=()
def PySem.W.Fast.tw12641836758520842701:=()
def PySem.W.Fast.tw1819569404475624744:=()
def PySem.W.Fast.tw7745385576682409291:=()
def PySem.W.Fast.tw13567581517729699762:=()
def PySem.W.Fast.tw5484231462389872243:=()
def PySem.W.Fast.tw14468004995390430131:=()
def PySem.W.Fast.tw11671962989918496679:=()
def PySem.W.Fast.tw18144354315591669261:=()
def PySem.W.Fast.tw11566891620234630178:=()
def PySem.W.Fast.tw7289607866003616194:=()
def PySem.W.Fast.tw3378943239072844923:=()
def PySem.W.Fast.tw2005909941006513134:=()
def PySem.W.Fast.tw16193648256107972685:=()
def PySem.W.Fast.tw17555491668251835848:=()
def PySem.W.Fast.tw16439562861557340949:=()
def PySem.W.Fast.tw4169795956443469813:=()
def PySem.W.Fast.tw8309975492202847556:=()
def PySem.W.Fast.tw11241311489501907973:=()
def PySem.W.Fast.tw146333870204270723:=()
def PySem.W.Fast.tw8270640406858734588:=()
def PySem.W.Fast.tw1742634245526269986:=()
def PySem.W.Fast.tw5131730110805007843:=()
def PySem.W.Fast.tw14220525215121532053:=()
def PySem.W.Fast.tw13187523268794220191:=()
def PySem.W.Fast.tw16332528874401079503:=()
def PySem.W.Fast.tw18147654578025600610:=()
def PySem.W.Fast.tw7186585386242071587:=()
def PySem.W.Fast.tw7332010316831419762:=()
def PySem.W.Fast.tw7585904462030982990:=()
def PySem.W.Fast.tw17981716306295649367:=()
def PySem.W.Fast.tw15841996195958555769:=()
def PySem.W.Fast.tw2007781905387051898:=()
def PySem.W.Fast.tw3515429379213876678:=()
def PySem.W.Fast.tw5332265605738050749:=()
def PySem.W.Fast.tw17891213694030761524:=()
namespace HdQ
open PySem PySem.W
def live (o : Obj) : Bool := match o.data with
  | .freed => false
  | _ => true
noncomputable def pick (l : List Obj) : Nat → List Nat → List (Obj × Bool) :=
  @List.rec Obj (fun _ => Nat → List Nat → List (Obj × Bool)) (fun _ _ => [])
    (fun o _ ih i as => @List.rec Nat (fun _ => List (Obj × Bool)) [] (fun a as' _ => @Bool.rec (fun _ => List (Obj × Bool)) (ih (i + 1) (a :: as')) ((o, live o) :: ih (i + 1) as') (Nat.beq i a)) as) l
theorem pick_is : ∀ (l : List Obj) (i : Nat) (as : List Nat), (pick l i as).length = as.length → ∀ (k a : Nat) (o : Obj × Bool), as[k]? = some a → (pick l i as)[k]? = some o → i ≤ a ∧ l[a - i]? = some o.1 ∧ o.2 = live o.1
  | [], i, as, h, k, a, o, h1, h2 => by
    exfalso
    have : (pick [] i as)[k]? = none := rfl
    rw [this] at h2
    cases h2
  | x :: l, i, [], h, k, a, o, h1, h2 => by simp at h1
  | x :: l, i, b :: as, h, k, a, o, h1, h2 => by
    have e : pick (x :: l) i (b :: as) = @Bool.rec (fun _ => List (Obj × Bool)) (pick l (i + 1) (b :: as)) ((x, live x) :: pick l (i + 1) as) (Nat.beq i b) := rfl
    rw [e] at h h2
    cases q : Nat.beq i b with
    | true =>
      have ib := Nat.eq_of_beq_eq_true q
      rw [q] at h h2
      have h' : (pick l (i + 1) as).length + 1 = as.length + 1 := h
      cases k with
      | zero =>
        cases h1
        cases h2
        exact ⟨by omega, by rw [ib, Nat.sub_self]; rfl, rfl⟩
      | succ k =>
        obtain ⟨g1, g2, g3⟩ := pick_is l (i + 1) as (by omega) k a o h1 h2
        exact ⟨by omega, by rw [show a - i = (a - (i + 1)) + 1 by omega]; exact g2, g3⟩
    | false =>
      rw [q] at h h2
      obtain ⟨g1, g2, g3⟩ := pick_is l (i + 1) (b :: as) h k a o h1 h2
      exact ⟨by omega, by rw [show a - i = (a - (i + 1)) + 1 by omega]; exact g2, g3⟩
theorem get_live {h : Heap} {a : Addr} {o : Obj} (e : h.objs[a]? = some o) (l : live o = true) : h.get? a = some o := by
  unfold Heap.get?
  rw [e]
  obtain ⟨c, d, dt, sl⟩ := o
  cases dt <;> first | rfl | (exact absurd l Bool.false_ne_true)
theorem pick_get {K : Frag} {as : List Addr} {h : Heap} (e : as = K.map (·.1)) (x : pick h.objs.toList 0 as = K.map fun p => (p.2, true)) : as.map h.get? = K.map fun p => some p.2 := by
  have hl : (pick h.objs.toList 0 as).length = as.length := by rw [x, e, List.length_map, List.length_map]
  refine List.ext_getElem? fun k => ?_
  rw [List.getElem?_map, List.getElem?_map]
  cases q : K[k]? with
  | none =>
    have : as[k]? = none := by rw [e, List.getElem?_map, q]; rfl
    rw [this]; rfl
  | some p =>
    have h1 : as[k]? = some p.1 := by rw [e, List.getElem?_map, q]; rfl
    have h2 : (pick h.objs.toList 0 as)[k]? = some (p.2, true) := by rw [x, List.getElem?_map, q]; rfl
    obtain ⟨_, g, gl⟩ := pick_is _ _ _ hl k p.1 _ h1 h2
    rw [h1]
    show some (h.get? p.1) = some (some p.2)
    rw [Nat.sub_zero, Array.getElem?_toList] at g
    rw [get_live g gl.symm]
noncomputable def hk (K : Params → Frag) (as : List Addr) (e : ∀ P, as = (K P).map (·.1)) : Hook :=
  ⟨List (Obj × Bool), fun s => pick s.heap.objs.toList 0 as, fun w => (K w.params).map fun p => (p.2, true), InK K, fun w s x => InK.of e w s (pick_get (e _) x), InK.keeps⟩
theorem hk_in {K : Params → Frag} {as : List Addr} {e : ∀ P, as = (K P).map (·.1)} {w : World} {h : Heap} (Y : (hk K as e).says w h) : (K w.params).In h := Y
end HdQ
namespace HdQ
open PySem PySem.W
def q0 : Program := { PySem.Challenge.rw_heddle_k74_refusals_stand_alone.prog with main := { PySem.Challenge.rw_heddle_k74_refusals_stand_alone.prog.main with body := PySem.Challenge.rw_heddle_k74_refusals_stand_alone.prog.main.body.drop 142 } }
def l0 : List Str := [Str.ofString "_wall", Str.ofString "WeaveError", Str.ofString "NoRow", Str.ofString "TooLarge", Str.ofString "NoCloth", Str.ofString "NoDraft", Str.ofString "NoStrand", Str.ofString "NoDeed", Str.ofString "NoLaying", Str.ofString "NoShuttle", Str.ofString "NoColour", Str.ofString "NoBlock", Str.ofString "NoPattern", Str.ofString "Unknown", Str.ofString "Twice", Str.ofString "FIGURES", Str.ofString "Reader", Str.ofString "number_of", Str.ofString "MOST_NUMBERS", Str.ofString "MOST_DEEP_rows", Str.ofString "Path", Str.ofString "Times", Str.ofString "unfolded", Str.ofString "whole_size", Str.ofString "all_numbers", Str.ofString "steps_between", Str.ofString "read_row", Str.ofString "read_items", Str.ofString "read_item", Str.ofString "read_times", Str.ofString "read_path", Str.ofString "read_number", Str.ofString "read_number_rows", Str.ofString "MOST_STRANDS", Str.ofString "measured", Str.ofString "back_of", Str.ofString "quarter_of", Str.ofString "measured_texts", Str.ofString "check_pick", Str.ofString "check_strand", Str.ofString "end_signs", Str.ofString "turned_signs", Str.ofString "MOST_SHAFTS", Str.ofString "Draft", Str.ofString "woven", Str.ofString "check_setting", Str.ofString "check_count", Str.ofString "check_shaft", Str.ofString "check_tie", Str.ofString "check_treading", Str.ofString "shed_over", Str.ofString "unlike", Str.ofString "filled_blocks", Str.ofString "unit_size", Str.ofString "LETTERS", Str.ofString "MOST_LETTERS", Str.ofString "WORDS", Str.ofString "is_name", Str.ofString "BETWEEN_PARTS", Str.ofString "BETWEEN_TIES", Str.ofString "read_draft", Str.ofString "tiled", Str.ofString "strand_over", Str.ofString "scores_of", Str.ofString "tops_of", Str.ofString "layers_of", Str.ofString "layer_numbers", Str.ofString "laid_together", Str.ofString "check_owners", Str.ofString "check_piece", Str.ofString "places_within", Str.ofString "sign_at", Str.ofString "Piece", Str.ofString "Named", Str.ofString "Rows", Str.ofString "Twill", Str.ofString "Satin", Str.ofString "Beside", Str.ofString "Above", Str.ofString "Mirror", Str.ofString "Upend", Str.ofString "Back", Str.ofString "Quarter", Str.ofString "Tile", Str.ofString "Blocks", Str.ofString "Lay", Str.ofString "check_size", Str.ofString "check_one_size", Str.ofString "prime_to", Str.ofString "written", Str.ofString "MOST_DEEP_reader", Str.ofString "MOST_RUNS", Str.ofString "THINGS", Str.ofString "read_pattern", Str.ofString "read_whole", Str.ofString "read_node", Str.ofString "read_things", Str.ofString "read_runs", Str.ofString "read_run", Str.ofString "read_number_reader", Str.ofString "read_comma", Str.ofString "worked_out", Str.ofString "known_cloth", Str.ofString "made_of_one", Str.ofString "made_of_two", Str.ofString "made_of_three", Str.ofString "read_book", Str.ofString "read_line", Str.ofString "parting_place", Str.ofString "COLOURS", Str.ofString "picture_of", Str.ofString "check_threads", Str.ofString "shown_pick", Str.ofString "Loom", Str.ofString "SHUTTLES", Str.ofString "seams_of", Str.ofString "check_shuttles", Str.ofString "seams_along", Str.ofString "_law_done", Str.ofString "_law_caught", Str.ofString "_law_takers", Str.ofString "_law_right"]
end HdQ
open Lean in
local macro_rules
  | `(tactic| refine $f:ident $args*) => do
    unless f.getId == `PySem.W.holds_open do Macro.throwUnsupported
    let some qa := args.find? fun a => a.raw.isOfKind ``Lean.Parser.Term.namedArgument && a.raw[1].getId.eraseMacroScopes == `q | Macro.throwUnsupported
    let qs := qa.raw[3]
    if qs.isIdent && qs.getId == `HdQ.q0 then Macro.throwUnsupported
    let q0 := (mkIdent `HdQ.q0).raw
    let args := args.map fun a => ⟨Id.run do
      if a.raw.isOfKind ``Lean.Parser.Term.namedArgument then
        if a.raw[1].getId.eraseMacroScopes == `loose then return a.raw.setArg 3 (mkIdent `HdQ.l0)
        return Id.run (a.raw.replaceM fun s => pure (if s.structEq qs then some q0 else none))
      return a.raw⟩
    `(tactic| refine $f:ident $args*)
open Lean in
local macro_rules
  | `(tactic| o_head ($h:ident $a $b $c $_ds*)) => do
    unless [`kHook, `kmHook, `PySem.W.kHook, `PySem.W.kmHook].contains h.getId.eraseMacroScopes do Macro.throwUnsupported
    `(tactic| o_head (HdQ.hk $a $b $c))
set_option maxRecDepth 100000 in
set_option maxHeartbeats 0 in
theorem PySem.Challenge.cw_heddle_k74_refusals_stand_alone_holds : PySem.Challenge.rw_heddle_k74_refusals_stand_alone.Holds := by
 w_on;o_law;k_head;(case hw=>w_witness2)
 k_fill
 refine L2.Ag2 (l:=PySem.Challenge.rw_heddle_k74_refusals_stand_alone) (n:=63) (k:=50) (x := "script") (CX:=L2.CX0) (sp:=Mine.Adv) rfl (by decide) rfl ⟨rfl,by decide,by decide⟩ (fun w h Y=>HdQ.hk_in Y) ?F ?S ?C
 case F =>
  intro w mg fa h KX G hmg
  refine' Mine.Al4 (t:=Mine.Adr.mk) hmg ?T
  case T =>
   constructor <;> (try dsimp only) <;> first
   | (refine' L2.DfH.df ⟨?a,?b⟩ KX G ?c;(case a=>k_is);(case b=>(apply L2.Aet <;> k_is));(case c=>(intro _ _ _ _ _ _ us hl;first | exact Mine.bl1 (fun _=>rfl) us hl | exact Mine.bl2 (fun _ _=>rfl) us hl | exact Mine.bl3 (fun _ _ _=>rfl) us hl | exact Mine.bl4 (fun _ _ _ _=>rfl) us hl)))
   | (refine' L2.DfA.of ?a ?b KX G ?c;(case a=>k_is);(case b=>(apply L2.Aet <;> k_is));(case c=>(intro _ _ _ _ _ _ us hl;first | exact Mine.bl1 (fun _=>rfl) us hl | exact Mine.bl2 (fun _ _=>rfl) us hl | exact Mine.bl3 (fun _ _ _=>rfl) us hl | exact Mine.bl4 (fun _ _ _ _=>rfl) us hl)))
   | exact PySem.W.mg_none_of KX G (by k_is)
   | exact⟨_,PySem.W.mg_of KX G (by k_is)⟩
   | exact PySem.W.mg_of KX G (by k_is)
   | (refine' L2.MfH.mf ⟨?a,?b,?d⟩ ?c;(case a=>k_is);(case b=>k_is);(case d=>(apply L2.Aet <;> k_is));(case c=>(intro _ _ _ _ _ _ us hl;first | exact Mine.bl1 (fun _=>rfl) us hl | exact Mine.bl2 (fun _ _=>rfl) us hl | exact Mine.bl3 (fun _ _ _=>rfl) us hl | exact Mine.bl4 (fun _ _ _ _=>rfl) us hl)))
   | (apply L2.Akt <;> k_is)
   | (unfold L2.Dl;k_is)
   | (apply L2.Akq <;> first | k_exc | k_is)
   | k_is
   | kernel_rfl
   | (refine L2.Ai9 (by k_is) rfl rfl (by decide) ?_;repeat (first | exact .nil | refine .cons ⟨_,rfl⟩ ?_))
   | (refine L2.Akv ?_;kernel_rfl)
   | (constructor <;> first | k_is | rfl)
 case S=>exact fun K H a ns hl hO hS=>Mine.Adw hl hS
 case C=>exact fun _ _ _ _ z=>z
