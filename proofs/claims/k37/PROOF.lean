import PyProof.Rows.All
import Wide.All
import OpenK.AllK
import Wide.FinOn
import Lean
import PyProof.EqAt
import PyProof.EqKinds
import PyProof.TupleCall
import PyProof.StrBlockL
import PyProof.EnumMake
import PyProof.CollectIter
import PyProof.JoinWalk
import PyProof.StrOps
import PyProof.StrLawsIdx
import PyProof.StrLawsIn
import PyProof.ListRange
import PyProof.Rows.Range3
import PyProof.Rows.SumAny
import KE.KIntText
import KE.LcSums
import PyProof.LongRange
import PyProof.StrOps2
import PyProof.FitsBits
import PyProof.NeKinds
import PyProof.Rows.ZipGen
import PyProof.Draws
import PyProof.Rows.SeqMore
import PyProof.Rows.SortRev
import PyProof.Rows.SortWalk
import PyProof.Rows.CallKwBuiltin
import PyProof.Rows.MinMaxN
import PyProof.ConsumeWalk
import PyProof.Rows.SortRuns
import KE.KLam
import KE.KSortKey
import KE.KRevIter
import PyProof.Rows.SetFrom
import PyProof.CollectWalk
import PyProof.DictWalks
import PyProof.TupleKey
import KE.KSortTup
import PySem.Challenge.RW_heddle_k37_no_shuttle
set_option Elab.async false
set_option linter.all false
set_option maxRecDepth 100000
namespace Zz
def AsH:=@List.length_map
def AsI:=@Nat.le_refl
def AsJ:=@List.getElem?_eq_getElem
def AsK:=@List.size_toArray
def AsL:=@Nat.ne_of_lt
def AsM:=@Nat.zero_le
def AsN:=@List.length_append
def AsO:=@Nat.lt_of_lt_of_le
def AsP:=@List.map_append
def AsQ:=@List.length_range
def AsR:=@List.mem_cons_self
def AsS:=@List.mem_of_getElem?
def AsT:=@Bool.false_ne_true
def AsU:=@List.getElem?_map
def AsV:=@List.getElem_mem
def AsW:=@List.mem_cons_of_mem
def AsX:=@Nat.le_trans
def AsY:=@List.map_cons
def AsZ:=@List.mem_append_right
def Ata:=@List.mem_cons
def Atb:=@List.not_mem_nil
def Atc:=@List.take_of_length_le
def Atd:=@List.length_take
def Ate:=@Int.toNat_natCast
def Atf:=@List.length_cons
def Atg:=@List.length_drop
def Ath:=@List.flatten_cons
def Ati:=@List.lookup_cons
def Atj:=@Nat.le_succ
def Atk:=@List.append_nil
def Atl:=@List.getElem_of_mem
def Atm:=@List.take_add_one
def Atn:=@Nat.lt_irrefl
def Ato:=@Nat.ne_of_gt
def Atp:=@Bool.false_eq_true
def Atq:=@Nat.min_eq_left
def Atr:=@List.pairwise_map
def Ats:=@List.getElem?_append_right
def Atu:=@List.getElem?_append_left
def Atv:=@List.append_assoc
def Atw:=@List.getD_eq_getElem?_getD
def Atx:=@Nat.le_of_lt
def Aty:=@Bool.and_eq_true
def Atz:=@Nat.lt_succ_of_lt
def At0:=@List.range_succ
def At1:=@List.map_take
def At2:=@List.take_length
def At3:=@List.map_nil
def At4:=@List.replicate_succ
def At5:=@Nat.lt_succ_self
def At6:=@List.sum_cons
def At7:=@Nat.sub_self
def At8:=@List.map_drop
def At9:=@Nat.le_of_eq
def AtA:=@List.length_filter_le
def AtB:=@List.getElem?_eq_none
def AtC:=@Nat.mod_lt
def AtD:=@List.mem_append_left
def AtE:=@List.nil_append
def AtF:=@List.map_map
def AtG:=@List.map_congr_left
def AtH:=@Int.zero_add
def AtI:=@List.filterMap_cons
def AtJ:=@Bool.eq_iff_iff
def AtK:=@List.getElem?_range
def AtL:=@Int.natCast_mul
def AtM:=@Nat.zero_add
def AtN:=@List.take_append_drop
def AtO:=@Int.natCast_add
def AtP:=@List.filter_append
def AtQ:=@List.ext_getElem
def AtR:=@List.mem_of_mem_drop
def AtS:=@Int.emod_lt_of_pos
def AtT:=@Int.emod_nonneg
def AtU:=@List.getElem?_set_ne
def AtV:=@Int.mul_one
def AtW:=@List.getElem?_cons_succ
def AtX:=@List.drop_zero
def AtY:=@Int.le_refl
def AtZ:=@Nat.sub_zero
def Aua:=@List.mem_filter
def Aub:=@List.getElem?_of_mem
def Auc:=@List.getElem_map
def Aud:=@List.filter_cons_of_pos
def Aue:=@List.filter_cons_of_neg
def Auf:=@Nat.succ_pos
def Auh:=@Nat.lt_or_ge
def Aui:=@List.length_set
def Auj:=@List.foldl_cons
def Auk:=@Nat.succ_mul
def Aul:=@Nat.lt_of_le_of_lt
def Aum:=@List.forIn_cons
def Aun:=@List.getElem?_drop
def Auo:=@Nat.min_self
def Aup:=@Int.natCast_one
def Auq:=@Nat.lt_trichotomy
def Aur:=@List.mem_of_mem_take
def Aus:=@Nat.le_of_lt_succ
def Aut:=@List.getElem?_set_self
def Auu:=@List.getElem?_take_of_lt
def Auv:=@List.take_sublist
def Auw:=@Nat.min_le_right
def Aux:=@Nat.le_of_not_lt
def Auy:=@Bool.not_eq_true'
def Auz:=@List.cons_append
def Au0:=@List.pairwise_iff_getElem
def Au1:=@List.flatMap_append
def Au2:=@List.getElem_range
def Au3:=@List.perm_middle
def Au4:=@List.ext_getElem?
def Au5:=@List.pairwise_lt_range
def Au6:=@List.nodup_range
def Au7:=@Nat.le_add_right
def Au8:=@List.filter_cons
def Au9:=@Nat.min_eq_right
def AuA:=@List.eq_nil_of_length_eq_zero
def AuB:=@List.take_succ_eq_append_getElem
def AuC:=@List.eraseIdx_eq_take_drop_succ
end Zz
open Zz
namespace L2
open PySem PySem.Spec PyProof.Rows
abbrev Key:=Sum Int Str
def AmZ:Key→Value→Bool
 | .inl k,v=>Value.isInt k v
 | .inr x,v=>Value.isStrOf x v
def Aqt (w:World):Key→Int
 | .inl k=>hashInt k
 | .inr x=>hashStr w x
theorem GK:∀{k:Key} {v:Value},AmZ k v=true→(∃ i t,k=Sum.inl i∧v=Value.int i t)∨(∃ x t,k=Sum.inr x∧v=Value.str x t)
 | .inl i,v,h=>by
  obtain⟨t,e⟩:=Value.isInt_shape (k:=i) (v:=v) h
  exact .inl ⟨i,t,rfl,e⟩
 | .inr x,v,h=>by
  obtain⟨t,e⟩:=Value.isStrOf_shape (x:=x) (v:=v) h
  exact .inr ⟨x,t,rfl,e⟩
theorem An3(a b:Int):decide ((Sum.inl a:Key)=Sum.inl b)=(a == b):=by
 by_cases e:a=b
 ·subst e;simp
 ·have h:¬(Sum.inl a:Key)=Sum.inl b:=fun q=>e (Sum.inl.inj q)
  rw[decide_eq_false h]
  exact(beq_eq_false_iff_ne.mpr e).symm
theorem An4(a b:Str):decide ((Sum.inr a:Key)=Sum.inr b)=decide (a=b):=by
 by_cases e:a=b
 ·subst e;simp
 ·have h:¬(Sum.inr a:Key)=Sum.inr b:=fun q=>e (Sum.inr.inj q)
  rw[decide_eq_false h,decide_eq_false e]
theorem An5(a:Int)(b:Str):decide ((Sum.inl a:Key)=Sum.inr b)=false:=decide_eq_false (fun q=>nomatch q)
theorem An6(a:Str)(b:Int):decide ((Sum.inr a:Key)=Sum.inl b)=false:=decide_eq_false (fun q=>nomatch q)
def Eg (prog:Program)(w:World):PySem.KeyKind prog w Key where
 is:=AmZ
 hash:=Aqt w
 inj:=fun v a b ha hb=>by
  rcases GK ha with ⟨i,t,rfl,rfl⟩ | ⟨x,t,rfl,rfl⟩
  ·rcases GK hb with ⟨j,u,rfl,e⟩ | ⟨y,u,rfl,e⟩
   ·injection e with e1 _;rw[e1]
   ·exact nomatch e
  ·rcases GK hb with ⟨j,u,rfl,e⟩ | ⟨y,u,rfl,e⟩
   ·exact nomatch e
   ·injection e with e1 _;rw[e1]
 byValue:=fun k v h=>by
  rcases GK h with ⟨i,t,rfl,rfl⟩ | ⟨x,t,rfl,rfl⟩ <;> rfl
 pyHash:=fun hv h=>by
  rcases GK hv with ⟨i,t,rfl,rfl⟩ | ⟨x,t,rfl,rfl⟩
  ·exact wpAny_pyHash_int h
  ·exact wpAny_pyHash_str h
 eqBool:=fun hu hv h=>by
  rcases GK hu with ⟨i,t,rfl,rfl⟩ | ⟨x,t,rfl,rfl⟩
  ·rcases GK hv with ⟨j,u,rfl,rfl⟩ | ⟨y,u,rfl,rfl⟩
   ·rw[An3] at h;exact wpAny_eqBool_int h
   ·rw[An5] at h;exact SeqAt.EqAt.int_str i t y u _ _ _ _ h
  ·rcases GK hv with ⟨j,u,rfl,rfl⟩ | ⟨y,u,rfl,rfl⟩
   ·rw[An6] at h;exact SeqAt.EqAt.str_int x t j u _ _ _ _ h
   ·rw[An4] at h;exact wpAny_eqBool_str h
 «strs»:=fun k x t v h=>by
  rcases GK h with ⟨i,u,rfl,e⟩ | ⟨y,u,rfl,e⟩
  ·exact nomatch e
  ·injection e with e1 _
   subst e1
   cases v <;> rfl
open PySem PySem.Spec PyProof.Rows
inductive V where
 | non | bl (b:Bool) | int (i:Int) | str (x:Str) | byt (b:Array UInt8) | flt (b:UInt64) | ref (a:Addr) | ty (n:String)
 deriving DecidableEq
def RelV:V→Value→Prop
 | .non,u=>u=Value.none
 | .bl b,u=>u=Value.bool b
 | .int i,u=>∃ t,u=Value.int i t
 | .str x,u=>∃ t,u=Value.str x t
 | .byt b,u=>∃ t,u=Value.bytes b t
 | .flt b,u=>∃ t,u=Value.float b t
 | .ref a,u=>u=Value.ref a
 | .ty n,u=>u=Value.type n
abbrev Vals:List V→List Value→Prop:=Paired RelV
theorem Vals.length{xs:List V}{us:List Value}(r:Vals xs us):xs.length=us.length:=Paired.length r
theorem Vals.get:∀{xs:List V} {us:List Value} {i:Nat} {x:V},Vals xs us→xs[i]?=some x→∃ u,us[i]?=some u∧RelV x u
 | _,_,_,_,.nil,e=>by simp at e
 | _,_,0,_,.cons r _,e=>by simp at e;subst e;exact⟨_,rfl,r⟩
 | _,_,i+1,x,.cons _ t,e=>by
  obtain⟨u,h1,h2⟩:=Vals.get (i:=i) (x:=x) t (by simpa using e)
  exact⟨u,by simpa using h1,h2⟩
theorem Vals.set{x:V}{u:Value}(r:RelV x u):∀{xs:List V} {us:List Value} (i:Nat),Vals xs us→Vals (xs.set i x) (us.set i u)
 | _,_,_,.nil=>.nil
 | _,_,0,.cons _ t=>.cons r t
 | _,_,i+1,.cons q t=>.cons q (Vals.set r i t)
theorem Vals.append:∀{xs ys:List V} {us ws:List Value},Vals xs us→Vals ys ws→Vals (xs++ys) (us++ws)
 | _,_,_,_,.nil,s=>s
 | _,_,_,_,.cons r t,s=>.cons r (Vals.append t s)
theorem Vals.take:∀{xs:List V} {us:List Value} (n:Nat),Vals xs us→Vals (xs.take n) (us.take n)
 | _,_,0,_=>.nil
 | _,_,_+1,.nil=>.nil
 | _,_,n+1,.cons r t=>.cons r (Vals.take n t)
theorem Vals.drop:∀{xs:List V} {us:List Value} (n:Nat),Vals xs us→Vals (xs.drop n) (us.drop n)
 | _,_,0,r=>r
 | _,_,_+1,.nil=>.nil
 | _,_,n+1,.cons _ t=>Vals.drop n t
def An7:Option V→Option Value→Prop
 | some v,some u=>RelV v u
 | none,none=>True
 | _,_=>False
def KV {κ:Type}:List (κ × V)→List (κ × Value)→Prop:=Paired fun(p:κ × V) (q:κ × Value)=>p.1=q.1∧RelV p.2 q.2
def kV:Key→V
 | .inl i=>.int i
 | .inr x=>.str x
inductive HO where
 | lst (xs:List V)
 | tup (xs:List V)
 | dK (kvs:List (Key × V)) | dT (kvs:List (List Key × V))
 | set (S:Int→Bool) (n:Nat)
 | ins (C dx:Addr) (fs:List (Str × V))
 | own (x:Addr)
 | xd (fs:List (Str × V))
 | met (f x:Addr)
 | rng (lo hi:Int)
 | frz (o:Obj) (u:HO)
 | tbl (ps:Array Value)
 | ext (φ:Heap→Prop)
abbrev Hp:=Addr→Option HO
def upd (H:Hp)(a:Addr)(o:HO):Hp:=fun b=>if b=a then some o else H b
theorem Ae{H:Hp}{a:Addr}{o:HO}:upd H a o a=some o:=by unfold upd;rw[if_pos rfl]
theorem Bh{H:Hp}{a b:Addr}{o:HO}(h:b≠a):upd H a o b=H b:=by unfold upd;rw[if_neg h]
theorem Aid{H:Hp}{a:Addr}{o u:HO}:upd (upd H a o) a u=upd H a u:=by
 funext b;unfold upd;split <;> rfl
theorem FN{H:Hp}{a b:Addr}{o:HO}(h:H a=some o)(h':H b=none):a≠b:=by
 intro e;subst e;rw[h] at h';cases h'
section
variable (P:Program) (w:World)
def JH (H:Hp)(h:Heap)(a:Addr):HO→Prop
 | .lst xs=>xs.length≤sizeLine∧∃(its:List Value) (n:Nat),Vals xs its∧h.get? a=some { cls:=.type "list", data:=.seq its.toArray n }
 | .tup xs=>xs.length≤sizeLine∧∃ its:List Value,Vals xs its∧IsTup h a its.toArray
 | .dK kvs=>kvs.length≤sizeLine∧(a == sysModules)=false∧∃ vs,KV kvs vs∧h.DictOf (Eg P w) a vs
 | .dT kvs=>kvs.length≤sizeLine∧(a == sysModules)=false∧∃ xs:List (List Key × Addr × Value),
   Paired (fun(p:List Key × V) (q:List Key × Addr × Value)=>p.1=q.1∧H q.2.1=some (.tup (p.1.map kV))∧RelV p.2 q.2.2) kvs xs ∧
   ∃ o es ep,h.get? a=some o∧o.ExactDict∧o.data=.dict es ep∧es.toList=xs.map (entryOfKey (tupleKind (Eg P w)))∧(xs.map (·.1)).Nodup
 | .set S n=>h.SetOf (intKind P w) a S n
 | .ins C dx fs=>H dx=some (.own a)∧fs.length≤1000∧dx≠a∧h.get? a=some (PySem.W.instObj C dx) ∧
   ∃ mA,h.Ns1 dx mA∧(∀ f,An7 (fs.lookup f) (mA f))∧PySem.Within mA (fs.map (·.1))
 | .own _=>∃ o,h.get? a=some o
 | .xd fs=>∃ mA,h.Ns1 a mA∧∀ f,An7 (fs.lookup f) (mA f)
 | .rng lo hi=>∃ t u v,h.get? a=some { cls:=.type "range", data:=.fields #[.int lo t,.int hi u,.int 1 v] }
 | .frz o u=>h.get? a=some o∧JH H h a u
 | .tbl ps=>h.get? a=some { cls:=.none,data:=.fields ps }
 | .met f x=>h.get? a=some (PySem.W.methodObj (.ref f) (.ref x))
 | .ext φ=>φ h∧(∃ o,h.get? a=some o)∧∀ h1 h2:Heap,φ h1→(∀ o,h1.get? a=some o→h2.get? a=some o)→φ h2
def HOk (H:Hp)(h:Heap):Prop:=∀ a o,H a=some o→JH P w H h a o
end
section
variable {P:Program}{w:World}{H H':Hp}{h h':Heap}{a:Addr}{o:HO}
theorem JH.lt(x:JH P w H h a o):a<h.objs.size:=by
 cases o with
 | lst xs=>obtain⟨_,_,_,_,e⟩:=x;exact Heap.lt_size e
 | tup xs=>obtain⟨_,_,_,p⟩:=x;exact p.lt
 | dK kvs=>obtain⟨_,_,_,_,o,_,_,e,_⟩:=x;exact Heap.lt_size e
 | dT kvs=>obtain⟨_,_,_,_,o,_,_,e,_⟩:=x;exact Heap.lt_size e
 | set S n=>obtain⟨o,_,_,_,e,_⟩:=x;exact Heap.lt_size e
 | ins C dx fs=>obtain⟨_,_,_,e,_⟩:=x;exact Heap.lt_size e
 | own y=>obtain⟨_,e⟩:=x;exact Heap.lt_size e
 | xd fs=>obtain⟨_,⟨_,_,_,e,_⟩,_⟩:=x;exact Heap.lt_size e
 | rng lo hi=>obtain⟨_,_,_,e⟩:=x;exact Heap.lt_size e
 | frz ob u=>obtain⟨e,_⟩:=x;exact Heap.lt_size e
 | tbl ps=>exact Heap.lt_size (show h.get? a=some _ from x)
 | met f y=>exact Heap.lt_size (show h.get? a=some _ from x)
 | ext φ=>obtain⟨_,⟨_,e⟩,_⟩:=x;exact Heap.lt_size e
theorem Paired.Apc{α β:Type}{F G:α→β→Prop}:∀{l₁:List α} {l₂:List β},Paired F l₁ l₂→(∀ a b,F a b→G a b)→Paired G l₁ l₂
 | _,_,.nil,_=>.nil
 | _,_,.cons r t,f=>.cons (f _ _ r) (Paired.Apc t f)
theorem JH.stay(x:JH P w H h a o)(k:∀ b u,(b=a∨H b=some (.own a))→h.get? b=some u→h'.get? b=some u)
  (ho:∀ b,H b=some (.own a)→H' b=some (.own a)) (ht:∀ b xs,H b=some (.tup xs)→H' b=some (.tup xs)):JH P w H' h' a o:=by
 induction o with
 | lst xs=>obtain⟨z,its,n,r,e⟩:=x;exact⟨z,its,n,r,k _ _ (.inl rfl) e⟩
 | tup xs=>obtain⟨z,its,r,ob,e,c⟩:=x;exact⟨z,its,r,ob,k _ _ (.inl rfl) e,c⟩
 | dK kvs=>obtain⟨z,y,vs,r,ob,es,ep,e,c⟩:=x;exact⟨z,y,vs,r,ob,es,ep,k _ _ (.inl rfl) e,c⟩
 | dT kvs =>
  obtain⟨z,y,xs,r,ob,es,ep,e,c⟩:=x
  exact⟨z,y,xs,Paired.Apc r fun p q z=>⟨z.1,ht _ _ z.2.1,z.2.2⟩,ob,es,ep,k _ _ (.inl rfl) e,c⟩
 | set S n=>obtain⟨ob,es,ep,t,e,c⟩:=x;exact⟨ob,es,ep,t,k _ _ (.inl rfl) e,c⟩
 | ins C dx fs =>
  obtain⟨d,z,ne,e,mA,⟨od,es,ep,e2,c⟩,r⟩:=x
  exact⟨ho _ d,z,ne,k _ _ (.inl rfl) e,mA,⟨od,es,ep,k _ _ (.inr d) e2,c⟩,r⟩
 | own y=>obtain⟨ob,e⟩:=x;exact⟨ob,k _ _ (.inl rfl) e⟩
 | xd fs=>obtain⟨mA,⟨od,es,ep,e,c⟩,r⟩:=x;exact⟨mA,⟨od,es,ep,k _ _ (.inl rfl) e,c⟩,r⟩
 | rng lo hi=>obtain⟨t,u,v,e⟩:=x;exact⟨t,u,v,k _ _ (.inl rfl) e⟩
 | frz ob u ih=>obtain⟨e,q⟩:=x;exact⟨k _ _ (.inl rfl) e,ih q⟩
 | tbl ps =>
  have e:h.get? a=some { cls:=.none,data:=.fields ps }:=x
  show h'.get? a=some { cls:=.none,data:=.fields ps }
  exact k a _ (.inl rfl) e
 | met f y =>
  have e:h.get? a=some (PySem.W.methodObj (.ref f) (.ref y)):=x
  show h'.get? a=some (PySem.W.methodObj (.ref f) (.ref y))
  exact k a _ (.inl rfl) e
 | ext φ=>obtain⟨p,⟨o,e⟩,st⟩:=x;exact⟨st _ _ p fun o q=>k _ _ (.inl rfl) q,⟨o,k _ _ (.inl rfl) e⟩,st⟩
theorem HOk.lt(x:HOk P w H h)(e:H a=some o):a<h.objs.size:=(x a o e).lt
theorem HOk.fresh(x:HOk P w H h)(e:h.objs.size≤a):H a=none:=by
 cases q:H a with
 | none=>rfl
 | some u=>exact absurd (AsO (x.lt q) e) (Atn _)
theorem HOk.kept(x:HOk P w H h)(k:∀ b u,h.get? b=some u→h'.get? b=some u):HOk P w H h':=fun a o e =>
 (x a o e).stay (fun b u _ q=>k b u q) (fun _ q=>q) fun _ _ q=>q
theorem HOk.laid(x:HOk P w H h)(k:∀ b u,h.get? b=some u→h'.get? b=some u)(hp:h.objs.size≤a)(new:JH P w (upd H a o) h' a o):HOk P w (upd H a o) h':=fun b u e=>by
 have hn:=x.fresh hp
 by_cases hb:b=a
 ·subst hb;rw[Ae] at e;cases e;exact new
 ·rw[Bh hb] at e
  exact(x b u e).stay (fun c v _ q=>k c v q) (fun c q=>by rw[Bh (FN q hn)];exact q) fun c xs q=>by rw[Bh (FN q hn)];exact q
end
def Rd (H:Hp)(a:Addr)(u:HO):Prop:=H a=some u∨∃ o,H a=some (.frz o u)
theorem Rd.ok{P:Program}{w:World}{H:Hp}{h:Heap}{a:Addr}{u:HO}(r:Rd H a u)(x:HOk P w H h):JH P w H h a u:=by
 rcases r with r | ⟨o,r⟩
 ·exact x a u r
 ·obtain⟨_,q⟩:=x a _ r
  exact q
def Mut:Option HO→Prop
 | some (.lst _)=>True
 | some (.dK _)=>True
 | some (.dT _)=>True
 | some (.set _ _)=>True
 | some (.ins _ _ _)=>True
 | some (.ext _)=>True
 | _=>False
section
variable {P:Program}{w:World}{H:Hp}{h h':Heap}{x e:Addr}{o':HO}
theorem HOk.write(ok:HOk P w H h)(mu:Mut (H x))(he:e=x∨H e=some (.own x))(k:∀ b u,b≠e→h.get? b=some u→h'.get? b=some u)(heo:∃ u,h'.get? e=some u)
  (new:JH P w (upd H x o') h' x o'):HOk P w (upd H x o') h':=fun b u q=>by
 have Apd:∀ c y,H c=some (.own y)→c≠x:=fun c y r z=>by subst z;rw[r] at mu;exact mu
 have Aqu:∀ c xs,H c=some (.tup xs)→c≠x:=fun c xs r z=>by subst z;rw[r] at mu;exact mu
 by_cases hb:b=x
 ·subst hb;rw[Ae] at q;cases q;exact new
 ·rw[Bh hb] at q
  by_cases hbe:b=e
  ·have q':H b=some (.own x):=by
    rcases he with z | z
    ·exact absurd (hbe.trans z) hb
    ·rw[hbe];exact z
   rw[q] at q';cases q'
   obtain⟨v,hv⟩:=heo
   exact⟨v,by rw[hbe];exact hv⟩
  ·refine(ok b u q).stay (fun c v hc r=>k c v ?_ r) (fun c r=>by rw[Bh (Apd c b r)];exact r) fun c xs r=>by rw[Bh (Aqu c xs r)];exact r
   rcases hc with rfl | hc
   ·exact hbe
   ·rintro rfl
    rcases he with z | z
    ·exact Apd c b hc z
    ·rw[hc] at z;cases z;exact hb rfl
end
structure Un (fs ex:List Addr) (H H':Hp) (h h':Heap):Prop where
 keep:∀ b o,h.get? b=some o→H b=none→b∉fs→b∉ex→h'.get? b=some o
 slot:∀ b o,h.get? b=some o→H b=none→b∈fs→b∉ex→∃ sl,h'.get? b=some { o with slots:=sl }
 free:∀ b o,h.get? b=some o→H b=none→b∉ex→H' b=none
 there:∀ b o,h.get? b=some o→b∉ex→∃ o',h'.get? b=some o'
 tups:∀ b xs,H b=some (.tup xs)→H' b=some (.tup xs)
 Pg:∀ b o u,H b=some (.frz o u)→H' b=some (.frz o u)
 Rt:∀ b ps,H b=some (.tbl ps)→∃ more,H' b=some (.tbl (ps++more))
section
variable {fs fs' ex ex':List Addr}{H H1 H2:Hp}{h h1 h2 h':Heap}{a x e:Addr}{o:HO}
theorem Un.any(u:Un fs ex H H1 h h1){b:Addr}{ob:Obj}(q:h.get? b=some ob)(n:H b=none)(hx:b∉ex):∃ sl,h1.get? b=some { ob with slots:=sl }:=by
 by_cases hb:b∈fs
 ·exact u.slot b ob q n hb hx
 ·exact⟨ob.slots,u.keep b ob q n hb hx⟩
theorem Un.kept(k:∀ b u,h.get? b=some u→h'.get? b=some u):Un fs ex H H h h' :=
 ⟨fun b ob q _ _ _=>k b ob q,fun b ob q _ _ _=>⟨ob.slots,k b ob q⟩,fun _ _ _ n _=>n,fun b ob q _=>⟨ob,k b ob q⟩,fun _ _ q=>q,fun _ _ _ q=>q,fun _ ps q=>⟨#[],by rw[q];simp⟩⟩
theorem Un.refl:Un fs ex H H h h:=Un.kept fun _ _ q=>q
theorem Un.laid(k:∀ b u,h.get? b=some u→h'.get? b=some u)(hp:h.objs.size≤a)(hn:H a=none):Un fs ex H (upd H a o) h h' where
 keep:=fun b u q _ _ _=>k b u q
 slot:=fun b u q _ _ _=>⟨u.slots,k b u q⟩
 free:=fun b u q n _=>by rw[Bh (AsL (AsO (Heap.lt_size q) hp))];exact n
 there:=fun b u q _=>⟨u,k b u q⟩
 tups:=fun b xs q=>by rw[Bh (FN q hn)];exact q
 Pg:=fun b u xs q=>by rw[Bh (FN q hn)];exact q
 Rt:=fun b ps q=>⟨#[],by rw[Bh (FN q hn),q];simp⟩
theorem Un.write(mu:Mut (H x))(he:e=x∨H e=some (.own x))(k:∀ b u,b≠e→h.get? b=some u→h'.get? b=some u)(heo:∃ u,h'.get? e=some u):Un fs ex H (upd H x o) h h':=by
 have hx:∀ b,H b=none→b≠x:=fun b n z=>by subst z;rw[n] at mu;exact mu
 have hb:∀ b,H b=none→b≠e:=fun b n z=>by
  subst z
  rcases he with r | r
  ·exact hx b n r
  ·rw[n] at r;cases r
 have hm:∀ b u,H b=some u→¬Mut (some u)→b≠x:=fun b u q nm z=>by subst z;rw[q] at mu;exact nm mu
 refine⟨fun b u q n _ _=>k b u (hb b n) q,fun b u q n _ _=>⟨u.slots,k b u (hb b n) q⟩,fun b u q n _=>by rw[Bh (hx b n)];exact n,fun b u q _=>?_,
  fun b xs q=>by rw[Bh (hm b _ q fun z=>z)];exact q,fun b u xs q=>by rw[Bh (hm b _ q fun z=>z)];exact q,fun b ps q=>⟨#[],by rw[Bh (hm b _ q fun z=>z),q];simp⟩⟩
 by_cases hbe:b=e
 ·subst hbe;exact heo
 ·exact⟨u,k b u hbe q⟩
end
def trk (h:Heap)(H:Hp):List Addr:=(List.range h.objs.size).filter fun a=>(H a).isSome
def XH (h:Heap)(H:Hp):Heap:=PySem.W.hideAll h (trk h H)
theorem AeH(h:Heap)(H:Hp):(XH h H).objs.size=h.objs.size:=PySem.W.hideAll_size _ _
theorem Agi{h:Heap}{H:Hp}{b:Addr}{o:Obj}(e:h.get? b=some o)(n:H b=none):(XH h H).get? b=some o :=
 PySem.W.hideAll_get _ e fun hm=>by
  have q:(H b).isSome=true:=(List.mem_filter.mp hm).2
  rw[n] at q;simp at q
theorem Aie{h:Heap}{H:Hp}{b:Addr}{o:Obj}(e:(XH h H).get? b=some o):h.get? b=some o∧H b=none:=by
 have e':h.get? b=some o:=PySem.W.of_hideAll (trk h H) e
 refine⟨e',?_⟩
 cases q:H b with
 | none=>rfl
 | some x =>
  have hm:b∈trk h H:=List.mem_filter.mpr ⟨List.mem_range.mpr (Heap.lt_size e'),by simp[q]⟩
  have z:(XH h H).get? b=none:=PySem.W.hideAll_none (trk h H) hm
  rw[z] at e;cases e
def AlI (g h:Heap)(L:Addr):List (Addr × Obj):=(List.range h.objs.size).filterMap fun a=>if a=L∨(g.get? a).isSome=true then none else (h.get? a).map fun o=>(a,o)
def rest(g h:Heap)(L d:Addr):List (Addr × Obj):=(AlI g h L).filter fun p=>decide (p.1≠d)
open PySem PySem.Spec PyProof.Rows
structure Mod (K:PySem.W.Frag) (mg:Str→Option Value) (base:Heap):Prop where
 kin:K.In base
 glob:base.Ns mainGlobals mg
 blt:∃ mb,base.Ns builtinsNs mb∧∀ x:Str,x ≠ "__name__" → mb x=bootBuiltins x
 nolimit:base.NoLimit
structure Cx where
 prog:Program
 w:World
 K:PySem.W.Frag
 mg:Str→Option Value
 base:Heap
 A:Around
 N:List Str
 s₀:Shared
 H₀:Hp
 env:Env
 outer:List Env
 stack:List Env
 ex:List Addr
 fn:Str→Bool
 calm:Bool
 pn:List (Addr × Obj)
 xe:Value→Shared→Prop
def frs (l:List Env):List Addr:=l.filterMap (·.frame)
abbrev Cx.fs (X:Cx):List Addr:=frs X.outer
def Vis (sc:Scope)(x:Str):Prop:=sc.names.lookup x=some .local∨sc.names.lookup x=some .cell∨sc.names.lookup x=some .free
def Loc (sc:Scope)(x:Str):Prop:=sc.names.lookup x=some .local∨sc.names.lookup x=some .cell
def Look(env:Env)(h:Heap)(m:Str→Option Value)(x:Str)(u:Value):Prop :=
 (env.kindOf x=some .local∧m x=some u)∨((env.kindOf x=some .cell∨env.kindOf x=some .free)∧∃ c,env.cells.lookup x=some c∧h.IsCell c (some u))
structure Cx.Ok (X:Cx):Prop where
 mod:Mod X.K X.mg X.base
 kind:X.env.scope.kind=.function
 glob:X.env.globals=mainGlobals
 blt:X.env.builtins=builtinsNs
 above:X.s₀.heap.objs.size≤X.env.locals
 inj:∀ x y c,X.env.cells.lookup x=some c→X.env.cells.lookup y=some c→x=y
 has:∀ x,(X.env.kindOf x=some .cell∨X.env.kindOf x=some .free)→∃ c,X.env.cells.lookup x=some c
 cab:∀ x c,X.fn x=true→X.env.cells.lookup x=some c→X.s₀.heap.objs.size≤c
 hd:X.calm=true→X.A.handled=none
 frames:X.A.frames=some X.stack
 stk:X.stack=X.outer∨(X.stack=X.env::X.outer∧X.env.frame=some X.env.locals)
 exf:∀ b∈X.ex,b≠X.env.locals∧∀ x c,X.env.cells.lookup x=some c→c≠b
 bs:∀ b o,X.base.get? b=some o→X.s₀.heap.get? b=some o∧X.H₀ b=none
 bsz:X.base.objs.size≤X.s₀.heap.objs.size
 Ae2:∀ b o,X.base.get? b=some o→b∉X.ex
 Ae3:∀ b∈X.ex,b∉X.fs
 Yp:X.s₀.heap.FunFrames X.base X.outer
 frf:∀ b∈X.fs,X.H₀ b=none
structure Inv (X:Cx) (pins:List (Addr × Obj)) (σ:List (Option V)) (H:Hp) (s:Shared):Prop where
 ok:X.Ok
 os:s.os=X.s₀.os
 bare:AllBare s.gens
 base:Un X.fs X.ex X.H₀ H X.s₀.heap s.heap
 loc:∃ m,s.heap.Ns X.env.locals m∧∀(i:Nat) (x:Str) (v:V),X.N[i]?=some x→σ[i]?=some (some v)→Vis X.env.scope x→∃ u,RelV v u∧Look X.env s.heap m x u
 cell:∀ x c,X.env.cells.lookup x=some c→∃ v,s.heap.IsCell c v
 free:H X.env.locals=none
 Kw:∀ x c,X.env.cells.lookup x=some c→H c=none
 pin:∀ p∈X.pn++pins,s.heap.get? p.1=some p.2∧H p.1=none∧p.1≠X.env.locals∧p.1∉X.fs∧∀ v,p.2.data≠.cell v
 hok:HOk X.prog X.w H s.heap
 len:σ.length=X.N.length
section
variable {X:Cx}{pins:List (Addr × Obj)}{σ:List (Option V)}{H H':Hp}{s:Shared}{h':Heap}
theorem Cx.Ok.Aqv(ok:X.Ok){b:Addr}{o:Obj}(e:X.base.get? b=some o):b∉X.fs:=fun hb=>by
 have:=(ok.Yp.mem hb).1
 rw[e] at this;cases this
theorem Inv.bs(I:Inv X pins σ H s):∀ b o,X.base.get? b=some o→s.heap.get? b=some o∧H b=none:=fun b o e =>
 ⟨I.base.keep b o (I.ok.bs b o e).1 (I.ok.bs b o e).2 (I.ok.Aqv e) (I.ok.Ae2 b o e),I.base.free b o (I.ok.bs b o e).1 (I.ok.bs b o e).2 (I.ok.Ae2 b o e)⟩
theorem Inv.bk(I:Inv X pins σ H s):∀ b o,X.base.get? b=some o→s.heap.get? b=some o:=fun b o e=>(I.bs b o e).1
theorem Inv.mod(I:Inv X pins σ H s):Mod X.K X.mg X.base:=I.ok.mod
theorem Inv.kIn(I:Inv X pins σ H s):X.K.In s.heap:=I.ok.mod.kin.keeps I.bk
theorem Inv.nolimit(I:Inv X pins σ H s):s.heap.NoLimit:=I.ok.mod.nolimit.keeps I.bk
theorem Inv.lt(I:Inv X pins σ H s):X.env.locals<s.heap.objs.size:=let ⟨_,hn,_⟩:=I.loc;hn.lt
theorem Inv.sz(I:Inv X pins σ H s):X.s₀.heap.objs.size≤s.heap.objs.size:=AsX I.ok.above (Atx I.lt)
theorem Inv.An8(I:Inv X pins σ H s){a:Addr}(h:s.heap.objs.size≤a):a∉X.fs:=fun hb=>by
 obtain⟨_,o,ho,_⟩:=I.ok.Yp.mem hb
 exact absurd (AsO (Heap.lt_size ho) (AsX I.sz h)) (Atn _)
theorem Inv.cne(I:Inv X pins σ H s):∀ x c,X.env.cells.lookup x=some c→c≠X.env.locals:=fun x c e z=>by
 obtain⟨v,o,ho,hd⟩:=I.cell x c e
 obtain⟨m,⟨o',es,ep,ho',hd',_⟩,_⟩:=I.loc
 rw[z,ho'] at ho;cases ho;rw[hd'] at hd;cases hd
theorem Inv.Yp(I:Inv X pins σ H s):s.heap.FunFrames X.base X.outer:=by
 have all:∀(l:List Env),(∀ b∈frs l,b∈X.fs)→X.s₀.heap.FunFrames X.base l→s.heap.FunFrames X.base l:=by
  intro l
  induction l with
  | nil=>intro _ _;trivial
  | cons env r ih =>
   intro hs hl
   obtain⟨hk,⟨L,o,hf,hn,ho,hd⟩,hr⟩:=hl
   have hL:L∈X.fs:=hs L (by unfold frs;rw[AtI,hf];exact AsR)
   obtain⟨sl,e⟩:=I.base.slot L o ho (I.ok.frf L hL) hL fun z=>I.ok.Ae3 L z hL
   exact⟨hk,⟨L,_,hf,hn,e,hd⟩,ih (fun b hb=>hs b (by unfold frs;rw[AtI,hf];exact AsW _ hb)) hr⟩
 exact all X.outer (fun _ hb=>hb) I.ok.Yp
theorem Inv.stack(I:Inv X pins σ H s):s.heap.FunFrames X.base X.stack:=by
 rcases I.ok.stk with e | ⟨e,hf⟩
 ·rw[e];exact I.Yp
 ·rw[e]
  obtain⟨m,hn,_⟩:=I.loc
  refine .cons (by rw[I.ok.kind];decide) hf hn ?_ I.Yp
  exact Heap.get?_none_of_le (AsX I.ok.bsz I.ok.above)
theorem Inv.AcW(I:Inv X pins σ H s):∀ b∈frs X.stack,b∈X.env.locals::X.fs:=fun b hb=>by
 rcases I.ok.stk with e | ⟨e,hf⟩
 ·rw[e] at hb;exact AsW _ hb
 ·rw[e] at hb
  unfold frs at hb
  rw[AtI,hf] at hb
  exact hb
theorem Inv.Aab(I:Inv X pins σ H s):∀ b∈frs X.stack,H b=none:=fun b hb=>by
 rcases List.mem_cons.mp (I.AcW b hb) with e | hb
 ·rw[e];exact I.free
 ·obtain⟨_,o,ho,_⟩:=I.ok.Yp.mem hb
  exact I.base.free b o ho (I.ok.frf b hb) fun z=>I.ok.Ae3 b z hb
theorem Inv.step{g':Array GenState}{t':Nat}{d':Drawn}{ch:List Addr}(I:Inv X pins σ H s)
  (hch:∀ b∈ch,(b∈X.ex∨X.s₀.heap.objs.size≤b)∧b≠X.env.locals∧(∀ x c,X.env.cells.lookup x=some c→c≠b)∧∀ p∈X.pn++pins,p.1≠b)
  (keep:∀ b o,b≠X.env.locals→b∉X.fs→b∉ch→s.heap.get? b=some o→H b=none→h'.get? b=some o)
  (slot:∀ b o,b≠X.env.locals→b∈X.fs→b∉ch→s.heap.get? b=some o→H b=none→∃ sl,h'.get? b=some { o with slots:=sl }) (free:∀ b o,b∉ch→s.heap.get? b=some o→H b=none→H' b=none)
  (there:∀ b o,b∉ch→s.heap.get? b=some o→∃ o',h'.get? b=some o')
  (tups:∀ b xs,H b=some (.tup xs)→H' b=some (.tup xs)) (Pg:∀ b o u,H b=some (.frz o u)→H' b=some (.frz o u)) (Rt:∀ b ps,H b=some (.tbl ps)→∃ more,H' b=some (.tbl (ps++more)))
  (ns:∀ m,s.heap.Ns X.env.locals m→h'.Ns X.env.locals m) (hok:HOk X.prog X.w H' h') (hg:AllBare g') :
  Inv X pins σ H' { s with heap:=h',gens:=g',drawn:=d',toks:=t' }:=by
 have neL:∀ b o,X.s₀.heap.get? b=some o→b≠X.env.locals:=fun b o e=>AsL (AsO (Heap.lt_size e) I.ok.above)
 have neC:∀ b o,X.s₀.heap.get? b=some o→b∉X.ex→b∉ch:=fun b o e hx hb=>by
  rcases(hch b hb).1 with z | z
  ·exact hx z
  ·exact absurd (AsO (Heap.lt_size e) z) (Atn _)
 have cellK:∀ x c,X.env.cells.lookup x=some c→∀ v,s.heap.IsCell c v→h'.IsCell c v:=fun x c e v ⟨o,ho,hd⟩=>by
  have nch:c∉ch:=fun z=>(hch c z).2.2.1 x c e rfl
  by_cases hc:c∈X.fs
  ·obtain⟨sl,q⟩:=slot c o (I.cne x c e) hc nch ho (I.Kw x c e)
   exact⟨_,q,hd⟩
  ·exact⟨o,keep c o (I.cne x c e) hc nch ho (I.Kw x c e),hd⟩
 refine⟨I.ok,I.os,hg,⟨fun b o e n hb hx=>?_,fun b o e n hb hx=>?_,fun b o e n hx=>?_,fun b o e hx=>?_,fun b xs e=>tups b xs (I.base.tups b xs e),fun b o xs e=>Pg b o xs (I.base.Pg b o xs e),fun b ps e=>?_⟩,?_,fun x c e=>?_,?_,fun x c e=>?_,fun p hp=>?_,hok,I.len⟩
 ·exact keep b o (neL b o e) hb (neC b o e hx) (I.base.keep b o e n hb hx) (I.base.free b o e n hx)
 ·obtain⟨sl,e1⟩:=I.base.slot b o e n hb hx
  obtain⟨sl',e2⟩:=slot b _ (neL b o e) hb (neC b o e hx) e1 (I.base.free b o e n hx)
  exact⟨sl',e2⟩
 ·obtain⟨o',e1⟩:=I.base.there b o e hx
  exact free b o' (neC b o e hx) e1 (I.base.free b o e n hx)
 ·obtain⟨o',e1⟩:=I.base.there b o e hx
  exact there b o' (neC b o e hx) e1
 ·obtain⟨m1,e1⟩:=I.base.Rt b ps e
  obtain⟨m2,e2⟩:=Rt b _ e1
  exact⟨m1++m2,by rw[e2,Array.append_assoc]⟩
 ·obtain⟨m,hn,hl⟩:=I.loc
  refine⟨m,ns m hn,fun i x v e1 e2 e3=>?_⟩
  obtain⟨u,r,l⟩:=hl i x v e1 e2 e3
  refine⟨u,r,?_⟩
  rcases l with l | ⟨k,c,e,z⟩
  ·exact .inl l
  ·exact .inr ⟨k,c,e,cellK x c e _ z⟩
 ·obtain⟨v,z⟩:=I.cell x c e
  exact⟨v,cellK x c e v z⟩
 ·obtain⟨m,⟨o,_,_,ho,_⟩,_⟩:=I.loc
  exact free _ o (fun z=>(hch _ z).2.1 rfl) ho I.free
 ·obtain⟨v,o,ho,hd⟩:=I.cell x c e
  exact free c o (fun z=>(hch c z).2.2.1 x c e rfl) ho (I.Kw x c e)
 ·obtain⟨e,n,ne,nf,d⟩:=I.pin p hp
  have nch:p.1∉ch:=fun z=>(hch p.1 z).2.2.2 p hp rfl
  exact⟨keep p.1 p.2 ne nf nch e n,free p.1 p.2 nch e n,ne,nf,d⟩
theorem Inv.un{t':Nat}(I:Inv X pins σ H s)(u:Un X.fs [] H H' s.heap h')(hok:HOk X.prog X.w H' h'):Inv X pins σ H' { s with heap:=h',toks:=t' }:=by
 obtain⟨m,⟨o,es,ep,ho,r⟩,_⟩:=id I.loc
 obtain⟨sl,hL⟩:=u.any ho I.free (by simp)
 exact I.step (g':=s.gens) (d':=s.drawn) (ch:=[]) (fun _ z=>nomatch z) (fun b o _ hb _ e n=>u.keep b o e n hb (by simp)) (fun b o _ hb _ e n=>u.slot b o e n hb (by simp)) (fun b o _ e n=>u.free b o e n (by simp)) (fun b o _ e=>u.there b o e (by simp)) u.tups u.Pg u.Rt (fun m' hm=>by
  obtain⟨o',es',ep',ho',r'⟩:=hm
  rw[ho] at ho';cases ho'
  exact⟨_,es',ep',hL,r'⟩) hok I.bare
theorem Inv.call{g':Array GenState}{t':Nat}{d':Drawn}{ch:List Addr}(I:Inv X pins σ H s)(u:Un (frs X.stack) ch H H' s.heap h')(hok:HOk X.prog X.w H' h')(hg:AllBare g')
  (hch:∀ b∈ch,(b∈X.ex∨X.s₀.heap.objs.size≤b)∧b≠X.env.locals∧(∀ x c,X.env.cells.lookup x=some c→c≠b)∧∀ p∈X.pn++pins,p.1≠b) :
  Inv X pins σ H' { s with heap:=h',gens:=g',drawn:=d',toks:=t' }:=by
 obtain⟨m,⟨o,es,ep,ho,r⟩,_⟩:=id I.loc
 obtain⟨sl,hL⟩:=u.any ho I.free fun z=>(hch _ z).2.1 rfl
 exact I.step (ch:=ch) hch (fun b o hL hb hc e n=>u.keep b o e n (fun z=>(List.mem_cons.mp (I.AcW b z)).elim hL hb) hc) (fun b o _ _ hc e n=>u.any e n hc) (fun b o hc e n=>u.free b o e n hc) (fun b o hc e=>u.there b o e hc) u.tups u.Pg u.Rt (fun m' hm=>by
  obtain⟨o',es',ep',ho',r'⟩:=hm
  rw[ho] at ho';cases ho'
  exact⟨_,es',ep',hL,r'⟩) hok hg
theorem Inv.turned{t':Nat}{it:Addr}(I:Inv X pins σ H s)(k:∀ b o,b≠it→s.heap.get? b=some o→h'.get? b=some o)(hn:H it=none)(hL:it≠X.env.locals)
  (h1:it∈X.ex∨X.s₀.heap.objs.size≤it) (h2:∀ x c,X.env.cells.lookup x=some c→c≠it) (h3:∀ p∈X.pn++pins,p.1≠it):Inv X pins σ H { s with heap:=h',toks:=t' }:=by
 have nit:∀ b u,H b=some u→b≠it:=fun b u e z=>by rw[z,hn] at e;cases e
 refine I.step (g':=s.gens) (d':=s.drawn) (ch:=[it]) (fun b hb=>?_) (fun b o _ _ hc e _=>k b o (fun z=>hc (by simp[z])) e) (fun b o _ _ hc e _=>⟨o.slots,k b o (fun z=>hc (by simp[z])) e⟩) (fun _ _ _ _ n=>n)
  (fun b o hc e=>⟨o,k b o (fun z=>hc (by simp[z])) e⟩) (fun _ _ e=>e) (fun _ _ _ e=>e) (fun b ps e=>⟨#[],by rw[e];simp⟩) (fun m hm=>?_) (fun b u e=>?_) I.bare
 ·have e:b=it:=by simpa using hb
  subst e
  exact⟨h1,hL,h2,h3⟩
 ·obtain⟨o,es,ep,ho,r⟩:=hm
  exact⟨o,es,ep,k _ o (Ne.symm hL) ho,r⟩
 ·refine(I.hok b u e).stay (fun c v hc q=>k c v ?_ q) (fun _ q=>q) fun _ _ q=>q
  rcases hc with z | z
  ·rw[z];exact nit b u e
  ·exact nit c _ z
theorem Inv.tok(I:Inv X pins σ H s)(t:Nat):Inv X pins σ H { s with toks:=t }:=I.un (h':=s.heap) (t':=t) Un.refl I.hok
theorem Inv.kept{t':Nat}(I:Inv X pins σ H s)(k:∀ b u,s.heap.get? b=some u→h'.get? b=some u):Inv X pins σ H { s with heap:=h',toks:=t' }:=I.un (Un.kept k) (I.hok.kept k)
theorem Inv.laid{a:Addr}{o:HO}{t':Nat}(I:Inv X pins σ H s)(k:∀ b u,s.heap.get? b=some u→h'.get? b=some u)(hp:s.heap.objs.size≤a)(new:JH X.prog X.w (upd H a o) h' a o) :
  Inv X pins σ (upd H a o) { s with heap:=h',toks:=t' }:=I.un (Un.laid k hp (I.hok.fresh hp)) (I.hok.laid k hp new)
theorem Inv.write{x e:Addr}{o:HO}{t':Nat}(I:Inv X pins σ H s)(mu:Mut (H x))(he:e=x∨H e=some (.own x))(k:∀ b u,b≠e→s.heap.get? b=some u→h'.get? b=some u)(heo:∃ u,h'.get? e=some u)
  (new:JH X.prog X.w (upd H x o) h' x o):Inv X pins σ (upd H x o) { s with heap:=h',toks:=t' }:=I.un (Un.write mu he k heo) (I.hok.write mu he k heo new)
theorem Inv.Ju{Ana:List (Addr × Obj)}(I:Inv X pins σ H s)(h:∀ p∈Ana,s.heap.get? p.1=some p.2∧H p.1=none∧p.1≠X.env.locals∧p.1∉X.fs∧∀ v,p.2.data≠.cell v):Inv X Ana σ H s :=
 ⟨I.ok,I.os,I.bare,I.base,I.loc,I.cell,I.free,I.Kw,fun p hp=>(List.mem_append.mp hp).elim (fun z=>I.pin p (AtD _ z)) (h p),I.hok,I.len⟩
theorem AcX{N:List Str}(hN:N.Nodup){i j:Nat}{x:Str}(a:N[i]?=some x)(b:N[j]?=some x):i=j:=by
 obtain⟨h1,e1⟩:=List.getElem?_eq_some_iff.mp a
 obtain⟨h2,e2⟩:=List.getElem?_eq_some_iff.mp b
 exact(List.getElem_inj hN).mp (e1.trans e2.symm)
theorem AeI{M:Model}{A:Around}{E:Value→Shared→Prop}{i:Nat}{x:Str}{v:V}{u:Value}{Q:Unit→Shared→Prop}(I:Inv X pins σ H s)(hN:X.N.Nodup)(hi:X.N[i]?=some x)(hx:Loc X.env.scope x)(r:RelV v u)
  (h:∀ s',Inv X pins (σ.set i (some v)) H s'→(∃ a,Heap.SameBut a s.heap s'.heap∧(a=X.env.locals∨X.env.cells.lookup x=some a))→Q () s') (hf:X.fn x=true∨X.env.scope.names.lookup x=some .local:=by first | exact .inl rfl | exact .inr rfl | assumption):wpAny M A (storeName X.env x u) Q E s:=by
 obtain⟨m,hn,hl⟩:=id I.loc
 have hcls:(X.env.scope.kind == .class || (X.env.scope.kind == .module && X.env.locals != X.env.globals))=false:=by rw[I.ok.kind];rfl
 have hiσ:i<σ.length:=by rw[I.len];exact(List.getElem?_eq_some_iff.mp hi).1
 have cne:=I.cne
 have tracked:∀{a:Addr} {h':Heap},(∃ o,s.heap.get? a=some o∧H a=none)→Heap.SameBut a s.heap h'→HOk X.prog X.w H h':=fun {a h'} ha hs b ob e=>by
  obtain⟨_,_,hfree⟩:=ha
  refine(I.hok b ob e).stay (fun c w' hc q=>(hs.2 c ?_).trans q) (fun _ q=>q) fun _ _ q=>q
  rintro rfl
  rcases hc with rfl | hc
  ·rw[hfree] at e;cases e
  ·rw[hfree] at hc;cases hc
 rcases hx with hk | hk
 ·refine wpAny_storeName_local hk hn (fun h' hn' hs=>?_) hcls
  obtain⟨oL,_,_,hoL,_⟩:=id hn
  refine h _ ⟨I.ok,I.os,I.bare,⟨fun b o e n hb hx=>?_,fun b o e n hb hx=>?_,I.base.free,fun b o e hx=>?_,I.base.tups,I.base.Pg,I.base.Rt⟩,⟨_,hn',fun j y v' e1 e2 e3=>?_⟩,fun y c e=>?_,I.free,I.Kw,fun p hp=>?_,tracked ⟨oL,hoL,I.free⟩ hs,by simpa using I.len⟩ ⟨_,hs,.inl rfl⟩
  ·exact(hs.2 b (AsL (AsO (Heap.lt_size e) I.ok.above))).trans (I.base.keep b o e n hb hx)
  ·obtain⟨sl,e1⟩:=I.base.slot b o e n hb hx
   exact⟨sl,(hs.2 b (AsL (AsO (Heap.lt_size e) I.ok.above))).trans e1⟩
  ·obtain⟨o',e1⟩:=I.base.there b o e hx
   exact⟨o',(hs.2 b (AsL (AsO (Heap.lt_size e) I.ok.above))).trans e1⟩
  ·by_cases hj:j=i
   ·subst hj
    rw[hi] at e1;cases e1
    rw[Aut hiσ] at e2
    cases e2
    exact⟨u,r,.inl ⟨hk,by simp⟩⟩
   ·rw[AtU (Ne.symm hj)] at e2
    obtain⟨u',r',q⟩:=hl j y v' e1 e2 e3
    refine⟨u',r',?_⟩
    rcases q with ⟨k,e⟩ | ⟨k,c,e,z⟩
    ·refine .inl ⟨k,?_⟩
     have:y≠x:=fun e=>hj (AcX hN e1 (e▸hi))
     simp[this,e]
    ·exact .inr ⟨k,c,e,z.sameBut hs (cne y c e)⟩
  ·obtain⟨w',z⟩:=I.cell y c e
   exact⟨w',z.sameBut hs (cne y c e)⟩
  ·obtain⟨e,n,ne,nf,d⟩:=I.pin p hp
   exact⟨(hs.2 p.1 ne).trans e,n,ne,nf,d⟩
 ·have hfn:X.fn x=true:=by
   rcases hf with z | z
   ·exact z
   ·rw[z] at hk;cases hk
  obtain⟨c,hc⟩:=I.ok.has x (.inl hk)
  obtain⟨w',z⟩:=I.cell x c hc
  refine wpAny_storeName_cell I.ok.kind hk hc z (fun h' hc' hs=>?_)
  obtain⟨oc,hoc,Aqw⟩:=id z
  refine h { s with heap:=h' } ⟨I.ok,I.os,I.bare,⟨fun b o e n hb hx=>?_,fun b o e n hb hx=>?_,I.base.free,fun b o e hx=>?_,I.base.tups,I.base.Pg,I.base.Rt⟩,⟨m,hn.sameBut hs (Ne.symm (cne x c hc)),fun j y v' e1 e2 e3=>?_⟩,fun y c' e=>?_,I.free,I.Kw,fun p hp=>?_,tracked ⟨oc,hoc,I.Kw x c hc⟩ hs,by simpa using I.len⟩ ⟨c,hs,.inr hc⟩
  ·exact(hs.2 b (AsL (AsO (Heap.lt_size e) (I.ok.cab x c hfn hc)))).trans (I.base.keep b o e n hb hx)
  ·obtain⟨sl,e1⟩:=I.base.slot b o e n hb hx
   exact⟨sl,(hs.2 b (AsL (AsO (Heap.lt_size e) (I.ok.cab x c hfn hc)))).trans e1⟩
  ·obtain⟨o',e1⟩:=I.base.there b o e hx
   exact⟨o',(hs.2 b (AsL (AsO (Heap.lt_size e) (I.ok.cab x c hfn hc)))).trans e1⟩
  ·by_cases hj:j=i
   ·subst hj
    rw[hi] at e1;cases e1
    rw[Aut hiσ] at e2
    cases e2
    exact⟨u,r,.inr ⟨.inl hk,c,hc,hc'⟩⟩
   ·rw[AtU (Ne.symm hj)] at e2
    obtain⟨u',r',q⟩:=hl j y v' e1 e2 e3
    refine⟨u',r',?_⟩
    rcases q with q | ⟨k,c',e,z'⟩
    ·exact .inl q
    ·refine .inr ⟨k,c',e,z'.sameBut hs ?_⟩
     rintro rfl
     exact hj (AcX hN e1 (I.ok.inj _ _ _ e hc▸hi))
  ·by_cases hcc:c'=c
   ·subst hcc;exact⟨_,hc'⟩
   ·obtain⟨w2,z2⟩:=I.cell y c' e
    exact⟨w2,z2.sameBut hs hcc⟩
  ·obtain⟨e,n,ne,nf,d⟩:=I.pin p hp
   refine⟨(hs.2 p.1 ?_).trans e,n,ne,nf,d⟩
   intro q
   rw[q,hoc] at e
   have q':oc=p.2:=Option.some.inj e
   exact d w' (by rw[← q'];exact Aqw)
theorem AcY{M:Model}{A:Around}{E:Value→Shared→Prop}{i:Nat}{x:Str}{v:V}{u:Value}{Q:Unit→Shared→Prop}(I:Inv X pins σ H s)(hN:X.N.Nodup)(hi:X.N[i]?=some x)(hx:Loc X.env.scope x)(r:RelV v u)
  (h:∀ s',Inv X pins (σ.set i (some v)) H s'→Q () s') (hf:X.fn x=true∨X.env.scope.names.lookup x=some .local:=by first | exact .inl rfl | exact .inr rfl | assumption):wpAny M A (storeName X.env x u) Q E s :=
 AeI I hN hi hx r (fun s' I' _=>h s' I') hf
theorem Inv.call'{s':Shared}{ch:List Addr}(I:Inv X pins σ H s)(ho:s'.os=s.os)(u:Un (frs X.stack) ch H H' s.heap s'.heap)(hok:HOk X.prog X.w H' s'.heap)(hg:AllBare s'.gens)
  (hch:∀ b∈ch,(b∈X.ex∨X.s₀.heap.objs.size≤b)∧b≠X.env.locals∧(∀ x c,X.env.cells.lookup x=some c→c≠b)∧∀ p∈X.pn++pins,p.1≠b):Inv X pins σ H' s':=by
 obtain⟨h',g',d',t',o'⟩:=s'
 have e:o'=s.os:=ho
 subst e
 exact I.call (g':=g') (t':=t') (d':=d') u hok hg hch
end
abbrev XK:=Value→Option Addr→Hp→Prop
abbrev St:=List (Option V)
abbrev VK:=V→Hp→Prop
abbrev TE:=St→Hp→VK→Prop
abbrev TT:=St→Hp→(Bool→Hp→Prop)→Prop
abbrev TA:=St→Hp→(List V→Hp→Prop)→Prop
structure Ends where
 nx:St→Hp→Prop
 rt:VK
 bk:St→Hp→Prop:=fun _ _=>False
 ct:St→Hp→Prop:=fun _ _=>False
abbrev TS:=Ends→St→Hp→Prop
def EP (X:Cx)(pins:List (Addr × Obj))(σ:St)(Q:VK)(u:Value)(s':Shared):Prop:=∃ v H',Inv X pins σ H' s'∧RelV v u∧Q v H'
def TP (X:Cx)(pins:List (Addr × Obj))(σ:St)(Q:Bool→Hp→Prop)(b:Bool)(s':Shared):Prop:=∃ H',Inv X pins σ H' s'∧Q b H'
def AP (X:Cx)(pins:List (Addr × Obj))(σ:St)(Q:List V→Hp→Prop)(us:List Value)(s':Shared):Prop:=∃ vs H',Inv X pins σ H' s'∧Vals vs us∧Q vs H'
def SP (X:Cx)(pins:List (Addr × Obj))(D:Ends)(f:Flow)(s':Shared):Prop :=
 match f with
 | .next=>∃ σ' H',Inv X pins σ' H' s'∧D.nx σ' H'
 | .brk=>∃ σ' H',Inv X pins σ' H' s'∧D.bk σ' H'
 | .cont=>∃ σ' H',Inv X pins σ' H' s'∧D.ct σ' H'
 | .ret u=>∃ v σ' H',Inv X pins σ' H' s'∧RelV v u∧D.rt v H'
def PE (X:Cx)(e:Expr)(t:TE):Prop :=
 ∀(pins:List (Addr × Obj)) (s:Shared) (σ:St) (H:Hp) (Q:VK),Inv X pins σ H s→t σ H Q→wpAny (model X.prog X.w) X.A (eval e X.env) (EP X pins σ Q) X.xe s
def PT (X:Cx)(e:Expr)(t:TT):Prop :=
 ∀(pins:List (Addr × Obj)) (s:Shared) (σ:St) (H:Hp) (Q:Bool→Hp→Prop),Inv X pins σ H s→t σ H Q→wpAny (model X.prog X.w) X.A (isTrue e X.env (eval e X.env)) (TP X pins σ Q) X.xe s
def PW (X:Cx)(e:Expr)(t:TT):Prop :=
 ∀(whole:Sem Value) (pins:List (Addr × Obj)) (s:Shared) (σ:St) (H:Hp) (Q:Bool→Hp→Prop),Inv X pins σ H s→t σ H Q→wpAny (model X.prog X.w) X.A (isTrue e X.env whole) (TP X pins σ Q) X.xe s
theorem PW.pt{X:Cx}{e:Expr}{t:TT}(h:PW X e t):PT X e t:=h _
def PA (X:Cx)(es:List Expr)(t:TA):Prop :=
 ∀(pos:Pos) (pins:List (Addr × Obj)) (s:Shared) (σ:St) (H:Hp) (Q:List V→Hp→Prop),Inv X pins σ H s→t σ H Q→wpAny (model X.prog X.w) X.A (spliced (backTo pos (starEach es X.env))) (AP X pins σ Q) X.xe s
def PS (X:Cx)(st:Stmt)(t:TS):Prop :=
 ∀(pins:List (Addr × Obj)) (s:Shared) (σ:St) (H:Hp) (D:Ends),Inv X pins σ H s→t D σ H→wpAny (model X.prog X.w) X.A (exec st X.env) (SP X pins D) X.xe s
def PSs (X:Cx)(st:List Stmt)(t:TS):Prop :=
 ∀(pins:List (Addr × Obj)) (s:Shared) (σ:St) (H:Hp) (D:Ends),Inv X pins σ H s→t D σ H→wpAny (model X.prog X.w) X.A (execs st X.env) (SP X pins D) X.xe s
theorem thn{α:Type}{t:Sem α}{Q Q':α→Shared→Prop}{M:Model}{A:Around}{E:Value→Shared→Prop}{s:Shared}(h:wpAny M A t Q E s)(hQ:∀ a s,Q a s→Q' a s):wpAny M A t Q' E s:=wpAny_mono h hQ fun _ _ x=>x
open PySem PySem.Spec PyProof.Rows
section
variable {X:Cx}
def Ape (i:Nat):TE:=fun σ H Q=>∃ v,σ[i]?=some (some v)∧Q v H
def tC (v:V):TE:=fun _ H Q=>Q v H
theorem Ahv{i:Nat}{x:Str}{pos:Pos}(hN:X.N[i]?=some x)(hv:Vis X.env.scope x)(hd:(x == ("__debug__" : Str))=false:=by decide) (hcd:(x == ("__classdict__" : Str))=false:=by decide):PE X (.Name x pos) (Ape i):=by
 intro pins s σ H Q I h
 obtain⟨v,e,h⟩:=h
 obtain⟨m,hn,hl⟩:=I.loc
 obtain⟨u,r,l⟩:=hl i x v hN e hv
 have fin:EP X pins σ Q u s:=⟨v,H,I,r,h⟩
 rcases l with ⟨hk,hm⟩ | ⟨hk,c,hc,hcell⟩
 ·exact wpAny_Name (wpAny_loadName_local I.ok.kind hk hn hm fin) hd
 ·rcases hk with hk | hk
  ·exact wpAny_Name (wpAny_loadName_cell I.ok.kind hk hc hcell fin) hd
  ·exact wpAny_Name (wpAny_loadName_free I.ok.kind hk hc hcell fin hcd) hd
theorem Ag{i j pos}:PE X (.Constant (.int i) j pos) (tC (.int i)):=fun _ _ _ H _ I h=>wpAny_Constant_int ⟨.int i,H,I.tok _,⟨_,rfl⟩,h⟩
theorem Aif{b j pos}:PE X (.Constant (.bool b) j pos) (tC (.bl b)):=fun _ _ _ H _ I h=>Constant_bool ⟨.bl b,H,I,rfl,h⟩
theorem Abq{j pos}:PE X (.Constant .none j pos) (tC .non):=fun _ _ _ H _ I h=>Constant_none ⟨.non,H,I,rfl,h⟩
theorem Bx{x j pos}:PE X (.Constant (.str x) j pos) (tC (.str x)):=fun _ _ _ H _ I h=>Calls.Constant_str ⟨.str x,H,I.tok _,⟨_,rfl⟩,h⟩
def Gl (X:Cx)(x:Str):Prop:=X.env.kindOf x=some .globalImplicit
theorem Aac{E:Value→Shared→Prop}{pins:List (Addr × Obj)}{s:Shared}{σ:St}{H:Hp}{x:Str}{u:Value}{pos:Pos}{Q:Value→Shared→Prop}(I:Inv X pins σ H s)(hg:Gl X x)(hm:X.mg x=some u)(h:Q u s)
  (hd:(x == ("__debug__" : Str))=false:=by decide):wpAny (model X.prog X.w) X.A (eval (.Name x pos) X.env) Q E s :=
 Calls.Name_function_global I.ok.kind hg (Calls.loadGlobal_global (by rw[I.ok.glob];exact I.mod.glob.keeps I.bk) hm h) hd
theorem K1{E:Value→Shared→Prop}{pins:List (Addr × Obj)}{s:Shared}{σ:St}{H:Hp}{x:Str}{u:Value}{pos:Pos}{Q:Value→Shared→Prop}(I:Inv X pins σ H s)(hg:Gl X x)(hm:X.mg x=none)(hv:bootBuiltins x=some u)(h:Q u s)
  (hn:x ≠ "__name__" := by decide) (hd:(x == ("__debug__" : Str))=false:=by decide):wpAny (model X.prog X.w) X.A (eval (.Name x pos) X.env) Q E s:=by
 obtain⟨mb,h1,h2⟩:=I.mod.blt
 exact Calls.Name_function_global I.ok.kind hg (Calls.loadGlobal_builtin (by rw[I.ok.glob];exact I.mod.glob.keeps I.bk) hm (by rw[I.ok.blt];exact h1.keeps I.bk) ((h2 x hn).trans hv) h) hd
theorem Bj{x:Str}{v:V}{u:Value}{pos:Pos}(hg:Gl X x)(hm:X.mg x=some u)(r:RelV v u)(hd:(x == ("__debug__" : Str))=false:=by decide):PE X (.Name x pos) (tC v) :=
 fun _ _ _ H _ I h=>Aac I hg hm ⟨v,H,I,r,h⟩ hd
theorem Afd{x:Str}{v:V}{u:Value}{pos:Pos}(hg:Gl X x)(hm:X.mg x=none)(hv:bootBuiltins x=some u)(r:RelV v u)(hn:x ≠ "__name__" := by decide) (hd:(x == ("__debug__" : Str))=false:=by decide):PE X (.Name x pos) (tC v) :=
 fun _ _ _ H _ I h=>K1 I hg hm hv ⟨v,H,I,r,h⟩ hn hd
def t2I (ta tb:TE)(k:Int→Int→Hp→Prop):St→Hp→Prop:=fun σ H=>ta σ H fun x H1=>tb σ H1 fun y H2=>∃ i j,x=.int i∧y=.int j∧k i j H2
def ArT (ta tb:TE):TE:=fun σ H Q=>t2I ta tb (fun i j H2=>Q (.int (i+j)) H2) σ H
def ArU (ta tb:TE):TE:=fun σ H Q=>t2I ta tb (fun i j H2=>Q (.int (i-j)) H2) σ H
def ArV (ta tb:TE):TE:=fun σ H Q=>t2I ta tb (fun i j H2=>(-(2 ^ 64)<i∧i<2 ^ 64)∧Q (.int (i*j)) H2) σ H
variable {a b:Expr}{ta tb:TE}{pos:Pos}
def PC (X:Cx)(op:CmpOp)(a b:Expr)(t:TE):Prop :=
 ∀(pins:List (Addr × Obj)) (s:Shared) (σ:St) (H:Hp) (Q:VK),Inv X pins σ H s→t σ H Q →
  wpAny (model X.prog X.w) X.A (eval a X.env) (fun v s₁=>wpAny (model X.prog X.w) X.A (eval b X.env) (fun u s₂=>wpAny (model X.prog X.w) X.A (compareOp op v u) (EP X pins σ Q) X.xe s₂) X.xe s₁) X.xe s
def AiV (p:Int→Int→Bool)(ta tb:TE):TE:=fun σ H Q=>t2I ta tb (fun i j H2=>Q (.bl (p i j)) H2) σ H
abbrev tLt:TE→TE→TE:=AiV fun i j=>decide (i<j)
abbrev tLe:TE→TE→TE:=AiV fun i j=>decide (i≤j)
abbrev tGt:TE→TE→TE:=AiV fun i j=>decide (j<i)
abbrev tGe:TE→TE→TE:=AiV fun i j=>decide (j≤i)
abbrev ArW:TE→TE→TE:=AiV fun i j=>decide (i=j)
abbrev ArX:TE→TE→TE:=AiV fun i j=>!decide (i=j)
def ArY (ta:TE):TE:=fun σ H Q=>ta σ H fun x H1=>Q (.bl (decide (x=.non))) H1
def Ar4 (ta:TE):TE:=fun σ H Q=>ta σ H fun x H1=>Q (.bl (!decide (x=.non))) H1
def tB (t:TE):TT:=fun σ H Q=>t σ H fun x H1=>∃ c,x=.bl c∧Q c H1
theorem Hg{e:Expr}{t:TE}(h:PE X e t)(he:∀ whole,isTrue e X.env whole=(do let v ← whole;standAt e.pos;holding [v] (truthy v)):=by intro _;rfl):PT X e (tB t):=by
 intro pins s σ H Q I hw
 refine isTrue_plain (thn (h pins s σ H _ I hw) fun v s1 ⟨x,H1,I1,r1,q1⟩=>?_) (he _)
 obtain⟨d,rfl,q⟩:=q1
 cases r1
 exact wpAny_truthy_bool ⟨H1,I1,q⟩
variable {tA tB':TT}{rest:List Expr}
def Aqx (t u:TT):TT:=fun σ H Q=>t σ H fun c H1=>if c=true then u σ H1 Q else Q false H1
def tOr (t u:TT):TT:=fun σ H Q=>t σ H fun c H1=>if c=true then Q true H1 else u σ H1 Q
def Aqy (t:TT):TT:=fun σ H Q=>t σ H fun c H1=>Q (!c) H1
theorem pw_and1(ha:PT X a tA):PW X (.BoolOp .And [a] pos) tA:=by
 intro wh pins s σ H Q I h
 refine isTrue_and (thn (ha pins s σ H Q I h) fun c s1 e=>?_)
 cases c with
 | true=>exact isTrue_and_nil e
 | false=>exact e
theorem pw_or1(ha:PT X a tA):PW X (.BoolOp .Or [a] pos) tA:=by
 intro wh pins s σ H Q I h
 refine isTrue_or (thn (ha pins s σ H Q I h) fun c s1 e=>?_)
 cases c with
 | false=>exact isTrue_or_nil e
 | true=>exact e
theorem pw_and(ha:PT X a tA)(hb:PW X (.BoolOp .And (b::rest) pos) tB'):PW X (.BoolOp .And (a::b::rest) pos) (Aqx tA tB'):=by
 intro wh pins s σ H Q I h
 refine isTrue_and (thn (ha pins s σ H _ I h) fun c s1 ⟨H1,I1,q1⟩=>?_)
 cases c with
 | true=>exact hb wh pins s1 σ H1 Q I1 q1
 | false=>exact⟨H1,I1,q1⟩
theorem pw_or(ha:PT X a tA)(hb:PW X (.BoolOp .Or (b::rest) pos) tB'):PW X (.BoolOp .Or (a::b::rest) pos) (tOr tA tB'):=by
 intro wh pins s σ H Q I h
 refine isTrue_or (thn (ha pins s σ H _ I h) fun c s1 ⟨H1,I1,q1⟩=>?_)
 cases c with
 | true=>exact⟨H1,I1,q1⟩
 | false=>exact hb wh pins s1 σ H1 Q I1 q1
theorem RL(ha:PT X a tA):PT X (.UnaryOp .Not a pos) (Aqy tA):=by
 intro pins s σ H Q I h
 exact isTrue_not (ha pins s σ H (fun c H1=>Q (!c) H1) I h)
def Ar5 (ta tb:TE):TE:=fun σ H Q=>ta σ H fun x H1=>∃ c,x=.bl c∧if c=true then tb σ H1 Q else Q (.bl false) H1
def ArZ (ta tb:TE):TE:=fun σ H Q=>ta σ H fun x H1=>∃ c,x=.bl c∧if c=true then Q (.bl true) H1 else tb σ H1 Q
def Ar6 (ta:TE):TE:=fun σ H Q=>ta σ H fun x H1=>∃ c,x=.bl c∧Q (.bl (!c)) H1
def tIf (t:TT)(ta tb:TE):TE:=fun σ H Q=>t σ H fun c H1=>if c=true then ta σ H1 Q else tb σ H1 Q
theorem Agj{c:Expr}(hc:PT X c tA)(ha:PE X a ta)(hb:PE X b tb):PE X (.IfExp c a b pos) (tIf tA ta tb):=by
 intro pins s σ H Q I h
 refine wpAny_IfExp (thn (hc pins s σ H _ I h) fun d s1 ⟨H1,I1,q1⟩=>?_)
 cases d with
 | true=>exact ha pins s1 σ H1 Q I1 q1
 | false=>exact hb pins s1 σ H1 Q I1 q1
end
open PySem PySem.Spec PyProof.Rows
def SqL (K:PySem.W.Frag)(H:Hp)(a:Addr)(xs:List V):Prop :=
 Rd H a (.lst xs) ∨
  ∃(o:Obj) (its:Array Value) (n:Nat),K.lookup a=some o∧o.cls=.type "list" ∧ o.dict=none∧o.data=.seq its n∧its.size≤sizeLine∧Vals xs its.toList
def SqT (K:PySem.W.Frag)(H:Hp)(a:Addr)(xs:List V):Prop :=
 Rd H a (.tup xs) ∨
  ∃(o:Obj) (its:Array Value) (n:Nat),K.lookup a=some o∧o.cls=.type "tuple" ∧ o.data=.seq its n∧its.size≤sizeLine∧Vals xs its.toList
def Aqz:Value→Option V
 | .none=>some .non
 | .bool b=>some (.bl b)
 | .int i _=>some (.int i)
 | .str x _=>some (.str x)
 | .bytes b _=>some (.byt b)
 | .float b _=>some (.flt b)
 | .ref a=>some (.ref a)
 | .type n=>some (.ty n)
 | _=>none
theorem RelV.abs{x:V}{u:Value}(r:RelV x u):Aqz u=some x:=by
 cases x with
 | non=>cases r;rfl
 | bl _=>cases r;rfl
 | int _=>obtain⟨t,rfl⟩:=r;rfl
 | str _=>obtain⟨t,rfl⟩:=r;rfl
 | byt _=>obtain⟨t,rfl⟩:=r;rfl
 | flt _=>obtain⟨t,rfl⟩:=r;rfl
 | ref _=>cases r;rfl
 | ty _=>cases r;rfl
theorem RelV.inj{x y:V}{u:Value}(r:RelV x u)(q:RelV y u):x=y:=Option.some.inj (r.abs.symm.trans q.abs)
theorem Vals.inj:∀{xs ys:List V} {us:List Value},Vals xs us→Vals ys us→xs=ys
 | _,_,_,.nil,.nil=>rfl
 | _,_,_,.cons r t,.cons r' t'=>by rw[r.inj r',Vals.inj t t']
section
variable {X:Cx}{pins:List (Addr × Obj)}{σ:St}{H:Hp}{s:Shared}{a:Addr}{xs ys:List V}
theorem SqL.of{K:PySem.W.Frag}(h:H a=some (.lst xs)):SqL K H a xs:=.inl (.inl h)
theorem SqT.of{K:PySem.W.Frag}(h:H a=some (.tup xs)):SqT K H a xs:=.inl (.inl h)
theorem Inv.list(I:Inv X pins σ H s)(h:SqL X.K H a xs):∃ its:List Value,Vals xs its∧PlainL s.heap a its.toArray∧xs.length≤sizeLine:=by
 rcases h with h | ⟨o,its,n,hk,hc,hd,hs,hz,r⟩
 ·obtain⟨z,its,n,r,e⟩:=h.ok I.hok
  exact⟨its,r,⟨_,n,e,rfl,rfl,rfl⟩,z⟩
 ·refine⟨its.toList,r,⟨o,n,I.kIn a o hk,hc,hd,by simpa using hs⟩,?_⟩
  have e:=r.length
  simp only [Array.length_toList] at e
  omega
theorem Inv.tuple(I:Inv X pins σ H s)(h:SqT X.K H a xs):∃ its:List Value,Vals xs its∧IsTup s.heap a its.toArray∧xs.length≤sizeLine:=by
 rcases h with h | ⟨o,its,n,hk,hc,hs,hz,r⟩
 ·obtain⟨z,its,r,p⟩:=h.ok I.hok
  exact⟨its,r,p,z⟩
 ·refine⟨its.toList,r,⟨o,I.kIn a o hk,hc,n,by simpa using hs⟩,?_⟩
  have e:=r.length
  simp only [Array.length_toList] at e
  omega
theorem Inv.Nt(I:Inv X pins σ H s)(h:SqL X.K H a xs)(h':SqL X.K H a ys):xs=ys:=by
 obtain⟨its,r,⟨o,n,e,_,_,d⟩,_⟩:=I.list h
 obtain⟨its',r',⟨o',n',e',_,_,d'⟩,_⟩:=I.list h'
 rw[e] at e';cases e'
 rw[d] at d'
 injection d' with d1 _
 have:its=its':=by simpa using congrArg Array.toList d1
 subst this
 exact r.inj r'
theorem Inv.Abr(I:Inv X pins σ H s)(h:SqT X.K H a xs)(h':SqT X.K H a ys):xs=ys:=by
 obtain⟨its,r,⟨o,e,_,n,d⟩,_⟩:=I.tuple h
 obtain⟨its',r',⟨o',e',_,n',d'⟩,_⟩:=I.tuple h'
 rw[e] at e';cases e'
 rw[d] at d'
 injection d' with d1 _
 have:its=its':=by simpa using congrArg Array.toList d1
 subst this
 exact r.inj r'
end
abbrev Cx.wish (X:Cx) (E:Value→Shared→Prop):Cx:={ X with xe:=E }
abbrev Cx.nox (X:Cx):Cx:=X.wish fun _ _=>False
theorem Cx.Ok.wish{X:Cx}(ok:X.Ok)(E:Value→Shared→Prop):(X.wish E).Ok :=
 ⟨ok.mod,ok.kind,ok.glob,ok.blt,ok.above,ok.inj,ok.has,ok.cab,ok.hd,ok.frames,ok.stk,ok.exf,ok.bs,ok.bsz,ok.Ae2,ok.Ae3,ok.Yp,ok.frf⟩
theorem Cx.Ok.JK{X:Cx}{E:Value→Shared→Prop}(ok:(X.wish E).Ok):X.Ok :=
 ⟨ok.mod,ok.kind,ok.glob,ok.blt,ok.above,ok.inj,ok.has,ok.cab,ok.hd,ok.frames,ok.stk,ok.exf,ok.bs,ok.bsz,ok.Ae2,ok.Ae3,ok.Yp,ok.frf⟩
section
variable {X:Cx}{pins:List (Addr × Obj)}{σ:St}{H:Hp}{s:Shared}{E:Value→Shared→Prop}
theorem Inv.wish(I:Inv X pins σ H s)(E:Value→Shared→Prop):Inv (X.wish E) pins σ H s:=⟨I.ok.wish E,I.os,I.bare,I.base,I.loc,I.cell,I.free,I.Kw,I.pin,I.hok,I.len⟩
theorem Inv.JK(I:Inv (X.wish E) pins σ H s):Inv X pins σ H s:=⟨I.ok.JK,I.os,I.bare,I.base,I.loc,I.cell,I.free,I.Kw,I.pin,I.hok,I.len⟩
theorem SP.JK{D:Ends}{f:Flow}{s':Shared}(h:SP (X.wish E) pins D f s'):SP X pins D f s':=by
 cases f with
 | next=>obtain⟨σ',H',I,q⟩:=h;exact⟨σ',H',I.JK,q⟩
 | brk=>obtain⟨σ',H',I,q⟩:=h;exact⟨σ',H',I.JK,q⟩
 | cont=>obtain⟨σ',H',I,q⟩:=h;exact⟨σ',H',I.JK,q⟩
 | ret u=>obtain⟨v,σ',H',I,r,q⟩:=h;exact⟨v,σ',H',I.JK,r,q⟩
theorem PSs.nox{st:List Stmt}{t:TS}(h:PSs X.nox st t):PSs X st t:=fun pins s σ H D I hw =>
 wpAny_mono (h pins s σ H D (I.wish _) hw) (fun _ _ q=>q.JK) fun _ _ z=>False.elim z
end
section
variable {X:Cx}{st:Stmt}{rest:List Stmt}{t u:TS}{e:Expr}{te:TE}{pos:Pos}
def Apf:TS:=fun D σ H=>D.nx σ H
def Apg (t u:TS):TS:=fun D σ H=>t { D with nx:=u D } σ H
theorem Bo:PSs X [] Apf:=fun _ _ σ H _ I h=>wpAny_execs_nil ⟨σ,H,I,h⟩
theorem Ac(h1:PS X st t)(h2:PSs X rest u):PSs X (st::rest) (Apg t u):=by
 intro pins s σ H D I h
 refine wpAny_execs_cons (thn (h1 pins s σ H { D with nx:=u D } I h) fun f s1 q=>?_)
 cases f with
 | next =>
  obtain⟨σ',H',I',q⟩:=q
  exact h2 pins s1 σ' H' D I' q
 | ret v=>exact q
 | brk=>exact q
 | cont=>exact q
theorem Ah(h1:PS X st t):PSs X [st] t:=by
 intro pins s σ H D I h
 refine wpAny_execs_cons (thn (h1 pins s σ H D I h) fun f s1 q=>?_)
 cases f with
 | next=>exact wpAny_execs_nil q
 | ret v=>exact q
 | brk=>exact q
 | cont=>exact q
def Aq0:TS:=fun D σ H=>D.bk σ H
def Ar7:TS:=fun D σ H=>D.ct σ H
theorem Inv.quiet{pins:List (Addr × Obj)}{σ:St}{H:Hp}{s:Shared}(I:Inv X pins σ H s):interactive X.env=false:=by simp[interactive,I.ok.kind]
def Anb (te:TE):TS:=fun D σ H=>te σ H fun _ H1=>D.nx σ H1
theorem Ja(he:PE X e te)(hs:swapsWith e none pos.line X.env=pure false:=by rfl):PS X (.Expr e pos) (Anb te):=by
 intro pins s σ H D I h
 exact wpAny_Expr_any (thn (he pins s σ H _ I h) fun v s1 ⟨x,H1,I1,r1,q1⟩=>⟨σ,H1,I1,q1⟩) I.quiet hs
def Aq1 (te:TE):TS:=fun D σ H=>te σ H D.rt
theorem BP(he:PE X e te):PS X (.Return (some e) pos) (Aq1 te):=by
 intro pins s σ H D I h
 exact wpAny_Return_some (thn (he pins s σ H _ I h) fun v s1 ⟨x,H1,I1,r1,q1⟩=>⟨x,σ,H1,I1,r1,q1⟩)
def Ar8:TS:=fun D _ H=>D.rt .non H
def Aph (c:TT)(t u:TS):TS:=fun D σ H=>c σ H fun b H1=>if b=true then t D σ H1 else u D σ H1
theorem Cu{c:Expr}{a b:List Stmt}{tc:TT}(hc:PT X c tc)(ha:PSs X a t)(hb:PSs X b u):PS X (.If c a b pos) (Aph tc t u):=by
 intro pins s σ H D I h
 refine wpAny_If (thn (hc pins s σ H _ I h) fun d s1 ⟨H1,I1,q1⟩=>?_)
 cases d with
 | true=>exact ha pins s1 σ H1 D I1 q1
 | false=>exact hb pins s1 σ H1 D I1 q1
def AjN:TS:=fun _ _ _=>False
theorem Ru:PS X st AjN:=fun _ _ _ _ _ _ h=>h.elim
theorem K3{sts:List Stmt}:PSs X sts AjN:=fun _ _ _ _ _ _ h=>h.elim
end
abbrev TG:=V→St→Hp→(St→Hp→Prop)→Prop
abbrev TGs:=List V→St→Hp→(St→Hp→Prop)→Prop
def PG (X:Cx)(target:Expr)(t:TG):Prop :=
 ∀(pins:List (Addr × Obj)) (s:Shared) (σ:St) (H:Hp) (v:V) (u:Value) (Q:St→Hp→Prop),Inv X pins σ H s→RelV v u→t v σ H Q →
  wpAny (model X.prog X.w) X.A (assign target X.env u) (fun _ s'=>∃ σ' H',Inv X pins σ' H' s'∧Q σ' H') X.xe s
def PGs (X:Cx)(ts:List Expr)(t:TGs):Prop :=
 ∀(pins:List (Addr × Obj)) (s:Shared) (σ:St) (H:Hp) (vs:List V) (us:List Value) (Q:St→Hp→Prop),Inv X pins σ H s→Vals vs us→t vs σ H Q →
  wpAny (model X.prog X.w) X.A (assignInOrder ((assignEach ts X.env).map (·.2)) us) (fun _ s'=>∃ σ' H',Inv X pins σ' H' s'∧Q σ' H') X.xe s
abbrev AlJ:=V→V→V→Hp→(Hp→Prop)→Prop
def Api (X:Cx)(t:AlJ):Prop :=
 ∀(pins:List (Addr × Obj)) (s:Shared) (σ:St) (H:Hp) (o i v:V) (ov iv u:Value) (Q:Hp→Prop),Inv X pins σ H s→RelV o ov→RelV i iv→RelV v u→t o i v H Q →
  wpAny (model X.prog X.w) X.A (setItem ov iv u) (fun _ s'=>∃ H',Inv X pins σ H' s'∧Q H') X.xe s
abbrev TIp:=V→V→Hp→VK→Prop
def PIp (X:Cx)(op:Operator)(t:TIp):Prop :=
 ∀(pins:List (Addr × Obj)) (s:Shared) (σ:St) (H:Hp) (x y:V) (v u:Value) (Q:VK),Inv X pins σ H s→RelV x v→RelV y u→t x y H Q →
  wpAny (model X.prog X.w) X.A (inplaceOp op v u) (EP X pins σ Q) X.xe s
section
variable {X:Cx}{pos:Pos}
def UG (i:Nat):TG:=fun v σ H Q=>Q (σ.set i (some v)) H
theorem Dj{i:Nat}{x:Str}(hN:X.N.Nodup)(hi:X.N[i]?=some x)(hx:Loc X.env.scope x)(hf:X.fn x=true∨X.env.scope.names.lookup x=some .local:=by first | exact .inl rfl | exact .inr rfl | assumption):PG X (.Name x pos) (UG i):=by
 intro pins s σ H v u Q I r h
 exact wpAny_assign_Name (AcY I hN hi hx r (fun s' I'=>⟨_,H,I',h⟩) hf)
def Apj:TGs:=fun vs σ H Q=>vs=[]∧Q σ H
def Aig (t:TG)(u:TGs):TGs:=fun vs σ H Q=>∃ v r,vs=v::r∧t v σ H fun σ' H'=>u r σ' H' Q
theorem AcN:PGs X [] Apj:=by
 intro pins s σ H vs us Q I r h
 obtain⟨e,h⟩:=h
 subst e
 cases r
 exact assignInOrder_nil ⟨σ,H,I,h⟩
theorem Jq{e:Expr}{es:List Expr}{t:TG}{u:TGs}(h1:PG X e t)(h2:PGs X es u)
  (hs:(assignEach (e::es) X.env).map (·.2)=assign e X.env::(assignEach es X.env).map (·.2):=by rfl):PGs X (e::es) (Aig t u):=by
 intro pins s σ H vs us Q I r h
 obtain⟨v,vr,e1,h⟩:=h
 subst e1
 cases r with
 | cons r rr =>
  rw[hs]
  refine assignInOrder_cons (thn (h1 pins s σ H _ _ _ I r h) fun _ s1 ⟨σ1,H1,I1,q1⟩=>?_)
  exact h2 pins s1 σ1 H1 _ _ Q I1 rr q1
def Apk (K:PySem.W.Frag)(n:Nat)(t:TGs):TG:=fun v σ H Q=>∃ a xs,v=.ref a∧SqT K H a xs∧xs.length=n∧t xs σ H Q
theorem Afe{es:List Expr}{k:Nat}{t:TGs}{n:Nat}(hc:X.calm=true)(h:PGs X es t)
  (hn:(assignEach es X.env).length=n:=by rfl) (hst:(assignEach es X.env).findIdx? (·.1)=none:=by rfl):PG X (.Tuple es k pos) (Apk X.K n t):=by
 intro pins s σ H v u Q I r hw
 obtain⟨a,xs,e1,hq,hl,hw⟩:=hw
 subst e1
 cases r
 obtain⟨its,rv,ht,hz⟩:=I.tuple hq
 refine assign_Tuple_tuple (I.ok.hd hc) ht (by simp[hn,← hl,rv.length]) hst fun h' hx=>?_
 have I1:Inv X pins σ H { s with heap:=h' }:=I.kept (t':=s.toks) fun b o e=>hx b o (AsL (Heap.lt_size e)) e
 exact h pins _ σ H xs _ Q I1 (by simpa using rv) hw
def Aq2 (to ti:TE)(t:AlJ):TG:=fun v σ H Q=>to σ H fun o H1=>ti σ H1 fun i H2=>t o i v H2 fun H3=>Q σ H3
theorem Afg{o i:Expr}{to ti:TE}{t:AlJ}(ho:PE X o to)(hi:PE X i ti)(hs:Api X t)
  (ha:∀ v,assign (.Subscript o i pos) X.env v=(do
   let ov ← holding [v] (eval o X.env)
   let iv ← holding [v,ov] (eval i X.env)
   standAt pos
   holding [v,ov,iv] (setItem ov iv v)
   release [v,ov,iv] []):=by intro _;rfl):PG X (.Subscript o i pos) (Aq2 to ti t):=by
 intro pins s σ H v u Q I r h
 rw[ha]
 refine wpAny_bind (wpAny_holding (thn (ho pins s σ H _ I h) fun ov s1 ⟨x,H1,I1,r1,q1⟩=>?_))
 refine wpAny_bind (wpAny_holding (thn (hi pins s1 σ H1 _ I1 q1) fun iv s2 ⟨y,H2,I2,r2,q2⟩=>?_))
 refine wpAny_bind (wpAny_standAt (wpAny_bind (wpAny_holding (thn (hs pins s2 σ H2 x y v ov iv u _ I2 r1 r2 r q2) fun _ s3 ⟨H3,I3,q3⟩=>?_))))
 exact wpAny_release ⟨σ,H3,I3,q3⟩
def AlK (te:TE)(g:TG):TS:=fun D σ H=>te σ H fun x H1=>g x σ H1 D.nx
theorem Afh{tg e:Expr}{te:TE}{g:TG}(he:PE X e te)(hg:PG X tg g)(hs:swapsWithSole [tg] e pos.line X.env=pure false:=by rfl)(hw:swappedStores [tg] e X.env=pure none:=by rfl)
  (h1:(assignEach [tg] X.env).map (·.2)=[assign tg X.env]:=by rfl):PS X (.Assign [tg] e pos) (AlK te g):=by
 intro pins s σ H D I h
 refine wpAny_Assign_stores (thn (he pins s σ H _ I h) fun v s1 ⟨x,H1,I1,r1,q1⟩=>?_) hs hw
 rw[h1]
 exact thn (hg pins s1 σ H1 x v _ I1 r1 q1) fun _ s2 q=>q
theorem Aq{i:Nat}{x:Str}{e:Expr}{te:TE}{pos':Pos}(hN:X.N.Nodup)(hi:X.N[i]?=some x)(hx:Loc X.env.scope x)(he:PE X e te)(hs:swapsWith e (some (.Name x pos')) pos.line X.env=pure false:=by rfl)(hf:X.fn x=true∨X.env.scope.names.lookup x=some .local:=by first | exact .inl rfl | exact .inr rfl | assumption) :
  PS X (.Assign [.Name x pos'] e pos) (AlK te (UG i)):=by
 intro pins s σ H D I h
 refine wpAny_Assign_Name (thn (he pins s σ H _ I h) fun v s1 ⟨y,H1,I1,r1,q1⟩=>?_) hs
 exact AcY I1 hN hi hx r1 (fun s2 I2=>⟨_,H1,I2,q1⟩) hf
def Asa (i j:Nat)(ta:TA):TS:=fun D σ H=>ta σ H fun vs H1=>∃ v w,vs=[v,w]∧D.nx ((σ.set i (some v)).set j (some w)) H1
def Asb (i:Nat)(te:TE)(ti:TIp):TS:=fun D σ H=>∃ x,σ[i]?=some (some x)∧te σ H fun y H1=>ti x y H1 fun z H2=>D.nx (σ.set i (some z)) H2
def Ar9 (to ti te:TE)(Aq3:V→V→Hp→VK→Prop)(tip:TIp)(Aq4:AlJ):TS:=fun D σ H=>to σ H fun o H1=>ti σ H1 fun i H2=>Aq3 o i H2 fun x H3=>te σ H3 fun y H4=>tip x y H4 fun z H5=>Aq4 o i z H5 fun H6=>D.nx σ H6
def Asc (X:Cx)(t:V→V→Hp→VK→Prop):Prop :=
 ∀(pins:List (Addr × Obj)) (s:Shared) (σ:St) (H:Hp) (o i:V) (ov iv:Value) (Q:VK),Inv X pins σ H s→RelV o ov→RelV i iv→t o i H Q →
  wpAny (model X.prog X.w) X.A (getItem ov iv) (EP X pins σ Q) X.xe s
def ipI (f:Int→Int→Int):TIp:=fun x y H Q=>∃ i j,x=.int i∧y=.int j∧Q (.int (f i j)) H
end
section
variable {X:Cx}{pos:Pos}
def Aq5 (c:TT)(tb:TS):TS:=fun D σ H=>∃ W:Nat→St→Hp→Prop,(∃ m,W m σ H)∧∀ m σ H,W m σ H →
 c σ H fun b H1=>if b=true then ∃ N:St→Hp→Prop,(∀ σ' H',N σ' H'→∃ m',m'<m∧W m' σ' H')∧tb { D with nx:=N,ct:=N,bk:=D.nx } σ H1 else D.nx σ H1
end
structure It where
 go:Nat→Hp→Prop
 yld:Nat→Hp→V→Hp→Prop
 stop:Nat→Hp→Prop
def Rv (X:Cx)(pins:List (Addr × Obj))(H:Hp)(b:Addr):Prop :=
 H b=none∧b≠X.env.locals∧b∉X.fs∧(b∈X.ex∨X.s₀.heap.objs.size≤b)∧(∀ x c,X.env.cells.lookup x=some c→c≠b)∧∀ p∈X.pn++pins,p.1≠b
theorem Inv.AjO{X:Cx}{pins:List (Addr × Obj)}{σ:St}{H H':Hp}{s:Shared}{b:Addr}(I:Inv X pins σ H s)(hb:s.heap.objs.size≤b)(hn:H' b=none):Rv X pins H' b:=by
 refine⟨hn,Ato (AsO I.lt hb),I.An8 hb,.inr (AsX I.sz hb),fun x c e z=>?_,fun p hp z=>?_⟩
 ·obtain⟨v,q⟩:=I.cell x c e
  exact absurd (AsO q.lt (by rw[z];exact hb)) (Atn _)
 ·exact absurd (AsO (Heap.lt_size (I.pin p hp).1) (by rw[z];exact hb)) (Atn _)
structure Turn (P:Program) (w:World) (K:PySem.W.Frag) (tg:Expr) (J:It) (fp:List Addr) (it:Addr) (tn:Nat→Heap→Prop):Prop where
 mem:it∈fp
 obj:∀ i h,tn i h→∀ b∈fp,∃ o,h.get? b=some o∧∀ v,o.data≠.cell v
 keep:∀ i h h',tn i h→(∀ b∈fp,∀ o,h.get? b=some o→h'.get? b=some o)→tn i h'
 item:∀(X:Cx),X.prog=P→X.w=w→X.K=K→X.calm=true→∀(i:Nat) (pins:List (Addr × Obj)) (s:Shared) (σ:St) (H:Hp) (E:Value→Shared→Prop),Inv X pins σ H s→(∀ b∈fp,Rv X pins H b)→tn i s.heap→J.go i H →
  wpAny (model P w) X.A (pyNext (.ref it)) (fun r s1=>∃ u,r=some u ∧
   wpAny (model P w) X.A (letOwnedTupleGo tg (.ref it) u) (fun _ s2=>∃ x H',Inv X pins σ H' s2∧RelV x u∧J.yld i H x H'∧tn (i+1) s2.heap∧∀ b∈fp,H' b=none) E s1) E s
 done:∀(X:Cx),X.prog=P→X.w=w→X.K=K→X.calm=true→∀(i:Nat) (pins:List (Addr × Obj)) (s:Shared) (σ:St) (H:Hp) (E:Value→Shared→Prop),Inv X pins σ H s→(∀ b∈fp,Rv X pins H b)→tn i s.heap→J.stop i H →
  wpAny (model P w) X.A (pyNext (.ref it)) (fun r s1=>r=none∧Inv X pins σ H s1) E s
 self:∀(A:Around) (i:Nat) (s:Shared) (Q:Value→Shared→Prop) (E:Value→Shared→Prop),tn i s.heap→Q (.ref it) s→wpAny (model P w) A (pyIter (.ref it)) Q E s
abbrev TI:=St→Hp→(It→Hp→Prop)→Prop
def PIE (X:Cx)(pins:List (Addr × Obj))(σ:St)(tg:Expr)(R:It→Hp→Prop)(itv:Value)(s2:Shared):Prop :=
 ∃(it:Addr) (fp:List Addr) (tn:Nat→Heap→Prop) (J:It) (H':Hp),itv=.ref it∧Inv X pins σ H' s2∧Turn X.prog X.w X.K tg J fp it tn∧tn 0 s2.heap∧(∀ b∈fp,Rv X pins H' b)∧R J H'
def PI (X:Cx)(tg iter:Expr)(wi:TI):Prop :=
 ∀(pins:List (Addr × Obj)) (s:Shared) (σ:St) (H:Hp) (R:It→Hp→Prop),Inv X pins σ H s→wi σ H R →
  wpAny (model X.prog X.w) X.A (eval iter X.env) (fun v s1=>wpAny (model X.prog X.w) X.A (pyIter v) (PIE X pins σ tg R) X.xe s1) X.xe s
theorem Aih{M:Model}{A:Around}{E:Value→Shared→Prop}{s:Shared}{tg:Expr}{it:Addr}{u:Value}{o:Obj}{n:String}{vs:Array Value}{Q:Unit→Shared→Prop}(ho:s.heap.get? it=some o)(hc:o.cls=.type n)(hd:o.data=.fields vs)
    (hn:["enumerate", "zip", "dict_itemiterator", "dict_reverseitemiterator", "odict_iterator", "itertools.zip_longest", "itertools.pairwise"].contains n=false) (hQ:Q () s):wpAny M A (letOwnedTupleGo tg (.ref it) u) Q E s:=by
  unfold letOwnedTupleGo
  cases tg <;> first
    | exact wpAny_pure hQ
    | (cases u <;> first
        | exact wpAny_pure hQ
        | (refine wpAny_bind (wpAny_load ho ?_)
           rw[hc,hd]
           show wpAny M A (if (["enumerate", "zip", "dict_itemiterator", "dict_reverseitemiterator", "odict_iterator", "itertools.zip_longest", "itertools.pairwise"].contains n && vs[0]? == some (rawInt _))=true then _ else _) Q E s
           rw[if_neg (by intro h;rw[hn,Bool.false_and] at h;cases h)]
           exact wpAny_pure hQ))
def Itl (K:PySem.W.Frag)(a:Addr):It :=
 ⟨fun i H=>∃ xs x,SqL K H a xs∧xs[i]?=some x,fun i H x H'=>H'=H∧∀ xs,SqL K H a xs→xs[i]?=some x,fun i H=>∃ xs,SqL K H a xs∧xs.length≤i⟩
def Itt (K:PySem.W.Frag)(a:Addr):It :=
 ⟨fun i H=>∃ xs x,SqT K H a xs∧xs[i]?=some x,fun i H x H'=>H'=H∧∀ xs,SqT K H a xs→xs[i]?=some x,fun i H=>∃ xs,SqT K H a xs∧xs.length≤i⟩
def Itr (lo:Int)(n:Nat):It:=⟨fun i _=>i<n,fun i H x H'=>H'=H∧x=.int (lo+i),fun i _=>n≤i⟩
theorem AiW{P:Program}{w:World}{K:PySem.W.Frag}{tg:Expr}(a it:Addr):Turn P w K tg (Itl K a) [it] it (fun i h=>h.IsListIter it a i) where
 mem:=by simp
 obj:=fun i h st b hb=>by
  have e:b=it:=by simpa using hb
  subst e
  obtain⟨o,e,c,d⟩:=st
  exact⟨o,e,fun v z=>by rw[d] at z;cases z⟩
 keep:=fun i h h' st k=>st.at fun o e=>k it (by simp) o e
 item:=by
  intro X hP hw hK hc i pins s σ H E I hf st hg
  subst hP hw hK
  obtain⟨xs,x,hq,hx⟩:=hg
  obtain⟨its,rv,p,hz⟩:=I.list hq
  obtain⟨u,hu,ru⟩:=rv.get hx
  obtain⟨f0,f1,f2,f3,f4,f5⟩:=hf it (by simp)
  refine wpAny_pyNext_list_item st p.isList (x:=u) (by simpa using hu) fun h' st' sb=>?_
  have I1:Inv X pins σ H { s with heap:=h' }:=I.turned (t':=s.toks) (fun b o hb e=>(sb.2 b hb).trans e) f0 f1 f3 f4 f5
  obtain⟨o,e,c,d⟩:=id st'
  exact⟨u,rfl,Aih (s:={ s with heap:=h' }) e c d (by decide) ⟨x,H,I1,ru,⟨rfl,fun ys hy=>by rw[I.Nt hy hq];exact hx⟩,st',fun b hb=>(hf b hb).1⟩⟩
 done:=by
  intro X hP hw hK hc i pins s σ H E I hf st hg
  subst hP hw hK
  obtain⟨xs,hq,hx⟩:=hg
  obtain⟨its,rv,p,hz⟩:=I.list hq
  obtain⟨f0,f1,f2,f3,f4,f5⟩:=hf it (by simp)
  have hl:=rv.length
  exact wpAny_pyNext_list_end (I.ok.hd hc) st p.isList (by simp;omega) fun h' eb=>⟨rfl,I.turned (t':=s.toks) (fun b o hb e=>eb b o hb e) f0 f1 f3 f4 f5⟩
 self:=fun _ _ _ _ _ st h=>wpAny_pyIter_listiter st h
theorem Ahw{P:Program}{w:World}{K:PySem.W.Frag}{tg:Expr}(it:Addr)(lo:Int)(n:Nat):Turn P w K tg (Itr lo n) [it] it (fun i h=>IsRangeIter h it (lo+(i:Nat)*1) ((n:Int)-(i:Nat)) 1) where
 mem:=by simp
 obj:=fun i h st b hb=>by
  have e:b=it:=by simpa using hb
  subst e
  exact⟨_,st,fun v z=>by
   have z':Data.fields _=Data.cell v:=z
   cases z'⟩
 keep:=fun i h h' st k=>k it (by simp) _ st
 item:=by
  intro X hP hw hK hc i pins s σ H E I hf st hg
  subst hP hw hK
  obtain⟨f0,f1,f2,f3,f4,f5⟩:=hf it (by simp)
  have W:=Walks.range (prog:=X.prog) (w:=X.w) (I.ok.hd hc) it lo 1 n
  refine W.item i s _ _ hg st fun v h' tk hv st' kk=>?_
  obtain⟨t,rfl⟩:=hv
  have I1:Inv X pins σ H { s with heap:=h',toks:=tk }:=I.turned (fun b o hb e=>kk b o (by simpa using hb) e) f0 f1 f3 f4 f5
  refine⟨_,rfl,Aih (s:={ s with heap:=h',toks:=tk }) (n := "range_iterator") st' rfl rfl (by decide) ⟨.int (lo+i),H,I1,⟨t,?_⟩,⟨rfl,rfl⟩,st',fun b hb=>(hf b hb).1⟩⟩
  rw[AtV]
 done:=by
  intro X hP hw hK hc i pins s σ H E I hf st hg
  subst hP hw hK
  obtain⟨f0,f1,f2,f3,f4,f5⟩:=hf it (by simp)
  exact wpAny_pyNext_range_end (I.ok.hd hc) st (by have:n≤i:=hg;omega) fun h' eb=>⟨rfl,I.turned (t':=s.toks) (fun b o hb e=>eb b o hb e) f0 f1 f3 f4 f5⟩
 self:=fun _ _ _ _ _ st h=>wpAny_pyIter_rangeiter st h
open PySem PySem.Spec PyProof.Rows
section
variable {X:Cx}{tg:Expr}
def Anc (K:PySem.W.Frag)(tl:TE):TI:=fun σ H R=>tl σ H fun x H1=>∃ a,x=.ref a∧(∃ xs,SqL K H1 a xs)∧R (Itl K a) H1
def Asd (K:PySem.W.Frag)(tl:TE):TI:=fun σ H R=>tl σ H fun x H1=>∃ a,x=.ref a∧(∃ xs,SqT K H1 a xs)∧R (Itt K a) H1
theorem AlL{l:Expr}{tl:TE}(hl:PE X l tl):PI X tg l (Anc X.K tl):=by
 intro pins s σ H R I h
 refine thn (hl pins s σ H _ I h) fun v s1 ⟨x,H1,I1,r1,q1⟩=>?_
 obtain⟨a,e,⟨xs,hq⟩,q⟩:=q1
 subst e
 cases r1
 obtain⟨its,rv,p,hz⟩:=I1.list hq
 refine wpAny_pyIter_list p.isList ?_
 refine⟨s1.heap.objs.size,[s1.heap.objs.size],_,_,H1,rfl,I1.kept (t':=s1.toks) fun b o e=>Heap.get?_push_of_some _ e,AiW a _,⟨_,Heap.get?_push_size _ rfl,rfl,rfl⟩,fun b hb=>?_,q⟩
 have e:b=s1.heap.objs.size:=by simpa using hb
 subst e
 exact I1.AjO (AsI _) (I1.hok.fresh (AsI _))
theorem Agk{pins:List (Addr × Obj)}{σ:St}{H:Hp}{s:Shared}{R:It→Hp→Prop}{E:Value→Shared→Prop}{lo hi:Int}{t u v:Tok}{tk:Nat}(I:Inv X pins σ H s)(h1 : -(2 ^ 62)≤lo)(h2:lo<2 ^ 62)(h3 : -(2 ^ 62)≤hi)(h4:hi<2 ^ 62)
  (q:R (Itr lo (hi-lo).toNat) H):wpAny (model X.prog X.w) X.A (pyIter (.ref s.heap.objs.size)) (PIE X pins σ tg R) E { s with heap:=s.heap.push { cls:=.type "range", data:=.fields #[.int lo t,.int hi u,.int 1 v] },toks:=tk }:=by
 refine wpAny_pyIter_range (IsRange.new ..) (small_one h1 h2 h3 h4) ?_
 have I1:Inv X pins σ H { s with heap:=s.heap.push { cls:=.type "range", data:=.fields #[.int lo t,.int hi u,.int 1 v] },toks:=tk }:=I.kept fun b o e=>Heap.get?_push_of_some _ e
 refine⟨(s.heap.push { cls:=.type "range", data:=.fields #[.int lo t,.int hi u,.int 1 v] }).objs.size,[(s.heap.push { cls:=.type "range", data:=.fields #[.int lo t,.int hi u,.int 1 v] }).objs.size],_,_,H,rfl,
  I1.kept (t':=tk) fun b o e=>Heap.get?_push_of_some _ e,Ahw _ lo (hi-lo).toNat,?_,fun b hb=>?_,q⟩
 ·have e1:lo+((0:Nat):Int)*1=lo:=by simp
  have e2:(((hi-lo).toNat:Nat):Int)-((0:Nat):Int)=Builtin.Range.rangeSize lo hi 1:=by rw[rangeSize_one];split <;> omega
  show IsRangeIter _ _ (lo+((0:Nat):Int)*1) ((((hi-lo).toNat:Nat):Int)-((0:Nat):Int)) 1
  rw[e1,e2]
  exact Heap.get?_push_size _ rfl
 ·have e:b=(s.heap.push { cls:=.type "range", data:=.fields #[.int lo t,.int hi u,.int 1 v] }).objs.size:=by simpa using hb
  subst e
  exact I1.AjO (AsI _) (I1.hok.fresh (AsI _))
def Apl (ta:TA):TI:=fun σ H R=>ta σ H fun vs H1=>∃ j:Int,vs=[.int j] ∧ -(2 ^ 62)≤j∧j<2 ^ 62∧R (Itr 0 j.toNat) H1
def Apm (ta:TA):TI:=fun σ H R=>ta σ H fun vs H1=>∃ i j:Int,vs=[.int i,.int j]∧(-(2 ^ 62)≤i∧i<2 ^ 62 ∧ -(2 ^ 62)≤j∧j<2 ^ 62)∧R (Itr i (j-i).toNat) H1
theorem Gm{a:Expr}{ta:TA}{p pos:Pos}(hg:Gl X "range") (hm:X.mg "range" = none) (ha:PA X [a] ta) (hs:starEach [a] X.env=[(false,eval a X.env)]:=by rfl):PI X tg (.Call (.Name "range" p) [a] [] pos) (Apl ta):=by
 intro pins s σ H R I h
 refine Call_ (K1 I hg hm boot_range (PyProof.Rows.callWith_type1 (thn (ha pos pins s σ H _ I h) fun us s1 ⟨vs,H1,I1,r1,q1⟩=>?_) hs rfl))
 obtain⟨j,e,q1,q2,q⟩:=q1
 subst e
 cases r1 with
 | cons r rr =>
  cases rr
  obtain⟨t,rfl⟩:=r
  exact call_range_1 (Agk I1 (by omega) (by omega) q1 q2 (by simpa using q))
theorem AiX{a b:Expr}{ta:TA}{p pos:Pos}(hg:Gl X "range") (hm:X.mg "range" = none) (ha:PA X [a,b] ta) (hs:starEach [a,b] X.env=[(false,eval a X.env),(false,eval b X.env)]:=by rfl) (hs2:starEach [b] X.env=[(false,eval b X.env)]:=by rfl) :
  PI X tg (.Call (.Name "range" p) [a,b] [] pos) (Apm ta):=by
 intro pins s σ H R I h
 refine Call_ (K1 I hg hm boot_range (PyProof.Rows.callWith_type1 (thn (ha pos pins s σ H _ I h) fun us s1 ⟨vs,H1,I1,r1,q1⟩=>?_) (by rw[hs,hs2]) (by rw[hs2];rfl)))
 obtain⟨i,j,e,⟨q1,q2,q3,q4⟩,q⟩:=q1
 subst e
 cases r1 with
 | cons r rr =>
  cases rr with
  | cons r' rr =>
   cases rr
   obtain⟨t,rfl⟩:=r
   obtain⟨t',rfl⟩:=r'
   exact call_range_2 (Agk I1 q1 q2 q3 q4 q)
def Aq6 (wi:TI)(g:TG)(tb:TS):TS:=fun D σ H=>wi σ H fun J H1=>∃ W:Nat→Nat→St→Hp→Prop,(∃ m,W 0 m σ H1)∧∀ i m σ H,W i m σ H →
 (J.stop i H∧D.nx σ H)∨(J.go i H∧∃ N:St→Hp→Prop,(∀ σ' H',N σ' H'→∃ m',m'<m∧W (i+1) m' σ' H')∧∀ x H',J.yld i H x H'→g x σ H' fun σ2 H2=>tb { D with nx:=N,ct:=N,bk:=D.nx } σ2 H2)
def Abs (fp:List Addr)(h:Heap):List (Addr × Obj):=fp.filterMap fun b=>(h.get? b).map fun o=>(b,o)
theorem K4{fp:List Addr}{h:Heap}{b:Addr}{o:Obj}(hb:b∈fp)(e:h.get? b=some o):(b,o)∈Abs fp h:=List.mem_filterMap.mpr ⟨b,hb,by rw[e];rfl⟩
theorem AiY{fp:List Addr}{h:Heap}{p:Addr × Obj}(hp:p∈Abs fp h):p.1∈fp∧h.get? p.1=some p.2:=by
 obtain⟨b,hb,e⟩:=List.mem_filterMap.mp hp
 cases q:h.get? b with
 | none=>rw[q] at e;cases e
 | some o =>
  rw[q] at e
  have e':(b,o)=p:=Option.some.inj e
  subst e'
  exact⟨hb,q⟩
theorem Inv.pinned{pins:List (Addr × Obj)}{σ:St}{H:Hp}{s:Shared}{fp:List Addr}(I:Inv X pins σ H s)(hf:∀ b∈fp,Rv X pins H b)(ho:∀ b∈fp,∃ o,s.heap.get? b=some o∧∀ v,o.data≠.cell v):Inv X (pins++Abs fp s.heap) σ H s :=
 I.Ju fun p hp=>(List.mem_append.mp hp).elim (fun z=>I.pin p (AsZ _ z)) fun z=>by
  obtain⟨hb,e⟩:=AiY z
  obtain⟨f0,f1,f2,_⟩:=hf p.1 hb
  obtain⟨o,e',d⟩:=ho p.1 hb
  rw[e] at e';cases e'
  exact⟨e,f0,f1,f2,d⟩
theorem Inv.AcZ{pins pl:List (Addr × Obj)}{σ:St}{H:Hp}{s:Shared}(I:Inv X (pins++pl) σ H s):Inv X pins σ H s:=I.Ju fun p hp=>I.pin p (AsZ _ (AtD _ hp))
theorem Hx{iter:Expr}{body:List Stmt}{wi:TI}{g:TG}{tb:TS}{pos:Pos}(hp:PassesOwn (model X.prog X.w) X.A X.env X.xe)(hc:X.calm=true)(hi:PI X tg iter wi)(hg:PG X tg g)(hb:PSs X body tb)
  (hs:∀ x,foldedSetIterable iter X.env x=pure x:=by intro _;rfl):PS X (.For tg iter body [] pos) (Aq6 wi g tb):=by
 intro pins s σ H D I h
 refine wpAny_For (thn (hi pins s σ H _ I h) fun v s1 h1=>thn h1 fun itv s2 h2=>?_) hs
 obtain⟨it,fp,tn,J,H2,e,I2,T,st2,f2,W,⟨m0,w0⟩,turn⟩:=h2
 subst e
 have stat:∀{H':Hp},(∀ b∈fp,H' b=none)→∀ b∈fp,Rv X pins H' b:=fun hn b hb=>⟨hn b hb,(f2 b hb).2⟩
 refine codeAny_forLoop_any (fun n s'=>∃ i σ' H',Inv X pins σ' H' s'∧tn i s'.heap∧(∀ b∈fp,H' b=none)∧W i n σ' H') ?_ m0 ⟨0,σ,H2,I2,st2,fun b hb=>(f2 b hb).1,w0⟩
 rintro n s3 ⟨i,σ3,H3,I3,st3,fr3,w3⟩
 rcases turn i n σ3 H3 w3 with ⟨stop,qn⟩ | ⟨go,N,hN,step⟩
 ·refine wpAny_passesOwn hp (thn (T.done X rfl rfl rfl hc i pins s3 σ3 H3 X.xe I3 (stat fr3) st3 stop) fun r s4 ⟨hr,I4⟩=>?_)
  subst hr
  exact wpAny_execs_nil ⟨σ3,H3,I4,qn⟩
 ·refine wpAny_passesOwn hp (thn (T.item X rfl rfl rfl hc i pins s3 σ3 H3 X.xe I3 (stat fr3) st3 go) fun r s4 ⟨u,hr,h4⟩=>?_)
  subst hr
  refine wpAny_passesOwn hp (thn h4 fun _ s5 ⟨x,H5,I5,r5,y5,st5,fr5⟩=>?_)
  have I5':=I5.pinned (stat fr5) (T.obj _ _ st5)
  refine wpAny_passesOwn hp (thn (hg _ s5 σ3 H5 x u _ I5' r5 (step x H5 y5)) fun _ s6 ⟨σ6,H6,I6,q6⟩=>?_)
  refine wpAny_passesOwn hp (thn (hb _ s6 σ6 H6 _ I6 q6) fun f s7 q7=>?_)
  have again:∀{σ7:St} {H7:Hp},Inv X (pins++Abs fp s5.heap) σ7 H7 s7→N σ7 H7→∃ m,m<n∧∃ i σ' H',Inv X pins σ' H' s7∧tn i s7.heap∧(∀ b∈fp,H' b=none)∧W i m σ' H':=fun {σ7 H7} I7 n7=>by
   obtain⟨m',hm,w7⟩:=hN σ7 H7 n7
   refine⟨m',hm,i+1,σ7,H7,I7.AcZ,T.keep _ _ _ st5 fun b hb o e=>(I7.pin (b,o) (AsZ _ (AsZ _ (K4 hb e)))).1,fun b hb=>?_,w7⟩
   obtain⟨o,e,d⟩:=T.obj _ _ st5 b hb
   exact(I7.pin (b,o) (AsZ _ (AsZ _ (K4 hb e)))).2.1
  cases f with
  | next=>obtain⟨σ7,H7,I7,n7⟩:=q7;exact again I7 n7
  | cont=>obtain⟨σ7,H7,I7,n7⟩:=q7;exact again I7 n7
  | brk=>obtain⟨σ7,H7,I7,q7⟩:=q7;exact⟨σ7,H7,I7.AcZ,q7⟩
  | ret v=>obtain⟨x7,σ7,H7,I7,r7,q7⟩:=q7;exact⟨x7,σ7,H7,I7.AcZ,r7,q7⟩
end
theorem Rw{K:PySem.W.Frag}{a:Addr}{xs:List V}{g:TG}{tb:TS}{D:Ends}{σ:St}{H:Hp}(Pv:Nat→St→Hp→Prop)(h0:Pv 0 σ H)(hl:∀ i σ H,i≤xs.length→Pv i σ H→SqL K H a xs)
  (hs:∀ i x σ H,xs[i]?=some x→Pv i σ H→g x σ H fun σ2 H2=>tb { D with nx:=Pv (i+1),ct:=Pv (i+1),bk:=D.nx } σ2 H2) (hd:∀ σ H,Pv xs.length σ H→D.nx σ H) :
  ∃ W:Nat→Nat→St→Hp→Prop,(∃ m,W 0 m σ H)∧∀ i m σ H,W i m σ H →
   ((Itl K a).stop i H∧D.nx σ H)∨((Itl K a).go i H∧∃ N:St→Hp→Prop,(∀ σ' H',N σ' H'→∃ m',m'<m∧W (i+1) m' σ' H')∧∀ x H',(Itl K a).yld i H x H'→g x σ H' fun σ2 H2=>tb { D with nx:=N,ct:=N,bk:=D.nx } σ2 H2):=by
 refine⟨fun i m σ H=>m=xs.length-i∧i≤xs.length∧Pv i σ H,⟨xs.length,by simp,AsM _,h0⟩,?_⟩
 rintro i m σ H ⟨rfl,hi,p⟩
 have q:=hl i σ H hi p
 by_cases hlt:i<xs.length
 ·refine .inr ⟨⟨xs,xs[i],q,by simp[hlt]⟩,Pv (i+1),fun σ' H' p'=>⟨xs.length-(i+1),by omega,rfl,hlt,p'⟩,fun x H' y=>?_⟩
  obtain⟨e,y⟩:=y
  subst e
  exact hs i x σ _ (y xs q) p
 ·have e:i=xs.length:=by omega
  subst e
  exact .inl ⟨⟨xs,q,AsI _⟩,hd σ H p⟩
theorem Jb{lo:Int}{n:Nat}{g:TG}{tb:TS}{D:Ends}{σ:St}{H:Hp}(Pv:Nat→St→Hp→Prop)(h0:Pv 0 σ H)
  (hs:∀ i σ H,i<n→Pv i σ H→g (.int (lo+i)) σ H fun σ2 H2=>tb { D with nx:=Pv (i+1),ct:=Pv (i+1),bk:=D.nx } σ2 H2) (hd:∀ σ H,Pv n σ H→D.nx σ H) :
  ∃ W:Nat→Nat→St→Hp→Prop,(∃ m,W 0 m σ H)∧∀ i m σ H,W i m σ H →
   ((Itr lo n).stop i H∧D.nx σ H)∨((Itr lo n).go i H∧∃ N:St→Hp→Prop,(∀ σ' H',N σ' H'→∃ m',m'<m∧W (i+1) m' σ' H')∧∀ x H',(Itr lo n).yld i H x H'→g x σ H' fun σ2 H2=>tb { D with nx:=N,ct:=N,bk:=D.nx } σ2 H2):=by
 refine⟨fun i m σ H=>m=n-i∧i≤n∧Pv i σ H,⟨n,by simp,AsM _,h0⟩,?_⟩
 rintro i m σ H ⟨rfl,hi,p⟩
 by_cases hlt:i<n
 ·refine .inr ⟨hlt,Pv (i+1),fun σ' H' p'=>⟨n-(i+1),by omega,rfl,hlt,p'⟩,fun x H' y=>?_⟩
  obtain⟨e,y⟩:=y
  subst e y
  exact hs i σ _ hlt p
 ·have e:i=n:=by omega
  subst e
  exact .inl ⟨AsI _,hd σ H p⟩
open PySem PySem.Spec PyProof.Rows
abbrev R2:=V→V→Hp→VK→Prop
def OpR (X:Cx)(f:Value→Value→Sem Value)(r:R2):Prop :=
 ∀(pins:List (Addr × Obj)) (s:Shared) (σ:St) (H:Hp) (x y:V) (v u:Value) (Q:VK),Inv X pins σ H s→RelV x v→RelV y u→r x y H Q →
  wpAny (model X.prog X.w) X.A (f v u) (EP X pins σ Q) X.xe s
def UnR (X:Cx)(f:Value→Sem Value)(r:V→Hp→VK→Prop):Prop :=
 ∀(pins:List (Addr × Obj)) (s:Shared) (σ:St) (H:Hp) (x:V) (v:Value) (Q:VK),Inv X pins σ H s→RelV x v→r x H Q →
  wpAny (model X.prog X.w) X.A (f v) (EP X pins σ Q) X.xe s
def JB (X:Cx)(f:Value)(r:List V→Hp→VK→Prop):Prop :=
 ∀(pins:List (Addr × Obj)) (s:Shared) (σ:St) (H:Hp) (xs:List V) (us:List Value) (Q:VK),Inv X pins σ H s→Vals xs us→r xs H Q →
  wpAny (model X.prog X.w) X.A (call f us) (EP X pins σ Q) X.xe s
def Ase (X:Cx)(r:V→Hp→(Bool→Hp→Prop)→Prop):Prop :=
 ∀(pins:List (Addr × Obj)) (s:Shared) (σ:St) (H:Hp) (x:V) (v:Value) (Q:Bool→Hp→Prop),Inv X pins σ H s→RelV x v→r x H Q →
  wpAny (model X.prog X.w) X.A (truthy v) (TP X pins σ Q) X.xe s
def tOp (r:R2)(ta tb:TE):TE:=fun σ H Q=>ta σ H fun x H1=>tb σ H1 fun y H2=>r x y H2 Q
def tUn (r:V→Hp→VK→Prop)(ta:TE):TE:=fun σ H Q=>ta σ H fun x H1=>r x H1 Q
def rI (C:Int→Int→Prop)(g:Int→Int→V):R2:=fun x y H Q=>∃ i j,x=.int i∧y=.int j∧C i j∧Q (g i j) H
def rI0 (g:Int→Int→V):R2:=fun x y H Q=>∃ i j,x=.int i∧y=.int j∧Q (g i j) H
def rU (g:Int→V):V→Hp→VK→Prop:=fun x H Q=>∃ i,x=.int i∧Q (g i) H
section
variable {X:Cx}{a b c:Expr}{ta tb tc:TE}{pos:Pos}
theorem An9(ha:PE X a ta)(hb:PE X b tb){pins:List (Addr × Obj)}{s:Shared}{σ:St}{H:Hp}{R:V→V→Hp→Prop}(I:Inv X pins σ H s)
  (h:ta σ H fun x H1=>tb σ H1 fun y H2=>R x y H2) {Q:Value→Shared→Prop} {f:Value→Value→Sem Value}
  (hf:∀ v u s2 x y H2,Inv X pins σ H2 s2→RelV x v→RelV y u→R x y H2→wpAny (model X.prog X.w) X.A (f v u) Q X.xe s2) :
  wpAny (model X.prog X.w) X.A (eval a X.env) (fun v s₁=>wpAny (model X.prog X.w) X.A (eval b X.env) (fun u s₂=>wpAny (model X.prog X.w) X.A (f v u) Q X.xe s₂) X.xe s₁) X.xe s:=by
 refine thn (ha pins s σ H _ I h) fun v s1 ⟨x,H1,I1,r1,q1⟩=>?_
 refine thn (hb pins s1 σ H1 _ I1 q1) fun u s2 ⟨y,H2,I2,r2,q2⟩=>?_
 exact hf v u s2 x y H2 I2 r1 r2 q2
theorem Bd{op:Operator}{r:R2}(ho:OpR X (binaryOp op) r)(ha:PE X a ta)(hb:PE X b tb):PE X (.BinOp a op b pos) (tOp r ta tb):=by
 intro pins s σ H Q I h
 exact wpAny_BinOp (An9 ha hb I h fun v u s2 x y H2 I2 rx ry q=>ho pins s2 σ H2 x y v u Q I2 rx ry q)
theorem Ane{op:UnaryOp}{r:V→Hp→VK→Prop}(ho:UnR X (unaryOp op) r)(ha:PE X a ta):PE X (.UnaryOp op a pos) (tUn r ta):=by
 intro pins s σ H Q I h
 exact UnaryOp_ (thn (ha pins s σ H _ I h) fun v s1 ⟨x,H1,I1,r1,q1⟩=>ho pins s1 σ H1 x v Q I1 r1 q1)
theorem opI{f:Value→Value→Sem Value}{C:Int→Int→Prop}{g:Int→Int→Int}
  (rule:∀(i j:Int) (t u:Tok) (s:Shared) (Q:Value→Shared→Prop) (E:Value→Shared→Prop),C i j→Q (.int (g i j) s.toks) { s with toks:=s.toks+1 }→wpAny (model X.prog X.w) X.A (f (.int i t) (.int j u)) Q E s) :
  OpR X f (rI C fun i j=>.int (g i j)):=by
 intro pins s σ H x y v u Q I rx ry h
 obtain⟨i,j,rfl,rfl,hc,q⟩:=h
 obtain⟨t,rfl⟩:=rx
 obtain⟨t',rfl⟩:=ry
 exact rule i j t t' s _ _ hc ⟨.int (g i j),H,I.tok _,⟨_,rfl⟩,q⟩
theorem Apn{f:Value→Value→Sem Value}{g:Int→Int→Int}
  (rule:∀(i j:Int) (t u:Tok) (s:Shared) (Q:Value→Shared→Prop) (E:Value→Shared→Prop),Q (.int (g i j) s.toks) { s with toks:=s.toks+1 }→wpAny (model X.prog X.w) X.A (f (.int i t) (.int j u)) Q E s) :
  OpR X f (rI0 fun i j=>.int (g i j)):=by
 intro pins s σ H x y v u Q I rx ry h
 obtain⟨i,j,rfl,rfl,q⟩:=h
 obtain⟨t,rfl⟩:=rx
 obtain⟨t',rfl⟩:=ry
 exact rule i j t t' s _ _ ⟨.int (g i j),H,I.tok _,⟨_,rfl⟩,q⟩
theorem AnA{f:Value→Value→Sem Value}{g:Int→Int→Bool}
  (rule:∀(i j:Int) (t u:Tok) (s:Shared) (Q:Value→Shared→Prop) (E:Value→Shared→Prop),Q (.bool (g i j)) s→wpAny (model X.prog X.w) X.A (f (.int i t) (.int j u)) Q E s) :
  OpR X f (rI0 fun i j=>.bl (g i j)):=by
 intro pins s σ H x y v u Q I rx ry h
 obtain⟨i,j,rfl,rfl,q⟩:=h
 obtain⟨t,rfl⟩:=rx
 obtain⟨t',rfl⟩:=ry
 exact rule i j t t' s _ _ ⟨.bl (g i j),H,I,rfl,q⟩
def Aq7 (i j:Int):Prop:=0<j∧j<1073741824
def ArA (i j:Int):Prop:=j≠0∧j.natAbs<1073741824
def Aq8 (i j:Int):Prop:=0≤j∧j≤1000000∧i.natAbs<2 ^ 64
def AnB (i j:Int):Prop:=(-(2 ^ 64)<i∧i<2 ^ 64)∨(-(2 ^ 64)<j∧j<2 ^ 64)
theorem AnB.ok{i j:Int}(h:AnB i j):IntMulOk i j:=by
 rcases h with ⟨h1,h2⟩ | ⟨h1,h2⟩
 ·exact .of_left (intBits_le_64 h1 h2)
 ·exact .of_right (intBits_le_64 h1 h2)
theorem Gq:OpR X (binaryOp .Add) (rI0 fun i j=>.int (i+j)):=Apn fun _ _ _ _ _ _ _ q=>add_int q
theorem Vo:OpR X (binaryOp .Sub) (rI0 fun i j=>.int (i-j)):=Apn fun _ _ _ _ _ _ _ q=>sub_int q
theorem QQ:OpR X (binaryOp .Mult) (rI AnB fun i j=>.int (i*j)):=opI fun _ _ _ _ _ _ _ hc q=>mul_int q hc.ok
theorem Xn:OpR X (binaryOp .FloorDiv) (rI Aq7 fun i j=>.int (i / j)):=opI fun i j _ _ _ _ _ hc q=>by
 have h1:(0:Int)<j:=hc.1
 have h2:j<1073741824:=hc.2
 exact floordiv_int (by omega) (by rw[Int.fdiv_eq_ediv_of_nonneg i (by omega)];exact q) (.inl (PyProof.noPylong_small (by omega)))
theorem Dv:OpR X (binaryOp .Mod) (rI (fun _ j=>0<j) fun i j=>.int (i%j)):=opI fun i j _ _ _ _ _ hc q=>by
 have h1:(0:Int)<j:=hc
 exact mod_int' (by omega) (by rw[Int.fmod_eq_emod_of_nonneg i (by omega)];exact q)
theorem AnC:OpR X (binaryOp .Pow) (rI Aq8 fun i j=>.int (i ^ j.toNat)):=opI fun _ _ _ _ _ _ _ hc q=>pow_int_small hc.1 hc.2.1 hc.2.2 q
theorem unI{f:Value→Sem Value}{g:Int→Int}
  (rule:∀(i:Int) (t:Tok) (s:Shared) (Q:Value→Shared→Prop) (E:Value→Shared→Prop),Q (.int (g i) s.toks) { s with toks:=s.toks+1 }→wpAny (model X.prog X.w) X.A (f (.int i t)) Q E s) :
  UnR X f (rU fun i=>.int (g i)):=by
 intro pins s σ H x v Q I rx h
 obtain⟨i,rfl,q⟩:=h
 obtain⟨t,rfl⟩:=rx
 exact rule i t s _ _ ⟨.int (g i),H,I.tok _,⟨_,rfl⟩,q⟩
theorem AjP:UnR X (unaryOp .USub) (rU fun i=>.int (-i)):=unI fun _ _ _ _ _ q=>neg_int q
end
def Apo:V→V→Bool
 | .non,.non=>true | .non,.int _=>true | .int _,.non=>true | .non,.bl _=>true | .bl _,.non=>true | .non,.str _=>true | .str _,.non=>true
 | .int _,.int _=>true | .bl _,.bl _=>true | .str _,.str _=>true | .byt _,.byt _=>true
 | .int _,.str _=>true | .str _,.int _=>true | .bl _,.str _=>true | .str _,.bl _=>true
 | _,_=>false
def rEq:R2:=fun x y H Q=>Apo x y=true∧Q (.bl (decide (x=y))) H
def rNe:R2:=fun x y H Q=>Apo x y=true∧Q (.bl (!decide (x=y))) H
theorem Aii{i j:Int}:decide (V.int i=V.int j)=(i == j):=by
 rw[AtJ]
 simp
theorem AjQ{i j:Bool}:decide (V.bl i=V.bl j)=(i == j):=by
 rw[AtJ]
 simp
theorem Aij{i j:Str}:decide (V.str i=V.str j)=(i == j):=by
 rw[AtJ]
 simp
theorem Aik{i j:Array UInt8}:decide (V.byt i=V.byt j)=(i.toList == j.toList):=by
 rw[AtJ]
 cases i
 cases j
 simp
section
variable {X:Cx}{a b c:Expr}{ta tb tc:TE}{pos:Pos}
theorem Dz{pins:List (Addr × Obj)}{σ:St}{H:Hp}{s:Shared}{Q:VK}{k k':Bool}(I:Inv X pins σ H s)(q:Q (.bl k) H)(e:k=k'):EP X pins σ Q (.bool k') s:=by
 subst e
 exact⟨.bl k,H,I,rfl,q⟩
theorem Fi:OpR X (compareOp .Eq) rEq:=by
 intro pins s σ H x y v u Q I rx ry h
 obtain⟨hs,q⟩:=h
 cases x with
 | non =>
  cases rx
  cases y with
  | non=>cases ry;exact PySem.EqNone.eq_none_none (Dz I q (by simp))
  | bl j=>cases ry;exact PySem.EqNone.eq_none_bool (Dz I q (by simp))
  | int j=>obtain⟨t',rfl⟩:=ry;exact PySem.EqNone.eq_none_int (Dz I q (by simp))
  | str j=>obtain⟨t',rfl⟩:=ry;exact PySem.EqNone.eq_none_str (Dz I q (by simp))
  | _=>exact absurd (show false=true from hs) AsT
 | bl i =>
  cases rx
  cases y with
  | non=>cases ry;exact PySem.EqNone.eq_bool_none (Dz I q (by simp))
  | bl j=>cases ry;exact eq_bool (Dz I q AjQ)
  | str j=>obtain⟨t',rfl⟩:=ry;exact PySem.EqMixed.eq_bool_str (Dz I q (by simp))
  | _=>exact absurd (show false=true from hs) AsT
 | int i =>
  obtain⟨t,rfl⟩:=rx
  cases y with
  | non=>cases ry;exact PySem.EqNone.eq_int_none (Dz I q (by simp))
  | int j=>obtain⟨t',rfl⟩:=ry;exact eq_int (Dz I q Aii)
  | str j=>obtain⟨t',rfl⟩:=ry;exact PySem.EqMixed.eq_int_str (Dz I q (by simp))
  | _=>exact absurd (show false=true from hs) AsT
 | str i =>
  obtain⟨t,rfl⟩:=rx
  cases y with
  | non=>cases ry;exact PySem.EqNone.eq_str_none (Dz I q (by simp))
  | bl j=>cases ry;exact PySem.EqMixed.eq_str_bool (Dz I q (by simp))
  | int j=>obtain⟨t',rfl⟩:=ry;exact PySem.EqMixed.eq_str_int (Dz I q (by simp))
  | str j=>obtain⟨t',rfl⟩:=ry;exact eq_str (Dz I q Aij)
  | _=>exact absurd (show false=true from hs) AsT
 | byt i =>
  obtain⟨t,rfl⟩:=rx
  cases y with
  | byt j=>obtain⟨t',rfl⟩:=ry;exact PySem.W.eq_bytes (Dz I q Aik)
  | _=>exact absurd (show false=true from hs) AsT
 | _=>cases y <;> exact absurd (show false=true from hs) AsT
theorem Aad:OpR X (compareOp .NotEq) rNe:=by
 intro pins s σ H x y v u Q I rx ry h
 obtain⟨hs,q⟩:=h
 cases x with
 | non =>
  cases rx
  cases y with
  | non=>cases ry;exact PySem.EqNone.ne_none_none (Dz I q (by simp))
  | bl j=>cases ry;exact PySem.EqNone.ne_none_bool (Dz I q (by simp))
  | int j=>obtain⟨t',rfl⟩:=ry;exact PySem.EqNone.ne_none_int (Dz I q (by simp))
  | str j=>obtain⟨t',rfl⟩:=ry;exact PySem.EqNone.ne_none_str (Dz I q (by simp))
  | _=>exact absurd (show false=true from hs) AsT
 | bl i =>
  cases rx
  cases y with
  | non=>cases ry;exact PySem.EqNone.ne_bool_none (Dz I q (by simp))
  | bl j=>cases ry;exact ne_bool (Dz I q (congrArg not AjQ))
  | str j=>obtain⟨t',rfl⟩:=ry;exact PySem.EqMixed.ne_bool_str (Dz I q (by simp))
  | _=>exact absurd (show false=true from hs) AsT
 | int i =>
  obtain⟨t,rfl⟩:=rx
  cases y with
  | non=>cases ry;exact PySem.EqNone.ne_int_none (Dz I q (by simp))
  | int j=>obtain⟨t',rfl⟩:=ry;exact ne_int (Dz I q (congrArg not Aii))
  | str j=>obtain⟨t',rfl⟩:=ry;exact PySem.EqMixed.ne_int_str (Dz I q (by simp))
  | _=>exact absurd (show false=true from hs) AsT
 | str i =>
  obtain⟨t,rfl⟩:=rx
  cases y with
  | non=>cases ry;exact PySem.EqNone.ne_str_none (Dz I q (by simp))
  | bl j=>cases ry;exact PySem.EqMixed.ne_str_bool (Dz I q (by simp))
  | int j=>obtain⟨t',rfl⟩:=ry;exact PySem.EqMixed.ne_str_int (Dz I q (by simp))
  | str j=>obtain⟨t',rfl⟩:=ry;exact ne_str (Dz I q (congrArg not Aij))
  | _=>exact absurd (show false=true from hs) AsT
 | byt i =>
  obtain⟨t,rfl⟩:=rx
  cases y with
  | byt j=>obtain⟨t',rfl⟩:=ry;exact PySem.W.ne_bytes (Dz I q (congrArg not Aik))
  | _=>exact absurd (show false=true from hs) AsT
 | _=>cases y <;> exact absurd (show false=true from hs) AsT
theorem Acd:OpR X (compareOp .Lt) (rI0 fun i j=>.bl (decide (i<j))):=AnA fun _ _ _ _ _ _ _ q=>lt_int q
theorem Yj:OpR X (compareOp .Gt) (rI0 fun i j=>.bl (decide (j<i))):=AnA fun _ _ _ _ _ _ _ q=>gt_int q
theorem AjR:OpR X (compareOp .GtE) (rI0 fun i j=>.bl (decide (j≤i))):=AnA fun _ _ _ _ _ _ _ q=>ge_int q
theorem Ahx:OpR X (compareOp .Is) (fun x y H Q=>y=.non∧Q (.bl (decide (x=.non))) H):=by
 intro pins s σ H x y v u Q I rx ry h
 obtain⟨rfl,q⟩:=h
 cases ry
 refine is_none_gen (Dz I q ?_)
 cases x <;> first
  | (cases rx;rfl)
  | (obtain⟨t,rfl⟩:=rx;rfl)
theorem Aae:OpR X (compareOp .NotIn) (fun x y H Q=>∃ i j,x=.str i∧y=.str j∧Q (.bl (!(!(Builtin.Str.occurrences j i 0 j.length 1).isEmpty))) H):=by
 intro pins s σ H x y v u Q I rx ry h
 obtain⟨i,j,rfl,rfl,q⟩:=h
 obtain⟨t,rfl⟩:=rx
 obtain⟨t',rfl⟩:=ry
 exact notIn_str (Dz I q rfl)
def isObj:HO→Bool
 | .lst _=>true
 | .ins _ _ _=>true
 | _=>false
theorem Be(b:Expr){op:CmpOp}(h:op≠.In:=by decide)(h2:op≠.NotIn:=by decide):behindInMarks op b=false:=by
 have e1:(op == CmpOp.In)=false:=by cases op <;> first | rfl | exact absurd rfl h
 have e2:(op == CmpOp.NotIn)=false:=by cases op <;> first | rfl | exact absurd rfl h2
 cases b <;> simp[behindInMarks,e1,e2]
theorem AlM{op:CmpOp}{r:R2}(ho:OpR X (compareOp op) r)(ha:PE X a ta)(hb:PE X b tb)(hm:behindInMarks op b=false):PE X (.Compare a [op] [b] pos) (tOp r ta tb):=by
 intro pins s σ H Q I h
 exact wpAny_Compare1 (An9 ha hb I h fun v u s2 x y H2 I2 rx ry q=>ho pins s2 σ H2 x y v u Q I2 rx ry q) hm
def Apq (t:TE):TT:=fun σ H Q=>t σ H fun x H'=>∃ k,x=.bl k∧Q k H'
theorem An{op:CmpOp}{r:R2}(ho:OpR X (compareOp op) r)(ha:PE X a ta)(hb:PE X b tb)(hm:behindInMarks op b=false):PT X (.Compare a [op] [b] pos) (Apq (tOp r ta tb)):=by
 intro pins s σ H Q I h
 refine wpAny_isTrue_Compare1 (thn (ha pins s σ H _ I h) fun v s1 ⟨x,H1,I1,r1,q1⟩=>thn (hb pins s1 σ H1 _ I1 q1) fun u s2 ⟨y,H2,I2,r2,q2⟩ =>
  thn (ho pins s2 σ H2 x y v u _ I2 r1 r2 q2) fun c s3 ⟨z,H3,I3,r3,k,e,q3⟩=>?_) hm
 subst e
 cases r3
 exact wpAny_truthy_bool ⟨H3,I3,q3⟩
def Aq9 (r r':R2)(ta tb tc:TE):TE:=fun σ H Q=>ta σ H fun x H1=>tb σ H1 fun y H2=>r x y H2 fun z H3=>∃ k,z=.bl k ∧
 (if k=true then tc σ H3 fun w' H4=>r' y w' H4 Q else Q (.bl false) H3)
def Asf (K:PySem.W.Frag)(x:V)(H:Hp)(k:Bool):Prop :=
 match x with
 | .non=>k=false
 | .bl b=>k=b
 | .int i=>k=(i != 0)
 | .str y=>y.length≤sizeLine∧k=((y.length:Int) != 0)
 | .byt y=>y.size≤sizeLine∧k=((y.size:Int) != 0)
 | .ref p=>(∃ xs,SqL K H p xs∧k=!xs.isEmpty)∨(∃ xs,SqT K H p xs∧k=!xs.isEmpty)∨∃ kvs,H p=some (.dK kvs)∧k=!kvs.isEmpty
 | _=>False
theorem Abt:(sizeLine:Nat)<2 ^ 63:=by rw[sizeLine_eq];decide
theorem Nu:OpR X (binaryOp .Add) (fun x y H Q=>∃ i j,x=.str i∧y=.str j∧i.length+j.length≤sizeLine∧Q (.str (i++j)) H):=by
 intro pins s σ H x y v u Q I rx ry h
 obtain⟨i,j,rfl,rfl,hz,q⟩:=h
 obtain⟨t,rfl⟩:=rx
 obtain⟨t',rfl⟩:=ry
 exact add_str (fun t' tk=>⟨.str (i++j),H,I.tok _,⟨_,rfl⟩,q⟩) hz
def Aps (b:Expr):Prop:=∀ o i,subscripted b false o i=operate [o,i] (getItem o i)
theorem vals1{x:V}{us:List Value}(r:Vals [x] us):∃ u,us=[u]∧RelV x u:=by
 cases r with
 | cons r1 r2=>cases r2;exact⟨_,rfl,r1⟩
theorem vals2{x y:V}{us:List Value}(r:Vals [x,y] us):∃ u w',us=[u,w']∧RelV x u∧RelV y w':=by
 cases r with
 | cons r1 r2 =>
  cases r2 with
  | cons r3 r4=>cases r4;exact⟨_,_,rfl,r1,r3⟩
theorem AiZ(hc:X.calm=true):JB X (.builtin "max") (fun xs H Q=>∃ i j,xs=[.int i,.int j]∧Q (.int (if j>i then j else i)) H):=by
 intro pins s σ H xs us Q I r h
 obtain⟨i,j,rfl,q⟩:=h
 obtain⟨u,w',rfl,⟨t,rfl⟩,⟨t',rfl⟩⟩:=vals2 r
 refine max_two_ints (I.ok.hd hc) fun h' tk k=>⟨_,H,I.kept k,?_,q⟩
 by_cases hj:j>i
 ·rw[if_pos hj,if_pos hj];exact⟨_,rfl⟩
 ·rw[if_neg hj,if_neg hj];exact⟨_,rfl⟩
theorem Aja(hc:X.calm=true):JB X (.builtin "min") (fun xs H Q=>∃ i j,xs=[.int i,.int j]∧Q (.int (if j<i then j else i)) H):=by
 intro pins s σ H xs us Q I r h
 obtain⟨i,j,rfl,q⟩:=h
 obtain⟨u,w',rfl,⟨t,rfl⟩,⟨t',rfl⟩⟩:=vals2 r
 refine min_two_ints (I.ok.hd hc) fun h' tk k=>⟨_,H,I.kept k,?_,q⟩
 by_cases hj:j<i
 ·rw[if_pos hj,if_pos hj];exact⟨_,rfl⟩
 ·rw[if_neg hj,if_neg hj];exact⟨_,rfl⟩
theorem Ajb:JB X (.type "int") (fun xs H Q=>(∃ i,xs=[.int i]∧Q (.int i) H)∨∃ k,xs=[.bl k]∧Q (.int (if k then 1 else 0)) H):=by
 intro pins s σ H xs us Q I r h
 rcases h with ⟨i,rfl,q⟩ | ⟨k,rfl,q⟩
 ·obtain⟨u,rfl,t,rfl⟩:=vals1 r
  exact call_int_int ⟨.int i,H,I,⟨_,rfl⟩,q⟩
 ·obtain⟨u,rfl,r1⟩:=vals1 r
  cases r1
  exact call_int_bool ⟨.int (if k then 1 else 0),H,I.tok _,⟨_,rfl⟩,q⟩
def Asg (K:PySem.W.Frag)(x:V)(H:Hp)(n:Nat):Prop :=
 match x with
 | .str y=>y.length≤sizeLine∧n=y.length
 | .byt y=>y.size≤sizeLine∧n=y.size
 | .ref p=>(∃ xs,SqL K H p xs∧n=xs.length)∨∃ xs,SqT K H p xs∧n=xs.length
 | _=>False
end
open PySem PySem.Spec PyProof.Rows
structure AqA (h:Heap) (x dx C:Addr) (mA:Str→Option Value):Prop where
 obj:h.get? x=some (PySem.W.instObj C dx)
 ns:h.Ns1 dx mA
 ne:dx≠x
section
variable {prog:Program}{w:World}{A:Around}{E:Value→Shared→Prop}{s:Shared}{K:PySem.W.Frag}{x dx C f:Addr}{mA:Str→Option Value}{name:Str}{v:Value}
end
def AnD (f:Str)(v:V):List (Str × V)→List (Str × V)
 | []=>[(f,v)]
 | (g,x)::r=>if g=f then (g,v)::r else (g,x)::AnD f v r
section
variable {P:Program}{w:World}{H H':Hp}{h h':Heap}{a C dx:Addr}{fs fs':List (Str × V)}
theorem Aaf(hok:HOk P w H h)(e:H a=some (.ins C dx fs)):∃ mA,AqA h a dx C mA∧(∀ f,An7 (fs.lookup f) (mA f))∧PySem.Within mA (fs.map (·.1))∧fs.length≤1000∧H dx=some (.own a):=by
 obtain⟨d,z,ne,ob,mA,n,r,q⟩:=(show JH P w H h a (.ins C dx fs) from hok a _ e)
 exact⟨mA,⟨ob,n,ne⟩,r,q,z,d⟩
end
structure Cls (K:PySem.W.Frag) (C:Addr):Prop where
 pg:PySem.W.plainGet K C Str.empty=true
 hd:PySem.W.hasDictIn K C=true
 po:PySem.W.plainOver K C=true
 sa:PySem.W.findIn K (.ref C) "__setattr__" = some (some (.builtin "object.__setattr__"))
def Ahy (K:PySem.W.Frag)(C:Addr)(f:Str):Prop:=PySem.W.findIn K (.ref C) f=some none
structure Con (K:PySem.W.Frag) (C:Addr) (f:Str) (v:V) (u:Value):Prop where
 at_:PySem.W.findIn K (.ref C) f=some (some u)
 rel:RelV v u
 get:PySem.W.specialIn K u "__get__" = some none
 cp:PySem.W.copiedNames.contains f=false
structure Meth (K:PySem.W.Frag) (C:Addr) (m:Str) (f:Addr):Prop where
 at_:PySem.W.findIn K (.ref C) m=some (some (.ref f))
 fn:PySem.W.isFn K (.ref f)=true
 kp:PySem.W.keepIn K (.ref f)=true
section
variable {X:Cx}{pins:List (Addr × Obj)}{σ:St}{H:Hp}{s:Shared}{a C dx:Addr}{fs:List (Str × V)}{f:Str}{v:V}{A:Around}{E:Value→Shared→Prop}
end
def Ash (K:PySem.W.Frag)(ta:TE)(f:Str):TE:=fun σ H Q=>ta σ H fun x H1=>∃ a C dx fs v,x=.ref a∧H1 a=some (.ins C dx fs)∧Cls K C∧Ahy K C f∧fs.lookup f=some v∧Q v H1
def Asi (K:PySem.W.Frag)(ta:TE)(f:Str):TE:=fun σ H Q=>ta σ H fun x H1=>∃ a C dx fs v u,x=.ref a∧H1 a=some (.ins C dx fs)∧Cls K C∧Con K C f v u∧fs.lookup f=none∧Q v H1
def Asj (K:PySem.W.Frag)(ta tv:TE)(f:Str):TS:=fun D σ H=>tv σ H fun y H1=>ta σ H1 fun x H2=>∃ a C dx fs,x=.ref a∧H2 a=some (.ins C dx fs)∧Cls K C∧Ahy K C f∧fs.length<1000 ∧
 D.nx σ (upd H2 a (.ins C dx (AnD f y fs)))
def Asl (X:Cx)(op:Operator)(rd:V→V→Hp→VK→Prop):Prop :=
 ∀(pins:List (Addr × Obj)) (s:Shared) (σ:St) (H:Hp) (x y:V) (u v:Value) (Q:VK),Inv X pins σ H s→RelV x u→RelV y v→rd x y H Q→wpAny (model X.prog X.w) X.A (inplaceOp op u v) (EP X pins σ Q) X.xe s
def Aqm (K:PySem.W.Frag)(ta tv:TE)(rd:V→V→Hp→VK→Prop)(f:Str):TS:=fun D σ H=>ta σ H fun x H1=>∃ a C dx fs v,x=.ref a∧H1 a=some (.ins C dx fs)∧Cls K C∧Ahy K C f∧fs.lookup f=some v ∧
 tv σ H1 fun y H2=>rd v y H2 fun z H3=>∃ dx' fs',H3 a=some (.ins C dx' fs')∧fs'.length<1000∧D.nx σ (upd H3 a (.ins C dx' (AnD f z fs')))
section
variable {X:Cx}{o e value:Expr}{f:Str}{pos pos' tpos:Pos}{ta tv:TE}
def Asm:V→V→Hp→VK→Prop:=fun x y H Q=>∃ i j,x=.int i∧y=.int j∧Q (.int (i+j)) H
def Asn:V→V→Hp→VK→Prop:=fun x y H Q=>∃ i j,x=.int i∧y=.int j∧Q (.int (i-j)) H
end
section
variable {X:Cx}{pins:List (Addr × Obj)}{σ:St}{H:Hp}{s:Shared}{A:Around}{E:Value→Shared→Prop}{Q:Value→Shared→Prop}{c:Value}{b:Bool}
inductive Ac9 (K:PySem.W.Frag) (H:Hp):V→Value→Prop where
 | non:Ac9 K H .non (.type "NoneType")
 | bl (x:Bool):Ac9 K H (.bl x) (.type "bool")
 | int (i:Int):Ac9 K H (.int i) (.type "int")
 | str (x:Str):Ac9 K H (.str x) (.type "str")
 | flt (x:UInt64):Ac9 K H (.flt x) (.type "float")
 | lst {a:Addr} {xs:List V} (e:H a=some (.lst xs)):Ac9 K H (.ref a) (.type "list")
 | frz {a:Addr} {o:Obj} {xs:List V} (e:H a=some (.frz o (.lst xs))):Ac9 K H (.ref a) (.type "list")
 | tup {a:Addr} {xs:List V} (e:H a=some (.tup xs)):Ac9 K H (.ref a) (.type "tuple")
 | dK {a:Addr} {kvs:List (Key × V)} (e:H a=some (.dK kvs)):Ac9 K H (.ref a) (.type "dict")
 | dT {a:Addr} {kvs:List (List Key × V)} (e:H a=some (.dT kvs)):Ac9 K H (.ref a) (.type "dict")
 | ins {a C dx:Addr} {fs:List (Str × V)} (e:H a=some (.ins C dx fs)) (cl:Cls K C) (ha:PySem.W.findIn K (.ref C) "__class__" = some (some (.builtin "object.__class__")))
   (hn:PySem.W.specialIn K (.builtin "object.__class__") "__get__" = some (some (.builtin "getset_descriptor.__get__"))) (htk:PySem.W.takesIn K (.builtin "object.__class__")=some true)
   (hm:PySem.W.mroIn K C (.type "object")=some true):Ac9 K H (.ref a) (.ref C)
end
open PySem PySem.Spec PyProof.Rows
structure Mq (k:Nat) (A:Around):Prop where
 hd:A.handled=none
 dp:A.depth+3*k+5<recursionLimit
 un:A.units+16*k+200<cLine
theorem Mq.mono{j k:Nat}{A:Around}(r:Mq k A)(h:j≤k):Mq j A:=⟨r.hd,by have:=r.dp;omega,by have:=r.un;omega⟩
theorem Mq.deeper{k:Nat}{A:Around}(r:Mq (k+1) A)(env:Env):Mq k (A.deeper env) :=
 ⟨r.hd,by have:=r.dp;show A.depth+1+3*k+5<_;omega,by have:=r.un;show A.units+3+16*k+200<_;omega⟩
theorem Mq.depth{k:Nat}{A:Around}(r:Mq k A):A.depth<recursionLimit:=by have:=r.dp;omega
def AqB:TA:=fun _ H Q=>Q [] H
def Apt (ta:TE)(tr:TA):TA:=fun σ H Q=>ta σ H fun x H1=>tr σ H1 fun xs H2=>Q (x::xs) H2
section
variable {X:Cx}{e:Expr}{es:List Expr}{te:TE}{t:TA}{pos:Pos}
theorem Ad:PA X [] AqB:=fun _ _ _ _ H Q I h=>Calls.spliced_nil ⟨[],H,I,.nil,h⟩
theorem Aa(ha:PE X e te)(hr:PA X es t)(hs:starEach (e::es) X.env=(false,eval e X.env)::starEach es X.env:=by rfl):PA X (e::es) (Apt te t):=by
 intro pos pins s σ H Q I h
 rw[hs]
 show wpAny _ _ (spliced ((false,eval e X.env)::backTo pos (starEach es X.env))) _ _ s
 refine Calls.spliced_cons (thn (ha pins s σ H _ I h) fun u s1 ⟨x,H1,I1,r1,q1⟩=>?_)
 exact thn (hr pos pins s1 σ H1 _ I1 q1) fun us s2 ⟨xs,H2,I2,r2,q2⟩=>⟨x::xs,H2,I2,.cons r1 r2,q2⟩
def AqC (t:TA):TE:=fun σ H Q=>t σ H fun xs H1=>xs.length≤sizeLine∧∀ p,H1 p=none→Q (.ref p) (upd H1 p (.tup xs))
def AqD (t:TA):TE:=fun σ H Q=>t σ H fun xs H1=>xs.length≤sizeLine∧∀ p,H1 p=none→Q (.ref p) (upd H1 p (.lst xs))
theorem K5{x1}(h:PA X es t):PE X (.Tuple es x1 pos) (AqC t):=by
 intro pins s σ H Q I hq
 refine wpAny_Tuple_spliced (thn (h pos pins s σ H _ I hq) fun us s1 ⟨xs,H1,I1,r,z,q⟩=>⟨by rw[← r.length];exact z,?_⟩)
 have hf:H1 s1.heap.objs.size=none:=I1.hok.fresh (AsI _)
 refine⟨.ref s1.heap.objs.size,upd H1 s1.heap.objs.size (.tup xs),I1.laid (t':=s1.toks) (fun b u e=>Heap.get?_push_of_some _ e) (AsI _) ?_,rfl,q _ hf⟩
 exact⟨z,us,r,⟨_,Heap.get?_push_size _ rfl,rfl,_,rfl⟩⟩
theorem RM(h:PA X es t):PE X (.List es pos) (AqD t):=by
 intro pins s σ H Q I hq
 refine wpAny_List_spliced (thn (h pos pins s σ H _ I hq) fun us s1 ⟨xs,H1,I1,r,z,q⟩=>⟨by rw[← r.length];exact z,?_⟩)
 have hf:H1 s1.heap.objs.size=none:=I1.hok.fresh (AsI _)
 refine⟨.ref s1.heap.objs.size,upd H1 s1.heap.objs.size (.lst xs),I1.laid (t':=s1.toks) (fun b u e=>Heap.get?_push_of_some _ e) (AsI _) ?_,rfl,q _ hf⟩
 exact⟨z,us,0,r,Heap.get?_push_size _ rfl⟩
end
abbrev Sp:=List V→Hp→VK→XK→Prop
abbrev CXT:=List Env→Hp→Shared→XK→Value→Shared→Prop
structure AjS (P:Program) (w:World) (K:PySem.W.Frag) (mg:Str→Option Value) (base:Heap) (A:Around) (outer:List Env) (s:Shared) (H:Hp):Prop where
 frames:A.frames=some outer
 mod:Mod K mg base
 bs:∀ b o,base.get? b=some o→s.heap.get? b=some o∧H b=none
 bsz:base.objs.size≤s.heap.objs.size
 Yp:s.heap.FunFrames base outer
 frf:∀ b∈frs outer,H b=none
 hok:HOk P w H s.heap
 bare:AllBare s.gens
def CE (outer:List Env)(P:Program)(w:World)(H:Hp)(s:Shared)(Q:VK)(u:Value)(s':Shared):Prop :=
 ∃ v H',s'.os=s.os∧AllBare s'.gens∧Un (frs outer) [] H H' s.heap s'.heap∧HOk P w H' s'.heap∧RelV v u∧Q v H'
def CR (CX:CXT)(outer:List Env)(P:Program)(w:World)(H:Hp)(s:Shared)(Q:VK)(E:XK)(r:Result)(s':Shared):Prop :=
 match r with
 | .ok (.ret u)=>CE outer P w H s Q u s'
 | .ok _=>False
 | .error e=>CX outer H s E e s'
structure Bp (P:Program) (w:World) (K:PySem.W.Frag) (mg:Str→Option Value) (base:Heap) (CX:CXT) (k:Nat) (f:Addr) (fd:FuncData) (ps:List Str) (sp:Sp):Prop where
 len:∀ vs H Q E,sp vs H Q E→vs.length=ps.length
 run:∀(A:Around) (outer:List Env) (s:Shared) (H:Hp) (args:Args) (us:List Value) (vs:List V) (Q:VK) (E:XK),Mq k A→AjS P w K mg base A outer s H→BindsTo s fd args (ps.zip us)→Vals vs us→sp vs H Q E →
  codeAny (model P w) A (.call (.ref f) args) (CR CX outer P w H s Q E) s
theorem Bp.mono{P:Program}{w:World}{K:PySem.W.Frag}{mg:Str→Option Value}{base:Heap}{CX:CXT}{j k:Nat}{f:Addr}{fd:FuncData}{ps:List Str}{sp:Sp}(F:Bp P w K mg base CX j f fd ps sp)(h:j≤k) :
  Bp P w K mg base CX k f fd ps sp:=⟨F.len,fun A outer s H args us vs Q E hr=>F.run A outer s H args us vs Q E (hr.mono h)⟩
section
variable {X:Cx}{pins:List (Addr × Obj)}{σ:St}{H:Hp}{s s':Shared}
theorem Inv.env0(I:Inv X pins σ H s):AjS X.prog X.w X.K X.mg X.base X.A X.stack s H :=
 ⟨I.ok.frames,I.ok.mod,I.bs,AsX I.ok.bsz I.sz,I.stack,I.Aab,I.hok,I.bare⟩
theorem Inv.after{Q:VK}{u:Value}(I:Inv X pins σ H s)(h:CE X.stack X.prog X.w H s Q u s'):EP X pins σ Q u s':=by
 obtain⟨v,H',os,bare,un,hok,r,q⟩:=h
 obtain⟨hh,g,d,t,os'⟩:=s'
 obtain rfl:os'=s.os:=os
 exact⟨v,H',I.call (h':=hh) (g':=g) (d':=d) (t':=t) (ch:=[]) un hok bare (fun b z=>absurd z (by simp)),r,q⟩
end
def Anf (sp:Sp)(dvs:List V)(E:XK)(t:TA):TE:=fun σ H Q=>t σ H fun vs H1=>sp (vs++dvs) H1 Q E
def ArB (C:Addr)(m:Str)(sp:Sp)(dvs:List V)(E:XK)(ta:TE)(t:TA):TE:=fun σ H Q=>ta σ H fun x H1=>∃ a dx fs,x=.ref a∧H1 a=some (.ins C dx fs)∧fs.lookup m=none ∧
 t σ H1 fun vs H2=>sp (x::(vs++dvs)) H2 Q E
def ArC (C:Addr)(sp:Sp)(dvs:List V)(E:XK)(t:TA):TE:=fun σ H Q=>t σ H fun vs H1=>∀ x dx,H1 x=none→H1 dx=none→dx≠x →
 sp (.ref x::(vs++dvs)) (upd (upd H1 dx (.own x)) x (.ins C dx [])) (fun v H2=>v=.non∧Q (.ref x) H2) E
def Binds(K:PySem.W.Frag)(fd:FuncData)(ps:List Str)(ds:List Value):Prop :=
 ∀(s:Shared) (us:List Value),K.In s.heap→(us++ds).length=ps.length→BindsTo s fd ⟨us,[]⟩ (ps.zip (us++ds))
theorem Binds.all{K:PySem.W.Frag}{fd:FuncData}{ps:List Str}(h:∀ us:List Value,us.length=ps.length→bindArgs fd ⟨us,[]⟩=pure (ps.zip us)):Binds K fd ps []:=fun s us _ hl=>by
 rw[Atk] at hl ⊢
 exact .of_eq (h us hl)
def Passes(CX:CXT)(X:Cx)(E:XK):Prop:=∀(pins:List (Addr × Obj)) (σ:St) (H:Hp) (s:Shared) (e:Value) (s':Shared),Inv X pins σ H s→CX X.stack H s E e s'→X.xe e s'
section
variable {X:Cx}{CX:CXT}{k:Nat}{f C:Addr}{fd:FuncData}{ps:List Str}{sp:Sp}{dvs:List V}{ds:List Value}{E:XK}{x m:Str}{p pos apos:Pos}{e o:Expr}{es:List Expr}{ta:TE}{t:TA}
theorem AjT{pins:List (Addr × Obj)}{σ:St}{H:Hp}{s:Shared}{Q:VK}{us:List Value}{vs:List V}(F:Bp X.prog X.w X.K X.mg X.base CX k f fd ps sp)(hr:Mq k X.A)(hb:Binds X.K fd ps ds)(hd:Vals dvs ds)(hx:Passes CX X E)
  (I:Inv X pins σ H s) (r:Vals vs us) (h:sp (vs++dvs) H Q E):wpAny (model X.prog X.w) X.A (call (.ref f) us) (EP X pins σ Q) X.xe s:=by
 have r2:Vals (vs++dvs) (us++ds):=r.append hd
 have hl:(us++ds).length=ps.length:=by rw[← r2.length];exact F.len _ _ _ _ h
 refine wpAny_call (codeAny_mono (F.run X.A X.stack s H ⟨us,[]⟩ (us++ds) (vs++dvs) Q E hr I.env0 (hb s us I.kIn hl) r2 h) fun r s' hq=>?_)
 cases r with
 | error e=>exact hx pins σ H s e s' I hq
 | ok fl =>
  cases fl with
  | ret u=>exact I.after hq
  | next=>exact False.elim hq
  | brk=>exact False.elim hq
  | cont=>exact False.elim hq
theorem Bw(F:Bp X.prog X.w X.K X.mg X.base CX k f fd ps sp)(hr:Mq k X.A)(hg:Gl X x)(hm:X.mg x=some (.ref f))(hk:PySem.W.keepIn X.K (.ref f)=true)(hb:Binds X.K fd ps ds)(hd:Vals dvs ds)(hx:Passes CX X E)
  (ha:PA X (e::es) t) (hdb:(x == ("__debug__" : Str))=false:=by decide) (he:starEach (e::es) X.env=(false,eval e X.env)::starEach es X.env:=by rfl) (hpl:(backTo pos (starEach es X.env)).any (·.1)=false:=by rfl) :
  PE X (.Call (.Name x p) (e::es) [] pos) (Anf sp dvs E t):=by
 intro pins s σ H Q I h
 refine wpAny_Call_Name_kw (Aac I hg hm ?_ hdb)
 refine PySem.W.callWith_K (h₀:=X.base) I.ok.mod.kin hk (thn (ha pos pins s σ H _ I h) fun us s1 ⟨vs,H1,I1,r,q⟩=>⟨I1.kIn,?_⟩) he hpl
 exact AjT F hr hb hd hx I1 r q
structure Mk (K:PySem.W.Frag) (C f:Addr):Prop where
 makes:PySem.W.makesIn K C=true
 init:PySem.W.findIn K (.ref C) "__init__" = some (some (.ref f))
 fn:PySem.W.isFn K (.ref f)=true
 kp:PySem.W.keepIn K (.ref C)=true
end
def PK (X:Cx)(kws:List Keyword)(t:TA):Prop :=
 ∀(pos:Pos) (pins:List (Addr × Obj)) (s:Shared) (σ:St) (H:Hp) (Q:List V→Hp→Prop),Inv X pins σ H s→t σ H Q→wpAny (model X.prog X.w) X.A (evalAll ((backToKw pos (keywordEach kws X.env)).map (·.2))) (AP X pins σ Q) X.xe s
section
variable {X:Cx}{CX:CXT}{k:Nat}{f C:Addr}{fd:FuncData}{ps ks:List Str}{sp:Sp}{E:XK}{x m:Str}{p pos apos Aso:Pos}{e o:Expr}{es:List Expr}{kws:List Keyword}{te ta:TE}{t tk:TA}{nm:Option Str}
structure AqE (K:PySem.W.Frag) (fd:FuncData) (ps ks:List Str) (g:List Value→List Value→List Value) (gV:List V→List V→List V):Prop where
 to:∀(s:Shared) (us ws:List Value),K.In s.heap→(g us ws).length=ps.length→BindsTo s fd ⟨us,ks.zip ws⟩ (ps.zip (g us ws))
 rel:∀{vs:List V} {us:List Value} {zs:List V} {ws:List Value},Vals vs us→Vals zs ws→Vals (gV vs zs) (g us ws)
def AqF (sp:Sp)(gV:List V→List V→List V)(E:XK)(t tk:TA):TE:=fun σ H Q=>t σ H fun vs H1=>tk σ H1 fun zs H2=>sp (gV vs zs) H2 Q E
variable {g:List Value→List Value→List Value}{gV:List V→List V→List V}
end
structure Cm (N P:List Str) (sc:Scope):Prop where
 kind:sc.kind=.function
 co:sc.isCoroutine=false
 gen:sc.isGenerator=false
 nd:N.Nodup
 pre:N.take P.length=P
 par:∀ x∈P,sc.names.lookup x=some .local∨sc.names.lookup x=some .cell
 AnE:∀ y∈sc.names,y.2≠.free
theorem AeJ{kindOf:Str→Option NameKind}{x:Str}:∀{binds:List (Str × Value)} {m:Str→Option Value},(∀ v,(x,v)∉binds)→bindL kindOf binds m x=m x
 | [],_,_=>rfl
 | (n,v)::r,m,h=>by
  unfold bindL
  rw[AeJ fun w hw=>h w (AsW _ hw)]
  split
  ·have:x≠n:=by rintro rfl;exact h v AsR
   simp[this]
  ·rfl
theorem AeK{kindOf:Str→Option NameKind}{x:Str}:∀{binds:List (Str × Value)} {m:Str→Option Value},(∀ v,(x,v)∉binds)→bindC kindOf binds m x=m x
 | [],_,_=>rfl
 | (n,v)::r,m,h=>by
  unfold bindC
  rw[AeK fun w hw=>h w (AsW _ hw)]
  split
  ·rfl
  ·have:x≠n:=by rintro rfl;exact h v AsR
   simp[this]
theorem AeL{kindOf:Str→Option NameKind}{x:Str}{v:Value}:∀{P:List Str} {vs:List Value} {i:Nat} {m:Str→Option Value},P.Nodup→P[i]?=some x→vs[i]?=some v→kindOf x=some .local →
  bindL kindOf (P.zip vs) m x=some v
 | [],_,_,_,_,h,_,_=>by simp at h
 | _::_,[],_,_,_,_,h,_=>by simp at h
 | p::P,w::vs,0,m,nd,h1,h2,hk=>by
  simp at h1 h2;subst h1;subst h2
  show bindL kindOf ((p,w)::P.zip vs) m p=_
  unfold bindL
  rw[AeJ fun v hv=>(List.nodup_cons.mp nd).1 (List.of_mem_zip hv).1,if_pos hk]
  simp
 | p::P,w::vs,i+1,m,nd,h1,h2,hk=>by
  show bindL kindOf ((p,w)::P.zip vs) m x=_
  unfold bindL
  exact AeL (i:=i) (List.nodup_cons.mp nd).2 (by simpa using h1) (by simpa using h2) hk
theorem AeM{kindOf:Str→Option NameKind}{x:Str}{v:Value}:∀{P:List Str} {vs:List Value} {i:Nat} {m:Str→Option Value},P.Nodup→P[i]?=some x→vs[i]?=some v→kindOf x≠some .local →
  bindC kindOf (P.zip vs) m x=some v
 | [],_,_,_,_,h,_,_=>by simp at h
 | _::_,[],_,_,_,_,h,_=>by simp at h
 | p::P,w::vs,0,m,nd,h1,h2,hk=>by
  simp at h1 h2;subst h1;subst h2
  show bindC kindOf ((p,w)::P.zip vs) m p=_
  unfold bindC
  rw[AeK fun v hv=>(List.nodup_cons.mp nd).1 (List.of_mem_zip hv).1,if_neg hk]
  simp
 | p::P,w::vs,i+1,m,nd,h1,h2,hk=>by
  show bindC kindOf ((p,w)::P.zip vs) m x=_
  unfold bindC
  exact AeM (i:=i) (List.nodup_cons.mp nd).2 (by simpa using h1) (by simpa using h2) hk
def start(N:List Str)(vs:List V):St:=vs.map some++List.replicate (N.length-vs.length) none
def Ae4 (CX:CXT)(P:Program)(w:World)(K:PySem.W.Frag)(mg:Str→Option Value)(base:Heap)(N:List Str)(qual:Str)(scope:Scope)(f:Addr)(cd:Value)(A:Around)(outer:List Env)(s:Shared)(H:Hp)(E:XK):Cx where
 prog:=P
 w:=w
 K:=K
 mg:=mg
 base:=base
 A:=A.deeper (envOfC qual scope s.heap.objs.size f cd)
 N:=N
 s₀:=s
 H₀:=H
 env:=envOfC qual scope s.heap.objs.size f cd
 outer:=outer
 stack:=envOfC qual scope s.heap.objs.size f cd::outer
 ex:=[]
 calm:=true
 fn:=fun _=>true
 pn:=[]
 xe:=fun e s'=>wpAny (model P w) (A.deeper (envOfC qual scope s.heap.objs.size f cd)) (leaving (envOfC qual scope s.heap.objs.size f cd) e) (fun _ s''=>CX outer H s E e s'') (fun e' s''=>CX outer H s E e' s'') s'
theorem Agl{sc:Scope}{n:Nat}{x:Str}(h:sc.names.lookup x=some .cell):∃ c,(cellsFrom n sc.names []).lookup x=some c:=by
 have q:=PySem.W.cellsFrom_some sc.names n [] (.inl h)
 exact Option.isSome_iff_exists.mp q
theorem Ajc{CX:CXT}{P:Program}{w:World}{K:PySem.W.Frag}{mg:Str→Option Value}{base:Heap}{N ps:List Str}{qual:Str}{scope:Scope}{f:Addr}{cd:Value}{A:Around}{outer:List Env}{s s1:Shared}{H:Hp}{E:XK}{us:List Value}{vs:List V}
  (S:Cm N ps scope) (hd:A.handled=none) (e0:AjS P w K mg base A outer s H) (hl:vs.length=ps.length) (r:Vals vs us)
  (x:InCallC s s.heap.objs.size (bindL (envOfC qual scope s.heap.objs.size f cd).kindOf (ps.zip us) fun _=>none) (cellsFrom (s.heap.objs.size+1) scope.names []) (bindC (envOfC qual scope s.heap.objs.size f cd).kindOf (ps.zip us) fun _=>none) s1) :
  Inv (Ae4 CX P w K mg base N qual scope f cd A outer s H E) [] (start N vs) H s1:=by
 have hpl:ps.length≤N.length:=by have:=congrArg List.length S.pre;rw[Atd] at this;omega
 obtain⟨h1,tk,rfl,hk⟩:=x.done
 have noA:∀ b:Addr,b∉(Ae4 CX P w K mg base N qual scope f cd A outer s H E).ex:=fun b z=>absurd (show b∈([]:List Addr) from z) (by simp)
 refine⟨⟨e0.mod,S.kind,rfl,rfl,AsI _,fun y z c h1 h2=>?_,fun y hy=>?_,fun y c _ h=>?_,fun _=>hd,Around.frames_deeper e0.frames,.inr ⟨rfl,rfl⟩,fun b z=>absurd z (noA b),e0.bs,e0.bsz,fun b _ _=>noA b,fun b z=>absurd z (noA b),e0.Yp,e0.frf⟩,
  rfl,e0.bare,Un.kept hk,⟨_,x.toInCall.ns,fun i y v h1 h2 h3=>?_⟩,fun y c h=>⟨_,x.cell y c h⟩,e0.hok.fresh (AsI _),fun y c h=>?_,fun p hp=>absurd (show p∈([]:List (Addr × Obj)) from hp) (by simp),e0.hok.kept hk,?_⟩
 ·exact name_of_addr x.apart (PySem.mem_of_lookup h1) (PySem.mem_of_lookup h2)
 ·have hy:scope.names.lookup y=some .cell∨scope.names.lookup y=some .free:=hy
  rcases hy with hy | hy
  ·exact Agl hy
  ·exact absurd rfl (S.AnE _ (PySem.mem_of_lookup hy))
 ·exact Atx (x.above y c (PySem.mem_of_lookup h))
 ·have hi:i<vs.length:=by
   unfold start at h2
   by_cases hi:i<vs.length
   ·exact hi
   ·rw[Ats (by simpa using hi)] at h2
    rw[List.getElem?_replicate] at h2
    split at h2 <;> cases h2
  have ha:vs[i]?=some v:=by
   unfold start at h2
   rw[Atu (by simpa using hi),AsU] at h2
   cases e:vs[i]? with
   | none=>rw[e] at h2;cases h2
   | some a=>rw[e] at h2;cases h2;rfl
  obtain⟨u,hu,rv⟩:=r.get ha
  have hp:ps[i]?=some y:=by
   rw[← S.pre,Auu (by omega)];exact h1
  have ndP:ps.Nodup:=by rw[← S.pre];exact S.nd.sublist (Auv _ _)
  refine⟨u,rv,?_⟩
  rcases S.par y (AsS hp) with k | k
  ·exact .inl ⟨k,AeL ndP hp hu k⟩
  ·obtain⟨c,e⟩:=Agl (n:=s.heap.objs.size+1) k
   refine .inr ⟨.inl k,c,e,?_⟩
   have q:=x.cell y c e
   rw[AeM ndP hp hu (by show scope.names.lookup y≠_;rw[k];decide)] at q
   exact q
 ·exact e0.hok.fresh (Atx (x.above y c (PySem.mem_of_lookup h)))
 ·unfold start
  show _=N.length
  rw[AsN,AsH,List.length_replicate]
  omega
theorem AjU{CX:CXT}{P:Program}{w:World}{K:PySem.W.Frag}{mg:Str→Option Value}{base:Heap}{k:Nat}{f:Addr}{name qual:Str}{params:Arguments}{body:List Stmt}{scope:Scope}{dV kV doc pm cdv ct oc:Value}{an od:Option Addr}
  {osl:Array (Option Value)}{N ps:List Str}{sp:Sp} (lk:K.lookup f=some ⟨oc,od,.func (PySem.W.fnOf name qual params body scope dV kV doc pm an cdv ct),osl⟩) (hcd:PySem.W.codeIn K cdv qual=true) (S:Cm N ps scope)
  (len:∀ vs H Q E,sp vs H Q E→vs.length=ps.length)
  (hbody:∀(A:Around) (outer:List Env) (s:Shared) (H:Hp) (vs:List V) (Q:VK) (E:XK),Mq k (A.deeper (envOfC qual scope s.heap.objs.size f cdv))→sp vs H Q E →
   ∃ t,PSs (Ae4 CX P w K mg base N qual scope f cdv A outer s H E) body t∧t { nx:=fun _ H'=>Q .non H',rt:=Q } (start N vs) H) :
  Bp P w K mg base CX (k+1) f (PySem.W.fnOf name qual params body scope dV kV doc pm an cdv ct) ps sp:=by
 refine⟨len,fun A outer s H args us vs Q E hr e0 hb r hsp=>?_⟩
 have hl:=len _ _ _ _ hsp
 have KX:K.In s.heap:=e0.mod.kin.keeps fun b o e=>(e0.bs b o e).1
 have lim:s.heap.NoLimit:=e0.mod.nolimit.keeps fun b o e=>(e0.bs b o e).1
 have hkind:∀ y∈ps.zip us,scope.names.lookup y.1=some .local∨(scope.names.lookup y.1=some .cell∧((cellsFrom (s.heap.objs.size+1) scope.names []).lookup y.1).isSome=true):=fun⟨n,v⟩ hy=>by
  rcases S.par n (List.of_mem_zip hy).1 with q | q
  ·exact .inl q
  ·exact .inr ⟨q,PySem.W.cellsFrom_some _ _ _ (.inl q)⟩
 refine codeAny_call_function hr.depth (KX _ _ lk) rfl S.co S.gen rfl (PySem.W.codeRec_of KX hcd) (hb _ _ _ _ ?_)
 refine wpAny_newFunctionEnv_cells S.kind hkind fun env he s1 x=>?_
 subst he
 refine⟨lim.keeps x.toInCall.keep,codeAny_func ?_⟩
 obtain⟨t,ht,hq⟩:=hbody A outer s H vs Q E (hr.deeper _) hsp
 have I:Inv (Ae4 CX P w K mg base N qual scope f cdv A outer s H E) [] (start N vs) H s1:=Ajc S hr.hd e0 hl r x
 refine wpAny_mono (ht [] s1 (start N vs) H _ I hq) (fun fl s' hs=>?_) fun e s' hs=>hs
 have fin:∀{σ':St} {H':Hp} {v:V} {u:Value},Inv (Ae4 CX P w K mg base N qual scope f cdv A outer s H E) [] σ' H' s'→RelV v u→Q v H'→CE outer P w H s Q u s' :=
  fun {σ' H' v u} J rv q=>⟨v,H',J.os,J.bare,J.base,J.hok,rv,q⟩
 cases fl with
 | ret u =>
  obtain⟨v,σ',H',J,rv,q⟩:=hs
  exact fin J rv q
 | next =>
  obtain⟨σ',H',J,q⟩:=hs
  exact fin (v:=V.non) (u:=Value.none) J rfl q
 | brk =>
  obtain⟨_,_,_,q⟩:=hs
  exact False.elim q
 | cont =>
  obtain⟨_,_,_,q⟩:=hs
  exact False.elim q
open PySem PySem.Spec PyProof.Rows
section
variable {X:Cx}{x:Str}{p pos:Pos}{e:Expr}{es:List Expr}{t:TA}{id T:String}{r:List V→Hp→VK→Prop}
def tCB (r:List V→Hp→VK→Prop)(t:TA):TE:=fun σ H Q=>t σ H fun vs H1=>r vs H1 Q
theorem Ao(hc:JB X (.builtin id) r)(hg:Gl X x)(hm:X.mg x=none)(hv:bootBuiltins x=some (.builtin id))(ha:PA X (e::es) t)(hn:x ≠ "__name__" := by decide) (hdb:(x == ("__debug__" : Str))=false:=by decide)
  (he:starEach (e::es) X.env=(false,eval e X.env)::starEach es X.env:=by rfl) (hpl:(backTo pos (starEach es X.env)).any (·.1)=false:=by rfl):PE X (.Call (.Name x p) (e::es) [] pos) (tCB r t):=by
 intro pins s σ H Q I h
 refine wpAny_Call_Name_kw (K1 I hg hm hv ?_ hn hdb)
 exact PyProof.Rows.callWith_builtin1 (thn (ha pos pins s σ H _ I h) fun us s1 ⟨vs,H1,I1,r1,q1⟩=>hc pins s1 σ H1 vs us Q I1 r1 q1) he hpl
theorem Ib(hc:JB X (.type T) r)(hg:Gl X x)(hm:X.mg x=none)(hv:bootBuiltins x=some (.type T))(ha:PA X (e::es) t)(hn:x ≠ "__name__" := by decide) (hdb:(x == ("__debug__" : Str))=false:=by decide)
  (he:starEach (e::es) X.env=(false,eval e X.env)::starEach es X.env:=by rfl) (hpl:(backTo pos (starEach es X.env)).any (·.1)=false:=by rfl):PE X (.Call (.Name x p) (e::es) [] pos) (tCB r t):=by
 intro pins s σ H Q I h
 refine wpAny_Call_Name_kw (K1 I hg hm hv ?_ hn hdb)
 exact PyProof.Rows.callWith_type1 (thn (ha pos pins s σ H _ I h) fun us s1 ⟨vs,H1,I1,r1,q1⟩=>hc pins s1 σ H1 vs us Q I1 r1 q1) he hpl
end
end L2
namespace HT
open PySem PyProof.Rows
def lexLt:List Int→List Int→Bool
 | [],[]=>false
 | [],_::_=>true
 | _::_,[]=>false
 | x::xs,y::ys=>if x=y then lexLt xs ys else decide (x<y)
section
open PySem.SeqAt
open PySem.AutoSeq1 (wpAny_loadPart')
open PySem.MeetsSeq PySem.MeetsSeq2 PySem.MeetsSeq3
end
section
variable {prog:Program}{w:World}{A:Around}{E:Value→Shared→Prop}{s:Shared}
def sIx (n d:Nat):Option Int→Nat
 | none=>d
 | some v=>if v<0 then (v+(n:Int)).toNat else min v.toNat n
theorem Aag(n d:Nat):sIx n d none=d:=rfl
theorem Lb(n d k:Nat):sIx n d (some (k:Int))=min k n:=by
 show(if (k:Int)<0 then ((k:Int)+(n:Int)).toNat else min (k:Int).toNat n)=min k n
 rw[if_neg (by omega),Ate]
theorem AnF(n d:Nat)(hd:d≤n)(o:Option Int):sIx n d o≤n:=by
 cases o with
 | none=>exact hd
 | some v =>
  show(if v<0 then (v+(n:Int)).toNat else min v.toNat n)≤n
  by_cases hv:v<0
  ·rw[if_pos hv];omega
  ·rw[if_neg hv];exact Auw _ _
end
end HT
namespace L2
open PySem PySem.Spec PyProof.Rows
abbrev TO:=St→Hp→(Option Int→Hp→Prop)→Prop
def PO (X:Cx)(e:Option Expr)(t:TO):Prop :=
 ∀(pins:List (Addr × Obj)) (s:Shared) (σ:St) (H:Hp) (Q:Option Int→Hp→Prop),Inv X pins σ H s→t σ H Q →
  wpAny (model X.prog X.w) X.A (evalPart e X.env) (fun u s'=>∃ o H',Inv X pins σ H' s'∧IsPart u o∧Q o H') X.xe s
def AlN:TO:=fun _ H Q=>Q none H
def Apu (t:TE):TO:=fun σ H Q=>t σ H fun x H1=>∃ i,x=.int i∧Q (some i) H1
theorem intsAre_of{ns:List Int}:∀{us:List Value},Vals (ns.map V.int) us→IntsAre us ns:=by
 induction ns with
 | nil=>intro us r;rw[At3] at r;cases r;exact .nil
 | cons n ns ih =>
  intro us r
  rw[AsY] at r
  cases r with
  | cons r1 r2 =>
   obtain⟨t,e⟩:=r1
   subst e
   exact .cons n t (ih r2)
section
variable {X:Cx}{e:Expr}{te:TE}{lo hi:Option Expr}{tl th:TO}{pos p2:Pos}
theorem Im:PO X none AlN:=by
 intro pins s σ H Q I h
 rw[evalPart_none]
 exact wpAny_pure ⟨none,H,I,.none,h⟩
theorem G9(h:PE X e te):PO X (some e) (Apu te):=by
 intro pins s σ H Q I hw
 rw[evalPart_some]
 refine thn (h pins s σ H _ I hw) fun u s1 ⟨x,H1,I1,r1,q1⟩=>?_
 obtain⟨i,rfl,q⟩:=q1
 obtain⟨t,rfl⟩:=r1
 exact⟨some i,H1,I1,.int i t,q⟩
def SlR (X:Cx)(r:V→Option Int→Option Int→Hp→VK→Prop):Prop :=
 ∀(pins:List (Addr × Obj)) (s:Shared) (σ:St) (H:Hp) (x:V) (v vl vu:Value) (lo hi:Option Int) (sl:Addr) (Q:VK),Inv X pins σ H s→RelV x v→s.heap.IsSliceOf sl vl vu .none→IsPart vl lo→IsPart vu hi→r x lo hi H Q →
  ∃ T id,typeLookup (.type T) "__getitem__" = pure (some (.builtin id))∧s.TypeIs v T∧wpAny (model X.prog X.w) X.A (getItem v (.ref sl)) (EP X pins σ Q) X.xe s
def tSl (r:V→Option Int→Option Int→Hp→VK→Prop)(te:TE)(tl th:TO):TE:=fun σ H Q=>te σ H fun x H1=>tl σ H1 fun l H2=>th σ H2 fun u H3=>r x l u H3 Q
theorem FT{r:V→Option Int→Option Int→Hp→VK→Prop}(hr:SlR X r)(he:PE X e te)(hl:PO X lo tl)(hu:PO X hi th):PE X (.Subscript e (.Slice lo hi none p2) pos) (tSl r te tl th):=by
 intro pins s σ H Q I h
 refine Subscript_ (thn (he pins s σ H _ I h) fun v s1 ⟨x,H1,I1,r1,q1⟩=>?_)
 refine wpAny_Slice (thn (hl pins s1 σ H1 _ I1 q1) fun vl s2 ⟨l,H2,I2,pl,q2⟩=>thn (hu pins s2 σ H2 _ I2 q2) fun vu s3 ⟨u,H3,I3,pu,q3⟩=>?_)
 rw[evalPart_none]
 refine wpAny_pure ?_
 have I4:Inv X pins σ H3 { s3 with heap:=s3.heap.push { cls:=.type "slice", data:=.fields #[vl,vu,.none] } }:=I3.kept (t':=s3.toks) fun b ob q=>Heap.get?_push_of_some _ q
 obtain⟨T,id,hT,ht,hg⟩:=hr pins { s3 with heap:=s3.heap.push { cls:=.type "slice", data:=.fields #[vl,vu,.none] } } σ H3 x v vl vu l u s3.heap.objs.size Q I4 r1 (Heap.IsSliceOf.new ..) pl pu q3
 show wpAny (model X.prog X.w) X.A (subscriptTail e (.Slice lo hi none p2) v (.ref s3.heap.objs.size)) (EP X pins σ Q) X.xe { s3 with heap:=s3.heap.push { cls:=.type "slice", data:=.fields #[vl,vu,.none] } }
 exact tail_any (ops:=[.ref s3.heap.objs.size,v]) ht hT hg (by with_unfolding_all rfl)
def Lw (xs:List V)(lo hi:Option Int):List V:=(xs.drop (HT.sIx xs.length 0 lo)).take (HT.sIx xs.length xs.length hi-HT.sIx xs.length 0 lo)
theorem Agm(xs:List V)(lo hi:Option Int):(Lw xs lo hi).length≤xs.length:=by
 unfold Lw
 rw[Atd,Atg]
 omega
def Asp (K:PySem.W.Frag):V→Option Int→Option Int→Hp→VK→Prop:=fun x lo hi H Q=>∃ a xs,x=.ref a∧SqT K H a xs ∧
 ¬(HT.sIx xs.length 0 lo=0∧HT.sIx xs.length xs.length hi=xs.length)∧∀ p,H p=none→Q (.ref p) (upd H p (.tup (Lw xs lo hi)))
def Asq (K:PySem.W.Frag):R2:=fun x y H Q=>∃ a b ns ms,x=.ref a∧y=.ref b∧SqT K H a (ns.map V.int)∧SqT K H b (ms.map V.int)∧Q (.bl (HT.lexLt ns ms)) H
def ArD (K:PySem.W.Frag):R2:=fun x y H Q=>∃ a b xs ys,x=.ref a∧y=.ref b∧SqT K H a xs∧SqT K H b ys∧xs≠[]∧xs.length+ys.length≤sizeLine ∧
 (ys=[]→Q (.ref a) H)∧(ys≠[]→∀ p,H p=none→Q (.ref p) (upd H p (.tup (xs++ys))))
end
open PySem PySem.Spec PyProof.Rows
def ixN (n:Nat)(i:Int):Option Nat:=if 0≤i then (if i<n then some i.toNat else none) else if -(n:Int)≤i then some (i+n).toNat else none
def atI {α:Type}(xs:List α)(i:Int):Option α:=(ixN xs.length i).bind fun j=>xs[j]?
theorem Ail{n:Nat}{i:Int}{j:Nat}(h:ixN n i=some j):seqIndex? i n=some j∧j<n ∧ -(n:Int)≤i∧i<n:=by
 unfold ixN at h
 by_cases h0:0≤i
 ·rw[if_pos h0] at h
  by_cases h1:i<n
  ·rw[if_pos h1] at h
   have e:i.toNat=j:=Option.some.inj h
   exact⟨by rw[seqIndex_of h0 h1,e],by omega,by omega,h1⟩
  ·rw[if_neg h1] at h;cases h
 ·rw[if_neg h0] at h
  by_cases h1 : -(n:Int)≤i
  ·rw[if_pos h1] at h
   have e:(i+n).toNat=j:=Option.some.inj h
   exact⟨by rw[seqIndex_neg (by omega) h1,e],by omega,h1,by omega⟩
  ·rw[if_neg h1] at h;cases h
theorem Afi{α:Type}{xs:List α}{i:Int}{v:α}(h:atI xs i=some v):∃ j,seqIndex? i xs.length=some j∧xs[j]?=some v∧j<xs.length ∧ -(xs.length:Int)≤i∧i<xs.length:=by
 unfold atI at h
 cases e:ixN xs.length i with
 | none=>rw[e] at h;cases h
 | some j =>
  rw[e] at h
  obtain⟨h1,h2,h3,h4⟩:=Ail e
  exact⟨j,h1,h,h2,h3,h4⟩
theorem Aim{α:Type}{xs:List α}{j:Nat}{v:α}(h:xs[j]?=some v):atI xs (j:Int)=some v:=by
 have hj:j<xs.length:=(List.getElem?_eq_some_iff.mp h).1
 have e:ixN xs.length (j:Int)=some j:=by
  unfold ixN
  rw[if_pos (by omega),if_pos (by omega)];simp
 unfold atI;rw[e];exact h
def AlO (b:Expr):Prop:=∀ o i,subscripted b false o i=operate [o,i] (getItem o i)
def IxR (X:Cx)(r:R2):Prop :=
 ∀(value slice:Expr) (pins:List (Addr × Obj)) (s:Shared) (σ:St) (H:Hp) (x y:V) (v u:Value) (Q:VK),Inv X pins σ H s→RelV x v→RelV y u→r x y H Q →
  subscripted slice false v u=operate [v,u] (getItem v u)→wpAny (model X.prog X.w) X.A (subscriptTail value slice v u) (EP X pins σ Q) X.xe s
def MtR (X:Cx)(id:String)(r:V→List V→Hp→VK→Prop):Prop :=
 ∀(pins:List (Addr × Obj)) (s:Shared) (σ:St) (H:Hp) (x:V) (xs:List V) (v:Value) (us:List Value) (Q:VK),Inv X pins σ H s→RelV x v→Vals xs us→r x xs H Q →
  wpAny (model X.prog X.w) X.A (call (.builtin id) (v::us)) (EP X pins σ Q) X.xe s
section
variable {X:Cx}{a b:Expr}{ta tb:TE}{pos:Pos}
theorem Bv{r:R2}(hr:IxR X r)(ha:PE X a ta)(hb:PE X b tb)(hs:AlO b):PE X (.Subscript a b pos) (tOp r ta tb):=by
 intro pins s σ H Q I h
 exact Subscript_ (An9 ha hb I h fun v u s2 x y H2 I2 rx ry q=>hr a b pins s2 σ H2 x y v u Q I2 rx ry q (hs _ _))
def AnG (K:PySem.W.Frag):R2:=fun x y H Q=>∃ p xs i v,x=.ref p∧y=.int i∧SqL K H p xs∧atI xs i=some v∧Q v H
def AnH (K:PySem.W.Frag):R2:=fun x y H Q=>∃ p xs i v,x=.ref p∧y=.int i∧SqT K H p xs∧atI xs i=some v∧Q v H
def Apv:R2:=fun x y H Q=>∃ z i c,x=.str z∧y=.int i∧z.length≤sizeLine∧atI z.cps.toList i=some c∧Q (.str ⟨#[c]⟩) H
theorem AlP:IxR X (AnG X.K):=by
 intro value slice pins s σ H x y v u Q I rx ry h hs
 obtain⟨p,xs,i,z,rfl,rfl,hq,he,q⟩:=h
 cases rx
 obtain⟨t,rfl⟩:=ry
 obtain⟨its,r,pl,hz⟩:=I.list hq
 obtain⟨j,h1,h2,h3,h4,h5⟩:=Afi he
 obtain⟨w,ew,rw'⟩:=r.get h2
 have hl:=r.length
 have hn:=Abt
 have fin:EP X pins σ Q w s:=⟨z,H,I,rw',q⟩
 by_cases h0:0≤i
 ·have hj:i.toNat=j:=by
   rw[seqIndex_of h0 h5] at h1
   exact Option.some.inj h1
  exact item_listR pl.isList h0 (by omega) (by rw[hj];simpa using ew) fin hs
 ·have hj:(i+(its.toArray.size:Int)).toNat=j:=by
   rw[seqIndex_neg (by omega) h4] at h1
   rw[AsK,← hl]
   exact Option.some.inj h1
  exact subscriptTail_builtinR (x:=w) pl.isList.typeIs slot_list_getitem.lookup
   (wpAny_getItem_list_neg (Q:=fun r s'=>r=w∧EP X pins σ Q r s') pl.isList (by omega) (by rw[AsK] <;> omega) (by omega) (by rw[hj];simpa using ew) ⟨rfl,fin⟩) hs
theorem AnI:IxR X (AnH X.K):=by
 intro value slice pins s σ H x y v u Q I rx ry h hs
 obtain⟨p,xs,i,z,rfl,rfl,hq,he,q⟩:=h
 cases rx
 obtain⟨t,rfl⟩:=ry
 obtain⟨its,r,pl,hz⟩:=I.tuple hq
 obtain⟨j,h1,h2,h3,h4,h5⟩:=Afi he
 obtain⟨w,ew,rw'⟩:=r.get h2
 have hl:=r.length
 have hn:=Abt
 have fin:EP X pins σ Q w s:=⟨z,H,I,rw',q⟩
 exact subscriptTail_builtinR (x:=w) pl.typeIs slot_tuple_getitem.lookup
  (getItem_tuple (j:=j) (Q:=fun r s'=>r=w∧EP X pins σ Q r s') pl (by omega) (by omega) (by rw[AsK,← hl];exact h1) (by simpa using ew) ⟨rfl,fin⟩) hs
theorem Ada:IxR X Apv:=by
 intro value slice pins s σ H x y v u Q I rx ry h hs
 obtain⟨z,i,c,rfl,rfl,hz,he,q⟩:=h
 obtain⟨t,rfl⟩:=rx
 obtain⟨t',rfl⟩:=ry
 obtain⟨j,h1,h2,h3,h4,h5⟩:=Afi he
 have hl:z.cps.toList.length=z.length:=by simp[Str.length]
 rw[hl] at h1 h4 h5
 have hn:=Abt
 exact tail_any (typeIs_str s z t) slot_str_getitem.lookup (getItem_str (c:=c) (by
  have e1:decide (i < -(2 ^ 63:Int))=false:=decide_eq_false (by omega)
  have e2:decide (i ≥ 2 ^ 63)=false:=decide_eq_false (by omega)
  rw[e1,e2,Bool.or_false]) (by rw[h1];simpa using h2) ⟨.str ⟨#[c]⟩,H,I.tok _,⟨_,rfl⟩,q⟩) hs
def rIx (K:PySem.W.Frag):R2:=fun x y H Q=>AnG K x y H Q∨AnH K x y H Q∨Apv x y H Q
theorem Ahz(its:List Value)(n j:Nat)(u:Value):Obj.mapSeq (·.setIfInBounds j u) { cls:=.type "list", data:=.seq its.toArray n }={ cls:=.type "list", data:=.seq (its.set j u).toArray n }:=by
 simp[Obj.mapSeq]
theorem Inv.lst{pins:List (Addr × Obj)}{σ:St}{H:Hp}{s:Shared}{p:Addr}{xs:List V}(I:Inv X pins σ H s)(h:H p=some (.lst xs)) :
  ∃(its:List Value) (n:Nat),Vals xs its∧s.heap.get? p=some { cls:=.type "list", data:=.seq its.toArray n }∧xs.length≤sizeLine:=by
 obtain⟨z,its,n,r,e⟩:=I.hok p _ h
 exact⟨its,n,r,e,z⟩
theorem Inv.AnJ{pins:List (Addr × Obj)}{σ:St}{H:Hp}{s:Shared}{p:Addr}{xs ys:List V}{its its':List Value}{n n':Nat}{f:Obj→Obj}(I:Inv X pins σ H s)(h:H p=some (.lst xs))
  (ho:s.heap.get? p=some { cls:=.type "list", data:=.seq its.toArray n }) (hf:f { cls:=.type "list", data:=.seq its.toArray n }={ cls:=.type "list", data:=.seq its'.toArray n' }) (r:Vals ys its') (hz:ys.length≤sizeLine) (t:Nat) :
  Inv X pins σ (upd H p (.lst ys)) { s with heap:=s.heap.update p f,toks:=t }:=by
 have e:(s.heap.update p f).get? p=some { cls:=.type "list", data:=.seq its'.toArray n' }:=by
  rw[Heap.get?_update_self f ho (by rw[hf] <;> rfl),hf]
 refine I.write (x:=p) (e:=p) (by rw[h];trivial) (.inl rfl) (fun b u hb q=>(Heap.get?_update_other _ _ (Ne.symm hb)).trans q) ⟨_,e⟩ ?_
 exact⟨hz,its',n',r,e⟩
def Apw:V→V→V→Hp→(Hp→Prop)→Prop:=fun o i v H Q=>∃ p xs k j,o=.ref p∧i=.int k∧H p=some (.lst xs)∧ixN xs.length k=some j∧Q (upd H p (.lst (xs.set j v)))
theorem set_list:Api X Apw:=by
 intro pins s σ H o i v ov iv u Q I ro ri rv h
 obtain⟨p,xs,k,j,rfl,rfl,hp,hj,q⟩:=h
 cases ro
 obtain⟨t,rfl⟩:=ri
 obtain⟨its,n,r,ho,hz⟩:=I.lst hp
 obtain⟨h1,h2,h3,h4⟩:=Ail hj
 have hl:=r.length
 have hn:=Abt
 have I':Inv X pins σ (upd H p (.lst (xs.set j v))) { s with heap:=s.heap.update p (Obj.mapSeq (·.setIfInBounds j u)) } :=
  I.AnJ hp ho (Ahz its n j u) (r.set rv j) (by rw[Aui];exact hz) s.toks
 by_cases h0:0≤k
 ·have hk:k.toNat=j:=by
   rw[seqIndex_of h0 h4] at h1
   exact Option.some.inj h1
  exact PySem.W.ki_setAt ho h0 (by omega) (by rw[AsK,← hl];exact h4) (by rw[hk];exact⟨_,I',q⟩)
 ·have hk:(k+(its.toArray.size:Int)).toNat=j:=by
   rw[seqIndex_neg (by omega) h3] at h1
   rw[AsK,← hl]
   exact Option.some.inj h1
  exact PySem.W.ki_setBack ho (by omega) (by rw[AsK,← hl];exact h3) (by omega) (by rw[hk];exact⟨_,I',q⟩)
theorem Afj(lo hi:Option Int)(n:Nat):(sliceBounds lo hi none n).1=((HT.sIx n 0 lo:Nat):Int)∧(sliceBounds lo hi none n).2.1=((HT.sIx n n hi:Nat):Int)∧(sliceBounds lo hi none n).2.2=1:=by
 refine⟨?_,?_,rfl⟩
 ·cases lo with
  | none=>simp[sliceBounds,HT.sIx]
  | some i =>
   simp only [sliceBounds,HT.sIx,Option.getD_none,show(1:Int)>0 by decide,if_true]
   by_cases h:i<0
   ·simp only [h,if_true] <;> omega
   ·simp only [h,if_false] <;> omega
 ·cases hi with
  | none=>simp[sliceBounds,HT.sIx]
  | some i =>
   simp only [sliceBounds,HT.sIx,Option.getD_none,show(1:Int)>0 by decide,if_true]
   by_cases h:i<0
   ·simp only [h,if_true] <;> omega
   ·simp only [h,if_false] <;> omega
theorem Ae5(its:List Value)(lo hi:Option Int):slicePick its.toArray lo hi none=((its.drop (HT.sIx its.length 0 lo)).take (HT.sIx its.length its.length hi-HT.sIx its.length 0 lo)).toArray:=by
 obtain⟨h1,h2,h3⟩:=Afj lo hi its.toArray.size
 unfold slicePick
 rw[h1,h2,h3]
 simp only [sliceRange_one,pick_run,AsK] <;> rfl
def Apx (K:PySem.W.Frag):V→Option Int→Option Int→Hp→VK→Prop:=fun x lo hi H Q=>∃ a xs,x=.ref a∧SqL K H a xs∧∀ p,H p=none→Q (.ref p) (upd H p (.lst (Lw xs lo hi)))
theorem AlQ:SlR X (Apx X.K):=by
 intro pins s σ H x v vl vu lo hi sl Q I rx hs pl pu h
 obtain⟨a,xs,rfl,hx,q⟩:=h
 cases rx
 obtain⟨its,r,ht,hz⟩:=I.list hx
 have hlen:=r.length
 refine⟨"list", _,slot_list_getitem.lookup,ht.isList.typeIs,?_⟩
 refine wpAny_getItem_list_slice ht.isList hs pl pu .none (by simp) ?_ (by rw[AsK] <;> omega)
 rw[Ae5,← hlen]
 refine⟨.ref s.heap.objs.size,_,I.laid (t':=s.toks) (o:=.lst (Lw xs lo hi)) (fun b ob q=>Heap.get?_push_of_some _ q) (AsI _) ?_,rfl,q _ (I.hok.fresh (AsI _))⟩
 exact⟨AsX (Agm xs lo hi) hz,_,0,(r.drop (HT.sIx xs.length 0 lo)).take (HT.sIx xs.length xs.length hi-HT.sIx xs.length 0 lo),Heap.get?_push_size _ rfl⟩
def HH:V→Bool
 | .non=>true
 | .bl _=>true
 | .int _=>true
 | .str _=>true
 | _=>false
def eqV:V→V→Bool
 | .non,.non=>true
 | .bl a,.bl b=>a == b
 | .bl a,.int b=>(if a then 1 else 0) == b
 | .int a,.bl b=>a == (if b then 1 else 0)
 | .int a,.int b=>a == b
 | .str a,.str b=>a == b
 | _,_=>false
theorem AjV{A:Around}{s:Shared}{y x:V}{u v:Value}(ry:RelV y u)(rx:RelV x v)(fy:HH y=true)(fx:HH x=true):SeqAt.EqAt A s u v (eqV y x):=by
 cases y with
 | non =>
  cases ry
  cases x with
  | non=>cases rx;exact SeqAt.EqAt.same _
  | bl b=>cases rx;exact SeqAt.EqAt.none_bool b
  | int b=>obtain⟨t,rfl⟩:=rx;exact SeqAt.EqAt.none_int b t
  | str b=>obtain⟨t,rfl⟩:=rx;exact SeqAt.EqAt.none_str b t
  | _=>exact absurd (show false=true from fx) AsT
 | bl a =>
  cases ry
  cases x with
  | non=>cases rx;exact SeqAt.EqAt.bool_none a
  | bl b=>cases rx;exact SeqAt.EqAt.bool_bool a b
  | int b=>obtain⟨t,rfl⟩:=rx;exact SeqAt.EqAt.bool_int a b t
  | str b=>obtain⟨t,rfl⟩:=rx;exact SeqAt.EqAt.bool_str a b t
  | _=>exact absurd (show false=true from fx) AsT
 | int a =>
  obtain⟨t',rfl⟩:=ry
  cases x with
  | non=>cases rx;exact SeqAt.EqAt.int_none a t'
  | bl b=>cases rx;exact SeqAt.EqAt.int_bool a t' b
  | int b=>obtain⟨t,rfl⟩:=rx;exact SeqAt.EqAt.int_int a t' b t
  | str b=>obtain⟨t,rfl⟩:=rx;exact SeqAt.EqAt.int_str a t' b t
  | _=>exact absurd (show false=true from fx) AsT
 | str a =>
  obtain⟨t',rfl⟩:=ry
  cases x with
  | non=>cases rx;exact SeqAt.EqAt.str_none a t'
  | bl b=>cases rx;exact SeqAt.EqAt.str_bool a t' b
  | int b=>obtain⟨t,rfl⟩:=rx;exact SeqAt.EqAt.str_int a t' b t
  | str b=>obtain⟨t,rfl⟩:=rx;exact SeqAt.EqAt.str_str a t' b t
  | _=>exact absurd (show false=true from fx) AsT
 | _=>exact absurd (show false=true from fy) AsT
def eqU (x:V)(u:Value):Bool:=match u with
 | .none=>eqV .non x
 | .bool b=>eqV (.bl b) x
 | .int i _=>eqV (.int i) x
 | .str z _=>eqV (.str z) x
 | _=>false
def inV (x:V)(xs:List V):Bool:=xs.any fun y=>eqV y x
def rIn (K:PySem.W.Frag)(neg:Bool):R2:=fun x y H Q=>∃ p xs,y=.ref p∧(SqL K H p xs∨SqT K H p xs)∧HH x=true∧xs.all HH=true∧Q (.bl (if neg then !inV x xs else inV x xs)) H
theorem Afk:JB X (.builtin "len") (fun xs H Q=>∃ p ys,xs=[.ref p]∧(SqL X.K H p ys∨SqT X.K H p ys)∧Q (.int ys.length) H):=by
 intro pins s σ H xs us Q I r h
 obtain⟨p,ys,rfl,hq,q⟩:=h
 obtain⟨u,rfl,rx⟩:=vals1 r
 cases rx
 have hn:=Abt
 rcases hq with hq | hq
 ·obtain⟨its,r',pl,hz⟩:=I.list hq
  have hlen:=r'.length
  exact Calls.call_len_list pl.isList (by simp only [AsK] <;> omega) ⟨.int ys.length,H,I.tok _,⟨s.toks+1,by rw[AsK,hlen]⟩,q⟩
 ·obtain⟨its,r',pl,hz⟩:=I.tuple hq
  have hlen:=r'.length
  exact len_tuple pl (by simp only [AsK] <;> omega) ⟨.int ys.length,H,I.tok _,⟨s.toks+1,by rw[AsK,hlen]⟩,q⟩
theorem JL:JB X (.builtin "len") (fun xs H Q=>∃ z,xs=[.str z]∧z.length≤sizeLine∧Q (.int z.length) H):=by
 intro pins s σ H xs us Q I r h
 obtain⟨z,rfl,hz,q⟩:=h
 obtain⟨u,rfl,t,rfl⟩:=vals1 r
 have hn:=Abt
 exact len_str (by omega) ⟨.int z.length,H,I.tok _,⟨_,rfl⟩,q⟩
theorem Afl:JB X (.type "list") (fun xs H Q=>∃ p ys,xs=[.ref p]∧(SqL X.K H p ys∨SqT X.K H p ys)∧∀ l,H l=none→Q (.ref l) (upd H l (.lst ys))):=by
 intro pins s σ H xs us Q I r h
 obtain⟨p,ys,rfl,hq,q⟩:=h
 obtain⟨u,rfl,rx⟩:=vals1 r
 cases rx
 have fin:∀(its:List Value),Vals ys its→ys.length≤sizeLine→∀(h':Heap) (c':Nat),(∀ b o',s.heap.get? b=some o'→h'.get? b=some o') →
   h'.get? s.heap.objs.size=some { cls:=.type "list", dict:=none,data:=.seq its.toArray c',slots:=#[] }→EP X pins σ Q (.ref s.heap.objs.size) { s with heap:=h' }:=fun its r' hz h' c' kp e =>
  ⟨.ref s.heap.objs.size,_,I.laid (t':=s.toks) kp (AsI _) (show JH X.prog X.w _ h' _ (.lst ys) from⟨hz,its,c',r',e⟩),rfl,q _ (I.hok.fresh (AsI _))⟩
 rcases hq with hq | hq
 ·obtain⟨its,r',pl,hz⟩:=I.list hq
  have hlen:=r'.length
  obtain⟨o,ho,hc,n,hd⟩:=pl.isList
  exact call_list_seq p (.inl rfl) ho hc hd (fun h' c' kp e=>fin its r' hz h' c' kp e) (by simp only [AsK] <;> omega)
 ·obtain⟨its,r',pl,hz⟩:=I.tuple hq
  have hlen:=r'.length
  obtain⟨o,ho,hc,n,hd⟩:=pl
  exact call_list_seq p (.inr rfl) ho hc hd (fun h' c' kp e=>fin its r' hz h' c' kp e) (by simp only [AsK] <;> omega)
def tyV (K:PySem.W.Frag)(T:String)(x:V)(H:Hp):Prop:=match x with
 | .str _=>T = "str"
 | .int _=>T = "int"
 | .ref p=>(T = "list" ∧ ∃ xs,SqL K H p xs)∨(T = "tuple" ∧ ∃ o,K.lookup p=some o∧o.cls=.type "tuple" ∧ o.dict=none) ∨
   (T = "dict" ∧ ((∃ kvs,H p=some (.dK kvs))∨∃ kvs,H p=some (.dT kvs)))∨(T = "set" ∧ ∃ S n,H p=some (.set S n))
 | _=>False
theorem AnK{pins:List (Addr × Obj)}{σ:St}{H:Hp}{s:Shared}{T:String}{x:V}{v:Value}(I:Inv X pins σ H s)(r:RelV x v)(ty:tyV X.K T x H) :
  s.TypeIs v T∧∀ a,v=.ref a→∃ ob,s.heap.get? a=some ob∧ob.dict=none:=by
 cases x with
 | str z =>
  obtain⟨t,rfl⟩:=r
  cases (show T = "str" from ty)
  exact⟨typeIs_str s z t,fun _ e=>nomatch e⟩
 | int i =>
  obtain⟨t,rfl⟩:=r
  cases (show T = "int" from ty)
  exact⟨typeIs_int s i t,fun _ e=>nomatch e⟩
 | ref p =>
  cases r
  rcases ty with ⟨rfl,xs,hq⟩ | ⟨rfl,o,hk,hc,hd⟩ | ⟨rfl,hk⟩ | ⟨rfl,S,n,hk⟩
  ·obtain⟨its,_,pl,_⟩:=I.list hq
   refine⟨pl.isList.typeIs,fun a e=>?_⟩
   cases e
   obtain⟨o,n,e,c,hd,_⟩:=pl
   exact⟨o,e,hd⟩
  ·refine⟨⟨o,I.kIn p o hk,hc⟩,fun a e=>?_⟩
   cases e
   exact⟨o,I.kIn _ o hk,hd⟩
  ·have z:∃ o,s.heap.get? p=some o∧o.ExactDict:=by
    rcases hk with ⟨kvs,hk⟩ | ⟨kvs,hk⟩
    ·obtain⟨_,_,_,_,o,_,_,e,ex,_⟩:=I.hok p _ hk
     exact⟨o,e,ex⟩
    ·obtain⟨_,_,_,_,o,_,_,e,ex,_⟩:=I.hok p _ hk
     exact⟨o,e,ex⟩
   obtain⟨o,e,ex⟩:=z
   refine⟨⟨o,e,ex.1⟩,fun a e2=>?_⟩
   cases e2
   exact⟨o,e,ex.2.1⟩
  ·obtain⟨o,_,_,_,e,ex,_⟩:=I.hok p _ hk
   refine⟨⟨o,e,ex.1⟩,fun a e2=>?_⟩
   cases e2
   exact⟨o,e,ex.2.1⟩
 | _=>exact False.elim ty
def Asr (K:PySem.W.Frag)(T:String)(r:V→List V→Hp→VK→Prop)(to:TE):TE:=fun σ H Q=>to σ H fun x H1=>tyV K T x H1∧r x [] H1 Q
def tBM (K:PySem.W.Frag)(T:String)(r:V→List V→Hp→VK→Prop)(to:TE)(t:TA):TE:=fun σ H Q=>to σ H fun x H1=>tyV K T x H1∧t σ H1 fun xs H2=>r x xs H2 Q
variable {o e:Expr}{es:List Expr}{to:TE}{t:TA}{name:Str}{apos cpos:Pos}{T id:String}{r:V→List V→Hp→VK→Prop}
theorem Apy(pa:PlainAttrs T)(slot:Slot T name id)(hty:typeOf (.builtin id)=pure (.type "method_descriptor")) (hm:MtR X id r) (ho:PE X o to) (ha:PA X (e::es) t)
  (hbase:attributeBase o name X.env (eval o X.env)=eval o X.env:=by rfl)
  (hfew:((backTo cpos (starEach (e::es) X.env)).all (fun x=>!x.1) && (backToKw cpos (keywordEach [] X.env)).all (fun x=>x.1.isSome)
   && decide ((e::es).length+([]:List Keyword).length+(if ([]:List Keyword).isEmpty then 0 else 1)<30))=true:=by rfl)
  (hline:(apos.endLine == cpos.line)=true:=by rfl) (hs:starEach (e::es) X.env=(false,eval e X.env)::starEach es X.env:=by rfl) (hplain:(backTo cpos (starEach es X.env)).any (·.1)=false:=by rfl) :
  PE X (.Call (.Attribute o name apos) (e::es) [] cpos) (tBM X.K T r to t):=by
 intro pins s σ H Q I h
 refine wpAny_Call_method_late hbase hfew hline rfl (thn (ho pins s σ H _ I h) fun v s1 ⟨x,H1,I1,r1,ty,q1⟩=>?_)
 obtain⟨h1,h2⟩:=AnK I1 r1 ty
 refine⟨T,id,pa,slot,hty,h1,h2,?_⟩
 have hA:=ha cpos pins s1 σ H1 _ I1 q1
 rw[hs] at hA ⊢
 refine Calls.callWith_builtin (by show(false || (backTo cpos (starEach es X.env)).any (·.1))=false;rw[hplain] <;> rfl) (Calls.evalArgs_plain ?_)
 exact thn hA fun us s2 ⟨vs,H2,I2,r2,q2⟩=>hm pins s2 σ H2 x vs v us Q I2 r1 r2 q2
end
open PySem PySem.Spec PyProof.Rows
def MtM (X:Cx)(id:String)(r:V→List V→Hp→VK→Prop):Prop :=
 ∀(pins:List (Addr × Obj)) (s:Shared) (σ:St) (H:Hp) (x:V) (xs:List V) (v:Value) (us:List Value) (Q:VK),Inv X pins σ H s→RelV x v→Vals xs us→r x xs H Q →
  wpAny (model X.prog X.w) X.A (call (.builtin id) (v::us)) (EP X pins σ Q) X.xe s
theorem Vals.one:∀{x:V} {us:List Value},Vals [x] us→∃ u,us=[u]∧RelV x u
 | _,_,.cons r .nil=>⟨_,rfl,r⟩
theorem Vals.two:∀{x y:V} {us:List Value},Vals [x,y] us→∃ u v,us=[u,v]∧RelV x u∧RelV y v
 | _,_,_,.cons r (.cons q .nil)=>⟨_,_,rfl,r,q⟩
theorem Vals.eraseIdx:∀{xs:List V} {us:List Value} (i:Nat),Vals xs us→Vals (xs.eraseIdx i) (us.eraseIdx i)
 | _,_,_,.nil=>.nil
 | _,_,0,.cons _ t=>t
 | _,_,i+1,.cons r t=>.cons r (Vals.eraseIdx i t)
theorem Vals.rep{xs:List V}{us:List Value}(h:Vals xs us):∀ k:Nat,Vals (List.replicate k xs).flatten (List.replicate k us).flatten
 | 0=>.nil
 | k+1=>by
  rw[At4,At4,Ath,Ath]
  exact Vals.append h (Vals.rep h k)
theorem AeN{α:Type}:∀(l:List α) (i:Nat),(l.eraseIdx i).length≤l.length
 | [],_=>AsI _
 | _::_,0=>Atj _
 | _::r,i+1=>Nat.succ_le_succ (AeN r i)
theorem foldl_rep(its:List Value):∀(k:Nat) (acc:List Value),
  List.foldl (fun x1 x2=>x1++x2) acc.toArray (List.replicate k its.toArray)=(acc++(List.replicate k its).flatten).toArray
 | 0,acc=>by simp
 | k+1,acc=>by
  have e:acc.toArray++its.toArray=(acc++its).toArray:=by simp
  have e2:(acc++its)++(List.replicate k its).flatten=acc++(List.replicate (k+1) its).flatten:=by
   rw[At4,Ath,Atv]
  rw[← e2,← foldl_rep its k (acc++its),← e,At4,Auj]
section
variable {X:Cx}{pins:List (Addr × Obj)}{σ:St}{H:Hp}{s:Shared}{l b:Addr}{xs ys zs:List V}
theorem Inv.AjW{its its':List Value}{n:Nat}{f:Array Value→Array Value}{t':Nat}(I:Inv X pins σ H s)(hH:H l=some (.lst xs))
  (e:s.heap.get? l=some { cls:=.type "list", data:=.seq its.toArray n }) (hf:f its.toArray=its'.toArray) (hv:Vals ys its') (hz:ys.length≤sizeLine) :
  Inv X pins σ (upd H l (.lst ys)) { s with heap:=s.heap.update l (Obj.mapSeq f),toks:=t' }:=by
 have q:=PySem.IsL.update e f
 rw[hf] at q
 refine I.write (x:=l) (e:=l) (by rw[hH];exact trivial) (.inl rfl) (fun b' u hb hu=>(Heap.get?_update_other s.heap (Obj.mapSeq f) (Ne.symm hb)).trans hu) ⟨_,q⟩ ?_
 exact⟨hz,its',_,hv,q⟩
theorem Inv.AnL{its:List Value}{t':Nat}(I:Inv X pins σ H s)(hv:Vals ys its)(hz:ys.length≤sizeLine) :
  Inv X pins σ (upd H s.heap.objs.size (.lst ys)) { s with heap:=s.heap.push { cls:=.type "list", data:=.seq its.toArray },toks:=t' } :=
 I.laid (fun _ _ q=>Heap.get?_push_of_some _ q) (AsI _) ⟨hz,its,0,hv,Heap.get?_push_size _ rfl⟩
theorem Inv.fresh(I:Inv X pins σ H s):H s.heap.objs.size=none:=I.hok.fresh (AsI _)
theorem Inv.Ae6(I:Inv X pins σ H s)(hH:H l=some (.lst xs)):xs.length≤sizeLine∧∃(its:List Value) (n:Nat),Vals xs its∧xs.length=its.length∧s.heap.get? l=some { cls:=.type "list", data:=.seq its.toArray n }:=by
 obtain⟨z,its,n,r,e⟩:=I.hok l _ hH
 exact⟨z,its,n,r,r.length,e⟩
theorem Agn{n:Nat}(h:n≤sizeLine):Builtin.List.listTooLong n=false:=by
 unfold Builtin.List.listTooLong
 exact decide_eq_false (by omega)
end
section
variable {X:Cx}
def AlR:V→List V→Hp→VK→Prop:=fun x vs H Q=>∃ l xs y,x=.ref l∧vs=[y]∧H l=some (.lst xs)∧xs.length<sizeLine∧Q .non (upd H l (.lst (xs++[y])))
theorem Np:MtM X "list.append" AlR:=by
 intro pins s σ H x vs v us Q I rx rv h
 obtain⟨l,xs,y,rfl,rfl,hH,hz,q⟩:=h
 cases rx
 obtain⟨u,rfl,ru⟩:=rv.one
 obtain⟨z,its,n,r,hl,e⟩:=I.Ae6 hH
 refine call_meets F.slot_list_append ⟨_,e,rfl⟩ F.entry_list_append (F.args_list_append_2 _ _) (PySem.list_append l its.toArray n u (by rw[AsK];omega)) ⟨e,?_⟩
 refine⟨.non,_,I.AjW (its':=its++[u]) hH e (by simp) (r.append (.cons ru .nil)) ?_,rfl,q⟩
 rw[AsN,List.length_singleton]
 omega
def AlS:V→List V→Hp→VK→Prop:=fun x vs H Q=>∃ l b xs zs,x=.ref l∧vs=[.ref b]∧H l=some (.lst xs)∧H b=some (.lst zs)∧xs.length+zs.length≤sizeLine∧Q .non (upd H l (.lst (xs++zs)))
theorem Ajd:MtM X "list.extend" AlS:=by
 intro pins s σ H x vs v us Q I rx rv h
 obtain⟨l,b,xs,zs,rfl,rfl,hH,hB,hz,q⟩:=h
 cases rx
 obtain⟨u,rfl,ru⟩:=rv.one
 cases ru
 obtain⟨z,its,n,r,hl,e⟩:=I.Ae6 hH
 obtain⟨z2,its2,n2,r2,hl2,e2⟩:=I.Ae6 hB
 have hsz:its.toArray.size+its2.toArray.size≤sizeLine:=by rw[AsK,AsK];omega
 have AjX:¬(!its.toArray.isEmpty && Builtin.List.listTooLong (its.toArray.size+its2.toArray.size))=true:=by
  rw[Agn hsz,Bool.and_false]
  exact AsT
 refine call_meets F.slot_list_extend ⟨_,e,rfl⟩ F.entry_list_extend (F.args_list_extend_2 _ _)
  (AutoSeq1.list_extend_list_list_0 l its.toArray n b its2.toArray n2 AjX (by rw[AsK];omega) (by omega)) ⟨e,e2,?_⟩
 refine⟨.non,_,I.AjW (its':=its++its2) hH e (by simp) (r.append r2) ?_,rfl,q⟩
 rw[AsN]
 omega
def Ass:V→List V→Hp→VK→Prop:=fun x vs H Q=>∃ l xs y,x=.ref l∧vs=[]∧H l=some (.lst xs)∧xs[xs.length-1]?=some y∧Q y (upd H l (.lst xs.dropLast))
def AnM:V→List V→Hp→VK→Prop:=fun x vs H Q=>∃ l xs i k y,x=.ref l∧vs=[.int i]∧H l=some (.lst xs) ∧ -(2 ^ 63)≤i∧i<2 ^ 63∧seqIndex? i xs.length=some k∧xs[k]?=some y∧Q y (upd H l (.lst (xs.eraseIdx k)))
theorem AjY:MtM X "list.pop" AnM:=by
 intro pins s σ H x vs v us Q I rx rv h
 obtain⟨l,xs,i,k,y,rfl,rfl,hH,h1,h2,hk,hy,q⟩:=h
 cases rx
 obtain⟨u,rfl,ru⟩:=rv.one
 obtain⟨t,rfl⟩:=ru
 obtain⟨z,its,n,r,hl,e⟩:=I.Ae6 hH
 obtain⟨w,hw,rw'⟩:=r.get hy
 refine call_meets F.slot_list_pop ⟨_,e,rfl⟩ F.entry_list_pop (F.args_list_pop_2 _ _)
  (MeetsSeq.list_pop_at l its.toArray n i t k w (fitsIndex_both h1 h2) (by rw[AsK,← hl];exact hk) (by rw[← Array.getElem?_toList];exact hw) (by rw[AsK];omega)) ⟨e,?_⟩
 refine⟨y,_,I.AjW (its':=its.eraseIdx k) hH e ?_ (r.eraseIdx k) ?_,rw',q⟩
 ·show its.toArray.eraseIdxIfInBounds k=(its.eraseIdx k).toArray
  rw[List.eraseIdxIfInBounds_toArray]
 ·have:=AeN xs k
  omega
def Apz:V→List V→Hp→VK→Prop:=fun x vs H Q=>∃ l xs,x=.ref l∧vs=[]∧H l=some (.lst xs)∧Q .non (upd H l (.lst xs.reverse))
def AqG:V→List V→Hp→VK→Prop:=fun x vs H Q=>∃ l xs,x=.ref l∧vs=[]∧H l=some (.lst xs)∧Q .non (upd H l (.lst []))
def AqH:R2:=fun x y H Q=>∃ l b xs zs,x=.ref l∧y=.ref b∧H l=some (.lst xs)∧H b=some (.lst zs)∧xs.length+zs.length≤sizeLine∧∀ p,H p=none→Q (.ref p) (upd H p (.lst (xs++zs)))
theorem Afm:OpR X (binaryOp .Add) AqH:=by
 intro pins s σ H x y v u Q I rx ry h
 obtain⟨l,b,xs,zs,rfl,rfl,hH,hB,hz,q⟩:=h
 cases rx
 cases ry
 obtain⟨z,its,n,r,hl,e⟩:=I.Ae6 hH
 obtain⟨z2,its2,n2,r2,hl2,e2⟩:=I.Ae6 hB
 refine PySem.P.add_list e e2 ?_ (by rw[AsK,AsK];omega)
 have ea:its.toArray++its2.toArray=(its++its2).toArray:=by simp
 rw[ea]
 exact⟨.ref _,_,I.AnL (t':=s.toks) (r.append r2) (by rw[AsN];omega),rfl,q _ I.fresh⟩
def AqI:R2:=fun x y H Q=>∃ l k xs,x=.ref l∧y=.int k∧H l=some (.lst xs) ∧ -(2 ^ 63)≤k∧k<2 ^ 63∧xs.length*k.toNat≤sizeLine ∧
 ∀ p,H p=none→Q (.ref p) (upd H p (.lst (List.replicate k.toNat xs).flatten))
theorem len_rep{α:Type}(xs:List α)(k:Nat):(List.replicate k xs).flatten.length=k*xs.length:=by
 induction k with
 | zero=>simp
 | succ k ih=>rw[At4,Ath,AsN,ih,Auk,Nat.add_comm]
theorem AnN:OpR X (binaryOp .Mult) AqI:=by
 intro pins s σ H x y v u Q I rx ry h
 obtain⟨l,k,xs,rfl,rfl,hH,h1,h2,hz,q⟩:=h
 cases rx
 obtain⟨t,rfl⟩:=ry
 obtain⟨z,its,n,r,hl,e⟩:=I.Ae6 hH
 have hlen:its.toArray.size*k.toNat≤sizeLine:=by rw[AsK,← hl];exact hz
 have AqJ:¬its.toArray.size*k.toNat>(2 ^ 63-1) / 8:=by
  have:(sizeLine:Nat)≤(2 ^ 63-1) / 8:=by decide
  omega
 have hfit:¬(!Builtin.List.listFitsIndex k)=true:=by
  rw[fitsIndex_both h1 h2]
  exact AsT
 have AjX:¬Builtin.List.listTooLong (its.toArray.size*k.toNat)=true:=by
  rw[Agn hlen]
  exact AsT
 have hnew:List.foldl (fun x1 x2=>x1++x2) #[] (List.replicate (if its.toArray.isEmpty=true then 0 else k.toNat) its.toArray)=(List.replicate k.toNat its).flatten.toArray:=by
  have f0:∀ m:Nat,List.foldl (fun x1 x2=>x1++x2) #[] (List.replicate m its.toArray)=(List.replicate m its).flatten.toArray:=fun m=>by
   have:=foldl_rep its m []
   rw[AtE] at this
   exact this
  rw[f0]
  cases its with
  | nil=>simp
  | cons a r'=>rw[if_neg (by simp)]
 refine wpAny_binaryOp_repeat_ref (T := "list") (U := "int") (by decide) ⟨_,e,rfl⟩ (fun s'=>typeIs_int s' k t) noFill_list_mul F.fills_int_mul F.slot_int_rmul repeat_list F.slot_int_index.lookup
  (call_meets F.slot_int_rmul (typeIs_int s k t) F.entry_int_rmul (F.args_int_rmul_2 _ _) (int___rmul___int_list k t l its.toArray n)
   ⟨e,rfl,⟨_,e,rfl⟩,call_meets F.slot_list_mul ⟨_,e,rfl⟩ F.entry_list_mul (F.args_list_mul_2 _ _) (AutoListH.list___mul___list_int_3 l its.toArray n k t hfit AqJ AjX) ⟨e,?_⟩⟩)
 rw[hnew]
 exact⟨.ref _,_,I.AnL (t':=s.toks) (r.rep k.toNat) (by rw[len_rep,Nat.mul_comm];exact hz),rfl,q _ I.fresh⟩
end
section
variable {prog:Program}{w:World}{A:Around}{E:Value→Shared→Prop}{s:Shared}
end
section
variable {X:Cx}
end
end L2
namespace Att
open PySem PySem.W PySem.Calls PyProof.Rows
theorem AcA{P:Params}{h:Heap}:∀(ns:List Int) (vs:List Value),WellAll P h vs (ns.map WData.int)→IntsAre vs ns:=by
 intro ns
 induction ns with
 | nil =>
  intro vs w
  rw[At3] at w
  cases w
  exact .nil
 | cons n ns ih =>
  intro vs w
  rw[AsY] at w
  cases w with
  | cons a b =>
   cases a
   exact .cons _ _ (ih _ b)
theorem Aje{l:OpenLaw}{n:Nat}(hn:l.most=some n){P:Params}{h:Heap}{args:List WData}{vals:List Value}
  (hpre:l.row.toRowW.claim.pre args=true) (hwl:WellAll P h vals args) :
  ∃ a vs ns,vals=[Value.ref a]∧args=[WData.list (ns.map WData.int)]∧h.get? a=some { cls:=.type "list", data:=.seq vs.toArray }∧IntsAre vs ns∧ns.length≤n:=by
 have hsh:WShape.hasAll [] args [.list .int]=true:=(pre_splitW hpre).1
 have hc:l.pre.holds [] { args:=args }=true:=(pre_splitW hpre).2
 obtain⟨d,r,rfl,h1,h2⟩:=hasAllW_cons hsh
 obtain rfl:=hasAllW_nil h2
 obtain⟨xs,rfl,h3⟩:=hasW_list h1
 obtain⟨ns,rfl⟩:=items_int h3
 have hlen:ns.length≤n:=by
  unfold OpenLaw.pre at hc
  have h4:(WTm.not (.lt (.lit (.int (n:Int))) (.len (.arg 0)))).holds [] { args:=[.list (ns.map .int)] }=true:=by
   have h4:=(holds_andW hc).1
   rw[hn] at h4
   exact h4
  have h5:=condW_of h4 (w_not (w_lt w_lit (w_len_list (w_arg rfl))))
  rw[AsH] at h5
  refine Aux fun q=>?_
  have q':(n:Int)<((ns.length:Nat):Int):=by omega
  first
   | (rw[decide_eq_true q'] at h5;exact absurd h5 (by decide))
   | (simp at h5;omega)
 cases hwl with
 | cons w1 w2 =>
  cases w2
  cases w1 with
  | list ho hall=>exact⟨_,_,ns,rfl,rfl,ho,AcA ns _ hall,hlen⟩
theorem Ajf(l:OpenLaw)(args:List WData):l.row.toRowW.claim.post args (.bool true) args=true :=
 postW_of (r:=l.row.toRowW) (X:=(true == true))
  (show WShape.has [] (.bool true) .bool=true by first | rfl | decide | simp[WShape.has,WShape.arms,WShape.armsAll])
  (show(WTm.eq .res (.lit (.bool true))).value [] { args:=args,res:=some (.bool true),after:=args }=some (.bool (true == true)) from w_eq_bool (w_res rfl) w_lit) rfl
theorem Ace{l:OpenLaw}{n:Nat}{q:Program}{loose:List Str}{XP:(Str→Option Value)→Heap→Prop}{YP:World→Heap→Prop}{d:DefRec}
  (hn:l.most=some n) (hdf:d.params.defaults=[])
  (call:∀(w:World) (s₀ s₁:Shared) (mg mb:Str→Option Value) (fa:Addr) (o:Obj) (pm cd doc:Value) (a:Addr) (vs:List Value) (ns:List Int),
   Ground q loose [] XP w s₀ mg mb s₁.heap→YP w s₁.heap →
   s₁.heap.get? fa=some o→o.data=.func (docDef d.name d.params d.body d.scope pm cd doc)→s₁.heap.CodeRec cd d.name→mg d.name=some (.ref fa) →
   s₁.heap.get? a=some { cls:=.type "list", data:=.seq vs.toArray }→IntsAre vs ns→ns.length≤n→s₁.gens=#[] →
   codeAny (model l.prog w) callerA (.call (.ref fa) ⟨[.ref a],[]⟩) (fun r s'=>r=.ok (.ret (.bool true))∧OldK s₁.heap s'.heap∧s'.os=s₁.os∧AllBare s'.gens) s₁) :
  WalkO q loose XP YP l.row.toRowW d [] (fun f vs=>PySem.call f vs):=by
 intro w s₀ s₁ mg mb G Y fa o pm cd doc dV kV ho hd hcd hD hmg hg args vals as hpre hlay hrd hwl hlo
 obtain rfl:dV=.none:=Dflts.none hD hdf
 obtain rfl:kV=.none:=Dflts.noKw hD
 obtain⟨a,vs,ns,rfl,rfl,hobj,hints,hlen⟩:=Aje hn hpre hwl
 refine enter_call (codeAny_mono (call w s₀ s₁ mg mb fa o pm cd doc a vs ns G Y ho (fd_plain hd) hcd hmg hobj hints hlen hg) fun r s' hq=>?_)
 obtain⟨rfl,h2,h3,h4⟩:=hq
 exact⟨.inl ⟨.bool true,.bool true,[],rfl,fun _=>rfl,.bool true,Ajf l _,fun _=>⟨List.Pairwise.nil,fun _ hm=>(nomatch hm)⟩⟩,h2,h3,h4⟩
section
variable {prog:Program}{w:World}{A:Around}{E:Value→Shared→Prop}{s:Shared}{K:Frag}
def AqK (h:Heap):Heap:={ h with objs:=#[] }
def ledger(h:Heap)(L d:Addr):List (Addr × Obj):=(List.range h.objs.size).filterMap fun a=>if a=L∨a=d then none else (h.get? a).map fun o=>(a,o)
end
end Att
namespace L2
open PySem PySem.Spec PyProof.Rows
theorem Nq:∀{vs:List Value} {ns:List Int},IntsAre vs ns→Vals (ns.map V.int) vs
 | _,_,.nil=>.nil
 | _,_,.cons n t h=>.cons ⟨t,rfl⟩ (Nq h)
def Only(H:Hp):Prop:=∀ b,H b=none∨∃ o xs,H b=some (.frz o (.lst xs))
theorem AjZ{P:Program}{w:World}{K:PySem.W.Frag}{mg mb:Str→Option Value}{CX:CXT}{k:Nat}{fa a:Addr}{fd:FuncData}{x:Str}{sp:Sp}{s₁:Shared}{vs:List Value}{ns:List Int}
  (KX:K.In s₁.heap) (hns:s₁.heap.Ns mainGlobals mg) (hb:s₁.heap.Ns builtinsNs mb) (hbb:∀ x:Str,x ≠ "__name__" → mb x=bootBuiltins x) (hlim:s₁.heap.NoLimit) (hg:s₁.gens=#[])
  (ha:s₁.heap.get? a=some { cls:=.type "list", data:=.seq vs.toArray }) (hi:IntsAre vs ns) (hl:ns.length≤sizeLine) (hr:Mq k callerA)
  (F:∀ base:Heap,K.In base→base.Ns mainGlobals mg→Bp P w K mg base CX k fa fd [x] sp) (hbind:∀(s:Shared) (u:Value),BindsTo s fd ⟨[u],[]⟩ [(x,u)])
  (hsp:∀ H:Hp,Only H→SqL K H a (ns.map V.int)→sp [.ref a] H (fun v _=>v=.bl true) fun _ _ _=>False)
  (hCX:∀ H e s',CX [] H s₁ (fun _ _ _=>False) e s'→False) :
  codeAny (model P w) callerA (.call (.ref fa) ⟨[.ref a],[]⟩) (fun r s'=>r=.ok (.ret (.bool true))∧OldK s₁.heap s'.heap∧s'.os=s₁.os∧AllBare s'.gens) s₁:=by
 have rv:=Nq hi
 have lenV:=hi.length
 have core:∀ H:Hp,Only H→SqL K H a (ns.map V.int)→HOk P w H s₁.heap→(∀ b,H b≠none→b=a)→(H a≠none→K.lookup a=none) →
   codeAny (model P w) callerA (.call (.ref fa) ⟨[.ref a],[]⟩) (fun r s'=>r=.ok (.ret (.bool true))∧OldK s₁.heap s'.heap∧s'.os=s₁.os∧AllBare s'.gens) s₁:=by
  intro H hO hS hok hA hK
  have RN:∀{b:Addr} {o:Obj},s₁.heap.get? b=some o→H b=none→(XH s₁.heap H).get? b=some o:=fun e n=>Agi e n
  have noA:∀{b:Addr} {o:Obj} {es:Array DictEntry} {ep:Nat},s₁.heap.get? b=some o→o.data=.dict es ep→H b=none:=fun {b o es ep} e d=>by
   cases q:H b with
   | none=>rfl
   | some u =>
    have e':b=a:=hA b (by rw[q];simp)
    subst e'
    rw[ha] at e;cases e
    have d':Data.seq vs.toArray _=Data.dict es ep:=d
    cases d'
  have nsK:∀{b:Addr} {m:Str→Option Value},s₁.heap.Ns b m→(XH s₁.heap H).Ns b m:=fun {b m} ⟨o,es,ep,e,d,r⟩=>⟨o,es,ep,RN e (noA e d),d,r⟩
  have hKb:K.In (XH s₁.heap H):=fun b o e=>RN (KX b o e) (by
   cases q:H b with
   | none=>rfl
   | some u =>
    have e':b=a:=hA b (by rw[q];simp)
    subst e'
    rw[hK (by rw[q];simp)] at e;cases e)
  have hM:Mod K mg (XH s₁.heap H):=⟨hKb,nsK hns,⟨mb,nsK hb,hbb⟩,let ⟨mc,h1,h2⟩:=hlim;⟨mc,nsK h1,h2⟩⟩
  have e0:AjS P w K mg (XH s₁.heap H) callerA [] s₁ H:=⟨rfl,hM,fun b o e=>Aie e,At9 (AeH _ _),trivial,fun b hb=>absurd (show b∈([]:List Addr) from hb) (by simp),hok,.of_eq hg⟩
  refine codeAny_mono ((F _ hKb (nsK hns)).run callerA [] s₁ H ⟨[.ref a],[]⟩ [.ref a] [.ref a] _ _ hr e0 (hbind s₁ (.ref a)) (.cons rfl .nil) (hsp H hO hS)) fun r s' h=>?_
  cases r with
  | error e=>exact(hCX H e s' h).elim
  | ok fl =>
   cases fl with
   | next=>exact False.elim h
   | brk=>exact False.elim h
   | cont=>exact False.elim h
   | ret u =>
    obtain⟨v,H',os,bare,un,hok',r',q⟩:=h
    have q':v=.bl true:=q
    subst q'
    obtain rfl:u=Value.bool true:=r'
    refine⟨rfl,OldK.of_keep fun b o e=>?_,os,bare⟩
    cases q:H b with
    | none=>exact un.keep b o e q (by intro z;exact absurd (show b∈([]:List Addr) from z) (by simp)) (by simp)
    | some u =>
     rcases hO b with z | ⟨ob,xs,z⟩
     ·rw[q] at z;cases z
     ·have z2:=un.Pg b ob _ z
      obtain⟨e1,_⟩:=hok b _ z
      obtain⟨e2,_⟩:=hok' b _ z2
      rw[e] at e1;cases e1
      exact e2
 cases hk:K.lookup a with
 | some o =>
  have e:=KX a o hk
  rw[ha] at e
  cases e
  refine core (fun _=>none) (fun _=>.inl rfl) (.inr ⟨_,vs.toArray,_,hk,rfl,rfl,rfl,by rw[AsK,lenV];exact hl,by simpa using rv⟩) (fun b u z=>by have z':(none:Option HO)=some u:=z;cases z') (fun b z=>absurd rfl z) fun z=>absurd rfl z
 | none =>
  refine core (fun b=>if b=a then some (.frz { cls:=.type "list", data:=.seq vs.toArray } (.lst (ns.map V.int))) else none) (fun b=>?_) (.inl (.inr ⟨{ cls:=.type "list", data:=.seq vs.toArray },if_pos rfl⟩)) (fun b u z=>?_) (fun b z=>?_) fun _=>hk
  ·by_cases hb:b=a
   ·exact .inr ⟨_,_,if_pos hb⟩
   ·exact .inl (if_neg hb)
  ·by_cases hb:b=a
   ·have z':=(if_pos hb).symm.trans z
    cases z'
    subst hb
    exact⟨ha,by rw[AsH];exact hl,vs,_,rv,ha⟩
   ·have z':=(if_neg hb).symm.trans z
    cases z'
  ·by_cases hb:b=a
   ·exact hb
   ·exact absurd (if_neg hb) z
open PySem PySem.Spec PyProof.Rows
abbrev KOf {K:PySem.W.Frag} {h:Heap} (_:K.In h):PySem.W.Frag:=K
theorem Aqn{l:PySem.W.OpenLaw}{n k:Nat}{q:Program}{loose:List Str}{XP:(Str→Option Value)→Heap→Prop}{YP:World→Heap→Prop}{d:DefRec}{K:Params→PySem.W.Frag}{CX:World→CXT}{sp:World→Sp}{x:Str}
  (hn:l.most=some n) (hn2:n≤sizeLine) (hdf:d.params.defaults=[]) (hr:Mq k callerA)
  (hY:∀(w:World) (h:Heap),YP w h→(K w.params).In h)
  (F:∀(w:World) (mg:Str→Option Value) (fa:Addr) (h:Heap),(K w.params).In h→h.Ns mainGlobals mg→mg d.name=some (.ref fa) →
   ∃ fd:FuncData,(∀(s:Shared) (u:Value),BindsTo s fd ⟨[u],[]⟩ [(x,u)]) ∧
    ∀ base:Heap,(K w.params).In base→base.Ns mainGlobals mg→Bp l.prog w (K w.params) mg base (CX w) k fa fd [x] (sp w))
  (hsp:∀(w:World) (H:Hp) (a:Addr) (ns:List Int),ns.length≤n→Only H→SqL (K w.params) H a (ns.map V.int)→sp w [.ref a] H (fun v _=>v=.bl true) fun _ _ _=>False)
  (hCX:∀(w:World) (H:Hp) (s:Shared) (e:Value) (s':Shared),CX w [] H s (fun _ _ _=>False) e s'→False) :
  PySem.W.WalkO q loose XP YP l.row.toRowW d [] (fun f vs=>PySem.call f vs):=by
 refine Att.Ace hn hdf fun w s₀ s₁ mg mb fa o pm cd doc a vs ns G Y ho hd hcd hmg hobj hints hlen hg=>?_
 have KX:=hY w _ Y
 obtain⟨fd,hb,hF⟩:=F w mg fa _ KX G.T.g hmg
 exact AjZ KX G.T.g G.T.b G.T.builtins G.T.nolimit hg hobj hints (AsX hlen hn2) hr hF hb (fun H hO hS=>hsp w H a ns hlen hO hS) fun H e s'=>hCX w H s₁ e s'
open PySem PySem.Spec PyProof.Rows
def inClass(s:Stmt)(j:Nat):Stmt:=match s with
 | .ClassDef _ _ _ body _ _ _ _ _ _ _=>body.getD j (.Pass ⟨0,0,0,0⟩)
 | _=>.Pass ⟨0,0,0,0⟩
def Ak (s:Stmt):Arguments:=match s with
 | .FunctionDef _ a _ _ _ _ _ _ _ _=>a
 | _=>{ posonlyargs:=[],args:=[],vararg:=none,kwonlyargs:=[],kw_defaults:=[],kwarg:=none,defaults:=[] }
def Aj (s:Stmt):List Stmt:=match s with
 | .FunctionDef _ _ b _ _ _ _ _ _ _=>b
 | _=>[]
def Ab (s:Stmt):Scope:=match s with
 | .FunctionDef _ _ _ _ _ _ sc _ _ _=>sc
 | _=>{ kind:=.function,names:=[],isGenerator:=false,isCoroutine:=false }
abbrev CX0:CXT:=fun _ _ _ _ _ _=>False
abbrev E0:XK:=fun _ _ _=>False
theorem Fz{X:Cx}:Passes CX0 X E0:=fun _ _ _ _ _ _ _ h=>h.elim
structure Fun (K:PySem.W.Frag) (x qual:Str) (st:Stmt) (f:Addr) (fd:FuncData):Prop where
 ex:∃(oc:Value) (od:Option Addr) (kV doc pm:Value) (an:Option Addr) (cdv ct:Value) (osl:Array (Option Value)),
  fd=PySem.W.fnOf x qual (Ak st) (Aj st) (Ab st) .none kV doc pm an cdv ct∧K.lookup f=some ⟨oc,od,.func fd,osl⟩∧PySem.W.codeIn K cdv qual=true
 kp:PySem.W.keepIn K (.ref f)=true
section
variable {P:Program}{w:World}{K:PySem.W.Frag}{mg:Str→Option Value}{base:Heap}
theorem Fun.ok{x qual:Str}{st:Stmt}{f:Addr}{fd:FuncData}{N ps:List Str}{k:Nat}{sp:Sp}(F:Fun K x qual st f fd)(S:Cm N ps (Ab st))(len:∀ vs H Q E,sp vs H Q E→vs.length=ps.length)
  (hbody:∀(cdv:Value) (A:Around) (outer:List Env) (s:Shared) (H:Hp) (vs:List V) (Q:VK) (E:XK),Mq k (A.deeper (envOfC qual (Ab st) s.heap.objs.size f cdv))→sp vs H Q E →
   ∃ t,PSs (Ae4 CX0 P w K mg base N qual (Ab st) f cdv A outer s H E).nox (Aj st) t∧t { nx:=fun _ H'=>Q .non H',rt:=Q } (start N vs) H):Bp P w K mg base CX0 (k+1) f fd ps sp:=by
 obtain⟨oc,od,kV,doc,pm,an,cdv,ct,osl,rfl,lk,hcd⟩:=F.ex
 refine AjU lk hcd S len fun A outer s H vs Q E hr hsp=>?_
 obtain⟨t,h,q⟩:=hbody cdv A outer s H vs Q E hr hsp
 exact⟨t,h.nox,q⟩
theorem Fun.binds{x qual:Str}{st:Stmt}{f:Addr}{fd:FuncData}{ps:List Str}(F:Fun K x qual st f fd)
  (h:∀(kV doc pm:Value) (an:Option Addr) (cdv ct:Value) (us:List Value),us.length=ps.length→bindArgs (PySem.W.fnOf x qual (Ak st) (Aj st) (Ab st) .none kV doc pm an cdv ct) ⟨us,[]⟩=pure (ps.zip us)):Binds K fd ps []:=by
 obtain⟨oc,od,kV,doc,pm,an,cdv,ct,osl,rfl,lk,hcd⟩:=F.ex
 exact .all (h kV doc pm an cdv ct)
theorem Ay{x qual:Str}{st:Stmt}{f:Addr}{oc:Value}{od an:Option Addr}{osl:Array (Option Value)}{kV doc pm cdv ct:Value}(l:K.lookup f=some ⟨oc,od,.func (PySem.W.fnOf x qual (Ak st) (Aj st) (Ab st) .none kV doc pm an cdv ct),osl⟩)
  (c:PySem.W.codeIn K cdv qual=true) (k:PySem.W.keepIn K (.ref f)=true):Fun K x qual st f (PySem.W.fnOf x qual (Ak st) (Aj st) (Ab st) .none kV doc pm an cdv ct):=⟨⟨oc,od,kV,doc,pm,an,cdv,ct,osl,rfl,l,c⟩,k⟩
end
theorem Ajg{n:Nat}(h:n≤1000):n<sizeLine:=Aul h (by decide)
section
variable {X:Cx}
theorem pv(i:Nat){x:Str}{pos:Pos}(hN:X.N[i]?=some x:=by rfl)(hv:Vis X.env.scope x:=by first | exact Or.inl rfl | exact Or.inr (Or.inl rfl) | exact Or.inr (Or.inr rfl))(hd:(x == ("__debug__" : Str))=false:=by decide)
  (hcd:(x == ("__classdict__" : Str))=false:=by decide):PE X (.Name x pos) (Ape i):=Ahv hN hv hd hcd
end
theorem XJ{A B:Prop}(h:B):if false=true then A else B:=by
 rw[if_neg AsT]
 exact h
theorem Adb{A B:Prop}(h:A):if true=true then A else B:=by
 rw[if_pos rfl]
 exact h
theorem Aah{c A B:Prop}[Decidable c](hc:c)(h:B):if (!decide c)=true then A else B:=by
 rw[decide_eq_true hc]
 exact XJ h
def Bl (H H':Hp):Prop:=∀ b o,H b=some o→H' b=some o
theorem Bl.refl(H:Hp):Bl H H:=fun _ _ h=>h
theorem Bl.trans{H H1 H2:Hp}(a:Bl H H1)(b:Bl H1 H2):Bl H H2:=fun c o h=>b c o (a c o h)
theorem Bl.free{H H':Hp}(e:Bl H H'){l:Addr}(h:H' l=Option.none):H l=Option.none:=by
 cases q:H l with
 | none=>rfl
 | some o =>
  rw[e l o q] at h
  cases h
theorem Bl.seq{K:PySem.W.Frag}{H H':Hp}{a:Addr}{xs:List V}(e:Bl H H')(h:SqL K H a xs):SqL K H' a xs:=by
 rcases h with (h | ⟨o,h⟩) | h
 ·exact .inl (.inl (e _ _ h))
 ·exact .inl (.inr ⟨o,e _ _ h⟩)
 ·exact .inr h
open PySem PySem.Spec PyProof.Rows
theorem Yq{scope:Scope}{env:Env}(h:∀ y∈scope.names,y.2=.free→∃ c,env.cells.lookup y.1=some c) :
  ∃ cl,closureFor scope env=pure cl∧(∀ x c,cl.lookup x=some c→env.cells.lookup x=some c∧(x,NameKind.free)∈scope.names) ∧
   ∀ x,(x,NameKind.free)∈scope.names→cl.lookup x=env.cells.lookup x:=by
 have key:∀(l:List (Str × NameKind)) (cs:List (Str × Addr)),(∀ y∈l,y.2=.free→∃ c,env.cells.lookup y.1=some c) →
   ∃ cl,(forIn l cs (fun(x:Str × NameKind) (cs:List (Str × Addr))=>do
     if x.2 == .free then
      let c ← cellOf env x.1
      pure (ForInStep.yield ((x.1,c)::cs))
     else pure (ForInStep.yield cs)):Sem (List (Str × Addr)))=pure cl ∧
    (∀ x c,cl.lookup x=some c→(env.cells.lookup x=some c∧(x,NameKind.free)∈l)∨cs.lookup x=some c) ∧
    ∀ x,((x,NameKind.free)∈l→cl.lookup x=env.cells.lookup x)∧((cs.lookup x=env.cells.lookup x)→cl.lookup x=env.cells.lookup x):=by
  intro l
  induction l with
  | nil=>intro cs _;exact⟨cs,rfl,fun x c e=>.inr e,fun x=>⟨fun z=>absurd z (by simp),fun z=>z⟩⟩
  | cons y r ih =>
   intro cs hl
   obtain⟨n,k⟩:=y
   by_cases hk:k=.free
   ·subst hk
    obtain⟨c,hc⟩:=hl (n,.free) AsR rfl
    obtain⟨cl,e1,e2,e3⟩:=ih ((n,c)::cs) fun y hy=>hl y (AsW _ hy)
    refine⟨cl,?_,fun x d e=>?_,fun x=>⟨fun z=>?_,fun z=>?_⟩⟩
    ·rw[Aum]
     simp only [beq_self_eq_true,if_true,cellOf,hc]
     exact e1
    ·rcases e2 x d e with ⟨z1,z2⟩ | z
     ·exact .inl ⟨z1,AsW _ z2⟩
     ·rw[Ati] at z
      by_cases hx:x == n
      ·rw[hx] at z
       have hx':x=n:=by simpa using hx
       subst hx'
       refine .inl ⟨?_,AsR⟩
       rw[hc];exact z
      ·have hx':(x == n)=false:=by simpa using hx
       rw[hx'] at z
       exact .inr z
    ·rcases List.mem_cons.mp z with z | z
     ·injection z with z1 _
      subst z1
      refine(e3 x).2 ?_
      rw[Ati,hc]
      simp
     ·exact(e3 x).1 z
    ·by_cases hx:x=n
     ·subst hx
      refine(e3 x).2 ?_
      rw[Ati,hc]
      simp
     ·refine(e3 x).2 ?_
      rw[Ati]
      have hx':(x == n)=false:=by simpa using hx
      rw[hx']
      exact z
   ·obtain⟨cl,e1,e2,e3⟩:=ih cs fun y hy=>hl y (AsW _ hy)
    have hb:(k == NameKind.free)=false:=by simpa using hk
    refine⟨cl,?_,fun x d e=>?_,fun x=>⟨fun z=>?_,(e3 x).2⟩⟩
    ·rw[Aum]
     simp only [hb,Atp,if_false]
     exact e1
    ·rcases e2 x d e with ⟨z1,z2⟩ | z
     ·exact .inl ⟨z1,AsW _ z2⟩
     ·exact .inr z
    ·rcases List.mem_cons.mp z with z | z
     ·injection z with _ z2
      exact absurd z2.symm hk
     ·exact(e3 x).1 z
 obtain⟨cl,e1,e2,e3⟩:=key scope.names [] h
 refine⟨cl,?_,fun x c e=>?_,fun x z=>(e3 x).1 z⟩
 ·unfold closureFor
  have:=e1
  simpa using this
 ·rcases e2 x c e with z | z
  ·exact z
  ·simp at z
theorem Eh{env:Env}(hk:env.scope.kind=.function):∀{names:List (Str × NameKind)} {x:Str} {k:NameKind},names.lookup x=some k→k≠.free →
  (names.map fun(n,k)=>if (k == NameKind.free && env.scope.kind == .function && env.kindOf n == some .cell) then (n,NameKind.cell) else (n,k)).lookup x=some k
 | [],_,_,h,_=>by simp at h
 | (n,k')::r,x,k,h,hf=>by
  have ih:=@Eh env hk r x k
  show List.lookup x ((if (k' == NameKind.free && env.scope.kind == .function && env.kindOf n == some .cell)=true then (n,NameKind.cell) else (n,k'))::_)=_
  cases hx:x == n with
  | true =>
   simp only [Ati,hx] at h
   cases h
   have:(k' == NameKind.free)=false:=by simpa using hf
   simp[Ati,hx,this]
  | false =>
   simp only [Ati,hx] at h
   by_cases hc:(k' == NameKind.free && env.scope.kind == .function && env.kindOf n == some .cell)=true
   ·rw[if_pos hc];simp only [Ati,hx];exact ih h hf
   ·rw[if_neg hc];simp only [Ati,hx];exact ih h hf
theorem Jk{env:Env}(hk:env.scope.kind=.function):∀{names:List (Str × NameKind)} {x:Str},names.lookup x=some .free→env.kindOf x=some .cell →
  (names.map fun(n,k)=>if (k == NameKind.free && env.scope.kind == .function && env.kindOf n == some .cell) then (n,NameKind.cell) else (n,k)).lookup x=some .cell
 | [],_,h,_=>by simp at h
 | (n,k')::r,x,h,hc=>by
  have ih:=@Jk env hk r x
  show List.lookup x ((if (k' == NameKind.free && env.scope.kind == .function && env.kindOf n == some .cell)=true then (n,NameKind.cell) else (n,k'))::_)=_
  cases hx:x == n with
  | true =>
   simp only [Ati,hx] at h
   cases h
   have hxn:x=n:=by simpa using hx
   subst hxn
   simp[Ati,hk,hc]
  | false =>
   simp only [Ati,hx] at h
   by_cases hd:(k' == NameKind.free && env.scope.kind == .function && env.kindOf n == some .cell)=true
   ·rw[if_pos hd];simp only [Ati,hx];exact ih h hc
   ·rw[if_neg hd];simp only [Ati,hx];exact ih h hc
def Ii (X:Cx)(Nc:List Str)(scope:Scope)(cl:List (Str × Addr))(C:Addr)(fp:List Addr)(s:Shared)(H:Hp):Cx where
 prog:=X.prog
 w:=X.w
 K:=X.K
 mg:=X.mg
 base:=X.base
 A:=X.A
 N:=Nc
 s₀:=s
 H₀:=H
 env:=compEnvC scope cl C X.env
 outer:=X.stack
 stack:=X.stack
 ex:=fp
 fn:=fun _=>false
 calm:=X.calm
 pn:=[]
 xe:=fun _ _=>False
def JM (σ:St)(BL:List Nat):St:=BL.map fun j=>(σ[j]?).join
structure Hh (X:Cx) (x:Str) (Nc:List Str) (BL:List Nat) (scope:Scope):Prop where
 kind:scope.kind=.function
 cell:∀ y∈scope.names,y.2≠.cell
 names:∀ y∈scope.names,y.2=.local→scope.names.lookup y.1=some .local
 fr:∀ y∈scope.names,y.2=.free→X.env.scope.names.lookup y.1=some .cell∧scope.names.lookup y.1=some .free
 loc:scope.names.lookup x=some .local
 len:Nc.length=BL.length+1
 hd:Nc[0]?=some x
 nd:Nc.Nodup
 cap:∀ k j,BL[k]?=some j→∃ y,Nc[k+1]?=some y∧X.N[j]?=some y∧scope.names.lookup y=some .free
theorem Aai{prog:Program}{w:World}{A:Around}{R:Result→Shared→Prop}{s:Shared}{elt target iter:Expr}{ifs:List Expr}{scope:Scope}{pos:Pos}{it acc:Value}{env:Env}(I:Nat→Shared→Prop)
  (turn:∀ n s,I n s→wpAny (model prog w) A (pyNext it) (fun r s₁=>match r with
   | none=>R (.ok .next) s₁
   | some v=>wpAny (model prog w) A (letOwnedTupleGo target it v) (fun _ s1'=>wpAny (model prog w) A (assign target env v) (fun _ s₂ =>
     wpAny (model prog w) A (forIn ifs true fun c r=>if r=true then do let ok ← isTrue c env (eval c env);pure (ForInStep.yield ok) else pure (ForInStep.yield r)) (fun ok s₃ =>
      if ok=true then wpAny (model prog w) A (eval elt env) (fun x s₄ =>
       wpAny (model prog w) A (call (.builtin "list.append") [acc,x]) (fun _ s₅=>∃ m,m<n∧I m s₅) (notedBy (model prog w) A env fun e s'=>R (.error e) s') s₄) (notedBy (model prog w) A env fun e s'=>R (.error e) s') s₃
      else ∃ m,m<n∧I m s₃) (notedBy (model prog w) A env fun e s'=>R (.error e) s') s₂) (notedBy (model prog w) A env fun e s'=>R (.error e) s') s1') (notedBy (model prog w) A env fun e s'=>R (.error e) s') s₁) (notedBy (model prog w) A env fun e s'=>R (.error e) s') s)
  (n:Nat) (h:I n s) :
  codeAny (model prog w) A (.compLoop (.ListComp elt [⟨target,iter,ifs,0⟩] scope pos) 0 it acc env) R s:=by
 refine codeAny_loop rfl I (fun n s hI=>?_) n h
 show wpAny _ A ((compTurn (.ListComp elt [⟨target,iter,ifs,0⟩] scope pos) 0 it acc env).onRaise (fun x=>do noteFrame x env;theTreesLotGoes x)) _ _ s
 refine wpAny_noted ?_
 rw[compTurn_list]
 refine wpAny_bind (wpAny_standAt (wpAny_bind (wpAny_mono (turn n s hI) (fun r s₁ h₁=>?_) fun _ _ h'=>h')))
 cases r with
 | none=>exact wpAny_pure h₁
 | some v =>
  refine wpAny_bind (wpAny_mono h₁ (fun _ s1' h₁=>?_) fun _ _ h'=>h')
  refine wpAny_bind (wpAny_mono h₁ (fun _ s₂ h₂=>wpAny_bind (wpAny_mono h₂ (fun ok s₃ h₃=>?_) fun _ _ h'=>h')) fun _ _ h'=>h')
  cases ok with
  | false=>exact wpAny_pure ⟨rfl,h₃⟩
  | true =>
   exact wpAny_bind (wpAny_bind (wpAny_mono h₃ (fun x s₄ h₄=>wpAny_bind (wpAny_mono h₄ (fun _ s₅ h₅=>wpAny_pure (wpAny_pure ⟨rfl,h₅⟩)) fun _ _ h'=>h')) fun _ _ h'=>h'))
def Afn:TT:=fun _ H Q=>Q true H
inductive PIf (X:Cx):List Expr→TT→Prop where
 | nil:PIf X [] Afn
 | one {c:Expr} {t:TT} (h:PT X c t):PIf X [c] t
theorem PIf.run{X:Cx}{ifs:List Expr}{t:TT}(h:PIf X ifs t){pins:List (Addr × Obj)}{s:Shared}{σ:St}{H:Hp}{Q:Bool→Hp→Prop}(I:Inv X pins σ H s)(ht:t σ H Q) :
  wpAny (model X.prog X.w) X.A (forIn ifs true fun c r=>if r=true then do let ok ← isTrue c X.env (eval c X.env);pure (ForInStep.yield ok) else pure (ForInStep.yield r)) (TP X pins σ Q) X.xe s:=by
 cases h with
 | nil=>exact wpAny_tests_nil ⟨H,I,ht⟩
 | one h=>exact wpAny_tests_one (h pins s σ H Q I ht)
def Afo (BL:List Nat)(tc:TT)(te:TE)(J:It)(σ:St)(H:Hp)(Q:VK):Prop :=
 ∃ W:Nat→Nat→List V→Hp→Prop,(∃ m,W 0 m [] H)∧∀ i m ys H,W i m ys H →
  (J.stop i H∧ys.length≤sizeLine∧∀ p,H p=none→Q (.ref p) (upd H p (.lst ys))) ∨
  (J.go i H∧ys.length<sizeLine∧∀ x H',J.yld i H x H'→tc (some x::JM σ BL) H' fun b H2 =>
   if b=true then te (some x::JM σ BL) H2 fun y H3=>∃ m',m'<m∧W (i+1) m' (ys++[y]) H3 else ∃ m',m'<m∧W (i+1) m' ys H2)
def Ang (wi:TI)(BL:List Nat)(tc:TT)(te:TE):TE:=fun σ H Q=>wi σ H fun J H1=>Afo BL tc te J σ H1 Q
section
variable {X:Cx}{pins:List (Addr × Obj)}{σ:St}{H:Hp}{s:Shared}
theorem Un.track{fs ex:List Addr}{H H':Hp}{h h':Heap}{a:Addr}{o:HO}(u:Un fs ex H H' h h')(ha:h.objs.size≤a)(hn:H' a=none):Un fs ex H (upd H' a o) h h' where
 keep:=u.keep
 slot:=u.slot
 free:=fun b ob q n hx=>by rw[Bh (AsL (AsO (Heap.lt_size q) ha))];exact u.free b ob q n hx
 there:=u.there
 tups:=fun b xs q=>by rw[Bh (FN (u.tups b xs q) hn)];exact u.tups b xs q
 Pg:=fun b ob xs q=>by rw[Bh (FN (u.Pg b ob xs q) hn)];exact u.Pg b ob xs q
 Rt:=fun b ps q=>by
  obtain⟨m,e⟩:=u.Rt b ps q
  exact⟨m,by rw[Bh (FN e hn)];exact e⟩
theorem HOk.track{P:Program}{w:World}{H:Hp}{h:Heap}{a:Addr}{o:HO}(x:HOk P w H h)(hn:H a=none)(new:JH P w (upd H a o) h a o):HOk P w (upd H a o) h:=fun b u e=>by
 by_cases hb:b=a
 ·subst hb;rw[Ae] at e;cases e;exact new
 ·rw[Bh hb] at e
  exact(x b u e).stay (fun c v _ q=>q) (fun c q=>by rw[Bh (FN q hn)];exact q) fun c xs q=>by rw[Bh (FN q hn)];exact q
theorem AlT{x:Str}{Nc:List Str}{BL:List Nat}{scope:Scope}{cl:List (Str × Addr)}{C:Addr}{fp:List Addr}(I:Inv X pins σ H s)(O:Hh X x Nc BL scope)
  (hcl:∀ x c,cl.lookup x=some c→X.env.cells.lookup x=some c∧(x,NameKind.free)∈scope.names) (Abu:∀ x,(x,NameKind.free)∈scope.names→cl.lookup x=X.env.cells.lookup x)
  (hC:s.heap.objs.size≤C) (hfp:∀ b∈fp,Rv X pins H b) (hfo:∀ b∈fp,b<s.heap.objs.size):(Ii X Nc scope cl C fp s H).Ok where
 mod:=I.ok.mod
 kind:=O.kind
 glob:=I.ok.glob
 blt:=I.ok.blt
 above:=hC
 inj:=fun a b c e1 e2=>I.ok.inj a b c (hcl a c e1).1 (hcl b c e2).1
 has:=fun y hy=>by
  have mem:(y,NameKind.free)∈scope.names:=by
   have hy':((relabel scope X.env).names.lookup y=some .cell)∨((relabel scope X.env).names.lookup y=some .free):=hy
   have hm:∃ k,(y,k)∈(relabel scope X.env).names∧(k=.cell∨k=.free):=by
    rcases hy' with h | h
    ·exact⟨_,PySem.mem_of_lookup h,.inl rfl⟩
    ·exact⟨_,PySem.mem_of_lookup h,.inr rfl⟩
   obtain⟨k,hm,hk⟩:=hm
   obtain⟨⟨n,k'⟩,hm',e⟩:=List.mem_map.mp hm
   dsimp only at e
   by_cases hc:(k' == NameKind.free && X.env.scope.kind == .function && X.env.kindOf n == some .cell)=true
   ·rw[if_pos hc] at e
    injection e with e1 _
    subst e1
    have:k'=.free:=by
     have:=(Aty _ _▸(Aty _ _▸hc).1).1
     simpa using this
    subst this
    exact hm'
   ·rw[if_neg hc] at e
    injection e with e1 e2
    subst e1 e2
    rcases hk with hk | hk
    ·subst hk;exact absurd rfl (O.cell _ hm')
    ·subst hk;exact hm'
  obtain⟨c,e⟩:=I.ok.has y (.inl (O.fr _ mem rfl).1)
  exact⟨c,(Abu y mem).trans e⟩
 cab:=fun _ _ z=>nomatch z
 hd:=I.ok.hd
 frames:=I.ok.frames
 stk:=.inl rfl
 exf:=fun b hb=>⟨AsL (AsO (hfo b hb) hC),fun y c e=>(hfp b hb).2.2.2.2.1 y c (hcl y c e).1⟩
 bs:=I.bs
 bsz:=AsX I.ok.bsz I.sz
 Ae2:=fun b o e hb=>by
  rcases(hfp b hb).2.2.2.1 with z | z
  ·exact I.ok.Ae2 b o e z
  ·exact absurd (AsO (Heap.lt_size e) (AsX I.ok.bsz z)) (Atn _)
 Ae3:=fun b hb z=>by
  rcases List.mem_cons.mp (I.AcW b z) with e | e
  ·exact(hfp b hb).2.1 e
  ·exact(hfp b hb).2.2.1 e
 Yp:=I.stack
 frf:=I.Aab
end
open PySem PySem.Spec PyProof.Rows
section
variable {X:Cx}{pins:List (Addr × Obj)}{σ:St}{H:Hp}{s:Shared}
theorem Ago(σ:St)(BL:List Nat):(JM σ BL).length=BL.length:=by unfold JM;rw[AsH]
theorem Agp{σ:St}{BL:List Nat}{k:Nat}{v:V}(e:(JM σ BL)[k]?=some (some v)):∃ j,BL[k]?=some j∧σ[j]?=some (some v):=by
 unfold JM at e
 rw[AsU] at e
 cases hk:BL[k]? with
 | none=>rw[hk] at e;cases e
 | some j =>
  rw[hk] at e
  have e':(σ[j]?).join=some v:=Option.some.inj e
  refine⟨j,rfl,?_⟩
  cases hj:σ[j]? with
  | none=>rw[hj] at e';cases e'
  | some o=>rw[hj] at e';rw[show o=some v from e']
theorem Un.but{fs ex:List Addr}{H H':Hp}{h h1 h2:Heap}{C:Addr}(u:Un fs ex H H' h h1)(hs:Heap.SameBut C h1 h2)(hC:h.objs.size≤C):Un fs ex H H' h h2 where
 keep:=fun b o q n hb hx=>(hs.2 b (AsL (AsO (Heap.lt_size q) hC))).trans (u.keep b o q n hb hx)
 slot:=fun b o q n hb hx=>by
  obtain⟨sl,e⟩:=u.slot b o q n hb hx
  exact⟨sl,(hs.2 b (AsL (AsO (Heap.lt_size q) hC))).trans e⟩
 free:=u.free
 there:=fun b o q hx=>by
  obtain⟨o',e⟩:=u.there b o q hx
  exact⟨o',(hs.2 b (AsL (AsO (Heap.lt_size q) hC))).trans e⟩
 tups:=u.tups
 Pg:=u.Pg
 Rt:=u.Rt
theorem Ah0{x:Str}{Nc:List Str}{BL:List Nat}{scope:Scope}{cl:List (Str × Addr)}{C:Addr}{fp:List Addr}{h':Heap}{tk:Nat}{m0:Str→Option Value}(I:Inv X pins σ H s)(O:Hh X x Nc BL scope)
  (hcl:∀ x c,cl.lookup x=some c→X.env.cells.lookup x=some c∧(x,NameKind.free)∈scope.names) (Abu:∀ x,(x,NameKind.free)∈scope.names→cl.lookup x=X.env.cells.lookup x)
  (hC:s.heap.objs.size≤C) (hfp:∀ b∈fp,Rv X pins H b) (hfo:∀ b∈fp,b<s.heap.objs.size)
  (old:∀ b o,s.heap.get? b=some o→h'.get? b=some o) (hns:h'.Ns C m0) :
  Inv (Ii X Nc scope cl C fp s H) [] (none::JM σ BL) H { s with heap:=h',toks:=tk } where
 ok:=AlT I O hcl Abu hC hfp hfo
 os:=rfl
 bare:=I.bare
 base:=Un.kept old
 loc:=by
  refine⟨m0,hns,fun i y v hN hσ hv=>?_⟩
  cases i with
  | zero=>simp at hσ
  | succ k =>
   rw[AtW] at hσ
   obtain⟨j,hj,hs⟩:=Agp hσ
   obtain⟨z,hz1,hz2,hz3⟩:=O.cap k j hj
   have hN':Nc[k+1]?=some y:=hN
   rw[hz1] at hN'
   cases hN'
   have mem:(y,NameKind.free)∈scope.names:=PySem.mem_of_lookup hz3
   have hk:=(O.fr _ mem rfl).1
   obtain⟨m,hn,hl⟩:=I.loc
   obtain⟨u,r,l⟩:=hl j y v hz2 hs (.inr (.inl hk))
   refine⟨u,r,?_⟩
   rcases l with ⟨k',_⟩ | ⟨_,c,hc,z⟩
   ·have k'':X.env.scope.names.lookup y=some .local:=k'
    rw[hk] at k'';cases k''
   ·obtain⟨o,ho,hd⟩:=z
    exact .inr ⟨.inl (Jk I.ok.kind hz3 hk),c,(Abu y mem).trans hc,o,old _ _ ho,hd⟩
 cell:=fun y c e=>by
  obtain⟨v,o,ho,hd⟩:=I.cell y c (hcl y c e).1
  exact⟨v,o,old _ _ ho,hd⟩
 free:=I.hok.fresh hC
 Kw:=fun y c e=>I.Kw y c (hcl y c e).1
 pin:=fun p hp=>absurd (show p∈([]:List (Addr × Obj)) from hp) (by simp)
 hok:=I.hok.kept old
 len:=by
  show(none::JM σ BL).length=Nc.length
  rw[Atf,Ago,O.len]
abbrev Vm (us:List Value) (n:Nat):Obj:={ cls:=.type "list", data:=.seq us.toArray n }
theorem GP{X:Cx}{sc0 scope:Scope}(h:X.env.scope=sc0)(hd:∀ y∈scope.names,y.2=.free→sc0.names.lookup y.1=some .cell∧scope.names.lookup y.1=some .free) :
  ∀ y∈scope.names,y.2=.free→X.env.scope.names.lookup y.1=some .cell∧scope.names.lookup y.1=some .free:=by
 rw[h]
 exact hd
theorem Adc{x:Str}{px:Pos}{Nc:List Str}{BL:List Nat}{scope:Scope}{cl:List (Str × Addr)}{iter elt:Expr}{ifs:List Expr}{pos:Pos}{tc:TT}{te:TE}{Q:VK}{it:Addr}{fp:List Addr}{tn:Nat→Heap→Prop}{J:It}
  {RR:Value→Addr→Result→Shared→Prop}{E:Value→Shared→Prop}
  (O:Hh X x Nc BL scope) (hc:X.calm=true)
  (hcl:∀ x c,cl.lookup x=some c→X.env.cells.lookup x=some c∧(x,NameKind.free)∈scope.names) (Abu:∀ x,(x,NameKind.free)∈scope.names→cl.lookup x=X.env.cells.lookup x)
  (hte:∀ C fp s H,PE (Ii X Nc scope cl C fp s H) elt te) (htc:∀ C fp s H,PIf (Ii X Nc scope cl C fp s H) ifs tc)
  (I:Inv X pins σ H s) (T:Turn X.prog X.w X.K (.Name x px) J fp it tn) (st:tn 0 s.heap) (hfp:∀ b∈fp,Rv X pins H b) (h:Afo BL tc te J σ H Q)
  (hRR:∀(D C:Addr) (s':Shared) (m:Str→Option Value),s'.heap.Ns C m→(∀ h',Heap.SameBut C s'.heap h'→∃ H',Inv X pins σ H' { s' with heap:=h' }∧H' C=none∧Q (.ref D) H') →
   s.heap.objs.size≤C→RR (.ref D) C (.ok .next) s') :
  wpAny (model X.prog X.w) X.A (newList []) (fun acc s₃=>wpAny (model X.prog X.w) X.A (newFunctionEnv scope X.env.globals cl [] X.env.qual none .none (some X.env)) (fun cenv s₄ =>
   codeAny (model X.prog X.w) X.A (.compStart (.ListComp elt [⟨.Name x px,iter,ifs,0⟩] scope pos) 0 (.ref it) acc { cenv with scope:=relabel scope X.env }) (RR acc cenv.locals) s₄) E s₃) E s:=by
 refine wpAny_newObj_type (wpAny_newFunctionEnv O.cell (by intro y hy;simp at hy) (fun h₁ hns₁ hsb₁=>?_) O.kind)
 dsimp only at hns₁ hsb₁ ⊢
 generalize hH2:s.heap.push { cls:=.type "list", dict:=none,data:=.seq ([]:List Value).toArray }=H2 at hns₁ hsb₁ ⊢
 have hC:H2.objs.size=s.heap.objs.size+1:=by rw[← hH2,Heap.size_push]
 have hCle:s.heap.objs.size≤H2.objs.size:=by rw[hC];exact Atj _
 have hDC:s.heap.objs.size≠H2.objs.size:=by rw[hC];exact AsL (At5 _)
 have below:∀ b,b<s.heap.objs.size→b≠H2.objs.size∧b≠s.heap.objs.size:=fun b hb=>⟨by rw[hC];exact AsL (Atz hb),AsL hb⟩
 have old:∀ b o,s.heap.get? b=some o→h₁.get? b=some o:=fun b o e=>hsb₁.extBut b o (below b (Heap.lt_size e)).1 (Heap.get?_push_of_some _ (hH2▸Heap.get?_push_of_some _ e))
 have hacc:h₁.get? s.heap.objs.size=some (Vm [] 0):=hsb₁.extBut _ _ hDC (Heap.get?_push_of_some _ (hH2▸Heap.get?_push_size _ rfl))
 have hfo:∀ b∈fp,b<s.heap.objs.size:=fun b hb=>by
  obtain⟨o,e,_⟩:=T.obj _ _ st b hb
  exact Heap.lt_size e
 have st1:tn 0 h₁:=T.keep _ _ _ st fun b _ o e=>old b o e
 generalize hDD:s.heap.objs.size=D at *
 generalize hCC:H2.objs.size=C at *
 have AnO:D≤C:=hCle
 let Y:Cx:=Ii X Nc scope cl C fp s H
 have I0:Inv Y [] (none::JM σ BL) H { s with heap:=h₁,toks:=s.toks+([]:List (Str × Value)).length }:=Ah0 I O hcl Abu (by rw[hDD];exact hCle) hfp (fun b hb=>by rw[hDD];exact hfo b hb) old hns₁
 have Aka:H D=none:=by rw[← hDD];exact I.hok.fresh (AsI _)
 have Afp:D≠C:=hDC
 have Dfs:D∉Y.fs:=fun z=>by
  have:=I.stack.mem (show D∈frs X.stack from z)
  obtain⟨_,o,e,_⟩:=this
  have:=Heap.lt_size e
  rw[hDD] at this
  exact Atn _ this
 have Akb:∀ y c,Y.env.cells.lookup y=some c→c≠D:=fun y c e z=>by
  obtain⟨v,q⟩:=I.cell y c (hcl y c e).1
  have:=q.lt
  rw[z,hDD] at this
  exact Atn _ this
 have Dfp:∀ b∈fp,b≠D:=fun b hb=>AsL (hfo b hb)
 have fpY:∀{H':Hp},(∀ b∈fp,H' b=none)→∀ b∈fp,Rv Y [] H' b:=fun hn b hb =>
  ⟨hn b hb,AsL (AsO (hfo b hb) AnO),fun z=>I0.ok.Ae3 b hb z,.inl hb,fun y c e=>(I0.ok.exf b hb).2 y c e,fun p hp=>absurd (show p∈([]:List (Addr × Obj)) from hp) (by simp)⟩
 obtain⟨W,⟨m0,w0⟩,turn⟩:=h
 have loop:∀ s₃:Shared,s₃={ s with heap:=h₁,toks:=s.toks+([]:List (Str × Value)).length } →
   codeAny (model X.prog X.w) X.A (.compLoop (.ListComp elt [⟨.Name x px,iter,ifs,0⟩] scope pos) 0 (.ref it) (.ref D) (compEnvC scope cl C X.env)) (RR (.ref D) C) s₃:=by
  rintro s₃ rfl
  refine Aai (fun n s'=>∃(i:Nat) (o:Option V) (H':Hp) (ys:List V) (us:List Value) (k:Nat),Inv Y [] (o::JM σ BL) H' s'∧tn i s'.heap∧(∀ b∈fp,H' b=none)∧s'.heap.get? D=some (Vm us k)∧H' D=none∧Vals ys us∧W i n ys H')
   ?_ m0 ⟨0,none,H,[],[],0,I0,st1,fun b hb=>(hfp b hb).1,hacc,Aka,.nil,w0⟩
  rintro n s3 ⟨i,o3,H3,ys,us,k,I3,st3,fr3,hD3,nD3,rv,w3⟩
  have fpP:∀{H':Hp} {ob:Obj},(∀ b∈fp,H' b=none)→∀ b∈fp,Rv Y [(D,ob)] H' b:=fun hn b hb=>by
   obtain⟨g0,g1,g2,g3,g4,_⟩:=fpY hn b hb
   refine⟨g0,g1,g2,g3,g4,fun p hp=>?_⟩
   have e:p=(D,_):=List.mem_singleton.mp (show p∈[(D,_)] from hp)
   rw[e]
   exact Ne.symm (Dfp b hb)
  have IP:Inv Y [(D,Vm us k)] (o3::JM σ BL) H3 s3:=I3.Ju fun p hp=>by
   have e:p=(D,Vm us k):=List.mem_singleton.mp hp
   subst e
   exact⟨hD3,nD3,Afp,Dfs,fun v z=>by cases z⟩
  have Ah1:∀{σ':St} {H':Hp} {s':Shared} {pl:List (Addr × Obj)},Inv Y ([(D,Vm us k)]++pl) σ' H' s'→s'.heap.get? D=some (Vm us k)∧H' D=none:=fun I'=>by
   have z:=I'.pin (D,Vm us k) (AsZ _ (AtD _ AsR))
   exact⟨z.1,z.2.1⟩
  rcases turn i n ys H3 w3 with ⟨stop,hlen,fin⟩ | ⟨go,hlen,step⟩
  ·
   refine wpAny_mono (T.done Y rfl rfl rfl hc i _ s3 _ H3 (fun _ _=>False) IP (fpP fr3) st3 stop) (fun r s4 hr=>?_) fun _ _ z=>z.elim
   obtain⟨hr,I4⟩:=hr
   subst hr
   obtain⟨gD,nD⟩:=Ah1 (pl:=[]) (by simpa using I4)
   obtain⟨m,hn,_⟩:=I4.loc
   refine hRR D C s4 m hn (fun h' hs'=>⟨upd H3 D (.lst ys),?_,(Bh (Ne.symm Afp)).trans I4.free,fin D nD⟩) hCle
   have nt:∀ b ob,H3 b=some ob→b≠C:=fun b ob e z=>by
    have:=I4.free
    rw[z] at e
    rw[show H3 C=none from this] at e
    cases e
   have u1:Un (frs X.stack) fp H H3 s.heap h':=Un.but I4.base hs' (show s.heap.objs.size≤C by rw[hDD];exact hCle)
   have ok1:HOk X.prog X.w H3 h':=fun b ob e=>(I4.hok b ob e).stay (fun c v hc q=>(hs'.2 c (by
    rcases hc with z | z
    ·rw[z];exact nt b ob e
    ·exact nt c _ z)).trans q) (fun _ q=>q) fun _ _ q=>q
   have gD':h'.get? D=some (Vm us k):=(hs'.2 D Afp).trans gD
   exact I.call' (s':={ s4 with heap:=h' }) (ch:=fp) I4.os (u1.track (At9 hDD) nD) (ok1.track nD ⟨hlen,us,k,rv,gD'⟩) I4.bare fun b hb=>by
    obtain⟨_,g1,_,g3,g4,g5⟩:=hfp b hb
    exact⟨g3,g1,g4,g5⟩
  ·
   refine wpAny_mono (T.item Y rfl rfl rfl hc i _ s3 _ H3 (fun _ _=>False) IP (fpP fr3) st3 go) (fun r s4 hr=>?_) fun _ _ z=>z.elim
   obtain⟨u0,hr,h4⟩:=hr
   subst hr
   refine wpAny_mono h4 (fun _ s5 h5=>?_) fun _ _ z=>z.elim
   obtain⟨x5,H5,I5,r5,y5,st5,fr5⟩:=h5
   have I5':=I5.pinned (fpP fr5) (T.obj _ _ st5)
   have tgt:PG Y (.Name x px) (UG 0):=Dj (i:=0) O.nd O.hd (.inl (Eh I.ok.kind O.loc (by intro z;cases z))) (.inr (Eh I.ok.kind O.loc (by intro z;cases z)))
   refine wpAny_mono (tgt _ s5 _ H5 x5 u0 (fun σ2 H2=>σ2=some x5::JM σ BL∧H2=H5) I5' r5 ⟨rfl,rfl⟩) (fun _ s6 h6=>?_) fun _ _ z=>z.elim
   obtain⟨_,_,I6,rfl,rfl⟩:=h6
   refine wpAny_mono ((htc C fp s H).run I6 (step x5 _ y5)) (fun b s7 h7=>?_) fun _ _ z=>z.elim
   obtain⟨H7,I7,q7⟩:=h7
   have Aaj:∀{σ':St} {H':Hp} {s':Shared},Inv Y ([(D,Vm us k)]++Abs fp s5.heap) σ' H' s'→tn (i+1) s'.heap∧∀ b∈fp,H' b=none:=fun I' =>
    ⟨T.keep _ _ _ st5 fun b hb o e=>(I'.pin (b,o) (AsZ _ (AsZ _ (K4 hb e)))).1,fun b hb=>by
     obtain⟨o,e,d⟩:=T.obj _ _ st5 b hb
     exact(I'.pin (b,o) (AsZ _ (AsZ _ (K4 hb e)))).2.1⟩
   cases b with
   | false =>
    rw[if_neg AsT] at q7
    rw[if_neg AsT]
    obtain⟨m',hm,w7⟩:=q7
    obtain⟨gD,nD⟩:=Ah1 I7
    obtain⟨k1,k2⟩:=Aaj I7
    exact⟨m',hm,i+1,some x5,H7,ys,us,k,I7.Ju (fun p hp=>nomatch hp),k1,k2,gD,nD,rv,w7⟩
   | true =>
    rw[if_pos rfl] at q7
    rw[if_pos rfl]
    refine wpAny_mono (hte C fp s H _ s7 _ H7 _ I7 q7) (fun u8 s8 h8=>?_) fun _ _ z=>z.elim
    obtain⟨y8,H8,I8,r8,m',hm,w8⟩:=h8
    obtain⟨gD,nD⟩:=Ah1 I8
    obtain⟨k1,k2⟩:=Aaj I8
    refine call_meets F.slot_list_append ⟨_,gD,rfl⟩ F.entry_list_append (F.args_list_append_2 _ _) (PySem.list_append D us.toArray k u8 (by rw[AsK,← rv.length];omega)) ⟨gD,?_⟩
    have q:=PySem.IsL.update gD (·.push u8)
    have e1:us.toArray.push u8=(us++[u8]).toArray:=by simp
    rw[e1] at q
    have I8':Inv Y [] (some x5::JM σ BL) H8 s8:=I8.Ju (fun p hp=>nomatch hp)
    have I9:Inv Y [] (some x5::JM σ BL) H8 { s8 with heap:=s8.heap.update D (Obj.mapSeq (·.push u8)),toks:=s8.toks } :=
     I8'.turned (it:=D) (fun b o hb e=>(Heap.get?_update_other s8.heap (Obj.mapSeq (·.push u8)) (Ne.symm hb)).trans e) nD Afp (.inr (At9 hDD)) Akb (fun p hp=>nomatch hp)
    refine⟨m',hm,i+1,some x5,H8,ys++[y8],us++[u8],_,I9,T.keep _ _ _ k1 fun b hb o e=>(Heap.get?_update_other s8.heap (Obj.mapSeq (·.push u8)) (Ne.symm (Dfp b hb))).trans e,k2,q,nD,rv.append (.cons r8 .nil),w8⟩
 exact codeAny_compStart_list (loop _ rfl) (T.self X.A 0 _ _ _ st1 (loop _ rfl))
theorem JN{x:Str}{px pos:Pos}{Nc:List Str}{BL:List Nat}{scope:Scope}{iter elt:Expr}{ifs:List Expr}{wi:TI}{tc:TT}{te:TE}(O:Hh X x Nc BL scope)(hc:X.calm=true)(hi:PI X (.Name x px) iter wi)
  (htc:∀ cl C fp s H,PIf (Ii X Nc scope cl C fp s H) ifs tc) (hte:∀ cl C fp s H,PE (Ii X Nc scope cl C fp s H) elt te) (hs:∀ x,foldedSetIterable iter X.env x=pure x:=by intro _;rfl) :
  PE X (.ListComp elt [⟨.Name x px,iter,ifs,0⟩] scope pos) (Ang wi BL tc te):=by
 intro pins s σ H Q I h
 rw[eval_ListComp]
 obtain⟨cl,e1,e2,e3⟩:=Yq (scope:=scope) (env:=X.env) fun y hy hf=>I.ok.has y.1 (.inl (O.fr y hy hf).1)
 refine wpAny_comprehension_free (use:=none) rfl hs e1 O.kind O.names (thn (hi pins s σ H _ I h) fun v s1 h1=>thn h1 fun itv s2 h2=>?_)
 obtain⟨it,fp,tn,J,H2,e,I2,T,st2,f2,w2⟩:=h2
 subst e
 refine Adc (RR:=fun acc C=>compPost (model X.prog X.w) X.A X.xe none (EP X pins σ Q) acc C) O hc e2 e3 (hte cl) (htc cl) I2 T st2 f2 w2 ?_
 intro D C s' m hn hq hC
 refine⟨m,hn,fun h' hs'=>?_⟩
 obtain⟨H',I',_,q⟩:=hq h' hs'
 exact⟨.ref D,H',I',rfl,q⟩
theorem Aak{i:Nat}{y x:Str}{px py pos spos:Pos}{Nc:List Str}{BL:List Nat}{scope:Scope}{iter elt:Expr}{ifs:List Expr}{wi:TI}{tc:TT}{te:TE}(O:Hh X x Nc BL scope)(hc:X.calm=true)
  (hN:X.N.Nodup) (hy:X.N[i]?=some y) (hx:X.env.scope.names.lookup y=some .local) (hi:PI X (.Name x px) iter wi)
  (htc:∀ cl C fp s H,PIf (Ii X Nc scope cl C fp s H) ifs tc) (hte:∀ cl C fp s H,PE (Ii X Nc scope cl C fp s H) elt te)
  (hsw:swapsWith (.ListComp elt [⟨.Name x px,iter,ifs,0⟩] scope pos) (some (.Name y py)) spos.line X.env=pure true) (hs:∀ x,foldedSetIterable iter X.env x=pure x:=by intro _;rfl) :
  PS X (.Assign [.Name y py] (.ListComp elt [⟨.Name x px,iter,ifs,0⟩] scope pos) spos) (AlK (Ang wi BL tc te) (UG i)):=by
 intro pins s σ H Dn I h
 rw[exec_Assign_Name_used _ _ _ _ hsw]
 refine wpAny_bind (wpAny_standAt (wpAny_bind ?_))
 obtain⟨cl,e1,e2,e3⟩:=Yq (scope:=scope) (env:=X.env) fun y hy hf=>I.ok.has y.1 (.inl (O.fr y hy hf).1)
 show wpAny _ X.A (do let _ ← comprehension (.ListComp elt [⟨.Name x px,iter,ifs,0⟩] scope pos) scope X.env _ (newList []) false (eval iter X.env) (some (assign (.Name y py) X.env))) _ _ s
 refine wpAny_bind (wpAny_mono (wpAny_comprehension_free (use:=some (assign (.Name y py) X.env)) (Q:=fun _ s'=>SP X pins Dn .next s') rfl hs e1 O.kind O.names
  (thn (hi pins s σ H _ I h) fun v s1 h1=>thn h1 fun itv s2 h2=>?_)) (fun _ s' hq=>wpAny_pure (wpAny_pure hq)) fun _ _ e=>e)
 obtain⟨it,fp,tn,J,H2,e,I2,T,st2,f2,w2⟩:=h2
 subst e
 refine Adc (RR:=fun acc C=>compPost (model X.prog X.w) X.A X.xe (some (assign (.Name y py) X.env)) (fun _ s'=>SP X pins Dn .next s') acc C) O hc e2 e3 (hte cl) (htc cl) I2 T st2 f2 w2 ?_
 intro D C s' m hn hq hC
 show wpAny _ X.A (assign (.Name y py) X.env (.ref D)) _ _ _
 obtain⟨H',I',nC,q⟩:=hq s'.heap (.refl ..)
 have I'':Inv X pins σ H' s':=I'
 have CL:C≠X.env.locals:=Ato (AsO I2.lt hC)
 have Anh:∀ y c,X.env.cells.lookup y=some c→c≠C:=fun y c e z=>by
  obtain⟨v,q⟩:=I2.cell y c e
  have:=AsO q.lt hC
  rw[z] at this
  exact Atn _ this
 refine wpAny_assign_Name (AeI I'' hN hy (.inl hx) (show RelV (.ref D) (.ref D) from rfl) (fun s3 I3 hsb=>?_) (.inr hx))
 obtain⟨a,hsb,ha⟩:=hsb
 have aC:C≠a:=by
  rcases ha with z | z
  ·rw[z];exact CL
  ·exact Ne.symm (Anh _ _ z)
 refine⟨m,hn.sameBut hsb aC,fun h4 hs4=>?_⟩
 refine⟨_,H',I3.turned (it:=C) (t':=s3.toks) (fun b o hb e=>(hs4.2 b hb).trans e) nC CL (.inr (AsX I2.sz hC)) Anh (fun p hp z=>?_),q⟩
 ·have:=AsO (Heap.lt_size (I2.pin p hp).1) hC
  rw[z] at this
  exact Atn _ this
end
open PySem PySem.Spec PyProof.Rows
def Its (x:Str):It:=⟨fun i _=>i<x.cps.size,fun i H v H'=>H'=H∧∃ c,x.cps[i]?=some c∧v=.str ⟨#[c]⟩,fun i _=>x.cps.size≤i⟩
theorem Ajh{P:Program}{w:World}{K:PySem.W.Frag}{tg:Expr}(it:Addr)(x:Str)(t:Tok):Turn P w K tg (Its x) [it] it (fun i h=>i≤x.cps.size∧h.IsStrIter it "str_ascii_iterator" x t i) where
 mem:=by simp
 obj:=fun i h st b hb=>by
  have e:b=it:=by simpa using hb
  subst e
  obtain⟨_,o,e,c,d⟩:=st
  exact⟨o,e,fun v z=>by rw[d] at z;cases z⟩
 keep:=fun i h h' st k=>by
  obtain⟨hl,o,e,c,d⟩:=st
  exact⟨hl,o,k it (by simp) o e,c,d⟩
 item:=by
  intro X hP hw hK hc i pins s σ H E I hf st hg
  subst hP hw hK
  obtain⟨hl,st⟩:=st
  have hg:i<x.cps.size:=hg
  obtain⟨f0,f1,f2,f3,f4,f5⟩:=hf it (by simp)
  have hx:x.cps[i]?=some x.cps[i]:=by simp[hg]
  refine wpAny_pyNext_ascii_item st hx fun h' st' sb=>?_
  have I1:Inv X pins σ H { s with heap:=h',toks:=s.toks+1 }:=I.turned (fun b o hb e=>(sb.2 b hb).trans e) f0 f1 f3 f4 f5
  obtain⟨o,e,c,d⟩:=id st'
  exact⟨_,rfl,Aih (s:={ s with heap:=h',toks:=s.toks+1 }) e c d (by decide) ⟨.str ⟨#[x.cps[i]]⟩,H,I1,⟨_,rfl⟩,⟨rfl,_,hx,rfl⟩,⟨hg,st'⟩,fun b hb=>(hf b hb).1⟩⟩
 done:=by
  intro X hP hw hK hc i pins s σ H E I hf st hg
  subst hP hw hK
  obtain⟨hl,st⟩:=st
  have hg:x.cps.size≤i:=hg
  obtain⟨f0,f1,f2,f3,f4,f5⟩:=hf it (by simp)
  exact wpAny_pyNext_ascii_end (I.ok.hd hc) st (by simp;omega) fun h' eb=>⟨rfl,I.turned (t':=s.toks) (fun b o hb e=>eb b o hb e) f0 f1 f3 f4 f5⟩
 self:=fun _ _ _ _ _ st h=>wpAny_pyIter_striter_ascii st.2 h
theorem Aji{P:Program}{w:World}{K:PySem.W.Frag}{tg:Expr}(it:Addr)(x:Str)(t:Tok):Turn P w K tg (Its x) [it] it (fun i h=>i≤x.cps.size∧h.IsStrIter it "str_iterator" x t i) where
 mem:=by simp
 obj:=fun i h st b hb=>by
  have e:b=it:=by simpa using hb
  subst e
  obtain⟨_,o,e,c,d⟩:=st
  exact⟨o,e,fun v z=>by rw[d] at z;cases z⟩
 keep:=fun i h h' st k=>by
  obtain⟨hl,o,e,c,d⟩:=st
  exact⟨hl,o,k it (by simp) o e,c,d⟩
 item:=by
  intro X hP hw hK hc i pins s σ H E I hf st hg
  subst hP hw hK
  obtain⟨hl,st⟩:=st
  have hg:i<x.cps.size:=hg
  obtain⟨f0,f1,f2,f3,f4,f5⟩:=hf it (by simp)
  have hx:x.cps[i]?=some x.cps[i]:=by simp[hg]
  refine wpAny_pyNext_wide_item st hx fun h' st' sb=>?_
  have I1:Inv X pins σ H { s with heap:=h',toks:=s.toks+1 }:=I.turned (fun b o hb e=>(sb.2 b hb).trans e) f0 f1 f3 f4 f5
  obtain⟨o,e,c,d⟩:=id st'
  exact⟨_,rfl,Aih (s:={ s with heap:=h',toks:=s.toks+1 }) e c d (by decide) ⟨.str ⟨#[x.cps[i]]⟩,H,I1,⟨_,rfl⟩,⟨rfl,_,hx,rfl⟩,⟨hg,st'⟩,fun b hb=>(hf b hb).1⟩⟩
 done:=by
  intro X hP hw hK hc i pins s σ H E I hf st hg
  subst hP hw hK
  obtain⟨hl,st⟩:=st
  have hg:x.cps.size≤i:=hg
  obtain⟨f0,f1,f2,f3,f4,f5⟩:=hf it (by simp)
  exact wpAny_pyNext_wide_end (I.ok.hd hc) st (by simp;omega) fun h' eb=>⟨rfl,I.turned (t':=s.toks) (fun b o hb e=>eb b o hb e) f0 f1 f3 f4 f5⟩
 self:=fun _ _ _ _ _ st h=>wpAny_pyIter_striter_wide st.2 h
section
variable {X:Cx}{tg:Expr}
def AqL (tl:TE):TI:=fun σ H R=>tl σ H fun x H1=>∃ z,x=.str z∧R (Its z) H1
theorem Akc{l:Expr}{tl:TE}(hl:PE X l tl):PI X tg l (AqL tl):=by
 intro pins s σ H R I h
 refine thn (hl pins s σ H _ I h) fun v s1 ⟨x,H1,I1,r1,q1⟩=>?_
 obtain⟨z,e,q⟩:=q1
 subst e
 obtain⟨t,rfl⟩:=r1
 have fpn:∀ b∈[s1.heap.objs.size],Rv X pins H1 b:=fun b hb=>by
  have e:b=s1.heap.objs.size:=by simpa using hb
  subst e
  exact I1.AjO (AsI _) (I1.hok.fresh (AsI _))
 cases ha:z.cps.all (·<128)
 ·refine wpAny_pyIter_wide ha ?_
  exact⟨s1.heap.objs.size,[s1.heap.objs.size],_,_,H1,rfl,I1.kept (t':=s1.toks) fun b o e=>Heap.get?_push_of_some _ e,Aji _ z t,⟨AsM _,_,Heap.get?_push_size _ rfl,rfl,rfl⟩,fpn,q⟩
 ·refine wpAny_pyIter_ascii ha ?_
  exact⟨s1.heap.objs.size,[s1.heap.objs.size],_,_,H1,rfl,I1.kept (t':=s1.toks) fun b o e=>Heap.get?_push_of_some _ e,Ajh _ z t,⟨AsM _,_,Heap.get?_push_size _ rfl,rfl,rfl⟩,fpn,q⟩
end
theorem Ain{z:Str}{g:TG}{tb:TS}{D:Ends}{σ:St}{H:Hp}(Pv:Nat→St→Hp→Prop)(h0:Pv 0 σ H)
  (hs:∀ i c σ H,z.cps[i]?=some c→Pv i σ H→g (.str ⟨#[c]⟩) σ H fun σ2 H2=>tb { D with nx:=Pv (i+1),ct:=Pv (i+1),bk:=D.nx } σ2 H2) (hd:∀ σ H,Pv z.cps.size σ H→D.nx σ H) :
  ∃ W:Nat→Nat→St→Hp→Prop,(∃ m,W 0 m σ H)∧∀ i m σ H,W i m σ H →
   ((Its z).stop i H∧D.nx σ H)∨((Its z).go i H∧∃ N:St→Hp→Prop,(∀ σ' H',N σ' H'→∃ m',m'<m∧W (i+1) m' σ' H')∧∀ x H',(Its z).yld i H x H'→g x σ H' fun σ2 H2=>tb { D with nx:=N,ct:=N,bk:=D.nx } σ2 H2):=by
 refine⟨fun i m σ H=>m=z.cps.size-i∧i≤z.cps.size∧Pv i σ H,⟨z.cps.size,by simp,AsM _,h0⟩,?_⟩
 rintro i m σ H ⟨rfl,hi,p⟩
 by_cases hlt:i<z.cps.size
 ·refine .inr ⟨hlt,Pv (i+1),fun σ' H' p'=>⟨z.cps.size-(i+1),by omega,rfl,hlt,p'⟩,fun x H' y=>?_⟩
  obtain⟨e,c,hc,rfl⟩:=y
  subst e
  exact hs i c σ _ hc p
 ·have e:i=z.cps.size:=by omega
  subst e
  exact .inl ⟨AsI _,hd σ H p⟩
def CN (n:Nat)(Pv:Nat→List V→Hp→Prop)(i:Nat)(ys:List V)(H:Hp):Prop:=∃ m',m'<n-i∧m'=n-(i+1)∧i+1≤n∧Pv (i+1) ys H
theorem CN.of{n:Nat}{Pv:Nat→List V→Hp→Prop}{i:Nat}{ys:List V}{H:Hp}(h:i<n)(p:Pv (i+1) ys H):CN n Pv i ys H:=⟨n-(i+1),by omega,rfl,h,p⟩
def Ky (n:Nat)(Pv:Nat→List V→Hp→Prop)(tc:TT)(te:TE)(σ:St)(i:Nat)(ys:List V)(H:Hp):Prop :=
 tc σ H fun b H2=>if b=true then te σ H2 fun y H3=>CN n Pv i (ys++[y]) H3 else CN n Pv i ys H2
theorem Ky.no{n:Nat}{Pv:Nat→List V→Hp→Prop}{te:TE}{σ:St}{i:Nat}{ys:List V}{H:Hp}(h:te σ H fun y H3=>CN n Pv i (ys++[y]) H3):Ky n Pv Afn te σ i ys H:=by
 unfold Ky Afn
 exact Adb h
theorem Hm{K:PySem.W.Frag}{a:Addr}{xs:List V}{BL:List Nat}{tc:TT}{te:TE}{σ:St}{H:Hp}{Q:VK}(Pv:Nat→List V→Hp→Prop)(h0:Pv 0 [] H)(hl:∀ i ys H,i≤xs.length→Pv i ys H→SqL K H a xs∧ys.length≤i)
  (hz:xs.length≤sizeLine) (hs:∀ i x ys H,i<xs.length→xs[i]?=some x→Pv i ys H→Ky xs.length Pv tc te (some x::JM σ BL) i ys H)
  (hd:∀ ys H p,Pv xs.length ys H→H p=none→Q (.ref p) (upd H p (.lst ys))):Afo BL tc te (Itl K a) σ H Q:=by
 refine⟨fun i m ys H=>m=xs.length-i∧i≤xs.length∧Pv i ys H,⟨xs.length,by simp,AsM _,h0⟩,?_⟩
 rintro i m ys H ⟨rfl,hi,p⟩
 obtain⟨q,hy⟩:=hl i ys H hi p
 by_cases hlt:i<xs.length
 ·refine .inr ⟨⟨xs,xs[i],q,by simp[hlt]⟩,by omega,fun x H' y=>?_⟩
  obtain⟨e,y⟩:=y
  subst e
  exact hs i x ys _ hlt (y xs q) p
 ·have e:i=xs.length:=by omega
  subst e
  exact .inl ⟨⟨xs,q,AsI _⟩,by omega,fun p' hp=>hd ys H p' p hp⟩
theorem Nv{lo:Int}{n:Nat}{BL:List Nat}{tc:TT}{te:TE}{σ:St}{H:Hp}{Q:VK}(Pv:Nat→List V→Hp→Prop)(h0:Pv 0 [] H)(hl:∀ i ys H,i≤n→Pv i ys H→ys.length≤i)
  (hz:n≤sizeLine) (hs:∀ i ys H,i<n→Pv i ys H→Ky n Pv tc te (some (.int (lo+i))::JM σ BL) i ys H)
  (hd:∀ ys H p,Pv n ys H→H p=none→Q (.ref p) (upd H p (.lst ys))):Afo BL tc te (Itr lo n) σ H Q:=by
 refine⟨fun i m ys H=>m=n-i∧i≤n∧Pv i ys H,⟨n,by simp,AsM _,h0⟩,?_⟩
 rintro i m ys H ⟨rfl,hi,p⟩
 have hy:=hl i ys H hi p
 by_cases hlt:i<n
 ·refine .inr ⟨hlt,by omega,fun x H' y=>?_⟩
  obtain⟨e,y⟩:=y
  subst e y
  exact hs i ys _ hlt p
 ·have e:i=n:=by omega
  subst e
  exact .inl ⟨AsI _,by omega,fun p' hp=>hd ys H p' p hp⟩
theorem Ah2{ys:List Str}:∀{us:List Value},Vals (ys.map V.str) us→StrsAre us ys:=by
 induction ys with
 | nil=>intro us r;rw[At3] at r;cases r;exact .nil
 | cons n ns ih =>
  intro us r
  rw[AsY] at r
  cases r with
  | cons r1 r2 =>
   obtain⟨t,e⟩:=r1
   subst e
   exact .cons n t (ih r2)
def rJoin(K:PySem.W.Frag):V→List V→Hp→VK→Prop:=fun x vs H Q=>∃ z a ys,x=.str z∧vs=[.ref a]∧SqL K H a (ys.map V.str)∧(ys.map (·.length)).sum+ys.length*z.length≤16777216∧Q (.str (Txt.join z ys)) H
section
variable {X:Cx}
theorem AlU:MtR X "str.join" (rJoin X.K):=by
 intro pins s σ H x vs v us Q I rx rv h
 obtain⟨z,a,ys,rfl,rfl,hq,hz,q⟩:=h
 obtain⟨t,rfl⟩:=rx
 obtain⟨u,rfl,ru⟩:=rv.one
 cases ru
 obtain⟨its,r,pl,hl⟩:=I.list hq
 exact join_list pl.isList (Ah2 (by simpa using r)) hz fun t' k=>⟨.str _,H,I.tok _,⟨_,rfl⟩,q⟩
def Ast (K:PySem.W.Frag):List V→Hp→VK→Prop:=fun vs H Q=>∃ x t b,Ac9 K H x t ∧
 ((∃ n,vs=[x,.ty n]∧PySem.W.kitOne K t (.type n)=some b)∨(∃ a,vs=[x,.ref a]∧PySem.W.kitOne K t (.ref a)=some b))∧Q (.bl b) H
def eqL:List V→List V→Bool
 | [],[]=>true
 | x::xs,y::ys=>eqV x y && eqL xs ys
 | _,_=>false
theorem Akd{x:V}(h:HH x=true):eqV x x=true:=by
 cases x with
 | non=>rfl
 | bl b=>simp[eqV]
 | int i=>simp[eqV]
 | str z=>simp[eqV]
 | _=>exact absurd (show false=true from h) AsT
theorem Aal:∀{xs:List V},xs.all HH=true→eqL xs xs=true
 | [],_=>rfl
 | x::xs,h=>by
  rw[List.all_cons,Aty] at h
  rw[eqL,Akd h.1,Aal h.2]
  rfl
theorem Afq:∀{xs ys:List V},xs.length≠ys.length→eqL xs ys=false
 | [],[],h=>absurd rfl h
 | [],_::_,_=>rfl
 | _::_,[],_=>rfl
 | x::xs,y::ys,h=>by
  rw[eqL,Afq (xs:=xs) (ys:=ys) (fun z=>h (by rw[Atf,Atf,z])),Bool.and_false]
theorem Abv:∀{xs ys:List V},xs.length=ys.length→(List.range xs.length).all (fun j=>eqV (xs.getD j .non) (ys.getD j .non))=eqL xs ys
 | [],[],_=>rfl
 | [],_::_,h=>by simp at h
 | _::_,[],h=>by simp at h
 | x::xs,y::ys,h=>by
  have h':xs.length=ys.length:=by simpa using h
  rw[Atf,List.range_succ_eq_map,List.all_cons,List.all_map]
  rw[eqL,← Abv h']
  rfl
def Asu (K:PySem.W.Frag):R2:=fun x y H Q=>∃ p q xs ys,x=.ref p∧y=.ref q∧SqL K H p xs∧SqL K H q ys∧xs.all HH=true∧ys.all HH=true∧Q (.bl (eqL xs ys)) H
end
open PySem
def tx (l:List Nat):Str:=⟨l.toArray⟩
theorem Ei(l:List Nat):(tx l).length=l.length:=by simp[tx,Str.length]
theorem Aio(l:List Nat):(tx l).cps.toList=l:=by simp[tx]
theorem Afr(l:List Nat)(i:Nat):(tx l).cps[i]?=l[i]?:=by simp[tx]
theorem Ade(a b:List Nat):tx a++tx b=tx (a++b):=by
 show Str.append (tx a) (tx b)=_
 simp[tx,Str.append]
theorem Yr(c:Nat):(⟨#[c]⟩:Str)=tx [c]:=rfl
theorem AeO:∀(ys:List (List Nat)) (acc:Array Nat),(ys.map tx).foldl (fun acc p=>acc++(tx []).cps++p.cps) acc=acc++ys.flatten.toArray
 | [],acc=>by simp
 | y::ys,acc=>by
  rw[AsY,Auj,AeO ys]
  simp[tx]
theorem Aip:∀(ys:List (List Nat)),Txt.join (tx []) (ys.map tx)=tx ys.flatten
 | []=>by simp[Txt.join,Builtin.Str.glued,tx,Str.empty]
 | y::ys=>by
  show Str.mk _=_
  simp only [AsY,List.drop_one,List.tail_cons,List.headD_cons]
  rw[AeO]
  simp[tx]
theorem Ake{α:Type}(f:α→Nat):∀(l:List α),(l.map fun c=>[f c]).flatten=l.map f
 | []=>rfl
 | a::l=>by rw[AsY,Ath,Ake f l];rfl
theorem AnP{α:Type}(f:α→Nat):∀(l:List α),(((l.map fun c=>[f c]).map tx).map (·.length)).sum=l.length
 | []=>rfl
 | a::l=>by
  rw[AsY,AsY,AsY,At6,AnP f l,Ei,Atf]
  show 1+l.length=l.length+1
  omega
end L2
namespace PySem
open Sem (wp)
open Builtin Builtin.Str Builtin.Int
namespace RV
end RV
def Asv (x:Str)(t:Tok)(i:Int):Obj:={ cls:=.type "reversed", data:=.fields #[.str x t,rawInt i] }
def Heap.AnQ(h:Heap)(a:Addr)(x:Str)(t:Tok)(i:Int):Prop:=∃ o,h.get? a=some o∧o.cls=.type "reversed" ∧ o.data=.fields #[.str x t,rawInt i]
section
variable {prog:Program}{w:World}{A:Around}{E:Value→Shared→Prop}{s:Shared}
end
end PySem
namespace L2
open PySem PySem.Spec PyProof.Rows
def Asw (p:Addr)(x:Str):HO:=.ext fun h=>∃ t,h.AnQ p x t ((x.length:Int)-1)
def Asx (p:Addr):HO:=.ext fun h=>∃ o,h.get? p=some o
section
variable {X:Cx}
theorem RP(hc:X.calm=true:=by rfl):JB X (.builtin "max") (fun xs H Q=>∃ i j,xs=[.int i,.int j]∧Q (.int (if j>i then j else i)) H):=AiZ hc
theorem Adf(hc:X.calm=true:=by rfl):JB X (.builtin "min") (fun xs H Q=>∃ i j,xs=[.int i,.int j]∧Q (.int (if j<i then j else i)) H):=Aja hc
end
open PySem PySem.Spec PyProof.Rows
theorem Iu{c A B:Prop}[Decidable c](h:¬c)(k:B):if decide c=true then A else B:=by rw[decide_eq_false h];exact XJ k
theorem Adg{c A B:Prop}[Decidable c](h:c)(k:A):if decide c=true then A else B:=by rw[decide_eq_true h];exact Adb k
theorem Aiq{c A B:Prop}[Decidable c](h:¬c)(k:A):if (!decide c)=true then A else B:=by rw[decide_eq_false h];exact Adb k
theorem DR{c A B:Prop}[Decidable c](h1:c→A)(h2:¬c→B):if decide c=true then A else B:=by
 by_cases h:c
 ·exact Adg h (h1 h)
 ·exact Iu h (h2 h)
theorem Bl.upd{H:Hp}{p:Addr}{o:HO}(h:H p=none):Bl H (L2.upd H p o):=fun b o' e=>by rw[Bh (FN e h)];exact e
theorem Bl.new{H H1:Hp}{p:Addr}{o:HO}(e:Bl H H1)(h:H1 p=none):Bl H (L2.upd H1 p o):=e.trans (.upd h)
theorem Bl.over{H H1:Hp}{p:Addr}{o:HO}(e:Bl H H1)(h:H p=none):Bl H (L2.upd H1 p o):=fun b o' q=>by rw[Bh (FN q h)];exact e b o' q
theorem Ge:bootBuiltins "len" = some (.builtin "len"):=by decide +kernel
theorem Bq:bootBuiltins "isinstance" = some (.builtin "isinstance"):=by decide +kernel
theorem Akf:bootBuiltins "min" = some (.builtin "min"):=by decide +kernel
theorem Adh:bootBuiltins "max" = some (.builtin "max"):=by decide +kernel
theorem Ah3:bootBuiltins "sum" = some (.builtin "sum"):=by decide +kernel
theorem Rx:bootBuiltins "sorted" = some (.builtin "sorted"):=by decide +kernel
theorem Xo:bootBuiltins "list" = some (.type "list"):=by decide +kernel
theorem AnR:bootBuiltins "int" = some (.type "int"):=by decide +kernel
theorem Afs:bootBuiltins "enumerate" = some (.type "enumerate"):=by decide +kernel
theorem AnS:bootBuiltins "zip" = some (.type "zip"):=by decide +kernel
theorem Adi:bootBuiltins "range" = some (.type "range"):=by decide +kernel
theorem Akg:bootBuiltins "set" = some (.type "set"):=by decide +kernel
structure Df (K:PySem.W.Frag) (mg:Str→Option Value) (x:Str) (st:Stmt) (ps:List Str) (f:Addr) (fd:FuncData):Prop where
 F:Fun K x x st f fd
 m:mg x=some (.ref f)
 b:Binds K fd ps []
def vS (cl:List (List Nat)):List V:=cl.map fun t=>V.str (tx t)
def vI (ns:List Int):List V:=ns.map V.int
theorem Ij(cl:List (List Nat)):(vS cl).length=cl.length:=by unfold vS;rw[AsH]
theorem Bs(ns:List Int):(vI ns).length=ns.length:=by unfold vI;rw[AsH]
theorem Adj{cl:List (List Nat)}{i:Nat}{t:List Nat}(h:cl[i]?=some t):(vS cl)[i]?=some (.str (tx t)):=by unfold vS;rw[AsU,h];rfl
theorem Ys{ns:List Int}{i:Nat}{n:Int}(h:ns[i]?=some n):(vI ns)[i]?=some (.int n):=by unfold vI;rw[AsU,h];rfl
theorem Adk{cl:List (List Nat)}{i:Nat}{v:V}(h:(vS cl)[i]?=some v):∃ t,cl[i]?=some t∧v=.str (tx t):=by
 unfold vS at h
 rw[AsU] at h
 cases e:cl[i]? with
 | none=>rw[e] at h;cases h
 | some t=>rw[e] at h;exact⟨t,rfl,(Option.some.inj h).symm⟩
theorem Nx{ns:List Int}{i:Nat}{v:V}(h:(vI ns)[i]?=some v):∃ t,ns[i]?=some t∧v=.int t:=by
 unfold vI at h
 rw[AsU] at h
 cases e:ns[i]? with
 | none=>rw[e] at h;cases h
 | some t=>rw[e] at h;exact⟨t,rfl,(Option.some.inj h).symm⟩
theorem Akh(cl:List (List Nat)):vS cl=(cl.map tx).map V.str:=by unfold vS;rw[AtF];rfl
theorem Aft(ns:List Int)(j:Nat)(n:Int):(vI ns).set j (.int n)=vI (ns.set j n):=by unfold vI;rw[List.map_set]
theorem Yt(ns:List Int)(n:Int):vI ns++[.int n]=vI (ns++[n]):=by unfold vI;rw[AsP];rfl
theorem Yu(cl:List (List Nat))(t:List Nat):vS cl++[.str (tx t)]=vS (cl++[t]):=by unfold vS;rw[AsP];rfl
theorem Dk{α:Type}{xs:List α}{i:Int}{v:α}(h0:0≤i)(h:xs[i.toNat]?=some v):atI xs i=some v:=by
 have e:i=(i.toNat:Int):=by omega
 rw[e]
 exact Aim h
theorem Afu{n:Nat}{i:Int}(h0:0≤i)(h:i<n):ixN n i=some i.toNat:=by unfold ixN;rw[if_pos h0,if_pos h]
open PySem PySem.Spec PyProof.Rows
section
variable {X:Cx}{K:PySem.W.Frag}{tg:Expr}
theorem Bg(hK:X.K=K:=by rfl):IxR X (AnG K):=by subst hK;exact AlP
theorem Fe(hK:X.K=K:=by rfl):IxR X (AnH K):=by subst hK;exact AnI
theorem Bt(hK:X.K=K:=by rfl):JB X (.builtin "len") (fun xs H Q=>∃ p ys,xs=[.ref p]∧(SqL K H p ys∨SqT K H p ys)∧Q (.int ys.length) H):=by subst hK;exact Afk
theorem Jr(hK:X.K=K:=by rfl):JB X (.type "list") (fun xs H Q=>∃ p ys,xs=[.ref p]∧(SqL K H p ys∨SqT K H p ys)∧∀ l,H l=none→Q (.ref l) (upd H l (.lst ys))):=by subst hK;exact Afl
theorem Agq(hK:X.K=K:=by rfl):MtR X "str.join" (rJoin K):=by subst hK;exact AlU
theorem HJ(hK:X.K=K:=by rfl):SlR X (Apx K):=by subst hK;exact AlQ
theorem Ew{l:Expr}{tl:TE}(hl:PE X l tl)(hK:X.K=K:=by rfl):PI X tg l (Anc K tl):=by subst hK;exact AlL hl
variable {o e:Expr}{es:List Expr}{to:TE}{t:TA}{name:Str}{apos cpos:Pos}{T id:String}{r:V→List V→Hp→VK→Prop}
theorem Mr(pa:PlainAttrs T)(slot:Slot T name id)(hty:typeOf (.builtin id)=pure (.type "method_descriptor")) (hm:MtR X id r) (ho:PE X o to) (ha:PA X (e::es) t)
  (hbase:attributeBase o name X.env (eval o X.env)=eval o X.env:=by rfl)
  (hfew:((backTo cpos (starEach (e::es) X.env)).all (fun x=>!x.1) && (backToKw cpos (keywordEach [] X.env)).all (fun x=>x.1.isSome)
   && decide ((e::es).length+([]:List Keyword).length+(if ([]:List Keyword).isEmpty then 0 else 1)<30))=true:=by rfl)
  (hline:(apos.endLine == cpos.line)=true:=by rfl) (hs:starEach (e::es) X.env=(false,eval e X.env)::starEach es X.env:=by rfl) (hplain:(backTo cpos (starEach es X.env)).any (·.1)=false:=by rfl) (hK:X.K=K:=by rfl) :
  PE X (.Call (.Attribute o name apos) (e::es) [] cpos) (tBM K T r to t):=by
 subst hK
 exact Apy pa slot hty hm ho ha hbase hfew hline hs hplain
end
open PySem PySem.Spec PyProof.Rows
abbrev exO (C t:Addr) (tb:Value):Obj:={ cls:=.ref C,data:=.fields #[.ref t,tb,.none,.none,.bool false,.none] }
structure Fx (B:Heap) (l:List Env) (e C t:Addr) (fl:Value) (h:Heap):Prop where
 st:B.StaysIn h
 ne:B.get? e=none
 fr:h.FunFrames B l
 ob:∃(T:Addr) (oT:Obj) (ts:Array Value),h.get? e=some (exO C t (.ref T))∧B.get? T=none∧T≠e∧h.get? T=some oT∧oT.data=.fields ts∧ts[3]?=some fl
theorem Fx.outer{B:Heap}{env:Env}{l:List Env}{e C t:Addr}{fl:Value}{h:Heap}(x:Fx B (env::l) e C t fl h):Fx B l e C t fl h:=⟨x.st,x.ne,x.fr.2.2,x.ob⟩
section
variable {M:Model}{A:Around}{E:Value→Shared→Prop}{s:Shared}{B:Heap}{env:Env}{l:List Env}{e C t L:Addr}
theorem Afv{fl:Value}{Q:Unit→Shared→Prop}(x:Fx B l e C t fl s.heap)(k:∀ h',Fx B l e C t .none h'→s.heap.UpToSlots h'→Q () { s with heap:=h' }):wpAny M A (setFlight (.ref e) none) Q E s:=by
 obtain⟨st,ne,fr,T,oT,ts,hE,hBT,hTe,hT,hdT,h3⟩:=x
 have h3s:3<ts.size:=(Array.getElem?_eq_some_iff.mp h3).1
 unfold setFlight
 refine wpAny_bind (wpAny_field hE rfl (x:=.ref T) rfl ?_)
 rw[if_pos (show(Value.ref T != Value.none)=true by simp)]
 refine wpAny_setField hT hdT h3s (k _ ?_ ?_)
 all_goals
  have oth:∀ b,b≠T→(s.heap.update T (Obj.mapFields (·.setIfInBounds 3 ((none:Option Addr).elim Value.none fun f=>rawInt f)))).get? b=s.heap.get? b:=fun b hb=>Heap.get?_update_other _ _ (Ne.symm hb)
  have Adl:∀ b o,s.heap.get? b=some o→(∀ vs,o.data≠.fields vs)→b≠T:=fun b o hb hn q=>by
   rw[q,hT] at hb
   cases hb
   exact hn ts hdT
 ·refine⟨fun b o hb=>(oth b fun q=>by rw[q,hBT] at hb;cases hb).trans (st b o hb),ne,fr.of_keeps fun b o hb hn=>⟨o,(oth b (Adl b o hb hn)).trans hb,rfl⟩,T,_,_,(oth e (Ne.symm hTe)).trans hE,hBT,hTe,
   Heap.get?_update_self _ hT (Obj.isFreed_of_fields (Obj.data_mapFields hdT _)),Obj.data_mapFields hdT _,?_⟩
  simp[h3s]
 ·exact fun b o hb hn=>⟨o.slots,(oth b (Adl b o hb hn)).trans hb⟩
theorem Agr{tb:Value}{had:Bool}{Q:Unit→Shared→Prop}(hfr:A.frames=some (env::l))(hf:env.frame=some L)(st:B.StaysIn s.heap)(ne:B.get? e=none)(fr:s.heap.FunFrames B (env::l))
  (hE:s.heap.get? e=some (exO C t tb)) (k:∀ h',Fx B (env::l) e C t (rawInt L) h'→s.heap.UpToSlots h'→Q () { s with heap:=h' }) :
  wpAny M A (do let a ← frameOf env;let pl ← entryPlaceOf L had;let b ← EntryCells.newEntry tb a .none (rawInt L) .none pl;setField (.ref e) 1 b) Q E s:=by
 have eF:e∉(env::l).filterMap (·.frame):=fun hm=>by
  obtain⟨_,o,ho,hn⟩:=fr.mem hm
  rw[hE] at ho
  cases ho
  exact hn _ rfl
 refine wpAny_bind (wpAny_frameOf_fun hfr fr hf fun h1 so=>wpAny_bind (wpAny_entryPlaceOf fun pl hpl=>?_))
 unfold EntryCells.newEntry newFields
 refine wpAny_bind (wpAny_newObj_type ?_ (hpl.sizeOk5 _ _ _ _ _))
 have E1:h1.get? e=some (exO C t tb):=(so.2.1 e eF).trans hE
 have st1:B.StaysIn h1:=fun b o hb=>(so.2.1 b fun hm=>by rw[(fr.mem hm).1] at hb;cases hb).trans (st b o hb)
 have TE:h1.objs.size≠e:=Ato (Heap.lt_size E1)
 generalize hN:({ cls:=.type "traceback", dict:=none,data:=.fields ([tb,.ref L,.none,rawInt L,.none]++(if pl.isEmpty then List.replicate 6 Value.none else pl)).toArray }:Obj)=nT
 have E2:(h1.push nT).get? e=some (exO C t tb):=Heap.get?_push_of_some nT E1
 refine wpAny_setField (s:={ s with heap:=h1.push nT }) E2 rfl (by show 1<6;decide) (k _ ?_ ?_)
 all_goals
  have kp:∀ b o,b≠e→h1.get? b=some o→((h1.push nT).update e (Obj.mapFields (·.setIfInBounds 1 (Value.ref h1.objs.size)))).get? b=some o:=fun b o hb q =>
   (Heap.get?_update_other _ _ (Ne.symm hb)).trans (Heap.get?_push_of_some nT q)
  have Adl:∀ b o,s.heap.get? b=some o→(∀ vs,o.data≠.fields vs)→b≠e:=fun b o hb hn q=>by
   rw[q,hE] at hb
   cases hb
   exact hn _ rfl
 ·have freed:nT.isFreed=false:=by rw[← hN];rfl
  refine⟨fun b o hb=>kp b o (fun q=>by rw[q,ne] at hb;cases hb) (st1 b o hb),ne,fr.of_keeps fun b o hb hn=>?_,h1.objs.size,nT,_,Heap.get?_update_self _ E2 rfl,st1.fresh,TE,
   (Heap.get?_update_other _ _ (Ne.symm TE)).trans (Heap.get?_push_size h1 freed),by rw[← hN],by simp⟩
  obtain⟨sl,q⟩:=so.2.2 b o hb
  exact⟨_,kp b _ (Adl b o hb hn) q,rfl⟩
 ·intro b o hb hn
  obtain⟨sl,q⟩:=so.2.2 b o hb
  exact⟨sl,kp b _ (Adl b o hb hn) q⟩
theorem Aki{Q:Unit→Shared→Prop}(hfr:A.frames=some (env::l))(hf:env.frame=some L)(st:B.StaysIn s.heap)(ne:B.get? e=none)(fr:s.heap.FunFrames B (env::l))
  (hE:s.heap.get? e=some (exO C t .none)) (k:∀ h',Fx B (env::l) e C t (rawInt L) h'→s.heap.UpToSlots h'→Q () { s with heap:=h' }):wpAny M A (noteFrame (.ref e) env) Q E s:=by
 unfold noteFrame
 simp only [hf]
 refine wpAny_bind (wpAny_field hE rfl (x:=.none) rfl ?_)
 rw[if_neg (by decide)]
 exact Agr hfr hf st ne fr hE k
theorem AlV{Q:Unit→Shared→Prop}(hfr:A.frames=some (env::l))(hf:env.frame=some L)(x:Fx B (env::l) e C t .none s.heap)
  (k:∀ h',Fx B (env::l) e C t (rawInt L) h'→s.heap.UpToSlots h'→Q () { s with heap:=h' }):wpAny M A (noteFrame (.ref e) env) Q E s:=by
 obtain⟨st,ne,fr,T,oT,ts,hE,hBT,hTe,hT,hdT,h3⟩:=x
 unfold noteFrame
 simp only [hf]
 refine wpAny_bind (wpAny_field hE rfl (x:=.ref T) rfl ?_)
 rw[if_pos (show(Value.ref T != Value.none)=true by simp)]
 refine wpAny_bind (wpAny_field hT hdT h3 ?_)
 rw[if_neg (show ¬((Value.none == rawInt L)=true) by simp[rawInt])]
 refine wpAny_bind (wpAny_setField hT hdT (Array.getElem?_eq_some_iff.mp h3).1 ?_)
 have oth:∀ b,b≠T→(s.heap.update T (Obj.mapFields (·.setIfInBounds 3 Value.none))).get? b=s.heap.get? b:=fun b hb=>Heap.get?_update_other _ _ (Ne.symm hb)
 have Adl:∀ b o,s.heap.get? b=some o→(∀ vs,o.data≠.fields vs)→b≠T:=fun b o hb hn q=>by
  rw[q,hT] at hb
  cases hb
  exact hn ts hdT
 exact Agr (s:={ s with heap:=s.heap.update T (Obj.mapFields (·.setIfInBounds 3 Value.none)) }) hfr hf (fun b o hb=>(oth b fun q=>by rw[q,hBT] at hb;cases hb).trans (st b o hb)) ne
  (fr.of_keeps fun b o hb hn=>⟨o,(oth b (Adl b o hb hn)).trans hb,rfl⟩) ((oth e (Ne.symm hTe)).trans hE)
  fun h' y u=>k h' y fun b o hb hn=>u b o ((oth b (Adl b o hb hn)).trans hb) hn
end
open PySem PySem.Spec PyProof.Rows
section
variable {M:Model}{A:Around}{E:Value→Shared→Prop}{s:Shared}{B:Heap}{env:Env}{l:List Env}{e C t L:Addr}
theorem Ajj{fl:Value}{f:Option Addr}{Q:Unit→Shared→Prop}(x:Fx B l e C t fl s.heap)(k:∀ h',Fx B l e C t (f.elim Value.none fun f=>rawInt f) h'→s.heap.UpToSlots h'→Q () { s with heap:=h' }):wpAny M A (setFlight (.ref e) f) Q E s:=by
 obtain⟨st,ne,fr,T,oT,ts,hE,hBT,hTe,hT,hdT,h3⟩:=x
 have h3s:3<ts.size:=(Array.getElem?_eq_some_iff.mp h3).1
 unfold setFlight
 refine wpAny_bind (wpAny_field hE rfl (x:=.ref T) rfl ?_)
 rw[if_pos (show(Value.ref T != Value.none)=true by simp)]
 refine wpAny_setField hT hdT h3s (k _ ?_ ?_)
 all_goals
  have oth:∀ b,b≠T→(s.heap.update T (Obj.mapFields (·.setIfInBounds 3 (f.elim Value.none fun f=>rawInt f)))).get? b=s.heap.get? b:=fun b hb=>Heap.get?_update_other _ _ (Ne.symm hb)
  have Adl:∀ b o,s.heap.get? b=some o→(∀ vs,o.data≠.fields vs)→b≠T:=fun b o hb hn q=>by
   rw[q,hT] at hb
   cases hb
   exact hn ts hdT
 ·refine⟨fun b o hb=>(oth b fun q=>by rw[q,hBT] at hb;cases hb).trans (st b o hb),ne,fr.of_keeps fun b o hb hn=>⟨o,(oth b (Adl b o hb hn)).trans hb,rfl⟩,T,_,_,(oth e (Ne.symm hTe)).trans hE,hBT,hTe,
   Heap.get?_update_self _ hT (Obj.isFreed_of_fields (Obj.data_mapFields hdT _)),Obj.data_mapFields hdT _,?_⟩
  simp[h3s]
 ·exact fun b o hb hn=>⟨o.slots,(oth b (Adl b o hb hn)).trans hb⟩
theorem Akj{Q:Unit→Shared→Prop}(hf:env.frame=some L)(x:Fx B l e C t (rawInt L) s.heap)(k:Q () s):wpAny M A (noteFrame (.ref e) env) Q E s:=by
 obtain⟨st,ne,fr,T,oT,ts,hE,hBT,hTe,hT,hdT,h3⟩:=x
 unfold noteFrame
 simp only [hf]
 refine wpAny_bind (wpAny_field hE rfl (x:=.ref T) rfl ?_)
 rw[if_pos (show(Value.ref T != Value.none)=true by simp)]
 refine wpAny_bind (wpAny_field hT hdT h3 ?_)
 rw[if_pos (show((rawInt L == rawInt L)=true) by simp)]
 exact wpAny_pure k
end
structure Bk (P:Program) (w:World) (outer:List Env) (H:Hp) (h:Heap) (H':Hp) (B h':Heap):Prop where
 ok:HOk P w H' B
 keep:∀ b o,h.get? b=some o→H b=none→b∉frs outer→B.get? b=some o
 slot:∀ b o,h.get? b=some o→b∈frs outer→∃ sl,h'.get? b=some { o with slots:=sl }
 free:∀ b o,h.get? b=some o→H b=none→H' b=none
 there:∀ b o,h.get? b=some o→b∉frs outer→∃ o',B.get? b=some o'
 tups:∀ b xs,H b=some (.tup xs)→H' b=some (.tup xs)
 Pg:∀ b o u,H b=some (.frz o u)→H' b=some (.frz o u)
 Rt:∀ b ps,H b=some (.tbl ps)→∃ more,H' b=some (.tbl (ps++more))
theorem Bk.slots{P:Program}{w:World}{outer:List Env}{H H':Hp}{h B h1 h2:Heap}(k:Bk P w outer H h H' B h1)(fr:h1.FunFrames B outer)(u:h1.UpToSlots h2):Bk P w outer H h H' B h2 :=
 ⟨k.ok,k.keep,fun b o q hb=>by
  obtain⟨sl,e⟩:=k.slot b o q hb
  obtain⟨_,o2,e2,n2⟩:=fr.mem hb
  rw[e] at e2
  cases e2
  obtain⟨sl2,e3⟩:=u b _ e n2
  exact⟨sl2,e3⟩,k.free,k.there,k.tups,k.Pg,k.Rt⟩
def CX1 (P:Program)(w:World):CXT:=fun outer H s E e s'=>∃ ea C t H' B,e=.ref ea∧Fx B outer ea C t .none s'.heap∧s'.os=s.os∧AllBare s'.gens∧Bk P w outer H s.heap H' B s'.heap∧E (.ref C) none H'
inductive Fly (B:Heap) (l:List Env) (L ea C t:Addr) (h:Heap):Prop where
 | new (st:B.StaysIn h) (ne:B.get? ea=none) (fr:h.FunFrames B l) (ob:h.get? ea=some (exO C t .none))
 | came (x:Fx B l ea C t .none h)
 | seen (x:Fx B l ea C t (rawInt L) h)
theorem Fly.fr{B:Heap}{l:List Env}{L ea C t:Addr}{h:Heap}(x:Fly B l L ea C t h):h.FunFrames B l:=by
 cases x with
 | new st ne fr ob=>exact fr
 | came x=>exact x.fr
 | seen x=>exact x.fr
def FlX (X:Cx)(E:XK):Value→Shared→Prop:=fun e s'=>∃ ea C t H' B,e=.ref ea∧Fly B X.stack X.env.locals ea C t s'.heap∧s'.os=X.s₀.os∧AllBare s'.gens∧Bk X.prog X.w X.outer X.H₀ X.s₀.heap H' B s'.heap∧E (.ref C) none H'
structure Body (X:Cx):Prop where
 stack:X.stack=X.env::X.outer
 frame:X.env.frame=some X.env.locals
 ex:X.ex=[]
section
variable {X:Cx}{pins:List (Addr × Obj)}{σ:St}{H:Hp}{s s':Shared}{E:XK}{e:Value}
theorem Inv.AlW(I:Inv X pins σ H s){b:Addr}{o:Obj}(q:X.s₀.heap.get? b=some o)(hb:b∉X.fs):b∉frs X.stack:=fun hm=>by
 rcases List.mem_cons.mp (I.AcW b hm) with z | z
 ·rw[z] at q
  exact absurd (AsO (Heap.lt_size q) I.ok.above) (Atn _)
 ·exact hb z
theorem Ap0(hB:Body X)(I:Inv X pins σ H s)(c:CX1 X.prog X.w X.stack H s E e s'):FlX X E e s':=by
 obtain⟨ea,C,t,H',B,rfl,fx,os,bare,bk,q⟩:=c
 have nx:∀ b:Addr,b∉X.ex:=fun b z=>by rw[hB.ex] at z;exact nomatch z
 have fsS:∀ b,b∈X.fs→b∈frs X.stack:=fun b hb=>by
  rw[hB.stack];unfold frs;rw[AtI,hB.frame];exact AsW _ hb
 refine⟨ea,C,t,H',B,rfl,.came fx,os.trans I.os,bare,⟨bk.ok,fun b o e n hb=>?_,fun b o e hb=>?_,fun b o e n=>?_,fun b o e hb=>?_,fun b xs e=>bk.tups b xs (I.base.tups b xs e),fun b o u e=>bk.Pg b o u (I.base.Pg b o u e),fun b ps e=>?_⟩,q⟩
 ·exact bk.keep b o (I.base.keep b o e n hb (nx b)) (I.base.free b o e n (nx b)) (I.AlW e hb)
 ·obtain⟨sl,e1⟩:=I.base.slot b o e (I.ok.frf b hb) hb (nx b)
  obtain⟨sl2,e2⟩:=bk.slot b _ e1 (fsS b hb)
  exact⟨sl2,e2⟩
 ·obtain⟨o',e1⟩:=I.base.there b o e (nx b)
  exact bk.free b o' e1 (I.base.free b o e n (nx b))
 ·obtain⟨o',e1⟩:=I.base.there b o e (nx b)
  exact bk.there b o' e1 (I.AlW e hb)
 ·obtain⟨m1,e1⟩:=I.base.Rt b ps e
  obtain⟨m2,e2⟩:=bk.Rt b _ e1
  exact⟨m1++m2,by rw[e2,Array.append_assoc]⟩
theorem Ap1{h':Heap}{ea C:Addr}{vs:List Value}(hB:Body X)(I:Inv X pins σ H s)(hx:Heap.MadeExcOf s.heap h' ea (.ref C) vs)(q:E (.ref C) none H):FlX X E (.ref ea) { s with heap:=h' }:=by
 obtain⟨t,ht,_,_⟩:=hx.there
 have nx:∀ b:Addr,b∉X.ex:=fun b z=>by rw[hB.ex] at z;exact nomatch z
 have nfr:∀ b u,H b=some u→b∉frs X.stack:=fun b u e hm=>by rw[I.Aab b hm] at e;cases e
 refine⟨ea,C,t,H,PySem.W.hideAll s.heap (frs X.stack),rfl,.new (fun b o e=>hx.keeps b o (PySem.W.of_hideAll _ e)) ?_ ?_ ht,I.os,I.bare,⟨fun b u e=>?_,fun b o e n hb=>?_,fun b o e hb=>?_,fun b o e n=>I.base.free b o e n (nx b),fun b o e hb=>?_,I.base.tups,I.base.Pg,I.base.Rt⟩,q⟩
 ·cases z:(PySem.W.hideAll s.heap (frs X.stack)).get? ea with
  | none=>rfl
  | some o =>
   have:=PySem.W.of_hideAll _ z
   rw[hx.new] at this
   cases this
 ·exact(PySem.W.funFrames_hide I.stack fun env he a ha=>List.mem_filterMap.mpr ⟨env,he,ha⟩).of_keeps fun b o hb _=>⟨o,hx.keeps b o hb,rfl⟩
 ·refine(I.hok b u e).stay (fun c v hc z=>PySem.W.hideAll_get _ z ?_) (fun _ z=>z) fun _ _ z=>z
  rcases hc with z | z
  ·rw[z];exact nfr b u e
  ·exact nfr c _ z
 ·exact PySem.W.hideAll_get _ (I.base.keep b o e n hb (nx b)) (I.AlW e hb)
 ·obtain⟨sl,e1⟩:=I.base.slot b o e (I.ok.frf b hb) hb (nx b)
  exact⟨sl,hx.keeps _ _ e1⟩
 ·obtain⟨o',e1⟩:=I.base.there b o e (nx b)
  exact⟨o',PySem.W.hideAll_get _ e1 (I.AlW e hb)⟩
theorem Akk{M:Model}{Q:Unit→Shared→Prop}{E':Value→Shared→Prop}{B:Heap}{ea C t:Addr}(hB:Body X)(hfr:X.A.frames=some X.stack)(x:Fly B X.stack X.env.locals ea C t s.heap)
  (k:∀ h',Fx B X.stack ea C t (rawInt X.env.locals) h'→s.heap.UpToSlots h'→Q () { s with heap:=h' }):wpAny M X.A (noteFrame (.ref ea) X.env) Q E' s:=by
 rw[hB.stack] at x hfr k
 cases x with
 | new st ne fr ob=>exact Aki hfr hB.frame st ne fr ob k
 | came x=>exact AlV hfr hB.frame x k
 | seen x=>exact Akj hB.frame x (k s.heap x (.refl _))
theorem Air(hB:Body X){B h:Heap}(x:h.FunFrames B X.stack):h.FunFrames B X.outer:=by
 rw[hB.stack] at x
 exact x.2.2
theorem leaveX{M:Model}{E':Value→Shared→Prop}(hB:Body X)(hfr:X.A.frames=some X.stack)(c:FlX X E e s):wpAny M X.A (leaving X.env e) (fun _ s''=>CX1 X.prog X.w X.outer X.H₀ X.s₀ E e s'') E' s:=by
 obtain⟨ea,C,t,H',B,rfl,fx,os,bare,bk,q⟩:=c
 unfold leaving
 refine wpAny_bind (Akk hB hfr fx fun h1 x1 u1=>Afv (s:={ s with heap:=h1 }) x1 fun h2 x2 u2=>?_)
 have x3:=x2
 rw[hB.stack] at x3
 exact⟨ea,C,t,H',B,rfl,x3.outer,os,bare,bk.slots (Air hB fx.fr) (u1.trans u2),q⟩
theorem AnT(hB:Body X)(hfr:X.A.frames=some X.stack):PassesOwn (model X.prog X.w) X.A X.env (FlX X E):=by
 rintro e s ⟨ea,C,t,H',B,rfl,fx,os,bare,bk,q⟩
 unfold notedBy
 refine Akk hB hfr fx fun h1 x1 u1=>?_
 obtain⟨T,oT,ts,hE,_⟩:=x1.ob
 unfold cameBackBy
 refine wpAny_bind (wpAny_field (s:={ s with heap:=h1 }) hE rfl (x:=.ref T) rfl ?_)
 rw[if_neg (by simp)]
 refine Ajj (s:={ s with heap:=h1 }) (f:=X.env.frame) x1 fun h2 x2 u2=>?_
 rw[hB.frame] at x2
 exact⟨ea,C,t,H',B,rfl,.seen x2,os,bare,bk.slots (Air hB fx.fr) (u1.trans u2),q⟩
end
open PySem PySem.Spec PyProof.Rows
def Ajk (K:PySem.W.Frag)(C:Addr):List Value:=match K.lookup C with
 | some ⟨_,_,.cls cd,_⟩=>cd.mro
 | _=>[]
theorem Afw{K:PySem.W.Frag}{h:Heap}{C:Addr}{bmB:List Value}{nid:String}(X:K.In h)(q:PySem.W.excIn K C bmB nid=true) :
  ∃ bm N nm qn bs hdct sn sub ab col dd k0 k1 k2 k3 k5 mN,Ajk K C=.ref C::bm∧h.get? C=some (excClassObj nm qn C N bs bm hdct sn sub ab col dd k0 k1 k2 k3 k5 nid)∧h.Ns N mN∧mN "__init__" = none∧OwnTail h bmB bm:=by
 unfold PySem.W.excIn at q
 split at q
 next dd cd sl ho =>
  split at q
  next C' bm k0 k1 k2 k3 n k5 hm hs =>
   have hM:Ajk K C=cd.mro:=by unfold Ajk;rw[ho]
   simp only [Aty,beq_iff_eq,Auy] at q
   obtain⟨⟨⟨⟨⟨q1,q2⟩,hdel⟩,ht⟩,hok⟩,hni⟩:=q
   subst q1 q2
   have hsl:sl=#[k0,k1,k2,k3,some (.builtin n),k5]:=by rw[← hs]
   rw[hm] at hM
   cases cd
   dsimp only at hm hdel hok hni
   subst hm hdel hsl
   exact⟨bm,_,_,_,_,_,_,_,_,_,dd,k0,k1,k2,k3,k5,_,hM,X _ _ ho,.of_isNs (PySem.W.isNs_of_in X hok),PySem.W.nsMap_none_of_in X hok hni,PySem.W.tail_of_in X ht⟩
  next=>cases q
 next=>cases q
def AnU (C:Addr)(E:XK)(t:TA):TS:=fun _ σ H=>t σ H fun vs H1=>vs.length≤sizeLine∧E (.ref C) none H1
section
variable {X:Cx}{x:Str}{C:Addr}{bmB bmN:List Value}{B Bn nid AqM iid AqN:String}{E:XK}{e:Expr}{es:List Expr}{t:TA}{np cpos pos:Pos}
theorem Ry(hB:Body X)(hc:X.calm=true)(hw:∀ e s',FlX X E e s'→X.xe e s')(Fn:ExcBaseFacts Bn nid iid bmN)(hn:bmB.contains (.type Bn)=true)(FB:ExcBaseFacts B AqM AqN bmB)(q:PySem.W.excIn X.K C bmB nid=true)(hg:Gl X x)(hm:X.mg x=some (.ref C))(ha:PA X.nox (e::es) t)
  (hd:(x == ("__debug__" : Str))=false:=by decide) (he:starEach (e::es) X.env=(false,eval e X.env)::starEach es X.env:=by rfl) (hpl:(backTo cpos (starEach es X.env)).any (·.1)=false:=by rfl) :
  PS X (.Raise (some (.Call (.Name x np) (e::es) [] cpos)) none pos) (AnU C E t):=by
 intro pins s σ H D I h
 obtain⟨bm,N,nm,qn,bs,hdct,sn,sub,ab,col,dd,k0,k1,k2,k3,k5,mN,_,hC,hN,hni,T⟩:=Afw I.ok.mod.kin q
 refine wpAny_Raise_call_subU (N:=N) (C:=C) (k5:=k5) (k3:=k3) (k2:=k2) (k1:=k1) (k0:=k0) (dd:=dd) (col:=col) (ab:=ab) (sub:=sub) (sn:=sn) (hdct:=hdct) (bs:=bs) (q:=qn) (nm:=nm) (newId:=nid) Fn hn FB (mN:=mN) (T.hasType FB.hasBase) (I.ok.hd hc) (by rw[he];show(false || (backTo cpos (starEach es X.env)).any (·.1))=false;rw[hpl];rfl) hni (Aac I hg hm ⟨rfl,?_⟩ hd)
 have h1:=ha cpos pins s σ H _ (I.wish _) h
 rw[he] at h1 ⊢
 refine Calls.evalArgs_plain (wpAny_mono h1 (fun us s2 z=>?_) fun _ _ z=>z.elim)
 obtain⟨vs,H1,I1,r,hl,hE⟩:=z
 have I2:Inv X pins σ H1 s2:=I1.JK
 exact⟨rfl,by rw[← r.length];exact hl,I2.bk _ _ hC,hN.keeps I2.bk,T.keeps I2.bk,fun h' ea hx=>hw _ _ (Ap1 hB I2 hx hE)⟩
end
abbrev cx1 (P:Program) (w:World) (K:PySem.W.Frag) (mg:Str→Option Value) (base:Heap) (N:List Str) (qual:Str) (scope:Scope) (f:Addr) (cd:Value) (A:Around) (outer:List Env) (s:Shared) (H:Hp) (E:XK):Cx :=
 (Ae4 (CX1 P w) P w K mg base N qual scope f cd A outer s H E).wish (FlX (Ae4 (CX1 P w) P w K mg base N qual scope f cd A outer s H E) E)
section
variable {P:Program}{w:World}{K:PySem.W.Frag}{mg:Str→Option Value}{base:Heap}
theorem Aam{N:List Str}{qual:Str}{scope:Scope}{f:Addr}{cd:Value}{A:Around}{outer:List Env}{s:Shared}{H:Hp}{E:XK}:Body (cx1 P w K mg base N qual scope f cd A outer s H E):=⟨rfl,rfl,rfl⟩
theorem Fun.okX{x qual:Str}{st:Stmt}{f:Addr}{fd:FuncData}{N ps:List Str}{k:Nat}{sp:Sp}(F:Fun K x qual st f fd)(S:Cm N ps (Ab st))(len:∀ vs H Q E,sp vs H Q E→vs.length=ps.length)
  (hbody:∀(cdv:Value) (A:Around) (outer:List Env) (s:Shared) (H:Hp) (vs:List V) (Q:VK) (E:XK),Mq k (A.deeper (envOfC qual (Ab st) s.heap.objs.size f cdv))→sp vs H Q E →
   ∃ t,PSs (cx1 P w K mg base N qual (Ab st) f cdv A outer s H E) (Aj st) t∧t { nx:=fun _ H'=>Q .non H',rt:=Q } (start N vs) H):Bp P w K mg base (CX1 P w) (k+1) f fd ps sp:=by
 obtain⟨oc,od,kV,doc,pm,an,cdv,ct,osl,rfl,lk,hcd⟩:=F.ex
 refine AjU lk hcd S len fun A outer s H vs Q E hr hsp=>?_
 obtain⟨t,h,q⟩:=hbody cdv A outer s H vs Q E hr hsp
 refine⟨t,fun pins s1 σ H1 D I h1=>?_,q⟩
 exact wpAny_mono (h pins s1 σ H1 D (I.wish _) h1) (fun _ _ z=>z.JK) fun e s' z=>leaveX (X:=Ae4 (CX1 P w) P w K mg base N qual (Ab st) f cdv A outer s H E) ⟨rfl,rfl,rfl⟩ I.ok.frames z
theorem Vp{N:List Str}{qual:Str}{scope:Scope}{f:Addr}{cd:Value}{A:Around}{outer:List Env}{s:Shared}{H:Hp}{E:XK} :
  Passes (CX1 P w) (cx1 P w K mg base N qual scope f cd A outer s H E) E:=fun _ _ _ _ _ _ I c=>Ap0 ⟨rfl,rfl,rfl⟩ I.JK c
end
def PEX (X:Cx)(e:Expr)(t:XK→TE):Prop:=∀(pins:List (Addr × Obj)) (s:Shared) (σ:St) (H:Hp) (Q:VK) (E:XK),Inv X pins σ H s→t E σ H Q →
 wpAny (model X.prog X.w) X.A (eval e X.env) (EP X pins σ Q) (fun ex s'=>∃ H1 s1,Inv X pins σ H1 s1∧CX1 X.prog X.w X.stack H1 s1 E ex s') s
section
variable {X:Cx}{k:Nat}{f C:Addr}{fd:FuncData}{ps:List Str}{sp:Sp}{dvs:List V}{ds:List Value}{x m:Str}{p pos apos:Pos}{e o:Expr}{es:List Expr}{ta:TE}{t:TA}
theorem AlX{pins:List (Addr × Obj)}{σ:St}{H:Hp}{s:Shared}{Q:VK}{E:XK}{us:List Value}{vs:List V}(F:Bp X.prog X.w X.K X.mg X.base (CX1 X.prog X.w) k f fd ps sp)(hr:Mq k X.A)(hb:Binds X.K fd ps ds)(hd:Vals dvs ds)
  (I:Inv X pins σ H s) (r:Vals vs us) (h:sp (vs++dvs) H Q E):wpAny (model X.prog X.w) X.A (call (.ref f) us) (EP X pins σ Q) (fun ex s'=>∃ H1 s1,Inv X pins σ H1 s1∧CX1 X.prog X.w X.stack H1 s1 E ex s') s:=by
 have r2:Vals (vs++dvs) (us++ds):=r.append hd
 have hl:(us++ds).length=ps.length:=(r2.length.symm).trans (F.len _ _ _ _ h)
 refine wpAny_call (codeAny_mono (F.run X.A X.stack s H ⟨us,[]⟩ (us++ds) (vs++dvs) Q E hr I.env0 (hb s us I.kIn hl) r2 h) fun rs s' hq=>?_)
 match rs,hq with
 | .error e,hq=>exact⟨H,s,I,hq⟩
 | .ok (.ret u),hq=>exact I.after hq
 | .ok .next,hq=>exact False.elim hq
 | .ok .brk,hq=>exact False.elim hq
 | .ok .cont,hq=>exact False.elim hq
theorem HN(F:Bp X.prog X.w X.K X.mg X.base (CX1 X.prog X.w) k f fd ps sp)(hr:Mq k X.A)(hg:Gl X x)(hm:X.mg x=some (.ref f))(hk:PySem.W.keepIn X.K (.ref f)=true)(hb:Binds X.K fd ps ds)(hd:Vals dvs ds)
  (ha:PA X.nox (e::es) t) (hdb:(x == ("__debug__" : Str))=false:=by decide) (he:starEach (e::es) X.env=(false,eval e X.env)::starEach es X.env:=by rfl) (hpl:(backTo pos (starEach es X.env)).any (·.1)=false:=by rfl) :
  PEX X (.Call (.Name x p) (e::es) [] pos) fun E=>Anf sp dvs E t:=by
 intro pins s σ H Q E I h
 refine wpAny_Call_Name_kw (Aac I hg hm ?_ hdb)
 refine PySem.W.callWith_K (h₀:=X.base) I.ok.mod.kin hk (wpAny_mono (ha pos pins s σ H _ (I.wish _) h) (fun us s1 ⟨vs,H1,I1,r,q⟩=>⟨I1.kIn,?_⟩) fun _ _ z=>z.elim) he hpl
 exact AlX F hr hb hd (I1.JK) r q
end
open PySem PySem.Spec PyProof.Rows
def exH (C a:Addr):HO:=.ext fun h=>∃ t tb,h.get? a=some (exO C t tb)
theorem JH.get{P:Program}{w:World}{H:Hp}{h:Heap}{a:Addr}{o:HO}(x:JH P w H h a o):∃ u,h.get? a=some u:=by
 induction o with
 | lst xs=>obtain⟨_,_,_,_,e⟩:=x;exact⟨_,e⟩
 | tup xs=>obtain⟨_,_,_,_,e,_⟩:=x;exact⟨_,e⟩
 | dK kvs=>obtain⟨_,_,_,_,_,_,_,e,_⟩:=x;exact⟨_,e⟩
 | dT kvs=>obtain⟨_,_,_,_,_,_,_,e,_⟩:=x;exact⟨_,e⟩
 | set S n=>obtain⟨_,_,_,_,e,_⟩:=x;exact⟨_,e⟩
 | ins C dx fs=>obtain⟨_,_,_,e,_⟩:=x;exact⟨_,e⟩
 | own y=>obtain⟨_,e⟩:=x;exact⟨_,e⟩
 | xd fs=>obtain⟨_,⟨_,_,_,e,_⟩,_⟩:=x;exact⟨_,e⟩
 | rng lo hi=>obtain⟨_,_,_,e⟩:=x;exact⟨_,e⟩
 | frz ob u ih=>obtain⟨e,_⟩:=x;exact⟨_,e⟩
 | tbl ps=>exact⟨_,x⟩
 | met f y=>exact⟨_,x⟩
 | ext φ=>exact x.2.1
section
variable {X:Cx}{pins:List (Addr × Obj)}{σ:St}{H H':Hp}{s s':Shared}{B h2:Heap}{ea C t:Addr}{fl:Value}
theorem Bk.none{P:Program}{w:World}{outer:List Env}{h h':Heap}(k:Bk P w outer H h H' B h')(ne:B.get? ea=Option.none):H' ea=Option.none:=by
 cases q:H' ea with
 | none=>rfl
 | some o =>
  obtain⟨u,e⟩:=(k.ok ea o q).get
  rw[ne] at e
  cases e
theorem Ais(I:Inv X pins σ H s)(os:s'.os=s.os)(bare:AllBare s'.gens)(bk:Bk X.prog X.w X.stack H s.heap H' B h2)(fx:Fx B X.stack ea C t fl h2) :
  Inv X pins σ (upd H' ea (exH C ea)) { s' with heap:=h2 }:=by
 have hn:=bk.none fx.ne
 obtain⟨T,oT,ts,hE,_⟩:=fx.ob
 have ne:∀ b o,s.heap.get? b=some o→b≠ea:=fun b o e z=>by
  by_cases hb:b∈frs X.stack
  ·obtain⟨_,o2,e2,n2⟩:=fx.fr.mem hb
   rw[z,hE] at e2
   cases e2
   exact n2 _ rfl
  ·obtain⟨o',e1⟩:=bk.there b o e hb
   rw[z,fx.ne] at e1
   cases e1
 have nt:∀ b u,H' b=some u→b≠ea:=fun b u e z=>by
  rw[z,hn] at e
  cases e
 obtain⟨hh,g,d,tk,os'⟩:=s'
 obtain rfl:os'=s.os:=os
 refine I.call (s:=s) (h':=h2) (g':=g) (d':=d) (t':=tk) (ch:=[]) ⟨fun b o e n hb _=>fx.st _ _ (bk.keep b o e n hb),fun b o e n hb _=>bk.slot b o e hb,fun b o e n _=>?_,fun b o e _=>?_,fun b xs e=>?_,fun b o u e=>?_,fun b ps e=>?_⟩ (fun b u e=>?_) bare (fun b z=>nomatch z)
 ·rw[Bh (ne b o e)]
  exact bk.free b o e n
 ·by_cases hb:b∈frs X.stack
  ·obtain⟨sl,e1⟩:=bk.slot b o e hb
   exact⟨_,e1⟩
  ·obtain⟨o',e1⟩:=bk.there b o e hb
   exact⟨o',fx.st _ _ e1⟩
 ·have e1:=bk.tups b xs e
  rw[Bh (nt _ _ e1)]
  exact e1
 ·have e1:=bk.Pg b o u e
  rw[Bh (nt _ _ e1)]
  exact e1
 ·obtain⟨m1,e1⟩:=bk.Rt b ps e
  exact⟨m1,by rw[Bh (nt _ _ e1)];exact e1⟩
 ·by_cases hb:b=ea
  ·subst hb
   rw[Ae] at e
   cases e
   exact⟨⟨t,_,hE⟩,⟨_,hE⟩,fun h1 h3 ⟨t',tb',q⟩ k=>⟨t',tb',k _ q⟩⟩
  ·rw[Bh hb] at e
   refine(bk.ok b u e).stay (fun c v _ q=>fx.st _ _ q) (fun c q=>?_) fun c xs q=>?_
   ·rw[Bh (nt _ _ q)];exact q
   ·rw[Bh (nt _ _ q)];exact q
abbrev Cx.hdl (X:Cx) (e:Addr):Cx:={ X with A:=X.A.mark (some (.ref e)),calm:=false,xe:=fun _ _=>False }
theorem Inv.hdl(I:Inv X pins σ H s)(e:Addr):Inv (X.hdl e) pins σ H s :=
 ⟨⟨I.ok.mod,I.ok.kind,I.ok.glob,I.ok.blt,I.ok.above,I.ok.inj,I.ok.has,I.ok.cab,(fun z=>nomatch z),I.ok.frames,I.ok.stk,I.ok.exf,I.ok.bs,I.ok.bsz,I.ok.Ae2,I.ok.Ae3,I.ok.Yp,I.ok.frf⟩,I.os,I.bare,I.base,I.loc,I.cell,I.free,I.Kw,I.pin,I.hok,I.len⟩
theorem Inv.Ap2{e:Addr}(hd:X.calm=true→X.A.handled=none)(I:Inv (X.hdl e) pins σ H s):Inv X pins σ H s :=
 ⟨⟨I.ok.mod,I.ok.kind,I.ok.glob,I.ok.blt,I.ok.above,I.ok.inj,I.ok.has,I.ok.cab,hd,I.ok.frames,I.ok.stk,I.ok.exf,I.ok.bs,I.ok.bsz,I.ok.Ae2,I.ok.Ae3,I.ok.Yp,I.ok.frf⟩,I.os,I.bare,I.base,I.loc,I.cell,I.free,I.Kw,I.pin,I.hok,I.len⟩
theorem Inv.forget{n:Str}{j:Nat}{m:Str→Option Value}{v:Option Value}{tk:Nat}{h':Heap}(I:Inv X pins σ H s)(hN:X.N.Nodup)(hj:X.N[j]?=some n)(hn:s.heap.Ns X.env.locals m)
  (hm:∀(i:Nat) (x:Str) (v:V),X.N[i]?=some x→σ[i]?=some (some v)→Vis X.env.scope x→∃ u,RelV v u∧Look X.env s.heap m x u) (hn':h'.Ns X.env.locals (fun x=>if x=n then v else m x)) (hs:Heap.SameBut X.env.locals s.heap h') :
  Inv X pins (σ.set j none) H { s with heap:=h',toks:=tk }:=by
 obtain⟨oL,_,_,hoL,_⟩:=id hn
 have neL:∀ b o,X.s₀.heap.get? b=some o→b≠X.env.locals:=fun b o e=>AsL (AsO (Heap.lt_size e) I.ok.above)
 refine⟨I.ok,I.os,I.bare,⟨fun b o e n hb hx=>?_,fun b o e n hb hx=>?_,I.base.free,fun b o e hx=>?_,I.base.tups,I.base.Pg,I.base.Rt⟩,⟨_,hn',fun i y w e1 e2 e3=>?_⟩,fun y c e=>?_,I.free,I.Kw,fun p hp=>?_,fun b u e=>?_,by rw[Aui];exact I.len⟩
 ·exact(hs.2 b (neL b o e)).trans (I.base.keep b o e n hb hx)
 ·obtain⟨sl,e1⟩:=I.base.slot b o e n hb hx
  exact⟨sl,(hs.2 b (neL b o e)).trans e1⟩
 ·obtain⟨o',e1⟩:=I.base.there b o e hx
  exact⟨o',(hs.2 b (neL b o e)).trans e1⟩
 ·by_cases hij:i=j
  ·subst hij
   rw[List.getElem?_set] at e2
   split at e2
   ·split at e2 <;> cases e2
   ·exact absurd rfl ‹_›
  ·rw[AtU (Ne.symm hij)] at e2
   obtain⟨u,r,l⟩:=hm i y w e1 e2 e3
   refine⟨u,r,?_⟩
   rcases l with ⟨k,z⟩ | ⟨k,c,z,y'⟩
   ·have:y≠n:=fun q=>hij (AcX hN e1 (q▸hj))
    exact .inl ⟨k,by simp[this,z]⟩
   ·exact .inr ⟨k,c,z,y'.sameBut hs (I.cne y c z)⟩
 ·obtain⟨v',z⟩:=I.cell y c e
  exact⟨v',z.sameBut hs (I.cne y c e)⟩
 ·obtain⟨e,n1,n2,nf,d⟩:=I.pin p hp
  exact⟨(hs.2 p.1 n2).trans e,n1,n2,nf,d⟩
 ·refine(I.hok b u e).stay (fun c w' hc q=>(hs.2 c ?_).trans q) (fun _ q=>q) fun _ _ q=>q
  rintro rfl
  rcases hc with z | z
  ·rw[← z,I.free] at e;cases e
  ·rw[I.free] at z;cases z
end
open PySem PySem.Spec PyProof.Rows
section
variable {M:Model}{A:Around}{E:Value→Shared→Prop}{h:Heap}{g:Array GenState}{d:Drawn}{t:Nat}{os:OsState}
theorem Ags{K:PySem.W.Frag}{C D e:Addr}{bC bD:List Value}{nC nD:String}{oe:Obj}{Q:Bool→Shared→Prop}(X:K.In h)(qC:PySem.W.excIn K C bC nC=true)(qD:PySem.W.excIn K D bD nD=true)
  (hb:bD.contains (.type "BaseException")=true) (he:h.get? e=some oe) (hc:oe.cls=.ref C) (hq:Q ((Ajk K C).contains (.ref D)) ⟨h,g,d,t,os⟩):wpAny M A (excMatches (.ref e) (.ref D)) Q E ⟨h,g,d,t,os⟩:=by
 obtain⟨bm1,_,_,_,_,_,_,_,_,_,_,_,_,_,_,_,_,e1,hC,_,_,T1⟩:=Afw X qC
 obtain⟨bm2,_,_,_,_,_,_,_,_,_,_,_,_,_,_,_,_,_,hD,_,_,T2⟩:=Afw X qD
 have hcB:(Value.ref D::bm2).contains (.type "BaseException")=true:=by rw[List.contains_cons,T2.hasType hb,Bool.or_true]
 have f:=tc_notTuple
 rw[e1] at hq
 unfold excMatches
 repeat (first | (with_reducible refine wpAny_loadPart_at he ?_;rw[hc]) | with_reducible refine wpAny_loadPart_at hD ?_ | (with_reducible refine wpAny_isSubtype_exc hD ?_;rw[hcB]) | with_reducible refine wpAny_isSubtype_exc hC ?_ | wp_step)
 all_goals (revert hq;cases (Value.ref C::bm1).contains (Value.ref D) <;> intro hq)
 all_goals (repeat (first | exact hq | wp_step))
end
abbrev WX (X:Cx) (pins:List (Addr × Obj)) (σ:St) (E:XK):Value→Shared→Prop:=fun ex s'=>∃ H1 s1,Inv X pins σ H1 s1∧CX1 X.prog X.w X.stack H1 s1 E ex s'
def PSX (X:Cx)(st:Stmt)(t:XK→TS):Prop:=∀(pins:List (Addr × Obj)) (s:Shared) (σ:St) (H:Hp) (D:Ends) (E:XK),Inv X pins σ H s→t E D σ H→wpAny (model X.prog X.w) X.A (exec st X.env) (SP X pins D) (WX X pins σ E) s
def AlY (X:Cx)(st:List Stmt)(t:XK→TS):Prop:=∀(pins:List (Addr × Obj)) (s:Shared) (σ:St) (H:Hp) (D:Ends) (E:XK),Inv X pins σ H s→t E D σ H→wpAny (model X.prog X.w) X.A (execs st X.env) (SP X pins D) (WX X pins σ E) s
section
variable {X:Cx}{e:Expr}{t u:XK→TS}{te:XK→TE}{pos:Pos}{st:Stmt}
theorem DG(h:PSX X st t):AlY X [st] t:=by
 intro pins s σ H D E I h1
 refine wpAny_execs_cons (thn (h pins s σ H D E I h1) fun f s1 q=>?_)
 match f,q with
 | .next,q=>exact wpAny_execs_nil q
 | .brk,q=>exact q
 | .cont,q=>exact q
 | .ret u,q=>exact q
theorem HQ(he:PEX X e te)(hs:swapsWith e none pos.line X.env=pure false:=by rfl):PSX X (.Expr e pos) fun E=>Anb (te E):=by
 intro pins s σ H D E I h
 exact wpAny_Expr_any (thn (he pins s σ H _ E I h) fun v s1 ⟨x,H1,I1,r1,q1⟩=>⟨σ,H1,I1,q1⟩) I.quiet hs
abbrev Ends.un (D:Ends) (j:Nat):Ends:={ nx:=fun σ H=>D.nx (σ.set j none) H,rt:=D.rt,bk:=fun σ H=>D.bk (σ.set j none) H,ct:=fun σ H=>D.ct (σ.set j none) H }
def Sub (K:PySem.W.Frag)(C D:Addr):Prop:=(∃ bm nid,PySem.W.excIn K C bm nid=true)∧(Ajk K C).contains (.ref D)=true
def AqO (K:PySem.W.Frag)(Ch:Addr)(j:Nat)(t:XK→TS)(ts:TS):TS:=fun D σ H=>t (fun c _ H'=>∃ C,c=.ref C∧Sub K C Ch∧∀ ea,H' ea=none→ts (D.un j) (σ.set j (some (.ref ea))) (upd H' ea (exH C ea))) D σ H
theorem Ah4{body suite:List Stmt}{b₀:Stmt}{ts:TS}{n x:Str}{j:Nat}{Ch:Addr}{bmB:List Value}{nid:String}{np hpos:Pos}(hB:Body X)(hc:X.calm=true)(hb:AlY X body t)(hN:X.N.Nodup)(hj:X.N[j]?=some n)
  (hn:X.env.scope.names.lookup n=some .local) (hg:Gl X x) (hm:X.mg x=some (.ref Ch)) (hq:PySem.W.excIn X.K Ch bmB nid=true) (hbs:bmB.contains (.type "BaseException")=true) (hs:∀ ea,PSs (X.hdl ea) (b₀::suite) ts)
  (hd:(x == ("__debug__" : Str))=false:=by decide) :
  PS X (.Try body [.ExceptHandler (some (.Name x np)) (some n) (b₀::suite) hpos] [] [] pos) (AqO X.K Ch j t ts):=by
 intro pins s σ H D I h
 refine wpAny_Try_except (wpAny_mono (hb pins s σ H D _ I h) (fun f s1 q=>?_) fun ex s1 z=>?_)
 ·match f,q with
  | .next,q=>exact wpAny_execs_nil q
  | .brk,q=>exact q
  | .cont,q=>exact q
  | .ret u,q=>exact q
 ·obtain⟨H1,s0,I0,ea,C,t0,H',B,rfl,fx,os,bare,bk,C',eC,⟨⟨bC,nC,qC⟩,sub⟩,ht⟩:=z
  obtain rfl:C=C':=by cases eC;rfl
  refine Akk hB I.ok.frames (.came fx) fun h1 x1 u1=>Afv (s:={ s1 with heap:=h1 }) x1 fun h2 x2 u2=>?_
  have bk2:=(bk.slots fx.fr u1).slots x1.fr u2
  have I2:Inv X pins σ (upd H' ea (exH C ea)) { s1 with heap:=h2 }:=Ais I0 os bare bk2 x2
  refine wpAny_handleBy_cons (codeAny_handlers_test (Aac (X:=X.hdl ea) (I2.hdl ea) hg hm ?_ hd)) (by intro q;cases q)
  obtain⟨T,oT,tt,hE,_⟩:=x2.ob
  refine Ags I2.kIn qC hq hbs hE rfl ?_
  rw[sub]
  refine codeAny_handlers_suite_as ?_
  refine Afv (s:={ s1 with heap:=h2 }) x2 fun h3 x3 u3=>?_
  have I3:Inv X pins σ (upd H' ea (exH C ea)) { s1 with heap:=h3 }:=Ais I0 os bare (bk2.slots x2.fr u3) x3
  refine AcY (X:=X.hdl ea) (I3.hdl ea) hN hj (.inl hn) (v:=.ref ea) rfl (fun s4 I4=>?_) (.inr hn)
  refine wpAny_mono (hs ea pins s4 _ _ _ I4 (ht ea (bk.none fx.ne))) (fun f s5 q=>?_) fun _ _ z=>z.elim
  have go:∀{σ':St} {H5:Hp} {Q:Unit→Shared→Prop},Inv (X.hdl ea) pins σ' H5 s5→(∀ s6,Inv X pins (σ'.set j none) H5 s6→Q () s6)→wpAny (model X.prog X.w) X.A (do bindName X.env n .none;unbindBehindTheSuite X.env n hpos) Q X.xe s5:=fun {σ' H5 Q} J k=>by
   have J':Inv X pins σ' H5 s5:=J.Ap2 I.ok.hd
   obtain⟨m,hns,hl⟩:=id J'.loc
   refine wpAny_nameGoes_keeps hn hns (by rw[I.ok.kind];rfl) fun h6 v hn6 hs6=>k _ ?_
   exact J'.forget hN hj hns hl hn6 hs6
  match f,q with
  | .next,⟨σ',H5,J,q⟩=>exact go J fun s6 J6=>⟨_,H5,J6,q⟩
  | .brk,⟨σ',H5,J,q⟩=>exact go J fun s6 J6=>⟨_,H5,J6,q⟩
  | .cont,⟨σ',H5,J,q⟩=>exact go J fun s6 J6=>⟨_,H5,J6,q⟩
  | .ret u,⟨v,σ',H5,J,r,q⟩=>exact go J fun s6 J6=>⟨v,_,H5,J6,r,q⟩
end
open PySem PySem.Spec PyProof.Rows
structure ExC (K:PySem.W.Frag) (C:Addr):Prop where
 ga:PySem.W.findIn K (.ref C) "__getattribute__" = some (some (.builtin "BaseException.__getattribute__"))
 gt:PySem.W.findIn K (.ref C) "__getattr__" = some none
 cl:PySem.W.findIn K (.ref C) "__class__" = some (some (.builtin "object.__class__"))
 gc:PySem.W.specialIn K (.builtin "object.__class__") "__get__" = some (some (.builtin "getset_descriptor.__get__"))
 tk:PySem.W.takesIn K (.builtin "object.__class__")=some true
 ob:PySem.W.mroIn K C (.type "object")=some true
 be:PySem.W.mroIn K C (.type "BaseException")=some true
 is:(PySem.W.clsIn K C).isSome=true
theorem Ajl:(Manifest.canonical "BaseException.__getattribute__" != "object.__getattribute__")=false:=by decide +kernel
section
variable {prog:Program}{w:World}{A:Around}{E:Value→Shared→Prop}{s:Shared}{K:PySem.W.Frag}{x C t:Addr}{tb:Value}
theorem Afx{h:Heap}(hx:h.get? x=some (exO C t tb)):PySem.W.InstAt h x (exO C t tb) C none:=⟨hx,rfl,rfl,True.intro⟩
theorem AlZ{m:Str}{f:Addr}{pl:Sem Bool}{Q:Value × List Value→Shared→Prop}(X:K.In s.heap)(hx:s.heap.get? x=some (exO C t tb))(c:ExC K C)(hf:PySem.W.findIn K (.ref C) m=some (some (.ref f)))
  (ht:PySem.W.isFn K (.ref f)=true) (h:Q (.ref f,[.ref x]) s):wpAny (model prog w) A (getMethod (.ref x) m pl) Q E s:=by
 have I:=Afx hx
 have hty:PySem.W.typeIn K (.ref f)=some (.type "function"):=beq_iff_eq.mp ht
 unfold getMethod specialOf
 refine wpAny_bind (wpAny_bind (I.type.here ((PySem.W.looks_findIn X c.ga).here ?_)))
 dsimp only
 rw[Ajl,if_neg AsT]
 refine wpAny_bind (wpAny_bind (I.type.here ((PySem.W.looks_findIn X c.gt).here ?_)))
 refine wpAny_bind (wpAny_bind (I.type.here ((PySem.W.looks_findIn X hf).here (wpAny_bind ((PySem.W.looks_typeIn X hty).here ?_)))))
 rw[if_neg (by decide +kernel)]
 refine wpAny_bind (wpAny_loadPart hx ?_)
 exact wpAny_bind (wpAny_rule (wpAny_pure h))
theorem Akl{Q:Option Value→Shared→Prop}(X:K.In s.heap)(hx:s.heap.get? x=some (exO C t tb))(c:ExC K C)(h:Q (some (.ref C)) { s with toks:=s.toks+1 }):wpAny (model prog w) A (getAttr? (.ref x) "__class__") Q E s:=by
 have I:=Afx hx
 obtain⟨hh,g,d,tk,os⟩:=s
 have L0:PySem.W.Looks (model prog w) hh (typeOf (.ref x)) (.ref C):=I.type
 have L1:=PySem.W.looks_findIn (M:=model prog w) X c.ga
 have L2:=PySem.W.looks_findIn (M:=model prog w) X c.gt
 have hfo:PySem.W.findObj K C none "__class__" = some (.bind (.builtin "getset_descriptor.__get__") (.builtin "object.__class__")):=by
  obtain⟨cd,hc⟩:=Option.isSome_iff_exists.mp c.is
  unfold PySem.W.findObj
  rw[hc,Option.bind_some,c.cl,Option.bind_some]
  simp[c.gc,c.tk]
 have L3:=PySem.W.looks_find (M:=model prog w) X I hfo
 have L4:PySem.W.Looks (model prog w) hh (isInstance (.ref x) (.type "BaseException")) true:=L0.andThen (PySem.W.looks_mroIn X c.be)
 have f3:=F.excAttr_ValueError.ga.bind (.ref x)
 unfold getAttr? getAttrBy? getAttrBy
 refine wpAny_bind (wpAny_mkText (wpAny_bind (wpAny_attempt (wpAny_holding (wpAny_bind (L0.at (wpAny_bind (L1.at ?_))))))))
 show wpAny _ _ (getAttrByItsOwn _ _ _ _ _ _) _ _ _
 unfold getAttrByItsOwn hookBefore
 rw[if_pos (show onTheHeap (Value.ref C)=true from rfl)]
 refine wpAny_bind (L2.at (wpAny_bind (wpAny_attempt (wpAny_holding ?_))))
 unfold callGetattribute
 rw[if_neg (show ¬((false && onTheHeap (Value.builtin "BaseException.__getattribute__"))=true) by simp)]
 unfold boundAndCalled
 rw[f3]
 refine wpAny_bind (wpAny_pure (wpAny_call (codeAny_call_builtin F.excAttr_ValueError.ga.plain F.entry_bexc_ga ?_)))
 have hk:builtinKind "BaseException.__getattribute__" = some .slot:=by decide +kernel
 have hsp:splitId "BaseException.__getattribute__" = some ("BaseException", "__getattribute__"):=by decide +kernel
 have ha:=F.args_bexc_ga (.ref x) (.str "__class__" tk)
 simp only [checkBuiltinCall,hk,hsp]
 refine wpAny_bind (L4.at ?_)
 repeat (first | (with_reducible refine wpAny_bind (L0.at (wpAny_bind (L3.at ?_)))) | wp_step)
 refine PySem.W.class_get (s:=⟨hh,g,d,tk+1,os⟩) (ox:=exO C t tb) (od:=none) X I c.ob ?_
 exact wpAny_pure (PySem.W.handed_on rfl (wpAny_pure h))
theorem Adm(c:ExC K C):PySem.W.KitX K (.ref x) (.ref C) (fun h=>∃ t tb,h.get? x=some (exO C t tb)) where
 ty:=fun M h _ ⟨t,tb,e⟩=>(Afx e).type
 it:=fun M h X _=>by
  obtain⟨cd,hc⟩:=Option.isSome_iff_exists.mp c.is
  unfold PySem.W.clsIn at hc
  split at hc
  next ho =>
   intro A' Q' E' s' k q
   unfold isType loadHead
   exact wpAny_bind (wpAny_loadPart (k _ _ (X _ _ ho)) (wpAny_pure q))
  next=>cases hc
 ne:=fun h tp dd its n sl X htp=>by
  obtain⟨cd,hc⟩:=Option.isSome_iff_exists.mp c.is
  refine Bool.eq_false_iff.mpr fun q=>?_
  have e:C=tp:=Value.ref.inj (beq_iff_eq.mp q)
  subst e
  unfold PySem.W.clsIn at hc
  split at hc
  next ho=>cases (X _ _ ho).symm.trans htp
  next=>cases hc
 ca:=fun X ⟨t,tb,e⟩ k=>Akl X e c k
end
def AqP (K:PySem.W.Frag):List V→Hp→VK→Prop:=fun vs H Q=>∃ a C b,H a=some (exH C a)∧ExC K C ∧
 ((∃ n,vs=[.ref a,.ty n]∧PySem.W.kitOne K (.ref C) (.type n)=some b)∨(∃ D,vs=[.ref a,.ref D]∧PySem.W.kitOne K (.ref C) (.ref D)=some b))∧Q (.bl b) H
section
variable {X:Cx}{K:PySem.W.Frag}
theorem Ait{pins:List (Addr × Obj)}{σ:St}{H:Hp}{s:Shared}{a C:Addr}(I:Inv X pins σ H s)(e:H a=some (exH C a)):∃ t tb,s.heap.get? a=some (exO C t tb):=(I.hok a _ e).1
theorem Gr(hK:X.K=K:=by rfl):JB X (.builtin "isinstance") (AqP K):=by
 subst hK
 intro pins s σ H xs us Q I rv h
 obtain⟨a,C,b,ea,c,hv,q⟩:=h
 rcases hv with ⟨n,rfl,e⟩ | ⟨D,rfl,e⟩
 ·obtain⟨u1,u2,rfl,r1,r2⟩:=rv.two
  cases r1
  cases r2
  exact PySem.W.kia_one (Adm c) I.kIn (Ait I ea) e (fun z=>nomatch z) fun tk=>⟨.bl b,H,I.tok _,rfl,q⟩
 ·obtain⟨u1,u2,rfl,r1,r2⟩:=rv.two
  cases r1
  cases r2
  exact PySem.W.kia_one (Adm c) I.kIn (Ait I ea) e (fun z=>nomatch z) fun tk=>⟨.bl b,H,I.tok _,rfl,q⟩
variable {CX:CXT}{k:Nat}{ps:List Str}{sp:Addr→Sp}{E:XK}{m:Str}{pos apos:Pos}{o:Expr}{ta:TE}
def AqQ (K:PySem.W.Frag)(m:Str)(sp:Addr→Sp)(E:XK)(ta:TE):TE:=fun σ H Q=>ta σ H fun x H1=>∃ a C,x=.ref a∧H1 a=some (exH C a)∧sp C [x] H1 Q E
end
open PySem PySem.Spec PyProof.Rows
abbrev vE:List Value:=[.type "ValueError", .type "Exception", .type "BaseException", .type "object"]
abbrev vN:String := "ValueError.__new__"
structure Exn (K:PySem.W.Frag) (C:Addr):Prop where
 q:PySem.W.excIn K C vE vN=true
 c:ExC K C
 ty:PySem.W.typeIn K (.ref C)=some (.type "type")
 ve:PySem.W.mroIn K C (.type "ValueError")=some true
theorem JP{K:PySem.W.Frag}{C:Addr}(q:PySem.W.excIn K C vE vN=true)(ga:PySem.W.findIn K (.ref C) "__getattribute__" = some (some (.builtin "BaseException.__getattribute__"))) (gt:PySem.W.findIn K (.ref C) "__getattr__" = some none)
  (cl:PySem.W.findIn K (.ref C) "__class__" = some (some (.builtin "object.__class__"))) (gc:PySem.W.specialIn K (.builtin "object.__class__") "__get__" = some (some (.builtin "getset_descriptor.__get__"))) (tk:PySem.W.takesIn K (.builtin "object.__class__")=some true)
  (ob:PySem.W.mroIn K C (.type "object")=some true) (be:PySem.W.mroIn K C (.type "BaseException")=some true) (is:PySem.W.isClsIn K C=true) (ty:PySem.W.typeIn K (.ref C)=some (.type "type")) (ve:PySem.W.mroIn K C (.type "ValueError")=some true):Exn K C :=
 ⟨q,⟨ga,gt,cl,gc,tk,ob,be,is⟩,ty,ve⟩
theorem Adn:vE.contains (.type "BaseException")=true:=by decide
theorem Abw:vE.contains (.type "ValueError")=true:=by decide
theorem Exn.sub{K:PySem.W.Frag}{C D:Addr}(x:Exn K C)(r:PySem.W.mroIn K C (.ref D)=some true):Sub K C D:=by
 refine⟨⟨_,_,x.q⟩,?_⟩
 obtain⟨cd,h1,h2⟩:=Option.bind_eq_some_iff.mp r
 unfold PySem.W.clsIn at h1
 unfold Ajk
 split at h1
 next c d cd' sl ho =>
  cases h1
  rw[ho]
  split at h2
  ·cases h2
  ·exact Option.some.inj h2
 next=>cases h1
theorem Dl{K:PySem.W.Frag}{C D:Addr}{b:Bool}(hC:PySem.W.mroIn K C (.ref C)=some true)(x:Exn K D)(r:PySem.W.mroIn K C (.ref D)=some b):PySem.W.kitOne K (.ref C) (.ref D)=some b:=by
 unfold PySem.W.kitOne
 by_cases q:(Value.ref C == Value.ref D)=true
 ·rw[if_pos q]
  have e:C=D:=Value.ref.inj (beq_iff_eq.mp q)
  subst e
  rw[hC] at r
  exact r
 ·rw[if_neg q]
  unfold PySem.W.kitCls
  have h:((PySem.W.clsIn K D).isSome && PySem.W.typeIn K (.ref D) == some (.type "type"))=true:=by rw[x.c.is,x.ty];rfl
  show(if _ then _ else _)=_
  rw[if_pos h]
  exact r
theorem Akm{K:PySem.W.Frag}{C:Addr}(x:Exn K C):PySem.W.kitOne K (.ref C) (.type "ValueError")=some true:=by
 unfold PySem.W.kitOne
 rw[if_neg (by simp)]
 unfold PySem.W.kitCls
 show(if _ then _ else _)=_
 rw[if_pos (by decide +kernel)]
 exact x.ve
section
variable {X:Cx}{CX:CXT}{k:Nat}{C f:Addr}{fd:FuncData}{ps:List Str}{sp:Sp}{E:XK}{m:Str}{pos apos:Pos}{o:Expr}{ta:TE}
def AnV (C:Addr)(sp:Sp)(E:XK)(ta:TE):TE:=fun σ H Q=>ta σ H fun x H1=>∃ a,x=.ref a∧H1 a=some (exH C a)∧sp [x] H1 Q E
theorem Ado{pl:Sem Bool}(he:PE X o ta)(c:ExC X.K C)(hm:Meth X.K C m f)(F:Bp X.prog X.w X.K X.mg X.base CX k f fd ps sp)(hr:Mq k X.A)(hb:Binds X.K fd ps [])(hx:Passes CX X E)
  (ht:eval (.Call (.Attribute o m apos) [] [] pos) X.env=(do
   let ov ← eval o X.env
   standAt apos.atName
   let (f,first) ← holding [ov] (getMethod ov m pl)
   callWith pos f first (backTo pos (starEach [] X.env)) (backToKw pos (keywordEach [] X.env))):=by rfl) :
  PE X (.Call (.Attribute o m apos) [] [] pos) (AnV C sp E ta):=by
 intro pins s σ H Q I h
 refine PySem.W.methodCall_KW (pl:=pl) (thn (he pins s σ H _ I h) fun u s1 ⟨x,H1,I1,rx,a,ex,ea,q⟩=>?_) ht
 subst ex
 obtain rfl:u=Value.ref a:=rx
 obtain⟨t,tb,e1⟩:=Ait I1 ea
 refine AlZ I1.kIn e1 c hm.at_ hm.fn ?_
 exact PySem.W.callWith_K0 (first:=[.ref a]) I1.kIn hm.kp (AjT (us:=[.ref a]) (vs:=[.ref a]) (dvs:=[]) F hr hb .nil hx I1 (.cons rfl .nil) q)
end
def Io (s:Stmt):List Stmt:=match s with
 | .ClassDef _ _ _ b _ _ _ _ _ _ _=>b
 | _=>[]
structure Mf (K:PySem.W.Frag) (x q:Str) (st:Stmt) (ps:List Str) (C f:Addr) (fd:FuncData):Prop where
 F:Fun K x q st f fd
 m:Meth K C x f
 b:Binds K fd ps []
theorem QR:bootBuiltins "ValueError" = some (.type "ValueError"):=by decide +kernel
open PySem PySem.Spec PyProof.Rows
open Builtin Builtin.Str
def Afy (u:List Nat)(lo hi:Option Int):List Nat:=(u.drop (HT.sIx u.length 0 lo)).take (HT.sIx u.length u.length hi-HT.sIx u.length 0 lo)
theorem AnW(a b:Nat):sliceRange (a:Int) (b:Int) 1=(List.range (b-a)).map fun k=>a+k:=by
 unfold sliceRange
 simp only [show(1:Int)>0 by decide,if_true]
 by_cases h:(a:Int)<(b:Int)
 ·rw[if_pos h,Int.ediv_one,show(b:Int)-(a:Int)+1-1=((b-a:Nat):Int) by omega,Ate]
  exact AtG fun k _=>by omega
 ·rw[if_neg h,show b-a=0 by omega]
  rfl
theorem Xp(n d:Nat)(i:Int):max 0 (min (if i<0 then i+(n:Int) else i) (n:Int))=(HT.sIx n d (some i):Int):=by
 show _=(((if i<0 then (i+(n:Int)).toNat else min i.toNat n):Nat):Int)
 by_cases h:i<0
 ·rw[if_pos h,if_pos h];omega
 ·rw[if_neg h,if_neg h];omega
theorem idx_eq(n:Nat)(lo hi:Option Int):strSliceIndices lo hi 1 n=(List.range (HT.sIx n n hi-HT.sIx n 0 lo)).map fun k=>HT.sIx n 0 lo+k:=by
 rw[← AnW]
 cases lo with
 | none =>
  cases hi with
  | none=>rfl
  | some j=>rw[← Xp];rfl
 | some i =>
  cases hi with
  | none=>rw[← Xp n 0 i];rfl
  | some j=>rw[← Xp n 0 i,← Xp n n j];rfl
theorem Akn(u:List Nat)(lo hi:Option Int):Txt.slice (tx u) lo hi=tx (Afy u lo hi):=by
 unfold Txt.slice Afy
 rw[Ei,idx_eq]
 have hle:HT.sIx u.length u.length hi≤u.length:=HT.AnF _ _ (AsI _) _
 have key:∀(a k:Nat),a+k≤u.length→((List.range k).map fun j=>a+j).filterMap (fun i=>(tx u).cps[i]?)=(u.drop a).take k:=by
  intro a k
  induction k with
  | zero=>intro _;simp
  | succ k ih =>
   intro h
   rw[At0,AsP,List.filterMap_append,ih (by omega)]
   have:a+k<u.length:=by omega
   simp only [AsY,At3,AtI,List.filterMap_nil,Afr,AsJ this]
   rw[List.take_succ,Aun,AsJ this]
   rfl
 split
 next h =>
  simp only [AsH,AsQ,Aty,beq_iff_eq] at h
  have h2:=h.2
  have:HT.sIx u.length 0 lo=0∨u.length=0:=by omega
  rcases this with e | e
  ·rw[e,AtX,Atc (by omega)]
  ·rw[AuA e];simp
 next h =>
  by_cases hlt:HT.sIx u.length 0 lo≤HT.sIx u.length u.length hi
  ·show(Str.mk _)=_
   rw[key _ _ (by omega)]
   rfl
  ·have e:HT.sIx u.length u.length hi-HT.sIx u.length 0 lo=0:=by omega
   rw[e]
   simp[tx]
section
variable {X:Cx}
theorem Afz:SlR X (fun x lo hi H Q=>∃ u:List Nat,x=.str (tx u)∧u.length≤sizeLine∧Q (.str (tx (Afy u lo hi))) H):=by
 intro pins s σ H x v vl vu lo hi sl Q I rx hs pl pu h
 obtain⟨u,rfl,hz,q⟩:=h
 obtain⟨t,rfl⟩:=rx
 rw[← Akn] at q
 refine⟨"str", _,F.slot_str_getitem.lookup,typeIs_str _ _ _,?_⟩
 have hsz:(tx u).length≤sizeLine:=by rw[Ei];exact hz
 obtain⟨os,hos,hcs,hds⟩:=id hs
 have fin:∀(l u':Option (Int × Tok)),s.heap.IsSlice sl l u' none→Q (.str (Txt.slice (tx u) (l.map (·.1)) (u'.map (·.1)))) H→wpAny (model X.prog X.w) X.A (getItem (.str (tx u) t) (.ref sl)) (EP X pins σ Q) X.xe s:=fun l u' z q' =>
  wpAny_getItem_str_slice z rfl (post_val_or_str ⟨AsX (Txt.slice_le (tx u) _ _) hsz,fun t' k=>⟨.str _,H,I.tok _,⟨t',rfl⟩,q'⟩⟩)
 cases pl with
 | none=>cases pu with
  | none=>exact fin none none ⟨os,hos,hcs,hds⟩ q
  | int j tj=>exact fin none (some (j,tj)) ⟨os,hos,hcs,hds⟩ q
 | int i ti=>cases pu with
  | none=>exact fin (some (i,ti)) none ⟨os,hos,hcs,hds⟩ q
  | int j tj=>exact fin (some (i,ti)) (some (j,tj)) ⟨os,hos,hcs,hds⟩ q
end
open PySem PySem.Spec PyProof.Rows
theorem Adp:∀(xs:List V) (us:List Value),xs.length=us.length→(∀(i:Nat) x u,xs[i]?=some x→us[i]?=some u→RelV x u)→Vals xs us
 | [],[],_,_=>.nil
 | [],_::_,h,_=>by simp at h
 | _::_,[],h,_=>by simp at h
 | x::xs,u::us,h,p=>.cons (p 0 x u rfl rfl) (Adp xs us (by simpa using h) fun i y v e1 e2=>p (i+1) y v e1 e2)
def Abx (p:Addr)(a b c:Int):HO:=.ext fun h=>∃ t u v,IsRange h p a b c t u v
def RQ (a c:Int)(n:Nat):List Int:=(List.range n).map fun(i:Nat)=>a+(i:Int)*c
section
variable {X:Cx}{K:PySem.W.Frag}
theorem Agt{pins:List (Addr × Obj)}{σ:St}{H:Hp}{s:Shared}{a b c:Int}{t u v:Tok}{Q:VK}{tk:Nat}(I:Inv X pins σ H s)(q:∀ p,H p=none→Q (.ref p) (upd H p (Abx p a b c))) :
  EP X pins σ Q (.ref s.heap.objs.size) { s with heap:=s.heap.push { cls:=.type "range", data:=.fields #[.int a t,.int b u,.int c v] },toks:=tk }:=by
 have hg:(s.heap.push { cls:=.type "range", data:=.fields #[.int a t,.int b u,.int c v] }).get? s.heap.objs.size=some { cls:=.type "range", data:=.fields #[.int a t,.int b u,.int c v] }:=Heap.get?_push_size _ rfl
 refine⟨.ref s.heap.objs.size,_,I.laid (o:=Abx s.heap.objs.size a b c) (fun b o e=>Heap.get?_push_of_some _ e) (AsI _) ?_,rfl,q _ (I.hok.fresh (AsI _))⟩
 exact⟨⟨t,u,v,hg⟩,⟨_,hg⟩,fun h1 h2 y k=>by
  obtain⟨t',u',v',y⟩:=y
  exact⟨t',u',v',k _ y⟩⟩
theorem Ajm:JB X (.type "range") (fun xs H Q=>∃ a b,xs=[.int a,.int b]∧∀ p,H p=none→Q (.ref p) (upd H p (Abx p a b 1))):=by
 intro pins s σ H xs us Q I rv h
 obtain⟨a,b,rfl,q⟩:=h
 obtain⟨u1,u2,rfl,r1,r2⟩:=rv.two
 obtain⟨t,rfl⟩:=r1
 obtain⟨t',rfl⟩:=r2
 exact call_range_2 (Agt I q)
theorem Ah5(hc:X.calm=true:=by rfl):JB X (.type "list") (fun xs H Q=>∃(p:Addr) (a b c:Int) (n:Nat),xs=[.ref p]∧H p=some (Abx p a b c)∧Builtin.Range.small a b c=true∧Builtin.Range.rangeSize a b c=n∧n≤1000 ∧
  ∀ l,H l=none→Q (.ref l) (upd H l (.lst (vI (RQ a c n))))):=by
 intro pins s σ H xs us Q I rv h
 obtain⟨p,a,b,c,n,rfl,hp,hs,hn,hz,q⟩:=h
 obtain⟨u,rfl,ru⟩:=rv.one
 cases ru
 obtain⟨⟨t,u,v,hr⟩,_,_⟩:=I.hok p _ hp
 refine call_list_range (I.ok.hd hc) hr hs hn (AsX hz (by decide)) fun h' tk acc c' hk hl hi=>?_
 refine⟨.ref s.heap.objs.size,_,I.laid (t':=tk) (o:=.lst (vI (RQ a c n))) hk (AsI _) ?_,rfl,q _ (I.hok.fresh (AsI _))⟩
 have hlen:(vI (RQ a c n)).length=n:=by rw[Bs];unfold RQ;rw[AsH,AsQ]
 refine⟨by rw[hlen];exact Atx (Ajg hz),acc.toList,c',?_,hl⟩
 refine Adp _ _ (by rw[hlen,Array.length_toList,hi.1]) fun i x u e1 e2=>?_
 obtain⟨z,hz1,rfl⟩:=Nx e1
 obtain⟨t',rfl⟩:=hi.2 i u (by rw[← Array.getElem?_toList];exact e2)
 have hin:i<n:=by
  have:=(List.getElem?_eq_some_iff.mp e1).1
  rwa [hlen] at this
 unfold RQ at hz1
 rw[AsU,AtK hin] at hz1
 cases hz1
 exact⟨t',rfl⟩
theorem Aby(hK:X.K=K:=by rfl)(hc:X.calm=true:=by rfl):JB X (.builtin "sum") (fun xs H Q=>∃ a ns,xs=[.ref a]∧SqL K H a (vI ns)∧Q (.int ns.sum) H):=by
 subst hK
 intro pins s σ H xs us Q I rv h
 obtain⟨a,ns,rfl,hq,q⟩:=h
 obtain⟨u,rfl,ru⟩:=rv.one
 cases ru
 obtain⟨its,r,pl,hl⟩:=I.list hq
 have hi:IntsAre its ns:=intsAre_of r
 obtain⟨xs,hx⟩:=hi.allInts.items
 have hL:s.heap.IsList a (intItems xs):=by rw[← hx];exact pl.isList
 refine sum_intListG (I.ok.hd hc) hL fun h' tk t' hk=>?_
 have e1:xs.toList.map (·.1)=ns:=by
  have z:numsOf its.toArray.toList=ns:=hi.numsOf
  rw[hx,nums_intItems] at z
  exact z
 rw[show preSum (numAt xs) xs.size=ns.sum by rw[preSum_eq,Atc (by simp),e1]]
 exact⟨.int ns.sum,H,I.kept hk,⟨t',rfl⟩,q⟩
end
open PySem PySem.Spec PyProof.Rows
section
variable {X:Cx}{tg:Expr}
def AqR (ta:TA):TI:=fun σ H R=>ta σ H fun vs H1=>∃ i j:Int,vs=[.int i,.int j]∧R (Itr i (j-i).toNat) H1
end
section
variable {X:Cx}
theorem Agu(l:List Nat):∀(k:Nat) (acc:List Nat),List.foldl (fun x1 x2=>x1++x2) acc.toArray (List.replicate k l.toArray)=(acc++(List.replicate k l).flatten).toArray
 | 0,acc=>by simp
 | k+1,acc=>by
  have e:acc.toArray++l.toArray=(acc++l).toArray:=by simp
  have e2:(acc++l)++(List.replicate k l).flatten=acc++(List.replicate (k+1) l).flatten:=by
   rw[At4,Ath,Atv]
  rw[← e2,← Agu l k (acc++l),← e,At4,Auj]
def Ap3:R2:=fun x y H Q=>∃ u n,x=.str (tx u)∧y=.int n∧0≤n∧n≤1000000∧u.length*n.toNat≤sizeLine∧Q (.str (tx (List.replicate n.toNat u).flatten)) H
theorem Ama:OpR X (binaryOp .Mult) Ap3:=by
 intro pins s σ H x y v z Q I rx ry h
 obtain⟨u,n,rfl,rfl,h0,h1,h2,q⟩:=h
 obtain⟨t,rfl⟩:=rx
 obtain⟨t',rfl⟩:=ry
 have hsz:sizeLine=16777216:=sizeLine_eq
 have hlen:(tx u).length=u.length:=Ei u
 refine P.mul_str ?_ (fun c1 c2=>?_) (fun c1 c2=>?_) ?_
 ·rw[decide_eq_false (by omega),decide_eq_false (by omega)]
  rfl
 ·rw[hlen]
  have hn:0<n:=by omega
  have hm:(u.length:Int)*n≤16777216:=by
   have e:n=(n.toNat:Int):=by omega
   rw[e,← AtL]
   omega
  have:(u.length:Int)≤(2 ^ 63-1) / n:=(Int.le_ediv_iff_mul_le hn).mpr (by omega)
  omega
 ·rw[hlen]
  exact decide_eq_false (by omega)
 ·split
  ·next c =>
   have e:n=0:=by omega
   rw[e] at q
   exact⟨by decide,.str (tx []),H,I.tok _,⟨_,rfl⟩,q⟩
  ·split
   ·next c =>
    have e:tx (List.replicate n.toNat u).flatten=tx u:=by
     simp only [Bool.or_eq_true,beq_iff_eq] at c
     rcases c with c | c
     ·rw[c];simp
     ·rw[hlen] at c
      rw[AuA c]
      simp
    rw[e] at q
    exact⟨.str (tx u),H,I,⟨_,rfl⟩,q⟩
   ·have hf:(⟨(List.replicate n.toNat (tx u).cps).foldl (·++·) #[]⟩:Str)=tx (List.replicate n.toNat u).flatten:=by
     have:=Agu u n.toNat []
     simp only [AtE] at this
     exact congrArg Str.mk this
    rw[hf]
    refine⟨?_,.str (tx (List.replicate n.toNat u).flatten),H,I.tok _,⟨_,rfl⟩,q⟩
    rw[Ei,len_rep,Nat.mul_comm]
    exact h2
theorem Af0(x:Str)(c limit:Nat):∀(k i:Nat) (acc:Array Nat) (free:Nat),free≤i→acc.size+k≤limit →
  (forIn (List.range' i k) (acc,free) (StrLaws.occBody x ⟨#[c]⟩ x.length limit)).run.fst.size=acc.size+((x.cps.toList.drop i).take k).count c
 | 0,i,acc,free,_,_=>by simp
 | k+1,i,acc,free,hf,hl=>by
  rw[List.range'_succ,Aum]
  by_cases hc:x.cps.toList[i]?=some c
  ·have h1:=(StrLaws.subAt_one x c i).mpr hc
   have e:StrLaws.occBody x ⟨#[c]⟩ x.length limit i (acc,free)=pure (ForInStep.yield (acc.push i,i+(⟨#[c]⟩:Str).length)):=by
    unfold StrLaws.occBody
    rw[if_pos ⟨⟨⟨by show acc.size<limit;omega,hf⟩,h1.1⟩,h1.2⟩]
   rw[e]
   have ih:=Af0 x c limit k (i+1) (acc.push i) (i+(⟨#[c]⟩:Str).length) (AsI _) (by rw[Array.size_push];omega)
   have hd:x.cps.toList.drop i=c::x.cps.toList.drop (i+1):=by
    obtain⟨hlt,he⟩:=List.getElem?_eq_some_iff.mp hc
    rw[List.drop_eq_getElem_cons hlt,he]
   rw[hd,List.take_succ_cons,List.count_cons_self]
   rw[Array.size_push] at ih
   refine Eq.trans ih ?_
   omega
  ·have h1:¬(i+(⟨#[c]⟩:Str).length≤x.length∧Builtin.Str.subAt x ⟨#[c]⟩ i=true):=fun z=>hc ((StrLaws.subAt_one x c i).mp z)
   have e:StrLaws.occBody x ⟨#[c]⟩ x.length limit i (acc,free)=pure (ForInStep.yield (acc,free)):=by
    unfold StrLaws.occBody
    rw[if_neg fun z=>h1 ⟨z.1.2,z.2⟩]
   rw[e]
   have ih:=Af0 x c limit k (i+1) acc free (by omega) (by omega)
   refine Eq.trans ih ?_
   congr 1
   by_cases hlt:i<x.cps.toList.length
   ·rw[List.drop_eq_getElem_cons hlt,List.take_succ_cons,List.count_cons_of_ne]
    intro z
    exact hc (by rw[AsJ hlt];exact congrArg some z)
   ·rw[List.drop_eq_nil_of_le (by omega),List.drop_eq_nil_of_le (by omega)]
    simp
theorem Ajn(l:List Nat)(c:Nat):(Builtin.Str.occurrences (tx l) ⟨#[c]⟩ 0 (tx l).length ((tx l).length+1)).length=l.count c:=by
 rw[StrLaws.occ_eq]
 have:=Af0 (tx l) c ((tx l).length+1) ((tx l).length+1-0) 0 #[] 0 (AsI _) (by simp)
 rw[Array.length_toList,this,Aio,Ei]
 simp[Atc]
def AnX:V→List V→Hp→VK→Prop:=fun x vs H Q=>∃ u c,x=.str (tx u)∧vs=[.str ⟨#[c]⟩]∧Q (.int (u.count c:Nat)) H
theorem Agv:MtR X "str.count" AnX:=by
 intro pins s σ H x vs v us Q I rx rv h
 obtain⟨u,c,rfl,rfl,q⟩:=h
 obtain⟨t,rfl⟩:=rx
 obtain⟨u',rfl,ru⟩:=rv.one
 obtain⟨t',rfl⟩:=ru
 refine call_gives F.slot_str_count (typeIs_str s _ t) F.entry_str_count (F.args_str_count_2 _ _) (gives_str_count _ _ t t') ?_
 rw[Ajn]
 exact⟨.int _,H,I.tok _,⟨_,rfl⟩,q⟩
end
open PySem PySem.Spec PyProof.Rows
theorem Ajo{Ds:List Addr}:∀{us:List Value},Vals (Ds.map V.ref) us→us=Ds.map Value.ref:=by
 induction Ds with
 | nil=>intro us r;rw[At3] at r;cases r;rfl
 | cons n ns ih =>
  intro us r
  rw[AsY] at r
  cases r with
  | cons r1 r2 =>
   cases r1
   rw[ih r2]
   rfl
section
variable {X:Cx}{K:PySem.W.Frag}
def Ap4 (K:PySem.W.Frag):List V→Hp→VK→Prop:=fun vs H Q=>∃(a C p:Addr) (Ds:List Addr) (b:Bool),vs=[.ref a,.ref p]∧H a=some (exH C a)∧ExC K C∧H p=some (.tup (Ds.map V.ref))∧PySem.W.kitAny K (.ref C) (Ds.map Value.ref)=some b∧Q (.bl b) H
theorem Nr(hK:X.K=K:=by rfl):JB X (.builtin "isinstance") (Ap4 K):=by
 subst hK
 intro pins s σ H xs us Q I rv h
 obtain⟨a,C,p,Ds,b,rfl,ea,c,ep,e,q⟩:=h
 obtain⟨u1,u2,rfl,r1,r2⟩:=rv.two
 cases r1
 cases r2
 obtain⟨_,its,vs,ht⟩:=(show JH X.prog X.w H s.heap p (.tup (Ds.map V.ref)) from I.hok p _ ep)
 rw[Ajo vs] at ht
 obtain⟨⟨cls,dd,data,sl⟩,h1,h2,n,h3⟩:=ht
 cases h2
 cases h3
 exact PySem.W.kia_tup (Adm c) I.kIn (Ait I ea) h1 e (fun z=>nomatch z) fun tk=>⟨.bl b,H,I.tok _,rfl,q⟩
end
open PySem PySem.Spec PyProof.Rows
section
variable {X:Cx}{K:PySem.W.Frag}
def Asy (K:PySem.W.Frag):R2:=fun x y H Q=>∃ p q xs ys,x=.ref p∧y=.ref q∧SqL K H p xs∧SqL K H q ys∧xs.all HH=true∧ys.all HH=true∧Q (.bl (!eqL xs ys)) H
end
open PySem PySem.Spec PyProof.Rows
theorem Inv.AcO{X:Cx}{pins:List (Addr × Obj)}{σ:St}{H:Hp}{s:Shared}{h':Heap}{t':Nat}{its:List Addr}(I:Inv X pins σ H s)
  (k:∀ b o,b∉its→s.heap.get? b=some o→h'.get? b=some o) (hf:∀ b∈its,Rv X pins H b):Inv X pins σ H { s with heap:=h',toks:=t' }:=by
 have nit:∀ b u,H b=some u→b∉its:=fun b u e z=>by
  have:=(hf b z).1
  rw[this] at e
  cases e
 have nL:X.env.locals∉its:=fun z=>(hf _ z).2.1 rfl
 refine I.step (g':=s.gens) (d':=s.drawn) (ch:=its) (fun b hb=>?_) (fun b o _ _ hc e _=>k b o hc e) (fun b o _ _ hc e _=>⟨o.slots,k b o hc e⟩) (fun _ _ _ _ n=>n)
  (fun b o hc e=>⟨o,k b o hc e⟩) (fun _ _ e=>e) (fun _ _ _ e=>e) (fun b ps e=>⟨#[],by rw[e];simp⟩) (fun m hm=>?_) (fun b u e=>?_) I.bare
 ·obtain⟨_,h2,_,h4,h5,h6⟩:=hf b hb
  exact⟨h4,h2,h5,h6⟩
 ·obtain⟨o,es,ep,ho,r⟩:=hm
  exact⟨o,es,ep,k _ o nL ho,r⟩
 ·refine(I.hok b u e).stay (fun c v hc q=>k c v ?_ q) (fun _ q=>q) fun _ _ q=>q
  rcases hc with z | z
  ·rw[z];exact nit b u e
  ·exact nit c _ z
def Itz (K:PySem.W.Frag)(a b:Addr):It where
 go:=fun i H=>∃ xs ys x y,SqL K H a xs∧SqL K H b ys∧xs[i]?=some x∧ys[i]?=some y
 yld:=fun i H x H'=>∃ T,x=.ref T∧H T=none∧∀ xs ys u v,SqL K H a xs→SqL K H b ys→xs[i]?=some u→ys[i]?=some v→H'=upd H T (.tup [u,v])
 stop:=fun i H=>∃ xs ys,SqL K H a xs∧SqL K H b ys∧(xs.length≤i∨ys.length≤i)
def Ap5 (z TI TO i1 i2 a b:Addr)(i:Nat)(h:Heap):Prop:=IsZip h z TI TO .none∧IsPair h TI (.ref i1) (.ref i2)∧(∃ p q,IsPair h TO p q)∧h.IsListIter i1 a i∧h.IsListIter i2 b i
theorem Ako{P:Program}{w:World}{K:PySem.W.Frag}{es:List Expr}{kx:Nat}{tp:Pos}{z TI TO i1 i2 a b:Addr}(D:ZipApart z TI TO i1 i2 a b) :
  Turn P w K (.Tuple es kx tp) (Itz K a b) [z,TI,TO,i1,i2] z (Ap5 z TI TO i1 i2 a b) where
 mem:=by simp
 obj:=fun i h st c hc=>by
  obtain⟨s1,s2,⟨p,q,s3⟩,s4,s5⟩:=st
  simp only [Ata,Atb,or_false] at hc
  rcases hc with e | e | e | e | e
  ·subst e;exact⟨_,s1,fun v z=>by cases (show Data.fields _=Data.cell v from z)⟩
  ·subst e;exact⟨_,s2,fun v z=>by cases (show Data.seq _ _=Data.cell v from z)⟩
  ·subst e;exact⟨_,s3,fun v z=>by cases (show Data.seq _ _=Data.cell v from z)⟩
  ·subst e;obtain⟨o,e,_,d⟩:=s4;exact⟨o,e,fun v z=>by rw[d] at z;cases z⟩
  ·subst e;obtain⟨o,e,_,d⟩:=s5;exact⟨o,e,fun v z=>by rw[d] at z;cases z⟩
 keep:=fun i h h' st k=>by
  obtain⟨s1,s2,⟨p,q,s3⟩,s4,s5⟩:=st
  exact⟨k _ (by simp) _ s1,k _ (by simp) _ s2,⟨p,q,k _ (by simp) _ s3⟩,s4.at fun o e=>k _ (by simp) o e,s5.at fun o e=>k _ (by simp) o e⟩
 item:=by
  intro X hP hw hK hc i pins s σ H E I hf st hg
  subst hP hw hK
  obtain⟨xs,ys,x,y,hq1,hq2,hx,hy⟩:=hg
  obtain⟨Ae7,rv1,p1,_⟩:=I.list hq1
  obtain⟨its2,rv2,p2,_⟩:=I.list hq2
  obtain⟨u,hu,ru⟩:=rv1.get hx
  obtain⟨v,hv,rw'⟩:=rv2.get hy
  obtain⟨s1,s2,⟨p,q,s3⟩,s4,s5⟩:=st
  refine wpAny_pyNext_zip_item D s1 s2 s3 s4 s5 p1.isList p2.isList (x:=u) (y:=v) (by simpa using hu) (by simpa using hv) fun h1 z1 t1 j1 j2 hT hsz kk=>?_
  refine⟨_,rfl,wpAny_letOwnedTupleGo_zip z1 fun h2 z2 sb=>?_⟩
  have zl:z<s.heap.objs.size:=Heap.lt_size s1
  have TIl:TI<s.heap.objs.size:=Heap.lt_size s2
  have TOl:TO<s.heap.objs.size:=Heap.lt_size s3
  have i1l:i1<s.heap.objs.size:=by obtain⟨_,e,_⟩:=s4;exact Heap.lt_size e
  have i2l:i2<s.heap.objs.size:=by obtain⟨_,e,_⟩:=s5;exact Heap.lt_size e
  have up:∀ c o,c≠z→h1.get? c=some o→h2.get? c=some o:=fun c o c1 e=>(sb.2 c c1).trans e
  have hTn:H s.heap.objs.size=none:=I.hok.fresh (AsI _)
  have I1:Inv X pins σ (upd H s.heap.objs.size (.tup [x,y])) { s with heap:=s.heap.push { cls:=.type "tuple", data:=.seq #[u,v] },toks:=s.toks } :=
   I.laid (fun c o e=>Heap.get?_push_of_some _ e) (AsI _) ⟨by show 2≤sizeLine;decide,[u,v],.cons ru (.cons rw' .nil),⟨_,Heap.get?_push_size _ rfl,rfl,_,rfl⟩⟩
  have fp2:∀ c∈[z,TI,TO,i1,i2],Rv X pins (upd H s.heap.objs.size (.tup [x,y])) c:=fun c hc=>by
   obtain⟨f0,f⟩:=hf c hc
   refine⟨?_,f⟩
   have lt:c<s.heap.objs.size:=by
    simp only [Ata,Atb,or_false] at hc
    rcases hc with e | e | e | e | e <;> subst e <;> assumption
   rw[Bh (AsL lt)]
   exact f0
  have I2:Inv X pins σ (upd H s.heap.objs.size (.tup [x,y])) { s with heap:=h2 }:=by
   refine Inv.AcO (s:={ s with heap:=s.heap.push { cls:=.type "tuple", data:=.seq #[u,v] },toks:=s.toks }) (h':=h2) (t':=s.toks) (its:=[z,TI,TO,i1,i2]) I1 (fun c o hc e=>?_) fp2
   simp only [Ata,Atb,or_false,not_or] at hc
   refine up c o hc.1 ?_
   by_cases hcs:c=s.heap.objs.size
   ·subst hcs
    have e':(s.heap.push { cls:=.type "tuple", data:=.seq #[u,v] }).get? s.heap.objs.size=some { cls:=.type "tuple", data:=.seq #[u,v] }:=Heap.get?_push_size _ rfl
    rw[e'] at e
    cases e
    exact hT
   ·have e':s.heap.get? c=some o:=by
     rw[← e]
     exact(Heap.get?_push_ne _ _ _ hcs).symm
    exact kk c o hc.1 hc.2.2.1 hc.2.2.2.1 hc.2.2.2.2 e'
  refine⟨.ref s.heap.objs.size,_,I2,rfl,⟨s.heap.objs.size,rfl,hTn,fun xs' ys' u' v' a1 a2 a3 a4=>?_⟩,⟨z2,up _ _ D.TIz (kk _ _ D.TIz D.TITO D.TIi1 D.TIi2 s2),⟨u,v,up _ _ D.TOz t1⟩,j1.at fun o e=>up _ o D.i1z e,j2.at fun o e=>up _ o D.i2z e⟩,fun c hc=>(fp2 c hc).1⟩
  rw[I.Nt a1 hq1,hx] at a3
  rw[I.Nt a2 hq2,hy] at a4
  cases a3
  cases a4
  rfl
 done:=by
  intro X hP hw hK hc i pins s σ H E I hf st hg
  subst hP hw hK
  obtain⟨xs,ys,hq1,hq2,hend⟩:=hg
  obtain⟨Ae7,rv1,p1,_⟩:=I.list hq1
  obtain⟨its2,rv2,p2,_⟩:=I.list hq2
  have l1:=rv1.length
  have l2:=rv2.length
  obtain⟨s1,s2,⟨p,q,s3⟩,s4,s5⟩:=st
  refine wpAny_pyNext_zip_end (I.ok.hd hc) D s1 s2 s3 s4 s5 p1.isList p2.isList ?_ fun h' kk=>⟨rfl,I.AcO (t':=s.toks) (its:=[z,TI,TO,i1,i2]) (fun c o hc e=>?_) hf⟩
  ·rcases hend with e | e
   ·exact .inl (by simp;omega)
   ·exact .inr (by simp;omega)
  ·simp only [Ata,Atb,or_false,not_or] at hc
   exact kk c o hc.1 hc.2.2.1 hc.2.2.2.1 hc.2.2.2.2 e
 self:=fun _ _ _ _ _ st h=>wpAny_pyIter_zip st.1 h
section
variable {X:Cx}{es:List Expr}{kx:Nat}{tp:Pos}
def AqS (K:PySem.W.Frag)(ta:TA):TI:=fun σ H R=>ta σ H fun vs H1=>∃ a b,vs=[.ref a,.ref b]∧(∃ xs,SqL K H1 a xs)∧(∃ ys,SqL K H1 b ys)∧R (Itz K a b) H1
theorem AnY{K:PySem.W.Frag}{a b:Expr}{ta:TA}{p pos:Pos}(hg:Gl X "zip") (hm:X.mg "zip" = none) (ha:PA X [a,b] ta) (hK:X.K=K:=by rfl) (hs:starEach [a,b] X.env=[(false,eval a X.env),(false,eval b X.env)]:=by rfl) (hs2:starEach [b] X.env=[(false,eval b X.env)]:=by rfl) :
  PI X (.Tuple es kx tp) (.Call (.Name "zip" p) [a,b] [] pos) (AqS K ta):=by
 subst hK
 intro pins s σ H R I h
 refine Call_ (K1 I hg hm AnS (PyProof.Rows.callWith_type1 (thn (ha pos pins s σ H _ I h) fun us s1 ⟨vs,H1,I1,r1,q1⟩=>?_) (by rw[hs,hs2]) (by rw[hs2];rfl)))
 obtain⟨a,b,e,⟨xs,hq1⟩,⟨ys,hq2⟩,q⟩:=q1
 subst e
 cases r1 with
 | cons r rr =>
  cases rr with
  | cons r' rr =>
   cases rr
   cases r
   cases r'
   obtain⟨Ae7,rv1,p1,_⟩:=I1.list hq1
   obtain⟨its2,rv2,p2,_⟩:=I1.list hq2
   obtain⟨o1,e1,_⟩:=id p1.isList
   obtain⟨o2,e2,_⟩:=id p2.isList
   refine call_zip_2 p1.isList p2.isList fun h' hz hTI hTO j1 j2 hsz kk=>wpAny_pyIter_zip hz ?_
   refine⟨_,[s1.heap.objs.size+4,s1.heap.objs.size+2,s1.heap.objs.size+3,s1.heap.objs.size,s1.heap.objs.size+1],_,_,H1,rfl,I1.kept (t':=s1.toks) kk,Ako (zipApart_new (Heap.lt_size e1) (Heap.lt_size e2)),
    ⟨hz,hTI,⟨_,_,hTO⟩,j1,j2⟩,fun c hc=>?_,q⟩
   have le:s1.heap.objs.size≤c:=by
    simp only [Ata,Atb,or_false] at hc
    rcases hc with e | e | e | e | e <;> subst e <;> omega
   exact I1.AjO le (I1.hok.fresh le)
theorem Amb{K:PySem.W.Frag}{a b:Addr}{xs ys:List V}{g:TG}{tb:TS}{D:Ends}{σ:St}{H:Hp}{n:Nat}(hn:n=min xs.length ys.length)(Pv:Nat→St→Hp→Prop)(h0:Pv 0 σ H)(hl:∀ i σ H,Pv i σ H→SqL K H a xs∧SqL K H b ys)
  (hs:∀ i x y σ H T,xs[i]?=some x→ys[i]?=some y→Pv i σ H→H T=none→g (.ref T) σ (upd H T (.tup [x,y])) fun σ2 H2=>tb { D with nx:=Pv (i+1),ct:=Pv (i+1),bk:=D.nx } σ2 H2) (hd:∀ σ H,Pv n σ H→D.nx σ H) :
  ∃ W:Nat→Nat→St→Hp→Prop,(∃ m,W 0 m σ H)∧∀ i m σ H,W i m σ H →
   ((Itz K a b).stop i H∧D.nx σ H)∨((Itz K a b).go i H∧∃ N:St→Hp→Prop,(∀ σ' H',N σ' H'→∃ m',m'<m∧W (i+1) m' σ' H')∧∀ x H',(Itz K a b).yld i H x H'→g x σ H' fun σ2 H2=>tb { D with nx:=N,ct:=N,bk:=D.nx } σ2 H2):=by
 refine⟨fun i m σ H=>m=n-i∧i≤n∧Pv i σ H,⟨n,by simp,AsM _,h0⟩,?_⟩
 rintro i m σ H ⟨rfl,hi,p⟩
 obtain⟨q1,q2⟩:=hl i σ H p
 by_cases hlt:i<n
 ·have x1:i<xs.length:=by omega
  have y1:i<ys.length:=by omega
  refine .inr ⟨⟨xs,ys,xs[i],ys[i],q1,q2,AsJ x1,AsJ y1⟩,Pv (i+1),fun σ' H' p'=>⟨n-(i+1),by omega,rfl,hlt,p'⟩,fun x H' y=>?_⟩
  obtain⟨T,rfl,hT,y⟩:=y
  have e:=y xs ys _ _ q1 q2 (AsJ x1) (AsJ y1)
  subst e
  exact hs i _ _ σ H T (AsJ x1) (AsJ y1) p hT
 ·have e:i=n:=by omega
  subst e
  exact .inl ⟨⟨xs,ys,q1,q2,by omega⟩,hd σ H p⟩
end
open PySem PySem.Spec PyProof.Rows
theorem Mq.Agw{k:Nat}{A:Around}(r:Mq k A):A.units+100<cLine:=by have:=r.un;omega
def Ap6 (K:PySem.W.Frag)(H:Hp)(p q:Addr):Prop:=∃ as bs:List Addr,SqL K H p (as.map V.ref)∧SqL K H q (bs.map V.ref)∧as.length=bs.length ∧
 ∀(i:Nat) (a b:Addr),as[i]?=some a→bs[i]?=some b→∃ xs:List V,xs.all HH=true∧SqL K H a xs∧SqL K H b xs
section
variable {X:Cx}{K:PySem.W.Frag}
def ArE (K:PySem.W.Frag):R2:=fun x y H Q=>∃ p q,x=.ref p∧y=.ref q∧Ap6 K H p q∧Q (.bl false) H
def ArF (K:PySem.W.Frag):R2:=fun x y H Q=>∃ p q,x=.ref p∧y=.ref q∧Ap6 K H p q∧Q (.bl true) H
end
open PySem PySem.Spec PyProof.Rows
def Asz (K:PySem.W.Frag):R2:=fun x y H Q=>∃(p q:Addr) (as:List Addr) (ks:List Int),x=.ref p∧y=.ref q∧SqL K H q (as.map V.ref)∧SqT K H p (vI ks) ∧
 (∀ a∈as,∃ js:List Int,SqT K H a (vI js))∧(∃ a∈as,SqT K H a (vI ks))∧Q (.bl true) H
section
variable {X:Cx}{K:PySem.W.Frag}
end
open PySem PySem.Spec PyProof.Rows
section
variable {prog:Program}{w:World}{A:Around}{E:Value→Shared→Prop}{s:Shared}
structure AqT (z TI TO i1 i2:Addr):Prop where
 TIz:TI≠z
 TOz:TO≠z
 i1z:i1≠z
 i2z:i2≠z
 TITO:TI≠TO
 TIi1:TI≠i1
 TIi2:TI≠i2
 TOi1:TO≠i1
 TOi2:TO≠i2
 i12:i1≠i2
abbrev Ap7 (x:Str) (t:Tok):Obj:={ cls:=.type (strIterType x),data:=.fields #[.str x t,.int 0 0] }
abbrev Ap8 (l:Addr):Obj:={ cls:=.type "list_iterator", data:=.fields #[.ref l,.int 0 0] }
abbrev ArG (h:Heap) (o1 o2:Obj):Heap:=((((h.push o1).push o2).push { cls:=.type "tuple", data:=.seq #[.ref h.objs.size,.ref (h.push o1).objs.size] }).push { cls:=.type "tuple", data:=.seq #[.none,.none] }).push
 { cls:=.type "zip", data:=.fields #[.none,.bool false,.bool false,.ref ((h.push o1).push o2).objs.size,.ref (((h.push o1).push o2).push { cls:=.type "tuple", data:=.seq #[.ref h.objs.size,.ref (h.push o1).objs.size] }).objs.size] }
abbrev ArH (h:Heap) (o1 o2:Obj):Addr:=((((h.push o1).push o2).push { cls:=.type "tuple", data:=.seq #[.ref h.objs.size,.ref (h.push o1).objs.size] }).push { cls:=.type "tuple", data:=.seq #[.none,.none] }).objs.size
end
open PySem PySem.Spec PyProof.Rows
inductive Src where
 | l (a:Addr)
 | s (z:Str)
def Ap9:Src→V
 | .l a=>.ref a
 | .s z=>.str z
def Aiu (K:PySem.W.Frag)(H:Hp):Src→Prop
 | .l a=>∃ xs,SqL K H a xs
 | .s _=>True
def Agx (K:PySem.W.Frag)(H:Hp):Src→Nat→V→Prop
 | .l a,i,v=>∃ xs,SqL K H a xs∧xs[i]?=some v
 | .s z,i,v=>∃ c,z.cps[i]?=some c∧v=.str ⟨#[c]⟩
def Akp (K:PySem.W.Frag)(H:Hp):Src→Nat→Prop
 | .l a,i=>∃ xs,SqL K H a xs∧xs.length=i
 | .s z,i=>z.cps.size=i
def Ani (it:Addr)(t:Tok):Src→Nat→Heap→Prop
 | .l a,i,h=>h.IsListIter it a i
 | .s z,i,h=>h.IsStrIter it (strIterType z) z t i
def ArI (it:Addr):Src→List Addr
 | .l a=>[it,a]
 | .s _=>[it]
def ArJ (t:Tok):Src→Obj
 | .l a=>Ap8 a
 | .s z=>Ap7 z t
def AqU (K:PySem.W.Frag)(S1 S2:Src):It where
 go:=fun i H=>(∃ u,Agx K H S1 i u)∧∃ v,Agx K H S2 i v
 yld:=fun i H x H'=>∃ T,x=.ref T∧H T=none∧∀ u v,Agx K H S1 i u→Agx K H S2 i v→H'=upd H T (.tup [u,v])
 stop:=fun i H=>Aiu K H S1∧Aiu K H S2∧(Akp K H S1 i∨((∃ u,Agx K H S1 i u)∧Akp K H S2 i))
def AqV (z TI TO i1 i2:Addr)(t1 t2:Tok)(S1 S2:Src)(i:Nat)(h:Heap):Prop:=IsZip h z TI TO .none∧IsPair h TI (.ref i1) (.ref i2)∧(∃ p q,IsPair h TO p q)∧Ani i1 t1 S1 i h∧Ani i2 t2 S2 i h
theorem lne{a n:Nat}(h:a<n)(k:Nat):@Ne Addr a (n+k):=fun z=>by have z:a=n+k:=z;omega
section
variable {X:Cx}{es:List Expr}{kx:Nat}{tp:Pos}
def zOk:Src→Src→Prop
 | .s _,.l _=>False
 | _,_=>True
def ArK (K:PySem.W.Frag)(ta:TA):TI:=fun σ H R=>ta σ H fun vs H1=>∃ S1 S2,vs=[Ap9 S1,Ap9 S2]∧zOk S1 S2∧Aiu K H1 S1∧Aiu K H1 S2∧R (AqU K S1 S2) H1
end
open PySem PySem.Spec PyProof.Rows
structure Aqo (X:Cx) (x x':Str) (Nc:List Str) (BL:List Nat) (scope:Scope):Prop where
 kind:scope.kind=.function
 cell:∀ y∈scope.names,y.2≠.cell
 names:∀ y∈scope.names,y.2=.local→scope.names.lookup y.1=some .local
 fr:∀ y∈scope.names,y.2=.free→X.env.scope.names.lookup y.1=some .cell∧scope.names.lookup y.1=some .free
 loc:scope.names.lookup x=some .local
 AnZ:scope.names.lookup x'=some .local
 len:Nc.length=BL.length+2
 hd:Nc[0]?=some x
 hd2:Nc[1]?=some x'
 nd:Nc.Nodup
 cap:∀ k j,BL[k]?=some j→∃ y,Nc[k+2]?=some y∧X.N[j]?=some y∧scope.names.lookup y=some .free
def Amc (K:PySem.W.Frag)(BL:List Nat)(tc:TT)(te:TE)(J:It)(σ:St)(H:Hp)(Q:VK):Prop :=
 ∃ W:Nat→Nat→List V→Hp→Prop,(∃ m,W 0 m [] H)∧∀ i m ys H,W i m ys H →
  (J.stop i H∧ys.length≤sizeLine∧∀ p,H p=none→Q (.ref p) (upd H p (.lst ys))) ∨
  (J.go i H∧ys.length<sizeLine∧∀ x H',J.yld i H x H'→∃ a u v,x=.ref a∧SqT K H' a [u,v]∧tc (some u::some v::JM σ BL) H' fun b H2 =>
   if b=true then te (some u::some v::JM σ BL) H2 fun y H3=>∃ m',m'<m∧W (i+1) m' (ys++[y]) H3 else ∃ m',m'<m∧W (i+1) m' ys H2)
def AqW (K:PySem.W.Frag)(wi:TI)(BL:List Nat)(tc:TT)(te:TE):TE:=fun σ H Q=>wi σ H fun J H1=>Amc K BL tc te J σ H1 Q
section
variable {X:Cx}{pins:List (Addr × Obj)}{σ:St}{H:Hp}{s:Shared}
end
open PySem PySem.Spec PyProof.Rows
section
variable {X:Cx}
def Aqp (K:PySem.W.Frag):V→List V→Hp→VK→Prop:=fun x vs H Q=>∃ a ns k,x=.ref a∧vs=[.int k]∧SqL K H a (vI ns)∧Q (.int (ns.count k:Nat)) H
end
def Ite (K:PySem.W.Frag)(a:Addr):It where
 go:=fun i H=>∃ xs x,SqL K H a xs∧xs[i]?=some x
 yld:=fun i H x H'=>∃ T,x=.ref T∧H T=none∧∀ xs u,SqL K H a xs→xs[i]?=some u→H'=upd H T (.tup [.int (i:Int),u])
 stop:=fun i H=>∃ xs,SqL K H a xs∧xs.length=i
def AqX (e it a:Addr)(i:Nat)(h:Heap):Prop:=(∃ old,IsEnum h e it i old)∧h.IsListIter it a i
theorem Ajp{P:Program}{w:World}{K:PySem.W.Frag}{es:List Expr}{kx:Nat}{tp:Pos}{e it a:Addr}(hei:e≠it)(hae:a≠e)(hai:a≠it) :
  Turn P w K (.Tuple es kx tp) (Ite K a) [e,it] e (AqX e it a) where
 mem:=by simp
 obj:=fun i h st c hc=>by
  obtain⟨⟨old,s1⟩,s2⟩:=st
  simp only [Ata,Atb,or_false] at hc
  rcases hc with z | z
  ·subst z;exact⟨_,s1,fun v z=>by cases (show Data.fields _=Data.cell v from z)⟩
  ·subst z;obtain⟨o,e,_,d⟩:=s2;exact⟨o,e,fun v z=>by rw[d] at z;cases z⟩
 keep:=fun i h h' st k=>by
  obtain⟨⟨old,s1⟩,s2⟩:=st
  exact⟨⟨old,k _ (by simp) _ s1⟩,s2.at fun o e=>k _ (by simp) o e⟩
 item:=by
  intro X hP hw hK hc i pins s σ H E I hf st hg
  subst hP hw hK
  obtain⟨xs,x,hq1,hx⟩:=hg
  obtain⟨Ae7,rv1,p1,_⟩:=I.list hq1
  obtain⟨u,hu,ru⟩:=rv1.get hx
  obtain⟨⟨old,s1⟩,s4⟩:=st
  have hlt:i<Ae7.toArray.size:=by have:=(List.getElem?_eq_some_iff.mp hu).1;simpa using this
  have hh:X.A.in1.handled=none:=I.ok.hd hc
  refine wpAny_pyNext_enum_itemD (Draws.list hh it a hai Ae7.toArray) s1 ⟨s4,p1.isList⟩ hlt hei (fun z=>?_) fun u' h1 tk hu' ho hst hT hsz kk=>?_
  ·simp only [Ata,Atb,or_false] at z
   rcases z with z | z
   ·exact hei z
   ·exact hae z.symm
  have hu2:Ae7[i]?=some u':=by simpa using hu'
  rw[hu] at hu2
  cases hu2
  refine⟨_,rfl,wpAny_letOwnedTupleGo_enum ho fun h2 he2 sb=>?_⟩
  have sb:Heap.SameBut e h1 h2:=sb
  have el:e<s.heap.objs.size:=Heap.lt_size s1
  have il:it<s.heap.objs.size:=by obtain⟨_,e,_⟩:=s4;exact Heap.lt_size e
  have up:∀ c o,c≠e→h1.get? c=some o→h2.get? c=some o:=fun c o c1 z=>(sb.2 c c1).trans z
  have hTn:H s.heap.objs.size=none:=I.hok.fresh (AsI _)
  have I1:Inv X pins σ (upd H s.heap.objs.size (.tup [.int (i:Int),x])) { s with heap:=s.heap.push { cls:=.type "tuple", data:=.seq #[.int i tk,u] },toks:=tk+1 } :=
   I.laid (fun c o e=>Heap.get?_push_of_some _ e) (AsI _) ⟨by show 2≤sizeLine;decide,[.int i tk,u],.cons ⟨tk,rfl⟩ (.cons ru .nil),⟨_,Heap.get?_push_size _ rfl,rfl,_,rfl⟩⟩
  have fp2:∀ c∈[e,it],Rv X pins (upd H s.heap.objs.size (.tup [.int (i:Int),x])) c:=fun c hc=>by
   obtain⟨f0,f⟩:=hf c hc
   refine⟨?_,f⟩
   have lt:c<s.heap.objs.size:=by
    simp only [Ata,Atb,or_false] at hc
    rcases hc with e | e <;> subst e <;> assumption
   rw[Bh (AsL lt)]
   exact f0
  have I2:Inv X pins σ (upd H s.heap.objs.size (.tup [.int (i:Int),x])) { s with heap:=h2,toks:=tk+1 }:=by
   refine Inv.AcO (s:={ s with heap:=s.heap.push { cls:=.type "tuple", data:=.seq #[.int i tk,u] },toks:=tk+1 }) (h':=h2) (t':=tk+1) (its:=[e,it]) I1 (fun c o hc z=>?_) fp2
   simp only [Ata,Atb,or_false,not_or] at hc
   refine up c o hc.1 ?_
   by_cases hcs:c=s.heap.objs.size
   ·subst hcs
    have e':(s.heap.push { cls:=.type "tuple", data:=.seq #[.int i tk,u] }).get? s.heap.objs.size=some { cls:=.type "tuple", data:=.seq #[.int i tk,u] }:=Heap.get?_push_size _ rfl
    rw[e'] at z
    cases z
    exact hT
   ·have e':s.heap.get? c=some o:=by
     rw[← z]
     exact(Heap.get?_push_ne _ _ _ hcs).symm
    exact kk c o hc.1 hc.2 e'
  refine⟨.ref s.heap.objs.size,_,I2,rfl,⟨s.heap.objs.size,rfl,hTn,fun xs' u' a1 a3=>?_⟩,⟨⟨u,by simpa using he2⟩,hst.1.at fun o z=>up _ o hei.symm z⟩,fun c hc=>(fp2 c hc).1⟩
  rw[I.Nt a1 hq1,hx] at a3
  cases a3
  rfl
 done:=by
  intro X hP hw hK hc i pins s σ H E I hf st hg
  subst hP hw hK
  obtain⟨xs,hq1,hend⟩:=hg
  obtain⟨Ae7,rv1,p1,_⟩:=I.list hq1
  have l1:=rv1.length
  obtain⟨⟨old,s1⟩,s4⟩:=st
  have hh:X.A.in1.handled=none:=I.ok.hd hc
  have en:i=Ae7.toArray.size:=by simp;omega
  subst en
  refine wpAny_pyNext_enum_endD (Draws.list hh it a hai Ae7.toArray) s1 ⟨s4,p1.isList⟩ fun h' kk=>⟨rfl,I.AcO (t':=s.toks) (its:=[e,it]) (fun c o hc z=>?_) hf⟩
  simp only [Ata,Atb,or_false,not_or] at hc
  exact kk c o hc.2 z
 self:=fun _ _ _ _ _ st h=>by obtain⟨⟨old,s1⟩,_⟩:=st;exact wpAny_pyIter_enum s1 h
section
variable {X:Cx}{es:List Expr}{kx:Nat}{tp:Pos}
def ApA (K:PySem.W.Frag)(ta:TA):TI:=fun σ H R=>ta σ H fun vs H1=>∃ a,vs=[.ref a]∧(∃ xs,SqL K H1 a xs)∧R (Ite K a) H1
theorem Amd{K:PySem.W.Frag}{a:Expr}{ta:TA}{p pos:Pos}(hg:Gl X "enumerate") (hm:X.mg "enumerate" = none) (ha:PA X [a] ta) (hK:X.K=K:=by rfl) (hs:starEach [a] X.env=[(false,eval a X.env)]:=by rfl) :
  PI X (.Tuple es kx tp) (.Call (.Name "enumerate" p) [a] [] pos) (ApA K ta):=by
 subst hK
 intro pins s σ H R I h
 refine Call_ (K1 I hg hm Afs (PyProof.Rows.callWith_type1 (thn (ha pos pins s σ H _ I h) fun us s1 ⟨vs,H1,I1,r1,q1⟩=>?_) hs rfl))
 obtain⟨a,e,⟨xs,hq1⟩,q⟩:=q1
 subst e
 cases r1 with
 | cons r rr =>
  cases rr
  cases r
  obtain⟨Ae7,rv1,p1,_⟩:=I1.list hq1
  obtain⟨o1,e1,_⟩:=id p1.isList
  have la:a<s1.heap.objs.size:=Heap.lt_size e1
  refine call_enumerate_list p1.isList fun h' he hi hsz kk=>wpAny_pyIter_enum he ?_
  refine⟨_,[s1.heap.objs.size+1,s1.heap.objs.size],_,_,H1,rfl,I1.kept (t':=s1.toks) kk,Ajp (lne (At5 _) 0).symm (lne la 1) (lne la 0),⟨⟨_,he⟩,hi⟩,fun c hc=>?_,q⟩
  have le:s1.heap.objs.size≤c:=by
   simp only [Ata,Atb,or_false] at hc
   rcases hc with e | e <;> subst e <;> omega
  exact I1.AjO le (I1.hok.fresh le)
theorem Akq{K:PySem.W.Frag}{a:Addr}{xs:List V}{g:TG}{tb:TS}{D:Ends}{σ:St}{H:Hp}(Pv:Nat→St→Hp→Prop)(h0:Pv 0 σ H)(hl:∀ i σ H,Pv i σ H→SqL K H a xs)
  (hs:∀ i x σ H T,xs[i]?=some x→Pv i σ H→H T=none→g (.ref T) σ (upd H T (.tup [.int (i:Int),x])) fun σ2 H2=>tb { D with nx:=Pv (i+1),ct:=Pv (i+1),bk:=D.nx } σ2 H2) (hd:∀ σ H,Pv xs.length σ H→D.nx σ H) :
  ∃ W:Nat→Nat→St→Hp→Prop,(∃ m,W 0 m σ H)∧∀ i m σ H,W i m σ H →
   ((Ite K a).stop i H∧D.nx σ H)∨((Ite K a).go i H∧∃ N:St→Hp→Prop,(∀ σ' H',N σ' H'→∃ m',m'<m∧W (i+1) m' σ' H')∧∀ x H',(Ite K a).yld i H x H'→g x σ H' fun σ2 H2=>tb { D with nx:=N,ct:=N,bk:=D.nx } σ2 H2):=by
 refine⟨fun i m σ H=>m=xs.length-i∧i≤xs.length∧Pv i σ H,⟨xs.length,by simp,AsM _,h0⟩,?_⟩
 rintro i m σ H ⟨rfl,hi,p⟩
 have q1:=hl i σ H p
 by_cases hlt:i<xs.length
 ·refine .inr ⟨⟨xs,xs[i],q1,AsJ hlt⟩,Pv (i+1),fun σ' H' p'=>⟨xs.length-(i+1),by omega,rfl,hlt,p'⟩,fun x H' y=>?_⟩
  obtain⟨T,rfl,hT,y⟩:=y
  have e:=y xs _ q1 (AsJ hlt)
  subst e
  exact hs i _ σ H T (AsJ hlt) p hT
 ·have e:i=xs.length:=by omega
  subst e
  exact .inl ⟨⟨xs,q1,rfl⟩,hd σ H p⟩
end
open PySem PySem.Spec PyProof.Rows
inductive Ah6 (K:PySem.W.Frag) (H:Hp):Nat→V→V→Prop where
 | flat {n:Nat} {x:V} (h:HH x=true):Ah6 K H n x x
 | lst {n:Nat} {p q:Addr} {xs ys:List V} (hp:SqL K H p xs) (hq:SqL K H q ys) (hl:xs.length=ys.length) (hi:∀(i:Nat) (x y:V),xs[i]?=some x→ys[i]?=some y→Ah6 K H n x y):Ah6 K H (n+1) (.ref p) (.ref q)
 | tup {n:Nat} {p q:Addr} {xs ys:List V} (hp:SqT K H p xs) (hq:SqT K H q ys) (hl:xs.length=ys.length) (hi:∀(i:Nat) (x y:V),xs[i]?=some x→ys[i]?=some y→Ah6 K H n x y):Ah6 K H (n+1) (.ref p) (.ref q)
section
variable {X:Cx}{K:PySem.W.Frag}
def ApB (K:PySem.W.Frag)(H:Hp)(p q:Addr):Prop:=∃ xs ys:List V,SqL K H p xs∧SqL K H q ys∧xs.length=ys.length∧∀(i:Nat) (x y:V),xs[i]?=some x→ys[i]?=some y→Ah6 K H 50 x y
def As0 (K:PySem.W.Frag):R2:=fun x y H Q=>∃ p q,x=.ref p∧y=.ref q∧ApB K H p q∧Q (.bl true) H
def As1 (K:PySem.W.Frag):R2:=fun x y H Q=>∃ p q,x=.ref p∧y=.ref q∧ApB K H p q∧Q (.bl false) H
end
open PySem PySem.Spec PyProof.Rows
section
variable {X:Cx}{K:PySem.W.Frag}
def ArL (K:PySem.W.Frag):R2:=fun x y H Q=>∃(p q:Addr) (js ks:List Int),x=.ref p∧y=.ref q∧SqT K H p (vI js)∧SqT K H q (vI ks)∧Q (.bl (!decide (js=ks))) H
end
open PySem PySem.Spec PyProof.Rows
section
variable {X:Cx}{K:PySem.W.Frag}
theorem Adq{pins:List (Addr × Obj)}{σ:St}{H:Hp}{s:Shared}{vs:List Value}{out:Array Value}{ns':List Int}{Q:VK}(I:Inv X pins σ H s)(hi:IntsAre out.toList ns')(hz:ns'.length≤sizeLine)
  (q:∀ l,H l=none→Q (.ref l) (upd H l (.lst (vI ns')))):EP X pins σ Q (.ref (s.heap.objs.size+1)) { s with heap:=sortedAll s.heap vs out }:=by
 obtain⟨e,he⟩:=sortedAll_at s.heap vs out
 refine⟨.ref (s.heap.objs.size+1),_,I.laid (t':=s.toks) (o:=.lst (vI ns')) (fun b u=>sortedAll_old) (Atj _) ?_,rfl,q _ (I.hok.fresh (Atj _))⟩
 refine⟨by rw[Bs];exact hz,out.toList,e,Nq hi,?_⟩
 rw[he]
theorem Ah7(hK:X.K=K:=by rfl):JB X (.builtin "sorted") (fun xs H Q=>∃ a ns,xs=[.ref a]∧SqL K H a (vI ns)∧ns.length<64∧∀ l ns',ns'.Perm ns→ns'.Pairwise (·≤·)→H l=none→Q (.ref l) (upd H l (.lst (vI ns')))):=by
 subst hK
 intro pins s σ H xs us Q I rv h
 obtain⟨a,ns,rfl,hq,h64,q⟩:=h
 obtain⟨u,rfl,ru⟩:=rv.one
 cases ru
 obtain⟨its,r,pl,hl⟩:=I.list hq
 have hi:IntsAre its ns:=intsAre_of r
 have hsz:sizeLine=16777216:=sizeLine_eq
 refine sorted_ints pl.isList hi (by rw[hi.length];exact h64) fun out ns' a1 a2 a3=>?_
 exact Adq I a1 (by have:=a2.length_eq;omega) fun l hl=>q l ns' a2 a3 hl
def Aoa (K:PySem.W.Frag)(tl:TE):TE:=fun σ H Q=>tl σ H fun x H1=>∃ a ns,x=.ref a∧SqL K H1 a (vI ns)∧ns.length<64∧∀ l ns',ns'.Perm ns→ns'.Pairwise (· ≥ ·)→H1 l=none→Q (.ref l) (upd H1 l (.lst (vI ns')))
theorem Agy{e:Expr}{tl:TE}{p pos kp cp:Pos}{j:Nat}(hg:Gl X "sorted") (hm:X.mg "sorted" = none) (hl:PE X e tl) (hK:X.K=K:=by rfl)
  (he:backTo pos (starEach [e] X.env)=(false,eval e X.env)::backTo pos (starEach [] X.env):=by rfl)
  (hplain:(backTo pos (starEach [e] X.env)).any (·.1)=false:=by rfl):PE X (.Call (.Name "sorted" p) [e] [⟨some "reverse", .Constant (.bool true) j cp,kp⟩] pos) (Aoa K tl):=by
 subst hK
 intro pins s σ H Q I h
 refine wpAny_Call_Name_kw (K1 I hg hm Rx ?_ (by decide) (by decide))
 refine callWith_kw ?_ he hplain rfl rfl
 rw[he]
 refine Calls.spliced_cons (thn (hl pins s σ H _ I h) fun u s1 ⟨x,H1,I1,r1,q1⟩=>Calls.spliced_nil ?_)
 refine kws_cons (Constant_bool (kws_nil ?_))
 obtain⟨a,ns,rfl,hq,h64,q⟩:=q1
 cases r1
 obtain⟨its,r,pl,hz⟩:=I1.list hq
 have hi:IntsAre its ns:=intsAre_of r
 have hsz:sizeLine=16777216:=sizeLine_eq
 show wpAny _ _ (call (.builtin "sorted") [.ref a] [(Str.ofString "reverse", .bool true)]) _ _ _
 refine sorted_ints_rev pl.isList hi (by rw[hi.length];exact h64) fun out ns' a1 a2 a3=>?_
 exact Adq I1 a1 (by have:=a2.length_eq;omega) fun l hl=>q l ns' a2 (by unfold Ordered at a3;rw[if_pos rfl] at a3;exact a3) hl
theorem Ajq(hK:X.K=K:=by rfl)(hc:X.calm=true:=by rfl):JB X (.builtin "max") (fun xs H Q=>∃ a ns,xs=[.ref a]∧SqL K H a (vI ns)∧0<ns.length∧∀ M:Int,M∈ns→(∀ z∈ns,z≤M)→Q (.int M) H):=by
 subst hK
 intro pins s σ H xs us Q I rv h
 obtain⟨a,ns,rfl,hq,h0,q⟩:=h
 obtain⟨u,rfl,ru⟩:=rv.one
 cases ru
 obtain⟨its,r,pl,hl⟩:=I.list hq
 have hi:IntsAre its ns:=intsAre_of r
 obtain⟨xs,hx⟩:=hi.allInts.items
 have hns:ns=xs.toList.map (·.1):=by rw[← hi.numsOf,← nums_intItems,← hx]
 have hsz:0<xs.size:=by rw[hns,AsH,Array.length_toList] at h0;exact h0
 have hL:s.heap.IsList a (intItems xs):=by rw[← hx];exact pl.isList
 refine max_intList (I.ok.hd hc) hL hsz fun v h' tk hv hk=>?_
 obtain⟨t,rfl⟩:=intItems_at hv
 obtain⟨h1,h2⟩:=argBest_gt (numAt xs) (xs.size-1)
 refine⟨.int _,H,I.kept hk,⟨t,rfl⟩,q _ ?_ fun z hz=>?_⟩
 ·rw[hns,numAt_eq];exact getD_mem (by rw[AsH,Array.length_toList];omega)
 ·rw[hns] at hz
  obtain⟨j,hj,rfl⟩:=mem_getD hz
  rw[AsH,Array.length_toList] at hj
  rw[← numAt_eq];exact h2 j (by omega)
end
open PySem PySem.Spec PyProof.Rows
def vB (bs:List Bool):List V:=bs.map V.bl
section
variable {X:Cx}{K:PySem.W.Frag}
end
open PySem PySem.Spec PyProof.Rows
section
variable {X:Cx}{K:PySem.W.Frag}
theorem AeP:JB X (.type "range") (fun xs H Q=>∃ b,xs=[.int b]∧∀ p,H p=none→Q (.ref p) (upd H p (Abx p 0 b 1))):=by
 intro pins s σ H xs us Q I rv h
 obtain⟨b,rfl,q⟩:=h
 obtain⟨u1,rfl,r1⟩:=rv.one
 obtain⟨t,rfl⟩:=r1
 exact call_range_1 (Agt I q)
end
theorem Ame{n:Nat}(h:n≤1000):Builtin.Range.rangeSize 0 (n:Int) 1=(n:Int)∧Builtin.Range.small 0 (n:Int) 1=true∧RQ 0 1 n=(List.range n).map fun(i:Nat)=>((i:Nat):Int):=by
 have rs:Builtin.Range.rangeSize 0 (n:Int) 1=(n:Int):=by
  unfold Builtin.Range.rangeSize
  rw[if_pos (by decide)]
  by_cases h:(0:Int)<(n:Int)
  ·rw[if_pos h,Int.ediv_one]
   omega
  ·rw[if_neg h]
   omega
 refine⟨rs,?_,?_⟩
 ·have fits:∀{z:Int},-1000000≤z→z≤1000000→Builtin.Range.rangeFitsLong z=true:=fun {z} h1 h2=>by
   unfold Builtin.Range.rangeFitsLong
   simp only [Aty,decide_eq_true_eq]
   omega
  unfold Builtin.Range.small
  rw[rs,fits (by omega) (by omega),fits (by omega) (by omega),fits (by omega) (by omega),fits (by omega) (by omega)]
  simp only [show(1:Int)>0 by decide,if_true,Bool.true_and,Bool.or_eq_true]
  exact .inr trivial
 ·unfold RQ
  refine AtG fun i _=>?_
  omega
end L2
set_option maxHeartbeats 4000000
namespace Stab
open PySem PyProof.Rows
def V (xs:Array Keyed)(i:Nat):Int:=match xs[i]? with
 | some p=>numOf p.2
 | none=>0
theorem RT{xs ys:Array Keyed}{i j:Nat}(h:xs[i]?=ys[j]?):V xs i=V ys j:=by unfold V;rw[h]
def Lx (xs:Array Keyed)(i j:Nat):Prop:=K xs i<K xs j∨(K xs i=K xs j∧V xs i<V xs j)
def St (xs:Array Keyed)(k:Nat):Prop:=∀ i j,i<j→j<k→Lx xs i j
def De (xs:Array Keyed)(k:Nat):Prop:=∀ i j,i<j→j<k→Lx xs j i
def Inc (xs:Array Keyed):Prop:=∀ i j,i<j→j<xs.size→V xs i<V xs j
structure SB (a₀:Array Keyed) (st:SortSt) (k:Nat):Prop where
 base:SBase a₀ st
 tail:∀ j,k≤j→(arrOf st)[j]?=a₀[j]?
 low:∀ i,i<k→∃ i',i'<k∧(arrOf st)[i]?=a₀[i']?
section
variable {a₀:Array Keyed}{st:SortSt}{k:Nat}
theorem SB.up(h:SB a₀ st k){k':Nat}(hk:k≤k'):SB a₀ st k' :=
 ⟨h.base,fun j hj=>h.tail j (AsX hk hj),fun i hi=>by
  by_cases hik:i<k
  ·obtain⟨i',h1,h2⟩:=h.low i hik
   exact⟨i',AsO h1 hk,h2⟩
  ·exact⟨i,hi,h.tail i (Aux hik)⟩⟩
theorem SB.vlt(h:SB a₀ st k)(inc:Inc a₀){i j:Nat}(hi:i<k)(hj:k≤j)(hs:j<a₀.size):V (arrOf st) i<V (arrOf st) j:=by
 obtain⟨i',h1,h2⟩:=h.low i hi
 rw[RT h2,RT (h.tail j hj)]
 exact inc i' j (AsO h1 hj) hs
theorem SB.mir(h:SB a₀ st k)(hk:k≤a₀.size){i j:Nat}(hj:j≤k):SB a₀ (setArr st (mirror (arrOf st) i j ((j-i) / 2))) k:=by
 have hz:j≤(arrOf st).size:=by rw[h.base.size];omega
 refine⟨h.base.setArr (mirror_perm _ _ _ _),fun x hx=>?_,fun x hx=>?_⟩
 ·show(mirror (arrOf st) i j ((j-i) / 2))[x]?=_
  rw[getElem?_mirror_all hz,if_neg (by omega)]
  exact h.tail x hx
 ·show ∃ i',i'<k∧(mirror (arrOf st) i j ((j-i) / 2))[x]?=_
  rw[getElem?_mirror_all hz]
  by_cases hc:i≤x∧x<j
  ·rw[if_pos hc]
   exact h.low _ (by omega)
  ·rw[if_neg hc]
   exact h.low _ hx
theorem SB.bub(h:SB a₀ st k)(hk:k<a₀.size){d:Nat}(hd:d≤k):SB a₀ (setArr st (bubble (arrOf st) k d)) (k+1):=by
 have hz:k<(arrOf st).size:=by rw[h.base.size];exact hk
 have h':=h.up (Atj k)
 refine⟨h.base.setArr (bubble_perm _ _ _),fun x hx=>?_,fun x hx=>?_⟩
 ·show(bubble (arrOf st) k d)[x]?=_
  rw[getElem?_bubble hz d hd,if_neg (by omega),if_neg (by omega)]
  exact h'.tail x hx
 ·show ∃ i',i'<k+1∧(bubble (arrOf st) k d)[x]?=_
  rw[getElem?_bubble hz d hd]
  by_cases h1:x=k-d
  ·rw[if_pos h1];exact h'.low _ (At5 k)
  ·rw[if_neg h1]
   by_cases h2:k-d<x∧x≤k
   ·rw[if_pos h2];exact h'.low _ (by omega)
   ·rw[if_neg h2];exact h'.low _ hx
end
theorem Rz{xs:Array Keyed}{i j:Nat}(hj:j≤xs.size)(k:Nat):V (mirror xs i j ((j-i) / 2)) k=if i≤k∧k<j then V xs (i+j-1-k) else V xs k:=by
 have e:=getElem?_mirror_all (i:=i) hj k
 by_cases h1:i≤k∧k<j
 ·rw[if_pos h1] at e ⊢;exact RT e
 ·rw[if_neg h1] at e ⊢;exact RT e
theorem Agz{xs:Array Keyed}{src d:Nat}(hs:src<xs.size)(hd:d≤src)(k:Nat) :
  V (bubble xs src d) k=if k=src-d then V xs src else if src-d<k∧k≤src then V xs (k-1) else V xs k:=by
 have e:=getElem?_bubble hs d hd k
 by_cases h1:k=src-d
 ·rw[if_pos h1] at e ⊢;exact RT e
 ·rw[if_neg h1] at e ⊢
  by_cases h2:src-d<k∧k≤src
  ·rw[if_pos h2] at e ⊢;exact RT e
  ·rw[if_neg h2] at e ⊢;exact RT e
structure Dr (xs:Array Keyed) (x neq:Nat):Prop where
 le:neq+1≤x
 fst:∀ i j,i<j→j<x-(neq+1)→Lx xs j i
 snd:∀ i j,i<x-(neq+1)→x-(neq+1)≤j→j<x→K xs j<K xs i
 run:∀ i j,x-(neq+1)≤i→i<j→j<x→K xs i=K xs j∧V xs i<V xs j
section
variable {xs:Array Keyed}{x neq:Nat}
theorem Dr.rev(h:Dr xs x neq)(hx:x≤xs.size):De (mirror xs (x-(neq+1)) x ((x-(x-(neq+1))) / 2)) x:=by
 intro i j hij hj
 obtain⟨h1,h2,h3,h4⟩:=h
 unfold Lx
 rw[K_mirror hx,K_mirror hx,Rz hx,Rz hx]
 by_cases ci:x-(neq+1)≤i
 ·rw[if_pos (by omega),if_pos (by omega),if_pos (by omega),if_pos (by omega)]
  obtain⟨e1,e2⟩:=h4 (x-(neq+1)+x-1-j) (x-(neq+1)+x-1-i) (by omega) (by omega) (by omega)
  exact .inr ⟨e1,e2⟩
 ·rw[if_neg (c:=_≤i∧_) (by omega),if_neg (c:=_≤i∧_) (by omega)]
  by_cases cj:x-(neq+1)≤j
  ·rw[if_pos (by omega),if_pos (by omega)]
   exact .inl (h3 i _ (by omega) (by omega) (by omega))
  ·rw[if_neg (by omega),if_neg (by omega)]
   exact h2 i j hij (by omega)
theorem Dr.one(h:Dr xs x 0):De xs x:=by
 intro i j hij hj
 obtain⟨h1,h2,h3,h4⟩:=h
 by_cases cj:j<x-(0+1)
 ·exact h2 i j hij cj
 ·exact .inl (h3 i j (by omega) (by omega) hj)
theorem De.next(h:De xs x)(h1:1≤x)(hl:K xs x<K xs (x-1)):Dr xs (x+1) 0:=by
 refine⟨by omega,fun i j hij hj=>h i j hij (by omega),fun i j hi hj1 hj2=>?_,fun i j hi hij hj=>by omega⟩
 have ej:j=x:=by omega
 subst ej
 by_cases hi':i=j-1
 ·rw[hi'];exact hl
 ·have:=h i (j-1) (by omega) (by omega)
  unfold Lx at this
  omega
theorem Dr.eq(h:Dr xs x neq)(he:K xs x=K xs (x-1))(hv:∀ i,i<x→V xs i<V xs x):Dr xs (x+1) (neq+1):=by
 obtain⟨h1,h2,h3,h4⟩:=h
 have ep:x+1-(neq+1+1)=x-(neq+1):=by omega
 refine⟨by omega,fun i j hij hj=>h2 i j hij (by omega),fun i j hi hj1 hj2=>?_,fun i j hi hij hj=>?_⟩
 ·by_cases hj:j<x
  ·exact h3 i j (by omega) (by omega) hj
  ·have ej:j=x:=by omega
   rw[ej,he]
   exact h3 i (x-1) (by omega) (by omega) (by omega)
 ·by_cases hjx:j<x
  ·exact h4 i j (by omega) hij hjx
  ·have ej:j=x:=by omega
   subst ej
   refine⟨?_,hv i hij⟩
   rw[he]
   by_cases hi':i=j-1
   ·rw[hi']
   ·exact(h4 i (j-1) (by omega) (by omega) (by omega)).1
theorem St.all(h:St xs x)(hk:¬K xs 0<K xs (x-1)):∀ i,i<x→K xs i=K xs (x-1)∧(∀ j,i<j→j<x→V xs i<V xs j):=by
 have ge:∀ i,i<x→K xs i=K xs (x-1):=fun i hi=>by
  have a1:K xs 0≤K xs i:=by
   by_cases h0:i=0
   ·rw[h0];exact AtY _
   ·have:=h 0 i (by omega) hi;unfold Lx at this;omega
  have a2:K xs i≤K xs (x-1):=by
   by_cases h0:i=x-1
   ·rw[h0];exact AtY _
   ·have:=h i (x-1) (by omega) (by omega);unfold Lx at this;omega
  omega
 refine fun i hi=>⟨ge i hi,fun j hij hj=>?_⟩
 have:=h i j hij hj
 have e1:=ge i hi
 have e2:=ge j hj
 unfold Lx at this
 omega
end
section
variable {prog:Program}{w:World}{A:Around}{E:Value→Shared→Prop}{s:Shared}{a₀:Array Keyed}
theorem Akr{st:SortSt}{a nrem:Nat}{Q:AscSt→SortSt→Prop}(h0:IntKeys a₀)(inc:Inc a₀)(hn:nrem≤a₀.size)(ha:1≤a)(han:a≤nrem)(hB:SB a₀ st a)
  (hs:St (arrOf st) a) (h:∀ n,a≤n→n≤nrem→St (arrOf st) n→(n=nrem∨K (arrOf st) n<K (arrOf st) (n-1))→Q (none,n) st) :
  wpS (model prog w) A E s (ascLoop a nrem) Q st:=by
 unfold ascLoop
 refine wpS_forRange (I:=fun x c st'=>st'=st∧c=(none,x)∧St (arrOf st) x) ?step ?fin ⟨rfl,rfl,hs⟩
 case fin =>
  rintro c st' ⟨rfl,rfl,q⟩
  have e:max a nrem=nrem:=by omega
  rw[e] at q ⊢
  exact h nrem han (AsI _) q (.inl rfl)
 case step =>
  rintro x c st' hax hxn ⟨rfl,rfl,q⟩
  refine wpS_bind (wpS_ltK hB.base h0 (by omega) (by omega) ?_)
  by_cases hl:K (arrOf st') x<K (arrOf st') (x-1)
  ·simp only [hl,decide_true,if_true]
   exact wpS_pure (h x hax (by omega) q (.inr hl))
  ·simp only [hl,decide_false,Atp,if_false]
   refine wpS_pure ⟨rfl,rfl,fun i j hij hj=>?_⟩
   by_cases hjx:j<x
   ·exact q i j hij hjx
   ·have ej:j=x:=by omega
    subst ej
    have v:=(hB.up hax).vlt inc hij (AsI j) (by omega)
    have kk:K (arrOf st') i≤K (arrOf st') (j-1):=by
     by_cases hi:i=j-1
     ·rw[hi];exact AtY _
     ·have:=q i (j-1) (by omega) (by omega)
      unfold Lx at this
      omega
    unfold Lx
    omega
theorem Ag0{st:SortSt}{n nrem:Nat}{Q:Option Nat→SortSt→Prop}(h0:IntKeys a₀)(inc:Inc a₀)(hn:nrem≤a₀.size)(h1:1≤n)(hnn:n≤nrem)(hB:SB a₀ st n)
  (hs:De (arrOf st) n) (h:∀ m st',SB a₀ st' m→1≤m→m≤nrem→St (arrOf st') m→Q (some m) st') :
  wpS (model prog w) A E s (tail3 n nrem) Q st:=by
 unfold tail3
 have hz:n≤(arrOf st).size:=by rw[hB.base.size];omega
 refine wpS_bind (wpS_reverse ?_)
 have hB':=hB.mir (by omega) (i:=0) (j:=n) (AsI n)
 refine wpS_bind (Akr h0 inc hn h1 hnn hB' ?_ fun m a1 a2 a3 _=>wpS_pure (h m _ (hB'.up a1) (by omega) a2 a3))
 intro i j hij hj
 show Lx (mirror (arrOf st) 0 n ((n-0) / 2)) i j
 unfold Lx
 rw[K_mirror hz,K_mirror hz,Rz hz,Rz hz,if_pos (by omega),if_pos (by omega),if_pos (by omega),if_pos (by omega)]
 exact hs _ _ (by omega) (by omega)
theorem Amf{st:SortSt}{n nrem:Nat}{Q:DescSt→SortSt→Prop}(h0:IntKeys a₀)(inc:Inc a₀)(hn:nrem≤a₀.size)(hnn:n≤nrem)(hB:SB a₀ st n)
  (hs:Dr (arrOf st) n 0) (h:∀ m neq st',SB a₀ st' m→n≤m→m≤nrem→Dr (arrOf st') m neq→Q (none,m,neq) st') :
  wpS (model prog w) A E s (descLoop n nrem) Q st:=by
 unfold descLoop
 refine wpS_forRange (I:=fun x c st'=>∃ q,c=(none,x,q)∧SB a₀ st' x∧Dr (arrOf st') x q) ?step ?fin ⟨0,rfl,hB,hs⟩
 case fin =>
  rintro c st' ⟨q,rfl,b,d⟩
  have e:max n nrem=nrem:=by omega
  rw[e] at b d ⊢
  exact h nrem q st' b hnn (AsI _) d
 case step =>
  rintro x c st' hax hxn ⟨q,rfl,b,d⟩
  have x1:=d.le
  have hz:x≤(arrOf st').size:=by rw[b.base.size];omega
  dsimp only
  refine wpS_bind (wpS_ltK b.base h0 (by omega) (by omega) ?_)
  by_cases hl:K (arrOf st') x<K (arrOf st') (x-1)
  ·simp only [hl,decide_true,if_true]
   by_cases hq:q>0
   ·rw[if_pos hq]
    refine wpS_bind (wpS_reverse (wpS_pure ⟨0,rfl,(b.mir (by omega) (AsI x)).up (Atj x),De.next (d.rev hz) (by omega) ?_⟩))
    show K (mirror (arrOf st') _ _ _) _<K (mirror (arrOf st') _ _ _) _
    rw[K_mirror hz,K_mirror hz,if_neg (by omega),if_pos (by omega)]
    have:=(d.run (x-(q+1)+x-1-(x-1)) (x-1) (by omega) (by omega) (by omega)).1
    rw[this]
    exact hl
   ·rw[if_neg hq]
    have eq:q=0:=by omega
    subst eq
    exact wpS_pure ⟨0,rfl,b.up (Atj x),d.one.next (by omega) hl⟩
  ·simp only [hl,decide_false,Atp,if_false]
   refine wpS_bind (wpS_ltK b.base h0 (by omega) (by omega) ?_)
   by_cases hg:K (arrOf st') (x-1)<K (arrOf st') x
   ·simp only [hg,decide_true,if_true]
    exact wpS_pure (h x q st' b hax (by omega) d)
   ·simp only [hg,decide_false,Atp,if_false]
    exact wpS_pure ⟨q+1,rfl,b.up (Atj x),d.eq (by omega) fun i hi=>b.vlt inc hi (AsI x) (by omega)⟩
theorem Acf{st:SortSt}{n nrem:Nat}{Q:Option Nat→SortSt→Prop}(h0:IntKeys a₀)(inc:Inc a₀)(hn:nrem≤a₀.size)(hnn:n+1≤nrem)(hB:SB a₀ st (n+1))
  (hs:Dr (arrOf st) (n+1) 0) (h:∀ m st',SB a₀ st' m→1≤m→m≤nrem→St (arrOf st') m→Q (some m) st') :
  wpS (model prog w) A E s (descPart n nrem) Q st:=by
 unfold descPart
 refine wpS_bind (wpS_lift (wpAny_rule ⟨rfl,?_⟩))
 refine wpS_bind (Amf h0 inc hn hnn hB hs fun m q st' b m1 m2 d=>?_)
 dsimp only
 have hz:m≤(arrOf st').size:=by rw[b.base.size];omega
 by_cases hq:q>0
 ·rw[if_pos hq]
  exact wpS_bind (wpS_reverse (Ag0 h0 inc hn (by omega) m2 (b.mir (by omega) (AsI m)) (d.rev hz) h))
 ·rw[if_neg hq]
  have eq:q=0:=by omega
  subst eq
  exact Ag0 h0 inc hn (by omega) m2 b d.one h
theorem Ag1{st:SortSt}{nrem:Nat}{Q:Option Nat→SortSt→Prop}(h0:IntKeys a₀)(inc:Inc a₀)(hn:nrem≤a₀.size)(h1:1≤nrem)(hB:SB a₀ st 0)
  (h:∀ m st',SB a₀ st' m→1≤m→m≤nrem→St (arrOf st') m→Q (some m) st') :
  wpS (model prog w) A E s (countRun' 0 nrem) Q st:=by
 rw[countRun0_eq]
 have hB1:SB a₀ st 1:=hB.up (AsM 1)
 refine wpS_bind (Akr h0 inc hn (AsI 1) h1 hB1 (fun i j hij hj=>by omega) fun n n1 n2 q hor=>?_)
 dsimp only
 have bn:=hB1.up n1
 have hz:n≤(arrOf st).size:=by rw[hB.base.size];omega
 by_cases e:n=nrem
 ·rw[if_pos (by simpa using e)]
  exact wpS_pure (h n st bn n1 n2 q)
 ·rw[if_neg (by simpa using e)]
  have hl:=hor.resolve_left e
  by_cases g:n>1
  ·rw[if_pos g]
   refine wpS_bind (wpS_ltK hB.base h0 (by omega) (by omega) ?_)
   by_cases r:K (arrOf st) 0<K (arrOf st) (n-1)
   ·simp only [r,decide_true,if_true]
    exact wpS_pure (h n st bn n1 n2 q)
   ·simp only [r,decide_false,Atp,if_false]
    have al:=q.all r
    have hm:=bn.mir (by omega) (i:=0) (j:=n) (AsI n)
    refine wpS_bind (wpS_reverse (Acf h0 inc hn (by omega) (hm.up (Atj n)) (De.next ?_ n1 ?_) h))
    ·intro i j hij hj
     show Lx (mirror (arrOf st) _ _ _) j i
     unfold Lx
     rw[K_mirror hz,K_mirror hz,Rz hz,Rz hz,if_pos (by omega),if_pos (by omega),if_pos (by omega),if_pos (by omega)]
     refine .inr ⟨?_,(al _ (by omega)).2 _ (by omega) (by omega)⟩
     rw[(al _ (by omega)).1,(al (0+n-1-i) (by omega)).1]
    ·show K (mirror (arrOf st) _ _ _) _<K (mirror (arrOf st) _ _ _) _
     rw[K_mirror hz,K_mirror hz,if_neg (by omega),if_pos (by omega),(al (0+n-1-(n-1)) (by omega)).1]
     exact hl
  ·rw[if_neg g]
   have e1:n=1:=by omega
   subst e1
   exact Acf h0 inc hn (by omega) (bn.up (Atj 1)) (De.next (fun i j hij hj=>by omega) (AsI 1) hl) h
theorem Ajr{st:SortSt}{n ok:Nat}{Q:Bool→SortSt→Prop}(h0:IntKeys a₀)(inc:Inc a₀)(hn:n≤a₀.size)(ok1:1≤ok)(hok:ok≤n)(hB:SB a₀ st ok)(hs:St (arrOf st) ok)
  (h:∀ st',SB a₀ st' n→St (arrOf st') n→Q true st'):wpS (model prog w) A E s (binarySort' 0 n ok) Q st:=by
 rw[binarySort'_eq]
 simp only [AtM]
 have em:max ok 1=ok:=by omega
 rw[em]
 refine wpS_bind (wpS_mono (wpS_forRange (I:=fun k c st'=>c=(none,())∧SB a₀ st' k∧St (arrOf st') k) (Q:=fun c st'=>c=(none,())∧SB a₀ st' n∧St (arrOf st') n) ?step ?fin ⟨rfl,hB,hs⟩) ?post)
 case post =>
  rintro c st' ⟨rfl,b,q⟩
  exact wpS_pure (h st' b q)
 case fin =>
  rintro c st' ⟨hc,b,q⟩
  have e:max ok n=n:=by omega
  rw[e] at b q
  exact⟨hc,b,q⟩
 case step =>
  rintro k c st' hak hkn ⟨rfl,b,q⟩
  have hk:k<a₀.size:=by omega
  have le:∀ i j,i≤j→j<k→K (arrOf st') i≤K (arrOf st') j:=fun i j hij hj=>by
   by_cases e:i=j
   ·rw[e];exact AtY _
   ·have:=q i j (by omega) hj
    unfold Lx at this
    omega
  refine wpS_bind (wpS_mono (wpS_forRange (I:=fun x c st2=>st2=st'∧∃ l r,c=(none,l,r)∧l≤r∧r≤k∧r-l≤k-x ∧
    (∀ i,i<l→K (arrOf st') i≤K (arrOf st') k)∧(∀ i,r≤i→i<k→K (arrOf st') k<K (arrOf st') i))
   (Q:=fun c st2=>st2=st'∧∃ l,c=(none,l,l)∧l≤k∧(∀ i,i<l→K (arrOf st') i≤K (arrOf st') k)∧(∀ i,l≤i→i<k→K (arrOf st') k<K (arrOf st') i)) ?istep ?ifin
   ⟨rfl,0,k,rfl,by omega,by omega,by omega,fun i hi=>by omega,fun i h1 h2=>by omega⟩) ?ipost)
  case ifin =>
   rintro c st2 ⟨rfl,l,r,rfl,hlr,hrk,hm,lo,hi⟩
   have e:l=r:=by omega
   subst e
   exact⟨rfl,l,rfl,hrk,lo,hi⟩
  case istep =>
   rintro x c st2 _ hxk ⟨rfl,l,r,rfl,hlr,hrk,hm,lo,hi⟩
   dsimp only
   by_cases g:l ≥ r
   ·rw[if_pos g]
    have e:l=r:=by omega
    subst e
    exact wpS_pure ⟨rfl,l,rfl,hrk,lo,hi⟩
   ·rw[if_neg g]
    refine wpS_bind (wpS_ltK b.base h0 hk (by omega) ?_)
    by_cases hl:K (arrOf st2) k<K (arrOf st2) ((l+r) / 2)
    ·simp only [hl,decide_true,if_true]
     exact wpS_pure ⟨rfl,l,(l+r) / 2,rfl,by omega,by omega,by omega,lo,fun i h1 h2=>Int.lt_of_lt_of_le hl (le _ _ h1 h2)⟩
    ·simp only [hl,decide_false,Atp,if_false]
     exact wpS_pure ⟨rfl,(l+r) / 2+1,r,rfl,by omega,by omega,by omega,fun i h1=>Int.le_trans (le i ((l+r) / 2) (by omega) (by omega)) (Int.not_lt.mp hl),hi⟩
  case ipost =>
   rintro c st2 ⟨rfl,l,rfl,hlk,lo,hi⟩
   show wpS _ _ _ _ (do moveDown' k l;pure (ForInStep.yield (none,()))) _ _
   rw[moveDown'_eq]
   refine wpS_bind (wpS_modify (wpS_pure ⟨rfl,b.bub hk (by omega),?_⟩))
   have hz:k<(arrOf st2).size:=by rw[b.base.size];exact hk
   intro i j hij hj
   show Lx (bubble (arrOf st2) k (k-l)) i j
   have e:k-(k-l)=l:=by omega
   have vk:∀ x,x<k→V (arrOf st2) x<V (arrOf st2) k:=fun x hx=>b.vlt inc hx (AsI k) hk
   unfold Lx
   rw[K_bubble hz (by omega),K_bubble hz (by omega),Agz hz (by omega),Agz hz (by omega),e]
   by_cases c1:i=l
   ·have d1:¬j=l:=by omega
    have d2:l<j∧j≤k:=by omega
    rw[if_pos c1,if_pos c1,if_neg d1,if_neg d1,if_pos d2,if_pos d2]
    exact .inl (hi _ (by omega) (by omega))
   ·rw[if_neg c1,if_neg c1]
    by_cases c2:l<i∧i≤k
    ·have d1:¬j=l:=by omega
     have d2:l<j∧j≤k:=by omega
     rw[if_pos c2,if_pos c2,if_neg d1,if_neg d1,if_pos d2,if_pos d2]
     exact q _ _ (by omega) (by omega)
    ·rw[if_neg c2,if_neg c2]
     by_cases c3:j=l
     ·rw[if_pos c3,if_pos c3]
      have k1:=lo i (by omega)
      have k2:=vk i (by omega)
      omega
     ·rw[if_neg c3,if_neg c3]
      by_cases c4:l<j∧j≤k
      ·rw[if_pos c4,if_pos c4]
       exact q _ _ (by omega) (by omega)
      ·rw[if_neg c4,if_neg c4]
       exact q _ _ hij (by omega)
theorem Ag2{st:SortSt}{Q:Unit→SortSt→Prop}(h0:IntKeys a₀)(inc:Inc a₀)(hB:SBase a₀ st)(same:arrOf st=a₀)(h2:2≤a₀.size)(h64:a₀.size<64)
  (h:∀ st',(arrOf st').Perm a₀→failedOf st'=none→St (arrOf st') a₀.size→Q () st'):wpS (model prog w) A E s sortRuns' Q st:=by
 rw[sortRuns'_eq]
 refine wpS_bind (wpS_get ?_)
 dsimp only
 have hmr:minRun' a₀.size a₀.size 0=a₀.size:=by
  obtain⟨f,hf⟩:∃ f,a₀.size=f+1:=⟨a₀.size-1,by omega⟩
  have e:minRun' (f+1) a₀.size 0=a₀.size:=by rw[minRun'_succ,if_pos h64];rfl
  rwa [← hf] at e
 have b0:SB a₀ st 0:=⟨hB,fun j _=>by rw[same],fun i hi=>by omega⟩
 have ApC:∀ st',SB a₀ st' a₀.size→St (arrOf st') a₀.size →
   (arrOf (setPending st' ((pendingOf st').push (0,a₀.size,0)))).Perm a₀∧failedOf (setPending st' ((pendingOf st').push (0,a₀.size,0)))=none∧(pendingOf (setPending st' ((pendingOf st').push (0,a₀.size,0)))).size=1∧St (arrOf (setPending st' ((pendingOf st').push (0,a₀.size,0)))) a₀.size:=fun st' b q =>
  ⟨b.base.perm,b.base.failed,by show((pendingOf st').push _).size=1;rw[b.base.pend];rfl,q⟩
 simp only [hB.size,hmr]
 refine wpS_bind (wpS_mono (wpS_forRange
  (I:=fun x c st'=>(x=0∧c=(none,0)∧SB a₀ st' 0)∨(1≤x∧c=(none,a₀.size)∧(arrOf st').Perm a₀∧failedOf st'=none∧(pendingOf st').size=1∧St (arrOf st') a₀.size))
  (Q:=fun c st'=>c=(none,a₀.size)∧(arrOf st').Perm a₀∧failedOf st'=none∧(pendingOf st').size=1∧St (arrOf st') a₀.size) ?step ?fin (.inl ⟨rfl,rfl,b0⟩)) ?post)
 case fin =>
  rintro c st' (⟨hx,_,_⟩ | ⟨_,hc,hD⟩)
  ·omega
  ·exact⟨hc,hD⟩
 case step =>
  rintro x c st' _ hx (⟨rfl,rfl,b⟩ | ⟨hx1,rfl,hD⟩)
  ·dsimp only
   rw[if_neg (by omega)]
   simp only [AtZ,Auo,AtM]
   refine wpS_bind (Ag1 h0 inc (AsI _) (by omega) b fun m st2 b2 m1 m2 q2=>?_)
   dsimp only
   by_cases hlt:m<a₀.size
   ·rw[if_pos hlt]
    refine wpS_bind (wpS_lift (wpAny_rule ⟨rfl,?_⟩))
    refine wpS_bind (Ajr h0 inc (AsI _) m1 m2 b2 q2 fun st3 b3 q3=>?_)
    simp only [Bool.not_true,Atp,if_false]
    refine wpS_bind (wpS_get ?_)
    have hb:(pendingOf st3).back?=none:=by rw[b3.base.pend];rfl
    rw[hb]
    dsimp only
    exact wpS_bind (wpS_modify (wpS_pure (.inr ⟨by omega,rfl,ApC _ b3 q3⟩)))
   ·rw[if_neg hlt]
    have hm:m=a₀.size:=by omega
    subst hm
    refine wpS_bind (wpS_get ?_)
    have hb:(pendingOf st2).back?=none:=by rw[b2.base.pend];rfl
    rw[hb]
    dsimp only
    exact wpS_bind (wpS_modify (wpS_pure (.inr ⟨by omega,rfl,ApC _ b2 q2⟩)))
  ·dsimp only
   rw[if_pos (AsI _)]
   exact wpS_pure ⟨rfl,hD⟩
 case post =>
  rintro c st' ⟨rfl,hD⟩
  dsimp only
  refine wpS_bind (wpS_mono (wpS_forRange (I:=fun _ c st2=>st2=st'∧c=(none,())) (Q:=fun c st2=>st2=st'∧c=(none,())) ?_ (fun _ _ hh=>hh) ⟨rfl,rfl⟩) ?_)
  ·rintro x c st2 _ _ ⟨rfl,rfl⟩
   refine wpS_bind (wpS_get ?_)
   rw[if_pos (by rw[hD.2.2.1];exact AsI 1)]
   exact wpS_pure ⟨rfl,rfl⟩
  ·rintro c st2 ⟨rfl,rfl⟩
   exact wpS_pure (h _ hD.1 hD.2.1 hD.2.2.2)
end
end Stab
namespace L2
open PySem PySem.Spec PyProof.Rows
def cdO (c:Addr)(q:Str):HO:=.ext fun h=>h.CodeRec (.ref c) q
def Tb (P:Addr)(q:Str)(H:Hp):Prop:=∃ ps:Array Value,H P=some (.tbl ps)∧TriplesOk ps.toList∧∀(pos:Pos) (cv:Value),codeAmong pos ps.toList=some cv→∃ c,cv=.ref c∧H c=some (cdO c q)
def Ea (H H':Hp):Prop:=∀ b o,H b=some o→(∀ ps,o≠.tbl ps)→H' b=some o
theorem Bl.toT{H H':Hp}(s:Bl H H'):Ea H H':=fun b o h _=>s b o h
theorem Ea.trans{H H1 H2:Hp}(a:Ea H H1)(b:Ea H1 H2):Ea H H2:=fun c o h n=>b c o (a c o h n) n
theorem Tb.same{P:Addr}{q:Str}{H H':Hp}(t:Tb P q H)(s:Bl H H'):Tb P q H':=by
 obtain⟨ps,h1,h2,h3⟩:=t
 refine⟨ps,s _ _ h1,h2,fun pos cv e=>?_⟩
 obtain⟨c,e1,e2⟩:=h3 pos cv e
 exact⟨c,e1,s _ _ e2⟩
theorem Ea.lst{H H':Hp}(s:Ea H H'){a:Addr}{xs:List V}(h:H a=some (.lst xs)):H' a=some (.lst xs):=s a _ h fun _ z=>HO.noConfusion z
theorem Ea.tup{H H':Hp}(s:Ea H H'){a:Addr}{xs:List V}(h:H a=some (.tup xs)):H' a=some (.tup xs):=s a _ h fun _ z=>HO.noConfusion z
theorem Ea.ext{H H':Hp}(s:Ea H H'){a:Addr}{φ:Heap→Prop}(h:H a=some (.ext φ)):H' a=some (.ext φ):=s a _ h fun _ z=>HO.noConfusion z
theorem Ea.seq{K:PySem.W.Frag}{H H':Hp}{a:Addr}{xs:List V}(s:Ea H H')(h:SqL K H a xs):SqL K H' a xs:=by
 rcases h with (h | ⟨o,h⟩) | h
 ·exact .inl (.inl (s.lst h))
 ·exact .inl (.inr ⟨o,s a _ h fun _ z=>HO.noConfusion z⟩)
 ·exact .inr h
theorem Ah8{pos pos':Pos}{c cv:Value}(l:List Value)(h:TriplesOk l):codeAmong pos' (l++[rawInt pos.line,rawInt pos.col,c])=some cv→codeAmong pos' l=some cv∨cv=c:=by
 fun_induction TriplesOk l with
 | case1 =>
  intro e
  simp only [AtE,codeAmong,rawInt] at e
  split at e
  ·exact .inr (Option.some.inj e).symm
  ·cases e
 | case2 a t b u x rest ih =>
  intro e
  simp only [Auz,codeAmong] at e ⊢
  split at e
  ·rename_i hc
   rw[if_pos hc]
   exact .inl e
  ·rename_i hc
   rw[if_neg hc]
   exact ih h e
 | case3 l h1 h2=>exact h.elim
theorem Aob{P:Program}{w:World}{H:Hp}{h:Heap}{c:Addr}{q:Str}(r:h.CodeRec (.ref c) q):JH P w H h c (cdO c q):=by
 obtain⟨c',o,vs,t,e,g,d,v⟩:=id r
 cases e
 refine⟨r,⟨o,g⟩,fun h1 h2 r1 k=>?_⟩
 obtain⟨c2,o2,vs2,t2,e2,g2,d2,v2⟩:=r1
 cases e2
 exact⟨c,o2,vs2,t2,rfl,k _ g2,d2,v2⟩
section
variable {X:Cx}{pins:List (Addr × Obj)}{σ:St}{H:Hp}{s:Shared}
theorem Inv.table{h':Heap}{tk:Nat}{P c':Addr}{q:Str}{ps more:Array Value}(I:Inv X pins σ H s)(hP:H P=some (.tbl ps))(hx:Heap.ExtBut P s.heap h')(hsz:s.heap.objs.size≤c')
  (hrec:h'.CodeRec (.ref c') q) (htb:h'.get? P=some (PySem.W.tabObj (ps++more))) :
  Inv X pins σ (upd (upd H P (.tbl (ps++more))) c' (cdO c' q)) { s with heap:=h',toks:=tk }:=by
 have nP:∀ b,H b=none→b≠P:=fun b n e=>by rw[e,hP] at n;cases n
 have hc:H c'=none:=I.hok.fresh hsz
 have cP:c'≠P:=nP c' hc
 have lt:∀ b o,s.heap.get? b=some o→b≠c':=fun b o e z=>absurd (Heap.lt_size e) (by rw[z];exact Nat.not_lt.mpr hsz)
 have nc:∀ b u,H b=some u→b≠c':=fun b u e z=>by rw[z,hc] at e;cases e
 have up:∀ b,b≠P→b≠c'→upd (upd H P (.tbl (ps++more))) c' (cdO c' q) b=H b:=fun b n1 n2=>by rw[Bh n2,Bh n1]
 refine I.step (ch:=[]) (g':=s.gens) (d':=s.drawn) (fun _ z=>nomatch z) (fun b o _ _ _ e n=>hx b o (nP b n) e) (fun b o _ _ _ e n=>⟨o.slots,hx b o (nP b n) e⟩) (fun b o _ e n=>by rw[up b (nP b n) (lt b o e)];exact n)
  (fun b o _ e=>?_) (fun b xs e=>?_) (fun b o u e=>?_) (fun b ps' e=>?_) (fun m hm=>hm.extBut hx (nP _ I.free)) (fun b u e=>?_) I.bare
 ·by_cases h:b=P
  ·rw[h];exact⟨_,htb⟩
  ·exact⟨o,hx b o h e⟩
 ·rw[up b (fun z=>by rw[z,hP] at e;cases e) (nc b _ e)];exact e
 ·rw[up b (fun z=>by rw[z,hP] at e;cases e) (nc b _ e)];exact e
 ·by_cases h:b=P
  ·rw[h,hP] at e
   cases e
   exact⟨more,by rw[h,Bh (Ne.symm cP),Ae]⟩
  ·exact⟨#[],by rw[up b h (nc b _ e),e];simp⟩
 ·by_cases h1:b=c'
  ·rw[h1,Ae] at e
   cases e
   rw[h1]
   exact Aob hrec
  ·rw[Bh h1] at e
   by_cases h2:b=P
   ·rw[h2,Ae] at e
    cases e
    rw[h2]
    exact htb
   ·rw[Bh h2] at e
    refine(I.hok b u e).stay (fun c v hc' r=>hx c v ?_ r) (fun c r=>?_) fun c xs r=>?_
    ·rcases hc' with z | z
     ·rw[z];exact h2
     ·intro z2;rw[z2,hP] at z;cases z
    ·rw[up c (fun z=>by rw[z,hP] at r;cases r) (nc c _ r)];exact r
    ·rw[up c (fun z=>by rw[z,hP] at r;cases r) (nc c _ r)];exact r
def Bm (mg:Str→Option Value)(base:Heap):Prop:=∃ bm ob,mg "__builtins__" = some (.ref bm)∧bm≠builtinsNs∧base.get? bm=some ob∧ob.cls=.type "module" ∧ ob.dict=some builtinsNs∧ob.data=.plain
theorem Aks{P c:Addr}{q:Str}{params:Arguments}{body:Expr}{scope:Scope}{Amg:Pos}{clos:List (Str × Addr)}{R:Value→Shared→Prop}{E:Value→Shared→Prop}{A:Around}
  (I:Inv X pins σ H s) (tb:Tb P q H) (hcode:X.env.code=.ref c) (C:PySem.W.CodeHd X.base c P) (B:Bm X.mg X.base) (hq:X.env.qual ++ "<lambda>" = q)
  (hdef:defaultsOf params X.env=([],[])) (hcl:closureFor scope X.env=pure clos)
  (k:∀(f c':Addr) (pm ctv:Value) (H':Hp) (s':Shared),Ea H H'→Tb P q H'→H' c'=some (cdO c' q)→s.heap.objs.size≤s'.heap.objs.size →
   Inv X ((f,PySem.W.kla_obj "<lambda>" q params body scope clos pm c' ctv)::pins) σ H' s'→R (.ref f) s') :
  wpAny (model X.prog X.w) A (eval (.Lambda params body scope Amg) X.env) R E s:=by
 refine PySem.W.kla_eval hdef ?_
 rw[hq]
 obtain⟨ps,hP,ht,hc⟩:=tb
 have gP:s.heap.get? P=some (PySem.W.tabObj ps):=I.hok P _ hP
 obtain⟨bm,ob,b1,b2,b3,b4,b5,b6⟩:=B
 have hgP:mainGlobals≠P:=fun e=>by
  obtain⟨o,es,ep,g,d,_⟩:=I.mod.glob
  have z:=(I.bs _ _ g).2
  rw[e,hP] at z
  cases z
 have hbP:bm≠P:=fun e=>by
  have z:=(I.bs _ _ b3).2
  rw[e,hP] at z
  cases z
 have hbG:bm≠mainGlobals:=fun e=>by
  obtain⟨o,es,ep,g,d,_⟩:=I.mod.glob
  rw[e,g] at b3
  cases b3
  rw[d] at b6
  cases b6
 have hB:s.heap.BuiltinsAt X.mg P:=⟨bm,ob,b1,b2,hbG,hbP,I.bk _ _ b3,b4,b5,b6⟩
 have hG:s.heap.Ns mainGlobals X.mg:=I.mod.glob.keeps I.bk
 have fin:∀(H':Hp) (h':Heap) (tk:Nat) (o:Obj),o.isFreed=false→(∀ v,o.data≠.cell v)→s.heap.objs.size≤h'.objs.size→Inv X pins σ H' { s with heap:=h',toks:=tk } →
   Inv X ((h'.objs.size,o)::pins) σ H' { s with heap:=h'.push o,toks:=tk }:=fun H' h' tk o hfr hd hsz J=>by
  have J2:Inv X pins σ H' { s with heap:=h'.push o,toks:=tk }:=J.kept (t':=tk) fun b u e=>Heap.get?_push_of_some _ e
  refine J2.Ju fun p hp=>?_
  rcases List.mem_cons.mp hp with rfl | hp
  ·exact⟨Heap.get?_push_size _ hfr,J.hok.fresh (AsI _),Ato (AsO I.lt hsz),I.An8 hsz,hd⟩
  ·exact J2.pin p (AsZ _ hp)
 have Anj:∀(h':Heap) (o:Obj),s.heap.objs.size≤h'.objs.size→s.heap.objs.size≤(h'.push o).objs.size:=fun h' o h=>by rw[Heap.size_push];exact Nat.le_succ_of_le h
 cases e:codeAmong Amg ps.toList with
 | none =>
  refine PySem.W.kla_makeFunction (mg:=X.mg) (ps:=ps) hcl I.ok.glob hG hcode (C.keeps I.bk) gP ht e hgP hB fun c' ctv h' tk hx hge hlt hrec htb=>?_
  have J:=I.table (tk:=tk) (q:=q) hP hx hge hrec htb
  have hcf:H c'=none:=I.hok.fresh hge
  have nP:P≠c':=fun z=>by rw[z,hcf] at hP;cases hP
  refine k _ c' _ ctv _ _ (fun b o h n=>?_) ⟨_,by rw[Bh nP,Ae],?_,fun pos cv e2=>?_⟩ Ae (Anj h' _ (Atx (Aul hge hlt))) (fin _ h' tk _ rfl (fun v z=>by cases z) (Atx (Aul hge hlt)) J)
  ·rw[Bh (fun z=>by rw[z,hcf] at h;cases h),Bh (fun z=>by rw[z,hP] at h;exact n _ (Option.some.inj h).symm)]
   exact h
  ·rw[Array.toList_append]
   exact TriplesOk_snoc _ _ _ _ ht
  ·rw[Array.toList_append] at e2
   rcases Ah8 _ ht e2 with e3 | e3
   ·obtain⟨c1,z1,z2⟩:=hc _ _ e3
    exact⟨c1,z1,by rw[Bh (fun z=>by rw[z,hcf] at z2;cases z2),Bh (fun z=>by rw[z,hP] at z2;cases z2)];exact z2⟩
   ·exact⟨c',e3,Ae⟩
 | some cv =>
  obtain⟨c1,rfl,hc1⟩:=hc _ _ e
  refine PySem.W.kla_makeFunctionHit (mg:=X.mg) (ps:=ps) hcl I.ok.glob hG hcode (C.keeps I.bk) gP ht e hB fun ctv h' tk hk hsz=>?_
  exact k _ c1 _ ctv H _ (Bl.refl H).toT ⟨ps,hP,ht,hc⟩ hc1 (Anj h' _ hsz) (fin H h' tk _ rfl (fun v z=>by cases z) hsz (I.kept (t':=tk) hk))
def ApD (X:Cx)(A:Around)(N:List Str)(env:Env)(s:Shared)(H:Hp):Cx where
 prog:=X.prog
 w:=X.w
 K:=X.K
 mg:=X.mg
 base:=X.base
 A:=A.deeper env
 N:=N
 s₀:=s
 H₀:=H
 env:=env
 outer:=X.stack
 stack:=env::X.stack
 ex:=[]
 calm:=true
 fn:=fun _=>false
 pn:=[]
 xe:=fun _ _=>False
theorem Akt{A:Around}{f c' cc:Addr}{q x nm:Str}{params:Arguments}{body:Expr}{scope:Scope}{pm ctv u:Value}{j:Nat}{y v:V}{Q:VK}{t:TE}{E:Value→Shared→Prop}
  (I:Inv X pins σ H s) (hA:A.frames=some X.stack) (hd:A.handled=none) (hroom:A.depth<recursionLimit)
  (hf:(f,PySem.W.kla_obj "<lambda>" q params body scope [(nm,cc)] pm c' ctv)∈pins) (hc:H c'=some (cdO c' q))
  (hN:X.N[j]?=some nm) (hv:σ[j]?=some (some v)) (hk:X.env.kindOf nm=some .cell) (hcc:X.env.cells.lookup nm=some cc)
  (hnames:scope.names=[(x,.local),(nm,.free)]) (hxn:x≠nm) (hkind:scope.kind=.function) (hco:scope.isCoroutine=false) (hgen:scope.isGenerator=false)
  (hbind:∀ w:Value,bindArgs (PySem.W.kla_fn "<lambda>" q params body scope [(nm,cc)] pm (.ref c') ctv) ⟨[w],[]⟩=pure [(x,w)])
  (ru:RelV y u) (hb:∀(env:Env) (s:Shared) (H:Hp),env.scope=scope→PE (ApD X A [x,nm] env s H) body t) (h:t [some y,some v] H Q) :
  wpAny (model X.prog X.w) A (call (.ref f) [u]) (EP X pins σ Q) E s:=by
 have hx1:scope.names.lookup x=some .local:=by rw[hnames];simp
 have hx2:scope.names.lookup nm=some .free:=by rw[hnames,Ati,beq_false_of_ne (Ne.symm hxn)];simp
 have hpf:=I.pin _ (AsZ _ hf)
 have hrec:s.heap.CodeRec (.ref c') q:=(I.hok c' _ hc).1
 have vis:Vis X.env.scope nm:=.inr (.inl hk)
 obtain⟨m,hns,hl⟩:=I.loc
 obtain⟨u',rv,lk⟩:=hl j nm v hN hv vis
 have hcell:s.heap.IsCell cc (some u'):=by
  rcases lk with ⟨z,_⟩ | ⟨_,c2,e2,z⟩
  ·have:some NameKind.local=some NameKind.cell:=z.symm.trans hk
   cases this
  ·rw[hcc] at e2
   cases e2
   exact z
 refine wpAny_call (codeAny_mono (R:=fun r s'=>match r with | .ok (.ret u)=>EP X pins σ Q u s' | _=>False)
  (PySem.W.kla_callFunE hroom hpf.1 rfl hco hgen rfl hrec ?_) fun r s' hq=>?_)
 ·rw[hbind u]
  refine wpAny_pure (wpAny_newFunctionEnv (fun p hp=>?_) (fun p hp=>?_) (fun h₁ hn hsb=>⟨I.nolimit.fresh _ hsb,?_⟩) hkind)
  ·rw[show(PySem.W.kla_fn "<lambda>" q params body scope [(nm,cc)] pm (.ref c') ctv).scope=scope from rfl,hnames] at hp
   rcases List.mem_cons.mp hp with rfl | hp
   ·intro z;cases z
   ·rw[List.mem_singleton.mp hp];intro z;cases z
  ·rw[List.mem_singleton.mp hp];exact hx1
  ·have hk₁:∀ b o,s.heap.get? b=some o→h₁.get? b=some o:=fun b o e=>hsb.extBut b o (AsL (Heap.lt_size e)) (Heap.get?_push_of_some _ e)
   show codeAny _ _ (.expr body (PySem.W.envX q scope s.heap.objs.size f (.ref c') [(nm,cc)])) _ _
   have one:∀ z c,([(nm,cc)]:List (Str × Addr)).lookup z=some c→z=nm∧c=cc:=fun z c e=>by
    rw[Ati] at e
    cases hz:z == nm with
    | true=>rw[hz] at e;exact⟨eq_of_beq hz,(Option.some.inj e).symm⟩
    | false=>rw[hz] at e;cases e
   have J:Inv (ApD X A [x,nm] (PySem.W.envX q scope s.heap.objs.size f (.ref c') [(nm,cc)]) s H) [] [some y,some v] H { s with heap:=h₁,toks:=s.toks+[(x,u)].length }:=by
    refine⟨⟨I.ok.mod,hkind,rfl,rfl,AsI _,fun a b c e1 e2=>(one _ _ e1).1.trans (one _ _ e2).1.symm,fun z hz=>?_,fun z c e1 e2=>Bool.noConfusion e1,fun _=>hd,Around.frames_deeper hA,.inr ⟨rfl,rfl⟩,
     fun b z=>absurd (show b∈([]:List Addr) from z) (by simp),I.bs,AsX I.ok.bsz I.sz,fun b _ _ z=>absurd (show b∈([]:List Addr) from z) (by simp),fun b z=>absurd (show b∈([]:List Addr) from z) (by simp),I.stack,I.Aab⟩,
     rfl,I.bare,Un.kept hk₁,⟨_,hn,fun i n v' e1 e2 e3=>?_⟩,fun z c e=>?_,I.hok.fresh (AsI _),fun z c e=>?_,fun p hp=>absurd (show p∈([]:List (Addr × Obj)) from hp) (by simp),I.hok.kept hk₁,rfl⟩
    ·have hz':scope.names.lookup z=some .cell∨scope.names.lookup z=some .free:=hz
     have hm:(z,NameKind.cell)∈scope.names∨(z,NameKind.free)∈scope.names:=hz'.imp PySem.mem_of_lookup PySem.mem_of_lookup
     rw[hnames] at hm
     have hzn:z=nm:=by
      rcases hm with hm | hm
      ·rcases List.mem_cons.mp hm with e | e
       ·cases e
       ·cases List.mem_singleton.mp e
      ·rcases List.mem_cons.mp hm with e | e
       ·cases e
       ·exact(Prod.mk.inj (List.mem_singleton.mp e)).1
     exact⟨cc,by rw[hzn];show([(nm,cc)]:List (Str × Addr)).lookup nm=_;simp⟩
    ·match i,e1,e2 with
     | 0,e1,e2 =>
      cases e1
      cases e2
      exact⟨u,ru,.inl ⟨hx1,by simp⟩⟩
     | 1,e1,e2 =>
      cases e1
      cases e2
      obtain⟨o,g,d⟩:=hcell
      exact⟨u',rv,.inr ⟨.inr hx2,cc,by show([(nm,cc)]:List (Str × Addr)).lookup nm=_;simp,o,hk₁ _ _ g,d⟩⟩
     | i+2,e1,e2=>cases e1
    ·obtain⟨o,g,d⟩:=hcell
     rw[(one z c e).2]
     exact⟨some u',o,hk₁ _ _ g,d⟩
    ·rw[(one z c e).2]
     exact I.Kw nm cc hcc
   refine PySem.W.kla_codeExpr (wpAny_mono (hb (PySem.W.envX q scope s.heap.objs.size f (.ref c') [(nm,cc)]) s H rfl [] _ [some y,some v] H Q J h) (fun u2 s' hq=>?_) fun _ _ z=>z.elim)
   obtain⟨v',H',J',r',q'⟩:=hq
   exact I.after ⟨v',H',J'.os,J'.bare,J'.base,J'.hok,r',q'⟩
 ·cases r with
  | error e=>exact False.elim hq
  | ok fl =>
   cases fl with
   | ret u=>exact hq
   | next=>exact False.elim hq
   | brk=>exact False.elim hq
   | cont=>exact False.elim hq
end
open PySem PySem.Spec PyProof.Rows
section
variable {prog:Program}{w:World}{A:Around}{E:Value→Shared→Prop}{s:Shared}
theorem Ag3{Q:List Value→Shared→Prop}{r:Addr}{a b c:Int}{t u v:Tok}{n:Nat}(hh:A.handled=none)(hr:IsRange s.heap r a b c t u v)(hsmall:Builtin.Range.small a b c=true)
  (hn:Builtin.Range.rangeSize a b c=n) (hlen:n≤2 ^ 24)
  (hQ:∀ h' tk acc,(∀ b o,s.heap.get? b=some o→h'.get? b=some o)→s.heap.objs.size≤h'.objs.size→ItemsOf (fun i v=>∃ t,v=.int (a+i*c) t) acc n→Q acc.toList { s with heap:=h',toks:=tk }) :
  wpAny (model prog w) A (collect (.ref r)) Q E s:=by
 unfold collect
 refine wpAny_bind (wpAny_runValue (codeAny_builtin F.entry_proto_collect ?_))
 rw[Around.under_plainId F.plain_proto_collect _]
 show wpAny _ A.in1 (newList [] >>= fun l=>again (.builtin "list.__iadd__" ⟨[l,.ref r],[]⟩)) _ _ s
 refine wpAny_bind (wpAny_newObj_type ?_)
 refine wpAny_pure ⟨plainId_quiet F.plain_list_iadd _,codeAny_builtin F.entry_list_iadd ?_⟩
 rw[Around.under_plainId F.plain_list_iadd _]
 have hS₁:(s.heap.push { cls:=.type "list", data:=.seq ([]:List Value).toArray }).get? s.heap.objs.size=some { cls:=.type "list", data:=.seq ([]:List Value).toArray }:=Heap.get?_push_size _ rfl
 show wpAny _ A.in1 (Builtin.List.listExtendWith (.ref s.heap.objs.size) (.ref r) (.ref s.heap.objs.size)) _ _ _
 have fin:∀(r:Result) (s':Shared),(∃ h' tk acc' c',r=.ok (.ret (.ref s.heap.objs.size))∧s'={ s with heap:=h',toks:=tk }∧(∀ b o,b≠s.heap.objs.size→(s.heap.push { cls:=.type "list", data:=.seq ([]:List Value).toArray }).get? b=some o→h'.get? b=some o) ∧
   h'.get? s.heap.objs.size=some { cls:=.type "list", dict:=none,data:=.seq acc' c',slots:=#[] }∧ItemsOf (fun i v=>∃ t,v=.int (a+i*c) t) acc' n)→∃ h' tk acc' c',r=.ok (.ret (.ref s.heap.objs.size))∧s'={ s with heap:=h',toks:=tk } ∧
   h'.get? s.heap.objs.size=some { cls:=.type "list", dict:=none,data:=.seq acc' c',slots:=#[] }∧Q acc'.toList s':=by
  rintro r s' ⟨h',tk,acc',c',e1,e2,hk,hS',hacc⟩
  refine⟨h',tk,acc',c',e1,e2,hS',?_⟩
  rw[e2]
  exact hQ h' tk acc' (fun b o e=>hk b o (AsL (Heap.lt_size e)) (Heap.get?_push_of_some _ e)) (Atx (Heap.lt_size hS')) hacc
 refine wpAny_mono (wpAny_extend_range (s:={ s with heap:=s.heap.push { cls:=.type "list", data:=.seq ([]:List Value).toArray } }) (R:=fun r s'=>∃ h' tk acc' c',r=.ok (.ret (.ref s.heap.objs.size))∧s'={ s with heap:=h',toks:=tk }∧(∀ b o,b≠s.heap.objs.size→(s.heap.push { cls:=.type "list", data:=.seq ([]:List Value).toArray }).get? b=some o→h'.get? b=some o) ∧
   h'.get? s.heap.objs.size=some { cls:=.type "list", dict:=none,data:=.seq acc' c',slots:=#[] }∧ItemsOf (fun i v=>∃ t,v=.int (a+i*c) t) acc' n) hh (Heap.get?_push_of_some _ hr) hsmall hn hlen s.heap.objs.size (.ref s.heap.objs.size) 0 hS₁
  fun h' tk acc' c' hk hS' hacc=>⟨h',tk,acc',c',rfl,rfl,hk,hS',hacc⟩) (fun f s' hf=>?_) fun e s' hf=>?_
 ·cases f with
  | done f =>
   obtain⟨h',tk,acc',c',e1,e2,hS',q⟩:=fin _ _ hf
   cases e1
   subst e2
   show wpAny _ A (load s.heap.objs.size >>= _) _ _ _
   exact wpAny_bind (wpAny_load hS' (wpAny_pure q))
  | again c' =>
   refine⟨hf.1,codeAny_mono hf.2 fun r s' hr=>?_⟩
   obtain⟨h',tk,acc',c',e1,e2,hS',q⟩:=fin _ _ hr
   subst e1 e2
   show wpAny _ A (load s.heap.objs.size >>= _) _ _ _
   exact wpAny_bind (wpAny_load hS' (wpAny_pure q))
 ·obtain⟨h',tk,acc',c',e1,_⟩:=hf
  cases e1
end
theorem Ajs{items:List Value}{ns:List Int}(hi:IntsAre items ns){g:Int→Int}{keys:Array Value}(hk:IntsAre keys.toList (ns.map g)){p:Keyed}(hp:p∈keys.toList.zip items) :
  ∃ z,z∈ns∧numOf p.2=z∧numOf p.1=g z∧∃ t,p.2=.int z t:=by
 obtain⟨i,hl,e⟩:=Atl hp
 have h1:=hi.length
 have h2:=hk.length
 rw[AsH] at h2
 rw[List.length_zip] at hl
 have hn:i<ns.length:=by omega
 obtain⟨t1,e1⟩:=hi.get i ns[i] (AsJ hn)
 obtain⟨t2,e2⟩:=hk.get i (g ns[i]) (by rw[AsU,AsJ hn];rfl)
 rw[List.getElem_zip] at e
 have e1':items[i]'(by omega)=.int ns[i] t1:=Option.some.inj ((AsJ _).symm.trans e1)
 have e2':keys.toList[i]'(by omega)=.int (g ns[i]) t2:=Option.some.inj ((AsJ _).symm.trans e2)
 rw[e1',e2'] at e
 subst e
 exact⟨ns[i],AsV hn,rfl,rfl,t1,rfl⟩
theorem Amh{items:List Value}{ns:List Int}(hi:IntsAre items ns){g:Int→Int}{keys:Array Value}(hk:IntsAre keys.toList (ns.map g)){xs:Array Keyed}(hp:xs.Perm (keys.zip items.toArray))(hs:Stab.St xs xs.size) :
  ∃ ns':List Int,IntsAre (xs.map (·.2)).toList ns'∧ns'.Perm ns∧ns'.Pairwise (fun x y=>g x<g y∨(g x=g y∧x<y)):=by
 have hl:xs.toList.Perm (keys.toList.zip items):=by rw[← ksk_zip];exact Array.perm_iff_toList_perm.mp hp
 have al:∀ p∈xs.toList,∃ z,z∈ns∧numOf p.2=z∧numOf p.1=g z∧∃ t,p.2=.int z t:=fun p h=>Ajs hi hk (hl.mem_iff.mp h)
 have len:keys.toList.length=items.length:=by rw[hk.length,AsH,hi.length]
 refine⟨xs.toList.map fun p=>numOf p.2,?_,?_,?_⟩
 ·rw[Array.toList_map]
  have:=intsAre_map (xs.toList.map (·.2)) fun v hv=>by
   obtain⟨p,hp',rfl⟩:=List.mem_map.mp hv
   obtain⟨z,_,_,_,t,e⟩:=al p hp'
   exact⟨z,t,e⟩
  rw[AtF] at this
  exact this
 ·have h1:=hl.map fun p:Keyed=>numOf p.2
  have h2:(keys.toList.zip items).map (fun p:Keyed=>numOf p.2)=ns:=by
   rw[← hi.nums,show(fun p:Keyed=>numOf p.2)=numOf∘Prod.snd from rfl,← AtF,List.map_snd_zip (by omega)]
  rw[h2] at h1
  exact h1
 ·rw[Atr,Au0]
  intro i j h1 h2 hij
  have h1':i<xs.size:=by simpa using h1
  have h2':j<xs.size:=by simpa using h2
  have q:=hs i j hij h2'
  obtain⟨z1,_,a1,b1,_⟩:=al xs.toList[i] (AsV h1)
  obtain⟨z2,_,a2,b2,_⟩:=al xs.toList[j] (AsV h2)
  rw[a1,a2]
  unfold Stab.Lx at q
  rw[K_eq h1',K_eq h2'] at q
  unfold Stab.V at q
  rw[getElem?_pos xs i h1',getElem?_pos xs j h2'] at q
  simp only [Array.getElem_toList] at a1 a2 b1 b2
  simp only [a1,a2,b1,b2] at q
  exact q
theorem Ami{items:List Value}{ns:List Int}(hi:IntsAre items ns)(inc:ns.Pairwise (·<·)){keys:Array Value}(hl:keys.size=items.length):Stab.Inc (keys.zip items.toArray):=by
 intro i j hij hj
 have hz:(keys.zip items.toArray).size=items.length:=by rw[Array.size_zip,hl,AsK,Auo]
 have h1:=hi.length
 have val:∀ k (hk:k<items.length),Stab.V (keys.zip items.toArray) k=ns[k]'(by omega):=fun k hk=>by
  obtain⟨t,e⟩:=hi.get k ns[k] (AsJ (by omega))
  unfold Stab.V
  rw[getElem?_pos (keys.zip items.toArray) k (by omega)]
  simp only [Array.getElem_zip,List.getElem_toArray]
  rw[Option.some.inj ((AsJ hk).symm.trans e)]
  rfl
 rw[val i (by omega),val j (by omega)]
 exact List.pairwise_iff_getElem.mp inc i j (by omega) (by omega) hij
section
variable {X:Cx}{A:Around}{pins:List (Addr × Obj)}{σ:St}{E:Value→Shared→Prop}{a kS f:Addr}{items:List Value}{ns:List Int}{g:Int→Int}{e1:Nat}{Pst:PySem.Fin→Shared→Prop}
theorem Ag4{H:Hp}{s:Shared}{st:SortSt}{keys:Array Value}(hi:IntsAre items ns)(h64:ns.length<64)(hk:IntsAre keys.toList (ns.map g))
  (I:Inv X ((a,seqObj "list" #[] e1)::pins) σ (upd H kS (.lst (vI (ns.map g)))) s) (hkS:H kS=none) (a0:X.s₀.heap.objs.size≤a) (aC:∀ x c,X.env.cells.lookup x=some c→c≠a) (aP:∀ p∈X.pn++pins,p.1≠a)
  (hp:(arrOf st).Perm (keys.zip items.toArray)) (hs:Stab.St (arrOf st) (arrOf st).size) (hfl:failedOf st=none)
  (k:∀(H':Hp) (s':Shared) (ns':List Int),Bl H H'→H a=none→H' a=some (.lst (vI ns'))→ns'.Perm ns→ns'.Pairwise (fun x y=>g x<g y∨(g x=g y∧x<y))→Inv X pins σ H' s'→Pst (.done (.ret .none)) s') :
  wpAny (model X.prog X.w) A (ksk_tail a false e1 (.ref kS) st) Pst E s:=by
 have hsz:sizeLine=16777216:=sizeLine_eq
 obtain⟨ns',o1,o2,o3⟩:=Amh hi hk hp hs
 have pa:=I.pin (a,seqObj "list" #[] e1) (AsZ _ AsR)
 obtain⟨ga,na,aL,aF,_⟩:=pa
 have hak:a≠kS:=fun z=>by
  have na':upd H kS (.lst (vI (ns.map g))) a=none:=na
  rw[z,Ae] at na'
  cases na'
 have hHa:H a=none:=by
  have na':upd H kS (.lst (vI (ns.map g))) a=none:=na
  rw[Bh hak] at na'
  exact na'
 obtain⟨z,its,n,rv,hl,gk⟩:=I.Ae6 (l:=kS) Ae
 have hil:its.length=ns.length:=by rw[← hl,Bs,AsH]
 have s1:=Heap.SameBut.update s.heap kS (Obj.mapSeq fun _=>(#[]:Array Value))
 have I1:Inv X ((a,seqObj "list" #[] e1)::pins) σ (upd (upd H kS (.lst (vI (ns.map g)))) kS (.lst [])) { s with heap:=s.heap.update kS (Obj.mapSeq fun _=>(#[]:Array Value)),toks:=s.toks } :=
  I.AjW (its':=[]) (f:=fun _=>#[]) Ae gk rfl .nil (AsM _)
 rw[Aid] at I1
 have ga1:(s.heap.update kS (Obj.mapSeq fun _=>(#[]:Array Value))).get? a=some (seqObj "list" #[] e1):=(s1.2 a hak).trans ga
 have osz:((arrOf st).map (·.2)).size=ns'.length:=by rw[← o1.length,Array.length_toList]
 have o2l:=o2.length_eq
 unfold ksk_tail
 try dsimp only
 refine wpAny_bind (listUpdate_at gk rfl ?_ (by rw[AsK];omega) (AsM _))
 refine wpAny_bind (wpAny_letGo ?_)
 refine wpAny_bind (seqEpoch_at ga1 rfl ?_)
 refine wpAny_bind (listUpdate_at ga1 rfl ?_ (AsM _) (by simp only [Atp,if_false];rw[osz];omega))
 rw[hfl]
 simp only [bne_self_eq_false,Atp,if_false]
 refine wpAny_pure ?_
 have I1':Inv X pins σ (upd H kS (.lst [])) { s with heap:=s.heap.update kS (Obj.mapSeq fun _=>(#[]:Array Value)),toks:=s.toks }:=I1.Ju fun p hp=>I1.pin p (AsZ _ (AsW _ hp))
 have ha1:upd H kS (.lst []) a=none:=by rw[Bh hak];exact hHa
 generalize hh1:s.heap.update kS (Obj.mapSeq fun _=>(#[]:Array Value))=h1 at ga1 I1' ⊢
 have s2:=Heap.SameBut.update h1 a (Obj.mapSeq fun _=>(arrOf st).map (·.2))
 obtain⟨c2,hc2⟩:∃ c2,(h1.update a (Obj.mapSeq fun _=>(arrOf st).map (·.2))).get? a=some (seqObj "list" ((arrOf st).map (·.2)) c2):=⟨_,get?_update_seq ga1 fun _=>(arrOf st).map (·.2)⟩
 have nit:∀ b u,upd H kS (.lst []) b=some u→b≠a:=fun b u e z=>by rw[z,ha1] at e;cases e
 have J:Inv X pins σ (upd (upd H kS (.lst [])) a (.lst (vI ns'))) { s with heap:=h1.update a (Obj.mapSeq fun _=>(arrOf st).map (·.2)),toks:=s.toks }:=by
  refine Inv.step (s:={ s with heap:=h1,toks:=s.toks }) I1' (g':=s.gens) (d':=s.drawn) (ch:=[a]) (fun b hb=>?_) (fun b o _ _ hc e _=>(s2.2 b (fun z=>hc (by simp[z]))).trans e) (fun b o _ _ hc e _=>⟨o.slots,(s2.2 b (fun z=>hc (by simp[z]))).trans e⟩)
   (fun b o hc e n=>by rw[Bh (fun z=>hc (by simp[z]))];exact n) (fun b o hc e=>⟨o,(s2.2 b (fun z=>hc (by simp[z]))).trans e⟩) (fun b xs e=>by rw[Bh (nit b _ e)];exact e) (fun b o u e=>by rw[Bh (nit b _ e)];exact e)
   (fun b ps e=>⟨#[],by rw[Bh (nit b _ e),e];simp⟩) (fun m hm=>hm.sameBut s2 (Ne.symm aL)) (fun b u e=>?_) I1'.bare
  ·have e:b=a:=by simpa using hb
   rw[e]
   exact⟨.inr a0,aL,aC,aP⟩
  ·by_cases hb:b=a
   ·rw[hb,Ae] at e
    cases e
    rw[hb]
    exact⟨by rw[Bs];omega,((arrOf st).map (·.2)).toList,c2,Nq o1,hc2⟩
   ·rw[Bh hb] at e
    refine(I1'.hok b u e).stay (fun c v hc q=>(s2.2 c ?_).trans q) (fun c q=>by rw[Bh (nit c _ q)];exact q) fun c xs q=>by rw[Bh (nit c _ q)];exact q
    rcases hc with z | z
    ·rw[z];exact hb
    ·exact nit c _ z
 refine k _ _ ns' (fun b o h=>?_) hHa Ae o2 o3 J
 rw[Bh (fun z=>by rw[z,hHa] at h;cases h),Bh (fun z=>by rw[z,hkS] at h;cases h)]
 exact h
theorem Amj{H:Hp}{s:Shared}{keys:Array Value}(hi:IntsAre items ns)(inc:ns.Pairwise (·<·))(h64:ns.length<64)(hk:IntsAre keys.toList (ns.map g))
  (I:Inv X ((a,seqObj "list" #[] e1)::pins) σ (upd H kS (.lst (vI (ns.map g)))) s) (hkS:H kS=none) (a0:X.s₀.heap.objs.size≤a) (aC:∀ x c,X.env.cells.lookup x=some c→c≠a) (aP:∀ p∈X.pn++pins,p.1≠a)
  (k:∀(H':Hp) (s':Shared) (ns':List Int),Bl H H'→H a=none→H' a=some (.lst (vI ns'))→ns'.Perm ns→ns'.Pairwise (fun x y=>g x<g y∨(g x=g y∧x<y))→Inv X pins σ H' s'→Pst (.done (.ret .none)) s') :
  wpAny (model X.prog X.w) A (ksk_end a false items.toArray e1 (.ref kS) keys) Pst E s:=by
 have h1:=hi.length
 have hsz:keys.size=items.length:=by
  have h2:=hk.length
  rw[Array.length_toList,AsH] at h2
  omega
 have hzs:(keys.zip items.toArray).size=items.length:=by rw[Array.size_zip,hsz,AsK,Auo]
 unfold ksk_end
 try dsimp only
 simp only [Atp,if_false]
 by_cases h2:items.toArray.size<2
 ·rw[if_pos h2,if_pos h2]
  refine wpAny_bind (wpAny_pure ?_)
  rw[StateT.run_pure]
  refine wpAny_bind (wpAny_pure ?_)
  try dsimp only
  refine Ag4 (st:=SortSt.mk' general' (keys.zip items.toArray) #[] 7 none) hi h64 hk I hkS a0 aC aP (Array.Perm.refl _) ?_ rfl k
  intro i j hij hj
  have hj2:j<(keys.zip items.toArray).size:=hj
  rw[hzs] at hj2
  rw[AsK] at h2
  omega
 ·rw[if_neg h2,if_neg h2]
  rw[AsK] at h2
  rw[ksk_kind hk (by rw[hsz];omega)]
  refine wpAny_bind (wpAny_pure ?_)
  refine wpAny_bind (wpAny_mono (Stab.Ag2 (a₀:=keys.zip items.toArray) (st:=SortSt.mk' oneType' (keys.zip items.toArray) #[] 7 none)
   (Q:=fun _ st'=>(arrOf st').Perm (keys.zip items.toArray)∧failedOf st'=none∧Stab.St (arrOf st') (keys.zip items.toArray).size)
   (ksk_intKeys hk) (Ami hi inc hsz) ⟨Array.Perm.refl _,rfl,rfl,rfl⟩ rfl (by rw[hzs];omega) (by rw[hzs];omega) fun st' a1 a2 a3=>⟨a1,a2,a3⟩) ?_ fun _ _ e=>e)
  rintro⟨⟨⟩,st'⟩ s' ⟨rfl,hp,hf,hs⟩
  try dsimp only
  exact Ag4 hi h64 hk I hkS a0 aC aP hp (by rw[hp.size_eq];exact hs) hf k
theorem Aku{H:Hp}{s:Shared}{n0:Nat}(I:Inv X pins σ H s)(ha:H a=none)(hoa:s.heap.get? a=some (seqObj "list" items.toArray n0)) (a0:X.s₀.heap.objs.size≤a) (aL:a≠X.env.locals) (aF:a∉X.fs)
  (aC:∀ x c,X.env.cells.lookup x=some c→c≠a) (aP:∀ p∈X.pn++pins,p.1≠a) (hi:IntsAre items ns) (inc:ns.Pairwise (·<·)) (h64:ns.length<64)
  (turn:∀(z:Int) (t:Tok) (pl:List (Addr × Obj)) (H':Hp) (s':Shared),z∈ns→Bl H H'→Inv X (pl++pins) σ H' s' →
   wpAny (model X.prog X.w) A (call (.ref f) [.int z t]) (fun u s''=>(∃ t',u=.int (g z) t')∧Inv X (pl++pins) σ H' s'') (fun _ _=>False) s')
  (k:∀(H':Hp) (s':Shared) (ns':List Int),Bl H H'→H a=none→H' a=some (.lst (vI ns'))→ns'.Perm ns→ns'.Pairwise (fun x y=>g x<g y∨(g x=g y∧x<y))→Inv X pins σ H' s'→Pst (.done (.ret .none)) s') :
  wpAny (model X.prog X.w) A (ksk_tree a (.ref f) false) Pst E s:=by
 have hsz:sizeLine=16777216:=sizeLine_eq
 have hl:=hi.length
 have s1:=Heap.SameBut.update s.heap a (Obj.mapSeq fun _=>(#[]:Array Value))
 obtain⟨e1,ho1⟩:∃ e1,(s.heap.update a (Obj.mapSeq fun _=>(#[]:Array Value))).get? a=some (seqObj "list" #[] e1):=⟨_,get?_update_seq hoa fun _=>#[]⟩
 have alt:a<s.heap.objs.size:=Heap.lt_size hoa
 unfold ksk_tree
 refine wpAny_bind (listItems_at hoa rfl ?_)
 refine wpAny_bind (listUpdate_at hoa rfl ?_ (by rw[AsK];omega) (AsM _))
 refine wpAny_bind (seqEpoch_at ho1 rfl ?_)
 refine wpAny_bind (wpAny_newTuple ?_ (by show items.length≤_;omega))
 refine wpAny_bind (wpAny_newList ?_ (AsM _))
 refine wpAny_holding ?_
 have I1:Inv X pins σ H { s with heap:=s.heap.update a (Obj.mapSeq fun _=>(#[]:Array Value)),toks:=s.toks }:=I.turned (it:=a) (fun b o hb e=>(s1.2 b hb).trans e) ha aL (.inr a0) aC aP
 have I2:Inv X pins σ H { s with heap:=(s.heap.update a (Obj.mapSeq fun _=>(#[]:Array Value))).push (seqObj "tuple" items.toArray 0),toks:=s.toks }:=I1.kept (t':=s.toks) fun b u e=>Heap.get?_push_of_some _ e
 have I3:=I2.AnL (its:=[]) (ys:=[]) (t':=s.toks) .nil (AsM _)
 have ho3:=Heap.get?_push_of_some { cls:=.type "list", data:=.seq ([]:List Value).toArray } (Heap.get?_push_of_some (seqObj "tuple" items.toArray 0) ho1)
 have hkn:=I2.fresh
 dsimp only at I3 ho3 hkn ⊢
 generalize hkS:((s.heap.update a (Obj.mapSeq fun _=>(#[]:Array Value))).push (seqObj "tuple" items.toArray 0)).objs.size=kS at I3 hkn ⊢
 have hak:a≠kS:=by
  rw[← hkS,size_push',Heap.size_update]
  exact AsL (Atz alt)
 have I4:Inv X ((a,seqObj "list" #[] e1)::pins) σ (upd H kS (.lst (vI ((ns.map g).take 0)))) { s with heap:=((s.heap.update a (Obj.mapSeq fun _=>(#[]:Array Value))).push (seqObj "tuple" items.toArray 0)).push { cls:=.type "list", data:=.seq ([]:List Value).toArray },toks:=s.toks } :=
  I3.Ju fun p hp=>by
   rcases List.mem_cons.mp hp with rfl | hp
   ·exact⟨ho3,by rw[Bh hak];exact ha,aL,aF,fun v z=>by cases z⟩
   ·exact I3.pin p (AsZ _ hp)
 have ApE:∀ l,Bl H (upd H kS (.lst l)):=fun l b o h=>by rw[Bh (fun z=>by rw[z,hkn] at h;cases h)];exact h
 unfold ksk_rest
 refine wpAny_bind (wpAny_rule ?_)
 first
  | rw[List.forIn_toArray]
  | (rw[← Array.forIn_toList];simp only [List.toList_toArray])
  | rw[← Array.forIn_toList]
 refine wpAny_bind (ksk_fold (fun i s'=>Inv X ((a,seqObj "list" #[] e1)::pins) σ (upd H kS (.lst (vI ((ns.map g).take i)))) s') items 0 _ I4 ?step ?done)
 case step =>
  rintro j x s' hx J
  simp only [AtM] at J ⊢
  have hj:j<items.length:=(List.getElem?_eq_some_iff.mp hx).1
  obtain⟨z,t,rfl,hz⟩:=hi.at j x hx
  refine wpAny_bind (wpAny_attempt (wpAny_mono (turn z t [(a,seqObj "list" #[] e1)] _ s' (AsS hz) (ApE _) J) (fun u s'' he=>?_) fun _ _ hF=>hF.elim))
  obtain⟨⟨t',rfl⟩,J2⟩:=he
  try dsimp only
  obtain⟨_,its,n,rv,hl2,gk⟩:=J2.Ae6 (l:=kS) Ae
  have hil:its.length≤ns.length:=by
   rw[← hl2,Bs,Atd,AsH]
   exact Auw _ _
  refine wpAny_bind (listUpdate_at gk rfl ?_ (by rw[AsK];omega) (AsX (At9 (Array.size_push ..)) (by rw[AsK];omega)))
  refine wpAny_pure ⟨rfl,?_⟩
  have ek:(ns.map g).take (j+1)=(ns.map g).take j++[g z]:=by rw[Atm,AsU,hz];rfl
  have J3:=J2.AjW (its':=its++[.int (g z) t']) (ys:=vI ((ns.map g).take (j+1))) (f:=(·.push (.int (g z) t'))) (t':=s''.toks) Ae gk (by simp) (by
   rw[ek]
   unfold vI
   rw[AsP]
   exact rv.append (.cons ⟨t',rfl⟩ .nil)) (by rw[Bs,Atd,AsH];have:=Auw (j+1) ns.length;omega)
  rw[Aid] at J3
  exact J3
 case done =>
  rintro s' J
  have e3:(ns.map g).take (0+items.length)=ns.map g:=Atc (by rw[AsH];omega)
  rw[e3] at J
  obtain⟨_,its,n,rv,hl2,gk⟩:=J.Ae6 (l:=kS) Ae
  try dsimp only
  refine wpAny_bind (listItems_at gk rfl ?_)
  exact Amj hi inc h64 (by simpa using intsAre_of rv) J hkn a0 aC aP k
end
open PySem PySem.Spec PyProof.Rows
section
variable {X:Cx}{K:PySem.W.Frag}
def Akv (K:PySem.W.Frag)(P:Addr)(q:Str)(j:Nat)(te:TE):TE:=fun σ H Q=>te σ H fun x H1=>∃(p:Addr) (lo hi:Int) (n:Nat) (a:Addr) (ks:List Int),x=.ref p∧H1 p=some (Abx p lo hi 1)∧Builtin.Range.small lo hi 1=true ∧
 Builtin.Range.rangeSize lo hi 1=(n:Int)∧n<64∧σ[j]?=some (some (.ref a))∧SqL K H1 a (vI ks)∧0≤lo∧lo.toNat+n≤ks.length∧Tb P q H1 ∧
 ∀ l H2 ns',Ea H1 H2→Tb P q H2→H1 l=none→H2 l=some (.lst (vI ns'))→ns'.Perm (RQ lo 1 n) →
  ns'.Pairwise (fun x y => -(ks.getD x.toNat 0) < -(ks.getD y.toNat 0)∨(-(ks.getD x.toNat 0) = -(ks.getD y.toNat 0)∧x<y))→Q (.ref l) H2
theorem Akw(lo:Int)(n:Nat):(RQ lo 1 n).Pairwise (·<·):=by
 unfold RQ
 rw[Atr]
 exact List.pairwise_lt_range.imp fun {a b} h=>by omega
theorem Aan(lo:Int)(n:Nat):(RQ lo 1 n).length=n:=by unfold RQ;rw[AsH,AsQ]
theorem Ajt{lo:Int}{n:Nat}{acc:Array Value}(h:ItemsOf (fun i v=>∃ t,v=.int (lo+i*1) t) acc n):IntsAre acc.toList (RQ lo 1 n):=by
 refine intsAre_of (Adp _ _ (by rw[AsH,Aan,Array.length_toList,h.1]) fun i x u e1 e2=>?_)
 obtain⟨z,hz1,rfl⟩:=Nx e1
 obtain⟨t',rfl⟩:=h.2 i u (by rw[← Array.getElem?_toList];exact e2)
 have hin:i<n:=by
  have:=(List.getElem?_eq_some_iff.mp e1).1
  rwa [AsH,Aan] at this
 unfold RQ at hz1
 rw[AsU,AtK hin] at hz1
 cases hz1
 exact⟨t',rfl⟩
theorem Akx{scope:Scope}{env:Env}{x nm:Str}{cc:Addr}(hnames:scope.names=[(x,.local),(nm,.free)])(hcc:env.cells.lookup nm=some cc):closureFor scope env=pure [(nm,cc)]:=by
 have hc:cellOf env nm=pure cc:=by unfold cellOf;rw[hcc]
 unfold closureFor
 rw[hnames]
 simp only [Aum,List.forIn_nil,hc,pure_bind,show(NameKind.local == NameKind.free)=false from rfl,show(NameKind.free == NameKind.free)=true from rfl,if_true,if_false,Atp]
theorem Ads{P c:Addr}{q x nm:Str}{j:Nat}{e:Expr}{te:TE}{p1 pos kp Amg b1 b2 b3 b4:Pos}{params:Arguments}{scope:Scope}
  (hg:Gl X "sorted") (hm:X.mg "sorted" = none) (he:PE X e te) (C:PySem.W.CodeHd X.base c P) (B:Bm X.mg X.base) (hr:Mq 2 X.A) (hcode:X.env.code=.ref c:=by rfl) (hq:X.env.qual ++ "<lambda>" = q:=by rfl)
  (hN:X.N[j]?=some nm:=by rfl) (hkd:X.env.kindOf nm=some .cell:=by rfl) (hnames:scope.names=[(x,.local),(nm,.free)]:=by rfl) (hxn:x≠nm:=by decide) (hkind:scope.kind=.function:=by rfl) (hco:scope.isCoroutine=false:=by rfl) (hgen:scope.isGenerator=false:=by rfl)
  (hdef:defaultsOf params X.env=([],[]):=by rfl)
  (hbind:∀(cc c':Addr) (pm ctv w:Value),bindArgs (PySem.W.kla_fn "<lambda>" q params (.UnaryOp .USub (.Subscript (.Name nm b1) (.Name x b2) b3) b4) scope [(nm,cc)] pm (.ref c') ctv) ⟨[w],[]⟩=pure [(x,w)]:=by intros;rfl)
  (hd1:(x == ("__debug__" : Str))=false:=by decide) (hd2:(x == ("__classdict__" : Str))=false:=by decide) (hd3:(nm == ("__debug__" : Str))=false:=by decide) (hd4:(nm == ("__classdict__" : Str))=false:=by decide)
  (hK:X.K=K:=by rfl) (hc:X.calm=true:=by rfl)
  (hs:backTo pos (starEach [e] X.env)=(false,eval e X.env)::backTo pos (starEach [] X.env):=by rfl)
  (hplain:(backTo pos (starEach [e] X.env)).any (·.1)=false:=by rfl) :
  PE X (.Call (.Name "sorted" p1) [e] [⟨some "key", .Lambda params (.UnaryOp .USub (.Subscript (.Name nm b1) (.Name x b2) b3) b4) scope Amg,kp⟩] pos) (Akv K P q j te):=by
 subst hK
 intro pins s σ H Q I h
 have hsz:sizeLine=16777216:=sizeLine_eq
 refine wpAny_Call_Name_kw (K1 I hg hm Rx ?_ (by decide) (by decide))
 refine callWith_kw ?_ hs hplain rfl rfl
 rw[hs]
 refine Calls.spliced_cons (thn (he pins s σ H _ I h) fun u s1 ⟨y,H1,I1,r1,q1⟩=>Calls.spliced_nil ?_)
 obtain⟨p,lo,hi,n,a,ks,rfl,hp,hsm,hn,h64,hσ,hS,h0,hlen,tb,k⟩:=q1
 cases r1
 obtain⟨cc,hcc⟩:=I1.ok.has nm (.inl hkd)
 refine kws_cons (Aks I1 tb hcode C B hq hdef (Akx hnames hcc) fun f c' pm ctv H2 s2 t2 tb2 hc2 hz2 I2=>kws_nil ?_)
 show wpAny _ _ (call (.builtin "sorted") [.ref p] [(Str.ofString "key", .ref f)]) _ _ _
 refine call_function_entry_kw kind_sorted plain_sorted entry_sorted (ksk_s1 _ _) ?_
 unfold Builtin.«sorted»
 refine wpAny_bind (m:=checkCount "sorted" 1 1 _) (wpAny_pure ?_)
 obtain⟨⟨t,u,v,hrg⟩,_,_⟩:=I2.hok p _ (t2.ext hp)
 refine wpAny_bind (Ag3 (I2.ok.hd hc) hrg hsm hn (by omega) fun h3 tk3 acc hk3 hz3 hit=>?_)
 have hi3:=Ajt hit
 have hl3:acc.toList.length=n:=by rw[hi3.length,Aan]
 refine wpAny_bind (wpAny_newList ?_ (by omega))
 have I3:=I2.kept (t':=tk3) (h':=h3.push { cls:=.type "list", data:=.seq acc.toList.toArray }) fun b u e=>Heap.get?_push_of_some _ (hk3 b u e)
 have hoL:(h3.push { cls:=.type "list", data:=.seq acc.toList.toArray }).get? h3.objs.size=some (seqObj "list" acc.toList.toArray 0):=Heap.get?_push_size _ rfl
 have hge:s2.heap.objs.size≤h3.objs.size:=hz3
 have fr2:H2 h3.objs.size=none:=I2.hok.fresh hge
 have fr1:H1 h3.objs.size=none:=I1.hok.fresh (AsX hz2 hge)
 refine wpAny_bind (wpAny_holding (wpAny_call_entry_kw slot_list_sort ⟨_,hoL,rfl⟩ entry_list_sort ?body (ksk_l1 _ _)))
 case body =>
  show wpAny (model X.prog X.w) X.A.in1.in1 (Builtin.«list.sort» ⟨[.ref h3.objs.size],[(Str.ofString "key", .ref f)]⟩) _ _ _
  rw[ksk_t1]
  refine Aku (g:=fun z => -(ks.getD z.toNat 0)) I3 fr2 hoL (AsX I2.sz hge) (Ato (AsO I2.lt hge)) (I2.An8 hge) (fun z c e=>?_) (fun pp hpp=>?_) hi3 (Akw lo n) (by rw[Aan];exact h64)
   (fun z t pl H' s' hz sm J=>?_) fun H4 s4 ns' sm ha ha4 pm4 pw4 I4=>⟨_,rfl,?_⟩
  ·obtain⟨v,hv⟩:=I2.cell z c e
   exact AsL (AsO hv.lt hge)
  ·exact AsL (AsO (Heap.lt_size (I2.pin pp hpp).1) hge)
  ·obtain⟨i,hin,ez⟩:∃ i:Nat,i<n∧z=lo+i:=by
    unfold RQ at hz
    obtain⟨i,hi1,hi2⟩:=List.mem_map.mp hz
    exact⟨i,List.mem_range.mp hi1,by omega⟩
   have hzl:z.toNat<ks.length:=by omega
   have hx2:scope.names.lookup nm=some .free:=by rw[hnames,Ati,beq_false_of_ne (Ne.symm hxn)];simp
   have hx1:scope.names.lookup x=some .local:=by rw[hnames];simp
   refine wpAny_mono (Akt (y:=.int z) (v:=.ref a) (Q:=fun v H''=>v=.int (-(ks.getD z.toNat 0))∧H''=H') J I.ok.frames (I.ok.hd hc) (by have:=hr.dp;show X.A.depth<_;omega)
    (AsZ _ AsR) (sm _ _ hc2) hN hσ hkd hcc hnames hxn hkind hco hgen (hbind cc c' pm ctv) ⟨t,rfl⟩
    (fun env s H hes=>Ane AjP (Bv (Bg (K:=X.K)) (Ahv (i:=1) rfl (.inr (.inr (by show env.scope.names.lookup nm=_;rw[hes];exact hx2))) hd3 hd4) (Ahv (i:=0) rfl (.inl (by show env.scope.names.lookup x=_;rw[hes];exact hx1)) hd1 hd2) (fun _ _=>rfl)))
    ⟨_,rfl,_,rfl,a,vI ks,z,.int (ks.getD z.toNat 0),rfl,rfl,sm.seq (t2.seq hS),?_,_,rfl,rfl,rfl⟩) (fun u s'' ⟨v,H'',J2,rv,ev,eh⟩=>?_) fun _ _ z=>z
   ·refine Dk (by omega) ?_
    unfold vI
    rw[AsU,AsJ hzl,Atw,AsJ hzl]
    rfl
   ·subst ev eh
    exact⟨rv,J2⟩
  ·refine wpAny_pure ⟨_,rfl,.ref h3.objs.size,H4,I4.Ju fun pp hpp=>I4.pin pp (AsZ _ (AsW _ hpp)),rfl,?_⟩
   exact k _ H4 ns' (t2.trans sm.toT) (tb2.same sm) fr1 ha4 pm4 pw4
end
open PySem PySem.Spec PyProof.Rows
theorem Aoc{K:PySem.W.Frag}{x:Str}{f c P:Addr}{fd:FuncData}{oc o1:Value}{od o2:Option Addr}{osl o3:Array (Option Value)}{vs:Array Value}(hn:PySem.W.nsIn K mainGlobals x=some (some (.ref f)))
  (lk:K.lookup f=some ⟨oc,od,.func fd,osl⟩) (hc:fd.code=.ref c) (lc:K.lookup c=some ⟨o1,o2,.fields vs,o3⟩) (hv:(vs[11]?:Option Value)=some (.ref P)):PySem.W.tabIn K x=some (c,P):=by
 unfold PySem.W.tabIn
 rw[hn]
 simp only [lk,hc,lc,hv]
theorem Fun.okC{P:Program}{w:World}{K:PySem.W.Frag}{mg:Str→Option Value}{base:Heap}{x qual:Str}{st:Stmt}{f c:Addr}{fd:FuncData}{N ps:List Str}{k:Nat}{sp:Sp}(F:Fun K x qual st f fd)(hc:fd.code=.ref c)(S:Cm N ps (Ab st))
  (len:∀ vs H Q E,sp vs H Q E→vs.length=ps.length)
  (hbody:∀(A:Around) (outer:List Env) (s:Shared) (H:Hp) (vs:List V) (Q:VK) (E:XK),Mq k (A.deeper (envOfC qual (Ab st) s.heap.objs.size f (.ref c)))→sp vs H Q E →
   ∃ t,PSs (Ae4 CX0 P w K mg base N qual (Ab st) f (.ref c) A outer s H E).nox (Aj st) t∧t { nx:=fun _ H'=>Q .non H',rt:=Q } (start N vs) H):Bp P w K mg base CX0 (k+1) f fd ps sp:=by
 obtain⟨oc,od,kV,doc,pm,an,cdv,ct,osl,rfl,lk,hcd⟩:=F.ex
 have e:cdv=.ref c:=hc
 subst e
 refine AjU lk hcd S len fun A outer s H vs Q E hr hsp=>?_
 obtain⟨t,h,q⟩:=hbody A outer s H vs Q E hr hsp
 exact⟨t,h.nox,q⟩
theorem Aju{P:Program}{w:World}{K:PySem.W.Frag}{mg mb:Str→Option Value}{CX:CXT}{k:Nat}{fa a c T:Addr}{q:Str}{fd:FuncData}{x:Str}{sp:Sp}{s₁:Shared}{vs:List Value}{ns:List Int}
  (KX:K.In s₁.heap) (hns:s₁.heap.Ns mainGlobals mg) (hb:s₁.heap.Ns builtinsNs mb) (hbb:∀ x:Str,x ≠ "__name__" → mb x=bootBuiltins x) (hlim:s₁.heap.NoLimit) (hg:s₁.gens=#[])
  (ha:s₁.heap.get? a=some { cls:=.type "list", data:=.seq vs.toArray }) (hi:IntsAre vs ns) (hl:ns.length≤sizeLine) (hr:Mq k callerA)
  (hC:PySem.W.CodeHd s₁.heap c T) (hT:s₁.heap.get? T=some (PySem.W.tabObj #[])) (hKT:K.lookup T=none) (hbm:Bm mg s₁.heap)
  (F:∀ base:Heap,K.In base→base.Ns mainGlobals mg→PySem.W.CodeHd base c T→Bm mg base→Bp P w K mg base CX k fa fd [x] sp) (hbind:∀(s:Shared) (u:Value),BindsTo s fd ⟨[u],[]⟩ [(x,u)])
  (hsp:∀ H:Hp,SqL K H a (ns.map V.int)→Tb T q H→sp [.ref a] H (fun v _=>v=.bl true) fun _ _ _=>False)
  (hCX:∀ H e s',CX [] H s₁ (fun _ _ _=>False) e s'→False) :
  codeAny (model P w) callerA (.call (.ref fa) ⟨[.ref a],[]⟩) (fun r s'=>r=.ok (.ret (.bool true))∧OldK s₁.heap s'.heap∧s'.os=s₁.os∧AllBare s'.gens) s₁:=by
 have rv:=Nq hi
 have lenV:=hi.length
 have aT:a≠T:=fun e=>by rw[e,hT] at ha;cases ha
 have core:∀ H:Hp,H T=some (.tbl #[])→(∀ b u,H b=some u→b=T∨(b=a∧∃ o xs,u=.frz o (.lst xs)))→SqL K H a (ns.map V.int)→HOk P w H s₁.heap→(H a≠none→K.lookup a=none) →
   codeAny (model P w) callerA (.call (.ref fa) ⟨[.ref a],[]⟩) (fun r s'=>r=.ok (.ret (.bool true))∧OldK s₁.heap s'.heap∧s'.os=s₁.os∧AllBare s'.gens) s₁:=by
  intro H hHT hA hS hok hK
  have RN:∀{b:Addr} {o:Obj},s₁.heap.get? b=some o→H b=none→(XH s₁.heap H).get? b=some o:=fun e n=>Agi e n
  have noA:∀{b:Addr} {o:Obj},s₁.heap.get? b=some o→o.cls≠.type "list" ∨ (∃ es ep,o.data=.dict es ep)→o.cls≠.none∨(∃ es ep,o.data=.dict es ep)→H b=none:=fun {b o} e d d2=>by
   cases q:H b with
   | none=>rfl
   | some u =>
    exfalso
    rcases hA b u q with e' | ⟨e',_⟩
    ·rw[e',hT] at e
     cases e
     rcases d2 with d2 | ⟨es,ep,d2⟩
     ·exact d2 rfl
     ·have d':Data.fields _=Data.dict es ep:=d2
      cases d'
    ·rw[e',ha] at e
     cases e
     rcases d with d | ⟨es,ep,d⟩
     ·exact d rfl
     ·have d':Data.seq vs.toArray _=Data.dict es ep:=d
      cases d'
  have nsK:∀{b:Addr} {m:Str→Option Value},s₁.heap.Ns b m→(XH s₁.heap H).Ns b m:=fun {b m} ⟨o,es,ep,e,d,r⟩=>⟨o,es,ep,RN e (noA e (.inr ⟨es,ep,d⟩) (.inr ⟨es,ep,d⟩)),d,r⟩
  have hKb:K.In (XH s₁.heap H):=fun b o e=>RN (KX b o e) (by
   cases q:H b with
   | none=>rfl
   | some u =>
    exfalso
    rcases hA b u q with e' | ⟨e',_⟩
    ·rw[e',hKT] at e;cases e
    ·rw[e',hK (by rw[← e',q];simp)] at e;cases e)
  have hM:Mod K mg (XH s₁.heap H):=⟨hKb,nsK hns,⟨mb,nsK hb,hbb⟩,let ⟨mc,h1,h2⟩:=hlim;⟨mc,nsK h1,h2⟩⟩
  have hCb:PySem.W.CodeHd (XH s₁.heap H) c T:=by
   obtain⟨o,vs',file,tf,flags,tg,inF,text,tt,e1,r1,r⟩:=hC
   exact⟨o,vs',file,tf,flags,tg,inF,text,tt,RN e1 (noA e1 (.inl (by rw[r1];decide)) (.inl (by rw[r1];intro z;cases z))),r1,r⟩
  have hBb:Bm mg (XH s₁.heap H):=by
   obtain⟨bm,ob,b1,b2,b3,b4,r⟩:=hbm
   exact⟨bm,ob,b1,b2,RN b3 (noA b3 (.inl (by rw[b4];decide)) (.inl (by rw[b4];intro z;cases z))),b4,r⟩
  have e0:AjS P w K mg (XH s₁.heap H) callerA [] s₁ H:=⟨rfl,hM,fun b o e=>Aie e,At9 (AeH _ _),trivial,fun b hb=>absurd (show b∈([]:List Addr) from hb) (by simp),hok,.of_eq hg⟩
  have tb:Tb T q H:=⟨#[],hHT,trivial,fun pos cv e=>by cases e⟩
  refine codeAny_mono ((F _ hKb (nsK hns) hCb hBb).run callerA [] s₁ H ⟨[.ref a],[]⟩ [.ref a] [.ref a] _ _ hr e0 (hbind s₁ (.ref a)) (.cons rfl .nil) (hsp H hS tb)) fun r s' h=>?_
  cases r with
  | error e=>exact(hCX H e s' h).elim
  | ok fl =>
   cases fl with
   | next=>exact False.elim h
   | brk=>exact False.elim h
   | cont=>exact False.elim h
   | ret u =>
    obtain⟨v,H',os,bare,un,hok',r',q'⟩:=h
    have q2:v=.bl true:=q'
    subst q2
    obtain rfl:u=Value.bool true:=r'
    refine⟨rfl,⟨fun b o e=>?_,fun b o e=>un.there b o e (by simp)⟩,os,bare⟩
    cases q:H b with
    | none=>exact .inl (un.keep b o e q (by intro z;exact absurd (show b∈([]:List Addr) from z) (by simp)) (by simp))
    | some u =>
     rcases hA b u q with z | ⟨z,ob,xs,zu⟩
     ·subst z
      obtain⟨more,e2⟩:=un.Rt b #[] hHT
      have e3:s'.heap.get? b=some (PySem.W.tabObj (#[]++more)):=hok' b _ e2
      rw[hT] at e
      cases e
      exact .inr (.inl ⟨(hC.tab hT).isCodeTable,rfl,#[],more,rfl,e3⟩)
     ·subst zu
      have z2:=un.Pg b ob _ q
      obtain⟨e1,_⟩:=hok b _ q
      obtain⟨e2,_⟩:=hok' b _ z2
      rw[e] at e1;cases e1
      exact .inl e2
 cases hk:K.lookup a with
 | some o =>
  have e:=KX a o hk
  rw[ha] at e
  cases e
  refine core (fun b=>if b=T then some (.tbl #[]) else none) (if_pos rfl) (fun b u z=>?_) (.inr ⟨_,vs.toArray,_,hk,rfl,rfl,rfl,by rw[AsK,lenV];exact hl,by simpa using rv⟩) (fun b u z=>?_) fun z=>absurd (if_neg aT) z
  ·by_cases hb:b=T
   ·exact .inl hb
   ·have z':=(if_neg hb).symm.trans z
    cases z'
  ·by_cases hb:b=T
   ·have z':=(if_pos hb).symm.trans z
    cases z'
    rw[hb]
    exact hT
   ·have z':=(if_neg hb).symm.trans z
    cases z'
 | none =>
  refine core (fun b=>if b=T then some (.tbl #[]) else if b=a then some (.frz { cls:=.type "list", data:=.seq vs.toArray } (.lst (ns.map V.int))) else none) (if_pos rfl) (fun b u z=>?_)
   (.inl (.inr ⟨{ cls:=.type "list", data:=.seq vs.toArray },(if_neg aT).trans (if_pos rfl)⟩)) (fun b u z=>?_) fun _=>hk
  ·by_cases hb:b=T
   ·exact .inl hb
   ·have z':=(if_neg hb).symm.trans z
    by_cases hb2:b=a
    ·have z2:=(if_pos hb2).symm.trans z'
     exact .inr ⟨hb2,_,_,(Option.some.inj z2).symm⟩
    ·have z2:=(if_neg hb2).symm.trans z'
     cases z2
  ·by_cases hb:b=T
   ·have z':=(if_pos hb).symm.trans z
    cases z'
    rw[hb]
    exact hT
   ·have z':=(if_neg hb).symm.trans z
    by_cases hb2:b=a
    ·have z2:=(if_pos hb2).symm.trans z'
     cases z2
     rw[hb2]
     exact⟨ha,by rw[AsH];exact hl,vs,_,rv,ha⟩
    ·have z2:=(if_neg hb2).symm.trans z'
     cases z2
theorem Aky{l:PySem.W.OpenLaw}{n k:Nat}{q:Program}{loose:List Str}{XP:(Str→Option Value)→Heap→Prop}{YP:World→Heap→Prop}{d d':DefRec}{K:Params→PySem.W.Frag}{CX:CXT}{sp:PySem.W.Frag→Addr→Sp}{x y qn:Str}
  (hn:l.most=some n) (hn2:n≤sizeLine) (hdf:d.params.defaults=[]) (hr:Mq k callerA)
  (hY:∀(w:World) (h:Heap),YP w h→(K w.params).In h) (hrec:(recsOf q).find? (fun e=>e.name == y)=some d')
  (F:∀(w:World) (mg:Str→Option Value) (fa:Addr) (h:Heap),(K w.params).In h→h.Ns mainGlobals mg→mg d.name=some (.ref fa) →
   ∃(fd:FuncData) (c T:Addr),(∀(s:Shared) (u:Value),BindsTo s fd ⟨[u],[]⟩ [(x,u)])∧PySem.W.tabIn (K w.params) y=some (c,T)∧PySem.W.noTabs (K w.params)=true ∧
    ∀ base:Heap,(K w.params).In base→base.Ns mainGlobals mg→PySem.W.CodeHd base c T→Bm mg base→Bp l.prog w (K w.params) mg base CX k fa fd [x] (sp (K w.params) T))
  (hsp:∀(K:PySem.W.Frag) (T:Addr) (H:Hp) (a:Addr) (ns:List Int),ns.length≤n→SqL K H a (ns.map V.int)→Tb T qn H→sp K T [.ref a] H (fun v _=>v=.bl true) fun _ _ _=>False)
  (hCX:∀(H:Hp) (s:Shared) (e:Value) (s':Shared),CX [] H s (fun _ _ _=>False) e s'→False) :
  PySem.W.WalkO q loose XP YP l.row.toRowW d [] (fun f vs=>PySem.call f vs):=by
 refine Att.Ace hn hdf fun w s₀ s₁ mg mb fa o pm cd doc a vs ns G Y ho hd hcd hmg hobj hints hlen hg=>?_
 have KX:=hY w _ Y
 obtain⟨fd,c,T,hb,hT,AqY,hF⟩:=F w mg fa _ KX G.T.g hmg
 obtain⟨hC,hT2⟩:=PySem.W.tab_of G.T KX hrec hT
 have hKT:(K w.params).lookup T=none:=by
  cases e:(K w.params).lookup T with
  | none=>rfl
  | some o =>
   exfalso
   have h1:=KX T o e
   rw[hT2] at h1
   cases h1
   have h2:=List.all_eq_true.mp AqY (T,PySem.W.tabObj #[]) (PySem.W.mem_of_lookupK e)
   exact absurd (show false=true from h2) AsT
 exact Aju KX G.T.g G.T.b G.T.builtins G.T.nolimit hg hobj hints (AsX hlen hn2) hr hC hT2 hKT G.T.bmain hF hb (fun H hS tb=>hsp _ T H a ns hlen hS tb) fun H e s'=>hCX H s₁ e s'
end L2
namespace Mine
open PySem L2
def Sg (c:Nat):Prop:=c=35∨c=46
structure Cl (cl:List (List Nat)) (m n:Nat):Prop where
 hn:cl.length=n
 hm:∀ t∈cl,t.length=m
 sg:∀ t∈cl,∀ c∈t,Sg c
 m1:1≤m
 m40:m≤40
 n1:1≤n
 n40:n≤40
def flip(c:Nat):Nat:=if c=35 then 46 else 35
def back(cl:List (List Nat)):List (List Nat):=cl.map fun t=>t.reverse.map flip
def col (cl:List (List Nat))(e:Nat):List Nat:=cl.map fun t=>t.getD e 0
def ArM (cl:List (List Nat))(m:Nat):List (List Nat):=(List.range m).map fun e=>(col cl e).map flip
def sgn (cl:List (List Nat))(m n:Nat)(x y:Int):Nat:=(cl.getD (y%(n:Int)).toNat []).getD (x%(m:Int)).toNat 0
def met (st ln c s:Int):Int:=ln / c+(if (s-st)%c<ln%c then 1 else 0)
def Aod (f:Nat→Int):Nat→Int
 | 0=>0
 | k+1=>Aod f k+f k
def Aoe (g:Nat→Int)(st:Int)(c:Nat):Nat→Int
 | 0=>0
 | n+1=>Aoe g st c n+g ((st+(n:Int))%(c:Int)).toNat
def isH (cl:List (List Nat))(p e:Nat):Int:=if (cl.getD p []).getD e 0=35 then 1 else 0
def Aof (cl:List (List Nat))(m:Nat)(left wide:Int)(p:Nat):Int:=Aod (fun e=>if (cl.getD p []).getD e 0=35 then met left wide (m:Int) (e:Int) else 0) m
def overs(cl:List (List Nat))(m n:Nat)(left first wide high:Int):Int:=Aod (fun p=>Aof cl m left wide p*met first high (n:Int) (p:Int)) n
def cnt (cl:List (List Nat))(m n:Nat)(left first:Int)(wide high:Nat):Int:=Aoe (fun p=>Aoe (isH cl p) left m wide) first n high
def Hi (cl:List (List Nat))(m:Nat):List Int:=((List.range m).map fun e=>(((col cl e).count 35:Nat):Int))++cl.map fun t=>((t.count 46:Nat):Int)
theorem Adt(cl:List (List Nat))(m:Nat):(Hi cl m).length=m+cl.length:=by
 unfold Hi
 rw[AsN,AsH,AsH,AsQ]
end Mine
namespace Mine
def sm (f:Nat→Nat):List Nat→Nat
 | []=>0
 | x::l=>f x+sm f l
theorem Af1(f:Nat→Nat):∀ a b:List Nat,sm f (a++b)=sm f a+sm f b
 | [],b=>by simp[sm]
 | x::a,b=>by rw[Auz];show f x+sm f (a++b)=f x+sm f a+sm f b;rw[Af1 f a b];omega
theorem Aiv(f:Nat→Nat){a b:List Nat}(h:a.Perm b):sm f a=sm f b:=by
 induction h with
 | nil=>rfl
 | cons x _ ih=>show f x+_=f x+_;rw[ih]
 | swap x y l=>show f y+(f x+_)=f x+(f y+_);omega
 | trans _ _ h1 h2=>rw[h1,h2]
theorem Aiw(f g:Nat→Nat)(h:∀ x,f x≤g x):∀ l,sm f l≤sm g l
 | []=>AsI _
 | x::l=>Nat.add_le_add (h x) (Aiw f g h l)
theorem Adu(f g:Nat→Nat):∀ l,sm (fun x=>f x+g x) l=sm f l+sm g l
 | []=>rfl
 | x::l=>by show f x+g x+sm _ l=f x+sm f l+(g x+sm g l);rw[Adu f g l];omega
theorem R0(c:Nat):∀ l:List Nat,sm (fun _=>c) l=l.length*c
 | []=>by simp[sm]
 | x::l=>by show c+sm _ l=(l.length+1)*c;rw[R0 c l,Auk];omega
theorem Akz(f:Nat→Nat)(h:∀ x,f x≤1)(l:List Nat):sm f l≤l.length:=by
 have:=Aiw f (fun _=>1) h l
 rw[R0] at this
 omega
theorem Ak0(f g:Nat→Nat)(h:∀ x,f x=g x)(l:List Nat):sm f l=sm g l:=by rw[funext h]
def b2n (b:Bool):Nat:=if b=true then 1 else 0
theorem Ak1(b:Bool):b2n b≤1:=by cases b <;> decide
theorem Amk(b:Bool):b2n b+b2n (!b)=1:=by cases b <;> decide
def aS (up:Nat→Nat→Bool)(n e:Nat):Nat:=sm (fun p=>b2n (up e p)) (List.range n)
def bS (up:Nat→Nat→Bool)(m p:Nat):Nat:=sm (fun e=>b2n (!up e p)) (List.range m)
theorem cross(up:Nat→Nat→Bool)(T:List Nat):∀ S:List Nat,sm (fun e=>sm (fun p=>b2n (up e p)) T) S+sm (fun p=>sm (fun e=>b2n (!up e p)) S) T=S.length*T.length
 | []=>by
  show 0+sm (fun _=>0) T=_
  rw[R0]
  simp
 | e::S=>by
  have ih:=cross up T S
  have h1:sm (fun p=>sm (fun e=>b2n (!up e p)) (e::S)) T=sm (fun p=>b2n (!up e p)) T+sm (fun p=>sm (fun e=>b2n (!up e p)) S) T:=Adu (fun p=>b2n (!up e p)) (fun p=>sm (fun e=>b2n (!up e p)) S) T
  have h2:sm (fun p=>b2n (up e p)) T+sm (fun p=>b2n (!up e p)) T=T.length:=by
   rw[← Adu,Ak0 _ (fun _=>1) (fun p=>Amk _),R0,Nat.mul_one]
  rw[h1]
  show sm (fun p=>b2n (up e p)) T+sm (fun e=>sm (fun p=>b2n (up e p)) T) S+_=(S.length+1)*T.length
  rw[Auk]
  omega
theorem Aog(up:Nat→Nat→Bool){m n:Nat}{S S' T T':List Nat}(hS:(S++S').Perm (List.range m))(hT:(T++T').Perm (List.range n)) :
  sm (aS up n) S+sm (bS up m) T+S.length*T.length≤S.length*n+T.length*m:=by
 have hm:S.length+S'.length=m:=by have:=hS.length_eq;rwa [AsN,AsQ] at this
 have hn:T.length+T'.length=n:=by have:=hT.length_eq;rwa [AsN,AsQ] at this
 have h1:sm (aS up n) S≤sm (fun e=>sm (fun p=>b2n (up e p)) T) S+S.length*T'.length:=by
  rw[← R0,← Adu]
  refine Aiw _ _ (fun e=>?_) S
  unfold aS
  rw[← Aiv _ hT,Af1]
  exact Nat.add_le_add_left (Akz _ (fun _=>Ak1 _) T') _
 have h2:sm (bS up m) T≤sm (fun p=>sm (fun e=>b2n (!up e p)) S) T+T.length*S'.length:=by
  rw[← R0,← Adu]
  refine Aiw _ _ (fun p=>?_) T
  unfold bS
  rw[← Aiv _ hS,Af1]
  exact Nat.add_le_add_left (Akz _ (fun _=>Ak1 _) S') _
 have h3:=cross up T S
 have e1:S.length*n=S.length*T.length+S.length*T'.length:=by rw[← hn,Nat.mul_add]
 have e2:T.length*m=S.length*T.length+T.length*S'.length:=by rw[← hm,Nat.mul_add,Nat.mul_comm T.length S.length]
 omega
theorem Ak2(up:Nat→Nat→Bool)(m n:Nat):sm (aS up n) (List.range m)+sm (bS up m) (List.range n)=m*n:=by
 have:=cross up (List.range n) (List.range m)
 rw[AsQ,AsQ] at this
 exact this
theorem Aao{α β:Type}{f:α→β}{d e:List β}(h:d.Perm e):∀ l,e=l.map f→∃ l':List α,l'.Perm l∧d=l'.map f:=by
 induction h with
 | nil=>intro l hl;exact⟨l,.refl _,hl⟩
 | cons x _ ih =>
  intro l hl
  cases l with
  | nil=>cases hl
  | cons y l =>
   rw[AsY] at hl
   injection hl with h1 h2
   obtain⟨l',p,e⟩:=ih l h2
   exact⟨y::l',p.cons _,by rw[AsY,e,h1]⟩
 | swap x y r =>
  intro l hl
  match l,hl with
  | a::b::l,hl =>
   rw[AsY,AsY] at hl
   injection hl with h1 h2
   injection h2 with h2 h3
   exact⟨b::a::l,.swap _ _ _,by rw[AsY,AsY,h1,h2,h3]⟩
  | [a],hl=>cases hl
  | [],hl=>cases hl
 | trans _ _ h1 h2 =>
  intro l hl
  obtain⟨l1,p1,e1⟩:=h2 l hl
  obtain⟨l2,p2,e2⟩:=h1 l1 e1
  exact⟨l2,p2.trans p1,e2⟩
def G (m n:Nat)(dA dB:List Int)(s t:Nat):Int:=(s:Int)*n+(t:Int)*m-(s:Int)*t-(dA.take s).sum-(dB.take t).sum
structure Sc (m n:Nat) (dA dB:List Int):Prop where
 lA:dA.length=m
 lB:dB.length=n
 decA:dA.Pairwise (· ≥ ·)
 K6:dB.Pairwise (· ≥ ·)
 low:∀ s t,s≤m→t≤n→0≤G m n dA dB s t
 top:G m n dA dB m n=0
theorem RW(f:Nat→Nat):∀ l:List Nat,(l.map fun e=>((f e:Nat):Int)).sum=(sm f l:Int)
 | []=>rfl
 | x::l=>by rw[AsY,At6,RW f l];show _=((f x+sm f l:Nat):Int);omega
theorem Ag5{a b:List Int}(h:a.Perm b):a.sum=b.sum:=by
 induction h with
 | nil=>rfl
 | cons x _ ih=>rw[At6,At6,ih]
 | swap x y l=>rw[At6,At6,At6,At6];omega
 | trans _ _ h1 h2=>rw[h1,h2]
theorem Sc.of(up:Nat→Nat→Bool){m n:Nat}{dA dB:List Int}(hA:dA.Perm ((List.range m).map fun e=>((aS up n e:Nat):Int)))(hB:dB.Perm ((List.range n).map fun p=>((bS up m p:Nat):Int)))
  (decA:dA.Pairwise (· ≥ ·)) (K6:dB.Pairwise (· ≥ ·)):Sc m n dA dB:=by
 have lA:dA.length=m:=by rw[hA.length_eq,AsH,AsQ]
 have lB:dB.length=n:=by rw[hB.length_eq,AsH,AsQ]
 obtain⟨lS,pS,eS⟩:=Aao hA _ rfl
 obtain⟨lT,pT,eT⟩:=Aao hB _ rfl
 refine⟨lA,lB,decA,K6,fun s t hs ht=>?_,?_⟩
 ·have:=Aog up (S:=lS.take s) (S':=lS.drop s) (T:=lT.take t) (T':=lT.drop t) (by rw[AtN];exact pS) (by rw[AtN];exact pT)
  have l1:(lS.take s).length=s:=by rw[Atd];have:=pS.length_eq;rw[AsQ] at this;omega
  have l2:(lT.take t).length=t:=by rw[Atd];have:=pT.length_eq;rw[AsQ] at this;omega
  rw[l1,l2] at this
  unfold G
  rw[eS,eT,← At1,← At1,RW,RW]
  have c:((sm (aS up n) (lS.take s)+sm (bS up m) (lT.take t)+s*t:Nat):Int)≤((s*n+t*m:Nat):Int):=by exact_mod_cast this
  simp only [AtO,AtL] at c
  omega
 ·unfold G
  rw[Atc (by omega),Atc (by omega),Ag5 hA,Ag5 hB,RW,RW]
  have:=Ak2 up m n
  have c:((sm (aS up n) (List.range m)+sm (bS up m) (List.range n):Nat):Int)=((m*n:Nat):Int):=by exact_mod_cast this
  simp only [AtO,AtL] at c
  have e:(n:Int)*m=(m:Int)*n:=Int.mul_comm _ _
  omega
section
variable {m n:Nat}{dA dB:List Int}
theorem Ag6{d:List Int}{k:Nat}(h:k<d.length):(d.take (k+1)).sum=(d.take k).sum+d.getD k 0:=by
 rw[Atm,List.sum_append,AsJ h]
 have e:d.getD k 0=d[k]:=by simp[List.getD,h]
 rw[e]
 simp
theorem Ak3{d:List Int}(h:d.Pairwise (· ≥ ·)){i j:Nat}(hij:i≤j)(hj:j<d.length):d.getD j 0≤d.getD i 0:=by
 have hi:i<d.length:=by omega
 have e1:d.getD i 0=d[i]:=by simp[List.getD,hi]
 have e2:d.getD j 0=d[j]:=by simp[List.getD,hj]
 rw[e1,e2]
 by_cases e:i=j
 ·subst e;exact AtY _
 ·exact List.pairwise_iff_getElem.mp h i j hi hj (by omega)
theorem G_s(C:Sc m n dA dB){s:Nat}(t:Nat)(h:s<m):G m n dA dB (s+1) t=G m n dA dB s t+((n:Int)-t-dA.getD s 0):=by
 unfold G
 rw[Ag6 (by rw[C.lA];exact h),AtO,Aup,Int.add_mul,Int.add_mul,Int.one_mul,Int.one_mul]
 omega
theorem G_t(C:Sc m n dA dB)(s:Nat){t:Nat}(h:t<n):G m n dA dB s (t+1)=G m n dA dB s t+((m:Int)-s-dB.getD t 0):=by
 unfold G
 rw[Ag6 (by rw[C.lB];exact h),AtO,Aup,Int.add_mul,Int.mul_add,Int.one_mul,AtV]
 omega
theorem Aoh(C:Sc m n dA dB){s:Nat}(t:Nat)(c:Int)(hc:c≤(n:Int)-t-dA.getD s 0):∀ d:Nat,s+d≤m→G m n dA dB s t+c*d≤G m n dA dB (s+d) t
 | 0,_=>by simp
 | d+1,h=>by
  have ih:=Aoh C t c hc d (by omega)
  have e:=G_s C t (s:=s+d) (by omega)
  have mo:=Ak3 C.decA (i:=s) (j:=s+d) (by omega) (by rw[C.lA];omega)
  have e2:c*((d+1:Nat):Int)=c*d+c:=by rw[AtO,Aup,Int.mul_add,AtV]
  rw[show s+(d+1)=s+d+1 from rfl,e,e2]
  omega
theorem Aoi(C:Sc m n dA dB)(s:Nat){t:Nat}(c:Int)(hc:c≤(m:Int)-s-dB.getD t 0):∀ d:Nat,t+d≤n→G m n dA dB s t+c*d≤G m n dA dB s (t+d)
 | 0,_=>by simp
 | d+1,h=>by
  have ih:=Aoi C s c hc d (by omega)
  have e:=G_t C s (t:=t+d) (by omega)
  have mo:=Ak3 C.K6 (i:=t) (j:=t+d) (by omega) (by rw[C.lB];omega)
  have e2:c*((d+1:Nat):Int)=c*d+c:=by rw[AtO,Aup,Int.mul_add,AtV]
  rw[show t+(d+1)=t+d+1 from rfl,e,e2]
  omega
theorem ApF(s s' t t':Nat):G m n dA dB s t+G m n dA dB s' t'=G m n dA dB s' t+G m n dA dB s t'-((s':Int)-s)*((t':Int)-t):=by
 unfold G
 rw[Int.sub_mul,Int.mul_sub,Int.mul_sub]
 omega
def lexLt(a b:Nat × Nat):Prop:=a.1<b.1∨(a.1=b.1∧a.2<b.2)
theorem Ak4(C:Sc m n dA dB){s t s' t':Nat}(hs:s≤m)(ht:t≤n)(hs':s'≤m)(ht':t'≤n)(z:G m n dA dB s t=0)(z':G m n dA dB s' t'=0)(lt:lexLt (s,t) (s',t'))
  (none:∀ x y,x≤m→y≤n→G m n dA dB x y=0→lexLt (s,t) (x,y)→lexLt (x,y) (s',t')→False) :
  s≤s'∧t≤t'∧0<(s'-s)+(t'-t)∧(1<(s'-s)+(t'-t)→2≤s'-s∧2≤t'-t):=by
 have lt':s<s'∨(s=s'∧t<t'):=lt
 have hle:s≤s':=by omega
 have tle:t≤t':=by
  by_cases h:t≤t'
  ·exact h
  ·exfalso
   have h1:s<s':=by omega
   have q:=ApF (m:=m) (n:=n) (dA:=dA) (dB:=dB) s s' t t'
   have l1:=C.low s' t hs' ht
   have l2:=C.low s t' hs ht'
   have p:0<((s':Int)-s)*((t:Int)-t'):=Int.mul_pos (by omega) (by omega)
   have e:((s':Int)-s)*((t':Int)-t) =-(((s':Int)-s)*((t:Int)-t')):=by rw[← Int.mul_neg];congr 1;omega
   omega
 refine⟨hle,tle,by omega,fun big=>?_⟩
 have q:=ApF (m:=m) (n:=n) (dA:=dA) (dB:=dB) s s' t t'
 have l1:=C.low s' t hs' ht
 have l2:=C.low s t' hs ht'
 by_cases hs1:s'=s
 ·
  exfalso
  subst hs1
  have t2:t+2≤t':=by omega
  have g1:=G_t C s' (t:=t) (by omega)
  have lo:=C.low s' (t+1) hs' (by omega)
  have nz:G m n dA dB s' (t+1)≠0:=fun e=>none s' (t+1) hs' (by omega) e (.inr ⟨rfl,by show t<t+1;omega⟩) (.inr ⟨rfl,by show t+1<t';omega⟩)
  have:=Aoi C s' (t:=t) 1 (by omega) (t'-t) (by omega)
  rw[show t+(t'-t)=t' by omega] at this
  omega
 by_cases ht1:t'=t
 ·exfalso
  subst ht1
  have t2:s+2≤s':=by omega
  have g1:=G_s C t' (s:=s) (by omega)
  have lo:=C.low (s+1) t' (by omega) ht'
  have nz:G m n dA dB (s+1) t'≠0:=fun e=>none (s+1) t' (by omega) ht' e (.inl (by show s<s+1;omega)) (.inl (by show s+1<s';omega))
  have:=Aoh C (s:=s) t' 1 (by omega) (s'-s) (by omega)
  rw[show s+(s'-s)=s' by omega] at this
  omega
 have gt1:=G_t C s (t:=t) (by omega)
 have gs1:=G_s C t (s:=s) (by omega)
 have lot:=C.low s (t+1) hs (by omega)
 have los:=C.low (s+1) t (by omega) ht
 have nzt:G m n dA dB s (t+1)≠0:=fun e=>none s (t+1) hs (by omega) e (.inr ⟨rfl,by show t<t+1;omega⟩) (.inl (by show s<s';omega))
 have bt:=Aoi C s (t:=t) 1 (by omega) (t'-t) (by omega)
 rw[show t+(t'-t)=t' by omega] at bt
 have nzs:G m n dA dB (s+1) t≠0:=fun e=>none (s+1) t (by omega) ht e (.inl (by show s<s+1;omega)) (by
  by_cases h:s+1=s'
  ·exact .inr ⟨h,by show t<t';omega⟩
  ·exact .inl (by show s+1<s';omega))
 have bs:=Aoh C (s:=s) t 1 (by omega) (s'-s) (by omega)
 rw[show s+(s'-s)=s' by omega] at bs
 refine⟨?_,?_⟩
 ·by_cases h:s'=s+1
  ·exfalso
   subst h
   have e:(((s+1:Nat):Int)-s)*((t':Int)-t)=(t':Int)-t:=by rw[show((s+1:Nat):Int)-s=1 by omega,Int.one_mul]
   rw[e] at q
   omega
  ·omega
 ·by_cases h:t'=t+1
  ·exfalso
   subst h
   have e:((s':Int)-s)*(((t+1:Nat):Int)-t)=(s':Int)-s:=by rw[show((t+1:Nat):Int)-t=1 by omega,AtV]
   rw[e] at q
   omega
  ·omega
end
end Mine
namespace Mine
def AcB (P:Nat→Nat→Bool)(s j:Nat):List (Nat × Nat):=((List.range j).map fun t=>(s,t)).filter fun p=>P p.1 p.2
def K7 (P:Nat→Nat→Bool)(n i:Nat):List (Nat × Nat):=(List.range i).flatMap fun s=>AcB P s (n+1)
theorem Abz(P:Nat→Nat→Bool)(s j:Nat):AcB P s (j+1)=AcB P s j++(if P s j=true then [(s,j)] else []):=by
 unfold AcB
 rw[At0,AsP,AtP]
 congr 1
 show(List.filter _ [(s,j)])=_
 by_cases h:P s j=true
 ·rw[if_pos h];simp[h]
 ·rw[if_neg h];simp[h]
theorem Ab0(P:Nat→Nat→Bool)(n i:Nat):K7 P n (i+1)=K7 P n i++AcB P i (n+1):=by
 unfold K7
 rw[At0,Au1]
 simp
theorem Aap{P:Nat→Nat→Bool}{s j:Nat}{p:Nat × Nat}:p∈AcB P s j↔p.1=s∧p.2<j∧P p.1 p.2=true:=by
 unfold AcB
 rw[Aua,List.mem_map]
 constructor
 ·rintro⟨⟨t,ht,rfl⟩,h⟩
  exact⟨rfl,List.mem_range.mp ht,h⟩
 ·rintro⟨h1,h2,h3⟩
  exact⟨⟨p.2,List.mem_range.mpr h2,by rw[← h1]⟩,h3⟩
theorem Ny{P:Nat→Nat→Bool}{n i:Nat}{p:Nat × Nat}:p∈K7 P n i↔p.1<i∧p.2≤n∧P p.1 p.2=true:=by
 unfold K7
 rw[List.mem_flatMap]
 constructor
 ·rintro⟨s,hs,h⟩
  obtain⟨h1,h2,h3⟩:=Aap.mp h
  have:=List.mem_range.mp hs
  exact⟨by omega,by omega,h3⟩
 ·rintro⟨h1,h2,h3⟩
  exact⟨p.1,List.mem_range.mpr h1,Aap.mpr ⟨rfl,by omega,h3⟩⟩
theorem Aix(P:Nat→Nat→Bool)(s:Nat):∀ j,(AcB P s j).Pairwise lexLt
 | 0=>List.Pairwise.nil
 | j+1=>by
  rw[Abz]
  refine List.pairwise_append.mpr ⟨Aix P s j,?_,fun a ha b hb=>?_⟩
  ·by_cases h:P s j=true
   ·rw[if_pos h];exact List.pairwise_singleton _ _
   ·rw[if_neg h];exact List.Pairwise.nil
  ·by_cases h:P s j=true
   ·rw[if_pos h] at hb
    rw[List.mem_singleton.mp hb]
    obtain⟨h1,h2,_⟩:=Aap.mp ha
    exact .inr ⟨h1,h2⟩
   ·rw[if_neg h] at hb;exact absurd hb (by simp)
theorem Aiy(P:Nat→Nat→Bool)(n:Nat):∀ i,(K7 P n i).Pairwise lexLt
 | 0=>List.Pairwise.nil
 | i+1=>by
  rw[Ab0]
  refine List.pairwise_append.mpr ⟨Aiy P n i,Aix P i _,fun a ha b hb=>?_⟩
  obtain⟨h1,_⟩:=Ny.mp ha
  obtain⟨h2,_⟩:=Aap.mp hb
  exact .inl (by omega)
theorem Ag7(P:Nat→Nat→Bool)(s j:Nat):(AcB P s j).length≤j:=by
 unfold AcB
 refine AsX (AtA _ _) ?_
 rw[AsH,AsQ]
 exact AsI _
theorem Adv(P:Nat→Nat→Bool)(n:Nat):∀ i,(K7 P n i).length≤i*(n+1)
 | 0=>AsM _
 | i+1=>by
  rw[Ab0,AsN,Auk]
  exact Nat.add_le_add (Adv P n i) (Ag7 P i _)
theorem Aiz{a:Nat × Nat}(h:lexLt a a):False:=by unfold lexLt at h;omega
theorem Ag8{a b:Nat × Nat}(h:lexLt a b)(h2:lexLt b a):False:=by unfold lexLt at h h2;omega
theorem Adw{l:List (Nat × Nat)}(h:l.Pairwise lexLt){i j:Nat}{a b:Nat × Nat}(ha:l[i]?=some a)(hb:l[j]?=some b)(lt:lexLt a b):i<j:=by
 obtain⟨hi,e1⟩:=List.getElem?_eq_some_iff.mp ha
 obtain⟨hj,e2⟩:=List.getElem?_eq_some_iff.mp hb
 rcases Auq i j with h1 | h1 | h1
 ·exact h1
 ·subst h1
  have:a=b:=by rw[← e1,← e2]
  rw[this] at lt
  exact(Aiz lt).elim
 ·have:=List.pairwise_iff_getElem.mp h j i hj hi h1
  rw[e1,e2] at this
  exact(Ag8 lt this).elim
structure Tps (m n:Nat) (P:Nat→Nat→Bool) (zs:List (Nat × Nat)):Prop where
 two:2≤zs.length
 fst:zs[0]?=some (0,0)
 lst:zs[zs.length-1]?=some (m,n)
 in_:∀(i:Nat) (a:Nat × Nat),zs[i]?=some a→a.1≤m∧a.2≤n
 stp:∀(i:Nat) (a b:Nat × Nat),zs[i]?=some a→zs[i+1]?=some b→a.1≤b.1∧a.2≤b.2∧0<(b.1-a.1)+(b.2-a.2)∧(1<(b.1-a.1)+(b.2-a.2)→2≤b.1-a.1∧2≤b.2-a.2)
def Pz (m n:Nat)(dA dB:List Int)(s t:Nat):Bool:=decide ((dA.take s).sum+(dB.take t).sum=(s:Int)*n+(t:Int)*m-(s:Int)*t)
theorem Af2{m n:Nat}{dA dB:List Int}{s t:Nat}:Pz m n dA dB s t=true↔G m n dA dB s t=0:=by
 unfold Pz G
 rw[decide_eq_true_iff]
 omega
theorem Tps.of{m n:Nat}{dA dB:List Int}(C:Sc m n dA dB)(h1:1≤m):Tps m n (Pz m n dA dB) (K7 (Pz m n dA dB) n (m+1)):=by
 have pw:=Aiy (Pz m n dA dB) n (m+1)
 have m0:((0:Nat),(0:Nat))∈K7 (Pz m n dA dB) n (m+1):=Ny.mpr ⟨by show 0<m+1;omega,AsM _,Af2.mpr (by unfold G;simp)⟩
 have m1:(m,n)∈K7 (Pz m n dA dB) n (m+1):=Ny.mpr ⟨by show m<m+1;omega,AsI _,Af2.mpr C.top⟩
 generalize hz:K7 (Pz m n dA dB) n (m+1)=zs at *
 have inn:∀(i:Nat) (a:Nat × Nat),zs[i]?=some a→a.1≤m∧a.2≤n∧G m n dA dB a.1 a.2=0:=fun i a e=>by
  have:=AsS e
  rw[← hz] at this
  obtain⟨q1,q2,q3⟩:=Ny.mp this
  exact⟨by omega,q2,Af2.mp q3⟩
 obtain⟨i0,e0⟩:=Aub m0
 obtain⟨i1,e1⟩:=Aub m1
 have l01:i0<i1:=Adw pw e0 e1 (.inl (by show 0<m;omega))
 have i1l:=(List.getElem?_eq_some_iff.mp e1).1
 have f0:i0=0:=by
  by_cases h:i0=0
  ·exact h
  ·exfalso
   have hl:0<zs.length:=by omega
   have lt:=List.pairwise_iff_getElem.mp pw 0 i0 hl (by omega) (by omega)
   have:=(List.getElem?_eq_some_iff.mp e0).2
   rw[this] at lt
   unfold lexLt at lt
   simp at lt
 have fl:i1=zs.length-1:=by
  by_cases h:i1=zs.length-1
  ·exact h
  ·exfalso
   have hl:zs.length-1<zs.length:=by omega
   have lt:=List.pairwise_iff_getElem.mp pw i1 (zs.length-1) i1l hl (by omega)
   have e:=(List.getElem?_eq_some_iff.mp e1).2
   rw[e] at lt
   have q:=inn (zs.length-1) _ (AsJ hl)
   unfold lexLt at lt
   simp only at lt
   omega
 refine⟨by omega,f0▸e0,fl▸e1,fun i a e=>⟨(inn i a e).1,(inn i a e).2.1⟩,fun i a b ea eb=>?_⟩
 obtain⟨a1,a2,a3⟩:=inn i a ea
 obtain⟨b1,b2,b3⟩:=inn (i+1) b eb
 have hi:=(List.getElem?_eq_some_iff.mp ea)
 have hj:=(List.getElem?_eq_some_iff.mp eb)
 have lt:lexLt a b:=by
  have:=List.pairwise_iff_getElem.mp pw i (i+1) hi.1 hj.1 (by omega)
  rw[hi.2,hj.2] at this
  exact this
 refine Ak4 C a1 a2 b1 b2 a3 b3 lt fun x y hx hy z l1 l2=>?_
 have mm:(x,y)∈zs:=by rw[← hz];exact Ny.mpr ⟨by show x<m+1;omega,hy,Af2.mpr z⟩
 obtain⟨k,ek⟩:=Aub mm
 have k1:=Adw pw ea ek l1
 have k2:=Adw pw ek eb l2
 omega
theorem Nz:∀{a b:List Int},a.Perm b→a.Pairwise (· ≥ ·)→b.Pairwise (· ≥ ·)→a=b
 | [],b,p,_,_=>(List.Perm.nil_eq p)
 | x::a,[],p,_,_=>absurd p.length_eq (by simp)
 | x::a,y::b,p,ha,hb=>by
  obtain⟨a1,a2⟩:=List.pairwise_cons.mp ha
  obtain⟨b1,b2⟩:=List.pairwise_cons.mp hb
  have e:x=y:=by
   have hx:x∈y::b:=p.mem_iff.mp AsR
   have hy:y∈x::a:=p.mem_iff.mpr AsR
   rcases List.mem_cons.mp hx with h | h
   ·exact h
   ·rcases List.mem_cons.mp hy with h' | h'
    ·exact h'.symm
    ·have:=b1 x h
     have:=a1 y h'
     omega
  subst e
  rw[Nz p.cons_inv a2 b2]
def pre (d:List Int):List Int:=(List.range (d.length+1)).map fun s=>(d.take s).sum
structure Grt (cs done left:List Int):Prop where
 perm:(done++left).Perm cs
 dec:done.Pairwise (· ≥ ·)
 ge:∀ a∈done,∀ b∈left,b≤a
theorem Ah9(l:List Nat)(c:Nat):∀ k,k≤l.length→(l.take k).count c=sm (fun i=>b2n (l.getD i 0 == c)) (List.range k)
 | 0,_=>by simp[sm]
 | k+1,h=>by
  rw[At0,Af1,← Ah9 l c k (by omega),Atm,AsJ (by omega),List.count_append]
  have e:l.getD k 0=l[k]:=by simp[List.getD,show k<l.length by omega]
  show _+List.count c [l[k]]=_+(b2n (l.getD k 0 == c)+0)
  rw[e,List.count_singleton]
  rfl
def upC (cl:List (List Nat))(e p:Nat):Bool:=(cl.getD p []).getD e 0 == 35
def eS (cl:List (List Nat))(m:Nat):List Int:=(List.range m).map fun e=>(((col cl e).count 35:Nat):Int)
def pS (cl:List (List Nat)):List Int:=cl.map fun t=>((t.count 46:Nat):Int)
theorem Yv(cl:List (List Nat))(m:Nat):(eS cl m).length=m:=by unfold eS;rw[AsH,AsQ]
theorem Af3(cl:List (List Nat)):(pS cl).length=cl.length:=by unfold pS;rw[AsH]
theorem Ag9{f g:Nat→Nat}:∀{l:List Nat},(∀ x∈l,f x=g x)→sm f l=sm g l
 | [],_=>rfl
 | x::l,h=>by show f x+sm f l=g x+sm g l;rw[h x AsR,Ag9 fun y hy=>h y (AsW _ hy)]
theorem Ak5(cl:List (List Nat))(e p:Nat):(col cl e).getD p 0=(cl.getD p []).getD e 0:=by
 unfold col
 by_cases h:p<cl.length
 ·simp[List.getD,h]
 ·simp[List.getD,AtB (Aux h)]
theorem ApG{cl:List (List Nat)}{m n:Nat}(C:Cl cl m n)(e:Nat):aS (upC cl) n e=(col cl e).count 35:=by
 have hl:(col cl e).length=n:=by unfold col;rw[AsH,C.hn]
 have:=Ah9 (col cl e) 35 n (by omega)
 rw[Atc (by omega)] at this
 rw[this]
 unfold aS upC
 refine Ak0 _ _ (fun p=>?_) _
 rw[Ak5]
theorem ApH{cl:List (List Nat)}{m n:Nat}(C:Cl cl m n){p:Nat}(hp:p<cl.length):bS (upC cl) m p=cl[p].count 46:=by
 have hl:=C.hm _ (AsV hp)
 have sg:=C.sg _ (AsV hp)
 have:=Ah9 cl[p] 46 m (by omega)
 rw[Atc (by omega)] at this
 rw[this]
 unfold bS
 refine Ag9 fun e he=>?_
 have hem:=List.mem_range.mp he
 have e1:cl.getD p []=cl[p]:=by simp[List.getD,hp]
 have e2:cl[p].getD e 0=cl[p][e]:=by simp[List.getD,show e<cl[p].length by omega]
 unfold upC
 rw[e1,e2]
 rcases sg _ (AsV (show e<cl[p].length by omega)) with z | z <;> rw[z] <;> rfl
theorem Ak6{cl:List (List Nat)}{m n:Nat}(C:Cl cl m n):eS cl m=(List.range m).map fun e=>((aS (upC cl) n e:Nat):Int):=by
 unfold eS
 refine AtG fun e _=>?_
 rw[ApG C]
theorem Ak7{cl:List (List Nat)}{m n:Nat}(C:Cl cl m n):pS cl=(List.range n).map fun p=>((bS (upC cl) m p:Nat):Int):=by
 refine AtQ (by rw[Af3,AsH,AsQ,C.hn]) fun i h1 h2=>?_
 have h1':i<cl.length:=by rw[Af3] at h1;exact h1
 rw[Auc,Au2,ApH C h1']
 exact Auc ..
theorem Ank{cl:List (List Nat)}{m n:Nat}(C:Cl cl m n){dA dB:List Int}(hA:dA.Perm (eS cl m))(hB:dB.Perm (pS cl))(decA:dA.Pairwise (· ≥ ·))(K6:dB.Pairwise (· ≥ ·)):Sc m n dA dB :=
 Sc.of (upC cl) (by rw[← Ak6 C];exact hA) (by rw[← Ak7 C];exact hB) decA K6
theorem AgA(cl:List (List Nat))(m:Nat):(Hi cl m).take m=eS cl m:=by
 show(eS cl m++pS cl).take m=_
 rw[List.take_append_of_le_length (by rw[Yv];exact AsI _),Atc (by rw[Yv];exact AsI _)]
theorem AgB(cl:List (List Nat))(m:Nat):(Hi cl m).drop m=pS cl:=by
 show(eS cl m++pS cl).drop m=_
 have:=List.drop_left (l₁:=eS cl m) (l₂:=pS cl)
 rwa [Yv] at this
theorem Xq{α:Type}{R:α→α→Prop}(ApI:∀ a b,R a b→R b a→False):∀{l l':List α},l.Perm l'→l.Pairwise R→l'.Pairwise R→l=l'
 | [],l',p,_,_=>p.nil_eq
 | a::l,[],p,_,_=>absurd p.length_eq (by simp)
 | a::l,b::t,p,h,h'=>by
  have e:a=b:=by
   have h1:a∈b::t:=p.mem_iff.mp AsR
   have h2:b∈a::l:=p.mem_iff.mpr AsR
   rcases List.mem_cons.mp h1 with e | m1
   ·exact e
   ·rcases List.mem_cons.mp h2 with e | m2
    ·exact e.symm
    ·exact(ApI _ _ ((List.pairwise_cons.mp h').1 a m1) ((List.pairwise_cons.mp h).1 b m2)).elim
  subst e
  rw[Xq ApI p.cons_inv (List.pairwise_cons.mp h).2 (List.pairwise_cons.mp h').2]
structure Ord (key:Nat→Nat) (N:Nat) (l:List Nat):Prop where
 perm:l.Perm (List.range N)
 ord:l.Pairwise (fun x y=>key y<key x∨(key x=key y∧x<y))
theorem Ord.uniq{key:Nat→Nat}{N:Nat}{l l':List Nat}(a:Ord key N l)(b:Ord key N l'):l=l' :=
 Xq (fun x y h1 h2=>by omega) (a.perm.trans b.perm.symm) a.ord b.ord
theorem Ord.len{key:Nat→Nat}{N:Nat}{l:List Nat}(a:Ord key N l):l.length=N:=by rw[a.perm.length_eq,AsQ]
theorem Ord.lt{key:Nat→Nat}{N:Nat}{l:List Nat}(a:Ord key N l){x:Nat}(h:x∈l):x<N:=List.mem_range.mp (a.perm.mem_iff.mp h)
def cQ (m k:Nat):Int:=((m+k:Nat):Int)
structure Lay (up:Nat→Nat→Bool) (m n:Nat) (tss:List (List Int)) (zs:List (Nat × Nat)) (eo po:List Nat):Prop where
 oE:Ord (aS up n) m eo
 oP:Ord (bS up m) n po
 fst:zs[0]?=some (0,0)
 lst:zs[zs.length-1]?=some (m,n)
 in_:∀(i:Nat) (a:Nat × Nat),zs[i]?=some a→a.1≤m∧a.2≤n
 stp:∀(i:Nat) (a b:Nat × Nat),zs[i]?=some a→zs[i+1]?=some b→a.1≤b.1∧a.2≤b.2∧0<(b.1-a.1)+(b.2-a.2)
 z:∀(i:Nat) (a:Nat × Nat),zs[i]?=some a→sm (aS up n) (eo.take a.1)+sm (bS up m) (po.take a.2)+a.1*a.2=a.1*n+a.2*m
 len:tss.length+1=zs.length
 lay:∀(i:Nat) (a b:Nat × Nat) (t:List Int),zs[i]?=some a→zs[i+1]?=some b→tss[i]?=some t →
  t.Perm (((eo.drop a.1).take (b.1-a.1)).map (cQ 0)++((po.drop a.2).take (b.2-a.2)).map (cQ m))∧t.Pairwise (·≤·)
section
variable {up:Nat→Nat→Bool}{m n:Nat}{tss:List (List Int)}{zs:List (Nat × Nat)}{eo po:List Nat}
theorem Lay.at(L:Lay up m n tss zs eo po){i:Nat}(hi:i<tss.length):∃ a b,zs[i]?=some a∧zs[i+1]?=some b∧a.1≤b.1∧a.2≤b.2∧b.1≤m∧b.2≤n∧0<(b.1-a.1)+(b.2-a.2) ∧
  tss[i].Perm (((eo.drop a.1).take (b.1-a.1)).map (cQ 0)++((po.drop a.2).take (b.2-a.2)).map (cQ m))∧tss[i].Pairwise (·≤·):=by
 have h1:i<zs.length:=by have:=L.len;omega
 have h2:i+1<zs.length:=by have:=L.len;omega
 have e1:=AsJ h1
 have e2:=AsJ h2
 obtain⟨s1,s2,s3⟩:=L.stp i _ _ e1 e2
 obtain⟨i1,i2⟩:=L.in_ _ _ e2
 obtain⟨l1,l2⟩:=L.lay i _ _ _ e1 e2 (AsJ hi)
 exact⟨_,_,e1,e2,s1,s2,i1,i2,s3,l1,l2⟩
theorem Lay.Aml(L:Lay up m n tss zs eo po){a b:Nat × Nat}(h1:a.1≤b.1)(h2:a.2≤b.2)(h3:b.1≤m)(h4:b.2≤n) :
  ((eo.drop a.1).take (b.1-a.1)).length=b.1-a.1∧((po.drop a.2).take (b.2-a.2)).length=b.2-a.2:=by
 have l1:=L.oE.len
 have l2:=L.oP.len
 rw[Atd,Atg,Atd,Atg]
 omega
theorem Lay.count(L:Lay up m n tss zs eo po){i:Nat}(hi:i<tss.length){a b:Nat × Nat}(ea:zs[i]?=some a)(eb:zs[i+1]?=some b):tss[i].length=(b.1-a.1)+(b.2-a.2)∧(tss[i].filter fun z=>decide (z<(m:Int))).length=b.1-a.1:=by
 obtain⟨a',b',ea',eb',h1,h2,h3,h4,h5,p,_⟩:=L.at hi
 rw[ea] at ea'
 cases ea'
 rw[eb] at eb'
 cases eb'
 obtain⟨s1,s2⟩:=L.Aml h1 h2 h3 h4
 refine⟨by rw[p.length_eq,AsN,AsH,AsH,s1,s2],?_⟩
 rw[(p.filter _).length_eq,AtP,List.filter_eq_self.mpr,List.filter_eq_nil_iff.mpr,Atk,AsH,s1]
 ·intro z hz
  obtain⟨k,_,rfl⟩:=List.mem_map.mp hz
  unfold cQ
  simp only [decide_eq_true_eq]
  omega
 ·intro z hz
  obtain⟨k,hk,rfl⟩:=List.mem_map.mp hz
  have:=L.oE.lt (AtR (Aur hk))
  unfold cQ
  simp only [decide_eq_true_eq]
  omega
theorem Lay.ne(L:Lay up m n tss zs eo po){i:Nat}(hi:i<tss.length):0<tss[i].length:=by
 obtain⟨a,b,ea,eb,_,_,_,_,h,_⟩:=L.at hi
 rw[(L.count hi ea eb).1]
 exact h
theorem Lay.part(L:Lay up m n tss zs eo po):∀ i (a:Nat × Nat),zs[i]?=some a→i≤tss.length→(tss.take i).flatten.Perm ((eo.take a.1).map (cQ 0)++(po.take a.2).map (cQ m))
 | 0,a,e,_=>by
  rw[L.fst] at e
  cases e
  rw[List.take_zero,List.take_zero,List.take_zero]
  exact List.Perm.refl _
 | i+1,b,e,hi=>by
  obtain⟨a,b',ea,eb,h1,h2,h3,h4,h5,p,_⟩:=L.at (i:=i) (by omega)
  rw[e] at eb
  cases eb
  have ih:=L.part i a ea (by omega)
  rw[AuB (by omega),List.flatten_append,Ath,List.flatten_nil,Atk]
  have sp:∀(l:List Nat) (s s':Nat),s≤s'→l.take s'=l.take s++(l.drop s).take (s'-s):=fun l s s' h=>by
   conv=>lhs;rw[show s'=s+(s'-s) by omega]
   rw[List.take_add]
  rw[sp eo a.1 b.1 h1,sp po a.2 b.2 h2,AsP,AsP]
  refine(ih.append p).trans ?_
  rw[Atv,Atv]
  refine List.Perm.append_left _ ?_
  rw[← Atv,← Atv]
  exact List.Perm.append_right _ List.perm_append_comm
theorem map_range(m n:Nat):(List.range m).map (cQ 0)++(List.range n).map (cQ m)=(List.range (m+n)).map fun k=>((k:Nat):Int):=by
 apply AtQ
 ·simp
 ·intro i h1 h2
  rw[List.getElem_append]
  split
  ·simp[cQ]
  ·rename_i h
   simp[cQ] at h ⊢
   omega
theorem Lay.all(L:Lay up m n tss zs eo po):tss.flatten.Perm ((List.range (m+n)).map fun k=>((k:Nat):Int)):=by
 have hl:=L.len
 have e:zs[tss.length]?=some (m,n):=by rw[show tss.length=zs.length-1 by omega];exact L.lst
 have p:=L.part tss.length (m,n) e (AsI _)
 rw[Atc (AsI _),Atc (by rw[L.oE.len];exact AsI _),Atc (by rw[L.oP.len];exact AsI _)] at p
 rw[← map_range]
 exact p.trans ((L.oE.perm.map _).append (L.oP.perm.map _))
theorem Lay.nd(L:Lay up m n tss zs eo po):tss.flatten.Nodup:=by
 rw[L.all.nodup_iff]
 show List.Pairwise _ _
 rw[Atr]
 exact List.nodup_range.imp fun {a b} h e=>h (by omega)
theorem Anl:∀{tss:List (List Int)} {i:Nat} (hi:i<tss.length),tss.flatten.Nodup→tss[i].Nodup
 | t::tss,0,_,h=>by rw[Ath] at h;exact(List.nodup_append.mp h).1
 | t::tss,i+1,hi,h=>by rw[Ath] at h;exact Anl (tss:=tss) (i:=i) (by simpa using hi) (List.nodup_append.mp h).2.1
theorem Lay.inc(L:Lay up m n tss zs eo po){i:Nat}(hi:i<tss.length):tss[i].Pairwise (·<·):=by
 obtain⟨_,_,_,_,_,_,_,_,_,_,p⟩:=L.at hi
 exact(p.and (Anl hi L.nd)).imp fun {a b} ⟨h1,h2⟩=>by omega
theorem Lay.mem(L:Lay up m n tss zs eo po){i:Nat}(hi:i<tss.length){z:Int}(hz:z∈tss[i]):0≤z∧z<((m+n:Nat):Int):=by
 have:z∈tss.flatten:=List.mem_flatten.mpr ⟨_,AsV hi,hz⟩
 obtain⟨k,hk,rfl⟩:=List.mem_map.mp (L.all.mem_iff.mp this)
 have:=List.mem_range.mp hk
 omega
theorem Lay.has(L:Lay up m n tss zs eo po){k:Nat}(hk:k<m+n):∃ i,∃ hi:i<tss.length,((k:Nat):Int)∈tss[i]:=by
 have:((k:Nat):Int)∈tss.flatten:=L.all.mem_iff.mpr (List.mem_map.mpr ⟨k,List.mem_range.mpr hk,rfl⟩)
 obtain⟨t,ht,hz⟩:=List.mem_flatten.mp this
 obtain⟨i,hi,e⟩:=Atl ht
 exact⟨i,hi,by rw[e];exact hz⟩
theorem AeQ:∀{tss:List (List Int)},tss.flatten.Nodup→∀{i j:Nat} (hi:i<tss.length) (hj:j<tss.length) {z:Int},z∈tss[i]→z∈tss[j]→i=j
 | t::tss,h,0,0,_,_,_,_,_=>rfl
 | t::tss,h,0,j+1,_,hj,z,h1,h2=>by
  rw[Ath] at h
  have:=(List.nodup_append.mp h).2.2 z h1 z (List.mem_flatten.mpr ⟨_,AsV (by simpa using hj),h2⟩)
  exact absurd rfl this
 | t::tss,h,i+1,0,hi,_,z,h1,h2=>by
  rw[Ath] at h
  have:=(List.nodup_append.mp h).2.2 z h2 z (List.mem_flatten.mpr ⟨_,AsV (by simpa using hi),h1⟩)
  exact absurd rfl this
 | t::tss,h,i+1,j+1,hi,hj,z,h1,h2=>by
  rw[Ath] at h
  rw[AeQ (List.nodup_append.mp h).2.1 (i:=i) (j:=j) (by simpa using hi) (by simpa using hj) h1 h2]
theorem Lay.uniq{Adx:List (List Int)}{eo' po':List Nat}(L:Lay up m n tss zs eo po)(L':Lay up m n Adx zs eo' po'):tss=Adx:=by
 have e1:=L.oE.uniq L'.oE
 have e2:=L.oP.uniq L'.oP
 subst e1 e2
 have hl:tss.length=Adx.length:=by have:=L.len;have:=L'.len;omega
 refine AtQ hl fun i h1 h2=>?_
 obtain⟨a,b,ea,eb,_,_,_,_,_,p,_⟩:=L.at h1
 obtain⟨p',_⟩:=L'.lay i a b _ ea eb (AsJ h2)
 exact Xq (fun a b h1 h2=>by omega) (p.trans p'.symm) (L.inc h1) (L'.inc h2)
end
def wid (cl:List (List Nat))(ac:Nat):List (List Nat):=cl.map fun t=>(List.replicate ac t).flatten
def til (cl:List (List Nat))(ac al:Nat):List (List Nat):=(List.replicate al (wid cl ac)).flatten
def Sq3 (c:Nat):Prop:=c=35∨c=46∨c=63
structure Hc (cl:List (List Nat)) (m n:Nat):Prop where
 hn:cl.length=n
 hm:∀ t∈cl,t.length=m
 sg:∀ t∈cl,∀ c∈t,Sq3 c
 m2:2≤m
 m40:m≤40
 n2:2≤n
 n40:n≤40
def sg2 (cl:List (List Nat))(p e:Nat):Nat:=(cl.getD p []).getD e 0
def Up (N:Int)(ks:List Int):Prop:=(∀(i:Nat) (a b:Int),ks[i]?=some a→ks[i+1]?=some b→a<b)∧∀ k∈ks,0≤k∧k<N
def Aqq (N:Int)(ks:List Int):Prop:=ks≠[]∧Up N ks
def AqZ (cl:List (List Nat))(m e:Nat)(k:Nat):List Int:=((List.range k).filter fun p=>decide (sg2 cl p e≠46)).map fun p=>(m:Int)+((p:Nat):Int)
def lowP(t:List Nat)(k:Nat):List Int:=((List.range k).filter fun e=>decide (t.getD e 0≠35)).map fun e=>((e:Nat):Int)
def lows(cl:List (List Nat))(m:Nat):List (List Int):=((List.range m).map fun e=>AqZ cl m e cl.length)++cl.map fun t=>lowP t m
def ArN (cl:List (List Nat))(m n:Nat)(ks:List Int):Prop:=∀(s:Nat) (l:List Int),s<m+n→(s:Int)∉ks→(lows cl m)[s]?=some l→∀ r∈l,r∉ks
def CutAt(cl:List (List Nat))(m:Nat)(ks:List Int)(p e:Nat):Prop:=((e:Int)∈ks→((m:Int)+(p:Int))∉ks→sg2 cl p e=35)∧(((m:Int)+(p:Int))∈ks→(e:Int)∉ks→sg2 cl p e=46)
inductive Wy (tss:List (List Int)) (s:Nat):Nat→Nat→Prop where
 | nil:Wy tss s 0 s
 | snoc {v w L:Nat} (h:Wy tss s L v) (e:(w:Int)∈tss.getD v []):Wy tss s (L+1) w
structure Bf (tss:List (List Int)) (s:Nat) (ps:List (Nat × Option Nat)) (dp:List Nat):Prop where
 len:dp.length=ps.length
 st:ps[0]?=some (s,none)∧dp[0]?=some 0
 nd:∀(i j v:Nat) (a b:Option Nat),ps[i]?=some (v,a)→ps[j]?=some (v,b)→i=j
 lt:∀(v:Nat) (a:Option Nat),(v,a)∈ps→v<tss.length
 par:∀(i v:Nat) (a:Option Nat),0<i→ps[i]?=some (v,a)→∃(j u:Nat) (b:Option Nat) (d:Nat),a=some u∧j<i∧ps[j]?=some (u,b)∧dp[j]?=some d∧dp[i]?=some (d+1)∧(v:Int)∈tss.getD u []
 mono:∀(i j a b:Nat),i≤j→dp[i]?=some a→dp[j]?=some b→a≤b
def Dn (tss:List (List Int))(ps:List (Nat × Option Nat))(dp:List Nat)(pl:Nat):Prop :=
 ∀(i u:Nat) (b:Option Nat) (a:Nat),i<pl→ps[i]?=some (u,b)→dp[i]?=some a→∀ w:Nat,(w:Int)∈tss.getD u []→∃(j:Nat) (c:Option Nat) (x:Nat),ps[j]?=some (w,c)∧dp[j]?=some x∧x≤a+1
def Pth (tss:List (List Int))(l:List Nat):Prop:=∀(i a b:Nat),l[i]?=some a→l[i+1]?=some b→(b:Int)∈tss.getD a []
structure NS (N:Nat) (ws:List Nat):Prop where
 ne:ws≠[]
 up:ws.Pairwise (·<·)
 lt:∀ v∈ws,v<N
def cI (ws:List Nat):List Int:=ws.map fun v=>((v:Nat):Int)
def Ara (tss:List (List Int))(ws:List Nat)(v:Nat):List Int:=(tss.getD v []).filter fun z=>decide (z∈cI ws)
def Arb (tss:List (List Int))(ws us:List Nat):List (List Int):=(List.range tss.length).map fun v=>if v∈us then Ara tss ws v else []
def nar (tss:List (List Int))(ws:List Nat):List (List Int):=Arb tss ws ws
def As2 (tss:List (List Int))(ws:List Nat):Prop:=∀ u∈ws,∀ v∈ws,∃ L,Wy (nar tss ws) u L v
structure Lf (tss:List (List Int)) (ws fs:List Nat):Prop where
 ne:fs≠[]
 len:fs.length<ws.length
 sub:∀ v∈fs,v∈ws
 up:fs.Pairwise (·<·)
 off:∀ o∈ws,o∉fs→∀ v∈fs,(v:Int)∉tss.getD o []
structure Rd (tss:List (List Int)) (ws found:List Nat):Prop where
 fst:found[0]?=ws[0]?
 ins:∀ v∈found,v∈ws
 all:∀ v∈ws,v∈found
 len:found.length≤ws.length*ws.length
 one:ws.length=1→found=ws
 nxt:1<ws.length→∀ i a b:Nat,found[i]?=some a→found[(i+1)%found.length]?=some b→(b:Int)∈tss.getD a []
structure Wk (tss:List (List Int)) (ws:List Nat) (f i:Nat) (as bs:List Nat) (c:Nat):Prop where
 e:as=bs++[c]
 fst:as[0]?=some f
 ins:∀ v∈as,v∈ws
 has:∀ v∈ws.take (i+1),v∈as
 pth:Pth (nar tss ws) as
 len:as.length≤1+i*(ws.length-1)
 lst:(i=0∧as=[f])∨(0<i∧c≠f)
section
variable {up:Nat→Nat→Bool}{m n:Nat}{tss:List (List Int)}{zs:List (Nat × Nat)}{eo po:List Nat}
end
structure Ov (m N:Nat) (O:Nat→Nat→Prop):Prop where
 lt:∀{u v},O u v→u<N∧v<N
 kd:∀{u v},O u v→(u<m↔¬v<m)
 tot:∀{u v},u<N→v<N→(u<m↔¬v<m)→O u v∨O v u
 asy:∀{u v},O u v→¬O v u
def Clo (O:Nat→Nat→Prop)(X:List Nat):Prop:=∀ u v,v∈X→O u v→u∈X
def cE (m:Nat)(X:List Nat):Nat:=(X.filter fun x=>decide (x<m)).length
def cP (m:Nat)(X:List Nat):Nat:=(X.filter fun x=>!decide (x<m)).length
def cK (m b:Nat)(X:List Nat):Nat:=(X.filter fun x=>decide (x<m↔b<m)).length
def cO (m b:Nat)(X:List Nat):Nat:=(X.filter fun x=>!decide (x<m↔b<m)).length
structure Swp (O:Nat→Nat→Prop) (m N:Nat) (X X'':List Nat):Prop where
 nd:X''.Nodup
 lt:∀ x∈X'',x<N
 clo:Clo O X''
 e:cE m X''=cE m X
 p:cP m X''=cP m X
section
variable {m N:Nat}{O:Nat→Nat→Prop}
def turn(O:Nat→Nat→Prop)(a b u v:Nat):Prop:=(O u v∧¬(u=a∧v=b))∨(u=b∧v=a)
end
def ovU (up:Nat→Nat→Bool)(m n u v:Nat):Prop:=(u<m∧m≤v∧v<m+n∧up u (v-m)=true)∨(m≤u∧u<m+n∧v<m∧up v (u-m)=false)
structure Tpz (up:Nat→Nat→Bool) (m n:Nat) (zs:List (Nat × Nat)) (eo po:List Nat):Prop where
 oE:Ord (aS up n) m eo
 oP:Ord (bS up m) n po
 mem:∀ s t,(s,t)∈zs↔s≤m∧t≤n∧sm (aS up n) (eo.take s)+sm (bS up m) (po.take t)+s*t=s*n+t*m
 lex:zs.Pairwise lexLt
 chn:∀ a b,a∈zs→b∈zs→lexLt a b→a.1≤b.1∧a.2≤b.2
def As3 (m:Nat)(eo po:List Nat)(s t:Nat):List Nat:=eo.take s++(po.take t).map (m+·)
section
variable {up:Nat→Nat→Bool}{m n:Nat}{zs:List (Nat × Nat)}{eo po:List Nat}
end
theorem lex_trans{a b c:Nat × Nat}(h1:lexLt a b)(h2:lexLt b c):lexLt a c:=by unfold lexLt at *;omega
theorem Amm(a b:Nat × Nat):lexLt a b∨a=b∨lexLt b a:=by
 obtain⟨a1,a2⟩:=a
 obtain⟨b1,b2⟩:=b
 unfold lexLt
 by_cases h:a1=b1
 ·by_cases h2:a2=b2
  ·exact .inr (.inl (by rw[h,h2]))
  ·dsimp only;omega
 ·dsimp only;omega
theorem AgC{l:List (Nat × Nat)}(pw:l.Pairwise lexLt)(p:Nat × Nat→Bool)(dn:∀ a b,lexLt a b→p b=true→p a=true):l=l.filter p++l.filter fun x=>!p x:=by
 induction l with
 | nil=>rfl
 | cons a l ih =>
  obtain⟨h1,h2⟩:=List.pairwise_cons.mp pw
  have ih':=ih h2
  cases hp:p a with
  | true =>
   rw[Aud hp,Aue (by rw[hp];decide),Auz,← ih']
  | false =>
   have none:l.filter p=[]:=List.filter_eq_nil_iff.mpr fun x hx z=>by
    have:=dn a x (h1 x hx) z
    rw[hp] at this
    cases this
   rw[none,AtE] at ih'
   rw[Aue (by rw[hp];decide),Aud (by rw[hp];rfl),none,AtE,← ih']
theorem AeR{l l':List (Nat × Nat)}(pw:l.Pairwise lexLt)(pw':l'.Pairwise lexLt)(h:∀ x,x∈l↔x∈l'):l=l':=by
 have nd:∀{l:List (Nat × Nat)},l.Pairwise lexLt→l.Nodup:=fun p=>p.imp fun {a b} h e=>by rw[e] at h;exact Aiz h
 exact Xq (fun a b h1 h2=>Ag8 h1 h2) ((List.perm_ext_iff_of_nodup (nd pw) (nd pw')).mpr h) pw pw'
theorem Ajv{l:List (Nat × Nat)}(pw:l.Pairwise lexLt){i:Nat}{z:Nat × Nat}(hz:l[i]?=some z)(x:Nat × Nat):x∈l.take (i+1)↔x∈l∧¬lexLt z x:=by
 constructor
 ·intro h
  obtain⟨j,hj,e⟩:=Atl h
  rw[Atd] at hj
  rw[List.getElem_take] at e
  refine⟨Aur h,fun lt=>?_⟩
  have:=Adw (j:=j) pw hz (by rw[AsJ (show j<l.length by omega),e]) lt
  omega
 ·rintro⟨h1,h2⟩
  obtain⟨j,hj,e⟩:=Atl h1
  have e':l[j]?=some x:=by rw[AsJ hj,e]
  have:j<i+1:=Classical.byContradiction fun hn=>by
   have hi:=(List.getElem?_eq_some_iff.mp hz)
   obtain⟨hi1,hi2⟩:=hi
   have:=List.pairwise_iff_getElem.mp pw i j hi1 hj (by omega)
   rw[hi2,e] at this
   exact h2 this
  exact List.mem_take_iff_getElem.mpr ⟨j,by omega,e⟩
theorem Ajw{l:List (Nat × Nat)}(pw:l.Pairwise lexLt){i:Nat}{z:Nat × Nat}(hz:l[i]?=some z)(x:Nat × Nat):x∈l.drop i↔x∈l∧¬lexLt x z:=by
 obtain⟨hi1,hi2⟩:=List.getElem?_eq_some_iff.mp hz
 constructor
 ·intro h
  obtain⟨j,hj,e⟩:=Atl h
  rw[Atg] at hj
  rw[List.getElem_drop] at e
  refine⟨AtR h,fun lt=>?_⟩
  have:=Adw (i:=i+j) pw (by rw[AsJ (show i+j<l.length by omega),e]) hz lt
  omega
 ·rintro⟨h1,h2⟩
  obtain⟨j,hj,e⟩:=Atl h1
  have:¬j<i:=fun hn=>by
   have:=List.pairwise_iff_getElem.mp pw j i hj hi1 hn
   rw[hi2,e] at this
   exact h2 this
  exact List.mem_drop_iff_getElem.mpr ⟨j-i,by omega,by rw[← e];congr 1;omega⟩
theorem agree{l l':List (Nat × Nat)}(pw:l.Pairwise lexLt)(pw':l'.Pairwise lexLt){i j:Nat}{u v:Nat × Nat}(hu:l[i]?=some u)(hv:l[j]?=some v)(huv:lexLt u v)(low:∀ x,¬lexLt u x→(x∈l'↔x∈l))(high:∀ x,¬lexLt x v→(x∈l'↔x∈l)) :
  ∃ mid,l'=l.take (i+1)++mid++l.drop j∧∀ x∈mid,x∈l'∧lexLt u x∧lexLt x v:=by
 have d1:∀ a b:Nat × Nat,lexLt a b→(fun x=>@decide (¬lexLt u x) (Classical.propDecidable _)) b=true→(fun x=>@decide (¬lexLt u x) (Classical.propDecidable _)) a=true:=fun a b h1 h2=>by
  have:=@of_decide_eq_true _ (Classical.propDecidable _) h2
  exact @decide_eq_true _ (Classical.propDecidable _) fun z=>this (lex_trans z h1)
 have d2:∀ a b:Nat × Nat,lexLt a b→(fun x=>@decide (lexLt x v) (Classical.propDecidable _)) b=true→(fun x=>@decide (lexLt x v) (Classical.propDecidable _)) a=true:=fun a b h1 h2=>by
  have:=@of_decide_eq_true _ (Classical.propDecidable _) h2
  exact @decide_eq_true _ (Classical.propDecidable _) (lex_trans h1 this)
 have s1:=AgC pw' _ d1
 have pw2:=pw'.filter fun x=>!(@decide (¬lexLt u x) (Classical.propDecidable _))
 have s2:=AgC pw2 _ d2
 refine⟨(l'.filter fun x=>!(@decide (¬lexLt u x) (Classical.propDecidable _))).filter fun x=>@decide (lexLt x v) (Classical.propDecidable _),?_,fun x hx=>?_⟩
 ·have e1:(l'.filter fun x=>@decide (¬lexLt u x) (Classical.propDecidable _))=l.take (i+1):=AeR (pw'.filter _) (pw.sublist (Auv _ _)) fun x=>by
   rw[Aua,Ajv pw hu,@decide_eq_true_iff _ (Classical.propDecidable _)]
   exact⟨fun h=>⟨(low x h.2).mp h.1,h.2⟩,fun h=>⟨(low x h.2).mpr h.1,h.2⟩⟩
  have e2:((l'.filter fun x=>!(@decide (¬lexLt u x) (Classical.propDecidable _))).filter fun x=>!(@decide (lexLt x v) (Classical.propDecidable _)))=l.drop j:=AeR (pw2.filter _) (pw.sublist (List.drop_sublist _ _)) fun x=>by
   rw[Aua,Aua,Ajw pw hv]
   simp only [Auy,@decide_eq_false_iff_not _ (Classical.propDecidable _),Classical.not_not]
   constructor
   ·rintro⟨⟨h1,h2⟩,h3⟩
    exact⟨(high x h3).mp h1,h3⟩
   ·rintro⟨h1,h2⟩
    refine⟨⟨(high x h2).mpr h1,?_⟩,h2⟩
    rcases Amm x v with h | h | h
    ·exact absurd h h2
    ·rw[h];exact huv
    ·exact lex_trans huv h
  rw[e1] at s1
  rw[e2] at s2
  rw[Atv,← s2]
  exact s1
 ·obtain⟨h1,h2⟩:=List.mem_filter.mp hx
  obtain⟨h3,h4⟩:=List.mem_filter.mp h1
  simp only [Auy,@decide_eq_false_iff_not _ (Classical.propDecidable _),Classical.not_not] at h4
  exact⟨h3,h4,@of_decide_eq_true _ (Classical.propDecidable _) h2⟩
section
variable {up up':Nat→Nat→Bool}{m n:Nat}{tss:List (List Int)}{zs zs':List (Nat × Nat)}{eo po eo' po':List Nat}
end
def plc (os:List Int)(k:Nat):Nat:=(os.take k).count (os.getD k 0)
def ApJ (o e:Int)(own:List Nat)(p:Nat):Nat:=if o=e then own.getD p 0 else if e<o then 35 else 46
def Aoj (ps:List (List (List Nat)))(es:List Int)(o:Int)(b:Nat):List Nat:=(List.range es.length).map fun k=>ApJ o (es.getD k 0) ((ps.getD o.toNat []).getD b []) (plc es k)
def lay (ps:List (List (List Nat)))(es os:List Int):List (List Nat):=(List.range os.length).map fun j=>Aoj ps es (os.getD j 0) (plc os j)
structure As4 (ps:List (List (List Nat))) (es os:List Int):Prop where
 e:∀ z∈es,0≤z∧z<(ps.length:Int)
 o:∀ z∈os,0≤z∧z<(ps.length:Int)
 hn:∀ i,i<ps.length→(ps.getD i []).length=os.count (i:Int)
 hm:∀ i,i<ps.length→∀ t∈ps.getD i [],t.length=es.count (i:Int)∧∀ c∈t,Sg c
 e1:1≤es.length
 e40:es.length≤40
 o1:1≤os.length
 o40:os.length≤40
theorem getD_mem{os:List Int}{k:Nat}(h:k<os.length):os.getD k 0∈os:=by
 have e:os.getD k 0=os[k]:=by simp[List.getD,h]
 rw[e]
 exact AsV h
structure Own (es:List Int) (z:Int) (i:Nat) (ms:List Nat):Prop where
 len:ms.length=(es.take i).count z
 lt:∀ m∈ms,m<i
 at':∀ a m,ms[a]?=some m→es.getD m 0=z∧(es.take m).count z=a
structure Blk (up:Nat→Nat→Bool) (m n q:Nat) (ow:Nat→Nat):Prop where
 lt:∀ x,x<m+n→ow x<q
 ov:∀ e p,e<m→p<n→(ow e<ow (m+p)→up e p=true)∧(ow (m+p)<ow e→up e p=false)
 hang:∀ X:Nat→Prop,(∀ u v,ovU up m n u v→X v→X u)→∀ x y,x<m+n→y<m+n→ow x=ow y→X x→X y
 As5:∀ j,j<q→∃ e,e<m∧ow e=j
 As6:∀ j,j<q→∃ p,p<n∧ow (m+p)=j
section
variable {up:Nat→Nat→Bool}{m n q:Nat}{ow:Nat→Nat}{zs:List (Nat × Nat)}{eo po:List Nat}{tss:List (List Int)}
def Ec (m:Nat)(ow:Nat→Nat)(t:Nat):Nat:=((List.range m).filter fun e=>decide (ow e<t)).length
def Pct (m n:Nat)(ow:Nat→Nat)(t:Nat):Nat:=((List.range n).filter fun p=>decide (ow (m+p)<t)).length
def upto(m n:Nat)(ow:Nat→Nat)(t:Nat):List Nat:=(List.range (m+n)).filter fun x=>decide (ow x<t)
def As7 (m:Nat)(ow:Nat→Nat)(j:Nat):List Nat:=(List.range m).filter fun e=>decide (ow e=j)
def As8 (m n:Nat)(ow:Nat→Nat)(j:Nat):List Nat:=(List.range n).filter fun p=>decide (ow (m+p)=j)
end
def Hng (P:List (List Nat))(w h:Nat):Prop:=∀ S:Nat→Prop,(∀ u v,ovU (upC P) w h u v→S v→S u)→∀ x y,x<w+h→y<w+h→S x→S y
def owN (es os:List Int)(x:Nat):Nat:=if x<es.length then (es.getD x 0).toNat else (os.getD (x-es.length) 0).toNat
section
variable {ps:List (List (List Nat))}{es os:List Int}
end
def UpC (P:List (List Nat))(w h:Nat)(S:Nat→Prop):Prop:=∀ u v,ovU (upC P) w h u v→S v→S u
section
variable {P:List (List Nat)}{w h:Nat}
structure Rch (P:List (List Nat)) (w h:Nat) (Anm:Bool) (seen:List Bool):Prop where
 len:seen.length=w+h
 ok:∀ S,UpC P w h S→∀ y:Nat,seen[y]?=some true→(Anm=true→S y→S 0)∧(Anm=false→S 0→S y)
end
section
variable {ps:List (List (List Nat))}{es os:List Int}
end
end Mine
namespace L2
open PySem PySem.Spec PyProof.Rows
section
variable {X:Cx}{K:PySem.W.Frag}
def As9 (K:PySem.W.Frag):R2:=fun x y H Q=>∃ p q xs,x=.ref p∧y=.ref q∧SqT K H p xs∧SqT K H q xs∧(∀ x∈xs,HH x=true)∧Q (.bl false) H
end
open PySem PySem.Spec PyProof.Rows
section
variable {X:Cx}{K:PySem.W.Frag}
def ArO (K:PySem.W.Frag):R2:=fun x y H Q=>∃(p q:Addr) (xs ys:List V),x=.ref p∧y=.ref q∧SqT K H p xs∧SqT K H q ys∧xs.length=ys.length∧(∀(i:Nat) (x y:V),xs[i]?=some x→ys[i]?=some y→Ah6 K H 50 x y)∧Q (.bl true) H
end
open PySem PySem.Spec PyProof.Rows
def Itv (K:PySem.W.Frag)(a:Addr)(n:Nat):It :=
 ⟨fun i H=>∃ xs x,SqL K H a xs∧xs.length=n∧i<n∧xs.reverse[i]?=some x,fun i H x H'=>H'=H∧∀ xs,SqL K H a xs→xs.reverse[i]?=some x,fun i H=>n=i⟩
section
variable {X:Cx}{tg:Expr}
def ArP (K:PySem.W.Frag)(ta:TA):TI:=fun σ H R=>ta σ H fun vs H1=>∃ a xs,vs=[.ref a]∧SqL K H1 a xs∧R (Itv K a xs.length) H1
end
open PySem PySem.Spec PyProof.Rows
namespace SetW
theorem Ady:Slot "set_iterator" "__next__" "set_iterator.__next__" := .of (owner := "set_iterator") (n := "__next__") (by rw[typeLookup_type,builtinLookup_eq_fast];kernel_rfl) (by decide +kernel) (by decide +kernel) (by decide +kernel) (by first | exact .inl (by decide +kernel) | exact .inr (by decide +kernel)) (by rw[isSubtype_type];kernel_rfl)
theorem Ann:Slot "set_iterator" "__iter__" "set_iterator.__iter__" := .of (owner := "set_iterator") (n := "__iter__") (by rw[typeLookup_type,builtinLookup_eq_fast];kernel_rfl) (by decide +kernel) (by decide +kernel) (by decide +kernel) (by first | exact .inl (by decide +kernel) | exact .inr (by decide +kernel)) (by rw[isSubtype_type];kernel_rfl)
theorem Ano:entryFor table "set_iterator.__next__" = some Builtin.«set_iterator.__next__»:=entryFor_of_fast (by kernel_rfl)
theorem ApK:entryFor table "set_iterator.__iter__" = some Builtin.«dict_keyiterator.__iter__»:=entryFor_alias (id' := "dict_keyiterator.__iter__") (by kernel_rfl) rfl (by decide +kernel) (by kernel_rfl)
theorem ApL:entryFor table "set.__iter__" = some Builtin.«frozenset.__iter__»:=entryFor_alias (id' := "frozenset.__iter__") (by kernel_rfl) rfl (by decide +kernel) (by kernel_rfl)
theorem Anp(a:Value):argsOk "set_iterator.__next__" ⟨[a],[]⟩:=by unfold argsOk;kernel_rfl
theorem ApM(a:Value):argsOk "set_iterator.__iter__" ⟨[a],[]⟩:=by unfold argsOk;kernel_rfl
theorem Aok:typeLookup (.type "set") "__len__" = pure (some (.builtin "set.__len__")):=by rw[typeLookup_type,builtinLookup_eq_fast];kernel_rfl
end SetW
open PySem PySem.Spec PyProof.Rows
namespace SetW
theorem Ai0{α:Type}(next:Nat→Nat):∀(fuel k:Nat) (left:List α) (out:Array α),left.length≤fuel→(pickOrder.go next fuel k left out).toList.Perm (out.toList++left)
 | 0,k,left,out,h=>by
  have:left=[]:=List.length_eq_zero_iff.mp (by omega)
  subst this
  simp[pickOrder.go]
 | fuel+1,k,left,out,h=>by
  unfold pickOrder.go
  by_cases e:left=[]
  ·subst e
   simp
  ·have l0:0<left.length:=List.length_pos_iff.mpr e
   have l1:next k%left.length<left.length:=AtC _ l0
   rw[AsJ l1]
   dsimp only
   refine(Ai0 next fuel (k+1) _ _ (by rw[List.length_eraseIdx,if_pos l1];omega)).trans ?_
   rw[Array.toList_push,Atv]
   refine List.Perm.append_left _ ?_
   rw[AuC]
   have e2:left=left.take (next k%left.length)++left[next k%left.length]::left.drop (next k%left.length+1):=by
    rw[List.getElem_cons_drop,AtN]
   exact(Au3 (a:=left[next k%left.length]) (l₁:=left.take (next k%left.length)) (l₂:=left.drop (next k%left.length+1))).symm.trans (.of_eq e2.symm)
theorem Ajx{α:Type}(next:Nat→Nat)(xs:Array α):(pickOrder next xs).toList.Perm xs.toList:=by
 have:=Ai0 next xs.size 0 xs.toList #[] (by simp)
 simpa [pickOrder] using this
def XM (xs:Array Nat):Prop:=∀ i k,i<k→k<xs.size→xs.getD i 0<xs.getD k 0
theorem Adz(xs:Array Nat)(j:Nat)(hR:XM xs):∀(fuel lo hi:Nat),lo≤hi→hi≤xs.size→hi-lo≤fuel→(∀ i,i<lo→xs.getD i 0<j)→(∀ i,hi≤i→i<xs.size→j≤xs.getD i 0) →
  SetTable.below.go xs j fuel lo hi≤xs.size∧(∀ i,i<SetTable.below.go xs j fuel lo hi→xs.getD i 0<j)∧(∀ i,SetTable.below.go xs j fuel lo hi≤i→i<xs.size→j≤xs.getD i 0)
 | 0,lo,hi,h1,h2,h3,h4,h5=>by
  have:lo=hi:=by omega
  subst this
  unfold SetTable.below.go
  exact⟨h2,h4,h5⟩
 | fuel+1,lo,hi,h1,h2,h3,h4,h5=>by
  unfold SetTable.below.go
  by_cases c:lo<hi
  ·rw[if_pos c]
   have hm:(lo+hi) / 2<xs.size:=by omega
   have e:xs.getD ((lo+hi) / 2) j=xs.getD ((lo+hi) / 2) 0:=by simp[Array.getD,hm]
   dsimp only
   by_cases c2:xs.getD ((lo+hi) / 2) j<j
   ·rw[if_pos c2]
    refine Adz xs j hR fuel _ hi (by omega) h2 (by omega) (fun i hi'=>?_) h5
    rw[e] at c2
    by_cases c3:i=(lo+hi) / 2
    ·rw[c3];exact c2
    ·have:=hR i ((lo+hi) / 2) (by omega) hm
     omega
   ·rw[if_neg c2]
    refine Adz xs j hR fuel lo _ (by omega) (by omega) (by omega) h4 (fun i hi' hs=>?_)
    rw[e] at c2
    by_cases c3:i=(lo+hi) / 2
    ·rw[c3];omega
    ·have:=hR ((lo+hi) / 2) i (by omega) hs
     omega
  ·rw[if_neg c]
   have:lo=hi:=by omega
   subst this
   exact⟨h2,h4,h5⟩
theorem R1{xs:Array Nat}(hR:XM xs)(j:Nat):SetTable.below xs j≤xs.size∧(∀ i,i<SetTable.below xs j→xs.getD i 0<j)∧(∀ i,SetTable.below xs j≤i→i<xs.size→j≤xs.getD i 0) :=
 Adz xs j hR xs.size 0 xs.size (AsM _) (AsI _) (by omega) (fun i h=>by omega) (fun i h1 h2=>by omega)
theorem AhA{xs:Array Nat}(hR:XM xs):SetTable.below xs 0=0:=by
 obtain⟨h1,h2,h3⟩:=R1 hR 0
 by_cases c:SetTable.below xs 0=0
 ·exact c
 ·have:=h2 0 (by omega);omega
theorem AhB{xs:Array Nat}(hR:XM xs){i:Nat}(hi:i<xs.size):SetTable.below xs (xs.getD i 0+1)=i+1:=by
 obtain⟨h1,h2,h3⟩:=R1 hR (xs.getD i 0+1)
 rcases Auq (SetTable.below xs (xs.getD i 0+1)) (i+1) with c | c | c
 ·have:=h3 i (by omega) hi;omega
 ·exact c
 ·have a:=h2 (i+1) c
  have:=hR i (i+1) (by omega) (by omega)
  omega
structure Wk (w:World) (o:Obj) (es:Array (Int × Value)) (ep:Nat) (t:SetTable):Prop where
 ex:o.ExactSet
 d:o.data=.set es ep t
 f:t.fits es.size=true
 ok:w.params.followText "set-order" = true∨es.size=0∨(t.led=true∧(t.plain=true→XM t.place))
theorem Wk.rise{w:World}{o:Obj}{es:Array (Int × Value)}{ep:Nat}{t:SetTable}(W:Wk w o es ep t)(hb:w.params.followText "set-order" = false) (hp:t.plain=true∨es.size≤1):XM t.place:=by
 have hf:t.place.size=es.size:=by
  have:=W.f
  unfold SetTable.fits at this
  simp at this
  exact this.1
 rcases W.ok with e | e | ⟨_,e⟩
 ·rw[hb] at e;cases e
 ·intro i k h1 h2;omega
 ·rcases hp with hp | hp
  ·exact e hp
  ·intro i k h1 h2;omega
def Md (w:World)(a:Addr)(es:Array (Int × Value))(ep:Nat)(t:SetTable)(h:Heap)(T:Addr)(xl:List (Int × Value))(i:Nat)(f:Value):Prop :=
 (∃ slot:Nat,f=.int slot 0∧((w.params.followText "set-order" = true∧xl=(pickOrder (w.params.setOrder a ep) es).toList)∨(w.params.followText "set-order" = false∧(t.plain=true∨es.size≤1)∧xl=es.toList∧SetTable.below t.place slot=i))) ∨
 (∃ pm:List Nat,f=.ref T∧h.get? T=some (seqObj "tuple" (pm.map fun k:Nat=>rawInt (k:Int)).toArray 0)∧pm.Perm (List.range es.size)∧xl=pm.map fun k=>es.toList.getD k (0,.none))
theorem Md.perm{w:World}{a T:Addr}{es:Array (Int × Value)}{ep i:Nat}{t:SetTable}{h:Heap}{xl:List (Int × Value)}{f:Value}(m:Md w a es ep t h T xl i f):xl.Perm es.toList:=by
 rcases m with ⟨_,_,⟨_,e⟩ | ⟨_,_,e,_⟩⟩ | ⟨pm,_,_,hp,e⟩
 ·rw[e];exact Ajx _ _
 ·rw[e]
 ·rw[e]
  refine(hp.map _).trans (.of_eq ?_)
  refine Au4 fun k=>?_
  rw[AsU]
  by_cases c:k<es.size
  ·rw[AtK c]
   simp[List.getD,c]
  ·rw[AtB (by simp;omega),AtB (by simp;omega)]
   rfl
theorem Md.len{w:World}{a T:Addr}{es:Array (Int × Value)}{ep i:Nat}{t:SetTable}{h:Heap}{xl:List (Int × Value)}{f:Value}(m:Md w a es ep t h T xl i f):xl.length=es.size:=by
 rw[m.perm.length_eq,Array.length_toList]
def StI (w:World)(I a T:Addr)(o:Obj)(es:Array (Int × Value))(ep:Nat)(t:SetTable)(xl:List (Int × Value))(i:Nat)(h:Heap):Prop :=
 ∃ f oi,h.get? I=some oi∧oi.cls=.type "set_iterator" ∧ oi.data=.fields #[f,.int i 0,.ref a,.int es.size 0,.int ep 0]∧Md w a es ep t h T xl i f∧h.get? a=some o
section
variable {prog:Program}{w:World}{A:Around}{E:Value→Shared→Prop}{s:Shared}{a T:Addr}{o:Obj}{es:Array (Int × Value)}{ep:Nat}{t:SetTable}{xl:List (Int × Value)}
theorem StI.typeIs{I:Addr}{i:Nat}(x:StI w I a T o es ep t xl i s.heap):s.TypeIs (.ref I) "set_iterator" := let ⟨_,oi,ho,hc,_⟩:=x;⟨oi,ho,hc⟩
theorem typ(W:Wk w o es ep t)(ho:s.heap.get? a=some o):s.TypeIs (.ref a) "set" := ⟨o,ho,W.ex.1⟩
theorem Ab1{Q:Bool→Shared→Prop}(h:Q (w.params.followText "set-order") s):wpAny (model prog w) A setsByText Q E s:=by
 unfold setsByText
 exact wpAny_bind (wpAny_askSetting (wpAny_pure h))
theorem Ak8(W:Wk w o es ep t)(ho:s.heap.get? a=some o){Q:Bool→Shared→Prop}(h:Q (!w.params.followText "set-order" && (!t.plain && decide (es.size>1))) s):wpAny (model prog w) A (setDrawn a) Q E s:=by
 unfold setDrawn
 exact wpAny_bind (wpAny_setState_of ho W.d W.f (wpAny_bind (Ab1 (wpAny_pure h))))
theorem AgD(W:Wk w o es ep t)(ho:s.heap.get? a=some o){Q:Nat→Shared→Prop}(h:Q ep s):wpAny (model prog w) A (setEpoch a) Q E s:=by
 unfold setEpoch
 exact wpAny_bind (wpAny_setState_of ho W.d W.f (wpAny_pure h))
theorem Af4(W:Wk w o es ep t)(ho:s.heap.get? a=some o){Q:Array (Int × Value)→Shared→Prop}(h:Q es s):wpAny (model prog w) A (setEntries a) Q E s:=by
 unfold setEntries
 exact wpAny_bind (wpAny_setState_of ho W.d W.f (wpAny_pure h))
theorem Ajy{M:Model}{n:Nat}(hn:0<n){Q:Nat→Shared→Prop}(h:∀ i d,i<n→Q i { s with drawn:=d }):wpAny M A (choose .order n) Q E s:=fun Γ p _=>by
 show Sem.wp M Γ (.choose .order n .pure) _ _ p s
 rw[Sem.wp_choose]
 exact⟨by omega,h _ _ (AtC _ hn)⟩
theorem AgE{α:Type}{M:Model}:∀(n:Nat) (l:List α) {s:Shared} {Q:List α→Shared→Prop},l.length≤n→(∀ l' d,l'.Perm l→Q l' { s with drawn:=d })→wpAny M A (drawOrder n l) Q E s
 | 0,l,s,Q,hl,h=>by
  have:l=[]:=List.length_eq_zero_iff.mp (by omega)
  subst this
  unfold drawOrder
  exact wpAny_pure (h [] s.drawn (.refl _))
 | n+1,[],s,Q,hl,h=>by
  unfold drawOrder
  exact wpAny_pure (h [] s.drawn (.refl _))
 | n+1,x::l,s,Q,hl,h=>by
  unfold drawOrder
  refine wpAny_bind (Ajy (by simp) fun i d hi=>?_)
  rw[AsJ hi]
  dsimp only
  refine wpAny_bind (AgE n ((x::l).eraseIdx i) (by rw[List.length_eraseIdx,if_pos hi];omega) fun l' d' hp=>wpAny_pure (h _ d' ?_))
  refine(hp.cons _).trans ?_
  rw[AuC]
  have e2:(x::l)=(x::l).take i++(x::l)[i]::(x::l).drop (i+1):=by rw[List.getElem_cons_drop,AtN]
  exact(Au3 (a:=(x::l)[i]) (l₁:=(x::l).take i) (l₂:=(x::l).drop (i+1))).symm.trans (.of_eq e2.symm)
theorem Aol(W:Wk w o es ep t)(ho:s.heap.get? a=some o)(hz:es.size≤sizeLine){Q:Value→Shared→Prop}
  (hQ:∀(h':Heap) d I T xl,I≠a→T≠I→s.heap.objs.size≤I→(T=a∨s.heap.objs.size≤T)→(∀ b o,s.heap.get? b=some o→h'.get? b=some o)→StI w I a T o es ep t xl 0 h'→Q (.ref I) { s with heap:=h',drawn:=d }):wpAny (model prog w) A (pyIter (.ref a)) Q E s:=by
 have hT:=typ W ho
 have ha:a<s.heap.objs.size:=Heap.lt_size ho
 refine wpAny_pyIter_slot hT F.slot_set_iter (wpAny_call_entry F.slot_set_iter hT ApL ?_ (F.args_set_iter_1 _))
 unfold Builtin.«frozenset.__iter__»
 refine wpAny_bind (m:=Builtin.Frozenset.slot0 "__iter__" ⟨[.ref a],[]⟩) (wpAny_of_eq (a:=a) rfl ?_)
 refine wpAny_bind (wpAny_bind (Af4 W ho (wpAny_pure ?_)))
 refine wpAny_bind (Ak8 W ho ?_)
 dsimp only
 by_cases c:(!w.params.followText "set-order" && (!t.plain && decide (es.size>1)))=true
 ·rw[if_pos c]
  refine wpAny_bind (AgE es.size (List.range es.size) (by simp) fun pm d hp=>?_)
  have hl:pm.length=es.size:=by rw[hp.length_eq,AsQ]
  unfold newTuple
  refine wpAny_bind (wpAny_newObj_type ?_ (by show(List.map _ pm).toArray.size≤_+1;rw[AsK,AsH,hl];have:=sizeLine_eq;omega))
  have k1:∀ b ob,s.heap.get? b=some ob→(s.heap.push { cls:=.type "tuple", data:=.seq (pm.map fun k:Nat=>rawInt (k:Int)).toArray }).get? b=some ob:=fun b ob e=>Heap.get?_push_of_some _ e
  refine wpAny_bind (AgD W (k1 _ _ ho) (wpAny_bind (wpAny_newObj_type (wpAny_pure ⟨_,rfl, "set_iterator", _,⟨_,Heap.get?_push_size _ rfl,rfl⟩,Ady.lookup,?_⟩))))
  refine hQ _ d _ s.heap.objs.size (pm.map fun k=>es.toList.getD k (0,.none)) ?_ ?_ ?_ (.inr (AsI _)) (fun b ob e=>Heap.get?_push_of_some _ (k1 _ _ e)) ?_
  ·show(s.heap.push _).objs.size≠a
   rw[Heap.size_push];exact Ato (Atz ha)
  ·show s.heap.objs.size≠(s.heap.push _).objs.size
   rw[Heap.size_push];exact AsL (At5 _)
  ·show s.heap.objs.size≤(s.heap.push _).objs.size
   rw[Heap.size_push];exact Atj _
  ·exact⟨.ref s.heap.objs.size,_,Heap.get?_push_size _ rfl,rfl,rfl,.inr ⟨pm,rfl,Heap.get?_push_of_some _ (Heap.get?_push_size _ rfl),hp,rfl⟩,Heap.get?_push_of_some _ (k1 _ _ ho)⟩
 ·rw[if_neg c]
  refine wpAny_bind (wpAny_pure (wpAny_bind (AgD W ho (wpAny_bind (wpAny_newObj_type (wpAny_pure ⟨_,rfl, "set_iterator", _,⟨_,Heap.get?_push_size _ rfl,rfl⟩,Ady.lookup,?_⟩))))))
  have k:∀ b ob,s.heap.get? b=some ob→(s.heap.push { cls:=.type "set_iterator", data:=.fields [rawInt 0,rawInt 0,.ref a,rawInt es.size,rawInt ep].toArray }).get? b=some ob:=fun b ob e=>Heap.get?_push_of_some _ e
  refine hQ _ s.drawn s.heap.objs.size a (if w.params.followText "set-order" = true then (pickOrder (w.params.setOrder a ep) es).toList else es.toList) (Ato ha) (AsL ha) (AsI _) (.inl rfl) k ?_
  refine⟨rawInt 0,_,Heap.get?_push_size _ rfl,rfl,rfl,.inl ⟨0,rfl,?_⟩,k _ _ ho⟩
  by_cases hb:w.params.followText "set-order" = true
  ·exact .inl ⟨hb,by rw[if_pos hb]⟩
  ·have hb':w.params.followText "set-order" = false:=by simpa using hb
   rw[hb'] at c
   have hpl:t.plain=true∨es.size≤1:=by
    by_cases z:t.plain=true
    ·exact .inl z
    ·have z':t.plain=false:=by simpa using z
     rw[z'] at c
     simp at c
     exact .inr c
   exact .inr ⟨hb',hpl,by rw[if_neg hb],AhA (W.rise hb' hpl)⟩
theorem Ai1(W:Wk w o es ep t)(ho:s.heap.get? a=some o){slot i:Nat}
  (hm:(w.params.followText "set-order" = true∧xl=(pickOrder (w.params.setOrder a ep) es).toList)∨(w.params.followText "set-order" = false∧(t.plain=true∨es.size≤1)∧xl=es.toList∧SetTable.below t.place slot=i)) {Q:Option (Value × Nat)→Shared→Prop}
  (h:∀ next,(i<es.size→(w.params.followText "set-order" = true∧xl=(pickOrder (w.params.setOrder a ep) es).toList)∨(w.params.followText "set-order" = false∧(t.plain=true∨es.size≤1)∧xl=es.toList∧SetTable.below t.place next=i+1)) →
   Q ((xl[i]?).map fun e=>(e.2,next)) s):wpAny (model prog w) A (setNext a slot i ep) Q E s:=by
 unfold setNext
 refine wpAny_bind (wpAny_setState_of ho W.d W.f (wpAny_bind (Ab1 ?_)))
 dsimp only
 rcases hm with ⟨hb,hx⟩ | ⟨hb,hp,hx,hs⟩
 ·rw[hb,if_pos rfl,if_neg (by simp)]
  unfold setWalk
  refine wpAny_bind (wpAny_bind (wpAny_setState_of ho W.d W.f (wpAny_bind (Ab1 ?_))))
  rw[hb,if_pos rfl]
  refine wpAny_bind (wpAny_askSetting (wpAny_pure (wpAny_pure ?_)))
  have:=h slot fun _=>.inl ⟨hb,hx⟩
  rw[hx,Array.getElem?_toList] at this
  exact this
 ·rw[hb,if_neg (by decide)]
  have hR:=W.rise hb hp
  have hf:t.place.size=es.size:=by
   have:=W.f
   unfold SetTable.fits at this
   simp at this
   exact this.1
  have nd:(!t.plain && decide (es.size>1))=false:=by
   rcases hp with e | e
   ·rw[e];simp
   ·rw[decide_eq_false (by omega)];simp
  have nl:(!t.led && !es.isEmpty)=false:=by
   rcases W.ok with e | e | ⟨e,_⟩
   ·rw[hb] at e;cases e
   ·simp[Array.isEmpty,e]
   ·rw[e];simp
  split
  ·rename_i hd
   have hd':(!t.plain && decide (es.size>1))=true:=hd
   rw[nd] at hd'
   cases hd'
  ·refine wpAny_bind ?_
   show wpAny _ _ (if (!t.led && !es.isEmpty)=true then unsupported "set:maker-not-led" else pure ()) _ _ _
   rw[nl,if_neg (by decide)]
   refine wpAny_pure (wpAny_pure ?_)
   rw[hs]
   by_cases hi:i<es.size
   ·have:=h (t.place[i]'(by omega)+1) fun _=>.inr ⟨hb,hp,hx,by
     have:=AhB hR (i:=i) (by omega)
     rwa [show t.place.getD i 0=t.place[i]'(by omega) by simp[Array.getD,show i<t.place.size by omega]] at this⟩
    rw[hx,Array.getElem?_toList,Array.getElem?_eq_getElem hi] at this
    rw[Array.getElem?_eq_getElem hi,Array.getElem?_eq_getElem (show i<t.place.size by omega)]
    exact this
   ·have:=h 0 fun z=>absurd z hi
    rw[hx,Array.getElem?_toList,Array.getElem?_eq_none (by omega)] at this
    rw[Array.getElem?_eq_none (by omega)]
    exact this
theorem Amn(W:Wk w o es ep t){I:Addr}{i:Nat}{x:Int × Value}{Q:Option Value→Shared→Prop}(hne:a≠I)(hnT:T≠I)(st:StI w I a T o es ep t xl i s.heap)(hx:xl[i]?=some x)
  (hQ:∀ h',StI w I a T o es ep t xl (i+1) h'→(∀ b o,b≠I→s.heap.get? b=some o→h'.get? b=some o)→Q (some x.2) { s with heap:=h' }):wpAny (model prog w) A (pyNext (.ref I)) Q E s:=by
 have hT:=st.typeIs
 obtain⟨f,oi,hoi,hci,hdi,hm,ho⟩:=st
 have hi:i<es.size:=by rw[← hm.len];exact(List.getElem?_eq_some_iff.mp hx).1
 unfold pyNext
 refine wpAny_bind (wpAny_attempt (wpAny_callSpecial?_slot (name:=Str.ofString "__next__") hT Ady (wpAny_call_entry Ady hT Ano ?_ (Anp _))))
 unfold Builtin.«set_iterator.__next__»
 refine wpAny_bind (m:=slotArgs "__next__" 0 ⟨[.ref I],[]⟩) (wpAny_of_eq (a:=(Value.ref I,[])) rfl ?_)
 refine wpAny_bind (wpAny_fieldsOf hoi hdi ?_)
 dsimp only
 refine wpAny_bind (Af4 W ho ?_)
 rw[if_neg (by simp)]
 rcases hm with ⟨slot,rfl,hm⟩ | ⟨pm,rfl,hT2,hp,hxl⟩
 ·simp only [Ate]
  refine wpAny_bind (Ai1 W ho hm fun next hn=>?_)
  rw[hx]
  dsimp only [Option.map]
  refine wpAny_bind (wpAny_setField hoi hdi (by simp) ?_)
  have ho1:=Heap.get?_update_self (Obj.mapFields (·.setIfInBounds 0 (rawInt (next:Int)))) hoi (Obj.isFreed_of_fields (Obj.data_mapFields hdi _))
  have hd1:=Obj.data_mapFields hdi (·.setIfInBounds 0 (rawInt (next:Int)))
  refine wpAny_bind (wpAny_setField ho1 hd1 (by simp) (wpAny_pure ⟨_,rfl,wpAny_pure (hQ _ ⟨.int next 0,_,Heap.get?_update_self _ ho1 (Obj.isFreed_of_fields (Obj.data_mapFields hd1 _)),?_,?_,.inl ⟨next,rfl,hn hi⟩,?_⟩ fun b o' hb e=>?_)⟩))
  ·exact(Obj.cls_mapFields ..).trans ((Obj.cls_mapFields ..).trans hci)
  ·rw[Obj.data_mapFields hd1];simp[rawInt]
  ·exact(Heap.get?_update_other _ _ (Ne.symm hne)).trans ((Heap.get?_update_other _ _ (Ne.symm hne)).trans ho)
  ·exact(Heap.get?_update_other _ _ (Ne.symm hb)).trans ((Heap.get?_update_other _ _ (Ne.symm hb)).trans e)
 ·have hpi:i<pm.length:=by rw[hp.length_eq,AsQ];exact hi
  have hk:pm[i]<es.size:=by
   have:=hp.mem_iff.mp (AsV hpi)
   simpa using this
  have e1:es[pm[i]]?=some x:=by
   rw[hxl,AsU,AsJ hpi] at hx
   have:=Option.some.inj hx
   rw[Array.getElem?_eq_getElem hk]
   simp[List.getD,hk] at this
   rw[this]
  simp only [Ate]
  refine wpAny_bind (wpAny_seqItems hT2 rfl ?_)
  dsimp only
  rw[show((pm.map fun k:Nat=>rawInt (k:Int)).toArray)[i]?=some (.int (pm[i]:Int) 0) by simp[hpi,rawInt]]
  dsimp only
  unfold setNextDrawn
  refine wpAny_bind (wpAny_bind (wpAny_setState_of ho W.d W.f ?_))
  dsimp only
  rw[if_neg (by simp)]
  simp only [Ate]
  rw[e1]
  refine wpAny_pure (wpAny_bind (wpAny_setField hoi hdi (by simp) (wpAny_pure ⟨_,rfl,wpAny_pure (hQ _ ⟨.ref T,_,Heap.get?_update_self _ hoi (Obj.isFreed_of_fields (Obj.data_mapFields hdi _)),?_,?_,.inr ⟨pm,rfl,?_,hp,hxl⟩,?_⟩ fun b o' hb e=>?_)⟩)))
  ·exact(Obj.cls_mapFields ..).trans hci
  ·rw[Obj.data_mapFields hdi];simp[rawInt]
  ·exact(Heap.get?_update_other _ _ (Ne.symm hnT)).trans hT2
  ·exact(Heap.get?_update_other _ _ (Ne.symm hne)).trans ho
  ·exact(Heap.get?_update_other _ _ (Ne.symm hb)).trans e
theorem stops(hh:A.handled=none){Q:Option Value→Shared→Prop}(hQ:∀ h',(∀ b o,s.heap.get? b=some o→h'.get? b=some o)→Q none { s with heap:=h' }) :
  wpAny (model prog w) A.in1 (do raiseNew (← newExc (.type "StopIteration") []):Sem Fin) (fun fin s'=>∃ v,fin=Fin.done (Flow.ret v)∧wpAny (model prog w) A (pure (some v)) Q E s')
   (fun e s'=>wpAny (model prog w) A (do if ← isInstance e (.type "StopIteration") then pure none else throw e) Q E s') s:=by
 refine wpAny_bind ?_
 simp only [newExc,newTuple]
 refine wpAny_bind (wpAny_newObj_type (wpAny_bind (m:=firstArgMember _ _) (wpAny_of_eq (a:=Value.none) (by first | rfl | (simp only [firstArgMember];rfl)) (wpAny_newObj_type ?_ (by size_fits)))) (by size_fits))
 simp only [raiseNew]
 refine wpAny_bind (wpAny_handled ?_)
 rw[show A.in1.handled=none from hh]
 refine wpAny_bind (wpAny_pure (wpAny_throw ?_))
 refine wpAny_bind (wpAny_isInstance (T := "StopIteration") (b:=true) ⟨_,Heap.get?_push_size _ rfl,rfl⟩ isSubtype_stop (wpAny_pure (hQ _ fun b o' e=>?_)))
 exact Heap.get?_push_of_some _ (Heap.get?_push_of_some _ e)
theorem Aom(W:Wk w o es ep t){I:Addr}{Q:Option Value→Shared→Prop}(hh:A.handled=none)(st:StI w I a T o es ep t xl es.size s.heap)
  (hQ:∀ h',(∀ b o,b≠I→s.heap.get? b=some o→h'.get? b=some o)→Q none { s with heap:=h' }):wpAny (model prog w) A (pyNext (.ref I)) Q E s:=by
 have hT:=st.typeIs
 obtain⟨f,oi,hoi,hci,hdi,hm,ho⟩:=st
 have hx:xl[es.size]?=none:=AtB (by rw[hm.len];exact AsI _)
 unfold pyNext
 refine wpAny_bind (wpAny_attempt (wpAny_callSpecial?_slot (name:=Str.ofString "__next__") hT Ady (wpAny_call_entry Ady hT Ano ?_ (Anp _))))
 unfold Builtin.«set_iterator.__next__»
 refine wpAny_bind (m:=slotArgs "__next__" 0 ⟨[.ref I],[]⟩) (wpAny_of_eq (a:=(Value.ref I,[])) rfl ?_)
 refine wpAny_bind (wpAny_fieldsOf hoi hdi ?_)
 dsimp only
 refine wpAny_bind (Af4 W ho ?_)
 rw[if_neg (by simp)]
 rcases hm with ⟨slot,rfl,hm⟩ | ⟨pm,rfl,hT2,hp,hxl⟩
 ·simp only [Ate]
  refine wpAny_bind (Ai1 W ho hm fun next hn=>?_)
  rw[hx]
  dsimp only [Option.map]
  refine wpAny_bind (wpAny_setField hoi hdi (by simp) (stops hh fun h' k=>hQ h' fun b o' hb e=>k _ _ ?_))
  exact(Heap.get?_update_other _ _ (Ne.symm hb)).trans e
 ·simp only [Ate]
  refine wpAny_bind (wpAny_seqItems hT2 rfl ?_)
  dsimp only
  rw[show((pm.map fun k:Nat=>rawInt (k:Int)).toArray)[es.size]?=none by
   rw[List.getElem?_toArray]
   exact AtB (by rw[AsH,hp.length_eq,AsQ];exact AsI _)]
  dsimp only
  refine wpAny_bind (wpAny_setField hoi hdi (by simp) ?_)
  have ho1:=Heap.get?_update_self (Obj.mapFields (·.setIfInBounds 0 (rawInt 0))) hoi (Obj.isFreed_of_fields (Obj.data_mapFields hdi _))
  have hd1:=Obj.data_mapFields hdi (·.setIfInBounds 0 (rawInt 0))
  refine wpAny_bind (wpAny_setField ho1 hd1 (by simp) (stops hh fun h' k=>hQ h' fun b o' hb e=>k _ _ ?_))
  exact(Heap.get?_update_other _ _ (Ne.symm hb)).trans ((Heap.get?_update_other _ _ (Ne.symm hb)).trans e)
theorem Amo{I:Addr}{i:Nat}{Q:Value→Shared→Prop}(st:StI w I a T o es ep t xl i s.heap)(h:Q (.ref I) s):wpAny (model prog w) A (pyIter (.ref I)) Q E s:=by
 have hT:=st.typeIs
 refine wpAny_pyIter_slot hT Ann (wpAny_call_entry Ann hT ApK ?_ (ApM _))
 show wpAny _ _ (ret (.ref I)) _ _ s
 exact wpAny_pure ⟨_,rfl, "set_iterator", _,hT,Ady.lookup,h⟩
theorem walks(W:Wk w o es ep t)(hh:A.handled=none){I:Addr}(hne:a≠I)(hnT:T≠I):Walks prog w A I [I,a,T] [I] es.size (fun i v=>∃ x,xl[i]?=some x∧v=x.2) (StI w I a T o es ep t xl) where
 sub:=fun b hb=>by rw[List.mem_singleton.mp hb];exact AsR
 frame:=fun i h h' ⟨f,oi,h1,h2,h3,hm,h4⟩ hk=>⟨f,oi,hk I (by simp) _ h1,h2,h3,by
  rcases hm with m | ⟨pm,m1,m2,m3⟩
  ·exact .inl m
  ·exact .inr ⟨pm,m1,hk T (by simp) _ m2,m3⟩,hk a (by simp) _ h4⟩
 item:=fun i s Q E hi st hQ=>by
  obtain⟨x,hx⟩:∃ x,xl[i]?=some x:=⟨_,AsJ (by
   obtain⟨_,_,_,_,_,hm,_⟩:=id st
   rw[hm.len];exact hi)⟩
  exact Amn W hne hnT st hx fun h' st' hk=>hQ _ h' s.toks ⟨x,hx,rfl⟩ st' fun b o hb e=>hk b o (fun z=>hb (by simp[z])) e
 done:=fun s Q E st hQ=>Aom W hh st fun h' hk=>hQ h' s.toks fun b o hb e=>hk b o (fun z=>hb (by simp[z])) e
 self:=fun i s Q E st hQ=>Amo st hQ
end
end SetW
open PySem PySem.Spec PyProof.Rows
namespace SetW
section
variable {prog:Program}{w:World}{A:Around}{E:Value→Shared→Prop}{s:Shared}{a:Addr}{o:Obj}{es:Array (Int × Value)}{ep:Nat}{t:SetTable}
theorem Aon:isSubtype (.type "set") (.type "set")=pure true:=by rw[isSubtype_type];kernel_rfl
theorem Ai2(W:Wk w o es ep t)(ho:s.heap.get? a=some o)(hh:A.handled=none)(hn:es.size≤sizeLine){Q:List Value→Shared→Prop}
  (hQ:∀(xl:List (Int × Value)) s',xl.Perm es.toList→(∀ b o,s.heap.get? b=some o→s'.heap.get? b=some o)→s'.gens=s.gens→s'.os=s.os→s.heap.objs.size≤s'.heap.objs.size→Q (xl.map (·.2)) s'):wpAny (model prog w) A (collect (.ref a)) Q E s:=by
 have ha:a<s.heap.objs.size:=Heap.lt_size ho
 unfold collect
 refine wpAny_bind (wpAny_runValue (codeAny_builtin F.entry_proto_collect ?_))
 rw[Around.under_plainId F.plain_proto_collect _]
 show wpAny _ A.in1 (newList [] >>= fun l=>again (.builtin "list.__iadd__" ⟨[l,.ref a],[]⟩)) _ _ s
 refine wpAny_bind (wpAny_newObj_type (wpAny_pure ⟨plainId_quiet F.plain_list_iadd _,codeAny_builtin F.entry_list_iadd ?_⟩))
 rw[Around.under_plainId F.plain_list_iadd _]
 obtain⟨h1,eh1⟩:∃ h1,h1=s.heap.push { cls:=.type "list", data:=.seq ([]:List Value).toArray }:=⟨_,rfl⟩
 have hS1:h1.get? s.heap.objs.size=some { cls:=.type "list", data:=.seq ([]:List Value).toArray }:=by rw[eh1];exact Heap.get?_push_size _ rfl
 have k1:∀ b o,s.heap.get? b=some o→h1.get? b=some o:=fun b o e=>by rw[eh1];exact Heap.get?_push_of_some _ e
 have z1:h1.objs.size=s.heap.objs.size+1:=by rw[eh1,Heap.size_push]
 show wpAny _ A.in1 (Builtin.List.listExtendWith (.ref s.heap.objs.size) (.ref a) (.ref s.heap.objs.size)) _ _ { s with heap:=s.heap.push { cls:=.type "list", data:=.seq ([]:List Value).toArray } }
 rw[← eh1]
 unfold Builtin.List.listExtendWith
 have ho1:=k1 _ _ ho
 refine wpAny_bind (wpAny_typeOf (typ (s:={ s with heap:=h1 }) W ho1) ?_)
 have e1:Builtin.List.listSameRef (.ref s.heap.objs.size) (.ref a)=false:=by
  have:s.heap.objs.size≠a:=Ato ha
  simp[Builtin.List.listSameRef,this]
 rw[if_neg (by rw[e1];decide)]
 refine wpAny_bind (Aol (s:={ s with heap:=h1 }) W ho1 hn ?_)
 intro h2 d I T xl nIa nTI sI sT k2 st2
 have hxp:xl.Perm es.toList:=by
  obtain⟨_,_,_,_,_,hm,_⟩:=st2
  exact hm.perm
 have sI':s.heap.objs.size<I:=AsO (by rw[z1];exact At5 _) sI
 show wpAny _ A.in1 _ _ _ { s with heap:=h2,drawn:=d }
 refine wpAny_bind (wpAny_holding ?_)
 unfold Builtin.List.listLengthHint
 have ho2:=k2 _ _ ho1
 refine wpAny_bind (wpAny_specialOf (typ (s:={ s with heap:=h2,drawn:=d }) W ho2) Aok ?_)
 generalize hid:("set.__len__" : String)=ln0
 wp_delta
 rw[show splitId ln0=some ("set", "__len__") by subst hid;decide +kernel]
 subst hid
 refine wpAny_bind (wpAny_isInstance (b:=true) (typ (s:={ s with heap:=h2,drawn:=d }) W ho2) Aon ?_)
 rw[if_neg (by decide)]
 split
 case isFalse hn1=>exact absurd (by decide +kernel) hn1
 refine wpAny_bind (wpAny_typeOf (typ (s:={ s with heap:=h2,drawn:=d }) W ho2) (wpAny_pure ?_))
 rw[if_pos (by decide +kernel)]
 refine wpAny_bind (wpAny_rule (wpAny_bind ?_))
 have hS2:=k2 _ _ hS1
 show wpAny _ A.in1 (updateSeq s.heap.objs.size (·.push .none) >>= fun _=>updateSeq s.heap.objs.size (·.pop)) _ _ _
 refine wpAny_bind (wpAny_updateSeq hS2 rfl ?_)
 have hS3:=Heap.get?_update_self (Obj.mapSeq (·.push Value.none)) hS2 rfl
 refine wpAny_updateSeq hS3 rfl ?_
 have hS4:=Heap.get?_update_self (Obj.mapSeq (·.pop)) hS3 rfl
 obtain⟨h4,eh4⟩:∃ h4,h4=(h2.update s.heap.objs.size (Obj.mapSeq (·.push Value.none))).update s.heap.objs.size (Obj.mapSeq (·.pop)):=⟨_,rfl⟩
 have k4:∀ b o,b≠s.heap.objs.size→h2.get? b=some o→h4.get? b=some o:=fun b o hb e=>by rw[eh4];exact(Heap.get?_update_other _ _ (Ne.symm hb)).trans ((Heap.get?_update_other _ _ (Ne.symm hb)).trans e)
 have nT:T≠s.heap.objs.size:=by
  rcases sT with e | e
  ·rw[e];exact AsL ha
  ·exact Ato (AsO (by rw[z1];exact At5 _) e)
 have WK:=walks (prog:=prog) (T:=T) (xl:=xl) (A:=A.in1) W hh nIa.symm nTI
 have st4:StI w I a T o es ep t xl 0 h4:=WK.frame 0 h2 h4 st2 fun b hb ob e=>k4 b ob (by
  simp only [Ata,Atb,or_false] at hb
  rcases hb with e | e | e
  ·rw[e];exact Ato sI'
  ·rw[e];exact AsL ha
  ·rw[e];exact nT) e
 show wpAny _ A.in1 (again (.builtin "list.extend.loop" ⟨[.ref s.heap.objs.size,.ref I,.ref s.heap.objs.size],[]⟩)) _ _ { s with heap:=(h2.update s.heap.objs.size (Obj.mapSeq (·.push Value.none))).update s.heap.objs.size (Obj.mapSeq (·.pop)),drawn:=d }
 rw[← eh4]
 rw[← eh4] at hS4
 refine wpAny_pure ⟨plainId_quiet F.plain_extend_loop _,codeAny_extend_loopS (WK.toS) hn s.heap.objs.size ?_ _ es.size 0 _ _ _ rfl (AsM _) st4 hS4 (ItemsOf.nil _) fun s' acc' c' hm hS' hacc=>?_⟩
 ·simp only [Ata,Atb,or_false,not_or]
  exact⟨AsL sI',Ato ha,nT.symm⟩
 show wpAny _ A (load s.heap.objs.size >>= _) _ _ s'
 refine wpAny_bind (wpAny_load hS' (wpAny_pure ?_))
 have Ajz:xl.length=es.size:=by rw[hxp.length_eq,Array.length_toList]
 have ea:acc'.toList=xl.map (·.2):=by
  refine Au4 fun i=>?_
  rw[AsU,Array.getElem?_toList]
  by_cases hi:i<es.size
  ·have hi2:i<acc'.size:=by rw[hacc.1];exact hi
   obtain⟨x,g1,g2⟩:=hacc.2 i acc'[i] (Array.getElem?_eq_getElem hi2)
   rw[g1,Array.getElem?_eq_getElem hi2,g2]
   rfl
  ·rw[Array.getElem?_eq_none (by rw[hacc.1];omega),AtB (by rw[Ajz];omega)]
   rfl
 rw[ea]
 refine hQ xl s' hxp (fun b ob e=>hm.heap b ob ?_ (k4 _ _ (AsL (Heap.lt_size e)) (k2 _ _ (k1 _ _ e)))) hm.gens hm.os (Atx (Heap.lt_size hS'))
 have:=Heap.lt_size e
 simp only [Ata,Atb,or_false,not_or]
 exact⟨AsL this,AsL (Nat.lt_trans this sI')⟩
theorem AhC(W:Wk w o es ep t)(ho:s.heap.get? a=some o)(hh:A.handled=none)(h64:es.size<64){key:Int × Value→Int}(hI:∀ e∈es.toList,∃ tk,e.2=.int (key e) tk){Q:Value→Shared→Prop}
  (hQ:∀(h':Heap) d (tk l e:Nat) (out:Array Value) (ns':List Int),(∀ b o,s.heap.get? b=some o→h'.get? b=some o)→s.heap.objs.size≤l→h'.get? l=some (seqObj "list" out e)→IntsAre out.toList ns'→ns'.Perm (es.toList.map key)→ns'.Pairwise (·≤·) →
   Q (.ref l) { s with heap:=h',drawn:=d,toks:=tk }):wpAny (model prog w) A (call (.builtin "sorted") [.ref a]) Q E s:=by
 refine Calls.call_function_entry kind_sorted plain_sorted entry_sorted (args_sorted1 _) ?_
 unfold Builtin.«sorted»
 refine wpAny_bind (m:=checkCount "sorted" 1 1 _) (wpAny_pure (wpAny_bind (Ai2 (A:=A.in1) W ho hh (by rw[sizeLine_eq];omega) fun xl s' hxp k hg hos hz=>?_)))
 obtain⟨h',g',d',tk',os'⟩:=s'
 dsimp only at k hg hos hz
 subst hg hos
 have Ajz:xl.length=es.size:=by rw[hxp.length_eq,Array.length_toList]
 have hI2:∀ l:List (Int × Value),(∀ e∈l,∃ tk,e.2=.int (key e) tk)→IntsAre (l.map (·.2)) (l.map key):=by
  intro l
  induction l with
  | nil=>intro _;exact .nil
  | cons e l ih =>
   intro h
   obtain⟨tk,hk⟩:=h e AsR
   rw[AsY,AsY,hk]
   exact .cons _ _ (ih fun x hx=>h x (AsW _ hx))
 have hIx:=hI2 xl fun e he=>hI e (hxp.mem_iff.mp he)
 have hoL:(h'.push (seqObj "list" (xl.map (·.2)).toArray 0)).get? h'.objs.size=some (seqObj "list" (xl.map (·.2)).toArray 0):=Heap.get?_push_size _ rfl
 refine wpAny_bind (wpAny_newList (hsz:=by rw[AsH,Ajz,sizeLine_eq];omega) ?_)
 show wpAny _ _ _ _ _ { s with heap:=h'.push (seqObj "list" (xl.map (·.2)).toArray 0),drawn:=d',toks:=tk' }
 refine wpAny_bind (wpAny_holding (wpAny_call_entry slot_list_sort ⟨_,hoL,rfl⟩ entry_list_sort (list_sort_tree hoL hIx (by rw[AsH,Ajz];exact h64) fun out ns' a1 a2 a3=>⟨_,rfl,wpAny_pure ⟨_,rfl,?_⟩⟩) (args_list_sort _)))
 obtain⟨e,he⟩:=sortedHeap_at (out:=out) hoL
 refine hQ _ d' tk' h'.objs.size e out ns' (fun b ob eb=>?_) ?_ he a1 (a2.trans (hxp.map _)) a3
 ·have lb:=Heap.lt_size (k _ _ eb)
  rw[sortedHeap_old (AsL lb) (by rw[size_push'];exact Atz lb)]
  exact Heap.get?_push_of_some _ (k _ _ eb)
 ·exact hz
end
end SetW
open PySem PySem.Spec PyProof.Rows
namespace SetW
theorem Ad0{xs:Array Nat}:XM xs↔xs.toList.Pairwise (·<·):=by
 rw[Au0]
 constructor
 ·intro h i j hi hj hij
  have:=h i j hij (by simpa using hj)
  have hi':i<xs.size:=by simpa using hi
  have hj':j<xs.size:=by simpa using hj
  simpa [Array.getD,hi',hj'] using this
 ·intro h i k hik hk
  have:=h i k (by simp;omega) (by simpa using hk) hik
  have hi':i<xs.size:=by omega
  simpa [Array.getD,hi',hk] using this
theorem AgF{xs:Array Nat}{j:Nat}(hR:XM xs)(hn:xs[SetTable.below xs j]?≠some j):XM (SetTable.insertAt xs (SetTable.below xs j) j):=by
 obtain⟨h1,h2,h3⟩:=R1 hR j
 have hP:=Ad0.mp hR
 rw[Ad0]
 generalize SetTable.below xs j=p at h1 h2 h3 hn
 have e:(SetTable.insertAt xs p j).toList=xs.toList.take p++j::xs.toList.drop p:=by
  unfold SetTable.insertAt
  simp[Array.toList_extract,Atc]
 rw[e]
 have g:∀ i,i<xs.size→xs.getD i 0=xs.toList.getD i 0:=fun i hi=>by simp[Array.getD,List.getD,hi]
 have lo:∀ y∈xs.toList.take p,y<j:=fun y hy=>by
  obtain⟨i,hi,rfl⟩:=List.mem_take_iff_getElem.mp hy
  have hi':i<p∧i<xs.size:=by simpa using (Nat.lt_min.mp hi)
  have:=h2 i hi'.1
  simpa [Array.getD,hi'.2] using this
 have hi:∀ y∈xs.toList.drop p,j<y:=fun y hy=>by
  obtain⟨i,hi,rfl⟩:=List.mem_drop_iff_getElem.mp hy
  have hi':i+p<xs.size:=by simpa using hi
  have a:=h3 (i+p) (by omega) hi'
  have b:xs.getD (i+p) 0=xs[i+p]:=by simp[Array.getD,hi']
  rw[b] at a
  have ne:xs[i+p]≠j:=fun z=>by
   by_cases c:i=0
   ·subst c
    apply hn
    rw[Array.getElem?_eq_getElem (by omega)]
    simp at z
    rw[z]
   ·have c1:=h3 p (AsI _) (by omega)
    have c2:=hR p (i+p) (by omega) hi'
    rw[b,z] at c2
    omega
  have:(xs.toList)[i+p]'(by simpa using hi')=xs[i+p]:=by simp
  simp only [Nat.add_comm] at *
  omega
 rw[List.pairwise_append]
 refine⟨hP.sublist (Auv _ _),?_,fun a ha b hb=>?_⟩
 ·rw[List.pairwise_cons]
  exact⟨hi,hP.sublist (List.drop_sublist _ _)⟩
 ·rcases List.mem_cons.mp hb with e | hb
  ·rw[e];exact lo a ha
  ·exact Nat.lt_trans (lo a ha) (hi b hb)
theorem Yw(t:SetTable)(g:Nat→Int)(h:Int):∀(fuel:Nat) (p:SetTable.Probe) (j:Nat) (dm:Option Nat),(∀ d,p.dummy=some d→t.slot d=.dummy)→SetTable.probe.go t g h fuel p=some (.empty j dm)→t.slot j=.empty∧∀ d,dm=some d→t.slot d=.dummy
 | 0,p,j,dm,hd,e=>by simp[SetTable.probe.go] at e
 | fuel+1,p,j,dm,hd,e=>by
  have adv:∀ q:SetTable.Probe,(t.advance q).dummy=q.dummy:=fun q=>by
   unfold SetTable.advance
   split <;> rfl
  unfold SetTable.probe.go at e
  split at e
  ·rename_i hs
   injection e with e
   injection e with e1 e2
   subst e1 e2
   exact⟨hs,hd⟩
  ·rename_i hs
   refine Yw t g h fuel _ j dm (fun d hd'=>?_) e
   rw[adv] at hd'
   have:p.j=d:=by simpa using hd'
   rw[← this];exact hs
  ·split at e
   ·cases e
   ·exact Yw t g h fuel _ j dm (fun d hd'=>hd d (by rwa [adv] at hd')) e
theorem Aj0{t:SetTable}{h:Int}{j:Nat}{b:Bool}(e:t.freeSlot h=some (j,b)):t.place[SetTable.below t.place j]?≠some j:=by
 have nl:t.slot j=.empty∨t.slot j=.dummy:=by
  unfold SetTable.freeSlot at e
  split at e
  ·rename_i j' dm hp
   unfold SetTable.probe at hp
   obtain⟨a,b'⟩:=Yw t _ h _ _ j' dm (fun d hd=>by simp[SetTable.probeStart] at hd) hp
   injection e with e
   injection e with e1 e2
   cases dm with
   | none=>exact .inl (by rw[← e1];exact a)
   | some d=>exact .inr (by rw[← e1];exact b' d rfl)
  ·cases e
 intro z
 unfold SetTable.slot at nl
 dsimp only at nl
 rw[if_pos (by rw[z];simp)] at nl
 rcases nl with nl | nl <;> cases nl
def TOk (t t':SetTable):Prop:=t'.led=t.led∧((t.plain=true→XM t.place)→t'.plain=true→XM t'.place)
theorem Ad1(t:SetTable)(n:Nat):TOk t (t.standIn n):=⟨rfl,fun _ h=>by cases h⟩
theorem ApN{t t':SetTable}(h:TOk t t')(n:Nat):TOk t (t'.orStandIn n):=by
 unfold SetTable.orStandIn
 by_cases c:t'.fits n=true
 ·rw[if_pos c];exact h
 ·rw[if_neg c];exact⟨h.1,fun _ z=>by cases z⟩
theorem Aoo(t:SetTable)(es:Array (Int × Value))(h:Int)(x:Value):TOk t (layNew t es h x).2.1:=by
 unfold layNew
 split
 ·rename_i slot wd e
  exact ApN (t:=t) (t':=(t.put slot).1) ⟨rfl,fun hr hp=>AgF (hr hp) (Aj0 e)⟩ _
 ·exact Ad1 _ _
theorem Ai3{mask finger moves:Nat}{led plain:Bool}{hs:Array Int}{t':SetTable}{order:Array Nat}(e:SetTable.laid mask finger moves led plain hs=some (t',order)):t'.led=led∧t'.plain=plain∧XM t'.place:=by
 unfold SetTable.laid at e
 cases ho:SetTable.layClean mask hs with
 | none=>rw[ho] at e;cases e
 | some owner =>
  rw[ho] at e
  have e':some (_,_)=some (t',order):=e
  injection e' with e'
  injection e' with e1 e2
  subst e1
  refine⟨rfl,rfl,?_⟩
  rw[Ad0]
  dsimp only
  refine List.Pairwise.map (R:=fun a b:Nat × Nat=>a.1<b.1) _ (fun a b h=>h) ?_
  refine List.Pairwise.filterMap (R:=(·<·)) _ (fun a a' haa b hb b' hb'=>?_) Au5
  cases h1:owner.getD a none with
  | none=>rw[h1] at hb;cases hb
  | some u =>
   cases h2:owner.getD a' none with
   | none=>rw[h2] at hb';cases hb'
   | some u' =>
    rw[h1] at hb;rw[h2] at hb'
    cases hb;cases hb'
    exact haa
theorem Ak9(t:SetTable)(es:Array (Int × Value))(n:Nat):TOk t (relayAll t es n).2.1:=by
 unfold relayAll
 split
 ·rename_i t' order e
  unfold SetTable.relaid at e
  obtain⟨a,b,c⟩:=Ai3 e
  dsimp only
  split
  ·exact⟨a,fun _ _=>c⟩
  ·exact Ad1 _ _
 ·exact Ad1 _ _
section
variable {prog:Program}{w:World}{A:Around}{E:Value→Shared→Prop}{s:Shared}{a:Addr}
def ky (e:Int × Value):Int:=match e.2 with | .int i _=>i | _=>0
structure IS (w:World) (o:Obj) (es:Array (Int × Value)) (ep:Nat) (t:SetTable):Prop where
 ex:o.ExactSet
 d:o.data=.set es ep t
 f:t.fits es.size=true
 ok:w.params.followText "set-order" = true∨(t.led=true∧(t.plain=true→XM t.place))
 el:∀ e∈es.toList,(∃ k tk,e=(hashInt k,.int k tk))
 nd:(es.toList.map ky).Nodup
theorem IS.elems{o:Obj}{es:Array (Int × Value)}{ep:Nat}{t:SetTable}(h:IS w o es ep t):ElemsOf (intKind prog w) es.toList:=fun e he=>by
 obtain⟨k,tk,rfl⟩:=h.el e he
 exact⟨⟨k,intKind_is _ _ _ _,rfl⟩,rfl⟩
theorem IS.wk{o:Obj}{es:Array (Int × Value)}{ep:Nat}{t:SetTable}(h:IS w o es ep t):Wk w o es ep t:=⟨h.ex,h.d,h.f,h.ok.elim .inl fun z=>.inr (.inr z)⟩
theorem Anq{gv:Bool}(g:Sem Unit)(hg:g=match gv with | true=>rule "set.scan.the-table-gave-way" | false=>pure ()) {Q:Unit→Shared→Prop} (h:Q () s):wpAny (model prog w) A g Q E s:=by
 subst hg
 cases gv
 ·exact wpAny_pure h
 ·exact wpAny_rule h
theorem AcP{o:Obj}{es es':Array (Int × Value)}{ep:Nat}{t t':SetTable}(ho:s.heap.get? a=some o)(hd:o.data=.set es ep t):(s.heap.update a (Obj.putSet es' t')).get? a=some { o with data:=.set es' (ep+1) t' }:=by
 have:=Heap.get?_update_self (Obj.putSet es' t') ho (by rw[putSet_of es' t' hd];rfl)
 rw[putSet_of es' t' hd] at this
 exact this
theorem IS.to{o:Obj}{es es1:Array (Int × Value)}{ep:Nat}{t t1:SetTable}{v:Int}{tk:Tok}(h:IS w o es ep t)(hv:v∉es.toList.map ky)(hp:es1.toList.Perm (es.push (hashInt v,.int v tk)).toList)(hf:t1.fits es1.size=true)(hto:TOk t t1)(ep':Nat) :
  IS w { o with data:=.set es1 ep' t1 } es1 ep' t1:=by
 rw[Array.toList_push] at hp
 refine⟨h.ex,rfl,hf,h.ok.imp id fun z=>⟨by rw[hto.1];exact z.1,hto.2 z.2⟩,fun e he=>?_,?_⟩
 ·rcases List.mem_append.mp (hp.mem_iff.mp he) with he | he
  ·exact h.el e he
  ·rw[List.mem_singleton.mp he];exact⟨v,tk,rfl⟩
 ·refine(hp.map ky).nodup_iff.mpr ?_
  rw[AsP,List.nodup_append]
  refine⟨h.nd,by simp,fun x hx y hy e=>?_⟩
  have:y=v:=by simpa [ky] using hy
  rw[e,this] at hx
  exact hv hx
theorem Aop{o:Obj}{es:Array (Int × Value)}{ep:Nat}{t:SetTable}(h:IS w o es ep t)(ho:s.heap.get? a=some o){v:Int}{tk:Tok}(hb:es.size+1<scanBound){Q:Bool→Shared→Prop}
  (hQ:∀ h' o' es' ep' t' b,Heap.SameBut a s.heap h'→h'.get? a=some o'→IS w o' es' ep' t'→(∀ z,z∈es'.toList.map ky↔z∈es.toList.map ky∨z=v)→es'.size≤es.size+1→Q b { s with heap:=h' }) :
  wpAny (model prog w) A (setAddHashed a (.int v tk) (hashInt v)) Q E s:=by
 have hel:ElemsOf (intKind prog w) es.toList:=h.elems
 have hkey:(intKind prog w).is v (.int v tk)=true:=intKind_is _ _ _ _
 unfold setAddHashed setAddHashedIn
 refine wpAny_holding (wpAny_bind (wpAny_setState_of ho h.d h.f ?_))
 dsimp only
 rw[byScan_of (knd:=intKind prog w) rfl (Nat.lt_of_succ_lt hb) hel,if_pos rfl]
 unfold setAddByScan
 refine wpAny_bind (wpAny_bind (wpAny_rule (wpAny_bind (wpAny_setScan_of (knd:=intKind prog w) hkey ho h.d h.f hel ?_))))
 have mem:∀ e∈es.toList,((intKind prog w).is v e.2=true↔ky e=v):=fun e he=>by
  obtain⟨k,tk',rfl⟩:=h.el e he
  show Value.isInt v (.int k tk')=true↔k=v
  constructor
  ·intro z
   obtain⟨_,q⟩:=Value.isInt_shape z
   cases q
   rfl
  ·intro z
   rw[← z]
   exact intKind_is prog w k tk'
 cases hr:List.findIdx? (fun e=>(intKind prog w).is v e.2) es.toList with
 | some j =>
  dsimp only
  obtain⟨hj,hpj,_⟩:=List.findIdx?_eq_some_iff_getElem.mp hr
  refine wpAny_pure (wpAny_pure ?_)
  have hv:v∈es.toList.map ky:=List.mem_map.mpr ⟨_,AsV hj,(mem _ (AsV hj)).mp hpj⟩
  have:=hQ s.heap o es ep t false (Heap.SameBut.refl a s.heap) ho h (fun z=>⟨.inl,fun q=>q.elim id fun e=>e▸hv⟩) (Atj _)
  exact this
 | none =>
  dsimp only
  have hv:v∉es.toList.map ky:=fun q=>by
   obtain⟨e,he,hk⟩:=List.mem_map.mp q
   have:=List.findIdx?_eq_none_iff.mp hr e he
   rw[(mem e he).mpr hk] at this
   cases this
  have hperm:=layNew_perm t es (hashInt v) (.int v tk)
  have hfits:=layNew_fits t es (hashInt v) (.int v tk)
  have hto:=Aoo t es (hashInt v) (.int v tk)
  generalize layNew t es (hashInt v) (.int v tk)=Ly at hperm hfits hto ⊢
  obtain⟨es1,t1,wd,gv⟩:=Ly
  dsimp only at hperm hfits hto ⊢
  refine wpAny_bind (Anq (gv:=gv) _ rfl ?_)
  have mm:∀ z,z∈es1.toList.map ky↔z∈es.toList.map ky∨z=v:=fun z=>by
   rw[(hperm.map ky).mem_iff,Array.toList_push,AsP,List.mem_append]
   simp[ky]
  have sz:es1.size=es.size+1:=by rw[← Array.length_toList,hperm.length_eq,Array.toList_push,AsN,Array.length_toList];rfl
  have hb1:es1.size<scanBound:=by rw[sz];exact hb
  have g1:=AcP (es':=es1) (t':=t1) ho h.d
  have I1:=h.to hv hperm hfits hto (ep+1)
  have b1:=Heap.SameBut.update s.heap a (Obj.putSet es1 t1)
  split
  all_goals
   refine wpAny_bind (wpAny_of_eq (a:=true) rfl ?_)
   simp only [↓reduceIte]
   refine wpAny_bind (wpAny_storeSet_of ho h.d ?_ (fits_of_scanBound hb1))
   split
   ·have rp:=relayAll_perm t1 es1 (SetTable.grown es1.size)
    have rf:=relayAll_fits t1 es1 (SetTable.grown es1.size)
    have rt:=Ak9 t1 es1 (SetTable.grown es1.size)
    generalize relayAll t1 es1 (SetTable.grown es1.size)=Rl at rp rf rt ⊢
    obtain⟨es2,t2,gv2⟩:=Rl
    dsimp only at rp rf rt ⊢
    have sz2:es2.size=es1.size:=by rw[← Array.length_toList,rp.length_eq,Array.length_toList]
    refine wpAny_bind (Anq (gv:=gv2) _ rfl (wpAny_bind (wpAny_storeSet_of g1 rfl (wpAny_pure (wpAny_pure ?_)) (fits_of_scanBound (by rw[sz2];exact hb1)))))
    refine hQ _ _ es2 (ep+1+1) t2 true (b1.trans (Heap.SameBut.update _ a _)) (AcP (s:={ s with heap:=s.heap.update a (Obj.putSet es1 t1) }) g1 rfl) ?_ (fun z=>by rw[(rp.map ky).mem_iff];exact mm z) (by rw[sz2,sz];exact AsI _)
    exact⟨I1.ex,rfl,rf,I1.ok.imp id fun z=>⟨by rw[rt.1];exact z.1,rt.2 z.2⟩,fun e he=>I1.el e (rp.mem_iff.mp he),(rp.map ky).nodup_iff.mpr I1.nd⟩
   ·exact wpAny_pure (wpAny_pure (hQ _ _ es1 (ep+1) t1 true b1 g1 I1 mm (by rw[sz];exact AsI _)))
end
end SetW
open PySem PySem.Spec PyProof.Rows
namespace SetW
section
variable {prog:Program}{w:World}{A:Around}{E:Value→Shared→Prop}{s:Shared}
theorem IS.fresh:IS w { cls:=.type "set", dict:=none,data:=.set #[] 0 (.fresh 0 0 (!w.params.followText "set-order")) } #[] 0 (.fresh 0 0 (!w.params.followText "set-order")):=by
 refine⟨⟨rfl,rfl,rfl⟩,rfl,rfl,?_,fun e he=>by simp at he,by simp⟩
 by_cases h:w.params.followText "set-order" = true
 ·exact .inl h
 ·refine .inr ⟨by simpa [SetTable.fresh] using h,fun _ i k h1 h2=>?_⟩
  simp[SetTable.fresh] at h2
theorem Amp{I:Addr}{fp wr:List Addr}{G:Array GenState→Array GenState→Prop}{n:Nat}{P:Nat→Value→Prop}{St:Nat→Shared→Prop}{R:Result→Shared→Prop}(W:WalksS prog w A.in1 I fp wr G n P St)(S:Addr)(hSf:S∉fp)
  (val:Nat→Int) (hval:∀ i v,P i v→∃ tk,v=.int (val i) tk) (hb:n+1<scanBound):∀(k i:Nat) (s:Shared) (o:Obj) (es:Array (Int × Value)) (ep:Nat) (t:SetTable),n-i=k→i≤n→St i s→s.heap.get? S=some o→IS w o es ep t→es.size≤i →
   (∀ z,z∈es.toList.map ky↔∃ j,j<i∧val j=z) →
   (∀ s' o' es' ep' t',Moved (S::wr) G s s'→s'.heap.get? S=some o'→IS w o' es' ep' t'→es'.size≤n→(∀ z,z∈es'.toList.map ky↔∃ j,j<n∧val j=z)→R (.ok (.ret .none)) s') →
   codeAny (model prog w) A (.builtin "set.update.loop" ⟨[.ref S,.ref I],[]⟩) R s:=by
 have hSw:S∉wr:=fun h=>hSf (W.sub _ h)
 have hsub:∀ b∈wr,b∈S::wr:=fun b hb=>AsW _ hb
 intro k
 induction k with
 | zero =>
  intro i s o es ep t hk hi hst ho hS hz hm hR
  obtain rfl:i=n:=by omega
  refine codeAny_builtin PyProof.Rows.F.entry_set_update_loop ?_
  rw[Around.under_plainId PyProof.Rows.F.plain_set_update_loop _]
  show wpAny _ A.in1 (pyNext (.ref I) >>= _) _ _ s
  refine wpAny_bind (W.done s _ _ hst fun s' mv=>?_)
  show wpAny _ A.in1 (ret Value.none) _ _ s'
  exact wpAny_pure (hR s' o es ep t (mv.mono hsub) (mv.heap S _ hSw ho) hS hz hm)
 | succ k ih =>
  intro i s o es ep t hk hi hst ho hS hz hm hR
  have hlt:i<n:=by omega
  refine codeAny_builtin PyProof.Rows.F.entry_set_update_loop ?_
  rw[Around.under_plainId PyProof.Rows.F.plain_set_update_loop _]
  show wpAny _ A.in1 (pyNext (.ref I) >>= _) _ _ s
  refine wpAny_bind (W.item i s _ _ hlt hst fun v s' hP hst' mv=>?_)
  obtain⟨tk,rfl⟩:=hval i v hP
  show wpAny _ A.in1 (holding [Value.int (val i) tk] (setAdd S (.int (val i) tk)) >>= _) _ _ s'
  refine wpAny_bind (wpAny_holding ?_)
  unfold setAdd
  refine wpAny_holding (wpAny_bind ((intKind prog w).pyHash (k:=val i) (intKind_is _ _ _ _) ?_))
  refine Aop (s:={ s' with toks:=s'.toks+1 }) hS (mv.heap S _ hSw ho) (by omega) fun h' o' es' ep' t' b sb ho' hS' hm' hz'=>?_
  refine wpAny_pure ⟨plainId_quiet PyProof.Rows.F.plain_set_update_loop _,ih (i+1) _ o' es' ep' t' (by omega) hlt (W.frame _ s' _ _ hst' (Atj _) fun b hb ob e=>?_) ho' hS' (by omega) (fun z=>?_) fun s'' o2 es2 ep2 t2 mv2 ho2 hS2 hz2 hm2=>?_⟩
  ·rw[sb.2 b (fun h:b=S=>hSf (by rw[← h];exact hb))];exact e
  ·rw[hm' z,hm z]
   constructor
   ·rintro(⟨j,hj,e⟩ | e)
    ·exact⟨j,by omega,e⟩
    ·exact⟨i,by omega,e.symm⟩
   ·rintro⟨j,hj,e⟩
    by_cases c:j=i
    ·exact .inr (by rw[← e,c])
    ·exact .inl ⟨j,by omega,e⟩
  ·refine hR s'' o2 es2 ep2 t2 (Moved.trans W.gtrans ((mv.mono hsub).then_heap (Atj _) fun b ob hb e=>?_) mv2) ho2 hS2 hz2 hm2
   rw[sb.2 b (fun h:b=S=>hb (by rw[h];exact AsR))];exact e
end
end SetW
open PySem PySem.Spec PyProof.Rows
namespace SetW
section
variable {prog:Program}{w:World}{A:Around}{E:Value→Shared→Prop}{s:Shared}
def frs (w:World):Obj:={ cls:=.type "set", dict:=none,data:=.set #[] 0 (.fresh 0 0 (!w.params.followText "set-order")) }
theorem AkA(v:Value){Q₁:Value→Shared→Prop}(h:Q₁ (.ref s.heap.objs.size) { s with heap:=s.heap.push (frs w) }):codeAny (model prog w) A (.call (.builtin "set.__new__") ⟨[.type "set", v],[]⟩) (wants Q₁ E) s:=by
 refine codeAny_of_tree ?_
 show wpAny _ A.in1 (do checkBuiltinCall "set.__new__" ⟨[.type "set", v],[]⟩;again (.builtin "set.__new__" ⟨[.type "set", v],[]⟩)) _ _ s
 refine wpAny_bind (wpAny_of_eq (PySem.F.newCall_set_1 v) (wpAny_pure ⟨plainId_quiet PySem.F.plain_set_new _,codeAny_builtin PySem.F.entry_set_new ?_⟩))
 rw[Around.under_plainId PySem.F.plain_set_new _]
 unfold Builtin.«set.__new__» Builtin.Frozenset.newClass
 have hsub:=sub_set_self
 obtain⟨hp,g,d,tk,os⟩:=s
 dsimp only
 wp_walk
 refine wpAny_askSetting (wpAny_pure ?_)
 dsimp only
 simp only [newObj]
 exact wpAny_bind (wpAny_alloc (wpAny_pure (wpAny_pure h)))
set_option maxHeartbeats 4000000 in
theorem Amq{l:Addr}{items:Array Value}{ns:List Int}{Q:Value→Shared→Prop}(hh:A.handled=none)(hl:s.heap.IsList l items)(hi:IntsAre items.toList ns)(hb:items.size+1<scanBound)
  (h:∀(h':Heap) (tk:Nat) o es ep t,h'.get? s.heap.objs.size=some o→IS w o es ep t→es.size≤items.size→(∀ z,z∈es.toList.map ky↔∃ j,j<items.size∧ns.getD j 0=z) →
   (∀ b o,s.heap.get? b=some o→h'.get? b=some o)→Q (.ref s.heap.objs.size) { s with heap:=h',toks:=tk }):wpAny (model prog w) A (call (.type "set") [.ref l]) Q E s:=by
 obtain⟨c,tl,hmro⟩:=PySem.F.called_set.mro
 have hmade:=PySem.F.called_set.made
 have hsub:=PySem.F.called_set.sub
 refine wpAny_call (codeAny_of_tree ?_)
 show wpAny _ _ (callAny (.type "set") _) _ _ _
 refine wpAny_pure ⟨Code.quiet_builtin _ (by decide +kernel),codeAny_builtin PySem.F.entry_type_call ?_⟩
 rw[Around.under_plain (weight_type_call_type "set" [.ref l] []) rfl]
 have h1:=PySem.F.called_set.notType
 have h2:=PySem.F.called_set.canCreate
 have hct:=PySem.F.typeCall_set_1 (.ref l)
 repeat (any_goals (first | assumption | wp_step))
 refine codeAny_mono (AkA (.ref l) (E:=E) (Q₁:=fun obj s₁=>obj=.ref s.heap.objs.size∧s₁={ s with heap:=s.heap.push (frs w) }) ⟨rfl,rfl⟩) fun r s₁ hr=>?_
 cases r with
 | error e=>exact hr
 | ok fl =>
  cases fl with
  | ret obj =>
   obtain⟨rfl,rfl⟩:=hr
   have hS:(s.heap.push (frs w)).get? s.heap.objs.size=some (frs w):=Heap.get?_push_size _ rfl
   have hT:Shared.TypeIs { s with heap:=s.heap.push (frs w) } (.ref s.heap.objs.size) "set" := ⟨_,hS,rfl⟩
   have hli:=PySem.F.called_set.init.lookup
   have hbi:=PySem.F.called_set.init.bind (.ref s.heap.objs.size)
   repeat (any_goals (first | assumption | wp_step))
   refine codeAny_mono (codeAny_call_builtin (R:=wants (fun r s₂=>r=.none∧∃ h' tk o es ep t,s₂={ s with heap:=h',toks:=tk }∧h'.get? s.heap.objs.size=some o∧IS w o es ep t∧es.size≤items.size∧(∀ z,z∈es.toList.map ky↔∃ j,j<items.size∧ns.getD j 0=z) ∧
     (∀ b o,s.heap.get? b=some o→h'.get? b=some o)) E) PySem.F.called_set.init.plain PySem.F.entry_set_init (check_set_init_1 hT ?_)) fun r₂ s₂ hr₂=>?_
   ·obtain⟨ol,hol,hcl,nl,hdl⟩:=hl
    obtain⟨ocls,odict,odata,oslots⟩:=ol
    simp only at hcl hdl
    subst hcl hdl
    have hlS:l<s.heap.objs.size:=Heap.lt_size hol
    obtain⟨h1,eh1⟩:∃ h1,h1=s.heap.push (frs w):=⟨_,rfl⟩
    have z1:h1.objs.size=s.heap.objs.size+1:=by rw[eh1,Heap.size_push]
    have k1:∀ b ob,s.heap.get? b=some ob→h1.get? b=some ob:=fun b ob e=>by rw[eh1];exact Heap.get?_push_of_some _ e
    rw[← eh1] at hS hT ⊢
    have hol':=k1 _ _ hol
    have hl1:h1.IsList l items:=⟨_,hol',rfl,nl,rfl⟩
    have hsls:=PySem.F.sub_list_set
    have hslf:=PySem.F.sub_list_frozenset
    have hne:(Value.type "list" == Value.type "dict")=false:=by decide
    have hS':h1.get? s.heap.objs.size=some { cls:=.type "set", dict:=none,data:=.set #[] 0 (.fresh 0 0 (!w.params.followText "set-order")) }:=hS
    unfold Builtin.«set.__init__» noKeywords Builtin.Frozenset.updateFrom
    generalize hPI:pyIter=PI
    wp_walk
    subst hPI
    refine wpAny_pyIter_list hl1 ?_
    obtain⟨h2,eh2⟩:∃ h2,h2=h1.push { cls:=.type "list_iterator", data:=.fields #[.ref l,.int 0 0] }:=⟨_,rfl⟩
    show wpAny _ _ _ _ _ { s with heap:=h1.push { cls:=.type "list_iterator", data:=.fields #[.ref l,.int 0 0] } }
    rw[← eh2]
    have k2:∀ b ob,h1.get? b=some ob→h2.get? b=some ob:=fun b ob e=>by rw[eh2];exact Heap.get?_push_of_some _ e
    have hit2:h2.IsListIter h1.objs.size l 0:=by rw[eh2];exact⟨_,Heap.get?_push_size _ rfl,rfl,rfl⟩
    have hl2:h2.IsList l items:=⟨_,k2 _ _ hol',rfl,nl,rfl⟩
    refine wpAny_bind (wpAny_runValue ?_)
    have hh3:A.in1.in1.in1.handled=none:=by simp[hh]
    have hneI:l≠h1.objs.size:=by rw[z1];exact AsL (Atz hlS)
    have hSf:s.heap.objs.size∉[h1.objs.size,l]:=by
     simp only [Ata,Atb,or_false,not_or]
     exact⟨by rw[z1];exact AsL (At5 _),Ato hlS⟩
    have hval:∀(i:Nat) (v:Value),items[i]?=some v→∃ tk,v=.int ((fun i=>ns.getD i 0) i) tk:=fun i v hv=>IntsAre.int_at hi i v (by rw[Array.getElem?_toList];exact hv)
    refine Amp ((Walks.list hh3 h1.objs.size l hneI items).toS) s.heap.objs.size hSf (fun i=>ns.getD i 0) hval hb (items.size-0) 0 _ _ #[] 0 _ (by omega) (AsM _) ⟨hit2,hl2⟩ (k2 _ _ hS') IS.fresh (AsM _) (fun z=>by simp) fun s' o es ep t mv ho hI hz hm=>?_
    obtain⟨h',g',d',tk',os'⟩:=s'
    have eg:g'=s.gens:=mv.gens
    have ed:d'=s.drawn:=mv.drawn
    have eo:os'=s.os:=mv.os
    subst eg ed eo
    show wpAny _ _ _ _ _ _
    refine wpAny_pure ?_
    show wpAny _ _ (ret Value.none) _ _ _
    refine wpAny_pure ⟨rfl,h',tk',o,es,ep,t,rfl,ho,hI,hz,hm,fun b ob e=>?_⟩
    have lb:=Heap.lt_size e
    refine mv.heap b ob ?_ (k2 _ _ (k1 _ _ e))
    simp only [Ata,Atb,or_false,not_or]
    exact⟨AsL lb,by rw[z1];exact AsL (Atz lb)⟩
   ·cases r₂ with
    | error e=>exact hr₂
    | ok fl₂ =>
     cases fl₂ with
     | ret r =>
      obtain⟨rfl,h',tk,o,es,ep,t,rfl,a1,a2,a3,a4,a5⟩:=hr₂
      repeat (any_goals (first | assumption | wp_step))
      exact h _ _ o es ep t a1 a2 a3 a4 a5
     | _=>exact hr₂.elim
  | _=>exact hr.elim
end
end SetW
open PySem PySem.Spec PyProof.Rows
section
variable {X:Cx}{K:PySem.W.Frag}{p1 p2 pos1 pos2:Pos}{e:Expr}{te:TE}
theorem Inv.drew{X:Cx}{pins:List (Addr × Obj)}{σ:St}{H:Hp}{s:Shared}{d:Drawn}(I:Inv X pins σ H s):Inv X pins σ H { s with drawn:=d }:=⟨I.ok,I.os,I.bare,I.base,I.loc,I.cell,I.free,I.Kw,I.pin,I.hok,I.len⟩
def AkB (K:PySem.W.Frag)(te:TE):TE:=fun σ H Q=>te σ H fun x H1=>∃ a ns,x=.ref a∧SqL K H1 a (vI ns)∧ns.length≤4000∧(∀ ds:List Int,ds.Nodup→(∀ z∈ds,z∈ns)→ds.length<64) ∧
 ∀ l ns',(∀ z,z∈ns'↔z∈ns)→ns'.Pairwise (·<·)→H1 l=none→Q (.ref l) (upd H1 l (.lst (vI ns')))
theorem AgG:∀{l:List Int},l.Pairwise (·≤·)→l.Nodup→l.Pairwise (·<·):=fun h n=>(h.and n).imp fun {a b} ⟨h1,h2⟩=>by omega
theorem AhD(hg1:Gl X "sorted") (hm1:X.mg "sorted" = none) (hg2:Gl X "set") (hm2:X.mg "set" = none) (he:PE X e te) (hK:X.K=K:=by rfl) (hc:X.calm=true:=by rfl)
  (hs2:starEach [e] X.env=(false,eval e X.env)::starEach [] X.env:=by rfl)
  (hs1:starEach [.Call (.Name "set" p2) [e] [] pos2] X.env=(false,eval (.Call (.Name "set" p2) [e] [] pos2) X.env)::starEach [] X.env:=by rfl)
  (hq1:(backTo pos1 (starEach [] X.env)).any (·.1)=false:=by rfl) (hq2:(backTo pos2 (starEach [] X.env)).any (·.1)=false:=by rfl) :
  PE X (.Call (.Name "sorted" p1) [.Call (.Name "set" p2) [e] [] pos2] [] pos1) (AkB K te):=by
 subst hK
 intro pins s σ H Q I h
 have hsz:sizeLine=16777216:=sizeLine_eq
 refine wpAny_Call_Name_kw (K1 I hg1 hm1 Rx ?_ (by decide) (by decide))
 refine PyProof.Rows.callWith_builtin1 ?_ hs1 hq1
 rw[hs1]
 show wpAny _ _ (spliced ((false,eval (.Call (.Name "set" p2) [e] [] pos2) X.env)::backTo pos1 (starEach [] X.env))) _ _ s
 refine Calls.spliced_cons ?_
 refine wpAny_Call_Name_kw (K1 I hg2 hm2 Akg ?_ (by decide) (by decide))
 refine PyProof.Rows.callWith_type1 ?_ hs2 hq2
 rw[hs2]
 show wpAny _ _ (spliced ((false,eval e X.env)::backTo pos2 (starEach [] X.env))) _ _ s
 refine Calls.spliced_cons (thn (he pins s σ H _ I h) fun u s1 ⟨x,H1,I1,r1,a,ns,ex,hq,h4,h64,q⟩=>?_)
 subst ex
 cases r1
 refine Calls.spliced_nil ?_
 obtain⟨its,r,pl,hz⟩:=I1.list hq
 have hi:IntsAre its ns:=intsAre_of r
 have hlen:its.length=ns.length:=hi.length
 refine SetW.Amq (items:=its.toArray) (I.ok.hd hc) pl.isList hi (by rw[AsK,hlen];show _+1<4096;omega) fun h' tk o es ep t go gi gz gm gk=>?_
 refine Calls.spliced_nil ?_
 have mem:∀ z,z∈es.toList.map SetW.ky↔z∈ns:=fun z=>by
  rw[gm z,AsK,hlen]
  constructor
  ·rintro⟨j,hj,e⟩
   rw[← e,Atw,AsJ hj]
   exact AsV hj
  ·intro hz
   obtain⟨j,hj,e⟩:=Atl hz
   exact⟨j,hj,by rw[Atw,AsJ hj];exact e⟩
 have e64:es.size<64:=by
  have:=h64 _ gi.nd fun z hz=>(mem z).mp hz
  rwa [AsH,Array.length_toList] at this
 refine SetW.AhC (s:={ s1 with heap:=h',toks:=tk }) (key:=SetW.ky) gi.wk go (I.ok.hd hc) e64 (fun e he=>?_) fun h2 d tk2 l ep2 out ns' k2 hl2 hg2 hi2 hp2 hr2=>?_
 ·obtain⟨k,tk',rfl⟩:=gi.el e he
  exact⟨tk',rfl⟩
 ·have hns:ns'.Nodup:=hp2.nodup_iff.mpr gi.nd
  have hl1:s1.heap.objs.size≤l:=Atx (AsO (Heap.lt_size go) hl2)
  refine⟨.ref l,_,(I1.laid (t':=tk2) (h':=h2) (a:=l) (o:=.lst (vI ns')) (fun b u e=>k2 _ _ (gk _ _ e)) hl1 ?_).drew,rfl,q l ns' (fun z=>by rw[hp2.mem_iff];exact mem z) (AgG hr2 hns) (I1.hok.fresh hl1)⟩
  have:ns'.length<64:=by rw[hp2.length_eq,AsH,Array.length_toList];exact e64
  refine⟨by rw[Bs];omega,out.toList,ep2,Nq hi2,?_⟩
  rw[hg2]
end
open PySem PySem.Spec PyProof.Rows
namespace SetW
def pth (t:SetTable)(h:Int):Nat→SetTable.Probe
 | 0=>t.probeStart h
 | n+1=>t.advance (pth t h n)
def trn (mask:Nat)(b:Nat):Nat→Nat × Nat
 | 0=>(b%(mask+1),b)
 | k+1=>SetTable.leap mask (trn mask b k).1 (trn mask b k).2
theorem Aoq(mask i:Nat):SetTable.runEnd mask i-i≤9:=by unfold SetTable.runEnd;split <;> omega
theorem AgH(mask b:Nat):∀ k,(trn mask b k).2=b / 32 ^ k
 | 0=>by simp[trn]
 | k+1=>by
  show(trn mask b k).2 / 32=_
  rw[AgH mask b k,Nat.div_div_eq_div_mul,← Nat.pow_succ]
theorem AkC(mask b:Nat):∀ k,(trn mask b k).1≤mask
 | 0=>Aus (AtC _ (Auf _))
 | k+1=>Aus (AtC _ (Auf _))
def nxt (N i:Nat):Nat:=(i*5+1)%N
def itr (N:Nat):Nat→Nat→Nat
 | 0,i=>i
 | m+1,i=>itr N m (nxt N i)
theorem Ai4(N:Nat):∀(m i:Nat),itr N (m+1) i=nxt N (itr N m i)
 | 0,i=>rfl
 | m+1,i=>Ai4 N m (nxt N i)
def orb (N:Nat):Nat→Nat→List Nat
 | 0,_=>[]
 | m+1,i=>i::orb N m (nxt N i)
theorem Af5{N j:Nat}:∀{m i:Nat},j∈orb N m i→∃ k,k<m∧itr N k i=j
 | 0,i,h=>by simp[orb] at h
 | m+1,i,h=>by
  rcases List.mem_cons.mp h with e | e
  ·exact⟨0,Auf _,e.symm⟩
  ·obtain⟨k,hk,e⟩:=Af5 e
   exact⟨k+1,by omega,e⟩
def Xr (N:Nat):Bool:=((List.range N).all fun j=>(orb N N 0).contains j) && itr N N 0 == 0
theorem Arc:Xr 8=true:=by decide +kernel
theorem ApO:Xr 32=true:=by decide +kernel
theorem Aor:Xr 128=true:=by decide +kernel
def Msk (mask:Nat):Prop:=mask=7∨mask=31∨mask=127
theorem Msk.cov{mask:Nat}(h:Msk mask):Xr (mask+1)=true:=by
 rcases h with h | h | h <;> subst h
 ·exact Arc
 ·exact ApO
 ·exact Aor
theorem AcQ(N:Nat):∀(k m i:Nat),itr N (k+m) i=itr N m (itr N k i)
 | 0,m,i=>by rw[AtM];rfl
 | k+1,m,i=>by rw[show k+1+m=(k+m)+1 by omega];exact AcQ N k m (nxt N i)
theorem Aos{N i j:Nat}(h:Xr N=true)(hi:i<N)(hj:j<N):∃ k,k<N∧itr N k i=j:=by
 unfold Xr at h
 rw[Aty,List.all_eq_true] at h
 obtain⟨h1,h2⟩:=h
 have e0:itr N N 0=0:=by simpa using h2
 obtain⟨a,ha,ea⟩:=Af5 (List.contains_iff_mem.mp (h1 i (List.mem_range.mpr hi)))
 obtain⟨b,hb,eb⟩:=Af5 (List.contains_iff_mem.mp (h1 j (List.mem_range.mpr hj)))
 by_cases c:a≤b
 ·refine⟨b-a,by omega,?_⟩
  rw[← ea,← AcQ,show a+(b-a)=b by omega]
  exact eb
 ·refine⟨N-a+b,by omega,?_⟩
  rw[← ea,← AcQ,show a+(N-a+b)=N+b by omega,AcQ,e0]
  exact eb
theorem AkD{mask b:Nat}(hb:b<2 ^ 64)(m:Nat):(trn mask b (13+m)).1=itr (mask+1) m (trn mask b 13).1:=by
 induction m with
 | zero=>rfl
 | succ m ih =>
  rw[Ai4,← ih]
  show((trn mask b (13+m)).1*5+1+(trn mask b (13+m)).2 / 32)%(mask+1)=_
  have e0:(trn mask b (13+m)).2 / 32=0:=by
   rw[AgH]
   have:b / 32 ^ (13+m)=0:=by
    refine Nat.div_eq_of_lt (AsO hb ?_)
    have e1:(2:Nat) ^ 64≤32 ^ 13:=by decide
    exact AsX e1 (Nat.pow_le_pow_right (by decide) (by omega))
   rw[this]
  rw[e0]
  rfl
theorem Ai5{mask b j:Nat}(hm:Msk mask)(hb:b<2 ^ 64)(hj:j≤mask):∃ k,k<mask+14∧(trn mask b k).1=j:=by
 obtain⟨m,h1,h2⟩:=Aos hm.cov (Nat.lt_succ_of_le (AkC mask b 13)) (Nat.lt_succ_of_le hj)
 exact⟨13+m,by omega,by rw[AkD hb];exact h2⟩
theorem Ai6(h:Int):SetTable.bits h<2 ^ 64:=by
 unfold SetTable.bits
 have h1:=AtS h (show(0:Int)<2 ^ 64 by decide)
 have h2:=AtT h (show(2 ^ 64:Int)≠0 by decide)
 omega
theorem Af6(t:SetTable)(h:Int){n i q:Nat}(e:pth t h n={ j:=i,more:=SetTable.runEnd t.mask i-i,i:=i,perturb:=q,dummy:=none }):∀ r,r≤SetTable.runEnd t.mask i-i→pth t h (n+r)={ j:=i+r,more:=SetTable.runEnd t.mask i-i-r,i:=i,perturb:=q,dummy:=none }
 | 0,_=>e
 | r+1,hr=>by
  show t.advance (pth t h (n+r))=_
  rw[Af6 t h e r (by omega)]
  unfold SetTable.advance
  rw[if_pos (show SetTable.runEnd t.mask i-i-r>0 by omega)]
  rfl
def idx (t:SetTable)(h:Int):Nat→Nat
 | 0=>0
 | k+1=>idx t h k+(SetTable.runEnd t.mask (trn t.mask (SetTable.bits h) k).1-(trn t.mask (SetTable.bits h) k).1)+1
theorem AkE(t:SetTable)(h:Int):∀ k,idx t h k≤10*k
 | 0=>AsI _
 | k+1=>by
  have:=AkE t h k
  have:=Aoq t.mask (trn t.mask (SetTable.bits h) k).1
  show idx t h k+_+1≤_
  omega
theorem Ad2(t:SetTable)(h:Int):∀ k,pth t h (idx t h k)={ j:=(trn t.mask (SetTable.bits h) k).1,more:=SetTable.runEnd t.mask (trn t.mask (SetTable.bits h) k).1-(trn t.mask (SetTable.bits h) k).1,i:=(trn t.mask (SetTable.bits h) k).1,perturb:=(trn t.mask (SetTable.bits h) k).2,dummy:=none }
 | 0=>rfl
 | k+1=>by
  have e:=Af6 t h (Ad2 t h k) _ (AsI _)
  show t.advance (pth t h (idx t h k+_))=_
  rw[e]
  unfold SetTable.advance
  rw[if_neg (by show ¬(_-_>0);omega)]
  rfl
theorem Amr{t:SetTable}{h:Int}{j:Nat}(hm:Msk t.mask)(hj:j≤t.mask):∃ n,n<10*SetTable.turns t.mask∧(pth t h n).j=j:=by
 obtain⟨k,h1,h2⟩:=Ai5 hm (Ai6 h) hj
 refine⟨idx t h k,?_,by rw[Ad2];exact h2⟩
 have:=AkE t h k
 unfold SetTable.turns
 omega
theorem Ab2(t:SetTable)(h:Int):∀ n,(pth t h n).dummy=none
 | 0=>rfl
 | n+1=>by
  show(t.advance (pth t h n)).dummy=none
  unfold SetTable.advance
  split
  ·exact Ab2 t h n
  ·exact Ab2 t h n
theorem R3{t t':SetTable}(e:t'.mask=t.mask)(h:Int):∀ n,pth t' h n=pth t h n
 | 0=>by unfold pth SetTable.probeStart;rw[e]
 | n+1=>by
  show t'.advance (pth t' h n)=t.advance (pth t h n)
  rw[R3 e h n]
  unfold SetTable.advance
  rw[e]
end SetW
open PySem PySem.Spec PyProof.Rows
namespace SetW
theorem sub_len:∀{l r:List Nat},l.Nodup→(∀ x∈l,x∈r)→l.length≤r.length
 | [],r,_,_=>AsM _
 | a::l,r,n,h=>by
  have n1:=List.nodup_cons.mp n
  have ha:=h a AsR
  have:=sub_len (l:=l) (r:=r.erase a) n1.2 fun x hx=>by
   have ne:x≠a:=fun e=>n1.1 (by rw[← e];exact hx)
   rw[List.mem_erase_of_ne ne]
   exact h x (AsW _ hx)
  rw[List.length_erase_of_mem ha] at this
  have:0<r.length:=List.length_pos_of_mem ha
  rw[Atf]
  omega
theorem Ams{xs:Array Nat}{m:Nat}(h:xs.size≤m):∃ j,j≤m∧∀ i:Nat,xs[i]?≠some j:=by
 refine Classical.byContradiction fun z=>?_
 have all:∀ j∈List.range (m+1),j∈xs.toList:=fun j hj=>Classical.byContradiction fun c=>z ⟨j,by have:=List.mem_range.mp hj;omega,fun i e=>c (by
  rw[← Array.getElem?_toList] at e
  exact AsS e)⟩
 have:=sub_len Au6 all
 rw[AsQ,Array.length_toList] at this
 omega
theorem Aaq{α:Type}(xs:Array α)(p:Nat)(x:α):(SetTable.insertAt xs p x).toList=xs.toList.take p++x::xs.toList.drop p:=by
 unfold SetTable.insertAt
 simp[Array.toList_extract,Atc]
theorem Aaf{α:Type}(xs:Array α){p:Nat}(hp:p≤xs.size)(x:α)(i:Nat):(SetTable.insertAt xs p x)[i]?=if i<p then xs[i]? else if i=p then some x else xs[i-1]?:=by
 rw[← Array.getElem?_toList,Aaq]
 have tl:(xs.toList.take p).length=p:=by rw[Atd,Array.length_toList];omega
 by_cases h1:i<p
 ·rw[if_pos h1,Atu (by omega),Auu h1,Array.getElem?_toList]
 ·rw[if_neg h1,Ats (by omega),tl]
  by_cases h2:i=p
  ·rw[if_pos h2,h2,At7];rfl
  ·rw[if_neg h2,show i-p=(i-p-1)+1 by omega,AtW,Aun,Array.getElem?_toList]
   congr 1
   omega
theorem Aar{α:Type}(xs:Array α)(p:Nat)(x:α):(SetTable.insertAt xs p x).size=xs.size+1:=by
 rw[← Array.length_toList,Aaq,AsN,Atf]
 have:=AtN p xs.toList
 have e:(xs.toList.take p).length+(xs.toList.drop p).length=xs.toList.length:=by rw[← AsN,this]
 have e2:xs.toList.length=xs.size:=Array.length_toList
 omega
theorem slot_of{t:SetTable}(R:XM t.place){i j:Nat}(h:t.place[i]?=some j):t.slot j=.live i:=by
 obtain⟨h1,h2,h3⟩:=R1 R j
 obtain⟨hi,e⟩:=Array.getElem?_eq_some_iff.mp h
 have g:t.place.getD i 0=j:=by simp[Array.getD,hi,e]
 have eb:SetTable.below t.place j=i:=by
  rcases Auq (SetTable.below t.place j) i with c | c | c
  ·have a:=h3 (SetTable.below t.place j) (AsI _) (by omega)
   have b:=R _ i c hi
   omega
  ·exact c
  ·have:=h2 i c
   omega
 unfold SetTable.slot
 dsimp only
 rw[eb,if_pos (by rw[h];simp)]
theorem Af7{t:SetTable}{i j:Nat}(h:t.slot j=.live i):t.place[i]?=some j:=by
 unfold SetTable.slot at h
 dsimp only at h
 split at h
 ·rename_i c
  injection h with h
  rw[h] at c
  exact eq_of_beq c
 ·split at h <;> cases h
theorem Ai7{t:SetTable}(nd:t.dummies=#[]){j:Nat}(h:∀ i:Nat,t.place[i]?≠some j):t.slot j=.empty:=by
 unfold SetTable.slot
 dsimp only
 have hn:(t.place[SetTable.below t.place j]? == some j)=false:=by
  cases c:(t.place[SetTable.below t.place j]? == some j) with
  | false=>rfl
  | true=>exact absurd (eq_of_beq c) (h _)
 rw[hn,nd]
 rfl
theorem Ad3{t:SetTable}(nd:t.dummies=#[])(j:Nat):t.slot j=.empty∨∃ i,t.slot j=.live i:=by
 by_cases h:∃ i,t.slot j=.live i
 ·exact .inr h
 ·by_cases c:∃ i:Nat,t.place[i]?=some j
  ·unfold SetTable.slot at h ⊢
   dsimp only at h ⊢
   split
   ·rename_i c2
    exact absurd ⟨_,if_pos c2⟩ h
   ·rename_i c2
    rw[nd]
    exact .inl rfl
  ·exact .inl (Ai7 nd fun i e=>c ⟨i,e⟩)
inductive Meets (t:SetTable) (g:Nat→Int) (h:Int) (n:Nat):Option SetTable.Met→Prop
 | empty (m:Nat):n≤m→t.slot (pth t h m).j=.empty→(∀ n',n≤n'→n'<m→∃ i,t.slot (pth t h n').j=.live i∧g i≠h)→Meets t g h n (some (.empty (pth t h m).j none))
 | Amt (m i:Nat):n≤m→t.slot (pth t h m).j=.live i→g i=h→(∀ n',n≤n'→n'<m→∃ i,t.slot (pth t h n').j=.live i∧g i≠h)→Meets t g h n (some (.candidate (pth t h m).j i (pth t h (m+1))))
theorem Meets.back{t:SetTable}{g:Nat→Int}{h:Int}{n:Nat}{r:Option SetTable.Met}(hn:∃ i,t.slot (pth t h n).j=.live i∧g i≠h)(m:Meets t g h (n+1) r):Meets t g h n r:=by
 have ext:∀{k:Nat},n+1≤k→(∀ n',n+1≤n'→n'<k→∃ i,t.slot (pth t h n').j=.live i∧g i≠h)→∀ n',n≤n'→n'<k→∃ i,t.slot (pth t h n').j=.live i∧g i≠h:=fun {k} hk f n' h1 h2=>by
  by_cases c:n'=n
  ·rw[c];exact hn
  ·exact f n' (by omega) h2
 cases m with
 | empty m h1 h2 h3=>exact .empty m (by omega) h2 (ext h1 h3)
 | Amt m i h1 h2 h3 h4=>exact .Amt m i (by omega) h2 h3 (ext h1 h4)
theorem AgI{t:SetTable}(nd:t.dummies=#[])(g:Nat→Int)(h:Int){N:Nat}(hN:t.slot (pth t h N).j=.empty):∀(fuel n:Nat),n≤N→N-n<fuel→Meets t g h n (SetTable.probe.go t g h fuel (pth t h n))
 | 0,n,_,hf=>by omega
 | fuel+1,n,hn,hf=>by
  unfold SetTable.probe.go
  rcases Ad3 nd (pth t h n).j with e | ⟨i,e⟩
  ·rw[e]
   dsimp only
   rw[Ab2]
   exact .empty n (AsI _) e fun n' h1 h2=>by omega
  ·rw[e]
   dsimp only
   have hlt:n<N:=by
    rcases Auh n N with c | c
    ·exact c
    ·have:n=N:=by omega
     rw[this,hN] at e;cases e
   by_cases c:g i=h
   ·rw[if_pos (by rw[c];simp)]
    exact .Amt n i (AsI _) e c fun n' h1 h2=>by omega
   ·rw[if_neg (by simpa using c)]
    exact(AgI nd g h hN fuel (n+1) (by omega) (by omega)).back ⟨i,e,c⟩
structure Tb (t:SetTable) (es:Array (Int × Value)):Prop where
 sz:t.place.size=es.size
 rise:XM t.place
 nod:t.dummies=#[]
 le:∀ i j:Nat,t.place[i]?=some j→j≤t.mask
 msk:Msk t.mask
 few:es.size≤t.mask
 way:∀(i j:Nat) (e:Int × Value),t.place[i]?=some j→es[i]?=some e→∃ n,(pth t e.1 n).j=j∧∀ n',n'<n→t.slot (pth t e.1 n').j≠.empty
theorem Tb.stop{t:SetTable}{es:Array (Int × Value)}(B:Tb t es)(h:Int):∃ N,N<10*SetTable.turns t.mask∧t.slot (pth t h N).j=.empty:=by
 obtain⟨j,hj,hn⟩:=Ams (xs:=t.place) (m:=t.mask) (by rw[B.sz];exact B.few)
 obtain⟨n,h1,h2⟩:=Amr (h:=h) B.msk hj
 exact⟨n,h1,by rw[h2];exact Ai7 B.nod hn⟩
theorem AhE(t:SetTable)(h:Int):∀ n,(pth t h n).j+(pth t h n).more≤t.mask∧(pth t h n).i≤t.mask
 | 0=>by
  have a:SetTable.bits h%(t.mask+1)≤t.mask:=Aus (AtC _ (Auf _))
  refine⟨?_,a⟩
  show _+(SetTable.runEnd t.mask _-_)≤_
  unfold SetTable.runEnd
  split <;> (show SetTable.bits h%(t.mask+1)+_≤_) <;> omega
 | n+1=>by
  obtain⟨h1,h2⟩:=AhE t h n
  show(t.advance (pth t h n)).j+(t.advance (pth t h n)).more≤t.mask∧(t.advance (pth t h n)).i≤t.mask
  unfold SetTable.advance
  split
  ·exact⟨by show(pth t h n).j+1+((pth t h n).more-1)≤_;omega,h2⟩
  ·have a:(SetTable.leap t.mask (pth t h n).i (pth t h n).perturb).1≤t.mask:=Aus (AtC _ (Auf _))
   refine⟨?_,a⟩
   show(SetTable.leap t.mask (pth t h n).i (pth t h n).perturb).1+(SetTable.runEnd t.mask (SetTable.leap t.mask (pth t h n).i (pth t h n).perturb).1-(SetTable.leap t.mask (pth t h n).i (pth t h n).perturb).1)≤_
   unfold SetTable.runEnd
   split <;> omega
theorem Tb.put{t:SetTable}{es:Array (Int × Value)}(B:Tb t es){h:Int}{x:Value}{n:Nat}(he:t.slot (pth t h n).j=.empty)(hb:∀ n',n'<n→t.slot (pth t h n').j≠.empty)(hf:es.size+1≤t.mask)(pl:Bool) :
  Tb { (t.put (pth t h n).j).1 with plain:=pl } (SetTable.insertAt es (t.put (pth t h n).j).2 (h,x)):=by
 obtain⟨J,hJ⟩:∃ J,J=(pth t h n).j:=⟨_,rfl⟩
 have hJm:J≤t.mask:=by have:=AhE t h n;omega
 rw[← hJ] at he ⊢
 have hne:∀ i:Nat,t.place[i]?≠some J:=fun i z=>by rw[slot_of B.rise z] at he;cases he
 obtain⟨b1,b2,b3⟩:=R1 B.rise J
 have pe:(t.put J).2=SetTable.below t.place J:=rfl
 have pp:(t.put J).1.place=SetTable.insertAt t.place (SetTable.below t.place J) J:=rfl
 have pm:(t.put J).1.mask=t.mask:=rfl
 have pd:(t.put J).1.dummies=#[]:=by
  show(if SetTable.has t.dummies J then _ else t.dummies)=#[]
  rw[B.nod]
  rfl
 obtain⟨p,hp⟩:∃ p,p=SetTable.below t.place J:=⟨_,rfl⟩
 obtain⟨t',ht'⟩:∃ t':SetTable,t'={ (t.put J).1 with plain:=pl }:=⟨_,rfl⟩
 have tp:t'.place=SetTable.insertAt t.place p J:=by rw[ht',hp];rfl
 have tm:t'.mask=t.mask:=by rw[ht'];rfl
 have td:t'.dummies=#[]:=by rw[ht'];exact pd
 rw[pe,← hp,← ht']
 rw[← hp] at b1
 have R':XM t'.place:=by rw[tp,hp];exact AgF B.rise (hne _)
 have gp:=fun i:Nat=>Aaf t.place b1 J i
 have ge:=fun i:Nat=>Aaf es (p:=p) (by rw[← B.sz];exact b1) (h,x) i
 have live:∀ j,t.slot j≠.empty→t'.slot j≠.empty:=fun j hj=>by
  rcases Ad3 B.nod j with e | ⟨i,e⟩
  ·exact absurd e hj
  ·have hi:=Af7 e
   have:∃ i':Nat,t'.place[i']?=some j:=by
    by_cases c:i<p
    ·exact⟨i,by rw[tp,gp,if_pos c];exact hi⟩
    ·exact⟨i+1,by rw[tp,gp,if_neg (by omega),if_neg (by omega)];exact hi⟩
   obtain⟨i',hi'⟩:=this
   rw[slot_of R' hi']
   exact fun z=>by cases z
 refine⟨?_,R',td,fun i j hij=>?_,by rw[tm];exact B.msk,by rw[tm,Aar];exact hf,fun i j e hij hie=>?_⟩
 ·rw[tp,Aar,Aar,B.sz]
 ·rw[tm]
  rw[tp,gp] at hij
  split at hij
  ·exact B.le _ _ hij
  ·split at hij
   ·injection hij with hij;rw[← hij];exact hJm
   ·exact B.le _ _ hij
 ·rw[tp,gp] at hij
  rw[ge] at hie
  have old:∀ i0:Nat,t.place[i0]?=some j→es[i0]?=some e→∃ n,(pth t' e.1 n).j=j∧∀ n',n'<n→t'.slot (pth t' e.1 n').j≠.empty:=fun i0 q1 q2=>by
   obtain⟨n0,a1,a2⟩:=B.way i0 j e q1 q2
   refine⟨n0,by rw[R3 tm];exact a1,fun n' hn'=>?_⟩
   rw[R3 tm]
   exact live _ (a2 n' hn')
  by_cases c1:i<p
  ·rw[if_pos c1] at hij hie
   exact old i hij hie
  ·rw[if_neg c1] at hij hie
   by_cases c2:i=p
   ·rw[if_pos c2] at hij hie
    injection hij with hij
    injection hie with hie
    subst hie
    refine⟨n,by rw[R3 tm,← hJ];exact hij,fun n' hn'=>?_⟩
    rw[R3 tm]
    exact live _ (hb n' hn')
   ·rw[if_neg c2] at hij hie
    exact old (i-1) hij hie
end SetW
open PySem PySem.Spec PyProof.Rows
namespace SetW
def T0 (mask:Nat):SetTable:={ mask:=mask,place:=#[],dummies:=#[],finger:=0,led:=true,moves:=0,plain:=true }
structure Ly (mask:Nat) (hs:List Int) (ow:Array (Option Nat)) (k:Nat):Prop where
 sz:ow.size=mask+1
 lt:∀ j o:Nat,ow.getD j none=some o→o<k
 all:∀ o:Nat,o<k→∃ j:Nat,ow.getD j none=some o
 inj:∀ j j' o:Nat,ow.getD j none=some o→ow.getD j' none=some o→j=j'
 way:∀(j o:Nat) (h:Int),ow.getD j none=some o→hs[o]?=some h→∃ n,(pth (T0 mask) h n).j=j∧∀ n',n'<n→ow.getD (pth (T0 mask) h n').j none≠none
theorem Anr{ow:Array (Option Nat)}{j o:Nat}(h:ow.getD j none=some o):j<ow.size:=by
 rcases Auh j ow.size with c | c
 ·exact c
 ·rw[Array.getD_eq_getD_getElem?,Array.getElem?_eq_none c] at h;cases h
theorem AkF{ow:Array (Option Nat)}{j:Nat}(h:j<ow.size):ow.getD j (some 0)=ow.getD j none:=by
 rw[Array.getD_eq_getD_getElem?,Array.getD_eq_getD_getElem?,Array.getElem?_eq_getElem h]
 rfl
theorem Ly.free{mask:Nat}{hs:List Int}{ow:Array (Option Nat)}{k:Nat}(L:Ly mask hs ow k)(hk:k≤mask):∃ j,j≤mask∧ow.getD j none=none:=by
 refine Classical.byContradiction fun z=>?_
 have own:∀ j,j≤mask→∃ o,ow.getD j none=some o:=fun j hj=>by
  cases e:ow.getD j none with
  | none=>exact absurd ⟨j,hj,e⟩ z
  | some o=>exact⟨o,rfl⟩
 have n:((List.range (mask+1)).map fun j=>(ow.getD j none).getD 0).Nodup:=by
  rw[List.Nodup,Atr]
  refine List.nodup_range.imp_of_mem fun {a b} ha hb ne e=>ne ?_
  obtain⟨o,ho⟩:=own a (by have:=List.mem_range.mp ha;omega)
  obtain⟨o',ho'⟩:=own b (by have:=List.mem_range.mp hb;omega)
  rw[ho,ho'] at e
  have e:o=o':=e
  subst e
  exact L.inj _ _ _ ho ho'
 have:=sub_len n (r:=List.range k) fun x hx=>by
  obtain⟨j,hj,e⟩:=List.mem_map.mp hx
  obtain⟨o,ho⟩:=own j (by have:=List.mem_range.mp hj;omega)
  rw[ho] at e
  have e:o=x:=e
  rw[← e]
  exact List.mem_range.mpr (L.lt j o ho)
 rw[AsH,AsQ,AsQ] at this
 omega
theorem Ai8{mask:Nat}{ow:Array (Option Nat)}(h:Int)(sz:ow.size=mask+1):∀(fuel k:Nat),(∃ K,k≤K∧K<k+fuel∧ow.getD (trn mask (SetTable.bits h) K).1 none=none)→(∀ n',n'<idx (T0 mask) h k→ow.getD (pth (T0 mask) h n').j none≠none) →
  ∃ n,SetTable.layClean.free mask ow fuel (trn mask (SetTable.bits h) k).1 (trn mask (SetTable.bits h) k).2=some (pth (T0 mask) h n).j∧ow.getD (pth (T0 mask) h n).j none=none∧∀ n',n'<n→ow.getD (pth (T0 mask) h n').j none≠none
 | 0,k,⟨K,h1,h2,_⟩,_=>by omega
 | fuel+1,k,⟨K,h1,h2,h3⟩,hb=>by
  have run:=Af6 (T0 mask) h (Ad2 (T0 mask) h k)
  have il:(trn mask (SetTable.bits h) k).1≤mask:=AkC _ _ _
  have re:SetTable.runEnd mask (trn mask (SetTable.bits h) k).1≤mask∧(trn mask (SetTable.bits h) k).1≤SetTable.runEnd mask (trn mask (SetTable.bits h) k).1:=by unfold SetTable.runEnd;split <;> omega
  have run:∀ r,r≤SetTable.runEnd mask (trn mask (SetTable.bits h) k).1-(trn mask (SetTable.bits h) k).1→(pth (T0 mask) h (idx (T0 mask) h k+r)).j=(trn mask (SetTable.bits h) k).1+r:=fun r hr=>by rw[run r hr];rfl
  have ix:idx (T0 mask) h (k+1)=idx (T0 mask) h k+(SetTable.runEnd mask (trn mask (SetTable.bits h) k).1-(trn mask (SetTable.bits h) k).1)+1:=rfl
  have nx:trn mask (SetTable.bits h) (k+1)=SetTable.leap mask (trn mask (SetTable.bits h) k).1 (trn mask (SetTable.bits h) k).2:=rfl
  have hK0:K=k→ow.getD (trn mask (SetTable.bits h) k).1 none=none:=fun e=>by rw[← e];exact h3
  unfold SetTable.layClean.free
  generalize (trn mask (SetTable.bits h) k).1=i at il re run ix nx hK0 ⊢
  have ih:=Ai8 h sz fuel (k+1)
  rw[nx] at ih
  have hKk:K=k∨k+1≤K:=by omega
  cases hf:(List.range (SetTable.runEnd mask i+1-i)).find? fun r=>(ow.getD (i+r) (some 0)).isNone with
  | some r =>
   obtain⟨f1,f2,f3⟩:=List.find?_range_eq_some.mp hf
   have hr:=List.mem_range.mp f2
   dsimp only
   refine⟨idx (T0 mask) h k+r,by rw[run r (by omega)],?_,fun n' hn'=>?_⟩
   ·rw[run r (by omega),← AkF (by omega)]
    exact Option.isNone_iff_eq_none.mp f1
   ·by_cases c:n'<idx (T0 mask) h k
    ·exact hb n' c
    ·obtain⟨r',rfl⟩:∃ r',n'=idx (T0 mask) h k+r':=⟨n'-idx (T0 mask) h k,by omega⟩
     have:=f3 r' (by omega)
     rw[run r' (by omega),← AkF (by omega)]
     intro z
     rw[z] at this
     cases this
  | none =>
   have f:=List.find?_range_eq_none.mp hf
   have nn:∀ r,r≤SetTable.runEnd mask i-i→ow.getD (i+r) none≠none:=fun r hr=>by
    have:=f r (by omega)
    rw[← AkF (by omega)]
    intro z
    rw[z] at this
    cases this
   dsimp only
   refine ih ⟨K,?_,by omega,h3⟩ fun n' hn'=>?_
   ·rcases hKk with e | e
    ·exact absurd (hK0 e) (nn 0 (AsM _))
    ·exact e
   ·by_cases c:n'<idx (T0 mask) h k
    ·exact hb n' c
    ·obtain⟨r',rfl⟩:∃ r',n'=idx (T0 mask) h k+r':=⟨n'-idx (T0 mask) h k,by omega⟩
     rw[run r' (by omega)]
     exact nn r' (by omega)
theorem Amu{ow:Array (Option Nat)}{J k:Nat}(hJ:J<ow.size)(j:Nat):(ow.setIfInBounds J (some k)).getD j none=if j=J then some k else ow.getD j none:=by
 rw[Array.getD_eq_getD_getElem?,Array.getElem?_setIfInBounds,Array.getD_eq_getD_getElem?]
 by_cases e:J=j
 ·rw[if_pos e,if_pos hJ,if_pos e.symm];rfl
 ·rw[if_neg e,if_neg fun z=>e z.symm]
theorem Ly.next{mask:Nat}{hs:List Int}{ow:Array (Option Nat)}(L:Ly mask hs ow hs.length){h:Int}{n:Nat}(he:ow.getD (pth (T0 mask) h n).j none=none)(hb:∀ n',n'<n→ow.getD (pth (T0 mask) h n').j none≠none):Ly mask (hs++[h]) (ow.setIfInBounds (pth (T0 mask) h n).j (some hs.length)) (hs++[h]).length:=by
 obtain⟨J,hJ⟩:∃ J,J=(pth (T0 mask) h n).j:=⟨_,rfl⟩
 have hJm:J≤mask:=by
  have:=(AhE (T0 mask) h n).1
  have:(pth (T0 mask) h n).j+(pth (T0 mask) h n).more≤mask:=this
  omega
 rw[← hJ] at he ⊢
 have hJs:J<ow.size:=by rw[L.sz];omega
 have g:=fun j=>Amu (k:=hs.length) hJs j
 have keep:∀ j,ow.getD j none≠none→(ow.setIfInBounds J (some hs.length)).getD j none≠none:=fun j hj=>by
  rw[g j]
  split
  ·exact fun z=>by cases z
  ·exact hj
 have ll:(hs++[h]).length=hs.length+1:=by rw[AsN];rfl
 refine⟨by rw[Array.size_setIfInBounds];exact L.sz,fun j o ho=>?_,fun o ho=>?_,fun j j' o h1 h2=>?_,fun j o h' ho hh=>?_⟩
 ·rw[g j] at ho
  rw[ll]
  split at ho
  ·injection ho with ho;omega
  ·have:=L.lt j o ho;omega
 ·rw[ll] at ho
  by_cases c:o=hs.length
  ·exact⟨J,by rw[g J,if_pos rfl,c]⟩
  ·obtain⟨j,hj⟩:=L.all o (by omega)
   refine⟨j,?_⟩
   rw[g j,if_neg fun z=>?_]
   ·exact hj
   ·rw[z,he] at hj;cases hj
 ·rw[g j] at h1
  rw[g j'] at h2
  split at h1
  ·rename_i c
   injection h1 with h1
   split at h2
   ·rename_i c';rw[c,c']
   ·have:=L.lt j' o h2;omega
  ·split at h2
   ·injection h2 with h2
    have:=L.lt j o h1;omega
   ·exact L.inj j j' o h1 h2
 ·rw[g j] at ho
  split at ho
  ·rename_i c
   injection ho with ho
   rw[← ho,Ats (AsI _),At7] at hh
   injection hh with hh
   subst hh
   exact⟨n,by rw[c,hJ],fun n' hn'=>keep _ (hb n' hn')⟩
  ·have ol:=L.lt j o ho
   rw[Atu ol] at hh
   obtain⟨n0,a1,a2⟩:=L.way j o h' ho hh
   exact⟨n0,a1,fun n' hn'=>keep _ (a2 n' hn')⟩
theorem Ly.new(mask:Nat):Ly mask [] (Array.replicate (mask+1) none) 0:=by
 have g:∀ j,(Array.replicate (mask+1) (none:Option Nat)).getD j none=none:=fun j=>by
  rw[Array.getD_eq_getD_getElem?,Array.getElem?_replicate]
  split <;> rfl
 exact⟨Array.size_replicate,fun j o h=>(by rw[g j] at h;cases h),fun o h=>(by omega),fun j j' o h _=>(by rw[g j] at h;cases h),fun j o h' h _=>(by rw[g j] at h;cases h)⟩
def AgJ (mask:Nat)(acc:Option (Array (Option Nat) × Nat))(h:Int):Option (Array (Option Nat) × Nat):=do
 let (owner,k) ← acc
 let j ← SetTable.layClean.free mask owner (SetTable.turns mask) (SetTable.bits h%(mask+1)) (SetTable.bits h)
 pure (owner.setIfInBounds j (some k),k+1)
theorem AkG{mask:Nat}(hm:Msk mask){hs:List Int}{ow:Array (Option Nat)}(L:Ly mask hs ow hs.length)(hk:hs.length≤mask)(h:Int):∃ ow',AgJ mask (some (ow,hs.length)) h=some (ow',(hs++[h]).length)∧Ly mask (hs++[h]) ow' (hs++[h]).length:=by
 obtain⟨j,hj,e⟩:=L.free hk
 obtain⟨K,h1,h2⟩:=Ai5 hm (Ai6 h) hj
 obtain⟨n,f1,f2,f3⟩:=Ai8 h L.sz (SetTable.turns mask) 0 ⟨K,AsM _,by unfold SetTable.turns;omega,by rw[h2];exact e⟩ fun n' hn'=>(by cases hn')
 refine⟨_,?_,L.next f2 f3⟩
 have f1:SetTable.layClean.free mask ow (SetTable.turns mask) (SetTable.bits h%(mask+1)) (SetTable.bits h)=some (pth (T0 mask) h n).j:=f1
 unfold AgJ
 show(SetTable.layClean.free mask ow (SetTable.turns mask) (SetTable.bits h%(mask+1)) (SetTable.bits h)).bind _=_
 rw[f1,AsN]
 rfl
theorem AgK{mask:Nat}(hm:Msk mask):∀(rest hs:List Int) (ow:Array (Option Nat)),Ly mask hs ow hs.length→(hs++rest).length≤mask→∃ ow',rest.foldl (AgJ mask) (some (ow,hs.length))=some (ow',(hs++rest).length)∧Ly mask (hs++rest) ow' (hs++rest).length
 | [],hs,ow,L,_=>⟨ow,by rw[Atk];rfl,by rw[Atk];exact L⟩
 | h::rest,hs,ow,L,hk=>by
  obtain⟨ow1,e1,L1⟩:=AkG hm L (by rw[AsN] at hk;omega) h
  have ap:hs++h::rest=hs++[h]++rest:=by rw[Atv];rfl
  obtain⟨ow2,e2,L2⟩:=AgK hm rest (hs++[h]) ow1 L1 (by rw[← ap];exact hk)
  refine⟨ow2,?_,by rw[ap];exact L2⟩
  rw[Auj,e1,ap]
  exact e2
theorem Aj1{mask:Nat}(hm:Msk mask){hs:Array Int}(hk:hs.size≤mask):∃ ow,SetTable.layClean mask hs=some ow∧Ly mask hs.toList ow hs.toList.length:=by
 obtain⟨ow,e,L⟩:=AgK hm hs.toList [] (Array.replicate (mask+1) none) (Ly.new mask) (by rw[AtE,Array.length_toList];exact hk)
 rw[AtE] at e L
 refine⟨ow,?_,L⟩
 have:hs.foldl (AgJ mask) (some (Array.replicate (mask+1) none,0))=some (ow,hs.toList.length):=by rw[← Array.foldl_toList];exact e
 show(hs.foldl (AgJ mask) (some (Array.replicate (mask+1) none,0))).map (·.1)=some ow
 rw[this]
 rfl
def lvs (mask:Nat)(ow:Array (Option Nat)):List (Nat × Nat):=(List.range (mask+1)).filterMap fun j=>(ow.getD j none).map (j,·)
theorem RX{mask:Nat}{ow:Array (Option Nat)}{j o:Nat}:(j,o)∈lvs mask ow↔j≤mask∧ow.getD j none=some o:=by
 unfold lvs
 rw[List.mem_filterMap]
 constructor
 ·rintro⟨j',hj,e⟩
  cases h:ow.getD j' none with
  | none=>rw[h] at e;cases e
  | some o' =>
   rw[h] at e
   have e:some (j',o')=some (j,o):=e
   injection e with e
   injection e with e1 e2
   subst e1 e2
   exact⟨by have:=List.mem_range.mp hj;omega,h⟩
 ·rintro⟨h1,h2⟩
  exact⟨j,List.mem_range.mpr (by omega),by rw[h2];rfl⟩
theorem Aj2{mask:Nat}{hs:List Int}{ow:Array (Option Nat)}{k:Nat}(L:Ly mask hs ow k):((lvs mask ow).map (·.2)).Nodup:=by
 have pw:(lvs mask ow).Pairwise (fun a b=>a.1<b.1):=by
  unfold lvs
  refine List.Pairwise.filterMap (R:=(·<·)) _ (fun a a' haa b hb b' hb'=>?_) Au5
  cases h1:ow.getD a none with
  | none=>rw[h1] at hb;cases hb
  | some u =>
   cases h2:ow.getD a' none with
   | none=>rw[h2] at hb';cases hb'
   | some u' =>
    rw[h1] at hb;rw[h2] at hb'
    cases hb;cases hb'
    exact haa
 rw[List.Nodup,Atr]
 refine pw.imp_of_mem fun {a b} ha hb lt e=>?_
 have h1:=(RX (j:=a.1) (o:=a.2)).mp ha
 have h2:=(RX (j:=b.1) (o:=b.2)).mp hb
 have:=L.inj a.1 b.1 a.2 h1.2 (by rw[e];exact h2.2)
 omega
theorem AkH{mask:Nat}{hs:List Int}{ow:Array (Option Nat)}{k:Nat}(L:Ly mask hs ow k):((lvs mask ow).map (·.2)).Perm (List.range k):=by
 refine(List.perm_ext_iff_of_nodup (Aj2 L) Au6).mpr fun o=>?_
 rw[List.mem_range]
 constructor
 ·intro h
  obtain⟨⟨j,o'⟩,hq,e⟩:=List.mem_map.mp h
  have e:o'=o:=e
  subst e
  exact L.lt _ _ (RX.mp hq).2
 ·intro h
  obtain⟨j,hj⟩:=L.all o h
  exact List.mem_map.mpr ⟨(j,o),RX.mpr ⟨by have:=Anr hj;rw[L.sz] at this;omega,hj⟩,rfl⟩
theorem Ai9{α β:Type}{f:α→Option β}{g:α→β}:∀{l:List α},(∀ x∈l,f x=some (g x))→l.filterMap f=l.map g
 | [],_=>rfl
 | x::l,h=>by
  rw[AtI,h x AsR]
  dsimp only
  rw[Ai9 fun y hy=>h y (AsW _ hy)]
  rfl
theorem Amv{mask finger moves:Nat}{led plain:Bool}(hm:Msk mask){es:Array (Int × Value)}(hk:es.size≤mask):∃ t' order,SetTable.laid mask finger moves led plain (es.map (·.1))=some (t',order)∧(order.filterMap (es[·]?)).size=es.size∧(order.filterMap (es[·]?)).toList.Perm es.toList∧Tb t' (order.filterMap (es[·]?))∧t'.mask=mask∧t'.led=led∧t'.plain=plain∧t'.finger=finger∧t'.moves=moves:=by
 obtain⟨ow,e,L⟩:=Aj1 hm (hs:=es.map (·.1)) (by rw[Array.size_map];exact hk)
 have hl:(es.map (·.1)).toList.length=es.size:=by rw[Array.length_toList,Array.size_map]
 rw[hl] at L
 have eL:SetTable.laid mask finger moves led plain (es.map (·.1))=some ({ mask:=mask,place:=((lvs mask ow).map (·.1)).toArray,dummies:=#[],finger:=finger,led:=led,moves:=moves,plain:=plain },((lvs mask ow).map (·.2)).toArray):=by
  unfold SetTable.laid
  rw[e]
  rfl
 refine⟨_,_,eL,?_⟩
 have R:=(Ai3 eL).2.2
 have P:=AkH L
 have gt:∀ o,o∈(lvs mask ow).map (·.2)→es[o]?=some (es.getD o (0,.none)):=fun o ho=>by
  have:=List.mem_range.mp (P.mem_iff.mp ho)
  rw[Array.getD_eq_getD_getElem?,Array.getElem?_eq_getElem this]
  rfl
 have el:(((lvs mask ow).map (·.2)).toArray.filterMap (es[·]?)).toList=((lvs mask ow).map (·.2)).map fun o=>es.getD o (0,.none):=by
  rw[Array.toList_filterMap]
  exact Ai9 gt
 have perm:(((lvs mask ow).map (·.2)).toArray.filterMap (es[·]?)).toList.Perm es.toList:=by
  rw[el]
  refine(P.map _).trans (List.Perm.of_eq ?_)
  refine AtQ (by rw[AsH,AsQ,Array.length_toList]) fun i h1 h2=>?_
  have hi:i<es.size:=by rw[AsH,AsQ] at h1;exact h1
  rw[Auc,Au2,Array.getD_eq_getD_getElem?,Array.getElem?_eq_getElem hi,Array.getElem_toList]
  rfl
 have size:(((lvs mask ow).map (·.2)).toArray.filterMap (es[·]?)).size=es.size:=by rw[← Array.length_toList,perm.length_eq,Array.length_toList]
 have len:(lvs mask ow).length=es.size:=by
  have:=P.length_eq
  rw[AsH,AsQ] at this
  exact this
 obtain⟨es',ees⟩:∃ es',es'=((lvs mask ow).map (·.2)).toArray.filterMap (es[·]?):=⟨_,rfl⟩
 rw[← ees] at el perm size ⊢
 refine⟨size,perm,?_,rfl,rfl,rfl,rfl,rfl⟩
 have pl:∀ i:Nat,(((lvs mask ow).map (·.1)).toArray)[i]?=((lvs mask ow)[i]?).map (·.1):=fun i=>by rw[List.getElem?_toArray,AsU]
 refine⟨?_,R,rfl,fun i j hij=>?_,hm,by rw[size];exact hk,fun i j e' hij hie=>?_⟩
 ·show(((lvs mask ow).map (·.1)).toArray).size=es'.size
  rw[AsK,AsH,len,size]
 ·have hij:(((lvs mask ow).map (·.1)).toArray)[i]?=some j:=hij
  rw[pl] at hij
  cases hq:(lvs mask ow)[i]? with
  | none=>rw[hq] at hij;cases hij
  | some q =>
   rw[hq] at hij
   have hij:some q.1=some j:=hij
   injection hij with hij
   have:=(RX (j:=q.1) (o:=q.2)).mp (AsS hq)
   show j≤mask
   omega
 ·have hij:(((lvs mask ow).map (·.1)).toArray)[i]?=some j:=hij
  rw[pl] at hij
  cases hq:(lvs mask ow)[i]? with
  | none=>rw[hq] at hij;cases hij
  | some q =>
   rw[hq] at hij
   have hij:some q.1=some j:=hij
   injection hij with hij
   obtain⟨q1,q2⟩:=(RX (j:=q.1) (o:=q.2)).mp (AsS hq)
   rw[← Array.getElem?_toList,el,AsU,AsU,hq] at hie
   have hie:some (es.getD q.2 (0,.none))=some e':=hie
   injection hie with hie
   have ho:=gt q.2 (List.mem_map.mpr ⟨q,AsS hq,rfl⟩)
   have hh:(es.map (·.1)).toList[q.2]?=some e'.1:=by
    rw[Array.getElem?_toList,Array.getElem?_map,ho,← hie]
    rfl
   obtain⟨n,a1,a2⟩:=L.way q.1 q.2 e'.1 q2 hh
   have pm:∀ n,pth { mask:=mask,place:=((lvs mask ow).map (·.1)).toArray,dummies:=#[],finger:=finger,led:=led,moves:=moves,plain:=plain } e'.1 n=pth (T0 mask) e'.1 n:=fun n=>R3 (t:=T0 mask) (t':={ mask:=mask,place:=((lvs mask ow).map (·.1)).toArray,dummies:=#[],finger:=finger,led:=led,moves:=moves,plain:=plain }) rfl e'.1 n
   refine⟨n,by rw[pm,a1];exact hij,fun n' hn'=>?_⟩
   rw[pm]
   have b:=a2 n' hn'
   cases hb:ow.getD (pth (T0 mask) e'.1 n').j none with
   | none=>exact absurd hb b
   | some o' =>
    have mb:=(RX (mask:=mask)).mpr ⟨(by have:=Anr hb;rw[L.sz] at this;omega),hb⟩
    obtain⟨i',hi',ei'⟩:=Atl mb
    have:(((lvs mask ow).map (·.1)).toArray)[i']?=some (pth (T0 mask) e'.1 n').j:=by rw[pl,AsJ hi',ei'];rfl
    rw[slot_of (t:={ mask:=mask,place:=((lvs mask ow).map (·.1)).toArray,dummies:=#[],finger:=finger,led:=led,moves:=moves,plain:=plain }) R this]
    exact fun z=>by cases z
end SetW
open PySem PySem.Spec PyProof.Rows
namespace SetW
abbrev KS:=Int ⊕ Str
def isK:KS→Value→Bool
 | .inl i,v=>Value.isInt i v
 | .inr x,v=>Value.isStrOf x v
theorem JQ{i:Int}{v:Value}(h:isK (.inl i) v=true):∃ t,v=.int i t:=Value.isInt_shape h
theorem MT{x:Str}{v:Value}(h:isK (.inr x) v=true):∃ t,v=.str x t:=Value.isStrOf_shape h
def Eg (prog:Program)(w:World):KeyKind prog w KS where
 is:=isK
 hash:=fun k=>match k with | .inl i=>hashInt i | .inr x=>hashStr w x
 inj:=fun v a b ha hb=>by
  cases a with
  | inl i =>
   obtain⟨t,rfl⟩:=JQ ha
   cases b with
   | inl i'=>obtain⟨t',e⟩:=JQ hb;injection e with e;rw[e]
   | inr x=>obtain⟨t',e⟩:=MT hb;cases e
  | inr x =>
   obtain⟨t,rfl⟩:=MT ha
   cases b with
   | inl i'=>obtain⟨t',e⟩:=JQ hb;cases e
   | inr x'=>obtain⟨t',e⟩:=MT hb;injection e with e;rw[e]
 byValue:=fun k v h=>by
  cases k with
  | inl i=>obtain⟨t,rfl⟩:=JQ h;rfl
  | inr x=>obtain⟨t,rfl⟩:=MT h;rfl
 pyHash:=fun {A E s k v Q} hv h=>by
  cases k with
  | inl i=>exact(intKind prog w).pyHash (k:=i) hv h
  | inr x=>exact(strKind prog w).pyHash (k:=x) hv h
 eqBool:=fun {A E s a b u v Q} hu hv h=>by
  cases a with
  | inl i =>
   obtain⟨t,rfl⟩:=JQ hu
   cases b with
   | inl i'=>obtain⟨t',rfl⟩:=JQ hv;exact wpAny_eqBool_int (by have e:decide ((Sum.inl i:KS)=.inl i')=(i == i'):=by { rw[AtJ];simp };rw[← e];exact h)
   | inr x=>obtain⟨t',rfl⟩:=MT hv;exact SeqAt.EqAt.int_str i t x t' prog w E Q (by simpa using h)
  | inr x =>
   obtain⟨t,rfl⟩:=MT hu
   cases b with
   | inl i'=>obtain⟨t',rfl⟩:=JQ hv;exact SeqAt.EqAt.str_int x t i' t' prog w E Q (by simpa using h)
   | inr x'=>obtain⟨t',rfl⟩:=MT hv;exact wpAny_eqBool_str (by simpa [Sum.inr.injEq] using h)
 «strs»:=fun k x t v h=>by
  cases k with
  | inl i=>obtain⟨t',e⟩:=JQ h;cases e
  | inr y=>exact(strKind prog w).«strs» y x t v h
section
variable {prog:Program}{w:World}{A:Around}{E:Value→Shared→Prop}{s:Shared}
abbrev TK (prog:Program) (w:World) (h:Heap) (ks:List KS) (a:Addr):Prop:=IsTupleKey (Eg prog w) h ks a
theorem AkI{ks:List KS}{a:Addr}(hk:TK prog w s.heap ks a){Q:Bool→Shared→Prop}(h:Q false s):wpAny (model prog w) A (ofAClassStatement 8 (.ref a)) Q E s:=by
 have hT:=hk.typeIs
 obtain⟨o,items,n,ho,hc,hd,hi⟩:=hk
 unfold ofAClassStatement
 refine wpAny_bind (wpAny_typeOf hT ?_)
 dsimp only
 rw[if_pos (by decide)]
 refine wpAny_bind (wpAny_pure ?_)
 rw[if_neg (by decide)]
 refine wpAny_bind (wpAny_seqItems ho hd ?_)
 dsimp only
 refine wpAny_bind ?_
 rw[← Array.forIn_toList]
 refine wpAny_forIn_list _ (fun rest r s'=>r.1=none∧s'=s∧∀ v∈rest,carriedByValue v=true) _ ?_ ?_ _ _ ⟨rfl,rfl,hi.byValue⟩
 ·rintro v rest r s' ⟨hr,rfl,hall⟩
  have e7:ofAClassStatement 7 v=pure false:=by
   have:=hall v AsR
   cases v with
   | ref b=>simp[carriedByValue] at this
   | _=>rfl
  rw[e7]
  refine wpAny_bind (wpAny_pure ?_)
  rw[if_neg (by decide)]
  exact wpAny_pure ⟨rfl,rfl,fun u hu'=>hall u (AsW _ hu')⟩
 ·rintro⟨r1,r2⟩ s' ⟨hr,rfl,_⟩
  simp only at hr
  subst hr
  exact wpAny_pure h
theorem Amw{ks:List KS}{a:Addr}(hk:TK prog w s.heap ks a){Q:Bool→Shared→Prop}(h:Q false s){l:List Value}(hl:∀ y∈l,∃ b ks',y=.ref b∧TK prog w s.heap ks' b):wpAny (model prog w) A (searchCouldBeSeen (.ref a) l) Q E s:=by
 unfold searchCouldBeSeen
 refine wpAny_bind ?_
 refine wpAny_forIn_list _ (fun rest r s'=>r.1=none∧s'=s∧∀ y∈rest,∃ b ks',y=.ref b∧TK prog w s.heap ks' b) _ ?_ ?_ _ _ ⟨rfl,rfl,hl⟩
 ·rintro y rest r s' ⟨hr,rfl,hall⟩
  obtain⟨b,ks',rfl,hb⟩:=hall y AsR
  have nx:∀ u∈rest,∃ b ks',u=.ref b∧TK prog w s'.heap ks' b:=fun u hu=>hall u (AsW _ hu)
  dsimp only
  split
  ·exact wpAny_pure ⟨rfl,rfl,nx⟩
  ·refine wpAny_bind (wpAny_eqIsQuiet_tuple hk ?_)
   rw[if_neg (by decide)]
   refine wpAny_bind (wpAny_eqIsQuiet_tuple hb ?_)
   rw[if_neg (by decide)]
   refine wpAny_bind (AkI hk ?_)
   rw[if_neg (by decide)]
   refine wpAny_bind (AkI hb ?_)
   rw[if_neg (by decide)]
   exact wpAny_pure ⟨rfl,rfl,nx⟩
 ·rintro⟨r1,r2⟩ s' ⟨hr,rfl,_⟩
  simp only at hr
  subst hr
  exact wpAny_pure h
def EK (prog:Program)(w:World)(h:Heap)(e:Int × Value)(ks:List KS):Prop:=∃ a,e.2=.ref a∧TK prog w h ks a∧e.1=tupleKeyHash (Eg prog w) ks
structure TS (prog:Program) (w:World) (h:Heap) (o:Obj) (es:Array (Int × Value)) (ep:Nat) (t:SetTable) (kl:List (List KS)):Prop where
 ex:o.ExactSet
 d:o.data=.set es ep t
 tb:Tb t es
 few:es.size*5<t.mask*3
 ok:w.params.followText "set-order" = true∨t.led=true
 len:kl.length=es.size
 el:∀(i:Nat) (e:Int × Value),es[i]?=some e→∃ ks,kl[i]?=some ks∧EK prog w h e ks
 nd:kl.Nodup
theorem Tb.fits{t:SetTable}{es:Array (Int × Value)}(B:Tb t es):t.fits es.size=true:=by
 unfold SetTable.fits SetTable.fill
 rw[B.nod,B.sz]
 have:=B.few
 simp
 exact this
theorem Aot{α:Type}{M:Model}{b:Bool}{c:Sem Bool}{X Y:Sem α}{Q:α→Shared→Prop}(hc:b=false→∀ Q':Bool→Shared→Prop,Q' false s→wpAny M A c Q' E s)(k:wpAny M A Y Q E s):wpAny M A (if (!b)=true then do
  let z ← c
  if z=true then X else Y
 else Y) Q E s:=by
 cases b with
 | true=>exact k
 | false =>
  show wpAny M A (c >>= fun z=>if z=true then X else Y) Q E s
  refine wpAny_bind (hc rfl _ ?_)
  rw[if_neg (by decide)]
  exact k
theorem AeS{S a:Addr}{o:Obj}{es:Array (Int × Value)}{ep:Nat}{t:SetTable}{kl:List (List KS)}{ks:List KS}(T:TS prog w s.heap o es ep t kl)(ho:s.heap.get? S=some o)(hu:A.units<cLine)(ha:TK prog w s.heap ks a){Q:SetFound→Shared→Prop}{N:Nat}(hN:t.slot (pth t (tupleKeyHash (Eg prog w) ks) N).j=.empty)(hNl:N<10*SetTable.turns t.mask)
  (free:ks∉kl→∀ n,t.slot (pth t (tupleKeyHash (Eg prog w) ks) n).j=.empty→(∀ n',n'<n→t.slot (pth t (tupleKeyHash (Eg prog w) ks) n').j≠.empty)→Q (.free (pth t (tupleKeyHash (Eg prog w) ks) n).j false) s)
  (there:ks∈kl→Q (.there none) s):∀(fuel n:Nat) (stand:Option SetTable.Probe),n≤N→N-n<fuel→stand.getD (t.probeStart (tupleKeyHash (Eg prog w) ks))=pth t (tupleKeyHash (Eg prog w) ks) n →
   (∀ n',n'<n→∃ i,t.slot (pth t (tupleKeyHash (Eg prog w) ks) n').j=.live i∧∀ ks',kl[i]?=some ks'→ks'≠ks)→wpAny (model prog w) A (setSearchFrom S (.ref a) (tupleKeyHash (Eg prog w) ks) true fuel stand) Q E s
 | 0,n,_,_,hf,_,_=>by omega
 | fuel+1,n,stand,hn,hf,hst,hb=>by
  have ih:=AeS T ho hu ha hN hNl free there fuel
  unfold setSearchFrom
  refine wpAny_bind (wpAny_setState_of ho T.d T.tb.fits ?_)
  dsimp only
  have gw:t.gaveWay=false:=by
   unfold SetTable.gaveWay
   rcases T.tb.msk with e | e | e <;> rw[e] <;> rfl
  rw[gw,if_neg (by decide),hst]
  obtain⟨hh,ehh⟩:∃ hh,hh=tupleKeyHash (Eg prog w) ks:=⟨_,rfl⟩
  rw[← ehh] at hN free hb ih ⊢
  have M:=AgI T.tb.nod (fun i:Nat=>(es[i]?.map (·.1)).getD 0) hh hN (10*SetTable.turns t.mask) n hn (by omega)
  generalize hR:t.probe _ hh (pth t hh n)=R
  have hR':SetTable.probe.go t (fun i:Nat=>(es[i]?.map (·.1)).getD 0) hh (10*SetTable.turns t.mask) (pth t hh n)=R:=hR
  rw[hR'] at M
  clear hR hR'
  have dead:∀ m,t.slot (pth t hh m).j=.empty→(∀ n',n≤n'→n'<m→∃ i,t.slot (pth t hh n').j=.live i∧(es[i]?.map (·.1)).getD 0≠hh)→ks∉kl:=fun m h2 h3 hmem=>by
   obtain⟨i,hi,ei⟩:=Atl hmem
   have hie:i<es.size:=by rw[← T.len];exact hi
   obtain⟨ks',q1,a',q2,q3,q4⟩:=T.el i es[i] (Array.getElem?_eq_getElem hie)
   rw[AsJ hi,ei] at q1
   injection q1 with q1
   subst q1
   have hip:i<t.place.size:=by rw[T.tb.sz];exact hie
   obtain⟨n0,w1,w2⟩:=T.tb.way i t.place[i] es[i] (Array.getElem?_eq_getElem hip) (Array.getElem?_eq_getElem hie)
   rw[q4,← ehh] at w1 w2
   have sl:t.slot (pth t hh n0).j=.live i:=by rw[w1];exact slot_of T.tb.rise (Array.getElem?_eq_getElem hip)
   rcases Auq n0 m with c | c | c
   ·by_cases c2:n0<n
    ·obtain⟨i',z1,z2⟩:=hb n0 c2
     rw[sl] at z1
     injection z1 with z1
     subst z1
     exact z2 ks (by rw[AsJ hi,ei]) rfl
    ·obtain⟨i',z1,z2⟩:=h3 n0 (by omega) c
     rw[sl] at z1
     injection z1 with z1
     subst z1
     apply z2
     rw[Array.getElem?_eq_getElem hie]
     show es[i].1=hh
     rw[q4,ehh]
   ·rw[c,h2] at sl;cases sl
   ·exact w2 m c h2
  have alive:∀ m,(∀ n',n≤n'→n'<m→∃ i,t.slot (pth t hh n').j=.live i∧(es[i]?.map (·.1)).getD 0≠hh)→∀ n',n'<m→t.slot (pth t hh n').j≠.empty:=fun m h3 n' hn'=>by
   by_cases c2:n'<n
   ·obtain⟨i',z1,_⟩:=hb n' c2
    rw[z1];exact fun z=>by cases z
   ·obtain⟨i',z1,_⟩:=h3 n' (by omega) hn'
    rw[z1];exact fun z=>by cases z
  cases M with
  | empty m h1 h2 h3=>exact wpAny_pure (free (dead m h2 h3) m h2 (alive m h3))
  | Amt m i h1 h2 h3 h4 =>
   have hmN:m<N:=by
    rcases Auh m N with c | c
    ·exact c
    ·exfalso
     by_cases c2:m=N
     ·rw[c2,hN] at h2;cases h2
     ·exact alive m h4 N (by omega) hN
   have hip:=Af7 h2
   have hie:i<es.size:=by rw[← T.tb.sz];exact(Array.getElem?_eq_some_iff.mp hip).1
   obtain⟨ks',q1,b,q2,q3,q4⟩:=T.el i es[i] (Array.getElem?_eq_getElem hie)
   have ee:es[i]?=some (es[i].1,.ref b):=by rw[Array.getElem?_eq_getElem hie,← q2]
   dsimp only
   refine Aot (fun _ Q' hq'=>Amw ha hq' fun y hy=>?_) ?_
   ·obtain⟨e0,he0,rfl⟩:=List.mem_map.mp hy
    have he1:e0∈es:=(Array.mem_filter.mp (Array.mem_toList_iff.mp he0)).1
    obtain⟨i0,hi0,rfl⟩:=Array.mem_iff_getElem.mp he1
    obtain⟨ks0,_,b0,r2,r3,_⟩:=T.el i0 es[i0] (Array.getElem?_eq_getElem hi0)
    exact⟨b0,ks0,r2,r3⟩
   rw[ee]
   dsimp only
   refine wpAny_bind (wpAny_holding (wpAny_eqBool_tuple hu q3 ha ?_))
   refine wpAny_bind (wpAny_setState_of ho T.d T.tb.fits ?_)
   dsimp only
   by_cases hk:ks'=ks
   ·subst hk
    rw[if_pos (by simp)]
    exact wpAny_pure (there (AsS q1))
   ·rw[if_neg (by simp[hk])]
    have sm:t.sameMemory t.moves t.mask=some true:=by unfold SetTable.sameMemory;rw[if_pos (by simp)]
    rw[sm]
    dsimp only
    rw[if_pos rfl,h2]
    dsimp only
    rw[ee]
    dsimp only
    have is:isSame (.ref b) (.ref b)=pure true:=by unfold isSame;simp
    rw[is]
    refine wpAny_bind (wpAny_pure (wpAny_bind (wpAny_pure ?_)))
    rw[if_pos rfl]
    dsimp only
    rw[if_neg (by simp[hk])]
    refine ih (m+1) _ (by omega) (by omega) rfl fun n' hn'=>?_
    by_cases c:n'<n
    ·exact hb n' c
    ·by_cases c2:n'=m
     ·subst c2
      exact⟨i,h2,fun ks2 z=>by rw[q1] at z;injection z with z;rw[← z];exact hk⟩
     ·obtain⟨i',z1,z2⟩:=h4 n' (by omega) (by omega)
      refine⟨i',z1,fun ks2 z3 z4=>z2 ?_⟩
      have Ard:=Af7 z1
      have ApP:i'<es.size:=by rw[← T.tb.sz];exact(Array.getElem?_eq_some_iff.mp Ard).1
      obtain⟨ks3,r1,b3,r2,r3,r4⟩:=T.el i' es[i'] (Array.getElem?_eq_getElem ApP)
      rw[z3] at r1
      injection r1 with r1
      rw[Array.getElem?_eq_getElem ApP]
      show es[i'].1=hh
      rw[r4,← r1,z4,ehh]
end
end SetW
open PySem PySem.Spec PyProof.Rows
namespace SetW
section
variable {prog:Program}{w:World}{A:Around}{E:Value→Shared→Prop}{s:Shared}
theorem Aou{ks:List KS}{a:Addr}(hk:TK prog w s.heap ks a){Q:Bool→Shared→Prop}(h:∀ b,Q b s):wpAny (model prog w) A (hashByValue 8 (.ref a)) Q E s:=by
 have hT:=hk.typeIs
 obtain⟨o,items,n,ho,hc,hd,hi⟩:=hk
 unfold hashByValue
 refine wpAny_bind (wpAny_specialOf hT F.slot_tuple_hash.lookup ?_)
 dsimp only
 refine wpAny_bind (wpAny_seqItems ho hd ?_)
 refine wpAny_bind ?_
 show wpAny _ _ (forIn items _ _) _ _ s
 rw[← Array.forIn_toList]
 refine wpAny_forIn_list _ (fun rest r s'=>s'=s∧∀ v∈rest,carriedByValue v=true∧∃ k,isK k v=true) _ ?_ ?_ _ _ ⟨rfl,?_⟩
 ·rintro v rest r s' ⟨rfl,hall⟩
  obtain⟨_,k,hk⟩:=hall v AsR
  have nx:∀ u∈rest,carriedByValue u=true∧∃ k,isK k u=true:=fun u hu=>hall u (AsW _ hu)
  cases k with
  | inl i =>
   obtain⟨t,rfl⟩:=JQ hk
   refine wpAny_bind (wpAny_of_eq (a:=true) rfl ?_)
   rw[if_neg (by decide)]
   exact wpAny_pure ⟨rfl,nx⟩
  | inr x =>
   obtain⟨t,rfl⟩:=MT hk
   refine wpAny_bind (wpAny_of_eq (a:=false) rfl ?_)
   rw[if_pos (by decide)]
   exact wpAny_pure (wpAny_pure (h _))
 ·rintro⟨r1,r2⟩ s' ⟨rfl,_⟩
  cases r1 with
  | none=>exact wpAny_pure (h _)
  | some b=>exact wpAny_pure (h _)
 ·clear hd ho
  generalize items.toList=vs at hi
  induction hi with
  | nil=>intro v hv;cases hv
  | @cons k v ks vs h1 _ ih =>
   intro u hu
   rcases List.mem_cons.mp hu with rfl | hu
   ·exact⟨(Eg prog w).byValue _ _ h1,k,h1⟩
   ·exact ih u hu
theorem AkJ{M:Model}{es:Array (Int × Value)}{t':SetTable}{order:Array Nat}{Q:Array (Int × Value) × SetTable→Shared→Prop}(hs:(order.filterMap (es[·]?)).size=es.size)(g:Sem (Array (Int × Value) × SetTable))
  (hg:g=(do
   let some (t,order):=(some (t',order):Option (SetTable × Array Nat)) | unsupported "internal:set-table-without-room"
   let es':=order.filterMap (es[·]?)
   if es'.size != es.size then unsupported "internal:set-table-lost-an-element"
   pure (es',t))) (h:Q (order.filterMap (es[·]?),t') s):wpAny M A g Q E s:=by
 subst hg
 dsimp only
 rw[if_neg (by rw[hs];simp)]
 exact wpAny_pure h
theorem Amx{m n:Nat}(hm:Msk m)(h1:n*5<m*3)(h2:m*3≤(n+1)*5)(hb:n+1≤64):Msk (SetTable.sizeAbove (SetTable.grown (n+1))-1)∧n+1≤SetTable.sizeAbove (SetTable.grown (n+1))-1∧(n+1)*5<(SetTable.sizeAbove (SetTable.grown (n+1))-1)*3∧¬SetTable.sizeAbove (SetTable.grown (n+1))>sizeLine:=by
 rcases hm with e | e | e
 ·obtain rfl:n=4:=by omega
  refine⟨.inr (.inl (by decide)),by decide,by decide,?_⟩
  rw[sizeLine_eq];decide
 ·obtain rfl:n=18:=by omega
  refine⟨.inr (.inr (by decide)),by decide,by decide,?_⟩
  rw[sizeLine_eq];decide
 ·omega
theorem AhF{S:Addr}{o:Obj}{es:Array (Int × Value)}{ep:Nat}{t:SetTable}{h h':Heap}(ho:h.get? S=some o)(hd:o.data=.set es ep t)(sb:Heap.SameBut S h h'):∀ ks a,TK prog w h ks a→TK prog w h' ks a:=by
 rintro ks a ⟨o',items,n,ho',hc,hd',hi⟩
 have ne:a≠S:=fun e=>by
  rw[e,ho] at ho'
  injection ho' with ho'
  rw[ho',hd'] at hd
  cases hd
 exact⟨o',items,n,(sb.2 a ne).trans ho',hc,hd',hi⟩
open Classical in
noncomputable def kyT (prog:Program) (w:World) (h:Heap) (e:Int × Value):List KS:=if hx:∃ ks,EK prog w h e ks then Classical.choose hx else []
theorem EK.one{h:Heap}{e:Int × Value}{ks ks':List KS}(a:EK prog w h e ks)(b:EK prog w h e ks'):ks=ks':=by
 obtain⟨x,e1,t1,_⟩:=a
 obtain⟨y,e2,t2,_⟩:=b
 rw[e1] at e2
 injection e2 with e2
 subst e2
 exact IsTupleKey.inj t1 t2
theorem AhG{h:Heap}{e:Int × Value}{ks:List KS}(a:EK prog w h e ks):kyT prog w h e=ks:=by
 have hx:∃ ks,EK prog w h e ks:=⟨ks,a⟩
 unfold kyT
 rw[dif_pos hx]
 exact EK.one (Classical.choose_spec hx) a
theorem Ans{h:Heap}{es:Array (Int × Value)}{kl:List (List KS)}(len:kl.length=es.size)(el:∀(i:Nat) (e:Int × Value),es[i]?=some e→∃ ks,kl[i]?=some ks∧EK prog w h e ks):kl=es.toList.map (kyT prog w h):=by
 refine AtQ (by rw[AsH,Array.length_toList];exact len) fun i h1 h2=>?_
 have hi:i<es.size:=by rw[← len];exact h1
 obtain⟨ks,q1,q2⟩:=el i es[i] (Array.getElem?_eq_getElem hi)
 rw[AsJ h1] at q1
 injection q1 with q1
 rw[Auc]
 show kl[i]=kyT prog w h es[i]
 rw[AhG q2,q1]
theorem Amy{h:Heap}{es es':Array (Int × Value)}{kl:List (List KS)}(len:kl.length=es.size)(el:∀(i:Nat) (e:Int × Value),es[i]?=some e→∃ ks,kl[i]?=some ks∧EK prog w h e ks)(nd:kl.Nodup)(p:es'.toList.Perm es.toList) :
  ∃ kl':List (List KS),kl'.length=es'.size∧(∀(i:Nat) (e:Int × Value),es'[i]?=some e→∃ ks,kl'[i]?=some ks∧EK prog w h e ks)∧kl'.Nodup∧∀ z,z∈kl'↔z∈kl:=by
 have e0:=Ans len el
 refine⟨es'.toList.map (kyT prog w h),by rw[AsH,Array.length_toList],fun i e he=>?_,?_,fun z=>?_⟩
 ·have hm:e∈es.toList:=p.mem_iff.mp (AsS (by rw[Array.getElem?_toList];exact he))
  obtain⟨i0,hi0,ei0⟩:=Atl hm
  obtain⟨ks,_,q⟩:=el i0 e (by rw[← Array.getElem?_toList,AsJ hi0,ei0])
  refine⟨ks,?_,q⟩
  rw[AsU,Array.getElem?_toList,he]
  show some (kyT prog w h e)=some ks
  rw[AhG q]
 ·refine(p.map _).nodup_iff.mpr ?_
  rw[← e0];exact nd
 ·rw[(p.map _).mem_iff,← e0]
theorem Aov{kl:List (List KS)}{p:Nat}{ks:List KS}(nd:kl.Nodup)(h:ks∉kl):(kl.take p++ks::kl.drop p).Nodup∧∀ z,z∈kl.take p++ks::kl.drop p↔z∈kl∨z=ks:=by
 have pm:(kl.take p++ks::kl.drop p).Perm (ks::kl):=by
  refine(Au3).trans ?_
  rw[AtN]
 refine⟨pm.nodup_iff.mpr (List.nodup_cons.mpr ⟨h,nd⟩),fun z=>?_⟩
 rw[pm.mem_iff,Ata]
 exact Or.comm
theorem Aow{S a:Addr}{o:Obj}{es:Array (Int × Value)}{ep:Nat}{t:SetTable}{kl:List (List KS)}{ks:List KS}(T:TS prog w s.heap o es ep t kl)(ho:s.heap.get? S=some o)(hu:A.units<cLine)(ha:TK prog w s.heap ks a)(hb:es.size+1≤64){Q:Bool→Shared→Prop}
  (hQ:∀ h' o' es' ep' t' kl' b,Heap.SameBut S s.heap h'→h'.get? S=some o'→TS prog w h' o' es' ep' t' kl'→(∀ z,z∈kl'↔z∈kl∨z=ks)→es'.size≤es.size+1→(∀ e∈es'.toList,e∈es.toList∨e.2=.ref a)→Q b { s with heap:=h' }) :
  wpAny (model prog w) A (setAddHashed S (.ref a) (tupleKeyHash (Eg prog w) ks)) Q E s:=by
 obtain⟨N,hNl,hN⟩:=T.tb.stop (tupleKeyHash (Eg prog w) ks)
 unfold setAddHashed setAddHashedIn
 refine wpAny_holding (wpAny_bind (wpAny_setState_of ho T.d T.tb.fits ?_))
 dsimp only
 rw[if_neg (by show ¬(false && _ && _)=true;simp)]
 have turns:10*SetTable.turns t.mask≤5000:=by
  unfold SetTable.turns
  rcases T.tb.msk with e | e | e <;> rw[e] <;> decide
 refine wpAny_bind ?_
 unfold setSearch
 refine AeS T ho hu ha hN hNl (fun hnk n he Are=>?_) (fun hk=>?_) 100000 0 none (AsM _) (by omega) rfl (fun n' h=>by omega)
 ·obtain⟨J,hJ⟩:∃ J,J=(pth t (tupleKeyHash (Eg prog w) ks) n).j:=⟨_,rfl⟩
  have hf1:es.size+1≤t.mask:=by
   have:=T.few
   rcases T.tb.msk with e | e | e <;> rw[e] at this ⊢ <;> omega
  have put:=fun pl=>T.tb.put (x:=.ref a) he Are hf1 pl
  rw[← hJ] at put ⊢
  obtain⟨hh,ehh⟩:∃ hh,hh=tupleKeyHash (Eg prog w) ks:=⟨_,rfl⟩
  rw[← ehh] at put ⊢
  obtain⟨p,hp⟩:∃ p,p=(t.put J).2:=⟨_,rfl⟩
  have pl0:p≤es.size:=by
   rw[hp,← T.tb.sz]
   exact(R1 T.tb.rise J).1
  obtain⟨es1,e1⟩:∃ es1,es1=SetTable.insertAt es (t.put J).2 (hh,.ref a):=⟨_,rfl⟩
  have sz1:es1.size=es.size+1:=by rw[e1];exact Aar _ _ _
  have g1:∀ i:Nat,es1[i]?=if i<p then es[i]? else if i=p then some (hh,.ref a) else es[i-1]?:=fun i=>by rw[e1,← hp];exact Aaf es pl0 _ i
  obtain⟨nd1,mm1⟩:=Aov (p:=p) T.nd hnk
  obtain⟨kl1,ekl⟩:∃ kl1,kl1=kl.take p++ks::kl.drop p:=⟨_,rfl⟩
  rw[← ekl] at nd1 mm1
  have AkK:kl1.length=es1.size:=by
   rw[ekl,sz1,AsN,Atf,Atd,Atg,T.len]
   omega
  have k1:∀ i:Nat,kl1[i]?=if i<p then kl[i]? else if i=p then some ks else kl[i-1]?:=fun i=>by
   have:=Aaf kl.toArray (p:=p) (by rw[AsK,T.len];exact pl0) ks i
   rw[← Array.getElem?_toList,Aaq] at this
   rw[ekl]
   simpa using this
  have el1:∀(h':Heap),(∀ ks a,TK prog w s.heap ks a→TK prog w h' ks a)→∀(i:Nat) (e:Int × Value),es1[i]?=some e→∃ ks,kl1[i]?=some ks∧EK prog w h' e ks:=fun h' kp i e hie=>by
   have old:∀ i0:Nat,es[i0]?=some e→∃ ks,kl[i0]?=some ks∧EK prog w h' e ks:=fun i0 q=>by
    obtain⟨ks0,q1,a0,q2,q3,q4⟩:=T.el i0 e q
    exact⟨ks0,q1,a0,q2,kp _ _ q3,q4⟩
   rw[g1] at hie
   rw[k1]
   by_cases c1:i<p
   ·rw[if_pos c1] at hie ⊢
    exact old i hie
   ·rw[if_neg c1] at hie ⊢
    by_cases c2:i=p
    ·rw[if_pos c2] at hie ⊢
     injection hie with hie
     subst hie
     exact⟨ks,rfl,a,rfl,kp _ _ ha,ehh⟩
    ·rw[if_neg c2] at hie ⊢
     exact old (i-1) hie
  have ApQ:∀ e∈es1.toList,e∈es.toList∨e.2=.ref a:=fun e hm=>by
   rw[e1,Aaq] at hm
   rcases List.mem_append.mp hm with h | h
   ·exact .inl (Aur h)
   ·rcases List.mem_cons.mp h with h | h
    ·rw[h];exact .inr rfl
    ·exact .inl (AtR h)
  have fin:∀ t1:SetTable,(∃ pl,t1={ (t.put J).1 with plain:=pl })→wpAny (model prog w) A (do
    storeSet S es1 t1
    if !false && t1.tooFull then setRelay S (SetTable.grown (es.size+1))
    return true) Q E s:=by
   rintro t1 ⟨pl,et1⟩
   have tb1:Tb t1 es1:=by rw[et1,e1];exact put pl
   have m1:t1.mask=t.mask:=by rw[et1];rfl
   have l1:t1.led=t.led:=by rw[et1];rfl
   have ok1:w.params.followText "set-order" = true∨t1.led=true:=by rw[l1];exact T.ok
   refine wpAny_bind (wpAny_storeSet_of ho T.d ?_ (fits_of_scanBound (by rw[sz1];show _<4096;omega)))
   have gg:=AcP (es':=es1) (t':=t1) ho T.d
   have sb1:=Heap.SameBut.update s.heap S (Obj.putSet es1 t1)
   have kp1:=AhF (prog:=prog) (w:=w) ho T.d sb1
   by_cases tf:t1.tooFull=true
   ·rw[if_pos (by rw[tf];rfl)]
    have Arf:t.mask*3≤(es.size+1)*5:=by
     unfold SetTable.tooFull SetTable.fill at tf
     rw[tb1.nod,tb1.sz,m1,sz1] at tf
     have tf:=of_decide_eq_true tf
     have tf:(es.size+1+0)*5 ≥ t.mask*3:=tf
     omega
    obtain⟨gm,gk,gf,gs⟩:=Amx T.tb.msk T.few Arf hb
    obtain⟨t2,order,eL,hsz,hpm,tb2,tm2,tl2,_,_,_⟩:=Amv (finger:=t1.finger) (moves:=t1.movedTo (SetTable.sizeAbove (SetTable.grown (es.size+1))-1)) (led:=t1.led) (plain:=t1.plain) gm (es:=es1) (by rw[sz1];exact gk)
    have eR:t1.relaid (es1.map (·.1)) (SetTable.grown (es.size+1))=some (t2,order):=eL
    refine wpAny_bind ?_
    unfold setRelay
    refine wpAny_bind (wpAny_setState_of (s:={ s with heap:=s.heap.update S (Obj.putSet es1 t1) }) gg rfl tb1.fits ?_)
    dsimp only
    rw[if_neg gs,eR]
    refine wpAny_bind (AkJ hsz _ rfl ?_)
    dsimp only
    obtain⟨es2,e2⟩:∃ es2,es2=order.filterMap (es1[·]?):=⟨_,rfl⟩
    rw[← e2] at hsz hpm tb2 ⊢
    refine wpAny_storeSet_of (s:={ s with heap:=s.heap.update S (Obj.putSet es1 t1) }) gg rfl ?_ (fits_of_scanBound (by rw[hsz,sz1];show _<4096;omega))
    have gg2:=AcP (s:={ s with heap:=s.heap.update S (Obj.putSet es1 t1) }) (es':=es2) (t':=t2) gg rfl
    have sb2:=sb1.trans (Heap.SameBut.update _ S (Obj.putSet es2 t2))
    have kp2:=AhF (prog:=prog) (w:=w) ho T.d sb2
    obtain⟨kl2,Amz,el2,nd2,mm2⟩:=Amy AkK (el1 _ kp2) nd1 hpm
    exact wpAny_pure (hQ _ _ es2 (ep+1+1) t2 kl2 true sb2 gg2 ⟨T.ex,rfl,tb2,by rw[hsz,sz1,tm2];exact gf,by rw[tl2];exact ok1,Amz,el2,nd2⟩ (fun z=>by rw[mm2 z];exact mm1 z) (by rw[hsz,sz1];exact AsI _) fun e he=>ApQ e (hpm.mem_iff.mp he))
   ·rw[if_neg (by simpa using tf)]
    have Arh:es1.size*5<t1.mask*3:=by
     have:¬(t1.fill*5 ≥ t1.mask*3):=fun z=>tf (by unfold SetTable.tooFull;exact decide_eq_true z)
     unfold SetTable.fill at this
     rw[tb1.nod,tb1.sz] at this
     have:¬((es1.size+0)*5 ≥ t1.mask*3):=this
     omega
    exact wpAny_pure (hQ _ _ es1 (ep+1) t1 kl1 true sb1 gg ⟨T.ex,rfl,tb1,Arh,ok1,AkK,el1 _ kp1,nd1⟩ mm1 (by rw[sz1];exact AsI _) ApQ)
  dsimp only
  refine wpAny_bind (wpAny_setState_of ho T.d T.tb.fits ?_)
  dsimp only
  rw[← e1]
  split
  ·refine wpAny_bind (Aou ha fun b=>?_)
   cases b with
   | true=>exact fin _ ⟨(t.put J).1.plain,rfl⟩
   | false=>exact fin _ ⟨false,rfl⟩
  ·exact fin _ ⟨(t.put J).1.plain,rfl⟩
 ·dsimp only
  have:=hQ s.heap o es ep t kl false (Heap.SameBut.refl S s.heap) ho T (fun z=>⟨.inl,fun q=>q.elim id fun e=>e▸hk⟩) (Atj _) fun e h=>.inl h
  exact wpAny_pure this
end
end SetW
open PySem PySem.Spec PyProof.Rows
namespace SetW
section
variable {prog:Program}{w:World}{A:Around}{E:Value→Shared→Prop}{s:Shared}
theorem Tb.fresh(led:Bool):Tb (.fresh 0 0 led) #[]:=by
 refine⟨rfl,fun i k h1 h2=>?_,rfl,fun i j h=>?_,.inl rfl,(by show 0≤7;decide),fun i j e h=>?_⟩
 ·simp[SetTable.fresh] at h2
 ·simp[SetTable.fresh] at h
 ·simp[SetTable.fresh] at h
theorem TS.fresh(h:Heap):TS prog w h (frs w) #[] 0 (.fresh 0 0 (!w.params.followText "set-order")) []:=by
 refine⟨⟨rfl,rfl,rfl⟩,rfl,Tb.fresh _,by show 0*5<7*3;decide,?_,rfl,fun i e he=>?_,List.nodup_nil⟩
 ·by_cases h:w.params.followText "set-order" = true
  ·exact .inl h
  ·exact .inr (by simpa [SetTable.fresh] using h)
 ·simp at he
theorem TS.wk{h:Heap}{o:Obj}{es:Array (Int × Value)}{ep:Nat}{t:SetTable}{kl:List (List KS)}(T:TS prog w h o es ep t kl):Wk w o es ep t:=⟨T.ex,T.d,T.tb.fits,T.ok.elim .inl fun z=>.inr (.inr ⟨z,fun _=>T.tb.rise⟩)⟩
theorem Am0{I:Addr}{fp wr:List Addr}{G:Array GenState→Array GenState→Prop}{n:Nat}{P:Nat→Value→Prop}{St:Nat→Shared→Prop}{R:Result→Shared→Prop}(W:WalksS prog w A.in1 I fp wr G n P St)(hu:A.in1.units<cLine)(S:Addr)(hSf:S∉fp)
  (val:Nat→Addr) (key:Nat→List KS) (hval:∀ i v,P i v→v=.ref (val i)) (hvw:∀ i,i<n→val i∉wr) (h64:∀ l:List (List KS),l.Nodup→(∀ z∈l,∃ j,j<n∧key j=z)→l.length<64):∀(k i:Nat) (s:Shared) (o:Obj) (es:Array (Int × Value)) (ep:Nat) (t:SetTable) (kl:List (List KS)),n-i=k→i≤n→St i s→s.heap.get? S=some o→TS prog w s.heap o es ep t kl →
   (∀ j,j<n→TK prog w s.heap (key j) (val j))→(∀ z,z∈kl↔∃ j,j<i∧key j=z)→(∀ e∈es.toList,∃ j,j<n∧e.2=.ref (val j)) →
   (∀ s' o' es' ep' t' kl',Moved (S::wr) G s s'→s'.heap.get? S=some o'→TS prog w s'.heap o' es' ep' t' kl'→(∀ z,z∈kl'↔∃ j,j<n∧key j=z)→(∀ e∈es'.toList,∃ j,j<n∧e.2=.ref (val j))→R (.ok (.ret .none)) s') →
   codeAny (model prog w) A (.builtin "set.update.loop" ⟨[.ref S,.ref I],[]⟩) R s:=by
 have hSw:S∉wr:=fun h=>hSf (W.sub _ h)
 have hsub:∀ b∈wr,b∈S::wr:=fun b hb=>AsW _ hb
 have mvT:∀{s s':Shared},Moved wr G s s'→∀ ks a,a∉wr→TK prog w s.heap ks a→TK prog w s'.heap ks a:=fun mv ks a hw ⟨o',items,n',ho',r⟩=>⟨o',items,n',mv.heap a _ hw ho',r⟩
 intro k
 induction k with
 | zero =>
  intro i s o es ep t kl hk hi hst ho hS hT hm hp hR
  obtain rfl:i=n:=by omega
  refine codeAny_builtin PyProof.Rows.F.entry_set_update_loop ?_
  rw[Around.under_plainId PyProof.Rows.F.plain_set_update_loop _]
  show wpAny _ A.in1 (pyNext (.ref I) >>= _) _ _ s
  refine wpAny_bind (W.done s _ _ hst fun s' mv=>?_)
  show wpAny _ A.in1 (ret Value.none) _ _ s'
  refine wpAny_pure (hR s' o es ep t kl (mv.mono hsub) (mv.heap S _ hSw ho) ?_ hm hp)
  refine⟨hS.ex,hS.d,hS.tb,hS.few,hS.ok,hS.len,fun i e he=>?_,hS.nd⟩
  obtain⟨ks,q1,a,q2,q3,q4⟩:=hS.el i e he
  obtain⟨j,hj,ej⟩:=hp e (AsS (by rw[Array.getElem?_toList];exact he))
  rw[q2] at ej
  injection ej with ej
  exact⟨ks,q1,a,q2,mvT mv _ _ (by rw[ej];exact hvw j hj) q3,q4⟩
 | succ k ih =>
  intro i s o es ep t kl hk hi hst ho hS hT hm hp hR
  have hlt:i<n:=by omega
  refine codeAny_builtin PyProof.Rows.F.entry_set_update_loop ?_
  rw[Around.under_plainId PyProof.Rows.F.plain_set_update_loop _]
  show wpAny _ A.in1 (pyNext (.ref I) >>= _) _ _ s
  refine wpAny_bind (W.item i s _ _ hlt hst fun v s' hP hst' mv=>?_)
  obtain rfl:=hval i v hP
  have hS1:TS prog w s'.heap o es ep t kl:=by
   refine⟨hS.ex,hS.d,hS.tb,hS.few,hS.ok,hS.len,fun i e he=>?_,hS.nd⟩
   obtain⟨ks,q1,a,q2,q3,q4⟩:=hS.el i e he
   obtain⟨j,hj,ej⟩:=hp e (AsS (by rw[Array.getElem?_toList];exact he))
   rw[q2] at ej
   injection ej with ej
   exact⟨ks,q1,a,q2,mvT mv _ _ (by rw[ej];exact hvw j hj) q3,q4⟩
  have hT1:∀ j,j<n→TK prog w s'.heap (key j) (val j):=fun j hj=>mvT mv _ _ (hvw j hj) (hT j hj)
  have ho1:=mv.heap S _ hSw ho
  have AsA:es.size<64:=by
   rw[← hS.len]
   exact h64 kl hS.nd fun z hz=>by
    obtain⟨j,hj,e⟩:=(hm z).mp hz
    exact⟨j,by omega,e⟩
  show wpAny _ A.in1 (holding [Value.ref (val i)] (setAdd S (.ref (val i))) >>= _) _ _ s'
  refine wpAny_bind (wpAny_holding ?_)
  unfold setAdd
  refine wpAny_holding (wpAny_bind (wpAny_pyHash_tuple hu (hT1 i hlt) ?_))
  refine Aow (s:={ s' with toks:=s'.toks+((key i).length+1) }) hS1 ho1 hu (hT1 i hlt) (by omega) fun h' o' es' ep' t' kl' b sb ho' hS' hm' hz' hp'=>?_
  have sbk:=AhF (prog:=prog) (w:=w) ho1 hS.d sb
  refine wpAny_pure ⟨plainId_quiet PyProof.Rows.F.plain_set_update_loop _,ih (i+1) _ o' es' ep' t' kl' (by omega) hlt (W.frame _ s' _ _ hst' (Au7 _ _) fun b hb ob e=>?_) ho' hS' (fun j hj=>sbk _ _ (hT1 j hj)) (fun z=>?_) (fun e he=>?_) fun s'' o2 es2 ep2 t2 kl2 mv2 ho2 hS2 hm2 hp2=>?_⟩
  ·rw[sb.2 b (fun h:b=S=>hSf (by rw[← h];exact hb))];exact e
  ·rw[hm' z,hm z]
   constructor
   ·rintro(⟨j,hj,e⟩ | e)
    ·exact⟨j,by omega,e⟩
    ·exact⟨i,by omega,e.symm⟩
   ·rintro⟨j,hj,e⟩
    by_cases c:j=i
    ·exact .inr (by rw[← e,c])
    ·exact .inl ⟨j,by omega,e⟩
  ·rcases hp' e he with h | h
   ·exact hp e h
   ·exact⟨i,hlt,h⟩
  ·refine hR s'' o2 es2 ep2 t2 kl2 (Moved.trans W.gtrans ((mv.mono hsub).then_heap (Au7 _ _) fun b ob hb e=>?_) mv2) ho2 hS2 hm2 hp2
   rw[sb.2 b (fun h:b=S=>hb (by rw[h];exact AsR))];exact e
end
end SetW
open PySem PySem.Spec PyProof.Rows
namespace SetW
section
variable {prog:Program}{w:World}{A:Around}{E:Value→Shared→Prop}{s:Shared}
set_option maxHeartbeats 4000000 in
theorem Am1{l:Addr}{items:Array Value}{val:Nat→Addr}{key:Nat→List KS}{Q:Value→Shared→Prop}(hh:A.handled=none)(hu:A.units+100<cLine)(hl:s.heap.IsList l items)(hi:∀(i:Nat) (v:Value),items[i]?=some v→v=.ref (val i))(hk:∀ j,j<items.size→TK prog w s.heap (key j) (val j))(h64:∀ l:List (List KS),l.Nodup→(∀ z∈l,∃ j,j<items.size∧key j=z)→l.length<64)
  (h:∀(h':Heap) (tk:Nat) o es ep t kl,h'.get? s.heap.objs.size=some o→TS prog w h' o es ep t kl→(∀ z,z∈kl↔∃ j,j<items.size∧key j=z)→(∀ e∈es.toList,∃ j,j<items.size∧e.2=.ref (val j)) →
   (∀ b o,s.heap.get? b=some o→h'.get? b=some o)→Q (.ref s.heap.objs.size) { s with heap:=h',toks:=tk }):wpAny (model prog w) A (call (.type "set") [.ref l]) Q E s:=by
 obtain⟨c,tl,hmro⟩:=PySem.F.called_set.mro
 have hmade:=PySem.F.called_set.made
 have hsub:=PySem.F.called_set.sub
 refine wpAny_call (codeAny_of_tree ?_)
 show wpAny _ _ (callAny (.type "set") _) _ _ _
 refine wpAny_pure ⟨Code.quiet_builtin _ (by decide +kernel),codeAny_builtin PySem.F.entry_type_call ?_⟩
 rw[Around.under_plain (weight_type_call_type "set" [.ref l] []) rfl]
 have h1:=PySem.F.called_set.notType
 have h2:=PySem.F.called_set.canCreate
 have hct:=PySem.F.typeCall_set_1 (.ref l)
 repeat (any_goals (first | assumption | wp_step))
 refine codeAny_mono (AkA (.ref l) (E:=E) (Q₁:=fun obj s₁=>obj=.ref s.heap.objs.size∧s₁={ s with heap:=s.heap.push (frs w) }) ⟨rfl,rfl⟩) fun r s₁ hr=>?_
 cases r with
 | error e=>exact hr
 | ok fl =>
  cases fl with
  | ret obj =>
   obtain⟨rfl,rfl⟩:=hr
   have hS:(s.heap.push (frs w)).get? s.heap.objs.size=some (frs w):=Heap.get?_push_size _ rfl
   have hT:Shared.TypeIs { s with heap:=s.heap.push (frs w) } (.ref s.heap.objs.size) "set" := ⟨_,hS,rfl⟩
   have hli:=PySem.F.called_set.init.lookup
   have hbi:=PySem.F.called_set.init.bind (.ref s.heap.objs.size)
   repeat (any_goals (first | assumption | wp_step))
   refine codeAny_mono (codeAny_call_builtin (R:=wants (fun r s₂=>r=.none∧∃ h' tk o es ep t kl,s₂={ s with heap:=h',toks:=tk }∧h'.get? s.heap.objs.size=some o∧TS prog w h' o es ep t kl∧(∀ z,z∈kl↔∃ j,j<items.size∧key j=z)∧(∀ e∈es.toList,∃ j,j<items.size∧e.2=.ref (val j)) ∧
     (∀ b o,s.heap.get? b=some o→h'.get? b=some o)) E) PySem.F.called_set.init.plain PySem.F.entry_set_init (check_set_init_1 hT ?_)) fun r₂ s₂ hr₂=>?_
   ·obtain⟨ol,hol,hcl,nl,hdl⟩:=hl
    obtain⟨ocls,odict,odata,oslots⟩:=ol
    simp only at hcl hdl
    subst hcl hdl
    have hlS:l<s.heap.objs.size:=Heap.lt_size hol
    obtain⟨h1,eh1⟩:∃ h1,h1=s.heap.push (frs w):=⟨_,rfl⟩
    have z1:h1.objs.size=s.heap.objs.size+1:=by rw[eh1,Heap.size_push]
    have k1:∀ b ob,s.heap.get? b=some ob→h1.get? b=some ob:=fun b ob e=>by rw[eh1];exact Heap.get?_push_of_some _ e
    rw[← eh1] at hS hT ⊢
    have hol':=k1 _ _ hol
    have hl1:h1.IsList l items:=⟨_,hol',rfl,nl,rfl⟩
    have hsls:=PySem.F.sub_list_set
    have hslf:=PySem.F.sub_list_frozenset
    have hne:(Value.type "list" == Value.type "dict")=false:=by decide
    have hS':h1.get? s.heap.objs.size=some { cls:=.type "set", dict:=none,data:=.set #[] 0 (.fresh 0 0 (!w.params.followText "set-order")) }:=hS
    unfold Builtin.«set.__init__» noKeywords Builtin.Frozenset.updateFrom
    generalize hPI:pyIter=PI
    wp_walk
    subst hPI
    refine wpAny_pyIter_list hl1 ?_
    obtain⟨h2,eh2⟩:∃ h2,h2=h1.push { cls:=.type "list_iterator", data:=.fields #[.ref l,.int 0 0] }:=⟨_,rfl⟩
    show wpAny _ _ _ _ _ { s with heap:=h1.push { cls:=.type "list_iterator", data:=.fields #[.ref l,.int 0 0] } }
    rw[← eh2]
    have k2:∀ b ob,h1.get? b=some ob→h2.get? b=some ob:=fun b ob e=>by rw[eh2];exact Heap.get?_push_of_some _ e
    have hit2:h2.IsListIter h1.objs.size l 0:=by rw[eh2];exact⟨_,Heap.get?_push_size _ rfl,rfl,rfl⟩
    have hl2:h2.IsList l items:=⟨_,k2 _ _ hol',rfl,nl,rfl⟩
    refine wpAny_bind (wpAny_runValue ?_)
    have hh3:A.in1.in1.in1.handled=none:=by simp[hh]
    have hneI:l≠h1.objs.size:=by rw[z1];exact AsL (Atz hlS)
    have hSf:s.heap.objs.size∉[h1.objs.size,l]:=by
     simp only [Ata,Atb,or_false,not_or]
     exact⟨by rw[z1];exact AsL (At5 _),Ato hlS⟩
    have tk2:∀ j,j<items.size→TK prog w h2 (key j) (val j):=fun j hj=>by
     obtain⟨o',its',n',q1,r⟩:=hk j hj
     exact⟨o',its',n',k2 _ _ (k1 _ _ q1),r⟩
    have vw:∀ j,j<items.size→val j∉[h1.objs.size]:=fun j hj=>by
     obtain⟨o',its',n',q1,r⟩:=hk j hj
     have:=Heap.lt_size q1
     simp only [Ata,Atb,or_false]
     rw[z1]
     exact AsL (Atz this)
    refine Am0 ((Walks.list hh3 h1.objs.size l hneI items).toS) (by show A.units+1+1+1<cLine;omega) s.heap.objs.size hSf val key (fun i v hv=>hi i v hv) vw h64 (items.size-0) 0 _ _ #[] 0 _ [] (by omega) (AsM _) ⟨hit2,hl2⟩ (k2 _ _ hS') (TS.fresh _) tk2 (fun z=>by simp) (fun e he=>by simp at he) fun s' o es ep t kl mv ho hI hm hp=>?_
    obtain⟨h',g',d',tk',os'⟩:=s'
    have eg:g'=s.gens:=mv.gens
    have ed:d'=s.drawn:=mv.drawn
    have eo:os'=s.os:=mv.os
    subst eg ed eo
    show wpAny _ _ _ _ _ _
    refine wpAny_pure ?_
    show wpAny _ _ (ret Value.none) _ _ _
    refine wpAny_pure ⟨rfl,h',tk',o,es,ep,t,kl,rfl,ho,hI,hm,hp,fun b ob e=>?_⟩
    have lb:=Heap.lt_size e
    refine mv.heap b ob ?_ (k2 _ _ (k1 _ _ e))
    simp only [Ata,Atb,or_false,not_or]
    exact⟨AsL lb,by rw[z1];exact AsL (Atz lb)⟩
   ·cases r₂ with
    | error e=>exact hr₂
    | ok fl₂ =>
     cases fl₂ with
     | ret r =>
      obtain⟨rfl,h',tk,o,es,ep,t,kl,rfl,a1,a2,a3,a4,a5⟩:=hr₂
      repeat (any_goals (first | assumption | wp_step))
      exact h _ _ o es ep t kl a1 a2 a3 a4 a5
     | _=>exact hr₂.elim
  | _=>exact hr.elim
end
end SetW
open PySem PySem.W PySem.Spec PyProof.Rows
namespace SetW
def Up (lt:Nat→Nat→Bool)(p:Array Nat)(k:Nat):Prop:=∀ i j,i<j→j<k→lt (p.getD i 0) (p.getD j 0)=true
def Pm (n:Nat)(p:Array Nat):Prop:=p.toList.Perm (List.range n)
theorem Pm.size{n:Nat}{p:Array Nat}(h:Pm n p):p.size=n:=by rw[← Array.length_toList,h.length_eq,AsQ]
theorem Pm.lt{n i:Nat}{p:Array Nat}(h:Pm n p)(hi:i<n):p.getD i 0<n:=by
 have hs:i<p.size:=by rw[h.size];exact hi
 have e:p.getD i 0=p[i]:=by simp[Array.getD,hs]
 rw[e]
 exact List.mem_range.mp (h.mem_iff.mp (by rw[Array.mem_toList_iff];exact Array.getElem_mem hs))
theorem Pm.ne{n i j:Nat}{p:Array Nat}(h:Pm n p)(hi:i<n)(hj:j<n)(ne:i≠j):p.getD i 0≠p.getD j 0:=fun e=>by
 have nd:p.toList.Nodup:=h.nodup_iff.mpr Au6
 have hs:=h.size
 have e1:p.getD i 0=p.toList[i]'(by rw[Array.length_toList,hs];exact hi):=by simp[Array.getD,hs,hi]
 have e2:p.getD j 0=p.toList[j]'(by rw[Array.length_toList,hs];exact hj):=by simp[Array.getD,hs,hj]
 rw[e1,e2] at e
 exact ne ((List.getElem_inj nd).mp e)
structure Cp (n:Nat) (lt:Nat→Nat→Bool) (cmp:Nat→Nat→(Bool→Shared→Prop)→Shared→Prop) (I:Shared→Prop):Prop where
 ans:∀ i j C s,i<n→j<n→i≠j→I s→C (lt i j) s→cmp i j C s
 tr:∀ i j k,lt i j=true→lt j k=true→lt i k=true
 tot:∀ i j,i<n→j<n→i≠j→lt i j=!lt j i
section
variable {n:Nat}{lt:Nat→Nat→Bool}{cmp:Nat→Nat→(Bool→Shared→Prop)→Shared→Prop}{I:Shared→Prop}{s:Shared}
theorem Am2{p:Array Nat}{k:Nat}(C:Cp n lt cmp I)(P:Pm n p)(hk:k<n)(k1:1≤k)(U:Up lt p k)(h:lt (p.getD k 0) (p.getD (k-1) 0)=false):Up lt p (k+1):=fun i j hij hj=>by
 by_cases c:j<k
 ·exact U i j hij c
 ·have e:j=k:=by omega
  subst e
  have l:lt (p.getD (j-1) 0) (p.getD j 0)=true:=by
   rw[C.tot _ _ (P.lt (by omega)) (P.lt hk) (P.ne (by omega) hk (by omega)),h];rfl
  by_cases c2:i=j-1
  ·rw[c2];exact l
  ·exact C.tr _ _ _ (U i (j-1) (by omega) (by omega)) l
theorem AhH(C:Cp n lt cmp I)(hs:I s){p:Array Nat}(P:Pm n p){Q:Nat→Shared→Prop}:∀(f k:Nat),1≤k→k+f=n→Up lt p k→(∀ m,k≤m→m≤n→Up lt p m→(m<n→lt (p.getD m 0) (p.getD (m-1) 0)=true)→Q m s)→(kas_asc p f k).kasWp cmp Q s
 | 0,k,k1,e,U,h=>h k (AsI _) (by omega) U fun z=>by omega
 | f+1,k,k1,e,U,h=>by
  show cmp (p.getD k 0) (p.getD (k-1) 0) _ s
  refine C.ans _ _ _ s (P.lt (by omega)) (P.lt (by omega)) (P.ne (by omega) (by omega) (by omega)) hs ?_
  cases c:lt (p.getD k 0) (p.getD (k-1) 0) with
  | true=>exact h k (AsI _) (by omega) U fun _=>c
  | false=>exact AhH C hs P f (k+1) (by omega) (by omega) (Am2 C P (by omega) k1 U c) fun m m1 m2 m3 m4=>h m (by omega) m2 m3 m4
def Dn (lt:Nat→Nat→Bool)(p:Array Nat)(k:Nat):Prop:=∀ i j,i<j→j<k→lt (p.getD j 0) (p.getD i 0)=true
theorem AiA{p:Array Nat}{k:Nat}(C:Cp n lt cmp I)(U:Dn lt p k)(k1:1≤k)(h:lt (p.getD k 0) (p.getD (k-1) 0)=true):Dn lt p (k+1):=fun i j hij hj=>by
 by_cases c:j<k
 ·exact U i j hij c
 ·have e:j=k:=by omega
  subst e
  by_cases c2:i=j-1
  ·rw[c2];exact h
  ·exact C.tr _ _ _ h (U i (j-1) (by omega) (by omega))
theorem AiB(C:Cp n lt cmp I)(hs:I s){p:Array Nat}(P:Pm n p){Q:Array Nat × Nat × Nat→Shared→Prop}:∀(f k:Nat),1≤k→k+f=n→Dn lt p k→(∀ m,k≤m→m≤n→Dn lt p m→Q (p,m,0) s)→(kas_desc f p k 0).kasWp cmp Q s
 | 0,k,k1,e,U,h=>h k (AsI _) (by omega) U
 | f+1,k,k1,e,U,h=>by
  show cmp (p.getD k 0) (p.getD (k-1) 0) _ s
  have ne:=P.ne (i:=k) (j:=k-1) (by omega) (by omega) (by omega)
  refine C.ans _ _ _ s (P.lt (by omega)) (P.lt (by omega)) ne hs ?_
  cases c:lt (p.getD k 0) (p.getD (k-1) 0) with
  | true=>exact AiB C hs P f (k+1) (by omega) (by omega) (AiA C U k1 c) fun m m1 m2 m3=>h m (by omega) m2 m3
  | false =>
   show cmp (p.getD (k-1) 0) (p.getD k 0) _ s
   refine C.ans _ _ _ s (P.lt (by omega)) (P.lt (by omega)) ne.symm hs ?_
   have d:lt (p.getD (k-1) 0) (p.getD k 0)=true:=by
    rw[C.tot _ _ (P.lt (by omega)) (P.lt (by omega)) ne.symm,c];rfl
   rw[d]
   exact h k (AsI _) (by omega) U
theorem AcR{p q:Array Nat}{i j:Nat}(h:p[i]?=q[j]?):p.getD i 0=q.getD j 0:=by rw[Array.getD_eq_getD_getElem?,Array.getD_eq_getD_getElem?,h]
theorem AkL{p:Array Nat}{m:Nat}(P:Pm n p):Pm n (kas_rev p 0 m):=(Array.perm_iff_toList_perm.mp (mirror_perm p 0 m _)).trans P
theorem Aox{p:Array Nat}{m:Nat}(P:Pm n p)(hm:m≤n)(D:Dn lt p m):Up lt (kas_rev p 0 m) m:=fun i j hij hj=>by
 have g:∀ k,k<m→(kas_rev p 0 m).getD k 0=p.getD (m-1-k) 0:=fun k hk=>by
  have e:=getElem?_mirror_all (xs:=p) (i:=0) (j:=m) (by rw[P.size];exact hm) k
  rw[if_pos ⟨AsM _,hk⟩,AtM] at e
  exact AcR e
 rw[g i (by omega),g j hj]
 exact D _ _ (by omega) (by omega)
theorem Am3(C:Cp n lt cmp I)(hs:I s){p:Array Nat}(P:Pm n p){m:Nat}(m1:1≤m)(hm:m≤n)(D:Dn lt p m){Q:Nat × Array Nat→Shared→Prop}(h:∀ k q,1≤k→k≤n→Pm n q→Up lt q k→Q (k,q) s):(kas_tail3 m n p).kasWp cmp Q s:=by
 unfold kas_tail3
 rw[KasT.kasWp_bind]
 exact AhH C hs (AkL P) (n-m) m m1 (by omega) (Aox P hm D) fun k k1 k2 k3 _=>h k _ (by omega) k2 (AkL P) k3
theorem AkM(C:Cp n lt cmp I)(hs:I s)(n2:2≤n){p:Array Nat}(P:Pm n p){Q:Nat × Array Nat→Shared→Prop}(h:∀ k q,1≤k→k≤n→Pm n q→Up lt q k→Q (k,q) s):(kas_count n p).kasWp cmp Q s:=by
 unfold kas_count
 rw[KasT.kasWp_bind]
 refine AhH C hs P (n-1) 1 (AsI _) (by omega) (fun i j h1 h2=>by omega) fun m m1 m2 m3 m4=>?_
 by_cases e:m=n
 ·subst e
  rw[if_pos (by simp)]
  exact h m p m1 (AsI _) P m3
 ·rw[if_neg (by simpa using e)]
  by_cases c:m>1
  ·rw[if_pos c]
   show cmp (p.getD 0 0) (p.getD (m-1) 0) _ s
   refine C.ans _ _ _ s (P.lt (by omega)) (P.lt (by omega)) (P.ne (by omega) (by omega) (by omega)) hs ?_
   rw[m3 0 (m-1) (by omega) (by omega)]
   exact h m p m1 m2 P m3
  ·rw[if_neg c]
   have e1:m=1:=by omega
   subst e1
   unfold kas_descPart
   rw[KasT.kasWp_bind]
   have d2:Dn lt p (1+1):=AiA C (fun i j h1 h2=>by omega) (AsI _) (m4 (by omega))
   refine AiB C hs P (n-(1+1)) (1+1) (by omega) (by omega) d2 fun k k1 k2 k3=>?_
   show KasT.kasWp cmp (if 0>0 then _ else kas_tail3 k n p) Q s
   rw[if_neg (by decide)]
   exact Am3 C hs P (by omega) k2 k3 h
theorem Ad4(C:Cp n lt cmp I)(hs:I s){p:Array Nat}(P:Pm n p){k:Nat}(hk:k<n)(U:Up lt p k){Q:Nat→Shared→Prop}(h:∀ l,l≤k→(∀ i,i<l→lt (p.getD i 0) (p.getD k 0)=true)→(∀ i,l≤i→i<k→lt (p.getD k 0) (p.getD i 0)=true)→Q l s) :
  ∀(f l r:Nat),l≤r→r≤k→r-l≤f→(∀ i,i<l→lt (p.getD i 0) (p.getD k 0)=true)→(∀ i,r≤i→i<k→lt (p.getD k 0) (p.getD i 0)=true)→(kas_place p k f l r).kasWp cmp Q s
 | 0,l,r,h1,h2,h3,a,b=>h l (by omega) a fun i q1 q2=>b i (by omega) q2
 | f+1,l,r,h1,h2,h3,a,b=>by
  unfold kas_place
  by_cases c:l ≥ r
  ·rw[if_pos c]
   exact h l (by omega) a fun i q1 q2=>b i (by omega) q2
  ·rw[if_neg c]
   show cmp (p.getD k 0) (p.getD ((l+r) / 2) 0) _ s
   have hm:(l+r) / 2<k:=by omega
   have ne:=P.ne (i:=k) (j:=(l+r) / 2) hk (by omega) (by omega)
   refine C.ans _ _ _ s (P.lt hk) (P.lt (by omega)) ne hs ?_
   cases d:lt (p.getD k 0) (p.getD ((l+r) / 2) 0) with
   | true =>
    refine Ad4 C hs P hk U h f l ((l+r) / 2) (by omega) (by omega) (by omega) a fun i q1 q2=>?_
    by_cases e:i=(l+r) / 2
    ·rw[e];exact d
    ·exact C.tr _ _ _ d (U _ i (by omega) q2)
   | false =>
    have d':lt (p.getD ((l+r) / 2) 0) (p.getD k 0)=true:=by
     rw[C.tot _ _ (P.lt (by omega)) (P.lt hk) ne.symm,d];rfl
    refine Ad4 C hs P hk U h f ((l+r) / 2+1) r (by omega) h2 (by omega) (fun i q1=>?_) b
    by_cases e:i=(l+r) / 2
    ·rw[e];exact d'
    ·exact C.tr _ _ _ (U i _ (by omega) hm) d'
theorem Aoy{p:Array Nat}{k d:Nat}(P:Pm n p):Pm n (bubble p k d):=(Array.perm_iff_toList_perm.mp (bubble_perm p k d)).trans P
theorem Aoz{p:Array Nat}{k l:Nat}(P:Pm n p)(hk:k<n)(hl:l≤k)(U:Up lt p k)(a:∀ i,i<l→lt (p.getD i 0) (p.getD k 0)=true)(b:∀ i,l≤i→i<k→lt (p.getD k 0) (p.getD i 0)=true):Up lt (bubble p k (k-l)) (k+1):=by
 have g:∀ i,i≤k→(bubble p k (k-l)).getD i 0=if i<l then p.getD i 0 else if i=l then p.getD k 0 else p.getD (i-1) 0:=fun i hi=>by
  have e:=getElem?_bubble (xs:=p) (src:=k) (by rw[P.size];exact hk) (k-l) (by omega) i
  by_cases c1:i<l
  ·rw[if_pos c1]
   rw[if_neg (by omega),if_neg (by omega)] at e
   exact AcR e
  ·rw[if_neg c1]
   by_cases c2:i=l
   ·rw[if_pos c2]
    rw[if_pos (by omega)] at e
    exact AcR e
   ·rw[if_neg c2]
    rw[if_neg (by omega),if_pos (by omega)] at e
    exact AcR e
 intro i j hij hj
 rw[g i (by omega),g j (by omega)]
 by_cases c1:j<l
 ·rw[if_pos (by omega),if_pos c1];exact U i j hij (by omega)
 ·rw[if_neg c1]
  by_cases c2:j=l
  ·rw[if_pos c2,if_pos (by omega)];exact a i (by omega)
  ·rw[if_neg c2]
   by_cases c3:i<l
   ·rw[if_pos c3];exact U i (j-1) (by omega) (by omega)
   ·rw[if_neg c3]
    by_cases c4:i=l
    ·rw[if_pos c4];exact b (j-1) (by omega) (by omega)
    ·rw[if_neg c4];exact U (i-1) (j-1) (by omega) (by omega)
theorem AkN(C:Cp n lt cmp I)(hs:I s){Q:Array Nat→Shared→Prop}(h:∀ q,Pm n q→Up lt q n→Q q s):∀(f:Nat) (p:Array Nat) (k:Nat),k+f=n→Pm n p→Up lt p k→(kas_bin f p k).kasWp cmp Q s
 | 0,p,k,e,P,U=>h p P (by rw[← e];exact U)
 | f+1,p,k,e,P,U=>by
  unfold kas_bin
  rw[KasT.kasWp_bind]
  refine Ad4 C hs P (by omega) U (fun l hl a b=>?_) k 0 k (AsM _) (AsI _) (by omega) (fun i q=>by omega) (fun i q1 q2=>by omega)
  exact AkN C hs h f _ (k+1) (by omega) (Aoy P) (Aoz P (by omega) hl U a b)
theorem Am4(C:Cp n lt cmp I)(hs:I s)(n2:2≤n){Q:Array Nat→Shared→Prop}(h:∀ q,Pm n q→Up lt q n→Q q s):(kas_sort n).kasWp cmp Q s:=by
 unfold kas_sort
 rw[KasT.kasWp_bind]
 refine AkM C hs n2 (List.Perm.refl _) fun k q k1 k2 P U=>?_
 dsimp only
 by_cases c:k<n
 ·rw[if_pos c,Nat.max_eq_left k1]
  exact AkN C hs h (n-k) q k (by omega) P U
 ·rw[if_neg c]
  have e:k=n:=by omega
  subst e
  exact h q P U
end
end SetW
end L2
set_option maxHeartbeats 1000000
namespace L2
open PySem PySem.W PySem.Calls PySem.Spec PyProof.Rows
namespace SetW
section
variable {prog:Program}{w:World}{A:Around}{E:Value→Shared→Prop}{s:Shared}
theorem Af8{a:Addr}{n:Nat}{vs:List Value}{lt:Nat→Nat→Bool}{κ:SortKind}{P:PySem.Fin→Shared→Prop}(ho:s.heap.get? a=some (seqObj "list" vs.toArray n)) (h2:2≤vs.length) (h64:vs.length<64)
  (hkind:∀ h':Heap,(∀ b o,b≠a→s.heap.get? b=some o→h'.get? b=some o)→∀ Q:SortKind→Shared→Prop,Q κ { s with heap:=h' }→wpAny (model prog w) A (keyKind' vs.toArray) Q (fun _ _=>False) { s with heap:=h' })
  (hcmp:∀ h':Heap,(∀ b o,b≠a→s.heap.get? b=some o→h'.get? b=some o)→∀(i j:Nat) (C:Bool→Shared→Prop),i<vs.length→j<vs.length→i≠j→C (lt i j) { s with heap:=h' }→kas_ask prog w A κ vs i j C { s with heap:=h' })
  (tr:∀ i j k,lt i j=true→lt j k=true→lt i k=true) (tot:∀ i j,i<vs.length→j<vs.length→i≠j→lt i j=!lt j i)
  (h:∀(h':Heap) (e:Nat) (q:Array Nat),(∀ b o,b≠a→s.heap.get? b=some o→h'.get? b=some o)→s.heap.objs.size≤h'.objs.size→Pm vs.length q→Up lt q vs.length→h'.get? a=some (seqObj "list" (List.toArray (q.toList.map fun i=>vs.getD i Value.none)) e)→P (.done (.ret .none)) { s with heap:=h' }) :
  wpAny (model prog w) A (Builtin.«list.sort» ⟨[.ref a],[]⟩) P E s:=by
 have ha:a<s.heap.objs.size:=Heap.lt_size ho
 have s1:=Heap.SameBut.update s.heap a (Obj.mapSeq fun _=>(#[]:Array Value))
 obtain⟨e1,ho1⟩:∃ e1,(s.heap.update a (Obj.mapSeq fun _=>(#[]:Array Value))).get? a=some (seqObj "list" #[] e1):=⟨_,get?_update_seq ho fun _=>#[]⟩
 obtain⟨H,eH⟩:∃ H,H=((s.heap.update a (Obj.mapSeq fun _=>(#[]:Array Value))).push (seqObj "tuple" vs.toArray 0)).push (seqObj "list" #[] 0):=⟨_,rfl⟩
 have keep:∀ b o,b≠a→s.heap.get? b=some o→H.get? b=some o:=fun b o hb e=>by rw[eH];exact Heap.get?_push_of_some _ (Heap.get?_push_of_some _ ((s1.2 b hb).trans e))
 have hoH:H.get? a=some (seqObj "list" #[] e1):=by rw[eH];exact Heap.get?_push_of_some _ (Heap.get?_push_of_some _ ho1)
 have szH:s.heap.objs.size≤H.objs.size:=by
  rw[eH,Heap.size_push,Heap.size_push,Heap.size_update];omega
 rw[list_sort_plain]
 refine wpAny_bind (listItems_at ho rfl ?_)
 refine wpAny_bind (listUpdate_at ho rfl ?_ (by rw[AsK,sizeLine_eq];omega) (AsM _))
 refine wpAny_bind (seqEpoch_at ho1 rfl ?_)
 refine wpAny_bind (wpAny_newTuple ?_ (by show vs.length≤_;rw[sizeLine_eq];omega))
 refine wpAny_bind (wpAny_newList ?_ (AsM _))
 refine wpAny_holding ?_
 show wpAny (model prog w) A _ P E { s with heap:=((s.heap.update a (Obj.mapSeq fun _=>(#[]:Array Value))).push (seqObj "tuple" vs.toArray 0)).push (seqObj "list" #[] 0) }
 rw[← eH]
 dsimp only
 have hn2:¬vs.toArray.size<2:=by rw[AsK];omega
 rw[if_neg hn2,if_neg hn2]
 refine wpAny_bind (wpAny_mono (hkind H keep (fun κ' s'=>κ'=κ∧s'={ s with heap:=H }) ⟨rfl,rfl⟩) (fun κ' s0 hk=>?_) fun _ _ x=>x.elim)
 obtain⟨rfl,rfl⟩:=hk
 have sorted:(kas_sort vs.length).kasWp (kas_ask prog w A κ' vs) (fun p s'=>s'={ s with heap:=H }∧Pm vs.length p∧Up lt p vs.length) { s with heap:=H } :=
  Am4 (lt:=lt) (I:=fun s'=>s'={ s with heap:=H }) ⟨fun i j C s' hi hj ne hs hC=>by subst hs;exact hcmp H keep i j C hi hj ne hC,tr,tot⟩ rfl h2 fun q P U=>⟨rfl,P,U⟩
 refine wpAny_bind (wpAny_mono (kat_run (Q:=fun st' s'=>∃ p:Array Nat,p.size=vs.length∧arrOf st'=p.map (kas_item (vs.toArray.zip vs.toArray))∧failedOf st'=none∧s'={ s with heap:=H }∧Pm vs.length p∧Up lt p vs.length)
  rfl h2 h64 (fun p' st' s' a1 a2 a3 a4=>⟨p',a1,a2,a3,a4⟩) sorted) ?_ fun _ _ e=>e)
 rintro⟨⟨⟩,st'⟩ s' ⟨p,hp,har,hf,rfl,Pp,Up'⟩
 dsimp only
 have hout:=kat_snds rfl har
 have hsz:(List.toArray (p.toList.map fun i=>vs.getD i Value.none)).size=vs.length:=by rw[AsK,AsH,Array.length_toList,hp]
 rw[hout]
 have s2:=Heap.SameBut.update H a (Obj.mapSeq fun _=>List.toArray (p.toList.map fun i=>vs.getD i Value.none))
 obtain⟨c2,hc2⟩:∃ c2,(H.update a (Obj.mapSeq fun _=>List.toArray (p.toList.map fun i=>vs.getD i Value.none))).get? a=some (seqObj "list" (List.toArray (p.toList.map fun i=>vs.getD i Value.none)) c2):=⟨_,get?_update_seq hoH fun _=>List.toArray (p.toList.map fun i=>vs.getD i Value.none)⟩
 refine wpAny_bind (seqEpoch_at hoH rfl ?_)
 refine wpAny_bind (listUpdate_at hoH rfl ?_ (AsM _) (AsX (At9 hsz) (by rw[sizeLine_eq];omega)))
 rw[hf]
 simp only [bne_self_eq_false,Atp,if_false]
 exact wpAny_pure (h _ c2 p (fun b o hb e=>(s2.2 b hb).trans (keep b o hb e)) (by rw[Heap.size_update];exact szH) Pp Up' hc2)
end
end SetW
open PySem PySem.W PySem.Calls PySem.Spec PyProof.Rows
namespace SetW
section
variable {prog:Program}{w:World}{A:Around}{E:Value→Shared→Prop}{s:Shared}
abbrev T3:=Int × Int × Str
def K8 (x:T3):List KS:=[.inl x.1,.inl x.2.1,.inr x.2.2]
theorem Ad5{x y:T3}(h:K8 x=K8 y):x=y:=by
 obtain⟨a,b,c⟩:=x
 obtain⟨a',b',c'⟩:=y
 unfold K8 at h
 simp only [List.cons.injEq,Sum.inl.injEq,Sum.inr.injEq,and_true] at h
 obtain⟨h1,h2,h3⟩:=h
 rw[h1,h2,h3]
def lt3 (x y:T3):Bool:=if x.1=y.1 then (if x.2.1=y.2.1 then decide (x.2.2.cps.toList<y.2.2.cps.toList) else decide (x.2.1<y.2.1)) else decide (x.1<y.1)
theorem AhI{x:T3}{vs:List Value}(h:PySem.ItemsAre (Eg prog w) (K8 x) vs):∃ t u v,vs=[.int x.1 t,.int x.2.1 u,.str x.2.2 v]:=by
 unfold K8 at h
 cases h with
 | cons h1 h =>
  cases h with
  | cons h2 h =>
   cases h with
   | cons h3 h =>
    cases h
    obtain⟨t,rfl⟩:=JQ h1
    obtain⟨u,rfl⟩:=JQ h2
    obtain⟨v,rfl⟩:=MT h3
    exact⟨t,u,v,rfl⟩
theorem Ao0{x y:T3}{a b:Addr}(hx:TK prog w s.heap (K8 x) a)(hy:TK prog w s.heap (K8 y) b){Q:Bool→Shared→Prop}(h:Q (lt3 x y) s):wpAny (model prog w) A (keyLt' (tuples' true) (.ref a) (.ref b)) Q E s:=by
 obtain⟨o,xs,n,ho,hc,hd,hi⟩:=hx
 obtain⟨o',ys,n',ho',hc',hd',hi'⟩:=hy
 obtain⟨t,u,v,e⟩:=AhI hi
 obtain⟨t',u',v',e'⟩:=AhI hi'
 refine kat_lt ho hd ho' hd' ?_
 have sz:xs.size=3:=by rw[← Array.length_toList,e];rfl
 have sz':ys.size=3:=by rw[← Array.length_toList,e'];rfl
 rw[e,e',sz,sz']
 unfold lt3 at h
 refine kat_cons (wpAny_eqBool_int (kat_go (fun q=>kat_yes ?_) fun q=>kat_no ?_))
 ·have q:x.1=y.1:=by simpa using q
  rw[if_pos q] at h
  refine kat_cons (wpAny_eqBool_int (kat_go (fun q2=>kat_yes ?_) fun q2=>kat_no ?_))
  ·have q2:x.2.1=y.2.1:=by simpa using q2
   rw[if_pos q2] at h
   refine kat_cons (wpAny_eqBool_str (kat_go (fun q3=>kat_yes (kat_nil ?_)) fun q3=>kat_no ?_))
   ·have q3:x.2.2=y.2.2:=by simpa using q3
    rw[q3,decide_eq_false (List.lt_irrefl _)] at h
    exact h
   ·exact kat_one _ _ (PyProof.Rows.lt_str h)
  ·have q2:¬x.2.1=y.2.1:=by simpa using q2
   rw[if_neg q2] at h
   exact kat_one _ _ (PyProof.Rows.lt_int h)
 ·have q:¬x.1=y.1:=by simpa using q
  rw[if_neg q] at h
  exact oneLt_int h
theorem AcS{x y:T3}:lt3 x y=true↔x.1<y.1∨(x.1=y.1∧(x.2.1<y.2.1∨(x.2.1=y.2.1∧x.2.2.cps.toList<y.2.2.cps.toList))):=by
 unfold lt3
 by_cases h1:x.1=y.1
 ·rw[if_pos h1]
  by_cases h2:x.2.1=y.2.1
  ·rw[if_pos h2,decide_eq_true_eq]
   constructor
   ·exact fun z=>.inr ⟨h1,.inr ⟨h2,z⟩⟩
   ·rintro(z | ⟨_,z | ⟨_,z⟩⟩)
    ·omega
    ·omega
    ·exact z
  ·rw[if_neg h2,decide_eq_true_eq]
   constructor
   ·exact fun z=>.inr ⟨h1,.inl z⟩
   ·rintro(z | ⟨_,z | ⟨z,_⟩⟩)
    ·omega
    ·exact z
    ·exact absurd z h2
 ·rw[if_neg h1,decide_eq_true_eq]
  constructor
  ·exact fun z=>.inl z
  ·rintro(z | ⟨z,_⟩)
   ·exact z
   ·exact absurd z h1
theorem AkO{x y z:T3}(h1:lt3 x y=true)(h2:lt3 y z=true):lt3 x z=true:=by
 rw[AcS] at *
 rcases h1 with a | ⟨a,b | ⟨b,c⟩⟩
 ·rcases h2 with a' | ⟨a',_⟩
  ·exact .inl (by omega)
  ·exact .inl (by omega)
 ·rcases h2 with a' | ⟨a',b' | ⟨b',_⟩⟩
  ·exact .inl (by omega)
  ·exact .inr ⟨by omega,.inl (by omega)⟩
  ·exact .inr ⟨by omega,.inl (by omega)⟩
 ·rcases h2 with a' | ⟨a',b' | ⟨b',c'⟩⟩
  ·exact .inl (by omega)
  ·exact .inr ⟨by omega,.inl (by omega)⟩
  ·exact .inr ⟨by omega,.inr ⟨by omega,List.lt_trans c c'⟩⟩
theorem AiC(x:T3):lt3 x x=false:=by
 cases h:lt3 x x with
 | false=>rfl
 | true =>
  rcases AcS.mp h with a | ⟨_,a | ⟨_,a⟩⟩
  ·omega
  ·omega
  ·exact absurd a (List.lt_irrefl _)
theorem Am5{x y:T3}(ne:x≠y):lt3 x y=!lt3 y x:=by
 cases h:lt3 x y with
 | true =>
  cases h':lt3 y x with
  | false=>rfl
  | true =>
   have:=AkO h h'
   rw[AiC] at this
   cases this
 | false =>
  cases h':lt3 y x with
  | true=>rfl
  | false =>
   exfalso
   have n1:¬_:=fun z=>by rw[AcS.mpr z] at h;cases h
   have n2:¬_:=fun z=>by rw[AcS.mpr z] at h';cases h'
   have e1:x.1=y.1:=by
    rcases Int.lt_trichotomy x.1 y.1 with c | c | c
    ·exact absurd (.inl c) n1
    ·exact c
    ·exact absurd (.inl c) n2
   have e2:x.2.1=y.2.1:=by
    rcases Int.lt_trichotomy x.2.1 y.2.1 with c | c | c
    ·exact absurd (.inr ⟨e1,.inl c⟩) n1
    ·exact c
    ·exact absurd (.inr ⟨e1.symm,.inl c⟩) n2
   have e3:x.2.2.cps.toList=y.2.2.cps.toList:=List.le_antisymm (List.not_lt.mp fun z=>n2 (.inr ⟨e1.symm,.inr ⟨e2.symm,z⟩⟩)) (List.not_lt.mp fun z=>n1 (.inr ⟨e1,.inr ⟨e2,z⟩⟩))
   apply ne
   obtain⟨a,b,⟨c⟩⟩:=x
   obtain⟨a',b',⟨c'⟩⟩:=y
   have e3:c=c':=Array.toList_inj.mp e3
   dsimp only at e1 e2
   rw[e1,e2,e3]
end
end SetW
open PySem PySem.W PySem.Calls PySem.Spec PyProof.Rows
namespace SetW
section
variable {prog:Program}{w:World}{A:Around}{E:Value→Shared→Prop}{s:Shared}
theorem AkP{a:Addr}{n:Nat}{vs:List Value}{P:PySem.Fin→Shared→Prop}(ho:s.heap.get? a=some (seqObj "list" vs.toArray n)) (h2:vs.length<2)
  (h:∀(h':Heap) (e:Nat),(∀ b o,b≠a→s.heap.get? b=some o→h'.get? b=some o)→s.heap.objs.size≤h'.objs.size→h'.get? a=some (seqObj "list" vs.toArray e)→P (.done (.ret .none)) { s with heap:=h' }) :
  wpAny (model prog w) A (Builtin.«list.sort» ⟨[.ref a],[]⟩) P E s:=by
 have s1:=Heap.SameBut.update s.heap a (Obj.mapSeq fun _=>(#[]:Array Value))
 obtain⟨e1,ho1⟩:∃ e1,(s.heap.update a (Obj.mapSeq fun _=>(#[]:Array Value))).get? a=some (seqObj "list" #[] e1):=⟨_,get?_update_seq ho fun _=>#[]⟩
 obtain⟨H,eH⟩:∃ H,H=((s.heap.update a (Obj.mapSeq fun _=>(#[]:Array Value))).push (seqObj "tuple" vs.toArray 0)).push (seqObj "list" #[] 0):=⟨_,rfl⟩
 have keep:∀ b o,b≠a→s.heap.get? b=some o→H.get? b=some o:=fun b o hb e=>by rw[eH];exact Heap.get?_push_of_some _ (Heap.get?_push_of_some _ ((s1.2 b hb).trans e))
 have hoH:H.get? a=some (seqObj "list" #[] e1):=by rw[eH];exact Heap.get?_push_of_some _ (Heap.get?_push_of_some _ ho1)
 have szH:s.heap.objs.size≤H.objs.size:=by
  rw[eH,Heap.size_push,Heap.size_push,Heap.size_update];omega
 rw[list_sort_plain]
 refine wpAny_bind (listItems_at ho rfl ?_)
 refine wpAny_bind (listUpdate_at ho rfl ?_ (by rw[AsK,sizeLine_eq];omega) (AsM _))
 refine wpAny_bind (seqEpoch_at ho1 rfl ?_)
 refine wpAny_bind (wpAny_newTuple ?_ (by show vs.length≤_;rw[sizeLine_eq];omega))
 refine wpAny_bind (wpAny_newList ?_ (AsM _))
 refine wpAny_holding ?_
 show wpAny (model prog w) A _ P E { s with heap:=((s.heap.update a (Obj.mapSeq fun _=>(#[]:Array Value))).push (seqObj "tuple" vs.toArray 0)).push (seqObj "list" #[] 0) }
 rw[← eH]
 dsimp only
 have hn2:vs.toArray.size<2:=by rw[AsK];omega
 rw[if_pos hn2,if_pos hn2]
 refine wpAny_bind (wpAny_pure (wpAny_bind (wpAny_pure ?_)))
 dsimp only
 have hout:(arrOf (SortSt.mk' general' (vs.toArray.zip vs.toArray) #[] 7 none)).map (·.2)=vs.toArray:=by
  show(vs.toArray.zip vs.toArray).map (·.2)=vs.toArray
  apply Array.toList_inj.mp
  rw[Array.toList_map,Array.toList_zip]
  exact List.map_snd_zip (AsI _)
 have hf:failedOf (SortSt.mk' general' (vs.toArray.zip vs.toArray) #[] 7 none)=none:=rfl
 rw[hout]
 have s2:=Heap.SameBut.update H a (Obj.mapSeq fun _=>vs.toArray)
 obtain⟨c2,hc2⟩:∃ c2,(H.update a (Obj.mapSeq fun _=>vs.toArray)).get? a=some (seqObj "list" vs.toArray c2):=⟨_,get?_update_seq hoH fun _=>vs.toArray⟩
 refine wpAny_bind (seqEpoch_at hoH rfl ?_)
 refine wpAny_bind (listUpdate_at hoH rfl ?_ (AsM _) (by rw[AsK,sizeLine_eq];omega))
 simp only [bne_self_eq_false,Atp,if_false]
 exact wpAny_pure (h _ c2 (fun b o hb e=>(s2.2 b hb).trans (keep b o hb e)) (by rw[Heap.size_update];exact szH) hc2)
theorem kat_tups{h:Heap}:∀{l:List (Addr × T3)},(∀ q∈l,TK prog w h (K8 q.2) q.1)→∃ fs:List Value,KatTups h (l.map fun q=>Value.ref q.1) fs∧fs.length=l.length∧∀ v∈fs,∃ i t,v=Value.int i t
 | [],_=>⟨[],KatTups.nil,rfl,fun v hv=>(by cases hv)⟩
 | q::l,hq=>by
  obtain⟨fs,h1,h2,h3⟩:=kat_tups (l:=l) fun z hz=>hq z (AsW _ hz)
  obtain⟨o,xs,n,ho,hc,hd,hi⟩:=hq q AsR
  obtain⟨t,u,v,e⟩:=AhI hi
  refine⟨.int q.2.1 t::fs,KatTups.cons ho hc hd ?_ h1,by rw[Atf,Atf,h2],fun z hz=>?_⟩
  ·rw[← Array.getElem?_toList,e];rfl
  ·rcases List.mem_cons.mp hz with e | e
   ·exact⟨_,_,e⟩
   ·exact h3 z e
theorem Am6{a:Addr}{n:Nat}{l:List (Addr × T3)}{P:PySem.Fin→Shared→Prop}(ho:s.heap.get? a=some (seqObj "list" (List.toArray (l.map fun q=>Value.ref q.1)) n)) (h64:l.length<64) (hT:∀ q∈l,TK prog w s.heap (K8 q.2) q.1) (nd:(l.map (·.2)).Nodup)
  (h:∀(h':Heap) (e:Nat) (l':List (Addr × T3)),(∀ b o,b≠a→s.heap.get? b=some o→h'.get? b=some o)→s.heap.objs.size≤h'.objs.size→l'.Perm l→l'.Pairwise (fun x y=>lt3 x.2 y.2=true)→h'.get? a=some (seqObj "list" (List.toArray (l'.map fun q=>Value.ref q.1)) e)→P (.done (.ret .none)) { s with heap:=h' }) :
  wpAny (model prog w) A (Builtin.«list.sort» ⟨[.ref a],[]⟩) P E s:=by
 have len:(l.map fun q=>Value.ref q.1).length=l.length:=AsH _
 by_cases h2:l.length<2
 ·refine AkP ho (by rw[len];exact h2) fun h' e k sz g=>h h' e l k sz (List.Perm.refl _) ?_ g
  match l,h2 with
  | [],_=>exact List.Pairwise.nil
  | [q],_=>exact List.pairwise_singleton _ _
  | _::_::_,z=>simp at z;omega
 ·have ne:∀ q∈l,q.1≠a:=fun q hq e=>by
   obtain⟨o,xs,n',q1,q2,q3,_⟩:=hT q hq
   rw[e,ho] at q1
   injection q1 with q1
   rw[← q1] at q2
   have q2:Value.type "list" = Value.type "tuple" := q2
   exact absurd q2 (by decide)
  have Aaj:∀ h':Heap,(∀ b o,b≠a→s.heap.get? b=some o→h'.get? b=some o)→∀ q∈l,TK prog w h' (K8 q.2) q.1:=fun h' k q hq=>by
   obtain⟨o,xs,n',q1,r⟩:=hT q hq
   exact⟨o,xs,n',k _ _ (ne q hq) q1,r⟩
  obtain⟨d0⟩:Nonempty (Addr × T3):=⟨((0:Nat),(0:Int),(0:Int),⟨#[]⟩)⟩
  have at':∀ i,i<l.length→(l.map fun q=>Value.ref q.1).getD i Value.none=Value.ref (l.getD i d0).1:=fun i hi=>by simp[List.getD,hi]
  have mem:∀ i,i<l.length→l.getD i d0∈l:=fun i hi=>by simp[List.getD,hi]
  refine Af8 (lt:=fun i j=>lt3 (l.getD i d0).2 (l.getD j d0).2) (κ:=tuples' true) ho (by rw[len];omega) (by rw[len];exact h64) (fun h' k Q hq=>?_) (fun h' k i j C hi hj nij hC=>?_) (fun i j k=>AkO) (fun i j hi hj nij=>?_) fun h' e q k sz Pq Uq g=>?_
  ·obtain⟨fs,f1,f2,f3⟩:=kat_tups (Aaj h' k)
   refine kat_kind (T:=Value.type "int") f1 (by omega) (fun v hv=>?_) (by decide) hq
   obtain⟨i,t,rfl⟩:=f3 v hv
   exact fun A Q E s _ q=>wpAny_typeOf (typeIs_int s i t) q
  ·rw[len] at hi hj
   unfold kas_ask
   rw[at' i hi,at' j hj]
   exact Ao0 (Aaj h' k _ (mem i hi)) (Aaj h' k _ (mem j hj)) hC
  ·rw[len] at hi hj
   refine Am5 fun e=>nij ?_
   have e1:(l.map (·.2))[i]?=some (l.getD i d0).2:=by simp[List.getD,hi]
   have e2:(l.map (·.2))[j]?=some (l.getD j d0).2:=by simp[List.getD,hj]
   exact(List.getElem?_inj (by rw[AsH];exact hi) nd).mp (by rw[e1,e2,e])
  ·rw[len] at Pq Uq
   have ql:∀ i∈q.toList,i<l.length:=fun i hi=>List.mem_range.mp (Pq.mem_iff.mp hi)
   refine h h' e (q.toList.map fun i=>l.getD i d0) k sz ?_ ?_ ?_
   ·refine(Pq.map _).trans (List.Perm.of_eq ?_)
    refine AtQ (by rw[AsH,AsQ]) fun i h1 h2=>?_
    rw[Auc,Au2]
    simp[List.getD,h2]
   ·rw[Atr,Au0]
    intro i j hi hj hij
    have hs:=Pq.size
    rw[Array.length_toList] at hi hj
    have:=Uq i j hij (by rw[← hs];exact hj)
    simpa [Array.getD,hi,hj] using this
   ·rw[g,AtF]
    congr 2
    refine congrArg List.toArray (AtG fun i hi=>?_)
    rw[at' i (ql i hi)]
    rfl
end
end SetW
open PySem PySem.W PySem.Calls PySem.Spec PyProof.Rows
namespace SetW
section
variable {prog:Program}{w:World}{A:Around}{E:Value→Shared→Prop}{s:Shared}
theorem Aj3{a:Addr}{o:Obj}{es:Array (Int × Value)}{ep:Nat}{t:SetTable}{kl:List (List KS)}(T:TS prog w s.heap o es ep t kl)(ho:s.heap.get? a=some o)(hh:A.handled=none)(h64:es.size<64)(h3:∀ ks∈kl,∃ x,ks=K8 x){Q:Value→Shared→Prop}
  (hQ:∀(h':Heap) d (tk l e:Nat) (out:List (Addr × T3)),(∀ b o,s.heap.get? b=some o→h'.get? b=some o)→s.heap.objs.size≤l→h'.get? l=some (seqObj "list" (List.toArray (out.map fun q=>Value.ref q.1)) e)→out.Pairwise (fun x y=>lt3 x.2 y.2=true) →
   (∀ q∈out,TK prog w s.heap (K8 q.2) q.1∧∃ e∈es.toList,e.2=.ref q.1)→(∀ x,K8 x∈kl↔x∈out.map (·.2))→out.length=es.size→Q (.ref l) { s with heap:=h',drawn:=d,toks:=tk }):wpAny (model prog w) A (call (.builtin "sorted") [.ref a]) Q E s:=by
 have klE:=Ans T.len T.el
 have ex:∀ e,e∈es.toList→∃ q:Addr × T3,e.2=.ref q.1∧TK prog w s.heap (K8 q.2) q.1∧kyT prog w s.heap e=K8 q.2:=fun e he=>by
  obtain⟨i,hi,rfl⟩:=Atl he
  obtain⟨ks,q1,a',q2,q3,q4⟩:=T.el i es.toList[i] (by rw[← Array.getElem?_toList,AsJ hi])
  obtain⟨x,rfl⟩:=h3 ks (AsS q1)
  exact⟨(a',x),q2,q3,AhG ⟨a',q2,q3,q4⟩⟩
 classical
 obtain⟨f,hf⟩:∃ f:Int × Value→Addr × T3,∀ e,e∈es.toList→e.2=.ref (f e).1∧TK prog w s.heap (K8 (f e).2) (f e).1∧kyT prog w s.heap e=K8 (f e).2 :=
  ⟨fun e=>if h:e∈es.toList then Classical.choose (ex e h) else ((0:Nat),(0:Int),(0:Int),⟨#[]⟩),fun e he=>by dsimp only;rw[dif_pos he];exact Classical.choose_spec (ex e he)⟩
 refine Calls.call_function_entry kind_sorted plain_sorted entry_sorted (args_sorted1 _) ?_
 unfold Builtin.«sorted»
 refine wpAny_bind (m:=checkCount "sorted" 1 1 _) (wpAny_pure (wpAny_bind (Ai2 (A:=A.in1) T.wk ho hh (by rw[sizeLine_eq];omega) fun xl s' hxp k hg hos hz=>?_)))
 obtain⟨h',g',d',tk',os'⟩:=s'
 dsimp only at k hg hos hz
 subst hg hos
 have Ajz:xl.length=es.size:=by rw[hxp.length_eq,Array.length_toList]
 have mx:∀ e∈xl,e∈es.toList:=fun e he=>hxp.mem_iff.mp he
 have Ari:xl.map (·.2)=(xl.map f).map fun q=>Value.ref q.1:=by
  rw[AtF]
  exact AtG fun e he=>(hf e (mx e he)).1
 have Ao1:xl.map (kyT prog w s.heap)=((xl.map f).map (·.2)).map K8:=by
  rw[AtF,AtF]
  exact AtG fun e he=>(hf e (mx e he)).2.2
 have nd:((xl.map f).map (·.2)).Nodup:=by
  have n1:(xl.map (kyT prog w s.heap)).Nodup:=(hxp.map _).nodup_iff.mpr (by rw[← klE];exact T.nd)
  rw[Ao1,List.Nodup,Atr] at n1
  exact n1.imp fun h e=>h (by rw[e])
 have hT:∀ q∈xl.map f,TK prog w s.heap (K8 q.2) q.1∧∃ e∈es.toList,e.2=.ref q.1:=fun q hq=>by
  obtain⟨e,he,rfl⟩:=List.mem_map.mp hq
  exact⟨(hf e (mx e he)).2.1,e,mx e he,(hf e (mx e he)).1⟩
 rw[Ari]
 obtain⟨l0,el0⟩:∃ l0,l0=xl.map f:=⟨_,rfl⟩
 rw[← el0] at nd hT Ao1 ⊢
 have len0:l0.length=es.size:=by rw[el0,AsH,Ajz]
 have hoL:(h'.push (seqObj "list" (List.toArray (l0.map fun q=>Value.ref q.1)) 0)).get? h'.objs.size=some (seqObj "list" (List.toArray (l0.map fun q=>Value.ref q.1)) 0):=Heap.get?_push_size _ rfl
 have kp:∀ b ob,s.heap.get? b=some ob→(h'.push (seqObj "list" (List.toArray (l0.map fun q=>Value.ref q.1)) 0)).get? b=some ob:=fun b ob e=>Heap.get?_push_of_some _ (k _ _ e)
 refine wpAny_bind (wpAny_newList (hsz:=by rw[AsH,len0,sizeLine_eq];omega) ?_)
 show wpAny _ _ _ _ _ { s with heap:=h'.push (seqObj "list" (List.toArray (l0.map fun q=>Value.ref q.1)) 0),drawn:=d',toks:=tk' }
 refine wpAny_bind (wpAny_holding (wpAny_call_entry slot_list_sort ⟨_,hoL,rfl⟩ entry_list_sort (Am6 (s:={ s with heap:=h'.push (seqObj "list" (List.toArray (l0.map fun q=>Value.ref q.1)) 0),drawn:=d',toks:=tk' }) hoL (by rw[len0];exact h64) (fun q hq=>?_) nd fun h2 e l' k2 sz2 P2 U2 g2=>⟨_,rfl,wpAny_pure ⟨_,rfl,?_⟩⟩) (args_list_sort _)))
 ·obtain⟨o',its,n',q1,r⟩:=(hT q hq).1
  exact⟨o',its,n',kp _ _ q1,r⟩
 ·refine hQ h2 d' tk' h'.objs.size e l' (fun b ob eb=>?_) hz g2 U2 (fun q hq=>hT q (P2.mem_iff.mp hq)) (fun x=>?_) (by rw[P2.length_eq,len0])
  ·exact k2 _ _ (AsL (Heap.lt_size (k _ _ eb))) (kp _ _ eb)
  ·rw[(P2.map (·.2)).mem_iff,klE,← (hxp.map (kyT prog w s.heap)).mem_iff,Ao1]
   constructor
   ·intro h
    obtain⟨y,hy,e⟩:=List.mem_map.mp h
    rw[← Ad5 e];exact hy
   ·exact fun h=>List.mem_map.mpr ⟨x,h,rfl⟩
end
end SetW
open PySem PySem.Spec PyProof.Rows
section
variable {X:Cx}{K:PySem.W.Frag}{p1 p2 pos1 pos2:Pos}{e:Expr}{te:TE}
def v3 (x:SetW.T3):List V:=[.int x.1,.int x.2.1,.str x.2.2]
theorem Inv.tk{pins:List (Addr × Obj)}{σ:St}{H:Hp}{s:Shared}(I:Inv X pins σ H s){a:Addr}{x:SetW.T3}(h:SqT X.K H a (v3 x))(prog:Program)(w:World):SetW.TK prog w s.heap (SetW.K8 x) a:=by
 obtain⟨its,r,⟨o,ho,hc,n,hd⟩,_⟩:=I.tuple h
 refine⟨o,its.toArray,n,ho,hc,hd,?_⟩
 unfold v3 at r
 cases r with
 | cons r1 r =>
  cases r with
  | cons r2 r =>
   cases r with
   | cons r3 r =>
    cases r
    obtain⟨t1,rfl⟩:=r1
    obtain⟨t2,rfl⟩:=r2
    obtain⟨t3,rfl⟩:=r3
    have k1:(SetW.Eg prog w).is (.inl x.1) (.int x.1 t1)=true:=intKind_is prog w x.1 t1
    have k2:(SetW.Eg prog w).is (.inl x.2.1) (.int x.2.1 t2)=true:=intKind_is prog w x.2.1 t2
    have k3:(SetW.Eg prog w).is (.inr x.2.2) (.str x.2.2 t3)=true:=strKind_is prog w x.2.2 t3
    exact .cons k1 (.cons k2 (.cons k3 .nil))
def Aj4 (K:PySem.W.Frag)(te:TE):TE:=fun σ H Q=>te σ H fun x H1=>∃(a:Addr) (l:List (Addr × SetW.T3)),x=.ref a∧SqL K H1 a (l.map fun q=>V.ref q.1)∧(∀ q∈l,SqT K H1 q.1 (v3 q.2))∧(∀ ds:List SetW.T3,ds.Nodup→(∀ z∈ds,z∈l.map (·.2))→ds.length<64) ∧
 ∀(b:Addr) (l':List (Addr × SetW.T3)),(∀ q∈l',q∈l)→l'.Pairwise (fun x y=>SetW.lt3 x.2 y.2=true)→(∀ z,z∈l'.map (·.2)↔z∈l.map (·.2))→H1 b=none→Q (.ref b) (upd H1 b (.lst (l'.map fun q=>V.ref q.1)))
theorem AgL(hg1:Gl X "sorted") (hm1:X.mg "sorted" = none) (hg2:Gl X "set") (hm2:X.mg "set" = none) (hu:X.A.units+100<cLine) (he:PE X e te) (hK:X.K=K:=by rfl) (hc:X.calm=true:=by rfl)
  (hs2:starEach [e] X.env=(false,eval e X.env)::starEach [] X.env:=by rfl)
  (hs1:starEach [.Call (.Name "set" p2) [e] [] pos2] X.env=(false,eval (.Call (.Name "set" p2) [e] [] pos2) X.env)::starEach [] X.env:=by rfl)
  (hq1:(backTo pos1 (starEach [] X.env)).any (·.1)=false:=by rfl) (hq2:(backTo pos2 (starEach [] X.env)).any (·.1)=false:=by rfl) :
  PE X (.Call (.Name "sorted" p1) [.Call (.Name "set" p2) [e] [] pos2] [] pos1) (Aj4 K te):=by
 subst hK
 intro pins s σ H Q I h
 have hsz:sizeLine=16777216:=sizeLine_eq
 refine wpAny_Call_Name_kw (K1 I hg1 hm1 Rx ?_ (by decide) (by decide))
 refine PyProof.Rows.callWith_builtin1 ?_ hs1 hq1
 rw[hs1]
 show wpAny _ _ (spliced ((false,eval (.Call (.Name "set" p2) [e] [] pos2) X.env)::backTo pos1 (starEach [] X.env))) _ _ s
 refine Calls.spliced_cons ?_
 refine wpAny_Call_Name_kw (K1 I hg2 hm2 Akg ?_ (by decide) (by decide))
 refine PyProof.Rows.callWith_type1 ?_ hs2 hq2
 rw[hs2]
 show wpAny _ _ (spliced ((false,eval e X.env)::backTo pos2 (starEach [] X.env))) _ _ s
 refine Calls.spliced_cons (thn (he pins s σ H _ I h) fun u s1 ⟨x,H1,I1,r1,a,l,ex,hq,ht,h64,q⟩=>?_)
 subst ex
 cases r1
 refine Calls.spliced_nil ?_
 obtain⟨its,r,pl,hz⟩:=I1.list hq
 have hlen:its.length=l.length:=by have:=r.length;rw[AsH] at this;omega
 obtain⟨d0⟩:Nonempty (Addr × SetW.T3):=⟨((0:Nat),(0:Int),(0:Int),⟨#[]⟩)⟩
 have lg:∀ i,i<l.length→l[i]?=some (l.getD i d0):=fun i hi=>by simp[List.getD,hi]
 have mem:∀ i,i<l.length→l.getD i d0∈l:=fun i hi=>AsS (lg i hi)
 have hi:∀(i:Nat) (v:Value),its.toArray[i]?=some v→v=.ref (l.getD i d0).1:=fun i v hv=>by
  have hv':its[i]?=some v:=by simpa using hv
  have hil:i<l.length:=by rw[← hlen];exact(List.getElem?_eq_some_iff.mp hv').1
  obtain⟨u,e1,e2⟩:=r.get (i:=i) (x:=V.ref (l.getD i d0).1) (by rw[AsU,lg i hil];rfl)
  rw[hv'] at e1
  injection e1 with e1
  rw[e1]
  exact e2
 have hsz2:its.toArray.size=l.length:=by rw[AsK,hlen]
 have l64:∀ L:List (List SetW.KS),L.Nodup→(∀ z∈L,∃ j,j<its.toArray.size∧SetW.K8 (l.getD j d0).2=z)→L.length<64:=fun L nL hL=>by
  have ex:∀ z∈L,∃ x:SetW.T3,SetW.K8 x=z∧x∈l.map (·.2):=fun z hz=>by
   obtain⟨j,hj,e⟩:=hL z hz
   exact⟨_,e,List.mem_map.mpr ⟨_,mem j (by rw[← hsz2];exact hj),rfl⟩⟩
  have:∃ ds:List SetW.T3,ds.map SetW.K8=L∧∀ x∈ds,x∈l.map (·.2):=by
   clear nL hL
   induction L with
   | nil=>exact⟨[],rfl,fun x hx=>by cases hx⟩
   | cons z L ih =>
    obtain⟨ds,d1,d2⟩:=ih fun y hy=>ex y (AsW _ hy)
    obtain⟨x,x1,x2⟩:=ex z AsR
    exact⟨x::ds,by rw[AsY,d1,x1],fun y hy=>(List.mem_cons.mp hy).elim (fun e=>by rw[e];exact x2) (d2 y)⟩
  obtain⟨ds,d1,d2⟩:=this
  rw[← d1,AsH]
  refine h64 ds ?_ d2
  rw[← d1,List.Nodup,Atr] at nL
  exact nL.imp fun h e=>h (by rw[e])
 refine SetW.Am1 (items:=its.toArray) (val:=fun i=>(l.getD i d0).1) (key:=fun i=>SetW.K8 (l.getD i d0).2) (I.ok.hd hc) hu pl.isList hi (fun j hj=>I1.tk (ht _ (mem j (by rw[← hsz2];exact hj))) _ _) l64 fun h' tk o es ep t kl go gT gm gp gk=>?_
 refine Calls.spliced_nil ?_
 have e64:es.size<64:=by
  rw[← gT.len]
  exact l64 kl gT.nd fun z hz=>(gm z).mp hz
 refine SetW.Aj3 (s:={ s1 with heap:=h',toks:=tk }) gT go (I.ok.hd hc) e64 (fun ks hks=>?_) fun h2 d tk2 b ep2 out k2 hl2 hg2 hU hT hM hL=>?_
 ·obtain⟨j,_,e⟩:=(gm ks).mp hks
  exact⟨_,e.symm⟩
 ·have hb1:s1.heap.objs.size≤b:=Atx (AsO (Heap.lt_size go) hl2)
  have sub:∀ q∈out,q∈l:=fun q hq=>by
   obtain⟨q1,e,he,e2⟩:=hT q hq
   obtain⟨j,hj,ej⟩:=gp e he
   rw[hsz2] at hj
   rw[e2] at ej
   injection ej with ej
   have tk1:=I1.tk (ht _ (mem j hj)) X.prog X.w
   have ApR:SetW.TK X.prog X.w h' (SetW.K8 (l.getD j d0).2) (l.getD j d0).1:=by
    obtain⟨o',xs',n',z1,z2⟩:=tk1
    exact⟨o',xs',n',gk _ _ z1,z2⟩
   rw[← ej] at ApR
   have:=SetW.Ad5 (IsTupleKey.inj q1 ApR)
   have e3:q=l.getD j d0:=by
    obtain⟨qa,qx⟩:=q
    exact Prod.ext ej this
   rw[e3];exact mem j hj
  have same:∀ z,z∈out.map (·.2)↔z∈l.map (·.2):=fun z=>by
   rw[← hM z,gm]
   constructor
   ·rintro⟨j,hj,e⟩
    rw[hsz2] at hj
    rw[← SetW.Ad5 e]
    exact List.mem_map.mpr ⟨_,mem j hj,rfl⟩
   ·intro hz
    obtain⟨q,hq,e⟩:=List.mem_map.mp hz
    obtain⟨j,hj,ej⟩:=Atl hq
    refine⟨j,by rw[hsz2];exact hj,?_⟩
    have:l.getD j d0=q:=by rw[← ej];simp[List.getD,hj]
    show SetW.K8 (l.getD j d0).2=SetW.K8 z
    rw[this,e]
  refine⟨.ref b,_,(I1.laid (t':=tk2) (h':=h2) (a:=b) (o:=.lst (out.map fun q=>V.ref q.1)) (fun c u e=>k2 _ _ (gk _ _ e)) hb1 ?_).drew,rfl,q b out sub hU same (I1.hok.fresh hb1)⟩
  refine⟨by rw[AsH,hL];omega,out.map fun q=>Value.ref q.1,ep2,?_,?_⟩
  ·clear hg2 hU hT hM hL sub same
   induction out with
   | nil=>exact .nil
   | cons q out ih=>exact .cons rfl ih
  ·rw[hg2]
end
open PySem PySem.Spec PyProof.Rows
inductive K9 (K:PySem.W.Frag) (H:Hp):V→V→Bool→Prop
 | tup {a b:Addr} {xs ys:List V}:SqT K H a xs→SqT K H b ys→xs.all HH=true→ys.all HH=true→K9 K H (.ref a) (.ref b) (eqL xs ys)
 | lst {a b:Addr} {xs ys:List V}:SqL K H a xs→SqL K H b ys→xs.all HH=true→ys.all HH=true→K9 K H (.ref a) (.ref b) (eqL xs ys)
 | flat {x y:V}:HH x=true→HH y=true→K9 K H x y (eqV x y)
section
variable {X:Cx}{K:PySem.W.Frag}{pins:List (Addr × Obj)}{σ:St}{H:Hp}{s:Shared}
theorem AgM{x:V}{a:Addr}(h:HH x=true)(r:RelV x (.ref a)):False:=by
 cases x with
 | non=>cases r
 | bl b=>cases r
 | int i=>obtain⟨t,e⟩:=r;cases e
 | str z=>obtain⟨t,e⟩:=r;cases e
 | ref a=>cases h
 | byt b=>cases h
 | flt b=>cases h
 | ty n=>cases h
theorem K9.uniq(I:Inv X pins σ H s){x y:V}{b c:Bool}(h:K9 X.K H x y b)(h':K9 X.K H x y c):b=c:=by
 cases h with
 | tup h1 h2 f1 f2 =>
  cases h' with
  | tup g1 g2 _ _=>rw[I.Abr h1 g1,I.Abr h2 g2]
  | lst g1 g2 _ _ =>
   obtain⟨_,_,⟨o,e,c,_⟩,_⟩:=I.tuple h1
   obtain⟨_,_,⟨o',_,e',c',_⟩,_⟩:=I.list g1
   rw[e] at e'
   cases e'
   rw[c] at c'
   exact absurd c' (by decide)
  | flat g1 _=>cases g1
 | lst h1 h2 f1 f2 =>
  cases h' with
  | lst g1 g2 _ _=>rw[I.Nt h1 g1,I.Nt h2 g2]
  | tup g1 g2 _ _ =>
   obtain⟨_,_,⟨o,e,c,_⟩,_⟩:=I.tuple g1
   obtain⟨_,_,⟨o',_,e',c',_⟩,_⟩:=I.list h1
   rw[e] at e'
   cases e'
   rw[c] at c'
   exact absurd c' (by decide)
  | flat g1 _=>cases g1
 | flat f1 f2 =>
  cases h' with
  | tup _ _ _ _=>cases f1
  | lst _ _ _ _=>cases f1
  | flat _ _=>rfl
theorem AgN{A:Around}{xs ys:List V}{its its2:List Value}(r:Vals xs its)(r2:Vals ys its2)(fx:xs.all HH=true)(fy:ys.all HH=true)(j:Nat)(h1:j<its.toArray.size)(h2:j<its2.toArray.size) :
  SeqAt.EqAt A s its.toArray[j] its2.toArray[j] (eqV (xs.getD j .non) (ys.getD j .non)):=by
 have l1:=r.length
 have l2:=r2.length
 have j1:j<xs.length:=by simp only [AsK] at h1;omega
 have j2:j<ys.length:=by simp only [AsK] at h2;omega
 obtain⟨w1,e1,q1⟩:=r.get (i:=j) (x:=xs[j]) (by simp[j1])
 obtain⟨w2,e2,q2⟩:=r2.get (i:=j) (x:=ys[j]) (by simp[j2])
 have g1:its.toArray[j]=w1:=by
  have:its.toArray[j]?=some w1:=by simpa using e1
  exact Option.some.inj ((Array.getElem?_eq_getElem h1).symm.trans this)
 have g2:its2.toArray[j]=w2:=by
  have:its2.toArray[j]?=some w2:=by simpa using e2
  exact Option.some.inj ((Array.getElem?_eq_getElem h2).symm.trans this)
 rw[g1,g2]
 have d1:xs.getD j .non=xs[j]:=by simp[List.getD,j1]
 have d2:ys.getD j .non=ys[j]:=by simp[List.getD,j2]
 rw[d1,d2]
 exact AjV q1 q2 (List.all_eq_true.mp fx _ (AsV j1)) (List.all_eq_true.mp fy _ (AsV j2))
theorem AgO{A:Around}(I:Inv X pins σ H s){x y:V}{b:Bool}{v u:Value}(c:K9 X.K H x y b)(rx:RelV x v)(ry:RelV y u)(hu:A.units<cLine):SeqAt.EqAt A s v u b:=by
 cases c with
 | flat f1 f2=>exact AjV rx ry f1 f2
 | @tup a b xs ys h1 h2 f1 f2 =>
  cases rx
  cases ry
  by_cases e:a=b
  ·subst e
   rw[I.Abr h1 h2,Aal f2]
   exact SeqAt.EqAt.same _
  ·refine SeqAt.EqAt.of_refs e ?_
   obtain⟨its,r,pl,_⟩:=I.tuple h1
   obtain⟨its2,r2,pl2,_⟩:=I.tuple h2
   have l1:=r.length
   have l2:=r2.length
   have key:=SeqAt.RcAt.tuples (A:=A) (s:=s) (e:=fun j=>eqV (xs.getD j .non) (ys.getD j .non)) pl pl2 hu (fun j h1 h2=>AgN r r2 f1 f2 j h1 h2)
   have e1:((List.range (min its.toArray.size its2.toArray.size)).all (fun j=>eqV (xs.getD j .non) (ys.getD j .non)) && its.toArray.size == its2.toArray.size)=eqL xs ys:=by
    simp only [AsK]
    rw[← l1,← l2]
    by_cases hl:xs.length=ys.length
    ·rw[← hl,Auo,Abv hl]
     simp
    ·have:(xs.length == ys.length)=false:=by simp[hl]
     rw[this,Bool.and_false,Afq hl]
   rw[e1] at key
   exact key
 | @lst a b xs ys h1 h2 f1 f2 =>
  cases rx
  cases ry
  by_cases e:a=b
  ·subst e
   rw[I.Nt h1 h2,Aal f2]
   exact SeqAt.EqAt.same _
  ·refine SeqAt.EqAt.of_refs e ?_
   obtain⟨its,r,pl,_⟩:=I.list h1
   obtain⟨its2,r2,pl2,_⟩:=I.list h2
   have l1:=r.length
   have l2:=r2.length
   by_cases hl:xs.length=ys.length
   ·have key:=SeqAt.RcAt.lists (A:=A) (s:=s) (e:=fun j=>eqV (xs.getD j .non) (ys.getD j .non)) pl.isList pl2.isList (by simp only [AsK];omega) hu (fun j h1 h2=>AgN r r2 f1 f2 j h1 h2)
    rw[AsK,← l1,Abv hl] at key
    exact key
   ·have key:=SeqAt.RcAt.lists_lengths (A:=A) (s:=s) pl.isList pl2.isList (by simp only [AsK,bne_iff_ne];omega) hu
    rw[Afq hl]
    exact key
theorem Am7{x y:V}{u:Value}(h:RelV x u)(h':RelV y u)(fx:HH x=true∨∃ a,x=.ref a)(fy:HH y=true∨∃ a,y=.ref a):x=y:=by
 rcases fx with fx | ⟨a,rfl⟩
 ·rcases fy with fy | ⟨b,rfl⟩
  ·cases x with
   | non =>
    cases h
    cases y with
    | non=>rfl
    | bl b=>cases h'
    | int i=>obtain⟨t,e⟩:=h';cases e
    | str z=>obtain⟨t,e⟩:=h';cases e
    | _=>cases fy
   | bl b =>
    cases h
    cases y with
    | non=>cases h'
    | bl c=>cases h';rfl
    | int i=>obtain⟨t,e⟩:=h';cases e
    | str z=>obtain⟨t,e⟩:=h';cases e
    | _=>cases fy
   | int i =>
    obtain⟨t,rfl⟩:=h
    cases y with
    | non=>cases h'
    | bl c=>cases h'
    | int j=>obtain⟨t,e⟩:=h';cases e;rfl
    | str z=>obtain⟨t,e⟩:=h';cases e
    | _=>cases fy
   | str z =>
    obtain⟨t,rfl⟩:=h
    cases y with
    | non=>cases h'
    | bl c=>cases h'
    | int j=>obtain⟨t,e⟩:=h';cases e
    | str z=>obtain⟨t,e⟩:=h';cases e;rfl
    | _=>cases fy
   | _=>cases fx
  ·cases h'
   exact absurd (AgM fx h) id
 ·rcases fy with fy | ⟨b,rfl⟩
  ·cases h
   exact absurd (AgM fy h') id
  ·cases h
   cases h'
   rfl
theorem K9.left{K:PySem.W.Frag}{H:Hp}{x y:V}{b:Bool}(h:K9 K H x y b):HH x=true∨∃ a,x=.ref a:=by
 cases h with
 | tup _ _ _ _=>exact .inr ⟨_,rfl⟩
 | lst _ _ _ _=>exact .inr ⟨_,rfl⟩
 | flat h _=>exact .inl h
theorem AiD{xs:List V}{us:List Value}(r:Vals xs us){j:Nat}{u:Value}(h:us[j]?=some u):∃ x,xs[j]?=some x∧RelV x u:=by
 have hj:=(List.getElem?_eq_some_iff.mp h).1
 have l:=r.length
 have hx:j<xs.length:=by omega
 obtain⟨u',e,q⟩:=r.get (AsJ hx)
 rw[h] at e
 cases e
 exact⟨xs[j],AsJ hx,q⟩
def Arj (K:PySem.W.Frag)(no:Bool):R2:=fun x y H Q=>∃(q:Addr) (xs:List V),y=.ref q∧SqL K H q xs ∧
 (((∀(i:Nat) (z:V),xs[i]?=some z→∃ b,K9 K H z x b)∧(∃(i:Nat) (z:V),xs[i]?=some z∧K9 K H z x true)∧Q (.bl (!no)) H)∨((∀(i:Nat) (z:V),xs[i]?=some z→K9 K H z x false)∧Q (.bl no) H))
open Classical in
theorem AkQ(hu:X.A.units+100<cLine)(I:Inv X pins σ H s){x:V}{v:Value}{q:Addr}{xs:List V}{its:List Value}(rx:RelV x v)(r:Vals xs its)
  (h:((∀(i:Nat) (z:V),xs[i]?=some z→∃ b,K9 X.K H z x b)∧∃(i:Nat) (z:V),xs[i]?=some z∧K9 X.K H z x true)∨∀(i:Nat) (z:V),xs[i]?=some z→K9 X.K H z x false) :
  ∃ e:Value→Bool,(∀ y,y∈its.toArray→SeqAt.EqAt X.A.in1 s y v (e y))∧((∃(i:Nat) (z:V),xs[i]?=some z∧K9 X.K H z x true)→its.toArray.any e=true)∧((∀(i:Nat) (z:V),xs[i]?=some z→K9 X.K H z x false)→its.toArray.any e=false):=by
 have hu1:X.A.in1.units<cLine:=by show X.A.units+1<cLine;omega
 rcases h with ⟨hall,i,z,hz,hc⟩ | hall
 ·refine⟨fun w=>decide (∃(i:Nat) (z:V),xs[i]?=some z∧RelV z w∧K9 X.K H z x true),fun y hy=>?_,fun _=>?_,fun hn=>?_⟩
  ·have hy:y∈its:=by simpa using hy
   obtain⟨j,hj⟩:=Aub hy
   obtain⟨a,ha,ra⟩:=AiD r hj
   obtain⟨b,cb⟩:=hall j a ha
   have e:b=decide (∃(i:Nat) (z:V),xs[i]?=some z∧RelV z y∧K9 X.K H z x true):=by
    cases b with
    | true=>exact(decide_eq_true ⟨j,a,ha,ra,cb⟩).symm
    | false =>
     symm
     refine decide_eq_false fun⟨i',z',_,rz,cz⟩=>?_
     have:=Am7 ra rz cb.left cz.left
     subst this
     exact absurd (cb.uniq I cz) AsT
   show SeqAt.EqAt X.A.in1 s y v (decide _)
   rw[← e]
   exact AgO I cb ra rx hu1
  ·obtain⟨u,hu',ru⟩:=r.get hz
   rw[show its.toArray.any (fun w=>decide (∃(i:Nat) (z:V),xs[i]?=some z∧RelV z w∧K9 X.K H z x true))=its.any (fun w=>decide (∃(i:Nat) (z:V),xs[i]?=some z∧RelV z w∧K9 X.K H z x true)) by simp,List.any_eq_true]
   exact⟨u,AsS hu',decide_eq_true ⟨i,z,hz,ru,hc⟩⟩
  ·exact absurd ((hn i z hz).uniq I hc) AsT
 ·refine⟨fun _=>false,fun y hy=>?_,fun⟨i,z,hz,hc⟩=>absurd ((hall i z hz).uniq I hc) AsT,fun _=>by simp⟩
  have hy:y∈its:=by simpa using hy
  obtain⟨j,hj⟩:=Aub hy
  obtain⟨a,ha,ra⟩:=AiD r hj
  exact AgO I (hall j a ha) ra rx hu1
theorem Ao2(hu:X.A.units+100<cLine)(hK:X.K=K:=by rfl):OpR X (compareOp .In) (Arj K false):=by
 subst hK
 intro pins s σ H x y v u Q I rx ry h
 obtain⟨q,xs,rfl,hq,h⟩:=h
 cases ry
 obtain⟨its,r,pl,hz⟩:=I.list hq
 rcases h with ⟨h1,h2,k⟩ | ⟨h1,k⟩
 ·obtain⟨e,he,a1,_⟩:=AkQ (q:=q) hu I rx r (.inl ⟨h1,h2⟩)
  exact SeqAt.in_listAt e pl.isList he ⟨.bl true,H,I,by rw[a1 h2];rfl,k⟩
 ·obtain⟨e,he,_,a2⟩:=AkQ (q:=q) hu I rx r (.inr h1)
  exact SeqAt.in_listAt e pl.isList he ⟨.bl false,H,I,by rw[a2 h1];rfl,k⟩
def ArQ (K:PySem.W.Frag):V→List V→Hp→VK→Prop:=fun x vs H Q=>∃(l:Addr) (xs:List V) (v:V) (j:Nat),x=.ref l∧vs=[v]∧H l=some (.lst xs)∧j<xs.length∧xs.length≤1000 ∧
 (∀(i:Nat) (z:V),xs[i]?=some z→∃ b,K9 K H z v b∧(i<j→b=false)∧(i=j→b=true))∧Q (.int (j:Int)) H
end
end L2
namespace HT
open PySem PyProof.Rows L2
section
open PySem.SeqAt
open PySem.AutoSeq1 (wpAny_loadPart')
open PySem.MeetsSeq PySem.MeetsSeq2 PySem.MeetsSeq3
end
section
variable {prog:Program}{w:World}{A:Around}{E:Value→Shared→Prop}{s:Shared}
end
end HT
namespace L2
open PySem PySem.Spec PyProof.Rows
section
variable {X:Cx}{K:PySem.W.Frag}
def ArR (K:PySem.W.Frag):R2:=fun x y H Q=>∃(a b:Addr) (p q:SetW.T3),x=.ref a∧y=.ref b∧SqT K H a (v3 p)∧SqT K H b (v3 q)∧Q (.bl (SetW.lt3 p q)) H
end
end L2
namespace Mine
open PySem L2
def mn2 (i j:Int):Int:=if j<i then j else i
def mx2 (i j:Int):Int:=if j>i then j else i
def sdW (k:Nat):Str:=if k%2=0 then "right" else "left"
def smA (th:List Int)(k:Nat):List SetW.T3:=if th.getD k 0=th.getD (k+1) 0 then [] else [(mn2 (th.getD k 0) (th.getD (k+1) 0),mx2 (th.getD k 0) (th.getD (k+1) 0),sdW k)]
def Yx (th:List Int)(k:Nat):List SetW.T3:=(List.range k).flatMap (smA th)
theorem Vq(th:List Int)(k:Nat):Yx th (k+1)=Yx th k++smA th k:=by
 unfold Yx
 rw[At0,Au1]
 simp
theorem Am8(th:List Int)(k:Nat):(smA th k).length≤1:=by
 unfold smA
 split <;> simp
theorem Yy(th:List Int):∀ k,(Yx th k).length≤k
 | 0=>AsI _
 | k+1=>by
  rw[Vq,AsN]
  have:=Yy th k
  have:=Am8 th k
  omega
def along(th:List Int):List SetW.T3:=Yx th (th.length-1)
theorem AeT(th:List Int):(along th).length≤th.length:=AsX (Yy _ _) (by omega)
def Yz (sh:List Int)(s:Int)(i:Nat):List Nat:=(List.range i).filter fun j=>decide (sh.getD j 0=s)
theorem Aj5(sh:List Int)(s:Int)(i:Nat):Yz sh s (i+1)=Yz sh s i++(if sh.getD i 0=s then [i] else []):=by
 unfold Yz
 rw[At0,AtP]
 congr 1
 by_cases h:sh.getD i 0=s
 ·rw[if_pos h]
  exact List.filter_eq_self.mpr fun x hx=>by rw[List.mem_singleton.mp hx];exact decide_eq_true h
 ·rw[if_neg h]
  exact List.filter_eq_nil_iff.mpr fun x hx=>by rw[List.mem_singleton.mp hx,decide_eq_false h];decide
theorem AgP(sh:List Int)(s:Int)(i:Nat):(Yz sh s i).length≤i:=by
 have:=AtA (fun j=>decide (sh.getD j 0=s)) (List.range i)
 rw[AsQ] at this
 exact this
theorem Am9{sh:List Int}{s:Int}{i j:Nat}(h:j∈Yz sh s i):j<i:=List.mem_range.mp (List.mem_filter.mp h).1
def AgQ (ls sh:List Int)(s:Int):List Int:=(Yz sh s sh.length).map fun j=>ls.getD j 0
theorem AgR(ls sh:List Int)(s:Int):(AgQ ls sh s).length=(Yz sh s sh.length).length:=AsH _
def RZ (ls sh:List Int)(k:Nat):List SetW.T3:=(List.range k).flatMap fun s=>along (AgQ ls sh ((s:Nat):Int))
theorem Acg(ls sh:List Int)(k:Nat):RZ ls sh (k+1)=RZ ls sh k++along (AgQ ls sh (k:Int)):=by
 unfold RZ
 rw[At0,Au1]
 simp
theorem AgS{f:Nat→Int}{k:Nat}:∀ l:List Nat,(l.filter fun x=>decide (0≤f x∧f x<((k+1:Nat):Int))).length=(l.filter fun x=>decide (0≤f x∧f x<(k:Int))).length+(l.filter fun x=>decide (f x=(k:Int))).length
 | []=>rfl
 | x::l=>by
  have ih:=AgS (f:=f) (k:=k) l
  rw[Au8,Au8,Au8]
  by_cases h1:f x=(k:Int)
  ·rw[if_pos (decide_eq_true (by omega)),if_neg (by simp;omega),if_pos (decide_eq_true h1),Atf,Atf]
   omega
  ·by_cases h2:0≤f x∧f x<(k:Int)
   ·rw[if_pos (decide_eq_true (by omega)),if_pos (decide_eq_true h2),if_neg (by simp;omega),Atf,Atf]
    omega
   ·rw[if_neg (by simp;omega),if_neg (by simp;omega),if_neg (by simp;omega)]
    exact ih
theorem Ad6(ls sh:List Int):∀ k,(RZ ls sh k).length≤((List.range sh.length).filter fun x=>decide (0≤sh.getD x 0∧sh.getD x 0<(k:Int))).length
 | 0=>AsM _
 | k+1=>by
  rw[Acg,AsN,AgS (f:=fun x=>sh.getD x 0)]
  have h1:=Ad6 ls sh k
  have h2:=AeT (AgQ ls sh (k:Int))
  rw[AgR] at h2
  unfold Yz at h2
  omega
theorem Y0(ls sh:List Int)(k:Nat):(RZ ls sh k).length≤sh.length:=by
 have h1:=Ad6 ls sh k
 have h2:=AtA (fun x=>decide (0≤sh.getD x 0∧sh.getD x 0<(k:Int))) (List.range sh.length)
 rw[AsQ] at h2
 omega
theorem Xu[DecidableEq α]:∀{ds l:List α},ds.Nodup→(∀ z∈ds,z∈l)→ds.length≤l.length
 | [],l,_,_=>AsM _
 | d::ds,l,nd,hs=>by
  have hd:=hs d AsR
  have n2:=List.nodup_cons.mp nd
  have:=Xu (ds:=ds) (l:=l.erase d) n2.2 fun z hz=>(List.mem_erase_of_ne (fun e:z=d=>n2.1 (by rw[← e];exact hz))).mpr (hs z (AsW _ hz))
  rw[List.length_erase_of_mem hd] at this
  have:=List.length_pos_of_mem hd
  rw[Atf]
  omega
def TT3 (H:Hp)(q:List (Addr × SetW.T3)):Prop:=∀ x∈q,H x.1=some (.tup (v3 x.2))
theorem TT3.same{H H':Hp}{q:List (Addr × SetW.T3)}(h:TT3 H q)(s:Bl H H'):TT3 H' q:=fun x hx=>s _ _ (h x hx)
theorem TT3.app{H:Hp}{q q':List (Addr × SetW.T3)}(h:TT3 H q)(h':TT3 H q'):TT3 H (q++q'):=fun x hx=>(List.mem_append.mp hx).elim (h x) (h' x)
def rf3 (q:List (Addr × SetW.T3)):List V:=q.map fun x=>V.ref x.1
theorem AiE(q q':List (Addr × SetW.T3)):rf3 (q++q')=rf3 q++rf3 q':=AsP
theorem Xv(q:List (Addr × SetW.T3)):(rf3 q).length=q.length:=AsH _
end Mine
namespace L2
open PySem PySem.W PySem.Calls PySem.Spec PyProof.Rows
namespace SetW
section
variable {prog:Program}{w:World}{A:Around}{E:Value→Shared→Prop}{s:Shared}
abbrev T2:=Int × Int
def AsB (x:T2):List KS:=[.inl x.1,.inl x.2]
def lt2 (x y:T2):Bool:=if x.1=y.1 then decide (x.2<y.2) else decide (x.1<y.1)
end
end SetW
open PySem PySem.Spec PyProof.Rows
section
variable {X:Cx}{K:PySem.W.Frag}{p1 p2 pos1 pos2:Pos}{e:Expr}{te:TE}
def v2 (x:SetW.T2):List V:=[.int x.1,.int x.2]
def AoY (K:PySem.W.Frag)(te:TE):TE:=fun σ H Q=>te σ H fun x H1=>∃(a:Addr) (l:List (Addr × SetW.T2)),x=.ref a∧SqL K H1 a (l.map fun q=>V.ref q.1)∧(∀ q∈l,SqT K H1 q.1 (v2 q.2))∧(∀ ds:List SetW.T2,ds.Nodup→(∀ z∈ds,z∈l.map (·.2))→ds.length<64) ∧
 ∀(b:Addr) (l':List (Addr × SetW.T2)),(∀ q∈l',q∈l)→l'.Pairwise (fun x y=>SetW.lt2 x.2 y.2=true)→(∀ z,z∈l'.map (·.2)↔z∈l.map (·.2))→H1 b=none→Q (.ref b) (upd H1 b (.lst (l'.map fun q=>V.ref q.1)))
end
end L2
namespace Mine
open PySem L2
theorem pw_uniq{α:Type}{r:α→α→Prop}(ir:∀ a,¬r a a)(tr:∀ a b c,r a b→r b c→r a c):∀{l l':List α},l.Pairwise r→l'.Pairwise r→(∀ z,z∈l↔z∈l')→l=l'
 | [],[],_,_,_=>rfl
 | [],b::l',_,_,h=>absurd ((h b).mpr AsR) (by simp)
 | a::l,[],_,_,h=>absurd ((h a).mp AsR) (by simp)
 | a::l,b::l',p,p',h=>by
  obtain⟨p1,p2⟩:=List.pairwise_cons.mp p
  obtain⟨q1,q2⟩:=List.pairwise_cons.mp p'
  have e:a=b:=by
   rcases List.mem_cons.mp ((h a).mp AsR) with e | e
   ·exact e
   ·rcases List.mem_cons.mp ((h b).mpr AsR) with e' | e'
    ·exact e'.symm
    ·exact absurd (tr _ _ _ (p1 b e') (q1 a e)) (ir a)
  subst e
  congr 1
  refine pw_uniq ir tr p2 q2 fun z=>⟨fun hz=>?_,fun hz=>?_⟩
  ·rcases List.mem_cons.mp ((h z).mp (AsW _ hz)) with e | e
   ·rw[e] at hz;exact absurd (p1 _ hz) (ir _)
   ·exact e
  ·rcases List.mem_cons.mp ((h z).mpr (AsW _ hz)) with e | e
   ·rw[e] at hz;exact absurd (q1 _ hz) (ir _)
   ·exact e
inductive Con (es:List SetW.T3):Nat→Nat→Prop
 | refl (x:Nat):Con es x x
 | edge {z:SetW.T3} (h:z∈es):Con es z.1.toNat z.2.1.toNat
 | symm {x y:Nat}:Con es x y→Con es y x
 | trans {x y z:Nat}:Con es x y→Con es y z→Con es x z
theorem Con.mono{es es':List SetW.T3}(h:∀ z∈es,z∈es'){x y:Nat}(c:Con es x y):Con es' x y:=by
 induction c with
 | refl x=>exact .refl x
 | edge hz=>exact .edge (h _ hz)
 | symm _ ih=>exact ih.symm
 | trans _ _ i1 i2=>exact i1.trans i2
def brS (b:Nat→Nat)(z:SetW.T3):Nat→Nat:=fun x=>if b x=max (b z.1.toNat) (b z.2.1.toNat) then min (b z.1.toNat) (b z.2.1.toNat) else b x
structure Brs (N:Nat) (es:List SetW.T3) (b:Nat→Nat):Prop where
 le:∀ x,x<N→b x≤x
 id':∀ x,x<N→b (b x)=b x
 con:∀ x,x<N→Con es x (b x)
 eq:∀ z∈es,b z.1.toNat=b z.2.1.toNat
theorem Brs.nil(N:Nat):Brs N [] id:=⟨fun x _=>AsI _,fun _ _=>rfl,fun x _=>.refl x,fun z hz=>absurd hz (by simp)⟩
theorem Brs.step{N:Nat}{es:List SetW.T3}{b:Nat→Nat}{z:SetW.T3}(B:Brs N es b)(h1:z.1.toNat<N)(h2:z.2.1.toNat<N):Brs N (es++[z]) (brS b z):=by
 have l1:=B.le _ h1
 have l2:=B.le _ h2
 have i1:=B.id' _ h1
 have i2:=B.id' _ h2
 have mo:∀{x y},Con es x y→Con (es++[z]) x y:=fun c=>c.mono fun y hy=>AtD _ hy
 have c12:Con (es++[z]) (b z.1.toNat) (b z.2.1.toNat):=((mo (B.con _ h1)).symm.trans (.edge (AsZ _ AsR))).trans (mo (B.con _ h2))
 unfold brS
 refine⟨fun x hx=>?_,fun x hx=>?_,fun x hx=>?_,fun y hy=>?_⟩
 ·have:=B.le x hx
  split <;> omega
 ·have q:=B.id' x hx
  by_cases e:b x=max (b z.1.toNat) (b z.2.1.toNat)
  ·rw[if_pos e]
   have:b (min (b z.1.toNat) (b z.2.1.toNat))=min (b z.1.toNat) (b z.2.1.toNat):=by
    rcases Nat.le_total (b z.1.toNat) (b z.2.1.toNat) with h | h
    ·rw[Atq h,i1]
    ·rw[Au9 h,i2]
   rw[this]
   split <;> rfl
  ·rw[if_neg e,q,if_neg e]
 ·have q:=mo (B.con x hx)
  by_cases e:b x=max (b z.1.toNat) (b z.2.1.toNat)
  ·rw[if_pos e]
   rw[e] at q
   rcases Nat.le_total (b z.1.toNat) (b z.2.1.toNat) with h | h
   ·rw[Nat.max_eq_right h] at q
    rw[Atq h]
    exact q.trans c12.symm
   ·rw[Nat.max_eq_left h] at q
    rw[Au9 h]
    exact q.trans c12
  ·rw[if_neg e];exact q
 ·rcases List.mem_append.mp hy with h | h
  ·rw[B.eq y h]
  ·rw[List.mem_singleton.mp h]
   rcases Nat.le_total (b z.1.toNat) (b z.2.1.toNat) with h | h
   ·rw[Nat.max_eq_right h,Atq h,if_pos rfl]
    split <;> omega
   ·rw[Nat.max_eq_left h,Au9 h,if_pos rfl]
    split <;> omega
def brs (S:List SetW.T3):Nat→Nat:=S.foldl brS id
theorem AmA(S:List SetW.T3)(z:SetW.T3):brs (S++[z])=brS (brs S) z:=by unfold brs;rw[List.foldl_append];rfl
theorem Brs.fold{N:Nat}:∀{S:List SetW.T3} {es:List SetW.T3} {b:Nat→Nat},Brs N es b→(∀ z∈S,z.1.toNat<N∧z.2.1.toNat<N)→Brs N (es++S) (S.foldl brS b)
 | [],es,b,B,_=>by rw[Atk];exact B
 | z::S,es,b,B,h=>by
  have hz:=h z AsR
  have:=Brs.fold (S:=S) (B.step hz.1 hz.2) fun y hy=>h y (AsW _ hy)
  rw[Atv] at this
  exact this
theorem Brs.of{N:Nat}{S:List SetW.T3}(h:∀ z∈S,z.1.toNat<N∧z.2.1.toNat<N):Brs N S (brs S):=Brs.fold (Brs.nil N) h
def spS (s:Nat→Bool)(z:SetW.T3):Nat→Bool:=fun x=>if s z.1.toNat=true∨s z.2.1.toNat=true then (if x=z.1.toNat∨x=z.2.1.toNat then true else s x) else s x
def spT (made:List SetW.T3)(s:Nat→Bool):Nat→Bool:=made.foldl spS s
def spI (made:List SetW.T3)(f:Nat):Nat→Nat→Bool
 | 0=>fun x=>decide (x=f)
 | t+1=>spT made (spI made f t)
def AsC (N:Nat)(s:Nat→Bool):Nat:=((List.range N).filter s).length
def AsD (made:List SetW.T3)(s:Nat→Bool):Prop:=∀ z∈made,s z.1.toNat=true∨s z.2.1.toNat=true→s z.1.toNat=true∧s z.2.1.toNat=true
def fiN (N:Nat)(p:Nat→Bool):List Int:=((List.range N).filter p).map fun x=>((x:Nat):Int)
def Ae8 (N:Nat)(b:Nat→Nat):List Nat:=(List.range N).filter fun x=>decide (b x=x)
def shF (N:Nat)(b:Nat→Nat):List (List Int):=(Ae8 N b).map fun v=>fiN N fun x=>decide (b x=v)
theorem AkR(N:Nat):(List.range N).Pairwise (·<·):=Au5
theorem up_eq{l l':List Int}(h:l.Pairwise (·<·))(h':l'.Pairwise (·<·))(hm:∀ z,z∈l↔z∈l'):l=l':=pw_uniq (r:=fun a b:Int=>a<b) (fun a=>Int.lt_irrefl a) (fun _ _ _=>Int.lt_trans) h h' hm
section
variable {N:Nat}{S:List SetW.T3}{b:Nat→Nat}
theorem AkS{v:Nat}:v∈Ae8 N b↔v<N∧b v=v:=by
 unfold Ae8
 rw[Aua,List.mem_range,decide_eq_true_eq]
theorem AkT(B:Brs N S b){ns:List Int}(up:ns.Pairwise (·<·))(hm:∀ z,z∈ns↔z∈(List.range N).map fun x=>((b x:Nat):Int)):ns=(Ae8 N b).map fun v=>((v:Nat):Int):=by
 refine up_eq up ?_ fun z=>?_
 ·rw[Atr]
  exact((AkR N).filter _).imp fun h=>by omega
 ·rw[hm,List.mem_map,List.mem_map]
  constructor
  ·rintro⟨x,hx,rfl⟩
   have hx:=List.mem_range.mp hx
   exact⟨b x,AkS.mpr ⟨Aul (B.le x hx) hx,B.id' x hx⟩,rfl⟩
  ·rintro⟨v,hv,rfl⟩
   obtain⟨h1,h2⟩:=AkS.mp hv
   exact⟨v,List.mem_range.mpr h1,by rw[h2]⟩
end
def Ark (S:List SetW.T3):List SetW.T2:=(S.filter fun z=>decide (z.2.2=("left" : Str)∧(z.1,z.2.1,("right" : Str))∈S)).map fun z=>(z.1,z.2.1)
def TT2 (H:Hp)(q:List (Addr × SetW.T2)):Prop:=∀ x∈q,H x.1=some (.tup (v2 x.2))
theorem TT2.same{H H':Hp}{q:List (Addr × SetW.T2)}(h:TT2 H q)(s:Bl H H'):TT2 H' q:=fun x hx=>s _ _ (h x hx)
def rf2 (q:List (Addr × SetW.T2)):List V:=q.map fun x=>V.ref x.1
theorem AmB(q q':List (Addr × SetW.T2)):rf2 (q++q')=rf2 q++rf2 q':=AsP
theorem AmC(q:List (Addr × SetW.T2)):(rf2 q).length=q.length:=AsH _
end Mine
namespace L2
open PySem PySem.Spec PyProof.Rows
structure Xw (X:Cx) (x x' x4:Str) (Nc:List Str) (BL:List Nat) (scope:Scope):Prop where
 kind:scope.kind=.function
 cell:∀ y∈scope.names,y.2≠.cell
 names:∀ y∈scope.names,y.2=.local→scope.names.lookup y.1=some .local
 fr:∀ y∈scope.names,y.2=.free→X.env.scope.names.lookup y.1=some .cell∧scope.names.lookup y.1=some .free
 loc:scope.names.lookup x=some .local
 AnZ:scope.names.lookup x'=some .local
 ApS:scope.names.lookup x4=some .local
 len:Nc.length=BL.length+3
 hd:Nc[0]?=some x
 hd2:Nc[1]?=some x'
 hd3:Nc[2]?=some x4
 nd:Nc.Nodup
 cap:∀ k j,BL[k]?=some j→∃ y,Nc[k+3]?=some y∧X.N[j]?=some y∧scope.names.lookup y=some .free
def Af9 (K:PySem.W.Frag)(BL:List Nat)(tc:TT)(te:TE)(J:It)(σ:St)(H:Hp)(Q:VK):Prop :=
 ∃ W:Nat→Nat→List V→Hp→Prop,(∃ m,W 0 m [] H)∧∀ i m ys H,W i m ys H →
  (J.stop i H∧ys.length≤sizeLine∧∀ p,H p=none→Q (.ref p) (upd H p (.lst ys))) ∨
  (J.go i H∧ys.length<sizeLine∧∀ x H',J.yld i H x H'→∃ a u v z,x=.ref a∧SqT K H' a [u,v,z]∧tc (some u::some v::some z::JM σ BL) H' fun b H2 =>
   if b=true then te (some u::some v::some z::JM σ BL) H2 fun y H3=>∃ m',m'<m∧W (i+1) m' (ys++[y]) H3 else ∃ m',m'<m∧W (i+1) m' ys H2)
def AkU (K:PySem.W.Frag)(wi:TI)(BL:List Nat)(tc:TT)(te:TE):TE:=fun σ H Q=>wi σ H fun J H1=>Af9 K BL tc te J σ H1 Q
section
variable {X:Cx}{pins:List (Addr × Obj)}{σ:St}{H:Hp}{s:Shared}
theorem AkV{x x' x4:Str}{Nc:List Str}{BL:List Nat}{scope:Scope}{cl:List (Str × Addr)}{C:Addr}{fp:List Addr}(I:Inv X pins σ H s)(O:Xw X x x' x4 Nc BL scope)
  (hcl:∀ x c,cl.lookup x=some c→X.env.cells.lookup x=some c∧(x,NameKind.free)∈scope.names) (Abu:∀ x,(x,NameKind.free)∈scope.names→cl.lookup x=X.env.cells.lookup x)
  (hC:s.heap.objs.size≤C) (hfp:∀ b∈fp,Rv X pins H b) (hfo:∀ b∈fp,b<s.heap.objs.size):(Ii X Nc scope cl C fp s H).Ok where
 mod:=I.ok.mod
 kind:=O.kind
 glob:=I.ok.glob
 blt:=I.ok.blt
 above:=hC
 inj:=fun a b c e1 e2=>I.ok.inj a b c (hcl a c e1).1 (hcl b c e2).1
 has:=fun y hy=>by
  have mem:(y,NameKind.free)∈scope.names:=by
   have hy':((relabel scope X.env).names.lookup y=some .cell)∨((relabel scope X.env).names.lookup y=some .free):=hy
   have hm:∃ k,(y,k)∈(relabel scope X.env).names∧(k=.cell∨k=.free):=by
    rcases hy' with h | h
    ·exact⟨_,PySem.mem_of_lookup h,.inl rfl⟩
    ·exact⟨_,PySem.mem_of_lookup h,.inr rfl⟩
   obtain⟨k,hm,hk⟩:=hm
   obtain⟨⟨n,k'⟩,hm',e⟩:=List.mem_map.mp hm
   dsimp only at e
   by_cases hc:(k' == NameKind.free && X.env.scope.kind == .function && X.env.kindOf n == some .cell)=true
   ·rw[if_pos hc] at e
    injection e with e1 _
    subst e1
    have:k'=.free:=by
     have:=(Aty _ _▸(Aty _ _▸hc).1).1
     simpa using this
    subst this
    exact hm'
   ·rw[if_neg hc] at e
    injection e with e1 e2
    subst e1 e2
    rcases hk with hk | hk
    ·subst hk;exact absurd rfl (O.cell _ hm')
    ·subst hk;exact hm'
  obtain⟨c,e⟩:=I.ok.has y (.inl (O.fr _ mem rfl).1)
  exact⟨c,(Abu y mem).trans e⟩
 cab:=fun _ _ z=>nomatch z
 hd:=I.ok.hd
 frames:=I.ok.frames
 stk:=.inl rfl
 exf:=fun b hb=>⟨AsL (AsO (hfo b hb) hC),fun y c e=>(hfp b hb).2.2.2.2.1 y c (hcl y c e).1⟩
 bs:=I.bs
 bsz:=AsX I.ok.bsz I.sz
 Ae2:=fun b o e hb=>by
  rcases(hfp b hb).2.2.2.1 with z | z
  ·exact I.ok.Ae2 b o e z
  ·exact absurd (AsO (Heap.lt_size e) (AsX I.ok.bsz z)) (Atn _)
 Ae3:=fun b hb z=>by
  rcases List.mem_cons.mp (I.AcW b z) with e | e
  ·exact(hfp b hb).2.1 e
  ·exact(hfp b hb).2.2.1 e
 Yp:=I.stack
 frf:=I.Aab
theorem AgT{x x' x4:Str}{Nc:List Str}{BL:List Nat}{scope:Scope}{cl:List (Str × Addr)}{C:Addr}{fp:List Addr}{h':Heap}{tk:Nat}{m0:Str→Option Value}(I:Inv X pins σ H s)(O:Xw X x x' x4 Nc BL scope)
  (hcl:∀ x c,cl.lookup x=some c→X.env.cells.lookup x=some c∧(x,NameKind.free)∈scope.names) (Abu:∀ x,(x,NameKind.free)∈scope.names→cl.lookup x=X.env.cells.lookup x)
  (hC:s.heap.objs.size≤C) (hfp:∀ b∈fp,Rv X pins H b) (hfo:∀ b∈fp,b<s.heap.objs.size)
  (old:∀ b o,s.heap.get? b=some o→h'.get? b=some o) (hns:h'.Ns C m0) :
  Inv (Ii X Nc scope cl C fp s H) [] (none::none::none::JM σ BL) H { s with heap:=h',toks:=tk } where
 ok:=AkV I O hcl Abu hC hfp hfo
 os:=rfl
 bare:=I.bare
 base:=Un.kept old
 loc:=by
  refine⟨m0,hns,fun i y v hN hσ hv=>?_⟩
  match i with
  | 0=>simp at hσ
  | 1=>simp at hσ
  | 2=>simp at hσ
  | k+3 =>
   rw[AtW,AtW,AtW] at hσ
   obtain⟨j,hj,hs⟩:=Agp hσ
   obtain⟨z,hz1,hz2,hz3⟩:=O.cap k j hj
   have hN':Nc[k+3]?=some y:=hN
   rw[hz1] at hN'
   cases hN'
   have mem:(y,NameKind.free)∈scope.names:=PySem.mem_of_lookup hz3
   have hk:=(O.fr _ mem rfl).1
   obtain⟨m,hn,hl⟩:=I.loc
   obtain⟨u,r,l⟩:=hl j y v hz2 hs (.inr (.inl hk))
   refine⟨u,r,?_⟩
   rcases l with ⟨k',_⟩ | ⟨_,c,hc,z⟩
   ·have k'':X.env.scope.names.lookup y=some .local:=k'
    rw[hk] at k'';cases k''
   ·obtain⟨o,ho,hd⟩:=z
    exact .inr ⟨.inl (Jk I.ok.kind hz3 hk),c,(Abu y mem).trans hc,o,old _ _ ho,hd⟩
 cell:=fun y c e=>by
  obtain⟨v,o,ho,hd⟩:=I.cell y c (hcl y c e).1
  exact⟨v,o,old _ _ ho,hd⟩
 free:=I.hok.fresh hC
 Kw:=fun y c e=>I.Kw y c (hcl y c e).1
 pin:=fun p hp=>absurd (show p∈([]:List (Addr × Obj)) from hp) (by simp)
 hok:=I.hok.kept old
 len:=by
  show(none::none::none::JM σ BL).length=Nc.length
  rw[Atf,Atf,Atf,Ago,O.len]
theorem AgU{x x' x4:Str}{px px' p4 tp:Pos}{kx:Nat}{Nc:List Str}{BL:List Nat}{scope:Scope}{cl:List (Str × Addr)}{iter elt:Expr}{ifs:List Expr}{pos:Pos}{tc:TT}{te:TE}{Q:VK}{it:Addr}{fp:List Addr}{tn:Nat→Heap→Prop}{J:It}
  {RR:Value→Addr→Result→Shared→Prop}{E:Value→Shared→Prop}
  (O:Xw X x x' x4 Nc BL scope) (hc:X.calm=true)
  (hcl:∀ x c,cl.lookup x=some c→X.env.cells.lookup x=some c∧(x,NameKind.free)∈scope.names) (Abu:∀ x,(x,NameKind.free)∈scope.names→cl.lookup x=X.env.cells.lookup x)
  (hte:∀ C fp s H,PE (Ii X Nc scope cl C fp s H) elt te) (htc:∀ C fp s H,PIf (Ii X Nc scope cl C fp s H) ifs tc)
  (I:Inv X pins σ H s) (T:Turn X.prog X.w X.K (.Tuple [.Name x px,.Name x' px',.Name x4 p4] kx tp) J fp it tn) (st:tn 0 s.heap) (hfp:∀ b∈fp,Rv X pins H b) (h:Af9 X.K BL tc te J σ H Q)
  (hRR:∀(D C:Addr) (s':Shared) (m:Str→Option Value),s'.heap.Ns C m→(∀ h',Heap.SameBut C s'.heap h'→∃ H',Inv X pins σ H' { s' with heap:=h' }∧H' C=none∧Q (.ref D) H') →
   s.heap.objs.size≤C→RR (.ref D) C (.ok .next) s') :
  wpAny (model X.prog X.w) X.A (newList []) (fun acc s₃=>wpAny (model X.prog X.w) X.A (newFunctionEnv scope X.env.globals cl [] X.env.qual none .none (some X.env)) (fun cenv s₄ =>
   codeAny (model X.prog X.w) X.A (.compStart (.ListComp elt [⟨(.Tuple [.Name x px,.Name x' px',.Name x4 p4] kx tp),iter,ifs,0⟩] scope pos) 0 (.ref it) acc { cenv with scope:=relabel scope X.env }) (RR acc cenv.locals) s₄) E s₃) E s:=by
 refine wpAny_newObj_type (wpAny_newFunctionEnv O.cell (by intro y hy;simp at hy) (fun h₁ hns₁ hsb₁=>?_) O.kind)
 dsimp only at hns₁ hsb₁ ⊢
 generalize hH2:s.heap.push { cls:=.type "list", dict:=none,data:=.seq ([]:List Value).toArray }=H2 at hns₁ hsb₁ ⊢
 have hC:H2.objs.size=s.heap.objs.size+1:=by rw[← hH2,Heap.size_push]
 have hCle:s.heap.objs.size≤H2.objs.size:=by rw[hC];exact Atj _
 have hDC:s.heap.objs.size≠H2.objs.size:=by rw[hC];exact AsL (At5 _)
 have below:∀ b,b<s.heap.objs.size→b≠H2.objs.size∧b≠s.heap.objs.size:=fun b hb=>⟨by rw[hC];exact AsL (Atz hb),AsL hb⟩
 have old:∀ b o,s.heap.get? b=some o→h₁.get? b=some o:=fun b o e=>hsb₁.extBut b o (below b (Heap.lt_size e)).1 (Heap.get?_push_of_some _ (hH2▸Heap.get?_push_of_some _ e))
 have hacc:h₁.get? s.heap.objs.size=some (Vm [] 0):=hsb₁.extBut _ _ hDC (Heap.get?_push_of_some _ (hH2▸Heap.get?_push_size _ rfl))
 have hfo:∀ b∈fp,b<s.heap.objs.size:=fun b hb=>by
  obtain⟨o,e,_⟩:=T.obj _ _ st b hb
  exact Heap.lt_size e
 have st1:tn 0 h₁:=T.keep _ _ _ st fun b _ o e=>old b o e
 generalize hDD:s.heap.objs.size=D at *
 generalize hCC:H2.objs.size=C at *
 have AnO:D≤C:=hCle
 let Y:Cx:=Ii X Nc scope cl C fp s H
 have I0:Inv Y [] (none::none::none::JM σ BL) H { s with heap:=h₁,toks:=s.toks+([]:List (Str × Value)).length }:=AgT I O hcl Abu (by rw[hDD];exact hCle) hfp (fun b hb=>by rw[hDD];exact hfo b hb) old hns₁
 have Aka:H D=none:=by rw[← hDD];exact I.hok.fresh (AsI _)
 have Afp:D≠C:=hDC
 have Dfs:D∉Y.fs:=fun z=>by
  have:=I.stack.mem (show D∈frs X.stack from z)
  obtain⟨_,o,e,_⟩:=this
  have:=Heap.lt_size e
  rw[hDD] at this
  exact Atn _ this
 have Akb:∀ y c,Y.env.cells.lookup y=some c→c≠D:=fun y c e z=>by
  obtain⟨v,q⟩:=I.cell y c (hcl y c e).1
  have:=q.lt
  rw[z,hDD] at this
  exact Atn _ this
 have Dfp:∀ b∈fp,b≠D:=fun b hb=>AsL (hfo b hb)
 have fpY:∀{H':Hp},(∀ b∈fp,H' b=none)→∀ b∈fp,Rv Y [] H' b:=fun hn b hb =>
  ⟨hn b hb,AsL (AsO (hfo b hb) AnO),fun z=>I0.ok.Ae3 b hb z,.inl hb,fun y c e=>(I0.ok.exf b hb).2 y c e,fun p hp=>absurd (show p∈([]:List (Addr × Obj)) from hp) (by simp)⟩
 obtain⟨W,⟨m0,w0⟩,turn⟩:=h
 have loop:∀ s₃:Shared,s₃={ s with heap:=h₁,toks:=s.toks+([]:List (Str × Value)).length } →
   codeAny (model X.prog X.w) X.A (.compLoop (.ListComp elt [⟨(.Tuple [.Name x px,.Name x' px',.Name x4 p4] kx tp),iter,ifs,0⟩] scope pos) 0 (.ref it) (.ref D) (compEnvC scope cl C X.env)) (RR (.ref D) C) s₃:=by
  rintro s₃ rfl
  refine Aai (fun n s'=>∃(i:Nat) (o o' o4:Option V) (H':Hp) (ys:List V) (us:List Value) (k:Nat),Inv Y [] (o::o'::o4::JM σ BL) H' s'∧tn i s'.heap∧(∀ b∈fp,H' b=none)∧s'.heap.get? D=some (Vm us k)∧H' D=none∧Vals ys us∧W i n ys H')
   ?_ m0 ⟨0,none,none,none,H,[],[],0,I0,st1,fun b hb=>(hfp b hb).1,hacc,Aka,.nil,w0⟩
  rintro n s3 ⟨i,o3,o3',o4,H3,ys,us,k,I3,st3,fr3,hD3,nD3,rv,w3⟩
  have fpP:∀{H':Hp} {ob:Obj},(∀ b∈fp,H' b=none)→∀ b∈fp,Rv Y [(D,ob)] H' b:=fun hn b hb=>by
   obtain⟨g0,g1,g2,g3,g4,_⟩:=fpY hn b hb
   refine⟨g0,g1,g2,g3,g4,fun p hp=>?_⟩
   have e:p=(D,_):=List.mem_singleton.mp (show p∈[(D,_)] from hp)
   rw[e]
   exact Ne.symm (Dfp b hb)
  have IP:Inv Y [(D,Vm us k)] (o3::o3'::o4::JM σ BL) H3 s3:=I3.Ju fun p hp=>by
   have e:p=(D,Vm us k):=List.mem_singleton.mp hp
   subst e
   exact⟨hD3,nD3,Afp,Dfs,fun v z=>by cases z⟩
  have Ah1:∀{σ':St} {H':Hp} {s':Shared} {pl:List (Addr × Obj)},Inv Y ([(D,Vm us k)]++pl) σ' H' s'→s'.heap.get? D=some (Vm us k)∧H' D=none:=fun I'=>by
   have z:=I'.pin (D,Vm us k) (AsZ _ (AtD _ AsR))
   exact⟨z.1,z.2.1⟩
  rcases turn i n ys H3 w3 with ⟨stop,hlen,fin⟩ | ⟨go,hlen,step⟩
  ·
   refine wpAny_mono (T.done Y rfl rfl rfl hc i _ s3 _ H3 (fun _ _=>False) IP (fpP fr3) st3 stop) (fun r s4 hr=>?_) fun _ _ z=>z.elim
   obtain⟨hr,I4⟩:=hr
   subst hr
   obtain⟨gD,nD⟩:=Ah1 (pl:=[]) (by simpa using I4)
   obtain⟨m,hn,_⟩:=I4.loc
   refine hRR D C s4 m hn (fun h' hs'=>⟨upd H3 D (.lst ys),?_,(Bh (Ne.symm Afp)).trans I4.free,fin D nD⟩) hCle
   have nt:∀ b ob,H3 b=some ob→b≠C:=fun b ob e z=>by
    have:=I4.free
    rw[z] at e
    rw[show H3 C=none from this] at e
    cases e
   have u1:Un (frs X.stack) fp H H3 s.heap h':=Un.but I4.base hs' (show s.heap.objs.size≤C by rw[hDD];exact hCle)
   have ok1:HOk X.prog X.w H3 h':=fun b ob e=>(I4.hok b ob e).stay (fun c v hc q=>(hs'.2 c (by
    rcases hc with z | z
    ·rw[z];exact nt b ob e
    ·exact nt c _ z)).trans q) (fun _ q=>q) fun _ _ q=>q
   have gD':h'.get? D=some (Vm us k):=(hs'.2 D Afp).trans gD
   exact I.call' (s':={ s4 with heap:=h' }) (ch:=fp) I4.os (u1.track (At9 hDD) nD) (ok1.track nD ⟨hlen,us,k,rv,gD'⟩) I4.bare fun b hb=>by
    obtain⟨_,g1,_,g3,g4,g5⟩:=hfp b hb
    exact⟨g3,g1,g4,g5⟩
  ·
   refine wpAny_mono (T.item Y rfl rfl rfl hc i _ s3 _ H3 (fun _ _=>False) IP (fpP fr3) st3 go) (fun r s4 hr=>?_) fun _ _ z=>z.elim
   obtain⟨u0,hr,h4⟩:=hr
   subst hr
   refine wpAny_mono h4 (fun _ s5 h5=>?_) fun _ _ z=>z.elim
   obtain⟨x5,H5,I5,r5,y5,st5,fr5⟩:=h5
   have I5':=I5.pinned (fpP fr5) (T.obj _ _ st5)
   have n1:PG Y (.Name x px) (UG 0):=Dj (i:=0) O.nd O.hd (.inl (Eh I.ok.kind O.loc (by intro z;cases z))) (.inr (Eh I.ok.kind O.loc (by intro z;cases z)))
   have n2:PG Y (.Name x' px') (UG 1):=Dj (i:=1) O.nd O.hd2 (.inl (Eh I.ok.kind O.AnZ (by intro z;cases z))) (.inr (Eh I.ok.kind O.AnZ (by intro z;cases z)))
   have n3:PG Y (.Name x4 p4) (UG 2):=Dj (i:=2) O.nd O.hd3 (.inl (Eh I.ok.kind O.ApS (by intro z;cases z))) (.inr (Eh I.ok.kind O.ApS (by intro z;cases z)))
   have tgt:PG Y (.Tuple [.Name x px,.Name x' px',.Name x4 p4] kx tp) (Apk Y.K 3 (Aig (UG 0) (Aig (UG 1) (Aig (UG 2) Apj)))):=Afe hc (Jq n1 (Jq n2 (Jq n3 AcN)))
   obtain⟨aT,uT,vT,zT,rfl,hT,stepT⟩:=step x5 _ y5
   refine wpAny_mono (tgt _ s5 _ H5 (.ref aT) u0 (fun σ2 H2=>σ2=some uT::some vT::some zT::JM σ BL∧H2=H5) I5' r5 ⟨aT,[uT,vT,zT],rfl,hT,rfl,uT,[vT,zT],rfl,vT,[zT],rfl,zT,[],rfl,rfl,rfl,rfl⟩) (fun _ s6 h6=>?_) fun _ _ z=>z.elim
   obtain⟨_,_,I6,rfl,rfl⟩:=h6
   refine wpAny_mono ((htc C fp s H).run I6 stepT) (fun b s7 h7=>?_) fun _ _ z=>z.elim
   obtain⟨H7,I7,q7⟩:=h7
   have Aaj:∀{σ':St} {H':Hp} {s':Shared},Inv Y ([(D,Vm us k)]++Abs fp s5.heap) σ' H' s'→tn (i+1) s'.heap∧∀ b∈fp,H' b=none:=fun I' =>
    ⟨T.keep _ _ _ st5 fun b hb o e=>(I'.pin (b,o) (AsZ _ (AsZ _ (K4 hb e)))).1,fun b hb=>by
     obtain⟨o,e,d⟩:=T.obj _ _ st5 b hb
     exact(I'.pin (b,o) (AsZ _ (AsZ _ (K4 hb e)))).2.1⟩
   cases b with
   | false =>
    rw[if_neg AsT] at q7
    rw[if_neg AsT]
    obtain⟨m',hm,w7⟩:=q7
    obtain⟨gD,nD⟩:=Ah1 I7
    obtain⟨k1,k2⟩:=Aaj I7
    exact⟨m',hm,i+1,some uT,some vT,some zT,H7,ys,us,k,I7.Ju (fun p hp=>nomatch hp),k1,k2,gD,nD,rv,w7⟩
   | true =>
    rw[if_pos rfl] at q7
    rw[if_pos rfl]
    refine wpAny_mono (hte C fp s H _ s7 _ H7 _ I7 q7) (fun u8 s8 h8=>?_) fun _ _ z=>z.elim
    obtain⟨y8,H8,I8,r8,m',hm,w8⟩:=h8
    obtain⟨gD,nD⟩:=Ah1 I8
    obtain⟨k1,k2⟩:=Aaj I8
    refine call_meets F.slot_list_append ⟨_,gD,rfl⟩ F.entry_list_append (F.args_list_append_2 _ _) (PySem.list_append D us.toArray k u8 (by rw[AsK,← rv.length];omega)) ⟨gD,?_⟩
    have q:=PySem.IsL.update gD (·.push u8)
    have e1:us.toArray.push u8=(us++[u8]).toArray:=by simp
    rw[e1] at q
    have I8':Inv Y [] (some uT::some vT::some zT::JM σ BL) H8 s8:=I8.Ju (fun p hp=>nomatch hp)
    have I9:Inv Y [] (some uT::some vT::some zT::JM σ BL) H8 { s8 with heap:=s8.heap.update D (Obj.mapSeq (·.push u8)),toks:=s8.toks } :=
     I8'.turned (it:=D) (fun b o hb e=>(Heap.get?_update_other s8.heap (Obj.mapSeq (·.push u8)) (Ne.symm hb)).trans e) nD Afp (.inr (At9 hDD)) Akb (fun p hp=>nomatch hp)
    refine⟨m',hm,i+1,some uT,some vT,some zT,H8,ys++[y8],us++[u8],_,I9,T.keep _ _ _ k1 fun b hb o e=>(Heap.get?_update_other s8.heap (Obj.mapSeq (·.push u8)) (Ne.symm (Dfp b hb))).trans e,k2,q,nD,rv.append (.cons r8 .nil),w8⟩
 exact codeAny_compStart_list (loop _ rfl) (T.self X.A 0 _ _ _ st1 (loop _ rfl))
theorem AkW{x x' x4:Str}{px px' p4 tp pos:Pos}{kx:Nat}{Nc:List Str}{BL:List Nat}{scope:Scope}{iter elt:Expr}{ifs:List Expr}{wi:TI}{tc:TT}{te:TE}(O:Xw X x x' x4 Nc BL scope)(hc:X.calm=true)(hi:PI X (.Tuple [.Name x px,.Name x' px',.Name x4 p4] kx tp) iter wi)
  (htc:∀ cl C fp s H,PIf (Ii X Nc scope cl C fp s H) ifs tc) (hte:∀ cl C fp s H,PE (Ii X Nc scope cl C fp s H) elt te) (hs:∀ x,foldedSetIterable iter X.env x=pure x:=by intro _;rfl) :
  PE X (.ListComp elt [⟨(.Tuple [.Name x px,.Name x' px',.Name x4 p4] kx tp),iter,ifs,0⟩] scope pos) (AkU X.K wi BL tc te):=by
 intro pins s σ H Q I h
 rw[eval_ListComp]
 obtain⟨cl,e1,e2,e3⟩:=Yq (scope:=scope) (env:=X.env) fun y hy hf=>I.ok.has y.1 (.inl (O.fr y hy hf).1)
 refine wpAny_comprehension_free (use:=none) rfl hs e1 O.kind O.names (thn (hi pins s σ H _ I h) fun v s1 h1=>thn h1 fun itv s2 h2=>?_)
 obtain⟨it,fp,tn,J,H2,e,I2,T,st2,f2,w2⟩:=h2
 subst e
 refine AgU (RR:=fun acc C=>compPost (model X.prog X.w) X.A X.xe none (EP X pins σ Q) acc C) O hc e2 e3 (hte cl) (htc cl) I2 T st2 f2 w2 ?_
 intro D C s' m hn hq hC
 refine⟨m,hn,fun h' hs'=>?_⟩
 obtain⟨H',I',_,q⟩:=hq h' hs'
 exact⟨.ref D,H',I',rfl,q⟩
theorem Aj6{K:PySem.W.Frag}{x x' x4:Str}{px px' p4 tp pos:Pos}{kx:Nat}{Nc:List Str}{BL:List Nat}{scope:Scope}{iter elt:Expr}{ifs:List Expr}{wi:TI}{tc:TT}{te:TE}(O:Xw X x x' x4 Nc BL scope)(hc:X.calm=true)(hi:PI X (.Tuple [.Name x px,.Name x' px',.Name x4 p4] kx tp) iter wi)
  (htc:∀ cl C fp s H,PIf (Ii X Nc scope cl C fp s H) ifs tc) (hte:∀ cl C fp s H,PE (Ii X Nc scope cl C fp s H) elt te) (hs:∀ x,foldedSetIterable iter X.env x=pure x:=by intro _;rfl) (hK:X.K=K:=by rfl) :
  PE X (.ListComp elt [⟨(.Tuple [.Name x px,.Name x' px',.Name x4 p4] kx tp),iter,ifs,0⟩] scope pos) (AkU K wi BL tc te):=by
 subst hK
 exact AkW O hc hi htc hte hs
theorem AhJ{K:PySem.W.Frag}{a:Addr}{xs:List V}{BL:List Nat}{tc:TT}{te:TE}{σ:St}{H:Hp}{Q:VK}(Pv:Nat→List V→Hp→Prop)(h0:Pv 0 [] H)(hl:∀ i ys H,i≤xs.length→Pv i ys H→SqL K H a xs∧ys.length≤i)
  (hz:xs.length≤sizeLine) (hs:∀ i x ys H,i<xs.length→xs[i]?=some x→Pv i ys H→∃ b u v z,x=.ref b∧SqT K H b [u,v,z]∧Ky xs.length Pv tc te (some u::some v::some z::JM σ BL) i ys H)
  (hd:∀ ys H p,Pv xs.length ys H→H p=none→Q (.ref p) (upd H p (.lst ys))):Af9 K BL tc te (Itl K a) σ H Q:=by
 refine⟨fun i m ys H=>m=xs.length-i∧i≤xs.length∧Pv i ys H,⟨xs.length,by simp,AsM _,h0⟩,?_⟩
 rintro i m ys H ⟨rfl,hi,p⟩
 obtain⟨q,hy⟩:=hl i ys H hi p
 by_cases hlt:i<xs.length
 ·refine .inr ⟨⟨xs,xs[i],q,by simp[hlt]⟩,by omega,fun x H' y=>?_⟩
  obtain⟨e,y⟩:=y
  subst e
  exact hs i x ys _ hlt (y xs q) p
 ·have e:i=xs.length:=by omega
  subst e
  exact .inl ⟨⟨xs,q,AsI _⟩,by omega,fun p' hp=>hd ys H p' p hp⟩
end
open PySem PySem.Spec PyProof.Rows
section
variable {prog:Program}{w:World}{A:Around}{E:Value→Shared→Prop}{s:Shared}{l:Addr}{xs:Array (Int × Tok)}
end
section
variable {X:Cx}{K:PySem.W.Frag}
end
theorem KC{P:Program}{w:World}{K:PySem.W.Frag}{mg:Str→Option Value}{base:Heap}{k:Nat}{f:Addr}{fd:FuncData}{ps:List Str}{sp:Sp}(F:Bp P w K mg base CX0 k f fd ps sp):Bp P w K mg base (CX1 P w) k f fd ps sp :=
 ⟨F.len,fun A outer s H args us vs Q E hr he hb hv h=>codeAny_mono (F.run A outer s H args us vs Q E hr he hb hv h) fun r s' c=>by
  match r,c with
  | .ok (.ret u),c=>exact c
  | .error e,c=>exact c.elim⟩
theorem Iv{P:Program}{w:World}{K:PySem.W.Frag}{mg:Str→Option Value}{base:Heap}{CX:CXT}{k:Nat}{f:Addr}{fd:FuncData}{ps:List Str}{s1 s2:Sp}(F:Bp P w K mg base CX k f fd ps s1)(G:Bp P w K mg base CX k f fd ps s2):Bp P w K mg base CX k f fd ps (fun vs H Q E=>s1 vs H Q E∨s2 vs H Q E) :=
 ⟨fun vs H Q E h=>h.elim (F.len vs H Q E) (G.len vs H Q E),fun A outer s H args us vs Q E hr he hb hv h=>h.elim (F.run A outer s H args us vs Q E hr he hb hv) (G.run A outer s H args us vs Q E hr he hb hv)⟩
open PySem PySem.Spec PyProof.Rows
section
variable {X:Cx}{t:XK→TS}{pos:Pos}
def ArS (K:PySem.W.Frag)(Ch:Addr)(t:XK→TS)(ts:TS):TS:=fun D σ H=>t (fun c _ H'=>∃ C,c=.ref C∧Sub K C Ch∧∀ ea,H' ea=none→ts D σ (upd H' ea (exH C ea))) D σ H
end
open PySem PySem.Spec PyProof.Rows
section
variable {X:Cx}{K:PySem.W.Frag}{o e value:Expr}{f:Str}{pos pos' tpos:Pos}{ta tv:TE}{st:Stmt}{t:TS}
theorem AkX(h:X.A.frames=some X.stack→PS X st t):PS X st t:=fun pins s σ H D I hw=>h I.ok.frames pins s σ H D I hw
end
structure Own (K:PySem.W.Frag) (C f:Addr):Prop where
 c:Cls K C
 m:Mk K C f
end L2
namespace Mine
open PySem L2
def top (i:Nat):Stmt:=PySem.Challenge.pw_heddle_k37_no_shuttle.main.body.getD i (.Pass ⟨0,0,0,0⟩)
abbrev Hj:Stmt:=top 17
theorem Ach:Cm ["cloth"] ["cloth"] (Ab Hj):=⟨rfl,rfl,rfl,by decide +kernel,rfl,by decide +kernel,by decide +kernel⟩
abbrev Cw:Stmt:=top 18
theorem FJ:Cm ["texts", "least", "signs", "ends", "text"] ["texts", "least", "signs"] (Ab Cw):=⟨rfl,rfl,rfl,by decide +kernel,rfl,by decide +kernel,by decide +kernel⟩
abbrev Ff:Stmt:=top 19
theorem Ld:Cm ["text", "ends", "signs", "sign"] ["text", "ends", "signs"] (Ab Ff):=⟨rfl,rfl,rfl,by decide +kernel,rfl,by decide +kernel,by decide +kernel⟩
abbrev Fj:Stmt:=top 20
theorem AfA:Cm ["cloth", "end"] ["cloth", "end"] (Ab Fj):=⟨rfl,rfl,rfl,by decide +kernel,rfl,by decide +kernel,by decide +kernel⟩
abbrev Es:Stmt:=top 22
theorem Sd:Cm ["cloth", "size", "of_ends"] ["cloth"] (Ab Es):=⟨rfl,rfl,rfl,by decide +kernel,rfl,by decide +kernel,by decide +kernel⟩
abbrev Ie:Stmt:=top 24
theorem Hy:Cm ["cloth", "size", "scores", "end_scores", "pick_scores", "tops", "ends", "picks", "crossings"] ["cloth"] (Ab Ie):=⟨rfl,rfl,rfl,by decide +kernel,rfl,by decide +kernel,by decide +kernel⟩
abbrev DY:Stmt:=top 25
theorem Gf:Cm ["cloth", "size", "scores", "ends", "picks", "tops", "layers", "upper", "lower"] ["cloth"] (Ab DY):=⟨rfl,rfl,rfl,by decide +kernel,rfl,by decide +kernel,by decide +kernel⟩
abbrev Cv:Stmt:=top 26
theorem Gn:Cm ["cloth", "layers", "numbers", "number", "layer", "strand"] ["cloth"] (Ab Cv):=⟨rfl,rfl,rfl,by decide +kernel,rfl,by decide +kernel,by decide +kernel⟩
abbrev Gs:Stmt:=top 29
theorem Gh:Cm ["cloth", "shuttles", "size", "pick_layers", "seams", "shuttle", "thrown"] ["cloth", "shuttles"] (Ab Gs):=⟨rfl,rfl,rfl,by decide +kernel,rfl,by decide +kernel,by decide +kernel⟩
abbrev Gu:Stmt:=top 30
theorem JC:Cm ["cloth", "shuttles", "seams"] ["cloth", "shuttles"] (Ab Gu):=⟨rfl,rfl,rfl,by decide +kernel,rfl,by decide +kernel,by decide +kernel⟩
abbrev Et:Stmt:=top 31
theorem Dm:Cm ["cloth", "shuttles", "seams", "bears", "upper", "lower", "side", "least", "most"] ["cloth", "shuttles"] (Ab Et):=⟨rfl,rfl,rfl,by decide +kernel,rfl,by decide +kernel,by decide +kernel⟩
abbrev Cy:Stmt:=top 32
theorem Ip:Cm ["shuttles", "picks", "shuttle"] ["shuttles", "picks"] (Ab Cy):=⟨rfl,rfl,rfl,by decide +kernel,rfl,by decide +kernel,by decide +kernel⟩
abbrev Eb:Stmt:=top 33
theorem JR:Cm ["thrown", "seams", "k", "side"] ["thrown"] (Ab Eb):=⟨rfl,rfl,rfl,by decide +kernel,rfl,by decide +kernel,by decide +kernel⟩
abbrev Hn:Stmt:=top 34
theorem AhK:Cm ["bears", "number"] ["bears", "number"] (Ab Hn):=⟨rfl,rfl,rfl,by decide +kernel,rfl,by decide +kernel,by decide +kernel⟩
abbrev DK:Stmt:=top 36
theorem Ho:Cm ["cloth", "size", "numbers", "pieces"] ["cloth"] (Ab DK):=⟨rfl,rfl,rfl,by decide +kernel,rfl,by decide +kernel,by decide +kernel⟩
abbrev Ey:Stmt:=top 37
theorem Vr:Cm ["cloth", "ends", "layer", "own_ends", "own_picks"] ["cloth", "ends", "layer"] (Ab Ey):=⟨rfl,rfl,rfl,by decide +kernel,rfl,by decide +kernel,by decide +kernel⟩
abbrev Iw:Stmt:=top 38
theorem Aj7:Cm ["text", "places"] ["text", "places"] (Ab Iw):=⟨rfl,rfl,rfl,by decide +kernel,rfl,by decide +kernel,by decide +kernel⟩
abbrev Ed:Stmt:=top 40
theorem Gv:Cm ["script", "many", "found", "step", "k"] ["script", "many"] (Ab Ed):=⟨rfl,rfl,rfl,by decide +kernel,rfl,by decide +kernel,by decide +kernel⟩
abbrev Gi:Stmt:=top 41
theorem Ej:Cm ["numbers", "wide", "high", "layered", "rows", "j", "row", "k", "at", "bit", "up", "low"] ["numbers", "wide", "high", "layered"] (Ab Gi):=⟨rfl,rfl,rfl,by decide +kernel,rfl,by decide +kernel,by decide +kernel⟩
abbrev Hk:Stmt:=top 42
theorem CW:Cm ["way", "given", "shuttles", "caught", "e", "word"] ["way", "given", "shuttles"] (Ab Hk):=⟨rfl,rfl,rfl,by decide +kernel,rfl,by decide +kernel,by decide +kernel⟩
abbrev DN:Stmt:=top 43
theorem UJ:Cm ["number", "some"] ["number"] (Ab DN):=⟨rfl,rfl,rfl,by decide +kernel,rfl,by decide +kernel,by decide +kernel⟩
abbrev BK:Stmt:=top 44
theorem CJ:Cm ["given", "fault", "numbers", "at", "row", "place"] ["given", "fault", "numbers"] (Ab BK):=⟨rfl,rfl,rfl,by decide +kernel,rfl,by decide +kernel,by decide +kernel⟩
abbrev BJ:Stmt:=top 45
theorem Gg:Cm ["shuttles", "fault", "numbers", "made", "far"] ["shuttles", "fault", "numbers"] (Ab BJ):=⟨rfl,rfl,rfl,by decide +kernel,rfl,by decide +kernel,by decide +kernel⟩
abbrev Vs:Stmt:=top 46
theorem Jy:Cm ["script", "numbers", "fault", "other", "high", "given", "shuttles", "bad", "odd", "way", "due"] ["script"] (Ab Vs):=⟨rfl,rfl,rfl,by decide +kernel,rfl,by decide +kernel,by decide +kernel⟩
abbrev Cg:Stmt:=(Io (top 1)).getD 0 (.Pass ⟨0,0,0,0⟩)
abbrev Ek:Stmt:=(Io (top 2)).getD 0 (.Pass ⟨0,0,0,0⟩)
abbrev CP:Stmt:=(Io (top 3)).getD 0 (.Pass ⟨0,0,0,0⟩)
abbrev Cz:Stmt:=(Io (top 4)).getD 0 (.Pass ⟨0,0,0,0⟩)
theorem Aas:Cm ["self"] ["self"] (Ab Cz):=⟨rfl,rfl,rfl,by decide +kernel,rfl,by decide +kernel,by decide +kernel⟩
abbrev Dp:Stmt:=(Io (top 5)).getD 0 (.Pass ⟨0,0,0,0⟩)
abbrev CQ:Stmt:=(Io (top 6)).getD 0 (.Pass ⟨0,0,0,0⟩)
abbrev DQ:Stmt:=(Io (top 7)).getD 0 (.Pass ⟨0,0,0,0⟩)
abbrev CT:Stmt:=(Io (top 8)).getD 0 (.Pass ⟨0,0,0,0⟩)
abbrev Cd:Stmt:=(Io (top 9)).getD 0 (.Pass ⟨0,0,0,0⟩)
theorem XN:Cm ["self"] ["self"] (Ab Cd):=⟨rfl,rfl,rfl,by decide +kernel,rfl,by decide +kernel,by decide +kernel⟩
abbrev CV:Stmt:=(Io (top 10)).getD 0 (.Pass ⟨0,0,0,0⟩)
abbrev Dq:Stmt:=(Io (top 11)).getD 0 (.Pass ⟨0,0,0,0⟩)
abbrev Cq:Stmt:=(Io (top 12)).getD 0 (.Pass ⟨0,0,0,0⟩)
abbrev Dt:Stmt:=(Io (top 13)).getD 0 (.Pass ⟨0,0,0,0⟩)
abbrev El:Stmt:=(Io (top 14)).getD 0 (.Pass ⟨0,0,0,0⟩)
set_option genInjectivity false in
structure Adr where
 Dw:Addr
 Gw:FuncData
 CG:Addr
 Hq:FuncData
 Fg:Addr
 JS:FuncData
 Hu:Addr
 Vt:FuncData
 GQ:Addr
 Ph:FuncData
 JD:Addr
 Ab3:FuncData
 GR:Addr
 CZ:FuncData
 Di:Addr
 HR:FuncData
 CK:Addr
 Ez:FuncData
 FP:Addr
 Jz:FuncData
 Eu:Addr
 Iz:FuncData
 Ci:Addr
 Gp:FuncData
 Gj:Addr
 QS:FuncData
 JF:Addr
 Ab4:FuncData
 DP:Addr
 Ig:FuncData
 IK:Addr
 Y4:FuncData
 Lz:Addr
 Ad7:FuncData
 Gk:Addr
 QT:FuncData
 Hv:Addr
 Vu:FuncData
 Gx:Addr
 KD:FuncData
 Fl:Addr
 NB:FuncData
 Dc:Addr
 J0:FuncData
 Ce:Addr
 Ik:FuncData
 Ad8:Addr
 Ant:FuncData
 By:Addr
 Dy:Addr
 XQ:FuncData
 BR:Addr
 Gy:Addr
 Ad9:FuncData
 Ar:Addr
 Em:Addr
 Aat:FuncData
 Ai:Addr
 Cj:Addr
 Hr:FuncData
 Ba:Addr
 EY:Addr
 Ab5:FuncData
 Av:Addr
 En:Addr
 Aau:FuncData
 Br:Addr
 FQ:Addr
 AcC:FuncData
 Aw:Addr
 Eo:Addr
 Aav:FuncData
 Af:Addr
 BW:Addr
 Gz:FuncData
 Ax:Addr
 Ep:Addr
 Aaw:FuncData
 Bb:Addr
 Fb:Addr
 Ab6:FuncData
 Am:Addr
 DW:Addr
 Y5:FuncData
 Bc:Addr
 Fd:Addr
 Ab7:FuncData
 BV:Addr
 G3:Addr
 AdA:FuncData
structure Txt (K:PySem.W.Frag) (mg:Str→Option Value) (t:Adr):Prop where
 measured:Df K mg "measured" Hj ["cloth"] t.Dw t.Gw
 Fo:Df K mg "measured_texts" Cw ["texts", "least", "signs"] t.CG t.Hq
 IV:Df K mg "check_pick" Ff ["text", "ends", "signs"] t.Fg t.JS
 Xx:Df K mg "end_signs" Fj ["cloth", "end"] t.Hu t.Vt
 KH:Df K mg "scores_of" Es ["cloth"] t.GQ t.Ph
 AcT:Df K mg "tops_of" Ie ["cloth"] t.JD t.Ab3
 KJ:Df K mg "layers_of" DY ["cloth"] t.GR t.CZ
 Ef:Df K mg "layer_numbers" Cv ["cloth"] t.Di t.HR
 Ca:Df K mg "seams_of" Gs ["cloth", "shuttles"] t.CK t.Ez
 HS:Df K mg "tubes_of" Gu ["cloth", "shuttles"] t.FP t.Jz
 GJ:Df K mg "sheets_of" Et ["cloth", "shuttles"] t.Eu t.Iz
 Dd:Df K mg "check_shuttles" Cy ["shuttles", "picks"] t.Ci t.Gp
 Pj:Df K mg "seams_along" Eb ["thrown"] t.Gj t.QS
 bearers:Df K mg "bearers" Hn ["bears", "number"] t.JF t.Ab4
 Fp:Df K mg "taken_apart" DK ["cloth"] t.DP t.Ig
 Aax:Df K mg "piece_of" Ey ["cloth", "ends", "layer"] t.IK t.Y4
 picked:Df K mg "picked" Iw ["text", "places"] t.Lz t.Ad7
 Pk:Df K mg "_law_numbers" Ed ["script", "many"] t.Gk t.QT
 Xy:Df K mg "_law_cloth" Gi ["numbers", "wide", "high", "layered"] t.Hv t.Vu
 HW:Df K mg "_law_word" Hk ["way", "given", "shuttles"] t.Gx t.KD
 Nb:Df K mg "_law_odd_sign" DN ["number"] t.Fl t.NB
 Jc:Df K mg "_law_spoilt_cloth" BK ["given", "fault", "numbers"] t.Dc t.J0
 Hl:Df K mg "_law_spoilt_shuttles" BJ ["shuttles", "fault", "numbers"] t.Ce t.Ik
 law:Df K mg "law" Vs ["script"] t.Ad8 t.Ant
 Sh:mg "ValueError" = none
 AgV:mg "enumerate" = none
 ApT:mg "int" = none
 Bu:mg "isinstance" = none
 Ir:mg "len" = none
 Ab8:mg "list" = none
 AgW:mg "max" = none
 Anu:mg "min" = none
 GX:mg "range" = none
 Anv:mg "set" = none
 NK:mg "sorted" = none
 AkY:mg "sum" = none
 ApU:mg "zip" = none
 JT:∃ tk,mg "MOST_STRANDS" = some (.int 40 tk)
 Y6:∃ tk,mg "SHUTTLES" = some (.int 8 tk)
 Sq:mg "WeaveError" = some (.ref t.By)
 Ss:Exn K t.By
 AmD:Mf K "called" "WeaveError.called" Cg ["self"] t.By t.Dy t.XQ
 AfB:mg "NoRow" = some (.ref t.BR)
 AiF:Exn K t.BR
 Aqr:Mf K "called" "NoRow.called" Ek ["self"] t.BR t.Gy t.Ad9
 Y7:mg "TooLarge" = some (.ref t.Ar)
 AdB:Exn K t.Ar
 Ao3:Mf K "called" "TooLarge.called" CP ["self"] t.Ar t.Em t.Aat
 Ih:mg "NoCloth" = some (.ref t.Ai)
 Du:Exn K t.Ai
 R4:Mf K "called" "NoCloth.called" Cz ["self"] t.Ai t.Cj t.Hr
 Ck:PySem.W.mroIn K t.Ai (.ref t.By)=some true
 HX:PySem.W.mroIn K t.Ai (.ref t.BR)=some false
 G4:PySem.W.mroIn K t.Ai (.ref t.Ar)=some false
 Az:PySem.W.mroIn K t.Ai (.ref t.Ai)=some true
 GZ:PySem.W.mroIn K t.Ai (.ref t.Ba)=some false
 G5:PySem.W.mroIn K t.Ai (.ref t.Av)=some false
 Hs:PySem.W.mroIn K t.Ai (.ref t.Br)=some false
 G6:PySem.W.mroIn K t.Ai (.ref t.Aw)=some false
 FW:PySem.W.mroIn K t.Ai (.ref t.Af)=some false
 G7:PySem.W.mroIn K t.Ai (.ref t.Ax)=some false
 Ha:PySem.W.mroIn K t.Ai (.ref t.Bb)=some false
 FZ:PySem.W.mroIn K t.Ai (.ref t.Am)=some false
 Hb:PySem.W.mroIn K t.Ai (.ref t.Bc)=some false
 HY:PySem.W.mroIn K t.Ai (.ref t.BV)=some false
 Ab9:mg "NoDraft" = some (.ref t.Ba)
 AeU:Exn K t.Ba
 AoZ:Mf K "called" "NoDraft.called" Dp ["self"] t.Ba t.EY t.Ab5
 Y8:mg "NoStrand" = some (.ref t.Av)
 AdC:Exn K t.Av
 Ao4:Mf K "called" "NoStrand.called" CQ ["self"] t.Av t.En t.Aau
 AdD:mg "NoDeed" = some (.ref t.Br)
 AgX:Exn K t.Br
 ApV:Mf K "called" "NoDeed.called" DQ ["self"] t.Br t.FQ t.AcC
 Y9:mg "NoLaying" = some (.ref t.Aw)
 AdE:Exn K t.Aw
 Ao5:Mf K "called" "NoLaying.called" CT ["self"] t.Aw t.Eo t.Aav
 Hw:mg "NoShuttle" = some (.ref t.Af)
 Dg:Exn K t.Af
 Vv:Mf K "called" "NoShuttle.called" Cd ["self"] t.Af t.BW t.Gz
 Cr:PySem.W.mroIn K t.Af (.ref t.By)=some true
 Hd:PySem.W.mroIn K t.Af (.ref t.BR)=some false
 Fq:PySem.W.mroIn K t.Af (.ref t.Ar)=some false
 Er:PySem.W.mroIn K t.Af (.ref t.Ai)=some false
 Ga:PySem.W.mroIn K t.Af (.ref t.Ba)=some false
 Ft:PySem.W.mroIn K t.Af (.ref t.Av)=some false
 G8:PySem.W.mroIn K t.Af (.ref t.Br)=some false
 Fv:PySem.W.mroIn K t.Af (.ref t.Aw)=some false
 Al:PySem.W.mroIn K t.Af (.ref t.Af)=some true
 Fy:PySem.W.mroIn K t.Af (.ref t.Ax)=some false
 Gb:PySem.W.mroIn K t.Af (.ref t.Bb)=some false
 Ex:PySem.W.mroIn K t.Af (.ref t.Am)=some false
 Gd:PySem.W.mroIn K t.Af (.ref t.Bc)=some false
 Hf:PySem.W.mroIn K t.Af (.ref t.BV)=some false
 YB:mg "NoColour" = some (.ref t.Ax)
 AdF:Exn K t.Ax
 Ao6:Mf K "called" "NoColour.called" CV ["self"] t.Ax t.Ep t.Aaw
 AbA:mg "NoBlock" = some (.ref t.Bb)
 AeV:Exn K t.Bb
 Apa:Mf K "called" "NoBlock.called" Dq ["self"] t.Bb t.Fb t.Ab6
 Vw:mg "NoPattern" = some (.ref t.Am)
 Aci:Exn K t.Am
 Anw:Mf K "called" "NoPattern.called" Cq ["self"] t.Am t.DW t.Y5
 AbB:mg "Unknown" = some (.ref t.Bc)
 AeW:Exn K t.Bc
 Apb:Mf K "called" "Unknown.called" Dt ["self"] t.Bc t.Fd t.Ab7
 AfC:mg "Twice" = some (.ref t.BV)
 AiG:Exn K t.BV
 Aqs:Mf K "called" "Twice.called" El ["self"] t.BV t.G3 t.AdA
theorem bl1{fd:FuncData}{ps:List Str}(h:∀ a0:Value,bindArgs fd ⟨[a0],[]⟩=pure (ps.zip [a0]))(us:List Value)(hl:us.length=1):bindArgs fd ⟨us,[]⟩=pure (ps.zip us):=by
 rcases us with _ | ⟨a0,us⟩
 ·cases hl
 rcases us with _ | ⟨b,us⟩
 ·exact h a0
 ·cases hl
theorem bl2{fd:FuncData}{ps:List Str}(h:∀ a0 a1:Value,bindArgs fd ⟨[a0,a1],[]⟩=pure (ps.zip [a0,a1]))(us:List Value)(hl:us.length=2):bindArgs fd ⟨us,[]⟩=pure (ps.zip us):=by
 rcases us with _ | ⟨a0,us⟩
 ·cases hl
 rcases us with _ | ⟨a1,us⟩
 ·cases hl
 rcases us with _ | ⟨b,us⟩
 ·exact h a0 a1
 ·cases hl
theorem bl3{fd:FuncData}{ps:List Str}(h:∀ a0 a1 a2:Value,bindArgs fd ⟨[a0,a1,a2],[]⟩=pure (ps.zip [a0,a1,a2]))(us:List Value)(hl:us.length=3):bindArgs fd ⟨us,[]⟩=pure (ps.zip us):=by
 rcases us with _ | ⟨a0,us⟩
 ·cases hl
 rcases us with _ | ⟨a1,us⟩
 ·cases hl
 rcases us with _ | ⟨a2,us⟩
 ·cases hl
 rcases us with _ | ⟨b,us⟩
 ·exact h a0 a1 a2
 ·cases hl
theorem bl4{fd:FuncData}{ps:List Str}(h:∀ a0 a1 a2 a3:Value,bindArgs fd ⟨[a0,a1,a2,a3],[]⟩=pure (ps.zip [a0,a1,a2,a3]))(us:List Value)(hl:us.length=4):bindArgs fd ⟨us,[]⟩=pure (ps.zip us):=by
 rcases us with _ | ⟨a0,us⟩
 ·cases hl
 rcases us with _ | ⟨a1,us⟩
 ·cases hl
 rcases us with _ | ⟨a2,us⟩
 ·cases hl
 rcases us with _ | ⟨a3,us⟩
 ·cases hl
 rcases us with _ | ⟨b,us⟩
 ·exact h a0 a1 a2 a3
 ·cases hl
section
variable {P:Program}{w:World}{K:PySem.W.Frag}{mg:Str→Option Value}{base:Heap}{t:Adr}
def AeX (z:Str):Sp:=fun vs H Q _=>∃ v,vs=[v]∧Q (.str z) H
theorem JV(T:Txt K mg t):Bp P w K mg base CX0 1 t.Cj t.Hr ["self"] (AeX "NoCloth") :=
 T.R4.F.ok Aas (fun vs H Q E h=>by obtain⟨v,rfl,_⟩:=h;rfl) fun cdv A outer s H vs Q E hr h=>by
  obtain⟨v,rfl,k⟩:=h
  exact⟨_,Ah (BP Bx),k⟩
theorem Jl(T:Txt K mg t):Bp P w K mg base CX0 1 t.BW t.Gz ["self"] (AeX "NoShuttle") :=
 T.Vv.F.ok XN (fun vs H Q E h=>by obtain⟨v,rfl,_⟩:=h;rfl) fun cdv A outer s H vs Q E hr h=>by
  obtain⟨v,rfl,k⟩:=h
  exact⟨_,Ah (BP Bx),k⟩
end
section
variable {P:Program}{w:World}{K:PySem.W.Frag}{mg:Str→Option Value}{base:Heap}{t:Adr}
theorem z0(i:Nat):(0+(i:Int)).toNat=i:=by omega
theorem e35:(V.str ⟨#[35]⟩:V)=V.str "#" := congrArg V.str (by decide +kernel)
theorem e46:(V.str ⟨#[46]⟩:V)=V.str "." := congrArg V.str (by decide +kernel)
theorem Xz{n:Nat}(h:n≤40):n≤sizeLine:=AsX h (by decide)
theorem occ{c:Nat}(h:Sg c):(!(!(Builtin.Str.occurrences "#." ⟨#[c]⟩ 0 (Str.length "#.") 1).isEmpty))=false:=by
 rcases h with h | h <;> subst h <;> decide +kernel
def Ae9:Sp:=fun vs H Q _=>∃(t:List Nat),vs=[.str (tx t),.int (t.length:Int),.str "#."]∧(∀ c∈t,Sg c)∧t.length≤40∧Q .non H
theorem AeA(T:Txt K mg t):Bp P w K mg base CX0 1 t.Fg t.JS ["text", "ends", "signs"] Ae9:=by
 refine T.IV.F.ok Ld (fun vs H Q E h=>?_) (fun cdv A outer s H vs Q E hr h=>?_)
 ·obtain⟨t,rfl,_⟩:=h
  rfl
 ·obtain⟨t,rfl,hsg,hl,k⟩:=h
  refine⟨_,(Ac (Cu (An Aad (Ao JL rfl T.Ir Ge (Aa (pv 0) Ad)) (pv 1) (Be _))
    (Ah Ru)
    Bo)
   (Ah (Hx PassesOwn.never rfl (Akc (pv 0)) (Dj (i:=3) Ld.nd rfl (Or.inl rfl))
    (Ah (Cu (An Aae (pv 3) (pv 2) rfl)
     (Ah Ru)
     Bo))))),?_⟩
  refine⟨_,rfl,_,rfl,(by rw[Ei];exact Xz hl),_,rfl,rfl,_,rfl,?_⟩
  refine Aah (by rw[Ei]) ?_
  refine⟨_,rfl,_,rfl,Ain (z:=tx t) (fun i σ H2=>∃ v,σ=[some (.str (tx t)),some (.int (t.length:Int)),some (.str "#."),v]∧H2=H) ⟨none,rfl,rfl⟩ ?_ ?_⟩
  ·rintro i c σ H2 hc ⟨v,rfl,rfl⟩
   rw[Afr] at hc
   refine⟨_,rfl,_,rfl,_,_,rfl,rfl,_,rfl,?_⟩
   rw[occ (hsg c (AsS hc))]
   exact XJ ⟨_,rfl,rfl⟩
  ·rintro σ H2 ⟨v,rfl,rfl⟩
   exact k
def Aay (K:PySem.W.Frag):Sp:=fun vs H Q _=>∃(a:Addr) (cl:List (List Nat)) (m n:Nat),vs=[.ref a,.int 1,.str "#."]∧SqL K H a (vS cl)∧Cl cl m n∧∀ p,H p=none→Q (.ref p) (upd H p (.tup [.int (m:Int),.int (n:Int)]))
theorem Aaz(T:Txt K mg t):Bp P w K mg base CX0 2 t.CG t.Hq ["texts", "least", "signs"] (Aay K):=by
 have Su:Bp P w K mg base CX0 1 t.Fg t.JS _ _:=AeA T
 refine T.Fo.F.ok FJ (fun vs H Q E h=>?_) (fun cdv A outer s H vs Q E hr h=>?_)
 ·obtain⟨a,cl,m,n,rfl,_⟩:=h
  rfl
 ·obtain⟨a,cl,m,n,rfl,hS,C,k⟩:=h
  have hlen:(vS cl).length=n:=by rw[Ij,C.hn]
  have h0:0<cl.length:=by rw[C.hn];exact C.n1
  have hm0:=C.hm cl[0] (AsV h0)
  have c1:=C.n1
  have c2:=C.n40
  have c3:=C.m1
  have c4:=C.m40
  refine⟨_,(Ac (Cu (PW.pt (pw_or (An Acd (Ao (Bt (K:=K)) rfl T.Ir Ge (Aa (pv 0) Ad)) (pv 1) (Be _)) (pw_or1 (An Yj (Ao (Bt (K:=K)) rfl T.Ir Ge (Aa (pv 0) Ad)) (Bj (v:=.int 40) rfl T.JT.choose_spec ⟨_,rfl⟩) (Be _)))))
    (Ah Ru)
    Bo)
   (Ac (Aq (i:=3) FJ.nd rfl (Or.inl rfl) (Ao JL rfl T.Ir Ge (Aa (Bv (Bg (K:=K)) (pv 0) Ag (fun _ _=>rfl)) Ad)))
   (Ac (Cu (PW.pt (pw_or (An Acd (pv 3) (pv 1) (Be _)) (pw_or1 (An Yj (pv 3) (Bj (v:=.int 40) rfl T.JT.choose_spec ⟨_,rfl⟩) (Be _)))))
    (Ah Ru)
    Bo)
   (Ac (Hx PassesOwn.never rfl (Ew (K:=K) (pv 0)) (Dj (i:=4) FJ.nd rfl (Or.inl rfl))
    (Ah (Ja (Bw (Su.mono (by decide)) hr rfl T.IV.m T.IV.F.kp T.IV.b .nil Fz (Aa (pv 4) (Aa (pv 3) (Aa (pv 2) Ad)))))))
   (Ah (BP (K5 (Aa (pv 3) (Aa (Ao (Bt (K:=K)) rfl T.Ir Ge (Aa (pv 0) Ad)) Ad))))))))),?_⟩
  refine⟨_,rfl,_,_,rfl,.inl hS,_,rfl,_,_,rfl,rfl,_,rfl,?_⟩
  refine Iu (by rw[hlen];omega) ?_
  refine⟨_,rfl,_,_,rfl,.inl hS,_,_,rfl,rfl,_,rfl,?_⟩
  refine Iu (by rw[hlen];omega) ?_
  refine⟨_,rfl,_,_,_,_,rfl,rfl,hS,Dk (by decide) (Adj (AsJ h0)),_,rfl,(by rw[Ei,hm0];exact Xz c4),?_⟩
  rw[Ei,hm0]
  refine⟨_,rfl,_,rfl,_,_,rfl,rfl,_,rfl,?_⟩
  refine Iu (by omega) ?_
  refine⟨_,rfl,_,_,rfl,rfl,_,rfl,?_⟩
  refine Iu (by omega) ?_
  refine⟨_,rfl,_,rfl,⟨_,hS⟩,Rw (K:=K) (a:=a) (xs:=vS cl) (fun i σ H2=>∃ v,σ=[some (.ref a),some (.int 1),some (.str "#."),some (.int (m:Int)),v]∧H2=H) ⟨none,rfl,rfl⟩ (fun i σ H2 _ ⟨_,_,e⟩=>e▸hS) ?_ ?_⟩
  ·rintro i x σ H2 hx ⟨v,rfl,rfl⟩
   obtain⟨t,ht,rfl⟩:=Adk hx
   have htm:=AsS ht
   refine⟨_,rfl,_,rfl,_,rfl,t,?_,C.sg t htm,?_,⟨_,rfl,rfl⟩⟩
   ·rw[C.hm t htm];rfl
   ·rw[C.hm t htm];exact c4
  ·rintro σ H2 ⟨v,rfl,rfl⟩
   refine⟨_,rfl,_,rfl,_,_,rfl,.inl hS,(by show 2≤sizeLine;decide),fun p hp=>?_⟩
   rw[hlen]
   exact k p hp
def AgY (K:PySem.W.Frag):Sp:=fun vs H Q _=>∃(a:Addr) (cl:List (List Nat)) (m n:Nat),vs=[.ref a]∧SqL K H a (vS cl)∧Cl cl m n∧∀ p,H p=none→Q (.ref p) (upd H p (.tup [.int (m:Int),.int (n:Int)]))
theorem JG(T:Txt K mg t):Bp P w K mg base CX0 3 t.Dw t.Gw ["cloth"] (AgY K):=by
 have KN:Bp P w K mg base CX0 2 t.CG t.Hq _ _:=Aaz T
 refine T.measured.F.ok Ach (fun vs H Q E h=>?_) (fun cdv A outer s H vs Q E hr h=>?_)
 ·obtain⟨a,cl,m,n,rfl,_⟩:=h
  rfl
 ·obtain⟨a,cl,m,n,rfl,hS,C,k⟩:=h
  exact⟨_,(Ah (BP (Bw (KN.mono (by decide)) hr rfl T.Fo.m T.Fo.F.kp T.Fo.b .nil Fz (Aa (pv 0) (Aa Ag (Aa Bx Ad)))))),_,rfl,a,cl,m,n,rfl,hS,C,k⟩
def AfD (K:PySem.W.Frag):Sp:=fun vs H Q _=>∃(a:Addr) (cl:List (List Nat)) (m n e:Nat),vs=[.ref a,.int (e:Int)]∧SqL K H a (vS cl)∧Cl cl m n∧e<m∧∀ H',Bl H H'→Q (.str (tx (col cl e))) H'
theorem AfE(T:Txt K mg t):Bp P w K mg base CX0 1 t.Hu t.Vt ["cloth", "end"] (AfD K):=by
 refine T.Xx.F.ok AfA (fun vs H Q E h=>?_) (fun cdv A outer s H vs Q E hr h=>?_)
 ·obtain⟨a,cl,m,n,e,rfl,_⟩:=h
  rfl
 ·obtain⟨a,cl,m,n,e,rfl,hS,C,he,k⟩:=h
  have c2:=C.n40
  have c4:=C.m40
  refine⟨_,(Ah (BP (Mr (K:=K) PySem.F.plainAttrs_str PySem.F.slot_str_join PySem.F.type_str_join (Agq (K:=K)) Bx (Aa (JN (Hh.mk (BL:=[1]) (Nc:=["text", "end"]) rfl (by decide +kernel) (by decide +kernel) (GP (sc0:=Ab Fj) rfl (by decide +kernel)) rfl rfl rfl (by decide +kernel) (fun k j h=>match k,h with | 0,h=>by obtain rfl:=Option.some.inj h;exact⟨_,rfl,rfl,rfl⟩ | _+1,h=>by simp at h)) rfl (Ew (K:=K) (pv 0)) (fun _ _ _ _ _=>.nil) (fun _ _ _ _ _=>(Bv Ada (pv 0) (pv 1) (fun _ _=>rfl)))) Ad)))),?_⟩
  refine⟨rfl,_,rfl,_,rfl,⟨_,hS⟩,Hm (K:=K) (a:=a) (xs:=vS cl) (fun i ys H2=>H2=H∧ys=vS ((cl.take i).map fun t=>[t.getD e 0])) ⟨rfl,rfl⟩ ?_ ?_ ?_ ?_⟩
  ·rintro i ys H2 hi ⟨rfl,rfl⟩
   refine⟨hS,?_⟩
   rw[Ij,AsH,Atd]
   omega
  ·rw[Ij,C.hn];exact Xz c2
  ·rintro i x ys H2 hi hx ⟨rfl,rfl⟩
   obtain⟨t,ht,rfl⟩:=Adk hx
   have htm:=AsS ht
   have htl:=C.hm t htm
   have hel:e<t.length:=by omega
   refine Ky.no ?_
   refine⟨_,rfl,_,rfl,_,_,t[e],rfl,rfl,(by rw[Ei,htl];exact Xz c4),(by rw[Aio];exact Aim (AsJ hel)),?_⟩
   refine CN.of hi ⟨rfl,?_⟩
   rw[Yr,Yu,Atm,ht,AsP]
   simp[List.getD,hel]
  ·rintro ys H2 p ⟨rfl,rfl⟩ hp
   rw[Ij,At2]
   refine⟨_,_,((cl.map fun t=>[t.getD e 0]).map tx),rfl,rfl,SqL.of (by rw[Ae,Akh]),?_,?_⟩
   ·have e1:=AnP (fun t:List Nat=>t.getD e 0) cl
    rw[e1,AsH,AsH,C.hn]
    have:n*(Str.length "")=0:=by rw[show Str.length "" = 0 from by decide +kernel];omega
    omega
   ·rw[show(("" : Str))=tx [] from by decide +kernel,Aip]
    have e2:(cl.map fun t=>[t.getD e 0]).flatten=col cl e:=Ake (fun t:List Nat=>t.getD e 0) cl
    rw[e2]
    exact k _ (.upd hp)
def Aj8 (K:PySem.W.Frag):Sp:=fun vs H Q _=>∃(a:Addr) (cl:List (List Nat)) (m n:Nat),vs=[.ref a]∧SqL K H a (vS cl)∧Cl cl m n∧∀ l H',Bl H H'→H l=none→H' l=some (.lst (vI (Hi cl m)))→Q (.ref l) H'
theorem Aa0(T:Txt K mg t):Bp P w K mg base CX0 4 t.GQ t.Ph ["cloth"] (Aj8 K):=by
 have DX:Bp P w K mg base CX0 3 t.Dw t.Gw _ _:=JG T
 have AgZ:Bp P w K mg base CX0 1 t.Hu t.Vt _ _:=AfE T
 refine T.KH.F.ok Sd (fun vs H Q E h=>?_) (fun cdv A outer s H vs Q E hr h=>?_)
 ·obtain⟨a,cl,m,n,rfl,_⟩:=h
  rfl
 ·obtain⟨a,cl,m,n,rfl,hS,C,k⟩:=h
  have c2:=C.n40
  have c4:=C.m40
  refine⟨_,(Ac (Aq (i:=1) Sd.nd rfl (Or.inl rfl) (Bw (DX.mono (by decide)) hr rfl T.measured.m T.measured.F.kp T.measured.b .nil Fz (Aa (pv 0) Ad)))
   (Ac (Aak (i:=2) (Hh.mk (BL:=[0]) (Nc:=["end", "cloth"]) rfl (by decide +kernel) (by decide +kernel) (GP (sc0:=Ab Es) rfl (by decide +kernel)) rfl rfl rfl (by decide +kernel) (fun k j h=>match k,h with | 0,h=>by obtain rfl:=Option.some.inj h;exact⟨_,rfl,rfl,rfl⟩ | _+1,h=>by simp at h)) rfl Sd.nd rfl rfl (Gm rfl T.GX (Aa (Bv (Fe (K:=K)) (pv 1) Ag (fun _ _=>rfl)) Ad)) (fun _ _ _ _ _=>.nil) (fun _ _ _ _ _=>(Mr (K:=K) PySem.F.plainAttrs_str PySem.F.slot_str_count PySem.F.type_str_count Agv (Bw (AgZ.mono (by decide)) hr rfl T.Xx.m T.Xx.F.kp T.Xx.b .nil Fz (Aa (pv 1) (Aa (pv 0) Ad))) (Aa Bx Ad))) rfl)
   (Ah (BP (Bd Afm (pv 2) (JN (Hh.mk (BL:=[]) (Nc:=["text"]) rfl (by decide +kernel) (by decide +kernel) (GP (sc0:=Ab Es) rfl (by decide +kernel)) rfl rfl rfl (by decide +kernel) (fun _ _ h=>by simp at h)) rfl (Ew (K:=K) (pv 0)) (fun _ _ _ _ _=>.nil) (fun _ _ _ _ _=>(Mr (K:=K) PySem.F.plainAttrs_str PySem.F.slot_str_count PySem.F.type_str_count Agv (pv 0) (Aa Bx Ad))))))))),?_⟩
  refine⟨_,rfl,a,cl,m,n,rfl,hS,C,fun p hp=>?_⟩
  have s1:Bl H (upd H p (.tup [.int (m:Int),.int (n:Int)])):=.upd hp
  have gp:SqT K (upd H p (.tup [.int (m:Int),.int (n:Int)])) p [.int (m:Int),.int (n:Int)]:=SqT.of Ae
  refine⟨_,rfl,_,_,_,_,rfl,rfl,gp,Dk (by decide) rfl,_,rfl,(by omega),(by omega),?_⟩
  rw[Ate]
  refine Nv (lo:=0) (n:=m) (fun i ys H2=>Bl H H2∧ys=vI ((List.range i).map fun e=>(((col cl e).count 35:Nat):Int))) ⟨s1,rfl⟩ ?_ ?_ ?_ ?_
  ·rintro i ys H2 hi ⟨s2,rfl⟩
   rw[Bs,AsH,AsQ]
   exact AsI _
  ·exact Xz c4
  ·rintro i ys H2 hi ⟨s2,rfl⟩
   refine Ky.no ?_
   refine⟨_,rfl,_,rfl,a,cl,m,n,i,(by rw[AtH] <;> rfl),s2.seq hS,C,hi,fun H3 s3=>?_⟩
   refine⟨rfl,col cl i,35,rfl,(by rw[e35]),?_⟩
   refine CN.of hi ⟨s2.trans s3,?_⟩
   rw[Yt,At0,AsP]
   rfl
  ·rintro ys H2 q ⟨s2,rfl⟩ hq
   have s3:Bl H (upd H2 q (.lst (vI ((List.range m).map fun e=>(((col cl e).count 35:Nat):Int))))):=s2.new hq
   refine⟨_,rfl,_,rfl,_,rfl,⟨_,s3.seq hS⟩,Hm (K:=K) (a:=a) (xs:=vS cl) (fun i ys H4=>H4=upd H2 q (.lst (vI ((List.range m).map fun e=>(((col cl e).count 35:Nat):Int))))∧ys=vI ((cl.take i).map fun t=>((t.count 46:Nat):Int))) ⟨rfl,rfl⟩ ?_ ?_ ?_ ?_⟩
   ·rintro i ys H4 hi ⟨rfl,rfl⟩
    refine⟨s3.seq hS,?_⟩
    rw[Bs,AsH,Atd]
    omega
   ·rw[Ij,C.hn];exact Xz c2
   ·rintro i x ys H4 hi hx ⟨rfl,rfl⟩
    obtain⟨t,ht,rfl⟩:=Adk hx
    refine Ky.no ?_
    refine⟨_,rfl,rfl,t,46,rfl,(by rw[e46]),?_⟩
    refine CN.of hi ⟨rfl,?_⟩
    rw[Yt,Atm,ht,AsP]
    rfl
   ·rintro ys H4 q2 ⟨rfl,rfl⟩ hq2
    rw[Ij,At2]
    have hq4:(upd (upd H2 q (.lst (vI ((List.range m).map fun e=>(((col cl e).count 35:Nat):Int))))) q2 (.lst (vI (cl.map fun t=>((t.count 46:Nat):Int))))) q=some (.lst (vI ((List.range m).map fun e=>(((col cl e).count 35:Nat):Int)))):=(Bl.upd hq2) _ _ Ae
    refine⟨_,_,_,_,rfl,rfl,hq4,Ae,(by rw[Bs,Bs,AsH,AsH,AsQ,C.hn,sizeLine_eq];omega),fun l hl=>?_⟩
    have e:vI ((List.range m).map fun e=>(((col cl e).count 35:Nat):Int))++vI (cl.map fun t=>((t.count 46:Nat):Int))=vI (Hi cl m):=by
     unfold vI Hi
     rw[AsP]
    rw[e]
    exact k l _ ((s3.new hq2).new hl) ((s3.new hq2).free hl) Ae
structure PL (H:Hp) (l:Addr) (ps:List Addr) (zs:List (Nat × Nat)):Prop where
 h:H l=some (.lst (ps.map V.ref))
 len:ps.length=zs.length
 at_:∀(i:Nat) (p:Addr) (z:Nat × Nat),ps[i]?=some p→zs[i]?=some z→H p=some (.tup [.int (z.1:Int),.int (z.2:Int)])
theorem PL.same{H H':Hp}{l:Addr}{ps:List Addr}{zs:List (Nat × Nat)}(N:PL H l ps zs)(s:Bl H H'):PL H' l ps zs:=⟨s _ _ N.h,N.len,fun i p z e1 e2=>s _ _ (N.at_ i p z e1 e2)⟩
theorem PL.app{H:Hp}{l tp:Addr}{ps:List Addr}{zs:List (Nat × Nat)}{z:Nat × Nat}(N:PL H l ps zs)(ht:H tp=some (.tup [.int (z.1:Int),.int (z.2:Int)])) :
  PL (upd H l (.lst (ps.map V.ref++[.ref tp]))) l (ps++[tp]) (zs++[z]):=by
 refine⟨by rw[Ae,AsP];rfl,by rw[AsN,AsN,N.len];rfl,fun i p y e1 e2=>?_⟩
 have pl:H p=some (.tup [.int (y.1:Int),.int (y.2:Int)]):=by
  by_cases hi:i<ps.length
  ·rw[Atu hi] at e1
   rw[Atu (by rw[← N.len];exact hi)] at e2
   exact N.at_ i p y e1 e2
  ·have hi2:=(List.getElem?_eq_some_iff.mp e1).1
   rw[AsN] at hi2
   have e:i=ps.length:=by have:[tp].length=1:=rfl;omega
   rw[e,Ats (AsI _),At7] at e1
   rw[e,N.len,Ats (AsI _),At7] at e2
   cases e1
   cases e2
   exact ht
 rw[Bh (fun e=>by rw[e,N.h] at pl;cases pl)]
 exact pl
theorem PL.get{H:Hp}{l:Addr}{ps:List Addr}{zs:List (Nat × Nat)}(N:PL H l ps zs){i:Nat}{z:Nat × Nat}(h:zs[i]?=some z):∃ p,(ps.map V.ref)[i]?=some (.ref p)∧H p=some (.tup [.int (z.1:Int),.int (z.2:Int)]):=by
 have hi:i<ps.length:=by rw[N.len];exact(List.getElem?_eq_some_iff.mp h).1
 exact⟨ps[i],by rw[AsU,AsJ hi];rfl,N.at_ i _ z (AsJ hi) h⟩
theorem AfF{ks:List Int}{k:Nat}(h:k≤ks.length):Lw (vI ks) none (some (k:Int))=vI (ks.take k):=by
 unfold Lw
 rw[HT.Aag,HT.Lb,AtX,Bs,Atq h,AtZ]
 unfold vI
 rw[At1]
theorem Aj9{ks:List Int}{k:Nat}(h:k≤ks.length):Lw (vI ks) (some (k:Int)) none=vI (ks.drop k):=by
 unfold Lw
 have e1:HT.sIx (vI ks).length 0 (some (k:Int))=k:=by rw[HT.Lb,Bs,Atq h]
 have e2:HT.sIx (vI ks).length (vI ks).length none=(vI ks).length:=rfl
 rw[e1,e2]
 unfold vI
 rw[← At8]
 exact Atc (by rw[AsH,AsH,Atg];omega)
def AmE (K:PySem.W.Frag):Sp:=fun vs H Q _=>∃(a:Addr) (cl:List (List Nat)) (m n:Nat),vs=[.ref a]∧SqL K H a (vS cl)∧Cl cl m n ∧
 ∀ l H' ps dA dB,Bl H H'→H l=none→dA.Perm (eS cl m)→dB.Perm (pS cl)→dA.Pairwise (· ≥ ·)→dB.Pairwise (· ≥ ·)→PL H' l ps (K7 (Pz m n dA dB) n (m+1))→Q (.ref l) H'
theorem AhL(T:Txt K mg t):Bp P w K mg base CX0 5 t.JD t.Ab3 ["cloth"] (AmE K):=by
 have DX:Bp P w K mg base CX0 3 t.Dw t.Gw _ _:=JG T
 have Vx:Bp P w K mg base CX0 4 t.GQ t.Ph _ _:=Aa0 T
 refine T.AcT.F.ok Hy (fun vs H Q E h=>?_) (fun cdv A outer s H vs Q E hr h=>?_)
 ·obtain⟨a,cl,m,n,rfl,_⟩:=h
  rfl
 ·obtain⟨a,cl,m,n,rfl,hS,C,k⟩:=h
  have c2:=C.n40
  have c4:=C.m40
  have hsz:sizeLine=16777216:=sizeLine_eq
  refine⟨_,(Ac (Aq (i:=1) Hy.nd rfl (Or.inl rfl) (Bw (DX.mono (by decide)) hr rfl T.measured.m T.measured.F.kp T.measured.b .nil Fz (Aa (pv 0) Ad)))
   (Ac (Aq (i:=2) Hy.nd rfl (Or.inl rfl) (Bw (Vx.mono (by decide)) hr rfl T.KH.m T.KH.F.kp T.KH.b .nil Fz (Aa (pv 0) Ad)))
   (Ac (Aq (i:=3) Hy.nd rfl (Or.inl rfl) (Agy (K:=K) rfl T.NK (FT (HJ (K:=K)) (pv 2) Im (G9 (Bv (Fe (K:=K)) (pv 1) Ag (fun _ _=>rfl))))))
   (Ac (Aq (i:=4) Hy.nd rfl (Or.inl rfl) (Agy (K:=K) rfl T.NK (FT (HJ (K:=K)) (pv 2) (G9 (Bv (Fe (K:=K)) (pv 1) Ag (fun _ _=>rfl))) Im)))
   (Ac (Aq (i:=5) Hy.nd rfl (Or.inl rfl) (RM Ad))
   (Ac (Hx PassesOwn.never rfl (Gm rfl T.GX (Aa (Bd Gq (Bv (Fe (K:=K)) (pv 1) Ag (fun _ _=>rfl)) Ag) Ad)) (Dj (i:=6) Hy.nd rfl (Or.inl rfl))
    (Ah (Hx PassesOwn.never rfl (Gm rfl T.GX (Aa (Bd Gq (Bv (Fe (K:=K)) (pv 1) Ag (fun _ _=>rfl)) Ag) Ad)) (Dj (i:=7) Hy.nd rfl (Or.inl rfl))
     (Ac (Aq (i:=8) Hy.nd rfl (Or.inl rfl) (Bd Vo (Bd Gq (Bd QQ (pv 6) (Bv (Fe (K:=K)) (pv 1) Ag (fun _ _=>rfl))) (Bd QQ (pv 7) (Bv (Fe (K:=K)) (pv 1) Ag (fun _ _=>rfl)))) (Bd QQ (pv 6) (pv 7))))
     (Ah (Cu (An Fi (Bd Gq (Ao (Aby (K:=K)) rfl T.AkY Ah3 (Aa (FT (HJ (K:=K)) (pv 3) Im (G9 (pv 6))) Ad)) (Ao (Aby (K:=K)) rfl T.AkY Ah3 (Aa (FT (HJ (K:=K)) (pv 4) Im (G9 (pv 7))) Ad))) (pv 8) (Be _))
      (Ah (Ja (Mr (K:=K) PySem.F.plainAttrs_list PySem.F.slot_list_append PySem.F.type_list_append Np (pv 5) (Aa (K5 (Aa (pv 6) (Aa (pv 7) Ad))) Ad))))
      Bo))))))
   (Ah (BP (pv 5))))))))),?_⟩
  refine⟨_,rfl,a,cl,m,n,rfl,hS,C,fun p hp=>?_⟩
  have s1:Bl H (upd H p (.tup [.int (m:Int),.int (n:Int)])):=.upd hp
  have gp1:(upd H p (.tup [.int (m:Int),.int (n:Int)])) p=some (.tup [.int (m:Int),.int (n:Int)]):=Ae
  refine⟨_,rfl,a,cl,m,n,rfl,s1.seq hS,C,fun lf H2 s2 nlf hlf=>?_⟩
  have gp2:=s2 _ _ gp1
  have u2:=s1.trans s2
  have lsc:(Hi cl m).length=m+n:=by rw[Adt,C.hn]
  refine⟨_,rfl,_,rfl,_,_,_,_,rfl,rfl,SqT.of gp2,Dk (by decide) rfl,_,rfl,_,_,rfl,SqL.of hlf,fun q1 hq1=>?_⟩
  rw[AfF (by omega),AgA]
  refine⟨_,_,rfl,SqL.of Ae,(by rw[Yv];omega),fun le dA pA decA hle=>?_⟩
  have u3:Bl H (upd (upd H2 q1 (.lst (vI (eS cl m)))) le (.lst (vI dA))):=(u2.new hq1).new hle
  have s3:Bl H2 (upd (upd H2 q1 (.lst (vI (eS cl m)))) le (.lst (vI dA))):=(Bl.upd hq1).new hle
  have ApW:(upd (upd H2 q1 (.lst (vI (eS cl m)))) le (.lst (vI dA))) le=some (.lst (vI dA)):=Ae
  generalize hH3:upd (upd H2 q1 (.lst (vI (eS cl m)))) le (.lst (vI dA))=H3 at u3 s3 ApW ⊢
  refine⟨_,rfl,_,rfl,_,_,_,_,rfl,rfl,SqT.of (s3 _ _ gp2),Dk (by decide) rfl,_,rfl,_,_,rfl,SqL.of (s3 _ _ hlf),fun q2 hq2=>?_⟩
  rw[Aj9 (by omega),AgB]
  refine⟨_,_,rfl,SqL.of Ae,(by rw[Af3,C.hn];omega),fun lp dB pB K6 hlp=>?_⟩
  have s4:Bl H3 (upd (upd H3 q2 (.lst (vI (pS cl)))) lp (.lst (vI dB))):=(Bl.upd hq2).new hlp
  have ApX:(upd (upd H3 q2 (.lst (vI (pS cl)))) lp (.lst (vI dB))) lp=some (.lst (vI dB)):=Ae
  generalize hH4:upd (upd H3 q2 (.lst (vI (pS cl)))) lp (.lst (vI dB))=H4 at s4 ApX ⊢
  have u4:=u3.trans s4
  have gp4:=s4 _ _ (s3 _ _ gp2)
  have Arl:=s4 _ _ ApW
  have dAl:dA.length=m:=by rw[pA.length_eq,Yv]
  have dBl:dB.length=n:=by rw[pB.length_eq,Af3,C.hn]
  refine⟨AsM _,fun lt hlt=>?_⟩
  have nlt:=u4.free hlt
  have pl0:PL (upd H4 lt (.lst [])) lt [] (K7 (Pz m n dA dB) n 0):=⟨Ae,rfl,fun i p z e=>by simp at e⟩
  refine⟨_,rfl,_,_,_,_,rfl,rfl,SqT.of ((Bl.upd hlt) _ _ gp4),Dk (by decide) rfl,_,_,rfl,rfl,_,rfl,(by omega),(by omega),?_⟩
  rw[show((m:Int)+1).toNat=m+1 by omega]
  refine Jb (lo:=0) (n:=m+1) (fun i σ H5=>∃(ps:List Addr) (v6 v7 v8:Option V),σ=[some (.ref a),some (.ref p),some (.ref lf),some (.ref le),some (.ref lp),some (.ref lt),v6,v7,v8]∧Bl H4 H5∧PL H5 lt ps (K7 (Pz m n dA dB) n i))
   ⟨[],none,none,none,rfl,.upd hlt,pl0⟩ ?_ ?_
  ·rintro i σ H5 hi ⟨ps,v6,v7,v8,rfl,s5,N5⟩
   refine⟨_,rfl,_,_,_,_,rfl,rfl,SqT.of (s5 _ _ gp4),Dk (by decide) rfl,_,_,rfl,rfl,_,rfl,(by omega),(by omega),?_⟩
   rw[show((n:Int)+1).toNat=n+1 by omega]
   refine Jb (lo:=0) (n:=n+1) (fun j σ H6=>∃(ps:List Addr) (v7 v8:Option V),σ=[some (.ref a),some (.ref p),some (.ref lf),some (.ref le),some (.ref lp),some (.ref lt),some (.int (0+(i:Int))),v7,v8]∧Bl H4 H6∧PL H6 lt ps (K7 (Pz m n dA dB) n i++AcB (Pz m n dA dB) i j))
    ⟨ps,v7,v8,rfl,s5,by rw[show AcB (Pz m n dA dB) i 0=[] from rfl,Atk];exact N5⟩ ?_ ?_
   ·rintro j σ H6 hj ⟨ps6,w7,w8,rfl,s6,N6⟩
    have gp6:=s6 _ _ gp4
    refine⟨_,rfl,_,rfl,_,_,_,_,rfl,rfl,SqT.of gp6,Dk (by decide) rfl,_,_,rfl,rfl,.inl ⟨by omega,by omega⟩,_,rfl,_,rfl,_,_,_,_,rfl,rfl,SqT.of gp6,Dk (by decide) rfl,_,_,rfl,rfl,.inl ⟨by omega,by omega⟩,_,_,rfl,rfl,_,rfl,_,rfl,_,_,rfl,rfl,.inl ⟨by omega,by omega⟩,_,_,rfl,rfl,?_⟩
    refine⟨_,rfl,_,rfl,_,rfl,_,_,rfl,SqL.of (s6 _ _ Arl),fun c1 hc1=>?_⟩
    rw[show(0:Int)+(i:Int)=(i:Int) by omega,AfF (by omega)]
    refine⟨_,_,rfl,SqL.of Ae,?_⟩
    have s7:Bl H6 (upd H6 c1 (.lst (vI (dA.take i)))):=.upd hc1
    refine⟨_,rfl,_,rfl,_,rfl,_,_,rfl,SqL.of (s7 _ _ (s6 _ _ ApX)),fun c2 hc2=>?_⟩
    rw[show(0:Int)+(j:Int)=(j:Int) by omega,AfF (by omega)]
    have s8:Bl H6 (upd (upd H6 c1 (.lst (vI (dA.take i)))) c2 (.lst (vI (dB.take j)))):=s7.new hc2
    refine⟨_,_,rfl,SqL.of Ae,_,_,rfl,rfl,_,rfl,rfl,_,rfl,?_⟩
    have N8:=N6.same s8
    have u8:=s6.trans s8
    generalize hH8:upd (upd H6 c1 (.lst (vI (dA.take i)))) c2 (.lst (vI (dB.take j)))=H8 at s8 N8 u8 ⊢
    have Arm:(ps6.map V.ref).length<sizeLine:=by
     have q1:=Adv (Pz m n dA dB) n i
     have q2:=Ag7 (Pz m n dA dB) i j
     have q3:i*(n+1)≤41*41:=Nat.mul_le_mul (by omega) (by omega)
     have q4:=N6.len
     rw[AsN] at q4
     rw[AsH]
     omega
    refine DR (fun h=>?_) (fun h=>?_)
    ·have hz:Pz m n dA dB i j=true:=by unfold Pz;exact decide_eq_true (V.int.inj h)
     refine⟨_,rfl,.inl ⟨rfl,_,SqL.of N8.h⟩,_,rfl,_,rfl,(by show 2≤sizeLine;omega),fun tp htp=>?_⟩
     have s9:Bl H8 (upd H8 tp (.tup [.int (i:Int),.int (j:Int)])):=.upd htp
     refine⟨_,_,_,rfl,rfl,s9 _ _ N8.h,Arm,?_⟩
     refine⟨ps6++[tp],_,_,rfl,(u8.trans s9).over hlt,?_⟩
     rw[Abz,if_pos hz,← Atv]
     exact(N8.same s9).app (z:=(i,j)) Ae
    ·have hz:¬Pz m n dA dB i j=true:=fun z=>h (congrArg V.int (of_decide_eq_true z))
     refine⟨ps6,_,_,rfl,u8,?_⟩
     rw[Abz,if_neg hz,Atk]
     exact N8
   ·rintro σ H6 ⟨ps6,w7,w8,rfl,s6,N6⟩
    exact⟨ps6,_,_,_,rfl,s6,by rw[Ab0];exact N6⟩
  ·rintro σ H5 ⟨ps,v6,v7,v8,rfl,s5,N5⟩
   exact⟨_,rfl,k lt H5 ps dA dB (u4.trans s5) nlt pA pB decA K6 N5⟩
structure NL (H:Hp) (y:Addr) (rs:List Addr) (tss:List (List Int)):Prop where
 h:H y=some (.lst (rs.map V.ref))
 l:rs.length=tss.length
 r:∀(i:Nat) (a:Addr) (ks:List Int),rs[i]?=some a→tss[i]?=some ks→H a=some (.lst (vI ks))
theorem NL.same{H H':Hp}{y:Addr}{rs:List Addr}{tss:List (List Int)}(N:NL H y rs tss)(s:Bl H H'):NL H' y rs tss:=⟨s _ _ N.h,N.l,fun i a ks h1 h2=>s _ _ (N.r i a ks h1 h2)⟩
theorem NL.at{H:Hp}{y:Addr}{rs:List Addr}{tss:List (List Int)}(N:NL H y rs tss){i:Nat}{a:V}(h:(rs.map V.ref)[i]?=some a):∃ r ks,a=.ref r∧rs[i]?=some r∧tss[i]?=some ks∧H r=some (.lst (vI ks)):=by
 rw[AsU] at h
 cases e:rs[i]? with
 | none=>rw[e] at h;cases h
 | some r =>
  rw[e] at h
  cases h
  have hi:i<tss.length:=by rw[← N.l];exact(List.getElem?_eq_some_iff.mp e).1
  exact⟨r,tss[i],rfl,rfl,AsJ hi,N.r i r _ e (AsJ hi)⟩
theorem AkZ{ks:List Int}{i j:Int}(h0:0≤i)(h1:i≤j)(h2:j≤ks.length):Lw (vI ks) (some i) (some j)=vI ((ks.drop i.toNat).take (j.toNat-i.toNat)):=by
 unfold Lw
 have e1:HT.sIx (vI ks).length 0 (some i)=i.toNat:=by
  show(if i<0 then _ else _)=_
  rw[if_neg (by omega),Bs];omega
 have e2:HT.sIx (vI ks).length (vI ks).length (some j)=j.toNat:=by
  show(if j<0 then _ else _)=_
  rw[if_neg (by omega),Bs];omega
 rw[e1,e2]
 unfold vI
 rw[← At8,← At1]
theorem AjA{ps:List Addr}{k:Nat}(h:k≤ps.length):Lw (ps.map V.ref) (some (k:Int)) none=(ps.drop k).map V.ref:=by
 unfold Lw
 have e1:HT.sIx (ps.map V.ref).length 0 (some (k:Int))=k:=by rw[HT.Lb,AsH,Atq h]
 have e2:HT.sIx (ps.map V.ref).length (ps.map V.ref).length none=(ps.map V.ref).length:=rfl
 rw[e1,e2,← At8]
 exact Atc (by rw[AsH,AsH,Atg];omega)
theorem AiH{lo n:Nat}(h:lo+n≤1000):Builtin.Range.rangeSize (lo:Int) ((lo+n:Nat):Int) 1=(n:Int)∧Builtin.Range.small (lo:Int) ((lo+n:Nat):Int) 1=true:=by
 have rs:Builtin.Range.rangeSize (lo:Int) ((lo+n:Nat):Int) 1=(n:Int):=by
  unfold Builtin.Range.rangeSize
  rw[if_pos (by decide)]
  by_cases h:(lo:Int)<((lo+n:Nat):Int)
  ·rw[if_pos h,Int.ediv_one]
   omega
  ·rw[if_neg h]
   omega
 refine⟨rs,?_⟩
 have fits:∀{z:Int},-1000000≤z→z≤1000000→Builtin.Range.rangeFitsLong z=true:=fun {z} h1 h2=>by
  unfold Builtin.Range.rangeFitsLong
  simp only [Aty,decide_eq_true_eq]
  omega
 unfold Builtin.Range.small
 rw[rs,fits (by omega) (by omega),fits (by omega) (by omega),fits (by omega) (by omega),fits (by omega) (by omega)]
 simp only [show(1:Int)>0 by decide,if_true,Bool.true_and,Bool.or_eq_true]
 exact .inr (fits (by omega) (by omega))
theorem AiI(lo n:Nat):RQ (lo:Int) 1 n=(List.range n).map (cQ lo):=by
 unfold RQ cQ
 refine AtG fun i _=>?_
 omega
theorem Anx{cl:List (List Nat)}{m n:Nat}(C:Cl cl m n){k:Nat}(h:k<m):(Hi cl m).getD (cQ 0 k).toNat 0=((aS (upC cl) n k:Nat):Int):=by
 have e:(cQ 0 k).toNat=k:=by unfold cQ;omega
 have hl:=Yv cl m
 rw[e,Atw]
 show((eS cl m++pS cl)[k]?).getD 0=_
 rw[Atu (by omega),Ak6 C,AsU,AtK h]
 rfl
theorem Anz{cl:List (List Nat)}{m n:Nat}(C:Cl cl m n){k:Nat}(h:k<n):(Hi cl m).getD (cQ m k).toNat 0=((bS (upC cl) m k:Nat):Int):=by
 have e:(cQ m k).toNat=m+k:=by unfold cQ;omega
 have hl:=Yv cl m
 rw[e,Atw]
 show((eS cl m++pS cl)[m+k]?).getD 0=_
 rw[Ats (by omega),Ak7 C,hl,Nat.add_sub_cancel_left,AsU,AtK h]
 rfl
theorem ApY{cl:List (List Nat)}{m n:Nat}(C:Cl cl m n){n1:List Int}(p1:n1.Perm (RQ 0 1 m))
  (w1:n1.Pairwise (fun x y => -((Hi cl m).getD x.toNat 0) < -((Hi cl m).getD y.toNat 0)∨(-((Hi cl m).getD x.toNat 0) = -((Hi cl m).getD y.toNat 0)∧x<y))):∃ eo,Ord (aS (upC cl) n) m eo∧n1=eo.map (cQ 0):=by
 have p1':n1.Perm ((List.range m).map (cQ 0)):=by rw[← AiI];exact p1
 obtain⟨eo,p,e⟩:=Aao p1' _ rfl
 refine⟨eo,⟨p,?_⟩,e⟩
 rw[e,Atr] at w1
 refine w1.imp_of_mem fun {x y} hx hy h=>?_
 rw[Anx C (List.mem_range.mp (p.mem_iff.mp hx)),Anx C (List.mem_range.mp (p.mem_iff.mp hy))] at h
 unfold cQ at h
 omega
theorem ApZ{cl:List (List Nat)}{m n:Nat}(C:Cl cl m n){n1:List Int}(p1:n1.Perm (RQ (m:Int) 1 n))
  (w1:n1.Pairwise (fun x y => -((Hi cl m).getD x.toNat 0) < -((Hi cl m).getD y.toNat 0)∨(-((Hi cl m).getD x.toNat 0) = -((Hi cl m).getD y.toNat 0)∧x<y))):∃ po,Ord (bS (upC cl) m) n po∧n1=po.map (cQ m):=by
 have p1':n1.Perm ((List.range n).map (cQ m)):=by rw[← AiI];exact p1
 obtain⟨po,p,e⟩:=Aao p1' _ rfl
 refine⟨po,⟨p,?_⟩,e⟩
 rw[e,Atr] at w1
 refine w1.imp_of_mem fun {x y} hx hy h=>?_
 rw[Anz C (List.mem_range.mp (p.mem_iff.mp hx)),Anz C (List.mem_range.mp (p.mem_iff.mp hy))] at h
 unfold cQ at h
 omega
theorem AiJ{key:Nat→Nat}{N:Nat}{l:List Nat}(o:Ord key N l):(l.map fun e=>((key e:Nat):Int)).Pairwise (· ≥ ·):=by
 rw[Atr]
 exact o.ord.imp fun {x y} h=>by omega
theorem lay_of{cl:List (List Nat)}{m n:Nat}(C:Cl cl m n){dA dB:List Int}(pA:dA.Perm (eS cl m))(pB:dB.Perm (pS cl))(decA:dA.Pairwise (· ≥ ·))(K6:dB.Pairwise (· ≥ ·)){eo po:List Nat}
  (oE:Ord (aS (upC cl) n) m eo) (oP:Ord (bS (upC cl) m) n po) {tss:List (List Int)} (len:tss.length+1=(K7 (Pz m n dA dB) n (m+1)).length)
  (lay:∀(i:Nat) (a b:Nat × Nat) (t:List Int),(K7 (Pz m n dA dB) n (m+1))[i]?=some a→(K7 (Pz m n dA dB) n (m+1))[i+1]?=some b→tss[i]?=some t →
   t.Perm (((eo.drop a.1).take (b.1-a.1)).map (cQ 0)++((po.drop a.2).take (b.2-a.2)).map (cQ m))∧t.Pairwise (·≤·)):Lay (upC cl) m n tss (K7 (Pz m n dA dB) n (m+1)) eo po:=by
 have tp:=Tps.of (Ank C pA pB decA K6) C.m1
 have eA:dA=eo.map fun e=>((aS (upC cl) n e:Nat):Int):=Nz (pA.trans (by rw[Ak6 C];exact(oE.perm.map _).symm)) decA (AiJ oE)
 have eB:dB=po.map fun e=>((bS (upC cl) m e:Nat):Int):=Nz (pB.trans (by rw[Ak7 C];exact(oP.perm.map _).symm)) K6 (AiJ oP)
 refine⟨oE,oP,tp.fst,tp.lst,tp.in_,fun i a b ea eb=>?_,fun i a ea=>?_,len,lay⟩
 ·obtain⟨h1,h2,h3,_⟩:=tp.stp i a b ea eb
  exact⟨h1,h2,h3⟩
 ·have hm:=(Ny.mp (AsS ea)).2.2
  unfold Pz at hm
  have hz:=of_decide_eq_true hm
  rw[eA,eB,← At1,← At1,RW,RW] at hz
  have e1:((a.1*n:Nat):Int)=(a.1:Int)*n:=by rw[AtL]
  have e2:((a.2*m:Nat):Int)=(a.2:Int)*m:=by rw[AtL]
  have e3:((a.1*a.2:Nat):Int)=(a.1:Int)*a.2:=by rw[AtL]
  omega
theorem An0:(("layers_of" : Str) ++ ".<locals>.") ++ "<lambda>" = "layers_of.<locals>.<lambda>" := by decide +kernel
def Fw (cl:List (List Nat))(m n:Nat):Prop:=∀ dA dB:List Int,dA.Perm (eS cl m)→dB.Perm (pS cl)→dA.Pairwise (· ≥ ·)→dB.Pairwise (· ≥ ·)→∀(i:Nat) (x y:Nat × Nat),(K7 (Pz m n dA dB) n (m+1))[i]?=some x→(K7 (Pz m n dA dB) n (m+1))[i+1]?=some y→(y.1-x.1)+(y.2-x.2)<64
def AjB (K:PySem.W.Frag)(tT:Addr):Sp:=fun vs H Q _=>∃(a:Addr) (cl:List (List Nat)) (m n:Nat),vs=[.ref a]∧SqL K H a (vS cl)∧Cl cl m n∧Fw cl m n∧Tb tT "layers_of.<locals>.<lambda>" H ∧
 ∀ l H' rs tss dA dB eo po,Ea H H'→Tb tT "layers_of.<locals>.<lambda>" H'→dA.Perm (eS cl m)→dB.Perm (pS cl)→dA.Pairwise (· ≥ ·)→dB.Pairwise (· ≥ ·)→Lay (upC cl) m n tss (K7 (Pz m n dA dB) n (m+1)) eo po→NL H' l rs tss→Q (.ref l) H'
theorem Aa1{tc tT:Addr}(T:Txt K mg t)(hcd:t.CZ.code=.ref tc)(hCd:PySem.W.CodeHd base tc tT)(hBm:Bm mg base):Bp P w K mg base CX0 6 t.GR t.CZ ["cloth"] (AjB K tT):=by
 have DX:Bp P w K mg base CX0 3 t.Dw t.Gw _ _:=JG T
 have Vx:Bp P w K mg base CX0 4 t.GQ t.Ph _ _:=Aa0 T
 have AjC:Bp P w K mg base CX0 5 t.JD t.Ab3 _ _:=AhL T
 refine T.KJ.F.okC hcd Gf (fun vs H Q E h=>?_) (fun A outer s H vs Q E hr h=>?_)
 ·obtain⟨a,cl,m,n,rfl,_⟩:=h
  rfl
 ·obtain⟨a,cl,m,n,rfl,hS,C,h64,tb,k⟩:=h
  have c2:=C.n40
  have c4:=C.m40
  have hsz:sizeLine=16777216:=sizeLine_eq
  refine⟨_,(Ac (Aq (i:=1) Gf.nd rfl (Or.inl rfl) (Bw (DX.mono (by decide)) hr rfl T.measured.m T.measured.F.kp T.measured.b .nil Fz (Aa (pv 0) Ad)))
   (Ac (Aq (i:=2) Gf.nd rfl (Or.inr rfl) (Bw (Vx.mono (by decide)) hr rfl T.KH.m T.KH.F.kp T.KH.b .nil Fz (Aa (pv 0) Ad)))
   (Ac (Aq (i:=3) Gf.nd rfl (Or.inl rfl) (Ads (K:=K) (j:=2) (q := "layers_of.<locals>.<lambda>") rfl T.NK (Ib AeP rfl T.GX Adi (Aa (Bv (Fe (K:=K)) (pv 1) Ag (fun _ _=>rfl)) Ad)) hCd hBm (hr.mono (by decide)) rfl An0))
   (Ac (Aq (i:=4) Gf.nd rfl (Or.inl rfl) (Ads (K:=K) (j:=2) (q := "layers_of.<locals>.<lambda>") rfl T.NK (Ib Ajm rfl T.GX Adi (Aa (Bv (Fe (K:=K)) (pv 1) Ag (fun _ _=>rfl)) (Aa (Ao (Bt (K:=K)) rfl T.Ir Ge (Aa (pv 2) Ad)) Ad))) hCd hBm (hr.mono (by decide)) rfl An0))
   (Ac (Aq (i:=5) Gf.nd rfl (Or.inl rfl) (Bw (AjC.mono (by decide)) hr rfl T.AcT.m T.AcT.F.kp T.AcT.b .nil Fz (Aa (pv 0) Ad)))
   (Ac (Aq (i:=6) Gf.nd rfl (Or.inl rfl) (RM Ad))
   (Ac (Hx PassesOwn.never rfl (AnY (K:=K) rfl T.ApU (Aa (pv 5) (Aa (FT (HJ (K:=K)) (pv 5) (G9 Ag) Im) Ad))) (Afe rfl (Jq (Dj (i:=7) Gf.nd rfl (Or.inl rfl)) (Jq (Dj (i:=8) Gf.nd rfl (Or.inl rfl)) AcN)))
    (Ah (Ja (Mr (K:=K) PySem.F.plainAttrs_list PySem.F.slot_list_append PySem.F.type_list_append Np (pv 6) (Aa (Ao (Ah7 (K:=K)) rfl T.NK Rx (Aa (Bd Afm (FT (HJ (K:=K)) (pv 3) (G9 (Bv (Fe (K:=K)) (pv 7) Ag (fun _ _=>rfl))) (G9 (Bv (Fe (K:=K)) (pv 8) Ag (fun _ _=>rfl)))) (FT (HJ (K:=K)) (pv 4) (G9 (Bv (Fe (K:=K)) (pv 7) Ag (fun _ _=>rfl))) (G9 (Bv (Fe (K:=K)) (pv 8) Ag (fun _ _=>rfl))))) Ad)) Ad)))))
   (Ah (BP (pv 6)))))))))),?_⟩
  refine⟨_,rfl,a,cl,m,n,rfl,hS,C,fun p hp=>?_⟩
  have s1:Bl H (upd H p (.tup [.int (m:Int),.int (n:Int)])):=.upd hp
  have gp1:(upd H p (.tup [.int (m:Int),.int (n:Int)])) p=some (.tup [.int (m:Int),.int (n:Int)]):=Ae
  refine⟨_,rfl,a,cl,m,n,rfl,s1.seq hS,C,fun lf H2 s2 nlf hlf=>?_⟩
  have gp2:=s2 _ _ gp1
  have u2:=s1.trans s2
  have tb2:=tb.same u2
  have lsc:(Hi cl m).length=m+n:=by rw[Adt,C.hn]
  refine⟨_,rfl,_,_,_,_,rfl,rfl,SqT.of gp2,Dk (by decide) rfl,_,rfl,fun pr npr=>?_⟩
  have s3:Bl H2 (upd H2 pr (Abx pr 0 (m:Int) 1)):=.upd npr
  obtain⟨r1,r2⟩:=AiH (lo:=0) (n:=m) (by omega)
  rw[AtM] at r1 r2
  refine⟨pr,0,(m:Int),m,lf,Hi cl m,rfl,Ae,r2,r1,(by omega),rfl,SqL.of (s3 _ _ hlf),by decide,(by show 0+m≤_;omega),tb2.same s3,fun l1 H3 n1 t3 tb3 nl1 hl1 p1 w1=>?_⟩
  have v3:Ea H2 H3:=s3.toT.trans t3
  have gp3:=v3.tup gp2
  have Aqa:=v3.lst hlf
  refine⟨_,rfl,_,_,_,_,rfl,rfl,SqT.of gp3,Dk (by decide) rfl,_,rfl,_,_,rfl,.inl (SqL.of Aqa),_,_,rfl,fun pr2 Arn=>?_⟩
  rw[Bs,lsc]
  have s4:Bl H3 (upd H3 pr2 (Abx pr2 (m:Int) ((m+n:Nat):Int) 1)):=.upd Arn
  obtain⟨q1,q2⟩:=AiH (lo:=m) (n:=n) (by omega)
  refine⟨pr2,(m:Int),((m+n:Nat):Int),n,lf,Hi cl m,rfl,Ae,q2,q1,(by omega),rfl,SqL.of (s4 _ _ Aqa),by omega,(by omega),tb3.same s4,fun l2 H4 n2 t4 tb4 nl2 hl2 p2 w2=>?_⟩
  have v4:Ea H3 H4:=s4.toT.trans t4
  have x4:Ea H H4:=u2.toT.trans (v3.trans v4)
  have Aro:=v4.lst hl1
  obtain⟨eo,oE,rfl⟩:=ApY C p1 w1
  obtain⟨po,oP,rfl⟩:=ApZ C p2 w2
  refine⟨_,rfl,a,cl,m,n,rfl,x4.seq hS,C,fun lt H5 ps dA dB s5 nlt pA pB decA K6 N=>?_⟩
  have tp:=Tps.of (Ank C pA pB decA K6) C.m1
  have x5:Ea H H5:=x4.trans s5.toT
  have tb5:=tb4.same s5
  have Arp:=s5 _ _ Aro
  have Arq:=s5 _ _ hl2
  have Ars:(K7 (Pz m n dA dB) n (m+1)).length≤41*41:=by
   have q1:=Adv (Pz m n dA dB) n (m+1)
   have q3:(m+1)*(n+1)≤41*41:=Nat.mul_le_mul (by omega) (by omega)
   omega
  have Aqb:=fun(tss:List (List Int))=>lay_of (tss:=tss) C pA pB decA K6 oE oP
  have fw:=h64 dA dB pA pB decA K6
  clear h64
  generalize hzs:K7 (Pz m n dA dB) n (m+1)=zs at N tp Ars Aqb fw
  refine⟨AsM _,fun ll nll=>?_⟩
  have s6:Bl H5 (upd H5 ll (.lst [])):=.upd nll
  have N6:=N.same s6
  refine⟨_,rfl,_,rfl,_,rfl,_,_,rfl,SqL.of N6.h,fun lc nlc=>?_⟩
  have s7:=s6.new nlc (o:=.lst (Lw (ps.map V.ref) (some 1) none))
  have ct:Lw (ps.map V.ref) (some 1) none=(ps.drop 1).map V.ref:=by
   have:=AjA (ps:=ps) (k:=1) (by rw[N.len];have:=tp.two;omega)
   exact this
  rw[ct] at s7 ⊢
  have N7:=N.same s7
  have Ao7:(upd (upd H5 ll (.lst [])) lc (.lst ((ps.drop 1).map V.ref))) lc=some (.lst ((ps.drop 1).map V.ref)):=Ae
  have lne:ll≠lc:=fun e=>by rw[← e,Ae] at nlc;cases nlc
  have Aqc:(upd (upd H5 ll (.lst [])) lc (.lst ((ps.drop 1).map V.ref))) ll=some (.lst []):=by rw[Bh lne];exact Ae
  generalize upd (upd H5 ll (.lst [])) lc (.lst ((ps.drop 1).map V.ref))=H7 at s7 N7 Ao7 Aqc ⊢
  have Aqd:ps.length=zs.length:=N.len
  refine⟨_,_,rfl,⟨_,SqL.of N7.h⟩,⟨_,SqL.of Ao7⟩,Amb (K:=K) (n:=zs.length-1) (xs:=ps.map V.ref) (ys:=(ps.drop 1).map V.ref) (by rw[AsH,AsH,Atg,Aqd];omega)
   (fun i σ H8=>∃(rs:List Addr) (tss:List (List Int)) (v7 v8:Option V),σ=[some (.ref a),some (.ref p),some (.ref lf),some (.ref l1),some (.ref l2),some (.ref lt),some (.ref ll),v7,v8]∧Bl H5 H8∧H8 lc=some (.lst ((ps.drop 1).map V.ref))∧lc≠ll∧NL H8 ll rs tss∧rs.length=i∧(∀ r∈rs,r≠ll) ∧
    ∀(j:Nat) (x y:Nat × Nat) (t:List Int),zs[j]?=some x→zs[j+1]?=some y→tss[j]?=some t→t.Perm (((eo.drop x.1).take (y.1-x.1)).map (cQ 0)++((po.drop x.2).take (y.2-x.2)).map (cQ m))∧t.Pairwise (·≤·))
   ⟨[],[],none,none,rfl,s7,Ao7,Ne.symm lne,⟨Aqc,rfl,fun i a ks e=>by simp at e⟩,rfl,fun r hr=>by simp at hr,fun j x y t _ _ e=>by simp at e⟩ (fun i σ H8 ⟨_,_,_,_,_,s8,Ao8,_⟩=>⟨SqL.of (s8 _ _ N.h),SqL.of Ao8⟩) ?_ ?_⟩
  ·rintro i x y σ H8 T8 hx hy ⟨rs,tss,v7,v8,rfl,s8,Ao8,lcn,N8,rl,rne,ly⟩ nT
   have hi:i+1<zs.length:=by
    have:=(List.getElem?_eq_some_iff.mp hy).1
    rw[AsH,Atg,Aqd] at this
    omega
   have ex:=AsJ (l:=zs) (i:=i) (by omega)
   have ey:=AsJ (l:=zs) (i:=i+1) hi
   obtain⟨px,hpx,Aqe⟩:=N.get ex
   obtain⟨py,hpy,Aqf⟩:=N.get ey
   rw[hpx] at hx
   cases hx
   have hy':(ps.map V.ref)[i+1]?=some y:=by
    rw[At8,Aun,Nat.add_comm 1 i] at hy
    exact hy
   rw[hpy] at hy'
   cases hy'
   obtain⟨st1,st2,st3,_⟩:=tp.stp i _ _ ex ey
   obtain⟨in1,in2⟩:=tp.in_ _ _ ey
   have s9:Bl H5 (upd H8 T8 (.tup [.ref px,.ref py])):=s8.new nT
   have AmF:=s9 _ _ Aqe
   have AmG:=s9 _ _ Aqf
   have N9:=N8.same (Bl.upd nT (o:=.tup [.ref px,.ref py]))
   have Aqg:=(Bl.upd nT (o:=.tup [.ref px,.ref py])) _ _ Ao8
   refine⟨_,_,rfl,SqT.of Ae,rfl,_,_,rfl,_,_,rfl,rfl,?_⟩
   generalize upd H8 T8 (.tup [.ref px,.ref py])=H9 at s9 AmF AmG N9 Aqg ⊢
   have eol:=oE.len
   have pol:=oP.len
   generalize zs[i]=za at ex AmF st1 st2 st3 Aqe ⊢
   generalize zs[i+1]=zb at ey AmG st1 st2 st3 in1 in2 Aqf ⊢
   have f64:=fw i za zb ex ey
   refine⟨_,rfl,.inl ⟨rfl,_,SqL.of N9.h⟩,_,rfl,_,rfl,_,_,_,_,rfl,rfl,SqT.of AmF,Dk (by decide) rfl,_,rfl,_,rfl,_,_,_,_,rfl,rfl,SqT.of AmG,Dk (by decide) rfl,_,rfl,_,_,rfl,SqL.of (s9 _ _ Arp),fun c1 nc1=>?_⟩
   rw[AkZ (by omega) (by omega) (by rw[AsH,eol];omega)]
   rw[show((za.1:Nat):Int).toNat=za.1 by omega,show((zb.1:Nat):Int).toNat=zb.1 by omega,← At8,← At1]
   have s10:Bl H9 (upd H9 c1 (.lst (vI (((eo.drop za.1).take (zb.1-za.1)).map (cQ 0))))):=.upd nc1
   have g10:(upd H9 c1 (.lst (vI (((eo.drop za.1).take (zb.1-za.1)).map (cQ 0))))) c1=some (.lst (vI (((eo.drop za.1).take (zb.1-za.1)).map (cQ 0)))):=Ae
   generalize upd H9 c1 (.lst (vI (((eo.drop za.1).take (zb.1-za.1)).map (cQ 0))))=H10 at s10 g10 ⊢
   refine⟨_,rfl,_,rfl,_,_,_,_,rfl,rfl,SqT.of (s10 _ _ AmF),Dk (by decide) rfl,_,rfl,_,rfl,_,_,_,_,rfl,rfl,SqT.of (s10 _ _ AmG),Dk (by decide) rfl,_,rfl,_,_,rfl,SqL.of (s10 _ _ (s9 _ _ Arq)),fun c2 nc2=>?_⟩
   rw[AkZ (by omega) (by omega) (by rw[AsH,pol];omega)]
   rw[show((za.2:Nat):Int).toNat=za.2 by omega,show((zb.2:Nat):Int).toNat=zb.2 by omega,← At8,← At1]
   have s11:Bl H10 (upd H10 c2 (.lst (vI (((po.drop za.2).take (zb.2-za.2)).map (cQ m))))):=.upd nc2
   have g11:(upd H10 c2 (.lst (vI (((po.drop za.2).take (zb.2-za.2)).map (cQ m))))) c2=some (.lst (vI (((po.drop za.2).take (zb.2-za.2)).map (cQ m)))):=Ae
   generalize upd H10 c2 (.lst (vI (((po.drop za.2).take (zb.2-za.2)).map (cQ m))))=H11 at s11 g11 ⊢
   have AkK:(((eo.drop za.1).take (zb.1-za.1)).map (cQ 0)).length=zb.1-za.1:=by rw[AsH,Atd,Atg];omega
   have Amz:(((po.drop za.2).take (zb.2-za.2)).map (cQ m)).length=zb.2-za.2:=by rw[AsH,Atd,Atg];omega
   refine⟨_,_,_,_,rfl,rfl,s11 _ _ g10,g11,(by rw[Bs,Bs,AkK,Amz];omega),fun c3 nc3=>?_⟩
   have Art:vI (((eo.drop za.1).take (zb.1-za.1)).map (cQ 0))++vI (((po.drop za.2).take (zb.2-za.2)).map (cQ m))=vI (((eo.drop za.1).take (zb.1-za.1)).map (cQ 0)++((po.drop za.2).take (zb.2-za.2)).map (cQ m)):=by unfold vI;rw[AsP]
   rw[Art]
   have s12:=s11.new nc3 (o:=.lst (vI (((eo.drop za.1).take (zb.1-za.1)).map (cQ 0)++((po.drop za.2).take (zb.2-za.2)).map (cQ m))))
   refine⟨_,_,rfl,SqL.of Ae,(by rw[AsN,AkK,Amz];omega),fun c4 ns' p4 w4 nc4=>?_⟩
   have s13:Bl H9 _:=(s10.trans s12).new nc4 (o:=.lst (vI ns'))
   have N13:=N9.same s13
   have g13:(upd (upd H11 c3 (.lst (vI (((eo.drop za.1).take (zb.1-za.1)).map (cQ 0)++((po.drop za.2).take (zb.2-za.2)).map (cQ m))))) c4 (.lst (vI ns'))) c4=some (.lst (vI ns')):=Ae
   have An1:=s13 _ _ Aqg
   have u13:=s9.trans s13
   have Aqh:c4≠ll:=fun e=>by
    have z:=(s10.trans s12) _ _ N9.h
    rw[← e,nc4] at z
    cases z
   generalize upd (upd H11 c3 (.lst (vI (((eo.drop za.1).take (zb.1-za.1)).map (cQ 0)++((po.drop za.2).take (zb.2-za.2)).map (cQ m))))) c4 (.lst (vI ns'))=H13 at N13 g13 An1 u13 ⊢
   refine⟨_,_,_,rfl,rfl,N13.h,(by rw[AsH,rl];omega),?_⟩
   have tl:tss.length=i:=by rw[← N8.l,rl]
   refine⟨rs++[c4],tss++[ns'],_,_,rfl,u13.over nll,by rw[Bh lcn];exact An1,lcn,⟨by rw[Ae,AsP];rfl,by rw[AsN,AsN,N8.l];rfl,fun j r ks e1 e2=>?_⟩,by rw[AsN,rl];rfl,fun r hr=>?_,fun j x y t e1 e2 e3=>?_⟩
   ·by_cases hj:j<rs.length
    ·rw[Atu hj] at e1
     rw[Atu (by rw[← N8.l];exact hj)] at e2
     rw[Bh (rne r (AsS e1))]
     exact N13.r j r ks e1 e2
    ·have hj2:=(List.getElem?_eq_some_iff.mp e1).1
     rw[AsN] at hj2
     have ej:j=rs.length:=by have:[c4].length=1:=rfl;omega
     rw[ej,Ats (AsI _),At7] at e1
     rw[ej,N8.l,Ats (AsI _),At7] at e2
     cases e1
     cases e2
     rw[Bh Aqh]
     exact g13
   ·rcases List.mem_append.mp hr with h | h
    ·exact rne r h
    ·rw[List.mem_singleton.mp h];exact Aqh
   ·by_cases hj:j<tss.length
    ·rw[Atu hj] at e3
     exact ly j x y t e1 e2 e3
    ·have hj2:=(List.getElem?_eq_some_iff.mp e3).1
     rw[AsN] at hj2
     have ej:j=tss.length:=by have:[ns'].length=1:=rfl;omega
     rw[ej,Ats (AsI _),At7] at e3
     cases e3
     rw[ej,tl] at e1 e2
     rw[ex] at e1
     rw[ey] at e2
     cases e1
     cases e2
     exact⟨p4,w4⟩
  ·rintro σ H8 ⟨rs,tss,v7,v8,rfl,s8,_,_,N8,rl,rne,ly⟩
   have h2:=tp.two
   refine⟨_,rfl,k ll H8 rs tss dA dB eo po (x5.trans s8.toT) (tb5.same s8) pA pB decA K6 ?_ N8⟩
   rw[hzs]
   exact Aqb tss (by rw[← N8.l,rl];omega) ly
theorem Ao9(m:Nat)(z:Int):(List.replicate m [V.int z]).flatten=vI (List.replicate m z):=by
 induction m with
 | zero=>rfl
 | succ m ih=>rw[At4,Ath,ih,At4];rfl
structure Pc (tss:List (List Int)) (N i j:Nat) (ks:List Int):Prop where
 len:ks.length=N
 old:∀(i':Nat) (z:Int) (h:i'<tss.length),i'<i→z∈tss[i']→ks[z.toNat]?=some (i':Int)
 now:∀(h:i<tss.length),∀ z∈tss[i].take j,ks[z.toNat]?=some (i:Int)
theorem Pc.nil(tss:List (List Int))(N:Nat){ks:List Int}(h:ks.length=N):Pc tss N 0 0 ks:=⟨h,fun i' z h h0=>absurd h0 (Nat.not_lt_zero _),fun h z hz=>by simp at hz⟩
theorem Pc.step{up:Nat→Nat→Bool}{m n:Nat}{tss:List (List Int)}{zs:List (Nat × Nat)}{eo po:List Nat}(L:Lay up m n tss zs eo po){i j:Nat}{ks:List Int}(c:Pc tss (m+n) i j ks)(hi:i<tss.length)(hj:j<tss[i].length) :
  Pc tss (m+n) i (j+1) (ks.set tss[i][j].toNat (i:Int)):=by
 have mz:=L.mem hi (AsV hj)
 have hl:tss[i][j].toNat<ks.length:=by rw[c.len];omega
 refine⟨by rw[Aui];exact c.len,fun i' z h h0 hz=>?_,fun h z hz=>?_⟩
 ·have m2:=L.mem h hz
  have ne:tss[i][j].toNat≠z.toNat:=fun e=>by
   have ez:z=tss[i][j]:=by omega
   rw[ez] at hz
   have:=AeQ L.nd h hi hz (AsV hj)
   omega
  rw[AtU ne]
  exact c.old i' z h h0 hz
 ·rw[AuB hj] at hz
  by_cases e:tss[i][j].toNat=z.toNat
  ·rw[e] at hl ⊢
   rw[Aut hl]
  ·rw[AtU e]
   rcases List.mem_append.mp hz with h' | h'
   ·exact c.now h z h'
   ·rw[List.mem_singleton.mp h'] at e
    exact absurd rfl e
theorem Pc.next{tss:List (List Int)}{N i:Nat}{ks:List Int}(hi:i<tss.length)(c:Pc tss N i tss[i].length ks):Pc tss N (i+1) 0 ks:=by
 refine⟨c.len,fun i' z h h0 hz=>?_,fun h z hz=>by simp at hz⟩
 by_cases e:i'=i
 ·subst e
  exact c.now hi z (by rw[At2];exact hz)
 ·exact c.old i' z h (by omega) hz
theorem Pc.uniq{up:Nat→Nat→Bool}{m n:Nat}{tss:List (List Int)}{zs:List (Nat × Nat)}{eo po:List Nat}(L:Lay up m n tss zs eo po){ks ks':List Int}(c:Pc tss (m+n) tss.length 0 ks)(c':Pc tss (m+n) tss.length 0 ks'):ks=ks':=by
 refine Au4 fun k=>?_
 by_cases h:k<m+n
 ·obtain⟨i,hi,hz⟩:=L.has h
  have e1:=c.old i _ hi hi hz
  have e2:=c'.old i _ hi hi hz
  rw[Ate] at e1 e2
  rw[e1,e2]
 ·rw[AtB (by rw[c.len];omega),AtB (by rw[c'.len];omega)]
theorem Ala(tss:List (List Int)):(tss.map fun t=>((t.length:Nat):Int)).sum=((tss.flatten.length:Nat):Int):=by
 induction tss with
 | nil=>rfl
 | cons t r ih=>rw[AsY,At6,ih,Ath,AsN];omega
theorem Lay.AhM{up:Nat→Nat→Bool}{m n:Nat}{tss:List (List Int)}{zs:List (Nat × Nat)}{eo po:List Nat}(L:Lay up m n tss zs eo po):tss.flatten.length=m+n:=by rw[L.all.length_eq,AsH,AsQ]
theorem Aha:∀(tss:List (List Int)),(∀ t∈tss,0<t.length)→tss.length≤tss.flatten.length
 | [],_=>AsI _
 | t::r,h=>by
  have:=h t AsR
  have:=Aha r fun x hx=>h x (AsW _ hx)
  rw[Ath,AsN,Atf]
  omega
theorem Lay.few{up:Nat→Nat→Bool}{m n:Nat}{tss:List (List Int)}{zs:List (Nat × Nat)}{eo po:List Nat}(L:Lay up m n tss zs eo po):tss.length≤m+n:=by
 rw[← L.AhM]
 refine Aha tss fun t ht=>?_
 obtain⟨i,hi,e⟩:=Atl ht
 rw[← e]
 exact L.ne hi
theorem Alb:∀{tss:List (List Int)} {i:Nat} (hi:i<tss.length),tss[i].length≤tss.flatten.length
 | t::r,0,_=>by rw[Ath,AsN];exact Au7 _ _
 | t::r,i+1,hi=>by
  have hi':i<r.length:=by simpa using hi
  have:=Alb (tss:=r) (i:=i) hi'
  rw[Ath,AsN]
  show r[i].length≤_
  omega
def AmH (K:PySem.W.Frag)(tT:Addr):Sp:=fun vs H Q _=>∃(a:Addr) (cl:List (List Nat)) (m n:Nat),vs=[.ref a]∧SqL K H a (vS cl)∧Cl cl m n∧Fw cl m n∧Tb tT "layers_of.<locals>.<lambda>" H ∧
 ∀ l H' tss dA dB eo po ks,Ea H H'→Tb tT "layers_of.<locals>.<lambda>" H'→dA.Perm (eS cl m)→dB.Perm (pS cl)→dA.Pairwise (· ≥ ·)→dB.Pairwise (· ≥ ·)→Lay (upC cl) m n tss (K7 (Pz m n dA dB) n (m+1)) eo po→Pc tss (m+n) tss.length 0 ks→H' l=some (.lst (vI ks))→Q (.ref l) H'
theorem KQ{tc tT:Addr}(T:Txt K mg t)(hcd:t.CZ.code=.ref tc)(hCd:PySem.W.CodeHd base tc tT)(hBm:Bm mg base):Bp P w K mg base CX0 7 t.Di t.HR ["cloth"] (AmH K tT):=by
 have Vy:Bp P w K mg base CX0 6 t.GR t.CZ _ _:=Aa1 T hcd hCd hBm
 refine T.Ef.F.ok Gn (fun vs H Q E h=>?_) (fun cdv A outer s H vs Q E hr h=>?_)
 ·obtain⟨a,cl,m,n,rfl,_⟩:=h
  rfl
 ·obtain⟨a,cl,m,n,rfl,hS,C,h64,tb,k⟩:=h
  have hsz:sizeLine=16777216:=sizeLine_eq
  refine⟨_,(Ac (Aq (i:=1) Gn.nd rfl (Or.inl rfl) (Bw (Vy.mono (by decide)) hr rfl T.KJ.m T.KJ.F.kp T.KJ.b .nil Fz (Aa (pv 0) Ad)))
   (Ac (Aq (i:=2) Gn.nd rfl (Or.inl rfl) (Bd AnN (RM (Aa Ag Ad)) (Ao (Aby (K:=K)) rfl T.AkY Ah3 (Aa (JN (Hh.mk (BL:=[]) (Nc:=["layer"]) rfl (by decide +kernel) (by decide +kernel) (GP (sc0:=Ab Cv) rfl (by decide +kernel)) rfl rfl rfl (by decide +kernel) (fun _ _ h=>by simp at h)) rfl (Ew (K:=K) (pv 1)) (fun _ _ _ _ _=>.nil) (fun _ _ _ _ _=>(Ao (Bt (K:=K)) rfl T.Ir Ge (Aa (pv 0) Ad)))) Ad))))
   (Ac (Hx PassesOwn.never rfl (Amd (K:=K) rfl T.AgV (Aa (pv 1) Ad)) (Afe rfl (Jq (Dj (i:=3) Gn.nd rfl (Or.inl rfl)) (Jq (Dj (i:=4) Gn.nd rfl (Or.inl rfl)) AcN)))
    (Ah (Hx PassesOwn.never rfl (Ew (K:=K) (pv 4)) (Dj (i:=5) Gn.nd rfl (Or.inl rfl))
     (Ah (Afh (pv 3) (Afg (pv 2) (pv 5) set_list))))))
   (Ah (BP (pv 2)))))),?_⟩
  refine⟨_,rfl,a,cl,m,n,rfl,hS,C,h64,tb,fun ly H1 rs tss dA dB eo po t1 tb1 pA pB decA K6 L N=>?_⟩
  have few:=L.few
  have c2:=C.n40
  have c4:=C.m40
  refine⟨(by show 1≤sizeLine;decide),fun p hp=>?_⟩
  have s2:Bl H1 (upd H1 p (.lst [.int 0])):=.upd hp
  have gp2:(upd H1 p (.lst [.int 0])) p=some (.lst [.int 0]):=Ae
  have N2:=N.same s2
  generalize upd H1 p (.lst [.int 0])=H2 at s2 gp2 N2 ⊢
  have rl:(rs.map V.ref).length=tss.length:=by rw[AsH,N.l]
  refine⟨_,rfl,_,rfl,⟨_,SqL.of N2.h⟩,Hm (K:=K) (a:=ly) (xs:=rs.map V.ref) (fun j ys H3=>H3=H2∧ys=vI ((tss.take j).map fun t=>((t.length:Nat):Int))) ⟨rfl,rfl⟩ ?_ ?_ ?_ ?_⟩
  ·rintro j ys H3 hj ⟨rfl,rfl⟩
   refine⟨SqL.of N2.h,?_⟩
   rw[Bs,AsH,Atd]
   omega
  ·rw[rl];omega
  ·rintro j x ys H3 hj hx ⟨rfl,rfl⟩
   obtain⟨r,ks,rfl,hr1,hr2,hr3⟩:=N2.at hx
   refine Ky.no ?_
   refine⟨_,rfl,_,_,rfl,.inl (SqL.of hr3),?_⟩
   refine CN.of hj ⟨rfl,?_⟩
   rw[Atm,hr2,Bs]
   unfold vI
   rw[AsP,AsP]
   rfl
  ·rintro ys H3 q ⟨rfl,rfl⟩ hq
   rw[rl,At2]
   have s4:Bl H3 (upd H3 q (.lst (vI (tss.map fun t=>((t.length:Nat):Int))))):=.upd hq
   refine⟨_,_,rfl,SqL.of Ae,?_⟩
   rw[Ala,L.AhM]
   refine⟨_,_,_,rfl,rfl,s4 _ _ gp2,(by omega),(by omega),(by show 1*(((m+n:Nat):Int).toNat)≤sizeLine;omega),fun l nl=>?_⟩
   rw[Ate,Ao9]
   have u5:Bl H1 _:=(s2.trans s4).new nl (o:=.lst (vI (List.replicate (m+n) 0)))
   have nl1:H1 l=none:=(s2.trans s4).free nl
   have g5:(upd (upd H3 q (.lst (vI (tss.map fun t=>((t.length:Nat):Int))))) l (.lst (vI (List.replicate (m+n) 0)))) l=some (.lst (vI (List.replicate (m+n) 0))):=Ae
   generalize upd (upd H3 q (.lst (vI (tss.map fun t=>((t.length:Nat):Int))))) l (.lst (vI (List.replicate (m+n) 0)))=H5 at u5 g5 ⊢
   refine⟨_,rfl,_,rfl,⟨_,SqL.of (u5 _ _ N.h)⟩,Akq (K:=K) (a:=ly) (xs:=rs.map V.ref) (fun i σ H6=>∃(ks:List Int) (v3 v4 v5:Option V),σ=[some (.ref a),some (.ref ly),some (.ref l),v3,v4,v5]∧Bl H1 H6∧H6 l=some (.lst (vI ks))∧Pc tss (m+n) i 0 ks)
    ⟨_,none,none,none,rfl,u5,g5,Pc.nil tss (m+n) (by rw[List.length_replicate])⟩ (fun i σ H6 ⟨_,_,_,_,_,s6,_⟩=>SqL.of (s6 _ _ N.h)) ?_ ?_⟩
   ·rintro i x σ H6 T6 hx ⟨ks,v3,v4,v5,rfl,s6,g6,pc⟩ nT
    have N6:=N.same s6
    obtain⟨r,ts,rfl,hr1,hr2,hr3⟩:=N6.at hx
    have hi:i<tss.length:=(List.getElem?_eq_some_iff.mp hr2).1
    have e2:ts=tss[i]:=Option.some.inj (hr2.symm.trans (AsJ hi))
    subst e2
    have hrl:r≠l:=fun e=>by
     have z:=N.r i r _ hr1 hr2
     rw[e,nl1] at z
     cases z
    have s7:Bl H1 (upd H6 T6 (.tup [.int (i:Int),.ref r])):=s6.new nT
    have g7:=(Bl.upd nT (o:=.tup [.int (i:Int),.ref r])) _ _ g6
    have hr7:=(Bl.upd nT (o:=.tup [.int (i:Int),.ref r])) _ _ hr3
    refine⟨_,_,rfl,SqT.of Ae,rfl,_,_,rfl,_,_,rfl,rfl,?_⟩
    generalize upd H6 T6 (.tup [.int (i:Int),.ref r])=H7 at s7 g7 hr7 ⊢
    refine⟨_,rfl,_,rfl,⟨_,SqL.of hr7⟩,Rw (K:=K) (a:=r) (xs:=vI tss[i]) (fun j σ H8=>∃(ks:List Int) (v5:Option V),σ=[some (.ref a),some (.ref ly),some (.ref l),some (.int (i:Int)),some (.ref r),v5]∧Bl H1 H8∧H8 l=some (.lst (vI ks))∧H8 r=some (.lst (vI tss[i]))∧Pc tss (m+n) i j ks)
     ⟨ks,_,rfl,s7,g7,hr7,pc⟩ (fun j σ H8 _ ⟨_,_,_,_,_,h,_⟩=>SqL.of h) ?_ ?_⟩
    ·rintro j x σ H8 hx ⟨ks8,v5',rfl,s8,g8,hr8,pc8⟩
     obtain⟨z,hz,rfl⟩:=Nx hx
     have hj:j<tss[i].length:=(List.getElem?_eq_some_iff.mp hz).1
     have ez:z=tss[i][j]:=Option.some.inj (hz.symm.trans (AsJ hj))
     have mz:=L.mem hi (AsV hj)
     rw[← ez] at mz
     refine⟨_,rfl,_,rfl,_,rfl,_,_,_,_,rfl,rfl,g8,Afu mz.1 (by rw[Bs,pc8.len];omega),?_⟩
     rw[Aft]
     refine⟨_,_,rfl,s8.over nl1,Ae,by rw[Bh hrl];exact hr8,?_⟩
     rw[ez]
     exact pc8.step L hi hj
    ·rintro σ H8 ⟨ks8,v5',rfl,s8,g8,hr8,pc8⟩
     rw[Bs] at pc8
     exact⟨_,_,_,_,rfl,s8,g8,pc8.next hi⟩
   ·rintro σ H6 ⟨ks,v3,v4,v5,rfl,s6,g6,pc⟩
    rw[rl] at pc
    exact⟨_,rfl,k l H6 tss dA dB eo po ks (t1.trans s6.toT) (tb1.same s6) pA pB decA K6 L pc g6⟩
def LN (cl:List (List Nat))(m n:Nat)(ks:List Int):Prop:=∃ tss dA dB eo po,dA.Perm (eS cl m)∧dB.Perm (pS cl)∧dA.Pairwise (· ≥ ·)∧dB.Pairwise (· ≥ ·)∧Lay (upC cl) m n tss (K7 (Pz m n dA dB) n (m+1)) eo po∧Pc tss (m+n) tss.length 0 ks
theorem LN.uniq{cl:List (List Nat)}{m n:Nat}{ks ks':List Int}(a:LN cl m n ks)(b:LN cl m n ks'):ks=ks':=by
 obtain⟨tss,dA,dB,eo,po,pA,pB,decA,K6,L,pc⟩:=a
 obtain⟨Adx,dA',dB',eo',po',pA',pB',AiK,AiL,L',pc'⟩:=b
 have eA:=Nz (pA'.trans pA.symm) AiK decA
 have eB:=Nz (pB'.trans pB.symm) AiL K6
 subst eA eB
 have et:=L'.uniq L
 subst et
 exact Pc.uniq L pc pc'
theorem LN.len{cl:List (List Nat)}{m n:Nat}{ks:List Int}(a:LN cl m n ks):ks.length=m+n:=by
 obtain⟨tss,dA,dB,eo,po,pA,pB,decA,K6,L,pc⟩:=a
 exact pc.len
def Cnt (ks:List Int)(N:Nat):Prop:=(∀ z∈ks,0≤z∧z<(N:Int))∧∀ i,i<N→((i:Nat):Int)∈ks
theorem LN.cnt{cl:List (List Nat)}{m n:Nat}{ks:List Int}(a:LN cl m n ks):∃ N,N≤m+n∧Cnt ks N:=by
 obtain⟨tss,dA,dB,eo,po,pA,pB,decA,K6,L,pc⟩:=a
 have few:=L.few
 refine⟨tss.length,few,fun z hz=>?_,fun i hi=>?_⟩
 ·obtain⟨x,hx,rfl⟩:=Atl hz
  rw[pc.len] at hx
  obtain⟨i,hi,hm⟩:=L.has hx
  have:=pc.old i _ hi hi hm
  rw[Ate,AsJ (by rw[pc.len];exact hx)] at this
  have:=Option.some.inj this
  omega
 ·have ne:=L.ne hi
  exact AsS (pc.old i _ hi hi (AsV ne))
theorem Alc{cl:List (List Nat)}{m n:Nat}(h:m+n<64):Fw cl m n:=fun dA dB _ _ _ _ i x y hx hy=>by
 have:=Ny.mp (AsS hy)
 omega
def AeB (H:Hp)(l:Addr):Prop:=∀ xs,H l≠some (.lst xs)
theorem AeB.of{H H1:Hp}{l:Addr}(s:Ea H H1)(h:H1 l=none):AeB H l:=fun xs e=>by
 rw[s.lst e] at h
 cases h
def SmT (cl:List (List Nat))(m n:Nat)(sh:List Int)(S:List SetW.T3):Prop:=∃ ks,LN cl m n ks∧S.Pairwise (fun x y=>SetW.lt3 x y=true)∧∀ z,z∈S↔z∈RZ (ks.drop m) sh 8
structure Pre (K:PySem.W.Frag) (tT:Addr) (H:Hp) (a b:Addr) (cl:List (List Nat)) (m n:Nat) (sh:List Int):Prop where
 hS:SqL K H a (vS cl)
 C:Cl cl m n
 fw:Fw cl m n
 tb:Tb tT "layers_of.<locals>.<lambda>" H
 hB:SqL K H b (vI sh)
 hn:sh.length=n
 bd:∀ z∈sh,0≤z∧z<8
def Ald (K:PySem.W.Frag)(tT:Addr):Sp:=fun vs H Q _=>∃(a b:Addr) (cl:List (List Nat)) (m n:Nat) (sh:List Int),vs=[.ref a,.ref b]∧Pre K tT H a b cl m n sh ∧
 ∀ l H' q,Ea H H'→Tb tT "layers_of.<locals>.<lambda>" H'→AeB H l→H' l=some (.lst (rf3 q))→TT3 H' q→SmT cl m n sh (q.map (·.2))→Q (.ref l) H'
theorem gI{ks:List Int}{i:Int}{k:Nat}(e:i=(k:Int))(h:k<ks.length):atI (vI ks) i=some (.int (ks.getD k 0)):=by
 subst e
 refine Dk (by omega) ?_
 rw[Ate,Ys (AsJ h),Atw,AsJ h]
 rfl
theorem AdG{G:Prop}{R:Str→Prop}(C:Str→Prop)(main:(∀ z,C z→R z)→G)(rest:∀ z,C z→R z):G:=main rest
theorem An2{c A B:Prop}[Decidable c](h1:¬c→A)(h2:c→B):if (!decide c)=true then A else B:=by
 by_cases h:c
 ·exact Aah h (h2 h)
 ·exact Aiq h (h1 h)
theorem Kz{i j:Int}:V.int i=V.int j↔i=j:=⟨fun e=>by injection e,fun e=>by rw[e]⟩
def AmI (K:PySem.W.Frag):Sp:=fun vs H Q _=>∃(b:Addr) (sh:List Int),vs=[.ref b,.int (sh.length:Int)]∧SqL K H b (vI sh)∧(∀ z∈sh,0≤z∧z<8)∧Q .non H
theorem Aa2(T:Txt K mg t):Bp P w K mg base CX0 1 t.Ci t.Gp ["shuttles", "picks"] (AmI K):=by
 refine T.Dd.F.ok Ip (fun vs H Q E h=>?_) (fun cdv A outer s H vs Q E hr h=>?_)
 ·obtain⟨b,sh,rfl,_⟩:=h
  rfl
 ·obtain⟨b,sh,rfl,hS,bd,k⟩:=h
  refine⟨_,(Ac (Cu (An Aad (Ao (Bt (K:=K)) rfl T.Ir Ge (Aa (pv 0) Ad)) (pv 1) (Be _))
    (Ah Ru)
    Bo)
   (Ah (Hx PassesOwn.never rfl (Ew (K:=K) (pv 0)) (Dj (i:=2) Ip.nd rfl (Or.inl rfl))
    (Ah (Cu (PW.pt (pw_or (An Acd (pv 2) Ag (Be _)) (pw_or1 (An AjR (pv 2) (Bj (v:=.int 8) rfl T.Y6.choose_spec ⟨_,rfl⟩) (Be _)))))
     (Ah Ru)
     Bo))))),?_⟩
  refine⟨_,rfl,_,_,rfl,.inl hS,_,rfl,rfl,_,rfl,?_⟩
  refine Aah (by rw[Bs]) ?_
  refine⟨_,rfl,_,rfl,⟨_,hS⟩,Rw (K:=K) (a:=b) (xs:=vI sh) (fun i σ H2=>∃ v,σ=[some (.ref b),some (.int (sh.length:Int)),v]∧H2=H) ⟨none,rfl,rfl⟩ (fun i σ H2 _ ⟨_,_,e⟩=>e▸hS) ?_ ?_⟩
  ·rintro i x σ H2 hx ⟨v,rfl,rfl⟩
   obtain⟨z,hz,rfl⟩:=Nx hx
   have:=bd z (AsS hz)
   refine⟨_,rfl,_,_,rfl,rfl,_,rfl,?_⟩
   refine DR (fun h=>absurd h (by omega)) (fun h=>?_)
   refine⟨_,rfl,_,_,rfl,rfl,_,rfl,?_⟩
   refine DR (fun h=>absurd h (by omega)) (fun h=>?_)
   exact⟨_,rfl,rfl⟩
  ·rintro σ H2 ⟨v,rfl,rfl⟩
   exact k
def Ale (K:PySem.W.Frag):Sp:=fun vs H Q _=>∃(r:Addr) (th:List Int),vs=[.ref r]∧SqL K H r (vI th)∧th.length≤100∧∀ l H' q,Bl H H'→H l=none→H' l=some (.lst (rf3 q))→TT3 H' q→q.map (·.2)=along th→Q (.ref l) H'
theorem AdH(T:Txt K mg t):Bp P w K mg base CX0 1 t.Gj t.QS ["thrown"] (Ale K):=by
 refine T.Pj.F.ok JR (fun vs H Q E h=>?_) (fun cdv A outer s H vs Q E hr h=>?_)
 ·obtain⟨r,th,rfl,_⟩:=h
  rfl
 ·obtain⟨r,th,rfl,hS,Aqi,k⟩:=h
  have hsz:sizeLine=16777216:=sizeLine_eq
  refine⟨_,(Ac (Aq (i:=1) JR.nd rfl (Or.inl rfl) (RM Ad))
   (Ac (Hx PassesOwn.never rfl (AiX rfl T.GX (Aa Ag (Aa (Ao (Bt (K:=K)) rfl T.Ir Ge (Aa (pv 0) Ad)) Ad))) (Dj (i:=2) JR.nd rfl (Or.inl rfl))
    (Ac (Aq (i:=3) JR.nd rfl (Or.inl rfl) (Agj (An Fi (Bd Dv (pv 2) Ag) Ag (Be _)) Bx Bx))
    (Ah (Cu (An Aad (Bv (Bg (K:=K)) (pv 0) (Bd Vo (pv 2) Ag) (fun _ _=>rfl)) (Bv (Bg (K:=K)) (pv 0) (pv 2) (fun _ _=>rfl)) (Be _))
     (Ah (Ja (Mr (K:=K) PySem.F.plainAttrs_list PySem.F.slot_list_append PySem.F.type_list_append Np (pv 1) (Aa (K5 (Aa (Ao Adf rfl T.Anu Akf (Aa (Bv (Bg (K:=K)) (pv 0) (Bd Vo (pv 2) Ag) (fun _ _=>rfl)) (Aa (Bv (Bg (K:=K)) (pv 0) (pv 2) (fun _ _=>rfl)) Ad))) (Aa (Ao RP rfl T.AgW Adh (Aa (Bv (Bg (K:=K)) (pv 0) (Bd Vo (pv 2) Ag) (fun _ _=>rfl)) (Aa (Bv (Bg (K:=K)) (pv 0) (pv 2) (fun _ _=>rfl)) Ad))) (Aa (pv 3) Ad)))) Ad))))
     Bo))))
   (Ah (BP (pv 1))))),?_⟩
  refine⟨(by show 0≤sizeLine;decide),fun l nl=>?_⟩
  have s1:Bl H (upd H l (.lst [])):=.upd nl
  have h1:(upd H l (.lst [])) l=some (.lst (rf3 [])):=Ae
  generalize upd H l (.lst [])=H1 at s1 h1 ⊢
  refine⟨_,rfl,_,_,rfl,.inl (s1.seq hS),_,_,rfl,⟨by decide,by decide,by rw[Bs];omega,by rw[Bs];omega⟩,?_⟩
  rw[Bs]
  refine Jb (lo:=1) (n:=((th.length:Int)-1).toNat) (fun i σ H2=>∃ q v2 v3,σ=[some (.ref r),some (.ref l),v2,v3]∧Bl H H2∧H2 l=some (.lst (rf3 q))∧TT3 H2 q∧q.map (·.2)=Yx th i) ⟨[],none,none,rfl,s1,h1,(fun x hx=>absurd hx (by simp)),rfl⟩ ?_ ?_
  ·rintro i σ H2 hi ⟨q,v2,v3',rfl,s2,g2,t2,eq⟩
   have e1:=gI (ks:=th) (i:=1+(i:Int)) (k:=i+1) (by omega) (by omega)
   have e2:=gI (ks:=th) (i:=1+(i:Int)-1) (k:=i) (by omega) (by omega)
   have S2:=s2.seq hS
   have ql:q.length≤i:=by
    have:=congrArg List.length eq
    rw[AsH] at this
    have:=Yy th i
    omega
   apply AdG (fun z=>z=sdW i)
   ·intro rest
    refine⟨_,rfl,_,_,rfl,rfl,(by show(0:Int)<2;decide),rfl,_,rfl,?_⟩
    refine DR (fun h=>?_) (fun h=>?_)
    ·obtain⟨sv,hsv⟩:∃ sv:Str,sv = "right" := ⟨_,rfl⟩
     rw[← hsv]
     refine rest sv ?_
     rw[hsv]
     unfold sdW
     rw[if_pos (by rw[Kz] at h;omega)]
    ·refine rest _ ?_
     unfold sdW
     rw[if_neg (by rw[Kz] at h;omega)]
   rintro z rfl
   refine⟨_,rfl,_,rfl,_,_,rfl,rfl,_,_,_,_,rfl,rfl,S2,e2,_,rfl,_,rfl,_,_,_,_,rfl,rfl,S2,e1,rfl,_,rfl,?_⟩
   refine An2 (fun h=>?_) (fun h=>?_)
   ·refine⟨_,rfl,.inl ⟨rfl,_,SqL.of g2⟩,_,rfl,_,rfl,_,_,rfl,rfl,_,_,_,_,rfl,rfl,S2,e2,_,rfl,_,rfl,_,_,_,_,rfl,rfl,S2,e1,_,_,rfl,?_⟩
    refine⟨_,rfl,_,rfl,_,_,rfl,rfl,_,_,_,_,rfl,rfl,S2,e2,_,rfl,_,rfl,_,_,_,_,rfl,rfl,S2,e1,_,_,rfl,_,rfl,(by show 3≤sizeLine;decide),fun p np=>?_⟩
    have s3:Bl H2 (upd H2 p (.tup (v3 (mn2 (th.getD i 0) (th.getD (i+1) 0),mx2 (th.getD i 0) (th.getD (i+1) 0),sdW i)))):=.upd np
    have g3:(upd H2 p (.tup (v3 (mn2 (th.getD i 0) (th.getD (i+1) 0),mx2 (th.getD i 0) (th.getD (i+1) 0),sdW i)))) p=some (.tup (v3 (mn2 (th.getD i 0) (th.getD (i+1) 0),mx2 (th.getD i 0) (th.getD (i+1) 0),sdW i))):=Ae
    have pl:p≠l:=fun e=>by rw[e,g2] at np;cases np
    refine⟨_,_,_,rfl,rfl,s3 _ _ g2,(by rw[Xv];omega),?_⟩
    refine⟨q++[(p,(mn2 (th.getD i 0) (th.getD (i+1) 0),mx2 (th.getD i 0) (th.getD (i+1) 0),sdW i))],_,_,rfl,(s2.trans s3).over nl,by rw[AiE];exact Ae,fun x hx=>?_,?_⟩
    ·rcases List.mem_append.mp hx with h1 | h1
     ·have g:=s3 _ _ (t2 x h1)
      rw[Bh (fun e=>by rw[e,s3 _ _ g2] at g;cases g)]
      exact g
     ·rw[List.mem_singleton.mp h1]
      rw[Bh pl]
      exact g3
    ·rw[Vq,AsP,eq]
     unfold smA
     rw[if_neg (fun e=>h (Kz.mpr e))]
     rfl
   ·refine⟨q,_,_,rfl,s2,g2,t2,?_⟩
    rw[Vq,eq]
    unfold smA
    rw[if_pos (Kz.mp h),Atk]
  ·rintro σ H2 ⟨q,v2,v3',rfl,s2,g2,t2,eq⟩
   refine⟨_,rfl,k l H2 q s2 nl g2 t2 ?_⟩
   rw[eq]
   unfold along
   congr 1
   omega
theorem Alf{ns:List Int}{k:Nat}(h:k<ns.length):atI (vI ns) (0+(k:Int))=some (.int (ns.getD k 0)):=gI (by omega) h
theorem Alh{ns:List Int}{m:Nat}(h:m≤ns.length):Lw (vI ns) (some (m:Int)) none=vI (ns.drop m):=by
 unfold Lw
 have q1:HT.sIx (vI ns).length 0 (some (m:Int))=m:=by rw[HT.Lb,Bs,Atq h]
 have q2:HT.sIx (vI ns).length (vI ns).length none=(vI ns).length:=rfl
 rw[q1,q2]
 unfold vI
 rw[← At8]
 exact Atc (by rw[AsH,AsH,Atg];omega)
theorem TT3.put{H:Hp}{q:List (Addr × SetW.T3)}{l:Addr}{xs ys:List V}(h:TT3 H q)(g:H l=some (.lst xs)):TT3 (upd H l (.lst ys)) q:=fun x hx=>by
 have z:=h x hx
 rw[Bh (fun e=>by rw[e,g] at z;cases z)]
 exact z
theorem AiM(f:Nat→Int)(sh:List Int)(s:Int)(i:Nat):vI ((Yz sh s (i+1)).map f)=vI ((Yz sh s i).map f)++(if sh.getD i 0=s then [V.int (f i)] else []):=by
 rw[Aj5,AsP]
 unfold vI
 rw[AsP]
 congr 1
 split <;> rfl
theorem LC{tc tT:Addr}(T:Txt K mg t)(hcd:t.CZ.code=.ref tc)(hCd:PySem.W.CodeHd base tc tT)(hBm:Bm mg base):Bp P w K mg base CX0 8 t.CK t.Ez ["cloth", "shuttles"] (Ald K tT):=by
 have DX:Bp P w K mg base CX0 3 t.Dw t.Gw _ _:=JG T
 have Ht:Bp P w K mg base CX0 1 t.Ci t.Gp _ _:=Aa2 T
 have Ia:Bp P w K mg base CX0 7 t.Di t.HR _ _:=KQ T hcd hCd hBm
 have AeC:Bp P w K mg base CX0 1 t.Gj t.QS _ _:=AdH T
 refine T.Ca.F.ok Gh (fun vs H Q E h=>?_) (fun cdv A outer s H vs Q E hr h=>?_)
 ·obtain⟨a,b,cl,m,n,sh,rfl,_⟩:=h
  rfl
 ·obtain⟨a,b,cl,m,n,sh,rfl,⟨hS,C,fw,tb,hB,hn,bd⟩,k⟩:=h
  subst hn
  have hsz:sizeLine=16777216:=sizeLine_eq
  have c2:=C.n40
  have c4:=C.m40
  refine⟨_,(Ac (Aq (i:=2) Gh.nd rfl (Or.inl rfl) (Bw (DX.mono (by decide)) hr rfl T.measured.m T.measured.F.kp T.measured.b .nil Fz (Aa (pv 0) Ad)))
   (Ac (Ja (Bw (Ht.mono (by decide)) hr rfl T.Dd.m T.Dd.F.kp T.Dd.b .nil Fz (Aa (pv 1) (Aa (Bv (Fe (K:=K)) (pv 2) Ag (fun _ _=>rfl)) Ad))))
   (Ac (Aq (i:=3) Gh.nd rfl (Or.inr rfl) (FT (HJ (K:=K)) (Bw (Ia.mono (by decide)) hr rfl T.Ef.m T.Ef.F.kp T.Ef.b .nil Fz (Aa (pv 0) Ad)) (G9 (Bv (Fe (K:=K)) (pv 2) Ag (fun _ _=>rfl))) Im))
   (Ac (Aq (i:=4) Gh.nd rfl (Or.inl rfl) (RM Ad))
   (Ac (Hx PassesOwn.never rfl (Gm rfl T.GX (Aa (Bj (v:=.int 8) rfl T.Y6.choose_spec ⟨_,rfl⟩) Ad)) (Dj (i:=5) Gh.nd rfl (Or.inr rfl))
    (Ac (Aak (i:=6) (Hh.mk (BL:=[1,3,5]) (Nc:=["pick", "shuttles", "pick_layers", "shuttle"]) rfl (by decide +kernel) (by decide +kernel) (GP (sc0:=Ab Gs) rfl (by decide +kernel)) rfl rfl rfl (by decide +kernel) (fun k j h=>match k,h with | 0,h=>by obtain rfl:=Option.some.inj h;exact⟨_,rfl,rfl,rfl⟩ | 1,h=>by obtain rfl:=Option.some.inj h;exact⟨_,rfl,rfl,rfl⟩ | 2,h=>by obtain rfl:=Option.some.inj h;exact⟨_,rfl,rfl,rfl⟩ | _+3,h=>by simp at h)) rfl Gh.nd rfl rfl (Gm rfl T.GX (Aa (Bv (Fe (K:=K)) (pv 2) Ag (fun _ _=>rfl)) Ad)) (fun _ _ _ _ _=>.one (An Fi (Bv (Bg (K:=K)) (pv 1) (pv 0) (fun _ _=>rfl)) (pv 3) (Be _))) (fun _ _ _ _ _=>(Bv (Bg (K:=K)) (pv 2) (pv 0) (fun _ _=>rfl))) rfl)
    (Ah (Ja (Mr (K:=K) PySem.F.plainAttrs_list PySem.F.slot_list_extend PySem.F.type_list_extend Ajd (pv 4) (Aa (Bw (AeC.mono (by decide)) hr rfl T.Pj.m T.Pj.F.kp T.Pj.b .nil Fz (Aa (pv 6) Ad)) Ad))))))
   (Ah (BP (AgL (K:=K) rfl T.NK rfl T.Anv (hr.Agw) (pv 4))))))))),?_⟩
  refine⟨_,rfl,a,cl,m,sh.length,rfl,hS,C,fun p hp=>?_⟩
  have s1:Bl H (upd H p (.tup [.int (m:Int),.int (sh.length:Int)])):=.upd hp
  have gp1:(upd H p (.tup [.int (m:Int),.int (sh.length:Int)])) p=some (.tup [.int (m:Int),.int (sh.length:Int)]):=Ae
  generalize upd H p (.tup [.int (m:Int),.int (sh.length:Int)])=H1 at s1 gp1 ⊢
  refine⟨_,rfl,_,rfl,_,_,_,_,rfl,rfl,SqT.of gp1,Dk (by decide) rfl,b,sh,rfl,s1.seq hB,bd,?_⟩
  refine⟨_,rfl,a,cl,m,sh.length,rfl,s1.seq hS,C,fw,tb.same s1,fun ln H2 tss dA dB eo po ks t2 tb2 pA pB decA K6 L pc gl=>?_⟩
  have x2:Ea H H2:=s1.toT.trans t2
  have gp2:=t2.tup gp1
  have kl:=pc.len
  have B2:=x2.seq hB
  refine⟨_,rfl,_,_,_,_,rfl,rfl,SqT.of gp2,Dk (by decide) rfl,_,rfl,_,_,rfl,SqL.of gl,fun c nc=>?_⟩
  rw[Alh (by omega)]
  have s3:Bl H2 (upd H2 c (.lst (vI (ks.drop m)))):=.upd nc
  have g3:(upd H2 c (.lst (vI (ks.drop m)))) c=some (.lst (vI (ks.drop m))):=Ae
  generalize upd H2 c (.lst (vI (ks.drop m)))=H3 at s3 g3 ⊢
  have dl:(ks.drop m).length=sh.length:=by rw[Atg];omega
  obtain⟨ls,els⟩:∃ ls,ls=ks.drop m:=⟨_,rfl⟩
  rw[← els] at g3 dl
  have k':=k
  refine⟨AsM _,fun l nl=>?_⟩
  have s4:Bl H3 (upd H3 l (.lst [])):=.upd nl
  have g4:(upd H3 l (.lst [])) l=some (.lst (rf3 [])):=Ae
  generalize upd H3 l (.lst [])=H4 at s4 g4 ⊢
  refine⟨_,rfl,(by decide),(by decide),?_⟩
  refine Jb (lo:=0) (n:=8) (fun i σ H5=>∃ q v5 v6,σ=[some (.ref a),some (.ref b),some (.ref p),some (.ref c),some (.ref l),v5,v6]∧Bl H3 H5∧H5 l=some (.lst (rf3 q))∧TT3 H5 q∧q.map (·.2)=RZ ls sh i) ⟨[],none,none,rfl,s4,g4,(fun x hx=>absurd hx (by simp)),rfl⟩ ?_ ?_
  ·rintro i σ H5 hi ⟨q,v5,v6,rfl,s5,g5,t5,eq⟩
   have ql:q.length≤sh.length:=by
    have:=congrArg List.length eq
    rw[AsH] at this
    have:=Y0 ls sh i
    omega
   refine⟨_,rfl,_,_,_,_,rfl,rfl,SqT.of (s5 _ _ (s3 _ _ gp2)),Dk (by decide) rfl,_,rfl,(by omega),(by omega),?_⟩
   rw[Ate]
   have S5:SqL K H5 b (vI sh):=(s3.trans s5).seq B2
   have L5:SqL K H5 c (vI ls):=SqL.of (s5 _ _ g3)
   refine Nv (lo:=0) (n:=sh.length) (fun j ys H6=>H6=H5∧ys=vI ((Yz sh (0+(i:Int)) j).map fun x=>ls.getD x 0)) ⟨rfl,rfl⟩ ?_ ?_ ?_ ?_
   ·rintro j ys H6 hj ⟨rfl,rfl⟩
    rw[Bs,AsH]
    exact AgP _ _ _
   ·omega
   ·rintro j ys H6 hj ⟨rfl,rfl⟩
    refine⟨_,rfl,_,rfl,_,_,_,_,rfl,rfl,S5,Alf hj,_,rfl,rfl,_,rfl,?_⟩
    refine DR (fun h=>?_) (fun h=>?_)
    ·refine⟨_,rfl,_,rfl,_,_,_,_,rfl,rfl,L5,Alf (k:=j) (by omega),CN.of hj ⟨rfl,?_⟩⟩
     rw[AiM,if_pos (Kz.mp h)]
    ·refine CN.of hj ⟨rfl,?_⟩
     rw[AiM,if_neg (fun e=>h (Kz.mpr e)),Atk]
   ·rintro ys H6 d ⟨rfl,rfl⟩ nd
    have s6:Bl H6 (upd H6 d (.lst (vI ((Yz sh (0+(i:Int)) sh.length).map fun x=>ls.getD x 0)))):=.upd nd
    have g6:(upd H6 d (.lst (vI ((Yz sh (0+(i:Int)) sh.length).map fun x=>ls.getD x 0)))) d=some (.lst (vI ((Yz sh (0+(i:Int)) sh.length).map fun x=>ls.getD x 0))):=Ae
    generalize upd H6 d (.lst (vI ((Yz sh (0+(i:Int)) sh.length).map fun x=>ls.getD x 0)))=H7 at s6 g6 ⊢
    have tl:=AgR ls sh (0+(i:Int))
    have tl2:=AgP sh (0+(i:Int)) sh.length
    refine⟨_,rfl,.inl ⟨rfl,_,SqL.of (s6 _ _ g5)⟩,_,rfl,d,AgQ ls sh (0+(i:Int)),rfl,SqL.of g6,by omega,fun l2 H8 q2 s8 nl2 g8 t8 eq2=>?_⟩
    have al:=AeT (AgQ ls sh (0+(i:Int)))
    have q2l:q2.length≤sh.length:=by
     have:=congrArg List.length eq2
     rw[AsH] at this
     omega
    have g58:=(s6.trans s8) _ _ g5
    refine⟨_,_,_,_,rfl,rfl,g58,g8,(by rw[Xv,Xv];omega),?_⟩
    refine⟨q++q2,_,_,rfl,(s5.trans (s6.trans s8)).over nl,by rw[AiE];exact Ae,((t5.same (s6.trans s8)).app t8).put g58,?_⟩
    rw[AsP,eq,eq2,Acg,AtH]
  ·rintro σ H5 ⟨q,v5,v6,rfl,s5,g5,t5,eq⟩
   refine⟨_,rfl,l,q,rfl,SqL.of g5,(fun x hx=>SqT.of (t5 x hx)),(fun ds nd hds=>?_),fun l' q' sub pw mem nl'=>?_⟩
   ·rw[eq] at hds
    have:=Xu nd hds
    have:=Y0 ls sh 8
    omega
   ·have s6:Bl H5 (upd H5 l' (.lst (rf3 q'))):=.upd nl'
    refine k' l' _ q' (x2.trans (s3.trans (s5.trans s6)).toT) (tb2.same (s3.trans (s5.trans s6))) (AeB.of (x2.trans (s3.trans s5).toT) nl') Ae (fun x hx=>s6 _ _ (t5 x (sub x hx))) ⟨ks,⟨tss,dA,dB,eo,po,pA,pB,decA,K6,L,pc⟩,List.pairwise_map.mpr pw,fun z=>?_⟩
    rw[mem z,eq,els]
theorem AcU{q:List (Addr × SetW.T3)}{i:Nat}{x:V}(h:(rf3 q)[i]?=some x):∃ p,q[i]?=some p∧x=.ref p.1:=by
 unfold rf3 at h
 rw[AsU] at h
 obtain⟨p,h1,h2⟩:=Option.map_eq_some_iff.mp h
 exact⟨p,h1,h2.symm⟩
theorem AoA{H:Hp}{x y:Addr × SetW.T3}(h1:H x.1=some (.tup (v3 x.2)))(h2:H y.1=some (.tup (v3 y.2))):K9 K H (.ref x.1) (.ref y.1) (eqL (v3 x.2) (v3 y.2)):=.tup (SqT.of h1) (SqT.of h2) rfl rfl
theorem AmJ{H:Hp}{x y:Addr × SetW.T3}(h1:H x.1=some (.tup (v3 x.2)))(h2:H y.1=some (.tup (v3 y.2)))(e:x.2=y.2):K9 K H (.ref x.1) (.ref y.1) true:=by
 have:=AoA (K:=K) h1 h2
 rw[e,Aal rfl] at this
 exact this
theorem in3{H:Hp}{q:List (Addr × SetW.T3)}{y:Addr × SetW.T3}(T:TT3 H q)(h2:H y.1=some (.tup (v3 y.2)))(hm:y.2∈q.map (·.2)):(∀(i:Nat) (z:V),(rf3 q)[i]?=some z→∃ b,K9 K H z (.ref y.1) b)∧(∃(i:Nat) (z:V),(rf3 q)[i]?=some z∧K9 K H z (.ref y.1) true):=by
 refine⟨fun i z hz=>?_,?_⟩
 ·obtain⟨p,hp,rfl⟩:=AcU hz
  exact⟨_,AoA (T p (AsS hp)) h2⟩
 ·obtain⟨p,hp,e⟩:=List.mem_map.mp hm
  obtain⟨i,hi,ei⟩:=Atl hp
  exact⟨i,.ref p.1,by unfold rf3;rw[AsU,AsJ hi,ei];rfl,AmJ (T p hp) h2 e⟩
theorem Aru(x y:SetW.T3):eqL (v3 x) (v3 y)=decide (x=y):=by
 obtain⟨a,b,c⟩:=x
 obtain⟨a',b',c'⟩:=y
 show((a == a') && ((b == b') && ((c == c') && true)))=_
 rw[AtJ]
 simp
theorem AoB{H:Hp}{q:List (Addr × SetW.T3)}{y:Addr × SetW.T3}(T:TT3 H q)(h2:H y.1=some (.tup (v3 y.2)))(hm:¬y.2∈q.map (·.2)):∀(i:Nat) (z:V),(rf3 q)[i]?=some z→K9 K H z (.ref y.1) false:=fun i z hz=>by
 obtain⟨p,hp,rfl⟩:=AcU hz
 have:=AoA (K:=K) (T p (AsS hp)) h2
 rw[Aru,decide_eq_false (fun e=>hm (List.mem_map.mpr ⟨p,AsS hp,e⟩))] at this
 exact this
theorem Ali{a b:Str}:(V.str a:V)=V.str b↔a=b:=⟨fun e=>by injection e,fun e=>by rw[e]⟩
def Alj (S:List SetW.T3)(z:SetW.T3):Bool:=decide (z.2.2=("left" : Str)∧(z.1,z.2.1,("right" : Str))∈S)
theorem Alk{α β:Type}{p:α→Bool}{f:α→β}{l:List α}{i:Nat}{x:α}(h:l[i]?=some x):((l.take (i+1)).filter p).map f=((l.take i).filter p).map f++(if p x=true then [f x] else []):=by
 rw[Atm,h,AtP,AsP]
 congr 1
 show(List.filter p [x]).map f=_
 by_cases e:p x=true
 ·rw[if_pos e,Aud e];rfl
 ·rw[if_neg e,Aue e];rfl
def Alm (K:PySem.W.Frag)(tT:Addr):Sp:=fun vs H Q _=>∃(a b:Addr) (cl:List (List Nat)) (m n:Nat) (sh:List Int),vs=[.ref a,.ref b]∧Pre K tT H a b cl m n sh ∧
 ∀ l H' q S,Ea H H'→Tb tT "layers_of.<locals>.<lambda>" H'→AeB H l→H' l=some (.lst (rf2 q))→TT2 H' q→SmT cl m n sh S→q.map (·.2)=Ark S→Q (.ref l) H'
theorem Ahb{cl:List (List Nat)}{m n:Nat}{sh:List Int}{S:List SetW.T3}(h:SmT cl m n sh S):S.length≤sh.length:=by
 obtain⟨ks,_,pw,mem⟩:=h
 have nd:S.Nodup:=pw.imp fun h e=>by rw[e,SetW.AiC] at h;cases h
 have:=Xu nd fun z hz=>(mem z).mp hz
 have:=Y0 (ks.drop m) sh 8
 omega
theorem Vz{tc tT:Addr}(T:Txt K mg t)(hcd:t.CZ.code=.ref tc)(hCd:PySem.W.CodeHd base tc tT)(hBm:Bm mg base):Bp P w K mg base CX0 9 t.FP t.Jz ["cloth", "shuttles"] (Alm K tT):=by
 have Dh:Bp P w K mg base CX0 8 t.CK t.Ez _ _:=LC T hcd hCd hBm
 refine T.HS.F.ok JC (fun vs H Q E h=>?_) (fun cdv A outer s H vs Q E hr h=>?_)
 ·obtain⟨a,b,cl,m,n,sh,rfl,_⟩:=h
  rfl
 ·obtain⟨a,b,cl,m,n,sh,rfl,pre,k⟩:=h
  have hsz:sizeLine=16777216:=sizeLine_eq
  have c2:=pre.C.n40
  have hn:=pre.hn
  refine⟨_,(Ac (Aq (i:=2) JC.nd rfl (Or.inr rfl) (Bw (Dh.mono (by decide)) hr rfl T.Ca.m T.Ca.F.kp T.Ca.b .nil Fz (Aa (pv 0) (Aa (pv 1) Ad))))
   (Ah (BP (Aj6 (K:=K) (Xw.mk (BL:=[2]) (Nc:=["upper", "lower", "side", "seams"]) rfl (by decide +kernel) (by decide +kernel) (GP (sc0:=Ab Gu) rfl (by decide +kernel)) rfl rfl rfl rfl rfl rfl rfl (by decide +kernel) (fun k j h=>match k,h with | 0,h=>by obtain rfl:=Option.some.inj h;exact⟨_,rfl,rfl,rfl⟩ | _+1,h=>by simp at h)) rfl (Ew (K:=K) (pv 2)) (fun _ _ _ _ _=>.one (PW.pt (pw_and (An Fi (pv 2) Bx (Be _)) (pw_and1 (An (Ao2 (K:=K) hr.Agw) (K5 (Aa (pv 0) (Aa (pv 1) (Aa Bx Ad)))) (pv 3) rfl))))) (fun _ _ _ _ _=>(K5 (Aa (pv 0) (Aa (pv 1) Ad)))))))),?_⟩
  refine⟨_,rfl,_,rfl,a,b,cl,m,n,sh,rfl,pre,fun ls H1 q t1 tb1 nls g1 T1 sm=>?_⟩
  have ql:=Ahb sm
  rw[AsH] at ql
  refine⟨_,rfl,_,rfl,⟨_,SqL.of g1⟩,AhJ (K:=K) (a:=ls) (xs:=rf3 q) (fun i ys H2=>Bl H1 H2∧∃ q2,ys=rf2 q2∧TT2 H2 q2∧q2.length≤i∧q2.map (·.2)=(((q.map (·.2)).take i).filter (Alj (q.map (·.2)))).map fun z=>(z.1,z.2.1)) ⟨.refl _,[],rfl,(fun x hx=>absurd hx (by simp)),AsI _,rfl⟩ ?_ ?_ ?_ ?_⟩
  ·rintro i ys H2 hi ⟨s2,q2,rfl,T2,l2,_⟩
   exact⟨SqL.of (s2 _ _ g1),by rw[AmC];exact l2⟩
  ·rw[Xv];omega
  ·rintro i x ys H2 hi hx ⟨s2,q2,rfl,T2,l2,eq2⟩
   obtain⟨p,hp,rfl⟩:=AcU hx
   have hpm:=AsS hp
   have hT:=s2 _ _ (T1 p hpm)
   have hS:(q.map (·.2))[i]?=some p.2:=by rw[AsU,hp];rfl
   have fn:=Alk (p:=Alj (q.map (·.2))) (f:=fun z:SetW.T3=>(z.1,z.2.1)) hS
   refine⟨p.1,_,_,_,rfl,SqT.of hT,?_⟩
   refine⟨_,rfl,rfl,_,rfl,?_⟩
   refine DR (fun h=>?_) (fun h=>?_)
   ·have h:=Ali.mp h
    refine⟨_,rfl,_,rfl,(by show 3≤sizeLine;decide),fun p3 np3=>?_⟩
    have s3:Bl H2 (upd H2 p3 (.tup (v3 (p.2.1,p.2.2.1, "right")))):=.upd np3
    have g3:(upd H2 p3 (.tup (v3 (p.2.1,p.2.2.1, "right")))) p3=some (.tup (v3 (p.2.1,p.2.2.1, "right"))):=Ae
    have e3:upd H2 p3 (.tup [.int p.2.1,.int p.2.2.1,.str "right"])=upd H2 p3 (.tup (v3 (p.2.1,p.2.2.1, "right"))):=rfl
    rw[e3]
    generalize upd H2 p3 (.tup (v3 (p.2.1,p.2.2.1, "right")))=H3 at s3 g3 ⊢
    have T3':=(T1.same s2).same s3
    by_cases hm:(p.2.1,p.2.2.1,("right" : Str))∈q.map (·.2)
    ·obtain⟨n1,n2⟩:=in3 (K:=K) (y:=(p3,(p.2.1,p.2.2.1, "right"))) T3' g3 hm
     refine⟨_,rfl,_,_,rfl,SqL.of (s3 _ _ (s2 _ _ g1)),.inl ⟨n1,n2,_,rfl,Adb ?_⟩⟩
     refine⟨_,rfl,_,rfl,(by show 2≤sizeLine;decide),fun p4 np4=>?_⟩
     have s4:Bl H3 (upd H3 p4 (.tup (v2 (p.2.1,p.2.2.1)))):=.upd np4
     refine CN.of hi ⟨(s2.trans s3).trans s4,q2++[(p4,(p.2.1,p.2.2.1))],by rw[AmB];rfl,fun x hx=>?_,by rw[AsN];exact Nat.succ_le_succ l2,?_⟩
     ·rcases List.mem_append.mp hx with h1 | h1
      ·exact(s3.trans s4) _ _ (T2 x h1)
      ·rw[List.mem_singleton.mp h1];exact Ae
     ·rw[fn,AsP,eq2,if_pos (show Alj (q.map (·.2)) p.2=true from decide_eq_true ⟨h,hm⟩)]
      rfl
    ·refine⟨_,rfl,_,_,rfl,SqL.of (s3 _ _ (s2 _ _ g1)),.inr ⟨AoB (K:=K) (y:=(p3,(p.2.1,p.2.2.1, "right"))) T3' g3 hm,_,rfl,XJ ?_⟩⟩
     refine CN.of hi ⟨s2.trans s3,q2,rfl,T2.same s3,by omega,?_⟩
     rw[fn,eq2,if_neg (by unfold Alj;rw[decide_eq_false (fun z=>hm z.2)];decide),Atk]
   ·refine XJ ?_
    refine CN.of hi ⟨s2,q2,rfl,T2,by omega,?_⟩
    rw[fn,eq2,if_neg (by unfold Alj;rw[decide_eq_false (fun z=>h (Ali.mpr z.1))];decide),Atk]
  ·rintro ys H2 p ⟨s2,q2,rfl,T2,l2,eq2⟩ np
   have s3:Bl H2 (upd H2 p (.lst (rf2 q2))):=.upd np
   rw[Atc (by rw[Xv,AsH];exact AsI _)] at eq2
   exact k p _ q2 _ (t1.trans (s2.trans s3).toT) (tb1.same (s2.trans s3)) (AeB.of (t1.trans s2.toT) np) Ae (T2.same s3) sm eq2
def lbl (N:Nat)(b:Nat→Nat):List Int:=(List.range N).map fun x=>((b x:Nat):Int)
theorem X3(N:Nat)(b:Nat→Nat):(lbl N b).length=N:=by unfold lbl;rw[AsH,AsQ]
theorem AiN{N:Nat}{b:Nat→Nat}{x:Nat}(h:x<N):(lbl N b)[x]?=some ((b x:Nat):Int):=by unfold lbl;rw[AsU,AtK h];rfl
theorem AhN{N:Nat}{b:Nat→Nat}{x:Nat}{z:Int}(e:z=(x:Int))(h:x<N):atI (vI (lbl N b)) z=some (.int ((b x:Nat):Int)):=Dk (by omega) (by rw[e,Ate];exact Ys (AiN h))
theorem Aln(i:Nat)(p:Nat→Bool):vI (fiN (i+1) p)=vI (fiN i p)++(if p i=true then [V.int ((i:Nat):Int)] else []):=by
 unfold fiN
 rw[At0,AtP,AsP]
 unfold vI
 rw[AsP]
 congr 1
 show List.map V.int (List.map _ (List.filter p [i]))=_
 by_cases e:p i=true
 ·rw[if_pos e,Aud e];rfl
 ·rw[if_neg e,Aue e];rfl
theorem AmK(i:Nat)(p:Nat→Bool):(fiN i p).length≤i:=by
 unfold fiN
 rw[AsH]
 have:=AtA p (List.range i)
 rwa [AsQ] at this
def AhO (K:PySem.W.Frag):Sp:=fun vs H Q _=>∃(lb:Addr) (N:Nat) (b:Nat→Nat) (v:Nat),vs=[.ref lb,.int (v:Int)]∧SqL K H lb (vI (lbl N b))∧N≤100∧∀ l H',Bl H H'→H l=none→H' l=some (.lst (vI (fiN N fun x=>decide (b x=v))))→Q (.ref l) H'
theorem AhP(T:Txt K mg t):Bp P w K mg base CX0 1 t.JF t.Ab4 ["bears", "number"] (AhO K):=by
 refine T.bearers.F.ok AhK (fun vs H Q E h=>?_) (fun cdv A outer s H vs Q E hr h=>?_)
 ·obtain⟨lb,N,b,v,rfl,_⟩:=h
  rfl
 ·obtain⟨lb,N,b,v,rfl,hS,h100,k⟩:=h
  have hsz:sizeLine=16777216:=sizeLine_eq
  refine⟨_,(Ah (BP (JN (Hh.mk (BL:=[0,1]) (Nc:=["place", "bears", "number"]) rfl (by decide +kernel) (by decide +kernel) (GP (sc0:=Ab Hn) rfl (by decide +kernel)) rfl rfl rfl (by decide +kernel) (fun k j h=>match k,h with | 0,h=>by obtain rfl:=Option.some.inj h;exact⟨_,rfl,rfl,rfl⟩ | 1,h=>by obtain rfl:=Option.some.inj h;exact⟨_,rfl,rfl,rfl⟩ | _+2,h=>by simp at h)) rfl (Gm rfl T.GX (Aa (Ao (Bt (K:=K)) rfl T.Ir Ge (Aa (pv 0) Ad)) Ad)) (fun _ _ _ _ _=>.one (An Fi (Bv (Bg (K:=K)) (pv 1) (pv 0) (fun _ _=>rfl)) (pv 2) (Be _))) (fun _ _ _ _ _=>(pv 0))))),?_⟩
  refine⟨_,rfl,_,_,rfl,.inl hS,_,rfl,(by omega),(by rw[Bs,X3];omega),?_⟩
  rw[Ate,Bs,X3]
  refine Nv (lo:=0) (n:=N) (fun i ys H2=>H2=H∧ys=vI (fiN i fun x=>decide (b x=v))) ⟨rfl,rfl⟩ ?_ ?_ ?_ ?_
  ·rintro i ys H2 hi ⟨rfl,rfl⟩
   rw[Bs]
   exact AmK _ _
  ·omega
  ·rintro i ys H2 hi ⟨rfl,rfl⟩
   have fs:=Aln i fun x=>decide (b x=v)
   refine⟨_,rfl,_,rfl,_,_,_,_,rfl,rfl,hS,AhN (by omega) hi,_,rfl,rfl,_,rfl,?_⟩
   refine DR (fun h=>?_) (fun h=>?_)
   ·refine⟨_,rfl,CN.of hi ⟨rfl,?_⟩⟩
    rw[fs,if_pos (decide_eq_true (by have:=Kz.mp h;omega)),show 0+(i:Int)=(i:Int) from AtH _]
   ·refine CN.of hi ⟨rfl,?_⟩
    rw[fs,if_neg (by rw[decide_eq_false (fun e=>h (Kz.mpr (by rw[e])))];decide),Atk]
  ·rintro ys H2 l ⟨rfl,rfl⟩ nl
   exact k l _ (.upd nl) nl Ae
theorem Aqj{th:List Int}{k:Nat}{z:SetW.T3}(h:z∈smA th k)(hk:k+1<th.length):z.1∈th∧z.2.1∈th:=by
 have m1:th.getD k 0∈th:=by rw[Atw,AsJ (by omega)];exact AsV _
 have m2:th.getD (k+1) 0∈th:=by rw[Atw,AsJ hk];exact AsV _
 unfold smA at h
 split at h
 ·exact absurd h (by simp)
 ·rw[List.mem_singleton.mp h]
  unfold mn2 mx2
  constructor
  ·show(if _ then _ else _)∈th
   split
   ·exact m2
   ·exact m1
  ·show(if _ then _ else _)∈th
   split
   ·exact m2
   ·exact m1
theorem AmL{ls sh:List Int}(hl:ls.length=sh.length){k:Nat}{z:SetW.T3}(h:z∈RZ ls sh k):z.1∈ls∧z.2.1∈ls:=by
 unfold RZ at h
 obtain⟨s,_,h⟩:=List.mem_flatMap.mp h
 unfold along Yx at h
 obtain⟨j,hj,h⟩:=List.mem_flatMap.mp h
 have hj:=List.mem_range.mp hj
 obtain⟨a,c⟩:=Aqj h (by omega)
 have sub:∀ y∈AgQ ls sh ((s:Nat):Int),y∈ls:=fun y hy=>by
  unfold AgQ at hy
  obtain⟨x,hx,rfl⟩:=List.mem_map.mp hy
  have:=Am9 hx
  rw[Atw,AsJ (by omega)]
  exact AsV _
 exact⟨sub _ a,sub _ c⟩
theorem SmT.lt{cl:List (List Nat)}{m n:Nat}{sh:List Int}{S:List SetW.T3}(h:SmT cl m n sh S)(hn:sh.length=n){ks:List Int}(l:LN cl m n ks){N:Nat}(c:Cnt ks N):∀ z∈S,(0≤z.1∧z.1.toNat<N)∧0≤z.2.1∧z.2.1.toNat<N:=fun z hz=>by
 obtain⟨ks',l',_,mem⟩:=h
 have e:=l'.uniq l
 subst e
 have ll:=l.len
 obtain⟨a,b⟩:=AmL (by rw[Atg];omega) ((mem z).mp hz)
 have a:=c.1 _ (AtR a)
 have b:=c.1 _ (AtR b)
 exact⟨⟨a.1,by omega⟩,b.1,by omega⟩
theorem AmM(x y:Nat):(if ((y:Nat):Int)<((x:Nat):Int) then ((y:Nat):Int) else ((x:Nat):Int))=((min x y:Nat):Int):=by split <;> omega
theorem AmN(x y:Nat):(if ((y:Nat):Int)>((x:Nat):Int) then ((y:Nat):Int) else ((x:Nat):Int))=((max x y:Nat):Int):=by split <;> omega
def Arv (cl:List (List Nat))(m n N:Nat):Prop:=∃ ks,LN cl m n ks∧Cnt ks N
def AjD (K:PySem.W.Frag)(tT:Addr):Sp:=fun vs H Q _=>∃(a b:Addr) (cl:List (List Nat)) (m n:Nat) (sh:List Int),vs=[.ref a,.ref b]∧Pre K tT H a b cl m n sh∧m+n<64 ∧
 ∀ l H' rs S N,Ea H H'→Tb tT "layers_of.<locals>.<lambda>" H'→AeB H l→(∀ r∈rs,AeB H r)→SmT cl m n sh S→Arv cl m n N→NL H' l rs (shF N (brs S))→Q (.ref l) H'
theorem Sv{tc tT:Addr}(T:Txt K mg t)(hcd:t.CZ.code=.ref tc)(hCd:PySem.W.CodeHd base tc tT)(hBm:Bm mg base):Bp P w K mg base CX0 9 t.Eu t.Iz ["cloth", "shuttles"] (AjD K tT):=by
 have Dh:Bp P w K mg base CX0 8 t.CK t.Ez _ _:=LC T hcd hCd hBm
 have Ia:Bp P w K mg base CX0 7 t.Di t.HR _ _:=KQ T hcd hCd hBm
 have AjE:Bp P w K mg base CX0 1 t.JF t.Ab4 _ _:=AhP T
 refine T.GJ.F.ok Dm (fun vs H Q E h=>?_) (fun cdv A outer s H vs Q E hr h=>?_)
 ·obtain⟨a,b,cl,m,n,sh,rfl,_⟩:=h
  rfl
 ·obtain⟨a,b,cl,m,n,sh,rfl,pre,mn,k⟩:=h
  have hsz:sizeLine=16777216:=sizeLine_eq
  have c2:=pre.C.n40
  have hn:=pre.hn
  refine⟨_,(Ac (Aq (i:=2) Dm.nd rfl (Or.inl rfl) (Bw (Dh.mono (by decide)) hr rfl T.Ca.m T.Ca.F.kp T.Ca.b .nil Fz (Aa (pv 0) (Aa (pv 1) Ad))))
   (Ac (Aq (i:=3) Dm.nd rfl (Or.inr rfl) (Ib Ah5 rfl T.Ab8 Xo (Aa (Ib AeP rfl T.GX Adi (Aa (Bd Gq (Ao (Ajq (K:=K)) rfl T.AgW Adh (Aa (Bw (Ia.mono (by decide)) hr rfl T.Ef.m T.Ef.F.kp T.Ef.b .nil Fz (Aa (pv 0) Ad)) Ad)) Ag) Ad)) Ad)))
   (Ac (Hx PassesOwn.never rfl (Ew (K:=K) (pv 2)) (Afe rfl (Jq (Dj (i:=4) Dm.nd rfl (Or.inl rfl)) (Jq (Dj (i:=5) Dm.nd rfl (Or.inl rfl)) (Jq (Dj (i:=6) Dm.nd rfl (Or.inl rfl)) AcN))))
    (Ac (Aq (i:=7) Dm.nd rfl (Or.inr rfl) (Ao Adf rfl T.Anu Akf (Aa (Bv (Bg (K:=K)) (pv 3) (pv 4) (fun _ _=>rfl)) (Aa (Bv (Bg (K:=K)) (pv 3) (pv 5) (fun _ _=>rfl)) Ad))))
    (Ac (Aq (i:=8) Dm.nd rfl (Or.inr rfl) (Ao RP rfl T.AgW Adh (Aa (Bv (Bg (K:=K)) (pv 3) (pv 4) (fun _ _=>rfl)) (Aa (Bv (Bg (K:=K)) (pv 3) (pv 5) (fun _ _=>rfl)) Ad))))
    (Ah (Aq (i:=3) Dm.nd rfl (Or.inr rfl) (JN (Hh.mk (BL:=[7,8]) (Nc:=["number", "least", "most"]) rfl (by decide +kernel) (by decide +kernel) (GP (sc0:=Ab Et) rfl (by decide +kernel)) rfl rfl rfl (by decide +kernel) (fun k j h=>match k,h with | 0,h=>by obtain rfl:=Option.some.inj h;exact⟨_,rfl,rfl,rfl⟩ | 1,h=>by obtain rfl:=Option.some.inj h;exact⟨_,rfl,rfl,rfl⟩ | _+2,h=>by simp at h)) rfl (Ew (K:=K) (pv 3)) (fun _ _ _ _ _=>.nil) (fun _ _ _ _ _=>(Agj (An Fi (pv 0) (pv 2) (Be _)) (pv 1) (pv 0)))))))))
   (Ah (BP (JN (Hh.mk (BL:=[3]) (Nc:=["number", "bears"]) rfl (by decide +kernel) (by decide +kernel) (GP (sc0:=Ab Et) rfl (by decide +kernel)) rfl rfl rfl (by decide +kernel) (fun k j h=>match k,h with | 0,h=>by obtain rfl:=Option.some.inj h;exact⟨_,rfl,rfl,rfl⟩ | _+1,h=>by simp at h)) rfl (Ew (K:=K) (AhD (K:=K) rfl T.NK rfl T.Anv (pv 3))) (fun _ _ _ _ _=>.nil) (fun _ _ _ _ _=>(Bw (AjE.mono (by decide)) hr rfl T.bearers.m T.bearers.F.kp T.bearers.b .nil Fz (Aa (pv 1) (Aa (pv 0) Ad)))))))))),?_⟩
  refine⟨_,rfl,_,rfl,a,b,cl,m,n,sh,rfl,pre,fun ls H1 q t1 tb1 nls g1 T1 sm=>?_⟩
  have ql:=Ahb sm
  rw[AsH] at ql
  refine⟨_,rfl,a,cl,m,n,rfl,t1.seq pre.hS,pre.C,pre.fw,tb1,fun ln H2 tss dA dB eo po ks t2 tb2 pA pB decA K6 L pc gl=>?_⟩
  have ln':LN cl m n ks:=⟨tss,dA,dB,eo,po,pA,pB,decA,K6,L,pc⟩
  obtain⟨N,hN,cN⟩:=ln'.cnt
  have kl:=pc.len
  have n1:=pre.C.n1
  have g2:=t2.lst g1
  have T2:TT3 H2 q:=fun x hx=>t2.tup (T1 x hx)
  have bd:=sm.lt hn ln' cN
  clear L pc
  refine⟨ln,ks,rfl,SqL.of gl,by omega,fun M hM hmx=>?_⟩
  have eM:M+1=(N:Int):=by
   have:=cN.1 M hM
   have:=hmx _ (cN.2 (N-1) (by omega))
   omega
  refine⟨_,_,rfl,rfl,?_⟩
  dsimp only
  rw[eM]
  obtain⟨r1,r2,r3⟩:=Ame (n:=N) (by omega)
  refine⟨_,rfl,fun r nr=>?_⟩
  refine⟨r,0,(N:Int),1,N,rfl,Ae,r2,r1,by omega,fun lb nlb=>?_⟩
  rw[r3]
  have s3:Bl H2 (upd (upd H2 r (Abx r 0 (N:Int) 1)) lb (.lst (vI (lbl N id)))):=(Bl.upd nr).new nlb
  have g3:(upd (upd H2 r (Abx r 0 (N:Int) 1)) lb (.lst (vI (lbl N id)))) lb=some (.lst (vI (lbl N id))):=Ae
  have e3:upd (upd H2 r (Abx r 0 (N:Int) 1)) lb (.lst (vI ((List.range N).map fun(i:Nat)=>((i:Nat):Int))))=upd (upd H2 r (Abx r 0 (N:Int) 1)) lb (.lst (vI (lbl N id))):=rfl
  rw[e3]
  generalize upd (upd H2 r (Abx r 0 (N:Int) 1)) lb (.lst (vI (lbl N id)))=H3 at s3 g3 ⊢
  clear e3
  refine⟨_,rfl,_,rfl,⟨_,SqL.of (s3 _ _ g2)⟩,Rw (K:=K) (a:=ls) (xs:=rf3 q) (fun i σ H4=>∃ lb v4 v5 v6 v7 v8,σ=[some (.ref a),some (.ref b),some (.ref ls),some (.ref lb),v4,v5,v6,v7,v8]∧Bl H2 H4∧H4 lb=some (.lst (vI (lbl N (brs ((q.map (·.2)).take i)))))) ⟨lb,none,none,none,none,none,rfl,s3,g3⟩ (fun i σ H4 _ ⟨_,_,_,_,_,_,_,s4,_⟩=>SqL.of (s4 _ _ g2)) ?_ ?_⟩
  ·rintro i x σ H4 hx ⟨lb,v4,v5,v6,v7,v8,rfl,s4,g4⟩
   obtain⟨p,hp,rfl⟩:=AcU hx
   have hpm:=AsS hp
   have hT:=s4 _ _ (T2 p hpm)
   have hS:(q.map (·.2))[i]?=some p.2:=by rw[AsU,hp];rfl
   have eb:brs ((q.map (·.2)).take (i+1))=brS (brs ((q.map (·.2)).take i)) p.2:=by rw[Atm,hS];exact AmA _ _
   obtain⟨⟨z1,z2⟩,z3,z4⟩:=bd p.2 (List.mem_map.mpr ⟨p,hpm,rfl⟩)
   rw[eb]
   generalize brs ((q.map (·.2)).take i)=bb at g4
   have a1:=AhN (N:=N) (b:=bb) (x:=p.2.1.toNat) (z:=p.2.1) (by omega) z2
   have a2:=AhN (N:=N) (b:=bb) (x:=p.2.2.1.toNat) (z:=p.2.2.1) (by omega) z4
   refine⟨_,_,rfl,SqT.of hT,rfl,_,_,rfl,_,_,rfl,_,_,rfl,rfl,?_⟩
   refine⟨_,rfl,_,rfl,_,_,_,_,rfl,rfl,SqL.of g4,a1,_,rfl,_,rfl,_,_,_,_,rfl,rfl,SqL.of g4,a2,_,_,rfl,?_⟩
   rw[AmM]
   refine⟨_,rfl,_,rfl,_,_,_,_,rfl,rfl,SqL.of g4,a1,_,rfl,_,rfl,_,_,_,_,rfl,rfl,SqL.of g4,a2,_,_,rfl,?_⟩
   rw[AmN]
   have ll:(vI (lbl N bb)).length=N:=by rw[Bs,X3]
   refine⟨_,rfl,_,rfl,⟨_,SqL.of g4⟩,Hm (K:=K) (a:=lb) (xs:=vI (lbl N bb)) (fun j ys H5=>H5=H4∧ys=vI (lbl j (brS bb p.2))) ⟨rfl,rfl⟩ ?_ ?_ ?_ ?_⟩
   ·rintro j ys H5 hj ⟨rfl,rfl⟩
    exact⟨SqL.of g4,by rw[Bs,X3];exact AsI _⟩
   ·rw[ll];omega
   ·rintro j x ys H5 hj hx ⟨rfl,rfl⟩
    obtain⟨y,hy,rfl⟩:=Nx hx
    rw[ll] at hj
    rw[AiN hj] at hy
    cases hy
    have en:lbl (j+1) (brS bb p.2)=lbl j (brS bb p.2)++[((brS bb p.2 j:Nat):Int)]:=by unfold lbl;rw[At0,AsP];rfl
    refine Ky.no ?_
    refine⟨_,rfl,_,rfl,rfl,_,rfl,?_⟩
    refine DR (fun h=>?_) (fun h=>?_)
    ·refine⟨_,rfl,CN.of (by rw[ll];exact hj) ⟨rfl,?_⟩⟩
     rw[en,← Yt]
     unfold brS
     rw[if_pos (by have:=Kz.mp h;omega)]
    ·refine⟨_,rfl,CN.of (by rw[ll];exact hj) ⟨rfl,?_⟩⟩
     rw[en,← Yt]
     unfold brS
     rw[if_neg (fun e=>h (Kz.mpr (by rw[e])))]
   ·rintro ys H5 lb' ⟨rfl,rfl⟩ Arw
    rw[ll]
    exact⟨lb',_,_,_,_,_,rfl,s4.new Arw,Ae⟩
  ·rintro σ H4 ⟨lb,v4,v5,v6,v7,v8,rfl,s4,g4⟩
   rw[Atc (by rw[Xv,AsH];exact AsI _)] at g4
   have B:Brs N (q.map (·.2)) (brs (q.map (·.2))):=Brs.of fun z hz=>⟨(bd z hz).1.2,(bd z hz).2.2⟩
   have x4:Ea H H4:=(t1.trans t2).trans s4.toT
   generalize hS:q.map (·.2)=S at sm g4 B
   generalize hbb:brs S=bb at g4 B
   refine⟨_,rfl,lb,lbl N bb,rfl,SqL.of g4,by rw[X3];omega,(fun ds nd hds=>?_),fun l ns' mem up nl=>?_⟩
   ·have:=Xu nd hds
    rw[X3] at this
    omega
   ·have en:=AkT B up mem
    have s5:Bl H4 (upd H4 l (.lst (vI ns'))):=.upd nl
    have g5:(upd H4 l (.lst (vI ns'))) l=some (.lst (vI ns')):=Ae
    generalize upd H4 l (.lst (vI ns'))=H5 at s5 g5 ⊢
    have ll:(vI ns').length=(Ae8 N bb).length:=by rw[Bs,en,AsH]
    have lN:(Ae8 N bb).length≤N:=by
     have:=AtA (fun x=>decide (bb x=x)) (List.range N)
     rw[AsQ] at this
     exact this
    have sl:(shF N bb).length=(Ae8 N bb).length:=AsH _
    refine⟨_,rfl,⟨_,SqL.of g5⟩,Hm (K:=K) (a:=l) (xs:=vI ns') (fun i ys H6=>Bl H5 H6∧∃ rs:List Addr,ys=rs.map V.ref∧rs.length=i∧(∀ r∈rs,H5 r=none)∧∀(j:Nat) (r:Addr) (ks:List Int),rs[j]?=some r→(shF N bb)[j]?=some ks→H6 r=some (.lst (vI ks))) ⟨.refl _,[],rfl,rfl,(fun r hr=>absurd hr (by simp)),fun j r ks h=>by simp at h⟩ ?_ ?_ ?_ ?_⟩
    ·rintro i ys H6 hi ⟨s6,rs,rfl,rl,_⟩
     exact⟨SqL.of (s6 _ _ g5),by rw[AsH,rl];exact AsI _⟩
    ·rw[ll];omega
    ·rintro i x ys H6 hi hx ⟨s6,rs,rfl,rl,nr',R⟩
     obtain⟨y,hy,rfl⟩:=Nx hx
     have hi':i<(Ae8 N bb).length:=by rw[← ll];exact hi
     rw[en,AsU,AsJ hi'] at hy
     cases hy
     have hs:(shF N bb)[i]?=some (fiN N fun x=>decide (bb x=(Ae8 N bb)[i])):=by
      unfold shF
      rw[AsU,AsJ hi']
      rfl
     refine Ky.no ?_
     refine⟨_,rfl,_,rfl,lb,N,bb,(Ae8 N bb)[i],rfl,SqL.of ((s5.trans s6) _ _ g4),by omega,fun l2 H7 s7 nl2 g7=>?_⟩
     refine CN.of hi ⟨s6.trans s7,rs++[l2],by rw[AsP];rfl,by rw[AsN,rl];rfl,fun r hr=>?_,fun j r ks e1 e2=>?_⟩
     ·rcases List.mem_append.mp hr with h | h
      ·exact nr' r h
      ·rw[List.mem_singleton.mp h];exact s6.free nl2
     ·rcases Auh j rs.length with c | c
      ·rw[Atu c] at e1
       exact s7 _ _ (R j r ks e1 e2)
      ·rw[Ats c] at e1
       have:j=i:=by
        have:=(List.getElem?_eq_some_iff.mp e1).1
        simp at this
        omega
       subst this
       rw[rl,At7] at e1
       cases e1
       rw[hs] at e2
       cases e2
       exact g7
    ·rintro ys H6 l2 ⟨s6,rs,rfl,rl,nr',R⟩ nl2
     have s7:Bl H6 (upd H6 l2 (.lst (rs.map V.ref))):=.upd nl2
     have x5:=x4.trans s5.toT
     refine k l2 _ rs S N (x5.trans (s6.trans s7).toT) (tb2.same (s4.trans (s5.trans (s6.trans s7)))) (AeB.of (x5.trans s6.toT) nl2) (fun r hr=>AeB.of x5 (nr' r hr)) sm ⟨ks,ln',cN⟩ ?_
     rw[hbb]
     exact⟨Ae,by rw[rl,ll,sl],fun j r ks e1 e2=>s7 _ _ (R j r ks e1 e2)⟩
theorem Alo{ns:List Int}{k:Nat}(h:k≤ns.length):Lw (vI ns) none (some (0+(k:Int)))=vI (ns.take k):=by
 unfold Lw
 rw[AtH,HT.Aag,HT.Lb,AtX,Bs,Atq h,AtZ]
 unfold vI
 rw[At1]
def pick(u:List Nat)(ts:List Int):List Nat:=ts.map fun z=>u.getD z.toNat 0
def AjF (K:PySem.W.Frag):Sp:=fun vs H Q _=>∃(u:List Nat) (r:Addr) (ts:List Int),vs=[.str (tx u),.ref r]∧SqL K H r (vI ts)∧u.length≤40∧ts.length≤100∧(∀ z∈ts,0≤z∧z<(u.length:Int))∧∀ H',Bl H H'→Q (.str (tx (pick u ts))) H'
theorem AjG(T:Txt K mg t):Bp P w K mg base CX0 1 t.Lz t.Ad7 ["text", "places"] (AjF K):=by
 refine T.picked.F.ok Aj7 (fun vs H Q E h=>?_) (fun cdv A outer s H vs Q E hr h=>?_)
 ·obtain⟨u,r,ts,rfl,_⟩:=h
  rfl
 ·obtain⟨u,r,ts,rfl,hS,u40,Aqi,bd,k⟩:=h
  have hsz:sizeLine=16777216:=sizeLine_eq
  refine⟨_,(Ah (BP (Mr (K:=K) PySem.F.plainAttrs_str PySem.F.slot_str_join PySem.F.type_str_join (Agq (K:=K)) Bx (Aa (JN (Hh.mk (BL:=[0]) (Nc:=["place", "text"]) rfl (by decide +kernel) (by decide +kernel) (GP (sc0:=Ab Iw) rfl (by decide +kernel)) rfl rfl rfl (by decide +kernel) (fun k j h=>match k,h with | 0,h=>by obtain rfl:=Option.some.inj h;exact⟨_,rfl,rfl,rfl⟩ | _+1,h=>by simp at h)) rfl (Ew (K:=K) (pv 1)) (fun _ _ _ _ _=>.nil) (fun _ _ _ _ _=>(Bv Ada (pv 1) (pv 0) (fun _ _=>rfl)))) Ad)))),?_⟩
  refine⟨rfl,_,rfl,_,rfl,⟨_,hS⟩,Hm (K:=K) (a:=r) (xs:=vI ts) (fun i ys H2=>H2=H∧ys=vS ((ts.take i).map fun z=>[u.getD z.toNat 0])) ⟨rfl,rfl⟩ ?_ ?_ ?_ ?_⟩
  ·rintro i ys H2 hi ⟨rfl,rfl⟩
   refine⟨hS,?_⟩
   rw[Ij,AsH,Atd]
   omega
  ·rw[Bs];omega
  ·rintro i x ys H2 hi hx ⟨rfl,rfl⟩
   obtain⟨z,hz,rfl⟩:=Nx hx
   obtain⟨b0,b1⟩:=bd z (AsS hz)
   have hl:z.toNat<u.length:=by omega
   have e:u.getD z.toNat 0=u[z.toNat]:=by rw[Atw,AsJ hl];rfl
   refine Ky.no ?_
   refine⟨_,rfl,_,rfl,_,_,u[z.toNat],rfl,rfl,(by rw[Ei];omega),Dk b0 (by rw[Array.getElem?_toList,Afr];exact AsJ hl),?_⟩
   refine CN.of hi ⟨rfl,?_⟩
   rw[Yr,Yu,Atm,hz,AsP]
   show _=vS (_++[[u.getD z.toNat 0]])
   rw[e]
  ·rintro ys H2 p ⟨rfl,rfl⟩ hp
   rw[Bs,At2]
   refine⟨_,_,((ts.map fun z=>[u.getD z.toNat 0]).map tx),rfl,rfl,SqL.of (by rw[Ae,Akh]),?_,?_⟩
   ·have e1:=AnP (fun z:Int=>u.getD z.toNat 0) ts
    rw[e1,AsH,AsH]
    have:ts.length*(Str.length "")=0:=by rw[show Str.length "" = 0 from by decide +kernel];omega
    omega
   ·rw[show(("" : Str))=tx [] from by decide +kernel,Aip]
    have e2:(ts.map fun z=>[u.getD z.toNat 0]).flatten=pick u ts:=Ake (fun z:Int=>u.getD z.toNat 0) ts
    rw[e2]
    exact k _ (.upd hp)
def pOf (cl:List (List Nat))(m:Nat)(ts:List Int):List (List Nat):=(ts.filter fun z=>decide ((m:Int)≤z)).map fun p=>pick (cl.getD (p-(m:Int)).toNat []) (ts.filter fun z=>decide (z<(m:Int)))
def AoC (K:PySem.W.Frag):Sp:=fun vs H Q _=>∃(a r:Addr) (cl:List (List Nat)) (m n:Nat) (ts:List Int),vs=[.ref a,.int (m:Int),.ref r]∧SqL K H a (vS cl)∧Cl cl m n∧SqL K H r (vI ts)∧ts.length≤100∧(∀ z∈ts,0≤z∧z<((m+n:Nat):Int)) ∧
 ∀ l H',Bl H H'→H l=none→H' l=some (.lst (vS (pOf cl m ts)))→Q (.ref l) H'
theorem AcV(p:Int→Bool)(l:List Int)(z:Int):vI ((l++[z]).filter p)=vI (l.filter p)++(if p z=true then [V.int z] else []):=by
 rw[AtP]
 unfold vI
 rw[AsP]
 congr 1
 by_cases h:p z=true
 ·rw[if_pos h,Aud h];rfl
 ·rw[if_neg h,Aue h];rfl
theorem Ahc(T:Txt K mg t):Bp P w K mg base CX0 2 t.IK t.Y4 ["cloth", "ends", "layer"] (AoC K):=by
 have Alp:Bp P w K mg base CX0 1 t.Lz t.Ad7 _ _:=AjG T
 refine T.Aax.F.ok Vr (fun vs H Q E h=>?_) (fun cdv A outer s H vs Q E hr h=>?_)
 ·obtain⟨a,r,cl,m,n,ts,rfl,_⟩:=h
  rfl
 ·obtain⟨a,r,cl,m,n,ts,rfl,hS,C,hr2,Aqi,bd,k⟩:=h
  have hsz:sizeLine=16777216:=sizeLine_eq
  have fl:∀ p:Int→Bool,(ts.filter p).length≤ts.length:=fun p=>AtA _ _
  refine⟨_,(Ac (Aq (i:=3) Vr.nd rfl (Or.inr rfl) (JN (Hh.mk (BL:=[1]) (Nc:=["strand", "ends"]) rfl (by decide +kernel) (by decide +kernel) (GP (sc0:=Ab Ey) rfl (by decide +kernel)) rfl rfl rfl (by decide +kernel) (fun k j h=>match k,h with | 0,h=>by obtain rfl:=Option.some.inj h;exact⟨_,rfl,rfl,rfl⟩ | _+1,h=>by simp at h)) rfl (Ew (K:=K) (pv 2)) (fun _ _ _ _ _=>.one (An Acd (pv 0) (pv 1) (Be _))) (fun _ _ _ _ _=>(pv 0))))
   (Ac (Aak (i:=4) (Hh.mk (BL:=[1]) (Nc:=["strand", "ends"]) rfl (by decide +kernel) (by decide +kernel) (GP (sc0:=Ab Ey) rfl (by decide +kernel)) rfl rfl rfl (by decide +kernel) (fun k j h=>match k,h with | 0,h=>by obtain rfl:=Option.some.inj h;exact⟨_,rfl,rfl,rfl⟩ | _+1,h=>by simp at h)) rfl Vr.nd rfl rfl (Ew (K:=K) (pv 2)) (fun _ _ _ _ _=>.one (An AjR (pv 0) (pv 1) (Be _))) (fun _ _ _ _ _=>(pv 0)) rfl)
   (Ah (BP (JN (Hh.mk (BL:=[0,1,3]) (Nc:=["strand", "cloth", "ends", "own_ends"]) rfl (by decide +kernel) (by decide +kernel) (GP (sc0:=Ab Ey) rfl (by decide +kernel)) rfl rfl rfl (by decide +kernel) (fun k j h=>match k,h with | 0,h=>by obtain rfl:=Option.some.inj h;exact⟨_,rfl,rfl,rfl⟩ | 1,h=>by obtain rfl:=Option.some.inj h;exact⟨_,rfl,rfl,rfl⟩ | 2,h=>by obtain rfl:=Option.some.inj h;exact⟨_,rfl,rfl,rfl⟩ | _+3,h=>by simp at h)) rfl (Ew (K:=K) (pv 4)) (fun _ _ _ _ _=>.nil) (fun _ _ _ _ _=>(Bw (Alp.mono (by decide)) hr rfl T.picked.m T.picked.F.kp T.picked.b .nil Fz (Aa (Bv (Bg (K:=K)) (pv 1) (Bd Vo (pv 0) (pv 2)) (fun _ _=>rfl)) (Aa (pv 3) Ad))))))))),?_⟩
  refine⟨_,rfl,_,rfl,⟨_,hr2⟩,Hm (K:=K) (a:=r) (xs:=vI ts) (fun j ys H3=>H3=H∧ys=vI ((ts.take j).filter fun z=>decide (z<(m:Int)))) ⟨rfl,rfl⟩ ?_ ?_ ?_ ?_⟩
  ·rintro j ys H3 hj ⟨rfl,rfl⟩
   exact⟨hr2,by rw[Bs];exact AsX (AtA _ _) (by rw[Atd];omega)⟩
  ·rw[Bs];omega
  ·rintro j x ys H3 hj hx2 ⟨rfl,rfl⟩
   obtain⟨z,hz,rfl⟩:=Nx hx2
   have et:ts.take (j+1)=ts.take j++[z]:=by rw[Atm,hz];rfl
   refine⟨_,rfl,_,rfl,_,_,rfl,rfl,_,rfl,?_⟩
   refine DR (fun h=>?_) (fun h=>?_)
   ·refine⟨_,rfl,CN.of hj ⟨rfl,?_⟩⟩
    rw[et,AcV,if_pos (decide_eq_true h)]
   ·refine CN.of hj ⟨rfl,?_⟩
    rw[et,AcV,if_neg (by rw[decide_eq_false h];decide),Atk]
  ·rintro ys H3 p3 ⟨rfl,rfl⟩ hp3
   rw[Bs,At2]
   have s4:Bl H3 (upd H3 p3 (.lst (vI (ts.filter fun z=>decide (z<(m:Int)))))):=.upd hp3
   have g4:(upd H3 p3 (.lst (vI (ts.filter fun z=>decide (z<(m:Int)))))) p3=some (.lst (vI (ts.filter fun z=>decide (z<(m:Int))))):=Ae
   generalize upd H3 p3 (.lst (vI (ts.filter fun z=>decide (z<(m:Int)))))=H4 at s4 g4 ⊢
   refine⟨_,rfl,_,rfl,⟨_,s4.seq hr2⟩,Hm (K:=K) (a:=r) (xs:=vI ts) (fun j ys H5=>H5=H4∧ys=vI ((ts.take j).filter fun z=>decide ((m:Int)≤z))) ⟨rfl,rfl⟩ ?_ ?_ ?_ ?_⟩
   ·rintro j ys H5 hj ⟨rfl,rfl⟩
    exact⟨s4.seq hr2,by rw[Bs];exact AsX (AtA _ _) (by rw[Atd];omega)⟩
   ·rw[Bs];omega
   ·rintro j x ys H5 hj hx2 ⟨rfl,rfl⟩
    obtain⟨z,hz,rfl⟩:=Nx hx2
    have et:ts.take (j+1)=ts.take j++[z]:=by rw[Atm,hz];rfl
    refine⟨_,rfl,_,rfl,_,_,rfl,rfl,_,rfl,?_⟩
    refine DR (fun h=>?_) (fun h=>?_)
    ·refine⟨_,rfl,CN.of hj ⟨rfl,?_⟩⟩
     rw[et,AcV,if_pos (decide_eq_true h)]
    ·refine CN.of hj ⟨rfl,?_⟩
     rw[et,AcV,if_neg (by rw[decide_eq_false h];decide),Atk]
   ·rintro ys H5 p5 ⟨rfl,rfl⟩ hp5
    rw[Bs,At2]
    have s6:Bl H5 (upd H5 p5 (.lst (vI (ts.filter fun z=>decide ((m:Int)≤z))))):=.upd hp5
    have g6:(upd H5 p5 (.lst (vI (ts.filter fun z=>decide ((m:Int)≤z))))) p5=some (.lst (vI (ts.filter fun z=>decide ((m:Int)≤z)))):=Ae
    generalize upd H5 p5 (.lst (vI (ts.filter fun z=>decide ((m:Int)≤z))))=H6 at s6 g6 ⊢
    have u6:=s4.trans s6
    have f1:=fl fun z=>decide (z<(m:Int))
    have f2:=fl fun z=>decide ((m:Int)≤z)
    have bdE:∀ z∈ts.filter (fun z=>decide (z<(m:Int))),0≤z∧z<(m:Int):=fun z hz=>⟨(bd z (List.mem_filter.mp hz).1).1,of_decide_eq_true (List.mem_filter.mp hz).2⟩
    have bdP:∀ z∈ts.filter (fun z=>decide ((m:Int)≤z)),(m:Int)≤z∧z<((m+n:Nat):Int):=fun z hz=>⟨of_decide_eq_true (List.mem_filter.mp hz).2,(bd z (List.mem_filter.mp hz).1).2⟩
    have eP:pOf cl m ts=(ts.filter fun z=>decide ((m:Int)≤z)).map fun p=>pick (cl.getD (p-(m:Int)).toNat []) (ts.filter fun z=>decide (z<(m:Int))):=rfl
    generalize ts.filter (fun z=>decide (z<(m:Int)))=oe at g4 f1 bdE eP
    generalize ts.filter (fun z=>decide ((m:Int)≤z))=op at g6 f2 bdP eP
    refine⟨_,rfl,_,rfl,⟨_,SqL.of g6⟩,Hm (K:=K) (a:=p5) (xs:=vI op) (fun j ys H7=>Bl H6 H7∧ys=vS ((op.take j).map fun p=>pick (cl.getD (p-(m:Int)).toNat []) oe)) ⟨.refl _,rfl⟩ ?_ ?_ ?_ ?_⟩
    ·rintro j ys H7 hj ⟨s7,rfl⟩
     refine⟨SqL.of (s7 _ _ g6),?_⟩
     rw[Ij,AsH,Atd]
     omega
    ·rw[Bs];omega
    ·rintro j x ys H7 hj hx2 ⟨s7,rfl⟩
     obtain⟨z,hz,rfl⟩:=Nx hx2
     obtain⟨b0,b1⟩:=bdP z (AsS hz)
     have pl:(z-(m:Int)).toNat<cl.length:=by rw[C.hn];omega
     have ec:cl.getD (z-(m:Int)).toNat []=cl[(z-(m:Int)).toNat]:=by rw[Atw,AsJ pl];rfl
     have hm:=C.hm _ (AsV pl)
     have m40:=C.m40
     refine Ky.no ?_
     refine⟨_,rfl,_,rfl,_,rfl,_,_,rfl,rfl,_,_,_,_,rfl,rfl,(u6.trans s7).seq hS,Dk (by omega) (Adj (AsJ pl)),_,rfl,cl[(z-(m:Int)).toNat],p3,oe,rfl,SqL.of (s7 _ _ (s6 _ _ g4)),by omega,by omega,(fun y hy=>by have:=bdE y hy;omega),fun H8 s8=>?_⟩
     refine CN.of hj ⟨s7.trans s8,?_⟩
     rw[Yu,Atm,hz,AsP]
     show _=vS (_++[pick (cl.getD (z-(m:Int)).toNat []) oe])
     rw[ec]
    ·rintro ys H7 p7 ⟨s7,rfl⟩ hp7
     rw[Bs,At2,← eP]
     exact k p7 _ ((u6.trans s7).new hp7) ((u6.trans s7).free hp7) Ae
structure TL (H:Hp) (y:Addr) (as:List Addr) (ps:List (List (List Nat))):Prop where
 h:H y=some (.lst (as.map V.ref))
 l:as.length=ps.length
 r:∀(i:Nat) (a:Addr) (u:List (List Nat)),as[i]?=some a→ps[i]?=some u→H a=some (.lst (vS u))
theorem TL.same{H H':Hp}{y:Addr}{as:List Addr}{ps:List (List (List Nat))}(N:TL H y as ps)(s:Bl H H'):TL H' y as ps:=⟨s _ _ N.h,N.l,fun i a u h1 h2=>s _ _ (N.r i a u h1 h2)⟩
def Alq (K:PySem.W.Frag)(tT:Addr):Sp:=fun vs H Q _=>∃(a:Addr) (cl:List (List Nat)) (m n:Nat),vs=[.ref a]∧SqL K H a (vS cl)∧Cl cl m n∧Fw cl m n∧Tb tT "layers_of.<locals>.<lambda>" H ∧
 ∀ tp H' lp n1 n2 as tss dA dB eo po ks,Ea H H'→Tb tT "layers_of.<locals>.<lambda>" H'→dA.Perm (eS cl m)→dB.Perm (pS cl)→dA.Pairwise (· ≥ ·)→dB.Pairwise (· ≥ ·)→Lay (upC cl) m n tss (K7 (Pz m n dA dB) n (m+1)) eo po→Pc tss (m+n) tss.length 0 ks→H' tp=some (.tup [.ref lp,.ref n1,.ref n2])→TL H' lp as (tss.map (pOf cl m))→H' n1=some (.lst (vI (ks.take m)))→H' n2=some (.lst (vI (ks.drop m)))→Q (.ref tp) H'
theorem NP{tc tT:Addr}(T:Txt K mg t)(hcd:t.CZ.code=.ref tc)(hCd:PySem.W.CodeHd base tc tT)(hBm:Bm mg base):Bp P w K mg base CX0 8 t.DP t.Ig ["cloth"] (Alq K tT):=by
 have DX:Bp P w K mg base CX0 3 t.Dw t.Gw _ _:=JG T
 have Vy:Bp P w K mg base CX0 6 t.GR t.CZ _ _:=Aa1 T hcd hCd hBm
 have Ia:Bp P w K mg base CX0 7 t.Di t.HR _ _:=KQ T hcd hCd hBm
 have AhQ:Bp P w K mg base CX0 2 t.IK t.Y4 _ _:=Ahc T
 refine T.Fp.F.ok Ho (fun vs H Q E h=>?_) (fun cdv A outer s H vs Q E hr h=>?_)
 ·obtain⟨a,cl,m,n,rfl,_⟩:=h
  rfl
 ·obtain⟨a,cl,m,n,rfl,hS,C,fw,tb,k⟩:=h
  have hsz:sizeLine=16777216:=sizeLine_eq
  have c2:=C.n40
  have c4:=C.m40
  refine⟨_,(Ac (Aq (i:=1) Ho.nd rfl (Or.inr rfl) (Bw (DX.mono (by decide)) hr rfl T.measured.m T.measured.F.kp T.measured.b .nil Fz (Aa (pv 0) Ad)))
   (Ac (Aq (i:=2) Ho.nd rfl (Or.inl rfl) (Bw (Ia.mono (by decide)) hr rfl T.Ef.m T.Ef.F.kp T.Ef.b .nil Fz (Aa (pv 0) Ad)))
   (Ac (Aak (i:=3) (Hh.mk (BL:=[0,1]) (Nc:=["layer", "cloth", "size"]) rfl (by decide +kernel) (by decide +kernel) (GP (sc0:=Ab DK) rfl (by decide +kernel)) rfl rfl rfl (by decide +kernel) (fun k j h=>match k,h with | 0,h=>by obtain rfl:=Option.some.inj h;exact⟨_,rfl,rfl,rfl⟩ | 1,h=>by obtain rfl:=Option.some.inj h;exact⟨_,rfl,rfl,rfl⟩ | _+2,h=>by simp at h)) rfl Ho.nd rfl rfl (Ew (K:=K) (Bw (Vy.mono (by decide)) hr rfl T.KJ.m T.KJ.F.kp T.KJ.b .nil Fz (Aa (pv 0) Ad))) (fun _ _ _ _ _=>.nil) (fun _ _ _ _ _=>(Bw (AhQ.mono (by decide)) hr rfl T.Aax.m T.Aax.F.kp T.Aax.b .nil Fz (Aa (pv 1) (Aa (Bv (Fe (K:=K)) (pv 2) Ag (fun _ _=>rfl)) (Aa (pv 0) Ad))))) rfl)
   (Ah (BP (K5 (Aa (pv 3) (Aa (FT (HJ (K:=K)) (pv 2) Im (G9 (Bv (Fe (K:=K)) (pv 1) Ag (fun _ _=>rfl)))) (Aa (FT (HJ (K:=K)) (pv 2) (G9 (Bv (Fe (K:=K)) (pv 1) Ag (fun _ _=>rfl))) Im) Ad))))))))),?_⟩
  refine⟨_,rfl,a,cl,m,n,rfl,hS,C,fun p hp=>?_⟩
  have s1:Bl H (upd H p (.tup [.int (m:Int),.int (n:Int)])):=.upd hp
  have gp1:(upd H p (.tup [.int (m:Int),.int (n:Int)])) p=some (.tup [.int (m:Int),.int (n:Int)]):=Ae
  generalize upd H p (.tup [.int (m:Int),.int (n:Int)])=H1 at s1 gp1 ⊢
  refine⟨_,rfl,a,cl,m,n,rfl,s1.seq hS,C,fw,tb.same s1,fun ln H2 tss dA dB eo po ks t2 tb2 pA pB decA K6 L pc gl=>?_⟩
  have x2:Ea H H2:=s1.toT.trans t2
  have gp2:=t2.tup gp1
  refine⟨_,rfl,a,cl,m,n,rfl,x2.seq hS,C,fw,tb2,fun ly H3 rs Adx dA' dB' eo' po' t3 tb3 pA' pB' AiK AiL L' N=>?_⟩
  have eA:=Nz (pA'.trans pA.symm) AiK decA
  have eB:=Nz (pB'.trans pB.symm) AiL K6
  subst eA eB
  have et:=L'.uniq L
  subst et
  have few:=L.few
  have x3:Ea H H3:=x2.trans t3
  have gp3:=t3.tup gp2
  have gl3:=t3.lst gl
  have kl:=pc.len
  have rl:(rs.map V.ref).length=Adx.length:=by rw[AsH,N.l]
  refine⟨_,rfl,⟨_,SqL.of N.h⟩,Hm (K:=K) (a:=ly) (xs:=rs.map V.ref) (fun i ys H4=>∃ as:List Addr,Bl H3 H4∧ys=as.map V.ref∧as.length=i∧∀(j:Nat) (b:Addr) (u:List (List Nat)),as[j]?=some b→(Adx.map (pOf cl m))[j]?=some u→H4 b=some (.lst (vS u)))
   ⟨[],.refl _,rfl,rfl,fun j b u h=>by simp at h⟩ ?_ ?_ ?_ ?_⟩
  ·rintro i ys H4 hi ⟨as,s4,rfl,al,_⟩
   exact⟨SqL.of (s4 _ _ N.h),by rw[AsH];omega⟩
  ·rw[rl];omega
  ·rintro i x ys H4 hi hx ⟨as,s4,rfl,al,hA⟩
   obtain⟨r,ts,rfl,hr1,hr2,hr3⟩:=(N.same s4).at hx
   have hit:i<Adx.length:=(List.getElem?_eq_some_iff.mp hr2).1
   have et:ts=Adx[i]:=Option.some.inj (hr2.symm.trans (AsJ hit))
   have le1:=Alb hit
   rw[L.AhM] at le1
   refine Ky.no ?_
   refine⟨_,rfl,_,rfl,_,_,_,_,rfl,rfl,SqT.of (s4 _ _ gp3),Dk (by decide) rfl,_,rfl,a,r,cl,m,n,ts,rfl,(x3.trans s4.toT).seq hS,C,SqL.of hr3,(by rw[et];omega),(fun z hz=>L.mem hit (by rw[← et];exact hz)),fun l H5 s5 nl hl=>?_⟩
   refine CN.of hi ⟨as++[l],s4.trans s5,by rw[AsP];rfl,by rw[AsN,al];rfl,fun j b u e1 e2=>?_⟩
   rcases Auh j as.length with c | c
   ·rw[Atu c] at e1
    exact s5 _ _ (hA j b u e1 e2)
   ·rw[Ats c] at e1
    have:j=i:=by
     have:=(List.getElem?_eq_some_iff.mp e1).1
     simp at this
     omega
    subst this
    rw[al,At7] at e1
    cases e1
    rw[AsU,hr2] at e2
    cases e2
    exact hl
  ·rintro ys H4 lp ⟨as,s4,rfl,al,hA⟩ nlp
   rw[rl] at al
   have s5:Bl H4 (upd H4 lp (.lst (as.map V.ref))):=.upd nlp
   have TL5:TL (upd H4 lp (.lst (as.map V.ref))) lp as (Adx.map (pOf cl m)):=⟨Ae,by rw[AsH];exact al,fun j b u e1 e2=>s5 _ _ (hA j b u e1 e2)⟩
   generalize upd H4 lp (.lst (as.map V.ref))=H5 at s5 TL5 ⊢
   have u5:=s4.trans s5
   have gl5:=u5 _ _ gl3
   have gp5:=u5 _ _ gp3
   refine⟨_,rfl,_,rfl,_,rfl,_,_,_,_,rfl,rfl,SqT.of gp5,Dk (by decide) rfl,_,rfl,_,_,rfl,SqL.of gl5,fun c1 nc1=>?_⟩
   have e1:Lw (vI ks) none (some (m:Int))=vI (ks.take m):=by
    have:=Alo (ns:=ks) (k:=m) (by omega)
    rwa [AtH] at this
   rw[e1]
   have s6:Bl H5 (upd H5 c1 (.lst (vI (ks.take m)))):=.upd nc1
   have g6:(upd H5 c1 (.lst (vI (ks.take m)))) c1=some (.lst (vI (ks.take m))):=Ae
   generalize upd H5 c1 (.lst (vI (ks.take m)))=H6 at s6 g6 ⊢
   refine⟨_,rfl,_,rfl,_,_,_,_,rfl,rfl,SqT.of (s6 _ _ gp5),Dk (by decide) rfl,_,rfl,_,_,rfl,SqL.of (s6 _ _ gl5),fun c2 nc2=>?_⟩
   have e2:Lw (vI ks) (some (m:Int)) none=vI (ks.drop m):=by
    unfold Lw
    have q1:HT.sIx (vI ks).length 0 (some (m:Int))=m:=by rw[HT.Lb,Bs,Atq (by omega)]
    have q2:HT.sIx (vI ks).length (vI ks).length none=(vI ks).length:=rfl
    rw[q1,q2]
    unfold vI
    rw[← At8]
    exact Atc (by rw[AsH,AsH,Atg];omega)
   rw[e2]
   have s7:Bl H6 (upd H6 c2 (.lst (vI (ks.drop m)))):=.upd nc2
   have g7:(upd H6 c2 (.lst (vI (ks.drop m)))) c2=some (.lst (vI (ks.drop m))):=Ae
   generalize upd H6 c2 (.lst (vI (ks.drop m)))=H7 at s7 g7 ⊢
   refine⟨(by show 3≤sizeLine;decide),fun tp ntp=>?_⟩
   have s8:Bl H7 (upd H7 tp (.tup [.ref lp,.ref c1,.ref c2])):=.upd ntp
   exact k tp _ lp c1 c2 as Adx _ _ eo po ks (x3.trans (((u5.trans s6).trans s7).trans s8).toT) (tb3.same (((u5.trans s6).trans s7).trans s8)) pA' pB' AiK AiL L pc Ae (((TL5.same s6).same s7).same s8) (s8 _ _ (s7 _ _ g6)) (s8 _ _ g7)
instance (c:Nat):Decidable (Sg c):=inferInstanceAs (Decidable (_∨_))
theorem Arx(c:Nat):(!(!(Builtin.Str.occurrences "#." ⟨#[c]⟩ 0 (Str.length "#.") 1).isEmpty))=!decide (Sg c):=by
 rw[StrLaws.found_one]
 have e:(("#." : Str)).cps.toList=[35,46]:=by decide +kernel
 rw[e]
 congr 1
 apply decide_eq_decide.mpr
 unfold Sg
 simp only [Ata,Atb,or_false]
def Aa3 (cl:List (List Nat)):Prop:=cl.length≤1000∧(∀ u∈cl,u.length≤1000)∧¬∃ m n,Cl cl m n
def Alr (t:Adr):Sp:=fun vs H Q E=>∃(u:List Nat) (m:Nat),vs=[.str (tx u),.int (m:Int),.str "#."]∧u.length≤1000∧((u.length=m∧∀ c∈u,Sg c)→Q .non H)∧(¬(u.length=m∧∀ c∈u,Sg c)→E (.ref t.Ai) none H)
theorem AdI(T:Txt K mg t):Bp P w K mg base (CX1 P w) 1 t.Fg t.JS ["text", "ends", "signs"] (Alr t):=by
 refine T.IV.F.okX Ld (fun vs H Q E h=>?_) (fun cdv A outer s H vs Q E hr h=>?_)
 ·obtain⟨u,m,rfl,_⟩:=h
  rfl
 ·obtain⟨u,m,rfl,hl,k1,k2⟩:=h
  have hsz:sizeLine=16777216:=sizeLine_eq
  refine⟨_,(Ac (Cu (An Aad (Ao JL rfl T.Ir Ge (Aa (pv 0) Ad)) (pv 1) (Be _))
    (Ah (Ry Aam rfl (fun _ _ z=>z) PySem.F.excBase_ValueError Abw PySem.F.excBase_ValueError T.Du.q rfl T.Ih (Aa Bx Ad)))
    Bo)
   (Ah (AkX fun hfr=>(Hx (AnT Aam hfr) rfl (Akc (pv 0)) (Dj (i:=3) Ld.nd rfl (Or.inl rfl))
    (Ah (Cu (An Aae (pv 3) (pv 2) rfl)
     (Ah (Ry Aam rfl (fun _ _ z=>z) PySem.F.excBase_ValueError Abw PySem.F.excBase_ValueError T.Du.q rfl T.Ih (Aa Bx Ad)))
     Bo)))))),?_⟩
  refine⟨_,rfl,_,rfl,(by rw[Ei];omega),_,rfl,rfl,_,rfl,?_⟩
  rw[Ei]
  by_cases hm:u.length=m
  ·refine Aah (by rw[hm]) ?_
   refine⟨_,rfl,_,rfl,Ain (z:=tx u) (fun i σ H2=>∃ v,σ=[some (.str (tx u)),some (.int (m:Int)),some (.str "#."),v]∧H2=H∧∀ c∈u.take i,Sg c) ⟨none,rfl,rfl,fun c h=>(by simp at h)⟩ ?_ ?_⟩
   ·rintro i c σ H2 hc ⟨v,rfl,rfl,hall⟩
    rw[Afr] at hc
    refine⟨_,rfl,_,rfl,_,_,rfl,rfl,_,rfl,?_⟩
    rw[Arx]
    by_cases hg:Sg c
    ·refine Aah hg ?_
     refine⟨_,rfl,rfl,fun d hd=>?_⟩
     rw[Atm,hc] at hd
     rcases List.mem_append.mp hd with h | h
     ·exact hall d h
     ·have:d=c:=by simpa using h
      rw[this];exact hg
    ·refine Aiq hg ?_
     exact⟨by decide,k2 fun z=>hg (z.2 c (AsS hc))⟩
   ·rintro σ H2 ⟨v,rfl,rfl,hall⟩
    refine k1 ⟨hm,fun c hc=>hall c ?_⟩
    have e:u.take (tx u).cps.size=u:=by
     rw[Atc]
     have:=Ei u
     unfold Str.length at this
     omega
    rw[e]
    exact hc
  ·refine Aiq (fun z=>hm (by injection z with z;omega)) ?_
   exact⟨by decide,k2 fun z=>hm z.1⟩
def AoD (K:PySem.W.Frag)(t:Adr):Sp:=fun vs H Q E=>∃(a:Addr) (cl:List (List Nat)),vs=[.ref a,.int 1,.str "#."]∧SqL K H a (vS cl)∧Aa3 cl∧E (.ref t.Ai) none H
theorem YC(T:Txt K mg t):Bp P w K mg base (CX1 P w) 2 t.CG t.Hq ["texts", "least", "signs"] (AoD K t):=by
 have Su:Bp P w K mg base (CX1 P w) 1 t.Fg t.JS _ _:=AdI T
 refine T.Fo.F.okX FJ (fun vs H Q E h=>?_) (fun cdv A outer s H vs Q E hr h=>?_)
 ·obtain⟨a,cl,rfl,_⟩:=h
  rfl
 ·obtain⟨a,cl,rfl,hS,⟨l1,l2,hn⟩,k⟩:=h
  have hsz:sizeLine=16777216:=sizeLine_eq
  have hlen:(vS cl).length=cl.length:=Ij cl
  refine⟨_,(Ac (Cu (PW.pt (pw_or (An Acd (Ao (Bt (K:=K)) rfl T.Ir Ge (Aa (pv 0) Ad)) (pv 1) (Be _)) (pw_or1 (An Yj (Ao (Bt (K:=K)) rfl T.Ir Ge (Aa (pv 0) Ad)) (Bj (v:=.int 40) rfl T.JT.choose_spec ⟨_,rfl⟩) (Be _)))))
    (Ah (Ry Aam rfl (fun _ _ z=>z) PySem.F.excBase_ValueError Abw PySem.F.excBase_ValueError T.Du.q rfl T.Ih (Aa Bx Ad)))
    Bo)
   (Ac (Aq (i:=3) FJ.nd rfl (Or.inl rfl) (Ao JL rfl T.Ir Ge (Aa (Bv (Bg (K:=K)) (pv 0) Ag (fun _ _=>rfl)) Ad)))
   (Ac (Cu (PW.pt (pw_or (An Acd (pv 3) (pv 1) (Be _)) (pw_or1 (An Yj (pv 3) (Bj (v:=.int 40) rfl T.JT.choose_spec ⟨_,rfl⟩) (Be _)))))
    (Ah (Ry Aam rfl (fun _ _ z=>z) PySem.F.excBase_ValueError Abw PySem.F.excBase_ValueError T.Du.q rfl T.Ih (Aa Bx Ad)))
    Bo)
   (Ac (AkX fun hfr=>(Hx (AnT Aam hfr) rfl (Ew (K:=K) (pv 0)) (Dj (i:=4) FJ.nd rfl (Or.inl rfl))
    (Ah (Ja (Bw (Su.mono (by decide)) hr rfl T.IV.m T.IV.F.kp T.IV.b .nil Vp (Aa (pv 4) (Aa (pv 3) (Aa (pv 2) Ad))))))))
   (Ah (BP (K5 (Aa (pv 3) (Aa (Ao (Bt (K:=K)) rfl T.Ir Ge (Aa (pv 0) Ad)) Ad))))))))),?_⟩
  refine⟨_,rfl,_,_,rfl,.inl hS,_,rfl,_,_,rfl,rfl,_,rfl,?_⟩
  rw[hlen]
  refine DR (fun h=>Adb ⟨by decide,k⟩) (fun g1=>?_)
  refine⟨_,rfl,_,_,rfl,.inl hS,_,_,rfl,rfl,_,rfl,?_⟩
  rw[hlen]
  refine DR (fun h=>⟨by decide,k⟩) (fun g2=>?_)
  have h0:0<cl.length:=by omega
  have lm:=l2 cl[0] (AsV h0)
  obtain⟨m,hm⟩:∃ m,m=cl[0].length:=⟨_,rfl⟩
  refine⟨_,rfl,_,_,_,_,rfl,rfl,hS,Dk (by decide) (Adj (AsJ h0)),_,rfl,(by rw[Ei];omega),?_⟩
  rw[Ei,← hm]
  refine⟨_,rfl,_,rfl,_,_,rfl,rfl,_,rfl,?_⟩
  refine DR (fun h=>Adb ⟨by decide,k⟩) (fun g3=>?_)
  refine⟨_,rfl,_,_,rfl,rfl,_,rfl,?_⟩
  refine DR (fun h=>⟨by decide,k⟩) (fun g4=>?_)
  refine⟨_,rfl,_,rfl,⟨_,hS⟩,Rw (K:=K) (a:=a) (xs:=vS cl) (fun i σ H2=>∃ v,σ=[some (.ref a),some (.int 1),some (.str "#."),some (.int (m:Int)),v]∧H2=H∧∀ u∈cl.take i,u.length=m∧∀ c∈u,Sg c) ⟨none,rfl,rfl,fun u h=>(by simp at h)⟩ (fun i σ H2 _ ⟨_,_,e,_⟩=>e▸hS) ?_ ?_⟩
  ·rintro i x σ H2 hx ⟨v,rfl,rfl,hall⟩
   obtain⟨u,hu,rfl⟩:=Adk hx
   refine⟨_,rfl,_,rfl,_,rfl,u,m,rfl,l2 u (AsS hu),fun hg=>?_,fun _=>k⟩
   refine⟨_,rfl,rfl,fun u' hu'=>?_⟩
   rw[Atm,hu] at hu'
   rcases List.mem_append.mp hu' with h | h
   ·exact hall u' h
   ·have:u'=u:=by simpa using h
    rw[this];exact hg
  ·rintro σ H2 ⟨v,rfl,rfl,hall⟩
   rw[hlen,At2] at hall
   exact absurd ⟨m,cl.length,rfl,fun u hu=>(hall u hu).1,fun u hu=>(hall u hu).2,by omega,by omega,by omega,by omega⟩ hn
def Aqk (K:PySem.W.Frag)(t:Adr):Sp:=fun vs H Q E=>∃(a:Addr) (cl:List (List Nat)),vs=[.ref a]∧SqL K H a (vS cl)∧Aa3 cl∧E (.ref t.Ai) none H
theorem Aa4(T:Txt K mg t):Bp P w K mg base (CX1 P w) 3 t.Dw t.Gw ["cloth"] (Aqk K t):=by
 have KN:Bp P w K mg base (CX1 P w) 2 t.CG t.Hq _ _:=YC T
 refine T.measured.F.okX Ach (fun vs H Q E h=>?_) (fun cdv A outer s H vs Q E hr h=>?_)
 ·obtain⟨a,cl,rfl,_⟩:=h
  rfl
 ·obtain⟨a,cl,rfl,hS,hb,k⟩:=h
  exact⟨_,(Ah (BP (Bw (KN.mono (by decide)) hr rfl T.Fo.m T.Fo.F.kp T.Fo.b .nil Vp (Aa (pv 0) (Aa Ag (Aa Bx Ad)))))),_,rfl,a,cl,rfl,hS,hb,k⟩
def AfG (K:PySem.W.Frag)(t:Adr)(n:Nat):Sp:=fun vs H Q E=>∃(a:Addr) (cl:List (List Nat)) (xs:List V),vs=.ref a::xs∧xs.length=n∧SqL K H a (vS cl)∧Aa3 cl∧E (.ref t.Ai) none H
def Aa5 (n:Nat)(sh:List Int):Prop:=sh.length=n∧∀ z∈sh,0≤z∧z<8
def AmO (K:PySem.W.Frag)(t:Adr):Sp:=fun vs H Q E=>∃(b:Addr) (sh:List Int) (n:Nat),vs=[.ref b,.int (n:Int)]∧SqL K H b (vI sh)∧¬Aa5 n sh∧E (.ref t.Af) none H
theorem NQ(T:Txt K mg t):Bp P w K mg base (CX1 P w) 1 t.Ci t.Gp ["shuttles", "picks"] (AmO K t):=by
 refine T.Dd.F.okX Ip (fun vs H Q E h=>?_) (fun cdv A outer s H vs Q E hr h=>?_)
 ·obtain⟨b,sh,n,rfl,_⟩:=h
  rfl
 ·obtain⟨b,sh,n,rfl,hS,hb,k⟩:=h
  refine⟨_,(Ac (Cu (An Aad (Ao (Bt (K:=K)) rfl T.Ir Ge (Aa (pv 0) Ad)) (pv 1) (Be _))
    (Ah (Ry Aam rfl (fun _ _ z=>z) PySem.F.excBase_ValueError Abw PySem.F.excBase_ValueError T.Dg.q rfl T.Hw (Aa Bx Ad)))
    Bo)
   (Ah (AkX fun hfr=>(Hx (AnT Aam hfr) rfl (Ew (K:=K) (pv 0)) (Dj (i:=2) Ip.nd rfl (Or.inl rfl))
    (Ah (Cu (PW.pt (pw_or (An Acd (pv 2) Ag (Be _)) (pw_or1 (An AjR (pv 2) (Bj (v:=.int 8) rfl T.Y6.choose_spec ⟨_,rfl⟩) (Be _)))))
     (Ah (Ry Aam rfl (fun _ _ z=>z) PySem.F.excBase_ValueError Abw PySem.F.excBase_ValueError T.Dg.q rfl T.Hw (Aa Bx Ad)))
     Bo)))))),?_⟩
  refine⟨_,rfl,_,_,rfl,.inl hS,_,rfl,rfl,_,rfl,?_⟩
  rw[Bs]
  by_cases hn:sh.length=n
  ·refine Aah (by rw[hn]) ?_
   refine⟨_,rfl,_,rfl,⟨_,hS⟩,Rw (K:=K) (a:=b) (xs:=vI sh) (fun i σ H2=>∃ v,σ=[some (.ref b),some (.int (n:Int)),v]∧H2=H∧∀ z∈sh.take i,0≤z∧z<8) ⟨none,rfl,rfl,fun z hz=>absurd hz (by simp)⟩ (fun i σ H2 _ ⟨_,_,e,_⟩=>e▸hS) ?_ ?_⟩
   ·rintro i x σ H2 hx ⟨v,rfl,rfl,hall⟩
    obtain⟨z,hz,rfl⟩:=Nx hx
    refine⟨_,rfl,_,_,rfl,rfl,_,rfl,?_⟩
    refine DR (fun h=>Adb ⟨by decide,k⟩) (fun g1=>?_)
    refine⟨_,rfl,_,_,rfl,rfl,_,rfl,?_⟩
    refine DR (fun h=>⟨by decide,k⟩) (fun g2=>?_)
    refine⟨_,rfl,rfl,fun y hy=>?_⟩
    rw[Atm,hz] at hy
    rcases List.mem_append.mp hy with h | h
    ·exact hall y h
    ·have:y=z:=by simpa using h
     rw[this];omega
   ·rintro σ H2 ⟨v,rfl,rfl,hall⟩
    rw[Bs,At2] at hall
    exact absurd ⟨hn,hall⟩ hb
  ·refine Aiq (fun z=>hn (by injection z with z;omega)) ?_
   exact⟨by decide,k⟩
theorem Ms(T:Txt K mg t):Bp P w K mg base (CX1 P w) 8 t.DP t.Ig ["cloth"] (AfG K t 0):=by
 have DX:Bp P w K mg base (CX1 P w) 3 t.Dw t.Gw _ _:=Aa4 T
 refine T.Fp.F.okX Ho (fun vs H Q E h=>?_) (fun cdv A outer s H vs Q E hr h=>?_)
 ·obtain⟨a,cl,xs,rfl,hl,_⟩:=h
  match xs,hl with | [],_=>rfl
 ·obtain⟨a,cl,xs,rfl,hl,hS,hb,k⟩:=h
  match xs,hl with | [],_=>exact⟨_,(Ac (Aq (i:=1) Ho.nd rfl (Or.inr rfl) (Bw (DX.mono (by decide)) hr rfl T.measured.m T.measured.F.kp T.measured.b .nil Vp (Aa (pv 0) Ad))) K3),_,rfl,a,cl,rfl,hS,hb,k⟩
theorem JW(T:Txt K mg t):Bp P w K mg base (CX1 P w) 8 t.CK t.Ez ["cloth", "shuttles"] (AfG K t 1):=by
 have DX:Bp P w K mg base (CX1 P w) 3 t.Dw t.Gw _ _:=Aa4 T
 have Ht:Bp P w K mg base (CX1 P w) 1 t.Ci t.Gp _ _:=NQ T
 refine T.Ca.F.okX Gh (fun vs H Q E h=>?_) (fun cdv A outer s H vs Q E hr h=>?_)
 ·obtain⟨a,cl,xs,rfl,hl,_⟩:=h
  match xs,hl with | [x0],_=>rfl
 ·obtain⟨a,cl,xs,rfl,hl,hS,hb,k⟩:=h
  match xs,hl with | [x0],_=>exact⟨_,(Ac (Aq (i:=2) Gh.nd rfl (Or.inl rfl) (Bw (DX.mono (by decide)) hr rfl T.measured.m T.measured.F.kp T.measured.b .nil Vp (Aa (pv 0) Ad))) (Ac (Ja (Bw (Ht.mono (by decide)) hr rfl T.Dd.m T.Dd.F.kp T.Dd.b .nil Vp (Aa (pv 1) (Aa (Bv (Fe (K:=K)) (pv 2) Ag (fun _ _=>rfl)) Ad)))) K3)),_,rfl,a,cl,rfl,hS,hb,k⟩
def AfH (K:PySem.W.Frag)(t:Adr):Sp:=fun vs H Q E=>∃(a b:Addr) (cl:List (List Nat)) (m n:Nat) (sh:List Int),vs=[.ref a,.ref b]∧SqL K H a (vS cl)∧Cl cl m n∧SqL K H b (vI sh)∧¬Aa5 n sh∧∀ H',Bl H H'→E (.ref t.Af) none H'
theorem JX(T:Txt K mg t):Bp P w K mg base (CX1 P w) 8 t.CK t.Ez ["cloth", "shuttles"] (AfH K t):=by
 have DX:Bp P w K mg base (CX1 P w) 3 t.Dw t.Gw _ _:=KC (JG T)
 have Ht:Bp P w K mg base (CX1 P w) 1 t.Ci t.Gp _ _:=NQ T
 refine T.Ca.F.okX Gh (fun vs H Q E h=>?_) (fun cdv A outer s H vs Q E hr h=>?_)
 ·obtain⟨a,b,cl,m,n,sh,rfl,_⟩:=h
  rfl
 ·obtain⟨a,b,cl,m,n,sh,rfl,hS,C,hB,hb,k⟩:=h
  refine⟨_,(Ac (Aq (i:=2) Gh.nd rfl (Or.inl rfl) (Bw (DX.mono (by decide)) hr rfl T.measured.m T.measured.F.kp T.measured.b .nil Vp (Aa (pv 0) Ad))) (Ac (Ja (Bw (Ht.mono (by decide)) hr rfl T.Dd.m T.Dd.F.kp T.Dd.b .nil Vp (Aa (pv 1) (Aa (Bv (Fe (K:=K)) (pv 2) Ag (fun _ _=>rfl)) Ad)))) K3)),?_⟩
  refine⟨_,rfl,a,cl,m,n,rfl,hS,C,fun p hp=>?_⟩
  have s1:Bl H (upd H p (.tup [.int (m:Int),.int (n:Int)])):=.upd hp
  have gp1:(upd H p (.tup [.int (m:Int),.int (n:Int)])) p=some (.tup [.int (m:Int),.int (n:Int)]):=Ae
  generalize upd H p (.tup [.int (m:Int),.int (n:Int)])=H1 at s1 gp1 ⊢
  exact⟨_,rfl,_,rfl,_,_,_,_,rfl,rfl,SqT.of gp1,Dk (by decide) rfl,b,sh,n,rfl,s1.seq hB,hb,k _ s1⟩
theorem Sw(T:Txt K mg t):Bp P w K mg base (CX1 P w) 9 t.FP t.Jz ["cloth", "shuttles"] (AfG K t 1):=by
 have Dh:Bp P w K mg base (CX1 P w) 8 t.CK t.Ez _ _:=JW T
 refine T.HS.F.okX JC (fun vs H Q E h=>?_) (fun cdv A outer s H vs Q E hr h=>?_)
 ·obtain⟨a,cl,xs,rfl,hl,_⟩:=h
  match xs,hl with | [x0],_=>rfl
 ·obtain⟨a,cl,xs,rfl,hl,hS,hb,k⟩:=h
  match xs,hl with | [x0],_=>exact⟨_,(Ac (Aq (i:=2) JC.nd rfl (Or.inr rfl) (Bw (Dh.mono (by decide)) hr rfl T.Ca.m T.Ca.F.kp T.Ca.b .nil Vp (Aa (pv 0) (Aa (pv 1) Ad)))) K3),_,rfl,_,rfl,a,cl,_,rfl,rfl,hS,hb,k⟩
theorem Sx(T:Txt K mg t):Bp P w K mg base (CX1 P w) 9 t.FP t.Jz ["cloth", "shuttles"] (AfH K t):=by
 have Dh:Bp P w K mg base (CX1 P w) 8 t.CK t.Ez _ _:=JX T
 refine T.HS.F.okX JC (fun vs H Q E h=>?_) (fun cdv A outer s H vs Q E hr h=>?_)
 ·obtain⟨a,b,cl,m,n,sh,rfl,_⟩:=h
  rfl
 ·obtain⟨a,b,cl,m,n,sh,rfl,hS,C,hB,hb,k⟩:=h
  exact⟨_,(Ac (Aq (i:=2) JC.nd rfl (Or.inr rfl) (Bw (Dh.mono (by decide)) hr rfl T.Ca.m T.Ca.F.kp T.Ca.b .nil Vp (Aa (pv 0) (Aa (pv 1) Ad)))) K3),_,rfl,_,rfl,a,b,cl,m,n,sh,rfl,hS,C,hB,hb,k⟩
theorem QV(T:Txt K mg t):Bp P w K mg base (CX1 P w) 9 t.Eu t.Iz ["cloth", "shuttles"] (AfG K t 1):=by
 have Dh:Bp P w K mg base (CX1 P w) 8 t.CK t.Ez _ _:=JW T
 refine T.GJ.F.okX Dm (fun vs H Q E h=>?_) (fun cdv A outer s H vs Q E hr h=>?_)
 ·obtain⟨a,cl,xs,rfl,hl,_⟩:=h
  match xs,hl with | [x0],_=>rfl
 ·obtain⟨a,cl,xs,rfl,hl,hS,hb,k⟩:=h
  match xs,hl with | [x0],_=>exact⟨_,(Ac (Aq (i:=2) Dm.nd rfl (Or.inl rfl) (Bw (Dh.mono (by decide)) hr rfl T.Ca.m T.Ca.F.kp T.Ca.b .nil Vp (Aa (pv 0) (Aa (pv 1) Ad)))) K3),_,rfl,_,rfl,a,cl,_,rfl,rfl,hS,hb,k⟩
theorem QW(T:Txt K mg t):Bp P w K mg base (CX1 P w) 9 t.Eu t.Iz ["cloth", "shuttles"] (AfH K t):=by
 have Dh:Bp P w K mg base (CX1 P w) 8 t.CK t.Ez _ _:=JX T
 refine T.GJ.F.okX Dm (fun vs H Q E h=>?_) (fun cdv A outer s H vs Q E hr h=>?_)
 ·obtain⟨a,b,cl,m,n,sh,rfl,_⟩:=h
  rfl
 ·obtain⟨a,b,cl,m,n,sh,rfl,hS,C,hB,hb,k⟩:=h
  exact⟨_,(Ac (Aq (i:=2) Dm.nd rfl (Or.inl rfl) (Bw (Dh.mono (by decide)) hr rfl T.Ca.m T.Ca.F.kp T.Ca.b .nil Vp (Aa (pv 0) (Aa (pv 1) Ad)))) K3),_,rfl,_,rfl,a,b,cl,m,n,sh,rfl,hS,C,hB,hb,k⟩
end
end Mine
namespace L2
open PySem PySem.Spec PyProof.Rows
section
variable {X:Cx}{K:PySem.W.Frag}{k:Nat}{f C:Addr}{fd:FuncData}{ps:List Str}{sp:Sp}{dvs:List V}{ds:List Value}{x m:Str}{p pos apos:Pos}{e o:Expr}{es:List Expr}{ta:TE}{t:TA}
theorem Sy{c:Expr}{a b:List Stmt}{tc:TT}{t1 t2:XK→TS}(hc:PT X.nox c tc)(ha:AlY X a t1)(hb:AlY X b t2):PSX X (.If c a b pos) fun E=>Aph tc (t1 E) (t2 E):=by
 intro pins s σ H D E I h
 refine wpAny_If (wpAny_mono (hc pins s σ H _ (I.wish _) h) (fun d s1 ⟨H1,I1,q1⟩=>?_) fun _ _ z=>z.elim)
 cases d with
 | true=>exact ha pins s1 σ H1 D E I1.JK q1
 | false=>exact hb pins s1 σ H1 D E I1.JK q1
def AsE (K:PySem.W.Frag):R2:=fun x y H Q=>∃ p q xs,x=.ref p∧y=.ref q∧SqL K H p xs∧SqL K H q []∧Q (.bl (!xs.isEmpty)) H
def AsF (K:PySem.W.Frag):R2:=fun x y H Q=>∃ p q xs,x=.ref p∧y=.ref q∧SqL K H p xs∧SqL K H q []∧Q (.bl xs.isEmpty) H
end
end L2
namespace Mine
open PySem L2
section
variable {P:Program}{w:World}{K:PySem.W.Frag}{mg:Str→Option Value}{base:Heap}{t:Adr}
theorem AdJ{K:PySem.W.Frag}{t:Value}:∀{l:List Value},(∀ c∈l,PySem.W.kitOne K t c=some false)→PySem.W.kitAny K t l=some false
 | [],_=>rfl
 | c::l,h=>by
  unfold PySem.W.kitAny
  rw[h c AsR]
  exact AdJ fun d hd=>h d (AsW _ hd)
theorem Ahd{G:Prop}{R:Addr→Hp→Prop}(C:Addr→Hp→Prop)(main:(∀ x H,C x H→R x H)→G)(rest:∀ x H,C x H→R x H):G:=main rest
theorem Als{G:Prop}{R:Hp→Prop}(C:Hp→Prop)(main:(∀ H,C H→R H)→G)(rest:∀ H,C H→R H):G:=main rest
def Alu (K:PySem.W.Frag)(tT:Addr):Sp:=fun vs H Q _=>∃(way:Int) (a b:Addr) (cl:List (List Nat)) (m n:Nat) (sh:List Int),vs=[.int way,.ref a,.ref b]∧SqL K H a (vS cl)∧Cl cl m n∧m+n<64∧Tb tT "layers_of.<locals>.<lambda>" H∧SqL K H b (vI sh)∧(way≠0→Aa5 n sh)∧∀ H',Ea H H'→Tb tT "layers_of.<locals>.<lambda>" H'→Q (.str "told") H'
theorem AfI{tc tT:Addr}(T:Txt K mg t)(hcd:t.CZ.code=.ref tc)(hCd:PySem.W.CodeHd base tc tT)(hBm:Bm mg base):Bp P w K mg base CX0 10 t.Gx t.KD ["way", "given", "shuttles"] (Alu K tT):=by
 have Js:Bp P w K mg base (CX1 P w) 8 t.DP t.Ig _ _:=Iv (KC (NP T hcd hCd hBm)) (Ms T)
 have Dh:Bp P w K mg base (CX1 P w) 8 t.CK t.Ez _ _:=Iv (KC (LC T hcd hCd hBm)) (Iv (JW T) (JX T))
 have NT:Bp P w K mg base (CX1 P w) 9 t.FP t.Jz _ _:=Iv (KC (Vz T hcd hCd hBm)) (Iv (Sw T) (Sx T))
 have LK:Bp P w K mg base (CX1 P w) 9 t.Eu t.Iz _ _:=Iv (KC (Sv T hcd hCd hBm)) (Iv (QV T) (QW T))
 have Jd:Bp P w K mg base CX0 1 t.Cj t.Hr _ _:=JV T
 have J1:Bp P w K mg base CX0 1 t.BW t.Gz _ _:=Jl T
 refine T.HW.F.ok CW (fun vs H Q E h=>?_) (fun cdv A outer s H vs Q E hr h=>?_)
 ·obtain⟨way,a,b,cl,m,n,sh,rfl,_⟩:=h
  rfl
 ·obtain⟨way,a,b,cl,m,n,sh,rfl,hS,C,mn,tb,hB,gd,k⟩:=h
  have fw:Fw cl m n:=Alc mn
  refine⟨_,(Ac (Aq (i:=3) CW.nd rfl (Or.inl rfl) Abq)
   (Ac (Ah4 (j:=4) ⟨rfl,rfl,rfl⟩ rfl (DG (Sy (An Fi (pv 0) Ag (Be _)) (DG (HQ (HN (Js.mono (by decide)) hr rfl T.Fp.m T.Fp.F.kp T.Fp.b .nil (Aa (pv 1) Ad)))) (DG (Sy (An Fi (pv 0) Ag (Be _)) (DG (HQ (HN (Dh.mono (by decide)) hr rfl T.Ca.m T.Ca.F.kp T.Ca.b .nil (Aa (pv 1) (Aa (pv 2) Ad))))) (DG (Sy (An Fi (pv 0) Ag (Be _)) (DG (HQ (HN (NT.mono (by decide)) hr rfl T.HS.m T.HS.F.kp T.HS.b .nil (Aa (pv 1) (Aa (pv 2) Ad))))) (DG (HQ (HN (LK.mono (by decide)) hr rfl T.GJ.m T.GJ.F.kp T.GJ.b .nil (Aa (pv 1) (Aa (pv 2) Ad))))))))))) CW.nd rfl rfl rfl T.Sq T.Ss.q Adn (fun _=>(Ah (Aq (i:=3) CW.nd rfl (Or.inl rfl) (pv 4)))))
   (Ac (Cu (An Ahx (pv 3) Abq (Be _))
    (Ah (BP Bx))
    Bo)
   (Ac (Cu (Hg (Ao (Nr (K:=K)) rfl T.Bu Bq (Aa (pv 3) (Aa (K5 (Aa (Bj (v:=.ref t.BR) rfl T.AfB rfl) (Aa (Bj (v:=.ref t.Ar) rfl T.Y7 rfl) (Aa (Bj (v:=.ref t.Ba) rfl T.Ab9 rfl) (Aa (Bj (v:=.ref t.Av) rfl T.Y8 rfl) (Aa (Bj (v:=.ref t.Br) rfl T.AdD rfl) (Aa (Bj (v:=.ref t.Aw) rfl T.Y9 rfl) (Aa (Bj (v:=.ref t.Ax) rfl T.YB rfl) Ad)))))))) Ad))))
    (Ah (BP Bx))
    Bo)
   (Ac (Cu (PW.pt (pw_or (Hg (Ao (Nr (K:=K)) rfl T.Bu Bq (Aa (pv 3) (Aa (K5 (Aa (Bj (v:=.ref t.Bb) rfl T.AbA rfl) (Aa (Bj (v:=.ref t.Am) rfl T.Vw rfl) (Aa (Bj (v:=.ref t.Bc) rfl T.AbB rfl) (Aa (Bj (v:=.ref t.BV) rfl T.AfC rfl) Ad))))) Ad)))) (pw_or1 (RL (Hg (Ao (Gr (K:=K)) rfl T.Bu Bq (Aa (pv 3) (Aa (Afd (v:=.ty "ValueError") rfl T.Sh QR rfl) Ad))))))))
    (Ah (BP Bx))
    Bo)
   (Ac (Aq (i:=5) CW.nd rfl (Or.inl rfl) (Ado (pv 3) T.Du.c T.R4.m (Jd.mono (by decide)) hr T.R4.b Fz))
   (Ac (Cu (PW.pt (pw_and (Hg (Ao (Gr (K:=K)) rfl T.Bu Bq (Aa (pv 3) (Aa (Bj (v:=.ref t.Ai) rfl T.Ih rfl) Ad)))) (pw_and (RL (Hg (Ao (Gr (K:=K)) rfl T.Bu Bq (Aa (pv 3) (Aa (Bj (v:=.ref t.Af) rfl T.Hw rfl) Ad))))) (pw_and1 (An Fi (pv 5) Bx (Be _))))))
    (Ah (BP Bx))
    Bo)
   (Ac (Cu (PW.pt (pw_and (Hg (Ao (Gr (K:=K)) rfl T.Bu Bq (Aa (pv 3) (Aa (Bj (v:=.ref t.Af) rfl T.Hw rfl) Ad)))) (pw_and (RL (Hg (Ao (Gr (K:=K)) rfl T.Bu Bq (Aa (pv 3) (Aa (Bj (v:=.ref t.Ai) rfl T.Ih rfl) Ad))))) (pw_and1 (An Fi (pv 5) Bx (Be _))))))
    (Ah (BP Bx))
    Bo)
   (Ah (BP Bx)))))))))),?_⟩
  apply Als (fun H2=>Ea H H2∧Tb tT "layers_of.<locals>.<lambda>" H2)
  ·intro rest
   refine⟨_,rfl,rfl,_,rfl,?_⟩
   refine DR (fun h0=>?_) (fun h0=>?_)
   ·refine⟨_,rfl,.inl ⟨a,cl,m,n,rfl,hS,C,fw,tb,fun tp H2 lp n1 n2 as tss dA dB eo po ks t2 tb2 _ _ _ _ _ _ _ _ _ _=>?_⟩⟩
    exact rest H2 ⟨t2,tb2⟩
   have w0:way≠0:=fun e=>h0 (by rw[e])
   have pre:Pre K tT H a b cl m n sh:=⟨hS,C,fw,tb,hB,(gd w0).1,(gd w0).2⟩
   refine⟨_,rfl,rfl,_,rfl,?_⟩
   refine DR (fun h1=>?_) (fun h1=>?_)
   ·refine⟨_,rfl,_,rfl,.inl ⟨a,b,cl,m,n,sh,rfl,pre,fun l H2 q t2 tb2 _ _ _ _=>?_⟩⟩
    exact rest H2 ⟨t2,tb2⟩
   refine⟨_,rfl,rfl,_,rfl,?_⟩
   refine DR (fun h2=>?_) (fun h2=>?_)
   ·refine⟨_,rfl,_,rfl,.inl ⟨a,b,cl,m,n,sh,rfl,pre,fun l H2 q S t2 tb2 _ _ _ _ _=>?_⟩⟩
    exact rest H2 ⟨t2,tb2⟩
   ·refine⟨_,rfl,_,rfl,.inl ⟨a,b,cl,m,n,sh,rfl,pre,mn,fun l H2 rs S N t2 tb2 _ _ _ _ _=>?_⟩⟩
    exact rest H2 ⟨t2,tb2⟩
  rintro H2 ⟨t2,tb2⟩
  refine⟨_,rfl,rfl,_,rfl,?_⟩
  exact Adg rfl (k H2 t2 tb2)
def AmP (K:PySem.W.Frag)(tT:Addr):Sp:=fun vs H Q _=>∃(way:Int) (a:Addr) (x:V) (cl:List (List Nat)),vs=[.int way,.ref a,x]∧SqL K H a (vS cl)∧Aa3 cl∧Tb tT "layers_of.<locals>.<lambda>" H∧∀ H',Ea H H'→Tb tT "layers_of.<locals>.<lambda>" H'→Q (.str "NoCloth") H'
theorem AfJ{tc tT:Addr}(T:Txt K mg t)(hcd:t.CZ.code=.ref tc)(hCd:PySem.W.CodeHd base tc tT)(hBm:Bm mg base):Bp P w K mg base CX0 10 t.Gx t.KD ["way", "given", "shuttles"] (AmP K tT):=by
 have Js:Bp P w K mg base (CX1 P w) 8 t.DP t.Ig _ _:=Iv (KC (NP T hcd hCd hBm)) (Ms T)
 have Dh:Bp P w K mg base (CX1 P w) 8 t.CK t.Ez _ _:=Iv (KC (LC T hcd hCd hBm)) (Iv (JW T) (JX T))
 have NT:Bp P w K mg base (CX1 P w) 9 t.FP t.Jz _ _:=Iv (KC (Vz T hcd hCd hBm)) (Iv (Sw T) (Sx T))
 have LK:Bp P w K mg base (CX1 P w) 9 t.Eu t.Iz _ _:=Iv (KC (Sv T hcd hCd hBm)) (Iv (QV T) (QW T))
 have Jd:Bp P w K mg base CX0 1 t.Cj t.Hr _ _:=JV T
 have J1:Bp P w K mg base CX0 1 t.BW t.Gz _ _:=Jl T
 refine T.HW.F.ok CW (fun vs H Q E h=>?_) (fun cdv A outer s H vs Q E hr h=>?_)
 ·obtain⟨way,a,x,cl,rfl,_⟩:=h
  rfl
 ·obtain⟨way,a,x,cl,rfl,hS,hb,tb,k⟩:=h
  refine⟨_,(Ac (Aq (i:=3) CW.nd rfl (Or.inl rfl) Abq)
   (Ac (Ah4 (j:=4) ⟨rfl,rfl,rfl⟩ rfl (DG (Sy (An Fi (pv 0) Ag (Be _)) (DG (HQ (HN (Js.mono (by decide)) hr rfl T.Fp.m T.Fp.F.kp T.Fp.b .nil (Aa (pv 1) Ad)))) (DG (Sy (An Fi (pv 0) Ag (Be _)) (DG (HQ (HN (Dh.mono (by decide)) hr rfl T.Ca.m T.Ca.F.kp T.Ca.b .nil (Aa (pv 1) (Aa (pv 2) Ad))))) (DG (Sy (An Fi (pv 0) Ag (Be _)) (DG (HQ (HN (NT.mono (by decide)) hr rfl T.HS.m T.HS.F.kp T.HS.b .nil (Aa (pv 1) (Aa (pv 2) Ad))))) (DG (HQ (HN (LK.mono (by decide)) hr rfl T.GJ.m T.GJ.F.kp T.GJ.b .nil (Aa (pv 1) (Aa (pv 2) Ad))))))))))) CW.nd rfl rfl rfl T.Sq T.Ss.q Adn (fun _=>(Ah (Aq (i:=3) CW.nd rfl (Or.inl rfl) (pv 4)))))
   (Ac (Cu (An Ahx (pv 3) Abq (Be _))
    (Ah (BP Bx))
    Bo)
   (Ac (Cu (Hg (Ao (Nr (K:=K)) rfl T.Bu Bq (Aa (pv 3) (Aa (K5 (Aa (Bj (v:=.ref t.BR) rfl T.AfB rfl) (Aa (Bj (v:=.ref t.Ar) rfl T.Y7 rfl) (Aa (Bj (v:=.ref t.Ba) rfl T.Ab9 rfl) (Aa (Bj (v:=.ref t.Av) rfl T.Y8 rfl) (Aa (Bj (v:=.ref t.Br) rfl T.AdD rfl) (Aa (Bj (v:=.ref t.Aw) rfl T.Y9 rfl) (Aa (Bj (v:=.ref t.Ax) rfl T.YB rfl) Ad)))))))) Ad))))
    (Ah (BP Bx))
    Bo)
   (Ac (Cu (PW.pt (pw_or (Hg (Ao (Nr (K:=K)) rfl T.Bu Bq (Aa (pv 3) (Aa (K5 (Aa (Bj (v:=.ref t.Bb) rfl T.AbA rfl) (Aa (Bj (v:=.ref t.Am) rfl T.Vw rfl) (Aa (Bj (v:=.ref t.Bc) rfl T.AbB rfl) (Aa (Bj (v:=.ref t.BV) rfl T.AfC rfl) Ad))))) Ad)))) (pw_or1 (RL (Hg (Ao (Gr (K:=K)) rfl T.Bu Bq (Aa (pv 3) (Aa (Afd (v:=.ty "ValueError") rfl T.Sh QR rfl) Ad))))))))
    (Ah (BP Bx))
    Bo)
   (Ac (Aq (i:=5) CW.nd rfl (Or.inl rfl) (Ado (pv 3) T.Du.c T.R4.m (Jd.mono (by decide)) hr T.R4.b Fz))
   (Ac (Cu (PW.pt (pw_and (Hg (Ao (Gr (K:=K)) rfl T.Bu Bq (Aa (pv 3) (Aa (Bj (v:=.ref t.Ai) rfl T.Ih rfl) Ad)))) (pw_and (RL (Hg (Ao (Gr (K:=K)) rfl T.Bu Bq (Aa (pv 3) (Aa (Bj (v:=.ref t.Af) rfl T.Hw rfl) Ad))))) (pw_and1 (An Fi (pv 5) Bx (Be _))))))
    (Ah (BP Bx))
    Bo)
   (Ac (Cu (PW.pt (pw_and (Hg (Ao (Gr (K:=K)) rfl T.Bu Bq (Aa (pv 3) (Aa (Bj (v:=.ref t.Af) rfl T.Hw rfl) Ad)))) (pw_and (RL (Hg (Ao (Gr (K:=K)) rfl T.Bu Bq (Aa (pv 3) (Aa (Bj (v:=.ref t.Ai) rfl T.Ih rfl) Ad))))) (pw_and1 (An Fi (pv 5) Bx (Be _))))))
    (Ah (BP Bx))
    Bo)
   (Ah (BP Bx)))))))))),?_⟩
  apply Ahd (fun ea H2=>H2 ea=some (exH t.Ai ea)∧Ea H H2∧Tb tT "layers_of.<locals>.<lambda>" H2)
  ·intro rest
   have go:∀{ea:Addr},H ea=none→∃ H2,H2=upd H ea (exH t.Ai ea)∧H2 ea=some (exH t.Ai ea)∧Ea H H2∧Tb tT "layers_of.<locals>.<lambda>" H2:=fun ne=>⟨_,rfl,Ae,(Bl.upd ne).toT,tb.same (.upd ne)⟩
   refine⟨_,rfl,rfl,_,rfl,?_⟩
   refine DR (fun h0=>?_) (fun h0=>?_)
   ·refine⟨_,rfl,.inr ⟨a,cl,[],rfl,rfl,hS,hb,?_⟩⟩
    refine⟨_,rfl,T.Du.sub T.Ck,fun ea ne=>?_⟩
    obtain⟨H2,e2,r⟩:=go ne
    rw[← e2]
    refine⟨_,rfl,?_⟩
    exact rest ea H2 r
   refine⟨_,rfl,rfl,_,rfl,?_⟩
   refine DR (fun h1=>?_) (fun h1=>?_)
   ·refine⟨_,rfl,_,rfl,.inr (.inl ⟨a,cl,[x],rfl,rfl,hS,hb,?_⟩)⟩
    refine⟨_,rfl,T.Du.sub T.Ck,fun ea ne=>?_⟩
    obtain⟨H2,e2,r⟩:=go ne
    rw[← e2]
    refine⟨_,rfl,?_⟩
    exact rest ea H2 r
   refine⟨_,rfl,rfl,_,rfl,?_⟩
   refine DR (fun h2=>?_) (fun h2=>?_)
   ·refine⟨_,rfl,_,rfl,.inr (.inl ⟨a,cl,[x],rfl,rfl,hS,hb,?_⟩)⟩
    refine⟨_,rfl,T.Du.sub T.Ck,fun ea ne=>?_⟩
    obtain⟨H2,e2,r⟩:=go ne
    rw[← e2]
    refine⟨_,rfl,?_⟩
    exact rest ea H2 r
   ·refine⟨_,rfl,_,rfl,.inr (.inl ⟨a,cl,[x],rfl,rfl,hS,hb,?_⟩)⟩
    refine⟨_,rfl,T.Du.sub T.Ck,fun ea ne=>?_⟩
    obtain⟨H2,e2,r⟩:=go ne
    rw[← e2]
    refine⟨_,rfl,?_⟩
    exact rest ea H2 r
  rintro ea H2 ⟨he,x2,tb2⟩
  refine⟨_,rfl,rfl,_,rfl,?_⟩
  refine Iu (fun z=>by cases z) ?_
  refine⟨_,rfl,(by show 7≤sizeLine;decide),fun q1 nq1=>?_⟩
  have s3:Bl H2 (upd H2 q1 (.tup ([t.BR,t.Ar,t.Ba,t.Av,t.Br,t.Aw,t.Ax].map V.ref))):=.upd nq1
  have g3:(upd H2 q1 (.tup ([t.BR,t.Ar,t.Ba,t.Av,t.Br,t.Aw,t.Ax].map V.ref))) q1=some (.tup ([t.BR,t.Ar,t.Ba,t.Av,t.Br,t.Aw,t.Ax].map V.ref)):=Ae
  have e3:upd H2 q1 (.tup [.ref t.BR,.ref t.Ar,.ref t.Ba,.ref t.Av,.ref t.Br,.ref t.Aw,.ref t.Ax])=upd H2 q1 (.tup ([t.BR,t.Ar,t.Ba,t.Av,t.Br,t.Aw,t.Ax].map V.ref)):=rfl
  rw[e3]
  generalize upd H2 q1 (.tup ([t.BR,t.Ar,t.Ba,t.Av,t.Br,t.Aw,t.Ax].map V.ref))=H3 at s3 g3 ⊢
  have he3:=s3 _ _ he
  have a7:PySem.W.kitAny K (.ref t.Ai) ([t.BR,t.Ar,t.Ba,t.Av,t.Br,t.Aw,t.Ax].map Value.ref)=some false:=by
   refine AdJ fun c hc=>?_
   simp only [AsY,At3,Ata,Atb,or_false] at hc
   rcases hc with rfl | rfl | rfl | rfl | rfl | rfl | rfl
   ·exact Dl T.Az T.AiF T.HX
   ·exact Dl T.Az T.AdB T.G4
   ·exact Dl T.Az T.AeU T.GZ
   ·exact Dl T.Az T.AdC T.G5
   ·exact Dl T.Az T.AgX T.Hs
   ·exact Dl T.Az T.AdE T.G6
   ·exact Dl T.Az T.AdF T.G7
  refine⟨ea,t.Ai,q1,[t.BR,t.Ar,t.Ba,t.Av,t.Br,t.Aw,t.Ax],false,rfl,he3,T.Du.c,g3,a7,_,rfl,XJ ?_⟩
  refine⟨_,rfl,(by show 4≤sizeLine;decide),fun q2 nq2=>?_⟩
  have s4:Bl H3 (upd H3 q2 (.tup ([t.Bb,t.Am,t.Bc,t.BV].map V.ref))):=.upd nq2
  have g4:(upd H3 q2 (.tup ([t.Bb,t.Am,t.Bc,t.BV].map V.ref))) q2=some (.tup ([t.Bb,t.Am,t.Bc,t.BV].map V.ref)):=Ae
  have e4:upd H3 q2 (.tup [.ref t.Bb,.ref t.Am,.ref t.Bc,.ref t.BV])=upd H3 q2 (.tup ([t.Bb,t.Am,t.Bc,t.BV].map V.ref)):=rfl
  rw[e4]
  generalize upd H3 q2 (.tup ([t.Bb,t.Am,t.Bc,t.BV].map V.ref))=H4 at s4 g4 ⊢
  have he4:=s4 _ _ he3
  have a4:PySem.W.kitAny K (.ref t.Ai) ([t.Bb,t.Am,t.Bc,t.BV].map Value.ref)=some false:=by
   refine AdJ fun c hc=>?_
   simp only [AsY,At3,Ata,Atb,or_false] at hc
   rcases hc with rfl | rfl | rfl | rfl
   ·exact Dl T.Az T.AeV T.Ha
   ·exact Dl T.Az T.Aci T.FZ
   ·exact Dl T.Az T.AeW T.Hb
   ·exact Dl T.Az T.AiG T.HY
  refine⟨ea,t.Ai,q2,[t.Bb,t.Am,t.Bc,t.BV],false,rfl,he4,T.Du.c,g4,a4,_,rfl,XJ ?_⟩
  refine⟨_,rfl,ea,t.Ai,true,he4,T.Du.c,.inl ⟨_,rfl,Akm T.Du⟩,_,rfl,XJ ?_⟩
  refine⟨_,rfl,ea,rfl,he4,_,rfl,?_⟩
  have kk:=k H4 (x2.trans (s3.trans s4).toT) (tb2.same (s3.trans s4))
  refine⟨_,rfl,ea,t.Ai,true,he4,T.Du.c,.inr ⟨t.Ai,rfl,Dl T.Az T.Du T.Az⟩,_,rfl,Adb ?_⟩
  refine⟨_,rfl,ea,t.Ai,false,he4,T.Du.c,.inr ⟨t.Af,rfl,Dl T.Az T.Dg T.FW⟩,_,rfl,Adb ?_⟩
  refine⟨_,rfl,rfl,_,rfl,?_⟩
  exact Adg rfl kk
def AoE (K:PySem.W.Frag)(tT:Addr):Sp:=fun vs H Q _=>∃(way:Int) (a b:Addr) (cl:List (List Nat)) (m n:Nat) (sh:List Int),vs=[.int way,.ref a,.ref b]∧way≠0∧SqL K H a (vS cl)∧Cl cl m n∧SqL K H b (vI sh)∧¬Aa5 n sh∧Tb tT "layers_of.<locals>.<lambda>" H∧∀ H',Ea H H'→Tb tT "layers_of.<locals>.<lambda>" H'→Q (.str "NoShuttle") H'
theorem AfK{tc tT:Addr}(T:Txt K mg t)(hcd:t.CZ.code=.ref tc)(hCd:PySem.W.CodeHd base tc tT)(hBm:Bm mg base):Bp P w K mg base CX0 10 t.Gx t.KD ["way", "given", "shuttles"] (AoE K tT):=by
 have Js:Bp P w K mg base (CX1 P w) 8 t.DP t.Ig _ _:=Iv (KC (NP T hcd hCd hBm)) (Ms T)
 have Dh:Bp P w K mg base (CX1 P w) 8 t.CK t.Ez _ _:=Iv (KC (LC T hcd hCd hBm)) (Iv (JW T) (JX T))
 have NT:Bp P w K mg base (CX1 P w) 9 t.FP t.Jz _ _:=Iv (KC (Vz T hcd hCd hBm)) (Iv (Sw T) (Sx T))
 have LK:Bp P w K mg base (CX1 P w) 9 t.Eu t.Iz _ _:=Iv (KC (Sv T hcd hCd hBm)) (Iv (QV T) (QW T))
 have Jd:Bp P w K mg base CX0 1 t.Cj t.Hr _ _:=JV T
 have J1:Bp P w K mg base CX0 1 t.BW t.Gz _ _:=Jl T
 refine T.HW.F.ok CW (fun vs H Q E h=>?_) (fun cdv A outer s H vs Q E hr h=>?_)
 ·obtain⟨way,a,b,cl,m,n,sh,rfl,_⟩:=h
  rfl
 ·obtain⟨way,a,b,cl,m,n,sh,rfl,w0,hS,C,hB,hb,tb,k⟩:=h
  refine⟨_,(Ac (Aq (i:=3) CW.nd rfl (Or.inl rfl) Abq)
   (Ac (Ah4 (j:=4) ⟨rfl,rfl,rfl⟩ rfl (DG (Sy (An Fi (pv 0) Ag (Be _)) (DG (HQ (HN (Js.mono (by decide)) hr rfl T.Fp.m T.Fp.F.kp T.Fp.b .nil (Aa (pv 1) Ad)))) (DG (Sy (An Fi (pv 0) Ag (Be _)) (DG (HQ (HN (Dh.mono (by decide)) hr rfl T.Ca.m T.Ca.F.kp T.Ca.b .nil (Aa (pv 1) (Aa (pv 2) Ad))))) (DG (Sy (An Fi (pv 0) Ag (Be _)) (DG (HQ (HN (NT.mono (by decide)) hr rfl T.HS.m T.HS.F.kp T.HS.b .nil (Aa (pv 1) (Aa (pv 2) Ad))))) (DG (HQ (HN (LK.mono (by decide)) hr rfl T.GJ.m T.GJ.F.kp T.GJ.b .nil (Aa (pv 1) (Aa (pv 2) Ad))))))))))) CW.nd rfl rfl rfl T.Sq T.Ss.q Adn (fun _=>(Ah (Aq (i:=3) CW.nd rfl (Or.inl rfl) (pv 4)))))
   (Ac (Cu (An Ahx (pv 3) Abq (Be _))
    (Ah (BP Bx))
    Bo)
   (Ac (Cu (Hg (Ao (Nr (K:=K)) rfl T.Bu Bq (Aa (pv 3) (Aa (K5 (Aa (Bj (v:=.ref t.BR) rfl T.AfB rfl) (Aa (Bj (v:=.ref t.Ar) rfl T.Y7 rfl) (Aa (Bj (v:=.ref t.Ba) rfl T.Ab9 rfl) (Aa (Bj (v:=.ref t.Av) rfl T.Y8 rfl) (Aa (Bj (v:=.ref t.Br) rfl T.AdD rfl) (Aa (Bj (v:=.ref t.Aw) rfl T.Y9 rfl) (Aa (Bj (v:=.ref t.Ax) rfl T.YB rfl) Ad)))))))) Ad))))
    (Ah (BP Bx))
    Bo)
   (Ac (Cu (PW.pt (pw_or (Hg (Ao (Nr (K:=K)) rfl T.Bu Bq (Aa (pv 3) (Aa (K5 (Aa (Bj (v:=.ref t.Bb) rfl T.AbA rfl) (Aa (Bj (v:=.ref t.Am) rfl T.Vw rfl) (Aa (Bj (v:=.ref t.Bc) rfl T.AbB rfl) (Aa (Bj (v:=.ref t.BV) rfl T.AfC rfl) Ad))))) Ad)))) (pw_or1 (RL (Hg (Ao (Gr (K:=K)) rfl T.Bu Bq (Aa (pv 3) (Aa (Afd (v:=.ty "ValueError") rfl T.Sh QR rfl) Ad))))))))
    (Ah (BP Bx))
    Bo)
   (Ac (Aq (i:=5) CW.nd rfl (Or.inl rfl) (Ado (pv 3) T.Dg.c T.Vv.m (J1.mono (by decide)) hr T.Vv.b Fz))
   (Ac (Cu (PW.pt (pw_and (Hg (Ao (Gr (K:=K)) rfl T.Bu Bq (Aa (pv 3) (Aa (Bj (v:=.ref t.Ai) rfl T.Ih rfl) Ad)))) (pw_and (RL (Hg (Ao (Gr (K:=K)) rfl T.Bu Bq (Aa (pv 3) (Aa (Bj (v:=.ref t.Af) rfl T.Hw rfl) Ad))))) (pw_and1 (An Fi (pv 5) Bx (Be _))))))
    (Ah (BP Bx))
    Bo)
   (Ac (Cu (PW.pt (pw_and (Hg (Ao (Gr (K:=K)) rfl T.Bu Bq (Aa (pv 3) (Aa (Bj (v:=.ref t.Af) rfl T.Hw rfl) Ad)))) (pw_and (RL (Hg (Ao (Gr (K:=K)) rfl T.Bu Bq (Aa (pv 3) (Aa (Bj (v:=.ref t.Ai) rfl T.Ih rfl) Ad))))) (pw_and1 (An Fi (pv 5) Bx (Be _))))))
    (Ah (BP Bx))
    Bo)
   (Ah (BP Bx)))))))))),?_⟩
  apply Ahd (fun ea H2=>H2 ea=some (exH t.Af ea)∧Ea H H2∧Tb tT "layers_of.<locals>.<lambda>" H2)
  ·intro rest
   have go:∀{H1:Hp} {ea:Addr},Bl H H1→H1 ea=none→∃ H2,H2=upd H1 ea (exH t.Af ea)∧H2 ea=some (exH t.Af ea)∧Ea H H2∧Tb tT "layers_of.<locals>.<lambda>" H2:=fun s1 ne=>⟨_,rfl,Ae,(s1.trans (Bl.upd ne)).toT,tb.same (s1.trans (.upd ne))⟩
   refine⟨_,rfl,rfl,_,rfl,?_⟩
   refine DR (fun h0=>absurd (Kz.mp h0) w0) (fun h0=>?_)
   refine⟨_,rfl,rfl,_,rfl,?_⟩
   refine DR (fun h1=>?_) (fun h1=>?_)
   ·refine⟨_,rfl,_,rfl,.inr (.inr ⟨a,b,cl,m,n,sh,rfl,hS,C,hB,hb,fun H1 s1=>?_⟩)⟩
    refine⟨_,rfl,T.Dg.sub T.Cr,fun ea ne=>?_⟩
    obtain⟨H2,e2,r⟩:=go s1 ne
    rw[← e2]
    refine⟨_,rfl,?_⟩
    exact rest ea H2 r
   refine⟨_,rfl,rfl,_,rfl,?_⟩
   refine DR (fun h2=>?_) (fun h2=>?_)
   ·refine⟨_,rfl,_,rfl,.inr (.inr ⟨a,b,cl,m,n,sh,rfl,hS,C,hB,hb,fun H1 s1=>?_⟩)⟩
    refine⟨_,rfl,T.Dg.sub T.Cr,fun ea ne=>?_⟩
    obtain⟨H2,e2,r⟩:=go s1 ne
    rw[← e2]
    refine⟨_,rfl,?_⟩
    exact rest ea H2 r
   ·refine⟨_,rfl,_,rfl,.inr (.inr ⟨a,b,cl,m,n,sh,rfl,hS,C,hB,hb,fun H1 s1=>?_⟩)⟩
    refine⟨_,rfl,T.Dg.sub T.Cr,fun ea ne=>?_⟩
    obtain⟨H2,e2,r⟩:=go s1 ne
    rw[← e2]
    refine⟨_,rfl,?_⟩
    exact rest ea H2 r
  rintro ea H2 ⟨he,x2,tb2⟩
  refine⟨_,rfl,rfl,_,rfl,?_⟩
  refine Iu (fun z=>by cases z) ?_
  refine⟨_,rfl,(by show 7≤sizeLine;decide),fun q1 nq1=>?_⟩
  have s3:Bl H2 (upd H2 q1 (.tup ([t.BR,t.Ar,t.Ba,t.Av,t.Br,t.Aw,t.Ax].map V.ref))):=.upd nq1
  have g3:(upd H2 q1 (.tup ([t.BR,t.Ar,t.Ba,t.Av,t.Br,t.Aw,t.Ax].map V.ref))) q1=some (.tup ([t.BR,t.Ar,t.Ba,t.Av,t.Br,t.Aw,t.Ax].map V.ref)):=Ae
  have e3:upd H2 q1 (.tup [.ref t.BR,.ref t.Ar,.ref t.Ba,.ref t.Av,.ref t.Br,.ref t.Aw,.ref t.Ax])=upd H2 q1 (.tup ([t.BR,t.Ar,t.Ba,t.Av,t.Br,t.Aw,t.Ax].map V.ref)):=rfl
  rw[e3]
  generalize upd H2 q1 (.tup ([t.BR,t.Ar,t.Ba,t.Av,t.Br,t.Aw,t.Ax].map V.ref))=H3 at s3 g3 ⊢
  have he3:=s3 _ _ he
  have a7:PySem.W.kitAny K (.ref t.Af) ([t.BR,t.Ar,t.Ba,t.Av,t.Br,t.Aw,t.Ax].map Value.ref)=some false:=by
   refine AdJ fun c hc=>?_
   simp only [AsY,At3,Ata,Atb,or_false] at hc
   rcases hc with rfl | rfl | rfl | rfl | rfl | rfl | rfl
   ·exact Dl T.Al T.AiF T.Hd
   ·exact Dl T.Al T.AdB T.Fq
   ·exact Dl T.Al T.AeU T.Ga
   ·exact Dl T.Al T.AdC T.Ft
   ·exact Dl T.Al T.AgX T.G8
   ·exact Dl T.Al T.AdE T.Fv
   ·exact Dl T.Al T.AdF T.Fy
  refine⟨ea,t.Af,q1,[t.BR,t.Ar,t.Ba,t.Av,t.Br,t.Aw,t.Ax],false,rfl,he3,T.Dg.c,g3,a7,_,rfl,XJ ?_⟩
  refine⟨_,rfl,(by show 4≤sizeLine;decide),fun q2 nq2=>?_⟩
  have s4:Bl H3 (upd H3 q2 (.tup ([t.Bb,t.Am,t.Bc,t.BV].map V.ref))):=.upd nq2
  have g4:(upd H3 q2 (.tup ([t.Bb,t.Am,t.Bc,t.BV].map V.ref))) q2=some (.tup ([t.Bb,t.Am,t.Bc,t.BV].map V.ref)):=Ae
  have e4:upd H3 q2 (.tup [.ref t.Bb,.ref t.Am,.ref t.Bc,.ref t.BV])=upd H3 q2 (.tup ([t.Bb,t.Am,t.Bc,t.BV].map V.ref)):=rfl
  rw[e4]
  generalize upd H3 q2 (.tup ([t.Bb,t.Am,t.Bc,t.BV].map V.ref))=H4 at s4 g4 ⊢
  have he4:=s4 _ _ he3
  have a4:PySem.W.kitAny K (.ref t.Af) ([t.Bb,t.Am,t.Bc,t.BV].map Value.ref)=some false:=by
   refine AdJ fun c hc=>?_
   simp only [AsY,At3,Ata,Atb,or_false] at hc
   rcases hc with rfl | rfl | rfl | rfl
   ·exact Dl T.Al T.AeV T.Gb
   ·exact Dl T.Al T.Aci T.Ex
   ·exact Dl T.Al T.AeW T.Gd
   ·exact Dl T.Al T.AiG T.Hf
  refine⟨ea,t.Af,q2,[t.Bb,t.Am,t.Bc,t.BV],false,rfl,he4,T.Dg.c,g4,a4,_,rfl,XJ ?_⟩
  refine⟨_,rfl,ea,t.Af,true,he4,T.Dg.c,.inl ⟨_,rfl,Akm T.Dg⟩,_,rfl,XJ ?_⟩
  refine⟨_,rfl,ea,rfl,he4,_,rfl,?_⟩
  have kk:=k H4 (x2.trans (s3.trans s4).toT) (tb2.same (s3.trans s4))
  refine⟨_,rfl,ea,t.Af,false,he4,T.Dg.c,.inr ⟨t.Ai,rfl,Dl T.Al T.Du T.Er⟩,_,rfl,XJ (XJ ?_)⟩
  refine⟨_,rfl,ea,t.Af,true,he4,T.Dg.c,.inr ⟨t.Af,rfl,Dl T.Al T.Dg T.Al⟩,_,rfl,Adb ?_⟩
  refine⟨_,rfl,ea,t.Af,false,he4,T.Dg.c,.inr ⟨t.Ai,rfl,Dl T.Al T.Du T.Er⟩,_,rfl,Adb ?_⟩
  refine⟨_,rfl,rfl,_,rfl,?_⟩
  exact Adg rfl kk
theorem Alv{G:Prop}{R:Nat→Prop}(C:Nat→Prop)(main:(∀ m,C m→R m)→G)(rest:∀ m,C m→R m):G:=main rest
theorem Alw{G:Prop}{R:Int→Prop}(main:(∀ z,R z)→G)(rest:∀ z,R z):G:=main rest
theorem AhR(c:Int){z:Int}(hz:0<z){y:Nat}(hz2:z≤(y:Int)):∃ m:Nat,1+c%z=(m:Int)∧1≤m∧m≤y:=by
 have h1:=AtT c (show z≠0 by omega)
 have h2:=AtS c hz
 exact⟨(1+c%z).toNat,by omega,by omega,by omega⟩
def Num (ks:List Int)(m:Nat):Prop:=ks.length=m∧∀ k∈ks,0≤k∧k<1000000
theorem Num.at{ks:List Int}{m:Nat}(h:Num ks m){i:Int}(h0:0≤i)(hi:i<m):∃ z:Int,atI (vI ks) i=some (.int z)∧0≤z∧z<1000000:=by
 have hlt:i.toNat<ks.length:=by rw[h.1];omega
 exact⟨ks[i.toNat],Dk h0 (Ys (AsJ hlt)),h.2 _ (AsV hlt)⟩
theorem Num.mod(z:Int):0≤z%1000000∧z%1000000<1000000:=⟨AtT _ (by decide),AtS _ (by decide)⟩
def AmQ (K:PySem.W.Frag):Sp:=fun vs H Q _=>∃(a:Addr) (ns:List Int) (m:Nat),vs=[.ref a,.int (m:Int)]∧SqL K H a (vI ns)∧ns.length≤63∧1≤m∧m≤1000 ∧
 ∀(l:Addr) (ks:List Int) (H':Hp),Bl H H'→H l=none→H' l=some (.lst (vI ks))→Num ks m→Q (.ref l) H'
theorem AdK(T:Txt K mg t):Bp P w K mg base CX0 1 t.Gk t.QT ["script", "many"] (AmQ K):=by
 refine T.Pk.F.ok Gv (fun vs H Q E h=>?_) (fun cdv A outer s H vs Q E hr h=>?_)
 ·obtain⟨a,ns,m,rfl,_⟩:=h
  rfl
 ·obtain⟨a,ns,m,rfl,hS,hl,hm,hm2,k⟩:=h
  have hsz:sizeLine=16777216:=sizeLine_eq
  refine⟨_,(Ac (Aq (i:=2) Gv.nd rfl (Or.inl rfl) (RM Ad))
   (Ac (Aq (i:=3) Gv.nd rfl (Or.inl rfl) Ag)
   (Ac (Cu (An Yj (Ao (Bt (K:=K)) rfl T.Ir Ge (Aa (pv 0) Ad)) Ag (Be _))
    (Ah (Aq (i:=3) Gv.nd rfl (Or.inl rfl) (Bd Gq Ag (Bd Dv (Bv (Bg (K:=K)) (pv 0) Ag (fun _ _=>rfl)) Ag))))
    Bo)
   (Ac (Hx PassesOwn.never rfl (Gm rfl T.GX (Aa (pv 1) Ad)) (Dj (i:=4) Gv.nd rfl (Or.inl rfl))
    (Ac (Aq (i:=3) Gv.nd rfl (Or.inl rfl) (Bd Dv (Bd QQ (pv 3) Ag) Ag))
    (Ah (Ja (Mr (K:=K) PySem.F.plainAttrs_list PySem.F.slot_list_append PySem.F.type_list_append Np (pv 2) (Aa (Bd Dv (Bd Xn (pv 3) Ag) Ag) Ad))))))
   (Ac (Hx PassesOwn.never rfl (Gm rfl T.GX (Aa (Ao (Bt (K:=K)) rfl T.Ir Ge (Aa (pv 0) Ad)) Ad)) (Dj (i:=4) Gv.nd rfl (Or.inl rfl))
    (Ah (Afh (Bd Dv (Bd Gq (Bv (Bg (K:=K)) (pv 2) (Bd Dv (pv 4) (pv 1)) (fun _ _=>rfl)) (Bv (Bg (K:=K)) (pv 0) (pv 4) (fun _ _=>rfl))) Ag) (Afg (pv 2) (Bd Dv (pv 4) (pv 1)) set_list))))
   (Ah (BP (pv 2)))))))),?_⟩
  refine⟨AsM _,fun q hq=>?_⟩
  have s1:Bl H (upd H q (.lst [])):=.upd hq
  apply Alw
  ·intro rest
   refine⟨_,rfl,_,_,rfl,.inl (s1.seq hS),_,_,rfl,rfl,_,rfl,?_⟩
   refine DR (fun h1=>?_) (fun h1=>?_)
   ·have hlt:0<ns.length:=by rw[Bs] at h1;omega
    refine⟨_,rfl,_,_,_,_,rfl,rfl,s1.seq hS,Dk (by decide) (Ys (AsJ hlt)),_,_,rfl,rfl,(by show(0:Int)<2147483646;decide),_,_,rfl,rfl,?_⟩
    obtain⟨z,ez⟩:∃ z:Int,z=(1:Int)+(ns[0]'hlt:Int)%(2147483646:Int):=⟨_,rfl⟩
    dsimp only
    rw[← ez]
    exact rest z
   ·exact rest 1
  ·intro z0
   refine⟨_,rfl,_,rfl,(by omega),(by omega),?_⟩
   rw[Ate]
   refine Jb (lo:=0) (n:=m) (fun i σ H2=>∃(z:Int) (ks:List Int) (v:Option V),σ=[some (.ref a),some (.int (m:Int)),some (.ref q),some (.int z),v]∧Bl H H2∧H2 q=some (.lst (vI ks))∧Num ks i)
    ⟨z0,[],none,rfl,s1,Ae,rfl,fun _ h=>absurd h (by simp)⟩ ?_ ?_
   ·rintro i σ H2 hi ⟨z,ks,v,rfl,s2,hq2,hkl⟩
    refine⟨_,rfl,_,_,rfl,rfl,.inr ⟨by decide,by decide⟩,_,_,rfl,rfl,(by show(0:Int)<2147483647;decide),?_⟩
    refine⟨_,rfl,.inl ⟨rfl,_,SqL.of hq2⟩,_,rfl,_,_,rfl,rfl,⟨by decide,by decide⟩,_,_,rfl,rfl,(by show(0:Int)<1000000;decide),_,_,_,rfl,rfl,hq2,(by rw[Bs,hkl.1];omega),?_⟩
    rw[Yt]
    refine⟨_,_,_,rfl,s2.over hq,Ae,by rw[AsN,hkl.1];rfl,fun x hx=>?_⟩
    rcases List.mem_append.mp hx with h | h
    ·exact hkl.2 x h
    ·rw[List.mem_singleton.mp h];exact Num.mod _
   ·rintro σ H2 ⟨z,ks,v,rfl,s2,hq2,hkl⟩
    refine⟨_,rfl,_,_,rfl,.inl (s2.seq hS),_,rfl,(by omega),(by rw[Bs];omega),?_⟩
    rw[Ate,Bs]
    refine Jb (lo:=0) (n:=ns.length) (fun i σ H2=>∃(ks:List Int) (v:Option V),σ=[some (.ref a),some (.int (m:Int)),some (.ref q),some (.int z),v]∧Bl H H2∧H2 q=some (.lst (vI ks))∧Num ks m)
     ⟨ks,v,rfl,s2,hq2,hkl⟩ ?_ ?_
    ·rintro i σ H3 hi ⟨ks,v,rfl,s3,hq3,hkl⟩
     have hix:(0+(i:Int))%(m:Int)=((i%m:Nat):Int):=by rw[AtH];omega
     have hlt:i%m<ks.length:=by rw[hkl.1];exact AtC _ (by omega)
     have e1:(vI ks)[((0+(i:Int))%(m:Int)).toNat]?=some (.int ks[i%m]):=by
      rw[hix,Ate]
      exact Ys (AsJ hlt)
     have e2:(vI ns)[(0+(i:Int)).toNat]?=some (.int ns[i]):=by
      rw[AtH,Ate]
      exact Ys (AsJ hi)
     have n1:0≤(0+(i:Int))%(m:Int):=by rw[hix];omega
     refine⟨_,rfl,_,rfl,_,rfl,_,_,rfl,rfl,(by show(0:Int)<m;omega),?_⟩
     refine⟨_,_,_,_,rfl,rfl,SqL.of hq3,Dk n1 e1,?_⟩
     refine⟨_,rfl,_,rfl,_,_,_,_,rfl,rfl,s3.seq hS,Dk (by omega) e2,?_⟩
     refine⟨_,_,rfl,rfl,?_⟩
     refine⟨_,_,rfl,rfl,(by show(0:Int)<1000000;decide),?_⟩
     refine⟨_,rfl,_,rfl,_,rfl,_,_,rfl,rfl,(by show(0:Int)<m;omega),?_⟩
     refine⟨_,_,_,_,rfl,rfl,hq3,Afu n1 (by rw[Bs,hkl.1,hix];have:=AtC i (show m>0 by omega);omega),?_⟩
     rw[Aft]
     refine⟨_,_,rfl,s3.over hq,Ae,by rw[Aui];exact hkl.1,fun x hx=>?_⟩
     rcases List.mem_or_eq_of_mem_set hx with h | h
     ·exact hkl.2 x h
     ·rw[h];exact Num.mod _
    ·rintro σ H3 ⟨ks,v,rfl,s3,hq3,hkl⟩
     exact⟨_,rfl,k q ks H3 s3 hq hq3 hkl⟩
theorem AoF{u:List Nat}{c:Nat}(h:∀ d∈u,Sg d)(hc:Sg c):∀ d∈u++[c],Sg d:=fun d hd=>by
 rcases List.mem_append.mp hd with h1 | h1
 ·exact h d h1
 ·rw[List.mem_singleton.mp h1];exact hc
theorem Alx{z:Int}(h:z=0∨z=1):∃ c:Nat,atI ((".#" : Str)).cps.toList z=some c∧Sg c:=by
 rcases h with h | h <;> rw[h]
 ·exact⟨46,by decide +kernel,.inr rfl⟩
 ·exact⟨35,by decide +kernel,.inl rfl⟩
theorem Aly{G:Prop}{R:Int→Option V→Option V→Prop}(C:Int→Prop)(main:(∀ z u v,C z→R z u v)→G)(rest:∀ z u v,C z→R z u v):G:=main rest
def AjH (K:PySem.W.Frag):Sp:=fun vs H Q _=>∃(a:Addr) (ks:List Int) (m n y:Nat),vs=[.ref a,.int (m:Int),.int (n:Int),.int (y:Int)]∧SqL K H a (vI ks)∧Num ks 63∧1≤m∧m≤40∧1≤n∧n≤40∧1≤y ∧
 ∀(l:Addr) (cl:List (List Nat)) (H':Hp),Bl H H'→H l=none→H' l=some (.lst (vS cl))→Cl cl m n→Q (.ref l) H'
theorem AfL(T:Txt K mg t):Bp P w K mg base CX0 1 t.Hv t.Vu ["numbers", "wide", "high", "layered"] (AjH K):=by
 refine T.Xy.F.ok Ej (fun vs H Q E h=>?_) (fun cdv A outer s H vs Q E hr h=>?_)
 ·obtain⟨a,ks,m,n,y,rfl,_⟩:=h
  rfl
 ·obtain⟨a,ks,m,n,y,rfl,hS,hN,m1,m40,n1,n40,y1,k⟩:=h
  have hsz:sizeLine=16777216:=sizeLine_eq
  refine⟨_,(Ac (Aq (i:=4) Ej.nd rfl (Or.inl rfl) (RM Ad))
   (Ac (Hx PassesOwn.never rfl (Gm rfl T.GX (Aa (pv 2) Ad)) (Dj (i:=5) Ej.nd rfl (Or.inl rfl))
    (Ac (Aq (i:=6) Ej.nd rfl (Or.inl rfl) Bx)
    (Ac (Hx PassesOwn.never rfl (Gm rfl T.GX (Aa (pv 1) Ad)) (Dj (i:=7) Ej.nd rfl (Or.inl rfl))
     (Ac (Aq (i:=8) Ej.nd rfl (Or.inl rfl) (Bd Gq (Bd QQ (pv 5) Ag) (pv 7)))
     (Ac (Aq (i:=9) Ej.nd rfl (Or.inl rfl) (Bd Dv (Bd Xn (Bv (Bg (K:=K)) (pv 0) (Bd Gq Ag (Bd Dv (pv 8) Ag)) (fun _ _=>rfl)) (Bd Gq Ag (Bd QQ Ag (Bd Xn (pv 8) Ag)))) Ag))
     (Ac (Cu (An Yj (pv 3) Ag (Be _))
      (Ac (Aq (i:=10) Ej.nd rfl (Or.inl rfl) (Bd Dv (Bd Xn (Bv (Bg (K:=K)) (pv 0) (Bd Gq Ag (Bd Dv (Bd QQ Ag (pv 7)) Ag)) (fun _ _=>rfl)) Ag) (pv 3)))
      (Ac (Aq (i:=11) Ej.nd rfl (Or.inl rfl) (Bd Dv (Bd Xn (Bv (Bg (K:=K)) (pv 0) (Bd Gq Ag (Bd Dv (Bd Gq (Bd QQ Ag (pv 5)) Ag) Ag)) (fun _ _=>rfl)) Ag) (pv 3)))
      (Ah (Cu (An Aad (pv 10) (pv 11) (Be _))
       (Ah (Aq (i:=9) Ej.nd rfl (Or.inl rfl) (Ib Ajb rfl T.ApT AnR (Aa (AlM Acd (pv 10) (pv 11) (Be _)) Ad))))
       Bo))))
      Bo)
     (Ah (Aq (i:=6) Ej.nd rfl (Or.inl rfl) (Bd Nu (pv 6) (Bv Ada Bx (pv 9) (fun _ _=>rfl)))))))))
    (Ah (Ja (Mr (K:=K) PySem.F.plainAttrs_list PySem.F.slot_list_append PySem.F.type_list_append Np (pv 4) (Aa (pv 6) Ad)))))))
   (Ah (BP (pv 4))))),?_⟩
  refine⟨AsM _,fun q hq=>?_⟩
  have s1:Bl H (upd H q (.lst [])):=.upd hq
  refine⟨_,rfl,_,rfl,(by omega),(by omega),?_⟩
  rw[Ate]
  refine Jb (lo:=0) (n:=n) (fun i σ H2=>∃(cl:List (List Nat)) (v5 v6 v7 v8 v9 v10 v11:Option V),σ=[some (.ref a),some (.int (m:Int)),some (.int (n:Int)),some (.int (y:Int)),some (.ref q),v5,v6,v7,v8,v9,v10,v11]∧Bl H H2∧H2 q=some (.lst (vS cl))∧cl.length=i∧(∀ t∈cl,t.length=m∧∀ c∈t,Sg c))
   ⟨[],none,none,none,none,none,none,none,rfl,s1,Ae,rfl,fun _ h=>absurd h (by simp)⟩ ?_ ?_
  ·rintro i σ H2 hi ⟨cl,v5,v6,v7,v8,v9,v10,v11,rfl,s2,hq2,hcl,hcm⟩
   have S2:=s2.seq hS
   refine⟨_,rfl,_,rfl,(by omega),(by omega),?_⟩
   rw[Ate]
   refine Jb (lo:=0) (n:=m) (fun j σ H3=>∃(u:List Nat) (v7 v8 v9 v10 v11:Option V),σ=[some (.ref a),some (.int (m:Int)),some (.int (n:Int)),some (.int (y:Int)),some (.ref q),some (.int (0+(i:Int))),some (.str (tx u)),v7,v8,v9,v10,v11]∧H3=H2∧u.length=j∧∀ c∈u,Sg c)
    ⟨[],v7,v8,v9,v10,v11,by rw[show(("" : Str))=tx [] from by decide +kernel];rfl,rfl,rfl,fun _ h=>absurd h (by simp)⟩ ?_ ?_
   ·rintro j σ H3 hj ⟨u,v7,v8,v9,v10,v11,rfl,rfl,hul,hus⟩
    refine⟨_,rfl,_,_,rfl,rfl,.inr ⟨by decide,by decide⟩,_,rfl,_,_,rfl,rfl,?_⟩
    obtain⟨x,ex⟩:∃ x:Int,x=(0+(i:Int))*40+(0+(j:Int)):=⟨_,rfl⟩
    have x0:0≤x:=by omega
    have x1:x<1700:=by omega
    dsimp only
    rw[← ex]
    have b1:=AtT x (show(55:Int)≠0 by decide)
    have b2:=AtS x (show(0:Int)<55 by decide)
    obtain⟨z,ez,_⟩:=hN.at (i:=8+x%55) (by omega) (by omega)
    have d0:0≤x / 55:=Int.ediv_nonneg x0 (by decide)
    have d1:x / 55≤1601600:=by omega
    refine⟨_,rfl,_,rfl,_,_,rfl,rfl,(by show(0:Int)<55;decide),_,_,rfl,rfl,_,_,_,_,rfl,rfl,S2,ez,?_⟩
    refine⟨_,rfl,_,_,rfl,rfl,⟨by decide,by decide⟩,_,_,rfl,rfl,.inl ⟨by decide,by decide⟩,_,_,rfl,rfl,_,_,rfl,rfl,⟨by omega,by omega⟩,_,_,rfl,rfl,(by show(0:Int)<2;decide),?_⟩
    have hb:z / (1+2*(x / 55))%2=0∨z / (1+2*(x / 55))%2=1:=by omega
    dsimp only
    generalize z / (1+2*(x / 55))%2=bz at hb
    apply Aly (fun z=>z=0∨z=1)
    ·intro rest
     refine⟨_,rfl,_,_,rfl,rfl,_,rfl,?_⟩
     refine DR ?tt ?ff
     case ff =>
      intro _
      obtain⟨b',e1⟩:∃ b',b'=bz:=⟨_,rfl⟩
      obtain⟨u10,e2⟩:∃ u10,u10=v10:=⟨_,rfl⟩
      obtain⟨u11,e3⟩:∃ u11,u11=v11:=⟨_,rfl⟩
      rw[← e1,← e2,← e3]
      exact rest b' u10 u11 (by rw[e1];exact hb)
     case tt =>
      intro _
      have c1:=AtT (3*(0+(j:Int))) (show(55:Int)≠0 by decide)
      have c2:=AtS (3*(0+(j:Int))) (show(0:Int)<55 by decide)
      obtain⟨p,ep,_⟩:=hN.at (i:=8+3*(0+(j:Int))%55) (by omega) (by omega)
      have c3:=AtT (3*(0+(i:Int))+1) (show(55:Int)≠0 by decide)
      have c4:=AtS (3*(0+(i:Int))+1) (show(0:Int)<55 by decide)
      obtain⟨r,er,_⟩:=hN.at (i:=8+(3*(0+(i:Int))+1)%55) (by omega) (by omega)
      refine⟨_,rfl,_,rfl,_,_,rfl,rfl,.inl ⟨by decide,by decide⟩,_,_,rfl,rfl,(by show(0:Int)<55;decide),_,_,rfl,rfl,_,_,_,_,rfl,rfl,S2,ep,_,_,rfl,rfl,⟨by decide,by decide⟩,_,rfl,_,_,rfl,rfl,(by show(0:Int)<(y:Int);omega),?_⟩
      refine⟨_,rfl,_,rfl,_,_,rfl,rfl,.inl ⟨by decide,by decide⟩,_,_,rfl,rfl,_,_,rfl,rfl,(by show(0:Int)<55;decide),_,_,rfl,rfl,_,_,_,_,rfl,rfl,S2,er,_,_,rfl,rfl,⟨by decide,by decide⟩,_,rfl,_,_,rfl,rfl,(by show(0:Int)<(y:Int);omega),?_⟩
      refine⟨_,rfl,_,rfl,rfl,_,rfl,?_⟩
      refine An2 (fun h=>?_) (fun h=>?_)
      ·refine⟨_,rfl,_,rfl,_,_,rfl,rfl,.inr ⟨_,rfl,?_⟩⟩
       exact rest _ _ _ (by split <;> simp)
      ·exact rest _ _ _ hb
    rintro bz u10 u11 hb
    obtain⟨c,ec,hc⟩:=Alx hb
    refine⟨_,rfl,_,rfl,_,_,_,rfl,rfl,(by decide +kernel),ec,_,_,rfl,rfl,?_,?_⟩
    ·rw[Ei,Yr,Ei,hul]
     show j+1≤sizeLine
     omega
    ·rw[Yr,Ade]
     exact⟨_,_,_,_,_,_,rfl,rfl,by rw[AsN,hul];rfl,AoF hus hc⟩
   ·rintro σ H3 ⟨u,v7,v8,v9,v10,v11,rfl,rfl,hul,hus⟩
    refine⟨_,rfl,.inl ⟨rfl,_,SqL.of hq2⟩,_,rfl,_,_,_,rfl,rfl,hq2,(by rw[Ij,hcl];omega),?_⟩
    rw[Yu]
    refine⟨_,_,_,_,_,_,_,_,rfl,s2.over hq,Ae,by rw[AsN,hcl];rfl,fun t ht=>?_⟩
    rcases List.mem_append.mp ht with h | h
    ·exact hcm t h
    ·rw[List.mem_singleton.mp h];exact⟨hul,hus⟩
  ·rintro σ H2 ⟨cl,v5,v6,v7,v8,v9,v10,v11,rfl,s2,hq2,hcl,hcm⟩
   exact⟨_,rfl,k q cl H2 s2 hq hq2 ⟨hcl,fun t ht=>(hcm t ht).1,fun t ht c hc=>(hcm t ht).2 c hc,m1,m40,n1,n40⟩⟩
theorem AiO{u:List Nat}{k:Nat}(h:k≤u.length):Afy u none (some (k:Int))=u.take k:=by
 unfold Afy
 rw[HT.Aag,HT.Lb,AtX,Atq h,AtZ]
theorem AiP{u:List Nat}{k:Nat}(h:k≤u.length):Afy u (some (k:Int)) none=u.drop k:=by
 unfold Afy
 have e1:HT.sIx u.length 0 (some (k:Int))=k:=by rw[HT.Lb,Atq h]
 have e2:HT.sIx u.length u.length none=u.length:=rfl
 rw[e1,e2]
 exact Atc (by rw[Atg];omega)
theorem AmR{xs:List V}{k:Nat}(h:k≤xs.length):Lw xs none (some (k:Int))=xs.take k:=by
 unfold Lw
 rw[HT.Aag,HT.Lb,AtX,Atq h,AtZ]
theorem AjI{xs:List V}{k:Nat}(h:k≤xs.length):Lw xs (some (k:Int)) none=xs.drop k:=by
 unfold Lw
 have e1:HT.sIx xs.length 0 (some (k:Int))=k:=by rw[HT.Lb,Atq h]
 have e2:HT.sIx xs.length xs.length none=xs.length:=rfl
 rw[e1,e2]
 exact Atc (by rw[Atg];omega)
theorem AmS(cl:List (List Nat))(k:Nat):(vS cl).take k=vS (cl.take k):=by unfold vS;rw[At1]
theorem AmT(cl:List (List Nat))(k:Nat):(vS cl).drop k=vS (cl.drop k):=by unfold vS;rw[At8]
theorem AoG(a b:List (List Nat)):vS a++vS b=vS (a++b):=by unfold vS;rw[AsP]
def put (cl:List (List Nat))(p:Nat)(u:List Nat):List (List Nat):=cl.take p++[u]++cl.drop (p+1)
theorem AhS{cl:List (List Nat)}{p:Nat}(hp:p<cl.length)(u:List Nat):u∈put cl p u:=by unfold put;simp
theorem AfM{cl:List (List Nat)}{p:Nat}(hp:p<cl.length)(u:List Nat):(put cl p u).length=cl.length:=by
 unfold put
 rw[AsN,AsN,Atd,Atg,List.length_singleton]
 omega
theorem AfN{cl:List (List Nat)}{p:Nat}{u v:List Nat}(h:v∈put cl p u):v∈cl∨v=u:=by
 unfold put at h
 rcases List.mem_append.mp h with h | h
 ·rcases List.mem_append.mp h with h | h
  ·exact .inl (Aur h)
  ·exact .inr (List.mem_singleton.mp h)
 ·exact .inl (AtR h)
theorem AjJ{cl:List (List Nat)}{m n p:Nat}(C:Cl cl m n)(hp:p<n)(h2:2≤n)(u:List Nat):∃ v∈put cl p u,v.length=m:=by
 have hn:=C.hn
 by_cases h0:p=0
 ·have h1:1<cl.length:=by omega
  refine⟨cl[1],?_,C.hm _ (AsV h1)⟩
  unfold put
  refine AsZ _ ?_
  rw[h0]
  have:(cl.drop (0+1))[0]?=some cl[1]:=by rw[Aun];exact AsJ h1
  exact AsS this
 ·have h1:0<cl.length:=by omega
  refine⟨cl[0],?_,C.hm _ (AsV h1)⟩
  unfold put
  refine AtD _ (AtD _ ?_)
  have:(cl.take p)[0]?=some cl[0]:=by rw[Auu (by omega)];exact AsJ h1
  exact AsS this
theorem AdL{cl:List (List Nat)}{m n:Nat}(C:Cl cl m n):cl.length≤1000∧∀ u∈cl,u.length≤1000:=by
 have:=C.hn
 have:=C.n40
 have:=C.m40
 exact⟨by omega,fun u hu=>by rw[C.hm u hu];omega⟩
theorem Alz{cl:List (List Nat)}{m n p:Nat}(C:Cl cl m n)(hp:p<n)(h2:2≤n){u:List Nat}(hu:u.length≠m)(hs:u.length≤1000):Aa3 (put cl p u):=by
 have hn:=C.hn
 obtain⟨s1,s2⟩:=AdL C
 refine⟨by rw[AfM (by omega)];exact s1,fun v hv=>?_,fun⟨m',n',C'⟩=>?_⟩
 ·rcases AfN hv with h | h
  ·exact s2 v h
  ·rw[h];exact hs
 ·obtain⟨v,hv,lv⟩:=AjJ C hp h2 u
  have e1:=C'.hm v hv
  have e2:=C'.hm u (AhS (by omega) u)
  omega
theorem Al0{cl:List (List Nat)}{m n p:Nat}(C:Cl cl m n)(hp:p<n):Aa3 (put cl p []):=by
 have hn:=C.hn
 obtain⟨s1,s2⟩:=AdL C
 refine⟨by rw[AfM (by omega)];exact s1,fun v hv=>?_,fun⟨m',n',C'⟩=>?_⟩
 ·rcases AfN hv with h | h
  ·exact s2 v h
  ·rw[h];exact AsM _
 ·have e2:=C'.hm [] (AhS (by omega) [])
  have:=C'.m1
  rw[List.length_nil] at e2
  omega
theorem AmU{cl:List (List Nat)}{m n p:Nat}(C:Cl cl m n)(hp:p<n){u:List Nat}{c:Nat}(hc:c∈u)(hn2:¬Sg c)(hs:u.length≤1000):Aa3 (put cl p u):=by
 have hn:=C.hn
 obtain⟨s1,s2⟩:=AdL C
 refine⟨by rw[AfM (by omega)];exact s1,fun v hv=>?_,fun⟨m',n',C'⟩=>hn2 (C'.sg u (AhS (by omega) u) c hc)⟩
 rcases AfN hv with h | h
 ·exact s2 v h
 ·rw[h];exact hs
theorem AoH:Aa3 []:=⟨by simp,fun u h=>(by cases h),fun⟨m,n,C⟩=>by have:=C.hn;have:=C.n1;simp at *;omega⟩
def Aql (H:Hp)(Q:VK):Prop:=∀(l:Addr) (cl':List (List Nat)) (H':Hp),Bl H H'→H' l=some (.lst (vS cl'))→Aa3 cl'→Q (.ref l) H'
abbrev AhT:Str := " !\"$&'()*+,-/0123456789:;<=>?@ABCDEFGHIJKLMNOPQRSTUVWXYZ[\\]^_`abcdefghijklmnopqrstuvwxyz{|}~"
theorem AoI:AhT.cps.toList.all (fun c=>decide (c≠35∧c≠46))=true:=by decide +kernel
theorem AiQ:AhT.length=92:=by decide +kernel
theorem AoJ{z:Int}(h0:0≤z)(h1:z<92):∃ c,atI AhT.cps.toList z=some c∧¬Sg c:=by
 have hl:AhT.cps.toList.length=AhT.length:=by unfold Str.length;simp
 have hz:z.toNat<AhT.cps.toList.length:=by rw[hl,AiQ];omega
 refine⟨AhT.cps.toList[z.toNat],Dk h0 (AsJ hz),fun hg=>?_⟩
 have:=of_decide_eq_true (List.all_eq_true.mp AoI _ (AsV hz))
 rcases hg with h | h
 ·exact this.1 h
 ·exact this.2 h
def AoK:Sp:=fun vs H Q _=>∃ z:Int,vs=[.int z]∧∀ c:Nat,¬Sg c→Q (.str ⟨#[c]⟩) H
theorem AcD(T:Txt K mg t):Bp P w K mg base CX0 1 t.Fl t.NB ["number"] AoK:=by
 refine T.Nb.F.ok UJ (fun vs H Q E h=>?_) (fun cdv A outer s H vs Q E hr h=>?_)
 ·obtain⟨z,rfl,_⟩:=h
  rfl
 ·obtain⟨z,rfl,k⟩:=h
  refine⟨_,(Ac (Aq (i:=1) UJ.nd rfl (Or.inl rfl) Bx)
   (Ah (BP (Bv Ada (pv 1) (Bd Dv (pv 0) Ag) (fun _ _=>rfl))))),?_⟩
  obtain⟨c,ec,nc⟩:=AoJ (z:=z%92) (AtT _ (by decide)) (AtS _ (by decide))
  exact⟨_,rfl,_,rfl,_,_,rfl,rfl,(by show(0:Int)<92;decide),_,_,c,rfl,rfl,(by rw[AiQ];decide),ec,k c nc⟩
theorem AmV{cl:List (List Nat)}{n:Nat}(hn:cl.length=n)(h1:1≤n)(h2:n≤1000)(h:∀ u∈cl,u.length=41):Aa3 cl:=by
 refine⟨by omega,fun u hu=>by rw[h u hu];decide,fun⟨m',n',C'⟩=>?_⟩
 have hp:0<cl.length:=by omega
 have e:=C'.hm _ (AsV hp)
 rw[h _ (AsV hp)] at e
 have:=C'.m40
 omega
theorem AmW{cl:List (List Nat)}(hn:cl.length=41)(h:∀ u∈cl,u.length≤1000):Aa3 cl:=by
 refine⟨by omega,h,fun⟨m',n',C'⟩=>?_⟩
 have:=C'.hn
 have:=C'.n40
 omega
theorem Al1{G:Prop}{R:List Nat→Option V→Prop}(C:List Nat→Prop)(main:(∀ u v,C u→R u v)→G)(rest:∀ u v,C u→R u v):G:=main rest
theorem AoL{i:Nat}{v:V}{σ σ':St}{H:Hp}{Kk:St→Hp→Prop}(h:σ.set i (some v)=σ')(k:Kk σ' H):UG i v σ H Kk:=by subst h;exact k
def AoM (K:PySem.W.Frag):Sp:=fun vs H Q _=>∃(a ln:Addr) (cl:List (List Nat)) (m n:Nat) (f:Int) (ks:List Int),vs=[.ref a,.int f,.ref ln]∧H a=some (.lst (vS cl))∧Cl cl m n∧SqL K H ln (vI ks)∧Num ks 63∧1≤f∧f≤6∧(f=5→2≤n)∧Aql H Q
theorem XR(T:Txt K mg t):Bp P w K mg base CX0 2 t.Dc t.J0 ["given", "fault", "numbers"] (AoM K):=by
 have AdM:Bp P w K mg base CX0 1 t.Fl t.NB _ _:=AcD T
 refine T.Jc.F.ok CJ (fun vs H Q E h=>?_) (fun cdv A outer s H vs Q E hr h=>?_)
 ·obtain⟨a,ln,cl,m,n,f,ks,rfl,_⟩:=h
  rfl
 ·obtain⟨a,ln,cl,m,n,f,ks,rfl,ha,C,gn,hN,f1,f6,f5,k⟩:=h
  have hsz:sizeLine=16777216:=sizeLine_eq
  have c1:=C.n1
  have c2:=C.n40
  have c3:=C.m1
  have c4:=C.m40
  have hcn:=C.hn
  have hlen:(vS cl).length=n:=by rw[Ij,hcn]
  obtain⟨c4',e4,_⟩:=hN.at (i:=4) (by decide) (by decide)
  obtain⟨c5',e5,_⟩:=hN.at (i:=5) (by decide) (by decide)
  obtain⟨c6',e6,_⟩:=hN.at (i:=6) (by decide) (by decide)
  refine⟨_,(Ac (Aq (i:=3) CJ.nd rfl (Or.inl rfl) (Bd Dv (Bv (Bg (K:=K)) (pv 2) Ag (fun _ _=>rfl)) (Ao (Bt (K:=K)) rfl T.Ir Ge (Aa (pv 0) Ad))))
   (Ac (Aq (i:=4) CJ.nd rfl (Or.inl rfl) (Bv (Bg (K:=K)) (pv 0) (pv 3) (fun _ _=>rfl)))
   (Ac (Cu (An Fi (pv 1) Ag (Be _))
    (Ah (BP (RM Ad)))
    Bo)
   (Ac (Cu (An Fi (pv 1) Ag (Be _))
    (Ah (BP (JN (Hh.mk (BL:=[0]) (Nc:=["k", "given"]) rfl (by decide +kernel) (by decide +kernel) (GP (sc0:=Ab BK) rfl (by decide +kernel)) rfl rfl rfl (by decide +kernel) (fun k j h=>match k,h with | 0,h=>by obtain rfl:=Option.some.inj h;exact⟨_,rfl,rfl,rfl⟩ | _+1,h=>by simp at h)) rfl (Gm rfl T.GX (Aa Ag Ad)) (fun _ _ _ _ _=>.nil) (fun _ _ _ _ _=>(Bv (Bg (K:=K)) (pv 1) (Bd Dv (pv 0) (Ao (Bt (K:=K)) rfl T.Ir Ge (Aa (pv 1) Ad))) (fun _ _=>rfl))))))
    Bo)
   (Ac (Cu (An Fi (pv 1) Ag (Be _))
    (Ah (Aq (i:=4) CJ.nd rfl (Or.inl rfl) Bx))
    Bo)
   (Ac (Cu (An Fi (pv 1) Ag (Be _))
    (Ah (BP (JN (Hh.mk (BL:=[]) (Nc:=["text"]) rfl (by decide +kernel) (by decide +kernel) (GP (sc0:=Ab BK) rfl (by decide +kernel)) rfl rfl rfl (by decide +kernel) (fun _ _ h=>by simp at h)) rfl (Ew (K:=K) (pv 0)) (fun _ _ _ _ _=>.nil) (fun _ _ _ _ _=>(FT Afz (Bd Nu (pv 0) (Bd Ama Bx Ag)) Im (G9 Ag))))))
    Bo)
   (Ac (Cu (PW.pt (pw_and (An Fi (pv 1) Ag (Be _)) (pw_and1 (An Fi (Bd Dv (Bv (Bg (K:=K)) (pv 2) Ag (fun _ _=>rfl)) Ag) Ag (Be _)))))
    (Ah (Aq (i:=4) CJ.nd rfl (Or.inl rfl) (Bd Nu (pv 4) (Bv Ada Bx (Bd Dv (Bv (Bg (K:=K)) (pv 2) Ag (fun _ _=>rfl)) Ag) (fun _ _=>rfl)))))
    (Ah (Cu (An Fi (pv 1) Ag (Be _))
     (Ah (Aq (i:=4) CJ.nd rfl (Or.inl rfl) (FT Afz (pv 4) (G9 Ag) Im)))
     Bo)))
   (Ac (Cu (An Fi (pv 1) Ag (Be _))
    (Ac (Aq (i:=5) CJ.nd rfl (Or.inl rfl) (Bd Dv (Bv (Bg (K:=K)) (pv 2) Ag (fun _ _=>rfl)) (Ao JL rfl T.Ir Ge (Aa (pv 4) Ad))))
    (Ah (Aq (i:=4) CJ.nd rfl (Or.inl rfl) (Bd Nu (Bd Nu (FT Afz (pv 4) Im (G9 (pv 5))) (Bw (AdM.mono (by decide)) hr rfl T.Nb.m T.Nb.F.kp T.Nb.b .nil Fz (Aa (Bv (Bg (K:=K)) (pv 2) Ag (fun _ _=>rfl)) Ad))) (FT Afz (pv 4) (G9 (Bd Gq (pv 5) Ag)) Im)))))
    Bo)
   (Ah (BP (Bd Afm (Bd Afm (FT (HJ (K:=K)) (pv 0) Im (G9 (pv 3))) (RM (Aa (pv 4) Ad))) (FT (HJ (K:=K)) (pv 0) (G9 (Bd Gq (pv 3) Ag)) Im)))))))))))),?_⟩
  refine⟨_,rfl,_,_,_,_,rfl,rfl,gn,e4,_,rfl,_,_,rfl,.inl (SqL.of ha),_,_,rfl,rfl,(by rw[hlen];show(0:Int)<(n:Int);omega),?_⟩
  rw[hlen]
  obtain⟨p,ep,hp⟩:∃ p:Nat,c4'%(n:Int)=(p:Int)∧p<n:=⟨(c4'%(n:Int)).toNat,by have:=AtT c4' (show(n:Int)≠0 by omega);omega,by have:=AtT c4' (show(n:Int)≠0 by omega);have:=AtS c4' (show(0:Int)<n by omega);omega⟩
  dsimp only
  rw[ep]
  have hpl:p<cl.length:=by omega
  have lp:=C.hm cl[p] (AsV hpl)
  have e1:atI (vS cl) (p:Int)=some (.str (tx cl[p])):=Dk (by omega) (by rw[Ate];exact Adj (AsJ hpl))
  refine⟨_,rfl,_,rfl,_,_,_,_,rfl,rfl,SqL.of ha,e1,?_⟩
  have no:∀{g:Int},f≠g→¬V.int f=V.int g:=fun h e=>h (Kz.mp e)
  apply Al1 (fun u=>Aa3 (put cl p u)∧u.length≤100)
  ·intro rest
   refine⟨_,rfl,rfl,_,rfl,?_⟩
   refine DR (fun _=>?_) (fun g1=>?_)
   ·refine⟨AsM _,fun l nl=>?_⟩
    exact k l [] _ (.upd nl) Ae AoH
   refine⟨_,rfl,rfl,_,rfl,?_⟩
   refine DR (fun _=>?_) (fun g2=>?_)
   ·refine⟨_,rfl,(by decide),(by decide),?_⟩
    refine Nv (lo:=0) (n:=41) (fun i ys H2=>H2=H∧∃ ds:List (List Nat),ys=vS ds∧ds.length=i∧∀ u∈ds,u.length=m) ⟨rfl,[],rfl,rfl,fun _ h=>absurd h (by simp)⟩ ?_ ?_ ?_ ?_
    ·rintro i ys H2 hi ⟨rfl,ds,rfl,dl,_⟩
     rw[Ij,dl]
     exact AsI _
    ·omega
    ·rintro i ys H2 hi ⟨rfl,ds,rfl,dl,dm⟩
     have hix:(0+(i:Int))%(n:Int)=((i%n:Nat):Int):=by rw[AtH];omega
     have hlt:i%n<cl.length:=by rw[hcn];exact AtC _ (by omega)
     refine Ky.no ?_
     refine⟨_,rfl,_,rfl,_,rfl,_,_,rfl,.inl (SqL.of ha),_,_,rfl,rfl,(by rw[hlen];show(0:Int)<(n:Int);omega),_,_,_,_,rfl,rfl,SqL.of ha,(by rw[hlen];exact Dk (by rw[hix];omega) (by rw[hix,Ate];exact Adj (AsJ hlt))),?_⟩
     refine CN.of hi ⟨rfl,ds++[cl[i%n]],Yu _ _,by rw[AsN,dl];rfl,fun u hu=>?_⟩
     rcases List.mem_append.mp hu with h | h
     ·exact dm u h
     ·rw[List.mem_singleton.mp h];exact C.hm _ (AsV hlt)
    ·rintro ys H2 l ⟨rfl,ds,rfl,dl,dm⟩ nl
     exact k l ds _ (.upd nl) Ae (AmW dl fun u hu=>by rw[dm u hu];omega)
   have g1:f≠1:=fun e=>g1 (by rw[e])
   have g2:f≠2:=fun e=>g2 (by rw[e])
   by_cases h6:f=6
   ·have no6:∀{g:Int},g≠6→¬V.int f=V.int g:=fun h=>no (fun e=>h (by rw[← e,h6]))
    refine⟨_,rfl,rfl,_,rfl,?_⟩
    refine Iu (no6 (by decide)) ?_
    refine⟨_,rfl,rfl,_,rfl,?_⟩
    refine Iu (no6 (by decide)) ?_
    refine⟨_,rfl,rfl,_,rfl,?_⟩
    refine Iu (no6 (by decide)) (XJ ?_)
    refine⟨_,rfl,rfl,_,rfl,?_⟩
    refine Iu (no6 (by decide)) ?_
    refine⟨_,rfl,rfl,_,rfl,?_⟩
    refine Adg (by rw[h6]) ?_
    refine⟨_,rfl,_,_,_,_,rfl,rfl,gn,e5,_,rfl,_,rfl,(by rw[Ei,lp];omega),_,_,rfl,rfl,(by rw[Ei,lp];show(0:Int)<(m:Int);omega),?_⟩
    rw[Ei,lp]
    obtain⟨e,ee,he⟩:∃ e:Nat,c5'%(m:Int)=(e:Int)∧e<m:=⟨(c5'%(m:Int)).toNat,by have:=AtT c5' (show(m:Int)≠0 by omega);omega,by have:=AtT c5' (show(m:Int)≠0 by omega);have:=AtS c5' (show(0:Int)<m by omega);omega⟩
    dsimp only
    rw[ee]
    refine⟨_,rfl,_,rfl,_,rfl,_,rfl,(by omega),?_⟩
    rw[AiO (by omega)]
    refine⟨_,rfl,_,_,_,_,rfl,rfl,gn,e6,c6',rfl,fun c nc=>?_⟩
    refine⟨_,_,rfl,rfl,(by rw[Ei,Atd];show _+1≤sizeLine;omega),?_⟩
    rw[Yr,Ade]
    refine⟨_,rfl,_,rfl,_,_,rfl,rfl,_,rfl,_,rfl,(by omega),?_⟩
    rw[show(e:Int)+1=((e+1:Nat):Int) by omega,AiP (by omega)]
    refine⟨_,_,rfl,rfl,(by rw[Ei,Ei,AsN,Atd,Atg];show _+1+_≤sizeLine;omega),?_⟩
    rw[Ade]
    have fin:=AmU C hp (u:=cl[p].take e++[c]++cl[p].drop (e+1)) (c:=c) (by simp) nc (by rw[AsN,AsN,Atd,Atg,List.length_singleton];omega)
    have fl:(cl[p].take e++[c]++cl[p].drop (e+1)).length≤100:=by rw[AsN,AsN,Atd,Atg,List.length_singleton];omega
    obtain⟨row,hrow⟩:∃ row,row=cl[p].take e++[c]++cl[p].drop (e+1):=⟨_,rfl⟩
    rw[← hrow] at fin fl ⊢
    obtain⟨w5,h5⟩:∃ w5:Option V,w5=some (.int (e:Int)):=⟨_,rfl⟩
    rw[← h5]
    exact AoL (σ':=[some (.ref a),some (.int f),some (.ref ln),some (.int (p:Int)),some (.str (tx row)),w5]) rfl (rest row w5 ⟨fin,fl⟩)
   refine⟨_,rfl,rfl,_,rfl,?_⟩
   refine DR (fun h3=>?_) (fun g3=>?_)
   ·have h3:=Kz.mp h3
    have no3:∀{g:Int},g≠3→¬V.int f=V.int g:=fun h=>no (fun e=>h (by rw[← e,h3]))
    refine⟨_,rfl,rfl,_,rfl,?_⟩
    refine Iu (no3 (by decide)) ?_
    refine⟨_,rfl,rfl,_,rfl,?_⟩
    refine Iu (no3 (by decide)) (XJ ?_)
    refine⟨_,rfl,rfl,_,rfl,?_⟩
    refine Iu (no3 (by decide)) ?_
    refine⟨_,rfl,rfl,_,rfl,?_⟩
    refine Iu (no3 (by decide)) ?_
    rw[show(("" : Str))=tx [] from by decide +kernel]
    exact rest [] none ⟨Al0 C hp,by decide⟩
   have g3:f≠3:=fun e=>g3 (by rw[e])
   refine⟨_,rfl,rfl,_,rfl,?_⟩
   refine DR (fun h4=>?_) (fun g4=>?_)
   ·refine⟨_,rfl,_,rfl,⟨_,SqL.of ha⟩,Hm (K:=K) (a:=a) (xs:=vS cl) (fun i ys H2=>H2=H∧∃ ds:List (List Nat),ys=vS ds∧ds.length=i∧∀ u∈ds,u.length=41) ⟨rfl,[],rfl,rfl,fun _ h=>absurd h (by simp)⟩ ?_ ?_ ?_ ?_⟩
    ·rintro i ys H2 hi ⟨rfl,ds,rfl,dl,_⟩
     exact⟨SqL.of ha,by rw[Ij,dl];exact AsI _⟩
    ·rw[hlen];omega
    ·rintro i x ys H2 hi hx ⟨rfl,ds,rfl,dl,dm⟩
     obtain⟨u,hu,rfl⟩:=Adk hx
     have ul:=C.hm u (AsS hu)
     refine Ky.no ?_
     refine⟨_,rfl,[35,46],20,(by rw[show(("#." : Str))=tx [35,46] from by decide +kernel]),rfl,by decide,by decide,(by decide),?_⟩
     have rl:((List.replicate (20:Int).toNat [35,46]).flatten).length=40:=by decide
     refine⟨_,_,rfl,rfl,(by rw[Ei,Ei,rl];omega),?_⟩
     rw[Ade]
     generalize (List.replicate (20:Int).toNat [35,46]).flatten=rr at rl
     refine⟨_,rfl,_,rfl,(by rw[AsN];omega),?_⟩
     rw[show Afy (u++rr) none (some 41)=(u++rr).take 41 from AiO (k:=41) (by rw[AsN];omega)]
     refine CN.of hi ⟨rfl,ds++[(u++rr).take 41],Yu _ _,by rw[AsN,dl];rfl,fun v hv=>?_⟩
     rcases List.mem_append.mp hv with h | h
     ·exact dm v h
     ·rw[List.mem_singleton.mp h,Atd,AsN];omega
    ·rintro ys H2 l ⟨rfl,ds,rfl,dl,dm⟩ nl
     exact k l ds _ (.upd nl) Ae (AmV dl (by rw[hlen];omega) (by rw[hlen];omega) dm)
   have g4:f≠4:=fun e=>g4 (by rw[e])
   have h5:f=5:=by omega
   have n2:=f5 h5
   refine⟨_,rfl,rfl,_,rfl,?_⟩
   refine Adg (by rw[h5]) ?_
   refine⟨_,rfl,_,_,_,_,rfl,rfl,gn,e5,_,_,rfl,rfl,(by show(0:Int)<2;decide),rfl,_,rfl,?_⟩
   refine DR (fun _=>?_) (fun _=>?_)
   ·have hb:c6'%2=0∨c6'%2=1:=by omega
    obtain⟨c,ec,hc⟩:=Alx hb
    refine⟨_,rfl,_,rfl,_,_,_,_,rfl,rfl,gn,e6,_,_,rfl,rfl,(by show(0:Int)<2;decide),_,_,c,rfl,rfl,(by decide +kernel),ec,_,_,rfl,rfl,(by rw[Ei,Yr,Ei,lp];show m+1≤sizeLine;omega),?_⟩
    rw[Yr,Ade]
    refine⟨_,rfl,rfl,_,rfl,?_⟩
    refine Iu (no (by omega)) ?_
    exact rest (cl[p]++[c]) none ⟨Alz C hp n2 (u:=cl[p]++[c]) (by rw[AsN,List.length_singleton];omega) (by rw[AsN,List.length_singleton];omega),by rw[AsN,List.length_singleton];omega⟩
   ·refine⟨_,rfl,rfl,_,rfl,?_⟩
    refine Adg (by rw[h5]) ?_
    refine⟨_,rfl,_,rfl,_,rfl,(by omega),?_⟩
    rw[show Afy cl[p] (some 1) none=cl[p].drop 1 from AiP (k:=1) (by omega)]
    refine⟨_,rfl,rfl,_,rfl,?_⟩
    refine Iu (no (by omega)) ?_
    exact rest (cl[p].drop 1) none ⟨Alz C hp n2 (u:=cl[p].drop 1) (by rw[Atg];omega) (by rw[Atg];omega),by rw[Atg];omega⟩
  rintro row v5 ⟨fin,fl⟩
  refine⟨_,rfl,_,rfl,_,rfl,_,_,rfl,SqL.of ha,fun l1 n1=>?_⟩
  rw[AmR (by rw[Ij];omega),AmS]
  have s1:Bl H (upd H l1 (.lst (vS (cl.take p)))):=.upd n1
  refine⟨_,rfl,(by show 1≤sizeLine;decide),fun l2 n2=>?_⟩
  have s2:=s1.new (o:=.lst [.str (tx row)]) n2
  refine⟨_,_,_,_,rfl,rfl,(Bl.upd n2) _ _ Ae,Ae,(by rw[Ij,Atd];show _+1≤sizeLine;omega),fun l3 n3=>?_⟩
  rw[Yu]
  have s3:=s2.new (o:=.lst (vS (cl.take p++[row]))) n3
  refine⟨_,rfl,_,rfl,_,_,rfl,rfl,_,rfl,_,_,rfl,SqL.of (s3 _ _ ha),fun l4 n4=>?_⟩
  rw[show(p:Int)+1=((p+1:Nat):Int) by omega,AjI (by rw[Ij];omega),AmT]
  have s4:=s3.new (o:=.lst (vS (cl.drop (p+1)))) n4
  refine⟨_,_,_,_,rfl,rfl,(Bl.upd n4) _ _ Ae,Ae,(by rw[Ij,Ij,AsN,Atd,Atg];show _+1+_≤sizeLine;omega),fun l5 n5=>?_⟩
  rw[AoG]
  exact k l5 _ _ (s4.new n5) Ae fin
theorem Al2{G:Prop}{R:Int→Prop}(C:Int→Prop)(main:(∀ z,C z→R z)→G)(rest:∀ z,C z→R z):G:=main rest
theorem Al3(ks:List Int)(k:Nat):(vI ks).eraseIdx k=vI (ks.eraseIdx k):=by unfold vI;rw[AuC,AuC,AsP,At1,At8]
def AoN (K:PySem.W.Frag):Sp:=fun vs H Q _=>∃(b ln:Addr) (sh:List Int) (f:Int) (ks:List Int),vs=[.ref b,.int f,.ref ln]∧SqL K H b (vI sh)∧1≤sh.length∧sh.length≤40∧(∀ z∈sh,0≤z∧z<8)∧SqL K H ln (vI ks)∧Num ks 63∧0≤f∧f≤4 ∧
 ∀(l:Addr) (sh':List Int) (H':Hp),Bl H H'→H' l=some (.lst (vI sh'))→(f=0→sh'=sh)→(f≠0→¬Aa5 sh.length sh')→Q (.ref l) H'
theorem S6(T:Txt K mg t):Bp P w K mg base CX0 1 t.Ce t.Ik ["shuttles", "fault", "numbers"] (AoN K):=by
 refine T.Hl.F.ok Gg (fun vs H Q E h=>?_) (fun cdv A outer s H vs Q E hr h=>?_)
 ·obtain⟨b,ln,sh,f,ks,rfl,_⟩:=h
  rfl
 ·obtain⟨b,ln,sh,f,ks,rfl,hB,l1,l40,bd,gn,hN,f0,f4,k⟩:=h
  have hsz:sizeLine=16777216:=sizeLine_eq
  obtain⟨c4,e4,c40,c41⟩:=hN.at (i:=4) (by decide) (by decide)
  obtain⟨c5,e5,_⟩:=hN.at (i:=5) (by decide) (by decide)
  obtain⟨c7,e7,c70,c71⟩:=hN.at (i:=7) (by decide) (by decide)
  refine⟨_,(Ac (Aq (i:=3) Gg.nd rfl (Or.inl rfl) (Ib (Jr (K:=K)) rfl T.Ab8 Xo (Aa (pv 0) Ad)))
   (Ac (Aq (i:=4) Gg.nd rfl (Or.inl rfl) (Bd Dv (Bv (Bg (K:=K)) (pv 2) Ag (fun _ _=>rfl)) Ag))
   (Ac (Cu (An Fi (Bd Dv (Bv (Bg (K:=K)) (pv 2) Ag (fun _ _=>rfl)) Ag) Ag (Be _))
    (Ah (Aq (i:=4) Gg.nd rfl (Or.inl rfl) (Bd Gq (Bd QQ (Bv (Bg (K:=K)) (pv 2) Ag (fun _ _=>rfl)) (Bd AnC Ag Ag)) (Bv (Bg (K:=K)) (pv 2) Ag (fun _ _=>rfl)))))
    Bo)
   (Ac (Cu (An Fi (pv 1) Ag (Be _))
    (Ah (Ja (Mr (K:=K) PySem.F.plainAttrs_list PySem.F.slot_list_append PySem.F.type_list_append Np (pv 3) (Aa (Bd Dv (Bv (Bg (K:=K)) (pv 2) Ag (fun _ _=>rfl)) Ag) Ad))))
    Bo)
   (Ac (Cu (An Fi (pv 1) Ag (Be _))
    (Ah (Ja (Mr (K:=K) PySem.F.plainAttrs_list PySem.F.slot_list_pop PySem.F.type_list_pop AjY (pv 3) (Aa (Bd Dv (Bv (Bg (K:=K)) (pv 2) Ag (fun _ _=>rfl)) (Ao (Bt (K:=K)) rfl T.Ir Ge (Aa (pv 3) Ad))) Ad))))
    Bo)
   (Ac (Cu (An Fi (pv 1) Ag (Be _))
    (Ah (Afh (Bd Gq Ag (pv 4)) (Afg (pv 3) (Bd Dv (Bv (Bg (K:=K)) (pv 2) Ag (fun _ _=>rfl)) (Ao (Bt (K:=K)) rfl T.Ir Ge (Aa (pv 3) Ad))) set_list)))
    Bo)
   (Ac (Cu (An Fi (pv 1) Ag (Be _))
    (Ah (Afh (Bd Vo (Ane AjP Ag) (pv 4)) (Afg (pv 3) (Bd Dv (Bv (Bg (K:=K)) (pv 2) Ag (fun _ _=>rfl)) (Ao (Bt (K:=K)) rfl T.Ir Ge (Aa (pv 3) Ad))) set_list)))
    Bo)
   (Ah (BP (pv 3)))))))))),?_⟩
  refine⟨_,rfl,_,_,rfl,.inl hB,fun l nl=>?_⟩
  have s1:Bl H (upd H l (.lst (vI sh))):=.upd nl
  have g1:(upd H l (.lst (vI sh))) l=some (.lst (vI sh)):=Ae
  generalize upd H l (.lst (vI sh))=H1 at s1 g1 ⊢
  have gn1:=s1.seq gn
  refine⟨_,rfl,_,_,_,_,rfl,rfl,gn1,e4,_,_,rfl,rfl,(by show(0:Int)<4;decide),?_⟩
  have d0:=AtT c4 (show(4:Int)≠0 by decide)
  dsimp only
  generalize c4%4=fz at d0
  apply Al2 (fun z=>0≤z)
  ·intro rest
   refine⟨_,rfl,_,_,_,_,rfl,rfl,gn1,e7,_,_,rfl,rfl,(by show(0:Int)<2;decide),rfl,_,rfl,?_⟩
   refine DR ?tt ?ff
   case ff =>
    intro _
    obtain⟨z,ez⟩:∃ z,z=fz:=⟨_,rfl⟩
    rw[← ez]
    exact rest z (by omega)
   case tt =>
    intro _
    refine⟨_,rfl,_,_,_,_,rfl,rfl,gn1,e4,_,_,rfl,rfl,⟨by decide,by decide,by decide⟩,_,_,rfl,rfl,.inl ⟨by omega,by omega⟩,_,rfl,_,_,_,_,rfl,rfl,gn1,e7,_,_,rfl,rfl,?_⟩
    refine rest _ ?_
    have:0≤c4*(10:Int) ^ (54:Int).toNat:=Int.mul_nonneg c40 (by decide)
    omega
  rintro fz d0
  have pn:(0:Int)<(sh.length:Int):=by omega
  obtain⟨p,ep,hp⟩:∃ p:Nat,c5%(sh.length:Int)=(p:Int)∧p<sh.length:=⟨(c5%(sh.length:Int)).toNat,by have:=AtT c5 (show(sh.length:Int)≠0 by omega);omega,by have:=AtT c5 (show(sh.length:Int)≠0 by omega);have:=AtS c5 pn;omega⟩
  have vl:(vI sh).length=sh.length:=Bs sh
  have no:∀{g:Int},f≠g→¬V.int f=V.int g:=fun h e=>h (Kz.mp e)
  have sb:∀ z:Int,¬(0≤z∧z<8)→¬Aa5 sh.length (sh.set p z):=fun z hz q=>hz (q.2 z (List.mem_iff_getElem.mpr ⟨p,by rw[Aui];exact hp,List.getElem_set_self _⟩))
  have fin:∀(sh':List Int),(f=0→sh'=sh)→(f≠0→¬Aa5 sh.length sh')→Q (.ref l) (upd H1 l (.lst (vI sh'))):=fun sh' a1 a2=>k l sh' _ (s1.over nl) Ae a1 a2
  refine⟨_,rfl,rfl,_,rfl,?_⟩
  refine DR (fun h1=>?_) (fun g1'=>?_)
  ·have h1:=Kz.mp h1
   refine⟨_,rfl,.inl ⟨rfl,_,SqL.of g1⟩,_,rfl,_,_,_,_,rfl,rfl,gn1,e5,_,_,rfl,rfl,(by show(0:Int)<8;decide),_,_,_,rfl,rfl,g1,(by rw[vl];omega),?_⟩
   rw[Yt]
   refine⟨_,rfl,rfl,_,rfl,?_⟩
   refine Iu (no (by omega)) ?_
   refine⟨_,rfl,rfl,_,rfl,?_⟩
   refine Iu (no (by omega)) ?_
   refine⟨_,rfl,rfl,_,rfl,?_⟩
   refine Iu (no (by omega)) ?_
   exact⟨_,rfl,fin _ (fun e=>by omega) fun _ q=>by have:=q.1;rw[AsN,List.length_singleton] at this;omega⟩
  have g1':f≠1:=fun e=>g1' (by rw[e])
  refine⟨_,rfl,rfl,_,rfl,?_⟩
  refine DR (fun h2=>?_) (fun g2=>?_)
  ·have h2:=Kz.mp h2
   refine⟨_,rfl,.inl ⟨rfl,_,SqL.of g1⟩,_,rfl,_,_,_,_,rfl,rfl,gn1,e5,_,rfl,_,_,rfl,.inl (SqL.of g1),_,_,rfl,rfl,(by rw[vl];exact pn),?_⟩
   rw[vl]
   dsimp only
   rw[ep]
   refine⟨_,_,_,p,_,rfl,rfl,g1,by omega,by omega,(by rw[vl];unfold seqIndex?;simp;omega),Ys (AsJ hp),?_⟩
   rw[Al3]
   refine⟨_,rfl,rfl,_,rfl,?_⟩
   refine Iu (no (by omega)) ?_
   refine⟨_,rfl,rfl,_,rfl,?_⟩
   refine Iu (no (by omega)) ?_
   exact⟨_,rfl,fin _ (fun e=>by omega) fun _ q=>by have:=q.1;rw[List.length_eraseIdx_of_lt hp] at this;omega⟩
  have g2:f≠2:=fun e=>g2 (by rw[e])
  refine⟨_,rfl,rfl,_,rfl,?_⟩
  refine DR (fun h3=>?_) (fun g3=>?_)
  ·have h3:=Kz.mp h3
   refine⟨_,rfl,_,_,rfl,rfl,_,rfl,_,rfl,_,_,_,_,rfl,rfl,gn1,e5,_,rfl,_,_,rfl,.inl (SqL.of g1),_,_,rfl,rfl,(by rw[vl];exact pn),?_⟩
   rw[vl]
   dsimp only
   rw[ep]
   refine⟨_,_,_,_,rfl,rfl,g1,Afu (by omega) (by rw[vl];omega),?_⟩
   rw[Ate,Aft]
   refine⟨_,rfl,rfl,_,rfl,?_⟩
   refine Iu (no (by omega)) ?_
   exact⟨_,rfl,fin _ (fun e=>by omega) fun _=>sb _ (by omega)⟩
  have g3:f≠3:=fun e=>g3 (by rw[e])
  refine⟨_,rfl,rfl,_,rfl,?_⟩
  refine DR (fun h4=>?_) (fun g4=>?_)
  ·have h4:=Kz.mp h4
   refine⟨_,rfl,_,rfl,_,_,rfl,rfl,_,rfl,_,rfl,_,_,_,_,rfl,rfl,gn1,e5,_,rfl,_,_,rfl,.inl (SqL.of g1),_,_,rfl,rfl,(by rw[vl];exact pn),?_⟩
   rw[vl]
   dsimp only
   rw[ep]
   refine⟨_,_,_,_,rfl,rfl,g1,Afu (by omega) (by rw[vl];omega),?_⟩
   rw[Ate,Aft]
   exact⟨_,rfl,fin _ (fun e=>by omega) fun _=>sb _ (by omega)⟩
  have g4:f≠4:=fun e=>g4 (by rw[e])
  exact⟨_,rfl,k l sh H1 s1 g1 (fun _=>rfl) fun e=>by omega⟩
theorem AoO{CX:CXT}{k:Nat}{f:Addr}{fd:FuncData}{ps:List Str}{s1 s2:Sp}(F:Bp P w K mg base CX k f fd ps s1)(h:∀ vs H Q E,s2 vs H Q E→s1 vs H Q E):Bp P w K mg base CX k f fd ps s2 :=
 ⟨fun vs H Q E q=>F.len vs H Q E (h _ _ _ _ q),fun A outer s H args us vs Q E hr he hb hv q=>F.run A outer s H args us vs Q E hr he hb hv (h _ _ _ _ q)⟩
def Due (cl:List (List Nat))(sh:List Int)(way:Int)(x:Str):Prop:=(Aa3 cl∧x = "NoCloth")∨∃ m n,Cl cl m n∧m+n<64∧(((way≠0→Aa5 n sh)∧x = "told")∨(way≠0∧¬Aa5 n sh∧x = "NoShuttle"))
def AmX (K:PySem.W.Frag)(tT:Addr):Sp:=fun vs H Q _=>∃(way:Int) (a b:Addr) (cl:List (List Nat)) (sh:List Int) (x:Str),vs=[.int way,.ref a,.ref b]∧SqL K H a (vS cl)∧SqL K H b (vI sh)∧Tb tT "layers_of.<locals>.<lambda>" H∧Due cl sh way x∧∀ H',Ea H H'→Tb tT "layers_of.<locals>.<lambda>" H'→Q (.str x) H'
theorem Ahe{tc tT:Addr}(T:Txt K mg t)(hcd:t.CZ.code=.ref tc)(hCd:PySem.W.CodeHd base tc tT)(hBm:Bm mg base):Bp P w K mg base CX0 10 t.Gx t.KD ["way", "given", "shuttles"] (AmX K tT):=by
 refine AoO (Iv (AfI T hcd hCd hBm) (Iv (AfJ T hcd hCd hBm) (AfK T hcd hCd hBm))) fun vs H Q E h=>?_
 obtain⟨way,a,b,cl,sh,x,rfl,hS,hB,tb,(⟨hc,rfl⟩ | ⟨m,n,C,mn,(⟨g,rfl⟩ | ⟨w0,g,rfl⟩)⟩),k⟩:=h
 ·exact .inr (.inl ⟨way,a,.ref b,cl,rfl,hS,hc,tb,k⟩)
 ·exact .inl ⟨way,a,b,cl,m,n,sh,rfl,hS,C,mn,tb,hB,g,k⟩
 ·exact .inr (.inr ⟨way,a,b,cl,m,n,sh,rfl,w0,hS,C,hB,g,tb,k⟩)
end
end Mine
set_option maxHeartbeats 600000
namespace Mine
open PySem L2
section
variable {P:Program}{w:World}{K:PySem.W.Frag}{mg:Str→Option Value}{base:Heap}{t:Adr}
theorem Al4{G:Prop}{R:Addr→Hp→Prop}(C:Addr→Hp→Prop)(main:(∀ x H,C x H→R x H)→G)(rest:∀ x H,C x H→R x H):G:=main rest
theorem AoP{i:Nat}{v:V}{σ σ':St}{H:Hp}{b:TS}{D:Ends}(h:σ.set i (some v)=σ')(k:b D σ' H):Apg (AlK (tC v) (UG i)) b D σ H:=by subst h;exact k
def AfO (K:PySem.W.Frag)(tT:Addr):Sp:=fun vs H Q _=>∃(a:Addr) (ns:List Int),vs=[.ref a]∧SqL K H a (vI ns)∧ns.length≤63∧Tb tT "layers_of.<locals>.<lambda>" H∧∀ H',Q (.bl true) H'
theorem AfP{K:PySem.W.Frag}{tT:Addr}{H:Hp}{a:Addr}{ns:List Int}(hl:ns.length≤63)(hS:SqL K H a (ns.map V.int))(tb:Tb tT "layers_of.<locals>.<lambda>" H):AfO K tT [.ref a] H (fun v _=>v=.bl true) fun _ _ _=>False:=⟨a,ns,rfl,hS,hl,tb,fun _=>rfl⟩
theorem AoQ{tc tT:Addr}(T:Txt K mg t)(hcd:t.CZ.code=.ref tc)(hCd:PySem.W.CodeHd base tc tT)(hBm:Bm mg base):Bp P w K mg base CX0 11 t.Ad8 t.Ant ["script"] (AfO K tT):=by
 have AeD:Bp P w K mg base CX0 1 t.Gk t.QT _ _:=AdK T
 have Ahf:Bp P w K mg base CX0 1 t.Hv t.Vu _ _:=AfL T
 have YD:Bp P w K mg base CX0 2 t.Dc t.J0 _ _:=XR T
 have Vn:Bp P w K mg base CX0 1 t.Ce t.Ik _ _:=S6 T
 have YF:Bp P w K mg base CX0 10 t.Gx t.KD _ _:=Ahe T hcd hCd hBm
 refine T.law.F.ok Jy (fun vs H Q E h=>?_) (fun cdv A outer s H vs Q E hr h=>?_)
 ·obtain⟨a,ns,rfl,_⟩:=h
  rfl
 ·obtain⟨a,ns,rfl,hS,hl,tb,k⟩:=h
  have hsz:sizeLine=16777216:=sizeLine_eq
  refine⟨_,(Ac (Aq (i:=1) Jy.nd rfl (Or.inr rfl) (Bw (AeD.mono (by decide)) hr rfl T.Pk.m T.Pk.F.kp T.Pk.b .nil Fz (Aa (pv 0) (Aa Ag Ad))))
   (Ac (Aq (i:=2) Jy.nd rfl (Or.inl rfl) (Ao RP rfl T.AgW Adh (Aa Ag (Aa (Bd Vo (Bd Dv (Bv (Bg (K:=K)) (pv 1) Ag (fun _ _=>rfl)) Ag) Ag) Ad))))
   (Ac (Aq (i:=3) Jy.nd rfl (Or.inl rfl) (Ao RP rfl T.AgW Adh (Aa Ag (Aa (Bd Vo (Bd Dv (Bv (Bg (K:=K)) (pv 1) Ag (fun _ _=>rfl)) Ag) Ag) Ad))))
   (Ac (Aq (i:=4) Jy.nd rfl (Or.inl rfl) (Bd Gq Ag (Bd Dv (Bv (Bg (K:=K)) (pv 1) Ag (fun _ _=>rfl)) Ag)))
   (Ac (Cu (An Fi (pv 2) Ag (Be _))
    (Ah (Aq (i:=4) Jy.nd rfl (Or.inl rfl) (Bd Gq Ag (Bd Dv (Bv (Bg (K:=K)) (pv 1) Ag (fun _ _=>rfl)) Ag))))
    Bo)
   (Ac (Aq (i:=5) Jy.nd rfl (Or.inl rfl) (Bw (Ahf.mono (by decide)) hr rfl T.Xy.m T.Xy.F.kp T.Xy.b .nil Fz (Aa (pv 1) (Aa (Bd Gq Ag (Bd Dv (Bv (Bg (K:=K)) (pv 1) Ag (fun _ _=>rfl)) Ag)) (Aa (pv 4) (Aa (Bd Gq Ag (Bd Dv (Bv (Bg (K:=K)) (pv 1) Ag (fun _ _=>rfl)) Ag)) Ad))))))
   (Ac (Aak (i:=6) (Hh.mk (BL:=[1]) (Nc:=["j", "numbers"]) rfl (by decide +kernel) (by decide +kernel) (GP (sc0:=Ab Vs) rfl (by decide +kernel)) rfl rfl rfl (by decide +kernel) (fun k j h=>match k,h with | 0,h=>by obtain rfl:=Option.some.inj h;exact⟨_,rfl,rfl,rfl⟩ | _+1,h=>by simp at h)) rfl Jy.nd rfl rfl (Gm rfl T.GX (Aa (pv 4) Ad)) (fun _ _ _ _ _=>.nil) (fun _ _ _ _ _=>(Bd Dv (Bd Xn (Bv (Bg (K:=K)) (pv 1) (Bd Gq Ag (Bd Dv (Bd Gq (Bd QQ Ag (pv 0)) Ag) Ag)) (fun _ _=>rfl)) Ag) Ag)) rfl)
   (Ac (Aq (i:=7) Jy.nd rfl (Or.inl rfl) (pv 5))
   (Ac (Cu (An Yj (pv 2) Ag (Be _))
    (Ah (Aq (i:=7) Jy.nd rfl (Or.inl rfl) (Bw (YD.mono (by decide)) hr rfl T.Jc.m T.Jc.F.kp T.Jc.b .nil Fz (Aa (pv 5) (Aa (pv 2) (Aa (pv 1) Ad))))))
    Bo)
   (Ac (Aq (i:=8) Jy.nd rfl (Or.inl rfl) (Bw (Vn.mono (by decide)) hr rfl T.Hl.m T.Hl.F.kp T.Hl.b .nil Fz (Aa (pv 6) (Aa (pv 3) (Aa (pv 1) Ad)))))
   (Ac (Hx PassesOwn.never rfl (Gm rfl T.GX (Aa Ag Ad)) (Dj (i:=9) Jy.nd rfl (Or.inl rfl))
    (Ac (Aq (i:=10) Jy.nd rfl (Or.inl rfl) Bx)
    (Ac (Cu (PW.pt (pw_and (An Yj (pv 3) Ag (Be _)) (pw_and1 (An Yj (pv 9) Ag (Be _)))))
     (Ah (Aq (i:=10) Jy.nd rfl (Or.inl rfl) Bx))
     Bo)
    (Ac (Cu (An Yj (pv 2) Ag (Be _))
     (Ah (Aq (i:=10) Jy.nd rfl (Or.inl rfl) Bx))
     Bo)
    (Ac (Cu (An Aad (Bw (YF.mono (by decide)) hr rfl T.HW.m T.HW.F.kp T.HW.b .nil Fz (Aa (pv 9) (Aa (Ib (Jr (K:=K)) rfl T.Ab8 Xo (Aa (pv 7) Ad)) (Aa (Ib (Jr (K:=K)) rfl T.Ab8 Xo (Aa (pv 8) Ad)) Ad)))) (pv 10) (Be _))
     (Ah (BP Aif))
     Bo)
    (Ac (Cu (An Aad (Bw (YF.mono (by decide)) hr rfl T.HW.m T.HW.F.kp T.HW.b .nil Fz (Aa (pv 9) (Aa (pv 5) (Aa (pv 6) Ad)))) Bx (Be _))
     (Ah (BP Aif))
     Bo)
    (Ah (Cu (An Aad (Bw (YF.mono (by decide)) hr rfl T.HW.m T.HW.F.kp T.HW.b .nil Fz (Aa (pv 9) (Aa (Ib (Jr (K:=K)) rfl T.Ab8 Xo (Aa (pv 7) Ad)) (Aa (Ib (Jr (K:=K)) rfl T.Ab8 Xo (Aa (pv 8) Ad)) Ad)))) (pv 10) (Be _))
     (Ah (BP Aif))
     Bo))))))))
   (Ah (BP Aif))))))))))))),?_⟩
  refine⟨_,rfl,a,ns,63,rfl,hS,hl,by decide,by decide,fun ln ks H1 s1 nln hln hN=>?_⟩
  obtain⟨c0,e0,_⟩:=hN.at (i:=0) (by decide) (by decide)
  obtain⟨c1,e1,_⟩:=hN.at (i:=1) (by decide) (by decide)
  obtain⟨c2,e2,_⟩:=hN.at (i:=2) (by decide) (by decide)
  obtain⟨c3,e3,_⟩:=hN.at (i:=3) (by decide) (by decide)
  obtain⟨c7,e7,_⟩:=hN.at (i:=7) (by decide) (by decide)
  have gn:SqL K H1 ln (vI ks):=SqL.of hln
  have tb1:=tb.same s1
  have q0:=AtT c0 (show(9:Int)≠0 by decide)
  have q1:=AtS c0 (show(0:Int)<9 by decide)
  have q2:=AtT c1 (show(6:Int)≠0 by decide)
  have q3:=AtS c1 (show(0:Int)<6 by decide)
  refine⟨_,rfl,_,_,_,_,rfl,rfl,gn,e0,_,_,rfl,rfl,(by show(0:Int)<9;decide),_,_,rfl,rfl,_,_,rfl,?_⟩
  obtain⟨f,ef⟩:∃ f:Int,f=(if c0%9-2>0 then c0%9-2 else 0):=⟨_,rfl⟩
  have f0:0≤f:=by rw[ef];split <;> omega
  have f6:f≤6:=by rw[ef];split <;> omega
  dsimp only
  rw[← ef]
  refine⟨_,rfl,_,_,_,_,rfl,rfl,gn,e1,_,_,rfl,rfl,(by show(0:Int)<6;decide),_,_,rfl,rfl,_,_,rfl,?_⟩
  obtain⟨o,eo⟩:∃ o:Int,o=(if c1%6-1>0 then c1%6-1 else 0):=⟨_,rfl⟩
  have o0:0≤o:=by rw[eo];split <;> omega
  have o4:o≤4:=by rw[eo];split <;> omega
  dsimp only
  rw[← eo]
  obtain⟨n0,en0,n01,n05⟩:=AhR c3 (z:=5) (by decide) (y:=5) (by decide)
  refine⟨_,rfl,_,_,_,_,rfl,rfl,gn,e3,_,_,rfl,rfl,(by show(0:Int)<5;decide),_,_,rfl,rfl,?_⟩
  dsimp only
  rw[en0]
  apply Alv (fun n=>1≤n∧n≤5∧(f=5→2≤n))
  ·intro rest
   refine⟨_,rfl,rfl,_,rfl,?_⟩
   refine DR ?tt ?ff
   case ff =>
    intro h5
    obtain⟨nn,enn⟩:∃ nn,nn=n0:=⟨_,rfl⟩
    rw[← enn]
    exact rest nn ⟨by omega,by omega,fun e=>absurd (by rw[e]) h5⟩
   case tt =>
    intro _
    refine⟨_,rfl,_,_,_,_,rfl,rfl,gn,e3,_,_,rfl,rfl,(by show(0:Int)<4;decide),_,_,rfl,rfl,?_⟩
    have h1:=AtT c3 (show(4:Int)≠0 by decide)
    have h2:=AtS c3 (show(0:Int)<4 by decide)
    obtain⟨y2,ey2⟩:∃ y2:Nat,2+c3%4=(y2:Int):=⟨(2+c3%4).toNat,by omega⟩
    dsimp only
    rw[ey2]
    exact rest y2 ⟨by omega,by omega,fun _=>by omega⟩
  rintro n ⟨n1,n5,nf⟩
  obtain⟨m,em,m1,m5⟩:=AhR c2 (z:=5) (by decide) (y:=5) (by decide)
  obtain⟨y,ey,y1,_⟩:=AhR c7 (z:=3) (by decide) (y:=3) (by decide)
  refine⟨_,rfl,_,rfl,_,_,_,_,rfl,rfl,gn,e2,_,_,rfl,rfl,(by show(0:Int)<5;decide),_,_,rfl,rfl,_,rfl,_,rfl,_,_,_,_,rfl,rfl,gn,e7,_,_,rfl,rfl,(by show(0:Int)<3;decide),_,_,rfl,rfl,ln,ks,m,n,y,(by show[V.ref ln,V.int (1+c2%5),V.int (n:Int),V.int (1+c7%3)]=_;rw[em,ey]),gn,hN,m1,by omega,n1,by omega,y1,fun lg cl H2 s2 nlg g2 C=>?_⟩
  have gn2:=s2.seq gn
  have tb2:=tb1.same s2
  refine⟨_,rfl,_,rfl,(by omega),(by omega),?_⟩
  rw[Ate]
  refine Nv (lo:=0) (n:=n) (fun i ys H4=>H4=H2∧∃ sh:List Int,ys=vI sh∧sh.length=i∧∀ z∈sh,0≤z∧z<8) ⟨rfl,[],rfl,rfl,fun _ h=>absurd h (by simp)⟩ ?_ ?_ ?_ ?_
  ·rintro i ys H4 hi ⟨rfl,sh,rfl,shl,_⟩
   rw[Bs,shl]
   exact AsI _
  ·omega
  ·rintro i ys H4 hi ⟨rfl,sh,rfl,shl,shb⟩
   have b1:=AtT (3*(0+(i:Int))+2) (show(55:Int)≠0 by decide)
   have b2:=AtS (3*(0+(i:Int))+2) (show(0:Int)<55 by decide)
   obtain⟨z,ez,_⟩:=hN.at (i:=8+(3*(0+(i:Int))+2)%55) (by omega) (by omega)
   have c1:=AtT (z / 5) (show(8:Int)≠0 by decide)
   have c2:=AtS (z / 5) (show(0:Int)<8 by decide)
   refine Ky.no ?_
   refine⟨_,rfl,_,rfl,_,_,rfl,rfl,.inl ⟨by decide,by decide⟩,_,_,rfl,rfl,_,_,rfl,rfl,(by show(0:Int)<55;decide),_,_,rfl,rfl,_,_,_,_,rfl,rfl,gn2,ez,_,_,rfl,rfl,⟨by decide,by decide⟩,_,_,rfl,rfl,(by show(0:Int)<8;decide),?_⟩
   refine CN.of hi ⟨rfl,sh++[z / 5%8],Yt _ _,by rw[AsN,shl];rfl,fun d hd=>?_⟩
   rcases List.mem_append.mp hd with h1 | h1
   ·exact shb d h1
   ·rw[List.mem_singleton.mp h1];omega
  rintro ys H4 lsh ⟨rfl,sh,rfl,shl,shb⟩ Ary
  have s5:Bl H4 (upd H4 lsh (.lst (vI sh))):=.upd Ary
  have g5:(upd H4 lsh (.lst (vI sh))) lsh=some (.lst (vI sh)):=Ae
  generalize upd H4 lsh (.lst (vI sh))=H5 at s5 g5 ⊢
  have gg5:=s5 _ _ g2
  have gn5:=s5.seq gn2
  have tb5:=tb2.same s5
  refine⟨_,rfl,?_⟩
  apply Al4 (fun lb H6=>∃ clb,Bl H5 H6∧H6 lb=some (.lst (vS clb))∧(f=0→clb=cl)∧(0<f→Aa3 clb))
  ·intro rest
   refine⟨_,rfl,_,_,rfl,rfl,_,rfl,?_⟩
   refine DR ?tt ?ff
   case tt =>
    intro hf
    refine⟨_,rfl,_,rfl,_,rfl,lg,ln,cl,m,n,f,ks,rfl,gg5,C,gn5,hN,by omega,f6,nf,fun l clb H6 s6 g6 nc=>?_⟩
    exact rest l H6 ⟨clb,s6,g6,fun e=>by omega,fun _=>nc⟩
   case ff =>
    intro hf
    exact rest lg H5 ⟨cl,.refl _,gg5,fun _=>rfl,fun h=>absurd h hf⟩
  rintro lb H6 ⟨clb,s6,g6,cb0,cb1⟩
  refine⟨_,rfl,_,rfl,_,rfl,lsh,ln,sh,o,ks,rfl,SqL.of (s6 _ _ g5),by omega,by omega,shb,s6.seq gn5,hN,o0,o4,fun lo sho H7 s7 g7 od0 od1=>?_⟩
  have v7:=s6.trans s7
  have gg7:=v7 _ _ gg5
  have gs7:=v7 _ _ g5
  have gb7:=s7 _ _ g6
  have tb7:=tb5.same v7
  refine⟨_,rfl,(by decide),(by decide),?_⟩
  refine Jb (lo:=0) (n:=4) (fun i σ H9=>∃ v9 v10,σ=[some (.ref a),some (.ref ln),some (.int f),some (.int o),some (.int (n:Int)),some (.ref lg),some (.ref lsh),some (.ref lb),some (.ref lo),v9,v10]∧Ea H7 H9∧Tb tT "layers_of.<locals>.<lambda>" H9) ⟨none,none,rfl,fun b o h _=>h,tb7⟩ ?_ ?_
  ·rintro i σ H9 hi ⟨v9,v10,rfl,x9,tb9⟩
   have B9:=x9.lst gb7
   have O9:=x9.lst g7
   obtain⟨w0,ew0⟩:∃ w0:Str,w0 = "told" := ⟨_,rfl⟩
   refine AoP (σ':=[some (.ref a),some (.ref ln),some (.int f),some (.int o),some (.int (n:Int)),some (.ref lg),some (.ref lsh),some (.ref lb),some (.ref lo),some (.int (0+(i:Int))),some (.str w0)]) (by rw[ew0];rfl) ?_
   apply AdG (fun x=>Due clb sho (0+(i:Int)) x)
   ·intro rest
    apply AdG (fun x=>(0<o∧0<i∧x = "NoShuttle")∨(¬(0<o∧0<i)∧x = "told"))
    ·intro Al5
     obtain⟨w2,ew2⟩:∃ w2,w2=w0:=⟨_,rfl⟩
     rw[← ew2]
     rw[← ew2] at ew0
     refine⟨_,rfl,_,_,rfl,rfl,_,rfl,?_⟩
     refine DR ?tt ?ff
     case ff=>exact fun h=>XJ (Al5 w2 (.inr ⟨fun z=>h z.1,ew0⟩))
     case tt =>
      intro ho
      refine⟨_,rfl,_,_,rfl,rfl,_,rfl,?_⟩
      refine DR ?t2 ?f2
      case f2=>exact fun h=>Al5 w2 (.inr ⟨fun z=>h (by omega),ew0⟩)
      case t2=>exact fun h=>Al5 _ (.inl ⟨ho,by omega,rfl⟩)
    rintro w1 hw1
    refine⟨_,rfl,_,_,rfl,rfl,_,rfl,?_⟩
    refine DR ?tt ?ff
    case ff =>
     intro hf
     have f00:f=0:=by omega
     have ec:=cb0 f00
     refine rest w1 (.inr ⟨m,n,by rw[ec];exact C,by omega,?_⟩)
     rcases hw1 with ⟨ho,hi0,rfl⟩ | ⟨hno,rfl⟩
     ·exact .inr ⟨by omega,by rw[← shl];exact od1 (by omega),rfl⟩
     ·refine .inl ⟨fun hw=>?_,rfl⟩
      have oz:o=0:=by
       by_cases hz:0<o
       ·exact absurd ⟨hz,by omega⟩ hno
       ·omega
      rw[od0 oz]
      exact⟨shl,shb⟩
    case tt=>exact fun hf=>rest _ (.inl ⟨cb1 hf,rfl⟩)
   rintro x dx
   refine⟨_,rfl,_,rfl,_,_,rfl,.inl (SqL.of B9),fun la na=>?_⟩
   have sa:Bl H9 (upd H9 la (.lst (vS clb))):=.upd na
   have ga:(upd H9 la (.lst (vS clb))) la=some (.lst (vS clb)):=Ae
   generalize upd H9 la (.lst (vS clb))=H9a at sa ga ⊢
   refine⟨_,rfl,_,_,rfl,.inl (SqL.of (sa _ _ O9)),fun lb' nb=>?_⟩
   have sb:Bl H9a (upd H9a lb' (.lst (vI sho))):=.upd nb
   have gb:(upd H9a lb' (.lst (vI sho))) lb'=some (.lst (vI sho)):=Ae
   generalize upd H9a lb' (.lst (vI sho))=H9b at sb gb ⊢
   have va:=sa.trans sb
   refine⟨0+(i:Int),la,lb',clb,sho,x,rfl,SqL.of (sb _ _ ga),SqL.of gb,tb9.same va,dx,fun H10 x10 Arz=>?_⟩
   have z10:=va.toT.trans x10
   refine⟨_,rfl,rfl,_,rfl,?_⟩
   refine Aah rfl ?_
   have Ar0:=(x9.trans z10).lst gg7
   have Ar1:=(x9.trans z10).lst gs7
   refine⟨_,rfl,_,rfl,_,rfl,0+(i:Int),lg,lsh,cl,sh, "told", rfl,SqL.of Ar0,SqL.of Ar1,Arz,.inr ⟨m,n,C,by omega,.inl ⟨fun _=>⟨shl,shb⟩,rfl⟩⟩,fun H11 x11 Ar2=>?_⟩
   refine⟨rfl,_,rfl,?_⟩
   refine Aah rfl ?_
   have y11:=(x9.trans z10).trans x11
   have B11:=y11.lst gb7
   have O11:=y11.lst g7
   refine⟨_,rfl,_,rfl,_,_,rfl,.inl (SqL.of B11),fun lc nc=>?_⟩
   have sc':Bl H11 (upd H11 lc (.lst (vS clb))):=.upd nc
   have gc:(upd H11 lc (.lst (vS clb))) lc=some (.lst (vS clb)):=Ae
   generalize upd H11 lc (.lst (vS clb))=AmY at sc' gc ⊢
   refine⟨_,rfl,_,_,rfl,.inl (SqL.of (sc' _ _ O11)),fun ld nd=>?_⟩
   have sd:Bl AmY (upd AmY ld (.lst (vI sho))):=.upd nd
   have gd:(upd AmY ld (.lst (vI sho))) ld=some (.lst (vI sho)):=Ae
   generalize upd AmY ld (.lst (vI sho))=AsG at sd gd ⊢
   have vc:=sc'.trans sd
   refine⟨0+(i:Int),lc,ld,clb,sho,x,rfl,SqL.of (sd _ _ gc),SqL.of gd,Ar2.same vc,dx,fun H12 x12 Ar3=>?_⟩
   have z12:=vc.toT.trans x12
   refine⟨_,rfl,rfl,_,rfl,?_⟩
   refine Aah rfl ?_
   exact⟨_,_,rfl,y11.trans z12,Ar3⟩
  ·rintro σ H9 ⟨v9,v10,rfl,x9,tb9⟩
   exact k _
end
theorem AoR{P:Program}{w:World}{K:PySem.W.Frag}{h:Heap}{mg:Str→Option Value}{fa tc tT:Addr}{t1:Value}{t2:Option Addr}{t3:Array (Option Value)}{tvs:Array Value}{Dw:Addr}{Ahg Acj:Option Addr}{Ahh:Array (Option Value)}{Ahi Ack Acl Acm V0 Acn:Value}
    {CG:Addr}{Aa6 Pn:Option Addr}{Aa7:Array (Option Value)}{Aa8 Pr Pu Px JZ Py:Value}
    {Fg:Addr}{AeE Yk:Option Addr}{AeF:Array (Option Value)}{AeG Yl Ym Yn QX Yo:Value}
    {Hu:Addr}{AfQ Aa9:Option Addr}{AfR:Array (Option Value)}{AfS AaA AaB AaC S7 AaD:Value}
    {GQ:Addr}{AfT AaE:Option Addr}{AfU:Array (Option Value)}{AfV AaF AaG AaH S8 AaI:Value}
    {JD:Addr}{AhU AdN:Option Addr}{AhV:Array (Option Value)}{AhW AdO AdP AdQ YG AdR:Value}
    {GR:Addr}{AfW S9:Option Addr}{AfX:Array (Option Value)}{AfY SJ SM SN Ka SQ:Value}
    {Di:Addr}{AbC R5:Option Addr}{AbD:Array (Option Value)}{AbE R6 R7 R8 KR R9:Value}
    {CK:Addr}{Ahj Aco:Option Addr}{Ahk:Array (Option Value)}{Ahl Acp Acq Acr V1 Acs:Value}
    {FP:Addr}{Ahm Acu:Option Addr}{Ahn:Array (Option Value)}{Aho Acv Acw Acx V2 Acy:Value}
    {Eu:Addr}{AfZ AaJ:Option Addr}{Aga:Array (Option Value)}{Agb AaK AaL AaM SX AaN:Value}
    {Ci:Addr}{AaO P0:Option Addr}{AaP:Array (Option Value)}{AaQ PB PJ PN Kc PQ:Value}
    {Gj:Addr}{AdS V3:Option Addr}{AdT:Array (Option Value)}{AdU V4 V5 V6 NZ V7:Value}
    {JF:Addr}{AhX AdV:Option Addr}{AhY:Array (Option Value)}{AhZ AdW AdX AdY YH AdZ:Value}
    {DP:Addr}{Aea V8:Option Addr}{Aeb:Array (Option Value)}{Aec V9 VB VD Oa VF:Value}
    {IK:Addr}{Ahp Acz:Option Addr}{Ahq:Array (Option Value)}{Ahr Ac0 Ac1 Ac2 VG Ac3:Value}
    {Lz:Addr}{AjK AeY:Option Addr}{AjL:Array (Option Value)}{AjM AeZ Afa Afb AbF Afc:Value}
    {Gk:Addr}{Aed VH:Option Addr}{Aee:Array (Option Value)}{Aef VJ VL VM Ob VN:Value}
    {Hv:Addr}{Agc AaR:Option Addr}{Agd:Array (Option Value)}{Age AaS AaT AaU Tc AaV:Value}
    {Gx:Addr}{Ahs Ac4:Option Addr}{Aht:Array (Option Value)}{Ahu Ac5 Ac6 Ac7 VP Ac8:Value}
    {Fl:Addr}{AcE UL:Option Addr}{AcF:Array (Option Value)}{AcG UT UW Va Mt Vb:Value}
    {Dc:Addr}{XS Mx:Option Addr}{XX:Array (Option Value)}{Yb My Mz M3 Jm M4:Value}
    {Ce:Addr}{Td Kd:Option Addr}{Te:Array (Option Value)}{Tf Ke Kf Kg Hz Kh:Value}
    {Ad8:Addr}{AoS Al6:Option Addr}{AoT:Array (Option Value)}{AoU Al7 Al8 Al9 Aia AlA:Value}
    {Aeg:Tok}
    {Aib:Tok}
    {By:Addr}
    {BR:Addr}
    {Ar:Addr}
    {Ai:Addr}
    {Ba:Addr}
    {Av:Addr}
    {Br:Addr}
    {Aw:Addr}
    {Af:Addr}
    {Ax:Addr}
    {Bb:Addr}
    {Am:Addr}
    {Bc:Addr}
    {BV:Addr}
    {Dy:Addr}{VR LQ:Option Addr}{VV:Array (Option Value)}{Wa LR Ma Mg IW Mh:Value}
    {Gy:Addr}{AcH Vc:Option Addr}{AcI:Array (Option Value)}{AcJ Vd Ve Vf Mu Vg:Value}
    {Em:Addr}{YJ Oc:Option Addr}{YK:Array (Option Value)}{YL Od Oe Og J4 Oh:Value}
    {Cj:Addr}{AaW PX:Option Addr}{AaX:Array (Option Value)}{AaY Qa Qc Qd Kl Qe:Value}
    {EY:Addr}{AaZ Qf:Option Addr}{Aba:Array (Option Value)}{Abb Qg Qh Qi Km Qj:Value}
    {En:Addr}{YM Oi:Option Addr}{YQ:Array (Option Value)}{YS Oj Ol Om J5 Oo:Value}
    {FQ:Addr}{AbG RB:Option Addr}{AbH:Array (Option Value)}{AbI RC RD RG KY RJ:Value}
    {Eo:Addr}{YT Oq:Option Addr}{YW:Array (Option Value)}{YX Ot Ou Ow J7 Ox:Value}
    {BW:Addr}{Yc M5:Option Addr}{Yd:Array (Option Value)}{Ye M6 M7 M8 Jo M9:Value}
    {Ep:Addr}{YZ Oz:Option Addr}{Za:Array (Option Value)}{Zb O1 O2 O3 J8 O4:Value}
    {Fb:Addr}{Abd Qk:Option Addr}{Abe:Array (Option Value)}{Abf Ql Qm Qn Ko Qo:Value}
    {DW:Addr}{Yg MF:Option Addr}{Yh:Array (Option Value)}{Yi MJ MK MN Jp MP:Value}
    {Fd:Addr}{Abg Qp:Option Addr}{Abh:Array (Option Value)}{Abi Qq Qs Qt Kp Qu:Value}
    {G3:Addr}{AcK Vh:Option Addr}{AcL:Array (Option Value)}{AcM Vi Vj Vk Mv Vl:Value}
    (X:K.In h) (G:h.Ns mainGlobals mg) (hfa:mg "law" = some (.ref fa))
    (Zc:PySem.W.nsIn K mainGlobals "measured" = some (some (.ref Dw)))
    (Tg:K.lookup Dw=some ⟨Ahi,Ahg,.func (PySem.W.fnOf "measured" "measured" (Ak Hj) (Aj Hj) (Ab Hj) .none Ack Acl Acm Acj V0 Acn),Ahh⟩)
    (Th:PySem.W.codeIn K V0 "measured" = true)
    (Ti:PySem.W.keepIn K (.ref Dw)=true)
    (KZ:PySem.W.nsIn K mainGlobals "measured_texts" = some (some (.ref CG)))
    (Je:K.lookup CG=some ⟨Aa8,Aa6,.func (PySem.W.fnOf "measured_texts" "measured_texts" (Ak Cw) (Aj Cw) (Ab Cw) .none Pr Pu Px Pn JZ Py),Aa7⟩)
    (Jf:PySem.W.codeIn K JZ "measured_texts" = true)
    (Jg:PySem.W.keepIn K (.ref CG)=true)
    (Tj:PySem.W.nsIn K mainGlobals "check_pick" = some (some (.ref Fg)))
    (Nf:K.lookup Fg=some ⟨AeG,AeE,.func (PySem.W.fnOf "check_pick" "check_pick" (Ak Ff) (Aj Ff) (Ab Ff) .none Yl Ym Yn Yk QX Yo),AeF⟩)
    (Ng:PySem.W.codeIn K QX "check_pick" = true)
    (Nh:PySem.W.keepIn K (.ref Fg)=true)
    (Wb:PySem.W.nsIn K mainGlobals "end_signs" = some (some (.ref Hu)))
    (Qv:K.lookup Hu=some ⟨AfS,AfQ,.func (PySem.W.fnOf "end_signs" "end_signs" (Ak Fj) (Aj Fj) (Ab Fj) .none AaA AaB AaC Aa9 S7 AaD),AfR⟩)
    (Qw:PySem.W.codeIn K S7 "end_signs" = true)
    (Qx:PySem.W.keepIn K (.ref Hu)=true)
    (Wc:PySem.W.nsIn K mainGlobals "scores_of" = some (some (.ref GQ)))
    (Qy:K.lookup GQ=some ⟨AfV,AfT,.func (PySem.W.fnOf "scores_of" "scores_of" (Ak Es) (Aj Es) (Ab Es) .none AaF AaG AaH AaE S8 AaI),AfU⟩)
    (Qz:PySem.W.codeIn K S8 "scores_of" = true)
    (Q0:PySem.W.keepIn K (.ref GQ)=true)
    (AbJ:PySem.W.nsIn K mainGlobals "tops_of" = some (some (.ref JD)))
    (X4:K.lookup JD=some ⟨AhW,AhU,.func (PySem.W.fnOf "tops_of" "tops_of" (Ak Ie) (Aj Ie) (Ab Ie) .none AdO AdP AdQ AdN YG AdR),AhV⟩)
    (X5:PySem.W.codeIn K YG "tops_of" = true)
    (X6:PySem.W.keepIn K (.ref JD)=true)
    (Q3:PySem.W.nsIn K mainGlobals "layers_of" = some (some (.ref GR)))
    (Mi:K.lookup GR=some ⟨AfY,AfW,.func (PySem.W.fnOf "layers_of" "layers_of" (Ak DY) (Aj DY) (Ab DY) .none SJ SM SN S9 Ka SQ),AfX⟩)
    (Q4:PySem.W.codeIn K Ka "layers_of" = true)
    (Q5:PySem.W.keepIn K (.ref GR)=true)
    (Mw:PySem.W.nsIn K mainGlobals "layer_numbers" = some (some (.ref Di)))
    (Jv:K.lookup Di=some ⟨AbE,AbC,.func (PySem.W.fnOf "layer_numbers" "layer_numbers" (Ak Cv) (Aj Cv) (Ab Cv) .none R6 R7 R8 R5 KR R9),AbD⟩)
    (Jw:PySem.W.codeIn K KR "layer_numbers" = true)
    (Jx:PySem.W.keepIn K (.ref Di)=true)
    (Zd:PySem.W.nsIn K mainGlobals "seams_of" = some (some (.ref CK)))
    (Tn:K.lookup CK=some ⟨Ahl,Ahj,.func (PySem.W.fnOf "seams_of" "seams_of" (Ak Gs) (Aj Gs) (Ab Gs) .none Acp Acq Acr Aco V1 Acs),Ahk⟩)
    (Tp:PySem.W.codeIn K V1 "seams_of" = true)
    (Tq:PySem.W.keepIn K (.ref CK)=true)
    (Ze:PySem.W.nsIn K mainGlobals "tubes_of" = some (some (.ref FP)))
    (Tr:K.lookup FP=some ⟨Aho,Ahm,.func (PySem.W.fnOf "tubes_of" "tubes_of" (Ak Gu) (Aj Gu) (Ab Gu) .none Acv Acw Acx Acu V2 Acy),Ahn⟩)
    (Tt:PySem.W.codeIn K V2 "tubes_of" = true)
    (Tu:PySem.W.keepIn K (.ref FP)=true)
    (Wd:PySem.W.nsIn K mainGlobals "sheets_of" = some (some (.ref Eu)))
    (Q6:K.lookup Eu=some ⟨Agb,AfZ,.func (PySem.W.fnOf "sheets_of" "sheets_of" (Ak Et) (Aj Et) (Ab Et) .none AaK AaL AaM AaJ SX AaN),Aga⟩)
    (Q7:PySem.W.codeIn K SX "sheets_of" = true)
    (Q8:PySem.W.keepIn K (.ref Eu)=true)
    (La:PySem.W.nsIn K mainGlobals "check_shuttles" = some (some (.ref Ci)))
    (Jh:K.lookup Ci=some ⟨AaQ,AaO,.func (PySem.W.fnOf "check_shuttles" "check_shuttles" (Ak Cy) (Aj Cy) (Ab Cy) .none PB PJ PN P0 Kc PQ),AaP⟩)
    (Ji:PySem.W.codeIn K Kc "check_shuttles" = true)
    (Jj:PySem.W.keepIn K (.ref Ci)=true)
    (QZ:PySem.W.nsIn K mainGlobals "seams_along" = some (some (.ref Gj)))
    (Le:K.lookup Gj=some ⟨AdU,AdS,.func (PySem.W.fnOf "seams_along" "seams_along" (Ak Eb) (Aj Eb) (Ab Eb) .none V4 V5 V6 V3 NZ V7),AdT⟩)
    (Lg:PySem.W.codeIn K NZ "seams_along" = true)
    (Lh:PySem.W.keepIn K (.ref Gj)=true)
    (AbK:PySem.W.nsIn K mainGlobals "bearers" = some (some (.ref JF)))
    (X7:K.lookup JF=some ⟨AhZ,AhX,.func (PySem.W.fnOf "bearers" "bearers" (Ak Hn) (Aj Hn) (Ab Hn) .none AdW AdX AdY AdV YH AdZ),AhY⟩)
    (X8:PySem.W.codeIn K YH "bearers" = true)
    (XC:PySem.W.keepIn K (.ref JF)=true)
    (Ra:PySem.W.nsIn K mainGlobals "taken_apart" = some (some (.ref DP)))
    (Li:K.lookup DP=some ⟨Aec,Aea,.func (PySem.W.fnOf "taken_apart" "taken_apart" (Ak DK) (Aj DK) (Ab DK) .none V9 VB VD V8 Oa VF),Aeb⟩)
    (Lj:PySem.W.codeIn K Oa "taken_apart" = true)
    (Lk:PySem.W.keepIn K (.ref DP)=true)
    (Zf:PySem.W.nsIn K mainGlobals "piece_of" = some (some (.ref IK)))
    (Tv:K.lookup IK=some ⟨Ahr,Ahp,.func (PySem.W.fnOf "piece_of" "piece_of" (Ak Ey) (Aj Ey) (Ab Ey) .none Ac0 Ac1 Ac2 Acz VG Ac3),Ahq⟩)
    (Tw:PySem.W.codeIn K VG "piece_of" = true)
    (Tz:PySem.W.keepIn K (.ref IK)=true)
    (Aeh:PySem.W.nsIn K mainGlobals "picked" = some (some (.ref Lz)))
    (Abj:K.lookup Lz=some ⟨AjM,AjK,.func (PySem.W.fnOf "picked" "picked" (Ak Iw) (Aj Iw) (Ab Iw) .none AeZ Afa Afb AeY AbF Afc),AjL⟩)
    (Abk:PySem.W.codeIn K AbF "picked" = true)
    (Abl:PySem.W.keepIn K (.ref Lz)=true)
    (Rb:PySem.W.nsIn K mainGlobals "_law_numbers" = some (some (.ref Gk)))
    (Ln:K.lookup Gk=some ⟨Aef,Aed,.func (PySem.W.fnOf "_law_numbers" "_law_numbers" (Ak Ed) (Aj Ed) (Ab Ed) .none VJ VL VM VH Ob VN),Aee⟩)
    (Lp:PySem.W.codeIn K Ob "_law_numbers" = true)
    (Lq:PySem.W.keepIn K (.ref Gk)=true)
    (We:PySem.W.nsIn K mainGlobals "_law_cloth" = some (some (.ref Hv)))
    (Q9:K.lookup Hv=some ⟨Age,Agc,.func (PySem.W.fnOf "_law_cloth" "_law_cloth" (Ak Gi) (Aj Gi) (Ab Gi) .none AaS AaT AaU AaR Tc AaV),Agd⟩)
    (QB:PySem.W.codeIn K Tc "_law_cloth" = true)
    (QC:PySem.W.keepIn K (.ref Hv)=true)
    (Zg:PySem.W.nsIn K mainGlobals "_law_word" = some (some (.ref Gx)))
    (T4:K.lookup Gx=some ⟨Ahu,Ahs,.func (PySem.W.fnOf "_law_word" "_law_word" (Ak Hk) (Aj Hk) (Ab Hk) .none Ac5 Ac6 Ac7 Ac4 VP Ac8),Aht⟩)
    (T5:PySem.W.codeIn K VP "_law_word" = true)
    (T7:PySem.W.keepIn K (.ref Gx)=true)
    (O5:PySem.W.nsIn K mainGlobals "_law_odd_sign" = some (some (.ref Fl)))
    (Kq:K.lookup Fl=some ⟨AcG,AcE,.func (PySem.W.fnOf "_law_odd_sign" "_law_odd_sign" (Ak DN) (Aj DN) (Ab DN) .none UT UW Va UL Mt Vb),AcF⟩)
    (Kr:PySem.W.codeIn K Mt "_law_odd_sign" = true)
    (Ks:PySem.W.keepIn K (.ref Fl)=true)
    (J9:PySem.W.nsIn K mainGlobals "_law_spoilt_cloth" = some (some (.ref Dc)))
    (HB:K.lookup Dc=some ⟨Yb,XS,.func (PySem.W.fnOf "_law_spoilt_cloth" "_law_spoilt_cloth" (Ak BK) (Aj BK) (Ab BK) .none My Mz M3 Mx Jm M4),XX⟩)
    (HD:PySem.W.codeIn K Jm "_law_spoilt_cloth" = true)
    (HF:PySem.W.keepIn K (.ref Dc)=true)
    (Il:PySem.W.nsIn K mainGlobals "_law_spoilt_shuttles" = some (some (.ref Ce)))
    (GC:K.lookup Ce=some ⟨Tf,Td,.func (PySem.W.fnOf "_law_spoilt_shuttles" "_law_spoilt_shuttles" (Ak BJ) (Aj BJ) (Ab BJ) .none Ke Kf Kg Kd Hz Kh),Te⟩)
    (GD:PySem.W.codeIn K Hz "_law_spoilt_shuttles" = true)
    (GF:PySem.W.keepIn K (.ref Ce)=true)
    (AiR:PySem.W.nsIn K mainGlobals "law" = some (some (.ref Ad8)))
    (AiS:K.lookup Ad8=some ⟨AoU,AoS,.func (PySem.W.fnOf "law" "law" (Ak Vs) (Aj Vs) (Ab Vs) .none Al7 Al8 Al9 Al6 Aia AlA),AoT⟩)
    (AiT:PySem.W.codeIn K Aia "law" = true)
    (AiU:PySem.W.keepIn K (.ref Ad8)=true)
    (T9:PySem.W.nsIn K mainGlobals "ValueError" = some none)
    (Wf:PySem.W.nsIn K mainGlobals "enumerate" = some none)
    (AlB:PySem.W.nsIn K mainGlobals "int" = some none)
    (TF:PySem.W.nsIn K mainGlobals "isinstance" = some none)
    (AlC:PySem.W.nsIn K mainGlobals "len" = some none)
    (Aic:PySem.W.nsIn K mainGlobals "list" = some none)
    (AlD:PySem.W.nsIn K mainGlobals "max" = some none)
    (AlE:PySem.W.nsIn K mainGlobals "min" = some none)
    (Agf:PySem.W.nsIn K mainGlobals "range" = some none)
    (AlF:PySem.W.nsIn K mainGlobals "set" = some none)
    (Aei:PySem.W.nsIn K mainGlobals "sorted" = some none)
    (AlG:PySem.W.nsIn K mainGlobals "sum" = some none)
    (AlH:PySem.W.nsIn K mainGlobals "zip" = some none)
    (O6:PySem.W.nsIn K mainGlobals "MOST_STRANDS" = some (some (.int 40 Aeg)))
    (Zh:PySem.W.nsIn K mainGlobals "SHUTTLES" = some (some (.int 8 Aib)))
    (TJ:PySem.W.nsIn K mainGlobals "WeaveError" = some (some (.ref By)))
    (Agg:PySem.W.nsIn K mainGlobals "NoRow" = some (some (.ref BR)))
    (Zi:PySem.W.nsIn K mainGlobals "TooLarge" = some (some (.ref Ar)))
    (AbL:PySem.W.nsIn K mainGlobals "NoCloth" = some (some (.ref Ai)))
    (AbM:PySem.W.nsIn K mainGlobals "NoDraft" = some (some (.ref Ba)))
    (Zj:PySem.W.nsIn K mainGlobals "NoStrand" = some (some (.ref Av)))
    (Aej:PySem.W.nsIn K mainGlobals "NoDeed" = some (some (.ref Br)))
    (Zk:PySem.W.nsIn K mainGlobals "NoLaying" = some (some (.ref Aw)))
    (Wg:PySem.W.nsIn K mainGlobals "NoShuttle" = some (some (.ref Af)))
    (Zm:PySem.W.nsIn K mainGlobals "NoColour" = some (some (.ref Ax)))
    (AbN:PySem.W.nsIn K mainGlobals "NoBlock" = some (some (.ref Bb)))
    (Wh:PySem.W.nsIn K mainGlobals "NoPattern" = some (some (.ref Am)))
    (AbO:PySem.W.nsIn K mainGlobals "Unknown" = some (some (.ref Bc)))
    (Agh:PySem.W.nsIn K mainGlobals "Twice" = some (some (.ref BV)))
    (Rc:PySem.W.excIn K By vE vN=true)
    (Rf:PySem.W.findIn K (.ref By) "__getattribute__" = some (some (.builtin "BaseException.__getattribute__")))
    (Rg:PySem.W.findIn K (.ref By) "__getattr__" = some none)
    (Rh:PySem.W.findIn K (.ref By) "__class__" = some (some (.builtin "object.__class__")))
    (BX:PySem.W.specialIn K (.builtin "object.__class__") "__get__" = some (some (.builtin "getset_descriptor.__get__")))
    (BZ:PySem.W.takesIn K (.builtin "object.__class__")=some true)
    (Ri:PySem.W.mroIn K By (.type "object")=some true)
    (Rj:PySem.W.mroIn K By (.type "BaseException")=some true)
    (Rk:PySem.W.isClsIn K By=true)
    (O7:PySem.W.typeIn K (.ref By)=some (.type "type"))
    (O8:PySem.W.mroIn K By (.type "ValueError")=some true)
    (Aek:PySem.W.excIn K BR vE vN=true)
    (Ael:PySem.W.findIn K (.ref BR) "__getattribute__" = some (some (.builtin "BaseException.__getattribute__")))
    (Aem:PySem.W.findIn K (.ref BR) "__getattr__" = some none)
    (Aen:PySem.W.findIn K (.ref BR) "__class__" = some (some (.builtin "object.__class__")))
    (Aeo:PySem.W.mroIn K BR (.type "object")=some true)
    (Aep:PySem.W.mroIn K BR (.type "BaseException")=some true)
    (Aeq:PySem.W.isClsIn K BR=true)
    (AbP:PySem.W.typeIn K (.ref BR)=some (.type "type"))
    (AbQ:PySem.W.mroIn K BR (.type "ValueError")=some true)
    (Wi:PySem.W.excIn K Ar vE vN=true)
    (Wj:PySem.W.findIn K (.ref Ar) "__getattribute__" = some (some (.builtin "BaseException.__getattribute__")))
    (Wl:PySem.W.findIn K (.ref Ar) "__getattr__" = some none)
    (Wm:PySem.W.findIn K (.ref Ar) "__class__" = some (some (.builtin "object.__class__")))
    (Wn:PySem.W.mroIn K Ar (.type "object")=some true)
    (Wo:PySem.W.mroIn K Ar (.type "BaseException")=some true)
    (Wq:PySem.W.isClsIn K Ar=true)
    (TQ:PySem.W.typeIn K (.ref Ar)=some (.type "type"))
    (TV:PySem.W.mroIn K Ar (.type "ValueError")=some true)
    (Zn:PySem.W.excIn K Ai vE vN=true)
    (Zo:PySem.W.findIn K (.ref Ai) "__getattribute__" = some (some (.builtin "BaseException.__getattribute__")))
    (Zq:PySem.W.findIn K (.ref Ai) "__getattr__" = some none)
    (Zr:PySem.W.findIn K (.ref Ai) "__class__" = some (some (.builtin "object.__class__")))
    (Zt:PySem.W.mroIn K Ai (.type "object")=some true)
    (Zu:PySem.W.mroIn K Ai (.type "BaseException")=some true)
    (Zv:PySem.W.isClsIn K Ai=true)
    (Wr:PySem.W.typeIn K (.ref Ai)=some (.type "type"))
    (Ws:PySem.W.mroIn K Ai (.type "ValueError")=some true)
    (Ck:PySem.W.mroIn K Ai (.ref By)=some true)
    (HX:PySem.W.mroIn K Ai (.ref BR)=some false)
    (G4:PySem.W.mroIn K Ai (.ref Ar)=some false)
    (Az:PySem.W.mroIn K Ai (.ref Ai)=some true)
    (GZ:PySem.W.mroIn K Ai (.ref Ba)=some false)
    (G5:PySem.W.mroIn K Ai (.ref Av)=some false)
    (Hs:PySem.W.mroIn K Ai (.ref Br)=some false)
    (G6:PySem.W.mroIn K Ai (.ref Aw)=some false)
    (FW:PySem.W.mroIn K Ai (.ref Af)=some false)
    (G7:PySem.W.mroIn K Ai (.ref Ax)=some false)
    (Ha:PySem.W.mroIn K Ai (.ref Bb)=some false)
    (FZ:PySem.W.mroIn K Ai (.ref Am)=some false)
    (Hb:PySem.W.mroIn K Ai (.ref Bc)=some false)
    (HY:PySem.W.mroIn K Ai (.ref BV)=some false)
    (Zw:PySem.W.excIn K Ba vE vN=true)
    (Zx:PySem.W.findIn K (.ref Ba) "__getattribute__" = some (some (.builtin "BaseException.__getattribute__")))
    (Zy:PySem.W.findIn K (.ref Ba) "__getattr__" = some none)
    (Zz:PySem.W.findIn K (.ref Ba) "__class__" = some (some (.builtin "object.__class__")))
    (Z0:PySem.W.mroIn K Ba (.type "object")=some true)
    (Z1:PySem.W.mroIn K Ba (.type "BaseException")=some true)
    (Z2:PySem.W.isClsIn K Ba=true)
    (Wt:PySem.W.typeIn K (.ref Ba)=some (.type "type"))
    (Wu:PySem.W.mroIn K Ba (.type "ValueError")=some true)
    (Wv:PySem.W.excIn K Av vE vN=true)
    (Ww:PySem.W.findIn K (.ref Av) "__getattribute__" = some (some (.builtin "BaseException.__getattribute__")))
    (Wx:PySem.W.findIn K (.ref Av) "__getattr__" = some none)
    (Wz:PySem.W.findIn K (.ref Av) "__class__" = some (some (.builtin "object.__class__")))
    (W0:PySem.W.mroIn K Av (.type "object")=some true)
    (W2:PySem.W.mroIn K Av (.type "BaseException")=some true)
    (W3:PySem.W.isClsIn K Av=true)
    (TX:PySem.W.typeIn K (.ref Av)=some (.type "type"))
    (TY:PySem.W.mroIn K Av (.type "ValueError")=some true)
    (AbR:PySem.W.excIn K Br vE vN=true)
    (AbS:PySem.W.findIn K (.ref Br) "__getattribute__" = some (some (.builtin "BaseException.__getattribute__")))
    (AbT:PySem.W.findIn K (.ref Br) "__getattr__" = some none)
    (AbU:PySem.W.findIn K (.ref Br) "__class__" = some (some (.builtin "object.__class__")))
    (AbV:PySem.W.mroIn K Br (.type "object")=some true)
    (AbW:PySem.W.mroIn K Br (.type "BaseException")=some true)
    (AbX:PySem.W.isClsIn K Br=true)
    (Z3:PySem.W.typeIn K (.ref Br)=some (.type "type"))
    (Z4:PySem.W.mroIn K Br (.type "ValueError")=some true)
    (W4:PySem.W.excIn K Aw vE vN=true)
    (W5:PySem.W.findIn K (.ref Aw) "__getattribute__" = some (some (.builtin "BaseException.__getattribute__")))
    (W6:PySem.W.findIn K (.ref Aw) "__getattr__" = some none)
    (W7:PySem.W.findIn K (.ref Aw) "__class__" = some (some (.builtin "object.__class__")))
    (W8:PySem.W.mroIn K Aw (.type "object")=some true)
    (W9:PySem.W.mroIn K Aw (.type "BaseException")=some true)
    (WD:PySem.W.isClsIn K Aw=true)
    (Ua:PySem.W.typeIn K (.ref Aw)=some (.type "type"))
    (Ub:PySem.W.mroIn K Aw (.type "ValueError")=some true)
    (Uc:PySem.W.excIn K Af vE vN=true)
    (Ud:PySem.W.findIn K (.ref Af) "__getattribute__" = some (some (.builtin "BaseException.__getattribute__")))
    (Ue:PySem.W.findIn K (.ref Af) "__getattr__" = some none)
    (Ug:PySem.W.findIn K (.ref Af) "__class__" = some (some (.builtin "object.__class__")))
    (Uh:PySem.W.mroIn K Af (.type "object")=some true)
    (Ui:PySem.W.mroIn K Af (.type "BaseException")=some true)
    (Uj:PySem.W.isClsIn K Af=true)
    (Rm:PySem.W.typeIn K (.ref Af)=some (.type "type"))
    (Rn:PySem.W.mroIn K Af (.type "ValueError")=some true)
    (Cr:PySem.W.mroIn K Af (.ref By)=some true)
    (Hd:PySem.W.mroIn K Af (.ref BR)=some false)
    (Fq:PySem.W.mroIn K Af (.ref Ar)=some false)
    (Er:PySem.W.mroIn K Af (.ref Ai)=some false)
    (Ga:PySem.W.mroIn K Af (.ref Ba)=some false)
    (Ft:PySem.W.mroIn K Af (.ref Av)=some false)
    (G8:PySem.W.mroIn K Af (.ref Br)=some false)
    (Fv:PySem.W.mroIn K Af (.ref Aw)=some false)
    (Al:PySem.W.mroIn K Af (.ref Af)=some true)
    (Fy:PySem.W.mroIn K Af (.ref Ax)=some false)
    (Gb:PySem.W.mroIn K Af (.ref Bb)=some false)
    (Ex:PySem.W.mroIn K Af (.ref Am)=some false)
    (Gd:PySem.W.mroIn K Af (.ref Bc)=some false)
    (Hf:PySem.W.mroIn K Af (.ref BV)=some false)
    (WL:PySem.W.excIn K Ax vE vN=true)
    (WM:PySem.W.findIn K (.ref Ax) "__getattribute__" = some (some (.builtin "BaseException.__getattribute__")))
    (WN:PySem.W.findIn K (.ref Ax) "__getattr__" = some none)
    (WQ:PySem.W.findIn K (.ref Ax) "__class__" = some (some (.builtin "object.__class__")))
    (WR:PySem.W.mroIn K Ax (.type "object")=some true)
    (WT:PySem.W.mroIn K Ax (.type "BaseException")=some true)
    (WW:PySem.W.isClsIn K Ax=true)
    (Uk:PySem.W.typeIn K (.ref Ax)=some (.type "type"))
    (Ul:PySem.W.mroIn K Ax (.type "ValueError")=some true)
    (Z5:PySem.W.excIn K Bb vE vN=true)
    (Z6:PySem.W.findIn K (.ref Bb) "__getattribute__" = some (some (.builtin "BaseException.__getattribute__")))
    (Z7:PySem.W.findIn K (.ref Bb) "__getattr__" = some none)
    (Z8:PySem.W.findIn K (.ref Bb) "__class__" = some (some (.builtin "object.__class__")))
    (Z9:PySem.W.mroIn K Bb (.type "object")=some true)
    (ZC:PySem.W.mroIn K Bb (.type "BaseException")=some true)
    (ZD:PySem.W.isClsIn K Bb=true)
    (WY:PySem.W.typeIn K (.ref Bb)=some (.type "type"))
    (Xa:PySem.W.mroIn K Bb (.type "ValueError")=some true)
    (Um:PySem.W.excIn K Am vE vN=true)
    (Uo:PySem.W.findIn K (.ref Am) "__getattribute__" = some (some (.builtin "BaseException.__getattribute__")))
    (Ur:PySem.W.findIn K (.ref Am) "__getattr__" = some none)
    (Us:PySem.W.findIn K (.ref Am) "__class__" = some (some (.builtin "object.__class__")))
    (Ut:PySem.W.mroIn K Am (.type "object")=some true)
    (Uu:PySem.W.mroIn K Am (.type "BaseException")=some true)
    (Uv:PySem.W.isClsIn K Am=true)
    (Ro:PySem.W.typeIn K (.ref Am)=some (.type "type"))
    (Rp:PySem.W.mroIn K Am (.type "ValueError")=some true)
    (ZF:PySem.W.excIn K Bc vE vN=true)
    (ZG:PySem.W.findIn K (.ref Bc) "__getattribute__" = some (some (.builtin "BaseException.__getattribute__")))
    (ZJ:PySem.W.findIn K (.ref Bc) "__getattr__" = some none)
    (ZK:PySem.W.findIn K (.ref Bc) "__class__" = some (some (.builtin "object.__class__")))
    (ZL:PySem.W.mroIn K Bc (.type "object")=some true)
    (ZM:PySem.W.mroIn K Bc (.type "BaseException")=some true)
    (ZP:PySem.W.isClsIn K Bc=true)
    (Xb:PySem.W.typeIn K (.ref Bc)=some (.type "type"))
    (Xc:PySem.W.mroIn K Bc (.type "ValueError")=some true)
    (Aer:PySem.W.excIn K BV vE vN=true)
    (Aes:PySem.W.findIn K (.ref BV) "__getattribute__" = some (some (.builtin "BaseException.__getattribute__")))
    (Aet:PySem.W.findIn K (.ref BV) "__getattr__" = some none)
    (Aeu:PySem.W.findIn K (.ref BV) "__class__" = some (some (.builtin "object.__class__")))
    (Aev:PySem.W.mroIn K BV (.type "object")=some true)
    (Aew:PySem.W.mroIn K BV (.type "BaseException")=some true)
    (Aex:PySem.W.isClsIn K BV=true)
    (AbY:PySem.W.typeIn K (.ref BV)=some (.type "type"))
    (AbZ:PySem.W.mroIn K BV (.type "ValueError")=some true)
    (Rq:PySem.W.findIn K (.ref By) "called" = some (some (.ref Dy)))
    (Rr:PySem.W.isFn K (.ref Dy)=true)
    (Lr:K.lookup Dy=some ⟨Wa,VR,.func (PySem.W.fnOf "called" "WeaveError.called" (Ak Cg) (Aj Cg) (Ab Cg) .none LR Ma Mg LQ IW Mh),VV⟩)
    (Ls:PySem.W.codeIn K IW "WeaveError.called" = true)
    (Jt:PySem.W.keepIn K (.ref Dy)=true)
    (Aey:PySem.W.findIn K (.ref BR) "called" = some (some (.ref Gy)))
    (Aez:PySem.W.isFn K (.ref Gy)=true)
    (Abm:K.lookup Gy=some ⟨AcJ,AcH,.func (PySem.W.fnOf "called" "NoRow.called" (Ak Ek) (Aj Ek) (Ab Ek) .none Vd Ve Vf Vc Mu Vg),AcI⟩)
    (Abn:PySem.W.codeIn K Mu "NoRow.called" = true)
    (Xd:PySem.W.keepIn K (.ref Gy)=true)
    (Xe:PySem.W.findIn K (.ref Ar) "called" = some (some (.ref Em)))
    (Xf:PySem.W.isFn K (.ref Em)=true)
    (QD:K.lookup Em=some ⟨YL,YJ,.func (PySem.W.fnOf "called" "TooLarge.called" (Ak CP) (Aj CP) (Ab CP) .none Od Oe Og Oc J4 Oh),YK⟩)
    (QF:PySem.W.codeIn K J4 "TooLarge.called" = true)
    (Mj:PySem.W.keepIn K (.ref Em)=true)
    (ZQ:PySem.W.findIn K (.ref Ai) "called" = some (some (.ref Cj)))
    (ZR:PySem.W.isFn K (.ref Cj)=true)
    (Uw:K.lookup Cj=some ⟨AaY,AaW,.func (PySem.W.fnOf "called" "NoCloth.called" (Ak Cz) (Aj Cz) (Ab Cz) .none Qa Qc Qd PX Kl Qe),AaX⟩)
    (Ux:PySem.W.codeIn K Kl "NoCloth.called" = true)
    (OD:PySem.W.keepIn K (.ref Cj)=true)
    (ZS:PySem.W.findIn K (.ref Ba) "called" = some (some (.ref EY)))
    (ZV:PySem.W.isFn K (.ref EY)=true)
    (Uy:K.lookup EY=some ⟨Abb,AaZ,.func (PySem.W.fnOf "called" "NoDraft.called" (Ak Dp) (Aj Dp) (Ab Dp) .none Qg Qh Qi Qf Km Qj),Aba⟩)
    (Uz:PySem.W.codeIn K Km "NoDraft.called" = true)
    (OJ:PySem.W.keepIn K (.ref EY)=true)
    (Xg:PySem.W.findIn K (.ref Av) "called" = some (some (.ref En)))
    (Xh:PySem.W.isFn K (.ref En)=true)
    (QG:K.lookup En=some ⟨YS,YM,.func (PySem.W.fnOf "called" "NoStrand.called" (Ak CQ) (Aj CQ) (Ab CQ) .none Oj Ol Om Oi J5 Oo),YQ⟩)
    (QH:PySem.W.codeIn K J5 "NoStrand.called" = true)
    (Ml:PySem.W.keepIn K (.ref En)=true)
    (Aca:PySem.W.findIn K (.ref Br) "called" = some (some (.ref FQ)))
    (Acb:PySem.W.isFn K (.ref FQ)=true)
    (XD:K.lookup FQ=some ⟨AbI,AbG,.func (PySem.W.fnOf "called" "NoDeed.called" (Ak DQ) (Aj DQ) (Ab DQ) .none RC RD RG RB KY RJ),AbH⟩)
    (XF:PySem.W.codeIn K KY "NoDeed.called" = true)
    (RK:PySem.W.keepIn K (.ref FQ)=true)
    (Xi:PySem.W.findIn K (.ref Aw) "called" = some (some (.ref Eo)))
    (Xj:PySem.W.isFn K (.ref Eo)=true)
    (QJ:K.lookup Eo=some ⟨YX,YT,.func (PySem.W.fnOf "called" "NoLaying.called" (Ak CT) (Aj CT) (Ab CT) .none Ot Ou Ow Oq J7 Ox),YW⟩)
    (QK:PySem.W.codeIn K J7 "NoLaying.called" = true)
    (Mm:PySem.W.keepIn K (.ref Eo)=true)
    (U0:PySem.W.findIn K (.ref Af) "called" = some (some (.ref BW)))
    (U3:PySem.W.isFn K (.ref BW)=true)
    (Ni:K.lookup BW=some ⟨Ye,Yc,.func (PySem.W.fnOf "called" "NoShuttle.called" (Ak Cd) (Aj Cd) (Ab Cd) .none M6 M7 M8 M5 Jo M9),Yd⟩)
    (Nj:PySem.W.codeIn K Jo "NoShuttle.called" = true)
    (Ku:PySem.W.keepIn K (.ref BW)=true)
    (Xk:PySem.W.findIn K (.ref Ax) "called" = some (some (.ref Ep)))
    (Xl:PySem.W.isFn K (.ref Ep)=true)
    (QL:K.lookup Ep=some ⟨Zb,YZ,.func (PySem.W.fnOf "called" "NoColour.called" (Ak CV) (Aj CV) (Ab CV) .none O1 O2 O3 Oz J8 O4),Za⟩)
    (QM:PySem.W.codeIn K J8 "NoColour.called" = true)
    (Mp:PySem.W.keepIn K (.ref Ep)=true)
    (ZW:PySem.W.findIn K (.ref Bb) "called" = some (some (.ref Fb)))
    (ZX:PySem.W.isFn K (.ref Fb)=true)
    (U4:K.lookup Fb=some ⟨Abf,Abd,.func (PySem.W.fnOf "called" "NoBlock.called" (Ak Dq) (Aj Dq) (Ab Dq) .none Ql Qm Qn Qk Ko Qo),Abe⟩)
    (U5:PySem.W.codeIn K Ko "NoBlock.called" = true)
    (Pa:PySem.W.keepIn K (.ref Fb)=true)
    (U6:PySem.W.findIn K (.ref Am) "called" = some (some (.ref DW)))
    (U7:PySem.W.isFn K (.ref DW)=true)
    (Nk:K.lookup DW=some ⟨Yi,Yg,.func (PySem.W.fnOf "called" "NoPattern.called" (Ak Cq) (Aj Cq) (Ab Cq) .none MJ MK MN MF Jp MP),Yh⟩)
    (Nm:PySem.W.codeIn K Jp "NoPattern.called" = true)
    (Kv:PySem.W.keepIn K (.ref DW)=true)
    (ZZ:PySem.W.findIn K (.ref Bc) "called" = some (some (.ref Fd)))
    (Aaa:PySem.W.isFn K (.ref Fd)=true)
    (U8:K.lookup Fd=some ⟨Abi,Abg,.func (PySem.W.fnOf "called" "Unknown.called" (Ak Dt) (Aj Dt) (Ab Dt) .none Qq Qs Qt Qp Kp Qu),Abh⟩)
    (U9:PySem.W.codeIn K Kp "Unknown.called" = true)
    (Pb:PySem.W.keepIn K (.ref Fd)=true)
    (Ae0:PySem.W.findIn K (.ref BV) "called" = some (some (.ref G3)))
    (Ae1:PySem.W.isFn K (.ref G3)=true)
    (Abo:K.lookup G3=some ⟨AcM,AcK,.func (PySem.W.fnOf "called" "Twice.called" (Ak El) (Aj El) (Ab El) .none Vi Vj Vk Vh Mv Vl),AcL⟩)
    (Abp:PySem.W.codeIn K Mv "Twice.called" = true)
    (Xm:PySem.W.keepIn K (.ref G3)=true)
    (tab0:Ka=.ref tc) (AoV:K.lookup tc=some ⟨t1,t2,.fields tvs,t3⟩) (AoW:(tvs[11]?:Option Value)=some (.ref tT)) (AoX:PySem.W.noTabs K=true) :
    ∃(fd:FuncData) (c T:Addr),(∀(s:Shared) (v:Value),BindsTo s fd ⟨[v],[]⟩ [("script", v)])∧PySem.W.tabIn K "layers_of" = some (c,T)∧PySem.W.noTabs K=true∧∀ base:Heap,K.In base→base.Ns mainGlobals mg→PySem.W.CodeHd base c T→Bm mg base→Bp P w K mg base CX0 11 fa fd ["script"] (AfO K T):=by
  have T:Txt K mg ⟨Dw,PySem.W.fnOf "measured" "measured" (Ak Hj) (Aj Hj) (Ab Hj) .none Ack Acl Acm Acj V0 Acn,CG,PySem.W.fnOf "measured_texts" "measured_texts" (Ak Cw) (Aj Cw) (Ab Cw) .none Pr Pu Px Pn JZ Py,Fg,PySem.W.fnOf "check_pick" "check_pick" (Ak Ff) (Aj Ff) (Ab Ff) .none Yl Ym Yn Yk QX Yo,Hu,PySem.W.fnOf "end_signs" "end_signs" (Ak Fj) (Aj Fj) (Ab Fj) .none AaA AaB AaC Aa9 S7 AaD,GQ,PySem.W.fnOf "scores_of" "scores_of" (Ak Es) (Aj Es) (Ab Es) .none AaF AaG AaH AaE S8 AaI,JD,PySem.W.fnOf "tops_of" "tops_of" (Ak Ie) (Aj Ie) (Ab Ie) .none AdO AdP AdQ AdN YG AdR,GR,PySem.W.fnOf "layers_of" "layers_of" (Ak DY) (Aj DY) (Ab DY) .none SJ SM SN S9 Ka SQ,Di,PySem.W.fnOf "layer_numbers" "layer_numbers" (Ak Cv) (Aj Cv) (Ab Cv) .none R6 R7 R8 R5 KR R9,CK,PySem.W.fnOf "seams_of" "seams_of" (Ak Gs) (Aj Gs) (Ab Gs) .none Acp Acq Acr Aco V1 Acs,FP,PySem.W.fnOf "tubes_of" "tubes_of" (Ak Gu) (Aj Gu) (Ab Gu) .none Acv Acw Acx Acu V2 Acy,Eu,PySem.W.fnOf "sheets_of" "sheets_of" (Ak Et) (Aj Et) (Ab Et) .none AaK AaL AaM AaJ SX AaN,Ci,PySem.W.fnOf "check_shuttles" "check_shuttles" (Ak Cy) (Aj Cy) (Ab Cy) .none PB PJ PN P0 Kc PQ,Gj,PySem.W.fnOf "seams_along" "seams_along" (Ak Eb) (Aj Eb) (Ab Eb) .none V4 V5 V6 V3 NZ V7,JF,PySem.W.fnOf "bearers" "bearers" (Ak Hn) (Aj Hn) (Ab Hn) .none AdW AdX AdY AdV YH AdZ,DP,PySem.W.fnOf "taken_apart" "taken_apart" (Ak DK) (Aj DK) (Ab DK) .none V9 VB VD V8 Oa VF,IK,PySem.W.fnOf "piece_of" "piece_of" (Ak Ey) (Aj Ey) (Ab Ey) .none Ac0 Ac1 Ac2 Acz VG Ac3,Lz,PySem.W.fnOf "picked" "picked" (Ak Iw) (Aj Iw) (Ab Iw) .none AeZ Afa Afb AeY AbF Afc,Gk,PySem.W.fnOf "_law_numbers" "_law_numbers" (Ak Ed) (Aj Ed) (Ab Ed) .none VJ VL VM VH Ob VN,Hv,PySem.W.fnOf "_law_cloth" "_law_cloth" (Ak Gi) (Aj Gi) (Ab Gi) .none AaS AaT AaU AaR Tc AaV,Gx,PySem.W.fnOf "_law_word" "_law_word" (Ak Hk) (Aj Hk) (Ab Hk) .none Ac5 Ac6 Ac7 Ac4 VP Ac8,Fl,PySem.W.fnOf "_law_odd_sign" "_law_odd_sign" (Ak DN) (Aj DN) (Ab DN) .none UT UW Va UL Mt Vb,Dc,PySem.W.fnOf "_law_spoilt_cloth" "_law_spoilt_cloth" (Ak BK) (Aj BK) (Ab BK) .none My Mz M3 Mx Jm M4,Ce,PySem.W.fnOf "_law_spoilt_shuttles" "_law_spoilt_shuttles" (Ak BJ) (Aj BJ) (Ab BJ) .none Ke Kf Kg Kd Hz Kh,Ad8,PySem.W.fnOf "law" "law" (Ak Vs) (Aj Vs) (Ab Vs) .none Al7 Al8 Al9 Al6 Aia AlA,By,Dy,PySem.W.fnOf "called" "WeaveError.called" (Ak Cg) (Aj Cg) (Ab Cg) .none LR Ma Mg LQ IW Mh,BR,Gy,PySem.W.fnOf "called" "NoRow.called" (Ak Ek) (Aj Ek) (Ab Ek) .none Vd Ve Vf Vc Mu Vg,Ar,Em,PySem.W.fnOf "called" "TooLarge.called" (Ak CP) (Aj CP) (Ab CP) .none Od Oe Og Oc J4 Oh,Ai,Cj,PySem.W.fnOf "called" "NoCloth.called" (Ak Cz) (Aj Cz) (Ab Cz) .none Qa Qc Qd PX Kl Qe,Ba,EY,PySem.W.fnOf "called" "NoDraft.called" (Ak Dp) (Aj Dp) (Ab Dp) .none Qg Qh Qi Qf Km Qj,Av,En,PySem.W.fnOf "called" "NoStrand.called" (Ak CQ) (Aj CQ) (Ab CQ) .none Oj Ol Om Oi J5 Oo,Br,FQ,PySem.W.fnOf "called" "NoDeed.called" (Ak DQ) (Aj DQ) (Ab DQ) .none RC RD RG RB KY RJ,Aw,Eo,PySem.W.fnOf "called" "NoLaying.called" (Ak CT) (Aj CT) (Ab CT) .none Ot Ou Ow Oq J7 Ox,Af,BW,PySem.W.fnOf "called" "NoShuttle.called" (Ak Cd) (Aj Cd) (Ab Cd) .none M6 M7 M8 M5 Jo M9,Ax,Ep,PySem.W.fnOf "called" "NoColour.called" (Ak CV) (Aj CV) (Ab CV) .none O1 O2 O3 Oz J8 O4,Bb,Fb,PySem.W.fnOf "called" "NoBlock.called" (Ak Dq) (Aj Dq) (Ab Dq) .none Ql Qm Qn Qk Ko Qo,Am,DW,PySem.W.fnOf "called" "NoPattern.called" (Ak Cq) (Aj Cq) (Ab Cq) .none MJ MK MN MF Jp MP,Bc,Fd,PySem.W.fnOf "called" "Unknown.called" (Ak Dt) (Aj Dt) (Ab Dt) .none Qq Qs Qt Qp Kp Qu,BV,G3,PySem.W.fnOf "called" "Twice.called" (Ak El) (Aj El) (Ab El) .none Vi Vj Vk Vh Mv Vl⟩ :=
  ⟨⟨Ay (st:=Hj) Tg Th Ti,PySem.W.mg_of X G Zc,(Ay (st:=Hj) Tg Th Ti).binds (ps:=["cloth"]) fun _ _ _ _ _ _ us hl=>bl1 (fun _=>rfl) us hl⟩,
   ⟨Ay (st:=Cw) Je Jf Jg,PySem.W.mg_of X G KZ,(Ay (st:=Cw) Je Jf Jg).binds (ps:=["texts", "least", "signs"]) fun _ _ _ _ _ _ us hl=>bl3 (fun _ _ _=>rfl) us hl⟩,
   ⟨Ay (st:=Ff) Nf Ng Nh,PySem.W.mg_of X G Tj,(Ay (st:=Ff) Nf Ng Nh).binds (ps:=["text", "ends", "signs"]) fun _ _ _ _ _ _ us hl=>bl3 (fun _ _ _=>rfl) us hl⟩,
   ⟨Ay (st:=Fj) Qv Qw Qx,PySem.W.mg_of X G Wb,(Ay (st:=Fj) Qv Qw Qx).binds (ps:=["cloth", "end"]) fun _ _ _ _ _ _ us hl=>bl2 (fun _ _=>rfl) us hl⟩,
   ⟨Ay (st:=Es) Qy Qz Q0,PySem.W.mg_of X G Wc,(Ay (st:=Es) Qy Qz Q0).binds (ps:=["cloth"]) fun _ _ _ _ _ _ us hl=>bl1 (fun _=>rfl) us hl⟩,
   ⟨Ay (st:=Ie) X4 X5 X6,PySem.W.mg_of X G AbJ,(Ay (st:=Ie) X4 X5 X6).binds (ps:=["cloth"]) fun _ _ _ _ _ _ us hl=>bl1 (fun _=>rfl) us hl⟩,
   ⟨Ay (st:=DY) Mi Q4 Q5,PySem.W.mg_of X G Q3,(Ay (st:=DY) Mi Q4 Q5).binds (ps:=["cloth"]) fun _ _ _ _ _ _ us hl=>bl1 (fun _=>rfl) us hl⟩,
   ⟨Ay (st:=Cv) Jv Jw Jx,PySem.W.mg_of X G Mw,(Ay (st:=Cv) Jv Jw Jx).binds (ps:=["cloth"]) fun _ _ _ _ _ _ us hl=>bl1 (fun _=>rfl) us hl⟩,
   ⟨Ay (st:=Gs) Tn Tp Tq,PySem.W.mg_of X G Zd,(Ay (st:=Gs) Tn Tp Tq).binds (ps:=["cloth", "shuttles"]) fun _ _ _ _ _ _ us hl=>bl2 (fun _ _=>rfl) us hl⟩,
   ⟨Ay (st:=Gu) Tr Tt Tu,PySem.W.mg_of X G Ze,(Ay (st:=Gu) Tr Tt Tu).binds (ps:=["cloth", "shuttles"]) fun _ _ _ _ _ _ us hl=>bl2 (fun _ _=>rfl) us hl⟩,
   ⟨Ay (st:=Et) Q6 Q7 Q8,PySem.W.mg_of X G Wd,(Ay (st:=Et) Q6 Q7 Q8).binds (ps:=["cloth", "shuttles"]) fun _ _ _ _ _ _ us hl=>bl2 (fun _ _=>rfl) us hl⟩,
   ⟨Ay (st:=Cy) Jh Ji Jj,PySem.W.mg_of X G La,(Ay (st:=Cy) Jh Ji Jj).binds (ps:=["shuttles", "picks"]) fun _ _ _ _ _ _ us hl=>bl2 (fun _ _=>rfl) us hl⟩,
   ⟨Ay (st:=Eb) Le Lg Lh,PySem.W.mg_of X G QZ,(Ay (st:=Eb) Le Lg Lh).binds (ps:=["thrown"]) fun _ _ _ _ _ _ us hl=>bl1 (fun _=>rfl) us hl⟩,
   ⟨Ay (st:=Hn) X7 X8 XC,PySem.W.mg_of X G AbK,(Ay (st:=Hn) X7 X8 XC).binds (ps:=["bears", "number"]) fun _ _ _ _ _ _ us hl=>bl2 (fun _ _=>rfl) us hl⟩,
   ⟨Ay (st:=DK) Li Lj Lk,PySem.W.mg_of X G Ra,(Ay (st:=DK) Li Lj Lk).binds (ps:=["cloth"]) fun _ _ _ _ _ _ us hl=>bl1 (fun _=>rfl) us hl⟩,
   ⟨Ay (st:=Ey) Tv Tw Tz,PySem.W.mg_of X G Zf,(Ay (st:=Ey) Tv Tw Tz).binds (ps:=["cloth", "ends", "layer"]) fun _ _ _ _ _ _ us hl=>bl3 (fun _ _ _=>rfl) us hl⟩,
   ⟨Ay (st:=Iw) Abj Abk Abl,PySem.W.mg_of X G Aeh,(Ay (st:=Iw) Abj Abk Abl).binds (ps:=["text", "places"]) fun _ _ _ _ _ _ us hl=>bl2 (fun _ _=>rfl) us hl⟩,
   ⟨Ay (st:=Ed) Ln Lp Lq,PySem.W.mg_of X G Rb,(Ay (st:=Ed) Ln Lp Lq).binds (ps:=["script", "many"]) fun _ _ _ _ _ _ us hl=>bl2 (fun _ _=>rfl) us hl⟩,
   ⟨Ay (st:=Gi) Q9 QB QC,PySem.W.mg_of X G We,(Ay (st:=Gi) Q9 QB QC).binds (ps:=["numbers", "wide", "high", "layered"]) fun _ _ _ _ _ _ us hl=>bl4 (fun _ _ _ _=>rfl) us hl⟩,
   ⟨Ay (st:=Hk) T4 T5 T7,PySem.W.mg_of X G Zg,(Ay (st:=Hk) T4 T5 T7).binds (ps:=["way", "given", "shuttles"]) fun _ _ _ _ _ _ us hl=>bl3 (fun _ _ _=>rfl) us hl⟩,
   ⟨Ay (st:=DN) Kq Kr Ks,PySem.W.mg_of X G O5,(Ay (st:=DN) Kq Kr Ks).binds (ps:=["number"]) fun _ _ _ _ _ _ us hl=>bl1 (fun _=>rfl) us hl⟩,
   ⟨Ay (st:=BK) HB HD HF,PySem.W.mg_of X G J9,(Ay (st:=BK) HB HD HF).binds (ps:=["given", "fault", "numbers"]) fun _ _ _ _ _ _ us hl=>bl3 (fun _ _ _=>rfl) us hl⟩,
   ⟨Ay (st:=BJ) GC GD GF,PySem.W.mg_of X G Il,(Ay (st:=BJ) GC GD GF).binds (ps:=["shuttles", "fault", "numbers"]) fun _ _ _ _ _ _ us hl=>bl3 (fun _ _ _=>rfl) us hl⟩,
   ⟨Ay (st:=Vs) AiS AiT AiU,PySem.W.mg_of X G AiR,(Ay (st:=Vs) AiS AiT AiU).binds (ps:=["script"]) fun _ _ _ _ _ _ us hl=>bl1 (fun _=>rfl) us hl⟩,
   PySem.W.mg_none_of X G T9,
   PySem.W.mg_none_of X G Wf,
   PySem.W.mg_none_of X G AlB,
   PySem.W.mg_none_of X G TF,
   PySem.W.mg_none_of X G AlC,
   PySem.W.mg_none_of X G Aic,
   PySem.W.mg_none_of X G AlD,
   PySem.W.mg_none_of X G AlE,
   PySem.W.mg_none_of X G Agf,
   PySem.W.mg_none_of X G AlF,
   PySem.W.mg_none_of X G Aei,
   PySem.W.mg_none_of X G AlG,
   PySem.W.mg_none_of X G AlH,
   ⟨_,PySem.W.mg_of X G O6⟩,
   ⟨_,PySem.W.mg_of X G Zh⟩,
   PySem.W.mg_of X G TJ,
   JP Rc Rf Rg Rh BX BZ Ri Rj Rk O7 O8,
   ⟨Ay (st:=Cg) Lr Ls Jt,⟨Rq,Rr,Jt⟩,(Ay (st:=Cg) Lr Ls Jt).binds (ps:=["self"]) fun _ _ _ _ _ _ us hl=>match us,hl with | [_],_=>rfl⟩,
   PySem.W.mg_of X G Agg,
   JP Aek Ael Aem Aen BX BZ Aeo Aep Aeq AbP AbQ,
   ⟨Ay (st:=Ek) Abm Abn Xd,⟨Aey,Aez,Xd⟩,(Ay (st:=Ek) Abm Abn Xd).binds (ps:=["self"]) fun _ _ _ _ _ _ us hl=>match us,hl with | [_],_=>rfl⟩,
   PySem.W.mg_of X G Zi,
   JP Wi Wj Wl Wm BX BZ Wn Wo Wq TQ TV,
   ⟨Ay (st:=CP) QD QF Mj,⟨Xe,Xf,Mj⟩,(Ay (st:=CP) QD QF Mj).binds (ps:=["self"]) fun _ _ _ _ _ _ us hl=>match us,hl with | [_],_=>rfl⟩,
   PySem.W.mg_of X G AbL,
   JP Zn Zo Zq Zr BX BZ Zt Zu Zv Wr Ws,
   ⟨Ay (st:=Cz) Uw Ux OD,⟨ZQ,ZR,OD⟩,(Ay (st:=Cz) Uw Ux OD).binds (ps:=["self"]) fun _ _ _ _ _ _ us hl=>match us,hl with | [_],_=>rfl⟩,
   Ck,
   HX,
   G4,
   Az,
   GZ,
   G5,
   Hs,
   G6,
   FW,
   G7,
   Ha,
   FZ,
   Hb,
   HY,
   PySem.W.mg_of X G AbM,
   JP Zw Zx Zy Zz BX BZ Z0 Z1 Z2 Wt Wu,
   ⟨Ay (st:=Dp) Uy Uz OJ,⟨ZS,ZV,OJ⟩,(Ay (st:=Dp) Uy Uz OJ).binds (ps:=["self"]) fun _ _ _ _ _ _ us hl=>match us,hl with | [_],_=>rfl⟩,
   PySem.W.mg_of X G Zj,
   JP Wv Ww Wx Wz BX BZ W0 W2 W3 TX TY,
   ⟨Ay (st:=CQ) QG QH Ml,⟨Xg,Xh,Ml⟩,(Ay (st:=CQ) QG QH Ml).binds (ps:=["self"]) fun _ _ _ _ _ _ us hl=>match us,hl with | [_],_=>rfl⟩,
   PySem.W.mg_of X G Aej,
   JP AbR AbS AbT AbU BX BZ AbV AbW AbX Z3 Z4,
   ⟨Ay (st:=DQ) XD XF RK,⟨Aca,Acb,RK⟩,(Ay (st:=DQ) XD XF RK).binds (ps:=["self"]) fun _ _ _ _ _ _ us hl=>match us,hl with | [_],_=>rfl⟩,
   PySem.W.mg_of X G Zk,
   JP W4 W5 W6 W7 BX BZ W8 W9 WD Ua Ub,
   ⟨Ay (st:=CT) QJ QK Mm,⟨Xi,Xj,Mm⟩,(Ay (st:=CT) QJ QK Mm).binds (ps:=["self"]) fun _ _ _ _ _ _ us hl=>match us,hl with | [_],_=>rfl⟩,
   PySem.W.mg_of X G Wg,
   JP Uc Ud Ue Ug BX BZ Uh Ui Uj Rm Rn,
   ⟨Ay (st:=Cd) Ni Nj Ku,⟨U0,U3,Ku⟩,(Ay (st:=Cd) Ni Nj Ku).binds (ps:=["self"]) fun _ _ _ _ _ _ us hl=>match us,hl with | [_],_=>rfl⟩,
   Cr,
   Hd,
   Fq,
   Er,
   Ga,
   Ft,
   G8,
   Fv,
   Al,
   Fy,
   Gb,
   Ex,
   Gd,
   Hf,
   PySem.W.mg_of X G Zm,
   JP WL WM WN WQ BX BZ WR WT WW Uk Ul,
   ⟨Ay (st:=CV) QL QM Mp,⟨Xk,Xl,Mp⟩,(Ay (st:=CV) QL QM Mp).binds (ps:=["self"]) fun _ _ _ _ _ _ us hl=>match us,hl with | [_],_=>rfl⟩,
   PySem.W.mg_of X G AbN,
   JP Z5 Z6 Z7 Z8 BX BZ Z9 ZC ZD WY Xa,
   ⟨Ay (st:=Dq) U4 U5 Pa,⟨ZW,ZX,Pa⟩,(Ay (st:=Dq) U4 U5 Pa).binds (ps:=["self"]) fun _ _ _ _ _ _ us hl=>match us,hl with | [_],_=>rfl⟩,
   PySem.W.mg_of X G Wh,
   JP Um Uo Ur Us BX BZ Ut Uu Uv Ro Rp,
   ⟨Ay (st:=Cq) Nk Nm Kv,⟨U6,U7,Kv⟩,(Ay (st:=Cq) Nk Nm Kv).binds (ps:=["self"]) fun _ _ _ _ _ _ us hl=>match us,hl with | [_],_=>rfl⟩,
   PySem.W.mg_of X G AbO,
   JP ZF ZG ZJ ZK BX BZ ZL ZM ZP Xb Xc,
   ⟨Ay (st:=Dt) U8 U9 Pb,⟨ZZ,Aaa,Pb⟩,(Ay (st:=Dt) U8 U9 Pb).binds (ps:=["self"]) fun _ _ _ _ _ _ us hl=>match us,hl with | [_],_=>rfl⟩,
   PySem.W.mg_of X G Agh,
   JP Aer Aes Aet Aeu BX BZ Aev Aew Aex AbY AbZ,
   ⟨Ay (st:=El) Abo Abp Xm,⟨Ae0,Ae1,Xm⟩,(Ay (st:=El) Abo Abp Xm).binds (ps:=["self"]) fun _ _ _ _ _ _ us hl=>match us,hl with | [_],_=>rfl⟩⟩
  have e:=hfa.symm.trans (PySem.W.mg_of X G AiR)
  cases e
  have hcd:(PySem.W.fnOf "layers_of" "layers_of" (Ak DY) (Aj DY) (Ab DY) .none SJ SM SN S9 Ka SQ).code=.ref tc:=tab0
  exact⟨_,tc,tT,fun s v=>.of_eq rfl,Aoc Q3 Mi hcd AoV AoW,AoX,fun base _ _ hC hB=>AoQ T hcd hC hB⟩
end Mine
open PySem PySem.W PyProof.Rows
def PySem.W.Fast.tw1616250737975502368:=()
def PySem.W.Fast.tw13086242535414443310:=()
def PySem.W.Fast.tw9544405116030504528:=()
def PySem.W.Fast.tw12704598110273833182:=()
def PySem.W.Fast.tw5558838076315552973:=()
def PySem.W.Fast.tw1873637213221631110:=()
def PySem.W.Fast.tw14658785119515534463:=()
def PySem.W.Fast.tw12442332961311576106:=()
def PySem.W.Fast.tw779919361328224084:=()
def PySem.W.Fast.tw16968050036001029986:=()
def PySem.W.Fast.tw17544977868688668716:=()
def PySem.W.Fast.tw10745278401576521507:=()
def PySem.W.Fast.tw14549110019952292545:=()
def PySem.W.Fast.tw4803956426547222187:=()
def PySem.W.Fast.tw4450465800891988386:=()
def PySem.W.Fast.tw11979626504657811017:=()
def PySem.W.Fast.tw16411723503047654078:=()
def PySem.W.Fast.tw11931902044574096907:=()
def PySem.W.Fast.tw6933766216325904026:=()
def PySem.W.Fast.tw11436218480972010487:=()
def PySem.W.Fast.tw12103671708581022177:=()
def PySem.W.Fast.tw9332135065667797099:=()
def PySem.W.Fast.tw15117644359915832456:=()
def PySem.W.Fast.tw3943547686646424545:=()
def PySem.W.Fast.tw758376973127513118:=()
def PySem.W.Fast.tw7079848934351807377:=()
def PySem.W.Fast.tw4233518237387519124:=()
def PySem.W.Fast.tw5202698989917953467:=()
def PySem.W.Fast.tw2697238757080309732:=()
def PySem.W.Fast.tw1651987421954360578:=()
def PySem.W.Fast.tw15034260888227240503:=()
def PySem.W.Fast.tw15355261029563696297:=()
def PySem.W.Fast.tw9329500068322630893:=()
def PySem.W.Fast.tw2282952997941561630:=()
def PySem.W.Fast.tw3077763740315483794:=()
def PySem.W.Fast.tw17803603791815107957:=()
def PySem.W.Fast.tw10358207752704721088:=()
def PySem.W.Fast.tw14159313594888841013:=()
def PySem.W.Fast.tw11734576142663798205:=()
def PySem.W.Fast.tw2648526232698568360:=()
def PySem.W.Fast.tw1192862429109903520:=()
def PySem.W.Fast.tw2318347180605173379:=()
def PySem.W.Fast.tw8833540675327139673:=()
def PySem.W.Fast.tw13304502453392008785:=()
def PySem.W.Fast.tw13580812906973507392:=()
def PySem.W.Fast.tw9527756041961541506:=()
def PySem.W.Fast.tw2737275606512056260:=()
def PySem.W.Fast.tw12182799049511106757:=()
def PySem.W.Fast.tw13254462893150702094:=()
def PySem.W.Fast.tw11142260614430816122:=()
def PySem.W.Fast.tw1922663920047971090:=()
def PySem.W.Fast.tw9840679222751899516:=()
def PySem.W.Fast.tw6711439099815820222:=()
def PySem.W.Fast.tw9267246473616503462:=()
def PySem.W.Fast.tw12187190916217942000:=()
def PySem.W.Fast.tw3562368517607290192:=()
def PySem.W.Fast.tw4195209230501457336:=()
def PySem.W.Fast.tw13511810793098575933:=()
def PySem.W.Fast.tw6805063388812257233:=()
def PySem.W.Fast.tw15401112705882931780:=()
def PySem.W.Fast.tw6204405860876143879:=()
def PySem.W.Fast.tw15069098187916633572:=()
def PySem.W.Fast.tw12554028910513378908:=()
def PySem.W.Fast.tw2682592043129931440:=()
def PySem.W.Fast.tw12301652078243732156:=()
def PySem.W.Fast.tw13491974252058838222:=()
def PySem.W.Fast.tw5940563330982733493:=()
def PySem.W.Fast.tw3665264580718428249:=()
def PySem.W.Fast.tw7792102345901150484:=()
def PySem.W.Fast.tw14731200142620933709:=()
def PySem.W.Fast.tw8382301692189401674:=()
def PySem.W.Fast.tw16428209128948306071:=()
def PySem.W.Fast.tw7096749353240272329:=()
def PySem.W.Fast.tw2169311574807262921:=()
def PySem.W.Fast.tw15114565179396614737:=()
def PySem.W.Fast.tw8376425098879599036:=()
def PySem.W.Fast.tw2484455306557034118:=()
def PySem.W.Fast.tw6385045631326962422:=()
def PySem.W.Fast.tw9127894056301625835:=()
def PySem.W.Fast.tw14376137984290776768:=()
def PySem.W.Fast.tw15320340108058421589:=()
def PySem.W.Fast.tw14783640311723874550:=()
def PySem.W.Fast.tw17110131362577693107:=()
def PySem.W.Fast.tw16303196720935832978:=()
def PySem.W.Fast.tw832290364092132229:=()
def PySem.W.Fast.tw6251843248506435190:=()
def PySem.W.Fast.tw10885389692255252136:=()
def PySem.W.Fast.tw5011383690444220628:=()
def PySem.W.Fast.tw11642228190697166226:=()
def PySem.W.Fast.tw15657436956418365285:=()
set_option maxRecDepth 100000 in
set_option maxHeartbeats 0 in
theorem PySem.Challenge.cw_heddle_k37_no_shuttle_holds : PySem.Challenge.rw_heddle_k37_no_shuttle.Holds := by
 w_on;o_law;k_head;(case hw=>w_witness2)
 k_fill
 refine L2.Aky (l:=PySem.Challenge.rw_heddle_k37_no_shuttle) (n:=63) (k:=11) (x := "script") (y := "layers_of") (qn := "layers_of.<locals>.<lambda>") (CX:=L2.CX0) (sp:=Mine.AfO) rfl (by decide) rfl ⟨rfl,by decide,by decide⟩ (fun w h Y=>PySem.W.km_in_of Y) rfl ?F ?S ?C
 case F =>
  intro w mg fa h KX G hmg
  refine' Mine.AoR KX G hmg ?Zc ?Tg ?Th ?Ti ?KZ ?Je ?Jf ?Jg ?Tj ?Nf ?Ng ?Nh ?Wb ?Qv ?Qw ?Qx ?Wc ?Qy ?Qz ?Q0 ?AbJ ?X4 ?X5 ?X6 ?Q3 ?Mi ?Q4 ?Q5 ?Mw ?Jv ?Jw ?Jx ?Zd ?Tn ?Tp ?Tq ?Ze ?Tr ?Tt ?Tu ?Wd ?Q6 ?Q7 ?Q8 ?La ?Jh ?Ji ?Jj ?QZ ?Le ?Lg ?Lh ?AbK ?X7 ?X8 ?XC ?Ra ?Li ?Lj ?Lk ?Zf ?Tv ?Tw ?Tz ?Aeh ?Abj ?Abk ?Abl ?Rb ?Ln ?Lp ?Lq ?We ?Q9 ?QB ?QC ?Zg ?T4 ?T5 ?T7 ?O5 ?Kq ?Kr ?Ks ?J9 ?HB ?HD ?HF ?Il ?GC ?GD ?GF ?AiR ?AiS ?AiT ?AiU ?T9 ?Wf ?AlB ?TF ?AlC ?Aic ?AlD ?AlE ?Agf ?AlF ?Aei ?AlG ?AlH ?O6 ?Zh ?TJ ?Agg ?Zi ?AbL ?AbM ?Zj ?Aej ?Zk ?Wg ?Zm ?AbN ?Wh ?AbO ?Agh ?Rc ?Rf ?Rg ?Rh ?BX ?BZ ?Ri ?Rj ?Rk ?O7 ?O8 ?Aek ?Ael ?Aem ?Aen ?Aeo ?Aep ?Aeq ?AbP ?AbQ ?Wi ?Wj ?Wl ?Wm ?Wn ?Wo ?Wq ?TQ ?TV ?Zn ?Zo ?Zq ?Zr ?Zt ?Zu ?Zv ?Wr ?Ws ?Ck ?HX ?G4 ?Az ?GZ ?G5 ?Hs ?G6 ?FW ?G7 ?Ha ?FZ ?Hb ?HY ?Zw ?Zx ?Zy ?Zz ?Z0 ?Z1 ?Z2 ?Wt ?Wu ?Wv ?Ww ?Wx ?Wz ?W0 ?W2 ?W3 ?TX ?TY ?AbR ?AbS ?AbT ?AbU ?AbV ?AbW ?AbX ?Z3 ?Z4 ?W4 ?W5 ?W6 ?W7 ?W8 ?W9 ?WD ?Ua ?Ub ?Uc ?Ud ?Ue ?Ug ?Uh ?Ui ?Uj ?Rm ?Rn ?Cr ?Hd ?Fq ?Er ?Ga ?Ft ?G8 ?Fv ?Al ?Fy ?Gb ?Ex ?Gd ?Hf ?WL ?WM ?WN ?WQ ?WR ?WT ?WW ?Uk ?Ul ?Z5 ?Z6 ?Z7 ?Z8 ?Z9 ?ZC ?ZD ?WY ?Xa ?Um ?Uo ?Ur ?Us ?Ut ?Uu ?Uv ?Ro ?Rp ?ZF ?ZG ?ZJ ?ZK ?ZL ?ZM ?ZP ?Xb ?Xc ?Aer ?Aes ?Aet ?Aeu ?Aev ?Aew ?Aex ?AbY ?AbZ ?Rq ?Rr ?Lr ?Ls ?Jt ?Aey ?Aez ?Abm ?Abn ?Xd ?Xe ?Xf ?QD ?QF ?Mj ?ZQ ?ZR ?Uw ?Ux ?OD ?ZS ?ZV ?Uy ?Uz ?OJ ?Xg ?Xh ?QG ?QH ?Ml ?Aca ?Acb ?XD ?XF ?RK ?Xi ?Xj ?QJ ?QK ?Mm ?U0 ?U3 ?Ni ?Nj ?Ku ?Xk ?Xl ?QL ?QM ?Mp ?ZW ?ZX ?U4 ?U5 ?Pa ?U6 ?U7 ?Nk ?Nm ?Kv ?ZZ ?Aaa ?U8 ?U9 ?Pb ?Ae0 ?Ae1 ?Abo ?Abp ?Xm ?tab0 ?AoV ?AoW ?AoX
  (case Zc=>k_is)
  (case Tg=>k_is)
  (case Th=>k_is)
  (case Ti=>k_is)
  (case KZ=>k_is)
  (case Je=>k_is)
  (case Jf=>k_is)
  (case Jg=>k_is)
  (case Tj=>k_is)
  (case Nf=>k_is)
  (case Ng=>k_is)
  (case Nh=>k_is)
  (case Wb=>k_is)
  (case Qv=>k_is)
  (case Qw=>k_is)
  (case Qx=>k_is)
  (case Wc=>k_is)
  (case Qy=>k_is)
  (case Qz=>k_is)
  (case Q0=>k_is)
  (case AbJ=>k_is)
  (case X4=>k_is)
  (case X5=>k_is)
  (case X6=>k_is)
  (case Q3=>k_is)
  (case Mi=>k_is)
  (case Q4=>k_is)
  (case Q5=>k_is)
  (case Mw=>k_is)
  (case Jv=>k_is)
  (case Jw=>k_is)
  (case Jx=>k_is)
  (case Zd=>k_is)
  (case Tn=>k_is)
  (case Tp=>k_is)
  (case Tq=>k_is)
  (case Ze=>k_is)
  (case Tr=>k_is)
  (case Tt=>k_is)
  (case Tu=>k_is)
  (case Wd=>k_is)
  (case Q6=>k_is)
  (case Q7=>k_is)
  (case Q8=>k_is)
  (case La=>k_is)
  (case Jh=>k_is)
  (case Ji=>k_is)
  (case Jj=>k_is)
  (case QZ=>k_is)
  (case Le=>k_is)
  (case Lg=>k_is)
  (case Lh=>k_is)
  (case AbK=>k_is)
  (case X7=>k_is)
  (case X8=>k_is)
  (case XC=>k_is)
  (case Ra=>k_is)
  (case Li=>k_is)
  (case Lj=>k_is)
  (case Lk=>k_is)
  (case Zf=>k_is)
  (case Tv=>k_is)
  (case Tw=>k_is)
  (case Tz=>k_is)
  (case Aeh=>k_is)
  (case Abj=>k_is)
  (case Abk=>k_is)
  (case Abl=>k_is)
  (case Rb=>k_is)
  (case Ln=>k_is)
  (case Lp=>k_is)
  (case Lq=>k_is)
  (case We=>k_is)
  (case Q9=>k_is)
  (case QB=>k_is)
  (case QC=>k_is)
  (case Zg=>k_is)
  (case T4=>k_is)
  (case T5=>k_is)
  (case T7=>k_is)
  (case O5=>k_is)
  (case Kq=>k_is)
  (case Kr=>k_is)
  (case Ks=>k_is)
  (case J9=>k_is)
  (case HB=>k_is)
  (case HD=>k_is)
  (case HF=>k_is)
  (case Il=>k_is)
  (case GC=>k_is)
  (case GD=>k_is)
  (case GF=>k_is)
  (case AiR=>k_is)
  (case AiS=>k_is)
  (case AiT=>k_is)
  (case AiU=>k_is)
  (case T9=>k_is)
  (case Wf=>k_is)
  (case AlB=>k_is)
  (case TF=>k_is)
  (case AlC=>k_is)
  (case Aic=>k_is)
  (case AlD=>k_is)
  (case AlE=>k_is)
  (case Agf=>k_is)
  (case AlF=>k_is)
  (case Aei=>k_is)
  (case AlG=>k_is)
  (case AlH=>k_is)
  (case O6=>k_is)
  (case Zh=>k_is)
  (case TJ=>k_is)
  (case Agg=>k_is)
  (case Zi=>k_is)
  (case AbL=>k_is)
  (case AbM=>k_is)
  (case Zj=>k_is)
  (case Aej=>k_is)
  (case Zk=>k_is)
  (case Wg=>k_is)
  (case Zm=>k_is)
  (case AbN=>k_is)
  (case Wh=>k_is)
  (case AbO=>k_is)
  (case Agh=>k_is)
  (case Rc=>k_exc)
  (case Rf=>k_is)
  (case Rg=>k_is)
  (case Rh=>k_is)
  (case BX=>k_is)
  (case BZ=>k_is)
  (case Ri=>k_is)
  (case Rj=>k_is)
  (case Rk=>k_is)
  (case O7=>k_is)
  (case O8=>k_is)
  (case Aek=>k_exc)
  (case Ael=>k_is)
  (case Aem=>k_is)
  (case Aen=>k_is)
  (case Aeo=>k_is)
  (case Aep=>k_is)
  (case Aeq=>k_is)
  (case AbP=>k_is)
  (case AbQ=>k_is)
  (case Wi=>k_exc)
  (case Wj=>k_is)
  (case Wl=>k_is)
  (case Wm=>k_is)
  (case Wn=>k_is)
  (case Wo=>k_is)
  (case Wq=>k_is)
  (case TQ=>k_is)
  (case TV=>k_is)
  (case Zn=>k_exc)
  (case Zo=>k_is)
  (case Zq=>k_is)
  (case Zr=>k_is)
  (case Zt=>k_is)
  (case Zu=>k_is)
  (case Zv=>k_is)
  (case Wr=>k_is)
  (case Ws=>k_is)
  (case Ck=>k_is)
  (case HX=>k_is)
  (case G4=>k_is)
  (case Az=>k_is)
  (case GZ=>k_is)
  (case G5=>k_is)
  (case Hs=>k_is)
  (case G6=>k_is)
  (case FW=>k_is)
  (case G7=>k_is)
  (case Ha=>k_is)
  (case FZ=>k_is)
  (case Hb=>k_is)
  (case HY=>k_is)
  (case Zw=>k_exc)
  (case Zx=>k_is)
  (case Zy=>k_is)
  (case Zz=>k_is)
  (case Z0=>k_is)
  (case Z1=>k_is)
  (case Z2=>k_is)
  (case Wt=>k_is)
  (case Wu=>k_is)
  (case Wv=>k_exc)
  (case Ww=>k_is)
  (case Wx=>k_is)
  (case Wz=>k_is)
  (case W0=>k_is)
  (case W2=>k_is)
  (case W3=>k_is)
  (case TX=>k_is)
  (case TY=>k_is)
  (case AbR=>k_exc)
  (case AbS=>k_is)
  (case AbT=>k_is)
  (case AbU=>k_is)
  (case AbV=>k_is)
  (case AbW=>k_is)
  (case AbX=>k_is)
  (case Z3=>k_is)
  (case Z4=>k_is)
  (case W4=>k_exc)
  (case W5=>k_is)
  (case W6=>k_is)
  (case W7=>k_is)
  (case W8=>k_is)
  (case W9=>k_is)
  (case WD=>k_is)
  (case Ua=>k_is)
  (case Ub=>k_is)
  (case Uc=>k_exc)
  (case Ud=>k_is)
  (case Ue=>k_is)
  (case Ug=>k_is)
  (case Uh=>k_is)
  (case Ui=>k_is)
  (case Uj=>k_is)
  (case Rm=>k_is)
  (case Rn=>k_is)
  (case Cr=>k_is)
  (case Hd=>k_is)
  (case Fq=>k_is)
  (case Er=>k_is)
  (case Ga=>k_is)
  (case Ft=>k_is)
  (case G8=>k_is)
  (case Fv=>k_is)
  (case Al=>k_is)
  (case Fy=>k_is)
  (case Gb=>k_is)
  (case Ex=>k_is)
  (case Gd=>k_is)
  (case Hf=>k_is)
  (case WL=>k_exc)
  (case WM=>k_is)
  (case WN=>k_is)
  (case WQ=>k_is)
  (case WR=>k_is)
  (case WT=>k_is)
  (case WW=>k_is)
  (case Uk=>k_is)
  (case Ul=>k_is)
  (case Z5=>k_exc)
  (case Z6=>k_is)
  (case Z7=>k_is)
  (case Z8=>k_is)
  (case Z9=>k_is)
  (case ZC=>k_is)
  (case ZD=>k_is)
  (case WY=>k_is)
  (case Xa=>k_is)
  (case Um=>k_exc)
  (case Uo=>k_is)
  (case Ur=>k_is)
  (case Us=>k_is)
  (case Ut=>k_is)
  (case Uu=>k_is)
  (case Uv=>k_is)
  (case Ro=>k_is)
  (case Rp=>k_is)
  (case ZF=>k_exc)
  (case ZG=>k_is)
  (case ZJ=>k_is)
  (case ZK=>k_is)
  (case ZL=>k_is)
  (case ZM=>k_is)
  (case ZP=>k_is)
  (case Xb=>k_is)
  (case Xc=>k_is)
  (case Aer=>k_exc)
  (case Aes=>k_is)
  (case Aet=>k_is)
  (case Aeu=>k_is)
  (case Aev=>k_is)
  (case Aew=>k_is)
  (case Aex=>k_is)
  (case AbY=>k_is)
  (case AbZ=>k_is)
  (case Rq=>k_is)
  (case Rr=>k_is)
  (case Lr=>k_is)
  (case Ls=>k_is)
  (case Jt=>k_is)
  (case Aey=>k_is)
  (case Aez=>k_is)
  (case Abm=>k_is)
  (case Abn=>k_is)
  (case Xd=>k_is)
  (case Xe=>k_is)
  (case Xf=>k_is)
  (case QD=>k_is)
  (case QF=>k_is)
  (case Mj=>k_is)
  (case ZQ=>k_is)
  (case ZR=>k_is)
  (case Uw=>k_is)
  (case Ux=>k_is)
  (case OD=>k_is)
  (case ZS=>k_is)
  (case ZV=>k_is)
  (case Uy=>k_is)
  (case Uz=>k_is)
  (case OJ=>k_is)
  (case Xg=>k_is)
  (case Xh=>k_is)
  (case QG=>k_is)
  (case QH=>k_is)
  (case Ml=>k_is)
  (case Aca=>k_is)
  (case Acb=>k_is)
  (case XD=>k_is)
  (case XF=>k_is)
  (case RK=>k_is)
  (case Xi=>k_is)
  (case Xj=>k_is)
  (case QJ=>k_is)
  (case QK=>k_is)
  (case Mm=>k_is)
  (case U0=>k_is)
  (case U3=>k_is)
  (case Ni=>k_is)
  (case Nj=>k_is)
  (case Ku=>k_is)
  (case Xk=>k_is)
  (case Xl=>k_is)
  (case QL=>k_is)
  (case QM=>k_is)
  (case Mp=>k_is)
  (case ZW=>k_is)
  (case ZX=>k_is)
  (case U4=>k_is)
  (case U5=>k_is)
  (case Pa=>k_is)
  (case U6=>k_is)
  (case U7=>k_is)
  (case Nk=>k_is)
  (case Nm=>k_is)
  (case Kv=>k_is)
  (case ZZ=>k_is)
  (case Aaa=>k_is)
  (case U8=>k_is)
  (case U9=>k_is)
  (case Pb=>k_is)
  (case Ae0=>k_is)
  (case Ae1=>k_is)
  (case Abo=>k_is)
  (case Abp=>k_is)
  (case Xm=>k_is)
  (case tab0=>exact rfl)
  (case AoV=>k_is)
  (case AoW=>exact rfl)
  (case AoX=>kernel_rfl)
 case S=>exact fun K T H a ns hl hS tb=>Mine.AfP hl hS tb
 case C=>exact fun _ _ _ _ z=>z
