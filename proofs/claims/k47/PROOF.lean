import PyProof.Rows.All
import Wide.FinOn
import KE.KNestM
import OpenK.KOwn
import KE.KItem
import KE.IntText
import KE.KTabLook
import KE.KFromBytes
import KE.KIntText
import KE.KTab
import KE.KIsAll
import KE.KLam
import KE.KRevIter
import KE.KDictOf
import KE.KxBytes
import OpenK.KRaise
import Lean
import PyProof.EqAt
import PyProof.EqKinds
import PyProof.TupleCall
import PyProof.StrBlockL
import PyProof.EnumMake
import PyProof.CollectIter
import PyProof.JoinWalk
import PyProof.StrOps
import PyProof.StrLawsIdx
import PyProof.StrLawsIn
import PyProof.ListRange
import PyProof.Rows.Range3
import PyProof.Rows.SumAny
import KE.LcSums
import OpenK.KCls
import PyProof.LongRange
import PyProof.StrOps2
import PyProof.FitsBits
import PyProof.NeKinds
import PyProof.Rows.SortRev
import PyProof.Rows.SortWalk
import PyProof.Rows.CallKwBuiltin
import PyProof.Rows.MinMaxN
import PyProof.Rows.ZipGen
import PyProof.Draws
import PyProof.DictUpdate
import PyProof.Rows.SeqMore
import KE.KItemsList
import PyProof.Rows.SetFrom
import PyProof.CollectWalk
import PyProof.DictWalks
import PyProof.ConsumeWalk
import PySem.Challenge.RW_heddle_k47_no_colour
set_option Elab.async false
set_option linter.all false
set_option maxRecDepth 100000
namespace Zz
def AjO:=@List.getElem?_eq_getElem
def AjP:=@List.length_map
def AjQ:=@Nat.le_refl
def AjR:=@List.length_append
def AjS:=@Nat.ne_of_lt
def AjT:=@List.mem_of_getElem?
def AjU:=@List.getElem_mem
def AjV:=@List.getD_eq_getElem?_getD
def AjW:=@Int.toNat_natCast
def AjX:=@List.map_cons
def AjY:=@List.map_append
def AjZ:=@List.size_toArray
def Aka:=@List.getElem?_map
def Akb:=@Nat.zero_le
def Akc:=@Nat.lt_of_lt_of_le
def Akd:=@Bool.false_ne_true
def Ake:=@List.mem_cons_self
def Akf:=@List.length_take
def Akg:=@Nat.le_trans
def Akh:=@List.length_range
def Aki:=@List.getElem?_append_left
def Akj:=@List.lookup_cons
def Akk:=@List.mem_cons_of_mem
def Akl:=@List.mem_cons
def Akm:=@List.not_mem_nil
def Akn:=@Nat.lt_irrefl
def Ako:=@List.mem_append_right
def Akp:=@List.take_add_one
def Akq:=@Nat.ne_of_gt
def Akr:=@List.getElem?_append_right
def Aks:=@List.length_cons
def Akt:=@List.length_singleton
def Aku:=@Nat.lt_succ_of_lt
def Akv:=@List.map_nil
def Akw:=@List.take_of_length_le
def Akx:=@Nat.lt_succ_self
def Aky:=@List.getElem_of_mem
def Akz:=@List.getElem?_eq_none
def Ak0:=@Nat.le_succ
def Ak1:=@List.length_drop
def Ak2:=@List.take_length
def Ak3:=@Bool.and_eq_true
def Ak4:=@Nat.sub_self
def Ak5:=@Int.zero_add
def Ak6:=@Int.emod_nonneg
def Ak7:=@Int.emod_lt_of_pos
def Ak8:=@List.length_set
def Ak9:=@List.getElem?_range
def AkA:=@Nat.le_of_lt
def AkB:=@List.mem_append_left
def AkC:=@Nat.le_of_eq
def AkD:=@List.any_cons
def AkE:=@List.range_succ
def AkF:=@List.find?_cons
def AkG:=@List.filterMap_cons
def AkH:=@Bool.false_eq_true
def AkI:=@List.drop_zero
def AkJ:=@Nat.min_eq_left
def AkK:=@List.append_assoc
def AkL:=@List.length_reverse
def AkM:=@List.getElem?_of_mem
def AkN:=@Nat.mod_lt
def AkO:=@List.mem_append
def AkP:=@List.getElem?_set_ne
def AkQ:=@Bool.eq_iff_iff
def AkR:=@List.append_nil
def AkS:=@List.replicate_succ
def AkT:=@List.flatten_cons
def AkU:=@List.forIn_cons
def AkV:=@Nat.sub_zero
def AkW:=@Nat.lt_trans
def AkX:=@List.getElem_toArray
def AkY:=@List.mem_map
def AkZ:=@List.filter_cons_of_neg
def Ala:=@List.filter_cons_of_pos
def Alb:=@List.length_filter_le
def Alc:=@Nat.not_lt_zero
def Ald:=@List.getElem?_set_self
def Ale:=@List.getElem?_take_of_lt
def Alf:=@List.getElem?_cons_succ
def Alh:=@List.getElem?_drop
def Ali:=@Option.isSome_map
def Alj:=@List.length_eraseIdx
def Alk:=@List.ext_getElem?
def Alm:=@List.pairwise_iff_getElem
def Aln:=@List.length_pos_of_mem
def Alo:=@List.filter_append
def Alp:=@List.length_erase_of_mem
def Alq:=@List.nodup_iff_pairwise_ne
def Alr:=@List.eq_nil_of_length_eq_zero
def Als:=@List.eraseIdx_eq_take_drop_succ
end Zz
open Zz
namespace L2
open PySem PySem.Spec PyProof.Rows
abbrev Key:=Sum Int Str
def Ur:Key→Value→Bool
 | .inl k,v=>Value.isInt k v
 | .inr x,v=>Value.isStrOf x v
def AhB (w:World):Key→Int
 | .inl k=>hashInt k
 | .inr x=>hashStr w x
theorem DR:∀{k:Key} {v:Value},Ur k v=true→(∃ i t,k=Sum.inl i∧v=Value.int i t)∨(∃ x t,k=Sum.inr x∧v=Value.str x t)
 | .inl i,v,h=>by
  obtain⟨t,e⟩:=Value.isInt_shape (k:=i) (v:=v) h
  exact .inl ⟨i,t,rfl,e⟩
 | .inr x,v,h=>by
  obtain⟨t,e⟩:=Value.isStrOf_shape (x:=x) (v:=v) h
  exact .inr ⟨x,t,rfl,e⟩
theorem ZV(i:Int)(t:Tok):Ur (.inl i) (.int i t)=true:=by simp[Ur,Value.isInt]
theorem ZW(x:Str)(t:Tok):Ur (.inr x) (.str x t)=true:=by simp[Ur,Value.isStrOf]
theorem AeD(a b:Int):decide ((Sum.inl a:Key)=Sum.inl b)=(a == b):=by
 by_cases e:a=b
 ·subst e;simp
 ·have h:¬(Sum.inl a:Key)=Sum.inl b:=fun q=>e (Sum.inl.inj q)
  rw[decide_eq_false h]
  exact(beq_eq_false_iff_ne.mpr e).symm
theorem AeE(a b:Str):decide ((Sum.inr a:Key)=Sum.inr b)=decide (a=b):=by
 by_cases e:a=b
 ·subst e;simp
 ·have h:¬(Sum.inr a:Key)=Sum.inr b:=fun q=>e (Sum.inr.inj q)
  rw[decide_eq_false h,decide_eq_false e]
theorem AeF(a:Int)(b:Str):decide ((Sum.inl a:Key)=Sum.inr b)=false:=decide_eq_false (fun q=>nomatch q)
theorem AeG(a:Str)(b:Int):decide ((Sum.inr a:Key)=Sum.inl b)=false:=decide_eq_false (fun q=>nomatch q)
def Dq (prog:Program)(w:World):PySem.KeyKind prog w Key where
 is:=Ur
 hash:=AhB w
 inj:=fun v a b ha hb=>by
  rcases DR ha with ⟨i,t,rfl,rfl⟩ | ⟨x,t,rfl,rfl⟩
  ·rcases DR hb with ⟨j,u,rfl,e⟩ | ⟨y,u,rfl,e⟩
   ·injection e with e1 _;rw[e1]
   ·exact nomatch e
  ·rcases DR hb with ⟨j,u,rfl,e⟩ | ⟨y,u,rfl,e⟩
   ·exact nomatch e
   ·injection e with e1 _;rw[e1]
 byValue:=fun k v h=>by
  rcases DR h with ⟨i,t,rfl,rfl⟩ | ⟨x,t,rfl,rfl⟩ <;> rfl
 pyHash:=fun hv h=>by
  rcases DR hv with ⟨i,t,rfl,rfl⟩ | ⟨x,t,rfl,rfl⟩
  ·exact wpAny_pyHash_int h
  ·exact wpAny_pyHash_str h
 eqBool:=fun hu hv h=>by
  rcases DR hu with ⟨i,t,rfl,rfl⟩ | ⟨x,t,rfl,rfl⟩
  ·rcases DR hv with ⟨j,u,rfl,rfl⟩ | ⟨y,u,rfl,rfl⟩
   ·rw[AeD] at h;exact wpAny_eqBool_int h
   ·rw[AeF] at h;exact SeqAt.EqAt.int_str i t y u _ _ _ _ h
  ·rcases DR hv with ⟨j,u,rfl,rfl⟩ | ⟨y,u,rfl,rfl⟩
   ·rw[AeG] at h;exact SeqAt.EqAt.str_int x t j u _ _ _ _ h
   ·rw[AeE] at h;exact wpAny_eqBool_str h
 «strs»:=fun k x t v h=>by
  rcases DR h with ⟨i,u,rfl,e⟩ | ⟨y,u,rfl,e⟩
  ·exact nomatch e
  ·injection e with e1 _
   subst e1
   cases v <;> rfl
theorem Wz(prog:Program)(w:World)(i:Int)(t:Tok):(Dq prog w).is (.inl i) (.int i t)=true:=ZV i t
theorem W0(prog:Program)(w:World)(x:Str)(t:Tok):(Dq prog w).is (.inr x) (.str x t)=true:=ZW x t
open PySem PySem.Spec PyProof.Rows
inductive V where
 | non | bl (b:Bool) | int (i:Int) | str (x:Str) | byt (b:Array UInt8) | flt (b:UInt64) | ref (a:Addr) | ty (n:String)
 deriving DecidableEq
def RelV:V→Value→Prop
 | .non,u=>u=Value.none
 | .bl b,u=>u=Value.bool b
 | .int i,u=>∃ t,u=Value.int i t
 | .str x,u=>∃ t,u=Value.str x t
 | .byt b,u=>∃ t,u=Value.bytes b t
 | .flt b,u=>∃ t,u=Value.float b t
 | .ref a,u=>u=Value.ref a
 | .ty n,u=>u=Value.type n
abbrev Vals:List V→List Value→Prop:=Paired RelV
theorem Vals.length{xs:List V}{us:List Value}(r:Vals xs us):xs.length=us.length:=Paired.length r
theorem Vals.get:∀{xs:List V} {us:List Value} {i:Nat} {x:V},Vals xs us→xs[i]?=some x→∃ u,us[i]?=some u∧RelV x u
 | _,_,_,_,.nil,e=>by simp at e
 | _,_,0,_,.cons r _,e=>by simp at e;subst e;exact⟨_,rfl,r⟩
 | _,_,i+1,x,.cons _ t,e=>by
  obtain⟨u,h1,h2⟩:=Vals.get (i:=i) (x:=x) t (by simpa using e)
  exact⟨u,by simpa using h1,h2⟩
theorem Vals.set{x:V}{u:Value}(r:RelV x u):∀{xs:List V} {us:List Value} (i:Nat),Vals xs us→Vals (xs.set i x) (us.set i u)
 | _,_,_,.nil=>.nil
 | _,_,0,.cons _ t=>.cons r t
 | _,_,i+1,.cons q t=>.cons q (Vals.set r i t)
theorem Vals.append:∀{xs ys:List V} {us ws:List Value},Vals xs us→Vals ys ws→Vals (xs++ys) (us++ws)
 | _,_,_,_,.nil,s=>s
 | _,_,_,_,.cons r t,s=>.cons r (Vals.append t s)
theorem Vals.take:∀{xs:List V} {us:List Value} (n:Nat),Vals xs us→Vals (xs.take n) (us.take n)
 | _,_,0,_=>.nil
 | _,_,_+1,.nil=>.nil
 | _,_,n+1,.cons r t=>.cons r (Vals.take n t)
theorem Vals.drop:∀{xs:List V} {us:List Value} (n:Nat),Vals xs us→Vals (xs.drop n) (us.drop n)
 | _,_,0,r=>r
 | _,_,_+1,.nil=>.nil
 | _,_,n+1,.cons _ t=>Vals.drop n t
def Oj:Option V→Option Value→Prop
 | some v,some u=>RelV v u
 | none,none=>True
 | _,_=>False
def KV {κ:Type}:List (κ × V)→List (κ × Value)→Prop:=Paired fun(p:κ × V) (q:κ × Value)=>p.1=q.1∧RelV p.2 q.2
def kV:Key→V
 | .inl i=>.int i
 | .inr x=>.str x
inductive HO where
 | lst (xs:List V)
 | tup (xs:List V)
 | dK (kvs:List (Key × V)) | dT (kvs:List (List Key × V))
 | set (S:Int→Bool) (n:Nat)
 | ins (C dx:Addr) (fs:List (Str × V))
 | own (x:Addr)
 | xd (fs:List (Str × V))
 | met (f x:Addr)
 | rng (lo hi:Int)
 | frz (o:Obj) (u:HO)
 | tbl (ps:Array Value)
 | ext (φ:Heap→Prop)
abbrev Hp:=Addr→Option HO
def upd (H:Hp)(a:Addr)(o:HO):Hp:=fun b=>if b=a then some o else H b
theorem Af{H:Hp}{a:Addr}{o:HO}:upd H a o a=some o:=by unfold upd;rw[if_pos rfl]
theorem Aq{H:Hp}{a b:Addr}{o:HO}(h:b≠a):upd H a o b=H b:=by unfold upd;rw[if_neg h]
theorem Agh{H:Hp}{a b:Addr}{o u:HO}(h:H a=some o)(h':H b=some u)(d:o≠u):a≠b:=by
 intro e;subst e;rw[h] at h';exact d (Option.some.inj h')
theorem BP{H:Hp}{a b:Addr}{o:HO}(h:H a=some o)(h':H b=none):a≠b:=by
 intro e;subst e;rw[h] at h';cases h'
section
variable (P:Program) (w:World)
def Et (H:Hp)(h:Heap)(a:Addr):HO→Prop
 | .lst xs=>xs.length≤sizeLine∧∃(its:List Value) (n:Nat),Vals xs its∧h.get? a=some { cls:=.type "list", data:=.seq its.toArray n }
 | .tup xs=>xs.length≤sizeLine∧∃ its:List Value,Vals xs its∧IsTup h a its.toArray
 | .dK kvs=>kvs.length≤sizeLine∧(a == sysModules)=false∧∃ vs,KV kvs vs∧h.DictOf (Dq P w) a vs
 | .dT kvs=>kvs.length≤sizeLine∧(a == sysModules)=false∧∃ xs:List (List Key × Addr × Value),
   Paired (fun(p:List Key × V) (q:List Key × Addr × Value)=>p.1=q.1∧H q.2.1=some (.tup (p.1.map kV))∧RelV p.2 q.2.2) kvs xs ∧
   ∃ o es ep,h.get? a=some o∧o.ExactDict∧o.data=.dict es ep∧es.toList=xs.map (entryOfKey (tupleKind (Dq P w)))∧(xs.map (·.1)).Nodup
 | .set S n=>h.SetOf (intKind P w) a S n
 | .ins C dx fs=>H dx=some (.own a)∧fs.length≤1000∧dx≠a∧h.get? a=some (PySem.W.instObj C dx) ∧
   ∃ mA,h.Ns1 dx mA∧(∀ f,Oj (fs.lookup f) (mA f))∧PySem.Within mA (fs.map (·.1))
 | .own _=>∃ o,h.get? a=some o
 | .xd fs=>∃ mA,h.Ns1 a mA∧∀ f,Oj (fs.lookup f) (mA f)
 | .rng lo hi=>∃ t u v,h.get? a=some { cls:=.type "range", data:=.fields #[.int lo t,.int hi u,.int 1 v] }
 | .frz o u=>h.get? a=some o∧Et H h a u
 | .tbl ps=>h.get? a=some { cls:=.none,data:=.fields ps }
 | .met f x=>h.get? a=some (PySem.W.methodObj (.ref f) (.ref x))
 | .ext φ=>φ h∧(∃ o,h.get? a=some o)∧∀ h1 h2:Heap,φ h1→(∀ o,h1.get? a=some o→h2.get? a=some o)→φ h2
def HOk (H:Hp)(h:Heap):Prop:=∀ a o,H a=some o→Et P w H h a o
end
section
variable {P:Program}{w:World}{H H':Hp}{h h':Heap}{a:Addr}{o:HO}
theorem Et.lt(x:Et P w H h a o):a<h.objs.size:=by
 cases o with
 | lst xs=>obtain⟨_,_,_,_,e⟩:=x;exact Heap.lt_size e
 | tup xs=>obtain⟨_,_,_,p⟩:=x;exact p.lt
 | dK kvs=>obtain⟨_,_,_,_,o,_,_,e,_⟩:=x;exact Heap.lt_size e
 | dT kvs=>obtain⟨_,_,_,_,o,_,_,e,_⟩:=x;exact Heap.lt_size e
 | set S n=>obtain⟨o,_,_,_,e,_⟩:=x;exact Heap.lt_size e
 | ins C dx fs=>obtain⟨_,_,_,e,_⟩:=x;exact Heap.lt_size e
 | own y=>obtain⟨_,e⟩:=x;exact Heap.lt_size e
 | xd fs=>obtain⟨_,⟨_,_,_,e,_⟩,_⟩:=x;exact Heap.lt_size e
 | rng lo hi=>obtain⟨_,_,_,e⟩:=x;exact Heap.lt_size e
 | frz ob u=>obtain⟨e,_⟩:=x;exact Heap.lt_size e
 | tbl ps=>exact Heap.lt_size (show h.get? a=some _ from x)
 | met f y=>exact Heap.lt_size (show h.get? a=some _ from x)
 | ext φ=>obtain⟨_,⟨_,e⟩,_⟩:=x;exact Heap.lt_size e
theorem Paired.AeH{α β:Type}{F G:α→β→Prop}:∀{l₁:List α} {l₂:List β},Paired F l₁ l₂→(∀ a b,F a b→G a b)→Paired G l₁ l₂
 | _,_,.nil,_=>.nil
 | _,_,.cons r t,f=>.cons (f _ _ r) (Paired.AeH t f)
theorem Et.stay(x:Et P w H h a o)(k:∀ b u,(b=a∨H b=some (.own a))→h.get? b=some u→h'.get? b=some u)
  (ho:∀ b,H b=some (.own a)→H' b=some (.own a)) (ht:∀ b xs,H b=some (.tup xs)→H' b=some (.tup xs)):Et P w H' h' a o:=by
 induction o with
 | lst xs=>obtain⟨z,its,n,r,e⟩:=x;exact⟨z,its,n,r,k _ _ (.inl rfl) e⟩
 | tup xs=>obtain⟨z,its,r,ob,e,c⟩:=x;exact⟨z,its,r,ob,k _ _ (.inl rfl) e,c⟩
 | dK kvs=>obtain⟨z,y,vs,r,ob,es,ep,e,c⟩:=x;exact⟨z,y,vs,r,ob,es,ep,k _ _ (.inl rfl) e,c⟩
 | dT kvs =>
  obtain⟨z,y,xs,r,ob,es,ep,e,c⟩:=x
  exact⟨z,y,xs,Paired.AeH r fun p q z=>⟨z.1,ht _ _ z.2.1,z.2.2⟩,ob,es,ep,k _ _ (.inl rfl) e,c⟩
 | set S n=>obtain⟨ob,es,ep,t,e,c⟩:=x;exact⟨ob,es,ep,t,k _ _ (.inl rfl) e,c⟩
 | ins C dx fs =>
  obtain⟨d,z,ne,e,mA,⟨od,es,ep,e2,c⟩,r⟩:=x
  exact⟨ho _ d,z,ne,k _ _ (.inl rfl) e,mA,⟨od,es,ep,k _ _ (.inr d) e2,c⟩,r⟩
 | own y=>obtain⟨ob,e⟩:=x;exact⟨ob,k _ _ (.inl rfl) e⟩
 | xd fs=>obtain⟨mA,⟨od,es,ep,e,c⟩,r⟩:=x;exact⟨mA,⟨od,es,ep,k _ _ (.inl rfl) e,c⟩,r⟩
 | rng lo hi=>obtain⟨t,u,v,e⟩:=x;exact⟨t,u,v,k _ _ (.inl rfl) e⟩
 | frz ob u ih=>obtain⟨e,q⟩:=x;exact⟨k _ _ (.inl rfl) e,ih q⟩
 | tbl ps =>
  have e:h.get? a=some { cls:=.none,data:=.fields ps }:=x
  show h'.get? a=some { cls:=.none,data:=.fields ps }
  exact k a _ (.inl rfl) e
 | met f y =>
  have e:h.get? a=some (PySem.W.methodObj (.ref f) (.ref y)):=x
  show h'.get? a=some (PySem.W.methodObj (.ref f) (.ref y))
  exact k a _ (.inl rfl) e
 | ext φ=>obtain⟨p,⟨o,e⟩,st⟩:=x;exact⟨st _ _ p fun o q=>k _ _ (.inl rfl) q,⟨o,k _ _ (.inl rfl) e⟩,st⟩
theorem HOk.lt(x:HOk P w H h)(e:H a=some o):a<h.objs.size:=(x a o e).lt
theorem HOk.fresh(x:HOk P w H h)(e:h.objs.size≤a):H a=none:=by
 cases q:H a with
 | none=>rfl
 | some u=>exact absurd (Akc (x.lt q) e) (Akn _)
theorem HOk.kept(x:HOk P w H h)(k:∀ b u,h.get? b=some u→h'.get? b=some u):HOk P w H h':=fun a o e =>
 (x a o e).stay (fun b u _ q=>k b u q) (fun _ q=>q) fun _ _ q=>q
theorem HOk.laid(x:HOk P w H h)(k:∀ b u,h.get? b=some u→h'.get? b=some u)(hp:h.objs.size≤a)(new:Et P w (upd H a o) h' a o):HOk P w (upd H a o) h':=fun b u e=>by
 have hn:=x.fresh hp
 by_cases hb:b=a
 ·subst hb;rw[Af] at e;cases e;exact new
 ·rw[Aq hb] at e
  exact(x b u e).stay (fun c v _ q=>k c v q) (fun c q=>by rw[Aq (BP q hn)];exact q) fun c xs q=>by rw[Aq (BP q hn)];exact q
end
def Rd (H:Hp)(a:Addr)(u:HO):Prop:=H a=some u∨∃ o,H a=some (.frz o u)
theorem Rd.ok{P:Program}{w:World}{H:Hp}{h:Heap}{a:Addr}{u:HO}(r:Rd H a u)(x:HOk P w H h):Et P w H h a u:=by
 rcases r with r | ⟨o,r⟩
 ·exact x a u r
 ·obtain⟨_,q⟩:=x a _ r
  exact q
def Mut:Option HO→Prop
 | some (.lst _)=>True
 | some (.dK _)=>True
 | some (.dT _)=>True
 | some (.set _ _)=>True
 | some (.ins _ _ _)=>True
 | some (.ext _)=>True
 | _=>False
section
variable {P:Program}{w:World}{H:Hp}{h h':Heap}{x e:Addr}{o':HO}
theorem HOk.write(ok:HOk P w H h)(mu:Mut (H x))(he:e=x∨H e=some (.own x))(k:∀ b u,b≠e→h.get? b=some u→h'.get? b=some u)(heo:∃ u,h'.get? e=some u)
  (new:Et P w (upd H x o') h' x o'):HOk P w (upd H x o') h':=fun b u q=>by
 have Agi:∀ c y,H c=some (.own y)→c≠x:=fun c y r z=>by subst z;rw[r] at mu;exact mu
 have AhC:∀ c xs,H c=some (.tup xs)→c≠x:=fun c xs r z=>by subst z;rw[r] at mu;exact mu
 by_cases hb:b=x
 ·subst hb;rw[Af] at q;cases q;exact new
 ·rw[Aq hb] at q
  by_cases hbe:b=e
  ·have q':H b=some (.own x):=by
    rcases he with z | z
    ·exact absurd (hbe.trans z) hb
    ·rw[hbe];exact z
   rw[q] at q';cases q'
   obtain⟨v,hv⟩:=heo
   exact⟨v,by rw[hbe];exact hv⟩
  ·refine(ok b u q).stay (fun c v hc r=>k c v ?_ r) (fun c r=>by rw[Aq (Agi c b r)];exact r) fun c xs r=>by rw[Aq (AhC c xs r)];exact r
   rcases hc with rfl | hc
   ·exact hbe
   ·rintro rfl
    rcases he with z | z
    ·exact Agi c b hc z
    ·rw[hc] at z;cases z;exact hb rfl
end
structure Un (fs ex:List Addr) (H H':Hp) (h h':Heap):Prop where
 keep:∀ b o,h.get? b=some o→H b=none→b∉fs→b∉ex→h'.get? b=some o
 slot:∀ b o,h.get? b=some o→H b=none→b∈fs→b∉ex→∃ sl,h'.get? b=some { o with slots:=sl }
 free:∀ b o,h.get? b=some o→H b=none→b∉ex→H' b=none
 there:∀ b o,h.get? b=some o→b∉ex→∃ o',h'.get? b=some o'
 tups:∀ b xs,H b=some (.tup xs)→H' b=some (.tup xs)
 Ji:∀ b o u,H b=some (.frz o u)→H' b=some (.frz o u)
 JM:∀ b ps,H b=some (.tbl ps)→∃ more,H' b=some (.tbl (ps++more))
section
variable {fs fs' ex ex':List Addr}{H H1 H2:Hp}{h h1 h2 h':Heap}{a x e:Addr}{o:HO}
theorem Un.any(u:Un fs ex H H1 h h1){b:Addr}{ob:Obj}(q:h.get? b=some ob)(n:H b=none)(hx:b∉ex):∃ sl,h1.get? b=some { ob with slots:=sl }:=by
 by_cases hb:b∈fs
 ·exact u.slot b ob q n hb hx
 ·exact⟨ob.slots,u.keep b ob q n hb hx⟩
theorem Un.kept(k:∀ b u,h.get? b=some u→h'.get? b=some u):Un fs ex H H h h' :=
 ⟨fun b ob q _ _ _=>k b ob q,fun b ob q _ _ _=>⟨ob.slots,k b ob q⟩,fun _ _ _ n _=>n,fun b ob q _=>⟨ob,k b ob q⟩,fun _ _ q=>q,fun _ _ _ q=>q,fun _ ps q=>⟨#[],by rw[q];simp⟩⟩
theorem Un.refl:Un fs ex H H h h:=Un.kept fun _ _ q=>q
theorem Un.laid(k:∀ b u,h.get? b=some u→h'.get? b=some u)(hp:h.objs.size≤a)(hn:H a=none):Un fs ex H (upd H a o) h h' where
 keep:=fun b u q _ _ _=>k b u q
 slot:=fun b u q _ _ _=>⟨u.slots,k b u q⟩
 free:=fun b u q n _=>by rw[Aq (AjS (Akc (Heap.lt_size q) hp))];exact n
 there:=fun b u q _=>⟨u,k b u q⟩
 tups:=fun b xs q=>by rw[Aq (BP q hn)];exact q
 Ji:=fun b u xs q=>by rw[Aq (BP q hn)];exact q
 JM:=fun b ps q=>⟨#[],by rw[Aq (BP q hn),q];simp⟩
theorem Un.write(mu:Mut (H x))(he:e=x∨H e=some (.own x))(k:∀ b u,b≠e→h.get? b=some u→h'.get? b=some u)(heo:∃ u,h'.get? e=some u):Un fs ex H (upd H x o) h h':=by
 have hx:∀ b,H b=none→b≠x:=fun b n z=>by subst z;rw[n] at mu;exact mu
 have hb:∀ b,H b=none→b≠e:=fun b n z=>by
  subst z
  rcases he with r | r
  ·exact hx b n r
  ·rw[n] at r;cases r
 have hm:∀ b u,H b=some u→¬Mut (some u)→b≠x:=fun b u q nm z=>by subst z;rw[q] at mu;exact nm mu
 refine⟨fun b u q n _ _=>k b u (hb b n) q,fun b u q n _ _=>⟨u.slots,k b u (hb b n) q⟩,fun b u q n _=>by rw[Aq (hx b n)];exact n,fun b u q _=>?_,
  fun b xs q=>by rw[Aq (hm b _ q fun z=>z)];exact q,fun b u xs q=>by rw[Aq (hm b _ q fun z=>z)];exact q,fun b ps q=>⟨#[],by rw[Aq (hm b _ q fun z=>z),q];simp⟩⟩
 by_cases hbe:b=e
 ·subst hbe;exact heo
 ·exact⟨u,k b u hbe q⟩
end
def trk (h:Heap)(H:Hp):List Addr:=(List.range h.objs.size).filter fun a=>(H a).isSome
def Vj (h:Heap)(H:Hp):Heap:=PySem.W.hideAll h (trk h H)
theorem ZZ(h:Heap)(H:Hp):(Vj h H).objs.size=h.objs.size:=PySem.W.hideAll_size _ _
theorem AaS{h:Heap}{H:Hp}{b:Addr}{o:Obj}(e:h.get? b=some o)(n:H b=none):(Vj h H).get? b=some o :=
 PySem.W.hideAll_get _ e fun hm=>by
  have q:(H b).isSome=true:=(List.mem_filter.mp hm).2
  rw[n] at q;simp at q
theorem AcI{h:Heap}{H:Hp}{b:Addr}{o:Obj}(e:(Vj h H).get? b=some o):h.get? b=some o∧H b=none:=by
 have e':h.get? b=some o:=PySem.W.of_hideAll (trk h H) e
 refine⟨e',?_⟩
 cases q:H b with
 | none=>rfl
 | some x =>
  have hm:b∈trk h H:=List.mem_filter.mpr ⟨List.mem_range.mpr (Heap.lt_size e'),by simp[q]⟩
  have z:(Vj h H).get? b=none:=PySem.W.hideAll_none (trk h H) hm
  rw[z] at e;cases e
def AcJ (g h:Heap)(L:Addr):List (Addr × Obj):=(List.range h.objs.size).filterMap fun a=>if a=L∨(g.get? a).isSome=true then none else (h.get? a).map fun o=>(a,o)
def rest(g h:Heap)(L d:Addr):List (Addr × Obj):=(AcJ g h L).filter fun p=>decide (p.1≠d)
open PySem PySem.Spec PyProof.Rows
structure Mod (K:PySem.W.Frag) (mg:Str→Option Value) (base:Heap):Prop where
 kin:K.In base
 glob:base.Ns mainGlobals mg
 blt:∃ mb,base.Ns builtinsNs mb∧∀ x:Str,x ≠ "__name__" → mb x=bootBuiltins x
 nolimit:base.NoLimit
structure Cx where
 prog:Program
 w:World
 K:PySem.W.Frag
 mg:Str→Option Value
 base:Heap
 A:Around
 N:List Str
 s₀:Shared
 H₀:Hp
 env:Env
 outer:List Env
 stack:List Env
 ex:List Addr
 fn:Str→Bool
 calm:Bool
 pn:List (Addr × Obj)
 xe:Value→Shared→Prop
def frs (l:List Env):List Addr:=l.filterMap (·.frame)
abbrev Cx.fs (X:Cx):List Addr:=frs X.outer
def Vis (sc:Scope)(x:Str):Prop:=sc.names.lookup x=some .local∨sc.names.lookup x=some .cell∨sc.names.lookup x=some .free
def Loc (sc:Scope)(x:Str):Prop:=sc.names.lookup x=some .local∨sc.names.lookup x=some .cell
def Look(env:Env)(h:Heap)(m:Str→Option Value)(x:Str)(u:Value):Prop :=
 (env.kindOf x=some .local∧m x=some u)∨((env.kindOf x=some .cell∨env.kindOf x=some .free)∧∃ c,env.cells.lookup x=some c∧h.IsCell c (some u))
structure Cx.Ok (X:Cx):Prop where
 mod:Mod X.K X.mg X.base
 kind:X.env.scope.kind=.function
 glob:X.env.globals=mainGlobals
 blt:X.env.builtins=builtinsNs
 above:X.s₀.heap.objs.size≤X.env.locals
 inj:∀ x y c,X.env.cells.lookup x=some c→X.env.cells.lookup y=some c→x=y
 has:∀ x,(X.env.kindOf x=some .cell∨X.env.kindOf x=some .free)→∃ c,X.env.cells.lookup x=some c
 cab:∀ x c,X.fn x=true→X.env.cells.lookup x=some c→X.s₀.heap.objs.size≤c
 hd:X.calm=true→X.A.handled=none
 frames:X.A.frames=some X.stack
 stk:X.stack=X.outer∨(X.stack=X.env::X.outer∧X.env.frame=some X.env.locals)
 exf:∀ b∈X.ex,b≠X.env.locals∧∀ x c,X.env.cells.lookup x=some c→c≠b
 bs:∀ b o,X.base.get? b=some o→X.s₀.heap.get? b=some o∧X.H₀ b=none
 bsz:X.base.objs.size≤X.s₀.heap.objs.size
 Ua:∀ b o,X.base.get? b=some o→b∉X.ex
 Ub:∀ b∈X.ex,b∉X.fs
 Mu:X.s₀.heap.FunFrames X.base X.outer
 frf:∀ b∈X.fs,X.H₀ b=none
structure Inv (X:Cx) (pins:List (Addr × Obj)) (σ:List (Option V)) (H:Hp) (s:Shared):Prop where
 ok:X.Ok
 os:s.os=X.s₀.os
 bare:AllBare s.gens
 base:Un X.fs X.ex X.H₀ H X.s₀.heap s.heap
 loc:∃ m,s.heap.Ns X.env.locals m∧∀(i:Nat) (x:Str) (v:V),X.N[i]?=some x→σ[i]?=some (some v)→Vis X.env.scope x→∃ u,RelV v u∧Look X.env s.heap m x u
 cell:∀ x c,X.env.cells.lookup x=some c→∃ v,s.heap.IsCell c v
 free:H X.env.locals=none
 Ho:∀ x c,X.env.cells.lookup x=some c→H c=none
 pin:∀ p∈X.pn++pins,s.heap.get? p.1=some p.2∧H p.1=none∧p.1≠X.env.locals∧p.1∉X.fs∧∀ v,p.2.data≠.cell v
 hok:HOk X.prog X.w H s.heap
 len:σ.length=X.N.length
section
variable {X:Cx}{pins:List (Addr × Obj)}{σ:List (Option V)}{H H':Hp}{s:Shared}{h':Heap}
theorem Cx.Ok.AhD(ok:X.Ok){b:Addr}{o:Obj}(e:X.base.get? b=some o):b∉X.fs:=fun hb=>by
 have:=(ok.Mu.mem hb).1
 rw[e] at this;cases this
theorem Inv.bs(I:Inv X pins σ H s):∀ b o,X.base.get? b=some o→s.heap.get? b=some o∧H b=none:=fun b o e =>
 ⟨I.base.keep b o (I.ok.bs b o e).1 (I.ok.bs b o e).2 (I.ok.AhD e) (I.ok.Ua b o e),I.base.free b o (I.ok.bs b o e).1 (I.ok.bs b o e).2 (I.ok.Ua b o e)⟩
theorem Inv.bk(I:Inv X pins σ H s):∀ b o,X.base.get? b=some o→s.heap.get? b=some o:=fun b o e=>(I.bs b o e).1
theorem Inv.mod(I:Inv X pins σ H s):Mod X.K X.mg X.base:=I.ok.mod
theorem Inv.kIn(I:Inv X pins σ H s):X.K.In s.heap:=I.ok.mod.kin.keeps I.bk
theorem Inv.lt(I:Inv X pins σ H s):X.env.locals<s.heap.objs.size:=let ⟨_,hn,_⟩:=I.loc;hn.lt
theorem Inv.sz(I:Inv X pins σ H s):X.s₀.heap.objs.size≤s.heap.objs.size:=Akg I.ok.above (AkA I.lt)
theorem Inv.AhE(I:Inv X pins σ H s){a:Addr}(h:s.heap.objs.size≤a):a∉X.fs:=fun hb=>by
 obtain⟨_,o,ho,_⟩:=I.ok.Mu.mem hb
 exact absurd (Akc (Heap.lt_size ho) (Akg I.sz h)) (Akn _)
theorem Inv.cne(I:Inv X pins σ H s):∀ x c,X.env.cells.lookup x=some c→c≠X.env.locals:=fun x c e z=>by
 obtain⟨v,o,ho,hd⟩:=I.cell x c e
 obtain⟨m,⟨o',es,ep,ho',hd',_⟩,_⟩:=I.loc
 rw[z,ho'] at ho;cases ho;rw[hd'] at hd;cases hd
theorem Inv.Mu(I:Inv X pins σ H s):s.heap.FunFrames X.base X.outer:=by
 have all:∀(l:List Env),(∀ b∈frs l,b∈X.fs)→X.s₀.heap.FunFrames X.base l→s.heap.FunFrames X.base l:=by
  intro l
  induction l with
  | nil=>intro _ _;trivial
  | cons env r ih =>
   intro hs hl
   obtain⟨hk,⟨L,o,hf,hn,ho,hd⟩,hr⟩:=hl
   have hL:L∈X.fs:=hs L (by unfold frs;rw[AkG,hf];exact Ake)
   obtain⟨sl,e⟩:=I.base.slot L o ho (I.ok.frf L hL) hL fun z=>I.ok.Ub L z hL
   exact⟨hk,⟨L,_,hf,hn,e,hd⟩,ih (fun b hb=>hs b (by unfold frs;rw[AkG,hf];exact Akk _ hb)) hr⟩
 exact all X.outer (fun _ hb=>hb) I.ok.Mu
theorem Inv.stack(I:Inv X pins σ H s):s.heap.FunFrames X.base X.stack:=by
 rcases I.ok.stk with e | ⟨e,hf⟩
 ·rw[e];exact I.Mu
 ·rw[e]
  obtain⟨m,hn,_⟩:=I.loc
  refine .cons (by rw[I.ok.kind];decide) hf hn ?_ I.Mu
  exact Heap.get?_none_of_le (Akg I.ok.bsz I.ok.above)
theorem Inv.R5(I:Inv X pins σ H s):∀ b∈frs X.stack,b∈X.env.locals::X.fs:=fun b hb=>by
 rcases I.ok.stk with e | ⟨e,hf⟩
 ·rw[e] at hb;exact Akk _ hb
 ·rw[e] at hb
  unfold frs at hb
  rw[AkG,hf] at hb
  exact hb
theorem Inv.Rw(I:Inv X pins σ H s):∀ b∈frs X.stack,H b=none:=fun b hb=>by
 rcases List.mem_cons.mp (I.R5 b hb) with e | hb
 ·rw[e];exact I.free
 ·obtain⟨_,o,ho,_⟩:=I.ok.Mu.mem hb
  exact I.base.free b o ho (I.ok.frf b hb) fun z=>I.ok.Ub b z hb
theorem Inv.step{g':Array GenState}{t':Nat}{d':Drawn}{ch:List Addr}(I:Inv X pins σ H s)
  (hch:∀ b∈ch,(b∈X.ex∨X.s₀.heap.objs.size≤b)∧b≠X.env.locals∧(∀ x c,X.env.cells.lookup x=some c→c≠b)∧∀ p∈X.pn++pins,p.1≠b)
  (keep:∀ b o,b≠X.env.locals→b∉X.fs→b∉ch→s.heap.get? b=some o→H b=none→h'.get? b=some o)
  (slot:∀ b o,b≠X.env.locals→b∈X.fs→b∉ch→s.heap.get? b=some o→H b=none→∃ sl,h'.get? b=some { o with slots:=sl }) (free:∀ b o,b∉ch→s.heap.get? b=some o→H b=none→H' b=none)
  (there:∀ b o,b∉ch→s.heap.get? b=some o→∃ o',h'.get? b=some o')
  (tups:∀ b xs,H b=some (.tup xs)→H' b=some (.tup xs)) (Ji:∀ b o u,H b=some (.frz o u)→H' b=some (.frz o u)) (JM:∀ b ps,H b=some (.tbl ps)→∃ more,H' b=some (.tbl (ps++more)))
  (ns:∀ m,s.heap.Ns X.env.locals m→h'.Ns X.env.locals m) (hok:HOk X.prog X.w H' h') (hg:AllBare g') :
  Inv X pins σ H' { s with heap:=h',gens:=g',drawn:=d',toks:=t' }:=by
 have neL:∀ b o,X.s₀.heap.get? b=some o→b≠X.env.locals:=fun b o e=>AjS (Akc (Heap.lt_size e) I.ok.above)
 have neC:∀ b o,X.s₀.heap.get? b=some o→b∉X.ex→b∉ch:=fun b o e hx hb=>by
  rcases(hch b hb).1 with z | z
  ·exact hx z
  ·exact absurd (Akc (Heap.lt_size e) z) (Akn _)
 have cellK:∀ x c,X.env.cells.lookup x=some c→∀ v,s.heap.IsCell c v→h'.IsCell c v:=fun x c e v ⟨o,ho,hd⟩=>by
  have nch:c∉ch:=fun z=>(hch c z).2.2.1 x c e rfl
  by_cases hc:c∈X.fs
  ·obtain⟨sl,q⟩:=slot c o (I.cne x c e) hc nch ho (I.Ho x c e)
   exact⟨_,q,hd⟩
  ·exact⟨o,keep c o (I.cne x c e) hc nch ho (I.Ho x c e),hd⟩
 refine⟨I.ok,I.os,hg,⟨fun b o e n hb hx=>?_,fun b o e n hb hx=>?_,fun b o e n hx=>?_,fun b o e hx=>?_,fun b xs e=>tups b xs (I.base.tups b xs e),fun b o xs e=>Ji b o xs (I.base.Ji b o xs e),fun b ps e=>?_⟩,?_,fun x c e=>?_,?_,fun x c e=>?_,fun p hp=>?_,hok,I.len⟩
 ·exact keep b o (neL b o e) hb (neC b o e hx) (I.base.keep b o e n hb hx) (I.base.free b o e n hx)
 ·obtain⟨sl,e1⟩:=I.base.slot b o e n hb hx
  obtain⟨sl',e2⟩:=slot b _ (neL b o e) hb (neC b o e hx) e1 (I.base.free b o e n hx)
  exact⟨sl',e2⟩
 ·obtain⟨o',e1⟩:=I.base.there b o e hx
  exact free b o' (neC b o e hx) e1 (I.base.free b o e n hx)
 ·obtain⟨o',e1⟩:=I.base.there b o e hx
  exact there b o' (neC b o e hx) e1
 ·obtain⟨m1,e1⟩:=I.base.JM b ps e
  obtain⟨m2,e2⟩:=JM b _ e1
  exact⟨m1++m2,by rw[e2,Array.append_assoc]⟩
 ·obtain⟨m,hn,hl⟩:=I.loc
  refine⟨m,ns m hn,fun i x v e1 e2 e3=>?_⟩
  obtain⟨u,r,l⟩:=hl i x v e1 e2 e3
  refine⟨u,r,?_⟩
  rcases l with l | ⟨k,c,e,z⟩
  ·exact .inl l
  ·exact .inr ⟨k,c,e,cellK x c e _ z⟩
 ·obtain⟨v,z⟩:=I.cell x c e
  exact⟨v,cellK x c e v z⟩
 ·obtain⟨m,⟨o,_,_,ho,_⟩,_⟩:=I.loc
  exact free _ o (fun z=>(hch _ z).2.1 rfl) ho I.free
 ·obtain⟨v,o,ho,hd⟩:=I.cell x c e
  exact free c o (fun z=>(hch c z).2.2.1 x c e rfl) ho (I.Ho x c e)
 ·obtain⟨e,n,ne,nf,d⟩:=I.pin p hp
  have nch:p.1∉ch:=fun z=>(hch p.1 z).2.2.2 p hp rfl
  exact⟨keep p.1 p.2 ne nf nch e n,free p.1 p.2 nch e n,ne,nf,d⟩
theorem Inv.un{t':Nat}(I:Inv X pins σ H s)(u:Un X.fs [] H H' s.heap h')(hok:HOk X.prog X.w H' h'):Inv X pins σ H' { s with heap:=h',toks:=t' }:=by
 obtain⟨m,⟨o,es,ep,ho,r⟩,_⟩:=id I.loc
 obtain⟨sl,hL⟩:=u.any ho I.free (by simp)
 exact I.step (g':=s.gens) (d':=s.drawn) (ch:=[]) (fun _ z=>nomatch z) (fun b o _ hb _ e n=>u.keep b o e n hb (by simp)) (fun b o _ hb _ e n=>u.slot b o e n hb (by simp)) (fun b o _ e n=>u.free b o e n (by simp)) (fun b o _ e=>u.there b o e (by simp)) u.tups u.Ji u.JM (fun m' hm=>by
  obtain⟨o',es',ep',ho',r'⟩:=hm
  rw[ho] at ho';cases ho'
  exact⟨_,es',ep',hL,r'⟩) hok I.bare
theorem Inv.call{g':Array GenState}{t':Nat}{d':Drawn}{ch:List Addr}(I:Inv X pins σ H s)(u:Un (frs X.stack) ch H H' s.heap h')(hok:HOk X.prog X.w H' h')(hg:AllBare g')
  (hch:∀ b∈ch,(b∈X.ex∨X.s₀.heap.objs.size≤b)∧b≠X.env.locals∧(∀ x c,X.env.cells.lookup x=some c→c≠b)∧∀ p∈X.pn++pins,p.1≠b) :
  Inv X pins σ H' { s with heap:=h',gens:=g',drawn:=d',toks:=t' }:=by
 obtain⟨m,⟨o,es,ep,ho,r⟩,_⟩:=id I.loc
 obtain⟨sl,hL⟩:=u.any ho I.free fun z=>(hch _ z).2.1 rfl
 exact I.step (ch:=ch) hch (fun b o hL hb hc e n=>u.keep b o e n (fun z=>(List.mem_cons.mp (I.R5 b z)).elim hL hb) hc) (fun b o _ _ hc e n=>u.any e n hc) (fun b o hc e n=>u.free b o e n hc) (fun b o hc e=>u.there b o e hc) u.tups u.Ji u.JM (fun m' hm=>by
  obtain⟨o',es',ep',ho',r'⟩:=hm
  rw[ho] at ho';cases ho'
  exact⟨_,es',ep',hL,r'⟩) hok hg
theorem Inv.turned{t':Nat}{it:Addr}(I:Inv X pins σ H s)(k:∀ b o,b≠it→s.heap.get? b=some o→h'.get? b=some o)(hn:H it=none)(hL:it≠X.env.locals)
  (h1:it∈X.ex∨X.s₀.heap.objs.size≤it) (h2:∀ x c,X.env.cells.lookup x=some c→c≠it) (h3:∀ p∈X.pn++pins,p.1≠it):Inv X pins σ H { s with heap:=h',toks:=t' }:=by
 have nit:∀ b u,H b=some u→b≠it:=fun b u e z=>by rw[z,hn] at e;cases e
 refine I.step (g':=s.gens) (d':=s.drawn) (ch:=[it]) (fun b hb=>?_) (fun b o _ _ hc e _=>k b o (fun z=>hc (by simp[z])) e) (fun b o _ _ hc e _=>⟨o.slots,k b o (fun z=>hc (by simp[z])) e⟩) (fun _ _ _ _ n=>n)
  (fun b o hc e=>⟨o,k b o (fun z=>hc (by simp[z])) e⟩) (fun _ _ e=>e) (fun _ _ _ e=>e) (fun b ps e=>⟨#[],by rw[e];simp⟩) (fun m hm=>?_) (fun b u e=>?_) I.bare
 ·have e:b=it:=by simpa using hb
  subst e
  exact⟨h1,hL,h2,h3⟩
 ·obtain⟨o,es,ep,ho,r⟩:=hm
  exact⟨o,es,ep,k _ o (Ne.symm hL) ho,r⟩
 ·refine(I.hok b u e).stay (fun c v hc q=>k c v ?_ q) (fun _ q=>q) fun _ _ q=>q
  rcases hc with z | z
  ·rw[z];exact nit b u e
  ·exact nit c _ z
theorem Inv.tok(I:Inv X pins σ H s)(t:Nat):Inv X pins σ H { s with toks:=t }:=I.un (h':=s.heap) (t':=t) Un.refl I.hok
theorem Inv.kept{t':Nat}(I:Inv X pins σ H s)(k:∀ b u,s.heap.get? b=some u→h'.get? b=some u):Inv X pins σ H { s with heap:=h',toks:=t' }:=I.un (Un.kept k) (I.hok.kept k)
theorem Inv.laid{a:Addr}{o:HO}{t':Nat}(I:Inv X pins σ H s)(k:∀ b u,s.heap.get? b=some u→h'.get? b=some u)(hp:s.heap.objs.size≤a)(new:Et X.prog X.w (upd H a o) h' a o) :
  Inv X pins σ (upd H a o) { s with heap:=h',toks:=t' }:=I.un (Un.laid k hp (I.hok.fresh hp)) (I.hok.laid k hp new)
theorem Inv.write{x e:Addr}{o:HO}{t':Nat}(I:Inv X pins σ H s)(mu:Mut (H x))(he:e=x∨H e=some (.own x))(k:∀ b u,b≠e→s.heap.get? b=some u→h'.get? b=some u)(heo:∃ u,h'.get? e=some u)
  (new:Et X.prog X.w (upd H x o) h' x o):Inv X pins σ (upd H x o) { s with heap:=h',toks:=t' }:=I.un (Un.write mu he k heo) (I.hok.write mu he k heo new)
theorem Inv.Iw{Aeg:List (Addr × Obj)}(I:Inv X pins σ H s)(h:∀ p∈Aeg,s.heap.get? p.1=some p.2∧H p.1=none∧p.1≠X.env.locals∧p.1∉X.fs∧∀ v,p.2.data≠.cell v):Inv X Aeg σ H s :=
 ⟨I.ok,I.os,I.bare,I.base,I.loc,I.cell,I.free,I.Ho,fun p hp=>(List.mem_append.mp hp).elim (fun z=>I.pin p (AkB _ z)) (h p),I.hok,I.len⟩
theorem R6{N:List Str}(hN:N.Nodup){i j:Nat}{x:Str}(a:N[i]?=some x)(b:N[j]?=some x):i=j:=by
 obtain⟨h1,e1⟩:=List.getElem?_eq_some_iff.mp a
 obtain⟨h2,e2⟩:=List.getElem?_eq_some_iff.mp b
 exact(List.getElem_inj hN).mp (e1.trans e2.symm)
theorem Us{M:Model}{A:Around}{E:Value→Shared→Prop}{i:Nat}{x:Str}{v:V}{u:Value}{Q:Unit→Shared→Prop}(I:Inv X pins σ H s)(hN:X.N.Nodup)(hi:X.N[i]?=some x)(hx:Loc X.env.scope x)(r:RelV v u)
  (h:∀ s',Inv X pins (σ.set i (some v)) H s'→(∃ a,Heap.SameBut a s.heap s'.heap∧(a=X.env.locals∨X.env.cells.lookup x=some a))→Q () s') (hf:X.fn x=true∨X.env.scope.names.lookup x=some .local:=by first | exact .inl rfl | exact .inr rfl | assumption):wpAny M A (storeName X.env x u) Q E s:=by
 obtain⟨m,hn,hl⟩:=id I.loc
 have hcls:(X.env.scope.kind == .class || (X.env.scope.kind == .module && X.env.locals != X.env.globals))=false:=by rw[I.ok.kind];rfl
 have hiσ:i<σ.length:=by rw[I.len];exact(List.getElem?_eq_some_iff.mp hi).1
 have cne:=I.cne
 have tracked:∀{a:Addr} {h':Heap},(∃ o,s.heap.get? a=some o∧H a=none)→Heap.SameBut a s.heap h'→HOk X.prog X.w H h':=fun {a h'} ha hs b ob e=>by
  obtain⟨_,_,hfree⟩:=ha
  refine(I.hok b ob e).stay (fun c w' hc q=>(hs.2 c ?_).trans q) (fun _ q=>q) fun _ _ q=>q
  rintro rfl
  rcases hc with rfl | hc
  ·rw[hfree] at e;cases e
  ·rw[hfree] at hc;cases hc
 rcases hx with hk | hk
 ·refine wpAny_storeName_local hk hn (fun h' hn' hs=>?_) hcls
  obtain⟨oL,_,_,hoL,_⟩:=id hn
  refine h _ ⟨I.ok,I.os,I.bare,⟨fun b o e n hb hx=>?_,fun b o e n hb hx=>?_,I.base.free,fun b o e hx=>?_,I.base.tups,I.base.Ji,I.base.JM⟩,⟨_,hn',fun j y v' e1 e2 e3=>?_⟩,fun y c e=>?_,I.free,I.Ho,fun p hp=>?_,tracked ⟨oL,hoL,I.free⟩ hs,by simpa using I.len⟩ ⟨_,hs,.inl rfl⟩
  ·exact(hs.2 b (AjS (Akc (Heap.lt_size e) I.ok.above))).trans (I.base.keep b o e n hb hx)
  ·obtain⟨sl,e1⟩:=I.base.slot b o e n hb hx
   exact⟨sl,(hs.2 b (AjS (Akc (Heap.lt_size e) I.ok.above))).trans e1⟩
  ·obtain⟨o',e1⟩:=I.base.there b o e hx
   exact⟨o',(hs.2 b (AjS (Akc (Heap.lt_size e) I.ok.above))).trans e1⟩
  ·by_cases hj:j=i
   ·subst hj
    rw[hi] at e1;cases e1
    rw[Ald hiσ] at e2
    cases e2
    exact⟨u,r,.inl ⟨hk,by simp⟩⟩
   ·rw[AkP (Ne.symm hj)] at e2
    obtain⟨u',r',q⟩:=hl j y v' e1 e2 e3
    refine⟨u',r',?_⟩
    rcases q with ⟨k,e⟩ | ⟨k,c,e,z⟩
    ·refine .inl ⟨k,?_⟩
     have:y≠x:=fun e=>hj (R6 hN e1 (e▸hi))
     simp[this,e]
    ·exact .inr ⟨k,c,e,z.sameBut hs (cne y c e)⟩
  ·obtain⟨w',z⟩:=I.cell y c e
   exact⟨w',z.sameBut hs (cne y c e)⟩
  ·obtain⟨e,n,ne,nf,d⟩:=I.pin p hp
   exact⟨(hs.2 p.1 ne).trans e,n,ne,nf,d⟩
 ·have hfn:X.fn x=true:=by
   rcases hf with z | z
   ·exact z
   ·rw[z] at hk;cases hk
  obtain⟨c,hc⟩:=I.ok.has x (.inl hk)
  obtain⟨w',z⟩:=I.cell x c hc
  refine wpAny_storeName_cell I.ok.kind hk hc z (fun h' hc' hs=>?_)
  obtain⟨oc,hoc,AhF⟩:=id z
  refine h { s with heap:=h' } ⟨I.ok,I.os,I.bare,⟨fun b o e n hb hx=>?_,fun b o e n hb hx=>?_,I.base.free,fun b o e hx=>?_,I.base.tups,I.base.Ji,I.base.JM⟩,⟨m,hn.sameBut hs (Ne.symm (cne x c hc)),fun j y v' e1 e2 e3=>?_⟩,fun y c' e=>?_,I.free,I.Ho,fun p hp=>?_,tracked ⟨oc,hoc,I.Ho x c hc⟩ hs,by simpa using I.len⟩ ⟨c,hs,.inr hc⟩
  ·exact(hs.2 b (AjS (Akc (Heap.lt_size e) (I.ok.cab x c hfn hc)))).trans (I.base.keep b o e n hb hx)
  ·obtain⟨sl,e1⟩:=I.base.slot b o e n hb hx
   exact⟨sl,(hs.2 b (AjS (Akc (Heap.lt_size e) (I.ok.cab x c hfn hc)))).trans e1⟩
  ·obtain⟨o',e1⟩:=I.base.there b o e hx
   exact⟨o',(hs.2 b (AjS (Akc (Heap.lt_size e) (I.ok.cab x c hfn hc)))).trans e1⟩
  ·by_cases hj:j=i
   ·subst hj
    rw[hi] at e1;cases e1
    rw[Ald hiσ] at e2
    cases e2
    exact⟨u,r,.inr ⟨.inl hk,c,hc,hc'⟩⟩
   ·rw[AkP (Ne.symm hj)] at e2
    obtain⟨u',r',q⟩:=hl j y v' e1 e2 e3
    refine⟨u',r',?_⟩
    rcases q with q | ⟨k,c',e,z'⟩
    ·exact .inl q
    ·refine .inr ⟨k,c',e,z'.sameBut hs ?_⟩
     rintro rfl
     exact hj (R6 hN e1 (I.ok.inj _ _ _ e hc▸hi))
  ·by_cases hcc:c'=c
   ·subst hcc;exact⟨_,hc'⟩
   ·obtain⟨w2,z2⟩:=I.cell y c' e
    exact⟨w2,z2.sameBut hs hcc⟩
  ·obtain⟨e,n,ne,nf,d⟩:=I.pin p hp
   refine⟨(hs.2 p.1 ?_).trans e,n,ne,nf,d⟩
   intro q
   rw[q,hoc] at e
   have q':oc=p.2:=Option.some.inj e
   exact d w' (by rw[← q'];exact AhF)
theorem Ol{M:Model}{A:Around}{E:Value→Shared→Prop}{i:Nat}{x:Str}{v:V}{u:Value}{Q:Unit→Shared→Prop}(I:Inv X pins σ H s)(hN:X.N.Nodup)(hi:X.N[i]?=some x)(hx:Loc X.env.scope x)(r:RelV v u)
  (h:∀ s',Inv X pins (σ.set i (some v)) H s'→Q () s') (hf:X.fn x=true∨X.env.scope.names.lookup x=some .local:=by first | exact .inl rfl | exact .inr rfl | assumption):wpAny M A (storeName X.env x u) Q E s :=
 Us I hN hi hx r (fun s' I' _=>h s' I') hf
theorem Inv.call'{s':Shared}{ch:List Addr}(I:Inv X pins σ H s)(ho:s'.os=s.os)(u:Un (frs X.stack) ch H H' s.heap s'.heap)(hok:HOk X.prog X.w H' s'.heap)(hg:AllBare s'.gens)
  (hch:∀ b∈ch,(b∈X.ex∨X.s₀.heap.objs.size≤b)∧b≠X.env.locals∧(∀ x c,X.env.cells.lookup x=some c→c≠b)∧∀ p∈X.pn++pins,p.1≠b):Inv X pins σ H' s':=by
 obtain⟨h',g',d',t',o'⟩:=s'
 have e:o'=s.os:=ho
 subst e
 exact I.call (g':=g') (t':=t') (d':=d') u hok hg hch
end
abbrev XK:=Value→Option Addr→Hp→Prop
abbrev St:=List (Option V)
abbrev VK:=V→Hp→Prop
abbrev TE:=St→Hp→VK→Prop
abbrev TT:=St→Hp→(Bool→Hp→Prop)→Prop
abbrev TA:=St→Hp→(List V→Hp→Prop)→Prop
structure Ends where
 nx:St→Hp→Prop
 rt:VK
 bk:St→Hp→Prop:=fun _ _=>False
 ct:St→Hp→Prop:=fun _ _=>False
abbrev TS:=Ends→St→Hp→Prop
def EP (X:Cx)(pins:List (Addr × Obj))(σ:St)(Q:VK)(u:Value)(s':Shared):Prop:=∃ v H',Inv X pins σ H' s'∧RelV v u∧Q v H'
def TP (X:Cx)(pins:List (Addr × Obj))(σ:St)(Q:Bool→Hp→Prop)(b:Bool)(s':Shared):Prop:=∃ H',Inv X pins σ H' s'∧Q b H'
def AP (X:Cx)(pins:List (Addr × Obj))(σ:St)(Q:List V→Hp→Prop)(us:List Value)(s':Shared):Prop:=∃ vs H',Inv X pins σ H' s'∧Vals vs us∧Q vs H'
def SP (X:Cx)(pins:List (Addr × Obj))(D:Ends)(f:Flow)(s':Shared):Prop :=
 match f with
 | .next=>∃ σ' H',Inv X pins σ' H' s'∧D.nx σ' H'
 | .brk=>∃ σ' H',Inv X pins σ' H' s'∧D.bk σ' H'
 | .cont=>∃ σ' H',Inv X pins σ' H' s'∧D.ct σ' H'
 | .ret u=>∃ v σ' H',Inv X pins σ' H' s'∧RelV v u∧D.rt v H'
def PE (X:Cx)(e:Expr)(t:TE):Prop :=
 ∀(pins:List (Addr × Obj)) (s:Shared) (σ:St) (H:Hp) (Q:VK),Inv X pins σ H s→t σ H Q→wpAny (model X.prog X.w) X.A (eval e X.env) (EP X pins σ Q) X.xe s
def PT (X:Cx)(e:Expr)(t:TT):Prop :=
 ∀(pins:List (Addr × Obj)) (s:Shared) (σ:St) (H:Hp) (Q:Bool→Hp→Prop),Inv X pins σ H s→t σ H Q→wpAny (model X.prog X.w) X.A (isTrue e X.env (eval e X.env)) (TP X pins σ Q) X.xe s
def PW (X:Cx)(e:Expr)(t:TT):Prop :=
 ∀(whole:Sem Value) (pins:List (Addr × Obj)) (s:Shared) (σ:St) (H:Hp) (Q:Bool→Hp→Prop),Inv X pins σ H s→t σ H Q→wpAny (model X.prog X.w) X.A (isTrue e X.env whole) (TP X pins σ Q) X.xe s
theorem PW.pt{X:Cx}{e:Expr}{t:TT}(h:PW X e t):PT X e t:=h _
def PA (X:Cx)(es:List Expr)(t:TA):Prop :=
 ∀(pos:Pos) (pins:List (Addr × Obj)) (s:Shared) (σ:St) (H:Hp) (Q:List V→Hp→Prop),Inv X pins σ H s→t σ H Q→wpAny (model X.prog X.w) X.A (spliced (backTo pos (starEach es X.env))) (AP X pins σ Q) X.xe s
def PS (X:Cx)(st:Stmt)(t:TS):Prop :=
 ∀(pins:List (Addr × Obj)) (s:Shared) (σ:St) (H:Hp) (D:Ends),Inv X pins σ H s→t D σ H→wpAny (model X.prog X.w) X.A (exec st X.env) (SP X pins D) X.xe s
def PSs (X:Cx)(st:List Stmt)(t:TS):Prop :=
 ∀(pins:List (Addr × Obj)) (s:Shared) (σ:St) (H:Hp) (D:Ends),Inv X pins σ H s→t D σ H→wpAny (model X.prog X.w) X.A (execs st X.env) (SP X pins D) X.xe s
theorem thn{α:Type}{t:Sem α}{Q Q':α→Shared→Prop}{M:Model}{A:Around}{E:Value→Shared→Prop}{s:Shared}(h:wpAny M A t Q E s)(hQ:∀ a s,Q a s→Q' a s):wpAny M A t Q' E s:=wpAny_mono h hQ fun _ _ x=>x
open PySem PySem.Spec PyProof.Rows
section
variable {X:Cx}
def Agj (i:Nat):TE:=fun σ H Q=>∃ v,σ[i]?=some (some v)∧Q v H
def tC (v:V):TE:=fun _ H Q=>Q v H
theorem AeI{i:Nat}{x:Str}{pos:Pos}(hN:X.N[i]?=some x)(hv:Vis X.env.scope x)(hd:(x == ("__debug__" : Str))=false:=by decide) (hcd:(x == ("__classdict__" : Str))=false:=by decide):PE X (.Name x pos) (Agj i):=by
 intro pins s σ H Q I h
 obtain⟨v,e,h⟩:=h
 obtain⟨m,hn,hl⟩:=I.loc
 obtain⟨u,r,l⟩:=hl i x v hN e hv
 have fin:EP X pins σ Q u s:=⟨v,H,I,r,h⟩
 rcases l with ⟨hk,hm⟩ | ⟨hk,c,hc,hcell⟩
 ·exact wpAny_Name (wpAny_loadName_local I.ok.kind hk hn hm fin) hd
 ·rcases hk with hk | hk
  ·exact wpAny_Name (wpAny_loadName_cell I.ok.kind hk hc hcell fin) hd
  ·exact wpAny_Name (wpAny_loadName_free I.ok.kind hk hc hcell fin hcd) hd
theorem Ae{i j pos}:PE X (.Constant (.int i) j pos) (tC (.int i)):=fun _ _ _ H _ I h=>wpAny_Constant_int ⟨.int i,H,I.tok _,⟨_,rfl⟩,h⟩
theorem Zg{b j pos}:PE X (.Constant (.bool b) j pos) (tC (.bl b)):=fun _ _ _ H _ I h=>Constant_bool ⟨.bl b,H,I,rfl,h⟩
theorem Fd{j pos}:PE X (.Constant .none j pos) (tC .non):=fun _ _ _ H _ I h=>Constant_none ⟨.non,H,I,rfl,h⟩
theorem Az{x j pos}:PE X (.Constant (.str x) j pos) (tC (.str x)):=fun _ _ _ H _ I h=>Calls.Constant_str ⟨.str x,H,I.tok _,⟨_,rfl⟩,h⟩
def Gl (X:Cx)(x:Str):Prop:=X.env.kindOf x=some .globalImplicit
theorem Lz{E:Value→Shared→Prop}{pins:List (Addr × Obj)}{s:Shared}{σ:St}{H:Hp}{x:Str}{u:Value}{pos:Pos}{Q:Value→Shared→Prop}(I:Inv X pins σ H s)(hg:Gl X x)(hm:X.mg x=some u)(h:Q u s)
  (hd:(x == ("__debug__" : Str))=false:=by decide):wpAny (model X.prog X.w) X.A (eval (.Name x pos) X.env) Q E s :=
 Calls.Name_function_global I.ok.kind hg (Calls.loadGlobal_global (by rw[I.ok.glob];exact I.mod.glob.keeps I.bk) hm h) hd
theorem HX{E:Value→Shared→Prop}{pins:List (Addr × Obj)}{s:Shared}{σ:St}{H:Hp}{x:Str}{u:Value}{pos:Pos}{Q:Value→Shared→Prop}(I:Inv X pins σ H s)(hg:Gl X x)(hm:X.mg x=none)(hv:bootBuiltins x=some u)(h:Q u s)
  (hn:x ≠ "__name__" := by decide) (hd:(x == ("__debug__" : Str))=false:=by decide):wpAny (model X.prog X.w) X.A (eval (.Name x pos) X.env) Q E s:=by
 obtain⟨mb,h1,h2⟩:=I.mod.blt
 exact Calls.Name_function_global I.ok.kind hg (Calls.loadGlobal_builtin (by rw[I.ok.glob];exact I.mod.glob.keeps I.bk) hm (by rw[I.ok.blt];exact h1.keeps I.bk) ((h2 x hn).trans hv) h) hd
theorem Ao{x:Str}{v:V}{u:Value}{pos:Pos}(hg:Gl X x)(hm:X.mg x=some u)(r:RelV v u)(hd:(x == ("__debug__" : Str))=false:=by decide):PE X (.Name x pos) (tC v) :=
 fun _ _ _ H _ I h=>Lz I hg hm ⟨v,H,I,r,h⟩ hd
theorem Vk{x:Str}{v:V}{u:Value}{pos:Pos}(hg:Gl X x)(hm:X.mg x=none)(hv:bootBuiltins x=some u)(r:RelV v u)(hn:x ≠ "__name__" := by decide) (hd:(x == ("__debug__" : Str))=false:=by decide):PE X (.Name x pos) (tC v) :=
 fun _ _ _ H _ I h=>HX I hg hm hv ⟨v,H,I,r,h⟩ hn hd
def t2I (ta tb:TE)(k:Int→Int→Hp→Prop):St→Hp→Prop:=fun σ H=>ta σ H fun x H1=>tb σ H1 fun y H2=>∃ i j,x=.int i∧y=.int j∧k i j H2
def Ajj (ta tb:TE):TE:=fun σ H Q=>t2I ta tb (fun i j H2=>Q (.int (i+j)) H2) σ H
def Ajk (ta tb:TE):TE:=fun σ H Q=>t2I ta tb (fun i j H2=>Q (.int (i-j)) H2) σ H
def Ajl (ta tb:TE):TE:=fun σ H Q=>t2I ta tb (fun i j H2=>(-(2 ^ 64)<i∧i<2 ^ 64)∧Q (.int (i*j)) H2) σ H
variable {a b:Expr}{ta tb:TE}{pos:Pos}
def PC (X:Cx)(op:CmpOp)(a b:Expr)(t:TE):Prop :=
 ∀(pins:List (Addr × Obj)) (s:Shared) (σ:St) (H:Hp) (Q:VK),Inv X pins σ H s→t σ H Q →
  wpAny (model X.prog X.w) X.A (eval a X.env) (fun v s₁=>wpAny (model X.prog X.w) X.A (eval b X.env) (fun u s₂=>wpAny (model X.prog X.w) X.A (compareOp op v u) (EP X pins σ Q) X.xe s₂) X.xe s₁) X.xe s
theorem AaT(b:Expr){op:CmpOp}(h:op≠.In)(h2:op≠.NotIn):behindInMarks op b=false:=by
 have e1:(op == CmpOp.In)=false:=by cases op <;> first | rfl | exact absurd rfl h
 have e2:(op == CmpOp.NotIn)=false:=by cases op <;> first | rfl | exact absurd rfl h2
 cases b <;> simp[behindInMarks,e1,e2]
def Aaa (p:Int→Int→Bool)(ta tb:TE):TE:=fun σ H Q=>t2I ta tb (fun i j H2=>Q (.bl (p i j)) H2) σ H
abbrev tLt:TE→TE→TE:=Aaa fun i j=>decide (i<j)
abbrev tLe:TE→TE→TE:=Aaa fun i j=>decide (i≤j)
abbrev tGt:TE→TE→TE:=Aaa fun i j=>decide (j<i)
abbrev tGe:TE→TE→TE:=Aaa fun i j=>decide (j≤i)
abbrev Ajm:TE→TE→TE:=Aaa fun i j=>decide (i=j)
abbrev Ajn:TE→TE→TE:=Aaa fun i j=>!decide (i=j)
def Ajo (ta:TE):TE:=fun σ H Q=>ta σ H fun x H1=>Q (.bl (decide (x=.non))) H1
def AiN (ta:TE):TE:=fun σ H Q=>ta σ H fun x H1=>Q (.bl (!decide (x=.non))) H1
def tB (t:TE):TT:=fun σ H Q=>t σ H fun x H1=>∃ c,x=.bl c∧Q c H1
theorem Qf{op:CmpOp}{t:TE}(h:PC X op a b t)(h1:behindInMarks op b=false:=by first | exact AaT _ (by decide) (by decide) | rfl):PT X (.Compare a [op] [b] pos) (tB t):=by
 intro pins s σ H Q I hw
 refine wpAny_isTrue_Compare1 (thn (h pins s σ H _ I hw) fun v s1 h1=>thn h1 fun u s2 h2=>thn h2 fun c s3 ⟨x,H1,I1,r1,q1⟩=>?_) h1
 obtain⟨d,rfl,q⟩:=q1
 cases r1
 exact wpAny_truthy_bool ⟨H1,I1,q⟩
theorem DX{e:Expr}{t:TE}(h:PE X e t)(he:∀ whole,isTrue e X.env whole=(do let v ← whole;standAt e.pos;holding [v] (truthy v)):=by intro _;rfl):PT X e (tB t):=by
 intro pins s σ H Q I hw
 refine isTrue_plain (thn (h pins s σ H _ I hw) fun v s1 ⟨x,H1,I1,r1,q1⟩=>?_) (he _)
 obtain⟨d,rfl,q⟩:=q1
 cases r1
 exact wpAny_truthy_bool ⟨H1,I1,q⟩
variable {tA tB':TT}{rest:List Expr}
def AhG (t u:TT):TT:=fun σ H Q=>t σ H fun c H1=>if c=true then u σ H1 Q else Q false H1
def tOr (t u:TT):TT:=fun σ H Q=>t σ H fun c H1=>if c=true then Q true H1 else u σ H1 Q
def AhH (t:TT):TT:=fun σ H Q=>t σ H fun c H1=>Q (!c) H1
theorem pw_and1(ha:PT X a tA):PW X (.BoolOp .And [a] pos) tA:=by
 intro wh pins s σ H Q I h
 refine isTrue_and (thn (ha pins s σ H Q I h) fun c s1 e=>?_)
 cases c with
 | true=>exact isTrue_and_nil e
 | false=>exact e
theorem pw_or1(ha:PT X a tA):PW X (.BoolOp .Or [a] pos) tA:=by
 intro wh pins s σ H Q I h
 refine isTrue_or (thn (ha pins s σ H Q I h) fun c s1 e=>?_)
 cases c with
 | false=>exact isTrue_or_nil e
 | true=>exact e
theorem pw_and(ha:PT X a tA)(hb:PW X (.BoolOp .And (b::rest) pos) tB'):PW X (.BoolOp .And (a::b::rest) pos) (AhG tA tB'):=by
 intro wh pins s σ H Q I h
 refine isTrue_and (thn (ha pins s σ H _ I h) fun c s1 ⟨H1,I1,q1⟩=>?_)
 cases c with
 | true=>exact hb wh pins s1 σ H1 Q I1 q1
 | false=>exact⟨H1,I1,q1⟩
theorem pw_or(ha:PT X a tA)(hb:PW X (.BoolOp .Or (b::rest) pos) tB'):PW X (.BoolOp .Or (a::b::rest) pos) (tOr tA tB'):=by
 intro wh pins s σ H Q I h
 refine isTrue_or (thn (ha pins s σ H _ I h) fun c s1 ⟨H1,I1,q1⟩=>?_)
 cases c with
 | true=>exact⟨H1,I1,q1⟩
 | false=>exact hb wh pins s1 σ H1 Q I1 q1
theorem JN(ha:PT X a tA):PT X (.UnaryOp .Not a pos) (AhH tA):=by
 intro pins s σ H Q I h
 exact isTrue_not (ha pins s σ H (fun c H1=>Q (!c) H1) I h)
def AiO (ta tb:TE):TE:=fun σ H Q=>ta σ H fun x H1=>∃ c,x=.bl c∧if c=true then tb σ H1 Q else Q (.bl false) H1
def AhI (ta tb:TE):TE:=fun σ H Q=>ta σ H fun x H1=>∃ c,x=.bl c∧if c=true then Q (.bl true) H1 else tb σ H1 Q
def AiP (ta:TE):TE:=fun σ H Q=>ta σ H fun x H1=>∃ c,x=.bl c∧Q (.bl (!c)) H1
theorem AeJ{op}{t:TE}(h:PE X a t):PE X (.BoolOp op [a] pos) t:=fun pins s σ H Q I hw=>BoolOp_one (h pins s σ H Q I hw)
theorem Agk(ha:PE X a ta)(hb:PE X (.BoolOp .Or (b::rest) pos) tb):PE X (.BoolOp .Or (a::b::rest) pos) (AhI ta tb):=by
 intro pins s σ H Q I h
 refine BoolOp_or (thn (ha pins s σ H _ I h) fun v s1 ⟨x,H1,I1,r1,q1⟩=>?_)
 obtain⟨c,rfl,q1⟩:=q1
 cases r1
 refine wpAny_truthy_bool ?_
 cases c with
 | false=>exact hb pins s1 σ H1 Q I1 q1
 | true=>exact⟨.bl true,H1,I1,rfl,q1⟩
def tIf (t:TT)(ta tb:TE):TE:=fun σ H Q=>t σ H fun c H1=>if c=true then ta σ H1 Q else tb σ H1 Q
theorem Om{c:Expr}(hc:PT X c tA)(ha:PE X a ta)(hb:PE X b tb):PE X (.IfExp c a b pos) (tIf tA ta tb):=by
 intro pins s σ H Q I h
 refine wpAny_IfExp (thn (hc pins s σ H _ I h) fun d s1 ⟨H1,I1,q1⟩=>?_)
 cases d with
 | true=>exact ha pins s1 σ H1 Q I1 q1
 | false=>exact hb pins s1 σ H1 Q I1 q1
end
open PySem PySem.Spec PyProof.Rows
def SqL (K:PySem.W.Frag)(H:Hp)(a:Addr)(xs:List V):Prop :=
 Rd H a (.lst xs) ∨
  ∃(o:Obj) (its:Array Value) (n:Nat),K.lookup a=some o∧o.cls=.type "list" ∧ o.dict=none∧o.data=.seq its n∧its.size≤sizeLine∧Vals xs its.toList
def SqT (K:PySem.W.Frag)(H:Hp)(a:Addr)(xs:List V):Prop :=
 Rd H a (.tup xs) ∨
  ∃(o:Obj) (its:Array Value) (n:Nat),K.lookup a=some o∧o.cls=.type "tuple" ∧ o.data=.seq its n∧its.size≤sizeLine∧Vals xs its.toList
def AhJ:Value→Option V
 | .none=>some .non
 | .bool b=>some (.bl b)
 | .int i _=>some (.int i)
 | .str x _=>some (.str x)
 | .bytes b _=>some (.byt b)
 | .float b _=>some (.flt b)
 | .ref a=>some (.ref a)
 | .type n=>some (.ty n)
 | _=>none
theorem RelV.abs{x:V}{u:Value}(r:RelV x u):AhJ u=some x:=by
 cases x with
 | non=>cases r;rfl
 | bl _=>cases r;rfl
 | int _=>obtain⟨t,rfl⟩:=r;rfl
 | str _=>obtain⟨t,rfl⟩:=r;rfl
 | byt _=>obtain⟨t,rfl⟩:=r;rfl
 | flt _=>obtain⟨t,rfl⟩:=r;rfl
 | ref _=>cases r;rfl
 | ty _=>cases r;rfl
theorem RelV.inj{x y:V}{u:Value}(r:RelV x u)(q:RelV y u):x=y:=Option.some.inj (r.abs.symm.trans q.abs)
theorem Vals.inj:∀{xs ys:List V} {us:List Value},Vals xs us→Vals ys us→xs=ys
 | _,_,_,.nil,.nil=>rfl
 | _,_,_,.cons r t,.cons r' t'=>by rw[r.inj r',Vals.inj t t']
section
variable {X:Cx}{pins:List (Addr × Obj)}{σ:St}{H:Hp}{s:Shared}{a:Addr}{xs ys:List V}
theorem SqL.of{K:PySem.W.Frag}(h:H a=some (.lst xs)):SqL K H a xs:=.inl (.inl h)
theorem SqT.of{K:PySem.W.Frag}(h:H a=some (.tup xs)):SqT K H a xs:=.inl (.inl h)
theorem Inv.list(I:Inv X pins σ H s)(h:SqL X.K H a xs):∃ its:List Value,Vals xs its∧PlainL s.heap a its.toArray∧xs.length≤sizeLine:=by
 rcases h with h | ⟨o,its,n,hk,hc,hd,hs,hz,r⟩
 ·obtain⟨z,its,n,r,e⟩:=h.ok I.hok
  exact⟨its,r,⟨_,n,e,rfl,rfl,rfl⟩,z⟩
 ·refine⟨its.toList,r,⟨o,n,I.kIn a o hk,hc,hd,by simpa using hs⟩,?_⟩
  have e:=r.length
  simp only [Array.length_toList] at e
  omega
theorem Inv.tuple(I:Inv X pins σ H s)(h:SqT X.K H a xs):∃ its:List Value,Vals xs its∧IsTup s.heap a its.toArray∧xs.length≤sizeLine:=by
 rcases h with h | ⟨o,its,n,hk,hc,hs,hz,r⟩
 ·obtain⟨z,its,r,p⟩:=h.ok I.hok
  exact⟨its,r,p,z⟩
 ·refine⟨its.toList,r,⟨o,I.kIn a o hk,hc,n,by simpa using hs⟩,?_⟩
  have e:=r.length
  simp only [Array.length_toList] at e
  omega
theorem Inv.Oo(I:Inv X pins σ H s)(h:SqL X.K H a xs)(h':SqL X.K H a ys):xs=ys:=by
 obtain⟨its,r,⟨o,n,e,_,_,d⟩,_⟩:=I.list h
 obtain⟨its',r',⟨o',n',e',_,_,d'⟩,_⟩:=I.list h'
 rw[e] at e';cases e'
 rw[d] at d'
 injection d' with d1 _
 have:its=its':=by simpa using congrArg Array.toList d1
 subst this
 exact r.inj r'
end
abbrev Cx.wish (X:Cx) (E:Value→Shared→Prop):Cx:={ X with xe:=E }
abbrev Cx.nox (X:Cx):Cx:=X.wish fun _ _=>False
theorem Cx.Ok.wish{X:Cx}(ok:X.Ok)(E:Value→Shared→Prop):(X.wish E).Ok :=
 ⟨ok.mod,ok.kind,ok.glob,ok.blt,ok.above,ok.inj,ok.has,ok.cab,ok.hd,ok.frames,ok.stk,ok.exf,ok.bs,ok.bsz,ok.Ua,ok.Ub,ok.Mu,ok.frf⟩
theorem Cx.Ok.Gy{X:Cx}{E:Value→Shared→Prop}(ok:(X.wish E).Ok):X.Ok :=
 ⟨ok.mod,ok.kind,ok.glob,ok.blt,ok.above,ok.inj,ok.has,ok.cab,ok.hd,ok.frames,ok.stk,ok.exf,ok.bs,ok.bsz,ok.Ua,ok.Ub,ok.Mu,ok.frf⟩
section
variable {X:Cx}{pins:List (Addr × Obj)}{σ:St}{H:Hp}{s:Shared}{E:Value→Shared→Prop}
theorem Inv.wish(I:Inv X pins σ H s)(E:Value→Shared→Prop):Inv (X.wish E) pins σ H s:=⟨I.ok.wish E,I.os,I.bare,I.base,I.loc,I.cell,I.free,I.Ho,I.pin,I.hok,I.len⟩
theorem Inv.Gy(I:Inv (X.wish E) pins σ H s):Inv X pins σ H s:=⟨I.ok.Gy,I.os,I.bare,I.base,I.loc,I.cell,I.free,I.Ho,I.pin,I.hok,I.len⟩
theorem SP.Gy{D:Ends}{f:Flow}{s':Shared}(h:SP (X.wish E) pins D f s'):SP X pins D f s':=by
 cases f with
 | next=>obtain⟨σ',H',I,q⟩:=h;exact⟨σ',H',I.Gy,q⟩
 | brk=>obtain⟨σ',H',I,q⟩:=h;exact⟨σ',H',I.Gy,q⟩
 | cont=>obtain⟨σ',H',I,q⟩:=h;exact⟨σ',H',I.Gy,q⟩
 | ret u=>obtain⟨v,σ',H',I,r,q⟩:=h;exact⟨v,σ',H',I.Gy,r,q⟩
theorem PSs.nox{st:List Stmt}{t:TS}(h:PSs X.nox st t):PSs X st t:=fun pins s σ H D I hw =>
 wpAny_mono (h pins s σ H D (I.wish _) hw) (fun _ _ q=>q.Gy) fun _ _ z=>False.elim z
end
section
variable {X:Cx}{st:Stmt}{rest:List Stmt}{t u:TS}{e:Expr}{te:TE}{pos:Pos}
def Aeh:TS:=fun D σ H=>D.nx σ H
def Agl (t u:TS):TS:=fun D σ H=>t { D with nx:=u D } σ H
theorem Am:PSs X [] Aeh:=fun _ _ σ H _ I h=>wpAny_execs_nil ⟨σ,H,I,h⟩
theorem Ab(h1:PS X st t)(h2:PSs X rest u):PSs X (st::rest) (Agl t u):=by
 intro pins s σ H D I h
 refine wpAny_execs_cons (thn (h1 pins s σ H { D with nx:=u D } I h) fun f s1 q=>?_)
 cases f with
 | next =>
  obtain⟨σ',H',I',q⟩:=q
  exact h2 pins s1 σ' H' D I' q
 | ret v=>exact q
 | brk=>exact q
 | cont=>exact q
theorem Ad(h1:PS X st t):PSs X [st] t:=by
 intro pins s σ H D I h
 refine wpAny_execs_cons (thn (h1 pins s σ H D I h) fun f s1 q=>?_)
 cases f with
 | next=>exact wpAny_execs_nil q
 | ret v=>exact q
 | brk=>exact q
 | cont=>exact q
def AhK:TS:=fun D σ H=>D.bk σ H
def Agm:TS:=fun D σ H=>D.ct σ H
theorem W3:PS X (.Continue pos) Agm:=fun _ _ σ H _ I h=>wpAny_Continue ⟨σ,H,I,h⟩
theorem Inv.quiet{pins:List (Addr × Obj)}{σ:St}{H:Hp}{s:Shared}(I:Inv X pins σ H s):interactive X.env=false:=by simp[interactive,I.ok.kind]
def Aei (te:TE):TS:=fun D σ H=>te σ H fun _ H1=>D.nx σ H1
theorem Bp(he:PE X e te)(hs:swapsWith e none pos.line X.env=pure false:=by rfl):PS X (.Expr e pos) (Aei te):=by
 intro pins s σ H D I h
 exact wpAny_Expr_any (thn (he pins s σ H _ I h) fun v s1 ⟨x,H1,I1,r1,q1⟩=>⟨σ,H1,I1,q1⟩) I.quiet hs
def AhL (te:TE):TS:=fun D σ H=>te σ H D.rt
theorem Ba(he:PE X e te):PS X (.Return (some e) pos) (AhL te):=by
 intro pins s σ H D I h
 exact wpAny_Return_some (thn (he pins s σ H _ I h) fun v s1 ⟨x,H1,I1,r1,q1⟩=>⟨x,σ,H1,I1,r1,q1⟩)
def AiQ:TS:=fun D _ H=>D.rt .non H
def Agn (c:TT)(t u:TS):TS:=fun D σ H=>c σ H fun b H1=>if b=true then t D σ H1 else u D σ H1
theorem Bh{c:Expr}{a b:List Stmt}{tc:TT}(hc:PT X c tc)(ha:PSs X a t)(hb:PSs X b u):PS X (.If c a b pos) (Agn tc t u):=by
 intro pins s σ H D I h
 refine wpAny_If (thn (hc pins s σ H _ I h) fun d s1 ⟨H1,I1,q1⟩=>?_)
 cases d with
 | true=>exact ha pins s1 σ H1 D I1 q1
 | false=>exact hb pins s1 σ H1 D I1 q1
def AaU:TS:=fun _ _ _=>False
theorem CK:PS X st AaU:=fun _ _ _ _ _ _ h=>h.elim
theorem LC{sts:List Stmt}:PSs X sts AaU:=fun _ _ _ _ _ _ h=>h.elim
end
abbrev TG:=V→St→Hp→(St→Hp→Prop)→Prop
abbrev TGs:=List V→St→Hp→(St→Hp→Prop)→Prop
def PG (X:Cx)(target:Expr)(t:TG):Prop :=
 ∀(pins:List (Addr × Obj)) (s:Shared) (σ:St) (H:Hp) (v:V) (u:Value) (Q:St→Hp→Prop),Inv X pins σ H s→RelV v u→t v σ H Q →
  wpAny (model X.prog X.w) X.A (assign target X.env u) (fun _ s'=>∃ σ' H',Inv X pins σ' H' s'∧Q σ' H') X.xe s
def PGs (X:Cx)(ts:List Expr)(t:TGs):Prop :=
 ∀(pins:List (Addr × Obj)) (s:Shared) (σ:St) (H:Hp) (vs:List V) (us:List Value) (Q:St→Hp→Prop),Inv X pins σ H s→Vals vs us→t vs σ H Q →
  wpAny (model X.prog X.w) X.A (assignInOrder ((assignEach ts X.env).map (·.2)) us) (fun _ s'=>∃ σ' H',Inv X pins σ' H' s'∧Q σ' H') X.xe s
abbrev AcK:=V→V→V→Hp→(Hp→Prop)→Prop
def Ago (X:Cx)(t:AcK):Prop :=
 ∀(pins:List (Addr × Obj)) (s:Shared) (σ:St) (H:Hp) (o i v:V) (ov iv u:Value) (Q:Hp→Prop),Inv X pins σ H s→RelV o ov→RelV i iv→RelV v u→t o i v H Q →
  wpAny (model X.prog X.w) X.A (setItem ov iv u) (fun _ s'=>∃ H',Inv X pins σ H' s'∧Q H') X.xe s
abbrev TIp:=V→V→Hp→VK→Prop
def PIp (X:Cx)(op:Operator)(t:TIp):Prop :=
 ∀(pins:List (Addr × Obj)) (s:Shared) (σ:St) (H:Hp) (x y:V) (v u:Value) (Q:VK),Inv X pins σ H s→RelV x v→RelV y u→t x y H Q →
  wpAny (model X.prog X.w) X.A (inplaceOp op v u) (EP X pins σ Q) X.xe s
section
variable {X:Cx}{pos:Pos}
def KD (i:Nat):TG:=fun v σ H Q=>Q (σ.set i (some v)) H
theorem Bu{i:Nat}{x:Str}(hN:X.N.Nodup)(hi:X.N[i]?=some x)(hx:Loc X.env.scope x)(hf:X.fn x=true∨X.env.scope.names.lookup x=some .local:=by first | exact .inl rfl | exact .inr rfl | assumption):PG X (.Name x pos) (KD i):=by
 intro pins s σ H v u Q I r h
 exact wpAny_assign_Name (Ol I hN hi hx r (fun s' I'=>⟨_,H,I',h⟩) hf)
def Agp:TGs:=fun vs σ H Q=>vs=[]∧Q σ H
def AaV (t:TG)(u:TGs):TGs:=fun vs σ H Q=>∃ v r,vs=v::r∧t v σ H fun σ' H'=>u r σ' H' Q
theorem Zh:PGs X [] Agp:=by
 intro pins s σ H vs us Q I r h
 obtain⟨e,h⟩:=h
 subst e
 cases r
 exact assignInOrder_nil ⟨σ,H,I,h⟩
theorem Oq{e:Expr}{es:List Expr}{t:TG}{u:TGs}(h1:PG X e t)(h2:PGs X es u)
  (hs:(assignEach (e::es) X.env).map (·.2)=assign e X.env::(assignEach es X.env).map (·.2):=by rfl):PGs X (e::es) (AaV t u):=by
 intro pins s σ H vs us Q I r h
 obtain⟨v,vr,e1,h⟩:=h
 subst e1
 cases r with
 | cons r rr =>
  rw[hs]
  refine assignInOrder_cons (thn (h1 pins s σ H _ _ _ I r h) fun _ s1 ⟨σ1,H1,I1,q1⟩=>?_)
  exact h2 pins s1 σ1 H1 _ _ Q I1 rr q1
def Agq (K:PySem.W.Frag)(n:Nat)(t:TGs):TG:=fun v σ H Q=>∃ a xs,v=.ref a∧SqT K H a xs∧xs.length=n∧t xs σ H Q
theorem AaW{es:List Expr}{k:Nat}{t:TGs}{n:Nat}(hc:X.calm=true)(h:PGs X es t)
  (hn:(assignEach es X.env).length=n:=by rfl) (hst:(assignEach es X.env).findIdx? (·.1)=none:=by rfl):PG X (.Tuple es k pos) (Agq X.K n t):=by
 intro pins s σ H v u Q I r hw
 obtain⟨a,xs,e1,hq,hl,hw⟩:=hw
 subst e1
 cases r
 obtain⟨its,rv,ht,hz⟩:=I.tuple hq
 refine assign_Tuple_tuple (I.ok.hd hc) ht (by simp[hn,← hl,rv.length]) hst fun h' hx=>?_
 have I1:Inv X pins σ H { s with heap:=h' }:=I.kept (t':=s.toks) fun b o e=>hx b o (AjS (Heap.lt_size e)) e
 exact h pins _ σ H xs _ Q I1 (by simpa using rv) hw
def AhM (to ti:TE)(t:AcK):TG:=fun v σ H Q=>to σ H fun o H1=>ti σ H1 fun i H2=>t o i v H2 fun H3=>Q σ H3
theorem AaX{o i:Expr}{to ti:TE}{t:AcK}(ho:PE X o to)(hi:PE X i ti)(hs:Ago X t)
  (ha:∀ v,assign (.Subscript o i pos) X.env v=(do
   let ov ← holding [v] (eval o X.env)
   let iv ← holding [v,ov] (eval i X.env)
   standAt pos
   holding [v,ov,iv] (setItem ov iv v)
   release [v,ov,iv] []):=by intro _;rfl):PG X (.Subscript o i pos) (AhM to ti t):=by
 intro pins s σ H v u Q I r h
 rw[ha]
 refine wpAny_bind (wpAny_holding (thn (ho pins s σ H _ I h) fun ov s1 ⟨x,H1,I1,r1,q1⟩=>?_))
 refine wpAny_bind (wpAny_holding (thn (hi pins s1 σ H1 _ I1 q1) fun iv s2 ⟨y,H2,I2,r2,q2⟩=>?_))
 refine wpAny_bind (wpAny_standAt (wpAny_bind (wpAny_holding (thn (hs pins s2 σ H2 x y v ov iv u _ I2 r1 r2 r q2) fun _ s3 ⟨H3,I3,q3⟩=>?_))))
 exact wpAny_release ⟨σ,H3,I3,q3⟩
def AaY (te:TE)(g:TG):TS:=fun D σ H=>te σ H fun x H1=>g x σ H1 D.nx
theorem AaZ{tg e:Expr}{te:TE}{g:TG}(he:PE X e te)(hg:PG X tg g)(hs:swapsWithSole [tg] e pos.line X.env=pure false:=by rfl)(hw:swappedStores [tg] e X.env=pure none:=by rfl)
  (h1:(assignEach [tg] X.env).map (·.2)=[assign tg X.env]:=by rfl):PS X (.Assign [tg] e pos) (AaY te g):=by
 intro pins s σ H D I h
 refine wpAny_Assign_stores (thn (he pins s σ H _ I h) fun v s1 ⟨x,H1,I1,r1,q1⟩=>?_) hs hw
 rw[h1]
 exact thn (hg pins s1 σ H1 x v _ I1 r1 q1) fun _ s2 q=>q
theorem Al{i:Nat}{x:Str}{e:Expr}{te:TE}{pos':Pos}(hN:X.N.Nodup)(hi:X.N[i]?=some x)(hx:Loc X.env.scope x)(he:PE X e te)(hs:swapsWith e (some (.Name x pos')) pos.line X.env=pure false:=by rfl)(hf:X.fn x=true∨X.env.scope.names.lookup x=some .local:=by first | exact .inl rfl | exact .inr rfl | assumption) :
  PS X (.Assign [.Name x pos'] e pos) (AaY te (KD i)):=by
 intro pins s σ H D I h
 refine wpAny_Assign_Name (thn (he pins s σ H _ I h) fun v s1 ⟨y,H1,I1,r1,q1⟩=>?_) hs
 exact Ol I1 hN hi hx r1 (fun s2 I2=>⟨_,H1,I2,q1⟩) hf
def Ajp (i j:Nat)(ta:TA):TS:=fun D σ H=>ta σ H fun vs H1=>∃ v w,vs=[v,w]∧D.nx ((σ.set i (some v)).set j (some w)) H1
def AhN (i:Nat)(te:TE)(ti:TIp):TS:=fun D σ H=>∃ x,σ[i]?=some (some x)∧te σ H fun y H1=>ti x y H1 fun z H2=>D.nx (σ.set i (some z)) H2
theorem Aba{i:Nat}{x:Str}{e:Expr}{te:TE}{op:Operator}{ti:TIp}{pos':Pos}(hN:X.N.Nodup)(hi:X.N[i]?=some x)(hx:Loc X.env.scope x)(he:PE X e te)(ho:PIp X op ti)(hf:X.fn x=true∨X.env.scope.names.lookup x=some .local:=by first | exact .inl rfl | exact .inr rfl | assumption) :
  PS X (.AugAssign (.Name x pos') op e pos) (AhN i te ti):=by
 intro pins s σ H D I h
 obtain⟨v,e1,h⟩:=h
 obtain⟨m,hn,hl⟩:=I.loc
 have vis:Vis X.env.scope x:=by rcases hx with k | k;exact .inl k;exact .inr (.inl k)
 obtain⟨u,r,l⟩:=hl i x v hi e1 vis
 refine wpAny_AugAssign_Name ?_
 have go:wpAny (model X.prog X.w) X.A (eval e X.env) (fun w s₂=>wpAny (model X.prog X.w) X.A (inplaceOp op u w) (fun r s₃=>wpAny (model X.prog X.w) X.A (storeName X.env x r) (fun _=>SP X pins D .next) X.xe s₃) X.xe s₂) X.xe s:=by
  refine thn (he pins s σ H _ I h) fun w s1 ⟨y,H1,I1,r1,q1⟩=>?_
  refine thn (ho pins s1 σ H1 v y u w _ I1 r r1 q1) fun z s2 ⟨zv,H2,I2,r2,q2⟩=>?_
  exact Ol I2 hN hi hx r2 (fun s3 I3=>⟨_,H2,I3,q2⟩) hf
 rcases l with ⟨hk,hm⟩ | ⟨hk,c,hc,hcell⟩
 ·exact wpAny_loadName_local I.ok.kind hk hn hm go
 ·rcases hk with hk | hk
  ·exact wpAny_loadName_cell I.ok.kind hk hc hcell go
  ·rcases hx with k | k
   ·have:X.env.scope.names.lookup x=some .free:=hk
    rw[k] at this;cases this
   ·have:X.env.scope.names.lookup x=some .free:=hk
    rw[k] at this;cases this
def AiR (to ti te:TE)(AhO:V→V→Hp→VK→Prop)(tip:TIp)(AhP:AcK):TS:=fun D σ H=>to σ H fun o H1=>ti σ H1 fun i H2=>AhO o i H2 fun x H3=>te σ H3 fun y H4=>tip x y H4 fun z H5=>AhP o i z H5 fun H6=>D.nx σ H6
def Ajq (X:Cx)(t:V→V→Hp→VK→Prop):Prop :=
 ∀(pins:List (Addr × Obj)) (s:Shared) (σ:St) (H:Hp) (o i:V) (ov iv:Value) (Q:VK),Inv X pins σ H s→RelV o ov→RelV i iv→t o i H Q →
  wpAny (model X.prog X.w) X.A (getItem ov iv) (EP X pins σ Q) X.xe s
def ipI (f:Int→Int→Int):TIp:=fun x y H Q=>∃ i j,x=.int i∧y=.int j∧Q (.int (f i j)) H
theorem Abb:PIp X .Add (ipI fun i j=>i+j):=by
 intro pins s σ H x y v u Q I r1 r2 h
 obtain⟨i,j,e1,e2,q⟩:=h
 subst e1;subst e2
 obtain⟨t,rfl⟩:=r1
 obtain⟨t',rfl⟩:=r2
 exact iadd_int ⟨.int _,H,I.tok _,⟨_,rfl⟩,q⟩
end
section
variable {X:Cx}{pos:Pos}
def AeK (c:TT)(tb:TS):TS:=fun D σ H=>∃ W:Nat→St→Hp→Prop,(∃ m,W m σ H)∧∀ m σ H,W m σ H →
 c σ H fun b H1=>if b=true then ∃ N:St→Hp→Prop,(∀ σ' H',N σ' H'→∃ m',m'<m∧W m' σ' H')∧tb { D with nx:=N,ct:=N,bk:=D.nx } σ H1 else D.nx σ H1
theorem R7{c:Expr}{body:List Stmt}{tc:TT}{tb:TS}(hp:PassesOwn (model X.prog X.w) X.A X.env X.xe)(hc:PT X c tc)(hb:PSs X body tb):PS X (.While c body [] pos) (AeK tc tb):=by
 intro pins s σ H D I h
 obtain⟨W,⟨m0,w0⟩,turn⟩:=h
 refine wpAny_While (codeAny_whileLoop (fun n s'=>∃ σ' H',Inv X pins σ' H' s'∧W n σ' H') ?_ m0 ⟨σ,H,I,w0⟩)
 rintro n s1 ⟨σ1,H1,I1,w1⟩
 refine wpAny_passesOwn hp (thn (hc pins s1 σ1 H1 _ I1 (turn n σ1 H1 w1)) fun b s2 ⟨H2,I2,q2⟩=>?_)
 cases b with
 | true =>
  obtain⟨N,hN,q2⟩:=q2
  rw[if_pos rfl]
  refine wpAny_passesOwn hp (thn (hb pins s2 σ1 H2 _ I2 q2) fun f s3 q3=>?_)
  cases f with
  | next =>
   obtain⟨σ3,H3,I3,n3⟩:=q3
   obtain⟨m',hm,w3⟩:=hN σ3 H3 n3
   exact⟨m',hm,σ3,H3,I3,w3⟩
  | cont =>
   obtain⟨σ3,H3,I3,n3⟩:=q3
   obtain⟨m',hm,w3⟩:=hN σ3 H3 n3
   exact⟨m',hm,σ3,H3,I3,w3⟩
  | brk=>exact q3
  | ret v=>exact q3
 | false =>
  rw[if_neg Akd]
  exact wpAny_execs_nil ⟨σ1,H2,I2,q2⟩
end
structure It where
 go:Nat→Hp→Prop
 yld:Nat→Hp→V→Hp→Prop
 stop:Nat→Hp→Prop
def JP (X:Cx)(pins:List (Addr × Obj))(H:Hp)(b:Addr):Prop :=
 H b=none∧b≠X.env.locals∧b∉X.fs∧(b∈X.ex∨X.s₀.heap.objs.size≤b)∧(∀ x c,X.env.cells.lookup x=some c→c≠b)∧∀ p∈X.pn++pins,p.1≠b
theorem Inv.AcL{X:Cx}{pins:List (Addr × Obj)}{σ:St}{H H':Hp}{s:Shared}{b:Addr}(I:Inv X pins σ H s)(hb:s.heap.objs.size≤b)(hn:H' b=none):JP X pins H' b:=by
 refine⟨hn,Akq (Akc I.lt hb),I.AhE hb,.inr (Akg I.sz hb),fun x c e z=>?_,fun p hp z=>?_⟩
 ·obtain⟨v,q⟩:=I.cell x c e
  exact absurd (Akc q.lt (by rw[z];exact hb)) (Akn _)
 ·exact absurd (Akc (Heap.lt_size (I.pin p hp).1) (by rw[z];exact hb)) (Akn _)
structure Turn (P:Program) (w:World) (K:PySem.W.Frag) (tg:Expr) (J:It) (fp:List Addr) (it:Addr) (tn:Nat→Heap→Prop):Prop where
 mem:it∈fp
 obj:∀ i h,tn i h→∀ b∈fp,∃ o,h.get? b=some o∧∀ v,o.data≠.cell v
 keep:∀ i h h',tn i h→(∀ b∈fp,∀ o,h.get? b=some o→h'.get? b=some o)→tn i h'
 item:∀(X:Cx),X.prog=P→X.w=w→X.K=K→X.calm=true→∀(i:Nat) (pins:List (Addr × Obj)) (s:Shared) (σ:St) (H:Hp) (E:Value→Shared→Prop),Inv X pins σ H s→(∀ b∈fp,JP X pins H b)→tn i s.heap→J.go i H →
  wpAny (model P w) X.A (pyNext (.ref it)) (fun r s1=>∃ u,r=some u ∧
   wpAny (model P w) X.A (letOwnedTupleGo tg (.ref it) u) (fun _ s2=>∃ x H',Inv X pins σ H' s2∧RelV x u∧J.yld i H x H'∧tn (i+1) s2.heap∧∀ b∈fp,H' b=none) E s1) E s
 done:∀(X:Cx),X.prog=P→X.w=w→X.K=K→X.calm=true→∀(i:Nat) (pins:List (Addr × Obj)) (s:Shared) (σ:St) (H:Hp) (E:Value→Shared→Prop),Inv X pins σ H s→(∀ b∈fp,JP X pins H b)→tn i s.heap→J.stop i H →
  wpAny (model P w) X.A (pyNext (.ref it)) (fun r s1=>r=none∧Inv X pins σ H s1) E s
 self:∀(A:Around) (i:Nat) (s:Shared) (Q:Value→Shared→Prop) (E:Value→Shared→Prop),tn i s.heap→Q (.ref it) s→wpAny (model P w) A (pyIter (.ref it)) Q E s
abbrev TI:=St→Hp→(It→Hp→Prop)→Prop
def PIE (X:Cx)(pins:List (Addr × Obj))(σ:St)(tg:Expr)(R:It→Hp→Prop)(itv:Value)(s2:Shared):Prop :=
 ∃(it:Addr) (fp:List Addr) (tn:Nat→Heap→Prop) (J:It) (H':Hp),itv=.ref it∧Inv X pins σ H' s2∧Turn X.prog X.w X.K tg J fp it tn∧tn 0 s2.heap∧(∀ b∈fp,JP X pins H' b)∧R J H'
def PI (X:Cx)(tg iter:Expr)(wi:TI):Prop :=
 ∀(pins:List (Addr × Obj)) (s:Shared) (σ:St) (H:Hp) (R:It→Hp→Prop),Inv X pins σ H s→wi σ H R →
  wpAny (model X.prog X.w) X.A (eval iter X.env) (fun v s1=>wpAny (model X.prog X.w) X.A (pyIter v) (PIE X pins σ tg R) X.xe s1) X.xe s
theorem Zi{M:Model}{A:Around}{E:Value→Shared→Prop}{s:Shared}{tg:Expr}{it:Addr}{u:Value}{o:Obj}{n:String}{vs:Array Value}{Q:Unit→Shared→Prop}(ho:s.heap.get? it=some o)(hc:o.cls=.type n)(hd:o.data=.fields vs)
    (hn:["enumerate", "zip", "dict_itemiterator", "dict_reverseitemiterator", "odict_iterator", "itertools.zip_longest", "itertools.pairwise"].contains n=false) (hQ:Q () s):wpAny M A (letOwnedTupleGo tg (.ref it) u) Q E s:=by
  unfold letOwnedTupleGo
  cases tg <;> first
    | exact wpAny_pure hQ
    | (cases u <;> first
        | exact wpAny_pure hQ
        | (refine wpAny_bind (wpAny_load ho ?_)
           rw[hc,hd]
           show wpAny M A (if (["enumerate", "zip", "dict_itemiterator", "dict_reverseitemiterator", "odict_iterator", "itertools.zip_longest", "itertools.pairwise"].contains n && vs[0]? == some (rawInt _))=true then _ else _) Q E s
           rw[if_neg (by intro h;rw[hn,Bool.false_and] at h;cases h)]
           exact wpAny_pure hQ))
def Itl (K:PySem.W.Frag)(a:Addr):It :=
 ⟨fun i H=>∃ xs x,SqL K H a xs∧xs[i]?=some x,fun i H x H'=>H'=H∧∀ xs,SqL K H a xs→xs[i]?=some x,fun i H=>∃ xs,SqL K H a xs∧xs.length≤i⟩
def Itt (K:PySem.W.Frag)(a:Addr):It :=
 ⟨fun i H=>∃ xs x,SqT K H a xs∧xs[i]?=some x,fun i H x H'=>H'=H∧∀ xs,SqT K H a xs→xs[i]?=some x,fun i H=>∃ xs,SqT K H a xs∧xs.length≤i⟩
def Itr (lo:Int)(n:Nat):It:=⟨fun i _=>i<n,fun i H x H'=>H'=H∧x=.int (lo+i),fun i _=>n≤i⟩
theorem Aab{P:Program}{w:World}{K:PySem.W.Frag}{tg:Expr}(a it:Addr):Turn P w K tg (Itl K a) [it] it (fun i h=>h.IsListIter it a i) where
 mem:=by simp
 obj:=fun i h st b hb=>by
  have e:b=it:=by simpa using hb
  subst e
  obtain⟨o,e,c,d⟩:=st
  exact⟨o,e,fun v z=>by rw[d] at z;cases z⟩
 keep:=fun i h h' st k=>st.at fun o e=>k it (by simp) o e
 item:=by
  intro X hP hw hK hc i pins s σ H E I hf st hg
  subst hP hw hK
  obtain⟨xs,x,hq,hx⟩:=hg
  obtain⟨its,rv,p,hz⟩:=I.list hq
  obtain⟨u,hu,ru⟩:=rv.get hx
  obtain⟨f0,f1,f2,f3,f4,f5⟩:=hf it (by simp)
  refine wpAny_pyNext_list_item st p.isList (x:=u) (by simpa using hu) fun h' st' sb=>?_
  have I1:Inv X pins σ H { s with heap:=h' }:=I.turned (t':=s.toks) (fun b o hb e=>(sb.2 b hb).trans e) f0 f1 f3 f4 f5
  obtain⟨o,e,c,d⟩:=id st'
  exact⟨u,rfl,Zi (s:={ s with heap:=h' }) e c d (by decide) ⟨x,H,I1,ru,⟨rfl,fun ys hy=>by rw[I.Oo hy hq];exact hx⟩,st',fun b hb=>(hf b hb).1⟩⟩
 done:=by
  intro X hP hw hK hc i pins s σ H E I hf st hg
  subst hP hw hK
  obtain⟨xs,hq,hx⟩:=hg
  obtain⟨its,rv,p,hz⟩:=I.list hq
  obtain⟨f0,f1,f2,f3,f4,f5⟩:=hf it (by simp)
  have hl:=rv.length
  exact wpAny_pyNext_list_end (I.ok.hd hc) st p.isList (by simp;omega) fun h' eb=>⟨rfl,I.turned (t':=s.toks) (fun b o hb e=>eb b o hb e) f0 f1 f3 f4 f5⟩
 self:=fun _ _ _ _ _ st h=>wpAny_pyIter_listiter st h
theorem Yp{P:Program}{w:World}{K:PySem.W.Frag}{tg:Expr}(it:Addr)(lo:Int)(n:Nat):Turn P w K tg (Itr lo n) [it] it (fun i h=>IsRangeIter h it (lo+(i:Nat)*1) ((n:Int)-(i:Nat)) 1) where
 mem:=by simp
 obj:=fun i h st b hb=>by
  have e:b=it:=by simpa using hb
  subst e
  exact⟨_,st,fun v z=>by
   have z':Data.fields _=Data.cell v:=z
   cases z'⟩
 keep:=fun i h h' st k=>k it (by simp) _ st
 item:=by
  intro X hP hw hK hc i pins s σ H E I hf st hg
  subst hP hw hK
  obtain⟨f0,f1,f2,f3,f4,f5⟩:=hf it (by simp)
  have W:=Walks.range (prog:=X.prog) (w:=X.w) (I.ok.hd hc) it lo 1 n
  refine W.item i s _ _ hg st fun v h' tk hv st' kk=>?_
  obtain⟨t,rfl⟩:=hv
  have I1:Inv X pins σ H { s with heap:=h',toks:=tk }:=I.turned (fun b o hb e=>kk b o (by simpa using hb) e) f0 f1 f3 f4 f5
  refine⟨_,rfl,Zi (s:={ s with heap:=h',toks:=tk }) (n := "range_iterator") st' rfl rfl (by decide) ⟨.int (lo+i),H,I1,⟨t,?_⟩,⟨rfl,rfl⟩,st',fun b hb=>(hf b hb).1⟩⟩
  rw[Int.mul_one]
 done:=by
  intro X hP hw hK hc i pins s σ H E I hf st hg
  subst hP hw hK
  obtain⟨f0,f1,f2,f3,f4,f5⟩:=hf it (by simp)
  exact wpAny_pyNext_range_end (I.ok.hd hc) st (by have:n≤i:=hg;omega) fun h' eb=>⟨rfl,I.turned (t':=s.toks) (fun b o hb e=>eb b o hb e) f0 f1 f3 f4 f5⟩
 self:=fun _ _ _ _ _ st h=>wpAny_pyIter_rangeiter st h
open PySem PySem.Spec PyProof.Rows
section
variable {X:Cx}{tg:Expr}
def Aej (K:PySem.W.Frag)(tl:TE):TI:=fun σ H R=>tl σ H fun x H1=>∃ a,x=.ref a∧(∃ xs,SqL K H1 a xs)∧R (Itl K a) H1
def Ajr (K:PySem.W.Frag)(tl:TE):TI:=fun σ H R=>tl σ H fun x H1=>∃ a,x=.ref a∧(∃ xs,SqT K H1 a xs)∧R (Itt K a) H1
theorem AcM{l:Expr}{tl:TE}(hl:PE X l tl):PI X tg l (Aej X.K tl):=by
 intro pins s σ H R I h
 refine thn (hl pins s σ H _ I h) fun v s1 ⟨x,H1,I1,r1,q1⟩=>?_
 obtain⟨a,e,⟨xs,hq⟩,q⟩:=q1
 subst e
 cases r1
 obtain⟨its,rv,p,hz⟩:=I1.list hq
 refine wpAny_pyIter_list p.isList ?_
 refine⟨s1.heap.objs.size,[s1.heap.objs.size],_,_,H1,rfl,I1.kept (t':=s1.toks) fun b o e=>Heap.get?_push_of_some _ e,Aab a _,⟨_,Heap.get?_push_size _ rfl,rfl,rfl⟩,fun b hb=>?_,q⟩
 have e:b=s1.heap.objs.size:=by simpa using hb
 subst e
 exact I1.AcL (AjQ _) (I1.hok.fresh (AjQ _))
theorem Abd{pins:List (Addr × Obj)}{σ:St}{H:Hp}{s:Shared}{R:It→Hp→Prop}{E:Value→Shared→Prop}{lo hi:Int}{t u v:Tok}{tk:Nat}(I:Inv X pins σ H s)(h1 : -(2 ^ 62)≤lo)(h2:lo<2 ^ 62)(h3 : -(2 ^ 62)≤hi)(h4:hi<2 ^ 62)
  (q:R (Itr lo (hi-lo).toNat) H):wpAny (model X.prog X.w) X.A (pyIter (.ref s.heap.objs.size)) (PIE X pins σ tg R) E { s with heap:=s.heap.push { cls:=.type "range", data:=.fields #[.int lo t,.int hi u,.int 1 v] },toks:=tk }:=by
 refine wpAny_pyIter_range (IsRange.new ..) (small_one h1 h2 h3 h4) ?_
 have I1:Inv X pins σ H { s with heap:=s.heap.push { cls:=.type "range", data:=.fields #[.int lo t,.int hi u,.int 1 v] },toks:=tk }:=I.kept fun b o e=>Heap.get?_push_of_some _ e
 refine⟨(s.heap.push { cls:=.type "range", data:=.fields #[.int lo t,.int hi u,.int 1 v] }).objs.size,[(s.heap.push { cls:=.type "range", data:=.fields #[.int lo t,.int hi u,.int 1 v] }).objs.size],_,_,H,rfl,
  I1.kept (t':=tk) fun b o e=>Heap.get?_push_of_some _ e,Yp _ lo (hi-lo).toNat,?_,fun b hb=>?_,q⟩
 ·have e1:lo+((0:Nat):Int)*1=lo:=by simp
  have e2:(((hi-lo).toNat:Nat):Int)-((0:Nat):Int)=Builtin.Range.rangeSize lo hi 1:=by rw[rangeSize_one];split <;> omega
  show IsRangeIter _ _ (lo+((0:Nat):Int)*1) ((((hi-lo).toNat:Nat):Int)-((0:Nat):Int)) 1
  rw[e1,e2]
  exact Heap.get?_push_size _ rfl
 ·have e:b=(s.heap.push { cls:=.type "range", data:=.fields #[.int lo t,.int hi u,.int 1 v] }).objs.size:=by simpa using hb
  subst e
  exact I1.AcL (AjQ _) (I1.hok.fresh (AjQ _))
def Agr (ta:TA):TI:=fun σ H R=>ta σ H fun vs H1=>∃ j:Int,vs=[.int j] ∧ -(2 ^ 62)≤j∧j<2 ^ 62∧R (Itr 0 j.toNat) H1
def AiS (ta:TA):TI:=fun σ H R=>ta σ H fun vs H1=>∃ i j:Int,vs=[.int i,.int j]∧(-(2 ^ 62)≤i∧i<2 ^ 62 ∧ -(2 ^ 62)≤j∧j<2 ^ 62)∧R (Itr i (j-i).toNat) H1
theorem BZ{a:Expr}{ta:TA}{p pos:Pos}(hg:Gl X "range") (hm:X.mg "range" = none) (ha:PA X [a] ta) (hs:starEach [a] X.env=[(false,eval a X.env)]:=by rfl):PI X tg (.Call (.Name "range" p) [a] [] pos) (Agr ta):=by
 intro pins s σ H R I h
 refine Call_ (HX I hg hm boot_range (PyProof.Rows.callWith_type1 (thn (ha pos pins s σ H _ I h) fun us s1 ⟨vs,H1,I1,r1,q1⟩=>?_) hs rfl))
 obtain⟨j,e,q1,q2,q⟩:=q1
 subst e
 cases r1 with
 | cons r rr =>
  cases rr
  obtain⟨t,rfl⟩:=r
  exact call_range_1 (Abd I1 (by omega) (by omega) q1 q2 (by simpa using q))
def AhQ (wi:TI)(g:TG)(tb:TS):TS:=fun D σ H=>wi σ H fun J H1=>∃ W:Nat→Nat→St→Hp→Prop,(∃ m,W 0 m σ H1)∧∀ i m σ H,W i m σ H →
 (J.stop i H∧D.nx σ H)∨(J.go i H∧∃ N:St→Hp→Prop,(∀ σ' H',N σ' H'→∃ m',m'<m∧W (i+1) m' σ' H')∧∀ x H',J.yld i H x H'→g x σ H' fun σ2 H2=>tb { D with nx:=N,ct:=N,bk:=D.nx } σ2 H2)
def Qg (fp:List Addr)(h:Heap):List (Addr × Obj):=fp.filterMap fun b=>(h.get? b).map fun o=>(b,o)
theorem GJ{fp:List Addr}{h:Heap}{b:Addr}{o:Obj}(hb:b∈fp)(e:h.get? b=some o):(b,o)∈Qg fp h:=List.mem_filterMap.mpr ⟨b,hb,by rw[e];rfl⟩
theorem Aac{fp:List Addr}{h:Heap}{p:Addr × Obj}(hp:p∈Qg fp h):p.1∈fp∧h.get? p.1=some p.2:=by
 obtain⟨b,hb,e⟩:=List.mem_filterMap.mp hp
 cases q:h.get? b with
 | none=>rw[q] at e;cases e
 | some o =>
  rw[q] at e
  have e':(b,o)=p:=Option.some.inj e
  subst e'
  exact⟨hb,q⟩
theorem Inv.pinned{pins:List (Addr × Obj)}{σ:St}{H:Hp}{s:Shared}{fp:List Addr}(I:Inv X pins σ H s)(hf:∀ b∈fp,JP X pins H b)(ho:∀ b∈fp,∃ o,s.heap.get? b=some o∧∀ v,o.data≠.cell v):Inv X (pins++Qg fp s.heap) σ H s :=
 I.Iw fun p hp=>(List.mem_append.mp hp).elim (fun z=>I.pin p (Ako _ z)) fun z=>by
  obtain⟨hb,e⟩:=Aac z
  obtain⟨f0,f1,f2,_⟩:=hf p.1 hb
  obtain⟨o,e',d⟩:=ho p.1 hb
  rw[e] at e';cases e'
  exact⟨e,f0,f1,f2,d⟩
theorem Inv.R8{pins pl:List (Addr × Obj)}{σ:St}{H:Hp}{s:Shared}(I:Inv X (pins++pl) σ H s):Inv X pins σ H s:=I.Iw fun p hp=>I.pin p (Ako _ (AkB _ hp))
theorem Cp{iter:Expr}{body:List Stmt}{wi:TI}{g:TG}{tb:TS}{pos:Pos}(hp:PassesOwn (model X.prog X.w) X.A X.env X.xe)(hc:X.calm=true)(hi:PI X tg iter wi)(hg:PG X tg g)(hb:PSs X body tb)
  (hs:∀ x,foldedSetIterable iter X.env x=pure x:=by intro _;rfl):PS X (.For tg iter body [] pos) (AhQ wi g tb):=by
 intro pins s σ H D I h
 refine wpAny_For (thn (hi pins s σ H _ I h) fun v s1 h1=>thn h1 fun itv s2 h2=>?_) hs
 obtain⟨it,fp,tn,J,H2,e,I2,T,st2,f2,W,⟨m0,w0⟩,turn⟩:=h2
 subst e
 have stat:∀{H':Hp},(∀ b∈fp,H' b=none)→∀ b∈fp,JP X pins H' b:=fun hn b hb=>⟨hn b hb,(f2 b hb).2⟩
 refine codeAny_forLoop_any (fun n s'=>∃ i σ' H',Inv X pins σ' H' s'∧tn i s'.heap∧(∀ b∈fp,H' b=none)∧W i n σ' H') ?_ m0 ⟨0,σ,H2,I2,st2,fun b hb=>(f2 b hb).1,w0⟩
 rintro n s3 ⟨i,σ3,H3,I3,st3,fr3,w3⟩
 rcases turn i n σ3 H3 w3 with ⟨stop,qn⟩ | ⟨go,N,hN,step⟩
 ·refine wpAny_passesOwn hp (thn (T.done X rfl rfl rfl hc i pins s3 σ3 H3 X.xe I3 (stat fr3) st3 stop) fun r s4 ⟨hr,I4⟩=>?_)
  subst hr
  exact wpAny_execs_nil ⟨σ3,H3,I4,qn⟩
 ·refine wpAny_passesOwn hp (thn (T.item X rfl rfl rfl hc i pins s3 σ3 H3 X.xe I3 (stat fr3) st3 go) fun r s4 ⟨u,hr,h4⟩=>?_)
  subst hr
  refine wpAny_passesOwn hp (thn h4 fun _ s5 ⟨x,H5,I5,r5,y5,st5,fr5⟩=>?_)
  have I5':=I5.pinned (stat fr5) (T.obj _ _ st5)
  refine wpAny_passesOwn hp (thn (hg _ s5 σ3 H5 x u _ I5' r5 (step x H5 y5)) fun _ s6 ⟨σ6,H6,I6,q6⟩=>?_)
  refine wpAny_passesOwn hp (thn (hb _ s6 σ6 H6 _ I6 q6) fun f s7 q7=>?_)
  have again:∀{σ7:St} {H7:Hp},Inv X (pins++Qg fp s5.heap) σ7 H7 s7→N σ7 H7→∃ m,m<n∧∃ i σ' H',Inv X pins σ' H' s7∧tn i s7.heap∧(∀ b∈fp,H' b=none)∧W i m σ' H':=fun {σ7 H7} I7 n7=>by
   obtain⟨m',hm,w7⟩:=hN σ7 H7 n7
   refine⟨m',hm,i+1,σ7,H7,I7.R8,T.keep _ _ _ st5 fun b hb o e=>(I7.pin (b,o) (Ako _ (Ako _ (GJ hb e)))).1,fun b hb=>?_,w7⟩
   obtain⟨o,e,d⟩:=T.obj _ _ st5 b hb
   exact(I7.pin (b,o) (Ako _ (Ako _ (GJ hb e)))).2.1
  cases f with
  | next=>obtain⟨σ7,H7,I7,n7⟩:=q7;exact again I7 n7
  | cont=>obtain⟨σ7,H7,I7,n7⟩:=q7;exact again I7 n7
  | brk=>obtain⟨σ7,H7,I7,q7⟩:=q7;exact⟨σ7,H7,I7.R8,q7⟩
  | ret v=>obtain⟨x7,σ7,H7,I7,r7,q7⟩:=q7;exact⟨x7,σ7,H7,I7.R8,r7,q7⟩
end
theorem DW{K:PySem.W.Frag}{a:Addr}{xs:List V}{g:TG}{tb:TS}{D:Ends}{σ:St}{H:Hp}(Pv:Nat→St→Hp→Prop)(h0:Pv 0 σ H)(hl:∀ i σ H,i≤xs.length→Pv i σ H→SqL K H a xs)
  (hs:∀ i x σ H,xs[i]?=some x→Pv i σ H→g x σ H fun σ2 H2=>tb { D with nx:=Pv (i+1),ct:=Pv (i+1),bk:=D.nx } σ2 H2) (hd:∀ σ H,Pv xs.length σ H→D.nx σ H) :
  ∃ W:Nat→Nat→St→Hp→Prop,(∃ m,W 0 m σ H)∧∀ i m σ H,W i m σ H →
   ((Itl K a).stop i H∧D.nx σ H)∨((Itl K a).go i H∧∃ N:St→Hp→Prop,(∀ σ' H',N σ' H'→∃ m',m'<m∧W (i+1) m' σ' H')∧∀ x H',(Itl K a).yld i H x H'→g x σ H' fun σ2 H2=>tb { D with nx:=N,ct:=N,bk:=D.nx } σ2 H2):=by
 refine⟨fun i m σ H=>m=xs.length-i∧i≤xs.length∧Pv i σ H,⟨xs.length,by simp,Akb _,h0⟩,?_⟩
 rintro i m σ H ⟨rfl,hi,p⟩
 have q:=hl i σ H hi p
 by_cases hlt:i<xs.length
 ·refine .inr ⟨⟨xs,xs[i],q,by simp[hlt]⟩,Pv (i+1),fun σ' H' p'=>⟨xs.length-(i+1),by omega,rfl,hlt,p'⟩,fun x H' y=>?_⟩
  obtain⟨e,y⟩:=y
  subst e
  exact hs i x σ _ (y xs q) p
 ·have e:i=xs.length:=by omega
  subst e
  exact .inl ⟨⟨xs,q,AjQ _⟩,hd σ H p⟩
theorem Du{lo:Int}{n:Nat}{g:TG}{tb:TS}{D:Ends}{σ:St}{H:Hp}(Pv:Nat→St→Hp→Prop)(h0:Pv 0 σ H)
  (hs:∀ i σ H,i<n→Pv i σ H→g (.int (lo+i)) σ H fun σ2 H2=>tb { D with nx:=Pv (i+1),ct:=Pv (i+1),bk:=D.nx } σ2 H2) (hd:∀ σ H,Pv n σ H→D.nx σ H) :
  ∃ W:Nat→Nat→St→Hp→Prop,(∃ m,W 0 m σ H)∧∀ i m σ H,W i m σ H →
   ((Itr lo n).stop i H∧D.nx σ H)∨((Itr lo n).go i H∧∃ N:St→Hp→Prop,(∀ σ' H',N σ' H'→∃ m',m'<m∧W (i+1) m' σ' H')∧∀ x H',(Itr lo n).yld i H x H'→g x σ H' fun σ2 H2=>tb { D with nx:=N,ct:=N,bk:=D.nx } σ2 H2):=by
 refine⟨fun i m σ H=>m=n-i∧i≤n∧Pv i σ H,⟨n,by simp,Akb _,h0⟩,?_⟩
 rintro i m σ H ⟨rfl,hi,p⟩
 by_cases hlt:i<n
 ·refine .inr ⟨hlt,Pv (i+1),fun σ' H' p'=>⟨n-(i+1),by omega,rfl,hlt,p'⟩,fun x H' y=>?_⟩
  obtain⟨e,y⟩:=y
  subst e y
  exact hs i σ _ hlt p
 ·have e:i=n:=by omega
  subst e
  exact .inl ⟨AjQ _,hd σ H p⟩
open PySem PySem.Spec PyProof.Rows
abbrev R2:=V→V→Hp→VK→Prop
def OpR (X:Cx)(f:Value→Value→Sem Value)(r:R2):Prop :=
 ∀(pins:List (Addr × Obj)) (s:Shared) (σ:St) (H:Hp) (x y:V) (v u:Value) (Q:VK),Inv X pins σ H s→RelV x v→RelV y u→r x y H Q →
  wpAny (model X.prog X.w) X.A (f v u) (EP X pins σ Q) X.xe s
def UnR (X:Cx)(f:Value→Sem Value)(r:V→Hp→VK→Prop):Prop :=
 ∀(pins:List (Addr × Obj)) (s:Shared) (σ:St) (H:Hp) (x:V) (v:Value) (Q:VK),Inv X pins σ H s→RelV x v→r x H Q →
  wpAny (model X.prog X.w) X.A (f v) (EP X pins σ Q) X.xe s
def HY (X:Cx)(f:Value)(r:List V→Hp→VK→Prop):Prop :=
 ∀(pins:List (Addr × Obj)) (s:Shared) (σ:St) (H:Hp) (xs:List V) (us:List Value) (Q:VK),Inv X pins σ H s→Vals xs us→r xs H Q →
  wpAny (model X.prog X.w) X.A (call f us) (EP X pins σ Q) X.xe s
def AhR (X:Cx)(r:V→Hp→(Bool→Hp→Prop)→Prop):Prop :=
 ∀(pins:List (Addr × Obj)) (s:Shared) (σ:St) (H:Hp) (x:V) (v:Value) (Q:Bool→Hp→Prop),Inv X pins σ H s→RelV x v→r x H Q →
  wpAny (model X.prog X.w) X.A (truthy v) (TP X pins σ Q) X.xe s
def tOp (r:R2)(ta tb:TE):TE:=fun σ H Q=>ta σ H fun x H1=>tb σ H1 fun y H2=>r x y H2 Q
def tUn (r:V→Hp→VK→Prop)(ta:TE):TE:=fun σ H Q=>ta σ H fun x H1=>r x H1 Q
def rI (C:Int→Int→Prop)(g:Int→Int→V):R2:=fun x y H Q=>∃ i j,x=.int i∧y=.int j∧C i j∧Q (g i j) H
def rI0 (g:Int→Int→V):R2:=fun x y H Q=>∃ i j,x=.int i∧y=.int j∧Q (g i j) H
def rU (g:Int→V):V→Hp→VK→Prop:=fun x H Q=>∃ i,x=.int i∧Q (g i) H
section
variable {X:Cx}{a b c:Expr}{ta tb tc:TE}{pos:Pos}
theorem AeL(ha:PE X a ta)(hb:PE X b tb){pins:List (Addr × Obj)}{s:Shared}{σ:St}{H:Hp}{R:V→V→Hp→Prop}(I:Inv X pins σ H s)
  (h:ta σ H fun x H1=>tb σ H1 fun y H2=>R x y H2) {Q:Value→Shared→Prop} {f:Value→Value→Sem Value}
  (hf:∀ v u s2 x y H2,Inv X pins σ H2 s2→RelV x v→RelV y u→R x y H2→wpAny (model X.prog X.w) X.A (f v u) Q X.xe s2) :
  wpAny (model X.prog X.w) X.A (eval a X.env) (fun v s₁=>wpAny (model X.prog X.w) X.A (eval b X.env) (fun u s₂=>wpAny (model X.prog X.w) X.A (f v u) Q X.xe s₂) X.xe s₁) X.xe s:=by
 refine thn (ha pins s σ H _ I h) fun v s1 ⟨x,H1,I1,r1,q1⟩=>?_
 refine thn (hb pins s1 σ H1 _ I1 q1) fun u s2 ⟨y,H2,I2,r2,q2⟩=>?_
 exact hf v u s2 x y H2 I2 r1 r2 q2
theorem Bg{op:Operator}{r:R2}(ho:OpR X (binaryOp op) r)(ha:PE X a ta)(hb:PE X b tb):PE X (.BinOp a op b pos) (tOp r ta tb):=by
 intro pins s σ H Q I h
 exact wpAny_BinOp (AeL ha hb I h fun v u s2 x y H2 I2 rx ry q=>ho pins s2 σ H2 x y v u Q I2 rx ry q)
theorem Aek{op:UnaryOp}{r:V→Hp→VK→Prop}(ho:UnR X (unaryOp op) r)(ha:PE X a ta):PE X (.UnaryOp op a pos) (tUn r ta):=by
 intro pins s σ H Q I h
 exact UnaryOp_ (thn (ha pins s σ H _ I h) fun v s1 ⟨x,H1,I1,r1,q1⟩=>ho pins s1 σ H1 x v Q I1 r1 q1)
theorem opI{f:Value→Value→Sem Value}{C:Int→Int→Prop}{g:Int→Int→Int}
  (rule:∀(i j:Int) (t u:Tok) (s:Shared) (Q:Value→Shared→Prop) (E:Value→Shared→Prop),C i j→Q (.int (g i j) s.toks) { s with toks:=s.toks+1 }→wpAny (model X.prog X.w) X.A (f (.int i t) (.int j u)) Q E s) :
  OpR X f (rI C fun i j=>.int (g i j)):=by
 intro pins s σ H x y v u Q I rx ry h
 obtain⟨i,j,rfl,rfl,hc,q⟩:=h
 obtain⟨t,rfl⟩:=rx
 obtain⟨t',rfl⟩:=ry
 exact rule i j t t' s _ _ hc ⟨.int (g i j),H,I.tok _,⟨_,rfl⟩,q⟩
theorem Ags{f:Value→Value→Sem Value}{g:Int→Int→Int}
  (rule:∀(i j:Int) (t u:Tok) (s:Shared) (Q:Value→Shared→Prop) (E:Value→Shared→Prop),Q (.int (g i j) s.toks) { s with toks:=s.toks+1 }→wpAny (model X.prog X.w) X.A (f (.int i t) (.int j u)) Q E s) :
  OpR X f (rI0 fun i j=>.int (g i j)):=by
 intro pins s σ H x y v u Q I rx ry h
 obtain⟨i,j,rfl,rfl,q⟩:=h
 obtain⟨t,rfl⟩:=rx
 obtain⟨t',rfl⟩:=ry
 exact rule i j t t' s _ _ ⟨.int (g i j),H,I.tok _,⟨_,rfl⟩,q⟩
theorem AcN{f:Value→Value→Sem Value}{g:Int→Int→Bool}
  (rule:∀(i j:Int) (t u:Tok) (s:Shared) (Q:Value→Shared→Prop) (E:Value→Shared→Prop),Q (.bool (g i j)) s→wpAny (model X.prog X.w) X.A (f (.int i t) (.int j u)) Q E s) :
  OpR X f (rI0 fun i j=>.bl (g i j)):=by
 intro pins s σ H x y v u Q I rx ry h
 obtain⟨i,j,rfl,rfl,q⟩:=h
 obtain⟨t,rfl⟩:=rx
 obtain⟨t',rfl⟩:=ry
 exact rule i j t t' s _ _ ⟨.bl (g i j),H,I,rfl,q⟩
def AhS (i j:Int):Prop:=0<j∧j<1073741824
def AiT (i j:Int):Prop:=j≠0∧j.natAbs<1073741824
def Ajs (i j:Int):Prop:=0≤j∧j≤1000000∧i.natAbs<2 ^ 64
def AeM (i j:Int):Prop:=(-(2 ^ 64)<i∧i<2 ^ 64)∨(-(2 ^ 64)<j∧j<2 ^ 64)
theorem AeM.ok{i j:Int}(h:AeM i j):IntMulOk i j:=by
 rcases h with ⟨h1,h2⟩ | ⟨h1,h2⟩
 ·exact .of_left (intBits_le_64 h1 h2)
 ·exact .of_right (intBits_le_64 h1 h2)
theorem DY:OpR X (binaryOp .Add) (rI0 fun i j=>.int (i+j)):=Ags fun _ _ _ _ _ _ _ q=>add_int q
theorem Yq:OpR X (binaryOp .Sub) (rI0 fun i j=>.int (i-j)):=Ags fun _ _ _ _ _ _ _ q=>sub_int q
theorem Vl:OpR X (binaryOp .Mult) (rI AeM fun i j=>.int (i*j)):=opI fun _ _ _ _ _ _ _ hc q=>mul_int q hc.ok
theorem LK:OpR X (binaryOp .FloorDiv) (rI AhS fun i j=>.int (i / j)):=opI fun i j _ _ _ _ _ hc q=>by
 have h1:(0:Int)<j:=hc.1
 have h2:j<1073741824:=hc.2
 exact floordiv_int (by omega) (by rw[Int.fdiv_eq_ediv_of_nonneg i (by omega)];exact q) (.inl (PyProof.noPylong_small (by omega)))
theorem Dd:OpR X (binaryOp .Mod) (rI (fun _ j=>0<j) fun i j=>.int (i%j)):=opI fun i j _ _ _ _ _ hc q=>by
 have h1:(0:Int)<j:=hc
 exact mod_int' (by omega) (by rw[Int.fmod_eq_emod_of_nonneg i (by omega)];exact q)
theorem unI{f:Value→Sem Value}{g:Int→Int}
  (rule:∀(i:Int) (t:Tok) (s:Shared) (Q:Value→Shared→Prop) (E:Value→Shared→Prop),Q (.int (g i) s.toks) { s with toks:=s.toks+1 }→wpAny (model X.prog X.w) X.A (f (.int i t)) Q E s) :
  UnR X f (rU fun i=>.int (g i)):=by
 intro pins s σ H x v Q I rx h
 obtain⟨i,rfl,q⟩:=h
 obtain⟨t,rfl⟩:=rx
 exact rule i t s _ _ ⟨.int (g i),H,I.tok _,⟨_,rfl⟩,q⟩
theorem Abe:UnR X (unaryOp .USub) (rU fun i=>.int (-i)):=unI fun _ _ _ _ _ q=>neg_int q
end
def AeN:V→V→Bool
 | .non,.non=>true | .non,.int _=>true | .int _,.non=>true | .non,.bl _=>true | .bl _,.non=>true | .non,.str _=>true | .str _,.non=>true
 | .int _,.int _=>true | .bl _,.bl _=>true | .str _,.str _=>true | .byt _,.byt _=>true
 | .int _,.str _=>true | .str _,.int _=>true | .bl _,.str _=>true | .str _,.bl _=>true
 | _,_=>false
def rEq:R2:=fun x y H Q=>AeN x y=true∧Q (.bl (decide (x=y))) H
def rNe:R2:=fun x y H Q=>AeN x y=true∧Q (.bl (!decide (x=y))) H
theorem Zj{i j:Int}:decide (V.int i=V.int j)=(i == j):=by
 rw[AkQ]
 simp
theorem Abf{i j:Bool}:decide (V.bl i=V.bl j)=(i == j):=by
 rw[AkQ]
 simp
theorem Zk{i j:Str}:decide (V.str i=V.str j)=(i == j):=by
 rw[AkQ]
 simp
theorem Zm{i j:Array UInt8}:decide (V.byt i=V.byt j)=(i.toList == j.toList):=by
 rw[AkQ]
 cases i
 cases j
 simp
section
variable {X:Cx}{a b c:Expr}{ta tb tc:TE}{pos:Pos}
theorem Cr{pins:List (Addr × Obj)}{σ:St}{H:Hp}{s:Shared}{Q:VK}{k k':Bool}(I:Inv X pins σ H s)(q:Q (.bl k) H)(e:k=k'):EP X pins σ Q (.bool k') s:=by
 subst e
 exact⟨.bl k,H,I,rfl,q⟩
theorem Cy:OpR X (compareOp .Eq) rEq:=by
 intro pins s σ H x y v u Q I rx ry h
 obtain⟨hs,q⟩:=h
 cases x with
 | non =>
  cases rx
  cases y with
  | non=>cases ry;exact PySem.EqNone.eq_none_none (Cr I q (by simp))
  | bl j=>cases ry;exact PySem.EqNone.eq_none_bool (Cr I q (by simp))
  | int j=>obtain⟨t',rfl⟩:=ry;exact PySem.EqNone.eq_none_int (Cr I q (by simp))
  | str j=>obtain⟨t',rfl⟩:=ry;exact PySem.EqNone.eq_none_str (Cr I q (by simp))
  | _=>exact absurd (show false=true from hs) Akd
 | bl i =>
  cases rx
  cases y with
  | non=>cases ry;exact PySem.EqNone.eq_bool_none (Cr I q (by simp))
  | bl j=>cases ry;exact eq_bool (Cr I q Abf)
  | str j=>obtain⟨t',rfl⟩:=ry;exact PySem.EqMixed.eq_bool_str (Cr I q (by simp))
  | _=>exact absurd (show false=true from hs) Akd
 | int i =>
  obtain⟨t,rfl⟩:=rx
  cases y with
  | non=>cases ry;exact PySem.EqNone.eq_int_none (Cr I q (by simp))
  | int j=>obtain⟨t',rfl⟩:=ry;exact eq_int (Cr I q Zj)
  | str j=>obtain⟨t',rfl⟩:=ry;exact PySem.EqMixed.eq_int_str (Cr I q (by simp))
  | _=>exact absurd (show false=true from hs) Akd
 | str i =>
  obtain⟨t,rfl⟩:=rx
  cases y with
  | non=>cases ry;exact PySem.EqNone.eq_str_none (Cr I q (by simp))
  | bl j=>cases ry;exact PySem.EqMixed.eq_str_bool (Cr I q (by simp))
  | int j=>obtain⟨t',rfl⟩:=ry;exact PySem.EqMixed.eq_str_int (Cr I q (by simp))
  | str j=>obtain⟨t',rfl⟩:=ry;exact eq_str (Cr I q Zk)
  | _=>exact absurd (show false=true from hs) Akd
 | byt i =>
  obtain⟨t,rfl⟩:=rx
  cases y with
  | byt j=>obtain⟨t',rfl⟩:=ry;exact PySem.W.eq_bytes (Cr I q Zm)
  | _=>exact absurd (show false=true from hs) Akd
 | _=>cases y <;> exact absurd (show false=true from hs) Akd
theorem Iz:OpR X (compareOp .NotEq) rNe:=by
 intro pins s σ H x y v u Q I rx ry h
 obtain⟨hs,q⟩:=h
 cases x with
 | non =>
  cases rx
  cases y with
  | non=>cases ry;exact PySem.EqNone.ne_none_none (Cr I q (by simp))
  | bl j=>cases ry;exact PySem.EqNone.ne_none_bool (Cr I q (by simp))
  | int j=>obtain⟨t',rfl⟩:=ry;exact PySem.EqNone.ne_none_int (Cr I q (by simp))
  | str j=>obtain⟨t',rfl⟩:=ry;exact PySem.EqNone.ne_none_str (Cr I q (by simp))
  | _=>exact absurd (show false=true from hs) Akd
 | bl i =>
  cases rx
  cases y with
  | non=>cases ry;exact PySem.EqNone.ne_bool_none (Cr I q (by simp))
  | bl j=>cases ry;exact ne_bool (Cr I q (congrArg not Abf))
  | str j=>obtain⟨t',rfl⟩:=ry;exact PySem.EqMixed.ne_bool_str (Cr I q (by simp))
  | _=>exact absurd (show false=true from hs) Akd
 | int i =>
  obtain⟨t,rfl⟩:=rx
  cases y with
  | non=>cases ry;exact PySem.EqNone.ne_int_none (Cr I q (by simp))
  | int j=>obtain⟨t',rfl⟩:=ry;exact ne_int (Cr I q (congrArg not Zj))
  | str j=>obtain⟨t',rfl⟩:=ry;exact PySem.EqMixed.ne_int_str (Cr I q (by simp))
  | _=>exact absurd (show false=true from hs) Akd
 | str i =>
  obtain⟨t,rfl⟩:=rx
  cases y with
  | non=>cases ry;exact PySem.EqNone.ne_str_none (Cr I q (by simp))
  | bl j=>cases ry;exact PySem.EqMixed.ne_str_bool (Cr I q (by simp))
  | int j=>obtain⟨t',rfl⟩:=ry;exact PySem.EqMixed.ne_str_int (Cr I q (by simp))
  | str j=>obtain⟨t',rfl⟩:=ry;exact ne_str (Cr I q (congrArg not Zk))
  | _=>exact absurd (show false=true from hs) Akd
 | byt i =>
  obtain⟨t,rfl⟩:=rx
  cases y with
  | byt j=>obtain⟨t',rfl⟩:=ry;exact PySem.W.ne_bytes (Cr I q (congrArg not Zm))
  | _=>exact absurd (show false=true from hs) Akd
 | _=>cases y <;> exact absurd (show false=true from hs) Akd
theorem Fj:OpR X (compareOp .Lt) (rI0 fun i j=>.bl (decide (i<j))):=AcN fun _ _ _ _ _ _ _ q=>lt_int q
theorem Agt:OpR X (compareOp .LtE) (rI0 fun i j=>.bl (decide (i≤j))):=AcN fun _ _ _ _ _ _ _ q=>le_int q
theorem Hq:OpR X (compareOp .Gt) (rI0 fun i j=>.bl (decide (j<i))):=AcN fun _ _ _ _ _ _ _ q=>gt_int q
theorem Ael:OpR X (compareOp .GtE) (rI0 fun i j=>.bl (decide (j≤i))):=AcN fun _ _ _ _ _ _ _ q=>ge_int q
theorem R9:OpR X (compareOp .Is) (fun x y H Q=>y=.non∧Q (.bl (decide (x=.non))) H):=by
 intro pins s σ H x y v u Q I rx ry h
 obtain⟨rfl,q⟩:=h
 cases ry
 refine is_none_gen (Cr I q ?_)
 cases x <;> first
  | (cases rx;rfl)
  | (obtain⟨t,rfl⟩:=rx;rfl)
theorem Rx:OpR X (compareOp .IsNot) (fun x y H Q=>y=.non∧Q (.bl (!decide (x=.non))) H):=by
 intro pins s σ H x y v u Q I rx ry h
 obtain⟨rfl,q⟩:=h
 cases ry
 refine isnot_none_gen (Cr I q ?_)
 cases x <;> first
  | (cases rx;rfl)
  | (obtain⟨t,rfl⟩:=rx;rfl)
theorem FN:OpR X (compareOp .NotIn) (fun x y H Q=>∃ i j,x=.str i∧y=.str j∧Q (.bl (!(!(Builtin.Str.occurrences j i 0 j.length 1).isEmpty))) H):=by
 intro pins s σ H x y v u Q I rx ry h
 obtain⟨i,j,rfl,rfl,q⟩:=h
 obtain⟨t,rfl⟩:=rx
 obtain⟨t',rfl⟩:=ry
 exact notIn_str (Cr I q rfl)
def isObj:HO→Bool
 | .lst _=>true
 | .ins _ _ _=>true
 | _=>false
theorem Ak(b:Expr){op:CmpOp}(h:op≠.In:=by decide)(h2:op≠.NotIn:=by decide):behindInMarks op b=false:=by
 have e1:(op == CmpOp.In)=false:=by cases op <;> first | rfl | exact absurd rfl h
 have e2:(op == CmpOp.NotIn)=false:=by cases op <;> first | rfl | exact absurd rfl h2
 cases b <;> simp[behindInMarks,e1,e2]
theorem Zn{op:CmpOp}{r:R2}(ho:OpR X (compareOp op) r)(ha:PE X a ta)(hb:PE X b tb)(hm:behindInMarks op b=false):PE X (.Compare a [op] [b] pos) (tOp r ta tb):=by
 intro pins s σ H Q I h
 exact wpAny_Compare1 (AeL ha hb I h fun v u s2 x y H2 I2 rx ry q=>ho pins s2 σ H2 x y v u Q I2 rx ry q) hm
def Aem (t:TE):TT:=fun σ H Q=>t σ H fun x H'=>∃ k,x=.bl k∧Q k H'
theorem Ag{op:CmpOp}{r:R2}(ho:OpR X (compareOp op) r)(ha:PE X a ta)(hb:PE X b tb)(hm:behindInMarks op b=false):PT X (.Compare a [op] [b] pos) (Aem (tOp r ta tb)):=by
 intro pins s σ H Q I h
 refine wpAny_isTrue_Compare1 (thn (ha pins s σ H _ I h) fun v s1 ⟨x,H1,I1,r1,q1⟩=>thn (hb pins s1 σ H1 _ I1 q1) fun u s2 ⟨y,H2,I2,r2,q2⟩ =>
  thn (ho pins s2 σ H2 x y v u _ I2 r1 r2 q2) fun c s3 ⟨z,H3,I3,r3,k,e,q3⟩=>?_) hm
 subst e
 cases r3
 exact wpAny_truthy_bool ⟨H3,I3,q3⟩
def AeO (r r':R2)(ta tb tc:TE):TE:=fun σ H Q=>ta σ H fun x H1=>tb σ H1 fun y H2=>r x y H2 fun z H3=>∃ k,z=.bl k ∧
 (if k=true then tc σ H3 fun w' H4=>r' y w' H4 Q else Q (.bl false) H3)
theorem Abg{op op':CmpOp}{r r':R2}(ho:OpR X (compareOp op) r)(ho':OpR X (compareOp op') r')(ha:PE X a ta)(hb:PE X b tb)(hc:PE X c tc)
  (hm:lastMarks [op,op'] [b,c]=false:=by with_unfolding_all rfl):PT X (.Compare a [op,op'] [b,c] pos) (Aem (AeO r r' ta tb tc)):=by
 intro pins s σ H Q I h
 refine isTrue_chain (thn (ha pins s σ H _ I h) fun v s1 ⟨x,H1,I1,r1,q1⟩=>test_link (thn (hb pins s1 σ H1 _ I1 q1) fun u s2 ⟨y,H2,I2,r2,q2⟩ =>
  thn (ho pins s2 σ H2 x y v u _ I2 r1 r2 q2) fun d s3 ⟨z,H3,I3,r3,k,e,q3⟩=>?_)) hm
 subst e
 cases r3
 refine wpAny_truthy_bool ?_
 cases k with
 | false =>
  obtain⟨k',e',q'⟩:=q3
  cases e'
  exact ite_ff ⟨H3,I3,q'⟩
 | true =>
  refine ite_tt (test_last (thn (hc pins s3 σ H3 _ I3 q3) fun w' s4 ⟨z',H4,I4,r4,q4⟩=>thn (ho' pins s4 σ H4 y z' u w' _ I4 r2 r4 q4) fun d' s5 ⟨z2,H5,I5,r5,k2,e2,q5⟩=>?_))
  subst e2
  cases r5
  exact wpAny_truthy_bool ⟨H5,I5,q5⟩
def AeP (K:PySem.W.Frag)(x:V)(H:Hp)(k:Bool):Prop :=
 match x with
 | .non=>k=false
 | .bl b=>k=b
 | .int i=>k=(i != 0)
 | .str y=>y.length≤sizeLine∧k=((y.length:Int) != 0)
 | .byt y=>y.size≤sizeLine∧k=((y.size:Int) != 0)
 | .ref p=>(∃ xs,SqL K H p xs∧k=!xs.isEmpty)∨(∃ xs,SqT K H p xs∧k=!xs.isEmpty)∨∃ kvs,H p=some (.dK kvs)∧k=!kvs.isEmpty
 | _=>False
theorem Yr{κ:Type}{kvs:List (κ × V)}{vs:List (κ × Value)}(r:KV kvs vs):(!vs.isEmpty)=!kvs.isEmpty:=by
 cases r <;> rfl
theorem RB{xs:List V}{its:List Value}(r:Vals xs its):(!its.toArray.isEmpty)=!xs.isEmpty:=by
 cases r <;> simp
theorem Ni:(sizeLine:Nat)<2 ^ 63:=by rw[sizeLine_eq];decide
theorem AeQ:AhR X (fun x H Q=>∃ k,AeP X.K x H k∧Q k H):=by
 intro pins s σ H x v Q I rx h
 obtain⟨k,e,q⟩:=h
 have hl:=Ni
 have hs:sizeLine=16777216:=sizeLine_eq
 cases x with
 | non =>
  cases rx
  have e':k=false:=e
  subst e'
  exact truthy_none ⟨H,I,q⟩
 | bl b =>
  cases rx
  have e':k=b:=e
  subst e'
  exact wpAny_truthy_bool ⟨H,I,q⟩
 | int i =>
  obtain⟨t,rfl⟩:=rx
  have e':k=(i != 0):=e
  subst e'
  exact PySem.P.truthy_int ⟨H,I,q⟩
 | str y =>
  obtain⟨t,rfl⟩:=rx
  obtain⟨hy,e'⟩:y.length≤sizeLine∧k=((y.length:Int) != 0):=e
  subst e'
  exact PySem.P.truthy_str (by omega) ⟨H,I.tok _,q⟩
 | byt y =>
  obtain⟨t,rfl⟩:=rx
  obtain⟨hy,e'⟩:y.size≤sizeLine∧k=((y.size:Int) != 0):=e
  subst e'
  exact PySem.W.truthy_bytes (by omega) ⟨H,I.tok _,q⟩
 | ref p =>
  cases rx
  have e':(∃ xs,SqL X.K H p xs∧k=!xs.isEmpty)∨(∃ xs,SqT X.K H p xs∧k=!xs.isEmpty)∨∃ kvs,H p=some (.dK kvs)∧k=!kvs.isEmpty:=e
  rcases e' with ⟨xs,hx,e'⟩ | ⟨xs,hx,e'⟩ | ⟨kvs,hx,e'⟩
  ·subst e'
   obtain⟨its,r,pl,hz⟩:=I.list hx
   have hlen:=r.length
   exact wpAny_truthy_list pl.isList (by simp only [AjZ];omega) ⟨H,I.tok _,by rw[RB r];exact q⟩
  ·subst e'
   obtain⟨its,r,pl,hz⟩:=I.tuple hx
   have hlen:=r.length
   exact truthy_tuple pl (by simp only [AjZ];omega) ⟨H,I.tok _,by rw[RB r];exact q⟩
  ·subst e'
   obtain⟨hz,hS,vs,r,m⟩:kvs.length≤sizeLine∧(p == sysModules)=false∧∃ vs,KV kvs vs∧s.heap.DictOf (Dq X.prog X.w) p vs:=I.hok p _ hx
   have hlen:kvs.length=vs.length:=Paired.length r
   exact wpAny_truthy_dict hS m (by omega) ⟨H,I.tok _,by rw[Yr r];exact q⟩
 | _=>exact(show False from e).elim
theorem Abh(ha:PE X a ta)(he:∀ whole,isTrue a X.env whole=(do let v ← whole;standAt a.pos;holding [v] (truthy v))) :
  PT X a (fun σ H Q=>ta σ H fun x H'=>∃ k,AeP X.K x H' k∧Q k H'):=by
 intro pins s σ H Q I h
 exact isTrue_plain (thn (ha pins s σ H _ I h) fun v s1 ⟨x,H1,I1,r1,q1⟩=>AeQ pins s1 σ H1 x v Q I1 r1 q1) (he _)
theorem Cg:OpR X (binaryOp .Add) (fun x y H Q=>∃ i j,x=.str i∧y=.str j∧i.length+j.length≤sizeLine∧Q (.str (i++j)) H):=by
 intro pins s σ H x y v u Q I rx ry h
 obtain⟨i,j,rfl,rfl,hz,q⟩:=h
 obtain⟨t,rfl⟩:=rx
 obtain⟨t',rfl⟩:=ry
 exact add_str (fun t' tk=>⟨.str (i++j),H,I.tok _,⟨_,rfl⟩,q⟩) hz
def Agu (b:Expr):Prop:=∀ o i,subscripted b false o i=operate [o,i] (getItem o i)
theorem vals1{x:V}{us:List Value}(r:Vals [x] us):∃ u,us=[u]∧RelV x u:=by
 cases r with
 | cons r1 r2=>cases r2;exact⟨_,rfl,r1⟩
theorem vals2{x y:V}{us:List Value}(r:Vals [x,y] us):∃ u w',us=[u,w']∧RelV x u∧RelV y w':=by
 cases r with
 | cons r1 r2 =>
  cases r2 with
  | cons r3 r4=>cases r4;exact⟨_,_,rfl,r1,r3⟩
theorem Aad(hc:X.calm=true):HY X (.builtin "max") (fun xs H Q=>∃ i j,xs=[.int i,.int j]∧Q (.int (if j>i then j else i)) H):=by
 intro pins s σ H xs us Q I r h
 obtain⟨i,j,rfl,q⟩:=h
 obtain⟨u,w',rfl,⟨t,rfl⟩,⟨t',rfl⟩⟩:=vals2 r
 refine max_two_ints (I.ok.hd hc) fun h' tk k=>⟨_,H,I.kept k,?_,q⟩
 by_cases hj:j>i
 ·rw[if_pos hj,if_pos hj];exact⟨_,rfl⟩
 ·rw[if_neg hj,if_neg hj];exact⟨_,rfl⟩
def Ajt (K:PySem.W.Frag)(x:V)(H:Hp)(n:Nat):Prop :=
 match x with
 | .str y=>y.length≤sizeLine∧n=y.length
 | .byt y=>y.size≤sizeLine∧n=y.size
 | .ref p=>(∃ xs,SqL K H p xs∧n=xs.length)∨∃ xs,SqT K H p xs∧n=xs.length
 | _=>False
end
open PySem PySem.Spec PyProof.Rows
structure Abi (h:Heap) (x dx C:Addr) (mA:Str→Option Value):Prop where
 obj:h.get? x=some (PySem.W.instObj C dx)
 ns:h.Ns1 dx mA
 ne:dx≠x
theorem Aae{h:Heap}{dx:Addr}{mA:Str→Option Value}(n:h.Ns1 dx mA):∃ od,h.get? dx=some od∧∀ name,PySem.W.lookIn name od=some (mA name):=by
 obtain⟨o,es,ep,ho,hd,hk,_,hm⟩:=n
 refine⟨o,ho,fun name=>?_⟩
 have e:=hm name
 unfold nsFind findBy at e
 rw[← Array.find?_toList] at e
 unfold PySem.W.lookIn
 rw[hd]
 dsimp only
 split
 ·rename_i y q
  rw[q] at e
  exact congrArg some e
 ·rename_i q
  rw[q] at e
  have a:es.toList.any (·.refKey)=false:=by
   rw[List.any_eq_false]
   intro y hy
   obtain⟨z,t,hkey⟩:=hk y (Array.mem_toList_iff.mp hy)
   simp[DictEntry.refKey,hkey]
  have a':¬es.toList.any (·.refKey)=true:=by rw[a];exact Akd
  rw[if_neg a']
  exact congrArg some e
theorem Abi.look{h:Heap}{x dx C:Addr}{mA:Str→Option Value}(I:Abi h x dx C mA):∃ od,PySem.W.InstAt h x (PySem.W.instObj C dx) C (some od)∧∀ name,PySem.W.lookIn name od=some (mA name) :=
 let ⟨od,ho,hl⟩:=Aae I.ns
 ⟨od,⟨I.obj,rfl,rfl,ho⟩,hl⟩
section
variable {prog:Program}{w:World}{A:Around}{E:Value→Shared→Prop}{s:Shared}{K:PySem.W.Frag}{x dx C f:Addr}{mA:Str→Option Value}{name:Str}{v:Value}
theorem AcO{ns:List Str}{Q:Unit→Shared→Prop}(X:K.In s.heap)(I:Abi s.heap x dx C mA)
  (hs:PySem.W.findIn K (.ref C) "__setattr__" = some (some (.builtin "object.__setattr__"))) (hp:PySem.W.plainOver K C=true) (ht:PySem.W.takerIn K C name=some none) (hh:PySem.W.hasDictIn K C=true)
  (hw:PySem.Within mA ns) (hsz:ns.length≤sizeLine)
  (h:∀ h',Abi h' x dx C (fun y=>if y=name then some v else mA y)→Heap.SameBut dx s.heap h'→Q () { s with heap:=h',toks:=s.toks+2 }) :
  wpAny (model prog w) A (setAttr (.ref x) name v) Q E s:=by
 obtain⟨od,J,hl⟩:=I.look
 refine PySem.W.set_plain X J hs (PySem.W.osa_open (s:={ s with toks:=s.toks+1 }) (r:=none) X J hp ht fun b=>?_)
 obtain⟨cd,hc,hd'⟩:=PySem.W.any_some hh
 have hx:s.heap.get? x=some ⟨.ref C,some dx,.plain,#[]⟩:=I.obj
 refine wpAny_bind (wpAny_pure (wpAny_bind (wpAny_bind (wpAny_loadPart hx (wpAny_bind (PySem.W.Looks.here (s:={ s with toks:=s.toks+1 }) (PySem.W.looks_clsIn X hc) ?_))))))
 rw[hd']
 refine wpAny_pure (a:=some dx) (wpAny_bind (wpAny_pure (wpAny_bind ?_)))
 refine wpAny_nsSet1 (s:={ s with toks:=s.toks+1 }) I.ns fun h' hn2 hs2=>?_
 obtain⟨oD,esD,epD,hoD,hdD,hcD⟩:=hn2.count (PySem.Within.cons name v hw)
 refine wpAny_bind (wpAny_lookBehind hoD (by rw[hdD];exact pastItsLine_dict (Akg hcD (by rw[Aks];omega))) ?_)
 exact wpAny_pure (h _ ⟨(hs2.2 _ (Ne.symm I.ne)).trans I.obj,hn2,I.ne⟩ hs2)
theorem Abj{R:Result→Shared→Prop}{vs:List Value}{kw:List (Str × Value)}(X:K.In s.heap)(hm:PySem.W.makesIn K C=true)
  (hi:PySem.W.findIn K (.ref C) "__init__" = some (some (.ref f))) (hf:PySem.W.typeIn K (.ref f)=some (.type "function"))
  (h:codeAny (model prog w) (A.under (.builtin "type.__call__" ⟨.ref C::vs,kw⟩)) (.call (.ref f) ⟨.ref (s.heap.objs.size+1)::vs,kw⟩) (PySem.W.InitBack (s.heap.objs.size+1) R)
   { s with heap:=(s.heap.push PySem.W.emptyDict).push (PySem.W.instObj C s.heap.objs.size) }) :
  codeAny (model prog w) A (.call (.ref C) ⟨vs,kw⟩) R s:=by
 obtain⟨hh,g,d,t,os⟩:=s
 exact PySem.W.make_core (PySem.W.makes_of X hm) (PySem.W.looks_findIn X hi) (fun self=>PySem.W.bind_fn X self hf) (.inl rfl) h
end
def JQ (f:Str)(v:V):List (Str × V)→List (Str × V)
 | []=>[(f,v)]
 | (g,x)::r=>if g=f then (g,v)::r else (g,x)::JQ f v r
theorem QJ(f g:Str)(v:V):∀ fs:List (Str × V),(JQ f v fs).lookup g=if g=f then some v else fs.lookup g
 | []=>by
  show List.lookup g [(f,v)]=_
  by_cases h:g=f
  ·have hb:(g == f)=true:=beq_iff_eq.mpr h
   simp only [List.lookup,hb,if_pos h]
  ·have hb:(g == f)=false:=beq_eq_false_iff_ne.mpr h
   simp only [List.lookup,hb,if_neg h]
 | (k,x)::r=>by
  have ih:=QJ f g v r
  rw[show JQ f v ((k,x)::r)=(if k=f then (k,v)::r else (k,x)::JQ f v r) from rfl]
  by_cases hk:k=f
  ·rw[if_pos hk]
   by_cases h:g=k
   ·have hb:(g == k)=true:=beq_iff_eq.mpr h
    simp only [List.lookup,hb,if_pos (h.trans hk)]
   ·have hb:(g == k)=false:=beq_eq_false_iff_ne.mpr h
    simp only [List.lookup,hb,if_neg (fun e:g=f=>h (e.trans hk.symm))]
  ·rw[if_neg hk]
   by_cases h:g=k
   ·have hb:(g == k)=true:=beq_iff_eq.mpr h
    simp only [List.lookup,hb,if_neg (fun e:g=f=>hk (h.symm.trans e))]
   ·have hb:(g == k)=false:=beq_eq_false_iff_ne.mpr h
    simp only [List.lookup,hb]
    exact ih
theorem Qh(f:Str)(v:V):∀ fs:List (Str × V),f∈(JQ f v fs).map (·.1)∧∀ g,g∈fs.map (·.1)→g∈(JQ f v fs).map (·.1)
 | []=>⟨by simp[JQ],fun g h=>by simp at h⟩
 | (k,x)::r=>by
  obtain⟨i1,i2⟩:=Qh f v r
  rw[show JQ f v ((k,x)::r)=(if k=f then (k,v)::r else (k,x)::JQ f v r) from rfl]
  by_cases hk:k=f
  ·rw[if_pos hk]
   subst hk
   exact⟨by simp,fun g h=>by simpa using h⟩
  ·rw[if_neg hk]
   refine⟨?_,fun g h=>?_⟩
   ·rw[AjX]
    exact Akk _ i1
   ·rw[AjX] at h ⊢
    rcases List.mem_cons.mp h with e | e
    ·exact List.mem_cons.mpr (.inl e)
    ·exact Akk _ (i2 g e)
theorem QK(f:Str)(v:V):∀ fs:List (Str × V),(JQ f v fs).length≤fs.length+1
 | []=>by simp[JQ]
 | (k,x)::r=>by
  have ih:=QK f v r
  rw[show JQ f v ((k,x)::r)=(if k=f then (k,v)::r else (k,x)::JQ f v r) from rfl]
  by_cases hk:k=f
  ·rw[if_pos hk,Aks,Aks];omega
  ·rw[if_neg hk,Aks,Aks];omega
theorem Oj.some_of{v:V}{o:Option Value}(r:Oj (some v) o):∃ u,o=some u∧RelV v u:=by
 cases o with
 | none=>exact(show False from r).elim
 | some u=>exact⟨u,rfl,r⟩
section
variable {P:Program}{w:World}{H H':Hp}{h h':Heap}{a C dx:Addr}{fs fs':List (Str × V)}
theorem AcP(hok:HOk P w H h)(e:H a=some (.ins C dx fs)):∃ mA,Abi h a dx C mA∧(∀ f,Oj (fs.lookup f) (mA f))∧PySem.Within mA (fs.map (·.1))∧fs.length≤1000∧H dx=some (.own a):=by
 obtain⟨d,z,ne,ob,mA,n,r,q⟩:=(show Et P w H h a (.ins C dx fs) from hok a _ e)
 exact⟨mA,⟨ob,n,ne⟩,r,q,z,d⟩
end
structure Cls (K:PySem.W.Frag) (C:Addr):Prop where
 pg:PySem.W.plainGet K C Str.empty=true
 hd:PySem.W.hasDictIn K C=true
 po:PySem.W.plainOver K C=true
 sa:PySem.W.findIn K (.ref C) "__setattr__" = some (some (.builtin "object.__setattr__"))
def Jj (K:PySem.W.Frag)(C:Addr)(f:Str):Prop:=PySem.W.findIn K (.ref C) f=some none
theorem Jj.taker{K:PySem.W.Frag}{C:Addr}{f:Str}(n:Jj K C f):PySem.W.takerIn K C f=some none:=by
 unfold PySem.W.takerIn
 rw[show PySem.W.findIn K (.ref C) f=some none from n]
 rfl
structure Con (K:PySem.W.Frag) (C:Addr) (f:Str) (v:V) (u:Value):Prop where
 at_:PySem.W.findIn K (.ref C) f=some (some u)
 rel:RelV v u
 get:PySem.W.specialIn K u "__get__" = some none
 cp:PySem.W.copiedNames.contains f=false
structure Meth (K:PySem.W.Frag) (C:Addr) (m:Str) (f:Addr):Prop where
 at_:PySem.W.findIn K (.ref C) m=some (some (.ref f))
 fn:PySem.W.isFn K (.ref f)=true
 kp:PySem.W.keepIn K (.ref f)=true
section
variable {X:Cx}{pins:List (Addr × Obj)}{σ:St}{H:Hp}{s:Shared}{a C dx:Addr}{fs:List (Str × V)}{f:Str}{v:V}{A:Around}{E:Value→Shared→Prop}
theorem Ys{y:V}{u:Value}{Q:Unit→Shared→Prop}(I:Inv X pins σ H s)(e:H a=some (.ins C dx fs))(c:Cls X.K C)(n:Jj X.K C f)(hl:fs.length<1000)(ry:RelV y u)
  (h:∀ s',Inv X pins σ (upd H a (.ins C dx (JQ f y fs))) s'→Q () s'):wpAny (model X.prog X.w) A (setAttr (.ref a) f u) Q E s:=by
 obtain⟨mA,O,r,wi,_,ho⟩:=AcP I.hok e
 have hz:(fs.map (·.1)).length≤sizeLine:=by rw[AjP,sizeLine_eq];omega
 refine AcO I.kIn O c.sa c.po n.taker c.hd wi hz fun h' O' sb=>h _ ?_
 have hd:∃ o,h'.get? dx=some o:=let ⟨o,_,_,e',_⟩:=O'.ns;⟨o,e'⟩
 refine I.write (x:=a) (e:=dx) (by rw[e];exact True.intro) (.inr ho) (fun b q hb z=>(sb.2 b hb).trans z) hd ?_
 refine⟨by rw[Aq O.ne];exact ho,?_,O.ne,O'.obj,_,O'.ns,fun g=>?_,fun g hg=>?_⟩
 ·have:=QK f y fs;omega
 ·show Oj ((JQ f y fs).lookup g) (if g=f then some u else mA g)
  rw[QJ]
  by_cases q:g=f
  ·rw[if_pos q,if_pos q];exact ry
  ·rw[if_neg q,if_neg q];exact r g
 ·by_cases q:g=f
  ·rw[q];exact(Qh f y fs).1
  ·refine(Qh f y fs).2 g (wi g fun z=>hg ?_)
   show(if g=f then some u else mA g)=none
   rw[if_neg q];exact z
theorem Inv.made(I:Inv X pins σ H s):Inv X pins σ (upd (upd H s.heap.objs.size (.own (s.heap.objs.size+1))) (s.heap.objs.size+1) (.ins C s.heap.objs.size []))
  { s with heap:=(s.heap.push PySem.W.emptyDict).push (PySem.W.instObj C s.heap.objs.size) }:=by
 have e1:(s.heap.push PySem.W.emptyDict).get? s.heap.objs.size=some PySem.W.emptyDict:=Heap.get?_push_size s.heap rfl
 have e2:((s.heap.push PySem.W.emptyDict).push (PySem.W.instObj C s.heap.objs.size)).get? (s.heap.objs.size+1)=some (PySem.W.instObj C s.heap.objs.size):=by
  have:=Heap.get?_push_size (s.heap.push PySem.W.emptyDict) (o:=PySem.W.instObj C s.heap.objs.size) rfl
  rwa [Heap.size_push] at this
 have e3:(s.heap.push PySem.W.emptyDict).Ns s.heap.objs.size (fun _=>none):=⟨PySem.W.emptyDict,#[],_,e1,rfl,(fun e he=>absurd he (by simp)),fun _=>rfl⟩
 have I1:=I.laid (a:=s.heap.objs.size) (o:=.own (s.heap.objs.size+1)) (h':=s.heap.push PySem.W.emptyDict) (t':=s.toks) (fun b u q=>Heap.get?_push_of_some _ q) (AjQ _) ⟨_,e1⟩
 refine I1.laid (a:=s.heap.objs.size+1) (o:=.ins C s.heap.objs.size []) (t':=s.toks) (fun b u q=>Heap.get?_push_of_some _ q) (AkC (Heap.size_push _ _)) ?_
 have ne:s.heap.objs.size≠s.heap.objs.size+1:=AjS (Akx _)
 refine⟨by rw[Aq ne,Af],Akb _,ne,e2,fun _=>none,(Heap.Ns1.of_empty e3).at fun o q=>Heap.get?_push_of_some _ q,fun _=>True.intro,fun y hy=>absurd rfl hy⟩
end
def Aju (K:PySem.W.Frag)(ta:TE)(f:Str):TE:=fun σ H Q=>ta σ H fun x H1=>∃ a C dx fs v,x=.ref a∧H1 a=some (.ins C dx fs)∧Cls K C∧Jj K C f∧fs.lookup f=some v∧Q v H1
def Ajv (K:PySem.W.Frag)(ta:TE)(f:Str):TE:=fun σ H Q=>ta σ H fun x H1=>∃ a C dx fs v u,x=.ref a∧H1 a=some (.ins C dx fs)∧Cls K C∧Con K C f v u∧fs.lookup f=none∧Q v H1
def Agv (K:PySem.W.Frag)(ta tv:TE)(f:Str):TS:=fun D σ H=>tv σ H fun y H1=>ta σ H1 fun x H2=>∃ a C dx fs,x=.ref a∧H2 a=some (.ins C dx fs)∧Cls K C∧Jj K C f∧fs.length<1000 ∧
 D.nx σ (upd H2 a (.ins C dx (JQ f y fs)))
def Ajw (X:Cx)(op:Operator)(rd:V→V→Hp→VK→Prop):Prop :=
 ∀(pins:List (Addr × Obj)) (s:Shared) (σ:St) (H:Hp) (x y:V) (u v:Value) (Q:VK),Inv X pins σ H s→RelV x u→RelV y v→rd x y H Q→wpAny (model X.prog X.w) X.A (inplaceOp op u v) (EP X pins σ Q) X.xe s
def Ah5 (K:PySem.W.Frag)(ta tv:TE)(rd:V→V→Hp→VK→Prop)(f:Str):TS:=fun D σ H=>ta σ H fun x H1=>∃ a C dx fs v,x=.ref a∧H1 a=some (.ins C dx fs)∧Cls K C∧Jj K C f∧fs.lookup f=some v ∧
 tv σ H1 fun y H2=>rd v y H2 fun z H3=>∃ dx' fs',H3 a=some (.ins C dx' fs')∧fs'.length<1000∧D.nx σ (upd H3 a (.ins C dx' (JQ f z fs')))
section
variable {X:Cx}{o e value:Expr}{f:Str}{pos pos' tpos:Pos}{ta tv:TE}
theorem AeR(ha:PE X o ta)(hv:PE X value tv)(hs:swapsWith value (some (.Attribute o f pos')) pos.line X.env=pure false):PS X (.Assign [.Attribute o f pos'] value pos) (Agv X.K ta tv f):=by
 intro pins s σ H D I h
 refine plainObj_wpAny_Assign_Attribute (thn (hv pins s σ H _ I h) fun u s1 ⟨y,H1,I1,ry,q⟩=>thn (ha pins s1 σ H1 _ I1 q) fun ov s2 ⟨x,H2,I2,rx,a,C,dx,fs,ex,ea,c,n,l,q2⟩=>?_) hs
 subst ex
 obtain rfl:ov=Value.ref a:=rx
 exact Ys I2 ea c n l ry fun s3 I3=>⟨σ,_,I3,q2⟩
def Ajx:V→V→Hp→VK→Prop:=fun x y H Q=>∃ i j,x=.int i∧y=.int j∧Q (.int (i+j)) H
def Ajy:V→V→Hp→VK→Prop:=fun x y H Q=>∃ i j,x=.int i∧y=.int j∧Q (.int (i-j)) H
end
section
variable {X:Cx}{pins:List (Addr × Obj)}{σ:St}{H:Hp}{s:Shared}{A:Around}{E:Value→Shared→Prop}{Q:Value→Shared→Prop}{c:Value}{b:Bool}
inductive Rq (K:PySem.W.Frag) (H:Hp):V→Value→Prop where
 | non:Rq K H .non (.type "NoneType")
 | bl (x:Bool):Rq K H (.bl x) (.type "bool")
 | int (i:Int):Rq K H (.int i) (.type "int")
 | str (x:Str):Rq K H (.str x) (.type "str")
 | flt (x:UInt64):Rq K H (.flt x) (.type "float")
 | lst {a:Addr} {xs:List V} (e:H a=some (.lst xs)):Rq K H (.ref a) (.type "list")
 | frz {a:Addr} {o:Obj} {xs:List V} (e:H a=some (.frz o (.lst xs))):Rq K H (.ref a) (.type "list")
 | tup {a:Addr} {xs:List V} (e:H a=some (.tup xs)):Rq K H (.ref a) (.type "tuple")
 | dK {a:Addr} {kvs:List (Key × V)} (e:H a=some (.dK kvs)):Rq K H (.ref a) (.type "dict")
 | dT {a:Addr} {kvs:List (List Key × V)} (e:H a=some (.dT kvs)):Rq K H (.ref a) (.type "dict")
 | ins {a C dx:Addr} {fs:List (Str × V)} (e:H a=some (.ins C dx fs)) (cl:Cls K C) (ha:PySem.W.findIn K (.ref C) "__class__" = some (some (.builtin "object.__class__")))
   (hn:PySem.W.specialIn K (.builtin "object.__class__") "__get__" = some (some (.builtin "getset_descriptor.__get__"))) (htk:PySem.W.takesIn K (.builtin "object.__class__")=some true)
   (hm:PySem.W.mroIn K C (.type "object")=some true):Rq K H (.ref a) (.ref C)
end
open PySem PySem.Spec PyProof.Rows
structure GD (k:Nat) (A:Around):Prop where
 hd:A.handled=none
 dp:A.depth+3*k+5<recursionLimit
 un:A.units+16*k+200<cLine
theorem GD.mono{j k:Nat}{A:Around}(r:GD k A)(h:j≤k):GD j A:=⟨r.hd,by have:=r.dp;omega,by have:=r.un;omega⟩
theorem GD.deeper{k:Nat}{A:Around}(r:GD (k+1) A)(env:Env):GD k (A.deeper env) :=
 ⟨r.hd,by have:=r.dp;show A.depth+1+3*k+5<_;omega,by have:=r.un;show A.units+3+16*k+200<_;omega⟩
theorem Yt{A:Around}{C:Addr}{us:List Value}{kw:List (Str × Value)}:(A.under (.builtin "type.__call__" ⟨.ref C::us,kw⟩)).depth=A.depth+1:=by
 first | rfl | simp[Around.under,Code.weight,Code.isCreation,Code.isGuard,Code.isCaller,Code.frames,Code.isFrame,guardIds]
theorem Yu{A:Around}{C:Addr}{us:List Value}{kw:List (Str × Value)}:(A.under (.builtin "type.__call__" ⟨.ref C::us,kw⟩)).units=A.units+1:=by
 first | rfl | simp[Around.under,Code.cUnits,Code.frames,Code.isFrame]
theorem GD.make{k:Nat}{A:Around}(r:GD (k+1) A)(C:Addr)(us:List Value)(kw:List (Str × Value)):GD k (A.under (.builtin "type.__call__" ⟨.ref C::us,kw⟩)) :=
 ⟨r.hd,by have:=r.dp;rw[Yt];omega,by have:=r.un;rw[Yu];omega⟩
theorem GD.depth{k:Nat}{A:Around}(r:GD k A):A.depth<recursionLimit:=by have:=r.dp;omega
theorem GD.units{k:Nat}{A:Around}(r:GD k A):A.units+64<cLine:=by have:=r.un;omega
def AhT:TA:=fun _ H Q=>Q [] H
def Agw (ta:TE)(tr:TA):TA:=fun σ H Q=>ta σ H fun x H1=>tr σ H1 fun xs H2=>Q (x::xs) H2
section
variable {X:Cx}{e:Expr}{es:List Expr}{te:TE}{t:TA}{pos:Pos}
theorem Ac:PA X [] AhT:=fun _ _ _ _ H Q I h=>Calls.spliced_nil ⟨[],H,I,.nil,h⟩
theorem Aa(ha:PE X e te)(hr:PA X es t)(hs:starEach (e::es) X.env=(false,eval e X.env)::starEach es X.env:=by rfl):PA X (e::es) (Agw te t):=by
 intro pos pins s σ H Q I h
 rw[hs]
 show wpAny _ _ (spliced ((false,eval e X.env)::backTo pos (starEach es X.env))) _ _ s
 refine Calls.spliced_cons (thn (ha pins s σ H _ I h) fun u s1 ⟨x,H1,I1,r1,q1⟩=>?_)
 exact thn (hr pos pins s1 σ H1 _ I1 q1) fun us s2 ⟨xs,H2,I2,r2,q2⟩=>⟨x::xs,H2,I2,.cons r1 r2,q2⟩
def AhU (t:TA):TE:=fun σ H Q=>t σ H fun xs H1=>xs.length≤sizeLine∧∀ p,H1 p=none→Q (.ref p) (upd H1 p (.tup xs))
def AhV (t:TA):TE:=fun σ H Q=>t σ H fun xs H1=>xs.length≤sizeLine∧∀ p,H1 p=none→Q (.ref p) (upd H1 p (.lst xs))
theorem Eh{x1}(h:PA X es t):PE X (.Tuple es x1 pos) (AhU t):=by
 intro pins s σ H Q I hq
 refine wpAny_Tuple_spliced (thn (h pos pins s σ H _ I hq) fun us s1 ⟨xs,H1,I1,r,z,q⟩=>⟨by rw[← r.length];exact z,?_⟩)
 have hf:H1 s1.heap.objs.size=none:=I1.hok.fresh (AjQ _)
 refine⟨.ref s1.heap.objs.size,upd H1 s1.heap.objs.size (.tup xs),I1.laid (t':=s1.toks) (fun b u e=>Heap.get?_push_of_some _ e) (AjQ _) ?_,rfl,q _ hf⟩
 exact⟨z,us,r,⟨_,Heap.get?_push_size _ rfl,rfl,_,rfl⟩⟩
theorem Fl(h:PA X es t):PE X (.List es pos) (AhV t):=by
 intro pins s σ H Q I hq
 refine wpAny_List_spliced (thn (h pos pins s σ H _ I hq) fun us s1 ⟨xs,H1,I1,r,z,q⟩=>⟨by rw[← r.length];exact z,?_⟩)
 have hf:H1 s1.heap.objs.size=none:=I1.hok.fresh (AjQ _)
 refine⟨.ref s1.heap.objs.size,upd H1 s1.heap.objs.size (.lst xs),I1.laid (t':=s1.toks) (fun b u e=>Heap.get?_push_of_some _ e) (AjQ _) ?_,rfl,q _ hf⟩
 exact⟨z,us,0,r,Heap.get?_push_size _ rfl⟩
end
abbrev Sp:=List V→Hp→VK→XK→Prop
abbrev CXT:=List Env→Hp→Shared→XK→Value→Shared→Prop
structure Yv (P:Program) (w:World) (K:PySem.W.Frag) (mg:Str→Option Value) (base:Heap) (A:Around) (outer:List Env) (s:Shared) (H:Hp):Prop where
 frames:A.frames=some outer
 mod:Mod K mg base
 bs:∀ b o,base.get? b=some o→s.heap.get? b=some o∧H b=none
 bsz:base.objs.size≤s.heap.objs.size
 Mu:s.heap.FunFrames base outer
 frf:∀ b∈frs outer,H b=none
 hok:HOk P w H s.heap
 bare:AllBare s.gens
def CE (outer:List Env)(P:Program)(w:World)(H:Hp)(s:Shared)(Q:VK)(u:Value)(s':Shared):Prop :=
 ∃ v H',s'.os=s.os∧AllBare s'.gens∧Un (frs outer) [] H H' s.heap s'.heap∧HOk P w H' s'.heap∧RelV v u∧Q v H'
def CR (CX:CXT)(outer:List Env)(P:Program)(w:World)(H:Hp)(s:Shared)(Q:VK)(E:XK)(r:Result)(s':Shared):Prop :=
 match r with
 | .ok (.ret u)=>CE outer P w H s Q u s'
 | .ok _=>False
 | .error e=>CX outer H s E e s'
structure BK (P:Program) (w:World) (K:PySem.W.Frag) (mg:Str→Option Value) (base:Heap) (CX:CXT) (k:Nat) (f:Addr) (fd:FuncData) (ps:List Str) (sp:Sp):Prop where
 len:∀ vs H Q E,sp vs H Q E→vs.length=ps.length
 run:∀(A:Around) (outer:List Env) (s:Shared) (H:Hp) (args:Args) (us:List Value) (vs:List V) (Q:VK) (E:XK),GD k A→Yv P w K mg base A outer s H→BindsTo s fd args (ps.zip us)→Vals vs us→sp vs H Q E →
  codeAny (model P w) A (.call (.ref f) args) (CR CX outer P w H s Q E) s
theorem BK.mono{P:Program}{w:World}{K:PySem.W.Frag}{mg:Str→Option Value}{base:Heap}{CX:CXT}{j k:Nat}{f:Addr}{fd:FuncData}{ps:List Str}{sp:Sp}(F:BK P w K mg base CX j f fd ps sp)(h:j≤k) :
  BK P w K mg base CX k f fd ps sp:=⟨F.len,fun A outer s H args us vs Q E hr=>F.run A outer s H args us vs Q E (hr.mono h)⟩
theorem BK.imp{P:Program}{w:World}{K:PySem.W.Frag}{mg:Str→Option Value}{base:Heap}{CX:CXT}{k:Nat}{f:Addr}{fd:FuncData}{ps:List Str}{sp sp':Sp}(F:BK P w K mg base CX k f fd ps sp)
  (h:∀ vs H Q E,sp' vs H Q E→sp vs H Q E):BK P w K mg base CX k f fd ps sp' :=
 ⟨fun vs H Q E q=>F.len vs H Q E (h _ _ _ _ q),fun A outer s H args us vs Q E hr he hb hv hs=>F.run A outer s H args us vs Q E hr he hb hv (h _ _ _ _ hs)⟩
theorem Yv.make{P:Program}{w:World}{K:PySem.W.Frag}{mg:Str→Option Value}{base:Heap}{A:Around}{outer:List Env}{s:Shared}{H:Hp}(e:Yv P w K mg base A outer s H)(C:Addr)(us:List Value)(kw:List (Str × Value)) :
  Yv P w K mg base (A.under (.builtin "type.__call__" ⟨.ref C::us,kw⟩)) outer s H:=⟨by first | exact e.frames | (simpa [Around.under,Code.envs,Code.isFrame,pushEnvs] using e.frames),e.mod,e.bs,e.bsz,e.Mu,e.frf,e.hok,e.bare⟩
section
variable {X:Cx}{pins:List (Addr × Obj)}{σ:St}{H:Hp}{s s':Shared}
theorem Inv.env0(I:Inv X pins σ H s):Yv X.prog X.w X.K X.mg X.base X.A X.stack s H :=
 ⟨I.ok.frames,I.ok.mod,I.bs,Akg I.ok.bsz I.sz,I.stack,I.Rw,I.hok,I.bare⟩
theorem Inv.after{Q:VK}{u:Value}(I:Inv X pins σ H s)(h:CE X.stack X.prog X.w H s Q u s'):EP X pins σ Q u s':=by
 obtain⟨v,H',os,bare,un,hok,r,q⟩:=h
 obtain⟨hh,g,d,t,os'⟩:=s'
 obtain rfl:os'=s.os:=os
 exact⟨v,H',I.call (h':=hh) (g':=g) (d':=d) (t':=t) (ch:=[]) un hok bare (fun b z=>absurd z (by simp)),r,q⟩
end
def Aen (sp:Sp)(dvs:List V)(E:XK)(t:TA):TE:=fun σ H Q=>t σ H fun vs H1=>sp (vs++dvs) H1 Q E
def AiU (C:Addr)(m:Str)(sp:Sp)(dvs:List V)(E:XK)(ta:TE)(t:TA):TE:=fun σ H Q=>ta σ H fun x H1=>∃ a dx fs,x=.ref a∧H1 a=some (.ins C dx fs)∧fs.lookup m=none ∧
 t σ H1 fun vs H2=>sp (x::(vs++dvs)) H2 Q E
def Agx (C:Addr)(sp:Sp)(dvs:List V)(E:XK)(t:TA):TE:=fun σ H Q=>t σ H fun vs H1=>∀ x dx,H1 x=none→H1 dx=none→dx≠x →
 sp (.ref x::(vs++dvs)) (upd (upd H1 dx (.own x)) x (.ins C dx [])) (fun v H2=>v=.non∧Q (.ref x) H2) E
def Binds(K:PySem.W.Frag)(fd:FuncData)(ps:List Str)(ds:List Value):Prop :=
 ∀(s:Shared) (us:List Value),K.In s.heap→(us++ds).length=ps.length→BindsTo s fd ⟨us,[]⟩ (ps.zip (us++ds))
theorem Binds.all{K:PySem.W.Frag}{fd:FuncData}{ps:List Str}(h:∀ us:List Value,us.length=ps.length→bindArgs fd ⟨us,[]⟩=pure (ps.zip us)):Binds K fd ps []:=fun s us _ hl=>by
 rw[AkR] at hl ⊢
 exact .of_eq (h us hl)
def Passes(CX:CXT)(X:Cx)(E:XK):Prop:=∀(pins:List (Addr × Obj)) (σ:St) (H:Hp) (s:Shared) (e:Value) (s':Shared),Inv X pins σ H s→CX X.stack H s E e s'→X.xe e s'
section
variable {X:Cx}{CX:CXT}{k:Nat}{f C:Addr}{fd:FuncData}{ps:List Str}{sp:Sp}{dvs:List V}{ds:List Value}{E:XK}{x m:Str}{p pos apos:Pos}{e o:Expr}{es:List Expr}{ta:TE}{t:TA}
theorem Abk{pins:List (Addr × Obj)}{σ:St}{H:Hp}{s:Shared}{Q:VK}{us:List Value}{vs:List V}(F:BK X.prog X.w X.K X.mg X.base CX k f fd ps sp)(hr:GD k X.A)(hb:Binds X.K fd ps ds)(hd:Vals dvs ds)(hx:Passes CX X E)
  (I:Inv X pins σ H s) (r:Vals vs us) (h:sp (vs++dvs) H Q E):wpAny (model X.prog X.w) X.A (call (.ref f) us) (EP X pins σ Q) X.xe s:=by
 have r2:Vals (vs++dvs) (us++ds):=r.append hd
 have hl:(us++ds).length=ps.length:=by rw[← r2.length];exact F.len _ _ _ _ h
 refine wpAny_call (codeAny_mono (F.run X.A X.stack s H ⟨us,[]⟩ (us++ds) (vs++dvs) Q E hr I.env0 (hb s us I.kIn hl) r2 h) fun r s' hq=>?_)
 cases r with
 | error e=>exact hx pins σ H s e s' I hq
 | ok fl =>
  cases fl with
  | ret u=>exact I.after hq
  | next=>exact False.elim hq
  | brk=>exact False.elim hq
  | cont=>exact False.elim hq
theorem An(F:BK X.prog X.w X.K X.mg X.base CX k f fd ps sp)(hr:GD k X.A)(hg:Gl X x)(hm:X.mg x=some (.ref f))(hk:PySem.W.keepIn X.K (.ref f)=true)(hb:Binds X.K fd ps ds)(hd:Vals dvs ds)(hx:Passes CX X E)
  (ha:PA X (e::es) t) (hdb:(x == ("__debug__" : Str))=false:=by decide) (he:starEach (e::es) X.env=(false,eval e X.env)::starEach es X.env:=by rfl) (hpl:(backTo pos (starEach es X.env)).any (·.1)=false:=by rfl) :
  PE X (.Call (.Name x p) (e::es) [] pos) (Aen sp dvs E t):=by
 intro pins s σ H Q I h
 refine wpAny_Call_Name_kw (Lz I hg hm ?_ hdb)
 refine PySem.W.callWith_K (h₀:=X.base) I.ok.mod.kin hk (thn (ha pos pins s σ H _ I h) fun us s1 ⟨vs,H1,I1,r,q⟩=>⟨I1.kIn,?_⟩) he hpl
 exact Abk F hr hb hd hx I1 r q
structure Mk (K:PySem.W.Frag) (C f:Addr):Prop where
 makes:PySem.W.makesIn K C=true
 init:PySem.W.findIn K (.ref C) "__init__" = some (some (.ref f))
 fn:PySem.W.isFn K (.ref f)=true
 kp:PySem.W.keepIn K (.ref C)=true
theorem Abl{pins:List (Addr × Obj)}{σ:St}{H:Hp}{s:Shared}{Q:VK}{us:List Value}{vs:List V}(M:Mk X.K C f)(F:BK X.prog X.w X.K X.mg X.base CX k f fd ps sp)(hr:GD (k+1) X.A)(hb:Binds X.K fd ps ds)(hd:Vals dvs ds)
  (hx:Passes CX X E) (I:Inv X pins σ H s) (r:Vals vs us)
  (h:∀ x dx,H x=none→H dx=none→dx≠x→sp (.ref x::(vs++dvs)) (upd (upd H dx (.own x)) x (.ins C dx [])) (fun v H2=>v=.non∧Q (.ref x) H2) E) :
  wpAny (model X.prog X.w) X.A (call (.ref C) us) (EP X pins σ Q) X.xe s:=by
 have hq:=h (s.heap.objs.size+1) s.heap.objs.size (I.hok.fresh (Ak0 _)) (I.hok.fresh (AjQ _)) (AjS (Akx _))
 have I2:=Inv.made (C:=C) I
 have r2:Vals (V.ref (s.heap.objs.size+1)::(vs++dvs)) (Value.ref (s.heap.objs.size+1)::(us++ds)):=.cons rfl (r.append hd)
 have hl:(Value.ref (s.heap.objs.size+1)::us++ds).length=ps.length:=by
  have e:=r2.length
  rw[F.len _ _ _ _ hq] at e
  exact e.symm
 refine wpAny_call (Abj (f:=f) I.kIn M.makes M.init (beq_iff_eq.mp M.fn) (codeAny_mono (F.run _ X.stack _ _ ⟨Value.ref (s.heap.objs.size+1)::us,[]⟩ (Value.ref (s.heap.objs.size+1)::(us++ds)) _ _ E (hr.make C us [])
  (I2.env0.make C us []) (hb _ (Value.ref (s.heap.objs.size+1)::us) I2.kIn hl) r2 hq) fun r s' hq'=>?_))
 cases r with
 | error e=>exact hx pins σ _ _ e s' I2 hq'
 | ok fl =>
  cases fl with
  | ret u =>
   obtain⟨v,H',I3,rv,ev,q3⟩:=I2.after hq'
   subst ev
   exact⟨rv,⟨V.ref (s.heap.objs.size+1),H',I3,rfl,q3⟩⟩
  | next=>exact False.elim hq'
  | brk=>exact False.elim hq'
  | cont=>exact False.elim hq'
theorem AcQ(M:Mk X.K C f)(F:BK X.prog X.w X.K X.mg X.base CX k f fd ps sp)(hr:GD (k+1) X.A)(hg:Gl X x)(hm:X.mg x=some (.ref C))(hb:Binds X.K fd ps ds)(hd:Vals dvs ds)(hx:Passes CX X E)
  (ha:PA X (e::es) t) (hdb:(x == ("__debug__" : Str))=false:=by decide) (he:starEach (e::es) X.env=(false,eval e X.env)::starEach es X.env:=by rfl) (hpl:(backTo pos (starEach es X.env)).any (·.1)=false:=by rfl) :
  PE X (.Call (.Name x p) (e::es) [] pos) (Agx C sp dvs E t):=by
 intro pins s σ H Q I h
 refine wpAny_Call_Name_kw (Lz I hg hm ?_ hdb)
 refine PySem.W.callWith_K (h₀:=X.base) I.ok.mod.kin M.kp (thn (ha pos pins s σ H _ I h) fun us s1 ⟨vs,H1,I1,r,q⟩=>⟨I1.kIn,?_⟩) he hpl
 exact Abl M F hr hb hd hx I1 r q
end
def PK (X:Cx)(kws:List Keyword)(t:TA):Prop :=
 ∀(pos:Pos) (pins:List (Addr × Obj)) (s:Shared) (σ:St) (H:Hp) (Q:List V→Hp→Prop),Inv X pins σ H s→t σ H Q→wpAny (model X.prog X.w) X.A (evalAll ((backToKw pos (keywordEach kws X.env)).map (·.2))) (AP X pins σ Q) X.xe s
section
variable {X:Cx}{CX:CXT}{k:Nat}{f C:Addr}{fd:FuncData}{ps ks:List Str}{sp:Sp}{E:XK}{x m:Str}{p pos apos Ajz:Pos}{e o:Expr}{es:List Expr}{kws:List Keyword}{te ta:TE}{t tk:TA}{nm:Option Str}
structure AhW (K:PySem.W.Frag) (fd:FuncData) (ps ks:List Str) (g:List Value→List Value→List Value) (gV:List V→List V→List V):Prop where
 to:∀(s:Shared) (us ws:List Value),K.In s.heap→(g us ws).length=ps.length→BindsTo s fd ⟨us,ks.zip ws⟩ (ps.zip (g us ws))
 rel:∀{vs:List V} {us:List Value} {zs:List V} {ws:List Value},Vals vs us→Vals zs ws→Vals (gV vs zs) (g us ws)
def AhX (sp:Sp)(gV:List V→List V→List V)(E:XK)(t tk:TA):TE:=fun σ H Q=>t σ H fun vs H1=>tk σ H1 fun zs H2=>sp (gV vs zs) H2 Q E
variable {g:List Value→List Value→List Value}{gV:List V→List V→List V}
end
structure Bj (N P:List Str) (sc:Scope):Prop where
 kind:sc.kind=.function
 co:sc.isCoroutine=false
 gen:sc.isGenerator=false
 nd:N.Nodup
 pre:N.take P.length=P
 par:∀ x∈P,sc.names.lookup x=some .local∨sc.names.lookup x=some .cell
 AeS:∀ y∈sc.names,y.2≠.free
theorem Ut{kindOf:Str→Option NameKind}{x:Str}:∀{binds:List (Str × Value)} {m:Str→Option Value},(∀ v,(x,v)∉binds)→bindL kindOf binds m x=m x
 | [],_,_=>rfl
 | (n,v)::r,m,h=>by
  unfold bindL
  rw[Ut fun w hw=>h w (Akk _ hw)]
  split
  ·have:x≠n:=by rintro rfl;exact h v Ake
   simp[this]
  ·rfl
theorem Uu{kindOf:Str→Option NameKind}{x:Str}:∀{binds:List (Str × Value)} {m:Str→Option Value},(∀ v,(x,v)∉binds)→bindC kindOf binds m x=m x
 | [],_,_=>rfl
 | (n,v)::r,m,h=>by
  unfold bindC
  rw[Uu fun w hw=>h w (Akk _ hw)]
  split
  ·rfl
  ·have:x≠n:=by rintro rfl;exact h v Ake
   simp[this]
theorem Uv{kindOf:Str→Option NameKind}{x:Str}{v:Value}:∀{P:List Str} {vs:List Value} {i:Nat} {m:Str→Option Value},P.Nodup→P[i]?=some x→vs[i]?=some v→kindOf x=some .local →
  bindL kindOf (P.zip vs) m x=some v
 | [],_,_,_,_,h,_,_=>by simp at h
 | _::_,[],_,_,_,_,h,_=>by simp at h
 | p::P,w::vs,0,m,nd,h1,h2,hk=>by
  simp at h1 h2;subst h1;subst h2
  show bindL kindOf ((p,w)::P.zip vs) m p=_
  unfold bindL
  rw[Ut fun v hv=>(List.nodup_cons.mp nd).1 (List.of_mem_zip hv).1,if_pos hk]
  simp
 | p::P,w::vs,i+1,m,nd,h1,h2,hk=>by
  show bindL kindOf ((p,w)::P.zip vs) m x=_
  unfold bindL
  exact Uv (i:=i) (List.nodup_cons.mp nd).2 (by simpa using h1) (by simpa using h2) hk
theorem Uw{kindOf:Str→Option NameKind}{x:Str}{v:Value}:∀{P:List Str} {vs:List Value} {i:Nat} {m:Str→Option Value},P.Nodup→P[i]?=some x→vs[i]?=some v→kindOf x≠some .local →
  bindC kindOf (P.zip vs) m x=some v
 | [],_,_,_,_,h,_,_=>by simp at h
 | _::_,[],_,_,_,_,h,_=>by simp at h
 | p::P,w::vs,0,m,nd,h1,h2,hk=>by
  simp at h1 h2;subst h1;subst h2
  show bindC kindOf ((p,w)::P.zip vs) m p=_
  unfold bindC
  rw[Uu fun v hv=>(List.nodup_cons.mp nd).1 (List.of_mem_zip hv).1,if_neg hk]
  simp
 | p::P,w::vs,i+1,m,nd,h1,h2,hk=>by
  show bindC kindOf ((p,w)::P.zip vs) m x=_
  unfold bindC
  exact Uw (i:=i) (List.nodup_cons.mp nd).2 (by simpa using h1) (by simpa using h2) hk
def start(N:List Str)(vs:List V):St:=vs.map some++List.replicate (N.length-vs.length) none
def Vm (CX:CXT)(P:Program)(w:World)(K:PySem.W.Frag)(mg:Str→Option Value)(base:Heap)(N:List Str)(qual:Str)(scope:Scope)(f:Addr)(cd:Value)(A:Around)(outer:List Env)(s:Shared)(H:Hp)(E:XK):Cx where
 prog:=P
 w:=w
 K:=K
 mg:=mg
 base:=base
 A:=A.deeper (envOfC qual scope s.heap.objs.size f cd)
 N:=N
 s₀:=s
 H₀:=H
 env:=envOfC qual scope s.heap.objs.size f cd
 outer:=outer
 stack:=envOfC qual scope s.heap.objs.size f cd::outer
 ex:=[]
 calm:=true
 fn:=fun _=>true
 pn:=[]
 xe:=fun e s'=>wpAny (model P w) (A.deeper (envOfC qual scope s.heap.objs.size f cd)) (leaving (envOfC qual scope s.heap.objs.size f cd) e) (fun _ s''=>CX outer H s E e s'') (fun e' s''=>CX outer H s E e' s'') s'
theorem W4{sc:Scope}{n:Nat}{x:Str}(h:sc.names.lookup x=some .cell):∃ c,(cellsFrom n sc.names []).lookup x=some c:=by
 have q:=PySem.W.cellsFrom_some sc.names n [] (.inl h)
 exact Option.isSome_iff_exists.mp q
theorem Aaf{CX:CXT}{P:Program}{w:World}{K:PySem.W.Frag}{mg:Str→Option Value}{base:Heap}{N ps:List Str}{qual:Str}{scope:Scope}{f:Addr}{cd:Value}{A:Around}{outer:List Env}{s s1:Shared}{H:Hp}{E:XK}{us:List Value}{vs:List V}
  (S:Bj N ps scope) (hd:A.handled=none) (e0:Yv P w K mg base A outer s H) (hl:vs.length=ps.length) (r:Vals vs us)
  (x:InCallC s s.heap.objs.size (bindL (envOfC qual scope s.heap.objs.size f cd).kindOf (ps.zip us) fun _=>none) (cellsFrom (s.heap.objs.size+1) scope.names []) (bindC (envOfC qual scope s.heap.objs.size f cd).kindOf (ps.zip us) fun _=>none) s1) :
  Inv (Vm CX P w K mg base N qual scope f cd A outer s H E) [] (start N vs) H s1:=by
 have hpl:ps.length≤N.length:=by have:=congrArg List.length S.pre;rw[Akf] at this;omega
 obtain⟨h1,tk,rfl,hk⟩:=x.done
 have noA:∀ b:Addr,b∉(Vm CX P w K mg base N qual scope f cd A outer s H E).ex:=fun b z=>absurd (show b∈([]:List Addr) from z) (by simp)
 refine⟨⟨e0.mod,S.kind,rfl,rfl,AjQ _,fun y z c h1 h2=>?_,fun y hy=>?_,fun y c _ h=>?_,fun _=>hd,Around.frames_deeper e0.frames,.inr ⟨rfl,rfl⟩,fun b z=>absurd z (noA b),e0.bs,e0.bsz,fun b _ _=>noA b,fun b z=>absurd z (noA b),e0.Mu,e0.frf⟩,
  rfl,e0.bare,Un.kept hk,⟨_,x.toInCall.ns,fun i y v h1 h2 h3=>?_⟩,fun y c h=>⟨_,x.cell y c h⟩,e0.hok.fresh (AjQ _),fun y c h=>?_,fun p hp=>absurd (show p∈([]:List (Addr × Obj)) from hp) (by simp),e0.hok.kept hk,?_⟩
 ·exact name_of_addr x.apart (PySem.mem_of_lookup h1) (PySem.mem_of_lookup h2)
 ·have hy:scope.names.lookup y=some .cell∨scope.names.lookup y=some .free:=hy
  rcases hy with hy | hy
  ·exact W4 hy
  ·exact absurd rfl (S.AeS _ (PySem.mem_of_lookup hy))
 ·exact AkA (x.above y c (PySem.mem_of_lookup h))
 ·have hi:i<vs.length:=by
   unfold start at h2
   by_cases hi:i<vs.length
   ·exact hi
   ·rw[Akr (by simpa using hi)] at h2
    rw[List.getElem?_replicate] at h2
    split at h2 <;> cases h2
  have ha:vs[i]?=some v:=by
   unfold start at h2
   rw[Aki (by simpa using hi),Aka] at h2
   cases e:vs[i]? with
   | none=>rw[e] at h2;cases h2
   | some a=>rw[e] at h2;cases h2;rfl
  obtain⟨u,hu,rv⟩:=r.get ha
  have hp:ps[i]?=some y:=by
   rw[← S.pre,Ale (by omega)];exact h1
  have ndP:ps.Nodup:=by rw[← S.pre];exact S.nd.sublist (List.take_sublist _ _)
  refine⟨u,rv,?_⟩
  rcases S.par y (AjT hp) with k | k
  ·exact .inl ⟨k,Uv ndP hp hu k⟩
  ·obtain⟨c,e⟩:=W4 (n:=s.heap.objs.size+1) k
   refine .inr ⟨.inl k,c,e,?_⟩
   have q:=x.cell y c e
   rw[Uw ndP hp hu (by show scope.names.lookup y≠_;rw[k];decide)] at q
   exact q
 ·exact e0.hok.fresh (AkA (x.above y c (PySem.mem_of_lookup h)))
 ·unfold start
  show _=N.length
  rw[AjR,AjP,List.length_replicate]
  omega
theorem Aeo{CX:CXT}{P:Program}{w:World}{K:PySem.W.Frag}{mg:Str→Option Value}{base:Heap}{k:Nat}{f:Addr}{name qual:Str}{params:Arguments}{body:List Stmt}{scope:Scope}{dV kV doc pm cdv ct oc:Value}{an od:Option Addr}
  {osl:Array (Option Value)}{N ps:List Str}{sp:Sp} (lk:K.lookup f=some ⟨oc,od,.func (PySem.W.fnOf name qual params body scope dV kV doc pm an cdv ct),osl⟩) (hcd:PySem.W.codeIn K cdv qual=true) (S:Bj N ps scope)
  (len:∀ vs H Q E,sp vs H Q E→vs.length=ps.length)
  (hbody:∀(A:Around) (outer:List Env) (s:Shared) (H:Hp) (vs:List V) (Q:VK) (E:XK),GD k (A.deeper (envOfC qual scope s.heap.objs.size f cdv))→sp vs H Q E →
   ∃ t,PSs (Vm CX P w K mg base N qual scope f cdv A outer s H E) body t∧t { nx:=fun _ H'=>Q .non H',rt:=Q } (start N vs) H) :
  BK P w K mg base CX (k+1) f (PySem.W.fnOf name qual params body scope dV kV doc pm an cdv ct) ps sp:=by
 refine⟨len,fun A outer s H args us vs Q E hr e0 hb r hsp=>?_⟩
 have hl:=len _ _ _ _ hsp
 have KX:K.In s.heap:=e0.mod.kin.keeps fun b o e=>(e0.bs b o e).1
 have lim:s.heap.NoLimit:=e0.mod.nolimit.keeps fun b o e=>(e0.bs b o e).1
 have hkind:∀ y∈ps.zip us,scope.names.lookup y.1=some .local∨(scope.names.lookup y.1=some .cell∧((cellsFrom (s.heap.objs.size+1) scope.names []).lookup y.1).isSome=true):=fun⟨n,v⟩ hy=>by
  rcases S.par n (List.of_mem_zip hy).1 with q | q
  ·exact .inl q
  ·exact .inr ⟨q,PySem.W.cellsFrom_some _ _ _ (.inl q)⟩
 refine codeAny_call_function hr.depth (KX _ _ lk) rfl S.co S.gen rfl (PySem.W.codeRec_of KX hcd) (hb _ _ _ _ ?_)
 refine wpAny_newFunctionEnv_cells S.kind hkind fun env he s1 x=>?_
 subst he
 refine⟨lim.keeps x.toInCall.keep,codeAny_func ?_⟩
 obtain⟨t,ht,hq⟩:=hbody A outer s H vs Q E (hr.deeper _) hsp
 have I:Inv (Vm CX P w K mg base N qual scope f cdv A outer s H E) [] (start N vs) H s1:=Aaf S hr.hd e0 hl r x
 refine wpAny_mono (ht [] s1 (start N vs) H _ I hq) (fun fl s' hs=>?_) fun e s' hs=>hs
 have fin:∀{σ':St} {H':Hp} {v:V} {u:Value},Inv (Vm CX P w K mg base N qual scope f cdv A outer s H E) [] σ' H' s'→RelV v u→Q v H'→CE outer P w H s Q u s' :=
  fun {σ' H' v u} J rv q=>⟨v,H',J.os,J.bare,J.base,J.hok,rv,q⟩
 cases fl with
 | ret u =>
  obtain⟨v,σ',H',J,rv,q⟩:=hs
  exact fin J rv q
 | next =>
  obtain⟨σ',H',J,q⟩:=hs
  exact fin (v:=V.non) (u:=Value.none) J rfl q
 | brk =>
  obtain⟨_,_,_,q⟩:=hs
  exact False.elim q
 | cont =>
  obtain⟨_,_,_,q⟩:=hs
  exact False.elim q
open PySem PySem.Spec PyProof.Rows
section
variable {X:Cx}{x:Str}{p pos:Pos}{e:Expr}{es:List Expr}{t:TA}{id T:String}{r:List V→Hp→VK→Prop}
def tCB (r:List V→Hp→VK→Prop)(t:TA):TE:=fun σ H Q=>t σ H fun vs H1=>r vs H1 Q
theorem Aj(hc:HY X (.builtin id) r)(hg:Gl X x)(hm:X.mg x=none)(hv:bootBuiltins x=some (.builtin id))(ha:PA X (e::es) t)(hn:x ≠ "__name__" := by decide) (hdb:(x == ("__debug__" : Str))=false:=by decide)
  (he:starEach (e::es) X.env=(false,eval e X.env)::starEach es X.env:=by rfl) (hpl:(backTo pos (starEach es X.env)).any (·.1)=false:=by rfl):PE X (.Call (.Name x p) (e::es) [] pos) (tCB r t):=by
 intro pins s σ H Q I h
 refine wpAny_Call_Name_kw (HX I hg hm hv ?_ hn hdb)
 exact PyProof.Rows.callWith_builtin1 (thn (ha pos pins s σ H _ I h) fun us s1 ⟨vs,H1,I1,r1,q1⟩=>hc pins s1 σ H1 vs us Q I1 r1 q1) he hpl
theorem FP(hc:HY X (.type T) r)(hg:Gl X x)(hm:X.mg x=none)(hv:bootBuiltins x=some (.type T))(ha:PA X (e::es) t)(hn:x ≠ "__name__" := by decide) (hdb:(x == ("__debug__" : Str))=false:=by decide)
  (he:starEach (e::es) X.env=(false,eval e X.env)::starEach es X.env:=by rfl) (hpl:(backTo pos (starEach es X.env)).any (·.1)=false:=by rfl):PE X (.Call (.Name x p) (e::es) [] pos) (tCB r t):=by
 intro pins s σ H Q I h
 refine wpAny_Call_Name_kw (HX I hg hm hv ?_ hn hdb)
 exact PyProof.Rows.callWith_type1 (thn (ha pos pins s σ H _ I h) fun us s1 ⟨vs,H1,I1,r1,q1⟩=>hc pins s1 σ H1 vs us Q I1 r1 q1) he hpl
end
end L2
namespace HT
open PySem PyProof.Rows
def lexLt:List Int→List Int→Bool
 | [],[]=>false
 | [],_::_=>true
 | _::_,[]=>false
 | x::xs,y::ys=>if x=y then lexLt xs ys else decide (x<y)
section
open PySem.SeqAt
open PySem.AutoSeq1 (wpAny_loadPart')
open PySem.MeetsSeq PySem.MeetsSeq2 PySem.MeetsSeq3
end
section
variable {prog:Program}{w:World}{A:Around}{E:Value→Shared→Prop}{s:Shared}
def sIx (n d:Nat):Option Int→Nat
 | none=>d
 | some v=>if v<0 then (v+(n:Int)).toNat else min v.toNat n
theorem Ot(n d:Nat):sIx n d none=d:=rfl
theorem LQ(n d k:Nat):sIx n d (some (k:Int))=min k n:=by
 show(if (k:Int)<0 then ((k:Int)+(n:Int)).toNat else min (k:Int).toNat n)=min k n
 rw[if_neg (by omega),AjW]
theorem AeT(n d:Nat)(hd:d≤n)(o:Option Int):sIx n d o≤n:=by
 cases o with
 | none=>exact hd
 | some v =>
  show(if v<0 then (v+(n:Int)).toNat else min v.toNat n)≤n
  by_cases hv:v<0
  ·rw[if_pos hv];omega
  ·rw[if_neg hv];exact Nat.min_le_right _ _
end
end HT
namespace L2
open PySem PySem.Spec PyProof.Rows
abbrev TO:=St→Hp→(Option Int→Hp→Prop)→Prop
def PO (X:Cx)(e:Option Expr)(t:TO):Prop :=
 ∀(pins:List (Addr × Obj)) (s:Shared) (σ:St) (H:Hp) (Q:Option Int→Hp→Prop),Inv X pins σ H s→t σ H Q →
  wpAny (model X.prog X.w) X.A (evalPart e X.env) (fun u s'=>∃ o H',Inv X pins σ H' s'∧IsPart u o∧Q o H') X.xe s
def AcR:TO:=fun _ H Q=>Q none H
def Agy (t:TE):TO:=fun σ H Q=>t σ H fun x H1=>∃ i,x=.int i∧Q (some i) H1
theorem intsAre_of{ns:List Int}:∀{us:List Value},Vals (ns.map V.int) us→IntsAre us ns:=by
 induction ns with
 | nil=>intro us r;rw[Akv] at r;cases r;exact .nil
 | cons n ns ih =>
  intro us r
  rw[AjX] at r
  cases r with
  | cons r1 r2 =>
   obtain⟨t,e⟩:=r1
   subst e
   exact .cons n t (ih r2)
section
variable {X:Cx}{e:Expr}{te:TE}{lo hi:Option Expr}{tl th:TO}{pos p2:Pos}
theorem Eb:PO X none AcR:=by
 intro pins s σ H Q I h
 rw[evalPart_none]
 exact wpAny_pure ⟨none,H,I,.none,h⟩
theorem Ec(h:PE X e te):PO X (some e) (Agy te):=by
 intro pins s σ H Q I hw
 rw[evalPart_some]
 refine thn (h pins s σ H _ I hw) fun u s1 ⟨x,H1,I1,r1,q1⟩=>?_
 obtain⟨i,rfl,q⟩:=q1
 obtain⟨t,rfl⟩:=r1
 exact⟨some i,H1,I1,.int i t,q⟩
def SlR (X:Cx)(r:V→Option Int→Option Int→Hp→VK→Prop):Prop :=
 ∀(pins:List (Addr × Obj)) (s:Shared) (σ:St) (H:Hp) (x:V) (v vl vu:Value) (lo hi:Option Int) (sl:Addr) (Q:VK),Inv X pins σ H s→RelV x v→s.heap.IsSliceOf sl vl vu .none→IsPart vl lo→IsPart vu hi→r x lo hi H Q →
  ∃ T id,typeLookup (.type T) "__getitem__" = pure (some (.builtin id))∧s.TypeIs v T∧wpAny (model X.prog X.w) X.A (getItem v (.ref sl)) (EP X pins σ Q) X.xe s
def tSl (r:V→Option Int→Option Int→Hp→VK→Prop)(te:TE)(tl th:TO):TE:=fun σ H Q=>te σ H fun x H1=>tl σ H1 fun l H2=>th σ H2 fun u H3=>r x l u H3 Q
theorem Dm{r:V→Option Int→Option Int→Hp→VK→Prop}(hr:SlR X r)(he:PE X e te)(hl:PO X lo tl)(hu:PO X hi th):PE X (.Subscript e (.Slice lo hi none p2) pos) (tSl r te tl th):=by
 intro pins s σ H Q I h
 refine Subscript_ (thn (he pins s σ H _ I h) fun v s1 ⟨x,H1,I1,r1,q1⟩=>?_)
 refine wpAny_Slice (thn (hl pins s1 σ H1 _ I1 q1) fun vl s2 ⟨l,H2,I2,pl,q2⟩=>thn (hu pins s2 σ H2 _ I2 q2) fun vu s3 ⟨u,H3,I3,pu,q3⟩=>?_)
 rw[evalPart_none]
 refine wpAny_pure ?_
 have I4:Inv X pins σ H3 { s3 with heap:=s3.heap.push { cls:=.type "slice", data:=.fields #[vl,vu,.none] } }:=I3.kept (t':=s3.toks) fun b ob q=>Heap.get?_push_of_some _ q
 obtain⟨T,id,hT,ht,hg⟩:=hr pins { s3 with heap:=s3.heap.push { cls:=.type "slice", data:=.fields #[vl,vu,.none] } } σ H3 x v vl vu l u s3.heap.objs.size Q I4 r1 (Heap.IsSliceOf.new ..) pl pu q3
 show wpAny (model X.prog X.w) X.A (subscriptTail e (.Slice lo hi none p2) v (.ref s3.heap.objs.size)) (EP X pins σ Q) X.xe { s3 with heap:=s3.heap.push { cls:=.type "slice", data:=.fields #[vl,vu,.none] } }
 exact tail_any (ops:=[.ref s3.heap.objs.size,v]) ht hT hg (by with_unfolding_all rfl)
def Vn (xs:List V)(lo hi:Option Int):List V:=(xs.drop (HT.sIx xs.length 0 lo)).take (HT.sIx xs.length xs.length hi-HT.sIx xs.length 0 lo)
theorem W5(xs:List V)(lo hi:Option Int):(Vn xs lo hi).length≤xs.length:=by
 unfold Vn
 rw[Akf,Ak1]
 omega
def Aj0 (K:PySem.W.Frag):V→Option Int→Option Int→Hp→VK→Prop:=fun x lo hi H Q=>∃ a xs,x=.ref a∧SqT K H a xs ∧
 ¬(HT.sIx xs.length 0 lo=0∧HT.sIx xs.length xs.length hi=xs.length)∧∀ p,H p=none→Q (.ref p) (upd H p (.tup (Vn xs lo hi)))
def Aj1 (K:PySem.W.Frag):R2:=fun x y H Q=>∃ a b ns ms,x=.ref a∧y=.ref b∧SqT K H a (ns.map V.int)∧SqT K H b (ms.map V.int)∧Q (.bl (HT.lexLt ns ms)) H
def AiV (K:PySem.W.Frag):R2:=fun x y H Q=>∃ a b xs ys,x=.ref a∧y=.ref b∧SqT K H a xs∧SqT K H b ys∧xs≠[]∧xs.length+ys.length≤sizeLine ∧
 (ys=[]→Q (.ref a) H)∧(ys≠[]→∀ p,H p=none→Q (.ref p) (upd H p (.tup (xs++ys))))
end
open PySem PySem.Spec PyProof.Rows
def ixN (n:Nat)(i:Int):Option Nat:=if 0≤i then (if i<n then some i.toNat else none) else if -(n:Int)≤i then some (i+n).toNat else none
def atI {α:Type}(xs:List α)(i:Int):Option α:=(ixN xs.length i).bind fun j=>xs[j]?
theorem Zo{n:Nat}{i:Int}{j:Nat}(h:ixN n i=some j):seqIndex? i n=some j∧j<n ∧ -(n:Int)≤i∧i<n:=by
 unfold ixN at h
 by_cases h0:0≤i
 ·rw[if_pos h0] at h
  by_cases h1:i<n
  ·rw[if_pos h1] at h
   have e:i.toNat=j:=Option.some.inj h
   exact⟨by rw[seqIndex_of h0 h1,e],by omega,by omega,h1⟩
  ·rw[if_neg h1] at h;cases h
 ·rw[if_neg h0] at h
  by_cases h1 : -(n:Int)≤i
  ·rw[if_pos h1] at h
   have e:(i+n).toNat=j:=Option.some.inj h
   exact⟨by rw[seqIndex_neg (by omega) h1,e],by omega,h1,by omega⟩
  ·rw[if_neg h1] at h;cases h
theorem Vo{α:Type}{xs:List α}{i:Int}{v:α}(h:atI xs i=some v):∃ j,seqIndex? i xs.length=some j∧xs[j]?=some v∧j<xs.length ∧ -(xs.length:Int)≤i∧i<xs.length:=by
 unfold atI at h
 cases e:ixN xs.length i with
 | none=>rw[e] at h;cases h
 | some j =>
  rw[e] at h
  obtain⟨h1,h2,h3,h4⟩:=Zo e
  exact⟨j,h1,h,h2,h3,h4⟩
theorem Zq{α:Type}{xs:List α}{j:Nat}{v:α}(h:xs[j]?=some v):atI xs (j:Int)=some v:=by
 have hj:j<xs.length:=(List.getElem?_eq_some_iff.mp h).1
 have e:ixN xs.length (j:Int)=some j:=by
  unfold ixN
  rw[if_pos (by omega),if_pos (by omega)];simp
 unfold atI;rw[e];exact h
def AcS (b:Expr):Prop:=∀ o i,subscripted b false o i=operate [o,i] (getItem o i)
def IxR (X:Cx)(r:R2):Prop :=
 ∀(value slice:Expr) (pins:List (Addr × Obj)) (s:Shared) (σ:St) (H:Hp) (x y:V) (v u:Value) (Q:VK),Inv X pins σ H s→RelV x v→RelV y u→r x y H Q →
  subscripted slice false v u=operate [v,u] (getItem v u)→wpAny (model X.prog X.w) X.A (subscriptTail value slice v u) (EP X pins σ Q) X.xe s
def MtR (X:Cx)(id:String)(r:V→List V→Hp→VK→Prop):Prop :=
 ∀(pins:List (Addr × Obj)) (s:Shared) (σ:St) (H:Hp) (x:V) (xs:List V) (v:Value) (us:List Value) (Q:VK),Inv X pins σ H s→RelV x v→Vals xs us→r x xs H Q →
  wpAny (model X.prog X.w) X.A (call (.builtin id) (v::us)) (EP X pins σ Q) X.xe s
section
variable {X:Cx}{a b:Expr}{ta tb:TE}{pos:Pos}
theorem Bb{r:R2}(hr:IxR X r)(ha:PE X a ta)(hb:PE X b tb)(hs:AcS b):PE X (.Subscript a b pos) (tOp r ta tb):=by
 intro pins s σ H Q I h
 exact Subscript_ (AeL ha hb I h fun v u s2 x y H2 I2 rx ry q=>hr a b pins s2 σ H2 x y v u Q I2 rx ry q (hs _ _))
def AeU (K:PySem.W.Frag):R2:=fun x y H Q=>∃ p xs i v,x=.ref p∧y=.int i∧SqL K H p xs∧atI xs i=some v∧Q v H
def AeV (K:PySem.W.Frag):R2:=fun x y H Q=>∃ p xs i v,x=.ref p∧y=.int i∧SqT K H p xs∧atI xs i=some v∧Q v H
def Agz:R2:=fun x y H Q=>∃ z i c,x=.str z∧y=.int i∧z.length≤sizeLine∧atI z.cps.toList i=some c∧Q (.str ⟨#[c]⟩) H
theorem AcT:IxR X (AeU X.K):=by
 intro value slice pins s σ H x y v u Q I rx ry h hs
 obtain⟨p,xs,i,z,rfl,rfl,hq,he,q⟩:=h
 cases rx
 obtain⟨t,rfl⟩:=ry
 obtain⟨its,r,pl,hz⟩:=I.list hq
 obtain⟨j,h1,h2,h3,h4,h5⟩:=Vo he
 obtain⟨w,ew,rw'⟩:=r.get h2
 have hl:=r.length
 have hn:=Ni
 have fin:EP X pins σ Q w s:=⟨z,H,I,rw',q⟩
 by_cases h0:0≤i
 ·have hj:i.toNat=j:=by
   rw[seqIndex_of h0 h5] at h1
   exact Option.some.inj h1
  exact item_listR pl.isList h0 (by omega) (by rw[hj];simpa using ew) fin hs
 ·have hj:(i+(its.toArray.size:Int)).toNat=j:=by
   rw[seqIndex_neg (by omega) h4] at h1
   rw[AjZ,← hl]
   exact Option.some.inj h1
  exact subscriptTail_builtinR (x:=w) pl.isList.typeIs slot_list_getitem.lookup
   (wpAny_getItem_list_neg (Q:=fun r s'=>r=w∧EP X pins σ Q r s') pl.isList (by omega) (by rw[AjZ] <;> omega) (by omega) (by rw[hj];simpa using ew) ⟨rfl,fin⟩) hs
theorem AeW:IxR X (AeV X.K):=by
 intro value slice pins s σ H x y v u Q I rx ry h hs
 obtain⟨p,xs,i,z,rfl,rfl,hq,he,q⟩:=h
 cases rx
 obtain⟨t,rfl⟩:=ry
 obtain⟨its,r,pl,hz⟩:=I.tuple hq
 obtain⟨j,h1,h2,h3,h4,h5⟩:=Vo he
 obtain⟨w,ew,rw'⟩:=r.get h2
 have hl:=r.length
 have hn:=Ni
 have fin:EP X pins σ Q w s:=⟨z,H,I,rw',q⟩
 exact subscriptTail_builtinR (x:=w) pl.typeIs slot_tuple_getitem.lookup
  (getItem_tuple (j:=j) (Q:=fun r s'=>r=w∧EP X pins σ Q r s') pl (by omega) (by omega) (by rw[AjZ,← hl];exact h1) (by simpa using ew) ⟨rfl,fin⟩) hs
theorem Fe:IxR X Agz:=by
 intro value slice pins s σ H x y v u Q I rx ry h hs
 obtain⟨z,i,c,rfl,rfl,hz,he,q⟩:=h
 obtain⟨t,rfl⟩:=rx
 obtain⟨t',rfl⟩:=ry
 obtain⟨j,h1,h2,h3,h4,h5⟩:=Vo he
 have hl:z.cps.toList.length=z.length:=by simp[Str.length]
 rw[hl] at h1 h4 h5
 have hn:=Ni
 exact tail_any (typeIs_str s z t) slot_str_getitem.lookup (getItem_str (c:=c) (by
  have e1:decide (i < -(2 ^ 63:Int))=false:=decide_eq_false (by omega)
  have e2:decide (i ≥ 2 ^ 63)=false:=decide_eq_false (by omega)
  rw[e1,e2,Bool.or_false]) (by rw[h1];simpa using h2) ⟨.str ⟨#[c]⟩,H,I.tok _,⟨_,rfl⟩,q⟩) hs
def rIx (K:PySem.W.Frag):R2:=fun x y H Q=>AeU K x y H Q∨AeV K x y H Q∨Agz x y H Q
theorem Yw(its:List Value)(n j:Nat)(u:Value):Obj.mapSeq (·.setIfInBounds j u) { cls:=.type "list", data:=.seq its.toArray n }={ cls:=.type "list", data:=.seq (its.set j u).toArray n }:=by
 simp[Obj.mapSeq]
theorem Inv.lst{pins:List (Addr × Obj)}{σ:St}{H:Hp}{s:Shared}{p:Addr}{xs:List V}(I:Inv X pins σ H s)(h:H p=some (.lst xs)) :
  ∃(its:List Value) (n:Nat),Vals xs its∧s.heap.get? p=some { cls:=.type "list", data:=.seq its.toArray n }∧xs.length≤sizeLine:=by
 obtain⟨z,its,n,r,e⟩:=I.hok p _ h
 exact⟨its,n,r,e,z⟩
theorem Inv.AeX{pins:List (Addr × Obj)}{σ:St}{H:Hp}{s:Shared}{p:Addr}{xs ys:List V}{its its':List Value}{n n':Nat}{f:Obj→Obj}(I:Inv X pins σ H s)(h:H p=some (.lst xs))
  (ho:s.heap.get? p=some { cls:=.type "list", data:=.seq its.toArray n }) (hf:f { cls:=.type "list", data:=.seq its.toArray n }={ cls:=.type "list", data:=.seq its'.toArray n' }) (r:Vals ys its') (hz:ys.length≤sizeLine) (t:Nat) :
  Inv X pins σ (upd H p (.lst ys)) { s with heap:=s.heap.update p f,toks:=t }:=by
 have e:(s.heap.update p f).get? p=some { cls:=.type "list", data:=.seq its'.toArray n' }:=by
  rw[Heap.get?_update_self f ho (by rw[hf] <;> rfl),hf]
 refine I.write (x:=p) (e:=p) (by rw[h];trivial) (.inl rfl) (fun b u hb q=>(Heap.get?_update_other _ _ (Ne.symm hb)).trans q) ⟨_,e⟩ ?_
 exact⟨hz,its',n',r,e⟩
def Ag0:V→V→V→Hp→(Hp→Prop)→Prop:=fun o i v H Q=>∃ p xs k j,o=.ref p∧i=.int k∧H p=some (.lst xs)∧ixN xs.length k=some j∧Q (upd H p (.lst (xs.set j v)))
theorem set_list:Ago X Ag0:=by
 intro pins s σ H o i v ov iv u Q I ro ri rv h
 obtain⟨p,xs,k,j,rfl,rfl,hp,hj,q⟩:=h
 cases ro
 obtain⟨t,rfl⟩:=ri
 obtain⟨its,n,r,ho,hz⟩:=I.lst hp
 obtain⟨h1,h2,h3,h4⟩:=Zo hj
 have hl:=r.length
 have hn:=Ni
 have I':Inv X pins σ (upd H p (.lst (xs.set j v))) { s with heap:=s.heap.update p (Obj.mapSeq (·.setIfInBounds j u)) } :=
  I.AeX hp ho (Yw its n j u) (r.set rv j) (by rw[Ak8];exact hz) s.toks
 by_cases h0:0≤k
 ·have hk:k.toNat=j:=by
   rw[seqIndex_of h0 h4] at h1
   exact Option.some.inj h1
  exact PySem.W.ki_setAt ho h0 (by omega) (by rw[AjZ,← hl];exact h4) (by rw[hk];exact⟨_,I',q⟩)
 ·have hk:(k+(its.toArray.size:Int)).toNat=j:=by
   rw[seqIndex_neg (by omega) h3] at h1
   rw[AjZ,← hl]
   exact Option.some.inj h1
  exact PySem.W.ki_setBack ho (by omega) (by rw[AjZ,← hl];exact h3) (by omega) (by rw[hk];exact⟨_,I',q⟩)
theorem Vp(lo hi:Option Int)(n:Nat):(sliceBounds lo hi none n).1=((HT.sIx n 0 lo:Nat):Int)∧(sliceBounds lo hi none n).2.1=((HT.sIx n n hi:Nat):Int)∧(sliceBounds lo hi none n).2.2=1:=by
 refine⟨?_,?_,rfl⟩
 ·cases lo with
  | none=>simp[sliceBounds,HT.sIx]
  | some i =>
   simp only [sliceBounds,HT.sIx,Option.getD_none,show(1:Int)>0 by decide,if_true]
   by_cases h:i<0
   ·simp only [h,if_true] <;> omega
   ·simp only [h,if_false] <;> omega
 ·cases hi with
  | none=>simp[sliceBounds,HT.sIx]
  | some i =>
   simp only [sliceBounds,HT.sIx,Option.getD_none,show(1:Int)>0 by decide,if_true]
   by_cases h:i<0
   ·simp only [h,if_true] <;> omega
   ·simp only [h,if_false] <;> omega
theorem Uc(its:List Value)(lo hi:Option Int):slicePick its.toArray lo hi none=((its.drop (HT.sIx its.length 0 lo)).take (HT.sIx its.length its.length hi-HT.sIx its.length 0 lo)).toArray:=by
 obtain⟨h1,h2,h3⟩:=Vp lo hi its.toArray.size
 unfold slicePick
 rw[h1,h2,h3]
 simp only [sliceRange_one,pick_run,AjZ] <;> rfl
def Ag1 (K:PySem.W.Frag):V→Option Int→Option Int→Hp→VK→Prop:=fun x lo hi H Q=>∃ a xs,x=.ref a∧SqL K H a xs∧∀ p,H p=none→Q (.ref p) (upd H p (.lst (Vn xs lo hi)))
theorem AcU:SlR X (Ag1 X.K):=by
 intro pins s σ H x v vl vu lo hi sl Q I rx hs pl pu h
 obtain⟨a,xs,rfl,hx,q⟩:=h
 cases rx
 obtain⟨its,r,ht,hz⟩:=I.list hx
 have hlen:=r.length
 refine⟨"list", _,slot_list_getitem.lookup,ht.isList.typeIs,?_⟩
 refine wpAny_getItem_list_slice ht.isList hs pl pu .none (by simp) ?_ (by rw[AjZ] <;> omega)
 rw[Uc,← hlen]
 refine⟨.ref s.heap.objs.size,_,I.laid (t':=s.toks) (o:=.lst (Vn xs lo hi)) (fun b ob q=>Heap.get?_push_of_some _ q) (AjQ _) ?_,rfl,q _ (I.hok.fresh (AjQ _))⟩
 exact⟨Akg (W5 xs lo hi) hz,_,0,(r.drop (HT.sIx xs.length 0 lo)).take (HT.sIx xs.length xs.length hi-HT.sIx xs.length 0 lo),Heap.get?_push_size _ rfl⟩
def Gb:V→Bool
 | .non=>true
 | .bl _=>true
 | .int _=>true
 | .str _=>true
 | _=>false
def eqV:V→V→Bool
 | .non,.non=>true
 | .bl a,.bl b=>a == b
 | .bl a,.int b=>(if a then 1 else 0) == b
 | .int a,.bl b=>a == (if b then 1 else 0)
 | .int a,.int b=>a == b
 | .str a,.str b=>a == b
 | _,_=>false
theorem AeY{A:Around}{s:Shared}{y x:V}{u v:Value}(ry:RelV y u)(rx:RelV x v)(fy:Gb y=true)(fx:Gb x=true):SeqAt.EqAt A s u v (eqV y x):=by
 cases y with
 | non =>
  cases ry
  cases x with
  | non=>cases rx;exact SeqAt.EqAt.same _
  | bl b=>cases rx;exact SeqAt.EqAt.none_bool b
  | int b=>obtain⟨t,rfl⟩:=rx;exact SeqAt.EqAt.none_int b t
  | str b=>obtain⟨t,rfl⟩:=rx;exact SeqAt.EqAt.none_str b t
  | _=>exact absurd (show false=true from fx) Akd
 | bl a =>
  cases ry
  cases x with
  | non=>cases rx;exact SeqAt.EqAt.bool_none a
  | bl b=>cases rx;exact SeqAt.EqAt.bool_bool a b
  | int b=>obtain⟨t,rfl⟩:=rx;exact SeqAt.EqAt.bool_int a b t
  | str b=>obtain⟨t,rfl⟩:=rx;exact SeqAt.EqAt.bool_str a b t
  | _=>exact absurd (show false=true from fx) Akd
 | int a =>
  obtain⟨t',rfl⟩:=ry
  cases x with
  | non=>cases rx;exact SeqAt.EqAt.int_none a t'
  | bl b=>cases rx;exact SeqAt.EqAt.int_bool a t' b
  | int b=>obtain⟨t,rfl⟩:=rx;exact SeqAt.EqAt.int_int a t' b t
  | str b=>obtain⟨t,rfl⟩:=rx;exact SeqAt.EqAt.int_str a t' b t
  | _=>exact absurd (show false=true from fx) Akd
 | str a =>
  obtain⟨t',rfl⟩:=ry
  cases x with
  | non=>cases rx;exact SeqAt.EqAt.str_none a t'
  | bl b=>cases rx;exact SeqAt.EqAt.str_bool a t' b
  | int b=>obtain⟨t,rfl⟩:=rx;exact SeqAt.EqAt.str_int a t' b t
  | str b=>obtain⟨t,rfl⟩:=rx;exact SeqAt.EqAt.str_str a t' b t
  | _=>exact absurd (show false=true from fx) Akd
 | _=>exact absurd (show false=true from fy) Akd
def eqU (x:V)(u:Value):Bool:=match u with
 | .none=>eqV .non x
 | .bool b=>eqV (.bl b) x
 | .int i _=>eqV (.int i) x
 | .str z _=>eqV (.str z) x
 | _=>false
theorem Abm{x y:V}{u:Value}(r:RelV y u)(f:Gb y=true):eqU x u=eqV y x:=by
 cases y with
 | non=>cases r;rfl
 | bl b=>cases r;rfl
 | int i=>obtain⟨t,rfl⟩:=r;rfl
 | str z=>obtain⟨t,rfl⟩:=r;rfl
 | _=>exact absurd (show false=true from f) Akd
theorem Vq{x:V}:∀{xs:List V} {us:List Value},Vals xs us→xs.all Gb=true→us.any (eqU x)=xs.any fun y=>eqV y x
 | _,_,.nil,_=>rfl
 | y::xs,u::us,.cons r t,f=>by
  rw[List.all_cons,Ak3] at f
  rw[AkD,AkD,Abm r f.1,Vq t f.2]
theorem RC{A:Around}{s:Shared}{x:V}{v:Value}(rx:RelV x v)(fx:Gb x=true):∀{xs:List V} {us:List Value},Vals xs us→xs.all Gb=true→∀ u∈us,SeqAt.EqAt A s u v (eqU x u)
 | _,_,.nil,_=>fun u hu=>by cases hu
 | y::xs,u::us,.cons r t,f=>fun u' hu=>by
  rw[List.all_cons,Ak3] at f
  rcases List.mem_cons.mp hu with rfl | hu
  ·rw[Abm r f.1];exact AeY r rx f.1 fx
  ·exact RC rx fx t f.2 u' hu
def inV (x:V)(xs:List V):Bool:=xs.any fun y=>eqV y x
def rIn (K:PySem.W.Frag)(neg:Bool):R2:=fun x y H Q=>∃ p xs,y=.ref p∧(SqL K H p xs∨SqT K H p xs)∧Gb x=true∧xs.all Gb=true∧Q (.bl (if neg then !inV x xs else inV x xs)) H
theorem Vr:OpR X (compareOp .NotIn) (rIn X.K true):=by
 intro pins s σ H x y v u Q I rx ry h
 obtain⟨p,xs,rfl,hq,fx,fs,q⟩:=h
 cases ry
 rcases hq with hq | hq
 ·obtain⟨its,r,pl,hz⟩:=I.list hq
  refine SeqAt.notIn_listAt (eqU x) pl.isList (fun w hw=>RC rx fx r fs w (by simpa using hw)) ⟨.bl _,H,I,rfl,?_⟩
  rw[show its.toArray.any (eqU x)=its.any (eqU x) by simp,Vq r fs]
  exact q
 ·obtain⟨its,r,pl,hz⟩:=I.tuple hq
  refine SeqAt.notIn_tupleAt (eqU x) pl (fun w hw=>RC rx fx r fs w (by simpa using hw)) ⟨.bl _,H,I,rfl,?_⟩
  rw[show its.toArray.any (eqU x)=its.any (eqU x) by simp,Vq r fs]
  exact q
theorem Vs:HY X (.builtin "len") (fun xs H Q=>∃ p ys,xs=[.ref p]∧(SqL X.K H p ys∨SqT X.K H p ys)∧Q (.int ys.length) H):=by
 intro pins s σ H xs us Q I r h
 obtain⟨p,ys,rfl,hq,q⟩:=h
 obtain⟨u,rfl,rx⟩:=vals1 r
 cases rx
 have hn:=Ni
 rcases hq with hq | hq
 ·obtain⟨its,r',pl,hz⟩:=I.list hq
  have hlen:=r'.length
  exact Calls.call_len_list pl.isList (by simp only [AjZ] <;> omega) ⟨.int ys.length,H,I.tok _,⟨s.toks+1,by rw[AjZ,hlen]⟩,q⟩
 ·obtain⟨its,r',pl,hz⟩:=I.tuple hq
  have hlen:=r'.length
  exact len_tuple pl (by simp only [AjZ] <;> omega) ⟨.int ys.length,H,I.tok _,⟨s.toks+1,by rw[AjZ,hlen]⟩,q⟩
theorem Bt:HY X (.builtin "len") (fun xs H Q=>∃ z,xs=[.str z]∧z.length≤sizeLine∧Q (.int z.length) H):=by
 intro pins s σ H xs us Q I r h
 obtain⟨z,rfl,hz,q⟩:=h
 obtain⟨u,rfl,t,rfl⟩:=vals1 r
 have hn:=Ni
 exact len_str (by omega) ⟨.int z.length,H,I.tok _,⟨_,rfl⟩,q⟩
theorem Vt:HY X (.type "list") (fun xs H Q=>∃ p ys,xs=[.ref p]∧(SqL X.K H p ys∨SqT X.K H p ys)∧∀ l,H l=none→Q (.ref l) (upd H l (.lst ys))):=by
 intro pins s σ H xs us Q I r h
 obtain⟨p,ys,rfl,hq,q⟩:=h
 obtain⟨u,rfl,rx⟩:=vals1 r
 cases rx
 have fin:∀(its:List Value),Vals ys its→ys.length≤sizeLine→∀(h':Heap) (c':Nat),(∀ b o',s.heap.get? b=some o'→h'.get? b=some o') →
   h'.get? s.heap.objs.size=some { cls:=.type "list", dict:=none,data:=.seq its.toArray c',slots:=#[] }→EP X pins σ Q (.ref s.heap.objs.size) { s with heap:=h' }:=fun its r' hz h' c' kp e =>
  ⟨.ref s.heap.objs.size,_,I.laid (t':=s.toks) kp (AjQ _) (show Et X.prog X.w _ h' _ (.lst ys) from⟨hz,its,c',r',e⟩),rfl,q _ (I.hok.fresh (AjQ _))⟩
 rcases hq with hq | hq
 ·obtain⟨its,r',pl,hz⟩:=I.list hq
  have hlen:=r'.length
  obtain⟨o,ho,hc,n,hd⟩:=pl.isList
  exact call_list_seq p (.inl rfl) ho hc hd (fun h' c' kp e=>fin its r' hz h' c' kp e) (by simp only [AjZ] <;> omega)
 ·obtain⟨its,r',pl,hz⟩:=I.tuple hq
  have hlen:=r'.length
  obtain⟨o,ho,hc,n,hd⟩:=pl
  exact call_list_seq p (.inr rfl) ho hc hd (fun h' c' kp e=>fin its r' hz h' c' kp e) (by simp only [AjZ] <;> omega)
def tyV (K:PySem.W.Frag)(T:String)(x:V)(H:Hp):Prop:=match x with
 | .str _=>T = "str"
 | .int _=>T = "int"
 | .ref p=>(T = "list" ∧ ∃ xs,SqL K H p xs)∨(T = "tuple" ∧ ∃ o,K.lookup p=some o∧o.cls=.type "tuple" ∧ o.dict=none) ∨
   (T = "dict" ∧ ((∃ kvs,H p=some (.dK kvs))∨∃ kvs,H p=some (.dT kvs)))∨(T = "set" ∧ ∃ S n,H p=some (.set S n))
 | _=>False
theorem AeZ{pins:List (Addr × Obj)}{σ:St}{H:Hp}{s:Shared}{T:String}{x:V}{v:Value}(I:Inv X pins σ H s)(r:RelV x v)(ty:tyV X.K T x H) :
  s.TypeIs v T∧∀ a,v=.ref a→∃ ob,s.heap.get? a=some ob∧ob.dict=none:=by
 cases x with
 | str z =>
  obtain⟨t,rfl⟩:=r
  cases (show T = "str" from ty)
  exact⟨typeIs_str s z t,fun _ e=>nomatch e⟩
 | int i =>
  obtain⟨t,rfl⟩:=r
  cases (show T = "int" from ty)
  exact⟨typeIs_int s i t,fun _ e=>nomatch e⟩
 | ref p =>
  cases r
  rcases ty with ⟨rfl,xs,hq⟩ | ⟨rfl,o,hk,hc,hd⟩ | ⟨rfl,hk⟩ | ⟨rfl,S,n,hk⟩
  ·obtain⟨its,_,pl,_⟩:=I.list hq
   refine⟨pl.isList.typeIs,fun a e=>?_⟩
   cases e
   obtain⟨o,n,e,c,hd,_⟩:=pl
   exact⟨o,e,hd⟩
  ·refine⟨⟨o,I.kIn p o hk,hc⟩,fun a e=>?_⟩
   cases e
   exact⟨o,I.kIn _ o hk,hd⟩
  ·have z:∃ o,s.heap.get? p=some o∧o.ExactDict:=by
    rcases hk with ⟨kvs,hk⟩ | ⟨kvs,hk⟩
    ·obtain⟨_,_,_,_,o,_,_,e,ex,_⟩:=I.hok p _ hk
     exact⟨o,e,ex⟩
    ·obtain⟨_,_,_,_,o,_,_,e,ex,_⟩:=I.hok p _ hk
     exact⟨o,e,ex⟩
   obtain⟨o,e,ex⟩:=z
   refine⟨⟨o,e,ex.1⟩,fun a e2=>?_⟩
   cases e2
   exact⟨o,e,ex.2.1⟩
  ·obtain⟨o,_,_,_,e,ex,_⟩:=I.hok p _ hk
   refine⟨⟨o,e,ex.1⟩,fun a e2=>?_⟩
   cases e2
   exact⟨o,e,ex.2.1⟩
 | _=>exact False.elim ty
def Aj2 (K:PySem.W.Frag)(T:String)(r:V→List V→Hp→VK→Prop)(to:TE):TE:=fun σ H Q=>to σ H fun x H1=>tyV K T x H1∧r x [] H1 Q
def tBM (K:PySem.W.Frag)(T:String)(r:V→List V→Hp→VK→Prop)(to:TE)(t:TA):TE:=fun σ H Q=>to σ H fun x H1=>tyV K T x H1∧t σ H1 fun xs H2=>r x xs H2 Q
variable {o e:Expr}{es:List Expr}{to:TE}{t:TA}{name:Str}{apos cpos:Pos}{T id:String}{r:V→List V→Hp→VK→Prop}
theorem Ag2(pa:PlainAttrs T)(slot:Slot T name id)(hty:typeOf (.builtin id)=pure (.type "method_descriptor")) (hm:MtR X id r) (ho:PE X o to) (ha:PA X (e::es) t)
  (hbase:attributeBase o name X.env (eval o X.env)=eval o X.env:=by rfl)
  (hfew:((backTo cpos (starEach (e::es) X.env)).all (fun x=>!x.1) && (backToKw cpos (keywordEach [] X.env)).all (fun x=>x.1.isSome)
   && decide ((e::es).length+([]:List Keyword).length+(if ([]:List Keyword).isEmpty then 0 else 1)<30))=true:=by rfl)
  (hline:(apos.endLine == cpos.line)=true:=by rfl) (hs:starEach (e::es) X.env=(false,eval e X.env)::starEach es X.env:=by rfl) (hplain:(backTo cpos (starEach es X.env)).any (·.1)=false:=by rfl) :
  PE X (.Call (.Attribute o name apos) (e::es) [] cpos) (tBM X.K T r to t):=by
 intro pins s σ H Q I h
 refine wpAny_Call_method_late hbase hfew hline rfl (thn (ho pins s σ H _ I h) fun v s1 ⟨x,H1,I1,r1,ty,q1⟩=>?_)
 obtain⟨h1,h2⟩:=AeZ I1 r1 ty
 refine⟨T,id,pa,slot,hty,h1,h2,?_⟩
 have hA:=ha cpos pins s1 σ H1 _ I1 q1
 rw[hs] at hA ⊢
 refine Calls.callWith_builtin (by show(false || (backTo cpos (starEach es X.env)).any (·.1))=false;rw[hplain] <;> rfl) (Calls.evalArgs_plain ?_)
 exact thn hA fun us s2 ⟨vs,H2,I2,r2,q2⟩=>hm pins s2 σ H2 x vs v us Q I2 r1 r2 q2
end
open PySem PySem.Spec PyProof.Rows
def MtM (X:Cx)(id:String)(r:V→List V→Hp→VK→Prop):Prop :=
 ∀(pins:List (Addr × Obj)) (s:Shared) (σ:St) (H:Hp) (x:V) (xs:List V) (v:Value) (us:List Value) (Q:VK),Inv X pins σ H s→RelV x v→Vals xs us→r x xs H Q →
  wpAny (model X.prog X.w) X.A (call (.builtin id) (v::us)) (EP X pins σ Q) X.xe s
theorem Vals.one:∀{x:V} {us:List Value},Vals [x] us→∃ u,us=[u]∧RelV x u
 | _,_,.cons r .nil=>⟨_,rfl,r⟩
theorem Vals.two:∀{x y:V} {us:List Value},Vals [x,y] us→∃ u v,us=[u,v]∧RelV x u∧RelV y v
 | _,_,_,.cons r (.cons q .nil)=>⟨_,_,rfl,r,q⟩
theorem Vals.eraseIdx:∀{xs:List V} {us:List Value} (i:Nat),Vals xs us→Vals (xs.eraseIdx i) (us.eraseIdx i)
 | _,_,_,.nil=>.nil
 | _,_,0,.cons _ t=>t
 | _,_,i+1,.cons r t=>.cons r (Vals.eraseIdx i t)
theorem Ux{α:Type}:∀(l:List α) (i:Nat),(l.eraseIdx i).length≤l.length
 | [],_=>AjQ _
 | _::_,0=>Ak0 _
 | _::r,i+1=>Nat.succ_le_succ (Ux r i)
section
variable {X:Cx}{pins:List (Addr × Obj)}{σ:St}{H:Hp}{s:Shared}{l b:Addr}{xs ys zs:List V}
theorem Inv.Ag3{its its':List Value}{n:Nat}{f:Array Value→Array Value}{t':Nat}(I:Inv X pins σ H s)(hH:H l=some (.lst xs))
  (e:s.heap.get? l=some { cls:=.type "list", data:=.seq its.toArray n }) (hf:f its.toArray=its'.toArray) (hv:Vals ys its') (hz:ys.length≤sizeLine) :
  Inv X pins σ (upd H l (.lst ys)) { s with heap:=s.heap.update l (Obj.mapSeq f),toks:=t' }:=by
 have q:=PySem.IsL.update e f
 rw[hf] at q
 refine I.write (x:=l) (e:=l) (by rw[hH];exact trivial) (.inl rfl) (fun b' u hb hu=>(Heap.get?_update_other s.heap (Obj.mapSeq f) (Ne.symm hb)).trans hu) ⟨_,q⟩ ?_
 exact⟨hz,its',_,hv,q⟩
theorem Inv.AhY{its:List Value}{t':Nat}(I:Inv X pins σ H s)(hv:Vals ys its)(hz:ys.length≤sizeLine) :
  Inv X pins σ (upd H s.heap.objs.size (.lst ys)) { s with heap:=s.heap.push { cls:=.type "list", data:=.seq its.toArray },toks:=t' } :=
 I.laid (fun _ _ q=>Heap.get?_push_of_some _ q) (AjQ _) ⟨hz,its,0,hv,Heap.get?_push_size _ rfl⟩
theorem Inv.fresh(I:Inv X pins σ H s):H s.heap.objs.size=none:=I.hok.fresh (AjQ _)
theorem Inv.Abn(I:Inv X pins σ H s)(hH:H l=some (.lst xs)):xs.length≤sizeLine∧∃(its:List Value) (n:Nat),Vals xs its∧xs.length=its.length∧s.heap.get? l=some { cls:=.type "list", data:=.seq its.toArray n }:=by
 obtain⟨z,its,n,r,e⟩:=I.hok l _ hH
 exact⟨z,its,n,r,r.length,e⟩
end
section
variable {X:Cx}
def AcV:V→List V→Hp→VK→Prop:=fun x vs H Q=>∃ l xs y,x=.ref l∧vs=[y]∧H l=some (.lst xs)∧xs.length<sizeLine∧Q .non (upd H l (.lst (xs++[y])))
theorem CQ:MtM X "list.append" AcV:=by
 intro pins s σ H x vs v us Q I rx rv h
 obtain⟨l,xs,y,rfl,rfl,hH,hz,q⟩:=h
 cases rx
 obtain⟨u,rfl,ru⟩:=rv.one
 obtain⟨z,its,n,r,hl,e⟩:=I.Abn hH
 refine call_meets F.slot_list_append ⟨_,e,rfl⟩ F.entry_list_append (F.args_list_append_2 _ _) (PySem.list_append l its.toArray n u (by rw[AjZ];omega)) ⟨e,?_⟩
 refine⟨.non,_,I.Ag3 (its':=its++[u]) hH e (by simp) (r.append (.cons ru .nil)) ?_,rfl,q⟩
 rw[AjR,Akt]
 omega
def Ah6:V→List V→Hp→VK→Prop:=fun x vs H Q=>∃ l b xs zs,x=.ref l∧vs=[.ref b]∧H l=some (.lst xs)∧H b=some (.lst zs)∧xs.length+zs.length≤sizeLine∧Q .non (upd H l (.lst (xs++zs)))
def Aj3:V→List V→Hp→VK→Prop:=fun x vs H Q=>∃ l xs y,x=.ref l∧vs=[]∧H l=some (.lst xs)∧xs[xs.length-1]?=some y∧Q y (upd H l (.lst xs.dropLast))
def AhZ:V→List V→Hp→VK→Prop:=fun x vs H Q=>∃ l xs i k y,x=.ref l∧vs=[.int i]∧H l=some (.lst xs) ∧ -(2 ^ 63)≤i∧i<2 ^ 63∧seqIndex? i xs.length=some k∧xs[k]?=some y∧Q y (upd H l (.lst (xs.eraseIdx k)))
def Ag4:V→List V→Hp→VK→Prop:=fun x vs H Q=>∃ l xs,x=.ref l∧vs=[]∧H l=some (.lst xs)∧Q .non (upd H l (.lst xs.reverse))
def Aia:V→List V→Hp→VK→Prop:=fun x vs H Q=>∃ l xs,x=.ref l∧vs=[]∧H l=some (.lst xs)∧Q .non (upd H l (.lst []))
def Aib:R2:=fun x y H Q=>∃ l b xs zs,x=.ref l∧y=.ref b∧H l=some (.lst xs)∧H b=some (.lst zs)∧xs.length+zs.length≤sizeLine∧∀ p,H p=none→Q (.ref p) (upd H p (.lst (xs++zs)))
theorem Vu:OpR X (binaryOp .Add) Aib:=by
 intro pins s σ H x y v u Q I rx ry h
 obtain⟨l,b,xs,zs,rfl,rfl,hH,hB,hz,q⟩:=h
 cases rx
 cases ry
 obtain⟨z,its,n,r,hl,e⟩:=I.Abn hH
 obtain⟨z2,its2,n2,r2,hl2,e2⟩:=I.Abn hB
 refine PySem.P.add_list e e2 ?_ (by rw[AjZ,AjZ];omega)
 have ea:its.toArray++its2.toArray=(its++its2).toArray:=by simp
 rw[ea]
 exact⟨.ref _,_,I.AhY (t':=s.toks) (r.append r2) (by rw[AjR];omega),rfl,q _ I.fresh⟩
def Aj4:R2:=fun x y H Q=>∃ l k xs,x=.ref l∧y=.int k∧H l=some (.lst xs) ∧ -(2 ^ 63)≤k∧k<2 ^ 63∧xs.length*k.toNat≤sizeLine ∧
 ∀ p,H p=none→Q (.ref p) (upd H p (.lst (List.replicate k.toNat xs).flatten))
theorem len_rep{α:Type}(xs:List α)(k:Nat):(List.replicate k xs).flatten.length=k*xs.length:=by
 induction k with
 | zero=>simp
 | succ k ih=>rw[AkS,AkT,AjR,ih,Nat.succ_mul,Nat.add_comm]
end
section
variable {prog:Program}{w:World}{A:Around}{E:Value→Shared→Prop}{s:Shared}
end
section
variable {X:Cx}
end
end L2
namespace Att
open PySem PySem.W PySem.Calls PyProof.Rows
theorem Rr{P:Params}{h:Heap}:∀(ns:List Int) (vs:List Value),WellAll P h vs (ns.map WData.int)→IntsAre vs ns:=by
 intro ns
 induction ns with
 | nil =>
  intro vs w
  rw[Akv] at w
  cases w
  exact .nil
 | cons n ns ih =>
  intro vs w
  rw[AjX] at w
  cases w with
  | cons a b =>
   cases a
   exact .cons _ _ (ih _ b)
theorem Aag{l:OpenLaw}{n:Nat}(hn:l.most=some n){P:Params}{h:Heap}{args:List WData}{vals:List Value}
  (hpre:l.row.toRowW.claim.pre args=true) (hwl:WellAll P h vals args) :
  ∃ a vs ns,vals=[Value.ref a]∧args=[WData.list (ns.map WData.int)]∧h.get? a=some { cls:=.type "list", data:=.seq vs.toArray }∧IntsAre vs ns∧ns.length≤n:=by
 have hsh:WShape.hasAll [] args [.list .int]=true:=(pre_splitW hpre).1
 have hc:l.pre.holds [] { args:=args }=true:=(pre_splitW hpre).2
 obtain⟨d,r,rfl,h1,h2⟩:=hasAllW_cons hsh
 obtain rfl:=hasAllW_nil h2
 obtain⟨xs,rfl,h3⟩:=hasW_list h1
 obtain⟨ns,rfl⟩:=items_int h3
 have hlen:ns.length≤n:=by
  unfold OpenLaw.pre at hc
  have h4:(WTm.not (.lt (.lit (.int (n:Int))) (.len (.arg 0)))).holds [] { args:=[.list (ns.map .int)] }=true:=by
   have h4:=(holds_andW hc).1
   rw[hn] at h4
   exact h4
  have h5:=condW_of h4 (w_not (w_lt w_lit (w_len_list (w_arg rfl))))
  rw[AjP] at h5
  refine Nat.le_of_not_lt fun q=>?_
  have q':(n:Int)<((ns.length:Nat):Int):=by omega
  first
   | (rw[decide_eq_true q'] at h5;exact absurd h5 (by decide))
   | (simp at h5;omega)
 cases hwl with
 | cons w1 w2 =>
  cases w2
  cases w1 with
  | list ho hall=>exact⟨_,_,ns,rfl,rfl,ho,Rr ns _ hall,hlen⟩
theorem Aah(l:OpenLaw)(args:List WData):l.row.toRowW.claim.post args (.bool true) args=true :=
 postW_of (r:=l.row.toRowW) (X:=(true == true))
  (show WShape.has [] (.bool true) .bool=true by first | rfl | decide | simp[WShape.has,WShape.arms,WShape.armsAll])
  (show(WTm.eq .res (.lit (.bool true))).value [] { args:=args,res:=some (.bool true),after:=args }=some (.bool (true == true)) from w_eq_bool (w_res rfl) w_lit) rfl
theorem W6{l:OpenLaw}{n:Nat}{q:Program}{loose:List Str}{XP:(Str→Option Value)→Heap→Prop}{YP:World→Heap→Prop}{d:DefRec}
  (hn:l.most=some n) (hdf:d.params.defaults=[])
  (call:∀(w:World) (s₀ s₁:Shared) (mg mb:Str→Option Value) (fa:Addr) (o:Obj) (pm cd doc:Value) (a:Addr) (vs:List Value) (ns:List Int),
   Ground q loose [] XP w s₀ mg mb s₁.heap→YP w s₁.heap →
   s₁.heap.get? fa=some o→o.data=.func (docDef d.name d.params d.body d.scope pm cd doc)→s₁.heap.CodeRec cd d.name→mg d.name=some (.ref fa) →
   s₁.heap.get? a=some { cls:=.type "list", data:=.seq vs.toArray }→IntsAre vs ns→ns.length≤n→s₁.gens=#[] →
   codeAny (model l.prog w) callerA (.call (.ref fa) ⟨[.ref a],[]⟩) (fun r s'=>r=.ok (.ret (.bool true))∧OldK s₁.heap s'.heap∧s'.os=s₁.os∧AllBare s'.gens) s₁) :
  WalkO q loose XP YP l.row.toRowW d [] (fun f vs=>PySem.call f vs):=by
 intro w s₀ s₁ mg mb G Y fa o pm cd doc dV kV ho hd hcd hD hmg hg args vals as hpre hlay hrd hwl hlo
 obtain rfl:dV=.none:=Dflts.none hD hdf
 obtain rfl:kV=.none:=Dflts.noKw hD
 obtain⟨a,vs,ns,rfl,rfl,hobj,hints,hlen⟩:=Aag hn hpre hwl
 refine enter_call (codeAny_mono (call w s₀ s₁ mg mb fa o pm cd doc a vs ns G Y ho (fd_plain hd) hcd hmg hobj hints hlen hg) fun r s' hq=>?_)
 obtain⟨rfl,h2,h3,h4⟩:=hq
 exact⟨.inl ⟨.bool true,.bool true,[],rfl,fun _=>rfl,.bool true,Aah l _,fun _=>⟨List.Pairwise.nil,fun _ hm=>(nomatch hm)⟩⟩,h2,h3,h4⟩
section
variable {prog:Program}{w:World}{A:Around}{E:Value→Shared→Prop}{s:Shared}{K:Frag}
def Aic (h:Heap):Heap:={ h with objs:=#[] }
def ledger(h:Heap)(L d:Addr):List (Addr × Obj):=(List.range h.objs.size).filterMap fun a=>if a=L∨a=d then none else (h.get? a).map fun o=>(a,o)
end
end Att
namespace L2
open PySem PySem.Spec PyProof.Rows
theorem Qi:∀{vs:List Value} {ns:List Int},IntsAre vs ns→Vals (ns.map V.int) vs
 | _,_,.nil=>.nil
 | _,_,.cons n t h=>.cons ⟨t,rfl⟩ (Qi h)
def Only(H:Hp):Prop:=∀ b,H b=none∨∃ o xs,H b=some (.frz o (.lst xs))
theorem Abo{P:Program}{w:World}{K:PySem.W.Frag}{mg mb:Str→Option Value}{CX:CXT}{k:Nat}{fa a:Addr}{fd:FuncData}{x:Str}{sp:Sp}{s₁:Shared}{vs:List Value}{ns:List Int}
  (KX:K.In s₁.heap) (hns:s₁.heap.Ns mainGlobals mg) (hb:s₁.heap.Ns builtinsNs mb) (hbb:∀ x:Str,x ≠ "__name__" → mb x=bootBuiltins x) (hlim:s₁.heap.NoLimit) (hg:s₁.gens=#[])
  (ha:s₁.heap.get? a=some { cls:=.type "list", data:=.seq vs.toArray }) (hi:IntsAre vs ns) (hl:ns.length≤sizeLine) (hr:GD k callerA)
  (F:∀ base:Heap,K.In base→base.Ns mainGlobals mg→BK P w K mg base CX k fa fd [x] sp) (hbind:∀(s:Shared) (u:Value),BindsTo s fd ⟨[u],[]⟩ [(x,u)])
  (hsp:∀ H:Hp,Only H→SqL K H a (ns.map V.int)→sp [.ref a] H (fun v _=>v=.bl true) fun _ _ _=>False)
  (hCX:∀ H e s',CX [] H s₁ (fun _ _ _=>False) e s'→False) :
  codeAny (model P w) callerA (.call (.ref fa) ⟨[.ref a],[]⟩) (fun r s'=>r=.ok (.ret (.bool true))∧OldK s₁.heap s'.heap∧s'.os=s₁.os∧AllBare s'.gens) s₁:=by
 have rv:=Qi hi
 have lenV:=hi.length
 have core:∀ H:Hp,Only H→SqL K H a (ns.map V.int)→HOk P w H s₁.heap→(∀ b,H b≠none→b=a)→(H a≠none→K.lookup a=none) →
   codeAny (model P w) callerA (.call (.ref fa) ⟨[.ref a],[]⟩) (fun r s'=>r=.ok (.ret (.bool true))∧OldK s₁.heap s'.heap∧s'.os=s₁.os∧AllBare s'.gens) s₁:=by
  intro H hO hS hok hA hK
  have Zr:∀{b:Addr} {o:Obj},s₁.heap.get? b=some o→H b=none→(Vj s₁.heap H).get? b=some o:=fun e n=>AaS e n
  have noA:∀{b:Addr} {o:Obj} {es:Array DictEntry} {ep:Nat},s₁.heap.get? b=some o→o.data=.dict es ep→H b=none:=fun {b o es ep} e d=>by
   cases q:H b with
   | none=>rfl
   | some u =>
    have e':b=a:=hA b (by rw[q];simp)
    subst e'
    rw[ha] at e;cases e
    have d':Data.seq vs.toArray _=Data.dict es ep:=d
    cases d'
  have nsK:∀{b:Addr} {m:Str→Option Value},s₁.heap.Ns b m→(Vj s₁.heap H).Ns b m:=fun {b m} ⟨o,es,ep,e,d,r⟩=>⟨o,es,ep,Zr e (noA e d),d,r⟩
  have hKb:K.In (Vj s₁.heap H):=fun b o e=>Zr (KX b o e) (by
   cases q:H b with
   | none=>rfl
   | some u =>
    have e':b=a:=hA b (by rw[q];simp)
    subst e'
    rw[hK (by rw[q];simp)] at e;cases e)
  have hM:Mod K mg (Vj s₁.heap H):=⟨hKb,nsK hns,⟨mb,nsK hb,hbb⟩,let ⟨mc,h1,h2⟩:=hlim;⟨mc,nsK h1,h2⟩⟩
  have e0:Yv P w K mg (Vj s₁.heap H) callerA [] s₁ H:=⟨rfl,hM,fun b o e=>AcI e,AkC (ZZ _ _),trivial,fun b hb=>absurd (show b∈([]:List Addr) from hb) (by simp),hok,.of_eq hg⟩
  refine codeAny_mono ((F _ hKb (nsK hns)).run callerA [] s₁ H ⟨[.ref a],[]⟩ [.ref a] [.ref a] _ _ hr e0 (hbind s₁ (.ref a)) (.cons rfl .nil) (hsp H hO hS)) fun r s' h=>?_
  cases r with
  | error e=>exact(hCX H e s' h).elim
  | ok fl =>
   cases fl with
   | next=>exact False.elim h
   | brk=>exact False.elim h
   | cont=>exact False.elim h
   | ret u =>
    obtain⟨v,H',os,bare,un,hok',r',q⟩:=h
    have q':v=.bl true:=q
    subst q'
    obtain rfl:u=Value.bool true:=r'
    refine⟨rfl,OldK.of_keep fun b o e=>?_,os,bare⟩
    cases q:H b with
    | none=>exact un.keep b o e q (by intro z;exact absurd (show b∈([]:List Addr) from z) (by simp)) (by simp)
    | some u =>
     rcases hO b with z | ⟨ob,xs,z⟩
     ·rw[q] at z;cases z
     ·have z2:=un.Ji b ob _ z
      obtain⟨e1,_⟩:=hok b _ z
      obtain⟨e2,_⟩:=hok' b _ z2
      rw[e] at e1;cases e1
      exact e2
 cases hk:K.lookup a with
 | some o =>
  have e:=KX a o hk
  rw[ha] at e
  cases e
  refine core (fun _=>none) (fun _=>.inl rfl) (.inr ⟨_,vs.toArray,_,hk,rfl,rfl,rfl,by rw[AjZ,lenV];exact hl,by simpa using rv⟩) (fun b u z=>by have z':(none:Option HO)=some u:=z;cases z') (fun b z=>absurd rfl z) fun z=>absurd rfl z
 | none =>
  refine core (fun b=>if b=a then some (.frz { cls:=.type "list", data:=.seq vs.toArray } (.lst (ns.map V.int))) else none) (fun b=>?_) (.inl (.inr ⟨{ cls:=.type "list", data:=.seq vs.toArray },if_pos rfl⟩)) (fun b u z=>?_) (fun b z=>?_) fun _=>hk
  ·by_cases hb:b=a
   ·exact .inr ⟨_,_,if_pos hb⟩
   ·exact .inl (if_neg hb)
  ·by_cases hb:b=a
   ·have z':=(if_pos hb).symm.trans z
    cases z'
    subst hb
    exact⟨ha,by rw[AjP];exact hl,vs,_,rv,ha⟩
   ·have z':=(if_neg hb).symm.trans z
    cases z'
  ·by_cases hb:b=a
   ·exact hb
   ·exact absurd (if_neg hb) z
open PySem PySem.Spec PyProof.Rows
abbrev KOf {K:PySem.W.Frag} {h:Heap} (_:K.In h):PySem.W.Frag:=K
theorem AcW{l:PySem.W.OpenLaw}{n k:Nat}{q:Program}{loose:List Str}{XP:(Str→Option Value)→Heap→Prop}{YP:World→Heap→Prop}{d:DefRec}{K:Params→PySem.W.Frag}{CX:World→CXT}{sp:World→Sp}{x:Str}
  (hn:l.most=some n) (hn2:n≤sizeLine) (hdf:d.params.defaults=[]) (hr:GD k callerA)
  (hY:∀(w:World) (h:Heap),YP w h→(K w.params).In h)
  (F:∀(w:World) (mg:Str→Option Value) (fa:Addr) (h:Heap),(K w.params).In h→h.Ns mainGlobals mg→mg d.name=some (.ref fa) →
   ∃ fd:FuncData,(∀(s:Shared) (u:Value),BindsTo s fd ⟨[u],[]⟩ [(x,u)]) ∧
    ∀ base:Heap,(K w.params).In base→base.Ns mainGlobals mg→BK l.prog w (K w.params) mg base (CX w) k fa fd [x] (sp w))
  (hsp:∀(w:World) (H:Hp) (a:Addr) (ns:List Int),ns.length≤n→Only H→SqL (K w.params) H a (ns.map V.int)→sp w [.ref a] H (fun v _=>v=.bl true) fun _ _ _=>False)
  (hCX:∀(w:World) (H:Hp) (s:Shared) (e:Value) (s':Shared),CX w [] H s (fun _ _ _=>False) e s'→False) :
  PySem.W.WalkO q loose XP YP l.row.toRowW d [] (fun f vs=>PySem.call f vs):=by
 refine Att.W6 hn hdf fun w s₀ s₁ mg mb fa o pm cd doc a vs ns G Y ho hd hcd hmg hobj hints hlen hg=>?_
 have KX:=hY w _ Y
 obtain⟨fd,hb,hF⟩:=F w mg fa _ KX G.T.g hmg
 exact Abo KX G.T.g G.T.b G.T.builtins G.T.nolimit hg hobj hints (Akg hlen hn2) hr hF hb (fun H hO hS=>hsp w H a ns hlen hO hS) fun H e s'=>hCX w H s₁ e s'
theorem Abp{l:PySem.W.OpenLaw}{n k:Nat}{q:Program}{loose:List Str}{XP:(Str→Option Value)→Heap→Prop}{YP:World→Heap→Prop}{d:DefRec}{K:Params→PySem.W.Frag}{CX:CXT}{sp:PySem.W.Frag→Sp}{x:Str}
  (hn:l.most=some n) (hn2:n≤sizeLine) (hdf:d.params.defaults=[]) (hr:GD k callerA)
  (hY:∀(w:World) (h:Heap),YP w h→(K w.params).In h)
  (F:∀(w:World) (mg:Str→Option Value) (fa:Addr) (h:Heap),(K w.params).In h→h.Ns mainGlobals mg→mg d.name=some (.ref fa) →
   ∃ fd:FuncData,(∀(s:Shared) (u:Value),BindsTo s fd ⟨[u],[]⟩ [(x,u)]) ∧
    ∀ base:Heap,(K w.params).In base→base.Ns mainGlobals mg→BK l.prog w (K w.params) mg base CX k fa fd [x] (sp (K w.params)))
  (hsp:∀(K:PySem.W.Frag) (H:Hp) (a:Addr) (ns:List Int),ns.length≤n→Only H→SqL K H a (ns.map V.int)→sp K [.ref a] H (fun v _=>v=.bl true) fun _ _ _=>False)
  (hCX:∀(H:Hp) (s:Shared) (e:Value) (s':Shared),CX [] H s (fun _ _ _=>False) e s'→False) :
  PySem.W.WalkO q loose XP YP l.row.toRowW d [] (fun f vs=>PySem.call f vs) :=
 AcW (K:=K) (CX:=fun _=>CX) (sp:=fun w=>sp (K w.params)) hn hn2 hdf hr hY F (fun w H a ns h1 h2 h3=>hsp (K w.params) H a ns h1 h2 h3) fun _ H s e s'=>hCX H s e s'
open PySem PySem.Spec PyProof.Rows
def inClass(s:Stmt)(j:Nat):Stmt:=match s with
 | .ClassDef _ _ _ body _ _ _ _ _ _ _=>body.getD j (.Pass ⟨0,0,0,0⟩)
 | _=>.Pass ⟨0,0,0,0⟩
def JR (s:Stmt):Arguments:=match s with
 | .FunctionDef _ a _ _ _ _ _ _ _ _=>a
 | _=>{ posonlyargs:=[],args:=[],vararg:=none,kwonlyargs:=[],kw_defaults:=[],kwarg:=none,defaults:=[] }
def HF (s:Stmt):List Stmt:=match s with
 | .FunctionDef _ _ b _ _ _ _ _ _ _=>b
 | _=>[]
def Ai (s:Stmt):Scope:=match s with
 | .FunctionDef _ _ _ _ _ _ sc _ _ _=>sc
 | _=>{ kind:=.function,names:=[],isGenerator:=false,isCoroutine:=false }
abbrev CX0:CXT:=fun _ _ _ _ _ _=>False
abbrev E0:XK:=fun _ _ _=>False
theorem Bv{X:Cx}:Passes CX0 X E0:=fun _ _ _ _ _ _ _ h=>h.elim
structure Fun (K:PySem.W.Frag) (x qual:Str) (st:Stmt) (f:Addr) (fd:FuncData):Prop where
 ex:∃(oc:Value) (od:Option Addr) (kV doc pm:Value) (an:Option Addr) (cdv ct:Value) (osl:Array (Option Value)),
  fd=PySem.W.fnOf x qual (JR st) (HF st) (Ai st) .none kV doc pm an cdv ct∧K.lookup f=some ⟨oc,od,.func fd,osl⟩∧PySem.W.codeIn K cdv qual=true
 kp:PySem.W.keepIn K (.ref f)=true
section
variable {P:Program}{w:World}{K:PySem.W.Frag}{mg:Str→Option Value}{base:Heap}
theorem Fun.ok{x qual:Str}{st:Stmt}{f:Addr}{fd:FuncData}{N ps:List Str}{k:Nat}{sp:Sp}(F:Fun K x qual st f fd)(S:Bj N ps (Ai st))(len:∀ vs H Q E,sp vs H Q E→vs.length=ps.length)
  (hbody:∀(cdv:Value) (A:Around) (outer:List Env) (s:Shared) (H:Hp) (vs:List V) (Q:VK) (E:XK),GD k (A.deeper (envOfC qual (Ai st) s.heap.objs.size f cdv))→sp vs H Q E →
   ∃ t,PSs (Vm CX0 P w K mg base N qual (Ai st) f cdv A outer s H E).nox (HF st) t∧t { nx:=fun _ H'=>Q .non H',rt:=Q } (start N vs) H):BK P w K mg base CX0 (k+1) f fd ps sp:=by
 obtain⟨oc,od,kV,doc,pm,an,cdv,ct,osl,rfl,lk,hcd⟩:=F.ex
 refine Aeo lk hcd S len fun A outer s H vs Q E hr hsp=>?_
 obtain⟨t,h,q⟩:=hbody cdv A outer s H vs Q E hr hsp
 exact⟨t,h.nox,q⟩
theorem Fun.binds{x qual:Str}{st:Stmt}{f:Addr}{fd:FuncData}{ps:List Str}(F:Fun K x qual st f fd)
  (h:∀(kV doc pm:Value) (an:Option Addr) (cdv ct:Value) (us:List Value),us.length=ps.length→bindArgs (PySem.W.fnOf x qual (JR st) (HF st) (Ai st) .none kV doc pm an cdv ct) ⟨us,[]⟩=pure (ps.zip us)):Binds K fd ps []:=by
 obtain⟨oc,od,kV,doc,pm,an,cdv,ct,osl,rfl,lk,hcd⟩:=F.ex
 exact .all (h kV doc pm an cdv ct)
theorem Abq{x qual:Str}{st:Stmt}{f:Addr}{oc:Value}{od an:Option Addr}{osl:Array (Option Value)}{kV doc pm cdv ct:Value}(l:K.lookup f=some ⟨oc,od,.func (PySem.W.fnOf x qual (JR st) (HF st) (Ai st) .none kV doc pm an cdv ct),osl⟩)
  (c:PySem.W.codeIn K cdv qual=true) (k:PySem.W.keepIn K (.ref f)=true):Fun K x qual st f (PySem.W.fnOf x qual (JR st) (HF st) (Ai st) .none kV doc pm an cdv ct):=⟨⟨oc,od,kV,doc,pm,an,cdv,ct,osl,rfl,l,c⟩,k⟩
end
theorem Ia{A:Around}{k:Nat}(hr:GD k A):A.units+1<cLine:=Nat.lt_of_le_of_lt (Nat.add_le_add_left (by decide:1≤64) _) hr.units
theorem Aai{n:Nat}(h:n≤1000):n<sizeLine:=Nat.lt_of_le_of_lt h (by decide)
section
variable {X:Cx}
theorem pv(i:Nat){x:Str}{pos:Pos}(hN:X.N[i]?=some x:=by rfl)(hv:Vis X.env.scope x:=by first | exact Or.inl rfl | exact Or.inr (Or.inl rfl) | exact Or.inr (Or.inr rfl))(hd:(x == ("__debug__" : Str))=false:=by decide)
  (hcd:(x == ("__classdict__" : Str))=false:=by decide):PE X (.Name x pos) (Agj i):=AeI hN hv hd hcd
end
theorem Hr{A B:Prop}(h:B):if false=true then A else B:=by
 rw[if_neg Akd]
 exact h
theorem Iu{A B:Prop}(h:A):if true=true then A else B:=by
 rw[if_pos rfl]
 exact h
theorem Gz{c A B:Prop}[Decidable c](hc:c)(h:B):if (!decide c)=true then A else B:=by
 rw[decide_eq_true hc]
 exact Hr h
def Av (H H':Hp):Prop:=∀ b o,H b=some o→H' b=some o
theorem Av.refl(H:Hp):Av H H:=fun _ _ h=>h
theorem Av.trans{H H1 H2:Hp}(a:Av H H1)(b:Av H1 H2):Av H H2:=fun c o h=>b c o (a c o h)
theorem Av.free{H H':Hp}(e:Av H H'){l:Addr}(h:H' l=Option.none):H l=Option.none:=by
 cases q:H l with
 | none=>rfl
 | some o =>
  rw[e l o q] at h
  cases h
theorem Av.seq{K:PySem.W.Frag}{H H':Hp}{a:Addr}{xs:List V}(e:Av H H')(h:SqL K H a xs):SqL K H' a xs:=by
 rcases h with (h | ⟨o,h⟩) | h
 ·exact .inl (.inl (e _ _ h))
 ·exact .inl (.inr ⟨o,e _ _ h⟩)
 ·exact .inr h
open PySem PySem.Spec PyProof.Rows
theorem Nj{scope:Scope}{env:Env}(h:∀ y∈scope.names,y.2=.free→∃ c,env.cells.lookup y.1=some c) :
  ∃ cl,closureFor scope env=pure cl∧(∀ x c,cl.lookup x=some c→env.cells.lookup x=some c∧(x,NameKind.free)∈scope.names) ∧
   ∀ x,(x,NameKind.free)∈scope.names→cl.lookup x=env.cells.lookup x:=by
 have key:∀(l:List (Str × NameKind)) (cs:List (Str × Addr)),(∀ y∈l,y.2=.free→∃ c,env.cells.lookup y.1=some c) →
   ∃ cl,(forIn l cs (fun(x:Str × NameKind) (cs:List (Str × Addr))=>do
     if x.2 == .free then
      let c ← cellOf env x.1
      pure (ForInStep.yield ((x.1,c)::cs))
     else pure (ForInStep.yield cs)):Sem (List (Str × Addr)))=pure cl ∧
    (∀ x c,cl.lookup x=some c→(env.cells.lookup x=some c∧(x,NameKind.free)∈l)∨cs.lookup x=some c) ∧
    ∀ x,((x,NameKind.free)∈l→cl.lookup x=env.cells.lookup x)∧((cs.lookup x=env.cells.lookup x)→cl.lookup x=env.cells.lookup x):=by
  intro l
  induction l with
  | nil=>intro cs _;exact⟨cs,rfl,fun x c e=>.inr e,fun x=>⟨fun z=>absurd z (by simp),fun z=>z⟩⟩
  | cons y r ih =>
   intro cs hl
   obtain⟨n,k⟩:=y
   by_cases hk:k=.free
   ·subst hk
    obtain⟨c,hc⟩:=hl (n,.free) Ake rfl
    obtain⟨cl,e1,e2,e3⟩:=ih ((n,c)::cs) fun y hy=>hl y (Akk _ hy)
    refine⟨cl,?_,fun x d e=>?_,fun x=>⟨fun z=>?_,fun z=>?_⟩⟩
    ·rw[AkU]
     simp only [beq_self_eq_true,if_true,cellOf,hc]
     exact e1
    ·rcases e2 x d e with ⟨z1,z2⟩ | z
     ·exact .inl ⟨z1,Akk _ z2⟩
     ·rw[Akj] at z
      by_cases hx:x == n
      ·rw[hx] at z
       have hx':x=n:=by simpa using hx
       subst hx'
       refine .inl ⟨?_,Ake⟩
       rw[hc];exact z
      ·have hx':(x == n)=false:=by simpa using hx
       rw[hx'] at z
       exact .inr z
    ·rcases List.mem_cons.mp z with z | z
     ·injection z with z1 _
      subst z1
      refine(e3 x).2 ?_
      rw[Akj,hc]
      simp
     ·exact(e3 x).1 z
    ·by_cases hx:x=n
     ·subst hx
      refine(e3 x).2 ?_
      rw[Akj,hc]
      simp
     ·refine(e3 x).2 ?_
      rw[Akj]
      have hx':(x == n)=false:=by simpa using hx
      rw[hx']
      exact z
   ·obtain⟨cl,e1,e2,e3⟩:=ih cs fun y hy=>hl y (Akk _ hy)
    have hb:(k == NameKind.free)=false:=by simpa using hk
    refine⟨cl,?_,fun x d e=>?_,fun x=>⟨fun z=>?_,(e3 x).2⟩⟩
    ·rw[AkU]
     simp only [hb,AkH,if_false]
     exact e1
    ·rcases e2 x d e with ⟨z1,z2⟩ | z
     ·exact .inl ⟨z1,Akk _ z2⟩
     ·exact .inr z
    ·rcases List.mem_cons.mp z with z | z
     ·injection z with _ z2
      exact absurd z2.symm hk
     ·exact(e3 x).1 z
 obtain⟨cl,e1,e2,e3⟩:=key scope.names [] h
 refine⟨cl,?_,fun x c e=>?_,fun x z=>(e3 x).1 z⟩
 ·unfold closureFor
  have:=e1
  simpa using this
 ·rcases e2 x c e with z | z
  ·exact z
  ·simp at z
theorem Dy{env:Env}(hk:env.scope.kind=.function):∀{names:List (Str × NameKind)} {x:Str} {k:NameKind},names.lookup x=some k→k≠.free →
  (names.map fun(n,k)=>if (k == NameKind.free && env.scope.kind == .function && env.kindOf n == some .cell) then (n,NameKind.cell) else (n,k)).lookup x=some k
 | [],_,_,h,_=>by simp at h
 | (n,k')::r,x,k,h,hf=>by
  have ih:=@Dy env hk r x k
  show List.lookup x ((if (k' == NameKind.free && env.scope.kind == .function && env.kindOf n == some .cell)=true then (n,NameKind.cell) else (n,k'))::_)=_
  cases hx:x == n with
  | true =>
   simp only [Akj,hx] at h
   cases h
   have:(k' == NameKind.free)=false:=by simpa using hf
   simp[Akj,hx,this]
  | false =>
   simp only [Akj,hx] at h
   by_cases hc:(k' == NameKind.free && env.scope.kind == .function && env.kindOf n == some .cell)=true
   ·rw[if_pos hc];simp only [Akj,hx];exact ih h hf
   ·rw[if_neg hc];simp only [Akj,hx];exact ih h hf
theorem Gf{env:Env}(hk:env.scope.kind=.function):∀{names:List (Str × NameKind)} {x:Str},names.lookup x=some .free→env.kindOf x=some .cell →
  (names.map fun(n,k)=>if (k == NameKind.free && env.scope.kind == .function && env.kindOf n == some .cell) then (n,NameKind.cell) else (n,k)).lookup x=some .cell
 | [],_,h,_=>by simp at h
 | (n,k')::r,x,h,hc=>by
  have ih:=@Gf env hk r x
  show List.lookup x ((if (k' == NameKind.free && env.scope.kind == .function && env.kindOf n == some .cell)=true then (n,NameKind.cell) else (n,k'))::_)=_
  cases hx:x == n with
  | true =>
   simp only [Akj,hx] at h
   cases h
   have hxn:x=n:=by simpa using hx
   subst hxn
   simp[Akj,hk,hc]
  | false =>
   simp only [Akj,hx] at h
   by_cases hd:(k' == NameKind.free && env.scope.kind == .function && env.kindOf n == some .cell)=true
   ·rw[if_pos hd];simp only [Akj,hx];exact ih h hc
   ·rw[if_neg hd];simp only [Akj,hx];exact ih h hc
def Ff (X:Cx)(Nc:List Str)(scope:Scope)(cl:List (Str × Addr))(C:Addr)(fp:List Addr)(s:Shared)(H:Hp):Cx where
 prog:=X.prog
 w:=X.w
 K:=X.K
 mg:=X.mg
 base:=X.base
 A:=X.A
 N:=Nc
 s₀:=s
 H₀:=H
 env:=compEnvC scope cl C X.env
 outer:=X.stack
 stack:=X.stack
 ex:=fp
 fn:=fun _=>false
 calm:=X.calm
 pn:=[]
 xe:=fun _ _=>False
def GK (σ:St)(Bx:List Nat):St:=Bx.map fun j=>(σ[j]?).join
structure Ei (X:Cx) (x:Str) (Nc:List Str) (Bx:List Nat) (scope:Scope):Prop where
 kind:scope.kind=.function
 cell:∀ y∈scope.names,y.2≠.cell
 names:∀ y∈scope.names,y.2=.local→scope.names.lookup y.1=some .local
 fr:∀ y∈scope.names,y.2=.free→X.env.scope.names.lookup y.1=some .cell∧scope.names.lookup y.1=some .free
 loc:scope.names.lookup x=some .local
 len:Nc.length=Bx.length+1
 hd:Nc[0]?=some x
 nd:Nc.Nodup
 cap:∀ k j,Bx[k]?=some j→∃ y,Nc[k+1]?=some y∧X.N[j]?=some y∧scope.names.lookup y=some .free
theorem Ou{prog:Program}{w:World}{A:Around}{R:Result→Shared→Prop}{s:Shared}{elt target iter:Expr}{ifs:List Expr}{scope:Scope}{pos:Pos}{it acc:Value}{env:Env}(I:Nat→Shared→Prop)
  (turn:∀ n s,I n s→wpAny (model prog w) A (pyNext it) (fun r s₁=>match r with
   | none=>R (.ok .next) s₁
   | some v=>wpAny (model prog w) A (letOwnedTupleGo target it v) (fun _ s1'=>wpAny (model prog w) A (assign target env v) (fun _ s₂ =>
     wpAny (model prog w) A (forIn ifs true fun c r=>if r=true then do let ok ← isTrue c env (eval c env);pure (ForInStep.yield ok) else pure (ForInStep.yield r)) (fun ok s₃ =>
      if ok=true then wpAny (model prog w) A (eval elt env) (fun x s₄ =>
       wpAny (model prog w) A (call (.builtin "list.append") [acc,x]) (fun _ s₅=>∃ m,m<n∧I m s₅) (notedBy (model prog w) A env fun e s'=>R (.error e) s') s₄) (notedBy (model prog w) A env fun e s'=>R (.error e) s') s₃
      else ∃ m,m<n∧I m s₃) (notedBy (model prog w) A env fun e s'=>R (.error e) s') s₂) (notedBy (model prog w) A env fun e s'=>R (.error e) s') s1') (notedBy (model prog w) A env fun e s'=>R (.error e) s') s₁) (notedBy (model prog w) A env fun e s'=>R (.error e) s') s)
  (n:Nat) (h:I n s) :
  codeAny (model prog w) A (.compLoop (.ListComp elt [⟨target,iter,ifs,0⟩] scope pos) 0 it acc env) R s:=by
 refine codeAny_loop rfl I (fun n s hI=>?_) n h
 show wpAny _ A ((compTurn (.ListComp elt [⟨target,iter,ifs,0⟩] scope pos) 0 it acc env).onRaise (fun x=>do noteFrame x env;theTreesLotGoes x)) _ _ s
 refine wpAny_noted ?_
 rw[compTurn_list]
 refine wpAny_bind (wpAny_standAt (wpAny_bind (wpAny_mono (turn n s hI) (fun r s₁ h₁=>?_) fun _ _ h'=>h')))
 cases r with
 | none=>exact wpAny_pure h₁
 | some v =>
  refine wpAny_bind (wpAny_mono h₁ (fun _ s1' h₁=>?_) fun _ _ h'=>h')
  refine wpAny_bind (wpAny_mono h₁ (fun _ s₂ h₂=>wpAny_bind (wpAny_mono h₂ (fun ok s₃ h₃=>?_) fun _ _ h'=>h')) fun _ _ h'=>h')
  cases ok with
  | false=>exact wpAny_pure ⟨rfl,h₃⟩
  | true =>
   exact wpAny_bind (wpAny_bind (wpAny_mono h₃ (fun x s₄ h₄=>wpAny_bind (wpAny_mono h₄ (fun _ s₅ h₅=>wpAny_pure (wpAny_pure ⟨rfl,h₅⟩)) fun _ _ h'=>h')) fun _ _ h'=>h'))
def Vv:TT:=fun _ H Q=>Q true H
inductive PIf (X:Cx):List Expr→TT→Prop where
 | nil:PIf X [] Vv
 | one {c:Expr} {t:TT} (h:PT X c t):PIf X [c] t
theorem PIf.run{X:Cx}{ifs:List Expr}{t:TT}(h:PIf X ifs t){pins:List (Addr × Obj)}{s:Shared}{σ:St}{H:Hp}{Q:Bool→Hp→Prop}(I:Inv X pins σ H s)(ht:t σ H Q) :
  wpAny (model X.prog X.w) X.A (forIn ifs true fun c r=>if r=true then do let ok ← isTrue c X.env (eval c X.env);pure (ForInStep.yield ok) else pure (ForInStep.yield r)) (TP X pins σ Q) X.xe s:=by
 cases h with
 | nil=>exact wpAny_tests_nil ⟨H,I,ht⟩
 | one h=>exact wpAny_tests_one (h pins s σ H Q I ht)
def Vw (Bx:List Nat)(tc:TT)(te:TE)(J:It)(σ:St)(H:Hp)(Q:VK):Prop :=
 ∃ W:Nat→Nat→List V→Hp→Prop,(∃ m,W 0 m [] H)∧∀ i m ys H,W i m ys H →
  (J.stop i H∧ys.length≤sizeLine∧∀ p,H p=none→Q (.ref p) (upd H p (.lst ys))) ∨
  (J.go i H∧ys.length<sizeLine∧∀ x H',J.yld i H x H'→tc (some x::GK σ Bx) H' fun b H2 =>
   if b=true then te (some x::GK σ Bx) H2 fun y H3=>∃ m',m'<m∧W (i+1) m' (ys++[y]) H3 else ∃ m',m'<m∧W (i+1) m' ys H2)
def Aep (wi:TI)(Bx:List Nat)(tc:TT)(te:TE):TE:=fun σ H Q=>wi σ H fun J H1=>Vw Bx tc te J σ H1 Q
section
variable {X:Cx}{pins:List (Addr × Obj)}{σ:St}{H:Hp}{s:Shared}
theorem Un.track{fs ex:List Addr}{H H':Hp}{h h':Heap}{a:Addr}{o:HO}(u:Un fs ex H H' h h')(ha:h.objs.size≤a)(hn:H' a=none):Un fs ex H (upd H' a o) h h' where
 keep:=u.keep
 slot:=u.slot
 free:=fun b ob q n hx=>by rw[Aq (AjS (Akc (Heap.lt_size q) ha))];exact u.free b ob q n hx
 there:=u.there
 tups:=fun b xs q=>by rw[Aq (BP (u.tups b xs q) hn)];exact u.tups b xs q
 Ji:=fun b ob xs q=>by rw[Aq (BP (u.Ji b ob xs q) hn)];exact u.Ji b ob xs q
 JM:=fun b ps q=>by
  obtain⟨m,e⟩:=u.JM b ps q
  exact⟨m,by rw[Aq (BP e hn)];exact e⟩
theorem HOk.track{P:Program}{w:World}{H:Hp}{h:Heap}{a:Addr}{o:HO}(x:HOk P w H h)(hn:H a=none)(new:Et P w (upd H a o) h a o):HOk P w (upd H a o) h:=fun b u e=>by
 by_cases hb:b=a
 ·subst hb;rw[Af] at e;cases e;exact new
 ·rw[Aq hb] at e
  exact(x b u e).stay (fun c v _ q=>q) (fun c q=>by rw[Aq (BP q hn)];exact q) fun c xs q=>by rw[Aq (BP q hn)];exact q
theorem AcX{x:Str}{Nc:List Str}{Bx:List Nat}{scope:Scope}{cl:List (Str × Addr)}{C:Addr}{fp:List Addr}(I:Inv X pins σ H s)(O:Ei X x Nc Bx scope)
  (hcl:∀ x c,cl.lookup x=some c→X.env.cells.lookup x=some c∧(x,NameKind.free)∈scope.names) (Qj:∀ x,(x,NameKind.free)∈scope.names→cl.lookup x=X.env.cells.lookup x)
  (hC:s.heap.objs.size≤C) (hfp:∀ b∈fp,JP X pins H b) (hfo:∀ b∈fp,b<s.heap.objs.size):(Ff X Nc scope cl C fp s H).Ok where
 mod:=I.ok.mod
 kind:=O.kind
 glob:=I.ok.glob
 blt:=I.ok.blt
 above:=hC
 inj:=fun a b c e1 e2=>I.ok.inj a b c (hcl a c e1).1 (hcl b c e2).1
 has:=fun y hy=>by
  have mem:(y,NameKind.free)∈scope.names:=by
   have hy':((relabel scope X.env).names.lookup y=some .cell)∨((relabel scope X.env).names.lookup y=some .free):=hy
   have hm:∃ k,(y,k)∈(relabel scope X.env).names∧(k=.cell∨k=.free):=by
    rcases hy' with h | h
    ·exact⟨_,PySem.mem_of_lookup h,.inl rfl⟩
    ·exact⟨_,PySem.mem_of_lookup h,.inr rfl⟩
   obtain⟨k,hm,hk⟩:=hm
   obtain⟨⟨n,k'⟩,hm',e⟩:=List.mem_map.mp hm
   dsimp only at e
   by_cases hc:(k' == NameKind.free && X.env.scope.kind == .function && X.env.kindOf n == some .cell)=true
   ·rw[if_pos hc] at e
    injection e with e1 _
    subst e1
    have:k'=.free:=by
     have:=(Ak3 _ _▸(Ak3 _ _▸hc).1).1
     simpa using this
    subst this
    exact hm'
   ·rw[if_neg hc] at e
    injection e with e1 e2
    subst e1 e2
    rcases hk with hk | hk
    ·subst hk;exact absurd rfl (O.cell _ hm')
    ·subst hk;exact hm'
  obtain⟨c,e⟩:=I.ok.has y (.inl (O.fr _ mem rfl).1)
  exact⟨c,(Qj y mem).trans e⟩
 cab:=fun _ _ z=>nomatch z
 hd:=I.ok.hd
 frames:=I.ok.frames
 stk:=.inl rfl
 exf:=fun b hb=>⟨AjS (Akc (hfo b hb) hC),fun y c e=>(hfp b hb).2.2.2.2.1 y c (hcl y c e).1⟩
 bs:=I.bs
 bsz:=Akg I.ok.bsz I.sz
 Ua:=fun b o e hb=>by
  rcases(hfp b hb).2.2.2.1 with z | z
  ·exact I.ok.Ua b o e z
  ·exact absurd (Akc (Heap.lt_size e) (Akg I.ok.bsz z)) (Akn _)
 Ub:=fun b hb z=>by
  rcases List.mem_cons.mp (I.R5 b z) with e | e
  ·exact(hfp b hb).2.1 e
  ·exact(hfp b hb).2.2.1 e
 Mu:=I.stack
 frf:=I.Rw
end
open PySem PySem.Spec PyProof.Rows
section
variable {X:Cx}{pins:List (Addr × Obj)}{σ:St}{H:Hp}{s:Shared}
theorem W7(σ:St)(Bx:List Nat):(GK σ Bx).length=Bx.length:=by unfold GK;rw[AjP]
theorem W8{σ:St}{Bx:List Nat}{k:Nat}{v:V}(e:(GK σ Bx)[k]?=some (some v)):∃ j,Bx[k]?=some j∧σ[j]?=some (some v):=by
 unfold GK at e
 rw[Aka] at e
 cases hk:Bx[k]? with
 | none=>rw[hk] at e;cases e
 | some j =>
  rw[hk] at e
  have e':(σ[j]?).join=some v:=Option.some.inj e
  refine⟨j,rfl,?_⟩
  cases hj:σ[j]? with
  | none=>rw[hj] at e';cases e'
  | some o=>rw[hj] at e';rw[show o=some v from e']
theorem Un.but{fs ex:List Addr}{H H':Hp}{h h1 h2:Heap}{C:Addr}(u:Un fs ex H H' h h1)(hs:Heap.SameBut C h1 h2)(hC:h.objs.size≤C):Un fs ex H H' h h2 where
 keep:=fun b o q n hb hx=>(hs.2 b (AjS (Akc (Heap.lt_size q) hC))).trans (u.keep b o q n hb hx)
 slot:=fun b o q n hb hx=>by
  obtain⟨sl,e⟩:=u.slot b o q n hb hx
  exact⟨sl,(hs.2 b (AjS (Akc (Heap.lt_size q) hC))).trans e⟩
 free:=u.free
 there:=fun b o q hx=>by
  obtain⟨o',e⟩:=u.there b o q hx
  exact⟨o',(hs.2 b (AjS (Akc (Heap.lt_size q) hC))).trans e⟩
 tups:=u.tups
 Ji:=u.Ji
 JM:=u.JM
theorem Yx{x:Str}{Nc:List Str}{Bx:List Nat}{scope:Scope}{cl:List (Str × Addr)}{C:Addr}{fp:List Addr}{h':Heap}{tk:Nat}{m0:Str→Option Value}(I:Inv X pins σ H s)(O:Ei X x Nc Bx scope)
  (hcl:∀ x c,cl.lookup x=some c→X.env.cells.lookup x=some c∧(x,NameKind.free)∈scope.names) (Qj:∀ x,(x,NameKind.free)∈scope.names→cl.lookup x=X.env.cells.lookup x)
  (hC:s.heap.objs.size≤C) (hfp:∀ b∈fp,JP X pins H b) (hfo:∀ b∈fp,b<s.heap.objs.size)
  (old:∀ b o,s.heap.get? b=some o→h'.get? b=some o) (hns:h'.Ns C m0) :
  Inv (Ff X Nc scope cl C fp s H) [] (none::GK σ Bx) H { s with heap:=h',toks:=tk } where
 ok:=AcX I O hcl Qj hC hfp hfo
 os:=rfl
 bare:=I.bare
 base:=Un.kept old
 loc:=by
  refine⟨m0,hns,fun i y v hN hσ hv=>?_⟩
  cases i with
  | zero=>simp at hσ
  | succ k =>
   rw[Alf] at hσ
   obtain⟨j,hj,hs⟩:=W8 hσ
   obtain⟨z,hz1,hz2,hz3⟩:=O.cap k j hj
   have hN':Nc[k+1]?=some y:=hN
   rw[hz1] at hN'
   cases hN'
   have mem:(y,NameKind.free)∈scope.names:=PySem.mem_of_lookup hz3
   have hk:=(O.fr _ mem rfl).1
   obtain⟨m,hn,hl⟩:=I.loc
   obtain⟨u,r,l⟩:=hl j y v hz2 hs (.inr (.inl hk))
   refine⟨u,r,?_⟩
   rcases l with ⟨k',_⟩ | ⟨_,c,hc,z⟩
   ·have k'':X.env.scope.names.lookup y=some .local:=k'
    rw[hk] at k'';cases k''
   ·obtain⟨o,ho,hd⟩:=z
    exact .inr ⟨.inl (Gf I.ok.kind hz3 hk),c,(Qj y mem).trans hc,o,old _ _ ho,hd⟩
 cell:=fun y c e=>by
  obtain⟨v,o,ho,hd⟩:=I.cell y c (hcl y c e).1
  exact⟨v,o,old _ _ ho,hd⟩
 free:=I.hok.fresh hC
 Ho:=fun y c e=>I.Ho y c (hcl y c e).1
 pin:=fun p hp=>absurd (show p∈([]:List (Addr × Obj)) from hp) (by simp)
 hok:=I.hok.kept old
 len:=by
  show(none::GK σ Bx).length=Nc.length
  rw[Aks,W7,O.len]
abbrev K8 (us:List Value) (n:Nat):Obj:={ cls:=.type "list", data:=.seq us.toArray n }
theorem Dj{X:Cx}{sc0 scope:Scope}(h:X.env.scope=sc0)(hd:∀ y∈scope.names,y.2=.free→sc0.names.lookup y.1=some .cell∧scope.names.lookup y.1=some .free) :
  ∀ y∈scope.names,y.2=.free→X.env.scope.names.lookup y.1=some .cell∧scope.names.lookup y.1=some .free:=by
 rw[h]
 exact hd
theorem RD{x:Str}{px:Pos}{Nc:List Str}{Bx:List Nat}{scope:Scope}{cl:List (Str × Addr)}{iter elt:Expr}{ifs:List Expr}{pos:Pos}{tc:TT}{te:TE}{Q:VK}{it:Addr}{fp:List Addr}{tn:Nat→Heap→Prop}{J:It}
  {RR:Value→Addr→Result→Shared→Prop}{E:Value→Shared→Prop}
  (O:Ei X x Nc Bx scope) (hc:X.calm=true)
  (hcl:∀ x c,cl.lookup x=some c→X.env.cells.lookup x=some c∧(x,NameKind.free)∈scope.names) (Qj:∀ x,(x,NameKind.free)∈scope.names→cl.lookup x=X.env.cells.lookup x)
  (hte:∀ C fp s H,PE (Ff X Nc scope cl C fp s H) elt te) (htc:∀ C fp s H,PIf (Ff X Nc scope cl C fp s H) ifs tc)
  (I:Inv X pins σ H s) (T:Turn X.prog X.w X.K (.Name x px) J fp it tn) (st:tn 0 s.heap) (hfp:∀ b∈fp,JP X pins H b) (h:Vw Bx tc te J σ H Q)
  (hRR:∀(D C:Addr) (s':Shared) (m:Str→Option Value),s'.heap.Ns C m→(∀ h',Heap.SameBut C s'.heap h'→∃ H',Inv X pins σ H' { s' with heap:=h' }∧H' C=none∧Q (.ref D) H') →
   s.heap.objs.size≤C→RR (.ref D) C (.ok .next) s') :
  wpAny (model X.prog X.w) X.A (newList []) (fun acc s₃=>wpAny (model X.prog X.w) X.A (newFunctionEnv scope X.env.globals cl [] X.env.qual none .none (some X.env)) (fun cenv s₄ =>
   codeAny (model X.prog X.w) X.A (.compStart (.ListComp elt [⟨.Name x px,iter,ifs,0⟩] scope pos) 0 (.ref it) acc { cenv with scope:=relabel scope X.env }) (RR acc cenv.locals) s₄) E s₃) E s:=by
 refine wpAny_newObj_type (wpAny_newFunctionEnv O.cell (by intro y hy;simp at hy) (fun h₁ hns₁ hsb₁=>?_) O.kind)
 dsimp only at hns₁ hsb₁ ⊢
 generalize hH2:s.heap.push { cls:=.type "list", dict:=none,data:=.seq ([]:List Value).toArray }=H2 at hns₁ hsb₁ ⊢
 have hC:H2.objs.size=s.heap.objs.size+1:=by rw[← hH2,Heap.size_push]
 have hCle:s.heap.objs.size≤H2.objs.size:=by rw[hC];exact Ak0 _
 have hDC:s.heap.objs.size≠H2.objs.size:=by rw[hC];exact AjS (Akx _)
 have below:∀ b,b<s.heap.objs.size→b≠H2.objs.size∧b≠s.heap.objs.size:=fun b hb=>⟨by rw[hC];exact AjS (Aku hb),AjS hb⟩
 have old:∀ b o,s.heap.get? b=some o→h₁.get? b=some o:=fun b o e=>hsb₁.extBut b o (below b (Heap.lt_size e)).1 (Heap.get?_push_of_some _ (hH2▸Heap.get?_push_of_some _ e))
 have hacc:h₁.get? s.heap.objs.size=some (K8 [] 0):=hsb₁.extBut _ _ hDC (Heap.get?_push_of_some _ (hH2▸Heap.get?_push_size _ rfl))
 have hfo:∀ b∈fp,b<s.heap.objs.size:=fun b hb=>by
  obtain⟨o,e,_⟩:=T.obj _ _ st b hb
  exact Heap.lt_size e
 have st1:tn 0 h₁:=T.keep _ _ _ st fun b _ o e=>old b o e
 generalize hDD:s.heap.objs.size=D at *
 generalize hCC:H2.objs.size=C at *
 have Afa:D≤C:=hCle
 let Y:Cx:=Ff X Nc scope cl C fp s H
 have I0:Inv Y [] (none::GK σ Bx) H { s with heap:=h₁,toks:=s.toks+([]:List (Str × Value)).length }:=Yx I O hcl Qj (by rw[hDD];exact hCle) hfp (fun b hb=>by rw[hDD];exact hfo b hb) old hns₁
 have Abr:H D=none:=by rw[← hDD];exact I.hok.fresh (AjQ _)
 have Vx:D≠C:=hDC
 have Dfs:D∉Y.fs:=fun z=>by
  have:=I.stack.mem (show D∈frs X.stack from z)
  obtain⟨_,o,e,_⟩:=this
  have:=Heap.lt_size e
  rw[hDD] at this
  exact Akn _ this
 have Abs:∀ y c,Y.env.cells.lookup y=some c→c≠D:=fun y c e z=>by
  obtain⟨v,q⟩:=I.cell y c (hcl y c e).1
  have:=q.lt
  rw[z,hDD] at this
  exact Akn _ this
 have Dfp:∀ b∈fp,b≠D:=fun b hb=>AjS (hfo b hb)
 have fpY:∀{H':Hp},(∀ b∈fp,H' b=none)→∀ b∈fp,JP Y [] H' b:=fun hn b hb =>
  ⟨hn b hb,AjS (Akc (hfo b hb) Afa),fun z=>I0.ok.Ub b hb z,.inl hb,fun y c e=>(I0.ok.exf b hb).2 y c e,fun p hp=>absurd (show p∈([]:List (Addr × Obj)) from hp) (by simp)⟩
 obtain⟨W,⟨m0,w0⟩,turn⟩:=h
 have loop:∀ s₃:Shared,s₃={ s with heap:=h₁,toks:=s.toks+([]:List (Str × Value)).length } →
   codeAny (model X.prog X.w) X.A (.compLoop (.ListComp elt [⟨.Name x px,iter,ifs,0⟩] scope pos) 0 (.ref it) (.ref D) (compEnvC scope cl C X.env)) (RR (.ref D) C) s₃:=by
  rintro s₃ rfl
  refine Ou (fun n s'=>∃(i:Nat) (o:Option V) (H':Hp) (ys:List V) (us:List Value) (k:Nat),Inv Y [] (o::GK σ Bx) H' s'∧tn i s'.heap∧(∀ b∈fp,H' b=none)∧s'.heap.get? D=some (K8 us k)∧H' D=none∧Vals ys us∧W i n ys H')
   ?_ m0 ⟨0,none,H,[],[],0,I0,st1,fun b hb=>(hfp b hb).1,hacc,Abr,.nil,w0⟩
  rintro n s3 ⟨i,o3,H3,ys,us,k,I3,st3,fr3,hD3,nD3,rv,w3⟩
  have fpP:∀{H':Hp} {ob:Obj},(∀ b∈fp,H' b=none)→∀ b∈fp,JP Y [(D,ob)] H' b:=fun hn b hb=>by
   obtain⟨g0,g1,g2,g3,g4,_⟩:=fpY hn b hb
   refine⟨g0,g1,g2,g3,g4,fun p hp=>?_⟩
   have e:p=(D,_):=List.mem_singleton.mp (show p∈[(D,_)] from hp)
   rw[e]
   exact Ne.symm (Dfp b hb)
  have IP:Inv Y [(D,K8 us k)] (o3::GK σ Bx) H3 s3:=I3.Iw fun p hp=>by
   have e:p=(D,K8 us k):=List.mem_singleton.mp hp
   subst e
   exact⟨hD3,nD3,Vx,Dfs,fun v z=>by cases z⟩
  have Yy:∀{σ':St} {H':Hp} {s':Shared} {pl:List (Addr × Obj)},Inv Y ([(D,K8 us k)]++pl) σ' H' s'→s'.heap.get? D=some (K8 us k)∧H' D=none:=fun I'=>by
   have z:=I'.pin (D,K8 us k) (Ako _ (AkB _ Ake))
   exact⟨z.1,z.2.1⟩
  rcases turn i n ys H3 w3 with ⟨stop,hlen,fin⟩ | ⟨go,hlen,step⟩
  ·
   refine wpAny_mono (T.done Y rfl rfl rfl hc i _ s3 _ H3 (fun _ _=>False) IP (fpP fr3) st3 stop) (fun r s4 hr=>?_) fun _ _ z=>z.elim
   obtain⟨hr,I4⟩:=hr
   subst hr
   obtain⟨gD,nD⟩:=Yy (pl:=[]) (by simpa using I4)
   obtain⟨m,hn,_⟩:=I4.loc
   refine hRR D C s4 m hn (fun h' hs'=>⟨upd H3 D (.lst ys),?_,(Aq (Ne.symm Vx)).trans I4.free,fin D nD⟩) hCle
   have nt:∀ b ob,H3 b=some ob→b≠C:=fun b ob e z=>by
    have:=I4.free
    rw[z] at e
    rw[show H3 C=none from this] at e
    cases e
   have u1:Un (frs X.stack) fp H H3 s.heap h':=Un.but I4.base hs' (show s.heap.objs.size≤C by rw[hDD];exact hCle)
   have ok1:HOk X.prog X.w H3 h':=fun b ob e=>(I4.hok b ob e).stay (fun c v hc q=>(hs'.2 c (by
    rcases hc with z | z
    ·rw[z];exact nt b ob e
    ·exact nt c _ z)).trans q) (fun _ q=>q) fun _ _ q=>q
   have gD':h'.get? D=some (K8 us k):=(hs'.2 D Vx).trans gD
   exact I.call' (s':={ s4 with heap:=h' }) (ch:=fp) I4.os (u1.track (AkC hDD) nD) (ok1.track nD ⟨hlen,us,k,rv,gD'⟩) I4.bare fun b hb=>by
    obtain⟨_,g1,_,g3,g4,g5⟩:=hfp b hb
    exact⟨g3,g1,g4,g5⟩
  ·
   refine wpAny_mono (T.item Y rfl rfl rfl hc i _ s3 _ H3 (fun _ _=>False) IP (fpP fr3) st3 go) (fun r s4 hr=>?_) fun _ _ z=>z.elim
   obtain⟨u0,hr,h4⟩:=hr
   subst hr
   refine wpAny_mono h4 (fun _ s5 h5=>?_) fun _ _ z=>z.elim
   obtain⟨x5,H5,I5,r5,y5,st5,fr5⟩:=h5
   have I5':=I5.pinned (fpP fr5) (T.obj _ _ st5)
   have tgt:PG Y (.Name x px) (KD 0):=Bu (i:=0) O.nd O.hd (.inl (Dy I.ok.kind O.loc (by intro z;cases z))) (.inr (Dy I.ok.kind O.loc (by intro z;cases z)))
   refine wpAny_mono (tgt _ s5 _ H5 x5 u0 (fun σ2 H2=>σ2=some x5::GK σ Bx∧H2=H5) I5' r5 ⟨rfl,rfl⟩) (fun _ s6 h6=>?_) fun _ _ z=>z.elim
   obtain⟨_,_,I6,rfl,rfl⟩:=h6
   refine wpAny_mono ((htc C fp s H).run I6 (step x5 _ y5)) (fun b s7 h7=>?_) fun _ _ z=>z.elim
   obtain⟨H7,I7,q7⟩:=h7
   have W9:∀{σ':St} {H':Hp} {s':Shared},Inv Y ([(D,K8 us k)]++Qg fp s5.heap) σ' H' s'→tn (i+1) s'.heap∧∀ b∈fp,H' b=none:=fun I' =>
    ⟨T.keep _ _ _ st5 fun b hb o e=>(I'.pin (b,o) (Ako _ (Ako _ (GJ hb e)))).1,fun b hb=>by
     obtain⟨o,e,d⟩:=T.obj _ _ st5 b hb
     exact(I'.pin (b,o) (Ako _ (Ako _ (GJ hb e)))).2.1⟩
   cases b with
   | false =>
    rw[if_neg Akd] at q7
    rw[if_neg Akd]
    obtain⟨m',hm,w7⟩:=q7
    obtain⟨gD,nD⟩:=Yy I7
    obtain⟨k1,k2⟩:=W9 I7
    exact⟨m',hm,i+1,some x5,H7,ys,us,k,I7.Iw (fun p hp=>nomatch hp),k1,k2,gD,nD,rv,w7⟩
   | true =>
    rw[if_pos rfl] at q7
    rw[if_pos rfl]
    refine wpAny_mono (hte C fp s H _ s7 _ H7 _ I7 q7) (fun u8 s8 h8=>?_) fun _ _ z=>z.elim
    obtain⟨y8,H8,I8,r8,m',hm,w8⟩:=h8
    obtain⟨gD,nD⟩:=Yy I8
    obtain⟨k1,k2⟩:=W9 I8
    refine call_meets F.slot_list_append ⟨_,gD,rfl⟩ F.entry_list_append (F.args_list_append_2 _ _) (PySem.list_append D us.toArray k u8 (by rw[AjZ,← rv.length];omega)) ⟨gD,?_⟩
    have q:=PySem.IsL.update gD (·.push u8)
    have e1:us.toArray.push u8=(us++[u8]).toArray:=by simp
    rw[e1] at q
    have I8':Inv Y [] (some x5::GK σ Bx) H8 s8:=I8.Iw (fun p hp=>nomatch hp)
    have I9:Inv Y [] (some x5::GK σ Bx) H8 { s8 with heap:=s8.heap.update D (Obj.mapSeq (·.push u8)),toks:=s8.toks } :=
     I8'.turned (it:=D) (fun b o hb e=>(Heap.get?_update_other s8.heap (Obj.mapSeq (·.push u8)) (Ne.symm hb)).trans e) nD Vx (.inr (AkC hDD)) Abs (fun p hp=>nomatch hp)
    refine⟨m',hm,i+1,some x5,H8,ys++[y8],us++[u8],_,I9,T.keep _ _ _ k1 fun b hb o e=>(Heap.get?_update_other s8.heap (Obj.mapSeq (·.push u8)) (Ne.symm (Dfp b hb))).trans e,k2,q,nD,rv.append (.cons r8 .nil),w8⟩
 exact codeAny_compStart_list (loop _ rfl) (T.self X.A 0 _ _ _ st1 (loop _ rfl))
theorem Gm{x:Str}{px pos:Pos}{Nc:List Str}{Bx:List Nat}{scope:Scope}{iter elt:Expr}{ifs:List Expr}{wi:TI}{tc:TT}{te:TE}(O:Ei X x Nc Bx scope)(hc:X.calm=true)(hi:PI X (.Name x px) iter wi)
  (htc:∀ cl C fp s H,PIf (Ff X Nc scope cl C fp s H) ifs tc) (hte:∀ cl C fp s H,PE (Ff X Nc scope cl C fp s H) elt te) (hs:∀ x,foldedSetIterable iter X.env x=pure x:=by intro _;rfl) :
  PE X (.ListComp elt [⟨.Name x px,iter,ifs,0⟩] scope pos) (Aep wi Bx tc te):=by
 intro pins s σ H Q I h
 rw[eval_ListComp]
 obtain⟨cl,e1,e2,e3⟩:=Nj (scope:=scope) (env:=X.env) fun y hy hf=>I.ok.has y.1 (.inl (O.fr y hy hf).1)
 refine wpAny_comprehension_free (use:=none) rfl hs e1 O.kind O.names (thn (hi pins s σ H _ I h) fun v s1 h1=>thn h1 fun itv s2 h2=>?_)
 obtain⟨it,fp,tn,J,H2,e,I2,T,st2,f2,w2⟩:=h2
 subst e
 refine RD (RR:=fun acc C=>compPost (model X.prog X.w) X.A X.xe none (EP X pins σ Q) acc C) O hc e2 e3 (hte cl) (htc cl) I2 T st2 f2 w2 ?_
 intro D C s' m hn hq hC
 refine⟨m,hn,fun h' hs'=>?_⟩
 obtain⟨H',I',_,q⟩:=hq h' hs'
 exact⟨.ref D,H',I',rfl,q⟩
theorem Vy{i:Nat}{y x:Str}{px py pos spos:Pos}{Nc:List Str}{Bx:List Nat}{scope:Scope}{iter elt:Expr}{ifs:List Expr}{wi:TI}{tc:TT}{te:TE}(O:Ei X x Nc Bx scope)(hc:X.calm=true)
  (hN:X.N.Nodup) (hy:X.N[i]?=some y) (hx:X.env.scope.names.lookup y=some .local) (hi:PI X (.Name x px) iter wi)
  (htc:∀ cl C fp s H,PIf (Ff X Nc scope cl C fp s H) ifs tc) (hte:∀ cl C fp s H,PE (Ff X Nc scope cl C fp s H) elt te)
  (hsw:swapsWith (.ListComp elt [⟨.Name x px,iter,ifs,0⟩] scope pos) (some (.Name y py)) spos.line X.env=pure true) (hs:∀ x,foldedSetIterable iter X.env x=pure x:=by intro _;rfl) :
  PS X (.Assign [.Name y py] (.ListComp elt [⟨.Name x px,iter,ifs,0⟩] scope pos) spos) (AaY (Aep wi Bx tc te) (KD i)):=by
 intro pins s σ H Dn I h
 rw[exec_Assign_Name_used _ _ _ _ hsw]
 refine wpAny_bind (wpAny_standAt (wpAny_bind ?_))
 obtain⟨cl,e1,e2,e3⟩:=Nj (scope:=scope) (env:=X.env) fun y hy hf=>I.ok.has y.1 (.inl (O.fr y hy hf).1)
 show wpAny _ X.A (do let _ ← comprehension (.ListComp elt [⟨.Name x px,iter,ifs,0⟩] scope pos) scope X.env _ (newList []) false (eval iter X.env) (some (assign (.Name y py) X.env))) _ _ s
 refine wpAny_bind (wpAny_mono (wpAny_comprehension_free (use:=some (assign (.Name y py) X.env)) (Q:=fun _ s'=>SP X pins Dn .next s') rfl hs e1 O.kind O.names
  (thn (hi pins s σ H _ I h) fun v s1 h1=>thn h1 fun itv s2 h2=>?_)) (fun _ s' hq=>wpAny_pure (wpAny_pure hq)) fun _ _ e=>e)
 obtain⟨it,fp,tn,J,H2,e,I2,T,st2,f2,w2⟩:=h2
 subst e
 refine RD (RR:=fun acc C=>compPost (model X.prog X.w) X.A X.xe (some (assign (.Name y py) X.env)) (fun _ s'=>SP X pins Dn .next s') acc C) O hc e2 e3 (hte cl) (htc cl) I2 T st2 f2 w2 ?_
 intro D C s' m hn hq hC
 show wpAny _ X.A (assign (.Name y py) X.env (.ref D)) _ _ _
 obtain⟨H',I',nC,q⟩:=hq s'.heap (.refl ..)
 have I'':Inv X pins σ H' s':=I'
 have CL:C≠X.env.locals:=Akq (Akc I2.lt hC)
 have Aeq:∀ y c,X.env.cells.lookup y=some c→c≠C:=fun y c e z=>by
  obtain⟨v,q⟩:=I2.cell y c e
  have:=Akc q.lt hC
  rw[z] at this
  exact Akn _ this
 refine wpAny_assign_Name (Us I'' hN hy (.inl hx) (show RelV (.ref D) (.ref D) from rfl) (fun s3 I3 hsb=>?_) (.inr hx))
 obtain⟨a,hsb,ha⟩:=hsb
 have aC:C≠a:=by
  rcases ha with z | z
  ·rw[z];exact CL
  ·exact Ne.symm (Aeq _ _ z)
 refine⟨m,hn.sameBut hsb aC,fun h4 hs4=>?_⟩
 refine⟨_,H',I3.turned (it:=C) (t':=s3.toks) (fun b o hb e=>(hs4.2 b hb).trans e) nC CL (.inr (Akg I2.sz hC)) Aeq (fun p hp z=>?_),q⟩
 ·have:=Akc (Heap.lt_size (I2.pin p hp).1) hC
  rw[z] at this
  exact Akn _ this
end
open PySem PySem.Spec PyProof.Rows
def Its (x:Str):It:=⟨fun i _=>i<x.cps.size,fun i H v H'=>H'=H∧∃ c,x.cps[i]?=some c∧v=.str ⟨#[c]⟩,fun i _=>x.cps.size≤i⟩
theorem Aaj{P:Program}{w:World}{K:PySem.W.Frag}{tg:Expr}(it:Addr)(x:Str)(t:Tok):Turn P w K tg (Its x) [it] it (fun i h=>i≤x.cps.size∧h.IsStrIter it "str_ascii_iterator" x t i) where
 mem:=by simp
 obj:=fun i h st b hb=>by
  have e:b=it:=by simpa using hb
  subst e
  obtain⟨_,o,e,c,d⟩:=st
  exact⟨o,e,fun v z=>by rw[d] at z;cases z⟩
 keep:=fun i h h' st k=>by
  obtain⟨hl,o,e,c,d⟩:=st
  exact⟨hl,o,k it (by simp) o e,c,d⟩
 item:=by
  intro X hP hw hK hc i pins s σ H E I hf st hg
  subst hP hw hK
  obtain⟨hl,st⟩:=st
  have hg:i<x.cps.size:=hg
  obtain⟨f0,f1,f2,f3,f4,f5⟩:=hf it (by simp)
  have hx:x.cps[i]?=some x.cps[i]:=by simp[hg]
  refine wpAny_pyNext_ascii_item st hx fun h' st' sb=>?_
  have I1:Inv X pins σ H { s with heap:=h',toks:=s.toks+1 }:=I.turned (fun b o hb e=>(sb.2 b hb).trans e) f0 f1 f3 f4 f5
  obtain⟨o,e,c,d⟩:=id st'
  exact⟨_,rfl,Zi (s:={ s with heap:=h',toks:=s.toks+1 }) e c d (by decide) ⟨.str ⟨#[x.cps[i]]⟩,H,I1,⟨_,rfl⟩,⟨rfl,_,hx,rfl⟩,⟨hg,st'⟩,fun b hb=>(hf b hb).1⟩⟩
 done:=by
  intro X hP hw hK hc i pins s σ H E I hf st hg
  subst hP hw hK
  obtain⟨hl,st⟩:=st
  have hg:x.cps.size≤i:=hg
  obtain⟨f0,f1,f2,f3,f4,f5⟩:=hf it (by simp)
  exact wpAny_pyNext_ascii_end (I.ok.hd hc) st (by simp;omega) fun h' eb=>⟨rfl,I.turned (t':=s.toks) (fun b o hb e=>eb b o hb e) f0 f1 f3 f4 f5⟩
 self:=fun _ _ _ _ _ st h=>wpAny_pyIter_striter_ascii st.2 h
theorem Aak{P:Program}{w:World}{K:PySem.W.Frag}{tg:Expr}(it:Addr)(x:Str)(t:Tok):Turn P w K tg (Its x) [it] it (fun i h=>i≤x.cps.size∧h.IsStrIter it "str_iterator" x t i) where
 mem:=by simp
 obj:=fun i h st b hb=>by
  have e:b=it:=by simpa using hb
  subst e
  obtain⟨_,o,e,c,d⟩:=st
  exact⟨o,e,fun v z=>by rw[d] at z;cases z⟩
 keep:=fun i h h' st k=>by
  obtain⟨hl,o,e,c,d⟩:=st
  exact⟨hl,o,k it (by simp) o e,c,d⟩
 item:=by
  intro X hP hw hK hc i pins s σ H E I hf st hg
  subst hP hw hK
  obtain⟨hl,st⟩:=st
  have hg:i<x.cps.size:=hg
  obtain⟨f0,f1,f2,f3,f4,f5⟩:=hf it (by simp)
  have hx:x.cps[i]?=some x.cps[i]:=by simp[hg]
  refine wpAny_pyNext_wide_item st hx fun h' st' sb=>?_
  have I1:Inv X pins σ H { s with heap:=h',toks:=s.toks+1 }:=I.turned (fun b o hb e=>(sb.2 b hb).trans e) f0 f1 f3 f4 f5
  obtain⟨o,e,c,d⟩:=id st'
  exact⟨_,rfl,Zi (s:={ s with heap:=h',toks:=s.toks+1 }) e c d (by decide) ⟨.str ⟨#[x.cps[i]]⟩,H,I1,⟨_,rfl⟩,⟨rfl,_,hx,rfl⟩,⟨hg,st'⟩,fun b hb=>(hf b hb).1⟩⟩
 done:=by
  intro X hP hw hK hc i pins s σ H E I hf st hg
  subst hP hw hK
  obtain⟨hl,st⟩:=st
  have hg:x.cps.size≤i:=hg
  obtain⟨f0,f1,f2,f3,f4,f5⟩:=hf it (by simp)
  exact wpAny_pyNext_wide_end (I.ok.hd hc) st (by simp;omega) fun h' eb=>⟨rfl,I.turned (t':=s.toks) (fun b o hb e=>eb b o hb e) f0 f1 f3 f4 f5⟩
 self:=fun _ _ _ _ _ st h=>wpAny_pyIter_striter_wide st.2 h
section
variable {X:Cx}{tg:Expr}
def Aid (tl:TE):TI:=fun σ H R=>tl σ H fun x H1=>∃ z,x=.str z∧R (Its z) H1
theorem Nk{l:Expr}{tl:TE}(hl:PE X l tl):PI X tg l (Aid tl):=by
 intro pins s σ H R I h
 refine thn (hl pins s σ H _ I h) fun v s1 ⟨x,H1,I1,r1,q1⟩=>?_
 obtain⟨z,e,q⟩:=q1
 subst e
 obtain⟨t,rfl⟩:=r1
 have fpn:∀ b∈[s1.heap.objs.size],JP X pins H1 b:=fun b hb=>by
  have e:b=s1.heap.objs.size:=by simpa using hb
  subst e
  exact I1.AcL (AjQ _) (I1.hok.fresh (AjQ _))
 cases ha:z.cps.all (·<128)
 ·refine wpAny_pyIter_wide ha ?_
  exact⟨s1.heap.objs.size,[s1.heap.objs.size],_,_,H1,rfl,I1.kept (t':=s1.toks) fun b o e=>Heap.get?_push_of_some _ e,Aak _ z t,⟨Akb _,_,Heap.get?_push_size _ rfl,rfl,rfl⟩,fpn,q⟩
 ·refine wpAny_pyIter_ascii ha ?_
  exact⟨s1.heap.objs.size,[s1.heap.objs.size],_,_,H1,rfl,I1.kept (t':=s1.toks) fun b o e=>Heap.get?_push_of_some _ e,Aaj _ z t,⟨Akb _,_,Heap.get?_push_size _ rfl,rfl,rfl⟩,fpn,q⟩
end
theorem JS{z:Str}{g:TG}{tb:TS}{D:Ends}{σ:St}{H:Hp}(Pv:Nat→St→Hp→Prop)(h0:Pv 0 σ H)
  (hs:∀ i c σ H,z.cps[i]?=some c→Pv i σ H→g (.str ⟨#[c]⟩) σ H fun σ2 H2=>tb { D with nx:=Pv (i+1),ct:=Pv (i+1),bk:=D.nx } σ2 H2) (hd:∀ σ H,Pv z.cps.size σ H→D.nx σ H) :
  ∃ W:Nat→Nat→St→Hp→Prop,(∃ m,W 0 m σ H)∧∀ i m σ H,W i m σ H →
   ((Its z).stop i H∧D.nx σ H)∨((Its z).go i H∧∃ N:St→Hp→Prop,(∀ σ' H',N σ' H'→∃ m',m'<m∧W (i+1) m' σ' H')∧∀ x H',(Its z).yld i H x H'→g x σ H' fun σ2 H2=>tb { D with nx:=N,ct:=N,bk:=D.nx } σ2 H2):=by
 refine⟨fun i m σ H=>m=z.cps.size-i∧i≤z.cps.size∧Pv i σ H,⟨z.cps.size,by simp,Akb _,h0⟩,?_⟩
 rintro i m σ H ⟨rfl,hi,p⟩
 by_cases hlt:i<z.cps.size
 ·refine .inr ⟨hlt,Pv (i+1),fun σ' H' p'=>⟨z.cps.size-(i+1),by omega,rfl,hlt,p'⟩,fun x H' y=>?_⟩
  obtain⟨e,c,hc,rfl⟩:=y
  subst e
  exact hs i c σ _ hc p
 ·have e:i=z.cps.size:=by omega
  subst e
  exact .inl ⟨AjQ _,hd σ H p⟩
def CN (n:Nat)(Pv:Nat→List V→Hp→Prop)(i:Nat)(ys:List V)(H:Hp):Prop:=∃ m',m'<n-i∧m'=n-(i+1)∧i+1≤n∧Pv (i+1) ys H
theorem CN.of{n:Nat}{Pv:Nat→List V→Hp→Prop}{i:Nat}{ys:List V}{H:Hp}(h:i<n)(p:Pv (i+1) ys H):CN n Pv i ys H:=⟨n-(i+1),by omega,rfl,h,p⟩
def Ge (n:Nat)(Pv:Nat→List V→Hp→Prop)(tc:TT)(te:TE)(σ:St)(i:Nat)(ys:List V)(H:Hp):Prop :=
 tc σ H fun b H2=>if b=true then te σ H2 fun y H3=>CN n Pv i (ys++[y]) H3 else CN n Pv i ys H2
theorem Ge.no{n:Nat}{Pv:Nat→List V→Hp→Prop}{te:TE}{σ:St}{i:Nat}{ys:List V}{H:Hp}(h:te σ H fun y H3=>CN n Pv i (ys++[y]) H3):Ge n Pv Vv te σ i ys H:=by
 unfold Ge Vv
 exact Iu h
theorem GP{K:PySem.W.Frag}{a:Addr}{xs:List V}{Bx:List Nat}{tc:TT}{te:TE}{σ:St}{H:Hp}{Q:VK}(Pv:Nat→List V→Hp→Prop)(h0:Pv 0 [] H)(hl:∀ i ys H,i≤xs.length→Pv i ys H→SqL K H a xs∧ys.length≤i)
  (hz:xs.length≤sizeLine) (hs:∀ i x ys H,i<xs.length→xs[i]?=some x→Pv i ys H→Ge xs.length Pv tc te (some x::GK σ Bx) i ys H)
  (hd:∀ ys H p,Pv xs.length ys H→H p=none→Q (.ref p) (upd H p (.lst ys))):Vw Bx tc te (Itl K a) σ H Q:=by
 refine⟨fun i m ys H=>m=xs.length-i∧i≤xs.length∧Pv i ys H,⟨xs.length,by simp,Akb _,h0⟩,?_⟩
 rintro i m ys H ⟨rfl,hi,p⟩
 obtain⟨q,hy⟩:=hl i ys H hi p
 by_cases hlt:i<xs.length
 ·refine .inr ⟨⟨xs,xs[i],q,by simp[hlt]⟩,by omega,fun x H' y=>?_⟩
  obtain⟨e,y⟩:=y
  subst e
  exact hs i x ys _ hlt (y xs q) p
 ·have e:i=xs.length:=by omega
  subst e
  exact .inl ⟨⟨xs,q,AjQ _⟩,by omega,fun p' hp=>hd ys H p' p hp⟩
theorem Fo{lo:Int}{n:Nat}{Bx:List Nat}{tc:TT}{te:TE}{σ:St}{H:Hp}{Q:VK}(Pv:Nat→List V→Hp→Prop)(h0:Pv 0 [] H)(hl:∀ i ys H,i≤n→Pv i ys H→ys.length≤i)
  (hz:n≤sizeLine) (hs:∀ i ys H,i<n→Pv i ys H→Ge n Pv tc te (some (.int (lo+i))::GK σ Bx) i ys H)
  (hd:∀ ys H p,Pv n ys H→H p=none→Q (.ref p) (upd H p (.lst ys))):Vw Bx tc te (Itr lo n) σ H Q:=by
 refine⟨fun i m ys H=>m=n-i∧i≤n∧Pv i ys H,⟨n,by simp,Akb _,h0⟩,?_⟩
 rintro i m ys H ⟨rfl,hi,p⟩
 have hy:=hl i ys H hi p
 by_cases hlt:i<n
 ·refine .inr ⟨hlt,by omega,fun x H' y=>?_⟩
  obtain⟨e,y⟩:=y
  subst e y
  exact hs i ys _ hlt p
 ·have e:i=n:=by omega
  subst e
  exact .inl ⟨AjQ _,by omega,fun p' hp=>hd ys H p' p hp⟩
theorem Yz{ys:List Str}:∀{us:List Value},Vals (ys.map V.str) us→StrsAre us ys:=by
 induction ys with
 | nil=>intro us r;rw[Akv] at r;cases r;exact .nil
 | cons n ns ih =>
  intro us r
  rw[AjX] at r
  cases r with
  | cons r1 r2 =>
   obtain⟨t,e⟩:=r1
   subst e
   exact .cons n t (ih r2)
def rJoin(K:PySem.W.Frag):V→List V→Hp→VK→Prop:=fun x vs H Q=>∃ z a ys,x=.str z∧vs=[.ref a]∧SqL K H a (ys.map V.str)∧(ys.map (·.length)).sum+ys.length*z.length≤16777216∧Q (.str (Txt.join z ys)) H
section
variable {X:Cx}
theorem AcY:MtR X "str.join" (rJoin X.K):=by
 intro pins s σ H x vs v us Q I rx rv h
 obtain⟨z,a,ys,rfl,rfl,hq,hz,q⟩:=h
 obtain⟨t,rfl⟩:=rx
 obtain⟨u,rfl,ru⟩:=rv.one
 cases ru
 obtain⟨its,r,pl,hl⟩:=I.list hq
 exact join_list pl.isList (Yz (by simpa using r)) hz fun t' k=>⟨.str _,H,I.tok _,⟨_,rfl⟩,q⟩
def Aj5 (K:PySem.W.Frag):List V→Hp→VK→Prop:=fun vs H Q=>∃ x t b,Rq K H x t ∧
 ((∃ n,vs=[x,.ty n]∧PySem.W.kitOne K t (.type n)=some b)∨(∃ a,vs=[x,.ref a]∧PySem.W.kitOne K t (.ref a)=some b))∧Q (.bl b) H
def eqL:List V→List V→Bool
 | [],[]=>true
 | x::xs,y::ys=>eqV x y && eqL xs ys
 | _,_=>false
theorem Abt{x:V}(h:Gb x=true):eqV x x=true:=by
 cases x with
 | non=>rfl
 | bl b=>simp[eqV]
 | int i=>simp[eqV]
 | str z=>simp[eqV]
 | _=>exact absurd (show false=true from h) Akd
def Aj6 (K:PySem.W.Frag):R2:=fun x y H Q=>∃ p q xs ys,x=.ref p∧y=.ref q∧SqL K H p xs∧SqL K H q ys∧xs.all Gb=true∧ys.all Gb=true∧Q (.bl (eqL xs ys)) H
end
open PySem
def tx (l:List Nat):Str:=⟨l.toArray⟩
theorem Ax(l:List Nat):(tx l).length=l.length:=by simp[tx,Str.length]
theorem AcZ(l:List Nat):(tx l).cps.size=l.length:=by simp[tx]
theorem Zt(l:List Nat):(tx l).cps.toList=l:=by simp[tx]
theorem JT(l:List Nat)(i:Nat):(tx l).cps[i]?=l[i]?:=by simp[tx]
theorem G3(a b:List Nat):tx a++tx b=tx (a++b):=by
 show Str.append (tx a) (tx b)=_
 simp[tx,Str.append]
theorem Vz{a b:List Nat}(h:tx a=tx b):a=b:=by
 have:=congrArg (fun z:Str=>z.cps.toList) h
 simpa [tx] using this
theorem Fp(c:Nat):(⟨#[c]⟩:Str)=tx [c]:=rfl
theorem Uy:∀(ys:List (List Nat)) (acc:Array Nat),(ys.map tx).foldl (fun acc p=>acc++(tx []).cps++p.cps) acc=acc++ys.flatten.toArray
 | [],acc=>by simp
 | y::ys,acc=>by
  rw[AjX,List.foldl_cons,Uy ys]
  simp[tx]
theorem LR:∀(ys:List (List Nat)),Txt.join (tx []) (ys.map tx)=tx ys.flatten
 | []=>by simp[Txt.join,Builtin.Str.glued,tx,Str.empty]
 | y::ys=>by
  show Str.mk _=_
  simp only [AjX,List.drop_one,List.tail_cons,List.headD_cons]
  rw[Uy]
  simp[tx]
theorem Uz{α:Type}(f:α→Nat):∀(l:List α),(l.map fun c=>[f c]).flatten=l.map f
 | []=>rfl
 | a::l=>by rw[AjX,AkT,Uz f l];rfl
theorem Aal{α:Type}(f:α→Nat):∀(l:List α),(((l.map fun c=>[f c]).map tx).map (·.length)).sum=l.length
 | []=>rfl
 | a::l=>by
  rw[AjX,AjX,AjX,List.sum_cons,Aal f l,Ax,Aks]
  show 1+l.length=l.length+1
  omega
end L2
namespace PySem
open Sem (wp)
open Builtin Builtin.Str Builtin.Int
namespace RV
end RV
def Aj7 (x:Str)(t:Tok)(i:Int):Obj:={ cls:=.type "reversed", data:=.fields #[.str x t,rawInt i] }
def Heap.Afb(h:Heap)(a:Addr)(x:Str)(t:Tok)(i:Int):Prop:=∃ o,h.get? a=some o∧o.cls=.type "reversed" ∧ o.data=.fields #[.str x t,rawInt i]
section
variable {prog:Program}{w:World}{A:Around}{E:Value→Shared→Prop}{s:Shared}
end
end PySem
namespace L2
open PySem PySem.Spec PyProof.Rows
def Aj8 (p:Addr)(x:Str):HO:=.ext fun h=>∃ t,h.Afb p x t ((x.length:Int)-1)
def Aj9 (p:Addr):HO:=.ext fun h=>∃ o,h.get? p=some o
section
variable {X:Cx}
theorem RG(hc:X.calm=true:=by rfl):HY X (.builtin "max") (fun xs H Q=>∃ i j,xs=[.int i,.int j]∧Q (.int (if j>i then j else i)) H):=Aad hc
end
open PySem PySem.Spec PyProof.Rows
theorem By{c A B:Prop}[Decidable c](h:¬c)(k:B):if decide c=true then A else B:=by rw[decide_eq_false h];exact Hr k
theorem Ej{c A B:Prop}[Decidable c](h:c)(k:A):if decide c=true then A else B:=by rw[decide_eq_true h];exact Iu k
theorem M5{c A B:Prop}[Decidable c](h:¬c)(k:A):if (!decide c)=true then A else B:=by rw[decide_eq_false h];exact Iu k
theorem Aie{b:Bool}{A B:Prop}(h1:b=true→A)(h2:b=false→B):if b=true then A else B:=by
 cases b with
 | true=>exact Iu (h1 rfl)
 | false=>exact Hr (h2 rfl)
theorem CJ{c A B:Prop}[Decidable c](h1:c→A)(h2:¬c→B):if decide c=true then A else B:=by
 by_cases h:c
 ·exact Ej h (h1 h)
 ·exact By h (h2 h)
theorem Av.upd{H:Hp}{p:Addr}{o:HO}(h:H p=none):Av H (L2.upd H p o):=fun b o' e=>by rw[Aq (BP e h)];exact e
theorem Av.new{H H1:Hp}{p:Addr}{o:HO}(e:Av H H1)(h:H1 p=none):Av H (L2.upd H1 p o):=e.trans (.upd h)
theorem Av.over{H H1:Hp}{p:Addr}{o:HO}(e:Av H H1)(h:H p=none):Av H (L2.upd H1 p o):=fun b o' q=>by rw[Aq (BP q h)];exact e b o' q
theorem Bs:bootBuiltins "len" = some (.builtin "len"):=by decide +kernel
theorem Bl:bootBuiltins "isinstance" = some (.builtin "isinstance"):=by decide +kernel
theorem Abu:bootBuiltins "min" = some (.builtin "min"):=by decide +kernel
theorem Abv:bootBuiltins "max" = some (.builtin "max"):=by decide +kernel
theorem Aam:bootBuiltins "sorted" = some (.builtin "sorted"):=by decide +kernel
theorem Hg:bootBuiltins "list" = some (.type "list"):=by decide +kernel
theorem WD:bootBuiltins "reversed" = some (.type "reversed"):=by decide +kernel
theorem V0:bootBuiltins "enumerate" = some (.type "enumerate"):=by decide +kernel
theorem Afc:bootBuiltins "zip" = some (.type "zip"):=by decide +kernel
theorem Abw:bootBuiltins "range" = some (.type "range"):=by decide +kernel
theorem Afd:bootBuiltins "set" = some (.type "set"):=by decide +kernel
structure Df (K:PySem.W.Frag) (mg:Str→Option Value) (x:Str) (st:Stmt) (ps:List Str) (f:Addr) (fd:FuncData):Prop where
 F:Fun K x x st f fd
 m:mg x=some (.ref f)
 b:Binds K fd ps []
def vS (cl:List (List Nat)):List V:=cl.map fun t=>V.str (tx t)
def vI (ns:List Int):List V:=ns.map V.int
theorem BJ(cl:List (List Nat)):(vS cl).length=cl.length:=by unfold vS;rw[AjP]
theorem BR(ns:List Int):(vI ns).length=ns.length:=by unfold vI;rw[AjP]
theorem GQ{cl:List (List Nat)}{i:Nat}{t:List Nat}(h:cl[i]?=some t):(vS cl)[i]?=some (.str (tx t)):=by unfold vS;rw[Aka,h];rfl
theorem Ib{ns:List Int}{i:Nat}{n:Int}(h:ns[i]?=some n):(vI ns)[i]?=some (.int n):=by unfold vI;rw[Aka,h];rfl
theorem GR{cl:List (List Nat)}{i:Nat}{v:V}(h:(vS cl)[i]?=some v):∃ t,cl[i]?=some t∧v=.str (tx t):=by
 unfold vS at h
 rw[Aka] at h
 cases e:cl[i]? with
 | none=>rw[e] at h;cases h
 | some t=>rw[e] at h;exact⟨t,rfl,(Option.some.inj h).symm⟩
theorem Nm{ns:List Int}{i:Nat}{v:V}(h:(vI ns)[i]?=some v):∃ t,ns[i]?=some t∧v=.int t:=by
 unfold vI at h
 rw[Aka] at h
 cases e:ns[i]? with
 | none=>rw[e] at h;cases h
 | some t=>rw[e] at h;exact⟨t,rfl,(Option.some.inj h).symm⟩
theorem Ada(cl:List (List Nat)):(vS cl).all Gb=true:=by unfold vS;rw[List.all_map];exact List.all_eq_true.mpr fun _ _=>rfl
theorem KH(cl:List (List Nat)):vS cl=(cl.map tx).map V.str:=by unfold vS;rw[List.map_map];rfl
theorem Afe(ns:List Int)(j:Nat)(n:Int):(vI ns).set j (.int n)=vI (ns.set j n):=by unfold vI;rw[List.map_set]
theorem Ie(ns:List Int)(n:Int):vI ns++[.int n]=vI (ns++[n]):=by unfold vI;rw[AjY];rfl
theorem Gh(cl:List (List Nat))(t:List Nat):vS cl++[.str (tx t)]=vS (cl++[t]):=by unfold vS;rw[AjY];rfl
theorem Bm{α:Type}{xs:List α}{i:Int}{v:α}(h0:0≤i)(h:xs[i.toNat]?=some v):atI xs i=some v:=by
 have e:i=(i.toNat:Int):=by omega
 rw[e]
 exact Zq h
theorem Afg{n:Nat}{i:Int}(h0:0≤i)(h:i<n):ixN n i=some i.toNat:=by unfold ixN;rw[if_pos h0,if_pos h]
open PySem PySem.Spec PyProof.Rows
section
variable {X:Cx}{K:PySem.W.Frag}{tg:Expr}
theorem Ay(hK:X.K=K:=by rfl):IxR X (AeU K):=by subst hK;exact AcT
theorem BX(hK:X.K=K:=by rfl):IxR X (AeV K):=by subst hK;exact AeW
theorem Ud(hK:X.K=K:=by rfl):OpR X (compareOp .NotIn) (rIn K true):=by subst hK;exact Vr
theorem Ar(hK:X.K=K:=by rfl):HY X (.builtin "len") (fun xs H Q=>∃ p ys,xs=[.ref p]∧(SqL K H p ys∨SqT K H p ys)∧Q (.int ys.length) H):=by subst hK;exact Vs
theorem Ea(hK:X.K=K:=by rfl):HY X (.type "list") (fun xs H Q=>∃ p ys,xs=[.ref p]∧(SqL K H p ys∨SqT K H p ys)∧∀ l,H l=none→Q (.ref l) (upd H l (.lst ys))):=by subst hK;exact Vt
theorem Jx(hK:X.K=K:=by rfl):MtR X "str.join" (rJoin K):=by subst hK;exact AcY
theorem WL(hK:X.K=K:=by rfl):SlR X (Ag1 K):=by subst hK;exact AcU
theorem Cz{l:Expr}{tl:TE}(hl:PE X l tl)(hK:X.K=K:=by rfl):PI X tg l (Aej K tl):=by subst hK;exact AcM hl
theorem Aan{a:Expr}{ta:TE}(ha:PE X a ta)(he:∀ whole,isTrue a X.env whole=(do let v ← whole;standAt a.pos;holding [v] (truthy v)))(hK:X.K=K:=by rfl) :
  PT X a (fun σ H Q=>ta σ H fun x H'=>∃ k,AeP K x H' k∧Q k H'):=by subst hK;exact Abh ha he
variable {o e:Expr}{es:List Expr}{to:TE}{t:TA}{name:Str}{apos cpos:Pos}{T id:String}{r:V→List V→Hp→VK→Prop}
theorem Dh(pa:PlainAttrs T)(slot:Slot T name id)(hty:typeOf (.builtin id)=pure (.type "method_descriptor")) (hm:MtR X id r) (ho:PE X o to) (ha:PA X (e::es) t)
  (hbase:attributeBase o name X.env (eval o X.env)=eval o X.env:=by rfl)
  (hfew:((backTo cpos (starEach (e::es) X.env)).all (fun x=>!x.1) && (backToKw cpos (keywordEach [] X.env)).all (fun x=>x.1.isSome)
   && decide ((e::es).length+([]:List Keyword).length+(if ([]:List Keyword).isEmpty then 0 else 1)<30))=true:=by rfl)
  (hline:(apos.endLine == cpos.line)=true:=by rfl) (hs:starEach (e::es) X.env=(false,eval e X.env)::starEach es X.env:=by rfl) (hplain:(backTo cpos (starEach es X.env)).any (·.1)=false:=by rfl) (hK:X.K=K:=by rfl) :
  PE X (.Call (.Attribute o name apos) (e::es) [] cpos) (tBM K T r to t):=by
 subst hK
 exact Ag2 pa slot hty hm ho ha hbase hfew hline hs hplain
end
open PySem PySem.Spec PyProof.Rows
abbrev exO (C t:Addr) (tb:Value):Obj:={ cls:=.ref C,data:=.fields #[.ref t,tb,.none,.none,.bool false,.none] }
structure Fx (B:Heap) (l:List Env) (e C t:Addr) (fl:Value) (h:Heap):Prop where
 st:B.StaysIn h
 ne:B.get? e=none
 fr:h.FunFrames B l
 ob:∃(T:Addr) (oT:Obj) (ts:Array Value),h.get? e=some (exO C t (.ref T))∧B.get? T=none∧T≠e∧h.get? T=some oT∧oT.data=.fields ts∧ts[3]?=some fl
theorem Fx.outer{B:Heap}{env:Env}{l:List Env}{e C t:Addr}{fl:Value}{h:Heap}(x:Fx B (env::l) e C t fl h):Fx B l e C t fl h:=⟨x.st,x.ne,x.fr.2.2,x.ob⟩
section
variable {M:Model}{A:Around}{E:Value→Shared→Prop}{s:Shared}{B:Heap}{env:Env}{l:List Env}{e C t L:Addr}
theorem V1{fl:Value}{Q:Unit→Shared→Prop}(x:Fx B l e C t fl s.heap)(k:∀ h',Fx B l e C t .none h'→s.heap.UpToSlots h'→Q () { s with heap:=h' }):wpAny M A (setFlight (.ref e) none) Q E s:=by
 obtain⟨st,ne,fr,T,oT,ts,hE,hBT,hTe,hT,hdT,h3⟩:=x
 have h3s:3<ts.size:=(Array.getElem?_eq_some_iff.mp h3).1
 unfold setFlight
 refine wpAny_bind (wpAny_field hE rfl (x:=.ref T) rfl ?_)
 rw[if_pos (show(Value.ref T != Value.none)=true by simp)]
 refine wpAny_setField hT hdT h3s (k _ ?_ ?_)
 all_goals
  have oth:∀ b,b≠T→(s.heap.update T (Obj.mapFields (·.setIfInBounds 3 ((none:Option Addr).elim Value.none fun f=>rawInt f)))).get? b=s.heap.get? b:=fun b hb=>Heap.get?_update_other _ _ (Ne.symm hb)
  have RJ:∀ b o,s.heap.get? b=some o→(∀ vs,o.data≠.fields vs)→b≠T:=fun b o hb hn q=>by
   rw[q,hT] at hb
   cases hb
   exact hn ts hdT
 ·refine⟨fun b o hb=>(oth b fun q=>by rw[q,hBT] at hb;cases hb).trans (st b o hb),ne,fr.of_keeps fun b o hb hn=>⟨o,(oth b (RJ b o hb hn)).trans hb,rfl⟩,T,_,_,(oth e (Ne.symm hTe)).trans hE,hBT,hTe,
   Heap.get?_update_self _ hT (Obj.isFreed_of_fields (Obj.data_mapFields hdT _)),Obj.data_mapFields hdT _,?_⟩
  simp[h3s]
 ·exact fun b o hb hn=>⟨o.slots,(oth b (RJ b o hb hn)).trans hb⟩
theorem WM{tb:Value}{had:Bool}{Q:Unit→Shared→Prop}(hfr:A.frames=some (env::l))(hf:env.frame=some L)(st:B.StaysIn s.heap)(ne:B.get? e=none)(fr:s.heap.FunFrames B (env::l))
  (hE:s.heap.get? e=some (exO C t tb)) (k:∀ h',Fx B (env::l) e C t (rawInt L) h'→s.heap.UpToSlots h'→Q () { s with heap:=h' }) :
  wpAny M A (do let a ← frameOf env;let pl ← entryPlaceOf L had;let b ← EntryCells.newEntry tb a .none (rawInt L) .none pl;setField (.ref e) 1 b) Q E s:=by
 have eF:e∉(env::l).filterMap (·.frame):=fun hm=>by
  obtain⟨_,o,ho,hn⟩:=fr.mem hm
  rw[hE] at ho
  cases ho
  exact hn _ rfl
 refine wpAny_bind (wpAny_frameOf_fun hfr fr hf fun h1 so=>wpAny_bind (wpAny_entryPlaceOf fun pl hpl=>?_))
 unfold EntryCells.newEntry newFields
 refine wpAny_bind (wpAny_newObj_type ?_ (hpl.sizeOk5 _ _ _ _ _))
 have E1:h1.get? e=some (exO C t tb):=(so.2.1 e eF).trans hE
 have st1:B.StaysIn h1:=fun b o hb=>(so.2.1 b fun hm=>by rw[(fr.mem hm).1] at hb;cases hb).trans (st b o hb)
 have TE:h1.objs.size≠e:=Akq (Heap.lt_size E1)
 generalize hN:({ cls:=.type "traceback", dict:=none,data:=.fields ([tb,.ref L,.none,rawInt L,.none]++(if pl.isEmpty then List.replicate 6 Value.none else pl)).toArray }:Obj)=nT
 have E2:(h1.push nT).get? e=some (exO C t tb):=Heap.get?_push_of_some nT E1
 refine wpAny_setField (s:={ s with heap:=h1.push nT }) E2 rfl (by show 1<6;decide) (k _ ?_ ?_)
 all_goals
  have kp:∀ b o,b≠e→h1.get? b=some o→((h1.push nT).update e (Obj.mapFields (·.setIfInBounds 1 (Value.ref h1.objs.size)))).get? b=some o:=fun b o hb q =>
   (Heap.get?_update_other _ _ (Ne.symm hb)).trans (Heap.get?_push_of_some nT q)
  have RJ:∀ b o,s.heap.get? b=some o→(∀ vs,o.data≠.fields vs)→b≠e:=fun b o hb hn q=>by
   rw[q,hE] at hb
   cases hb
   exact hn _ rfl
 ·have freed:nT.isFreed=false:=by rw[← hN];rfl
  refine⟨fun b o hb=>kp b o (fun q=>by rw[q,ne] at hb;cases hb) (st1 b o hb),ne,fr.of_keeps fun b o hb hn=>?_,h1.objs.size,nT,_,Heap.get?_update_self _ E2 rfl,st1.fresh,TE,
   (Heap.get?_update_other _ _ (Ne.symm TE)).trans (Heap.get?_push_size h1 freed),by rw[← hN],by simp⟩
  obtain⟨sl,q⟩:=so.2.2 b o hb
  exact⟨_,kp b _ (RJ b o hb hn) q,rfl⟩
 ·intro b o hb hn
  obtain⟨sl,q⟩:=so.2.2 b o hb
  exact⟨sl,kp b _ (RJ b o hb hn) q⟩
theorem Abx{Q:Unit→Shared→Prop}(hfr:A.frames=some (env::l))(hf:env.frame=some L)(st:B.StaysIn s.heap)(ne:B.get? e=none)(fr:s.heap.FunFrames B (env::l))
  (hE:s.heap.get? e=some (exO C t .none)) (k:∀ h',Fx B (env::l) e C t (rawInt L) h'→s.heap.UpToSlots h'→Q () { s with heap:=h' }):wpAny M A (noteFrame (.ref e) env) Q E s:=by
 unfold noteFrame
 simp only [hf]
 refine wpAny_bind (wpAny_field hE rfl (x:=.none) rfl ?_)
 rw[if_neg (by decide)]
 exact WM hfr hf st ne fr hE k
theorem Adb{Q:Unit→Shared→Prop}(hfr:A.frames=some (env::l))(hf:env.frame=some L)(x:Fx B (env::l) e C t .none s.heap)
  (k:∀ h',Fx B (env::l) e C t (rawInt L) h'→s.heap.UpToSlots h'→Q () { s with heap:=h' }):wpAny M A (noteFrame (.ref e) env) Q E s:=by
 obtain⟨st,ne,fr,T,oT,ts,hE,hBT,hTe,hT,hdT,h3⟩:=x
 unfold noteFrame
 simp only [hf]
 refine wpAny_bind (wpAny_field hE rfl (x:=.ref T) rfl ?_)
 rw[if_pos (show(Value.ref T != Value.none)=true by simp)]
 refine wpAny_bind (wpAny_field hT hdT h3 ?_)
 rw[if_neg (show ¬((Value.none == rawInt L)=true) by simp[rawInt])]
 refine wpAny_bind (wpAny_setField hT hdT (Array.getElem?_eq_some_iff.mp h3).1 ?_)
 have oth:∀ b,b≠T→(s.heap.update T (Obj.mapFields (·.setIfInBounds 3 Value.none))).get? b=s.heap.get? b:=fun b hb=>Heap.get?_update_other _ _ (Ne.symm hb)
 have RJ:∀ b o,s.heap.get? b=some o→(∀ vs,o.data≠.fields vs)→b≠T:=fun b o hb hn q=>by
  rw[q,hT] at hb
  cases hb
  exact hn ts hdT
 exact WM (s:={ s with heap:=s.heap.update T (Obj.mapFields (·.setIfInBounds 3 Value.none)) }) hfr hf (fun b o hb=>(oth b fun q=>by rw[q,hBT] at hb;cases hb).trans (st b o hb)) ne
  (fr.of_keeps fun b o hb hn=>⟨o,(oth b (RJ b o hb hn)).trans hb,rfl⟩) ((oth e (Ne.symm hTe)).trans hE)
  fun h' y u=>k h' y fun b o hb hn=>u b o ((oth b (RJ b o hb hn)).trans hb) hn
end
open PySem PySem.Spec PyProof.Rows
section
variable {M:Model}{A:Around}{E:Value→Shared→Prop}{s:Shared}{B:Heap}{env:Env}{l:List Env}{e C t L:Addr}
theorem Aao{fl:Value}{f:Option Addr}{Q:Unit→Shared→Prop}(x:Fx B l e C t fl s.heap)(k:∀ h',Fx B l e C t (f.elim Value.none fun f=>rawInt f) h'→s.heap.UpToSlots h'→Q () { s with heap:=h' }):wpAny M A (setFlight (.ref e) f) Q E s:=by
 obtain⟨st,ne,fr,T,oT,ts,hE,hBT,hTe,hT,hdT,h3⟩:=x
 have h3s:3<ts.size:=(Array.getElem?_eq_some_iff.mp h3).1
 unfold setFlight
 refine wpAny_bind (wpAny_field hE rfl (x:=.ref T) rfl ?_)
 rw[if_pos (show(Value.ref T != Value.none)=true by simp)]
 refine wpAny_setField hT hdT h3s (k _ ?_ ?_)
 all_goals
  have oth:∀ b,b≠T→(s.heap.update T (Obj.mapFields (·.setIfInBounds 3 (f.elim Value.none fun f=>rawInt f)))).get? b=s.heap.get? b:=fun b hb=>Heap.get?_update_other _ _ (Ne.symm hb)
  have RJ:∀ b o,s.heap.get? b=some o→(∀ vs,o.data≠.fields vs)→b≠T:=fun b o hb hn q=>by
   rw[q,hT] at hb
   cases hb
   exact hn ts hdT
 ·refine⟨fun b o hb=>(oth b fun q=>by rw[q,hBT] at hb;cases hb).trans (st b o hb),ne,fr.of_keeps fun b o hb hn=>⟨o,(oth b (RJ b o hb hn)).trans hb,rfl⟩,T,_,_,(oth e (Ne.symm hTe)).trans hE,hBT,hTe,
   Heap.get?_update_self _ hT (Obj.isFreed_of_fields (Obj.data_mapFields hdT _)),Obj.data_mapFields hdT _,?_⟩
  simp[h3s]
 ·exact fun b o hb hn=>⟨o.slots,(oth b (RJ b o hb hn)).trans hb⟩
theorem Aby{Q:Unit→Shared→Prop}(hf:env.frame=some L)(x:Fx B l e C t (rawInt L) s.heap)(k:Q () s):wpAny M A (noteFrame (.ref e) env) Q E s:=by
 obtain⟨st,ne,fr,T,oT,ts,hE,hBT,hTe,hT,hdT,h3⟩:=x
 unfold noteFrame
 simp only [hf]
 refine wpAny_bind (wpAny_field hE rfl (x:=.ref T) rfl ?_)
 rw[if_pos (show(Value.ref T != Value.none)=true by simp)]
 refine wpAny_bind (wpAny_field hT hdT h3 ?_)
 rw[if_pos (show((rawInt L == rawInt L)=true) by simp)]
 exact wpAny_pure k
end
structure Bk (P:Program) (w:World) (outer:List Env) (H:Hp) (h:Heap) (H':Hp) (B h':Heap):Prop where
 ok:HOk P w H' B
 keep:∀ b o,h.get? b=some o→H b=none→b∉frs outer→B.get? b=some o
 slot:∀ b o,h.get? b=some o→b∈frs outer→∃ sl,h'.get? b=some { o with slots:=sl }
 free:∀ b o,h.get? b=some o→H b=none→H' b=none
 there:∀ b o,h.get? b=some o→b∉frs outer→∃ o',B.get? b=some o'
 tups:∀ b xs,H b=some (.tup xs)→H' b=some (.tup xs)
 Ji:∀ b o u,H b=some (.frz o u)→H' b=some (.frz o u)
 JM:∀ b ps,H b=some (.tbl ps)→∃ more,H' b=some (.tbl (ps++more))
theorem Bk.slots{P:Program}{w:World}{outer:List Env}{H H':Hp}{h B h1 h2:Heap}(k:Bk P w outer H h H' B h1)(fr:h1.FunFrames B outer)(u:h1.UpToSlots h2):Bk P w outer H h H' B h2 :=
 ⟨k.ok,k.keep,fun b o q hb=>by
  obtain⟨sl,e⟩:=k.slot b o q hb
  obtain⟨_,o2,e2,n2⟩:=fr.mem hb
  rw[e] at e2
  cases e2
  obtain⟨sl2,e3⟩:=u b _ e n2
  exact⟨sl2,e3⟩,k.free,k.there,k.tups,k.Ji,k.JM⟩
def CX1 (P:Program)(w:World):CXT:=fun outer H s E e s'=>∃ ea C t H' B,e=.ref ea∧Fx B outer ea C t .none s'.heap∧s'.os=s.os∧AllBare s'.gens∧Bk P w outer H s.heap H' B s'.heap∧E (.ref C) none H'
inductive Fly (B:Heap) (l:List Env) (L ea C t:Addr) (h:Heap):Prop where
 | new (st:B.StaysIn h) (ne:B.get? ea=none) (fr:h.FunFrames B l) (ob:h.get? ea=some (exO C t .none))
 | came (x:Fx B l ea C t .none h)
 | seen (x:Fx B l ea C t (rawInt L) h)
theorem Fly.fr{B:Heap}{l:List Env}{L ea C t:Addr}{h:Heap}(x:Fly B l L ea C t h):h.FunFrames B l:=by
 cases x with
 | new st ne fr ob=>exact fr
 | came x=>exact x.fr
 | seen x=>exact x.fr
def FlX (X:Cx)(E:XK):Value→Shared→Prop:=fun e s'=>∃ ea C t H' B,e=.ref ea∧Fly B X.stack X.env.locals ea C t s'.heap∧s'.os=X.s₀.os∧AllBare s'.gens∧Bk X.prog X.w X.outer X.H₀ X.s₀.heap H' B s'.heap∧E (.ref C) none H'
structure Body (X:Cx):Prop where
 stack:X.stack=X.env::X.outer
 frame:X.env.frame=some X.env.locals
 ex:X.ex=[]
section
variable {X:Cx}{pins:List (Addr × Obj)}{σ:St}{H:Hp}{s s':Shared}{E:XK}{e:Value}
theorem Inv.Adc(I:Inv X pins σ H s){b:Addr}{o:Obj}(q:X.s₀.heap.get? b=some o)(hb:b∉X.fs):b∉frs X.stack:=fun hm=>by
 rcases List.mem_cons.mp (I.R5 b hm) with z | z
 ·rw[z] at q
  exact absurd (Akc (Heap.lt_size q) I.ok.above) (Akn _)
 ·exact hb z
theorem Ag5(hB:Body X)(I:Inv X pins σ H s)(c:CX1 X.prog X.w X.stack H s E e s'):FlX X E e s':=by
 obtain⟨ea,C,t,H',B,rfl,fx,os,bare,bk,q⟩:=c
 have nx:∀ b:Addr,b∉X.ex:=fun b z=>by rw[hB.ex] at z;exact nomatch z
 have fsS:∀ b,b∈X.fs→b∈frs X.stack:=fun b hb=>by
  rw[hB.stack];unfold frs;rw[AkG,hB.frame];exact Akk _ hb
 refine⟨ea,C,t,H',B,rfl,.came fx,os.trans I.os,bare,⟨bk.ok,fun b o e n hb=>?_,fun b o e hb=>?_,fun b o e n=>?_,fun b o e hb=>?_,fun b xs e=>bk.tups b xs (I.base.tups b xs e),fun b o u e=>bk.Ji b o u (I.base.Ji b o u e),fun b ps e=>?_⟩,q⟩
 ·exact bk.keep b o (I.base.keep b o e n hb (nx b)) (I.base.free b o e n (nx b)) (I.Adc e hb)
 ·obtain⟨sl,e1⟩:=I.base.slot b o e (I.ok.frf b hb) hb (nx b)
  obtain⟨sl2,e2⟩:=bk.slot b _ e1 (fsS b hb)
  exact⟨sl2,e2⟩
 ·obtain⟨o',e1⟩:=I.base.there b o e (nx b)
  exact bk.free b o' e1 (I.base.free b o e n (nx b))
 ·obtain⟨o',e1⟩:=I.base.there b o e (nx b)
  exact bk.there b o' e1 (I.Adc e hb)
 ·obtain⟨m1,e1⟩:=I.base.JM b ps e
  obtain⟨m2,e2⟩:=bk.JM b _ e1
  exact⟨m1++m2,by rw[e2,Array.append_assoc]⟩
theorem Ag6{h':Heap}{ea C:Addr}{vs:List Value}(hB:Body X)(I:Inv X pins σ H s)(hx:Heap.MadeExcOf s.heap h' ea (.ref C) vs)(q:E (.ref C) none H):FlX X E (.ref ea) { s with heap:=h' }:=by
 obtain⟨t,ht,_,_⟩:=hx.there
 have nx:∀ b:Addr,b∉X.ex:=fun b z=>by rw[hB.ex] at z;exact nomatch z
 have nfr:∀ b u,H b=some u→b∉frs X.stack:=fun b u e hm=>by rw[I.Rw b hm] at e;cases e
 refine⟨ea,C,t,H,PySem.W.hideAll s.heap (frs X.stack),rfl,.new (fun b o e=>hx.keeps b o (PySem.W.of_hideAll _ e)) ?_ ?_ ht,I.os,I.bare,⟨fun b u e=>?_,fun b o e n hb=>?_,fun b o e hb=>?_,fun b o e n=>I.base.free b o e n (nx b),fun b o e hb=>?_,I.base.tups,I.base.Ji,I.base.JM⟩,q⟩
 ·cases z:(PySem.W.hideAll s.heap (frs X.stack)).get? ea with
  | none=>rfl
  | some o =>
   have:=PySem.W.of_hideAll _ z
   rw[hx.new] at this
   cases this
 ·exact(PySem.W.funFrames_hide I.stack fun env he a ha=>List.mem_filterMap.mpr ⟨env,he,ha⟩).of_keeps fun b o hb _=>⟨o,hx.keeps b o hb,rfl⟩
 ·refine(I.hok b u e).stay (fun c v hc z=>PySem.W.hideAll_get _ z ?_) (fun _ z=>z) fun _ _ z=>z
  rcases hc with z | z
  ·rw[z];exact nfr b u e
  ·exact nfr c _ z
 ·exact PySem.W.hideAll_get _ (I.base.keep b o e n hb (nx b)) (I.Adc e hb)
 ·obtain⟨sl,e1⟩:=I.base.slot b o e (I.ok.frf b hb) hb (nx b)
  exact⟨sl,hx.keeps _ _ e1⟩
 ·obtain⟨o',e1⟩:=I.base.there b o e (nx b)
  exact⟨o',PySem.W.hideAll_get _ e1 (I.Adc e hb)⟩
theorem Abz{M:Model}{Q:Unit→Shared→Prop}{E':Value→Shared→Prop}{B:Heap}{ea C t:Addr}(hB:Body X)(hfr:X.A.frames=some X.stack)(x:Fly B X.stack X.env.locals ea C t s.heap)
  (k:∀ h',Fx B X.stack ea C t (rawInt X.env.locals) h'→s.heap.UpToSlots h'→Q () { s with heap:=h' }):wpAny M X.A (noteFrame (.ref ea) X.env) Q E' s:=by
 rw[hB.stack] at x hfr k
 cases x with
 | new st ne fr ob=>exact Abx hfr hB.frame st ne fr ob k
 | came x=>exact Adb hfr hB.frame x k
 | seen x=>exact Aby hB.frame x (k s.heap x (.refl _))
theorem Zu(hB:Body X){B h:Heap}(x:h.FunFrames B X.stack):h.FunFrames B X.outer:=by
 rw[hB.stack] at x
 exact x.2.2
theorem leaveX{M:Model}{E':Value→Shared→Prop}(hB:Body X)(hfr:X.A.frames=some X.stack)(c:FlX X E e s):wpAny M X.A (leaving X.env e) (fun _ s''=>CX1 X.prog X.w X.outer X.H₀ X.s₀ E e s'') E' s:=by
 obtain⟨ea,C,t,H',B,rfl,fx,os,bare,bk,q⟩:=c
 unfold leaving
 refine wpAny_bind (Abz hB hfr fx fun h1 x1 u1=>V1 (s:={ s with heap:=h1 }) x1 fun h2 x2 u2=>?_)
 have x3:=x2
 rw[hB.stack] at x3
 exact⟨ea,C,t,H',B,rfl,x3.outer,os,bare,bk.slots (Zu hB fx.fr) (u1.trans u2),q⟩
theorem Ade(hB:Body X)(hfr:X.A.frames=some X.stack):PassesOwn (model X.prog X.w) X.A X.env (FlX X E):=by
 rintro e s ⟨ea,C,t,H',B,rfl,fx,os,bare,bk,q⟩
 unfold notedBy
 refine Abz hB hfr fx fun h1 x1 u1=>?_
 obtain⟨T,oT,ts,hE,_⟩:=x1.ob
 unfold cameBackBy
 refine wpAny_bind (wpAny_field (s:={ s with heap:=h1 }) hE rfl (x:=.ref T) rfl ?_)
 rw[if_neg (by simp)]
 refine Aao (s:={ s with heap:=h1 }) (f:=X.env.frame) x1 fun h2 x2 u2=>?_
 rw[hB.frame] at x2
 exact⟨ea,C,t,H',B,rfl,.seen x2,os,bare,bk.slots (Zu hB fx.fr) (u1.trans u2),q⟩
end
open PySem PySem.Spec PyProof.Rows
def Aap (K:PySem.W.Frag)(C:Addr):List Value:=match K.lookup C with
 | some ⟨_,_,.cls cd,_⟩=>cd.mro
 | _=>[]
theorem V2{K:PySem.W.Frag}{h:Heap}{C:Addr}{bmB:List Value}{nid:String}(X:K.In h)(q:PySem.W.excIn K C bmB nid=true) :
  ∃ bm N nm qn bs hdct sn sub ab col dd k0 k1 k2 k3 k5 mN,Aap K C=.ref C::bm∧h.get? C=some (excClassObj nm qn C N bs bm hdct sn sub ab col dd k0 k1 k2 k3 k5 nid)∧h.Ns N mN∧mN "__init__" = none∧OwnTail h bmB bm:=by
 unfold PySem.W.excIn at q
 split at q
 next dd cd sl ho =>
  split at q
  next C' bm k0 k1 k2 k3 n k5 hm hs =>
   have hM:Aap K C=cd.mro:=by unfold Aap;rw[ho]
   simp only [Ak3,beq_iff_eq,Bool.not_eq_true'] at q
   obtain⟨⟨⟨⟨⟨q1,q2⟩,hdel⟩,ht⟩,hok⟩,hni⟩:=q
   subst q1 q2
   have hsl:sl=#[k0,k1,k2,k3,some (.builtin n),k5]:=by rw[← hs]
   rw[hm] at hM
   cases cd
   dsimp only at hm hdel hok hni
   subst hm hdel hsl
   exact⟨bm,_,_,_,_,_,_,_,_,_,dd,k0,k1,k2,k3,k5,_,hM,X _ _ ho,.of_isNs (PySem.W.isNs_of_in X hok),PySem.W.nsMap_none_of_in X hok hni,PySem.W.tail_of_in X ht⟩
  next=>cases q
 next=>cases q
def Afh (C:Addr)(E:XK)(t:TA):TS:=fun _ σ H=>t σ H fun vs H1=>vs.length≤sizeLine∧E (.ref C) none H1
section
variable {X:Cx}{x:Str}{C:Addr}{bmB bmN:List Value}{B Bn nid Aif iid Aig:String}{E:XK}{e:Expr}{es:List Expr}{t:TA}{np cpos pos:Pos}
theorem G4(hB:Body X)(hc:X.calm=true)(hw:∀ e s',FlX X E e s'→X.xe e s')(Fn:ExcBaseFacts Bn nid iid bmN)(hn:bmB.contains (.type Bn)=true)(FB:ExcBaseFacts B Aif Aig bmB)(q:PySem.W.excIn X.K C bmB nid=true)(hg:Gl X x)(hm:X.mg x=some (.ref C))(ha:PA X.nox (e::es) t)
  (hd:(x == ("__debug__" : Str))=false:=by decide) (he:starEach (e::es) X.env=(false,eval e X.env)::starEach es X.env:=by rfl) (hpl:(backTo cpos (starEach es X.env)).any (·.1)=false:=by rfl) :
  PS X (.Raise (some (.Call (.Name x np) (e::es) [] cpos)) none pos) (Afh C E t):=by
 intro pins s σ H D I h
 obtain⟨bm,N,nm,qn,bs,hdct,sn,sub,ab,col,dd,k0,k1,k2,k3,k5,mN,_,hC,hN,hni,T⟩:=V2 I.ok.mod.kin q
 refine wpAny_Raise_call_subU (N:=N) (C:=C) (k5:=k5) (k3:=k3) (k2:=k2) (k1:=k1) (k0:=k0) (dd:=dd) (col:=col) (ab:=ab) (sub:=sub) (sn:=sn) (hdct:=hdct) (bs:=bs) (q:=qn) (nm:=nm) (newId:=nid) Fn hn FB (mN:=mN) (T.hasType FB.hasBase) (I.ok.hd hc) (by rw[he];show(false || (backTo cpos (starEach es X.env)).any (·.1))=false;rw[hpl];rfl) hni (Lz I hg hm ⟨rfl,?_⟩ hd)
 have h1:=ha cpos pins s σ H _ (I.wish _) h
 rw[he] at h1 ⊢
 refine Calls.evalArgs_plain (wpAny_mono h1 (fun us s2 z=>?_) fun _ _ z=>z.elim)
 obtain⟨vs,H1,I1,r,hl,hE⟩:=z
 have I2:Inv X pins σ H1 s2:=I1.Gy
 exact⟨rfl,by rw[← r.length];exact hl,I2.bk _ _ hC,hN.keeps I2.bk,T.keeps I2.bk,fun h' ea hx=>hw _ _ (Ag6 hB I2 hx hE)⟩
end
abbrev cx1 (P:Program) (w:World) (K:PySem.W.Frag) (mg:Str→Option Value) (base:Heap) (N:List Str) (qual:Str) (scope:Scope) (f:Addr) (cd:Value) (A:Around) (outer:List Env) (s:Shared) (H:Hp) (E:XK):Cx :=
 (Vm (CX1 P w) P w K mg base N qual scope f cd A outer s H E).wish (FlX (Vm (CX1 P w) P w K mg base N qual scope f cd A outer s H E) E)
section
variable {P:Program}{w:World}{K:PySem.W.Frag}{mg:Str→Option Value}{base:Heap}
theorem Jy{N:List Str}{qual:Str}{scope:Scope}{f:Addr}{cd:Value}{A:Around}{outer:List Env}{s:Shared}{H:Hp}{E:XK}:Body (cx1 P w K mg base N qual scope f cd A outer s H E):=⟨rfl,rfl,rfl⟩
theorem Fun.okX{x qual:Str}{st:Stmt}{f:Addr}{fd:FuncData}{N ps:List Str}{k:Nat}{sp:Sp}(F:Fun K x qual st f fd)(S:Bj N ps (Ai st))(len:∀ vs H Q E,sp vs H Q E→vs.length=ps.length)
  (hbody:∀(cdv:Value) (A:Around) (outer:List Env) (s:Shared) (H:Hp) (vs:List V) (Q:VK) (E:XK),GD k (A.deeper (envOfC qual (Ai st) s.heap.objs.size f cdv))→sp vs H Q E →
   ∃ t,PSs (cx1 P w K mg base N qual (Ai st) f cdv A outer s H E) (HF st) t∧t { nx:=fun _ H'=>Q .non H',rt:=Q } (start N vs) H):BK P w K mg base (CX1 P w) (k+1) f fd ps sp:=by
 obtain⟨oc,od,kV,doc,pm,an,cdv,ct,osl,rfl,lk,hcd⟩:=F.ex
 refine Aeo lk hcd S len fun A outer s H vs Q E hr hsp=>?_
 obtain⟨t,h,q⟩:=hbody cdv A outer s H vs Q E hr hsp
 refine⟨t,fun pins s1 σ H1 D I h1=>?_,q⟩
 exact wpAny_mono (h pins s1 σ H1 D (I.wish _) h1) (fun _ _ z=>z.Gy) fun e s' z=>leaveX (X:=Vm (CX1 P w) P w K mg base N qual (Ai st) f cdv A outer s H E) ⟨rfl,rfl,rfl⟩ I.ok.frames z
theorem IK{N:List Str}{qual:Str}{scope:Scope}{f:Addr}{cd:Value}{A:Around}{outer:List Env}{s:Shared}{H:Hp}{E:XK} :
  Passes (CX1 P w) (cx1 P w K mg base N qual scope f cd A outer s H E) E:=fun _ _ _ _ _ _ I c=>Ag5 ⟨rfl,rfl,rfl⟩ I.Gy c
end
def PEX (X:Cx)(e:Expr)(t:XK→TE):Prop:=∀(pins:List (Addr × Obj)) (s:Shared) (σ:St) (H:Hp) (Q:VK) (E:XK),Inv X pins σ H s→t E σ H Q →
 wpAny (model X.prog X.w) X.A (eval e X.env) (EP X pins σ Q) (fun ex s'=>∃ H1 s1,Inv X pins σ H1 s1∧CX1 X.prog X.w X.stack H1 s1 E ex s') s
section
variable {X:Cx}{k:Nat}{f C:Addr}{fd:FuncData}{ps:List Str}{sp:Sp}{dvs:List V}{ds:List Value}{x m:Str}{p pos apos:Pos}{e o:Expr}{es:List Expr}{ta:TE}{t:TA}
theorem Adf{pins:List (Addr × Obj)}{σ:St}{H:Hp}{s:Shared}{Q:VK}{E:XK}{us:List Value}{vs:List V}(F:BK X.prog X.w X.K X.mg X.base (CX1 X.prog X.w) k f fd ps sp)(hr:GD k X.A)(hb:Binds X.K fd ps ds)(hd:Vals dvs ds)
  (I:Inv X pins σ H s) (r:Vals vs us) (h:sp (vs++dvs) H Q E):wpAny (model X.prog X.w) X.A (call (.ref f) us) (EP X pins σ Q) (fun ex s'=>∃ H1 s1,Inv X pins σ H1 s1∧CX1 X.prog X.w X.stack H1 s1 E ex s') s:=by
 have r2:Vals (vs++dvs) (us++ds):=r.append hd
 have hl:(us++ds).length=ps.length:=(r2.length.symm).trans (F.len _ _ _ _ h)
 refine wpAny_call (codeAny_mono (F.run X.A X.stack s H ⟨us,[]⟩ (us++ds) (vs++dvs) Q E hr I.env0 (hb s us I.kIn hl) r2 h) fun rs s' hq=>?_)
 match rs,hq with
 | .error e,hq=>exact⟨H,s,I,hq⟩
 | .ok (.ret u),hq=>exact I.after hq
 | .ok .next,hq=>exact False.elim hq
 | .ok .brk,hq=>exact False.elim hq
 | .ok .cont,hq=>exact False.elim hq
theorem Eu(F:BK X.prog X.w X.K X.mg X.base (CX1 X.prog X.w) k f fd ps sp)(hr:GD k X.A)(hg:Gl X x)(hm:X.mg x=some (.ref f))(hk:PySem.W.keepIn X.K (.ref f)=true)(hb:Binds X.K fd ps ds)(hd:Vals dvs ds)
  (ha:PA X.nox (e::es) t) (hdb:(x == ("__debug__" : Str))=false:=by decide) (he:starEach (e::es) X.env=(false,eval e X.env)::starEach es X.env:=by rfl) (hpl:(backTo pos (starEach es X.env)).any (·.1)=false:=by rfl) :
  PEX X (.Call (.Name x p) (e::es) [] pos) fun E=>Aen sp dvs E t:=by
 intro pins s σ H Q E I h
 refine wpAny_Call_Name_kw (Lz I hg hm ?_ hdb)
 refine PySem.W.callWith_K (h₀:=X.base) I.ok.mod.kin hk (wpAny_mono (ha pos pins s σ H _ (I.wish _) h) (fun us s1 ⟨vs,H1,I1,r,q⟩=>⟨I1.kIn,?_⟩) fun _ _ z=>z.elim) he hpl
 exact Adf F hr hb hd (I1.Gy) r q
end
open PySem PySem.Spec PyProof.Rows
def exH (C a:Addr):HO:=.ext fun h=>∃ t tb,h.get? a=some (exO C t tb)
theorem Et.get{P:Program}{w:World}{H:Hp}{h:Heap}{a:Addr}{o:HO}(x:Et P w H h a o):∃ u,h.get? a=some u:=by
 induction o with
 | lst xs=>obtain⟨_,_,_,_,e⟩:=x;exact⟨_,e⟩
 | tup xs=>obtain⟨_,_,_,_,e,_⟩:=x;exact⟨_,e⟩
 | dK kvs=>obtain⟨_,_,_,_,_,_,_,e,_⟩:=x;exact⟨_,e⟩
 | dT kvs=>obtain⟨_,_,_,_,_,_,_,e,_⟩:=x;exact⟨_,e⟩
 | set S n=>obtain⟨_,_,_,_,e,_⟩:=x;exact⟨_,e⟩
 | ins C dx fs=>obtain⟨_,_,_,e,_⟩:=x;exact⟨_,e⟩
 | own y=>obtain⟨_,e⟩:=x;exact⟨_,e⟩
 | xd fs=>obtain⟨_,⟨_,_,_,e,_⟩,_⟩:=x;exact⟨_,e⟩
 | rng lo hi=>obtain⟨_,_,_,e⟩:=x;exact⟨_,e⟩
 | frz ob u ih=>obtain⟨e,_⟩:=x;exact⟨_,e⟩
 | tbl ps=>exact⟨_,x⟩
 | met f y=>exact⟨_,x⟩
 | ext φ=>exact x.2.1
section
variable {X:Cx}{pins:List (Addr × Obj)}{σ:St}{H H':Hp}{s s':Shared}{B h2:Heap}{ea C t:Addr}{fl:Value}
theorem Bk.none{P:Program}{w:World}{outer:List Env}{h h':Heap}(k:Bk P w outer H h H' B h')(ne:B.get? ea=Option.none):H' ea=Option.none:=by
 cases q:H' ea with
 | none=>rfl
 | some o =>
  obtain⟨u,e⟩:=(k.ok ea o q).get
  rw[ne] at e
  cases e
theorem Zv(I:Inv X pins σ H s)(os:s'.os=s.os)(bare:AllBare s'.gens)(bk:Bk X.prog X.w X.stack H s.heap H' B h2)(fx:Fx B X.stack ea C t fl h2) :
  Inv X pins σ (upd H' ea (exH C ea)) { s' with heap:=h2 }:=by
 have hn:=bk.none fx.ne
 obtain⟨T,oT,ts,hE,_⟩:=fx.ob
 have ne:∀ b o,s.heap.get? b=some o→b≠ea:=fun b o e z=>by
  by_cases hb:b∈frs X.stack
  ·obtain⟨_,o2,e2,n2⟩:=fx.fr.mem hb
   rw[z,hE] at e2
   cases e2
   exact n2 _ rfl
  ·obtain⟨o',e1⟩:=bk.there b o e hb
   rw[z,fx.ne] at e1
   cases e1
 have nt:∀ b u,H' b=some u→b≠ea:=fun b u e z=>by
  rw[z,hn] at e
  cases e
 obtain⟨hh,g,d,tk,os'⟩:=s'
 obtain rfl:os'=s.os:=os
 refine I.call (s:=s) (h':=h2) (g':=g) (d':=d) (t':=tk) (ch:=[]) ⟨fun b o e n hb _=>fx.st _ _ (bk.keep b o e n hb),fun b o e n hb _=>bk.slot b o e hb,fun b o e n _=>?_,fun b o e _=>?_,fun b xs e=>?_,fun b o u e=>?_,fun b ps e=>?_⟩ (fun b u e=>?_) bare (fun b z=>nomatch z)
 ·rw[Aq (ne b o e)]
  exact bk.free b o e n
 ·by_cases hb:b∈frs X.stack
  ·obtain⟨sl,e1⟩:=bk.slot b o e hb
   exact⟨_,e1⟩
  ·obtain⟨o',e1⟩:=bk.there b o e hb
   exact⟨o',fx.st _ _ e1⟩
 ·have e1:=bk.tups b xs e
  rw[Aq (nt _ _ e1)]
  exact e1
 ·have e1:=bk.Ji b o u e
  rw[Aq (nt _ _ e1)]
  exact e1
 ·obtain⟨m1,e1⟩:=bk.JM b ps e
  exact⟨m1,by rw[Aq (nt _ _ e1)];exact e1⟩
 ·by_cases hb:b=ea
  ·subst hb
   rw[Af] at e
   cases e
   exact⟨⟨t,_,hE⟩,⟨_,hE⟩,fun h1 h3 ⟨t',tb',q⟩ k=>⟨t',tb',k _ q⟩⟩
  ·rw[Aq hb] at e
   refine(bk.ok b u e).stay (fun c v _ q=>fx.st _ _ q) (fun c q=>?_) fun c xs q=>?_
   ·rw[Aq (nt _ _ q)];exact q
   ·rw[Aq (nt _ _ q)];exact q
abbrev Cx.hdl (X:Cx) (e:Addr):Cx:={ X with A:=X.A.mark (some (.ref e)),calm:=false,xe:=fun _ _=>False }
theorem Inv.hdl(I:Inv X pins σ H s)(e:Addr):Inv (X.hdl e) pins σ H s :=
 ⟨⟨I.ok.mod,I.ok.kind,I.ok.glob,I.ok.blt,I.ok.above,I.ok.inj,I.ok.has,I.ok.cab,(fun z=>nomatch z),I.ok.frames,I.ok.stk,I.ok.exf,I.ok.bs,I.ok.bsz,I.ok.Ua,I.ok.Ub,I.ok.Mu,I.ok.frf⟩,I.os,I.bare,I.base,I.loc,I.cell,I.free,I.Ho,I.pin,I.hok,I.len⟩
theorem Inv.Ag7{e:Addr}(hd:X.calm=true→X.A.handled=none)(I:Inv (X.hdl e) pins σ H s):Inv X pins σ H s :=
 ⟨⟨I.ok.mod,I.ok.kind,I.ok.glob,I.ok.blt,I.ok.above,I.ok.inj,I.ok.has,I.ok.cab,hd,I.ok.frames,I.ok.stk,I.ok.exf,I.ok.bs,I.ok.bsz,I.ok.Ua,I.ok.Ub,I.ok.Mu,I.ok.frf⟩,I.os,I.bare,I.base,I.loc,I.cell,I.free,I.Ho,I.pin,I.hok,I.len⟩
theorem Inv.forget{n:Str}{j:Nat}{m:Str→Option Value}{v:Option Value}{tk:Nat}{h':Heap}(I:Inv X pins σ H s)(hN:X.N.Nodup)(hj:X.N[j]?=some n)(hn:s.heap.Ns X.env.locals m)
  (hm:∀(i:Nat) (x:Str) (v:V),X.N[i]?=some x→σ[i]?=some (some v)→Vis X.env.scope x→∃ u,RelV v u∧Look X.env s.heap m x u) (hn':h'.Ns X.env.locals (fun x=>if x=n then v else m x)) (hs:Heap.SameBut X.env.locals s.heap h') :
  Inv X pins (σ.set j none) H { s with heap:=h',toks:=tk }:=by
 obtain⟨oL,_,_,hoL,_⟩:=id hn
 have neL:∀ b o,X.s₀.heap.get? b=some o→b≠X.env.locals:=fun b o e=>AjS (Akc (Heap.lt_size e) I.ok.above)
 refine⟨I.ok,I.os,I.bare,⟨fun b o e n hb hx=>?_,fun b o e n hb hx=>?_,I.base.free,fun b o e hx=>?_,I.base.tups,I.base.Ji,I.base.JM⟩,⟨_,hn',fun i y w e1 e2 e3=>?_⟩,fun y c e=>?_,I.free,I.Ho,fun p hp=>?_,fun b u e=>?_,by rw[Ak8];exact I.len⟩
 ·exact(hs.2 b (neL b o e)).trans (I.base.keep b o e n hb hx)
 ·obtain⟨sl,e1⟩:=I.base.slot b o e n hb hx
  exact⟨sl,(hs.2 b (neL b o e)).trans e1⟩
 ·obtain⟨o',e1⟩:=I.base.there b o e hx
  exact⟨o',(hs.2 b (neL b o e)).trans e1⟩
 ·by_cases hij:i=j
  ·subst hij
   rw[List.getElem?_set] at e2
   split at e2
   ·split at e2 <;> cases e2
   ·exact absurd rfl ‹_›
  ·rw[AkP (Ne.symm hij)] at e2
   obtain⟨u,r,l⟩:=hm i y w e1 e2 e3
   refine⟨u,r,?_⟩
   rcases l with ⟨k,z⟩ | ⟨k,c,z,y'⟩
   ·have:y≠n:=fun q=>hij (R6 hN e1 (q▸hj))
    exact .inl ⟨k,by simp[this,z]⟩
   ·exact .inr ⟨k,c,z,y'.sameBut hs (I.cne y c z)⟩
 ·obtain⟨v',z⟩:=I.cell y c e
  exact⟨v',z.sameBut hs (I.cne y c e)⟩
 ·obtain⟨e,n1,n2,nf,d⟩:=I.pin p hp
  exact⟨(hs.2 p.1 n2).trans e,n1,n2,nf,d⟩
 ·refine(I.hok b u e).stay (fun c w' hc q=>(hs.2 c ?_).trans q) (fun _ q=>q) fun _ _ q=>q
  rintro rfl
  rcases hc with z | z
  ·rw[← z,I.free] at e;cases e
  ·rw[I.free] at z;cases z
end
open PySem PySem.Spec PyProof.Rows
section
variable {M:Model}{A:Around}{E:Value→Shared→Prop}{h:Heap}{g:Array GenState}{d:Drawn}{t:Nat}{os:OsState}
theorem WN{K:PySem.W.Frag}{C D e:Addr}{bC bD:List Value}{nC nD:String}{oe:Obj}{Q:Bool→Shared→Prop}(X:K.In h)(qC:PySem.W.excIn K C bC nC=true)(qD:PySem.W.excIn K D bD nD=true)
  (hb:bD.contains (.type "BaseException")=true) (he:h.get? e=some oe) (hc:oe.cls=.ref C) (hq:Q ((Aap K C).contains (.ref D)) ⟨h,g,d,t,os⟩):wpAny M A (excMatches (.ref e) (.ref D)) Q E ⟨h,g,d,t,os⟩:=by
 obtain⟨bm1,_,_,_,_,_,_,_,_,_,_,_,_,_,_,_,_,e1,hC,_,_,T1⟩:=V2 X qC
 obtain⟨bm2,_,_,_,_,_,_,_,_,_,_,_,_,_,_,_,_,_,hD,_,_,T2⟩:=V2 X qD
 have hcB:(Value.ref D::bm2).contains (.type "BaseException")=true:=by rw[List.contains_cons,T2.hasType hb,Bool.or_true]
 have f:=tc_notTuple
 rw[e1] at hq
 unfold excMatches
 repeat (first | (with_reducible refine wpAny_loadPart_at he ?_;rw[hc]) | with_reducible refine wpAny_loadPart_at hD ?_ | (with_reducible refine wpAny_isSubtype_exc hD ?_;rw[hcB]) | with_reducible refine wpAny_isSubtype_exc hC ?_ | wp_step)
 all_goals (revert hq;cases (Value.ref C::bm1).contains (Value.ref D) <;> intro hq)
 all_goals (repeat (first | exact hq | wp_step))
end
abbrev WX (X:Cx) (pins:List (Addr × Obj)) (σ:St) (E:XK):Value→Shared→Prop:=fun ex s'=>∃ H1 s1,Inv X pins σ H1 s1∧CX1 X.prog X.w X.stack H1 s1 E ex s'
def PSX (X:Cx)(st:Stmt)(t:XK→TS):Prop:=∀(pins:List (Addr × Obj)) (s:Shared) (σ:St) (H:Hp) (D:Ends) (E:XK),Inv X pins σ H s→t E D σ H→wpAny (model X.prog X.w) X.A (exec st X.env) (SP X pins D) (WX X pins σ E) s
def Adg (X:Cx)(st:List Stmt)(t:XK→TS):Prop:=∀(pins:List (Addr × Obj)) (s:Shared) (σ:St) (H:Hp) (D:Ends) (E:XK),Inv X pins σ H s→t E D σ H→wpAny (model X.prog X.w) X.A (execs st X.env) (SP X pins D) (WX X pins σ E) s
section
variable {X:Cx}{e:Expr}{t u:XK→TS}{te:XK→TE}{pos:Pos}{st:Stmt}
theorem CG(h:PSX X st t):Adg X [st] t:=by
 intro pins s σ H D E I h1
 refine wpAny_execs_cons (thn (h pins s σ H D E I h1) fun f s1 q=>?_)
 match f,q with
 | .next,q=>exact wpAny_execs_nil q
 | .brk,q=>exact q
 | .cont,q=>exact q
 | .ret u,q=>exact q
theorem Ew(he:PEX X e te)(hs:swapsWith e none pos.line X.env=pure false:=by rfl):PSX X (.Expr e pos) fun E=>Aei (te E):=by
 intro pins s σ H D E I h
 exact wpAny_Expr_any (thn (he pins s σ H _ E I h) fun v s1 ⟨x,H1,I1,r1,q1⟩=>⟨σ,H1,I1,q1⟩) I.quiet hs
abbrev Ends.un (D:Ends) (j:Nat):Ends:={ nx:=fun σ H=>D.nx (σ.set j none) H,rt:=D.rt,bk:=fun σ H=>D.bk (σ.set j none) H,ct:=fun σ H=>D.ct (σ.set j none) H }
def Sub (K:PySem.W.Frag)(C D:Addr):Prop:=(∃ bm nid,PySem.W.excIn K C bm nid=true)∧(Aap K C).contains (.ref D)=true
def Aih (K:PySem.W.Frag)(Ch:Addr)(j:Nat)(t:XK→TS)(ts:TS):TS:=fun D σ H=>t (fun c _ H'=>∃ C,c=.ref C∧Sub K C Ch∧∀ ea,H' ea=none→ts (D.un j) (σ.set j (some (.ref ea))) (upd H' ea (exH C ea))) D σ H
theorem Y0{body suite:List Stmt}{b₀:Stmt}{ts:TS}{n x:Str}{j:Nat}{Ch:Addr}{bmB:List Value}{nid:String}{np hpos:Pos}(hB:Body X)(hc:X.calm=true)(hb:Adg X body t)(hN:X.N.Nodup)(hj:X.N[j]?=some n)
  (hn:X.env.scope.names.lookup n=some .local) (hg:Gl X x) (hm:X.mg x=some (.ref Ch)) (hq:PySem.W.excIn X.K Ch bmB nid=true) (hbs:bmB.contains (.type "BaseException")=true) (hs:∀ ea,PSs (X.hdl ea) (b₀::suite) ts)
  (hd:(x == ("__debug__" : Str))=false:=by decide) :
  PS X (.Try body [.ExceptHandler (some (.Name x np)) (some n) (b₀::suite) hpos] [] [] pos) (Aih X.K Ch j t ts):=by
 intro pins s σ H D I h
 refine wpAny_Try_except (wpAny_mono (hb pins s σ H D _ I h) (fun f s1 q=>?_) fun ex s1 z=>?_)
 ·match f,q with
  | .next,q=>exact wpAny_execs_nil q
  | .brk,q=>exact q
  | .cont,q=>exact q
  | .ret u,q=>exact q
 ·obtain⟨H1,s0,I0,ea,C,t0,H',B,rfl,fx,os,bare,bk,C',eC,⟨⟨bC,nC,qC⟩,sub⟩,ht⟩:=z
  obtain rfl:C=C':=by cases eC;rfl
  refine Abz hB I.ok.frames (.came fx) fun h1 x1 u1=>V1 (s:={ s1 with heap:=h1 }) x1 fun h2 x2 u2=>?_
  have bk2:=(bk.slots fx.fr u1).slots x1.fr u2
  have I2:Inv X pins σ (upd H' ea (exH C ea)) { s1 with heap:=h2 }:=Zv I0 os bare bk2 x2
  refine wpAny_handleBy_cons (codeAny_handlers_test (Lz (X:=X.hdl ea) (I2.hdl ea) hg hm ?_ hd)) (by intro q;cases q)
  obtain⟨T,oT,tt,hE,_⟩:=x2.ob
  refine WN I2.kIn qC hq hbs hE rfl ?_
  rw[sub]
  refine codeAny_handlers_suite_as ?_
  refine V1 (s:={ s1 with heap:=h2 }) x2 fun h3 x3 u3=>?_
  have I3:Inv X pins σ (upd H' ea (exH C ea)) { s1 with heap:=h3 }:=Zv I0 os bare (bk2.slots x2.fr u3) x3
  refine Ol (X:=X.hdl ea) (I3.hdl ea) hN hj (.inl hn) (v:=.ref ea) rfl (fun s4 I4=>?_) (.inr hn)
  refine wpAny_mono (hs ea pins s4 _ _ _ I4 (ht ea (bk.none fx.ne))) (fun f s5 q=>?_) fun _ _ z=>z.elim
  have go:∀{σ':St} {H5:Hp} {Q:Unit→Shared→Prop},Inv (X.hdl ea) pins σ' H5 s5→(∀ s6,Inv X pins (σ'.set j none) H5 s6→Q () s6)→wpAny (model X.prog X.w) X.A (do bindName X.env n .none;unbindBehindTheSuite X.env n hpos) Q X.xe s5:=fun {σ' H5 Q} J k=>by
   have J':Inv X pins σ' H5 s5:=J.Ag7 I.ok.hd
   obtain⟨m,hns,hl⟩:=id J'.loc
   refine wpAny_nameGoes_keeps hn hns (by rw[I.ok.kind];rfl) fun h6 v hn6 hs6=>k _ ?_
   exact J'.forget hN hj hns hl hn6 hs6
  match f,q with
  | .next,⟨σ',H5,J,q⟩=>exact go J fun s6 J6=>⟨_,H5,J6,q⟩
  | .brk,⟨σ',H5,J,q⟩=>exact go J fun s6 J6=>⟨_,H5,J6,q⟩
  | .cont,⟨σ',H5,J,q⟩=>exact go J fun s6 J6=>⟨_,H5,J6,q⟩
  | .ret u,⟨v,σ',H5,J,r,q⟩=>exact go J fun s6 J6=>⟨v,_,H5,J6,r,q⟩
end
open PySem PySem.Spec PyProof.Rows
structure ExC (K:PySem.W.Frag) (C:Addr):Prop where
 ga:PySem.W.findIn K (.ref C) "__getattribute__" = some (some (.builtin "BaseException.__getattribute__"))
 gt:PySem.W.findIn K (.ref C) "__getattr__" = some none
 cl:PySem.W.findIn K (.ref C) "__class__" = some (some (.builtin "object.__class__"))
 gc:PySem.W.specialIn K (.builtin "object.__class__") "__get__" = some (some (.builtin "getset_descriptor.__get__"))
 tk:PySem.W.takesIn K (.builtin "object.__class__")=some true
 ob:PySem.W.mroIn K C (.type "object")=some true
 be:PySem.W.mroIn K C (.type "BaseException")=some true
 is:(PySem.W.clsIn K C).isSome=true
theorem Aaq:(Manifest.canonical "BaseException.__getattribute__" != "object.__getattribute__")=false:=by decide +kernel
section
variable {prog:Program}{w:World}{A:Around}{E:Value→Shared→Prop}{s:Shared}{K:PySem.W.Frag}{x C t:Addr}{tb:Value}
theorem V3{h:Heap}(hx:h.get? x=some (exO C t tb)):PySem.W.InstAt h x (exO C t tb) C none:=⟨hx,rfl,rfl,True.intro⟩
theorem Adh{m:Str}{f:Addr}{pl:Sem Bool}{Q:Value × List Value→Shared→Prop}(X:K.In s.heap)(hx:s.heap.get? x=some (exO C t tb))(c:ExC K C)(hf:PySem.W.findIn K (.ref C) m=some (some (.ref f)))
  (ht:PySem.W.isFn K (.ref f)=true) (h:Q (.ref f,[.ref x]) s):wpAny (model prog w) A (getMethod (.ref x) m pl) Q E s:=by
 have I:=V3 hx
 have hty:PySem.W.typeIn K (.ref f)=some (.type "function"):=beq_iff_eq.mp ht
 unfold getMethod specialOf
 refine wpAny_bind (wpAny_bind (I.type.here ((PySem.W.looks_findIn X c.ga).here ?_)))
 dsimp only
 rw[Aaq,if_neg Akd]
 refine wpAny_bind (wpAny_bind (I.type.here ((PySem.W.looks_findIn X c.gt).here ?_)))
 refine wpAny_bind (wpAny_bind (I.type.here ((PySem.W.looks_findIn X hf).here (wpAny_bind ((PySem.W.looks_typeIn X hty).here ?_)))))
 rw[if_neg (by decide +kernel)]
 refine wpAny_bind (wpAny_loadPart hx ?_)
 exact wpAny_bind (wpAny_rule (wpAny_pure h))
theorem Ab0{Q:Option Value→Shared→Prop}(X:K.In s.heap)(hx:s.heap.get? x=some (exO C t tb))(c:ExC K C)(h:Q (some (.ref C)) { s with toks:=s.toks+1 }):wpAny (model prog w) A (getAttr? (.ref x) "__class__") Q E s:=by
 have I:=V3 hx
 obtain⟨hh,g,d,tk,os⟩:=s
 have L0:PySem.W.Looks (model prog w) hh (typeOf (.ref x)) (.ref C):=I.type
 have L1:=PySem.W.looks_findIn (M:=model prog w) X c.ga
 have L2:=PySem.W.looks_findIn (M:=model prog w) X c.gt
 have hfo:PySem.W.findObj K C none "__class__" = some (.bind (.builtin "getset_descriptor.__get__") (.builtin "object.__class__")):=by
  obtain⟨cd,hc⟩:=Option.isSome_iff_exists.mp c.is
  unfold PySem.W.findObj
  rw[hc,Option.bind_some,c.cl,Option.bind_some]
  simp[c.gc,c.tk]
 have L3:=PySem.W.looks_find (M:=model prog w) X I hfo
 have L4:PySem.W.Looks (model prog w) hh (isInstance (.ref x) (.type "BaseException")) true:=L0.andThen (PySem.W.looks_mroIn X c.be)
 have f3:=F.excAttr_ValueError.ga.bind (.ref x)
 unfold getAttr? getAttrBy? getAttrBy
 refine wpAny_bind (wpAny_mkText (wpAny_bind (wpAny_attempt (wpAny_holding (wpAny_bind (L0.at (wpAny_bind (L1.at ?_))))))))
 show wpAny _ _ (getAttrByItsOwn _ _ _ _ _ _) _ _ _
 unfold getAttrByItsOwn hookBefore
 rw[if_pos (show onTheHeap (Value.ref C)=true from rfl)]
 refine wpAny_bind (L2.at (wpAny_bind (wpAny_attempt (wpAny_holding ?_))))
 unfold callGetattribute
 rw[if_neg (show ¬((false && onTheHeap (Value.builtin "BaseException.__getattribute__"))=true) by simp)]
 unfold boundAndCalled
 rw[f3]
 refine wpAny_bind (wpAny_pure (wpAny_call (codeAny_call_builtin F.excAttr_ValueError.ga.plain F.entry_bexc_ga ?_)))
 have hk:builtinKind "BaseException.__getattribute__" = some .slot:=by decide +kernel
 have hsp:splitId "BaseException.__getattribute__" = some ("BaseException", "__getattribute__"):=by decide +kernel
 have ha:=F.args_bexc_ga (.ref x) (.str "__class__" tk)
 simp only [checkBuiltinCall,hk,hsp]
 refine wpAny_bind (L4.at ?_)
 repeat (first | (with_reducible refine wpAny_bind (L0.at (wpAny_bind (L3.at ?_)))) | wp_step)
 refine PySem.W.class_get (s:=⟨hh,g,d,tk+1,os⟩) (ox:=exO C t tb) (od:=none) X I c.ob ?_
 exact wpAny_pure (PySem.W.handed_on rfl (wpAny_pure h))
theorem RK(c:ExC K C):PySem.W.KitX K (.ref x) (.ref C) (fun h=>∃ t tb,h.get? x=some (exO C t tb)) where
 ty:=fun M h _ ⟨t,tb,e⟩=>(V3 e).type
 it:=fun M h X _=>by
  obtain⟨cd,hc⟩:=Option.isSome_iff_exists.mp c.is
  unfold PySem.W.clsIn at hc
  split at hc
  next ho =>
   intro A' Q' E' s' k q
   unfold isType loadHead
   exact wpAny_bind (wpAny_loadPart (k _ _ (X _ _ ho)) (wpAny_pure q))
  next=>cases hc
 ne:=fun h tp dd its n sl X htp=>by
  obtain⟨cd,hc⟩:=Option.isSome_iff_exists.mp c.is
  refine Bool.eq_false_iff.mpr fun q=>?_
  have e:C=tp:=Value.ref.inj (beq_iff_eq.mp q)
  subst e
  unfold PySem.W.clsIn at hc
  split at hc
  next ho=>cases (X _ _ ho).symm.trans htp
  next=>cases hc
 ca:=fun X ⟨t,tb,e⟩ k=>Ab0 X e c k
end
def Aii (K:PySem.W.Frag):List V→Hp→VK→Prop:=fun vs H Q=>∃ a C b,H a=some (exH C a)∧ExC K C ∧
 ((∃ n,vs=[.ref a,.ty n]∧PySem.W.kitOne K (.ref C) (.type n)=some b)∨(∃ D,vs=[.ref a,.ref D]∧PySem.W.kitOne K (.ref C) (.ref D)=some b))∧Q (.bl b) H
section
variable {X:Cx}{K:PySem.W.Frag}
theorem Zw{pins:List (Addr × Obj)}{σ:St}{H:Hp}{s:Shared}{a C:Addr}(I:Inv X pins σ H s)(e:H a=some (exH C a)):∃ t tb,s.heap.get? a=some (exO C t tb):=(I.hok a _ e).1
theorem Dz(hK:X.K=K:=by rfl):HY X (.builtin "isinstance") (Aii K):=by
 subst hK
 intro pins s σ H xs us Q I rv h
 obtain⟨a,C,b,ea,c,hv,q⟩:=h
 rcases hv with ⟨n,rfl,e⟩ | ⟨D,rfl,e⟩
 ·obtain⟨u1,u2,rfl,r1,r2⟩:=rv.two
  cases r1
  cases r2
  exact PySem.W.kia_one (RK c) I.kIn (Zw I ea) e (fun z=>nomatch z) fun tk=>⟨.bl b,H,I.tok _,rfl,q⟩
 ·obtain⟨u1,u2,rfl,r1,r2⟩:=rv.two
  cases r1
  cases r2
  exact PySem.W.kia_one (RK c) I.kIn (Zw I ea) e (fun z=>nomatch z) fun tk=>⟨.bl b,H,I.tok _,rfl,q⟩
variable {CX:CXT}{k:Nat}{ps:List Str}{sp:Addr→Sp}{E:XK}{m:Str}{pos apos:Pos}{o:Expr}{ta:TE}
def Aij (K:PySem.W.Frag)(m:Str)(sp:Addr→Sp)(E:XK)(ta:TE):TE:=fun σ H Q=>ta σ H fun x H1=>∃ a C,x=.ref a∧H1 a=some (exH C a)∧sp C [x] H1 Q E
end
open PySem PySem.Spec PyProof.Rows
abbrev vE:List Value:=[.type "ValueError", .type "Exception", .type "BaseException", .type "object"]
abbrev vN:String := "ValueError.__new__"
structure Exn (K:PySem.W.Frag) (C:Addr):Prop where
 q:PySem.W.excIn K C vE vN=true
 c:ExC K C
 ty:PySem.W.typeIn K (.ref C)=some (.type "type")
 ve:PySem.W.mroIn K C (.type "ValueError")=some true
theorem Afi{K:PySem.W.Frag}{C:Addr}(q:PySem.W.excIn K C vE vN=true)(ga:PySem.W.findIn K (.ref C) "__getattribute__" = some (some (.builtin "BaseException.__getattribute__"))) (gt:PySem.W.findIn K (.ref C) "__getattr__" = some none)
  (cl:PySem.W.findIn K (.ref C) "__class__" = some (some (.builtin "object.__class__"))) (gc:PySem.W.specialIn K (.builtin "object.__class__") "__get__" = some (some (.builtin "getset_descriptor.__get__"))) (tk:PySem.W.takesIn K (.builtin "object.__class__")=some true)
  (ob:PySem.W.mroIn K C (.type "object")=some true) (be:PySem.W.mroIn K C (.type "BaseException")=some true) (is:PySem.W.isClsIn K C=true) (ty:PySem.W.typeIn K (.ref C)=some (.type "type")) (ve:PySem.W.mroIn K C (.type "ValueError")=some true):Exn K C :=
 ⟨q,⟨ga,gt,cl,gc,tk,ob,be,is⟩,ty,ve⟩
theorem RL:vE.contains (.type "BaseException")=true:=by decide
theorem JV:vE.contains (.type "ValueError")=true:=by decide
theorem Exn.sub{K:PySem.W.Frag}{C D:Addr}(x:Exn K C)(r:PySem.W.mroIn K C (.ref D)=some true):Sub K C D:=by
 refine⟨⟨_,_,x.q⟩,?_⟩
 obtain⟨cd,h1,h2⟩:=Option.bind_eq_some_iff.mp r
 unfold PySem.W.clsIn at h1
 unfold Aap
 split at h1
 next c d cd' sl ho =>
  cases h1
  rw[ho]
  split at h2
  ·cases h2
  ·exact Option.some.inj h2
 next=>cases h1
theorem Ov{K:PySem.W.Frag}{C D:Addr}{b:Bool}(hC:PySem.W.mroIn K C (.ref C)=some true)(x:Exn K D)(r:PySem.W.mroIn K C (.ref D)=some b):PySem.W.kitOne K (.ref C) (.ref D)=some b:=by
 unfold PySem.W.kitOne
 by_cases q:(Value.ref C == Value.ref D)=true
 ·rw[if_pos q]
  have e:C=D:=Value.ref.inj (beq_iff_eq.mp q)
  subst e
  rw[hC] at r
  exact r
 ·rw[if_neg q]
  unfold PySem.W.kitCls
  have h:((PySem.W.clsIn K D).isSome && PySem.W.typeIn K (.ref D) == some (.type "type"))=true:=by rw[x.c.is,x.ty];rfl
  show(if _ then _ else _)=_
  rw[if_pos h]
  exact r
theorem Ab1{K:PySem.W.Frag}{C:Addr}(x:Exn K C):PySem.W.kitOne K (.ref C) (.type "ValueError")=some true:=by
 unfold PySem.W.kitOne
 rw[if_neg (by simp)]
 unfold PySem.W.kitCls
 show(if _ then _ else _)=_
 rw[if_pos (by decide +kernel)]
 exact x.ve
section
variable {X:Cx}{CX:CXT}{k:Nat}{C f:Addr}{fd:FuncData}{ps:List Str}{sp:Sp}{E:XK}{m:Str}{pos apos:Pos}{o:Expr}{ta:TE}
def Afj (C:Addr)(sp:Sp)(E:XK)(ta:TE):TE:=fun σ H Q=>ta σ H fun x H1=>∃ a,x=.ref a∧H1 a=some (exH C a)∧sp [x] H1 Q E
theorem RM{pl:Sem Bool}(he:PE X o ta)(c:ExC X.K C)(hm:Meth X.K C m f)(F:BK X.prog X.w X.K X.mg X.base CX k f fd ps sp)(hr:GD k X.A)(hb:Binds X.K fd ps [])(hx:Passes CX X E)
  (ht:eval (.Call (.Attribute o m apos) [] [] pos) X.env=(do
   let ov ← eval o X.env
   standAt apos.atName
   let (f,first) ← holding [ov] (getMethod ov m pl)
   callWith pos f first (backTo pos (starEach [] X.env)) (backToKw pos (keywordEach [] X.env))):=by rfl) :
  PE X (.Call (.Attribute o m apos) [] [] pos) (Afj C sp E ta):=by
 intro pins s σ H Q I h
 refine PySem.W.methodCall_KW (pl:=pl) (thn (he pins s σ H _ I h) fun u s1 ⟨x,H1,I1,rx,a,ex,ea,q⟩=>?_) ht
 subst ex
 obtain rfl:u=Value.ref a:=rx
 obtain⟨t,tb,e1⟩:=Zw I1 ea
 refine Adh I1.kIn e1 c hm.at_ hm.fn ?_
 exact PySem.W.callWith_K0 (first:=[.ref a]) I1.kIn hm.kp (Abk (us:=[.ref a]) (vs:=[.ref a]) (dvs:=[]) F hr hb .nil hx I1 (.cons rfl .nil) q)
end
def V4 (s:Stmt):List Stmt:=match s with
 | .ClassDef _ _ _ b _ _ _ _ _ _ _=>b
 | _=>[]
structure Mf (K:PySem.W.Frag) (x q:Str) (st:Stmt) (ps:List Str) (C f:Addr) (fd:FuncData):Prop where
 F:Fun K x q st f fd
 m:Meth K C x f
 b:Binds K fd ps []
theorem Jk:bootBuiltins "ValueError" = some (.type "ValueError"):=by decide +kernel
open PySem PySem.Spec PyProof.Rows
open Builtin Builtin.Str
def RN (u:List Nat)(lo hi:Option Int):List Nat:=(u.drop (HT.sIx u.length 0 lo)).take (HT.sIx u.length u.length hi-HT.sIx u.length 0 lo)
theorem Afk(a b:Nat):sliceRange (a:Int) (b:Int) 1=(List.range (b-a)).map fun k=>a+k:=by
 unfold sliceRange
 simp only [show(1:Int)>0 by decide,if_true]
 by_cases h:(a:Int)<(b:Int)
 ·rw[if_pos h,Int.ediv_one,show(b:Int)-(a:Int)+1-1=((b-a:Nat):Int) by omega,AjW]
  exact List.map_congr_left fun k _=>by omega
 ·rw[if_neg h,show b-a=0 by omega]
  rfl
theorem Ma(n d:Nat)(i:Int):max 0 (min (if i<0 then i+(n:Int) else i) (n:Int))=(HT.sIx n d (some i):Int):=by
 show _=(((if i<0 then (i+(n:Int)).toNat else min i.toNat n):Nat):Int)
 by_cases h:i<0
 ·rw[if_pos h,if_pos h];omega
 ·rw[if_neg h,if_neg h];omega
theorem idx_eq(n:Nat)(lo hi:Option Int):strSliceIndices lo hi 1 n=(List.range (HT.sIx n n hi-HT.sIx n 0 lo)).map fun k=>HT.sIx n 0 lo+k:=by
 rw[← Afk]
 cases lo with
 | none =>
  cases hi with
  | none=>rfl
  | some j=>rw[← Ma];rfl
 | some i =>
  cases hi with
  | none=>rw[← Ma n 0 i];rfl
  | some j=>rw[← Ma n 0 i,← Ma n n j];rfl
theorem Ab2(u:List Nat)(lo hi:Option Int):Txt.slice (tx u) lo hi=tx (RN u lo hi):=by
 unfold Txt.slice RN
 rw[Ax,idx_eq]
 have hle:HT.sIx u.length u.length hi≤u.length:=HT.AeT _ _ (AjQ _) _
 have key:∀(a k:Nat),a+k≤u.length→((List.range k).map fun j=>a+j).filterMap (fun i=>(tx u).cps[i]?)=(u.drop a).take k:=by
  intro a k
  induction k with
  | zero=>intro _;simp
  | succ k ih =>
   intro h
   rw[AkE,AjY,List.filterMap_append,ih (by omega)]
   have:a+k<u.length:=by omega
   simp only [AjX,Akv,AkG,List.filterMap_nil,JT,AjO this]
   rw[List.take_succ,Alh,AjO this]
   rfl
 split
 next h =>
  simp only [AjP,Akh,Ak3,beq_iff_eq] at h
  have h2:=h.2
  have:HT.sIx u.length 0 lo=0∨u.length=0:=by omega
  rcases this with e | e
  ·rw[e,AkI,Akw (by omega)]
  ·rw[Alr e];simp
 next h =>
  by_cases hlt:HT.sIx u.length 0 lo≤HT.sIx u.length u.length hi
  ·show(Str.mk _)=_
   rw[key _ _ (by omega)]
   rfl
  ·have e:HT.sIx u.length u.length hi-HT.sIx u.length 0 lo=0:=by omega
   rw[e]
   simp[tx]
theorem Np{u:List Nat}{k:Nat}(h:k≤u.length):RN u none (some (k:Int))=u.take k:=by
 unfold RN
 rw[HT.Ot,HT.LQ,AkI,AkJ h,AkV]
section
variable {X:Cx}
theorem G5:SlR X (fun x lo hi H Q=>∃ u:List Nat,x=.str (tx u)∧u.length≤sizeLine∧Q (.str (tx (RN u lo hi))) H):=by
 intro pins s σ H x v vl vu lo hi sl Q I rx hs pl pu h
 obtain⟨u,rfl,hz,q⟩:=h
 obtain⟨t,rfl⟩:=rx
 rw[← Ab2] at q
 refine⟨"str", _,F.slot_str_getitem.lookup,typeIs_str _ _ _,?_⟩
 have hsz:(tx u).length≤sizeLine:=by rw[Ax];exact hz
 obtain⟨os,hos,hcs,hds⟩:=id hs
 have fin:∀(l u':Option (Int × Tok)),s.heap.IsSlice sl l u' none→Q (.str (Txt.slice (tx u) (l.map (·.1)) (u'.map (·.1)))) H→wpAny (model X.prog X.w) X.A (getItem (.str (tx u) t) (.ref sl)) (EP X pins σ Q) X.xe s:=fun l u' z q' =>
  wpAny_getItem_str_slice z rfl (post_val_or_str ⟨Akg (Txt.slice_le (tx u) _ _) hsz,fun t' k=>⟨.str _,H,I.tok _,⟨t',rfl⟩,q'⟩⟩)
 cases pl with
 | none=>cases pu with
  | none=>exact fin none none ⟨os,hos,hcs,hds⟩ q
  | int j tj=>exact fin none (some (j,tj)) ⟨os,hos,hcs,hds⟩ q
 | int i ti=>cases pu with
  | none=>exact fin (some (i,ti)) none ⟨os,hos,hcs,hds⟩ q
  | int j tj=>exact fin (some (i,ti)) (some (j,tj)) ⟨os,hos,hcs,hds⟩ q
end
open PySem PySem.Spec PyProof.Rows
theorem RP:∀(xs:List V) (us:List Value),xs.length=us.length→(∀(i:Nat) x u,xs[i]?=some x→us[i]?=some u→RelV x u)→Vals xs us
 | [],[],_,_=>.nil
 | [],_::_,h,_=>by simp at h
 | _::_,[],h,_=>by simp at h
 | x::xs,u::us,h,p=>.cons (p 0 x u rfl rfl) (RP xs us (by simpa using h) fun i y v e1 e2=>p (i+1) y v e1 e2)
def Y4 (p:Addr)(a b c:Int):HO:=.ext fun h=>∃ t u v,IsRange h p a b c t u v
def Y5 (a c:Int)(n:Nat):List Int:=(List.range n).map fun(i:Nat)=>a+(i:Int)*c
section
variable {X:Cx}{K:PySem.W.Frag}
theorem Ab3{pins:List (Addr × Obj)}{σ:St}{H:Hp}{s:Shared}{a b c:Int}{t u v:Tok}{Q:VK}{tk:Nat}(I:Inv X pins σ H s)(q:∀ p,H p=none→Q (.ref p) (upd H p (Y4 p a b c))) :
  EP X pins σ Q (.ref s.heap.objs.size) { s with heap:=s.heap.push { cls:=.type "range", data:=.fields #[.int a t,.int b u,.int c v] },toks:=tk }:=by
 have hg:(s.heap.push { cls:=.type "range", data:=.fields #[.int a t,.int b u,.int c v] }).get? s.heap.objs.size=some { cls:=.type "range", data:=.fields #[.int a t,.int b u,.int c v] }:=Heap.get?_push_size _ rfl
 refine⟨.ref s.heap.objs.size,_,I.laid (o:=Y4 s.heap.objs.size a b c) (fun b o e=>Heap.get?_push_of_some _ e) (AjQ _) ?_,rfl,q _ (I.hok.fresh (AjQ _))⟩
 exact⟨⟨t,u,v,hg⟩,⟨_,hg⟩,fun h1 h2 y k=>by
  obtain⟨t',u',v',y⟩:=y
  exact⟨t',u',v',k _ y⟩⟩
theorem Y6(hc:X.calm=true:=by rfl):HY X (.type "list") (fun xs H Q=>∃(p:Addr) (a b c:Int) (n:Nat),xs=[.ref p]∧H p=some (Y4 p a b c)∧Builtin.Range.small a b c=true∧Builtin.Range.rangeSize a b c=n∧n≤1000 ∧
  ∀ l,H l=none→Q (.ref l) (upd H l (.lst (vI (Y5 a c n))))):=by
 intro pins s σ H xs us Q I rv h
 obtain⟨p,a,b,c,n,rfl,hp,hs,hn,hz,q⟩:=h
 obtain⟨u,rfl,ru⟩:=rv.one
 cases ru
 obtain⟨⟨t,u,v,hr⟩,_,_⟩:=I.hok p _ hp
 refine call_list_range (I.ok.hd hc) hr hs hn (Akg hz (by decide)) fun h' tk acc c' hk hl hi=>?_
 refine⟨.ref s.heap.objs.size,_,I.laid (t':=tk) (o:=.lst (vI (Y5 a c n))) hk (AjQ _) ?_,rfl,q _ (I.hok.fresh (AjQ _))⟩
 have hlen:(vI (Y5 a c n)).length=n:=by rw[BR];unfold Y5;rw[AjP,Akh]
 refine⟨by rw[hlen];exact AkA (Aai hz),acc.toList,c',?_,hl⟩
 refine RP _ _ (by rw[hlen,Array.length_toList,hi.1]) fun i x u e1 e2=>?_
 obtain⟨z,hz1,rfl⟩:=Nm e1
 obtain⟨t',rfl⟩:=hi.2 i u (by rw[← Array.getElem?_toList];exact e2)
 have hin:i<n:=by
  have:=(List.getElem?_eq_some_iff.mp e1).1
  rwa [hlen] at this
 unfold Y5 at hz1
 rw[Aka,Ak9 hin] at hz1
 cases hz1
 exact⟨t',rfl⟩
end
open PySem PySem.Spec PyProof.Rows
section
variable {X:Cx}{K:PySem.W.Frag}{o e value:Expr}{f:Str}{pos pos' tpos:Pos}{ta tv:TE}{st:Stmt}{t:TS}
theorem V5(ha:PE X o ta)(hv:PE X value tv)(hs:swapsWith value (some (.Attribute o f pos')) pos.line X.env=pure false:=by rfl)(hK:X.K=K:=by rfl):PS X (.Assign [.Attribute o f pos'] value pos) (Agv K ta tv f):=by subst hK;exact AeR ha hv hs
theorem Zx(h:X.A.frames=some X.stack→PS X st t):PS X st t:=fun pins s σ H D I hw=>h I.ok.frames pins s σ H D I hw
end
structure Own (K:PySem.W.Frag) (C f:Addr):Prop where
 c:Cls K C
 m:Mk K C f
theorem Afl{K:PySem.W.Frag}{C f:Addr}(h1:PySem.W.plainGet K C Str.empty=true)(h2:PySem.W.hasDictIn K C=true)(h3:PySem.W.plainOver K C=true)(h4:PySem.W.findIn K (.ref C) "__setattr__" = some (some (.builtin "object.__setattr__")))
  (h5:PySem.W.makesIn K C=true) (h6:PySem.W.findIn K (.ref C) "__init__" = some (some (.ref f))) (h7:PySem.W.isFn K (.ref f)=true) (h8:PySem.W.keepIn K (.ref C)=true):Own K C f:=⟨⟨h1,h2,h3,h4⟩,⟨h5,h6,h7,h8⟩⟩
open PySem PySem.Spec PyProof.Rows
structure AjA (K:PySem.W.Frag) (C:Addr) (m:Str) (f:Addr):Prop where
 rd:PySem.W.readsIn K C (.type "type")=true
 fi:PySem.W.findCls K (.ref C) (.type "type") m=some (.val (.ref f))
 ha:PySem.W.handedIn (.ref f)=true
 sp:PySem.W.specialIn K (.ref C) "__getattribute__" = some (some (.builtin "type.__getattribute__"))
 kp:PySem.W.keepIn K (.ref f)=true
def AiW (C:Addr)(sp:Sp)(dvs:List V)(E:XK)(ta:TE)(t:TA):TE:=fun σ H Q=>ta σ H fun x H1=>x=.ref C∧t σ H1 fun vs H2=>sp (vs++dvs) H2 Q E
section
variable {X:Cx}{CX:CXT}{k:Nat}{f C:Addr}{fd:FuncData}{ps:List Str}{sp:Sp}{dvs:List V}{ds:List Value}{E:XK}{m:Str}{pos apos:Pos}{e o:Expr}{es:List Expr}{ta:TE}{t:TA}
end
open PySem PySem.Spec PyProof.Rows
section
variable {κ:Type} [DecidableEq κ]
def GF (kvs:List (κ × V))(k:κ):Option V:=(kvs.find? fun kv=>decide (kv.1=k)).map (·.2)
def putK(kvs:List (κ × V))(k:κ)(v:V):List (κ × V) :=
 if (kvs.any fun kv=>decide (kv.1=k))=true then kvs.map (fun kv=>if kv.1=k then (kv.1,v) else kv) else kvs++[(k,v)]
def Ab4 (kvs:List (κ × V))(k:κ):List (κ × V):=kvs.filter fun kv=>decide (kv.1≠k)
theorem RQ{k:κ}:GF ([]:List (κ × V)) k=none:=rfl
theorem Jz{p:κ × V}{r:List (κ × V)}{k:κ}(e:p.1=k):GF (p::r) k=some p.2:=by simp[GF,AkF,e]
theorem Hs{p:κ × V}{r:List (κ × V)}{k:κ}(e:¬p.1=k):GF (p::r) k=GF r k:=by simp[GF,AkF,e]
theorem RT(k:κ):∀ kvs:List (κ × V),(kvs.any fun kv=>decide (kv.1=k))=(GF kvs k).isSome
 | []=>rfl
 | p::r=>by
  rw[AkD]
  by_cases e:p.1=k
  ·simp only [Jz e,decide_eq_true e,Bool.true_or,Option.isSome_some]
  ·rw[Hs e,decide_eq_false e,Bool.false_or];exact RT k r
theorem KJ(kvs:List (κ × V))(k:κ)(v:V):(putK kvs k v).length≤kvs.length+1:=by
 unfold putK
 split
 ·rw[AjP];omega
 ·rw[AjR,Aks,List.length_nil];omega
theorem RW{kvs:List (κ × V)}{k:κ}(v:V)(h:GF kvs k=none):putK kvs k v=kvs++[(k,v)]:=by
 unfold putK
 rw[RT,h]
 exact if_neg (by decide)
theorem Oj.J0{o:Option V}{u:Option Value}(r:Oj o u):o.isSome=u.isSome:=by
 cases o with
 | none=>cases u with
  | none=>rfl
  | some _=>exact(show False from r).elim
 | some _=>cases u with
  | none=>exact(show False from r).elim
  | some _=>rfl
theorem Oj.getD{o:Option V}{u:Option Value}{d:V}{d':Value}(r:Oj o u)(rd:RelV d d'):RelV (o.getD d) (u.getD d'):=by
 cases o with
 | none=>cases u with
  | none=>exact rd
  | some _=>exact(show False from r).elim
 | some _=>cases u with
  | none=>exact(show False from r).elim
  | some _=>exact r
theorem KV.val{kvs:List (κ × V)}{vs:List (κ × Value)}(r:KV kvs vs)(k:κ):Oj (GF kvs k) (valueAt vs k):=by
 unfold KV at r
 induction r with
 | nil=>exact True.intro
 | @cons p q ps qs h t ih =>
  obtain⟨h1,h2⟩:=h
  by_cases e:p.1=k
  ·have e':q.1=k:=h1.symm.trans e
   have b:valueAt (q::qs) k=some q.2:=by simp[valueAt,AkF,e']
   rw[Jz e,b];exact h2
  ·have e':¬q.1=k:=fun z=>e (h1.trans z)
   have b:valueAt (q::qs) k=valueAt qs k:=by simp[valueAt,AkF,e']
   rw[Hs e,b];exact ih
theorem KV.any{kvs:List (κ × V)}{vs:List (κ × Value)}(r:KV kvs vs)(k:κ):(kvs.any fun kv=>decide (kv.1=k))=vs.any fun kv=>decide (kv.1=k):=by
 unfold KV at r
 induction r with
 | nil=>rfl
 | cons h t ih=>rw[AkD,AkD,ih,h.1]
theorem KV.repl{kvs:List (κ × V)}{vs:List (κ × Value)}(r:KV kvs vs)(k:κ){y:V}{u:Value}(ry:RelV y u) :
  KV (kvs.map fun kv=>if kv.1=k then (kv.1,y) else kv) (vs.map fun kv=>if kv.1=k then (kv.1,u) else kv):=by
 unfold KV at r ⊢
 induction r with
 | nil=>exact .nil
 | @cons p q ps qs h t ih =>
  rw[AjX,AjX]
  refine .cons ?_ ih
  obtain⟨h1,h2⟩:=h
  by_cases e:p.1=k
  ·rw[if_pos e,if_pos (h1.symm.trans e)];exact⟨h1,ry⟩
  ·rw[if_neg e,if_neg (fun z=>e (h1.trans z))];exact⟨h1,h2⟩
theorem KV.put{kvs:List (κ × V)}{vs:List (κ × Value)}(r:KV kvs vs)(k:κ){y:V}{u:Value}(ry:RelV y u):KV (putK kvs k y) (stored vs k u):=by
 unfold putK stored
 rw[r.any k]
 by_cases e:(vs.any fun kv=>decide (kv.1=k))=true
 ·rw[if_pos e,if_pos e];exact r.repl k ry
 ·rw[if_neg e,if_neg e];exact Paired.snoc r ⟨rfl,ry⟩
theorem KV.length{kvs:List (κ × V)}{vs:List (κ × Value)}(r:KV kvs vs):kvs.length=vs.length:=Paired.length r
end
theorem RX{P:Program}{w:World}{k:Key}{u:Value}(r:RelV (kV k) u):(Dq P w).is k u=true:=by
 cases k with
 | inl i=>obtain⟨t,e⟩:=(show ∃ t,u=Value.int i t from r);subst e;exact Wz P w i t
 | inr x=>obtain⟨t,e⟩:=(show ∃ t,u=Value.str x t from r);subst e;exact W0 P w x t
theorem U0{P:Program}{w:World}:∀{ks:List Key} {us:List Value},Vals (ks.map kV) us→ItemsAre (Dq P w) ks us
 | [],_,r=>by rw[Akv] at r;cases r;exact .nil
 | k::ks,_,r=>by
  rw[AjX] at r
  cases r with
  | cons h t=>exact .cons (RX h) (U0 t)
abbrev KT (H:Hp):List (List Key × V)→List (List Key × Addr × Value)→Prop:=Paired fun p q=>p.1=q.1∧H q.2.1=some (.tup (p.1.map kV))∧RelV p.2 q.2.2
theorem KT.val{H:Hp}{kvs:List (List Key × V)}{xs:List (List Key × Addr × Value)}(r:KT H kvs xs)(k:List Key):Oj (GF kvs k) ((atKey xs k).map (·.2)):=by
 induction r with
 | nil=>exact True.intro
 | @cons p q ps qs h t ih =>
  obtain⟨h1,_,h2⟩:=h
  by_cases e:p.1=k
  ·have e':q.1=k:=h1.symm.trans e
   have b:atKey (q::qs) k=some q.2:=by simp[atKey,AkF,e']
   rw[Jz e,b];exact h2
  ·have e':¬q.1=k:=fun z=>e (h1.trans z)
   have b:atKey (q::qs) k=atKey qs k:=by simp[atKey,AkF,e']
   rw[Hs e,b];exact ih
theorem KT.repl{H:Hp}{kvs:List (List Key × V)}{xs:List (List Key × Addr × Value)}(r:KT H kvs xs)(k:List Key){y:V}{u:Value}(ry:RelV y u) :
  KT H (kvs.map fun kv=>if kv.1=k then (kv.1,y) else kv) (xs.map (putAt k u)):=by
 induction r with
 | nil=>exact .nil
 | @cons p q ps qs h t ih =>
  rw[AjX,AjX]
  refine .cons ?_ ih
  obtain⟨h1,h2,h3⟩:=h
  unfold putAt
  by_cases e:p.1=k
  ·rw[if_pos e,if_pos (h1.symm.trans e)];exact⟨h1,h2,ry⟩
  ·rw[if_neg e,if_neg (fun z=>e (h1.trans z))];exact⟨h1,h2,h3⟩
theorem KT.put{H:Hp}{kvs:List (List Key × V)}{xs:List (List Key × Addr × Value)}(r:KT H kvs xs)(k:List Key){b:Addr}{y:V}{u:Value}(hb:H b=some (.tup (k.map kV)))(ry:RelV y u) :
  KT H (putK kvs k y) (storedH xs k b u):=by
 have e:(kvs.any fun kv=>decide (kv.1=k))=(atKey xs k).isSome:=by
  rw[RT,(r.val k).J0,Ali]
 unfold putK storedH
 rw[e]
 by_cases q:(atKey xs k).isSome=true
 ·rw[if_pos q,if_pos q];exact r.repl k ry
 ·rw[if_neg q,if_neg q];exact Paired.snoc r ⟨rfl,hb,ry⟩
theorem KT.keeps{H H':Hp}{kvs:List (List Key × V)}{xs:List (List Key × Addr × Value)}(r:KT H kvs xs)(ht:∀ b ys,H b=some (.tup ys)→H' b=some (.tup ys)):KT H' kvs xs :=
 Paired.AeH r fun _ _ z=>⟨z.1,ht _ _ z.2.1,z.2.2⟩
section
variable {P:Program}{w:World}{H:Hp}{h:Heap}{a:Addr}
theorem Aer{u:HO}(ok:HOk P w H h)(e:Rd H a u):Et P w H h a u:=e.ok ok
theorem QL{kvs:List (Key × V)}(ok:HOk P w H h)(e:Rd H a (.dK kvs)):kvs.length≤sizeLine∧(a == sysModules)=false∧∃ vs,KV kvs vs∧h.DictOf (Dq P w) a vs :=
 show Et P w H h a (.dK kvs) from Aer ok e
theorem Zy{kvs:List (Key × V)}(ok:HOk P w H h)(e:H a=some (.dK kvs)):kvs.length≤sizeLine∧(a == sysModules)=false∧∃ vs,KV kvs vs∧h.DictOf (Dq P w) a vs:=QL ok (.inl e)
theorem Qk{ks:List Key}(ok:HOk P w H h)(e:H a=some (.tup (ks.map kV))):(tupleKind (Dq P w)).is h ks a:=by
 obtain⟨_,its,r,o,h1,h2,n,h3⟩:=(show Et P w H h a (.tup (ks.map kV)) from ok a _ e)
 exact⟨o,its.toArray,n,h1,h2,h3,by simpa using U0 r⟩
theorem RZ{kvs:List (List Key × V)}(ok:HOk P w H h)(e:Rd H a (.dT kvs)):kvs.length≤sizeLine∧(a == sysModules)=false ∧
  ∃ xs,KT H kvs xs∧h.DictOfH (tupleKind (Dq P w)) a xs:=by
 obtain⟨z,y,xs,r,o,es,ep,h1,h2,h3,h4,h5⟩:=(show Et P w H h a (.dT kvs) from Aer ok e)
 refine⟨z,y,xs,r,o,es,ep,h1,h2,h3,h4,fun x hx=>?_,h5⟩
 have all:∀{l:List (List Key × V)} {m:List (List Key × Addr × Value)},KT H l m→∀ x∈m,(tupleKind (Dq P w)).is h x.1 x.2.1:=by
  intro l m q
  induction q with
  | nil=>intro x hx;exact nomatch hx
  | @cons p q ps qs hq t ih =>
   intro x hx
   rcases List.mem_cons.mp hx with e | hx
   ·subst e
    exact Qk ok (by rw[← hq.1];exact hq.2.1)
   ·exact ih x hx
 exact all r x hx
theorem Ag8{kvs:List (List Key × V)}(ok:HOk P w H h)(e:H a=some (.dT kvs)):kvs.length≤sizeLine∧(a == sysModules)=false ∧
  ∃ xs,KT H kvs xs∧h.DictOfH (tupleKind (Dq P w)) a xs:=RZ ok (.inl e)
end
def Ht (H:Hp)(a:Addr)(y:V)(r:Option V):Prop :=
 (∃ kvs k,Rd H a (.dK kvs)∧y=kV k∧r=GF kvs k)∨∃ kvs k b,Rd H a (.dT kvs)∧y=.ref b∧H b=some (.tup (k.map kV))∧r=GF kvs k
def WQ (H:Hp)(a:Addr)(y v:V)(H':Hp):Prop :=
 (∃ kvs k,H a=some (.dK kvs)∧y=kV k∧kvs.length<sizeLine∧H'=upd H a (.dK (putK kvs k v))) ∨
 ∃ kvs k b,H a=some (.dT kvs)∧y=.ref b∧H b=some (.tup (k.map kV))∧kvs.length<sizeLine∧H'=upd H a (.dT (putK kvs k v))
theorem Ht.k{H:Hp}{a:Addr}{kvs:List (Key × V)}{k:Key}(e:H a=some (.dK kvs)):Ht H a (kV k) (GF kvs k):=.inl ⟨kvs,k,.inl e,rfl,rfl⟩
theorem WQ.k{H:Hp}{a:Addr}{kvs:List (Key × V)}{k:Key}{v:V}(e:H a=some (.dK kvs))(hl:kvs.length<sizeLine):WQ H a (kV k) v (upd H a (.dK (putK kvs k v))):=.inl ⟨kvs,k,e,rfl,hl,rfl⟩
section
variable {X:Cx}{pins:List (Addr × Obj)}{σ:St}{H:Hp}{s:Shared}{a:Addr}{y v:V}{u r:Value}{o:Option V}{A:Around}{E:Value→Shared→Prop}
theorem Inv.big(I:Inv X pins σ H s):sysModules<s.heap.objs.size:=by
 have h:mainGlobals<s.heap.objs.size:=(I.mod.glob.keeps I.bk).lt
 exact AkW (by decide) h
theorem Aar{Q:Value→Shared→Prop}(hu:A.units+1<cLine)(I:Inv X pins σ H s)(g:Ht H a y (some v))(ry:RelV y u)(h:∀ w' s',Inv X pins σ H s'→RelV v w'→Q w' s') :
  wpAny (model X.prog X.w) A (getItem (.ref a) u) Q E s:=by
 rcases g with ⟨kvs,k,e,ey,l⟩ | ⟨kvs,k,b,e,ey,eb,l⟩
 ·subst ey
  obtain⟨z,hd,vs,rel,dd⟩:=QL I.hok e
  obtain⟨w',hw,rw'⟩:=Oj.some_of (v:=v) (o:=valueAt vs k) (by rw[l];exact rel.val k)
  exact wpAny_getItem_of (RX ry) dd.mapOf hw (h w' _ (I.tok _) rw')
 ·subst ey
  cases (show u=Value.ref b from ry)
  obtain⟨z,hd,xs,rel,dd⟩:=RZ I.hok e
  obtain⟨w',hw,rw'⟩:=Oj.some_of (v:=v) (o:=(atKey xs k).map (·.2)) (by rw[l];exact rel.val k)
  obtain⟨p,hp,hp2⟩:=Option.map_eq_some_iff.mp hw
  refine wpAny_getItem_heap (tupleKind_room_in1 hu) (Qk I.hok eb) dd hp ?_
  rw[hp2]
  exact h w' _ (I.tok _) rw'
theorem Aik{Q:Value→Shared→Prop}(hu:A.units+1<cLine)(I:Inv X pins σ H s)(g:Ht H a y o)(ry:RelV y u)(h:∀ s',Inv X pins σ H s'→Q (.bool o.isSome) s') :
  wpAny (model X.prog X.w) A (compareOp .In u (.ref a)) Q E s:=by
 rcases g with ⟨kvs,k,e,ey,l⟩ | ⟨kvs,k,b,e,ey,eb,l⟩
 ·subst ey
  obtain⟨z,hd,vs,rel,dd⟩:=QL I.hok e
  refine wpAny_in_of (RX ry) hd dd.mapOf ?_
  rw[← (rel.val k).J0,← l]
  exact h _ (I.tok _)
 ·subst ey
  cases (show u=Value.ref b from ry)
  obtain⟨z,hd,xs,rel,dd⟩:=RZ I.hok e
  refine wpAny_in_heap (tupleKind_room_in1 hu) (Qk I.hok eb) hd dd ?_
  have q:=(rel.val k).J0
  rw[Ali] at q
  rw[← q,← l]
  exact h _ (I.tok _)
theorem Adi{Q:Value→Shared→Prop}(hu:A.units+1<cLine)(I:Inv X pins σ H s)(g:Ht H a y o)(ry:RelV y u)(h:∀ s',Inv X pins σ H s'→Q (.bool (!o.isSome)) s') :
  wpAny (model X.prog X.w) A (compareOp .NotIn u (.ref a)) Q E s:=by
 rcases g with ⟨kvs,k,e,ey,l⟩ | ⟨kvs,k,b,e,ey,eb,l⟩
 ·subst ey
  obtain⟨z,hd,vs,rel,dd⟩:=QL I.hok e
  refine wpAny_notIn_of (RX ry) hd dd.mapOf ?_
  rw[← (rel.val k).J0,← l]
  exact h _ (I.tok _)
 ·subst ey
  cases (show u=Value.ref b from ry)
  obtain⟨z,hd,xs,rel,dd⟩:=RZ I.hok e
  refine wpAny_notIn_heap (tupleKind_room_in1 hu) (Qk I.hok eb) hd dd ?_
  have q:=(rel.val k).J0
  rw[Ali] at q
  rw[← q,← l]
  exact h _ (I.tok _)
theorem Ry{h':Heap}{t':Nat}{ob:HO}(I:Inv X pins σ H s)(mu:Mut (H a))(hs:Heap.SameBut a s.heap h')(he:∃ q,h'.get? a=some q)(new:Et X.prog X.w (upd H a ob) h' a ob) :
  Inv X pins σ (upd H a ob) { s with heap:=h',toks:=t' } :=
 I.write (x:=a) (e:=a) mu (.inl rfl) (fun b q hb z=>(hs.2 b hb).trans z) he new
theorem Y7{P:Program}{w:World}{H':Hp}{h':Heap}{kvs:List (Key × V)}{vs:List (Key × Value)}(z:kvs.length≤sizeLine)(hd:(a == sysModules)=false)(rel:KV kvs vs)(dd:h'.DictOf (Dq P w) a vs) :
  Et P w H' h' a (.dK kvs):=⟨z,hd,vs,rel,dd⟩
theorem Aas{H':Hp}{Q:Unit→Shared→Prop}(hu:A.units+1<cLine)(I:Inv X pins σ H s)(g:WQ H a y v H')(ry:RelV y u)(rv:RelV v r)(h:∀ s',Inv X pins σ H' s'→Q () s') :
  wpAny (model X.prog X.w) A (setItem (.ref a) u r) Q E s:=by
 rcases g with ⟨kvs,k,e,ey,l,eH⟩ | ⟨kvs,k,b,e,ey,eb,l,eH⟩
 ·subst ey eH
  obtain⟨z,hd,vs,rel,dd⟩:=Zy I.hok e
  have hz:vs.length≤sizeLine:=by rw[← rel.length];exact z
  have hl:(putK kvs k v).length≤sizeLine:=by have:=KJ kvs k v;omega
  refine wpAny_setItem_pairs (hsz:=hz) (RX ry) dd fun h' dd' hs=>h _ ?_
  have he:∃ q,h'.get? a=some q:=let ⟨q,_,_,hq,_⟩:=dd';⟨q,hq⟩
  exact Ry I (by rw[e];exact True.intro) hs he (Y7 hl hd (rel.put k rv) dd')
 ·subst ey eH
  cases (show u=Value.ref b from ry)
  obtain⟨z,hd,xs,rel,dd⟩:=Ag8 I.hok e
  have hz:xs.length≤sizeLine:=by rw[← Paired.length rel];exact z
  have hl:(putK kvs k v).length≤sizeLine:=by have:=KJ kvs k v;omega
  refine wpAny_setItem_heap (hsz:=hz) (tupleKind_room_in1 hu) (Qk I.hok eb) dd fun h' dd' hs=>h _ ?_
  obtain⟨q,es,ep,hq,h2,h3,h4,_,h5⟩:=dd'
  refine Ry I (by rw[e];exact True.intro) hs ⟨q,hq⟩ ⟨hl,hd,_,(rel.put k eb rv).keeps fun c ys ec=>?_,q,es,ep,hq,h2,h3,h4,h5⟩
  rw[Aq (Agh ec e (fun z=>nomatch z))]
  exact ec
end
section
variable {X:Cx}{pins:List (Addr × Obj)}{σ:St}{H:Hp}{s:Shared}{a:Addr}{kvs:List (Key × V)}{k:Key}{u:Value}{A:Around}{E:Value→Shared→Prop}
theorem Ag9{Q:Value→Shared→Prop}(I:Inv X pins σ H s)(e:Rd H a (.dK kvs))(h:∀ t s',Inv X pins σ H s'→Q (.int kvs.length t) s'):wpAny (model X.prog X.w) A (call (.builtin "len") [.ref a]) Q E s:=by
 obtain⟨z,hd,vs,rel,dd⟩:=QL I.hok e
 refine call_len_dict hd dd (by rw[← rel.length];rw[sizeLine_eq] at z;omega) ?_
 rw[← rel.length]
 exact h _ _ (I.tok _)
end
def AgA (i:Expr):Prop:=∀ ov iv,subscripted i false ov iv=operate [ov,iv] (getItem ov iv)
theorem Adj{prog:Program}{w:World}{A:Around}{E:Value→Shared→Prop}{s:Shared}{env:Env}{value slice:Expr}{pos:Pos}{T id:String}{Q:Value→Shared→Prop}
  (hl:typeLookup (.type T) "__getitem__" = pure (some (.builtin id))) (hs:AgA slice)
  (h:wpAny (model prog w) A (eval value env) (fun o s₁=>wpAny (model prog w) A (eval slice env) (fun i s₂=>s₂.TypeIs o T∧wpAny (model prog w) A (getItem o i) Q E s₂) E s₁) E s) :
  wpAny (model prog w) A (eval (.Subscript value slice pos) env) Q E s:=by
 refine Subscript_ (wpAny_mono h (fun o s₁ h₁=>wpAny_mono h₁ (fun i s₂ h₂=>?_) fun _ _ x=>x) fun _ _ x=>x)
 obtain⟨hT,h₂⟩:=h₂
 unfold subscriptTail
 refine wpAny_bind ?_
 rw[getitemInPython_of_ne hT.not_modules]
 refine wpAny_bind (wpAny_specialOf hT hl ?_)
 have fin:wpAny (model prog w) A (subscripted slice false o i) (fun r s₃=>wpAny (model prog w) A (letTemporaryGo value o r >>= fun _=>pure r) Q E s₃) E s₂:=by
  rw[hs o i]
  exact wpAny_operating (wpAny_mono h₂ (fun r s₃ h₃=>wpAny_bind (wpAny_letTemporaryGo (wpAny_pure h₃))) fun _ _ x=>x)
 first
  | exact wpAny_pure (wpAny_bind fin)
  | exact wpAny_bind (wpAny_pure (wpAny_bind fin))
  | exact wpAny_bind fin
theorem WR{X:Cx}{pins:List (Addr × Obj)}{σ:St}{H:Hp}{s:Shared}{a:Addr}{y:V}{o:Option V}(I:Inv X pins σ H s)(g:Ht H a y o):s.TypeIs (.ref a) "dict" := by
 rcases g with ⟨kvs,k,e,_,_⟩ | ⟨kvs,k,b,e,_,_,_⟩
 ·obtain⟨_,_,vs,_,dd⟩:=QL I.hok e
  exact dd.typeIs
 ·obtain⟨_,_,xs,_,dd⟩:=RZ I.hok e
  exact dd.typeIs
def AgB (td ty:TE):TE:=fun σ H Q=>td σ H fun x H1=>ty σ H1 fun y H2=>∃ a v,x=.ref a∧Ht H2 a y (some v)∧Q v H2
def Ail (ty td:TE):TE:=fun σ H Q=>ty σ H fun y H1=>td σ H1 fun x H2=>∃ a o,x=.ref a∧Ht H2 a y o∧Q (.bl o.isSome) H2
def Adk (ty td:TE):TE:=fun σ H Q=>ty σ H fun y H1=>td σ H1 fun x H2=>∃ a o,x=.ref a∧Ht H2 a y o∧Q (.bl (!o.isSome)) H2
def AgC (td ty tv:TE):TS:=fun D σ H=>tv σ H fun v H1=>td σ H1 fun x H2=>ty σ H2 fun y H3=>∃ a H4,x=.ref a∧WQ H3 a y v H4∧D.nx σ H4
def AiX (td ty tv:TE)(rd:V→V→Hp→VK→Prop):TS:=fun D σ H=>td σ H fun x H1=>ty σ H1 fun y H2=>∃ a v,x=.ref a∧Ht H2 a y (some v) ∧
 tv σ H2 fun y2 H3=>rd v y2 H3 fun z H4=>∃ H5,WQ H4 a y z H5∧D.nx σ H5
def AiY (td ty:TE):TS:=fun D σ H=>td σ H fun x H1=>ty σ H1 fun y H2=>∃ a kvs k,x=.ref a∧H2 a=some (.dK kvs)∧y=kV k∧(GF kvs k).isSome=true∧D.nx σ (upd H2 a (.dK (Ab4 kvs k)))
section
variable {X:Cx}{o i e value:Expr}{pos pos' tpos:Pos}{td ty tv:TE}
theorem Rz(hu:X.A.units+1<cLine)(ho:PE X o td)(hi:PE X i ty)(hs:AgA i):PE X (.Subscript o i pos) (AgB td ty):=by
 intro pins s σ H Q I h
 refine Adj PySem.F.slot_dict_getitem.lookup hs (thn (ho pins s σ H _ I h) fun u s1 ⟨x,H1,I1,rx,q1⟩=>thn (hi pins s1 σ H1 _ I1 q1) fun iv s2 ⟨y,H2,I2,ry,a,v,ex,g,q2⟩=>?_)
 subst ex
 obtain rfl:u=Value.ref a:=rx
 exact⟨WR I2 g,Aar hu I2 g ry fun w' s3 I3 rw'=>⟨v,H2,I3,rw',q2⟩⟩
theorem Ab5(hu:X.A.units+1<cLine)(hi:PE X i ty)(ho:PE X o td):PC X .In i o (Ail ty td):=by
 intro pins s σ H Q I h
 refine thn (hi pins s σ H _ I h) fun iv s1 ⟨y,H1,I1,ry,q1⟩=>thn (ho pins s1 σ H1 _ I1 q1) fun u s2 ⟨x,H2,I2,rx,a,ov,ex,g,q2⟩=>?_
 subst ex
 obtain rfl:u=Value.ref a:=rx
 exact Aik hu I2 g ry fun s3 I3=>⟨.bl ov.isSome,H2,I3,rfl,q2⟩
theorem Mg(hu:X.A.units+1<cLine)(hi:PE X i ty)(ho:PE X o td):PC X .NotIn i o (Adk ty td):=by
 intro pins s σ H Q I h
 refine thn (hi pins s σ H _ I h) fun iv s1 ⟨y,H1,I1,ry,q1⟩=>thn (ho pins s1 σ H1 _ I1 q1) fun u s2 ⟨x,H2,I2,rx,a,ov,ex,g,q2⟩=>?_
 subst ex
 obtain rfl:u=Value.ref a:=rx
 exact Adi hu I2 g ry fun s3 I3=>⟨.bl (!ov.isSome),H2,I3,rfl,q2⟩
theorem V6(hu:X.A.units+1<cLine)(ho:PE X o td)(hi:PE X i ty)(hv:PE X value tv)(hs:swapsWith value (some (.Subscript o i pos')) pos.line X.env=pure false) :
  PS X (.Assign [.Subscript o i pos'] value pos) (AgC td ty tv):=by
 intro pins s σ H D I h
 refine wpAny_Assign_Subscript (thn (hv pins s σ H _ I h) fun r s1 ⟨v,H1,I1,rv,q1⟩=>thn (ho pins s1 σ H1 _ I1 q1) fun u s2 ⟨x,H2,I2,rx,q2⟩=>thn (hi pins s2 σ H2 _ I2 q2) fun iv s3 ⟨y,H3,I3,ry,a,H4,ex,g,q3⟩=>?_) hs
 subst ex
 obtain rfl:u=Value.ref a:=rx
 exact Aas hu I3 g ry rv fun s4 I4=>⟨σ,H4,I4,q3⟩
end
theorem WT{P:Program}{w:World}{H:Hp}(h:Heap)(hb:sysModules<h.objs.size):Et P w H (h.push { cls:=.type "dict", data:=.dict #[] }) h.objs.size (.dK []) :=
 ⟨Akb _,beq_eq_false_iff_ne.mpr (Ne.symm (AjS hb)),[],.nil,Heap.DictOf.new h⟩
def Afm:TE:=fun _ H Q=>∀ p,H p=none→Q (.ref p) (upd H p (.dK []))
def Aim:TE:=fun _ H Q=>∀ p,H p=none→Q (.ref p) (upd H p (.dT []))
section
variable {X:Cx}{pos:Pos}
theorem Ab6:PE X (.Dict [] [] pos) Afm:=fun pins s σ H Q I h =>
 wpAny_Dict_empty ⟨.ref s.heap.objs.size,_,I.laid (a:=s.heap.objs.size) (o:=.dK []) (t':=s.toks) (fun _ _ q=>Heap.get?_push_of_some _ q) (AjQ _) (WT s.heap I.big),rfl,h _ (I.hok.fresh (AjQ _))⟩
end
def Y8:List (TE × TE)→St→Hp→(List (V × V)→Hp→Prop)→Prop
 | [],_,H,Q=>Q [] H
 | (tk,tv)::r,σ,H,Q=>tk σ H fun x H1=>tv σ H1 fun y H2=>Y8 r σ H2 fun ps H3=>Q ((x,y)::ps) H3
abbrev VV:List (V × V)→List (Value × Value)→Prop:=Paired fun p q=>RelV p.1 q.1∧RelV p.2 q.2
def PPs (X:Cx)(pos:Pos)(keys:List (Option Expr))(values:List Expr)(trs:List (TE × TE)):Prop :=
 ∀(pins:List (Addr × Obj)) (s:Shared) (σ:St) (H:Hp) (Q:List (V × V)→Hp→Prop),Inv X pins σ H s→Y8 trs σ H Q →
  wpAny (model X.prog X.w) X.A (evalPairs (pairTrees keys values X.env pos)) (fun vs s'=>∃ ps H',Inv X pins σ H' s'∧VV ps vs∧Q ps H') X.xe s
theorem V7{X:Cx}{pos:Pos}:PPs X pos [] [] []:=fun pins s σ H Q I h=>pairTrees_nil_walk ⟨[],H,I,.nil,h⟩
theorem Sh{X:Cx}{pos:Pos}{k v:Expr}{ks:List (Option Expr)}{vs:List Expr}{tk tv:TE}{trs:List (TE × TE)}(hk:PE X k tk)(hv:PE X v tv)(hr:PPs X pos ks vs trs) :
  PPs X pos (some k::ks) (v::vs) ((tk,tv)::trs):=fun pins s σ H Q I h =>
 pairTrees_cons_walk (thn (hk pins s σ H _ I h) fun u s1 ⟨x,H1,I1,rx,q1⟩=>thn (hv pins s1 σ H1 _ I1 q1) fun w2 s2 ⟨y,H2,I2,ry,q2⟩ =>
  thn (hr pins s2 σ H2 _ I2 q2) fun ws s3 ⟨ps,H3,I3,rel,q3⟩=>⟨(x,y)::ps,H3,I3,.cons ⟨rx,ry⟩ rel,q3⟩)
def Fg (kvs more:List (Key × V)):List (Key × V):=more.foldl (fun acc kv=>putK acc kv.1 kv.2) kvs
theorem KV.merge:∀{more:List (Key × V)} {rs:List (Key × Value)} {kvs:List (Key × V)} {vs:List (Key × Value)},KV more rs→KV kvs vs→KV (Fg kvs more) (merged vs rs):=by
 intro more rs kvs vs r
 unfold KV at r
 induction r generalizing kvs vs with
 | nil=>intro q;exact q
 | @cons p q ps qs h t ih =>
  intro r0
  have e:KV (putK kvs p.1 p.2) (stored vs q.1 q.2):=by
   have:=r0.put p.1 h.2
   rw[← h.1];exact this
  exact ih e
theorem M6:∀(more kvs:List (Key × V)),(Fg kvs more).length≤kvs.length+more.length
 | [],kvs=>by show kvs.length≤kvs.length+0;omega
 | p::r,kvs=>by
  have h1:=M6 r (putK kvs p.1 p.2)
  have h2:=KJ kvs p.1 p.2
  show(Fg (putK kvs p.1 p.2) r).length≤_
  rw[Aks];omega
theorem Sq{P:Program}{w:World}:∀{kvs:List (Key × V)} {ws:List (Value × Value)},VV (kvs.map fun kv=>(kV kv.1,kv.2)) ws→∃ rs,Carries (Dq P w) ws rs∧KV kvs rs
 | [],_,r=>by rw[Akv] at r;cases r;exact⟨[],True.intro,.nil⟩
 | p::kvs,_,r=>by
  rw[AjX] at r
  cases r with
  | @cons a b as bs h t =>
   obtain⟨rs,c,q⟩:=Sq (P:=P) (w:=w) t
   obtain⟨b1,b2⟩:=b
   exact⟨(p.1,b2)::rs,⟨RX h.1,rfl,c⟩,.cons ⟨rfl,h.2⟩ q⟩
def AgD (trs:List (TE × TE)):TE:=fun σ H Q=>∀ p,H p=none→Y8 trs σ (upd H p (.dK [])) fun ps H2=>H2 p=some (.dK [])∧∃ kvs:List (Key × V),ps=kvs.map (fun kv=>(kV kv.1,kv.2))∧kvs.length≤15∧Q (.ref p) (upd H2 p (.dK (Fg [] kvs)))
theorem V8{X:Cx}{pos:Pos}{keys:List (Option Expr)}{values:List Expr}{trs:List (TE × TE)}(h:PPs X pos keys values trs)(hall:keys.all (·.isSome)=true)(hl:keys.length=values.length)(h0:keys≠[])
  (h15:keys.length≤15):PE X (.Dict keys values pos) (AgD trs):=by
 intro pins s σ H Q I q
 have hn:=I.hok.fresh (AjQ s.heap.objs.size)
 have I1:=I.laid (a:=s.heap.objs.size) (o:=.dK []) (h':=s.heap.push { cls:=.type "dict", data:=.dict #[] }) (t':=s.toks) (fun _ _ q=>Heap.get?_push_of_some _ q) (AjQ _) (WT s.heap I.big)
 refine wpAny_Dict_walk (knd:=Dq X.prog X.w) hall hl h0 h15 (thn (h pins _ σ _ _ I1 (q _ hn)) fun ws s2 ⟨ps,H2,I2,rel,e,kvs,ep,lk,q2⟩=>?_)
 subst ep
 obtain⟨rs,c,rk⟩:=Sq (P:=X.prog) (w:=X.w) rel
 obtain⟨z,hd,vs0,r0,dd⟩:=Zy I2.hok e
 cases r0
 refine⟨rs,c,dd,fun h' dd' hs=>⟨.ref s.heap.objs.size,_,?_,rfl,q2⟩⟩
 have hz:(Fg [] kvs).length≤sizeLine:=by
  have h1:=M6 kvs []
  rw[List.length_nil] at h1
  rw[sizeLine_eq];omega
 have he:∃ q,h'.get? s.heap.objs.size=some q:=let ⟨q,_,_,hq,_⟩:=dd';⟨q,hq⟩
 exact Ry I2 (by rw[e];exact True.intro) hs he (Y7 hz hd (rk.merge .nil) dd')
structure M1 (X:Cx) (o:Expr) (m:Str) (apos:Pos) (e:Expr) (cpos:Pos):Prop where
 base:attributeBase o m X.env (eval o X.env)=eval o X.env
 few:((backTo cpos (starEach [e] X.env)).all (fun x=>!x.1) && (backToKw cpos (keywordEach [] X.env)).all (fun x=>x.1.isSome)
  && decide (([e]:List Expr).length+([]:List Keyword).length+(if ([]:List Keyword).isEmpty then 0 else 1)<30))=true
 line:(apos.endLine == cpos.line)=true
 trees:backTo cpos (starEach [e] X.env)=[(false,eval e X.env)]
structure M2 (X:Cx) (o:Expr) (m:Str) (apos:Pos) (e f:Expr) (cpos:Pos):Prop where
 base:attributeBase o m X.env (eval o X.env)=eval o X.env
 few:((backTo cpos (starEach [e,f] X.env)).all (fun x=>!x.1) && (backToKw cpos (keywordEach [] X.env)).all (fun x=>x.1.isSome)
  && decide (([e,f]:List Expr).length+([]:List Keyword).length+(if ([]:List Keyword).isEmpty then 0 else 1)<30))=true
 line:(apos.endLine == cpos.line)=true
 trees:backTo cpos (starEach [e,f] X.env)=[(false,eval e X.env),(false,eval f X.env)]
def IsD (H:Hp)(a:Addr):Prop:=(∃ kvs,Rd H a (.dK kvs))∨∃ kvs,Rd H a (.dT kvs)
theorem Ab7{X:Cx}{pins:List (Addr × Obj)}{σ:St}{H:Hp}{s:Shared}{a:Addr}(I:Inv X pins σ H s)(d:IsD H a) :
  s.TypeIs (.ref a) "dict" ∧ (∀ b,Value.ref a=.ref b→∃ ob,s.heap.get? b=some ob∧ob.dict=none)∧(a == sysModules)=false:=by
 rcases d with ⟨kvs,e⟩ | ⟨kvs,e⟩
 ·obtain⟨_,hd,vs,_,dd⟩:=QL I.hok e
  refine⟨dd.typeIs,fun b q=>?_,hd⟩
  cases q
  obtain⟨ob,_,_,h1,h2,_⟩:=dd
  exact⟨ob,h1,h2.2.1⟩
 ·obtain⟨_,hd,xs,_,dd⟩:=RZ I.hok e
  refine⟨dd.typeIs,fun b q=>?_,hd⟩
  cases q
  obtain⟨ob,_,_,h1,h2,_⟩:=dd
  exact⟨ob,h1,h2.2.1⟩
section
variable {X:Cx}{pins:List (Addr × Obj)}{σ:St}{H:Hp}{s:Shared}{a:Addr}{y d:V}{u r:Value}{o:Option V}{A:Around}{E:Value→Shared→Prop}
theorem Afn{Q:Value→Shared→Prop}(hu:A.units+1<cLine)(I:Inv X pins σ H s)(g:Ht H a y o)(ry:RelV y u)(h:∀ w' s',Inv X pins σ H s'→RelV (o.getD .non) w'→Q w' s') :
  wpAny (model X.prog X.w) A (call (.builtin "dict.get") [.ref a,u]) Q E s:=by
 rcases g with ⟨kvs,k,e,ey,l⟩ | ⟨kvs,k,b,e,ey,eb,l⟩
 ·subst ey
  obtain⟨z,hd,vs,rel,dd⟩:=QL I.hok e
  refine call_meetsIn PySem.F.slot_dict_get dd.typeIs PySem.F.entry_dict_get (PySem.F.args_dict_get_2 _ _) (meets_dict_get (Dq X.prog X.w) a (RX ry) hd) ⟨_,dd.mapOf,h _ _ (I.tok _) ?_⟩
  rw[l]
  exact(rel.val k).getD rfl
 ·subst ey
  cases (show u=Value.ref b from ry)
  obtain⟨z,hd,xs,rel,dd⟩:=RZ I.hok e
  refine call_meetsIn PySem.F.slot_dict_get dd.typeIs PySem.F.entry_dict_get (PySem.F.args_dict_get_2 _ _) (meetsH_dict_get (tupleKind (Dq X.prog X.w)) a b hd) ⟨tupleKind_room_in1 hu,k,xs,Qk I.hok eb,dd,h _ _ (I.tok _) ?_⟩
  rw[l]
  exact(rel.val k).getD rfl
end
def Afo (td ty:TE):TE:=fun σ H Q=>td σ H fun x H1=>∃ a,x=.ref a∧IsD H1 a∧ty σ H1 fun y H2=>∃ o,Ht H2 a y o∧Q (o.getD .non) H2
def Ain (td ty tx:TE):TE:=fun σ H Q=>td σ H fun x H1=>∃ a,x=.ref a∧IsD H1 a∧ty σ H1 fun y H2=>tx σ H2 fun z H3=>∃ o,Ht H3 a y o∧Q (o.getD z) H3
def Aio (td ty:TE):TE:=fun σ H Q=>td σ H fun x H1=>∃ a,x=.ref a∧IsD H1 a∧ty σ H1 fun y H2=>∃ kvs k v,H2 a=some (.dK kvs)∧y=kV k∧GF kvs k=some v∧Q v (upd H2 a (.dK (Ab4 kvs k)))
def Aip (td ty tx:TE):TE:=fun σ H Q=>td σ H fun x H1=>∃ a,x=.ref a∧IsD H1 a∧ty σ H1 fun y H2=>tx σ H2 fun z H3=>∃ kvs k,H3 a=some (.dK kvs)∧y=kV k ∧
 (∀ v,GF kvs k=some v→Q v (upd H3 a (.dK (Ab4 kvs k))))∧(GF kvs k=none→Q z H3)
section
variable {X:Cx}{o e f:Expr}{apos cpos:Pos}{td ty tx:TE}
theorem WW(hu:X.A.units+1<cLine)(ho:PE X o td)(he:PE X e ty)(m:M1 X o "get" apos e cpos):PE X (.Call (.Attribute o "get" apos) [e] [] cpos) (Afo td ty):=by
 intro pins s σ H Q I h
 refine wpAny_Call_method m.base m.few m.line PySem.F.plainAttrs_dict PySem.F.slot_dict_get PySem.F.type_dict_get (thn (ho pins s σ H _ I h) fun u s1 ⟨x,H1,I1,rx,a,ex,d,q1⟩=>?_)
 subst ex
 obtain rfl:u=Value.ref a:=rx
 obtain⟨t1,t2,_⟩:=Ab7 I1 d
 refine⟨t1,t2,?_⟩
 rw[m.trees]
 refine Calls.callWith_builtin rfl (Calls.evalArgs_plain (Calls.spliced_cons (thn (he pins s1 σ H1 _ I1 q1) fun iv s2 ⟨y,H2,I2,ry,ov,g,q2⟩=>Calls.spliced_nil ?_)))
 exact Afn hu I2 g ry fun w' s3 I3 rw'=>⟨_,H2,I3,rw',q2⟩
end
section
variable {X:Cx}{pins:List (Addr × Obj)}{σ:St}{H:Hp}{s:Shared}{a:Addr}{kvs:List (Key × V)}{A:Around}{E:Value→Shared→Prop}
end
section
variable {X:Cx}{pins:List (Addr × Obj)}{σ:St}{H:Hp}{s:Shared}{a:Addr}{y:V}{u:Value}{A:Around}{E:Value→Shared→Prop}
end
open PySem PySem.Spec PyProof.Rows
section
variable {X:Cx}
theorem Aat:HY X (.builtin "len") (fun xs H Q=>∃ a kvs,xs=[V.ref a]∧H a=some (.dK kvs)∧Q (.int kvs.length) H):=by
 intro pins s σ H xs us Q I r h
 obtain⟨a,kvs,rfl,ha,q⟩:=h
 obtain⟨u,rfl,ru⟩:=vals1 r
 cases ru
 exact Ag9 I (.inl ha) fun t s' I'=>⟨.int kvs.length,H,I',⟨t,rfl⟩,q⟩
end
section
variable {κ:Type} [DecidableEq κ]
end
open PySem PySem.Spec PySem.Calls PyProof.Rows PyProof.Rows.KTD
def Top (K:PySem.W.Frag)(a:Addr)(D:List (Str × Str)):Prop:=∀ h:Heap,K.In h→TextTab h a (D.map fun p=>(p.1,Dat.flat (.str p.2)))
theorem Aiq{K:PySem.W.Frag}{a:Addr}{D:List (Str × Str)}(hl:tabLook (datLooks fun b=>K.lookup b) (fun b=>K.lookup b) a (D.map fun p=>(p.1,Dat.flat (.str p.2)))=true):Top K a D:=fun h X=>text_of_look (fun b o e=>X b o e) hl
def lk (D:List (Str × Str))(k:Str):Option Str:=(D.find? fun p=>decide (p.1=k)).map (·.2)
def Agg (a:Addr)(D:List (Str × Str))(ty td:TE):TE:=fun σ H Q=>ty σ H fun y H1=>td σ H1 fun x H2=>∃ k,y=.str k∧x=.ref a∧Q (.bl (!(lk D k).isSome)) H2
def Ah7 (a:Addr)(D:List (Str × Str))(td ty:TE):TE:=fun σ H Q=>td σ H fun x H1=>ty σ H1 fun y H2=>∃ k v,y=.str k∧x=.ref a∧lk D k=some v∧Q (.str v) H2
section
variable {X:Cx}{o i:Expr}{pos:Pos}{td ty:TE}{a:Addr}{D:List (Str × Str)}
end
open PySem PySem.Spec PyProof.Rows
def AiZ (K:PySem.W.Frag)(no:Bool):R2:=fun x y H Q=>∃(z:Str) (q:Addr) (ys:List Str),x=.str z∧y=.ref q∧SqT K H q (ys.map V.str)∧Q (.bl (no != ys.any (· == z))) H
section
variable {X:Cx}{K:PySem.W.Frag}
end
def Air (K:PySem.W.Frag)(a:Addr)(ys:List Str):Prop:=∀ H:Hp,SqT K H a (ys.map V.str)
theorem Ah8{K:PySem.W.Frag}{a:Addr}{o:Obj}{its:Array Value}{n:Nat}{ys:List Str}(e:K.lookup a=some o)(c:o.cls=.type "tuple") (d:o.data=.seq its n) (z:its.size≤sizeLine) (r:Vals (ys.map V.str) its.toList):Air K a ys:=fun _=>.inr ⟨o,its,n,e,c,d,z,r⟩
open PySem PySem.Spec PyProof.Rows
structure Isa (K:PySem.W.Frag) (C:Addr):Prop where
 ha:PySem.W.findIn K (.ref C) "__class__" = some (some (.builtin "object.__class__"))
 hn:PySem.W.specialIn K (.builtin "object.__class__") "__get__" = some (some (.builtin "getset_descriptor.__get__"))
 htk:PySem.W.takesIn K (.builtin "object.__class__")=some true
 hm:PySem.W.mroIn K C (.type "object")=some true
open PySem PySem.Spec PyProof.Rows
structure DfH (K:PySem.W.Frag) (x:Str) (st:Stmt) (f:Addr) (fd:FuncData):Prop where
 a:PySem.W.nsIn K mainGlobals x=some (some (.ref f))
 F:Fun K x x st f fd
structure MfH (K:PySem.W.Frag) (x q:Str) (st:Stmt) (C f:Addr) (fd:FuncData):Prop where
 m:PySem.W.findIn K (.ref C) x=some (some (.ref f))
 g:PySem.W.isFn K (.ref f)=true
 F:Fun K x q st f fd
structure ClH (K:PySem.W.Frag) (x:Str) (C:Addr):Prop where
 n:PySem.W.nsIn K mainGlobals x=some (some (.ref C))
 o1:PySem.W.plainGet K C Str.empty=true
 o2:PySem.W.hasDictIn K C=true
 o3:PySem.W.plainOver K C=true
 o4:PySem.W.findIn K (.ref C) "__setattr__" = some (some (.builtin "object.__setattr__"))
 o5:PySem.W.makesIn K C=true
 o8:PySem.W.keepIn K (.ref C)=true
structure IsH (K:PySem.W.Frag) (C B:Addr):Prop where
 v1:PySem.W.findIn K (.ref C) "__class__" = some (some (.builtin "object.__class__"))
 v4:PySem.W.mroIn K C (.type "object")=some true
structure ExH (K:PySem.W.Frag) (x:Str) (C:Addr):Prop where
 n:PySem.W.nsIn K mainGlobals x=some (some (.ref C))
 y2:PySem.W.findIn K (.ref C) "__getattribute__" = some (some (.builtin "BaseException.__getattribute__"))
 y3:PySem.W.findIn K (.ref C) "__getattr__" = some none
 y4:PySem.W.findIn K (.ref C) "__class__" = some (some (.builtin "object.__class__"))
 y7:PySem.W.mroIn K C (.type "object")=some true
 y8:PySem.W.mroIn K C (.type "BaseException")=some true
 y9:PySem.W.isClsIn K C=true
 y10:PySem.W.typeIn K (.ref C)=some (.type "type")
 y11:PySem.W.mroIn K C (.type "ValueError")=some true
section
variable {K:PySem.W.Frag}{mg:Str→Option Value}{h:Heap}
theorem DfH.df{x:Str}{st:Stmt}{f:Addr}{fd:FuncData}{ps:List Str}(D:DfH K x st f fd)(X:K.In h)(G:h.Ns mainGlobals mg)
  (hb:∀ kV dc pm an cd ct us,us.length=ps.length→bindArgs (PySem.W.fnOf x x (JR st) (HF st) (Ai st) .none kV dc pm an cd ct) ⟨us,[]⟩=pure (ps.zip us)):Df K mg x st ps f fd:=⟨D.F,PySem.W.mg_of X G D.a,D.F.binds hb⟩
theorem MfH.meth{x q:Str}{st:Stmt}{C f:Addr}{fd:FuncData}(D:MfH K x q st C f fd):Meth K C x f:=⟨D.m,D.g,D.F.2⟩
theorem MfH.mf{x q:Str}{st:Stmt}{C f:Addr}{fd:FuncData}{ps:List Str}(D:MfH K x q st C f fd)
  (hb:∀ kV dc pm an cd ct us,us.length=ps.length→bindArgs (PySem.W.fnOf x q (JR st) (HF st) (Ai st) .none kV dc pm an cd ct) ⟨us,[]⟩=pure (ps.zip us)):Mf K x q st ps C f fd:=⟨D.F,D.meth,D.F.binds hb⟩
structure DfA (K:PySem.W.Frag) (mg:Str→Option Value) (x y:Str) (st:Stmt) (ps:List Str) (f:Addr) (fd:FuncData):Prop where
 F:Fun K y y st f fd
 m:mg x=some (.ref f)
 b:Binds K fd ps []
theorem DfA.of{x y:Str}{st:Stmt}{f:Addr}{fd:FuncData}{ps:List Str}(a:PySem.W.nsIn K mainGlobals x=some (some (.ref f)))(F:Fun K y y st f fd)(X:K.In h)(G:h.Ns mainGlobals mg)
  (hb:∀ kV dc pm an cd ct us,us.length=ps.length→bindArgs (PySem.W.fnOf y y (JR st) (HF st) (Ai st) .none kV dc pm an cd ct) ⟨us,[]⟩=pure (ps.zip us)):DfA K mg x y st ps f fd:=⟨F,PySem.W.mg_of X G a,F.binds hb⟩
theorem sc9{N P:List Str}{sc:Scope}(h:sc.kind=.function∧sc.isCoroutine=false∧sc.isGenerator=false∧N.take P.length=P:=by exact⟨rfl,rfl,rfl,rfl⟩)
  (g:N.Nodup∧(∀ x∈P,sc.names.lookup x=some .local∨sc.names.lookup x=some .cell)∧∀ y∈sc.names,y.2≠.free:=by decide +kernel):Bj N P sc:=⟨h.1,h.2.1,h.2.2.1,g.1,h.2.2.2,g.2.1,g.2.2⟩
end
open PySem PySem.Spec PyProof.Rows
section
variable {X:Cx}{tg:Expr}
def Ais (ta:TA):TI:=fun σ H R=>ta σ H fun vs H1=>∃ i j:Int,vs=[.int i,.int j]∧R (Itr i (j-i).toNat) H1
end
section
variable {X:Cx}
theorem WY(l:List Nat):∀(k:Nat) (acc:List Nat),List.foldl (fun x1 x2=>x1++x2) acc.toArray (List.replicate k l.toArray)=(acc++(List.replicate k l).flatten).toArray
 | 0,acc=>by simp
 | k+1,acc=>by
  have e:acc.toArray++l.toArray=(acc++l).toArray:=by simp
  have e2:(acc++l)++(List.replicate k l).flatten=acc++(List.replicate (k+1) l).flatten:=by
   rw[AkS,AkT,AkK]
  rw[← e2,← WY l k (acc++l),← e,AkS,List.foldl_cons]
def AgE:R2:=fun x y H Q=>∃ u n,x=.str (tx u)∧y=.int n∧0≤n∧n≤1000000∧u.length*n.toNat≤sizeLine∧Q (.str (tx (List.replicate n.toNat u).flatten)) H
theorem Adl:OpR X (binaryOp .Mult) AgE:=by
 intro pins s σ H x y v z Q I rx ry h
 obtain⟨u,n,rfl,rfl,h0,h1,h2,q⟩:=h
 obtain⟨t,rfl⟩:=rx
 obtain⟨t',rfl⟩:=ry
 have hsz:sizeLine=16777216:=sizeLine_eq
 have hlen:(tx u).length=u.length:=Ax u
 refine P.mul_str ?_ (fun c1 c2=>?_) (fun c1 c2=>?_) ?_
 ·rw[decide_eq_false (by omega),decide_eq_false (by omega)]
  rfl
 ·rw[hlen]
  have hn:0<n:=by omega
  have hm:(u.length:Int)*n≤16777216:=by
   have e:n=(n.toNat:Int):=by omega
   rw[e,← Int.natCast_mul]
   omega
  have:(u.length:Int)≤(2 ^ 63-1) / n:=(Int.le_ediv_iff_mul_le hn).mpr (by omega)
  omega
 ·rw[hlen]
  exact decide_eq_false (by omega)
 ·split
  ·next c =>
   have e:n=0:=by omega
   rw[e] at q
   exact⟨by decide,.str (tx []),H,I.tok _,⟨_,rfl⟩,q⟩
  ·split
   ·next c =>
    have e:tx (List.replicate n.toNat u).flatten=tx u:=by
     simp only [Bool.or_eq_true,beq_iff_eq] at c
     rcases c with c | c
     ·rw[c];simp
     ·rw[hlen] at c
      rw[Alr c]
      simp
    rw[e] at q
    exact⟨.str (tx u),H,I,⟨_,rfl⟩,q⟩
   ·have hf:(⟨(List.replicate n.toNat (tx u).cps).foldl (·++·) #[]⟩:Str)=tx (List.replicate n.toNat u).flatten:=by
     have:=WY u n.toNat []
     simp only [List.nil_append] at this
     exact congrArg Str.mk this
    rw[hf]
    refine⟨?_,.str (tx (List.replicate n.toNat u).flatten),H,I.tok _,⟨_,rfl⟩,q⟩
    rw[Ax,len_rep,Nat.mul_comm]
    exact h2
def Ait:V→List V→Hp→VK→Prop:=fun x vs H Q=>∃ u c,x=.str (tx u)∧vs=[.str ⟨#[c]⟩]∧Q (.int (u.count c:Nat)) H
end
open PySem PySem.Spec PyProof.Rows
theorem Aau{Ds:List Addr}:∀{us:List Value},Vals (Ds.map V.ref) us→us=Ds.map Value.ref:=by
 induction Ds with
 | nil=>intro us r;rw[Akv] at r;cases r;rfl
 | cons n ns ih =>
  intro us r
  rw[AjX] at r
  cases r with
  | cons r1 r2 =>
   cases r1
   rw[ih r2]
   rfl
section
variable {X:Cx}{K:PySem.W.Frag}
def AgF (K:PySem.W.Frag):List V→Hp→VK→Prop:=fun vs H Q=>∃(a C p:Addr) (Ds:List Addr) (b:Bool),vs=[.ref a,.ref p]∧H a=some (exH C a)∧ExC K C∧H p=some (.tup (Ds.map V.ref))∧PySem.W.kitAny K (.ref C) (Ds.map Value.ref)=some b∧Q (.bl b) H
theorem HW(hK:X.K=K:=by rfl):HY X (.builtin "isinstance") (AgF K):=by
 subst hK
 intro pins s σ H xs us Q I rv h
 obtain⟨a,C,p,Ds,b,rfl,ea,c,ep,e,q⟩:=h
 obtain⟨u1,u2,rfl,r1,r2⟩:=rv.two
 cases r1
 cases r2
 obtain⟨_,its,vs,ht⟩:=(show Et X.prog X.w H s.heap p (.tup (Ds.map V.ref)) from I.hok p _ ep)
 rw[Aau vs] at ht
 obtain⟨⟨cls,dd,data,sl⟩,h1,h2,n,h3⟩:=ht
 cases h2
 cases h3
 exact PySem.W.kia_tup (RK c) I.kIn (Zw I ea) h1 e (fun z=>nomatch z) fun tk=>⟨.bl b,H,I.tok _,rfl,q⟩
end
open PySem PySem.Spec PyProof.Rows
section
variable {X:Cx}{K:PySem.W.Frag}
def AjB (K:PySem.W.Frag):R2:=fun x y H Q=>∃ p q xs ys,x=.ref p∧y=.ref q∧SqL K H p xs∧SqL K H q ys∧xs.all Gb=true∧ys.all Gb=true∧Q (.bl (!eqL xs ys)) H
end
open PySem PySem.Spec PyProof.Rows
def AgG (K:PySem.W.Frag)(H:Hp)(p q:Addr):Prop:=∃ as bs:List Addr,SqL K H p (as.map V.ref)∧SqL K H q (bs.map V.ref)∧as.length=bs.length ∧
 ∀(i:Nat) (a b:Addr),as[i]?=some a→bs[i]?=some b→∃ xs:List V,xs.all Gb=true∧SqL K H a xs∧SqL K H b xs
section
variable {X:Cx}{K:PySem.W.Frag}
def Aja (K:PySem.W.Frag):R2:=fun x y H Q=>∃ p q,x=.ref p∧y=.ref q∧AgG K H p q∧Q (.bl false) H
def Ajb (K:PySem.W.Frag):R2:=fun x y H Q=>∃ p q,x=.ref p∧y=.ref q∧AgG K H p q∧Q (.bl true) H
end
open PySem PySem.Spec PyProof.Rows
section
variable {X:Cx}{K:PySem.W.Frag}
def Aiu (K:PySem.W.Frag)(tl:TE):TE:=fun σ H Q=>tl σ H fun x H1=>∃ a ns,x=.ref a∧SqL K H1 a (vI ns)∧ns.length<64∧∀ l ns',ns'.Perm ns→ns'.Pairwise (· ≥ ·)→H1 l=none→Q (.ref l) (upd H1 l (.lst (vI ns')))
end
open PySem PySem.Spec PyProof.Rows
section
variable {prog:Program}{w:World}{A:Around}{E:Value→Shared→Prop}{s:Shared}{l:Addr}{xs:Array (Int × Tok)}
theorem V9{Q:Value→Shared→Prop}(hh:A.handled=none)(hl:s.heap.IsTuple l (intItems xs))(hne:0<xs.size)
  (h:∀ v h' tk,(intItems xs)[argBest (fun i j=>decide (numAt xs i<numAt xs j)) (xs.size-1)]?=some v→(∀ b o,s.heap.get? b=some o→h'.get? b=some o)→Q v { s with heap:=h',toks:=tk }) :
  wpAny (model prog w) A (call (.builtin "min") [.ref l]) Q E s:=by
 have hlt:l<s.heap.objs.size:=by obtain⟨_,e,_⟩:=hl;exact Heap.lt_size e
 refine call_min_walk (wpAny_pyIter_tuple hl ?_)
 refine⟨_,[_,l],[_],_,_,_,_,rfl,Walks.tuple (A:=A.in1) hh _ l (AjS hlt) (intItems xs),⟨⟨_,Heap.get?_push_size _ rfl,rfl,rfl⟩,hl.push _⟩,fun c hc=>?_,by simpa [intItems] using hne,CmpOf.ints_lt (numAt xs) (fun _ _=>intItems_at),fun v h' tk hP hk=>?_⟩
 ·show c<(s.heap.push _).objs.size
  rw[Heap.size_push]
  rcases List.mem_cons.mp hc with rfl | hc
  ·exact Akx _
  ·rcases List.mem_cons.mp hc with rfl | hc
   ·exact Aku hlt
   ·cases hc
 ·refine h v h' tk (by simpa [intItems] using hP) fun c o e=>?_
  refine hk c o (fun hm=>?_) (Heap.get?_push_of_some _ e)
  rcases List.mem_cons.mp hm with e1 | hm
  ·have:=Heap.lt_size e;rw[e1] at this;exact Akn _ this
  ·cases hm
end
section
variable {X:Cx}{K:PySem.W.Frag}
theorem U3(hK:X.K=K:=by rfl)(hc:X.calm=true:=by rfl):HY X (.builtin "min") (fun xs H Q=>∃ a ns,xs=[.ref a]∧SqT K H a (vI ns)∧0<ns.length∧∀ M:Int,M∈ns→(∀ z∈ns,M≤z)→Q (.int M) H):=by
 subst hK
 intro pins s σ H xs us Q I rv h
 obtain⟨a,ns,rfl,hq,h0,q⟩:=h
 obtain⟨u,rfl,ru⟩:=rv.one
 cases ru
 obtain⟨its,r,pl,hl⟩:=I.tuple hq
 have hi:IntsAre its ns:=intsAre_of r
 obtain⟨xs,hx⟩:=hi.allInts.items
 have hns:ns=xs.toList.map (·.1):=by rw[← hi.numsOf,← nums_intItems,← hx]
 have hsz:0<xs.size:=by rw[hns,AjP,Array.length_toList] at h0;exact h0
 have hL:s.heap.IsTuple a (intItems xs):=by rw[← hx];obtain⟨o,e1,e2,n,e3⟩:=pl;exact⟨o,e1,e2,n,e3⟩
 refine V9 (I.ok.hd hc) hL hsz fun v h' tk hv hk=>?_
 obtain⟨t,rfl⟩:=intItems_at hv
 obtain⟨h1,h2⟩:=argBest_lt (numAt xs) (xs.size-1)
 refine⟨.int _,H,I.kept hk,⟨t,rfl⟩,q _ ?_ fun z hz=>?_⟩
 ·rw[hns,numAt_eq];exact getD_mem (by rw[AjP,Array.length_toList];omega)
 ·rw[hns] at hz
  obtain⟨j,hj,rfl⟩:=mem_getD hz
  rw[AjP,Array.length_toList] at hj
  rw[← numAt_eq];exact h2 j (by omega)
end
theorem Hy{P:Program}{w:World}{K:PySem.W.Frag}{mg:Str→Option Value}{base:Heap}{k:Nat}{f:Addr}{fd:FuncData}{ps:List Str}{sp:Sp}(F:BK P w K mg base CX0 k f fd ps sp):BK P w K mg base (CX1 P w) k f fd ps sp :=
 ⟨F.len,fun A outer s H args us vs Q E hr he hb hv h=>codeAny_mono (F.run A outer s H args us vs Q E hr he hb hv h) fun r s' c=>by
  match r,c with
  | .ok (.ret u),c=>exact c
  | .error e,c=>exact c.elim⟩
theorem IV{P:Program}{w:World}{K:PySem.W.Frag}{mg:Str→Option Value}{base:Heap}{CX:CXT}{k:Nat}{f:Addr}{fd:FuncData}{ps:List Str}{s1 s2:Sp}(F:BK P w K mg base CX k f fd ps s1)(G:BK P w K mg base CX k f fd ps s2):BK P w K mg base CX k f fd ps (fun vs H Q E=>s1 vs H Q E∨s2 vs H Q E) :=
 ⟨fun vs H Q E h=>h.elim (F.len vs H Q E) (G.len vs H Q E),fun A outer s H args us vs Q E hr he hb hv h=>h.elim (F.run A outer s H args us vs Q E hr he hb hv) (G.run A outer s H args us vs Q E hr he hb hv)⟩
open PySem PySem.Spec PyProof.Rows
theorem Inv.Zz{X:Cx}{pins:List (Addr × Obj)}{σ:St}{H:Hp}{s:Shared}{h':Heap}{t':Nat}{its:List Addr}(I:Inv X pins σ H s)
  (k:∀ b o,b∉its→s.heap.get? b=some o→h'.get? b=some o) (hf:∀ b∈its,JP X pins H b):Inv X pins σ H { s with heap:=h',toks:=t' }:=by
 have nit:∀ b u,H b=some u→b∉its:=fun b u e z=>by
  have:=(hf b z).1
  rw[this] at e
  cases e
 have nL:X.env.locals∉its:=fun z=>(hf _ z).2.1 rfl
 refine I.step (g':=s.gens) (d':=s.drawn) (ch:=its) (fun b hb=>?_) (fun b o _ _ hc e _=>k b o hc e) (fun b o _ _ hc e _=>⟨o.slots,k b o hc e⟩) (fun _ _ _ _ n=>n)
  (fun b o hc e=>⟨o,k b o hc e⟩) (fun _ _ e=>e) (fun _ _ _ e=>e) (fun b ps e=>⟨#[],by rw[e];simp⟩) (fun m hm=>?_) (fun b u e=>?_) I.bare
 ·obtain⟨_,h2,_,h4,h5,h6⟩:=hf b hb
  exact⟨h4,h2,h5,h6⟩
 ·obtain⟨o,es,ep,ho,r⟩:=hm
  exact⟨o,es,ep,k _ o nL ho,r⟩
 ·refine(I.hok b u e).stay (fun c v hc q=>k c v ?_ q) (fun _ q=>q) fun _ _ q=>q
  rcases hc with z | z
  ·rw[z];exact nit b u e
  ·exact nit c _ z
def Itz (K:PySem.W.Frag)(a b:Addr):It where
 go:=fun i H=>∃ xs ys x y,SqL K H a xs∧SqL K H b ys∧xs[i]?=some x∧ys[i]?=some y
 yld:=fun i H x H'=>∃ T,x=.ref T∧H T=none∧∀ xs ys u v,SqL K H a xs→SqL K H b ys→xs[i]?=some u→ys[i]?=some v→H'=upd H T (.tup [u,v])
 stop:=fun i H=>∃ xs ys,SqL K H a xs∧SqL K H b ys∧(xs.length≤i∨ys.length≤i)
def Ajc (z TI TO i1 i2 a b:Addr)(i:Nat)(h:Heap):Prop:=IsZip h z TI TO .none∧IsPair h TI (.ref i1) (.ref i2)∧(∃ p q,IsPair h TO p q)∧h.IsListIter i1 a i∧h.IsListIter i2 b i
section
variable {X:Cx}{es:List Expr}{kx:Nat}{tp:Pos}
def AjC (K:PySem.W.Frag)(ta:TA):TI:=fun σ H R=>ta σ H fun vs H1=>∃ a b,vs=[.ref a,.ref b]∧(∃ xs,SqL K H1 a xs)∧(∃ ys,SqL K H1 b ys)∧R (Itz K a b) H1
end
open PySem PySem.Spec PyProof.Rows
def AjD (K:PySem.W.Frag):R2:=fun x y H Q=>∃(p q:Addr) (as:List Addr) (ks:List Int),x=.ref p∧y=.ref q∧SqL K H q (as.map V.ref)∧SqT K H p (vI ks) ∧
 (∀ a∈as,∃ js:List Int,SqT K H a (vI js))∧(∃ a∈as,SqT K H a (vI ks))∧Q (.bl true) H
section
variable {X:Cx}{K:PySem.W.Frag}
end
open PySem PySem.Spec PyProof.Rows
section
variable {prog:Program}{w:World}{A:Around}{E:Value→Shared→Prop}{s:Shared}
theorem Xa(hh:A.handled=none)(it:Addr)(x:Str)(t:Tok):Draws prog w A it [it] x.cps.size (fun i v=>∃ c u,x.cps[i]?=some c∧v=.str ⟨#[c]⟩ u) (fun i h=>h.IsStrIter it (strIterType x) x t i):=by
 unfold strIterType
 split
 ·exact Draws.strAscii hh it x t
 ·exact Draws.strWide hh it x t
structure Ql (z TI TO i1 i2:Addr):Prop where
 TIz:TI≠z
 TOz:TO≠z
 i1z:i1≠z
 i2z:i2≠z
 TITO:TI≠TO
 TIi1:TI≠i1
 TIi2:TI≠i2
 TOi1:TO≠i1
 TOi2:TO≠i2
 i12:i1≠i2
theorem Aav{z TI TO i1 i2:Addr}{fp1 fp2:List Addr}{n1 n2 k:Nat}{P1 P2:Nat→Value→Prop}{S1 S2:Nat→Heap→Prop}{a b:Value}{Q:Value→Shared→Prop}(D:Ql z TI TO i1 i2)
  (D1:∀ A':Around,A'.handled=none→Draws prog w A' i1 fp1 n1 P1 S1) (D2:∀ A':Around,A'.handled=none→Draws prog w A' i2 fp2 n2 P2 S2) (hh:A.handled=none)
  (f1:∀ c∈fp1,c≠z∧c≠TO∧c≠i2) (f2:∀ c∈fp2,c≠z∧c≠TO∧c≠i1)
  (hz:IsZip s.heap z TI TO .none) (hTI:IsPair s.heap TI (.ref i1) (.ref i2)) (hTO:IsPair s.heap TO a b) (h1:S1 k s.heap) (h2:S2 k s.heap) (lt1:k<n1) (lt2:k<n2)
  (hQ:∀ x y h' tk,P1 k x→P2 k y→IsZip h' z TI TO (rawInt s.heap.objs.size)→IsPair h' TO x y→S1 (k+1) h'→S2 (k+1) h'→IsPair h' s.heap.objs.size x y→h'.objs.size=s.heap.objs.size+1 →
   (∀ c o,c≠z→c≠TO→c≠i1→c≠i2→s.heap.get? c=some o→h'.get? c=some o)→Q (.ref s.heap.objs.size) { s with heap:=h',toks:=tk }) :
  wpAny (model prog w) A (Builtin.«zip.__next__» ⟨[.ref z],[]⟩) (fun fin s'=>∃ v,fin=.done (.ret v)∧Q v s') E s:=by
 show wpAny _ _ (field (.ref z) 2 >>= _) _ _ _
 refine wpAny_bind (wpAny_field hz rfl (x:=.bool false) rfl ?_)
 show wpAny _ _ (field (.ref z) 3 >>= _) _ _ _
 refine wpAny_bind (wpAny_field hz rfl (x:=.ref TI) rfl ?_)
 refine wpAny_bind (wpAny_seqItems hTI rfl ?_)
 show wpAny _ _ (Builtin.SmallTypes.ownedTupleIsFree (.ref z) >>= _) _ _ _
 refine wpAny_bind ?_
 unfold Builtin.SmallTypes.ownedTupleIsFree
 refine wpAny_bind (wpAny_field hz rfl (x:=.none) rfl (wpAny_pure ?_))
 simp only [if_true]
 refine wpAny_bind (wpAny_rule ?_)
 refine wpAny_bind (wpAny_field hz rfl (x:=.ref TO) rfl ?_)
 refine wpAny_bind (wpAny_setField_rec hz (by simp) fun h₁ hz₁ hs₁=>?_)
 replace hz₁:IsZip h₁ z TI TO .ellipsis:=hz₁
 refine wpAny_bind ?_
 simp only [List.zipIdx_cons,List.zipIdx_nil,AkU,List.forIn_nil]
 refine wpAny_bind (wpAny_bind (wpAny_onRaise ?_))
 show wpAny _ _ (Builtin.SmallTypes.nextOf (.ref i1) >>= _) _ _ _
 refine wpAny_bind ((D1 _ hh).item k _ _ _ lt1 ((D1 A hh).frame _ _ _ h1 fun c hc o e=>hs₁.extBut _ _ (f1 c hc).1 e) fun x h₂ tk₂ px h1₂ hs₂=>wpAny_pure ?_)
 have hs₂:Heap.SameBut i1 h₁ h₂:=hs₂
 have hTO₂:IsPair h₂ TO a b:=hs₂.extBut _ _ D.TOi1 (hs₁.extBut _ _ D.TOz hTO)
 refine wpAny_bind (wpAny_seqItems hTO₂ rfl ?_)
 refine wpAny_bind (wpAny_updateSeq_pair hTO₂ fun h₃ hTO₃ hs₃=>?_)
 have hs₃:Heap.SameBut TO h₂ h₃:=hs₃
 replace hTO₃:IsPair h₃ TO x b:=hTO₃
 refine wpAny_bind (wpAny_letGo (wpAny_pure ?_))
 refine wpAny_bind (wpAny_bind (wpAny_onRaise ?_))
 show wpAny _ _ (Builtin.SmallTypes.nextOf (.ref i2) >>= _) _ _ _
 refine wpAny_bind ((D2 _ hh).item k _ _ _ lt2 ((D2 A hh).frame _ _ _ h2 fun c hc o e=>hs₃.extBut _ _ (f2 c hc).2.1 (hs₂.extBut _ _ (f2 c hc).2.2 (hs₁.extBut _ _ (f2 c hc).1 e))) fun y h₄ tk₄ py h2₄ hs₄=>wpAny_pure ?_)
 have hs₄:Heap.SameBut i2 h₃ h₄:=hs₄
 have hTO₄:IsPair h₄ TO x b:=hs₄.extBut _ _ D.TOi2 hTO₃
 refine wpAny_bind (wpAny_seqItems hTO₄ rfl ?_)
 refine wpAny_bind (wpAny_updateSeq_pair hTO₄ fun h₅ hTO₅ hs₅=>?_)
 have hs₅:Heap.SameBut TO h₄ h₅:=hs₅
 replace hTO₅:IsPair h₅ TO x y:=hTO₅
 refine wpAny_bind (wpAny_letGo (wpAny_pure (wpAny_pure ?_)))
 refine wpAny_bind (wpAny_seqItems hTO₅ rfl ?_)
 refine wpAny_bind (wpAny_newTuple ?_)
 have hsz:h₅.objs.size=s.heap.objs.size:=by rw[hs₅.1,hs₄.1,hs₃.1,hs₂.1,hs₁.1]
 have hz₅:IsZip h₅ z TI TO .ellipsis:=hs₅.extBut _ _ D.TOz.symm (hs₄.extBut _ _ D.i2z.symm (hs₃.extBut _ _ D.TOz.symm (hs₂.extBut _ _ D.i1z.symm hz₁)))
 have hk₅:∀ c o,c≠z→c≠TO→c≠i1→c≠i2→s.heap.get? c=some o→h₅.get? c=some o:=fun c o c1 c2 c3 c4 e =>
  hs₅.extBut _ _ c2 (hs₄.extBut _ _ c4 (hs₃.extBut _ _ c2 (hs₂.extBut _ _ c3 (hs₁.extBut _ _ c1 e))))
 have h1₅:S1 (k+1) h₅:=(D1 A hh).frame _ _ _ h1₂ fun c hc o e=>hs₅.extBut _ _ (f1 c hc).2.1 (hs₄.extBut _ _ (f1 c hc).2.2 (hs₃.extBut _ _ (f1 c hc).2.1 e))
 have h2₅:S2 (k+1) h₅:=(D2 A hh).frame _ _ _ h2₄ fun c hc o e=>hs₅.extBut _ _ (f2 c hc).2.1 e
 have hzlt:z<h₅.objs.size:=Heap.lt_size hz₅
 show wpAny _ _ (Builtin.SmallTypes.ownedTupleHandOut (.ref z) (.ref h₅.objs.size) >>= _) _ _ _
 refine wpAny_bind ?_
 unfold Builtin.SmallTypes.ownedTupleHandOut
 have hz₆:IsZip (h₅.push { cls:=.type "tuple", data:=.seq #[x,y] }) z TI TO .ellipsis:=Heap.get?_push_of_some _ hz₅
 refine wpAny_bind (wpAny_setField_rec hz₆ (by simp) fun h₇ hz₇ hs₇=>?_)
 replace hz₇:IsZip h₇ z TI TO (rawInt h₅.objs.size):=hz₇
 refine wpAny_setField_rec hz₇ (by simp) fun h₈ hz₈ hs₈=>?_
 replace hz₈:IsZip h₈ z TI TO (rawInt h₅.objs.size):=hz₈
 have up:∀ c o,c≠z→h₅.get? c=some o→h₈.get? c=some o:=fun c o c1 e=>hs₈.extBut _ _ c1 (hs₇.extBut _ _ c1 (Heap.get?_push_of_some _ e))
 have hT₈:IsPair h₈ h₅.objs.size x y:=hs₈.extBut _ _ (Akq hzlt) (hs₇.extBut _ _ (Akq hzlt) (Heap.get?_push_size _ rfl))
 have hz8:h₈.objs.size=h₅.objs.size+1:=by rw[hs₈.1,hs₇.1,Heap.size_push]
 rw[hsz] at hz₈ hT₈ hz8
 refine wpAny_pure ⟨_,rfl,?_⟩
 show Q (.ref h₅.objs.size) _
 rw[hsz]
 exact hQ x y h₈ tk₄ px py hz₈ (up _ _ D.TOz hTO₅) ((D1 A hh).frame _ _ _ h1₅ fun c hc o e=>up _ o (f1 c hc).1 e) ((D2 A hh).frame _ _ _ h2₅ fun c hc o e=>up _ o (f2 c hc).1 e) hT₈ hz8 fun c o c1 c2 c3 c4 e=>up c o c1 (hk₅ c o c1 c2 c3 c4 e)
theorem Ab8{z TI TO i1 i2:Addr}{fp1 fp2:List Addr}{n1 n2 k:Nat}{P1 P2:Nat→Value→Prop}{S1 S2:Nat→Heap→Prop}{a b:Value}{Q:Fin→Shared→Prop}(D:Ql z TI TO i1 i2)
  (D1:∀ A':Around,A'.handled=none→Draws prog w A' i1 fp1 n1 P1 S1) (D2:∀ A':Around,A'.handled=none→Draws prog w A' i2 fp2 n2 P2 S2) (hh:A.handled=none)
  (f1:∀ c∈fp1,c≠z∧c≠TO∧c≠i2) (f2:∀ c∈fp2,c≠z∧c≠TO∧c≠i1)
  (hz:IsZip s.heap z TI TO .none) (hTI:IsPair s.heap TI (.ref i1) (.ref i2)) (hTO:IsPair s.heap TO a b) (h1:S1 k s.heap) (h2:S2 k s.heap) (hend:k=n1∨(k<n1∧k=n2))
  (hE:∀ h' e tk,(∀ c o,c≠z→c≠TO→c≠i1→c≠i2→s.heap.get? c=some o→h'.get? c=some o)→(∃ o,h'.get? e=some o∧o.cls=.type "StopIteration")→E (.ref e) { s with heap:=h',toks:=tk }) :
  wpAny (model prog w) A (Builtin.«zip.__next__» ⟨[.ref z],[]⟩) Q E s:=by
 show wpAny _ _ (field (.ref z) 2 >>= _) _ _ _
 refine wpAny_bind (wpAny_field hz rfl (x:=.bool false) rfl ?_)
 show wpAny _ _ (field (.ref z) 3 >>= _) _ _ _
 refine wpAny_bind (wpAny_field hz rfl (x:=.ref TI) rfl ?_)
 refine wpAny_bind (wpAny_seqItems hTI rfl ?_)
 show wpAny _ _ (Builtin.SmallTypes.ownedTupleIsFree (.ref z) >>= _) _ _ _
 refine wpAny_bind ?_
 unfold Builtin.SmallTypes.ownedTupleIsFree
 refine wpAny_bind (wpAny_field hz rfl (x:=.none) rfl (wpAny_pure ?_))
 simp only [if_true]
 refine wpAny_bind (wpAny_rule ?_)
 refine wpAny_bind (wpAny_field hz rfl (x:=.ref TO) rfl ?_)
 refine wpAny_bind (wpAny_setField_rec hz (by simp) fun h₁ hz₁ hs₁=>?_)
 replace hz₁:IsZip h₁ z TI TO .ellipsis:=hz₁
 refine wpAny_bind ?_
 simp only [List.zipIdx_cons,List.zipIdx_nil,AkU,List.forIn_nil]
 refine wpAny_bind (wpAny_bind (wpAny_onRaise ?_))
 show wpAny _ _ (Builtin.SmallTypes.nextOf (.ref i1) >>= _) _ _ _
 have g1:S1 k h₁:=(D1 A hh).frame _ _ _ h1 fun c hc o e=>hs₁.extBut _ _ (f1 c hc).1 e
 rcases hend with hk | ⟨lt1,hk⟩
 ·subst hk
  refine wpAny_bind ((D1 _ hh).done _ _ _ g1 fun h₂ e hs₂ he=>?_)
  have hs₂:Heap.ExtBut i1 h₁ h₂:=hs₂
  obtain⟨oe,hoe,hce⟩:=he
  have hz₂:IsZip h₂ z TI TO .ellipsis:=hs₂ _ _ D.i1z.symm hz₁
  have hez:e≠z:=fun x=>by subst x;rw[hz₂] at hoe;cases hoe;simp at hce
  refine wpAny_setField_rec hz₂ (by simp) fun h₃ _ hs₃=>hE h₃ e _ (fun c o c1 _ c3 _ x=>hs₃.extBut _ _ c1 (hs₂ _ _ c3 (hs₁.extBut _ _ c1 x))) ⟨oe,hs₃.extBut _ _ hez hoe,hce⟩
 ·refine wpAny_bind ((D1 _ hh).item k _ _ _ lt1 g1 fun x h₂ tk₂ px h1₂ hs₂=>wpAny_pure ?_)
  have hs₂:Heap.SameBut i1 h₁ h₂:=hs₂
  have hTO₂:IsPair h₂ TO a b:=hs₂.extBut _ _ D.TOi1 (hs₁.extBut _ _ D.TOz hTO)
  refine wpAny_bind (wpAny_seqItems hTO₂ rfl ?_)
  refine wpAny_bind (wpAny_updateSeq_pair hTO₂ fun h₃ hTO₃ hs₃=>?_)
  have hs₃:Heap.SameBut TO h₂ h₃:=hs₃
  refine wpAny_bind (wpAny_letGo (wpAny_pure ?_))
  refine wpAny_bind (wpAny_bind (wpAny_onRaise ?_))
  show wpAny _ _ (Builtin.SmallTypes.nextOf (.ref i2) >>= _) _ _ _
  subst hk
  refine wpAny_bind ((D2 _ hh).done _ _ _ ((D2 A hh).frame _ _ _ h2 fun c hc o e=>hs₃.extBut _ _ (f2 c hc).2.1 (hs₂.extBut _ _ (f2 c hc).2.2 (hs₁.extBut _ _ (f2 c hc).1 e))) fun h₄ e hs₄ he=>?_)
  have hs₄:Heap.ExtBut i2 h₃ h₄:=hs₄
  obtain⟨oe,hoe,hce⟩:=he
  have hz₄:IsZip h₄ z TI TO .ellipsis:=hs₄ _ _ D.i2z.symm (hs₃.extBut _ _ D.TOz.symm (hs₂.extBut _ _ D.i1z.symm hz₁))
  have hez:e≠z:=fun x=>by subst x;rw[hz₄] at hoe;cases hoe;simp at hce
  refine wpAny_setField_rec hz₄ (by simp) fun h₅ _ hs₅=>hE h₅ e _ (fun c o c1 c2 c3 c4 x=>hs₅.extBut _ _ c1 (hs₄ _ _ c4 (hs₃.extBut _ _ c2 (hs₂.extBut _ _ c3 (hs₁.extBut _ _ c1 x))))) ⟨oe,hs₅.extBut _ _ hez hoe,hce⟩
theorem Y9{z TI TO i1 i2:Addr}{fp1 fp2:List Addr}{n1 n2 k:Nat}{P1 P2:Nat→Value→Prop}{S1 S2:Nat→Heap→Prop}{a b:Value}{Q:Option Value→Shared→Prop}(D:Ql z TI TO i1 i2)
  (D1:∀ A':Around,A'.handled=none→Draws prog w A' i1 fp1 n1 P1 S1) (D2:∀ A':Around,A'.handled=none→Draws prog w A' i2 fp2 n2 P2 S2) (hh:A.handled=none)
  (f1:∀ c∈fp1,c≠z∧c≠TO∧c≠i2) (f2:∀ c∈fp2,c≠z∧c≠TO∧c≠i1)
  (hz:IsZip s.heap z TI TO .none) (hTI:IsPair s.heap TI (.ref i1) (.ref i2)) (hTO:IsPair s.heap TO a b) (h1:S1 k s.heap) (h2:S2 k s.heap) (lt1:k<n1) (lt2:k<n2)
  (hQ:∀ x y h' tk,P1 k x→P2 k y→IsZip h' z TI TO (rawInt s.heap.objs.size)→IsPair h' TO x y→S1 (k+1) h'→S2 (k+1) h'→IsPair h' s.heap.objs.size x y→h'.objs.size=s.heap.objs.size+1 →
   (∀ c o,c≠z→c≠TO→c≠i1→c≠i2→s.heap.get? c=some o→h'.get? c=some o)→Q (some (.ref s.heap.objs.size)) { s with heap:=h',toks:=tk }) :
  wpAny (model prog w) A (pyNext (.ref z)) Q E s:=by
 have hT:s.TypeIs (.ref z) "zip" := ⟨_,hz,rfl⟩
 unfold pyNext
 exact wpAny_bind (wpAny_attempt (wpAny_callSpecial?_slot (name:=Str.ofString "__next__") hT F.slot_zip_next
  (wpAny_call_entry F.slot_zip_next hT F.entry_zip_next
   (Aav D D1 D2 hh f1 f2 hz hTI hTO h1 h2 lt1 lt2 fun x y h' tk a1 a2 a3 a4 a5 a6 a7 a8 a9=>wpAny_pure (hQ x y h' tk a1 a2 a3 a4 a5 a6 a7 a8 a9)) (F.args_zip_next_1 _))))
theorem Aaw{z TI TO i1 i2:Addr}{fp1 fp2:List Addr}{n1 n2 k:Nat}{P1 P2:Nat→Value→Prop}{S1 S2:Nat→Heap→Prop}{a b:Value}{Q:Option Value→Shared→Prop}(D:Ql z TI TO i1 i2)
  (D1:∀ A':Around,A'.handled=none→Draws prog w A' i1 fp1 n1 P1 S1) (D2:∀ A':Around,A'.handled=none→Draws prog w A' i2 fp2 n2 P2 S2) (hh:A.handled=none)
  (f1:∀ c∈fp1,c≠z∧c≠TO∧c≠i2) (f2:∀ c∈fp2,c≠z∧c≠TO∧c≠i1)
  (hz:IsZip s.heap z TI TO .none) (hTI:IsPair s.heap TI (.ref i1) (.ref i2)) (hTO:IsPair s.heap TO a b) (h1:S1 k s.heap) (h2:S2 k s.heap) (hend:k=n1∨(k<n1∧k=n2))
  (hQ:∀ h' tk,(∀ c o,c≠z→c≠TO→c≠i1→c≠i2→s.heap.get? c=some o→h'.get? c=some o)→Q none { s with heap:=h',toks:=tk }):wpAny (model prog w) A (pyNext (.ref z)) Q E s:=by
 have hT:s.TypeIs (.ref z) "zip" := ⟨_,hz,rfl⟩
 unfold pyNext
 refine wpAny_bind (wpAny_attempt (wpAny_callSpecial?_slot (name:=Str.ofString "__next__") hT F.slot_zip_next
  (wpAny_call_entry F.slot_zip_next hT F.entry_zip_next (Ab8 D D1 D2 hh f1 f2 hz hTI hTO h1 h2 hend fun h' e tk hk he=>?_) (F.args_zip_next_1 _))))
 obtain⟨o,ho,hc⟩:=he
 refine wpAny_bind (wpAny_isInstance (T := "StopIteration") (b:=true) ⟨o,ho,hc⟩ isSubtype_stop ?_)
 exact wpAny_pure (hQ _ _ hk)
abbrev M7 (x:Str) (t:Tok):Obj:={ cls:=.type (strIterType x),data:=.fields #[.str x t,.int 0 0] }
abbrev Z0 (l:Addr):Obj:={ cls:=.type "list_iterator", data:=.fields #[.ref l,.int 0 0] }
abbrev J1 (h:Heap) (o1 o2:Obj):Heap:=((((h.push o1).push o2).push { cls:=.type "tuple", data:=.seq #[.ref h.objs.size,.ref (h.push o1).objs.size] }).push { cls:=.type "tuple", data:=.seq #[.none,.none] }).push
 { cls:=.type "zip", data:=.fields #[.none,.bool false,.bool false,.ref ((h.push o1).push o2).objs.size,.ref (((h.push o1).push o2).push { cls:=.type "tuple", data:=.seq #[.ref h.objs.size,.ref (h.push o1).objs.size] }).objs.size] }
abbrev U4 (h:Heap) (o1 o2:Obj):Addr:=((((h.push o1).push o2).push { cls:=.type "tuple", data:=.seq #[.ref h.objs.size,.ref (h.push o1).objs.size] }).push { cls:=.type "tuple", data:=.seq #[.none,.none] }).objs.size
set_option maxHeartbeats 4000000 in
theorem Xb(l1:Addr)(xs:Array Value)(x:Str)(t:Tok) :
  Meets (Builtin.«zip.__new__» ⟨[.type "zip", .ref l1,.str x t],[]⟩) (fun _ R s=>s.heap.IsList l1 xs∧R (.ok (.ret (.ref (U4 s.heap (Z0 l1) (M7 x t))))) { s with heap:=J1 s.heap (Z0 l1) (M7 x t) }) :=
 .of_wp fun prog w A R s h=>by
  obtain⟨hp,g,d,tk,os⟩:=s;obtain⟨hl1,h⟩:=h
  have hsub:=sub_zip
  have hL1:Heap.IsList (Shared.heap ⟨hp,g,d,tk,os⟩) l1 xs:=hl1
  wp_walk using wpAny_pyIter_list hL1,wpAny_pyIter_strU
  exact⟨_,rfl,h⟩
set_option maxHeartbeats 4000000 in
theorem Xc(y:Str)(u:Tok)(x:Str)(t:Tok) :
  Meets (Builtin.«zip.__new__» ⟨[.type "zip", .str y u,.str x t],[]⟩) (fun _ R s=>R (.ok (.ret (.ref (U4 s.heap (M7 y u) (M7 x t))))) { s with heap:=J1 s.heap (M7 y u) (M7 x t) }) :=
 .of_wp fun prog w A R s h=>by
  obtain⟨hp,g,d,tk,os⟩:=s
  have hsub:=sub_zip
  wp_walk using wpAny_pyIter_strU
  exact⟨_,rfl,h⟩
end
open PySem PySem.Spec PyProof.Rows
inductive Src where
 | l (a:Addr)
 | s (z:Str)
def AgH:Src→V
 | .l a=>.ref a
 | .s z=>.str z
def Ss (K:PySem.W.Frag)(H:Hp):Src→Prop
 | .l a=>∃ xs,SqL K H a xs
 | .s _=>True
def J2 (K:PySem.W.Frag)(H:Hp):Src→Nat→V→Prop
 | .l a,i,v=>∃ xs,SqL K H a xs∧xs[i]?=some v
 | .s z,i,v=>∃ c,z.cps[i]?=some c∧v=.str ⟨#[c]⟩
def VB (K:PySem.W.Frag)(H:Hp):Src→Nat→Prop
 | .l a,i=>∃ xs,SqL K H a xs∧xs.length=i
 | .s z,i=>z.cps.size=i
def Ow (it:Addr)(t:Tok):Src→Nat→Heap→Prop
 | .l a,i,h=>h.IsListIter it a i
 | .s z,i,h=>h.IsStrIter it (strIterType z) z t i
def Ab9 (it:Addr):Src→List Addr
 | .l a=>[it,a]
 | .s _=>[it]
def Ajd (t:Tok):Src→Obj
 | .l a=>Z0 a
 | .s z=>M7 z t
theorem Su{X:Cx}{pins:List (Addr × Obj)}{σ:St}{H:Hp}{s:Shared}(I:Inv X pins σ H s){S:Src}{i:Nat}{u v:V}(h1:J2 X.K H S i u)(h2:J2 X.K H S i v):u=v:=by
 cases S with
 | l a =>
  obtain⟨xs,q1,e1⟩:=h1
  obtain⟨ys,q2,e2⟩:=h2
  rw[I.Oo q2 q1,e1] at e2
  exact Option.some.inj e2
 | s z =>
  obtain⟨c,e1,rfl⟩:=h1
  obtain⟨d,e2,rfl⟩:=h2
  rw[e1] at e2
  cases e2
  rfl
theorem Mh{X:Cx}{pins:List (Addr × Obj)}{σ:St}{H:Hp}{s:Shared}(I:Inv X pins σ H s){it:Addr}{t:Tok}{S:Src}{i:Nat}(st:Ow it t S i s.heap)(ok:Ss X.K H S)(ap:∀ a,S=.l a→a≠it) :
  ∃(n:Nat) (Pd:Nat→Value→Prop) (Sd:Nat→Heap→Prop),(∀ A':Around,A'.handled=none→Draws X.prog X.w A' it (Ab9 it S) n Pd Sd)∧Sd i s.heap∧(∀ h',Sd (i+1) h'→Ow it t S (i+1) h') ∧
   (∀ v,J2 X.K H S i v→i<n∧∀ u,Pd i u→RelV v u)∧(VB X.K H S i→i=n):=by
 cases S with
 | l a =>
  obtain⟨xs,q⟩:=ok
  obtain⟨its,rv,p1,_⟩:=I.list q
  have len:=rv.length
  refine⟨_,_,_,fun A' hh=>Draws.list hh it a (ap a rfl) its.toArray,⟨st,p1.isList⟩,fun h' z=>z.1,fun v hv=>?_,fun he=>?_⟩
  ·obtain⟨ys,q2,e⟩:=hv
   rw[I.Oo q2 q] at e
   obtain⟨u,hu,r⟩:=rv.get e
   refine⟨by have:=(List.getElem?_eq_some_iff.mp hu).1;simpa using this,fun u' hu'=>?_⟩
   have:its[i]?=some u':=by simpa using hu'
   rw[hu] at this
   cases this
   exact r
  ·obtain⟨ys,q2,e⟩:=he
   rw[I.Oo q2 q] at e
   simp only [AjZ]
   omega
 | s z =>
  refine⟨_,_,_,fun A' hh=>Xa hh it z t,st,fun h' z=>z,fun v hv=>?_,fun he=>he.symm⟩
  obtain⟨c,e,rfl⟩:=hv
  refine⟨by rw[Array.getElem?_eq_some_iff] at e;exact e.1,fun u ⟨d,tk,e2,hu⟩=>?_⟩
  rw[e] at e2
  cases e2
  exact⟨tk,hu⟩
def Adm (K:PySem.W.Frag)(S1 S2:Src):It where
 go:=fun i H=>(∃ u,J2 K H S1 i u)∧∃ v,J2 K H S2 i v
 yld:=fun i H x H'=>∃ T,x=.ref T∧H T=none∧∀ u v,J2 K H S1 i u→J2 K H S2 i v→H'=upd H T (.tup [u,v])
 stop:=fun i H=>Ss K H S1∧Ss K H S2∧(VB K H S1 i∨((∃ u,J2 K H S1 i u)∧VB K H S2 i))
theorem Xd{K:PySem.W.Frag}{H:Hp}{S:Src}{i:Nat}{u:V}(h:J2 K H S i u):Ss K H S:=by
 cases S with
 | l a=>obtain⟨xs,q,_⟩:=h;exact⟨xs,q⟩
 | s z=>trivial
def Afp (z TI TO i1 i2:Addr)(t1 t2:Tok)(S1 S2:Src)(i:Nat)(h:Heap):Prop:=IsZip h z TI TO .none∧IsPair h TI (.ref i1) (.ref i2)∧(∃ p q,IsPair h TO p q)∧Ow i1 t1 S1 i h∧Ow i2 t2 S2 i h
theorem Ox{it:Addr}{t:Tok}{S:Src}{i:Nat}{h h':Heap}(st:Ow it t S i h)(k:∀ o,h.get? it=some o→h'.get? it=some o):Ow it t S i h':=by
 cases S with
 | l a=>exact Heap.IsListIter.at st k
 | s z=>obtain⟨o,e,c⟩:=st;exact⟨o,k o e,c⟩
theorem Mi{it:Addr}{t:Tok}{S:Src}{i:Nat}{h:Heap}(st:Ow it t S i h):∃ o,h.get? it=some o∧∀ v,o.data≠.cell v:=by
 cases S with
 | l a=>obtain⟨o,e,_,d⟩:=st;exact⟨o,e,fun v z=>by rw[d] at z;cases z⟩
 | s z=>obtain⟨o,e,_,d⟩:=st;exact⟨o,e,fun v z=>by rw[d] at z;cases z⟩
theorem Aax{P:Program}{w:World}{K:PySem.W.Frag}{es:List Expr}{kx:Nat}{tp:Pos}{z TI TO i1 i2:Addr}{t1 t2:Tok}{S1 S2:Src}(D:Ql z TI TO i1 i2)
  (a1:∀ a,S1=.l a→a≠z∧a≠TO∧a≠i1∧a≠i2) (a2:∀ a,S2=.l a→a≠z∧a≠TO∧a≠i1∧a≠i2) :
  Turn P w K (.Tuple es kx tp) (Adm K S1 S2) [z,TI,TO,i1,i2] z (Afp z TI TO i1 i2 t1 t2 S1 S2):=by
 have f1:∀ c∈Ab9 i1 S1,c≠z∧c≠TO∧c≠i2:=fun c hc=>by
  cases S1 with
  | l a =>
   rcases List.mem_cons.mp hc with e | e
   ·subst e;exact⟨D.i1z,D.TOi1.symm,D.i12⟩
   ·rw[List.mem_singleton.mp e];exact⟨(a1 a rfl).1,(a1 a rfl).2.1,(a1 a rfl).2.2.2⟩
  | s x=>rw[List.mem_singleton.mp hc];exact⟨D.i1z,D.TOi1.symm,D.i12⟩
 have f2:∀ c∈Ab9 i2 S2,c≠z∧c≠TO∧c≠i1:=fun c hc=>by
  cases S2 with
  | l a =>
   rcases List.mem_cons.mp hc with e | e
   ·subst e;exact⟨D.i2z,D.TOi2.symm,D.i12.symm⟩
   ·rw[List.mem_singleton.mp e];exact⟨(a2 a rfl).1,(a2 a rfl).2.1,(a2 a rfl).2.2.1⟩
  | s x=>rw[List.mem_singleton.mp hc];exact⟨D.i2z,D.TOi2.symm,D.i12.symm⟩
 exact {
  mem:=by simp
  obj:=fun i h st c hc=>by
   obtain⟨s1,s2,⟨p,q,s3⟩,s4,s5⟩:=st
   simp only [Akl,Akm,or_false] at hc
   rcases hc with e | e | e | e | e
   ·subst e;exact⟨_,s1,fun v z=>by cases (show Data.fields _=Data.cell v from z)⟩
   ·subst e;exact⟨_,s2,fun v z=>by cases (show Data.seq _ _=Data.cell v from z)⟩
   ·subst e;exact⟨_,s3,fun v z=>by cases (show Data.seq _ _=Data.cell v from z)⟩
   ·subst e;exact Mi s4
   ·subst e;exact Mi s5
  keep:=fun i h h' st k=>by
   obtain⟨s1,s2,⟨p,q,s3⟩,s4,s5⟩:=st
   exact⟨k _ (by simp) _ s1,k _ (by simp) _ s2,⟨p,q,k _ (by simp) _ s3⟩,Ox s4 fun o e=>k _ (by simp) o e,Ox s5 fun o e=>k _ (by simp) o e⟩
  item:=by
   intro X hP hw hK hc i pins s σ H E I hf st hg
   subst hP hw hK
   obtain⟨⟨x,hx⟩,y,hy⟩:=hg
   obtain⟨s1,s2,⟨p,q,s3⟩,s4,s5⟩:=st
   obtain⟨n1,P1,Q1,D1,g1,e1,v1,_⟩:=Mh I s4 (Xd hx) (fun a e=>(a1 a e).2.2.1)
   obtain⟨n2,P2,Q2,D2,g2,e2,v2,_⟩:=Mh I s5 (Xd hy) (fun a e=>(a2 a e).2.2.2)
   obtain⟨l1,r1⟩:=v1 x hx
   obtain⟨l2,r2⟩:=v2 y hy
   refine Y9 D D1 D2 (I.ok.hd hc) f1 f2 s1 s2 s3 g1 g2 l1 l2 fun u v h1 tk pu pv z1 w1 j1 j2 hT hsz kk=>?_
   have ru:=r1 u pu
   have rw':=r2 v pv
   refine⟨_,rfl,wpAny_letOwnedTupleGo_zip z1 fun h2 z2 sb=>?_⟩
   have sb:Heap.SameBut z h1 h2:=sb
   have zl:z<s.heap.objs.size:=Heap.lt_size s1
   have TIl:TI<s.heap.objs.size:=Heap.lt_size s2
   have TOl:TO<s.heap.objs.size:=Heap.lt_size s3
   have i1l:i1<s.heap.objs.size:=by obtain⟨_,e,_⟩:=Mi s4;exact Heap.lt_size e
   have i2l:i2<s.heap.objs.size:=by obtain⟨_,e,_⟩:=Mi s5;exact Heap.lt_size e
   have up:∀ c o,c≠z→h1.get? c=some o→h2.get? c=some o:=fun c o c1 e=>(sb.2 c c1).trans e
   have hTn:H s.heap.objs.size=none:=I.hok.fresh (AjQ _)
   have I1:Inv X pins σ (upd H s.heap.objs.size (.tup [x,y])) { s with heap:=s.heap.push { cls:=.type "tuple", data:=.seq #[u,v] },toks:=tk } :=
    I.laid (fun c o e=>Heap.get?_push_of_some _ e) (AjQ _) ⟨by show 2≤sizeLine;decide,[u,v],.cons ru (.cons rw' .nil),⟨_,Heap.get?_push_size _ rfl,rfl,_,rfl⟩⟩
   have fp2:∀ c∈[z,TI,TO,i1,i2],JP X pins (upd H s.heap.objs.size (.tup [x,y])) c:=fun c hc=>by
    obtain⟨f0,f⟩:=hf c hc
    refine⟨?_,f⟩
    have lt:c<s.heap.objs.size:=by
     simp only [Akl,Akm,or_false] at hc
     rcases hc with e | e | e | e | e <;> subst e <;> assumption
    rw[Aq (AjS lt)]
    exact f0
   have I2:Inv X pins σ (upd H s.heap.objs.size (.tup [x,y])) { s with heap:=h2,toks:=tk }:=by
    refine Inv.Zz (s:={ s with heap:=s.heap.push { cls:=.type "tuple", data:=.seq #[u,v] },toks:=tk }) (h':=h2) (t':=tk) (its:=[z,TI,TO,i1,i2]) I1 (fun c o hc e=>?_) fp2
    simp only [Akl,Akm,or_false,not_or] at hc
    refine up c o hc.1 ?_
    by_cases hcs:c=s.heap.objs.size
    ·subst hcs
     have e':(s.heap.push { cls:=.type "tuple", data:=.seq #[u,v] }).get? s.heap.objs.size=some { cls:=.type "tuple", data:=.seq #[u,v] }:=Heap.get?_push_size _ rfl
     rw[e'] at e
     cases e
     exact hT
    ·have e':s.heap.get? c=some o:=by
      rw[← e]
      exact(Heap.get?_push_ne _ _ _ hcs).symm
     exact kk c o hc.1 hc.2.2.1 hc.2.2.2.1 hc.2.2.2.2 e'
   refine⟨.ref s.heap.objs.size,_,I2,rfl,⟨s.heap.objs.size,rfl,hTn,fun u' v' q1 q2=>?_⟩,⟨z2,up _ _ D.TIz (kk _ _ D.TIz D.TITO D.TIi1 D.TIi2 s2),⟨u,v,up _ _ D.TOz w1⟩,Ox (e1 _ j1) fun o e=>up _ o D.i1z e,Ox (e2 _ j2) fun o e=>up _ o D.i2z e⟩,fun c hc=>(fp2 c hc).1⟩
   rw[Su I q1 hx,Su I q2 hy]
  done:=by
   intro X hP hw hK hc i pins s σ H E I hf st hg
   subst hP hw hK
   obtain⟨o1,o2,hend⟩:=hg
   obtain⟨s1,s2,⟨p,q,s3⟩,s4,s5⟩:=st
   obtain⟨n1,P1,Q1,D1,g1,e1,v1,d1⟩:=Mh I s4 o1 (fun a e=>(a1 a e).2.2.1)
   obtain⟨n2,P2,Q2,D2,g2,e2,v2,d2⟩:=Mh I s5 o2 (fun a e=>(a2 a e).2.2.2)
   have he:i=n1∨(i<n1∧i=n2):=by
    rcases hend with h | ⟨⟨u,hu⟩,h⟩
    ·exact .inl (d1 h)
    ·exact .inr ⟨(v1 u hu).1,d2 h⟩
   refine Aaw D D1 D2 (I.ok.hd hc) f1 f2 s1 s2 s3 g1 g2 he fun h' tk kk=>⟨rfl,I.Zz (t':=tk) (its:=[z,TI,TO,i1,i2]) (fun c o hc e=>?_) hf⟩
   simp only [Akl,Akm,or_false,not_or] at hc
   exact kk c o hc.1 hc.2.2.1 hc.2.2.2.1 hc.2.2.2.2 e
  self:=fun _ _ _ _ _ st h=>wpAny_pyIter_zip st.1 h }
theorem Xe{h:Heap}{o1 o2:Obj}(e1:o1.isFreed=false)(e2:o2.isFreed=false):U4 h o1 o2=h.objs.size+4∧IsZip (J1 h o1 o2) (h.objs.size+4) (h.objs.size+2) (h.objs.size+3) .none ∧
  IsPair (J1 h o1 o2) (h.objs.size+2) (.ref h.objs.size) (.ref (h.objs.size+1))∧IsPair (J1 h o1 o2) (h.objs.size+3) .none .none∧(J1 h o1 o2).get? h.objs.size=some o1∧(J1 h o1 o2).get? (h.objs.size+1)=some o2 ∧
  ∀ c o,h.get? c=some o→(J1 h o1 o2).get? c=some o:=by
 have z1:(h.push o1).objs.size=h.objs.size+1:=Heap.size_push ..
 have z2:((h.push o1).push o2).objs.size=h.objs.size+2:=by rw[Heap.size_push,z1]
 have z3:(((h.push o1).push o2).push { cls:=.type "tuple", data:=.seq #[.ref h.objs.size,.ref (h.push o1).objs.size] }).objs.size=h.objs.size+3:=by rw[Heap.size_push,z2]
 have z4:U4 h o1 o2=h.objs.size+4:=by unfold U4;rw[Heap.size_push,z3]
 have g5:(J1 h o1 o2).get? (U4 h o1 o2)=some _:=Heap.get?_push_size _ rfl
 have g4:(J1 h o1 o2).get? (((h.push o1).push o2).push { cls:=.type "tuple", data:=.seq #[.ref h.objs.size,.ref (h.push o1).objs.size] }).objs.size=some _:=Heap.get?_push_of_some _ (Heap.get?_push_size _ rfl)
 have g3:(J1 h o1 o2).get? ((h.push o1).push o2).objs.size=some _:=Heap.get?_push_of_some _ (Heap.get?_push_of_some _ (Heap.get?_push_size _ rfl))
 have g2:(J1 h o1 o2).get? (h.push o1).objs.size=some o2:=Heap.get?_push_of_some _ (Heap.get?_push_of_some _ (Heap.get?_push_of_some _ (Heap.get?_push_size _ e2)))
 have g1:(J1 h o1 o2).get? h.objs.size=some o1:=Heap.get?_push_of_some _ (Heap.get?_push_of_some _ (Heap.get?_push_of_some _ (Heap.get?_push_of_some _ (Heap.get?_push_size _ e1))))
 refine⟨z4,?_,?_,?_,g1,?_,fun c o x=>Heap.get?_push_of_some _ (Heap.get?_push_of_some _ (Heap.get?_push_of_some _ (Heap.get?_push_of_some _ (Heap.get?_push_of_some _ x))))⟩
 ·rw[z4,z2,z3] at g5;exact g5
 ·rw[z2,z1] at g3;exact g3
 ·rw[z3] at g4;exact g4
 ·rw[z1] at g2;exact g2
theorem ane{a b:Nat}(h:a≠b):@Ne Addr a b:=h
theorem lne{a n:Nat}(h:a<n)(k:Nat):@Ne Addr a (n+k):=fun z=>by have z:a=n+k:=z;omega
theorem YB(n:Nat):Ql (n+4) (n+2) (n+3) n (n+1) where
 TIz:=ane (by omega)
 TOz:=ane (by omega)
 i1z:=ane (by omega)
 i2z:=ane (by omega)
 TITO:=ane (by omega)
 TIi1:=ane (by omega)
 TIi2:=ane (by omega)
 TOi1:=ane (by omega)
 TOi2:=ane (by omega)
 i12:=ane (by omega)
section
variable {X:Cx}{es:List Expr}{kx:Nat}{tp:Pos}
def zOk:Src→Src→Prop
 | .s _,.l _=>False
 | _,_=>True
def AgI (K:PySem.W.Frag)(ta:TA):TI:=fun σ H R=>ta σ H fun vs H1=>∃ S1 S2,vs=[AgH S1,AgH S2]∧zOk S1 S2∧Ss K H1 S1∧Ss K H1 S2∧R (Adm K S1 S2) H1
theorem Oz{K:PySem.W.Frag}{a b:Expr}{ta:TA}{p pos:Pos}(hg:Gl X "zip") (hm:X.mg "zip" = none) (ha:PA X [a,b] ta) (hK:X.K=K:=by rfl) (hs:starEach [a,b] X.env=[(false,eval a X.env),(false,eval b X.env)]:=by rfl) (hs2:starEach [b] X.env=[(false,eval b X.env)]:=by rfl) :
  PI X (.Tuple es kx tp) (.Call (.Name "zip" p) [a,b] [] pos) (AgI K ta):=by
 subst hK
 intro pins s σ H R I h
 refine Call_ (HX I hg hm Afc (PyProof.Rows.callWith_type1 (thn (ha pos pins s σ H _ I h) fun us s1 ⟨vs,H1,I1,r1,q1⟩=>?_) (by rw[hs,hs2]) (by rw[hs2];rfl)))
 obtain⟨S1,S2,e,hz,o1,o2,q⟩:=q1
 subst e
 obtain⟨u1,u2,rfl,ru1,ru2⟩:=r1.two
 have fin:∀(t1 t2:Tok) (h':Heap) (tk:Nat),IsZip h' (s1.heap.objs.size+4) (s1.heap.objs.size+2) (s1.heap.objs.size+3) .none→IsPair h' (s1.heap.objs.size+2) (.ref s1.heap.objs.size) (.ref (s1.heap.objs.size+1))→IsPair h' (s1.heap.objs.size+3) .none .none →
   Ow s1.heap.objs.size t1 S1 0 h'→Ow (s1.heap.objs.size+1) t2 S2 0 h'→(∀ c o,s1.heap.get? c=some o→h'.get? c=some o) →
   wpAny (model X.prog X.w) X.A (pyIter (.ref (s1.heap.objs.size+4))) (PIE X pins σ (.Tuple es kx tp) R) X.xe { s1 with heap:=h',toks:=tk }:=fun t1 t2 h' tk hzz hTI hTO j1 j2 kk=>by
  refine wpAny_pyIter_zip hzz ?_
  have lt:∀ S:Src,Ss X.K H1 S→∀ a,S=.l a→a<s1.heap.objs.size:=fun S ok a e=>by
   subst e
   obtain⟨xs,q⟩:=ok
   obtain⟨its,_,p1,_⟩:=I1.list q
   obtain⟨o,e,_⟩:=p1.isList
   exact Heap.lt_size e
  refine⟨_,[s1.heap.objs.size+4,s1.heap.objs.size+2,s1.heap.objs.size+3,s1.heap.objs.size,s1.heap.objs.size+1],_,_,H1,rfl,I1.kept (t':=tk) kk,Aax (t1:=t1) (t2:=t2) (YB _) (fun a e=>?_) (fun a e=>?_),
   ⟨hzz,hTI,⟨_,_,hTO⟩,j1,j2⟩,fun c hc=>?_,q⟩
  ·have:=lt S1 o1 a e;exact⟨lne this 4,lne this 3,lne this 0,lne this 1⟩
  ·have:=lt S2 o2 a e;exact⟨lne this 4,lne this 3,lne this 0,lne this 1⟩
  ·have le:s1.heap.objs.size≤c:=by
    simp only [Akl,Akm,or_false] at hc
    rcases hc with e | e | e | e | e <;> subst e <;> omega
   exact I1.AcL le (I1.hok.fresh le)
 cases S1 with
 | l a =>
  cases ru1
  obtain⟨xs,hq1⟩:=id o1
  obtain⟨Aiv,rv1,p1,_⟩:=I1.list hq1
  cases S2 with
  | l b =>
   cases ru2
   obtain⟨ys,hq2⟩:=id o2
   obtain⟨its2,rv2,p2,_⟩:=I1.list hq2
   refine call_zip_2 p1.isList p2.isList fun h' hzz hTI hTO j1 j2 hsz kk=>fin 0 0 h' s1.toks hzz hTI hTO j1 j2 kk
  | s x =>
   obtain⟨t,rfl⟩:=ru2
   refine callType_new F.called_zip (by decide) (F.typeCall_zip_2 _ _) (F.newCall_zip_2 _ _) (fun obj=>F.args_object_init_3 obj _ _) F.entry_zip_new (Xb a Aiv.toArray x t) ⟨p1.isList,?_⟩
   obtain⟨z4,g5,g3,g4,g1,g2,kk⟩:=Xe (h:=s1.heap) (o1:=Z0 a) (o2:=M7 x t) rfl rfl
   show _∧_
   rw[z4]
   exact⟨⟨_,g5,rfl⟩,fin 0 t _ s1.toks g5 g3 g4 ⟨_,g1,rfl,rfl⟩ ⟨_,g2,rfl,rfl⟩ kk⟩
 | s y =>
  obtain⟨t1,rfl⟩:=ru1
  cases S2 with
  | l b=>exact hz.elim
  | s x =>
   obtain⟨t,rfl⟩:=ru2
   refine callType_new F.called_zip (by decide) (F.typeCall_zip_2 _ _) (F.newCall_zip_2 _ _) (fun obj=>F.args_object_init_3 obj _ _) F.entry_zip_new (Xc y t1 x t) ?_
   obtain⟨z4,g5,g3,g4,g1,g2,kk⟩:=Xe (h:=s1.heap) (o1:=M7 y t1) (o2:=M7 x t) rfl rfl
   show _∧_
   rw[z4]
   exact⟨⟨_,g5,rfl⟩,fin t1 t _ s1.toks g5 g3 g4 ⟨_,g1,rfl,rfl⟩ ⟨_,g2,rfl,rfl⟩ kk⟩
end
open PySem PySem.Spec PyProof.Rows
structure Hh (X:Cx) (x x':Str) (Nc:List Str) (Bx:List Nat) (scope:Scope):Prop where
 kind:scope.kind=.function
 cell:∀ y∈scope.names,y.2≠.cell
 names:∀ y∈scope.names,y.2=.local→scope.names.lookup y.1=some .local
 fr:∀ y∈scope.names,y.2=.free→X.env.scope.names.lookup y.1=some .cell∧scope.names.lookup y.1=some .free
 loc:scope.names.lookup x=some .local
 AgJ:scope.names.lookup x'=some .local
 len:Nc.length=Bx.length+2
 hd:Nc[0]?=some x
 hd2:Nc[1]?=some x'
 nd:Nc.Nodup
 cap:∀ k j,Bx[k]?=some j→∃ y,Nc[k+2]?=some y∧X.N[j]?=some y∧scope.names.lookup y=some .free
def VD (K:PySem.W.Frag)(Bx:List Nat)(tc:TT)(te:TE)(J:It)(σ:St)(H:Hp)(Q:VK):Prop :=
 ∃ W:Nat→Nat→List V→Hp→Prop,(∃ m,W 0 m [] H)∧∀ i m ys H,W i m ys H →
  (J.stop i H∧ys.length≤sizeLine∧∀ p,H p=none→Q (.ref p) (upd H p (.lst ys))) ∨
  (J.go i H∧ys.length<sizeLine∧∀ x H',J.yld i H x H'→∃ a u v,x=.ref a∧SqT K H' a [u,v]∧tc (some u::some v::GK σ Bx) H' fun b H2 =>
   if b=true then te (some u::some v::GK σ Bx) H2 fun y H3=>∃ m',m'<m∧W (i+1) m' (ys++[y]) H3 else ∃ m',m'<m∧W (i+1) m' ys H2)
def AbA (K:PySem.W.Frag)(wi:TI)(Bx:List Nat)(tc:TT)(te:TE):TE:=fun σ H Q=>wi σ H fun J H1=>VD K Bx tc te J σ H1 Q
section
variable {X:Cx}{pins:List (Addr × Obj)}{σ:St}{H:Hp}{s:Shared}
theorem AbB{x x':Str}{Nc:List Str}{Bx:List Nat}{scope:Scope}{cl:List (Str × Addr)}{C:Addr}{fp:List Addr}(I:Inv X pins σ H s)(O:Hh X x x' Nc Bx scope)
  (hcl:∀ x c,cl.lookup x=some c→X.env.cells.lookup x=some c∧(x,NameKind.free)∈scope.names) (Qj:∀ x,(x,NameKind.free)∈scope.names→cl.lookup x=X.env.cells.lookup x)
  (hC:s.heap.objs.size≤C) (hfp:∀ b∈fp,JP X pins H b) (hfo:∀ b∈fp,b<s.heap.objs.size):(Ff X Nc scope cl C fp s H).Ok where
 mod:=I.ok.mod
 kind:=O.kind
 glob:=I.ok.glob
 blt:=I.ok.blt
 above:=hC
 inj:=fun a b c e1 e2=>I.ok.inj a b c (hcl a c e1).1 (hcl b c e2).1
 has:=fun y hy=>by
  have mem:(y,NameKind.free)∈scope.names:=by
   have hy':((relabel scope X.env).names.lookup y=some .cell)∨((relabel scope X.env).names.lookup y=some .free):=hy
   have hm:∃ k,(y,k)∈(relabel scope X.env).names∧(k=.cell∨k=.free):=by
    rcases hy' with h | h
    ·exact⟨_,PySem.mem_of_lookup h,.inl rfl⟩
    ·exact⟨_,PySem.mem_of_lookup h,.inr rfl⟩
   obtain⟨k,hm,hk⟩:=hm
   obtain⟨⟨n,k'⟩,hm',e⟩:=List.mem_map.mp hm
   dsimp only at e
   by_cases hc:(k' == NameKind.free && X.env.scope.kind == .function && X.env.kindOf n == some .cell)=true
   ·rw[if_pos hc] at e
    injection e with e1 _
    subst e1
    have:k'=.free:=by
     have:=(Ak3 _ _▸(Ak3 _ _▸hc).1).1
     simpa using this
    subst this
    exact hm'
   ·rw[if_neg hc] at e
    injection e with e1 e2
    subst e1 e2
    rcases hk with hk | hk
    ·subst hk;exact absurd rfl (O.cell _ hm')
    ·subst hk;exact hm'
  obtain⟨c,e⟩:=I.ok.has y (.inl (O.fr _ mem rfl).1)
  exact⟨c,(Qj y mem).trans e⟩
 cab:=fun _ _ z=>nomatch z
 hd:=I.ok.hd
 frames:=I.ok.frames
 stk:=.inl rfl
 exf:=fun b hb=>⟨AjS (Akc (hfo b hb) hC),fun y c e=>(hfp b hb).2.2.2.2.1 y c (hcl y c e).1⟩
 bs:=I.bs
 bsz:=Akg I.ok.bsz I.sz
 Ua:=fun b o e hb=>by
  rcases(hfp b hb).2.2.2.1 with z | z
  ·exact I.ok.Ua b o e z
  ·exact absurd (Akc (Heap.lt_size e) (Akg I.ok.bsz z)) (Akn _)
 Ub:=fun b hb z=>by
  rcases List.mem_cons.mp (I.R5 b z) with e | e
  ·exact(hfp b hb).2.1 e
  ·exact(hfp b hb).2.2.1 e
 Mu:=I.stack
 frf:=I.Rw
theorem Xf{x x':Str}{Nc:List Str}{Bx:List Nat}{scope:Scope}{cl:List (Str × Addr)}{C:Addr}{fp:List Addr}{h':Heap}{tk:Nat}{m0:Str→Option Value}(I:Inv X pins σ H s)(O:Hh X x x' Nc Bx scope)
  (hcl:∀ x c,cl.lookup x=some c→X.env.cells.lookup x=some c∧(x,NameKind.free)∈scope.names) (Qj:∀ x,(x,NameKind.free)∈scope.names→cl.lookup x=X.env.cells.lookup x)
  (hC:s.heap.objs.size≤C) (hfp:∀ b∈fp,JP X pins H b) (hfo:∀ b∈fp,b<s.heap.objs.size)
  (old:∀ b o,s.heap.get? b=some o→h'.get? b=some o) (hns:h'.Ns C m0) :
  Inv (Ff X Nc scope cl C fp s H) [] (none::none::GK σ Bx) H { s with heap:=h',toks:=tk } where
 ok:=AbB I O hcl Qj hC hfp hfo
 os:=rfl
 bare:=I.bare
 base:=Un.kept old
 loc:=by
  refine⟨m0,hns,fun i y v hN hσ hv=>?_⟩
  match i with
  | 0=>simp at hσ
  | 1=>simp at hσ
  | k+2 =>
   rw[Alf,Alf] at hσ
   obtain⟨j,hj,hs⟩:=W8 hσ
   obtain⟨z,hz1,hz2,hz3⟩:=O.cap k j hj
   have hN':Nc[k+2]?=some y:=hN
   rw[hz1] at hN'
   cases hN'
   have mem:(y,NameKind.free)∈scope.names:=PySem.mem_of_lookup hz3
   have hk:=(O.fr _ mem rfl).1
   obtain⟨m,hn,hl⟩:=I.loc
   obtain⟨u,r,l⟩:=hl j y v hz2 hs (.inr (.inl hk))
   refine⟨u,r,?_⟩
   rcases l with ⟨k',_⟩ | ⟨_,c,hc,z⟩
   ·have k'':X.env.scope.names.lookup y=some .local:=k'
    rw[hk] at k'';cases k''
   ·obtain⟨o,ho,hd⟩:=z
    exact .inr ⟨.inl (Gf I.ok.kind hz3 hk),c,(Qj y mem).trans hc,o,old _ _ ho,hd⟩
 cell:=fun y c e=>by
  obtain⟨v,o,ho,hd⟩:=I.cell y c (hcl y c e).1
  exact⟨v,o,old _ _ ho,hd⟩
 free:=I.hok.fresh hC
 Ho:=fun y c e=>I.Ho y c (hcl y c e).1
 pin:=fun p hp=>absurd (show p∈([]:List (Addr × Obj)) from hp) (by simp)
 hok:=I.hok.kept old
 len:=by
  show(none::none::GK σ Bx).length=Nc.length
  rw[Aks,Aks,W7,O.len]
theorem Xg{x x':Str}{px px' tp:Pos}{kx:Nat}{Nc:List Str}{Bx:List Nat}{scope:Scope}{cl:List (Str × Addr)}{iter elt:Expr}{ifs:List Expr}{pos:Pos}{tc:TT}{te:TE}{Q:VK}{it:Addr}{fp:List Addr}{tn:Nat→Heap→Prop}{J:It}
  {RR:Value→Addr→Result→Shared→Prop}{E:Value→Shared→Prop}
  (O:Hh X x x' Nc Bx scope) (hc:X.calm=true)
  (hcl:∀ x c,cl.lookup x=some c→X.env.cells.lookup x=some c∧(x,NameKind.free)∈scope.names) (Qj:∀ x,(x,NameKind.free)∈scope.names→cl.lookup x=X.env.cells.lookup x)
  (hte:∀ C fp s H,PE (Ff X Nc scope cl C fp s H) elt te) (htc:∀ C fp s H,PIf (Ff X Nc scope cl C fp s H) ifs tc)
  (I:Inv X pins σ H s) (T:Turn X.prog X.w X.K (.Tuple [.Name x px,.Name x' px'] kx tp) J fp it tn) (st:tn 0 s.heap) (hfp:∀ b∈fp,JP X pins H b) (h:VD X.K Bx tc te J σ H Q)
  (hRR:∀(D C:Addr) (s':Shared) (m:Str→Option Value),s'.heap.Ns C m→(∀ h',Heap.SameBut C s'.heap h'→∃ H',Inv X pins σ H' { s' with heap:=h' }∧H' C=none∧Q (.ref D) H') →
   s.heap.objs.size≤C→RR (.ref D) C (.ok .next) s') :
  wpAny (model X.prog X.w) X.A (newList []) (fun acc s₃=>wpAny (model X.prog X.w) X.A (newFunctionEnv scope X.env.globals cl [] X.env.qual none .none (some X.env)) (fun cenv s₄ =>
   codeAny (model X.prog X.w) X.A (.compStart (.ListComp elt [⟨(.Tuple [.Name x px,.Name x' px'] kx tp),iter,ifs,0⟩] scope pos) 0 (.ref it) acc { cenv with scope:=relabel scope X.env }) (RR acc cenv.locals) s₄) E s₃) E s:=by
 refine wpAny_newObj_type (wpAny_newFunctionEnv O.cell (by intro y hy;simp at hy) (fun h₁ hns₁ hsb₁=>?_) O.kind)
 dsimp only at hns₁ hsb₁ ⊢
 generalize hH2:s.heap.push { cls:=.type "list", dict:=none,data:=.seq ([]:List Value).toArray }=H2 at hns₁ hsb₁ ⊢
 have hC:H2.objs.size=s.heap.objs.size+1:=by rw[← hH2,Heap.size_push]
 have hCle:s.heap.objs.size≤H2.objs.size:=by rw[hC];exact Ak0 _
 have hDC:s.heap.objs.size≠H2.objs.size:=by rw[hC];exact AjS (Akx _)
 have below:∀ b,b<s.heap.objs.size→b≠H2.objs.size∧b≠s.heap.objs.size:=fun b hb=>⟨by rw[hC];exact AjS (Aku hb),AjS hb⟩
 have old:∀ b o,s.heap.get? b=some o→h₁.get? b=some o:=fun b o e=>hsb₁.extBut b o (below b (Heap.lt_size e)).1 (Heap.get?_push_of_some _ (hH2▸Heap.get?_push_of_some _ e))
 have hacc:h₁.get? s.heap.objs.size=some (K8 [] 0):=hsb₁.extBut _ _ hDC (Heap.get?_push_of_some _ (hH2▸Heap.get?_push_size _ rfl))
 have hfo:∀ b∈fp,b<s.heap.objs.size:=fun b hb=>by
  obtain⟨o,e,_⟩:=T.obj _ _ st b hb
  exact Heap.lt_size e
 have st1:tn 0 h₁:=T.keep _ _ _ st fun b _ o e=>old b o e
 generalize hDD:s.heap.objs.size=D at *
 generalize hCC:H2.objs.size=C at *
 have Afa:D≤C:=hCle
 let Y:Cx:=Ff X Nc scope cl C fp s H
 have I0:Inv Y [] (none::none::GK σ Bx) H { s with heap:=h₁,toks:=s.toks+([]:List (Str × Value)).length }:=Xf I O hcl Qj (by rw[hDD];exact hCle) hfp (fun b hb=>by rw[hDD];exact hfo b hb) old hns₁
 have Abr:H D=none:=by rw[← hDD];exact I.hok.fresh (AjQ _)
 have Vx:D≠C:=hDC
 have Dfs:D∉Y.fs:=fun z=>by
  have:=I.stack.mem (show D∈frs X.stack from z)
  obtain⟨_,o,e,_⟩:=this
  have:=Heap.lt_size e
  rw[hDD] at this
  exact Akn _ this
 have Abs:∀ y c,Y.env.cells.lookup y=some c→c≠D:=fun y c e z=>by
  obtain⟨v,q⟩:=I.cell y c (hcl y c e).1
  have:=q.lt
  rw[z,hDD] at this
  exact Akn _ this
 have Dfp:∀ b∈fp,b≠D:=fun b hb=>AjS (hfo b hb)
 have fpY:∀{H':Hp},(∀ b∈fp,H' b=none)→∀ b∈fp,JP Y [] H' b:=fun hn b hb =>
  ⟨hn b hb,AjS (Akc (hfo b hb) Afa),fun z=>I0.ok.Ub b hb z,.inl hb,fun y c e=>(I0.ok.exf b hb).2 y c e,fun p hp=>absurd (show p∈([]:List (Addr × Obj)) from hp) (by simp)⟩
 obtain⟨W,⟨m0,w0⟩,turn⟩:=h
 have loop:∀ s₃:Shared,s₃={ s with heap:=h₁,toks:=s.toks+([]:List (Str × Value)).length } →
   codeAny (model X.prog X.w) X.A (.compLoop (.ListComp elt [⟨(.Tuple [.Name x px,.Name x' px'] kx tp),iter,ifs,0⟩] scope pos) 0 (.ref it) (.ref D) (compEnvC scope cl C X.env)) (RR (.ref D) C) s₃:=by
  rintro s₃ rfl
  refine Ou (fun n s'=>∃(i:Nat) (o o':Option V) (H':Hp) (ys:List V) (us:List Value) (k:Nat),Inv Y [] (o::o'::GK σ Bx) H' s'∧tn i s'.heap∧(∀ b∈fp,H' b=none)∧s'.heap.get? D=some (K8 us k)∧H' D=none∧Vals ys us∧W i n ys H')
   ?_ m0 ⟨0,none,none,H,[],[],0,I0,st1,fun b hb=>(hfp b hb).1,hacc,Abr,.nil,w0⟩
  rintro n s3 ⟨i,o3,o3',H3,ys,us,k,I3,st3,fr3,hD3,nD3,rv,w3⟩
  have fpP:∀{H':Hp} {ob:Obj},(∀ b∈fp,H' b=none)→∀ b∈fp,JP Y [(D,ob)] H' b:=fun hn b hb=>by
   obtain⟨g0,g1,g2,g3,g4,_⟩:=fpY hn b hb
   refine⟨g0,g1,g2,g3,g4,fun p hp=>?_⟩
   have e:p=(D,_):=List.mem_singleton.mp (show p∈[(D,_)] from hp)
   rw[e]
   exact Ne.symm (Dfp b hb)
  have IP:Inv Y [(D,K8 us k)] (o3::o3'::GK σ Bx) H3 s3:=I3.Iw fun p hp=>by
   have e:p=(D,K8 us k):=List.mem_singleton.mp hp
   subst e
   exact⟨hD3,nD3,Vx,Dfs,fun v z=>by cases z⟩
  have Yy:∀{σ':St} {H':Hp} {s':Shared} {pl:List (Addr × Obj)},Inv Y ([(D,K8 us k)]++pl) σ' H' s'→s'.heap.get? D=some (K8 us k)∧H' D=none:=fun I'=>by
   have z:=I'.pin (D,K8 us k) (Ako _ (AkB _ Ake))
   exact⟨z.1,z.2.1⟩
  rcases turn i n ys H3 w3 with ⟨stop,hlen,fin⟩ | ⟨go,hlen,step⟩
  ·
   refine wpAny_mono (T.done Y rfl rfl rfl hc i _ s3 _ H3 (fun _ _=>False) IP (fpP fr3) st3 stop) (fun r s4 hr=>?_) fun _ _ z=>z.elim
   obtain⟨hr,I4⟩:=hr
   subst hr
   obtain⟨gD,nD⟩:=Yy (pl:=[]) (by simpa using I4)
   obtain⟨m,hn,_⟩:=I4.loc
   refine hRR D C s4 m hn (fun h' hs'=>⟨upd H3 D (.lst ys),?_,(Aq (Ne.symm Vx)).trans I4.free,fin D nD⟩) hCle
   have nt:∀ b ob,H3 b=some ob→b≠C:=fun b ob e z=>by
    have:=I4.free
    rw[z] at e
    rw[show H3 C=none from this] at e
    cases e
   have u1:Un (frs X.stack) fp H H3 s.heap h':=Un.but I4.base hs' (show s.heap.objs.size≤C by rw[hDD];exact hCle)
   have ok1:HOk X.prog X.w H3 h':=fun b ob e=>(I4.hok b ob e).stay (fun c v hc q=>(hs'.2 c (by
    rcases hc with z | z
    ·rw[z];exact nt b ob e
    ·exact nt c _ z)).trans q) (fun _ q=>q) fun _ _ q=>q
   have gD':h'.get? D=some (K8 us k):=(hs'.2 D Vx).trans gD
   exact I.call' (s':={ s4 with heap:=h' }) (ch:=fp) I4.os (u1.track (AkC hDD) nD) (ok1.track nD ⟨hlen,us,k,rv,gD'⟩) I4.bare fun b hb=>by
    obtain⟨_,g1,_,g3,g4,g5⟩:=hfp b hb
    exact⟨g3,g1,g4,g5⟩
  ·
   refine wpAny_mono (T.item Y rfl rfl rfl hc i _ s3 _ H3 (fun _ _=>False) IP (fpP fr3) st3 go) (fun r s4 hr=>?_) fun _ _ z=>z.elim
   obtain⟨u0,hr,h4⟩:=hr
   subst hr
   refine wpAny_mono h4 (fun _ s5 h5=>?_) fun _ _ z=>z.elim
   obtain⟨x5,H5,I5,r5,y5,st5,fr5⟩:=h5
   have I5':=I5.pinned (fpP fr5) (T.obj _ _ st5)
   have n1:PG Y (.Name x px) (KD 0):=Bu (i:=0) O.nd O.hd (.inl (Dy I.ok.kind O.loc (by intro z;cases z))) (.inr (Dy I.ok.kind O.loc (by intro z;cases z)))
   have n2:PG Y (.Name x' px') (KD 1):=Bu (i:=1) O.nd O.hd2 (.inl (Dy I.ok.kind O.AgJ (by intro z;cases z))) (.inr (Dy I.ok.kind O.AgJ (by intro z;cases z)))
   have tgt:PG Y (.Tuple [.Name x px,.Name x' px'] kx tp) (Agq Y.K 2 (AaV (KD 0) (AaV (KD 1) Agp))):=AaW hc (Oq n1 (Oq n2 Zh))
   obtain⟨aT,uT,vT,rfl,hT,stepT⟩:=step x5 _ y5
   refine wpAny_mono (tgt _ s5 _ H5 (.ref aT) u0 (fun σ2 H2=>σ2=some uT::some vT::GK σ Bx∧H2=H5) I5' r5 ⟨aT,[uT,vT],rfl,hT,rfl,uT,[vT],rfl,vT,[],rfl,rfl,rfl,rfl⟩) (fun _ s6 h6=>?_) fun _ _ z=>z.elim
   obtain⟨_,_,I6,rfl,rfl⟩:=h6
   refine wpAny_mono ((htc C fp s H).run I6 stepT) (fun b s7 h7=>?_) fun _ _ z=>z.elim
   obtain⟨H7,I7,q7⟩:=h7
   have W9:∀{σ':St} {H':Hp} {s':Shared},Inv Y ([(D,K8 us k)]++Qg fp s5.heap) σ' H' s'→tn (i+1) s'.heap∧∀ b∈fp,H' b=none:=fun I' =>
    ⟨T.keep _ _ _ st5 fun b hb o e=>(I'.pin (b,o) (Ako _ (Ako _ (GJ hb e)))).1,fun b hb=>by
     obtain⟨o,e,d⟩:=T.obj _ _ st5 b hb
     exact(I'.pin (b,o) (Ako _ (Ako _ (GJ hb e)))).2.1⟩
   cases b with
   | false =>
    rw[if_neg Akd] at q7
    rw[if_neg Akd]
    obtain⟨m',hm,w7⟩:=q7
    obtain⟨gD,nD⟩:=Yy I7
    obtain⟨k1,k2⟩:=W9 I7
    exact⟨m',hm,i+1,some uT,some vT,H7,ys,us,k,I7.Iw (fun p hp=>nomatch hp),k1,k2,gD,nD,rv,w7⟩
   | true =>
    rw[if_pos rfl] at q7
    rw[if_pos rfl]
    refine wpAny_mono (hte C fp s H _ s7 _ H7 _ I7 q7) (fun u8 s8 h8=>?_) fun _ _ z=>z.elim
    obtain⟨y8,H8,I8,r8,m',hm,w8⟩:=h8
    obtain⟨gD,nD⟩:=Yy I8
    obtain⟨k1,k2⟩:=W9 I8
    refine call_meets F.slot_list_append ⟨_,gD,rfl⟩ F.entry_list_append (F.args_list_append_2 _ _) (PySem.list_append D us.toArray k u8 (by rw[AjZ,← rv.length];omega)) ⟨gD,?_⟩
    have q:=PySem.IsL.update gD (·.push u8)
    have e1:us.toArray.push u8=(us++[u8]).toArray:=by simp
    rw[e1] at q
    have I8':Inv Y [] (some uT::some vT::GK σ Bx) H8 s8:=I8.Iw (fun p hp=>nomatch hp)
    have I9:Inv Y [] (some uT::some vT::GK σ Bx) H8 { s8 with heap:=s8.heap.update D (Obj.mapSeq (·.push u8)),toks:=s8.toks } :=
     I8'.turned (it:=D) (fun b o hb e=>(Heap.get?_update_other s8.heap (Obj.mapSeq (·.push u8)) (Ne.symm hb)).trans e) nD Vx (.inr (AkC hDD)) Abs (fun p hp=>nomatch hp)
    refine⟨m',hm,i+1,some uT,some vT,H8,ys++[y8],us++[u8],_,I9,T.keep _ _ _ k1 fun b hb o e=>(Heap.get?_update_other s8.heap (Obj.mapSeq (·.push u8)) (Ne.symm (Dfp b hb))).trans e,k2,q,nD,rv.append (.cons r8 .nil),w8⟩
 exact codeAny_compStart_list (loop _ rfl) (T.self X.A 0 _ _ _ st1 (loop _ rfl))
theorem AbC{x x':Str}{px px' tp pos:Pos}{kx:Nat}{Nc:List Str}{Bx:List Nat}{scope:Scope}{iter elt:Expr}{ifs:List Expr}{wi:TI}{tc:TT}{te:TE}(O:Hh X x x' Nc Bx scope)(hc:X.calm=true)(hi:PI X (.Tuple [.Name x px,.Name x' px'] kx tp) iter wi)
  (htc:∀ cl C fp s H,PIf (Ff X Nc scope cl C fp s H) ifs tc) (hte:∀ cl C fp s H,PE (Ff X Nc scope cl C fp s H) elt te) (hs:∀ x,foldedSetIterable iter X.env x=pure x:=by intro _;rfl) :
  PE X (.ListComp elt [⟨(.Tuple [.Name x px,.Name x' px'] kx tp),iter,ifs,0⟩] scope pos) (AbA X.K wi Bx tc te):=by
 intro pins s σ H Q I h
 rw[eval_ListComp]
 obtain⟨cl,e1,e2,e3⟩:=Nj (scope:=scope) (env:=X.env) fun y hy hf=>I.ok.has y.1 (.inl (O.fr y hy hf).1)
 refine wpAny_comprehension_free (use:=none) rfl hs e1 O.kind O.names (thn (hi pins s σ H _ I h) fun v s1 h1=>thn h1 fun itv s2 h2=>?_)
 obtain⟨it,fp,tn,J,H2,e,I2,T,st2,f2,w2⟩:=h2
 subst e
 refine Xg (RR:=fun acc C=>compPost (model X.prog X.w) X.A X.xe none (EP X pins σ Q) acc C) O hc e2 e3 (hte cl) (htc cl) I2 T st2 f2 w2 ?_
 intro D C s' m hn hq hC
 refine⟨m,hn,fun h' hs'=>?_⟩
 obtain⟨H',I',_,q⟩:=hq h' hs'
 exact⟨.ref D,H',I',rfl,q⟩
theorem J3{K:PySem.W.Frag}{x x':Str}{px px' tp pos:Pos}{kx:Nat}{Nc:List Str}{Bx:List Nat}{scope:Scope}{iter elt:Expr}{ifs:List Expr}{wi:TI}{tc:TT}{te:TE}(O:Hh X x x' Nc Bx scope)(hc:X.calm=true)(hi:PI X (.Tuple [.Name x px,.Name x' px'] kx tp) iter wi)
  (htc:∀ cl C fp s H,PIf (Ff X Nc scope cl C fp s H) ifs tc) (hte:∀ cl C fp s H,PE (Ff X Nc scope cl C fp s H) elt te) (hs:∀ x,foldedSetIterable iter X.env x=pure x:=by intro _;rfl) (hK:X.K=K:=by rfl) :
  PE X (.ListComp elt [⟨(.Tuple [.Name x px,.Name x' px'] kx tp),iter,ifs,0⟩] scope pos) (AbA K wi Bx tc te):=by
 subst hK
 exact AbC O hc hi htc hte hs
theorem KN{K:PySem.W.Frag}{S1 S2:Src}{n:Nat}{Bx:List Nat}{tc:TT}{te:TE}{σ:St}{H:Hp}{Q:VK}(f g:Nat→V)(Pv:Nat→List V→Hp→Prop)(h0:Pv 0 [] H)(hl:∀ i ys H,i≤n→Pv i ys H→ys.length≤i)
  (hz:n≤sizeLine) (h1:∀ i ys H,i<n→Pv i ys H→J2 K H S1 i (f i)) (h2:∀ i ys H,i<n→Pv i ys H→J2 K H S2 i (g i)) (hst:∀ ys H,Pv n ys H→(Adm K S1 S2).stop n H)
  (hs:∀ i ys H T,i<n→Pv i ys H→H T=none→Ge n Pv tc te (some (f i)::some (g i)::GK σ Bx) i ys (upd H T (.tup [f i,g i])))
  (hd:∀ ys H p,Pv n ys H→H p=none→Q (.ref p) (upd H p (.lst ys))):VD K Bx tc te (Adm K S1 S2) σ H Q:=by
 refine⟨fun i m ys H=>m=n-i∧i≤n∧Pv i ys H,⟨n,by simp,Akb _,h0⟩,?_⟩
 rintro i m ys H ⟨rfl,hi,p⟩
 have hy:=hl i ys H hi p
 by_cases hlt:i<n
 ·refine .inr ⟨⟨⟨_,h1 i ys H hlt p⟩,_,h2 i ys H hlt p⟩,by omega,fun x H' y=>?_⟩
  obtain⟨T,rfl,hT,e⟩:=y
  have e:=e _ _ (h1 i ys H hlt p) (h2 i ys H hlt p)
  subst e
  exact⟨T,f i,g i,rfl,SqT.of Af,hs i ys H T hlt p hT⟩
 ·have e:i=n:=by omega
  subst e
  exact .inl ⟨hst ys H p,by omega,fun p' hp=>hd ys H p' p hp⟩
theorem Nq{K:PySem.W.Frag}{H:Hp}{u:List Nat}{i:Nat}(h:i<u.length):J2 K H (.s (tx u)) i (.str ⟨#[u.getD i 0]⟩) :=
 ⟨u.getD i 0,by rw[JT,AjO h];simp[List.getD,h],rfl⟩
theorem Z1{K:PySem.W.Frag}{H:Hp}(u:List Nat):VB K H (.s (tx u)) u.length:=by
 have:=Ax u
 unfold Str.length at this
 exact this
theorem VF{K:PySem.W.Frag}{H:Hp}{a:Addr}{xs:List V}{i:Nat}(q:SqL K H a xs)(h:i<xs.length):J2 K H (.l a) i (xs.getD i .non) :=
 ⟨xs,q,by rw[AjO h];simp[List.getD,h]⟩
end
open PySem PySem.Spec PyProof.Rows
theorem Aay:typeLookup (.type "list_reverseiterator") "__len__" = pure none:=by
 rw[typeLookup_type,builtinLookup_eq_fast];kernel_rfl
theorem AbD:typeLookup (.type "list_reverseiterator") "__length_hint__" = pure (some (.builtin "list_reverseiterator.__length_hint__")):=by
 rw[typeLookup_type,builtinLookup_eq_fast];kernel_rfl
section
variable {prog:Program}{w:World}{A:Around}{E:Value→Shared→Prop}{s:Shared}{R:Result→Shared→Prop}{it:Addr}{fp wr:List Addr}{G:Array GenState→Array GenState→Prop}{n:Nat}{P:Nat→Value→Prop}{St:Nat→Shared→Prop}
theorem YC(V:WalksS prog w A.in1 it fp wr G n P St)(ty:∀ i s,St i s→s.TypeIs (.ref it) "list_reverseiterator") (M:Addr) (res:Value) (c:Nat) (st0:St 0 s) (nf:M∉fp) (mi:it∈fp) (hM:s.heap.get? M=some { cls:=.type "list", data:=.seq #[] c })
  (fin:∀ s' acc c',Moved (M::wr) G s s'→s'.heap.get? M=some { cls:=.type "list", dict:=none,data:=.seq acc c',slots:=#[] }→ItemsOf P acc n→R (.ok (.ret res)) s') (hn:n≤sizeLine) :
  wpAny (model prog w) A.in1 (Builtin.List.listExtendWith (.ref M) (.ref it) res)
   (fun f s'=>match f with | .done d=>R (.ok d) s' | .again k=>k.quiet=true∧codeAny (model prog w) A k R s') (fun e s'=>R (.error e) s') s:=by
 have ne:M≠it:=fun e=>nf (e▸mi)
 have q1:Builtin.List.listSameRef (.ref M) (.ref it)=false:=by simp[Builtin.List.listSameRef,ne]
 unfold Builtin.List.listExtendWith
 refine wpAny_bind (wpAny_typeOf (ty 0 _ st0) ?_)
 rw[if_neg (by rw[q1];decide)]
 refine wpAny_bind (V.self 0 _ _ _ st0 ?_);refine wpAny_bind (wpAny_holding ?_)
 unfold Builtin.List.listLengthHint
 refine wpAny_bind (wpAny_specialOf (ty 0 _ st0) Aay ?_)
 show wpAny _ A.in1 (specialOf (Value.ref it) (Str.ofString "__length_hint__") >>= _) _ _ _
 refine wpAny_bind (wpAny_specialOf (ty 0 _ st0) AbD ?_)
 generalize hid:("list_reverseiterator.__length_hint__" : String)=name
 wp_delta
 rw[show splitId name=some ("list_reverseiterator", "__length_hint__") from by subst hid;decide +kernel]
 subst hid
 refine wpAny_bind (wpAny_isInstance (b:=true) (ty 0 _ st0) (by rw[isSubtype_type];kernel_rfl) ?_);refine wpAny_pure ?_
 rw[if_neg (by decide)]
 refine wpAny_pure ⟨plainId_quiet F.plain_extend_loop _,codeAny_extend_loopS V hn _ nf _ n 0 _ _ _ rfl (Akb _) st0 hM (ItemsOf.nil P) fun s' acc c' mv hM' ha=>?_⟩
 exact fin s' acc c' mv hM' ha
theorem AbE(V:WalksS prog w A.in1 it fp wr G n P St)(ty:∀ i s,St i s→s.TypeIs (.ref it) "list_reverseiterator") (M:Addr) (st0:St 0 s) (nf:M∉fp) (mi:it∈fp) (hM:s.heap.get? M=some { cls:=.type "list", data:=.seq #[] })
  (fin:∀ s' acc c',Moved (M::wr) G s s'→s'.heap.get? M=some { cls:=.type "list", dict:=none,data:=.seq acc c',slots:=#[] }→ItemsOf P acc n→R (.ok (.ret .none)) s') (hn:n≤sizeLine) :
  wpAny (model prog w) A.in1 (Builtin.«list.__init__» ⟨[.ref M,.ref it],[]⟩)
   (fun f s'=>match f with | .done d=>R (.ok d) s' | .again k=>k.quiet=true∧codeAny (model prog w) A k R s') (fun e s'=>R (.error e) s') s:=by
 show wpAny _ A.in1 (do let old ← Builtin.List.listItems (.ref M);Builtin.List.listUpdate (.ref M) (fun _=>#[]);letGo old.toList.reverse;Builtin.List.listExtendWith (.ref M) (.ref it) .none) _ _ s
 refine wpAny_bind ?_;unfold Builtin.List.listItems
 refine wpAny_bind (wpAny_seqItems hM rfl (wpAny_pure ?_))
 show wpAny _ A.in1 (updateSeq M (fun _=>#[]) >>= fun _=>letGo (#[]:Array Value).toList.reverse >>= fun _=>Builtin.List.listExtendWith (.ref M) (.ref it) .none) _ _ s
 refine wpAny_bind (wpAny_updateSeq hM rfl ?_)
 have hM2:=Heap.get?_update_self (Obj.mapSeq (fun _=>(#[]:Array Value))) hM rfl
 have off:∀ b o,b≠M→s.heap.get? b=some o→(s.heap.update M (Obj.mapSeq (fun _=>(#[]:Array Value)))).get? b=some o:=fun b o nb e=>(Heap.get?_update_other _ _ (Ne.symm nb)).trans e
 refine wpAny_bind (wpAny_letGo ?_)
 refine YC V ty M .none _ (V.frame 0 s _ s.toks st0 (AjQ _) fun b hb o e=>off b o (fun z=>nf (z▸hb)) e) nf mi hM2 (fun s' acc c' mv hM' ha=>?_) hn
 exact fin s' acc c' (Moved.trans V.gtrans ((Moved.refl V.grefl).then_heap (AjQ _) fun b o hb e=>off b o (fun z=>hb (z▸Ake)) e) mv) hM' ha
theorem AbF{Q:Value→Shared→Prop}(V:WalksS prog w A.in1.in1 it fp wr G n P St)(ty:∀ i s,St i s→s.TypeIs (.ref it) "list_reverseiterator") (st0:St 0 s) (below:∀ b∈fp,b<s.heap.objs.size) (mi:it∈fp)
  (fin:∀ s' acc c',Moved (s.heap.objs.size::wr) G { s with heap:=s.heap.push { cls:=.type "list", data:=.seq #[] } } s' →
   s'.heap.get? s.heap.objs.size=some { cls:=.type "list", dict:=none,data:=.seq acc c',slots:=#[] }→ItemsOf P acc n→Q (.ref s.heap.objs.size) s') (hn:n≤sizeLine) :
  wpAny (model prog w) A (call (.type "list") [.ref it]) Q E s:=by
 have nf:s.heap.objs.size∉fp:=fun z=>Akn _ (below _ z)
 refine callType_codes (Q₁:=fun ob s1=>ob=.ref s.heap.objs.size∧s1={ s with heap:=s.heap.push { cls:=.type "list", data:=.seq #[] } }) F.called_list (F.typeCall_list_1 _) F.entry_list_init (code_list_new _ ⟨rfl,rfl⟩) fun ob s1 h1=>?_
 obtain⟨rfl,rfl⟩:=h1
 have hM:(s.heap.push { cls:=.type "list", data:=.seq #[] }).get? s.heap.objs.size=some { cls:=.type "list", data:=.seq #[] }:=Heap.get?_push_size _ rfl
 refine⟨⟨_,hM,rfl⟩,F.args_list_init_2 _ _,AbE V ty _ (V.frame 0 s _ s.toks st0 (AjQ _) fun b _ o e=>Heap.get?_push_of_some _ e) nf mi hM (fun s' acc c' mv hM' ha=>?_) hn⟩
 exact⟨rfl,fin s' acc c' mv hM' ha⟩
end
section
variable {X:Cx}{K:PySem.W.Frag}{p1 p2 pos1 pos2:Pos}{e:Expr}{te:TE}
def AbG (K:PySem.W.Frag)(te:TE):TE:=fun σ H Q=>te σ H fun x H1=>∃ a ys,x=.ref a∧SqL K H1 a ys∧ys.length≤1000∧∀ l,H1 l=none→Q (.ref l) (upd H1 l (.lst ys.reverse))
theorem Sv(hg1:Gl X "list") (hm1:X.mg "list" = none) (hg2:Gl X "reversed") (hm2:X.mg "reversed" = none) (he:PE X e te) (hK:X.K=K:=by rfl) (hc:X.calm=true:=by rfl)
  (hs2:starEach [e] X.env=(false,eval e X.env)::starEach [] X.env:=by rfl)
  (hs1:starEach [.Call (.Name "reversed" p2) [e] [] pos2] X.env=(false,eval (.Call (.Name "reversed" p2) [e] [] pos2) X.env)::starEach [] X.env:=by rfl)
  (hq1:(backTo pos1 (starEach [] X.env)).any (·.1)=false:=by rfl) (hq2:(backTo pos2 (starEach [] X.env)).any (·.1)=false:=by rfl) :
  PE X (.Call (.Name "list" p1) [.Call (.Name "reversed" p2) [e] [] pos2] [] pos1) (AbG K te):=by
 subst hK
 intro pins s σ H Q I h
 have hsz:sizeLine=16777216:=sizeLine_eq
 refine wpAny_Call_Name_kw (HX I hg1 hm1 Hg ?_)
 refine PyProof.Rows.callWith_type1 ?_ hs1 hq1
 rw[hs1]
 show wpAny _ _ (spliced ((false,eval (.Call (.Name "reversed" p2) [e] [] pos2) X.env)::backTo pos1 (starEach [] X.env))) _ _ s
 refine Calls.spliced_cons ?_
 refine wpAny_Call_Name_kw (HX I hg2 hm2 WD ?_)
 refine PyProof.Rows.callWith_type1 ?_ hs2 hq2
 rw[hs2]
 show wpAny _ _ (spliced ((false,eval e X.env)::backTo pos2 (starEach [] X.env))) _ _ s
 refine Calls.spliced_cons (thn (he pins s σ H _ I h) fun u s1 ⟨x,H1,I1,r1,a,ys,ex,hq,hy,q⟩=>?_)
 subst ex
 cases r1
 refine Calls.spliced_nil ?_
 obtain⟨its,r,pl,hz⟩:=I1.list hq
 have hl:=r.length
 refine call_reversed_list pl.isList ?_
 refine Calls.spliced_nil ?_
 obtain⟨h1,g1,d1,k1,o1⟩:=s1
 have hit:(h1.push (revObj a ((its.toArray.size:Int)-1))).IsRevIter h1.objs.size a ((its.toArray.size:Int)-1-((0:Nat):Int)):=⟨_,Heap.get?_push_size _ rfl,rfl,by show Data.fields _=Data.fields _;rw[show(its.toArray.size:Int)-1-((0:Nat):Int)=(its.toArray.size:Int)-1 by omega]⟩
 have hli:(h1.push (revObj a ((its.toArray.size:Int)-1))).IsList a its.toArray:=pl.isList.push _
 obtain⟨oa,hoa,_⟩:=pl.isList
 have hlt:a<h1.objs.size:=Heap.lt_size hoa
 have hh:X.A.in1.in1.handled=none:=by simp[I.ok.hd hc]
 have ps:(h1.push (revObj a ((its.toArray.size:Int)-1))).objs.size=h1.objs.size+1:=Heap.size_push _ _
 refine AbF (Walks.toS (Walks.listRev hh h1.objs.size a (AjS hlt) its.toArray)) (fun i s x=>x.2.1.typeIs) ⟨Akb _,hit,hli⟩ (fun b hb=>?_) (by simp) (fun s' acc c' mv hM ha=>?_) (by rw[AjZ];omega)
 ·show b<(h1.push (revObj a ((its.toArray.size:Int)-1))).objs.size
  rw[ps]
  rcases List.mem_cons.mp hb with e | e
  ·rw[e];exact Akx _
  ·rw[List.mem_singleton.mp e];exact Aku hlt
 ·have vs:Vals ys.reverse acc.toList:=by
   refine RP _ _ (by rw[AkL,hl];have:=ha.1;simpa using this.symm) fun i x u e1 e2=>?_
   have hi:i<ys.length:=by
    have:=(List.getElem?_eq_some_iff.mp e1).1
    rwa [AkL] at this
   have e3:=ha.2 i u (by rw[← Array.getElem?_toList];exact e2)
   rw[List.getElem?_reverse hi] at e1
   obtain⟨v,hv,rv'⟩:=r.get e1
   rw[AjZ,← hl] at e3
   have e4:its[ys.length-1-i]?=some u:=by simpa using e3
   rw[hv] at e4
   cases e4
   exact rv'
  rw[Moved.eq_with mv]
  have hM':s'.heap.get? (h1.objs.size+1)=some { cls:=.type "list", dict:=none,data:=.seq acc c',slots:=#[] }:=by
   have:=hM
   dsimp only at this
   rw[ps] at this
   exact this
  show EP X pins σ Q (Value.ref (h1.push (revObj a ((its.toArray.size:Int)-1))).objs.size) _
  rw[ps]
  refine⟨.ref (h1.objs.size+1),_,I1.laid (t':=s'.toks) (o:=.lst ys.reverse) (h':=s'.heap) (fun b o e=>?_) (Ak0 _) ?_,rfl,q _ (I1.hok.fresh (Ak0 _))⟩
  ·have hb:=Heap.lt_size e
   refine mv.heap b o ?_ (Heap.get?_push_of_some _ (Heap.get?_push_of_some _ e))
   show b∉[(h1.push (revObj a ((its.toArray.size:Int)-1))).objs.size,h1.objs.size]
   rw[ps]
   have hb2:b<h1.objs.size:=hb
   simp only [Akl,Akm,or_false,not_or]
   exact⟨AjS (Aku hb2),AjS hb2⟩
  ·exact⟨by rw[AkL];exact hz,acc.toList,c',vs,by simpa using hM'⟩
end
open PySem PySem.Spec PyProof.Rows
def AgK (td ty:TE):TE:=fun σ H Q=>td σ H fun x H1=>∃ a,x=.ref a∧IsD H1 a∧ty σ H1 fun y H2=>∃ b kvs more,y=.ref b∧a≠b∧H2 a=some (.dK kvs)∧H2 b=some (.dK more)∧kvs.length+more.length≤sizeLine∧Q .non (upd H2 a (.dK (Fg kvs more)))
section
variable {X:Cx}{o e:Expr}{apos cpos:Pos}{td ty:TE}
theorem Adn(ho:PE X o td)(he:PE X e ty)(m:M1 X o "update" apos e cpos):PE X (.Call (.Attribute o "update" apos) [e] [] cpos) (AgK td ty):=by
 intro pins s σ H Q I h
 refine wpAny_Call_method m.base m.few m.line PySem.F.plainAttrs_dict PySem.F.slot_dict_update PySem.F.type_dict_update (thn (ho pins s σ H _ I h) fun u s1 ⟨x,H1,I1,rx,a,ex,d,q1⟩=>?_)
 subst ex
 obtain rfl:u=Value.ref a:=rx
 obtain⟨t1,t2,_⟩:=Ab7 I1 d
 refine⟨t1,t2,?_⟩
 rw[m.trees]
 refine Calls.callWith_builtin rfl (Calls.evalArgs_plain (Calls.spliced_cons (thn (he pins s1 σ H1 _ I1 q1) fun iv s2 ⟨y,H2,I2,ry,b,kvs,more,ey,hab,e1,e2,hz,q2⟩=>Calls.spliced_nil ?_)))
 subst ey
 obtain rfl:iv=Value.ref b:=ry
 obtain⟨z,hd,vs,rel,dd⟩:=Zy I2.hok e1
 obtain⟨z',hd',vs',Afq,dd'⟩:=Zy I2.hok e2
 refine call_meetsIn PySem.F.slot_dict_update dd.typeIs PySem.F.entry_dict_update (PySem.F.args_dict_update_2 _ _) (meets_dict_update (Dq X.prog X.w) a b hab hd') ⟨vs,vs',dd,dd',by rw[← rel.length,← Afq.length];exact hz,fun h' d1 d2 hs=>?_⟩
 have rm:=KV.merge Afq rel
 have hl:(Fg kvs more).length≤sizeLine:=by
  rw[rm.length]
  refine Akg (merged_length_le vs vs') ?_
  rw[← rel.length,← Afq.length]
  exact hz
 exact⟨.non,_,Ry (t':=s2.toks) I2 (by rw[e1];exact True.intro) hs (let ⟨q,_,_,hq,_⟩:=d1;⟨q,hq⟩) (Y7 hl hd rm d1),rfl,q2⟩
end
open PySem PySem.Spec PyProof.Rows
section
variable {X:Cx}
def Ah9 (K:PySem.W.Frag):V→List V→Hp→VK→Prop:=fun x vs H Q=>∃ a ns k,x=.ref a∧vs=[.int k]∧SqL K H a (vI ns)∧Q (.int (ns.count k:Nat)) H
end
def Ite (K:PySem.W.Frag)(a:Addr):It where
 go:=fun i H=>∃ xs x,SqL K H a xs∧xs[i]?=some x
 yld:=fun i H x H'=>∃ T,x=.ref T∧H T=none∧∀ xs u,SqL K H a xs→xs[i]?=some u→H'=upd H T (.tup [.int (i:Int),u])
 stop:=fun i H=>∃ xs,SqL K H a xs∧xs.length=i
def AjE (e it a:Addr)(i:Nat)(h:Heap):Prop:=(∃ old,IsEnum h e it i old)∧h.IsListIter it a i
section
variable {X:Cx}{es:List Expr}{kx:Nat}{tp:Pos}
def Aje (K:PySem.W.Frag)(ta:TA):TI:=fun σ H R=>ta σ H fun vs H1=>∃ a,vs=[.ref a]∧(∃ xs,SqL K H1 a xs)∧R (Ite K a) H1
end
open PySem PySem.Spec PyProof.Rows
theorem Xh{a b T:Nat}(h:a<b)(hT:b≤T):T≠a:=by omega
abbrev EnX (h:Heap) (e it:Addr) (i:Int) (T0:Addr) (f:Bool) (old:Value):Prop :=
 h.get? e=some { cls:=.type "enumerate", dict:=none,data:=.fields #[rawInt T0,.bool f,.ref it,rawInt i,.none,old],slots:=#[] }
theorem YD:typeLookup (.type "enumerate") "__len__" = pure none:=by rw[typeLookup_type,builtinLookup_eq_fast];kernel_rfl
theorem Xi:typeLookup (.type "enumerate") "__length_hint__" = pure none:=by rw[typeLookup_type,builtinLookup_eq_fast];kernel_rfl
section
variable {prog:Program}{w:World}{A:Around}{E:Value→Shared→Prop}{s:Shared}
theorem Ue{e it T0:Addr}{fp:List Addr}{n i:Nat}{P:Nat→Value→Prop}{St:Nat→Heap→Prop}{f:Bool}{old:Value}{o0:Obj}{Q:Option Value→Shared→Prop}
  (D:Draws prog w A.in1 it fp n P St) (he:EnX s.heap e it i T0 f old) (h0:s.heap.get? T0=some o0) (h0e:T0≠e) (h0i:T0≠it) (hst:St i s.heap) (hlt:i<n) (hne:e≠it) (hef:e∉fp)
  (hQ:∀ x h' tk,P i x→EnX h' e it ((i:Int)+1) T0 true old→St (i+1) h' →
   h'.get? s.heap.objs.size=some { cls:=.type "tuple", data:=.seq #[.int i tk,x] }→h'.objs.size=s.heap.objs.size+1 →
   (∀ b o,b≠e→b≠it→s.heap.get? b=some o→h'.get? b=some o)→Q (some (.ref s.heap.objs.size)) { s with heap:=h',toks:=tk+1 }) :
  wpAny (model prog w) A (pyNext (.ref e)) Q E s:=by
 have hT:s.TypeIs (.ref e) "enumerate" := ⟨_,he,rfl⟩
 unfold pyNext
 refine wpAny_bind (wpAny_attempt (wpAny_callSpecial?_slot (name:=Str.ofString "__next__") hT F.slot_enumerate_next
  (wpAny_call_entry F.slot_enumerate_next hT F.entry_enumerate_next ?_ (F.args_enumerate_next_1 _))))
 clear hT
 obtain⟨hp,g,d,tk₀,os⟩:=s
 show wpAny _ _ (field (.ref e) 2 >>= _) _ _ _
 refine wpAny_bind (wpAny_field he rfl (x:=.ref it) rfl ?_)
 refine wpAny_bind (D.item i _ _ _ hlt hst fun x h₁ tk hPx hit₁ hs₁=>?_)
 replace hs₁:Heap.SameBut it hp h₁:=hs₁
 have he₁:EnX h₁ e it i T0 f old:=(hs₁.2 e hne).trans he
 show wpAny _ _ (field (.ref e) 3 >>= _) _ _ ⟨h₁,g,d,tk,os⟩
 refine wpAny_bind (wpAny_field he₁ rfl (x:=rawInt i) rfl ?_)
 show wpAny _ _ (field (.ref e) 4 >>= _) _ _ ⟨h₁,g,d,tk,os⟩
 refine wpAny_bind (wpAny_field he₁ rfl (x:=.none) rfl ?_)
 show wpAny _ _ (mkInt i >>= _) _ _ ⟨h₁,g,d,tk,os⟩
 refine wpAny_bind (wpAny_mkInt ?_)
 show wpAny _ _ (setField (.ref e) 3 (rawInt ((i:Int)+1)) >>= _) _ _ ⟨h₁,g,d,tk+1,os⟩
 refine wpAny_bind (wpAny_setField_rec he₁ (by simp) fun h₂ he₂ hs₂=>?_)
 replace hs₂:Heap.SameBut e h₁ h₂:=hs₂
 replace he₂:EnX h₂ e it ((i:Int)+1) T0 f old:=he₂
 show wpAny _ _ (setField (.ref e) 4 .none >>= _) _ _ ⟨h₂,g,d,tk+1,os⟩
 refine wpAny_bind (wpAny_setField_rec he₂ (by simp) fun h₃ he₃ hs₃=>?_)
 replace hs₃:Heap.SameBut e h₂ h₃:=hs₃
 replace he₃:EnX h₃ e it ((i:Int)+1) T0 f old:=he₃
 show wpAny _ _ (newTuple [.int i tk,x] >>= _) _ _ ⟨h₃,g,d,tk+1,os⟩
 refine wpAny_bind (wpAny_newTuple ?_)
 have he₄:EnX (h₃.push { cls:=.type "tuple", data:=.seq #[.int i tk,x] }) e it ((i:Int)+1) T0 f old:=Heap.get?_push_of_some _ he₃
 generalize hh₄:h₃.push { cls:=.type "tuple", data:=.seq #[.int i tk,x] }=h₄ at he₄
 have hsz:h₃.objs.size=hp.objs.size:=by rw[hs₃.1,hs₂.1,hs₁.1]
 have hel:e<hp.objs.size:=Heap.lt_size he
 have ht₄:h₄.get? hp.objs.size=some { cls:=.type "tuple", data:=.seq #[.int i tk,x] }:=by rw[← hh₄,← hsz];exact Heap.get?_push_size _ rfl
 have hz₄:h₄.objs.size=hp.objs.size+1:=by rw[← hh₄,Heap.size_push,hsz]
 have hk₄:∀ b o,b≠e→b≠it→hp.get? b=some o→h₄.get? b=some o:=fun b o hbe hbi hb=>by
  rw[← hh₄];exact Heap.get?_push_of_some _ (hs₃.extBut b o hbe (hs₂.extBut b o hbe (hs₁.extBut b o hbi hb)))
 have hit₄:St (i+1) h₄:=D.frame _ _ _ hit₁ fun b hb o y=>by
  have hbe:b≠e:=fun q=>hef (q▸hb)
  rw[← hh₄];exact Heap.get?_push_of_some _ (hs₃.extBut b o hbe (hs₂.extBut b o hbe y))
 have ha₄:h₄.get? T0=some o0:=hk₄ T0 o0 h0e h0i h0
 show wpAny _ _ (Builtin.SmallTypes.ownedTupleIsFree (.ref e) >>= _) _ _ ⟨h₄,g,d,tk+1,os⟩
 rw[hsz]
 clear hh₄ he₃ hs₃ he₂ hs₂ he₁ hs₁ hit₁ hsz h₃ h₂ h₁
 have fin:∀ h₅:Heap,EnX h₅ e it ((i:Int)+1) T0 true old→Heap.SameBut e h₄ h₅→Q (some (.ref hp.objs.size)) ⟨h₅,g,d,tk+1,os⟩:=fun h₅ he₅ hs₅ =>
  hQ x h₅ tk hPx he₅ (D.frame _ _ _ hit₄ fun b hb o y=>hs₅.extBut b o (fun q=>hef (q▸hb)) y) (hs₅.extBut _ _ (Akq hel) ht₄) (by show h₅.objs.size=hp.objs.size+1;rw[hs₅.1,hz₄])
   fun b o hbe hbi hb=>hs₅.extBut b o hbe (hk₄ b o hbe hbi hb)
 refine wpAny_bind ?_
 unfold Builtin.SmallTypes.ownedTupleIsFree
 refine wpAny_bind (wpAny_field he₄ rfl (x:=rawInt T0) rfl ?_)
 show wpAny _ _ (loadIfAlive ((T0:Int).toNat) >>= _) _ _ _
 rw[AjW]
 refine wpAny_bind (PySem.W.kdx_alive ha₄ ?_)
 simp only [Option.isNone_some,AkH,if_false]
 refine wpAny_bind (wpAny_field he₄ rfl (x:=.bool f) rfl ?_)
 cases f with
 | true =>
  rw[if_neg (show ¬((Value.bool true != Value.bool true)=true) from Akd)]
  refine wpAny_pure ?_
  simp only [AkH,if_false]
  exact wpAny_pure ⟨_,rfl,wpAny_pure (fin h₄ he₄ (Heap.SameBut.refl _ _))⟩
 | false =>
  rw[if_pos (show(Value.bool false != Value.bool true)=true from rfl)]
  refine wpAny_bind (wpAny_setField_rec he₄ (by simp) fun h₅ he₅ hs₅=>?_)
  replace hs₅:Heap.SameBut e h₄ h₅:=hs₅
  replace he₅:EnX h₅ e it ((i:Int)+1) T0 true old:=he₅
  refine wpAny_pure ?_
  simp only [AkH,if_false]
  exact wpAny_pure ⟨_,rfl,wpAny_pure (fin h₅ he₅ hs₅)⟩
theorem VG{e it T0:Addr}{fp:List Addr}{n:Nat}{P:Nat→Value→Prop}{St:Nat→Heap→Prop}{i:Int}{f:Bool}{old:Value}{Q:Option Value→Shared→Prop}
  (D:Draws prog w A.in1 it fp n P St) (he:EnX s.heap e it i T0 f old) (hst:St n s.heap)
  (hQ:∀ h',Heap.ExtBut it s.heap h'→Q none { s with heap:=h' }):wpAny (model prog w) A (pyNext (.ref e)) Q E s:=by
 have hT:s.TypeIs (.ref e) "enumerate" := ⟨_,he,rfl⟩
 unfold pyNext
 refine wpAny_bind (wpAny_attempt (wpAny_callSpecial?_slot (name:=Str.ofString "__next__") hT F.slot_enumerate_next
  (wpAny_call_entry F.slot_enumerate_next hT F.entry_enumerate_next ?_ (F.args_enumerate_next_1 _))))
 show wpAny _ _ (field (.ref e) 2 >>= _) _ _ _
 refine wpAny_bind (wpAny_field he rfl (x:=.ref it) rfl ?_)
 refine wpAny_bind (D.done _ _ _ hst fun h' x he' hx'=>?_)
 obtain⟨o,ho,hc⟩:=hx'
 refine wpAny_bind (wpAny_isInstance (T := "StopIteration") (b:=true) ⟨o,ho,hc⟩ isSubtype_stop ?_)
 exact wpAny_pure (hQ _ he')
structure EL (P:Nat→Value→Prop) (St:Nat→Heap→Prop) (e it M B:Addr) (s0:Shared) (i:Nat) (Ts:List Addr) (s:Shared):Prop where
 st:St i s.heap
 en:(i=0∧IsEnum s.heap e it 0 .none)∨∃ T0 f old,EnX s.heap e it i T0 f old∧Ts[0]?=some T0
 acc:∃ c,s.heap.get? M=some { cls:=.type "list", dict:=none,data:=.seq (Ts.map Value.ref).toArray c,slots:=#[] }
 len:Ts.length=i
 tup:∀(j:Nat) (T:Addr),Ts[j]?=some T→B≤T∧T<s.heap.objs.size∧∃ t x,P j x∧s.heap.get? T=some { cls:=.type "tuple", data:=.seq #[.int (j:Int) t,x] }
 nd:Ts.Nodup
 big:B≤s.heap.objs.size
 old:∀ b o,b≠e→b≠it→b≠M→s0.heap.get? b=some o→s.heap.get? b=some o
 rest:∃ h tk,s={ s0 with heap:=h,toks:=tk }
theorem Aaz{e it M B:Addr}{fp:List Addr}{n:Nat}{P:Nat→Value→Prop}{St:Nat→Heap→Prop}{s0:Shared}{R:Result→Shared→Prop}{res:Value}
    (D:Draws prog w A.in1.in1 it fp n P St) (hn:n≤sizeLine) (hne:e≠it) (hef:e∉fp) (hMf:M∉fp) (hMe:M≠e) (hMi:M≠it) (be:e<B) (bi:it<B) (bM:M<B)
 :
    ∀(k i:Nat) (s:Shared) (Ts:List Addr),n-i=k→i≤n→EL P St e it M B s0 i Ts s →
    (∀ Ts s h',EL P St e it M B s0 n Ts s→Heap.ExtBut it s.heap h'→R (.ok (.ret res)) { s with heap:=h' }) →
    codeAny (model prog w) A (.builtin "list.extend.loop" ⟨[.ref M,.ref e,res],[]⟩) R s:=by
  intro k
  induction k with
  | zero =>
    intro i s Ts hk hi L hR
    have hin:i=n:=by omega
    subst hin
    refine codeAny_builtin F.entry_extend_loop ?_
    rw[Around.under_plainId F.plain_extend_loop _]
    show wpAny _ A.in1 (pyNext (.ref e) >>= _) _ _ s
    refine wpAny_bind ?_
    rcases L.en with ⟨h0,en⟩ | ⟨T0,f,old,en,_⟩
    · exact wpAny_pyNext_enum_endD D en L.st fun h' he=>wpAny_pure (hR Ts s h' L he)
    · exact VG D en L.st fun h' he=>wpAny_pure (hR Ts s h' L he)
  | succ k ih =>
    intro i s Ts hk hi L hR
    have hlt:i<n:=by omega
    refine codeAny_builtin F.entry_extend_loop ?_
    rw[Around.under_plainId F.plain_extend_loop _]
    show wpAny _ A.in1 (pyNext (.ref e) >>= _) _ _ s
    obtain⟨c,hM⟩:=L.acc
    have step:∀ x h' tk T0 f old,P i x→EnX h' e it ((i:Int)+1) T0 f old→(Ts++[s.heap.objs.size])[0]?=some T0→St (i+1) h' →
        h'.get? s.heap.objs.size=some { cls:=.type "tuple", data:=.seq #[.int i tk,x] }→h'.objs.size=s.heap.objs.size+1 →
        (∀ b o,b≠e→b≠it→s.heap.get? b=some o→h'.get? b=some o) →
        wpAny (model prog w) A.in1 (updateSeq M (·.push (.ref s.heap.objs.size)) >>= fun _=>again (.builtin "list.extend.loop" ⟨[.ref M,.ref e,res],[]⟩))
          (fun f s'=>match f with | .done d=>R (.ok d) s' | .again k=>k.quiet=true∧codeAny (model prog w) A k R s') (fun e s'=>R (.error e) s') { s with heap:=h',toks:=tk+1 }:=by
      intro x h' tk T0 f old hP en hT0 st hT hsz kk
      have hM':h'.get? M=some { cls:=.type "list", dict:=none,data:=.seq (Ts.map Value.ref).toArray c,slots:=#[] }:=kk M _ hMe hMi hM
      refine wpAny_bind ?_
      refine wpAny_updateSeq hM' rfl (wpAny_pure ⟨plainId_quiet F.plain_extend_loop _,ih (i+1) _ (Ts++[s.heap.objs.size]) (by omega) hlt ?_ hR⟩) ?_ ?_
      · have oth:∀ b o,b≠M→h'.get? b=some o→(h'.update M (Obj.mapSeq (·.push (.ref s.heap.objs.size)))).get? b=some o:=fun b o hb y=>(Heap.get?_update_other _ _ (Ne.symm hb)).trans y
        have TM:∀ T,B≤T→T≠M∧T≠e∧T≠it:=fun T h=>⟨Xh bM h,Xh be h,Xh bi h⟩
        have bs:B≤s.heap.objs.size:=L.big
        have hMU:=Heap.get?_update_self (Obj.mapSeq (·.push (.ref s.heap.objs.size))) hM' rfl
        refine⟨D.frame _ _ _ st fun b hb o y=>oth b o (fun z=>hMf (z▸hb)) y,.inr ⟨T0,f,old,?_,hT0⟩,⟨c+1,hMU.trans ?_⟩,by rw[AjR,L.len];rfl,fun j T hj=>?_,?_,?_,fun b o b1 b2 b3 y=>oth b o b3 (kk b o b1 b2 (L.old b o b1 b2 b3 y)),?_⟩
        · have:=oth e _ (Ne.symm hMe) en
          rw[show((i+1:Nat):Int)=(i:Int)+1 by omega]
          exact this
        · show some _=some _
          congr 1
          simp[Obj.mapSeq]
        · have szU:(h'.update M (Obj.mapSeq (·.push (.ref s.heap.objs.size)))).objs.size=s.heap.objs.size+1:=by rw[Heap.size_update,hsz]
          by_cases hji:j<Ts.length
          · rw[Aki hji] at hj
            obtain⟨b1,b2,t,x',q1,q2⟩:=L.tup j T hj
            obtain⟨n1,n2,n3⟩:=TM T b1
            exact⟨b1,by show T<(h'.update M _).objs.size;rw[szU];exact Aku b2,t,x',q1,oth T _ n1 (kk T _ n2 n3 q2)⟩
          · have hj2:=(List.getElem?_eq_some_iff.mp hj).1
            rw[AjR,Akt] at hj2
            have ej:j=Ts.length:=by omega
            rw[ej,Akr (AjQ _),Ak4] at hj
            cases hj
            obtain⟨n1,n2,n3⟩:=TM s.heap.objs.size bs
            refine⟨bs,by show s.heap.objs.size<(h'.update M _).objs.size;rw[szU];omega,tk,x,by rw[ej,L.len];exact hP,?_⟩
            rw[ej,L.len]
            exact oth _ _ n1 hT
        · refine List.nodup_append.mpr ⟨L.nd,by simp,fun a ha b hb=>?_⟩
          rw[List.mem_singleton.mp hb]
          obtain⟨j,hj⟩:=AkM ha
          exact AjS (L.tup j a hj).2.1
        · show B≤(h'.update M _).objs.size
          rw[Heap.size_update,hsz];exact Nat.le_succ_of_le bs
        · obtain⟨h,tk',e⟩:=L.rest
          exact⟨_,_,by rw[e]⟩
      · rw[AjZ,AjP,L.len];omega
      · show((Ts.map Value.ref).toArray.push _).size≤sizeLine+1
        rw[Array.size_push,AjZ,AjP,L.len];omega
    refine wpAny_bind ?_
    rcases L.en with ⟨h0,en⟩ | ⟨T0,f,old,en,ht⟩
    · subst h0
      have e0:Ts=[]:=List.length_eq_zero_iff.mp L.len
      refine wpAny_pyNext_enum_itemD (i:=0) D en L.st hlt hne hef fun x h' tk hP ho hst hT hsz kk=>?_
      exact step x h' tk _ false x hP ho (by rw[e0];rfl) hst hT hsz kk
    · obtain⟨b1,b2,t,x0,q1,q2⟩:=L.tup 0 T0 ht
      refine Ue D en q2 (Xh be b1) (Xh bi b1) L.st hlt hne hef fun x h' tk hP ho hst hT hsz kk=>?_
      exact step x h' tk T0 true old hP ho (by rw[Aki (List.getElem?_eq_some_iff.mp ht).1];exact ht) hst hT hsz kk
end
section
variable {prog:Program}{w:World}{A:Around}{E:Value→Shared→Prop}{s:Shared}{R:Result→Shared→Prop}
theorem Aa0{e it M B:Addr}{fp:List Addr}{n:Nat}{P:Nat→Value→Prop}{St:Nat→Heap→Prop}
  (D:Draws prog w A.in1.in1 it fp n P St) (hn:n≤sizeLine) (hne:e≠it) (hef:e∉fp) (hMf:M∉fp) (hMe:M≠e) (hMi:M≠it) (be:e<B) (bi:it<B) (bM:M<B) (hB:B≤s.heap.objs.size)
  (st0:St 0 s.heap) (en:IsEnum s.heap e it 0 .none) (hM:s.heap.get? M=some { cls:=.type "list", data:=.seq #[] })
  (fin:∀ Ts s' h',EL P St e it M B s n Ts s'→Heap.ExtBut it s'.heap h'→R (.ok (.ret .none)) { s' with heap:=h' }) :
  wpAny (model prog w) A.in1 (Builtin.«list.__init__» ⟨[.ref M,.ref e],[]⟩)
   (fun f s'=>match f with | .done d=>R (.ok d) s' | .again k=>k.quiet=true∧codeAny (model prog w) A k R s') (fun e s'=>R (.error e) s') s:=by
 show wpAny _ A.in1 (do let old ← Builtin.List.listItems (.ref M);Builtin.List.listUpdate (.ref M) (fun _=>#[]);letGo old.toList.reverse;Builtin.List.listExtendWith (.ref M) (.ref e) .none) _ _ s
 refine wpAny_bind ?_;unfold Builtin.List.listItems
 refine wpAny_bind (wpAny_seqItems hM rfl (wpAny_pure ?_))
 show wpAny _ A.in1 (updateSeq M (fun _=>#[]) >>= fun _=>letGo (#[]:Array Value).toList.reverse >>= fun _=>Builtin.List.listExtendWith (.ref M) (.ref e) .none) _ _ s
 refine wpAny_bind (wpAny_updateSeq hM rfl ?_)
 have hM2:=Heap.get?_update_self (Obj.mapSeq (fun _=>(#[]:Array Value))) hM rfl
 have off:∀ b o,b≠M→s.heap.get? b=some o→(s.heap.update M (Obj.mapSeq (fun _=>(#[]:Array Value)))).get? b=some o:=fun b o nb e=>(Heap.get?_update_other _ _ (Ne.symm nb)).trans e
 refine wpAny_bind (wpAny_letGo ?_)
 have q1:Builtin.List.listSameRef (.ref M) (.ref e)=false:=by simp[Builtin.List.listSameRef,hMe]
 have en2:IsEnum (s.heap.update M (Obj.mapSeq (fun _=>(#[]:Array Value)))) e it 0 .none:=off _ _ (Ne.symm hMe) en
 generalize hh2:s.heap.update M (Obj.mapSeq (fun _=>(#[]:Array Value)))=h2 at hM2 off en2 ⊢
 have sz2:h2.objs.size=s.heap.objs.size:=by rw[← hh2,Heap.size_update]
 have ty:Shared.TypeIs { s with heap:=h2 } (.ref e) "enumerate" := ⟨_,en2,rfl⟩
 unfold Builtin.List.listExtendWith
 refine wpAny_bind (wpAny_typeOf ty ?_)
 rw[if_neg (by rw[q1];decide)]
 refine wpAny_bind (wpAny_pyIter_enum en2 ?_)
 refine wpAny_bind (wpAny_holding ?_)
 unfold Builtin.List.listLengthHint
 refine wpAny_bind (wpAny_specialOf ty YD ?_)
 show wpAny _ A.in1 (specialOf (Value.ref e) (Str.ofString "__length_hint__") >>= _) _ _ _
 refine wpAny_bind (wpAny_specialOf ty Xi ?_)
 refine wpAny_pure ?_
 show wpAny _ A.in1 (rule "list.extend.makes-room" >>= fun _=>Builtin.List.listTouch (.ref M) >>= fun _ =>
  again (.builtin "list.extend.loop" ⟨[.ref M,.ref e,.none],[]⟩)) _ _ _
 refine wpAny_bind (wpAny_rule ?_)
 refine wpAny_bind ?_
 show wpAny _ A.in1 (updateSeq M (·.push .none) >>= fun _=>updateSeq M (·.pop)) _ _ _
 refine wpAny_bind (wpAny_updateSeq hM2 rfl ?_)
 have hM3:=Heap.get?_update_self (Obj.mapSeq (·.push Value.none)) hM2 rfl
 refine wpAny_updateSeq hM3 rfl ?_
 have hM4:=Heap.get?_update_self (Obj.mapSeq (·.pop)) hM3 rfl
 have oth:∀ b o,b≠M→h2.get? b=some o→((h2.update M (Obj.mapSeq (·.push Value.none))).update M (Obj.mapSeq (·.pop))).get? b=some o :=
  fun b o hb e=>(Heap.get?_update_other _ _ (Ne.symm hb)).trans ((Heap.get?_update_other _ _ (Ne.symm hb)).trans e)
 refine wpAny_pure ⟨plainId_quiet F.plain_extend_loop _,Aaz (s0:=s) D hn hne hef hMf hMe hMi be bi bM n 0 _ [] rfl (Akb _) ?_ fin⟩
 refine⟨D.frame _ _ _ st0 fun b hb o y=>?_,.inl ⟨rfl,oth _ _ (Ne.symm hMe) en2⟩,⟨_,hM4⟩,rfl,fun j T h=>by simp at h,List.Pairwise.nil,?_,fun b o b1 b2 b3 y=>oth b o b3 (off b o b3 y),⟨_,_,rfl⟩⟩
 ·have:b≠M:=fun z=>hMf (z▸hb)
  exact oth b o this (off b o this y)
 ·show B≤((h2.update M _).update M _).objs.size
  rw[Heap.size_update,Heap.size_update,sz2]
  exact hB
theorem Aa1{Q:Value→Shared→Prop}{e it:Addr}{fp:List Addr}{n:Nat}{P:Nat→Value→Prop}{St:Nat→Heap→Prop}
  (D:Draws prog w A.in1.in1.in1 it fp n P St) (hn:n≤sizeLine) (hne:e≠it) (hef:e∉fp) (below:∀ b∈fp,b<s.heap.objs.size) (be:e<s.heap.objs.size) (bi:it<s.heap.objs.size)
  (st0:St 0 s.heap) (en:IsEnum s.heap e it 0 .none)
  (fin:∀ Ts s' h',EL P St e it s.heap.objs.size (s.heap.objs.size+1) { s with heap:=s.heap.push { cls:=.type "list", data:=.seq #[] } } n Ts s'→Heap.ExtBut it s'.heap h'→Q (.ref s.heap.objs.size) { s' with heap:=h' }) :
  wpAny (model prog w) A (call (.type "list") [.ref e]) Q E s:=by
 have nf:s.heap.objs.size∉fp:=fun z=>Akn _ (below _ z)
 refine callType_codes (Q₁:=fun ob s1=>ob=.ref s.heap.objs.size∧s1={ s with heap:=s.heap.push { cls:=.type "list", data:=.seq #[] } }) F.called_list (F.typeCall_list_1 _) F.entry_list_init (code_list_new _ ⟨rfl,rfl⟩) fun ob s1 h1=>?_
 obtain⟨rfl,rfl⟩:=h1
 have hM:(s.heap.push { cls:=.type "list", data:=.seq #[] }).get? s.heap.objs.size=some { cls:=.type "list", data:=.seq #[] }:=Heap.get?_push_size _ rfl
 refine⟨⟨_,hM,rfl⟩,F.args_list_init_2 _ _,Aa0 (M:=s.heap.objs.size) (B:=s.heap.objs.size+1) D hn hne hef nf (Akq be) (Akq bi) (Aku be) (Aku bi) (Akx _) (by show _≤(s.heap.push _).objs.size;rw[Heap.size_push];exact AjQ _)
  (D.frame _ _ _ st0 fun b _ o y=>Heap.get?_push_of_some _ y) (Heap.get?_push_of_some _ en) hM (fun Ts s' h' L he=>⟨rfl,fin Ts s' h' L he⟩)⟩
end
theorem YF{P:Program}{w:World}{fs ex:List Addr}{H:Hp}{h h':Heap}{g:Nat→V}:∀(Ts:List Addr),Ts.Nodup→(∀ T∈Ts,h.objs.size≤T)→(∀ b o,h.get? b=some o→h'.get? b=some o)→HOk P w H h→HOk P w H h' →
  (∀(j:Nat) (T:Addr),Ts[j]?=some T→∃ us,Vals [.int (j:Int),g j] us∧h'.IsTuple T us.toArray) →
  ∃ H',Av H H'∧Un fs ex H H' h h'∧HOk P w H' h'∧(∀(j:Nat) (T:Addr),Ts[j]?=some T→H' T=some (.tup [.int (j:Int),g j]))∧∀ b,b∉Ts→H' b=H b:=by
 intro Ts nd big keep ok0 ok tup
 have key:∀ k,k≤Ts.length→∃ H',Av H H'∧Un fs ex H H' h h'∧HOk P w H' h'∧(∀(j:Nat) (T:Addr),j<k→Ts[j]?=some T→H' T=some (.tup [.int (j:Int),g j]))∧∀ b,b∉Ts.take k→H' b=H b:=by
  intro k
  induction k with
  | zero=>intro _;exact⟨H,.refl _,Un.kept keep,ok,fun j T h=>by omega,fun b _=>rfl⟩
  | succ k ih =>
   intro hk
   obtain⟨H1,s1,u1,o1,t1,n1⟩:=ih (by omega)
   have hg:Ts[k]?=some Ts[k]:=AjO (by omega)
   have hb:=big _ (AjU (show k<Ts.length by omega))
   have nk:Ts[k]∉Ts.take k:=fun z=>by
    obtain⟨i,hi,e⟩:=Aky z
    rw[Akf] at hi
    rw[List.getElem_take] at e
    have:=(List.pairwise_iff_getElem.mp nd) i k (by omega) (by omega) (by omega)
    exact this e
   have hn:H1 Ts[k]=none:=by rw[n1 _ nk];exact ok0.fresh hb
   obtain⟨us,vs,it⟩:=tup k _ hg
   refine⟨upd H1 Ts[k] (.tup [.int (k:Int),g k]),s1.new hn,u1.track hb hn,o1.track hn ⟨by show 2≤sizeLine;decide,us,vs,it⟩,fun j T hj e=>?_,fun b hb=>?_⟩
   ·by_cases hjk:j=k
    ·subst hjk
     rw[hg] at e
     cases e
     exact Af
    ·have q:=t1 j T (by omega) e
     rw[Aq (BP q hn)]
     exact q
   ·rw[Akp,hg] at hb
    have h1:b∉Ts.take k:=fun z=>hb (AkB _ z)
    have h2:b≠Ts[k]:=fun z=>hb (Ako _ (by rw[z];simp))
    rw[Aq h2,n1 b h1]
 obtain⟨H',s,u,o,t,n⟩:=key Ts.length (AjQ _)
 refine⟨H',s,u,o,fun j T e=>t j T (List.getElem?_eq_some_iff.mp e).1 e,fun b hb=>n b ?_⟩
 rw[Ak2]
 exact hb
theorem Sw:∀ l:List Addr,Vals (l.map V.ref) (l.map Value.ref)
 | []=>.nil
 | a::l=>.cons rfl (Sw l)
section
variable {X:Cx}{p1 p2 pos1 pos2:Pos}{e:Expr}{te:TE}
def Aa2 (te:TE):TE:=fun σ H Q=>te σ H fun x H1=>∃ z:Str,x=.str z∧z.cps.size≤1000∧∀(l:Addr) (Ts:List Addr) (H':Hp),Av H1 H'→H1 l=none→H' l=some (.lst (Ts.map V.ref))→Ts.length=z.cps.size →
 (∀(j:Nat) (T:Addr) (c:Nat),Ts[j]?=some T→z.cps[j]?=some c→H' T=some (.tup [.int (j:Int),.str ⟨#[c]⟩]))→Q (.ref l) H'
theorem Xj(hg1:Gl X "list") (hm1:X.mg "list" = none) (hg2:Gl X "enumerate") (hm2:X.mg "enumerate" = none) (he:PE X e te) (hc:X.calm=true:=by rfl)
  (hs2:starEach [e] X.env=(false,eval e X.env)::starEach [] X.env:=by rfl)
  (hs1:starEach [.Call (.Name "enumerate" p2) [e] [] pos2] X.env=(false,eval (.Call (.Name "enumerate" p2) [e] [] pos2) X.env)::starEach [] X.env:=by rfl)
  (hq1:(backTo pos1 (starEach [] X.env)).any (·.1)=false:=by rfl) (hq2:(backTo pos2 (starEach [] X.env)).any (·.1)=false:=by rfl) :
  PE X (.Call (.Name "list" p1) [.Call (.Name "enumerate" p2) [e] [] pos2] [] pos1) (Aa2 te):=by
 intro pins s σ H Q I h
 have hsz:sizeLine=16777216:=sizeLine_eq
 refine wpAny_Call_Name_kw (HX I hg1 hm1 Hg ?_)
 refine PyProof.Rows.callWith_type1 ?_ hs1 hq1
 rw[hs1]
 show wpAny _ _ (spliced ((false,eval (.Call (.Name "enumerate" p2) [e] [] pos2) X.env)::backTo pos1 (starEach [] X.env))) _ _ s
 refine Calls.spliced_cons ?_
 refine wpAny_Call_Name_kw (HX I hg2 hm2 V0 ?_)
 refine PyProof.Rows.callWith_type1 ?_ hs2 hq2
 rw[hs2]
 show wpAny _ _ (spliced ((false,eval e X.env)::backTo pos2 (starEach [] X.env))) _ _ s
 refine Calls.spliced_cons (thn (he pins s σ H _ I h) fun u s1 ⟨x,H1,I1,r1,z,ex,hz,q⟩=>?_)
 subst ex
 obtain⟨t,rfl⟩:=r1
 refine Calls.spliced_nil ?_
 refine call_enumerate_str fun h1 en hit hsz1 kk=>?_
 refine Calls.spliced_nil ?_
 have hh:X.A.in1.in1.in1.handled=none:=by simp[I.ok.hd hc]
 have D:=Xa (prog:=X.prog) (w:=X.w) hh s1.heap.objs.size z t
 refine Aa1 (s:={ s1 with heap:=h1 }) D (by omega) (Nat.succ_ne_self _) (by simp) (fun b hb=>?_) (by show _<h1.objs.size;omega) (by show _<h1.objs.size;omega) hit en fun Ts s' h' L ext=>?_
 ·rw[List.mem_singleton.mp hb];show _<h1.objs.size;omega
 have L1:h1.objs.size=s1.heap.objs.size+2:=hsz1
 have old:∀ b o,s1.heap.get? b=some o→h'.get? b=some o:=fun b o y=>by
  have hb:b<s1.heap.objs.size:=Heap.lt_size y
  have y1:=kk b o y
  have b1:b<h1.objs.size:=Heap.lt_size y1
  exact ext b o (AjS hb) (L.old b o (AjS (Aku hb)) (AjS hb) (AjS b1) (Heap.get?_push_of_some _ y1))
 obtain⟨c,hM⟩:=L.acc
 have hM:s'.heap.get? h1.objs.size=some { cls:=.type "list", dict:=none,data:=.seq (Ts.map Value.ref).toArray c,slots:=#[] }:=hM
 have hM':=ext _ _ (show h1.objs.size≠s1.heap.objs.size by omega) hM
 have tl:∀ T∈Ts,h1.objs.size<T:=fun T hT=>by
  obtain⟨j,hj⟩:=AkM hT
  have:=(L.tup j T hj).1
  have e:h1.objs.size+1≤T:=this
  omega
 have sgn:∀(j:Nat) (T:Addr),Ts[j]?=some T→∃ us,Vals [.int (j:Int),.str ⟨#[z.cps.getD j 0]⟩] us∧h'.IsTuple T us.toArray:=fun j T hj=>by
  obtain⟨_,_,tk,x,⟨c,u,hcz,rfl⟩,ht⟩:=L.tup j T hj
  have nT:=tl T (AjT hj)
  refine⟨[.int (j:Int) tk,.str ⟨#[c]⟩ u],.cons ⟨tk,rfl⟩ (.cons ⟨u,?_⟩ .nil),⟨_,ext T _ (Akq (AkW (by show s1.heap.objs.size<h1.objs.size;omega) nT)) ht,rfl,_,rfl⟩⟩
  rw[show z.cps.getD j 0=c by rw[Array.getD_eq_getD_getElem?,hcz];rfl]
 obtain⟨H',sm,un,ok,tt,nn⟩:=YF (P:=X.prog) (w:=X.w) (fs:=X.fs) (ex:=[]) (H:=H1) (h:=s1.heap) (h':=h') (g:=fun j=>.str ⟨#[z.cps.getD j 0]⟩) Ts L.nd (fun T hT=>by have:=tl T hT;omega) old I1.hok (I1.hok.kept old) sgn
 have hMn:h1.objs.size∉Ts:=fun z=>Akn _ (tl _ z)
 have hn:H' h1.objs.size=none:=by rw[nn _ hMn];exact I1.hok.fresh (by omega)
 have vs:Vals (Ts.map V.ref) (Ts.map Value.ref):=Sw Ts
 have ts:(Ts.map V.ref).length≤sizeLine:=by rw[AjP,L.len];omega
 obtain⟨hx,tkx,es⟩:=L.rest
 rw[es]
 refine⟨.ref h1.objs.size,upd H' h1.objs.size (.lst (Ts.map V.ref)),I1.un (t':=tkx) (un.track (by omega) hn) (ok.track hn ⟨ts,_,c,vs,hM'⟩),rfl,?_⟩
 refine q h1.objs.size Ts _ (sm.new hn) (I1.hok.fresh (by omega)) Af L.len fun j T c hj hc=>?_
 have:=tt j T hj
 rw[Aq (BP this hn),this]
 rw[show z.cps.getD j 0=c by rw[Array.getD_eq_getD_getElem?,hc];rfl]
end
open PySem PySem.Spec PyProof.Rows
namespace SetW
theorem Sx:Slot "set_iterator" "__next__" "set_iterator.__next__" := .of (owner := "set_iterator") (n := "__next__") (by rw[typeLookup_type,builtinLookup_eq_fast];kernel_rfl) (by decide +kernel) (by decide +kernel) (by decide +kernel) (by first | exact .inl (by decide +kernel) | exact .inr (by decide +kernel)) (by rw[isSubtype_type];kernel_rfl)
theorem Aes:Slot "set_iterator" "__iter__" "set_iterator.__iter__" := .of (owner := "set_iterator") (n := "__iter__") (by rw[typeLookup_type,builtinLookup_eq_fast];kernel_rfl) (by decide +kernel) (by decide +kernel) (by decide +kernel) (by first | exact .inl (by decide +kernel) | exact .inr (by decide +kernel)) (by rw[isSubtype_type];kernel_rfl)
theorem Aet:entryFor table "set_iterator.__next__" = some Builtin.«set_iterator.__next__»:=entryFor_of_fast (by kernel_rfl)
theorem AgL:entryFor table "set_iterator.__iter__" = some Builtin.«dict_keyiterator.__iter__»:=entryFor_alias (id' := "dict_keyiterator.__iter__") (by kernel_rfl) rfl (by decide +kernel) (by kernel_rfl)
theorem AgM:entryFor table "set.__iter__" = some Builtin.«frozenset.__iter__»:=entryFor_alias (id' := "frozenset.__iter__") (by kernel_rfl) rfl (by decide +kernel) (by kernel_rfl)
theorem Aeu(a:Value):argsOk "set_iterator.__next__" ⟨[a],[]⟩:=by unfold argsOk;kernel_rfl
theorem AgN(a:Value):argsOk "set_iterator.__iter__" ⟨[a],[]⟩:=by unfold argsOk;kernel_rfl
theorem Afr:typeLookup (.type "set") "__len__" = pure (some (.builtin "set.__len__")):=by rw[typeLookup_type,builtinLookup_eq_fast];kernel_rfl
end SetW
open PySem PySem.Spec PyProof.Rows
namespace SetW
theorem Z2{α:Type}(next:Nat→Nat):∀(fuel k:Nat) (left:List α) (out:Array α),left.length≤fuel→(pickOrder.go next fuel k left out).toList.Perm (out.toList++left)
 | 0,k,left,out,h=>by
  have:left=[]:=List.length_eq_zero_iff.mp (by omega)
  subst this
  simp[pickOrder.go]
 | fuel+1,k,left,out,h=>by
  unfold pickOrder.go
  by_cases e:left=[]
  ·subst e
   simp
  ·have l0:0<left.length:=List.length_pos_iff.mpr e
   have l1:next k%left.length<left.length:=AkN _ l0
   rw[AjO l1]
   dsimp only
   refine(Z2 next fuel (k+1) _ _ (by rw[Alj,if_pos l1];omega)).trans ?_
   rw[Array.toList_push,AkK]
   refine List.Perm.append_left _ ?_
   rw[Als]
   have e2:left=left.take (next k%left.length)++left[next k%left.length]::left.drop (next k%left.length+1):=by
    rw[List.getElem_cons_drop,List.take_append_drop]
   exact(List.perm_middle (a:=left[next k%left.length]) (l₁:=left.take (next k%left.length)) (l₂:=left.drop (next k%left.length+1))).symm.trans (.of_eq e2.symm)
theorem Aa3{α:Type}(next:Nat→Nat)(xs:Array α):(pickOrder next xs).toList.Perm xs.toList:=by
 have:=Z2 next xs.size 0 xs.toList #[] (by simp)
 simpa [pickOrder] using this
def Qm (xs:Array Nat):Prop:=∀ i k,i<k→k<xs.size→xs.getD i 0<xs.getD k 0
theorem Sy(xs:Array Nat)(j:Nat)(hR:Qm xs):∀(fuel lo hi:Nat),lo≤hi→hi≤xs.size→hi-lo≤fuel→(∀ i,i<lo→xs.getD i 0<j)→(∀ i,hi≤i→i<xs.size→j≤xs.getD i 0) →
  SetTable.below.go xs j fuel lo hi≤xs.size∧(∀ i,i<SetTable.below.go xs j fuel lo hi→xs.getD i 0<j)∧(∀ i,SetTable.below.go xs j fuel lo hi≤i→i<xs.size→j≤xs.getD i 0)
 | 0,lo,hi,h1,h2,h3,h4,h5=>by
  have:lo=hi:=by omega
  subst this
  unfold SetTable.below.go
  exact⟨h2,h4,h5⟩
 | fuel+1,lo,hi,h1,h2,h3,h4,h5=>by
  unfold SetTable.below.go
  by_cases c:lo<hi
  ·rw[if_pos c]
   have hm:(lo+hi) / 2<xs.size:=by omega
   have e:xs.getD ((lo+hi) / 2) j=xs.getD ((lo+hi) / 2) 0:=by simp[Array.getD,hm]
   dsimp only
   by_cases c2:xs.getD ((lo+hi) / 2) j<j
   ·rw[if_pos c2]
    refine Sy xs j hR fuel _ hi (by omega) h2 (by omega) (fun i hi'=>?_) h5
    rw[e] at c2
    by_cases c3:i=(lo+hi) / 2
    ·rw[c3];exact c2
    ·have:=hR i ((lo+hi) / 2) (by omega) hm
     omega
   ·rw[if_neg c2]
    refine Sy xs j hR fuel lo _ (by omega) (by omega) (by omega) h4 (fun i hi' hs=>?_)
    rw[e] at c2
    by_cases c3:i=(lo+hi) / 2
    ·rw[c3];omega
    ·have:=hR ((lo+hi) / 2) i (by omega) hs
     omega
  ·rw[if_neg c]
   have:lo=hi:=by omega
   subst this
   exact⟨h2,h4,h5⟩
theorem S5{xs:Array Nat}(hR:Qm xs)(j:Nat):SetTable.below xs j≤xs.size∧(∀ i,i<SetTable.below xs j→xs.getD i 0<j)∧(∀ i,SetTable.below xs j≤i→i<xs.size→j≤xs.getD i 0) :=
 Sy xs j hR xs.size 0 xs.size (Akb _) (AjQ _) (by omega) (fun i h=>by omega) (fun i h1 h2=>by omega)
theorem YG{xs:Array Nat}(hR:Qm xs):SetTable.below xs 0=0:=by
 obtain⟨h1,h2,h3⟩:=S5 hR 0
 by_cases c:SetTable.below xs 0=0
 ·exact c
 ·have:=h2 0 (by omega);omega
theorem YH{xs:Array Nat}(hR:Qm xs){i:Nat}(hi:i<xs.size):SetTable.below xs (xs.getD i 0+1)=i+1:=by
 obtain⟨h1,h2,h3⟩:=S5 hR (xs.getD i 0+1)
 rcases Nat.lt_trichotomy (SetTable.below xs (xs.getD i 0+1)) (i+1) with c | c | c
 ·have:=h3 i (by omega) hi;omega
 ·exact c
 ·have a:=h2 (i+1) c
  have:=hR i (i+1) (by omega) (by omega)
  omega
structure Wk (w:World) (o:Obj) (es:Array (Int × Value)) (ep:Nat) (t:SetTable):Prop where
 ex:o.ExactSet
 d:o.data=.set es ep t
 f:t.fits es.size=true
 ok:w.params.followText "set-order" = true∨es.size=0∨(t.led=true∧(t.plain=true→Qm t.place))
theorem Wk.rise{w:World}{o:Obj}{es:Array (Int × Value)}{ep:Nat}{t:SetTable}(W:Wk w o es ep t)(hb:w.params.followText "set-order" = false) (hp:t.plain=true∨es.size≤1):Qm t.place:=by
 have hf:t.place.size=es.size:=by
  have:=W.f
  unfold SetTable.fits at this
  simp at this
  exact this.1
 rcases W.ok with e | e | ⟨_,e⟩
 ·rw[hb] at e;cases e
 ·intro i k h1 h2;omega
 ·rcases hp with hp | hp
  ·exact e hp
  ·intro i k h1 h2;omega
def Md (w:World)(a:Addr)(es:Array (Int × Value))(ep:Nat)(t:SetTable)(h:Heap)(T:Addr)(xl:List (Int × Value))(i:Nat)(f:Value):Prop :=
 (∃ slot:Nat,f=.int slot 0∧((w.params.followText "set-order" = true∧xl=(pickOrder (w.params.setOrder a ep) es).toList)∨(w.params.followText "set-order" = false∧(t.plain=true∨es.size≤1)∧xl=es.toList∧SetTable.below t.place slot=i))) ∨
 (∃ pm:List Nat,f=.ref T∧h.get? T=some (seqObj "tuple" (pm.map fun k:Nat=>rawInt (k:Int)).toArray 0)∧pm.Perm (List.range es.size)∧xl=pm.map fun k=>es.toList.getD k (0,.none))
theorem Md.perm{w:World}{a T:Addr}{es:Array (Int × Value)}{ep i:Nat}{t:SetTable}{h:Heap}{xl:List (Int × Value)}{f:Value}(m:Md w a es ep t h T xl i f):xl.Perm es.toList:=by
 rcases m with ⟨_,_,⟨_,e⟩ | ⟨_,_,e,_⟩⟩ | ⟨pm,_,_,hp,e⟩
 ·rw[e];exact Aa3 _ _
 ·rw[e]
 ·rw[e]
  refine(hp.map _).trans (.of_eq ?_)
  refine Alk fun k=>?_
  rw[Aka]
  by_cases c:k<es.size
  ·rw[Ak9 c]
   simp[List.getD,c]
  ·rw[Akz (by simp;omega),Akz (by simp;omega)]
   rfl
theorem Md.len{w:World}{a T:Addr}{es:Array (Int × Value)}{ep i:Nat}{t:SetTable}{h:Heap}{xl:List (Int × Value)}{f:Value}(m:Md w a es ep t h T xl i f):xl.length=es.size:=by
 rw[m.perm.length_eq,Array.length_toList]
def StI (w:World)(I a T:Addr)(o:Obj)(es:Array (Int × Value))(ep:Nat)(t:SetTable)(xl:List (Int × Value))(i:Nat)(h:Heap):Prop :=
 ∃ f oi,h.get? I=some oi∧oi.cls=.type "set_iterator" ∧ oi.data=.fields #[f,.int i 0,.ref a,.int es.size 0,.int ep 0]∧Md w a es ep t h T xl i f∧h.get? a=some o
section
variable {prog:Program}{w:World}{A:Around}{E:Value→Shared→Prop}{s:Shared}{a T:Addr}{o:Obj}{es:Array (Int × Value)}{ep:Nat}{t:SetTable}{xl:List (Int × Value)}
theorem StI.typeIs{I:Addr}{i:Nat}(x:StI w I a T o es ep t xl i s.heap):s.TypeIs (.ref I) "set_iterator" := let ⟨_,oi,ho,hc,_⟩:=x;⟨oi,ho,hc⟩
theorem typ(W:Wk w o es ep t)(ho:s.heap.get? a=some o):s.TypeIs (.ref a) "set" := ⟨o,ho,W.ex.1⟩
theorem Qn{Q:Bool→Shared→Prop}(h:Q (w.params.followText "set-order") s):wpAny (model prog w) A setsByText Q E s:=by
 unfold setsByText
 exact wpAny_bind (wpAny_askSetting (wpAny_pure h))
theorem AbH(W:Wk w o es ep t)(ho:s.heap.get? a=some o){Q:Bool→Shared→Prop}(h:Q (!w.params.followText "set-order" && (!t.plain && decide (es.size>1))) s):wpAny (model prog w) A (setDrawn a) Q E s:=by
 unfold setDrawn
 exact wpAny_bind (wpAny_setState_of ho W.d W.f (wpAny_bind (Qn (wpAny_pure h))))
theorem Xk(W:Wk w o es ep t)(ho:s.heap.get? a=some o){Q:Nat→Shared→Prop}(h:Q ep s):wpAny (model prog w) A (setEpoch a) Q E s:=by
 unfold setEpoch
 exact wpAny_bind (wpAny_setState_of ho W.d W.f (wpAny_pure h))
theorem VH(W:Wk w o es ep t)(ho:s.heap.get? a=some o){Q:Array (Int × Value)→Shared→Prop}(h:Q es s):wpAny (model prog w) A (setEntries a) Q E s:=by
 unfold setEntries
 exact wpAny_bind (wpAny_setState_of ho W.d W.f (wpAny_pure h))
theorem Aa4{M:Model}{n:Nat}(hn:0<n){Q:Nat→Shared→Prop}(h:∀ i d,i<n→Q i { s with drawn:=d }):wpAny M A (choose .order n) Q E s:=fun Γ p _=>by
 show Sem.wp M Γ (.choose .order n .pure) _ _ p s
 rw[Sem.wp_choose]
 exact⟨by omega,h _ _ (AkN _ hn)⟩
theorem Xl{α:Type}{M:Model}:∀(n:Nat) (l:List α) {s:Shared} {Q:List α→Shared→Prop},l.length≤n→(∀ l' d,l'.Perm l→Q l' { s with drawn:=d })→wpAny M A (drawOrder n l) Q E s
 | 0,l,s,Q,hl,h=>by
  have:l=[]:=List.length_eq_zero_iff.mp (by omega)
  subst this
  unfold drawOrder
  exact wpAny_pure (h [] s.drawn (.refl _))
 | n+1,[],s,Q,hl,h=>by
  unfold drawOrder
  exact wpAny_pure (h [] s.drawn (.refl _))
 | n+1,x::l,s,Q,hl,h=>by
  unfold drawOrder
  refine wpAny_bind (Aa4 (by simp) fun i d hi=>?_)
  rw[AjO hi]
  dsimp only
  refine wpAny_bind (Xl n ((x::l).eraseIdx i) (by rw[Alj,if_pos hi];omega) fun l' d' hp=>wpAny_pure (h _ d' ?_))
  refine(hp.cons _).trans ?_
  rw[Als]
  have e2:(x::l)=(x::l).take i++(x::l)[i]::(x::l).drop (i+1):=by rw[List.getElem_cons_drop,List.take_append_drop]
  exact(List.perm_middle (a:=(x::l)[i]) (l₁:=(x::l).take i) (l₂:=(x::l).drop (i+1))).symm.trans (.of_eq e2.symm)
theorem Afs(W:Wk w o es ep t)(ho:s.heap.get? a=some o)(hz:es.size≤sizeLine){Q:Value→Shared→Prop}
  (hQ:∀(h':Heap) d I T xl,I≠a→T≠I→s.heap.objs.size≤I→(T=a∨s.heap.objs.size≤T)→(∀ b o,s.heap.get? b=some o→h'.get? b=some o)→StI w I a T o es ep t xl 0 h'→Q (.ref I) { s with heap:=h',drawn:=d }):wpAny (model prog w) A (pyIter (.ref a)) Q E s:=by
 have hT:=typ W ho
 have ha:a<s.heap.objs.size:=Heap.lt_size ho
 refine wpAny_pyIter_slot hT F.slot_set_iter (wpAny_call_entry F.slot_set_iter hT AgM ?_ (F.args_set_iter_1 _))
 unfold Builtin.«frozenset.__iter__»
 refine wpAny_bind (m:=Builtin.Frozenset.slot0 "__iter__" ⟨[.ref a],[]⟩) (wpAny_of_eq (a:=a) rfl ?_)
 refine wpAny_bind (wpAny_bind (VH W ho (wpAny_pure ?_)))
 refine wpAny_bind (AbH W ho ?_)
 dsimp only
 by_cases c:(!w.params.followText "set-order" && (!t.plain && decide (es.size>1)))=true
 ·rw[if_pos c]
  refine wpAny_bind (Xl es.size (List.range es.size) (by simp) fun pm d hp=>?_)
  have hl:pm.length=es.size:=by rw[hp.length_eq,Akh]
  unfold newTuple
  refine wpAny_bind (wpAny_newObj_type ?_ (by show(List.map _ pm).toArray.size≤_+1;rw[AjZ,AjP,hl];have:=sizeLine_eq;omega))
  have k1:∀ b ob,s.heap.get? b=some ob→(s.heap.push { cls:=.type "tuple", data:=.seq (pm.map fun k:Nat=>rawInt (k:Int)).toArray }).get? b=some ob:=fun b ob e=>Heap.get?_push_of_some _ e
  refine wpAny_bind (Xk W (k1 _ _ ho) (wpAny_bind (wpAny_newObj_type (wpAny_pure ⟨_,rfl, "set_iterator", _,⟨_,Heap.get?_push_size _ rfl,rfl⟩,Sx.lookup,?_⟩))))
  refine hQ _ d _ s.heap.objs.size (pm.map fun k=>es.toList.getD k (0,.none)) ?_ ?_ ?_ (.inr (AjQ _)) (fun b ob e=>Heap.get?_push_of_some _ (k1 _ _ e)) ?_
  ·show(s.heap.push _).objs.size≠a
   rw[Heap.size_push];exact Akq (Aku ha)
  ·show s.heap.objs.size≠(s.heap.push _).objs.size
   rw[Heap.size_push];exact AjS (Akx _)
  ·show s.heap.objs.size≤(s.heap.push _).objs.size
   rw[Heap.size_push];exact Ak0 _
  ·exact⟨.ref s.heap.objs.size,_,Heap.get?_push_size _ rfl,rfl,rfl,.inr ⟨pm,rfl,Heap.get?_push_of_some _ (Heap.get?_push_size _ rfl),hp,rfl⟩,Heap.get?_push_of_some _ (k1 _ _ ho)⟩
 ·rw[if_neg c]
  refine wpAny_bind (wpAny_pure (wpAny_bind (Xk W ho (wpAny_bind (wpAny_newObj_type (wpAny_pure ⟨_,rfl, "set_iterator", _,⟨_,Heap.get?_push_size _ rfl,rfl⟩,Sx.lookup,?_⟩))))))
  have k:∀ b ob,s.heap.get? b=some ob→(s.heap.push { cls:=.type "set_iterator", data:=.fields [rawInt 0,rawInt 0,.ref a,rawInt es.size,rawInt ep].toArray }).get? b=some ob:=fun b ob e=>Heap.get?_push_of_some _ e
  refine hQ _ s.drawn s.heap.objs.size a (if w.params.followText "set-order" = true then (pickOrder (w.params.setOrder a ep) es).toList else es.toList) (Akq ha) (AjS ha) (AjQ _) (.inl rfl) k ?_
  refine⟨rawInt 0,_,Heap.get?_push_size _ rfl,rfl,rfl,.inl ⟨0,rfl,?_⟩,k _ _ ho⟩
  by_cases hb:w.params.followText "set-order" = true
  ·exact .inl ⟨hb,by rw[if_pos hb]⟩
  ·have hb':w.params.followText "set-order" = false:=by simpa using hb
   rw[hb'] at c
   have hpl:t.plain=true∨es.size≤1:=by
    by_cases z:t.plain=true
    ·exact .inl z
    ·have z':t.plain=false:=by simpa using z
     rw[z'] at c
     simp at c
     exact .inr c
   exact .inr ⟨hb',hpl,by rw[if_neg hb],YG (W.rise hb' hpl)⟩
theorem Z3(W:Wk w o es ep t)(ho:s.heap.get? a=some o){slot i:Nat}
  (hm:(w.params.followText "set-order" = true∧xl=(pickOrder (w.params.setOrder a ep) es).toList)∨(w.params.followText "set-order" = false∧(t.plain=true∨es.size≤1)∧xl=es.toList∧SetTable.below t.place slot=i)) {Q:Option (Value × Nat)→Shared→Prop}
  (h:∀ next,(i<es.size→(w.params.followText "set-order" = true∧xl=(pickOrder (w.params.setOrder a ep) es).toList)∨(w.params.followText "set-order" = false∧(t.plain=true∨es.size≤1)∧xl=es.toList∧SetTable.below t.place next=i+1)) →
   Q ((xl[i]?).map fun e=>(e.2,next)) s):wpAny (model prog w) A (setNext a slot i ep) Q E s:=by
 unfold setNext
 refine wpAny_bind (wpAny_setState_of ho W.d W.f (wpAny_bind (Qn ?_)))
 dsimp only
 rcases hm with ⟨hb,hx⟩ | ⟨hb,hp,hx,hs⟩
 ·rw[hb,if_pos rfl,if_neg (by simp)]
  unfold setWalk
  refine wpAny_bind (wpAny_bind (wpAny_setState_of ho W.d W.f (wpAny_bind (Qn ?_))))
  rw[hb,if_pos rfl]
  refine wpAny_bind (wpAny_askSetting (wpAny_pure (wpAny_pure ?_)))
  have:=h slot fun _=>.inl ⟨hb,hx⟩
  rw[hx,Array.getElem?_toList] at this
  exact this
 ·rw[hb,if_neg (by decide)]
  have hR:=W.rise hb hp
  have hf:t.place.size=es.size:=by
   have:=W.f
   unfold SetTable.fits at this
   simp at this
   exact this.1
  have nd:(!t.plain && decide (es.size>1))=false:=by
   rcases hp with e | e
   ·rw[e];simp
   ·rw[decide_eq_false (by omega)];simp
  have nl:(!t.led && !es.isEmpty)=false:=by
   rcases W.ok with e | e | ⟨e,_⟩
   ·rw[hb] at e;cases e
   ·simp[Array.isEmpty,e]
   ·rw[e];simp
  split
  ·rename_i hd
   have hd':(!t.plain && decide (es.size>1))=true:=hd
   rw[nd] at hd'
   cases hd'
  ·refine wpAny_bind ?_
   show wpAny _ _ (if (!t.led && !es.isEmpty)=true then unsupported "set:maker-not-led" else pure ()) _ _ _
   rw[nl,if_neg (by decide)]
   refine wpAny_pure (wpAny_pure ?_)
   rw[hs]
   by_cases hi:i<es.size
   ·have:=h (t.place[i]'(by omega)+1) fun _=>.inr ⟨hb,hp,hx,by
     have:=YH hR (i:=i) (by omega)
     rwa [show t.place.getD i 0=t.place[i]'(by omega) by simp[Array.getD,show i<t.place.size by omega]] at this⟩
    rw[hx,Array.getElem?_toList,Array.getElem?_eq_getElem hi] at this
    rw[Array.getElem?_eq_getElem hi,Array.getElem?_eq_getElem (show i<t.place.size by omega)]
    exact this
   ·have:=h 0 fun z=>absurd z hi
    rw[hx,Array.getElem?_toList,Array.getElem?_eq_none (by omega)] at this
    rw[Array.getElem?_eq_none (by omega)]
    exact this
theorem Ado(W:Wk w o es ep t){I:Addr}{i:Nat}{x:Int × Value}{Q:Option Value→Shared→Prop}(hne:a≠I)(hnT:T≠I)(st:StI w I a T o es ep t xl i s.heap)(hx:xl[i]?=some x)
  (hQ:∀ h',StI w I a T o es ep t xl (i+1) h'→(∀ b o,b≠I→s.heap.get? b=some o→h'.get? b=some o)→Q (some x.2) { s with heap:=h' }):wpAny (model prog w) A (pyNext (.ref I)) Q E s:=by
 have hT:=st.typeIs
 obtain⟨f,oi,hoi,hci,hdi,hm,ho⟩:=st
 have hi:i<es.size:=by rw[← hm.len];exact(List.getElem?_eq_some_iff.mp hx).1
 unfold pyNext
 refine wpAny_bind (wpAny_attempt (wpAny_callSpecial?_slot (name:=Str.ofString "__next__") hT Sx (wpAny_call_entry Sx hT Aet ?_ (Aeu _))))
 unfold Builtin.«set_iterator.__next__»
 refine wpAny_bind (m:=slotArgs "__next__" 0 ⟨[.ref I],[]⟩) (wpAny_of_eq (a:=(Value.ref I,[])) rfl ?_)
 refine wpAny_bind (wpAny_fieldsOf hoi hdi ?_)
 dsimp only
 refine wpAny_bind (VH W ho ?_)
 rw[if_neg (by simp)]
 rcases hm with ⟨slot,rfl,hm⟩ | ⟨pm,rfl,hT2,hp,hxl⟩
 ·simp only [AjW]
  refine wpAny_bind (Z3 W ho hm fun next hn=>?_)
  rw[hx]
  dsimp only [Option.map]
  refine wpAny_bind (wpAny_setField hoi hdi (by simp) ?_)
  have ho1:=Heap.get?_update_self (Obj.mapFields (·.setIfInBounds 0 (rawInt (next:Int)))) hoi (Obj.isFreed_of_fields (Obj.data_mapFields hdi _))
  have hd1:=Obj.data_mapFields hdi (·.setIfInBounds 0 (rawInt (next:Int)))
  refine wpAny_bind (wpAny_setField ho1 hd1 (by simp) (wpAny_pure ⟨_,rfl,wpAny_pure (hQ _ ⟨.int next 0,_,Heap.get?_update_self _ ho1 (Obj.isFreed_of_fields (Obj.data_mapFields hd1 _)),?_,?_,.inl ⟨next,rfl,hn hi⟩,?_⟩ fun b o' hb e=>?_)⟩))
  ·exact(Obj.cls_mapFields ..).trans ((Obj.cls_mapFields ..).trans hci)
  ·rw[Obj.data_mapFields hd1];simp[rawInt]
  ·exact(Heap.get?_update_other _ _ (Ne.symm hne)).trans ((Heap.get?_update_other _ _ (Ne.symm hne)).trans ho)
  ·exact(Heap.get?_update_other _ _ (Ne.symm hb)).trans ((Heap.get?_update_other _ _ (Ne.symm hb)).trans e)
 ·have hpi:i<pm.length:=by rw[hp.length_eq,Akh];exact hi
  have hk:pm[i]<es.size:=by
   have:=hp.mem_iff.mp (AjU hpi)
   simpa using this
  have e1:es[pm[i]]?=some x:=by
   rw[hxl,Aka,AjO hpi] at hx
   have:=Option.some.inj hx
   rw[Array.getElem?_eq_getElem hk]
   simp[List.getD,hk] at this
   rw[this]
  simp only [AjW]
  refine wpAny_bind (wpAny_seqItems hT2 rfl ?_)
  dsimp only
  rw[show((pm.map fun k:Nat=>rawInt (k:Int)).toArray)[i]?=some (.int (pm[i]:Int) 0) by simp[hpi,rawInt]]
  dsimp only
  unfold setNextDrawn
  refine wpAny_bind (wpAny_bind (wpAny_setState_of ho W.d W.f ?_))
  dsimp only
  rw[if_neg (by simp)]
  simp only [AjW]
  rw[e1]
  refine wpAny_pure (wpAny_bind (wpAny_setField hoi hdi (by simp) (wpAny_pure ⟨_,rfl,wpAny_pure (hQ _ ⟨.ref T,_,Heap.get?_update_self _ hoi (Obj.isFreed_of_fields (Obj.data_mapFields hdi _)),?_,?_,.inr ⟨pm,rfl,?_,hp,hxl⟩,?_⟩ fun b o' hb e=>?_)⟩)))
  ·exact(Obj.cls_mapFields ..).trans hci
  ·rw[Obj.data_mapFields hdi];simp[rawInt]
  ·exact(Heap.get?_update_other _ _ (Ne.symm hnT)).trans hT2
  ·exact(Heap.get?_update_other _ _ (Ne.symm hne)).trans ho
  ·exact(Heap.get?_update_other _ _ (Ne.symm hb)).trans e
theorem stops(hh:A.handled=none){Q:Option Value→Shared→Prop}(hQ:∀ h',(∀ b o,s.heap.get? b=some o→h'.get? b=some o)→Q none { s with heap:=h' }) :
  wpAny (model prog w) A.in1 (do raiseNew (← newExc (.type "StopIteration") []):Sem Fin) (fun fin s'=>∃ v,fin=Fin.done (Flow.ret v)∧wpAny (model prog w) A (pure (some v)) Q E s')
   (fun e s'=>wpAny (model prog w) A (do if ← isInstance e (.type "StopIteration") then pure none else throw e) Q E s') s:=by
 refine wpAny_bind ?_
 simp only [newExc,newTuple]
 refine wpAny_bind (wpAny_newObj_type (wpAny_bind (m:=firstArgMember _ _) (wpAny_of_eq (a:=Value.none) (by first | rfl | (simp only [firstArgMember];rfl)) (wpAny_newObj_type ?_ (by size_fits)))) (by size_fits))
 simp only [raiseNew]
 refine wpAny_bind (wpAny_handled ?_)
 rw[show A.in1.handled=none from hh]
 refine wpAny_bind (wpAny_pure (wpAny_throw ?_))
 refine wpAny_bind (wpAny_isInstance (T := "StopIteration") (b:=true) ⟨_,Heap.get?_push_size _ rfl,rfl⟩ isSubtype_stop (wpAny_pure (hQ _ fun b o' e=>?_)))
 exact Heap.get?_push_of_some _ (Heap.get?_push_of_some _ e)
theorem Aft(W:Wk w o es ep t){I:Addr}{Q:Option Value→Shared→Prop}(hh:A.handled=none)(st:StI w I a T o es ep t xl es.size s.heap)
  (hQ:∀ h',(∀ b o,b≠I→s.heap.get? b=some o→h'.get? b=some o)→Q none { s with heap:=h' }):wpAny (model prog w) A (pyNext (.ref I)) Q E s:=by
 have hT:=st.typeIs
 obtain⟨f,oi,hoi,hci,hdi,hm,ho⟩:=st
 have hx:xl[es.size]?=none:=Akz (by rw[hm.len];exact AjQ _)
 unfold pyNext
 refine wpAny_bind (wpAny_attempt (wpAny_callSpecial?_slot (name:=Str.ofString "__next__") hT Sx (wpAny_call_entry Sx hT Aet ?_ (Aeu _))))
 unfold Builtin.«set_iterator.__next__»
 refine wpAny_bind (m:=slotArgs "__next__" 0 ⟨[.ref I],[]⟩) (wpAny_of_eq (a:=(Value.ref I,[])) rfl ?_)
 refine wpAny_bind (wpAny_fieldsOf hoi hdi ?_)
 dsimp only
 refine wpAny_bind (VH W ho ?_)
 rw[if_neg (by simp)]
 rcases hm with ⟨slot,rfl,hm⟩ | ⟨pm,rfl,hT2,hp,hxl⟩
 ·simp only [AjW]
  refine wpAny_bind (Z3 W ho hm fun next hn=>?_)
  rw[hx]
  dsimp only [Option.map]
  refine wpAny_bind (wpAny_setField hoi hdi (by simp) (stops hh fun h' k=>hQ h' fun b o' hb e=>k _ _ ?_))
  exact(Heap.get?_update_other _ _ (Ne.symm hb)).trans e
 ·simp only [AjW]
  refine wpAny_bind (wpAny_seqItems hT2 rfl ?_)
  dsimp only
  rw[show((pm.map fun k:Nat=>rawInt (k:Int)).toArray)[es.size]?=none by
   rw[List.getElem?_toArray]
   exact Akz (by rw[AjP,hp.length_eq,Akh];exact AjQ _)]
  dsimp only
  refine wpAny_bind (wpAny_setField hoi hdi (by simp) ?_)
  have ho1:=Heap.get?_update_self (Obj.mapFields (·.setIfInBounds 0 (rawInt 0))) hoi (Obj.isFreed_of_fields (Obj.data_mapFields hdi _))
  have hd1:=Obj.data_mapFields hdi (·.setIfInBounds 0 (rawInt 0))
  refine wpAny_bind (wpAny_setField ho1 hd1 (by simp) (stops hh fun h' k=>hQ h' fun b o' hb e=>k _ _ ?_))
  exact(Heap.get?_update_other _ _ (Ne.symm hb)).trans ((Heap.get?_update_other _ _ (Ne.symm hb)).trans e)
theorem Adp{I:Addr}{i:Nat}{Q:Value→Shared→Prop}(st:StI w I a T o es ep t xl i s.heap)(h:Q (.ref I) s):wpAny (model prog w) A (pyIter (.ref I)) Q E s:=by
 have hT:=st.typeIs
 refine wpAny_pyIter_slot hT Aes (wpAny_call_entry Aes hT AgL ?_ (AgN _))
 show wpAny _ _ (ret (.ref I)) _ _ s
 exact wpAny_pure ⟨_,rfl, "set_iterator", _,hT,Sx.lookup,h⟩
theorem walks(W:Wk w o es ep t)(hh:A.handled=none){I:Addr}(hne:a≠I)(hnT:T≠I):Walks prog w A I [I,a,T] [I] es.size (fun i v=>∃ x,xl[i]?=some x∧v=x.2) (StI w I a T o es ep t xl) where
 sub:=fun b hb=>by rw[List.mem_singleton.mp hb];exact Ake
 frame:=fun i h h' ⟨f,oi,h1,h2,h3,hm,h4⟩ hk=>⟨f,oi,hk I (by simp) _ h1,h2,h3,by
  rcases hm with m | ⟨pm,m1,m2,m3⟩
  ·exact .inl m
  ·exact .inr ⟨pm,m1,hk T (by simp) _ m2,m3⟩,hk a (by simp) _ h4⟩
 item:=fun i s Q E hi st hQ=>by
  obtain⟨x,hx⟩:∃ x,xl[i]?=some x:=⟨_,AjO (by
   obtain⟨_,_,_,_,_,hm,_⟩:=id st
   rw[hm.len];exact hi)⟩
  exact Ado W hne hnT st hx fun h' st' hk=>hQ _ h' s.toks ⟨x,hx,rfl⟩ st' fun b o hb e=>hk b o (fun z=>hb (by simp[z])) e
 done:=fun s Q E st hQ=>Aft W hh st fun h' hk=>hQ h' s.toks fun b o hb e=>hk b o (fun z=>hb (by simp[z])) e
 self:=fun i s Q E st hQ=>Adp st hQ
end
end SetW
open PySem PySem.Spec PyProof.Rows
namespace SetW
section
variable {prog:Program}{w:World}{A:Around}{E:Value→Shared→Prop}{s:Shared}{a:Addr}{o:Obj}{es:Array (Int × Value)}{ep:Nat}{t:SetTable}
theorem Afu:isSubtype (.type "set") (.type "set")=pure true:=by rw[isSubtype_type];kernel_rfl
theorem Adq(W:Wk w o es ep t)(ho:s.heap.get? a=some o)(hh:A.handled=none)(hn:es.size≤sizeLine){Q:List Value→Shared→Prop}
  (hQ:∀(xl:List (Int × Value)) s',xl.Perm es.toList→(∀ b o,s.heap.get? b=some o→s'.heap.get? b=some o)→s'.gens=s.gens→s'.os=s.os→s.heap.objs.size≤s'.heap.objs.size→Q (xl.map (·.2)) s'):wpAny (model prog w) A (collect (.ref a)) Q E s:=by
 have ha:a<s.heap.objs.size:=Heap.lt_size ho
 unfold collect
 refine wpAny_bind (wpAny_runValue (codeAny_builtin F.entry_proto_collect ?_))
 rw[Around.under_plainId F.plain_proto_collect _]
 show wpAny _ A.in1 (newList [] >>= fun l=>again (.builtin "list.__iadd__" ⟨[l,.ref a],[]⟩)) _ _ s
 refine wpAny_bind (wpAny_newObj_type (wpAny_pure ⟨plainId_quiet F.plain_list_iadd _,codeAny_builtin F.entry_list_iadd ?_⟩))
 rw[Around.under_plainId F.plain_list_iadd _]
 obtain⟨h1,eh1⟩:∃ h1,h1=s.heap.push { cls:=.type "list", data:=.seq ([]:List Value).toArray }:=⟨_,rfl⟩
 have hS1:h1.get? s.heap.objs.size=some { cls:=.type "list", data:=.seq ([]:List Value).toArray }:=by rw[eh1];exact Heap.get?_push_size _ rfl
 have k1:∀ b o,s.heap.get? b=some o→h1.get? b=some o:=fun b o e=>by rw[eh1];exact Heap.get?_push_of_some _ e
 have z1:h1.objs.size=s.heap.objs.size+1:=by rw[eh1,Heap.size_push]
 show wpAny _ A.in1 (Builtin.List.listExtendWith (.ref s.heap.objs.size) (.ref a) (.ref s.heap.objs.size)) _ _ { s with heap:=s.heap.push { cls:=.type "list", data:=.seq ([]:List Value).toArray } }
 rw[← eh1]
 unfold Builtin.List.listExtendWith
 have ho1:=k1 _ _ ho
 refine wpAny_bind (wpAny_typeOf (typ (s:={ s with heap:=h1 }) W ho1) ?_)
 have e1:Builtin.List.listSameRef (.ref s.heap.objs.size) (.ref a)=false:=by
  have:s.heap.objs.size≠a:=Akq ha
  simp[Builtin.List.listSameRef,this]
 rw[if_neg (by rw[e1];decide)]
 refine wpAny_bind (Afs (s:={ s with heap:=h1 }) W ho1 hn ?_)
 intro h2 d I T xl nIa nTI sI sT k2 st2
 have hxp:xl.Perm es.toList:=by
  obtain⟨_,_,_,_,_,hm,_⟩:=st2
  exact hm.perm
 have sI':s.heap.objs.size<I:=Akc (by rw[z1];exact Akx _) sI
 show wpAny _ A.in1 _ _ _ { s with heap:=h2,drawn:=d }
 refine wpAny_bind (wpAny_holding ?_)
 unfold Builtin.List.listLengthHint
 have ho2:=k2 _ _ ho1
 refine wpAny_bind (wpAny_specialOf (typ (s:={ s with heap:=h2,drawn:=d }) W ho2) Afr ?_)
 generalize hid:("set.__len__" : String)=ln0
 wp_delta
 rw[show splitId ln0=some ("set", "__len__") by subst hid;decide +kernel]
 subst hid
 refine wpAny_bind (wpAny_isInstance (b:=true) (typ (s:={ s with heap:=h2,drawn:=d }) W ho2) Afu ?_)
 rw[if_neg (by decide)]
 split
 case isFalse hn1=>exact absurd (by decide +kernel) hn1
 refine wpAny_bind (wpAny_typeOf (typ (s:={ s with heap:=h2,drawn:=d }) W ho2) (wpAny_pure ?_))
 rw[if_pos (by decide +kernel)]
 refine wpAny_bind (wpAny_rule (wpAny_bind ?_))
 have hS2:=k2 _ _ hS1
 show wpAny _ A.in1 (updateSeq s.heap.objs.size (·.push .none) >>= fun _=>updateSeq s.heap.objs.size (·.pop)) _ _ _
 refine wpAny_bind (wpAny_updateSeq hS2 rfl ?_)
 have hS3:=Heap.get?_update_self (Obj.mapSeq (·.push Value.none)) hS2 rfl
 refine wpAny_updateSeq hS3 rfl ?_
 have hS4:=Heap.get?_update_self (Obj.mapSeq (·.pop)) hS3 rfl
 obtain⟨h4,eh4⟩:∃ h4,h4=(h2.update s.heap.objs.size (Obj.mapSeq (·.push Value.none))).update s.heap.objs.size (Obj.mapSeq (·.pop)):=⟨_,rfl⟩
 have k4:∀ b o,b≠s.heap.objs.size→h2.get? b=some o→h4.get? b=some o:=fun b o hb e=>by rw[eh4];exact(Heap.get?_update_other _ _ (Ne.symm hb)).trans ((Heap.get?_update_other _ _ (Ne.symm hb)).trans e)
 have nT:T≠s.heap.objs.size:=by
  rcases sT with e | e
  ·rw[e];exact AjS ha
  ·exact Akq (Akc (by rw[z1];exact Akx _) e)
 have WK:=walks (prog:=prog) (T:=T) (xl:=xl) (A:=A.in1) W hh nIa.symm nTI
 have st4:StI w I a T o es ep t xl 0 h4:=WK.frame 0 h2 h4 st2 fun b hb ob e=>k4 b ob (by
  simp only [Akl,Akm,or_false] at hb
  rcases hb with e | e | e
  ·rw[e];exact Akq sI'
  ·rw[e];exact AjS ha
  ·rw[e];exact nT) e
 show wpAny _ A.in1 (again (.builtin "list.extend.loop" ⟨[.ref s.heap.objs.size,.ref I,.ref s.heap.objs.size],[]⟩)) _ _ { s with heap:=(h2.update s.heap.objs.size (Obj.mapSeq (·.push Value.none))).update s.heap.objs.size (Obj.mapSeq (·.pop)),drawn:=d }
 rw[← eh4]
 rw[← eh4] at hS4
 refine wpAny_pure ⟨plainId_quiet F.plain_extend_loop _,codeAny_extend_loopS (WK.toS) hn s.heap.objs.size ?_ _ es.size 0 _ _ _ rfl (Akb _) st4 hS4 (ItemsOf.nil _) fun s' acc' c' hm hS' hacc=>?_⟩
 ·simp only [Akl,Akm,or_false,not_or]
  exact⟨AjS sI',Akq ha,nT.symm⟩
 show wpAny _ A (load s.heap.objs.size >>= _) _ _ s'
 refine wpAny_bind (wpAny_load hS' (wpAny_pure ?_))
 have Ads:xl.length=es.size:=by rw[hxp.length_eq,Array.length_toList]
 have ea:acc'.toList=xl.map (·.2):=by
  refine Alk fun i=>?_
  rw[Aka,Array.getElem?_toList]
  by_cases hi:i<es.size
  ·have hi2:i<acc'.size:=by rw[hacc.1];exact hi
   obtain⟨x,g1,g2⟩:=hacc.2 i acc'[i] (Array.getElem?_eq_getElem hi2)
   rw[g1,Array.getElem?_eq_getElem hi2,g2]
   rfl
  ·rw[Array.getElem?_eq_none (by rw[hacc.1];omega),Akz (by rw[Ads];omega)]
   rfl
 rw[ea]
 refine hQ xl s' hxp (fun b ob e=>hm.heap b ob ?_ (k4 _ _ (AjS (Heap.lt_size e)) (k2 _ _ (k1 _ _ e)))) hm.gens hm.os (AkA (Heap.lt_size hS'))
 have:=Heap.lt_size e
 simp only [Akl,Akm,or_false,not_or]
 exact⟨AjS this,AjS (AkW this sI')⟩
theorem YJ(W:Wk w o es ep t)(ho:s.heap.get? a=some o)(hh:A.handled=none)(h64:es.size<64){key:Int × Value→Int}(hI:∀ e∈es.toList,∃ tk,e.2=.int (key e) tk){Q:Value→Shared→Prop}
  (hQ:∀(h':Heap) d (tk l e:Nat) (out:Array Value) (ns':List Int),(∀ b o,s.heap.get? b=some o→h'.get? b=some o)→s.heap.objs.size≤l→h'.get? l=some (seqObj "list" out e)→IntsAre out.toList ns'→ns'.Perm (es.toList.map key)→ns'.Pairwise (·≤·) →
   Q (.ref l) { s with heap:=h',drawn:=d,toks:=tk }):wpAny (model prog w) A (call (.builtin "sorted") [.ref a]) Q E s:=by
 refine Calls.call_function_entry kind_sorted plain_sorted entry_sorted (args_sorted1 _) ?_
 unfold Builtin.«sorted»
 refine wpAny_bind (m:=checkCount "sorted" 1 1 _) (wpAny_pure (wpAny_bind (Adq (A:=A.in1) W ho hh (by rw[sizeLine_eq];omega) fun xl s' hxp k hg hos hz=>?_)))
 obtain⟨h',g',d',tk',os'⟩:=s'
 dsimp only at k hg hos hz
 subst hg hos
 have Ads:xl.length=es.size:=by rw[hxp.length_eq,Array.length_toList]
 have hI2:∀ l:List (Int × Value),(∀ e∈l,∃ tk,e.2=.int (key e) tk)→IntsAre (l.map (·.2)) (l.map key):=by
  intro l
  induction l with
  | nil=>intro _;exact .nil
  | cons e l ih =>
   intro h
   obtain⟨tk,hk⟩:=h e Ake
   rw[AjX,AjX,hk]
   exact .cons _ _ (ih fun x hx=>h x (Akk _ hx))
 have hIx:=hI2 xl fun e he=>hI e (hxp.mem_iff.mp he)
 have hoL:(h'.push (seqObj "list" (xl.map (·.2)).toArray 0)).get? h'.objs.size=some (seqObj "list" (xl.map (·.2)).toArray 0):=Heap.get?_push_size _ rfl
 refine wpAny_bind (wpAny_newList (hsz:=by rw[AjP,Ads,sizeLine_eq];omega) ?_)
 show wpAny _ _ _ _ _ { s with heap:=h'.push (seqObj "list" (xl.map (·.2)).toArray 0),drawn:=d',toks:=tk' }
 refine wpAny_bind (wpAny_holding (wpAny_call_entry slot_list_sort ⟨_,hoL,rfl⟩ entry_list_sort (list_sort_tree hoL hIx (by rw[AjP,Ads];exact h64) fun out ns' a1 a2 a3=>⟨_,rfl,wpAny_pure ⟨_,rfl,?_⟩⟩) (args_list_sort _)))
 obtain⟨e,he⟩:=sortedHeap_at (out:=out) hoL
 refine hQ _ d' tk' h'.objs.size e out ns' (fun b ob eb=>?_) ?_ he a1 (a2.trans (hxp.map _)) a3
 ·have lb:=Heap.lt_size (k _ _ eb)
  rw[sortedHeap_old (AjS lb) (by rw[size_push'];exact Aku lb)]
  exact Heap.get?_push_of_some _ (k _ _ eb)
 ·exact hz
end
end SetW
open PySem PySem.Spec PyProof.Rows
namespace SetW
theorem S6{xs:Array Nat}:Qm xs↔xs.toList.Pairwise (·<·):=by
 rw[Alm]
 constructor
 ·intro h i j hi hj hij
  have:=h i j hij (by simpa using hj)
  have hi':i<xs.size:=by simpa using hi
  have hj':j<xs.size:=by simpa using hj
  simpa [Array.getD,hi',hj'] using this
 ·intro h i k hik hk
  have:=h i k (by simp;omega) (by simpa using hk) hik
  have hi':i<xs.size:=by omega
  simpa [Array.getD,hi',hk] using this
theorem AbI{xs:Array Nat}{j:Nat}(hR:Qm xs)(hn:xs[SetTable.below xs j]?≠some j):Qm (SetTable.insertAt xs (SetTable.below xs j) j):=by
 obtain⟨h1,h2,h3⟩:=S5 hR j
 have hP:=S6.mp hR
 rw[S6]
 generalize SetTable.below xs j=p at h1 h2 h3 hn
 have e:(SetTable.insertAt xs p j).toList=xs.toList.take p++j::xs.toList.drop p:=by
  unfold SetTable.insertAt
  simp[Array.toList_extract,Akw]
 rw[e]
 have g:∀ i,i<xs.size→xs.getD i 0=xs.toList.getD i 0:=fun i hi=>by simp[Array.getD,List.getD,hi]
 have lo:∀ y∈xs.toList.take p,y<j:=fun y hy=>by
  obtain⟨i,hi,rfl⟩:=List.mem_take_iff_getElem.mp hy
  have hi':i<p∧i<xs.size:=by simpa using (Nat.lt_min.mp hi)
  have:=h2 i hi'.1
  simpa [Array.getD,hi'.2] using this
 have hi:∀ y∈xs.toList.drop p,j<y:=fun y hy=>by
  obtain⟨i,hi,rfl⟩:=List.mem_drop_iff_getElem.mp hy
  have hi':i+p<xs.size:=by simpa using hi
  have a:=h3 (i+p) (by omega) hi'
  have b:xs.getD (i+p) 0=xs[i+p]:=by simp[Array.getD,hi']
  rw[b] at a
  have ne:xs[i+p]≠j:=fun z=>by
   by_cases c:i=0
   ·subst c
    apply hn
    rw[Array.getElem?_eq_getElem (by omega)]
    simp at z
    rw[z]
   ·have c1:=h3 p (AjQ _) (by omega)
    have c2:=hR p (i+p) (by omega) hi'
    rw[b,z] at c2
    omega
  have:(xs.toList)[i+p]'(by simpa using hi')=xs[i+p]:=by simp
  simp only [Nat.add_comm] at *
  omega
 rw[List.pairwise_append]
 refine⟨hP.sublist (List.take_sublist _ _),?_,fun a ha b hb=>?_⟩
 ·rw[List.pairwise_cons]
  exact⟨hi,hP.sublist (List.drop_sublist _ _)⟩
 ·rcases List.mem_cons.mp hb with e | hb
  ·rw[e];exact lo a ha
  ·exact AkW (lo a ha) (hi b hb)
theorem Nr(t:SetTable)(g:Nat→Int)(h:Int):∀(fuel:Nat) (p:SetTable.Probe) (j:Nat) (dm:Option Nat),(∀ d,p.dummy=some d→t.slot d=.dummy)→SetTable.probe.go t g h fuel p=some (.empty j dm)→t.slot j=.empty∧∀ d,dm=some d→t.slot d=.dummy
 | 0,p,j,dm,hd,e=>by simp[SetTable.probe.go] at e
 | fuel+1,p,j,dm,hd,e=>by
  have adv:∀ q:SetTable.Probe,(t.advance q).dummy=q.dummy:=fun q=>by
   unfold SetTable.advance
   split <;> rfl
  unfold SetTable.probe.go at e
  split at e
  ·rename_i hs
   injection e with e
   injection e with e1 e2
   subst e1 e2
   exact⟨hs,hd⟩
  ·rename_i hs
   refine Nr t g h fuel _ j dm (fun d hd'=>?_) e
   rw[adv] at hd'
   have:p.j=d:=by simpa using hd'
   rw[← this];exact hs
  ·split at e
   ·cases e
   ·exact Nr t g h fuel _ j dm (fun d hd'=>hd d (by rwa [adv] at hd')) e
theorem Aa5{t:SetTable}{h:Int}{j:Nat}{b:Bool}(e:t.freeSlot h=some (j,b)):t.place[SetTable.below t.place j]?≠some j:=by
 have nl:t.slot j=.empty∨t.slot j=.dummy:=by
  unfold SetTable.freeSlot at e
  split at e
  ·rename_i j' dm hp
   unfold SetTable.probe at hp
   obtain⟨a,b'⟩:=Nr t _ h _ _ j' dm (fun d hd=>by simp[SetTable.probeStart] at hd) hp
   injection e with e
   injection e with e1 e2
   cases dm with
   | none=>exact .inl (by rw[← e1];exact a)
   | some d=>exact .inr (by rw[← e1];exact b' d rfl)
  ·cases e
 intro z
 unfold SetTable.slot at nl
 dsimp only at nl
 rw[if_pos (by rw[z];simp)] at nl
 rcases nl with nl | nl <;> cases nl
def TOk (t t':SetTable):Prop:=t'.led=t.led∧((t.plain=true→Qm t.place)→t'.plain=true→Qm t'.place)
theorem S7(t:SetTable)(n:Nat):TOk t (t.standIn n):=⟨rfl,fun _ h=>by cases h⟩
theorem AgO{t t':SetTable}(h:TOk t t')(n:Nat):TOk t (t'.orStandIn n):=by
 unfold SetTable.orStandIn
 by_cases c:t'.fits n=true
 ·rw[if_pos c];exact h
 ·rw[if_neg c];exact⟨h.1,fun _ z=>by cases z⟩
theorem Afv(t:SetTable)(es:Array (Int × Value))(h:Int)(x:Value):TOk t (layNew t es h x).2.1:=by
 unfold layNew
 split
 ·rename_i slot wd e
  exact AgO (t:=t) (t':=(t.put slot).1) ⟨rfl,fun hr hp=>AbI (hr hp) (Aa5 e)⟩ _
 ·exact S7 _ _
theorem Adt{mask finger moves:Nat}{led plain:Bool}{hs:Array Int}{t':SetTable}{order:Array Nat}(e:SetTable.laid mask finger moves led plain hs=some (t',order)):t'.led=led∧t'.plain=plain∧Qm t'.place:=by
 unfold SetTable.laid at e
 cases ho:SetTable.layClean mask hs with
 | none=>rw[ho] at e;cases e
 | some owner =>
  rw[ho] at e
  have e':some (_,_)=some (t',order):=e
  injection e' with e'
  injection e' with e1 e2
  subst e1
  refine⟨rfl,rfl,?_⟩
  rw[S6]
  dsimp only
  refine List.Pairwise.map (R:=fun a b:Nat × Nat=>a.1<b.1) _ (fun a b h=>h) ?_
  refine List.Pairwise.filterMap (R:=(·<·)) _ (fun a a' haa b hb b' hb'=>?_) List.pairwise_lt_range
  cases h1:owner.getD a none with
  | none=>rw[h1] at hb;cases hb
  | some u =>
   cases h2:owner.getD a' none with
   | none=>rw[h2] at hb';cases hb'
   | some u' =>
    rw[h1] at hb;rw[h2] at hb'
    cases hb;cases hb'
    exact haa
theorem AbJ(t:SetTable)(es:Array (Int × Value))(n:Nat):TOk t (relayAll t es n).2.1:=by
 unfold relayAll
 split
 ·rename_i t' order e
  unfold SetTable.relaid at e
  obtain⟨a,b,c⟩:=Adt e
  dsimp only
  split
  ·exact⟨a,fun _ _=>c⟩
  ·exact S7 _ _
 ·exact S7 _ _
section
variable {prog:Program}{w:World}{A:Around}{E:Value→Shared→Prop}{s:Shared}{a:Addr}
def ky (e:Int × Value):Int:=match e.2 with | .int i _=>i | _=>0
structure IS (w:World) (o:Obj) (es:Array (Int × Value)) (ep:Nat) (t:SetTable):Prop where
 ex:o.ExactSet
 d:o.data=.set es ep t
 f:t.fits es.size=true
 ok:w.params.followText "set-order" = true∨(t.led=true∧(t.plain=true→Qm t.place))
 el:∀ e∈es.toList,(∃ k tk,e=(hashInt k,.int k tk))
 nd:(es.toList.map ky).Nodup
theorem IS.elems{o:Obj}{es:Array (Int × Value)}{ep:Nat}{t:SetTable}(h:IS w o es ep t):ElemsOf (intKind prog w) es.toList:=fun e he=>by
 obtain⟨k,tk,rfl⟩:=h.el e he
 exact⟨⟨k,intKind_is _ _ _ _,rfl⟩,rfl⟩
theorem IS.wk{o:Obj}{es:Array (Int × Value)}{ep:Nat}{t:SetTable}(h:IS w o es ep t):Wk w o es ep t:=⟨h.ex,h.d,h.f,h.ok.elim .inl fun z=>.inr (.inr z)⟩
theorem Aev{gv:Bool}(g:Sem Unit)(hg:g=match gv with | true=>rule "set.scan.the-table-gave-way" | false=>pure ()) {Q:Unit→Shared→Prop} (h:Q () s):wpAny (model prog w) A g Q E s:=by
 subst hg
 cases gv
 ·exact wpAny_pure h
 ·exact wpAny_rule h
theorem Z4{o:Obj}{es es':Array (Int × Value)}{ep:Nat}{t t':SetTable}(ho:s.heap.get? a=some o)(hd:o.data=.set es ep t):(s.heap.update a (Obj.putSet es' t')).get? a=some { o with data:=.set es' (ep+1) t' }:=by
 have:=Heap.get?_update_self (Obj.putSet es' t') ho (by rw[putSet_of es' t' hd];rfl)
 rw[putSet_of es' t' hd] at this
 exact this
theorem IS.to{o:Obj}{es es1:Array (Int × Value)}{ep:Nat}{t t1:SetTable}{v:Int}{tk:Tok}(h:IS w o es ep t)(hv:v∉es.toList.map ky)(hp:es1.toList.Perm (es.push (hashInt v,.int v tk)).toList)(hf:t1.fits es1.size=true)(hto:TOk t t1)(ep':Nat) :
  IS w { o with data:=.set es1 ep' t1 } es1 ep' t1:=by
 rw[Array.toList_push] at hp
 refine⟨h.ex,rfl,hf,h.ok.imp id fun z=>⟨by rw[hto.1];exact z.1,hto.2 z.2⟩,fun e he=>?_,?_⟩
 ·rcases List.mem_append.mp (hp.mem_iff.mp he) with he | he
  ·exact h.el e he
  ·rw[List.mem_singleton.mp he];exact⟨v,tk,rfl⟩
 ·refine(hp.map ky).nodup_iff.mpr ?_
  rw[AjY,List.nodup_append]
  refine⟨h.nd,by simp,fun x hx y hy e=>?_⟩
  have:y=v:=by simpa [ky] using hy
  rw[e,this] at hx
  exact hv hx
theorem Afw{o:Obj}{es:Array (Int × Value)}{ep:Nat}{t:SetTable}(h:IS w o es ep t)(ho:s.heap.get? a=some o){v:Int}{tk:Tok}(hb:es.size+1<scanBound){Q:Bool→Shared→Prop}
  (hQ:∀ h' o' es' ep' t' b,Heap.SameBut a s.heap h'→h'.get? a=some o'→IS w o' es' ep' t'→(∀ z,z∈es'.toList.map ky↔z∈es.toList.map ky∨z=v)→es'.size≤es.size+1→Q b { s with heap:=h' }) :
  wpAny (model prog w) A (setAddHashed a (.int v tk) (hashInt v)) Q E s:=by
 have hel:ElemsOf (intKind prog w) es.toList:=h.elems
 have hkey:(intKind prog w).is v (.int v tk)=true:=intKind_is _ _ _ _
 unfold setAddHashed setAddHashedIn
 refine wpAny_holding (wpAny_bind (wpAny_setState_of ho h.d h.f ?_))
 dsimp only
 rw[byScan_of (knd:=intKind prog w) rfl (Nat.lt_of_succ_lt hb) hel,if_pos rfl]
 unfold setAddByScan
 refine wpAny_bind (wpAny_bind (wpAny_rule (wpAny_bind (wpAny_setScan_of (knd:=intKind prog w) hkey ho h.d h.f hel ?_))))
 have mem:∀ e∈es.toList,((intKind prog w).is v e.2=true↔ky e=v):=fun e he=>by
  obtain⟨k,tk',rfl⟩:=h.el e he
  show Value.isInt v (.int k tk')=true↔k=v
  constructor
  ·intro z
   obtain⟨_,q⟩:=Value.isInt_shape z
   cases q
   rfl
  ·intro z
   rw[← z]
   exact intKind_is prog w k tk'
 cases hr:List.findIdx? (fun e=>(intKind prog w).is v e.2) es.toList with
 | some j =>
  dsimp only
  obtain⟨hj,hpj,_⟩:=List.findIdx?_eq_some_iff_getElem.mp hr
  refine wpAny_pure (wpAny_pure ?_)
  have hv:v∈es.toList.map ky:=List.mem_map.mpr ⟨_,AjU hj,(mem _ (AjU hj)).mp hpj⟩
  have:=hQ s.heap o es ep t false (Heap.SameBut.refl a s.heap) ho h (fun z=>⟨.inl,fun q=>q.elim id fun e=>e▸hv⟩) (Ak0 _)
  exact this
 | none =>
  dsimp only
  have hv:v∉es.toList.map ky:=fun q=>by
   obtain⟨e,he,hk⟩:=List.mem_map.mp q
   have:=List.findIdx?_eq_none_iff.mp hr e he
   rw[(mem e he).mpr hk] at this
   cases this
  have hperm:=layNew_perm t es (hashInt v) (.int v tk)
  have hfits:=layNew_fits t es (hashInt v) (.int v tk)
  have hto:=Afv t es (hashInt v) (.int v tk)
  generalize layNew t es (hashInt v) (.int v tk)=Ly at hperm hfits hto ⊢
  obtain⟨es1,t1,wd,gv⟩:=Ly
  dsimp only at hperm hfits hto ⊢
  refine wpAny_bind (Aev (gv:=gv) _ rfl ?_)
  have mm:∀ z,z∈es1.toList.map ky↔z∈es.toList.map ky∨z=v:=fun z=>by
   rw[(hperm.map ky).mem_iff,Array.toList_push,AjY,AkO]
   simp[ky]
  have sz:es1.size=es.size+1:=by rw[← Array.length_toList,hperm.length_eq,Array.toList_push,AjR,Array.length_toList];rfl
  have hb1:es1.size<scanBound:=by rw[sz];exact hb
  have g1:=Z4 (es':=es1) (t':=t1) ho h.d
  have I1:=h.to hv hperm hfits hto (ep+1)
  have b1:=Heap.SameBut.update s.heap a (Obj.putSet es1 t1)
  split
  all_goals
   refine wpAny_bind (wpAny_of_eq (a:=true) rfl ?_)
   simp only [↓reduceIte]
   refine wpAny_bind (wpAny_storeSet_of ho h.d ?_ (fits_of_scanBound hb1))
   split
   ·have rp:=relayAll_perm t1 es1 (SetTable.grown es1.size)
    have rf:=relayAll_fits t1 es1 (SetTable.grown es1.size)
    have rt:=AbJ t1 es1 (SetTable.grown es1.size)
    generalize relayAll t1 es1 (SetTable.grown es1.size)=Rl at rp rf rt ⊢
    obtain⟨es2,t2,gv2⟩:=Rl
    dsimp only at rp rf rt ⊢
    have sz2:es2.size=es1.size:=by rw[← Array.length_toList,rp.length_eq,Array.length_toList]
    refine wpAny_bind (Aev (gv:=gv2) _ rfl (wpAny_bind (wpAny_storeSet_of g1 rfl (wpAny_pure (wpAny_pure ?_)) (fits_of_scanBound (by rw[sz2];exact hb1)))))
    refine hQ _ _ es2 (ep+1+1) t2 true (b1.trans (Heap.SameBut.update _ a _)) (Z4 (s:={ s with heap:=s.heap.update a (Obj.putSet es1 t1) }) g1 rfl) ?_ (fun z=>by rw[(rp.map ky).mem_iff];exact mm z) (by rw[sz2,sz];exact AjQ _)
    exact⟨I1.ex,rfl,rf,I1.ok.imp id fun z=>⟨by rw[rt.1];exact z.1,rt.2 z.2⟩,fun e he=>I1.el e (rp.mem_iff.mp he),(rp.map ky).nodup_iff.mpr I1.nd⟩
   ·exact wpAny_pure (wpAny_pure (hQ _ _ es1 (ep+1) t1 true b1 g1 I1 mm (by rw[sz];exact AjQ _)))
end
end SetW
open PySem PySem.Spec PyProof.Rows
namespace SetW
section
variable {prog:Program}{w:World}{A:Around}{E:Value→Shared→Prop}{s:Shared}
theorem IS.fresh:IS w { cls:=.type "set", dict:=none,data:=.set #[] 0 (.fresh 0 0 (!w.params.followText "set-order")) } #[] 0 (.fresh 0 0 (!w.params.followText "set-order")):=by
 refine⟨⟨rfl,rfl,rfl⟩,rfl,rfl,?_,fun e he=>by simp at he,by simp⟩
 by_cases h:w.params.followText "set-order" = true
 ·exact .inl h
 ·refine .inr ⟨by simpa [SetTable.fresh] using h,fun _ i k h1 h2=>?_⟩
  simp[SetTable.fresh] at h2
theorem Adu{I:Addr}{fp wr:List Addr}{G:Array GenState→Array GenState→Prop}{n:Nat}{P:Nat→Value→Prop}{St:Nat→Shared→Prop}{R:Result→Shared→Prop}(W:WalksS prog w A.in1 I fp wr G n P St)(S:Addr)(hSf:S∉fp)
  (val:Nat→Int) (hval:∀ i v,P i v→∃ tk,v=.int (val i) tk) (hb:n+1<scanBound):∀(k i:Nat) (s:Shared) (o:Obj) (es:Array (Int × Value)) (ep:Nat) (t:SetTable),n-i=k→i≤n→St i s→s.heap.get? S=some o→IS w o es ep t→es.size≤i →
   (∀ z,z∈es.toList.map ky↔∃ j,j<i∧val j=z) →
   (∀ s' o' es' ep' t',Moved (S::wr) G s s'→s'.heap.get? S=some o'→IS w o' es' ep' t'→es'.size≤n→(∀ z,z∈es'.toList.map ky↔∃ j,j<n∧val j=z)→R (.ok (.ret .none)) s') →
   codeAny (model prog w) A (.builtin "set.update.loop" ⟨[.ref S,.ref I],[]⟩) R s:=by
 have hSw:S∉wr:=fun h=>hSf (W.sub _ h)
 have hsub:∀ b∈wr,b∈S::wr:=fun b hb=>Akk _ hb
 intro k
 induction k with
 | zero =>
  intro i s o es ep t hk hi hst ho hS hz hm hR
  obtain rfl:i=n:=by omega
  refine codeAny_builtin PyProof.Rows.F.entry_set_update_loop ?_
  rw[Around.under_plainId PyProof.Rows.F.plain_set_update_loop _]
  show wpAny _ A.in1 (pyNext (.ref I) >>= _) _ _ s
  refine wpAny_bind (W.done s _ _ hst fun s' mv=>?_)
  show wpAny _ A.in1 (ret Value.none) _ _ s'
  exact wpAny_pure (hR s' o es ep t (mv.mono hsub) (mv.heap S _ hSw ho) hS hz hm)
 | succ k ih =>
  intro i s o es ep t hk hi hst ho hS hz hm hR
  have hlt:i<n:=by omega
  refine codeAny_builtin PyProof.Rows.F.entry_set_update_loop ?_
  rw[Around.under_plainId PyProof.Rows.F.plain_set_update_loop _]
  show wpAny _ A.in1 (pyNext (.ref I) >>= _) _ _ s
  refine wpAny_bind (W.item i s _ _ hlt hst fun v s' hP hst' mv=>?_)
  obtain⟨tk,rfl⟩:=hval i v hP
  show wpAny _ A.in1 (holding [Value.int (val i) tk] (setAdd S (.int (val i) tk)) >>= _) _ _ s'
  refine wpAny_bind (wpAny_holding ?_)
  unfold setAdd
  refine wpAny_holding (wpAny_bind ((intKind prog w).pyHash (k:=val i) (intKind_is _ _ _ _) ?_))
  refine Afw (s:={ s' with toks:=s'.toks+1 }) hS (mv.heap S _ hSw ho) (by omega) fun h' o' es' ep' t' b sb ho' hS' hm' hz'=>?_
  refine wpAny_pure ⟨plainId_quiet PyProof.Rows.F.plain_set_update_loop _,ih (i+1) _ o' es' ep' t' (by omega) hlt (W.frame _ s' _ _ hst' (Ak0 _) fun b hb ob e=>?_) ho' hS' (by omega) (fun z=>?_) fun s'' o2 es2 ep2 t2 mv2 ho2 hS2 hz2 hm2=>?_⟩
  ·rw[sb.2 b (fun h:b=S=>hSf (by rw[← h];exact hb))];exact e
  ·rw[hm' z,hm z]
   constructor
   ·rintro(⟨j,hj,e⟩ | e)
    ·exact⟨j,by omega,e⟩
    ·exact⟨i,by omega,e.symm⟩
   ·rintro⟨j,hj,e⟩
    by_cases c:j=i
    ·exact .inr (by rw[← e,c])
    ·exact .inl ⟨j,by omega,e⟩
  ·refine hR s'' o2 es2 ep2 t2 (Moved.trans W.gtrans ((mv.mono hsub).then_heap (Ak0 _) fun b ob hb e=>?_) mv2) ho2 hS2 hz2 hm2
   rw[sb.2 b (fun h:b=S=>hb (by rw[h];exact Ake))];exact e
end
end SetW
open PySem PySem.Spec PyProof.Rows
namespace SetW
section
variable {prog:Program}{w:World}{A:Around}{E:Value→Shared→Prop}{s:Shared}
def frs (w:World):Obj:={ cls:=.type "set", dict:=none,data:=.set #[] 0 (.fresh 0 0 (!w.params.followText "set-order")) }
theorem Afx(v:Value){Q₁:Value→Shared→Prop}(h:Q₁ (.ref s.heap.objs.size) { s with heap:=s.heap.push (frs w) }):codeAny (model prog w) A (.call (.builtin "set.__new__") ⟨[.type "set", v],[]⟩) (wants Q₁ E) s:=by
 refine codeAny_of_tree ?_
 show wpAny _ A.in1 (do checkBuiltinCall "set.__new__" ⟨[.type "set", v],[]⟩;again (.builtin "set.__new__" ⟨[.type "set", v],[]⟩)) _ _ s
 refine wpAny_bind (wpAny_of_eq (PySem.F.newCall_set_1 v) (wpAny_pure ⟨plainId_quiet PySem.F.plain_set_new _,codeAny_builtin PySem.F.entry_set_new ?_⟩))
 rw[Around.under_plainId PySem.F.plain_set_new _]
 unfold Builtin.«set.__new__» Builtin.Frozenset.newClass
 have hsub:=sub_set_self
 obtain⟨hp,g,d,tk,os⟩:=s
 dsimp only
 wp_walk
 refine wpAny_askSetting (wpAny_pure ?_)
 dsimp only
 simp only [newObj]
 exact wpAny_bind (wpAny_alloc (wpAny_pure (wpAny_pure h)))
set_option maxHeartbeats 4000000 in
theorem Adv{l:Addr}{items:Array Value}{ns:List Int}{Q:Value→Shared→Prop}(hh:A.handled=none)(hl:s.heap.IsList l items)(hi:IntsAre items.toList ns)(hb:items.size+1<scanBound)
  (h:∀(h':Heap) (tk:Nat) o es ep t,h'.get? s.heap.objs.size=some o→IS w o es ep t→es.size≤items.size→(∀ z,z∈es.toList.map ky↔∃ j,j<items.size∧ns.getD j 0=z) →
   (∀ b o,s.heap.get? b=some o→h'.get? b=some o)→Q (.ref s.heap.objs.size) { s with heap:=h',toks:=tk }):wpAny (model prog w) A (call (.type "set") [.ref l]) Q E s:=by
 obtain⟨c,tl,hmro⟩:=PySem.F.called_set.mro
 have hmade:=PySem.F.called_set.made
 have hsub:=PySem.F.called_set.sub
 refine wpAny_call (codeAny_of_tree ?_)
 show wpAny _ _ (callAny (.type "set") _) _ _ _
 refine wpAny_pure ⟨Code.quiet_builtin _ (by decide +kernel),codeAny_builtin PySem.F.entry_type_call ?_⟩
 rw[Around.under_plain (weight_type_call_type "set" [.ref l] []) rfl]
 have h1:=PySem.F.called_set.notType
 have h2:=PySem.F.called_set.canCreate
 have hct:=PySem.F.typeCall_set_1 (.ref l)
 repeat (any_goals (first | assumption | wp_step))
 refine codeAny_mono (Afx (.ref l) (E:=E) (Q₁:=fun obj s₁=>obj=.ref s.heap.objs.size∧s₁={ s with heap:=s.heap.push (frs w) }) ⟨rfl,rfl⟩) fun r s₁ hr=>?_
 cases r with
 | error e=>exact hr
 | ok fl =>
  cases fl with
  | ret obj =>
   obtain⟨rfl,rfl⟩:=hr
   have hS:(s.heap.push (frs w)).get? s.heap.objs.size=some (frs w):=Heap.get?_push_size _ rfl
   have hT:Shared.TypeIs { s with heap:=s.heap.push (frs w) } (.ref s.heap.objs.size) "set" := ⟨_,hS,rfl⟩
   have hli:=PySem.F.called_set.init.lookup
   have hbi:=PySem.F.called_set.init.bind (.ref s.heap.objs.size)
   repeat (any_goals (first | assumption | wp_step))
   refine codeAny_mono (codeAny_call_builtin (R:=wants (fun r s₂=>r=.none∧∃ h' tk o es ep t,s₂={ s with heap:=h',toks:=tk }∧h'.get? s.heap.objs.size=some o∧IS w o es ep t∧es.size≤items.size∧(∀ z,z∈es.toList.map ky↔∃ j,j<items.size∧ns.getD j 0=z) ∧
     (∀ b o,s.heap.get? b=some o→h'.get? b=some o)) E) PySem.F.called_set.init.plain PySem.F.entry_set_init (check_set_init_1 hT ?_)) fun r₂ s₂ hr₂=>?_
   ·obtain⟨ol,hol,hcl,nl,hdl⟩:=hl
    obtain⟨ocls,odict,odata,oslots⟩:=ol
    simp only at hcl hdl
    subst hcl hdl
    have hlS:l<s.heap.objs.size:=Heap.lt_size hol
    obtain⟨h1,eh1⟩:∃ h1,h1=s.heap.push (frs w):=⟨_,rfl⟩
    have z1:h1.objs.size=s.heap.objs.size+1:=by rw[eh1,Heap.size_push]
    have k1:∀ b ob,s.heap.get? b=some ob→h1.get? b=some ob:=fun b ob e=>by rw[eh1];exact Heap.get?_push_of_some _ e
    rw[← eh1] at hS hT ⊢
    have hol':=k1 _ _ hol
    have hl1:h1.IsList l items:=⟨_,hol',rfl,nl,rfl⟩
    have hsls:=PySem.F.sub_list_set
    have hslf:=PySem.F.sub_list_frozenset
    have hne:(Value.type "list" == Value.type "dict")=false:=by decide
    have hS':h1.get? s.heap.objs.size=some { cls:=.type "set", dict:=none,data:=.set #[] 0 (.fresh 0 0 (!w.params.followText "set-order")) }:=hS
    unfold Builtin.«set.__init__» noKeywords Builtin.Frozenset.updateFrom
    generalize hPI:pyIter=PI
    wp_walk
    subst hPI
    refine wpAny_pyIter_list hl1 ?_
    obtain⟨h2,eh2⟩:∃ h2,h2=h1.push { cls:=.type "list_iterator", data:=.fields #[.ref l,.int 0 0] }:=⟨_,rfl⟩
    show wpAny _ _ _ _ _ { s with heap:=h1.push { cls:=.type "list_iterator", data:=.fields #[.ref l,.int 0 0] } }
    rw[← eh2]
    have k2:∀ b ob,h1.get? b=some ob→h2.get? b=some ob:=fun b ob e=>by rw[eh2];exact Heap.get?_push_of_some _ e
    have hit2:h2.IsListIter h1.objs.size l 0:=by rw[eh2];exact⟨_,Heap.get?_push_size _ rfl,rfl,rfl⟩
    have hl2:h2.IsList l items:=⟨_,k2 _ _ hol',rfl,nl,rfl⟩
    refine wpAny_bind (wpAny_runValue ?_)
    have hh3:A.in1.in1.in1.handled=none:=by simp[hh]
    have hneI:l≠h1.objs.size:=by rw[z1];exact AjS (Aku hlS)
    have hSf:s.heap.objs.size∉[h1.objs.size,l]:=by
     simp only [Akl,Akm,or_false,not_or]
     exact⟨by rw[z1];exact AjS (Akx _),Akq hlS⟩
    have hval:∀(i:Nat) (v:Value),items[i]?=some v→∃ tk,v=.int ((fun i=>ns.getD i 0) i) tk:=fun i v hv=>IntsAre.int_at hi i v (by rw[Array.getElem?_toList];exact hv)
    refine Adu ((Walks.list hh3 h1.objs.size l hneI items).toS) s.heap.objs.size hSf (fun i=>ns.getD i 0) hval hb (items.size-0) 0 _ _ #[] 0 _ (by omega) (Akb _) ⟨hit2,hl2⟩ (k2 _ _ hS') IS.fresh (Akb _) (fun z=>by simp) fun s' o es ep t mv ho hI hz hm=>?_
    obtain⟨h',g',d',tk',os'⟩:=s'
    have eg:g'=s.gens:=mv.gens
    have ed:d'=s.drawn:=mv.drawn
    have eo:os'=s.os:=mv.os
    subst eg ed eo
    show wpAny _ _ _ _ _ _
    refine wpAny_pure ?_
    show wpAny _ _ (ret Value.none) _ _ _
    refine wpAny_pure ⟨rfl,h',tk',o,es,ep,t,rfl,ho,hI,hz,hm,fun b ob e=>?_⟩
    have lb:=Heap.lt_size e
    refine mv.heap b ob ?_ (k2 _ _ (k1 _ _ e))
    simp only [Akl,Akm,or_false,not_or]
    exact⟨AjS lb,by rw[z1];exact AjS (Aku lb)⟩
   ·cases r₂ with
    | error e=>exact hr₂
    | ok fl₂ =>
     cases fl₂ with
     | ret r =>
      obtain⟨rfl,h',tk,o,es,ep,t,rfl,a1,a2,a3,a4,a5⟩:=hr₂
      repeat (any_goals (first | assumption | wp_step))
      exact h _ _ o es ep t a1 a2 a3 a4 a5
     | _=>exact hr₂.elim
  | _=>exact hr.elim
end
end SetW
open PySem PySem.Spec PyProof.Rows
section
variable {X:Cx}{K:PySem.W.Frag}{p1 p2 pos1 pos2:Pos}{e:Expr}{te:TE}
theorem Inv.drew{X:Cx}{pins:List (Addr × Obj)}{σ:St}{H:Hp}{s:Shared}{d:Drawn}(I:Inv X pins σ H s):Inv X pins σ H { s with drawn:=d }:=⟨I.ok,I.os,I.bare,I.base,I.loc,I.cell,I.free,I.Ho,I.pin,I.hok,I.len⟩
def AbK (K:PySem.W.Frag)(te:TE):TE:=fun σ H Q=>te σ H fun x H1=>∃ a ns,x=.ref a∧SqL K H1 a (vI ns)∧ns.length≤4000∧(∀ ds:List Int,ds.Nodup→(∀ z∈ds,z∈ns)→ds.length<64) ∧
 ∀ l ns',(∀ z,z∈ns'↔z∈ns)→ns'.Pairwise (·<·)→H1 l=none→Q (.ref l) (upd H1 l (.lst (vI ns')))
theorem Xm:∀{l:List Int},l.Pairwise (·≤·)→l.Nodup→l.Pairwise (·<·):=fun h n=>(h.and n).imp fun {a b} ⟨h1,h2⟩=>by omega
theorem YK(hg1:Gl X "sorted") (hm1:X.mg "sorted" = none) (hg2:Gl X "set") (hm2:X.mg "set" = none) (he:PE X e te) (hK:X.K=K:=by rfl) (hc:X.calm=true:=by rfl)
  (hs2:starEach [e] X.env=(false,eval e X.env)::starEach [] X.env:=by rfl)
  (hs1:starEach [.Call (.Name "set" p2) [e] [] pos2] X.env=(false,eval (.Call (.Name "set" p2) [e] [] pos2) X.env)::starEach [] X.env:=by rfl)
  (hq1:(backTo pos1 (starEach [] X.env)).any (·.1)=false:=by rfl) (hq2:(backTo pos2 (starEach [] X.env)).any (·.1)=false:=by rfl) :
  PE X (.Call (.Name "sorted" p1) [.Call (.Name "set" p2) [e] [] pos2] [] pos1) (AbK K te):=by
 subst hK
 intro pins s σ H Q I h
 have hsz:sizeLine=16777216:=sizeLine_eq
 refine wpAny_Call_Name_kw (HX I hg1 hm1 Aam ?_ (by decide) (by decide))
 refine PyProof.Rows.callWith_builtin1 ?_ hs1 hq1
 rw[hs1]
 show wpAny _ _ (spliced ((false,eval (.Call (.Name "set" p2) [e] [] pos2) X.env)::backTo pos1 (starEach [] X.env))) _ _ s
 refine Calls.spliced_cons ?_
 refine wpAny_Call_Name_kw (HX I hg2 hm2 Afd ?_ (by decide) (by decide))
 refine PyProof.Rows.callWith_type1 ?_ hs2 hq2
 rw[hs2]
 show wpAny _ _ (spliced ((false,eval e X.env)::backTo pos2 (starEach [] X.env))) _ _ s
 refine Calls.spliced_cons (thn (he pins s σ H _ I h) fun u s1 ⟨x,H1,I1,r1,a,ns,ex,hq,h4,h64,q⟩=>?_)
 subst ex
 cases r1
 refine Calls.spliced_nil ?_
 obtain⟨its,r,pl,hz⟩:=I1.list hq
 have hi:IntsAre its ns:=intsAre_of r
 have hlen:its.length=ns.length:=hi.length
 refine SetW.Adv (items:=its.toArray) (I.ok.hd hc) pl.isList hi (by rw[AjZ,hlen];show _+1<4096;omega) fun h' tk o es ep t go gi gz gm gk=>?_
 refine Calls.spliced_nil ?_
 have mem:∀ z,z∈es.toList.map SetW.ky↔z∈ns:=fun z=>by
  rw[gm z,AjZ,hlen]
  constructor
  ·rintro⟨j,hj,e⟩
   rw[← e,AjV,AjO hj]
   exact AjU hj
  ·intro hz
   obtain⟨j,hj,e⟩:=Aky hz
   exact⟨j,hj,by rw[AjV,AjO hj];exact e⟩
 have e64:es.size<64:=by
  have:=h64 _ gi.nd fun z hz=>(mem z).mp hz
  rwa [AjP,Array.length_toList] at this
 refine SetW.YJ (s:={ s1 with heap:=h',toks:=tk }) (key:=SetW.ky) gi.wk go (I.ok.hd hc) e64 (fun e he=>?_) fun h2 d tk2 l ep2 out ns' k2 hl2 hg2 hi2 hp2 hr2=>?_
 ·obtain⟨k,tk',rfl⟩:=gi.el e he
  exact⟨tk',rfl⟩
 ·have hns:ns'.Nodup:=hp2.nodup_iff.mpr gi.nd
  have hl1:s1.heap.objs.size≤l:=AkA (Akc (Heap.lt_size go) hl2)
  refine⟨.ref l,_,(I1.laid (t':=tk2) (h':=h2) (a:=l) (o:=.lst (vI ns')) (fun b u e=>k2 _ _ (gk _ _ e)) hl1 ?_).drew,rfl,q l ns' (fun z=>by rw[hp2.mem_iff];exact mem z) (Xm hr2 hns) (I1.hok.fresh hl1)⟩
  have:ns'.length<64:=by rw[hp2.length_eq,AjP,Array.length_toList];exact e64
  refine⟨by rw[BR];omega,out.toList,ep2,Qi hi2,?_⟩
  rw[hg2]
end
open PySem PySem.Spec PyProof.Rows
section
variable {X:Cx}
def Z5 (z:Str):Value→Bool
 | .str a _=>a.cps.toList == z.cps.toList
 | _=>false
theorem S8{zs:List Str}{us:List Value}(r:Vals (zs.map V.str) us){j:Nat}{u:Value}(h:us[j]?=some u):∃ k t,zs[j]?=some k∧u=.str k t:=by
 have hj:=(List.getElem?_eq_some_iff.mp h).1
 have l:=r.length
 rw[AjP] at l
 have hk:j<zs.length:=by omega
 obtain⟨u',e,q⟩:=r.get (i:=j) (x:=.str zs[j]) (by rw[Aka,AjO hk];rfl)
 rw[h] at e
 cases e
 obtain⟨t,rfl⟩:=q
 exact⟨zs[j],t,AjO hk,rfl⟩
def AgP:V→List V→Hp→VK→Prop:=fun x vs H Q=>∃(l:Addr) (zs:List Str) (z:Str) (j:Nat),x=.ref l∧vs=[.str z]∧H l=some (.lst (zs.map V.str))∧zs[j]?=some z∧(∀ i,i<j→zs[i]?≠some z)∧zs.length≤1000∧Q (.int (j:Int)) H
theorem Z6:MtR X "list.index" AgP:=by
 intro pins s σ H x vs v us Q I rx rv h
 obtain⟨l,zs,z,j,rfl,rfl,hH,hj,hno,hz,q⟩:=h
 cases rx
 obtain⟨u,rfl,ru⟩:=rv.one
 obtain⟨t,rfl⟩:=ru
 obtain⟨zz,its,n,r,hl,e⟩:=I.Abn hH
 have lr:=r.length
 rw[AjP] at lr
 have jl:j<its.length:=by have:=(List.getElem?_eq_some_iff.mp hj).1;omega
 have ja:j<its.toArray.size:=by rw[AjZ];exact jl
 have hit:Z5 z its.toArray[j]=true:=by
  obtain⟨k',t',e1,e2⟩:=S8 r (AjO jl)
  rw[hj] at e1
  cases e1
  rw[AkX,e2]
  exact beq_self_eq_true z.cps.toList
 have hn:∀ m (hm:m<its.toArray.size),m<j→Z5 z its.toArray[m]=false:=fun m hm hmj=>by
  have ml:m<its.length:=by rw[AjZ] at hm;exact hm
  obtain⟨k',t',e1,e2⟩:=S8 r (AjO ml)
  have:=hno m hmj
  rw[AkX,e2]
  show(k'.cps.toList == z.cps.toList)=false
  rw[beq_eq_false_iff_ne]
  intro ez
  have ek:k'=z:=by
   cases k';cases z
   exact congrArg Str.mk (Array.toList_inj.mp ez)
  rw[ek] at e1
  exact this e1
 have he:∀ y,y∈its.toArray→MeetsSeq.EqGives y (.str z t) (Z5 z y):=fun y hy=>by
  have hy:y∈its:=by simpa using hy
  obtain⟨m,hm,em⟩:=Aky hy
  obtain⟨k',t',e1,e2⟩:=S8 r (AjO hm)
  rw[← em,e2]
  exact SeqRoads2.EqGives.str k' z t' t
 refine call_meets F.slot_list_index ⟨_,e,rfl⟩ F.entry_list_index (F.args_list_index_2 _ _)
  (MeetsSeq.list_index l its.toArray n (.str z t) (Z5 z) he j ja (by omega) hit hn) ⟨e,?_⟩
 exact⟨.int _,H,I.tok _,⟨_,rfl⟩,q⟩
end
open PySem PySem.Spec PyProof.Rows
inductive YL (K:PySem.W.Frag) (H:Hp):V→V→Bool→Prop
 | tup {a b:Addr} {xs ys:List V}:SqT K H a xs→SqT K H b ys→xs.all Gb=true→ys.all Gb=true→YL K H (.ref a) (.ref b) (eqL xs ys)
 | lst {a b:Addr} {xs ys:List V}:SqL K H a xs→SqL K H b ys→xs.all Gb=true→ys.all Gb=true→YL K H (.ref a) (.ref b) (eqL xs ys)
 | flat {x y:V}:Gb x=true→Gb y=true→YL K H x y (eqV x y)
section
variable {X:Cx}{K:PySem.W.Frag}{pins:List (Addr × Obj)}{σ:St}{H:Hp}{s:Shared}
def AjF (K:PySem.W.Frag)(no:Bool):R2:=fun x y H Q=>∃(q:Addr) (xs:List V),y=.ref q∧SqL K H q xs ∧
 (((∀(i:Nat) (z:V),xs[i]?=some z→∃ b,YL K H z x b)∧(∃(i:Nat) (z:V),xs[i]?=some z∧YL K H z x true)∧Q (.bl (!no)) H)∨((∀(i:Nat) (z:V),xs[i]?=some z→YL K H z x false)∧Q (.bl no) H))
def Ajf (K:PySem.W.Frag):V→List V→Hp→VK→Prop:=fun x vs H Q=>∃(l:Addr) (xs:List V) (v:V) (j:Nat),x=.ref l∧vs=[v]∧H l=some (.lst xs)∧j<xs.length∧xs.length≤1000 ∧
 (∀(i:Nat) (z:V),xs[i]?=some z→∃ b,YL K H z v b∧(i<j→b=false)∧(i=j→b=true))∧Q (.int (j:Int)) H
end
open PySem PySem.Spec PyProof.Rows
abbrev ZX (h:Heap) (z TI TO T0:Addr) (f:Bool):Prop :=
 h.get? z=some { cls:=.type "zip", dict:=none,data:=.fields #[rawInt T0,.bool f,.bool false,.ref TI,.ref TO],slots:=#[] }
section
variable {prog:Program}{w:World}{A:Around}{E:Value→Shared→Prop}{s:Shared}
structure ZL (P1 P2:Nat→Value→Prop) (S1 S2:Nat→Heap→Prop) (z TI TO i1 i2 M B:Addr) (s0:Shared) (i:Nat) (Ts:List Addr) (s:Shared):Prop where
 st1:S1 i s.heap
 st2:S2 i s.heap
 zp:(i=0∧IsZip s.heap z TI TO .none∧∃ a b,IsPair s.heap TO a b)∨∃ T0 f,ZX s.heap z TI TO T0 f∧Ts[0]?=some T0
 ti:IsPair s.heap TI (.ref i1) (.ref i2)
 acc:∃ c,s.heap.get? M=some { cls:=.type "list", dict:=none,data:=.seq (Ts.map Value.ref).toArray c,slots:=#[] }
 len:Ts.length=i
 tup:∀(j:Nat) (T:Addr),Ts[j]?=some T→B≤T∧T<s.heap.objs.size∧∃ x y,P1 j x∧P2 j y∧s.heap.get? T=some { cls:=.type "tuple", data:=.seq #[x,y] }
 nd:Ts.Nodup
 big:B≤s.heap.objs.size
 old:∀ b o,b≠z→b≠TO→b≠i1→b≠i2→b≠M→s0.heap.get? b=some o→s.heap.get? b=some o
 rest:∃ h tk,s={ s0 with heap:=h,toks:=tk }
end
section
variable {prog:Program}{w:World}{A:Around}{E:Value→Shared→Prop}{s:Shared}{R:Result→Shared→Prop}
end
section
variable {X:Cx}{K:PySem.W.Frag}{a b:Expr}{ta:TA}{p1 p2 pos1 pos2:Pos}
def AgQ (K:PySem.W.Frag)(ta:TA):TE:=fun σ H Q=>ta σ H fun vs H1=>∃(x y:Addr) (xs ys:List V),vs=[.ref x,.ref y]∧SqL K H1 x xs∧SqL K H1 y ys∧xs.length=ys.length∧xs.length≤1000∧∀(l:Addr) (Ts:List Addr) (H':Hp),Av H1 H'→H1 l=none→H' l=some (.lst (Ts.map V.ref))→Ts.length=xs.length →
 (∀(j:Nat) (T:Addr) (u v:V),Ts[j]?=some T→xs[j]?=some u→ys[j]?=some v→H' T=some (.tup [u,v]))→Q (.ref l) H'
end
open PySem PySem.Spec PyProof.Rows
inductive Aa6 (K:PySem.W.Frag) (H:Hp):Nat→V→V→Prop where
 | flat {n:Nat} {x:V} (h:Gb x=true):Aa6 K H n x x
 | lst {n:Nat} {p q:Addr} {xs ys:List V} (hp:SqL K H p xs) (hq:SqL K H q ys) (hl:xs.length=ys.length) (hi:∀(i:Nat) (x y:V),xs[i]?=some x→ys[i]?=some y→Aa6 K H n x y):Aa6 K H (n+1) (.ref p) (.ref q)
 | tup {n:Nat} {p q:Addr} {xs ys:List V} (hp:SqT K H p xs) (hq:SqT K H q ys) (hl:xs.length=ys.length) (hi:∀(i:Nat) (x y:V),xs[i]?=some x→ys[i]?=some y→Aa6 K H n x y):Aa6 K H (n+1) (.ref p) (.ref q)
section
variable {X:Cx}{K:PySem.W.Frag}
def AgR (K:PySem.W.Frag)(H:Hp)(p q:Addr):Prop:=∃ xs ys:List V,SqL K H p xs∧SqL K H q ys∧xs.length=ys.length∧∀(i:Nat) (x y:V),xs[i]?=some x→ys[i]?=some y→Aa6 K H 50 x y
def AjG (K:PySem.W.Frag):R2:=fun x y H Q=>∃ p q,x=.ref p∧y=.ref q∧AgR K H p q∧Q (.bl true) H
def AjH (K:PySem.W.Frag):R2:=fun x y H Q=>∃ p q,x=.ref p∧y=.ref q∧AgR K H p q∧Q (.bl false) H
end
open PySem PySem.Spec PyProof.Rows
section
variable {X:Cx}{K:PySem.W.Frag}
def Ajg (K:PySem.W.Frag):R2:=fun x y H Q=>∃(p q:Addr) (js ks:List Int),x=.ref p∧y=.ref q∧SqT K H p (vI js)∧SqT K H q (vI ks)∧Q (.bl (!decide (js=ks))) H
end
open PySem PySem.Spec PyProof.Rows
section
variable {X:Cx}{K:PySem.W.Frag}{k:Nat}{f C:Addr}{fd:FuncData}{ps:List Str}{sp:Sp}{dvs:List V}{ds:List Value}{x m:Str}{p pos apos:Pos}{e o:Expr}{es:List Expr}{ta:TE}{t:TA}
theorem JW{c:Expr}{a b:List Stmt}{tc:TT}{t1 t2:XK→TS}(hc:PT X.nox c tc)(ha:Adg X a t1)(hb:Adg X b t2):PSX X (.If c a b pos) fun E=>Agn tc (t1 E) (t2 E):=by
 intro pins s σ H D E I h
 refine wpAny_If (wpAny_mono (hc pins s σ H _ (I.wish _) h) (fun d s1 ⟨H1,I1,q1⟩=>?_) fun _ _ z=>z.elim)
 cases d with
 | true=>exact ha pins s1 σ H1 D E I1.Gy q1
 | false=>exact hb pins s1 σ H1 D E I1.Gy q1
def AjI (K:PySem.W.Frag):R2:=fun x y H Q=>∃ p q xs,x=.ref p∧y=.ref q∧SqL K H p xs∧SqL K H q []∧Q (.bl (!xs.isEmpty)) H
def AjJ (K:PySem.W.Frag):R2:=fun x y H Q=>∃ p q xs,x=.ref p∧y=.ref q∧SqL K H p xs∧SqL K H q []∧Q (.bl xs.isEmpty) H
end
open PySem PySem.Spec PyProof.Rows
def vB (bs:List Bool):List V:=bs.map V.bl
section
variable {X:Cx}{K:PySem.W.Frag}
end
open PySem PySem.Spec PyProof.Rows
section
variable {X:Cx}{K:PySem.W.Frag}
theorem Aa7:HY X (.type "range") (fun xs H Q=>∃ b,xs=[.int b]∧∀ p,H p=none→Q (.ref p) (upd H p (Y4 p 0 b 1))):=by
 intro pins s σ H xs us Q I rv h
 obtain⟨b,rfl,q⟩:=h
 obtain⟨u1,rfl,r1⟩:=rv.one
 obtain⟨t,rfl⟩:=r1
 exact call_range_1 (Ab3 I q)
end
theorem Adw{n:Nat}(h:n≤1000):Builtin.Range.rangeSize 0 (n:Int) 1=(n:Int)∧Builtin.Range.small 0 (n:Int) 1=true∧Y5 0 1 n=(List.range n).map fun(i:Nat)=>((i:Nat):Int):=by
 have rs:Builtin.Range.rangeSize 0 (n:Int) 1=(n:Int):=by
  unfold Builtin.Range.rangeSize
  rw[if_pos (by decide)]
  by_cases h:(0:Int)<(n:Int)
  ·rw[if_pos h,Int.ediv_one]
   omega
  ·rw[if_neg h]
   omega
 refine⟨rs,?_,?_⟩
 ·have fits:∀{z:Int},-1000000≤z→z≤1000000→Builtin.Range.rangeFitsLong z=true:=fun {z} h1 h2=>by
   unfold Builtin.Range.rangeFitsLong
   simp only [Ak3,decide_eq_true_eq]
   omega
  unfold Builtin.Range.small
  rw[rs,fits (by omega) (by omega),fits (by omega) (by omega),fits (by omega) (by omega),fits (by omega) (by omega)]
  simp only [show(1:Int)>0 by decide,if_true,Bool.true_and,Bool.or_eq_true]
  exact .inr trivial
 ·unfold Y5
  refine List.map_congr_left fun i _=>?_
  omega
open PySem PySem.Spec PyProof.Rows
section
variable {X:Cx}
def isNum(z:Int):Value→Bool
 | .int a _=>a == z
 | _=>false
theorem S9{ks:List Int}{us:List Value}(r:Vals (vI ks) us){j:Nat}{u:Value}(h:us[j]?=some u):∃ k t,ks[j]?=some k∧u=.int k t:=by
 have hj:=(List.getElem?_eq_some_iff.mp h).1
 have l:=r.length
 rw[BR] at l
 have hk:j<ks.length:=by omega
 obtain⟨u',e,q⟩:=r.get (i:=j) (x:=.int ks[j]) (Ib (AjO hk))
 rw[h] at e
 cases e
 obtain⟨t,rfl⟩:=q
 exact⟨ks[j],t,AjO hk,rfl⟩
theorem AbL(ks:List Int)(j:Nat):(vI ks).eraseIdx j=vI (ks.eraseIdx j):=by
 unfold vI
 induction ks generalizing j with
 | nil=>rfl
 | cons a ks ih =>
  cases j with
  | zero=>rfl
  | succ j=>exact congrArg (_::·) (ih j)
def Adx:V→List V→Hp→VK→Prop:=fun x vs H Q=>∃ l ks z j,x=.ref l∧vs=[.int z]∧H l=some (.lst (vI ks))∧ks[j]?=some z∧(∀ i,i<j→ks[i]?≠some z)∧ks.length≤1000∧Q .non (upd H l (.lst (vI (ks.eraseIdx j))))
theorem U5:MtM X "list.remove" Adx:=by
 intro pins s σ H x vs v us Q I rx rv h
 obtain⟨l,ks,z,j,rfl,rfl,hH,hj,hno,hz,q⟩:=h
 cases rx
 obtain⟨u,rfl,ru⟩:=rv.one
 obtain⟨t,rfl⟩:=ru
 obtain⟨zz,its,n,r,hl,e⟩:=I.Abn hH
 have hsz:sizeLine=16777216:=sizeLine_eq
 have lr:=r.length
 rw[BR] at lr
 have jl:j<its.length:=by have:=(List.getElem?_eq_some_iff.mp hj).1;omega
 have ja:j<its.toArray.size:=by rw[AjZ];exact jl
 have hit:isNum z its.toArray[j]=true:=by
  obtain⟨k',t',e1,e2⟩:=S9 r (AjO jl)
  rw[hj] at e1
  cases e1
  rw[AkX,e2]
  exact beq_self_eq_true z
 have hn:∀ m (hm:m<its.toArray.size),m<j→isNum z its.toArray[m]=false:=fun m hm hmj=>by
  have ml:m<its.length:=by rw[AjZ] at hm;exact hm
  obtain⟨k',t',e1,e2⟩:=S9 r (AjO ml)
  have:=hno m hmj
  rw[AkX,e2]
  show(k' == z)=false
  rw[beq_eq_false_iff_ne]
  intro ez
  rw[ez] at e1
  exact this e1
 have he:∀ y,y∈its.toArray→MeetsSeq.EqGives y (.int z t) (isNum z y):=fun y hy=>by
  have hy:y∈its:=by simpa using hy
  obtain⟨m,hm,em⟩:=Aky hy
  obtain⟨k',t',e1,e2⟩:=S9 r (AjO hm)
  rw[← em,e2]
  exact MeetsSeq.EqGives.int k' z t' t
 refine call_meets F.slot_list_remove ⟨_,e,rfl⟩ F.entry_list_remove (F.args_list_remove_2 _ _)
  (MeetsSeq.list_remove l its.toArray n (.int z t) (isNum z) he j ja hit hn (by rw[AjZ];omega)) ⟨e,?_⟩
 refine⟨.non,_,I.Ag3 (its':=its.eraseIdx j) (ys:=(vI ks).eraseIdx j) hH e ?_ (r.eraseIdx j) ?_,rfl,?_⟩
 ·show its.toArray.eraseIdxIfInBounds j=(its.eraseIdx j).toArray
  rw[List.eraseIdxIfInBounds_toArray]
 ·have:=Ux (vI ks) j
  rw[BR] at this
  omega
 ·rw[AbL];exact q
end
end L2
namespace Mine
open PySem L2
def Sg (c:Nat):Prop:=c=35∨c=46
structure Cl (cl:List (List Nat)) (m n:Nat):Prop where
 hn:cl.length=n
 hm:∀ t∈cl,t.length=m
 sg:∀ t∈cl,∀ c∈t,Sg c
 m1:1≤m
 m40:m≤40
 n1:1≤n
 n40:n≤40
def flip(c:Nat):Nat:=if c=35 then 46 else 35
def back(cl:List (List Nat)):List (List Nat):=cl.map fun t=>t.reverse.map flip
def col (cl:List (List Nat))(e:Nat):List Nat:=cl.map fun t=>t.getD e 0
def Ajh (cl:List (List Nat))(m:Nat):List (List Nat):=(List.range m).map fun e=>(col cl e).map flip
def sgn (cl:List (List Nat))(m n:Nat)(x y:Int):Nat:=(cl.getD (y%(n:Int)).toNat []).getD (x%(m:Int)).toNat 0
def met (st ln c s:Int):Int:=ln / c+(if (s-st)%c<ln%c then 1 else 0)
def Afy (f:Nat→Int):Nat→Int
 | 0=>0
 | k+1=>Afy f k+f k
def Afz (g:Nat→Int)(st:Int)(c:Nat):Nat→Int
 | 0=>0
 | n+1=>Afz g st c n+g ((st+(n:Int))%(c:Int)).toNat
def isH (cl:List (List Nat))(p e:Nat):Int:=if (cl.getD p []).getD e 0=35 then 1 else 0
def Af0 (cl:List (List Nat))(m:Nat)(left wide:Int)(p:Nat):Int:=Afy (fun e=>if (cl.getD p []).getD e 0=35 then met left wide (m:Int) (e:Int) else 0) m
def overs(cl:List (List Nat))(m n:Nat)(left first wide high:Int):Int:=Afy (fun p=>Af0 cl m left wide p*met first high (n:Int) (p:Int)) n
def cnt (cl:List (List Nat))(m n:Nat)(left first:Int)(wide high:Nat):Int:=Afz (fun p=>Afz (isH cl p) left m wide) first n high
def Aiw (cl:List (List Nat))(m:Nat):List Int:=((List.range m).map fun e=>(((col cl e).count 35:Nat):Int))++cl.map fun t=>((t.count 46:Nat):Int)
def Rs (ks:List Int):Prop:=(∀(i:Nat) (a b:Int),ks[i]?=some a→ks[i+1]?=some b→a<b)∧∀ k∈ks,0≤k∧k<40
structure Ft (th:List Int) (tss:List (List Int)) (tr:List Int):Prop where
 m1:1≤th.length
 m40:th.length≤40
 t1:1≤tss.length
 t40:tss.length≤40
 n1:1≤tr.length
 n40:tr.length≤40
 hth:∀ v∈th,0≤v∧v<40
 hti:∀ ks∈tss,Rs ks
 htr:∀ v∈tr,0≤v∧v<tss.length
def shd (th ks:List Int):List Nat:=th.map fun s=>if s∈ks then 35 else 46
def wv (th:List Int)(tss:List (List Int))(tr:List Int):List (List Nat):=tr.map fun v=>shd th (tss.getD v.toNat [])
section
variable {α β:Type} [DecidableEq α] [DecidableEq β]
theorem snoc_ind{γ:Type}{P:List γ→Prop}(h0:P [])(h1:∀ l x,P l→P (l++[x])):∀ l,P l:=by
 intro l
 have k:∀ r:List γ,P r.reverse:=by
  intro r
  induction r with
  | nil=>exact h0
  | cons a r ih=>rw[List.reverse_cons];exact h1 _ _ ih
 have:=k l.reverse
 rwa [List.reverse_reverse] at this
def unl (l:List α):List α:=l.foldl (fun f x=>if x∈f then f else f++[x]) []
theorem O1(l:List α)(x:α):unl (l++[x])=if x∈unl l then unl l else unl l++[x]:=by
 unfold unl
 rw[List.foldl_append]
 rfl
theorem O2(x:α):∀ l:List α,x∈unl l↔x∈l:=by
 refine snoc_ind (by simp[unl]) fun l y ih=>?_
 rw[O1]
 split
 ·rename_i h
  rw[ih,AkO,List.mem_singleton]
  refine⟨.inl,fun z=>z.elim id fun z=>?_⟩
  rw[z];rw[z] at ih;exact ih.mp h
 ·rw[AkO,AkO,ih]
theorem YM:∀ l:List α,(unl l).length≤l.length:=by
 refine snoc_ind (by simp[unl]) fun l y ih=>?_
 rw[O1,AjR]
 split
 ·omega
 ·rw[AjR]
  show _+1≤_+1
  omega
theorem Ady{l:List α}(h:l≠[]):0<(unl l).length:=by
 cases l with
 | nil=>exact absurd rfl h
 | cons a r=>exact Aln ((O2 a _).mpr Ake)
def ix (l:List α)(x:α):Nat:=@List.idxOf α instBEqOfDecidableEq x l
def num (l:List α):List Nat:=l.map fun x=>ix (unl l) x
theorem Z7(l:List α):(num l).length=l.length:=by unfold num;rw[AjP]
theorem Af1{l:List α}{x:α}(h:x∈l):ix (unl l) x<(unl l).length:=List.idxOf_lt_length_iff.mpr ((O2 x l).mpr h)
theorem Af2{l:List α}{z:Nat}(h:z∈num l):z<(unl l).length:=by
 obtain⟨x,hx,rfl⟩:=List.mem_map.mp h
 exact Af1 hx
theorem AbM{l:List α}{x:α}(h:x∈l):ix l x<l.length:=List.idxOf_lt_length_iff.mpr h
theorem AgS{l:List α}{x:α}(h:x∈l):l[ix l x]?=some x:=by
 rw[AjO (AbM h)]
 exact congrArg some (List.getElem_idxOf (AbM h))
theorem Aew{x:α}:∀{l:List α} {i:Nat},i<ix l x→l[i]?≠some x
 | [],i,h=>by simp
 | a::l,i,h=>by
  unfold ix at h
  rw[List.idxOf_cons] at h
  by_cases e:a=x
  ·subst e
   simp at h
  ·have:(a == x)=false:=by simp[e]
   rw[this] at h
   cases i with
   | zero=>exact fun z=>e (Option.some.inj z)
   | succ i=>exact Aew (l:=l) (i:=i) (Nat.lt_of_succ_lt_succ h)
end
def bw (bs:List Nat)(F:Nat)(ws:List Nat):List Nat:=bs.flatMap fun b=>ws.map fun x=>b*F+x
def fil (pr one other:List (List Nat)):List (List Nat):=pr.flatMap fun u=>(one.zip other).map fun q=>u.flatMap fun c=>if c=35 then q.1 else q.2
section
variable {pr one other:List (List Nat)}{m n w h:Nat} (C:Cl pr m n) (C1:Cl one w h) (C2:Cl other w h)
include C C1 C2
end
def cols(cl:List (List Nat))(m:Nat):List (List Nat):=(List.range m).map (col cl)
def Aex (one other:List (List Nat))(w:Nat):List (List Nat × List Nat):=(List.range w).map fun e=>(col one e,col other e)
theorem AbN(cl:List (List Nat))(m:Nat):(cols cl m).length=m:=by unfold cols;rw[AjP,Akh]
def nts (l:List Nat):List Int:=l.map fun(z:Nat)=>(z:Int)
theorem R0(l:List Nat):(nts l).length=l.length:=by unfold nts;rw[AjP]
theorem Adz{l:List Nat}{z:Int}:z∈nts l↔∃ y∈l,z=(y:Int):=by
 unfold nts
 rw[AkY]
 exact⟨fun⟨y,hy,e⟩=>⟨y,hy,e.symm⟩,fun⟨y,hy,e⟩=>⟨y,hy,e.symm⟩⟩
section
variable {pr one other:List (List Nat)}{m n w h:Nat} (C:Cl pr m n) (C1:Cl one w h) (C2:Cl other w h)
def thN (pr one other:List (List Nat))(m w:Nat):List Nat:=bw (num (cols pr m)) (unl (Aex one other w)).length (num (Aex one other w))
def trN (pr one other:List (List Nat)):List Nat:=bw (num pr) (unl (one.zip other)).length (num (one.zip other))
include C C1 C2
end
def shown(u wa:List Nat)(c:Nat):List Nat:=(List.range u.length).map fun k=>if u.getD k 0=35 then wa.getD k 0 else c
theorem J4(u wa:List Nat)(c:Nat):(shown u wa c).length=u.length:=by unfold shown;rw[AjP,Akh]
theorem Qo{u wa:List Nat}{c k:Nat}(h:k<u.length):(shown u wa c).getD k 0=if u.getD k 0=35 then wa.getD k 0 else c:=by
 unfold shown
 simp[List.getD,h]
def Iv (cl:List (List Nat))(wa we:List Nat):List (List Nat):=(List.range cl.length).map fun j=>shown (cl.getD j []) wa (we.getD j 0)
theorem KQ(cl:List (List Nat))(wa we:List Nat):(Iv cl wa we).length=cl.length:=by unfold Iv;rw[AjP,Akh]
theorem Xn{cl:List (List Nat)}{wa we:List Nat}{j:Nat}(h:j<cl.length):(Iv cl wa we)[j]?=some (shown (cl.getD j []) wa (we.getD j 0)):=by
 unfold Iv
 rw[Aka,Ak9 h]
 rfl
def Co (c:Nat):Prop:=97≤c∧c≤102
def hs (x e p:Nat):Nat:=if e=x then (if p=x then 63 else 35) else if p=x then 46 else 33
def Gx (u wa:List Nat)(c:Nat):List Nat:=(List.range u.length).map fun k=>hs (u.getD k 0) (wa.getD k 0) c
theorem Qp(u wa:List Nat)(c:Nat):(Gx u wa c).length=u.length:=by unfold Gx;rw[AjP,Akh]
theorem SJ{u wa:List Nat}{c k:Nat}(h:k<u.length):(Gx u wa c)[k]?=some (hs (u.getD k 0) (wa.getD k 0) c):=by
 unfold Gx
 rw[Aka,Ak9 h]
 rfl
theorem Aa8{u wa:List Nat}{c k:Nat}(h:k<u.length):(Gx u wa c).getD k 0=hs (u.getD k 0) (wa.getD k 0) c:=by
 rw[AjV,SJ h]
 rfl
def Hu (cl:List (List Nat))(wa we:List Nat):List (List Nat):=(List.range cl.length).map fun j=>Gx (cl.getD j []) wa (we.getD j 0)
theorem Qq(cl:List (List Nat))(wa we:List Nat):(Hu cl wa we).length=cl.length:=by unfold Hu;rw[AjP,Akh]
theorem SM{cl:List (List Nat)}{wa we:List Nat}{j:Nat}(h:j<cl.length):(Hu cl wa we)[j]?=some (Gx (cl.getD j []) wa (we.getD j 0)):=by
 unfold Hu
 rw[Aka,Ak9 h]
 rfl
theorem Aey{x e p:Nat}:hs x e p=33↔e≠x∧p≠x:=by
 unfold hs
 split <;> split <;> simp_all
structure Pic (cl:List (List Nat)) (m n:Nat):Prop where
 hn:cl.length=n
 hm:∀ t∈cl,t.length=m
 co:∀ t∈cl,∀ c∈t,Co c
 m1:1≤m
 m40:m≤40
 n1:1≤n
 n40:n≤40
end Mine
namespace Mine
def crs (pic:List (List Nat))(m v w:Nat):Nat:=if v<m then (pic.getD (w-m) []).getD v 0 else (pic.getD (v-m) []).getD w 0
def Bip (m v w:Nat):Prop:=(v<m∧m≤w)∨(m≤v∧w<m)
theorem Bip.symm{m v w:Nat}(h:Bip m v w):Bip m w v:=by unfold Bip at *;omega
theorem Ad0{pic:List (List Nat)}{m v w:Nat}(h:Bip m v w):crs pic m v w=crs pic m w v:=by
 unfold crs
 rcases h with ⟨h1,h2⟩ | ⟨h1,h2⟩
 ·rw[if_pos h1,if_neg (by omega)]
 ·rw[if_neg (by omega),if_pos h2]
def nbr (m v j:Nat):Nat:=if v<m then m+j else j
def deg (m n v:Nat):Nat:=if v<m then n else m
theorem Ad1{m n v j:Nat}(hj:j<deg m n v):Bip m v (nbr m v j)∧nbr m v j<m+n:=by
 unfold deg at hj
 unfold Bip nbr
 split at hj <;> split <;> omega
theorem Af3{m n v w:Nat}(h:Bip m v w)(hw:w<m+n):∃ j,j<deg m n v∧nbr m v j=w:=by
 unfold Bip at h
 unfold deg nbr
 by_cases hv:v<m
 ·exact⟨w-m,by rw[if_pos hv];omega,by rw[if_pos hv];omega⟩
 ·exact⟨w,by rw[if_neg hv];omega,by rw[if_neg hv]⟩
theorem Gj{g:List (Nat × Nat)}{v c:Nat}(h:g.lookup v=some c):(v,c)∈g:=by
 induction g with
 | nil=>simp at h
 | cons p g ih =>
  rw[Akj] at h
  cases e:v == p.1 with
  | true =>
   rw[e] at h
   cases h
   have:v=p.1:=by simpa using e
   rw[this]
   exact Ake
  | false =>
   rw[e] at h
   exact Akk _ (ih h)
theorem KR{g:List (Nat × Nat)}{v c:Nat}(nd:(g.map (·.1)).Nodup)(h:(v,c)∈g):g.lookup v=some c:=by
 induction g with
 | nil=>cases h
 | cons p g ih =>
  rw[AjX,List.nodup_cons] at nd
  rcases List.mem_cons.mp h with e | h'
  ·rw[← e,Akj];simp
  ·have:v≠p.1:=fun z=>nd.1 (by rw[← z];exact List.mem_map.mpr ⟨_,h',rfl⟩)
   rw[Akj]
   have e:(v == p.1)=false:=by simpa using this
   rw[e]
   exact ih nd.2 h'
theorem U6{g:List (Nat × Nat)}{v:Nat}(h:g.lookup v=none):v∉g.map (·.1):=by
 intro z
 obtain⟨p,hp,e⟩:=List.mem_map.mp z
 induction g with
 | nil=>cases hp
 | cons q g ih =>
  rw[Akj] at h
  cases e2:v == q.1 with
  | true=>rw[e2] at h;cases h
  | false =>
   rw[e2] at h
   rcases List.mem_cons.mp hp with e3 | hp'
   ·subst e3
    rw[e] at e2
    simp at e2
   ·exact ih h (List.mem_map.mpr ⟨p,hp',e⟩) hp'
theorem O3{g h:List (Nat × Nat)}{v:Nat}:(g++h).lookup v=(g.lookup v).or (h.lookup v):=by
 induction g with
 | nil=>simp
 | cons p g ih =>
  rw[List.cons_append,Akj,Akj]
  cases v == p.1 with
  | true=>rfl
  | false=>exact ih
theorem Mj{g h:List (Nat × Nat)}{v c:Nat}(e:g.lookup v=some c):(g++h).lookup v=some c:=by rw[O3,e];rfl
structure Fit (pic:List (List Nat)) (m n:Nat) (told:List Nat) (O:Nat→Nat):Prop where
 cr:∀ v w,v<m+n→w<m+n→Bip m v w→O v=crs pic m v w∨O w=crs pic m v w
 td:∀ v,v<m+n→told.getD v 0=63∨told.getD v 0=O v
 co:∀ v,v<m+n→97≤O v∧O v≤102
structure Bor (pic:List (List Nat)) (m n:Nat) (told:List Nat) (b:List (Nat × Nat)):Prop where
 nd:(b.map (·.1)).Nodup
 lt:∀ p∈b,p.1<m+n
 co:∀ p∈b,97≤p.2∧p.2≤102
 td:∀ p∈b,told.getD p.1 0=63∨told.getD p.1 0=p.2
 cl:∀ p∈b,∀ w,w<m+n→Bip m p.1 w→crs pic m p.1 w=p.2∨b.lookup w=some (crs pic m p.1 w)
structure Ch (pic:List (List Nat)) (m n:Nat) (told:List Nat) (b:List (Nat × Nat)) (O:Nat→Nat) (s0 c0:Nat) (g:List (Nat × Nat)) (ps:List (Nat × Option Nat)):Prop where
 keys:ps.map (·.1)=g.map (·.1)
 nd:(g.map (·.1)).Nodup
 lt:∀ p∈g,p.1<m+n
 co:∀ p∈g,97≤p.2∧p.2≤102
 fst:g[0]?=some (s0,c0)
 td:∀ p∈g,p.1≠s0→told.getD p.1 0=63∨told.getD p.1 0=p.2
 nb:∀ p∈g,b.lookup p.1=none
 ah:∀(i k c:Nat),ps[i]?=some (k,some c)→∃(j:Nat) (c':Option Nat),j<i∧ps[j]?=some (c,c')
 ag:O s0=c0→∀ p∈g,p.2=O p.1
theorem YQ:∀(N:Nat) (l:List Nat),l.Nodup→(∀ x∈l,x<N)→l.length≤N
 | 0,l,_,h=>by
  cases l with
  | nil=>exact AjQ _
  | cons a l=>exact absurd (h a Ake) (by omega)
 | N+1,l,nd,h=>by
  have ih:=YQ N (l.filter (· != N)) (nd.sublist List.filter_sublist) fun x hx=>by
   obtain⟨h1,h2⟩:=List.mem_filter.mp hx
   have:=h x h1
   have:x≠N:=by simpa using h2
   omega
  have:l.length≤(l.filter (· != N)).length+1:=by
   clear ih h
   induction l with
   | nil=>simp
   | cons a l ih =>
    rw[List.nodup_cons] at nd
    by_cases e:a=N
    ·have:l.filter (· != N)=l:=List.filter_eq_self.mpr fun x hx=>by
      have:x≠N:=fun z=>nd.1 (by rw[e,← z];exact hx)
      simpa using this
     rw[AkZ (by simp[e]),this]
     exact AjQ _
    ·rw[Ala (by simpa using e),Aks,Aks]
     have:=ih nd.2
     omega
  omega
section
variable {pic:List (List Nat)}{m n:Nat}{told:List Nat}{b g:List (Nat × Nat)}{O:Nat→Nat}{s0 c0:Nat}{ps:List (Nat × Option Nat)}
theorem Ch.len(C:Ch pic m n told b O s0 c0 g ps):g.length≤m+n:=by
 have:=YQ (m+n) (g.map (·.1)) C.nd fun x hx=>by
  obtain⟨p,hp,rfl⟩:=List.mem_map.mp hx
  exact C.lt p hp
 rwa [AjP] at this
theorem Ch.AgT(C:Ch pic m n told b O s0 c0 g ps):ps.length=g.length:=by
 have:=congrArg List.length C.keys
 rwa [AjP,AjP] at this
theorem Ch.start(hs:s0<m+n)(hc:97≤c0∧c0≤102)(hb:b.lookup s0=none):Ch pic m n told b O s0 c0 [(s0,c0)] [(s0,none)] where
 keys:=rfl
 nd:=by simp
 lt:=fun p hp=>by rw[List.mem_singleton.mp hp];exact hs
 co:=fun p hp=>by rw[List.mem_singleton.mp hp];exact hc
 fst:=rfl
 td:=fun p hp h=>absurd (by rw[List.mem_singleton.mp hp]) h
 nb:=fun p hp=>by rw[List.mem_singleton.mp hp];exact hb
 ah:=fun i k c h=>by
  cases i with
  | zero=>cases h
  | succ i=>simp at h
 ag:=fun e p hp=>by rw[List.mem_singleton.mp hp];exact e.symm
theorem Ch.ask(C:Ch pic m n told b O s0 c0 g ps)(F:Fit pic m n told O)(e:O s0=c0){v c w:Nat}(hv:(v,c)∈g)(hw:w<m+n)(hb:Bip m v w)(ne:crs pic m v w≠c):O w=crs pic m v w:=by
 have h1:=C.ag e _ hv
 have h2:=C.lt _ hv
 rcases F.cr v w h2 hw hb with z | z
 ·exact absurd (z.symm.trans h1.symm) ne
 ·exact z
theorem Ch.no1(C:Ch pic m n told b O s0 c0 g ps)(F:Fit pic m n told O)(e:O s0=c0){v c w d:Nat}(hv:(v,c)∈g)(hw:w<m+n)(hb:Bip m v w)(ne:crs pic m v w≠c)(hd:g.lookup w=some d)(nd:d≠crs pic m v w):False :=
 nd ((C.ag e _ (Gj hd)).trans (C.ask F e hv hw hb ne))
theorem Ch.no2(C:Ch pic m n told b O s0 c0 g ps)(F:Fit pic m n told O)(e:O s0=c0){v c w:Nat}(hv:(v,c)∈g)(hw:w<m+n)(hb:Bip m v w)(ne:crs pic m v w≠c)(t1:told.getD w 0≠63)(t2:told.getD w 0≠crs pic m v w):False:=by
 rcases F.td w hw with z | z
 ·exact t1 z
 ·exact t2 (z.trans (C.ask F e hv hw hb ne))
theorem Ch.step(C:Ch pic m n told b O s0 c0 g ps)(F:Fit pic m n told O)(B:Bor pic m n told b){i v c w:Nat}(hi:g[i]?=some (v,c))(hw:w<m+n)(hb:Bip m v w)(ne:crs pic m v w≠c)(hcr:97≤crs pic m v w∧crs pic m v w≤102)
  (nb:b.lookup w≠some (crs pic m v w)) (ng:g.lookup w=none) (t:told.getD w 0=63∨told.getD w 0=crs pic m v w):Ch pic m n told b O s0 c0 (g++[(w,crs pic m v w)]) (ps++[(w,some v)]):=by
 have hv:=AjT hi
 have bw:b.lookup w=none:=by
  cases e:b.lookup w with
  | none=>rfl
  | some d =>
   exfalso
   rcases B.cl _ (Gj e) v (C.lt _ hv) hb.symm with z | z
   ·exact nb (by rw[e,Ad0 hb,z])
   ·rw[C.nb _ hv] at z;cases z
 have nw:=U6 ng
 refine⟨?_,?_,fun p hp=>?_,fun p hp=>?_,?_,fun p hp h=>?_,fun p hp=>?_,fun j k d h=>?_,fun e p hp=>?_⟩
 ·rw[AjY,AjY,C.keys];rfl
 ·rw[AjY]
  refine List.nodup_append.mpr ⟨C.nd,by simp,fun a ha b hb z=>nw ?_⟩
  rw[List.mem_singleton.mp hb] at z
  have z:a=w:=z
  rw[← z]
  exact ha
 ·rcases List.mem_append.mp hp with h | h
  ·exact C.lt p h
  ·rw[List.mem_singleton.mp h];exact hw
 ·rcases List.mem_append.mp hp with h | h
  ·exact C.co p h
  ·rw[List.mem_singleton.mp h];exact hcr
 ·rw[Aki (List.getElem?_eq_some_iff.mp C.fst).1];exact C.fst
 ·rcases List.mem_append.mp hp with h' | h'
  ·exact C.td p h' h
  ·rw[List.mem_singleton.mp h'];exact t
 ·rcases List.mem_append.mp hp with h | h
  ·exact C.nb p h
  ·rw[List.mem_singleton.mp h];exact bw
 ·by_cases hj:j<ps.length
  ·rw[Aki hj] at h
   obtain⟨j',c',h1,h2⟩:=C.ah j k d h
   exact⟨j',c',h1,by rw[Aki (by omega)];exact h2⟩
  ·have hj2:=(List.getElem?_eq_some_iff.mp h).1
   rw[AjR,Akt] at hj2
   have ej:j=ps.length:=by omega
   rw[ej,Akr (AjQ _),Ak4] at h
   cases h
   have il:i<ps.length:=by rw[C.AgT];exact(List.getElem?_eq_some_iff.mp hi).1
   have e2:(ps.map (·.1))[i]?=some v:=by rw[C.keys,Aka,hi];rfl
   rw[Aka] at e2
   obtain⟨q,hq,eq⟩:=Option.map_eq_some_iff.mp e2
   refine⟨i,q.2,by omega,?_⟩
   rw[Aki il,hq,← eq]
 ·rcases List.mem_append.mp hp with h | h
  ·exact C.ag e p h
  ·rw[List.mem_singleton.mp h];exact(C.ask F e hv hw hb ne).symm
def Mt (pic:List (List Nat))(m:Nat)(b g:List (Nat × Nat))(v c j:Nat):Prop:=∀ i,i<j→crs pic m v (nbr m v i)=c∨b.lookup (nbr m v i)=some (crs pic m v (nbr m v i))∨g.lookup (nbr m v i)=some (crs pic m v (nbr m v i))
theorem Mt.grow{v c j:Nat}(h:Mt pic m b g v c j)(x:List (Nat × Nat)):Mt pic m b (g++x) v c j:=fun i hi=>by
 rcases h i hi with z | z | z
 ·exact .inl z
 ·exact .inr (.inl z)
 ·exact .inr (.inr (Mj z))
theorem Mt.succ{v c j:Nat}(h:Mt pic m b g v c j)(x:crs pic m v (nbr m v j)=c∨b.lookup (nbr m v j)=some (crs pic m v (nbr m v j))∨g.lookup (nbr m v j)=some (crs pic m v (nbr m v j))):Mt pic m b g v c (j+1):=fun i hi=>by
 by_cases e:i<j
 ·exact h i e
 ·have:i=j:=by omega
  subst this
  exact x
theorem Ch.bor(C:Ch pic m n told b O s0 c0 g ps)(B:Bor pic m n told b)(t0:told.getD s0 0=63∨told.getD s0 0=c0)(all:∀(i v c:Nat),g[i]?=some (v,c)→Mt pic m b g v c (deg m n v)):Bor pic m n told (b++g) where
 nd:=by
  rw[AjY]
  refine List.nodup_append.mpr ⟨B.nd,C.nd,fun x hx y hy z=>?_⟩
  obtain⟨p,hp,e1⟩:=List.mem_map.mp hx
  obtain⟨q,hq,e2⟩:=List.mem_map.mp hy
  have h1:=C.nb q hq
  rw[e2,← z,← e1] at h1
  rw[KR B.nd (show(p.1,p.2)∈b from hp)] at h1
  cases h1
 lt:=fun p hp=>(List.mem_append.mp hp).elim (B.lt p) (C.lt p)
 co:=fun p hp=>(List.mem_append.mp hp).elim (B.co p) (C.co p)
 td:=fun p hp=>by
  rcases List.mem_append.mp hp with h | h
  ·exact B.td p h
  ·by_cases e:p.1=s0
   ·have:p.2=c0:=by
     have h0:=AjT C.fst
     have l1:=KR C.nd h0
     have l2:=KR C.nd (show(p.1,p.2)∈g from h)
     rw[e,l1] at l2
     exact(Option.some.inj l2).symm
    rw[e,this]
    exact t0
   ·exact C.td p h e
 cl:=fun p hp w hw hb=>by
  rcases List.mem_append.mp hp with h | h
  ·rcases B.cl p h w hw hb with z | z
   ·exact .inl z
   ·exact .inr (Mj z)
  ·obtain⟨i,hi⟩:=AkM h
   obtain⟨j,hj,ej⟩:=Af3 hb hw
   rcases all i p.1 p.2 hi j hj with z | z | z
   ·rw[ej] at z;exact .inl z
   ·rw[ej] at z;exact .inr (Mj z)
   ·rw[ej] at z
    refine .inr ?_
    rw[O3]
    cases e:b.lookup w with
    | none=>exact z
    | some d =>
     have:=C.nb _ (Gj z)
     rw[e] at this
     cases this
end
def wid (cl:List (List Nat))(ac:Nat):List (List Nat):=cl.map fun t=>(List.replicate ac t).flatten
def til (cl:List (List Nat))(ac al:Nat):List (List Nat):=(List.replicate al (wid cl ac)).flatten
def Sq3 (c:Nat):Prop:=c=35∨c=46∨c=63
structure Hc (cl:List (List Nat)) (m n:Nat):Prop where
 hn:cl.length=n
 hm:∀ t∈cl,t.length=m
 sg:∀ t∈cl,∀ c∈t,Sq3 c
 m2:2≤m
 m40:m≤40
 n2:2≤n
 n40:n≤40
def sg2 (cl:List (List Nat))(p e:Nat):Nat:=(cl.getD p []).getD e 0
def Up (N:Int)(ks:List Int):Prop:=(∀(i:Nat) (a b:Int),ks[i]?=some a→ks[i+1]?=some b→a<b)∧∀ k∈ks,0≤k∧k<N
def AhA (N:Int)(ks:List Int):Prop:=ks≠[]∧Up N ks
def Mv (cl:List (List Nat))(m e:Nat)(k:Nat):List Int:=((List.range k).filter fun p=>decide (sg2 cl p e≠46)).map fun p=>(m:Int)+((p:Nat):Int)
def lowP(t:List Nat)(k:Nat):List Int:=((List.range k).filter fun e=>decide (t.getD e 0≠35)).map fun e=>((e:Nat):Int)
def lows(cl:List (List Nat))(m:Nat):List (List Int):=((List.range m).map fun e=>Mv cl m e cl.length)++cl.map fun t=>lowP t m
theorem O4(cl:List (List Nat))(m:Nat):(lows cl m).length=m+cl.length:=by
 unfold lows
 rw[AjR,AjP,AjP,Akh]
theorem SN{cl:List (List Nat)}{m e:Nat}(h:e<m):(lows cl m)[e]?=some (Mv cl m e cl.length):=by
 unfold lows
 rw[Aki (by rw[AjP,Akh];exact h),Aka,Ak9 h]
 rfl
theorem Qs{cl:List (List Nat)}{m p:Nat}(h:p<cl.length):(lows cl m)[m+p]?=some (lowP cl[p] m):=by
 unfold lows
 rw[Akr (by rw[AjP,Akh];omega),AjP,Akh,Nat.add_sub_cancel_left,Aka,AjO h]
 rfl
theorem Xo{cl:List (List Nat)}{m e k:Nat}{x:Int}:x∈Mv cl m e k↔∃ p,p<k∧sg2 cl p e≠46∧x=(m:Int)+(p:Int):=by
 unfold Mv
 simp only [AkY,List.mem_filter,List.mem_range,decide_eq_true_eq]
 constructor
 ·rintro⟨p,⟨h1,h2⟩,h3⟩;exact⟨p,h1,h2,h3.symm⟩
 ·rintro⟨p,h1,h2,h3⟩;exact⟨p,⟨h1,h2⟩,h3.symm⟩
theorem Xp{t:List Nat}{k:Nat}{x:Int}:x∈lowP t k↔∃ e,e<k∧t.getD e 0≠35∧x=(e:Int):=by
 unfold lowP
 simp only [AkY,List.mem_filter,List.mem_range,decide_eq_true_eq]
 constructor
 ·rintro⟨p,⟨h1,h2⟩,h3⟩;exact⟨p,h1,h2,h3.symm⟩
 ·rintro⟨p,h1,h2,h3⟩;exact⟨p,⟨h1,h2⟩,h3.symm⟩
theorem Aa9(cl:List (List Nat))(m e k:Nat):Mv cl m e (k+1)=if sg2 cl k e≠46 then Mv cl m e k++[(m:Int)+(k:Int)] else Mv cl m e k:=by
 unfold Mv
 rw[AkE,Alo,AjY]
 by_cases h:sg2 cl k e≠46
 ·rw[if_pos h,Ala (by exact decide_eq_true h)];rfl
 ·rw[if_neg h,AkZ (by rw[decide_eq_false h];decide)];simp
theorem AaA(t:List Nat)(k:Nat):lowP t (k+1)=if t.getD k 0≠35 then lowP t k++[(k:Int)] else lowP t k:=by
 unfold lowP
 rw[AkE,Alo,AjY]
 by_cases h:t.getD k 0≠35
 ·rw[if_pos h,Ala (by exact decide_eq_true h)];rfl
 ·rw[if_neg h,AkZ (by rw[decide_eq_false h];decide)];simp
theorem Xq(cl:List (List Nat))(m e k:Nat):(Mv cl m e k).length≤k:=by
 unfold Mv
 rw[AjP]
 exact Akg (Alb _ _) (by rw[Akh];exact AjQ _)
theorem Xr(t:List Nat)(k:Nat):(lowP t k).length≤k:=by
 unfold lowP
 rw[AjP]
 exact Akg (Alb _ _) (by rw[Akh];exact AjQ _)
def Aji (cl:List (List Nat))(m n:Nat)(ks:List Int):Prop:=∀(s:Nat) (l:List Int),s<m+n→(s:Int)∉ks→(lows cl m)[s]?=some l→∀ r∈l,r∉ks
def CutAt(cl:List (List Nat))(m:Nat)(ks:List Int)(p e:Nat):Prop:=((e:Int)∈ks→((m:Int)+(p:Int))∉ks→sg2 cl p e=35)∧(((m:Int)+(p:Int))∈ks→(e:Int)∉ks→sg2 cl p e=46)
inductive Wy (tss:List (List Int)) (s:Nat):Nat→Nat→Prop where
 | nil:Wy tss s 0 s
 | snoc {v w L:Nat} (h:Wy tss s L v) (e:(w:Int)∈tss.getD v []):Wy tss s (L+1) w
theorem Wy.last{tss:List (List Int)}{s L w:Nat}(h:Wy tss s (L+1) w):∃ v,Wy tss s L v∧(w:Int)∈tss.getD v []:=by
 cases h with
 | snoc h e=>exact⟨_,h,e⟩
theorem Wy.first{tss:List (List Int)}{s w:Nat}(h:Wy tss s 0 w):w=s:=by
 cases h
 rfl
structure Bf (tss:List (List Int)) (s:Nat) (ps:List (Nat × Option Nat)) (dp:List Nat):Prop where
 len:dp.length=ps.length
 st:ps[0]?=some (s,none)∧dp[0]?=some 0
 nd:∀(i j v:Nat) (a b:Option Nat),ps[i]?=some (v,a)→ps[j]?=some (v,b)→i=j
 lt:∀(v:Nat) (a:Option Nat),(v,a)∈ps→v<tss.length
 par:∀(i v:Nat) (a:Option Nat),0<i→ps[i]?=some (v,a)→∃(j u:Nat) (b:Option Nat) (d:Nat),a=some u∧j<i∧ps[j]?=some (u,b)∧dp[j]?=some d∧dp[i]?=some (d+1)∧(v:Int)∈tss.getD u []
 mono:∀(i j a b:Nat),i≤j→dp[i]?=some a→dp[j]?=some b→a≤b
theorem Bf.one{tss:List (List Int)}{s:Nat}(h:s<tss.length):Bf tss s [(s,none)] [0]:=by
 refine⟨rfl,⟨rfl,rfl⟩,fun i j v a b h1 h2=>?_,fun v a h1=>?_,fun i v a h0 h1=>?_,fun i j a b _ h1 h2=>?_⟩
 ·have g1:=(List.getElem?_eq_some_iff.mp h1).1
  have g2:=(List.getElem?_eq_some_iff.mp h2).1
  simp at g1 g2
  omega
 ·have:(v,a)=(s,none):=by simpa using h1
  cases this
  exact h
 ·have g1:=(List.getElem?_eq_some_iff.mp h1).1
  simp at g1
  omega
 ·have g1:=(List.getElem?_eq_some_iff.mp h1).1
  have g2:=(List.getElem?_eq_some_iff.mp h2).1
  simp at g1 g2
  subst g1
  subst g2
  rw[h1] at h2
  cases h2
  exact AjQ _
theorem IW{α:Type}{l:List α}{x y:α}{i:Nat}(h:(l++[x])[i]?=some y):(i<l.length∧l[i]?=some y)∨(i=l.length∧y=x):=by
 by_cases hi:i<l.length
 ·rw[Aki hi] at h
  exact .inl ⟨hi,h⟩
 ·have hlt:=(List.getElem?_eq_some_iff.mp h).1
  rw[AjR] at hlt
  have hlt:i<l.length+1:=hlt
  have e:i=l.length:=by omega
  subst e
  rw[Akr (AjQ _),Ak4] at h
  cases h
  exact .inr ⟨rfl,rfl⟩
theorem Hz{α:Type}{l:List α}{x y:α}{i:Nat}(h:l[i]?=some y):(l++[x])[i]?=some y:=by
 rw[Aki (List.getElem?_eq_some_iff.mp h).1]
 exact h
theorem Xu{α:Type}(l:List α)(x:α):(l++[x])[l.length]?=some x:=by
 rw[Akr (AjQ _),Ak4]
 rfl
theorem Bf.add{tss:List (List Int)}{s:Nat}{ps:List (Nat × Option Nat)}{dp:List Nat}(B:Bf tss s ps dp){pl u v d:Nat}{b:Option Nat}(hp:ps[pl]?=some (u,b))(hd:dp[pl]?=some d)(near:∀ j x:Nat,dp[j]?=some x→x≤d+1)
  (he:(v:Int)∈tss.getD u []) (hv:v<tss.length) (new:∀(i:Nat) (a:Option Nat),ps[i]?≠some (v,a)):Bf tss s (ps++[(v,some u)]) (dp++[d+1]):=by
 have pl1:=(List.getElem?_eq_some_iff.mp hp).1
 refine⟨by rw[AjR,AjR,B.len];rfl,⟨Hz B.st.1,Hz B.st.2⟩,fun i j w a c h1 h2=>?_,fun w a h1=>?_,fun i w a h0 h1=>?_,fun i j a c hij h1 h2=>?_⟩
 ·rcases IW h1 with ⟨i1,g1⟩ | ⟨i1,g1⟩ <;> rcases IW h2 with ⟨j1,g2⟩ | ⟨j1,g2⟩
  ·exact B.nd i j w a c g1 g2
  ·cases g2;exact absurd g1 (new i a)
  ·cases g1;exact absurd g2 (new j c)
  ·omega
 ·rcases List.mem_append.mp h1 with h | h
  ·exact B.lt w a h
  ·have:(w,a)=(v,some u):=by simpa using h
   cases this
   exact hv
 ·rcases IW h1 with ⟨i1,g1⟩ | ⟨i1,g1⟩
  ·obtain⟨j,x,c,e,q1,q2,q3,q4,q5,q6⟩:=B.par i w a h0 g1
   exact⟨j,x,c,e,q1,q2,Hz q3,Hz q4,Hz q5,q6⟩
  ·cases g1
   refine⟨pl,u,b,d,rfl,by omega,Hz hp,Hz hd,?_,he⟩
   rw[i1,← B.len]
   exact Xu _ _
 ·rcases IW h1 with ⟨i1,g1⟩ | ⟨i1,g1⟩ <;> rcases IW h2 with ⟨j1,g2⟩ | ⟨j1,g2⟩
  ·exact B.mono i j a c hij g1 g2
  ·rw[g2];exact near i a g1
  ·omega
  ·rw[g1,g2];exact AjQ _
def Dn (tss:List (List Int))(ps:List (Nat × Option Nat))(dp:List Nat)(pl:Nat):Prop :=
 ∀(i u:Nat) (b:Option Nat) (a:Nat),i<pl→ps[i]?=some (u,b)→dp[i]?=some a→∀ w:Nat,(w:Int)∈tss.getD u []→∃(j:Nat) (c:Option Nat) (x:Nat),ps[j]?=some (w,c)∧dp[j]?=some x∧x≤a+1
theorem Dn.zero{tss:List (List Int)}{ps:List (Nat × Option Nat)}{dp:List Nat}:Dn tss ps dp 0:=fun i u b a h=>absurd h (Alc _)
theorem Dn.app{tss:List (List Int)}{ps:List (Nat × Option Nat)}{dp:List Nat}{pl:Nat}(D:Dn tss ps dp pl)(hl:dp.length=ps.length)(hp:pl≤ps.length)(q:Nat × Option Nat)(e:Nat):Dn tss (ps++[q]) (dp++[e]) pl:=fun i u b a hi h1 h2 w hw=>by
 rcases IW h1 with ⟨_,g1⟩ | ⟨i1,_⟩
 ·rcases IW h2 with ⟨_,g2⟩ | ⟨i2,_⟩
  ·obtain⟨j,c,x,q1,q2,q3⟩:=D i u b a hi g1 g2 w hw
   exact⟨j,c,x,Hz q1,Hz q2,q3⟩
  ·omega
 ·omega
theorem Bf.sound{tss:List (List Int)}{s:Nat}{ps:List (Nat × Option Nat)}{dp:List Nat}(B:Bf tss s ps dp):∀(j v:Nat) (c:Option Nat) (x:Nat),ps[j]?=some (v,c)→dp[j]?=some x→Wy tss s x v∧x≤j:=by
 intro j
 induction j using Nat.strongRecOn with
 | ind j ih =>
  intro v c x h1 h2
  by_cases h0:j=0
  ·subst h0
   rw[B.st.1] at h1
   rw[B.st.2] at h2
   cases h1
   cases h2
   exact⟨.nil,AjQ _⟩
  ·obtain⟨i,u,b,d,e1,hi,e3,e4,e5,e6⟩:=B.par j v c (by omega) h1
   rw[e5] at h2
   cases h2
   obtain⟨w1,w2⟩:=ih i hi u b d e3 e4
   exact⟨.snoc w1 e6,by omega⟩
theorem Bf.reach{tss:List (List Int)}{s:Nat}{ps:List (Nat × Option Nat)}{dp:List Nat}(B:Bf tss s ps dp)(D:Dn tss ps dp ps.length):∀(L v:Nat),Wy tss s L v→∃(j:Nat) (c:Option Nat) (x:Nat),ps[j]?=some (v,c)∧dp[j]?=some x∧x≤L:=by
 intro L
 induction L with
 | zero =>
  intro v h
  rw[h.first]
  exact⟨0,none,0,B.st.1,B.st.2,AjQ _⟩
 | succ L ih =>
  intro v h
  obtain⟨u,hu,e⟩:=h.last
  obtain⟨j,c,x,h1,h2,h3⟩:=ih u hu
  obtain⟨k,c',y,g1,g2,g3⟩:=D j u c x (List.getElem?_eq_some_iff.mp h1).1 h1 h2 v e
  exact⟨k,c',y,g1,g2,by omega⟩
theorem Xv:∀(N:Nat) (l:List Nat),l.Nodup→(∀ v∈l,v<N)→l.length≤N:=by
 intro N
 induction N with
 | zero =>
  intro l _ h
  cases l with
  | nil=>simp
  | cons a l=>exact absurd (h a Ake) (Alc _)
 | succ N ih =>
  intro l nd h
  by_cases m:N∈l
  ·have h1:=ih (l.erase N) (nd.erase N) fun v hv=>by
    have h2:=h v (List.mem_of_mem_erase hv)
    have h3:v≠N:=fun e=>by
     rw[e] at hv
     exact(List.Nodup.not_mem_erase nd) hv
    omega
   rw[Alp m] at h1
   omega
  ·have h1:=ih l nd fun v hv=>by
    have h2:=h v hv
    have h3:v≠N:=fun e=>m (e▸hv)
    omega
   omega
theorem Bf.small{tss:List (List Int)}{s:Nat}{ps:List (Nat × Option Nat)}{dp:List Nat}(B:Bf tss s ps dp):ps.length≤tss.length:=by
 have h:=Xv tss.length (ps.map (·.1)) ?_ ?_
 ·rwa [AjP] at h
 ·rw[Alq,Alm]
  intro i j hi hj hij e
  rw[AjP] at hi hj
  simp only [List.getElem_map] at e
  have g1:ps[i]?=some (ps[i].1,ps[i].2):=AjO hi
  have g2:ps[j]?=some (ps[i].1,ps[j].2):=by rw[e];exact AjO hj
  have:=B.nd i j _ _ _ g1 g2
  omega
 ·intro v hv
  obtain⟨p,hp,rfl⟩:=List.mem_map.mp hv
  exact B.lt p.1 p.2 hp
def Pth (tss:List (List Int))(l:List Nat):Prop:=∀(i a b:Nat),l[i]?=some a→l[i+1]?=some b→(b:Int)∈tss.getD a []
structure NS (N:Nat) (ws:List Nat):Prop where
 ne:ws≠[]
 up:ws.Pairwise (·<·)
 lt:∀ v∈ws,v<N
def cI (ws:List Nat):List Int:=ws.map fun v=>((v:Nat):Int)
theorem YS{ws:List Nat}{v:Nat}:(v:Int)∈cI ws↔v∈ws:=by
 unfold cI
 rw[AkY]
 constructor
 ·rintro⟨u,hu,e⟩
  have:u=v:=by omega
  rw[← this];exact hu
 ·exact fun h=>⟨v,h,rfl⟩
theorem SQ(ws:List Nat):(cI ws).length=ws.length:=by unfold cI;rw[AjP]
theorem NS.nodup{N:Nat}{ws:List Nat}(h:NS N ws):ws.Nodup:=by
 rw[Alq]
 exact h.up.imp fun {a b} h=>AjS h
theorem Qt:∀(l ws:List Nat),l.Nodup→(∀ v∈l,v∈ws)→l.length≤ws.length
 | [],ws,_,_=>Akb _
 | a::l,ws,nd,h=>by
  obtain⟨na,nl⟩:=List.nodup_cons.mp nd
  have ha:=h a Ake
  have:=Qt l (ws.erase a) nl fun v hv=>by
   refine(List.mem_erase_of_ne (fun(e:v=a)=>na (by rw[← e];exact hv))).mpr (h v (Akk _ hv))
  rw[Alp ha] at this
  have:0<ws.length:=Aln ha
  rw[Aks]
  omega
theorem NS.len{N:Nat}{ws:List Nat}(h:NS N ws):ws.length≤N:=Xv N ws h.nodup h.lt
def Ad2 (tss:List (List Int))(ws:List Nat)(v:Nat):List Int:=(tss.getD v []).filter fun z=>decide (z∈cI ws)
def AbO (tss:List (List Int))(ws us:List Nat):List (List Int):=(List.range tss.length).map fun v=>if v∈us then Ad2 tss ws v else []
def nar (tss:List (List Int))(ws:List Nat):List (List Int):=AbO tss ws ws
theorem O5(tss:List (List Int))(ws us:List Nat):(AbO tss ws us).length=tss.length:=by unfold AbO;rw[AjP,Akh]
theorem Xw{tss:List (List Int)}{ws us:List Nat}{v:Nat}(h:v<tss.length):(AbO tss ws us)[v]?=some (if v∈us then Ad2 tss ws v else []):=by
 unfold AbO
 rw[Aka,Ak9 h]
 rfl
theorem VJ{tss:List (List Int)}{ws:List Nat}{v:Nat}{z:Int}:z∈(nar tss ws).getD v []↔v∈ws∧z∈cI ws∧z∈tss.getD v []:=by
 by_cases h:v<tss.length
 ·rw[AjV,nar,Xw h,Option.getD_some]
  by_cases hv:v∈ws
  ·rw[if_pos hv,Ad2,List.mem_filter,decide_eq_true_iff]
   exact⟨fun z=>⟨hv,z.2,z.1⟩,fun z=>⟨z.2.2,z.2.1⟩⟩
  ·rw[if_neg hv]
   exact⟨fun z=>(by cases z),fun z=>absurd z.1 hv⟩
 ·rw[AjV,Akz (by rw[nar,O5];omega),AjV,Akz (by omega:tss.length≤v)]
  exact⟨fun z=>(by cases z),fun z=>(by cases z.2.2)⟩
theorem AgU{tss:List (List Int)}{ws:List Nat}{s:Nat}(hs:s∈ws):∀{L v:Nat},Wy (nar tss ws) s L v→v∈ws
 | _,_,.nil=>hs
 | _,_,.snoc _ e=>YS.mp (VJ.mp e).2.1
theorem Bf.keys{tss:List (List Int)}{s:Nat}{ps:List (Nat × Option Nat)}{dp:List Nat}(B:Bf tss s ps dp):(ps.map (·.1)).Nodup:=by
 rw[Alq,Alm]
 intro i j hi hj hij e
 rw[AjP] at hi hj
 simp only [List.getElem_map] at e
 have g1:ps[i]?=some (ps[i].1,ps[i].2):=AjO hi
 have g2:ps[j]?=some (ps[i].1,ps[j].2):=by rw[e];exact AjO hj
 have:=B.nd i j _ _ _ g1 g2
 omega
theorem VL{ps:List (Nat × Option Nat)}{v:Nat}(h:v∈ps.map (·.1)):∃(j:Nat) (c:Option Nat),ps[j]?=some (v,c):=by
 obtain⟨p,hp,rfl⟩:=List.mem_map.mp h
 obtain⟨j,hj,e⟩:=Aky hp
 exact⟨j,p.2,by rw[AjO hj,e]⟩
theorem Bf.sub{tss:List (List Int)}{ws:List Nat}{s:Nat}{ps:List (Nat × Option Nat)}{dp:List Nat}(B:Bf (nar tss ws) s ps dp)(hs:s∈ws):∀ v∈ps.map (·.1),v∈ws:=fun v hv=>by
 obtain⟨j,c,g⟩:=VL hv
 have hj:j<dp.length:=by rw[B.len];exact(List.getElem?_eq_some_iff.mp g).1
 exact AgU hs (B.sound j v c dp[j] g (AjO hj)).1
theorem Bf.full{tss:List (List Int)}{ws:List Nat}{s:Nat}{ps:List (Nat × Option Nat)}{dp:List Nat}(B:Bf (nar tss ws) s ps dp)(hs:s∈ws)(h:ws.length≤ps.length):∀ v∈ws,∃(j:Nat) (c:Option Nat),ps[j]?=some (v,c):=fun v hv=>by
 by_cases hin:v∈ps.map (·.1)
 ·exact VL hin
 ·have:=Qt _ (ws.erase v) B.keys fun u hu=>(List.mem_erase_of_ne (fun(e:u=v)=>hin (by rw[← e];exact hu))).mpr (B.sub hs u hu)
  rw[AjP,Alp hv] at this
  have:0<ws.length:=Aln hv
  omega
theorem Bf.miss{tss:List (List Int)}{ws:List Nat}{s N:Nat}{ps:List (Nat × Option Nat)}{dp:List Nat}(hw:NS N ws)(h:ps.length<ws.length):∃ v∈ws,v∉ps.map (·.1):=by
 refine Classical.byContradiction fun hc=>?_
 have:=Qt ws (ps.map (·.1)) hw.nodup fun v hv=>Classical.byContradiction fun hn=>hc ⟨v,hv,hn⟩
 rw[AjP] at this
 omega
def Af4 (tss:List (List Int))(ws:List Nat):Prop:=∀ u∈ws,∀ v∈ws,∃ L,Wy (nar tss ws) u L v
structure Lf (tss:List (List Int)) (ws fs:List Nat):Prop where
 ne:fs≠[]
 len:fs.length<ws.length
 sub:∀ v∈fs,v∈ws
 up:fs.Pairwise (·<·)
 off:∀ o∈ws,o∉fs→∀ v∈fs,(v:Int)∉tss.getD o []
theorem filter_lt{ws:List Nat}{p:Nat→Bool}{s:Nat}(hs:s∈ws)(hp:p s=false):(ws.filter p).length<ws.length:=by
 have h1:=Alb p ws
 refine Nat.lt_of_le_of_ne h1 fun e=>?_
 have:=List.length_filter_eq_length_iff.mp e s hs
 rw[hp] at this
 cases this
theorem Bf.lift{tss:List (List Int)}{ws:List Nat}{s N:Nat}{ps:List (Nat × Option Nat)}{dp:List Nat}(B:Bf (nar tss ws) s ps dp)(D:Dn (nar tss ws) ps dp ps.length)(hw:NS N ws)(hs:s∈ws)(h:ps.length<ws.length) :
  ¬Af4 tss ws∧Lf tss ws (ws.filter fun v=>decide (v∉ps.map (·.1))):=by
 obtain⟨v,hv,hn⟩:=Bf.miss (tss:=tss) (s:=s) (dp:=dp) hw h
 have s0:s∈ps.map (·.1):=List.mem_map.mpr ⟨(s,none),AjT B.st.1,rfl⟩
 refine⟨fun hc=>?_,fun e=>?_,filter_lt hs (by simp only [decide_eq_false_iff_not,Classical.not_not];exact s0),fun u hu=>(List.mem_filter.mp hu).1,hw.up.filter _,fun o ho hno u hu e=>?_⟩
 ·obtain⟨L,hL⟩:=hc s hs v hv
  obtain⟨j,c,x,g,_⟩:=B.reach D L v hL
  exact hn (List.mem_map.mpr ⟨(v,c),AjT g,rfl⟩)
 ·have:v∈ws.filter fun v=>decide (v∉ps.map (·.1)):=List.mem_filter.mpr ⟨hv,decide_eq_true hn⟩
  rw[e] at this
  cases this
 ·obtain⟨hu1,hu2⟩:=List.mem_filter.mp hu
  have hu2:=of_decide_eq_true hu2
  have ho2:o∈ps.map (·.1):=Classical.byContradiction fun hn=>hno (List.mem_filter.mpr ⟨ho,decide_eq_true hn⟩)
  obtain⟨j,c,g⟩:=VL ho2
  have hj:j<dp.length:=by rw[B.len];exact(List.getElem?_eq_some_iff.mp g).1
  obtain⟨w1,_⟩:=B.sound j o c dp[j] g (AjO hj)
  obtain⟨j',c',x',g',_⟩:=B.reach D _ u (.snoc w1 (VJ.mpr ⟨ho,YS.mpr hu1,e⟩))
  exact hu2 (List.mem_map.mpr ⟨(u,c'),AjT g',rfl⟩)
structure Rd (tss:List (List Int)) (ws found:List Nat):Prop where
 fst:found[0]?=ws[0]?
 ins:∀ v∈found,v∈ws
 all:∀ v∈ws,v∈found
 len:found.length≤ws.length*ws.length
 one:ws.length=1→found=ws
 nxt:1<ws.length→∀ i a b:Nat,found[i]?=some a→found[(i+1)%found.length]?=some b→(b:Int)∈tss.getD a []
structure Wk (tss:List (List Int)) (ws:List Nat) (f i:Nat) (as bs:List Nat) (c:Nat):Prop where
 e:as=bs++[c]
 fst:as[0]?=some f
 ins:∀ v∈as,v∈ws
 has:∀ v∈ws.take (i+1),v∈as
 pth:Pth (nar tss ws) as
 len:as.length≤1+i*(ws.length-1)
 lst:(i=0∧as=[f])∨(0<i∧c≠f)
inductive Rc (E:Nat→Nat→Prop) (s:Nat):Nat→Prop where
 | nil:Rc E s s
 | snoc {v w:Nat} (h:Rc E s v) (e:E v w):Rc E s w
def SC (N:Nat)(E:Nat→Nat→Prop):Prop:=∀ u v:Nat,u<N→v<N→Rc E u v
def del (E:Nat→Nat→Prop)(a b:Nat):Nat→Nat→Prop:=fun u v=>E u v∧¬(u=a∧v=b)
end Mine
set_option maxHeartbeats 4000000
namespace Mine
open PySem L2
def top (i:Nat):Stmt:=PySem.Challenge.pw_heddle_k47_no_colour.main.body.getD i (.Pass ⟨0,0,0,0⟩)
abbrev SX:Stmt:=top 17
theorem QM:Bj ["cloth"] ["cloth"] (Ai SX):=sc9
abbrev J5:Stmt:=top 18
theorem Ci:Bj ["texts", "least", "signs", "ends", "text"] ["texts", "least", "signs"] (Ai J5):=sc9
abbrev O6:Stmt:=top 19
theorem Ez:Bj ["text", "ends", "signs", "sign"] ["text", "ends", "signs"] (Ai O6):=sc9
abbrev KY:Stmt:=top 20
theorem VM:Bj ["cloth", "end"] ["cloth", "end"] (Ai KY):=sc9
abbrev JX:Stmt:=top 23
theorem Hi:Bj ["cloth", "warp", "weft", "size"] ["cloth", "warp", "weft"] (Ai JX):=sc9
abbrev KZ:Stmt:=top 24
theorem HH:Bj ["picture", "warp", "weft", "size"] ["picture", "warp", "weft"] (Ai KZ):=sc9
abbrev Ig:Stmt:=top 25
theorem CT:Bj ["picture", "ends", "text"] ["picture"] (Ai Ig):=sc9
abbrev Ks:Stmt:=top 26
theorem Dv:Bj ["text", "count", "signs", "sign"] ["text", "count", "signs"] (Ai Ks):=sc9
abbrev JZ:Stmt:=top 27
theorem Ug:Bj ["text", "warp", "colour"] ["text", "warp", "colour"] (Ai JZ):=sc9
abbrev La:Stmt:=top 28
theorem VN:Bj ["text", "warp", "colour"] ["text", "warp", "colour"] (Ai La):=sc9
abbrev QQ:Stmt:=top 29
theorem VP:Bj ["seen", "end_colour", "pick_colour"] ["seen", "end_colour", "pick_colour"] (Ai QQ):=sc9
abbrev Gn:Stmt:=top 31
theorem Ek:Bj ["texts", "ends", "lower", "end", "text"] ["texts"] (Ai Gn):=sc9
abbrev QR:Stmt:=top 32
theorem En:Bj ["lower", "start", "ahead", "found", "place", "one", "other"] ["lower", "start"] (Ai QR):=sc9
abbrev Xx:Stmt:=top 33
theorem U7:Bj ["ahead", "goal", "way"] ["ahead", "goal"] (Ai Xx):=sc9
abbrev Ka:Stmt:=top 34
theorem Jl:Bj ["lower", "strands", "start", "ahead"] ["lower", "strands"] (Ai Ka):=sc9
abbrev G6:Stmt:=top 36
theorem BL:Bj ["picture", "warp", "weft", "size", "told", "seen_along", "borne", "strand", "chains", "threads"] ["picture", "warp", "weft"] (Ai G6):=sc9
abbrev Ih:Stmt:=top 37
theorem Ex:Bj ["picture", "ends", "seen_along", "end", "text"] ["picture"] (Ai Ih):=sc9
abbrev Ku:Stmt:=top 38
theorem Dw:Bj ["seen_along", "told", "borne", "strand", "chains", "colours", "colour", "given", "chain"] ["seen_along", "told", "borne", "strand"] (Ai Ku):=sc9
abbrev O7:Stmt:=top 39
theorem Dr:Bj ["seen_along", "told", "borne", "given", "strand", "ahead", "found", "place", "one", "other", "seen"] ["seen_along", "told", "borne", "given", "strand"] (Ai O7):=sc9
abbrev EY:Stmt:=top 43
theorem DG:Bj ["cloth", "size", "ends", "unlike_ends", "unlike_picks", "threading", "treading"] ["cloth"] (Ai EY):=sc9
abbrev Kv:Stmt:=top 44
theorem GX:Bj ["threading", "ties", "shaft", "tie"] ["threading", "ties"] (Ai Kv):=sc9
abbrev M8:Stmt:=top 45
theorem Tc:Bj ["count"] ["count"] (Ai M8):=sc9
abbrev M9:Stmt:=top 46
theorem Td:Bj ["shaft"] ["shaft"] (Ai M9):=sc9
abbrev QS:Stmt:=top 47
theorem O8:Bj ["tie", "k"] ["tie"] (Ai QS):=sc9
abbrev J7:Stmt:=top 48
theorem Ja:Bj ["treading", "treadles", "treadle"] ["treading", "treadles"] (Ai J7):=sc9
abbrev Jm:Stmt:=top 49
theorem Te:Bj ["threading", "text"] ["threading", "text"] (Ai Jm):=sc9
abbrev Xy:Stmt:=top 50
theorem Qu:Bj ["things", "found", "thing"] ["things"] (Ai Xy):=sc9
abbrev Kw:Stmt:=top 52
theorem Qv:Bj ["half"] ["half"] (Ai Kw):=sc9
abbrev J8:Stmt:=top 54
theorem Bw:Bj ["half", "size", "lower", "cut", "rows", "forced", "pick", "signs", "end", "sign", "strands"] ["half"] (Ai J8):=sc9
abbrev Tf:Stmt:=top 55
theorem U8:Bj ["lower", "end", "pick", "ahead"] ["lower", "end", "pick"] (Ai Tf):=sc9
abbrev O9:Stmt:=top 57
theorem Gk:Bj ["picture", "warp", "weft", "threads", "finished"] ["picture", "warp", "weft"] (Ai O9):=sc9
abbrev MF:Stmt:=top 59
theorem DK:Bj ["script", "many", "found", "step", "k"] ["script", "many"] (Ai MF):=sc9
abbrev Tg:Stmt:=top 60
theorem Fq:Bj ["numbers", "wide", "high", "rows", "j", "row", "k", "at"] ["numbers", "wide", "high"] (Ai Tg):=sc9
abbrev Jo:Stmt:=top 61
theorem Lb:Bj ["numbers", "first", "count", "span", "letters"] ["numbers", "first", "count", "span"] (Ai Jo):=sc9
abbrev QT:Stmt:=top 62
theorem Eo:Bj ["given", "warp", "weft", "rows", "j", "row", "k"] ["given", "warp", "weft"] (Ai QT):=sc9
abbrev Th:Stmt:=top 63
theorem Cj:Bj ["way", "given", "warp", "weft", "caught", "e", "word"] ["way", "given", "warp", "weft"] (Ai Th):=sc9
abbrev Ep:Stmt:=top 64
theorem Ca:Bj ["given", "fault", "numbers", "odd", "at", "row", "place"] ["given", "fault", "numbers", "odd"] (Ai Ep):=sc9
abbrev Hv:Stmt:=top 65
theorem Fi:Bj ["threads", "fault", "numbers", "at", "some"] ["threads", "fault", "numbers"] (Ai Hv):=sc9
abbrev U9:Stmt:=top 66
theorem YT:Bj ["way", "fault", "other", "small"] ["way", "fault", "other", "small"] (Ai U9):=sc9
abbrev Aez:Stmt:=top 67
theorem El:Bj ["script", "numbers", "fault", "other", "wide", "high", "span", "given", "good", "picture", "bad", "small", "way", "texts", "odd", "faulty"] ["script"] (Ai Aez):=sc9
abbrev J9:Stmt:=(V4 (top 4)).getD 0 (.Pass ⟨0,0,0,0⟩)
theorem OD:Bj ["self"] ["self"] (Ai J9):=sc9
abbrev Jb:Stmt:=(V4 (top 10)).getD 0 (.Pass ⟨0,0,0,0⟩)
theorem Nt:Bj ["self"] ["self"] (Ai Jb):=sc9
abbrev GZ:Stmt:=(V4 (top 42)).getD 0 (.Pass ⟨0,0,0,0⟩)
theorem OJ:Bj ["self", "threading", "ties", "treading"] ["self", "threading", "ties", "treading"] (Ai GZ):=sc9
set_option genInjectivity false in
structure Adr where
 {FQ:Addr}
 {Ha:Addr}
 {JB:FuncData}
 {Nu:Addr}
 {Nv:FuncData}
 {FT:Addr}
 {FW:FuncData}
 {HJ:Addr}
 {HN:FuncData}
 {QV:Addr}
 {QW:FuncData}
 {Kc:Addr}
 {Kd:FuncData}
 {Ld:Addr}
 {Le:FuncData}
 {Gr:Addr}
 {Gs:FuncData}
 {Gp:Addr}
 {Gq:FuncData}
 {Pa:Addr}
 {Pb:FuncData}
 {QX:Addr}
 {QZ:FuncData}
 {Ra:Addr}
 {Rf:FuncData}
 {Ky:Addr}
 {Kz:FuncData}
 {Rg:Addr}
 {Rh:FuncData}
 {Xz:Addr}
 {X3:FuncData}
 {Pg:Addr}
 {Ph:FuncData}
 {G7:Addr}
 {G8:FuncData}
 {Lg:Addr}
 {Lh:FuncData}
 {K1:Addr}
 {K3:FuncData}
 {Pj:Addr}
 {Pk:FuncData}
 {MJ:Addr}
 {MK:FuncData}
 {K4:Addr}
 {K5:FuncData}
 {MN:Addr}
 {MP:FuncData}
 {MT:Addr}
 {Nb:FuncData}
 {Ri:Addr}
 {Rj:FuncData}
 {JC:Addr}
 {JD:FuncData}
 {Nf:Addr}
 {Ng:FuncData}
 {X4:Addr}
 {X5:FuncData}
 {K6:Addr}
 {K7:FuncData}
 {JF:Addr}
 {JG:FuncData}
 {X6:Addr}
 {X7:FuncData}
 {Ke:Addr}
 {Kf:FuncData}
 {Jp:Addr}
 {Jq:FuncData}
 {Nx:Addr}
 {Ny:FuncData}
 {Jr:Addr}
 {Js:FuncData}
 {Li:Addr}
 {Lj:FuncData}
 {Hb:Addr}
 {Hd:FuncData}
 {Gu:Addr}
 {Gw:FuncData}
 {Fv:Addr}
 {Fw:FuncData}
 {Qw:Addr}
 {Qx:FuncData}
 {Ae0:Addr}
 {AbP:FuncData}
 {HQ:Addr}
 {Ed:Addr}
 {Cu:Addr}
 {Bc:Addr}
 {JH:Addr}
 {JK:FuncData}
 {CV:Addr}
 {Cv:Addr}
 {Dp:Addr}
 {Cw:Addr}
 {Cd:Addr}
 {Aw:Addr}
 {Jc:Addr}
 {Jd:FuncData}
 {CW:Addr}
 {Ce:Addr}
 {CZ:Addr}
 {Ef:Addr}
structure Txt (K:PySem.W.Frag) (mg:Str→Option Value) (t:Adr):Prop where
 measured:Df K mg "measured" SX ["cloth"] t.Nu t.Nv
 BV:Df K mg "measured_texts" J5 ["texts", "least", "signs"] t.FT t.FW
 Dl:Df K mg "check_pick" O6 ["text", "ends", "signs"] t.HJ t.HN
 Ml:Df K mg "end_signs" KY ["cloth", "end"] t.QV t.QW
 DN:Df K mg "picture_of" JX ["cloth", "warp", "weft"] t.Kc t.Kd
 Dk:Df K mg "free_half" KZ ["picture", "warp", "weft"] t.Ld t.Le
 Bd:Df K mg "measured_picture" Ig ["picture"] t.Gr t.Gs
 Ah:Df K mg "check_threads" Ks ["text", "count", "signs"] t.Gp t.Gq
 Kg:Df K mg "shown_pick" JZ ["text", "warp", "colour"] t.Pa t.Pb
 Mm:Df K mg "free_pick" La ["text", "warp", "colour"] t.QX t.QZ
 Mp:Df K mg "free_sign" QQ ["seen", "end_colour", "pick_colour"] t.Ra t.Rf
 Hj:Df K mg "lower_strands" Gn ["texts"] t.Ky t.Kz
 Hf:Df K mg "ways_from" QR ["lower", "start"] t.Rg t.Rh
 Jt:Df K mg "way_to" Xx ["ahead", "goal"] t.Xz t.X3
 Kh:Df K mg "upper_part" Ka ["lower", "strands"] t.Pg t.Ph
 Bo:Df K mg "first_colouring" G6 ["picture", "warp", "weft"] t.G7 t.G8
 HR:Df K mg "crossings_of" Ih ["picture"] t.Lg t.Lh
 Hk:Df K mg "settle_strand" Ku ["seen_along", "told", "borne", "strand"] t.K1 t.K3
 Kl:Df K mg "chain_from" O7 ["seen_along", "told", "borne", "given", "strand"] t.Pj t.Pk
 Je:Df K mg "least_draft" EY ["cloth"] t.MJ t.MK
 Hl:Df K mg "check_setting" Kv ["threading", "ties"] t.K4 t.K5
 Dt:Df K mg "check_count" M8 ["count"] t.MN t.MP
 Fy:Df K mg "check_shaft" M9 ["shaft"] t.MT t.Nb
 Mq:Df K mg "check_tie" QS ["tie"] t.Ri t.Rj
 G9:Df K mg "check_treading" J7 ["treading", "treadles"] t.JC t.JD
 Jf:Df K mg "shafts_over" Jm ["threading", "text"] t.Nf t.Ng
 unlike:Df K mg "unlike" Xy ["things"] t.X4 t.X5
 Hm:Df K mg "measured_half" Kw ["half"] t.K6 t.K7
 GC:Df K mg "finished_cloth" J8 ["half"] t.JF t.JG
 settle:Df K mg "settle" Tf ["lower", "end", "pick"] t.X6 t.X7
 DP:Df K mg "made_draft" O9 ["picture", "warp", "weft"] t.Ke t.Kf
 Jg:Df K mg "_law_numbers" MF ["script", "many"] t.Jp t.Jq
 Pn:Df K mg "_law_bits" Tg ["numbers", "wide", "high"] t.Nx t.Ny
 Fz:Df K mg "_law_threads" Jo ["numbers", "first", "count", "span"] t.Jr t.Js
 Mr:Df K mg "_law_shows" QT ["given", "warp", "weft"] t.Li t.Lj
 Ey:Df K mg "_law_word" Th ["way", "given", "warp", "weft"] t.Hb t.Hd
 FZ:Df K mg "_law_spoilt_texts" Ep ["given", "fault", "numbers", "odd"] t.Gu t.Gw
 Er:Df K mg "_law_spoilt_threads" Hv ["threads", "fault", "numbers"] t.Fv t.Fw
 Hn:Df K mg "_law_due" U9 ["way", "fault", "other", "small"] t.Qw t.Qx
 law:Df K mg "law" Aez ["script"] t.Ae0 t.AbP
 Km:mg "ValueError" = none
 X8:mg "enumerate" = none
 Br:mg "isinstance" = none
 BW:mg "len" = none
 Ii:mg "list" = none
 Ae1:mg "max" = none
 Ae2:mg "min" = none
 Dc:mg "range" = none
 Ti:mg "reversed" = none
 AgV:mg "set" = none
 AbQ:mg "sorted" = none
 XC:mg "zip" = none
 Ck:∃ tk,mg "MOST_STRANDS" = some (.int 40 tk)
 De:∃ tk,mg "COLOURS" = some (.str "abcdef" tk)
 Uh:∃ tk,mg "MOST_SHAFTS" = some (.int 40 tk)
 Ko:mg "WeaveError" = some (.ref t.HQ)
 Kq:Exn K t.HQ
 VR:mg "NoRow" = some (.ref t.Ed)
 Z8:PySem.W.isClsIn K t.Ed=true
 Z9:PySem.W.typeIn K (.ref t.Ed)=some (.type "type")
 Nz:mg "TooLarge" = some (.ref t.Cu)
 Tj:PySem.W.isClsIn K t.Cu=true
 Tn:PySem.W.typeIn K (.ref t.Cu)=some (.type "type")
 Fb:mg "NoCloth" = some (.ref t.Bc)
 Dg:Exn K t.Bc
 Qy:Mf K "called" "NoCloth.called" J9 ["self"] t.Bc t.JH t.JK
 Lk:PySem.W.mroIn K t.Bc (.ref t.HQ)=some true
 Rt:PySem.W.mroIn K t.Bc (.ref t.Ed)=some false
 N8:PySem.W.mroIn K t.Bc (.ref t.Cu)=some false
 Bq:PySem.W.mroIn K t.Bc (.ref t.Bc)=some true
 Pq:PySem.W.mroIn K t.Bc (.ref t.CV)=some false
 NB:PySem.W.mroIn K t.Bc (.ref t.Cv)=some false
 Qz:PySem.W.mroIn K t.Bc (.ref t.Dp)=some false
 NK:PySem.W.mroIn K t.Bc (.ref t.Cw)=some false
 Mw:PySem.W.mroIn K t.Bc (.ref t.Cd)=some false
 NP:PySem.W.mroIn K t.Bc (.ref t.Aw)=some false
 Pu:PySem.W.mroIn K t.Bc (.ref t.CW)=some false
 Mx:PySem.W.mroIn K t.Bc (.ref t.Ce)=some false
 Px:PySem.W.mroIn K t.Bc (.ref t.CZ)=some false
 Ru:PySem.W.mroIn K t.Bc (.ref t.Ef)=some false
 Q0:mg "NoDraft" = some (.ref t.CV)
 UG:PySem.W.isClsIn K t.CV=true
 UJ:PySem.W.typeIn K (.ref t.CV)=some (.type "type")
 NQ:mg "NoStrand" = some (.ref t.Cv)
 Tp:PySem.W.isClsIn K t.Cv=true
 Tq:PySem.W.typeIn K (.ref t.Cv)=some (.type "type")
 Tr:mg "NoDeed" = some (.ref t.Dp)
 XD:PySem.W.isClsIn K t.Dp=true
 XF:PySem.W.typeIn K (.ref t.Dp)=some (.type "type")
 NT:mg "NoLaying" = some (.ref t.Cw)
 Tt:PySem.W.isClsIn K t.Cw=true
 Tu:PySem.W.typeIn K (.ref t.Cw)=some (.type "type")
 Ln:mg "NoShuttle" = some (.ref t.Cd)
 Rk:PySem.W.isClsIn K t.Cd=true
 Rm:PySem.W.typeIn K (.ref t.Cd)=some (.type "type")
 DQ:mg "NoColour" = some (.ref t.Aw)
 Cm:Exn K t.Aw
 Ij:Mf K "called" "NoColour.called" Jb ["self"] t.Aw t.Jc t.Jd
 K9:PySem.W.mroIn K t.Aw (.ref t.HQ)=some true
 Q3:PySem.W.mroIn K t.Aw (.ref t.Ed)=some false
 My:PySem.W.mroIn K t.Aw (.ref t.Cu)=some false
 Ik:PySem.W.mroIn K t.Aw (.ref t.Bc)=some false
 NZ:PySem.W.mroIn K t.Aw (.ref t.CV)=some false
 Mz:PySem.W.mroIn K t.Aw (.ref t.Cv)=some false
 Py:PySem.W.mroIn K t.Aw (.ref t.Dp)=some false
 M3:PySem.W.mroIn K t.Aw (.ref t.Cw)=some false
 Lp:PySem.W.mroIn K t.Aw (.ref t.Cd)=some false
 Be:PySem.W.mroIn K t.Aw (.ref t.Aw)=some true
 Oa:PySem.W.mroIn K t.Aw (.ref t.CW)=some false
 Lq:PySem.W.mroIn K t.Aw (.ref t.Ce)=some false
 Ob:PySem.W.mroIn K t.Aw (.ref t.CZ)=some false
 Q4:PySem.W.mroIn K t.Aw (.ref t.Ef)=some false
 Q5:mg "NoBlock" = some (.ref t.CW)
 UL:PySem.W.isClsIn K t.CW=true
 UT:PySem.W.typeIn K (.ref t.CW)=some (.type "type")
 Lr:mg "NoPattern" = some (.ref t.Ce)
 Rn:PySem.W.isClsIn K t.Ce=true
 Ro:PySem.W.typeIn K (.ref t.Ce)=some (.type "type")
 Q6:mg "Unknown" = some (.ref t.CZ)
 UW:PySem.W.isClsIn K t.CZ=true
 Va:PySem.W.typeIn K (.ref t.CZ)=some (.type "type")
 Wa:mg "Twice" = some (.ref t.Ef)
 ZC:PySem.W.isClsIn K t.Ef=true
 ZD:PySem.W.typeIn K (.ref t.Ef)=some (.type "type")
 Ad3:mg "Draft" = some (.ref t.FQ)
 R1:L2.Own K t.FQ t.Ha
 Oc:Jj K t.FQ "threading"
 Ui:Jj K t.FQ "ties"
 Pz:Jj K t.FQ "treading"
 JL:Mf K "__init__" "Draft.__init__" GZ ["self", "threading", "ties", "treading"] t.FQ t.Ha t.JB
theorem bl1{fd:FuncData}{ps:List Str}(h:∀ a0:Value,bindArgs fd ⟨[a0],[]⟩=pure (ps.zip [a0]))(us:List Value)(hl:us.length=1):bindArgs fd ⟨us,[]⟩=pure (ps.zip us):=by
 rcases us with _ | ⟨a0,us⟩
 ·cases hl
 rcases us with _ | ⟨b,us⟩
 ·exact h a0
 ·cases hl
theorem bl2{fd:FuncData}{ps:List Str}(h:∀ a0 a1:Value,bindArgs fd ⟨[a0,a1],[]⟩=pure (ps.zip [a0,a1]))(us:List Value)(hl:us.length=2):bindArgs fd ⟨us,[]⟩=pure (ps.zip us):=by
 rcases us with _ | ⟨a0,us⟩
 ·cases hl
 rcases us with _ | ⟨a1,us⟩
 ·cases hl
 rcases us with _ | ⟨b,us⟩
 ·exact h a0 a1
 ·cases hl
theorem bl3{fd:FuncData}{ps:List Str}(h:∀ a0 a1 a2:Value,bindArgs fd ⟨[a0,a1,a2],[]⟩=pure (ps.zip [a0,a1,a2]))(us:List Value)(hl:us.length=3):bindArgs fd ⟨us,[]⟩=pure (ps.zip us):=by
 rcases us with _ | ⟨a0,us⟩
 ·cases hl
 rcases us with _ | ⟨a1,us⟩
 ·cases hl
 rcases us with _ | ⟨a2,us⟩
 ·cases hl
 rcases us with _ | ⟨b,us⟩
 ·exact h a0 a1 a2
 ·cases hl
theorem bl4{fd:FuncData}{ps:List Str}(h:∀ a0 a1 a2 a3:Value,bindArgs fd ⟨[a0,a1,a2,a3],[]⟩=pure (ps.zip [a0,a1,a2,a3]))(us:List Value)(hl:us.length=4):bindArgs fd ⟨us,[]⟩=pure (ps.zip us):=by
 rcases us with _ | ⟨a0,us⟩
 ·cases hl
 rcases us with _ | ⟨a1,us⟩
 ·cases hl
 rcases us with _ | ⟨a2,us⟩
 ·cases hl
 rcases us with _ | ⟨a3,us⟩
 ·cases hl
 rcases us with _ | ⟨b,us⟩
 ·exact h a0 a1 a2 a3
 ·cases hl
theorem bl5{fd:FuncData}{ps:List Str}(h:∀ a0 a1 a2 a3 a4:Value,bindArgs fd ⟨[a0,a1,a2,a3,a4],[]⟩=pure (ps.zip [a0,a1,a2,a3,a4]))(us:List Value)(hl:us.length=5):bindArgs fd ⟨us,[]⟩=pure (ps.zip us):=by
 rcases us with _ | ⟨a0,us⟩
 ·cases hl
 rcases us with _ | ⟨a1,us⟩
 ·cases hl
 rcases us with _ | ⟨a2,us⟩
 ·cases hl
 rcases us with _ | ⟨a3,us⟩
 ·cases hl
 rcases us with _ | ⟨a4,us⟩
 ·cases hl
 rcases us with _ | ⟨b,us⟩
 ·exact h a0 a1 a2 a3 a4
 ·cases hl
section
variable {P:Program}{w:World}{K:PySem.W.Frag}{mg:Str→Option Value}{base:Heap}{t:Adr}
def Vb (z:Str):Sp:=fun vs H Q _=>∃ v,vs=[v]∧Q (.str z) H
theorem P0(T:Txt K mg t):BK P w K mg base CX0 1 t.JH t.JK ["self"] (Vb "NoCloth") :=
 T.Qy.F.ok OD (fun vs H Q E h=>by obtain⟨v,rfl,_⟩:=h;rfl) fun cdv A outer s H vs Q E hr h=>by
  obtain⟨v,rfl,k⟩:=h
  exact⟨_,Ad (Ba Az),k⟩
theorem Il(T:Txt K mg t):BK P w K mg base CX0 1 t.Jc t.Jd ["self"] (Vb "NoColour") :=
 T.Ij.F.ok Nt (fun vs H Q E h=>by obtain⟨v,rfl,_⟩:=h;rfl) fun cdv A outer s H vs Q E hr h=>by
  obtain⟨v,rfl,k⟩:=h
  exact⟨_,Ad (Ba Az),k⟩
end
section
variable {P:Program}{w:World}{K:PySem.W.Frag}{mg:Str→Option Value}{base:Heap}{t:Adr}
theorem z0(i:Nat):(0+(i:Int)).toNat=i:=by omega
theorem HD{c d:Nat}:(V.str ⟨#[c]⟩:V)=V.str ⟨#[d]⟩↔c=d :=
 ⟨fun z=>by injection z with z;exact(List.cons.inj (Vz (a:=[c]) (b:=[d]) z)).1,fun z=>by rw[z]⟩
theorem e35:(V.str ⟨#[35]⟩:V)=V.str "#" := congrArg V.str (by decide +kernel)
theorem e46:(V.str ⟨#[46]⟩:V)=V.str "." := congrArg V.str (by decide +kernel)
theorem Ga{n:Nat}(h:n≤40):n≤sizeLine:=Akg h (by decide)
theorem occ{c:Nat}(h:Sg c):(!(!(Builtin.Str.occurrences "#." ⟨#[c]⟩ 0 (Str.length "#.") 1).isEmpty))=false:=by
 rcases h with h | h <;> subst h <;> decide +kernel
def Uj:Sp:=fun vs H Q _=>∃(t:List Nat),vs=[.str (tx t),.int (t.length:Int),.str "#."]∧(∀ c∈t,Sg c)∧t.length≤40∧Q .non H
theorem Uk(T:Txt K mg t):BK P w K mg base CX0 1 t.HJ t.HN ["text", "ends", "signs"] Uj:=by
 refine T.Dl.F.ok Ez (fun vs H Q E h=>?_) (fun cdv A outer s H vs Q E hr h=>?_)
 ·obtain⟨t,rfl,_⟩:=h
  rfl
 ·obtain⟨t,rfl,hsg,hl,k⟩:=h
  refine⟨_,(Ab (Bh (Ag Iz (Aj Bt rfl T.BW Bs (Aa (pv 0) Ac)) (pv 1) (Ak _))
    (Ad CK)
    Am)
   (Ad (Cp PassesOwn.never rfl (Nk (pv 0)) (Bu (i:=3) Ez.nd rfl (Or.inl rfl))
    (Ad (Bh (Ag FN (pv 3) (pv 2) rfl)
     (Ad CK)
     Am))))),?_⟩
  refine⟨_,rfl,_,rfl,(by rw[Ax];exact Ga hl),_,rfl,rfl,_,rfl,?_⟩
  refine Gz (by rw[Ax]) ?_
  refine⟨_,rfl,_,rfl,JS (z:=tx t) (fun i σ H2=>∃ v,σ=[some (.str (tx t)),some (.int (t.length:Int)),some (.str "#."),v]∧H2=H) ⟨none,rfl,rfl⟩ ?_ ?_⟩
  ·rintro i c σ H2 hc ⟨v,rfl,rfl⟩
   rw[JT] at hc
   refine⟨_,rfl,_,rfl,_,_,rfl,rfl,_,rfl,?_⟩
   rw[occ (hsg c (AjT hc))]
   exact Hr ⟨_,rfl,rfl⟩
  ·rintro σ H2 ⟨v,rfl,rfl⟩
   exact k
def PB (K:PySem.W.Frag):Sp:=fun vs H Q _=>∃(a:Addr) (cl:List (List Nat)) (m n:Nat),vs=[.ref a,.int 1,.str "#."]∧SqL K H a (vS cl)∧Cl cl m n∧∀ p,H p=none→Q (.ref p) (upd H p (.tup [.int (m:Int),.int (n:Int)]))
theorem PJ(T:Txt K mg t):BK P w K mg base CX0 2 t.FT t.FW ["texts", "least", "signs"] (PB K):=by
 refine T.BV.F.ok Ci (fun vs H Q E h=>?_) (fun cdv A outer s H vs Q E hr h=>?_)
 ·obtain⟨a,cl,m,n,rfl,_⟩:=h
  rfl
 ·obtain⟨a,cl,m,n,rfl,hS,C,k⟩:=h
  have hlen:(vS cl).length=n:=by rw[BJ,C.hn]
  have h0:0<cl.length:=by rw[C.hn];exact C.n1
  have hm0:=C.hm cl[0] (AjU h0)
  have c1:=C.n1
  have c2:=C.n40
  have c3:=C.m1
  have c4:=C.m40
  refine⟨_,(Ab (Bh (PW.pt (pw_or (Ag Fj (Aj (Ar (K:=K)) rfl T.BW Bs (Aa (pv 0) Ac)) (pv 1) (Ak _)) (pw_or1 (Ag Hq (Aj (Ar (K:=K)) rfl T.BW Bs (Aa (pv 0) Ac)) (Ao (v:=.int 40) rfl T.Ck.choose_spec ⟨_,rfl⟩) (Ak _)))))
    (Ad CK)
    Am)
   (Ab (Al (i:=3) Ci.nd rfl (Or.inl rfl) (Aj Bt rfl T.BW Bs (Aa (Bb (Ay (K:=K)) (pv 0) Ae (fun _ _=>rfl)) Ac)))
   (Ab (Bh (PW.pt (pw_or (Ag Fj (pv 3) (pv 1) (Ak _)) (pw_or1 (Ag Hq (pv 3) (Ao (v:=.int 40) rfl T.Ck.choose_spec ⟨_,rfl⟩) (Ak _)))))
    (Ad CK)
    Am)
   (Ab (Cp PassesOwn.never rfl (Cz (K:=K) (pv 0)) (Bu (i:=4) Ci.nd rfl (Or.inl rfl))
    (Ad (Bp (An ((Uk T).mono (by decide)) hr rfl T.Dl.m T.Dl.F.kp T.Dl.b .nil Bv (Aa (pv 4) (Aa (pv 3) (Aa (pv 2) Ac)))))))
   (Ad (Ba (Eh (Aa (pv 3) (Aa (Aj (Ar (K:=K)) rfl T.BW Bs (Aa (pv 0) Ac)) Ac))))))))),?_⟩
  refine⟨_,rfl,_,_,rfl,.inl hS,_,rfl,_,_,rfl,rfl,_,rfl,?_⟩
  refine By (by rw[hlen];omega) ?_
  refine⟨_,rfl,_,_,rfl,.inl hS,_,_,rfl,rfl,_,rfl,?_⟩
  refine By (by rw[hlen];omega) ?_
  refine⟨_,rfl,_,_,_,_,rfl,rfl,hS,Bm (by decide) (GQ (AjO h0)),_,rfl,(by rw[Ax,hm0];exact Ga c4),?_⟩
  rw[Ax,hm0]
  refine⟨_,rfl,_,rfl,_,_,rfl,rfl,_,rfl,?_⟩
  refine By (by omega) ?_
  refine⟨_,rfl,_,_,rfl,rfl,_,rfl,?_⟩
  refine By (by omega) ?_
  refine⟨_,rfl,_,rfl,⟨_,hS⟩,DW (K:=K) (a:=a) (xs:=vS cl) (fun i σ H2=>∃ v,σ=[some (.ref a),some (.int 1),some (.str "#."),some (.int (m:Int)),v]∧H2=H) ⟨none,rfl,rfl⟩ (fun i σ H2 _ ⟨_,_,e⟩=>e▸hS) ?_ ?_⟩
  ·rintro i x σ H2 hx ⟨v,rfl,rfl⟩
   obtain⟨t,ht,rfl⟩:=GR hx
   have htm:=AjT ht
   refine⟨_,rfl,_,rfl,_,rfl,t,?_,C.sg t htm,?_,⟨_,rfl,rfl⟩⟩
   ·rw[C.hm t htm];rfl
   ·rw[C.hm t htm];exact c4
  ·rintro σ H2 ⟨v,rfl,rfl⟩
   refine⟨_,rfl,_,rfl,_,_,rfl,.inl hS,(by show 2≤sizeLine;decide),fun p hp=>?_⟩
   rw[hlen]
   exact k p hp
def XH (K:PySem.W.Frag):Sp:=fun vs H Q _=>∃(a:Addr) (cl:List (List Nat)) (m n:Nat),vs=[.ref a]∧SqL K H a (vS cl)∧Cl cl m n∧∀ p,H p=none→Q (.ref p) (upd H p (.tup [.int (m:Int),.int (n:Int)]))
theorem Rp(T:Txt K mg t):BK P w K mg base CX0 3 t.Nu t.Nv ["cloth"] (XH K):=by
 refine T.measured.F.ok QM (fun vs H Q E h=>?_) (fun cdv A outer s H vs Q E hr h=>?_)
 ·obtain⟨a,cl,m,n,rfl,_⟩:=h
  rfl
 ·obtain⟨a,cl,m,n,rfl,hS,C,k⟩:=h
  exact⟨_,(Ad (Ba (An ((PJ T).mono (by decide)) hr rfl T.BV.m T.BV.F.kp T.BV.b .nil Bv (Aa (pv 0) (Aa Ae (Aa Az Ac)))))),_,rfl,a,cl,m,n,rfl,hS,C,k⟩
def Wb (K:PySem.W.Frag):Sp:=fun vs H Q _=>∃(a:Addr) (cl:List (List Nat)) (m n e:Nat),vs=[.ref a,.int (e:Int)]∧SqL K H a (vS cl)∧Cl cl m n∧e<m∧∀ H',Av H H'→Q (.str (tx (col cl e))) H'
theorem Wc(T:Txt K mg t):BK P w K mg base CX0 1 t.QV t.QW ["cloth", "end"] (Wb K):=by
 refine T.Ml.F.ok VM (fun vs H Q E h=>?_) (fun cdv A outer s H vs Q E hr h=>?_)
 ·obtain⟨a,cl,m,n,e,rfl,_⟩:=h
  rfl
 ·obtain⟨a,cl,m,n,e,rfl,hS,C,he,k⟩:=h
  have c2:=C.n40
  have c4:=C.m40
  refine⟨_,(Ad (Ba (Dh (K:=K) PySem.F.plainAttrs_str PySem.F.slot_str_join PySem.F.type_str_join (Jx (K:=K)) Az (Aa (Gm (Ei.mk (Bx:=[1]) (Nc:=["text", "end"]) rfl (by decide +kernel) (by decide +kernel) (Dj (sc0:=Ai KY) rfl (by decide +kernel)) rfl rfl rfl (by decide +kernel) (fun k j h=>match k,h with | 0,h=>by obtain rfl:=Option.some.inj h;exact⟨_,rfl,rfl,rfl⟩ | _+1,h=>by simp at h)) rfl (Cz (K:=K) (pv 0)) (fun _ _ _ _ _=>.nil) (fun _ _ _ _ _=>(Bb Fe (pv 0) (pv 1) (fun _ _=>rfl)))) Ac)))),?_⟩
  refine⟨rfl,_,rfl,_,rfl,⟨_,hS⟩,GP (K:=K) (a:=a) (xs:=vS cl) (fun i ys H2=>H2=H∧ys=vS ((cl.take i).map fun t=>[t.getD e 0])) ⟨rfl,rfl⟩ ?_ ?_ ?_ ?_⟩
  ·rintro i ys H2 hi ⟨rfl,rfl⟩
   refine⟨hS,?_⟩
   rw[BJ,AjP,Akf]
   omega
  ·rw[BJ,C.hn];exact Ga c2
  ·rintro i x ys H2 hi hx ⟨rfl,rfl⟩
   obtain⟨t,ht,rfl⟩:=GR hx
   have htm:=AjT ht
   have htl:=C.hm t htm
   have hel:e<t.length:=by omega
   refine Ge.no ?_
   refine⟨_,rfl,_,rfl,_,_,t[e],rfl,rfl,(by rw[Ax,htl];exact Ga c4),(by rw[Zt];exact Zq (AjO hel)),?_⟩
   refine CN.of hi ⟨rfl,?_⟩
   rw[Fp,Gh,Akp,ht,AjY]
   simp[List.getD,hel]
  ·rintro ys H2 p ⟨rfl,rfl⟩ hp
   rw[BJ,Ak2]
   refine⟨_,_,((cl.map fun t=>[t.getD e 0]).map tx),rfl,rfl,SqL.of (by rw[Af,KH]),?_,?_⟩
   ·have e1:=Aal (fun t:List Nat=>t.getD e 0) cl
    rw[e1,AjP,AjP,C.hn]
    have:n*(Str.length "")=0:=by rw[show Str.length "" = 0 from by decide +kernel];omega
    omega
   ·rw[show(("" : Str))=tx [] from by decide +kernel,LR]
    have e2:(cl.map fun t=>[t.getD e 0]).flatten=col cl e:=Uz (fun t:List Nat=>t.getD e 0) cl
    rw[e2]
    exact k _ (.upd hp)
theorem Aix{c:Nat}(h:Co c):(!(!(Builtin.Str.occurrences "abcdef" ⟨#[c]⟩ 0 (Str.length "abcdef") 1).isEmpty))=false:=by
 obtain⟨h1,h2⟩:=h
 have:c=97∨c=98∨c=99∨c=100∨c=101∨c=102:=by omega
 rcases this with h | h | h | h | h | h <;> subst h <;> decide +kernel
def XJ:Sp:=fun vs H Q _=>∃(u:List Nat),vs=[.str (tx u),.int (u.length:Int),.str "abcdef"]∧(∀ c∈u,Co c)∧u.length≤40∧Q .non H
theorem Em(T:Txt K mg t):BK P w K mg base CX0 1 t.Gp t.Gq ["text", "count", "signs"] XJ:=by
 refine T.Ah.F.ok Dv (fun vs H Q E h=>?_) (fun cdv A outer s H vs Q E hr h=>?_)
 ·obtain⟨t,rfl,_⟩:=h
  rfl
 ·obtain⟨t,rfl,hsg,hl,k⟩:=h
  refine⟨_,(Ab (Bh (Ag Iz (Aj Bt rfl T.BW Bs (Aa (pv 0) Ac)) (pv 1) (Ak _))
    (Ad CK)
    Am)
   (Ad (Cp PassesOwn.never rfl (Nk (pv 0)) (Bu (i:=3) Dv.nd rfl (Or.inl rfl))
    (Ad (Bh (Ag FN (pv 3) (pv 2) rfl)
     (Ad CK)
     Am))))),?_⟩
  refine⟨_,rfl,_,rfl,(by rw[Ax];exact Ga hl),_,rfl,rfl,_,rfl,?_⟩
  refine Gz (by rw[Ax]) ?_
  refine⟨_,rfl,_,rfl,JS (z:=tx t) (fun i σ H2=>∃ v,σ=[some (.str (tx t)),some (.int (t.length:Int)),some (.str "abcdef"),v]∧H2=H) ⟨none,rfl,rfl⟩ ?_ ?_⟩
  ·rintro i c σ H2 hc ⟨v,rfl,rfl⟩
   rw[JT] at hc
   refine⟨_,rfl,_,rfl,_,_,rfl,rfl,_,rfl,?_⟩
   rw[Aix (hsg c (AjT hc))]
   exact Hr ⟨_,rfl,rfl⟩
  ·rintro σ H2 ⟨v,rfl,rfl⟩
   exact k
def AaB:Sp:=fun vs H Q _=>∃(u wa:List Nat) (c:Nat),vs=[.str (tx u),.str (tx wa),.str ⟨#[c]⟩]∧wa.length=u.length∧u.length≤40∧∀ H',Av H H'→Q (.str (tx (shown u wa c))) H'
theorem Ul(T:Txt K mg t):BK P w K mg base CX0 1 t.Pa t.Pb ["text", "warp", "colour"] AaB:=by
 refine T.Kg.F.ok Ug (fun vs H Q E h=>?_) (fun cdv A outer s H vs Q E hr h=>?_)
 ·obtain⟨u,wa,c,rfl,_⟩:=h
  rfl
 ·obtain⟨u,wa,c,rfl,hw,hl,k⟩:=h
  have hsz:sizeLine=16777216:=sizeLine_eq
  refine⟨_,(Ad (Ba (Dh (K:=K) PySem.F.plainAttrs_str PySem.F.slot_str_join PySem.F.type_str_join (Jx (K:=K)) Az (Aa (J3 (K:=K) (Hh.mk (Bx:=[2]) (Nc:=["sign", "end_colour", "colour"]) rfl (by decide +kernel) (by decide +kernel) (Dj (sc0:=Ai JZ) rfl (by decide +kernel)) rfl rfl rfl rfl rfl (by decide +kernel) (fun k j h=>match k,h with | 0,h=>by obtain rfl:=Option.some.inj h;exact⟨_,rfl,rfl,rfl⟩ | _+1,h=>by simp at h)) rfl (Oz (K:=K) rfl T.XC (Aa (pv 0) (Aa (pv 1) Ac))) (fun _ _ _ _ _=>.nil) (fun _ _ _ _ _=>(Om (Ag Cy (pv 0) Az (Ak _)) (pv 1) (pv 2)))) Ac)))),?_⟩
  refine⟨rfl,_,rfl,_,rfl,.s (tx u),.s (tx wa),rfl,trivial,trivial,trivial,?_⟩
  refine KN (n:=u.length) (fun i=>.str ⟨#[u.getD i 0]⟩) (fun i=>.str ⟨#[wa.getD i 0]⟩) (fun i ys H2=>Av H H2∧ys=vS (((shown u wa c).take i).map fun d=>[d])) ⟨.refl _,rfl⟩ ?_ ?_ ?_ ?_ ?_ ?_ ?_
  ·rintro i ys H2 hi ⟨s2,rfl⟩
   rw[BJ,AjP,Akf]
   omega
  ·omega
  ·rintro i ys H2 hi _
   exact Nq hi
  ·rintro i ys H2 hi _
   exact Nq (by omega)
  ·rintro ys H2 _
   exact⟨trivial,trivial,.inl (Z1 u)⟩
  ·rintro i ys H2 T2 hi ⟨s2,rfl⟩ nT
   have s3:Av H (upd H2 T2 (.tup [.str ⟨#[u.getD i 0]⟩,.str ⟨#[wa.getD i 0]⟩])):=s2.new nT
   have e:(shown u wa c).take (i+1)=(shown u wa c).take i++[if u.getD i 0=35 then wa.getD i 0 else c]:=by
    rw[Akp]
    congr 1
    have hi2:i<(shown u wa c).length:=by rw[J4];exact hi
    have:=Qo (wa:=wa) (c:=c) hi
    rw[← this,AjO hi2]
    simp[List.getD,hi2]
   refine Ge.no ?_
   refine⟨_,rfl,rfl,_,rfl,?_⟩
   refine CJ (fun h=>?_) (fun h=>?_)
   ·have h35:u.getD i 0=35:=HD.mp (h.trans e35.symm)
    rw[if_pos h35] at e
    refine⟨_,rfl,?_⟩
    refine CN.of hi ⟨s3,?_⟩
    rw[e,AjY,Fp,Gh]
    rfl
   ·have h35:¬u.getD i 0=35:=fun z=>h (by rw[z];exact e35)
    rw[if_neg h35] at e
    refine⟨_,rfl,?_⟩
    refine CN.of hi ⟨s3,?_⟩
    rw[e,AjY,Fp,Gh]
    rfl
  ·rintro ys H2 p ⟨s2,rfl⟩ hp
   have e0:(shown u wa c).take u.length=shown u wa c:=Akw (by rw[J4];exact AjQ _)
   rw[e0]
   refine⟨_,_,(((shown u wa c).map fun d=>[d]).map tx),rfl,rfl,SqL.of (by rw[Af,KH]),?_,?_⟩
   ·have e1:=Aal (fun d:Nat=>d) (shown u wa c)
    rw[e1,AjP,AjP,J4]
    have:u.length*(Str.length "")=0:=by rw[show Str.length "" = 0 from by decide +kernel];omega
    omega
   ·rw[show(("" : Str))=tx [] from by decide +kernel,LR]
    have e2:((shown u wa c).map fun d=>[d]).flatten=shown u wa c:=(Uz (fun d:Nat=>d) (shown u wa c)).trans (List.map_id _)
    rw[e2]
    exact k _ (s2.new hp)
def Ad4 (K:PySem.W.Frag):Sp:=fun vs H Q _=>∃(a:Addr) (cl:List (List Nat)) (m n:Nat) (wa we:List Nat),vs=[.ref a,.str (tx wa),.str (tx we)]∧SqL K H a (vS cl)∧Cl cl m n∧wa.length=m∧we.length=n∧(∀ c∈wa,Co c)∧(∀ c∈we,Co c) ∧
 ∀ l H',Av H H'→H l=none→H' l=some (.lst (vS (Iv cl wa we)))→Q (.ref l) H'
theorem Ju(T:Txt K mg t):BK P w K mg base CX0 4 t.Kc t.Kd ["cloth", "warp", "weft"] (Ad4 K):=by
 refine T.DN.F.ok Hi (fun vs H Q E h=>?_) (fun cdv A outer s H vs Q E hr h=>?_)
 ·obtain⟨a,cl,m,n,wa,we,rfl,_⟩:=h
  rfl
 ·obtain⟨a,cl,m,n,wa,we,rfl,hS,C,hwa,hwe,ca,ce,k⟩:=h
  have hsz:sizeLine=16777216:=sizeLine_eq
  have c2:=C.n40
  have c4:=C.m40
  have hcn:=C.hn
  refine⟨_,(Ab (Al (i:=3) Hi.nd rfl (Or.inl rfl) (An ((Rp T).mono (by decide)) hr rfl T.measured.m T.measured.F.kp T.measured.b .nil Bv (Aa (pv 0) Ac)))
   (Ab (Bp (An ((Em T).mono (by decide)) hr rfl T.Ah.m T.Ah.F.kp T.Ah.b .nil Bv (Aa (pv 1) (Aa (Bb (BX (K:=K)) (pv 3) Ae (fun _ _=>rfl)) (Aa (Ao (v:=.str "abcdef") rfl T.De.choose_spec ⟨_,rfl⟩) Ac)))))
   (Ab (Bp (An ((Em T).mono (by decide)) hr rfl T.Ah.m T.Ah.F.kp T.Ah.b .nil Bv (Aa (pv 2) (Aa (Bb (BX (K:=K)) (pv 3) Ae (fun _ _=>rfl)) (Aa (Ao (v:=.str "abcdef") rfl T.De.choose_spec ⟨_,rfl⟩) Ac)))))
   (Ad (Ba (J3 (K:=K) (Hh.mk (Bx:=[1]) (Nc:=["text", "colour", "warp"]) rfl (by decide +kernel) (by decide +kernel) (Dj (sc0:=Ai JX) rfl (by decide +kernel)) rfl rfl rfl rfl rfl (by decide +kernel) (fun k j h=>match k,h with | 0,h=>by obtain rfl:=Option.some.inj h;exact⟨_,rfl,rfl,rfl⟩ | _+1,h=>by simp at h)) rfl (Oz (K:=K) rfl T.XC (Aa (pv 0) (Aa (pv 2) Ac))) (fun _ _ _ _ _=>.nil) (fun _ _ _ _ _=>(An ((Ul T).mono (by decide)) hr rfl T.Kg.m T.Kg.F.kp T.Kg.b .nil Bv (Aa (pv 0) (Aa (pv 2) (Aa (pv 1) Ac))))))))))),?_⟩
  refine⟨_,rfl,a,cl,m,n,rfl,hS,C,fun p hp=>?_⟩
  have s1:Av H (upd H p (.tup [.int (m:Int),.int (n:Int)])):=.upd hp
  generalize hH1:upd H p (.tup [.int (m:Int),.int (n:Int)])=H1 at s1 ⊢
  have hp1:H1 p=some (.tup [.int (m:Int),.int (n:Int)]):=by rw[← hH1];exact Af
  have gp:SqT K H1 p [.int (m:Int),.int (n:Int)]:=SqT.of hp1
  clear hH1
  refine⟨_,rfl,_,rfl,_,_,_,_,rfl,rfl,gp,Bm (by decide) rfl,wa,(by rw[hwa];rfl),ca,by omega,?_⟩
  refine⟨_,rfl,_,rfl,_,_,_,_,rfl,rfl,gp,Bm (by decide) rfl,we,(by rw[hwe];rfl),ce,by omega,?_⟩
  refine⟨_,rfl,_,rfl,.l a,.s (tx we),rfl,trivial,⟨_,s1.seq hS⟩,trivial,?_⟩
  refine KN (n:=n) (fun i=>(vS cl).getD i .non) (fun i=>.str ⟨#[we.getD i 0]⟩) (fun i ys H2=>Av H1 H2∧ys=vS ((Iv cl wa we).take i)) ⟨.refl _,rfl⟩ ?_ ?_ ?_ ?_ ?_ ?_ ?_
  ·rintro i ys H2 hi ⟨s2,rfl⟩
   rw[BJ,Akf]
   omega
  ·omega
  ·rintro i ys H2 hi ⟨s2,_⟩
   exact VF ((s1.trans s2).seq hS) (by rw[BJ];omega)
  ·rintro i ys H2 hi _
   exact Nq (by omega)
  ·rintro ys H2 ⟨s2,_⟩
   exact⟨⟨_,(s1.trans s2).seq hS⟩,trivial,.inl ⟨_,(s1.trans s2).seq hS,by rw[BJ];exact hcn⟩⟩
  ·rintro i ys H2 T2 hi ⟨s2,rfl⟩ nT
   have hic:i<cl.length:=by omega
   have s3:Av H1 (upd H2 T2 (.tup [(vS cl).getD i .non,.str ⟨#[we.getD i 0]⟩])):=s2.new nT
   have gd:cl.getD i []=cl[i]:=by simp[List.getD,hic]
   have lc:=C.hm _ (AjU hic)
   have ev:(vS cl).getD i .non=.str (tx (cl.getD i [])):=by
    have:=GQ (AjO hic)
    rw[gd,AjV,this]
    rfl
   refine Ge.no ?_
   refine⟨_,rfl,_,rfl,_,rfl,cl.getD i [],wa,we.getD i 0,(by rw[ev];rfl),by rw[gd,lc];exact hwa,by rw[gd,lc];exact c4,fun H4 s4=>?_⟩
   refine CN.of hi ⟨s3.trans s4,?_⟩
   rw[Gh,Akp,Xn hic]
   rfl
  ·rintro ys H2 l ⟨s2,rfl⟩ hl
   have e0:(Iv cl wa we).take n=Iv cl wa we:=Akw (by rw[KQ];omega)
   rw[e0]
   exact k l _ ((s1.trans s2).new hl) ((s1.trans s2).free hl) Af
theorem AbR{G:Prop}{R:Nat→Prop}(C:Nat→Prop)(main:(∀ m,C m→R m)→G)(rest:∀ m,C m→R m):G:=main rest
theorem AbS{G:Prop}{R:Int→Prop}(main:(∀ z,R z)→G)(rest:∀ z,R z):G:=main rest
theorem YW(c:Int){z:Int}(hz:0<z){y:Nat}(hz2:z≤(y:Int)):∃ m:Nat,1+c%z=(m:Int)∧1≤m∧m≤y:=by
 have h1:=Ak6 c (show z≠0 by omega)
 have h2:=Ak7 c hz
 exact⟨(1+c%z).toNat,by omega,by omega,by omega⟩
def Num (ks:List Int)(m:Nat):Prop:=ks.length=m∧∀ k∈ks,0≤k∧k<1000000
theorem Num.at{ks:List Int}{m:Nat}(h:Num ks m){i:Int}(h0:0≤i)(hi:i<m):∃ z:Int,atI (vI ks) i=some (.int z)∧0≤z∧z<1000000:=by
 have hlt:i.toNat<ks.length:=by rw[h.1];omega
 exact⟨ks[i.toNat],Bm h0 (Ib (AjO hlt)),h.2 _ (AjU hlt)⟩
theorem Num.mod(z:Int):0≤z%1000000∧z%1000000<1000000:=⟨Ak6 _ (by decide),Ak7 _ (by decide)⟩
def Ad5 (K:PySem.W.Frag):Sp:=fun vs H Q _=>∃(a:Addr) (ns:List Int) (m:Nat),vs=[.ref a,.int (m:Int)]∧SqL K H a (vI ns)∧ns.length≤63∧1≤m∧m≤1000 ∧
 ∀(l:Addr) (ks:List Int) (H':Hp),Av H H'→H l=none→H' l=some (.lst (vI ks))→Num ks m→Q (.ref l) H'
theorem Tv(T:Txt K mg t):BK P w K mg base CX0 1 t.Jp t.Jq ["script", "many"] (Ad5 K):=by
 refine T.Jg.F.ok DK (fun vs H Q E h=>?_) (fun cdv A outer s H vs Q E hr h=>?_)
 ·obtain⟨a,ns,m,rfl,_⟩:=h
  rfl
 ·obtain⟨a,ns,m,rfl,hS,hl,hm,hm2,k⟩:=h
  have hsz:sizeLine=16777216:=sizeLine_eq
  refine⟨_,(Ab (Al (i:=2) DK.nd rfl (Or.inl rfl) (Fl Ac))
   (Ab (Al (i:=3) DK.nd rfl (Or.inl rfl) Ae)
   (Ab (Bh (Ag Hq (Aj (Ar (K:=K)) rfl T.BW Bs (Aa (pv 0) Ac)) Ae (Ak _))
    (Ad (Al (i:=3) DK.nd rfl (Or.inl rfl) (Bg DY Ae (Bg Dd (Bb (Ay (K:=K)) (pv 0) Ae (fun _ _=>rfl)) Ae))))
    Am)
   (Ab (Cp PassesOwn.never rfl (BZ rfl T.Dc (Aa (pv 1) Ac)) (Bu (i:=4) DK.nd rfl (Or.inl rfl))
    (Ab (Al (i:=3) DK.nd rfl (Or.inl rfl) (Bg Dd (Bg Vl (pv 3) Ae) Ae))
    (Ad (Bp (Dh (K:=K) PySem.F.plainAttrs_list PySem.F.slot_list_append PySem.F.type_list_append CQ (pv 2) (Aa (Bg Dd (Bg LK (pv 3) Ae) Ae) Ac))))))
   (Ab (Cp PassesOwn.never rfl (BZ rfl T.Dc (Aa (Aj (Ar (K:=K)) rfl T.BW Bs (Aa (pv 0) Ac)) Ac)) (Bu (i:=4) DK.nd rfl (Or.inl rfl))
    (Ad (AaZ (Bg Dd (Bg DY (Bb (Ay (K:=K)) (pv 2) (Bg Dd (pv 4) (pv 1)) (fun _ _=>rfl)) (Bb (Ay (K:=K)) (pv 0) (pv 4) (fun _ _=>rfl))) Ae) (AaX (pv 2) (Bg Dd (pv 4) (pv 1)) set_list))))
   (Ad (Ba (pv 2)))))))),?_⟩
  refine⟨Akb _,fun q hq=>?_⟩
  have s1:Av H (upd H q (.lst [])):=.upd hq
  apply AbS
  ·intro rest
   refine⟨_,rfl,_,_,rfl,.inl (s1.seq hS),_,_,rfl,rfl,_,rfl,?_⟩
   refine CJ (fun h1=>?_) (fun h1=>?_)
   ·have hlt:0<ns.length:=by rw[BR] at h1;omega
    refine⟨_,rfl,_,_,_,_,rfl,rfl,s1.seq hS,Bm (by decide) (Ib (AjO hlt)),_,_,rfl,rfl,(by show(0:Int)<2147483646;decide),_,_,rfl,rfl,?_⟩
    obtain⟨z,ez⟩:∃ z:Int,z=(1:Int)+(ns[0]'hlt:Int)%(2147483646:Int):=⟨_,rfl⟩
    dsimp only
    rw[← ez]
    exact rest z
   ·exact rest 1
  ·intro z0
   refine⟨_,rfl,_,rfl,(by omega),(by omega),?_⟩
   rw[AjW]
   refine Du (lo:=0) (n:=m) (fun i σ H2=>∃(z:Int) (ks:List Int) (v:Option V),σ=[some (.ref a),some (.int (m:Int)),some (.ref q),some (.int z),v]∧Av H H2∧H2 q=some (.lst (vI ks))∧Num ks i)
    ⟨z0,[],none,rfl,s1,Af,rfl,fun _ h=>absurd h (by simp)⟩ ?_ ?_
   ·rintro i σ H2 hi ⟨z,ks,v,rfl,s2,hq2,hkl⟩
    refine⟨_,rfl,_,_,rfl,rfl,.inr ⟨by decide,by decide⟩,_,_,rfl,rfl,(by show(0:Int)<2147483647;decide),?_⟩
    refine⟨_,rfl,.inl ⟨rfl,_,SqL.of hq2⟩,_,rfl,_,_,rfl,rfl,⟨by decide,by decide⟩,_,_,rfl,rfl,(by show(0:Int)<1000000;decide),_,_,_,rfl,rfl,hq2,(by rw[BR,hkl.1];omega),?_⟩
    rw[Ie]
    refine⟨_,_,_,rfl,s2.over hq,Af,by rw[AjR,hkl.1];rfl,fun x hx=>?_⟩
    rcases List.mem_append.mp hx with h | h
    ·exact hkl.2 x h
    ·rw[List.mem_singleton.mp h];exact Num.mod _
   ·rintro σ H2 ⟨z,ks,v,rfl,s2,hq2,hkl⟩
    refine⟨_,rfl,_,_,rfl,.inl (s2.seq hS),_,rfl,(by omega),(by rw[BR];omega),?_⟩
    rw[AjW,BR]
    refine Du (lo:=0) (n:=ns.length) (fun i σ H2=>∃(ks:List Int) (v:Option V),σ=[some (.ref a),some (.int (m:Int)),some (.ref q),some (.int z),v]∧Av H H2∧H2 q=some (.lst (vI ks))∧Num ks m)
     ⟨ks,v,rfl,s2,hq2,hkl⟩ ?_ ?_
    ·rintro i σ H3 hi ⟨ks,v,rfl,s3,hq3,hkl⟩
     have hix:(0+(i:Int))%(m:Int)=((i%m:Nat):Int):=by rw[Ak5];omega
     have hlt:i%m<ks.length:=by rw[hkl.1];exact AkN _ (by omega)
     have e1:(vI ks)[((0+(i:Int))%(m:Int)).toNat]?=some (.int ks[i%m]):=by
      rw[hix,AjW]
      exact Ib (AjO hlt)
     have e2:(vI ns)[(0+(i:Int)).toNat]?=some (.int ns[i]):=by
      rw[Ak5,AjW]
      exact Ib (AjO hi)
     have n1:0≤(0+(i:Int))%(m:Int):=by rw[hix];omega
     refine⟨_,rfl,_,rfl,_,rfl,_,_,rfl,rfl,(by show(0:Int)<m;omega),?_⟩
     refine⟨_,_,_,_,rfl,rfl,SqL.of hq3,Bm n1 e1,?_⟩
     refine⟨_,rfl,_,rfl,_,_,_,_,rfl,rfl,s3.seq hS,Bm (by omega) e2,?_⟩
     refine⟨_,_,rfl,rfl,?_⟩
     refine⟨_,_,rfl,rfl,(by show(0:Int)<1000000;decide),?_⟩
     refine⟨_,rfl,_,rfl,_,rfl,_,_,rfl,rfl,(by show(0:Int)<m;omega),?_⟩
     refine⟨_,_,_,_,rfl,rfl,hq3,Afg n1 (by rw[BR,hkl.1,hix];have:=AkN i (show m>0 by omega);omega),?_⟩
     rw[Afe]
     refine⟨_,_,rfl,s3.over hq,Af,by rw[Ak8];exact hkl.1,fun x hx=>?_⟩
     rcases List.mem_or_eq_of_mem_set hx with h | h
     ·exact hkl.2 x h
     ·rw[h];exact Num.mod _
    ·rintro σ H3 ⟨ks,v,rfl,s3,hq3,hkl⟩
     exact⟨_,rfl,k q ks H3 s3 hq hq3 hkl⟩
theorem Af5(z:Int):∃ c:Nat,atI ((".#" : Str)).cps.toList (z%2)=some c∧Sg c:=by
 have h1:=Ak6 z (show(2:Int)≠0 by decide)
 have h2:=Ak7 z (show(0:Int)<2 by decide)
 have:z%2=0∨z%2=1:=by omega
 rcases this with h | h <;> rw[h]
 ·exact⟨46,by decide +kernel,.inr rfl⟩
 ·exact⟨35,by decide +kernel,.inl rfl⟩
theorem Af6{u:List Nat}{c:Nat}(h:∀ d∈u,Sg d)(hc:Sg c):∀ d∈u++[c],Sg d:=fun d hd=>by
 rcases List.mem_append.mp hd with h1 | h1
 ·exact h d h1
 ·rw[List.mem_singleton.mp h1];exact hc
def Ad6 (K:PySem.W.Frag):Sp:=fun vs H Q _=>∃(a:Addr) (ks:List Int) (m n:Nat),vs=[.ref a,.int (m:Int),.int (n:Int)]∧SqL K H a (vI ks)∧Num ks 63∧1≤m∧m≤40∧1≤n∧n≤40 ∧
 ∀(l:Addr) (cl:List (List Nat)) (H':Hp),Av H H'→H l=none→H' l=some (.lst (vS cl))→Cl cl m n→Q (.ref l) H'
theorem XM(T:Txt K mg t):BK P w K mg base CX0 1 t.Nx t.Ny ["numbers", "wide", "high"] (Ad6 K):=by
 refine T.Pn.F.ok Fq (fun vs H Q E h=>?_) (fun cdv A outer s H vs Q E hr h=>?_)
 ·obtain⟨a,ks,m,n,rfl,_⟩:=h
  rfl
 ·obtain⟨a,ks,m,n,rfl,hS,hN,m1,m40,n1,n40,k⟩:=h
  have hsz:sizeLine=16777216:=sizeLine_eq
  refine⟨_,(Ab (Al (i:=3) Fq.nd rfl (Or.inl rfl) (Fl Ac))
   (Ab (Cp PassesOwn.never rfl (BZ rfl T.Dc (Aa (pv 2) Ac)) (Bu (i:=4) Fq.nd rfl (Or.inl rfl))
    (Ab (Al (i:=5) Fq.nd rfl (Or.inl rfl) Az)
    (Ab (Cp PassesOwn.never rfl (BZ rfl T.Dc (Aa (pv 1) Ac)) (Bu (i:=6) Fq.nd rfl (Or.inl rfl))
     (Ab (Al (i:=7) Fq.nd rfl (Or.inl rfl) (Bg DY (Bg Vl (pv 4) Ae) (pv 6)))
     (Ad (Al (i:=5) Fq.nd rfl (Or.inl rfl) (Bg Cg (pv 5) (Bb Fe Az (Bg Dd (Bg LK (Bb (Ay (K:=K)) (pv 0) (Bg DY Ae (Bg Dd (pv 7) Ae)) (fun _ _=>rfl)) (Bg DY Ae (Bg Vl Ae (Bg LK (pv 7) Ae)))) Ae) (fun _ _=>rfl)))))))
    (Ad (Bp (Dh (K:=K) PySem.F.plainAttrs_list PySem.F.slot_list_append PySem.F.type_list_append CQ (pv 3) (Aa (pv 5) Ac)))))))
   (Ad (Ba (pv 3))))),?_⟩
  refine⟨Akb _,fun q hq=>?_⟩
  have s1:Av H (upd H q (.lst [])):=.upd hq
  refine⟨_,rfl,_,rfl,(by omega),(by omega),?_⟩
  rw[AjW]
  refine Du (lo:=0) (n:=n) (fun i σ H2=>∃(cl:List (List Nat)) (v1 v2 v3 v4:Option V),σ=[some (.ref a),some (.int (m:Int)),some (.int (n:Int)),some (.ref q),v1,v2,v3,v4]∧Av H H2∧H2 q=some (.lst (vS cl))∧cl.length=i∧(∀ t∈cl,t.length=m)∧∀ t∈cl,∀ c∈t,Sg c)
   ⟨[],none,none,none,none,rfl,s1,Af,rfl,fun _ h=>absurd h (by simp),fun _ h=>absurd h (by simp)⟩ ?_ ?_
  ·rintro i σ H2 hi ⟨cl,v1,v2,v3,v4,rfl,s2,hq2,hcl,hcm,hcs⟩
   refine⟨_,rfl,_,rfl,(by omega),(by omega),?_⟩
   rw[AjW]
   refine Du (lo:=0) (n:=m) (fun j σ H3=>∃(u:List Nat) (v3 v4:Option V),σ=[some (.ref a),some (.int (m:Int)),some (.int (n:Int)),some (.ref q),some (.int (0+(i:Int))),some (.str (tx u)),v3,v4]∧H3=H2∧u.length=j∧∀ c∈u,Sg c)
    ⟨[],v3,v4,by rw[show(("" : Str))=tx [] from by decide +kernel];rfl,rfl,rfl,fun _ h=>absurd h (by simp)⟩ ?_ ?_
   ·rintro j σ H3 hj ⟨u,v3,v4,rfl,rfl,hul,hus⟩
    refine⟨_,rfl,_,_,rfl,rfl,.inr ⟨by decide,by decide⟩,_,rfl,_,_,rfl,rfl,?_⟩
    obtain⟨y,ey⟩:∃ y:Int,y=(0+(i:Int))*40+(0+(j:Int)):=⟨_,rfl⟩
    have y0:0≤y:=by omega
    have y1:y<1600:=by omega
    dsimp only
    rw[← ey]
    have b1:=Ak6 y (show(55:Int)≠0 by decide)
    have b2:=Ak7 y (show(0:Int)<55 by decide)
    obtain⟨z,ez,_⟩:=hN.at (i:=8+y%55) (by omega) (by omega)
    have d0:0≤y / 55:=Int.ediv_nonneg y0 (by decide)
    have d1:y / 55≤1600:=by omega
    obtain⟨c,ec,hc⟩:=Af5 (z / (1+2*(y / 55)))
    refine⟨_,rfl,_,rfl,_,rfl,_,_,rfl,rfl,(by show(0:Int)<55;decide),_,_,rfl,rfl,_,_,_,_,rfl,rfl,s2.seq hS,ez,?_⟩
    refine⟨_,rfl,_,_,rfl,rfl,⟨by decide,by decide⟩,_,_,rfl,rfl,.inl ⟨by decide,by decide⟩,_,_,rfl,rfl,_,_,rfl,rfl,⟨by omega,by omega⟩,_,_,rfl,rfl,(by show(0:Int)<2;decide),?_⟩
    refine⟨_,_,_,rfl,rfl,(by decide +kernel),ec,_,_,rfl,rfl,?_,?_⟩
    ·rw[Ax,Fp,Ax,hul]
     show j+1≤sizeLine
     omega
    ·rw[Fp,G3]
     exact⟨_,_,_,rfl,rfl,by rw[AjR,hul];rfl,Af6 hus hc⟩
   ·rintro σ H3 ⟨u,v3,v4,rfl,rfl,hul,hus⟩
    refine⟨_,rfl,.inl ⟨rfl,_,SqL.of hq2⟩,_,rfl,_,_,_,rfl,rfl,hq2,(by rw[BJ,hcl];omega),?_⟩
    rw[Gh]
    refine⟨_,_,_,_,_,rfl,s2.over hq,Af,by rw[AjR,hcl];rfl,fun t ht=>?_,fun t ht=>?_⟩
    ·rcases List.mem_append.mp ht with h | h
     ·exact hcm t h
     ·rw[List.mem_singleton.mp h];exact hul
    ·rcases List.mem_append.mp ht with h | h
     ·exact hcs t h
     ·rw[List.mem_singleton.mp h];exact hus
  ·rintro σ H2 ⟨cl,v1,v2,v3,v4,rfl,s2,hq2,hcl,hcm,hcs⟩
   exact⟨_,rfl,k q cl H2 s2 hq hq2 ⟨hcl,hcm,hcs,m1,m40,n1,n40⟩⟩
theorem Af7{z:Int}(h0:0≤z)(h6:z<6):∃ c:Nat,atI (("abcdef" : Str)).cps.toList z=some c∧Co c:=by
 have:z=0∨z=1∨z=2∨z=3∨z=4∨z=5:=by omega
 rcases this with h | h | h | h | h | h <;> subst h
 ·exact⟨97,by decide +kernel,by decide,by decide⟩
 ·exact⟨98,by decide +kernel,by decide,by decide⟩
 ·exact⟨99,by decide +kernel,by decide,by decide⟩
 ·exact⟨100,by decide +kernel,by decide,by decide⟩
 ·exact⟨101,by decide +kernel,by decide,by decide⟩
 ·exact⟨102,by decide +kernel,by decide,by decide⟩
def YX (K:PySem.W.Frag):Sp:=fun vs H Q _=>∃(a:Addr) (ks:List Int) (f m s:Nat),vs=[.ref a,.int (f:Int),.int (m:Int),.int (s:Int)]∧SqL K H a (vI ks)∧Num ks 63∧m≤40∧1≤s∧s≤6 ∧
 ∀(u:List Nat) (H':Hp),Av H H'→u.length=m→(∀ c∈u,Co c)→Q (.str (tx u)) H'
theorem Tw(T:Txt K mg t):BK P w K mg base CX0 1 t.Jr t.Js ["numbers", "first", "count", "span"] (YX K):=by
 refine T.Fz.F.ok Lb (fun vs H Q E h=>?_) (fun cdv A outer s H vs Q E hr h=>?_)
 ·obtain⟨a,ks,f,m,s,rfl,_⟩:=h
  rfl
 ·obtain⟨a,ks,f,m,s,rfl,hS,hN,hm,hs,hs6,k⟩:=h
  have hsz:sizeLine=16777216:=sizeLine_eq
  refine⟨_,(Ab (Vy (i:=4) (Ei.mk (Bx:=[0,1,3]) (Nc:=["k", "numbers", "first", "span"]) rfl (by decide +kernel) (by decide +kernel) (Dj (sc0:=Ai Jo) rfl (by decide +kernel)) rfl rfl rfl (by decide +kernel) (fun k j h=>match k,h with | 0,h=>by obtain rfl:=Option.some.inj h;exact⟨_,rfl,rfl,rfl⟩ | 1,h=>by obtain rfl:=Option.some.inj h;exact⟨_,rfl,rfl,rfl⟩ | 2,h=>by obtain rfl:=Option.some.inj h;exact⟨_,rfl,rfl,rfl⟩ | _+3,h=>by simp at h)) rfl Lb.nd rfl rfl (BZ rfl T.Dc (Aa (pv 2) Ac)) (fun _ _ _ _ _=>.nil) (fun _ _ _ _ _=>(Bb Fe Az (Bg Dd (Bg LK (Bb (Ay (K:=K)) (pv 1) (Bg DY Ae (Bg Dd (Bg DY (pv 2) (Bg Vl Ae (pv 0))) Ae)) (fun _ _=>rfl)) Ae) (pv 3)) (fun _ _=>rfl))) rfl)
   (Ad (Ba (Dh (K:=K) PySem.F.plainAttrs_str PySem.F.slot_str_join PySem.F.type_str_join (Jx (K:=K)) Az (Aa (pv 4) Ac))))),?_⟩
  refine⟨_,rfl,_,rfl,(by omega),(by omega),?_⟩
  rw[AjW]
  refine Fo (lo:=0) (n:=m) (fun i ys H2=>H2=H∧∃ u:List Nat,ys=vS (u.map fun d=>[d])∧u.length=i∧∀ c∈u,Co c) ⟨rfl,[],rfl,rfl,fun _ h=>absurd h (by simp)⟩ ?_ ?_ ?_ ?_
  ·rintro i ys H2 hi ⟨rfl,u,rfl,hu,_⟩
   rw[BJ,AjP,hu]
   exact AjQ _
  ·omega
  ·rintro i ys H2 hi ⟨rfl,u,rfl,hu,hus⟩
   obtain⟨y,ey⟩:∃ y:Int,y=(f:Int)+3*(0+(i:Int)):=⟨_,rfl⟩
   have b1:=Ak6 y (show(55:Int)≠0 by decide)
   have b2:=Ak7 y (show(0:Int)<55 by decide)
   obtain⟨z,ez,_⟩:=hN.at (i:=8+y%55) (by omega) (by omega)
   have b3:=Ak6 (z / 7) (show(s:Int)≠0 by omega)
   have b4:=Ak7 (z / 7) (show(0:Int)<(s:Int) by omega)
   obtain⟨c,ec,hc⟩:=Af7 b3 (by omega)
   subst ey
   refine Ge.no ?_
   refine⟨_,rfl,_,rfl,_,rfl,_,_,rfl,rfl,.inl ⟨by decide,by decide⟩,_,_,rfl,rfl,_,_,rfl,rfl,(by show(0:Int)<55;decide),_,_,rfl,rfl,_,_,_,_,rfl,rfl,hS,ez,?_⟩
   refine⟨_,_,rfl,rfl,⟨by decide,by decide⟩,_,rfl,_,_,rfl,rfl,(by show(0:Int)<(s:Int);omega),_,_,_,rfl,rfl,(by decide +kernel),ec,?_⟩
   refine CN.of hi ⟨rfl,u++[c],?_,by rw[AjR,hu];rfl,fun d hd=>?_⟩
   ·rw[AjY,Fp,Gh]
    rfl
   ·rcases List.mem_append.mp hd with h1 | h1
    ·exact hus d h1
    ·rw[List.mem_singleton.mp h1];exact hc
  ·rintro ys H2 p ⟨rfl,u,rfl,hu,hus⟩ hp
   refine⟨rfl,_,rfl,_,_,((u.map fun d=>[d]).map tx),rfl,rfl,SqL.of (by rw[Af,KH]),?_,?_⟩
   ·have e1:=Aal (fun d:Nat=>d) u
    rw[e1,AjP,AjP,hu]
    have:m*(Str.length "")=0:=by rw[show Str.length "" = 0 from by decide +kernel];omega
    omega
   ·rw[show(("" : Str))=tx [] from by decide +kernel,LR]
    have e2:(u.map fun d=>[d]).flatten=u:=(Uz (fun d:Nat=>d) u).trans (List.map_id _)
    rw[e2]
    exact k _ _ (.upd hp) hu hus
theorem e63:(V.str ⟨#[63]⟩:V)=V.str "?" := congrArg V.str (by decide +kernel)
theorem v35:(("#" : Str))=⟨#[35]⟩:=by decide +kernel
theorem v46:(("." : Str))=⟨#[46]⟩:=by decide +kernel
theorem v63:(("?" : Str))=⟨#[63]⟩:=by decide +kernel
def Ad7 (K:PySem.W.Frag):Sp:=fun vs H Q _=>∃(a:Addr) (cl:List (List Nat)) (m n:Nat),vs=[.ref a]∧SqL K H a (vS cl)∧Pic cl m n∧∀ p,H p=none→Q (.ref p) (upd H p (.tup [.int (m:Int),.int (n:Int)]))
theorem Gi(T:Txt K mg t):BK P w K mg base CX0 2 t.Gr t.Gs ["picture"] (Ad7 K):=by
 refine T.Bd.F.ok CT (fun vs H Q E h=>?_) (fun cdv A outer s H vs Q E hr h=>?_)
 ·obtain⟨a,cl,m,n,rfl,_⟩:=h
  rfl
 ·obtain⟨a,cl,m,n,rfl,hS,C,k⟩:=h
  have hlen:(vS cl).length=n:=by rw[BJ,C.hn]
  have h0:0<cl.length:=by rw[C.hn];exact C.n1
  have hm0:=C.hm cl[0] (AjU h0)
  have c1:=C.n1
  have c2:=C.n40
  have c3:=C.m1
  have c4:=C.m40
  refine⟨_,(Ab (Bh (PW.pt (pw_or (Ag Fj (Aj (Ar (K:=K)) rfl T.BW Bs (Aa (pv 0) Ac)) Ae (Ak _)) (pw_or1 (Ag Hq (Aj (Ar (K:=K)) rfl T.BW Bs (Aa (pv 0) Ac)) (Ao (v:=.int 40) rfl T.Ck.choose_spec ⟨_,rfl⟩) (Ak _)))))
    (Ad CK)
    Am)
   (Ab (Al (i:=1) CT.nd rfl (Or.inl rfl) (Aj Bt rfl T.BW Bs (Aa (Bb (Ay (K:=K)) (pv 0) Ae (fun _ _=>rfl)) Ac)))
   (Ab (Bh (PW.pt (pw_or (Ag Fj (pv 1) Ae (Ak _)) (pw_or1 (Ag Hq (pv 1) (Ao (v:=.int 40) rfl T.Ck.choose_spec ⟨_,rfl⟩) (Ak _)))))
    (Ad CK)
    Am)
   (Ab (Cp PassesOwn.never rfl (Cz (K:=K) (pv 0)) (Bu (i:=2) CT.nd rfl (Or.inl rfl))
    (Ad (Bp (An ((Em T).mono (by decide)) hr rfl T.Ah.m T.Ah.F.kp T.Ah.b .nil Bv (Aa (pv 2) (Aa (pv 1) (Aa (Ao (v:=.str "abcdef") rfl T.De.choose_spec ⟨_,rfl⟩) Ac)))))))
   (Ad (Ba (Eh (Aa (pv 1) (Aa (Aj (Ar (K:=K)) rfl T.BW Bs (Aa (pv 0) Ac)) Ac))))))))),?_⟩
  refine⟨_,rfl,_,_,rfl,.inl hS,_,_,rfl,rfl,_,rfl,?_⟩
  refine By (by rw[hlen];omega) ?_
  refine⟨_,rfl,_,_,rfl,.inl hS,_,_,rfl,rfl,_,rfl,?_⟩
  refine By (by rw[hlen];omega) ?_
  refine⟨_,rfl,_,_,_,_,rfl,rfl,hS,Bm (by decide) (GQ (AjO h0)),_,rfl,(by rw[Ax,hm0];exact Ga c4),?_⟩
  rw[Ax,hm0]
  refine⟨_,rfl,_,_,rfl,rfl,_,rfl,?_⟩
  refine By (by omega) ?_
  refine⟨_,rfl,_,_,rfl,rfl,_,rfl,?_⟩
  refine By (by omega) ?_
  refine⟨_,rfl,_,rfl,⟨_,hS⟩,DW (K:=K) (a:=a) (xs:=vS cl) (fun i σ H2=>∃ v,σ=[some (.ref a),some (.int (m:Int)),v]∧H2=H) ⟨none,rfl,rfl⟩ (fun i σ H2 _ ⟨_,_,e⟩=>e▸hS) ?_ ?_⟩
  ·rintro i x σ H2 hx ⟨v,rfl,rfl⟩
   obtain⟨t,ht,rfl⟩:=GR hx
   have htm:=AjT ht
   refine⟨_,rfl,_,rfl,t,?_,C.co t htm,?_,⟨_,rfl,rfl⟩⟩
   ·rw[C.hm t htm];rfl
   ·rw[C.hm t htm];exact c4
  ·rintro σ H2 ⟨v,rfl,rfl⟩
   refine⟨_,rfl,_,rfl,_,_,rfl,.inl hS,(by show 2≤sizeLine;decide),fun p hp=>?_⟩
   rw[hlen]
   exact k p hp
def AbT:Sp:=fun vs H Q _=>∃(x e p:Nat),vs=[.str ⟨#[x]⟩,.str ⟨#[e]⟩,.str ⟨#[p]⟩]∧hs x e p≠33∧Q (.str ⟨#[hs x e p]⟩) H
theorem We(T:Txt K mg t):BK P w K mg base CX0 1 t.Ra t.Rf ["seen", "end_colour", "pick_colour"] AbT:=by
 refine T.Mp.F.ok VP (fun vs H Q E h=>?_) (fun cdv A outer s H vs Q E hr h=>?_)
 ·obtain⟨x,e,p,rfl,_⟩:=h
  rfl
 ·obtain⟨x,e,p,rfl,n33,k1⟩:=h
  refine⟨_,(Ab (Bh (Ag Cy (pv 1) (pv 0) (Ak _))
    (Ad (Ba (Om (Ag Cy (pv 2) (pv 0) (Ak _)) Az Az)))
    Am)
   (Ab (Bh (Ag Iz (pv 2) (pv 0) (Ak _))
    (Ad CK)
    Am)
   (Ad (Ba Az)))),?_⟩
  refine⟨_,rfl,_,rfl,rfl,_,rfl,?_⟩
  refine CJ (fun h=>?_) (fun h=>?_)
  ·have h1:e=x:=HD.mp h
   refine⟨_,rfl,_,rfl,rfl,_,rfl,?_⟩
   refine CJ (fun h=>?_) (fun h=>?_)
   ·have h2:p=x:=HD.mp h
    have e63:hs x e p=63:=by unfold hs;rw[if_pos h1,if_pos h2]
    rw[e63] at k1
    rw[v63]
    exact k1
   ·have h2:¬p=x:=fun z=>h (HD.mpr z)
    have e35:hs x e p=35:=by unfold hs;rw[if_pos h1,if_neg h2]
    rw[e35] at k1
    rw[v35]
    exact k1
  ·have h1:¬e=x:=fun z=>h (HD.mpr z)
   refine⟨_,rfl,_,rfl,rfl,_,rfl,?_⟩
   by_cases h2:p=x
   ·refine Gz (by rw[h2]) ?_
    have e46:hs x e p=46:=by unfold hs;rw[if_neg h1,if_pos h2]
    rw[e46] at k1
    rw[v46]
    exact k1
   ·exact absurd (by unfold hs;rw[if_neg h1,if_neg h2]) n33
def AbU:Sp:=fun vs H Q _=>∃(u wa:List Nat) (c:Nat),vs=[.str (tx u),.str (tx wa),.str ⟨#[c]⟩]∧wa.length=u.length∧u.length≤40∧33∉Gx u wa c∧∀ H',Av H H'→Q (.str (tx (Gx u wa c))) H'
theorem Wf(T:Txt K mg t):BK P w K mg base CX0 2 t.QX t.QZ ["text", "warp", "colour"] AbU:=by
 refine T.Mm.F.ok VN (fun vs H Q E h=>?_) (fun cdv A outer s H vs Q E hr h=>?_)
 ·obtain⟨u,wa,c,rfl,_⟩:=h
  rfl
 ·obtain⟨u,wa,c,rfl,hw,hl,n33,k1⟩:=h
  have hsz:sizeLine=16777216:=sizeLine_eq
  refine⟨_,(Ad (Ba (Dh (K:=K) PySem.F.plainAttrs_str PySem.F.slot_str_join PySem.F.type_str_join (Jx (K:=K)) Az (Aa (J3 (K:=K) (Hh.mk (Bx:=[2]) (Nc:=["seen", "end_colour", "colour"]) rfl (by decide +kernel) (by decide +kernel) (Dj (sc0:=Ai La) rfl (by decide +kernel)) rfl rfl rfl rfl rfl (by decide +kernel) (fun k j h=>match k,h with | 0,h=>by obtain rfl:=Option.some.inj h;exact⟨_,rfl,rfl,rfl⟩ | _+1,h=>by simp at h)) rfl (Oz (K:=K) rfl T.XC (Aa (pv 0) (Aa (pv 1) Ac))) (fun _ _ _ _ _=>.nil) (fun _ _ _ _ _=>(An ((We T).mono (by decide)) hr rfl T.Mp.m T.Mp.F.kp T.Mp.b .nil Bv (Aa (pv 0) (Aa (pv 1) (Aa (pv 2) Ac)))))) Ac)))),?_⟩
  refine⟨rfl,_,rfl,_,rfl,.s (tx u),.s (tx wa),rfl,trivial,trivial,trivial,?_⟩
  refine KN (n:=u.length) (fun i=>.str ⟨#[u.getD i 0]⟩) (fun i=>.str ⟨#[wa.getD i 0]⟩) (fun i ys H2=>Av H H2∧ys=vS (((Gx u wa c).take i).map fun d=>[d])) ⟨.refl _,rfl⟩ ?_ ?_ ?_ ?_ ?_ ?_ ?_
  ·rintro i ys H2 hi ⟨s2,rfl⟩
   rw[BJ,AjP,Akf]
   omega
  ·omega
  ·rintro i ys H2 hi _
   exact Nq hi
  ·rintro i ys H2 hi _
   exact Nq (by omega)
  ·rintro ys H2 _
   exact⟨trivial,trivial,.inl (Z1 u)⟩
  ·rintro i ys H2 T2 hi ⟨s2,rfl⟩ nT
   have s3:Av H (upd H2 T2 (.tup [.str ⟨#[u.getD i 0]⟩,.str ⟨#[wa.getD i 0]⟩])):=s2.new nT
   have e:(Gx u wa c).take (i+1)=(Gx u wa c).take i++[hs (u.getD i 0) (wa.getD i 0) c]:=by
    rw[Akp,SJ hi]
    rfl
   refine Ge.no ?_
   refine⟨_,rfl,_,rfl,_,rfl,u.getD i 0,wa.getD i 0,c,rfl,fun z=>n33 (AjT (by rw[SJ hi,z])),?_⟩
   refine CN.of hi ⟨s3,?_⟩
   rw[e,AjY,Fp,Gh]
   rfl
  ·rintro ys H2 p ⟨s2,rfl⟩ hp
   have e0:(Gx u wa c).take u.length=Gx u wa c:=Akw (by rw[Qp];exact AjQ _)
   rw[e0]
   refine⟨_,_,(((Gx u wa c).map fun d=>[d]).map tx),rfl,rfl,SqL.of (by rw[Af,KH]),?_,?_⟩
   ·have e1:=Aal (fun d:Nat=>d) (Gx u wa c)
    rw[e1,AjP,AjP,Qp]
    have:u.length*(Str.length "")=0:=by rw[show Str.length "" = 0 from by decide +kernel];omega
    omega
   ·rw[show(("" : Str))=tx [] from by decide +kernel,LR]
    have e2:((Gx u wa c).map fun d=>[d]).flatten=Gx u wa c:=(Uz (fun d:Nat=>d) (Gx u wa c)).trans (List.map_id _)
    rw[e2]
    exact k1 _ (s2.new hp)
def AbV (K:PySem.W.Frag):Sp:=fun vs H Q _=>∃(a:Addr) (cl:List (List Nat)) (m n:Nat) (wa we:List Nat),vs=[.ref a,.str (tx wa),.str (tx we)]∧SqL K H a (vS cl)∧Pic cl m n∧wa.length=m∧we.length=n∧(∀ c∈wa,Co c)∧(∀ c∈we,Co c) ∧
 (∀ r∈Hu cl wa we,33∉r)∧∀ l H',Av H H'→H' l=some (.lst (vS (Hu cl wa we)))→Q (.ref l) H'
theorem HS(T:Txt K mg t):BK P w K mg base CX0 3 t.Ld t.Le ["picture", "warp", "weft"] (AbV K):=by
 refine T.Dk.F.ok HH (fun vs H Q E h=>?_) (fun cdv A outer s H vs Q E hr h=>?_)
 ·obtain⟨a,cl,m,n,wa,we,rfl,_⟩:=h
  rfl
 ·obtain⟨a,cl,m,n,wa,we,rfl,hS,C,hwa,hwe,ca,ce,n33,k1⟩:=h
  have hsz:sizeLine=16777216:=sizeLine_eq
  have c2:=C.n40
  have c4:=C.m40
  have hcn:=C.hn
  refine⟨_,(Ab (Al (i:=3) HH.nd rfl (Or.inl rfl) (An ((Gi T).mono (by decide)) hr rfl T.Bd.m T.Bd.F.kp T.Bd.b .nil Bv (Aa (pv 0) Ac)))
   (Ab (Bp (An ((Em T).mono (by decide)) hr rfl T.Ah.m T.Ah.F.kp T.Ah.b .nil Bv (Aa (pv 1) (Aa (Bb (BX (K:=K)) (pv 3) Ae (fun _ _=>rfl)) (Aa (Ao (v:=.str "abcdef") rfl T.De.choose_spec ⟨_,rfl⟩) Ac)))))
   (Ab (Bp (An ((Em T).mono (by decide)) hr rfl T.Ah.m T.Ah.F.kp T.Ah.b .nil Bv (Aa (pv 2) (Aa (Bb (BX (K:=K)) (pv 3) Ae (fun _ _=>rfl)) (Aa (Ao (v:=.str "abcdef") rfl T.De.choose_spec ⟨_,rfl⟩) Ac)))))
   (Ad (Ba (J3 (K:=K) (Hh.mk (Bx:=[1]) (Nc:=["text", "colour", "warp"]) rfl (by decide +kernel) (by decide +kernel) (Dj (sc0:=Ai KZ) rfl (by decide +kernel)) rfl rfl rfl rfl rfl (by decide +kernel) (fun k j h=>match k,h with | 0,h=>by obtain rfl:=Option.some.inj h;exact⟨_,rfl,rfl,rfl⟩ | _+1,h=>by simp at h)) rfl (Oz (K:=K) rfl T.XC (Aa (pv 0) (Aa (pv 2) Ac))) (fun _ _ _ _ _=>.nil) (fun _ _ _ _ _=>(An ((Wf T).mono (by decide)) hr rfl T.Mm.m T.Mm.F.kp T.Mm.b .nil Bv (Aa (pv 0) (Aa (pv 2) (Aa (pv 1) Ac))))))))))),?_⟩
  refine⟨_,rfl,a,cl,m,n,rfl,hS,C,fun p hp=>?_⟩
  have s1:Av H (upd H p (.tup [.int (m:Int),.int (n:Int)])):=.upd hp
  generalize hH1:upd H p (.tup [.int (m:Int),.int (n:Int)])=H1 at s1 ⊢
  have hp1:H1 p=some (.tup [.int (m:Int),.int (n:Int)]):=by rw[← hH1];exact Af
  have gp:SqT K H1 p [.int (m:Int),.int (n:Int)]:=SqT.of hp1
  clear hH1
  refine⟨_,rfl,_,rfl,_,_,_,_,rfl,rfl,gp,Bm (by decide) rfl,wa,(by rw[hwa];rfl),ca,by omega,?_⟩
  refine⟨_,rfl,_,rfl,_,_,_,_,rfl,rfl,gp,Bm (by decide) rfl,we,(by rw[hwe];rfl),ce,by omega,?_⟩
  refine⟨_,rfl,_,rfl,.l a,.s (tx we),rfl,trivial,⟨_,s1.seq hS⟩,trivial,?_⟩
  refine KN (n:=n) (fun i=>(vS cl).getD i .non) (fun i=>.str ⟨#[we.getD i 0]⟩) (fun i ys H2=>Av H1 H2∧ys=vS ((Hu cl wa we).take i)) ⟨.refl _,rfl⟩ ?_ ?_ ?_ ?_ ?_ ?_ ?_
  ·rintro i ys H2 hi ⟨s2,rfl⟩
   rw[BJ,Akf]
   omega
  ·omega
  ·rintro i ys H2 hi ⟨s2,_⟩
   exact VF ((s1.trans s2).seq hS) (by rw[BJ];omega)
  ·rintro i ys H2 hi _
   exact Nq (by omega)
  ·rintro ys H2 ⟨s2,_⟩
   exact⟨⟨_,(s1.trans s2).seq hS⟩,trivial,.inl ⟨_,(s1.trans s2).seq hS,by rw[BJ];exact hcn⟩⟩
  ·rintro i ys H2 T2 hi ⟨s2,rfl⟩ nT
   have hic:i<cl.length:=by omega
   have s3:Av H1 (upd H2 T2 (.tup [(vS cl).getD i .non,.str ⟨#[we.getD i 0]⟩])):=s2.new nT
   have gd:cl.getD i []=cl[i]:=by simp[List.getD,hic]
   have lc:=C.hm _ (AjU hic)
   have ev:(vS cl).getD i .non=.str (tx (cl.getD i [])):=by
    have:=GQ (AjO hic)
    rw[gd,AjV,this]
    rfl
   refine Ge.no ?_
   refine⟨_,rfl,_,rfl,_,rfl,cl.getD i [],wa,we.getD i 0,(by rw[ev];rfl),by rw[gd,lc];exact hwa,by rw[gd,lc];exact c4,n33 _ (AjT (SM hic)),fun H4 s4=>?_⟩
   refine CN.of hi ⟨s3.trans s4,?_⟩
   rw[Gh,Akp,SM hic]
   rfl
  ·rintro ys H2 l ⟨s2,rfl⟩ hl
   have e0:(Hu cl wa we).take n=Hu cl wa we:=Akw (by rw[Qq];omega)
   rw[e0]
   exact k1 l _ ((s1.trans s2).new hl) Af
end
def Rct (cl:List (List Nat))(m n:Nat):Prop:=cl.length=n∧∀ t∈cl,t.length=m
theorem Rct.at{cl:List (List Nat)}{m n j:Nat}(R:Rct cl m n)(h:j<n):cl[j]?=some (cl.getD j [])∧(cl.getD j []).length=m∧atI (vS cl) (0+(j:Int))=some (.str (tx (cl.getD j []))):=by
 have hl:j<cl.length:=by rw[R.1];exact h
 have e:cl[j]?=some (cl.getD j []):=by rw[AjO hl];simp[List.getD,hl]
 refine⟨e,R.2 _ (AjT e),Bm (by omega) ?_⟩
 rw[show(0+(j:Int)).toNat=j by omega]
 exact GQ e
theorem ZF{u:List Nat}{i:Nat}(h:i<u.length):atI (tx u).cps.toList (0+(i:Int))=some (u.getD i 0):=by
 refine Bm (by omega) ?_
 rw[show(0+(i:Int)).toNat=i by omega]
 show u.toArray.toList[i]?=_
 simp[List.getD,h]
theorem take_one{u:List Nat}{i:Nat}(h:i<u.length):u.take (i+1)=u.take i++[u.getD i 0]:=by
 rw[Akp,AjO h]
 simp[List.getD,h]
theorem AaC{u:List (List Nat)}{i:Nat}(h:i<u.length):u.take (i+1)=u.take i++[u.getD i []]:=by
 rw[Akp,AjO h]
 simp[List.getD,h]
theorem Q7{cl:List (List Nat)}{wa we:List Nat}{j:Nat}(h:j<cl.length):(Iv cl wa we).getD j []=shown (cl.getD j []) wa (we.getD j 0):=by
 rw[AjV,Xn h];rfl
theorem Tz{cl:List (List Nat)}{wa we:List Nat}{j:Nat}(h:j<cl.length):(Hu cl wa we).getD j []=Gx (cl.getD j []) wa (we.getD j 0):=by
 rw[AjV,SM h];rfl
def flp (u v:List Nat):List Nat:=(List.range u.length).map fun k=>if u.getD k 0=63 then v.getD k 0 else u.getD k 0
def AjK (cl dl:List (List Nat)):List (List Nat):=(List.range cl.length).map fun j=>flp (cl.getD j []) (dl.getD j [])
theorem Im{u:List Nat}{k:Nat}(h:k≤u.length):RN u (some (k:Int)) none=u.drop k:=by
 unfold RN
 have e1:HT.sIx u.length 0 (some (k:Int))=k:=by rw[HT.LQ,AkJ h]
 have e2:HT.sIx u.length u.length none=u.length:=rfl
 rw[e1,e2]
 exact Akw (by rw[Ak1];omega)
structure SA (H:Hp) (sa:Addr) (rs:List Addr) (tt:List (List Addr)) (pic:List (List Nat)) (m n k:Nat):Prop where
 h:H sa=some (.lst (rs.map V.ref))
 rl:rs.length=k
 tl:tt.length=k
 ne:sa∉rs
 row:∀(v:Nat) (r:Addr) (ts:List Addr),rs[v]?=some r→tt[v]?=some ts→H r=some (.lst (ts.map V.ref))∧ts.length=deg m n v
 tup:∀(v:Nat) (ts:List Addr) (j:Nat) (T:Addr),tt[v]?=some ts→ts[j]?=some T→H T=some (.tup [.int ((nbr m v j:Nat):Int),.str ⟨#[crs pic m v (nbr m v j)]⟩])
theorem SA.same{H H':Hp}{sa:Addr}{rs:List Addr}{tt:List (List Addr)}{pic:List (List Nat)}{m n k:Nat}(S:SA H sa rs tt pic m n k)(s:Av H H'):SA H' sa rs tt pic m n k :=
 ⟨s _ _ S.h,S.rl,S.tl,S.ne,fun v r ts e1 e2=>⟨s _ _ (S.row v r ts e1 e2).1,(S.row v r ts e1 e2).2⟩,fun v ts j T e1 e2=>s _ _ (S.tup v ts j T e1 e2)⟩
theorem SA.app{H:Hp}{sa r:Addr}{rs ts:List Addr}{tt:List (List Addr)}{pic:List (List Nat)}{m n k:Nat}(S:SA H sa rs tt pic m n k)(hr:H r=some (.lst (ts.map V.ref)))(hl:ts.length=deg m n k)
  (ht:∀(j:Nat) (T:Addr),ts[j]?=some T→H T=some (.tup [.int ((nbr m k j:Nat):Int),.str ⟨#[crs pic m k (nbr m k j)]⟩])) (nr:r≠sa) :
  SA (upd H sa (.lst (rs.map V.ref++[.ref r]))) sa (rs++[r]) (tt++[ts]) pic m n (k+1):=by
 have last:∀{α:Type} {l:List α} {x y:α} {i:Nat},l.length=k→(l++[x])[i]?=some y→(i<k∧l[i]?=some y)∨(i=k∧y=x):=fun {α l x y i} hk e=>by
  by_cases hi:i<l.length
  ·rw[Aki hi] at e
   exact .inl ⟨by omega,e⟩
  ·have hi2:=(List.getElem?_eq_some_iff.mp e).1
   rw[AjR,Akt] at hi2
   have ei:i=l.length:=by omega
   rw[ei,Akr (AjQ _),Ak4] at e
   cases e
   exact .inr ⟨by omega,rfl⟩
 refine⟨by rw[Af,AjY];rfl,by rw[AjR,S.rl];rfl,by rw[AjR,S.tl];rfl,fun z=>?_,fun v r' ts' e1 e2=>?_,fun v ts' j T e1 e2=>?_⟩
 ·rcases List.mem_append.mp z with z | z
  ·exact S.ne z
  ·exact nr (List.mem_singleton.mp z).symm
 ·rcases last S.rl e1 with ⟨h1,h2⟩ | ⟨h1,h2⟩ <;> rcases last S.tl e2 with ⟨h3,h4⟩ | ⟨h3,h4⟩
  ·have:=S.row v r' ts' h2 h4
   refine⟨?_,this.2⟩
   have nr':r'≠sa:=fun e=>S.ne (by rw[← e];exact AjT h2)
   rw[Aq nr']
   exact this.1
  ·omega
  ·omega
  ·rw[h2,h4,h1,Aq nr]
   exact⟨hr,hl⟩
 ·have key:H T=some (.tup [.int ((nbr m v j:Nat):Int),.str ⟨#[crs pic m v (nbr m v j)]⟩]):=by
   rcases last S.tl e1 with ⟨h3,h4⟩ | ⟨h3,h4⟩
   ·exact S.tup v ts' j T h4 e2
   ·rw[h4] at e2
    rw[h3]
    exact ht j T e2
  rw[Aq (fun e=>by rw[e,S.h] at key;cases key)]
  exact key
theorem Af8(u:List Nat)(j:Nat):(tx u).cps[j]?=u[j]?:=by
 show u.toArray[j]?=_
 simp
section
variable {P:Program}{w:World}{K:PySem.W.Frag}{mg:Str→Option Value}{base:Heap}{t:Adr}
def AbW (K:PySem.W.Frag):Sp:=fun vs H Q _=>∃(a:Addr) (pic:List (List Nat)) (m n:Nat),vs=[.ref a]∧SqL K H a (vS pic)∧Pic pic m n∧∀(sa:Addr) (rs:List Addr) (tt:List (List Addr)) (H':Hp),Av H H'→H sa=none→SA H' sa rs tt pic m n (m+n)→Q (.ref sa) H'
theorem Rv(T:Txt K mg t):BK P w K mg base CX0 1 t.Lg t.Lh ["picture"] (AbW K):=by
 refine T.HR.F.ok Ex (fun vs H Q E h=>?_) (fun cdv A outer s H vs Q E hr h=>?_)
 ·obtain⟨a,pic,m,n,rfl,_⟩:=h
  rfl
 ·obtain⟨a,pic,m,n,rfl,hS,C,k⟩:=h
  have hsz:sizeLine=16777216:=sizeLine_eq
  have c2:=C.n40
  have c4:=C.m40
  have hlen:(vS pic).length=n:=by rw[BJ,C.hn]
  have h0:0<pic.length:=by rw[C.hn];exact C.n1
  have hm0:=C.hm pic[0] (AjU h0)
  have R:Rct pic m n:=⟨C.hn,C.hm⟩
  have sl:∀ u:List Nat,u.length≤40→(tx u).length≤sizeLine:=fun u h=>by rw[Ax];exact Ga h
  refine⟨_,(Ab (Al (i:=1) Ex.nd rfl (Or.inr rfl) (Aj Bt rfl T.BW Bs (Aa (Bb (Ay (K:=K)) (pv 0) Ae (fun _ _=>rfl)) Ac)))
   (Ab (Al (i:=2) Ex.nd rfl (Or.inl rfl) (Fl Ac))
   (Ab (Cp PassesOwn.never rfl (BZ rfl T.Dc (Aa (pv 1) Ac)) (Bu (i:=3) Ex.nd rfl (Or.inr rfl))
    (Ad (Bp (Dh (K:=K) PySem.F.plainAttrs_list PySem.F.slot_list_append PySem.F.type_list_append CQ (pv 2) (Aa (Gm (Ei.mk (Bx:=[0,1,3]) (Nc:=["pick", "picture", "ends", "end"]) rfl (by decide +kernel) (by decide +kernel) (Dj (sc0:=Ai Ih) rfl (by decide +kernel)) rfl rfl rfl (by decide +kernel) (fun k j h=>match k,h with | 0,h=>by obtain rfl:=Option.some.inj h;exact⟨_,rfl,rfl,rfl⟩ | 1,h=>by obtain rfl:=Option.some.inj h;exact⟨_,rfl,rfl,rfl⟩ | 2,h=>by obtain rfl:=Option.some.inj h;exact⟨_,rfl,rfl,rfl⟩ | _+3,h=>by simp at h)) rfl (BZ rfl T.Dc (Aa (Aj (Ar (K:=K)) rfl T.BW Bs (Aa (pv 0) Ac)) Ac)) (fun _ _ _ _ _=>.nil) (fun _ _ _ _ _=>(Eh (Aa (Bg DY (pv 2) (pv 0)) (Aa (Bb Fe (Bb (Ay (K:=K)) (pv 1) (pv 0) (fun _ _=>rfl)) (pv 3) (fun _ _=>rfl)) Ac))))) Ac)))))
   (Ab (Cp PassesOwn.never rfl (Cz (K:=K) (pv 0)) (Bu (i:=4) Ex.nd rfl (Or.inl rfl))
    (Ad (Bp (Dh (K:=K) PySem.F.plainAttrs_list PySem.F.slot_list_append PySem.F.type_list_append CQ (pv 2) (Aa (Xj rfl T.Ii rfl T.X8 (pv 4)) Ac)))))
   (Ad (Ba (pv 2))))))),?_⟩
  refine⟨_,rfl,_,_,_,_,rfl,rfl,hS,Bm (by decide) (GQ (AjO h0)),_,rfl,(by rw[Ax,hm0];exact Ga c4),?_⟩
  rw[Ax,hm0]
  refine⟨Akb _,fun sa nsa=>?_⟩
  have s1:Av H (upd H sa (.lst [])):=.upd nsa
  have S1:SA (upd H sa (.lst [])) sa [] [] pic m n 0:=⟨Af,rfl,rfl,by simp,fun v r ts e=>by simp at e,fun v ts j T e=>by simp at e⟩
  generalize upd H sa (.lst [])=H1 at s1 S1 ⊢
  refine⟨_,rfl,_,rfl,(by omega),(by omega),?_⟩
  rw[AjW]
  refine Du (lo:=0) (n:=m) (fun i σ H2=>∃(rs:List Addr) (tt:List (List Addr)) (v3 v4:Option V),σ=[some (.ref a),some (.int (m:Int)),some (.ref sa),v3,v4]∧Av H H2∧SA H2 sa rs tt pic m n i) ⟨[],[],none,none,rfl,s1,S1⟩ ?_ ?_
  ·rintro i σ H2 hi ⟨rs,tt,v3,v4,rfl,s2,S2⟩
   refine⟨_,rfl,.inl ⟨rfl,_,SqL.of S2.h⟩,_,rfl,_,_,rfl,.inl (s2.seq hS),_,rfl,(by omega),(by rw[hlen];omega),?_⟩
   rw[AjW,hlen]
   refine Fo (lo:=0) (n:=n) (fun j ys H3=>∃ ts:List Addr,Av H2 H3∧ys=ts.map V.ref∧ts.length=j∧∀(j':Nat) (T:Addr),ts[j']?=some T→H3 T=some (.tup [.int ((nbr m i j':Nat):Int),.str ⟨#[crs pic m i (nbr m i j')]⟩])) ⟨[],.refl _,rfl,rfl,fun j' T h=>by simp at h⟩ ?_ ?_ ?_ ?_
   ·rintro j ys H3 hj ⟨ts,s3,rfl,hts,_⟩
    rw[AjP,hts]
    exact AjQ _
   ·exact Ga c2
   ·rintro j ys H3 hj ⟨ts,s3,rfl,hts,tp⟩
    obtain⟨ej,lj,aj⟩:=R.at hj
    refine Ge.no ?_
    refine⟨_,rfl,_,rfl,_,_,rfl,rfl,_,rfl,_,rfl,_,_,_,_,rfl,rfl,(s2.trans s3).seq hS,aj,_,rfl,_,_,_,rfl,rfl,sl _ (by omega),ZF (by omega),(by show 2≤sizeLine;omega),fun T2 nT=>?_⟩
    have e1:nbr m i j=m+j:=by unfold nbr;rw[if_pos hi]
    have e2:crs pic m i (nbr m i j)=(pic.getD j []).getD i 0:=by rw[e1];unfold crs;rw[if_pos hi,show m+j-m=j by omega]
    dsimp only
    rw[show(m:Int)+(0+(j:Int))=((nbr m i j:Nat):Int) by rw[e1];omega,← e2]
    refine CN.of hj ⟨ts++[T2],s3.new nT,by rw[AjY];rfl,by rw[AjR,hts];rfl,fun j' T' h=>?_⟩
    by_cases hj':j'<ts.length
    ·rw[Aki hj'] at h
     have q:=tp j' T' h
     rw[Aq (BP q nT)]
     exact q
    ·have h2:=(List.getElem?_eq_some_iff.mp h).1
     rw[AjR,Akt] at h2
     have ej':j'=ts.length:=by omega
     rw[ej',Akr (AjQ _),Ak4] at h
     cases h
     rw[ej',hts]
     exact Af
   ·rintro ys H3 r ⟨ts,s3,rfl,hts,tp⟩ nr
    have s4:Av H2 (upd H3 r (.lst (ts.map V.ref))):=s3.new nr
    have S4:=S2.same s4
    have rsa:r≠sa:=fun e=>by rw[e] at nr;rw[s3 _ _ S2.h] at nr;cases nr
    refine⟨_,_,_,rfl,rfl,S4.h,(by rw[AjP,S4.rl];omega),?_⟩
    refine⟨rs++[r],tt++[ts],_,_,rfl,(s2.trans s4).over nsa,S4.app Af (by rw[hts];unfold deg;rw[if_pos hi]) (fun j T e=>?_) rsa⟩
    have q:=tp j T e
    rw[Aq (BP q nr)]
    exact q
  ·rintro σ H2 ⟨rs,tt,v3,v4,rfl,s2,S2⟩
   refine⟨_,rfl,_,rfl,⟨_,s2.seq hS⟩,DW (K:=K) (a:=a) (xs:=vS pic) (fun i σ H3=>∃(rs:List Addr) (tt:List (List Addr)) (v3 v4:Option V),σ=[some (.ref a),some (.int (m:Int)),some (.ref sa),v3,v4]∧Av H H3∧SA H3 sa rs tt pic m n (m+i)) ⟨rs,tt,v3,v4,rfl,s2,S2⟩ (fun i σ H3 _ ⟨_,_,_,_,_,e,_⟩=>e.seq hS) ?_ ?_⟩
   ·rintro i x σ H3 hx ⟨rs,tt,v3,v4,rfl,s3,S3⟩
    obtain⟨u,hu,rfl⟩:=GR hx
    have hul:=C.hm u (AjT hu)
    have hin:i<n:=by have:=(List.getElem?_eq_some_iff.mp hu).1;rw[C.hn] at this;exact this
    have gu:pic.getD i []=u:=by rw[AjV,hu];rfl
    refine⟨_,rfl,.inl ⟨rfl,_,SqL.of S3.h⟩,_,rfl,tx u,rfl,(by show u.toArray.size≤1000;simp;omega),fun r ts H4 s4 nr hr hts tp=>?_⟩
    have htl:ts.length=m:=by rw[hts];show u.toArray.size=m;simp;exact hul
    have S4:=S3.same s4
    have rsa:r≠sa:=fun e=>by rw[e,S3.h] at nr;cases nr
    refine⟨_,_,_,rfl,rfl,S4.h,(by rw[AjP,S4.rl];omega),?_⟩
    refine⟨rs++[r],tt++[ts],_,_,rfl,(s3.trans s4).over nsa,S4.app hr (by rw[htl];unfold deg;rw[if_neg (by omega)]) (fun j T e=>?_) rsa⟩
    have jl:j<u.length:=by have:=(List.getElem?_eq_some_iff.mp e).1;omega
    have q:=tp j T u[j] e (by rw[Af8];exact AjO jl)
    have e1:nbr m (m+i) j=j:=by unfold nbr;rw[if_neg (by omega)]
    have e2:crs pic m (m+i) j=u[j]:=by
     unfold crs
     rw[if_neg (by omega),show m+i-m=i by omega,gu]
     simp[List.getD,jl]
    rw[e1,e2]
    exact q
   ·rintro σ H3 ⟨rs,tt,v3,v4,rfl,s3,S3⟩
    rw[hlen] at S3
    exact⟨_,rfl,k sa rs tt H3 s3 nsa S3⟩
def pvO:Option Nat→V
 | none=>.non
 | some u=>.int (u:Int)
def kvs (ps:List (Nat × Option Nat)):List (Key × V):=ps.map fun p=>(Sum.inl (p.1:Int),pvO p.2)
theorem XN{v:Nat}:∀{ps:List (Nat × Option Nat)},v∉ps.map (·.1)→GF (kvs ps) (Sum.inl (v:Int))=none
 | [],_=>RQ
 | p::ps,h=>by
  unfold kvs
  rw[AjX] at h ⊢
  rw[Hs (fun e=>?_)]
  ·exact XN fun z=>h (Akk _ z)
  ·have e:((p.1:Nat):Int)=(v:Int):=Sum.inl.inj e
   have e:p.1=v:=by omega
   exact h (by rw[← e];exact Ake)
theorem XQ{v:Nat}{a:Option Nat}:∀{ps:List (Nat × Option Nat)},(ps.map (·.1)).Nodup→(v,a)∈ps→GF (kvs ps) (Sum.inl (v:Int))=some (pvO a)
 | [],_,h=>by cases h
 | p::ps,nd,h=>by
  rw[AjX,List.nodup_cons] at nd
  unfold kvs
  rw[AjX]
  rcases List.mem_cons.mp h with e | h'
  ·rw[← e]
   exact Jz rfl
  ·rw[Hs (fun z=>nd.1 ?_)]
   ·exact XQ nd.2 h'
   ·have z:((p.1:Nat):Int)=(v:Int):=Sum.inl.inj z
    have z:p.1=v:=by omega
    rw[z]
    exact List.mem_map.mpr ⟨_,h',rfl⟩
theorem Ad8(ps:List (Nat × Option Nat))(v u:Nat)(h:GF (kvs ps) (Sum.inl (v:Int))=none):putK (kvs ps) (Sum.inl (v:Int)) (.int (u:Int))=kvs (ps++[(v,some u)]):=by
 rw[RW _ h]
 unfold kvs
 rw[AjY]
 rfl
theorem Ad9(ps:List (Nat × Option Nat)):(kvs ps).length=ps.length:=by unfold kvs;rw[AjP]
def Ahd (ps:List (Nat × Option Nat)):Prop:=∀(i k c:Nat),ps[i]?=some (k,some c)→∃(j:Nat) (c':Option Nat),j<i∧ps[j]?=some (c,c')
theorem at_neg{xs:List V}{x:V}(h:xs[xs.length-1]?=some x):atI xs (-1)=some x:=by
 have hl:=(List.getElem?_eq_some_iff.mp h).1
 unfold atI ixN
 have h1:¬(0:Int) ≤ -1:=by decide
 rw[if_neg h1]
 have h2 : -((xs.length:Nat):Int) ≤ -1:=by omega
 rw[if_pos h2]
 show xs[((-1:Int)+((xs.length:Nat):Int)).toNat]?=some x
 rw[show((-1:Int)+((xs.length:Nat):Int)).toNat=xs.length-1 by omega]
 exact h
theorem AbX(bs:List Int)(x:Int):atI (vI (bs++[x])) (-1)=some (.int x):=by
 refine at_neg ?_
 rw[BR,AjR,Akt,Nat.add_sub_cancel]
 exact Ib (by rw[Akr (AjQ _),Ak4];rfl)
theorem Af9(ks:List Int):(vI ks).reverse=vI ks.reverse:=by unfold vI;rw[List.map_reverse]
def AbY:Sp:=fun vs H Q _=>∃(d:Addr) (g jg:Nat) (c:Option Nat) (ps:List (Nat × Option Nat)),vs=[.ref d,.int (g:Int)]∧H d=some (.dK (kvs ps))∧(ps.map (·.1)).Nodup∧Ahd ps∧ps.length≤200∧ps[jg]?=some (g,c) ∧
 ∀(l:Addr) (ws:List Int) (H':Hp),Av H H'→H l=none→H' l=some (.lst (vI ws))→ws.length≤1000→Q (.ref l) H'
theorem Q8(T:Txt K mg t):BK P w K mg base CX0 1 t.Xz t.X3 ["ahead", "goal"] AbY:=by
 refine T.Jt.F.ok U7 (fun vs H Q E h=>?_) (fun cdv A outer s H vs Q E hr h=>?_)
 ·obtain⟨d,g,jg,c,ps,rfl,_⟩:=h
  rfl
 ·obtain⟨d,g,jg,c,ps,rfl,hd,nd,ah,AdA,hg,k⟩:=h
  have hsz:sizeLine=16777216:=sizeLine_eq
  refine⟨_,(Ab (Al (i:=2) U7.nd rfl (Or.inl rfl) (Fl (Aa (pv 1) Ac)))
   (Ab (R7 PassesOwn.never (Ag Rx (Rz (Ia hr) (pv 0) (Bb (Ay (K:=K)) (pv 2) (Aek Abe Ae) (fun _ _=>rfl)) (fun _ _=>rfl)) Fd (Ak _))
    (Ad (Bp (Dh (K:=K) PySem.F.plainAttrs_list PySem.F.slot_list_append PySem.F.type_list_append CQ (pv 2) (Aa (Rz (Ia hr) (pv 0) (Bb (Ay (K:=K)) (pv 2) (Aek Abe Ae) (fun _ _=>rfl)) (fun _ _=>rfl)) Ac)))))
   (Ad (Ba (Sv (K:=K) rfl T.Ii rfl T.Ti (pv 2)))))),?_⟩
  refine⟨_,rfl,(by show 1≤sizeLine;decide),fun l nl=>?_⟩
  have s1:Av H (upd H l (.lst [.int (g:Int)])):=.upd nl
  have jl:=(List.getElem?_eq_some_iff.mp hg).1
  refine⟨fun m σ H2=>∃(bs:List Int) (cur:Nat) (c:Option Nat),σ=[some (.ref d),some (.int (g:Int)),some (.ref l)]∧Av H H2∧H2 l=some (.lst (vI (bs++[(cur:Int)])))∧ps[m]?=some (cur,c)∧bs.length+m≤jg,
   ⟨jg,[],g,c,rfl,s1,Af,hg,by simp⟩,?_⟩
  rintro m σ H2 ⟨bs,cur,c,rfl,s2,hl2,hm,hb⟩
  have hd2:=s2 _ _ hd
  have dg:Ht H2 d (.int (cur:Int)) (some (pvO c)):=by
   have:=Ht.k (k:=Sum.inl (cur:Int)) hd2
   rw[XQ nd (AjT hm)] at this
   exact this
  refine⟨_,rfl,_,rfl,_,rfl,_,_,_,_,rfl,rfl,SqL.of hl2,AbX _ _,d,_,rfl,dg,rfl,_,rfl,?_⟩
  cases c with
  | none =>
   refine Gz rfl ?_
   refine⟨_,rfl,_,_,rfl,SqL.of hl2,(by rw[BR,AjR,Akt];omega),fun q nq=>?_⟩
   rw[Af9]
   exact k q _ _ (s2.new nq) (s2.free nq) Af (by rw[AkL,AjR,Akt];omega)
  | some c =>
   obtain⟨j,c',hj,ej⟩:=ah m cur c hm
   refine M5 (by intro z;cases z) ?_
   refine⟨fun σ' H'=>∃(bs:List Int) (cur:Nat) (c:Option Nat),σ'=[some (.ref d),some (.int (g:Int)),some (.ref l)]∧Av H H'∧H' l=some (.lst (vI (bs++[(cur:Int)])))∧ps[j]?=some (cur,c)∧bs.length+j≤jg,
    fun σ' H' z=>⟨j,hj,z⟩,?_⟩
   refine⟨_,rfl,.inl ⟨rfl,_,SqL.of hl2⟩,_,rfl,_,rfl,_,rfl,_,_,_,_,rfl,rfl,SqL.of hl2,AbX _ _,d,_,rfl,dg,_,_,_,rfl,rfl,hl2,(by rw[BR,AjR,Akt];omega),?_⟩
   refine⟨bs++[(cur:Int)],c,c',rfl,s2.over nl,?_,ej,?_⟩
   ·rw[Af]
    show some (HO.lst (vI (bs++[(cur:Int)])++[.int (c:Int)]))=_
    rw[Ie]
   ·rw[AjR,Akt];omega
end
def gK (g:List (Nat × Nat)):List (Key × V):=g.map fun p=>(Sum.inl (p.1:Int),V.str ⟨#[p.2]⟩)
theorem YZ(g:List (Nat × Nat)):(gK g).length=g.length:=by unfold gK;rw[AjP]
theorem T3(v:Nat):∀ g:List (Nat × Nat),GF (gK g) (Sum.inl (v:Int))=(g.lookup v).map fun c=>V.str ⟨#[c]⟩
 | []=>RQ
 | p::g=>by
  unfold gK
  rw[AjX,Akj]
  cases e:v == p.1 with
  | true =>
   have:v=p.1:=by simpa using e
   rw[Jz (by show Sum.inl ((p.1:Nat):Int)=Sum.inl ((v:Nat):Int);rw[this])]
   rfl
  | false =>
   have:v≠p.1:=by simpa using e
   rw[Hs (fun z=>this (by have z:((p.1:Nat):Int)=(v:Int):=Sum.inl.inj z;omega))]
   exact T3 v g
theorem AbZ(g:List (Nat × Nat))(v c:Nat)(h:g.lookup v=none):putK (gK g) (Sum.inl (v:Int)) (.str ⟨#[c]⟩)=gK (g++[(v,c)]):=by
 rw[RW _ (by rw[T3,h];rfl)]
 unfold gK
 rw[AjY]
 rfl
theorem Wg{g:List (Nat × Nat)}{v:Nat}(h:v∉g.map (·.1)):g.lookup v=none:=by
 cases e:g.lookup v with
 | none=>rfl
 | some c=>exact absurd (List.mem_map.mpr ⟨_,Gj e,rfl⟩) h
theorem XR:∀(g b:List (Nat × Nat)),((b++g).map (·.1)).Nodup→Fg (gK b) (gK g)=gK (b++g)
 | [],b,_=>by rw[AkR];rfl
 | p::g,b,nd=>by
  have nb:b.lookup p.1=none:=Wg fun z=>by
   rw[AjY] at nd
   exact(List.nodup_append.mp nd).2.2 p.1 z p.1 (by rw[AjX];exact Ake) rfl
  show Fg (putK (gK b) (Sum.inl (p.1:Int)) (.str ⟨#[p.2]⟩)) (gK g)=_
  rw[AbZ b p.1 p.2 nb,XR g (b++[p]) (by rw[AkK];exact nd),AkK]
  rfl
theorem Za{H:Hp}{d:Addr}{g:List (Nat × Nat)}(h:H d=some (.dK (gK g)))(w x:Nat) :
  ∃ ob:Option V,Ht H d (.int (w:Int)) ob∧AeN (ob.getD .non) (.str ⟨#[x]⟩)=true∧(ob.getD .non=V.str ⟨#[x]⟩↔g.lookup w=some x)∧ob.isSome=(g.lookup w).isSome:=by
 refine⟨_,Ht.k (k:=Sum.inl (w:Int)) h,?_⟩
 rw[T3]
 cases g.lookup w with
 | none=>exact⟨rfl,⟨fun z=>(by cases z),fun z=>(by cases z)⟩,rfl⟩
 | some c =>
  refine⟨rfl,⟨fun z=>congrArg some ?_,fun z=>(by cases z;rfl)⟩,rfl⟩
  have z:(V.str ⟨#[c]⟩:V)=V.str ⟨#[x]⟩:=z
  injection z with z
  exact(List.cons.inj (Vz (a:=[c]) (b:=[x]) z)).1
def Kp (gd:Addr)(H H':Hp):Prop:=∀ b o,b≠gd→H b=some o→H' b=some o
theorem Kp.of{gd:Addr}{H H':Hp}(s:Av H H'):Kp gd H H':=fun b o _ e=>s b o e
theorem Kp.thn{gd:Addr}{H H1 H2:Hp}(k:Kp gd H H1)(s:Av H1 H2):Kp gd H H2:=fun b o n e=>s _ _ (k b o n e)
theorem Kp.put{gd:Addr}{H H1:Hp}{x:HO}(k:Kp gd H H1):Kp gd H (upd H1 gd x):=fun b o n e=>by rw[Aq n];exact k b o n e
theorem Kp.over{gd a:Addr}{H H1:Hp}{x:HO}(k:Kp gd H H1)(h:H a=none):Kp gd H (upd H1 a x):=fun b o n e=>by rw[Aq (BP e h)];exact k b o n e
theorem SA.kp{H H':Hp}{sa gd:Addr}{rs:List Addr}{tt:List (List Addr)}{pic:List (List Nat)}{m n k:Nat}{y:List (Key × V)}(S:SA H sa rs tt pic m n k)(s:Kp gd H H')(hg:H gd=some (.dK y)):SA H' sa rs tt pic m n k:=by
 have f:∀ b o,(∀ z,o≠.dK z)→H b=some o→H' b=some o:=fun b o n e=>s b o (fun z=>by rw[z,hg] at e;exact n _ (Option.some.inj e).symm) e
 exact⟨f _ _ (fun z e=>by cases e) S.h,S.rl,S.tl,S.ne,fun v r ts e1 e2=>⟨f _ _ (fun z e=>by cases e) (S.row v r ts e1 e2).1,(S.row v r ts e1 e2).2⟩,fun v ts j T e1 e2=>f _ _ (fun z e=>by cases e) (S.tup v ts j T e1 e2)⟩
def Ls (g:List (Nat × Nat)):List Int:=g.map fun q=>((q.1:Nat):Int)
theorem Vc(g:List (Nat × Nat)):(Ls g).length=g.length:=by unfold Ls;rw[AjP]
theorem AdB{g:List (Nat × Nat)}{i v c:Nat}(h:g[i]?=some (v,c)):atI (vI (Ls g)) (i:Int)=some (.int (v:Int)):=Bm (by omega) (by
 rw[AjW]
 exact Ib (by unfold Ls;rw[Aka,h];rfl))
theorem AfA{pic:List (List Nat)}{m n v w:Nat}(C:Pic pic m n)(hv:v<m+n)(hw:w<m+n)(h:Bip m v w):97≤crs pic m v w∧crs pic m v w≤102:=by
 have key:∀ i j,i<n→j<m→97≤(pic.getD i []).getD j 0∧(pic.getD i []).getD j 0≤102:=fun i j hi hj=>by
  have hil:i<pic.length:=by rw[C.hn];exact hi
  have e1:pic.getD i []=pic[i]:=by simp[List.getD,hil]
  have l1:=C.hm _ (AjU hil)
  have e2:pic[i].getD j 0=pic[i][j]:=by simp[List.getD,show j<pic[i].length by omega]
  rw[e1,e2]
  exact C.co _ (AjU hil) _ (AjU _)
 unfold crs
 rcases h with ⟨h1,h2⟩ | ⟨h1,h2⟩
 ·rw[if_pos h1];exact key _ _ (by omega) h1
 ·rw[if_neg (by omega)];exact key _ _ (by omega) h2
theorem PL{G R:Prop}(C:Prop)(main:(C→R)→G)(rest:C→R):G:=main rest
theorem Wh{u:List Nat}{i:Nat}(h:i<u.length):atI (tx u).cps.toList (i:Int)=some (u.getD i 0):=by
 refine Bm (by omega) ?_
 rw[AjW]
 show u.toArray.toList[i]?=_
 simp[List.getD,h]
section
variable {P:Program}{w:World}{K:PySem.W.Frag}{mg:Str→Option Value}{base:Heap}{t:Adr}
def Aca:Sp:=fun vs H Q _=>∃(sa bd gd:Addr) (rs:List Addr) (tt:List (List Addr)) (pic:List (List Nat)) (m n:Nat) (told:List Nat) (b:List (Nat × Nat)) (O:Nat→Nat) (s0 c0:Nat),vs=[.ref sa,.str (tx told),.ref bd,.ref gd,.int (s0:Int)] ∧
 SA H sa rs tt pic m n (m+n)∧Pic pic m n∧told.length=m+n∧H bd=some (.dK (gK b))∧H gd=some (.dK (gK [(s0,c0)]))∧bd≠gd∧Bor pic m n told b∧Fit pic m n told O∧s0<m+n∧(97≤c0∧c0≤102)∧b.lookup s0=none ∧
 (∀(H':Hp) (g:List (Nat × Nat)) (ps:List (Nat × Option Nat)),Kp gd H H'→H' gd=some (.dK (gK g))→Ch pic m n told b O s0 c0 g ps→(∀(i v c:Nat),g[i]?=some (v,c)→Mt pic m b g v c (deg m n v))→Q .non H') ∧
 (O s0≠c0→∀(l:Addr) (H':Hp),Kp gd H H'→Q (.ref l) H')
theorem Um(T:Txt K mg t):BK P w K mg base CX0 2 t.Pj t.Pk ["seen_along", "told", "borne", "given", "strand"] Aca:=by
 refine T.Kl.F.ok Dr (fun vs H Q E h=>?_) (fun cdv A outer s H vs Q E hr h=>?_)
 ·obtain⟨sa,bd,gd,rs,tt,pic,m,n,told,b,O,s0,c0,rfl,_⟩:=h
  rfl
 ·obtain⟨sa,bd,gd,rs,tt,pic,m,n,told,b,O,s0,c0,rfl,S,C,tl,hbd,hgd,bg,B,F,hs0,hc0,hb0,kN,kL⟩:=h
  have hsz:sizeLine=16777216:=sizeLine_eq
  have c2:=C.n40
  have c4:=C.m40
  refine⟨_,(Ab (Al (i:=5) Dr.nd rfl (Or.inl rfl) (V8 (Sh (pv 4) Fd V7) rfl rfl (by simp) (by decide)))
   (Ab (Al (i:=6) Dr.nd rfl (Or.inl rfl) (Fl (Aa (pv 4) Ac)))
   (Ab (Al (i:=7) Dr.nd rfl (Or.inl rfl) Ae)
   (Ab (R7 PassesOwn.never (Ag Fj (pv 7) (Aj (Ar (K:=K)) rfl T.BW Bs (Aa (pv 6) Ac)) (Ak _))
    (Ab (Al (i:=8) Dr.nd rfl (Or.inl rfl) (Bb (Ay (K:=K)) (pv 6) (pv 7) (fun _ _=>rfl)))
    (Ab (Cp PassesOwn.never rfl (Cz (K:=K) (Bb (Ay (K:=K)) (pv 0) (pv 8) (fun _ _=>rfl))) (AaW rfl (Oq (Bu (i:=9) Dr.nd rfl (Or.inl rfl)) (Oq (Bu (i:=10) Dr.nd rfl (Or.inl rfl)) Zh)))
     (Ab (Bh (PW.pt (pw_or (Ag Cy (pv 10) (Rz (Ia hr) (pv 3) (pv 8) (fun _ _=>rfl)) (Ak _)) (pw_or (Ag Cy (WW (Ia hr) (pv 2) (pv 9) ⟨rfl,rfl,rfl,rfl⟩) (pv 10) (Ak _)) (pw_or1 (Ag Cy (WW (Ia hr) (pv 3) (pv 9) ⟨rfl,rfl,rfl,rfl⟩) (pv 10) (Ak _))))))
      (Ad W3)
      Am)
     (Ab (Bh (Qf (Ab5 (Ia hr) (pv 9) (pv 3)))
      (Ad (Ba (Bg Vu (An ((Q8 T).mono (by decide)) hr rfl T.Jt.m T.Jt.F.kp T.Jt.b .nil Bv (Aa (pv 5) (Aa (pv 8) Ac))) (Sv (K:=K) rfl T.Ii rfl T.Ti (An ((Q8 T).mono (by decide)) hr rfl T.Jt.m T.Jt.F.kp T.Jt.b .nil Bv (Aa (pv 5) (Aa (pv 9) Ac)))))))
      Am)
     (Ab (Bh (PW.pt (pw_and (Ag Iz (Bb Fe (pv 1) (pv 9) (fun _ _=>rfl)) Az (Ak _)) (pw_and1 (Ag Iz (Bb Fe (pv 1) (pv 9) (fun _ _=>rfl)) (pv 10) (Ak _)))))
      (Ad (Ba (Bg Vu (An ((Q8 T).mono (by decide)) hr rfl T.Jt.m T.Jt.F.kp T.Jt.b .nil Bv (Aa (pv 5) (Aa (pv 8) Ac))) (Fl (Aa (pv 9) Ac)))))
      Am)
     (Ab (V6 (Ia hr) (pv 3) (pv 9) (pv 10) rfl)
     (Ab (V6 (Ia hr) (pv 5) (pv 9) (pv 8) rfl)
     (Ad (Bp (Dh (K:=K) PySem.F.plainAttrs_list PySem.F.slot_list_append PySem.F.type_list_append CQ (pv 6) (Aa (pv 9) Ac))))))))))
    (Ad (Aba (i:=7) Dr.nd rfl (Or.inl rfl) Ae Abb)))))
   (Ad (Ba Fd)))))),?_⟩
  refine fun ad nad=>⟨_,rfl,Af,[(Sum.inl (s0:Int),.non)],rfl,(by show 1≤15;decide),?_⟩
  have s1:Av H (upd (upd H ad (.dK [])) ad (.dK (Fg [] [(Sum.inl (s0:Int),.non)]))):=(Av.upd nad).over nad
  have AfB:(upd (upd H ad (.dK [])) ad (.dK (Fg [] [(Sum.inl (s0:Int),.non)]))) ad=some (.dK (kvs [(s0,none)])):=Af
  generalize upd (upd H ad (.dK [])) ad (.dK (Fg [] [(Sum.inl (s0:Int),.non)]))=H1 at s1 AfB ⊢
  have AgW:ad≠gd:=fun e=>by rw[e,hgd] at nad;cases nad
  refine⟨_,rfl,(by show 1≤sizeLine;decide),fun fo nfo=>?_⟩
  have AfC:H fo=none:=s1.free nfo
  have AgX:fo≠ad:=fun e=>by rw[e,AfB] at nfo;cases nfo
  have AgY:fo≠gd:=fun e=>by rw[e,hgd] at AfC;cases AfC
  have s2:Av H (upd H1 fo (.lst [.int (s0:Int)])):=s1.new nfo
  have AgZ:=(Av.upd (o:=.lst [.int (s0:Int)]) nfo) _ _ AfB
  have Aha:(upd H1 fo (.lst [.int (s0:Int)])) fo=some (.lst (vI (Ls [(s0,c0)]))):=Af
  have Ahb:=s2 _ _ hgd
  generalize upd H1 fo (.lst [.int (s0:Int)])=H2 at s2 AgZ Aha Ahb ⊢
  refine⟨fun mm σ H3=>∃(p:Nat) (g:List (Nat × Nat)) (ps:List (Nat × Option Nat)) (v8 v9 v10:Option V),σ=[some (.ref sa),some (.str (tx told)),some (.ref bd),some (.ref gd),some (.int (s0:Int)),some (.ref ad),some (.ref fo),some (.int (p:Int)),v8,v9,v10]∧Kp gd H H3∧H3 gd=some (.dK (gK g))∧H3 ad=some (.dK (kvs ps))∧H3 fo=some (.lst (vI (Ls g))) ∧
    Ch pic m n told b O s0 c0 g ps∧p≤g.length∧(∀(i v c:Nat),i<p→g[i]?=some (v,c)→Mt pic m b g v c (deg m n v))∧mm=m+n-p,
   ⟨m+n,0,[(s0,c0)],[(s0,none)],none,none,none,rfl,.of s2,Ahb,AgZ,Aha,Ch.start hs0 hc0 hb0,Akb _,fun i v c h=>(by omega),rfl⟩,?_⟩
  rintro mm σ H3 ⟨p,g,ps,v8,v9,v10,rfl,k3,Acb,Aiy,AfD,Cc,hp,all,rfl⟩
  have gl:=Cc.len
  refine⟨_,rfl,_,rfl,_,_,rfl,.inl (SqL.of AfD),_,_,rfl,rfl,_,rfl,?_⟩
  rw[BR,Vc]
  refine CJ (fun h=>?_) (fun h=>?_)
  ·have plt:p<g.length:=by omega
   obtain⟨⟨v,c⟩,hv⟩:∃ q,g[p]?=some q:=⟨_,AjO plt⟩
   refine⟨_,fun _ _ z=>z,?_⟩
   refine⟨_,rfl,_,rfl,_,_,_,_,rfl,rfl,SqL.of AfD,AdB hv,?_⟩
   have vN:v<m+n:=Cc.lt _ (AjT hv)
   have S3:=S.kp k3 hgd
   have vr:v<rs.length:=by rw[S3.rl];exact vN
   have vt:v<tt.length:=by rw[S3.tl];exact vN
   have hrow:=S3.row v rs[v] tt[v] (AjO vr) (AjO vt)
   have av:atI (rs.map V.ref) (v:Int)=some (.ref rs[v]):=Bm (by omega) (by rw[AjW,Aka,AjO vr];rfl)
   refine⟨_,rfl,_,rfl,_,_,_,_,rfl,rfl,SqL.of S3.h,av,_,rfl,⟨_,SqL.of hrow.1⟩,DW (K:=K) (a:=rs[v]) (xs:=tt[v].map V.ref)
    (fun j σ H4=>∃(g:List (Nat × Nat)) (ps:List (Nat × Option Nat)) (v9 v10:Option V),σ=[some (.ref sa),some (.str (tx told)),some (.ref bd),some (.ref gd),some (.int (s0:Int)),some (.ref ad),some (.ref fo),some (.int (p:Int)),some (.int (v:Int)),v9,v10]∧Kp gd H H4∧H4 gd=some (.dK (gK g))∧H4 ad=some (.dK (kvs ps))∧H4 fo=some (.lst (vI (Ls g))) ∧
     Ch pic m n told b O s0 c0 g ps∧g[p]?=some (v,c)∧(∀(i v c:Nat),i<p→g[i]?=some (v,c)→Mt pic m b g v c (deg m n v))∧Mt pic m b g v c j)
    ⟨g,ps,v9,v10,rfl,k3,Acb,Aiy,AfD,Cc,hv,all,fun i hi=>(by omega)⟩ (fun j σ H4 _ ⟨_,_,_,_,_,k4,_⟩=>SqL.of ((S.kp k4 hgd).row v rs[v] tt[v] (AjO vr) (AjO vt)).1) ?_ ?_⟩
   ·rintro j x σ H4 hx ⟨g,ps,v9,v10,rfl,k4,T4,Wi,AaD,Cc,hv,all,mt⟩
    rw[Aka] at hx
    obtain⟨T2,hT2,rfl⟩:=Option.map_eq_some_iff.mp hx
    have S4:=S.kp k4 hgd
    have jd:j<deg m n v:=by rw[← hrow.2];exact(List.getElem?_eq_some_iff.mp hT2).1
    have ht:=S4.tup v tt[v] j T2 (AjO vt) hT2
    obtain⟨bp,wN⟩:=Ad1 jd
    have ms:=@Mt.succ pic m b g v c j mt
    obtain⟨w,ew⟩:∃ w,w=nbr m v j:=⟨_,rfl⟩
    rw[← ew] at ht bp wN ms
    have co:=AfA C vN wN bp
    have step:=fun ne nb ng t=>Ch.step (w:=w) Cc F B hv wN bp ne co nb ng t
    have no1:=fun(e:O s0=c0) (ne:crs pic m v w≠c) (d:Nat) hd nd=>Cc.no1 F e (AjT hv) wN bp ne (d:=d) hd nd
    have no2:=fun(e:O s0=c0) (ne:crs pic m v w≠c) t1 t2=>Cc.no2 F e (AjT hv) wN bp ne t1 t2
    obtain⟨x,ex⟩:∃ x,x=crs pic m v w:=⟨_,rfl⟩
    rw[← ex] at ht ms co step no1 no2
    have T5:H4 bd=some (.dK (gK b)):=k4 _ _ bg hbd
    have gl:=Cc.len
    have pl2:=Cc.AgT
    have nd2:(ps.map (·.1)).Nodup:=by rw[Cc.keys];exact Cc.nd
    have AdA:ps.length≤200:=by omega
    have glt:(gK g).length<sizeLine:=by rw[YZ];omega
    have Aiz:(kvs ps).length<sizeLine:=by rw[Ad9];omega
    have flt:(vI (Ls g)).length<sizeLine:=by rw[BR,Vc];omega
    have plg:p<g.length:=(List.getElem?_eq_some_iff.mp hv).1
    have at1:=Wh (u:=told) (i:=w) (by omega)
    have slt:(tx told).length≤sizeLine:=by rw[Ax];omega
    have Ai0:1≤sizeLine:=by omega
    refine⟨_,_,rfl,SqT.of ht,rfl,_,_,rfl,_,_,rfl,rfl,?_⟩
    have hgo:g.lookup v=some c:=KR Cc.nd (AjT hv)
    have dg1:Ht H4 gd (.int (v:Int)) (some (.str ⟨#[c]⟩)):=by
     have:=Ht.k (k:=Sum.inl (v:Int)) T4
     rw[T3,hgo] at this
     exact this
    obtain⟨ob,dB,sB,iB,_⟩:=Za T5 w x
    obtain⟨og,dG,sG,iG,jG⟩:=Za T4 w x
    refine⟨_,rfl,_,rfl,_,rfl,gd,_,rfl,dg1,rfl,_,rfl,?_⟩
    refine CJ (fun h1=>Iu ?_) (fun h1=>?_)
    ·exact⟨g,ps,_,_,rfl,k4,T4,Wi,AaD,Cc,hv,all,ms (.inl (HD.mp h1))⟩
    have nc:x≠c:=fun z=>h1 (HD.mpr z)
    refine⟨_,rfl,bd,rfl,.inl ⟨_,.inl T5⟩,_,rfl,_,dB,_,rfl,sB,_,rfl,?_⟩
    refine CJ (fun h2=>Iu ?_) (fun h2=>?_)
    ·exact⟨g,ps,_,_,rfl,k4,T4,Wi,AaD,Cc,hv,all,ms (.inr (.inl (iB.mp h2)))⟩
    refine⟨_,rfl,gd,rfl,.inl ⟨_,.inl T4⟩,_,rfl,_,dG,_,rfl,sG,_,rfl,?_⟩
    refine CJ (fun h3=>?_) (fun h3=>?_)
    ·exact⟨g,ps,_,_,rfl,k4,T4,Wi,AaD,Cc,hv,all,ms (.inr (.inr (iG.mp h3)))⟩
    have n2:b.lookup w≠some x:=fun z=>h2 (iB.mpr z)
    have n3:g.lookup w≠some x:=fun z=>h3 (iG.mpr z)
    have Ahc:∀{i u d:Nat},g[i]?=some (u,d)→∃ q:Option Nat,ps[i]?=some (u,q):=fun {i u d} hi=>by
     have e2:(ps.map (·.1))[i]?=some u:=by rw[Cc.keys,Aka,hi];rfl
     rw[Aka] at e2
     obtain⟨q,hq,eq⟩:=Option.map_eq_some_iff.mp e2
     exact⟨q.2,by rw[hq,← eq]⟩
    obtain⟨pq,hpq⟩:=Ahc hv
    refine⟨_,rfl,_,rfl,gd,_,rfl,dG,_,rfl,?_⟩
    rw[jG]
    cases hw:g.lookup w with
    | some d =>
     refine Iu ?_
     have nO:O s0≠c0:=fun z=>no1 z nc d hw fun z2=>n3 (by rw[hw,z2])
     obtain⟨jw,hjw⟩:=AkM (Gj hw)
     obtain⟨qw,hqw⟩:=Ahc hjw
     refine⟨_,rfl,_,rfl,ad,v,p,pq,ps,rfl,Wi,nd2,Cc.ah,AdA,hpq,fun l1 ws1 H5 s5 nl1 hl1 wl1=>?_⟩
     refine⟨_,rfl,_,rfl,ad,w,jw,qw,ps,rfl,s5 _ _ Wi,nd2,Cc.ah,AdA,hqw,fun l2 ws2 H6 s6 nl2 hl2 wl2=>?_⟩
     refine⟨_,_,rfl,SqL.of hl2,(by rw[BR];exact wl2),fun l3 nl3=>?_⟩
     refine⟨_,_,_,_,rfl,rfl,(Av.upd nl3) _ _ (s6 _ _ hl1),Af,(by rw[BR,AkL,BR];omega),fun l4 nl4=>?_⟩
     exact kL nO l4 _ (k4.thn (((s5.trans s6).new nl3).new nl4))
    | none =>
     refine Hr ?_
     apply PL (told.getD w 0=63∨told.getD w 0=x)
     ·intro rest
      refine⟨_,rfl,_,rfl,_,_,_,rfl,rfl,slt,at1,rfl,_,rfl,?_⟩
      by_cases t1:told.getD w 0=63
      ·refine Gz (by rw[t1];exact e63) (Hr ?_)
       exact rest (.inl t1)
      ·refine M5 (fun z=>t1 (HD.mp (z.trans e63.symm))) ?_
       refine⟨_,rfl,_,rfl,_,_,_,rfl,rfl,slt,at1,_,rfl,rfl,_,rfl,?_⟩
       by_cases t2:told.getD w 0=x
       ·refine Gz (by rw[t2]) ?_
        exact rest (.inr t2)
       ·refine M5 (fun z=>t2 (HD.mp z)) ?_
        have nO:O s0≠c0:=fun z=>no2 z nc t1 t2
        refine⟨_,rfl,_,rfl,ad,v,p,pq,ps,rfl,Wi,nd2,Cc.ah,AdA,hpq,fun l1 ws1 H5 s5 nl1 hl1 wl1=>?_⟩
        refine⟨_,rfl,Ai0,fun l3 nl3=>?_⟩
        refine⟨_,_,_,_,rfl,rfl,(Av.upd nl3) _ _ hl1,Af,?_,fun l4 nl4=>?_⟩
        ·rw[BR]
         clear rest
         show ws1.length+1≤sizeLine
         omega
        exact kL nO l4 _ (k4.thn ((s5.new nl3).new nl4))
     ·intro tw
      have C':=step nc n2 hw tw
      refine⟨_,rfl,_,rfl,_,rfl,gd,_,rfl,WQ.k (k:=Sum.inl (w:Int)) T4 glt,?_⟩
      rw[AbZ g w x hw]
      have k5:Kp gd H (upd H4 gd (.dK (gK (g++[(w,x)])))):=k4.put
      have Zb:(upd H4 gd (.dK (gK (g++[(w,x)])))) gd=some (.dK (gK (g++[(w,x)]))):=Af
      have Ahe:(upd H4 gd (.dK (gK (g++[(w,x)])))) ad=some (.dK (kvs ps)):=by rw[Aq AgW];exact Wi
      have Ahf:(upd H4 gd (.dK (gK (g++[(w,x)])))) fo=some (.lst (vI (Ls g))):=by rw[Aq AgY];exact AaD
      generalize upd H4 gd (.dK (gK (g++[(w,x)])))=H5 at k5 Zb Ahe Ahf ⊢
      refine⟨_,rfl,_,rfl,_,rfl,ad,_,rfl,WQ.k (k:=Sum.inl (w:Int)) Ahe Aiz,?_⟩
      rw[Ad8 ps w v (XN (by rw[Cc.keys];exact U6 hw))]
      have k6:Kp gd H (upd H5 ad (.dK (kvs (ps++[(w,some v)])))):=k5.over nad
      have Ahg:(upd H5 ad (.dK (kvs (ps++[(w,some v)])))) ad=some (.dK (kvs (ps++[(w,some v)]))):=Af
      have AaE:(upd H5 ad (.dK (kvs (ps++[(w,some v)])))) gd=some (.dK (gK (g++[(w,x)]))):=by rw[Aq AgW.symm];exact Zb
      have AfE:(upd H5 ad (.dK (kvs (ps++[(w,some v)])))) fo=some (.lst (vI (Ls g))):=by rw[Aq AgX];exact Ahf
      generalize upd H5 ad (.dK (kvs (ps++[(w,some v)])))=H6 at k6 Ahg AaE AfE ⊢
      refine⟨_,rfl,.inl ⟨rfl,_,SqL.of AfE⟩,_,rfl,_,_,_,rfl,rfl,AfE,flt,?_⟩
      refine⟨g++[(w,x)],ps++[(w,some v)],_,_,rfl,k6.over AfC,by rw[Aq AgY.symm];exact AaE,by rw[Aq AgX.symm];exact Ahg,?_,C',?_,fun i v' c' hi hg'=>?_,?_⟩
      ·rw[Af,Ie]
       unfold Ls
       rw[AjY]
       rfl
      ·rw[Aki plg];exact hv
      ·rw[Aki (by omega)] at hg'
       exact(all i v' c' hi hg').grow _
      ·refine Mt.succ (mt.grow _) (.inr (.inr ?_))
       rw[← ew,← ex,O3,hw]
       simp
   ·rintro σ H4 ⟨g,ps,v9,v10,rfl,k4,T4,Wi,AaD,Cc,hv,all,mt⟩
    rw[AjP,hrow.2] at mt
    have plg:p<g.length:=(List.getElem?_eq_some_iff.mp hv).1
    have gl:=Cc.len
    refine⟨_,rfl,_,_,rfl,rfl,?_⟩
    refine⟨m+n-(p+1),by omega,p+1,g,ps,_,_,_,rfl,k4,T4,Wi,AaD,Cc,by omega,fun i v' c' hi hg'=>?_,rfl⟩
    by_cases e:i<p
    ·exact all i v' c' e hg'
    ·have e:i=p:=by omega
     subst e
     rw[hv] at hg'
     cases hg'
     exact mt
  ·have e:p=g.length:=by omega
   subst e
   exact kN H3 g ps k3 Acb Cc fun i v c hi=>all i v c (List.getElem?_eq_some_iff.mp hi).1 hi
end
theorem Acd{G:Prop}{R:List Nat→Prop}(C:List Nat→Prop)(main:(∀ u,C u→R u)→G)(rest:∀ u,C u→R u):G:=main rest
theorem Ai1:(("abcdef" : Str))=tx [97,98,99,100,101,102]:=by decide +kernel
theorem AfF{c:Nat}(h:97≤c∧c≤102):c∈[97,98,99,100,101,102]:=by
 have:c=97∨c=98∨c=99∨c=100∨c=101∨c=102:=by omega
 rcases this with h | h | h | h | h | h <;> subst h <;> decide
theorem AfG{c:Nat}(h:c∈[97,98,99,100,101,102]):97≤c∧c≤102:=by
 simp only [Akl,Akm,or_false] at h
 omega
theorem Ai2{c:Nat}(h:Co c∨c=63):(!(!(Builtin.Str.occurrences ("abcdef" ++ "?") ⟨#[c]⟩ 0 (Str.length ("abcdef" ++ "?")) 1).isEmpty))=false:=by
 have:c=97∨c=98∨c=99∨c=100∨c=101∨c=102∨c=63:=by
  rcases h with ⟨h1,h2⟩ | h <;> omega
 rcases this with h | h | h | h | h | h | h <;> subst h <;> decide +kernel
section
variable {P:Program}{w:World}{K:PySem.W.Frag}{mg:Str→Option Value}{base:Heap}{t:Adr}
def Wj:Sp:=fun vs H Q _=>∃(u:List Nat),vs=[.str (tx u),.int (u.length:Int),.str ("abcdef" ++ "?")]∧(∀ c∈u,Co c∨c=63)∧u.length≤40∧Q .non H
theorem Jh(T:Txt K mg t):BK P w K mg base CX0 1 t.Gp t.Gq ["text", "count", "signs"] Wj:=by
 refine T.Ah.F.ok Dv (fun vs H Q E h=>?_) (fun cdv A outer s H vs Q E hr h=>?_)
 ·obtain⟨t,rfl,_⟩:=h
  rfl
 ·obtain⟨t,rfl,hsg,hl,k⟩:=h
  refine⟨_,(Ab (Bh (Ag Iz (Aj Bt rfl T.BW Bs (Aa (pv 0) Ac)) (pv 1) (Ak _))
    (Ad CK)
    Am)
   (Ad (Cp PassesOwn.never rfl (Nk (pv 0)) (Bu (i:=3) Dv.nd rfl (Or.inl rfl))
    (Ad (Bh (Ag FN (pv 3) (pv 2) rfl)
     (Ad CK)
     Am))))),?_⟩
  refine⟨_,rfl,_,rfl,(by rw[Ax];exact Ga hl),_,rfl,rfl,_,rfl,?_⟩
  refine Gz (by rw[Ax]) ?_
  refine⟨_,rfl,_,rfl,JS (z:=tx t) (fun i σ H2=>∃ v,σ=[some (.str (tx t)),some (.int (t.length:Int)),some (.str ("abcdef" ++ "?")),v]∧H2=H) ⟨none,rfl,rfl⟩ ?_ ?_⟩
  ·rintro i c σ H2 hc ⟨v,rfl,rfl⟩
   rw[JT] at hc
   refine⟨_,rfl,_,rfl,_,_,rfl,rfl,_,rfl,?_⟩
   rw[Ai2 (hsg c (AjT hc))]
   exact Hr ⟨_,rfl,rfl⟩
  ·rintro σ H2 ⟨v,rfl,rfl⟩
   exact k
def AaF:Sp:=fun vs H Q _=>∃(sa bd:Addr) (rs:List Addr) (tt:List (List Addr)) (pic:List (List Nat)) (m n:Nat) (told:List Nat) (b:List (Nat × Nat)) (O:Nat→Nat) (s0:Nat),vs=[.ref sa,.str (tx told),.ref bd,.int (s0:Int)] ∧
 SA H sa rs tt pic m n (m+n)∧Pic pic m n∧told.length=m+n∧H bd=some (.dK (gK b))∧Bor pic m n told b∧Fit pic m n told O∧s0<m+n∧b.lookup s0=none ∧
 ∀(H':Hp) (b':List (Nat × Nat)),Kp bd H H'→H' bd=some (.dK (gK b'))→Bor pic m n told b'→(∀ v,b.lookup v≠none→b'.lookup v≠none)→b'.lookup s0≠none→Q .non H'
theorem Q9(T:Txt K mg t):BK P w K mg base CX0 3 t.K1 t.K3 ["seen_along", "told", "borne", "strand"] AaF:=by
 refine T.Hk.F.ok Dw (fun vs H Q E h=>?_) (fun cdv A outer s H vs Q E hr h=>?_)
 ·obtain⟨sa,bd,rs,tt,pic,m,n,told,b,O,s0,rfl,_⟩:=h
  rfl
 ·obtain⟨sa,bd,rs,tt,pic,m,n,told,b,O,s0,rfl,S,C,tl,hbd,B,F,hs0,hb0,k⟩:=h
  have hsz:sizeLine=16777216:=sizeLine_eq
  have c2:=C.n40
  have c4:=C.m40
  have at1:=Wh (u:=told) (i:=s0) (by omega)
  have slt:(tx told).length≤sizeLine:=by rw[Ax];omega
  have bl:b.length≤m+n:=by
   have:=YQ (m+n) (b.map (·.1)) B.nd fun x hx=>by
    obtain⟨p,hp,rfl⟩:=List.mem_map.mp hx
    exact B.lt p hp
   rwa [AjP] at this
  refine⟨_,(Ab (Al (i:=4) Dw.nd rfl (Or.inl rfl) (Fl Ac))
   (Ab (Al (i:=5) Dw.nd rfl (Or.inl rfl) (Om (Ag Cy (Bb Fe (pv 1) (pv 3) (fun _ _=>rfl)) Az (Ak _)) (Ao (v:=.str "abcdef") rfl T.De.choose_spec ⟨_,rfl⟩) (Bb Fe (pv 1) (pv 3) (fun _ _=>rfl))))
   (Ab (Cp PassesOwn.never rfl (Nk (pv 5)) (Bu (i:=6) Dw.nd rfl (Or.inl rfl))
    (Ab (Al (i:=7) Dw.nd rfl (Or.inl rfl) (V8 (Sh (pv 3) (pv 6) V7) rfl rfl (by simp) (by decide)))
    (Ab (Al (i:=8) Dw.nd rfl (Or.inl rfl) (An ((Um T).mono (by decide)) hr rfl T.Kl.m T.Kl.F.kp T.Kl.b .nil Bv (Aa (pv 0) (Aa (pv 1) (Aa (pv 2) (Aa (pv 7) (Aa (pv 3) Ac)))))))
    (Ab (Bh (Ag R9 (pv 8) Fd (Ak _))
     (Ab (Bp (Adn (pv 2) (pv 7) ⟨rfl,rfl,rfl,rfl⟩))
     (Ad (Ba Fd)))
     Am)
    (Ad (Bp (Dh (K:=K) PySem.F.plainAttrs_list PySem.F.slot_list_append PySem.F.type_list_append CQ (pv 4) (Aa (Eh (Aa (pv 6) (Aa (pv 8) Ac))) Ac))))))))
   (Ad (Ba (pv 4)))))),?_⟩
  refine⟨Akb _,fun lc nlc=>?_⟩
  have s1:Av H (upd H lc (.lst [])):=.upd nlc
  have Ahh:(upd H lc (.lst [])) lc=some (.lst []):=Af
  generalize upd H lc (.lst [])=H1 at s1 Ahh ⊢
  apply Acd (fun cs=>cs.length≤6∧O s0∈cs∧∀ c∈cs,(97≤c∧c≤102)∧(told.getD s0 0=63∨told.getD s0 0=c))
  ·intro rest
   refine⟨_,rfl,_,rfl,_,_,_,rfl,rfl,slt,at1,rfl,_,rfl,?_⟩
   refine CJ (fun h=>?_) (fun h=>?_)
   ·have t1:told.getD s0 0=63:=HD.mp (h.trans e63.symm)
    obtain⟨cs,ecs⟩:∃ cs,cs=[97,98,99,100,101,102]:=⟨_,rfl⟩
    have key:=rest cs ⟨by rw[ecs];decide,by rw[ecs];exact AfF (F.co s0 hs0),fun c hc=>⟨by rw[ecs] at hc;exact AfG hc,.inl t1⟩⟩
    show _
    rw[Ai1,← ecs]
    exact key
   ·have t1:¬told.getD s0 0=63:=fun z=>h (by rw[z];exact e63)
    have t2:told.getD s0 0=O s0:=(F.td s0 hs0).resolve_left t1
    obtain⟨cs,ecs⟩:∃ cs,cs=[told.getD s0 0]:=⟨_,rfl⟩
    have key:=rest cs ⟨by rw[ecs];show 1≤6;decide,by rw[ecs,t2];exact List.mem_singleton.mpr rfl,fun c hc=>by
     rw[ecs] at hc
     have e:=List.mem_singleton.mp hc
     exact⟨by rw[e,t2];exact F.co s0 hs0,.inr e.symm⟩⟩
    refine⟨_,rfl,_,rfl,_,_,_,rfl,rfl,slt,at1,?_⟩
    rw[Fp,← ecs]
    exact key
  rintro cs ⟨cl,om,call⟩
  refine⟨_,rfl,_,rfl,JS (z:=tx cs) (fun i σ H2=>∃(xs:List V) (v6 v7 v8:Option V),σ=[some (.ref sa),some (.str (tx told)),some (.ref bd),some (.int (s0:Int)),some (.ref lc),some (.str (tx cs)),v6,v7,v8]∧Av H H2∧H2 lc=some (.lst xs)∧xs.length=i∧∀(j c:Nat),j<i→cs[j]?=some c→O s0≠c) ⟨[],none,none,none,rfl,s1,Ahh,rfl,fun j c h=>(by omega)⟩ ?_ ?_⟩
  ·rintro i c σ H2 hc ⟨xs,v6,v7,v8,rfl,s2,AfH,xl,hne⟩
   rw[JT] at hc
   have il:i<cs.length:=(List.getElem?_eq_some_iff.mp hc).1
   obtain⟨co,tc⟩:=call c (AjT hc)
   refine fun gd ngd=>⟨_,rfl,_,rfl,Af,[(Sum.inl (s0:Int),.str ⟨#[c]⟩)],rfl,(by show 1≤15;decide),?_⟩
   have s3:Av H2 (upd (upd H2 gd (.dK [])) gd (.dK (Fg [] [(Sum.inl (s0:Int),.str ⟨#[c]⟩)]))):=(Av.upd ngd).over ngd
   have Acb:(upd (upd H2 gd (.dK [])) gd (.dK (Fg [] [(Sum.inl (s0:Int),.str ⟨#[c]⟩)]))) gd=some (.dK (gK [(s0,c)])):=Af
   generalize upd (upd H2 gd (.dK [])) gd (.dK (Fg [] [(Sum.inl (s0:Int),.str ⟨#[c]⟩)]))=H3 at s3 Acb ⊢
   have AfI:=s2 _ _ hbd
   have AfJ:bd≠gd:=fun e=>by rw[← e,AfI] at ngd;cases ngd
   have Ai3:lc≠gd:=fun e=>by rw[← e,AfH] at ngd;cases ngd
   have nH:H gd=none:=s2.free ngd
   have keep:∀{H4:Hp},Kp gd H3 H4→Av H H4:=fun k4 x o e=>k4 x o (BP e nH) (s3 _ _ (s2 _ _ e))
   refine⟨_,rfl,_,rfl,_,rfl,_,rfl,_,rfl,sa,bd,gd,rs,tt,pic,m,n,told,b,O,s0,c,rfl,S.same (s2.trans s3),C,tl,s3 _ _ AfI,Acb,AfJ,B,F,hs0,co,hb0,fun H4 g ps k4 T4 Cc all=>?_,fun nO l H4 k4=>?_⟩
   ·have B4:=Cc.bor B tc all
    have gl:=Cc.len
    have T5:H4 bd=some (.dK (gK b)):=k4 _ _ AfJ (s3 _ _ AfI)
    refine⟨_,rfl,rfl,_,rfl,?_⟩
    refine Ej rfl ?_
    refine⟨_,rfl,bd,rfl,.inl ⟨_,.inl T5⟩,_,rfl,gd,_,_,rfl,AfJ,T5,T4,(by rw[YZ,YZ];omega),?_⟩
    rw[XR g b B4.nd]
    refine k _ (b++g) (fun x o ne e=>by rw[Aq ne];exact keep k4 x o e) Af B4 (fun v hv=>?_) ?_
    ·cases e:b.lookup v with
     | none=>exact absurd e hv
     | some d=>rw[Mj e];exact fun z=>(by cases z)
    ·rw[O3,hb0,KR Cc.nd (AjT Cc.fst)]
     exact fun z=>(by cases z)
   ·have Ahi:H4 lc=some (.lst xs):=k4 _ _ Ai3 (s3 _ _ AfH)
    refine⟨_,rfl,rfl,_,rfl,?_⟩
    refine By (fun z=>by cases z) ?_
    refine⟨_,rfl,.inl ⟨rfl,_,SqL.of Ahi⟩,_,rfl,_,rfl,(by show 2≤sizeLine;omega),fun tp ntp=>?_⟩
    refine⟨_,_,_,rfl,rfl,(Av.upd ntp) _ _ Ahi,(by omega),?_⟩
    refine⟨xs++[.ref tp],_,_,_,rfl,((keep k4).new ntp).over nlc,Af,by rw[AjR,xl];rfl,fun j d hj hd=>?_⟩
    by_cases e:j<i
    ·exact hne j d e hd
    ·have e:j=i:=by omega
     subst e
     rw[hc] at hd
     cases hd
     exact nO
  ·rintro σ H2 ⟨xs,v6,v7,v8,rfl,s2,AfH,xl,hne⟩
   exfalso
   obtain⟨j,hj⟩:=AkM om
   exact hne j _ (by rw[AcZ];exact(List.getElem?_eq_some_iff.mp hj).1) hj rfl
def thr (b:List (Nat × Nat))(k:Nat):List Nat:=(List.range k).map fun v=>(b.lookup v).getD 0
theorem R3(b:List (Nat × Nat))(k:Nat):(thr b k).length=k:=by unfold thr;rw[AjP,Akh]
theorem AdC{b:List (Nat × Nat)}{k v:Nat}(h:v<k):(thr b k).getD v 0=(b.lookup v).getD 0:=by
 unfold thr
 simp[List.getD,h]
theorem Ace(b:List (Nat × Nat))(k:Nat):thr b (k+1)=thr b k++[(b.lookup k).getD 0]:=by unfold thr;rw[AkE,AjY];rfl
theorem Np{u:List Nat}{k:Nat}(h:k≤u.length):RN u none (some (k:Int))=u.take k:=by
 unfold RN
 rw[HT.Ot,HT.LQ,AkI,AkJ h,AkV]
structure Fnd (pic:List (List Nat)) (m n:Nat) (wa we ua ue:List Nat):Prop where
 la:ua.length=m
 le:ue.length=n
 ca:∀ j,j<m→Co (ua.getD j 0)∧(wa.getD j 0=63∨wa.getD j 0=ua.getD j 0)
 ce:∀ i,i<n→Co (ue.getD i 0)∧(we.getD i 0=63∨we.getD i 0=ue.getD i 0)
 cr:∀ i j,i<n→j<m→ua.getD j 0=(pic.getD i []).getD j 0∨ue.getD i 0=(pic.getD i []).getD j 0
theorem Fnd.of{pic:List (List Nat)}{m n:Nat}{wa we:List Nat}{b:List (Nat × Nat)}(B:Bor pic m n (wa++we) b)(hwa:wa.length=m)(hwe:we.length=n)(all:∀ v,v<m+n→b.lookup v≠none) :
  Fnd pic m n wa we ((thr b (m+n)).take m) ((thr b (m+n)).drop m):=by
 have ga:∀ j,j<m→((thr b (m+n)).take m).getD j 0=(thr b (m+n)).getD j 0:=fun j hj=>by
  rw[AjV,AjV,Ale hj]
 have ge:∀ i,((thr b (m+n)).drop m).getD i 0=(thr b (m+n)).getD (m+i) 0:=fun i=>by
  rw[AjV,AjV,Alh]
 have val:∀ v,v<m+n→∃ c,b.lookup v=some c∧(thr b (m+n)).getD v 0=c:=fun v hv=>by
  cases e:b.lookup v with
  | none=>exact absurd e (all v hv)
  | some c=>exact⟨c,rfl,by rw[AdC hv,e];rfl⟩
 have ta:∀ j,j<m→(wa++we).getD j 0=wa.getD j 0:=fun j hj=>by
  rw[AjV,AjV,Aki (by omega)]
 have te:∀ i,(wa++we).getD (m+i) 0=we.getD i 0:=fun i=>by
  rw[AjV,AjV,Akr (by omega),hwa,show m+i-m=i by omega]
 refine⟨by rw[Akf,R3];omega,by rw[Ak1,R3];omega,fun j hj=>?_,fun i hi=>?_,fun i j hi hj=>?_⟩
 ·obtain⟨c,e1,e2⟩:=val j (by omega)
  have q:=B.td _ (Gj e1)
  have q2:(wa++we).getD j 0=63∨(wa++we).getD j 0=c:=q
  rw[ta j hj] at q2
  rw[ga j hj,e2]
  exact⟨B.co _ (Gj e1),q2⟩
 ·obtain⟨c,e1,e2⟩:=val (m+i) (by omega)
  have q2:(wa++we).getD (m+i) 0=63∨(wa++we).getD (m+i) 0=c:=B.td _ (Gj e1)
  rw[te i] at q2
  rw[ge i,e2]
  exact⟨B.co _ (Gj e1),q2⟩
 ·obtain⟨c,e1,e2⟩:=val j (by omega)
  obtain⟨d,e3,e4⟩:=val (m+i) (by omega)
  have cx:crs pic m j (m+i)=(pic.getD i []).getD j 0:=by unfold crs;rw[if_pos hj,show m+i-m=i by omega]
  have q:crs pic m j (m+i)=c∨b.lookup (m+i)=some (crs pic m j (m+i)):=B.cl _ (Gj e1) (m+i) (by omega) (.inl ⟨hj,by omega⟩)
  rw[ga j hj,ge i,e2,e4]
  rcases q with z | z
  ·rw[cx] at z;exact .inl z.symm
  ·rw[cx,e3] at z;exact .inr (Option.some.inj z)
def Acf (K:PySem.W.Frag):Sp:=fun vs H Q _=>∃(a:Addr) (pic:List (List Nat)) (m n:Nat) (wa we:List Nat) (O:Nat→Nat),vs=[.ref a,.str (tx wa),.str (tx we)]∧SqL K H a (vS pic)∧Pic pic m n∧wa.length=m∧we.length=n∧(∀ c∈wa,Co c∨c=63)∧(∀ c∈we,Co c∨c=63)∧Fit pic m n (wa++we) O ∧
 ∀(p:Addr) (H':Hp) (ua ue:List Nat),Av H H'→H' p=some (.tup [.str "threads", .str (tx ua),.str (tx ue)])→Fnd pic m n wa we ua ue→Q (.ref p) H'
theorem Es(T:Txt K mg t):BK P w K mg base CX0 4 t.G7 t.G8 ["picture", "warp", "weft"] (Acf K):=by
 refine T.Bo.F.ok BL (fun vs H Q E h=>?_) (fun cdv A outer s H vs Q E hr h=>?_)
 ·obtain⟨a,pic,m,n,wa,we,O,rfl,_⟩:=h
  rfl
 ·obtain⟨a,pic,m,n,wa,we,O,rfl,hS,C,hwa,hwe,ca,ce,F,k⟩:=h
  have hsz:sizeLine=16777216:=sizeLine_eq
  have c2:=C.n40
  have c4:=C.m40
  have tl:(wa++we).length=m+n:=by rw[AjR,hwa,hwe]
  refine⟨_,(Ab (Al (i:=3) BL.nd rfl (Or.inl rfl) (An ((Gi T).mono (by decide)) hr rfl T.Bd.m T.Bd.F.kp T.Bd.b .nil Bv (Aa (pv 0) Ac)))
   (Ab (Bp (An ((Jh T).mono (by decide)) hr rfl T.Ah.m T.Ah.F.kp T.Ah.b .nil Bv (Aa (pv 1) (Aa (Bb (BX (K:=K)) (pv 3) Ae (fun _ _=>rfl)) (Aa (Bg Cg (Ao (v:=.str "abcdef") rfl T.De.choose_spec ⟨_,rfl⟩) Az) Ac)))))
   (Ab (Bp (An ((Jh T).mono (by decide)) hr rfl T.Ah.m T.Ah.F.kp T.Ah.b .nil Bv (Aa (pv 2) (Aa (Bb (BX (K:=K)) (pv 3) Ae (fun _ _=>rfl)) (Aa (Bg Cg (Ao (v:=.str "abcdef") rfl T.De.choose_spec ⟨_,rfl⟩) Az) Ac)))))
   (Ab (Al (i:=4) BL.nd rfl (Or.inl rfl) (Bg Cg (pv 1) (pv 2)))
   (Ab (Al (i:=5) BL.nd rfl (Or.inl rfl) (An ((Rv T).mono (by decide)) hr rfl T.HR.m T.HR.F.kp T.HR.b .nil Bv (Aa (pv 0) Ac)))
   (Ab (Al (i:=6) BL.nd rfl (Or.inr rfl) Ab6)
   (Ab (Cp PassesOwn.never rfl (BZ rfl T.Dc (Aa (Aj Bt rfl T.BW Bs (Aa (pv 4) Ac)) Ac)) (Bu (i:=7) BL.nd rfl (Or.inl rfl))
    (Ad (Bh (Qf (Mg (Ia hr) (pv 7) (pv 6)))
     (Ab (Al (i:=8) BL.nd rfl (Or.inl rfl) (An ((Q9 T).mono (by decide)) hr rfl T.Hk.m T.Hk.F.kp T.Hk.b .nil Bv (Aa (pv 5) (Aa (pv 4) (Aa (pv 6) (Aa (pv 7) Ac))))))
     (Ad (Bh (Ag Rx (pv 8) Fd (Ak _))
      (Ad (Ba (Eh (Aa Az (Aa (pv 7) (Aa (pv 8) Ac))))))
      Am)))
     Am)))
   (Ab (Al (i:=9) BL.nd rfl (Or.inl rfl) (Dh (K:=K) PySem.F.plainAttrs_str PySem.F.slot_str_join PySem.F.type_str_join (Jx (K:=K)) Az (Aa (Gm (Ei.mk (Bx:=[6]) (Nc:=["strand", "borne"]) rfl (by decide +kernel) (by decide +kernel) (Dj (sc0:=Ai G6) rfl (by decide +kernel)) rfl rfl rfl (by decide +kernel) (fun k j h=>match k,h with | 0,h=>by obtain rfl:=Option.some.inj h;exact⟨_,rfl,rfl,rfl⟩ | _+1,h=>by simp at h)) rfl (BZ rfl T.Dc (Aa (Aj Bt rfl T.BW Bs (Aa (pv 4) Ac)) Ac)) (fun _ _ _ _ _=>.nil) (fun _ _ _ _ _=>(Rz (Ia hr) (pv 1) (pv 0) (fun _ _=>rfl)))) Ac)))
   (Ad (Ba (Eh (Aa Az (Aa (Dm G5 (pv 9) Eb (Ec (Bb (BX (K:=K)) (pv 3) Ae (fun _ _=>rfl)))) (Aa (Dm G5 (pv 9) (Ec (Bb (BX (K:=K)) (pv 3) Ae (fun _ _=>rfl))) Eb) Ac)))))))))))))),?_⟩
  refine⟨_,rfl,a,pic,m,n,rfl,hS,C,fun p hp=>?_⟩
  have s1:Av H (upd H p (.tup [.int (m:Int),.int (n:Int)])):=.upd hp
  have hp1:(upd H p (.tup [.int (m:Int),.int (n:Int)])) p=some (.tup [.int (m:Int),.int (n:Int)]):=Af
  generalize upd H p (.tup [.int (m:Int),.int (n:Int)])=H1 at s1 hp1 ⊢
  have l7:Str.length "abcdef" + Str.length "?" ≤ sizeLine:=by rw[show Str.length "abcdef" + Str.length "?" = 7 from by decide +kernel];omega
  refine⟨_,rfl,_,rfl,_,_,_,_,rfl,rfl,SqT.of hp1,Bm (by decide) rfl,_,_,rfl,rfl,l7,wa,(by rw[hwa];rfl),ca,(by omega),?_⟩
  refine⟨_,rfl,_,rfl,_,_,_,_,rfl,rfl,SqT.of hp1,Bm (by decide) rfl,_,_,rfl,rfl,l7,we,(by rw[hwe];rfl),ce,(by omega),?_⟩
  refine⟨_,rfl,_,rfl,_,_,rfl,rfl,(by rw[Ax,Ax];omega),?_⟩
  rw[G3]
  refine⟨_,rfl,a,pic,m,n,rfl,s1.seq hS,C,fun sa rs tt H2 s2 nsa S2=>?_⟩
  refine fun bd nbd=>?_
  have s3:Av H2 (upd H2 bd (.dK [])):=.upd nbd
  have AdD:(upd H2 bd (.dK [])) bd=some (.dK (gK [])):=Af
  have nbH:H bd=none:=(s1.trans s2).free nbd
  generalize upd H2 bd (.dK [])=H3 at s3 AdD ⊢
  have S3:=S2.same s3
  have u3:=(s1.trans s2).trans s3
  have hp3:=s3 _ _ (s2 _ _ hp1)
  have slt:(tx (wa++we)).length≤sizeLine:=by rw[Ax];omega
  refine⟨_,rfl,_,rfl,slt,_,rfl,(by omega),(by rw[Ax];omega),?_⟩
  rw[Ax,AjW,tl]
  refine Du (lo:=0) (n:=m+n) (fun i σ H4=>∃(b:List (Nat × Nat)) (v7 v8 v9:Option V),σ=[some (.ref a),some (.str (tx wa)),some (.str (tx we)),some (.ref p),some (.str (tx (wa++we))),some (.ref sa),some (.ref bd),v7,v8,v9]∧Kp bd H3 H4∧H4 bd=some (.dK (gK b))∧Bor pic m n (wa++we) b∧∀ v,v<i→b.lookup v≠none)
   ⟨[],none,none,none,rfl,.of (.refl _),AdD,⟨List.Pairwise.nil,fun p h=>absurd h (by simp),fun p h=>absurd h (by simp),fun p h=>absurd h (by simp),fun p h=>absurd h (by simp)⟩,fun v h=>(by omega)⟩ ?_ ?_
  ·rintro i σ H4 hi ⟨b,v7,v8,v9,rfl,k4,T5,B,all⟩
   obtain⟨ob,dB,_,_,jB⟩:=Za T5 i 0
   have dB:Ht H4 bd (.int (0+(i:Int))) ob:=by rw[Ak5];exact dB
   refine⟨_,rfl,_,rfl,bd,_,rfl,dB,_,rfl,?_⟩
   rw[jB]
   cases e:b.lookup i with
   | none =>
    refine Iu ?_
    refine⟨_,rfl,_,rfl,_,rfl,_,rfl,sa,bd,rs,tt,pic,m,n,wa++we,b,O,i,(by rw[Ak5] <;> rfl),S3.kp k4 AdD,C,tl,T5,B,F,hi,e,fun H5 b' k5 Ai4 B' mono hb'=>?_⟩
    refine⟨_,rfl,rfl,_,rfl,?_⟩
    refine Gz rfl ?_
    refine⟨b',_,_,_,rfl,fun x o ne ex=>k5 x o ne (k4 x o ne ex),Ai4,B',fun v hv=>?_⟩
    by_cases ev:v<i
    ·exact mono v (all v ev)
    ·have ev:v=i:=by omega
     rw[ev];exact hb'
   | some c =>
    refine Hr ?_
    refine⟨b,_,_,_,rfl,k4,T5,B,fun v hv=>?_⟩
    by_cases ev:v<i
    ·exact all v ev
    ·have ev:v=i:=by omega
     rw[ev,e];exact fun z=>(by cases z)
  ·rintro σ H4 ⟨b,v7,v8,v9,rfl,k4,T5,B,all⟩
   have keep:Av H H4:=fun x o e=>k4 x o (BP e nbH) (u3 _ _ e)
   have hp4:H4 p=some (.tup [.int (m:Int),.int (n:Int)]):=k4 _ _ (fun e=>by rw[e,AdD] at hp3;cases hp3) hp3
   refine⟨rfl,_,rfl,_,rfl,slt,_,rfl,(by omega),(by rw[Ax];omega),?_⟩
   rw[Ax,AjW,tl]
   refine Fo (lo:=0) (n:=m+n) (fun j ys H5=>H5=H4∧ys=vS ((thr b j).map fun d=>[d])) ⟨rfl,rfl⟩ ?_ ?_ ?_ ?_
   ·rintro j ys H5 hj ⟨rfl,rfl⟩
    rw[BJ,AjP,R3]
    exact AjQ _
   ·omega
   ·rintro j ys H5 hj ⟨rfl,rfl⟩
    refine Ge.no ?_
    obtain⟨c,hc⟩:∃ c,b.lookup j=some c:=by
     cases e:b.lookup j with
     | none=>exact absurd e (all j hj)
     | some c=>exact⟨c,rfl⟩
    have dg:Ht H5 bd (.int (0+(j:Int))) (some (.str ⟨#[c]⟩)):=by
     have:=Ht.k (k:=Sum.inl (j:Int)) T5
     rw[T3,hc] at this
     rw[Ak5]
     exact this
    refine⟨_,rfl,_,rfl,bd,_,rfl,dg,?_⟩
    refine CN.of hj ⟨rfl,?_⟩
    rw[Ace,hc,AjY,Fp,Gh]
    rfl
   ·rintro ys H5 q ⟨rfl,rfl⟩ hq
    have thl:=R3 b (m+n)
    refine⟨_,_,(((thr b (m+n)).map fun d=>[d]).map tx),rfl,rfl,SqL.of (by rw[Af,KH]),?_,?_⟩
    ·have e1:=Aal (fun d:Nat=>d) (thr b (m+n))
     rw[e1,AjP,AjP,thl]
     have:(m+n)*(Str.length "")=0:=by rw[show Str.length "" = 0 from by decide +kernel];omega
     omega
    ·rw[show(("" : Str))=tx [] from by decide +kernel,LR]
     have e2:((thr b (m+n)).map fun d=>[d]).flatten=thr b (m+n):=(Uz (fun d:Nat=>d) (thr b (m+n))).trans (List.map_id _)
     rw[e2]
     have s6:Av H (upd H5 q (.lst (vS ((thr b (m+n)).map fun d=>[d])))):=keep.new hq
     have hp6:=(Av.upd (o:=.lst (vS ((thr b (m+n)).map fun d=>[d]))) hq) _ _ hp4
     generalize upd H5 q (.lst (vS ((thr b (m+n)).map fun d=>[d])))=H6 at s6 hp6 ⊢
     have h40:(thr b (m+n)).length≤sizeLine:=by omega
     refine⟨_,rfl,_,rfl,_,_,_,_,rfl,rfl,SqT.of hp6,Bm (by decide) rfl,_,rfl,thr b (m+n),rfl,h40,_,rfl,_,rfl,_,_,_,_,rfl,rfl,SqT.of hp6,Bm (by decide) rfl,_,rfl,thr b (m+n),rfl,h40,(by show 3≤sizeLine;omega),fun tp ntp=>?_⟩
     rw[Np (by omega),Im (by omega)]
     exact k tp _ _ _ (s6.new ntp) Af (Fnd.of B hwa hwe all)
end
def putp(u:List Nat)(e d:Nat):List Nat:=u.take e++[d]++u.drop (e+1)
def AjL (cl:List (List Nat))(p e d:Nat):List (List Nat):=cl.take p++[putp (cl.getD p []) e d]++cl.drop (p+1)
def gc (a:List (List Nat))(j k:Nat):Nat:=(a.getD j []).getD k 0
theorem PN{u:List Nat}{c:Nat}:c∈u↔∃ k,k<u.length∧u.getD k 0=c:=by
 constructor
 ·intro h
  obtain⟨k,hk,e⟩:=List.mem_iff_getElem.mp h
  exact⟨k,hk,by rw[← e];simp[List.getD,hk]⟩
 ·rintro⟨k,hk,e⟩
  rw[← e,show u.getD k 0=u[k] by simp[List.getD,hk]]
  exact AjU hk
theorem Ms{a:List (List Nat)}{r:List Nat}:r∈a↔∃ j,j<a.length∧a.getD j []=r:=by
 constructor
 ·intro h
  obtain⟨k,hk,e⟩:=List.mem_iff_getElem.mp h
  exact⟨k,hk,by rw[← e];simp[List.getD,hk]⟩
 ·rintro⟨k,hk,e⟩
  rw[← e,show a.getD k []=a[k] by simp[List.getD,hk]]
  exact AjU hk
theorem Rct.row{a:List (List Nat)}{m n j:Nat}(A:Rct a m n)(h:j<n):(a.getD j []).length=m:=(A.at h).2.1
section
variable {cl dl:List (List Nat)}{m n:Nat}{wa we:List Nat}
theorem Cl.rct(C:Cl cl m n):Rct cl m n:=⟨C.hn,C.hm⟩
theorem Pic.rct(C:Pic cl m n):Rct cl m n:=⟨C.hn,C.hm⟩
theorem Acg(R:Rct cl m n):Rct (Iv cl wa we) m n:=⟨by rw[KQ];exact R.1,fun t ht=>by
 obtain⟨j,hj,e⟩:=Ms.mp ht
 rw[KQ] at hj
 rw[← e,Q7 hj,J4]
 exact R.row (by rw[← R.1];exact hj)⟩
theorem Wl(R:Rct cl m n){j k:Nat}(hj:j<n)(hk:k<m):gc (Iv cl wa we) j k=if gc cl j k=35 then wa.getD k 0 else we.getD j 0:=by
 unfold gc
 rw[Q7 (by rw[R.1];exact hj),Qo (by rw[R.row hj];exact hk)]
theorem Vd(R:Rct cl m n):Rct (Hu cl wa we) m n:=⟨by rw[Qq];exact R.1,fun t ht=>by
 obtain⟨j,hj,e⟩:=Ms.mp ht
 rw[Qq] at hj
 rw[← e,Tz hj,Qp]
 exact R.row (by rw[← R.1];exact hj)⟩
theorem XS(R:Rct cl m n){j k:Nat}(hj:j<n)(hk:k<m):gc (Hu cl wa we) j k=hs (gc cl j k) (wa.getD k 0) (we.getD j 0):=by
 unfold gc
 rw[Tz (by rw[R.1];exact hj),Aa8 (by rw[R.row hj];exact hk)]
theorem AdE{Pr:Nat→Prop}(R:Rct cl m n):(∀ t∈cl,∀ c∈t,Pr c)↔∀ j,j<n→∀ k,k<m→Pr (gc cl j k):=by
 constructor
 ·intro h j hj k hk
  have hl:j<cl.length:=by rw[R.1];exact hj
  refine h _ (Ms.mpr ⟨j,hl,rfl⟩) _ (PN.mpr ⟨k,?_,rfl⟩)
  rw[R.row hj];exact hk
 ·intro h t ht c hc
  obtain⟨j,hj,e⟩:=Ms.mp ht
  obtain⟨k,hk,e2⟩:=PN.mp hc
  have hjn:j<n:=by rw[← R.1];exact hj
  have:k<m:=by rw[← e,R.row hjn] at hk;exact hk
  have z:=h j hjn k this
  unfold gc at z
  rw[e,e2] at z
  exact z
theorem ZG{u:List Nat}(h:∀ c∈u,Co c){k:Nat}(hk:k<u.length):Co (u.getD k 0):=h _ (PN.mpr ⟨k,hk,rfl⟩)
theorem XX(C:Cl cl m n)(lwa:wa.length=m)(lwe:we.length=n)(ca:∀ c∈wa,Co c)(ce:∀ c∈we,Co c):Pic (Iv cl wa we) m n:=by
 have R:=Acg (wa:=wa) (we:=we) C.rct
 refine⟨R.1,R.2,(AdE R).mpr fun j hj k hk=>?_,C.m1,C.m40,C.n1,C.n40⟩
 rw[Wl C.rct hj hk]
 split
 ·exact ZG ca (by omega)
 ·exact ZG ce (by omega)
def Wv (pc:List (List Nat))(wa we:List Nat)(m n p:Nat):Prop:=∀ j,j<n→j≠p→∀ k,k<m→gc pc j k=wa.getD k 0∨gc pc j k=we.getD j 0
section
variable {pc sg:List (List Nat)}
end
end
theorem Di{i:Nat}{v:V}{σ σ':St}{H:Hp}{Kt:St→Hp→Prop}(h:σ.set i (some v)=σ')(k:Kt σ' H):KD i v σ H Kt:=by subst h;exact k
theorem Ae3{pic:List (List Nat)}{m n:Nat}{wa we ua ue:List Nat}(C:Pic pic m n)(F:Fnd pic m n wa we ua ue):∀ r∈Hu pic ua ue,33∉r:=by
 intro r hr z
 have R:=C.rct
 have RH:=Vd (wa:=ua) (we:=ue) R
 obtain⟨j,hj,e⟩:=Ms.mp hr
 have hjn:j<n:=by rw[← RH.1];exact hj
 obtain⟨k,hk,ek⟩:=PN.mp z
 have hkm:k<m:=by rw[← e,RH.row hjn] at hk;exact hk
 have g:=XS (wa:=ua) (we:=ue) R hjn hkm
 have g2:gc (Hu pic ua ue) j k=33:=by unfold gc;rw[e];exact ek
 rw[g2] at g
 obtain⟨h1,h2⟩:=Aey.mp g.symm
 rcases F.cr j k hjn hkm with z | z
 ·exact h1 z
 ·exact h2 z
theorem Ach{cl:List (List Nat)}{m n:Nat}{wa we ra re:List Nat}(C:Cl cl m n)(hwa:wa.length=m)(hwe:we.length=n)(ca:∀ c∈wa,Co c)(ce:∀ c∈we,Co c)(ra1:ra.length=m)(re1:re.length=n)
  (ra2:∀ j,j<m→ra.getD j 0=63∨ra.getD j 0=wa.getD j 0) (re2:∀ j,j<n→re.getD j 0=63∨re.getD j 0=we.getD j 0) :
  Fit (Iv cl wa we) m n (ra++re) (fun v=>if v<m then wa.getD v 0 else we.getD (v-m) 0):=by
 have R:=C.rct
 have key:∀ i j,i<n→j<m→wa.getD j 0=((Iv cl wa we).getD i []).getD j 0∨we.getD i 0=((Iv cl wa we).getD i []).getD j 0:=fun i j hi hj=>by
  have:=Wl (wa:=wa) (we:=we) R hi hj
  unfold gc at this
  rw[this]
  split
  ·exact .inl rfl
  ·exact .inr rfl
 refine⟨fun v w hv hw hb=>?_,fun v hv=>?_,fun v hv=>?_⟩
 ·unfold crs
  rcases hb with ⟨h1,h2⟩ | ⟨h1,h2⟩
  ·rw[if_pos h1,if_neg (show ¬w<m by omega),if_pos h1]
   exact key (w-m) v (by omega) h1
  ·rw[if_neg (show ¬v<m by omega),if_pos h2,if_neg (show ¬v<m by omega)]
   exact(key (v-m) w (by omega) h2).symm
 ·by_cases h:v<m
  ·rw[if_pos h,AjV,Aki (by omega),← AjV]
   exact ra2 v h
  ·rw[if_neg h,AjV,Akr (by omega),← AjV,ra1]
   exact re2 (v-m) (by omega)
 ·by_cases h:v<m
  ·rw[if_pos h]
   exact ca _ (by rw[show wa.getD v 0=wa[v]'(by omega) by simp[List.getD,show v<wa.length by omega]];exact AjU _)
  ·rw[if_neg h]
   exact ce _ (by rw[show we.getD (v-m) 0=we[v-m]'(by omega) by simp[List.getD,show v-m<we.length by omega]];exact AjU _)
section
variable {P:Program}{w:World}{K:PySem.W.Frag}{mg:Str→Option Value}{base:Heap}{t:Adr}
theorem AfK:(V.str ⟨#[35]⟩:V)=V.str "#" := congrArg V.str (by decide +kernel)
theorem AfL:(V.str ⟨#[46]⟩:V)=V.str "." := congrArg V.str (by decide +kernel)
theorem Hw{n:Nat}(h:n≤40):n≤sizeLine:=Akg h (by decide)
theorem Ai5{c:Nat}(h:Sq3 c):(!(!(Builtin.Str.occurrences "#.?" ⟨#[c]⟩ 0 (Str.length "#.?") 1).isEmpty))=false:=by
 rcases h with h | h | h <;> subst h <;> decide +kernel
def T6:Sp:=fun vs H Q _=>∃(t:List Nat),vs=[.str (tx t),.int (t.length:Int),.str "#.?"]∧(∀ c∈t,Sq3 c)∧t.length≤40∧Q .non H
theorem T7(T:Txt K mg t):BK P w K mg base CX0 1 t.HJ t.HN ["text", "ends", "signs"] T6:=by
 refine T.Dl.F.ok Ez (fun vs H Q E h=>?_) (fun cdv A outer s H vs Q E hr h=>?_)
 ·obtain⟨t,rfl,_⟩:=h
  rfl
 ·obtain⟨t,rfl,hsg,hl,k⟩:=h
  refine⟨_,(Ab (Bh (Ag Iz (Aj Bt rfl T.BW Bs (Aa (pv 0) Ac)) (pv 1) (Ak _))
    (Ad CK)
    Am)
   (Ad (Cp PassesOwn.never rfl (Nk (pv 0)) (Bu (i:=3) Ez.nd rfl (Or.inl rfl))
    (Ad (Bh (Ag FN (pv 3) (pv 2) rfl)
     (Ad CK)
     Am))))),?_⟩
  refine⟨_,rfl,_,rfl,(by rw[Ax];exact Hw hl),_,rfl,rfl,_,rfl,?_⟩
  refine Gz (by rw[Ax]) ?_
  refine⟨_,rfl,_,rfl,JS (z:=tx t) (fun i σ H2=>∃ v,σ=[some (.str (tx t)),some (.int (t.length:Int)),some (.str "#.?"),v]∧H2=H) ⟨none,rfl,rfl⟩ ?_ ?_⟩
  ·rintro i c σ H2 hc ⟨v,rfl,rfl⟩
   rw[JT] at hc
   refine⟨_,rfl,_,rfl,_,_,rfl,rfl,_,rfl,?_⟩
   rw[Ai5 (hsg c (AjT hc))]
   exact Hr ⟨_,rfl,rfl⟩
  ·rintro σ H2 ⟨v,rfl,rfl⟩
   exact k
def Od (K:PySem.W.Frag):Sp:=fun vs H Q _=>∃(a:Addr) (cl:List (List Nat)) (m n:Nat),vs=[.ref a,.int 2,.str "#.?"]∧SqL K H a (vS cl)∧Hc cl m n∧∀ p,H p=none→Q (.ref p) (upd H p (.tup [.int (m:Int),.int (n:Int)]))
theorem Oe(T:Txt K mg t):BK P w K mg base CX0 2 t.FT t.FW ["texts", "least", "signs"] (Od K):=by
 refine T.BV.F.ok Ci (fun vs H Q E h=>?_) (fun cdv A outer s H vs Q E hr h=>?_)
 ·obtain⟨a,cl,m,n,rfl,_⟩:=h
  rfl
 ·obtain⟨a,cl,m,n,rfl,hS,C,k⟩:=h
  have hlen:(vS cl).length=n:=by rw[BJ,C.hn]
  have c1:=C.n2
  have h0:0<cl.length:=by rw[C.hn];omega
  have hm0:=C.hm cl[0] (AjU h0)
  have c2:=C.n40
  have c3:=C.m2
  have c4:=C.m40
  refine⟨_,(Ab (Bh (PW.pt (pw_or (Ag Fj (Aj (Ar (K:=K)) rfl T.BW Bs (Aa (pv 0) Ac)) (pv 1) (Ak _)) (pw_or1 (Ag Hq (Aj (Ar (K:=K)) rfl T.BW Bs (Aa (pv 0) Ac)) (Ao (v:=.int 40) rfl T.Ck.choose_spec ⟨_,rfl⟩) (Ak _)))))
    (Ad CK)
    Am)
   (Ab (Al (i:=3) Ci.nd rfl (Or.inl rfl) (Aj Bt rfl T.BW Bs (Aa (Bb (Ay (K:=K)) (pv 0) Ae (fun _ _=>rfl)) Ac)))
   (Ab (Bh (PW.pt (pw_or (Ag Fj (pv 3) (pv 1) (Ak _)) (pw_or1 (Ag Hq (pv 3) (Ao (v:=.int 40) rfl T.Ck.choose_spec ⟨_,rfl⟩) (Ak _)))))
    (Ad CK)
    Am)
   (Ab (Cp PassesOwn.never rfl (Cz (K:=K) (pv 0)) (Bu (i:=4) Ci.nd rfl (Or.inl rfl))
    (Ad (Bp (An ((T7 T).mono (by decide)) hr rfl T.Dl.m T.Dl.F.kp T.Dl.b .nil Bv (Aa (pv 4) (Aa (pv 3) (Aa (pv 2) Ac)))))))
   (Ad (Ba (Eh (Aa (pv 3) (Aa (Aj (Ar (K:=K)) rfl T.BW Bs (Aa (pv 0) Ac)) Ac))))))))),?_⟩
  refine⟨_,rfl,_,_,rfl,.inl hS,_,rfl,_,_,rfl,rfl,_,rfl,?_⟩
  refine By (by rw[hlen];omega) ?_
  refine⟨_,rfl,_,_,rfl,.inl hS,_,_,rfl,rfl,_,rfl,?_⟩
  refine By (by rw[hlen];omega) ?_
  refine⟨_,rfl,_,_,_,_,rfl,rfl,hS,Bm (by decide) (GQ (AjO h0)),_,rfl,(by rw[Ax,hm0];exact Hw c4),?_⟩
  rw[Ax,hm0]
  refine⟨_,rfl,_,rfl,_,_,rfl,rfl,_,rfl,?_⟩
  refine By (by omega) ?_
  refine⟨_,rfl,_,_,rfl,rfl,_,rfl,?_⟩
  refine By (by omega) ?_
  refine⟨_,rfl,_,rfl,⟨_,hS⟩,DW (K:=K) (a:=a) (xs:=vS cl) (fun i σ H2=>∃ v,σ=[some (.ref a),some (.int 2),some (.str "#.?"),some (.int (m:Int)),v]∧H2=H) ⟨none,rfl,rfl⟩ (fun i σ H2 _ ⟨_,_,e⟩=>e▸hS) ?_ ?_⟩
  ·rintro i x σ H2 hx ⟨v,rfl,rfl⟩
   obtain⟨t,ht,rfl⟩:=GR hx
   have htm:=AjT ht
   refine⟨_,rfl,_,rfl,_,rfl,t,?_,C.sg t htm,?_,⟨_,rfl,rfl⟩⟩
   ·rw[C.hm t htm];rfl
   ·rw[C.hm t htm];exact c4
  ·rintro σ H2 ⟨v,rfl,rfl⟩
   refine⟨_,rfl,_,rfl,_,_,rfl,.inl hS,(by show 2≤sizeLine;decide),fun p hp=>?_⟩
   rw[hlen]
   exact k p hp
def QB (K:PySem.W.Frag):Sp:=fun vs H Q _=>∃(a:Addr) (cl:List (List Nat)) (m n:Nat),vs=[.ref a]∧SqL K H a (vS cl)∧Hc cl m n∧∀ p,H p=none→Q (.ref p) (upd H p (.tup [.int (m:Int),.int (n:Int)]))
theorem QC(T:Txt K mg t):BK P w K mg base CX0 3 t.K6 t.K7 ["half"] (QB K):=by
 refine T.Hm.F.ok Qv (fun vs H Q E h=>?_) (fun cdv A outer s H vs Q E hr h=>?_)
 ·obtain⟨a,cl,m,n,rfl,_⟩:=h
  rfl
 ·obtain⟨a,cl,m,n,rfl,hS,C,k⟩:=h
  exact⟨_,(Ad (Ba (An ((Oe T).mono (by decide)) hr rfl T.BV.m T.BV.F.kp T.BV.b .nil Bv (Aa (pv 0) (Aa Ae (Aa Az Ac)))))),_,rfl,a,cl,m,n,rfl,hS,C,k⟩
structure NL (H:Hp) (y:Addr) (rs:List Addr) (tss:List (List Int)):Prop where
 h:H y=some (.lst (rs.map V.ref))
 l:rs.length=tss.length
 r:∀(i:Nat) (a:Addr) (ks:List Int),rs[i]?=some a→tss[i]?=some ks→H a=some (.lst (vI ks))
theorem NL.same{H H':Hp}{y:Addr}{rs:List Addr}{tss:List (List Int)}(N:NL H y rs tss)(s:Av H H'):NL H' y rs tss:=⟨s _ _ N.h,N.l,fun i a ks h1 h2=>s _ _ (N.r i a ks h1 h2)⟩
theorem NL.at{H:Hp}{y:Addr}{rs:List Addr}{tss:List (List Int)}(N:NL H y rs tss){i:Nat}{a:V}(h:(rs.map V.ref)[i]?=some a):∃ r ks,a=.ref r∧rs[i]?=some r∧tss[i]?=some ks∧H r=some (.lst (vI ks)):=by
 rw[Aka] at h
 cases e:rs[i]? with
 | none=>rw[e] at h;cases h
 | some r =>
  rw[e] at h
  cases h
  have hi:i<tss.length:=by rw[← N.l];exact(List.getElem?_eq_some_iff.mp e).1
  exact⟨r,tss[i],rfl,rfl,AjO hi,N.r i r _ e (AjO hi)⟩
theorem AfM(c:Nat):(!decide ((V.str ⟨#[c]⟩:V)=V.str "."))=decide (c≠46):=by
 by_cases h:c=46
 ·subst h;rw[decide_eq_true AfL];rfl
 ·rw[decide_eq_false (fun z=>h (HD.mp (z.trans AfL.symm))),decide_eq_true h];rfl
theorem AfN(c:Nat):(!decide ((V.str ⟨#[c]⟩:V)=V.str "#"))=decide (c≠35):=by
 by_cases h:c=35
 ·subst h;rw[decide_eq_true AfK];rfl
 ·rw[decide_eq_false (fun z=>h (HD.mp (z.trans AfK.symm))),decide_eq_true h];rfl
theorem NL.grow{H:Hp}{y l:Addr}{rs:List Addr}{tss:List (List Int)}{ks:List Int}(N:NL H y rs tss)(hl:H l=none):NL (upd (upd H l (.lst (vI ks))) y (.lst (rs.map V.ref++[.ref l]))) y (rs++[l]) (tss++[ks]):=by
 have nly:l≠y:=fun e=>by rw[e,N.h] at hl;cases hl
 refine⟨by rw[AjY];exact Af,by rw[AjR,AjR,N.l];rfl,fun i a ks' h1 h2=>?_⟩
 by_cases hi:i<rs.length
 ·rw[Aki hi] at h1
  rw[Aki (by rw[← N.l];exact hi)] at h2
  have ha:=N.r i a ks' h1 h2
  have nay:a≠y:=fun e=>by
   rw[e,N.h] at ha
   have e2:rs.map V.ref=vI ks':=by injection ha with ha;injection ha
   have h0:0<rs.length:=by omega
   have g1:(rs.map V.ref)[0]?=some (.ref rs[0]):=by rw[Aka,AjO h0];rfl
   rw[e2] at g1
   obtain⟨z,_,e3⟩:=Nm g1
   cases e3
  rw[Aq nay]
  exact(Av.upd hl) _ _ ha
 ·rw[Akr (by omega)] at h1
  rw[Akr (by rw[← N.l];omega)] at h2
  have hi0:i-rs.length=0:=by
   have:=(List.getElem?_eq_some_iff.mp h1).1
   simp at this
   omega
  rw[hi0] at h1
  rw[show i-tss.length=0 by rw[← N.l];exact hi0] at h2
  have e1:l=a:=by simpa using h1
  have e2:ks=ks':=by simpa using h2
  rw[← e1,← e2,Aq nly]
  exact Af
theorem Ae4{cl:List (List Nat)}{m n p:Nat}(C:Hc cl m n)(hp:p<n):atI (vS cl) (0+(p:Int))=some (.str (tx (cl.getD p [])))∧(cl.getD p []).length=m:=by
 have hl:p<cl.length:=by rw[C.hn];exact hp
 have e:cl.getD p []=cl[p]:=by rw[AjV,AjO hl];rfl
 rw[e]
 exact⟨Bm (by omega) (by rw[z0];exact GQ (AjO hl)),C.hm _ (AjU hl)⟩
theorem T8{u:List Nat}{e:Nat}(h:e<u.length):atI (tx u).cps.toList (0+(e:Int))=some (u.getD e 0):=Bm (by omega) (by
 rw[z0,Zt,AjO h,AjV,AjO h]
 rfl)
theorem NL.isS{H:Hp}{y:Addr}{rs:List Addr}{tss:List (List Int)}(N:NL H y rs tss){r:Addr}(h:r∈rs):H r≠none:=fun e=>by
 obtain⟨i,hi,er⟩:=Aky h
 have ht:i<tss.length:=by rw[← N.l];exact hi
 have:=N.r i r tss[i] (by rw[AjO hi,er]) (AjO ht)
 rw[e] at this
 cases this
def Frs (H:Hp)(rs:List Addr):Prop:=rs.Nodup∧∀ r∈rs,H r=none
theorem Frs.add{H H2:Hp}{y l:Addr}{rs:List Addr}{tss:List (List Int)}(F:Frs H rs)(N:NL H2 y rs tss)(s:Av H H2)(hl:H2 l=none):Frs H (rs++[l]):=by
 refine⟨List.nodup_append.mpr ⟨F.1,by simp,fun a ha b hb=>?_⟩,fun r hr=>?_⟩
 ·rw[List.mem_singleton.mp hb]
  exact fun e=>N.isS ha (by rw[e];exact hl)
 ·rcases List.mem_append.mp hr with h | h
  ·exact F.2 r h
  ·rw[List.mem_singleton.mp h];exact s.free hl
def Aci (K:PySem.W.Frag):Sp:=fun vs H Q _=>∃(a:Addr) (cl:List (List Nat)) (m n:Nat),vs=[.ref a]∧SqL K H a (vS cl)∧Hc cl m n∧∀(y:Addr) (rs:List Addr) (H':Hp),Av H H'→NL H' y rs (lows cl m)→Frs H rs→H y=none→Q (.ref y) H'
theorem QD(T:Txt K mg t):BK P w K mg base CX0 1 t.Ky t.Kz ["texts"] (Aci K):=by
 refine T.Hj.F.ok Ek (fun vs H Q E h=>?_) (fun cdv A outer s H vs Q E hr h=>?_)
 ·obtain⟨a,cl,m,n,rfl,_⟩:=h
  rfl
 ·obtain⟨a,cl,m,n,rfl,hS,C,k⟩:=h
  have hsz:sizeLine=16777216:=sizeLine_eq
  have c1:=C.n2
  have c2:=C.n40
  have c3:=C.m2
  have c4:=C.m40
  have hlen:(vS cl).length=n:=by rw[BJ,C.hn]
  have h0:0<cl.length:=by rw[C.hn];omega
  have hm0:=C.hm cl[0] (AjU h0)
  refine⟨_,(Ab (Al (i:=1) Ek.nd rfl (Or.inr rfl) (Aj Bt rfl T.BW Bs (Aa (Bb (Ay (K:=K)) (pv 0) Ae (fun _ _=>rfl)) Ac)))
   (Ab (Al (i:=2) Ek.nd rfl (Or.inl rfl) (Fl Ac))
   (Ab (Cp PassesOwn.never rfl (BZ rfl T.Dc (Aa (pv 1) Ac)) (Bu (i:=3) Ek.nd rfl (Or.inr rfl))
    (Ad (Bp (Dh (K:=K) PySem.F.plainAttrs_list PySem.F.slot_list_append PySem.F.type_list_append CQ (pv 2) (Aa (Gm (Ei.mk (Bx:=[0,1,3]) (Nc:=["pick", "texts", "ends", "end"]) rfl (by decide +kernel) (by decide +kernel) (Dj (sc0:=Ai Gn) rfl (by decide +kernel)) rfl rfl rfl (by decide +kernel) (fun k j h=>match k,h with | 0,h=>by obtain rfl:=Option.some.inj h;exact⟨_,rfl,rfl,rfl⟩ | 1,h=>by obtain rfl:=Option.some.inj h;exact⟨_,rfl,rfl,rfl⟩ | 2,h=>by obtain rfl:=Option.some.inj h;exact⟨_,rfl,rfl,rfl⟩ | _+3,h=>by simp at h)) rfl (BZ rfl T.Dc (Aa (Aj (Ar (K:=K)) rfl T.BW Bs (Aa (pv 0) Ac)) Ac)) (fun _ _ _ _ _=>.one (Ag Iz (Bb Fe (Bb (Ay (K:=K)) (pv 1) (pv 0) (fun _ _=>rfl)) (pv 3) (fun _ _=>rfl)) Az (Ak _))) (fun _ _ _ _ _=>(Bg DY (pv 2) (pv 0)))) Ac)))))
   (Ab (Cp PassesOwn.never rfl (Cz (K:=K) (pv 0)) (Bu (i:=4) Ek.nd rfl (Or.inr rfl))
    (Ad (Bp (Dh (K:=K) PySem.F.plainAttrs_list PySem.F.slot_list_append PySem.F.type_list_append CQ (pv 2) (Aa (Gm (Ei.mk (Bx:=[4]) (Nc:=["end", "text"]) rfl (by decide +kernel) (by decide +kernel) (Dj (sc0:=Ai Gn) rfl (by decide +kernel)) rfl rfl rfl (by decide +kernel) (fun k j h=>match k,h with | 0,h=>by obtain rfl:=Option.some.inj h;exact⟨_,rfl,rfl,rfl⟩ | _+1,h=>by simp at h)) rfl (BZ rfl T.Dc (Aa (pv 1) Ac)) (fun _ _ _ _ _=>.one (Ag Iz (Bb Fe (pv 1) (pv 0) (fun _ _=>rfl)) Az (Ak _))) (fun _ _ _ _ _=>(pv 0))) Ac)))))
   (Ad (Ba (pv 2))))))),?_⟩
  refine⟨_,rfl,_,_,_,_,rfl,rfl,hS,Bm (by decide) (GQ (AjO h0)),_,rfl,(by rw[Ax,hm0];exact Hw c4),?_⟩
  rw[Ax,hm0]
  refine⟨Akb _,fun q hq=>?_⟩
  refine⟨_,rfl,_,rfl,(by omega),(by omega),?_⟩
  rw[AjW]
  refine Du (lo:=0) (n:=m) (fun i σ H2=>∃(rs:List Addr) (v1 v2:Option V),σ=[some (.ref a),some (.int (m:Int)),some (.ref q),v1,v2]∧Av H H2∧NL H2 q rs ((List.range i).map fun e=>Mv cl m e cl.length)∧Frs H rs)
   ⟨[],none,none,rfl,.upd hq,⟨Af,rfl,fun i a ks h=>by simp at h⟩,⟨List.nodup_nil,fun r h=>(by cases h)⟩⟩ ?_ ?_
  ·rintro i σ H2 hi ⟨rs,v1,v2,rfl,s2,N,F⟩
   refine⟨_,rfl,.inl ⟨rfl,_,SqL.of N.h⟩,_,rfl,_,_,rfl,.inl (s2.seq hS),_,rfl,(by omega),(by rw[hlen];omega),?_⟩
   rw[AjW,hlen]
   refine Fo (lo:=0) (n:=n) (fun j ys H3=>H3=H2∧ys=vI (Mv cl m i j)) ⟨rfl,rfl⟩ ?_ ?_ ?_ ?_
   ·rintro j ys H3 hj ⟨rfl,rfl⟩
    rw[BR]
    exact Xq cl m i j
   ·exact Hw c2
   ·rintro j ys H3 hj ⟨rfl,rfl⟩
    obtain⟨e1,l1⟩:=Ae4 C hj
    have e2:=T8 (u:=cl.getD j []) (e:=i) (by rw[l1];exact hi)
    refine⟨_,rfl,_,rfl,_,_,_,_,rfl,rfl,s2.seq hS,e1,_,rfl,_,_,_,rfl,rfl,(by rw[Ax,l1];exact Hw c4),e2,rfl,_,rfl,?_⟩
    have st:=Aa9 cl m i j
    rw[AfM]
    refine CJ (fun h=>?_) (fun h=>?_)
    ·refine⟨_,rfl,_,rfl,_,_,rfl,rfl,?_⟩
     refine CN.of hj ⟨rfl,?_⟩
     rw[Ak5,st,if_pos (show sg2 cl j i≠46 from h)]
     exact Ie _ _
    ·refine CN.of hj ⟨rfl,?_⟩
     rw[st,if_neg (show ¬sg2 cl j i≠46 from h)]
   ·rintro ys H3 l ⟨rfl,rfl⟩ hl
    have hq3:=(Av.upd (o:=.lst (vI (Mv cl m i n))) hl) _ _ N.h
    refine⟨_,_,_,rfl,rfl,hq3,(by rw[AjP,N.l,AjP,Akh];omega),?_⟩
    refine⟨rs++[l],_,_,rfl,(s2.new hl).over hq,?_,F.add N s2 hl⟩
    rw[AkE,AjY]
    have:=N.grow (ks:=Mv cl m i cl.length) hl
    rw[C.hn] at this ⊢
    exact this
  ·rintro σ H2 ⟨rs,v1,v2,rfl,s2,N,F⟩
   refine⟨_,rfl,_,rfl,⟨_,s2.seq hS⟩,DW (K:=K) (a:=a) (xs:=vS cl) (fun i σ H3=>∃(rs:List Addr) (v1 v2:Option V),σ=[some (.ref a),some (.int (m:Int)),some (.ref q),v1,v2]∧Av H H3∧NL H3 q rs (((List.range m).map fun e=>Mv cl m e cl.length)++(cl.take i).map fun t=>lowP t m)∧Frs H rs)
    ⟨rs,v1,v2,rfl,s2,by rw[List.take_zero,Akv,AkR];exact N,F⟩ (fun i σ H3 _ ⟨_,_,_,_,s3,_⟩=>s3.seq hS) ?_ ?_⟩
   ·rintro i x σ H3 hx ⟨rs,v1,v2,rfl,s3,N3,F3⟩
    obtain⟨u,hu,rfl⟩:=GR hx
    have hil:i<n:=by
     have:=(List.getElem?_eq_some_iff.mp hu).1
     rwa [C.hn] at this
    have lu:=C.hm u (AjT hu)
    refine⟨_,rfl,.inl ⟨rfl,_,SqL.of N3.h⟩,_,rfl,_,rfl,(by omega),(by omega),?_⟩
    rw[AjW]
    refine Fo (lo:=0) (n:=m) (fun j ys H4=>H4=H3∧ys=vI (lowP u j)) ⟨rfl,rfl⟩ ?_ ?_ ?_ ?_
    ·rintro j ys H4 hj ⟨rfl,rfl⟩
     rw[BR]
     exact Xr u j
    ·exact Hw c4
    ·rintro j ys H4 hj ⟨rfl,rfl⟩
     have e2:=T8 (u:=u) (e:=j) (by rw[lu];exact hj)
     refine⟨_,rfl,_,rfl,_,_,_,rfl,rfl,(by rw[Ax,lu];exact Hw c4),e2,rfl,_,rfl,?_⟩
     have st:=AaA u j
     rw[AfN]
     refine CJ (fun h=>?_) (fun h=>?_)
     ·refine⟨_,rfl,?_⟩
      refine CN.of hj ⟨rfl,?_⟩
      rw[Ak5,st,if_pos h]
      exact Ie _ _
     ·refine CN.of hj ⟨rfl,?_⟩
      rw[st,if_neg h]
    ·rintro ys H4 l ⟨rfl,rfl⟩ hl
     have hq4:=(Av.upd (o:=.lst (vI (lowP u m))) hl) _ _ N3.h
     refine⟨_,_,_,rfl,rfl,hq4,(by rw[AjP,N3.l,AjR,AjP,Akh,AjP,Akf];omega),?_⟩
     refine⟨rs++[l],_,_,rfl,(s3.new hl).over hq,?_,F3.add N3 s3 hl⟩
     rw[Akp,hu,AjY,← AkK]
     exact N3.grow (ks:=lowP u m) hl
   ·rintro σ H3 ⟨rs,v1,v2,rfl,s3,N3,F3⟩
    rw[BJ,Ak2] at N3
    exact⟨_,rfl,k q rs H3 s3 N3 F3 hq⟩
def AdF:Option Nat→V
 | none=>.non
 | some u=>.int (u:Int)
def HB (ps:List (Nat × Option Nat)):List (Key × V):=ps.map fun p=>(Sum.inl (p.1:Int),AdF p.2)
def vF (ps:List (Nat × Option Nat)):List V:=vI (ps.map fun p=>((p.1:Nat):Int))
theorem Acj(ps:List (Nat × Option Nat)):(vF ps).length=ps.length:=by unfold vF;rw[BR,AjP]
theorem Ahj{ps:List (Nat × Option Nat)}{i v:Nat}{a:Option Nat}(h:ps[i]?=some (v,a)):atI (vF ps) (i:Int)=some (.int (v:Int)):=Bm (by omega) (by
 rw[AjW]
 exact Ib (by rw[Aka,h];rfl))
theorem AfO(ps:List (Nat × Option Nat))(v:Nat)(a:Option Nat):vF ps++[.int (v:Int)]=vF (ps++[(v,a)]):=by unfold vF;rw[Ie,AjY];rfl
theorem QF{v:Nat}:∀{ps:List (Nat × Option Nat)},(∀ a,(v,a)∉ps)→GF (HB ps) (Sum.inl (v:Int))=none
 | [],_=>RQ
 | p::ps,h=>by
  unfold HB
  rw[AjX,Hs (fun e=>?_)]
  ·exact QF fun a ha=>h a (Akk _ ha)
  ·have e:((p.1:Nat):Int)=(v:Int):=Sum.inl.inj e
   have e:p.1=v:=by omega
   exact h p.2 (by rw[← e];exact Ake)
theorem Ve{v:Nat}{a:Option Nat}:∀{ps:List (Nat × Option Nat)},(v,a)∈ps→(∀ b,(v,b)∈ps→b=a)→GF (HB ps) (Sum.inl (v:Int))=some (AdF a)
 | [],h,_=>by cases h
 | p::ps,h,hu=>by
  unfold HB
  rw[AjX]
  by_cases e:p.1=v
  ·have ea:=hu p.2 (by rw[← e];exact Ake)
   rw[Jz (by show Sum.inl ((p.1:Nat):Int)=Sum.inl ((v:Nat):Int);rw[e])]
   show some (AdF p.2)=_
   rw[ea]
  ·rw[Hs (fun z=>e (by have z:((p.1:Nat):Int)=(v:Int):=Sum.inl.inj z;omega))]
   rcases List.mem_cons.mp h with h | h
   ·exact absurd (by rw[← h]) e
   ·exact Ve h fun b hb=>hu b (Akk _ hb)
theorem Bf.val{tss:List (List Int)}{s:Nat}{ps:List (Nat × Option Nat)}{dp:List Nat}(B:Bf tss s ps dp){i v:Nat}{a:Option Nat}(h:ps[i]?=some (v,a)):GF (HB ps) (Sum.inl (v:Int))=some (AdF a):=by
 refine Ve (AjT h) fun b hb=>?_
 obtain⟨j,hj,e⟩:=Aky hb
 have g:ps[j]?=some (v,b):=by rw[← e];exact AjO hj
 have:=B.nd i j v a b h g
 subst this
 rw[h] at g
 cases g
 rfl
theorem Ack(ps:List (Nat × Option Nat))(v u:Nat)(h:GF (HB ps) (Sum.inl (v:Int))=none):putK (HB ps) (Sum.inl (v:Int)) (.int (u:Int))=HB (ps++[(v,some u)]):=by
 rw[RW _ h]
 unfold HB
 rw[AjY]
 rfl
theorem Yb(ps:List (Nat × Option Nat)):(HB ps).length=ps.length:=by unfold HB;rw[AjP]
def Gd (tss:List (List Int)):Prop:=∀ v,∀ z∈tss.getD v [],0≤z∧z<(tss.length:Int)
def AdG:Sp:=fun vs H Q _=>∃(y:Addr) (rs:List Addr) (tss:List (List Int)) (s0:Nat),vs=[.ref y,.int (s0:Int)]∧NL H y rs tss∧Gd tss∧tss.length≤200∧s0<tss.length ∧
 ∀(d:Addr) (ps:List (Nat × Option Nat)) (dp:List Nat) (H':Hp),Av H H'→H d=none→H' d=some (.dK (HB ps))→Bf tss s0 ps dp→Dn tss ps dp ps.length→Q (.ref d) H'
theorem PQ(T:Txt K mg t):BK P w K mg base CX0 1 t.Rg t.Rh ["lower", "start"] AdG:=by
 refine T.Hf.F.ok En (fun vs H Q E h=>?_) (fun cdv A outer s H vs Q E hr h=>?_)
 ·obtain⟨y,rs,tss,s0,rfl,_⟩:=h
  rfl
 ·obtain⟨y,rs,tss,s0,rfl,N,G,Ahk,hs0,k⟩:=h
  have hsz:sizeLine=16777216:=sizeLine_eq
  refine⟨_,(Ab (Al (i:=2) En.nd rfl (Or.inl rfl) (V8 (Sh (pv 1) Fd V7) rfl rfl (by simp) (by decide)))
   (Ab (Al (i:=3) En.nd rfl (Or.inl rfl) (Fl (Aa (pv 1) Ac)))
   (Ab (Al (i:=4) En.nd rfl (Or.inl rfl) Ae)
   (Ab (R7 PassesOwn.never (Ag Fj (pv 4) (Aj (Ar (K:=K)) rfl T.BW Bs (Aa (pv 3) Ac)) (Ak _))
    (Ab (Al (i:=5) En.nd rfl (Or.inl rfl) (Bb (Ay (K:=K)) (pv 3) (pv 4) (fun _ _=>rfl)))
    (Ab (Cp PassesOwn.never rfl (Cz (K:=K) (Bb (Ay (K:=K)) (pv 0) (pv 5) (fun _ _=>rfl))) (Bu (i:=6) En.nd rfl (Or.inl rfl))
     (Ad (Bh (Qf (Mg (Ia hr) (pv 6) (pv 2)))
      (Ab (V6 (Ia hr) (pv 2) (pv 6) (pv 5) rfl)
      (Ad (Bp (Dh (K:=K) PySem.F.plainAttrs_list PySem.F.slot_list_append PySem.F.type_list_append CQ (pv 3) (Aa (pv 6) Ac)))))
      Am)))
    (Ad (Aba (i:=4) En.nd rfl (Or.inl rfl) Ae Abb)))))
   (Ad (Ba (pv 2))))))),?_⟩
  refine fun d nd=>⟨_,rfl,Af,[(Sum.inl (s0:Int),.non)],rfl,(by show 1≤15;decide),?_⟩
  have s1:Av H (upd (upd H d (.dK [])) d (.dK (Fg [] [(Sum.inl (s0:Int),.non)]))):=(Av.upd nd).over nd
  have hd1:(upd (upd H d (.dK [])) d (.dK (Fg [] [(Sum.inl (s0:Int),.non)]))) d=some (.dK (HB [(s0,none)])):=Af
  generalize upd (upd H d (.dK [])) d (.dK (Fg [] [(Sum.inl (s0:Int),.non)]))=H1 at s1 hd1 ⊢
  refine⟨_,rfl,(by show 1≤sizeLine;decide),fun f nf=>?_⟩
  have nfH:H f=none:=s1.free nf
  have dnf:d≠f:=fun e=>by rw[e,nf] at hd1;cases hd1
  have s2:Av H (upd H1 f (.lst [.int (s0:Int)])):=s1.new nf
  have hd2:=(Av.upd (o:=.lst [.int (s0:Int)]) nf) _ _ hd1
  have hf2:(upd H1 f (.lst [.int (s0:Int)])) f=some (.lst (vF [(s0,none)])):=Af
  generalize upd H1 f (.lst [.int (s0:Int)])=H2 at s2 hd2 hf2 ⊢
  refine⟨fun m σ H3=>∃(pl:Nat) (ps:List (Nat × Option Nat)) (dp:List Nat) (v5 v6:Option V),σ=[some (.ref y),some (.int (s0:Int)),some (.ref d),some (.ref f),some (.int (pl:Int)),v5,v6]∧Av H H3∧H3 d=some (.dK (HB ps))∧H3 f=some (.lst (vF ps))∧Bf tss s0 ps dp∧Dn tss ps dp pl∧pl≤ps.length∧(∀ j x a:Nat,dp[j]?=some x→dp[pl]?=some a→x≤a+1)∧m=tss.length-pl,
   ⟨_,0,[(s0,none)],[0],none,none,rfl,s2,hd2,hf2,Bf.one hs0,Dn.zero,Akb _,fun j x a h1 h2=>?_,rfl⟩,?_⟩
  ·have:=(Bf.one hs0).mono
   have g1:=(List.getElem?_eq_some_iff.mp h1).1
   have g0:j=0:=by simpa using g1
   rw[g0] at h1
   rw[h1] at h2
   cases h2
   omega
  rintro m σ H3 ⟨pl,ps,dp,v5,v6,rfl,s3,hd3,hf3,B,D,hpl,near,rfl⟩
  refine⟨_,rfl,_,rfl,_,_,rfl,.inl (SqL.of hf3),_,_,rfl,rfl,_,rfl,?_⟩
  rw[Acj]
  refine CJ (fun h=>?_) (fun h=>?_)
  ·have plt:pl<ps.length:=by omega
   refine⟨_,fun _ _ z=>z,?_⟩
   obtain⟨⟨u,b⟩,hu⟩:∃ q,ps[pl]?=some q:=⟨_,AjO plt⟩
   obtain⟨a0,ha0⟩:∃ a,dp[pl]?=some a:=⟨_,AjO (by rw[B.len];exact plt)⟩
   have uN:u<tss.length:=B.lt u b (AjT hu)
   have urs:u<rs.length:=by rw[N.l];exact uN
   refine⟨_,rfl,_,rfl,_,_,_,_,rfl,rfl,SqL.of hf3,Ahj hu,?_⟩
   have N3:=N.same s3
   have hrow:=N3.r u rs[u] tss[u] (AjO urs) (AjO uN)
   have eg:tss.getD u []=tss[u]:=by rw[AjV,AjO uN];rfl
   have au:atI (rs.map V.ref) (u:Int)=some (.ref rs[u]):=Bm (by omega) (by rw[AjW,Aka,AjO urs];rfl)
   refine⟨_,rfl,_,rfl,_,_,_,_,rfl,rfl,SqL.of N3.h,au,_,rfl,⟨_,SqL.of hrow⟩,DW (K:=K) (a:=rs[u]) (xs:=vI tss[u])
    (fun i σ H4=>∃(ps:List (Nat × Option Nat)) (dp:List Nat) (v6:Option V),σ=[some (.ref y),some (.int (s0:Int)),some (.ref d),some (.ref f),some (.int (pl:Int)),some (.int (u:Int)),v6]∧Av H H4∧H4 d=some (.dK (HB ps))∧H4 f=some (.lst (vF ps))∧Bf tss s0 ps dp∧Dn tss ps dp pl∧pl<ps.length∧ps[pl]?=some (u,b)∧dp[pl]?=some a0∧(∀ j x:Nat,dp[j]?=some x→x≤a0+1) ∧
     ∀ z∈(tss[u]).take i,∃(j:Nat) (c:Option Nat),ps[j]?=some (z.toNat,c))
    ⟨ps,dp,v6,rfl,s3,hd3,hf3,B,D,plt,hu,ha0,fun j x h1=>near j x a0 h1 ha0,fun z hz=>(by simp at hz)⟩ (fun i σ H4 _ ⟨_,_,_,_,s4,_⟩=>SqL.of ((N.same s4).r u rs[u] tss[u] (AjO urs) (AjO uN))) ?_ ?_⟩
   ·rintro i x σ H4 hx ⟨ps,dp,v6,rfl,s4,hd4,hf4,B,D,plt,hu,ha0,near,hall⟩
    obtain⟨z,hz,rfl⟩:=Nm hx
    have hzm:z∈tss.getD u []:=by rw[eg];exact AjT hz
    obtain⟨z0',z1⟩:=G u z hzm
    obtain⟨v,rfl⟩:∃ v:Nat,z=(v:Int):=⟨z.toNat,by omega⟩
    have step:∀{ps':List (Nat × Option Nat)},(∀(j:Nat) q,ps[j]?=some q→ps'[j]?=some q)→(∃(j:Nat) (c:Option Nat),ps'[j]?=some (v,c))→∀ z∈(tss[u]).take (i+1),∃(j:Nat) (c:Option Nat),ps'[j]?=some (z.toNat,c):=fun {ps'} mono hv z hz'=>by
     rw[Akp,hz] at hz'
     rcases List.mem_append.mp hz' with h | h
     ·obtain⟨j,c,g⟩:=hall z h
      exact⟨j,c,mono j _ g⟩
     ·have e:z=(v:Int):=by simpa using h
      rw[e,AjW]
      exact hv
    refine⟨_,rfl,_,rfl,d,_,rfl,Ht.k (k:=Sum.inl (v:Int)) hd4,_,rfl,?_⟩
    by_cases hin:∃(j:Nat) (c:Option Nat),ps[j]?=some (v,c)
    ·obtain⟨j,c,g⟩:=hin
     rw[B.val g]
     refine Hr ?_
     exact⟨ps,dp,_,rfl,s4,hd4,hf4,B,D,plt,hu,ha0,near,step (fun _ _ h=>h) ⟨j,c,g⟩⟩
    ·have new:∀(i:Nat) (a:Option Nat),ps[i]?≠some (v,a):=fun i a e=>hin ⟨i,a,e⟩
     have hno:GF (HB ps) (Sum.inl (v:Int))=none:=QF fun a ha=>by
      obtain⟨j,hj,e⟩:=Aky ha
      exact new j a (by rw[← e];exact AjO hj)
     have sm:=B.small
     rw[hno]
     refine Iu ?_
     refine⟨_,rfl,_,rfl,_,rfl,d,_,rfl,WQ.k (k:=Sum.inl (v:Int)) hd4 (by rw[Yb];omega),?_⟩
     rw[Ack ps v u hno]
     have s5:Av H (upd H4 d (.dK (HB (ps++[(v,some u)])))):=s4.over nd
     have hf5:(upd H4 d (.dK (HB (ps++[(v,some u)])))) f=some (.lst (vF ps)):=by rw[Aq dnf.symm];exact hf4
     have hd5:(upd H4 d (.dK (HB (ps++[(v,some u)])))) d=some (.dK (HB (ps++[(v,some u)]))):=Af
     generalize upd H4 d (.dK (HB (ps++[(v,some u)])))=H5 at s5 hf5 hd5 ⊢
     refine⟨_,rfl,.inl ⟨rfl,_,SqL.of hf5⟩,_,rfl,_,_,_,rfl,rfl,hf5,(by rw[Acj];omega),?_⟩
     rw[AfO ps v (some u)]
     refine⟨ps++[(v,some u)],dp++[a0+1],_,rfl,s5.over nfH,by rw[Aq dnf];exact hd5,Af,B.add hu ha0 near hzm (by omega) new,D.app B.len (by omega) _ _,by rw[AjR];omega,Hz hu,Hz ha0,fun j x h1=>?_,step (fun _ _ h=>Hz h) ⟨_,_,Xu _ _⟩⟩
     rcases IW h1 with ⟨_,g⟩ | ⟨_,g⟩
     ·exact near j x g
     ·omega
   ·rintro σ H4 ⟨ps,dp,v6,rfl,s4,hd4,hf4,B,D,plt,hu,ha0,Ae5,hall⟩
    rw[BR,Ak2] at hall
    have sm:=B.small
    refine⟨_,rfl,_,_,rfl,rfl,?_⟩
    refine⟨tss.length-(pl+1),by omega,pl+1,ps,dp,_,_,rfl,s4,hd4,hf4,B,fun i u' b' a' hi h1 h2 w hw=>?_,by omega,fun j x a h1 h2=>?_,rfl⟩
    ·by_cases e:i<pl
     ·exact D i u' b' a' e h1 h2 w hw
     ·have e:i=pl:=by omega
      subst e
      rw[hu] at h1
      rw[ha0] at h2
      cases h1
      cases h2
      rw[eg] at hw
      obtain⟨j,c,g⟩:=hall _ hw
      rw[AjW] at g
      have hj:j<dp.length:=by rw[B.len];exact(List.getElem?_eq_some_iff.mp g).1
      exact⟨j,c,dp[j],g,AjO hj,Ae5 j dp[j] (AjO hj)⟩
    ·have h3:=Ae5 j x h1
     have h4:=B.mono pl (pl+1) a0 a (by omega) ha0 h2
     omega
  ·have e:pl=ps.length:=by omega
   subst e
   exact⟨_,rfl,k d ps dp H3 s3 nd hd3 B D⟩
theorem AaG{α:Type}{l:List α}{p:α→Bool}{j:Nat}{z:α}(h:l[j]?=some z):(l.take (j+1)).filter p=(l.take j).filter p++(if p z=true then [z] else []):=by
 rw[Akp,h,Alo]
 congr 1
 show List.filter p [z]=_
 by_cases h:p z=true
 ·rw[if_pos h,Ala h];rfl
 ·rw[if_neg h,AkZ h];rfl
theorem AdH{tss:List (List Int)}{s:Nat}{ps:List (Nat × Option Nat)}{dp:List Nat}(B:Bf tss s ps dp)(v:Nat):(!(GF (HB ps) (Sum.inl (v:Int))).isSome)=decide (v∉ps.map (·.1)):=by
 by_cases h:v∈ps.map (·.1)
 ·obtain⟨j,c,g⟩:=VL h
  rw[B.val g,decide_eq_false (fun z=>z h)]
  rfl
 ·rw[QF fun a ha=>h (List.mem_map.mpr ⟨(v,a),ha,rfl⟩),decide_eq_true h]
  rfl
theorem Acl{ws:List Nat}{i:Nat}{x:V}(h:(vI (cI ws))[i]?=some x):∃ v,ws[i]?=some v∧x=.int (v:Int):=by
 obtain⟨z,hz,rfl⟩:=Nm h
 unfold cI at hz
 rw[Aka] at hz
 cases e:ws[i]? with
 | none=>rw[e] at hz;cases hz
 | some v=>rw[e] at hz;cases hz;exact⟨v,rfl,rfl⟩
theorem AfP{tss:List (List Int)}{ws:List Nat}(h:∀ v∈ws,v<tss.length):Gd (nar tss ws):=fun v z hz=>by
 obtain⟨_,h1,_⟩:=VJ.mp hz
 obtain⟨u,hu,rfl⟩:=List.mem_map.mp h1
 have:=h u hu
 rw[nar,O5]
 show(0:Int)≤(u:Int)∧(u:Int)<_
 omega
def Acm (K:PySem.W.Frag):Sp:=fun vs H Q _=>∃(y b:Addr) (rs:List Addr) (tss:List (List Int)) (ws:List Nat),vs=[.ref y,.ref b]∧NL H y rs (nar tss ws)∧SqL K H b (vI (cI ws))∧tss.length≤200∧NS tss.length ws ∧
 (Af4 tss ws→∀ H',Av H H'→Q .non H')∧(¬Af4 tss ws→∀(l:Addr) (fs:List Nat) (H':Hp),Av H H'→H l=none→H' l=some (.lst (vI (cI fs)))→Lf tss ws fs→Q (.ref l) H')
theorem Uo(T:Txt K mg t):BK P w K mg base CX0 2 t.Pg t.Ph ["lower", "strands"] (Acm K):=by
 refine T.Kh.F.ok Jl (fun vs H Q E h=>?_) (fun cdv A outer s H vs Q E hr h=>?_)
 ·obtain⟨y,b,rs,tss,ws,rfl,_⟩:=h
  rfl
 ·obtain⟨y,b,rs,tss,ws,rfl,N,hB,Ahk,W,k1,k2⟩:=h
  have hsz:sizeLine=16777216:=sizeLine_eq
  have wl:=W.len
  have nl:(nar tss ws).length=tss.length:=by rw[nar,O5]
  refine⟨_,(Ab (Cp PassesOwn.never rfl (Cz (K:=K) (pv 1)) (Bu (i:=2) Jl.nd rfl (Or.inl rfl))
    (Ab (Al (i:=3) Jl.nd rfl (Or.inr rfl) (An ((PQ T).mono (by decide)) hr rfl T.Hf.m T.Hf.F.kp T.Hf.b .nil Bv (Aa (pv 0) (Aa (pv 2) Ac))))
    (Ad (Bh (Ag Fj (Aj Aat rfl T.BW Bs (Aa (pv 3) Ac)) (Aj (Ar (K:=K)) rfl T.BW Bs (Aa (pv 1) Ac)) (Ak _))
     (Ad (Ba (Gm (Ei.mk (Bx:=[3]) (Nc:=["strand", "ahead"]) rfl (by decide +kernel) (by decide +kernel) (Dj (sc0:=Ai Ka) rfl (by decide +kernel)) rfl rfl rfl (by decide +kernel) (fun k j h=>match k,h with | 0,h=>by obtain rfl:=Option.some.inj h;exact⟨_,rfl,rfl,rfl⟩ | _+1,h=>by simp at h)) rfl (Cz (K:=K) (pv 1)) (fun _ _ _ _ _=>.one (Qf (Mg (Ia hr) (pv 0) (pv 1)))) (fun _ _ _ _ _=>(pv 0)))))
     Am))))
   (Ad (Ba Fd))),?_⟩
  refine⟨_,rfl,_,rfl,⟨_,hB⟩,DW (K:=K) (a:=b) (xs:=vI (cI ws)) (fun i σ H5=>∃(v2 v3:Option V),σ=[some (.ref y),some (.ref b),v2,v3]∧Av H H5∧∀ u∈ws.take i,∀ v∈ws,∃ L,Wy (nar tss ws) u L v)
   ⟨none,none,rfl,.refl _,fun u h=>(by simp at h)⟩ (fun i σ H5 _ ⟨_,_,_,s5,_⟩=>s5.seq hB) ?_ ?_⟩
  ·rintro i x σ H5 hx ⟨v2,v3,rfl,s5,hall⟩
   obtain⟨u,hu,rfl⟩:=Acl hx
   have um:=AjT hu
   refine⟨_,rfl,_,rfl,y,rs,nar tss ws,u,rfl,N.same s5,AfP W.lt,by omega,by rw[nl];exact W.lt u um,fun d ps dp H6 s6 nd hd B D=>?_⟩
   have u6:=s5.trans s6
   refine⟨_,rfl,d,_,rfl,hd,_,rfl,_,_,rfl,.inl (u6.seq hB),_,_,rfl,rfl,_,rfl,?_⟩
   rw[Yb,BR,SQ]
   refine CJ (fun h=>?_) (fun h=>?_)
   ·obtain⟨nc,L⟩:=B.lift D W um (by omega)
    refine⟨_,rfl,_,rfl,⟨_,u6.seq hB⟩,GP (K:=K) (a:=b) (xs:=vI (cI ws)) (fun j ys H7=>H7=H6∧ys=vI (cI ((ws.take j).filter fun v=>decide (v∉ps.map (·.1))))) ⟨rfl,rfl⟩ ?_ ?_ ?_ ?_⟩
    ·rintro j ys H7 hj ⟨rfl,rfl⟩
     refine⟨u6.seq hB,?_⟩
     rw[BR,SQ]
     have:=Alb (fun v=>decide (v∉ps.map (·.1))) (ws.take j)
     rw[Akf] at this
     omega
    ·rw[BR,SQ];omega
    ·rintro j xw ys H7 hj hxw ⟨rfl,rfl⟩
     obtain⟨v,hv,rfl⟩:=Acl hxw
     refine⟨_,rfl,_,rfl,d,_,rfl,Ht.k (k:=Sum.inl (v:Int)) hd,_,rfl,?_⟩
     rw[AdH B]
     have st:=AaG (p:=fun v=>decide (v∉ps.map (·.1))) hv
     refine CJ (fun h=>?_) (fun h=>?_)
     ·refine⟨_,rfl,?_⟩
      refine CN.of hj ⟨rfl,?_⟩
      rw[st,if_pos (decide_eq_true h)]
      unfold cI
      rw[AjY]
      exact Ie _ _
     ·refine CN.of hj ⟨rfl,?_⟩
      rw[st,decide_eq_false h,if_neg (by simp),AkR]
    ·rintro ys H7 q ⟨rfl,rfl⟩ hq
     rw[BR,SQ,Ak2]
     exact k2 nc q _ _ (u6.new hq) (u6.free hq) Af L
   ·refine⟨_,_,rfl,u6,fun u' hu' v hv=>?_⟩
    rw[Akp,hu] at hu'
    rcases List.mem_append.mp hu' with h' | h'
    ·exact hall u' h' v hv
    ·have e:u'=u:=by simpa using h'
     subst e
     obtain⟨j,c,g⟩:=B.full um (by omega) v hv
     have hj:j<dp.length:=by rw[B.len];exact(List.getElem?_eq_some_iff.mp g).1
     exact⟨_,(B.sound j v c dp[j] g (AjO hj)).1⟩
  ·rintro σ H5 ⟨v2,v3,rfl,s5,hall⟩
   rw[BR,SQ,Ak2] at hall
   exact k1 hall H5 s5
theorem T9{tss:List (List Int)}{u v:Nat}{k:List Int}(hu:u<tss.length):(tss.set u k).getD v []=if u=v then k else tss.getD v []:=by
 rw[AjV,List.getElem?_set]
 by_cases h:u=v
 ·subst h
  rw[if_pos rfl,if_pos rfl,if_pos hu]
  rfl
 ·rw[if_neg h,if_neg h,AjV]
theorem TF{z:Int}:∀{ks:List Int},z∈ks→∃ j:Nat,ks[j]?=some z∧∀ i:Nat,i<j→ks[i]?≠some z
 | a::ks,h=>by
  by_cases e:a=z
  ·exact⟨0,by rw[e];rfl,fun i hi=>absurd hi (Alc _)⟩
  ·rcases List.mem_cons.mp h with h | h
   ·exact absurd h.symm e
   ·obtain⟨j,h1,h2⟩:=TF h
    refine⟨j+1,h1,fun i hi=>?_⟩
    cases i with
    | zero=>exact fun z=>e (Option.some.inj z)
    | succ i=>exact h2 i (by omega)
theorem TJ{ks:List Int}{j:Nat}{z z':Int}(hj:ks[j]?=some z)(h:z'∈ks)(hn:z'≠z):z'∈ks.eraseIdx j:=by
 rw[List.mem_eraseIdx_iff_getElem?]
 obtain⟨i,hi,e⟩:=Aky h
 refine⟨i,fun z0=>?_,by rw[AjO hi,e]⟩
 rw[← z0,AjO hi,e] at hj
 exact hn (Option.some.inj hj)
theorem Vf{ks:List Int}{j:Nat}{z:Int}(hj:ks[j]?=some z):(ks.eraseIdx j).length+1=ks.length:=by
 have h:=(List.getElem?_eq_some_iff.mp hj).1
 rw[Alj,if_pos h]
 omega
theorem NL.Ai6{H:Hp}{y:Addr}{rs:List Addr}{tss:List (List Int)}(N:NL H y rs tss){v:Nat}(hv:v<rs.length):rs[v]≠y:=fun e=>by
 have ht:v<tss.length:=by rw[← N.l];exact hv
 have ha:=N.r v rs[v] tss[v] (AjO hv) (AjO ht)
 rw[e,N.h] at ha
 have e2:rs.map V.ref=vI tss[v]:=by injection ha with ha;injection ha
 have g1:(rs.map V.ref)[0]?=some (.ref rs[0]):=by rw[Aka,AjO (by omega)];rfl
 rw[e2] at g1
 obtain⟨z,_,e3⟩:=Nm g1
 cases e3
theorem NL.mut{H:Hp}{y:Addr}{rs:List Addr}{tss:List (List Int)}{ks:List Int}{v:Nat}(N:NL H y rs tss)(nd:rs.Nodup)(hv:v<rs.length):NL (upd H rs[v] (.lst (vI ks))) y rs (tss.set v ks):=by
 refine⟨by rw[Aq (N.Ai6 hv).symm];exact N.h,by rw[Ak8];exact N.l,fun i a ks' h1 h2=>?_⟩
 have ht:v<tss.length:=by rw[← N.l];exact hv
 by_cases e:v=i
 ·subst e
  rw[Ald ht] at h2
  rw[AjO hv] at h1
  cases h1
  cases h2
  exact Af
 ·rw[AkP e] at h2
  have hne:a≠rs[v]:=fun ea=>by
   have hi:=(List.getElem?_eq_some_iff.mp h1).1
   rw[AjO hi] at h1
   have h1:=Option.some.inj h1
   rw[← h1] at ea
   exact e ((List.getElem_inj nd).mp ea.symm)
  rw[Aq hne]
  exact N.r i a ks' h1 h2
def Frm (rs:List Addr)(H H':Hp):Prop:=∀(b:Addr) (o:HO),b∉rs→H b=some o→H' b=some o
theorem Frm.same{rs:List Addr}{H H1 H2:Hp}(F:Frm rs H H1)(s:Av H1 H2):Frm rs H H2:=fun b o hb e=>s _ _ (F b o hb e)
theorem Frm.mut{rs:List Addr}{H H1:Hp}{v:Nat}{o:HO}(F:Frm rs H H1)(hv:v<rs.length):Frm rs H (upd H1 rs[v] o):=fun b o' hb e=>by
 rw[Aq fun z=>hb (by rw[z];exact AjU hv)]
 exact F b o' hb e
structure Stl (tss PX:List (List Int)) (e pk:Nat):Prop where
 len:PX.length=tss.length
 sub:∀(u:Nat) (z:Int),z∈PX.getD u []→z∈tss.getD u []
 sh:∀ u:Nat,(PX.getD u []).length≤(tss.getD u []).length
 keep:∀(u:Nat) (z:Int),z∈tss.getD u []→(u=pk∧z=(e:Int))∨(u=e∧z=(pk:Int))∨z∈PX.getD u []
def Zc (K:PySem.W.Frag):Sp:=fun vs H Q _=>∃(y:Addr) (rs:List Addr) (tss:List (List Int)) (e pk:Nat),vs=[.ref y,.int (e:Int),.int (pk:Int)]∧NL H y rs tss∧rs.Nodup∧Gd tss∧tss.length≤200∧(∀ u:Nat,(tss.getD u []).length≤200)∧e<tss.length∧pk<tss.length∧e≠pk∧(e:Int)∈tss.getD pk []∧(pk:Int)∈tss.getD e [] ∧
 ∀(PX:List (List Int)) (H':Hp) (v:V),NL H' y rs PX→Frm rs H H'→Stl tss PX e pk→(v=.non∨∃ l,v=.ref l)→Q v H'
theorem AaH(T:Txt K mg t):BK P w K mg base CX0 2 t.X6 t.X7 ["lower", "end", "pick"] (Zc K):=by
 refine T.settle.F.ok U8 (fun vs H Q E h=>?_) (fun cdv A outer s H vs Q E hr h=>?_)
 ·obtain⟨y,rs,tss,e,pk,rfl,_⟩:=h
  rfl
 ·obtain⟨y,rs,tss,e,pk,rfl,N,nd,G,Ahk,r200,he,hpk,hne,m1,m2,k⟩:=h
  have hsz:sizeLine=16777216:=sizeLine_eq
  have lrs:=N.l
  have pr:pk<rs.length:=by omega
  have er:e<rs.length:=by omega
  have apk:atI (rs.map V.ref) (pk:Int)=some (.ref rs[pk]):=Bm (by omega) (by rw[AjW,Aka,AjO pr];rfl)
  have ae:atI (rs.map V.ref) (e:Int)=some (.ref rs[e]):=Bm (by omega) (by rw[AjW,Aka,AjO er];rfl)
  have rowAt:∀{H':Hp} {ts:List (List Int)} {u:Nat} (hu:u<rs.length),NL H' y rs ts→H' rs[u]=some (.lst (vI (ts.getD u []))):=fun {H' ts u} hu N'=>by
   have ht:u<ts.length:=by rw[← N'.l];exact hu
   have:=N'.r u rs[u] ts[u] (AjO hu) (AjO ht)
   rw[this,AjV,AjO ht]
   rfl
  obtain⟨j,hj,hno⟩:=TF m1
  have hrow:=rowAt pr N
  have el:=Vf hj
  have rl:=r200 pk
  refine⟨_,(Ab (Bp (Dh (K:=K) PySem.F.plainAttrs_list PySem.F.slot_list_remove PySem.F.type_list_remove U5 (Bb (Ay (K:=K)) (pv 0) (pv 2) (fun _ _=>rfl)) (Aa (pv 1) Ac)))
   (Ab (Al (i:=3) U8.nd rfl (Or.inr rfl) (An ((PQ T).mono (by decide)) hr rfl T.Hf.m T.Hf.F.kp T.Hf.b .nil Bv (Aa (pv 0) (Aa (pv 2) Ac))))
   (Ab (Bh (Qf (Ab5 (Ia hr) (pv 1) (pv 3)))
    (Ad (Ba Fd))
    Am)
   (Ab (Bp (Dh (K:=K) PySem.F.plainAttrs_list PySem.F.slot_list_append PySem.F.type_list_append CQ (Bb (Ay (K:=K)) (pv 0) (pv 2) (fun _ _=>rfl)) (Aa (pv 1) Ac)))
   (Ab (Bp (Dh (K:=K) PySem.F.plainAttrs_list PySem.F.slot_list_remove PySem.F.type_list_remove U5 (Bb (Ay (K:=K)) (pv 0) (pv 1) (fun _ _=>rfl)) (Aa (pv 2) Ac)))
   (Ad (Ba (Gm (Ei.mk (Bx:=[3]) (Nc:=["strand", "ahead"]) rfl (by decide +kernel) (by decide +kernel) (Dj (sc0:=Ai Tf) rfl (by decide +kernel)) rfl rfl rfl (by decide +kernel) (fun k j h=>match k,h with | 0,h=>by obtain rfl:=Option.some.inj h;exact⟨_,rfl,rfl,rfl⟩ | _+1,h=>by simp at h)) rfl (BZ rfl T.Dc (Aa (Aj (Ar (K:=K)) rfl T.BW Bs (Aa (pv 0) Ac)) Ac)) (fun _ _ _ _ _=>.one (Qf (Mg (Ia hr) (pv 0) (pv 1)))) (fun _ _ _ _ _=>(pv 0)))))))))),?_⟩
  refine⟨_,rfl,_,rfl,_,_,_,_,rfl,rfl,SqL.of N.h,apk,.inl ⟨rfl,_,SqL.of hrow⟩,_,rfl,rs[pk],tss.getD pk [],(e:Int),j,rfl,rfl,hrow,hj,hno,by omega,?_⟩
  have N1:=N.mut (ks:=(tss.getD pk []).eraseIdx j) nd pr
  have F1:Frm rs H (upd H rs[pk] (.lst (vI ((tss.getD pk []).eraseIdx j)))):=Frm.mut (fun _ _ _ z=>z) pr
  obtain⟨ts1,e1⟩:∃ x,x=tss.set pk ((tss.getD pk []).eraseIdx j):=⟨_,rfl⟩
  have g1:∀ v,ts1.getD v []=if pk=v then (tss.getD pk []).eraseIdx j else tss.getD v []:=fun v=>by rw[e1];exact T9 hpk
  have l1:ts1.length=tss.length:=by rw[e1,Ak8]
  rw[← e1] at N1
  generalize upd H rs[pk] (.lst (vI ((tss.getD pk []).eraseIdx j)))=H1 at N1 F1 ⊢
  have S1:Stl tss ts1 e pk:=by
   refine⟨l1,fun u z hz=>?_,fun u=>?_,fun u z hz=>?_⟩
   ·rw[g1] at hz
    by_cases h:pk=u
    ·rw[if_pos h] at hz;rw[← h];exact List.mem_of_mem_eraseIdx hz
    ·rw[if_neg h] at hz;exact hz
   ·rw[g1]
    by_cases h:pk=u
    ·rw[if_pos h,← h];omega
    ·rw[if_neg h];exact AjQ _
   ·by_cases h:pk=u
    ·subst h
     by_cases hz':z=(e:Int)
     ·exact .inl ⟨rfl,hz'⟩
     ·refine .inr (.inr ?_)
      rw[g1,if_pos rfl]
      exact TJ hj hz hz'
    ·refine .inr (.inr ?_)
     rw[g1,if_neg h]
     exact hz
  have G1:Gd ts1:=fun u z hz=>by
   have:=G u z (S1.sub u z hz)
   rw[l1]
   exact this
  refine⟨_,rfl,_,rfl,y,rs,ts1,pk,rfl,N1,G1,by omega,by omega,fun d ps dp H2 s2 ndd hd B D=>?_⟩
  have N2:=N1.same s2
  have F2:=F1.same s2
  have Ahl:∀{v:Nat} (hv:v<rs.length),d≠rs[v]:=fun {v} hv z=>N1.isS (AjU hv) (by rw[← z];exact ndd)
  refine⟨_,rfl,_,rfl,d,_,rfl,Ht.k (k:=Sum.inl (e:Int)) hd,_,rfl,?_⟩
  cases hval:GF (HB ps) (Sum.inl (e:Int)) with
  | some o =>
   refine Iu ?_
   exact k ts1 H2 .non N2 F2 S1 (.inl rfl)
  | none =>
   refine Hr ?_
   have Ae6:=rowAt pr N2
   have rl1:=S1.sh pk
   refine⟨_,rfl,_,rfl,_,_,_,_,rfl,rfl,SqL.of N2.h,apk,.inl ⟨rfl,_,SqL.of Ae6⟩,_,rfl,_,_,_,rfl,rfl,Ae6,(by rw[BR];omega),?_⟩
   rw[Ie]
   have N3:=N2.mut (ks:=ts1.getD pk []++[(e:Int)]) nd pr
   have F3:=F2.mut (o:=.lst (vI (ts1.getD pk []++[(e:Int)]))) pr
   have hd3:(upd H2 rs[pk] (.lst (vI (ts1.getD pk []++[(e:Int)])))) d=some (.dK (HB ps)):=by rw[Aq (Ahl pr)];exact hd
   obtain⟨ts2,e2⟩:∃ x,x=ts1.set pk (ts1.getD pk []++[(e:Int)]):=⟨_,rfl⟩
   have g2:∀ v,ts2.getD v []=if pk=v then ts1.getD pk []++[(e:Int)] else ts1.getD v []:=fun v=>by rw[e2];exact T9 (by omega)
   have l2:ts2.length=tss.length:=by rw[e2,Ak8];exact l1
   rw[← e2] at N3
   generalize upd H2 rs[pk] (.lst (vI (ts1.getD pk []++[(e:Int)])))=H3 at N3 F3 hd3 ⊢
   have pe:¬pk=e:=fun z=>hne z.symm
   have ge:ts2.getD e []=tss.getD e []:=by rw[g2,if_neg pe,g1,if_neg pe]
   have m3:(pk:Int)∈ts2.getD e []:=by rw[ge];exact m2
   obtain⟨j',hj',hno'⟩:=TF m3
   have Ae7:=rowAt er N3
   have el':=Vf hj'
   have re:=r200 e
   rw[← ge] at re
   refine⟨_,rfl,_,rfl,_,_,_,_,rfl,rfl,SqL.of N3.h,ae,.inl ⟨rfl,_,SqL.of Ae7⟩,_,rfl,rs[e],ts2.getD e [],(pk:Int),j',rfl,rfl,Ae7,hj',hno',by omega,?_⟩
   have N4:=N3.mut (ks:=(ts2.getD e []).eraseIdx j') nd er
   have F4:=F3.mut (o:=.lst (vI ((ts2.getD e []).eraseIdx j'))) er
   have hd4:(upd H3 rs[e] (.lst (vI ((ts2.getD e []).eraseIdx j')))) d=some (.dK (HB ps)):=by rw[Aq (Ahl er)];exact hd3
   obtain⟨ts3,e3⟩:∃ x,x=ts2.set e ((ts2.getD e []).eraseIdx j'):=⟨_,rfl⟩
   have g3:∀ v,ts3.getD v []=if e=v then (ts2.getD e []).eraseIdx j' else ts2.getD v []:=fun v=>by rw[e3];exact T9 (by omega)
   have l3:ts3.length=tss.length:=by rw[e3,Ak8];exact l2
   rw[← e3] at N4
   generalize upd H3 rs[e] (.lst (vI ((ts2.getD e []).eraseIdx j')))=H4 at N4 F4 hd4 ⊢
   have S3:Stl tss ts3 e pk:=by
    refine⟨l3,fun u z hz=>?_,fun u=>?_,fun u z hz=>?_⟩
    ·rw[g3] at hz
     by_cases h:e=u
     ·rw[if_pos h] at hz;rw[← h,← ge];exact List.mem_of_mem_eraseIdx hz
     ·rw[if_neg h,g2] at hz
      by_cases h':pk=u
      ·rw[if_pos h'] at hz
       rw[← h']
       rcases List.mem_append.mp hz with q | q
       ·exact S1.sub pk z q
       ·rw[List.mem_singleton.mp q];exact m1
      ·rw[if_neg h'] at hz
       exact S1.sub u z hz
    ·rw[g3]
     by_cases h:e=u
     ·rw[if_pos h,← h,← ge];omega
     ·rw[if_neg h,g2]
      by_cases h':pk=u
      ·rw[if_pos h',← h',AjR,g1,if_pos rfl,Akt]
       omega
      ·rw[if_neg h']
       exact S1.sh u
    ·by_cases h:e=u
     ·subst h
      by_cases hz':z=(pk:Int)
      ·exact .inr (.inl ⟨rfl,hz'⟩)
      ·refine .inr (.inr ?_)
       rw[g3,if_pos rfl]
       exact TJ hj' (by rw[ge];exact hz) hz'
     ·rcases S1.keep u z hz with q | q | q
      ·refine .inr (.inr ?_)
       rw[g3,if_neg h,g2,if_pos q.1.symm,q.2]
       exact Ako _ Ake
      ·exact absurd q.1.symm h
      ·refine .inr (.inr ?_)
       rw[g3,if_neg h,g2]
       by_cases h':pk=u
       ·rw[if_pos h',h'];exact AkB _ q
       ·rw[if_neg h'];exact q
   have lN:(rs.map V.ref).length=tss.length:=by rw[AjP];exact lrs
   refine⟨_,rfl,_,_,rfl,.inl (SqL.of N4.h),_,rfl,(by omega),(by rw[lN];omega),?_⟩
   rw[AjW,lN]
   refine Fo (lo:=0) (n:=tss.length) (fun i ys H5=>H5=H4∧ys.length≤i) ⟨rfl,AjQ _⟩ ?_ ?_ ?_ ?_
   ·rintro i ys H5 hi ⟨rfl,hy⟩
    exact hy
   ·omega
   ·rintro i ys H5 hi ⟨rfl,hy⟩
    refine⟨_,rfl,_,rfl,d,_,rfl,Ht.k (k:=Sum.inl (0+(i:Int))) hd4,_,rfl,?_⟩
    refine Aie (fun _=>?_) (fun _=>?_)
    ·refine⟨_,rfl,?_⟩
     refine CN.of hi ⟨rfl,?_⟩
     rw[AjR]
     show _+1≤_
     omega
    ·exact CN.of hi ⟨rfl,by omega⟩
   ·rintro ys H5 q ⟨rfl,hy⟩ hq
    have s6:Av H5 (upd H5 q (.lst ys)):=.upd hq
    exact k ts3 _ (.ref q) (N4.same s6) (F4.same s6) S3 (.inr ⟨q,rfl⟩)
theorem Acn(a b:List (List Nat)):vS a++vS b=vS (a++b):=by unfold vS;rw[AjY]
theorem Aco(us:List Nat):(((us.map fun c=>[c]).map tx).map (·.length)).sum=us.length:=by
 induction us with
 | nil=>rfl
 | cons a us ih =>
  rw[AjX,AjX,AjX,List.sum_cons,ih,Ax,Aks]
  show 1+us.length=us.length+1
  omega
theorem AaI(us:List Nat):(us.map fun c=>[c]).flatten=us:=by
 induction us with
 | nil=>rfl
 | cons a us ih=>show[a]++_=_;rw[ih];rfl
theorem Ahm{cl:List (List Nat)}{m n i j:Nat}(C:Hc cl m n)(hi:i<n)(hj:j<m):Sq3 (sg2 cl i j):=by
 have hil:i<cl.length:=by rw[C.hn];exact hi
 have e3:cl.getD i []=cl[i]:=by rw[AjV,AjO hil];rfl
 have hm:=C.hm cl[i] (AjU hil)
 unfold sg2
 rw[e3,AjV,AjO (by rw[hm];exact hj)]
 exact C.sg cl[i] (AjU hil) _ (AjU _)
theorem Yc{cl:List (List Nat)}{m n:Nat}(C:Hc cl m n):Gd (lows cl m):=fun v z hz=>by
 have hn:=C.hn
 have ll:=O4 cl m
 by_cases h:v<m+cl.length
 ·by_cases h1:v<m
  ·rw[AjV,SN h1] at hz
   obtain⟨p,hp,_,e⟩:=Xo.mp hz
   rw[ll,e]
   omega
  ·have e:v=m+(v-m):=by omega
   have hp:v-m<cl.length:=by omega
   rw[e,AjV,Qs hp] at hz
   obtain⟨q,hq,_,e⟩:=Xp.mp hz
   rw[ll,e]
   omega
 ·rw[AjV,Akz (by rw[ll];omega)] at hz
  simp at hz
theorem Yd{cl:List (List Nat)}{m n:Nat}(C:Hc cl m n)(u:Nat):((lows cl m).getD u []).length≤200:=by
 have c2:=C.n40
 have c4:=C.m40
 have hn:=C.hn
 by_cases h:u<m+cl.length
 ·by_cases h1:u<m
  ·rw[AjV,SN h1]
   have:=Xq cl m u cl.length
   show(Mv cl m u cl.length).length≤200
   omega
  ·have e:u=m+(u-m):=by omega
   have hp:u-m<cl.length:=by omega
   rw[e,AjV,Qs hp]
   have:=Xr cl[u-m] m
   show(lowP cl[u-m] m).length≤200
   omega
 ·rw[AjV,Akz (by rw[O4];omega)]
  exact Akb _
theorem AdI{tss:List (List Int)}(G:Gd tss):nar tss (List.range tss.length)=tss:=by
 refine Alk fun v=>?_
 by_cases h:v<tss.length
 ·rw[nar,Xw h,if_pos (List.mem_range.mpr h),AjO h]
  have eg:tss.getD v []=tss[v]:=by rw[AjV,AjO h];rfl
  rw[Ad2,eg]
  refine congrArg some (List.filter_eq_self.mpr fun z hz=>decide_eq_true ?_)
  have:=G v z (by rw[eg];exact hz)
  have e:z=((z.toNat:Nat):Int):=by omega
  rw[e]
  exact YS.mpr (List.mem_range.mpr (by omega))
 ·rw[Akz (by rw[nar,O5];omega),Akz (by omega)]
theorem Acp{N:Nat}(h:1≤N):NS N (List.range N):=by
 refine⟨fun e=>?_,List.pairwise_lt_range,fun v hv=>List.mem_range.mp hv⟩
 have:=congrArg List.length e
 rw[Akh] at this
 simp at this
 omega
theorem Frm.keep{rs:List Addr}{H0 H H':Hp}(F:Frm rs H H')(s:Av H0 H)(fr:Frs H0 rs):Av H0 H':=fun b o e=>F b o (fun z=>by rw[fr.2 b z] at e;cases e) (s _ _ e)
structure Qa (cl:List (List Nat)) (m n:Nat) (tss:List (List Int)) (i j:Nat):Prop where
 len:tss.length=m+n
 gd:Gd tss
 sh:∀ u:Nat,(tss.getD u []).length≤200
 op:∀ i' e':Nat,i'<n→e'<m→sg2 cl i' e'=63→(i<i'∨(i=i'∧j≤e'))→(e':Int)∈tss.getD (m+i') []∧((m+i':Nat):Int)∈tss.getD e' []
theorem Qa.start{cl:List (List Nat)}{m n:Nat}(C:Hc cl m n):Qa cl m n (lows cl m) 0 0:=by
 have hn:=C.hn
 refine⟨by rw[O4,C.hn],Yc C,Yd C,fun i e hi he hs _=>⟨?_,?_⟩⟩
 ·have hl:i<cl.length:=by omega
  rw[AjV,Qs hl]
  refine Xp.mpr ⟨e,he,fun z=>?_,rfl⟩
  have e1:cl.getD i []=cl[i]:=by rw[AjV,AjO hl];rfl
  unfold sg2 at hs
  rw[e1,z] at hs
  cases hs
 ·rw[AjV,SN he]
  refine Xo.mpr ⟨i,by omega,fun z=>?_,by omega⟩
  rw[hs] at z
  cases z
theorem Qa.skip{cl:List (List Nat)}{m n:Nat}{tss:List (List Int)}{i j:Nat}(P:Qa cl m n tss i j):Qa cl m n tss i (j+1) :=
 ⟨P.len,P.gd,P.sh,fun i' e' h1 h2 h3 h4=>P.op i' e' h1 h2 h3 (by omega)⟩
theorem Qa.next{cl:List (List Nat)}{m n:Nat}{tss:List (List Int)}{i:Nat}(P:Qa cl m n tss i m):Qa cl m n tss (i+1) 0 :=
 ⟨P.len,P.gd,P.sh,fun i' e' h1 h2 h3 h4=>P.op i' e' h1 h2 h3 (by omega)⟩
theorem Qa.step{cl:List (List Nat)}{m n:Nat}{tss PX:List (List Int)}{i j:Nat}(P:Qa cl m n tss i j)(S:Stl tss PX j (m+i))(hj:j<m):Qa cl m n PX i (j+1):=by
 refine⟨by rw[S.len,P.len],fun u z hz=>?_,fun u=>Akg (S.sh u) (P.sh u),fun i' e' h1 h2 h3 h4=>?_⟩
 ·have:=P.gd u z (S.sub u z hz)
  rw[S.len]
  exact this
 ·obtain⟨q1,q2⟩:=P.op i' e' h1 h2 h3 (by omega)
  refine⟨?_,?_⟩
  ·rcases S.keep _ _ q1 with h | h | h
   ·omega
   ·omega
   ·exact h
  ·rcases S.keep _ _ q2 with h | h | h
   ·omega
   ·omega
   ·exact h
theorem NL.out{H:Hp}{y q:Addr}{rs:List Addr}{tss:List (List Int)}{o:HO}(N:NL H y rs tss)(h1:q∉rs)(h2:q≠y):NL (upd H q o) y rs tss :=
 ⟨by rw[Aq h2.symm];exact N.h,N.l,fun i a ks g1 g2=>by rw[Aq fun z=>h1 (by rw[← z];exact AjT g1)];exact N.r i a ks g1 g2⟩
def AdJ (K:PySem.W.Frag):Sp:=fun vs H Q _=>∃(a:Addr) (cl:List (List Nat)) (m n:Nat),vs=[.ref a]∧SqL K H a (vS cl)∧Hc cl m n ∧
 (∀(p l:Addr) (H':Hp),Av H H'→H' p=some (.tup [.str "cut", .ref l])→Q (.ref p) H') ∧
 (∀(p lr lf:Addr) (cf:List (List Nat)) (H':Hp),Av H H'→H' p=some (.tup [.str "cloth", .ref lr,.ref lf])→H' lr=some (.lst (vS cf))→Cl cf m n→Q (.ref p) H')
theorem Qc(T:Txt K mg t):BK P w K mg base CX0 4 t.JF t.JG ["half"] (AdJ K):=by
 refine T.GC.F.ok Bw (fun vs H Q E h=>?_) (fun cdv A outer s H vs Q E hr h=>?_)
 ·obtain⟨a,cl,m,n,rfl,_⟩:=h
  rfl
 ·obtain⟨a,cl,m,n,rfl,hS,C,Ai7,fin⟩:=h
  have hsz:sizeLine=16777216:=sizeLine_eq
  refine⟨_,(Ab (Al (i:=1) Bw.nd rfl (Or.inl rfl) (An ((QC T).mono (by decide)) hr rfl T.Hm.m T.Hm.F.kp T.Hm.b .nil Bv (Aa (pv 0) Ac)))
   (Ab (Al (i:=2) Bw.nd rfl (Or.inl rfl) (An ((QD T).mono (by decide)) hr rfl T.Hj.m T.Hj.F.kp T.Hj.b .nil Bv (Aa (pv 0) Ac)))
   (Ab (Al (i:=3) Bw.nd rfl (Or.inl rfl) (An ((Uo T).mono (by decide)) hr rfl T.Kh.m T.Kh.F.kp T.Kh.b .nil Bv (Aa (pv 2) (Aa (FP Y6 rfl T.Ii Hg (Aa (FP Aa7 rfl T.Dc Abw (Aa (Bg DY (Bb (BX (K:=K)) (pv 1) Ae (fun _ _=>rfl)) (Bb (BX (K:=K)) (pv 1) Ae (fun _ _=>rfl))) Ac)) Ac)) Ac))))
   (Ab (Bh (Ag Rx (pv 3) Fd (Ak _))
    (Ad (Ba (Eh (Aa Az (Aa (pv 3) Ac)))))
    Am)
   (Ab (Al (i:=4) Bw.nd rfl (Or.inl rfl) (Fl Ac))
   (Ab (Al (i:=5) Bw.nd rfl (Or.inl rfl) (Fl Ac))
   (Ab (Cp PassesOwn.never rfl (BZ rfl T.Dc (Aa (Bb (BX (K:=K)) (pv 1) Ae (fun _ _=>rfl)) Ac)) (Bu (i:=6) Bw.nd rfl (Or.inl rfl))
    (Ab (Al (i:=7) Bw.nd rfl (Or.inl rfl) (Fl Ac))
    (Ab (Cp PassesOwn.never rfl (BZ rfl T.Dc (Aa (Bb (BX (K:=K)) (pv 1) Ae (fun _ _=>rfl)) Ac)) (Bu (i:=8) Bw.nd rfl (Or.inl rfl))
     (Ab (Al (i:=9) Bw.nd rfl (Or.inl rfl) (Bb Fe (Bb (Ay (K:=K)) (pv 0) (pv 6) (fun _ _=>rfl)) (pv 8) (fun _ _=>rfl)))
     (Ab (Bh (Ag Cy (pv 9) Az (Ak _))
      (Ab (Al (i:=10) Bw.nd rfl (Or.inl rfl) (An ((AaH T).mono (by decide)) hr rfl T.settle.m T.settle.F.kp T.settle.b .nil Bv (Aa (pv 2) (Aa (pv 8) (Aa (Bg DY (Bb (BX (K:=K)) (pv 1) Ae (fun _ _=>rfl)) (pv 6)) Ac)))))
      (Ab (Al (i:=9) Bw.nd rfl (Or.inl rfl) (Om (Ag R9 (pv 10) Fd (Ak _)) Az Az))
      (Ad (Bh (Ag Rx (pv 10) Fd (Ak _))
       (Ad (Bp (Dh (K:=K) PySem.F.plainAttrs_list PySem.F.slot_list_append PySem.F.type_list_append CQ (pv 5) (Aa (Eh (Aa (pv 6) (Aa (pv 8) (Aa (pv 10) Ac)))) Ac))))
       Am))))
      Am)
     (Ad (Bp (Dh (K:=K) PySem.F.plainAttrs_list PySem.F.slot_list_append PySem.F.type_list_append CQ (pv 7) (Aa (pv 9) Ac)))))))
    (Ad (Bp (Dh (K:=K) PySem.F.plainAttrs_list PySem.F.slot_list_append PySem.F.type_list_append CQ (pv 4) (Aa (Dh (K:=K) PySem.F.plainAttrs_str PySem.F.slot_str_join PySem.F.type_str_join (Jx (K:=K)) Az (Aa (pv 7) Ac)) Ac)))))))
   (Ad (Ba (Eh (Aa Az (Aa (pv 4) (Aa (pv 5) Ac))))))))))))),?_⟩
  refine⟨_,rfl,a,cl,m,n,rfl,hS,C,fun p np=>?_⟩
  have c1:=C.n2
  have c2:=C.n40
  have c3:=C.m2
  have c4:=C.m40
  have ll:(lows cl m).length=m+n:=by rw[O4,C.hn]
  have s1:Av H (upd H p (.tup [.int (m:Int),.int (n:Int)])):=.upd np
  have hp1:(upd H p (.tup [.int (m:Int),.int (n:Int)])) p=some (.tup [.int (m:Int),.int (n:Int)]):=Af
  generalize upd H p (.tup [.int (m:Int),.int (n:Int)])=H1 at s1 hp1 ⊢
  have t0:atI [V.int (m:Int),V.int (n:Int)] 0=some (.int (m:Int)):=Bm (by decide) rfl
  have t1:atI [V.int (m:Int),V.int (n:Int)] 1=some (.int (n:Int)):=Bm (by decide) rfl
  refine⟨_,rfl,a,cl,m,n,rfl,s1.seq hS,C,fun y rs H2 s2 N F ny=>?_⟩
  have hp2:=s2 _ _ hp1
  obtain⟨r1,r2,r3⟩:=Adw (n:=m+n) (by omega)
  refine⟨_,rfl,_,rfl,_,_,_,_,rfl,rfl,SqT.of hp2,t0,_,rfl,_,_,_,_,rfl,rfl,SqT.of hp2,t1,_,_,rfl,rfl,?_⟩
  dsimp only
  rw[show(m:Int)+(n:Int)=((m+n:Nat):Int) by omega]
  refine⟨_,rfl,fun r nr=>?_⟩
  refine⟨r,0,((m+n:Nat):Int),1,m+n,rfl,Af,r2,r1,by omega,fun l nl=>?_⟩
  rw[r3]
  have s3:Av H2 (upd (upd H2 r (Y4 r 0 ((m+n:Nat):Int) 1)) l (.lst (vI ((List.range (m+n)).map fun(i:Nat)=>((i:Nat):Int))))):=(Av.upd nr).new nl
  have hl3:(upd (upd H2 r (Y4 r 0 ((m+n:Nat):Int) 1)) l (.lst (vI ((List.range (m+n)).map fun(i:Nat)=>((i:Nat):Int))))) l=some (.lst (vI (cI (List.range (m+n))))):=Af
  generalize upd (upd H2 r (Y4 r 0 ((m+n:Nat):Int) 1)) l (.lst (vI ((List.range (m+n)).map fun(i:Nat)=>((i:Nat):Int))))=H3 at s3 hl3 ⊢
  refine⟨y,l,rs,lows cl m,List.range (m+n),rfl,by rw[← ll,AdI (Yc C)];exact N.same s3,SqL.of hl3,by omega,by rw[ll];exact Acp (by omega),fun hc H4 s4=>?_,fun hc lc fs H4 s4 nlc hlc L=>?_⟩
  rotate_left
  ·refine⟨_,rfl,rfl,_,rfl,?_⟩
   refine M5 (fun z=>nomatch z) ?_
   refine⟨_,rfl,(by show 2≤sizeLine;decide),fun q nq=>?_⟩
   exact Ai7 q _ _ (((s1.trans s2).trans (s3.trans s4)).new nq) Af
  refine⟨_,rfl,rfl,_,rfl,?_⟩
  refine Gz rfl ?_
  have v4:=s3.trans s4
  have u4:=(s1.trans s2).trans v4
  have N4:=N.same v4
  have hp4:=v4 _ _ hp2
  have FH:Frs H rs:=⟨F.1,fun r hr'=>s1.free (F.2 r hr')⟩
  have pno:p∉rs:=fun z=>by rw[F.2 p z] at hp1;cases hp1
  clear s3 s4 v4 hl3 nl nr r1 r2 r3 N hp2 hc s2 hp1 s1 F
  refine⟨Akb _,fun qr nqr=>?_⟩
  have s5:Av H4 (upd H4 qr (.lst [])):=.upd nqr
  have Acq:(upd H4 qr (.lst [])) qr=some (.lst []):=Af
  have Ahn:qr∉rs:=fun z=>N4.isS z nqr
  have qry:qr≠y:=fun z=>by have:=N4.h;rw[← z,nqr] at this;cases this
  have pqr:p≠qr:=fun z=>by rw[z,nqr] at hp4;cases hp4
  have Ai8:=u4.free nqr
  generalize upd H4 qr (.lst [])=H5 at s5 Acq ⊢
  have N5:=N4.same s5
  refine⟨Akb _,fun qf nqf=>?_⟩
  have s6:Av H5 (upd H5 qf (.lst [])):=.upd nqf
  have AfQ:(upd H5 qf (.lst [])) qf=some (.lst []):=Af
  have Aho:qf∉rs:=fun z=>N5.isS z nqf
  have qfy:qf≠y:=fun z=>by have:=N5.h;rw[← z,nqf] at this;cases this
  have pqf:p≠qf:=fun z=>by have:=s5 _ _ hp4;rw[z,nqf] at this;cases this
  have Ai9:=(u4.trans s5).free nqf
  have qrf:qr≠qf:=fun z=>by rw[z,nqf] at Acq;cases Acq
  generalize upd H5 qf (.lst [])=H6 at s6 AfQ ⊢
  have N6:=N5.same s6
  have Ahp:=s6 _ _ Acq
  have hp6:=(s5.trans s6) _ _ hp4
  have u6:=u4.trans (s5.trans s6)
  clear s5 s6 Acq N5 N4 hp4 u4 nqr nqf
  refine⟨_,rfl,_,_,_,_,rfl,rfl,SqT.of hp6,t1,_,rfl,(by omega),(by omega),?_⟩
  rw[AjW]
  refine Du (lo:=0) (n:=n) (fun i σ H7=>∃(tss:List (List Int)) (cf:List (List Nat)) (zs:List V) (v6 v7 v8 v9 v10:Option V),σ=[some (.ref a),some (.ref p),some (.ref y),some .non,some (.ref qr),some (.ref qf),v6,v7,v8,v9,v10]∧Av H H7∧NL H7 y rs tss∧H7 p=some (.tup [.int (m:Int),.int (n:Int)])∧H7 qr=some (.lst (vS cf))∧cf.length=i∧(∀ u∈cf,u.length=m∧∀ c∈u,Sg c)∧H7 qf=some (.lst zs)∧zs.length≤i*40∧Qa cl m n tss i 0)
   ⟨lows cl m,[],[],none,none,none,none,none,rfl,u6,N6,hp6,Ahp,rfl,(fun u hu=>by simp at hu),AfQ,Akb _,Qa.start C⟩ ?_ ?_
  ·clear u6 N6 hp6 Ahp AfQ
   rintro i σ H7 hi ⟨tss,cf,zs,v6,v7,v8,v9,v10,rfl,u7,N7,hp7,AaJ,cfl,cfs,Acr,zl,P7⟩
   refine⟨Akb _,fun qs nqs=>?_⟩
   have s8:Av H7 (upd H7 qs (.lst [])):=.upd nqs
   have AfR:(upd H7 qs (.lst [])) qs=some (.lst (vS (([]:List Nat).map fun c=>[c]))):=Af
   have AdK:qs∉rs:=fun z=>N7.isS z nqs
   have qsy:qs≠y:=fun z=>by have:=N7.h;rw[← z,nqs] at this;cases this
   have pqs:p≠qs:=fun z=>by rw[z,nqs] at hp7;cases hp7
   have AfS:=u7.free nqs
   have qsr:qr≠qs:=fun z=>by rw[z,nqs] at AaJ;cases AaJ
   have qsf:qf≠qs:=fun z=>by rw[z,nqs] at Acr;cases Acr
   generalize upd H7 qs (.lst [])=H8 at s8 AfR ⊢
   have hp8:=s8 _ _ hp7
   refine⟨_,rfl,_,_,_,_,rfl,rfl,SqT.of hp8,t0,_,rfl,(by omega),(by omega),?_⟩
   rw[AjW]
   refine Du (lo:=0) (n:=m) (fun j σ H9=>∃(tss:List (List Int)) (us:List Nat) (zs:List V) (v8 v9 v10:Option V),σ=[some (.ref a),some (.ref p),some (.ref y),some .non,some (.ref qr),some (.ref qf),some (.int (0+(i:Int))),some (.ref qs),v8,v9,v10]∧Av H H9∧NL H9 y rs tss∧H9 p=some (.tup [.int (m:Int),.int (n:Int)])∧H9 qr=some (.lst (vS cf))∧H9 qf=some (.lst zs)∧zs.length≤i*40+j∧Qa cl m n tss i j∧H9 qs=some (.lst (vS (us.map fun c=>[c])))∧us.length=j∧∀ c∈us,Sg c)
    ⟨tss,[],zs,_,_,_,rfl,u7.trans s8,N7.same s8,hp8,s8 _ _ AaJ,s8 _ _ Acr,zl,P7,AfR,rfl,(fun c hc=>by simp at hc)⟩ ?_ ?_
   ·clear s8 AfR hp8 u7 N7 hp7 AaJ Acr zl P7 tss zs v8 v9 v10
    rintro j σ H9 hj ⟨tss,us,zs,v8,v9,v10,rfl,u9,N9,hp9,Acs,AdL,zl,P9,Acu,usl,uss⟩
    have AfT:∀ z:Nat,Sg z→∀ c∈us++[z],Sg c:=fun z hz c hc=>by
     rcases List.mem_append.mp hc with h | h
     ·exact uss c h
     ·rw[List.mem_singleton.mp h];exact hz
    have AfU:∀ z:Nat,vS (us.map fun c=>[c])++[.str ⟨#[z]⟩]=vS ((us++[z]).map fun c=>[c]):=fun z=>by rw[AjY,← Acn];rfl
    have AfV:∀ z:Nat,(us++[z]).length=j+1:=fun z=>by rw[AjR,usl];rfl
    have usz:(vS (us.map fun c=>[c])).length<sizeLine:=by rw[BJ,AjP];omega
    obtain⟨e1,l1'⟩:=Ae4 C hi
    have e2:=T8 (u:=cl.getD i []) (e:=j) (by rw[l1'];exact hj)
    refine⟨_,rfl,_,rfl,_,_,_,_,rfl,rfl,u9.seq hS,e1,_,rfl,_,_,_,rfl,rfl,(by rw[Ax,l1'];exact Hw c4),e2,?_⟩
    refine⟨_,rfl,rfl,_,rfl,?_⟩
    by_cases hs:sg2 cl i j=63
    ·have hs':(cl.getD i []).getD j 0=63:=hs
     refine Ej (by rw[hs'];exact e63) ?_
     obtain⟨q1,q2⟩:=P9.op i j hi hj hs (.inr ⟨rfl,AjQ _⟩)
     have pl:=P9.len
     refine⟨_,rfl,_,rfl,_,rfl,_,_,_,_,rfl,rfl,SqT.of hp9,t0,_,rfl,_,_,rfl,rfl,?_⟩
     dsimp only
     rw[show(m:Int)+(0+(i:Int))=((m+i:Nat):Int) by omega,show(0:Int)+(j:Int)=(j:Int) by omega]
     refine⟨y,rs,tss,j,m+i,rfl,N9,FH.1,P9.gd,by omega,P9.sh,by omega,by omega,by omega,q1,q2,fun PX H10 v N10 F10 S hv=>?_⟩
     have u10:=F10.keep u9 FH
     have P10:=P9.step S hj
     have Ahq:=F10 _ _ pno hp9
     have Ae8:=F10 _ _ Ahn Acs
     have ZJ:=F10 _ _ Aho AdL
     have Acv:=F10 _ _ AdK Acu
     rcases hv with rfl | ⟨lv,rfl⟩
     ·refine⟨_,rfl,rfl,_,rfl,?_⟩
      refine Ej rfl ?_
      refine⟨_,rfl,rfl,_,rfl,?_⟩
      refine Gz rfl ?_
      refine⟨_,rfl,.inl ⟨rfl,_,SqL.of Acv⟩,_,rfl,_,_,_,rfl,rfl,Acv,usz,?_⟩
      rw[← AfK,AfU]
      exact⟨PX,_,zs,_,_,_,rfl,u10.over AfS,N10.out AdK qsy,by rw[Aq pqs];exact Ahq,by rw[Aq qsr];exact Ae8,by rw[Aq qsf];exact ZJ,by omega,P10,Af,AfV _,AfT _ (.inl rfl)⟩
     ·refine⟨_,rfl,rfl,_,rfl,?_⟩
      refine By (fun z=>nomatch z) ?_
      refine⟨_,rfl,rfl,_,rfl,?_⟩
      refine M5 (fun z=>nomatch z) ?_
      refine⟨_,rfl,.inl ⟨rfl,_,SqL.of ZJ⟩,_,rfl,_,rfl,_,rfl,(by show 3≤sizeLine;decide),fun tp ntp=>?_⟩
      have tpf:qf≠tp:=fun z=>by rw[← z,ZJ] at ntp;cases ntp
      have s11:=Av.upd (o:=.tup [.int (0+(i:Int)),.int (j:Int),.ref lv]) ntp
      generalize upd H10 tp (.tup [.int (0+(i:Int)),.int (j:Int),.ref lv])=H11 at s11 ⊢
      refine⟨_,_,_,rfl,rfl,s11 _ _ ZJ,(by omega),?_⟩
      have u12:Av H (upd H11 qf (.lst (zs++[.ref tp]))):=(u10.trans s11).over Ai9
      have N12:NL (upd H11 qf (.lst (zs++[.ref tp]))) y rs PX:=(N10.same s11).out Aho qfy
      have Ahr:(upd H11 qf (.lst (zs++[.ref tp]))) p=some (.tup [.int (m:Int),.int (n:Int)]):=by rw[Aq pqf];exact s11 _ _ Ahq
      have Ae9:(upd H11 qf (.lst (zs++[.ref tp]))) qr=some (.lst (vS cf)):=by rw[Aq qrf];exact s11 _ _ Ae8
      have Acw:(upd H11 qf (.lst (zs++[.ref tp]))) qs=some (.lst (vS (us.map fun c=>[c]))):=by rw[Aq qsf.symm];exact s11 _ _ Acv
      have AeA:(upd H11 qf (.lst (zs++[.ref tp]))) qf=some (.lst (zs++[.ref tp])):=Af
      generalize upd H11 qf (.lst (zs++[.ref tp]))=H12 at u12 N12 Ahr Ae9 Acw AeA ⊢
      refine⟨_,rfl,.inl ⟨rfl,_,SqL.of Acw⟩,_,rfl,_,_,_,rfl,rfl,Acw,usz,?_⟩
      rw[← AfL,AfU]
      exact⟨PX,_,zs++[.ref tp],_,_,_,rfl,u12.over AfS,N12.out AdK qsy,by rw[Aq pqs];exact Ahr,by rw[Aq qsr];exact Ae9,by rw[Aq qsf];exact AeA,by rw[AjR];show _+1≤_;omega,P10,Af,AfV _,AfT _ (.inr rfl)⟩
    ·have hs':¬(cl.getD i []).getD j 0=63:=hs
     refine By (fun z=>hs' (HD.mp (z.trans e63.symm))) ?_
     refine⟨_,rfl,.inl ⟨rfl,_,SqL.of Acu⟩,_,rfl,_,_,_,rfl,rfl,Acu,usz,?_⟩
     rw[AfU]
     exact⟨tss,_,zs,_,_,_,rfl,u9.over AfS,N9.out AdK qsy,by rw[Aq pqs];exact hp9,by rw[Aq qsr];exact Acs,by rw[Aq qsf];exact AdL,by omega,P9.skip,Af,AfV _,AfT _ (by
      rcases Ahm C hi hj with h | h | h
      ·exact .inl h
      ·exact .inr h
      ·exact absurd h hs)⟩
   ·rintro σ H9 ⟨tss,us,zs,v8,v9,v10,rfl,u9,N9,hp9,Acs,AdL,zl,P9,Acu,usl,uss⟩
    refine⟨_,rfl,.inl ⟨rfl,_,SqL.of Acs⟩,rfl,_,rfl,_,_,(us.map fun c=>[c]).map tx,rfl,rfl,SqL.of (by rw[Acu,KH]),?_,?_⟩
    ·rw[Aco,AjP,AjP]
     have:us.length*(Str.length "")=0:=by rw[show Str.length "" = 0 from by decide +kernel];omega
     omega
    rw[show(("" : Str))=tx [] from by decide +kernel,LR,AaI]
    refine⟨_,_,_,rfl,rfl,Acs,(by rw[BJ];omega),?_⟩
    rw[Gh]
    refine⟨tss,cf++[us],zs,_,_,_,_,_,rfl,u9.over Ai8,N9.out Ahn qry,by rw[Aq pqr];exact hp9,Af,by rw[AjR,cfl];rfl,fun u hu=>?_,by rw[Aq qrf.symm];exact AdL,by omega,P9.next⟩
    rcases List.mem_append.mp hu with h | h
    ·exact cfs u h
    ·rw[List.mem_singleton.mp h];exact⟨usl,uss⟩
  ·rintro σ H7 ⟨tss,cf,zs,v6,v7,v8,v9,v10,rfl,u7,N7,hp7,AaJ,cfl,cfs,Acr,zl,P7⟩
   refine⟨_,rfl,_,rfl,(by show 3≤sizeLine;decide),fun q nq=>?_⟩
   exact fin q _ _ cf _ (u7.new nq) Af ((Av.upd nq) _ _ AaJ) ⟨cfl,fun u hu=>(cfs u hu).1,fun u hu=>(cfs u hu).2,by omega,c4,by omega,c2⟩
def AaK:Sp:=fun vs H Q _=>∃ c:Nat,vs=[.int (c:Int)]∧1≤c∧c≤40∧Q .non H
theorem Io(T:Txt K mg t):BK P w K mg base CX0 1 t.MN t.MP ["count"] AaK:=by
 refine T.Dt.F.ok Tc (fun vs H Q E h=>?_) (fun cdv A outer s H vs Q E hr h=>?_)
 ·obtain⟨c,rfl,_⟩:=h
  rfl
 ·obtain⟨c,rfl,h1,h2,k⟩:=h
  refine⟨_,(Ad (Bh (PW.pt (pw_or (Ag Fj (pv 0) Ae (Ak _)) (pw_or1 (Ag Hq (pv 0) (Ao (v:=.int 40) rfl T.Ck.choose_spec ⟨_,rfl⟩) (Ak _)))))
    (Ad CK)
    Am)),?_⟩
  refine⟨_,rfl,_,_,rfl,rfl,_,rfl,?_⟩
  refine By (by omega) ?_
  refine⟨_,rfl,_,_,rfl,rfl,_,rfl,?_⟩
  exact By (by omega) k
def AaL:Sp:=fun vs H Q _=>∃ v:Int,vs=[.int v]∧0≤v∧v<40∧Q .non H
theorem Lw(T:Txt K mg t):BK P w K mg base CX0 1 t.MT t.Nb ["shaft"] AaL:=by
 refine T.Fy.F.ok Td (fun vs H Q E h=>?_) (fun cdv A outer s H vs Q E hr h=>?_)
 ·obtain⟨v,rfl,_⟩:=h
  rfl
 ·obtain⟨v,rfl,h1,h2,k⟩:=h
  refine⟨_,(Ad (Bh (PW.pt (pw_or (Ag Fj (pv 0) Ae (Ak _)) (pw_or1 (Ag Ael (pv 0) (Ao (v:=.int 40) rfl T.Uh.choose_spec ⟨_,rfl⟩) (Ak _)))))
    (Ad CK)
    Am)),?_⟩
  refine⟨_,rfl,_,_,rfl,rfl,_,rfl,?_⟩
  refine By (by omega) ?_
  refine⟨_,rfl,_,_,rfl,rfl,_,rfl,?_⟩
  exact By (by omega) k
def AdM:Sp:=fun vs H Q _=>∃(a:Addr) (ks:List Int),vs=[.ref a]∧H a=some (.lst (vI ks))∧Rs ks∧ks.length≤1000∧Q .non H
theorem Wm(T:Txt K mg t):BK P w K mg base CX0 2 t.Ri t.Rj ["tie"] AdM:=by
 refine T.Mq.F.ok O8 (fun vs H Q E h=>?_) (fun cdv A outer s H vs Q E hr h=>?_)
 ·obtain⟨a,ks,rfl,_⟩:=h
  rfl
 ·obtain⟨a,ks,rfl,ha,R,hl,k⟩:=h
  refine⟨_,(Ad (Cp PassesOwn.never rfl (BZ rfl T.Dc (Aa (Aj (Ar (K:=K)) rfl T.BW Bs (Aa (pv 0) Ac)) Ac)) (Bu (i:=1) O8.nd rfl (Or.inl rfl))
    (Ab (Bp (An ((Lw T).mono (by decide)) hr rfl T.Fy.m T.Fy.F.kp T.Fy.b .nil Bv (Aa (Bb (Ay (K:=K)) (pv 0) (pv 1) (fun _ _=>rfl)) Ac)))
    (Ad (Bh (PW.pt (pw_and (Ag Hq (pv 1) Ae (Ak _)) (pw_and1 (Ag Agt (Bb (Ay (K:=K)) (pv 0) (pv 1) (fun _ _=>rfl)) (Bb (Ay (K:=K)) (pv 0) (Bg Yq (pv 1) Ae) (fun _ _=>rfl)) (Ak _)))))
     (Ad CK)
     Am))))),?_⟩
  refine⟨_,rfl,_,_,rfl,.inl (SqL.of ha),_,rfl,(by omega),(by rw[BR];omega),?_⟩
  rw[AjW,BR]
  refine Du (lo:=0) (n:=ks.length) (fun i σ H2=>∃ v,σ=[some (.ref a),v]∧H2=H) ⟨none,rfl,rfl⟩ ?_ ?_
  ·rintro i σ H2 hi ⟨v,rfl,rfl⟩
   have e1:atI (vI ks) (0+(i:Int))=some (.int ks[i]):=Bm (by omega) (by rw[z0];exact Ib (AjO hi))
   have b:=R.2 _ (AjU hi)
   refine⟨_,rfl,_,rfl,_,_,_,_,rfl,rfl,SqL.of ha,e1,_,rfl,b.1,b.2,?_⟩
   refine⟨_,rfl,_,_,rfl,rfl,_,rfl,?_⟩
   by_cases h0:i=0
   ·subst h0
    refine By (by omega) ?_
    exact Hr ⟨_,rfl,rfl⟩
   ·have hi1:i-1<ks.length:=by omega
    have e2:atI (vI ks) (0+(i:Int)-1)=some (.int ks[i-1]):=Bm (by omega) (by rw[show(0+(i:Int)-1).toNat=i-1 by omega];exact Ib (AjO hi1))
    have lt:=R.1 (i-1) ks[i-1] ks[i] (AjO hi1) (by rw[show i-1+1=i by omega];exact AjO hi)
    refine Ej (by omega) ?_
    refine⟨_,rfl,_,rfl,_,_,_,_,rfl,rfl,SqL.of ha,e1,_,rfl,_,rfl,_,_,rfl,rfl,_,_,_,_,rfl,rfl,SqL.of ha,e2,_,_,rfl,rfl,_,rfl,?_⟩
    refine By (by omega) ?_
    exact⟨_,rfl,rfl⟩
  ·rintro σ H2 ⟨v,rfl,rfl⟩
   exact k
theorem Acx{ks:List Int}(R:Rs ks):ks.length≤1000:=by
 have step:∀(i:Nat) (a:Int),ks[i]?=some a→(i:Int)≤a:=by
  intro i
  induction i with
  | zero=>exact fun a h=>(R.2 a (AjT h)).1
  | succ i ih =>
   intro a h
   have hi:i<ks.length:=by have:=(List.getElem?_eq_some_iff.mp h).1;omega
   have:=ih ks[i] (AjO hi)
   have:=R.1 i ks[i] a (AjO hi) h
   omega
 by_cases h:ks.length=0
 ·omega
 ·have hi:ks.length-1<ks.length:=by omega
  have h1:=step (ks.length-1) _ (AjO hi)
  have h2:=R.2 _ (AjU hi)
  omega
def Ye:Sp:=fun vs H Q _=>∃(x y:Addr) (rs:List Addr) (th:List Int) (tss:List (List Int)) (tr:List Int),vs=[.ref x,.ref y]∧H x=some (.lst (vI th))∧NL H y rs tss∧Ft th tss tr∧Q .non H
theorem QG(T:Txt K mg t):BK P w K mg base CX0 3 t.K4 t.K5 ["threading", "ties"] Ye:=by
 refine T.Hl.F.ok GX (fun vs H Q E h=>?_) (fun cdv A outer s H vs Q E hr h=>?_)
 ·obtain⟨x,y,rs,th,tss,tr,rfl,_⟩:=h
  rfl
 ·obtain⟨x,y,rs,th,tss,tr,rfl,hx,N,F,k⟩:=h
  refine⟨_,(Ab (Bp (An ((Io T).mono (by decide)) hr rfl T.Dt.m T.Dt.F.kp T.Dt.b .nil Bv (Aa (Aj (Ar (K:=K)) rfl T.BW Bs (Aa (pv 0) Ac)) Ac)))
   (Ab (Bp (An ((Io T).mono (by decide)) hr rfl T.Dt.m T.Dt.F.kp T.Dt.b .nil Bv (Aa (Aj (Ar (K:=K)) rfl T.BW Bs (Aa (pv 1) Ac)) Ac)))
   (Ab (Cp PassesOwn.never rfl (Cz (K:=K) (pv 0)) (Bu (i:=2) GX.nd rfl (Or.inl rfl))
    (Ad (Bp (An ((Lw T).mono (by decide)) hr rfl T.Fy.m T.Fy.F.kp T.Fy.b .nil Bv (Aa (pv 2) Ac)))))
   (Ad (Cp PassesOwn.never rfl (Cz (K:=K) (pv 1)) (Bu (i:=3) GX.nd rfl (Or.inl rfl))
    (Ad (Bp (An ((Wm T).mono (by decide)) hr rfl T.Mq.m T.Mq.F.kp T.Mq.b .nil Bv (Aa (pv 3) Ac))))))))),?_⟩
  refine⟨_,rfl,_,_,rfl,.inl (SqL.of hx),th.length,(by rw[BR] <;> rfl),F.m1,F.m40,?_⟩
  refine⟨_,rfl,_,_,rfl,.inl (SqL.of N.h),tss.length,(by rw[AjP,N.l] <;> rfl),F.t1,F.t40,?_⟩
  refine⟨_,rfl,_,rfl,⟨_,SqL.of hx⟩,DW (K:=K) (a:=x) (xs:=vI th) (fun i σ H2=>∃ v1 v2,σ=[some (.ref x),some (.ref y),v1,v2]∧H2=H) ⟨none,none,rfl,rfl⟩ (fun i σ H2 _ ⟨_,_,_,e⟩=>e▸SqL.of hx) ?_ ?_⟩
  ·rintro i xv σ H2 hxv ⟨v1,v2,rfl,rfl⟩
   obtain⟨z,hz,rfl⟩:=Nm hxv
   have b:=F.hth z (AjT hz)
   exact⟨_,rfl,z,rfl,b.1,b.2,_,_,rfl,rfl⟩
  ·rintro σ H2 ⟨v1,v2,rfl,rfl⟩
   refine⟨_,rfl,_,rfl,⟨_,SqL.of N.h⟩,DW (K:=K) (a:=y) (xs:=rs.map V.ref) (fun i σ H3=>∃ v1 v2,σ=[some (.ref x),some (.ref y),v1,v2]∧H3=H2) ⟨v1,v2,rfl,rfl⟩ (fun i σ H3 _ ⟨_,_,_,e⟩=>e▸SqL.of N.h) ?_ ?_⟩
   ·rintro i xv σ H3 hxv ⟨v1,v2,rfl,rfl⟩
    obtain⟨r,ks,rfl,_,hks,hr'⟩:=N.at hxv
    have R:=F.hti ks (AjT hks)
    exact⟨_,rfl,r,ks,rfl,hr',R,Acx R,_,_,rfl,rfl⟩
   ·rintro σ H3 ⟨v1,v2,rfl,rfl⟩
    exact k
def Wn:Sp:=fun vs H Q _=>∃(z:Addr) (th:List Int) (tss:List (List Int)) (tr:List Int),vs=[.ref z,.int (tss.length:Int)]∧H z=some (.lst (vI tr))∧Ft th tss tr∧Q .non H
theorem Qd(T:Txt K mg t):BK P w K mg base CX0 2 t.JC t.JD ["treading", "treadles"] Wn:=by
 refine T.G9.F.ok Ja (fun vs H Q E h=>?_) (fun cdv A outer s H vs Q E hr h=>?_)
 ·obtain⟨z,th,tss,tr,rfl,_⟩:=h
  rfl
 ·obtain⟨z,th,tss,tr,rfl,hz,F,k⟩:=h
  refine⟨_,(Ab (Bp (An ((Io T).mono (by decide)) hr rfl T.Dt.m T.Dt.F.kp T.Dt.b .nil Bv (Aa (Aj (Ar (K:=K)) rfl T.BW Bs (Aa (pv 0) Ac)) Ac)))
   (Ad (Cp PassesOwn.never rfl (Cz (K:=K) (pv 0)) (Bu (i:=2) Ja.nd rfl (Or.inl rfl))
    (Ad (Bh (PW.pt (pw_or (Ag Fj (pv 2) Ae (Ak _)) (pw_or1 (Ag Ael (pv 2) (pv 1) (Ak _)))))
     (Ad CK)
     Am))))),?_⟩
  refine⟨_,rfl,_,_,rfl,.inl (SqL.of hz),tr.length,(by rw[BR] <;> rfl),F.n1,F.n40,?_⟩
  refine⟨_,rfl,_,rfl,⟨_,SqL.of hz⟩,DW (K:=K) (a:=z) (xs:=vI tr) (fun i σ H2=>∃ v1,σ=[some (.ref z),some (.int (tss.length:Int)),v1]∧H2=H) ⟨none,rfl,rfl⟩ (fun i σ H2 _ ⟨_,_,e⟩=>e▸SqL.of hz) ?_ ?_⟩
  ·rintro i xv σ H2 hxv ⟨v1,rfl,rfl⟩
   obtain⟨v,hv,rfl⟩:=Nm hxv
   have b:=F.htr v (AjT hv)
   refine⟨_,rfl,_,_,rfl,rfl,_,rfl,?_⟩
   refine By (by omega) ?_
   refine⟨_,rfl,_,rfl,_,_,rfl,rfl,_,rfl,?_⟩
   refine By (by omega) ?_
   exact⟨_,rfl,rfl⟩
  ·rintro σ H2 ⟨v1,rfl,rfl⟩
   exact k
def ZK (r:Addr)(H H':Hp):Prop:=∀ b o,b≠r→H b=some o→H' b=some o
def df (a b c:Addr):List (Str × V):=[("threading", .ref a),("ties", .ref b),("treading", .ref c)]
theorem NL.other{H H':Hp}{r C dx y:Addr}{fs:List (Str × V)}{rs:List Addr}{tss:List (List Int)}(N:NL H y rs tss)(b:ZK r H H')(hr:H r=some (.ins C dx fs)):NL H' y rs tss :=
 ⟨b _ _ (fun e=>by have:=N.h;rw[e,hr] at this;cases this) N.h,N.l,fun i a ks h1 h2=>b _ _ (fun e=>by have:=N.r i a ks h1 h2;rw[e,hr] at this;cases this) (N.r i a ks h1 h2)⟩
structure IsD (t:Adr) (H:Hp) (d dx a b c:Addr) (qs:List Addr) (th:List Int) (tss:List (List Int)) (tr:List Int):Prop where
 o:H d=some (.ins t.FQ dx (df a b c))
 ha:H a=some (.lst (vI th))
 hb:NL H b qs tss
 hc:H c=some (.lst (vI tr))
def Acy (t:Adr):Sp:=fun vs H Q _=>∃(r dx x y z:Addr) (rs:List Addr) (th:List Int) (tss:List (List Int)) (tr:List Int),vs=[.ref r,.ref x,.ref y,.ref z]∧H r=some (.ins t.FQ dx [])∧H x=some (.lst (vI th))∧NL H y rs tss∧H z=some (.lst (vI tr))∧Ft th tss tr ∧
 ∀ a b c qs H',ZK r H H'→H a=none→H b=none→H c=none→(∀ q∈qs,H q=none)→IsD t H' r dx a b c qs th tss tr→Q .non H'
theorem Qe(T:Txt K mg t):BK P w K mg base CX0 4 t.Ha t.JB ["self", "threading", "ties", "treading"] (Acy t):=by
 refine T.JL.F.ok OJ (fun vs H Q E h=>?_) (fun cdv A outer s H vs Q E hr h=>?_)
 ·obtain⟨r,dx,x,y,z,rs,th,tss,tr,rfl,_⟩:=h
  rfl
 ·obtain⟨r,dx,x,y,z,rs,th,tss,tr,rfl,hr1,hx,N,hz,F,k⟩:=h
  have hsz:sizeLine=16777216:=sizeLine_eq
  refine⟨_,(Ab (Bp (An ((QG T).mono (by decide)) hr rfl T.Hl.m T.Hl.F.kp T.Hl.b .nil Bv (Aa (pv 1) (Aa (pv 2) Ac))))
   (Ab (Bp (An ((Qd T).mono (by decide)) hr rfl T.G9.m T.G9.F.kp T.G9.b .nil Bv (Aa (pv 3) (Aa (Aj (Ar (K:=K)) rfl T.BW Bs (Aa (pv 2) Ac)) Ac))))
   (Ab (V5 (K:=K) (pv 0) (FP (Ea (K:=K)) rfl T.Ii Hg (Aa (pv 1) Ac)))
   (Ab (V5 (K:=K) (pv 0) (Gm (Ei.mk (Bx:=[]) (Nc:=["tie"]) rfl (by decide +kernel) (by decide +kernel) (Dj (sc0:=Ai GZ) rfl (by decide +kernel)) rfl rfl rfl (by decide +kernel) (fun _ _ h=>by simp at h)) rfl (Cz (K:=K) (pv 2)) (fun _ _ _ _ _=>.nil) (fun _ _ _ _ _=>(FP (Ea (K:=K)) rfl T.Ii Hg (Aa (pv 0) Ac)))))
   (Ad (V5 (K:=K) (pv 0) (FP (Ea (K:=K)) rfl T.Ii Hg (Aa (pv 3) Ac)))))))),?_⟩
  refine⟨_,rfl,_,rfl,x,y,rs,th,tss,tr,rfl,hx,N,F,?_⟩
  refine⟨_,rfl,_,rfl,_,_,rfl,.inl (SqL.of N.h),z,th,tss,tr,(by rw[AjP,N.l] <;> rfl),hz,F,?_⟩
  refine⟨_,rfl,_,_,rfl,.inl (SqL.of hx),fun a na=>?_⟩
  have s1:Av H (upd H a (.lst (vI th))):=.upd na
  have nra:a≠r:=fun e=>by rw[e,hr1] at na;cases na
  refine⟨_,rfl,_,_,_,_,rfl,s1 _ _ hr1,T.R1.c,T.Oc,(by decide),?_⟩
  generalize hH2:upd (upd H a (.lst (vI th))) r (.ins t.FQ dx (JQ "threading" (.ref a) []))=H2
  have b2:ZK r H H2:=fun b o nb e=>by rw[← hH2,Aq nb];exact s1 _ _ e
  have hr2:H2 r=some (.ins t.FQ dx [("threading", .ref a)]):=by rw[← hH2];exact Af
  have ha2:H2 a=some (.lst (vI th)):=by rw[← hH2,Aq nra];exact Af
  have fre:∀ q,H2 q=none→H q=none:=fun q hq=>by
   have nq:q≠r:=fun e=>by rw[e,hr2] at hq;cases hq
   cases e:H q with
   | none=>rfl
   | some o=>rw[b2 q o nq e] at hq;cases hq
  clear hH2
  have N2:=N.other b2 hr1
  refine⟨_,rfl,_,rfl,⟨_,SqL.of N2.h⟩,GP (K:=K) (a:=y) (xs:=rs.map V.ref) (fun i ys H3=>Av H2 H3∧∃ qs:List Addr,ys=qs.map V.ref∧qs.length=i∧(∀ q∈qs,H2 q=none)∧∀(j:Nat) (q:Addr) (ks:List Int),qs[j]?=some q→tss[j]?=some ks→H3 q=some (.lst (vI ks)))
   ⟨.refl _,[],rfl,rfl,fun q hq=>(by cases hq),fun j q ks h=>(by simp at h)⟩ ?_ ?_ ?_ ?_⟩
  ·rintro i ys H3 hi ⟨s3,qs,rfl,hq,_⟩
   exact⟨SqL.of (s3 _ _ N2.h),by rw[AjP];omega⟩
  ·rw[AjP,N.l];have:=F.t40;omega
  ·rintro i xv ys H3 hi hxv ⟨s3,qs,rfl,hq,nq,hqs⟩
   obtain⟨r',ks',rfl,_,hks,hr'⟩:=N2.at hxv
   refine Ge.no ?_
   refine⟨_,rfl,_,_,rfl,.inl (SqL.of (s3 _ _ hr')),fun l nl=>?_⟩
   refine CN.of hi ⟨s3.new nl,qs++[l],by rw[AjY];rfl,by rw[AjR,hq];rfl,fun q h=>?_,fun j q ks h1 h2=>?_⟩
   ·rcases List.mem_append.mp h with h | h
    ·exact nq q h
    ·rw[List.mem_singleton.mp h];exact s3.free nl
   ·by_cases hj:j<qs.length
    ·rw[Aki hj] at h1
     exact(Av.upd nl) _ _ (hqs j q ks h1 h2)
    ·rw[Akr (by omega)] at h1
     have e0:j=i:=by
      have:=(List.getElem?_eq_some_iff.mp h1).1
      simp at this
      omega
     rw[show j-qs.length=0 by omega] at h1
     have e1:l=q:=by simpa using h1
     rw[e0,hks] at h2
     cases h2
     rw[← e1]
     exact Af
  ·rintro ys H3 b ⟨s3,qs,rfl,hq,nq,hqs⟩ nb
   rw[AjP,N.l] at hq
   have s4:Av H2 (upd H3 b (.lst (qs.map V.ref))):=s3.new nb
   have nbr:b≠r:=fun e=>by rw[e,s3 _ _ hr2] at nb;cases nb
   refine⟨_,rfl,_,_,_,_,rfl,s4 _ _ hr2,T.R1.c,T.Ui,(by show 1<1000;decide),?_⟩
   generalize hH5:upd (upd H3 b (.lst (qs.map V.ref))) r (.ins t.FQ dx (JQ "ties" (.ref b) [("threading", .ref a)]))=H5
   have b5:ZK r H2 H5:=fun b' o nb e=>by rw[← hH5,Aq nb];exact s4 _ _ e
   have hr5:H5 r=some (.ins t.FQ dx [("threading", .ref a),("ties", .ref b)]):=by rw[← hH5];exact Af
   have hb5:H5 b=some (.lst (qs.map V.ref)):=by rw[← hH5,Aq nbr];exact Af
   have hq5:∀(j:Nat) (q:Addr) (ks:List Int),qs[j]?=some q→tss[j]?=some ks→H5 q=some (.lst (vI ks)):=fun j q ks h1 h2=>by
    have nqr:q≠r:=fun e=>by have:=nq q (AjT h1);rw[e,hr2] at this;cases this
    rw[← hH5,Aq nqr]
    exact(Av.upd nb) _ _ (hqs j q ks h1 h2)
   clear hH5
   have nzr:z≠r:=fun e=>by rw[e,hr1] at hz;cases hz
   have hz5:H5 z=some (.lst (vI tr)):=b5 _ _ nzr (b2 _ _ nzr hz)
   refine⟨_,rfl,_,_,rfl,.inl (SqL.of hz5),fun c nc=>?_⟩
   have s6:Av H5 (upd H5 c (.lst (vI tr))):=.upd nc
   have ncr:c≠r:=fun e=>by rw[e,hr5] at nc;cases nc
   refine⟨_,rfl,_,_,_,_,rfl,s6 _ _ hr5,T.R1.c,T.Pz,(by show 2<1000;decide),?_⟩
   have f5:∀ q,H5 q=none→H q=none:=fun q h=>fre q (by
    have nqr:q≠r:=fun e=>by rw[e,hr5] at h;cases h
    cases e:H2 q with
    | none=>rfl
    | some o=>rw[b5 q o nqr e] at h;cases h)
   refine k a b c qs _ (fun b' o nb' e=>by rw[Aq nb'];exact s6 _ _ (b5 _ _ nb' (b2 _ _ nb' e))) na (fre b (s3.free nb)) (f5 c nc) (fun q h=>fre q (nq q h)) ⟨Af,?_,⟨?_,hq,fun j q ks h1 h2=>?_⟩,?_⟩
   ·rw[Aq nra];exact s6 _ _ (b5 _ _ nra ha2)
   ·rw[Aq nbr];exact s6 _ _ hb5
   ·have nqr:q≠r:=fun e=>by have:=nq q (AjT h1);rw[e,hr2] at this;cases this
    rw[Aq nqr];exact s6 _ _ (hq5 j q ks h1 h2)
   ·rw[Aq ncr];exact Af
theorem Acz(u:List Nat):∀ f:List (List Nat),inV (.str (tx u)) (vS f)=decide (u∈f)
 | []=>by simp[inV,vS]
 | k::f=>by
  have ih:=Acz u f
  unfold inV vS at ih ⊢
  rw[AjX,AkD,ih]
  by_cases h:k=u
  ·subst h
   have:eqV (V.str (tx k)) (V.str (tx k))=true:=Abt rfl
   rw[this]
   simp
  ·have:eqV (V.str (tx k)) (V.str (tx u))=false:=by
    show(tx k == tx u)=false
    rw[beq_eq_false_iff_ne]
    exact fun z=>h (Vz z)
   rw[this,Bool.false_or,decide_eq_decide]
   exact⟨Akk _,fun z=>by
    rcases List.mem_cons.mp z with e | e
    ·exact absurd e.symm h
    ·exact e⟩
def AaM (K:PySem.W.Frag):Sp:=fun vs H Q _=>∃(a:Addr) (us:List (List Nat)),vs=[.ref a]∧SqL K H a (vS us)∧us.length≤40∧∀ l H',Av H H'→H l=none→H' l=some (.lst (vS (unl us)))→Q (.ref l) H'
theorem Vg(T:Txt K mg t):BK P w K mg base CX0 1 t.X4 t.X5 ["things"] (AaM K):=by
 refine T.unlike.F.ok Qu (fun vs H Q E h=>?_) (fun cdv A outer s H vs Q E hr h=>?_)
 ·obtain⟨a,us,rfl,_⟩:=h
  rfl
 ·obtain⟨a,us,rfl,hS,hl,k⟩:=h
  refine⟨_,(Ab (Al (i:=1) Qu.nd rfl (Or.inl rfl) (Fl Ac))
   (Ab (Cp PassesOwn.never rfl (Cz (K:=K) (pv 0)) (Bu (i:=2) Qu.nd rfl (Or.inl rfl))
    (Ad (Bh (Ag (Ud (K:=K)) (pv 2) (pv 1) rfl)
     (Ad (Bp (Dh (K:=K) PySem.F.plainAttrs_list PySem.F.slot_list_append PySem.F.type_list_append CQ (pv 1) (Aa (pv 2) Ac))))
     Am)))
   (Ad (Ba (pv 1))))),?_⟩
  refine⟨Akb _,fun q nq=>?_⟩
  have s1:Av H (upd H q (.lst [])):=.upd nq
  refine⟨_,rfl,_,rfl,⟨_,s1.seq hS⟩,?_⟩
  refine DW (K:=K) (a:=a) (xs:=vS us) (fun i σ H2=>∃(v:Option V),σ=[some (.ref a),some (.ref q),v]∧Av H H2∧H2 q=some (.lst (vS (unl (us.take i)))))
   ⟨none,rfl,s1,Af⟩ (fun i σ H2 _ ⟨_,_,s2,_⟩=>s2.seq hS) ?_ ?_
  ·rintro i xv σ H2 hx ⟨v,rfl,s2,h2⟩
   have hil:i<us.length:=by
    have:=(List.getElem?_eq_some_iff.mp hx).1
    rwa [BJ] at this
   obtain⟨u,hu,rfl⟩:=GR hx
   have et:us.take (i+1)=us.take i++[u]:=by rw[Akp,hu];rfl
   have lf:(unl (us.take i)).length≤i:=Akg (YM _) (by rw[Akf];omega)
   refine⟨_,rfl,_,rfl,_,_,rfl,.inl (SqL.of h2),rfl,Ada _,_,rfl,?_⟩
   show if (!inV (.str (tx u)) (vS (unl (us.take i))))=true then _ else _
   rw[Acz]
   by_cases hm:u∈unl (us.take i)
   ·refine Gz hm ?_
    exact⟨_,rfl,s2,by rw[et,O1,if_pos hm];exact h2⟩
   ·refine M5 hm ?_
    refine⟨_,rfl,.inl ⟨rfl,_,SqL.of h2⟩,_,rfl,_,_,_,rfl,rfl,h2,(by rw[BJ];exact Ga (by omega)),?_⟩
    rw[Gh]
    exact⟨_,rfl,s2.over nq,by rw[et,O1,if_neg hm];exact Af⟩
  ·rintro σ H2 ⟨v,rfl,s2,h2⟩
   rw[BJ,Ak2] at h2
   exact⟨_,rfl,k q H2 s2 nq h2⟩
theorem Vh:∀(m:Nat) (l:List Nat),l.Nodup→(∀ x∈l,x<m)→l.length≤m
 | 0,l,_,h=>by
  cases l with
  | nil=>exact AjQ _
  | cons a r=>exact absurd (h a Ake) (by omega)
 | m+1,l,n,h=>by
  have:=Vh m (l.erase m) (n.erase m) fun x hx=>by
   have g:=n.mem_erase_iff.mp hx
   have:=h x g.2
   omega
  have e:=List.length_erase (a:=m) (l:=l)
  split at e <;> omega
theorem AdN{ds:List Int}(n:ds.Nodup)(h:∀ z∈ds,0≤z∧z<40):ds.length<64:=by
 have:=Vh 40 (ds.map Int.toNat) (by
  rw[List.Nodup,List.pairwise_map]
  refine n.imp_of_mem fun {a b} ha hb ne e=>ne ?_
  have:=h a ha
  have:=h b hb
  omega) fun x hx=>by
   obtain⟨z,hz,rfl⟩:=List.mem_map.mp hx
   have:=h z hz
   omega
 rw[AjP] at this
 omega
def Ahs (th:List Int)(u:List Nat)(ks:List Int):Prop:=∀ z:Int,z∈ks↔∃ e:Nat,th[e]?=some z∧u[e]?=some 35
def AdO:Sp:=fun vs H Q _=>∃(x:Addr) (th:List Int) (u:List Nat),vs=[.ref x,.str (tx u)]∧H x=some (.lst (vI th))∧th.length=u.length∧u.length≤40∧(∀ z∈th,0≤z∧z<40)∧∀ l ks H',Av H H'→H l=none→H' l=some (.lst (vI ks))→Rs ks→Ahs th u ks→Q (.ref l) H'
theorem TQ(T:Txt K mg t):BK P w K mg base CX0 1 t.Nf t.Ng ["threading", "text"] AdO:=by
 refine T.Jf.F.ok Te (fun vs H Q E h=>?_) (fun cdv A outer s H vs Q E hr h=>?_)
 ·obtain⟨x,th,u,rfl,_⟩:=h
  rfl
 ·obtain⟨x,th,u,rfl,hx,hlu,h40,hth,k⟩:=h
  have hsz:sizeLine=16777216:=sizeLine_eq
  refine⟨_,(Ad (Ba (YK (K:=K) rfl T.AbQ rfl T.AgV (J3 (K:=K) (Hh.mk (Bx:=[]) (Nc:=["shaft", "sign"]) rfl (by decide +kernel) (by decide +kernel) (Dj (sc0:=Ai Jm) rfl (by decide +kernel)) rfl rfl rfl rfl rfl (by decide +kernel) (fun _ _ h=>by simp at h)) rfl (Oz (K:=K) rfl T.XC (Aa (pv 0) (Aa (pv 1) Ac))) (fun _ _ _ _ _=>.one (Ag Cy (pv 1) Az (Ak _))) (fun _ _ _ _ _=>(pv 0)))))),?_⟩
  refine⟨_,rfl,_,rfl,.l x,.s (tx u),rfl,trivial,⟨_,SqL.of hx⟩,trivial,?_⟩
  refine KN (n:=u.length) (fun i=>(vI th).getD i .non) (fun i=>.str ⟨#[u.getD i 0]⟩) (fun i ys H2=>Av H H2∧∃ ns:List Int,ys=vI ns∧ns.length≤i∧∀ z:Int,z∈ns↔∃ e:Nat,e<i∧th[e]?=some z∧u[e]?=some 35) ⟨.refl _,[],rfl,AjQ _,fun z=>⟨fun h=>(by cases h),fun⟨e,h,_⟩=>absurd h (Alc _)⟩⟩ ?_ ?_ ?_ ?_ ?_ ?_ ?_
  ·rintro i ys H2 hi ⟨s2,ns,rfl,hn,_⟩
   rw[BR]
   exact hn
  ·omega
  ·rintro i ys H2 hi ⟨s2,_⟩
   exact VF (SqL.of (s2 _ _ hx)) (by rw[BR];omega)
  ·rintro i ys H2 hi _
   exact Nq hi
  ·rintro ys H2 ⟨s2,_⟩
   exact⟨⟨_,SqL.of (s2 _ _ hx)⟩,trivial,.inl ⟨_,SqL.of (s2 _ _ hx),by rw[BR];exact hlu⟩⟩
  ·rintro i ys H2 T2 hi ⟨s2,ns,rfl,hn,hm⟩ nT
   have hit:i<th.length:=by omega
   have ev:(vI th).getD i .non=.int th[i]:=by
    rw[AjV,Ib (AjO hit)]
    rfl
   have eu:u.getD i 0=u[i]:=by
    rw[AjV,AjO hi]
    rfl
   rw[ev,eu]
   have s3:Av H (upd H2 T2 (.tup [.int th[i],.str ⟨#[u[i]]⟩])):=s2.new nT
   unfold Ge
   refine⟨_,rfl,rfl,_,rfl,?_⟩
   have hh:("#" : Str)=⟨#[35]⟩:=by decide +kernel
   rw[hh]
   refine CJ (fun h=>?_) (fun h=>?_)
   ·have h35:u[i]=35:=HD.mp h
    refine⟨_,rfl,?_⟩
    refine CN.of hi ⟨s3,ns++[th[i]],Ie _ _,by rw[AjR];show ns.length+1≤i+1;omega,fun z=>?_⟩
    rw[AkO,List.mem_singleton,hm z]
    constructor
    ·rintro(⟨e,h1,h2⟩ | rfl)
     ·exact⟨e,by omega,h2⟩
     ·exact⟨i,by omega,AjO hit,by rw[AjO hi,h35]⟩
    ·rintro⟨e,h1,h2,h3⟩
     by_cases q:e=i
     ·subst q
      rw[AjO hit] at h2
      exact .inr (Option.some.inj h2).symm
     ·exact .inl ⟨e,by omega,h2,h3⟩
   ·refine CN.of hi ⟨s3,ns,rfl,by omega,fun z=>?_⟩
    rw[hm z]
    constructor
    ·rintro⟨e,h1,h2⟩
     exact⟨e,by omega,h2⟩
    ·rintro⟨e,h1,h2,h3⟩
     by_cases q:e=i
     ·subst q
      rw[AjO hi] at h3
      exact absurd (HD.mpr (Option.some.inj h3)) h
     ·exact⟨e,by omega,h2,h3⟩
  ·rintro ys H2 p ⟨s2,ns,rfl,hn,hm⟩ np
   have Aht:∀ z∈ns,z∈th:=fun z hz=>by
    obtain⟨e,_,h2,_⟩:=(hm z).mp hz
    exact AjT h2
   refine⟨_,_,rfl,SqL.of Af,by omega,fun ds nd hs=>AdN nd fun z hz=>hth z (Aht z (hs z hz)),fun l ks hk hp nl=>?_⟩
   have s3:Av H (upd H2 p (.lst (vI ns))):=s2.new np
   refine k l ks _ (s3.new nl) (s3.free nl) Af ⟨fun i a b e1 e2=>?_,fun a ha=>hth a (Aht a ((hk a).mp ha))⟩ fun z=>?_
   ·obtain⟨i1,rfl⟩:=List.getElem?_eq_some_iff.mp e1
    obtain⟨i2,rfl⟩:=List.getElem?_eq_some_iff.mp e2
    exact List.pairwise_iff_getElem.mp hp i (i+1) i1 i2 (by omega)
   ·rw[hk z,hm z]
    exact⟨fun⟨e,_,h⟩=>⟨e,h⟩,fun⟨e,h1,h2⟩=>⟨e,(List.getElem?_eq_some_iff.mp h2).1,h1,h2⟩⟩
theorem ZM{f:List (List Nat)}{u:List Nat}(h:u∈f):(f.map tx)[ix f u]?=some (tx u)∧(∀ i,i<ix f u→(f.map tx)[i]?≠some (tx u))∧ix f u<f.length:=by
 refine⟨by rw[Aka,AgS h];rfl,fun i hi z=>?_,AbM h⟩
 rw[Aka] at z
 obtain⟨y,hy,e⟩:=Option.map_eq_some_iff.mp z
 rw[Vz e] at hy
 exact Aew hi hy
theorem ZP(l:List Nat)(z:Nat):nts l++[(z:Int)]=nts (l++[z]):=by unfold nts;rw[AjY];rfl
def Wo {α:Type}[DecidableEq α](l:List α)(i:Nat):List Nat:=(l.take i).map fun x=>ix (unl l) x
theorem Yg{α:Type}[DecidableEq α](l:List α):Wo l l.length=num l:=by unfold Wo num;rw[Ak2]
theorem Yh{α:Type}[DecidableEq α]{l:List α}{i:Nat}{x:α}(h:l[i]?=some x):Wo l (i+1)=Wo l i++[ix (unl l) x]:=by
 unfold Wo
 rw[Akp,h,AjY]
 rfl
theorem Yi{α:Type}[DecidableEq α]{l:List α}{i:Nat}(h:i≤l.length):(Wo l i).length=i:=by
 unfold Wo
 rw[AjP,Akf]
 omega
theorem ZQ{α:Type}[DecidableEq α]{l:List α}{z:Int}(h:z∈nts (num l)):0≤z∧z<((unl l).length:Int):=by
 obtain⟨y,hy,rfl⟩:=Adz.mp h
 have:=Af2 hy
 omega
def Ac0 (K:PySem.W.Frag)(t:Adr):Sp:=fun vs H Q _=>∃(a:Addr) (cl:List (List Nat)) (m n:Nat),vs=[.ref a]∧SqL K H a (vS cl)∧Cl cl m n ∧
 ∀ d dx a' b' c' qs tss H',Av H H'→H d=none→IsD t H' d dx a' b' c' qs (nts (num (cols cl m))) tss (nts (num cl))→Q (.ref d) H'
theorem TV(T:Txt K mg t):BK P w K mg base CX0 6 t.MJ t.MK ["cloth"] (Ac0 K t):=by
 refine T.Je.F.ok DG (fun vs H Q E h=>?_) (fun cdv A outer s H vs Q E hr h=>?_)
 ·obtain⟨a,cl,m,n,rfl,_⟩:=h
  rfl
 ·obtain⟨a,cl,m,n,rfl,hS,C,k⟩:=h
  refine⟨_,(Ab (Al (i:=1) DG.nd rfl (Or.inl rfl) (An ((Rp T).mono (by decide)) hr rfl T.measured.m T.measured.F.kp T.measured.b .nil Bv (Aa (pv 0) Ac)))
   (Ab (Vy (i:=2) (Ei.mk (Bx:=[0]) (Nc:=["end", "cloth"]) rfl (by decide +kernel) (by decide +kernel) (Dj (sc0:=Ai EY) rfl (by decide +kernel)) rfl rfl rfl (by decide +kernel) (fun k j h=>match k,h with | 0,h=>by obtain rfl:=Option.some.inj h;exact⟨_,rfl,rfl,rfl⟩ | _+1,h=>by simp at h)) rfl DG.nd rfl rfl (BZ rfl T.Dc (Aa (Bb (BX (K:=K)) (pv 1) Ae (fun _ _=>rfl)) Ac)) (fun _ _ _ _ _=>.nil) (fun _ _ _ _ _=>(An ((Wc T).mono (by decide)) hr rfl T.Ml.m T.Ml.F.kp T.Ml.b .nil Bv (Aa (pv 1) (Aa (pv 0) Ac)))) rfl)
   (Ab (Al (i:=3) DG.nd rfl (Or.inr rfl) (An ((Vg T).mono (by decide)) hr rfl T.unlike.m T.unlike.F.kp T.unlike.b .nil Bv (Aa (pv 2) Ac)))
   (Ab (Al (i:=4) DG.nd rfl (Or.inr rfl) (An ((Vg T).mono (by decide)) hr rfl T.unlike.m T.unlike.F.kp T.unlike.b .nil Bv (Aa (pv 0) Ac)))
   (Ab (Al (i:=5) DG.nd rfl (Or.inr rfl) (Gm (Ei.mk (Bx:=[3]) (Nc:=["signs", "unlike_ends"]) rfl (by decide +kernel) (by decide +kernel) (Dj (sc0:=Ai EY) rfl (by decide +kernel)) rfl rfl rfl (by decide +kernel) (fun k j h=>match k,h with | 0,h=>by obtain rfl:=Option.some.inj h;exact⟨_,rfl,rfl,rfl⟩ | _+1,h=>by simp at h)) rfl (Cz (K:=K) (pv 2)) (fun _ _ _ _ _=>.nil) (fun _ _ _ _ _=>(Dh (K:=K) PySem.F.plainAttrs_list PySem.F.slot_list_index PySem.F.type_list_index Z6 (pv 1) (Aa (pv 0) Ac)))))
   (Ab (Vy (i:=6) (Ei.mk (Bx:=[4]) (Nc:=["text", "unlike_picks"]) rfl (by decide +kernel) (by decide +kernel) (Dj (sc0:=Ai EY) rfl (by decide +kernel)) rfl rfl rfl (by decide +kernel) (fun k j h=>match k,h with | 0,h=>by obtain rfl:=Option.some.inj h;exact⟨_,rfl,rfl,rfl⟩ | _+1,h=>by simp at h)) rfl DG.nd rfl rfl (Cz (K:=K) (pv 0)) (fun _ _ _ _ _=>.nil) (fun _ _ _ _ _=>(Dh (K:=K) PySem.F.plainAttrs_list PySem.F.slot_list_index PySem.F.type_list_index Z6 (pv 1) (Aa (pv 0) Ac))) rfl)
   (Ad (Ba (AcQ T.R1.m ((Qe T).mono (by decide)) hr rfl T.Ad3 T.JL.b .nil Bv (Aa (pv 5) (Aa (Gm (Ei.mk (Bx:=[5]) (Nc:=["text", "threading"]) rfl (by decide +kernel) (by decide +kernel) (Dj (sc0:=Ai EY) rfl (by decide +kernel)) rfl rfl rfl (by decide +kernel) (fun k j h=>match k,h with | 0,h=>by obtain rfl:=Option.some.inj h;exact⟨_,rfl,rfl,rfl⟩ | _+1,h=>by simp at h)) rfl (Cz (K:=K) (pv 4)) (fun _ _ _ _ _=>.nil) (fun _ _ _ _ _=>(An ((TQ T).mono (by decide)) hr rfl T.Jf.m T.Jf.F.kp T.Jf.b .nil Bv (Aa (pv 1) (Aa (pv 0) Ac))))) (Aa (pv 6) Ac)))))))))))),?_⟩
  refine⟨_,rfl,a,cl,m,n,rfl,hS,C,fun p hp=>?_⟩
  have hsz:sizeLine=16777216:=sizeLine_eq
  have m1:=C.m1
  have m40:=C.m40
  have n1:=C.n1
  have n40:=C.n40
  have hn:=C.hn
  have s1:Av H (upd H p (.tup [.int (m:Int),.int (n:Int)])):=.upd hp
  refine⟨_,rfl,_,_,_,_,rfl,rfl,SqT.of Af,Bm (by decide) rfl,(m:Int),rfl,(by omega),(by omega),?_⟩
  rw[AjW]
  refine Fo (lo:=0) (n:=m) (fun i ys H2=>Av H H2∧ys=vS ((List.range i).map (col cl))) ⟨s1,rfl⟩ ?_ ?_ ?_ ?_
  ·rintro i ys H2 hi ⟨s2,rfl⟩
   rw[BJ,AjP,Akh]
   omega
  ·exact Ga m40
  ·rintro i ys H2 hi ⟨s2,rfl⟩
   refine Ge.no ?_
   refine⟨_,rfl,_,rfl,a,cl,m,n,i,(by rw[Ak5];rfl),s2.seq hS,C,hi,fun H3 s3=>?_⟩
   refine CN.of hi ⟨s2.trans s3,?_⟩
   rw[Gh,AkE,AjY]
   rfl
  rintro ys H2 p2 ⟨s2,rfl⟩ np2
  obtain⟨es,hes⟩:∃ es,es=cols cl m:=⟨_,rfl⟩
  have les:es.length=m:=by rw[hes,AbN]
  rw[show(List.range m).map (col cl)=es from hes.symm]
  rw[← hes] at k
  have s3:Av H (upd H2 p2 (.lst (vS es))):=s2.new np2
  generalize hH3:upd H2 p2 (.lst (vS es))=H3 at s3 ⊢
  have h3:H3 p2=some (.lst (vS es)):=by rw[← hH3];exact Af
  clear hH3
  refine⟨_,rfl,p2,es,rfl,SqL.of h3,by omega,fun q1 H4 s4 nq1 h4=>?_⟩
  have lf1:=YM es
  have mf1:∀ u∈es,u∈unl es:=fun u hu=>(O2 u es).mpr hu
  have s14:=s3.trans s4
  refine⟨_,rfl,a,cl,rfl,s14.seq hS,by omega,fun q2 H5 s5 nq2 h5=>?_⟩
  have lf2:=YM cl
  have mf2:∀ u∈cl,u∈unl cl:=fun u hu=>(O2 u cl).mpr hu
  have mg2:∀ u∈unl cl,u∈cl:=fun u hu=>(O2 u cl).mp hu
  have s15:=s14.trans s5
  have hp2:=s5 _ _ (s4 _ _ h3)
  have hq1:=s5 _ _ h4
  have g1:0<(unl cl).length:=Ady fun z=>by rw[z] at hn;simp at hn;omega
  refine⟨_,rfl,_,rfl,⟨_,SqL.of hp2⟩,GP (K:=K) (a:=p2) (xs:=vS es) (fun i ys H6=>H6=H5∧ys=vI (nts (Wo es i))) ⟨rfl,rfl⟩ ?_ ?_ ?_ ?_⟩
  ·rintro i ys H6 hi ⟨rfl,rfl⟩
   rw[BJ] at hi
   exact⟨SqL.of hp2,by rw[BR,R0,Yi hi];exact AjQ _⟩
  ·rw[BJ];omega
  ·rintro i xv ys H6 hi hxv ⟨rfl,rfl⟩
   obtain⟨u,hu,rfl⟩:=GR hxv
   obtain⟨j1,j2,j3⟩:=ZM (mf1 u (AjT hu))
   refine Ge.no ?_
   refine⟨_,rfl,.inl ⟨rfl,_,SqL.of hq1⟩,_,rfl,q1,(unl es).map tx,tx u,_,rfl,rfl,(by rw[← KH];exact hq1),j1,j2,(by rw[AjP];omega),?_⟩
   refine CN.of hi ⟨rfl,?_⟩
   rw[Ie,ZP,Yh hu]
  rintro ys H6 p3 ⟨rfl,rfl⟩ np3
  rw[BJ,Yg]
  obtain⟨th,eth⟩:∃ th,th=nts (num es):=⟨_,rfl⟩
  rw[← eth] at k ⊢
  have lth:th.length=m:=by rw[eth,R0,Z7,les]
  have hth:∀ z∈th,0≤z∧z<40:=fun z hz=>by rw[eth] at hz;have:=ZQ hz;omega
  have s6:Av H6 (upd H6 p3 (.lst (vI th))):=.upd np3
  generalize hH7:upd H6 p3 (.lst (vI th))=H7 at s6 ⊢
  have h7:H7 p3=some (.lst (vI th)):=by rw[← hH7];exact Af
  clear hH7
  have s17:=s15.trans s6
  have h5':=s6 _ _ h5
  refine⟨_,rfl,_,rfl,⟨_,s17.seq hS⟩,GP (K:=K) (a:=a) (xs:=vS cl) (fun i ys H8=>H8=H7∧ys=vI (nts (Wo cl i))) ⟨rfl,rfl⟩ ?_ ?_ ?_ ?_⟩
  ·rintro i ys H8 hi ⟨rfl,rfl⟩
   rw[BJ] at hi
   exact⟨s17.seq hS,by rw[BR,R0,Yi hi];exact AjQ _⟩
  ·rw[BJ];omega
  ·rintro i xv ys H8 hi hxv ⟨rfl,rfl⟩
   obtain⟨u,hu,rfl⟩:=GR hxv
   obtain⟨j1,j2,j3⟩:=ZM (mf2 u (AjT hu))
   refine Ge.no ?_
   refine⟨_,rfl,.inl ⟨rfl,_,SqL.of h5'⟩,_,rfl,q2,(unl cl).map tx,tx u,_,rfl,rfl,(by rw[← KH];exact h5'),j1,j2,(by rw[AjP];omega),?_⟩
   refine CN.of hi ⟨rfl,?_⟩
   rw[Ie,ZP,Yh hu]
  rintro ys H8 p4 ⟨rfl,rfl⟩ np4
  rw[BJ,Yg]
  obtain⟨tr,etr⟩:∃ tr,tr=nts (num cl):=⟨_,rfl⟩
  rw[← etr] at k ⊢
  have ltr:tr.length=n:=by rw[etr,R0,Z7,hn]
  have htr:∀ z∈tr,0≤z∧z<((unl cl).length:Int):=fun z hz=>by rw[etr] at hz;exact ZQ hz
  have s8:Av H8 (upd H8 p4 (.lst (vI tr))):=.upd np4
  generalize hH9:upd H8 p4 (.lst (vI tr))=H9 at s8 ⊢
  have h9:H9 p4=some (.lst (vI tr)):=by rw[← hH9];exact Af
  clear hH9
  have s19:=s17.trans s8
  have h9t:=s8 _ _ h7
  have h9u:=s8 _ _ h5'
  refine⟨_,rfl,_,rfl,_,rfl,⟨_,SqL.of h9u⟩,GP (K:=K) (a:=q2) (xs:=vS (unl cl)) (fun i ys H10=>Av H9 H10∧∃(rs:List Addr) (tss:List (List Int)),ys=rs.map V.ref∧rs.length=i∧tss.length=i∧(∀ ks∈tss,Rs ks)∧∀(j:Nat) (r:Addr) (ks:List Int),rs[j]?=some r→tss[j]?=some ks→H10 r=some (.lst (vI ks)))
   ⟨.refl _,[],[],rfl,rfl,rfl,fun _ h=>absurd h (by simp),fun j r ks h=>(by simp at h)⟩ ?_ ?_ ?_ ?_⟩
  ·rintro i ys H10 hi ⟨s10,rs,tss,rfl,e,_⟩
   exact⟨SqL.of (s10 _ _ h9u),by rw[AjP];omega⟩
  ·rw[BJ];omega
  ·rintro i xv ys H10 hi hxv ⟨s10,rs,tss,rfl,e,e2,hR,hrs⟩
   obtain⟨u,hu,rfl⟩:=GR hxv
   refine Ge.no ?_
   refine⟨_,rfl,_,rfl,p3,th,u,rfl,s10 _ _ h9t,?_,?_,hth,fun l ks H11 s11 nl hl R _=>?_⟩
   ·rw[C.hm u (mg2 u (AjT hu))];exact lth
   ·rw[C.hm u (mg2 u (AjT hu))];exact m40
   refine CN.of hi ⟨s10.trans s11,rs++[l],tss++[ks],by rw[AjY];rfl,by rw[AjR,e];rfl,by rw[AjR,e2];rfl,fun x hx=>?_,fun j r x h1 h2=>?_⟩
   ·rcases List.mem_append.mp hx with h | h
    ·exact hR x h
    ·rw[List.mem_singleton.mp h];exact R
   ·by_cases hj:j<rs.length
    ·rw[Aki hj] at h1
     rw[Aki (by omega)] at h2
     exact s11 _ _ (hrs j r x h1 h2)
    ·have hj2:j=i:=by
      have:=(List.getElem?_eq_some_iff.mp h1).1
      rw[AjR] at this
      simp at this
      omega
     subst hj2
     rw[Akr (by omega),e,Ak4] at h1
     rw[Akr (by omega),e2,Ak4] at h2
     cases h1
     cases h2
     exact hl
  rintro ys H10 p5 ⟨s10,rs,tss,rfl,lrs,AiA,hR,hrs⟩ np5
  rw[BJ] at lrs AiA
  have s11:Av H9 (upd H10 p5 (.lst (rs.map V.ref))):=s10.new np5
  have sn:Av H10 (upd H10 p5 (.lst (rs.map V.ref))):=.upd np5
  generalize Ahu:upd H10 p5 (.lst (rs.map V.ref))=H11 at s11 sn ⊢
  have h11:H11 p5=some (.lst (rs.map V.ref)):=by rw[← Ahu];exact Af
  clear Ahu
  refine⟨_,rfl,fun x dx nx ndx hne=>?_⟩
  have sz:Av H11 (upd (upd H11 dx (.own x)) x (.ins t.FQ dx [])):=(Av.upd ndx).new (by rw[Aq (fun z=>hne z.symm)];exact nx)
  refine⟨x,dx,p3,p5,p4,rs,th,tss,tr,rfl,Af,sz _ _ (s11 _ _ h9t),⟨sz _ _ h11,by omega,fun j r ks e1 e2=>sz _ _ (sn _ _ (hrs j r ks e1 e2))⟩,sz _ _ (s11 _ _ h9),?_,fun a' b' c' qs H' sb _ _ _ _ D=>⟨rfl,?_⟩⟩
  ·exact { m1:=by omega,m40:=by omega,t1:=by omega,t40:=by omega,n1:=by omega,n40:=by omega,hth:=hth,hti:=hR,htr:=fun v hv=>by have:=htr v hv;omega }
  ·have nx0:H x=none:=by
    cases e:H x with
    | none=>rfl
    | some o=>rw[s11 _ _ (s19 _ _ e)] at nx;cases nx
   refine k x dx a' b' c' qs tss H' (fun b o e=>?_) nx0 D
   have e11:=s11 _ _ (s19 _ _ e)
   exact sb b o (fun z=>by rw[z,nx] at e11;cases e11) (sz _ _ e11)
theorem Ahv{x e p:Nat}(h:hs x e p≠33):Sq3 (hs x e p):=by
 unfold hs at h ⊢
 split
 ·split
  ·exact .inr (.inr rfl)
  ·exact .inl rfl
 ·split
  ·exact .inr (.inl rfl)
  ·rename_i h1 h2
   rw[if_neg h1,if_neg h2] at h
   exact absurd rfl h
theorem Ac1{pic:List (List Nat)}{m n:Nat}{wa we ua ue:List Nat}(C:Pic pic m n)(F:Fnd pic m n wa we ua ue)(hm:2≤m)(hn:2≤n):Hc (Hu pic ua ue) m n:=by
 have R:=C.rct
 have RH:=Vd (wa:=ua) (we:=ue) R
 refine⟨RH.1,RH.2,fun r hr c hc=>?_,hm,C.m40,hn,C.n40⟩
 obtain⟨j,hj,e⟩:=Ms.mp hr
 have hjn:j<n:=by rw[← RH.1];exact hj
 subst e
 obtain⟨k,hk,ek⟩:=PN.mp hc
 have hkm:k<m:=by rw[RH.row hjn] at hk;exact hk
 have g:=XS (wa:=ua) (we:=ue) R hjn hkm
 have g2:gc (Hu pic ua ue) j k=c:=ek
 rw[← g2,g]
 refine Ahv fun z=>?_
 obtain⟨h1,h2⟩:=Aey.mp z
 rcases F.cr j k hjn hkm with z | z
 ·exact h1 z
 ·exact h2 z
def AdP (K:PySem.W.Frag):Sp:=fun vs H Q _=>∃(a:Addr) (pic:List (List Nat)) (m n:Nat) (wa we:List Nat) (O:Nat→Nat),vs=[.ref a,.str (tx wa),.str (tx we)]∧SqL K H a (vS pic)∧Pic pic m n∧2≤m∧2≤n∧wa.length=m∧we.length=n∧(∀ c∈wa,Co c∨c=63)∧(∀ c∈we,Co c∨c=63)∧Fit pic m n (wa++we) O ∧
 ∀(x:V) (H':Hp),Av H H'→Q x H'
theorem Jv(T:Txt K mg t):BK P w K mg base CX0 7 t.Ke t.Kf ["picture", "warp", "weft"] (AdP K):=by
 refine T.DP.F.ok Gk (fun vs H Q E h=>?_) (fun cdv A outer s H vs Q E hr h=>?_)
 ·obtain⟨a,pic,m,n,wa,we,O,rfl,_⟩:=h
  rfl
 ·obtain⟨a,pic,m,n,wa,we,O,rfl,hS,C,hm,hn,hwa,hwe,ca,ce,F,k⟩:=h
  have hsz:sizeLine=16777216:=sizeLine_eq
  refine⟨_,(Ab (Bh (Ag Fj (Aj (U3 (K:=K)) rfl T.Ae2 Abu (Aa (An ((Gi T).mono (by decide)) hr rfl T.Bd.m T.Bd.F.kp T.Bd.b .nil Bv (Aa (pv 0) Ac)) Ac)) Ae (Ak _))
    (Ad CK)
    Am)
   (Ab (Al (i:=3) Gk.nd rfl (Or.inl rfl) (An ((Es T).mono (by decide)) hr rfl T.Bo.m T.Bo.F.kp T.Bo.b .nil Bv (Aa (pv 0) (Aa (pv 1) (Aa (pv 2) Ac)))))
   (Ab (Bh (Ag Cy (Bb (BX (K:=K)) (pv 3) Ae (fun _ _=>rfl)) Az (Ak _))
    (Ad (Ba (pv 3)))
    Am)
   (Ab (Al (i:=4) Gk.nd rfl (Or.inl rfl) (An ((Qc T).mono (by decide)) hr rfl T.GC.m T.GC.F.kp T.GC.b .nil Bv (Aa (An ((HS T).mono (by decide)) hr rfl T.Dk.m T.Dk.F.kp T.Dk.b .nil Bv (Aa (pv 0) (Aa (Bb (BX (K:=K)) (pv 3) Ae (fun _ _=>rfl)) (Aa (Bb (BX (K:=K)) (pv 3) Ae (fun _ _=>rfl)) Ac)))) Ac)))
   (Ab (Bh (Ag Cy (Bb (BX (K:=K)) (pv 4) Ae (fun _ _=>rfl)) Az (Ak _))
    (Ad (Ba (Eh (Aa Az (Aa (Bb (BX (K:=K)) (pv 3) Ae (fun _ _=>rfl)) (Aa (Bb (BX (K:=K)) (pv 3) Ae (fun _ _=>rfl)) (Aa (Bb (BX (K:=K)) (pv 4) Ae (fun _ _=>rfl)) Ac)))))))
    Am)
   (Ad (Ba (Eh (Aa Az (Aa (An ((TV T).mono (by decide)) hr rfl T.Je.m T.Je.F.kp T.Je.b .nil Bv (Aa (Bb (BX (K:=K)) (pv 4) Ae (fun _ _=>rfl)) Ac)) (Aa (Bb (BX (K:=K)) (pv 3) Ae (fun _ _=>rfl)) (Aa (Bb (BX (K:=K)) (pv 3) Ae (fun _ _=>rfl)) Ac)))))))))))),?_⟩
  refine⟨_,rfl,a,pic,m,n,rfl,hS,C,fun p hp=>?_⟩
  have s1:Av H (upd H p (.tup [.int (m:Int),.int (n:Int)])):=.upd hp
  have hp1:(upd H p (.tup [.int (m:Int),.int (n:Int)])) p=some (.tup (vI [(m:Int),(n:Int)])):=Af
  generalize upd H p (.tup [.int (m:Int),.int (n:Int)])=H1 at s1 hp1 ⊢
  refine⟨p,[(m:Int),(n:Int)],rfl,SqT.of hp1,(by show 0<2;decide),fun M hM _=>?_⟩
  refine⟨_,_,rfl,rfl,_,rfl,?_⟩
  refine CJ (fun h=>?_) (fun _=>?_)
  ·exfalso
   rcases List.mem_cons.mp hM with e | e
   ·rw[e] at h;omega
   ·rw[List.mem_singleton.mp e] at h;omega
  refine⟨_,rfl,_,rfl,_,rfl,a,pic,m,n,wa,we,O,rfl,s1.seq hS,C,hwa,hwe,ca,ce,F,fun q H2 ua ue s2 hq F2=>?_⟩
  refine⟨_,rfl,_,_,_,_,rfl,rfl,SqT.of hq,Bm (by decide) rfl,rfl,_,rfl,?_⟩
  refine By (fun z=>by revert z;decide +kernel) ?_
  have ca2:∀ c∈ua,Co c:=fun c hc=>by
   obtain⟨j,hj,rfl⟩:=Aky hc
   have:=(F2.ca j (by rw[← F2.la];exact hj)).1
   rwa [show ua.getD j 0=ua[j] by simp[List.getD,hj]] at this
  have ce2:∀ c∈ue,Co c:=fun c hc=>by
   obtain⟨j,hj,rfl⟩:=Aky hc
   have:=(F2.ce j (by rw[← F2.le];exact hj)).1
   rwa [show ue.getD j 0=ue[j] by simp[List.getD,hj]] at this
  have u2:=s1.trans s2
  refine⟨_,rfl,_,rfl,_,_,_,_,rfl,rfl,SqT.of hq,Bm (by decide) rfl,_,rfl,_,_,_,_,rfl,rfl,SqT.of hq,Bm (by decide) rfl,a,pic,m,n,ua,ue,rfl,u2.seq hS,C,F2.la,F2.le,ca2,ce2,Ae3 C F2,fun l H3 s3 hl=>?_⟩
  have u3:=u2.trans s3
  have hq3:=s3 _ _ hq
  refine⟨l,_,m,n,rfl,SqL.of hl,Ac1 C F2 hm hn,fun p2 lc H4 s4 hp4=>?_,fun p2 lr lf cf H4 s4 hp4 hlr Ccf=>?_⟩
  ·have hq4:=s4 _ _ hq3
   refine⟨_,rfl,_,_,_,_,rfl,rfl,SqT.of hp4,Bm (by decide) rfl,rfl,_,rfl,?_⟩
   refine Ej rfl ?_
   refine⟨_,rfl,_,_,_,_,rfl,rfl,SqT.of hq4,Bm (by decide) rfl,_,rfl,_,_,_,_,rfl,rfl,SqT.of hq4,Bm (by decide) rfl,_,rfl,_,_,_,_,rfl,rfl,SqT.of hp4,Bm (by decide) rfl,(by show 4≤sizeLine;omega),fun tp ntp=>?_⟩
   exact k _ _ ((u3.trans s4).new ntp)
  ·have hq4:=s4 _ _ hq3
   refine⟨_,rfl,_,_,_,_,rfl,rfl,SqT.of hp4,Bm (by decide) rfl,rfl,_,rfl,?_⟩
   refine By (fun z=>by revert z;decide +kernel) ?_
   refine⟨_,rfl,_,_,_,_,rfl,rfl,SqT.of hp4,Bm (by decide) rfl,lr,cf,m,n,rfl,SqL.of hlr,Ccf,fun d dx a' b' c' qs tss H5 s5 nd D=>?_⟩
   have hq5:=s5 _ _ hq4
   refine⟨_,rfl,_,_,_,_,rfl,rfl,SqT.of hq5,Bm (by decide) rfl,_,rfl,_,_,_,_,rfl,rfl,SqT.of hq5,Bm (by decide) rfl,(by show 4≤sizeLine;omega),fun tp ntp=>?_⟩
   exact k _ _ (((u3.trans s4).trans s5).new ntp)
instance (c:Nat):Decidable (Sg c):=inferInstanceAs (Decidable (_∨_))
theorem AiB(c:Nat):(!(!(Builtin.Str.occurrences "#." ⟨#[c]⟩ 0 (Str.length "#.") 1).isEmpty))=!decide (Sg c):=by
 rw[StrLaws.found_one]
 have e:(("#." : Str)).cps.toList=[35,46]:=by decide +kernel
 rw[e]
 congr 1
 apply decide_eq_decide.mpr
 unfold Sg
 simp only [Akl,Akm,or_false]
def AaN (cl:List (List Nat)):Prop:=¬∃ m n,Cl cl m n
def Ac2 (t:Adr):Sp:=fun vs H Q E=>∃(u:List Nat) (m:Nat),vs=[.str (tx u),.int (m:Int),.str "#."]∧u.length≤1000∧((u.length=m∧∀ c∈u,Sg c)→Q .non H)∧(¬(u.length=m∧∀ c∈u,Sg c)→E (.ref t.Bc) none H)
theorem TX(T:Txt K mg t):BK P w K mg base (CX1 P w) 1 t.HJ t.HN ["text", "ends", "signs"] (Ac2 t):=by
 refine T.Dl.F.okX Ez (fun vs H Q E h=>?_) (fun cdv A outer s H vs Q E hr h=>?_)
 ·obtain⟨u,m,rfl,_⟩:=h
  rfl
 ·obtain⟨u,m,rfl,hl,k1,k2⟩:=h
  have hsz:sizeLine=16777216:=sizeLine_eq
  refine⟨_,(Ab (Bh (Ag Iz (Aj Bt rfl T.BW Bs (Aa (pv 0) Ac)) (pv 1) (Ak _))
    (Ad (G4 Jy rfl (fun _ _ z=>z) PySem.F.excBase_ValueError JV PySem.F.excBase_ValueError T.Dg.q rfl T.Fb (Aa Az Ac)))
    Am)
   (Ad (Zx fun hfr=>(Cp (Ade Jy hfr) rfl (Nk (pv 0)) (Bu (i:=3) Ez.nd rfl (Or.inl rfl))
    (Ad (Bh (Ag FN (pv 3) (pv 2) rfl)
     (Ad (G4 Jy rfl (fun _ _ z=>z) PySem.F.excBase_ValueError JV PySem.F.excBase_ValueError T.Dg.q rfl T.Fb (Aa Az Ac)))
     Am)))))),?_⟩
  refine⟨_,rfl,_,rfl,(by rw[Ax];omega),_,rfl,rfl,_,rfl,?_⟩
  rw[Ax]
  by_cases hm:u.length=m
  ·refine Gz (by rw[hm]) ?_
   refine⟨_,rfl,_,rfl,JS (z:=tx u) (fun i σ H2=>∃ v,σ=[some (.str (tx u)),some (.int (m:Int)),some (.str "#."),v]∧H2=H∧∀ c∈u.take i,Sg c) ⟨none,rfl,rfl,fun c h=>(by simp at h)⟩ ?_ ?_⟩
   ·rintro i c σ H2 hc ⟨v,rfl,rfl,hall⟩
    rw[JT] at hc
    refine⟨_,rfl,_,rfl,_,_,rfl,rfl,_,rfl,?_⟩
    rw[AiB]
    by_cases hg:Sg c
    ·refine Gz hg ?_
     refine⟨_,rfl,rfl,fun d hd=>?_⟩
     rw[Akp,hc] at hd
     rcases List.mem_append.mp hd with h | h
     ·exact hall d h
     ·have:d=c:=by simpa using h
      rw[this];exact hg
    ·refine M5 hg ?_
     exact⟨by decide,k2 fun z=>hg (z.2 c (AjT hc))⟩
   ·rintro σ H2 ⟨v,rfl,rfl,hall⟩
    refine k1 ⟨hm,fun c hc=>hall c ?_⟩
    have e:u.take (tx u).cps.size=u:=by
     rw[Akw]
     have:=Ax u
     unfold Str.length at this
     omega
    rw[e]
    exact hc
  ·refine M5 (fun z=>hm (by injection z with z;omega)) ?_
   exact⟨by decide,k2 fun z=>hm z.1⟩
def AfW (K:PySem.W.Frag)(t:Adr):Sp:=fun vs H Q E=>∃(a:Addr) (cl:List (List Nat)),vs=[.ref a,.int 1,.str "#."]∧SqL K H a (vS cl)∧cl.length≤1000∧(∀ u∈cl,u.length≤1000)∧(∀ m n,Cl cl m n→∀ p,H p=none→Q (.ref p) (upd H p (.tup [.int (m:Int),.int (n:Int)])))∧(AaN cl→E (.ref t.Bc) none H)
theorem Og(T:Txt K mg t):BK P w K mg base (CX1 P w) 2 t.FT t.FW ["texts", "least", "signs"] (AfW K t):=by
 refine T.BV.F.okX Ci (fun vs H Q E h=>?_) (fun cdv A outer s H vs Q E hr h=>?_)
 ·obtain⟨a,cl,rfl,_⟩:=h
  rfl
 ·obtain⟨a,cl,rfl,hS,l1,l2,k1,k2⟩:=h
  have hsz:sizeLine=16777216:=sizeLine_eq
  have hlen:(vS cl).length=cl.length:=BJ cl
  refine⟨_,(Ab (Bh (PW.pt (pw_or (Ag Fj (Aj (Ar (K:=K)) rfl T.BW Bs (Aa (pv 0) Ac)) (pv 1) (Ak _)) (pw_or1 (Ag Hq (Aj (Ar (K:=K)) rfl T.BW Bs (Aa (pv 0) Ac)) (Ao (v:=.int 40) rfl T.Ck.choose_spec ⟨_,rfl⟩) (Ak _)))))
    (Ad (G4 Jy rfl (fun _ _ z=>z) PySem.F.excBase_ValueError JV PySem.F.excBase_ValueError T.Dg.q rfl T.Fb (Aa Az Ac)))
    Am)
   (Ab (Al (i:=3) Ci.nd rfl (Or.inl rfl) (Aj Bt rfl T.BW Bs (Aa (Bb (Ay (K:=K)) (pv 0) Ae (fun _ _=>rfl)) Ac)))
   (Ab (Bh (PW.pt (pw_or (Ag Fj (pv 3) (pv 1) (Ak _)) (pw_or1 (Ag Hq (pv 3) (Ao (v:=.int 40) rfl T.Ck.choose_spec ⟨_,rfl⟩) (Ak _)))))
    (Ad (G4 Jy rfl (fun _ _ z=>z) PySem.F.excBase_ValueError JV PySem.F.excBase_ValueError T.Dg.q rfl T.Fb (Aa Az Ac)))
    Am)
   (Ab (Zx fun hfr=>(Cp (Ade Jy hfr) rfl (Cz (K:=K) (pv 0)) (Bu (i:=4) Ci.nd rfl (Or.inl rfl))
    (Ad (Bp (An ((TX T).mono (by decide)) hr rfl T.Dl.m T.Dl.F.kp T.Dl.b .nil IK (Aa (pv 4) (Aa (pv 3) (Aa (pv 2) Ac))))))))
   (Ad (Ba (Eh (Aa (pv 3) (Aa (Aj (Ar (K:=K)) rfl T.BW Bs (Aa (pv 0) Ac)) Ac))))))))),?_⟩
  refine⟨_,rfl,_,_,rfl,.inl hS,_,rfl,_,_,rfl,rfl,_,rfl,?_⟩
  rw[hlen]
  refine CJ (fun h=>Iu ⟨by decide,k2 fun⟨m,n,C⟩=>by have:=C.hn;have:=C.n1;omega⟩) (fun g1=>?_)
  refine⟨_,rfl,_,_,rfl,.inl hS,_,_,rfl,rfl,_,rfl,?_⟩
  rw[hlen]
  refine CJ (fun h=>⟨by decide,k2 fun⟨m,n,C⟩=>by have:=C.hn;have:=C.n40;omega⟩) (fun g2=>?_)
  have h0:0<cl.length:=by omega
  have lm:=l2 cl[0] (AjU h0)
  obtain⟨m,hm⟩:∃ m,m=cl[0].length:=⟨_,rfl⟩
  have hm':∀ m' n',Cl cl m' n'→m'=m:=fun m' n' C=>by rw[hm];exact(C.hm cl[0] (AjU h0)).symm
  refine⟨_,rfl,_,_,_,_,rfl,rfl,hS,Bm (by decide) (GQ (AjO h0)),_,rfl,(by rw[Ax];omega),?_⟩
  rw[Ax,← hm]
  refine⟨_,rfl,_,rfl,_,_,rfl,rfl,_,rfl,?_⟩
  refine CJ (fun h=>Iu ⟨by decide,k2 fun⟨m,n,C⟩=>by have:=hm' _ _ C;have:=C.m1;omega⟩) (fun g3=>?_)
  refine⟨_,rfl,_,_,rfl,rfl,_,rfl,?_⟩
  refine CJ (fun h=>⟨by decide,k2 fun⟨m,n,C⟩=>by have:=hm' _ _ C;have:=C.m40;omega⟩) (fun g4=>?_)
  refine⟨_,rfl,_,rfl,⟨_,hS⟩,DW (K:=K) (a:=a) (xs:=vS cl) (fun i σ H2=>∃ v,σ=[some (.ref a),some (.int 1),some (.str "#."),some (.int (m:Int)),v]∧H2=H∧∀ u∈cl.take i,u.length=m∧∀ c∈u,Sg c) ⟨none,rfl,rfl,fun u h=>(by simp at h)⟩ (fun i σ H2 _ ⟨_,_,e,_⟩=>e▸hS) ?_ ?_⟩
  ·rintro i x σ H2 hx ⟨v,rfl,rfl,hall⟩
   obtain⟨u,hu,rfl⟩:=GR hx
   have um:=AjT hu
   refine⟨_,rfl,_,rfl,_,rfl,u,m,rfl,l2 u um,fun hg=>?_,fun hb=>k2 fun⟨m',n',C⟩=>hb ⟨by rw[← hm' _ _ C];exact C.hm u um,C.sg u um⟩⟩
   refine⟨_,rfl,rfl,fun u' hu'=>?_⟩
   rw[Akp,hu] at hu'
   rcases List.mem_append.mp hu' with h | h
   ·exact hall u' h
   ·have:u'=u:=by simpa using h
    rw[this];exact hg
  ·rintro σ H2 ⟨v,rfl,rfl,hall⟩
   rw[hlen,Ak2] at hall
   refine⟨_,rfl,_,rfl,_,_,rfl,.inl hS,(by show 2≤sizeLine;decide),fun p hp=>?_⟩
   rw[hlen]
   exact k1 m cl.length ⟨rfl,fun u hu=>(hall u hu).1,fun u hu=>(hall u hu).2,by omega,by omega,by omega,by omega⟩ p hp
def AfX (K:PySem.W.Frag)(t:Adr):Sp:=fun vs H Q E=>∃(a:Addr) (cl:List (List Nat)),vs=[.ref a]∧SqL K H a (vS cl)∧cl.length≤1000∧(∀ u∈cl,u.length≤1000)∧(∀ m n,Cl cl m n→∀ p,H p=none→Q (.ref p) (upd H p (.tup [.int (m:Int),.int (n:Int)])))∧(AaN cl→E (.ref t.Bc) none H)
theorem Wq(T:Txt K mg t):BK P w K mg base (CX1 P w) 3 t.Nu t.Nv ["cloth"] (AfX K t):=by
 refine T.measured.F.okX QM (fun vs H Q E h=>?_) (fun cdv A outer s H vs Q E hr h=>?_)
 ·obtain⟨a,cl,rfl,_⟩:=h
  rfl
 ·obtain⟨a,cl,rfl,hS,l1,l2,k1,k2⟩:=h
  exact⟨_,(Ad (Ba (An ((Og T).mono (by decide)) hr rfl T.BV.m T.BV.F.kp T.BV.b .nil IK (Aa (pv 0) (Aa Ae (Aa Az Ac)))))),_,rfl,a,cl,rfl,hS,l1,l2,k1,k2⟩
def Okq (q:Bool)(c:Nat):Prop:=Co c∨(q=true∧c=63)
instance (c:Nat):Decidable (Co c):=inferInstanceAs (Decidable (_∧_))
instance (q:Bool) (c:Nat):Decidable (Okq q c):=inferInstanceAs (Decidable (_∨_))
def sgs (q:Bool):Str:=if q then "abcdef" ++ "?" else "abcdef"
def Thr (q:Bool)(u:List Nat)(m:Nat):Prop:=u.length=m∧∀ c∈u,Okq q c
theorem AiC(q:Bool)(c:Nat):(!(!(Builtin.Str.occurrences (sgs q) ⟨#[c]⟩ 0 (Str.length (sgs q)) 1).isEmpty))=!decide (Okq q c):=by
 rw[StrLaws.found_one]
 congr 1
 apply decide_eq_decide.mpr
 cases q with
 | false =>
  rw[show(sgs false).cps.toList=[97,98,99,100,101,102] by decide +kernel]
  unfold Okq Co
  simp only [Akl,Akm,or_false,AkH,false_and]
  omega
 | true =>
  rw[show(sgs true).cps.toList=[97,98,99,100,101,102,63] by decide +kernel]
  unfold Okq Co
  simp only [Akl,Akm,or_false,true_and]
  omega
def AdQ (t:Adr):Sp:=fun vs H Q E=>∃(u:List Nat) (m:Nat) (q:Bool),vs=[.str (tx u),.int (m:Int),.str (sgs q)]∧u.length≤1000∧(Thr q u m→Q .non H)∧(¬Thr q u m→E (.ref t.Aw) none H)
theorem CP(T:Txt K mg t):BK P w K mg base (CX1 P w) 1 t.Gp t.Gq ["text", "count", "signs"] (AdQ t):=by
 refine T.Ah.F.okX Dv (fun vs H Q E h=>?_) (fun cdv A outer s H vs Q E hr h=>?_)
 ·obtain⟨u,m,q,rfl,_⟩:=h
  rfl
 ·obtain⟨u,m,q,rfl,hl,k1,k2⟩:=h
  have hsz:sizeLine=16777216:=sizeLine_eq
  refine⟨_,(Ab (Bh (Ag Iz (Aj Bt rfl T.BW Bs (Aa (pv 0) Ac)) (pv 1) (Ak _))
    (Ad (G4 Jy rfl (fun _ _ z=>z) PySem.F.excBase_ValueError JV PySem.F.excBase_ValueError T.Cm.q rfl T.DQ (Aa Az Ac)))
    Am)
   (Ad (Zx fun hfr=>(Cp (Ade Jy hfr) rfl (Nk (pv 0)) (Bu (i:=3) Dv.nd rfl (Or.inl rfl))
    (Ad (Bh (Ag FN (pv 3) (pv 2) rfl)
     (Ad (G4 Jy rfl (fun _ _ z=>z) PySem.F.excBase_ValueError JV PySem.F.excBase_ValueError T.Cm.q rfl T.DQ (Aa Az Ac)))
     Am)))))),?_⟩
  refine⟨_,rfl,_,rfl,(by rw[Ax];omega),_,rfl,rfl,_,rfl,?_⟩
  rw[Ax]
  by_cases hm:u.length=m
  ·refine Gz (by rw[hm]) ?_
   refine⟨_,rfl,_,rfl,JS (z:=tx u) (fun i σ H2=>∃ v,σ=[some (.str (tx u)),some (.int (m:Int)),some (.str (sgs q)),v]∧H2=H∧∀ c∈u.take i,Okq q c) ⟨none,rfl,rfl,fun c h=>(by simp at h)⟩ ?_ ?_⟩
   ·rintro i c σ H2 hc ⟨v,rfl,rfl,hall⟩
    rw[JT] at hc
    refine⟨_,rfl,_,rfl,_,_,rfl,rfl,_,rfl,?_⟩
    rw[AiC]
    by_cases hg:Okq q c
    ·refine Gz hg ?_
     refine⟨_,rfl,rfl,fun d hd=>?_⟩
     rw[Akp,hc] at hd
     rcases List.mem_append.mp hd with h | h
     ·exact hall d h
     ·have:d=c:=by simpa using h
      rw[this];exact hg
    ·refine M5 hg ?_
     exact⟨by decide,k2 fun z=>hg (z.2 c (AjT hc))⟩
   ·rintro σ H2 ⟨v,rfl,rfl,hall⟩
    refine k1 ⟨hm,fun c hc=>hall c ?_⟩
    have e:u.take (tx u).cps.size=u:=by
     rw[Akw]
     have:=Ax u
     unfold Str.length at this
     omega
    rw[e]
    exact hc
  ·refine M5 (fun z=>hm (by injection z with z;omega)) ?_
   exact⟨by decide,k2 fun z=>hm z.1⟩
def AeB (cl:List (List Nat)):Prop:=¬∃ m n,Pic cl m n
def AdR (K:PySem.W.Frag)(t:Adr):Sp:=fun vs H Q E=>∃(a:Addr) (cl:List (List Nat)),vs=[.ref a]∧SqL K H a (vS cl)∧cl.length≤1000∧(∀ u∈cl,u.length≤1000)∧(∀ m n,Pic cl m n→∀ p,H p=none→Q (.ref p) (upd H p (.tup [.int (m:Int),.int (n:Int)])))∧(AeB cl→E (.ref t.Aw) none H)
theorem FJ(T:Txt K mg t):BK P w K mg base (CX1 P w) 2 t.Gr t.Gs ["picture"] (AdR K t):=by
 refine T.Bd.F.okX CT (fun vs H Q E h=>?_) (fun cdv A outer s H vs Q E hr h=>?_)
 ·obtain⟨a,cl,rfl,_⟩:=h
  rfl
 ·obtain⟨a,cl,rfl,hS,l1,l2,k1,k2⟩:=h
  have hsz:sizeLine=16777216:=sizeLine_eq
  have hlen:(vS cl).length=cl.length:=BJ cl
  refine⟨_,(Ab (Bh (PW.pt (pw_or (Ag Fj (Aj (Ar (K:=K)) rfl T.BW Bs (Aa (pv 0) Ac)) Ae (Ak _)) (pw_or1 (Ag Hq (Aj (Ar (K:=K)) rfl T.BW Bs (Aa (pv 0) Ac)) (Ao (v:=.int 40) rfl T.Ck.choose_spec ⟨_,rfl⟩) (Ak _)))))
    (Ad (G4 Jy rfl (fun _ _ z=>z) PySem.F.excBase_ValueError JV PySem.F.excBase_ValueError T.Cm.q rfl T.DQ (Aa Az Ac)))
    Am)
   (Ab (Al (i:=1) CT.nd rfl (Or.inl rfl) (Aj Bt rfl T.BW Bs (Aa (Bb (Ay (K:=K)) (pv 0) Ae (fun _ _=>rfl)) Ac)))
   (Ab (Bh (PW.pt (pw_or (Ag Fj (pv 1) Ae (Ak _)) (pw_or1 (Ag Hq (pv 1) (Ao (v:=.int 40) rfl T.Ck.choose_spec ⟨_,rfl⟩) (Ak _)))))
    (Ad (G4 Jy rfl (fun _ _ z=>z) PySem.F.excBase_ValueError JV PySem.F.excBase_ValueError T.Cm.q rfl T.DQ (Aa Az Ac)))
    Am)
   (Ab (Zx fun hfr=>(Cp (Ade Jy hfr) rfl (Cz (K:=K) (pv 0)) (Bu (i:=2) CT.nd rfl (Or.inl rfl))
    (Ad (Bp (An ((CP T).mono (by decide)) hr rfl T.Ah.m T.Ah.F.kp T.Ah.b .nil IK (Aa (pv 2) (Aa (pv 1) (Aa (Ao (v:=.str "abcdef") rfl T.De.choose_spec ⟨_,rfl⟩) Ac))))))))
   (Ad (Ba (Eh (Aa (pv 1) (Aa (Aj (Ar (K:=K)) rfl T.BW Bs (Aa (pv 0) Ac)) Ac))))))))),?_⟩
  refine⟨_,rfl,_,_,rfl,.inl hS,_,_,rfl,rfl,_,rfl,?_⟩
  rw[hlen]
  refine CJ (fun h=>Iu ⟨by decide,k2 fun⟨m,n,C⟩=>by have:=C.hn;have:=C.n1;omega⟩) (fun g1=>?_)
  refine⟨_,rfl,_,_,rfl,.inl hS,_,_,rfl,rfl,_,rfl,?_⟩
  rw[hlen]
  refine CJ (fun h=>⟨by decide,k2 fun⟨m,n,C⟩=>by have:=C.hn;have:=C.n40;omega⟩) (fun g2=>?_)
  have h0:0<cl.length:=by omega
  have lm:=l2 cl[0] (AjU h0)
  obtain⟨m,hm⟩:∃ m,m=cl[0].length:=⟨_,rfl⟩
  have hm':∀ m' n',Pic cl m' n'→m'=m:=fun m' n' C=>by rw[hm];exact(C.hm cl[0] (AjU h0)).symm
  refine⟨_,rfl,_,_,_,_,rfl,rfl,hS,Bm (by decide) (GQ (AjO h0)),_,rfl,(by rw[Ax];omega),?_⟩
  rw[Ax,← hm]
  refine⟨_,rfl,_,_,rfl,rfl,_,rfl,?_⟩
  refine CJ (fun h=>Iu ⟨by decide,k2 fun⟨m,n,C⟩=>by have:=hm' _ _ C;have:=C.m1;omega⟩) (fun g3=>?_)
  refine⟨_,rfl,_,_,rfl,rfl,_,rfl,?_⟩
  refine CJ (fun h=>⟨by decide,k2 fun⟨m,n,C⟩=>by have:=hm' _ _ C;have:=C.m40;omega⟩) (fun g4=>?_)
  refine⟨_,rfl,_,rfl,⟨_,hS⟩,DW (K:=K) (a:=a) (xs:=vS cl) (fun i σ H2=>∃ v,σ=[some (.ref a),some (.int (m:Int)),v]∧H2=H∧∀ u∈cl.take i,u.length=m∧∀ c∈u,Co c) ⟨none,rfl,rfl,fun u h=>(by simp at h)⟩ (fun i σ H2 _ ⟨_,_,e,_⟩=>e▸hS) ?_ ?_⟩
  ·rintro i x σ H2 hx ⟨v,rfl,rfl,hall⟩
   obtain⟨u,hu,rfl⟩:=GR hx
   have um:=AjT hu
   refine⟨_,rfl,_,rfl,u,m,false,rfl,l2 u um,fun hg=>?_,fun hb=>k2 fun⟨m',n',C⟩=>hb ⟨by rw[← hm' _ _ C];exact C.hm u um,fun c hc=>.inl (C.co u um c hc)⟩⟩
   refine⟨_,rfl,rfl,fun u' hu'=>?_⟩
   rw[Akp,hu] at hu'
   rcases List.mem_append.mp hu' with h | h
   ·exact hall u' h
   ·have:u'=u:=by simpa using h
    rw[this]
    exact⟨hg.1,fun c hc=>(hg.2 c hc).elim id fun z=>absurd z.1 (by decide)⟩
  ·rintro σ H2 ⟨v,rfl,rfl,hall⟩
   rw[hlen,Ak2] at hall
   refine⟨_,rfl,_,rfl,_,_,rfl,.inl hS,(by show 2≤sizeLine;decide),fun p hp=>?_⟩
   rw[hlen]
   exact k1 m cl.length ⟨rfl,fun u hu=>(hall u hu).1,fun u hu=>(hall u hu).2,by omega,by omega,by omega,by omega⟩ p hp
structure Gv (K:PySem.W.Frag) (H:Hp) (a:Addr) (cl:List (List Nat)) (wa we:List Nat):Prop where
 s:SqL K H a (vS cl)
 l1:cl.length≤1000
 l2:∀ u∈cl,u.length≤1000
 wa:wa.length≤1000
 we:we.length≤1000
def Ac3 (K:PySem.W.Frag)(t:Adr):Sp:=fun vs H Q E=>∃(a:Addr) (cl:List (List Nat)) (wa we:List Nat),vs=[.ref a,.str (tx wa),.str (tx we)]∧Gv K H a cl wa we ∧
 ((AaN cl∧∀ H',Av H H'→E (.ref t.Bc) none H')∨∃ m n,Cl cl m n∧¬(Thr false wa m∧Thr false we n)∧∀ H',Av H H'→E (.ref t.Aw) none H')
theorem Ip(T:Txt K mg t):BK P w K mg base (CX1 P w) 4 t.Kc t.Kd ["cloth", "warp", "weft"] (Ac3 K t):=by
 refine T.DN.F.okX Hi (fun vs H Q E h=>?_) (fun cdv A outer s H vs Q E hr h=>?_)
 ·obtain⟨a,cl,wa,we,rfl,_⟩:=h
  rfl
 ·obtain⟨a,cl,wa,we,rfl,G,h⟩:=h
  refine⟨_,(Ab (Al (i:=3) Hi.nd rfl (Or.inl rfl) (An ((Wq T).mono (by decide)) hr rfl T.measured.m T.measured.F.kp T.measured.b .nil IK (Aa (pv 0) Ac))) (Ab (Bp (An ((CP T).mono (by decide)) hr rfl T.Ah.m T.Ah.F.kp T.Ah.b .nil IK (Aa (pv 1) (Aa (Bb (BX (K:=K)) (pv 3) Ae (fun _ _=>rfl)) (Aa (Ao (v:=.str "abcdef") rfl T.De.choose_spec ⟨_,rfl⟩) Ac))))) (Ab (Bp (An ((CP T).mono (by decide)) hr rfl T.Ah.m T.Ah.F.kp T.Ah.b .nil IK (Aa (pv 2) (Aa (Bb (BX (K:=K)) (pv 3) Ae (fun _ _=>rfl)) (Aa (Ao (v:=.str "abcdef") rfl T.De.choose_spec ⟨_,rfl⟩) Ac))))) LC))),?_⟩
  refine⟨_,rfl,a,cl,rfl,G.s,G.l1,G.l2,fun m n C p hp=>?_,fun hn=>?_⟩
  ·rcases h with ⟨z,_⟩ | ⟨m',n',C',hb,k⟩
   ·exact absurd ⟨m,n,C⟩ z
   have em:m'=m:=by
    have h0:0<cl.length:=by have:=C.hn;have:=C.n1;omega
    rw[← C.hm _ (AjU h0),← C'.hm _ (AjU h0)]
   have en:n'=n:=by rw[← C.hn,← C'.hn]
   subst em en
   have s1:Av H (upd H p (.tup [.int (m':Int),.int (n':Int)])):=.upd hp
   have hp1:(upd H p (.tup [.int (m':Int),.int (n':Int)])) p=some (.tup [.int (m':Int),.int (n':Int)]):=Af
   generalize upd H p (.tup [.int (m':Int),.int (n':Int)])=H1 at s1 hp1 ⊢
   refine⟨_,rfl,_,rfl,_,_,_,_,rfl,rfl,SqT.of hp1,Bm (by decide) rfl,wa,m',false,rfl,G.wa,fun g1=>?_,fun _=>k _ s1⟩
   exact⟨_,rfl,_,rfl,_,_,_,_,rfl,rfl,SqT.of hp1,Bm (by decide) rfl,we,n',false,rfl,G.we,fun g2=>absurd ⟨g1,g2⟩ hb,fun _=>k _ s1⟩
  ·rcases h with ⟨_,k⟩ | ⟨m',n',C',_⟩
   ·exact k _ (.refl _)
   ·exact absurd ⟨m',n',C'⟩ hn
theorem TY{cl:List (List Nat)}{m n m' n':Nat}(C:Pic cl m n)(C':Pic cl m' n'):m'=m∧n'=n:=by
 have h0:0<cl.length:=by have:=C.hn;have:=C.n1;omega
 exact⟨by rw[← C.hm _ (AjU h0),← C'.hm _ (AjU h0)],by rw[← C.hn,← C'.hn]⟩
def Yj (q:Bool)(K:PySem.W.Frag)(t:Adr):Sp:=fun vs H Q E=>∃(a:Addr) (cl:List (List Nat)) (wa we:List Nat),vs=[.ref a,.str (tx wa),.str (tx we)]∧Gv K H a cl wa we ∧
 (∀ m n,Pic cl m n→¬(Thr q wa m∧Thr q we n))∧∀ H',Av H H'→E (.ref t.Aw) none H'
theorem Jw(T:Txt K mg t):BK P w K mg base (CX1 P w) 3 t.Ld t.Le ["picture", "warp", "weft"] (Yj false K t):=by
 refine T.Dk.F.okX HH (fun vs H Q E h=>?_) (fun cdv A outer s H vs Q E hr h=>?_)
 ·obtain⟨a,cl,wa,we,rfl,_⟩:=h
  rfl
 ·obtain⟨a,cl,wa,we,rfl,G,hb,k⟩:=h
  refine⟨_,(Ab (Al (i:=3) HH.nd rfl (Or.inl rfl) (An ((FJ T).mono (by decide)) hr rfl T.Bd.m T.Bd.F.kp T.Bd.b .nil IK (Aa (pv 0) Ac))) (Ab (Bp (An ((CP T).mono (by decide)) hr rfl T.Ah.m T.Ah.F.kp T.Ah.b .nil IK (Aa (pv 1) (Aa (Bb (BX (K:=K)) (pv 3) Ae (fun _ _=>rfl)) (Aa (Ao (v:=.str "abcdef") rfl T.De.choose_spec ⟨_,rfl⟩) Ac))))) (Ab (Bp (An ((CP T).mono (by decide)) hr rfl T.Ah.m T.Ah.F.kp T.Ah.b .nil IK (Aa (pv 2) (Aa (Bb (BX (K:=K)) (pv 3) Ae (fun _ _=>rfl)) (Aa (Ao (v:=.str "abcdef") rfl T.De.choose_spec ⟨_,rfl⟩) Ac))))) LC))),?_⟩
  refine⟨_,rfl,a,cl,rfl,G.s,G.l1,G.l2,fun m n C p hp=>?_,fun hn=>k _ (.refl _)⟩
  have s1:Av H (upd H p (.tup [.int (m:Int),.int (n:Int)])):=.upd hp
  have hp1:(upd H p (.tup [.int (m:Int),.int (n:Int)])) p=some (.tup [.int (m:Int),.int (n:Int)]):=Af
  generalize upd H p (.tup [.int (m:Int),.int (n:Int)])=H1 at s1 hp1 ⊢
  refine⟨_,rfl,_,rfl,_,_,_,_,rfl,rfl,SqT.of hp1,Bm (by decide) rfl,wa,m,false,rfl,G.wa,fun g1=>?_,fun _=>k _ s1⟩
  exact⟨_,rfl,_,rfl,_,_,_,_,rfl,rfl,SqT.of hp1,Bm (by decide) rfl,we,n,false,rfl,G.we,fun g2=>absurd ⟨g1,g2⟩ (hb m n C),fun _=>k _ s1⟩
theorem Eg(T:Txt K mg t):BK P w K mg base (CX1 P w) 4 t.G7 t.G8 ["picture", "warp", "weft"] (Yj true K t):=by
 refine T.Bo.F.okX BL (fun vs H Q E h=>?_) (fun cdv A outer s H vs Q E hr h=>?_)
 ·obtain⟨a,cl,wa,we,rfl,_⟩:=h
  rfl
 ·obtain⟨a,cl,wa,we,rfl,G,hb,k⟩:=h
  have hsz:sizeLine=16777216:=sizeLine_eq
  have l7:Str.length "abcdef" + Str.length "?" ≤ sizeLine:=by rw[show Str.length "abcdef" + Str.length "?" = 7 from by decide +kernel];omega
  refine⟨_,(Ab (Al (i:=3) BL.nd rfl (Or.inl rfl) (An ((FJ T).mono (by decide)) hr rfl T.Bd.m T.Bd.F.kp T.Bd.b .nil IK (Aa (pv 0) Ac))) (Ab (Bp (An ((CP T).mono (by decide)) hr rfl T.Ah.m T.Ah.F.kp T.Ah.b .nil IK (Aa (pv 1) (Aa (Bb (BX (K:=K)) (pv 3) Ae (fun _ _=>rfl)) (Aa (Bg Cg (Ao (v:=.str "abcdef") rfl T.De.choose_spec ⟨_,rfl⟩) Az) Ac))))) (Ab (Bp (An ((CP T).mono (by decide)) hr rfl T.Ah.m T.Ah.F.kp T.Ah.b .nil IK (Aa (pv 2) (Aa (Bb (BX (K:=K)) (pv 3) Ae (fun _ _=>rfl)) (Aa (Bg Cg (Ao (v:=.str "abcdef") rfl T.De.choose_spec ⟨_,rfl⟩) Az) Ac))))) LC))),?_⟩
  refine⟨_,rfl,a,cl,rfl,G.s,G.l1,G.l2,fun m n C p hp=>?_,fun hn=>k _ (.refl _)⟩
  have s1:Av H (upd H p (.tup [.int (m:Int),.int (n:Int)])):=.upd hp
  have hp1:(upd H p (.tup [.int (m:Int),.int (n:Int)])) p=some (.tup [.int (m:Int),.int (n:Int)]):=Af
  generalize upd H p (.tup [.int (m:Int),.int (n:Int)])=H1 at s1 hp1 ⊢
  refine⟨_,rfl,_,rfl,_,_,_,_,rfl,rfl,SqT.of hp1,Bm (by decide) rfl,_,_,rfl,rfl,l7,wa,m,true,rfl,G.wa,fun g1=>?_,fun _=>k _ s1⟩
  exact⟨_,rfl,_,rfl,_,_,_,_,rfl,rfl,SqT.of hp1,Bm (by decide) rfl,_,_,rfl,rfl,l7,we,n,true,rfl,G.we,fun g2=>absurd ⟨g1,g2⟩ (hb m n C),fun _=>k _ s1⟩
def Ac4 (K:PySem.W.Frag)(t:Adr):Sp:=fun vs H Q E=>∃(a:Addr) (cl:List (List Nat)) (wa we:List Nat),vs=[.ref a,.str (tx wa),.str (tx we)]∧Gv K H a cl wa we ∧
 (∀ m n,Pic cl m n→2≤m→2≤n→¬(Thr true wa m∧Thr true we n))∧∀ H',Av H H'→E (.ref t.Aw) none H'
theorem Ir(T:Txt K mg t):BK P w K mg base (CX1 P w) 5 t.Ke t.Kf ["picture", "warp", "weft"] (Ac4 K t):=by
 refine T.DP.F.okX Gk (fun vs H Q E h=>?_) (fun cdv A outer s H vs Q E hr h=>?_)
 ·obtain⟨a,cl,wa,we,rfl,_⟩:=h
  rfl
 ·obtain⟨a,cl,wa,we,rfl,G,hb,k⟩:=h
  have hsz:sizeLine=16777216:=sizeLine_eq
  refine⟨_,(Ab (Bh (Ag Fj (Aj (U3 (K:=K)) rfl T.Ae2 Abu (Aa (An ((FJ T).mono (by decide)) hr rfl T.Bd.m T.Bd.F.kp T.Bd.b .nil IK (Aa (pv 0) Ac)) Ac)) Ae (Ak _))
    (Ad (G4 Jy rfl (fun _ _ z=>z) PySem.F.excBase_ValueError JV PySem.F.excBase_ValueError T.Cm.q rfl T.DQ (Aa Az Ac)))
    Am) (Ab (Al (i:=3) Gk.nd rfl (Or.inl rfl) (An ((Eg T).mono (by decide)) hr rfl T.Bo.m T.Bo.F.kp T.Bo.b .nil IK (Aa (pv 0) (Aa (pv 1) (Aa (pv 2) Ac))))) LC)),?_⟩
  refine⟨_,rfl,a,cl,rfl,G.s,G.l1,G.l2,fun m n C p hp=>?_,fun hn=>k _ (.refl _)⟩
  have s1:Av H (upd H p (.tup [.int (m:Int),.int (n:Int)])):=.upd hp
  have hp1:(upd H p (.tup [.int (m:Int),.int (n:Int)])) p=some (.tup (vI [(m:Int),(n:Int)])):=Af
  generalize upd H p (.tup [.int (m:Int),.int (n:Int)])=H1 at s1 hp1 ⊢
  refine⟨p,[(m:Int),(n:Int)],rfl,SqT.of hp1,(by show 0<2;decide),fun M hM hall=>?_⟩
  refine⟨_,_,rfl,rfl,_,rfl,?_⟩
  have M1:=hall m (Ake ..)
  have M2:=hall n (Akk _ (Ake ..))
  refine CJ (fun h=>⟨by decide,k _ s1⟩) (fun h=>?_)
  exact⟨_,rfl,_,rfl,_,rfl,a,cl,wa,we,rfl,⟨s1.seq G.s,G.l1,G.l2,G.wa,G.we⟩,fun m' n' C'=>by
   obtain⟨e1,e2⟩:=TY C C'
   rw[e1,e2]
   exact hb m n C (by omega) (by omega),fun H' s=>k _ (s1.trans s)⟩
theorem Cq{K:PySem.W.Frag}{C D:Addr}{b:Bool}(hC:PySem.W.mroIn K C (.ref C)=some true)(i:PySem.W.isClsIn K D=true)(j:PySem.W.typeIn K (.ref D)=some (.type "type")) (r:PySem.W.mroIn K C (.ref D)=some b):PySem.W.kitOne K (.ref C) (.ref D)=some b:=by
 unfold PySem.W.kitOne
 by_cases q:(Value.ref C == Value.ref D)=true
 ·rw[if_pos q]
  have e:C=D:=Value.ref.inj (beq_iff_eq.mp q)
  subst e
  rw[hC] at r
  exact r
 ·rw[if_neg q]
  unfold PySem.W.kitCls
  have i':(PySem.W.clsIn K D).isSome=true:=i
  have h:((PySem.W.clsIn K D).isSome && PySem.W.typeIn K (.ref D) == some (.type "type"))=true:=by rw[i',j];rfl
  show(if _ then _ else _)=_
  rw[if_pos h]
  exact r
theorem any_false{K:PySem.W.Frag}{c:Value}:∀{l:List Value},(∀ x∈l,PySem.W.kitOne K c x=some false)→PySem.W.kitAny K c l=some false
 | [],_=>by unfold PySem.W.kitAny;rfl
 | x::l,h=>by
  unfold PySem.W.kitAny
  rw[h x (by simp)]
  exact any_false fun y hy=>h y (by simp[hy])
theorem Thr.co{u:List Nat}{m:Nat}(h:Thr false u m):∀ c∈u,Co c:=fun c hc=>(h.2 c hc).elim id fun z=>absurd z.1 (by decide)
theorem Thr.cq{u:List Nat}{m:Nat}(h:Thr true u m):∀ c∈u,Co c∨c=63:=fun c hc=>(h.2 c hc).imp id fun z=>z.2
theorem nw{i j:Int}(h:i≠j):¬(V.int i=V.int j):=fun z=>by injection z with z;exact h z
def Tld (wy:Int)(cl:List (List Nat))(wa we:List Nat):Prop :=
 (wy=0∧∃ m n,Cl cl m n∧Thr false wa m∧Thr false we n) ∨
 (wy=1∧∃ m n,Pic cl m n∧Thr false wa m∧Thr false we n∧∀ r∈Hu cl wa we,33∉r) ∨
 (wy=2∧∃ m n O,Pic cl m n∧Thr true wa m∧Thr true we n∧Fit cl m n (wa++we) O) ∨
 (wy=3∧∃ m n O,Pic cl m n∧2≤m∧2≤n∧Thr true wa m∧Thr true we n∧Fit cl m n (wa++we) O)
def Rfk (wy:Int)(cl:List (List Nat))(wa we:List Nat):Prop :=
 (wy=0∧∃ m n,Cl cl m n∧¬(Thr false wa m∧Thr false we n)) ∨
 (wy=1∧∀ m n,Pic cl m n→¬(Thr false wa m∧Thr false we n)) ∨
 (wy=2∧∀ m n,Pic cl m n→¬(Thr true wa m∧Thr true we n)) ∨
 (wy=3∧∀ m n,Pic cl m n→2≤m→2≤n→¬(Thr true wa m∧Thr true we n))
theorem Ac5{G:Prop}{R:Hp→Prop}(C:Hp→Prop)(main:(∀ H1,C H1→R H1)→G)(rest:∀ H1,C H1→R H1):G:=main rest
def Ac6 (K:PySem.W.Frag):Sp:=fun vs H Q _=>∃(wy:Int) (a:Addr) (cl:List (List Nat)) (wa we:List Nat),vs=[.int wy,.ref a,.str (tx wa),.str (tx we)]∧SqL K H a (vS cl)∧Tld wy cl wa we∧∀ H',Av H H'→Q (.str "told") H'
theorem Wr(T:Txt K mg t):BK P w K mg base CX0 8 t.Hb t.Hd ["way", "given", "warp", "weft"] (Ac6 K):=by
 refine T.Ey.F.ok Cj (fun vs H Q E h=>?_) (fun cdv A outer s H vs Q E hr h=>?_)
 ·obtain⟨wy,a,cl,wa,we,rfl,_⟩:=h
  rfl
 ·obtain⟨wy,a,cl,wa,we,rfl,hS,h,k⟩:=h
  refine⟨_,(Ab (Al (i:=4) Cj.nd rfl (Or.inl rfl) Fd)
   (Ab (Y0 (j:=5) ⟨rfl,rfl,rfl⟩ rfl (CG (JW (Ag Cy (pv 0) Ae (Ak _)) (CG (Ew (Eu ((IV (Hy (Ju T)) (Ip T)).mono (by decide)) hr rfl T.DN.m T.DN.F.kp T.DN.b .nil (Aa (pv 1) (Aa (pv 2) (Aa (pv 3) Ac)))))) (CG (JW (Ag Cy (pv 0) Ae (Ak _)) (CG (Ew (Eu ((IV (Hy (HS T)) (Jw T)).mono (by decide)) hr rfl T.Dk.m T.Dk.F.kp T.Dk.b .nil (Aa (pv 1) (Aa (pv 2) (Aa (pv 3) Ac)))))) (CG (JW (Ag Cy (pv 0) Ae (Ak _)) (CG (Ew (Eu ((IV (Hy (Es T)) (Eg T)).mono (by decide)) hr rfl T.Bo.m T.Bo.F.kp T.Bo.b .nil (Aa (pv 1) (Aa (pv 2) (Aa (pv 3) Ac)))))) (CG (Ew (Eu ((IV (Hy (Jv T)) ((Ir T).mono (by decide))).mono (by decide)) hr rfl T.DP.m T.DP.F.kp T.DP.b .nil (Aa (pv 1) (Aa (pv 2) (Aa (pv 3) Ac)))))))))))) Cj.nd rfl rfl rfl T.Ko T.Kq.q RL (fun _=>(Ad (Al (i:=4) Cj.nd rfl (Or.inl rfl) (pv 5)))))
   (Ab (Bh (Ag R9 (pv 4) Fd (Ak _))
    (Ad (Ba Az))
    Am)
   (Ab (Bh (DX (Aj (HW (K:=K)) rfl T.Br Bl (Aa (pv 4) (Aa (Eh (Aa (Ao (v:=.ref t.Ed) rfl T.VR rfl) (Aa (Ao (v:=.ref t.Cu) rfl T.Nz rfl) (Aa (Ao (v:=.ref t.CV) rfl T.Q0 rfl) (Aa (Ao (v:=.ref t.Cv) rfl T.NQ rfl) (Aa (Ao (v:=.ref t.Dp) rfl T.Tr rfl) (Aa (Ao (v:=.ref t.Cw) rfl T.NT rfl) (Aa (Ao (v:=.ref t.Cd) rfl T.Ln rfl) Ac)))))))) Ac))))
    (Ad (Ba Az))
    Am)
   (Ab (Bh (PW.pt (pw_or (DX (Aj (HW (K:=K)) rfl T.Br Bl (Aa (pv 4) (Aa (Eh (Aa (Ao (v:=.ref t.CW) rfl T.Q5 rfl) (Aa (Ao (v:=.ref t.Ce) rfl T.Lr rfl) (Aa (Ao (v:=.ref t.CZ) rfl T.Q6 rfl) (Aa (Ao (v:=.ref t.Ef) rfl T.Wa rfl) Ac))))) Ac)))) (pw_or1 (JN (DX (Aj (Dz (K:=K)) rfl T.Br Bl (Aa (pv 4) (Aa (Vk (v:=.ty "ValueError") rfl T.Km Jk rfl) Ac))))))))
    (Ad (Ba Az))
    Am)
   (Ab (Al (i:=6) Cj.nd rfl (Or.inl rfl) (RM (pv 4) T.Cm.c T.Ij.m ((Il T).mono (by decide)) hr T.Ij.b Bv))
   (Ab (Bh (PW.pt (pw_and (DX (Aj (Dz (K:=K)) rfl T.Br Bl (Aa (pv 4) (Aa (Ao (v:=.ref t.Bc) rfl T.Fb rfl) Ac)))) (pw_and (JN (DX (Aj (Dz (K:=K)) rfl T.Br Bl (Aa (pv 4) (Aa (Ao (v:=.ref t.Aw) rfl T.DQ rfl) Ac))))) (pw_and1 (Ag Cy (pv 6) Az (Ak _))))))
    (Ad (Ba Az))
    Am)
   (Ab (Bh (PW.pt (pw_and (DX (Aj (Dz (K:=K)) rfl T.Br Bl (Aa (pv 4) (Aa (Ao (v:=.ref t.Aw) rfl T.DQ rfl) Ac)))) (pw_and (JN (DX (Aj (Dz (K:=K)) rfl T.Br Bl (Aa (pv 4) (Aa (Ao (v:=.ref t.Bc) rfl T.Fb rfl) Ac))))) (pw_and1 (Ag Cy (pv 6) Az (Ak _))))))
    (Ad (Ba Az))
    Am)
   (Ad (Ba Az)))))))))),?_⟩
  rcases h with ⟨rfl,m,n,C,t1,t2⟩ | ⟨rfl,m,n,C,t1,t2,n33⟩ | ⟨rfl,m,n,O,C,t1,t2,F⟩ | ⟨rfl,m,n,O,C,hm,hn,t1,t2,F⟩
  ·refine⟨_,rfl,rfl,_,rfl,?_⟩
   refine Ej rfl ?_
   refine⟨_,rfl,_,rfl,_,rfl,.inl ⟨a,cl,m,n,wa,we,rfl,hS,C,t1.1,t2.1,t1.co,t2.co,fun l H1 s1 _ _=>?_⟩⟩
   exact⟨_,rfl,rfl,_,rfl,Ej rfl (k H1 s1)⟩
  ·refine⟨_,rfl,rfl,_,rfl,?_⟩
   refine By (nw (by decide)) ?_
   refine⟨_,rfl,rfl,_,rfl,?_⟩
   refine Ej rfl ?_
   refine⟨_,rfl,_,rfl,_,rfl,.inl ⟨a,cl,m,n,wa,we,rfl,hS,C,t1.1,t2.1,t1.co,t2.co,n33,fun l H1 s1 _=>?_⟩⟩
   exact⟨_,rfl,rfl,_,rfl,Ej rfl (k H1 s1)⟩
  ·refine⟨_,rfl,rfl,_,rfl,?_⟩
   refine By (nw (by decide)) ?_
   refine⟨_,rfl,rfl,_,rfl,?_⟩
   refine By (nw (by decide)) ?_
   refine⟨_,rfl,rfl,_,rfl,?_⟩
   refine Ej rfl ?_
   refine⟨_,rfl,_,rfl,_,rfl,.inl ⟨a,cl,m,n,wa,we,O,rfl,hS,C,t1.1,t2.1,t1.cq,t2.cq,F,fun p H1 ua ue s1 _ _=>?_⟩⟩
   exact⟨_,rfl,rfl,_,rfl,Ej rfl (k H1 s1)⟩
  ·refine⟨_,rfl,rfl,_,rfl,?_⟩
   refine By (nw (by decide)) ?_
   refine⟨_,rfl,rfl,_,rfl,?_⟩
   refine By (nw (by decide)) ?_
   refine⟨_,rfl,rfl,_,rfl,?_⟩
   refine By (nw (by decide)) ?_
   refine⟨_,rfl,_,rfl,_,rfl,.inl ⟨a,cl,m,n,wa,we,O,rfl,hS,C,hm,hn,t1.1,t2.1,t1.cq,t2.cq,F,fun x H1 s1=>?_⟩⟩
   exact⟨_,rfl,rfl,_,rfl,Ej rfl (k H1 s1)⟩
def Ac7 (K:PySem.W.Frag):Sp:=fun vs H Q _=>∃(wy:Int) (a:Addr) (cl:List (List Nat)) (wa we:List Nat),vs=[.int wy,.ref a,.str (tx wa),.str (tx we)]∧Gv K H a cl wa we∧wy=0∧AaN cl∧∀ H',Av H H'→Q (.str "NoCloth") H'
theorem Ws(T:Txt K mg t):BK P w K mg base CX0 8 t.Hb t.Hd ["way", "given", "warp", "weft"] (Ac7 K):=by
 refine T.Ey.F.ok Cj (fun vs H Q E h=>?_) (fun cdv A outer s H vs Q E hr h=>?_)
 ·obtain⟨wy,a,cl,wa,we,rfl,_⟩:=h
  rfl
 ·obtain⟨wy,a,cl,wa,we,rfl,Gg,rfl,hn,k⟩:=h
  refine⟨_,(Ab (Al (i:=4) Cj.nd rfl (Or.inl rfl) Fd)
   (Ab (Y0 (j:=5) ⟨rfl,rfl,rfl⟩ rfl (CG (JW (Ag Cy (pv 0) Ae (Ak _)) (CG (Ew (Eu ((IV (Hy (Ju T)) (Ip T)).mono (by decide)) hr rfl T.DN.m T.DN.F.kp T.DN.b .nil (Aa (pv 1) (Aa (pv 2) (Aa (pv 3) Ac)))))) (CG (JW (Ag Cy (pv 0) Ae (Ak _)) (CG (Ew (Eu ((IV (Hy (HS T)) (Jw T)).mono (by decide)) hr rfl T.Dk.m T.Dk.F.kp T.Dk.b .nil (Aa (pv 1) (Aa (pv 2) (Aa (pv 3) Ac)))))) (CG (JW (Ag Cy (pv 0) Ae (Ak _)) (CG (Ew (Eu ((IV (Hy (Es T)) (Eg T)).mono (by decide)) hr rfl T.Bo.m T.Bo.F.kp T.Bo.b .nil (Aa (pv 1) (Aa (pv 2) (Aa (pv 3) Ac)))))) (CG (Ew (Eu ((IV (Hy (Jv T)) ((Ir T).mono (by decide))).mono (by decide)) hr rfl T.DP.m T.DP.F.kp T.DP.b .nil (Aa (pv 1) (Aa (pv 2) (Aa (pv 3) Ac)))))))))))) Cj.nd rfl rfl rfl T.Ko T.Kq.q RL (fun _=>(Ad (Al (i:=4) Cj.nd rfl (Or.inl rfl) (pv 5)))))
   (Ab (Bh (Ag R9 (pv 4) Fd (Ak _))
    (Ad (Ba Az))
    Am)
   (Ab (Bh (DX (Aj (HW (K:=K)) rfl T.Br Bl (Aa (pv 4) (Aa (Eh (Aa (Ao (v:=.ref t.Ed) rfl T.VR rfl) (Aa (Ao (v:=.ref t.Cu) rfl T.Nz rfl) (Aa (Ao (v:=.ref t.CV) rfl T.Q0 rfl) (Aa (Ao (v:=.ref t.Cv) rfl T.NQ rfl) (Aa (Ao (v:=.ref t.Dp) rfl T.Tr rfl) (Aa (Ao (v:=.ref t.Cw) rfl T.NT rfl) (Aa (Ao (v:=.ref t.Cd) rfl T.Ln rfl) Ac)))))))) Ac))))
    (Ad (Ba Az))
    Am)
   (Ab (Bh (PW.pt (pw_or (DX (Aj (HW (K:=K)) rfl T.Br Bl (Aa (pv 4) (Aa (Eh (Aa (Ao (v:=.ref t.CW) rfl T.Q5 rfl) (Aa (Ao (v:=.ref t.Ce) rfl T.Lr rfl) (Aa (Ao (v:=.ref t.CZ) rfl T.Q6 rfl) (Aa (Ao (v:=.ref t.Ef) rfl T.Wa rfl) Ac))))) Ac)))) (pw_or1 (JN (DX (Aj (Dz (K:=K)) rfl T.Br Bl (Aa (pv 4) (Aa (Vk (v:=.ty "ValueError") rfl T.Km Jk rfl) Ac))))))))
    (Ad (Ba Az))
    Am)
   (Ab (Al (i:=6) Cj.nd rfl (Or.inl rfl) (RM (pv 4) T.Dg.c T.Qy.m ((P0 T).mono (by decide)) hr T.Qy.b Bv))
   (Ab (Bh (PW.pt (pw_and (DX (Aj (Dz (K:=K)) rfl T.Br Bl (Aa (pv 4) (Aa (Ao (v:=.ref t.Bc) rfl T.Fb rfl) Ac)))) (pw_and (JN (DX (Aj (Dz (K:=K)) rfl T.Br Bl (Aa (pv 4) (Aa (Ao (v:=.ref t.Aw) rfl T.DQ rfl) Ac))))) (pw_and1 (Ag Cy (pv 6) Az (Ak _))))))
    (Ad (Ba Az))
    Am)
   (Ab (Bh (PW.pt (pw_and (DX (Aj (Dz (K:=K)) rfl T.Br Bl (Aa (pv 4) (Aa (Ao (v:=.ref t.Aw) rfl T.DQ rfl) Ac)))) (pw_and (JN (DX (Aj (Dz (K:=K)) rfl T.Br Bl (Aa (pv 4) (Aa (Ao (v:=.ref t.Bc) rfl T.Fb rfl) Ac))))) (pw_and1 (Ag Cy (pv 6) Az (Ak _))))))
    (Ad (Ba Az))
    Am)
   (Ad (Ba Az)))))))))),?_⟩
  refine⟨_,rfl,rfl,_,rfl,?_⟩
  refine Ej rfl ?_
  refine⟨_,rfl,_,rfl,_,rfl,.inr ⟨a,cl,wa,we,rfl,Gg,.inl ⟨hn,fun H1 s1=>?_⟩⟩⟩
  refine⟨_,rfl,T.Dg.sub T.Lk,fun ea ne=>?_⟩
  have he:(upd H1 ea (exH t.Bc ea)) ea=some (exH t.Bc ea):=Af
  have s2:Av H (upd H1 ea (exH t.Bc ea)):=s1.new ne
  generalize upd H1 ea (exH t.Bc ea)=H2 at he s2 ⊢
  refine⟨_,rfl,?_⟩
  refine⟨_,rfl,rfl,_,rfl,?_⟩
  refine By (fun z=>nomatch z) ?_
  refine⟨_,rfl,(by show 7≤sizeLine;decide),fun q hq=>?_⟩
  have he2:=(Av.upd (o:=.tup [.ref t.Ed,.ref t.Cu,.ref t.CV,.ref t.Cv,.ref t.Dp,.ref t.Cw,.ref t.Cd]) hq) _ _ he
  have s3:=s2.new (o:=.tup [.ref t.Ed,.ref t.Cu,.ref t.CV,.ref t.Cv,.ref t.Dp,.ref t.Cw,.ref t.Cd]) hq
  refine⟨ea,t.Bc,q,[t.Ed,t.Cu,t.CV,t.Cv,t.Dp,t.Cw,t.Cd],false,rfl,he2,T.Dg.c,Af,any_false ?_,_,rfl,?_⟩
  ·intro x hx
   simp only [AjX,Akv,Akl,Akm,or_false] at hx
   rcases hx with rfl | rfl | rfl | rfl | rfl | rfl | rfl
   ·exact Cq T.Bq T.Z8 T.Z9 T.Rt
   ·exact Cq T.Bq T.Tj T.Tn T.N8
   ·exact Cq T.Bq T.UG T.UJ T.Pq
   ·exact Cq T.Bq T.Tp T.Tq T.NB
   ·exact Cq T.Bq T.XD T.XF T.Qz
   ·exact Cq T.Bq T.Tt T.Tu T.NK
   ·exact Cq T.Bq T.Rk T.Rm T.Mw
  refine Hr ?_
  generalize upd H2 q (.tup [.ref t.Ed,.ref t.Cu,.ref t.CV,.ref t.Cv,.ref t.Dp,.ref t.Cw,.ref t.Cd])=H3 at he2 s3 ⊢
  refine⟨_,rfl,(by show 4≤sizeLine;decide),fun q4 hq4=>?_⟩
  have he4:=(Av.upd (o:=.tup [.ref t.CW,.ref t.Ce,.ref t.CZ,.ref t.Ef]) hq4) _ _ he2
  have s4:=s3.new (o:=.tup [.ref t.CW,.ref t.Ce,.ref t.CZ,.ref t.Ef]) hq4
  refine⟨ea,t.Bc,q4,[t.CW,t.Ce,t.CZ,t.Ef],false,rfl,he4,T.Dg.c,Af,any_false ?_,_,rfl,?_⟩
  ·intro x hx
   simp only [AjX,Akv,Akl,Akm,or_false] at hx
   rcases hx with rfl | rfl | rfl | rfl
   ·exact Cq T.Bq T.UL T.UT T.Pu
   ·exact Cq T.Bq T.Rn T.Ro T.Mx
   ·exact Cq T.Bq T.UW T.Va T.Px
   ·exact Cq T.Bq T.ZC T.ZD T.Ru
  refine Hr ?_
  generalize upd H3 q4 (.tup [.ref t.CW,.ref t.Ce,.ref t.CZ,.ref t.Ef])=H4 at he4 s4 ⊢
  refine⟨_,rfl,ea,t.Bc,true,he4,T.Dg.c,.inl ⟨_,rfl,Ab1 T.Dg⟩,_,rfl,?_⟩
  refine Hr ?_
  refine⟨_,rfl,ea,rfl,he4,_,rfl,?_⟩
  refine⟨_,rfl,ea,t.Bc,true,he4,T.Dg.c,.inr ⟨t.Bc,rfl,Ov T.Bq T.Dg T.Bq⟩,_,rfl,?_⟩
  refine Iu ?_
  refine⟨_,rfl,ea,t.Bc,false,he4,T.Dg.c,.inr ⟨t.Aw,rfl,Ov T.Bq T.Cm T.NP⟩,_,rfl,?_⟩
  refine Iu ?_
  refine⟨_,rfl,rfl,_,rfl,?_⟩
  refine Ej rfl ?_
  exact k H4 s4
def Ac8 (K:PySem.W.Frag):Sp:=fun vs H Q _=>∃(wy:Int) (a:Addr) (cl:List (List Nat)) (wa we:List Nat),vs=[.int wy,.ref a,.str (tx wa),.str (tx we)]∧Gv K H a cl wa we∧Rfk wy cl wa we∧∀ H',Av H H'→Q (.str "NoColour") H'
theorem Wt(T:Txt K mg t):BK P w K mg base CX0 8 t.Hb t.Hd ["way", "given", "warp", "weft"] (Ac8 K):=by
 refine T.Ey.F.ok Cj (fun vs H Q E h=>?_) (fun cdv A outer s H vs Q E hr h=>?_)
 ·obtain⟨wy,a,cl,wa,we,rfl,_⟩:=h
  rfl
 ·obtain⟨wy,a,cl,wa,we,rfl,Gg,h,k⟩:=h
  refine⟨_,(Ab (Al (i:=4) Cj.nd rfl (Or.inl rfl) Fd)
   (Ab (Y0 (j:=5) ⟨rfl,rfl,rfl⟩ rfl (CG (JW (Ag Cy (pv 0) Ae (Ak _)) (CG (Ew (Eu ((IV (Hy (Ju T)) (Ip T)).mono (by decide)) hr rfl T.DN.m T.DN.F.kp T.DN.b .nil (Aa (pv 1) (Aa (pv 2) (Aa (pv 3) Ac)))))) (CG (JW (Ag Cy (pv 0) Ae (Ak _)) (CG (Ew (Eu ((IV (Hy (HS T)) (Jw T)).mono (by decide)) hr rfl T.Dk.m T.Dk.F.kp T.Dk.b .nil (Aa (pv 1) (Aa (pv 2) (Aa (pv 3) Ac)))))) (CG (JW (Ag Cy (pv 0) Ae (Ak _)) (CG (Ew (Eu ((IV (Hy (Es T)) (Eg T)).mono (by decide)) hr rfl T.Bo.m T.Bo.F.kp T.Bo.b .nil (Aa (pv 1) (Aa (pv 2) (Aa (pv 3) Ac)))))) (CG (Ew (Eu ((IV (Hy (Jv T)) ((Ir T).mono (by decide))).mono (by decide)) hr rfl T.DP.m T.DP.F.kp T.DP.b .nil (Aa (pv 1) (Aa (pv 2) (Aa (pv 3) Ac)))))))))))) Cj.nd rfl rfl rfl T.Ko T.Kq.q RL (fun _=>(Ad (Al (i:=4) Cj.nd rfl (Or.inl rfl) (pv 5)))))
   (Ab (Bh (Ag R9 (pv 4) Fd (Ak _))
    (Ad (Ba Az))
    Am)
   (Ab (Bh (DX (Aj (HW (K:=K)) rfl T.Br Bl (Aa (pv 4) (Aa (Eh (Aa (Ao (v:=.ref t.Ed) rfl T.VR rfl) (Aa (Ao (v:=.ref t.Cu) rfl T.Nz rfl) (Aa (Ao (v:=.ref t.CV) rfl T.Q0 rfl) (Aa (Ao (v:=.ref t.Cv) rfl T.NQ rfl) (Aa (Ao (v:=.ref t.Dp) rfl T.Tr rfl) (Aa (Ao (v:=.ref t.Cw) rfl T.NT rfl) (Aa (Ao (v:=.ref t.Cd) rfl T.Ln rfl) Ac)))))))) Ac))))
    (Ad (Ba Az))
    Am)
   (Ab (Bh (PW.pt (pw_or (DX (Aj (HW (K:=K)) rfl T.Br Bl (Aa (pv 4) (Aa (Eh (Aa (Ao (v:=.ref t.CW) rfl T.Q5 rfl) (Aa (Ao (v:=.ref t.Ce) rfl T.Lr rfl) (Aa (Ao (v:=.ref t.CZ) rfl T.Q6 rfl) (Aa (Ao (v:=.ref t.Ef) rfl T.Wa rfl) Ac))))) Ac)))) (pw_or1 (JN (DX (Aj (Dz (K:=K)) rfl T.Br Bl (Aa (pv 4) (Aa (Vk (v:=.ty "ValueError") rfl T.Km Jk rfl) Ac))))))))
    (Ad (Ba Az))
    Am)
   (Ab (Al (i:=6) Cj.nd rfl (Or.inl rfl) (RM (pv 4) T.Cm.c T.Ij.m ((Il T).mono (by decide)) hr T.Ij.b Bv))
   (Ab (Bh (PW.pt (pw_and (DX (Aj (Dz (K:=K)) rfl T.Br Bl (Aa (pv 4) (Aa (Ao (v:=.ref t.Bc) rfl T.Fb rfl) Ac)))) (pw_and (JN (DX (Aj (Dz (K:=K)) rfl T.Br Bl (Aa (pv 4) (Aa (Ao (v:=.ref t.Aw) rfl T.DQ rfl) Ac))))) (pw_and1 (Ag Cy (pv 6) Az (Ak _))))))
    (Ad (Ba Az))
    Am)
   (Ab (Bh (PW.pt (pw_and (DX (Aj (Dz (K:=K)) rfl T.Br Bl (Aa (pv 4) (Aa (Ao (v:=.ref t.Aw) rfl T.DQ rfl) Ac)))) (pw_and (JN (DX (Aj (Dz (K:=K)) rfl T.Br Bl (Aa (pv 4) (Aa (Ao (v:=.ref t.Bc) rfl T.Fb rfl) Ac))))) (pw_and1 (Ag Cy (pv 6) Az (Ak _))))))
    (Ad (Ba Az))
    Am)
   (Ad (Ba Az)))))))))),?_⟩
  apply Ac5 (fun H1=>Av H H1)
  ·intro rest
   have h2:=h
   rcases h2 with ⟨e,m,n,C,hb⟩ | ⟨e,hb⟩ | ⟨e,hb⟩ | ⟨e,hb⟩
   ·refine⟨_,rfl,rfl,_,rfl,?_⟩
    refine Ej (by rw[e]) ?_
    exact⟨_,rfl,_,rfl,_,rfl,.inr ⟨a,cl,wa,we,rfl,Gg,.inr ⟨m,n,C,hb,rest⟩⟩⟩
   ·refine⟨_,rfl,rfl,_,rfl,?_⟩
    refine By (by rw[e];exact nw (by decide)) ?_
    refine⟨_,rfl,rfl,_,rfl,?_⟩
    refine Ej (by rw[e]) ?_
    exact⟨_,rfl,_,rfl,_,rfl,.inr ⟨a,cl,wa,we,rfl,Gg,hb,rest⟩⟩
   ·refine⟨_,rfl,rfl,_,rfl,?_⟩
    refine By (by rw[e];exact nw (by decide)) ?_
    refine⟨_,rfl,rfl,_,rfl,?_⟩
    refine By (by rw[e];exact nw (by decide)) ?_
    refine⟨_,rfl,rfl,_,rfl,?_⟩
    refine Ej (by rw[e]) ?_
    exact⟨_,rfl,_,rfl,_,rfl,.inr ⟨a,cl,wa,we,rfl,Gg,hb,rest⟩⟩
   ·refine⟨_,rfl,rfl,_,rfl,?_⟩
    refine By (by rw[e];exact nw (by decide)) ?_
    refine⟨_,rfl,rfl,_,rfl,?_⟩
    refine By (by rw[e];exact nw (by decide)) ?_
    refine⟨_,rfl,rfl,_,rfl,?_⟩
    refine By (by rw[e];exact nw (by decide)) ?_
    exact⟨_,rfl,_,rfl,_,rfl,.inr ⟨a,cl,wa,we,rfl,Gg,hb,rest⟩⟩
  ·intro H1 s1
   refine⟨_,rfl,T.Cm.sub T.K9,fun ea ne=>?_⟩
   have he:(upd H1 ea (exH t.Aw ea)) ea=some (exH t.Aw ea):=Af
   have s2:Av H (upd H1 ea (exH t.Aw ea)):=s1.new ne
   generalize upd H1 ea (exH t.Aw ea)=H2 at he s2 ⊢
   refine⟨_,rfl,?_⟩
   refine⟨_,rfl,rfl,_,rfl,?_⟩
   refine By (fun z=>nomatch z) ?_
   refine⟨_,rfl,(by show 7≤sizeLine;decide),fun q hq=>?_⟩
   have he2:=(Av.upd (o:=.tup [.ref t.Ed,.ref t.Cu,.ref t.CV,.ref t.Cv,.ref t.Dp,.ref t.Cw,.ref t.Cd]) hq) _ _ he
   have s3:=s2.new (o:=.tup [.ref t.Ed,.ref t.Cu,.ref t.CV,.ref t.Cv,.ref t.Dp,.ref t.Cw,.ref t.Cd]) hq
   refine⟨ea,t.Aw,q,[t.Ed,t.Cu,t.CV,t.Cv,t.Dp,t.Cw,t.Cd],false,rfl,he2,T.Cm.c,Af,any_false ?_,_,rfl,?_⟩
   ·intro x hx
    simp only [AjX,Akv,Akl,Akm,or_false] at hx
    rcases hx with rfl | rfl | rfl | rfl | rfl | rfl | rfl
    ·exact Cq T.Be T.Z8 T.Z9 T.Q3
    ·exact Cq T.Be T.Tj T.Tn T.My
    ·exact Cq T.Be T.UG T.UJ T.NZ
    ·exact Cq T.Be T.Tp T.Tq T.Mz
    ·exact Cq T.Be T.XD T.XF T.Py
    ·exact Cq T.Be T.Tt T.Tu T.M3
    ·exact Cq T.Be T.Rk T.Rm T.Lp
   refine Hr ?_
   generalize upd H2 q (.tup [.ref t.Ed,.ref t.Cu,.ref t.CV,.ref t.Cv,.ref t.Dp,.ref t.Cw,.ref t.Cd])=H3 at he2 s3 ⊢
   refine⟨_,rfl,(by show 4≤sizeLine;decide),fun q4 hq4=>?_⟩
   have he4:=(Av.upd (o:=.tup [.ref t.CW,.ref t.Ce,.ref t.CZ,.ref t.Ef]) hq4) _ _ he2
   have s4:=s3.new (o:=.tup [.ref t.CW,.ref t.Ce,.ref t.CZ,.ref t.Ef]) hq4
   refine⟨ea,t.Aw,q4,[t.CW,t.Ce,t.CZ,t.Ef],false,rfl,he4,T.Cm.c,Af,any_false ?_,_,rfl,?_⟩
   ·intro x hx
    simp only [AjX,Akv,Akl,Akm,or_false] at hx
    rcases hx with rfl | rfl | rfl | rfl
    ·exact Cq T.Be T.UL T.UT T.Oa
    ·exact Cq T.Be T.Rn T.Ro T.Lq
    ·exact Cq T.Be T.UW T.Va T.Ob
    ·exact Cq T.Be T.ZC T.ZD T.Q4
   refine Hr ?_
   generalize upd H3 q4 (.tup [.ref t.CW,.ref t.Ce,.ref t.CZ,.ref t.Ef])=H4 at he4 s4 ⊢
   refine⟨_,rfl,ea,t.Aw,true,he4,T.Cm.c,.inl ⟨_,rfl,Ab1 T.Cm⟩,_,rfl,?_⟩
   refine Hr ?_
   refine⟨_,rfl,ea,rfl,he4,_,rfl,?_⟩
   refine⟨_,rfl,ea,t.Aw,false,he4,T.Cm.c,.inr ⟨t.Bc,rfl,Ov T.Be T.Dg T.Ik⟩,_,rfl,?_⟩
   refine Hr ?_
   refine⟨_,rfl,ea,t.Aw,true,he4,T.Cm.c,.inr ⟨t.Aw,rfl,Ov T.Be T.Cm T.Be⟩,_,rfl,?_⟩
   refine Iu ?_
   refine⟨_,rfl,ea,t.Aw,false,he4,T.Cm.c,.inr ⟨t.Bc,rfl,Ov T.Be T.Dg T.Ik⟩,_,rfl,?_⟩
   refine Iu ?_
   refine⟨_,rfl,rfl,_,rfl,?_⟩
   refine Ej rfl ?_
   exact k H4 s4
def Ac9 (K:PySem.W.Frag):Sp:=fun vs H Q _=>∃(a:Addr) (cl:List (List Nat)) (m n:Nat) (wa we:List Nat),vs=[.ref a,.str (tx wa),.str (tx we)]∧SqL K H a (vS cl)∧Rct cl m n∧m≤40∧n≤40∧wa.length=m∧we.length=n ∧
 ∀ l H',Av H H'→H' l=some (.lst (vS (Iv cl wa we)))→Q (.ref l) H'
theorem Wu(T:Txt K mg t):BK P w K mg base CX0 1 t.Li t.Lj ["given", "warp", "weft"] (Ac9 K):=by
 refine T.Mr.F.ok Eo (fun vs H Q E h=>?_) (fun cdv A outer s H vs Q E hr h=>?_)
 ·obtain⟨a,cl,m,n,wa,we,rfl,_⟩:=h
  rfl
 ·obtain⟨a,cl,m,n,wa,we,rfl,hS,R,m40,n40,hwa,hwe,k⟩:=h
  have hsz:sizeLine=16777216:=sizeLine_eq
  have hlen:(vS cl).length=n:=by rw[BJ,R.1]
  have sl:∀ u:List Nat,u.length≤40→(tx u).length≤sizeLine:=fun u h=>by rw[Ax];exact Ga h
  refine⟨_,(Ab (Al (i:=3) Eo.nd rfl (Or.inl rfl) (Fl Ac))
   (Ab (Cp PassesOwn.never rfl (BZ rfl T.Dc (Aa (Aj (Ar (K:=K)) rfl T.BW Bs (Aa (pv 0) Ac)) Ac)) (Bu (i:=4) Eo.nd rfl (Or.inl rfl))
    (Ab (Al (i:=5) Eo.nd rfl (Or.inl rfl) Az)
    (Ab (Cp PassesOwn.never rfl (BZ rfl T.Dc (Aa (Aj Bt rfl T.BW Bs (Aa (pv 1) Ac)) Ac)) (Bu (i:=6) Eo.nd rfl (Or.inl rfl))
     (Ad (Bh (Ag Cy (Bb Fe (Bb (Ay (K:=K)) (pv 0) (pv 4) (fun _ _=>rfl)) (pv 6) (fun _ _=>rfl)) Az (Ak _))
      (Ad (Al (i:=5) Eo.nd rfl (Or.inl rfl) (Bg Cg (pv 5) (Bb Fe (pv 1) (pv 6) (fun _ _=>rfl)))))
      (Ad (Al (i:=5) Eo.nd rfl (Or.inl rfl) (Bg Cg (pv 5) (Bb Fe (pv 2) (pv 4) (fun _ _=>rfl))))))))
    (Ad (Bp (Dh (K:=K) PySem.F.plainAttrs_list PySem.F.slot_list_append PySem.F.type_list_append CQ (pv 3) (Aa (pv 5) Ac)))))))
   (Ad (Ba (pv 3))))),?_⟩
  refine⟨Akb _,fun q nq=>?_⟩
  have s1:Av H (upd H q (.lst [])):=.upd nq
  have hq1:(upd H q (.lst [])) q=some (.lst (vS [])):=Af
  generalize upd H q (.lst [])=H1 at s1 hq1 ⊢
  refine⟨_,rfl,_,_,rfl,.inl (s1.seq hS),_,rfl,(by omega),(by rw[hlen];omega),?_⟩
  rw[AjW,hlen]
  refine Du (lo:=0) (n:=n) (fun i σ H2=>∃(v4 v5 v6:Option V),σ=[some (.ref a),some (.str (tx wa)),some (.str (tx we)),some (.ref q),v4,v5,v6]∧Av H H2∧H2 q=some (.lst (vS ((Iv cl wa we).take i)))) ⟨none,none,none,rfl,s1,hq1⟩ ?_ ?_
  ·rintro i σ H2 hi ⟨v4,v5,v6,rfl,s2,hq2⟩
   have hic:i<cl.length:=by rw[R.1];exact hi
   obtain⟨ei,li,ai⟩:=R.at hi
   have rl:(shown (cl.getD i []) wa (we.getD i 0)).length=m:=by rw[J4,li]
   obtain⟨row,AfY⟩:∃ row,row=shown (cl.getD i []) wa (we.getD i 0):=⟨_,rfl⟩
   rw[← AfY] at rl
   refine⟨_,rfl,_,rfl,sl _ (by omega),_,rfl,(by omega),(by rw[Ax];omega),?_⟩
   rw[Ax,AjW,hwa]
   refine Du (lo:=0) (n:=m) (fun j σ H3=>∃(v6:Option V),σ=[some (.ref a),some (.str (tx wa)),some (.str (tx we)),some (.ref q),some (.int (0+(i:Int))),some (.str (tx (row.take j))),v6]∧H3=H2) ⟨_,by rw[show(("" : Str))=tx [] from by decide +kernel] <;> rfl,rfl⟩ ?_ ?_
   ·rintro j σ H3 hj ⟨v6,rfl,rfl⟩
    have g:row.getD j 0=if (cl.getD i []).getD j 0=35 then wa.getD j 0 else we.getD i 0:=by rw[AfY];exact Qo (by omega)
    have tk:=take_one (u:=row) (i:=j) (by omega)
    refine⟨_,rfl,_,rfl,_,_,_,_,rfl,rfl,s2.seq hS,ai,_,rfl,_,_,_,rfl,rfl,sl _ (by omega),ZF (by omega),rfl,_,rfl,?_⟩
    refine CJ (fun h=>?_) (fun h=>?_)
    ·have h35:(cl.getD i []).getD j 0=35:=HD.mp (h.trans e35.symm)
     rw[if_pos h35] at g
     refine⟨_,rfl,_,rfl,_,rfl,_,_,_,rfl,rfl,sl _ (by omega),ZF (by omega),_,_,rfl,rfl,(by rw[Fp,Ax,Ax,Akf];show _+1≤sizeLine;omega),?_⟩
     rw[Fp,G3,← g,← tk]
     exact⟨_,rfl,rfl⟩
    ·have h35:¬(cl.getD i []).getD j 0=35:=fun z=>h (by rw[z];exact e35)
     rw[if_neg h35] at g
     refine⟨_,rfl,_,rfl,_,rfl,_,_,_,rfl,rfl,sl _ (by omega),ZF (by omega),_,_,rfl,rfl,(by rw[Fp,Ax,Ax,Akf];show _+1≤sizeLine;omega),?_⟩
     rw[Fp,G3,← g,← tk]
     exact⟨_,rfl,rfl⟩
   ·rintro σ H3 ⟨v6,rfl,rfl⟩
    refine⟨_,rfl,.inl ⟨rfl,_,SqL.of hq2⟩,_,rfl,_,_,_,rfl,rfl,hq2,(by rw[BJ,Akf];omega),?_⟩
    rw[Akw (show row.length≤m by omega),Gh]
    refine⟨_,_,_,rfl,s2.over nq,?_⟩
    rw[Af,AaC (by rw[KQ];exact hic),Q7 hic,AfY]
  ·rintro σ H2 ⟨v4,v5,v6,rfl,s2,hq2⟩
   rw[Akw (by rw[KQ,R.1];exact AjQ _)] at hq2
   exact⟨_,rfl,k q H2 s2 hq2⟩
theorem Kr(z:Int){m:Nat}(hm:1≤m):∃ x:Nat,z%(m:Int)=(x:Int)∧x<m:=by
 have h1:=Ak6 z (show(m:Int)≠0 by omega)
 have h2:=Ak7 z (show 0<(m:Int) by omega)
 exact⟨(z%(m:Int)).toNat,by omega,by omega⟩
theorem AdS{xs:List V}{k:Nat}(h:k≤xs.length):Vn xs none (some (k:Int))=xs.take k:=by
 unfold Vn
 rw[HT.Ot,HT.LQ,AkI,AkJ h,AkV]
theorem AaO{xs:List V}{k:Nat}(h:k≤xs.length):Vn xs (some (k:Int)) none=xs.drop k:=by
 unfold Vn
 have e1:HT.sIx xs.length 0 (some (k:Int))=k:=by rw[HT.LQ,AkJ h]
 have e2:HT.sIx xs.length xs.length none=xs.length:=rfl
 rw[e1,e2]
 exact Akw (by rw[Ak1];omega)
theorem AdT(cl:List (List Nat))(k:Nat):(vS cl).take k=vS (cl.take k):=by unfold vS;rw[List.map_take]
theorem AdU(cl:List (List Nat))(k:Nat):(vS cl).drop k=vS (cl.drop k):=by unfold vS;rw[List.map_drop]
theorem AaP{G:Prop}{R:List Nat→Option V→Prop}(C:List Nat→Prop)(main:(∀ u v,C u→R u v)→G)(rest:∀ u v,C u→R u v):G:=main rest
theorem AcA(u:List Nat)(k:Nat):RN u none (some (k:Int))=u.take (min k u.length):=by
 unfold RN
 rw[HT.Ot,HT.LQ,AkI,AkV]
theorem Yk(u:List Nat):∀ k,((List.replicate k u).flatten).length=k*u.length
 | 0=>by simp
 | k+1=>by rw[AkS,AkT,AjR,Yk u k,Nat.add_mul,Nat.one_mul];omega
structure Rec (p:Nat→Prop) (cl:List (List Nat)) (m n:Nat):Prop where
 hn:cl.length=n
 hm:∀ t∈cl,t.length=m
 sg:∀ t∈cl,∀ c∈t,p c
 m1:1≤m
 m40:m≤40
 n1:1≤n
 n40:n≤40
def Bad (p:Nat→Prop)(cl:List (List Nat)):Prop:=¬∃ m n,Rec p cl m n
theorem Bad.cl{cl:List (List Nat)}(h:Bad Sg cl):AaN cl:=fun⟨m,n,C⟩=>h ⟨m,n,C.hn,C.hm,C.sg,C.m1,C.m40,C.n1,C.n40⟩
theorem Bad.pic{cl:List (List Nat)}(h:Bad Co cl):AeB cl:=fun⟨m,n,C⟩=>h ⟨m,n,C.hn,C.hm,C.co,C.m1,C.m40,C.n1,C.n40⟩
def swp (cl:List (List Nat))(k:Nat)(r:List Nat):List (List Nat):=cl.take k++[r]++cl.drop (k+1)
theorem R4{cl:List (List Nat)}{k:Nat}{r:List Nat}:r∈swp cl k r:=by unfold swp;simp
theorem AdV{cl:List (List Nat)}{k:Nat}{r:List Nat}(h:k<cl.length):(swp cl k r).length=cl.length:=by
 unfold swp
 rw[AjR,AjR,Akf,Ak1,Akt]
 omega
theorem AdW{cl:List (List Nat)}{k:Nat}{r u:List Nat}(h:u∈swp cl k r):u=r∨u∈cl:=by
 unfold swp at h
 rcases List.mem_append.mp h with h | h
 ·rcases List.mem_append.mp h with h | h
  ·exact .inr (List.mem_of_mem_take h)
  ·exact .inl (List.mem_singleton.mp h)
 ·exact .inr (List.mem_of_mem_drop h)
theorem Vi{cl:List (List Nat)}{k:Nat}{r:List Nat}(h:k<cl.length)(h2:2≤cl.length):∃ u∈swp cl k r,u∈cl:=by
 unfold swp
 by_cases e:k=0
 ·refine⟨cl[1],?_,AjU _⟩
  subst e
  refine List.mem_append.mpr (.inr ?_)
  refine AjT (i:=0) ?_
  rw[Alh]
  exact AjO (by omega)
 ·refine⟨cl[0],?_,AjU _⟩
  refine List.mem_append.mpr (.inl (List.mem_append.mpr (.inl ?_)))
  refine AjT (i:=0) ?_
  rw[Ale (by omega)]
  exact AjO (by omega)
theorem AaQ{p:Nat→Prop}{cl:List (List Nat)}(h:[]∈cl):Bad p cl:=fun⟨m,n,C⟩=>by have:=C.hm [] h;have:=C.m1;simp at *;omega
theorem AcB{p:Nat→Prop}{cl:List (List Nat)}{u:List Nat}{c:Nat}(h:u∈cl)(hc:c∈u)(hp:¬p c):Bad p cl:=fun⟨m,n,C⟩=>hp (C.sg u h c hc)
theorem ZR{p:Nat→Prop}{cl:List (List Nat)}{u v:List Nat}(hu:u∈cl)(hv:v∈cl)(h:u.length≠v.length):Bad p cl:=fun⟨m,n,C⟩=>h (by rw[C.hm u hu,C.hm v hv])
theorem AcC{p:Nat→Prop}{cl:List (List Nat)}{u:List Nat}(hu:u∈cl)(h:40<u.length):Bad p cl:=fun⟨m,n,C⟩=>by have:=C.hm u hu;have:=C.m40;omega
theorem Yl{p:Nat→Prop}{cl:List (List Nat)}(h:cl.length=0∨40<cl.length):Bad p cl:=fun⟨m,n,C⟩=>by have:=C.hn;have:=C.n1;have:=C.n40;omega
def AfZ (K:PySem.W.Frag):Sp:=fun vs H Q _=>∃(p:Nat→Prop) (a b:Addr) (cl:List (List Nat)) (m n:Nat) (ks:List Int) (od:List Nat) (f:Int),vs=[.ref a,.int f,.ref b,.str (tx od)]∧SqL K H a (vS cl)∧Rec p cl m n∧m≤5∧n≤5∧(f=5→2≤n)∧1≤f∧f≤6 ∧
 SqL K H b (vI ks)∧Num ks 63∧1≤od.length∧od.length≤100∧(∀ c∈od,¬p c) ∧
 ∀(l:Addr) (H':Hp) (cl':List (List Nat)),Av H H'→H l=none→H' l=some (.lst (vS cl'))→cl'.length≤1000→(∀ u∈cl',u.length≤1000)→Bad p cl'→Q (.ref l) H'
theorem M4(T:Txt K mg t):BK P w K mg base CX0 1 t.Gu t.Gw ["given", "fault", "numbers", "odd"] (AfZ K):=by
 refine T.FZ.F.ok Ca (fun vs H Q E h=>?_) (fun cdv A outer s H vs Q E hr h=>?_)
 ·obtain⟨p,a,b,cl,m,n,ks,od,f,rfl,_⟩:=h
  rfl
 ·obtain⟨p,a,b,cl,m,n,ks,od,f,rfl,hS,C,m5,n5,hf5,f1,f6,hN,N,o1,o100,ho,k⟩:=h
  have hsz:sizeLine=16777216:=sizeLine_eq
  have hn:=C.hn
  have c1:=C.n1
  have c3:=C.m1
  have hlen:(vS cl).length=n:=by rw[BJ,C.hn]
  obtain⟨c4,e4,_⟩:=N.at (i:=4) (by decide) (by decide)
  obtain⟨c5,e5,g5,g5'⟩:=N.at (i:=5) (by decide) (by decide)
  obtain⟨c6,e6,_⟩:=N.at (i:=6) (by decide) (by decide)
  obtain⟨x,ex,hx⟩:=Kr c4 (m:=n) c1
  have hxl:x<cl.length:=by omega
  have ax:atI (vS cl) (x:Int)=some (.str (tx cl[x])):=Bm (by omega) (by rw[AjW];exact GQ (AjO hxl))
  have lx:=C.hm cl[x] (AjU hxl)
  refine⟨_,(Ab (Al (i:=4) Ca.nd rfl (Or.inl rfl) (Bg Dd (Bb (Ay (K:=K)) (pv 2) Ae (fun _ _=>rfl)) (Aj (Ar (K:=K)) rfl T.BW Bs (Aa (pv 0) Ac))))
   (Ab (Al (i:=5) Ca.nd rfl (Or.inl rfl) (Bb (Ay (K:=K)) (pv 0) (pv 4) (fun _ _=>rfl)))
   (Ab (Bh (Ag Cy (pv 1) Ae (Ak _))
    (Ad (Ba (Fl Ac)))
    Am)
   (Ab (Bh (Ag Cy (pv 1) Ae (Ak _))
    (Ad (Ba (Gm (Ei.mk (Bx:=[0]) (Nc:=["k", "given"]) rfl (by decide +kernel) (by decide +kernel) (Dj (sc0:=Ai Ep) rfl (by decide +kernel)) rfl rfl rfl (by decide +kernel) (fun k j h=>match k,h with | 0,h=>by obtain rfl:=Option.some.inj h;exact⟨_,rfl,rfl,rfl⟩ | _+1,h=>by simp at h)) rfl (BZ rfl T.Dc (Aa Ae Ac)) (fun _ _ _ _ _=>.nil) (fun _ _ _ _ _=>(Bb (Ay (K:=K)) (pv 1) (Bg Dd (pv 0) (Aj (Ar (K:=K)) rfl T.BW Bs (Aa (pv 1) Ac))) (fun _ _=>rfl))))))
    Am)
   (Ab (Bh (Ag Cy (pv 1) Ae (Ak _))
    (Ad (Al (i:=5) Ca.nd rfl (Or.inl rfl) Az))
    Am)
   (Ab (Bh (Ag Cy (pv 1) Ae (Ak _))
    (Ad (Ba (Gm (Ei.mk (Bx:=[2]) (Nc:=["text", "numbers"]) rfl (by decide +kernel) (by decide +kernel) (Dj (sc0:=Ai Ep) rfl (by decide +kernel)) rfl rfl rfl (by decide +kernel) (fun k j h=>match k,h with | 0,h=>by obtain rfl:=Option.some.inj h;exact⟨_,rfl,rfl,rfl⟩ | _+1,h=>by simp at h)) rfl (Cz (K:=K) (pv 0)) (fun _ _ _ _ _=>.nil) (fun _ _ _ _ _=>(Dm G5 (Bg Adl (pv 0) Ae) Eb (Ec (Bg DY Ae (Bg Dd (Bb (Ay (K:=K)) (pv 1) Ae (fun _ _=>rfl)) Ae))))))))
    Am)
   (Ab (Bh (PW.pt (pw_and (Ag Cy (pv 1) Ae (Ak _)) (pw_and1 (Ag Cy (Bg Dd (Bb (Ay (K:=K)) (pv 2) Ae (fun _ _=>rfl)) Ae) Ae (Ak _)))))
    (Ad (Al (i:=5) Ca.nd rfl (Or.inl rfl) (Bg Cg (pv 5) (Bb Fe (pv 5) Ae (fun _ _=>rfl)))))
    (Ad (Bh (Ag Cy (pv 1) Ae (Ak _))
     (Ad (Al (i:=5) Ca.nd rfl (Or.inl rfl) (Dm G5 (pv 5) (Ec Ae) Eb)))
     Am)))
   (Ab (Bh (Ag Cy (pv 1) Ae (Ak _))
    (Ab (Al (i:=6) Ca.nd rfl (Or.inl rfl) (Bg Dd (Bb (Ay (K:=K)) (pv 2) Ae (fun _ _=>rfl)) (Aj Bt rfl T.BW Bs (Aa (pv 5) Ac))))
    (Ad (Al (i:=5) Ca.nd rfl (Or.inl rfl) (Bg Cg (Bg Cg (Dm G5 (pv 5) Eb (Ec (pv 6))) (Bb Fe (pv 3) (Bg Dd (Bb (Ay (K:=K)) (pv 2) Ae (fun _ _=>rfl)) (Aj Bt rfl T.BW Bs (Aa (pv 3) Ac))) (fun _ _=>rfl))) (Dm G5 (pv 5) (Ec (Bg DY (pv 6) Ae)) Eb)))))
    Am)
   (Ad (Ba (Bg Vu (Bg Vu (Dm (WL (K:=K)) (pv 0) Eb (Ec (pv 4))) (Fl (Aa (pv 5) Ac))) (Dm (WL (K:=K)) (pv 0) (Ec (Bg DY (pv 4) Ae)) Eb)))))))))))),?_⟩
  refine⟨_,rfl,_,_,_,_,rfl,rfl,hN,e4,_,rfl,_,_,rfl,.inl hS,_,_,rfl,rfl,(by rw[hlen];omega),?_⟩
  rw[hlen]
  dsimp only
  rw[ex]
  refine⟨_,rfl,_,rfl,_,_,_,_,rfl,rfl,hS,ax,?_⟩
  refine Di (σ':=[some (.ref a),some (.int f),some (.ref b),some (.str (tx od)),some (.int (x:Int)),some (.str (tx cl[x])),none]) rfl ?_
  have AjM:cl[x].length≤5:=by omega
  apply AaP (fun r=>r.length≤50∧Bad p (swp cl x r))
  ·intro rest
   have hf:f=6∨f=3∨f=5∨f=4∨f=1∨f=2:=by omega
   rcases hf with ef | ef | ef | ef | ef | ef
   ·
    refine⟨_,rfl,rfl,_,rfl,?_⟩
    refine By (by rw[ef];exact nw (by decide)) ?_
    refine⟨_,rfl,rfl,_,rfl,?_⟩
    refine By (by rw[ef];exact nw (by decide)) ?_
    refine⟨_,rfl,rfl,_,rfl,?_⟩
    refine By (by rw[ef];exact nw (by decide)) ?_
    refine⟨_,rfl,rfl,_,rfl,?_⟩
    refine By (by rw[ef];exact nw (by decide)) ?_
    refine⟨_,rfl,rfl,_,rfl,?_⟩
    refine By (by rw[ef];exact nw (by decide)) (Hr ?_)
    refine⟨_,rfl,rfl,_,rfl,?_⟩
    refine By (by rw[ef];exact nw (by decide)) ?_
    refine⟨_,rfl,rfl,_,rfl,?_⟩
    refine Ej (by rw[ef]) ?_
    obtain⟨pl,epl,hpl⟩:=Kr c5 (m:=cl[x].length) (by omega)
    obtain⟨o,eo,hol⟩:=Kr c6 (m:=od.length) o1
    refine⟨_,rfl,_,_,_,_,rfl,rfl,hN,e5,_,rfl,_,rfl,(by rw[Ax];omega),_,_,rfl,rfl,(by rw[Ax];omega),?_⟩
    rw[Ax]
    dsimp only
    rw[epl]
    refine Di (σ':=[some (.ref a),some (.int f),some (.ref b),some (.str (tx od)),some (.int (x:Int)),some (.str (tx cl[x])),some (.int (pl:Int))]) rfl ?_
    refine⟨_,rfl,_,rfl,_,rfl,_,rfl,(by omega),?_⟩
    rw[Np (by omega)]
    refine⟨_,rfl,_,rfl,_,_,_,_,rfl,rfl,hN,e6,_,rfl,_,rfl,(by rw[Ax];omega),_,_,rfl,rfl,(by rw[Ax];omega),_,_,_,rfl,rfl,(by rw[Ax];omega),(by rw[Ax,eo];exact Wh hol),?_⟩
    refine⟨_,_,rfl,rfl,(by rw[Ax,Akf];show _+1≤sizeLine;omega),?_⟩
    rw[Fp,G3]
    refine⟨_,rfl,_,rfl,_,_,rfl,rfl,_,rfl,_,rfl,(by omega),?_⟩
    rw[show(pl:Int)+1=((pl+1:Nat):Int) by omega,Im (by omega)]
    refine⟨_,_,rfl,rfl,(by rw[Ax,Ax,AjR,Akf,Ak1];show _+1+_≤sizeLine;omega),?_⟩
    rw[G3]
    obtain⟨r,er⟩:∃ r,r=cl[x].take pl++[od.getD o 0]++cl[x].drop (pl+1):=⟨_,rfl⟩
    obtain⟨v,ev⟩:∃ v,v=some (V.int (pl:Int)):=⟨_,rfl⟩
    rw[← er,← ev]
    refine Di (σ':=[some (.ref a),some (.int f),some (.ref b),some (.str (tx od)),some (.int (x:Int)),some (.str (tx r)),v]) rfl ?_
    refine rest r v ⟨by rw[er,AjR,AjR,Akf,Ak1,Akt];omega,AcB R4 (c:=od.getD o 0) (by rw[er];simp) (ho _ ?_)⟩
    rw[show od.getD o 0=od[o] by simp[List.getD,hol]]
    exact AjU _
   ·
    refine⟨_,rfl,rfl,_,rfl,?_⟩
    refine By (by rw[ef];exact nw (by decide)) ?_
    refine⟨_,rfl,rfl,_,rfl,?_⟩
    refine By (by rw[ef];exact nw (by decide)) ?_
    refine⟨_,rfl,rfl,_,rfl,?_⟩
    refine Ej (by rw[ef]) ?_
    refine Di (σ':=[some (.ref a),some (.int f),some (.ref b),some (.str (tx od)),some (.int (x:Int)),some (.str (tx [])),none]) rfl ?_
    refine⟨_,rfl,rfl,_,rfl,?_⟩
    refine By (by rw[ef];exact nw (by decide)) ?_
    refine⟨_,rfl,rfl,_,rfl,?_⟩
    refine By (by rw[ef];exact nw (by decide)) (Hr ?_)
    refine⟨_,rfl,rfl,_,rfl,?_⟩
    refine By (by rw[ef];exact nw (by decide)) ?_
    refine⟨_,rfl,rfl,_,rfl,?_⟩
    refine By (by rw[ef];exact nw (by decide)) ?_
    exact rest [] none ⟨by decide,AaQ R4⟩
   ·
    refine⟨_,rfl,rfl,_,rfl,?_⟩
    refine By (by rw[ef];exact nw (by decide)) ?_
    refine⟨_,rfl,rfl,_,rfl,?_⟩
    refine By (by rw[ef];exact nw (by decide)) ?_
    refine⟨_,rfl,rfl,_,rfl,?_⟩
    refine By (by rw[ef];exact nw (by decide)) ?_
    refine⟨_,rfl,rfl,_,rfl,?_⟩
    refine By (by rw[ef];exact nw (by decide)) ?_
    refine⟨_,rfl,rfl,_,rfl,?_⟩
    refine Ej (by rw[ef]) ?_
    refine⟨_,rfl,_,_,_,_,rfl,rfl,hN,e5,_,_,rfl,rfl,(by show(0:Int)<2;decide),rfl,_,rfl,?_⟩
    have two:=hf5 ef
    refine CJ (fun _=>?_) (fun _=>?_)
    ·refine⟨_,rfl,_,rfl,_,_,_,rfl,rfl,(by rw[Ax];omega),Wh (u:=cl[x]) (i:=0) (by omega),?_⟩
     refine⟨_,_,rfl,rfl,(by rw[Ax];show _+1≤sizeLine;omega),?_⟩
     rw[Fp,G3]
     refine Di (σ':=[some (.ref a),some (.int f),some (.ref b),some (.str (tx od)),some (.int (x:Int)),some (.str (tx (cl[x]++[cl[x].getD 0 0]))),none]) rfl ?_
     refine⟨_,rfl,rfl,_,rfl,?_⟩
     refine By (by rw[ef];exact nw (by decide)) ?_
     obtain⟨u,hu,huc⟩:=Vi (r:=cl[x]++[cl[x].getD 0 0]) hxl (by omega)
     exact rest (cl[x]++[cl[x].getD 0 0]) none ⟨by rw[AjR];show _+1≤50;omega,ZR R4 hu (by rw[C.hm u huc,AjR,lx];show m+1≠m;omega)⟩
    ·refine⟨_,rfl,rfl,_,rfl,?_⟩
     refine Ej (by rw[ef]) ?_
     refine⟨_,rfl,_,rfl,_,rfl,(by omega),?_⟩
     rw[show(1:Int)=((1:Nat):Int) from rfl,Im (by omega)]
     refine Di (σ':=[some (.ref a),some (.int f),some (.ref b),some (.str (tx od)),some (.int (x:Int)),some (.str (tx (cl[x].drop 1))),none]) rfl ?_
     refine⟨_,rfl,rfl,_,rfl,?_⟩
     refine By (by rw[ef];exact nw (by decide)) ?_
     obtain⟨u,hu,huc⟩:=Vi (r:=cl[x].drop 1) hxl (by omega)
     exact rest (cl[x].drop 1) none ⟨by rw[Ak1];omega,ZR R4 hu (by rw[C.hm u huc,Ak1,lx];omega)⟩
   ·
    refine⟨_,rfl,rfl,_,rfl,?_⟩
    refine By (by rw[ef];exact nw (by decide)) ?_
    refine⟨_,rfl,rfl,_,rfl,?_⟩
    refine By (by rw[ef];exact nw (by decide)) ?_
    refine⟨_,rfl,rfl,_,rfl,?_⟩
    refine By (by rw[ef];exact nw (by decide)) ?_
    refine⟨_,rfl,rfl,_,rfl,?_⟩
    refine Ej (by rw[ef]) ?_
    obtain⟨N9,eN,hN9,AjN⟩:∃ N9:Nat,41+c5%9=(N9:Int)∧41≤N9∧N9≤49:=by
     have h1:=Ak6 c5 (show(9:Int)≠0 by decide)
     have h2:=Ak7 c5 (show(0:Int)<9 by decide)
     exact⟨(41+c5%9).toNat,by omega,by omega,by omega⟩
    refine⟨_,rfl,_,rfl,⟨_,hS⟩,GP (K:=K) (a:=a) (xs:=vS cl) (fun i ys H2=>H2=H∧∃ ds:List (List Nat),ys=vS ds∧ds.length=i∧∀ u∈ds,41≤u.length∧u.length≤49) ⟨rfl,[],rfl,rfl,fun _ h=>absurd h (by simp)⟩ ?_ ?_ ?_ ?_⟩
    ·rintro i ys H2 hi ⟨rfl,ds,rfl,dl,_⟩
     exact⟨hS,by rw[BJ,dl];exact AjQ _⟩
    ·rw[hlen];omega
    ·rintro i y ys H2 hi hy ⟨rfl,ds,rfl,dl,dm⟩
     obtain⟨u,hu,rfl⟩:=GR hy
     have ul:=C.hm u (AjT hu)
     have rl:((List.replicate 41 u).flatten).length=41*m:=by rw[Yk,ul]
     refine Ge.no ?_
     refine⟨_,rfl,u,41,rfl,rfl,by decide,by decide,(by rw[ul];show m*41≤sizeLine;omega),?_⟩
     refine⟨_,rfl,_,_,_,_,rfl,rfl,hN,e5,_,_,rfl,rfl,(by show(0:Int)<9;decide),_,_,rfl,rfl,_,rfl,_,rfl,(by show((List.replicate 41 u).flatten).length≤_;rw[rl];omega),?_⟩
     dsimp only
     rw[eN]
     refine CN.of hi ⟨rfl,ds++[((List.replicate 41 u).flatten).take (min N9 (41*m))],?_,by rw[AjR,dl];rfl,fun v hv=>?_⟩
     ·rw[← Gh]
      congr 3
      have:=AcA ((List.replicate 41 u).flatten) N9
      rw[rl] at this
      exact congrArg tx this
     ·rcases List.mem_append.mp hv with h | h
      ·exact dm v h
      ·rw[List.mem_singleton.mp h,Akf,rl];omega
    ·rintro ys H2 l ⟨rfl,ds,rfl,dl,dm⟩ nl
     rw[hlen] at dl
     have h0:0<ds.length:=by omega
     exact k l _ ds (.upd nl) nl Af (by omega) (fun u hu=>by have:=dm u hu;omega) (AcC (AjU h0) (by have:=dm _ (AjU h0);omega))
   ·
    refine⟨_,rfl,rfl,_,rfl,?_⟩
    refine Ej (by rw[ef]) ?_
    refine⟨Akb _,fun l nl=>?_⟩
    exact k l _ [] (.upd nl) nl Af (by decide) (fun u hu=>by simp at hu) (Yl (.inl rfl))
   ·
    refine⟨_,rfl,rfl,_,rfl,?_⟩
    refine By (by rw[ef];exact nw (by decide)) ?_
    refine⟨_,rfl,rfl,_,rfl,?_⟩
    refine Ej (by rw[ef]) ?_
    refine⟨_,rfl,(by decide),(by decide),?_⟩
    refine Fo (lo:=0) (n:=41) (fun i ys H2=>H2=H∧∃ ds:List (List Nat),ys=vS ds∧ds.length=i∧∀ u∈ds,u.length=m) ⟨rfl,[],rfl,rfl,fun _ h=>absurd h (by simp)⟩ ?_ ?_ ?_ ?_
    ·rintro i ys H2 hi ⟨rfl,ds,rfl,dl,_⟩
     rw[BJ,dl]
     exact AjQ _
    ·omega
    ·rintro i ys H2 hi ⟨rfl,ds,rfl,dl,dm⟩
     have hix:(0+(i:Int))%(n:Int)=((i%n:Nat):Int):=by rw[Ak5];omega
     have hlt:i%n<cl.length:=by rw[hn];exact AkN _ (by omega)
     refine Ge.no ?_
     refine⟨_,rfl,_,rfl,_,rfl,_,_,rfl,.inl hS,_,_,rfl,rfl,(by rw[hlen];show(0:Int)<(n:Int);omega),_,_,_,_,rfl,rfl,hS,(by rw[hlen];exact Bm (by rw[hix];omega) (by rw[hix,AjW];exact GQ (AjO hlt))),?_⟩
     refine CN.of hi ⟨rfl,ds++[cl[i%n]],Gh _ _,by rw[AjR,dl];rfl,fun u hu=>?_⟩
     rcases List.mem_append.mp hu with h | h
     ·exact dm u h
     ·rw[List.mem_singleton.mp h];exact C.hm _ (AjU hlt)
    ·rintro ys H2 l ⟨rfl,ds,rfl,dl,dm⟩ nl
     exact k l _ ds (.upd nl) nl Af (by omega) (fun u hu=>by rw[dm u hu];omega) (Yl (.inr (by omega)))
  rintro r v ⟨rl,hb⟩
  refine⟨_,rfl,_,rfl,_,rfl,_,_,rfl,hS,fun l1 n1=>?_⟩
  rw[AdS (by rw[BJ];omega),AdT]
  have s1:Av H (upd H l1 (.lst (vS (cl.take x)))):=.upd n1
  refine⟨_,rfl,(by show 1≤sizeLine;decide),fun l2 n2=>?_⟩
  have s2:=s1.new (o:=.lst [.str (tx r)]) n2
  refine⟨_,_,_,_,rfl,rfl,(Av.upd n2) _ _ Af,Af,(by rw[BJ,Akf];show _+1≤sizeLine;omega),fun l3 n3=>?_⟩
  rw[Gh]
  have s3:=s2.new (o:=.lst (vS (cl.take x++[r]))) n3
  refine⟨_,rfl,_,rfl,_,_,rfl,rfl,_,rfl,_,_,rfl,s3.seq hS,fun l4 n4=>?_⟩
  rw[show(x:Int)+1=((x+1:Nat):Int) by omega,AaO (by rw[BJ];omega),AdU]
  have s4:=s3.new (o:=.lst (vS (cl.drop (x+1)))) n4
  refine⟨_,_,_,_,rfl,rfl,(Av.upd n4) _ _ Af,Af,(by rw[BJ,BJ,AjR,Akf,Ak1];show _+1+_≤sizeLine;omega),fun l5 n5=>?_⟩
  rw[Acn]
  refine k l5 _ (swp cl x r) (s4.new n5) (s4.free n5) Af (by rw[AdV hxl];omega) (fun u hu=>?_) hb
  rcases AdW hu with e | e
  ·rw[e];omega
  ·rw[C.hm u e];omega
abbrev AaR:Str := " !\"#$&'()*+,-./0123456789:;<=>@ABCDEFGHIJKLMNOPQRSTUVWXYZ[\\]^_`ghijklmnopqrstuvwxyz{|}~"
theorem AdX:AaR.cps.toList.all (fun c=>!decide (Okq true c))=true:=by decide +kernel
theorem AcD:AaR.cps.toList.length=87:=by decide +kernel
theorem AdY{z:Int}(h0:0≤z)(h1:z<87):∃ c,atI AaR.cps.toList z=some c∧¬Okq true c:=by
 have hz:z.toNat<AaR.cps.toList.length:=by rw[AcD];omega
 refine⟨AaR.cps.toList[z.toNat],Bm h0 (AjO hz),fun hg=>?_⟩
 have:=List.all_eq_true.mp AdX _ (AjU hz)
 rw[decide_eq_true hg] at this
 cases this
theorem AiD:(("abcdef" : Str)).cps.toList=[97,98,99,100,101,102]:=by decide +kernel
theorem AdZ{z:Int}(h0:0≤z)(h1:z<6):∃ c,atI (("abcdef" : Str)).cps.toList z=some c:=by
 rw[AiD]
 exact⟨[97,98,99,100,101,102][z.toNat]'(by show z.toNat<6;omega),Bm h0 (AjO _)⟩
theorem q63:(("?" : Str))=tx [63]:=by decide +kernel
def Qst (u u':List Nat):Prop:=u'.length=u.length∧63∈u'∧∀ j,j<u.length→u'.getD j 0=63∨u'.getD j 0=u.getD j 0
def Aga (K:PySem.W.Frag):Sp:=fun vs H Q _=>∃(b:Addr) (ks:List Int) (u:List Nat) (f:Int),vs=[.str (tx u),.int f,.ref b]∧1≤u.length∧u.length≤40∧1≤f∧f≤4∧SqL K H b (vI ks)∧Num ks 63 ∧
 ∀ u':List Nat,u'.length≤50→(f<3→u'.length≠u.length)→(f=3→∃ c∈u',¬Okq true c)→(f=4→Qst u u')→Q (.str (tx u')) H
theorem KC(T:Txt K mg t):BK P w K mg base CX0 1 t.Fv t.Fw ["threads", "fault", "numbers"] (Aga K):=by
 refine T.Er.F.ok Fi (fun vs H Q E h=>?_) (fun cdv A outer s H vs Q E hr h=>?_)
 ·obtain⟨b,ks,u,f,rfl,_⟩:=h
  rfl
 ·obtain⟨b,ks,u,f,rfl,u1,u40,f1,f4,hN,N,k⟩:=h
  have hsz:sizeLine=16777216:=sizeLine_eq
  obtain⟨c5,e5,_⟩:=N.at (i:=5) (by decide) (by decide)
  obtain⟨c6,e6,_⟩:=N.at (i:=6) (by decide) (by decide)
  obtain⟨x,ex,hx⟩:=Kr c5 (m:=u.length) u1
  obtain⟨o,eo,ho⟩:=AdY (z:=c6%87) (Ak6 _ (by decide)) (Ak7 _ (by decide))
  obtain⟨g,eg⟩:=AdZ (z:=c6%6) (Ak6 _ (by decide)) (Ak7 _ (by decide))
  have lt:=Akf (i:=x) (l:=u)
  have ld:=Ak1 (i:=x) (l:=u)
  have ld1:=Ak1 (i:=x+1) (l:=u)
  refine⟨_,(Ab (Al (i:=3) Fi.nd rfl (Or.inl rfl) (Bg Dd (Bb (Ay (K:=K)) (pv 2) Ae (fun _ _=>rfl)) (Aj Bt rfl T.BW Bs (Aa (pv 0) Ac))))
   (Ab (Al (i:=4) Fi.nd rfl (Or.inl rfl) Az)
   (Ab (Bh (Ag Cy (pv 1) Ae (Ak _))
    (Ad (Ba (Bg Cg (Bg Cg (Dm G5 (pv 0) Eb (Ec (pv 3))) (Bb Fe Az (Bg Dd (Bb (Ay (K:=K)) (pv 2) Ae (fun _ _=>rfl)) Ae) (fun _ _=>rfl))) (Dm G5 (pv 0) (Ec (pv 3)) Eb))))
    Am)
   (Ab (Bh (Ag Cy (pv 1) Ae (Ak _))
    (Ad (Ba (Bg Cg (Dm G5 (pv 0) Eb (Ec (pv 3))) (Dm G5 (pv 0) (Ec (Bg DY (pv 3) Ae)) Eb))))
    Am)
   (Ab (Bh (Ag Cy (pv 1) Ae (Ak _))
    (Ad (Ba (Bg Cg (Bg Cg (Dm G5 (pv 0) Eb (Ec (pv 3))) (Bb Fe (pv 4) (Bg Dd (Bb (Ay (K:=K)) (pv 2) Ae (fun _ _=>rfl)) Ae) (fun _ _=>rfl))) (Dm G5 (pv 0) (Ec (Bg DY (pv 3) Ae)) Eb))))
    Am)
   (Ad (Ba (Bg Cg (Bg Cg (Dm G5 (pv 0) Eb (Ec (pv 3))) Az) (Dm G5 (pv 0) (Ec (Bg DY (pv 3) Ae)) Eb))))))))),?_⟩
  refine⟨_,rfl,_,_,_,_,rfl,rfl,hN,e5,_,rfl,_,rfl,(by rw[Ax];omega),_,_,rfl,rfl,(by rw[Ax];omega),?_⟩
  rw[Ax]
  dsimp only
  rw[ex]
  refine Di (σ':=[some (.str (tx u)),some (.int f),some (.ref b),some (.int (x:Int)),none]) rfl ?_
  refine Di (σ':=[some (.str (tx u)),some (.int f),some (.ref b),some (.int (x:Int)),some (.str AaR)]) rfl ?_
  refine⟨_,rfl,rfl,_,rfl,?_⟩
  refine CJ (fun h1=>?_) (fun h1=>?_)
  ·have e1:f=1:=by injection h1
   refine⟨_,rfl,_,rfl,_,rfl,_,rfl,(by omega),?_⟩
   rw[Np (by omega)]
   refine⟨_,rfl,_,_,_,_,rfl,rfl,hN,e6,_,_,rfl,rfl,(by show(0:Int)<6;decide),_,_,_,rfl,rfl,(by decide +kernel),eg,?_⟩
   refine⟨_,_,rfl,rfl,(by rw[Ax];show _+1≤sizeLine;omega),?_⟩
   rw[Fp,G3]
   refine⟨_,rfl,_,rfl,_,rfl,_,rfl,(by omega),?_⟩
   rw[Im (by omega)]
   refine⟨_,_,rfl,rfl,(by rw[Ax,Ax,AjR];show _+1+_≤sizeLine;omega),?_⟩
   rw[G3]
   exact k _ (by rw[AjR,AjR];show _+1+_≤50;omega) (fun _=>by rw[AjR,AjR];show _+1+_≠_;omega) (fun z=>by omega) (fun z=>by omega)
  have n1:f≠1:=fun z=>h1 (by rw[z])
  refine⟨_,rfl,rfl,_,rfl,?_⟩
  refine CJ (fun h2=>?_) (fun h2=>?_)
  ·have e2:f=2:=by injection h2
   refine⟨_,rfl,_,rfl,_,rfl,_,rfl,(by omega),?_⟩
   rw[Np (by omega)]
   refine⟨_,rfl,_,rfl,_,_,rfl,rfl,_,rfl,_,rfl,(by omega),?_⟩
   rw[show(x:Int)+1=((x+1:Nat):Int) by omega,Im (by omega)]
   refine⟨_,_,rfl,rfl,(by rw[Ax,Ax];omega),?_⟩
   rw[G3]
   exact k _ (by rw[AjR];omega) (fun _=>by rw[AjR];omega) (fun z=>by omega) (fun z=>by omega)
  have n2:f≠2:=fun z=>h2 (by rw[z])
  refine⟨_,rfl,rfl,_,rfl,?_⟩
  refine CJ (fun h3=>?_) (fun h3=>?_)
  ·have e3:f=3:=by injection h3
   refine⟨_,rfl,_,rfl,_,rfl,_,rfl,(by omega),?_⟩
   rw[Np (by omega)]
   refine⟨_,rfl,_,rfl,_,_,_,_,rfl,rfl,hN,e6,_,_,rfl,rfl,(by show(0:Int)<87;decide),_,_,_,rfl,rfl,(by decide +kernel),eo,?_⟩
   refine⟨_,_,rfl,rfl,(by rw[Ax];show _+1≤sizeLine;omega),?_⟩
   rw[Fp,G3]
   refine⟨_,rfl,_,rfl,_,_,rfl,rfl,_,rfl,_,rfl,(by omega),?_⟩
   rw[show(x:Int)+1=((x+1:Nat):Int) by omega,Im (by omega)]
   refine⟨_,_,rfl,rfl,(by rw[Ax,Ax,AjR];show _+1+_≤sizeLine;omega),?_⟩
   rw[G3]
   exact k _ (by rw[AjR,AjR];show _+1+_≤50;omega) (fun z=>by omega) (fun _=>⟨o,by simp,ho⟩) (fun z=>by omega)
  have n3:f≠3:=fun z=>h3 (by rw[z])
  refine⟨_,rfl,_,rfl,_,rfl,_,rfl,(by omega),?_⟩
  rw[Np (by omega)]
  refine⟨_,_,rfl,rfl,(by rw[Ax];show _+1≤sizeLine;omega),?_⟩
  rw[q63,G3]
  refine⟨_,rfl,_,rfl,_,_,rfl,rfl,_,rfl,_,rfl,(by omega),?_⟩
  rw[show(x:Int)+1=((x+1:Nat):Int) by omega,Im (by omega)]
  refine⟨_,_,rfl,rfl,(by rw[Ax,Ax,AjR];show _+1+_≤sizeLine;omega),?_⟩
  rw[G3]
  refine k _ (by rw[AjR,AjR];show _+1+_≤50;omega) (fun z=>by omega) (fun z=>by omega) (fun _=>⟨by rw[AjR,AjR];show _+1+_=_;omega,by simp,fun j hj=>?_⟩)
  by_cases e:j<x
  ·right
   rw[AjV,AjV,AkK,Aki (by omega),Ale e]
  ·by_cases e2:j=x
   ·left
    rw[AjV,AkK,Akr (by omega),show j-(u.take x).length=0 by omega]
    rfl
   ·right
    have e3:(u.take x++[63]).length=x+1:=by rw[AjR,lt];show min x u.length+1=x+1;omega
    rw[AjV,AjV,Akr (by rw[e3];omega),Alh,e3,show x+1+(j-(x+1))=j by omega]
def Aea (wy f o:Int)(sm:Bool):Str:=if 0<f∧wy=0 then "NoCloth" else if 0<f∨(0<o∧o<4)∨(o=4∧wy<2)∨(sm=true∧wy=3) then "NoColour" else "told"
def Agb:Sp:=fun vs H Q _=>∃(wy f o:Int) (sm:Bool),vs=[.int wy,.int f,.int o,.bl sm]∧Q (.str (Aea wy f o sm)) H
theorem Zd(T:Txt K mg t):BK P w K mg base CX0 1 t.Qw t.Qx ["way", "fault", "other", "small"] Agb:=by
 refine T.Hn.F.ok YT (fun vs H Q E h=>?_) (fun cdv A outer s H vs Q E hr h=>?_)
 ·obtain⟨wy,f,o,sm,rfl,_⟩:=h
  rfl
 ·obtain⟨wy,f,o,sm,rfl,k⟩:=h
  unfold Aea at k
  refine⟨_,(Ab (Bh (PW.pt (pw_and (Ag Hq (pv 1) Ae (Ak _)) (pw_and1 (Ag Cy (pv 0) Ae (Ak _)))))
    (Ad (Ba Az))
    Am)
   (Ab (Bh (PW.pt (pw_or (Ag Hq (pv 1) Ae (Ak _)) (pw_or (Abg Fj Fj Ae (pv 2) Ae) (pw_or (PW.pt (pw_and (Ag Cy (pv 2) Ae (Ak _)) (pw_and1 (Ag Fj (pv 0) Ae (Ak _))))) (pw_or1 (PW.pt (pw_and (Aan (K:=K) (pv 3) (fun _=>rfl)) (pw_and1 (Ag Cy (pv 0) Ae (Ak _))))))))))
    (Ad (Ba Az))
    Am)
   (Ad (Ba Az)))),?_⟩
  refine⟨_,rfl,_,_,rfl,rfl,_,rfl,?_⟩
  refine CJ (fun hf=>?_) (fun hf=>Hr ?_)
  ·refine⟨_,rfl,rfl,_,rfl,?_⟩
   refine CJ (fun hw=>?_) (fun hw=>?_)
   ·have hw:wy=0:=by injection hw
    rw[if_pos ⟨hf,hw⟩] at k
    exact k
   ·rw[if_neg fun z=>hw (by rw[z.2]),if_pos (.inl hf)] at k
    exact⟨_,rfl,_,_,rfl,rfl,_,rfl,Ej hf (Iu k)⟩
  rw[if_neg fun z=>hf z.1] at k
  refine⟨_,rfl,_,_,rfl,rfl,_,rfl,?_⟩
  refine By hf ?_
  apply PL (¬(0<o∧o<4))
  ·intro rest
   refine⟨_,rfl,_,_,rfl,rfl,_,rfl,?_⟩
   refine CJ (fun h0=>?_) (fun h0=>?_)
   ·refine⟨_,_,rfl,rfl,_,rfl,?_⟩
    refine CJ (fun h4=>?_) (fun h4=>?_)
    ·rw[if_pos (.inr (.inl ⟨h0,h4⟩))] at k
     exact Iu k
    ·exact rest fun z=>h4 z.2
   ·exact⟨_,rfl,Hr (rest fun z=>h0 z.1)⟩
  intro no
  apply PL (¬(o=4∧wy<2))
  ·intro rest
   refine⟨_,rfl,rfl,_,rfl,?_⟩
   refine CJ (fun h4=>?_) (fun h4=>Hr ?_)
   ·have h4:o=4:=by injection h4
    refine⟨_,rfl,_,_,rfl,rfl,_,rfl,?_⟩
    refine CJ (fun h2=>?_) (fun h2=>?_)
    ·rw[if_pos (.inr (.inr (.inl ⟨h4,h2⟩)))] at k
     exact Iu k
    ·exact rest fun z=>h2 z.2
   ·exact rest fun z=>h4 (by rw[z.1])
  intro no2
  refine⟨_,rfl,sm,rfl,?_⟩
  cases sm with
  | false =>
   rw[if_neg fun z=>by rcases z with z | z | z | z;exact hf z;exact no z;exact no2 z;exact absurd z.1 (by decide)] at k
   exact Hr k
  | true =>
   refine Iu ?_
   refine⟨_,rfl,rfl,_,rfl,?_⟩
   refine CJ (fun h3=>?_) (fun h3=>?_)
   ·have h3:wy=3:=by injection h3
    rw[if_pos (.inr (.inr (.inr ⟨rfl,h3⟩)))] at k
    exact k
   ·rw[if_neg fun z=>by rcases z with z | z | z | z;exact hf z;exact no z;exact no2 z;exact h3 (by rw[z.2])] at k
    exact k
def Wd (wy:Int)(cl:List (List Nat))(wa we:List Nat)(z:Str):Prop:=(z = "told" ∧ Tld wy cl wa we)∨(z = "NoCloth" ∧ wy=0∧AaN cl)∨(z = "NoColour" ∧ Rfk wy cl wa we)
def Aeb (K:PySem.W.Frag):Sp:=fun vs H Q _=>∃(wy:Int) (a:Addr) (cl:List (List Nat)) (wa we:List Nat) (z:Str),vs=[.int wy,.ref a,.str (tx wa),.str (tx we)]∧Gv K H a cl wa we∧Wd wy cl wa we z∧∀ H',Av H H'→Q (.str z) H'
theorem Ym(T:Txt K mg t):BK P w K mg base CX0 8 t.Hb t.Hd ["way", "given", "warp", "weft"] (Aeb K) :=
 (IV (Wr T) (IV (Ws T) (Wt T))).imp fun vs H Q E ⟨wy,a,cl,wa,we,z,h1,G,W,k⟩=>by
  rcases W with ⟨rfl,W⟩ | ⟨rfl,W1,W2⟩ | ⟨rfl,W⟩
  ·exact .inl ⟨wy,a,cl,wa,we,h1,G.s,W,k⟩
  ·exact .inr (.inl ⟨wy,a,cl,wa,we,h1,G,W1,W2,k⟩)
  ·exact .inr (.inr ⟨wy,a,cl,wa,we,h1,G,W,k⟩)
theorem Thr.up{u:List Nat}{m:Nat}(h:Thr false u m):Thr true u m:=⟨h.1,fun c hc=>.inl (h.co c hc)⟩
theorem AcE{cl:List (List Nat)}{m n:Nat}{wa we:List Nat}(C:Cl cl m n)(hwa:wa.length=m)(hwe:we.length=n)(ca:∀ c∈wa,Co c)(ce:∀ c∈we,Co c):Fnd (Iv cl wa we) m n wa we wa we:=by
 refine⟨hwa,hwe,fun j hj=>⟨?_,.inr rfl⟩,fun j hj=>⟨?_,.inr rfl⟩,fun i j hi hj=>?_⟩
 ·rw[show wa.getD j 0=wa[j]'(by omega) by simp[List.getD,show j<wa.length by omega]]
  exact ca _ (AjU _)
 ·rw[show we.getD j 0=we[j]'(by omega) by simp[List.getD,show j<we.length by omega]]
  exact ce _ (AjU _)
 ·have:=Wl (wa:=wa) (we:=we) C.rct hi hj
  unfold gc at this
  rw[this]
  split
  ·exact .inl rfl
  ·exact .inr rfl
def Spl (o:Int)(m n:Nat)(wa we ra re:List Nat):Prop :=
 (o=0∧ra=wa∧re=we)∨(0<o∧o<4∧¬(Thr true ra m∧Thr true re n)) ∨
 (o=4∧Thr true ra m∧Thr true re n∧¬(Thr false ra m∧Thr false re n)∧(∀ j,j<m→ra.getD j 0=63∨ra.getD j 0=wa.getD j 0)∧∀ j,j<n→re.getD j 0=63∨re.getD j 0=we.getD j 0)
theorem Yn{cl:List (List Nat)}{m n:Nat}{wa we ra re:List Nat}{wy f o:Int}{tcl:List (List Nat)}(C:Cl cl m n)(hwa:wa.length=m)(hwe:we.length=n)(ca:∀ c∈wa,Co c)(ce:∀ c∈we,Co c)
  (hw:wy=0∨wy=1∨wy=2∨wy=3) (S:Spl o m n wa we ra re)
  (hT:(f=0∧tcl=if wy=0 then cl else Iv cl wa we)∨(0<f∧Bad (if wy=0 then Sg else Co) tcl)):Wd wy tcl ra re (Aea wy f o (decide (m<2∨n<2))):=by
 have Pc:=XX C hwa hwe ca ce
 have gt:Thr false wa m∧Thr false we n:=⟨⟨hwa,fun c hc=>.inl (ca c hc)⟩,⟨hwe,fun c hc=>.inl (ce c hc)⟩⟩
 unfold Aea
 rcases hT with ⟨f0,eT⟩ | ⟨f0,hB⟩
 ·subst f0
  rw[if_neg (fun z=>absurd z.1 (by decide))]
  have key:¬(0<o∧o<4)→(o=0∧ra=wa∧re=we)∨(o=4∧Thr true ra m∧Thr true re n∧¬(Thr false ra m∧Thr false re n)∧(∀ j,j<m→ra.getD j 0=63∨ra.getD j 0=wa.getD j 0)∧∀ j,j<n→re.getD j 0=63∨re.getD j 0=we.getD j 0):=fun z=>by
   rcases S with h | h | h
   ·exact .inl h
   ·exact absurd ⟨h.1,h.2.1⟩ z
   ·exact .inr h
  have fit:¬(0<o∧o<4)→∃ O,Thr true ra m∧Thr true re n∧Fit (Iv cl wa we) m n (ra++re) O:=fun z=>by
   rcases key z with ⟨_,rfl,rfl⟩ | ⟨_,t1,t2,_,r1,r2⟩
   ·exact⟨_,gt.1.up,gt.2.up,Ach C hwa hwe ca ce hwa hwe (fun _ _=>.inr rfl) fun _ _=>.inr rfl⟩
   ·exact⟨_,t1,t2,Ach C hwa hwe ca ce t1.1 t2.1 r1 r2⟩
  have bad:0<o∧o<4→¬(Thr true ra m∧Thr true re n):=fun z=>by
   rcases S with h | h | h
   ·omega
   ·exact h.2.2
   ·omega
  have Ahw:0<o→¬(Thr false ra m∧Thr false re n):=fun z=>by
   rcases S with h | h | h
   ·omega
   ·exact fun y=>h.2.2 ⟨y.1.up,y.2.up⟩
   ·exact h.2.2.2.1
  have same:o≤0→ra=wa∧re=we:=fun z=>by
   rcases S with h | h | h
   ·exact h.2
   ·omega
   ·omega
  have o4:o≤4:=by rcases S with h | h | h <;> omega
  rcases hw with rfl | rfl | rfl | rfl
  ·rw[if_pos rfl] at eT
   subst eT
   by_cases ho:0<o
   ·rw[if_pos (by omega)]
    exact .inr (.inr ⟨rfl,.inl ⟨rfl,m,n,C,Ahw ho⟩⟩)
   ·obtain⟨rfl,rfl⟩:=same (by omega)
    rw[if_neg (fun z=>by rcases z with z | z | z | z;exact absurd z (by decide);omega;omega;exact absurd z.2 (by decide))]
    exact .inl ⟨rfl,.inl ⟨rfl,m,n,C,gt.1,gt.2⟩⟩
  ·rw[if_neg (by decide)] at eT
   subst eT
   by_cases ho:0<o
   ·rw[if_pos (by omega)]
    refine .inr (.inr ⟨rfl,.inr (.inl ⟨rfl,fun m' n' C'=>?_⟩)⟩)
    obtain⟨e1,e2⟩:=TY Pc C'
    rw[e1,e2]
    exact Ahw ho
   ·obtain⟨rfl,rfl⟩:=same (by omega)
    rw[if_neg (fun z=>by rcases z with z | z | z | z;exact absurd z (by decide);omega;omega;exact absurd z.2 (by decide))]
    exact .inl ⟨rfl,.inr (.inl ⟨rfl,m,n,Pc,gt.1,gt.2,Ae3 Pc (AcE C hwa hwe ca ce)⟩)⟩
  ·rw[if_neg (by decide)] at eT
   subst eT
   by_cases ho:0<o∧o<4
   ·rw[if_pos (.inr (.inl ho))]
    refine .inr (.inr ⟨rfl,.inr (.inr (.inl ⟨rfl,fun m' n' C'=>?_⟩))⟩)
    obtain⟨e1,e2⟩:=TY Pc C'
    rw[e1,e2]
    exact bad ho
   ·obtain⟨O,t1,t2,F⟩:=fit ho
    rw[if_neg (fun z=>by rcases z with z | z | z | z;exact absurd z (by decide);exact ho z;omega;exact absurd z.2 (by decide))]
    exact .inl ⟨rfl,.inr (.inr (.inl ⟨rfl,m,n,O,Pc,t1,t2,F⟩))⟩
  ·rw[if_neg (by decide)] at eT
   subst eT
   by_cases ho:0<o∧o<4
   ·rw[if_pos (.inr (.inl ho))]
    refine .inr (.inr ⟨rfl,.inr (.inr (.inr ⟨rfl,fun m' n' C' _ _=>?_⟩))⟩)
    obtain⟨e1,e2⟩:=TY Pc C'
    rw[e1,e2]
    exact bad ho
   ·by_cases sm:m<2∨n<2
    ·rw[if_pos (.inr (.inr (.inr ⟨decide_eq_true sm,rfl⟩)))]
     refine .inr (.inr ⟨rfl,.inr (.inr (.inr ⟨rfl,fun m' n' C' h1 h2=>?_⟩))⟩)
     obtain⟨e1,e2⟩:=TY Pc C'
     omega
    ·obtain⟨O,t1,t2,F⟩:=fit ho
     rw[if_neg (fun z=>by rcases z with z | z | z | z;exact absurd z (by decide);exact ho z;omega;exact sm (of_decide_eq_true z.1))]
     exact .inl ⟨rfl,.inr (.inr (.inr ⟨rfl,m,n,O,Pc,by omega,by omega,t1,t2,F⟩))⟩
 ·by_cases w0:wy=0
  ·rw[if_pos ⟨f0,w0⟩]
   rw[if_pos w0] at hB
   exact .inr (.inl ⟨rfl,w0,hB.cl⟩)
  ·rw[if_neg (fun z=>w0 z.2),if_pos (.inl f0)]
   rw[if_neg w0] at hB
   have np:=hB.pic
   refine .inr (.inr ⟨rfl,?_⟩)
   rcases hw with h | h | h | h
   ·exact absurd h w0
   ·exact .inr (.inl ⟨h,fun m' n' C'=>absurd ⟨m',n',C'⟩ np⟩)
   ·exact .inr (.inr (.inl ⟨h,fun m' n' C'=>absurd ⟨m',n',C'⟩ np⟩))
   ·exact .inr (.inr (.inr ⟨h,fun m' n' C'=>absurd ⟨m',n',C'⟩ np⟩))
theorem AcF{G:Prop}{R:List Nat→List Nat→Hp→Prop}(C:List Nat→List Nat→Hp→Prop)(main:(∀ u v h,C u v h→R u v h)→G)(rest:∀ u v h,C u v h→R u v h):G:=main rest
theorem ZS{o:Int}{m:Nat}{u u':List Nat}(h4:o<4)(ho:0<o)(lu:u.length=m)(h12:o<3→u'.length≠u.length)(h3:o=3→∃ c∈u',¬Okq true c):¬Thr true u' m:=fun z=>by
 by_cases e:o<3
 ·exact h12 e (by rw[z.1,lu])
 ·obtain⟨c,hc,hb⟩:=h3 (by omega)
  exact hb (z.2 c hc)
theorem AeC{m:Nat}{u u':List Nat}(lu:u.length=m)(cu:∀ c∈u,Co c)(q:Qst u u'):Thr true u' m∧¬Thr false u' m:=by
 obtain⟨q1,q2,q3⟩:=q
 refine⟨⟨by rw[q1,lu],fun c hc=>?_⟩,fun z=>?_⟩
 ·obtain⟨j,hj,rfl⟩:=Aky hc
  have:=q3 j (by omega)
  rw[show u'.getD j 0=u'[j] by simp[List.getD,hj],show u.getD j 0=u[j]'(by omega) by simp[List.getD,show j<u.length by omega]] at this
  rcases this with h | h
  ·exact .inr ⟨rfl,h⟩
  ·rw[h];exact .inl (cu _ (AjU _))
 ·exact absurd (z.co 63 q2) (by decide)
def od0:List Nat:=[63,97,98,99,100,101,102,88,32,45,48,111,42,58]
def od1:List Nat:=[103,104,105,106,107,108,109,110,111,112,113,114,115,116,117,118,119,120,121,122,65,66,67,68,69,70,63,35,46,45,32,48]
theorem AiE:(Str.ofString "?abcdefX -0o*:")=tx od0:=by decide +kernel
theorem AiF:(Str.ofString "ghijklmnopqrstuvwxyzABCDEF?#.- 0")=tx od1:=by decide +kernel
theorem Aec:∀ c∈od0,¬Sg c:=by decide
theorem Aed:∀ c∈od1,¬Co c:=by decide
theorem Agc{i:Nat}{v:V}{σ σ':St}{H:Hp}{b:TS}{D:Ends}(h:σ.set i (some v)=σ')(k:b D σ' H):Agl (AaY (tC v) (KD i)) b D σ H:=by subst h;exact k
theorem Ahx{σ:St}{H:Hp}{D:Ends}(k:D.nx σ H):Aeh D σ H:=k
theorem Agd{i:Nat}{v:V}{σ σ':St}{H:Hp}{D:Ends}(h:σ.set i (some v)=σ')(k:D.nx σ' H):AaY (tC v) (KD i) D σ H:=by subst h;exact k
theorem AcG{G:Prop}{R:Addr→List Nat→Prop}(C:Addr→List Nat→Prop)(main:(∀ u v,C u v→R u v)→G)(rest:∀ u v,C u v→R u v):G:=main rest
theorem AcH{G:Prop}{R:Addr→List (List Nat)→Hp→Prop}(C:Addr→List (List Nat)→Hp→Prop)(main:(∀ u v h,C u v h→R u v h)→G)(rest:∀ u v h,C u v h→R u v h):G:=main rest
def Ww (K:PySem.W.Frag):Sp:=fun vs H Q _=>∃(a:Addr) (ns:List Int),vs=[.ref a]∧SqL K H a (vI ns)∧ns.length≤63∧∀ H',Q (.bl true) H'
theorem Wx{K:PySem.W.Frag}{H:Hp}{a:Addr}{ns:List Int}(hl:ns.length≤63)(hS:SqL K H a (ns.map V.int)):Ww K [.ref a] H (fun v _=>v=.bl true) fun _ _ _=>False:=⟨a,ns,rfl,hS,hl,fun _=>rfl⟩
theorem Age(T:Txt K mg t):BK P w K mg base CX0 9 t.Ae0 t.AbP ["script"] (Ww K):=by
 have Uq:BK P w K mg base CX0 1 t.Jp t.Jq _ _:=Tv T
 have Ze:BK P w K mg base CX0 1 t.Nx t.Ny _ _:=XM T
 have Nh:BK P w K mg base CX0 1 t.Jr t.Js _ _:=Tw T
 have Yo:BK P w K mg base CX0 1 t.Li t.Lj _ _:=Wu T
 have Oh:BK P w K mg base CX0 1 t.Gu t.Gw _ _:=M4 T
 have Lx:BK P w K mg base CX0 1 t.Fv t.Fw _ _:=KC T
 have QH:BK P w K mg base CX0 1 t.Qw t.Qx _ _:=Zd T
 have Oi:BK P w K mg base CX0 8 t.Hb t.Hd _ _:=Ym T
 refine T.law.F.ok El (fun vs H Q E h=>?_) (fun cdv A outer s H vs Q E hr h=>?_)
 ·obtain⟨a,ns,rfl,_⟩:=h
  rfl
 ·obtain⟨a,ns,rfl,hS,hl,k⟩:=h
  have hsz:sizeLine=16777216:=sizeLine_eq
  refine⟨_,(Ab (Al (i:=1) El.nd rfl (Or.inl rfl) (An (Uq.mono (by decide)) hr rfl T.Jg.m T.Jg.F.kp T.Jg.b .nil Bv (Aa (pv 0) (Aa Ae Ac))))
   (Ab (Al (i:=2) El.nd rfl (Or.inl rfl) (Aj RG rfl T.Ae1 Abv (Aa Ae (Aa (Bg Yq (Bg Dd (Bb (Ay (K:=K)) (pv 1) Ae (fun _ _=>rfl)) Ae) Ae) Ac))))
   (Ab (Al (i:=3) El.nd rfl (Or.inl rfl) (Aj RG rfl T.Ae1 Abv (Aa Ae (Aa (Bg Yq (Bg Dd (Bb (Ay (K:=K)) (pv 1) Ae (fun _ _=>rfl)) Ae) Ae) Ac))))
   (Ab (Al (i:=4) El.nd rfl (Or.inl rfl) (Bg DY Ae (Bg Dd (Bb (Ay (K:=K)) (pv 1) Ae (fun _ _=>rfl)) Ae)))
   (Ab (Al (i:=5) El.nd rfl (Or.inl rfl) (Bg DY Ae (Bg Dd (Bb (Ay (K:=K)) (pv 1) Ae (fun _ _=>rfl)) Ae)))
   (Ab (Bh (Ag Cy (pv 2) Ae (Ak _))
    (Ad (Al (i:=5) El.nd rfl (Or.inl rfl) (Bg DY Ae (Bg Dd (Bb (Ay (K:=K)) (pv 1) Ae (fun _ _=>rfl)) Ae))))
    Am)
   (Ab (Al (i:=6) El.nd rfl (Or.inl rfl) (Bg DY Ae (Bg Dd (Bb (Ay (K:=K)) (pv 1) Ae (fun _ _=>rfl)) Ae)))
   (Ab (Al (i:=7) El.nd rfl (Or.inl rfl) (An (Ze.mono (by decide)) hr rfl T.Pn.m T.Pn.F.kp T.Pn.b .nil Bv (Aa (pv 1) (Aa (pv 4) (Aa (pv 5) Ac)))))
   (Ab (Al (i:=8) El.nd rfl (Or.inl rfl) (Fl (Aa (An (Nh.mono (by decide)) hr rfl T.Fz.m T.Fz.F.kp T.Fz.b .nil Bv (Aa (pv 1) (Aa Ae (Aa (pv 4) (Aa (pv 6) Ac))))) (Aa (An (Nh.mono (by decide)) hr rfl T.Fz.m T.Fz.F.kp T.Fz.b .nil Bv (Aa (pv 1) (Aa Ae (Aa (pv 5) (Aa (pv 6) Ac))))) Ac))))
   (Ab (Al (i:=9) El.nd rfl (Or.inl rfl) (An (Yo.mono (by decide)) hr rfl T.Mr.m T.Mr.F.kp T.Mr.b .nil Bv (Aa (pv 7) (Aa (Bb (Ay (K:=K)) (pv 8) Ae (fun _ _=>rfl)) (Aa (Bb (Ay (K:=K)) (pv 8) Ae (fun _ _=>rfl)) Ac)))))
   (Ab (Al (i:=10) El.nd rfl (Or.inl rfl) (FP (Ea (K:=K)) rfl T.Ii Hg (Aa (pv 8) Ac)))
   (Ab (Bh (Ag Hq (pv 3) Ae (Ak _))
    (Ad (AaZ (An (Lx.mono (by decide)) hr rfl T.Er.m T.Er.F.kp T.Er.b .nil Bv (Aa (Bb (Ay (K:=K)) (pv 8) (Bg Dd (Bg LK (Bb (Ay (K:=K)) (pv 1) Ae (fun _ _=>rfl)) Ae) Ae) (fun _ _=>rfl)) (Aa (pv 3) (Aa (pv 1) Ac)))) (AaX (pv 10) (Bg Dd (Bg LK (Bb (Ay (K:=K)) (pv 1) Ae (fun _ _=>rfl)) Ae) Ae) set_list)))
    Am)
   (Ab (Al (i:=11) El.nd rfl (Or.inl rfl) (Agk (Zn Fj (pv 4) Ae (Ak _)) (AeJ (Zn Fj (pv 5) Ae (Ak _)))))
   (Ab (Cp PassesOwn.never rfl (BZ rfl T.Dc (Aa Ae Ac)) (Bu (i:=12) El.nd rfl (Or.inl rfl))
    (Ab (Al (i:=13) El.nd rfl (Or.inl rfl) (pv 9))
    (Ab (Al (i:=14) El.nd rfl (Or.inl rfl) Az)
    (Ab (Bh (Ag Cy (pv 12) Ae (Ak _))
     (Ab (Al (i:=13) El.nd rfl (Or.inl rfl) (pv 7))
     (Ad (Al (i:=14) El.nd rfl (Or.inl rfl) Az)))
     Am)
    (Ab (Al (i:=15) El.nd rfl (Or.inl rfl) (pv 13))
    (Ab (Bh (Ag Hq (pv 2) Ae (Ak _))
     (Ad (Al (i:=15) El.nd rfl (Or.inl rfl) (An (Oh.mono (by decide)) hr rfl T.FZ.m T.FZ.F.kp T.FZ.b .nil Bv (Aa (pv 13) (Aa (pv 2) (Aa (pv 1) (Aa (pv 14) Ac)))))))
     Am)
    (Ab (Bh (Ag Iz (An (Oi.mono (by decide)) hr rfl T.Ey.m T.Ey.F.kp T.Ey.b .nil Bv (Aa (pv 12) (Aa (FP (Ea (K:=K)) rfl T.Ii Hg (Aa (pv 15) Ac)) (Aa (Bb (Ay (K:=K)) (pv 10) Ae (fun _ _=>rfl)) (Aa (Bb (Ay (K:=K)) (pv 10) Ae (fun _ _=>rfl)) Ac))))) (An (QH.mono (by decide)) hr rfl T.Hn.m T.Hn.F.kp T.Hn.b .nil Bv (Aa (pv 12) (Aa (pv 2) (Aa (pv 3) (Aa (pv 11) Ac))))) (Ak _))
     (Ad (Ba Zg))
     Am)
    (Ab (Bh (Ag Iz (An (Oi.mono (by decide)) hr rfl T.Ey.m T.Ey.F.kp T.Ey.b .nil Bv (Aa (pv 12) (Aa (FP (Ea (K:=K)) rfl T.Ii Hg (Aa (pv 13) Ac)) (Aa (Bb (Ay (K:=K)) (pv 8) Ae (fun _ _=>rfl)) (Aa (Bb (Ay (K:=K)) (pv 8) Ae (fun _ _=>rfl)) Ac))))) (An (QH.mono (by decide)) hr rfl T.Hn.m T.Hn.F.kp T.Hn.b .nil Bv (Aa (pv 12) (Aa Ae (Aa Ae (Aa (pv 11) Ac))))) (Ak _))
     (Ad (Ba Zg))
     Am)
    (Ad (Bh (Ag Iz (An (Oi.mono (by decide)) hr rfl T.Ey.m T.Ey.F.kp T.Ey.b .nil Bv (Aa (pv 12) (Aa (FP (Ea (K:=K)) rfl T.Ii Hg (Aa (pv 15) Ac)) (Aa (Bb (Ay (K:=K)) (pv 10) Ae (fun _ _=>rfl)) (Aa (Bb (Ay (K:=K)) (pv 10) Ae (fun _ _=>rfl)) Ac))))) (An (QH.mono (by decide)) hr rfl T.Hn.m T.Hn.F.kp T.Hn.b .nil Bv (Aa (pv 12) (Aa (pv 2) (Aa (pv 3) (Aa (pv 11) Ac))))) (Ak _))
     (Ad (Ba Zg))
     Am))))))))))
   (Ad (Ba Zg)))))))))))))))),?_⟩
  refine⟨_,rfl,a,ns,63,rfl,hS,hl,by decide,by decide,fun ln ks H1 s1 nln hln hN=>?_⟩
  obtain⟨c0,e0,_⟩:=hN.at (i:=0) (by decide) (by decide)
  obtain⟨c1,e1,_⟩:=hN.at (i:=1) (by decide) (by decide)
  obtain⟨c2,e2,_⟩:=hN.at (i:=2) (by decide) (by decide)
  obtain⟨c3,e3,_⟩:=hN.at (i:=3) (by decide) (by decide)
  obtain⟨c7,e7,g7,g7'⟩:=hN.at (i:=7) (by decide) (by decide)
  have gn:SqL K H1 ln (vI ks):=SqL.of hln
  refine Di (σ':=[some (.ref a),some (.ref ln),none,none,none,none,none,none,none,none,none,none,none,none,none,none]) rfl ?_
  obtain⟨f,ef,f0,f6⟩:∃ f:Int,(if c0%9-2>0 then c0%9-2 else 0)=f∧0≤f∧f≤6:=⟨_,rfl,by split <;> omega,by split <;> omega⟩
  obtain⟨o,eo,o0,o4⟩:∃ o:Int,(if c1%6-1>0 then c1%6-1 else 0)=o∧0≤o∧o≤4:=⟨_,rfl,by split <;> omega,by split <;> omega⟩
  obtain⟨m,em,m1,m5⟩:=YW c2 (z:=5) (by decide) (y:=5) (by decide)
  obtain⟨nb,enb,nb1,nb5⟩:=YW c3 (z:=5) (by decide) (y:=5) (by decide)
  obtain⟨sp,esp,sp1,sp6⟩:=YW c7 (z:=6) (by decide) (y:=6) (by decide)
  refine⟨_,rfl,_,_,_,_,rfl,rfl,gn,e0,_,_,rfl,rfl,(by show(0:Int)<9;decide),_,_,rfl,rfl,_,_,rfl,?_⟩
  dsimp only
  rw[ef]
  refine Di (σ':=[some (.ref a),some (.ref ln),some (.int f),none,none,none,none,none,none,none,none,none,none,none,none,none]) rfl ?_
  refine⟨_,rfl,_,_,_,_,rfl,rfl,gn,e1,_,_,rfl,rfl,(by show(0:Int)<6;decide),_,_,rfl,rfl,_,_,rfl,?_⟩
  dsimp only
  rw[eo]
  refine Di (σ':=[some (.ref a),some (.ref ln),some (.int f),some (.int o),none,none,none,none,none,none,none,none,none,none,none,none]) rfl ?_
  refine⟨_,rfl,_,_,_,_,rfl,rfl,gn,e2,_,_,rfl,rfl,(by show(0:Int)<5;decide),_,_,rfl,rfl,?_⟩
  dsimp only
  rw[em]
  refine Di (σ':=[some (.ref a),some (.ref ln),some (.int f),some (.int o),some (.int (m:Int)),none,none,none,none,none,none,none,none,none,none,none]) rfl ?_
  refine⟨_,rfl,_,_,_,_,rfl,rfl,gn,e3,_,_,rfl,rfl,(by show(0:Int)<5;decide),_,_,rfl,rfl,?_⟩
  dsimp only
  rw[enb]
  refine Di (σ':=[some (.ref a),some (.ref ln),some (.int f),some (.int o),some (.int (m:Int)),some (.int (nb:Int)),none,none,none,none,none,none,none,none,none,none]) rfl ?_
  apply AbR (fun n=>1≤n∧n≤5∧(f=5→2≤n))
  ·intro rest
   refine⟨_,rfl,rfl,_,rfl,?_⟩
   refine CJ (fun h5=>?_) (fun h5=>?_)
   ·obtain⟨n,en,n2,n5⟩:∃ n:Nat,2+c3%4=(n:Int)∧2≤n∧n≤5:=by
     have h1:=Ak6 c3 (show(4:Int)≠0 by decide)
     have h2:=Ak7 c3 (show(0:Int)<4 by decide)
     exact⟨(2+c3%4).toNat,by omega,by omega,by omega⟩
    refine⟨_,rfl,_,_,_,_,rfl,rfl,gn,e3,_,_,rfl,rfl,(by show(0:Int)<4;decide),_,_,rfl,rfl,?_⟩
    dsimp only
    rw[en]
    refine Di (σ':=[some (.ref a),some (.ref ln),some (.int f),some (.int o),some (.int (m:Int)),some (.int (n:Int)),none,none,none,none,none,none,none,none,none,none]) rfl ?_
    exact rest n ⟨by omega,n5,fun _=>n2⟩
   ·exact rest nb ⟨nb1,nb5,fun z=>absurd (by rw[z]) h5⟩
  rintro n ⟨n1,n5,hf5⟩
  refine⟨_,rfl,_,_,_,_,rfl,rfl,gn,e7,_,_,rfl,rfl,(by show(0:Int)<6;decide),_,_,rfl,rfl,?_⟩
  dsimp only
  rw[esp]
  refine Di (σ':=[some (.ref a),some (.ref ln),some (.int f),some (.int o),some (.int (m:Int)),some (.int (n:Int)),some (.int (sp:Int)),none,none,none,none,none,none,none,none,none]) rfl ?_
  refine⟨_,rfl,_,rfl,_,rfl,ln,ks,m,n,rfl,gn,hN,m1,by omega,n1,by omega,fun lg cl H2 s2 nlg hlg C=>?_⟩
  refine Di (σ':=[some (.ref a),some (.ref ln),some (.int f),some (.int o),some (.int (m:Int)),some (.int (n:Int)),some (.int (sp:Int)),some (.ref lg),none,none,none,none,none,none,none,none]) rfl ?_
  refine⟨_,rfl,_,rfl,_,rfl,ln,ks,0,m,sp,rfl,s2.seq gn,hN,by omega,sp1,sp6,fun wa H3 s3 lwa cwa=>?_⟩
  have v3:=s2.trans s3
  refine⟨_,rfl,_,rfl,_,rfl,ln,ks,1,n,sp,rfl,v3.seq gn,hN,by omega,sp1,sp6,fun we H4 s4 lwe cwe=>?_⟩
  have v4:=v3.trans s4
  refine⟨(by show 2≤sizeLine;omega),fun lgd ngd=>?_⟩
  have s5:Av H4 (upd H4 lgd (.lst (vS [wa,we]))):=.upd ngd
  have Zb:(upd H4 lgd (.lst (vS [wa,we]))) lgd=some (.lst (vS [wa,we])):=Af
  have q5:upd H4 lgd (.lst [.str (tx wa),.str (tx we)])=upd H4 lgd (.lst (vS [wa,we])):=rfl
  rw[q5]
  clear q5
  generalize upd H4 lgd (.lst (vS [wa,we]))=H5 at s5 Zb ⊢
  refine Di (σ':=[some (.ref a),some (.ref ln),some (.int f),some (.int o),some (.int (m:Int)),some (.int (n:Int)),some (.int (sp:Int)),some (.ref lg),some (.ref lgd),none,none,none,none,none,none,none]) rfl ?_
  have v5:=v4.trans s5
  have i0:∀ u v:List Nat,atI (vS [u,v]) 0=some (.str (tx u)):=fun u v=>Bm (by decide) rfl
  have i1:∀ u v:List Nat,atI (vS [u,v]) 1=some (.str (tx v)):=fun u v=>Bm (by decide) rfl
  have Ahy:H5 lg=some (.lst (vS cl)):=s5 _ _ (s4 _ _ (s3 _ _ hlg))
  refine⟨_,rfl,_,rfl,_,_,_,_,rfl,rfl,SqL.of Zb,i0 wa we,_,rfl,_,_,_,_,rfl,rfl,SqL.of Zb,i1 wa we,lg,cl,m,n,wa,we,rfl,SqL.of Ahy,C.rct,by omega,by omega,lwa,lwe,fun lp H6 s6 hlp=>?_⟩
  refine Di (σ':=[some (.ref a),some (.ref ln),some (.int f),some (.int o),some (.int (m:Int)),some (.int (n:Int)),some (.int (sp:Int)),some (.ref lg),some (.ref lgd),some (.ref lp),none,none,none,none,none,none]) rfl ?_
  have v6:=v5.trans s6
  have AaE:=s6 _ _ Zb
  have AiG:=s6 _ _ Ahy
  refine⟨_,rfl,_,_,rfl,.inl (SqL.of AaE),fun lb nlb=>?_⟩
  have s7:Av H6 (upd H6 lb (.lst (vS [wa,we]))):=.upd nlb
  have Aee:(upd H6 lb (.lst (vS [wa,we]))) lb=some (.lst (vS [wa,we])):=Af
  generalize upd H6 lb (.lst (vS [wa,we]))=H7 at s7 Aee ⊢
  refine Di (σ':=[some (.ref a),some (.ref ln),some (.int f),some (.int o),some (.int (m:Int)),some (.int (n:Int)),some (.int (sp:Int)),some (.ref lg),some (.ref lgd),some (.ref lp),some (.ref lb),none,none,none,none,none]) rfl ?_
  have lbH:H6 lb=none:=nlb
  apply AcF (fun ra re H8=>Av H6 H8∧H8 lb=some (.lst (vS [ra,re]))∧Spl o m n wa we ra re∧ra.length≤50∧re.length≤50)
  ·intro rest
   refine⟨_,rfl,_,_,rfl,rfl,_,rfl,?_⟩
   refine CJ (fun ho=>?_) (fun ho=>?_)
   ·obtain⟨x,ex,hx⟩:∃ x:Nat,c7 / 6%2=(x:Int)∧x<2:=by
     have h1:=Ak6 (c7 / 6) (show(2:Int)≠0 by decide)
     have h2:=Ak7 (c7 / 6) (show(0:Int)<2 by decide)
     exact⟨(c7 / 6%2).toNat,by omega,by omega⟩
    have gn7:SqL K H7 ln (vI ks):=(v6.trans s7).seq gn
    have Ahz:=s7 _ _ AaE
    have hx2:x=0∨x=1:=by omega
    rcases hx2 with e | e
    ·have ex2:c7 / 6%2=0:=by rw[ex,e];rfl
     refine⟨_,rfl,_,rfl,_,_,_,_,rfl,rfl,gn7,e7,_,_,rfl,rfl,⟨by decide,by decide⟩,_,_,rfl,rfl,(by show(0:Int)<2;decide),_,_,_,_,rfl,rfl,SqL.of Ahz,(by rw[ex2];exact i0 wa we),_,rfl,_,rfl,ln,ks,wa,o,rfl,by omega,by omega,by omega,o4,gn7,hN,fun ra l5 h12 h3 h4=>?_⟩
     refine⟨_,rfl,_,rfl,_,_,_,_,rfl,rfl,gn7,e7,_,_,rfl,rfl,⟨by decide,by decide⟩,_,_,rfl,rfl,(by show(0:Int)<2;decide),?_⟩
     refine⟨lb,_,_,0,rfl,rfl,Aee,(by rw[ex2];rfl),?_⟩
     have s8:Av H6 (upd H7 lb (.lst (vS [ra,we]))):=s7.over lbH
     have Zf:(upd H7 lb (.lst (vS [ra,we]))) lb=some (.lst (vS [ra,we])):=Af
     have q8:upd H7 lb (.lst ((vS [wa,we]).set 0 (.str (tx ra))))=upd H7 lb (.lst (vS [ra,we])):=rfl
     rw[q8]
     clear q8
     generalize upd H7 lb (.lst (vS [ra,we]))=H8 at s8 Zf ⊢
     obtain⟨re,ee⟩:∃ re,re=we:=⟨_,rfl⟩
     have Ah0:H8 lb=some (.lst (vS [ra,re])):=by rw[ee];exact Zf
     refine rest ra re H8 ⟨s8,Ah0,?_,l5,by rw[ee];omega⟩
     rw[ee]
     by_cases h:o<4
     ·exact .inr (.inl ⟨ho,h,fun z=>ZS h ho lwa h12 h3 z.1⟩)
     ·obtain⟨q1,q2⟩:=AeC lwa cwa (h4 (by omega))
      exact .inr (.inr ⟨by omega,q1,⟨lwe,fun c hc=>.inl (cwe c hc)⟩,fun z=>q2 z.1,fun j hj=>(h4 (by omega)).2.2 j (by omega),fun _ _=>.inr rfl⟩)
    ·have ex2:c7 / 6%2=1:=by rw[ex,e];rfl
     refine⟨_,rfl,_,rfl,_,_,_,_,rfl,rfl,gn7,e7,_,_,rfl,rfl,⟨by decide,by decide⟩,_,_,rfl,rfl,(by show(0:Int)<2;decide),_,_,_,_,rfl,rfl,SqL.of Ahz,(by rw[ex2];exact i1 wa we),_,rfl,_,rfl,ln,ks,we,o,rfl,by omega,by omega,by omega,o4,gn7,hN,fun re l5 h12 h3 h4=>?_⟩
     refine⟨_,rfl,_,rfl,_,_,_,_,rfl,rfl,gn7,e7,_,_,rfl,rfl,⟨by decide,by decide⟩,_,_,rfl,rfl,(by show(0:Int)<2;decide),?_⟩
     refine⟨lb,_,_,1,rfl,rfl,Aee,(by rw[ex2];rfl),?_⟩
     have s8:Av H6 (upd H7 lb (.lst (vS [wa,re]))):=s7.over lbH
     have Zf:(upd H7 lb (.lst (vS [wa,re]))) lb=some (.lst (vS [wa,re])):=Af
     have q8:upd H7 lb (.lst ((vS [wa,we]).set 1 (.str (tx re))))=upd H7 lb (.lst (vS [wa,re])):=rfl
     rw[q8]
     clear q8
     generalize upd H7 lb (.lst (vS [wa,re]))=H8 at s8 Zf ⊢
     refine rest wa re H8 ⟨s8,Zf,?_,by omega,l5⟩
     by_cases h:o<4
     ·exact .inr (.inl ⟨ho,h,fun z=>ZS h ho lwe h12 h3 z.2⟩)
     ·obtain⟨q1,q2⟩:=AeC lwe cwe (h4 (by omega))
      exact .inr (.inr ⟨by omega,⟨lwa,fun c hc=>.inl (cwa c hc)⟩,q1,fun z=>q2 z.2,fun _ _=>.inr rfl,fun j hj=>(h4 (by omega)).2.2 j (by omega)⟩)
   ·obtain⟨ra,ea⟩:∃ ra,ra=wa:=⟨_,rfl⟩
    obtain⟨re,ee⟩:∃ re,re=we:=⟨_,rfl⟩
    exact rest ra re H7 ⟨s7,by rw[ea,ee];exact Aee,.inl ⟨by omega,ea,ee⟩,by rw[ea];omega,by rw[ee];omega⟩
  rintro ra re H8 ⟨s8,Zf,S,la,le⟩
  obtain⟨sm,esm⟩:∃ sm:Bool,sm=decide (m<2∨n<2):=⟨_,rfl⟩
  apply PL True
  ·intro rest
   refine⟨_,rfl,_,_,rfl,rfl,_,rfl,?_⟩
   refine CJ (fun hm2=>?_) (fun hm2=>?_)
   ·refine Di (σ':=[some (.ref a),some (.ref ln),some (.int f),some (.int o),some (.int (m:Int)),some (.int (n:Int)),some (.int (sp:Int)),some (.ref lg),some (.ref lgd),some (.ref lp),some (.ref lb),some (.bl sm),none,none,none,none]) (by rw[esm,decide_eq_true (show m<2∨n<2 by omega)];rfl) ?_
    exact rest trivial
   ·refine⟨_,rfl,_,_,rfl,rfl,?_⟩
    refine Di (σ':=[some (.ref a),some (.ref ln),some (.int f),some (.int o),some (.int (m:Int)),some (.int (n:Int)),some (.int (sp:Int)),some (.ref lg),some (.ref lgd),some (.ref lp),some (.ref lb),some (.bl sm),none,none,none,none]) (by rw[esm,show decide (m<2∨n<2)=decide ((n:Int)<2) from decide_eq_decide.mpr (by omega)];rfl) ?_
    exact rest trivial
  intro _
  have v8:=v6.trans s8
  have gn8:SqL K H8 ln (vI ks):=v8.seq gn
  have AiH:=s8 _ _ AiG
  have AiI:=s8 _ _ hlp
  have AiJ:=s8 _ _ AaE
  refine⟨_,rfl,(by decide),(by decide),?_⟩
  refine Du (lo:=0) (n:=4) (fun i σ Hx=>∃(v12 v13 v14 v15:Option V),σ=[some (.ref a),some (.ref ln),some (.int f),some (.int o),some (.int (m:Int)),some (.int (n:Int)),some (.int (sp:Int)),some (.ref lg),some (.ref lgd),some (.ref lp),some (.ref lb),some (.bl sm),v12,v13,v14,v15]∧Av H8 Hx) ⟨none,none,none,none,rfl,.refl _⟩ ?_ ?_
  ·rintro i σ Hx hi ⟨v12,v13,v14,v15,rfl,sx⟩
   obtain⟨wy,ewy,hwy⟩:∃ wy:Int,0+(i:Int)=wy∧(wy=0∨wy=1∨wy=2∨wy=3):=⟨_,rfl,by omega⟩
   rw[ewy]
   refine Di (σ':=[some (.ref a),some (.ref ln),some (.int f),some (.int o),some (.int (m:Int)),some (.int (n:Int)),some (.int (sp:Int)),some (.ref lg),some (.ref lgd),some (.ref lp),some (.ref lb),some (.bl sm),some (.int wy),v13,v14,v15]) rfl ?_
   refine⟨_,rfl,?_⟩
   refine Di (σ':=[some (.ref a),some (.ref ln),some (.int f),some (.int o),some (.int (m:Int)),some (.int (n:Int)),some (.int (sp:Int)),some (.ref lg),some (.ref lgd),some (.ref lp),some (.ref lb),some (.bl sm),some (.int wy),some (.ref lp),v14,v15]) rfl ?_
   refine Agc (σ':=[some (.ref a),some (.ref ln),some (.int f),some (.int o),some (.int (m:Int)),some (.int (n:Int)),some (.int (sp:Int)),some (.ref lg),some (.ref lgd),some (.ref lp),some (.ref lb),some (.bl sm),some (.int wy),some (.ref lp),some (.str (Str.ofString "ghijklmnopqrstuvwxyzABCDEF?#.- 0")),v15]) rfl ?_
   rw[AiF]
   apply AcG (fun ta od=>(wy=0∧ta=lg∧od=od0)∨(wy≠0∧ta=lp∧od=od1))
   ·intro rest
    refine⟨_,rfl,rfl,_,rfl,?_⟩
    refine CJ (fun h0=>?_) (fun h0=>?_)
    ·have h0:wy=0:=by injection h0
     obtain⟨ta,eta⟩:∃ ta,ta=lg:=⟨_,rfl⟩
     obtain⟨od,eod⟩:∃ od,od=od0:=⟨_,rfl⟩
     refine⟨_,rfl,?_⟩
     refine Di (σ':=[some (.ref a),some (.ref ln),some (.int f),some (.int o),some (.int (m:Int)),some (.int (n:Int)),some (.int (sp:Int)),some (.ref lg),some (.ref lgd),some (.ref lp),some (.ref lb),some (.bl sm),some (.int wy),some (.ref ta),some (.str (tx od1)),v15]) (by rw[eta];rfl) ?_
     dsimp only
     refine Agd (σ':=[some (.ref a),some (.ref ln),some (.int f),some (.int o),some (.int (m:Int)),some (.int (n:Int)),some (.int (sp:Int)),some (.ref lg),some (.ref lgd),some (.ref lp),some (.ref lb),some (.bl sm),some (.int wy),some (.ref ta),some (.str (Str.ofString "?abcdefX -0o*:")),v15]) rfl ?_
     rw[AiE,← eod]
     dsimp only
     exact rest ta od (.inl ⟨h0,eta,eod⟩)
    ·refine Ahx ?_
     dsimp only
     exact rest lp od1 (.inr ⟨fun z=>h0 (by rw[z]),rfl,rfl⟩)
   rintro ta od hto
   have tx8:∃ base:List (List Nat),base=(if wy=0 then cl else Iv cl wa we)∧H8 ta=some (.lst (vS base))∧Rec (if wy=0 then Sg else Co) base m n∧1≤od.length∧od.length≤100∧∀ c∈od,¬(if wy=0 then Sg else Co) c:=by
    rcases hto with ⟨h0,e1,e2⟩ | ⟨h0,e1,e2⟩
    ·rw[if_pos h0,if_pos h0,e1,e2]
     exact⟨_,rfl,AiH,⟨C.hn,C.hm,C.sg,C.m1,C.m40,C.n1,C.n40⟩,by decide,by decide,Aec⟩
    ·have Pc:=XX C lwa lwe cwa cwe
     rw[if_neg h0,if_neg h0,e1,e2]
     exact⟨_,rfl,AiI,⟨Pc.hn,Pc.hm,Pc.co,Pc.m1,Pc.m40,Pc.n1,Pc.n40⟩,by decide,by decide,Aed⟩
   clear hto
   obtain⟨bs,ebs,AiK,Rb,AiL,Ah1,odb⟩:=tx8
   have hta:=sx _ _ AiK
   have Ah2:∀ u∈bs,u.length≤1000:=fun u hu=>by rw[Rb.hm u hu];omega
   have Ah3:bs.length≤1000:=by rw[Rb.hn];omega
   refine⟨_,rfl,?_⟩
   refine Di (σ':=[some (.ref a),some (.ref ln),some (.int f),some (.int o),some (.int (m:Int)),some (.int (n:Int)),some (.int (sp:Int)),some (.ref lg),some (.ref lgd),some (.ref lp),some (.ref lb),some (.bl sm),some (.int wy),some (.ref ta),some (.str (tx od)),some (.ref ta)]) rfl ?_
   apply AcH (fun fa tcl H9=>Av Hx H9∧H9 fa=some (.lst (vS tcl))∧tcl.length≤1000∧(∀ u∈tcl,u.length≤1000)∧((f=0∧tcl=if wy=0 then cl else Iv cl wa we)∨(0<f∧Bad (if wy=0 then Sg else Co) tcl)))
   ·intro rest
    refine⟨_,rfl,_,_,rfl,rfl,_,rfl,?_⟩
    refine CJ (fun hf=>?_) (fun hf=>?_)
    ·refine⟨_,rfl,_,rfl,_,rfl,_,rfl,_,ta,ln,bs,m,n,ks,od,f,rfl,SqL.of hta,Rb,m5,n5,hf5,by omega,f6,sx.seq gn8,hN,AiL,Ah1,odb,fun fa H9 tcl s9 nfa hfa l1 l2 hb=>?_⟩
     refine Di (σ':=[some (.ref a),some (.ref ln),some (.int f),some (.int o),some (.int (m:Int)),some (.int (n:Int)),some (.int (sp:Int)),some (.ref lg),some (.ref lgd),some (.ref lp),some (.ref lb),some (.bl sm),some (.int wy),some (.ref ta),some (.str (tx od)),some (.ref fa)]) rfl ?_
     exact rest fa tcl H9 ⟨s9,hfa,l1,l2,.inr ⟨hf,hb⟩⟩
    ·exact rest ta bs Hx ⟨.refl _,hta,Ah3,Ah2,.inl ⟨by omega,ebs⟩⟩
   rintro fa tcl H9 ⟨s9,hfa,l1,l2,hT⟩
   have u9:=sx.trans s9
   have W1:=Yn C lwa lwe cwa cwe hwy S hT
   have W2:=Yn (f:=0) (o:=0) (tcl:=bs) C lwa lwe cwa cwe hwy (.inl ⟨rfl,rfl,rfl⟩) (.inl ⟨rfl,ebs⟩)
   rw[← esm] at W1 W2
   have Aef:=u9 _ _ Zf
   have Ah4:=u9 _ _ AiJ
   have AiM:=s9 _ _ hta
   refine⟨_,rfl,_,rfl,_,_,rfl,.inl (SqL.of hfa),fun x1 nx1=>?_⟩
   have t1:Av H9 (upd H9 x1 (.lst (vS tcl))):=.upd nx1
   have hx1:(upd H9 x1 (.lst (vS tcl))) x1=some (.lst (vS tcl)):=Af
   generalize upd H9 x1 (.lst (vS tcl))=H10 at t1 hx1 ⊢
   refine⟨_,rfl,_,_,_,_,rfl,rfl,SqL.of (t1 _ _ Aef),i0 ra re,_,rfl,_,_,_,_,rfl,rfl,SqL.of (t1 _ _ Aef),i1 ra re,wy,x1,tcl,ra,re,_,rfl,⟨SqL.of hx1,l1,l2,by omega,by omega⟩,W1,fun H11 t2=>?_⟩
   have u11:=t1.trans t2
   refine⟨_,rfl,_,rfl,_,rfl,_,rfl,wy,f,o,sm,rfl,rfl,_,rfl,?_⟩
   refine Gz rfl ?_
   refine⟨_,rfl,_,rfl,_,_,rfl,.inl (SqL.of (u11 _ _ AiM)),fun x2 nx2=>?_⟩
   have t3:Av H11 (upd H11 x2 (.lst (vS bs))):=.upd nx2
   have hx2:(upd H11 x2 (.lst (vS bs))) x2=some (.lst (vS bs)):=Af
   generalize upd H11 x2 (.lst (vS bs))=H12 at t3 hx2 ⊢
   have u12:=u11.trans t3
   refine⟨_,rfl,_,_,_,_,rfl,rfl,SqL.of (u12 _ _ Ah4),i0 wa we,_,rfl,_,_,_,_,rfl,rfl,SqL.of (u12 _ _ Ah4),i1 wa we,wy,x2,bs,wa,we,_,rfl,⟨SqL.of hx2,Ah3,Ah2,by omega,by omega⟩,W2,fun H13 t4=>?_⟩
   have u13:=u12.trans t4
   refine⟨_,rfl,_,rfl,wy,0,0,sm,rfl,rfl,_,rfl,?_⟩
   refine Gz rfl ?_
   refine⟨_,rfl,_,rfl,_,_,rfl,.inl (SqL.of (u13 _ _ hfa)),fun x3 nx3=>?_⟩
   have t5:Av H13 (upd H13 x3 (.lst (vS tcl))):=.upd nx3
   have hx3:(upd H13 x3 (.lst (vS tcl))) x3=some (.lst (vS tcl)):=Af
   generalize upd H13 x3 (.lst (vS tcl))=H14 at t5 hx3 ⊢
   have u14:=u13.trans t5
   refine⟨_,rfl,_,_,_,_,rfl,rfl,SqL.of (u14 _ _ Aef),i0 ra re,_,rfl,_,_,_,_,rfl,rfl,SqL.of (u14 _ _ Aef),i1 ra re,wy,x3,tcl,ra,re,_,rfl,⟨SqL.of hx3,l1,l2,by omega,by omega⟩,W1,fun H15 t6=>?_⟩
   refine⟨_,rfl,_,rfl,_,rfl,_,rfl,wy,f,o,sm,rfl,rfl,_,rfl,?_⟩
   refine Gz rfl ?_
   exact⟨_,_,_,_,rfl,u9.trans (u14.trans t6)⟩
  ·rintro σ Hx ⟨v12,v13,v14,v15,rfl,sx⟩
   exact k _
end
theorem Agf{P:Program}{w:World}{K:PySem.W.Frag}{mg:Str→Option Value}{fa:Addr}{t:Adr}(hfa:mg "law" = some (.ref fa)) (T:Txt K mg t):∃ fd:FuncData,(∀(s:Shared) (v:Value),BindsTo s fd ⟨[v],[]⟩ [("script", v)])∧∀ base:Heap,K.In base→base.Ns mainGlobals mg→BK P w K mg base CX0 9 fa fd ["script"] (Ww K):=by
 have e:=hfa.symm.trans T.law.m
 injection e with e
 injection e with e
 subst e
 obtain⟨oc,od,kV,doc,pm,an,cdv,ct,osl,e1,lk,hcd⟩:=T.law.F.ex
 exact⟨t.AbP,fun s v=>by rw[e1];exact .of_eq rfl,fun base _ _=>Age T⟩
end Mine
open PySem PySem.W PyProof.Rows
def PySem.W.Fast.tw12244035318833685911:=()
def PySem.W.Fast.tw7512284684952656505:=()
def PySem.W.Fast.tw6126751370527807121:=()
def PySem.W.Fast.tw4448101611492100432:=()
def PySem.W.Fast.tw1680111138116634807:=()
def PySem.W.Fast.tw480792857364250093:=()
def PySem.W.Fast.tw12693392499645016850:=()
def PySem.W.Fast.tw8533891074537980394:=()
def PySem.W.Fast.tw5639278266025602217:=()
def PySem.W.Fast.tw2550921434027490973:=()
def PySem.W.Fast.tw6313526854088882180:=()
def PySem.W.Fast.tw2653398341167694438:=()
def PySem.W.Fast.tw13320478337230404925:=()
def PySem.W.Fast.tw534672582744462959:=()
def PySem.W.Fast.tw17031589342492886690:=()
def PySem.W.Fast.tw14856465919251800613:=()
def PySem.W.Fast.tw16828763974037662581:=()
def PySem.W.Fast.tw949146416634415689:=()
def PySem.W.Fast.tw15219558364459899095:=()
def PySem.W.Fast.tw6431547338019623137:=()
def PySem.W.Fast.tw5729520189999458604:=()
def PySem.W.Fast.tw471358292430270989:=()
def PySem.W.Fast.tw6754226301530148228:=()
def PySem.W.Fast.tw878378331217157658:=()
def PySem.W.Fast.tw3344861500842645308:=()
def PySem.W.Fast.tw14190977162012237809:=()
def PySem.W.Fast.tw86805417017819468:=()
def PySem.W.Fast.tw7373074387012577451:=()
def PySem.W.Fast.tw2129783657509401743:=()
def PySem.W.Fast.tw3133789390715874500:=()
def PySem.W.Fast.tw8939107159809475862:=()
def PySem.W.Fast.tw2822224486612469801:=()
def PySem.W.Fast.tw4490220724057671415:=()
def PySem.W.Fast.tw10212538341401038092:=()
def PySem.W.Fast.tw15058278011828852937:=()
def PySem.W.Fast.tw7028854450342233412:=()
def PySem.W.Fast.tw639831159050253839:=()
def PySem.W.Fast.tw9600933614524680107:=()
def PySem.W.Fast.tw17901290496717117292:=()
def PySem.W.Fast.tw550795732080068030:=()
def PySem.W.Fast.tw13393735374880237089:=()
def PySem.W.Fast.tw5361999850016225950:=()
def PySem.W.Fast.tw17906584360141191753:=()
def PySem.W.Fast.tw15167474311730691521:=()
def PySem.W.Fast.tw15434116460033033457:=()
def PySem.W.Fast.tw11713987346779011089:=()
def PySem.W.Fast.tw8439052840307582020:=()
def PySem.W.Fast.tw11664219541865306420:=()
def PySem.W.Fast.tw16846162574190485009:=()
def PySem.W.Fast.tw16939688520365004236:=()
def PySem.W.Fast.tw16316508572572323851:=()
def PySem.W.Fast.tw15456695145723465423:=()
def PySem.W.Fast.tw16185902214892490460:=()
def PySem.W.Fast.tw9806168771557061688:=()
def PySem.W.Fast.tw2216320093918214015:=()
def PySem.W.Fast.tw14856860898832409884:=()
def PySem.W.Fast.tw6704211094377979661:=()
def PySem.W.Fast.tw17523513262033441626:=()
def PySem.W.Fast.tw3331801725146196543:=()
def PySem.W.Fast.tw10233485683632097912:=()
def PySem.W.Fast.tw1610213819566351603:=()
def PySem.W.Fast.tw16181103005882811426:=()
def PySem.W.Fast.tw1481393816855515624:=()
def PySem.W.Fast.tw10012491442226296806:=()
def PySem.W.Fast.tw2072704919554960442:=()
def PySem.W.Fast.tw15589880035936324855:=()
def PySem.W.Fast.tw10543898897219114258:=()
def PySem.W.Fast.tw17018728955016882430:=()
def PySem.W.Fast.tw228796191723164490:=()
def PySem.W.Fast.tw15490662653935207168:=()
def PySem.W.Fast.tw14242401220750622793:=()
def PySem.W.Fast.tw17560021472059874354:=()
def PySem.W.Fast.tw3441350704692831792:=()
def PySem.W.Fast.tw7798532007896880859:=()
def PySem.W.Fast.tw15728119480548723639:=()
def PySem.W.Fast.tw4833303947076760032:=()
def PySem.W.Fast.tw5250665511010961168:=()
def PySem.W.Fast.tw3555079111569505309:=()
def PySem.W.Fast.tw14989116782419265507:=()
def PySem.W.Fast.tw17943811050447354960:=()
def PySem.W.Fast.tw7346079922312851162:=()
def PySem.W.Fast.tw16202490209955343374:=()
def PySem.W.Fast.tw13988470751616453391:=()
def PySem.W.Fast.tw15212761329262000930:=()
def PySem.W.Fast.tw12477817888164717593:=()
def PySem.W.Fast.tw10408910982179151070:=()
def PySem.W.Fast.tw4062036915430952538:=()
def PySem.W.Fast.tw8198787086413217105:=()
def PySem.W.Fast.tw11463913995016447250:=()
def PySem.W.Fast.tw1758898340778743681:=()
def PySem.W.Fast.tw15570061419973451632:=()
def PySem.W.Fast.tw18222365402741397564:=()
def PySem.W.Fast.tw9299101249760659568:=()
def PySem.W.Fast.tw17553807297286543982:=()
def PySem.W.Fast.tw5642424301758189487:=()
def PySem.W.Fast.tw1536920500513915959:=()
def PySem.W.Fast.tw16857708610472008047:=()
def PySem.W.Fast.tw13828683253204844866:=()
def PySem.W.Fast.tw8751633686141419349:=()
def PySem.W.Fast.tw2191687425442031897:=()
def PySem.W.Fast.tw10086754357615021160:=()
def PySem.W.Fast.tw16349885091459479126:=()
def PySem.W.Fast.tw8002917145098322555:=()
def PySem.W.Fast.tw17944531103720898787:=()
def PySem.W.Fast.tw14250618646036790370:=()
def PySem.W.Fast.tw4353429207158675572:=()
def PySem.W.Fast.tw666010883107970874:=()
def PySem.W.Fast.tw13389281977977787174:=()
def PySem.W.Fast.tw16025314368640482419:=()
def PySem.W.Fast.tw2122099933616149612:=()
def PySem.W.Fast.tw11755370961155455571:=()
def PySem.W.Fast.tw9427302695030308357:=()
def PySem.W.Fast.tw6621426691046551235:=()
def PySem.W.Fast.tw4557663410907690750:=()
def PySem.W.Fast.tw3657550866916134:=()
def PySem.W.Fast.tw5349275255264799209:=()
def PySem.W.Fast.tw3455592275545630281:=()
def PySem.W.Fast.tw2373688559440824751:=()
def PySem.W.Fast.tw9307364968396527870:=()
def PySem.W.Fast.tw15933097217173564503:=()
def PySem.W.Fast.tw1471968404629053854:=()
def PySem.W.Fast.tw12367249748486281024:=()
def PySem.W.Fast.tw8419310643880595300:=()
def PySem.W.Fast.tw8092434050641274436:=()
def PySem.W.Fast.tw17787977686943346843:=()
def PySem.W.Fast.tw9815130212152401053:=()
def PySem.W.Fast.tw17314245344312211622:=()
def PySem.W.Fast.tw10646271128659234870:=()
def PySem.W.Fast.tw4596159948561197381:=()
def PySem.W.Fast.tw2466447328829737277:=()
def PySem.W.Fast.tw2945696246977585581:=()
def PySem.W.Fast.tw7523083239704166619:=()
def PySem.W.Fast.tw11103259946116095027:=()
def PySem.W.Fast.tw373914837977954887:=()
def PySem.W.Fast.tw10156848164210612381:=()
def PySem.W.Fast.tw8675694695954440871:=()
def PySem.W.Fast.tw4911447773420638863:=()
def PySem.W.Fast.tw17419941250674060676:=()
def PySem.W.Fast.tw13253094899655330378:=()
def PySem.W.Fast.tw1429894941075115056:=()
def PySem.W.Fast.tw11989796698243015467:=()
def PySem.W.Fast.tw6348846702795725839:=()
def PySem.W.Fast.tw4513551234422253060:=()
def PySem.W.Fast.tw8649329379002694407:=()
def PySem.W.Fast.tw4438576531149658051:=()
def PySem.W.Fast.tw4231363503326143763:=()
def PySem.W.Fast.tw2931032668052366180:=()
def PySem.W.Fast.tw17217340404506778551:=()
def PySem.W.Fast.tw12244733335760610502:=()
def PySem.W.Fast.tw4528162959153105107:=()
def PySem.W.Fast.tw5708637707525841341:=()
def PySem.W.Fast.tw6144243415310651289:=()
def PySem.W.Fast.tw1343085620058490211:=()
def PySem.W.Fast.tw2637949280760232109:=()
def PySem.W.Fast.tw15155097323735756710:=()
def PySem.W.Fast.tw15114563998985625325:=()
def PySem.W.Fast.tw948189029030673028:=()
def PySem.W.Fast.tw15524387755260954222:=()
def PySem.W.Fast.tw15134109951526835402:=()
def PySem.W.Fast.tw14699224318556493737:=()
def PySem.W.Fast.tw5880737158111703760:=()
def PySem.W.Fast.tw14972503283540382570:=()
def PySem.W.Fast.tw11783742071060414101:=()
def PySem.W.Fast.tw17570233205242440650:=()
def PySem.W.Fast.tw9855713454990490038:=()
def PySem.W.Fast.tw11895167858356022160:=()
def PySem.W.Fast.tw16891265962898280485:=()
def PySem.W.Fast.tw7533961736922572377:=()
def PySem.W.Fast.tw15473308487844105759:=()
def PySem.W.Fast.tw10619020381297491752:=()
def PySem.W.Fast.tw5494927369750695629:=()
def PySem.W.Fast.tw6196404960673868868:=()
def PySem.W.Fast.tw11569146275966061454:=()
def PySem.W.Fast.tw13973640078724891442:=()
def PySem.W.Fast.tw1395369031636245211:=()
def PySem.W.Fast.tw9644339975764451829:=()
def PySem.W.Fast.tw10585450660634881331:=()
def PySem.W.Fast.tw11966443742703639582:=()
def PySem.W.Fast.tw12505969036751045968:=()
def PySem.W.Fast.tw4666006489055769879:=()
def PySem.W.Fast.tw5192241604905041983:=()
def PySem.W.Fast.tw4571043107207276625:=()
def PySem.W.Fast.tw14185230801257150109:=()
def PySem.W.Fast.tw9494633501882285900:=()
def PySem.W.Fast.tw16912121469589789668:=()
def PySem.W.Fast.tw3452411448572231396:=()
def PySem.W.Fast.tw5807028799871006846:=()
def PySem.W.Fast.tw10181835378193909202:=()
def PySem.W.Fast.tw9979110561271479698:=()
def PySem.W.Fast.tw7890395147638563304:=()
def PySem.W.Fast.tw17661667562922995906:=()
def PySem.W.Fast.tw12953474884782964665:=()
def PySem.W.Fast.tw17657632358224677103:=()
def PySem.W.Fast.tw12705318869746000669:=()
def PySem.W.Fast.tw16249704189906306725:=()
def PySem.W.Fast.tw14986019736218136874:=()
def PySem.W.Fast.tw7775188436669245429:=()
def PySem.W.Fast.tw5859073037942826030:=()
def PySem.W.Fast.tw17851797761727285:=()
def PySem.W.Fast.tw16980928659616930459:=()
def PySem.W.Fast.tw5616967064253308124:=()
def PySem.W.Fast.tw12187146534808326695:=()
def PySem.W.Fast.tw5489406069017923817:=()
def PySem.W.Fast.tw14907583912624488528:=()
def PySem.W.Fast.tw13553753524782546358:=()
def PySem.W.Fast.tw1365916157047551749:=()
def PySem.W.Fast.tw203536161273738063:=()
def PySem.W.Fast.tw11691025341231827536:=()
def PySem.W.Fast.tw12192380131627038088:=()
def PySem.W.Fast.tw3271365771141499961:=()
def PySem.W.Fast.tw9285460170283487481:=()
def PySem.W.Fast.tw16025256634757100180:=()
def PySem.W.Fast.tw9579434333734225181:=()
def PySem.W.Fast.tw16086891719589863359:=()
def PySem.W.Fast.tw7450333963339837802:=()
def PySem.W.Fast.tw7112038511247597517:=()
def PySem.W.Fast.tw16259994052448222928:=()
def PySem.W.Fast.tw742477657972372518:=()
def PySem.W.Fast.tw13136027868022286357:=()
def PySem.W.Fast.tw1624507405896158037:=()
def PySem.W.Fast.tw2087586630296149930:=()
def PySem.W.Fast.tw9549280725753200919:=()
def PySem.W.Fast.tw12499727814741123038:=()
def PySem.W.Fast.tw757067226268174774:=()
def PySem.W.Fast.tw4636752185103944332:=()
def PySem.W.Fast.tw13405521236426756916:=()
def PySem.W.Fast.tw2733797814782297229:=()
def PySem.W.Fast.tw8388959046223758439:=()
def PySem.W.Fast.tw12590706618943010261:=()
def PySem.W.Fast.tw11147750843381845952:=()
def PySem.W.Fast.tw5498602731365880786:=()
def PySem.W.Fast.tw13656775727782650117:=()
def PySem.W.Fast.tw9567137137443564545:=()
def PySem.W.Fast.tw907028014587804090:=()
def PySem.W.Fast.tw13079341429552617172:=()
def PySem.W.Fast.tw6658331351720602671:=()
def PySem.W.Fast.tw9720847511765888796:=()
def PySem.W.Fast.tw8607019741107976754:=()
def PySem.W.Fast.tw5300405658924295773:=()
def PySem.W.Fast.tw5766011322132374508:=()
def PySem.W.Fast.tw14943675778351053477:=()
def PySem.W.Fast.tw10385170766615562323:=()
def PySem.W.Fast.tw6664630107364388912:=()
def PySem.W.Fast.tw4085767818168314950:=()
def PySem.W.Fast.tw2698004860953398387:=()
def PySem.W.Fast.tw16740795710461693960:=()
def PySem.W.Fast.tw9071008355233538766:=()
def PySem.W.Fast.tw15524666992554088402:=()
def PySem.W.Fast.tw12679076276686990689:=()
def PySem.W.Fast.tw13015592231649380404:=()
def PySem.W.Fast.tw5499932105111210504:=()
def PySem.W.Fast.tw15263066340615142074:=()
def PySem.W.Fast.tw6564398444368120527:=()
def PySem.W.Fast.tw18097380213201171882:=()
def PySem.W.Fast.tw1702078491010720344:=()
def PySem.W.Fast.tw5379816303703094323:=()
def PySem.W.Fast.tw17767843519109598213:=()
def PySem.W.Fast.tw1487983395036114640:=()
def PySem.W.Fast.tw3926965445204655466:=()
def PySem.W.Fast.tw14623848628791901752:=()
def PySem.W.Fast.tw2368478429314102453:=()
def PySem.W.Fast.tw18204168169323155257:=()
def PySem.W.Fast.tw6479154289956469563:=()
def PySem.W.Fast.tw3091964645085027691:=()
def PySem.W.Fast.tw15303634665315352252:=()
def PySem.W.Fast.tw14037047286532399482:=()
def PySem.W.Fast.tw5898919878632575984:=()
def PySem.W.Fast.tw5417808084424147929:=()
def PySem.W.Fast.tw4483729678963233020:=()
def PySem.W.Fast.tw15147771189108811556:=()
def PySem.W.Fast.tw15815132878556165583:=()
def PySem.W.Fast.tw18217664790303485790:=()
def PySem.W.Fast.tw17483460065068985771:=()
def PySem.W.Fast.tw14503238144828759868:=()
def PySem.W.Fast.tw6089927655700372260:=()
def PySem.W.Fast.tw7776486463702119868:=()
def PySem.W.Fast.tw9397212702936235993:=()
def PySem.W.Fast.tw15686770780049097965:=()
def PySem.W.Fast.tw7575117059049581924:=()
def PySem.W.Fast.tw9145035728943089212:=()
def PySem.W.Fast.tw13477838381333488684:=()
def PySem.W.Fast.tw15298378005903227092:=()
def PySem.W.Fast.tw13350514285990655771:=()
def PySem.W.Fast.tw4570213393040151687:=()
def PySem.W.Fast.tw10109646434927986497:=()
def PySem.W.Fast.tw16276814836837404022:=()
def PySem.W.Fast.tw12444690570487765170:=()
def PySem.W.Fast.tw12542987055451550713:=()
def PySem.W.Fast.tw2048496817003355921:=()
def PySem.W.Fast.tw5519805434629441035:=()
def PySem.W.Fast.tw6536201699889929995:=()
def PySem.W.Fast.tw733149177160618090:=()
def PySem.W.Fast.tw8381850228190250724:=()
def PySem.W.Fast.tw8879487703371702592:=()
def PySem.W.Fast.tw7750505956107055352:=()
def PySem.W.Fast.tw1473190450661236632:=()
def PySem.W.Fast.tw445238901638296838:=()
def PySem.W.Fast.tw7530234702384774489:=()
def PySem.W.Fast.tw16681658922449484615:=()
def PySem.W.Fast.tw15683632234197485767:=()
def PySem.W.Fast.tw16541381849890844859:=()
def PySem.W.Fast.tw3150362737529330901:=()
def PySem.W.Fast.tw18079345585650232491:=()
def PySem.W.Fast.tw11014470594388541690:=()
def PySem.W.Fast.tw9713753401374816390:=()
def PySem.W.Fast.tw5293344360588516308:=()
def PySem.W.Fast.tw12275618229026310367:=()
def PySem.W.Fast.tw17015794580208386931:=()
def PySem.W.Fast.tw5730277695185816367:=()
def PySem.W.Fast.tw16402226350783588944:=()
def PySem.W.Fast.tw10188269554717260075:=()
def PySem.W.Fast.tw10383407286039783892:=()
def PySem.W.Fast.tw16135783456282564205:=()
def PySem.W.Fast.tw18270359630029400185:=()
def PySem.W.Fast.tw16420373096189838424:=()
def PySem.W.Fast.tw9437066373125373521:=()
def PySem.W.Fast.tw3158647458107409199:=()
def PySem.W.Fast.tw15005416353667243418:=()
def PySem.W.Fast.tw3132609671586363799:=()
def PySem.W.Fast.tw18211474866921359746:=()
def PySem.W.Fast.tw1697132639315147598:=()
def PySem.W.Fast.tw8057380013324783785:=()
def PySem.W.Fast.tw5360610660639886153:=()
def PySem.W.Fast.tw9323903653562873105:=()
def PySem.W.Fast.tw8509037067539088433:=()
def PySem.W.Fast.tw11123688376587860020:=()
def PySem.W.Fast.tw4161624388982144285:=()
def PySem.W.Fast.tw3531627715522714894:=()
def PySem.W.Fast.tw7416552806127465060:=()
def PySem.W.Fast.tw10680131581529785772:=()
def PySem.W.Fast.tw17964560442212793375:=()
def PySem.W.Fast.tw17295369389570575490:=()
def PySem.W.Fast.tw11022922129418710611:=()
def PySem.W.Fast.tw12698604172449588681:=()
def PySem.W.Fast.tw392960752896766596:=()
def PySem.W.Fast.tw6176186560936740930:=()
def PySem.W.Fast.tw17259523228566152895:=()
def PySem.W.Fast.tw16878215604694557373:=()
def PySem.W.Fast.tw10538600247755796492:=()
def PySem.W.Fast.tw12596546506823571029:=()
def PySem.W.Fast.tw2928907947860718390:=()
def PySem.W.Fast.tw14845167246076810073:=()
def PySem.W.Fast.tw5789280447541238453:=()
def PySem.W.Fast.tw1256676741371362777:=()
def PySem.W.Fast.tw9739406375487708329:=()
def PySem.W.Fast.tw12852064297681378843:=()
def PySem.W.Fast.tw11814541780325794701:=()
def PySem.W.Fast.tw7027544586791465371:=()
def PySem.W.Fast.tw4067113873794190825:=()
def PySem.W.Fast.tw312308050581840236:=()
def PySem.W.Fast.tw10033991611767002925:=()
def PySem.W.Fast.tw7619592382392508782:=()
def PySem.W.Fast.tw18227057675622059551:=()
def PySem.W.Fast.tw15409188448873519412:=()
def PySem.W.Fast.tw2516161425377115257:=()
def PySem.W.Fast.tw835412293863276220:=()
def PySem.W.Fast.tw258181776404114437:=()
def PySem.W.Fast.tw5172631277835006913:=()
def PySem.W.Fast.tw833044333965342143:=()
def PySem.W.Fast.tw5724351912956128360:=()
def PySem.W.Fast.tw10188523332258966777:=()
def PySem.W.Fast.tw9103935799102846469:=()
def PySem.W.Fast.tw14396845464431267618:=()
def PySem.W.Fast.tw9097904505588169530:=()
def PySem.W.Fast.tw16632553431421270012:=()
def PySem.W.Fast.tw4261103478053533121:=()
def PySem.W.Fast.tw13036179927383867924:=()
def PySem.W.Fast.tw1099277427757714380:=()
def PySem.W.Fast.tw10513845265162014655:=()
def PySem.W.Fast.tw18029030257191654595:=()
def PySem.W.Fast.tw15492068027578275291:=()
def PySem.W.Fast.tw1604672099205668885:=()
def PySem.W.Fast.tw15559635096397730067:=()
def PySem.W.Fast.tw5943516983527357256:=()
def PySem.W.Fast.tw11206175800432714978:=()
def PySem.W.Fast.tw16780525078001163419:=()
def PySem.W.Fast.tw2868322801048539557:=()
def PySem.W.Fast.tw4782490150304018746:=()
def PySem.W.Fast.tw3619399894360491594:=()
def PySem.W.Fast.tw6096832114680950764:=()
def PySem.W.Fast.tw17921092381584746865:=()
def PySem.W.Fast.tw3554646558988872976:=()
def PySem.W.Fast.tw10065602348936613148:=()
def PySem.W.Fast.tw10834996843363953318:=()
def PySem.W.Fast.tw16195528119130726298:=()
def PySem.W.Fast.tw12850636753811002538:=()
def PySem.W.Fast.tw1668920052300602347:=()
def PySem.W.Fast.tw7365692814600285242:=()
def PySem.W.Fast.tw18190183013982354222:=()
def PySem.W.Fast.tw8536275044633179751:=()
def PySem.W.Fast.tw1225487125028214291:=()
def PySem.W.Fast.tw9938664287756157830:=()
def PySem.W.Fast.tw2041236373368124736:=()
def PySem.W.Fast.tw7046504263554872812:=()
def PySem.W.Fast.tw15455071151477695404:=()
def PySem.W.Fast.tw4190621905404163397:=()
def PySem.W.Fast.tw1557613203332887937:=()
def PySem.W.Fast.tw18268702738671560359:=()
def PySem.W.Fast.tw11830914472712796793:=()
def PySem.W.Fast.tw3907413624781991975:=()
def PySem.W.Fast.tw11399892634721290947:=()
def PySem.W.Fast.tw11169744209962759933:=()
def PySem.W.Fast.tw2832058032147148416:=()
def PySem.W.Fast.tw687250117295256710:=()
def PySem.W.Fast.tw15264251601774769365:=()
def PySem.W.Fast.tw14142023347442410451:=()
def PySem.W.Fast.tw11298597015022190406:=()
def PySem.W.Fast.tw10367482033425107554:=()
def PySem.W.Fast.tw11394456345821058205:=()
def PySem.W.Fast.tw10378015599709822552:=()
def PySem.W.Fast.tw17547048959667161518:=()
def PySem.W.Fast.tw8143427603198323900:=()
def PySem.W.Fast.tw5311623710989144444:=()
def PySem.W.Fast.tw6890024906011681291:=()
def PySem.W.Fast.tw8658961980309568833:=()
def PySem.W.Fast.tw5499345695632635335:=()
def PySem.W.Fast.tw1639352581772153995:=()
def PySem.W.Fast.tw13163556992471527696:=()
def PySem.W.Fast.tw18092418495085406786:=()
def PySem.W.Fast.tw16581074078468314574:=()
def PySem.W.Fast.tw14857470553857026825:=()
def PySem.W.Fast.tw2960230327050728390:=()
def PySem.W.Fast.tw705337142671439353:=()
def PySem.W.Fast.tw16542675014139411706:=()
def PySem.W.Fast.tw3032713509708281847:=()
def PySem.W.Fast.tw7319660162565360859:=()
def PySem.W.Fast.tw555846809680557249:=()
def PySem.W.Fast.tw3440952441461256598:=()
def PySem.W.Fast.tw16480509844051918740:=()
def PySem.W.Fast.tw12870916974519953254:=()
def PySem.W.Fast.tw7255082325869438175:=()
def PySem.W.Fast.tw17391008422787221569:=()
def PySem.W.Fast.tw6111218848455417753:=()
def PySem.W.Fast.tw11041286770377713299:=()
def PySem.W.Fast.tw12578042806205155915:=()
def PySem.W.Fast.tw165828079838605699:=()
def PySem.W.Fast.tw10173610095104187298:=()
def PySem.W.Fast.tw12555262697720279459:=()
def PySem.W.Fast.tw5899080503468692082:=()
def PySem.W.Fast.tw16107103192281621370:=()
def PySem.W.Fast.tw7385076743631844772:=()
def PySem.W.Fast.tw18179314042886714770:=()
def PySem.W.Fast.tw15403669120832169184:=()
def PySem.W.Fast.tw1715200209787777784:=()
def PySem.W.Fast.tw2210992619632454015:=()
def PySem.W.Fast.tw15599720786855407263:=()
def PySem.W.Fast.tw7806807990549274280:=()
def PySem.W.Fast.tw1940904681525914296:=()
def PySem.W.Fast.tw1455540183260389686:=()
def PySem.W.Fast.tw4593242085903429817:=()
def PySem.W.Fast.tw9486178659380185438:=()
def PySem.W.Fast.tw7440106402450254181:=()
def PySem.W.Fast.tw130381761131954346:=()
def PySem.W.Fast.tw6899287691387646101:=()
def PySem.W.Fast.tw15875456932327713966:=()
def PySem.W.Fast.tw4250293027363122863:=()
def PySem.W.Fast.tw6257508806713253675:=()
def PySem.W.Fast.tw14126945480006676871:=()
def PySem.W.Fast.tw1555371924450674603:=()
def PySem.W.Fast.tw15712231810468580601:=()
def PySem.W.Fast.tw13477865009937685718:=()
def PySem.W.Fast.tw9649518610294037385:=()
def PySem.W.Fast.tw8052108914900124000:=()
def PySem.W.Fast.tw15234485314117344443:=()
def PySem.W.Fast.tw3988191735276288979:=()
def PySem.W.Fast.tw694441016653819801:=()
def PySem.W.Fast.tw5831752558687667025:=()
def PySem.W.Fast.tw5546329705960240732:=()
def PySem.W.Fast.tw640443348500332435:=()
def PySem.W.Fast.tw9251065944448284841:=()
def PySem.W.Fast.tw17506905283924846904:=()
def PySem.W.Fast.tw11219800695808106687:=()
def PySem.W.Fast.tw6061733108108026155:=()
def PySem.W.Fast.tw14846888008946224133:=()
def PySem.W.Fast.tw12931623051326310058:=()
def PySem.W.Fast.tw7842509304139454248:=()
def PySem.W.Fast.tw1071215837635250068:=()
def PySem.W.Fast.tw2915027060630483205:=()
def PySem.W.Fast.tw14932781679463092855:=()
def PySem.W.Fast.tw4010086440569857639:=()
def PySem.W.Fast.tw17151951382397462269:=()
def PySem.W.Fast.tw9332091231416709604:=()
def PySem.W.Fast.tw2198784318359495179:=()
def PySem.W.Fast.tw5792532321118158492:=()
def PySem.W.Fast.tw10251699221516062762:=()
def PySem.W.Fast.tw16073050044880841792:=()
def PySem.W.Fast.tw2951635821267771359:=()
def PySem.W.Fast.tw9466741286189424938:=()
def PySem.W.Fast.tw2410921194424722701:=()
def PySem.W.Fast.tw13787793516656400296:=()
def PySem.W.Fast.tw3896662687797621983:=()
def PySem.W.Fast.tw281188551786158433:=()
def PySem.W.Fast.tw1653097306134077248:=()
def PySem.W.Fast.tw16465939379563562853:=()
def PySem.W.Fast.tw1554062749468072028:=()
def PySem.W.Fast.tw6470189279240207012:=()
def PySem.W.Fast.tw9394993696808643306:=()
def PySem.W.Fast.tw6463993764232479053:=()
def PySem.W.Fast.tw126453435983456269:=()
def PySem.W.Fast.tw3554751378720308783:=()
def PySem.W.Fast.tw14724929280451298181:=()
def PySem.W.Fast.tw18224025160976397418:=()
def PySem.W.Fast.tw3346841353357706680:=()
def PySem.W.Fast.tw8650637060911986940:=()
def PySem.W.Fast.tw8909864469189024901:=()
def PySem.W.Fast.tw2838028818703539081:=()
def PySem.W.Fast.tw6106038393625329609:=()
def PySem.W.Fast.tw13103167836546822931:=()
def PySem.W.Fast.tw2821447765027263888:=()
def PySem.W.Fast.tw3406975851681474442:=()
def PySem.W.Fast.tw8320838423477517540:=()
def PySem.W.Fast.tw15074269781367596169:=()
def PySem.W.Fast.tw12440232268299502341:=()
def PySem.W.Fast.tw3202840632376103948:=()
def PySem.W.Fast.tw8316021368693580131:=()
def PySem.W.Fast.tw9662908183547214686:=()
def PySem.W.Fast.tw14281016719313122718:=()
def PySem.W.Fast.tw14091541666140538701:=()
def PySem.W.Fast.tw17234170701616541859:=()
def PySem.W.Fast.tw11278383199259837350:=()
def PySem.W.Fast.tw3232944375467240251:=()
def PySem.W.Fast.tw3147621141250450320:=()
def PySem.W.Fast.tw2579647380740670431:=()
def PySem.W.Fast.tw677065582760487092:=()
def PySem.W.Fast.tw18094510423097458152:=()
def PySem.W.Fast.tw2025201375226544795:=()
def PySem.W.Fast.tw13811747427358143952:=()
def PySem.W.Fast.tw6833271242805068696:=()
def PySem.W.Fast.tw5681820245495055405:=()
def PySem.W.Fast.tw11385367619140322743:=()
def PySem.W.Fast.tw12526254258675924295:=()
def PySem.W.Fast.tw3943585651788758610:=()
def PySem.W.Fast.tw2740530902435284441:=()
def PySem.W.Fast.tw7504970778388098884:=()
def PySem.W.Fast.tw389251515240403783:=()
def PySem.W.Fast.tw16488124689492733242:=()
def PySem.W.Fast.tw2009136076664473259:=()
def PySem.W.Fast.tw17411596628279896340:=()
def PySem.W.Fast.tw17906777510560866197:=()
def PySem.W.Fast.tw16282209735847412099:=()
def PySem.W.Fast.tw5669960505941973983:=()
def PySem.W.Fast.tw9005669524602728555:=()
def PySem.W.Fast.tw6873508923781833665:=()
def PySem.W.Fast.tw1815369793206169541:=()
def PySem.W.Fast.tw10324746508788612779:=()
def PySem.W.Fast.tw4227441465192092980:=()
namespace HdQ
open PySem PySem.W
def live (o : Obj) : Bool := match o.data with
  | .freed => false
  | _ => true
noncomputable def pick (l : List Obj) : Nat → List Nat → List (Obj × Bool) :=
  @List.rec Obj (fun _ => Nat → List Nat → List (Obj × Bool)) (fun _ _ => [])
    (fun o _ ih i as => @List.rec Nat (fun _ => List (Obj × Bool)) [] (fun a as' _ => @Bool.rec (fun _ => List (Obj × Bool)) (ih (i + 1) (a :: as')) ((o, live o) :: ih (i + 1) as') (Nat.beq i a)) as) l
theorem pick_is : ∀ (l : List Obj) (i : Nat) (as : List Nat), (pick l i as).length = as.length → ∀ (k a : Nat) (o : Obj × Bool), as[k]? = some a → (pick l i as)[k]? = some o → i ≤ a ∧ l[a - i]? = some o.1 ∧ o.2 = live o.1
  | [], i, as, h, k, a, o, h1, h2 => by
    exfalso
    have : (pick [] i as)[k]? = none := rfl
    rw [this] at h2
    cases h2
  | x :: l, i, [], h, k, a, o, h1, h2 => by simp at h1
  | x :: l, i, b :: as, h, k, a, o, h1, h2 => by
    have e : pick (x :: l) i (b :: as) = @Bool.rec (fun _ => List (Obj × Bool)) (pick l (i + 1) (b :: as)) ((x, live x) :: pick l (i + 1) as) (Nat.beq i b) := rfl
    rw [e] at h h2
    cases q : Nat.beq i b with
    | true =>
      have ib := Nat.eq_of_beq_eq_true q
      rw [q] at h h2
      have h' : (pick l (i + 1) as).length + 1 = as.length + 1 := h
      cases k with
      | zero =>
        cases h1
        cases h2
        exact ⟨by omega, by rw [ib, Nat.sub_self]; rfl, rfl⟩
      | succ k =>
        obtain ⟨g1, g2, g3⟩ := pick_is l (i + 1) as (by omega) k a o h1 h2
        exact ⟨by omega, by rw [show a - i = (a - (i + 1)) + 1 by omega]; exact g2, g3⟩
    | false =>
      rw [q] at h h2
      obtain ⟨g1, g2, g3⟩ := pick_is l (i + 1) (b :: as) h k a o h1 h2
      exact ⟨by omega, by rw [show a - i = (a - (i + 1)) + 1 by omega]; exact g2, g3⟩
theorem get_live {h : Heap} {a : Addr} {o : Obj} (e : h.objs[a]? = some o) (l : live o = true) : h.get? a = some o := by
  unfold Heap.get?
  rw [e]
  obtain ⟨c, d, dt, sl⟩ := o
  cases dt <;> first | rfl | (exact absurd l Bool.false_ne_true)
theorem pick_get {K : Frag} {as : List Addr} {h : Heap} (e : as = K.map (·.1)) (x : pick h.objs.toList 0 as = K.map fun p => (p.2, true)) : as.map h.get? = K.map fun p => some p.2 := by
  have hl : (pick h.objs.toList 0 as).length = as.length := by rw [x, e, List.length_map, List.length_map]
  refine List.ext_getElem? fun k => ?_
  rw [List.getElem?_map, List.getElem?_map]
  cases q : K[k]? with
  | none =>
    have : as[k]? = none := by rw [e, List.getElem?_map, q]; rfl
    rw [this]; rfl
  | some p =>
    have h1 : as[k]? = some p.1 := by rw [e, List.getElem?_map, q]; rfl
    have h2 : (pick h.objs.toList 0 as)[k]? = some (p.2, true) := by rw [x, List.getElem?_map, q]; rfl
    obtain ⟨_, g, gl⟩ := pick_is _ _ _ hl k p.1 _ h1 h2
    rw [h1]
    show some (h.get? p.1) = some (some p.2)
    rw [Nat.sub_zero, Array.getElem?_toList] at g
    rw [get_live g gl.symm]
noncomputable def hk (K : Params → Frag) (as : List Addr) (e : ∀ P, as = (K P).map (·.1)) : Hook :=
  ⟨List (Obj × Bool), fun s => pick s.heap.objs.toList 0 as, fun w => (K w.params).map fun p => (p.2, true), InK K, fun w s x => InK.of e w s (pick_get (e _) x), InK.keeps⟩
theorem hk_in {K : Params → Frag} {as : List Addr} {e : ∀ P, as = (K P).map (·.1)} {w : World} {h : Heap} (Y : (hk K as e).says w h) : (K w.params).In h := Y
end HdQ
namespace HdQ
open PySem PySem.W
def q0 : Program := { PySem.Challenge.rw_heddle_k47_no_colour.prog with main := { PySem.Challenge.rw_heddle_k47_no_colour.prog.main with body := PySem.Challenge.rw_heddle_k47_no_colour.prog.main.body.drop 67 } }
def l0 : List Str := [Str.ofString "WeaveError", Str.ofString "NoRow", Str.ofString "TooLarge", Str.ofString "NoCloth", Str.ofString "NoDraft", Str.ofString "NoStrand", Str.ofString "NoDeed", Str.ofString "NoLaying", Str.ofString "NoShuttle", Str.ofString "NoColour", Str.ofString "NoBlock", Str.ofString "NoPattern", Str.ofString "Unknown", Str.ofString "Twice", Str.ofString "MOST_STRANDS", Str.ofString "measured", Str.ofString "measured_texts", Str.ofString "check_pick", Str.ofString "end_signs", Str.ofString "COLOURS", Str.ofString "picture_of", Str.ofString "free_half", Str.ofString "measured_picture", Str.ofString "check_threads", Str.ofString "shown_pick", Str.ofString "free_pick", Str.ofString "free_sign", Str.ofString "lower_strands", Str.ofString "ways_from", Str.ofString "way_to", Str.ofString "upper_part", Str.ofString "first_colouring", Str.ofString "crossings_of", Str.ofString "settle_strand", Str.ofString "chain_from", Str.ofString "MOST_SHAFTS", Str.ofString "Draft", Str.ofString "least_draft", Str.ofString "check_setting", Str.ofString "check_count", Str.ofString "check_shaft", Str.ofString "check_tie", Str.ofString "check_treading", Str.ofString "shafts_over", Str.ofString "unlike", Str.ofString "measured_half", Str.ofString "finished_cloth", Str.ofString "settle", Str.ofString "made_draft", Str.ofString "_law_numbers", Str.ofString "_law_bits", Str.ofString "_law_threads", Str.ofString "_law_shows", Str.ofString "_law_word", Str.ofString "_law_spoilt_texts", Str.ofString "_law_spoilt_threads", Str.ofString "_law_due"]
end HdQ
open Lean in
local macro_rules
  | `(tactic| refine $f:ident $args*) => do
    unless f.getId == `PySem.W.holds_open do Macro.throwUnsupported
    let some qa := args.find? fun a => a.raw.isOfKind ``Lean.Parser.Term.namedArgument && a.raw[1].getId.eraseMacroScopes == `q | Macro.throwUnsupported
    let qs := qa.raw[3]
    if qs.isIdent && qs.getId == `HdQ.q0 then Macro.throwUnsupported
    let q0 := (mkIdent `HdQ.q0).raw
    let args := args.map fun a => ⟨Id.run do
      if a.raw.isOfKind ``Lean.Parser.Term.namedArgument then
        if a.raw[1].getId.eraseMacroScopes == `loose then return a.raw.setArg 3 (mkIdent `HdQ.l0)
        return Id.run (a.raw.replaceM fun s => pure (if s.structEq qs then some q0 else none))
      return a.raw⟩
    `(tactic| refine $f:ident $args*)
open Lean in
local macro_rules
  | `(tactic| o_head ($h:ident $a $b $c $_ds*)) => do
    unless [`kHook, `kmHook, `PySem.W.kHook, `PySem.W.kmHook].contains h.getId.eraseMacroScopes do Macro.throwUnsupported
    `(tactic| o_head (HdQ.hk $a $b $c))
set_option maxRecDepth 100000 in
set_option maxHeartbeats 0 in
theorem PySem.Challenge.cw_heddle_k47_no_colour_holds : PySem.Challenge.rw_heddle_k47_no_colour.Holds := by
 w_on;o_law;k_head;(case hw=>w_witness2)
 k_fill
 refine L2.Abp (l:=PySem.Challenge.rw_heddle_k47_no_colour) (n:=63) (k:=9) (x := "script") (CX:=L2.CX0) (sp:=Mine.Ww) rfl (by decide) rfl ⟨rfl,by decide,by decide⟩ (fun w h Y=>HdQ.hk_in Y) ?F ?S ?C
 case F =>
  intro w mg fa h KX G hmg
  refine' Mine.Agf (t:=Mine.Adr.mk) hmg ?T
  case T =>
   constructor <;> (try dsimp only) <;> first
   | (refine' L2.DfH.df ⟨?a,?b⟩ KX G ?c;(case a=>k_is);(case b=>(apply L2.Abq <;> k_is));(case c=>(intro _ _ _ _ _ _ us hl;first | exact Mine.bl1 (fun _=>rfl) us hl | exact Mine.bl2 (fun _ _=>rfl) us hl | exact Mine.bl3 (fun _ _ _=>rfl) us hl | exact Mine.bl4 (fun _ _ _ _=>rfl) us hl | exact Mine.bl5 (fun _ _ _ _ _=>rfl) us hl)))
   | exact PySem.W.mg_none_of KX G (by k_is)
   | exact⟨_,PySem.W.mg_of KX G (by k_is)⟩
   | exact PySem.W.mg_of KX G (by k_is)
   | (refine' L2.MfH.mf ⟨?a,?b,?d⟩ ?c;(case a=>k_is);(case b=>k_is);(case d=>(apply L2.Abq <;> k_is));(case c=>(intro _ _ _ _ _ _ us hl;first | exact Mine.bl1 (fun _=>rfl) us hl | exact Mine.bl2 (fun _ _=>rfl) us hl | exact Mine.bl3 (fun _ _ _=>rfl) us hl | exact Mine.bl4 (fun _ _ _ _=>rfl) us hl | exact Mine.bl5 (fun _ _ _ _ _=>rfl) us hl)))
   | (apply L2.Afl <;> k_is)
   | (unfold L2.Jj;k_is)
   | (apply L2.Afi <;> first | k_exc | k_is)
   | k_is
   | kernel_rfl
   | (constructor <;> first | k_is | rfl)
 case S=>exact fun K H a ns hl hO hS=>Mine.Wx hl hS
 case C=>exact fun _ _ _ _ z=>z
