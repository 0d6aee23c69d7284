import PyProof.Rows.All
import Wide.All
import OpenK.AllK
import Wide.FinOn
import Lean
import PyProof.EqAt
import PyProof.EqKinds
import PyProof.TupleCall
import PyProof.StrBlockL
import PyProof.EnumMake
import PyProof.CollectIter
import PyProof.JoinWalk
import PyProof.StrOps
import PyProof.StrLawsIdx
import PyProof.StrLawsIn
import PyProof.ListRange
import PyProof.Rows.Range3
import PyProof.Rows.SumAny
import KE.KIntText
import KE.LcSums
import PyProof.LongRange
import PyProof.StrOps2
import PyProof.FitsBits
import PyProof.NeKinds
import PyProof.Rows.ZipGen
import PyProof.Draws
import PyProof.Rows.SeqMore
import PyProof.Rows.SortRev
import PyProof.Rows.SortWalk
import PyProof.Rows.CallKwBuiltin
import PyProof.Rows.MinMaxN
import PyProof.ConsumeWalk
import PyProof.Rows.SortRuns
import KE.KLam
import KE.KSortKey
import KE.KRevIter
import PySem.Challenge.RW_heddle_k35_taken_apart
set_option Elab.async false
set_option linter.all false
set_option maxRecDepth 100000
namespace Zz
def AhX:=@Nat.le_refl
def AhY:=@List.getElem?_eq_getElem
def AhZ:=@List.length_map
def Aia:=@List.size_toArray
def Aib:=@List.length_take
def Aic:=@List.getD_eq_getElem?_getD
def Aid:=@List.length_append
def Aie:=@List.getElem_mem
def Aif:=@Nat.lt_of_lt_of_le
def Aig:=@Nat.ne_of_lt
def Aih:=@List.length_range
def Aii:=@List.mem_cons_self
def Aij:=@List.mem_cons_of_mem
def Aik:=@Nat.zero_le
def Ail:=@Bool.false_ne_true
def Aim:=@List.length_drop
def Ain:=@Bool.false_eq_true
def Aio:=@List.map_append
def Aip:=@List.getElem?_map
def Aiq:=@List.map_cons
def Air:=@Int.toNat_natCast
def Ais:=@Nat.le_trans
def Ait:=@List.mem_append_right
def Aiu:=@List.getElem_of_mem
def Aiv:=@List.mem_of_getElem?
def Aiw:=@Nat.succ_mul
def Aix:=@List.lookup_cons
def Aiy:=@List.take_of_length_le
def Aiz:=@Int.le_refl
def Ai0:=@List.take_append_drop
def Ai1:=@List.flatten_cons
def Ai2:=@List.length_cons
def Ai3:=@Nat.min_eq_left
def Ai4:=@List.mem_of_mem_take
def Ai5:=@Nat.lt_irrefl
def Ai6:=@List.mem_cons
def Ai7:=@List.not_mem_nil
def Ai8:=@List.take_add_one
def Ai9:=@List.map_take
def AiA:=@List.append_nil
def AiB:=@List.getElem?_append_right
def AiC:=@List.append_assoc
def AiD:=@Nat.zero_add
def AiE:=@List.pairwise_map
def AiF:=@List.mem_filter
def AiG:=@List.getElem?_append_left
def AiH:=@List.map_nil
def AiI:=@Nat.le_succ
def AiJ:=@List.sum_cons
def AiK:=@List.filter_append
def AiL:=@List.mem_of_mem_drop
def AiM:=@Nat.sub_self
def AiN:=@Int.le_of_lt
def AiO:=@Nat.lt_or_ge
def AiP:=@List.take_length
def AiQ:=@Bool.eq_iff_iff
def AiR:=@List.getElem?_take_of_lt
def AiS:=@Int.natCast_mul
def AiT:=@List.mem_append
def AiU:=@List.take_sublist
def AiV:=@List.replicate_succ
def AiW:=@List.nil_append
def AiX:=@List.drop_eq_getElem_cons
def AiY:=@Int.lt_of_lt_of_le
def AiZ:=@Nat.add_zero
def Aja:=@Int.zero_add
def Ajb:=@List.map_drop
def Ajc:=@Nat.le_of_lt
def Ajd:=@List.getElem?_set_self
def Aje:=@Nat.le_of_eq
def Ajf:=@Nat.mul_add
def Ajg:=@Int.natCast_add
def Ajh:=@List.range_succ
def Aji:=@List.drop_drop
def Ajj:=@List.filter_cons
def Ajk:=@Nat.add_sub_cancel_left
def Ajl:=@List.getElem?_drop
def Ajm:=@Int.emod_nonneg
def Ajn:=@Int.emod_lt_of_pos
def Ajo:=@List.getElem?_set_ne
def Ajp:=@Int.mul_one
def Ajq:=@List.length_set
def Ajr:=@List.map_map
def Ajs:=@Nat.sub_zero
def Ajt:=@Bool.not_true
def Aju:=@Nat.mul_one
def Ajv:=@List.length_filter_le
def Ajw:=@List.filter_cons_of_pos
def Ajx:=@List.filter_nil
def Ajy:=@List.filter_cons_of_neg
def Ajz:=@List.mem_append_left
def Aj0:=@Nat.ne_of_gt
def Aj1:=@Nat.mul_comm
def Aj2:=@List.forIn_cons
def Aj3:=@Bool.and_eq_true
def Aj4:=@Nat.min_self
def Aj5:=@List.getElem?_range
def Aj6:=@Int.natCast_one
def Aj7:=@List.map_congr_left
def Aj8:=@List.getElem_map
def Aj9:=@List.take_succ_eq_append_getElem
def AjA:=@List.perm_append_comm
def AjB:=@List.length_pos_of_mem
def AjC:=@List.getElem_take
def AjD:=@List.nodup_append
def AjE:=@List.getElem_drop
def AjF:=@Int.lt_of_le_of_lt
def AjG:=@List.filterMap_cons
def AjH:=@Nat.le_of_not_lt
def AjI:=@Nat.lt_succ_self
def AjJ:=@Nat.lt_succ_of_lt
def AjK:=@List.all_eq_true
def AjL:=@List.cons_append
def AjM:=@List.getElem?_of_mem
def AjN:=@List.getElem?_eq_none
def AjO:=@List.ext_getElem
def AjP:=@List.nodup_range
def AjQ:=@List.perm_ext_iff_of_nodup
def AjR:=@List.drop_of_length_le
def AjS:=@List.count_le_length
def AjT:=@List.eq_nil_of_length_eq_zero
end Zz
open Zz
namespace L2
open PySem PySem.Spec PyProof.Rows
abbrev Key:=Sum Int Str
def AcE:Key→Value→Bool
 | .inl k,v=>Value.isInt k v
 | .inr x,v=>Value.isStrOf x v
def AfK (w:World):Key→Int
 | .inl k=>hashInt k
 | .inr x=>hashStr w x
theorem Cy:∀{k:Key} {v:Value},AcE k v=true→(∃ i t,k=Sum.inl i∧v=Value.int i t)∨(∃ x t,k=Sum.inr x∧v=Value.str x t)
 | .inl i,v,h=>by
  obtain⟨t,e⟩:=Value.isInt_shape (k:=i) (v:=v) h
  exact .inl ⟨i,t,rfl,e⟩
 | .inr x,v,h=>by
  obtain⟨t,e⟩:=Value.isStrOf_shape (x:=x) (v:=v) h
  exact .inr ⟨x,t,rfl,e⟩
theorem AcZ(a b:Int):decide ((Sum.inl a:Key)=Sum.inl b)=(a == b):=by
 by_cases e:a=b
 ·subst e;simp
 ·have h:¬(Sum.inl a:Key)=Sum.inl b:=fun q=>e (Sum.inl.inj q)
  rw[decide_eq_false h]
  exact(beq_eq_false_iff_ne.mpr e).symm
theorem Ada(a b:Str):decide ((Sum.inr a:Key)=Sum.inr b)=decide (a=b):=by
 by_cases e:a=b
 ·subst e;simp
 ·have h:¬(Sum.inr a:Key)=Sum.inr b:=fun q=>e (Sum.inr.inj q)
  rw[decide_eq_false h,decide_eq_false e]
theorem Adb(a:Int)(b:Str):decide ((Sum.inl a:Key)=Sum.inr b)=false:=decide_eq_false (fun q=>nomatch q)
theorem Adc(a:Str)(b:Int):decide ((Sum.inr a:Key)=Sum.inl b)=false:=decide_eq_false (fun q=>nomatch q)
def U3 (prog:Program)(w:World):PySem.KeyKind prog w Key where
 is:=AcE
 hash:=AfK w
 inj:=fun v a b ha hb=>by
  rcases Cy ha with ⟨i,t,rfl,rfl⟩ | ⟨x,t,rfl,rfl⟩
  ·rcases Cy hb with ⟨j,u,rfl,e⟩ | ⟨y,u,rfl,e⟩
   ·injection e with e1 _;rw[e1]
   ·exact nomatch e
  ·rcases Cy hb with ⟨j,u,rfl,e⟩ | ⟨y,u,rfl,e⟩
   ·exact nomatch e
   ·injection e with e1 _;rw[e1]
 byValue:=fun k v h=>by
  rcases Cy h with ⟨i,t,rfl,rfl⟩ | ⟨x,t,rfl,rfl⟩ <;> rfl
 pyHash:=fun hv h=>by
  rcases Cy hv with ⟨i,t,rfl,rfl⟩ | ⟨x,t,rfl,rfl⟩
  ·exact wpAny_pyHash_int h
  ·exact wpAny_pyHash_str h
 eqBool:=fun hu hv h=>by
  rcases Cy hu with ⟨i,t,rfl,rfl⟩ | ⟨x,t,rfl,rfl⟩
  ·rcases Cy hv with ⟨j,u,rfl,rfl⟩ | ⟨y,u,rfl,rfl⟩
   ·rw[AcZ] at h;exact wpAny_eqBool_int h
   ·rw[Adb] at h;exact SeqAt.EqAt.int_str i t y u _ _ _ _ h
  ·rcases Cy hv with ⟨j,u,rfl,rfl⟩ | ⟨y,u,rfl,rfl⟩
   ·rw[Adc] at h;exact SeqAt.EqAt.str_int x t j u _ _ _ _ h
   ·rw[Ada] at h;exact wpAny_eqBool_str h
 «strs»:=fun k x t v h=>by
  rcases Cy h with ⟨i,u,rfl,e⟩ | ⟨y,u,rfl,e⟩
  ·exact nomatch e
  ·injection e with e1 _
   subst e1
   cases v <;> rfl
open PySem PySem.Spec PyProof.Rows
inductive V where
 | non | bl (b:Bool) | int (i:Int) | str (x:Str) | byt (b:Array UInt8) | flt (b:UInt64) | ref (a:Addr) | ty (n:String)
 deriving DecidableEq
def RelV:V→Value→Prop
 | .non,u=>u=Value.none
 | .bl b,u=>u=Value.bool b
 | .int i,u=>∃ t,u=Value.int i t
 | .str x,u=>∃ t,u=Value.str x t
 | .byt b,u=>∃ t,u=Value.bytes b t
 | .flt b,u=>∃ t,u=Value.float b t
 | .ref a,u=>u=Value.ref a
 | .ty n,u=>u=Value.type n
abbrev Vals:List V→List Value→Prop:=Paired RelV
theorem Vals.length{xs:List V}{us:List Value}(r:Vals xs us):xs.length=us.length:=Paired.length r
theorem Vals.get:∀{xs:List V} {us:List Value} {i:Nat} {x:V},Vals xs us→xs[i]?=some x→∃ u,us[i]?=some u∧RelV x u
 | _,_,_,_,.nil,e=>by simp at e
 | _,_,0,_,.cons r _,e=>by simp at e;subst e;exact⟨_,rfl,r⟩
 | _,_,i+1,x,.cons _ t,e=>by
  obtain⟨u,h1,h2⟩:=Vals.get (i:=i) (x:=x) t (by simpa using e)
  exact⟨u,by simpa using h1,h2⟩
theorem Vals.set{x:V}{u:Value}(r:RelV x u):∀{xs:List V} {us:List Value} (i:Nat),Vals xs us→Vals (xs.set i x) (us.set i u)
 | _,_,_,.nil=>.nil
 | _,_,0,.cons _ t=>.cons r t
 | _,_,i+1,.cons q t=>.cons q (Vals.set r i t)
theorem Vals.append:∀{xs ys:List V} {us ws:List Value},Vals xs us→Vals ys ws→Vals (xs++ys) (us++ws)
 | _,_,_,_,.nil,s=>s
 | _,_,_,_,.cons r t,s=>.cons r (Vals.append t s)
theorem Vals.take:∀{xs:List V} {us:List Value} (n:Nat),Vals xs us→Vals (xs.take n) (us.take n)
 | _,_,0,_=>.nil
 | _,_,_+1,.nil=>.nil
 | _,_,n+1,.cons r t=>.cons r (Vals.take n t)
theorem Vals.drop:∀{xs:List V} {us:List Value} (n:Nat),Vals xs us→Vals (xs.drop n) (us.drop n)
 | _,_,0,r=>r
 | _,_,_+1,.nil=>.nil
 | _,_,n+1,.cons _ t=>Vals.drop n t
def Ade:Option V→Option Value→Prop
 | some v,some u=>RelV v u
 | none,none=>True
 | _,_=>False
def KV {κ:Type}:List (κ × V)→List (κ × Value)→Prop:=Paired fun(p:κ × V) (q:κ × Value)=>p.1=q.1∧RelV p.2 q.2
def kV:Key→V
 | .inl i=>.int i
 | .inr x=>.str x
inductive HO where
 | lst (xs:List V)
 | tup (xs:List V)
 | dK (kvs:List (Key × V)) | dT (kvs:List (List Key × V))
 | set (S:Int→Bool) (n:Nat)
 | ins (C dx:Addr) (fs:List (Str × V))
 | own (x:Addr)
 | xd (fs:List (Str × V))
 | met (f x:Addr)
 | rng (lo hi:Int)
 | frz (o:Obj) (u:HO)
 | tbl (ps:Array Value)
 | ext (φ:Heap→Prop)
abbrev Hp:=Addr→Option HO
def upd (H:Hp)(a:Addr)(o:HO):Hp:=fun b=>if b=a then some o else H b
theorem Ae{H:Hp}{a:Addr}{o:HO}:upd H a o a=some o:=by unfold upd;rw[if_pos rfl]
theorem Aj{H:Hp}{a b:Addr}{o:HO}(h:b≠a):upd H a o b=H b:=by unfold upd;rw[if_neg h]
theorem YS{H:Hp}{a:Addr}{o u:HO}:upd (upd H a o) a u=upd H a u:=by
 funext b;unfold upd;split <;> rfl
theorem Cd{H:Hp}{a b:Addr}{o:HO}(h:H a=some o)(h':H b=none):a≠b:=by
 intro e;subst e;rw[h] at h';cases h'
section
variable (P:Program) (w:World)
def Eu (H:Hp)(h:Heap)(a:Addr):HO→Prop
 | .lst xs=>xs.length≤sizeLine∧∃(its:List Value) (n:Nat),Vals xs its∧h.get? a=some { cls:=.type "list", data:=.seq its.toArray n }
 | .tup xs=>xs.length≤sizeLine∧∃ its:List Value,Vals xs its∧IsTup h a its.toArray
 | .dK kvs=>kvs.length≤sizeLine∧(a == sysModules)=false∧∃ vs,KV kvs vs∧h.DictOf (U3 P w) a vs
 | .dT kvs=>kvs.length≤sizeLine∧(a == sysModules)=false∧∃ xs:List (List Key × Addr × Value),
   Paired (fun(p:List Key × V) (q:List Key × Addr × Value)=>p.1=q.1∧H q.2.1=some (.tup (p.1.map kV))∧RelV p.2 q.2.2) kvs xs ∧
   ∃ o es ep,h.get? a=some o∧o.ExactDict∧o.data=.dict es ep∧es.toList=xs.map (entryOfKey (tupleKind (U3 P w)))∧(xs.map (·.1)).Nodup
 | .set S n=>h.SetOf (intKind P w) a S n
 | .ins C dx fs=>H dx=some (.own a)∧fs.length≤1000∧dx≠a∧h.get? a=some (PySem.W.instObj C dx) ∧
   ∃ mA,h.Ns1 dx mA∧(∀ f,Ade (fs.lookup f) (mA f))∧PySem.Within mA (fs.map (·.1))
 | .own _=>∃ o,h.get? a=some o
 | .xd fs=>∃ mA,h.Ns1 a mA∧∀ f,Ade (fs.lookup f) (mA f)
 | .rng lo hi=>∃ t u v,h.get? a=some { cls:=.type "range", data:=.fields #[.int lo t,.int hi u,.int 1 v] }
 | .frz o u=>h.get? a=some o∧Eu H h a u
 | .tbl ps=>h.get? a=some { cls:=.none,data:=.fields ps }
 | .met f x=>h.get? a=some (PySem.W.methodObj (.ref f) (.ref x))
 | .ext φ=>φ h∧(∃ o,h.get? a=some o)∧∀ h1 h2:Heap,φ h1→(∀ o,h1.get? a=some o→h2.get? a=some o)→φ h2
def HOk (H:Hp)(h:Heap):Prop:=∀ a o,H a=some o→Eu P w H h a o
end
section
variable {P:Program}{w:World}{H H':Hp}{h h':Heap}{a:Addr}{o:HO}
theorem Eu.lt(x:Eu P w H h a o):a<h.objs.size:=by
 cases o with
 | lst xs=>obtain⟨_,_,_,_,e⟩:=x;exact Heap.lt_size e
 | tup xs=>obtain⟨_,_,_,p⟩:=x;exact p.lt
 | dK kvs=>obtain⟨_,_,_,_,o,_,_,e,_⟩:=x;exact Heap.lt_size e
 | dT kvs=>obtain⟨_,_,_,_,o,_,_,e,_⟩:=x;exact Heap.lt_size e
 | set S n=>obtain⟨o,_,_,_,e,_⟩:=x;exact Heap.lt_size e
 | ins C dx fs=>obtain⟨_,_,_,e,_⟩:=x;exact Heap.lt_size e
 | own y=>obtain⟨_,e⟩:=x;exact Heap.lt_size e
 | xd fs=>obtain⟨_,⟨_,_,_,e,_⟩,_⟩:=x;exact Heap.lt_size e
 | rng lo hi=>obtain⟨_,_,_,e⟩:=x;exact Heap.lt_size e
 | frz ob u=>obtain⟨e,_⟩:=x;exact Heap.lt_size e
 | tbl ps=>exact Heap.lt_size (show h.get? a=some _ from x)
 | met f y=>exact Heap.lt_size (show h.get? a=some _ from x)
 | ext φ=>obtain⟨_,⟨_,e⟩,_⟩:=x;exact Heap.lt_size e
theorem Paired.Aep{α β:Type}{F G:α→β→Prop}:∀{l₁:List α} {l₂:List β},Paired F l₁ l₂→(∀ a b,F a b→G a b)→Paired G l₁ l₂
 | _,_,.nil,_=>.nil
 | _,_,.cons r t,f=>.cons (f _ _ r) (Paired.Aep t f)
theorem Eu.stay(x:Eu P w H h a o)(k:∀ b u,(b=a∨H b=some (.own a))→h.get? b=some u→h'.get? b=some u)
  (ho:∀ b,H b=some (.own a)→H' b=some (.own a)) (ht:∀ b xs,H b=some (.tup xs)→H' b=some (.tup xs)):Eu P w H' h' a o:=by
 induction o with
 | lst xs=>obtain⟨z,its,n,r,e⟩:=x;exact⟨z,its,n,r,k _ _ (.inl rfl) e⟩
 | tup xs=>obtain⟨z,its,r,ob,e,c⟩:=x;exact⟨z,its,r,ob,k _ _ (.inl rfl) e,c⟩
 | dK kvs=>obtain⟨z,y,vs,r,ob,es,ep,e,c⟩:=x;exact⟨z,y,vs,r,ob,es,ep,k _ _ (.inl rfl) e,c⟩
 | dT kvs =>
  obtain⟨z,y,xs,r,ob,es,ep,e,c⟩:=x
  exact⟨z,y,xs,Paired.Aep r fun p q z=>⟨z.1,ht _ _ z.2.1,z.2.2⟩,ob,es,ep,k _ _ (.inl rfl) e,c⟩
 | set S n=>obtain⟨ob,es,ep,t,e,c⟩:=x;exact⟨ob,es,ep,t,k _ _ (.inl rfl) e,c⟩
 | ins C dx fs =>
  obtain⟨d,z,ne,e,mA,⟨od,es,ep,e2,c⟩,r⟩:=x
  exact⟨ho _ d,z,ne,k _ _ (.inl rfl) e,mA,⟨od,es,ep,k _ _ (.inr d) e2,c⟩,r⟩
 | own y=>obtain⟨ob,e⟩:=x;exact⟨ob,k _ _ (.inl rfl) e⟩
 | xd fs=>obtain⟨mA,⟨od,es,ep,e,c⟩,r⟩:=x;exact⟨mA,⟨od,es,ep,k _ _ (.inl rfl) e,c⟩,r⟩
 | rng lo hi=>obtain⟨t,u,v,e⟩:=x;exact⟨t,u,v,k _ _ (.inl rfl) e⟩
 | frz ob u ih=>obtain⟨e,q⟩:=x;exact⟨k _ _ (.inl rfl) e,ih q⟩
 | tbl ps =>
  have e:h.get? a=some { cls:=.none,data:=.fields ps }:=x
  show h'.get? a=some { cls:=.none,data:=.fields ps }
  exact k a _ (.inl rfl) e
 | met f y =>
  have e:h.get? a=some (PySem.W.methodObj (.ref f) (.ref y)):=x
  show h'.get? a=some (PySem.W.methodObj (.ref f) (.ref y))
  exact k a _ (.inl rfl) e
 | ext φ=>obtain⟨p,⟨o,e⟩,st⟩:=x;exact⟨st _ _ p fun o q=>k _ _ (.inl rfl) q,⟨o,k _ _ (.inl rfl) e⟩,st⟩
theorem HOk.lt(x:HOk P w H h)(e:H a=some o):a<h.objs.size:=(x a o e).lt
theorem HOk.fresh(x:HOk P w H h)(e:h.objs.size≤a):H a=none:=by
 cases q:H a with
 | none=>rfl
 | some u=>exact absurd (Aif (x.lt q) e) (Ai5 _)
theorem HOk.kept(x:HOk P w H h)(k:∀ b u,h.get? b=some u→h'.get? b=some u):HOk P w H h':=fun a o e =>
 (x a o e).stay (fun b u _ q=>k b u q) (fun _ q=>q) fun _ _ q=>q
theorem HOk.laid(x:HOk P w H h)(k:∀ b u,h.get? b=some u→h'.get? b=some u)(hp:h.objs.size≤a)(new:Eu P w (upd H a o) h' a o):HOk P w (upd H a o) h':=fun b u e=>by
 have hn:=x.fresh hp
 by_cases hb:b=a
 ·subst hb;rw[Ae] at e;cases e;exact new
 ·rw[Aj hb] at e
  exact(x b u e).stay (fun c v _ q=>k c v q) (fun c q=>by rw[Aj (Cd q hn)];exact q) fun c xs q=>by rw[Aj (Cd q hn)];exact q
end
def Rd (H:Hp)(a:Addr)(u:HO):Prop:=H a=some u∨∃ o,H a=some (.frz o u)
theorem Rd.ok{P:Program}{w:World}{H:Hp}{h:Heap}{a:Addr}{u:HO}(r:Rd H a u)(x:HOk P w H h):Eu P w H h a u:=by
 rcases r with r | ⟨o,r⟩
 ·exact x a u r
 ·obtain⟨_,q⟩:=x a _ r
  exact q
def Mut:Option HO→Prop
 | some (.lst _)=>True
 | some (.dK _)=>True
 | some (.dT _)=>True
 | some (.set _ _)=>True
 | some (.ins _ _ _)=>True
 | some (.ext _)=>True
 | _=>False
section
variable {P:Program}{w:World}{H:Hp}{h h':Heap}{x e:Addr}{o':HO}
theorem HOk.write(ok:HOk P w H h)(mu:Mut (H x))(he:e=x∨H e=some (.own x))(k:∀ b u,b≠e→h.get? b=some u→h'.get? b=some u)(heo:∃ u,h'.get? e=some u)
  (new:Eu P w (upd H x o') h' x o'):HOk P w (upd H x o') h':=fun b u q=>by
 have Aeq:∀ c y,H c=some (.own y)→c≠x:=fun c y r z=>by subst z;rw[r] at mu;exact mu
 have AfL:∀ c xs,H c=some (.tup xs)→c≠x:=fun c xs r z=>by subst z;rw[r] at mu;exact mu
 by_cases hb:b=x
 ·subst hb;rw[Ae] at q;cases q;exact new
 ·rw[Aj hb] at q
  by_cases hbe:b=e
  ·have q':H b=some (.own x):=by
    rcases he with z | z
    ·exact absurd (hbe.trans z) hb
    ·rw[hbe];exact z
   rw[q] at q';cases q'
   obtain⟨v,hv⟩:=heo
   exact⟨v,by rw[hbe];exact hv⟩
  ·refine(ok b u q).stay (fun c v hc r=>k c v ?_ r) (fun c r=>by rw[Aj (Aeq c b r)];exact r) fun c xs r=>by rw[Aj (AfL c xs r)];exact r
   rcases hc with rfl | hc
   ·exact hbe
   ·rintro rfl
    rcases he with z | z
    ·exact Aeq c b hc z
    ·rw[hc] at z;cases z;exact hb rfl
end
structure Un (fs ex:List Addr) (H H':Hp) (h h':Heap):Prop where
 keep:∀ b o,h.get? b=some o→H b=none→b∉fs→b∉ex→h'.get? b=some o
 slot:∀ b o,h.get? b=some o→H b=none→b∈fs→b∉ex→∃ sl,h'.get? b=some { o with slots:=sl }
 free:∀ b o,h.get? b=some o→H b=none→b∉ex→H' b=none
 there:∀ b o,h.get? b=some o→b∉ex→∃ o',h'.get? b=some o'
 tups:∀ b xs,H b=some (.tup xs)→H' b=some (.tup xs)
 MF:∀ b o u,H b=some (.frz o u)→H' b=some (.frz o u)
 Oq:∀ b ps,H b=some (.tbl ps)→∃ more,H' b=some (.tbl (ps++more))
section
variable {fs fs' ex ex':List Addr}{H H1 H2:Hp}{h h1 h2 h':Heap}{a x e:Addr}{o:HO}
theorem Un.any(u:Un fs ex H H1 h h1){b:Addr}{ob:Obj}(q:h.get? b=some ob)(n:H b=none)(hx:b∉ex):∃ sl,h1.get? b=some { ob with slots:=sl }:=by
 by_cases hb:b∈fs
 ·exact u.slot b ob q n hb hx
 ·exact⟨ob.slots,u.keep b ob q n hb hx⟩
theorem Un.kept(k:∀ b u,h.get? b=some u→h'.get? b=some u):Un fs ex H H h h' :=
 ⟨fun b ob q _ _ _=>k b ob q,fun b ob q _ _ _=>⟨ob.slots,k b ob q⟩,fun _ _ _ n _=>n,fun b ob q _=>⟨ob,k b ob q⟩,fun _ _ q=>q,fun _ _ _ q=>q,fun _ ps q=>⟨#[],by rw[q];simp⟩⟩
theorem Un.refl:Un fs ex H H h h:=Un.kept fun _ _ q=>q
theorem Un.laid(k:∀ b u,h.get? b=some u→h'.get? b=some u)(hp:h.objs.size≤a)(hn:H a=none):Un fs ex H (upd H a o) h h' where
 keep:=fun b u q _ _ _=>k b u q
 slot:=fun b u q _ _ _=>⟨u.slots,k b u q⟩
 free:=fun b u q n _=>by rw[Aj (Aig (Aif (Heap.lt_size q) hp))];exact n
 there:=fun b u q _=>⟨u,k b u q⟩
 tups:=fun b xs q=>by rw[Aj (Cd q hn)];exact q
 MF:=fun b u xs q=>by rw[Aj (Cd q hn)];exact q
 Oq:=fun b ps q=>⟨#[],by rw[Aj (Cd q hn),q];simp⟩
theorem Un.write(mu:Mut (H x))(he:e=x∨H e=some (.own x))(k:∀ b u,b≠e→h.get? b=some u→h'.get? b=some u)(heo:∃ u,h'.get? e=some u):Un fs ex H (upd H x o) h h':=by
 have hx:∀ b,H b=none→b≠x:=fun b n z=>by subst z;rw[n] at mu;exact mu
 have hb:∀ b,H b=none→b≠e:=fun b n z=>by
  subst z
  rcases he with r | r
  ·exact hx b n r
  ·rw[n] at r;cases r
 have hm:∀ b u,H b=some u→¬Mut (some u)→b≠x:=fun b u q nm z=>by subst z;rw[q] at mu;exact nm mu
 refine⟨fun b u q n _ _=>k b u (hb b n) q,fun b u q n _ _=>⟨u.slots,k b u (hb b n) q⟩,fun b u q n _=>by rw[Aj (hx b n)];exact n,fun b u q _=>?_,
  fun b xs q=>by rw[Aj (hm b _ q fun z=>z)];exact q,fun b u xs q=>by rw[Aj (hm b _ q fun z=>z)];exact q,fun b ps q=>⟨#[],by rw[Aj (hm b _ q fun z=>z),q];simp⟩⟩
 by_cases hbe:b=e
 ·subst hbe;exact heo
 ·exact⟨u,k b u hbe q⟩
end
def trk (h:Heap)(H:Hp):List Addr:=(List.range h.objs.size).filter fun a=>(H a).isSome
def MJ (h:Heap)(H:Hp):Heap:=PySem.W.hideAll h (trk h H)
theorem TV(h:Heap)(H:Hp):(MJ h H).objs.size=h.objs.size:=PySem.W.hideAll_size _ _
theorem Wh{h:Heap}{H:Hp}{b:Addr}{o:Obj}(e:h.get? b=some o)(n:H b=none):(MJ h H).get? b=some o :=
 PySem.W.hideAll_get _ e fun hm=>by
  have q:(H b).isSome=true:=(List.mem_filter.mp hm).2
  rw[n] at q;simp at q
theorem YT{h:Heap}{H:Hp}{b:Addr}{o:Obj}(e:(MJ h H).get? b=some o):h.get? b=some o∧H b=none:=by
 have e':h.get? b=some o:=PySem.W.of_hideAll (trk h H) e
 refine⟨e',?_⟩
 cases q:H b with
 | none=>rfl
 | some x =>
  have hm:b∈trk h H:=List.mem_filter.mpr ⟨List.mem_range.mpr (Heap.lt_size e'),by simp[q]⟩
  have z:(MJ h H).get? b=none:=PySem.W.hideAll_none (trk h H) hm
  rw[z] at e;cases e
def AbO (g h:Heap)(L:Addr):List (Addr × Obj):=(List.range h.objs.size).filterMap fun a=>if a=L∨(g.get? a).isSome=true then none else (h.get? a).map fun o=>(a,o)
def rest(g h:Heap)(L d:Addr):List (Addr × Obj):=(AbO g h L).filter fun p=>decide (p.1≠d)
open PySem PySem.Spec PyProof.Rows
structure Mod (K:PySem.W.Frag) (mg:Str→Option Value) (base:Heap):Prop where
 kin:K.In base
 glob:base.Ns mainGlobals mg
 blt:∃ mb,base.Ns builtinsNs mb∧∀ x:Str,x ≠ "__name__" → mb x=bootBuiltins x
 nolimit:base.NoLimit
structure Cx where
 prog:Program
 w:World
 K:PySem.W.Frag
 mg:Str→Option Value
 base:Heap
 A:Around
 N:List Str
 s₀:Shared
 H₀:Hp
 env:Env
 outer:List Env
 stack:List Env
 ex:List Addr
 fn:Str→Bool
 calm:Bool
 pn:List (Addr × Obj)
 xe:Value→Shared→Prop
def frs (l:List Env):List Addr:=l.filterMap (·.frame)
abbrev Cx.fs (X:Cx):List Addr:=frs X.outer
def Vis (sc:Scope)(x:Str):Prop:=sc.names.lookup x=some .local∨sc.names.lookup x=some .cell∨sc.names.lookup x=some .free
def Loc (sc:Scope)(x:Str):Prop:=sc.names.lookup x=some .local∨sc.names.lookup x=some .cell
def Look(env:Env)(h:Heap)(m:Str→Option Value)(x:Str)(u:Value):Prop :=
 (env.kindOf x=some .local∧m x=some u)∨((env.kindOf x=some .cell∨env.kindOf x=some .free)∧∃ c,env.cells.lookup x=some c∧h.IsCell c (some u))
structure Cx.Ok (X:Cx):Prop where
 mod:Mod X.K X.mg X.base
 kind:X.env.scope.kind=.function
 glob:X.env.globals=mainGlobals
 blt:X.env.builtins=builtinsNs
 above:X.s₀.heap.objs.size≤X.env.locals
 inj:∀ x y c,X.env.cells.lookup x=some c→X.env.cells.lookup y=some c→x=y
 has:∀ x,(X.env.kindOf x=some .cell∨X.env.kindOf x=some .free)→∃ c,X.env.cells.lookup x=some c
 cab:∀ x c,X.fn x=true→X.env.cells.lookup x=some c→X.s₀.heap.objs.size≤c
 hd:X.calm=true→X.A.handled=none
 frames:X.A.frames=some X.stack
 stk:X.stack=X.outer∨(X.stack=X.env::X.outer∧X.env.frame=some X.env.locals)
 exf:∀ b∈X.ex,b≠X.env.locals∧∀ x c,X.env.cells.lookup x=some c→c≠b
 bs:∀ b o,X.base.get? b=some o→X.s₀.heap.get? b=some o∧X.H₀ b=none
 bsz:X.base.objs.size≤X.s₀.heap.objs.size
 ZJ:∀ b o,X.base.get? b=some o→b∉X.ex
 ZK:∀ b∈X.ex,b∉X.fs
 Rv:X.s₀.heap.FunFrames X.base X.outer
 frf:∀ b∈X.fs,X.H₀ b=none
structure Inv (X:Cx) (pins:List (Addr × Obj)) (σ:List (Option V)) (H:Hp) (s:Shared):Prop where
 ok:X.Ok
 os:s.os=X.s₀.os
 bare:AllBare s.gens
 base:Un X.fs X.ex X.H₀ H X.s₀.heap s.heap
 loc:∃ m,s.heap.Ns X.env.locals m∧∀(i:Nat) (x:Str) (v:V),X.N[i]?=some x→σ[i]?=some (some v)→Vis X.env.scope x→∃ u,RelV v u∧Look X.env s.heap m x u
 cell:∀ x c,X.env.cells.lookup x=some c→∃ v,s.heap.IsCell c v
 free:H X.env.locals=none
 K7:∀ x c,X.env.cells.lookup x=some c→H c=none
 pin:∀ p∈X.pn++pins,s.heap.get? p.1=some p.2∧H p.1=none∧p.1≠X.env.locals∧p.1∉X.fs∧∀ v,p.2.data≠.cell v
 hok:HOk X.prog X.w H s.heap
 len:σ.length=X.N.length
section
variable {X:Cx}{pins:List (Addr × Obj)}{σ:List (Option V)}{H H':Hp}{s:Shared}{h':Heap}
theorem Cx.Ok.AfM(ok:X.Ok){b:Addr}{o:Obj}(e:X.base.get? b=some o):b∉X.fs:=fun hb=>by
 have:=(ok.Rv.mem hb).1
 rw[e] at this;cases this
theorem Inv.bs(I:Inv X pins σ H s):∀ b o,X.base.get? b=some o→s.heap.get? b=some o∧H b=none:=fun b o e =>
 ⟨I.base.keep b o (I.ok.bs b o e).1 (I.ok.bs b o e).2 (I.ok.AfM e) (I.ok.ZJ b o e),I.base.free b o (I.ok.bs b o e).1 (I.ok.bs b o e).2 (I.ok.ZJ b o e)⟩
theorem Inv.bk(I:Inv X pins σ H s):∀ b o,X.base.get? b=some o→s.heap.get? b=some o:=fun b o e=>(I.bs b o e).1
theorem Inv.mod(I:Inv X pins σ H s):Mod X.K X.mg X.base:=I.ok.mod
theorem Inv.kIn(I:Inv X pins σ H s):X.K.In s.heap:=I.ok.mod.kin.keeps I.bk
theorem Inv.nolimit(I:Inv X pins σ H s):s.heap.NoLimit:=I.ok.mod.nolimit.keeps I.bk
theorem Inv.lt(I:Inv X pins σ H s):X.env.locals<s.heap.objs.size:=let ⟨_,hn,_⟩:=I.loc;hn.lt
theorem Inv.sz(I:Inv X pins σ H s):X.s₀.heap.objs.size≤s.heap.objs.size:=Ais I.ok.above (Ajc I.lt)
theorem Inv.Adf(I:Inv X pins σ H s){a:Addr}(h:s.heap.objs.size≤a):a∉X.fs:=fun hb=>by
 obtain⟨_,o,ho,_⟩:=I.ok.Rv.mem hb
 exact absurd (Aif (Heap.lt_size ho) (Ais I.sz h)) (Ai5 _)
theorem Inv.cne(I:Inv X pins σ H s):∀ x c,X.env.cells.lookup x=some c→c≠X.env.locals:=fun x c e z=>by
 obtain⟨v,o,ho,hd⟩:=I.cell x c e
 obtain⟨m,⟨o',es,ep,ho',hd',_⟩,_⟩:=I.loc
 rw[z,ho'] at ho;cases ho;rw[hd'] at hd;cases hd
theorem Inv.Rv(I:Inv X pins σ H s):s.heap.FunFrames X.base X.outer:=by
 have all:∀(l:List Env),(∀ b∈frs l,b∈X.fs)→X.s₀.heap.FunFrames X.base l→s.heap.FunFrames X.base l:=by
  intro l
  induction l with
  | nil=>intro _ _;trivial
  | cons env r ih =>
   intro hs hl
   obtain⟨hk,⟨L,o,hf,hn,ho,hd⟩,hr⟩:=hl
   have hL:L∈X.fs:=hs L (by unfold frs;rw[AjG,hf];exact Aii)
   obtain⟨sl,e⟩:=I.base.slot L o ho (I.ok.frf L hL) hL fun z=>I.ok.ZK L z hL
   exact⟨hk,⟨L,_,hf,hn,e,hd⟩,ih (fun b hb=>hs b (by unfold frs;rw[AjG,hf];exact Aij _ hb)) hr⟩
 exact all X.outer (fun _ hb=>hb) I.ok.Rv
theorem Inv.stack(I:Inv X pins σ H s):s.heap.FunFrames X.base X.stack:=by
 rcases I.ok.stk with e | ⟨e,hf⟩
 ·rw[e];exact I.Rv
 ·rw[e]
  obtain⟨m,hn,_⟩:=I.loc
  refine .cons (by rw[I.ok.kind];decide) hf hn ?_ I.Rv
  exact Heap.get?_none_of_le (Ais I.ok.bsz I.ok.above)
theorem Inv.XX(I:Inv X pins σ H s):∀ b∈frs X.stack,b∈X.env.locals::X.fs:=fun b hb=>by
 rcases I.ok.stk with e | ⟨e,hf⟩
 ·rw[e] at hb;exact Aij _ hb
 ·rw[e] at hb
  unfold frs at hb
  rw[AjG,hf] at hb
  exact hb
theorem Inv.U4(I:Inv X pins σ H s):∀ b∈frs X.stack,H b=none:=fun b hb=>by
 rcases List.mem_cons.mp (I.XX b hb) with e | hb
 ·rw[e];exact I.free
 ·obtain⟨_,o,ho,_⟩:=I.ok.Rv.mem hb
  exact I.base.free b o ho (I.ok.frf b hb) fun z=>I.ok.ZK b z hb
theorem Inv.step{g':Array GenState}{t':Nat}{d':Drawn}{ch:List Addr}(I:Inv X pins σ H s)
  (hch:∀ b∈ch,(b∈X.ex∨X.s₀.heap.objs.size≤b)∧b≠X.env.locals∧(∀ x c,X.env.cells.lookup x=some c→c≠b)∧∀ p∈X.pn++pins,p.1≠b)
  (keep:∀ b o,b≠X.env.locals→b∉X.fs→b∉ch→s.heap.get? b=some o→H b=none→h'.get? b=some o)
  (slot:∀ b o,b≠X.env.locals→b∈X.fs→b∉ch→s.heap.get? b=some o→H b=none→∃ sl,h'.get? b=some { o with slots:=sl }) (free:∀ b o,b∉ch→s.heap.get? b=some o→H b=none→H' b=none)
  (there:∀ b o,b∉ch→s.heap.get? b=some o→∃ o',h'.get? b=some o')
  (tups:∀ b xs,H b=some (.tup xs)→H' b=some (.tup xs)) (MF:∀ b o u,H b=some (.frz o u)→H' b=some (.frz o u)) (Oq:∀ b ps,H b=some (.tbl ps)→∃ more,H' b=some (.tbl (ps++more)))
  (ns:∀ m,s.heap.Ns X.env.locals m→h'.Ns X.env.locals m) (hok:HOk X.prog X.w H' h') (hg:AllBare g') :
  Inv X pins σ H' { s with heap:=h',gens:=g',drawn:=d',toks:=t' }:=by
 have neL:∀ b o,X.s₀.heap.get? b=some o→b≠X.env.locals:=fun b o e=>Aig (Aif (Heap.lt_size e) I.ok.above)
 have neC:∀ b o,X.s₀.heap.get? b=some o→b∉X.ex→b∉ch:=fun b o e hx hb=>by
  rcases(hch b hb).1 with z | z
  ·exact hx z
  ·exact absurd (Aif (Heap.lt_size e) z) (Ai5 _)
 have cellK:∀ x c,X.env.cells.lookup x=some c→∀ v,s.heap.IsCell c v→h'.IsCell c v:=fun x c e v ⟨o,ho,hd⟩=>by
  have nch:c∉ch:=fun z=>(hch c z).2.2.1 x c e rfl
  by_cases hc:c∈X.fs
  ·obtain⟨sl,q⟩:=slot c o (I.cne x c e) hc nch ho (I.K7 x c e)
   exact⟨_,q,hd⟩
  ·exact⟨o,keep c o (I.cne x c e) hc nch ho (I.K7 x c e),hd⟩
 refine⟨I.ok,I.os,hg,⟨fun b o e n hb hx=>?_,fun b o e n hb hx=>?_,fun b o e n hx=>?_,fun b o e hx=>?_,fun b xs e=>tups b xs (I.base.tups b xs e),fun b o xs e=>MF b o xs (I.base.MF b o xs e),fun b ps e=>?_⟩,?_,fun x c e=>?_,?_,fun x c e=>?_,fun p hp=>?_,hok,I.len⟩
 ·exact keep b o (neL b o e) hb (neC b o e hx) (I.base.keep b o e n hb hx) (I.base.free b o e n hx)
 ·obtain⟨sl,e1⟩:=I.base.slot b o e n hb hx
  obtain⟨sl',e2⟩:=slot b _ (neL b o e) hb (neC b o e hx) e1 (I.base.free b o e n hx)
  exact⟨sl',e2⟩
 ·obtain⟨o',e1⟩:=I.base.there b o e hx
  exact free b o' (neC b o e hx) e1 (I.base.free b o e n hx)
 ·obtain⟨o',e1⟩:=I.base.there b o e hx
  exact there b o' (neC b o e hx) e1
 ·obtain⟨m1,e1⟩:=I.base.Oq b ps e
  obtain⟨m2,e2⟩:=Oq b _ e1
  exact⟨m1++m2,by rw[e2,Array.append_assoc]⟩
 ·obtain⟨m,hn,hl⟩:=I.loc
  refine⟨m,ns m hn,fun i x v e1 e2 e3=>?_⟩
  obtain⟨u,r,l⟩:=hl i x v e1 e2 e3
  refine⟨u,r,?_⟩
  rcases l with l | ⟨k,c,e,z⟩
  ·exact .inl l
  ·exact .inr ⟨k,c,e,cellK x c e _ z⟩
 ·obtain⟨v,z⟩:=I.cell x c e
  exact⟨v,cellK x c e v z⟩
 ·obtain⟨m,⟨o,_,_,ho,_⟩,_⟩:=I.loc
  exact free _ o (fun z=>(hch _ z).2.1 rfl) ho I.free
 ·obtain⟨v,o,ho,hd⟩:=I.cell x c e
  exact free c o (fun z=>(hch c z).2.2.1 x c e rfl) ho (I.K7 x c e)
 ·obtain⟨e,n,ne,nf,d⟩:=I.pin p hp
  have nch:p.1∉ch:=fun z=>(hch p.1 z).2.2.2 p hp rfl
  exact⟨keep p.1 p.2 ne nf nch e n,free p.1 p.2 nch e n,ne,nf,d⟩
theorem Inv.un{t':Nat}(I:Inv X pins σ H s)(u:Un X.fs [] H H' s.heap h')(hok:HOk X.prog X.w H' h'):Inv X pins σ H' { s with heap:=h',toks:=t' }:=by
 obtain⟨m,⟨o,es,ep,ho,r⟩,_⟩:=id I.loc
 obtain⟨sl,hL⟩:=u.any ho I.free (by simp)
 exact I.step (g':=s.gens) (d':=s.drawn) (ch:=[]) (fun _ z=>nomatch z) (fun b o _ hb _ e n=>u.keep b o e n hb (by simp)) (fun b o _ hb _ e n=>u.slot b o e n hb (by simp)) (fun b o _ e n=>u.free b o e n (by simp)) (fun b o _ e=>u.there b o e (by simp)) u.tups u.MF u.Oq (fun m' hm=>by
  obtain⟨o',es',ep',ho',r'⟩:=hm
  rw[ho] at ho';cases ho'
  exact⟨_,es',ep',hL,r'⟩) hok I.bare
theorem Inv.call{g':Array GenState}{t':Nat}{d':Drawn}{ch:List Addr}(I:Inv X pins σ H s)(u:Un (frs X.stack) ch H H' s.heap h')(hok:HOk X.prog X.w H' h')(hg:AllBare g')
  (hch:∀ b∈ch,(b∈X.ex∨X.s₀.heap.objs.size≤b)∧b≠X.env.locals∧(∀ x c,X.env.cells.lookup x=some c→c≠b)∧∀ p∈X.pn++pins,p.1≠b) :
  Inv X pins σ H' { s with heap:=h',gens:=g',drawn:=d',toks:=t' }:=by
 obtain⟨m,⟨o,es,ep,ho,r⟩,_⟩:=id I.loc
 obtain⟨sl,hL⟩:=u.any ho I.free fun z=>(hch _ z).2.1 rfl
 exact I.step (ch:=ch) hch (fun b o hL hb hc e n=>u.keep b o e n (fun z=>(List.mem_cons.mp (I.XX b z)).elim hL hb) hc) (fun b o _ _ hc e n=>u.any e n hc) (fun b o hc e n=>u.free b o e n hc) (fun b o hc e=>u.there b o e hc) u.tups u.MF u.Oq (fun m' hm=>by
  obtain⟨o',es',ep',ho',r'⟩:=hm
  rw[ho] at ho';cases ho'
  exact⟨_,es',ep',hL,r'⟩) hok hg
theorem Inv.turned{t':Nat}{it:Addr}(I:Inv X pins σ H s)(k:∀ b o,b≠it→s.heap.get? b=some o→h'.get? b=some o)(hn:H it=none)(hL:it≠X.env.locals)
  (h1:it∈X.ex∨X.s₀.heap.objs.size≤it) (h2:∀ x c,X.env.cells.lookup x=some c→c≠it) (h3:∀ p∈X.pn++pins,p.1≠it):Inv X pins σ H { s with heap:=h',toks:=t' }:=by
 have nit:∀ b u,H b=some u→b≠it:=fun b u e z=>by rw[z,hn] at e;cases e
 refine I.step (g':=s.gens) (d':=s.drawn) (ch:=[it]) (fun b hb=>?_) (fun b o _ _ hc e _=>k b o (fun z=>hc (by simp[z])) e) (fun b o _ _ hc e _=>⟨o.slots,k b o (fun z=>hc (by simp[z])) e⟩) (fun _ _ _ _ n=>n)
  (fun b o hc e=>⟨o,k b o (fun z=>hc (by simp[z])) e⟩) (fun _ _ e=>e) (fun _ _ _ e=>e) (fun b ps e=>⟨#[],by rw[e];simp⟩) (fun m hm=>?_) (fun b u e=>?_) I.bare
 ·have e:b=it:=by simpa using hb
  subst e
  exact⟨h1,hL,h2,h3⟩
 ·obtain⟨o,es,ep,ho,r⟩:=hm
  exact⟨o,es,ep,k _ o (Ne.symm hL) ho,r⟩
 ·refine(I.hok b u e).stay (fun c v hc q=>k c v ?_ q) (fun _ q=>q) fun _ _ q=>q
  rcases hc with z | z
  ·rw[z];exact nit b u e
  ·exact nit c _ z
theorem Inv.tok(I:Inv X pins σ H s)(t:Nat):Inv X pins σ H { s with toks:=t }:=I.un (h':=s.heap) (t':=t) Un.refl I.hok
theorem Inv.kept{t':Nat}(I:Inv X pins σ H s)(k:∀ b u,s.heap.get? b=some u→h'.get? b=some u):Inv X pins σ H { s with heap:=h',toks:=t' }:=I.un (Un.kept k) (I.hok.kept k)
theorem Inv.laid{a:Addr}{o:HO}{t':Nat}(I:Inv X pins σ H s)(k:∀ b u,s.heap.get? b=some u→h'.get? b=some u)(hp:s.heap.objs.size≤a)(new:Eu X.prog X.w (upd H a o) h' a o) :
  Inv X pins σ (upd H a o) { s with heap:=h',toks:=t' }:=I.un (Un.laid k hp (I.hok.fresh hp)) (I.hok.laid k hp new)
theorem Inv.write{x e:Addr}{o:HO}{t':Nat}(I:Inv X pins σ H s)(mu:Mut (H x))(he:e=x∨H e=some (.own x))(k:∀ b u,b≠e→s.heap.get? b=some u→h'.get? b=some u)(heo:∃ u,h'.get? e=some u)
  (new:Eu X.prog X.w (upd H x o) h' x o):Inv X pins σ (upd H x o) { s with heap:=h',toks:=t' }:=I.un (Un.write mu he k heo) (I.hok.write mu he k heo new)
theorem Inv.GX{AcF:List (Addr × Obj)}(I:Inv X pins σ H s)(h:∀ p∈AcF,s.heap.get? p.1=some p.2∧H p.1=none∧p.1≠X.env.locals∧p.1∉X.fs∧∀ v,p.2.data≠.cell v):Inv X AcF σ H s :=
 ⟨I.ok,I.os,I.bare,I.base,I.loc,I.cell,I.free,I.K7,fun p hp=>(List.mem_append.mp hp).elim (fun z=>I.pin p (Ajz _ z)) (h p),I.hok,I.len⟩
theorem Wi{N:List Str}(hN:N.Nodup){i j:Nat}{x:Str}(a:N[i]?=some x)(b:N[j]?=some x):i=j:=by
 obtain⟨h1,e1⟩:=List.getElem?_eq_some_iff.mp a
 obtain⟨h2,e2⟩:=List.getElem?_eq_some_iff.mp b
 exact(List.getElem_inj hN).mp (e1.trans e2.symm)
theorem TX{M:Model}{A:Around}{E:Value→Shared→Prop}{i:Nat}{x:Str}{v:V}{u:Value}{Q:Unit→Shared→Prop}(I:Inv X pins σ H s)(hN:X.N.Nodup)(hi:X.N[i]?=some x)(hx:Loc X.env.scope x)(r:RelV v u)
  (h:∀ s',Inv X pins (σ.set i (some v)) H s'→(∃ a,Heap.SameBut a s.heap s'.heap∧(a=X.env.locals∨X.env.cells.lookup x=some a))→Q () s') (hf:X.fn x=true∨X.env.scope.names.lookup x=some .local:=by first | exact .inl rfl | exact .inr rfl | assumption):wpAny M A (storeName X.env x u) Q E s:=by
 obtain⟨m,hn,hl⟩:=id I.loc
 have hcls:(X.env.scope.kind == .class || (X.env.scope.kind == .module && X.env.locals != X.env.globals))=false:=by rw[I.ok.kind];rfl
 have hiσ:i<σ.length:=by rw[I.len];exact(List.getElem?_eq_some_iff.mp hi).1
 have cne:=I.cne
 have tracked:∀{a:Addr} {h':Heap},(∃ o,s.heap.get? a=some o∧H a=none)→Heap.SameBut a s.heap h'→HOk X.prog X.w H h':=fun {a h'} ha hs b ob e=>by
  obtain⟨_,_,hfree⟩:=ha
  refine(I.hok b ob e).stay (fun c w' hc q=>(hs.2 c ?_).trans q) (fun _ q=>q) fun _ _ q=>q
  rintro rfl
  rcases hc with rfl | hc
  ·rw[hfree] at e;cases e
  ·rw[hfree] at hc;cases hc
 rcases hx with hk | hk
 ·refine wpAny_storeName_local hk hn (fun h' hn' hs=>?_) hcls
  obtain⟨oL,_,_,hoL,_⟩:=id hn
  refine h _ ⟨I.ok,I.os,I.bare,⟨fun b o e n hb hx=>?_,fun b o e n hb hx=>?_,I.base.free,fun b o e hx=>?_,I.base.tups,I.base.MF,I.base.Oq⟩,⟨_,hn',fun j y v' e1 e2 e3=>?_⟩,fun y c e=>?_,I.free,I.K7,fun p hp=>?_,tracked ⟨oL,hoL,I.free⟩ hs,by simpa using I.len⟩ ⟨_,hs,.inl rfl⟩
  ·exact(hs.2 b (Aig (Aif (Heap.lt_size e) I.ok.above))).trans (I.base.keep b o e n hb hx)
  ·obtain⟨sl,e1⟩:=I.base.slot b o e n hb hx
   exact⟨sl,(hs.2 b (Aig (Aif (Heap.lt_size e) I.ok.above))).trans e1⟩
  ·obtain⟨o',e1⟩:=I.base.there b o e hx
   exact⟨o',(hs.2 b (Aig (Aif (Heap.lt_size e) I.ok.above))).trans e1⟩
  ·by_cases hj:j=i
   ·subst hj
    rw[hi] at e1;cases e1
    rw[Ajd hiσ] at e2
    cases e2
    exact⟨u,r,.inl ⟨hk,by simp⟩⟩
   ·rw[Ajo (Ne.symm hj)] at e2
    obtain⟨u',r',q⟩:=hl j y v' e1 e2 e3
    refine⟨u',r',?_⟩
    rcases q with ⟨k,e⟩ | ⟨k,c,e,z⟩
    ·refine .inl ⟨k,?_⟩
     have:y≠x:=fun e=>hj (Wi hN e1 (e▸hi))
     simp[this,e]
    ·exact .inr ⟨k,c,e,z.sameBut hs (cne y c e)⟩
  ·obtain⟨w',z⟩:=I.cell y c e
   exact⟨w',z.sameBut hs (cne y c e)⟩
  ·obtain⟨e,n,ne,nf,d⟩:=I.pin p hp
   exact⟨(hs.2 p.1 ne).trans e,n,ne,nf,d⟩
 ·have hfn:X.fn x=true:=by
   rcases hf with z | z
   ·exact z
   ·rw[z] at hk;cases hk
  obtain⟨c,hc⟩:=I.ok.has x (.inl hk)
  obtain⟨w',z⟩:=I.cell x c hc
  refine wpAny_storeName_cell I.ok.kind hk hc z (fun h' hc' hs=>?_)
  obtain⟨oc,hoc,AfN⟩:=id z
  refine h { s with heap:=h' } ⟨I.ok,I.os,I.bare,⟨fun b o e n hb hx=>?_,fun b o e n hb hx=>?_,I.base.free,fun b o e hx=>?_,I.base.tups,I.base.MF,I.base.Oq⟩,⟨m,hn.sameBut hs (Ne.symm (cne x c hc)),fun j y v' e1 e2 e3=>?_⟩,fun y c' e=>?_,I.free,I.K7,fun p hp=>?_,tracked ⟨oc,hoc,I.K7 x c hc⟩ hs,by simpa using I.len⟩ ⟨c,hs,.inr hc⟩
  ·exact(hs.2 b (Aig (Aif (Heap.lt_size e) (I.ok.cab x c hfn hc)))).trans (I.base.keep b o e n hb hx)
  ·obtain⟨sl,e1⟩:=I.base.slot b o e n hb hx
   exact⟨sl,(hs.2 b (Aig (Aif (Heap.lt_size e) (I.ok.cab x c hfn hc)))).trans e1⟩
  ·obtain⟨o',e1⟩:=I.base.there b o e hx
   exact⟨o',(hs.2 b (Aig (Aif (Heap.lt_size e) (I.ok.cab x c hfn hc)))).trans e1⟩
  ·by_cases hj:j=i
   ·subst hj
    rw[hi] at e1;cases e1
    rw[Ajd hiσ] at e2
    cases e2
    exact⟨u,r,.inr ⟨.inl hk,c,hc,hc'⟩⟩
   ·rw[Ajo (Ne.symm hj)] at e2
    obtain⟨u',r',q⟩:=hl j y v' e1 e2 e3
    refine⟨u',r',?_⟩
    rcases q with q | ⟨k,c',e,z'⟩
    ·exact .inl q
    ·refine .inr ⟨k,c',e,z'.sameBut hs ?_⟩
     rintro rfl
     exact hj (Wi hN e1 (I.ok.inj _ _ _ e hc▸hi))
  ·by_cases hcc:c'=c
   ·subst hcc;exact⟨_,hc'⟩
   ·obtain⟨w2,z2⟩:=I.cell y c' e
    exact⟨w2,z2.sameBut hs hcc⟩
  ·obtain⟨e,n,ne,nf,d⟩:=I.pin p hp
   refine⟨(hs.2 p.1 ?_).trans e,n,ne,nf,d⟩
   intro q
   rw[q,hoc] at e
   have q':oc=p.2:=Option.some.inj e
   exact d w' (by rw[← q'];exact AfN)
theorem Wj{M:Model}{A:Around}{E:Value→Shared→Prop}{i:Nat}{x:Str}{v:V}{u:Value}{Q:Unit→Shared→Prop}(I:Inv X pins σ H s)(hN:X.N.Nodup)(hi:X.N[i]?=some x)(hx:Loc X.env.scope x)(r:RelV v u)
  (h:∀ s',Inv X pins (σ.set i (some v)) H s'→Q () s') (hf:X.fn x=true∨X.env.scope.names.lookup x=some .local:=by first | exact .inl rfl | exact .inr rfl | assumption):wpAny M A (storeName X.env x u) Q E s :=
 TX I hN hi hx r (fun s' I' _=>h s' I') hf
theorem Inv.call'{s':Shared}{ch:List Addr}(I:Inv X pins σ H s)(ho:s'.os=s.os)(u:Un (frs X.stack) ch H H' s.heap s'.heap)(hok:HOk X.prog X.w H' s'.heap)(hg:AllBare s'.gens)
  (hch:∀ b∈ch,(b∈X.ex∨X.s₀.heap.objs.size≤b)∧b≠X.env.locals∧(∀ x c,X.env.cells.lookup x=some c→c≠b)∧∀ p∈X.pn++pins,p.1≠b):Inv X pins σ H' s':=by
 obtain⟨h',g',d',t',o'⟩:=s'
 have e:o'=s.os:=ho
 subst e
 exact I.call (g':=g') (t':=t') (d':=d') u hok hg hch
end
abbrev XK:=Value→Option Addr→Hp→Prop
abbrev St:=List (Option V)
abbrev VK:=V→Hp→Prop
abbrev TE:=St→Hp→VK→Prop
abbrev TT:=St→Hp→(Bool→Hp→Prop)→Prop
abbrev TA:=St→Hp→(List V→Hp→Prop)→Prop
structure Ends where
 nx:St→Hp→Prop
 rt:VK
 bk:St→Hp→Prop:=fun _ _=>False
 ct:St→Hp→Prop:=fun _ _=>False
abbrev TS:=Ends→St→Hp→Prop
def EP (X:Cx)(pins:List (Addr × Obj))(σ:St)(Q:VK)(u:Value)(s':Shared):Prop:=∃ v H',Inv X pins σ H' s'∧RelV v u∧Q v H'
def TP (X:Cx)(pins:List (Addr × Obj))(σ:St)(Q:Bool→Hp→Prop)(b:Bool)(s':Shared):Prop:=∃ H',Inv X pins σ H' s'∧Q b H'
def AP (X:Cx)(pins:List (Addr × Obj))(σ:St)(Q:List V→Hp→Prop)(us:List Value)(s':Shared):Prop:=∃ vs H',Inv X pins σ H' s'∧Vals vs us∧Q vs H'
def SP (X:Cx)(pins:List (Addr × Obj))(D:Ends)(f:Flow)(s':Shared):Prop :=
 match f with
 | .next=>∃ σ' H',Inv X pins σ' H' s'∧D.nx σ' H'
 | .brk=>∃ σ' H',Inv X pins σ' H' s'∧D.bk σ' H'
 | .cont=>∃ σ' H',Inv X pins σ' H' s'∧D.ct σ' H'
 | .ret u=>∃ v σ' H',Inv X pins σ' H' s'∧RelV v u∧D.rt v H'
def PE (X:Cx)(e:Expr)(t:TE):Prop :=
 ∀(pins:List (Addr × Obj)) (s:Shared) (σ:St) (H:Hp) (Q:VK),Inv X pins σ H s→t σ H Q→wpAny (model X.prog X.w) X.A (eval e X.env) (EP X pins σ Q) X.xe s
def PT (X:Cx)(e:Expr)(t:TT):Prop :=
 ∀(pins:List (Addr × Obj)) (s:Shared) (σ:St) (H:Hp) (Q:Bool→Hp→Prop),Inv X pins σ H s→t σ H Q→wpAny (model X.prog X.w) X.A (isTrue e X.env (eval e X.env)) (TP X pins σ Q) X.xe s
def PW (X:Cx)(e:Expr)(t:TT):Prop :=
 ∀(whole:Sem Value) (pins:List (Addr × Obj)) (s:Shared) (σ:St) (H:Hp) (Q:Bool→Hp→Prop),Inv X pins σ H s→t σ H Q→wpAny (model X.prog X.w) X.A (isTrue e X.env whole) (TP X pins σ Q) X.xe s
theorem PW.pt{X:Cx}{e:Expr}{t:TT}(h:PW X e t):PT X e t:=h _
def PA (X:Cx)(es:List Expr)(t:TA):Prop :=
 ∀(pos:Pos) (pins:List (Addr × Obj)) (s:Shared) (σ:St) (H:Hp) (Q:List V→Hp→Prop),Inv X pins σ H s→t σ H Q→wpAny (model X.prog X.w) X.A (spliced (backTo pos (starEach es X.env))) (AP X pins σ Q) X.xe s
def PS (X:Cx)(st:Stmt)(t:TS):Prop :=
 ∀(pins:List (Addr × Obj)) (s:Shared) (σ:St) (H:Hp) (D:Ends),Inv X pins σ H s→t D σ H→wpAny (model X.prog X.w) X.A (exec st X.env) (SP X pins D) X.xe s
def PSs (X:Cx)(st:List Stmt)(t:TS):Prop :=
 ∀(pins:List (Addr × Obj)) (s:Shared) (σ:St) (H:Hp) (D:Ends),Inv X pins σ H s→t D σ H→wpAny (model X.prog X.w) X.A (execs st X.env) (SP X pins D) X.xe s
theorem thn{α:Type}{t:Sem α}{Q Q':α→Shared→Prop}{M:Model}{A:Around}{E:Value→Shared→Prop}{s:Shared}(h:wpAny M A t Q E s)(hQ:∀ a s,Q a s→Q' a s):wpAny M A t Q' E s:=wpAny_mono h hQ fun _ _ x=>x
open PySem PySem.Spec PyProof.Rows
section
variable {X:Cx}
def Aer (i:Nat):TE:=fun σ H Q=>∃ v,σ[i]?=some (some v)∧Q v H
def tC (v:V):TE:=fun _ H Q=>Q v H
theorem Yb{i:Nat}{x:Str}{pos:Pos}(hN:X.N[i]?=some x)(hv:Vis X.env.scope x)(hd:(x == ("__debug__" : Str))=false:=by decide) (hcd:(x == ("__classdict__" : Str))=false:=by decide):PE X (.Name x pos) (Aer i):=by
 intro pins s σ H Q I h
 obtain⟨v,e,h⟩:=h
 obtain⟨m,hn,hl⟩:=I.loc
 obtain⟨u,r,l⟩:=hl i x v hN e hv
 have fin:EP X pins σ Q u s:=⟨v,H,I,r,h⟩
 rcases l with ⟨hk,hm⟩ | ⟨hk,c,hc,hcell⟩
 ·exact wpAny_Name (wpAny_loadName_local I.ok.kind hk hn hm fin) hd
 ·rcases hk with hk | hk
  ·exact wpAny_Name (wpAny_loadName_cell I.ok.kind hk hc hcell fin) hd
  ·exact wpAny_Name (wpAny_loadName_free I.ok.kind hk hc hcell fin hcd) hd
theorem Af{i j pos}:PE X (.Constant (.int i) j pos) (tC (.int i)):=fun _ _ _ H _ I h=>wpAny_Constant_int ⟨.int i,H,I.tok _,⟨_,rfl⟩,h⟩
theorem Fe{b j pos}:PE X (.Constant (.bool b) j pos) (tC (.bl b)):=fun _ _ _ H _ I h=>Constant_bool ⟨.bl b,H,I,rfl,h⟩
theorem FW{x j pos}:PE X (.Constant (.str x) j pos) (tC (.str x)):=fun _ _ _ H _ I h=>Calls.Constant_str ⟨.str x,H,I.tok _,⟨_,rfl⟩,h⟩
def Gl (X:Cx)(x:Str):Prop:=X.env.kindOf x=some .globalImplicit
theorem YW{E:Value→Shared→Prop}{pins:List (Addr × Obj)}{s:Shared}{σ:St}{H:Hp}{x:Str}{u:Value}{pos:Pos}{Q:Value→Shared→Prop}(I:Inv X pins σ H s)(hg:Gl X x)(hm:X.mg x=some u)(h:Q u s)
  (hd:(x == ("__debug__" : Str))=false:=by decide):wpAny (model X.prog X.w) X.A (eval (.Name x pos) X.env) Q E s :=
 Calls.Name_function_global I.ok.kind hg (Calls.loadGlobal_global (by rw[I.ok.glob];exact I.mod.glob.keeps I.bk) hm h) hd
theorem KC{E:Value→Shared→Prop}{pins:List (Addr × Obj)}{s:Shared}{σ:St}{H:Hp}{x:Str}{u:Value}{pos:Pos}{Q:Value→Shared→Prop}(I:Inv X pins σ H s)(hg:Gl X x)(hm:X.mg x=none)(hv:bootBuiltins x=some u)(h:Q u s)
  (hn:x ≠ "__name__" := by decide) (hd:(x == ("__debug__" : Str))=false:=by decide):wpAny (model X.prog X.w) X.A (eval (.Name x pos) X.env) Q E s:=by
 obtain⟨mb,h1,h2⟩:=I.mod.blt
 exact Calls.Name_function_global I.ok.kind hg (Calls.loadGlobal_builtin (by rw[I.ok.glob];exact I.mod.glob.keeps I.bk) hm (by rw[I.ok.blt];exact h1.keeps I.bk) ((h2 x hn).trans hv) h) hd
theorem YX{x:Str}{v:V}{u:Value}{pos:Pos}(hg:Gl X x)(hm:X.mg x=some u)(r:RelV v u)(hd:(x == ("__debug__" : Str))=false:=by decide):PE X (.Name x pos) (tC v) :=
 fun _ _ _ H _ I h=>YW I hg hm ⟨v,H,I,r,h⟩ hd
theorem JC{x:Str}{v:V}{u:Value}{pos:Pos}(hg:Gl X x)(hm:X.mg x=none)(hv:bootBuiltins x=some u)(r:RelV v u)(hn:x ≠ "__name__" := by decide) (hd:(x == ("__debug__" : Str))=false:=by decide):PE X (.Name x pos) (tC v) :=
 fun _ _ _ H _ I h=>KC I hg hm hv ⟨v,H,I,r,h⟩ hn hd
def t2I (ta tb:TE)(k:Int→Int→Hp→Prop):St→Hp→Prop:=fun σ H=>ta σ H fun x H1=>tb σ H1 fun y H2=>∃ i j,x=.int i∧y=.int j∧k i j H2
def Ahn (ta tb:TE):TE:=fun σ H Q=>t2I ta tb (fun i j H2=>Q (.int (i+j)) H2) σ H
def Aho (ta tb:TE):TE:=fun σ H Q=>t2I ta tb (fun i j H2=>Q (.int (i-j)) H2) σ H
def Ahp (ta tb:TE):TE:=fun σ H Q=>t2I ta tb (fun i j H2=>(-(2 ^ 64)<i∧i<2 ^ 64)∧Q (.int (i*j)) H2) σ H
variable {a b:Expr}{ta tb:TE}{pos:Pos}
def PC (X:Cx)(op:CmpOp)(a b:Expr)(t:TE):Prop :=
 ∀(pins:List (Addr × Obj)) (s:Shared) (σ:St) (H:Hp) (Q:VK),Inv X pins σ H s→t σ H Q →
  wpAny (model X.prog X.w) X.A (eval a X.env) (fun v s₁=>wpAny (model X.prog X.w) X.A (eval b X.env) (fun u s₂=>wpAny (model X.prog X.w) X.A (compareOp op v u) (EP X pins σ Q) X.xe s₂) X.xe s₁) X.xe s
def ZL (p:Int→Int→Bool)(ta tb:TE):TE:=fun σ H Q=>t2I ta tb (fun i j H2=>Q (.bl (p i j)) H2) σ H
abbrev tLt:TE→TE→TE:=ZL fun i j=>decide (i<j)
abbrev tLe:TE→TE→TE:=ZL fun i j=>decide (i≤j)
abbrev tGt:TE→TE→TE:=ZL fun i j=>decide (j<i)
abbrev tGe:TE→TE→TE:=ZL fun i j=>decide (j≤i)
abbrev Ahq:TE→TE→TE:=ZL fun i j=>decide (i=j)
abbrev Ahr:TE→TE→TE:=ZL fun i j=>!decide (i=j)
def Ahs (ta:TE):TE:=fun σ H Q=>ta σ H fun x H1=>Q (.bl (decide (x=.non))) H1
def AgQ (ta:TE):TE:=fun σ H Q=>ta σ H fun x H1=>Q (.bl (!decide (x=.non))) H1
def tB (t:TE):TT:=fun σ H Q=>t σ H fun x H1=>∃ c,x=.bl c∧Q c H1
theorem Fj{e:Expr}{t:TE}(h:PE X e t)(he:∀ whole,isTrue e X.env whole=(do let v ← whole;standAt e.pos;holding [v] (truthy v)):=by intro _;rfl):PT X e (tB t):=by
 intro pins s σ H Q I hw
 refine isTrue_plain (thn (h pins s σ H _ I hw) fun v s1 ⟨x,H1,I1,r1,q1⟩=>?_) (he _)
 obtain⟨d,rfl,q⟩:=q1
 cases r1
 exact wpAny_truthy_bool ⟨H1,I1,q⟩
variable {tA tB':TT}{rest:List Expr}
def AfO (t u:TT):TT:=fun σ H Q=>t σ H fun c H1=>if c=true then u σ H1 Q else Q false H1
def tOr (t u:TT):TT:=fun σ H Q=>t σ H fun c H1=>if c=true then Q true H1 else u σ H1 Q
def AfP (t:TT):TT:=fun σ H Q=>t σ H fun c H1=>Q (!c) H1
theorem pw_and1(ha:PT X a tA):PW X (.BoolOp .And [a] pos) tA:=by
 intro wh pins s σ H Q I h
 refine isTrue_and (thn (ha pins s σ H Q I h) fun c s1 e=>?_)
 cases c with
 | true=>exact isTrue_and_nil e
 | false=>exact e
theorem pw_or1(ha:PT X a tA):PW X (.BoolOp .Or [a] pos) tA:=by
 intro wh pins s σ H Q I h
 refine isTrue_or (thn (ha pins s σ H Q I h) fun c s1 e=>?_)
 cases c with
 | false=>exact isTrue_or_nil e
 | true=>exact e
theorem pw_and(ha:PT X a tA)(hb:PW X (.BoolOp .And (b::rest) pos) tB'):PW X (.BoolOp .And (a::b::rest) pos) (AfO tA tB'):=by
 intro wh pins s σ H Q I h
 refine isTrue_and (thn (ha pins s σ H _ I h) fun c s1 ⟨H1,I1,q1⟩=>?_)
 cases c with
 | true=>exact hb wh pins s1 σ H1 Q I1 q1
 | false=>exact⟨H1,I1,q1⟩
theorem pw_or(ha:PT X a tA)(hb:PW X (.BoolOp .Or (b::rest) pos) tB'):PW X (.BoolOp .Or (a::b::rest) pos) (tOr tA tB'):=by
 intro wh pins s σ H Q I h
 refine isTrue_or (thn (ha pins s σ H _ I h) fun c s1 ⟨H1,I1,q1⟩=>?_)
 cases c with
 | true=>exact⟨H1,I1,q1⟩
 | false=>exact hb wh pins s1 σ H1 Q I1 q1
theorem FZ(ha:PT X a tA):PT X (.UnaryOp .Not a pos) (AfP tA):=by
 intro pins s σ H Q I h
 exact isTrue_not (ha pins s σ H (fun c H1=>Q (!c) H1) I h)
def Aes (ta tb:TE):TE:=fun σ H Q=>ta σ H fun x H1=>∃ c,x=.bl c∧if c=true then tb σ H1 Q else Q (.bl false) H1
def Aht (ta tb:TE):TE:=fun σ H Q=>ta σ H fun x H1=>∃ c,x=.bl c∧if c=true then Q (.bl true) H1 else tb σ H1 Q
def AgR (ta:TE):TE:=fun σ H Q=>ta σ H fun x H1=>∃ c,x=.bl c∧Q (.bl (!c)) H1
theorem Aa1{op}{t:TE}(h:PE X a t):PE X (.BoolOp op [a] pos) t:=fun pins s σ H Q I hw=>BoolOp_one (h pins s σ H Q I hw)
theorem Aa2(ha:PE X a ta)(hb:PE X (.BoolOp .And (b::rest) pos) tb):PE X (.BoolOp .And (a::b::rest) pos) (Aes ta tb):=by
 intro pins s σ H Q I h
 refine BoolOp_and (thn (ha pins s σ H _ I h) fun v s1 ⟨x,H1,I1,r1,q1⟩=>?_)
 obtain⟨c,rfl,q1⟩:=q1
 cases r1
 refine wpAny_truthy_bool ?_
 cases c with
 | true=>exact hb pins s1 σ H1 Q I1 q1
 | false=>exact⟨.bl false,H1,I1,rfl,q1⟩
def tIf (t:TT)(ta tb:TE):TE:=fun σ H Q=>t σ H fun c H1=>if c=true then ta σ H1 Q else tb σ H1 Q
end
open PySem PySem.Spec PyProof.Rows
def SqL (K:PySem.W.Frag)(H:Hp)(a:Addr)(xs:List V):Prop :=
 Rd H a (.lst xs) ∨
  ∃(o:Obj) (its:Array Value) (n:Nat),K.lookup a=some o∧o.cls=.type "list" ∧ o.dict=none∧o.data=.seq its n∧its.size≤sizeLine∧Vals xs its.toList
def SqT (K:PySem.W.Frag)(H:Hp)(a:Addr)(xs:List V):Prop :=
 Rd H a (.tup xs) ∨
  ∃(o:Obj) (its:Array Value) (n:Nat),K.lookup a=some o∧o.cls=.type "tuple" ∧ o.data=.seq its n∧its.size≤sizeLine∧Vals xs its.toList
def AfQ:Value→Option V
 | .none=>some .non
 | .bool b=>some (.bl b)
 | .int i _=>some (.int i)
 | .str x _=>some (.str x)
 | .bytes b _=>some (.byt b)
 | .float b _=>some (.flt b)
 | .ref a=>some (.ref a)
 | .type n=>some (.ty n)
 | _=>none
theorem RelV.abs{x:V}{u:Value}(r:RelV x u):AfQ u=some x:=by
 cases x with
 | non=>cases r;rfl
 | bl _=>cases r;rfl
 | int _=>obtain⟨t,rfl⟩:=r;rfl
 | str _=>obtain⟨t,rfl⟩:=r;rfl
 | byt _=>obtain⟨t,rfl⟩:=r;rfl
 | flt _=>obtain⟨t,rfl⟩:=r;rfl
 | ref _=>cases r;rfl
 | ty _=>cases r;rfl
theorem RelV.inj{x y:V}{u:Value}(r:RelV x u)(q:RelV y u):x=y:=Option.some.inj (r.abs.symm.trans q.abs)
theorem Vals.inj:∀{xs ys:List V} {us:List Value},Vals xs us→Vals ys us→xs=ys
 | _,_,_,.nil,.nil=>rfl
 | _,_,_,.cons r t,.cons r' t'=>by rw[r.inj r',Vals.inj t t']
section
variable {X:Cx}{pins:List (Addr × Obj)}{σ:St}{H:Hp}{s:Shared}{a:Addr}{xs ys:List V}
theorem SqL.of{K:PySem.W.Frag}(h:H a=some (.lst xs)):SqL K H a xs:=.inl (.inl h)
theorem SqT.of{K:PySem.W.Frag}(h:H a=some (.tup xs)):SqT K H a xs:=.inl (.inl h)
theorem Inv.list(I:Inv X pins σ H s)(h:SqL X.K H a xs):∃ its:List Value,Vals xs its∧PlainL s.heap a its.toArray∧xs.length≤sizeLine:=by
 rcases h with h | ⟨o,its,n,hk,hc,hd,hs,hz,r⟩
 ·obtain⟨z,its,n,r,e⟩:=h.ok I.hok
  exact⟨its,r,⟨_,n,e,rfl,rfl,rfl⟩,z⟩
 ·refine⟨its.toList,r,⟨o,n,I.kIn a o hk,hc,hd,by simpa using hs⟩,?_⟩
  have e:=r.length
  simp only [Array.length_toList] at e
  omega
theorem Inv.tuple(I:Inv X pins σ H s)(h:SqT X.K H a xs):∃ its:List Value,Vals xs its∧IsTup s.heap a its.toArray∧xs.length≤sizeLine:=by
 rcases h with h | ⟨o,its,n,hk,hc,hs,hz,r⟩
 ·obtain⟨z,its,r,p⟩:=h.ok I.hok
  exact⟨its,r,p,z⟩
 ·refine⟨its.toList,r,⟨o,I.kIn a o hk,hc,n,by simpa using hs⟩,?_⟩
  have e:=r.length
  simp only [Array.length_toList] at e
  omega
theorem Inv.Hl(I:Inv X pins σ H s)(h:SqL X.K H a xs)(h':SqL X.K H a ys):xs=ys:=by
 obtain⟨its,r,⟨o,n,e,_,_,d⟩,_⟩:=I.list h
 obtain⟨its',r',⟨o',n',e',_,_,d'⟩,_⟩:=I.list h'
 rw[e] at e';cases e'
 rw[d] at d'
 injection d' with d1 _
 have:its=its':=by simpa using congrArg Array.toList d1
 subst this
 exact r.inj r'
theorem Inv.Qx(I:Inv X pins σ H s)(h:SqT X.K H a xs)(h':SqT X.K H a ys):xs=ys:=by
 obtain⟨its,r,⟨o,e,_,n,d⟩,_⟩:=I.tuple h
 obtain⟨its',r',⟨o',e',_,n',d'⟩,_⟩:=I.tuple h'
 rw[e] at e';cases e'
 rw[d] at d'
 injection d' with d1 _
 have:its=its':=by simpa using congrArg Array.toList d1
 subst this
 exact r.inj r'
end
abbrev Cx.wish (X:Cx) (E:Value→Shared→Prop):Cx:={ X with xe:=E }
abbrev Cx.nox (X:Cx):Cx:=X.wish fun _ _=>False
theorem Cx.Ok.wish{X:Cx}(ok:X.Ok)(E:Value→Shared→Prop):(X.wish E).Ok :=
 ⟨ok.mod,ok.kind,ok.glob,ok.blt,ok.above,ok.inj,ok.has,ok.cab,ok.hd,ok.frames,ok.stk,ok.exf,ok.bs,ok.bsz,ok.ZJ,ok.ZK,ok.Rv,ok.frf⟩
theorem Cx.Ok.KD{X:Cx}{E:Value→Shared→Prop}(ok:(X.wish E).Ok):X.Ok :=
 ⟨ok.mod,ok.kind,ok.glob,ok.blt,ok.above,ok.inj,ok.has,ok.cab,ok.hd,ok.frames,ok.stk,ok.exf,ok.bs,ok.bsz,ok.ZJ,ok.ZK,ok.Rv,ok.frf⟩
section
variable {X:Cx}{pins:List (Addr × Obj)}{σ:St}{H:Hp}{s:Shared}{E:Value→Shared→Prop}
theorem Inv.wish(I:Inv X pins σ H s)(E:Value→Shared→Prop):Inv (X.wish E) pins σ H s:=⟨I.ok.wish E,I.os,I.bare,I.base,I.loc,I.cell,I.free,I.K7,I.pin,I.hok,I.len⟩
theorem Inv.KD(I:Inv (X.wish E) pins σ H s):Inv X pins σ H s:=⟨I.ok.KD,I.os,I.bare,I.base,I.loc,I.cell,I.free,I.K7,I.pin,I.hok,I.len⟩
theorem SP.KD{D:Ends}{f:Flow}{s':Shared}(h:SP (X.wish E) pins D f s'):SP X pins D f s':=by
 cases f with
 | next=>obtain⟨σ',H',I,q⟩:=h;exact⟨σ',H',I.KD,q⟩
 | brk=>obtain⟨σ',H',I,q⟩:=h;exact⟨σ',H',I.KD,q⟩
 | cont=>obtain⟨σ',H',I,q⟩:=h;exact⟨σ',H',I.KD,q⟩
 | ret u=>obtain⟨v,σ',H',I,r,q⟩:=h;exact⟨v,σ',H',I.KD,r,q⟩
theorem PSs.nox{st:List Stmt}{t:TS}(h:PSs X.nox st t):PSs X st t:=fun pins s σ H D I hw =>
 wpAny_mono (h pins s σ H D (I.wish _) hw) (fun _ _ q=>q.KD) fun _ _ z=>False.elim z
end
section
variable {X:Cx}{st:Stmt}{rest:List Stmt}{t u:TS}{e:Expr}{te:TE}{pos:Pos}
def Aet:TS:=fun D σ H=>D.nx σ H
def Aeu (t u:TS):TS:=fun D σ H=>t { D with nx:=u D } σ H
theorem Bj:PSs X [] Aet:=fun _ _ σ H _ I h=>wpAny_execs_nil ⟨σ,H,I,h⟩
theorem Ab(h1:PS X st t)(h2:PSs X rest u):PSs X (st::rest) (Aeu t u):=by
 intro pins s σ H D I h
 refine wpAny_execs_cons (thn (h1 pins s σ H { D with nx:=u D } I h) fun f s1 q=>?_)
 cases f with
 | next =>
  obtain⟨σ',H',I',q⟩:=q
  exact h2 pins s1 σ' H' D I' q
 | ret v=>exact q
 | brk=>exact q
 | cont=>exact q
theorem Ag(h1:PS X st t):PSs X [st] t:=by
 intro pins s σ H D I h
 refine wpAny_execs_cons (thn (h1 pins s σ H D I h) fun f s1 q=>?_)
 cases f with
 | next=>exact wpAny_execs_nil q
 | ret v=>exact q
 | brk=>exact q
 | cont=>exact q
def AfR:TS:=fun D σ H=>D.bk σ H
def AgS:TS:=fun D σ H=>D.ct σ H
theorem Inv.quiet{pins:List (Addr × Obj)}{σ:St}{H:Hp}{s:Shared}(I:Inv X pins σ H s):interactive X.env=false:=by simp[interactive,I.ok.kind]
def Aev (te:TE):TS:=fun D σ H=>te σ H fun _ H1=>D.nx σ H1
theorem GZ(he:PE X e te)(hs:swapsWith e none pos.line X.env=pure false:=by rfl):PS X (.Expr e pos) (Aev te):=by
 intro pins s σ H D I h
 exact wpAny_Expr_any (thn (he pins s σ H _ I h) fun v s1 ⟨x,H1,I1,r1,q1⟩=>⟨σ,H1,I1,q1⟩) I.quiet hs
def AfS (te:TE):TS:=fun D σ H=>te σ H D.rt
theorem Bg(he:PE X e te):PS X (.Return (some e) pos) (AfS te):=by
 intro pins s σ H D I h
 exact wpAny_Return_some (thn (he pins s σ H _ I h) fun v s1 ⟨x,H1,I1,r1,q1⟩=>⟨x,σ,H1,I1,r1,q1⟩)
def AgT:TS:=fun D _ H=>D.rt .non H
def AfT (c:TT)(t u:TS):TS:=fun D σ H=>c σ H fun b H1=>if b=true then t D σ H1 else u D σ H1
theorem Dp{c:Expr}{a b:List Stmt}{tc:TT}(hc:PT X c tc)(ha:PSs X a t)(hb:PSs X b u):PS X (.If c a b pos) (AfT tc t u):=by
 intro pins s σ H D I h
 refine wpAny_If (thn (hc pins s σ H _ I h) fun d s1 ⟨H1,I1,q1⟩=>?_)
 cases d with
 | true=>exact ha pins s1 σ H1 D I1 q1
 | false=>exact hb pins s1 σ H1 D I1 q1
def Adg:TS:=fun _ _ _=>False
theorem Ot:PS X st Adg:=fun _ _ _ _ _ _ h=>h.elim
end
abbrev TG:=V→St→Hp→(St→Hp→Prop)→Prop
abbrev TGs:=List V→St→Hp→(St→Hp→Prop)→Prop
def PG (X:Cx)(target:Expr)(t:TG):Prop :=
 ∀(pins:List (Addr × Obj)) (s:Shared) (σ:St) (H:Hp) (v:V) (u:Value) (Q:St→Hp→Prop),Inv X pins σ H s→RelV v u→t v σ H Q →
  wpAny (model X.prog X.w) X.A (assign target X.env u) (fun _ s'=>∃ σ' H',Inv X pins σ' H' s'∧Q σ' H') X.xe s
def PGs (X:Cx)(ts:List Expr)(t:TGs):Prop :=
 ∀(pins:List (Addr × Obj)) (s:Shared) (σ:St) (H:Hp) (vs:List V) (us:List Value) (Q:St→Hp→Prop),Inv X pins σ H s→Vals vs us→t vs σ H Q →
  wpAny (model X.prog X.w) X.A (assignInOrder ((assignEach ts X.env).map (·.2)) us) (fun _ s'=>∃ σ' H',Inv X pins σ' H' s'∧Q σ' H') X.xe s
abbrev AbP:=V→V→V→Hp→(Hp→Prop)→Prop
def Aew (X:Cx)(t:AbP):Prop :=
 ∀(pins:List (Addr × Obj)) (s:Shared) (σ:St) (H:Hp) (o i v:V) (ov iv u:Value) (Q:Hp→Prop),Inv X pins σ H s→RelV o ov→RelV i iv→RelV v u→t o i v H Q →
  wpAny (model X.prog X.w) X.A (setItem ov iv u) (fun _ s'=>∃ H',Inv X pins σ H' s'∧Q H') X.xe s
abbrev TIp:=V→V→Hp→VK→Prop
def PIp (X:Cx)(op:Operator)(t:TIp):Prop :=
 ∀(pins:List (Addr × Obj)) (s:Shared) (σ:St) (H:Hp) (x y:V) (v u:Value) (Q:VK),Inv X pins σ H s→RelV x v→RelV y u→t x y H Q →
  wpAny (model X.prog X.w) X.A (inplaceOp op v u) (EP X pins σ Q) X.xe s
section
variable {X:Cx}{pos:Pos}
def Wl (i:Nat):TG:=fun v σ H Q=>Q (σ.set i (some v)) H
theorem Bp{i:Nat}{x:Str}(hN:X.N.Nodup)(hi:X.N[i]?=some x)(hx:Loc X.env.scope x)(hf:X.fn x=true∨X.env.scope.names.lookup x=some .local:=by first | exact .inl rfl | exact .inr rfl | assumption):PG X (.Name x pos) (Wl i):=by
 intro pins s σ H v u Q I r h
 exact wpAny_assign_Name (Wj I hN hi hx r (fun s' I'=>⟨_,H,I',h⟩) hf)
def AfU:TGs:=fun vs σ H Q=>vs=[]∧Q σ H
def Aex (t:TG)(u:TGs):TGs:=fun vs σ H Q=>∃ v r,vs=v::r∧t v σ H fun σ' H'=>u r σ' H' Q
theorem YZ:PGs X [] AfU:=by
 intro pins s σ H vs us Q I r h
 obtain⟨e,h⟩:=h
 subst e
 cases r
 exact assignInOrder_nil ⟨σ,H,I,h⟩
theorem Ou{e:Expr}{es:List Expr}{t:TG}{u:TGs}(h1:PG X e t)(h2:PGs X es u)
  (hs:(assignEach (e::es) X.env).map (·.2)=assign e X.env::(assignEach es X.env).map (·.2):=by rfl):PGs X (e::es) (Aex t u):=by
 intro pins s σ H vs us Q I r h
 obtain⟨v,vr,e1,h⟩:=h
 subst e1
 cases r with
 | cons r rr =>
  rw[hs]
  refine assignInOrder_cons (thn (h1 pins s σ H _ _ _ I r h) fun _ s1 ⟨σ1,H1,I1,q1⟩=>?_)
  exact h2 pins s1 σ1 H1 _ _ Q I1 rr q1
def AfV (K:PySem.W.Frag)(n:Nat)(t:TGs):TG:=fun v σ H Q=>∃ a xs,v=.ref a∧SqT K H a xs∧xs.length=n∧t xs σ H Q
theorem Aa3{es:List Expr}{k:Nat}{t:TGs}{n:Nat}(hc:X.calm=true)(h:PGs X es t)
  (hn:(assignEach es X.env).length=n:=by rfl) (hst:(assignEach es X.env).findIdx? (·.1)=none:=by rfl):PG X (.Tuple es k pos) (AfV X.K n t):=by
 intro pins s σ H v u Q I r hw
 obtain⟨a,xs,e1,hq,hl,hw⟩:=hw
 subst e1
 cases r
 obtain⟨its,rv,ht,hz⟩:=I.tuple hq
 refine assign_Tuple_tuple (I.ok.hd hc) ht (by simp[hn,← hl,rv.length]) hst fun h' hx=>?_
 have I1:Inv X pins σ H { s with heap:=h' }:=I.kept (t':=s.toks) fun b o e=>hx b o (Aig (Heap.lt_size e)) e
 exact h pins _ σ H xs _ Q I1 (by simpa using rv) hw
def AfW (to ti:TE)(t:AbP):TG:=fun v σ H Q=>to σ H fun o H1=>ti σ H1 fun i H2=>t o i v H2 fun H3=>Q σ H3
theorem U5{o i:Expr}{to ti:TE}{t:AbP}(ho:PE X o to)(hi:PE X i ti)(hs:Aew X t)
  (ha:∀ v,assign (.Subscript o i pos) X.env v=(do
   let ov ← holding [v] (eval o X.env)
   let iv ← holding [v,ov] (eval i X.env)
   standAt pos
   holding [v,ov,iv] (setItem ov iv v)
   release [v,ov,iv] []):=by intro _;rfl):PG X (.Subscript o i pos) (AfW to ti t):=by
 intro pins s σ H v u Q I r h
 rw[ha]
 refine wpAny_bind (wpAny_holding (thn (ho pins s σ H _ I h) fun ov s1 ⟨x,H1,I1,r1,q1⟩=>?_))
 refine wpAny_bind (wpAny_holding (thn (hi pins s1 σ H1 _ I1 q1) fun iv s2 ⟨y,H2,I2,r2,q2⟩=>?_))
 refine wpAny_bind (wpAny_standAt (wpAny_bind (wpAny_holding (thn (hs pins s2 σ H2 x y v ov iv u _ I2 r1 r2 r q2) fun _ s3 ⟨H3,I3,q3⟩=>?_))))
 exact wpAny_release ⟨σ,H3,I3,q3⟩
def AbQ (te:TE)(g:TG):TS:=fun D σ H=>te σ H fun x H1=>g x σ H1 D.nx
theorem U6{tg e:Expr}{te:TE}{g:TG}(he:PE X e te)(hg:PG X tg g)(hs:swapsWithSole [tg] e pos.line X.env=pure false:=by rfl)(hw:swappedStores [tg] e X.env=pure none:=by rfl)
  (h1:(assignEach [tg] X.env).map (·.2)=[assign tg X.env]:=by rfl):PS X (.Assign [tg] e pos) (AbQ te g):=by
 intro pins s σ H D I h
 refine wpAny_Assign_stores (thn (he pins s σ H _ I h) fun v s1 ⟨x,H1,I1,r1,q1⟩=>?_) hs hw
 rw[h1]
 exact thn (hg pins s1 σ H1 x v _ I1 r1 q1) fun _ s2 q=>q
theorem Ak{i:Nat}{x:Str}{e:Expr}{te:TE}{pos':Pos}(hN:X.N.Nodup)(hi:X.N[i]?=some x)(hx:Loc X.env.scope x)(he:PE X e te)(hs:swapsWith e (some (.Name x pos')) pos.line X.env=pure false:=by rfl)(hf:X.fn x=true∨X.env.scope.names.lookup x=some .local:=by first | exact .inl rfl | exact .inr rfl | assumption) :
  PS X (.Assign [.Name x pos'] e pos) (AbQ te (Wl i)):=by
 intro pins s σ H D I h
 refine wpAny_Assign_Name (thn (he pins s σ H _ I h) fun v s1 ⟨y,H1,I1,r1,q1⟩=>?_) hs
 exact Wj I1 hN hi hx r1 (fun s2 I2=>⟨_,H1,I2,q1⟩) hf
def Ahu (i j:Nat)(ta:TA):TS:=fun D σ H=>ta σ H fun vs H1=>∃ v w,vs=[v,w]∧D.nx ((σ.set i (some v)).set j (some w)) H1
def Ahv (i:Nat)(te:TE)(ti:TIp):TS:=fun D σ H=>∃ x,σ[i]?=some (some x)∧te σ H fun y H1=>ti x y H1 fun z H2=>D.nx (σ.set i (some z)) H2
def AgU (to ti te:TE)(AfX:V→V→Hp→VK→Prop)(tip:TIp)(AfY:AbP):TS:=fun D σ H=>to σ H fun o H1=>ti σ H1 fun i H2=>AfX o i H2 fun x H3=>te σ H3 fun y H4=>tip x y H4 fun z H5=>AfY o i z H5 fun H6=>D.nx σ H6
def Ahw (X:Cx)(t:V→V→Hp→VK→Prop):Prop :=
 ∀(pins:List (Addr × Obj)) (s:Shared) (σ:St) (H:Hp) (o i:V) (ov iv:Value) (Q:VK),Inv X pins σ H s→RelV o ov→RelV i iv→t o i H Q →
  wpAny (model X.prog X.w) X.A (getItem ov iv) (EP X pins σ Q) X.xe s
def ipI (f:Int→Int→Int):TIp:=fun x y H Q=>∃ i j,x=.int i∧y=.int j∧Q (.int (f i j)) H
end
section
variable {X:Cx}{pos:Pos}
def AfZ (c:TT)(tb:TS):TS:=fun D σ H=>∃ W:Nat→St→Hp→Prop,(∃ m,W m σ H)∧∀ m σ H,W m σ H →
 c σ H fun b H1=>if b=true then ∃ N:St→Hp→Prop,(∀ σ' H',N σ' H'→∃ m',m'<m∧W m' σ' H')∧tb { D with nx:=N,ct:=N,bk:=D.nx } σ H1 else D.nx σ H1
end
structure It where
 go:Nat→Hp→Prop
 yld:Nat→Hp→V→Hp→Prop
 stop:Nat→Hp→Prop
def Nt (X:Cx)(pins:List (Addr × Obj))(H:Hp)(b:Addr):Prop :=
 H b=none∧b≠X.env.locals∧b∉X.fs∧(b∈X.ex∨X.s₀.heap.objs.size≤b)∧(∀ x c,X.env.cells.lookup x=some c→c≠b)∧∀ p∈X.pn++pins,p.1≠b
theorem Inv.Aa4{X:Cx}{pins:List (Addr × Obj)}{σ:St}{H H':Hp}{s:Shared}{b:Addr}(I:Inv X pins σ H s)(hb:s.heap.objs.size≤b)(hn:H' b=none):Nt X pins H' b:=by
 refine⟨hn,Aj0 (Aif I.lt hb),I.Adf hb,.inr (Ais I.sz hb),fun x c e z=>?_,fun p hp z=>?_⟩
 ·obtain⟨v,q⟩:=I.cell x c e
  exact absurd (Aif q.lt (by rw[z];exact hb)) (Ai5 _)
 ·exact absurd (Aif (Heap.lt_size (I.pin p hp).1) (by rw[z];exact hb)) (Ai5 _)
structure Turn (P:Program) (w:World) (K:PySem.W.Frag) (tg:Expr) (J:It) (fp:List Addr) (it:Addr) (tn:Nat→Heap→Prop):Prop where
 mem:it∈fp
 obj:∀ i h,tn i h→∀ b∈fp,∃ o,h.get? b=some o∧∀ v,o.data≠.cell v
 keep:∀ i h h',tn i h→(∀ b∈fp,∀ o,h.get? b=some o→h'.get? b=some o)→tn i h'
 item:∀(X:Cx),X.prog=P→X.w=w→X.K=K→X.calm=true→∀(i:Nat) (pins:List (Addr × Obj)) (s:Shared) (σ:St) (H:Hp) (E:Value→Shared→Prop),Inv X pins σ H s→(∀ b∈fp,Nt X pins H b)→tn i s.heap→J.go i H →
  wpAny (model P w) X.A (pyNext (.ref it)) (fun r s1=>∃ u,r=some u ∧
   wpAny (model P w) X.A (letOwnedTupleGo tg (.ref it) u) (fun _ s2=>∃ x H',Inv X pins σ H' s2∧RelV x u∧J.yld i H x H'∧tn (i+1) s2.heap∧∀ b∈fp,H' b=none) E s1) E s
 done:∀(X:Cx),X.prog=P→X.w=w→X.K=K→X.calm=true→∀(i:Nat) (pins:List (Addr × Obj)) (s:Shared) (σ:St) (H:Hp) (E:Value→Shared→Prop),Inv X pins σ H s→(∀ b∈fp,Nt X pins H b)→tn i s.heap→J.stop i H →
  wpAny (model P w) X.A (pyNext (.ref it)) (fun r s1=>r=none∧Inv X pins σ H s1) E s
 self:∀(A:Around) (i:Nat) (s:Shared) (Q:Value→Shared→Prop) (E:Value→Shared→Prop),tn i s.heap→Q (.ref it) s→wpAny (model P w) A (pyIter (.ref it)) Q E s
abbrev TI:=St→Hp→(It→Hp→Prop)→Prop
def PIE (X:Cx)(pins:List (Addr × Obj))(σ:St)(tg:Expr)(R:It→Hp→Prop)(itv:Value)(s2:Shared):Prop :=
 ∃(it:Addr) (fp:List Addr) (tn:Nat→Heap→Prop) (J:It) (H':Hp),itv=.ref it∧Inv X pins σ H' s2∧Turn X.prog X.w X.K tg J fp it tn∧tn 0 s2.heap∧(∀ b∈fp,Nt X pins H' b)∧R J H'
def PI (X:Cx)(tg iter:Expr)(wi:TI):Prop :=
 ∀(pins:List (Addr × Obj)) (s:Shared) (σ:St) (H:Hp) (R:It→Hp→Prop),Inv X pins σ H s→wi σ H R →
  wpAny (model X.prog X.w) X.A (eval iter X.env) (fun v s1=>wpAny (model X.prog X.w) X.A (pyIter v) (PIE X pins σ tg R) X.xe s1) X.xe s
theorem Za{M:Model}{A:Around}{E:Value→Shared→Prop}{s:Shared}{tg:Expr}{it:Addr}{u:Value}{o:Obj}{n:String}{vs:Array Value}{Q:Unit→Shared→Prop}(ho:s.heap.get? it=some o)(hc:o.cls=.type n)(hd:o.data=.fields vs)
    (hn:["enumerate", "zip", "dict_itemiterator", "dict_reverseitemiterator", "odict_iterator", "itertools.zip_longest", "itertools.pairwise"].contains n=false) (hQ:Q () s):wpAny M A (letOwnedTupleGo tg (.ref it) u) Q E s:=by
  unfold letOwnedTupleGo
  cases tg <;> first
    | exact wpAny_pure hQ
    | (cases u <;> first
        | exact wpAny_pure hQ
        | (refine wpAny_bind (wpAny_load ho ?_)
           rw[hc,hd]
           show wpAny M A (if (["enumerate", "zip", "dict_itemiterator", "dict_reverseitemiterator", "odict_iterator", "itertools.zip_longest", "itertools.pairwise"].contains n && vs[0]? == some (rawInt _))=true then _ else _) Q E s
           rw[if_neg (by intro h;rw[hn,Bool.false_and] at h;cases h)]
           exact wpAny_pure hQ))
def Itl (K:PySem.W.Frag)(a:Addr):It :=
 ⟨fun i H=>∃ xs x,SqL K H a xs∧xs[i]?=some x,fun i H x H'=>H'=H∧∀ xs,SqL K H a xs→xs[i]?=some x,fun i H=>∃ xs,SqL K H a xs∧xs.length≤i⟩
def Itt (K:PySem.W.Frag)(a:Addr):It :=
 ⟨fun i H=>∃ xs x,SqT K H a xs∧xs[i]?=some x,fun i H x H'=>H'=H∧∀ xs,SqT K H a xs→xs[i]?=some x,fun i H=>∃ xs,SqT K H a xs∧xs.length≤i⟩
def Itr (lo:Int)(n:Nat):It:=⟨fun i _=>i<n,fun i H x H'=>H'=H∧x=.int (lo+i),fun i _=>n≤i⟩
theorem ZM{P:Program}{w:World}{K:PySem.W.Frag}{tg:Expr}(a it:Addr):Turn P w K tg (Itl K a) [it] it (fun i h=>h.IsListIter it a i) where
 mem:=by simp
 obj:=fun i h st b hb=>by
  have e:b=it:=by simpa using hb
  subst e
  obtain⟨o,e,c,d⟩:=st
  exact⟨o,e,fun v z=>by rw[d] at z;cases z⟩
 keep:=fun i h h' st k=>st.at fun o e=>k it (by simp) o e
 item:=by
  intro X hP hw hK hc i pins s σ H E I hf st hg
  subst hP hw hK
  obtain⟨xs,x,hq,hx⟩:=hg
  obtain⟨its,rv,p,hz⟩:=I.list hq
  obtain⟨u,hu,ru⟩:=rv.get hx
  obtain⟨f0,f1,f2,f3,f4,f5⟩:=hf it (by simp)
  refine wpAny_pyNext_list_item st p.isList (x:=u) (by simpa using hu) fun h' st' sb=>?_
  have I1:Inv X pins σ H { s with heap:=h' }:=I.turned (t':=s.toks) (fun b o hb e=>(sb.2 b hb).trans e) f0 f1 f3 f4 f5
  obtain⟨o,e,c,d⟩:=id st'
  exact⟨u,rfl,Za (s:={ s with heap:=h' }) e c d (by decide) ⟨x,H,I1,ru,⟨rfl,fun ys hy=>by rw[I.Hl hy hq];exact hx⟩,st',fun b hb=>(hf b hb).1⟩⟩
 done:=by
  intro X hP hw hK hc i pins s σ H E I hf st hg
  subst hP hw hK
  obtain⟨xs,hq,hx⟩:=hg
  obtain⟨its,rv,p,hz⟩:=I.list hq
  obtain⟨f0,f1,f2,f3,f4,f5⟩:=hf it (by simp)
  have hl:=rv.length
  exact wpAny_pyNext_list_end (I.ok.hd hc) st p.isList (by simp;omega) fun h' eb=>⟨rfl,I.turned (t':=s.toks) (fun b o hb e=>eb b o hb e) f0 f1 f3 f4 f5⟩
 self:=fun _ _ _ _ _ st h=>wpAny_pyIter_listiter st h
theorem Yc{P:Program}{w:World}{K:PySem.W.Frag}{tg:Expr}(it:Addr)(lo:Int)(n:Nat):Turn P w K tg (Itr lo n) [it] it (fun i h=>IsRangeIter h it (lo+(i:Nat)*1) ((n:Int)-(i:Nat)) 1) where
 mem:=by simp
 obj:=fun i h st b hb=>by
  have e:b=it:=by simpa using hb
  subst e
  exact⟨_,st,fun v z=>by
   have z':Data.fields _=Data.cell v:=z
   cases z'⟩
 keep:=fun i h h' st k=>k it (by simp) _ st
 item:=by
  intro X hP hw hK hc i pins s σ H E I hf st hg
  subst hP hw hK
  obtain⟨f0,f1,f2,f3,f4,f5⟩:=hf it (by simp)
  have W:=Walks.range (prog:=X.prog) (w:=X.w) (I.ok.hd hc) it lo 1 n
  refine W.item i s _ _ hg st fun v h' tk hv st' kk=>?_
  obtain⟨t,rfl⟩:=hv
  have I1:Inv X pins σ H { s with heap:=h',toks:=tk }:=I.turned (fun b o hb e=>kk b o (by simpa using hb) e) f0 f1 f3 f4 f5
  refine⟨_,rfl,Za (s:={ s with heap:=h',toks:=tk }) (n := "range_iterator") st' rfl rfl (by decide) ⟨.int (lo+i),H,I1,⟨t,?_⟩,⟨rfl,rfl⟩,st',fun b hb=>(hf b hb).1⟩⟩
  rw[Ajp]
 done:=by
  intro X hP hw hK hc i pins s σ H E I hf st hg
  subst hP hw hK
  obtain⟨f0,f1,f2,f3,f4,f5⟩:=hf it (by simp)
  exact wpAny_pyNext_range_end (I.ok.hd hc) st (by have:n≤i:=hg;omega) fun h' eb=>⟨rfl,I.turned (t':=s.toks) (fun b o hb e=>eb b o hb e) f0 f1 f3 f4 f5⟩
 self:=fun _ _ _ _ _ st h=>wpAny_pyIter_rangeiter st h
open PySem PySem.Spec PyProof.Rows
section
variable {X:Cx}{tg:Expr}
def AcG (K:PySem.W.Frag)(tl:TE):TI:=fun σ H R=>tl σ H fun x H1=>∃ a,x=.ref a∧(∃ xs,SqL K H1 a xs)∧R (Itl K a) H1
def Ahx (K:PySem.W.Frag)(tl:TE):TI:=fun σ H R=>tl σ H fun x H1=>∃ a,x=.ref a∧(∃ xs,SqT K H1 a xs)∧R (Itt K a) H1
theorem AbR{l:Expr}{tl:TE}(hl:PE X l tl):PI X tg l (AcG X.K tl):=by
 intro pins s σ H R I h
 refine thn (hl pins s σ H _ I h) fun v s1 ⟨x,H1,I1,r1,q1⟩=>?_
 obtain⟨a,e,⟨xs,hq⟩,q⟩:=q1
 subst e
 cases r1
 obtain⟨its,rv,p,hz⟩:=I1.list hq
 refine wpAny_pyIter_list p.isList ?_
 refine⟨s1.heap.objs.size,[s1.heap.objs.size],_,_,H1,rfl,I1.kept (t':=s1.toks) fun b o e=>Heap.get?_push_of_some _ e,ZM a _,⟨_,Heap.get?_push_size _ rfl,rfl,rfl⟩,fun b hb=>?_,q⟩
 have e:b=s1.heap.objs.size:=by simpa using hb
 subst e
 exact I1.Aa4 (AhX _) (I1.hok.fresh (AhX _))
theorem Aa5{pins:List (Addr × Obj)}{σ:St}{H:Hp}{s:Shared}{R:It→Hp→Prop}{E:Value→Shared→Prop}{lo hi:Int}{t u v:Tok}{tk:Nat}(I:Inv X pins σ H s)(h1 : -(2 ^ 62)≤lo)(h2:lo<2 ^ 62)(h3 : -(2 ^ 62)≤hi)(h4:hi<2 ^ 62)
  (q:R (Itr lo (hi-lo).toNat) H):wpAny (model X.prog X.w) X.A (pyIter (.ref s.heap.objs.size)) (PIE X pins σ tg R) E { s with heap:=s.heap.push { cls:=.type "range", data:=.fields #[.int lo t,.int hi u,.int 1 v] },toks:=tk }:=by
 refine wpAny_pyIter_range (IsRange.new ..) (small_one h1 h2 h3 h4) ?_
 have I1:Inv X pins σ H { s with heap:=s.heap.push { cls:=.type "range", data:=.fields #[.int lo t,.int hi u,.int 1 v] },toks:=tk }:=I.kept fun b o e=>Heap.get?_push_of_some _ e
 refine⟨(s.heap.push { cls:=.type "range", data:=.fields #[.int lo t,.int hi u,.int 1 v] }).objs.size,[(s.heap.push { cls:=.type "range", data:=.fields #[.int lo t,.int hi u,.int 1 v] }).objs.size],_,_,H,rfl,
  I1.kept (t':=tk) fun b o e=>Heap.get?_push_of_some _ e,Yc _ lo (hi-lo).toNat,?_,fun b hb=>?_,q⟩
 ·have e1:lo+((0:Nat):Int)*1=lo:=by simp
  have e2:(((hi-lo).toNat:Nat):Int)-((0:Nat):Int)=Builtin.Range.rangeSize lo hi 1:=by rw[rangeSize_one];split <;> omega
  show IsRangeIter _ _ (lo+((0:Nat):Int)*1) ((((hi-lo).toNat:Nat):Int)-((0:Nat):Int)) 1
  rw[e1,e2]
  exact Heap.get?_push_size _ rfl
 ·have e:b=(s.heap.push { cls:=.type "range", data:=.fields #[.int lo t,.int hi u,.int 1 v] }).objs.size:=by simpa using hb
  subst e
  exact I1.Aa4 (AhX _) (I1.hok.fresh (AhX _))
def Aey (ta:TA):TI:=fun σ H R=>ta σ H fun vs H1=>∃ j:Int,vs=[.int j] ∧ -(2 ^ 62)≤j∧j<2 ^ 62∧R (Itr 0 j.toNat) H1
def AgV (ta:TA):TI:=fun σ H R=>ta σ H fun vs H1=>∃ i j:Int,vs=[.int i,.int j]∧(-(2 ^ 62)≤i∧i<2 ^ 62 ∧ -(2 ^ 62)≤j∧j<2 ^ 62)∧R (Itr i (j-i).toNat) H1
theorem BP{a:Expr}{ta:TA}{p pos:Pos}(hg:Gl X "range") (hm:X.mg "range" = none) (ha:PA X [a] ta) (hs:starEach [a] X.env=[(false,eval a X.env)]:=by rfl):PI X tg (.Call (.Name "range" p) [a] [] pos) (Aey ta):=by
 intro pins s σ H R I h
 refine Call_ (KC I hg hm boot_range (PyProof.Rows.callWith_type1 (thn (ha pos pins s σ H _ I h) fun us s1 ⟨vs,H1,I1,r1,q1⟩=>?_) hs rfl))
 obtain⟨j,e,q1,q2,q⟩:=q1
 subst e
 cases r1 with
 | cons r rr =>
  cases rr
  obtain⟨t,rfl⟩:=r
  exact call_range_1 (Aa5 I1 (by omega) (by omega) q1 q2 (by simpa using q))
def Aga (wi:TI)(g:TG)(tb:TS):TS:=fun D σ H=>wi σ H fun J H1=>∃ W:Nat→Nat→St→Hp→Prop,(∃ m,W 0 m σ H1)∧∀ i m σ H,W i m σ H →
 (J.stop i H∧D.nx σ H)∨(J.go i H∧∃ N:St→Hp→Prop,(∀ σ' H',N σ' H'→∃ m',m'<m∧W (i+1) m' σ' H')∧∀ x H',J.yld i H x H'→g x σ H' fun σ2 H2=>tb { D with nx:=N,ct:=N,bk:=D.nx } σ2 H2)
def RB (fp:List Addr)(h:Heap):List (Addr × Obj):=fp.filterMap fun b=>(h.get? b).map fun o=>(b,o)
theorem JD{fp:List Addr}{h:Heap}{b:Addr}{o:Obj}(hb:b∈fp)(e:h.get? b=some o):(b,o)∈RB fp h:=List.mem_filterMap.mpr ⟨b,hb,by rw[e];rfl⟩
theorem ZP{fp:List Addr}{h:Heap}{p:Addr × Obj}(hp:p∈RB fp h):p.1∈fp∧h.get? p.1=some p.2:=by
 obtain⟨b,hb,e⟩:=List.mem_filterMap.mp hp
 cases q:h.get? b with
 | none=>rw[q] at e;cases e
 | some o =>
  rw[q] at e
  have e':(b,o)=p:=Option.some.inj e
  subst e'
  exact⟨hb,q⟩
theorem Inv.pinned{pins:List (Addr × Obj)}{σ:St}{H:Hp}{s:Shared}{fp:List Addr}(I:Inv X pins σ H s)(hf:∀ b∈fp,Nt X pins H b)(ho:∀ b∈fp,∃ o,s.heap.get? b=some o∧∀ v,o.data≠.cell v):Inv X (pins++RB fp s.heap) σ H s :=
 I.GX fun p hp=>(List.mem_append.mp hp).elim (fun z=>I.pin p (Ait _ z)) fun z=>by
  obtain⟨hb,e⟩:=ZP z
  obtain⟨f0,f1,f2,_⟩:=hf p.1 hb
  obtain⟨o,e',d⟩:=ho p.1 hb
  rw[e] at e';cases e'
  exact⟨e,f0,f1,f2,d⟩
theorem Inv.RC{pins pl:List (Addr × Obj)}{σ:St}{H:Hp}{s:Shared}(I:Inv X (pins++pl) σ H s):Inv X pins σ H s:=I.GX fun p hp=>I.pin p (Ait _ (Ajz _ hp))
theorem Cw{iter:Expr}{body:List Stmt}{wi:TI}{g:TG}{tb:TS}{pos:Pos}(hp:PassesOwn (model X.prog X.w) X.A X.env X.xe)(hc:X.calm=true)(hi:PI X tg iter wi)(hg:PG X tg g)(hb:PSs X body tb)
  (hs:∀ x,foldedSetIterable iter X.env x=pure x:=by intro _;rfl):PS X (.For tg iter body [] pos) (Aga wi g tb):=by
 intro pins s σ H D I h
 refine wpAny_For (thn (hi pins s σ H _ I h) fun v s1 h1=>thn h1 fun itv s2 h2=>?_) hs
 obtain⟨it,fp,tn,J,H2,e,I2,T,st2,f2,W,⟨m0,w0⟩,turn⟩:=h2
 subst e
 have stat:∀{H':Hp},(∀ b∈fp,H' b=none)→∀ b∈fp,Nt X pins H' b:=fun hn b hb=>⟨hn b hb,(f2 b hb).2⟩
 refine codeAny_forLoop_any (fun n s'=>∃ i σ' H',Inv X pins σ' H' s'∧tn i s'.heap∧(∀ b∈fp,H' b=none)∧W i n σ' H') ?_ m0 ⟨0,σ,H2,I2,st2,fun b hb=>(f2 b hb).1,w0⟩
 rintro n s3 ⟨i,σ3,H3,I3,st3,fr3,w3⟩
 rcases turn i n σ3 H3 w3 with ⟨stop,qn⟩ | ⟨go,N,hN,step⟩
 ·refine wpAny_passesOwn hp (thn (T.done X rfl rfl rfl hc i pins s3 σ3 H3 X.xe I3 (stat fr3) st3 stop) fun r s4 ⟨hr,I4⟩=>?_)
  subst hr
  exact wpAny_execs_nil ⟨σ3,H3,I4,qn⟩
 ·refine wpAny_passesOwn hp (thn (T.item X rfl rfl rfl hc i pins s3 σ3 H3 X.xe I3 (stat fr3) st3 go) fun r s4 ⟨u,hr,h4⟩=>?_)
  subst hr
  refine wpAny_passesOwn hp (thn h4 fun _ s5 ⟨x,H5,I5,r5,y5,st5,fr5⟩=>?_)
  have I5':=I5.pinned (stat fr5) (T.obj _ _ st5)
  refine wpAny_passesOwn hp (thn (hg _ s5 σ3 H5 x u _ I5' r5 (step x H5 y5)) fun _ s6 ⟨σ6,H6,I6,q6⟩=>?_)
  refine wpAny_passesOwn hp (thn (hb _ s6 σ6 H6 _ I6 q6) fun f s7 q7=>?_)
  have again:∀{σ7:St} {H7:Hp},Inv X (pins++RB fp s5.heap) σ7 H7 s7→N σ7 H7→∃ m,m<n∧∃ i σ' H',Inv X pins σ' H' s7∧tn i s7.heap∧(∀ b∈fp,H' b=none)∧W i m σ' H':=fun {σ7 H7} I7 n7=>by
   obtain⟨m',hm,w7⟩:=hN σ7 H7 n7
   refine⟨m',hm,i+1,σ7,H7,I7.RC,T.keep _ _ _ st5 fun b hb o e=>(I7.pin (b,o) (Ait _ (Ait _ (JD hb e)))).1,fun b hb=>?_,w7⟩
   obtain⟨o,e,d⟩:=T.obj _ _ st5 b hb
   exact(I7.pin (b,o) (Ait _ (Ait _ (JD hb e)))).2.1
  cases f with
  | next=>obtain⟨σ7,H7,I7,n7⟩:=q7;exact again I7 n7
  | cont=>obtain⟨σ7,H7,I7,n7⟩:=q7;exact again I7 n7
  | brk=>obtain⟨σ7,H7,I7,q7⟩:=q7;exact⟨σ7,H7,I7.RC,q7⟩
  | ret v=>obtain⟨x7,σ7,H7,I7,r7,q7⟩:=q7;exact⟨x7,σ7,H7,I7.RC,r7,q7⟩
end
theorem KH{K:PySem.W.Frag}{a:Addr}{xs:List V}{g:TG}{tb:TS}{D:Ends}{σ:St}{H:Hp}(Pv:Nat→St→Hp→Prop)(h0:Pv 0 σ H)(hl:∀ i σ H,i≤xs.length→Pv i σ H→SqL K H a xs)
  (hs:∀ i x σ H,xs[i]?=some x→Pv i σ H→g x σ H fun σ2 H2=>tb { D with nx:=Pv (i+1),ct:=Pv (i+1),bk:=D.nx } σ2 H2) (hd:∀ σ H,Pv xs.length σ H→D.nx σ H) :
  ∃ W:Nat→Nat→St→Hp→Prop,(∃ m,W 0 m σ H)∧∀ i m σ H,W i m σ H →
   ((Itl K a).stop i H∧D.nx σ H)∨((Itl K a).go i H∧∃ N:St→Hp→Prop,(∀ σ' H',N σ' H'→∃ m',m'<m∧W (i+1) m' σ' H')∧∀ x H',(Itl K a).yld i H x H'→g x σ H' fun σ2 H2=>tb { D with nx:=N,ct:=N,bk:=D.nx } σ2 H2):=by
 refine⟨fun i m σ H=>m=xs.length-i∧i≤xs.length∧Pv i σ H,⟨xs.length,by simp,Aik _,h0⟩,?_⟩
 rintro i m σ H ⟨rfl,hi,p⟩
 have q:=hl i σ H hi p
 by_cases hlt:i<xs.length
 ·refine .inr ⟨⟨xs,xs[i],q,by simp[hlt]⟩,Pv (i+1),fun σ' H' p'=>⟨xs.length-(i+1),by omega,rfl,hlt,p'⟩,fun x H' y=>?_⟩
  obtain⟨e,y⟩:=y
  subst e
  exact hs i x σ _ (y xs q) p
 ·have e:i=xs.length:=by omega
  subst e
  exact .inl ⟨⟨xs,q,AhX _⟩,hd σ H p⟩
theorem Cp{lo:Int}{n:Nat}{g:TG}{tb:TS}{D:Ends}{σ:St}{H:Hp}(Pv:Nat→St→Hp→Prop)(h0:Pv 0 σ H)
  (hs:∀ i σ H,i<n→Pv i σ H→g (.int (lo+i)) σ H fun σ2 H2=>tb { D with nx:=Pv (i+1),ct:=Pv (i+1),bk:=D.nx } σ2 H2) (hd:∀ σ H,Pv n σ H→D.nx σ H) :
  ∃ W:Nat→Nat→St→Hp→Prop,(∃ m,W 0 m σ H)∧∀ i m σ H,W i m σ H →
   ((Itr lo n).stop i H∧D.nx σ H)∨((Itr lo n).go i H∧∃ N:St→Hp→Prop,(∀ σ' H',N σ' H'→∃ m',m'<m∧W (i+1) m' σ' H')∧∀ x H',(Itr lo n).yld i H x H'→g x σ H' fun σ2 H2=>tb { D with nx:=N,ct:=N,bk:=D.nx } σ2 H2):=by
 refine⟨fun i m σ H=>m=n-i∧i≤n∧Pv i σ H,⟨n,by simp,Aik _,h0⟩,?_⟩
 rintro i m σ H ⟨rfl,hi,p⟩
 by_cases hlt:i<n
 ·refine .inr ⟨hlt,Pv (i+1),fun σ' H' p'=>⟨n-(i+1),by omega,rfl,hlt,p'⟩,fun x H' y=>?_⟩
  obtain⟨e,y⟩:=y
  subst e y
  exact hs i σ _ hlt p
 ·have e:i=n:=by omega
  subst e
  exact .inl ⟨AhX _,hd σ H p⟩
open PySem PySem.Spec PyProof.Rows
abbrev R2:=V→V→Hp→VK→Prop
def OpR (X:Cx)(f:Value→Value→Sem Value)(r:R2):Prop :=
 ∀(pins:List (Addr × Obj)) (s:Shared) (σ:St) (H:Hp) (x y:V) (v u:Value) (Q:VK),Inv X pins σ H s→RelV x v→RelV y u→r x y H Q →
  wpAny (model X.prog X.w) X.A (f v u) (EP X pins σ Q) X.xe s
def UnR (X:Cx)(f:Value→Sem Value)(r:V→Hp→VK→Prop):Prop :=
 ∀(pins:List (Addr × Obj)) (s:Shared) (σ:St) (H:Hp) (x:V) (v:Value) (Q:VK),Inv X pins σ H s→RelV x v→r x H Q →
  wpAny (model X.prog X.w) X.A (f v) (EP X pins σ Q) X.xe s
def Hm (X:Cx)(f:Value)(r:List V→Hp→VK→Prop):Prop :=
 ∀(pins:List (Addr × Obj)) (s:Shared) (σ:St) (H:Hp) (xs:List V) (us:List Value) (Q:VK),Inv X pins σ H s→Vals xs us→r xs H Q →
  wpAny (model X.prog X.w) X.A (call f us) (EP X pins σ Q) X.xe s
def Agb (X:Cx)(r:V→Hp→(Bool→Hp→Prop)→Prop):Prop :=
 ∀(pins:List (Addr × Obj)) (s:Shared) (σ:St) (H:Hp) (x:V) (v:Value) (Q:Bool→Hp→Prop),Inv X pins σ H s→RelV x v→r x H Q →
  wpAny (model X.prog X.w) X.A (truthy v) (TP X pins σ Q) X.xe s
def tOp (r:R2)(ta tb:TE):TE:=fun σ H Q=>ta σ H fun x H1=>tb σ H1 fun y H2=>r x y H2 Q
def tUn (r:V→Hp→VK→Prop)(ta:TE):TE:=fun σ H Q=>ta σ H fun x H1=>r x H1 Q
def rI (C:Int→Int→Prop)(g:Int→Int→V):R2:=fun x y H Q=>∃ i j,x=.int i∧y=.int j∧C i j∧Q (g i j) H
def rI0 (g:Int→Int→V):R2:=fun x y H Q=>∃ i j,x=.int i∧y=.int j∧Q (g i j) H
def rU (g:Int→V):V→Hp→VK→Prop:=fun x H Q=>∃ i,x=.int i∧Q (g i) H
section
variable {X:Cx}{a b c:Expr}{ta tb tc:TE}{pos:Pos}
theorem Adh(ha:PE X a ta)(hb:PE X b tb){pins:List (Addr × Obj)}{s:Shared}{σ:St}{H:Hp}{R:V→V→Hp→Prop}(I:Inv X pins σ H s)
  (h:ta σ H fun x H1=>tb σ H1 fun y H2=>R x y H2) {Q:Value→Shared→Prop} {f:Value→Value→Sem Value}
  (hf:∀ v u s2 x y H2,Inv X pins σ H2 s2→RelV x v→RelV y u→R x y H2→wpAny (model X.prog X.w) X.A (f v u) Q X.xe s2) :
  wpAny (model X.prog X.w) X.A (eval a X.env) (fun v s₁=>wpAny (model X.prog X.w) X.A (eval b X.env) (fun u s₂=>wpAny (model X.prog X.w) X.A (f v u) Q X.xe s₂) X.xe s₁) X.xe s:=by
 refine thn (ha pins s σ H _ I h) fun v s1 ⟨x,H1,I1,r1,q1⟩=>?_
 refine thn (hb pins s1 σ H1 _ I1 q1) fun u s2 ⟨y,H2,I2,r2,q2⟩=>?_
 exact hf v u s2 x y H2 I2 r1 r2 q2
theorem Ar{op:Operator}{r:R2}(ho:OpR X (binaryOp op) r)(ha:PE X a ta)(hb:PE X b tb):PE X (.BinOp a op b pos) (tOp r ta tb):=by
 intro pins s σ H Q I h
 exact wpAny_BinOp (Adh ha hb I h fun v u s2 x y H2 I2 rx ry q=>ho pins s2 σ H2 x y v u Q I2 rx ry q)
theorem Aez{op:UnaryOp}{r:V→Hp→VK→Prop}(ho:UnR X (unaryOp op) r)(ha:PE X a ta):PE X (.UnaryOp op a pos) (tUn r ta):=by
 intro pins s σ H Q I h
 exact UnaryOp_ (thn (ha pins s σ H _ I h) fun v s1 ⟨x,H1,I1,r1,q1⟩=>ho pins s1 σ H1 x v Q I1 r1 q1)
theorem opI{f:Value→Value→Sem Value}{C:Int→Int→Prop}{g:Int→Int→Int}
  (rule:∀(i j:Int) (t u:Tok) (s:Shared) (Q:Value→Shared→Prop) (E:Value→Shared→Prop),C i j→Q (.int (g i j) s.toks) { s with toks:=s.toks+1 }→wpAny (model X.prog X.w) X.A (f (.int i t) (.int j u)) Q E s) :
  OpR X f (rI C fun i j=>.int (g i j)):=by
 intro pins s σ H x y v u Q I rx ry h
 obtain⟨i,j,rfl,rfl,hc,q⟩:=h
 obtain⟨t,rfl⟩:=rx
 obtain⟨t',rfl⟩:=ry
 exact rule i j t t' s _ _ hc ⟨.int (g i j),H,I.tok _,⟨_,rfl⟩,q⟩
theorem Ae0{f:Value→Value→Sem Value}{g:Int→Int→Int}
  (rule:∀(i j:Int) (t u:Tok) (s:Shared) (Q:Value→Shared→Prop) (E:Value→Shared→Prop),Q (.int (g i j) s.toks) { s with toks:=s.toks+1 }→wpAny (model X.prog X.w) X.A (f (.int i t) (.int j u)) Q E s) :
  OpR X f (rI0 fun i j=>.int (g i j)):=by
 intro pins s σ H x y v u Q I rx ry h
 obtain⟨i,j,rfl,rfl,q⟩:=h
 obtain⟨t,rfl⟩:=rx
 obtain⟨t',rfl⟩:=ry
 exact rule i j t t' s _ _ ⟨.int (g i j),H,I.tok _,⟨_,rfl⟩,q⟩
theorem AbS{f:Value→Value→Sem Value}{g:Int→Int→Bool}
  (rule:∀(i j:Int) (t u:Tok) (s:Shared) (Q:Value→Shared→Prop) (E:Value→Shared→Prop),Q (.bool (g i j)) s→wpAny (model X.prog X.w) X.A (f (.int i t) (.int j u)) Q E s) :
  OpR X f (rI0 fun i j=>.bl (g i j)):=by
 intro pins s σ H x y v u Q I rx ry h
 obtain⟨i,j,rfl,rfl,q⟩:=h
 obtain⟨t,rfl⟩:=rx
 obtain⟨t',rfl⟩:=ry
 exact rule i j t t' s _ _ ⟨.bl (g i j),H,I,rfl,q⟩
def Agc (i j:Int):Prop:=0<j∧j<1073741824
def AgW (i j:Int):Prop:=j≠0∧j.natAbs<1073741824
def Ahy (i j:Int):Prop:=0≤j∧j≤1000000∧i.natAbs<2 ^ 64
def Adi (i j:Int):Prop:=(-(2 ^ 64)<i∧i<2 ^ 64)∨(-(2 ^ 64)<j∧j<2 ^ 64)
theorem Adi.ok{i j:Int}(h:Adi i j):IntMulOk i j:=by
 rcases h with ⟨h1,h2⟩ | ⟨h1,h2⟩
 ·exact .of_left (intBits_le_64 h1 h2)
 ·exact .of_right (intBits_le_64 h1 h2)
theorem CZ:OpR X (binaryOp .Add) (rI0 fun i j=>.int (i+j)):=Ae0 fun _ _ _ _ _ _ _ q=>add_int q
theorem Yd:OpR X (binaryOp .Sub) (rI0 fun i j=>.int (i-j)):=Ae0 fun _ _ _ _ _ _ _ q=>sub_int q
theorem KJ:OpR X (binaryOp .Mult) (rI Adi fun i j=>.int (i*j)):=opI fun _ _ _ _ _ _ _ hc q=>mul_int q hc.ok
theorem Ow:OpR X (binaryOp .FloorDiv) (rI Agc fun i j=>.int (i / j)):=opI fun i j _ _ _ _ _ hc q=>by
 have h1:(0:Int)<j:=hc.1
 have h2:j<1073741824:=hc.2
 exact floordiv_int (by omega) (by rw[Int.fdiv_eq_ediv_of_nonneg i (by omega)];exact q) (.inl (PyProof.noPylong_small (by omega)))
theorem DQ:OpR X (binaryOp .Mod) (rI (fun _ j=>0<j) fun i j=>.int (i%j)):=opI fun i j _ _ _ _ _ hc q=>by
 have h1:(0:Int)<j:=hc
 exact mod_int' (by omega) (by rw[Int.fmod_eq_emod_of_nonneg i (by omega)];exact q)
theorem unI{f:Value→Sem Value}{g:Int→Int}
  (rule:∀(i:Int) (t:Tok) (s:Shared) (Q:Value→Shared→Prop) (E:Value→Shared→Prop),Q (.int (g i) s.toks) { s with toks:=s.toks+1 }→wpAny (model X.prog X.w) X.A (f (.int i t)) Q E s) :
  UnR X f (rU fun i=>.int (g i)):=by
 intro pins s σ H x v Q I rx h
 obtain⟨i,rfl,q⟩:=h
 obtain⟨t,rfl⟩:=rx
 exact rule i t s _ _ ⟨.int (g i),H,I.tok _,⟨_,rfl⟩,q⟩
theorem Adj:UnR X (unaryOp .USub) (rU fun i=>.int (-i)):=unI fun _ _ _ _ _ q=>neg_int q
end
def Ae1:V→V→Bool
 | .non,.non=>true | .non,.int _=>true | .int _,.non=>true | .non,.bl _=>true | .bl _,.non=>true | .non,.str _=>true | .str _,.non=>true
 | .int _,.int _=>true | .bl _,.bl _=>true | .str _,.str _=>true | .byt _,.byt _=>true
 | .int _,.str _=>true | .str _,.int _=>true | .bl _,.str _=>true | .str _,.bl _=>true
 | _,_=>false
def rEq:R2:=fun x y H Q=>Ae1 x y=true∧Q (.bl (decide (x=y))) H
def rNe:R2:=fun x y H Q=>Ae1 x y=true∧Q (.bl (!decide (x=y))) H
theorem Zb{i j:Int}:decide (V.int i=V.int j)=(i == j):=by
 rw[AiQ]
 simp
theorem Aa6{i j:Bool}:decide (V.bl i=V.bl j)=(i == j):=by
 rw[AiQ]
 simp
theorem Zc{i j:Str}:decide (V.str i=V.str j)=(i == j):=by
 rw[AiQ]
 simp
theorem Zd{i j:Array UInt8}:decide (V.byt i=V.byt j)=(i.toList == j.toList):=by
 rw[AiQ]
 cases i
 cases j
 simp
section
variable {X:Cx}{a b c:Expr}{ta tb tc:TE}{pos:Pos}
theorem Br{pins:List (Addr × Obj)}{σ:St}{H:Hp}{s:Shared}{Q:VK}{k k':Bool}(I:Inv X pins σ H s)(q:Q (.bl k) H)(e:k=k'):EP X pins σ Q (.bool k') s:=by
 subst e
 exact⟨.bl k,H,I,rfl,q⟩
theorem MK:OpR X (compareOp .Eq) rEq:=by
 intro pins s σ H x y v u Q I rx ry h
 obtain⟨hs,q⟩:=h
 cases x with
 | non =>
  cases rx
  cases y with
  | non=>cases ry;exact PySem.EqNone.eq_none_none (Br I q (by simp))
  | bl j=>cases ry;exact PySem.EqNone.eq_none_bool (Br I q (by simp))
  | int j=>obtain⟨t',rfl⟩:=ry;exact PySem.EqNone.eq_none_int (Br I q (by simp))
  | str j=>obtain⟨t',rfl⟩:=ry;exact PySem.EqNone.eq_none_str (Br I q (by simp))
  | _=>exact absurd (show false=true from hs) Ail
 | bl i =>
  cases rx
  cases y with
  | non=>cases ry;exact PySem.EqNone.eq_bool_none (Br I q (by simp))
  | bl j=>cases ry;exact eq_bool (Br I q Aa6)
  | str j=>obtain⟨t',rfl⟩:=ry;exact PySem.EqMixed.eq_bool_str (Br I q (by simp))
  | _=>exact absurd (show false=true from hs) Ail
 | int i =>
  obtain⟨t,rfl⟩:=rx
  cases y with
  | non=>cases ry;exact PySem.EqNone.eq_int_none (Br I q (by simp))
  | int j=>obtain⟨t',rfl⟩:=ry;exact eq_int (Br I q Zb)
  | str j=>obtain⟨t',rfl⟩:=ry;exact PySem.EqMixed.eq_int_str (Br I q (by simp))
  | _=>exact absurd (show false=true from hs) Ail
 | str i =>
  obtain⟨t,rfl⟩:=rx
  cases y with
  | non=>cases ry;exact PySem.EqNone.eq_str_none (Br I q (by simp))
  | bl j=>cases ry;exact PySem.EqMixed.eq_str_bool (Br I q (by simp))
  | int j=>obtain⟨t',rfl⟩:=ry;exact PySem.EqMixed.eq_str_int (Br I q (by simp))
  | str j=>obtain⟨t',rfl⟩:=ry;exact eq_str (Br I q Zc)
  | _=>exact absurd (show false=true from hs) Ail
 | byt i =>
  obtain⟨t,rfl⟩:=rx
  cases y with
  | byt j=>obtain⟨t',rfl⟩:=ry;exact PySem.W.eq_bytes (Br I q Zd)
  | _=>exact absurd (show false=true from hs) Ail
 | _=>cases y <;> exact absurd (show false=true from hs) Ail
theorem KN:OpR X (compareOp .NotEq) rNe:=by
 intro pins s σ H x y v u Q I rx ry h
 obtain⟨hs,q⟩:=h
 cases x with
 | non =>
  cases rx
  cases y with
  | non=>cases ry;exact PySem.EqNone.ne_none_none (Br I q (by simp))
  | bl j=>cases ry;exact PySem.EqNone.ne_none_bool (Br I q (by simp))
  | int j=>obtain⟨t',rfl⟩:=ry;exact PySem.EqNone.ne_none_int (Br I q (by simp))
  | str j=>obtain⟨t',rfl⟩:=ry;exact PySem.EqNone.ne_none_str (Br I q (by simp))
  | _=>exact absurd (show false=true from hs) Ail
 | bl i =>
  cases rx
  cases y with
  | non=>cases ry;exact PySem.EqNone.ne_bool_none (Br I q (by simp))
  | bl j=>cases ry;exact ne_bool (Br I q (congrArg not Aa6))
  | str j=>obtain⟨t',rfl⟩:=ry;exact PySem.EqMixed.ne_bool_str (Br I q (by simp))
  | _=>exact absurd (show false=true from hs) Ail
 | int i =>
  obtain⟨t,rfl⟩:=rx
  cases y with
  | non=>cases ry;exact PySem.EqNone.ne_int_none (Br I q (by simp))
  | int j=>obtain⟨t',rfl⟩:=ry;exact ne_int (Br I q (congrArg not Zb))
  | str j=>obtain⟨t',rfl⟩:=ry;exact PySem.EqMixed.ne_int_str (Br I q (by simp))
  | _=>exact absurd (show false=true from hs) Ail
 | str i =>
  obtain⟨t,rfl⟩:=rx
  cases y with
  | non=>cases ry;exact PySem.EqNone.ne_str_none (Br I q (by simp))
  | bl j=>cases ry;exact PySem.EqMixed.ne_str_bool (Br I q (by simp))
  | int j=>obtain⟨t',rfl⟩:=ry;exact PySem.EqMixed.ne_str_int (Br I q (by simp))
  | str j=>obtain⟨t',rfl⟩:=ry;exact ne_str (Br I q (congrArg not Zc))
  | _=>exact absurd (show false=true from hs) Ail
 | byt i =>
  obtain⟨t,rfl⟩:=rx
  cases y with
  | byt j=>obtain⟨t',rfl⟩:=ry;exact PySem.W.ne_bytes (Br I q (congrArg not Zd))
  | _=>exact absurd (show false=true from hs) Ail
 | _=>cases y <;> exact absurd (show false=true from hs) Ail
theorem Wm:OpR X (compareOp .Lt) (rI0 fun i j=>.bl (decide (i<j))):=AbS fun _ _ _ _ _ _ _ q=>lt_int q
theorem Ae2:OpR X (compareOp .LtE) (rI0 fun i j=>.bl (decide (i≤j))):=AbS fun _ _ _ _ _ _ _ q=>le_int q
theorem TY:OpR X (compareOp .Gt) (rI0 fun i j=>.bl (decide (j<i))):=AbS fun _ _ _ _ _ _ _ q=>gt_int q
theorem Ae3:OpR X (compareOp .GtE) (rI0 fun i j=>.bl (decide (j≤i))):=AbS fun _ _ _ _ _ _ _ q=>ge_int q
theorem U7:OpR X (compareOp .NotIn) (fun x y H Q=>∃ i j,x=.str i∧y=.str j∧Q (.bl (!(!(Builtin.Str.occurrences j i 0 j.length 1).isEmpty))) H):=by
 intro pins s σ H x y v u Q I rx ry h
 obtain⟨i,j,rfl,rfl,q⟩:=h
 obtain⟨t,rfl⟩:=rx
 obtain⟨t',rfl⟩:=ry
 exact notIn_str (Br I q rfl)
def isObj:HO→Bool
 | .lst _=>true
 | .ins _ _ _=>true
 | _=>false
theorem Bh(b:Expr){op:CmpOp}(h:op≠.In:=by decide)(h2:op≠.NotIn:=by decide):behindInMarks op b=false:=by
 have e1:(op == CmpOp.In)=false:=by cases op <;> first | rfl | exact absurd rfl h
 have e2:(op == CmpOp.NotIn)=false:=by cases op <;> first | rfl | exact absurd rfl h2
 cases b <;> simp[behindInMarks,e1,e2]
theorem JF{op:CmpOp}{r:R2}(ho:OpR X (compareOp op) r)(ha:PE X a ta)(hb:PE X b tb)(hm:behindInMarks op b=false):PE X (.Compare a [op] [b] pos) (tOp r ta tb):=by
 intro pins s σ H Q I h
 exact wpAny_Compare1 (Adh ha hb I h fun v u s2 x y H2 I2 rx ry q=>ho pins s2 σ H2 x y v u Q I2 rx ry q) hm
def AcH (t:TE):TT:=fun σ H Q=>t σ H fun x H'=>∃ k,x=.bl k∧Q k H'
theorem Bc{op:CmpOp}{r:R2}(ho:OpR X (compareOp op) r)(ha:PE X a ta)(hb:PE X b tb)(hm:behindInMarks op b=false):PT X (.Compare a [op] [b] pos) (AcH (tOp r ta tb)):=by
 intro pins s σ H Q I h
 refine wpAny_isTrue_Compare1 (thn (ha pins s σ H _ I h) fun v s1 ⟨x,H1,I1,r1,q1⟩=>thn (hb pins s1 σ H1 _ I1 q1) fun u s2 ⟨y,H2,I2,r2,q2⟩ =>
  thn (ho pins s2 σ H2 x y v u _ I2 r1 r2 q2) fun c s3 ⟨z,H3,I3,r3,k,e,q3⟩=>?_) hm
 subst e
 cases r3
 exact wpAny_truthy_bool ⟨H3,I3,q3⟩
def Adk (r r':R2)(ta tb tc:TE):TE:=fun σ H Q=>ta σ H fun x H1=>tb σ H1 fun y H2=>r x y H2 fun z H3=>∃ k,z=.bl k ∧
 (if k=true then tc σ H3 fun w' H4=>r' y w' H4 Q else Q (.bl false) H3)
theorem Aa7{op op':CmpOp}{r r':R2}(ho:OpR X (compareOp op) r)(ho':OpR X (compareOp op') r')(ha:PE X a ta)(hb:PE X b tb)(hc:PE X c tc)
  (hm:lastMarks [op,op'] [b,c]=false:=by with_unfolding_all rfl):PT X (.Compare a [op,op'] [b,c] pos) (AcH (Adk r r' ta tb tc)):=by
 intro pins s σ H Q I h
 refine isTrue_chain (thn (ha pins s σ H _ I h) fun v s1 ⟨x,H1,I1,r1,q1⟩=>test_link (thn (hb pins s1 σ H1 _ I1 q1) fun u s2 ⟨y,H2,I2,r2,q2⟩ =>
  thn (ho pins s2 σ H2 x y v u _ I2 r1 r2 q2) fun d s3 ⟨z,H3,I3,r3,k,e,q3⟩=>?_)) hm
 subst e
 cases r3
 refine wpAny_truthy_bool ?_
 cases k with
 | false =>
  obtain⟨k',e',q'⟩:=q3
  cases e'
  exact ite_ff ⟨H3,I3,q'⟩
 | true =>
  refine ite_tt (test_last (thn (hc pins s3 σ H3 _ I3 q3) fun w' s4 ⟨z',H4,I4,r4,q4⟩=>thn (ho' pins s4 σ H4 y z' u w' _ I4 r2 r4 q4) fun d' s5 ⟨z2,H5,I5,r5,k2,e2,q5⟩=>?_))
  subst e2
  cases r5
  exact wpAny_truthy_bool ⟨H5,I5,q5⟩
def Adl (K:PySem.W.Frag)(x:V)(H:Hp)(k:Bool):Prop :=
 match x with
 | .non=>k=false
 | .bl b=>k=b
 | .int i=>k=(i != 0)
 | .str y=>y.length≤sizeLine∧k=((y.length:Int) != 0)
 | .byt y=>y.size≤sizeLine∧k=((y.size:Int) != 0)
 | .ref p=>(∃ xs,SqL K H p xs∧k=!xs.isEmpty)∨(∃ xs,SqT K H p xs∧k=!xs.isEmpty)∨∃ kvs,H p=some (.dK kvs)∧k=!kvs.isEmpty
 | _=>False
theorem Ye{κ:Type}{kvs:List (κ × V)}{vs:List (κ × Value)}(r:KV kvs vs):(!vs.isEmpty)=!kvs.isEmpty:=by
 cases r <;> rfl
theorem RD{xs:List V}{its:List Value}(r:Vals xs its):(!its.toArray.isEmpty)=!xs.isEmpty:=by
 cases r <;> simp
theorem Nu:(sizeLine:Nat)<2 ^ 63:=by rw[sizeLine_eq];decide
theorem Adm:Agb X (fun x H Q=>∃ k,Adl X.K x H k∧Q k H):=by
 intro pins s σ H x v Q I rx h
 obtain⟨k,e,q⟩:=h
 have hl:=Nu
 have hs:sizeLine=16777216:=sizeLine_eq
 cases x with
 | non =>
  cases rx
  have e':k=false:=e
  subst e'
  exact truthy_none ⟨H,I,q⟩
 | bl b =>
  cases rx
  have e':k=b:=e
  subst e'
  exact wpAny_truthy_bool ⟨H,I,q⟩
 | int i =>
  obtain⟨t,rfl⟩:=rx
  have e':k=(i != 0):=e
  subst e'
  exact PySem.P.truthy_int ⟨H,I,q⟩
 | str y =>
  obtain⟨t,rfl⟩:=rx
  obtain⟨hy,e'⟩:y.length≤sizeLine∧k=((y.length:Int) != 0):=e
  subst e'
  exact PySem.P.truthy_str (by omega) ⟨H,I.tok _,q⟩
 | byt y =>
  obtain⟨t,rfl⟩:=rx
  obtain⟨hy,e'⟩:y.size≤sizeLine∧k=((y.size:Int) != 0):=e
  subst e'
  exact PySem.W.truthy_bytes (by omega) ⟨H,I.tok _,q⟩
 | ref p =>
  cases rx
  have e':(∃ xs,SqL X.K H p xs∧k=!xs.isEmpty)∨(∃ xs,SqT X.K H p xs∧k=!xs.isEmpty)∨∃ kvs,H p=some (.dK kvs)∧k=!kvs.isEmpty:=e
  rcases e' with ⟨xs,hx,e'⟩ | ⟨xs,hx,e'⟩ | ⟨kvs,hx,e'⟩
  ·subst e'
   obtain⟨its,r,pl,hz⟩:=I.list hx
   have hlen:=r.length
   exact wpAny_truthy_list pl.isList (by simp only [Aia];omega) ⟨H,I.tok _,by rw[RD r];exact q⟩
  ·subst e'
   obtain⟨its,r,pl,hz⟩:=I.tuple hx
   have hlen:=r.length
   exact truthy_tuple pl (by simp only [Aia];omega) ⟨H,I.tok _,by rw[RD r];exact q⟩
  ·subst e'
   obtain⟨hz,hS,vs,r,m⟩:kvs.length≤sizeLine∧(p == sysModules)=false∧∃ vs,KV kvs vs∧s.heap.DictOf (U3 X.prog X.w) p vs:=I.hok p _ hx
   have hlen:kvs.length=vs.length:=Paired.length r
   exact wpAny_truthy_dict hS m (by omega) ⟨H,I.tok _,by rw[Ye r];exact q⟩
 | _=>exact(show False from e).elim
theorem Aa8(ha:PE X a ta)(he:∀ whole,isTrue a X.env whole=(do let v ← whole;standAt a.pos;holding [v] (truthy v))) :
  PT X a (fun σ H Q=>ta σ H fun x H'=>∃ k,Adl X.K x H' k∧Q k H'):=by
 intro pins s σ H Q I h
 exact isTrue_plain (thn (ha pins s σ H _ I h) fun v s1 ⟨x,H1,I1,r1,q1⟩=>Adm pins s1 σ H1 x v Q I1 r1 q1) (he _)
theorem Yg:OpR X (binaryOp .Add) (fun x y H Q=>∃ i j,x=.str i∧y=.str j∧i.length+j.length≤sizeLine∧Q (.str (i++j)) H):=by
 intro pins s σ H x y v u Q I rx ry h
 obtain⟨i,j,rfl,rfl,hz,q⟩:=h
 obtain⟨t,rfl⟩:=rx
 obtain⟨t',rfl⟩:=ry
 exact add_str (fun t' tk=>⟨.str (i++j),H,I.tok _,⟨_,rfl⟩,q⟩) hz
def Ae4 (b:Expr):Prop:=∀ o i,subscripted b false o i=operate [o,i] (getItem o i)
theorem vals1{x:V}{us:List Value}(r:Vals [x] us):∃ u,us=[u]∧RelV x u:=by
 cases r with
 | cons r1 r2=>cases r2;exact⟨_,rfl,r1⟩
theorem Ua:Hm X (.type "int") (fun xs H Q=>(∃ i,xs=[.int i]∧Q (.int i) H)∨∃ k,xs=[.bl k]∧Q (.int (if k then 1 else 0)) H):=by
 intro pins s σ H xs us Q I r h
 rcases h with ⟨i,rfl,q⟩ | ⟨k,rfl,q⟩
 ·obtain⟨u,rfl,t,rfl⟩:=vals1 r
  exact call_int_int ⟨.int i,H,I,⟨_,rfl⟩,q⟩
 ·obtain⟨u,rfl,r1⟩:=vals1 r
  cases r1
  exact call_int_bool ⟨.int (if k then 1 else 0),H,I.tok _,⟨_,rfl⟩,q⟩
def Ahz (K:PySem.W.Frag)(x:V)(H:Hp)(n:Nat):Prop :=
 match x with
 | .str y=>y.length≤sizeLine∧n=y.length
 | .byt y=>y.size≤sizeLine∧n=y.size
 | .ref p=>(∃ xs,SqL K H p xs∧n=xs.length)∨∃ xs,SqT K H p xs∧n=xs.length
 | _=>False
end
open PySem PySem.Spec PyProof.Rows
structure Adn (h:Heap) (x dx C:Addr) (mA:Str→Option Value):Prop where
 obj:h.get? x=some (PySem.W.instObj C dx)
 ns:h.Ns1 dx mA
 ne:dx≠x
theorem ZQ{h:Heap}{dx:Addr}{mA:Str→Option Value}(n:h.Ns1 dx mA):∃ od,h.get? dx=some od∧∀ name,PySem.W.lookIn name od=some (mA name):=by
 obtain⟨o,es,ep,ho,hd,hk,_,hm⟩:=n
 refine⟨o,ho,fun name=>?_⟩
 have e:=hm name
 unfold nsFind findBy at e
 rw[← Array.find?_toList] at e
 unfold PySem.W.lookIn
 rw[hd]
 dsimp only
 split
 ·rename_i y q
  rw[q] at e
  exact congrArg some e
 ·rename_i q
  rw[q] at e
  have a:es.toList.any (·.refKey)=false:=by
   rw[List.any_eq_false]
   intro y hy
   obtain⟨z,t,hkey⟩:=hk y (Array.mem_toList_iff.mp hy)
   simp[DictEntry.refKey,hkey]
  have a':¬es.toList.any (·.refKey)=true:=by rw[a];exact Ail
  rw[if_neg a']
  exact congrArg some e
theorem Adn.look{h:Heap}{x dx C:Addr}{mA:Str→Option Value}(I:Adn h x dx C mA):∃ od,PySem.W.InstAt h x (PySem.W.instObj C dx) C (some od)∧∀ name,PySem.W.lookIn name od=some (mA name) :=
 let ⟨od,ho,hl⟩:=ZQ I.ns
 ⟨od,⟨I.obj,rfl,rfl,ho⟩,hl⟩
section
variable {prog:Program}{w:World}{A:Around}{E:Value→Shared→Prop}{s:Shared}{K:PySem.W.Frag}{x dx C f:Addr}{mA:Str→Option Value}{name:Str}{v:Value}
end
def Ado (f:Str)(v:V):List (Str × V)→List (Str × V)
 | []=>[(f,v)]
 | (g,x)::r=>if g=f then (g,v)::r else (g,x)::Ado f v r
section
variable {P:Program}{w:World}{H H':Hp}{h h':Heap}{a C dx:Addr}{fs fs':List (Str × V)}
theorem AbT(hok:HOk P w H h)(e:H a=some (.ins C dx fs)):∃ mA,Adn h a dx C mA∧(∀ f,Ade (fs.lookup f) (mA f))∧PySem.Within mA (fs.map (·.1))∧fs.length≤1000∧H dx=some (.own a):=by
 obtain⟨d,z,ne,ob,mA,n,r,q⟩:=(show Eu P w H h a (.ins C dx fs) from hok a _ e)
 exact⟨mA,⟨ob,n,ne⟩,r,q,z,d⟩
end
structure Cls (K:PySem.W.Frag) (C:Addr):Prop where
 pg:PySem.W.plainGet K C Str.empty=true
 hd:PySem.W.hasDictIn K C=true
 po:PySem.W.plainOver K C=true
 sa:PySem.W.findIn K (.ref C) "__setattr__" = some (some (.builtin "object.__setattr__"))
theorem Cls.get{K:PySem.W.Frag}{C:Addr}(c:Cls K C)(f:Str):PySem.W.plainGet K C f=true:=c.pg
def Yh (K:PySem.W.Frag)(C:Addr)(f:Str):Prop:=PySem.W.findIn K (.ref C) f=some none
structure Con (K:PySem.W.Frag) (C:Addr) (f:Str) (v:V) (u:Value):Prop where
 at_:PySem.W.findIn K (.ref C) f=some (some u)
 rel:RelV v u
 get:PySem.W.specialIn K u "__get__" = some none
 cp:PySem.W.copiedNames.contains f=false
structure Meth (K:PySem.W.Frag) (C:Addr) (m:Str) (f:Addr):Prop where
 at_:PySem.W.findIn K (.ref C) m=some (some (.ref f))
 fn:PySem.W.isFn K (.ref f)=true
 kp:PySem.W.keepIn K (.ref f)=true
section
variable {X:Cx}{pins:List (Addr × Obj)}{σ:St}{H:Hp}{s:Shared}{a C dx:Addr}{fs:List (Str × V)}{f:Str}{v:V}{A:Around}{E:Value→Shared→Prop}
end
def Ah0 (K:PySem.W.Frag)(ta:TE)(f:Str):TE:=fun σ H Q=>ta σ H fun x H1=>∃ a C dx fs v,x=.ref a∧H1 a=some (.ins C dx fs)∧Cls K C∧Yh K C f∧fs.lookup f=some v∧Q v H1
def Ah1 (K:PySem.W.Frag)(ta:TE)(f:Str):TE:=fun σ H Q=>ta σ H fun x H1=>∃ a C dx fs v u,x=.ref a∧H1 a=some (.ins C dx fs)∧Cls K C∧Con K C f v u∧fs.lookup f=none∧Q v H1
def Ah2 (K:PySem.W.Frag)(ta tv:TE)(f:Str):TS:=fun D σ H=>tv σ H fun y H1=>ta σ H1 fun x H2=>∃ a C dx fs,x=.ref a∧H2 a=some (.ins C dx fs)∧Cls K C∧Yh K C f∧fs.length<1000 ∧
 D.nx σ (upd H2 a (.ins C dx (Ado f y fs)))
def Ah3 (X:Cx)(op:Operator)(rd:V→V→Hp→VK→Prop):Prop :=
 ∀(pins:List (Addr × Obj)) (s:Shared) (σ:St) (H:Hp) (x y:V) (u v:Value) (Q:VK),Inv X pins σ H s→RelV x u→RelV y v→rd x y H Q→wpAny (model X.prog X.w) X.A (inplaceOp op u v) (EP X pins σ Q) X.xe s
def AfE (K:PySem.W.Frag)(ta tv:TE)(rd:V→V→Hp→VK→Prop)(f:Str):TS:=fun D σ H=>ta σ H fun x H1=>∃ a C dx fs v,x=.ref a∧H1 a=some (.ins C dx fs)∧Cls K C∧Yh K C f∧fs.lookup f=some v ∧
 tv σ H1 fun y H2=>rd v y H2 fun z H3=>∃ dx' fs',H3 a=some (.ins C dx' fs')∧fs'.length<1000∧D.nx σ (upd H3 a (.ins C dx' (Ado f z fs')))
section
variable {X:Cx}{o e value:Expr}{f:Str}{pos pos' tpos:Pos}{ta tv:TE}
def Ah4:V→V→Hp→VK→Prop:=fun x y H Q=>∃ i j,x=.int i∧y=.int j∧Q (.int (i+j)) H
def Ah5:V→V→Hp→VK→Prop:=fun x y H Q=>∃ i j,x=.int i∧y=.int j∧Q (.int (i-j)) H
end
section
variable {X:Cx}{pins:List (Addr × Obj)}{σ:St}{H:Hp}{s:Shared}{A:Around}{E:Value→Shared→Prop}{Q:Value→Shared→Prop}{c:Value}{b:Bool}
inductive Qy (K:PySem.W.Frag) (H:Hp):V→Value→Prop where
 | non:Qy K H .non (.type "NoneType")
 | bl (x:Bool):Qy K H (.bl x) (.type "bool")
 | int (i:Int):Qy K H (.int i) (.type "int")
 | str (x:Str):Qy K H (.str x) (.type "str")
 | flt (x:UInt64):Qy K H (.flt x) (.type "float")
 | lst {a:Addr} {xs:List V} (e:H a=some (.lst xs)):Qy K H (.ref a) (.type "list")
 | frz {a:Addr} {o:Obj} {xs:List V} (e:H a=some (.frz o (.lst xs))):Qy K H (.ref a) (.type "list")
 | tup {a:Addr} {xs:List V} (e:H a=some (.tup xs)):Qy K H (.ref a) (.type "tuple")
 | dK {a:Addr} {kvs:List (Key × V)} (e:H a=some (.dK kvs)):Qy K H (.ref a) (.type "dict")
 | dT {a:Addr} {kvs:List (List Key × V)} (e:H a=some (.dT kvs)):Qy K H (.ref a) (.type "dict")
 | ins {a C dx:Addr} {fs:List (Str × V)} (e:H a=some (.ins C dx fs)) (cl:Cls K C) (ha:PySem.W.findIn K (.ref C) "__class__" = some (some (.builtin "object.__class__")))
   (hn:PySem.W.specialIn K (.builtin "object.__class__") "__get__" = some (some (.builtin "getset_descriptor.__get__"))) (htk:PySem.W.takesIn K (.builtin "object.__class__")=some true)
   (hm:PySem.W.mroIn K C (.type "object")=some true):Qy K H (.ref a) (.ref C)
theorem Ub{x:V}{u t:Value}(I:Inv X pins σ H s)(rx:RelV x u)(ty:Qy X.K H x t)(e:PySem.W.kitOne X.K t c=some b)(h:∀ tk,Q (.bool b) { s with toks:=tk }) :
  wpAny (model X.prog X.w) A (call (.builtin "isinstance") [u,c]) Q E s:=by
 cases ty with
 | non=>cases (show u=Value.none from rx);exact PySem.W.kia_one PySem.W.kitx_none I.kIn True.intro e (fun z=>nomatch z) h
 | bl y=>cases (show u=Value.bool y from rx);exact PySem.W.kia_one PySem.W.kitx_bool I.kIn True.intro e (fun z=>nomatch z) h
 | int i=>obtain⟨t,q⟩:=(show ∃ t,u=Value.int i t from rx);cases q;exact PySem.W.kia_one PySem.W.kitx_int I.kIn True.intro e (fun z=>nomatch z) h
 | str y=>obtain⟨t,q⟩:=(show ∃ t,u=Value.str y t from rx);cases q;exact PySem.W.kia_one PySem.W.kitx_str I.kIn True.intro e (fun z=>nomatch z) h
 | flt y=>obtain⟨t,q⟩:=(show ∃ t,u=Value.float y t from rx);cases q;exact PySem.W.kia_one PySem.W.kitx_float I.kIn True.intro e (fun z=>nomatch z) h
 | @lst a xs ea =>
  cases (show u=Value.ref a from rx)
  obtain⟨_,_,n,_,h1⟩:=(show Eu X.prog X.w H s.heap a (.lst xs) from I.hok a _ ea)
  exact PySem.W.kia_one PySem.W.kitx_list I.kIn ⟨_,h1,rfl⟩ e (fun z=>nomatch z) h
 | @frz a ob xs ea =>
  cases (show u=Value.ref a from rx)
  obtain⟨_,_,_,n,_,h1⟩:=(show Eu X.prog X.w H s.heap a (.frz ob (.lst xs)) from I.hok a _ ea)
  exact PySem.W.kia_one PySem.W.kitx_list I.kIn ⟨_,h1,rfl⟩ e (fun z=>nomatch z) h
 | @tup a xs ea =>
  cases (show u=Value.ref a from rx)
  obtain⟨_,_,_,p⟩:=(show Eu X.prog X.w H s.heap a (.tup xs) from I.hok a _ ea)
  obtain⟨o,h1,h2,_⟩:=p
  exact PySem.W.kia_one PySem.W.kitx_tuple I.kIn ⟨o,h1,h2⟩ e (fun z=>nomatch z) h
 | @dK a kvs ea =>
  cases (show u=Value.ref a from rx)
  obtain⟨_,_,vs,_,p⟩:=(show Eu X.prog X.w H s.heap a (.dK kvs) from I.hok a _ ea)
  obtain⟨o,es,ep,h1,h2,_⟩:=p
  exact PySem.W.kia_one PySem.W.kitx_dict I.kIn ⟨o,h1,h2.1⟩ e (fun z=>nomatch z) h
 | @dT a kvs ea =>
  cases (show u=Value.ref a from rx)
  obtain⟨_,_,xs,_,o,es,ep,h1,h2,_⟩:=(show Eu X.prog X.w H s.heap a (.dT kvs) from I.hok a _ ea)
  exact PySem.W.kia_one PySem.W.kitx_dict I.kIn ⟨o,h1,h2.1⟩ e (fun z=>nomatch z) h
 | @ins a C dx fs ea cl ha hn htk hm =>
  cases (show u=Value.ref a from rx)
  obtain⟨mA,O,_⟩:=AbT I.hok ea
  obtain⟨od,J,_⟩:=O.look
  exact PySem.W.kia_one (PySem.W.kitx_own (cl.get _) cl.hd ha hn htk hm) I.kIn J e (fun z=>nomatch z) h
end
open PySem PySem.Spec PyProof.Rows
structure Hn (k:Nat) (A:Around):Prop where
 hd:A.handled=none
 dp:A.depth+3*k+5<recursionLimit
 un:A.units+16*k+200<cLine
theorem Hn.mono{j k:Nat}{A:Around}(r:Hn k A)(h:j≤k):Hn j A:=⟨r.hd,by have:=r.dp;omega,by have:=r.un;omega⟩
theorem Hn.deeper{k:Nat}{A:Around}(r:Hn (k+1) A)(env:Env):Hn k (A.deeper env) :=
 ⟨r.hd,by have:=r.dp;show A.depth+1+3*k+5<_;omega,by have:=r.un;show A.units+3+16*k+200<_;omega⟩
theorem Hn.depth{k:Nat}{A:Around}(r:Hn k A):A.depth<recursionLimit:=by have:=r.dp;omega
theorem Hn.Aa9{k:Nat}{A:Around}(r:Hn k A):A.units<cLine:=by have:=r.un;omega
def Agd:TA:=fun _ H Q=>Q [] H
def Ae5 (ta:TE)(tr:TA):TA:=fun σ H Q=>ta σ H fun x H1=>tr σ H1 fun xs H2=>Q (x::xs) H2
section
variable {X:Cx}{e:Expr}{es:List Expr}{te:TE}{t:TA}{pos:Pos}
theorem Ad:PA X [] Agd:=fun _ _ _ _ H Q I h=>Calls.spliced_nil ⟨[],H,I,.nil,h⟩
theorem Aa(ha:PE X e te)(hr:PA X es t)(hs:starEach (e::es) X.env=(false,eval e X.env)::starEach es X.env:=by rfl):PA X (e::es) (Ae5 te t):=by
 intro pos pins s σ H Q I h
 rw[hs]
 show wpAny _ _ (spliced ((false,eval e X.env)::backTo pos (starEach es X.env))) _ _ s
 refine Calls.spliced_cons (thn (ha pins s σ H _ I h) fun u s1 ⟨x,H1,I1,r1,q1⟩=>?_)
 exact thn (hr pos pins s1 σ H1 _ I1 q1) fun us s2 ⟨xs,H2,I2,r2,q2⟩=>⟨x::xs,H2,I2,.cons r1 r2,q2⟩
def Age (t:TA):TE:=fun σ H Q=>t σ H fun xs H1=>xs.length≤sizeLine∧∀ p,H1 p=none→Q (.ref p) (upd H1 p (.tup xs))
def Agf (t:TA):TE:=fun σ H Q=>t σ H fun xs H1=>xs.length≤sizeLine∧∀ p,H1 p=none→Q (.ref p) (upd H1 p (.lst xs))
theorem Nv{x1}(h:PA X es t):PE X (.Tuple es x1 pos) (Age t):=by
 intro pins s σ H Q I hq
 refine wpAny_Tuple_spliced (thn (h pos pins s σ H _ I hq) fun us s1 ⟨xs,H1,I1,r,z,q⟩=>⟨by rw[← r.length];exact z,?_⟩)
 have hf:H1 s1.heap.objs.size=none:=I1.hok.fresh (AhX _)
 refine⟨.ref s1.heap.objs.size,upd H1 s1.heap.objs.size (.tup xs),I1.laid (t':=s1.toks) (fun b u e=>Heap.get?_push_of_some _ e) (AhX _) ?_,rfl,q _ hf⟩
 exact⟨z,us,r,⟨_,Heap.get?_push_size _ rfl,rfl,_,rfl⟩⟩
theorem Qz(h:PA X es t):PE X (.List es pos) (Agf t):=by
 intro pins s σ H Q I hq
 refine wpAny_List_spliced (thn (h pos pins s σ H _ I hq) fun us s1 ⟨xs,H1,I1,r,z,q⟩=>⟨by rw[← r.length];exact z,?_⟩)
 have hf:H1 s1.heap.objs.size=none:=I1.hok.fresh (AhX _)
 refine⟨.ref s1.heap.objs.size,upd H1 s1.heap.objs.size (.lst xs),I1.laid (t':=s1.toks) (fun b u e=>Heap.get?_push_of_some _ e) (AhX _) ?_,rfl,q _ hf⟩
 exact⟨z,us,0,r,Heap.get?_push_size _ rfl⟩
end
abbrev Sp:=List V→Hp→VK→XK→Prop
abbrev CXT:=List Env→Hp→Shared→XK→Value→Shared→Prop
structure AaA (P:Program) (w:World) (K:PySem.W.Frag) (mg:Str→Option Value) (base:Heap) (A:Around) (outer:List Env) (s:Shared) (H:Hp):Prop where
 frames:A.frames=some outer
 mod:Mod K mg base
 bs:∀ b o,base.get? b=some o→s.heap.get? b=some o∧H b=none
 bsz:base.objs.size≤s.heap.objs.size
 Rv:s.heap.FunFrames base outer
 frf:∀ b∈frs outer,H b=none
 hok:HOk P w H s.heap
 bare:AllBare s.gens
def CE (outer:List Env)(P:Program)(w:World)(H:Hp)(s:Shared)(Q:VK)(u:Value)(s':Shared):Prop :=
 ∃ v H',s'.os=s.os∧AllBare s'.gens∧Un (frs outer) [] H H' s.heap s'.heap∧HOk P w H' s'.heap∧RelV v u∧Q v H'
def CR (CX:CXT)(outer:List Env)(P:Program)(w:World)(H:Hp)(s:Shared)(Q:VK)(E:XK)(r:Result)(s':Shared):Prop :=
 match r with
 | .ok (.ret u)=>CE outer P w H s Q u s'
 | .ok _=>False
 | .error e=>CX outer H s E e s'
structure Bx (P:Program) (w:World) (K:PySem.W.Frag) (mg:Str→Option Value) (base:Heap) (CX:CXT) (k:Nat) (f:Addr) (fd:FuncData) (ps:List Str) (sp:Sp):Prop where
 len:∀ vs H Q E,sp vs H Q E→vs.length=ps.length
 run:∀(A:Around) (outer:List Env) (s:Shared) (H:Hp) (args:Args) (us:List Value) (vs:List V) (Q:VK) (E:XK),Hn k A→AaA P w K mg base A outer s H→BindsTo s fd args (ps.zip us)→Vals vs us→sp vs H Q E →
  codeAny (model P w) A (.call (.ref f) args) (CR CX outer P w H s Q E) s
theorem Bx.mono{P:Program}{w:World}{K:PySem.W.Frag}{mg:Str→Option Value}{base:Heap}{CX:CXT}{j k:Nat}{f:Addr}{fd:FuncData}{ps:List Str}{sp:Sp}(F:Bx P w K mg base CX j f fd ps sp)(h:j≤k) :
  Bx P w K mg base CX k f fd ps sp:=⟨F.len,fun A outer s H args us vs Q E hr=>F.run A outer s H args us vs Q E (hr.mono h)⟩
section
variable {X:Cx}{pins:List (Addr × Obj)}{σ:St}{H:Hp}{s s':Shared}
theorem Inv.env0(I:Inv X pins σ H s):AaA X.prog X.w X.K X.mg X.base X.A X.stack s H :=
 ⟨I.ok.frames,I.ok.mod,I.bs,Ais I.ok.bsz I.sz,I.stack,I.U4,I.hok,I.bare⟩
theorem Inv.after{Q:VK}{u:Value}(I:Inv X pins σ H s)(h:CE X.stack X.prog X.w H s Q u s'):EP X pins σ Q u s':=by
 obtain⟨v,H',os,bare,un,hok,r,q⟩:=h
 obtain⟨hh,g,d,t,os'⟩:=s'
 obtain rfl:os'=s.os:=os
 exact⟨v,H',I.call (h':=hh) (g':=g) (d':=d) (t':=t) (ch:=[]) un hok bare (fun b z=>absurd z (by simp)),r,q⟩
end
def Ae6 (sp:Sp)(dvs:List V)(E:XK)(t:TA):TE:=fun σ H Q=>t σ H fun vs H1=>sp (vs++dvs) H1 Q E
def AgX (C:Addr)(m:Str)(sp:Sp)(dvs:List V)(E:XK)(ta:TE)(t:TA):TE:=fun σ H Q=>ta σ H fun x H1=>∃ a dx fs,x=.ref a∧H1 a=some (.ins C dx fs)∧fs.lookup m=none ∧
 t σ H1 fun vs H2=>sp (x::(vs++dvs)) H2 Q E
def AgY (C:Addr)(sp:Sp)(dvs:List V)(E:XK)(t:TA):TE:=fun σ H Q=>t σ H fun vs H1=>∀ x dx,H1 x=none→H1 dx=none→dx≠x →
 sp (.ref x::(vs++dvs)) (upd (upd H1 dx (.own x)) x (.ins C dx [])) (fun v H2=>v=.non∧Q (.ref x) H2) E
def Binds(K:PySem.W.Frag)(fd:FuncData)(ps:List Str)(ds:List Value):Prop :=
 ∀(s:Shared) (us:List Value),K.In s.heap→(us++ds).length=ps.length→BindsTo s fd ⟨us,[]⟩ (ps.zip (us++ds))
theorem Binds.all{K:PySem.W.Frag}{fd:FuncData}{ps:List Str}(h:∀ us:List Value,us.length=ps.length→bindArgs fd ⟨us,[]⟩=pure (ps.zip us)):Binds K fd ps []:=fun s us _ hl=>by
 rw[AiA] at hl ⊢
 exact .of_eq (h us hl)
def Passes(CX:CXT)(X:Cx)(E:XK):Prop:=∀(pins:List (Addr × Obj)) (σ:St) (H:Hp) (s:Shared) (e:Value) (s':Shared),Inv X pins σ H s→CX X.stack H s E e s'→X.xe e s'
section
variable {X:Cx}{CX:CXT}{k:Nat}{f C:Addr}{fd:FuncData}{ps:List Str}{sp:Sp}{dvs:List V}{ds:List Value}{E:XK}{x m:Str}{p pos apos:Pos}{e o:Expr}{es:List Expr}{ta:TE}{t:TA}
theorem Adp{pins:List (Addr × Obj)}{σ:St}{H:Hp}{s:Shared}{Q:VK}{us:List Value}{vs:List V}(F:Bx X.prog X.w X.K X.mg X.base CX k f fd ps sp)(hr:Hn k X.A)(hb:Binds X.K fd ps ds)(hd:Vals dvs ds)(hx:Passes CX X E)
  (I:Inv X pins σ H s) (r:Vals vs us) (h:sp (vs++dvs) H Q E):wpAny (model X.prog X.w) X.A (call (.ref f) us) (EP X pins σ Q) X.xe s:=by
 have r2:Vals (vs++dvs) (us++ds):=r.append hd
 have hl:(us++ds).length=ps.length:=by rw[← r2.length];exact F.len _ _ _ _ h
 refine wpAny_call (codeAny_mono (F.run X.A X.stack s H ⟨us,[]⟩ (us++ds) (vs++dvs) Q E hr I.env0 (hb s us I.kIn hl) r2 h) fun r s' hq=>?_)
 cases r with
 | error e=>exact hx pins σ H s e s' I hq
 | ok fl =>
  cases fl with
  | ret u=>exact I.after hq
  | next=>exact False.elim hq
  | brk=>exact False.elim hq
  | cont=>exact False.elim hq
theorem Bd(F:Bx X.prog X.w X.K X.mg X.base CX k f fd ps sp)(hr:Hn k X.A)(hg:Gl X x)(hm:X.mg x=some (.ref f))(hk:PySem.W.keepIn X.K (.ref f)=true)(hb:Binds X.K fd ps ds)(hd:Vals dvs ds)(hx:Passes CX X E)
  (ha:PA X (e::es) t) (hdb:(x == ("__debug__" : Str))=false:=by decide) (he:starEach (e::es) X.env=(false,eval e X.env)::starEach es X.env:=by rfl) (hpl:(backTo pos (starEach es X.env)).any (·.1)=false:=by rfl) :
  PE X (.Call (.Name x p) (e::es) [] pos) (Ae6 sp dvs E t):=by
 intro pins s σ H Q I h
 refine wpAny_Call_Name_kw (YW I hg hm ?_ hdb)
 refine PySem.W.callWith_K (h₀:=X.base) I.ok.mod.kin hk (thn (ha pos pins s σ H _ I h) fun us s1 ⟨vs,H1,I1,r,q⟩=>⟨I1.kIn,?_⟩) he hpl
 exact Adp F hr hb hd hx I1 r q
structure Mk (K:PySem.W.Frag) (C f:Addr):Prop where
 makes:PySem.W.makesIn K C=true
 init:PySem.W.findIn K (.ref C) "__init__" = some (some (.ref f))
 fn:PySem.W.isFn K (.ref f)=true
 kp:PySem.W.keepIn K (.ref C)=true
end
def PK (X:Cx)(kws:List Keyword)(t:TA):Prop :=
 ∀(pos:Pos) (pins:List (Addr × Obj)) (s:Shared) (σ:St) (H:Hp) (Q:List V→Hp→Prop),Inv X pins σ H s→t σ H Q→wpAny (model X.prog X.w) X.A (evalAll ((backToKw pos (keywordEach kws X.env)).map (·.2))) (AP X pins σ Q) X.xe s
section
variable {X:Cx}{CX:CXT}{k:Nat}{f C:Addr}{fd:FuncData}{ps ks:List Str}{sp:Sp}{E:XK}{x m:Str}{p pos apos Ah6:Pos}{e o:Expr}{es:List Expr}{kws:List Keyword}{te ta:TE}{t tk:TA}{nm:Option Str}
structure Agg (K:PySem.W.Frag) (fd:FuncData) (ps ks:List Str) (g:List Value→List Value→List Value) (gV:List V→List V→List V):Prop where
 to:∀(s:Shared) (us ws:List Value),K.In s.heap→(g us ws).length=ps.length→BindsTo s fd ⟨us,ks.zip ws⟩ (ps.zip (g us ws))
 rel:∀{vs:List V} {us:List Value} {zs:List V} {ws:List Value},Vals vs us→Vals zs ws→Vals (gV vs zs) (g us ws)
def Agh (sp:Sp)(gV:List V→List V→List V)(E:XK)(t tk:TA):TE:=fun σ H Q=>t σ H fun vs H1=>tk σ H1 fun zs H2=>sp (gV vs zs) H2 Q E
variable {g:List Value→List Value→List Value}{gV:List V→List V→List V}
end
structure Bq (N P:List Str) (sc:Scope):Prop where
 kind:sc.kind=.function
 co:sc.isCoroutine=false
 gen:sc.isGenerator=false
 nd:N.Nodup
 pre:N.take P.length=P
 par:∀ x∈P,sc.names.lookup x=some .local∨sc.names.lookup x=some .cell
 Adq:∀ y∈sc.names,y.2≠.free
theorem Uc{kindOf:Str→Option NameKind}{x:Str}:∀{binds:List (Str × Value)} {m:Str→Option Value},(∀ v,(x,v)∉binds)→bindL kindOf binds m x=m x
 | [],_,_=>rfl
 | (n,v)::r,m,h=>by
  unfold bindL
  rw[Uc fun w hw=>h w (Aij _ hw)]
  split
  ·have:x≠n:=by rintro rfl;exact h v Aii
   simp[this]
  ·rfl
theorem Ud{kindOf:Str→Option NameKind}{x:Str}:∀{binds:List (Str × Value)} {m:Str→Option Value},(∀ v,(x,v)∉binds)→bindC kindOf binds m x=m x
 | [],_,_=>rfl
 | (n,v)::r,m,h=>by
  unfold bindC
  rw[Ud fun w hw=>h w (Aij _ hw)]
  split
  ·rfl
  ·have:x≠n:=by rintro rfl;exact h v Aii
   simp[this]
theorem Ue{kindOf:Str→Option NameKind}{x:Str}{v:Value}:∀{P:List Str} {vs:List Value} {i:Nat} {m:Str→Option Value},P.Nodup→P[i]?=some x→vs[i]?=some v→kindOf x=some .local →
  bindL kindOf (P.zip vs) m x=some v
 | [],_,_,_,_,h,_,_=>by simp at h
 | _::_,[],_,_,_,_,h,_=>by simp at h
 | p::P,w::vs,0,m,nd,h1,h2,hk=>by
  simp at h1 h2;subst h1;subst h2
  show bindL kindOf ((p,w)::P.zip vs) m p=_
  unfold bindL
  rw[Uc fun v hv=>(List.nodup_cons.mp nd).1 (List.of_mem_zip hv).1,if_pos hk]
  simp
 | p::P,w::vs,i+1,m,nd,h1,h2,hk=>by
  show bindL kindOf ((p,w)::P.zip vs) m x=_
  unfold bindL
  exact Ue (i:=i) (List.nodup_cons.mp nd).2 (by simpa using h1) (by simpa using h2) hk
theorem Ug{kindOf:Str→Option NameKind}{x:Str}{v:Value}:∀{P:List Str} {vs:List Value} {i:Nat} {m:Str→Option Value},P.Nodup→P[i]?=some x→vs[i]?=some v→kindOf x≠some .local →
  bindC kindOf (P.zip vs) m x=some v
 | [],_,_,_,_,h,_,_=>by simp at h
 | _::_,[],_,_,_,_,h,_=>by simp at h
 | p::P,w::vs,0,m,nd,h1,h2,hk=>by
  simp at h1 h2;subst h1;subst h2
  show bindC kindOf ((p,w)::P.zip vs) m p=_
  unfold bindC
  rw[Ud fun v hv=>(List.nodup_cons.mp nd).1 (List.of_mem_zip hv).1,if_neg hk]
  simp
 | p::P,w::vs,i+1,m,nd,h1,h2,hk=>by
  show bindC kindOf ((p,w)::P.zip vs) m x=_
  unfold bindC
  exact Ug (i:=i) (List.nodup_cons.mp nd).2 (by simpa using h1) (by simpa using h2) hk
def start(N:List Str)(vs:List V):St:=vs.map some++List.replicate (N.length-vs.length) none
def U8 (CX:CXT)(P:Program)(w:World)(K:PySem.W.Frag)(mg:Str→Option Value)(base:Heap)(N:List Str)(qual:Str)(scope:Scope)(f:Addr)(cd:Value)(A:Around)(outer:List Env)(s:Shared)(H:Hp)(E:XK):Cx where
 prog:=P
 w:=w
 K:=K
 mg:=mg
 base:=base
 A:=A.deeper (envOfC qual scope s.heap.objs.size f cd)
 N:=N
 s₀:=s
 H₀:=H
 env:=envOfC qual scope s.heap.objs.size f cd
 outer:=outer
 stack:=envOfC qual scope s.heap.objs.size f cd::outer
 ex:=[]
 calm:=true
 fn:=fun _=>true
 pn:=[]
 xe:=fun e s'=>wpAny (model P w) (A.deeper (envOfC qual scope s.heap.objs.size f cd)) (leaving (envOfC qual scope s.heap.objs.size f cd) e) (fun _ s''=>CX outer H s E e s'') (fun e' s''=>CX outer H s E e' s'') s'
theorem Wn{sc:Scope}{n:Nat}{x:Str}(h:sc.names.lookup x=some .cell):∃ c,(cellsFrom n sc.names []).lookup x=some c:=by
 have q:=PySem.W.cellsFrom_some sc.names n [] (.inl h)
 exact Option.isSome_iff_exists.mp q
theorem ZR{CX:CXT}{P:Program}{w:World}{K:PySem.W.Frag}{mg:Str→Option Value}{base:Heap}{N ps:List Str}{qual:Str}{scope:Scope}{f:Addr}{cd:Value}{A:Around}{outer:List Env}{s s1:Shared}{H:Hp}{E:XK}{us:List Value}{vs:List V}
  (S:Bq N ps scope) (hd:A.handled=none) (e0:AaA P w K mg base A outer s H) (hl:vs.length=ps.length) (r:Vals vs us)
  (x:InCallC s s.heap.objs.size (bindL (envOfC qual scope s.heap.objs.size f cd).kindOf (ps.zip us) fun _=>none) (cellsFrom (s.heap.objs.size+1) scope.names []) (bindC (envOfC qual scope s.heap.objs.size f cd).kindOf (ps.zip us) fun _=>none) s1) :
  Inv (U8 CX P w K mg base N qual scope f cd A outer s H E) [] (start N vs) H s1:=by
 have hpl:ps.length≤N.length:=by have:=congrArg List.length S.pre;rw[Aib] at this;omega
 obtain⟨h1,tk,rfl,hk⟩:=x.done
 have noA:∀ b:Addr,b∉(U8 CX P w K mg base N qual scope f cd A outer s H E).ex:=fun b z=>absurd (show b∈([]:List Addr) from z) (by simp)
 refine⟨⟨e0.mod,S.kind,rfl,rfl,AhX _,fun y z c h1 h2=>?_,fun y hy=>?_,fun y c _ h=>?_,fun _=>hd,Around.frames_deeper e0.frames,.inr ⟨rfl,rfl⟩,fun b z=>absurd z (noA b),e0.bs,e0.bsz,fun b _ _=>noA b,fun b z=>absurd z (noA b),e0.Rv,e0.frf⟩,
  rfl,e0.bare,Un.kept hk,⟨_,x.toInCall.ns,fun i y v h1 h2 h3=>?_⟩,fun y c h=>⟨_,x.cell y c h⟩,e0.hok.fresh (AhX _),fun y c h=>?_,fun p hp=>absurd (show p∈([]:List (Addr × Obj)) from hp) (by simp),e0.hok.kept hk,?_⟩
 ·exact name_of_addr x.apart (PySem.mem_of_lookup h1) (PySem.mem_of_lookup h2)
 ·have hy:scope.names.lookup y=some .cell∨scope.names.lookup y=some .free:=hy
  rcases hy with hy | hy
  ·exact Wn hy
  ·exact absurd rfl (S.Adq _ (PySem.mem_of_lookup hy))
 ·exact Ajc (x.above y c (PySem.mem_of_lookup h))
 ·have hi:i<vs.length:=by
   unfold start at h2
   by_cases hi:i<vs.length
   ·exact hi
   ·rw[AiB (by simpa using hi)] at h2
    rw[List.getElem?_replicate] at h2
    split at h2 <;> cases h2
  have ha:vs[i]?=some v:=by
   unfold start at h2
   rw[AiG (by simpa using hi),Aip] at h2
   cases e:vs[i]? with
   | none=>rw[e] at h2;cases h2
   | some a=>rw[e] at h2;cases h2;rfl
  obtain⟨u,hu,rv⟩:=r.get ha
  have hp:ps[i]?=some y:=by
   rw[← S.pre,AiR (by omega)];exact h1
  have ndP:ps.Nodup:=by rw[← S.pre];exact S.nd.sublist (AiU _ _)
  refine⟨u,rv,?_⟩
  rcases S.par y (Aiv hp) with k | k
  ·exact .inl ⟨k,Ue ndP hp hu k⟩
  ·obtain⟨c,e⟩:=Wn (n:=s.heap.objs.size+1) k
   refine .inr ⟨.inl k,c,e,?_⟩
   have q:=x.cell y c e
   rw[Ug ndP hp hu (by show scope.names.lookup y≠_;rw[k];decide)] at q
   exact q
 ·exact e0.hok.fresh (Ajc (x.above y c (PySem.mem_of_lookup h)))
 ·unfold start
  show _=N.length
  rw[Aid,AhZ,List.length_replicate]
  omega
theorem AcI{CX:CXT}{P:Program}{w:World}{K:PySem.W.Frag}{mg:Str→Option Value}{base:Heap}{k:Nat}{f:Addr}{name qual:Str}{params:Arguments}{body:List Stmt}{scope:Scope}{dV kV doc pm cdv ct oc:Value}{an od:Option Addr}
  {osl:Array (Option Value)}{N ps:List Str}{sp:Sp} (lk:K.lookup f=some ⟨oc,od,.func (PySem.W.fnOf name qual params body scope dV kV doc pm an cdv ct),osl⟩) (hcd:PySem.W.codeIn K cdv qual=true) (S:Bq N ps scope)
  (len:∀ vs H Q E,sp vs H Q E→vs.length=ps.length)
  (hbody:∀(A:Around) (outer:List Env) (s:Shared) (H:Hp) (vs:List V) (Q:VK) (E:XK),Hn k (A.deeper (envOfC qual scope s.heap.objs.size f cdv))→sp vs H Q E →
   ∃ t,PSs (U8 CX P w K mg base N qual scope f cdv A outer s H E) body t∧t { nx:=fun _ H'=>Q .non H',rt:=Q } (start N vs) H) :
  Bx P w K mg base CX (k+1) f (PySem.W.fnOf name qual params body scope dV kV doc pm an cdv ct) ps sp:=by
 refine⟨len,fun A outer s H args us vs Q E hr e0 hb r hsp=>?_⟩
 have hl:=len _ _ _ _ hsp
 have KX:K.In s.heap:=e0.mod.kin.keeps fun b o e=>(e0.bs b o e).1
 have lim:s.heap.NoLimit:=e0.mod.nolimit.keeps fun b o e=>(e0.bs b o e).1
 have hkind:∀ y∈ps.zip us,scope.names.lookup y.1=some .local∨(scope.names.lookup y.1=some .cell∧((cellsFrom (s.heap.objs.size+1) scope.names []).lookup y.1).isSome=true):=fun⟨n,v⟩ hy=>by
  rcases S.par n (List.of_mem_zip hy).1 with q | q
  ·exact .inl q
  ·exact .inr ⟨q,PySem.W.cellsFrom_some _ _ _ (.inl q)⟩
 refine codeAny_call_function hr.depth (KX _ _ lk) rfl S.co S.gen rfl (PySem.W.codeRec_of KX hcd) (hb _ _ _ _ ?_)
 refine wpAny_newFunctionEnv_cells S.kind hkind fun env he s1 x=>?_
 subst he
 refine⟨lim.keeps x.toInCall.keep,codeAny_func ?_⟩
 obtain⟨t,ht,hq⟩:=hbody A outer s H vs Q E (hr.deeper _) hsp
 have I:Inv (U8 CX P w K mg base N qual scope f cdv A outer s H E) [] (start N vs) H s1:=ZR S hr.hd e0 hl r x
 refine wpAny_mono (ht [] s1 (start N vs) H _ I hq) (fun fl s' hs=>?_) fun e s' hs=>hs
 have fin:∀{σ':St} {H':Hp} {v:V} {u:Value},Inv (U8 CX P w K mg base N qual scope f cdv A outer s H E) [] σ' H' s'→RelV v u→Q v H'→CE outer P w H s Q u s' :=
  fun {σ' H' v u} J rv q=>⟨v,H',J.os,J.bare,J.base,J.hok,rv,q⟩
 cases fl with
 | ret u =>
  obtain⟨v,σ',H',J,rv,q⟩:=hs
  exact fin J rv q
 | next =>
  obtain⟨σ',H',J,q⟩:=hs
  exact fin (v:=V.non) (u:=Value.none) J rfl q
 | brk =>
  obtain⟨_,_,_,q⟩:=hs
  exact False.elim q
 | cont =>
  obtain⟨_,_,_,q⟩:=hs
  exact False.elim q
open PySem PySem.Spec PyProof.Rows
section
variable {X:Cx}{x:Str}{p pos:Pos}{e:Expr}{es:List Expr}{t:TA}{id T:String}{r:List V→Hp→VK→Prop}
def tCB (r:List V→Hp→VK→Prop)(t:TA):TE:=fun σ H Q=>t σ H fun vs H1=>r vs H1 Q
theorem An(hc:Hm X (.builtin id) r)(hg:Gl X x)(hm:X.mg x=none)(hv:bootBuiltins x=some (.builtin id))(ha:PA X (e::es) t)(hn:x ≠ "__name__" := by decide) (hdb:(x == ("__debug__" : Str))=false:=by decide)
  (he:starEach (e::es) X.env=(false,eval e X.env)::starEach es X.env:=by rfl) (hpl:(backTo pos (starEach es X.env)).any (·.1)=false:=by rfl):PE X (.Call (.Name x p) (e::es) [] pos) (tCB r t):=by
 intro pins s σ H Q I h
 refine wpAny_Call_Name_kw (KC I hg hm hv ?_ hn hdb)
 exact PyProof.Rows.callWith_builtin1 (thn (ha pos pins s σ H _ I h) fun us s1 ⟨vs,H1,I1,r1,q1⟩=>hc pins s1 σ H1 vs us Q I1 r1 q1) he hpl
theorem Ff(hc:Hm X (.type T) r)(hg:Gl X x)(hm:X.mg x=none)(hv:bootBuiltins x=some (.type T))(ha:PA X (e::es) t)(hn:x ≠ "__name__" := by decide) (hdb:(x == ("__debug__" : Str))=false:=by decide)
  (he:starEach (e::es) X.env=(false,eval e X.env)::starEach es X.env:=by rfl) (hpl:(backTo pos (starEach es X.env)).any (·.1)=false:=by rfl):PE X (.Call (.Name x p) (e::es) [] pos) (tCB r t):=by
 intro pins s σ H Q I h
 refine wpAny_Call_Name_kw (KC I hg hm hv ?_ hn hdb)
 exact PyProof.Rows.callWith_type1 (thn (ha pos pins s σ H _ I h) fun us s1 ⟨vs,H1,I1,r1,q1⟩=>hc pins s1 σ H1 vs us Q I1 r1 q1) he hpl
end
end L2
namespace HT
open PySem PyProof.Rows
def lexLt:List Int→List Int→Bool
 | [],[]=>false
 | [],_::_=>true
 | _::_,[]=>false
 | x::xs,y::ys=>if x=y then lexLt xs ys else decide (x<y)
section
open PySem.SeqAt
open PySem.AutoSeq1 (wpAny_loadPart')
open PySem.MeetsSeq PySem.MeetsSeq2 PySem.MeetsSeq3
end
section
variable {prog:Program}{w:World}{A:Around}{E:Value→Shared→Prop}{s:Shared}
def sIx (n d:Nat):Option Int→Nat
 | none=>d
 | some v=>if v<0 then (v+(n:Int)).toNat else min v.toNat n
theorem Wo(n d:Nat):sIx n d none=d:=rfl
theorem Ox(n d k:Nat):sIx n d (some (k:Int))=min k n:=by
 show(if (k:Int)<0 then ((k:Int)+(n:Int)).toNat else min (k:Int).toNat n)=min k n
 rw[if_neg (by omega),Air]
end
end HT
namespace L2
open PySem PySem.Spec PyProof.Rows
abbrev TO:=St→Hp→(Option Int→Hp→Prop)→Prop
def PO (X:Cx)(e:Option Expr)(t:TO):Prop :=
 ∀(pins:List (Addr × Obj)) (s:Shared) (σ:St) (H:Hp) (Q:Option Int→Hp→Prop),Inv X pins σ H s→t σ H Q →
  wpAny (model X.prog X.w) X.A (evalPart e X.env) (fun u s'=>∃ o H',Inv X pins σ H' s'∧IsPart u o∧Q o H') X.xe s
def AbU:TO:=fun _ H Q=>Q none H
def Ae7 (t:TE):TO:=fun σ H Q=>t σ H fun x H1=>∃ i,x=.int i∧Q (some i) H1
theorem intsAre_of{ns:List Int}:∀{us:List Value},Vals (ns.map V.int) us→IntsAre us ns:=by
 induction ns with
 | nil=>intro us r;rw[AiH] at r;cases r;exact .nil
 | cons n ns ih =>
  intro us r
  rw[Aiq] at r
  cases r with
  | cons r1 r2 =>
   obtain⟨t,e⟩:=r1
   subst e
   exact .cons n t (ih r2)
section
variable {X:Cx}{e:Expr}{te:TE}{lo hi:Option Expr}{tl th:TO}{pos p2:Pos}
theorem Hb:PO X none AbU:=by
 intro pins s σ H Q I h
 rw[evalPart_none]
 exact wpAny_pure ⟨none,H,I,.none,h⟩
theorem Ei(h:PE X e te):PO X (some e) (Ae7 te):=by
 intro pins s σ H Q I hw
 rw[evalPart_some]
 refine thn (h pins s σ H _ I hw) fun u s1 ⟨x,H1,I1,r1,q1⟩=>?_
 obtain⟨i,rfl,q⟩:=q1
 obtain⟨t,rfl⟩:=r1
 exact⟨some i,H1,I1,.int i t,q⟩
def SlR (X:Cx)(r:V→Option Int→Option Int→Hp→VK→Prop):Prop :=
 ∀(pins:List (Addr × Obj)) (s:Shared) (σ:St) (H:Hp) (x:V) (v vl vu:Value) (lo hi:Option Int) (sl:Addr) (Q:VK),Inv X pins σ H s→RelV x v→s.heap.IsSliceOf sl vl vu .none→IsPart vl lo→IsPart vu hi→r x lo hi H Q →
  ∃ T id,typeLookup (.type T) "__getitem__" = pure (some (.builtin id))∧s.TypeIs v T∧wpAny (model X.prog X.w) X.A (getItem v (.ref sl)) (EP X pins σ Q) X.xe s
def tSl (r:V→Option Int→Option Int→Hp→VK→Prop)(te:TE)(tl th:TO):TE:=fun σ H Q=>te σ H fun x H1=>tl σ H1 fun l H2=>th σ H2 fun u H3=>r x l u H3 Q
theorem DR{r:V→Option Int→Option Int→Hp→VK→Prop}(hr:SlR X r)(he:PE X e te)(hl:PO X lo tl)(hu:PO X hi th):PE X (.Subscript e (.Slice lo hi none p2) pos) (tSl r te tl th):=by
 intro pins s σ H Q I h
 refine Subscript_ (thn (he pins s σ H _ I h) fun v s1 ⟨x,H1,I1,r1,q1⟩=>?_)
 refine wpAny_Slice (thn (hl pins s1 σ H1 _ I1 q1) fun vl s2 ⟨l,H2,I2,pl,q2⟩=>thn (hu pins s2 σ H2 _ I2 q2) fun vu s3 ⟨u,H3,I3,pu,q3⟩=>?_)
 rw[evalPart_none]
 refine wpAny_pure ?_
 have I4:Inv X pins σ H3 { s3 with heap:=s3.heap.push { cls:=.type "slice", data:=.fields #[vl,vu,.none] } }:=I3.kept (t':=s3.toks) fun b ob q=>Heap.get?_push_of_some _ q
 obtain⟨T,id,hT,ht,hg⟩:=hr pins { s3 with heap:=s3.heap.push { cls:=.type "slice", data:=.fields #[vl,vu,.none] } } σ H3 x v vl vu l u s3.heap.objs.size Q I4 r1 (Heap.IsSliceOf.new ..) pl pu q3
 show wpAny (model X.prog X.w) X.A (subscriptTail e (.Slice lo hi none p2) v (.ref s3.heap.objs.size)) (EP X pins σ Q) X.xe { s3 with heap:=s3.heap.push { cls:=.type "slice", data:=.fields #[vl,vu,.none] } }
 exact tail_any (ops:=[.ref s3.heap.objs.size,v]) ht hT hg (by with_unfolding_all rfl)
def Jw (xs:List V)(lo hi:Option Int):List V:=(xs.drop (HT.sIx xs.length 0 lo)).take (HT.sIx xs.length xs.length hi-HT.sIx xs.length 0 lo)
theorem Wq(xs:List V)(lo hi:Option Int):(Jw xs lo hi).length≤xs.length:=by
 unfold Jw
 rw[Aib,Aim]
 omega
def Ah7 (K:PySem.W.Frag):V→Option Int→Option Int→Hp→VK→Prop:=fun x lo hi H Q=>∃ a xs,x=.ref a∧SqT K H a xs ∧
 ¬(HT.sIx xs.length 0 lo=0∧HT.sIx xs.length xs.length hi=xs.length)∧∀ p,H p=none→Q (.ref p) (upd H p (.tup (Jw xs lo hi)))
def Ah8 (K:PySem.W.Frag):R2:=fun x y H Q=>∃ a b ns ms,x=.ref a∧y=.ref b∧SqT K H a (ns.map V.int)∧SqT K H b (ms.map V.int)∧Q (.bl (HT.lexLt ns ms)) H
def AgZ (K:PySem.W.Frag):R2:=fun x y H Q=>∃ a b xs ys,x=.ref a∧y=.ref b∧SqT K H a xs∧SqT K H b ys∧xs≠[]∧xs.length+ys.length≤sizeLine ∧
 (ys=[]→Q (.ref a) H)∧(ys≠[]→∀ p,H p=none→Q (.ref p) (upd H p (.tup (xs++ys))))
end
open PySem PySem.Spec PyProof.Rows
def ixN (n:Nat)(i:Int):Option Nat:=if 0≤i then (if i<n then some i.toNat else none) else if -(n:Int)≤i then some (i+n).toNat else none
def atI {α:Type}(xs:List α)(i:Int):Option α:=(ixN xs.length i).bind fun j=>xs[j]?
theorem Ze{n:Nat}{i:Int}{j:Nat}(h:ixN n i=some j):seqIndex? i n=some j∧j<n ∧ -(n:Int)≤i∧i<n:=by
 unfold ixN at h
 by_cases h0:0≤i
 ·rw[if_pos h0] at h
  by_cases h1:i<n
  ·rw[if_pos h1] at h
   have e:i.toNat=j:=Option.some.inj h
   exact⟨by rw[seqIndex_of h0 h1,e],by omega,by omega,h1⟩
  ·rw[if_neg h1] at h;cases h
 ·rw[if_neg h0] at h
  by_cases h1 : -(n:Int)≤i
  ·rw[if_pos h1] at h
   have e:(i+n).toNat=j:=Option.some.inj h
   exact⟨by rw[seqIndex_neg (by omega) h1,e],by omega,h1,by omega⟩
  ·rw[if_neg h1] at h;cases h
theorem U9{α:Type}{xs:List α}{i:Int}{v:α}(h:atI xs i=some v):∃ j,seqIndex? i xs.length=some j∧xs[j]?=some v∧j<xs.length ∧ -(xs.length:Int)≤i∧i<xs.length:=by
 unfold atI at h
 cases e:ixN xs.length i with
 | none=>rw[e] at h;cases h
 | some j =>
  rw[e] at h
  obtain⟨h1,h2,h3,h4⟩:=Ze e
  exact⟨j,h1,h,h2,h3,h4⟩
theorem Zf{α:Type}{xs:List α}{j:Nat}{v:α}(h:xs[j]?=some v):atI xs (j:Int)=some v:=by
 have hj:j<xs.length:=(List.getElem?_eq_some_iff.mp h).1
 have e:ixN xs.length (j:Int)=some j:=by
  unfold ixN
  rw[if_pos (by omega),if_pos (by omega)];simp
 unfold atI;rw[e];exact h
def AbV (b:Expr):Prop:=∀ o i,subscripted b false o i=operate [o,i] (getItem o i)
def IxR (X:Cx)(r:R2):Prop :=
 ∀(value slice:Expr) (pins:List (Addr × Obj)) (s:Shared) (σ:St) (H:Hp) (x y:V) (v u:Value) (Q:VK),Inv X pins σ H s→RelV x v→RelV y u→r x y H Q →
  subscripted slice false v u=operate [v,u] (getItem v u)→wpAny (model X.prog X.w) X.A (subscriptTail value slice v u) (EP X pins σ Q) X.xe s
def MtR (X:Cx)(id:String)(r:V→List V→Hp→VK→Prop):Prop :=
 ∀(pins:List (Addr × Obj)) (s:Shared) (σ:St) (H:Hp) (x:V) (xs:List V) (v:Value) (us:List Value) (Q:VK),Inv X pins σ H s→RelV x v→Vals xs us→r x xs H Q →
  wpAny (model X.prog X.w) X.A (call (.builtin id) (v::us)) (EP X pins σ Q) X.xe s
section
variable {X:Cx}{a b:Expr}{ta tb:TE}{pos:Pos}
theorem Aq{r:R2}(hr:IxR X r)(ha:PE X a ta)(hb:PE X b tb)(hs:AbV b):PE X (.Subscript a b pos) (tOp r ta tb):=by
 intro pins s σ H Q I h
 exact Subscript_ (Adh ha hb I h fun v u s2 x y H2 I2 rx ry q=>hr a b pins s2 σ H2 x y v u Q I2 rx ry q (hs _ _))
def Ads (K:PySem.W.Frag):R2:=fun x y H Q=>∃ p xs i v,x=.ref p∧y=.int i∧SqL K H p xs∧atI xs i=some v∧Q v H
def Adt (K:PySem.W.Frag):R2:=fun x y H Q=>∃ p xs i v,x=.ref p∧y=.int i∧SqT K H p xs∧atI xs i=some v∧Q v H
def Ae8:R2:=fun x y H Q=>∃ z i c,x=.str z∧y=.int i∧z.length≤sizeLine∧atI z.cps.toList i=some c∧Q (.str ⟨#[c]⟩) H
theorem AbW:IxR X (Ads X.K):=by
 intro value slice pins s σ H x y v u Q I rx ry h hs
 obtain⟨p,xs,i,z,rfl,rfl,hq,he,q⟩:=h
 cases rx
 obtain⟨t,rfl⟩:=ry
 obtain⟨its,r,pl,hz⟩:=I.list hq
 obtain⟨j,h1,h2,h3,h4,h5⟩:=U9 he
 obtain⟨w,ew,rw'⟩:=r.get h2
 have hl:=r.length
 have hn:=Nu
 have fin:EP X pins σ Q w s:=⟨z,H,I,rw',q⟩
 by_cases h0:0≤i
 ·have hj:i.toNat=j:=by
   rw[seqIndex_of h0 h5] at h1
   exact Option.some.inj h1
  exact item_listR pl.isList h0 (by omega) (by rw[hj];simpa using ew) fin hs
 ·have hj:(i+(its.toArray.size:Int)).toNat=j:=by
   rw[seqIndex_neg (by omega) h4] at h1
   rw[Aia,← hl]
   exact Option.some.inj h1
  exact subscriptTail_builtinR (x:=w) pl.isList.typeIs slot_list_getitem.lookup
   (wpAny_getItem_list_neg (Q:=fun r s'=>r=w∧EP X pins σ Q r s') pl.isList (by omega) (by rw[Aia] <;> omega) (by omega) (by rw[hj];simpa using ew) ⟨rfl,fin⟩) hs
theorem Adu:IxR X (Adt X.K):=by
 intro value slice pins s σ H x y v u Q I rx ry h hs
 obtain⟨p,xs,i,z,rfl,rfl,hq,he,q⟩:=h
 cases rx
 obtain⟨t,rfl⟩:=ry
 obtain⟨its,r,pl,hz⟩:=I.tuple hq
 obtain⟨j,h1,h2,h3,h4,h5⟩:=U9 he
 obtain⟨w,ew,rw'⟩:=r.get h2
 have hl:=r.length
 have hn:=Nu
 have fin:EP X pins σ Q w s:=⟨z,H,I,rw',q⟩
 exact subscriptTail_builtinR (x:=w) pl.typeIs slot_tuple_getitem.lookup
  (getItem_tuple (j:=j) (Q:=fun r s'=>r=w∧EP X pins σ Q r s') pl (by omega) (by omega) (by rw[Aia,← hl];exact h1) (by simpa using ew) ⟨rfl,fin⟩) hs
theorem Nx:IxR X Ae8:=by
 intro value slice pins s σ H x y v u Q I rx ry h hs
 obtain⟨z,i,c,rfl,rfl,hz,he,q⟩:=h
 obtain⟨t,rfl⟩:=rx
 obtain⟨t',rfl⟩:=ry
 obtain⟨j,h1,h2,h3,h4,h5⟩:=U9 he
 have hl:z.cps.toList.length=z.length:=by simp[Str.length]
 rw[hl] at h1 h4 h5
 have hn:=Nu
 exact tail_any (typeIs_str s z t) slot_str_getitem.lookup (getItem_str (c:=c) (by
  have e1:decide (i < -(2 ^ 63:Int))=false:=decide_eq_false (by omega)
  have e2:decide (i ≥ 2 ^ 63)=false:=decide_eq_false (by omega)
  rw[e1,e2,Bool.or_false]) (by rw[h1];simpa using h2) ⟨.str ⟨#[c]⟩,H,I.tok _,⟨_,rfl⟩,q⟩) hs
def rIx (K:PySem.W.Frag):R2:=fun x y H Q=>Ads K x y H Q∨Adt K x y H Q∨Ae8 x y H Q
theorem Yi(its:List Value)(n j:Nat)(u:Value):Obj.mapSeq (·.setIfInBounds j u) { cls:=.type "list", data:=.seq its.toArray n }={ cls:=.type "list", data:=.seq (its.set j u).toArray n }:=by
 simp[Obj.mapSeq]
theorem Inv.lst{pins:List (Addr × Obj)}{σ:St}{H:Hp}{s:Shared}{p:Addr}{xs:List V}(I:Inv X pins σ H s)(h:H p=some (.lst xs)) :
  ∃(its:List Value) (n:Nat),Vals xs its∧s.heap.get? p=some { cls:=.type "list", data:=.seq its.toArray n }∧xs.length≤sizeLine:=by
 obtain⟨z,its,n,r,e⟩:=I.hok p _ h
 exact⟨its,n,r,e,z⟩
theorem Inv.Adv{pins:List (Addr × Obj)}{σ:St}{H:Hp}{s:Shared}{p:Addr}{xs ys:List V}{its its':List Value}{n n':Nat}{f:Obj→Obj}(I:Inv X pins σ H s)(h:H p=some (.lst xs))
  (ho:s.heap.get? p=some { cls:=.type "list", data:=.seq its.toArray n }) (hf:f { cls:=.type "list", data:=.seq its.toArray n }={ cls:=.type "list", data:=.seq its'.toArray n' }) (r:Vals ys its') (hz:ys.length≤sizeLine) (t:Nat) :
  Inv X pins σ (upd H p (.lst ys)) { s with heap:=s.heap.update p f,toks:=t }:=by
 have e:(s.heap.update p f).get? p=some { cls:=.type "list", data:=.seq its'.toArray n' }:=by
  rw[Heap.get?_update_self f ho (by rw[hf] <;> rfl),hf]
 refine I.write (x:=p) (e:=p) (by rw[h];trivial) (.inl rfl) (fun b u hb q=>(Heap.get?_update_other _ _ (Ne.symm hb)).trans q) ⟨_,e⟩ ?_
 exact⟨hz,its',n',r,e⟩
def Ae9:V→V→V→Hp→(Hp→Prop)→Prop:=fun o i v H Q=>∃ p xs k j,o=.ref p∧i=.int k∧H p=some (.lst xs)∧ixN xs.length k=some j∧Q (upd H p (.lst (xs.set j v)))
theorem set_list:Aew X Ae9:=by
 intro pins s σ H o i v ov iv u Q I ro ri rv h
 obtain⟨p,xs,k,j,rfl,rfl,hp,hj,q⟩:=h
 cases ro
 obtain⟨t,rfl⟩:=ri
 obtain⟨its,n,r,ho,hz⟩:=I.lst hp
 obtain⟨h1,h2,h3,h4⟩:=Ze hj
 have hl:=r.length
 have hn:=Nu
 have I':Inv X pins σ (upd H p (.lst (xs.set j v))) { s with heap:=s.heap.update p (Obj.mapSeq (·.setIfInBounds j u)) } :=
  I.Adv hp ho (Yi its n j u) (r.set rv j) (by rw[Ajq];exact hz) s.toks
 by_cases h0:0≤k
 ·have hk:k.toNat=j:=by
   rw[seqIndex_of h0 h4] at h1
   exact Option.some.inj h1
  exact PySem.W.ki_setAt ho h0 (by omega) (by rw[Aia,← hl];exact h4) (by rw[hk];exact⟨_,I',q⟩)
 ·have hk:(k+(its.toArray.size:Int)).toNat=j:=by
   rw[seqIndex_neg (by omega) h3] at h1
   rw[Aia,← hl]
   exact Option.some.inj h1
  exact PySem.W.ki_setBack ho (by omega) (by rw[Aia,← hl];exact h3) (by omega) (by rw[hk];exact⟨_,I',q⟩)
theorem UG(lo hi:Option Int)(n:Nat):(sliceBounds lo hi none n).1=((HT.sIx n 0 lo:Nat):Int)∧(sliceBounds lo hi none n).2.1=((HT.sIx n n hi:Nat):Int)∧(sliceBounds lo hi none n).2.2=1:=by
 refine⟨?_,?_,rfl⟩
 ·cases lo with
  | none=>simp[sliceBounds,HT.sIx]
  | some i =>
   simp only [sliceBounds,HT.sIx,Option.getD_none,show(1:Int)>0 by decide,if_true]
   by_cases h:i<0
   ·simp only [h,if_true] <;> omega
   ·simp only [h,if_false] <;> omega
 ·cases hi with
  | none=>simp[sliceBounds,HT.sIx]
  | some i =>
   simp only [sliceBounds,HT.sIx,Option.getD_none,show(1:Int)>0 by decide,if_true]
   by_cases h:i<0
   ·simp only [h,if_true] <;> omega
   ·simp only [h,if_false] <;> omega
theorem Tr(its:List Value)(lo hi:Option Int):slicePick its.toArray lo hi none=((its.drop (HT.sIx its.length 0 lo)).take (HT.sIx its.length its.length hi-HT.sIx its.length 0 lo)).toArray:=by
 obtain⟨h1,h2,h3⟩:=UG lo hi its.toArray.size
 unfold slicePick
 rw[h1,h2,h3]
 simp only [sliceRange_one,pick_run,Aia] <;> rfl
def AeA (K:PySem.W.Frag):V→Option Int→Option Int→Hp→VK→Prop:=fun x lo hi H Q=>∃ a xs,x=.ref a∧SqL K H a xs∧∀ p,H p=none→Q (.ref p) (upd H p (.lst (Jw xs lo hi)))
theorem AbX:SlR X (AeA X.K):=by
 intro pins s σ H x v vl vu lo hi sl Q I rx hs pl pu h
 obtain⟨a,xs,rfl,hx,q⟩:=h
 cases rx
 obtain⟨its,r,ht,hz⟩:=I.list hx
 have hlen:=r.length
 refine⟨"list", _,slot_list_getitem.lookup,ht.isList.typeIs,?_⟩
 refine wpAny_getItem_list_slice ht.isList hs pl pu .none (by simp) ?_ (by rw[Aia] <;> omega)
 rw[Tr,← hlen]
 refine⟨.ref s.heap.objs.size,_,I.laid (t':=s.toks) (o:=.lst (Jw xs lo hi)) (fun b ob q=>Heap.get?_push_of_some _ q) (AhX _) ?_,rfl,q _ (I.hok.fresh (AhX _))⟩
 exact⟨Ais (Wq xs lo hi) hz,_,0,(r.drop (HT.sIx xs.length 0 lo)).take (HT.sIx xs.length xs.length hi-HT.sIx xs.length 0 lo),Heap.get?_push_size _ rfl⟩
def Dq:V→Bool
 | .non=>true
 | .bl _=>true
 | .int _=>true
 | .str _=>true
 | _=>false
def eqV:V→V→Bool
 | .non,.non=>true
 | .bl a,.bl b=>a == b
 | .bl a,.int b=>(if a then 1 else 0) == b
 | .int a,.bl b=>a == (if b then 1 else 0)
 | .int a,.int b=>a == b
 | .str a,.str b=>a == b
 | _,_=>false
theorem RJ{A:Around}{s:Shared}{y x:V}{u v:Value}(ry:RelV y u)(rx:RelV x v)(fy:Dq y=true)(fx:Dq x=true):SeqAt.EqAt A s u v (eqV y x):=by
 cases y with
 | non =>
  cases ry
  cases x with
  | non=>cases rx;exact SeqAt.EqAt.same _
  | bl b=>cases rx;exact SeqAt.EqAt.none_bool b
  | int b=>obtain⟨t,rfl⟩:=rx;exact SeqAt.EqAt.none_int b t
  | str b=>obtain⟨t,rfl⟩:=rx;exact SeqAt.EqAt.none_str b t
  | _=>exact absurd (show false=true from fx) Ail
 | bl a =>
  cases ry
  cases x with
  | non=>cases rx;exact SeqAt.EqAt.bool_none a
  | bl b=>cases rx;exact SeqAt.EqAt.bool_bool a b
  | int b=>obtain⟨t,rfl⟩:=rx;exact SeqAt.EqAt.bool_int a b t
  | str b=>obtain⟨t,rfl⟩:=rx;exact SeqAt.EqAt.bool_str a b t
  | _=>exact absurd (show false=true from fx) Ail
 | int a =>
  obtain⟨t',rfl⟩:=ry
  cases x with
  | non=>cases rx;exact SeqAt.EqAt.int_none a t'
  | bl b=>cases rx;exact SeqAt.EqAt.int_bool a t' b
  | int b=>obtain⟨t,rfl⟩:=rx;exact SeqAt.EqAt.int_int a t' b t
  | str b=>obtain⟨t,rfl⟩:=rx;exact SeqAt.EqAt.int_str a t' b t
  | _=>exact absurd (show false=true from fx) Ail
 | str a =>
  obtain⟨t',rfl⟩:=ry
  cases x with
  | non=>cases rx;exact SeqAt.EqAt.str_none a t'
  | bl b=>cases rx;exact SeqAt.EqAt.str_bool a t' b
  | int b=>obtain⟨t,rfl⟩:=rx;exact SeqAt.EqAt.str_int a t' b t
  | str b=>obtain⟨t,rfl⟩:=rx;exact SeqAt.EqAt.str_str a t' b t
  | _=>exact absurd (show false=true from fx) Ail
 | _=>exact absurd (show false=true from fy) Ail
def eqU (x:V)(u:Value):Bool:=match u with
 | .none=>eqV .non x
 | .bool b=>eqV (.bl b) x
 | .int i _=>eqV (.int i) x
 | .str z _=>eqV (.str z) x
 | _=>false
def inV (x:V)(xs:List V):Bool:=xs.any fun y=>eqV y x
def rIn (K:PySem.W.Frag)(neg:Bool):R2:=fun x y H Q=>∃ p xs,y=.ref p∧(SqL K H p xs∨SqT K H p xs)∧Dq x=true∧xs.all Dq=true∧Q (.bl (if neg then !inV x xs else inV x xs)) H
theorem UJ:Hm X (.builtin "len") (fun xs H Q=>∃ p ys,xs=[.ref p]∧(SqL X.K H p ys∨SqT X.K H p ys)∧Q (.int ys.length) H):=by
 intro pins s σ H xs us Q I r h
 obtain⟨p,ys,rfl,hq,q⟩:=h
 obtain⟨u,rfl,rx⟩:=vals1 r
 cases rx
 have hn:=Nu
 rcases hq with hq | hq
 ·obtain⟨its,r',pl,hz⟩:=I.list hq
  have hlen:=r'.length
  exact Calls.call_len_list pl.isList (by simp only [Aia] <;> omega) ⟨.int ys.length,H,I.tok _,⟨s.toks+1,by rw[Aia,hlen]⟩,q⟩
 ·obtain⟨its,r',pl,hz⟩:=I.tuple hq
  have hlen:=r'.length
  exact len_tuple pl (by simp only [Aia] <;> omega) ⟨.int ys.length,H,I.tok _,⟨s.toks+1,by rw[Aia,hlen]⟩,q⟩
theorem JG:Hm X (.builtin "len") (fun xs H Q=>∃ z,xs=[.str z]∧z.length≤sizeLine∧Q (.int z.length) H):=by
 intro pins s σ H xs us Q I r h
 obtain⟨z,rfl,hz,q⟩:=h
 obtain⟨u,rfl,t,rfl⟩:=vals1 r
 have hn:=Nu
 exact len_str (by omega) ⟨.int z.length,H,I.tok _,⟨_,rfl⟩,q⟩
theorem UL:Hm X (.type "list") (fun xs H Q=>∃ p ys,xs=[.ref p]∧(SqL X.K H p ys∨SqT X.K H p ys)∧∀ l,H l=none→Q (.ref l) (upd H l (.lst ys))):=by
 intro pins s σ H xs us Q I r h
 obtain⟨p,ys,rfl,hq,q⟩:=h
 obtain⟨u,rfl,rx⟩:=vals1 r
 cases rx
 have fin:∀(its:List Value),Vals ys its→ys.length≤sizeLine→∀(h':Heap) (c':Nat),(∀ b o',s.heap.get? b=some o'→h'.get? b=some o') →
   h'.get? s.heap.objs.size=some { cls:=.type "list", dict:=none,data:=.seq its.toArray c',slots:=#[] }→EP X pins σ Q (.ref s.heap.objs.size) { s with heap:=h' }:=fun its r' hz h' c' kp e =>
  ⟨.ref s.heap.objs.size,_,I.laid (t':=s.toks) kp (AhX _) (show Eu X.prog X.w _ h' _ (.lst ys) from⟨hz,its,c',r',e⟩),rfl,q _ (I.hok.fresh (AhX _))⟩
 rcases hq with hq | hq
 ·obtain⟨its,r',pl,hz⟩:=I.list hq
  have hlen:=r'.length
  obtain⟨o,ho,hc,n,hd⟩:=pl.isList
  exact call_list_seq p (.inl rfl) ho hc hd (fun h' c' kp e=>fin its r' hz h' c' kp e) (by simp only [Aia] <;> omega)
 ·obtain⟨its,r',pl,hz⟩:=I.tuple hq
  have hlen:=r'.length
  obtain⟨o,ho,hc,n,hd⟩:=pl
  exact call_list_seq p (.inr rfl) ho hc hd (fun h' c' kp e=>fin its r' hz h' c' kp e) (by simp only [Aia] <;> omega)
def tyV (K:PySem.W.Frag)(T:String)(x:V)(H:Hp):Prop:=match x with
 | .str _=>T = "str"
 | .int _=>T = "int"
 | .ref p=>(T = "list" ∧ ∃ xs,SqL K H p xs)∨(T = "tuple" ∧ ∃ o,K.lookup p=some o∧o.cls=.type "tuple" ∧ o.dict=none) ∨
   (T = "dict" ∧ ((∃ kvs,H p=some (.dK kvs))∨∃ kvs,H p=some (.dT kvs)))∨(T = "set" ∧ ∃ S n,H p=some (.set S n))
 | _=>False
theorem Adw{pins:List (Addr × Obj)}{σ:St}{H:Hp}{s:Shared}{T:String}{x:V}{v:Value}(I:Inv X pins σ H s)(r:RelV x v)(ty:tyV X.K T x H) :
  s.TypeIs v T∧∀ a,v=.ref a→∃ ob,s.heap.get? a=some ob∧ob.dict=none:=by
 cases x with
 | str z =>
  obtain⟨t,rfl⟩:=r
  cases (show T = "str" from ty)
  exact⟨typeIs_str s z t,fun _ e=>nomatch e⟩
 | int i =>
  obtain⟨t,rfl⟩:=r
  cases (show T = "int" from ty)
  exact⟨typeIs_int s i t,fun _ e=>nomatch e⟩
 | ref p =>
  cases r
  rcases ty with ⟨rfl,xs,hq⟩ | ⟨rfl,o,hk,hc,hd⟩ | ⟨rfl,hk⟩ | ⟨rfl,S,n,hk⟩
  ·obtain⟨its,_,pl,_⟩:=I.list hq
   refine⟨pl.isList.typeIs,fun a e=>?_⟩
   cases e
   obtain⟨o,n,e,c,hd,_⟩:=pl
   exact⟨o,e,hd⟩
  ·refine⟨⟨o,I.kIn p o hk,hc⟩,fun a e=>?_⟩
   cases e
   exact⟨o,I.kIn _ o hk,hd⟩
  ·have z:∃ o,s.heap.get? p=some o∧o.ExactDict:=by
    rcases hk with ⟨kvs,hk⟩ | ⟨kvs,hk⟩
    ·obtain⟨_,_,_,_,o,_,_,e,ex,_⟩:=I.hok p _ hk
     exact⟨o,e,ex⟩
    ·obtain⟨_,_,_,_,o,_,_,e,ex,_⟩:=I.hok p _ hk
     exact⟨o,e,ex⟩
   obtain⟨o,e,ex⟩:=z
   refine⟨⟨o,e,ex.1⟩,fun a e2=>?_⟩
   cases e2
   exact⟨o,e,ex.2.1⟩
  ·obtain⟨o,_,_,_,e,ex,_⟩:=I.hok p _ hk
   refine⟨⟨o,e,ex.1⟩,fun a e2=>?_⟩
   cases e2
   exact⟨o,e,ex.2.1⟩
 | _=>exact False.elim ty
def Ah9 (K:PySem.W.Frag)(T:String)(r:V→List V→Hp→VK→Prop)(to:TE):TE:=fun σ H Q=>to σ H fun x H1=>tyV K T x H1∧r x [] H1 Q
def tBM (K:PySem.W.Frag)(T:String)(r:V→List V→Hp→VK→Prop)(to:TE)(t:TA):TE:=fun σ H Q=>to σ H fun x H1=>tyV K T x H1∧t σ H1 fun xs H2=>r x xs H2 Q
variable {o e:Expr}{es:List Expr}{to:TE}{t:TA}{name:Str}{apos cpos:Pos}{T id:String}{r:V→List V→Hp→VK→Prop}
theorem AeB(pa:PlainAttrs T)(slot:Slot T name id)(hty:typeOf (.builtin id)=pure (.type "method_descriptor")) (hm:MtR X id r) (ho:PE X o to) (ha:PA X (e::es) t)
  (hbase:attributeBase o name X.env (eval o X.env)=eval o X.env:=by rfl)
  (hfew:((backTo cpos (starEach (e::es) X.env)).all (fun x=>!x.1) && (backToKw cpos (keywordEach [] X.env)).all (fun x=>x.1.isSome)
   && decide ((e::es).length+([]:List Keyword).length+(if ([]:List Keyword).isEmpty then 0 else 1)<30))=true:=by rfl)
  (hline:(apos.endLine == cpos.line)=true:=by rfl) (hs:starEach (e::es) X.env=(false,eval e X.env)::starEach es X.env:=by rfl) (hplain:(backTo cpos (starEach es X.env)).any (·.1)=false:=by rfl) :
  PE X (.Call (.Attribute o name apos) (e::es) [] cpos) (tBM X.K T r to t):=by
 intro pins s σ H Q I h
 refine wpAny_Call_method_late hbase hfew hline rfl (thn (ho pins s σ H _ I h) fun v s1 ⟨x,H1,I1,r1,ty,q1⟩=>?_)
 obtain⟨h1,h2⟩:=Adw I1 r1 ty
 refine⟨T,id,pa,slot,hty,h1,h2,?_⟩
 have hA:=ha cpos pins s1 σ H1 _ I1 q1
 rw[hs] at hA ⊢
 refine Calls.callWith_builtin (by show(false || (backTo cpos (starEach es X.env)).any (·.1))=false;rw[hplain] <;> rfl) (Calls.evalArgs_plain ?_)
 exact thn hA fun us s2 ⟨vs,H2,I2,r2,q2⟩=>hm pins s2 σ H2 x vs v us Q I2 r1 r2 q2
end
open PySem PySem.Spec PyProof.Rows
def MtM (X:Cx)(id:String)(r:V→List V→Hp→VK→Prop):Prop :=
 ∀(pins:List (Addr × Obj)) (s:Shared) (σ:St) (H:Hp) (x:V) (xs:List V) (v:Value) (us:List Value) (Q:VK),Inv X pins σ H s→RelV x v→Vals xs us→r x xs H Q →
  wpAny (model X.prog X.w) X.A (call (.builtin id) (v::us)) (EP X pins σ Q) X.xe s
theorem Vals.one:∀{x:V} {us:List Value},Vals [x] us→∃ u,us=[u]∧RelV x u
 | _,_,.cons r .nil=>⟨_,rfl,r⟩
theorem Vals.two:∀{x y:V} {us:List Value},Vals [x,y] us→∃ u v,us=[u,v]∧RelV x u∧RelV y v
 | _,_,_,.cons r (.cons q .nil)=>⟨_,_,rfl,r,q⟩
theorem Vals.rep{xs:List V}{us:List Value}(h:Vals xs us):∀ k:Nat,Vals (List.replicate k xs).flatten (List.replicate k us).flatten
 | 0=>.nil
 | k+1=>by
  rw[AiV,AiV,Ai1,Ai1]
  exact Vals.append h (Vals.rep h k)
theorem foldl_rep(its:List Value):∀(k:Nat) (acc:List Value),
  List.foldl (fun x1 x2=>x1++x2) acc.toArray (List.replicate k its.toArray)=(acc++(List.replicate k its).flatten).toArray
 | 0,acc=>by simp
 | k+1,acc=>by
  have e:acc.toArray++its.toArray=(acc++its).toArray:=by simp
  have e2:(acc++its)++(List.replicate k its).flatten=acc++(List.replicate (k+1) its).flatten:=by
   rw[AiV,Ai1,AiC]
  rw[← e2,← foldl_rep its k (acc++its),← e,AiV,List.foldl_cons]
section
variable {X:Cx}{pins:List (Addr × Obj)}{σ:St}{H:Hp}{s:Shared}{l b:Addr}{xs ys zs:List V}
theorem Inv.Adx{its its':List Value}{n:Nat}{f:Array Value→Array Value}{t':Nat}(I:Inv X pins σ H s)(hH:H l=some (.lst xs))
  (e:s.heap.get? l=some { cls:=.type "list", data:=.seq its.toArray n }) (hf:f its.toArray=its'.toArray) (hv:Vals ys its') (hz:ys.length≤sizeLine) :
  Inv X pins σ (upd H l (.lst ys)) { s with heap:=s.heap.update l (Obj.mapSeq f),toks:=t' }:=by
 have q:=PySem.IsL.update e f
 rw[hf] at q
 refine I.write (x:=l) (e:=l) (by rw[hH];exact trivial) (.inl rfl) (fun b' u hb hu=>(Heap.get?_update_other s.heap (Obj.mapSeq f) (Ne.symm hb)).trans hu) ⟨_,q⟩ ?_
 exact⟨hz,its',_,hv,q⟩
theorem Inv.Ady{its:List Value}{t':Nat}(I:Inv X pins σ H s)(hv:Vals ys its)(hz:ys.length≤sizeLine) :
  Inv X pins σ (upd H s.heap.objs.size (.lst ys)) { s with heap:=s.heap.push { cls:=.type "list", data:=.seq its.toArray },toks:=t' } :=
 I.laid (fun _ _ q=>Heap.get?_push_of_some _ q) (AhX _) ⟨hz,its,0,hv,Heap.get?_push_size _ rfl⟩
theorem Inv.fresh(I:Inv X pins σ H s):H s.heap.objs.size=none:=I.hok.fresh (AhX _)
theorem Inv.Wr(I:Inv X pins σ H s)(hH:H l=some (.lst xs)):xs.length≤sizeLine∧∃(its:List Value) (n:Nat),Vals xs its∧xs.length=its.length∧s.heap.get? l=some { cls:=.type "list", data:=.seq its.toArray n }:=by
 obtain⟨z,its,n,r,e⟩:=I.hok l _ hH
 exact⟨z,its,n,r,r.length,e⟩
theorem AaB{n:Nat}(h:n≤sizeLine):Builtin.List.listTooLong n=false:=by
 unfold Builtin.List.listTooLong
 exact decide_eq_false (by omega)
end
section
variable {X:Cx}
def AbY:V→List V→Hp→VK→Prop:=fun x vs H Q=>∃ l xs y,x=.ref l∧vs=[y]∧H l=some (.lst xs)∧xs.length<sizeLine∧Q .non (upd H l (.lst (xs++[y])))
theorem Fg:MtM X "list.append" AbY:=by
 intro pins s σ H x vs v us Q I rx rv h
 obtain⟨l,xs,y,rfl,rfl,hH,hz,q⟩:=h
 cases rx
 obtain⟨u,rfl,ru⟩:=rv.one
 obtain⟨z,its,n,r,hl,e⟩:=I.Wr hH
 refine call_meets F.slot_list_append ⟨_,e,rfl⟩ F.entry_list_append (F.args_list_append_2 _ _) (PySem.list_append l its.toArray n u (by rw[Aia];omega)) ⟨e,?_⟩
 refine⟨.non,_,I.Adx (its':=its++[u]) hH e (by simp) (r.append (.cons ru .nil)) ?_,rfl,q⟩
 rw[Aid,List.length_singleton]
 omega
def AfF:V→List V→Hp→VK→Prop:=fun x vs H Q=>∃ l b xs zs,x=.ref l∧vs=[.ref b]∧H l=some (.lst xs)∧H b=some (.lst zs)∧xs.length+zs.length≤sizeLine∧Q .non (upd H l (.lst (xs++zs)))
def AhA:V→List V→Hp→VK→Prop:=fun x vs H Q=>∃ l xs y,x=.ref l∧vs=[]∧H l=some (.lst xs)∧xs[xs.length-1]?=some y∧Q y (upd H l (.lst xs.dropLast))
def Agi:V→List V→Hp→VK→Prop:=fun x vs H Q=>∃ l xs i k y,x=.ref l∧vs=[.int i]∧H l=some (.lst xs) ∧ -(2 ^ 63)≤i∧i<2 ^ 63∧seqIndex? i xs.length=some k∧xs[k]?=some y∧Q y (upd H l (.lst (xs.eraseIdx k)))
def AeC:V→List V→Hp→VK→Prop:=fun x vs H Q=>∃ l xs,x=.ref l∧vs=[]∧H l=some (.lst xs)∧Q .non (upd H l (.lst xs.reverse))
def Agj:V→List V→Hp→VK→Prop:=fun x vs H Q=>∃ l xs,x=.ref l∧vs=[]∧H l=some (.lst xs)∧Q .non (upd H l (.lst []))
def Agk:R2:=fun x y H Q=>∃ l b xs zs,x=.ref l∧y=.ref b∧H l=some (.lst xs)∧H b=some (.lst zs)∧xs.length+zs.length≤sizeLine∧∀ p,H p=none→Q (.ref p) (upd H p (.lst (xs++zs)))
theorem AaC:OpR X (binaryOp .Add) Agk:=by
 intro pins s σ H x y v u Q I rx ry h
 obtain⟨l,b,xs,zs,rfl,rfl,hH,hB,hz,q⟩:=h
 cases rx
 cases ry
 obtain⟨z,its,n,r,hl,e⟩:=I.Wr hH
 obtain⟨z2,its2,n2,r2,hl2,e2⟩:=I.Wr hB
 refine PySem.P.add_list e e2 ?_ (by rw[Aia,Aia];omega)
 have ea:its.toArray++its2.toArray=(its++its2).toArray:=by simp
 rw[ea]
 exact⟨.ref _,_,I.Ady (t':=s.toks) (r.append r2) (by rw[Aid];omega),rfl,q _ I.fresh⟩
def Agl:R2:=fun x y H Q=>∃ l k xs,x=.ref l∧y=.int k∧H l=some (.lst xs) ∧ -(2 ^ 63)≤k∧k<2 ^ 63∧xs.length*k.toNat≤sizeLine ∧
 ∀ p,H p=none→Q (.ref p) (upd H p (.lst (List.replicate k.toNat xs).flatten))
theorem len_rep{α:Type}(xs:List α)(k:Nat):(List.replicate k xs).flatten.length=k*xs.length:=by
 induction k with
 | zero=>simp
 | succ k ih=>rw[AiV,Ai1,Aid,ih,Aiw,Nat.add_comm]
theorem Adz:OpR X (binaryOp .Mult) Agl:=by
 intro pins s σ H x y v u Q I rx ry h
 obtain⟨l,k,xs,rfl,rfl,hH,h1,h2,hz,q⟩:=h
 cases rx
 obtain⟨t,rfl⟩:=ry
 obtain⟨z,its,n,r,hl,e⟩:=I.Wr hH
 have hlen:its.toArray.size*k.toNat≤sizeLine:=by rw[Aia,← hl];exact hz
 have Agm:¬its.toArray.size*k.toNat>(2 ^ 63-1) / 8:=by
  have:(sizeLine:Nat)≤(2 ^ 63-1) / 8:=by decide
  omega
 have hfit:¬(!Builtin.List.listFitsIndex k)=true:=by
  rw[fitsIndex_both h1 h2]
  exact Ail
 have AeD:¬Builtin.List.listTooLong (its.toArray.size*k.toNat)=true:=by
  rw[AaB hlen]
  exact Ail
 have hnew:List.foldl (fun x1 x2=>x1++x2) #[] (List.replicate (if its.toArray.isEmpty=true then 0 else k.toNat) its.toArray)=(List.replicate k.toNat its).flatten.toArray:=by
  have f0:∀ m:Nat,List.foldl (fun x1 x2=>x1++x2) #[] (List.replicate m its.toArray)=(List.replicate m its).flatten.toArray:=fun m=>by
   have:=foldl_rep its m []
   rw[AiW] at this
   exact this
  rw[f0]
  cases its with
  | nil=>simp
  | cons a r'=>rw[if_neg (by simp)]
 refine wpAny_binaryOp_repeat_ref (T := "list") (U := "int") (by decide) ⟨_,e,rfl⟩ (fun s'=>typeIs_int s' k t) noFill_list_mul F.fills_int_mul F.slot_int_rmul repeat_list F.slot_int_index.lookup
  (call_meets F.slot_int_rmul (typeIs_int s k t) F.entry_int_rmul (F.args_int_rmul_2 _ _) (int___rmul___int_list k t l its.toArray n)
   ⟨e,rfl,⟨_,e,rfl⟩,call_meets F.slot_list_mul ⟨_,e,rfl⟩ F.entry_list_mul (F.args_list_mul_2 _ _) (AutoListH.list___mul___list_int_3 l its.toArray n k t hfit Agm AeD) ⟨e,?_⟩⟩)
 rw[hnew]
 exact⟨.ref _,_,I.Ady (t':=s.toks) (r.rep k.toNat) (by rw[len_rep,Aj1];exact hz),rfl,q _ I.fresh⟩
end
section
variable {prog:Program}{w:World}{A:Around}{E:Value→Shared→Prop}{s:Shared}
end
section
variable {X:Cx}
end
end L2
namespace Att
open PySem PySem.W PySem.Calls PyProof.Rows
theorem Rw{P:Params}{h:Heap}:∀(ns:List Int) (vs:List Value),WellAll P h vs (ns.map WData.int)→IntsAre vs ns:=by
 intro ns
 induction ns with
 | nil =>
  intro vs w
  rw[AiH] at w
  cases w
  exact .nil
 | cons n ns ih =>
  intro vs w
  rw[Aiq] at w
  cases w with
  | cons a b =>
   cases a
   exact .cons _ _ (ih _ b)
theorem ZS{l:OpenLaw}{n:Nat}(hn:l.most=some n){P:Params}{h:Heap}{args:List WData}{vals:List Value}
  (hpre:l.row.toRowW.claim.pre args=true) (hwl:WellAll P h vals args) :
  ∃ a vs ns,vals=[Value.ref a]∧args=[WData.list (ns.map WData.int)]∧h.get? a=some { cls:=.type "list", data:=.seq vs.toArray }∧IntsAre vs ns∧ns.length≤n:=by
 have hsh:WShape.hasAll [] args [.list .int]=true:=(pre_splitW hpre).1
 have hc:l.pre.holds [] { args:=args }=true:=(pre_splitW hpre).2
 obtain⟨d,r,rfl,h1,h2⟩:=hasAllW_cons hsh
 obtain rfl:=hasAllW_nil h2
 obtain⟨xs,rfl,h3⟩:=hasW_list h1
 obtain⟨ns,rfl⟩:=items_int h3
 have hlen:ns.length≤n:=by
  unfold OpenLaw.pre at hc
  have h4:(WTm.not (.lt (.lit (.int (n:Int))) (.len (.arg 0)))).holds [] { args:=[.list (ns.map .int)] }=true:=by
   have h4:=(holds_andW hc).1
   rw[hn] at h4
   exact h4
  have h5:=condW_of h4 (w_not (w_lt w_lit (w_len_list (w_arg rfl))))
  rw[AhZ] at h5
  refine AjH fun q=>?_
  have q':(n:Int)<((ns.length:Nat):Int):=by omega
  first
   | (rw[decide_eq_true q'] at h5;exact absurd h5 (by decide))
   | (simp at h5;omega)
 cases hwl with
 | cons w1 w2 =>
  cases w2
  cases w1 with
  | list ho hall=>exact⟨_,_,ns,rfl,rfl,ho,Rw ns _ hall,hlen⟩
theorem ZV(l:OpenLaw)(args:List WData):l.row.toRowW.claim.post args (.bool true) args=true :=
 postW_of (r:=l.row.toRowW) (X:=(true == true))
  (show WShape.has [] (.bool true) .bool=true by first | rfl | decide | simp[WShape.has,WShape.arms,WShape.armsAll])
  (show(WTm.eq .res (.lit (.bool true))).value [] { args:=args,res:=some (.bool true),after:=args }=some (.bool (true == true)) from w_eq_bool (w_res rfl) w_lit) rfl
theorem QQ{l:OpenLaw}{n:Nat}{q:Program}{loose:List Str}{XP:(Str→Option Value)→Heap→Prop}{YP:World→Heap→Prop}{d:DefRec}
  (hn:l.most=some n) (hdf:d.params.defaults=[])
  (call:∀(w:World) (s₀ s₁:Shared) (mg mb:Str→Option Value) (fa:Addr) (o:Obj) (pm cd doc:Value) (a:Addr) (vs:List Value) (ns:List Int),
   Ground q loose [] XP w s₀ mg mb s₁.heap→YP w s₁.heap →
   s₁.heap.get? fa=some o→o.data=.func (docDef d.name d.params d.body d.scope pm cd doc)→s₁.heap.CodeRec cd d.name→mg d.name=some (.ref fa) →
   s₁.heap.get? a=some { cls:=.type "list", data:=.seq vs.toArray }→IntsAre vs ns→ns.length≤n→s₁.gens=#[] →
   codeAny (model l.prog w) callerA (.call (.ref fa) ⟨[.ref a],[]⟩) (fun r s'=>r=.ok (.ret (.bool true))∧OldK s₁.heap s'.heap∧s'.os=s₁.os∧AllBare s'.gens) s₁) :
  WalkO q loose XP YP l.row.toRowW d [] (fun f vs=>PySem.call f vs):=by
 intro w s₀ s₁ mg mb G Y fa o pm cd doc dV kV ho hd hcd hD hmg hg args vals as hpre hlay hrd hwl hlo
 obtain rfl:dV=.none:=Dflts.none hD hdf
 obtain rfl:kV=.none:=Dflts.noKw hD
 obtain⟨a,vs,ns,rfl,rfl,hobj,hints,hlen⟩:=ZS hn hpre hwl
 refine enter_call (codeAny_mono (call w s₀ s₁ mg mb fa o pm cd doc a vs ns G Y ho (fd_plain hd) hcd hmg hobj hints hlen hg) fun r s' hq=>?_)
 obtain⟨rfl,h2,h3,h4⟩:=hq
 exact⟨.inl ⟨.bool true,.bool true,[],rfl,fun _=>rfl,.bool true,ZV l _,fun _=>⟨List.Pairwise.nil,fun _ hm=>(nomatch hm)⟩⟩,h2,h3,h4⟩
section
variable {prog:Program}{w:World}{A:Around}{E:Value→Shared→Prop}{s:Shared}{K:Frag}
def Agn (h:Heap):Heap:={ h with objs:=#[] }
def ledger(h:Heap)(L d:Addr):List (Addr × Obj):=(List.range h.objs.size).filterMap fun a=>if a=L∨a=d then none else (h.get? a).map fun o=>(a,o)
end
end Att
namespace L2
open PySem PySem.Spec PyProof.Rows
theorem Jx:∀{vs:List Value} {ns:List Int},IntsAre vs ns→Vals (ns.map V.int) vs
 | _,_,.nil=>.nil
 | _,_,.cons n t h=>.cons ⟨t,rfl⟩ (Jx h)
def Only(H:Hp):Prop:=∀ b,H b=none∨∃ o xs,H b=some (.frz o (.lst xs))
theorem AaD{P:Program}{w:World}{K:PySem.W.Frag}{mg mb:Str→Option Value}{CX:CXT}{k:Nat}{fa a:Addr}{fd:FuncData}{x:Str}{sp:Sp}{s₁:Shared}{vs:List Value}{ns:List Int}
  (KX:K.In s₁.heap) (hns:s₁.heap.Ns mainGlobals mg) (hb:s₁.heap.Ns builtinsNs mb) (hbb:∀ x:Str,x ≠ "__name__" → mb x=bootBuiltins x) (hlim:s₁.heap.NoLimit) (hg:s₁.gens=#[])
  (ha:s₁.heap.get? a=some { cls:=.type "list", data:=.seq vs.toArray }) (hi:IntsAre vs ns) (hl:ns.length≤sizeLine) (hr:Hn k callerA)
  (F:∀ base:Heap,K.In base→base.Ns mainGlobals mg→Bx P w K mg base CX k fa fd [x] sp) (hbind:∀(s:Shared) (u:Value),BindsTo s fd ⟨[u],[]⟩ [(x,u)])
  (hsp:∀ H:Hp,Only H→SqL K H a (ns.map V.int)→sp [.ref a] H (fun v _=>v=.bl true) fun _ _ _=>False)
  (hCX:∀ H e s',CX [] H s₁ (fun _ _ _=>False) e s'→False) :
  codeAny (model P w) callerA (.call (.ref fa) ⟨[.ref a],[]⟩) (fun r s'=>r=.ok (.ret (.bool true))∧OldK s₁.heap s'.heap∧s'.os=s₁.os∧AllBare s'.gens) s₁:=by
 have rv:=Jx hi
 have lenV:=hi.length
 have core:∀ H:Hp,Only H→SqL K H a (ns.map V.int)→HOk P w H s₁.heap→(∀ b,H b≠none→b=a)→(H a≠none→K.lookup a=none) →
   codeAny (model P w) callerA (.call (.ref fa) ⟨[.ref a],[]⟩) (fun r s'=>r=.ok (.ret (.bool true))∧OldK s₁.heap s'.heap∧s'.os=s₁.os∧AllBare s'.gens) s₁:=by
  intro H hO hS hok hA hK
  have JH:∀{b:Addr} {o:Obj},s₁.heap.get? b=some o→H b=none→(MJ s₁.heap H).get? b=some o:=fun e n=>Wh e n
  have noA:∀{b:Addr} {o:Obj} {es:Array DictEntry} {ep:Nat},s₁.heap.get? b=some o→o.data=.dict es ep→H b=none:=fun {b o es ep} e d=>by
   cases q:H b with
   | none=>rfl
   | some u =>
    have e':b=a:=hA b (by rw[q];simp)
    subst e'
    rw[ha] at e;cases e
    have d':Data.seq vs.toArray _=Data.dict es ep:=d
    cases d'
  have nsK:∀{b:Addr} {m:Str→Option Value},s₁.heap.Ns b m→(MJ s₁.heap H).Ns b m:=fun {b m} ⟨o,es,ep,e,d,r⟩=>⟨o,es,ep,JH e (noA e d),d,r⟩
  have hKb:K.In (MJ s₁.heap H):=fun b o e=>JH (KX b o e) (by
   cases q:H b with
   | none=>rfl
   | some u =>
    have e':b=a:=hA b (by rw[q];simp)
    subst e'
    rw[hK (by rw[q];simp)] at e;cases e)
  have hM:Mod K mg (MJ s₁.heap H):=⟨hKb,nsK hns,⟨mb,nsK hb,hbb⟩,let ⟨mc,h1,h2⟩:=hlim;⟨mc,nsK h1,h2⟩⟩
  have e0:AaA P w K mg (MJ s₁.heap H) callerA [] s₁ H:=⟨rfl,hM,fun b o e=>YT e,Aje (TV _ _),trivial,fun b hb=>absurd (show b∈([]:List Addr) from hb) (by simp),hok,.of_eq hg⟩
  refine codeAny_mono ((F _ hKb (nsK hns)).run callerA [] s₁ H ⟨[.ref a],[]⟩ [.ref a] [.ref a] _ _ hr e0 (hbind s₁ (.ref a)) (.cons rfl .nil) (hsp H hO hS)) fun r s' h=>?_
  cases r with
  | error e=>exact(hCX H e s' h).elim
  | ok fl =>
   cases fl with
   | next=>exact False.elim h
   | brk=>exact False.elim h
   | cont=>exact False.elim h
   | ret u =>
    obtain⟨v,H',os,bare,un,hok',r',q⟩:=h
    have q':v=.bl true:=q
    subst q'
    obtain rfl:u=Value.bool true:=r'
    refine⟨rfl,OldK.of_keep fun b o e=>?_,os,bare⟩
    cases q:H b with
    | none=>exact un.keep b o e q (by intro z;exact absurd (show b∈([]:List Addr) from z) (by simp)) (by simp)
    | some u =>
     rcases hO b with z | ⟨ob,xs,z⟩
     ·rw[q] at z;cases z
     ·have z2:=un.MF b ob _ z
      obtain⟨e1,_⟩:=hok b _ z
      obtain⟨e2,_⟩:=hok' b _ z2
      rw[e] at e1;cases e1
      exact e2
 cases hk:K.lookup a with
 | some o =>
  have e:=KX a o hk
  rw[ha] at e
  cases e
  refine core (fun _=>none) (fun _=>.inl rfl) (.inr ⟨_,vs.toArray,_,hk,rfl,rfl,rfl,by rw[Aia,lenV];exact hl,by simpa using rv⟩) (fun b u z=>by have z':(none:Option HO)=some u:=z;cases z') (fun b z=>absurd rfl z) fun z=>absurd rfl z
 | none =>
  refine core (fun b=>if b=a then some (.frz { cls:=.type "list", data:=.seq vs.toArray } (.lst (ns.map V.int))) else none) (fun b=>?_) (.inl (.inr ⟨{ cls:=.type "list", data:=.seq vs.toArray },if_pos rfl⟩)) (fun b u z=>?_) (fun b z=>?_) fun _=>hk
  ·by_cases hb:b=a
   ·exact .inr ⟨_,_,if_pos hb⟩
   ·exact .inl (if_neg hb)
  ·by_cases hb:b=a
   ·have z':=(if_pos hb).symm.trans z
    cases z'
    subst hb
    exact⟨ha,by rw[AhZ];exact hl,vs,_,rv,ha⟩
   ·have z':=(if_neg hb).symm.trans z
    cases z'
  ·by_cases hb:b=a
   ·exact hb
   ·exact absurd (if_neg hb) z
open PySem PySem.Spec PyProof.Rows
abbrev KOf {K:PySem.W.Frag} {h:Heap} (_:K.In h):PySem.W.Frag:=K
theorem AfG{l:PySem.W.OpenLaw}{n k:Nat}{q:Program}{loose:List Str}{XP:(Str→Option Value)→Heap→Prop}{YP:World→Heap→Prop}{d:DefRec}{K:Params→PySem.W.Frag}{CX:World→CXT}{sp:World→Sp}{x:Str}
  (hn:l.most=some n) (hn2:n≤sizeLine) (hdf:d.params.defaults=[]) (hr:Hn k callerA)
  (hY:∀(w:World) (h:Heap),YP w h→(K w.params).In h)
  (F:∀(w:World) (mg:Str→Option Value) (fa:Addr) (h:Heap),(K w.params).In h→h.Ns mainGlobals mg→mg d.name=some (.ref fa) →
   ∃ fd:FuncData,(∀(s:Shared) (u:Value),BindsTo s fd ⟨[u],[]⟩ [(x,u)]) ∧
    ∀ base:Heap,(K w.params).In base→base.Ns mainGlobals mg→Bx l.prog w (K w.params) mg base (CX w) k fa fd [x] (sp w))
  (hsp:∀(w:World) (H:Hp) (a:Addr) (ns:List Int),ns.length≤n→Only H→SqL (K w.params) H a (ns.map V.int)→sp w [.ref a] H (fun v _=>v=.bl true) fun _ _ _=>False)
  (hCX:∀(w:World) (H:Hp) (s:Shared) (e:Value) (s':Shared),CX w [] H s (fun _ _ _=>False) e s'→False) :
  PySem.W.WalkO q loose XP YP l.row.toRowW d [] (fun f vs=>PySem.call f vs):=by
 refine Att.QQ hn hdf fun w s₀ s₁ mg mb fa o pm cd doc a vs ns G Y ho hd hcd hmg hobj hints hlen hg=>?_
 have KX:=hY w _ Y
 obtain⟨fd,hb,hF⟩:=F w mg fa _ KX G.T.g hmg
 exact AaD KX G.T.g G.T.b G.T.builtins G.T.nolimit hg hobj hints (Ais hlen hn2) hr hF hb (fun H hO hS=>hsp w H a ns hlen hO hS) fun H e s'=>hCX w H s₁ e s'
open PySem PySem.Spec PyProof.Rows
def inClass(s:Stmt)(j:Nat):Stmt:=match s with
 | .ClassDef _ _ _ body _ _ _ _ _ _ _=>body.getD j (.Pass ⟨0,0,0,0⟩)
 | _=>.Pass ⟨0,0,0,0⟩
def Ai (s:Stmt):Arguments:=match s with
 | .FunctionDef _ a _ _ _ _ _ _ _ _=>a
 | _=>{ posonlyargs:=[],args:=[],vararg:=none,kwonlyargs:=[],kw_defaults:=[],kwarg:=none,defaults:=[] }
def Ah (s:Stmt):List Stmt:=match s with
 | .FunctionDef _ _ b _ _ _ _ _ _ _=>b
 | _=>[]
def Ac (s:Stmt):Scope:=match s with
 | .FunctionDef _ _ _ _ _ _ sc _ _ _=>sc
 | _=>{ kind:=.function,names:=[],isGenerator:=false,isCoroutine:=false }
abbrev CX0:CXT:=fun _ _ _ _ _ _=>False
abbrev E0:XK:=fun _ _ _=>False
theorem Cz{X:Cx}:Passes CX0 X E0:=fun _ _ _ _ _ _ _ h=>h.elim
structure Fun (K:PySem.W.Frag) (x qual:Str) (st:Stmt) (f:Addr) (fd:FuncData):Prop where
 ex:∃(oc:Value) (od:Option Addr) (kV doc pm:Value) (an:Option Addr) (cdv ct:Value) (osl:Array (Option Value)),
  fd=PySem.W.fnOf x qual (Ai st) (Ah st) (Ac st) .none kV doc pm an cdv ct∧K.lookup f=some ⟨oc,od,.func fd,osl⟩∧PySem.W.codeIn K cdv qual=true
 kp:PySem.W.keepIn K (.ref f)=true
section
variable {P:Program}{w:World}{K:PySem.W.Frag}{mg:Str→Option Value}{base:Heap}
theorem Fun.ok{x qual:Str}{st:Stmt}{f:Addr}{fd:FuncData}{N ps:List Str}{k:Nat}{sp:Sp}(F:Fun K x qual st f fd)(S:Bq N ps (Ac st))(len:∀ vs H Q E,sp vs H Q E→vs.length=ps.length)
  (hbody:∀(cdv:Value) (A:Around) (outer:List Env) (s:Shared) (H:Hp) (vs:List V) (Q:VK) (E:XK),Hn k (A.deeper (envOfC qual (Ac st) s.heap.objs.size f cdv))→sp vs H Q E →
   ∃ t,PSs (U8 CX0 P w K mg base N qual (Ac st) f cdv A outer s H E).nox (Ah st) t∧t { nx:=fun _ H'=>Q .non H',rt:=Q } (start N vs) H):Bx P w K mg base CX0 (k+1) f fd ps sp:=by
 obtain⟨oc,od,kV,doc,pm,an,cdv,ct,osl,rfl,lk,hcd⟩:=F.ex
 refine AcI lk hcd S len fun A outer s H vs Q E hr hsp=>?_
 obtain⟨t,h,q⟩:=hbody cdv A outer s H vs Q E hr hsp
 exact⟨t,h.nox,q⟩
theorem Fun.binds{x qual:Str}{st:Stmt}{f:Addr}{fd:FuncData}{ps:List Str}(F:Fun K x qual st f fd)
  (h:∀(kV doc pm:Value) (an:Option Addr) (cdv ct:Value) (us:List Value),us.length=ps.length→bindArgs (PySem.W.fnOf x qual (Ai st) (Ah st) (Ac st) .none kV doc pm an cdv ct) ⟨us,[]⟩=pure (ps.zip us)):Binds K fd ps []:=by
 obtain⟨oc,od,kV,doc,pm,an,cdv,ct,osl,rfl,lk,hcd⟩:=F.ex
 exact .all (h kV doc pm an cdv ct)
theorem Av{x qual:Str}{st:Stmt}{f:Addr}{oc:Value}{od an:Option Addr}{osl:Array (Option Value)}{kV doc pm cdv ct:Value}(l:K.lookup f=some ⟨oc,od,.func (PySem.W.fnOf x qual (Ai st) (Ah st) (Ac st) .none kV doc pm an cdv ct),osl⟩)
  (c:PySem.W.codeIn K cdv qual=true) (k:PySem.W.keepIn K (.ref f)=true):Fun K x qual st f (PySem.W.fnOf x qual (Ai st) (Ah st) (Ac st) .none kV doc pm an cdv ct):=⟨⟨oc,od,kV,doc,pm,an,cdv,ct,osl,rfl,l,c⟩,k⟩
end
section
variable {X:Cx}
theorem pv(i:Nat){x:Str}{pos:Pos}(hN:X.N[i]?=some x:=by rfl)(hv:Vis X.env.scope x:=by first | exact Or.inl rfl | exact Or.inr (Or.inl rfl) | exact Or.inr (Or.inr rfl))(hd:(x == ("__debug__" : Str))=false:=by decide)
  (hcd:(x == ("__classdict__" : Str))=false:=by decide):PE X (.Name x pos) (Aer i):=Yb hN hv hd hcd
end
theorem Jc{A B:Prop}(h:B):if false=true then A else B:=by
 rw[if_neg Ail]
 exact h
theorem Yj{A B:Prop}(h:A):if true=true then A else B:=by
 rw[if_pos rfl]
 exact h
theorem KQ{c A B:Prop}[Decidable c](hc:c)(h:B):if (!decide c)=true then A else B:=by
 rw[decide_eq_true hc]
 exact Jc h
def Al (H H':Hp):Prop:=∀ b o,H b=some o→H' b=some o
theorem Al.refl(H:Hp):Al H H:=fun _ _ h=>h
theorem Al.trans{H H1 H2:Hp}(a:Al H H1)(b:Al H1 H2):Al H H2:=fun c o h=>b c o (a c o h)
theorem Al.free{H H':Hp}(e:Al H H'){l:Addr}(h:H' l=Option.none):H l=Option.none:=by
 cases q:H l with
 | none=>rfl
 | some o =>
  rw[e l o q] at h
  cases h
theorem Al.seq{K:PySem.W.Frag}{H H':Hp}{a:Addr}{xs:List V}(e:Al H H')(h:SqL K H a xs):SqL K H' a xs:=by
 rcases h with (h | ⟨o,h⟩) | h
 ·exact .inl (.inl (e _ _ h))
 ·exact .inl (.inr ⟨o,e _ _ h⟩)
 ·exact .inr h
open PySem PySem.Spec PyProof.Rows
theorem RK{scope:Scope}{env:Env}(h:∀ y∈scope.names,y.2=.free→∃ c,env.cells.lookup y.1=some c) :
  ∃ cl,closureFor scope env=pure cl∧(∀ x c,cl.lookup x=some c→env.cells.lookup x=some c∧(x,NameKind.free)∈scope.names) ∧
   ∀ x,(x,NameKind.free)∈scope.names→cl.lookup x=env.cells.lookup x:=by
 have key:∀(l:List (Str × NameKind)) (cs:List (Str × Addr)),(∀ y∈l,y.2=.free→∃ c,env.cells.lookup y.1=some c) →
   ∃ cl,(forIn l cs (fun(x:Str × NameKind) (cs:List (Str × Addr))=>do
     if x.2 == .free then
      let c ← cellOf env x.1
      pure (ForInStep.yield ((x.1,c)::cs))
     else pure (ForInStep.yield cs)):Sem (List (Str × Addr)))=pure cl ∧
    (∀ x c,cl.lookup x=some c→(env.cells.lookup x=some c∧(x,NameKind.free)∈l)∨cs.lookup x=some c) ∧
    ∀ x,((x,NameKind.free)∈l→cl.lookup x=env.cells.lookup x)∧((cs.lookup x=env.cells.lookup x)→cl.lookup x=env.cells.lookup x):=by
  intro l
  induction l with
  | nil=>intro cs _;exact⟨cs,rfl,fun x c e=>.inr e,fun x=>⟨fun z=>absurd z (by simp),fun z=>z⟩⟩
  | cons y r ih =>
   intro cs hl
   obtain⟨n,k⟩:=y
   by_cases hk:k=.free
   ·subst hk
    obtain⟨c,hc⟩:=hl (n,.free) Aii rfl
    obtain⟨cl,e1,e2,e3⟩:=ih ((n,c)::cs) fun y hy=>hl y (Aij _ hy)
    refine⟨cl,?_,fun x d e=>?_,fun x=>⟨fun z=>?_,fun z=>?_⟩⟩
    ·rw[Aj2]
     simp only [beq_self_eq_true,if_true,cellOf,hc]
     exact e1
    ·rcases e2 x d e with ⟨z1,z2⟩ | z
     ·exact .inl ⟨z1,Aij _ z2⟩
     ·rw[Aix] at z
      by_cases hx:x == n
      ·rw[hx] at z
       have hx':x=n:=by simpa using hx
       subst hx'
       refine .inl ⟨?_,Aii⟩
       rw[hc];exact z
      ·have hx':(x == n)=false:=by simpa using hx
       rw[hx'] at z
       exact .inr z
    ·rcases List.mem_cons.mp z with z | z
     ·injection z with z1 _
      subst z1
      refine(e3 x).2 ?_
      rw[Aix,hc]
      simp
     ·exact(e3 x).1 z
    ·by_cases hx:x=n
     ·subst hx
      refine(e3 x).2 ?_
      rw[Aix,hc]
      simp
     ·refine(e3 x).2 ?_
      rw[Aix]
      have hx':(x == n)=false:=by simpa using hx
      rw[hx']
      exact z
   ·obtain⟨cl,e1,e2,e3⟩:=ih cs fun y hy=>hl y (Aij _ hy)
    have hb:(k == NameKind.free)=false:=by simpa using hk
    refine⟨cl,?_,fun x d e=>?_,fun x=>⟨fun z=>?_,(e3 x).2⟩⟩
    ·rw[Aj2]
     simp only [hb,Ain,if_false]
     exact e1
    ·rcases e2 x d e with ⟨z1,z2⟩ | z
     ·exact .inl ⟨z1,Aij _ z2⟩
     ·exact .inr z
    ·rcases List.mem_cons.mp z with z | z
     ·injection z with _ z2
      exact absurd z2.symm hk
     ·exact(e3 x).1 z
 obtain⟨cl,e1,e2,e3⟩:=key scope.names [] h
 refine⟨cl,?_,fun x c e=>?_,fun x z=>(e3 x).1 z⟩
 ·unfold closureFor
  have:=e1
  simpa using this
 ·rcases e2 x c e with z | z
  ·exact z
  ·simp at z
theorem Ho{env:Env}(hk:env.scope.kind=.function):∀{names:List (Str × NameKind)} {x:Str} {k:NameKind},names.lookup x=some k→k≠.free →
  (names.map fun(n,k)=>if (k == NameKind.free && env.scope.kind == .function && env.kindOf n == some .cell) then (n,NameKind.cell) else (n,k)).lookup x=some k
 | [],_,_,h,_=>by simp at h
 | (n,k')::r,x,k,h,hf=>by
  have ih:=@Ho env hk r x k
  show List.lookup x ((if (k' == NameKind.free && env.scope.kind == .function && env.kindOf n == some .cell)=true then (n,NameKind.cell) else (n,k'))::_)=_
  cases hx:x == n with
  | true =>
   simp only [Aix,hx] at h
   cases h
   have:(k' == NameKind.free)=false:=by simpa using hf
   simp[Aix,hx,this]
  | false =>
   simp only [Aix,hx] at h
   by_cases hc:(k' == NameKind.free && env.scope.kind == .function && env.kindOf n == some .cell)=true
   ·rw[if_pos hc];simp only [Aix,hx];exact ih h hf
   ·rw[if_neg hc];simp only [Aix,hx];exact ih h hf
theorem GR{env:Env}(hk:env.scope.kind=.function):∀{names:List (Str × NameKind)} {x:Str},names.lookup x=some .free→env.kindOf x=some .cell →
  (names.map fun(n,k)=>if (k == NameKind.free && env.scope.kind == .function && env.kindOf n == some .cell) then (n,NameKind.cell) else (n,k)).lookup x=some .cell
 | [],_,h,_=>by simp at h
 | (n,k')::r,x,h,hc=>by
  have ih:=@GR env hk r x
  show List.lookup x ((if (k' == NameKind.free && env.scope.kind == .function && env.kindOf n == some .cell)=true then (n,NameKind.cell) else (n,k'))::_)=_
  cases hx:x == n with
  | true =>
   simp only [Aix,hx] at h
   cases h
   have hxn:x=n:=by simpa using hx
   subst hxn
   simp[Aix,hk,hc]
  | false =>
   simp only [Aix,hx] at h
   by_cases hd:(k' == NameKind.free && env.scope.kind == .function && env.kindOf n == some .cell)=true
   ·rw[if_pos hd];simp only [Aix,hx];exact ih h hc
   ·rw[if_neg hd];simp only [Aix,hx];exact ih h hc
def JK (X:Cx)(Nc:List Str)(scope:Scope)(cl:List (Str × Addr))(C:Addr)(fp:List Addr)(s:Shared)(H:Hp):Cx where
 prog:=X.prog
 w:=X.w
 K:=X.K
 mg:=X.mg
 base:=X.base
 A:=X.A
 N:=Nc
 s₀:=s
 H₀:=H
 env:=compEnvC scope cl C X.env
 outer:=X.stack
 stack:=X.stack
 ex:=fp
 fn:=fun _=>false
 calm:=X.calm
 pn:=[]
 xe:=fun _ _=>False
def K9 (σ:St)(Bs:List Nat):St:=Bs.map fun j=>(σ[j]?).join
structure Et (X:Cx) (x:Str) (Nc:List Str) (Bs:List Nat) (scope:Scope):Prop where
 kind:scope.kind=.function
 cell:∀ y∈scope.names,y.2≠.cell
 names:∀ y∈scope.names,y.2=.local→scope.names.lookup y.1=some .local
 fr:∀ y∈scope.names,y.2=.free→X.env.scope.names.lookup y.1=some .cell∧scope.names.lookup y.1=some .free
 loc:scope.names.lookup x=some .local
 len:Nc.length=Bs.length+1
 hd:Nc[0]?=some x
 nd:Nc.Nodup
 cap:∀ k j,Bs[k]?=some j→∃ y,Nc[k+1]?=some y∧X.N[j]?=some y∧scope.names.lookup y=some .free
theorem UT{prog:Program}{w:World}{A:Around}{R:Result→Shared→Prop}{s:Shared}{elt target iter:Expr}{ifs:List Expr}{scope:Scope}{pos:Pos}{it acc:Value}{env:Env}(I:Nat→Shared→Prop)
  (turn:∀ n s,I n s→wpAny (model prog w) A (pyNext it) (fun r s₁=>match r with
   | none=>R (.ok .next) s₁
   | some v=>wpAny (model prog w) A (letOwnedTupleGo target it v) (fun _ s1'=>wpAny (model prog w) A (assign target env v) (fun _ s₂ =>
     wpAny (model prog w) A (forIn ifs true fun c r=>if r=true then do let ok ← isTrue c env (eval c env);pure (ForInStep.yield ok) else pure (ForInStep.yield r)) (fun ok s₃ =>
      if ok=true then wpAny (model prog w) A (eval elt env) (fun x s₄ =>
       wpAny (model prog w) A (call (.builtin "list.append") [acc,x]) (fun _ s₅=>∃ m,m<n∧I m s₅) (notedBy (model prog w) A env fun e s'=>R (.error e) s') s₄) (notedBy (model prog w) A env fun e s'=>R (.error e) s') s₃
      else ∃ m,m<n∧I m s₃) (notedBy (model prog w) A env fun e s'=>R (.error e) s') s₂) (notedBy (model prog w) A env fun e s'=>R (.error e) s') s1') (notedBy (model prog w) A env fun e s'=>R (.error e) s') s₁) (notedBy (model prog w) A env fun e s'=>R (.error e) s') s)
  (n:Nat) (h:I n s) :
  codeAny (model prog w) A (.compLoop (.ListComp elt [⟨target,iter,ifs,0⟩] scope pos) 0 it acc env) R s:=by
 refine codeAny_loop rfl I (fun n s hI=>?_) n h
 show wpAny _ A ((compTurn (.ListComp elt [⟨target,iter,ifs,0⟩] scope pos) 0 it acc env).onRaise (fun x=>do noteFrame x env;theTreesLotGoes x)) _ _ s
 refine wpAny_noted ?_
 rw[compTurn_list]
 refine wpAny_bind (wpAny_standAt (wpAny_bind (wpAny_mono (turn n s hI) (fun r s₁ h₁=>?_) fun _ _ h'=>h')))
 cases r with
 | none=>exact wpAny_pure h₁
 | some v =>
  refine wpAny_bind (wpAny_mono h₁ (fun _ s1' h₁=>?_) fun _ _ h'=>h')
  refine wpAny_bind (wpAny_mono h₁ (fun _ s₂ h₂=>wpAny_bind (wpAny_mono h₂ (fun ok s₃ h₃=>?_) fun _ _ h'=>h')) fun _ _ h'=>h')
  cases ok with
  | false=>exact wpAny_pure ⟨rfl,h₃⟩
  | true =>
   exact wpAny_bind (wpAny_bind (wpAny_mono h₃ (fun x s₄ h₄=>wpAny_bind (wpAny_mono h₄ (fun _ s₅ h₅=>wpAny_pure (wpAny_pure ⟨rfl,h₅⟩)) fun _ _ h'=>h')) fun _ _ h'=>h'))
def UW:TT:=fun _ H Q=>Q true H
inductive PIf (X:Cx):List Expr→TT→Prop where
 | nil:PIf X [] UW
 | one {c:Expr} {t:TT} (h:PT X c t):PIf X [c] t
theorem PIf.run{X:Cx}{ifs:List Expr}{t:TT}(h:PIf X ifs t){pins:List (Addr × Obj)}{s:Shared}{σ:St}{H:Hp}{Q:Bool→Hp→Prop}(I:Inv X pins σ H s)(ht:t σ H Q) :
  wpAny (model X.prog X.w) X.A (forIn ifs true fun c r=>if r=true then do let ok ← isTrue c X.env (eval c X.env);pure (ForInStep.yield ok) else pure (ForInStep.yield r)) (TP X pins σ Q) X.xe s:=by
 cases h with
 | nil=>exact wpAny_tests_nil ⟨H,I,ht⟩
 | one h=>exact wpAny_tests_one (h pins s σ H Q I ht)
def Va (Bs:List Nat)(tc:TT)(te:TE)(J:It)(σ:St)(H:Hp)(Q:VK):Prop :=
 ∃ W:Nat→Nat→List V→Hp→Prop,(∃ m,W 0 m [] H)∧∀ i m ys H,W i m ys H →
  (J.stop i H∧ys.length≤sizeLine∧∀ p,H p=none→Q (.ref p) (upd H p (.lst ys))) ∨
  (J.go i H∧ys.length<sizeLine∧∀ x H',J.yld i H x H'→tc (some x::K9 σ Bs) H' fun b H2 =>
   if b=true then te (some x::K9 σ Bs) H2 fun y H3=>∃ m',m'<m∧W (i+1) m' (ys++[y]) H3 else ∃ m',m'<m∧W (i+1) m' ys H2)
def AcJ (wi:TI)(Bs:List Nat)(tc:TT)(te:TE):TE:=fun σ H Q=>wi σ H fun J H1=>Va Bs tc te J σ H1 Q
section
variable {X:Cx}{pins:List (Addr × Obj)}{σ:St}{H:Hp}{s:Shared}
theorem Un.track{fs ex:List Addr}{H H':Hp}{h h':Heap}{a:Addr}{o:HO}(u:Un fs ex H H' h h')(ha:h.objs.size≤a)(hn:H' a=none):Un fs ex H (upd H' a o) h h' where
 keep:=u.keep
 slot:=u.slot
 free:=fun b ob q n hx=>by rw[Aj (Aig (Aif (Heap.lt_size q) ha))];exact u.free b ob q n hx
 there:=u.there
 tups:=fun b xs q=>by rw[Aj (Cd (u.tups b xs q) hn)];exact u.tups b xs q
 MF:=fun b ob xs q=>by rw[Aj (Cd (u.MF b ob xs q) hn)];exact u.MF b ob xs q
 Oq:=fun b ps q=>by
  obtain⟨m,e⟩:=u.Oq b ps q
  exact⟨m,by rw[Aj (Cd e hn)];exact e⟩
theorem HOk.track{P:Program}{w:World}{H:Hp}{h:Heap}{a:Addr}{o:HO}(x:HOk P w H h)(hn:H a=none)(new:Eu P w (upd H a o) h a o):HOk P w (upd H a o) h:=fun b u e=>by
 by_cases hb:b=a
 ·subst hb;rw[Ae] at e;cases e;exact new
 ·rw[Aj hb] at e
  exact(x b u e).stay (fun c v _ q=>q) (fun c q=>by rw[Aj (Cd q hn)];exact q) fun c xs q=>by rw[Aj (Cd q hn)];exact q
theorem AbZ{x:Str}{Nc:List Str}{Bs:List Nat}{scope:Scope}{cl:List (Str × Addr)}{C:Addr}{fp:List Addr}(I:Inv X pins σ H s)(O:Et X x Nc Bs scope)
  (hcl:∀ x c,cl.lookup x=some c→X.env.cells.lookup x=some c∧(x,NameKind.free)∈scope.names) (ZW:∀ x,(x,NameKind.free)∈scope.names→cl.lookup x=X.env.cells.lookup x)
  (hC:s.heap.objs.size≤C) (hfp:∀ b∈fp,Nt X pins H b) (hfo:∀ b∈fp,b<s.heap.objs.size):(JK X Nc scope cl C fp s H).Ok where
 mod:=I.ok.mod
 kind:=O.kind
 glob:=I.ok.glob
 blt:=I.ok.blt
 above:=hC
 inj:=fun a b c e1 e2=>I.ok.inj a b c (hcl a c e1).1 (hcl b c e2).1
 has:=fun y hy=>by
  have mem:(y,NameKind.free)∈scope.names:=by
   have hy':((relabel scope X.env).names.lookup y=some .cell)∨((relabel scope X.env).names.lookup y=some .free):=hy
   have hm:∃ k,(y,k)∈(relabel scope X.env).names∧(k=.cell∨k=.free):=by
    rcases hy' with h | h
    ·exact⟨_,PySem.mem_of_lookup h,.inl rfl⟩
    ·exact⟨_,PySem.mem_of_lookup h,.inr rfl⟩
   obtain⟨k,hm,hk⟩:=hm
   obtain⟨⟨n,k'⟩,hm',e⟩:=List.mem_map.mp hm
   dsimp only at e
   by_cases hc:(k' == NameKind.free && X.env.scope.kind == .function && X.env.kindOf n == some .cell)=true
   ·rw[if_pos hc] at e
    injection e with e1 _
    subst e1
    have:k'=.free:=by
     have:=(Aj3 _ _▸(Aj3 _ _▸hc).1).1
     simpa using this
    subst this
    exact hm'
   ·rw[if_neg hc] at e
    injection e with e1 e2
    subst e1 e2
    rcases hk with hk | hk
    ·subst hk;exact absurd rfl (O.cell _ hm')
    ·subst hk;exact hm'
  obtain⟨c,e⟩:=I.ok.has y (.inl (O.fr _ mem rfl).1)
  exact⟨c,(ZW y mem).trans e⟩
 cab:=fun _ _ z=>nomatch z
 hd:=I.ok.hd
 frames:=I.ok.frames
 stk:=.inl rfl
 exf:=fun b hb=>⟨Aig (Aif (hfo b hb) hC),fun y c e=>(hfp b hb).2.2.2.2.1 y c (hcl y c e).1⟩
 bs:=I.bs
 bsz:=Ais I.ok.bsz I.sz
 ZJ:=fun b o e hb=>by
  rcases(hfp b hb).2.2.2.1 with z | z
  ·exact I.ok.ZJ b o e z
  ·exact absurd (Aif (Heap.lt_size e) (Ais I.ok.bsz z)) (Ai5 _)
 ZK:=fun b hb z=>by
  rcases List.mem_cons.mp (I.XX b z) with e | e
  ·exact(hfp b hb).2.1 e
  ·exact(hfp b hb).2.2.1 e
 Rv:=I.stack
 frf:=I.U4
end
open PySem PySem.Spec PyProof.Rows
section
variable {X:Cx}{pins:List (Addr × Obj)}{σ:St}{H:Hp}{s:Shared}
theorem AaE(σ:St)(Bs:List Nat):(K9 σ Bs).length=Bs.length:=by unfold K9;rw[AhZ]
theorem AaF{σ:St}{Bs:List Nat}{k:Nat}{v:V}(e:(K9 σ Bs)[k]?=some (some v)):∃ j,Bs[k]?=some j∧σ[j]?=some (some v):=by
 unfold K9 at e
 rw[Aip] at e
 cases hk:Bs[k]? with
 | none=>rw[hk] at e;cases e
 | some j =>
  rw[hk] at e
  have e':(σ[j]?).join=some v:=Option.some.inj e
  refine⟨j,rfl,?_⟩
  cases hj:σ[j]? with
  | none=>rw[hj] at e';cases e'
  | some o=>rw[hj] at e';rw[show o=some v from e']
theorem Un.but{fs ex:List Addr}{H H':Hp}{h h1 h2:Heap}{C:Addr}(u:Un fs ex H H' h h1)(hs:Heap.SameBut C h1 h2)(hC:h.objs.size≤C):Un fs ex H H' h h2 where
 keep:=fun b o q n hb hx=>(hs.2 b (Aig (Aif (Heap.lt_size q) hC))).trans (u.keep b o q n hb hx)
 slot:=fun b o q n hb hx=>by
  obtain⟨sl,e⟩:=u.slot b o q n hb hx
  exact⟨sl,(hs.2 b (Aig (Aif (Heap.lt_size q) hC))).trans e⟩
 free:=u.free
 there:=fun b o q hx=>by
  obtain⟨o',e⟩:=u.there b o q hx
  exact⟨o',(hs.2 b (Aig (Aif (Heap.lt_size q) hC))).trans e⟩
 tups:=u.tups
 MF:=u.MF
 Oq:=u.Oq
theorem Yk{x:Str}{Nc:List Str}{Bs:List Nat}{scope:Scope}{cl:List (Str × Addr)}{C:Addr}{fp:List Addr}{h':Heap}{tk:Nat}{m0:Str→Option Value}(I:Inv X pins σ H s)(O:Et X x Nc Bs scope)
  (hcl:∀ x c,cl.lookup x=some c→X.env.cells.lookup x=some c∧(x,NameKind.free)∈scope.names) (ZW:∀ x,(x,NameKind.free)∈scope.names→cl.lookup x=X.env.cells.lookup x)
  (hC:s.heap.objs.size≤C) (hfp:∀ b∈fp,Nt X pins H b) (hfo:∀ b∈fp,b<s.heap.objs.size)
  (old:∀ b o,s.heap.get? b=some o→h'.get? b=some o) (hns:h'.Ns C m0) :
  Inv (JK X Nc scope cl C fp s H) [] (none::K9 σ Bs) H { s with heap:=h',toks:=tk } where
 ok:=AbZ I O hcl ZW hC hfp hfo
 os:=rfl
 bare:=I.bare
 base:=Un.kept old
 loc:=by
  refine⟨m0,hns,fun i y v hN hσ hv=>?_⟩
  cases i with
  | zero=>simp at hσ
  | succ k =>
   rw[List.getElem?_cons_succ] at hσ
   obtain⟨j,hj,hs⟩:=AaF hσ
   obtain⟨z,hz1,hz2,hz3⟩:=O.cap k j hj
   have hN':Nc[k+1]?=some y:=hN
   rw[hz1] at hN'
   cases hN'
   have mem:(y,NameKind.free)∈scope.names:=PySem.mem_of_lookup hz3
   have hk:=(O.fr _ mem rfl).1
   obtain⟨m,hn,hl⟩:=I.loc
   obtain⟨u,r,l⟩:=hl j y v hz2 hs (.inr (.inl hk))
   refine⟨u,r,?_⟩
   rcases l with ⟨k',_⟩ | ⟨_,c,hc,z⟩
   ·have k'':X.env.scope.names.lookup y=some .local:=k'
    rw[hk] at k'';cases k''
   ·obtain⟨o,ho,hd⟩:=z
    exact .inr ⟨.inl (GR I.ok.kind hz3 hk),c,(ZW y mem).trans hc,o,old _ _ ho,hd⟩
 cell:=fun y c e=>by
  obtain⟨v,o,ho,hd⟩:=I.cell y c (hcl y c e).1
  exact⟨v,o,old _ _ ho,hd⟩
 free:=I.hok.fresh hC
 K7:=fun y c e=>I.K7 y c (hcl y c e).1
 pin:=fun p hp=>absurd (show p∈([]:List (Addr × Obj)) from hp) (by simp)
 hok:=I.hok.kept old
 len:=by
  show(none::K9 σ Bs).length=Nc.length
  rw[Ai2,AaE,O.len]
abbrev Vb (us:List Value) (n:Nat):Obj:={ cls:=.type "list", data:=.seq us.toArray n }
theorem Fl{X:Cx}{sc0 scope:Scope}(h:X.env.scope=sc0)(hd:∀ y∈scope.names,y.2=.free→sc0.names.lookup y.1=some .cell∧scope.names.lookup y.1=some .free) :
  ∀ y∈scope.names,y.2=.free→X.env.scope.names.lookup y.1=some .cell∧scope.names.lookup y.1=some .free:=by
 rw[h]
 exact hd
theorem RL{x:Str}{px:Pos}{Nc:List Str}{Bs:List Nat}{scope:Scope}{cl:List (Str × Addr)}{iter elt:Expr}{ifs:List Expr}{pos:Pos}{tc:TT}{te:TE}{Q:VK}{it:Addr}{fp:List Addr}{tn:Nat→Heap→Prop}{J:It}
  {RR:Value→Addr→Result→Shared→Prop}{E:Value→Shared→Prop}
  (O:Et X x Nc Bs scope) (hc:X.calm=true)
  (hcl:∀ x c,cl.lookup x=some c→X.env.cells.lookup x=some c∧(x,NameKind.free)∈scope.names) (ZW:∀ x,(x,NameKind.free)∈scope.names→cl.lookup x=X.env.cells.lookup x)
  (hte:∀ C fp s H,PE (JK X Nc scope cl C fp s H) elt te) (htc:∀ C fp s H,PIf (JK X Nc scope cl C fp s H) ifs tc)
  (I:Inv X pins σ H s) (T:Turn X.prog X.w X.K (.Name x px) J fp it tn) (st:tn 0 s.heap) (hfp:∀ b∈fp,Nt X pins H b) (h:Va Bs tc te J σ H Q)
  (hRR:∀(D C:Addr) (s':Shared) (m:Str→Option Value),s'.heap.Ns C m→(∀ h',Heap.SameBut C s'.heap h'→∃ H',Inv X pins σ H' { s' with heap:=h' }∧H' C=none∧Q (.ref D) H') →
   s.heap.objs.size≤C→RR (.ref D) C (.ok .next) s') :
  wpAny (model X.prog X.w) X.A (newList []) (fun acc s₃=>wpAny (model X.prog X.w) X.A (newFunctionEnv scope X.env.globals cl [] X.env.qual none .none (some X.env)) (fun cenv s₄ =>
   codeAny (model X.prog X.w) X.A (.compStart (.ListComp elt [⟨.Name x px,iter,ifs,0⟩] scope pos) 0 (.ref it) acc { cenv with scope:=relabel scope X.env }) (RR acc cenv.locals) s₄) E s₃) E s:=by
 refine wpAny_newObj_type (wpAny_newFunctionEnv O.cell (by intro y hy;simp at hy) (fun h₁ hns₁ hsb₁=>?_) O.kind)
 dsimp only at hns₁ hsb₁ ⊢
 generalize hH2:s.heap.push { cls:=.type "list", dict:=none,data:=.seq ([]:List Value).toArray }=H2 at hns₁ hsb₁ ⊢
 have hC:H2.objs.size=s.heap.objs.size+1:=by rw[← hH2,Heap.size_push]
 have hCle:s.heap.objs.size≤H2.objs.size:=by rw[hC];exact AiI _
 have hDC:s.heap.objs.size≠H2.objs.size:=by rw[hC];exact Aig (AjI _)
 have below:∀ b,b<s.heap.objs.size→b≠H2.objs.size∧b≠s.heap.objs.size:=fun b hb=>⟨by rw[hC];exact Aig (AjJ hb),Aig hb⟩
 have old:∀ b o,s.heap.get? b=some o→h₁.get? b=some o:=fun b o e=>hsb₁.extBut b o (below b (Heap.lt_size e)).1 (Heap.get?_push_of_some _ (hH2▸Heap.get?_push_of_some _ e))
 have hacc:h₁.get? s.heap.objs.size=some (Vb [] 0):=hsb₁.extBut _ _ hDC (Heap.get?_push_of_some _ (hH2▸Heap.get?_push_size _ rfl))
 have hfo:∀ b∈fp,b<s.heap.objs.size:=fun b hb=>by
  obtain⟨o,e,_⟩:=T.obj _ _ st b hb
  exact Heap.lt_size e
 have st1:tn 0 h₁:=T.keep _ _ _ st fun b _ o e=>old b o e
 generalize hDD:s.heap.objs.size=D at *
 generalize hCC:H2.objs.size=C at *
 have Ago:D≤C:=hCle
 let Y:Cx:=JK X Nc scope cl C fp s H
 have I0:Inv Y [] (none::K9 σ Bs) H { s with heap:=h₁,toks:=s.toks+([]:List (Str × Value)).length }:=Yk I O hcl ZW (by rw[hDD];exact hCle) hfp (fun b hb=>by rw[hDD];exact hfo b hb) old hns₁
 have AeE:H D=none:=by rw[← hDD];exact I.hok.fresh (AhX _)
 have Aca:D≠C:=hDC
 have Dfs:D∉Y.fs:=fun z=>by
  have:=I.stack.mem (show D∈frs X.stack from z)
  obtain⟨_,o,e,_⟩:=this
  have:=Heap.lt_size e
  rw[hDD] at this
  exact Ai5 _ this
 have AeF:∀ y c,Y.env.cells.lookup y=some c→c≠D:=fun y c e z=>by
  obtain⟨v,q⟩:=I.cell y c (hcl y c e).1
  have:=q.lt
  rw[z,hDD] at this
  exact Ai5 _ this
 have Dfp:∀ b∈fp,b≠D:=fun b hb=>Aig (hfo b hb)
 have fpY:∀{H':Hp},(∀ b∈fp,H' b=none)→∀ b∈fp,Nt Y [] H' b:=fun hn b hb =>
  ⟨hn b hb,Aig (Aif (hfo b hb) Ago),fun z=>I0.ok.ZK b hb z,.inl hb,fun y c e=>(I0.ok.exf b hb).2 y c e,fun p hp=>absurd (show p∈([]:List (Addr × Obj)) from hp) (by simp)⟩
 obtain⟨W,⟨m0,w0⟩,turn⟩:=h
 have loop:∀ s₃:Shared,s₃={ s with heap:=h₁,toks:=s.toks+([]:List (Str × Value)).length } →
   codeAny (model X.prog X.w) X.A (.compLoop (.ListComp elt [⟨.Name x px,iter,ifs,0⟩] scope pos) 0 (.ref it) (.ref D) (compEnvC scope cl C X.env)) (RR (.ref D) C) s₃:=by
  rintro s₃ rfl
  refine UT (fun n s'=>∃(i:Nat) (o:Option V) (H':Hp) (ys:List V) (us:List Value) (k:Nat),Inv Y [] (o::K9 σ Bs) H' s'∧tn i s'.heap∧(∀ b∈fp,H' b=none)∧s'.heap.get? D=some (Vb us k)∧H' D=none∧Vals ys us∧W i n ys H')
   ?_ m0 ⟨0,none,H,[],[],0,I0,st1,fun b hb=>(hfp b hb).1,hacc,AeE,.nil,w0⟩
  rintro n s3 ⟨i,o3,H3,ys,us,k,I3,st3,fr3,hD3,nD3,rv,w3⟩
  have fpP:∀{H':Hp} {ob:Obj},(∀ b∈fp,H' b=none)→∀ b∈fp,Nt Y [(D,ob)] H' b:=fun hn b hb=>by
   obtain⟨g0,g1,g2,g3,g4,_⟩:=fpY hn b hb
   refine⟨g0,g1,g2,g3,g4,fun p hp=>?_⟩
   have e:p=(D,_):=List.mem_singleton.mp (show p∈[(D,_)] from hp)
   rw[e]
   exact Ne.symm (Dfp b hb)
  have IP:Inv Y [(D,Vb us k)] (o3::K9 σ Bs) H3 s3:=I3.GX fun p hp=>by
   have e:p=(D,Vb us k):=List.mem_singleton.mp hp
   subst e
   exact⟨hD3,nD3,Aca,Dfs,fun v z=>by cases z⟩
  have Ad0:∀{σ':St} {H':Hp} {s':Shared} {pl:List (Addr × Obj)},Inv Y ([(D,Vb us k)]++pl) σ' H' s'→s'.heap.get? D=some (Vb us k)∧H' D=none:=fun I'=>by
   have z:=I'.pin (D,Vb us k) (Ait _ (Ajz _ Aii))
   exact⟨z.1,z.2.1⟩
  rcases turn i n ys H3 w3 with ⟨stop,hlen,fin⟩ | ⟨go,hlen,step⟩
  ·
   refine wpAny_mono (T.done Y rfl rfl rfl hc i _ s3 _ H3 (fun _ _=>False) IP (fpP fr3) st3 stop) (fun r s4 hr=>?_) fun _ _ z=>z.elim
   obtain⟨hr,I4⟩:=hr
   subst hr
   obtain⟨gD,nD⟩:=Ad0 (pl:=[]) (by simpa using I4)
   obtain⟨m,hn,_⟩:=I4.loc
   refine hRR D C s4 m hn (fun h' hs'=>⟨upd H3 D (.lst ys),?_,(Aj (Ne.symm Aca)).trans I4.free,fin D nD⟩) hCle
   have nt:∀ b ob,H3 b=some ob→b≠C:=fun b ob e z=>by
    have:=I4.free
    rw[z] at e
    rw[show H3 C=none from this] at e
    cases e
   have u1:Un (frs X.stack) fp H H3 s.heap h':=Un.but I4.base hs' (show s.heap.objs.size≤C by rw[hDD];exact hCle)
   have ok1:HOk X.prog X.w H3 h':=fun b ob e=>(I4.hok b ob e).stay (fun c v hc q=>(hs'.2 c (by
    rcases hc with z | z
    ·rw[z];exact nt b ob e
    ·exact nt c _ z)).trans q) (fun _ q=>q) fun _ _ q=>q
   have gD':h'.get? D=some (Vb us k):=(hs'.2 D Aca).trans gD
   exact I.call' (s':={ s4 with heap:=h' }) (ch:=fp) I4.os (u1.track (Aje hDD) nD) (ok1.track nD ⟨hlen,us,k,rv,gD'⟩) I4.bare fun b hb=>by
    obtain⟨_,g1,_,g3,g4,g5⟩:=hfp b hb
    exact⟨g3,g1,g4,g5⟩
  ·
   refine wpAny_mono (T.item Y rfl rfl rfl hc i _ s3 _ H3 (fun _ _=>False) IP (fpP fr3) st3 go) (fun r s4 hr=>?_) fun _ _ z=>z.elim
   obtain⟨u0,hr,h4⟩:=hr
   subst hr
   refine wpAny_mono h4 (fun _ s5 h5=>?_) fun _ _ z=>z.elim
   obtain⟨x5,H5,I5,r5,y5,st5,fr5⟩:=h5
   have I5':=I5.pinned (fpP fr5) (T.obj _ _ st5)
   have tgt:PG Y (.Name x px) (Wl 0):=Bp (i:=0) O.nd O.hd (.inl (Ho I.ok.kind O.loc (by intro z;cases z))) (.inr (Ho I.ok.kind O.loc (by intro z;cases z)))
   refine wpAny_mono (tgt _ s5 _ H5 x5 u0 (fun σ2 H2=>σ2=some x5::K9 σ Bs∧H2=H5) I5' r5 ⟨rfl,rfl⟩) (fun _ s6 h6=>?_) fun _ _ z=>z.elim
   obtain⟨_,_,I6,rfl,rfl⟩:=h6
   refine wpAny_mono ((htc C fp s H).run I6 (step x5 _ y5)) (fun b s7 h7=>?_) fun _ _ z=>z.elim
   obtain⟨H7,I7,q7⟩:=h7
   have AcK:∀{σ':St} {H':Hp} {s':Shared},Inv Y ([(D,Vb us k)]++RB fp s5.heap) σ' H' s'→tn (i+1) s'.heap∧∀ b∈fp,H' b=none:=fun I' =>
    ⟨T.keep _ _ _ st5 fun b hb o e=>(I'.pin (b,o) (Ait _ (Ait _ (JD hb e)))).1,fun b hb=>by
     obtain⟨o,e,d⟩:=T.obj _ _ st5 b hb
     exact(I'.pin (b,o) (Ait _ (Ait _ (JD hb e)))).2.1⟩
   cases b with
   | false =>
    rw[if_neg Ail] at q7
    rw[if_neg Ail]
    obtain⟨m',hm,w7⟩:=q7
    obtain⟨gD,nD⟩:=Ad0 I7
    obtain⟨k1,k2⟩:=AcK I7
    exact⟨m',hm,i+1,some x5,H7,ys,us,k,I7.GX (fun p hp=>nomatch hp),k1,k2,gD,nD,rv,w7⟩
   | true =>
    rw[if_pos rfl] at q7
    rw[if_pos rfl]
    refine wpAny_mono (hte C fp s H _ s7 _ H7 _ I7 q7) (fun u8 s8 h8=>?_) fun _ _ z=>z.elim
    obtain⟨y8,H8,I8,r8,m',hm,w8⟩:=h8
    obtain⟨gD,nD⟩:=Ad0 I8
    obtain⟨k1,k2⟩:=AcK I8
    refine call_meets F.slot_list_append ⟨_,gD,rfl⟩ F.entry_list_append (F.args_list_append_2 _ _) (PySem.list_append D us.toArray k u8 (by rw[Aia,← rv.length];omega)) ⟨gD,?_⟩
    have q:=PySem.IsL.update gD (·.push u8)
    have e1:us.toArray.push u8=(us++[u8]).toArray:=by simp
    rw[e1] at q
    have I8':Inv Y [] (some x5::K9 σ Bs) H8 s8:=I8.GX (fun p hp=>nomatch hp)
    have I9:Inv Y [] (some x5::K9 σ Bs) H8 { s8 with heap:=s8.heap.update D (Obj.mapSeq (·.push u8)),toks:=s8.toks } :=
     I8'.turned (it:=D) (fun b o hb e=>(Heap.get?_update_other s8.heap (Obj.mapSeq (·.push u8)) (Ne.symm hb)).trans e) nD Aca (.inr (Aje hDD)) AeF (fun p hp=>nomatch hp)
    refine⟨m',hm,i+1,some x5,H8,ys++[y8],us++[u8],_,I9,T.keep _ _ _ k1 fun b hb o e=>(Heap.get?_update_other s8.heap (Obj.mapSeq (·.push u8)) (Ne.symm (Dfp b hb))).trans e,k2,q,nD,rv.append (.cons r8 .nil),w8⟩
 exact codeAny_compStart_list (loop _ rfl) (T.self X.A 0 _ _ _ st1 (loop _ rfl))
theorem JL{x:Str}{px pos:Pos}{Nc:List Str}{Bs:List Nat}{scope:Scope}{iter elt:Expr}{ifs:List Expr}{wi:TI}{tc:TT}{te:TE}(O:Et X x Nc Bs scope)(hc:X.calm=true)(hi:PI X (.Name x px) iter wi)
  (htc:∀ cl C fp s H,PIf (JK X Nc scope cl C fp s H) ifs tc) (hte:∀ cl C fp s H,PE (JK X Nc scope cl C fp s H) elt te) (hs:∀ x,foldedSetIterable iter X.env x=pure x:=by intro _;rfl) :
  PE X (.ListComp elt [⟨.Name x px,iter,ifs,0⟩] scope pos) (AcJ wi Bs tc te):=by
 intro pins s σ H Q I h
 rw[eval_ListComp]
 obtain⟨cl,e1,e2,e3⟩:=RK (scope:=scope) (env:=X.env) fun y hy hf=>I.ok.has y.1 (.inl (O.fr y hy hf).1)
 refine wpAny_comprehension_free (use:=none) rfl hs e1 O.kind O.names (thn (hi pins s σ H _ I h) fun v s1 h1=>thn h1 fun itv s2 h2=>?_)
 obtain⟨it,fp,tn,J,H2,e,I2,T,st2,f2,w2⟩:=h2
 subst e
 refine RL (RR:=fun acc C=>compPost (model X.prog X.w) X.A X.xe none (EP X pins σ Q) acc C) O hc e2 e3 (hte cl) (htc cl) I2 T st2 f2 w2 ?_
 intro D C s' m hn hq hC
 refine⟨m,hn,fun h' hs'=>?_⟩
 obtain⟨H',I',_,q⟩:=hq h' hs'
 exact⟨.ref D,H',I',rfl,q⟩
theorem R0{i:Nat}{y x:Str}{px py pos spos:Pos}{Nc:List Str}{Bs:List Nat}{scope:Scope}{iter elt:Expr}{ifs:List Expr}{wi:TI}{tc:TT}{te:TE}(O:Et X x Nc Bs scope)(hc:X.calm=true)
  (hN:X.N.Nodup) (hy:X.N[i]?=some y) (hx:X.env.scope.names.lookup y=some .local) (hi:PI X (.Name x px) iter wi)
  (htc:∀ cl C fp s H,PIf (JK X Nc scope cl C fp s H) ifs tc) (hte:∀ cl C fp s H,PE (JK X Nc scope cl C fp s H) elt te)
  (hsw:swapsWith (.ListComp elt [⟨.Name x px,iter,ifs,0⟩] scope pos) (some (.Name y py)) spos.line X.env=pure true) (hs:∀ x,foldedSetIterable iter X.env x=pure x:=by intro _;rfl) :
  PS X (.Assign [.Name y py] (.ListComp elt [⟨.Name x px,iter,ifs,0⟩] scope pos) spos) (AbQ (AcJ wi Bs tc te) (Wl i)):=by
 intro pins s σ H Dn I h
 rw[exec_Assign_Name_used _ _ _ _ hsw]
 refine wpAny_bind (wpAny_standAt (wpAny_bind ?_))
 obtain⟨cl,e1,e2,e3⟩:=RK (scope:=scope) (env:=X.env) fun y hy hf=>I.ok.has y.1 (.inl (O.fr y hy hf).1)
 show wpAny _ X.A (do let _ ← comprehension (.ListComp elt [⟨.Name x px,iter,ifs,0⟩] scope pos) scope X.env _ (newList []) false (eval iter X.env) (some (assign (.Name y py) X.env))) _ _ s
 refine wpAny_bind (wpAny_mono (wpAny_comprehension_free (use:=some (assign (.Name y py) X.env)) (Q:=fun _ s'=>SP X pins Dn .next s') rfl hs e1 O.kind O.names
  (thn (hi pins s σ H _ I h) fun v s1 h1=>thn h1 fun itv s2 h2=>?_)) (fun _ s' hq=>wpAny_pure (wpAny_pure hq)) fun _ _ e=>e)
 obtain⟨it,fp,tn,J,H2,e,I2,T,st2,f2,w2⟩:=h2
 subst e
 refine RL (RR:=fun acc C=>compPost (model X.prog X.w) X.A X.xe (some (assign (.Name y py) X.env)) (fun _ s'=>SP X pins Dn .next s') acc C) O hc e2 e3 (hte cl) (htc cl) I2 T st2 f2 w2 ?_
 intro D C s' m hn hq hC
 show wpAny _ X.A (assign (.Name y py) X.env (.ref D)) _ _ _
 obtain⟨H',I',nC,q⟩:=hq s'.heap (.refl ..)
 have I'':Inv X pins σ H' s':=I'
 have CL:C≠X.env.locals:=Aj0 (Aif I2.lt hC)
 have AcL:∀ y c,X.env.cells.lookup y=some c→c≠C:=fun y c e z=>by
  obtain⟨v,q⟩:=I2.cell y c e
  have:=Aif q.lt hC
  rw[z] at this
  exact Ai5 _ this
 refine wpAny_assign_Name (TX I'' hN hy (.inl hx) (show RelV (.ref D) (.ref D) from rfl) (fun s3 I3 hsb=>?_) (.inr hx))
 obtain⟨a,hsb,ha⟩:=hsb
 have aC:C≠a:=by
  rcases ha with z | z
  ·rw[z];exact CL
  ·exact Ne.symm (AcL _ _ z)
 refine⟨m,hn.sameBut hsb aC,fun h4 hs4=>?_⟩
 refine⟨_,H',I3.turned (it:=C) (t':=s3.toks) (fun b o hb e=>(hs4.2 b hb).trans e) nC CL (.inr (Ais I2.sz hC)) AcL (fun p hp z=>?_),q⟩
 ·have:=Aif (Heap.lt_size (I2.pin p hp).1) hC
  rw[z] at this
  exact Ai5 _ this
end
open PySem PySem.Spec PyProof.Rows
def Its (x:Str):It:=⟨fun i _=>i<x.cps.size,fun i H v H'=>H'=H∧∃ c,x.cps[i]?=some c∧v=.str ⟨#[c]⟩,fun i _=>x.cps.size≤i⟩
theorem ZX{P:Program}{w:World}{K:PySem.W.Frag}{tg:Expr}(it:Addr)(x:Str)(t:Tok):Turn P w K tg (Its x) [it] it (fun i h=>i≤x.cps.size∧h.IsStrIter it "str_ascii_iterator" x t i) where
 mem:=by simp
 obj:=fun i h st b hb=>by
  have e:b=it:=by simpa using hb
  subst e
  obtain⟨_,o,e,c,d⟩:=st
  exact⟨o,e,fun v z=>by rw[d] at z;cases z⟩
 keep:=fun i h h' st k=>by
  obtain⟨hl,o,e,c,d⟩:=st
  exact⟨hl,o,k it (by simp) o e,c,d⟩
 item:=by
  intro X hP hw hK hc i pins s σ H E I hf st hg
  subst hP hw hK
  obtain⟨hl,st⟩:=st
  have hg:i<x.cps.size:=hg
  obtain⟨f0,f1,f2,f3,f4,f5⟩:=hf it (by simp)
  have hx:x.cps[i]?=some x.cps[i]:=by simp[hg]
  refine wpAny_pyNext_ascii_item st hx fun h' st' sb=>?_
  have I1:Inv X pins σ H { s with heap:=h',toks:=s.toks+1 }:=I.turned (fun b o hb e=>(sb.2 b hb).trans e) f0 f1 f3 f4 f5
  obtain⟨o,e,c,d⟩:=id st'
  exact⟨_,rfl,Za (s:={ s with heap:=h',toks:=s.toks+1 }) e c d (by decide) ⟨.str ⟨#[x.cps[i]]⟩,H,I1,⟨_,rfl⟩,⟨rfl,_,hx,rfl⟩,⟨hg,st'⟩,fun b hb=>(hf b hb).1⟩⟩
 done:=by
  intro X hP hw hK hc i pins s σ H E I hf st hg
  subst hP hw hK
  obtain⟨hl,st⟩:=st
  have hg:x.cps.size≤i:=hg
  obtain⟨f0,f1,f2,f3,f4,f5⟩:=hf it (by simp)
  exact wpAny_pyNext_ascii_end (I.ok.hd hc) st (by simp;omega) fun h' eb=>⟨rfl,I.turned (t':=s.toks) (fun b o hb e=>eb b o hb e) f0 f1 f3 f4 f5⟩
 self:=fun _ _ _ _ _ st h=>wpAny_pyIter_striter_ascii st.2 h
theorem ZZ{P:Program}{w:World}{K:PySem.W.Frag}{tg:Expr}(it:Addr)(x:Str)(t:Tok):Turn P w K tg (Its x) [it] it (fun i h=>i≤x.cps.size∧h.IsStrIter it "str_iterator" x t i) where
 mem:=by simp
 obj:=fun i h st b hb=>by
  have e:b=it:=by simpa using hb
  subst e
  obtain⟨_,o,e,c,d⟩:=st
  exact⟨o,e,fun v z=>by rw[d] at z;cases z⟩
 keep:=fun i h h' st k=>by
  obtain⟨hl,o,e,c,d⟩:=st
  exact⟨hl,o,k it (by simp) o e,c,d⟩
 item:=by
  intro X hP hw hK hc i pins s σ H E I hf st hg
  subst hP hw hK
  obtain⟨hl,st⟩:=st
  have hg:i<x.cps.size:=hg
  obtain⟨f0,f1,f2,f3,f4,f5⟩:=hf it (by simp)
  have hx:x.cps[i]?=some x.cps[i]:=by simp[hg]
  refine wpAny_pyNext_wide_item st hx fun h' st' sb=>?_
  have I1:Inv X pins σ H { s with heap:=h',toks:=s.toks+1 }:=I.turned (fun b o hb e=>(sb.2 b hb).trans e) f0 f1 f3 f4 f5
  obtain⟨o,e,c,d⟩:=id st'
  exact⟨_,rfl,Za (s:={ s with heap:=h',toks:=s.toks+1 }) e c d (by decide) ⟨.str ⟨#[x.cps[i]]⟩,H,I1,⟨_,rfl⟩,⟨rfl,_,hx,rfl⟩,⟨hg,st'⟩,fun b hb=>(hf b hb).1⟩⟩
 done:=by
  intro X hP hw hK hc i pins s σ H E I hf st hg
  subst hP hw hK
  obtain⟨hl,st⟩:=st
  have hg:x.cps.size≤i:=hg
  obtain⟨f0,f1,f2,f3,f4,f5⟩:=hf it (by simp)
  exact wpAny_pyNext_wide_end (I.ok.hd hc) st (by simp;omega) fun h' eb=>⟨rfl,I.turned (t':=s.toks) (fun b o hb e=>eb b o hb e) f0 f1 f3 f4 f5⟩
 self:=fun _ _ _ _ _ st h=>wpAny_pyIter_striter_wide st.2 h
section
variable {X:Cx}{tg:Expr}
def Agp (tl:TE):TI:=fun σ H R=>tl σ H fun x H1=>∃ z,x=.str z∧R (Its z) H1
theorem AaG{l:Expr}{tl:TE}(hl:PE X l tl):PI X tg l (Agp tl):=by
 intro pins s σ H R I h
 refine thn (hl pins s σ H _ I h) fun v s1 ⟨x,H1,I1,r1,q1⟩=>?_
 obtain⟨z,e,q⟩:=q1
 subst e
 obtain⟨t,rfl⟩:=r1
 have fpn:∀ b∈[s1.heap.objs.size],Nt X pins H1 b:=fun b hb=>by
  have e:b=s1.heap.objs.size:=by simpa using hb
  subst e
  exact I1.Aa4 (AhX _) (I1.hok.fresh (AhX _))
 cases ha:z.cps.all (·<128)
 ·refine wpAny_pyIter_wide ha ?_
  exact⟨s1.heap.objs.size,[s1.heap.objs.size],_,_,H1,rfl,I1.kept (t':=s1.toks) fun b o e=>Heap.get?_push_of_some _ e,ZZ _ z t,⟨Aik _,_,Heap.get?_push_size _ rfl,rfl,rfl⟩,fpn,q⟩
 ·refine wpAny_pyIter_ascii ha ?_
  exact⟨s1.heap.objs.size,[s1.heap.objs.size],_,_,H1,rfl,I1.kept (t':=s1.toks) fun b o e=>Heap.get?_push_of_some _ e,ZX _ z t,⟨Aik _,_,Heap.get?_push_size _ rfl,rfl,rfl⟩,fpn,q⟩
end
theorem Zg{z:Str}{g:TG}{tb:TS}{D:Ends}{σ:St}{H:Hp}(Pv:Nat→St→Hp→Prop)(h0:Pv 0 σ H)
  (hs:∀ i c σ H,z.cps[i]?=some c→Pv i σ H→g (.str ⟨#[c]⟩) σ H fun σ2 H2=>tb { D with nx:=Pv (i+1),ct:=Pv (i+1),bk:=D.nx } σ2 H2) (hd:∀ σ H,Pv z.cps.size σ H→D.nx σ H) :
  ∃ W:Nat→Nat→St→Hp→Prop,(∃ m,W 0 m σ H)∧∀ i m σ H,W i m σ H →
   ((Its z).stop i H∧D.nx σ H)∨((Its z).go i H∧∃ N:St→Hp→Prop,(∀ σ' H',N σ' H'→∃ m',m'<m∧W (i+1) m' σ' H')∧∀ x H',(Its z).yld i H x H'→g x σ H' fun σ2 H2=>tb { D with nx:=N,ct:=N,bk:=D.nx } σ2 H2):=by
 refine⟨fun i m σ H=>m=z.cps.size-i∧i≤z.cps.size∧Pv i σ H,⟨z.cps.size,by simp,Aik _,h0⟩,?_⟩
 rintro i m σ H ⟨rfl,hi,p⟩
 by_cases hlt:i<z.cps.size
 ·refine .inr ⟨hlt,Pv (i+1),fun σ' H' p'=>⟨z.cps.size-(i+1),by omega,rfl,hlt,p'⟩,fun x H' y=>?_⟩
  obtain⟨e,c,hc,rfl⟩:=y
  subst e
  exact hs i c σ _ hc p
 ·have e:i=z.cps.size:=by omega
  subst e
  exact .inl ⟨AhX _,hd σ H p⟩
def CN (n:Nat)(Pv:Nat→List V→Hp→Prop)(i:Nat)(ys:List V)(H:Hp):Prop:=∃ m',m'<n-i∧m'=n-(i+1)∧i+1≤n∧Pv (i+1) ys H
theorem CN.of{n:Nat}{Pv:Nat→List V→Hp→Prop}{i:Nat}{ys:List V}{H:Hp}(h:i<n)(p:Pv (i+1) ys H):CN n Pv i ys H:=⟨n-(i+1),by omega,rfl,h,p⟩
def HB (n:Nat)(Pv:Nat→List V→Hp→Prop)(tc:TT)(te:TE)(σ:St)(i:Nat)(ys:List V)(H:Hp):Prop :=
 tc σ H fun b H2=>if b=true then te σ H2 fun y H3=>CN n Pv i (ys++[y]) H3 else CN n Pv i ys H2
theorem HB.no{n:Nat}{Pv:Nat→List V→Hp→Prop}{te:TE}{σ:St}{i:Nat}{ys:List V}{H:Hp}(h:te σ H fun y H3=>CN n Pv i (ys++[y]) H3):HB n Pv UW te σ i ys H:=by
 unfold HB UW
 exact Yj h
theorem Ej{K:PySem.W.Frag}{a:Addr}{xs:List V}{Bs:List Nat}{tc:TT}{te:TE}{σ:St}{H:Hp}{Q:VK}(Pv:Nat→List V→Hp→Prop)(h0:Pv 0 [] H)(hl:∀ i ys H,i≤xs.length→Pv i ys H→SqL K H a xs∧ys.length≤i)
  (hz:xs.length≤sizeLine) (hs:∀ i x ys H,i<xs.length→xs[i]?=some x→Pv i ys H→HB xs.length Pv tc te (some x::K9 σ Bs) i ys H)
  (hd:∀ ys H p,Pv xs.length ys H→H p=none→Q (.ref p) (upd H p (.lst ys))):Va Bs tc te (Itl K a) σ H Q:=by
 refine⟨fun i m ys H=>m=xs.length-i∧i≤xs.length∧Pv i ys H,⟨xs.length,by simp,Aik _,h0⟩,?_⟩
 rintro i m ys H ⟨rfl,hi,p⟩
 obtain⟨q,hy⟩:=hl i ys H hi p
 by_cases hlt:i<xs.length
 ·refine .inr ⟨⟨xs,xs[i],q,by simp[hlt]⟩,by omega,fun x H' y=>?_⟩
  obtain⟨e,y⟩:=y
  subst e
  exact hs i x ys _ hlt (y xs q) p
 ·have e:i=xs.length:=by omega
  subst e
  exact .inl ⟨⟨xs,q,AhX _⟩,by omega,fun p' hp=>hd ys H p' p hp⟩
theorem RM{lo:Int}{n:Nat}{Bs:List Nat}{tc:TT}{te:TE}{σ:St}{H:Hp}{Q:VK}(Pv:Nat→List V→Hp→Prop)(h0:Pv 0 [] H)(hl:∀ i ys H,i≤n→Pv i ys H→ys.length≤i)
  (hz:n≤sizeLine) (hs:∀ i ys H,i<n→Pv i ys H→HB n Pv tc te (some (.int (lo+i))::K9 σ Bs) i ys H)
  (hd:∀ ys H p,Pv n ys H→H p=none→Q (.ref p) (upd H p (.lst ys))):Va Bs tc te (Itr lo n) σ H Q:=by
 refine⟨fun i m ys H=>m=n-i∧i≤n∧Pv i ys H,⟨n,by simp,Aik _,h0⟩,?_⟩
 rintro i m ys H ⟨rfl,hi,p⟩
 have hy:=hl i ys H hi p
 by_cases hlt:i<n
 ·refine .inr ⟨hlt,by omega,fun x H' y=>?_⟩
  obtain⟨e,y⟩:=y
  subst e y
  exact hs i ys _ hlt p
 ·have e:i=n:=by omega
  subst e
  exact .inl ⟨AhX _,by omega,fun p' hp=>hd ys H p' p hp⟩
theorem Yl{ys:List Str}:∀{us:List Value},Vals (ys.map V.str) us→StrsAre us ys:=by
 induction ys with
 | nil=>intro us r;rw[AiH] at r;cases r;exact .nil
 | cons n ns ih =>
  intro us r
  rw[Aiq] at r
  cases r with
  | cons r1 r2 =>
   obtain⟨t,e⟩:=r1
   subst e
   exact .cons n t (ih r2)
def rJoin(K:PySem.W.Frag):V→List V→Hp→VK→Prop:=fun x vs H Q=>∃ z a ys,x=.str z∧vs=[.ref a]∧SqL K H a (ys.map V.str)∧(ys.map (·.length)).sum+ys.length*z.length≤16777216∧Q (.str (Txt.join z ys)) H
section
variable {X:Cx}
theorem Acb:MtR X "str.join" (rJoin X.K):=by
 intro pins s σ H x vs v us Q I rx rv h
 obtain⟨z,a,ys,rfl,rfl,hq,hz,q⟩:=h
 obtain⟨t,rfl⟩:=rx
 obtain⟨u,rfl,ru⟩:=rv.one
 cases ru
 obtain⟨its,r,pl,hl⟩:=I.list hq
 exact join_list pl.isList (Yl (by simpa using r)) hz fun t' k=>⟨.str _,H,I.tok _,⟨_,rfl⟩,q⟩
def AeG (K:PySem.W.Frag):List V→Hp→VK→Prop:=fun vs H Q=>∃ x t b,Qy K H x t ∧
 ((∃ n,vs=[x,.ty n]∧PySem.W.kitOne K t (.type n)=some b)∨(∃ a,vs=[x,.ref a]∧PySem.W.kitOne K t (.ref a)=some b))∧Q (.bl b) H
theorem AaH:Hm X (.builtin "isinstance") (AeG X.K):=by
 intro pins s σ H xs us Q I rv h
 obtain⟨x,t,b,ty,hv,q⟩:=h
 rcases hv with ⟨n,rfl,e⟩ | ⟨a,rfl,e⟩
 ·obtain⟨u1,u2,rfl,r1,r2⟩:=rv.two
  cases r2
  exact Ub I r1 ty e fun tk=>⟨.bl b,H,I.tok _,rfl,q⟩
 ·obtain⟨u1,u2,rfl,r1,r2⟩:=rv.two
  cases r2
  exact Ub I r1 ty e fun tk=>⟨.bl b,H,I.tok _,rfl,q⟩
def eqL:List V→List V→Bool
 | [],[]=>true
 | x::xs,y::ys=>eqV x y && eqL xs ys
 | _,_=>false
theorem Ws{x:V}(h:Dq x=true):eqV x x=true:=by
 cases x with
 | non=>rfl
 | bl b=>simp[eqV]
 | int i=>simp[eqV]
 | str z=>simp[eqV]
 | _=>exact absurd (show false=true from h) Ail
theorem KR:∀{xs:List V},xs.all Dq=true→eqL xs xs=true
 | [],_=>rfl
 | x::xs,h=>by
  rw[List.all_cons,Aj3] at h
  rw[eqL,Ws h.1,KR h.2]
  rfl
theorem Oz:∀{xs ys:List V},xs.length≠ys.length→eqL xs ys=false
 | [],[],h=>absurd rfl h
 | [],_::_,_=>rfl
 | _::_,[],_=>rfl
 | x::xs,y::ys,h=>by
  rw[eqL,Oz (xs:=xs) (ys:=ys) (fun z=>h (by rw[Ai2,Ai2,z])),Bool.and_false]
theorem Jy:∀{xs ys:List V},xs.length=ys.length→(List.range xs.length).all (fun j=>eqV (xs.getD j .non) (ys.getD j .non))=eqL xs ys
 | [],[],_=>rfl
 | [],_::_,h=>by simp at h
 | _::_,[],h=>by simp at h
 | x::xs,y::ys,h=>by
  have h':xs.length=ys.length:=by simpa using h
  rw[Ai2,List.range_succ_eq_map,List.all_cons,List.all_map]
  rw[eqL,← Jy h']
  rfl
def AeH (K:PySem.W.Frag):R2:=fun x y H Q=>∃ p q xs ys,x=.ref p∧y=.ref q∧SqL K H p xs∧SqL K H q ys∧xs.all Dq=true∧ys.all Dq=true∧Q (.bl (eqL xs ys)) H
theorem Ad1(hu:X.A.units<cLine):OpR X (compareOp .Eq) (AeH X.K):=by
 intro pins s σ H x y v u Q I rx ry h
 obtain⟨p,q,xs,ys,rfl,rfl,hx,hy,fx,fy,k⟩:=h
 cases rx
 cases ry
 obtain⟨its,r,pl,hz⟩:=I.list hx
 obtain⟨its2,r2,pl2,hz2⟩:=I.list hy
 have l1:=r.length
 have l2:=r2.length
 by_cases hl:xs.length=ys.length
 ·refine SeqAt.eq_listAt (e:=fun j=>eqV (xs.getD j .non) (ys.getD j .non)) pl.isList pl2.isList (by simp only [Aia];omega) hu (fun j h1 h2=>?_) ?_
  ·have j1:j<xs.length:=by simp only [Aia] at h1;omega
   have j2:j<ys.length:=by omega
   obtain⟨w1,e1,q1⟩:=r.get (i:=j) (x:=xs[j]) (by simp[j1])
   obtain⟨w2,e2,q2⟩:=r2.get (i:=j) (x:=ys[j]) (by simp[j2])
   have g1:its.toArray[j]=w1:=by
    have:its.toArray[j]?=some w1:=by simpa using e1
    exact Option.some.inj ((Array.getElem?_eq_getElem h1).symm.trans this)
   have g2:its2.toArray[j]=w2:=by
    have:its2.toArray[j]?=some w2:=by simpa using e2
    exact Option.some.inj ((Array.getElem?_eq_getElem h2).symm.trans this)
   rw[g1,g2]
   have d1:xs.getD j .non=xs[j]:=by simp[List.getD,j1]
   have d2:ys.getD j .non=ys[j]:=by simp[List.getD,j2]
   show SeqAt.EqAt _ _ _ _ (eqV (xs.getD j .non) (ys.getD j .non))
   rw[d1,d2]
   exact RJ q1 q2 (List.all_eq_true.mp fx _ (Aie j1)) (List.all_eq_true.mp fy _ (Aie j2))
  ·refine⟨.bl (eqL xs ys),H,I,?_,k⟩
   show Value.bool _=Value.bool _
   rw[Aia,← l1,Jy hl]
 ·refine SeqAt.eq_list_lengthsAt pl.isList pl2.isList (by simp only [Aia,bne_iff_ne];omega) hu ?_
  exact⟨.bl (eqL xs ys),H,I,by rw[Oz hl];rfl,k⟩
end
open PySem
def tx (l:List Nat):Str:=⟨l.toArray⟩
theorem Fb(l:List Nat):(tx l).length=l.length:=by simp[tx,Str.length]
theorem Zh(l:List Nat):(tx l).cps.toList=l:=by simp[tx]
theorem Q0(l:List Nat)(i:Nat):(tx l).cps[i]?=l[i]?:=by simp[tx]
theorem Ad2(a b:List Nat):tx a++tx b=tx (a++b):=by
 show Str.append (tx a) (tx b)=_
 simp[tx,Str.append]
theorem Ad3{a b:List Nat}(h:tx a=tx b):a=b:=by
 have:=congrArg (fun z:Str=>z.cps.toList) h
 simpa [tx] using this
theorem Vc(c:Nat):(⟨#[c]⟩:Str)=tx [c]:=rfl
theorem Uh:∀(ys:List (List Nat)) (acc:Array Nat),(ys.map tx).foldl (fun acc p=>acc++(tx []).cps++p.cps) acc=acc++ys.flatten.toArray
 | [],acc=>by simp
 | y::ys,acc=>by
  rw[Aiq,List.foldl_cons,Uh ys]
  simp[tx]
theorem Zi:∀(ys:List (List Nat)),Txt.join (tx []) (ys.map tx)=tx ys.flatten
 | []=>by simp[Txt.join,Builtin.Str.glued,tx,Str.empty]
 | y::ys=>by
  show Str.mk _=_
  simp only [Aiq,List.drop_one,List.tail_cons,List.headD_cons]
  rw[Uh]
  simp[tx]
theorem AaI{α:Type}(f:α→Nat):∀(l:List α),(l.map fun c=>[f c]).flatten=l.map f
 | []=>rfl
 | a::l=>by rw[Aiq,Ai1,AaI f l];rfl
theorem Ad4{α:Type}(f:α→Nat):∀(l:List α),(((l.map fun c=>[f c]).map tx).map (·.length)).sum=l.length
 | []=>rfl
 | a::l=>by
  rw[Aiq,Aiq,Aiq,AiJ,Ad4 f l,Fb,Ai2]
  show 1+l.length=l.length+1
  omega
end L2
namespace PySem
open Sem (wp)
open Builtin Builtin.Str Builtin.Int
namespace RV
theorem hint:typeLookup (.type "reversed") "__length_hint__" = pure (some (.builtin "reversed.__length_hint__")):=by rw[typeLookup_type,builtinLookup_eq_fast];kernel_rfl
end RV
def AhB (x:Str)(t:Tok)(i:Int):Obj:={ cls:=.type "reversed", data:=.fields #[.str x t,rawInt i] }
def Heap.Ad5(h:Heap)(a:Addr)(x:Str)(t:Tok)(i:Int):Prop:=∃ o,h.get? a=some o∧o.cls=.type "reversed" ∧ o.data=.fields #[.str x t,rawInt i]
section
variable {prog:Program}{w:World}{A:Around}{E:Value→Shared→Prop}{s:Shared}
end
end PySem
namespace L2
open PySem PySem.Spec PyProof.Rows
def AhC (p:Addr)(x:Str):HO:=.ext fun h=>∃ t,h.Ad5 p x t ((x.length:Int)-1)
def AhD (p:Addr):HO:=.ext fun h=>∃ o,h.get? p=some o
section
variable {X:Cx}
end
open PySem PySem.Spec PyProof.Rows
theorem QR{c A B:Prop}[Decidable c](h:¬c)(k:B):if decide c=true then A else B:=by rw[decide_eq_false h];exact Jc k
theorem AaJ{c A B:Prop}[Decidable c](h:c)(k:A):if decide c=true then A else B:=by rw[decide_eq_true h];exact Yj k
theorem Zj{c A B:Prop}[Decidable c](h:¬c)(k:A):if (!decide c)=true then A else B:=by rw[decide_eq_false h];exact Yj k
theorem O1{c A B:Prop}[Decidable c](h1:c→A)(h2:¬c→B):if decide c=true then A else B:=by
 by_cases h:c
 ·exact AaJ h (h1 h)
 ·exact QR h (h2 h)
theorem Al.upd{H:Hp}{p:Addr}{o:HO}(h:H p=none):Al H (L2.upd H p o):=fun b o' e=>by rw[Aj (Cd e h)];exact e
theorem Al.new{H H1:Hp}{p:Addr}{o:HO}(e:Al H H1)(h:H1 p=none):Al H (L2.upd H1 p o):=e.trans (.upd h)
theorem Al.over{H H1:Hp}{p:Addr}{o:HO}(e:Al H H1)(h:H p=none):Al H (L2.upd H1 p o):=fun b o' q=>by rw[Aj (Cd q h)];exact e b o' q
theorem Dc:bootBuiltins "len" = some (.builtin "len"):=by decide +kernel
theorem Dd:bootBuiltins "isinstance" = some (.builtin "isinstance"):=by decide +kernel
theorem Ym:bootBuiltins "sum" = some (.builtin "sum"):=by decide +kernel
theorem Q3:bootBuiltins "sorted" = some (.builtin "sorted"):=by decide +kernel
theorem Ad6:bootBuiltins "all" = some (.builtin "all"):=by decide +kernel
theorem JM:bootBuiltins "list" = some (.type "list"):=by decide +kernel
theorem Ad7:bootBuiltins "str" = some (.type "str"):=by decide +kernel
theorem Yn:bootBuiltins "int" = some (.type "int"):=by decide +kernel
theorem AaK:bootBuiltins "tuple" = some (.type "tuple"):=by decide +kernel
theorem Vd:bootBuiltins "enumerate" = some (.type "enumerate"):=by decide +kernel
theorem Ad8:bootBuiltins "zip" = some (.type "zip"):=by decide +kernel
theorem Acd:bootBuiltins "bool" = some (.type "bool"):=by decide +kernel
theorem Wt:bootBuiltins "range" = some (.type "range"):=by decide +kernel
structure Df (K:PySem.W.Frag) (mg:Str→Option Value) (x:Str) (st:Stmt) (ps:List Str) (f:Addr) (fd:FuncData):Prop where
 F:Fun K x x st f fd
 m:mg x=some (.ref f)
 b:Binds K fd ps []
def vS (cl:List (List Nat)):List V:=cl.map fun t=>V.str (tx t)
def vI (ns:List Int):List V:=ns.map V.int
theorem GK(cl:List (List Nat)):(vS cl).length=cl.length:=by unfold vS;rw[AhZ]
theorem Ao(ns:List Int):(vI ns).length=ns.length:=by unfold vI;rw[AhZ]
theorem RN{cl:List (List Nat)}{i:Nat}{t:List Nat}(h:cl[i]?=some t):(vS cl)[i]?=some (.str (tx t)):=by unfold vS;rw[Aip,h];rfl
theorem Q4{ns:List Int}{i:Nat}{n:Int}(h:ns[i]?=some n):(vI ns)[i]?=some (.int n):=by unfold vI;rw[Aip,h];rfl
theorem RP{cl:List (List Nat)}{i:Nat}{v:V}(h:(vS cl)[i]?=some v):∃ t,cl[i]?=some t∧v=.str (tx t):=by
 unfold vS at h
 rw[Aip] at h
 cases e:cl[i]? with
 | none=>rw[e] at h;cases h
 | some t=>rw[e] at h;exact⟨t,rfl,(Option.some.inj h).symm⟩
theorem JN{ns:List Int}{i:Nat}{v:V}(h:(vI ns)[i]?=some v):∃ t,ns[i]?=some t∧v=.int t:=by
 unfold vI at h
 rw[Aip] at h
 cases e:ns[i]? with
 | none=>rw[e] at h;cases h
 | some t=>rw[e] at h;exact⟨t,rfl,(Option.some.inj h).symm⟩
theorem Mx(cl:List (List Nat)):(vS cl).all Dq=true:=by unfold vS;rw[List.all_map];exact List.all_eq_true.mpr fun _ _=>rfl
theorem AaL(cl:List (List Nat)):vS cl=(cl.map tx).map V.str:=by unfold vS;rw[Ajr];rfl
theorem AaM(ns:List Int)(j:Nat)(n:Int):(vI ns).set j (.int n)=vI (ns.set j n):=by unfold vI;rw[List.map_set]
theorem Yo(ns:List Int)(n:Int):vI ns++[.int n]=vI (ns++[n]):=by unfold vI;rw[Aio];rfl
theorem Ve(cl:List (List Nat))(t:List Nat):vS cl++[.str (tx t)]=vS (cl++[t]):=by unfold vS;rw[Aio];rfl
theorem Bb{α:Type}{xs:List α}{i:Int}{v:α}(h0:0≤i)(h:xs[i.toNat]?=some v):atI xs i=some v:=by
 have e:i=(i.toNat:Int):=by omega
 rw[e]
 exact Zf h
theorem Vf{n:Nat}{i:Int}(h0:0≤i)(h:i<n):ixN n i=some i.toNat:=by unfold ixN;rw[if_pos h0,if_pos h]
open PySem PySem.Spec PyProof.Rows
section
variable {X:Cx}{K:PySem.W.Frag}{tg:Expr}
theorem Aw(hK:X.K=K:=by rfl):IxR X (Ads K):=by subst hK;exact AbW
theorem Ay(hK:X.K=K:=by rfl):IxR X (Adt K):=by subst hK;exact Adu
theorem Ace(hu:X.A.units<cLine)(hK:X.K=K:=by rfl):OpR X (compareOp .Eq) (AeH K):=by subst hK;exact Ad1 hu
theorem Am(hK:X.K=K:=by rfl):Hm X (.builtin "len") (fun xs H Q=>∃ p ys,xs=[.ref p]∧(SqL K H p ys∨SqT K H p ys)∧Q (.int ys.length) H):=by subst hK;exact UJ
theorem Gr(hK:X.K=K:=by rfl):Hm X (.type "list") (fun xs H Q=>∃ p ys,xs=[.ref p]∧(SqL K H p ys∨SqT K H p ys)∧∀ l,H l=none→Q (.ref l) (upd H l (.lst ys))):=by subst hK;exact UL
theorem Ga(hK:X.K=K:=by rfl):Hm X (.builtin "isinstance") (AeG K):=by subst hK;exact AaH
theorem Wu(hK:X.K=K:=by rfl):MtR X "str.join" (rJoin K):=by subst hK;exact Acb
theorem DW(hK:X.K=K:=by rfl):SlR X (AeA K):=by subst hK;exact AbX
theorem CG{l:Expr}{tl:TE}(hl:PE X l tl)(hK:X.K=K:=by rfl):PI X tg l (AcG K tl):=by subst hK;exact AbR hl
theorem Ui{a:Expr}{ta:TE}(ha:PE X a ta)(he:∀ whole,isTrue a X.env whole=(do let v ← whole;standAt a.pos;holding [v] (truthy v)))(hK:X.K=K:=by rfl) :
  PT X a (fun σ H Q=>ta σ H fun x H'=>∃ k,Adl K x H' k∧Q k H'):=by subst hK;exact Aa8 ha he
variable {o e:Expr}{es:List Expr}{to:TE}{t:TA}{name:Str}{apos cpos:Pos}{T id:String}{r:V→List V→Hp→VK→Prop}
theorem Dg(pa:PlainAttrs T)(slot:Slot T name id)(hty:typeOf (.builtin id)=pure (.type "method_descriptor")) (hm:MtR X id r) (ho:PE X o to) (ha:PA X (e::es) t)
  (hbase:attributeBase o name X.env (eval o X.env)=eval o X.env:=by rfl)
  (hfew:((backTo cpos (starEach (e::es) X.env)).all (fun x=>!x.1) && (backToKw cpos (keywordEach [] X.env)).all (fun x=>x.1.isSome)
   && decide ((e::es).length+([]:List Keyword).length+(if ([]:List Keyword).isEmpty then 0 else 1)<30))=true:=by rfl)
  (hline:(apos.endLine == cpos.line)=true:=by rfl) (hs:starEach (e::es) X.env=(false,eval e X.env)::starEach es X.env:=by rfl) (hplain:(backTo cpos (starEach es X.env)).any (·.1)=false:=by rfl) (hK:X.K=K:=by rfl) :
  PE X (.Call (.Attribute o name apos) (e::es) [] cpos) (tBM K T r to t):=by
 subst hK
 exact AeB pa slot hty hm ho ha hbase hfew hline hs hplain
end
open PySem PySem.Spec PyProof.Rows
abbrev exO (C t:Addr) (tb:Value):Obj:={ cls:=.ref C,data:=.fields #[.ref t,tb,.none,.none,.bool false,.none] }
structure Fx (B:Heap) (l:List Env) (e C t:Addr) (fl:Value) (h:Heap):Prop where
 st:B.StaysIn h
 ne:B.get? e=none
 fr:h.FunFrames B l
 ob:∃(T:Addr) (oT:Obj) (ts:Array Value),h.get? e=some (exO C t (.ref T))∧B.get? T=none∧T≠e∧h.get? T=some oT∧oT.data=.fields ts∧ts[3]?=some fl
section
variable {M:Model}{A:Around}{E:Value→Shared→Prop}{s:Shared}{B:Heap}{env:Env}{l:List Env}{e C t L:Addr}
end
open PySem PySem.Spec PyProof.Rows
section
variable {M:Model}{A:Around}{E:Value→Shared→Prop}{s:Shared}{B:Heap}{env:Env}{l:List Env}{e C t L:Addr}
end
structure Bk (P:Program) (w:World) (outer:List Env) (H:Hp) (h:Heap) (H':Hp) (B h':Heap):Prop where
 ok:HOk P w H' B
 keep:∀ b o,h.get? b=some o→H b=none→b∉frs outer→B.get? b=some o
 slot:∀ b o,h.get? b=some o→b∈frs outer→∃ sl,h'.get? b=some { o with slots:=sl }
 free:∀ b o,h.get? b=some o→H b=none→H' b=none
 there:∀ b o,h.get? b=some o→b∉frs outer→∃ o',B.get? b=some o'
 tups:∀ b xs,H b=some (.tup xs)→H' b=some (.tup xs)
 MF:∀ b o u,H b=some (.frz o u)→H' b=some (.frz o u)
 Oq:∀ b ps,H b=some (.tbl ps)→∃ more,H' b=some (.tbl (ps++more))
def CX1 (P:Program)(w:World):CXT:=fun outer H s E e s'=>∃ ea C t H' B,e=.ref ea∧Fx B outer ea C t .none s'.heap∧s'.os=s.os∧AllBare s'.gens∧Bk P w outer H s.heap H' B s'.heap∧E (.ref C) none H'
inductive Fly (B:Heap) (l:List Env) (L ea C t:Addr) (h:Heap):Prop where
 | new (st:B.StaysIn h) (ne:B.get? ea=none) (fr:h.FunFrames B l) (ob:h.get? ea=some (exO C t .none))
 | came (x:Fx B l ea C t .none h)
 | seen (x:Fx B l ea C t (rawInt L) h)
def FlX (X:Cx)(E:XK):Value→Shared→Prop:=fun e s'=>∃ ea C t H' B,e=.ref ea∧Fly B X.stack X.env.locals ea C t s'.heap∧s'.os=X.s₀.os∧AllBare s'.gens∧Bk X.prog X.w X.outer X.H₀ X.s₀.heap H' B s'.heap∧E (.ref C) none H'
structure Body (X:Cx):Prop where
 stack:X.stack=X.env::X.outer
 frame:X.env.frame=some X.env.locals
 ex:X.ex=[]
section
variable {X:Cx}{pins:List (Addr × Obj)}{σ:St}{H:Hp}{s s':Shared}{E:XK}{e:Value}
end
open PySem PySem.Spec PyProof.Rows
def Agq (K:PySem.W.Frag)(C:Addr):List Value:=match K.lookup C with
 | some ⟨_,_,.cls cd,_⟩=>cd.mro
 | _=>[]
def Agr (C:Addr)(E:XK)(t:TA):TS:=fun _ σ H=>t σ H fun vs H1=>vs.length≤sizeLine∧E (.ref C) none H1
section
variable {X:Cx}{x:Str}{C:Addr}{bmB bmN:List Value}{B Bn nid AhE iid AhF:String}{E:XK}{e:Expr}{es:List Expr}{t:TA}{np cpos pos:Pos}
end
abbrev cx1 (P:Program) (w:World) (K:PySem.W.Frag) (mg:Str→Option Value) (base:Heap) (N:List Str) (qual:Str) (scope:Scope) (f:Addr) (cd:Value) (A:Around) (outer:List Env) (s:Shared) (H:Hp) (E:XK):Cx :=
 (U8 (CX1 P w) P w K mg base N qual scope f cd A outer s H E).wish (FlX (U8 (CX1 P w) P w K mg base N qual scope f cd A outer s H E) E)
section
variable {P:Program}{w:World}{K:PySem.W.Frag}{mg:Str→Option Value}{base:Heap}
end
def PEX (X:Cx)(e:Expr)(t:XK→TE):Prop:=∀(pins:List (Addr × Obj)) (s:Shared) (σ:St) (H:Hp) (Q:VK) (E:XK),Inv X pins σ H s→t E σ H Q →
 wpAny (model X.prog X.w) X.A (eval e X.env) (EP X pins σ Q) (fun ex s'=>∃ H1 s1,Inv X pins σ H1 s1∧CX1 X.prog X.w X.stack H1 s1 E ex s') s
section
variable {X:Cx}{k:Nat}{f C:Addr}{fd:FuncData}{ps:List Str}{sp:Sp}{dvs:List V}{ds:List Value}{x m:Str}{p pos apos:Pos}{e o:Expr}{es:List Expr}{ta:TE}{t:TA}
end
open PySem PySem.Spec PyProof.Rows
def exH (C a:Addr):HO:=.ext fun h=>∃ t tb,h.get? a=some (exO C t tb)
section
variable {X:Cx}{pins:List (Addr × Obj)}{σ:St}{H H':Hp}{s s':Shared}{B h2:Heap}{ea C t:Addr}{fl:Value}
abbrev Cx.hdl (X:Cx) (e:Addr):Cx:={ X with A:=X.A.mark (some (.ref e)),calm:=false,xe:=fun _ _=>False }
end
open PySem PySem.Spec PyProof.Rows
section
variable {M:Model}{A:Around}{E:Value→Shared→Prop}{h:Heap}{g:Array GenState}{d:Drawn}{t:Nat}{os:OsState}
end
abbrev WX (X:Cx) (pins:List (Addr × Obj)) (σ:St) (E:XK):Value→Shared→Prop:=fun ex s'=>∃ H1 s1,Inv X pins σ H1 s1∧CX1 X.prog X.w X.stack H1 s1 E ex s'
def PSX (X:Cx)(st:Stmt)(t:XK→TS):Prop:=∀(pins:List (Addr × Obj)) (s:Shared) (σ:St) (H:Hp) (D:Ends) (E:XK),Inv X pins σ H s→t E D σ H→wpAny (model X.prog X.w) X.A (exec st X.env) (SP X pins D) (WX X pins σ E) s
def AhG (X:Cx)(st:List Stmt)(t:XK→TS):Prop:=∀(pins:List (Addr × Obj)) (s:Shared) (σ:St) (H:Hp) (D:Ends) (E:XK),Inv X pins σ H s→t E D σ H→wpAny (model X.prog X.w) X.A (execs st X.env) (SP X pins D) (WX X pins σ E) s
section
variable {X:Cx}{e:Expr}{t u:XK→TS}{te:XK→TE}{pos:Pos}{st:Stmt}
abbrev Ends.un (D:Ends) (j:Nat):Ends:={ nx:=fun σ H=>D.nx (σ.set j none) H,rt:=D.rt,bk:=fun σ H=>D.bk (σ.set j none) H,ct:=fun σ H=>D.ct (σ.set j none) H }
def Sub (K:PySem.W.Frag)(C D:Addr):Prop:=(∃ bm nid,PySem.W.excIn K C bm nid=true)∧(Agq K C).contains (.ref D)=true
def AhH (K:PySem.W.Frag)(Ch:Addr)(j:Nat)(t:XK→TS)(ts:TS):TS:=fun D σ H=>t (fun c _ H'=>∃ C,c=.ref C∧Sub K C Ch∧∀ ea,H' ea=none→ts (D.un j) (σ.set j (some (.ref ea))) (upd H' ea (exH C ea))) D σ H
end
open PySem PySem.Spec PyProof.Rows
structure ExC (K:PySem.W.Frag) (C:Addr):Prop where
 ga:PySem.W.findIn K (.ref C) "__getattribute__" = some (some (.builtin "BaseException.__getattribute__"))
 gt:PySem.W.findIn K (.ref C) "__getattr__" = some none
 cl:PySem.W.findIn K (.ref C) "__class__" = some (some (.builtin "object.__class__"))
 gc:PySem.W.specialIn K (.builtin "object.__class__") "__get__" = some (some (.builtin "getset_descriptor.__get__"))
 tk:PySem.W.takesIn K (.builtin "object.__class__")=some true
 ob:PySem.W.mroIn K C (.type "object")=some true
 be:PySem.W.mroIn K C (.type "BaseException")=some true
 is:(PySem.W.clsIn K C).isSome=true
section
variable {prog:Program}{w:World}{A:Around}{E:Value→Shared→Prop}{s:Shared}{K:PySem.W.Frag}{x C t:Addr}{tb:Value}
end
def AhI (K:PySem.W.Frag):List V→Hp→VK→Prop:=fun vs H Q=>∃ a C b,H a=some (exH C a)∧ExC K C ∧
 ((∃ n,vs=[.ref a,.ty n]∧PySem.W.kitOne K (.ref C) (.type n)=some b)∨(∃ D,vs=[.ref a,.ref D]∧PySem.W.kitOne K (.ref C) (.ref D)=some b))∧Q (.bl b) H
section
variable {X:Cx}{K:PySem.W.Frag}
variable {CX:CXT}{k:Nat}{ps:List Str}{sp:Addr→Sp}{E:XK}{m:Str}{pos apos:Pos}{o:Expr}{ta:TE}
def Ags (K:PySem.W.Frag)(m:Str)(sp:Addr→Sp)(E:XK)(ta:TE):TE:=fun σ H Q=>ta σ H fun x H1=>∃ a C,x=.ref a∧H1 a=some (exH C a)∧sp C [x] H1 Q E
end
open PySem PySem.Spec PyProof.Rows
abbrev vE:List Value:=[.type "ValueError", .type "Exception", .type "BaseException", .type "object"]
abbrev vN:String := "ValueError.__new__"
structure Exn (K:PySem.W.Frag) (C:Addr):Prop where
 q:PySem.W.excIn K C vE vN=true
 c:ExC K C
 ty:PySem.W.typeIn K (.ref C)=some (.type "type")
 ve:PySem.W.mroIn K C (.type "ValueError")=some true
theorem AaN{K:PySem.W.Frag}{C:Addr}(q:PySem.W.excIn K C vE vN=true)(ga:PySem.W.findIn K (.ref C) "__getattribute__" = some (some (.builtin "BaseException.__getattribute__"))) (gt:PySem.W.findIn K (.ref C) "__getattr__" = some none)
  (cl:PySem.W.findIn K (.ref C) "__class__" = some (some (.builtin "object.__class__"))) (gc:PySem.W.specialIn K (.builtin "object.__class__") "__get__" = some (some (.builtin "getset_descriptor.__get__"))) (tk:PySem.W.takesIn K (.builtin "object.__class__")=some true)
  (ob:PySem.W.mroIn K C (.type "object")=some true) (be:PySem.W.mroIn K C (.type "BaseException")=some true) (is:PySem.W.isClsIn K C=true) (ty:PySem.W.typeIn K (.ref C)=some (.type "type")) (ve:PySem.W.mroIn K C (.type "ValueError")=some true):Exn K C :=
 ⟨q,⟨ga,gt,cl,gc,tk,ob,be,is⟩,ty,ve⟩
section
variable {X:Cx}{CX:CXT}{k:Nat}{C f:Addr}{fd:FuncData}{ps:List Str}{sp:Sp}{E:XK}{m:Str}{pos apos:Pos}{o:Expr}{ta:TE}
def Agt (C:Addr)(sp:Sp)(E:XK)(ta:TE):TE:=fun σ H Q=>ta σ H fun x H1=>∃ a,x=.ref a∧H1 a=some (exH C a)∧sp [x] H1 Q E
end
def AfH (s:Stmt):List Stmt:=match s with
 | .ClassDef _ _ _ b _ _ _ _ _ _ _=>b
 | _=>[]
structure Mf (K:PySem.W.Frag) (x q:Str) (st:Stmt) (ps:List Str) (C f:Addr) (fd:FuncData):Prop where
 F:Fun K x q st f fd
 m:Meth K C x f
 b:Binds K fd ps []
theorem AaO(K:PySem.W.Frag):PySem.W.kitOne K (.type "int") (.type "bool")=some false:=by
 unfold PySem.W.kitOne PySem.W.kitCls PySem.W.subIn
 rw[if_neg (by simp)]
 show(if _ then _ else _)=_
 rw[if_pos (by decide +kernel)]
 show Option.map (fun x=>x.contains (Value.type "bool")) (fastBuiltinMro "int")=some false
 decide +kernel
open PySem PySem.Spec PyProof.Rows
open Builtin Builtin.Str
def AhJ (u:List Nat)(lo hi:Option Int):List Nat:=(u.drop (HT.sIx u.length 0 lo)).take (HT.sIx u.length u.length hi-HT.sIx u.length 0 lo)
section
variable {X:Cx}
end
open PySem PySem.Spec PyProof.Rows
theorem Wv:∀(xs:List V) (us:List Value),xs.length=us.length→(∀(i:Nat) x u,xs[i]?=some x→us[i]?=some u→RelV x u)→Vals xs us
 | [],[],_,_=>.nil
 | [],_::_,h,_=>by simp at h
 | _::_,[],h,_=>by simp at h
 | x::xs,u::us,h,p=>.cons (p 0 x u rfl rfl) (Wv xs us (by simpa using h) fun i y v e1 e2=>p (i+1) y v e1 e2)
def Yp (p:Addr)(a b c:Int):HO:=.ext fun h=>∃ t u v,IsRange h p a b c t u v
def Rx (a c:Int)(n:Nat):List Int:=(List.range n).map fun(i:Nat)=>a+(i:Int)*c
section
variable {X:Cx}{K:PySem.W.Frag}
theorem Ww{pins:List (Addr × Obj)}{σ:St}{H:Hp}{s:Shared}{a b c:Int}{t u v:Tok}{Q:VK}{tk:Nat}(I:Inv X pins σ H s)(q:∀ p,H p=none→Q (.ref p) (upd H p (Yp p a b c))) :
  EP X pins σ Q (.ref s.heap.objs.size) { s with heap:=s.heap.push { cls:=.type "range", data:=.fields #[.int a t,.int b u,.int c v] },toks:=tk }:=by
 have hg:(s.heap.push { cls:=.type "range", data:=.fields #[.int a t,.int b u,.int c v] }).get? s.heap.objs.size=some { cls:=.type "range", data:=.fields #[.int a t,.int b u,.int c v] }:=Heap.get?_push_size _ rfl
 refine⟨.ref s.heap.objs.size,_,I.laid (o:=Yp s.heap.objs.size a b c) (fun b o e=>Heap.get?_push_of_some _ e) (AhX _) ?_,rfl,q _ (I.hok.fresh (AhX _))⟩
 exact⟨⟨t,u,v,hg⟩,⟨_,hg⟩,fun h1 h2 y k=>by
  obtain⟨t',u',v',y⟩:=y
  exact⟨t',u',v',k _ y⟩⟩
theorem Aaa:Hm X (.type "range") (fun xs H Q=>∃ a b,xs=[.int a,.int b]∧∀ p,H p=none→Q (.ref p) (upd H p (Yp p a b 1))):=by
 intro pins s σ H xs us Q I rv h
 obtain⟨a,b,rfl,q⟩:=h
 obtain⟨u1,u2,rfl,r1,r2⟩:=rv.two
 obtain⟨t,rfl⟩:=r1
 obtain⟨t',rfl⟩:=r2
 exact call_range_2 (Ww I q)
theorem Q5(hK:X.K=K:=by rfl)(hc:X.calm=true:=by rfl):Hm X (.builtin "sum") (fun xs H Q=>∃ a ns,xs=[.ref a]∧SqL K H a (vI ns)∧Q (.int ns.sum) H):=by
 subst hK
 intro pins s σ H xs us Q I rv h
 obtain⟨a,ns,rfl,hq,q⟩:=h
 obtain⟨u,rfl,ru⟩:=rv.one
 cases ru
 obtain⟨its,r,pl,hl⟩:=I.list hq
 have hi:IntsAre its ns:=intsAre_of r
 obtain⟨xs,hx⟩:=hi.allInts.items
 have hL:s.heap.IsList a (intItems xs):=by rw[← hx];exact pl.isList
 refine sum_intListG (I.ok.hd hc) hL fun h' tk t' hk=>?_
 have e1:xs.toList.map (·.1)=ns:=by
  have z:numsOf its.toArray.toList=ns:=hi.numsOf
  rw[hx,nums_intItems] at z
  exact z
 rw[show preSum (numAt xs) xs.size=ns.sum by rw[preSum_eq,Aiy (by simp),e1]]
 exact⟨.int ns.sum,H,I.kept hk,⟨t',rfl⟩,q⟩
end
open PySem PySem.Spec PyProof.Rows
section
variable {X:Cx}{tg:Expr}
def Agu (ta:TA):TI:=fun σ H R=>ta σ H fun vs H1=>∃ i j:Int,vs=[.int i,.int j]∧R (Itr i (j-i).toNat) H1
end
section
variable {X:Cx}
def Aha:R2:=fun x y H Q=>∃ u n,x=.str (tx u)∧y=.int n∧0≤n∧n≤1000000∧u.length*n.toNat≤sizeLine∧Q (.str (tx (List.replicate n.toNat u).flatten)) H
theorem Vg(x:Str)(c limit:Nat):∀(k i:Nat) (acc:Array Nat) (free:Nat),free≤i→acc.size+k≤limit →
  (forIn (List.range' i k) (acc,free) (StrLaws.occBody x ⟨#[c]⟩ x.length limit)).run.fst.size=acc.size+((x.cps.toList.drop i).take k).count c
 | 0,i,acc,free,_,_=>by simp
 | k+1,i,acc,free,hf,hl=>by
  rw[List.range'_succ,Aj2]
  by_cases hc:x.cps.toList[i]?=some c
  ·have h1:=(StrLaws.subAt_one x c i).mpr hc
   have e:StrLaws.occBody x ⟨#[c]⟩ x.length limit i (acc,free)=pure (ForInStep.yield (acc.push i,i+(⟨#[c]⟩:Str).length)):=by
    unfold StrLaws.occBody
    rw[if_pos ⟨⟨⟨by show acc.size<limit;omega,hf⟩,h1.1⟩,h1.2⟩]
   rw[e]
   have ih:=Vg x c limit k (i+1) (acc.push i) (i+(⟨#[c]⟩:Str).length) (AhX _) (by rw[Array.size_push];omega)
   have hd:x.cps.toList.drop i=c::x.cps.toList.drop (i+1):=by
    obtain⟨hlt,he⟩:=List.getElem?_eq_some_iff.mp hc
    rw[AiX hlt,he]
   rw[hd,List.take_succ_cons,List.count_cons_self]
   rw[Array.size_push] at ih
   refine Eq.trans ih ?_
   omega
  ·have h1:¬(i+(⟨#[c]⟩:Str).length≤x.length∧Builtin.Str.subAt x ⟨#[c]⟩ i=true):=fun z=>hc ((StrLaws.subAt_one x c i).mp z)
   have e:StrLaws.occBody x ⟨#[c]⟩ x.length limit i (acc,free)=pure (ForInStep.yield (acc,free)):=by
    unfold StrLaws.occBody
    rw[if_neg fun z=>h1 ⟨z.1.2,z.2⟩]
   rw[e]
   have ih:=Vg x c limit k (i+1) acc free (by omega) (by omega)
   refine Eq.trans ih ?_
   congr 1
   by_cases hlt:i<x.cps.toList.length
   ·rw[AiX hlt,List.take_succ_cons,List.count_cons_of_ne]
    intro z
    exact hc (by rw[AhY hlt];exact congrArg some z)
   ·rw[List.drop_eq_nil_of_le (by omega),List.drop_eq_nil_of_le (by omega)]
    simp
theorem Aab(l:List Nat)(c:Nat):(Builtin.Str.occurrences (tx l) ⟨#[c]⟩ 0 (tx l).length ((tx l).length+1)).length=l.count c:=by
 rw[StrLaws.occ_eq]
 have:=Vg (tx l) c ((tx l).length+1) ((tx l).length+1-0) 0 #[] 0 (AhX _) (by simp)
 rw[Array.length_toList,this,Zh,Fb]
 simp[Aiy]
def Ad9:V→List V→Hp→VK→Prop:=fun x vs H Q=>∃ u c,x=.str (tx u)∧vs=[.str ⟨#[c]⟩]∧Q (.int (u.count c:Nat)) H
theorem Wx:MtR X "str.count" Ad9:=by
 intro pins s σ H x vs v us Q I rx rv h
 obtain⟨u,c,rfl,rfl,q⟩:=h
 obtain⟨t,rfl⟩:=rx
 obtain⟨u',rfl,ru⟩:=rv.one
 obtain⟨t',rfl⟩:=ru
 refine call_gives F.slot_str_count (typeIs_str s _ t) F.entry_str_count (F.args_str_count_2 _ _) (gives_str_count _ _ t t') ?_
 rw[Aab]
 exact⟨.int _,H,I.tok _,⟨_,rfl⟩,q⟩
end
open PySem PySem.Spec PyProof.Rows
section
variable {X:Cx}{K:PySem.W.Frag}
def Ahb (K:PySem.W.Frag):List V→Hp→VK→Prop:=fun vs H Q=>∃(a C p:Addr) (Ds:List Addr) (b:Bool),vs=[.ref a,.ref p]∧H a=some (exH C a)∧ExC K C∧H p=some (.tup (Ds.map V.ref))∧PySem.W.kitAny K (.ref C) (Ds.map Value.ref)=some b∧Q (.bl b) H
end
open PySem PySem.Spec PyProof.Rows
section
variable {X:Cx}{K:PySem.W.Frag}
def Agv (K:PySem.W.Frag):R2:=fun x y H Q=>∃ p q xs ys,x=.ref p∧y=.ref q∧SqL K H p xs∧SqL K H q ys∧xs.all Dq=true∧ys.all Dq=true∧Q (.bl (!eqL xs ys)) H
theorem Acf(hu:X.A.units<cLine)(hK:X.K=K:=by rfl):OpR X (compareOp .NotEq) (Agv K):=by
 subst hK
 intro pins s σ H x y v u Q I rx ry h
 obtain⟨p,q,xs,ys,rfl,rfl,hx,hy,fx,fy,k⟩:=h
 cases rx
 cases ry
 obtain⟨its,r,pl,hz⟩:=I.list hx
 obtain⟨its2,r2,pl2,hz2⟩:=I.list hy
 have l1:=r.length
 have l2:=r2.length
 by_cases hl:xs.length=ys.length
 ·refine SeqAt.RcNeAt.lists (e:=fun j=>eqV (xs.getD j .non) (ys.getD j .non)) pl.isList pl2.isList (by simp only [Aia];omega) hu (fun j h1 h2=>?_) _ _ _ _ ?_
  ·have j1:j<xs.length:=by simp only [Aia] at h1;omega
   have j2:j<ys.length:=by omega
   obtain⟨w1,e1,q1⟩:=r.get (i:=j) (x:=xs[j]) (by simp[j1])
   obtain⟨w2,e2,q2⟩:=r2.get (i:=j) (x:=ys[j]) (by simp[j2])
   have g1:its.toArray[j]=w1:=by
    have:its.toArray[j]?=some w1:=by simpa using e1
    exact Option.some.inj ((Array.getElem?_eq_getElem h1).symm.trans this)
   have g2:its2.toArray[j]=w2:=by
    have:its2.toArray[j]?=some w2:=by simpa using e2
    exact Option.some.inj ((Array.getElem?_eq_getElem h2).symm.trans this)
   rw[g1,g2]
   have d1:xs.getD j .non=xs[j]:=by simp[List.getD,j1]
   have d2:ys.getD j .non=ys[j]:=by simp[List.getD,j2]
   show SeqAt.EqAt _ _ _ _ (eqV (xs.getD j .non) (ys.getD j .non))
   rw[d1,d2]
   exact RJ q1 q2 (List.all_eq_true.mp fx _ (Aie j1)) (List.all_eq_true.mp fy _ (Aie j2))
  ·refine⟨.bl (!eqL xs ys),H,I,?_,k⟩
   show Value.bool _=Value.bool _
   rw[Aia,← l1,Jy hl]
 ·refine SeqAt.RcNeAt.lists_lengths pl.isList pl2.isList (by simp only [Aia,bne_iff_ne];omega) hu _ _ _ _ ?_
  exact⟨.bl (!eqL xs ys),H,I,by rw[Oz hl];rfl,k⟩
end
open PySem PySem.Spec PyProof.Rows
theorem Inv.R1{X:Cx}{pins:List (Addr × Obj)}{σ:St}{H:Hp}{s:Shared}{h':Heap}{t':Nat}{its:List Addr}(I:Inv X pins σ H s)
  (k:∀ b o,b∉its→s.heap.get? b=some o→h'.get? b=some o) (hf:∀ b∈its,Nt X pins H b):Inv X pins σ H { s with heap:=h',toks:=t' }:=by
 have nit:∀ b u,H b=some u→b∉its:=fun b u e z=>by
  have:=(hf b z).1
  rw[this] at e
  cases e
 have nL:X.env.locals∉its:=fun z=>(hf _ z).2.1 rfl
 refine I.step (g':=s.gens) (d':=s.drawn) (ch:=its) (fun b hb=>?_) (fun b o _ _ hc e _=>k b o hc e) (fun b o _ _ hc e _=>⟨o.slots,k b o hc e⟩) (fun _ _ _ _ n=>n)
  (fun b o hc e=>⟨o,k b o hc e⟩) (fun _ _ e=>e) (fun _ _ _ e=>e) (fun b ps e=>⟨#[],by rw[e];simp⟩) (fun m hm=>?_) (fun b u e=>?_) I.bare
 ·obtain⟨_,h2,_,h4,h5,h6⟩:=hf b hb
  exact⟨h4,h2,h5,h6⟩
 ·obtain⟨o,es,ep,ho,r⟩:=hm
  exact⟨o,es,ep,k _ o nL ho,r⟩
 ·refine(I.hok b u e).stay (fun c v hc q=>k c v ?_ q) (fun _ q=>q) fun _ _ q=>q
  rcases hc with z | z
  ·rw[z];exact nit b u e
  ·exact nit c _ z
def Itz (K:PySem.W.Frag)(a b:Addr):It where
 go:=fun i H=>∃ xs ys x y,SqL K H a xs∧SqL K H b ys∧xs[i]?=some x∧ys[i]?=some y
 yld:=fun i H x H'=>∃ T,x=.ref T∧H T=none∧∀ xs ys u v,SqL K H a xs→SqL K H b ys→xs[i]?=some u→ys[i]?=some v→H'=upd H T (.tup [u,v])
 stop:=fun i H=>∃ xs ys,SqL K H a xs∧SqL K H b ys∧(xs.length≤i∨ys.length≤i)
def AeI (z TI TO i1 i2 a b:Addr)(i:Nat)(h:Heap):Prop:=IsZip h z TI TO .none∧IsPair h TI (.ref i1) (.ref i2)∧(∃ p q,IsPair h TO p q)∧h.IsListIter i1 a i∧h.IsListIter i2 b i
theorem AaP{P:Program}{w:World}{K:PySem.W.Frag}{es:List Expr}{kx:Nat}{tp:Pos}{z TI TO i1 i2 a b:Addr}(D:ZipApart z TI TO i1 i2 a b) :
  Turn P w K (.Tuple es kx tp) (Itz K a b) [z,TI,TO,i1,i2] z (AeI z TI TO i1 i2 a b) where
 mem:=by simp
 obj:=fun i h st c hc=>by
  obtain⟨s1,s2,⟨p,q,s3⟩,s4,s5⟩:=st
  simp only [Ai6,Ai7,or_false] at hc
  rcases hc with e | e | e | e | e
  ·subst e;exact⟨_,s1,fun v z=>by cases (show Data.fields _=Data.cell v from z)⟩
  ·subst e;exact⟨_,s2,fun v z=>by cases (show Data.seq _ _=Data.cell v from z)⟩
  ·subst e;exact⟨_,s3,fun v z=>by cases (show Data.seq _ _=Data.cell v from z)⟩
  ·subst e;obtain⟨o,e,_,d⟩:=s4;exact⟨o,e,fun v z=>by rw[d] at z;cases z⟩
  ·subst e;obtain⟨o,e,_,d⟩:=s5;exact⟨o,e,fun v z=>by rw[d] at z;cases z⟩
 keep:=fun i h h' st k=>by
  obtain⟨s1,s2,⟨p,q,s3⟩,s4,s5⟩:=st
  exact⟨k _ (by simp) _ s1,k _ (by simp) _ s2,⟨p,q,k _ (by simp) _ s3⟩,s4.at fun o e=>k _ (by simp) o e,s5.at fun o e=>k _ (by simp) o e⟩
 item:=by
  intro X hP hw hK hc i pins s σ H E I hf st hg
  subst hP hw hK
  obtain⟨xs,ys,x,y,hq1,hq2,hx,hy⟩:=hg
  obtain⟨Tt,rv1,p1,_⟩:=I.list hq1
  obtain⟨its2,rv2,p2,_⟩:=I.list hq2
  obtain⟨u,hu,ru⟩:=rv1.get hx
  obtain⟨v,hv,rw'⟩:=rv2.get hy
  obtain⟨s1,s2,⟨p,q,s3⟩,s4,s5⟩:=st
  refine wpAny_pyNext_zip_item D s1 s2 s3 s4 s5 p1.isList p2.isList (x:=u) (y:=v) (by simpa using hu) (by simpa using hv) fun h1 z1 t1 j1 j2 hT hsz kk=>?_
  refine⟨_,rfl,wpAny_letOwnedTupleGo_zip z1 fun h2 z2 sb=>?_⟩
  have zl:z<s.heap.objs.size:=Heap.lt_size s1
  have TIl:TI<s.heap.objs.size:=Heap.lt_size s2
  have TOl:TO<s.heap.objs.size:=Heap.lt_size s3
  have i1l:i1<s.heap.objs.size:=by obtain⟨_,e,_⟩:=s4;exact Heap.lt_size e
  have i2l:i2<s.heap.objs.size:=by obtain⟨_,e,_⟩:=s5;exact Heap.lt_size e
  have up:∀ c o,c≠z→h1.get? c=some o→h2.get? c=some o:=fun c o c1 e=>(sb.2 c c1).trans e
  have hTn:H s.heap.objs.size=none:=I.hok.fresh (AhX _)
  have I1:Inv X pins σ (upd H s.heap.objs.size (.tup [x,y])) { s with heap:=s.heap.push { cls:=.type "tuple", data:=.seq #[u,v] },toks:=s.toks } :=
   I.laid (fun c o e=>Heap.get?_push_of_some _ e) (AhX _) ⟨by show 2≤sizeLine;decide,[u,v],.cons ru (.cons rw' .nil),⟨_,Heap.get?_push_size _ rfl,rfl,_,rfl⟩⟩
  have fp2:∀ c∈[z,TI,TO,i1,i2],Nt X pins (upd H s.heap.objs.size (.tup [x,y])) c:=fun c hc=>by
   obtain⟨f0,f⟩:=hf c hc
   refine⟨?_,f⟩
   have lt:c<s.heap.objs.size:=by
    simp only [Ai6,Ai7,or_false] at hc
    rcases hc with e | e | e | e | e <;> subst e <;> assumption
   rw[Aj (Aig lt)]
   exact f0
  have I2:Inv X pins σ (upd H s.heap.objs.size (.tup [x,y])) { s with heap:=h2 }:=by
   refine Inv.R1 (s:={ s with heap:=s.heap.push { cls:=.type "tuple", data:=.seq #[u,v] },toks:=s.toks }) (h':=h2) (t':=s.toks) (its:=[z,TI,TO,i1,i2]) I1 (fun c o hc e=>?_) fp2
   simp only [Ai6,Ai7,or_false,not_or] at hc
   refine up c o hc.1 ?_
   by_cases hcs:c=s.heap.objs.size
   ·subst hcs
    have e':(s.heap.push { cls:=.type "tuple", data:=.seq #[u,v] }).get? s.heap.objs.size=some { cls:=.type "tuple", data:=.seq #[u,v] }:=Heap.get?_push_size _ rfl
    rw[e'] at e
    cases e
    exact hT
   ·have e':s.heap.get? c=some o:=by
     rw[← e]
     exact(Heap.get?_push_ne _ _ _ hcs).symm
    exact kk c o hc.1 hc.2.2.1 hc.2.2.2.1 hc.2.2.2.2 e'
  refine⟨.ref s.heap.objs.size,_,I2,rfl,⟨s.heap.objs.size,rfl,hTn,fun xs' ys' u' v' a1 a2 a3 a4=>?_⟩,⟨z2,up _ _ D.TIz (kk _ _ D.TIz D.TITO D.TIi1 D.TIi2 s2),⟨u,v,up _ _ D.TOz t1⟩,j1.at fun o e=>up _ o D.i1z e,j2.at fun o e=>up _ o D.i2z e⟩,fun c hc=>(fp2 c hc).1⟩
  rw[I.Hl a1 hq1,hx] at a3
  rw[I.Hl a2 hq2,hy] at a4
  cases a3
  cases a4
  rfl
 done:=by
  intro X hP hw hK hc i pins s σ H E I hf st hg
  subst hP hw hK
  obtain⟨xs,ys,hq1,hq2,hend⟩:=hg
  obtain⟨Tt,rv1,p1,_⟩:=I.list hq1
  obtain⟨its2,rv2,p2,_⟩:=I.list hq2
  have l1:=rv1.length
  have l2:=rv2.length
  obtain⟨s1,s2,⟨p,q,s3⟩,s4,s5⟩:=st
  refine wpAny_pyNext_zip_end (I.ok.hd hc) D s1 s2 s3 s4 s5 p1.isList p2.isList ?_ fun h' kk=>⟨rfl,I.R1 (t':=s.toks) (its:=[z,TI,TO,i1,i2]) (fun c o hc e=>?_) hf⟩
  ·rcases hend with e | e
   ·exact .inl (by simp;omega)
   ·exact .inr (by simp;omega)
  ·simp only [Ai6,Ai7,or_false,not_or] at hc
   exact kk c o hc.1 hc.2.2.1 hc.2.2.2.1 hc.2.2.2.2 e
 self:=fun _ _ _ _ _ st h=>wpAny_pyIter_zip st.1 h
section
variable {X:Cx}{es:List Expr}{kx:Nat}{tp:Pos}
def Agw (K:PySem.W.Frag)(ta:TA):TI:=fun σ H R=>ta σ H fun vs H1=>∃ a b,vs=[.ref a,.ref b]∧(∃ xs,SqL K H1 a xs)∧(∃ ys,SqL K H1 b ys)∧R (Itz K a b) H1
theorem AdA{K:PySem.W.Frag}{a b:Expr}{ta:TA}{p pos:Pos}(hg:Gl X "zip") (hm:X.mg "zip" = none) (ha:PA X [a,b] ta) (hK:X.K=K:=by rfl) (hs:starEach [a,b] X.env=[(false,eval a X.env),(false,eval b X.env)]:=by rfl) (hs2:starEach [b] X.env=[(false,eval b X.env)]:=by rfl) :
  PI X (.Tuple es kx tp) (.Call (.Name "zip" p) [a,b] [] pos) (Agw K ta):=by
 subst hK
 intro pins s σ H R I h
 refine Call_ (KC I hg hm Ad8 (PyProof.Rows.callWith_type1 (thn (ha pos pins s σ H _ I h) fun us s1 ⟨vs,H1,I1,r1,q1⟩=>?_) (by rw[hs,hs2]) (by rw[hs2];rfl)))
 obtain⟨a,b,e,⟨xs,hq1⟩,⟨ys,hq2⟩,q⟩:=q1
 subst e
 cases r1 with
 | cons r rr =>
  cases rr with
  | cons r' rr =>
   cases rr
   cases r
   cases r'
   obtain⟨Tt,rv1,p1,_⟩:=I1.list hq1
   obtain⟨its2,rv2,p2,_⟩:=I1.list hq2
   obtain⟨o1,e1,_⟩:=id p1.isList
   obtain⟨o2,e2,_⟩:=id p2.isList
   refine call_zip_2 p1.isList p2.isList fun h' hz hTI hTO j1 j2 hsz kk=>wpAny_pyIter_zip hz ?_
   refine⟨_,[s1.heap.objs.size+4,s1.heap.objs.size+2,s1.heap.objs.size+3,s1.heap.objs.size,s1.heap.objs.size+1],_,_,H1,rfl,I1.kept (t':=s1.toks) kk,AaP (zipApart_new (Heap.lt_size e1) (Heap.lt_size e2)),
    ⟨hz,hTI,⟨_,_,hTO⟩,j1,j2⟩,fun c hc=>?_,q⟩
   have le:s1.heap.objs.size≤c:=by
    simp only [Ai6,Ai7,or_false] at hc
    rcases hc with e | e | e | e | e <;> subst e <;> omega
   exact I1.Aa4 le (I1.hok.fresh le)
theorem Acg{K:PySem.W.Frag}{a b:Addr}{xs ys:List V}{g:TG}{tb:TS}{D:Ends}{σ:St}{H:Hp}{n:Nat}(hn:n=min xs.length ys.length)(Pv:Nat→St→Hp→Prop)(h0:Pv 0 σ H)(hl:∀ i σ H,Pv i σ H→SqL K H a xs∧SqL K H b ys)
  (hs:∀ i x y σ H T,xs[i]?=some x→ys[i]?=some y→Pv i σ H→H T=none→g (.ref T) σ (upd H T (.tup [x,y])) fun σ2 H2=>tb { D with nx:=Pv (i+1),ct:=Pv (i+1),bk:=D.nx } σ2 H2) (hd:∀ σ H,Pv n σ H→D.nx σ H) :
  ∃ W:Nat→Nat→St→Hp→Prop,(∃ m,W 0 m σ H)∧∀ i m σ H,W i m σ H →
   ((Itz K a b).stop i H∧D.nx σ H)∨((Itz K a b).go i H∧∃ N:St→Hp→Prop,(∀ σ' H',N σ' H'→∃ m',m'<m∧W (i+1) m' σ' H')∧∀ x H',(Itz K a b).yld i H x H'→g x σ H' fun σ2 H2=>tb { D with nx:=N,ct:=N,bk:=D.nx } σ2 H2):=by
 refine⟨fun i m σ H=>m=n-i∧i≤n∧Pv i σ H,⟨n,by simp,Aik _,h0⟩,?_⟩
 rintro i m σ H ⟨rfl,hi,p⟩
 obtain⟨q1,q2⟩:=hl i σ H p
 by_cases hlt:i<n
 ·have x1:i<xs.length:=by omega
  have y1:i<ys.length:=by omega
  refine .inr ⟨⟨xs,ys,xs[i],ys[i],q1,q2,AhY x1,AhY y1⟩,Pv (i+1),fun σ' H' p'=>⟨n-(i+1),by omega,rfl,hlt,p'⟩,fun x H' y=>?_⟩
  obtain⟨T,rfl,hT,y⟩:=y
  have e:=y xs ys _ _ q1 q2 (AhY x1) (AhY y1)
  subst e
  exact hs i _ _ σ H T (AhY x1) (AhY y1) p hT
 ·have e:i=n:=by omega
  subst e
  exact .inl ⟨⟨xs,ys,q1,q2,by omega⟩,hd σ H p⟩
end
open PySem PySem.Spec PyProof.Rows
theorem Hn.RQ{k:Nat}{A:Around}(r:Hn k A):A.units+100<cLine:=by have:=r.un;omega
def AeJ (K:PySem.W.Frag)(H:Hp)(p q:Addr):Prop:=∃ as bs:List Addr,SqL K H p (as.map V.ref)∧SqL K H q (bs.map V.ref)∧as.length=bs.length ∧
 ∀(i:Nat) (a b:Addr),as[i]?=some a→bs[i]?=some b→∃ xs:List V,xs.all Dq=true∧SqL K H a xs∧SqL K H b xs
section
variable {X:Cx}{K:PySem.W.Frag}
def Ahc (K:PySem.W.Frag):R2:=fun x y H Q=>∃ p q,x=.ref p∧y=.ref q∧AeJ K H p q∧Q (.bl false) H
def Ahd (K:PySem.W.Frag):R2:=fun x y H Q=>∃ p q,x=.ref p∧y=.ref q∧AeJ K H p q∧Q (.bl true) H
end
open PySem PySem.Spec PyProof.Rows
def AhK (K:PySem.W.Frag):R2:=fun x y H Q=>∃(p q:Addr) (as:List Addr) (ks:List Int),x=.ref p∧y=.ref q∧SqL K H q (as.map V.ref)∧SqT K H p (vI ks) ∧
 (∀ a∈as,∃ js:List Int,SqT K H a (vI js))∧(∃ a∈as,SqT K H a (vI ks))∧Q (.bl true) H
section
variable {X:Cx}{K:PySem.W.Frag}
end
open PySem PySem.Spec PyProof.Rows
section
variable {prog:Program}{w:World}{A:Around}{E:Value→Shared→Prop}{s:Shared}
structure Agx (z TI TO i1 i2:Addr):Prop where
 TIz:TI≠z
 TOz:TO≠z
 i1z:i1≠z
 i2z:i2≠z
 TITO:TI≠TO
 TIi1:TI≠i1
 TIi2:TI≠i2
 TOi1:TO≠i1
 TOi2:TO≠i2
 i12:i1≠i2
abbrev AeK (x:Str) (t:Tok):Obj:={ cls:=.type (strIterType x),data:=.fields #[.str x t,.int 0 0] }
abbrev AeL (l:Addr):Obj:={ cls:=.type "list_iterator", data:=.fields #[.ref l,.int 0 0] }
abbrev Ahe (h:Heap) (o1 o2:Obj):Heap:=((((h.push o1).push o2).push { cls:=.type "tuple", data:=.seq #[.ref h.objs.size,.ref (h.push o1).objs.size] }).push { cls:=.type "tuple", data:=.seq #[.none,.none] }).push
 { cls:=.type "zip", data:=.fields #[.none,.bool false,.bool false,.ref ((h.push o1).push o2).objs.size,.ref (((h.push o1).push o2).push { cls:=.type "tuple", data:=.seq #[.ref h.objs.size,.ref (h.push o1).objs.size] }).objs.size] }
abbrev Ahf (h:Heap) (o1 o2:Obj):Addr:=((((h.push o1).push o2).push { cls:=.type "tuple", data:=.seq #[.ref h.objs.size,.ref (h.push o1).objs.size] }).push { cls:=.type "tuple", data:=.seq #[.none,.none] }).objs.size
end
open PySem PySem.Spec PyProof.Rows
inductive Src where
 | l (a:Addr)
 | s (z:Str)
def AeM:Src→V
 | .l a=>.ref a
 | .s z=>.str z
def Zk (K:PySem.W.Frag)(H:Hp):Src→Prop
 | .l a=>∃ xs,SqL K H a xs
 | .s _=>True
def Wz (K:PySem.W.Frag)(H:Hp):Src→Nat→V→Prop
 | .l a,i,v=>∃ xs,SqL K H a xs∧xs[i]?=some v
 | .s z,i,v=>∃ c,z.cps[i]?=some c∧v=.str ⟨#[c]⟩
def AaQ (K:PySem.W.Frag)(H:Hp):Src→Nat→Prop
 | .l a,i=>∃ xs,SqL K H a xs∧xs.length=i
 | .s z,i=>z.cps.size=i
def AcM (it:Addr)(t:Tok):Src→Nat→Heap→Prop
 | .l a,i,h=>h.IsListIter it a i
 | .s z,i,h=>h.IsStrIter it (strIterType z) z t i
def Ahg (it:Addr):Src→List Addr
 | .l a=>[it,a]
 | .s _=>[it]
def Ahh (t:Tok):Src→Obj
 | .l a=>AeL a
 | .s z=>AeK z t
def Agy (K:PySem.W.Frag)(S1 S2:Src):It where
 go:=fun i H=>(∃ u,Wz K H S1 i u)∧∃ v,Wz K H S2 i v
 yld:=fun i H x H'=>∃ T,x=.ref T∧H T=none∧∀ u v,Wz K H S1 i u→Wz K H S2 i v→H'=upd H T (.tup [u,v])
 stop:=fun i H=>Zk K H S1∧Zk K H S2∧(AaQ K H S1 i∨((∃ u,Wz K H S1 i u)∧AaQ K H S2 i))
def Agz (z TI TO i1 i2:Addr)(t1 t2:Tok)(S1 S2:Src)(i:Nat)(h:Heap):Prop:=IsZip h z TI TO .none∧IsPair h TI (.ref i1) (.ref i2)∧(∃ p q,IsPair h TO p q)∧AcM i1 t1 S1 i h∧AcM i2 t2 S2 i h
theorem lne{a n:Nat}(h:a<n)(k:Nat):@Ne Addr a (n+k):=fun z=>by have z:a=n+k:=z;omega
section
variable {X:Cx}{es:List Expr}{kx:Nat}{tp:Pos}
def zOk:Src→Src→Prop
 | .s _,.l _=>False
 | _,_=>True
def Ahi (K:PySem.W.Frag)(ta:TA):TI:=fun σ H R=>ta σ H fun vs H1=>∃ S1 S2,vs=[AeM S1,AeM S2]∧zOk S1 S2∧Zk K H1 S1∧Zk K H1 S2∧R (Agy K S1 S2) H1
end
open PySem PySem.Spec PyProof.Rows
structure AfI (X:Cx) (x x':Str) (Nc:List Str) (Bs:List Nat) (scope:Scope):Prop where
 kind:scope.kind=.function
 cell:∀ y∈scope.names,y.2≠.cell
 names:∀ y∈scope.names,y.2=.local→scope.names.lookup y.1=some .local
 fr:∀ y∈scope.names,y.2=.free→X.env.scope.names.lookup y.1=some .cell∧scope.names.lookup y.1=some .free
 loc:scope.names.lookup x=some .local
 AhL:scope.names.lookup x'=some .local
 len:Nc.length=Bs.length+2
 hd:Nc[0]?=some x
 hd2:Nc[1]?=some x'
 nd:Nc.Nodup
 cap:∀ k j,Bs[k]?=some j→∃ y,Nc[k+2]?=some y∧X.N[j]?=some y∧scope.names.lookup y=some .free
def Ach (K:PySem.W.Frag)(Bs:List Nat)(tc:TT)(te:TE)(J:It)(σ:St)(H:Hp)(Q:VK):Prop :=
 ∃ W:Nat→Nat→List V→Hp→Prop,(∃ m,W 0 m [] H)∧∀ i m ys H,W i m ys H →
  (J.stop i H∧ys.length≤sizeLine∧∀ p,H p=none→Q (.ref p) (upd H p (.lst ys))) ∨
  (J.go i H∧ys.length<sizeLine∧∀ x H',J.yld i H x H'→∃ a u v,x=.ref a∧SqT K H' a [u,v]∧tc (some u::some v::K9 σ Bs) H' fun b H2 =>
   if b=true then te (some u::some v::K9 σ Bs) H2 fun y H3=>∃ m',m'<m∧W (i+1) m' (ys++[y]) H3 else ∃ m',m'<m∧W (i+1) m' ys H2)
def Ag0 (K:PySem.W.Frag)(wi:TI)(Bs:List Nat)(tc:TT)(te:TE):TE:=fun σ H Q=>wi σ H fun J H1=>Ach K Bs tc te J σ H1 Q
section
variable {X:Cx}{pins:List (Addr × Obj)}{σ:St}{H:Hp}{s:Shared}
end
open PySem PySem.Spec PyProof.Rows
section
variable {X:Cx}
def Aci (K:PySem.W.Frag):V→List V→Hp→VK→Prop:=fun x vs H Q=>∃ a ns k,x=.ref a∧vs=[.int k]∧SqL K H a (vI ns)∧Q (.int (ns.count k:Nat)) H
theorem Gb{K:PySem.W.Frag}(hK:X.K=K:=by rfl):MtR X "list.count" (Aci K):=by
 subst hK
 intro pins s σ H x vs v us Q I rx rv h
 obtain⟨a,ns,k,rfl,rfl,hx,q⟩:=h
 cases rx
 obtain⟨u,rfl,ru⟩:=rv.one
 obtain⟨t,rfl⟩:=ru
 obtain⟨its,r,ht,hz⟩:=I.list hx
 refine PyProof.Rows.count_list_ints (ns:=ns) ht.isList (intsAre_of r) ?_
 exact⟨.int _,H,I.tok _,⟨_,rfl⟩,q⟩
end
def Ite (K:PySem.W.Frag)(a:Addr):It where
 go:=fun i H=>∃ xs x,SqL K H a xs∧xs[i]?=some x
 yld:=fun i H x H'=>∃ T,x=.ref T∧H T=none∧∀ xs u,SqL K H a xs→xs[i]?=some u→H'=upd H T (.tup [.int (i:Int),u])
 stop:=fun i H=>∃ xs,SqL K H a xs∧xs.length=i
def Ag1 (e it a:Addr)(i:Nat)(h:Heap):Prop:=(∃ old,IsEnum h e it i old)∧h.IsListIter it a i
theorem Aac{P:Program}{w:World}{K:PySem.W.Frag}{es:List Expr}{kx:Nat}{tp:Pos}{e it a:Addr}(hei:e≠it)(hae:a≠e)(hai:a≠it) :
  Turn P w K (.Tuple es kx tp) (Ite K a) [e,it] e (Ag1 e it a) where
 mem:=by simp
 obj:=fun i h st c hc=>by
  obtain⟨⟨old,s1⟩,s2⟩:=st
  simp only [Ai6,Ai7,or_false] at hc
  rcases hc with z | z
  ·subst z;exact⟨_,s1,fun v z=>by cases (show Data.fields _=Data.cell v from z)⟩
  ·subst z;obtain⟨o,e,_,d⟩:=s2;exact⟨o,e,fun v z=>by rw[d] at z;cases z⟩
 keep:=fun i h h' st k=>by
  obtain⟨⟨old,s1⟩,s2⟩:=st
  exact⟨⟨old,k _ (by simp) _ s1⟩,s2.at fun o e=>k _ (by simp) o e⟩
 item:=by
  intro X hP hw hK hc i pins s σ H E I hf st hg
  subst hP hw hK
  obtain⟨xs,x,hq1,hx⟩:=hg
  obtain⟨Tt,rv1,p1,_⟩:=I.list hq1
  obtain⟨u,hu,ru⟩:=rv1.get hx
  obtain⟨⟨old,s1⟩,s4⟩:=st
  have hlt:i<Tt.toArray.size:=by have:=(List.getElem?_eq_some_iff.mp hu).1;simpa using this
  have hh:X.A.in1.handled=none:=I.ok.hd hc
  refine wpAny_pyNext_enum_itemD (Draws.list hh it a hai Tt.toArray) s1 ⟨s4,p1.isList⟩ hlt hei (fun z=>?_) fun u' h1 tk hu' ho hst hT hsz kk=>?_
  ·simp only [Ai6,Ai7,or_false] at z
   rcases z with z | z
   ·exact hei z
   ·exact hae z.symm
  have hu2:Tt[i]?=some u':=by simpa using hu'
  rw[hu] at hu2
  cases hu2
  refine⟨_,rfl,wpAny_letOwnedTupleGo_enum ho fun h2 he2 sb=>?_⟩
  have sb:Heap.SameBut e h1 h2:=sb
  have el:e<s.heap.objs.size:=Heap.lt_size s1
  have il:it<s.heap.objs.size:=by obtain⟨_,e,_⟩:=s4;exact Heap.lt_size e
  have up:∀ c o,c≠e→h1.get? c=some o→h2.get? c=some o:=fun c o c1 z=>(sb.2 c c1).trans z
  have hTn:H s.heap.objs.size=none:=I.hok.fresh (AhX _)
  have I1:Inv X pins σ (upd H s.heap.objs.size (.tup [.int (i:Int),x])) { s with heap:=s.heap.push { cls:=.type "tuple", data:=.seq #[.int i tk,u] },toks:=tk+1 } :=
   I.laid (fun c o e=>Heap.get?_push_of_some _ e) (AhX _) ⟨by show 2≤sizeLine;decide,[.int i tk,u],.cons ⟨tk,rfl⟩ (.cons ru .nil),⟨_,Heap.get?_push_size _ rfl,rfl,_,rfl⟩⟩
  have fp2:∀ c∈[e,it],Nt X pins (upd H s.heap.objs.size (.tup [.int (i:Int),x])) c:=fun c hc=>by
   obtain⟨f0,f⟩:=hf c hc
   refine⟨?_,f⟩
   have lt:c<s.heap.objs.size:=by
    simp only [Ai6,Ai7,or_false] at hc
    rcases hc with e | e <;> subst e <;> assumption
   rw[Aj (Aig lt)]
   exact f0
  have I2:Inv X pins σ (upd H s.heap.objs.size (.tup [.int (i:Int),x])) { s with heap:=h2,toks:=tk+1 }:=by
   refine Inv.R1 (s:={ s with heap:=s.heap.push { cls:=.type "tuple", data:=.seq #[.int i tk,u] },toks:=tk+1 }) (h':=h2) (t':=tk+1) (its:=[e,it]) I1 (fun c o hc z=>?_) fp2
   simp only [Ai6,Ai7,or_false,not_or] at hc
   refine up c o hc.1 ?_
   by_cases hcs:c=s.heap.objs.size
   ·subst hcs
    have e':(s.heap.push { cls:=.type "tuple", data:=.seq #[.int i tk,u] }).get? s.heap.objs.size=some { cls:=.type "tuple", data:=.seq #[.int i tk,u] }:=Heap.get?_push_size _ rfl
    rw[e'] at z
    cases z
    exact hT
   ·have e':s.heap.get? c=some o:=by
     rw[← z]
     exact(Heap.get?_push_ne _ _ _ hcs).symm
    exact kk c o hc.1 hc.2 e'
  refine⟨.ref s.heap.objs.size,_,I2,rfl,⟨s.heap.objs.size,rfl,hTn,fun xs' u' a1 a3=>?_⟩,⟨⟨u,by simpa using he2⟩,hst.1.at fun o z=>up _ o hei.symm z⟩,fun c hc=>(fp2 c hc).1⟩
  rw[I.Hl a1 hq1,hx] at a3
  cases a3
  rfl
 done:=by
  intro X hP hw hK hc i pins s σ H E I hf st hg
  subst hP hw hK
  obtain⟨xs,hq1,hend⟩:=hg
  obtain⟨Tt,rv1,p1,_⟩:=I.list hq1
  have l1:=rv1.length
  obtain⟨⟨old,s1⟩,s4⟩:=st
  have hh:X.A.in1.handled=none:=I.ok.hd hc
  have en:i=Tt.toArray.size:=by simp;omega
  subst en
  refine wpAny_pyNext_enum_endD (Draws.list hh it a hai Tt.toArray) s1 ⟨s4,p1.isList⟩ fun h' kk=>⟨rfl,I.R1 (t':=s.toks) (its:=[e,it]) (fun c o hc z=>?_) hf⟩
  simp only [Ai6,Ai7,or_false,not_or] at hc
  exact kk c o hc.2 z
 self:=fun _ _ _ _ _ st h=>by obtain⟨⟨old,s1⟩,_⟩:=st;exact wpAny_pyIter_enum s1 h
section
variable {X:Cx}{es:List Expr}{kx:Nat}{tp:Pos}
def AeN (K:PySem.W.Frag)(ta:TA):TI:=fun σ H R=>ta σ H fun vs H1=>∃ a,vs=[.ref a]∧(∃ xs,SqL K H1 a xs)∧R (Ite K a) H1
theorem Acj{K:PySem.W.Frag}{a:Expr}{ta:TA}{p pos:Pos}(hg:Gl X "enumerate") (hm:X.mg "enumerate" = none) (ha:PA X [a] ta) (hK:X.K=K:=by rfl) (hs:starEach [a] X.env=[(false,eval a X.env)]:=by rfl) :
  PI X (.Tuple es kx tp) (.Call (.Name "enumerate" p) [a] [] pos) (AeN K ta):=by
 subst hK
 intro pins s σ H R I h
 refine Call_ (KC I hg hm Vd (PyProof.Rows.callWith_type1 (thn (ha pos pins s σ H _ I h) fun us s1 ⟨vs,H1,I1,r1,q1⟩=>?_) hs rfl))
 obtain⟨a,e,⟨xs,hq1⟩,q⟩:=q1
 subst e
 cases r1 with
 | cons r rr =>
  cases rr
  cases r
  obtain⟨Tt,rv1,p1,_⟩:=I1.list hq1
  obtain⟨o1,e1,_⟩:=id p1.isList
  have la:a<s1.heap.objs.size:=Heap.lt_size e1
  refine call_enumerate_list p1.isList fun h' he hi hsz kk=>wpAny_pyIter_enum he ?_
  refine⟨_,[s1.heap.objs.size+1,s1.heap.objs.size],_,_,H1,rfl,I1.kept (t':=s1.toks) kk,Aac (lne (AjI _) 0).symm (lne la 1) (lne la 0),⟨⟨_,he⟩,hi⟩,fun c hc=>?_,q⟩
  have le:s1.heap.objs.size≤c:=by
   simp only [Ai6,Ai7,or_false] at hc
   rcases hc with e | e <;> subst e <;> omega
  exact I1.Aa4 le (I1.hok.fresh le)
theorem AaR{K:PySem.W.Frag}{a:Addr}{xs:List V}{g:TG}{tb:TS}{D:Ends}{σ:St}{H:Hp}(Pv:Nat→St→Hp→Prop)(h0:Pv 0 σ H)(hl:∀ i σ H,Pv i σ H→SqL K H a xs)
  (hs:∀ i x σ H T,xs[i]?=some x→Pv i σ H→H T=none→g (.ref T) σ (upd H T (.tup [.int (i:Int),x])) fun σ2 H2=>tb { D with nx:=Pv (i+1),ct:=Pv (i+1),bk:=D.nx } σ2 H2) (hd:∀ σ H,Pv xs.length σ H→D.nx σ H) :
  ∃ W:Nat→Nat→St→Hp→Prop,(∃ m,W 0 m σ H)∧∀ i m σ H,W i m σ H →
   ((Ite K a).stop i H∧D.nx σ H)∨((Ite K a).go i H∧∃ N:St→Hp→Prop,(∀ σ' H',N σ' H'→∃ m',m'<m∧W (i+1) m' σ' H')∧∀ x H',(Ite K a).yld i H x H'→g x σ H' fun σ2 H2=>tb { D with nx:=N,ct:=N,bk:=D.nx } σ2 H2):=by
 refine⟨fun i m σ H=>m=xs.length-i∧i≤xs.length∧Pv i σ H,⟨xs.length,by simp,Aik _,h0⟩,?_⟩
 rintro i m σ H ⟨rfl,hi,p⟩
 have q1:=hl i σ H p
 by_cases hlt:i<xs.length
 ·refine .inr ⟨⟨xs,xs[i],q1,AhY hlt⟩,Pv (i+1),fun σ' H' p'=>⟨xs.length-(i+1),by omega,rfl,hlt,p'⟩,fun x H' y=>?_⟩
  obtain⟨T,rfl,hT,y⟩:=y
  have e:=y xs _ q1 (AhY hlt)
  subst e
  exact hs i _ σ H T (AhY hlt) p hT
 ·have e:i=xs.length:=by omega
  subst e
  exact .inl ⟨⟨xs,q1,rfl⟩,hd σ H p⟩
end
open PySem PySem.Spec PyProof.Rows
inductive RT (K:PySem.W.Frag) (H:Hp):Nat→V→V→Prop where
 | flat {n:Nat} {x:V} (h:Dq x=true):RT K H n x x
 | lst {n:Nat} {p q:Addr} {xs ys:List V} (hp:SqL K H p xs) (hq:SqL K H q ys) (hl:xs.length=ys.length) (hi:∀(i:Nat) (x y:V),xs[i]?=some x→ys[i]?=some y→RT K H n x y):RT K H (n+1) (.ref p) (.ref q)
 | tup {n:Nat} {p q:Addr} {xs ys:List V} (hp:SqT K H p xs) (hq:SqT K H q ys) (hl:xs.length=ys.length) (hi:∀(i:Nat) (x y:V),xs[i]?=some x→ys[i]?=some y→RT K H n x y):RT K H (n+1) (.ref p) (.ref q)
section
variable {X:Cx}{K:PySem.W.Frag}
theorem Jz{xs:List V}{us:List Value}(r:Vals xs us){j:Nat}(h:j<us.toArray.size):∃ x,xs[j]?=some x∧RelV x us.toArray[j]:=by
 have l:=r.length
 simp only [Aia] at h
 obtain⟨u,e,q⟩:=r.get (i:=j) (x:=xs[j]) (by simp[show j<xs.length by omega])
 refine⟨xs[j],by simp[show j<xs.length by omega],?_⟩
 have:us.toArray[j]=u:=by
  have h2:us.toArray[j]?=some u:=by simpa using e
  exact Option.some.inj ((Array.getElem?_eq_getElem (by simpa using h)).symm.trans h2)
 rw[this]
 exact q
theorem AaS{pins:List (Addr × Obj)}{σ:St}{H:Hp}{s:Shared}(I:Inv X pins σ H s){n:Nat}{x y:V}(S:RT X.K H n x y):∀{A:Around} {u v:Value},RelV x u→RelV y v→A.units+n<cLine→SeqAt.EqAt A s u v true:=by
 induction S with
 | flat h =>
  intro A u v r1 r2 hu
  have:=RJ (A:=A) (s:=s) r1 r2 h h
  rw[Ws h] at this
  exact this
 | lst hp hq hl hi ih =>
  intro A u v r1 r2 hu
  rename_i n p q xs ys
  cases r1
  cases r2
  by_cases e:p=q
  ·subst e;exact SeqAt.EqAt.same _
  ·refine SeqAt.EqAt.of_refs e ?_
   obtain⟨its,r,pl,hz⟩:=I.list hp
   obtain⟨its2,r2,pl2,hz2⟩:=I.list hq
   have l1:=r.length
   have l2:=r2.length
   have key:=SeqAt.RcAt.lists (A:=A) (s:=s) (e:=fun _=>true) pl.isList pl2.isList (by simp only [Aia];omega) (by omega) (fun j h1 h2=>?_)
   ·have e1:(List.range its.toArray.size).all (fun _=>true)=true:=by simp
    rw[e1] at key
    exact key
   ·obtain⟨x,ex,qx⟩:=Jz r h1
    obtain⟨y,ey,qy⟩:=Jz r2 h2
    exact ih j x y ex ey qx qy (by show A.units+1+n<cLine;omega)
 | tup hp hq hl hi ih =>
  intro A u v r1 r2 hu
  rename_i n p q xs ys
  cases r1
  cases r2
  by_cases e:p=q
  ·subst e;exact SeqAt.EqAt.same _
  ·refine SeqAt.EqAt.of_refs e ?_
   obtain⟨its,r,pl,hz⟩:=I.tuple hp
   obtain⟨its2,r2,pl2,hz2⟩:=I.tuple hq
   have l1:=r.length
   have l2:=r2.length
   have key:=SeqAt.RcAt.tuples (A:=A) (s:=s) (e:=fun _=>true) pl pl2 (by omega) (fun j h1 h2=>?_)
   ·have e1:((List.range (min its.toArray.size its2.toArray.size)).all (fun _=>true) && its.toArray.size == its2.toArray.size)=true:=by
     have e2:its.length=its2.length:=by omega
     simp[e2]
    rw[e1] at key
    exact key
   ·obtain⟨x,ex,qx⟩:=Jz r h1
    obtain⟨y,ey,qy⟩:=Jz r2 h2
    exact ih j x y ex ey qx qy (by show A.units+1+n<cLine;omega)
def AaT (K:PySem.W.Frag)(H:Hp)(p q:Addr):Prop:=∃ xs ys:List V,SqL K H p xs∧SqL K H q ys∧xs.length=ys.length∧∀(i:Nat) (x y:V),xs[i]?=some x→ys[i]?=some y→RT K H 50 x y
def AhM (K:PySem.W.Frag):R2:=fun x y H Q=>∃ p q,x=.ref p∧y=.ref q∧AaT K H p q∧Q (.bl true) H
def AhN (K:PySem.W.Frag):R2:=fun x y H Q=>∃ p q,x=.ref p∧y=.ref q∧AaT K H p q∧Q (.bl false) H
end
open PySem PySem.Spec PyProof.Rows
section
variable {X:Cx}{K:PySem.W.Frag}
def Ahj (K:PySem.W.Frag):R2:=fun x y H Q=>∃(p q:Addr) (js ks:List Int),x=.ref p∧y=.ref q∧SqT K H p (vI js)∧SqT K H q (vI ks)∧Q (.bl (!decide (js=ks))) H
end
open PySem PySem.Spec PyProof.Rows
section
variable {X:Cx}{K:PySem.W.Frag}
theorem Ny{pins:List (Addr × Obj)}{σ:St}{H:Hp}{s:Shared}{vs:List Value}{out:Array Value}{ns':List Int}{Q:VK}(I:Inv X pins σ H s)(hi:IntsAre out.toList ns')(hz:ns'.length≤sizeLine)
  (q:∀ l,H l=none→Q (.ref l) (upd H l (.lst (vI ns')))):EP X pins σ Q (.ref (s.heap.objs.size+1)) { s with heap:=sortedAll s.heap vs out }:=by
 obtain⟨e,he⟩:=sortedAll_at s.heap vs out
 refine⟨.ref (s.heap.objs.size+1),_,I.laid (t':=s.toks) (o:=.lst (vI ns')) (fun b u=>sortedAll_old) (AiI _) ?_,rfl,q _ (I.hok.fresh (AiI _))⟩
 refine⟨by rw[Ao];exact hz,out.toList,e,Jx hi,?_⟩
 rw[he]
def AdB (K:PySem.W.Frag)(tl:TE):TE:=fun σ H Q=>tl σ H fun x H1=>∃ a ns,x=.ref a∧SqL K H1 a (vI ns)∧ns.length<64∧∀ l ns',ns'.Perm ns→ns'.Pairwise (· ≥ ·)→H1 l=none→Q (.ref l) (upd H1 l (.lst (vI ns')))
theorem W0{e:Expr}{tl:TE}{p pos kp cp:Pos}{j:Nat}(hg:Gl X "sorted") (hm:X.mg "sorted" = none) (hl:PE X e tl) (hK:X.K=K:=by rfl)
  (he:backTo pos (starEach [e] X.env)=(false,eval e X.env)::backTo pos (starEach [] X.env):=by rfl)
  (hplain:(backTo pos (starEach [e] X.env)).any (·.1)=false:=by rfl):PE X (.Call (.Name "sorted" p) [e] [⟨some "reverse", .Constant (.bool true) j cp,kp⟩] pos) (AdB K tl):=by
 subst hK
 intro pins s σ H Q I h
 refine wpAny_Call_Name_kw (KC I hg hm Q3 ?_ (by decide) (by decide))
 refine callWith_kw ?_ he hplain rfl rfl
 rw[he]
 refine Calls.spliced_cons (thn (hl pins s σ H _ I h) fun u s1 ⟨x,H1,I1,r1,q1⟩=>Calls.spliced_nil ?_)
 refine kws_cons (Constant_bool (kws_nil ?_))
 obtain⟨a,ns,rfl,hq,h64,q⟩:=q1
 cases r1
 obtain⟨its,r,pl,hz⟩:=I1.list hq
 have hi:IntsAre its ns:=intsAre_of r
 have hsz:sizeLine=16777216:=sizeLine_eq
 show wpAny _ _ (call (.builtin "sorted") [.ref a] [(Str.ofString "reverse", .bool true)]) _ _ _
 refine sorted_ints_rev pl.isList hi (by rw[hi.length];exact h64) fun out ns' a1 a2 a3=>?_
 exact Ny I1 a1 (by have:=a2.length_eq;omega) fun l hl=>q l ns' a2 (by unfold Ordered at a3;rw[if_pos rfl] at a3;exact a3) hl
end
open PySem PySem.Spec PyProof.Rows
def vB (bs:List Bool):List V:=bs.map V.bl
theorem Yq(bs:List Bool):(vB bs).length=bs.length:=by unfold vB;rw[AhZ]
theorem AdC(bs:List Bool)(b:Bool):vB bs++[.bl b]=vB (bs++[b]):=by unfold vB;rw[Aio];rfl
theorem Yr{bs:List Bool}:∀{us:List Value},Vals (bs.map V.bl) us→us=bs.map Value.bool:=by
 induction bs with
 | nil=>intro us r;rw[AiH] at r;cases r;rfl
 | cons n ns ih =>
  intro us r
  rw[Aiq] at r
  cases r with
  | cons r1 r2 =>
   cases r1
   rw[ih r2]
   rfl
section
variable {X:Cx}{K:PySem.W.Frag}
end
open PySem PySem.Spec PyProof.Rows
theorem all_range(bs:List Bool):(List.range bs.length).all (fun i=>bs.getD i false)=bs.all id:=by
 rw[AiQ,AjK,AjK]
 constructor
 ·rintro h b hb
  obtain⟨i,hi,e⟩:=Aiu hb
  have:=h i (List.mem_range.mpr hi)
  rw[Aic,AhY hi,e] at this
  exact this
 ·rintro h i hi
  have hl:=List.mem_range.mp hi
  rw[Aic,AhY hl]
  exact h _ (Aie hl)
section
variable {X:Cx}{K:PySem.W.Frag}
theorem Aad(hK:X.K=K:=by rfl)(hc:X.calm=true:=by rfl):Hm X (.builtin "all") (fun xs H Q=>∃ a bs,xs=[.ref a]∧SqL K H a (vB bs)∧Q (.bl (bs.all id)) H):=by
 subst hK
 intro pins s σ H xs us Q I rv h
 obtain⟨a,bs,rfl,hq,q⟩:=h
 obtain⟨u,rfl,ru⟩:=rv.one
 cases ru
 obtain⟨its,r,pl,hl⟩:=I.list hq
 have ei:=Yr (bs:=bs) r
 subst ei
 obtain⟨o,eo,_⟩:=id pl.isList
 have alt:=Heap.lt_size eo
 refine call_all_walk (wpAny_pyIter_list pl.isList ?_)
 refine⟨_,_,_,_,_,_,fun i=>bs.getD i false,rfl,Walks.list (A:=X.A.in1) (I.ok.hd hc) _ a (Aig alt) (bs.map Value.bool).toArray,⟨⟨_,Heap.get?_push_size _ rfl,rfl,rfl⟩,pl.isList.push _⟩,?_,fun h' tk hk=>?_⟩
 ·intro i v s' Q' E' hP hQ
  have hv:(bs.map Value.bool)[i]?=some v:=by simpa using hP
  rw[Aip] at hv
  cases e:bs[i]? with
  | none=>rw[e] at hv;cases hv
  | some b =>
   rw[e] at hv
   cases hv
   have eb:bs.getD i false=b:=by rw[Aic,e];rfl
   have hQ':Q' (bs.getD i false) s':=hQ
   rw[eb] at hQ'
   exact wpAny_truthy_bool hQ'
 ·have e1:(List.range ((bs.map Value.bool).toArray).size).all (fun i=>bs.getD i false)=bs.all id:=by
   rw[Aia,AhZ]
   exact all_range bs
  rw[e1]
  refine⟨.bl (bs.all id),H,I.kept (t':=tk) (fun b ob e=>hk b ob ?_ (Heap.get?_push_of_some _ e)),rfl,q⟩
  have lt:=Heap.lt_size e
  intro hm
  rw[List.mem_singleton.mp hm] at lt
  exact Ai5 _ lt
theorem Aae:Hm X (.type "range") (fun xs H Q=>∃ b,xs=[.int b]∧∀ p,H p=none→Q (.ref p) (upd H p (Yp p 0 b 1))):=by
 intro pins s σ H xs us Q I rv h
 obtain⟨b,rfl,q⟩:=h
 obtain⟨u1,rfl,r1⟩:=rv.one
 obtain⟨t,rfl⟩:=r1
 exact call_range_1 (Ww I q)
end
end L2
set_option maxHeartbeats 4000000
namespace Stab
open PySem PyProof.Rows
def V (xs:Array Keyed)(i:Nat):Int:=match xs[i]? with
 | some p=>numOf p.2
 | none=>0
theorem JP{xs ys:Array Keyed}{i j:Nat}(h:xs[i]?=ys[j]?):V xs i=V ys j:=by unfold V;rw[h]
def Lx (xs:Array Keyed)(i j:Nat):Prop:=K xs i<K xs j∨(K xs i=K xs j∧V xs i<V xs j)
def St (xs:Array Keyed)(k:Nat):Prop:=∀ i j,i<j→j<k→Lx xs i j
def De (xs:Array Keyed)(k:Nat):Prop:=∀ i j,i<j→j<k→Lx xs j i
def Inc (xs:Array Keyed):Prop:=∀ i j,i<j→j<xs.size→V xs i<V xs j
structure SB (a₀:Array Keyed) (st:SortSt) (k:Nat):Prop where
 base:SBase a₀ st
 tail:∀ j,k≤j→(arrOf st)[j]?=a₀[j]?
 low:∀ i,i<k→∃ i',i'<k∧(arrOf st)[i]?=a₀[i']?
section
variable {a₀:Array Keyed}{st:SortSt}{k:Nat}
theorem SB.up(h:SB a₀ st k){k':Nat}(hk:k≤k'):SB a₀ st k' :=
 ⟨h.base,fun j hj=>h.tail j (Ais hk hj),fun i hi=>by
  by_cases hik:i<k
  ·obtain⟨i',h1,h2⟩:=h.low i hik
   exact⟨i',Aif h1 hk,h2⟩
  ·exact⟨i,hi,h.tail i (AjH hik)⟩⟩
theorem SB.vlt(h:SB a₀ st k)(inc:Inc a₀){i j:Nat}(hi:i<k)(hj:k≤j)(hs:j<a₀.size):V (arrOf st) i<V (arrOf st) j:=by
 obtain⟨i',h1,h2⟩:=h.low i hi
 rw[JP h2,JP (h.tail j hj)]
 exact inc i' j (Aif h1 hj) hs
theorem SB.mir(h:SB a₀ st k)(hk:k≤a₀.size){i j:Nat}(hj:j≤k):SB a₀ (setArr st (mirror (arrOf st) i j ((j-i) / 2))) k:=by
 have hz:j≤(arrOf st).size:=by rw[h.base.size];omega
 refine⟨h.base.setArr (mirror_perm _ _ _ _),fun x hx=>?_,fun x hx=>?_⟩
 ·show(mirror (arrOf st) i j ((j-i) / 2))[x]?=_
  rw[getElem?_mirror_all hz,if_neg (by omega)]
  exact h.tail x hx
 ·show ∃ i',i'<k∧(mirror (arrOf st) i j ((j-i) / 2))[x]?=_
  rw[getElem?_mirror_all hz]
  by_cases hc:i≤x∧x<j
  ·rw[if_pos hc]
   exact h.low _ (by omega)
  ·rw[if_neg hc]
   exact h.low _ hx
theorem SB.bub(h:SB a₀ st k)(hk:k<a₀.size){d:Nat}(hd:d≤k):SB a₀ (setArr st (bubble (arrOf st) k d)) (k+1):=by
 have hz:k<(arrOf st).size:=by rw[h.base.size];exact hk
 have h':=h.up (AiI k)
 refine⟨h.base.setArr (bubble_perm _ _ _),fun x hx=>?_,fun x hx=>?_⟩
 ·show(bubble (arrOf st) k d)[x]?=_
  rw[getElem?_bubble hz d hd,if_neg (by omega),if_neg (by omega)]
  exact h'.tail x hx
 ·show ∃ i',i'<k+1∧(bubble (arrOf st) k d)[x]?=_
  rw[getElem?_bubble hz d hd]
  by_cases h1:x=k-d
  ·rw[if_pos h1];exact h'.low _ (AjI k)
  ·rw[if_neg h1]
   by_cases h2:k-d<x∧x≤k
   ·rw[if_pos h2];exact h'.low _ (by omega)
   ·rw[if_neg h2];exact h'.low _ hx
end
theorem J0{xs:Array Keyed}{i j:Nat}(hj:j≤xs.size)(k:Nat):V (mirror xs i j ((j-i) / 2)) k=if i≤k∧k<j then V xs (i+j-1-k) else V xs k:=by
 have e:=getElem?_mirror_all (i:=i) hj k
 by_cases h1:i≤k∧k<j
 ·rw[if_pos h1] at e ⊢;exact JP e
 ·rw[if_neg h1] at e ⊢;exact JP e
theorem W2{xs:Array Keyed}{src d:Nat}(hs:src<xs.size)(hd:d≤src)(k:Nat) :
  V (bubble xs src d) k=if k=src-d then V xs src else if src-d<k∧k≤src then V xs (k-1) else V xs k:=by
 have e:=getElem?_bubble hs d hd k
 by_cases h1:k=src-d
 ·rw[if_pos h1] at e ⊢;exact JP e
 ·rw[if_neg h1] at e ⊢
  by_cases h2:src-d<k∧k≤src
  ·rw[if_pos h2] at e ⊢;exact JP e
  ·rw[if_neg h2] at e ⊢;exact JP e
structure Dr (xs:Array Keyed) (x neq:Nat):Prop where
 le:neq+1≤x
 fst:∀ i j,i<j→j<x-(neq+1)→Lx xs j i
 snd:∀ i j,i<x-(neq+1)→x-(neq+1)≤j→j<x→K xs j<K xs i
 run:∀ i j,x-(neq+1)≤i→i<j→j<x→K xs i=K xs j∧V xs i<V xs j
section
variable {xs:Array Keyed}{x neq:Nat}
theorem Dr.rev(h:Dr xs x neq)(hx:x≤xs.size):De (mirror xs (x-(neq+1)) x ((x-(x-(neq+1))) / 2)) x:=by
 intro i j hij hj
 obtain⟨h1,h2,h3,h4⟩:=h
 unfold Lx
 rw[K_mirror hx,K_mirror hx,J0 hx,J0 hx]
 by_cases ci:x-(neq+1)≤i
 ·rw[if_pos (by omega),if_pos (by omega),if_pos (by omega),if_pos (by omega)]
  obtain⟨e1,e2⟩:=h4 (x-(neq+1)+x-1-j) (x-(neq+1)+x-1-i) (by omega) (by omega) (by omega)
  exact .inr ⟨e1,e2⟩
 ·rw[if_neg (c:=_≤i∧_) (by omega),if_neg (c:=_≤i∧_) (by omega)]
  by_cases cj:x-(neq+1)≤j
  ·rw[if_pos (by omega),if_pos (by omega)]
   exact .inl (h3 i _ (by omega) (by omega) (by omega))
  ·rw[if_neg (by omega),if_neg (by omega)]
   exact h2 i j hij (by omega)
theorem Dr.one(h:Dr xs x 0):De xs x:=by
 intro i j hij hj
 obtain⟨h1,h2,h3,h4⟩:=h
 by_cases cj:j<x-(0+1)
 ·exact h2 i j hij cj
 ·exact .inl (h3 i j (by omega) (by omega) hj)
theorem De.next(h:De xs x)(h1:1≤x)(hl:K xs x<K xs (x-1)):Dr xs (x+1) 0:=by
 refine⟨by omega,fun i j hij hj=>h i j hij (by omega),fun i j hi hj1 hj2=>?_,fun i j hi hij hj=>by omega⟩
 have ej:j=x:=by omega
 subst ej
 by_cases hi':i=j-1
 ·rw[hi'];exact hl
 ·have:=h i (j-1) (by omega) (by omega)
  unfold Lx at this
  omega
theorem Dr.eq(h:Dr xs x neq)(he:K xs x=K xs (x-1))(hv:∀ i,i<x→V xs i<V xs x):Dr xs (x+1) (neq+1):=by
 obtain⟨h1,h2,h3,h4⟩:=h
 have ep:x+1-(neq+1+1)=x-(neq+1):=by omega
 refine⟨by omega,fun i j hij hj=>h2 i j hij (by omega),fun i j hi hj1 hj2=>?_,fun i j hi hij hj=>?_⟩
 ·by_cases hj:j<x
  ·exact h3 i j (by omega) (by omega) hj
  ·have ej:j=x:=by omega
   rw[ej,he]
   exact h3 i (x-1) (by omega) (by omega) (by omega)
 ·by_cases hjx:j<x
  ·exact h4 i j (by omega) hij hjx
  ·have ej:j=x:=by omega
   subst ej
   refine⟨?_,hv i hij⟩
   rw[he]
   by_cases hi':i=j-1
   ·rw[hi']
   ·exact(h4 i (j-1) (by omega) (by omega) (by omega)).1
theorem St.all(h:St xs x)(hk:¬K xs 0<K xs (x-1)):∀ i,i<x→K xs i=K xs (x-1)∧(∀ j,i<j→j<x→V xs i<V xs j):=by
 have ge:∀ i,i<x→K xs i=K xs (x-1):=fun i hi=>by
  have a1:K xs 0≤K xs i:=by
   by_cases h0:i=0
   ·rw[h0];exact Aiz _
   ·have:=h 0 i (by omega) hi;unfold Lx at this;omega
  have a2:K xs i≤K xs (x-1):=by
   by_cases h0:i=x-1
   ·rw[h0];exact Aiz _
   ·have:=h i (x-1) (by omega) (by omega);unfold Lx at this;omega
  omega
 refine fun i hi=>⟨ge i hi,fun j hij hj=>?_⟩
 have:=h i j hij hj
 have e1:=ge i hi
 have e2:=ge j hj
 unfold Lx at this
 omega
end
section
variable {prog:Program}{w:World}{A:Around}{E:Value→Shared→Prop}{s:Shared}{a₀:Array Keyed}
theorem AaU{st:SortSt}{a nrem:Nat}{Q:AscSt→SortSt→Prop}(h0:IntKeys a₀)(inc:Inc a₀)(hn:nrem≤a₀.size)(ha:1≤a)(han:a≤nrem)(hB:SB a₀ st a)
  (hs:St (arrOf st) a) (h:∀ n,a≤n→n≤nrem→St (arrOf st) n→(n=nrem∨K (arrOf st) n<K (arrOf st) (n-1))→Q (none,n) st) :
  wpS (model prog w) A E s (ascLoop a nrem) Q st:=by
 unfold ascLoop
 refine wpS_forRange (I:=fun x c st'=>st'=st∧c=(none,x)∧St (arrOf st) x) ?step ?fin ⟨rfl,rfl,hs⟩
 case fin =>
  rintro c st' ⟨rfl,rfl,q⟩
  have e:max a nrem=nrem:=by omega
  rw[e] at q ⊢
  exact h nrem han (AhX _) q (.inl rfl)
 case step =>
  rintro x c st' hax hxn ⟨rfl,rfl,q⟩
  refine wpS_bind (wpS_ltK hB.base h0 (by omega) (by omega) ?_)
  by_cases hl:K (arrOf st') x<K (arrOf st') (x-1)
  ·simp only [hl,decide_true,if_true]
   exact wpS_pure (h x hax (by omega) q (.inr hl))
  ·simp only [hl,decide_false,Ain,if_false]
   refine wpS_pure ⟨rfl,rfl,fun i j hij hj=>?_⟩
   by_cases hjx:j<x
   ·exact q i j hij hjx
   ·have ej:j=x:=by omega
    subst ej
    have v:=(hB.up hax).vlt inc hij (AhX j) (by omega)
    have kk:K (arrOf st') i≤K (arrOf st') (j-1):=by
     by_cases hi:i=j-1
     ·rw[hi];exact Aiz _
     ·have:=q i (j-1) (by omega) (by omega)
      unfold Lx at this
      omega
    unfold Lx
    omega
theorem W3{st:SortSt}{n nrem:Nat}{Q:Option Nat→SortSt→Prop}(h0:IntKeys a₀)(inc:Inc a₀)(hn:nrem≤a₀.size)(h1:1≤n)(hnn:n≤nrem)(hB:SB a₀ st n)
  (hs:De (arrOf st) n) (h:∀ m st',SB a₀ st' m→1≤m→m≤nrem→St (arrOf st') m→Q (some m) st') :
  wpS (model prog w) A E s (tail3 n nrem) Q st:=by
 unfold tail3
 have hz:n≤(arrOf st).size:=by rw[hB.base.size];omega
 refine wpS_bind (wpS_reverse ?_)
 have hB':=hB.mir (by omega) (i:=0) (j:=n) (AhX n)
 refine wpS_bind (AaU h0 inc hn h1 hnn hB' ?_ fun m a1 a2 a3 _=>wpS_pure (h m _ (hB'.up a1) (by omega) a2 a3))
 intro i j hij hj
 show Lx (mirror (arrOf st) 0 n ((n-0) / 2)) i j
 unfold Lx
 rw[K_mirror hz,K_mirror hz,J0 hz,J0 hz,if_pos (by omega),if_pos (by omega),if_pos (by omega),if_pos (by omega)]
 exact hs _ _ (by omega) (by omega)
theorem Ack{st:SortSt}{n nrem:Nat}{Q:DescSt→SortSt→Prop}(h0:IntKeys a₀)(inc:Inc a₀)(hn:nrem≤a₀.size)(hnn:n≤nrem)(hB:SB a₀ st n)
  (hs:Dr (arrOf st) n 0) (h:∀ m neq st',SB a₀ st' m→n≤m→m≤nrem→Dr (arrOf st') m neq→Q (none,m,neq) st') :
  wpS (model prog w) A E s (descLoop n nrem) Q st:=by
 unfold descLoop
 refine wpS_forRange (I:=fun x c st'=>∃ q,c=(none,x,q)∧SB a₀ st' x∧Dr (arrOf st') x q) ?step ?fin ⟨0,rfl,hB,hs⟩
 case fin =>
  rintro c st' ⟨q,rfl,b,d⟩
  have e:max n nrem=nrem:=by omega
  rw[e] at b d ⊢
  exact h nrem q st' b hnn (AhX _) d
 case step =>
  rintro x c st' hax hxn ⟨q,rfl,b,d⟩
  have x1:=d.le
  have hz:x≤(arrOf st').size:=by rw[b.base.size];omega
  dsimp only
  refine wpS_bind (wpS_ltK b.base h0 (by omega) (by omega) ?_)
  by_cases hl:K (arrOf st') x<K (arrOf st') (x-1)
  ·simp only [hl,decide_true,if_true]
   by_cases hq:q>0
   ·rw[if_pos hq]
    refine wpS_bind (wpS_reverse (wpS_pure ⟨0,rfl,(b.mir (by omega) (AhX x)).up (AiI x),De.next (d.rev hz) (by omega) ?_⟩))
    show K (mirror (arrOf st') _ _ _) _<K (mirror (arrOf st') _ _ _) _
    rw[K_mirror hz,K_mirror hz,if_neg (by omega),if_pos (by omega)]
    have:=(d.run (x-(q+1)+x-1-(x-1)) (x-1) (by omega) (by omega) (by omega)).1
    rw[this]
    exact hl
   ·rw[if_neg hq]
    have eq:q=0:=by omega
    subst eq
    exact wpS_pure ⟨0,rfl,b.up (AiI x),d.one.next (by omega) hl⟩
  ·simp only [hl,decide_false,Ain,if_false]
   refine wpS_bind (wpS_ltK b.base h0 (by omega) (by omega) ?_)
   by_cases hg:K (arrOf st') (x-1)<K (arrOf st') x
   ·simp only [hg,decide_true,if_true]
    exact wpS_pure (h x q st' b hax (by omega) d)
   ·simp only [hg,decide_false,Ain,if_false]
    exact wpS_pure ⟨q+1,rfl,b.up (AiI x),d.eq (by omega) fun i hi=>b.vlt inc hi (AhX x) (by omega)⟩
theorem QS{st:SortSt}{n nrem:Nat}{Q:Option Nat→SortSt→Prop}(h0:IntKeys a₀)(inc:Inc a₀)(hn:nrem≤a₀.size)(hnn:n+1≤nrem)(hB:SB a₀ st (n+1))
  (hs:Dr (arrOf st) (n+1) 0) (h:∀ m st',SB a₀ st' m→1≤m→m≤nrem→St (arrOf st') m→Q (some m) st') :
  wpS (model prog w) A E s (descPart n nrem) Q st:=by
 unfold descPart
 refine wpS_bind (wpS_lift (wpAny_rule ⟨rfl,?_⟩))
 refine wpS_bind (Ack h0 inc hn hnn hB hs fun m q st' b m1 m2 d=>?_)
 dsimp only
 have hz:m≤(arrOf st').size:=by rw[b.base.size];omega
 by_cases hq:q>0
 ·rw[if_pos hq]
  exact wpS_bind (wpS_reverse (W3 h0 inc hn (by omega) m2 (b.mir (by omega) (AhX m)) (d.rev hz) h))
 ·rw[if_neg hq]
  have eq:q=0:=by omega
  subst eq
  exact W3 h0 inc hn (by omega) m2 b d.one h
theorem W4{st:SortSt}{nrem:Nat}{Q:Option Nat→SortSt→Prop}(h0:IntKeys a₀)(inc:Inc a₀)(hn:nrem≤a₀.size)(h1:1≤nrem)(hB:SB a₀ st 0)
  (h:∀ m st',SB a₀ st' m→1≤m→m≤nrem→St (arrOf st') m→Q (some m) st') :
  wpS (model prog w) A E s (countRun' 0 nrem) Q st:=by
 rw[countRun0_eq]
 have hB1:SB a₀ st 1:=hB.up (Aik 1)
 refine wpS_bind (AaU h0 inc hn (AhX 1) h1 hB1 (fun i j hij hj=>by omega) fun n n1 n2 q hor=>?_)
 dsimp only
 have bn:=hB1.up n1
 have hz:n≤(arrOf st).size:=by rw[hB.base.size];omega
 by_cases e:n=nrem
 ·rw[if_pos (by simpa using e)]
  exact wpS_pure (h n st bn n1 n2 q)
 ·rw[if_neg (by simpa using e)]
  have hl:=hor.resolve_left e
  by_cases g:n>1
  ·rw[if_pos g]
   refine wpS_bind (wpS_ltK hB.base h0 (by omega) (by omega) ?_)
   by_cases r:K (arrOf st) 0<K (arrOf st) (n-1)
   ·simp only [r,decide_true,if_true]
    exact wpS_pure (h n st bn n1 n2 q)
   ·simp only [r,decide_false,Ain,if_false]
    have al:=q.all r
    have hm:=bn.mir (by omega) (i:=0) (j:=n) (AhX n)
    refine wpS_bind (wpS_reverse (QS h0 inc hn (by omega) (hm.up (AiI n)) (De.next ?_ n1 ?_) h))
    ·intro i j hij hj
     show Lx (mirror (arrOf st) _ _ _) j i
     unfold Lx
     rw[K_mirror hz,K_mirror hz,J0 hz,J0 hz,if_pos (by omega),if_pos (by omega),if_pos (by omega),if_pos (by omega)]
     refine .inr ⟨?_,(al _ (by omega)).2 _ (by omega) (by omega)⟩
     rw[(al _ (by omega)).1,(al (0+n-1-i) (by omega)).1]
    ·show K (mirror (arrOf st) _ _ _) _<K (mirror (arrOf st) _ _ _) _
     rw[K_mirror hz,K_mirror hz,if_neg (by omega),if_pos (by omega),(al (0+n-1-(n-1)) (by omega)).1]
     exact hl
  ·rw[if_neg g]
   have e1:n=1:=by omega
   subst e1
   exact QS h0 inc hn (by omega) (bn.up (AiI 1)) (De.next (fun i j hij hj=>by omega) (AhX 1) hl) h
theorem Aaf{st:SortSt}{n ok:Nat}{Q:Bool→SortSt→Prop}(h0:IntKeys a₀)(inc:Inc a₀)(hn:n≤a₀.size)(ok1:1≤ok)(hok:ok≤n)(hB:SB a₀ st ok)(hs:St (arrOf st) ok)
  (h:∀ st',SB a₀ st' n→St (arrOf st') n→Q true st'):wpS (model prog w) A E s (binarySort' 0 n ok) Q st:=by
 rw[binarySort'_eq]
 simp only [AiD]
 have em:max ok 1=ok:=by omega
 rw[em]
 refine wpS_bind (wpS_mono (wpS_forRange (I:=fun k c st'=>c=(none,())∧SB a₀ st' k∧St (arrOf st') k) (Q:=fun c st'=>c=(none,())∧SB a₀ st' n∧St (arrOf st') n) ?step ?fin ⟨rfl,hB,hs⟩) ?post)
 case post =>
  rintro c st' ⟨rfl,b,q⟩
  exact wpS_pure (h st' b q)
 case fin =>
  rintro c st' ⟨hc,b,q⟩
  have e:max ok n=n:=by omega
  rw[e] at b q
  exact⟨hc,b,q⟩
 case step =>
  rintro k c st' hak hkn ⟨rfl,b,q⟩
  have hk:k<a₀.size:=by omega
  have le:∀ i j,i≤j→j<k→K (arrOf st') i≤K (arrOf st') j:=fun i j hij hj=>by
   by_cases e:i=j
   ·rw[e];exact Aiz _
   ·have:=q i j (by omega) hj
    unfold Lx at this
    omega
  refine wpS_bind (wpS_mono (wpS_forRange (I:=fun x c st2=>st2=st'∧∃ l r,c=(none,l,r)∧l≤r∧r≤k∧r-l≤k-x ∧
    (∀ i,i<l→K (arrOf st') i≤K (arrOf st') k)∧(∀ i,r≤i→i<k→K (arrOf st') k<K (arrOf st') i))
   (Q:=fun c st2=>st2=st'∧∃ l,c=(none,l,l)∧l≤k∧(∀ i,i<l→K (arrOf st') i≤K (arrOf st') k)∧(∀ i,l≤i→i<k→K (arrOf st') k<K (arrOf st') i)) ?istep ?ifin
   ⟨rfl,0,k,rfl,by omega,by omega,by omega,fun i hi=>by omega,fun i h1 h2=>by omega⟩) ?ipost)
  case ifin =>
   rintro c st2 ⟨rfl,l,r,rfl,hlr,hrk,hm,lo,hi⟩
   have e:l=r:=by omega
   subst e
   exact⟨rfl,l,rfl,hrk,lo,hi⟩
  case istep =>
   rintro x c st2 _ hxk ⟨rfl,l,r,rfl,hlr,hrk,hm,lo,hi⟩
   dsimp only
   by_cases g:l ≥ r
   ·rw[if_pos g]
    have e:l=r:=by omega
    subst e
    exact wpS_pure ⟨rfl,l,rfl,hrk,lo,hi⟩
   ·rw[if_neg g]
    refine wpS_bind (wpS_ltK b.base h0 hk (by omega) ?_)
    by_cases hl:K (arrOf st2) k<K (arrOf st2) ((l+r) / 2)
    ·simp only [hl,decide_true,if_true]
     exact wpS_pure ⟨rfl,l,(l+r) / 2,rfl,by omega,by omega,by omega,lo,fun i h1 h2=>AiY hl (le _ _ h1 h2)⟩
    ·simp only [hl,decide_false,Ain,if_false]
     exact wpS_pure ⟨rfl,(l+r) / 2+1,r,rfl,by omega,by omega,by omega,fun i h1=>Int.le_trans (le i ((l+r) / 2) (by omega) (by omega)) (Int.not_lt.mp hl),hi⟩
  case ipost =>
   rintro c st2 ⟨rfl,l,rfl,hlk,lo,hi⟩
   show wpS _ _ _ _ (do moveDown' k l;pure (ForInStep.yield (none,()))) _ _
   rw[moveDown'_eq]
   refine wpS_bind (wpS_modify (wpS_pure ⟨rfl,b.bub hk (by omega),?_⟩))
   have hz:k<(arrOf st2).size:=by rw[b.base.size];exact hk
   intro i j hij hj
   show Lx (bubble (arrOf st2) k (k-l)) i j
   have e:k-(k-l)=l:=by omega
   have vk:∀ x,x<k→V (arrOf st2) x<V (arrOf st2) k:=fun x hx=>b.vlt inc hx (AhX k) hk
   unfold Lx
   rw[K_bubble hz (by omega),K_bubble hz (by omega),W2 hz (by omega),W2 hz (by omega),e]
   by_cases c1:i=l
   ·have d1:¬j=l:=by omega
    have d2:l<j∧j≤k:=by omega
    rw[if_pos c1,if_pos c1,if_neg d1,if_neg d1,if_pos d2,if_pos d2]
    exact .inl (hi _ (by omega) (by omega))
   ·rw[if_neg c1,if_neg c1]
    by_cases c2:l<i∧i≤k
    ·have d1:¬j=l:=by omega
     have d2:l<j∧j≤k:=by omega
     rw[if_pos c2,if_pos c2,if_neg d1,if_neg d1,if_pos d2,if_pos d2]
     exact q _ _ (by omega) (by omega)
    ·rw[if_neg c2,if_neg c2]
     by_cases c3:j=l
     ·rw[if_pos c3,if_pos c3]
      have k1:=lo i (by omega)
      have k2:=vk i (by omega)
      omega
     ·rw[if_neg c3,if_neg c3]
      by_cases c4:l<j∧j≤k
      ·rw[if_pos c4,if_pos c4]
       exact q _ _ (by omega) (by omega)
      ·rw[if_neg c4,if_neg c4]
       exact q _ _ hij (by omega)
theorem W5{st:SortSt}{Q:Unit→SortSt→Prop}(h0:IntKeys a₀)(inc:Inc a₀)(hB:SBase a₀ st)(same:arrOf st=a₀)(h2:2≤a₀.size)(h64:a₀.size<64)
  (h:∀ st',(arrOf st').Perm a₀→failedOf st'=none→St (arrOf st') a₀.size→Q () st'):wpS (model prog w) A E s sortRuns' Q st:=by
 rw[sortRuns'_eq]
 refine wpS_bind (wpS_get ?_)
 dsimp only
 have hmr:minRun' a₀.size a₀.size 0=a₀.size:=by
  obtain⟨f,hf⟩:∃ f,a₀.size=f+1:=⟨a₀.size-1,by omega⟩
  have e:minRun' (f+1) a₀.size 0=a₀.size:=by rw[minRun'_succ,if_pos h64];rfl
  rwa [← hf] at e
 have b0:SB a₀ st 0:=⟨hB,fun j _=>by rw[same],fun i hi=>by omega⟩
 have AeO:∀ st',SB a₀ st' a₀.size→St (arrOf st') a₀.size →
   (arrOf (setPending st' ((pendingOf st').push (0,a₀.size,0)))).Perm a₀∧failedOf (setPending st' ((pendingOf st').push (0,a₀.size,0)))=none∧(pendingOf (setPending st' ((pendingOf st').push (0,a₀.size,0)))).size=1∧St (arrOf (setPending st' ((pendingOf st').push (0,a₀.size,0)))) a₀.size:=fun st' b q =>
  ⟨b.base.perm,b.base.failed,by show((pendingOf st').push _).size=1;rw[b.base.pend];rfl,q⟩
 simp only [hB.size,hmr]
 refine wpS_bind (wpS_mono (wpS_forRange
  (I:=fun x c st'=>(x=0∧c=(none,0)∧SB a₀ st' 0)∨(1≤x∧c=(none,a₀.size)∧(arrOf st').Perm a₀∧failedOf st'=none∧(pendingOf st').size=1∧St (arrOf st') a₀.size))
  (Q:=fun c st'=>c=(none,a₀.size)∧(arrOf st').Perm a₀∧failedOf st'=none∧(pendingOf st').size=1∧St (arrOf st') a₀.size) ?step ?fin (.inl ⟨rfl,rfl,b0⟩)) ?post)
 case fin =>
  rintro c st' (⟨hx,_,_⟩ | ⟨_,hc,hD⟩)
  ·omega
  ·exact⟨hc,hD⟩
 case step =>
  rintro x c st' _ hx (⟨rfl,rfl,b⟩ | ⟨hx1,rfl,hD⟩)
  ·dsimp only
   rw[if_neg (by omega)]
   simp only [Ajs,Aj4,AiD]
   refine wpS_bind (W4 h0 inc (AhX _) (by omega) b fun m st2 b2 m1 m2 q2=>?_)
   dsimp only
   by_cases hlt:m<a₀.size
   ·rw[if_pos hlt]
    refine wpS_bind (wpS_lift (wpAny_rule ⟨rfl,?_⟩))
    refine wpS_bind (Aaf h0 inc (AhX _) m1 m2 b2 q2 fun st3 b3 q3=>?_)
    simp only [Ajt,Ain,if_false]
    refine wpS_bind (wpS_get ?_)
    have hb:(pendingOf st3).back?=none:=by rw[b3.base.pend];rfl
    rw[hb]
    dsimp only
    exact wpS_bind (wpS_modify (wpS_pure (.inr ⟨by omega,rfl,AeO _ b3 q3⟩)))
   ·rw[if_neg hlt]
    have hm:m=a₀.size:=by omega
    subst hm
    refine wpS_bind (wpS_get ?_)
    have hb:(pendingOf st2).back?=none:=by rw[b2.base.pend];rfl
    rw[hb]
    dsimp only
    exact wpS_bind (wpS_modify (wpS_pure (.inr ⟨by omega,rfl,AeO _ b2 q2⟩)))
  ·dsimp only
   rw[if_pos (AhX _)]
   exact wpS_pure ⟨rfl,hD⟩
 case post =>
  rintro c st' ⟨rfl,hD⟩
  dsimp only
  refine wpS_bind (wpS_mono (wpS_forRange (I:=fun _ c st2=>st2=st'∧c=(none,())) (Q:=fun c st2=>st2=st'∧c=(none,())) ?_ (fun _ _ hh=>hh) ⟨rfl,rfl⟩) ?_)
  ·rintro x c st2 _ _ ⟨rfl,rfl⟩
   refine wpS_bind (wpS_get ?_)
   rw[if_pos (by rw[hD.2.2.1];exact AhX 1)]
   exact wpS_pure ⟨rfl,rfl⟩
  ·rintro c st2 ⟨rfl,rfl⟩
   exact wpS_pure (h _ hD.1 hD.2.1 hD.2.2.2)
end
end Stab
namespace L2
open PySem PySem.Spec PyProof.Rows
def cdO (c:Addr)(q:Str):HO:=.ext fun h=>h.CodeRec (.ref c) q
def Tb (P:Addr)(q:Str)(H:Hp):Prop:=∃ ps:Array Value,H P=some (.tbl ps)∧TriplesOk ps.toList∧∀(pos:Pos) (cv:Value),codeAmong pos ps.toList=some cv→∃ c,cv=.ref c∧H c=some (cdO c q)
def Dt (H H':Hp):Prop:=∀ b o,H b=some o→(∀ ps,o≠.tbl ps)→H' b=some o
theorem Al.toT{H H':Hp}(s:Al H H'):Dt H H':=fun b o h _=>s b o h
theorem Dt.trans{H H1 H2:Hp}(a:Dt H H1)(b:Dt H1 H2):Dt H H2:=fun c o h n=>b c o (a c o h n) n
theorem Tb.same{P:Addr}{q:Str}{H H':Hp}(t:Tb P q H)(s:Al H H'):Tb P q H':=by
 obtain⟨ps,h1,h2,h3⟩:=t
 refine⟨ps,s _ _ h1,h2,fun pos cv e=>?_⟩
 obtain⟨c,e1,e2⟩:=h3 pos cv e
 exact⟨c,e1,s _ _ e2⟩
theorem Dt.lst{H H':Hp}(s:Dt H H'){a:Addr}{xs:List V}(h:H a=some (.lst xs)):H' a=some (.lst xs):=s a _ h fun _ z=>HO.noConfusion z
theorem Dt.tup{H H':Hp}(s:Dt H H'){a:Addr}{xs:List V}(h:H a=some (.tup xs)):H' a=some (.tup xs):=s a _ h fun _ z=>HO.noConfusion z
theorem Dt.ext{H H':Hp}(s:Dt H H'){a:Addr}{φ:Heap→Prop}(h:H a=some (.ext φ)):H' a=some (.ext φ):=s a _ h fun _ z=>HO.noConfusion z
theorem Dt.seq{K:PySem.W.Frag}{H H':Hp}{a:Addr}{xs:List V}(s:Dt H H')(h:SqL K H a xs):SqL K H' a xs:=by
 rcases h with (h | ⟨o,h⟩) | h
 ·exact .inl (.inl (s.lst h))
 ·exact .inl (.inr ⟨o,s a _ h fun _ z=>HO.noConfusion z⟩)
 ·exact .inr h
theorem Ys{pos pos':Pos}{c cv:Value}(l:List Value)(h:TriplesOk l):codeAmong pos' (l++[rawInt pos.line,rawInt pos.col,c])=some cv→codeAmong pos' l=some cv∨cv=c:=by
 fun_induction TriplesOk l with
 | case1 =>
  intro e
  simp only [AiW,codeAmong,rawInt] at e
  split at e
  ·exact .inr (Option.some.inj e).symm
  ·cases e
 | case2 a t b u x rest ih =>
  intro e
  simp only [AjL,codeAmong] at e ⊢
  split at e
  ·rename_i hc
   rw[if_pos hc]
   exact .inl e
  ·rename_i hc
   rw[if_neg hc]
   exact ih h e
 | case3 l h1 h2=>exact h.elim
theorem AdD{P:Program}{w:World}{H:Hp}{h:Heap}{c:Addr}{q:Str}(r:h.CodeRec (.ref c) q):Eu P w H h c (cdO c q):=by
 obtain⟨c',o,vs,t,e,g,d,v⟩:=id r
 cases e
 refine⟨r,⟨o,g⟩,fun h1 h2 r1 k=>?_⟩
 obtain⟨c2,o2,vs2,t2,e2,g2,d2,v2⟩:=r1
 cases e2
 exact⟨c,o2,vs2,t2,rfl,k _ g2,d2,v2⟩
section
variable {X:Cx}{pins:List (Addr × Obj)}{σ:St}{H:Hp}{s:Shared}
theorem Inv.table{h':Heap}{tk:Nat}{P c':Addr}{q:Str}{ps more:Array Value}(I:Inv X pins σ H s)(hP:H P=some (.tbl ps))(hx:Heap.ExtBut P s.heap h')(hsz:s.heap.objs.size≤c')
  (hrec:h'.CodeRec (.ref c') q) (htb:h'.get? P=some (PySem.W.tabObj (ps++more))) :
  Inv X pins σ (upd (upd H P (.tbl (ps++more))) c' (cdO c' q)) { s with heap:=h',toks:=tk }:=by
 have nP:∀ b,H b=none→b≠P:=fun b n e=>by rw[e,hP] at n;cases n
 have hc:H c'=none:=I.hok.fresh hsz
 have cP:c'≠P:=nP c' hc
 have lt:∀ b o,s.heap.get? b=some o→b≠c':=fun b o e z=>absurd (Heap.lt_size e) (by rw[z];exact Nat.not_lt.mpr hsz)
 have nc:∀ b u,H b=some u→b≠c':=fun b u e z=>by rw[z,hc] at e;cases e
 have up:∀ b,b≠P→b≠c'→upd (upd H P (.tbl (ps++more))) c' (cdO c' q) b=H b:=fun b n1 n2=>by rw[Aj n2,Aj n1]
 refine I.step (ch:=[]) (g':=s.gens) (d':=s.drawn) (fun _ z=>nomatch z) (fun b o _ _ _ e n=>hx b o (nP b n) e) (fun b o _ _ _ e n=>⟨o.slots,hx b o (nP b n) e⟩) (fun b o _ e n=>by rw[up b (nP b n) (lt b o e)];exact n)
  (fun b o _ e=>?_) (fun b xs e=>?_) (fun b o u e=>?_) (fun b ps' e=>?_) (fun m hm=>hm.extBut hx (nP _ I.free)) (fun b u e=>?_) I.bare
 ·by_cases h:b=P
  ·rw[h];exact⟨_,htb⟩
  ·exact⟨o,hx b o h e⟩
 ·rw[up b (fun z=>by rw[z,hP] at e;cases e) (nc b _ e)];exact e
 ·rw[up b (fun z=>by rw[z,hP] at e;cases e) (nc b _ e)];exact e
 ·by_cases h:b=P
  ·rw[h,hP] at e
   cases e
   exact⟨more,by rw[h,Aj (Ne.symm cP),Ae]⟩
  ·exact⟨#[],by rw[up b h (nc b _ e),e];simp⟩
 ·by_cases h1:b=c'
  ·rw[h1,Ae] at e
   cases e
   rw[h1]
   exact AdD hrec
  ·rw[Aj h1] at e
   by_cases h2:b=P
   ·rw[h2,Ae] at e
    cases e
    rw[h2]
    exact htb
   ·rw[Aj h2] at e
    refine(I.hok b u e).stay (fun c v hc' r=>hx c v ?_ r) (fun c r=>?_) fun c xs r=>?_
    ·rcases hc' with z | z
     ·rw[z];exact h2
     ·intro z2;rw[z2,hP] at z;cases z
    ·rw[up c (fun z=>by rw[z,hP] at r;cases r) (nc c _ r)];exact r
    ·rw[up c (fun z=>by rw[z,hP] at r;cases r) (nc c _ r)];exact r
def Bm (mg:Str→Option Value)(base:Heap):Prop:=∃ bm ob,mg "__builtins__" = some (.ref bm)∧bm≠builtinsNs∧base.get? bm=some ob∧ob.cls=.type "module" ∧ ob.dict=some builtinsNs∧ob.data=.plain
theorem AaV{P c:Addr}{q:Str}{params:Arguments}{body:Expr}{scope:Scope}{Acl:Pos}{clos:List (Str × Addr)}{R:Value→Shared→Prop}{E:Value→Shared→Prop}{A:Around}
  (I:Inv X pins σ H s) (tb:Tb P q H) (hcode:X.env.code=.ref c) (C:PySem.W.CodeHd X.base c P) (B:Bm X.mg X.base) (hq:X.env.qual ++ "<lambda>" = q)
  (hdef:defaultsOf params X.env=([],[])) (hcl:closureFor scope X.env=pure clos)
  (k:∀(f c':Addr) (pm ctv:Value) (H':Hp) (s':Shared),Dt H H'→Tb P q H'→H' c'=some (cdO c' q)→s.heap.objs.size≤s'.heap.objs.size →
   Inv X ((f,PySem.W.kla_obj "<lambda>" q params body scope clos pm c' ctv)::pins) σ H' s'→R (.ref f) s') :
  wpAny (model X.prog X.w) A (eval (.Lambda params body scope Acl) X.env) R E s:=by
 refine PySem.W.kla_eval hdef ?_
 rw[hq]
 obtain⟨ps,hP,ht,hc⟩:=tb
 have gP:s.heap.get? P=some (PySem.W.tabObj ps):=I.hok P _ hP
 obtain⟨bm,ob,b1,b2,b3,b4,b5,b6⟩:=B
 have hgP:mainGlobals≠P:=fun e=>by
  obtain⟨o,es,ep,g,d,_⟩:=I.mod.glob
  have z:=(I.bs _ _ g).2
  rw[e,hP] at z
  cases z
 have hbP:bm≠P:=fun e=>by
  have z:=(I.bs _ _ b3).2
  rw[e,hP] at z
  cases z
 have hbG:bm≠mainGlobals:=fun e=>by
  obtain⟨o,es,ep,g,d,_⟩:=I.mod.glob
  rw[e,g] at b3
  cases b3
  rw[d] at b6
  cases b6
 have hB:s.heap.BuiltinsAt X.mg P:=⟨bm,ob,b1,b2,hbG,hbP,I.bk _ _ b3,b4,b5,b6⟩
 have hG:s.heap.Ns mainGlobals X.mg:=I.mod.glob.keeps I.bk
 have fin:∀(H':Hp) (h':Heap) (tk:Nat) (o:Obj),o.isFreed=false→(∀ v,o.data≠.cell v)→s.heap.objs.size≤h'.objs.size→Inv X pins σ H' { s with heap:=h',toks:=tk } →
   Inv X ((h'.objs.size,o)::pins) σ H' { s with heap:=h'.push o,toks:=tk }:=fun H' h' tk o hfr hd hsz J=>by
  have J2:Inv X pins σ H' { s with heap:=h'.push o,toks:=tk }:=J.kept (t':=tk) fun b u e=>Heap.get?_push_of_some _ e
  refine J2.GX fun p hp=>?_
  rcases List.mem_cons.mp hp with rfl | hp
  ·exact⟨Heap.get?_push_size _ hfr,J.hok.fresh (AhX _),Aj0 (Aif I.lt hsz),I.Adf hsz,hd⟩
  ·exact J2.pin p (Ait _ hp)
 have AcN:∀(h':Heap) (o:Obj),s.heap.objs.size≤h'.objs.size→s.heap.objs.size≤(h'.push o).objs.size:=fun h' o h=>by rw[Heap.size_push];exact Nat.le_succ_of_le h
 cases e:codeAmong Acl ps.toList with
 | none =>
  refine PySem.W.kla_makeFunction (mg:=X.mg) (ps:=ps) hcl I.ok.glob hG hcode (C.keeps I.bk) gP ht e hgP hB fun c' ctv h' tk hx hge hlt hrec htb=>?_
  have J:=I.table (tk:=tk) (q:=q) hP hx hge hrec htb
  have hcf:H c'=none:=I.hok.fresh hge
  have nP:P≠c':=fun z=>by rw[z,hcf] at hP;cases hP
  refine k _ c' _ ctv _ _ (fun b o h n=>?_) ⟨_,by rw[Aj nP,Ae],?_,fun pos cv e2=>?_⟩ Ae (AcN h' _ (Ajc (Nat.lt_of_le_of_lt hge hlt))) (fin _ h' tk _ rfl (fun v z=>by cases z) (Ajc (Nat.lt_of_le_of_lt hge hlt)) J)
  ·rw[Aj (fun z=>by rw[z,hcf] at h;cases h),Aj (fun z=>by rw[z,hP] at h;exact n _ (Option.some.inj h).symm)]
   exact h
  ·rw[Array.toList_append]
   exact TriplesOk_snoc _ _ _ _ ht
  ·rw[Array.toList_append] at e2
   rcases Ys _ ht e2 with e3 | e3
   ·obtain⟨c1,z1,z2⟩:=hc _ _ e3
    exact⟨c1,z1,by rw[Aj (fun z=>by rw[z,hcf] at z2;cases z2),Aj (fun z=>by rw[z,hP] at z2;cases z2)];exact z2⟩
   ·exact⟨c',e3,Ae⟩
 | some cv =>
  obtain⟨c1,rfl,hc1⟩:=hc _ _ e
  refine PySem.W.kla_makeFunctionHit (mg:=X.mg) (ps:=ps) hcl I.ok.glob hG hcode (C.keeps I.bk) gP ht e hB fun ctv h' tk hk hsz=>?_
  exact k _ c1 _ ctv H _ (Al.refl H).toT ⟨ps,hP,ht,hc⟩ hc1 (AcN h' _ hsz) (fin H h' tk _ rfl (fun v z=>by cases z) hsz (I.kept (t':=tk) hk))
def AeP (X:Cx)(A:Around)(N:List Str)(env:Env)(s:Shared)(H:Hp):Cx where
 prog:=X.prog
 w:=X.w
 K:=X.K
 mg:=X.mg
 base:=X.base
 A:=A.deeper env
 N:=N
 s₀:=s
 H₀:=H
 env:=env
 outer:=X.stack
 stack:=env::X.stack
 ex:=[]
 calm:=true
 fn:=fun _=>false
 pn:=[]
 xe:=fun _ _=>False
theorem AaW{A:Around}{f c' cc:Addr}{q x nm:Str}{params:Arguments}{body:Expr}{scope:Scope}{pm ctv u:Value}{j:Nat}{y v:V}{Q:VK}{t:TE}{E:Value→Shared→Prop}
  (I:Inv X pins σ H s) (hA:A.frames=some X.stack) (hd:A.handled=none) (hroom:A.depth<recursionLimit)
  (hf:(f,PySem.W.kla_obj "<lambda>" q params body scope [(nm,cc)] pm c' ctv)∈pins) (hc:H c'=some (cdO c' q))
  (hN:X.N[j]?=some nm) (hv:σ[j]?=some (some v)) (hk:X.env.kindOf nm=some .cell) (hcc:X.env.cells.lookup nm=some cc)
  (hnames:scope.names=[(x,.local),(nm,.free)]) (hxn:x≠nm) (hkind:scope.kind=.function) (hco:scope.isCoroutine=false) (hgen:scope.isGenerator=false)
  (hbind:∀ w:Value,bindArgs (PySem.W.kla_fn "<lambda>" q params body scope [(nm,cc)] pm (.ref c') ctv) ⟨[w],[]⟩=pure [(x,w)])
  (ru:RelV y u) (hb:∀(env:Env) (s:Shared) (H:Hp),env.scope=scope→PE (AeP X A [x,nm] env s H) body t) (h:t [some y,some v] H Q) :
  wpAny (model X.prog X.w) A (call (.ref f) [u]) (EP X pins σ Q) E s:=by
 have hx1:scope.names.lookup x=some .local:=by rw[hnames];simp
 have hx2:scope.names.lookup nm=some .free:=by rw[hnames,Aix,beq_false_of_ne (Ne.symm hxn)];simp
 have hpf:=I.pin _ (Ait _ hf)
 have hrec:s.heap.CodeRec (.ref c') q:=(I.hok c' _ hc).1
 have vis:Vis X.env.scope nm:=.inr (.inl hk)
 obtain⟨m,hns,hl⟩:=I.loc
 obtain⟨u',rv,lk⟩:=hl j nm v hN hv vis
 have hcell:s.heap.IsCell cc (some u'):=by
  rcases lk with ⟨z,_⟩ | ⟨_,c2,e2,z⟩
  ·have:some NameKind.local=some NameKind.cell:=z.symm.trans hk
   cases this
  ·rw[hcc] at e2
   cases e2
   exact z
 refine wpAny_call (codeAny_mono (R:=fun r s'=>match r with | .ok (.ret u)=>EP X pins σ Q u s' | _=>False)
  (PySem.W.kla_callFunE hroom hpf.1 rfl hco hgen rfl hrec ?_) fun r s' hq=>?_)
 ·rw[hbind u]
  refine wpAny_pure (wpAny_newFunctionEnv (fun p hp=>?_) (fun p hp=>?_) (fun h₁ hn hsb=>⟨I.nolimit.fresh _ hsb,?_⟩) hkind)
  ·rw[show(PySem.W.kla_fn "<lambda>" q params body scope [(nm,cc)] pm (.ref c') ctv).scope=scope from rfl,hnames] at hp
   rcases List.mem_cons.mp hp with rfl | hp
   ·intro z;cases z
   ·rw[List.mem_singleton.mp hp];intro z;cases z
  ·rw[List.mem_singleton.mp hp];exact hx1
  ·have hk₁:∀ b o,s.heap.get? b=some o→h₁.get? b=some o:=fun b o e=>hsb.extBut b o (Aig (Heap.lt_size e)) (Heap.get?_push_of_some _ e)
   show codeAny _ _ (.expr body (PySem.W.envX q scope s.heap.objs.size f (.ref c') [(nm,cc)])) _ _
   have one:∀ z c,([(nm,cc)]:List (Str × Addr)).lookup z=some c→z=nm∧c=cc:=fun z c e=>by
    rw[Aix] at e
    cases hz:z == nm with
    | true=>rw[hz] at e;exact⟨eq_of_beq hz,(Option.some.inj e).symm⟩
    | false=>rw[hz] at e;cases e
   have J:Inv (AeP X A [x,nm] (PySem.W.envX q scope s.heap.objs.size f (.ref c') [(nm,cc)]) s H) [] [some y,some v] H { s with heap:=h₁,toks:=s.toks+[(x,u)].length }:=by
    refine⟨⟨I.ok.mod,hkind,rfl,rfl,AhX _,fun a b c e1 e2=>(one _ _ e1).1.trans (one _ _ e2).1.symm,fun z hz=>?_,fun z c e1 e2=>Bool.noConfusion e1,fun _=>hd,Around.frames_deeper hA,.inr ⟨rfl,rfl⟩,
     fun b z=>absurd (show b∈([]:List Addr) from z) (by simp),I.bs,Ais I.ok.bsz I.sz,fun b _ _ z=>absurd (show b∈([]:List Addr) from z) (by simp),fun b z=>absurd (show b∈([]:List Addr) from z) (by simp),I.stack,I.U4⟩,
     rfl,I.bare,Un.kept hk₁,⟨_,hn,fun i n v' e1 e2 e3=>?_⟩,fun z c e=>?_,I.hok.fresh (AhX _),fun z c e=>?_,fun p hp=>absurd (show p∈([]:List (Addr × Obj)) from hp) (by simp),I.hok.kept hk₁,rfl⟩
    ·have hz':scope.names.lookup z=some .cell∨scope.names.lookup z=some .free:=hz
     have hm:(z,NameKind.cell)∈scope.names∨(z,NameKind.free)∈scope.names:=hz'.imp PySem.mem_of_lookup PySem.mem_of_lookup
     rw[hnames] at hm
     have hzn:z=nm:=by
      rcases hm with hm | hm
      ·rcases List.mem_cons.mp hm with e | e
       ·cases e
       ·cases List.mem_singleton.mp e
      ·rcases List.mem_cons.mp hm with e | e
       ·cases e
       ·exact(Prod.mk.inj (List.mem_singleton.mp e)).1
     exact⟨cc,by rw[hzn];show([(nm,cc)]:List (Str × Addr)).lookup nm=_;simp⟩
    ·match i,e1,e2 with
     | 0,e1,e2 =>
      cases e1
      cases e2
      exact⟨u,ru,.inl ⟨hx1,by simp⟩⟩
     | 1,e1,e2 =>
      cases e1
      cases e2
      obtain⟨o,g,d⟩:=hcell
      exact⟨u',rv,.inr ⟨.inr hx2,cc,by show([(nm,cc)]:List (Str × Addr)).lookup nm=_;simp,o,hk₁ _ _ g,d⟩⟩
     | i+2,e1,e2=>cases e1
    ·obtain⟨o,g,d⟩:=hcell
     rw[(one z c e).2]
     exact⟨some u',o,hk₁ _ _ g,d⟩
    ·rw[(one z c e).2]
     exact I.K7 nm cc hcc
   refine PySem.W.kla_codeExpr (wpAny_mono (hb (PySem.W.envX q scope s.heap.objs.size f (.ref c') [(nm,cc)]) s H rfl [] _ [some y,some v] H Q J h) (fun u2 s' hq=>?_) fun _ _ z=>z.elim)
   obtain⟨v',H',J',r',q'⟩:=hq
   exact I.after ⟨v',H',J'.os,J'.bare,J'.base,J'.hok,r',q'⟩
 ·cases r with
  | error e=>exact False.elim hq
  | ok fl =>
   cases fl with
   | ret u=>exact hq
   | next=>exact False.elim hq
   | brk=>exact False.elim hq
   | cont=>exact False.elim hq
end
open PySem PySem.Spec PyProof.Rows
section
variable {prog:Program}{w:World}{A:Around}{E:Value→Shared→Prop}{s:Shared}
theorem W6{Q:List Value→Shared→Prop}{r:Addr}{a b c:Int}{t u v:Tok}{n:Nat}(hh:A.handled=none)(hr:IsRange s.heap r a b c t u v)(hsmall:Builtin.Range.small a b c=true)
  (hn:Builtin.Range.rangeSize a b c=n) (hlen:n≤2 ^ 24)
  (hQ:∀ h' tk acc,(∀ b o,s.heap.get? b=some o→h'.get? b=some o)→s.heap.objs.size≤h'.objs.size→ItemsOf (fun i v=>∃ t,v=.int (a+i*c) t) acc n→Q acc.toList { s with heap:=h',toks:=tk }) :
  wpAny (model prog w) A (collect (.ref r)) Q E s:=by
 unfold collect
 refine wpAny_bind (wpAny_runValue (codeAny_builtin F.entry_proto_collect ?_))
 rw[Around.under_plainId F.plain_proto_collect _]
 show wpAny _ A.in1 (newList [] >>= fun l=>again (.builtin "list.__iadd__" ⟨[l,.ref r],[]⟩)) _ _ s
 refine wpAny_bind (wpAny_newObj_type ?_)
 refine wpAny_pure ⟨plainId_quiet F.plain_list_iadd _,codeAny_builtin F.entry_list_iadd ?_⟩
 rw[Around.under_plainId F.plain_list_iadd _]
 have hS₁:(s.heap.push { cls:=.type "list", data:=.seq ([]:List Value).toArray }).get? s.heap.objs.size=some { cls:=.type "list", data:=.seq ([]:List Value).toArray }:=Heap.get?_push_size _ rfl
 show wpAny _ A.in1 (Builtin.List.listExtendWith (.ref s.heap.objs.size) (.ref r) (.ref s.heap.objs.size)) _ _ _
 have fin:∀(r:Result) (s':Shared),(∃ h' tk acc' c',r=.ok (.ret (.ref s.heap.objs.size))∧s'={ s with heap:=h',toks:=tk }∧(∀ b o,b≠s.heap.objs.size→(s.heap.push { cls:=.type "list", data:=.seq ([]:List Value).toArray }).get? b=some o→h'.get? b=some o) ∧
   h'.get? s.heap.objs.size=some { cls:=.type "list", dict:=none,data:=.seq acc' c',slots:=#[] }∧ItemsOf (fun i v=>∃ t,v=.int (a+i*c) t) acc' n)→∃ h' tk acc' c',r=.ok (.ret (.ref s.heap.objs.size))∧s'={ s with heap:=h',toks:=tk } ∧
   h'.get? s.heap.objs.size=some { cls:=.type "list", dict:=none,data:=.seq acc' c',slots:=#[] }∧Q acc'.toList s':=by
  rintro r s' ⟨h',tk,acc',c',e1,e2,hk,hS',hacc⟩
  refine⟨h',tk,acc',c',e1,e2,hS',?_⟩
  rw[e2]
  exact hQ h' tk acc' (fun b o e=>hk b o (Aig (Heap.lt_size e)) (Heap.get?_push_of_some _ e)) (Ajc (Heap.lt_size hS')) hacc
 refine wpAny_mono (wpAny_extend_range (s:={ s with heap:=s.heap.push { cls:=.type "list", data:=.seq ([]:List Value).toArray } }) (R:=fun r s'=>∃ h' tk acc' c',r=.ok (.ret (.ref s.heap.objs.size))∧s'={ s with heap:=h',toks:=tk }∧(∀ b o,b≠s.heap.objs.size→(s.heap.push { cls:=.type "list", data:=.seq ([]:List Value).toArray }).get? b=some o→h'.get? b=some o) ∧
   h'.get? s.heap.objs.size=some { cls:=.type "list", dict:=none,data:=.seq acc' c',slots:=#[] }∧ItemsOf (fun i v=>∃ t,v=.int (a+i*c) t) acc' n) hh (Heap.get?_push_of_some _ hr) hsmall hn hlen s.heap.objs.size (.ref s.heap.objs.size) 0 hS₁
  fun h' tk acc' c' hk hS' hacc=>⟨h',tk,acc',c',rfl,rfl,hk,hS',hacc⟩) (fun f s' hf=>?_) fun e s' hf=>?_
 ·cases f with
  | done f =>
   obtain⟨h',tk,acc',c',e1,e2,hS',q⟩:=fin _ _ hf
   cases e1
   subst e2
   show wpAny _ A (load s.heap.objs.size >>= _) _ _ _
   exact wpAny_bind (wpAny_load hS' (wpAny_pure q))
  | again c' =>
   refine⟨hf.1,codeAny_mono hf.2 fun r s' hr=>?_⟩
   obtain⟨h',tk,acc',c',e1,e2,hS',q⟩:=fin _ _ hr
   subst e1 e2
   show wpAny _ A (load s.heap.objs.size >>= _) _ _ _
   exact wpAny_bind (wpAny_load hS' (wpAny_pure q))
 ·obtain⟨h',tk,acc',c',e1,_⟩:=hf
  cases e1
end
theorem Aag{items:List Value}{ns:List Int}(hi:IntsAre items ns){g:Int→Int}{keys:Array Value}(hk:IntsAre keys.toList (ns.map g)){p:Keyed}(hp:p∈keys.toList.zip items) :
  ∃ z,z∈ns∧numOf p.2=z∧numOf p.1=g z∧∃ t,p.2=.int z t:=by
 obtain⟨i,hl,e⟩:=Aiu hp
 have h1:=hi.length
 have h2:=hk.length
 rw[AhZ] at h2
 rw[List.length_zip] at hl
 have hn:i<ns.length:=by omega
 obtain⟨t1,e1⟩:=hi.get i ns[i] (AhY hn)
 obtain⟨t2,e2⟩:=hk.get i (g ns[i]) (by rw[Aip,AhY hn];rfl)
 rw[List.getElem_zip] at e
 have e1':items[i]'(by omega)=.int ns[i] t1:=Option.some.inj ((AhY _).symm.trans e1)
 have e2':keys.toList[i]'(by omega)=.int (g ns[i]) t2:=Option.some.inj ((AhY _).symm.trans e2)
 rw[e1',e2'] at e
 subst e
 exact⟨ns[i],Aie hn,rfl,rfl,t1,rfl⟩
theorem Acm{items:List Value}{ns:List Int}(hi:IntsAre items ns){g:Int→Int}{keys:Array Value}(hk:IntsAre keys.toList (ns.map g)){xs:Array Keyed}(hp:xs.Perm (keys.zip items.toArray))(hs:Stab.St xs xs.size) :
  ∃ ns':List Int,IntsAre (xs.map (·.2)).toList ns'∧ns'.Perm ns∧ns'.Pairwise (fun x y=>g x<g y∨(g x=g y∧x<y)):=by
 have hl:xs.toList.Perm (keys.toList.zip items):=by rw[← ksk_zip];exact Array.perm_iff_toList_perm.mp hp
 have al:∀ p∈xs.toList,∃ z,z∈ns∧numOf p.2=z∧numOf p.1=g z∧∃ t,p.2=.int z t:=fun p h=>Aag hi hk (hl.mem_iff.mp h)
 have len:keys.toList.length=items.length:=by rw[hk.length,AhZ,hi.length]
 refine⟨xs.toList.map fun p=>numOf p.2,?_,?_,?_⟩
 ·rw[Array.toList_map]
  have:=intsAre_map (xs.toList.map (·.2)) fun v hv=>by
   obtain⟨p,hp',rfl⟩:=List.mem_map.mp hv
   obtain⟨z,_,_,_,t,e⟩:=al p hp'
   exact⟨z,t,e⟩
  rw[Ajr] at this
  exact this
 ·have h1:=hl.map fun p:Keyed=>numOf p.2
  have h2:(keys.toList.zip items).map (fun p:Keyed=>numOf p.2)=ns:=by
   rw[← hi.nums,show(fun p:Keyed=>numOf p.2)=numOf∘Prod.snd from rfl,← Ajr,List.map_snd_zip (by omega)]
  rw[h2] at h1
  exact h1
 ·rw[AiE,List.pairwise_iff_getElem]
  intro i j h1 h2 hij
  have h1':i<xs.size:=by simpa using h1
  have h2':j<xs.size:=by simpa using h2
  have q:=hs i j hij h2'
  obtain⟨z1,_,a1,b1,_⟩:=al xs.toList[i] (Aie h1)
  obtain⟨z2,_,a2,b2,_⟩:=al xs.toList[j] (Aie h2)
  rw[a1,a2]
  unfold Stab.Lx at q
  rw[K_eq h1',K_eq h2'] at q
  unfold Stab.V at q
  rw[getElem?_pos xs i h1',getElem?_pos xs j h2'] at q
  simp only [Array.getElem_toList] at a1 a2 b1 b2
  simp only [a1,a2,b1,b2] at q
  exact q
theorem Acn{items:List Value}{ns:List Int}(hi:IntsAre items ns)(inc:ns.Pairwise (·<·)){keys:Array Value}(hl:keys.size=items.length):Stab.Inc (keys.zip items.toArray):=by
 intro i j hij hj
 have hz:(keys.zip items.toArray).size=items.length:=by rw[Array.size_zip,hl,Aia,Aj4]
 have h1:=hi.length
 have val:∀ k (hk:k<items.length),Stab.V (keys.zip items.toArray) k=ns[k]'(by omega):=fun k hk=>by
  obtain⟨t,e⟩:=hi.get k ns[k] (AhY (by omega))
  unfold Stab.V
  rw[getElem?_pos (keys.zip items.toArray) k (by omega)]
  simp only [Array.getElem_zip,List.getElem_toArray]
  rw[Option.some.inj ((AhY hk).symm.trans e)]
  rfl
 rw[val i (by omega),val j (by omega)]
 exact List.pairwise_iff_getElem.mp inc i j (by omega) (by omega) hij
section
variable {X:Cx}{A:Around}{pins:List (Addr × Obj)}{σ:St}{E:Value→Shared→Prop}{a kS f:Addr}{items:List Value}{ns:List Int}{g:Int→Int}{e1:Nat}{Pst:PySem.Fin→Shared→Prop}
theorem W7{H:Hp}{s:Shared}{st:SortSt}{keys:Array Value}(hi:IntsAre items ns)(h64:ns.length<64)(hk:IntsAre keys.toList (ns.map g))
  (I:Inv X ((a,seqObj "list" #[] e1)::pins) σ (upd H kS (.lst (vI (ns.map g)))) s) (hkS:H kS=none) (a0:X.s₀.heap.objs.size≤a) (aC:∀ x c,X.env.cells.lookup x=some c→c≠a) (aP:∀ p∈X.pn++pins,p.1≠a)
  (hp:(arrOf st).Perm (keys.zip items.toArray)) (hs:Stab.St (arrOf st) (arrOf st).size) (hfl:failedOf st=none)
  (k:∀(H':Hp) (s':Shared) (ns':List Int),Al H H'→H a=none→H' a=some (.lst (vI ns'))→ns'.Perm ns→ns'.Pairwise (fun x y=>g x<g y∨(g x=g y∧x<y))→Inv X pins σ H' s'→Pst (.done (.ret .none)) s') :
  wpAny (model X.prog X.w) A (ksk_tail a false e1 (.ref kS) st) Pst E s:=by
 have hsz:sizeLine=16777216:=sizeLine_eq
 obtain⟨ns',o1,o2,o3⟩:=Acm hi hk hp hs
 have pa:=I.pin (a,seqObj "list" #[] e1) (Ait _ Aii)
 obtain⟨ga,na,aL,aF,_⟩:=pa
 have hak:a≠kS:=fun z=>by
  have na':upd H kS (.lst (vI (ns.map g))) a=none:=na
  rw[z,Ae] at na'
  cases na'
 have hHa:H a=none:=by
  have na':upd H kS (.lst (vI (ns.map g))) a=none:=na
  rw[Aj hak] at na'
  exact na'
 obtain⟨z,its,n,rv,hl,gk⟩:=I.Wr (l:=kS) Ae
 have hil:its.length=ns.length:=by rw[← hl,Ao,AhZ]
 have s1:=Heap.SameBut.update s.heap kS (Obj.mapSeq fun _=>(#[]:Array Value))
 have I1:Inv X ((a,seqObj "list" #[] e1)::pins) σ (upd (upd H kS (.lst (vI (ns.map g)))) kS (.lst [])) { s with heap:=s.heap.update kS (Obj.mapSeq fun _=>(#[]:Array Value)),toks:=s.toks } :=
  I.Adx (its':=[]) (f:=fun _=>#[]) Ae gk rfl .nil (Aik _)
 rw[YS] at I1
 have ga1:(s.heap.update kS (Obj.mapSeq fun _=>(#[]:Array Value))).get? a=some (seqObj "list" #[] e1):=(s1.2 a hak).trans ga
 have osz:((arrOf st).map (·.2)).size=ns'.length:=by rw[← o1.length,Array.length_toList]
 have o2l:=o2.length_eq
 unfold ksk_tail
 try dsimp only
 refine wpAny_bind (listUpdate_at gk rfl ?_ (by rw[Aia];omega) (Aik _))
 refine wpAny_bind (wpAny_letGo ?_)
 refine wpAny_bind (seqEpoch_at ga1 rfl ?_)
 refine wpAny_bind (listUpdate_at ga1 rfl ?_ (Aik _) (by simp only [Ain,if_false];rw[osz];omega))
 rw[hfl]
 simp only [bne_self_eq_false,Ain,if_false]
 refine wpAny_pure ?_
 have I1':Inv X pins σ (upd H kS (.lst [])) { s with heap:=s.heap.update kS (Obj.mapSeq fun _=>(#[]:Array Value)),toks:=s.toks }:=I1.GX fun p hp=>I1.pin p (Ait _ (Aij _ hp))
 have ha1:upd H kS (.lst []) a=none:=by rw[Aj hak];exact hHa
 generalize hh1:s.heap.update kS (Obj.mapSeq fun _=>(#[]:Array Value))=h1 at ga1 I1' ⊢
 have s2:=Heap.SameBut.update h1 a (Obj.mapSeq fun _=>(arrOf st).map (·.2))
 obtain⟨c2,hc2⟩:∃ c2,(h1.update a (Obj.mapSeq fun _=>(arrOf st).map (·.2))).get? a=some (seqObj "list" ((arrOf st).map (·.2)) c2):=⟨_,get?_update_seq ga1 fun _=>(arrOf st).map (·.2)⟩
 have nit:∀ b u,upd H kS (.lst []) b=some u→b≠a:=fun b u e z=>by rw[z,ha1] at e;cases e
 have J:Inv X pins σ (upd (upd H kS (.lst [])) a (.lst (vI ns'))) { s with heap:=h1.update a (Obj.mapSeq fun _=>(arrOf st).map (·.2)),toks:=s.toks }:=by
  refine Inv.step (s:={ s with heap:=h1,toks:=s.toks }) I1' (g':=s.gens) (d':=s.drawn) (ch:=[a]) (fun b hb=>?_) (fun b o _ _ hc e _=>(s2.2 b (fun z=>hc (by simp[z]))).trans e) (fun b o _ _ hc e _=>⟨o.slots,(s2.2 b (fun z=>hc (by simp[z]))).trans e⟩)
   (fun b o hc e n=>by rw[Aj (fun z=>hc (by simp[z]))];exact n) (fun b o hc e=>⟨o,(s2.2 b (fun z=>hc (by simp[z]))).trans e⟩) (fun b xs e=>by rw[Aj (nit b _ e)];exact e) (fun b o u e=>by rw[Aj (nit b _ e)];exact e)
   (fun b ps e=>⟨#[],by rw[Aj (nit b _ e),e];simp⟩) (fun m hm=>hm.sameBut s2 (Ne.symm aL)) (fun b u e=>?_) I1'.bare
  ·have e:b=a:=by simpa using hb
   rw[e]
   exact⟨.inr a0,aL,aC,aP⟩
  ·by_cases hb:b=a
   ·rw[hb,Ae] at e
    cases e
    rw[hb]
    exact⟨by rw[Ao];omega,((arrOf st).map (·.2)).toList,c2,Jx o1,hc2⟩
   ·rw[Aj hb] at e
    refine(I1'.hok b u e).stay (fun c v hc q=>(s2.2 c ?_).trans q) (fun c q=>by rw[Aj (nit c _ q)];exact q) fun c xs q=>by rw[Aj (nit c _ q)];exact q
    rcases hc with z | z
    ·rw[z];exact hb
    ·exact nit c _ z
 refine k _ _ ns' (fun b o h=>?_) hHa Ae o2 o3 J
 rw[Aj (fun z=>by rw[z,hHa] at h;cases h),Aj (fun z=>by rw[z,hkS] at h;cases h)]
 exact h
theorem Aco{H:Hp}{s:Shared}{keys:Array Value}(hi:IntsAre items ns)(inc:ns.Pairwise (·<·))(h64:ns.length<64)(hk:IntsAre keys.toList (ns.map g))
  (I:Inv X ((a,seqObj "list" #[] e1)::pins) σ (upd H kS (.lst (vI (ns.map g)))) s) (hkS:H kS=none) (a0:X.s₀.heap.objs.size≤a) (aC:∀ x c,X.env.cells.lookup x=some c→c≠a) (aP:∀ p∈X.pn++pins,p.1≠a)
  (k:∀(H':Hp) (s':Shared) (ns':List Int),Al H H'→H a=none→H' a=some (.lst (vI ns'))→ns'.Perm ns→ns'.Pairwise (fun x y=>g x<g y∨(g x=g y∧x<y))→Inv X pins σ H' s'→Pst (.done (.ret .none)) s') :
  wpAny (model X.prog X.w) A (ksk_end a false items.toArray e1 (.ref kS) keys) Pst E s:=by
 have h1:=hi.length
 have hsz:keys.size=items.length:=by
  have h2:=hk.length
  rw[Array.length_toList,AhZ] at h2
  omega
 have hzs:(keys.zip items.toArray).size=items.length:=by rw[Array.size_zip,hsz,Aia,Aj4]
 unfold ksk_end
 try dsimp only
 simp only [Ain,if_false]
 by_cases h2:items.toArray.size<2
 ·rw[if_pos h2,if_pos h2]
  refine wpAny_bind (wpAny_pure ?_)
  rw[StateT.run_pure]
  refine wpAny_bind (wpAny_pure ?_)
  try dsimp only
  refine W7 (st:=SortSt.mk' general' (keys.zip items.toArray) #[] 7 none) hi h64 hk I hkS a0 aC aP (Array.Perm.refl _) ?_ rfl k
  intro i j hij hj
  have hj2:j<(keys.zip items.toArray).size:=hj
  rw[hzs] at hj2
  rw[Aia] at h2
  omega
 ·rw[if_neg h2,if_neg h2]
  rw[Aia] at h2
  rw[ksk_kind hk (by rw[hsz];omega)]
  refine wpAny_bind (wpAny_pure ?_)
  refine wpAny_bind (wpAny_mono (Stab.W5 (a₀:=keys.zip items.toArray) (st:=SortSt.mk' oneType' (keys.zip items.toArray) #[] 7 none)
   (Q:=fun _ st'=>(arrOf st').Perm (keys.zip items.toArray)∧failedOf st'=none∧Stab.St (arrOf st') (keys.zip items.toArray).size)
   (ksk_intKeys hk) (Acn hi inc hsz) ⟨Array.Perm.refl _,rfl,rfl,rfl⟩ rfl (by rw[hzs];omega) (by rw[hzs];omega) fun st' a1 a2 a3=>⟨a1,a2,a3⟩) ?_ fun _ _ e=>e)
  rintro⟨⟨⟩,st'⟩ s' ⟨rfl,hp,hf,hs⟩
  try dsimp only
  exact W7 hi h64 hk I hkS a0 aC aP hp (by rw[hp.size_eq];exact hs) hf k
theorem AaX{H:Hp}{s:Shared}{n0:Nat}(I:Inv X pins σ H s)(ha:H a=none)(hoa:s.heap.get? a=some (seqObj "list" items.toArray n0)) (a0:X.s₀.heap.objs.size≤a) (aL:a≠X.env.locals) (aF:a∉X.fs)
  (aC:∀ x c,X.env.cells.lookup x=some c→c≠a) (aP:∀ p∈X.pn++pins,p.1≠a) (hi:IntsAre items ns) (inc:ns.Pairwise (·<·)) (h64:ns.length<64)
  (turn:∀(z:Int) (t:Tok) (pl:List (Addr × Obj)) (H':Hp) (s':Shared),z∈ns→Al H H'→Inv X (pl++pins) σ H' s' →
   wpAny (model X.prog X.w) A (call (.ref f) [.int z t]) (fun u s''=>(∃ t',u=.int (g z) t')∧Inv X (pl++pins) σ H' s'') (fun _ _=>False) s')
  (k:∀(H':Hp) (s':Shared) (ns':List Int),Al H H'→H a=none→H' a=some (.lst (vI ns'))→ns'.Perm ns→ns'.Pairwise (fun x y=>g x<g y∨(g x=g y∧x<y))→Inv X pins σ H' s'→Pst (.done (.ret .none)) s') :
  wpAny (model X.prog X.w) A (ksk_tree a (.ref f) false) Pst E s:=by
 have hsz:sizeLine=16777216:=sizeLine_eq
 have hl:=hi.length
 have s1:=Heap.SameBut.update s.heap a (Obj.mapSeq fun _=>(#[]:Array Value))
 obtain⟨e1,ho1⟩:∃ e1,(s.heap.update a (Obj.mapSeq fun _=>(#[]:Array Value))).get? a=some (seqObj "list" #[] e1):=⟨_,get?_update_seq hoa fun _=>#[]⟩
 have alt:a<s.heap.objs.size:=Heap.lt_size hoa
 unfold ksk_tree
 refine wpAny_bind (listItems_at hoa rfl ?_)
 refine wpAny_bind (listUpdate_at hoa rfl ?_ (by rw[Aia];omega) (Aik _))
 refine wpAny_bind (seqEpoch_at ho1 rfl ?_)
 refine wpAny_bind (wpAny_newTuple ?_ (by show items.length≤_;omega))
 refine wpAny_bind (wpAny_newList ?_ (Aik _))
 refine wpAny_holding ?_
 have I1:Inv X pins σ H { s with heap:=s.heap.update a (Obj.mapSeq fun _=>(#[]:Array Value)),toks:=s.toks }:=I.turned (it:=a) (fun b o hb e=>(s1.2 b hb).trans e) ha aL (.inr a0) aC aP
 have I2:Inv X pins σ H { s with heap:=(s.heap.update a (Obj.mapSeq fun _=>(#[]:Array Value))).push (seqObj "tuple" items.toArray 0),toks:=s.toks }:=I1.kept (t':=s.toks) fun b u e=>Heap.get?_push_of_some _ e
 have I3:=I2.Ady (its:=[]) (ys:=[]) (t':=s.toks) .nil (Aik _)
 have ho3:=Heap.get?_push_of_some { cls:=.type "list", data:=.seq ([]:List Value).toArray } (Heap.get?_push_of_some (seqObj "tuple" items.toArray 0) ho1)
 have hkn:=I2.fresh
 dsimp only at I3 ho3 hkn ⊢
 generalize hkS:((s.heap.update a (Obj.mapSeq fun _=>(#[]:Array Value))).push (seqObj "tuple" items.toArray 0)).objs.size=kS at I3 hkn ⊢
 have hak:a≠kS:=by
  rw[← hkS,size_push',Heap.size_update]
  exact Aig (AjJ alt)
 have I4:Inv X ((a,seqObj "list" #[] e1)::pins) σ (upd H kS (.lst (vI ((ns.map g).take 0)))) { s with heap:=((s.heap.update a (Obj.mapSeq fun _=>(#[]:Array Value))).push (seqObj "tuple" items.toArray 0)).push { cls:=.type "list", data:=.seq ([]:List Value).toArray },toks:=s.toks } :=
  I3.GX fun p hp=>by
   rcases List.mem_cons.mp hp with rfl | hp
   ·exact⟨ho3,by rw[Aj hak];exact ha,aL,aF,fun v z=>by cases z⟩
   ·exact I3.pin p (Ait _ hp)
 have AeQ:∀ l,Al H (upd H kS (.lst l)):=fun l b o h=>by rw[Aj (fun z=>by rw[z,hkn] at h;cases h)];exact h
 unfold ksk_rest
 refine wpAny_bind (wpAny_rule ?_)
 first
  | rw[List.forIn_toArray]
  | (rw[← Array.forIn_toList];simp only [List.toList_toArray])
  | rw[← Array.forIn_toList]
 refine wpAny_bind (ksk_fold (fun i s'=>Inv X ((a,seqObj "list" #[] e1)::pins) σ (upd H kS (.lst (vI ((ns.map g).take i)))) s') items 0 _ I4 ?step ?done)
 case step =>
  rintro j x s' hx J
  simp only [AiD] at J ⊢
  have hj:j<items.length:=(List.getElem?_eq_some_iff.mp hx).1
  obtain⟨z,t,rfl,hz⟩:=hi.at j x hx
  refine wpAny_bind (wpAny_attempt (wpAny_mono (turn z t [(a,seqObj "list" #[] e1)] _ s' (Aiv hz) (AeQ _) J) (fun u s'' he=>?_) fun _ _ hF=>hF.elim))
  obtain⟨⟨t',rfl⟩,J2⟩:=he
  try dsimp only
  obtain⟨_,its,n,rv,hl2,gk⟩:=J2.Wr (l:=kS) Ae
  have hil:its.length≤ns.length:=by
   rw[← hl2,Ao,Aib,AhZ]
   exact Nat.min_le_right _ _
  refine wpAny_bind (listUpdate_at gk rfl ?_ (by rw[Aia];omega) (Ais (Aje (Array.size_push ..)) (by rw[Aia];omega)))
  refine wpAny_pure ⟨rfl,?_⟩
  have ek:(ns.map g).take (j+1)=(ns.map g).take j++[g z]:=by rw[Ai8,Aip,hz];rfl
  have J3:=J2.Adx (its':=its++[.int (g z) t']) (ys:=vI ((ns.map g).take (j+1))) (f:=(·.push (.int (g z) t'))) (t':=s''.toks) Ae gk (by simp) (by
   rw[ek]
   unfold vI
   rw[Aio]
   exact rv.append (.cons ⟨t',rfl⟩ .nil)) (by rw[Ao,Aib,AhZ];have:=Nat.min_le_right (j+1) ns.length;omega)
  rw[YS] at J3
  exact J3
 case done =>
  rintro s' J
  have e3:(ns.map g).take (0+items.length)=ns.map g:=Aiy (by rw[AhZ];omega)
  rw[e3] at J
  obtain⟨_,its,n,rv,hl2,gk⟩:=J.Wr (l:=kS) Ae
  try dsimp only
  refine wpAny_bind (listItems_at gk rfl ?_)
  exact Aco hi inc h64 (by simpa using intsAre_of rv) J hkn a0 aC aP k
end
open PySem PySem.Spec PyProof.Rows
section
variable {X:Cx}{K:PySem.W.Frag}
def AaY (K:PySem.W.Frag)(P:Addr)(q:Str)(j:Nat)(te:TE):TE:=fun σ H Q=>te σ H fun x H1=>∃(p:Addr) (lo hi:Int) (n:Nat) (a:Addr) (ks:List Int),x=.ref p∧H1 p=some (Yp p lo hi 1)∧Builtin.Range.small lo hi 1=true ∧
 Builtin.Range.rangeSize lo hi 1=(n:Int)∧n<64∧σ[j]?=some (some (.ref a))∧SqL K H1 a (vI ks)∧0≤lo∧lo.toNat+n≤ks.length∧Tb P q H1 ∧
 ∀ l H2 ns',Dt H1 H2→Tb P q H2→H1 l=none→H2 l=some (.lst (vI ns'))→ns'.Perm (Rx lo 1 n) →
  ns'.Pairwise (fun x y => -(ks.getD x.toNat 0) < -(ks.getD y.toNat 0)∨(-(ks.getD x.toNat 0) = -(ks.getD y.toNat 0)∧x<y))→Q (.ref l) H2
theorem AaZ(lo:Int)(n:Nat):(Rx lo 1 n).Pairwise (·<·):=by
 unfold Rx
 rw[AiE]
 exact List.pairwise_lt_range.imp fun {a b} h=>by omega
theorem O2(lo:Int)(n:Nat):(Rx lo 1 n).length=n:=by unfold Rx;rw[AhZ,Aih]
theorem Aah{lo:Int}{n:Nat}{acc:Array Value}(h:ItemsOf (fun i v=>∃ t,v=.int (lo+i*1) t) acc n):IntsAre acc.toList (Rx lo 1 n):=by
 refine intsAre_of (Wv _ _ (by rw[AhZ,O2,Array.length_toList,h.1]) fun i x u e1 e2=>?_)
 obtain⟨z,hz1,rfl⟩:=JN e1
 obtain⟨t',rfl⟩:=h.2 i u (by rw[← Array.getElem?_toList];exact e2)
 have hin:i<n:=by
  have:=(List.getElem?_eq_some_iff.mp e1).1
  rwa [AhZ,O2] at this
 unfold Rx at hz1
 rw[Aip,Aj5 hin] at hz1
 cases hz1
 exact⟨t',rfl⟩
theorem Aba{scope:Scope}{env:Env}{x nm:Str}{cc:Addr}(hnames:scope.names=[(x,.local),(nm,.free)])(hcc:env.cells.lookup nm=some cc):closureFor scope env=pure [(nm,cc)]:=by
 have hc:cellOf env nm=pure cc:=by unfold cellOf;rw[hcc]
 unfold closureFor
 rw[hnames]
 simp only [Aj2,List.forIn_nil,hc,pure_bind,show(NameKind.local == NameKind.free)=false from rfl,show(NameKind.free == NameKind.free)=true from rfl,if_true,if_false,Ain]
theorem RW{P c:Addr}{q x nm:Str}{j:Nat}{e:Expr}{te:TE}{p1 pos kp Acl b1 b2 b3 b4:Pos}{params:Arguments}{scope:Scope}
  (hg:Gl X "sorted") (hm:X.mg "sorted" = none) (he:PE X e te) (C:PySem.W.CodeHd X.base c P) (B:Bm X.mg X.base) (hr:Hn 2 X.A) (hcode:X.env.code=.ref c:=by rfl) (hq:X.env.qual ++ "<lambda>" = q:=by rfl)
  (hN:X.N[j]?=some nm:=by rfl) (hkd:X.env.kindOf nm=some .cell:=by rfl) (hnames:scope.names=[(x,.local),(nm,.free)]:=by rfl) (hxn:x≠nm:=by decide) (hkind:scope.kind=.function:=by rfl) (hco:scope.isCoroutine=false:=by rfl) (hgen:scope.isGenerator=false:=by rfl)
  (hdef:defaultsOf params X.env=([],[]):=by rfl)
  (hbind:∀(cc c':Addr) (pm ctv w:Value),bindArgs (PySem.W.kla_fn "<lambda>" q params (.UnaryOp .USub (.Subscript (.Name nm b1) (.Name x b2) b3) b4) scope [(nm,cc)] pm (.ref c') ctv) ⟨[w],[]⟩=pure [(x,w)]:=by intros;rfl)
  (hd1:(x == ("__debug__" : Str))=false:=by decide) (hd2:(x == ("__classdict__" : Str))=false:=by decide) (hd3:(nm == ("__debug__" : Str))=false:=by decide) (hd4:(nm == ("__classdict__" : Str))=false:=by decide)
  (hK:X.K=K:=by rfl) (hc:X.calm=true:=by rfl)
  (hs:backTo pos (starEach [e] X.env)=(false,eval e X.env)::backTo pos (starEach [] X.env):=by rfl)
  (hplain:(backTo pos (starEach [e] X.env)).any (·.1)=false:=by rfl) :
  PE X (.Call (.Name "sorted" p1) [e] [⟨some "key", .Lambda params (.UnaryOp .USub (.Subscript (.Name nm b1) (.Name x b2) b3) b4) scope Acl,kp⟩] pos) (AaY K P q j te):=by
 subst hK
 intro pins s σ H Q I h
 have hsz:sizeLine=16777216:=sizeLine_eq
 refine wpAny_Call_Name_kw (KC I hg hm Q3 ?_ (by decide) (by decide))
 refine callWith_kw ?_ hs hplain rfl rfl
 rw[hs]
 refine Calls.spliced_cons (thn (he pins s σ H _ I h) fun u s1 ⟨y,H1,I1,r1,q1⟩=>Calls.spliced_nil ?_)
 obtain⟨p,lo,hi,n,a,ks,rfl,hp,hsm,hn,h64,hσ,hS,h0,hlen,tb,k⟩:=q1
 cases r1
 obtain⟨cc,hcc⟩:=I1.ok.has nm (.inl hkd)
 refine kws_cons (AaV I1 tb hcode C B hq hdef (Aba hnames hcc) fun f c' pm ctv H2 s2 t2 tb2 hc2 hz2 I2=>kws_nil ?_)
 show wpAny _ _ (call (.builtin "sorted") [.ref p] [(Str.ofString "key", .ref f)]) _ _ _
 refine call_function_entry_kw kind_sorted plain_sorted entry_sorted (ksk_s1 _ _) ?_
 unfold Builtin.«sorted»
 refine wpAny_bind (m:=checkCount "sorted" 1 1 _) (wpAny_pure ?_)
 obtain⟨⟨t,u,v,hrg⟩,_,_⟩:=I2.hok p _ (t2.ext hp)
 refine wpAny_bind (W6 (I2.ok.hd hc) hrg hsm hn (by omega) fun h3 tk3 acc hk3 hz3 hit=>?_)
 have hi3:=Aah hit
 have hl3:acc.toList.length=n:=by rw[hi3.length,O2]
 refine wpAny_bind (wpAny_newList ?_ (by omega))
 have I3:=I2.kept (t':=tk3) (h':=h3.push { cls:=.type "list", data:=.seq acc.toList.toArray }) fun b u e=>Heap.get?_push_of_some _ (hk3 b u e)
 have hoL:(h3.push { cls:=.type "list", data:=.seq acc.toList.toArray }).get? h3.objs.size=some (seqObj "list" acc.toList.toArray 0):=Heap.get?_push_size _ rfl
 have hge:s2.heap.objs.size≤h3.objs.size:=hz3
 have fr2:H2 h3.objs.size=none:=I2.hok.fresh hge
 have fr1:H1 h3.objs.size=none:=I1.hok.fresh (Ais hz2 hge)
 refine wpAny_bind (wpAny_holding (wpAny_call_entry_kw slot_list_sort ⟨_,hoL,rfl⟩ entry_list_sort ?body (ksk_l1 _ _)))
 case body =>
  show wpAny (model X.prog X.w) X.A.in1.in1 (Builtin.«list.sort» ⟨[.ref h3.objs.size],[(Str.ofString "key", .ref f)]⟩) _ _ _
  rw[ksk_t1]
  refine AaX (g:=fun z => -(ks.getD z.toNat 0)) I3 fr2 hoL (Ais I2.sz hge) (Aj0 (Aif I2.lt hge)) (I2.Adf hge) (fun z c e=>?_) (fun pp hpp=>?_) hi3 (AaZ lo n) (by rw[O2];exact h64)
   (fun z t pl H' s' hz sm J=>?_) fun H4 s4 ns' sm ha ha4 pm4 pw4 I4=>⟨_,rfl,?_⟩
  ·obtain⟨v,hv⟩:=I2.cell z c e
   exact Aig (Aif hv.lt hge)
  ·exact Aig (Aif (Heap.lt_size (I2.pin pp hpp).1) hge)
  ·obtain⟨i,hin,ez⟩:∃ i:Nat,i<n∧z=lo+i:=by
    unfold Rx at hz
    obtain⟨i,hi1,hi2⟩:=List.mem_map.mp hz
    exact⟨i,List.mem_range.mp hi1,by omega⟩
   have hzl:z.toNat<ks.length:=by omega
   have hx2:scope.names.lookup nm=some .free:=by rw[hnames,Aix,beq_false_of_ne (Ne.symm hxn)];simp
   have hx1:scope.names.lookup x=some .local:=by rw[hnames];simp
   refine wpAny_mono (AaW (y:=.int z) (v:=.ref a) (Q:=fun v H''=>v=.int (-(ks.getD z.toNat 0))∧H''=H') J I.ok.frames (I.ok.hd hc) (by have:=hr.dp;show X.A.depth<_;omega)
    (Ait _ Aii) (sm _ _ hc2) hN hσ hkd hcc hnames hxn hkind hco hgen (hbind cc c' pm ctv) ⟨t,rfl⟩
    (fun env s H hes=>Aez Adj (Aq (Aw (K:=X.K)) (Yb (i:=1) rfl (.inr (.inr (by show env.scope.names.lookup nm=_;rw[hes];exact hx2))) hd3 hd4) (Yb (i:=0) rfl (.inl (by show env.scope.names.lookup x=_;rw[hes];exact hx1)) hd1 hd2) (fun _ _=>rfl)))
    ⟨_,rfl,_,rfl,a,vI ks,z,.int (ks.getD z.toNat 0),rfl,rfl,sm.seq (t2.seq hS),?_,_,rfl,rfl,rfl⟩) (fun u s'' ⟨v,H'',J2,rv,ev,eh⟩=>?_) fun _ _ z=>z
   ·refine Bb (by omega) ?_
    unfold vI
    rw[Aip,AhY hzl,Aic,AhY hzl]
    rfl
   ·subst ev eh
    exact⟨rv,J2⟩
  ·refine wpAny_pure ⟨_,rfl,.ref h3.objs.size,H4,I4.GX fun pp hpp=>I4.pin pp (Ait _ (Aij _ hpp)),rfl,?_⟩
   exact k _ H4 ns' (t2.trans sm.toT) (tb2.same sm) fr1 ha4 pm4 pw4
end
open PySem PySem.Spec PyProof.Rows
theorem AdE{K:PySem.W.Frag}{x:Str}{f c P:Addr}{fd:FuncData}{oc o1:Value}{od o2:Option Addr}{osl o3:Array (Option Value)}{vs:Array Value}(hn:PySem.W.nsIn K mainGlobals x=some (some (.ref f)))
  (lk:K.lookup f=some ⟨oc,od,.func fd,osl⟩) (hc:fd.code=.ref c) (lc:K.lookup c=some ⟨o1,o2,.fields vs,o3⟩) (hv:(vs[11]?:Option Value)=some (.ref P)):PySem.W.tabIn K x=some (c,P):=by
 unfold PySem.W.tabIn
 rw[hn]
 simp only [lk,hc,lc,hv]
theorem Fun.okC{P:Program}{w:World}{K:PySem.W.Frag}{mg:Str→Option Value}{base:Heap}{x qual:Str}{st:Stmt}{f c:Addr}{fd:FuncData}{N ps:List Str}{k:Nat}{sp:Sp}(F:Fun K x qual st f fd)(hc:fd.code=.ref c)(S:Bq N ps (Ac st))
  (len:∀ vs H Q E,sp vs H Q E→vs.length=ps.length)
  (hbody:∀(A:Around) (outer:List Env) (s:Shared) (H:Hp) (vs:List V) (Q:VK) (E:XK),Hn k (A.deeper (envOfC qual (Ac st) s.heap.objs.size f (.ref c)))→sp vs H Q E →
   ∃ t,PSs (U8 CX0 P w K mg base N qual (Ac st) f (.ref c) A outer s H E).nox (Ah st) t∧t { nx:=fun _ H'=>Q .non H',rt:=Q } (start N vs) H):Bx P w K mg base CX0 (k+1) f fd ps sp:=by
 obtain⟨oc,od,kV,doc,pm,an,cdv,ct,osl,rfl,lk,hcd⟩:=F.ex
 have e:cdv=.ref c:=hc
 subst e
 refine AcI lk hcd S len fun A outer s H vs Q E hr hsp=>?_
 obtain⟨t,h,q⟩:=hbody A outer s H vs Q E hr hsp
 exact⟨t,h.nox,q⟩
theorem Aai{P:Program}{w:World}{K:PySem.W.Frag}{mg mb:Str→Option Value}{CX:CXT}{k:Nat}{fa a c T:Addr}{q:Str}{fd:FuncData}{x:Str}{sp:Sp}{s₁:Shared}{vs:List Value}{ns:List Int}
  (KX:K.In s₁.heap) (hns:s₁.heap.Ns mainGlobals mg) (hb:s₁.heap.Ns builtinsNs mb) (hbb:∀ x:Str,x ≠ "__name__" → mb x=bootBuiltins x) (hlim:s₁.heap.NoLimit) (hg:s₁.gens=#[])
  (ha:s₁.heap.get? a=some { cls:=.type "list", data:=.seq vs.toArray }) (hi:IntsAre vs ns) (hl:ns.length≤sizeLine) (hr:Hn k callerA)
  (hC:PySem.W.CodeHd s₁.heap c T) (hT:s₁.heap.get? T=some (PySem.W.tabObj #[])) (hKT:K.lookup T=none) (hbm:Bm mg s₁.heap)
  (F:∀ base:Heap,K.In base→base.Ns mainGlobals mg→PySem.W.CodeHd base c T→Bm mg base→Bx P w K mg base CX k fa fd [x] sp) (hbind:∀(s:Shared) (u:Value),BindsTo s fd ⟨[u],[]⟩ [(x,u)])
  (hsp:∀ H:Hp,SqL K H a (ns.map V.int)→Tb T q H→sp [.ref a] H (fun v _=>v=.bl true) fun _ _ _=>False)
  (hCX:∀ H e s',CX [] H s₁ (fun _ _ _=>False) e s'→False) :
  codeAny (model P w) callerA (.call (.ref fa) ⟨[.ref a],[]⟩) (fun r s'=>r=.ok (.ret (.bool true))∧OldK s₁.heap s'.heap∧s'.os=s₁.os∧AllBare s'.gens) s₁:=by
 have rv:=Jx hi
 have lenV:=hi.length
 have aT:a≠T:=fun e=>by rw[e,hT] at ha;cases ha
 have core:∀ H:Hp,H T=some (.tbl #[])→(∀ b u,H b=some u→b=T∨(b=a∧∃ o xs,u=.frz o (.lst xs)))→SqL K H a (ns.map V.int)→HOk P w H s₁.heap→(H a≠none→K.lookup a=none) →
   codeAny (model P w) callerA (.call (.ref fa) ⟨[.ref a],[]⟩) (fun r s'=>r=.ok (.ret (.bool true))∧OldK s₁.heap s'.heap∧s'.os=s₁.os∧AllBare s'.gens) s₁:=by
  intro H hHT hA hS hok hK
  have JH:∀{b:Addr} {o:Obj},s₁.heap.get? b=some o→H b=none→(MJ s₁.heap H).get? b=some o:=fun e n=>Wh e n
  have noA:∀{b:Addr} {o:Obj},s₁.heap.get? b=some o→o.cls≠.type "list" ∨ (∃ es ep,o.data=.dict es ep)→o.cls≠.none∨(∃ es ep,o.data=.dict es ep)→H b=none:=fun {b o} e d d2=>by
   cases q:H b with
   | none=>rfl
   | some u =>
    exfalso
    rcases hA b u q with e' | ⟨e',_⟩
    ·rw[e',hT] at e
     cases e
     rcases d2 with d2 | ⟨es,ep,d2⟩
     ·exact d2 rfl
     ·have d':Data.fields _=Data.dict es ep:=d2
      cases d'
    ·rw[e',ha] at e
     cases e
     rcases d with d | ⟨es,ep,d⟩
     ·exact d rfl
     ·have d':Data.seq vs.toArray _=Data.dict es ep:=d
      cases d'
  have nsK:∀{b:Addr} {m:Str→Option Value},s₁.heap.Ns b m→(MJ s₁.heap H).Ns b m:=fun {b m} ⟨o,es,ep,e,d,r⟩=>⟨o,es,ep,JH e (noA e (.inr ⟨es,ep,d⟩) (.inr ⟨es,ep,d⟩)),d,r⟩
  have hKb:K.In (MJ s₁.heap H):=fun b o e=>JH (KX b o e) (by
   cases q:H b with
   | none=>rfl
   | some u =>
    exfalso
    rcases hA b u q with e' | ⟨e',_⟩
    ·rw[e',hKT] at e;cases e
    ·rw[e',hK (by rw[← e',q];simp)] at e;cases e)
  have hM:Mod K mg (MJ s₁.heap H):=⟨hKb,nsK hns,⟨mb,nsK hb,hbb⟩,let ⟨mc,h1,h2⟩:=hlim;⟨mc,nsK h1,h2⟩⟩
  have hCb:PySem.W.CodeHd (MJ s₁.heap H) c T:=by
   obtain⟨o,vs',file,tf,flags,tg,inF,text,tt,e1,r1,r⟩:=hC
   exact⟨o,vs',file,tf,flags,tg,inF,text,tt,JH e1 (noA e1 (.inl (by rw[r1];decide)) (.inl (by rw[r1];intro z;cases z))),r1,r⟩
  have hBb:Bm mg (MJ s₁.heap H):=by
   obtain⟨bm,ob,b1,b2,b3,b4,r⟩:=hbm
   exact⟨bm,ob,b1,b2,JH b3 (noA b3 (.inl (by rw[b4];decide)) (.inl (by rw[b4];intro z;cases z))),b4,r⟩
  have e0:AaA P w K mg (MJ s₁.heap H) callerA [] s₁ H:=⟨rfl,hM,fun b o e=>YT e,Aje (TV _ _),trivial,fun b hb=>absurd (show b∈([]:List Addr) from hb) (by simp),hok,.of_eq hg⟩
  have tb:Tb T q H:=⟨#[],hHT,trivial,fun pos cv e=>by cases e⟩
  refine codeAny_mono ((F _ hKb (nsK hns) hCb hBb).run callerA [] s₁ H ⟨[.ref a],[]⟩ [.ref a] [.ref a] _ _ hr e0 (hbind s₁ (.ref a)) (.cons rfl .nil) (hsp H hS tb)) fun r s' h=>?_
  cases r with
  | error e=>exact(hCX H e s' h).elim
  | ok fl =>
   cases fl with
   | next=>exact False.elim h
   | brk=>exact False.elim h
   | cont=>exact False.elim h
   | ret u =>
    obtain⟨v,H',os,bare,un,hok',r',q'⟩:=h
    have q2:v=.bl true:=q'
    subst q2
    obtain rfl:u=Value.bool true:=r'
    refine⟨rfl,⟨fun b o e=>?_,fun b o e=>un.there b o e (by simp)⟩,os,bare⟩
    cases q:H b with
    | none=>exact .inl (un.keep b o e q (by intro z;exact absurd (show b∈([]:List Addr) from z) (by simp)) (by simp))
    | some u =>
     rcases hA b u q with z | ⟨z,ob,xs,zu⟩
     ·subst z
      obtain⟨more,e2⟩:=un.Oq b #[] hHT
      have e3:s'.heap.get? b=some (PySem.W.tabObj (#[]++more)):=hok' b _ e2
      rw[hT] at e
      cases e
      exact .inr (.inl ⟨(hC.tab hT).isCodeTable,rfl,#[],more,rfl,e3⟩)
     ·subst zu
      have z2:=un.MF b ob _ q
      obtain⟨e1,_⟩:=hok b _ q
      obtain⟨e2,_⟩:=hok' b _ z2
      rw[e] at e1;cases e1
      exact .inl e2
 cases hk:K.lookup a with
 | some o =>
  have e:=KX a o hk
  rw[ha] at e
  cases e
  refine core (fun b=>if b=T then some (.tbl #[]) else none) (if_pos rfl) (fun b u z=>?_) (.inr ⟨_,vs.toArray,_,hk,rfl,rfl,rfl,by rw[Aia,lenV];exact hl,by simpa using rv⟩) (fun b u z=>?_) fun z=>absurd (if_neg aT) z
  ·by_cases hb:b=T
   ·exact .inl hb
   ·have z':=(if_neg hb).symm.trans z
    cases z'
  ·by_cases hb:b=T
   ·have z':=(if_pos hb).symm.trans z
    cases z'
    rw[hb]
    exact hT
   ·have z':=(if_neg hb).symm.trans z
    cases z'
 | none =>
  refine core (fun b=>if b=T then some (.tbl #[]) else if b=a then some (.frz { cls:=.type "list", data:=.seq vs.toArray } (.lst (ns.map V.int))) else none) (if_pos rfl) (fun b u z=>?_)
   (.inl (.inr ⟨{ cls:=.type "list", data:=.seq vs.toArray },(if_neg aT).trans (if_pos rfl)⟩)) (fun b u z=>?_) fun _=>hk
  ·by_cases hb:b=T
   ·exact .inl hb
   ·have z':=(if_neg hb).symm.trans z
    by_cases hb2:b=a
    ·have z2:=(if_pos hb2).symm.trans z'
     exact .inr ⟨hb2,_,_,(Option.some.inj z2).symm⟩
    ·have z2:=(if_neg hb2).symm.trans z'
     cases z2
  ·by_cases hb:b=T
   ·have z':=(if_pos hb).symm.trans z
    cases z'
    rw[hb]
    exact hT
   ·have z':=(if_neg hb).symm.trans z
    by_cases hb2:b=a
    ·have z2:=(if_pos hb2).symm.trans z'
     cases z2
     rw[hb2]
     exact⟨ha,by rw[AhZ];exact hl,vs,_,rv,ha⟩
    ·have z2:=(if_neg hb2).symm.trans z'
     cases z2
theorem Abb{l:PySem.W.OpenLaw}{n k:Nat}{q:Program}{loose:List Str}{XP:(Str→Option Value)→Heap→Prop}{YP:World→Heap→Prop}{d d':DefRec}{K:Params→PySem.W.Frag}{CX:CXT}{sp:PySem.W.Frag→Addr→Sp}{x y qn:Str}
  (hn:l.most=some n) (hn2:n≤sizeLine) (hdf:d.params.defaults=[]) (hr:Hn k callerA)
  (hY:∀(w:World) (h:Heap),YP w h→(K w.params).In h) (hrec:(recsOf q).find? (fun e=>e.name == y)=some d')
  (F:∀(w:World) (mg:Str→Option Value) (fa:Addr) (h:Heap),(K w.params).In h→h.Ns mainGlobals mg→mg d.name=some (.ref fa) →
   ∃(fd:FuncData) (c T:Addr),(∀(s:Shared) (u:Value),BindsTo s fd ⟨[u],[]⟩ [(x,u)])∧PySem.W.tabIn (K w.params) y=some (c,T)∧PySem.W.noTabs (K w.params)=true ∧
    ∀ base:Heap,(K w.params).In base→base.Ns mainGlobals mg→PySem.W.CodeHd base c T→Bm mg base→Bx l.prog w (K w.params) mg base CX k fa fd [x] (sp (K w.params) T))
  (hsp:∀(K:PySem.W.Frag) (T:Addr) (H:Hp) (a:Addr) (ns:List Int),ns.length≤n→SqL K H a (ns.map V.int)→Tb T qn H→sp K T [.ref a] H (fun v _=>v=.bl true) fun _ _ _=>False)
  (hCX:∀(H:Hp) (s:Shared) (e:Value) (s':Shared),CX [] H s (fun _ _ _=>False) e s'→False) :
  PySem.W.WalkO q loose XP YP l.row.toRowW d [] (fun f vs=>PySem.call f vs):=by
 refine Att.QQ hn hdf fun w s₀ s₁ mg mb fa o pm cd doc a vs ns G Y ho hd hcd hmg hobj hints hlen hg=>?_
 have KX:=hY w _ Y
 obtain⟨fd,c,T,hb,hT,Ag2,hF⟩:=F w mg fa _ KX G.T.g hmg
 obtain⟨hC,hT2⟩:=PySem.W.tab_of G.T KX hrec hT
 have hKT:(K w.params).lookup T=none:=by
  cases e:(K w.params).lookup T with
  | none=>rfl
  | some o =>
   exfalso
   have h1:=KX T o e
   rw[hT2] at h1
   cases h1
   have h2:=List.all_eq_true.mp Ag2 (T,PySem.W.tabObj #[]) (PySem.W.mem_of_lookupK e)
   exact absurd (show false=true from h2) Ail
 exact Aai KX G.T.g G.T.b G.T.builtins G.T.nolimit hg hobj hints (Ais hlen hn2) hr hC hT2 hKT G.T.bmain hF hb (fun H hS tb=>hsp _ T H a ns hlen hS tb) fun H e s'=>hCX H s₁ e s'
end L2
namespace Mine
open PySem L2
def Sg (c:Nat):Prop:=c=35∨c=46
structure Cl (cl:List (List Nat)) (m n:Nat):Prop where
 hn:cl.length=n
 hm:∀ t∈cl,t.length=m
 sg:∀ t∈cl,∀ c∈t,Sg c
 m1:1≤m
 m40:m≤40
 n1:1≤n
 n40:n≤40
def flip(c:Nat):Nat:=if c=35 then 46 else 35
def back(cl:List (List Nat)):List (List Nat):=cl.map fun t=>t.reverse.map flip
def col (cl:List (List Nat))(e:Nat):List Nat:=cl.map fun t=>t.getD e 0
def Ahk (cl:List (List Nat))(m:Nat):List (List Nat):=(List.range m).map fun e=>(col cl e).map flip
def sgn (cl:List (List Nat))(m n:Nat)(x y:Int):Nat:=(cl.getD (y%(n:Int)).toNat []).getD (x%(m:Int)).toNat 0
def met (st ln c s:Int):Int:=ln / c+(if (s-st)%c<ln%c then 1 else 0)
def AdF (f:Nat→Int):Nat→Int
 | 0=>0
 | k+1=>AdF f k+f k
def AdG (g:Nat→Int)(st:Int)(c:Nat):Nat→Int
 | 0=>0
 | n+1=>AdG g st c n+g ((st+(n:Int))%(c:Int)).toNat
def isH (cl:List (List Nat))(p e:Nat):Int:=if (cl.getD p []).getD e 0=35 then 1 else 0
def AdH (cl:List (List Nat))(m:Nat)(left wide:Int)(p:Nat):Int:=AdF (fun e=>if (cl.getD p []).getD e 0=35 then met left wide (m:Int) (e:Int) else 0) m
def overs(cl:List (List Nat))(m n:Nat)(left first wide high:Int):Int:=AdF (fun p=>AdH cl m left wide p*met first high (n:Int) (p:Int)) n
def cnt (cl:List (List Nat))(m n:Nat)(left first:Int)(wide high:Nat):Int:=AdG (fun p=>AdG (isH cl p) left m wide) first n high
def Dh (cl:List (List Nat))(m:Nat):List Int:=((List.range m).map fun e=>(((col cl e).count 35:Nat):Int))++cl.map fun t=>((t.count 46:Nat):Int)
theorem RX(cl:List (List Nat))(m:Nat):(Dh cl m).length=m+cl.length:=by
 unfold Dh
 rw[Aid,AhZ,AhZ,Aih]
end Mine
namespace Mine
def sm (f:Nat→Nat):List Nat→Nat
 | []=>0
 | x::l=>f x+sm f l
theorem Jd(f:Nat→Nat):∀ a b:List Nat,sm f (a++b)=sm f a+sm f b
 | [],b=>by simp[sm]
 | x::a,b=>by rw[AjL];show f x+sm f (a++b)=f x+sm f a+sm f b;rw[Jd f a b];omega
theorem HD(f:Nat→Nat){a b:List Nat}(h:a.Perm b):sm f a=sm f b:=by
 induction h with
 | nil=>rfl
 | cons x _ ih=>show f x+_=f x+_;rw[ih]
 | swap x y l=>show f y+(f x+_)=f x+(f y+_);omega
 | trans _ _ h1 h2=>rw[h1,h2]
theorem Uj(f g:Nat→Nat)(h:∀ x,f x≤g x):∀ l,sm f l≤sm g l
 | []=>AhX _
 | x::l=>Nat.add_le_add (h x) (Uj f g h l)
theorem JQ(f g:Nat→Nat):∀ l,sm (fun x=>f x+g x) l=sm f l+sm g l
 | []=>rfl
 | x::l=>by show f x+g x+sm _ l=f x+sm f l+(g x+sm g l);rw[JQ f g l];omega
theorem DN(c:Nat):∀ l:List Nat,sm (fun _=>c) l=l.length*c
 | []=>by simp[sm]
 | x::l=>by show c+sm _ l=(l.length+1)*c;rw[DN c l,Aiw];omega
theorem Q6(f:Nat→Nat)(h:∀ x,f x≤1)(l:List Nat):sm f l≤l.length:=by
 have:=Uj f (fun _=>1) h l
 rw[DN] at this
 omega
theorem Vh(f g:Nat→Nat)(h:∀ x,f x=g x)(l:List Nat):sm f l=sm g l:=by rw[funext h]
def b2n (b:Bool):Nat:=if b=true then 1 else 0
theorem KY(b:Bool):b2n b≤1:=by cases b <;> decide
theorem Acp(b:Bool):b2n b+b2n (!b)=1:=by cases b <;> decide
def aS (up:Nat→Nat→Bool)(n e:Nat):Nat:=sm (fun p=>b2n (up e p)) (List.range n)
def bS (up:Nat→Nat→Bool)(m p:Nat):Nat:=sm (fun e=>b2n (!up e p)) (List.range m)
theorem cross(up:Nat→Nat→Bool)(T:List Nat):∀ S:List Nat,sm (fun e=>sm (fun p=>b2n (up e p)) T) S+sm (fun p=>sm (fun e=>b2n (!up e p)) S) T=S.length*T.length
 | []=>by
  show 0+sm (fun _=>0) T=_
  rw[DN]
  simp
 | e::S=>by
  have ih:=cross up T S
  have h1:sm (fun p=>sm (fun e=>b2n (!up e p)) (e::S)) T=sm (fun p=>b2n (!up e p)) T+sm (fun p=>sm (fun e=>b2n (!up e p)) S) T:=JQ (fun p=>b2n (!up e p)) (fun p=>sm (fun e=>b2n (!up e p)) S) T
  have h2:sm (fun p=>b2n (up e p)) T+sm (fun p=>b2n (!up e p)) T=T.length:=by
   rw[← JQ,Vh _ (fun _=>1) (fun p=>Acp _),DN,Aju]
  rw[h1]
  show sm (fun p=>b2n (up e p)) T+sm (fun e=>sm (fun p=>b2n (up e p)) T) S+_=(S.length+1)*T.length
  rw[Aiw]
  omega
theorem Abd(up:Nat→Nat→Bool){m n:Nat}{S S' T T':List Nat}(hS:(S++S').Perm (List.range m))(hT:(T++T').Perm (List.range n)) :
  sm (aS up n) S+sm (bS up m) T+S.length*T.length≤S.length*n+T.length*m:=by
 have hm:S.length+S'.length=m:=by have:=hS.length_eq;rwa [Aid,Aih] at this
 have hn:T.length+T'.length=n:=by have:=hT.length_eq;rwa [Aid,Aih] at this
 have h1:sm (aS up n) S≤sm (fun e=>sm (fun p=>b2n (up e p)) T) S+S.length*T'.length:=by
  rw[← DN,← JQ]
  refine Uj _ _ (fun e=>?_) S
  unfold aS
  rw[← HD _ hT,Jd]
  exact Nat.add_le_add_left (Q6 _ (fun _=>KY _) T') _
 have h2:sm (bS up m) T≤sm (fun p=>sm (fun e=>b2n (!up e p)) S) T+T.length*S'.length:=by
  rw[← DN,← JQ]
  refine Uj _ _ (fun p=>?_) T
  unfold bS
  rw[← HD _ hS,Jd]
  exact Nat.add_le_add_left (Q6 _ (fun _=>KY _) S') _
 have h3:=cross up T S
 have e1:S.length*n=S.length*T.length+S.length*T'.length:=by rw[← hn,Ajf]
 have e2:T.length*m=S.length*T.length+T.length*S'.length:=by rw[← hm,Ajf,Aj1 T.length S.length]
 omega
theorem Abe(up:Nat→Nat→Bool)(m n:Nat):sm (aS up n) (List.range m)+sm (bS up m) (List.range n)=m*n:=by
 have:=cross up (List.range n) (List.range m)
 rw[Aih,Aih] at this
 exact this
theorem O3{α β:Type}{f:α→β}{d e:List β}(h:d.Perm e):∀ l,e=l.map f→∃ l':List α,l'.Perm l∧d=l'.map f:=by
 induction h with
 | nil=>intro l hl;exact⟨l,.refl _,hl⟩
 | cons x _ ih =>
  intro l hl
  cases l with
  | nil=>cases hl
  | cons y l =>
   rw[Aiq] at hl
   injection hl with h1 h2
   obtain⟨l',p,e⟩:=ih l h2
   exact⟨y::l',p.cons _,by rw[Aiq,e,h1]⟩
 | swap x y r =>
  intro l hl
  match l,hl with
  | a::b::l,hl =>
   rw[Aiq,Aiq] at hl
   injection hl with h1 h2
   injection h2 with h2 h3
   exact⟨b::a::l,.swap _ _ _,by rw[Aiq,Aiq,h1,h2,h3]⟩
  | [a],hl=>cases hl
  | [],hl=>cases hl
 | trans _ _ h1 h2 =>
  intro l hl
  obtain⟨l1,p1,e1⟩:=h2 l hl
  obtain⟨l2,p2,e2⟩:=h1 l1 e1
  exact⟨l2,p2.trans p1,e2⟩
def G (m n:Nat)(dA dB:List Int)(s t:Nat):Int:=(s:Int)*n+(t:Int)*m-(s:Int)*t-(dA.take s).sum-(dB.take t).sum
structure Sc (m n:Nat) (dA dB:List Int):Prop where
 lA:dA.length=m
 lB:dB.length=n
 decA:dA.Pairwise (· ≥ ·)
 FQ:dB.Pairwise (· ≥ ·)
 low:∀ s t,s≤m→t≤n→0≤G m n dA dB s t
 top:G m n dA dB m n=0
theorem Hd(f:Nat→Nat):∀ l:List Nat,(l.map fun e=>((f e:Nat):Int)).sum=(sm f l:Int)
 | []=>rfl
 | x::l=>by rw[Aiq,AiJ,Hd f l];show _=((f x+sm f l:Nat):Int);omega
theorem W8{a b:List Int}(h:a.Perm b):a.sum=b.sum:=by
 induction h with
 | nil=>rfl
 | cons x _ ih=>rw[AiJ,AiJ,ih]
 | swap x y l=>rw[AiJ,AiJ,AiJ,AiJ];omega
 | trans _ _ h1 h2=>rw[h1,h2]
theorem Sc.of(up:Nat→Nat→Bool){m n:Nat}{dA dB:List Int}(hA:dA.Perm ((List.range m).map fun e=>((aS up n e:Nat):Int)))(hB:dB.Perm ((List.range n).map fun p=>((bS up m p:Nat):Int)))
  (decA:dA.Pairwise (· ≥ ·)) (FQ:dB.Pairwise (· ≥ ·)):Sc m n dA dB:=by
 have lA:dA.length=m:=by rw[hA.length_eq,AhZ,Aih]
 have lB:dB.length=n:=by rw[hB.length_eq,AhZ,Aih]
 obtain⟨lS,pS,eS⟩:=O3 hA _ rfl
 obtain⟨lT,pT,eT⟩:=O3 hB _ rfl
 refine⟨lA,lB,decA,FQ,fun s t hs ht=>?_,?_⟩
 ·have:=Abd up (S:=lS.take s) (S':=lS.drop s) (T:=lT.take t) (T':=lT.drop t) (by rw[Ai0];exact pS) (by rw[Ai0];exact pT)
  have l1:(lS.take s).length=s:=by rw[Aib];have:=pS.length_eq;rw[Aih] at this;omega
  have l2:(lT.take t).length=t:=by rw[Aib];have:=pT.length_eq;rw[Aih] at this;omega
  rw[l1,l2] at this
  unfold G
  rw[eS,eT,← Ai9,← Ai9,Hd,Hd]
  have c:((sm (aS up n) (lS.take s)+sm (bS up m) (lT.take t)+s*t:Nat):Int)≤((s*n+t*m:Nat):Int):=by exact_mod_cast this
  simp only [Ajg,AiS] at c
  omega
 ·unfold G
  rw[Aiy (by omega),Aiy (by omega),W8 hA,W8 hB,Hd,Hd]
  have:=Abe up m n
  have c:((sm (aS up n) (List.range m)+sm (bS up m) (List.range n):Nat):Int)=((m*n:Nat):Int):=by exact_mod_cast this
  simp only [Ajg,AiS] at c
  have e:(n:Int)*m=(m:Int)*n:=Int.mul_comm _ _
  omega
section
variable {m n:Nat}{dA dB:List Int}
theorem W9{d:List Int}{k:Nat}(h:k<d.length):(d.take (k+1)).sum=(d.take k).sum+d.getD k 0:=by
 rw[Ai8,List.sum_append,AhY h]
 have e:d.getD k 0=d[k]:=by simp[List.getD,h]
 rw[e]
 simp
theorem Abf{d:List Int}(h:d.Pairwise (· ≥ ·)){i j:Nat}(hij:i≤j)(hj:j<d.length):d.getD j 0≤d.getD i 0:=by
 have hi:i<d.length:=by omega
 have e1:d.getD i 0=d[i]:=by simp[List.getD,hi]
 have e2:d.getD j 0=d[j]:=by simp[List.getD,hj]
 rw[e1,e2]
 by_cases e:i=j
 ·subst e;exact Aiz _
 ·exact List.pairwise_iff_getElem.mp h i j hi hj (by omega)
theorem G_s(C:Sc m n dA dB){s:Nat}(t:Nat)(h:s<m):G m n dA dB (s+1) t=G m n dA dB s t+((n:Int)-t-dA.getD s 0):=by
 unfold G
 rw[W9 (by rw[C.lA];exact h),Ajg,Aj6,Int.add_mul,Int.add_mul,Int.one_mul,Int.one_mul]
 omega
theorem G_t(C:Sc m n dA dB)(s:Nat){t:Nat}(h:t<n):G m n dA dB s (t+1)=G m n dA dB s t+((m:Int)-s-dB.getD t 0):=by
 unfold G
 rw[W9 (by rw[C.lB];exact h),Ajg,Aj6,Int.add_mul,Int.mul_add,Int.one_mul,Ajp]
 omega
theorem AdI(C:Sc m n dA dB){s:Nat}(t:Nat)(c:Int)(hc:c≤(n:Int)-t-dA.getD s 0):∀ d:Nat,s+d≤m→G m n dA dB s t+c*d≤G m n dA dB (s+d) t
 | 0,_=>by simp
 | d+1,h=>by
  have ih:=AdI C t c hc d (by omega)
  have e:=G_s C t (s:=s+d) (by omega)
  have mo:=Abf C.decA (i:=s) (j:=s+d) (by omega) (by rw[C.lA];omega)
  have e2:c*((d+1:Nat):Int)=c*d+c:=by rw[Ajg,Aj6,Int.mul_add,Ajp]
  rw[show s+(d+1)=s+d+1 from rfl,e,e2]
  omega
theorem AdJ(C:Sc m n dA dB)(s:Nat){t:Nat}(c:Int)(hc:c≤(m:Int)-s-dB.getD t 0):∀ d:Nat,t+d≤n→G m n dA dB s t+c*d≤G m n dA dB s (t+d)
 | 0,_=>by simp
 | d+1,h=>by
  have ih:=AdJ C s c hc d (by omega)
  have e:=G_t C s (t:=t+d) (by omega)
  have mo:=Abf C.FQ (i:=t) (j:=t+d) (by omega) (by rw[C.lB];omega)
  have e2:c*((d+1:Nat):Int)=c*d+c:=by rw[Ajg,Aj6,Int.mul_add,Ajp]
  rw[show t+(d+1)=t+d+1 from rfl,e,e2]
  omega
theorem AeR(s s' t t':Nat):G m n dA dB s t+G m n dA dB s' t'=G m n dA dB s' t+G m n dA dB s t'-((s':Int)-s)*((t':Int)-t):=by
 unfold G
 rw[Int.sub_mul,Int.mul_sub,Int.mul_sub]
 omega
def lexLt(a b:Nat × Nat):Prop:=a.1<b.1∨(a.1=b.1∧a.2<b.2)
theorem Abg(C:Sc m n dA dB){s t s' t':Nat}(hs:s≤m)(ht:t≤n)(hs':s'≤m)(ht':t'≤n)(z:G m n dA dB s t=0)(z':G m n dA dB s' t'=0)(lt:lexLt (s,t) (s',t'))
  (none:∀ x y,x≤m→y≤n→G m n dA dB x y=0→lexLt (s,t) (x,y)→lexLt (x,y) (s',t')→False) :
  s≤s'∧t≤t'∧0<(s'-s)+(t'-t)∧(1<(s'-s)+(t'-t)→2≤s'-s∧2≤t'-t):=by
 have lt':s<s'∨(s=s'∧t<t'):=lt
 have hle:s≤s':=by omega
 have tle:t≤t':=by
  by_cases h:t≤t'
  ·exact h
  ·exfalso
   have h1:s<s':=by omega
   have q:=AeR (m:=m) (n:=n) (dA:=dA) (dB:=dB) s s' t t'
   have l1:=C.low s' t hs' ht
   have l2:=C.low s t' hs ht'
   have p:0<((s':Int)-s)*((t:Int)-t'):=Int.mul_pos (by omega) (by omega)
   have e:((s':Int)-s)*((t':Int)-t) =-(((s':Int)-s)*((t:Int)-t')):=by rw[← Int.mul_neg];congr 1;omega
   omega
 refine⟨hle,tle,by omega,fun big=>?_⟩
 have q:=AeR (m:=m) (n:=n) (dA:=dA) (dB:=dB) s s' t t'
 have l1:=C.low s' t hs' ht
 have l2:=C.low s t' hs ht'
 by_cases hs1:s'=s
 ·
  exfalso
  subst hs1
  have t2:t+2≤t':=by omega
  have g1:=G_t C s' (t:=t) (by omega)
  have lo:=C.low s' (t+1) hs' (by omega)
  have nz:G m n dA dB s' (t+1)≠0:=fun e=>none s' (t+1) hs' (by omega) e (.inr ⟨rfl,by show t<t+1;omega⟩) (.inr ⟨rfl,by show t+1<t';omega⟩)
  have:=AdJ C s' (t:=t) 1 (by omega) (t'-t) (by omega)
  rw[show t+(t'-t)=t' by omega] at this
  omega
 by_cases ht1:t'=t
 ·exfalso
  subst ht1
  have t2:s+2≤s':=by omega
  have g1:=G_s C t' (s:=s) (by omega)
  have lo:=C.low (s+1) t' (by omega) ht'
  have nz:G m n dA dB (s+1) t'≠0:=fun e=>none (s+1) t' (by omega) ht' e (.inl (by show s<s+1;omega)) (.inl (by show s+1<s';omega))
  have:=AdI C (s:=s) t' 1 (by omega) (s'-s) (by omega)
  rw[show s+(s'-s)=s' by omega] at this
  omega
 have gt1:=G_t C s (t:=t) (by omega)
 have gs1:=G_s C t (s:=s) (by omega)
 have lot:=C.low s (t+1) hs (by omega)
 have los:=C.low (s+1) t (by omega) ht
 have nzt:G m n dA dB s (t+1)≠0:=fun e=>none s (t+1) hs (by omega) e (.inr ⟨rfl,by show t<t+1;omega⟩) (.inl (by show s<s';omega))
 have bt:=AdJ C s (t:=t) 1 (by omega) (t'-t) (by omega)
 rw[show t+(t'-t)=t' by omega] at bt
 have nzs:G m n dA dB (s+1) t≠0:=fun e=>none (s+1) t (by omega) ht e (.inl (by show s<s+1;omega)) (by
  by_cases h:s+1=s'
  ·exact .inr ⟨h,by show t<t';omega⟩
  ·exact .inl (by show s+1<s';omega))
 have bs:=AdI C (s:=s) t 1 (by omega) (s'-s) (by omega)
 rw[show s+(s'-s)=s' by omega] at bs
 refine⟨?_,?_⟩
 ·by_cases h:s'=s+1
  ·exfalso
   subst h
   have e:(((s+1:Nat):Int)-s)*((t':Int)-t)=(t':Int)-t:=by rw[show((s+1:Nat):Int)-s=1 by omega,Int.one_mul]
   rw[e] at q
   omega
  ·omega
 ·by_cases h:t'=t+1
  ·exfalso
   subst h
   have e:((s':Int)-s)*(((t+1:Nat):Int)-t)=(s':Int)-s:=by rw[show((t+1:Nat):Int)-t=1 by omega,Ajp]
   rw[e] at q
   omega
  ·omega
end
end Mine
namespace Mine
def Ry (P:Nat→Nat→Bool)(s j:Nat):List (Nat × Nat):=((List.range j).map fun t=>(s,t)).filter fun p=>P p.1 p.2
def Fo (P:Nat→Nat→Bool)(n i:Nat):List (Nat × Nat):=(List.range i).flatMap fun s=>Ry P s (n+1)
theorem Q7(P:Nat→Nat→Bool)(s j:Nat):Ry P s (j+1)=Ry P s j++(if P s j=true then [(s,j)] else []):=by
 unfold Ry
 rw[Ajh,Aio,AiK]
 congr 1
 show(List.filter _ [(s,j)])=_
 by_cases h:P s j=true
 ·rw[if_pos h];simp[h]
 ·rw[if_neg h];simp[h]
theorem Q8(P:Nat→Nat→Bool)(n i:Nat):Fo P n (i+1)=Fo P n i++Ry P i (n+1):=by
 unfold Fo
 rw[Ajh,List.flatMap_append]
 simp
theorem O4{P:Nat→Nat→Bool}{s j:Nat}{p:Nat × Nat}:p∈Ry P s j↔p.1=s∧p.2<j∧P p.1 p.2=true:=by
 unfold Ry
 rw[AiF,List.mem_map]
 constructor
 ·rintro⟨⟨t,ht,rfl⟩,h⟩
  exact⟨rfl,List.mem_range.mp ht,h⟩
 ·rintro⟨h1,h2,h3⟩
  exact⟨⟨p.2,List.mem_range.mpr h2,by rw[← h1]⟩,h3⟩
theorem Hq{P:Nat→Nat→Bool}{n i:Nat}{p:Nat × Nat}:p∈Fo P n i↔p.1<i∧p.2≤n∧P p.1 p.2=true:=by
 unfold Fo
 rw[List.mem_flatMap]
 constructor
 ·rintro⟨s,hs,h⟩
  obtain⟨h1,h2,h3⟩:=O4.mp h
  have:=List.mem_range.mp hs
  exact⟨by omega,by omega,h3⟩
 ·rintro⟨h1,h2,h3⟩
  exact⟨p.1,List.mem_range.mpr h1,O4.mpr ⟨rfl,by omega,h3⟩⟩
theorem Zm(P:Nat→Nat→Bool)(s:Nat):∀ j,(Ry P s j).Pairwise lexLt
 | 0=>List.Pairwise.nil
 | j+1=>by
  rw[Q7]
  refine List.pairwise_append.mpr ⟨Zm P s j,?_,fun a ha b hb=>?_⟩
  ·by_cases h:P s j=true
   ·rw[if_pos h];exact List.pairwise_singleton _ _
   ·rw[if_neg h];exact List.Pairwise.nil
  ·by_cases h:P s j=true
   ·rw[if_pos h] at hb
    rw[List.mem_singleton.mp hb]
    obtain⟨h1,h2,_⟩:=O4.mp ha
    exact .inr ⟨h1,h2⟩
   ·rw[if_neg h] at hb;exact absurd hb (by simp)
theorem Vi(P:Nat→Nat→Bool)(n:Nat):∀ i,(Fo P n i).Pairwise lexLt
 | 0=>List.Pairwise.nil
 | i+1=>by
  rw[Q8]
  refine List.pairwise_append.mpr ⟨Vi P n i,Zm P i _,fun a ha b hb=>?_⟩
  obtain⟨h1,_⟩:=Hq.mp ha
  obtain⟨h2,_⟩:=O4.mp hb
  exact .inl (by omega)
theorem WD(P:Nat→Nat→Bool)(s j:Nat):(Ry P s j).length≤j:=by
 unfold Ry
 refine Ais (Ajv _ _) ?_
 rw[AhZ,Aih]
 exact AhX _
theorem RZ(P:Nat→Nat→Bool)(n:Nat):∀ i,(Fo P n i).length≤i*(n+1)
 | 0=>Aik _
 | i+1=>by
  rw[Q8,Aid,Aiw]
  exact Nat.add_le_add (RZ P n i) (WD P i _)
theorem Zn{a:Nat × Nat}(h:lexLt a a):False:=by unfold lexLt at h;omega
theorem WK{a b:Nat × Nat}(h:lexLt a b)(h2:lexLt b a):False:=by unfold lexLt at h h2;omega
theorem Q9{l:List (Nat × Nat)}(h:l.Pairwise lexLt){i j:Nat}{a b:Nat × Nat}(ha:l[i]?=some a)(hb:l[j]?=some b)(lt:lexLt a b):i<j:=by
 obtain⟨hi,e1⟩:=List.getElem?_eq_some_iff.mp ha
 obtain⟨hj,e2⟩:=List.getElem?_eq_some_iff.mp hb
 rcases Nat.lt_trichotomy i j with h1 | h1 | h1
 ·exact h1
 ·subst h1
  have:a=b:=by rw[← e1,← e2]
  rw[this] at lt
  exact(Zn lt).elim
 ·have:=List.pairwise_iff_getElem.mp h j i hj hi h1
  rw[e1,e2] at this
  exact(WK lt this).elim
structure Tps (m n:Nat) (P:Nat→Nat→Bool) (zs:List (Nat × Nat)):Prop where
 two:2≤zs.length
 fst:zs[0]?=some (0,0)
 lst:zs[zs.length-1]?=some (m,n)
 in_:∀(i:Nat) (a:Nat × Nat),zs[i]?=some a→a.1≤m∧a.2≤n
 stp:∀(i:Nat) (a b:Nat × Nat),zs[i]?=some a→zs[i+1]?=some b→a.1≤b.1∧a.2≤b.2∧0<(b.1-a.1)+(b.2-a.2)∧(1<(b.1-a.1)+(b.2-a.2)→2≤b.1-a.1∧2≤b.2-a.2)
def Pz (m n:Nat)(dA dB:List Int)(s t:Nat):Bool:=decide ((dA.take s).sum+(dB.take t).sum=(s:Int)*n+(t:Int)*m-(s:Int)*t)
theorem Vj{m n:Nat}{dA dB:List Int}{s t:Nat}:Pz m n dA dB s t=true↔G m n dA dB s t=0:=by
 unfold Pz G
 rw[decide_eq_true_iff]
 omega
theorem Tps.of{m n:Nat}{dA dB:List Int}(C:Sc m n dA dB)(h1:1≤m):Tps m n (Pz m n dA dB) (Fo (Pz m n dA dB) n (m+1)):=by
 have pw:=Vi (Pz m n dA dB) n (m+1)
 have m0:((0:Nat),(0:Nat))∈Fo (Pz m n dA dB) n (m+1):=Hq.mpr ⟨by show 0<m+1;omega,Aik _,Vj.mpr (by unfold G;simp)⟩
 have m1:(m,n)∈Fo (Pz m n dA dB) n (m+1):=Hq.mpr ⟨by show m<m+1;omega,AhX _,Vj.mpr C.top⟩
 generalize hz:Fo (Pz m n dA dB) n (m+1)=zs at *
 have inn:∀(i:Nat) (a:Nat × Nat),zs[i]?=some a→a.1≤m∧a.2≤n∧G m n dA dB a.1 a.2=0:=fun i a e=>by
  have:=Aiv e
  rw[← hz] at this
  obtain⟨q1,q2,q3⟩:=Hq.mp this
  exact⟨by omega,q2,Vj.mp q3⟩
 obtain⟨i0,e0⟩:=AjM m0
 obtain⟨i1,e1⟩:=AjM m1
 have l01:i0<i1:=Q9 pw e0 e1 (.inl (by show 0<m;omega))
 have i1l:=(List.getElem?_eq_some_iff.mp e1).1
 have f0:i0=0:=by
  by_cases h:i0=0
  ·exact h
  ·exfalso
   have hl:0<zs.length:=by omega
   have lt:=List.pairwise_iff_getElem.mp pw 0 i0 hl (by omega) (by omega)
   have:=(List.getElem?_eq_some_iff.mp e0).2
   rw[this] at lt
   unfold lexLt at lt
   simp at lt
 have fl:i1=zs.length-1:=by
  by_cases h:i1=zs.length-1
  ·exact h
  ·exfalso
   have hl:zs.length-1<zs.length:=by omega
   have lt:=List.pairwise_iff_getElem.mp pw i1 (zs.length-1) i1l hl (by omega)
   have e:=(List.getElem?_eq_some_iff.mp e1).2
   rw[e] at lt
   have q:=inn (zs.length-1) _ (AhY hl)
   unfold lexLt at lt
   simp only at lt
   omega
 refine⟨by omega,f0▸e0,fl▸e1,fun i a e=>⟨(inn i a e).1,(inn i a e).2.1⟩,fun i a b ea eb=>?_⟩
 obtain⟨a1,a2,a3⟩:=inn i a ea
 obtain⟨b1,b2,b3⟩:=inn (i+1) b eb
 have hi:=(List.getElem?_eq_some_iff.mp ea)
 have hj:=(List.getElem?_eq_some_iff.mp eb)
 have lt:lexLt a b:=by
  have:=List.pairwise_iff_getElem.mp pw i (i+1) hi.1 hj.1 (by omega)
  rw[hi.2,hj.2] at this
  exact this
 refine Abg C a1 a2 b1 b2 a3 b3 lt fun x y hx hy z l1 l2=>?_
 have mm:(x,y)∈zs:=by rw[← hz];exact Hq.mpr ⟨by show x<m+1;omega,hy,Vj.mpr z⟩
 obtain⟨k,ek⟩:=AjM mm
 have k1:=Q9 pw ea ek l1
 have k2:=Q9 pw ek eb l2
 omega
theorem Fp:∀{a b:List Int},a.Perm b→a.Pairwise (· ≥ ·)→b.Pairwise (· ≥ ·)→a=b
 | [],b,p,_,_=>(List.Perm.nil_eq p)
 | x::a,[],p,_,_=>absurd p.length_eq (by simp)
 | x::a,y::b,p,ha,hb=>by
  obtain⟨a1,a2⟩:=List.pairwise_cons.mp ha
  obtain⟨b1,b2⟩:=List.pairwise_cons.mp hb
  have e:x=y:=by
   have hx:x∈y::b:=p.mem_iff.mp Aii
   have hy:y∈x::a:=p.mem_iff.mpr Aii
   rcases List.mem_cons.mp hx with h | h
   ·exact h
   ·rcases List.mem_cons.mp hy with h' | h'
    ·exact h'.symm
    ·have:=b1 x h
     have:=a1 y h'
     omega
  subst e
  rw[Fp p.cons_inv a2 b2]
def pre (d:List Int):List Int:=(List.range (d.length+1)).map fun s=>(d.take s).sum
structure Grt (cs done left:List Int):Prop where
 perm:(done++left).Perm cs
 dec:done.Pairwise (· ≥ ·)
 ge:∀ a∈done,∀ b∈left,b≤a
theorem Yt(l:List Nat)(c:Nat):∀ k,k≤l.length→(l.take k).count c=sm (fun i=>b2n (l.getD i 0 == c)) (List.range k)
 | 0,_=>by simp[sm]
 | k+1,h=>by
  rw[Ajh,Jd,← Yt l c k (by omega),Ai8,AhY (by omega),List.count_append]
  have e:l.getD k 0=l[k]:=by simp[List.getD,show k<l.length by omega]
  show _+List.count c [l[k]]=_+(b2n (l.getD k 0 == c)+0)
  rw[e,List.count_singleton]
  rfl
def upC (cl:List (List Nat))(e p:Nat):Bool:=(cl.getD p []).getD e 0 == 35
def eS (cl:List (List Nat))(m:Nat):List Int:=(List.range m).map fun e=>(((col cl e).count 35:Nat):Int)
def pS (cl:List (List Nat)):List Int:=cl.map fun t=>((t.count 46:Nat):Int)
theorem Nz(cl:List (List Nat))(m:Nat):(eS cl m).length=m:=by unfold eS;rw[AhZ,Aih]
theorem Vk(cl:List (List Nat)):(pS cl).length=cl.length:=by unfold pS;rw[AhZ]
theorem J1{f g:Nat→Nat}:∀{l:List Nat},(∀ x∈l,f x=g x)→sm f l=sm g l
 | [],_=>rfl
 | x::l,h=>by show f x+sm f l=g x+sm g l;rw[h x Aii,J1 fun y hy=>h y (Aij _ hy)]
theorem Abh(cl:List (List Nat))(e p:Nat):(col cl e).getD p 0=(cl.getD p []).getD e 0:=by
 unfold col
 by_cases h:p<cl.length
 ·simp[List.getD,h]
 ·simp[List.getD,AjN (AjH h)]
theorem AeS{cl:List (List Nat)}{m n:Nat}(C:Cl cl m n)(e:Nat):aS (upC cl) n e=(col cl e).count 35:=by
 have hl:(col cl e).length=n:=by unfold col;rw[AhZ,C.hn]
 have:=Yt (col cl e) 35 n (by omega)
 rw[Aiy (by omega)] at this
 rw[this]
 unfold aS upC
 refine Vh _ _ (fun p=>?_) _
 rw[Abh]
theorem AeT{cl:List (List Nat)}{m n:Nat}(C:Cl cl m n){p:Nat}(hp:p<cl.length):bS (upC cl) m p=cl[p].count 46:=by
 have hl:=C.hm _ (Aie hp)
 have sg:=C.sg _ (Aie hp)
 have:=Yt cl[p] 46 m (by omega)
 rw[Aiy (by omega)] at this
 rw[this]
 unfold bS
 refine J1 fun e he=>?_
 have hem:=List.mem_range.mp he
 have e1:cl.getD p []=cl[p]:=by simp[List.getD,hp]
 have e2:cl[p].getD e 0=cl[p][e]:=by simp[List.getD,show e<cl[p].length by omega]
 unfold upC
 rw[e1,e2]
 rcases sg _ (Aie (show e<cl[p].length by omega)) with z | z <;> rw[z] <;> rfl
theorem Zo{cl:List (List Nat)}{m n:Nat}(C:Cl cl m n):eS cl m=(List.range m).map fun e=>((aS (upC cl) n e:Nat):Int):=by
 unfold eS
 refine Aj7 fun e _=>?_
 rw[AeS C]
theorem Zq{cl:List (List Nat)}{m n:Nat}(C:Cl cl m n):pS cl=(List.range n).map fun p=>((bS (upC cl) m p:Nat):Int):=by
 refine AjO (by rw[Vk,AhZ,Aih,C.hn]) fun i h1 h2=>?_
 have h1':i<cl.length:=by rw[Vk] at h1;exact h1
 rw[Aj8,List.getElem_range,AeT C h1']
 exact Aj8 ..
theorem Abi{cl:List (List Nat)}{m n:Nat}(C:Cl cl m n){dA dB:List Int}(hA:dA.Perm (eS cl m))(hB:dB.Perm (pS cl))(decA:dA.Pairwise (· ≥ ·))(FQ:dB.Pairwise (· ≥ ·)):Sc m n dA dB :=
 Sc.of (upC cl) (by rw[← Zo C];exact hA) (by rw[← Zq C];exact hB) decA FQ
theorem WL(cl:List (List Nat))(m:Nat):(Dh cl m).take m=eS cl m:=by
 show(eS cl m++pS cl).take m=_
 rw[List.take_append_of_le_length (by rw[Nz];exact AhX _),Aiy (by rw[Nz];exact AhX _)]
theorem WM(cl:List (List Nat))(m:Nat):(Dh cl m).drop m=pS cl:=by
 show(eS cl m++pS cl).drop m=_
 have:=List.drop_left (l₁:=eS cl m) (l₂:=pS cl)
 rwa [Nz] at this
theorem My{α:Type}{R:α→α→Prop}(AeU:∀ a b,R a b→R b a→False):∀{l l':List α},l.Perm l'→l.Pairwise R→l'.Pairwise R→l=l'
 | [],l',p,_,_=>p.nil_eq
 | a::l,[],p,_,_=>absurd p.length_eq (by simp)
 | a::l,b::t,p,h,h'=>by
  have e:a=b:=by
   have h1:a∈b::t:=p.mem_iff.mp Aii
   have h2:b∈a::l:=p.mem_iff.mpr Aii
   rcases List.mem_cons.mp h1 with e | m1
   ·exact e
   ·rcases List.mem_cons.mp h2 with e | m2
    ·exact e.symm
    ·exact(AeU _ _ ((List.pairwise_cons.mp h').1 a m1) ((List.pairwise_cons.mp h).1 b m2)).elim
  subst e
  rw[My AeU p.cons_inv (List.pairwise_cons.mp h).2 (List.pairwise_cons.mp h').2]
structure Ord (key:Nat→Nat) (N:Nat) (l:List Nat):Prop where
 perm:l.Perm (List.range N)
 ord:l.Pairwise (fun x y=>key y<key x∨(key x=key y∧x<y))
theorem Ord.uniq{key:Nat→Nat}{N:Nat}{l l':List Nat}(a:Ord key N l)(b:Ord key N l'):l=l' :=
 My (fun x y h1 h2=>by omega) (a.perm.trans b.perm.symm) a.ord b.ord
theorem Ord.len{key:Nat→Nat}{N:Nat}{l:List Nat}(a:Ord key N l):l.length=N:=by rw[a.perm.length_eq,Aih]
theorem Ord.nd{key:Nat→Nat}{N:Nat}{l:List Nat}(a:Ord key N l):l.Nodup:=a.perm.nodup_iff.mpr AjP
theorem Ord.lt{key:Nat→Nat}{N:Nat}{l:List Nat}(a:Ord key N l){x:Nat}(h:x∈l):x<N:=List.mem_range.mp (a.perm.mem_iff.mp h)
theorem O5{f:Nat→Nat}{c:Nat}:∀{l:List Nat},(∀ x∈l,f x≤c)→l.length*c≤sm f l→∀ x∈l,f x=c
 | [],_,_,x,hx=>by cases hx
 | y::l,h,e,x,hx=>by
  have hb:∀{l:List Nat},(∀ x∈l,f x≤c)→sm f l≤l.length*c:=by
   intro l
   induction l with
   | nil=>intro _;exact Aik _
   | cons z l ih =>
    intro h
    have:=h z Aii
    have:=ih fun x hx=>h x (Aij _ hx)
    show f z+sm f l≤(l.length+1)*c
    rw[Aiw]
    omega
  have h1:=h y Aii
  have h2:=hb fun x hx=>h x (Aij y hx)
  have e':(l.length+1)*c≤f y+sm f l:=e
  rw[Aiw] at e'
  rcases List.mem_cons.mp hx with rfl | hx
  ·omega
  ·exact O5 (fun x hx=>h x (Aij _ hx)) (by omega) x hx
theorem WN(up:Nat→Nat→Bool){m n:Nat}{S S' T T':List Nat}(hS:(S++S').Perm (List.range m))(hT:(T++T').Perm (List.range n))
  (e:sm (aS up n) S+sm (bS up m) T+S.length*T.length=S.length*n+T.length*m):(∀ x∈S,∀ y∈T',up x y=true)∧∀ y∈T,∀ x∈S',up x y=false:=by
 have hm:S.length+S'.length=m:=by have:=hS.length_eq;rwa [Aid,Aih] at this
 have hn:T.length+T'.length=n:=by have:=hT.length_eq;rwa [Aid,Aih] at this
 have h1:sm (aS up n) S=sm (fun e=>sm (fun p=>b2n (up e p)) T) S+sm (fun e=>sm (fun p=>b2n (up e p)) T') S:=by
  rw[← JQ]
  refine Vh _ _ (fun e=>?_) S
  unfold aS
  rw[← HD _ hT,Jd]
 have h2:sm (bS up m) T=sm (fun p=>sm (fun e=>b2n (!up e p)) S) T+sm (fun p=>sm (fun e=>b2n (!up e p)) S') T:=by
  rw[← JQ]
  refine Vh _ _ (fun p=>?_) T
  unfold bS
  rw[← HD _ hS,Jd]
 have h3:=cross up T S
 have a1:∀ x∈S,sm (fun p=>b2n (up x p)) T'≤T'.length:=fun x _=>Q6 _ (fun _=>KY _) T'
 have b1:∀ y∈T,sm (fun e=>b2n (!up e y)) S'≤S'.length:=fun y _=>Q6 _ (fun _=>KY _) S'
 have a2:sm (fun e=>sm (fun p=>b2n (up e p)) T') S≤S.length*T'.length:=by rw[← DN];exact Uj _ _ (fun x=>Q6 _ (fun _=>KY _) T') S
 have b2:sm (fun p=>sm (fun e=>b2n (!up e p)) S') T≤T.length*S'.length:=by rw[← DN];exact Uj _ _ (fun y=>Q6 _ (fun _=>KY _) S') T
 have e1:S.length*n=S.length*T.length+S.length*T'.length:=by rw[← hn,Ajf]
 have e2:T.length*m=S.length*T.length+T.length*S'.length:=by rw[← hm,Ajf,Aj1 T.length S.length]
 refine⟨fun x hx y hy=>?_,fun y hy x hx=>?_⟩
 ·have q:=O5 a1 (by omega) x hx
  have q2:=O5 (f:=fun p=>b2n (up x p)) (c:=1) (l:=T') (fun _ _=>KY _) (by rw[Aju,q];exact AhX _) y hy
  cases h:up x y with
  | true=>rfl
  | false=>rw[h] at q2;cases q2
 ·have q:=O5 b1 (by omega) y hy
  have q2:=O5 (f:=fun e=>b2n (!up e y)) (c:=1) (l:=S') (fun _ _=>KY _) (by rw[Aju,q];exact AhX _) x hx
  cases h:up x y with
  | true=>rw[h] at q2;cases q2
  | false=>rfl
def cQ (m k:Nat):Int:=((m+k:Nat):Int)
structure Lay (up:Nat→Nat→Bool) (m n:Nat) (tss:List (List Int)) (zs:List (Nat × Nat)) (eo po:List Nat):Prop where
 oE:Ord (aS up n) m eo
 oP:Ord (bS up m) n po
 fst:zs[0]?=some (0,0)
 lst:zs[zs.length-1]?=some (m,n)
 in_:∀(i:Nat) (a:Nat × Nat),zs[i]?=some a→a.1≤m∧a.2≤n
 stp:∀(i:Nat) (a b:Nat × Nat),zs[i]?=some a→zs[i+1]?=some b→a.1≤b.1∧a.2≤b.2∧0<(b.1-a.1)+(b.2-a.2)
 z:∀(i:Nat) (a:Nat × Nat),zs[i]?=some a→sm (aS up n) (eo.take a.1)+sm (bS up m) (po.take a.2)+a.1*a.2=a.1*n+a.2*m
 len:tss.length+1=zs.length
 lay:∀(i:Nat) (a b:Nat × Nat) (t:List Int),zs[i]?=some a→zs[i+1]?=some b→tss[i]?=some t →
  t.Perm (((eo.drop a.1).take (b.1-a.1)).map (cQ 0)++((po.drop a.2).take (b.2-a.2)).map (cQ m))∧t.Pairwise (·≤·)
section
variable {up:Nat→Nat→Bool}{m n:Nat}{tss:List (List Int)}{zs:List (Nat × Nat)}{eo po:List Nat}
theorem Lay.at(L:Lay up m n tss zs eo po){i:Nat}(hi:i<tss.length):∃ a b,zs[i]?=some a∧zs[i+1]?=some b∧a.1≤b.1∧a.2≤b.2∧b.1≤m∧b.2≤n∧0<(b.1-a.1)+(b.2-a.2) ∧
  tss[i].Perm (((eo.drop a.1).take (b.1-a.1)).map (cQ 0)++((po.drop a.2).take (b.2-a.2)).map (cQ m))∧tss[i].Pairwise (·≤·):=by
 have h1:i<zs.length:=by have:=L.len;omega
 have h2:i+1<zs.length:=by have:=L.len;omega
 have e1:=AhY h1
 have e2:=AhY h2
 obtain⟨s1,s2,s3⟩:=L.stp i _ _ e1 e2
 obtain⟨i1,i2⟩:=L.in_ _ _ e2
 obtain⟨l1,l2⟩:=L.lay i _ _ _ e1 e2 (AhY hi)
 exact⟨_,_,e1,e2,s1,s2,i1,i2,s3,l1,l2⟩
theorem Lay.Acq(L:Lay up m n tss zs eo po){a b:Nat × Nat}(h1:a.1≤b.1)(h2:a.2≤b.2)(h3:b.1≤m)(h4:b.2≤n) :
  ((eo.drop a.1).take (b.1-a.1)).length=b.1-a.1∧((po.drop a.2).take (b.2-a.2)).length=b.2-a.2:=by
 have l1:=L.oE.len
 have l2:=L.oP.len
 rw[Aib,Aim,Aib,Aim]
 omega
theorem Lay.count(L:Lay up m n tss zs eo po){i:Nat}(hi:i<tss.length){a b:Nat × Nat}(ea:zs[i]?=some a)(eb:zs[i+1]?=some b):tss[i].length=(b.1-a.1)+(b.2-a.2)∧(tss[i].filter fun z=>decide (z<(m:Int))).length=b.1-a.1:=by
 obtain⟨a',b',ea',eb',h1,h2,h3,h4,h5,p,_⟩:=L.at hi
 rw[ea] at ea'
 cases ea'
 rw[eb] at eb'
 cases eb'
 obtain⟨s1,s2⟩:=L.Acq h1 h2 h3 h4
 refine⟨by rw[p.length_eq,Aid,AhZ,AhZ,s1,s2],?_⟩
 rw[(p.filter _).length_eq,AiK,List.filter_eq_self.mpr,List.filter_eq_nil_iff.mpr,AiA,AhZ,s1]
 ·intro z hz
  obtain⟨k,_,rfl⟩:=List.mem_map.mp hz
  unfold cQ
  simp only [decide_eq_true_eq]
  omega
 ·intro z hz
  obtain⟨k,hk,rfl⟩:=List.mem_map.mp hz
  have:=L.oE.lt (AiL (Ai4 hk))
  unfold cQ
  simp only [decide_eq_true_eq]
  omega
theorem Lay.ne(L:Lay up m n tss zs eo po){i:Nat}(hi:i<tss.length):0<tss[i].length:=by
 obtain⟨a,b,ea,eb,_,_,_,_,h,_⟩:=L.at hi
 rw[(L.count hi ea eb).1]
 exact h
theorem Lay.part(L:Lay up m n tss zs eo po):∀ i (a:Nat × Nat),zs[i]?=some a→i≤tss.length→(tss.take i).flatten.Perm ((eo.take a.1).map (cQ 0)++(po.take a.2).map (cQ m))
 | 0,a,e,_=>by
  rw[L.fst] at e
  cases e
  rw[List.take_zero,List.take_zero,List.take_zero]
  exact List.Perm.refl _
 | i+1,b,e,hi=>by
  obtain⟨a,b',ea,eb,h1,h2,h3,h4,h5,p,_⟩:=L.at (i:=i) (by omega)
  rw[e] at eb
  cases eb
  have ih:=L.part i a ea (by omega)
  rw[Aj9 (by omega),List.flatten_append,Ai1,List.flatten_nil,AiA]
  have sp:∀(l:List Nat) (s s':Nat),s≤s'→l.take s'=l.take s++(l.drop s).take (s'-s):=fun l s s' h=>by
   conv=>lhs;rw[show s'=s+(s'-s) by omega]
   rw[List.take_add]
  rw[sp eo a.1 b.1 h1,sp po a.2 b.2 h2,Aio,Aio]
  refine(ih.append p).trans ?_
  rw[AiC,AiC]
  refine List.Perm.append_left _ ?_
  rw[← AiC,← AiC]
  exact List.Perm.append_right _ AjA
theorem map_range(m n:Nat):(List.range m).map (cQ 0)++(List.range n).map (cQ m)=(List.range (m+n)).map fun k=>((k:Nat):Int):=by
 apply AjO
 ·simp
 ·intro i h1 h2
  rw[List.getElem_append]
  split
  ·simp[cQ]
  ·rename_i h
   simp[cQ] at h ⊢
   omega
theorem Lay.all(L:Lay up m n tss zs eo po):tss.flatten.Perm ((List.range (m+n)).map fun k=>((k:Nat):Int)):=by
 have hl:=L.len
 have e:zs[tss.length]?=some (m,n):=by rw[show tss.length=zs.length-1 by omega];exact L.lst
 have p:=L.part tss.length (m,n) e (AhX _)
 rw[Aiy (AhX _),Aiy (by rw[L.oE.len];exact AhX _),Aiy (by rw[L.oP.len];exact AhX _)] at p
 rw[← map_range]
 exact p.trans ((L.oE.perm.map _).append (L.oP.perm.map _))
theorem Lay.nd(L:Lay up m n tss zs eo po):tss.flatten.Nodup:=by
 rw[L.all.nodup_iff]
 show List.Pairwise _ _
 rw[AiE]
 exact List.nodup_range.imp fun {a b} h e=>h (by omega)
theorem AcO:∀{tss:List (List Int)} {i:Nat} (hi:i<tss.length),tss.flatten.Nodup→tss[i].Nodup
 | t::tss,0,_,h=>by rw[Ai1] at h;exact(List.nodup_append.mp h).1
 | t::tss,i+1,hi,h=>by rw[Ai1] at h;exact AcO (tss:=tss) (i:=i) (by simpa using hi) (List.nodup_append.mp h).2.1
theorem Lay.inc(L:Lay up m n tss zs eo po){i:Nat}(hi:i<tss.length):tss[i].Pairwise (·<·):=by
 obtain⟨_,_,_,_,_,_,_,_,_,_,p⟩:=L.at hi
 exact(p.and (AcO hi L.nd)).imp fun {a b} ⟨h1,h2⟩=>by omega
theorem Lay.mem(L:Lay up m n tss zs eo po){i:Nat}(hi:i<tss.length){z:Int}(hz:z∈tss[i]):0≤z∧z<((m+n:Nat):Int):=by
 have:z∈tss.flatten:=List.mem_flatten.mpr ⟨_,Aie hi,hz⟩
 obtain⟨k,hk,rfl⟩:=List.mem_map.mp (L.all.mem_iff.mp this)
 have:=List.mem_range.mp hk
 omega
theorem Lay.has(L:Lay up m n tss zs eo po){k:Nat}(hk:k<m+n):∃ i,∃ hi:i<tss.length,((k:Nat):Int)∈tss[i]:=by
 have:((k:Nat):Int)∈tss.flatten:=L.all.mem_iff.mpr (List.mem_map.mpr ⟨k,List.mem_range.mpr hk,rfl⟩)
 obtain⟨t,ht,hz⟩:=List.mem_flatten.mp this
 obtain⟨i,hi,e⟩:=Aiu ht
 exact⟨i,hi,by rw[e];exact hz⟩
theorem Uk:∀{tss:List (List Int)},tss.flatten.Nodup→∀{i j:Nat} (hi:i<tss.length) (hj:j<tss.length) {z:Int},z∈tss[i]→z∈tss[j]→i=j
 | t::tss,h,0,0,_,_,_,_,_=>rfl
 | t::tss,h,0,j+1,_,hj,z,h1,h2=>by
  rw[Ai1] at h
  have:=(List.nodup_append.mp h).2.2 z h1 z (List.mem_flatten.mpr ⟨_,Aie (by simpa using hj),h2⟩)
  exact absurd rfl this
 | t::tss,h,i+1,0,hi,_,z,h1,h2=>by
  rw[Ai1] at h
  have:=(List.nodup_append.mp h).2.2 z h2 z (List.mem_flatten.mpr ⟨_,Aie (by simpa using hi),h1⟩)
  exact absurd rfl this
 | t::tss,h,i+1,j+1,hi,hj,z,h1,h2=>by
  rw[Ai1] at h
  rw[Uk (List.nodup_append.mp h).2.1 (i:=i) (j:=j) (by simpa using hi) (by simpa using hj) h1 h2]
theorem Lay.mono(L:Lay up m n tss zs eo po){i:Nat}{a:Nat × Nat}(ea:zs[i]?=some a):∀(d:Nat) (b:Nat × Nat),zs[i+d]?=some b→a.1≤b.1∧a.2≤b.2
 | 0,b,eb=>by rw[AiZ,ea] at eb;cases eb;exact⟨AhX _,AhX _⟩
 | d+1,b,eb=>by
  have hl:i+d<zs.length:=by have:=(List.getElem?_eq_some_iff.mp eb).1;omega
  obtain⟨h1,h2⟩:=L.mono ea d zs[i+d] (AhY hl)
  obtain⟨h3,h4,_⟩:=L.stp (i+d) _ b (AhY hl) eb
  omega
theorem O6{l:List Nat}{s s':Nat}(h:s≤s'){x:Nat}(hx:x∈(l.drop s).take (s'-s)):x∈l.take s':=by
 have:l.take s'=l.take s++(l.drop s).take (s'-s):=by
  conv=>lhs;rw[show s'=s+(s'-s) by omega]
  rw[List.take_add]
 rw[this]
 exact Ait _ hx
theorem O7{l:List Nat}{s s' b:Nat}(h:b≤s){x:Nat}(hx:x∈(l.drop s).take (s'-s)):x∈l.drop b:=by
 have h1:=Ai4 hx
 have:l.drop s=(l.drop b).drop (s-b):=by rw[Aji];congr 1;omega
 rw[this] at h1
 exact AiL h1
theorem Lay.cross(L:Lay up m n tss zs eo po){i j:Nat}(hi:i<tss.length)(hj:j<tss.length){k p:Nat}(hk:k<m)(h1:((k:Nat):Int)∈tss[i])(h2:((m+p:Nat):Int)∈tss[j]) :
  (i<j→up k p=true)∧(j<i→up k p=false):=by
 obtain⟨a,b,ea,eb,x1,x2,x3,x4,_,pa,_⟩:=L.at hi
 obtain⟨c,d,ec,ed,y1,y2,y3,y4,_,pc,_⟩:=L.at hj
 have ke:k∈(eo.drop a.1).take (b.1-a.1):=by
  rcases List.mem_append.mp (pa.mem_iff.mp h1) with h | h
  ·obtain⟨k',hk',e⟩:=List.mem_map.mp h
   unfold cQ at e
   rw[show k=k' by omega]
   exact hk'
  ·obtain⟨k',hk',e⟩:=List.mem_map.mp h
   unfold cQ at e
   omega
 have pe:p∈(po.drop c.2).take (d.2-c.2):=by
  rcases List.mem_append.mp (pc.mem_iff.mp h2) with h | h
  ·obtain⟨k',hk',e⟩:=List.mem_map.mp h
   have:=L.oE.lt (AiL (Ai4 hk'))
   unfold cQ at e
   omega
  ·obtain⟨k',hk',e⟩:=List.mem_map.mp h
   unfold cQ at e
   rw[show p=k' by omega]
   exact hk'
 have ov:∀(q:Nat) (g:Nat × Nat),zs[q]?=some g→(∀ x∈eo.take g.1,∀ y∈po.drop g.2,up x y=true)∧∀ y∈po.take g.2,∀ x∈eo.drop g.1,up x y=false:=fun q g eg=>by
  have hg:=L.in_ q g eg
  refine WN up (by rw[Ai0];exact L.oE.perm) (by rw[Ai0];exact L.oP.perm) ?_
  rw[Aib,Aib,L.oE.len,L.oP.len,Ai3 hg.1,Ai3 hg.2]
  exact L.z q g eg
 refine⟨fun lt=>?_,fun lt=>?_⟩
 ·have hm:=(L.mono eb (j-(i+1)) c (by rw[show i+1+(j-(i+1))=j by omega];exact ec)).2
  exact(ov _ _ eb).1 k (O6 x1 ke) p (O7 hm pe)
 ·have hm:=(L.mono ed (i-(j+1)) a (by rw[show j+1+(i-(j+1))=i by omega];exact ea)).1
  exact(ov _ _ ed).2 p (O6 y2 pe) k (O7 hm ke)
theorem Ek{f:Nat→Nat}{l:List Nat}{s:Nat}(h:s<l.length):sm f (l.take (s+1))=sm f (l.take s)+f l[s]:=by
 rw[Aj9 h,Jd]
 rfl
theorem Vl{l:List Int}{x:Int}{l':List Int}(h:l.Perm l')(hl:l=[x]):l'=[x]:=by
 rw[hl] at h
 exact(List.perm_singleton.mp h.symm)
theorem Lay.AcP(L:Lay up m n tss zs eo po){i:Nat}(hi:i+1<tss.length){x y:Int}(h1:tss[i]=[x])(h2:tss[i+1]=[y])(hs:(x<(m:Int))↔(y<(m:Int))):x<y:=by
 obtain⟨a,b,ea,eb,x1,x2,x3,x4,_,pa,_⟩:=L.at (i:=i) (by omega)
 obtain⟨b',d,eb',ed,y1,y2,y3,y4,_,pc,_⟩:=L.at hi
 rw[eb] at eb'
 cases eb'
 obtain⟨c1,f1⟩:=L.count (i:=i) (by omega) ea eb
 obtain⟨c2,f2⟩:=L.count hi eb ed
 rw[h1] at c1 f1
 rw[h2] at c2 f2
 have lE:=L.oE.len
 have lP:=L.oP.len
 have za:=L.z _ _ ea
 have zb:=L.z _ _ eb
 have zd:=L.z _ _ ed
 have pw1:=List.pairwise_iff_getElem.mp L.oE.ord
 have pw2:=List.pairwise_iff_getElem.mp L.oP.ord
 have Acr:∀(l:List Nat) (s:Nat) (h:s<l.length),(l.drop s).take (s+1-s)=[l[s]]:=fun l s h=>by
  rw[show s+1-s=1 by omega,AiX h]
  rfl
 have Acs:∀(l:List Nat) (s:Nat),(l.drop s).take (s-s)=[]:=fun l s=>by rw[AiM];rfl
 have c1':1=(b.1-a.1)+(b.2-a.2):=c1
 have c2':1=(d.1-b.1)+(d.2-b.2):=c2
 by_cases hx:x<(m:Int)
 ·have hy:=hs.mp hx
  rw[Ajw (by simpa using hx),Ajx] at f1
  rw[Ajw (by simpa using hy),Ajx] at f2
  have f1':1=b.1-a.1:=f1
  have f2':1=d.1-b.1:=f2
  have e1:b.1=a.1+1:=by omega
  have e2:d.1=a.1+1+1:=by omega
  have e3:b.2=a.2:=by omega
  have e4:d.2=a.2:=by omega
  have q1:=Vl pa h1
  have q2:=Vl pc h2
  rw[e1,e3,Acr eo a.1 (by omega),Acs] at q1
  rw[e2,e4,e1,e3,Acr eo (a.1+1) (by omega),Acs] at q2
  rw[AiH,AiA,Aiq,AiH] at q1 q2
  have r1:=(List.cons.inj q1).1
  have r2:=(List.cons.inj q2).1
  rw[e1,e3,Ek (by omega),Aiw,Aiw] at zb
  rw[e2,e4,Ek (by omega),Ek (by omega),Aiw,Aiw,Aiw,Aiw] at zd
  have o:=pw1 a.1 (a.1+1) (by omega) (by omega) (by omega)
  unfold cQ at r1 r2
  omega
 ·have hy:=fun z=>hx (hs.mpr z)
  rw[Ajy (by simpa using hx),Ajx] at f1
  rw[Ajy (by simpa using hy),Ajx] at f2
  have f1':0=b.1-a.1:=f1
  have f2':0=d.1-b.1:=f2
  have e1:b.2=a.2+1:=by omega
  have e2:d.2=a.2+1+1:=by omega
  have e3:b.1=a.1:=by omega
  have e4:d.1=a.1:=by omega
  have q1:=Vl pa h1
  have q2:=Vl pc h2
  rw[e1,e3,Acr po a.2 (by omega),Acs] at q1
  rw[e2,e4,e1,e3,Acr po (a.2+1) (by omega),Acs] at q2
  rw[AiH,AiW,Aiq,AiH] at q1 q2
  have r1:=(List.cons.inj q1).1
  have r2:=(List.cons.inj q2).1
  rw[e1,e3,Ek (by omega),Nat.mul_succ,Aiw] at zb
  rw[e2,e4,Ek (by omega),Ek (by omega),Nat.mul_succ,Nat.mul_succ,Aiw,Aiw] at zd
  have o:=pw2 a.2 (a.2+1) (by omega) (by omega) (by omega)
  unfold cQ at r1 r2
  omega
theorem Lay.uniq{Sd:List (List Int)}{eo' po':List Nat}(L:Lay up m n tss zs eo po)(L':Lay up m n Sd zs eo' po'):tss=Sd:=by
 have e1:=L.oE.uniq L'.oE
 have e2:=L.oP.uniq L'.oP
 subst e1 e2
 have hl:tss.length=Sd.length:=by have:=L.len;have:=L'.len;omega
 refine AjO hl fun i h1 h2=>?_
 obtain⟨a,b,ea,eb,_,_,_,_,_,p,_⟩:=L.at h1
 obtain⟨p',_⟩:=L'.lay i a b _ ea eb (AhY h2)
 exact My (fun a b h1 h2=>by omega) (p.trans p'.symm) (L.inc h1) (L'.inc h2)
end
def wid (cl:List (List Nat))(ac:Nat):List (List Nat):=cl.map fun t=>(List.replicate ac t).flatten
def til (cl:List (List Nat))(ac al:Nat):List (List Nat):=(List.replicate al (wid cl ac)).flatten
def Sq3 (c:Nat):Prop:=c=35∨c=46∨c=63
structure Hc (cl:List (List Nat)) (m n:Nat):Prop where
 hn:cl.length=n
 hm:∀ t∈cl,t.length=m
 sg:∀ t∈cl,∀ c∈t,Sq3 c
 m2:2≤m
 m40:m≤40
 n2:2≤n
 n40:n≤40
def sg2 (cl:List (List Nat))(p e:Nat):Nat:=(cl.getD p []).getD e 0
def Up (N:Int)(ks:List Int):Prop:=(∀(i:Nat) (a b:Int),ks[i]?=some a→ks[i+1]?=some b→a<b)∧∀ k∈ks,0≤k∧k<N
def AfJ (N:Int)(ks:List Int):Prop:=ks≠[]∧Up N ks
def Ag3 (cl:List (List Nat))(m e:Nat)(k:Nat):List Int:=((List.range k).filter fun p=>decide (sg2 cl p e≠46)).map fun p=>(m:Int)+((p:Nat):Int)
def lowP(t:List Nat)(k:Nat):List Int:=((List.range k).filter fun e=>decide (t.getD e 0≠35)).map fun e=>((e:Nat):Int)
def lows(cl:List (List Nat))(m:Nat):List (List Int):=((List.range m).map fun e=>Ag3 cl m e cl.length)++cl.map fun t=>lowP t m
def Ahl (cl:List (List Nat))(m n:Nat)(ks:List Int):Prop:=∀(s:Nat) (l:List Int),s<m+n→(s:Int)∉ks→(lows cl m)[s]?=some l→∀ r∈l,r∉ks
def CutAt(cl:List (List Nat))(m:Nat)(ks:List Int)(p e:Nat):Prop:=((e:Int)∈ks→((m:Int)+(p:Int))∉ks→sg2 cl p e=35)∧(((m:Int)+(p:Int))∈ks→(e:Int)∉ks→sg2 cl p e=46)
inductive Wy (tss:List (List Int)) (s:Nat):Nat→Nat→Prop where
 | nil:Wy tss s 0 s
 | snoc {v w L:Nat} (h:Wy tss s L v) (e:(w:Int)∈tss.getD v []):Wy tss s (L+1) w
structure Bf (tss:List (List Int)) (s:Nat) (ps:List (Nat × Option Nat)) (dp:List Nat):Prop where
 len:dp.length=ps.length
 st:ps[0]?=some (s,none)∧dp[0]?=some 0
 nd:∀(i j v:Nat) (a b:Option Nat),ps[i]?=some (v,a)→ps[j]?=some (v,b)→i=j
 lt:∀(v:Nat) (a:Option Nat),(v,a)∈ps→v<tss.length
 par:∀(i v:Nat) (a:Option Nat),0<i→ps[i]?=some (v,a)→∃(j u:Nat) (b:Option Nat) (d:Nat),a=some u∧j<i∧ps[j]?=some (u,b)∧dp[j]?=some d∧dp[i]?=some (d+1)∧(v:Int)∈tss.getD u []
 mono:∀(i j a b:Nat),i≤j→dp[i]?=some a→dp[j]?=some b→a≤b
def Dn (tss:List (List Int))(ps:List (Nat × Option Nat))(dp:List Nat)(pl:Nat):Prop :=
 ∀(i u:Nat) (b:Option Nat) (a:Nat),i<pl→ps[i]?=some (u,b)→dp[i]?=some a→∀ w:Nat,(w:Int)∈tss.getD u []→∃(j:Nat) (c:Option Nat) (x:Nat),ps[j]?=some (w,c)∧dp[j]?=some x∧x≤a+1
def Pth (tss:List (List Int))(l:List Nat):Prop:=∀(i a b:Nat),l[i]?=some a→l[i+1]?=some b→(b:Int)∈tss.getD a []
structure NS (N:Nat) (ws:List Nat):Prop where
 ne:ws≠[]
 up:ws.Pairwise (·<·)
 lt:∀ v∈ws,v<N
def cI (ws:List Nat):List Int:=ws.map fun v=>((v:Nat):Int)
theorem Gd:∀(l ws:List Nat),l.Nodup→(∀ v∈l,v∈ws)→l.length≤ws.length
 | [],ws,_,_=>Aik _
 | a::l,ws,nd,h=>by
  obtain⟨na,nl⟩:=List.nodup_cons.mp nd
  have ha:=h a Aii
  have:=Gd l (ws.erase a) nl fun v hv=>by
   refine(List.mem_erase_of_ne (fun(e:v=a)=>na (by rw[← e];exact hv))).mpr (h v (Aij _ hv))
  rw[List.length_erase_of_mem ha] at this
  have:0<ws.length:=AjB ha
  rw[Ai2]
  omega
def Ag4 (tss:List (List Int))(ws:List Nat)(v:Nat):List Int:=(tss.getD v []).filter fun z=>decide (z∈cI ws)
def Ag5 (tss:List (List Int))(ws us:List Nat):List (List Int):=(List.range tss.length).map fun v=>if v∈us then Ag4 tss ws v else []
def nar (tss:List (List Int))(ws:List Nat):List (List Int):=Ag5 tss ws ws
def AhO (tss:List (List Int))(ws:List Nat):Prop:=∀ u∈ws,∀ v∈ws,∃ L,Wy (nar tss ws) u L v
structure Lf (tss:List (List Int)) (ws fs:List Nat):Prop where
 ne:fs≠[]
 len:fs.length<ws.length
 sub:∀ v∈fs,v∈ws
 up:fs.Pairwise (·<·)
 off:∀ o∈ws,o∉fs→∀ v∈fs,(v:Int)∉tss.getD o []
structure Rd (tss:List (List Int)) (ws found:List Nat):Prop where
 fst:found[0]?=ws[0]?
 ins:∀ v∈found,v∈ws
 all:∀ v∈ws,v∈found
 len:found.length≤ws.length*ws.length
 one:ws.length=1→found=ws
 nxt:1<ws.length→∀ i a b:Nat,found[i]?=some a→found[(i+1)%found.length]?=some b→(b:Int)∈tss.getD a []
structure Wk (tss:List (List Int)) (ws:List Nat) (f i:Nat) (as bs:List Nat) (c:Nat):Prop where
 e:as=bs++[c]
 fst:as[0]?=some f
 ins:∀ v∈as,v∈ws
 has:∀ v∈ws.take (i+1),v∈as
 pth:Pth (nar tss ws) as
 len:as.length≤1+i*(ws.length-1)
 lst:(i=0∧as=[f])∨(0<i∧c≠f)
theorem AcQ{f:Nat→Nat}{c:Nat}:∀{l:List Nat},(∀ x∈l,f x≤c)→sm f l≤l.length*c
 | [],_=>Aik _
 | z::l,h=>by
  have h1:=h z Aii
  have h2:=AcQ fun x hx=>h x (Aij z hx)
  show f z+sm f l≤(l.length+1)*c
  rw[Aiw]
  omega
theorem AcR{f:Nat→Nat}{c:Nat}:∀{l:List Nat},(∀ x∈l,c≤f x)→l.length*c≤sm f l
 | [],_=>by show 0*c≤0;omega
 | z::l,h=>by
  have h1:=h z Aii
  have h2:=AcR fun x hx=>h x (Aij z hx)
  show(l.length+1)*c≤f z+sm f l
  rw[Aiw]
  omega
theorem WQ(f:Nat→Nat)(p:Nat→Bool)(l:List Nat):sm f l=sm f (l.filter p)+sm f (l.filter fun x=>!p x)∧l.length=(l.filter p).length+(l.filter fun x=>!p x).length:=by
 have h:=List.filter_append_perm p l
 refine⟨?_,?_⟩
 ·rw[← HD f h,Jd]
 ·rw[← h.length_eq,Aid]
theorem Ord.best{key:Nat→Nat}{N:Nat}{l:List Nat}(o:Ord key N l){S:List Nat}(nd:S.Nodup)(sub:∀ x∈S,x<N):sm key S≤sm key (l.take S.length):=by
 have hl:=o.len
 have hs:S.length≤N:=by
  have:=Gd S (List.range N) nd fun x hx=>List.mem_range.mpr (sub x hx)
  rwa [Aih] at this
 by_cases h0:S.length=0
 ·rw[List.length_eq_zero_iff.mp h0]
  exact Aik _
 have hk:S.length-1<l.length:=by omega
 have pw:=List.pairwise_iff_getElem.mp o.ord
 have hi:∀ x∈l.take S.length,key l[S.length-1]≤key x:=fun x hx=>by
  obtain⟨i,hi,e⟩:=Aiu hx
  rw[Aib] at hi
  rw[AjC] at e
  rw[← e]
  by_cases e2:i=S.length-1
  ·subst e2;exact AhX _
  ·have:=pw i (S.length-1) (by omega) hk (by omega)
   omega
 have lo:∀ x∈l,x∉l.take S.length→key x≤key l[S.length-1]:=fun x hx hn=>by
  obtain⟨i,hi,e⟩:=Aiu hx
  have:¬i<S.length:=fun h=>hn (by rw[← e];exact List.mem_take_iff_getElem.mpr ⟨i,by omega,rfl⟩)
  have q:=pw (S.length-1) i hk hi (by omega)
  rw[← e]
  omega
 obtain⟨a1,a2⟩:=WQ key (fun x=>decide (x∈l.take S.length)) S
 obtain⟨b1,b2⟩:=WQ key (fun x=>decide (x∈S)) (l.take S.length)
 have ndP:(l.take S.length).Nodup:=o.nd.sublist (AiU _ _)
 have pm:(S.filter fun x=>decide (x∈l.take S.length)).Perm ((l.take S.length).filter fun x=>decide (x∈S)) :=
  (AjQ (nd.filter _) (ndP.filter _)).mpr fun x=>by
   rw[AiF,AiF,decide_eq_true_iff,decide_eq_true_iff]
   exact And.comm
 have e1:=HD key pm
 have e2:=pm.length_eq
 have lt:(l.take S.length).length=S.length:=by rw[Aib];omega
 have u1:=AcQ (f:=key) (c:=key l[S.length-1]) (l:=S.filter fun x=>!decide (x∈l.take S.length)) fun x hx=>by
  obtain⟨h1,h2⟩:=List.mem_filter.mp hx
  refine lo x (o.perm.mem_iff.mpr (List.mem_range.mpr (sub x h1))) fun z=>?_
  rw[decide_eq_true z] at h2
  cases h2
 have u2:=AcR (f:=key) (c:=key l[S.length-1]) (l:=(l.take S.length).filter fun x=>!decide (x∈S)) fun x hx=>hi x (List.mem_filter.mp hx).1
 have e3:(S.filter fun x=>!decide (x∈l.take S.length)).length=((l.take S.length).filter fun x=>!decide (x∈S)).length:=by omega
 rw[e3] at u1
 omega
theorem Yu(up:Nat→Nat→Bool){m n:Nat}{S S' T T':List Nat}(hS:(S++S').Perm (List.range m))(hT:(T++T').Perm (List.range n))
  (h1:∀ x∈S,∀ y∈T',up x y=true) (h2:∀ y∈T,∀ x∈S',up x y=false):sm (aS up n) S+sm (bS up m) T+S.length*T.length=S.length*n+T.length*m:=by
 have hm:S.length+S'.length=m:=by have:=hS.length_eq;rwa [Aid,Aih] at this
 have hn:T.length+T'.length=n:=by have:=hT.length_eq;rwa [Aid,Aih] at this
 have g1:sm (aS up n) S=sm (fun e=>sm (fun p=>b2n (up e p)) T) S+S.length*T'.length:=by
  rw[← DN,← JQ]
  refine J1 fun e he=>?_
  unfold aS
  rw[← HD _ hT,Jd]
  have:sm (fun p=>b2n (up e p)) T'=T'.length:=by
   rw[← Aju T'.length,← DN]
   exact J1 fun p hp=>by rw[h1 e he p hp];rfl
  rw[this]
 have g2:sm (bS up m) T=sm (fun p=>sm (fun e=>b2n (!up e p)) S) T+T.length*S'.length:=by
  rw[← DN,← JQ]
  refine J1 fun p hp=>?_
  unfold bS
  rw[← HD _ hS,Jd]
  have:sm (fun e=>b2n (!up e p)) S'=S'.length:=by
   rw[← Aju S'.length,← DN]
   exact J1 fun e he=>by rw[h2 p hp e he];rfl
  rw[this]
 have g3:=cross up T S
 have e1:S.length*n=S.length*T.length+S.length*T'.length:=by rw[← hn,Ajf]
 have e2:T.length*m=S.length*T.length+T.length*S'.length:=by rw[← hm,Ajf,Aj1 T.length S.length]
 omega
theorem Ul{N:Nat}{S:List Nat}(nd:S.Nodup)(sub:∀ x∈S,x<N):(S++(List.range N).filter fun x=>decide (x∉S)).Perm (List.range N):=by
 refine(AjQ ?_ AjP).mpr fun x=>?_
 ·rw[AjD]
  refine⟨nd,List.nodup_range.filter _,fun a ha b hb e=>?_⟩
  have:=of_decide_eq_true (List.mem_filter.mp hb).2
  rw[← e] at this
  exact this ha
 ·rw[AiT,AiF,List.mem_range,decide_eq_true_iff]
  constructor
  ·rintro(h | h)
   ·exact sub x h
   ·exact h.1
  ·intro h
   by_cases hx:x∈S
   ·exact .inl hx
   ·exact .inr ⟨h,hx⟩
section
variable {up:Nat→Nat→Bool}{m n:Nat}{tss:List (List Int)}{zs:List (Nat × Nat)}{eo po:List Nat}
end
structure Ov (m N:Nat) (O:Nat→Nat→Prop):Prop where
 lt:∀{u v},O u v→u<N∧v<N
 kd:∀{u v},O u v→(u<m↔¬v<m)
 tot:∀{u v},u<N→v<N→(u<m↔¬v<m)→O u v∨O v u
 asy:∀{u v},O u v→¬O v u
def Clo (O:Nat→Nat→Prop)(X:List Nat):Prop:=∀ u v,v∈X→O u v→u∈X
def cE (m:Nat)(X:List Nat):Nat:=(X.filter fun x=>decide (x<m)).length
def cP (m:Nat)(X:List Nat):Nat:=(X.filter fun x=>!decide (x<m)).length
def cK (m b:Nat)(X:List Nat):Nat:=(X.filter fun x=>decide (x<m↔b<m)).length
def cO (m b:Nat)(X:List Nat):Nat:=(X.filter fun x=>!decide (x<m↔b<m)).length
structure Swp (O:Nat→Nat→Prop) (m N:Nat) (X X'':List Nat):Prop where
 nd:X''.Nodup
 lt:∀ x∈X'',x<N
 clo:Clo O X''
 e:cE m X''=cE m X
 p:cP m X''=cP m X
section
variable {m N:Nat}{O:Nat→Nat→Prop}
def turn(O:Nat→Nat→Prop)(a b u v:Nat):Prop:=(O u v∧¬(u=a∧v=b))∨(u=b∧v=a)
end
def ovU (up:Nat→Nat→Bool)(m n u v:Nat):Prop:=(u<m∧m≤v∧v<m+n∧up u (v-m)=true)∨(m≤u∧u<m+n∧v<m∧up v (u-m)=false)
structure Tpz (up:Nat→Nat→Bool) (m n:Nat) (zs:List (Nat × Nat)) (eo po:List Nat):Prop where
 oE:Ord (aS up n) m eo
 oP:Ord (bS up m) n po
 mem:∀ s t,(s,t)∈zs↔s≤m∧t≤n∧sm (aS up n) (eo.take s)+sm (bS up m) (po.take t)+s*t=s*n+t*m
 lex:zs.Pairwise lexLt
 chn:∀ a b,a∈zs→b∈zs→lexLt a b→a.1≤b.1∧a.2≤b.2
def J4 (m:Nat)(eo po:List Nat)(s t:Nat):List Nat:=eo.take s++(po.take t).map (m+·)
section
variable {up:Nat→Nat→Bool}{m n:Nat}{zs:List (Nat × Nat)}{eo po:List Nat}
theorem Yv{x s t:Nat}(h:x<m):x∈J4 m eo po s t↔x∈eo.take s:=by
 unfold J4
 rw[AiT]
 refine⟨fun z=>z.elim id fun z=>?_,.inl⟩
 obtain⟨y,_,e⟩:=List.mem_map.mp z
 omega
theorem Yw{y s t:Nat}(oE:Ord (aS up n) m eo):m+y∈J4 m eo po s t↔y∈po.take t:=by
 unfold J4
 rw[AiT]
 refine⟨fun z=>z.elim (fun z=>?_) fun z=>?_,fun h=>.inr (List.mem_map.mpr ⟨y,h,rfl⟩)⟩
 ·have:=oE.lt (Ai4 z)
  omega
 ·obtain⟨y',h,e⟩:=List.mem_map.mp z
  rw[show y=y' by omega]
  exact h
theorem Tpz.X(T:Tpz up m n zs eo po){s t:Nat}(h:(s,t)∈zs):(J4 m eo po s t).Nodup∧(∀ x∈J4 m eo po s t,x<m+n)∧Clo (ovU up m n) (J4 m eo po s t)∧cE m (J4 m eo po s t)=s∧cP m (J4 m eo po s t)=t:=by
 obtain⟨h1,h2,h3⟩:=(T.mem s t).mp h
 have lE:=T.oE.len
 have lP:=T.oP.len
 have fE:∀ x∈eo.take s,x<m:=fun x hx=>T.oE.lt (Ai4 hx)
 have fP:∀ y∈(po.take t).map (m+·),¬y<m:=fun y hy=>by obtain⟨z,_,rfl⟩:=List.mem_map.mp hy;omega
 have ov:=WN up (S:=eo.take s) (S':=eo.drop s) (T:=po.take t) (T':=po.drop t) (by rw[Ai0];exact T.oE.perm) (by rw[Ai0];exact T.oP.perm) (by
  rw[Aib,Aib,lE,lP,Ai3 h1,Ai3 h2]
  exact h3)
 refine⟨?_,fun x hx=>?_,fun u v hv ho=>?_,?_,?_⟩
 ·unfold J4
  rw[AjD]
  refine⟨T.oE.nd.sublist (AiU _ _),?_,fun x hx y hy e=>fP y hy (by rw[← e];exact fE x hx)⟩
  show List.Pairwise _ _
  rw[AiE]
  exact(T.oP.nd.sublist (AiU _ _)).imp fun {a b} h e=>h (by omega)
 ·unfold J4 at hx
  rcases List.mem_append.mp hx with h | h
  ·have:=fE x h;omega
  ·obtain⟨y,hy,rfl⟩:=List.mem_map.mp h
   have:=T.oP.lt (Ai4 hy)
   omega
 ·rcases ho with ⟨a1,a2,a3,a4⟩ | ⟨a1,a2,a3,a4⟩
  ·have e:m+(v-m)=v:=by omega
   rw[← e,Yw T.oE] at hv
   rw[Yv a1]
   have hu:u∈eo:=T.oE.perm.mem_iff.mpr (List.mem_range.mpr a1)
   rw[← Ai0 s eo,AiT] at hu
   rcases hu with hu | hu
   ·exact hu
   ·rw[ov.2 _ hv _ hu] at a4;cases a4
  ·have e:m+(u-m)=u:=by omega
   rw[Yv a3] at hv
   rw[← e,Yw T.oE]
   have hu:u-m∈po:=T.oP.perm.mem_iff.mpr (List.mem_range.mpr (by omega))
   rw[← Ai0 t po,AiT] at hu
   rcases hu with hu | hu
   ·exact hu
   ·rw[ov.1 _ hv _ hu] at a4;cases a4
 ·unfold cE J4
  rw[AiK,List.filter_eq_self.mpr (fun x hx=>decide_eq_true (fE x hx)),List.filter_eq_nil_iff.mpr (fun y hy z=>fP y hy (of_decide_eq_true z)),AiA,Aib]
  omega
 ·unfold cP J4
  rw[AiK,List.filter_eq_nil_iff.mpr (fun x hx z=>by rw[decide_eq_true (fE x hx)] at z;cases z),List.filter_eq_self.mpr (fun y hy=>by rw[decide_eq_false (fP y hy)];rfl),AiW,AhZ,Aib]
  omega
theorem Tpz.top(T:Tpz up m n zs eo po){X:List Nat}(nd:X.Nodup)(lt:∀ x∈X,x<m+n)(cl:Clo (ovU up m n) X):(cE m X,cP m X)∈zs:=by
 have hS:(X.filter fun x=>decide (x<m)).Nodup:=nd.filter _
 have hT:((X.filter fun x=>!decide (x<m)).map (·-m)).Nodup:=by
  show List.Pairwise _ _
  rw[AiE]
  refine(nd.filter _).imp_of_mem fun {a b} ha hb h e=>h ?_
  have h1:¬a<m:=by simpa using (List.mem_filter.mp ha).2
  have h2:¬b<m:=by simpa using (List.mem_filter.mp hb).2
  omega
 have inT:∀{y},y∈(X.filter fun x=>!decide (x<m)).map (·-m)↔m+y∈X:=fun {y}=>by
  rw[List.mem_map]
  constructor
  ·rintro⟨x,hx,e⟩
   obtain⟨h1,h2⟩:=List.mem_filter.mp hx
   have h3:¬x<m:=by simpa using h2
   rw[show m+y=x by omega]
   exact h1
  ·exact fun h=>⟨m+y,List.mem_filter.mpr ⟨h,by simp⟩,by omega⟩
 have inS:∀{x},x∈(X.filter fun x=>decide (x<m))↔x∈X∧x<m:=fun {x}=>by rw[AiF,decide_eq_true_iff]
 have lS:(X.filter fun x=>decide (x<m)).length≤m:=by
  have:=Gd _ (List.range m) hS fun x hx=>List.mem_range.mpr (inS.mp hx).2
  rwa [Aih] at this
 have ltT:∀ y∈(X.filter fun x=>!decide (x<m)).map (·-m),y<n:=fun y hy=>by
  have:=lt _ (inT.mp hy)
  omega
 have lT:((X.filter fun x=>!decide (x<m)).map (·-m)).length≤n:=by
  have:=Gd _ (List.range n) hT fun y hy=>List.mem_range.mpr (ltT y hy)
  rwa [Aih] at this
 have h1:∀ x∈(X.filter fun x=>decide (x<m)),∀ y,y<n→y∉(X.filter fun x=>!decide (x<m)).map (·-m)→up x y=true:=fun x hx y hy hn=>by
  cases e:up x y with
  | true=>rfl
  | false=>exact absurd (inT.mpr (cl (m+y) x (inS.mp hx).1 (.inr ⟨by omega,by omega,(inS.mp hx).2,by rw[show m+y-m=y by omega];exact e⟩))) hn
 have h2:∀ y∈(X.filter fun x=>!decide (x<m)).map (·-m),∀ x,x<m→x∉(X.filter fun x=>decide (x<m))→up x y=false:=fun y hy x hx hn=>by
  have hyn:=ltT y hy
  cases e:up x y with
  | false=>rfl
  | true=>exact absurd (inS.mpr ⟨cl x (m+y) (inT.mp hy) (.inl ⟨hx,by omega,by omega,by rw[show m+y-m=y by omega];exact e⟩),hx⟩) hn
 have e:=Yu up (Ul hS fun x hx=>(inS.mp hx).2) (Ul hT ltT) (fun x hx y hy=>by
  obtain⟨q1,q2⟩:=List.mem_filter.mp hy
  exact h1 x hx y (List.mem_range.mp q1) (of_decide_eq_true q2)) (fun y hy x hx=>by
  obtain⟨q1,q2⟩:=List.mem_filter.mp hx
  exact h2 y hy x (List.mem_range.mp q1) (of_decide_eq_true q2))
 have b1:=T.oE.best hS fun x hx=>(inS.mp hx).2
 have b2:=T.oP.best hT ltT
 have lo:=Abd up (S:=eo.take (X.filter fun x=>decide (x<m)).length) (S':=eo.drop (X.filter fun x=>decide (x<m)).length) (T:=po.take ((X.filter fun x=>!decide (x<m)).map (·-m)).length) (T':=po.drop ((X.filter fun x=>!decide (x<m)).map (·-m)).length) (by rw[Ai0];exact T.oE.perm) (by rw[Ai0];exact T.oP.perm)
 rw[Aib,Aib,T.oE.len,T.oP.len,Ai3 lS,Ai3 lT] at lo
 have el:((X.filter fun x=>!decide (x<m)).map (·-m)).length=cP m X:=by rw[AhZ];rfl
 rw[el] at lo b2 e lT
 have el2:(X.filter fun x=>decide (x<m)).length=cE m X:=rfl
 rw[el2] at lo b1 e lS
 exact(T.mem _ _).mpr ⟨lS,lT,by omega⟩
end
theorem lex_trans{a b c:Nat × Nat}(h1:lexLt a b)(h2:lexLt b c):lexLt a c:=by unfold lexLt at *;omega
theorem Acu(a b:Nat × Nat):lexLt a b∨a=b∨lexLt b a:=by
 obtain⟨a1,a2⟩:=a
 obtain⟨b1,b2⟩:=b
 unfold lexLt
 by_cases h:a1=b1
 ·by_cases h2:a2=b2
  ·exact .inr (.inl (by rw[h,h2]))
  ·dsimp only;omega
 ·dsimp only;omega
theorem WR{l:List (Nat × Nat)}(pw:l.Pairwise lexLt)(p:Nat × Nat→Bool)(dn:∀ a b,lexLt a b→p b=true→p a=true):l=l.filter p++l.filter fun x=>!p x:=by
 induction l with
 | nil=>rfl
 | cons a l ih =>
  obtain⟨h1,h2⟩:=List.pairwise_cons.mp pw
  have ih':=ih h2
  cases hp:p a with
  | true =>
   rw[Ajw hp,Ajy (by rw[hp];decide),AjL,← ih']
  | false =>
   have none:l.filter p=[]:=List.filter_eq_nil_iff.mpr fun x hx z=>by
    have:=dn a x (h1 x hx) z
    rw[hp] at this
    cases this
   rw[none,AiW] at ih'
   rw[Ajy (by rw[hp];decide),Ajw (by rw[hp];rfl),none,AiW,← ih']
theorem Um{l l':List (Nat × Nat)}(pw:l.Pairwise lexLt)(pw':l'.Pairwise lexLt)(h:∀ x,x∈l↔x∈l'):l=l':=by
 have nd:∀{l:List (Nat × Nat)},l.Pairwise lexLt→l.Nodup:=fun p=>p.imp fun {a b} h e=>by rw[e] at h;exact Zn h
 exact My (fun a b h1 h2=>WK h1 h2) ((AjQ (nd pw) (nd pw')).mpr h) pw pw'
theorem Uo{l:List (Nat × Nat)}(pw:l.Pairwise lexLt){i:Nat}{z:Nat × Nat}(hz:l[i]?=some z)(x:Nat × Nat):x∈l.take (i+1)↔x∈l∧¬lexLt z x:=by
 constructor
 ·intro h
  obtain⟨j,hj,e⟩:=Aiu h
  rw[Aib] at hj
  rw[AjC] at e
  refine⟨Ai4 h,fun lt=>?_⟩
  have:=Q9 (j:=j) pw hz (by rw[AhY (show j<l.length by omega),e]) lt
  omega
 ·rintro⟨h1,h2⟩
  obtain⟨j,hj,e⟩:=Aiu h1
  have e':l[j]?=some x:=by rw[AhY hj,e]
  have:j<i+1:=Classical.byContradiction fun hn=>by
   have hi:=(List.getElem?_eq_some_iff.mp hz)
   obtain⟨hi1,hi2⟩:=hi
   have:=List.pairwise_iff_getElem.mp pw i j hi1 hj (by omega)
   rw[hi2,e] at this
   exact h2 this
  exact List.mem_take_iff_getElem.mpr ⟨j,by omega,e⟩
theorem Uq{l:List (Nat × Nat)}(pw:l.Pairwise lexLt){i:Nat}{z:Nat × Nat}(hz:l[i]?=some z)(x:Nat × Nat):x∈l.drop i↔x∈l∧¬lexLt x z:=by
 obtain⟨hi1,hi2⟩:=List.getElem?_eq_some_iff.mp hz
 constructor
 ·intro h
  obtain⟨j,hj,e⟩:=Aiu h
  rw[Aim] at hj
  rw[AjE] at e
  refine⟨AiL h,fun lt=>?_⟩
  have:=Q9 (i:=i+j) pw (by rw[AhY (show i+j<l.length by omega),e]) hz lt
  omega
 ·rintro⟨h1,h2⟩
  obtain⟨j,hj,e⟩:=Aiu h1
  have:¬j<i:=fun hn=>by
   have:=List.pairwise_iff_getElem.mp pw j i hj hi1 hn
   rw[hi2,e] at this
   exact h2 this
  exact List.mem_drop_iff_getElem.mpr ⟨j-i,by omega,by rw[← e];congr 1;omega⟩
theorem agree{l l':List (Nat × Nat)}(pw:l.Pairwise lexLt)(pw':l'.Pairwise lexLt){i j:Nat}{u v:Nat × Nat}(hu:l[i]?=some u)(hv:l[j]?=some v)(huv:lexLt u v)(low:∀ x,¬lexLt u x→(x∈l'↔x∈l))(high:∀ x,¬lexLt x v→(x∈l'↔x∈l)) :
  ∃ mid,l'=l.take (i+1)++mid++l.drop j∧∀ x∈mid,x∈l'∧lexLt u x∧lexLt x v:=by
 have d1:∀ a b:Nat × Nat,lexLt a b→(fun x=>@decide (¬lexLt u x) (Classical.propDecidable _)) b=true→(fun x=>@decide (¬lexLt u x) (Classical.propDecidable _)) a=true:=fun a b h1 h2=>by
  have:=@of_decide_eq_true _ (Classical.propDecidable _) h2
  exact @decide_eq_true _ (Classical.propDecidable _) fun z=>this (lex_trans z h1)
 have d2:∀ a b:Nat × Nat,lexLt a b→(fun x=>@decide (lexLt x v) (Classical.propDecidable _)) b=true→(fun x=>@decide (lexLt x v) (Classical.propDecidable _)) a=true:=fun a b h1 h2=>by
  have:=@of_decide_eq_true _ (Classical.propDecidable _) h2
  exact @decide_eq_true _ (Classical.propDecidable _) (lex_trans h1 this)
 have s1:=WR pw' _ d1
 have pw2:=pw'.filter fun x=>!(@decide (¬lexLt u x) (Classical.propDecidable _))
 have s2:=WR pw2 _ d2
 refine⟨(l'.filter fun x=>!(@decide (¬lexLt u x) (Classical.propDecidable _))).filter fun x=>@decide (lexLt x v) (Classical.propDecidable _),?_,fun x hx=>?_⟩
 ·have e1:(l'.filter fun x=>@decide (¬lexLt u x) (Classical.propDecidable _))=l.take (i+1):=Um (pw'.filter _) (pw.sublist (AiU _ _)) fun x=>by
   rw[AiF,Uo pw hu,@decide_eq_true_iff _ (Classical.propDecidable _)]
   exact⟨fun h=>⟨(low x h.2).mp h.1,h.2⟩,fun h=>⟨(low x h.2).mpr h.1,h.2⟩⟩
  have e2:((l'.filter fun x=>!(@decide (¬lexLt u x) (Classical.propDecidable _))).filter fun x=>!(@decide (lexLt x v) (Classical.propDecidable _)))=l.drop j:=Um (pw2.filter _) (pw.sublist (List.drop_sublist _ _)) fun x=>by
   rw[AiF,AiF,Uq pw hv]
   simp only [Bool.not_eq_true',@decide_eq_false_iff_not _ (Classical.propDecidable _),Classical.not_not]
   constructor
   ·rintro⟨⟨h1,h2⟩,h3⟩
    exact⟨(high x h3).mp h1,h3⟩
   ·rintro⟨h1,h2⟩
    refine⟨⟨(high x h2).mpr h1,?_⟩,h2⟩
    rcases Acu x v with h | h | h
    ·exact absurd h h2
    ·rw[h];exact huv
    ·exact lex_trans huv h
  rw[e1] at s1
  rw[e2] at s2
  rw[AiC,← s2]
  exact s1
 ·obtain⟨h1,h2⟩:=List.mem_filter.mp hx
  obtain⟨h3,h4⟩:=List.mem_filter.mp h1
  simp only [Bool.not_eq_true',@decide_eq_false_iff_not _ (Classical.propDecidable _),Classical.not_not] at h4
  exact⟨h3,h4,@of_decide_eq_true _ (Classical.propDecidable _) h2⟩
theorem Zr{m:Nat}{A B:List Nat}(nd:A.Nodup)(h:∀ x∈A,x∈B):cE m A≤cE m B∧cP m A≤cP m B :=
  ⟨Gd _ _ (nd.filter _) fun x hx=>List.mem_filter.mpr ⟨h x (List.mem_filter.mp hx).1,(List.mem_filter.mp hx).2⟩,
   Gd _ _ (nd.filter _) fun x hx=>List.mem_filter.mpr ⟨h x (List.mem_filter.mp hx).1,(List.mem_filter.mp hx).2⟩⟩
section
variable {up up':Nat→Nat→Bool}{m n:Nat}{tss:List (List Int)}{zs zs':List (Nat × Nat)}{eo po eo' po':List Nat}
theorem Lay.seg(L:Lay up m n tss zs eo po){j:Nat}(hj:j<tss.length):∃ a b,zs[j]?=some a∧zs[j+1]?=some b∧a.1≤b.1∧a.2≤b.2∧b.1≤m∧b.2≤n ∧
  (∀ x,x<m→(((x:Nat):Int)∈tss[j]↔x∈(eo.drop a.1).take (b.1-a.1)))∧∀ y,(((m+y:Nat):Int)∈tss[j]↔y∈(po.drop a.2).take (b.2-a.2)):=by
 obtain⟨a,b,ea,eb,x1,x2,x3,x4,_,pa,_⟩:=L.at hj
 refine⟨a,b,ea,eb,x1,x2,x3,x4,fun x hx=>?_,fun y=>?_⟩
 ·rw[pa.mem_iff,AiT]
  constructor
  ·rintro(h | h)
   ·obtain⟨k,hk,e⟩:=List.mem_map.mp h
    unfold cQ at e
    rw[show x=k by omega]
    exact hk
   ·obtain⟨k,hk,e⟩:=List.mem_map.mp h
    unfold cQ at e
    omega
  ·exact fun h=>.inl (List.mem_map.mpr ⟨x,h,by unfold cQ;omega⟩)
 ·rw[pa.mem_iff,AiT]
  constructor
  ·rintro(h | h)
   ·obtain⟨k,hk,e⟩:=List.mem_map.mp h
    have:=L.oE.lt (AiL (Ai4 hk))
    unfold cQ at e
    omega
   ·obtain⟨k,hk,e⟩:=List.mem_map.mp h
    unfold cQ at e
    rw[show y=k by omega]
    exact hk
  ·exact fun h=>.inr (List.mem_map.mpr ⟨y,h,rfl⟩)
theorem WT{l:List Nat}{s s':Nat}(h:s≤s'){x:Nat}(hx:x∈l.take s):x∈l.take s':=by
 obtain⟨i,hi,e⟩:=List.mem_take_iff_getElem.mp hx
 exact List.mem_take_iff_getElem.mpr ⟨i,by omega,e⟩
theorem WW{l:List Nat}(nd:l.Nodup){s x:Nat}(h1:x∈l.take s)(h2:x∈l.drop s):False:=by
 rw[← Ai0 s l,AjD] at nd
 exact nd.2.2 x h1 x h2 rfl
theorem Lay.inX(L:Lay up m n tss zs eo po){i j:Nat}{c:Nat × Nat}(hj:j<tss.length)(ec:zs[i]?=some c){x:Nat}(hx:((x:Nat):Int)∈tss[j]):x∈J4 m eo po c.1 c.2↔j<i:=by
 obtain⟨a,b,ea,eb,x1,x2,x3,x4,inE,inP⟩:=L.seg hj
 by_cases hm:x<m
 ·rw[Yv hm]
  have hs:=(inE x hm).mp hx
  constructor
  ·intro h
   refine Classical.byContradiction fun hn=>?_
   have:=(L.mono ec (j-i) a (by rw[show i+(j-i)=j by omega];exact ea)).1
   exact WW L.oE.nd h (O7 this hs)
  ·intro h
   have:=(L.mono eb (i-(j+1)) c (by rw[show j+1+(i-(j+1))=i by omega];exact ec)).1
   exact WT this (O6 x1 hs)
 ·have e:m+(x-m)=x:=by omega
  rw[← e] at hx ⊢
  rw[Yw L.oE]
  have hs:=(inP _).mp hx
  constructor
  ·intro h
   refine Classical.byContradiction fun hn=>?_
   have:=(L.mono ec (j-i) a (by rw[show i+(j-i)=j by omega];exact ea)).2
   exact WW L.oP.nd h (O7 this hs)
  ·intro h
   have:=(L.mono eb (i-(j+1)) c (by rw[show j+1+(i-(j+1))=i by omega];exact ec)).2
   exact WT this (O6 x2 hs)
end
def plc (os:List Int)(k:Nat):Nat:=(os.take k).count (os.getD k 0)
def AeV (o e:Int)(own:List Nat)(p:Nat):Nat:=if o=e then own.getD p 0 else if e<o then 35 else 46
def AdK (ps:List (List (List Nat)))(es:List Int)(o:Int)(b:Nat):List Nat:=(List.range es.length).map fun k=>AeV o (es.getD k 0) ((ps.getD o.toNat []).getD b []) (plc es k)
def lay (ps:List (List (List Nat)))(es os:List Int):List (List Nat):=(List.range os.length).map fun j=>AdK ps es (os.getD j 0) (plc os j)
structure AhP (ps:List (List (List Nat))) (es os:List Int):Prop where
 e:∀ z∈es,0≤z∧z<(ps.length:Int)
 o:∀ z∈os,0≤z∧z<(ps.length:Int)
 hn:∀ i,i<ps.length→(ps.getD i []).length=os.count (i:Int)
 hm:∀ i,i<ps.length→∀ t∈ps.getD i [],t.length=es.count (i:Int)∧∀ c∈t,Sg c
 e1:1≤es.length
 e40:es.length≤40
 o1:1≤os.length
 o40:os.length≤40
structure Own (es:List Int) (z:Int) (i:Nat) (ms:List Nat):Prop where
 len:ms.length=(es.take i).count z
 lt:∀ m∈ms,m<i
 at':∀ a m,ms[a]?=some m→es.getD m 0=z∧(es.take m).count z=a
structure Blk (up:Nat→Nat→Bool) (m n q:Nat) (ow:Nat→Nat):Prop where
 lt:∀ x,x<m+n→ow x<q
 ov:∀ e p,e<m→p<n→(ow e<ow (m+p)→up e p=true)∧(ow (m+p)<ow e→up e p=false)
 hang:∀ X:Nat→Prop,(∀ u v,ovU up m n u v→X v→X u)→∀ x y,x<m+n→y<m+n→ow x=ow y→X x→X y
 AhQ:∀ j,j<q→∃ e,e<m∧ow e=j
 AhR:∀ j,j<q→∃ p,p<n∧ow (m+p)=j
section
variable {up:Nat→Nat→Bool}{m n q:Nat}{ow:Nat→Nat}{zs:List (Nat × Nat)}{eo po:List Nat}{tss:List (List Int)}
def Ec (m:Nat)(ow:Nat→Nat)(t:Nat):Nat:=((List.range m).filter fun e=>decide (ow e<t)).length
def Pct (m n:Nat)(ow:Nat→Nat)(t:Nat):Nat:=((List.range n).filter fun p=>decide (ow (m+p)<t)).length
def upto(m n:Nat)(ow:Nat→Nat)(t:Nat):List Nat:=(List.range (m+n)).filter fun x=>decide (ow x<t)
def AhS (m:Nat)(ow:Nat→Nat)(j:Nat):List Nat:=(List.range m).filter fun e=>decide (ow e=j)
def AhT (m n:Nat)(ow:Nat→Nat)(j:Nat):List Nat:=(List.range n).filter fun p=>decide (ow (m+p)=j)
end
def Hng (P:List (List Nat))(w h:Nat):Prop:=∀ S:Nat→Prop,(∀ u v,ovU (upC P) w h u v→S v→S u)→∀ x y,x<w+h→y<w+h→S x→S y
def owN (es os:List Int)(x:Nat):Nat:=if x<es.length then (es.getD x 0).toNat else (os.getD (x-es.length) 0).toNat
section
variable {ps:List (List (List Nat))}{es os:List Int}
end
def UpC (P:List (List Nat))(w h:Nat)(S:Nat→Prop):Prop:=∀ u v,ovU (upC P) w h u v→S v→S u
section
variable {P:List (List Nat)}{w h:Nat}
structure Rch (P:List (List Nat)) (w h:Nat) (AcS:Bool) (seen:List Bool):Prop where
 len:seen.length=w+h
 ok:∀ S,UpC P w h S→∀ y:Nat,seen[y]?=some true→(AcS=true→S y→S 0)∧(AcS=false→S 0→S y)
end
section
variable {ps:List (List (List Nat))}{es os:List Int}
end
def tru (s:List Bool)(x:Nat):Bool:=s.getD x false
theorem Mz{s:List Bool}{x:Nat}:tru s x=true↔s[x]?=some true:=by
 unfold tru
 rw[Aic]
 cases s[x]? with
 | none=>exact⟨fun h=>(by cases h),fun h=>(by cases h)⟩
 | some b=>exact⟨fun h=>(by rw[show b=true from h]),fun h=>(by cases h;rfl)⟩
theorem Zt{s s':Nat→Bool}:∀{l:List Nat},(∀ x,s x=true→s' x=true)→(l.filter s).length≤(l.filter s').length∧((l.filter s).length=(l.filter s').length→∀ x∈l,s' x=true→s x=true)
 | [],_=>⟨AhX _,fun _ x hx=>absurd hx (by simp)⟩
 | y::l,h=>by
  obtain⟨i1,i2⟩:=Zt (l:=l) h
  rw[Ajj,Ajj]
  by_cases a:s y=true
  ·rw[if_pos a,if_pos (h y a),Ai2,Ai2]
   refine⟨by omega,fun e x hx q=>?_⟩
   rcases List.mem_cons.mp hx with d | d
   ·rw[d];exact a
   ·exact i2 (by omega) x d q
  ·rw[if_neg a]
   by_cases b:s' y=true
   ·rw[if_pos b,Ai2]
    exact⟨by omega,fun e=>by omega⟩
   ·rw[if_neg b]
    refine⟨i1,fun e x hx q=>?_⟩
    rcases List.mem_cons.mp hx with d | d
    ·rw[d] at q;exact absurd q b
    ·exact i2 e x d q
def Acv (N:Nat)(s:List Bool):Nat:=((List.range N).filter (tru s)).length
structure Rt (P:List (List Nat)) (w h:Nat) (f:Bool) (t:Nat) (s0:List Bool) (j k:Nat) (s:List Bool):Prop where
 len:s.length=w+h
 z:tru s0 0=true
 big:(∀ x,x<w+h→tru s0 x=true)∨t+1≤Acv (w+h) s0
 mono:∀ x,tru s0 x=true→tru s x=true
 done:∀ k' j',k'<w→j'<h→(j'<j∨(j'=j∧k'<k))→(upC P k' j'=f→tru s0 k'=true→tru s (w+j')=true)∧(¬upC P k' j'=f→tru s0 (w+j')=true→tru s k'=true)
section
variable {P:List (List Nat)}{w h:Nat}{f:Bool}{t:Nat}{s0 s:List Bool}{j k:Nat}
theorem Zu{s:List Bool}{i x:Nat}(hx:tru s x=true):tru (s.set i true) x=true:=by
 rw[Mz] at hx ⊢
 by_cases e:i=x
 ·subst e
  exact Ajd (List.getElem?_eq_some_iff.mp hx).1
 ·rw[Ajo e];exact hx
theorem Zv{s:List Bool}{i:Nat}(hi:i<s.length):tru (s.set i true) i=true:=by rw[Mz];exact Ajd hi
theorem Rt.weak(R:Rt P w h f t s0 j (k+1) s):Rt P w h f t s0 j k s:=⟨R.len,R.z,R.big,R.mono,fun k' j' a b c=>R.done k' j' a b (c.elim .inl fun q=>.inr ⟨q.1,by omega⟩)⟩
theorem Rt.step(R:Rt P w h f t s0 j k s){s':List Bool}(hl:s'.length=w+h)(hm:∀ x,tru s x=true→tru s' x=true)
  (h1:upC P k j=f→tru s k=true→tru s' (w+j)=true) (h2:¬upC P k j=f→tru s (w+j)=true→tru s' k=true):Rt P w h f t s0 j (k+1) s':=by
 refine⟨hl,R.z,R.big,fun x hx=>hm x (R.mono x hx),fun k' j' a b c=>?_⟩
 by_cases e:j'=j∧k'=k
 ·obtain⟨rfl,rfl⟩:=e
  exact⟨fun u q=>h1 u (R.mono _ q),fun u q=>h2 u (R.mono _ q)⟩
 ·obtain⟨q1,q2⟩:=R.done k' j' a b (by omega)
  exact⟨fun u q=>hm _ (q1 u q),fun u q=>hm _ (q2 u q)⟩
theorem Rt.down(R:Rt P w h f t s0 j k s)(hj:j<h)(al:upC P k j=f):Rt P w h f t s0 j (k+1) (s.set (w+j) true) :=
 R.step (by rw[Ajq];exact R.len) (fun x hx=>Zu hx) (fun _ _=>Zv (by rw[R.len];omega)) fun n=>absurd al n
theorem Rt.up(R:Rt P w h f t s0 j k s)(hk:k<w)(al:¬upC P k j=f):Rt P w h f t s0 j (k+1) (s.set k true) :=
 R.step (by rw[Ajq];exact R.len) (fun x hx=>Zu hx) (fun n=>absurd n al) fun _ _=>Zv (by rw[R.len];omega)
theorem Rt.AeW(R:Rt P w h f t s0 j k s)(al:upC P k j=f)(e:s[k]?=some false):Rt P w h f t s0 j (k+1) s :=
 R.step R.len (fun x hx=>hx) (fun _ q=>by rw[Mz,e] at q;cases q) fun n=>absurd al n
theorem Rt.AeX(R:Rt P w h f t s0 j k s)(al:¬upC P k j=f)(e:s[w+j]?=some false):Rt P w h f t s0 j (k+1) s :=
 R.step R.len (fun x hx=>hx) (fun n=>absurd n al) fun _ q=>by rw[Mz,e] at q;cases q
theorem Rt.row(R:Rt P w h f t s0 j w s):Rt P w h f t s0 (j+1) 0 s:=⟨R.len,R.z,R.big,R.mono,fun k' j' a b c=>R.done k' j' a b (by omega)⟩
theorem Hng.all(hg:Hng P w h)(z:tru s 0=true)(c:∀ k' j',k'<w→j'<h→(upC P k' j'=f→tru s k'=true→tru s (w+j')=true)∧(¬upC P k' j'=f→tru s (w+j')=true→tru s k'=true)):∀ x,x<w+h→tru s x=true:=by
 intro x hx
 cases f with
 | false =>
  refine hg (fun y=>tru s y=true) (fun u v o q=>?_) 0 x (by omega) hx z
  rcases o with ⟨a,b,d,e⟩ | ⟨a,b,d,e⟩
  ·have:=(c u (v-w) a (by omega)).2 (by rw[e];decide)
   rw[show w+(v-w)=v by omega] at this
   exact this q
  ·have:=(c v (u-w) d (by omega)).1 e
   rw[show w+(u-w)=u by omega] at this
   exact this q
 | true =>
  refine Classical.byContradiction fun n=>?_
  refine hg (fun y=>¬tru s y=true) (fun u v o q r=>q ?_) x 0 hx (by omega) n z
  rcases o with ⟨a,b,d,e⟩ | ⟨a,b,d,e⟩
  ·have:=(c u (v-w) a (by omega)).1 e
   rw[show w+(v-w)=v by omega] at this
   exact this r
  ·have:=(c v (u-w) d (by omega)).2 (by rw[e];decide)
   rw[show w+(u-w)=u by omega] at this
   exact this r
theorem Rt.turn(hg:Hng P w h)(R:Rt P w h f t s0 h 0 s):Rt P w h f (t+1) s 0 0 s:=by
 refine⟨R.len,R.mono 0 R.z,?_,fun x hx=>hx,fun k' j' _ _ c=>by omega⟩
 rcases R.big with b | b
 ·exact .inl fun x hx=>R.mono x (b x hx)
 ·obtain⟨c1,c2⟩:=Zt (s:=tru s0) (s':=tru s) (l:=List.range (w+h)) R.mono
  by_cases e:((List.range (w+h)).filter (tru s0)).length=((List.range (w+h)).filter (tru s)).length
  ·refine .inl fun x hx=>R.mono x (hg.all (f:=f) R.z (fun k' j' a b=>?_) x hx)
   obtain⟨q1,q2⟩:=R.done k' j' a b (.inl b)
   exact⟨fun u q=>c2 e _ (List.mem_range.mpr (by omega)) (q1 u q),fun u q=>c2 e _ (List.mem_range.mpr (by omega)) (q2 u q)⟩
  ·unfold Acv at b ⊢
   exact .inr (by omega)
theorem Rt.zero(P:List (List Nat))(w h:Nat)(f:Bool)(h1:1≤w+h):Rt P w h f 0 ((List.range (w+h)).map fun x=>decide (x=0)) 0 0 ((List.range (w+h)).map fun x=>decide (x=0)):=by
 have z:tru ((List.range (w+h)).map fun x=>decide (x=0)) 0=true:=by
  rw[Mz,Aip,Aj5 (by omega)];rfl
 refine⟨by rw[AhZ,Aih],z,.inr ?_,fun x hx=>hx,fun k' j' _ _ c=>by omega⟩
 unfold Acv
 exact AjB (List.mem_filter.mpr ⟨List.mem_range.mpr (show 0<w+h by omega),z⟩)
theorem Rt.all(R:Rt P w h f (w+h) s 0 0 s):s.all id=true:=by
 have b:∀ x,x<w+h→tru s x=true:=by
  rcases R.big with b | b
  ·exact b
  ·have:=Ajv (tru s) (List.range (w+h))
   rw[Aih] at this
   unfold Acv at b
   omega
 rw[AjK]
 intro y hy
 obtain⟨i,hi,e⟩:=Aiu hy
 have:=Mz.mp (b i (by rw[← R.len];exact hi))
 rw[AhY hi,e] at this
 exact Option.some.inj this
end
end Mine
namespace L2
open PySem PySem.Spec PyProof.Rows
section
variable {X:Cx}{K:PySem.W.Frag}
def AhU (K:PySem.W.Frag):R2:=fun x y H Q=>∃ p q xs,x=.ref p∧y=.ref q∧SqT K H p xs∧SqT K H q xs∧(∀ x∈xs,Dq x=true)∧Q (.bl false) H
end
open PySem PySem.Spec PyProof.Rows
section
variable {X:Cx}{K:PySem.W.Frag}
def AeY (K:PySem.W.Frag):R2:=fun x y H Q=>∃(p q:Addr) (xs ys:List V),x=.ref p∧y=.ref q∧SqT K H p xs∧SqT K H q ys∧xs.length=ys.length∧(∀(i:Nat) (x y:V),xs[i]?=some x→ys[i]?=some y→RT K H 50 x y)∧Q (.bl true) H
theorem Acw(hu:X.A.units+100<cLine)(hK:X.K=K:=by rfl):OpR X (compareOp .Eq) (AeY K):=by
 subst hK
 intro pins s σ H x y v u Q I rx ry h
 obtain⟨p,q,xs,ys,rfl,rfl,hx,hy,hl,hf,k⟩:=h
 cases rx
 cases ry
 obtain⟨its,r,pl,hz⟩:=I.tuple hx
 obtain⟨its2,r2,pl2,hz2⟩:=I.tuple hy
 have l1:=r.length
 have l2:=r2.length
 refine SeqAt.RcAt.tuples (e:=fun _=>true) pl pl2 (by omega) (fun j h1 h2=>?_) _ _ _ _ ?_
 ·obtain⟨x,ex,qx⟩:=Jz r h1
  obtain⟨y,ey,qy⟩:=Jz r2 h2
  exact AaS (n:=50) I (hf j x y ex ey) qx qy (by show X.A.units+1+50<cLine;omega)
 refine⟨.bl true,H,I,?_,k⟩
 show Value.bool _=Value.bool _
 have:its.length=its2.length:=by omega
 simp[this]
end
open PySem PySem.Spec PyProof.Rows
def Itv (K:PySem.W.Frag)(a:Addr)(n:Nat):It :=
 ⟨fun i H=>∃ xs x,SqL K H a xs∧xs.length=n∧i<n∧xs.reverse[i]?=some x,fun i H x H'=>H'=H∧∀ xs,SqL K H a xs→xs.reverse[i]?=some x,fun i H=>n=i⟩
section
variable {X:Cx}{tg:Expr}
def Ahm (K:PySem.W.Frag)(ta:TA):TI:=fun σ H R=>ta σ H fun vs H1=>∃ a xs,vs=[.ref a]∧SqL K H1 a xs∧R (Itv K a xs.length) H1
end
end L2
set_option maxHeartbeats 1000000
namespace L2
open PySem PySem.Spec PyProof.Rows
namespace Tim
structure TB (a₀:Array Keyed) (p:Array (Nat × Nat × Nat)) (b:Array Keyed) (lo:Nat) (st:SortSt):Prop where
 perm:(arrOf st).Perm a₀
 kind:kindOf st=oneType'
 failed:failedOf st=none
 pend:pendingOf st=p
 low:∀ i,i<lo→(arrOf st)[i]?=b[i]?
def DK (a₀:Array Keyed):Prop:=(a₀.toList.map fun q=>numOf q.1).Nodup
def CJ (xs:Array Keyed)(lo n:Nat):Prop:=∀ i j,i≤j→j<n→K xs (lo+i)≤K xs (lo+j)
section
variable {a₀ b:Array Keyed}{p:Array (Nat × Nat × Nat)}{lo:Nat}{st:SortSt}
theorem TB.size(h:TB a₀ p b lo st):(arrOf st).size=a₀.size:=h.perm.size_eq
theorem AeZ{xs:Array Keyed}{i:Nat}(hi:i<xs.size):(xs.toList.map fun q=>numOf q.1)[i]?=some (K xs i):=by
 unfold K
 rw[Aip,getElem?_pos xs i hi]
 simp[hi]
theorem Yx{xs:Array Keyed}(hp:xs.Perm a₀)(hD:DK a₀){i j:Nat}(hi:i<xs.size)(hj:j<xs.size)(ne:i≠j):K xs i≠K xs j:=fun e=>by
 have nd:(xs.toList.map fun q=>numOf q.1).Nodup:=((Array.perm_iff_toList_perm.mp hp).map _).nodup_iff.mpr hD
 have h1:=AeZ hi
 have h2:=AeZ hj
 rw[e,← h2] at h1
 exact ne ((List.getElem?_inj (by rw[AhZ];simpa using hi) nd).mp h1)
theorem TB.inj(h:TB a₀ p b lo st)(hD:DK a₀){i j:Nat}(hi:i<a₀.size)(hj:j<a₀.size)(ne:i≠j):K (arrOf st) i≠K (arrOf st) j:=Yx h.perm hD (by rw[h.size];exact hi) (by rw[h.size];exact hj) ne
theorem at_of{xs:Array Keyed}(hp:xs.Perm a₀)(h0:IntKeys a₀){i:Nat}(hi:i<xs.size):∃ t q,xs[i]?=some (.int (K xs i) t,q):=by
 have hm:xs[i]∈a₀.toList:=(Array.perm_iff_toList_perm.mp hp).mem_iff.mp (by simp)
 obtain⟨n,t,hn⟩:=h0 _ hm
 refine⟨t,xs[i].2,?_⟩
 have e:xs[i]?=some xs[i]:=getElem?_pos _ i hi
 have e2:xs[i]=(.int n t,xs[i].2):=Prod.ext hn rfl
 unfold K
 rw[e,e2]
 rfl
theorem TB.setArr(h:TB a₀ p b lo st){xs:Array Keyed}(hp:xs.Perm (arrOf st))(hl:∀ i,i<lo→xs[i]?=(arrOf st)[i]?):TB a₀ p b lo (setArr st xs) :=
 ⟨hp.trans h.perm,h.kind,h.failed,h.pend,fun i hi=>(hl i hi).trans (h.low i hi)⟩
end
section
variable {prog:Program}{w:World}{A:Around}{E:Value→Shared→Prop}{s:Shared}{a₀ b:Array Keyed}{p:Array (Nat × Nat × Nat)}{lo:Nat}
theorem ltK{st:SortSt}{i j:Nat}{Q:Option Bool→SortSt→Prop}(hB:TB a₀ p b lo st)(h0:IntKeys a₀)(hi:i<a₀.size)(hj:j<a₀.size)
  (h:Q (some (decide (K (arrOf st) i<K (arrOf st) j))) st):wpS (model prog w) A E s (ltAt' i j) Q st:=by
 obtain⟨t,p',e1⟩:=at_of hB.perm h0 (i:=i) (by rw[hB.size];exact hi)
 obtain⟨u,q,e2⟩:=at_of hB.perm h0 (i:=j) (by rw[hB.size];exact hj)
 exact wpS_ltAt hB.kind e1 e2 h
theorem Vm{st:SortSt}{i j:Nat}{Q:Unit→SortSt→Prop}(h:Q () (setArr st (mirror (arrOf st) i j ((j-i) / 2)))):wpS (model prog w) A E s (reverseSlice' i j) Q st:=by
 rw[reverseSlice'_eq]
 exact wpS_modify h
theorem WY{xs:Array Keyed}{lo n:Nat}(h:CJ xs lo n)(hn:1≤n)(h2:¬K xs (lo+n)<K xs (lo+n-1)):CJ xs lo (n+1):=fun i j hij hj=>by
 by_cases e:j=n
 ·subst e
  by_cases e2:i=j
  ·subst e2;exact Aiz _
  ·have a1:=h i (j-1) (by omega) (by omega)
   have e3:lo+(j-1)=lo+j-1:=by omega
   rw[e3] at a1
   omega
 ·exact h i j hij (by omega)
def Vn (xs:Array Keyed)(lo n:Nat):Prop:=∀ i j,i<j→j<n→K xs (lo+j)<K xs (lo+i)
theorem Aaj{xs:Array Keyed}{lo n:Nat}(h:Vn xs lo n)(hn:2≤n)(h2:K xs (lo+n)<K xs (lo+n-1)):Vn xs lo (n+1):=fun i j hij hj=>by
 by_cases e:j=n
 ·subst e
  have e3:lo+(j-1)=lo+j-1:=by omega
  by_cases e2:i=j-1
  ·subst e2;rw[e3];exact h2
  ·have a1:=h i (j-1) (by omega) (by omega)
   rw[e3] at a1
   omega
 ·exact h i j hij (by omega)
theorem Yy{st:SortSt}{nrem:Nat}{Q:Option Nat→SortSt→Prop}(h0:IntKeys a₀)(hD:DK a₀)(hn:lo+nrem=a₀.size)(h1:1≤nrem)(hB:TB a₀ p b lo st)
  (h:∀ m st',TB a₀ p b lo st'→1≤m→m≤nrem→CJ (arrOf st') lo m→Q (some m) st'):wpS (model prog w) A E s (countRun' lo nrem) Q st:=by
 rw[countRun'_eq]
 refine wpS_bind (wpS_mono (wpS_forRange (I:=fun x c st'=>st'=st∧c=(none,min x nrem)∧CJ (arrOf st) lo (min x nrem))
  (Q:=fun c st'=>st'=st∧∃ n,c=(none,n)∧1≤n∧n≤nrem∧CJ (arrOf st) lo n∧(n<nrem→K (arrOf st) (lo+n)<K (arrOf st) (lo+n-1))) ?step ?fin ?init) ?post)
 case init=>exact⟨rfl,by rw[Ai3 h1],fun i j hij hj=>by have e:i=j:=(by omega);subst e;exact Aiz _⟩
 case fin =>
  rintro c st' ⟨rfl,rfl,hs⟩
  exact⟨rfl,_,rfl,by omega,by omega,hs,fun q=>by omega⟩
 case step =>
  rintro x c st' hx1 hx ⟨rfl,rfl,hs⟩
  rw[Ai3 (by omega)] at hs ⊢
  dsimp only
  refine wpS_bind (ltK hB h0 (by omega) (by omega) ?_)
  by_cases c:K (arrOf st') (lo+x)<K (arrOf st') (lo+x-1)
  ·simp only [c,decide_true,if_true]
   exact wpS_pure ⟨rfl,x,rfl,hx1,by omega,hs,fun _=>c⟩
  ·simp only [c,decide_false,Ain,if_false]
   refine wpS_pure ⟨rfl,by rw[Ai3 (by omega)],?_⟩
   rw[Ai3 (by omega)]
   exact WY hs hx1 c
 case post =>
  rintro c st' ⟨rfl,n,rfl,n1,nn,hs,hb⟩
  dsimp only
  by_cases e:n=nrem
  ·rw[if_pos (by simp[e])]
   exact wpS_pure (h n _ hB n1 nn hs)
  ·rw[if_neg (by simp[e])]
   by_cases c:n>1
   ·rw[if_pos c]
    refine wpS_bind (ltK hB h0 (by omega) (by omega) ?_)
    have lt:K (arrOf st') lo<K (arrOf st') (lo+n-1):=by
     have a1:=hs 0 (n-1) (by omega) (by omega)
     have a2:=hB.inj hD (i:=lo) (j:=lo+n-1) (by omega) (by omega) (by omega)
     rw[AiZ,show lo+(n-1)=lo+n-1 by omega] at a1
     omega
    simp only [lt,decide_true,if_true]
    exact wpS_pure (h n _ hB n1 nn hs)
   ·rw[if_neg c]
    have en:n=1:=by omega
    subst en
    have hb:=hb (by omega)
    refine wpS_bind (wpS_lift (wpAny_rule ⟨rfl,?_⟩))
    refine wpS_bind (wpS_mono (wpS_forRange (I:=fun x c st2=>st2=st'∧c=(none,max 2 (min x nrem),0)∧Vn (arrOf st') lo (max 2 (min x nrem)))
     (Q:=fun c st2=>st2=st'∧∃ n,c=(none,n,0)∧2≤n∧n≤nrem∧Vn (arrOf st') lo n) ?Afa ?Ag6 ?Afb) ?dpost)
    case Afb =>
     refine⟨rfl,by rw[show max 2 (min 2 nrem)=2 by omega],fun i j hij hj=>?_⟩
     rw[show max 2 (min 2 nrem)=2 by omega] at hj
     have e1:i=0:=by omega
     have e2:j=1:=by omega
     rw[e1,e2]
     rw[show lo+1-1=lo by omega] at hb
     exact hb
    case Ag6 =>
     rintro c st2 ⟨rfl,rfl,hs2⟩
     exact⟨rfl,_,rfl,by omega,by omega,hs2⟩
    case Afa =>
     rintro x c st2 hx1 hx ⟨rfl,rfl,hs2⟩
     rw[show max 2 (min x nrem)=x by omega] at hs2 ⊢
     dsimp only
     refine wpS_bind (ltK hB h0 (by omega) (by omega) ?_)
     by_cases c:K (arrOf st2) (lo+x)<K (arrOf st2) (lo+x-1)
     ·simp only [c,decide_true,if_true]
      rw[if_neg (by omega)]
      refine wpS_pure ⟨rfl,by rw[show max 2 (min (x+1) nrem)=x+1 by omega],?_⟩
      rw[show max 2 (min (x+1) nrem)=x+1 by omega]
      exact Aaj hs2 (by omega) c
     ·simp only [c,decide_false,Ain,if_false]
      refine wpS_bind (ltK hB h0 (by omega) (by omega) ?_)
      have ne:=hB.inj hD (i:=lo+x) (j:=lo+x-1) (by omega) (by omega) (by omega)
      have lt:K (arrOf st2) (lo+x-1)<K (arrOf st2) (lo+x):=by omega
      simp only [lt,decide_true,if_true]
      exact wpS_pure ⟨rfl,x,rfl,by omega,by omega,hs2⟩
    case dpost =>
     rintro c st2 ⟨rfl,n,rfl,n2,nn2,hs2⟩
     dsimp only
     rw[if_neg (by omega)]
     refine wpS_bind (Vm ?_)
     have hsz:=hB.size
     have hB3:TB a₀ p b lo (setArr st2 (mirror (arrOf st2) lo (lo+n) ((lo+n-lo) / 2))):=hB.setArr (mirror_perm _ _ _ _) fun i hi=>by rw[getElem?_mirror_all (by omega),if_neg (by omega)]
     have hs3:CJ (mirror (arrOf st2) lo (lo+n) ((lo+n-lo) / 2)) lo n:=fun i j hij hj=>by
      have e1:K (mirror (arrOf st2) lo (lo+n) ((lo+n-lo) / 2)) (lo+i)=K (arrOf st2) (lo+(n-1-i)):=K_congr (by rw[getElem?_mirror_all (by omega),if_pos (by omega)];congr 1;omega)
      have e2:K (mirror (arrOf st2) lo (lo+n) ((lo+n-lo) / 2)) (lo+j)=K (arrOf st2) (lo+(n-1-j)):=K_congr (by rw[getElem?_mirror_all (by omega),if_pos (by omega)];congr 1;omega)
      rw[e1,e2]
      by_cases e:i=j
      ·subst e;exact Aiz _
      ·exact AiN (hs2 (n-1-j) (n-1-i) (by omega) (by omega))
     generalize mirror (arrOf st2) lo (lo+n) ((lo+n-lo) / 2)=ys at hB3 hs3
     have hs3:CJ (arrOf (setArr st2 ys)) lo n:=hs3
     generalize setArr st2 ys=st3 at hB3 hs3
     refine wpS_bind (wpS_mono (wpS_forRange (I:=fun x c st'=>st'=st3∧c=(none,max n (min x nrem))∧CJ (arrOf st3) lo (max n (min x nrem)))
      (Q:=fun c st'=>st'=st3∧∃ n,c=(none,n)∧1≤n∧n≤nrem∧CJ (arrOf st3) lo n) ?Afc ?Ag7 ?Afd) ?Afe)
     case Afd=>exact⟨rfl,by rw[show max n (min n nrem)=n by omega],by rw[show max n (min n nrem)=n by omega];exact hs3⟩
     case Ag7 =>
      rintro c st' ⟨rfl,rfl,hs⟩
      exact⟨rfl,_,rfl,by omega,by omega,hs⟩
     case Afc =>
      rintro x c st' hx1 hx ⟨rfl,rfl,hs⟩
      rw[show max n (min x nrem)=x by omega] at hs ⊢
      dsimp only
      refine wpS_bind (ltK hB3 h0 (by omega) (by omega) ?_)
      by_cases c:K (arrOf st') (lo+x)<K (arrOf st') (lo+x-1)
      ·simp only [c,decide_true,if_true]
       exact wpS_pure ⟨rfl,x,rfl,by omega,by omega,hs⟩
      ·simp only [c,decide_false,Ain,if_false]
       refine wpS_pure ⟨rfl,by rw[show max n (min (x+1) nrem)=x+1 by omega],?_⟩
       rw[show max n (min (x+1) nrem)=x+1 by omega]
       exact WY hs (by omega) c
     case Afe =>
      rintro c st' ⟨rfl,m,rfl,m1,mn,hs⟩
      exact wpS_pure (h m _ hB3 m1 mn hs)
end
end Tim
open PySem PySem.Spec PyProof.Rows
namespace Tim
section
variable {prog:Program}{w:World}{A:Around}{E:Value→Shared→Prop}{s:Shared}{a₀ b:Array Keyed}{p:Array (Nat × Nat × Nat)}{lo:Nat}
theorem Abj{st:SortSt}{n ok:Nat}{Q:Bool→SortSt→Prop}(h0:IntKeys a₀)(hn:lo+n≤a₀.size)(hok:ok≤n)(hB:TB a₀ p b lo st)(hs:CJ (arrOf st) lo ok)
  (h:∀ st',TB a₀ p b lo st'→CJ (arrOf st') lo n→Q true st'):wpS (model prog w) A E s (binarySort' lo n ok) Q st:=by
 rw[binarySort'_eq]
 refine wpS_bind (wpS_mono (wpS_forRange (I:=fun k c st'=>c=(none,())∧TB a₀ p b lo st'∧CJ (arrOf st') lo (min k n))
  (Q:=fun c st'=>c=(none,())∧TB a₀ p b lo st'∧CJ (arrOf st') lo n) ?step ?fin ?init) ?post)
 case post =>
  rintro c st' ⟨rfl,hB',hs'⟩
  exact wpS_pure (h st' hB' hs')
 case init =>
  refine⟨rfl,hB,fun i j hij hj=>?_⟩
  by_cases h1:ok=0
  ·have:i=j:=by omega
   subst this;exact Aiz _
  ·exact hs i j hij (by omega)
 case fin =>
  rintro c st' ⟨hc,hB',hs'⟩
  refine⟨hc,hB',?_⟩
  rwa [show min (max (max ok 1) n) n=n by omega] at hs'
 case step =>
  rintro k c st' hak hkn ⟨rfl,hB',hs'⟩
  rw[show min k n=k by omega] at hs'
  have hk:lo+k<a₀.size:=by omega
  refine wpS_bind (wpS_mono (wpS_forRange (I:=fun x c st''=>st''=st'∧∃ l r,c=(none,l,r)∧l≤r∧r≤k∧r-l≤k-x ∧
    (∀ i,i<l→K (arrOf st') (lo+i)≤K (arrOf st') (lo+k))∧(∀ i,r≤i→i<k→K (arrOf st') (lo+k)<K (arrOf st') (lo+i)))
   (Q:=fun c st''=>st''=st'∧∃ l r,c=(none,l,r)∧l≤k ∧
    (∀ i,i<l→K (arrOf st') (lo+i)≤K (arrOf st') (lo+k))∧(∀ i,l≤i→i<k→K (arrOf st') (lo+k)<K (arrOf st') (lo+i))) ?istep ?ifin ?iinit) ?ipost)
  case iinit=>exact⟨rfl,0,k,rfl,by omega,by omega,by omega,fun i hi=>by omega,fun i h1 h2=>by omega⟩
  case ifin =>
   rintro c st'' ⟨rfl,l,r,rfl,hlr,hrk,hm,hlo,hhi⟩
   have:l=r:=by omega
   subst this
   exact⟨rfl,l,l,rfl,hrk,hlo,hhi⟩
  case istep =>
   rintro x c st'' _ hxk ⟨rfl,l,r,rfl,hlr,hrk,hm,hlo,hhi⟩
   dsimp only
   by_cases hge:l ≥ r
   ·rw[if_pos hge]
    have:l=r:=by omega
    subst this
    exact wpS_pure ⟨rfl,l,l,rfl,hrk,hlo,hhi⟩
   ·rw[if_neg hge]
    refine wpS_bind (ltK hB' h0 hk (by omega) ?_)
    by_cases hless:K (arrOf st'') (lo+k)<K (arrOf st'') (lo+(l+r) / 2)
    ·simp only [hless,decide_true,if_true]
     refine wpS_pure ⟨rfl,l,(l+r) / 2,rfl,by omega,by omega,by omega,hlo,fun i h1 h2=>?_⟩
     exact AiY hless (hs' _ _ h1 h2)
    ·simp only [hless,decide_false,Ain,if_false]
     refine wpS_pure ⟨rfl,(l+r) / 2+1,r,rfl,by omega,by omega,by omega,fun i h1=>?_,hhi⟩
     exact Int.le_trans (hs' i ((l+r) / 2) (by omega) (by omega)) (Int.not_lt.mp hless)
  case ipost =>
   rintro c st'' ⟨rfl,l,r,rfl,hlk,hlo,hhi⟩
   show wpS _ _ _ _ (do moveDown' (lo+k) (lo+l);pure (ForInStep.yield (none,()))) _ _
   rw[moveDown'_eq]
   have hks:lo+k<(arrOf st'').size:=by rw[hB'.size];exact hk
   refine wpS_bind (wpS_modify (wpS_pure ⟨rfl,hB'.setArr (bubble_perm _ _ _) (fun i hi=>?_),?_⟩))
   ·rw[getElem?_bubble hks _ (by omega),if_neg (by omega),if_neg (by omega)]
   rw[show min (k+1) n=k+1 by omega]
   intro i j hij hj
   show K (bubble (arrOf st'') (lo+k) (lo+k-(lo+l))) (lo+i)≤K (bubble (arrOf st'') (lo+k) (lo+k-(lo+l))) (lo+j)
   have kb:∀ x,x≤k→K (bubble (arrOf st'') (lo+k) (lo+k-(lo+l))) (lo+x)=if x=l then K (arrOf st'') (lo+k) else if l<x then K (arrOf st'') (lo+(x-1)) else K (arrOf st'') (lo+x):=fun x hx=>by
    rw[K_bubble hks (by omega),show lo+k-(lo+k-(lo+l))=lo+l by omega]
    by_cases e:x=l
    ·rw[if_pos (by omega),if_pos e]
    ·rw[if_neg (by omega),if_neg e]
     by_cases e2:l<x
     ·rw[if_pos (by omega),if_pos e2,show lo+x-1=lo+(x-1) by omega]
     ·rw[if_neg (by omega),if_neg e2]
   rw[kb i (by omega),kb j (by omega)]
   repeat' split
   all_goals first
    | (exfalso;omega)
    | exact Aiz _
    | exact hlo _ (by omega)
    | exact AiN (hhi _ (by omega) (by omega))
    | exact hs' _ _ (by omega) (by omega)
end
end Tim
open PySem PySem.Spec PyProof.Rows
namespace Tim
def Ex:Bool→Keyed→Array Keyed→Nat→Nat→Nat→StateT SortSt Sem (Option Nat):=sortPriv% PySem.Builtin.gallop
theorem Yz(left:Bool)(key:Keyed)(arr:Array Keyed)(base n hint:Nat):Ex left key arr base n hint=(do
 let beyond (i:Nat):StateT SortSt Sem (Option Bool):=do
  let x ← elem' arr (base+i)
  if left then lt' x key else return (← lt' key x).map (!·)
 let mut lastofs:=0
 let mut ofs:=1
 let mut lo:=0
 let mut hi:=0
 let some right ← beyond hint | return none
 if right then
  let maxofs:=n-hint
  for _ in [0:n] do
   if ofs ≥ maxofs then break
   let some more ← beyond (hint+ofs) | return none
   if !more then break
   lastofs:=ofs
   ofs:=2*ofs+1
  lo:=hint+lastofs+1
  hi:=hint+min ofs maxofs
 else
  let maxofs:=hint+1
  for _ in [0:n] do
   if ofs ≥ maxofs then break
   let some found ← beyond (hint-ofs) | return none
   if found then break
   lastofs:=ofs
   ofs:=2*ofs+1
  lo:=hint+1-min ofs maxofs
  hi:=hint-lastofs
 for _ in [0:n] do
  if lo ≥ hi then break
  let m:=lo+(hi-lo) / 2
  let some more ← beyond m | return none
  if more then lo:=m+1 else hi:=m
 return some hi):=rfl
section
variable {prog:Program}{w:World}{A:Around}{E:Value→Shared→Prop}{s:Shared}
theorem Vo{st:SortSt}{x y:Keyed}{a b:Int}{t u:Tok}{Q:Option Bool→SortSt→Prop}(hk:kindOf st=oneType')(hx:x.1=.int a t)(hy:y.1=.int b u)(h:Q (some (decide (a<b))) st) :
  wpS (model prog w) A E s (lt' x y) Q st:=by
 rw[lt'_eq]
 refine wpS_bind (wpS_get ?_)
 rw[hk,keyLt'_oneType,hx,hy]
 refine wpS_bind (wpS_lift (wpAny_attempt (oneLt_int ⟨rfl,?_⟩)))
 exact wpS_pure h
def At (arr:Array Keyed)(base n:Nat)(v:Nat→Int):Prop:=∀ i,i<n→∃ t q,arr[base+i]?=some (.int (v i) t,q)
def Inc (n:Nat)(v:Nat→Int):Prop:=∀ i j,i<j→j<n→v i<v j
theorem Hr{st:SortSt}{left:Bool}{key:Keyed}{arr:Array Keyed}{base n i:Nat}{v:Nat→Int}{kv:Int}{u:Tok}{Q:Option Bool→SortSt→Prop}(hk:kindOf st=oneType')(hA:At arr base n v)(hi:i<n)(hkey:key.1=.int kv u)(hne:∀ i,i<n→v i≠kv)(h:Q (some (decide (v i<kv))) st) :
  wpS (model prog w) A E s (do
   let x ← elem' arr (base+i)
   if left then lt' x key else return (← lt' key x).map (!·)) Q st:=by
 obtain⟨t,q,e⟩:=hA i hi
 rw[elem'_eq,e]
 refine wpS_bind (wpS_pure ?_)
 cases left with
 | true =>
  rw[if_pos rfl]
  exact Vo hk rfl hkey h
 | false =>
  rw[if_neg (by decide)]
  refine wpS_bind (Vo hk hkey rfl (wpS_pure ?_))
  have:(!decide (kv<v i))=decide (v i<kv):=by
   have:=hne i hi
   by_cases c:v i<kv
   ·rw[decide_eq_true c,decide_eq_false (by omega)];rfl
   ·rw[decide_eq_false c,decide_eq_true (by omega)];rfl
  show Q (some (!decide (kv<v i))) st
  rw[this]
  exact h
theorem Inc.le{n:Nat}{v:Nat→Int}(h:Inc n v){i j:Nat}(hij:i≤j)(hj:j<n):v i≤v j:=by
 rcases AiO i j with c | c
 ·exact AiN (h i j c hj)
 ·have:i=j:=by omega
  subst this;exact Aiz _
theorem Ge{st:SortSt}{left:Bool}{key:Keyed}{arr:Array Keyed}{base n hint:Nat}{v:Nat→Int}{kv:Int}{u:Tok}{Q:Option Nat→SortSt→Prop}(hk:kindOf st=oneType')(hA:At arr base n v)(hI:Inc n v)(hh:hint<n)(hkey:key.1=.int kv u)(hne:∀ i,i<n→v i≠kv)
  (h:∀ k,k≤n→(∀ i,i<k→v i<kv)→(∀ i,k≤i→i<n→kv<v i)→Q (some k) st):wpS (model prog w) A E s (Ex left key arr base n hint) Q st:=by
 rw[Yz]
 refine wpS_bind (Hr hk hA hh hkey hne ?_)
 dsimp only
 by_cases c:v hint<kv
 ·simp only [c,decide_true,if_true]
  refine wpS_bind (wpS_mono (wpS_forRange (I:=fun x c st'=>st'=st∧∃ last ofs,c=(none,last,ofs)∧last<ofs∧x+1≤ofs∧hint+last<n∧v (hint+last)<kv)
   (Q:=fun c st'=>st'=st∧∃ last ofs,c=(none,last,ofs)∧last<ofs∧hint+last<n∧v (hint+last)<kv∧(n-hint≤ofs∨(hint+ofs<n∧kv<v (hint+ofs)))) ?step ?fin ⟨rfl,0,1,rfl,by omega,by omega,by omega,c⟩) ?post)
  case fin =>
   rintro c st' ⟨rfl,last,ofs,rfl,a1,a2,a3,a4⟩
   exact⟨rfl,last,ofs,rfl,a1,a3,a4,.inl (by omega)⟩
  case step =>
   rintro x c st' _ hx ⟨rfl,last,ofs,rfl,a1,a2,a3,a4⟩
   dsimp only
   by_cases hge:ofs ≥ n-hint
   ·rw[if_pos hge]
    exact wpS_pure ⟨rfl,last,ofs,rfl,a1,a3,a4,.inl hge⟩
   ·rw[if_neg hge]
    refine wpS_bind (Hr hk hA (by omega) hkey hne ?_)
    by_cases c:v (hint+ofs)<kv
    ·simp only [c,decide_true,Ajt,Ain,if_false]
     exact wpS_pure ⟨rfl,ofs,2*ofs+1,rfl,by omega,by omega,by omega,c⟩
    ·simp only [c,decide_false,Bool.not_false,if_true]
     have ne:=hne (hint+ofs) (by omega)
     exact wpS_pure ⟨rfl,last,ofs,rfl,a1,a3,a4,.inr ⟨by omega,by omega⟩⟩
  case post =>
   rintro c st' ⟨rfl,last,ofs,rfl,a1,a3,a4,a5⟩
   have h3:∀ i,i<hint+last+1→v i<kv:=fun i hi=>AjF (hI.le (by omega) a3) a4
   have h4:∀ i,hint+min ofs (n-hint)≤i→i<n→kv<v i:=fun i h1 h2=>by
    rcases a5 with a5 | ⟨a5,a6⟩
    ·omega
    ·exact AiY a6 (hI.le (by omega) h2)
   dsimp only
   refine wpS_bind (wpS_mono (wpS_forRange (I:=fun x c st2=>st2=st'∧∃ lo hi,c=(none,lo,hi)∧lo≤hi∧hi≤n∧hi-lo≤n-x∧(∀ i,i<lo→v i<kv)∧(∀ i,hi≤i→i<n→kv<v i))
    (Q:=fun c st2=>st2=st'∧∃ hi,c=(none,hi,hi)∧hi≤n∧(∀ i,i<hi→v i<kv)∧(∀ i,hi≤i→i<n→kv<v i)) ?Afg ?Ag8 ⟨rfl,hint+last+1,hint+min ofs (n-hint),rfl,by omega,by omega,by omega,h3,h4⟩) ?Afh)
   case Ag8 =>
    rintro c st2 ⟨rfl,lo,hi,rfl,a1,a2,a3,a4,a5⟩
    have:lo=hi:=by omega
    subst this
    exact⟨rfl,lo,rfl,a2,a4,a5⟩
   case Afh =>
    rintro c st2 ⟨rfl,hi,rfl,a2,a4,a5⟩
    exact wpS_pure (h hi a2 a4 a5)
   case Afg =>
    rintro x c st2 _ hx ⟨rfl,lo,hi,rfl,a1,a2,a3,a4,a5⟩
    dsimp only
    by_cases hge:lo ≥ hi
    ·rw[if_pos hge]
     have:lo=hi:=by omega
     subst this
     exact wpS_pure ⟨rfl,lo,rfl,a2,a4,a5⟩
    ·rw[if_neg hge]
     refine wpS_bind (Hr hk hA (by omega) hkey hne ?_)
     by_cases c:v (lo+(hi-lo) / 2)<kv
     ·simp only [c,decide_true,if_true]
      exact wpS_pure ⟨rfl,lo+(hi-lo) / 2+1,hi,rfl,by omega,a2,by omega,fun i hi'=>AjF (hI.le (by omega) (by omega)) c,a5⟩
     ·simp only [c,decide_false,Ain,if_false]
      have ne:=hne (lo+(hi-lo) / 2) (by omega)
      exact wpS_pure ⟨rfl,lo,lo+(hi-lo) / 2,rfl,by omega,by omega,by omega,a4,fun i h1 h2=>AiY (by omega) (hI.le h1 h2)⟩
 ·simp only [c,decide_false,Ain,if_false]
  have ne:=hne hint hh
  refine wpS_bind (wpS_mono (wpS_forRange (I:=fun x c st'=>st'=st∧∃ last ofs,c=(none,last,ofs)∧last<ofs∧x+1≤ofs∧last≤hint∧kv<v (hint-last))
   (Q:=fun c st'=>st'=st∧∃ last ofs,c=(none,last,ofs)∧last<ofs∧last≤hint∧kv<v (hint-last)∧(hint+1≤ofs∨(ofs≤hint∧v (hint-ofs)<kv))) ?Xa ?fin2 ⟨rfl,0,1,rfl,by omega,by omega,by omega,by rw[Ajs];omega⟩) ?post2)
  case fin2 =>
   rintro c st' ⟨rfl,last,ofs,rfl,a1,a2,a3,a4⟩
   exact⟨rfl,last,ofs,rfl,a1,a3,a4,.inl (by omega)⟩
  case Xa =>
   rintro x c st' _ hx ⟨rfl,last,ofs,rfl,a1,a2,a3,a4⟩
   dsimp only
   by_cases hge:ofs ≥ hint+1
   ·rw[if_pos hge]
    exact wpS_pure ⟨rfl,last,ofs,rfl,a1,a3,a4,.inl hge⟩
   ·rw[if_neg hge]
    refine wpS_bind (Hr hk hA (by omega) hkey hne ?_)
    by_cases c:v (hint-ofs)<kv
    ·simp only [c,decide_true,if_true]
     exact wpS_pure ⟨rfl,last,ofs,rfl,a1,a3,a4,.inr ⟨by omega,c⟩⟩
    ·simp only [c,decide_false,Ain,if_false]
     have ne:=hne (hint-ofs) (by omega)
     exact wpS_pure ⟨rfl,ofs,2*ofs+1,rfl,by omega,by omega,by omega,by omega⟩
  case post2 =>
   rintro c st' ⟨rfl,last,ofs,rfl,a1,a3,a4,a5⟩
   have h3:∀ i,i<hint+1-min ofs (hint+1)→v i<kv:=fun i hi=>by
    rcases a5 with a5 | ⟨a5,a6⟩
    ·omega
    ·exact AjF (hI.le (by omega) (by omega)) a6
   have h4:∀ i,hint-last≤i→i<n→kv<v i:=fun i h1 h2=>AiY a4 (hI.le h1 h2)
   dsimp only
   refine wpS_bind (wpS_mono (wpS_forRange (I:=fun x c st2=>st2=st'∧∃ lo hi,c=(none,lo,hi)∧lo≤hi∧hi≤n∧hi-lo≤n-x∧(∀ i,i<lo→v i<kv)∧(∀ i,hi≤i→i<n→kv<v i))
    (Q:=fun c st2=>st2=st'∧∃ hi,c=(none,hi,hi)∧hi≤n∧(∀ i,i<hi→v i<kv)∧(∀ i,hi≤i→i<n→kv<v i)) ?Afi ?Ag9 ⟨rfl,hint+1-min ofs (hint+1),hint-last,rfl,by omega,by omega,by omega,h3,h4⟩) ?Afj)
   case Ag9 =>
    rintro c st2 ⟨rfl,lo,hi,rfl,a1,a2,a3,a4,a5⟩
    have:lo=hi:=by omega
    subst this
    exact⟨rfl,lo,rfl,a2,a4,a5⟩
   case Afj =>
    rintro c st2 ⟨rfl,hi,rfl,a2,a4,a5⟩
    exact wpS_pure (h hi a2 a4 a5)
   case Afi =>
    rintro x c st2 _ hx ⟨rfl,lo,hi,rfl,a1,a2,a3,a4,a5⟩
    dsimp only
    by_cases hge:lo ≥ hi
    ·rw[if_pos hge]
     have:lo=hi:=by omega
     subst this
     exact wpS_pure ⟨rfl,lo,rfl,a2,a4,a5⟩
    ·rw[if_neg hge]
     refine wpS_bind (Hr hk hA (by omega) hkey hne ?_)
     by_cases c:v (lo+(hi-lo) / 2)<kv
     ·simp only [c,decide_true,if_true]
      exact wpS_pure ⟨rfl,lo+(hi-lo) / 2+1,hi,rfl,by omega,a2,by omega,fun i hi'=>AjF (hI.le (by omega) (by omega)) c,a5⟩
     ·simp only [c,decide_false,Ain,if_false]
      have ne:=hne (lo+(hi-lo) / 2) (by omega)
      exact wpS_pure ⟨rfl,lo,lo+(hi-lo) / 2,rfl,by omega,by omega,by omega,a4,fun i h1 h2=>AiY (by omega) (hI.le h1 h2)⟩
end
end Tim
open PySem PySem.Spec PyProof.Rows
namespace Tim
def Di:Nat→StateT SortSt Sem Unit:=sortPriv% PySem.Builtin.setMinGallop
def Sh:Array Keyed→Array Keyed→StateT SortSt Sem (Array Keyed):=sortPriv% PySem.Builtin.mergeLo
abbrev Abk (st:SortSt) (g:Nat):SortSt:=SortSt.mk' (kindOf st) (arrOf st) (pendingOf st) g (failedOf st)
theorem El(g:Nat):Di g=modify fun s=>Abk s g:=rfl
theorem Xb(a b:Array Keyed):Sh a b=(do
 rule "list.sort.merge-lo"
 let total:=a.size+b.size
 let done (out:Array Keyed) (ia ib:Nat):=out++a.extract ia a.size++b.extract ib b.size
 let lastOfA (out:Array Keyed) (ia ib:Nat):=out++b.extract ib b.size++a.extract ia a.size
 let mut out:Array Keyed:=#[← elem' b 0]
 let mut ia:=0
 let mut ib:=1
 if ib == b.size then return done out ia ib
 if ia+1 == a.size then return lastOfA out ia ib
 let mut minGallop:=gallopOf (← get)
 for _ in [0:total] do
  let mut acount:=0
  let mut bcount:=0
  for _ in [0:total] do
   let some bWins ← lt' (← elem' b ib) (← elem' a ia) | return done out ia ib
   if bWins then
    out:=out.push (← elem' b ib);ib:=ib+1;bcount:=bcount+1;acount:=0
    if ib == b.size then return done out ia ib
    if bcount ≥ minGallop then break
   else
    out:=out.push (← elem' a ia);ia:=ia+1;acount:=acount+1;bcount:=0
    if ia+1 == a.size then return lastOfA out ia ib
    if acount ≥ minGallop then break
  rule "list.sort.gallop"
  minGallop:=minGallop+1
  for _ in [0:total] do
   if minGallop>1 then minGallop:=minGallop-1
   Di minGallop
   let some k ← Ex false (← elem' b ib) a ia (a.size-ia) 0 | return done out ia ib
   acount:=k
   if k>0 then
    out:=out++a.extract ia (ia+k);ia:=ia+k
    if ia+1 == a.size then return lastOfA out ia ib
    if ia == a.size then return done out ia ib
   out:=out.push (← elem' b ib);ib:=ib+1
   if ib == b.size then return done out ia ib
   let some k ← Ex true (← elem' a ia) b ib (b.size-ib) 0 | return done out ia ib
   bcount:=k
   if k>0 then
    out:=out++b.extract ib (ib+k);ib:=ib+k
    if ib == b.size then return done out ia ib
   out:=out.push (← elem' a ia);ia:=ia+1
   if ia+1 == a.size then return lastOfA out ia ib
   if acount<7 && bcount<7 then break
  minGallop:=minGallop+1
  Di minGallop
 unsupported "internal:list.sort.merge-bound"):=rfl
section
variable {prog:Program}{w:World}{A:Around}{E:Value→Shared→Prop}{s:Shared}
abbrev ky (q:Keyed):Int:=numOf q.1
structure MI (a b out:Array Keyed) (ia ib:Nat):Prop where
 perm:out.toList.Perm (a.toList.take ia++b.toList.take ib)
 up:(out.toList.map ky).Pairwise (·<·)
 la:∀ x∈out.toList,∀ y∈a.toList.drop ia,ky x<ky y
 lb:∀ x∈out.toList,∀ y∈b.toList.drop ib,ky x<ky y
def Up (a:Array Keyed):Prop:=(a.toList.map ky).Pairwise (·<·)
theorem MI.swap{a b out:Array Keyed}{ia ib:Nat}(h:MI a b out ia ib):MI b a out ib ia:=⟨h.perm.trans AjA,h.up,h.lb,h.la⟩
theorem Xc(a:Array Keyed)(i k:Nat):(a.extract i (i+k)).toList=(a.toList.drop i).take k:=by
 rw[Array.toList_extract]
 show(a.toList.drop i).take (i+k-i)=_
 rw[Ajk]
theorem Up.cut{a:Array Keyed}(u:Up a)(i k:Nat):(((a.toList.drop i).take k).map ky).Pairwise (·<·)∧∀ x∈(a.toList.drop i).take k,∀ y∈a.toList.drop (i+k),ky x<ky y:=by
 have u:a.toList.Pairwise fun x y=>ky x<ky y:=List.pairwise_map.mp u
 have h1:(a.toList.drop i).Pairwise fun x y=>ky x<ky y:=u.drop
 rw[← Ai0 k (a.toList.drop i),Aji] at h1
 obtain⟨h2,_,h3⟩:=List.pairwise_append.mp h1
 exact⟨List.pairwise_map.mpr h2,h3⟩
theorem MI.chunk{a b out:Array Keyed}{ia ib k:Nat}(h:MI a b out ia ib)(u:Up a)(hc:∀ x∈(a.toList.drop ia).take k,∀ y∈b.toList.drop ib,ky x<ky y):MI a b (out++a.extract ia (ia+k)) (ia+k) ib:=by
 obtain⟨u1,u2⟩:=u.cut ia k
 have e:(out++a.extract ia (ia+k)).toList=out.toList++(a.toList.drop ia).take k:=by rw[Array.toList_append,Xc]
 refine⟨?_,?_,?_,?_⟩
 ·rw[e,List.take_add]
  refine(h.perm.append_right _).trans ?_
  rw[AiC,AiC]
  exact List.Perm.append_left _ AjA
 ·rw[e,Aio]
  refine List.pairwise_append.mpr ⟨h.up,u1,fun x hx y hy=>?_⟩
  obtain⟨x',hx',rfl⟩:=List.mem_map.mp hx
  obtain⟨y',hy',rfl⟩:=List.mem_map.mp hy
  exact h.la x' hx' y' (Ai4 hy')
 ·rw[e]
  intro x hx y hy
  rcases List.mem_append.mp hx with q | q
  ·exact h.la x q y (by rw[← Aji] at hy;exact AiL hy)
  ·exact u2 x q y hy
 ·rw[e]
  intro x hx y hy
  rcases List.mem_append.mp hx with q | q
  ·exact h.lb x q y hy
  ·exact hc x q y hy
theorem MI.AdL{a b out:Array Keyed}{ia ib k:Nat}(h:MI a b out ia ib)(u:Up b)(hc:∀ x∈(b.toList.drop ib).take k,∀ y∈a.toList.drop ia,ky x<ky y):MI a b (out++b.extract ib (ib+k)) ia (ib+k):=(h.swap.chunk u hc).swap
theorem Zw{a:Array Keyed}{i:Nat}(h:i<a.size):a.extract i (i+1)=#[a[i]]:=by
 apply Array.toList_inj.mp
 rw[Xc]
 rw[AiX (by simpa using h)]
 simp
theorem Abl{a out:Array Keyed}{i:Nat}(h:i<a.size):out.push a[i]=out++a.extract i (i+1):=by rw[Zw h,Array.append_singleton]
def RG (a b r:Array Keyed):Prop:=r.toList.Perm (a.toList++b.toList)∧(r.toList.map ky).Pairwise (·<·)
theorem MI.end{a b out:Array Keyed}(h:MI a b out a.size b.size):RG a b out:=⟨by have:=h.perm;rwa [Aiy (by simp),Aiy (by simp)] at this,h.up⟩
theorem AdM(a:Array Keyed):a.extract a.size a.size=#[]:=by simp
theorem MI.done{a b out:Array Keyed}{ia ib:Nat}(h:MI a b out ia ib)(u:Up a)(hi:ia≤a.size)(hb:ib=b.size):RG a b (out++a.extract ia a.size++b.extract ib b.size):=by
 subst hb
 have:=h.chunk (k:=a.size-ia) u fun x _ y hy=>by rw[AjR (by simp)] at hy;exact absurd hy (by simp)
 rw[show ia+(a.size-ia)=a.size by omega] at this
 rw[AdM,Array.append_empty]
 exact this.end
theorem MI.Zx{a b out:Array Keyed}{ia ib:Nat}(h:MI a b out ia ib)(u:Up a)(v:Up b)(hi:ia+1=a.size)(hb:ib≤b.size)(hl:∀ y∈b.toList,∀ x∈a.toList.drop (a.size-1),ky y<ky x):RG a b (out++b.extract ib b.size++a.extract ia a.size):=by
 have h1:=h.AdL (k:=b.size-ib) v fun x hx y hy=>hl x (AiL (Ai4 hx)) y (by rw[← hi,Nat.add_sub_cancel];exact hy)
 rw[show ib+(b.size-ib)=b.size by omega] at h1
 have h2:=h1.chunk (k:=a.size-ia) u fun x _ y hy=>by rw[AjR (by simp)] at hy;exact absurd hy (by simp)
 rw[show ia+(a.size-ia)=a.size by omega] at h2
 exact h2.end
theorem Up.get{a:Array Keyed}(u:Up a){i j:Nat}(hij:i<j)(hj:j<a.size):ky a[i]<ky a[j]:=by
 have:=List.pairwise_iff_getElem.mp (List.pairwise_map.mp u) i j (by simp;omega) (by simpa using hj) hij
 simpa using this
theorem Up.Acx{a:Array Keyed}(u:Up a){i:Nat}(hi:i<a.size){y:Keyed}(hy:y∈a.toList.drop i):ky a[i]≤ky y:=by
 obtain⟨j,hj,e⟩:=Aiu hy
 rw[Aim,Array.length_toList] at hj
 rw[AjE] at e
 have e:a[i+j]=y:=by simpa using e
 rw[← e]
 by_cases c:j=0
 ·subst c;exact Aiz _
 ·exact AiN (u.get (by omega) (by omega))
theorem Xd{a:Array Keyed}{i k:Nat}{x:Keyed}(hx:x∈(a.toList.drop i).take k):∃ j,j<k∧∃ h:i+j<a.size,a[i+j]=x:=by
 obtain⟨j,hj,e⟩:=Aiu hx
 rw[Aib,Aim,Array.length_toList] at hj
 rw[AjC,AjE] at e
 exact⟨j,by omega,by omega,by simpa using e⟩
theorem MI.Sq{a b out:Array Keyed}{ia ib k:Nat}(h:MI a b out ia ib)(u:Up a)(v:Up b)(hb:ib<b.size)(hk:∀ j,j<k→∀ h:ia+j<a.size,ky a[ia+j]<ky b[ib]):MI a b (out++a.extract ia (ia+k)) (ia+k) ib:=h.chunk u fun x hx y hy=>by
 obtain⟨j,hj,hl,e⟩:=Xd hx
 have h1:=hk j hj hl
 rw[e] at h1
 exact AiY h1 (v.Acx hb hy)
theorem MI.Abm{a b out:Array Keyed}{ia ib k:Nat}(h:MI a b out ia ib)(u:Up a)(v:Up b)(ha:ia<a.size)(hk:∀ j,j<k→∀ h:ib+j<b.size,ky b[ib+j]<ky a[ia]):MI a b (out++b.extract ib (ib+k)) ia (ib+k):=(h.swap.Sq v u ha hk).swap
theorem MI.Ss{a b out:Array Keyed}{ia ib:Nat}(h:MI a b out ia ib)(u:Up a)(v:Up b)(ha:ia<a.size)(hb:ib<b.size)(hk:ky a[ia]<ky b[ib]):MI a b (out.push a[ia]) (ia+1) ib:=by
 rw[Abl ha]
 exact h.Sq (k:=1) u v hb fun j hj hl=>by
  have e:j=0:=by omega
  subst e;exact hk
theorem MI.Ur{a b out:Array Keyed}{ia ib:Nat}(h:MI a b out ia ib)(u:Up a)(v:Up b)(ha:ia<a.size)(hb:ib<b.size)(hk:ky b[ib]<ky a[ia]):MI a b (out.push b[ib]) ia (ib+1):=(h.swap.Ss v u hb ha hk).swap
end
end Tim
open PySem PySem.Spec PyProof.Rows
namespace Tim
abbrev S7:=Option (Array Keyed) × Array Keyed × Nat × Nat × Nat × Nat × Nat
def part3(a b out:Array Keyed)(ia ib g ac bc:Nat):StateT SortSt Sem (ForInStep S7):=do
 let z ← elem' a ia
 if (ia+1+1 == a.size)=true then pure (ForInStep.done (some (out.push z++b.extract ib b.size++a.extract (ia+1) a.size),out.push z,ia+1,ib,g,ac,bc))
 else if (decide (ac<7) && decide (bc<7))=true then pure (ForInStep.done (none,out.push z,ia+1,ib,g,ac,bc))
 else pure (ForInStep.yield (none,out.push z,ia+1,ib,g,ac,bc))
def part2(a b out:Array Keyed)(ia ib g ac bc:Nat):StateT SortSt Sem (ForInStep S7):=do
 let y ← elem' b ib
 if (ib+1 == b.size)=true then pure (ForInStep.done (some (out.push y++a.extract ia a.size++b.extract (ib+1) b.size),out.push y,ia,ib+1,g,ac,bc))
 else do
  let z ← elem' a ia
  let r ← Ex true z b (ib+1) (b.size-(ib+1)) 0
  match r with
  | some k1 =>
   if k1>0 then
    if (ib+1+k1 == b.size)=true then pure (ForInStep.done (some (out.push y++b.extract (ib+1) (ib+1+k1)++a.extract ia a.size++b.extract (ib+1+k1) b.size),out.push y++b.extract (ib+1) (ib+1+k1),ia,ib+1+k1,g,ac,k1))
    else part3 a b (out.push y++b.extract (ib+1) (ib+1+k1)) ia (ib+1+k1) g ac k1
   else part3 a b (out.push y) ia (ib+1) g ac k1
  | _=>pure (ForInStep.done (some (out.push y++a.extract ia a.size++b.extract (ib+1) b.size),out.push y,ia,ib+1,g,ac,bc))
def part1(a b out:Array Keyed)(ia ib g ac bc:Nat):StateT SortSt Sem (ForInStep S7):=do
 let y ← elem' b ib
 let r ← Ex false y a ia (a.size-ia) 0
 match r with
 | some k =>
  if k>0 then
   if (ia+k+1 == a.size)=true then pure (ForInStep.done (some (out++a.extract ia (ia+k)++b.extract ib b.size++a.extract (ia+k) a.size),out++a.extract ia (ia+k),ia+k,ib,g,k,bc))
   else if (ia+k == a.size)=true then pure (ForInStep.done (some (out++a.extract ia (ia+k)++a.extract (ia+k) a.size++b.extract ib b.size),out++a.extract ia (ia+k),ia+k,ib,g,k,bc))
   else part2 a b (out++a.extract ia (ia+k)) (ia+k) ib g k bc
  else part2 a b out ia ib g k bc
 | _=>pure (ForInStep.done (some (out++a.extract ia a.size++b.extract ib b.size),out,ia,ib,g,ac,bc))
structure MP (a b:Array Keyed):Prop where
 u:Up a
 v:Up b
 ia:∀ q∈a.toList,∃ n t,q.1=.int n t
 ib:∀ q∈b.toList,∃ n t,q.1=.int n t
 ne:∀ x∈a.toList,∀ y∈b.toList,ky x≠ky y
 na:1≤a.size
 nb:1≤b.size
 fst:∀ h1:0<b.size,∀ h2:0<a.size,ky b[0]<ky a[0]
 last:∀ y∈b.toList,∀ x∈a.toList.drop (a.size-1),ky y<ky x
section
variable {prog:Program}{w:World}{A:Around}{E:Value→Shared→Prop}{s:Shared}{a b:Array Keyed}
theorem Bt{st:SortSt}{i:Nat}{Q:Keyed→SortSt→Prop}(h:i<a.size)(q:Q a[i] st):wpS (model prog w) A E s (elem' a i) Q st:=by
 rw[elem'_eq,getElem?_pos a i h]
 exact wpS_pure q
theorem K8{i:Nat}(hI:∀ q∈a.toList,∃ n t,q.1=.int n t)(h:i<a.size):∃ t,a[i].1=.int (ky a[i]) t:=by
 obtain⟨n,t,e⟩:=hI a[i] (by simp)
 refine⟨t,?_⟩
 show _=Value.int (numOf a[i].1) t
 rw[e]
 rfl
theorem GC{i:Nat}(h:i<a.size):K a i=ky a[i]:=by unfold K;rw[getElem?_pos a i h]
theorem Y0(hI:∀ q∈a.toList,∃ n t,q.1=.int n t){i:Nat}(hi:i≤a.size):At a i (a.size-i) fun j=>K a (i+j):=fun j hj=>by
 have h:i+j<a.size:=by omega
 obtain⟨t,e⟩:=K8 hI h
 refine⟨t,a[i+j].2,?_⟩
 rw[getElem?_pos a (i+j) h]
 dsimp only
 rw[GC h,← e]
theorem Zy(u:Up a){i:Nat}(hi:i≤a.size):Inc (a.size-i) fun j=>K a (i+j):=fun j k hjk hk=>by
 dsimp only
 rw[GC (by omega),GC (by omega)]
 exact u.get (by omega) (by omega)
def Res (a b:Array Keyed)(r0:Nat)(st:SortSt):ForInStep S7→SortSt→Prop:=fun r st'=>st'=st∧match r with
 | .done c=>(∃ x y,c=(some x,y)∧RG a b x)∨∃ out ia ib g ac bc,c=(none,out,ia,ib,g,ac,bc)∧MI a b out ia ib∧ia+1<a.size∧ib<b.size∧(a.size-ia)+(b.size-ib)+1≤r0
 | .yield c=>∃ out ia ib g ac bc,c=(none,out,ia,ib,g,ac,bc)∧MI a b out ia ib∧ia+1<a.size∧ib<b.size∧(a.size-ia)+(b.size-ib)+1≤r0
theorem Us{st:SortSt}{out:Array Keyed}{ia ib g ac bc r0:Nat}(M:MP a b)(h:MI a b out ia ib)(ha:ia+1<a.size)(hb:ib<b.size)(hk:ky (a[ia]'(by omega))<ky b[ib])(hr:(a.size-ia)+(b.size-ib)≤r0):wpS (model prog w) A E s (part3 a b out ia ib g ac bc) (Res a b r0 st) st:=by
 unfold part3
 refine wpS_bind (Bt (by omega) ?_)
 have h1:=h.Ss M.u M.v (by omega) hb hk
 by_cases e:ia+1+1=a.size
 ·rw[if_pos (by simp[e])]
  exact wpS_pure ⟨rfl,.inl ⟨_,_,rfl,h1.Zx M.u M.v e (by omega) M.last⟩⟩
 ·rw[if_neg (by simp[e])]
  by_cases c:(decide (ac<7) && decide (bc<7))=true
  ·rw[if_pos c]
   exact wpS_pure ⟨rfl,.inr ⟨_,_,_,_,_,_,rfl,h1,by omega,hb,by omega⟩⟩
  ·rw[if_neg c]
   exact wpS_pure ⟨rfl,_,_,_,_,_,_,rfl,h1,by omega,hb,by omega⟩
theorem Ut{st:SortSt}{out:Array Keyed}{ia ib g ac bc r0:Nat}(hkd:kindOf st=oneType')(M:MP a b)(h:MI a b out ia ib)(ha:ia+1<a.size)(hb:ib<b.size)(hk:ky b[ib]<ky (a[ia]'(by omega)))(hr:(a.size-ia)+(b.size-ib)≤r0):wpS (model prog w) A E s (part2 a b out ia ib g ac bc) (Res a b r0 st) st:=by
 unfold part2
 refine wpS_bind (Bt hb ?_)
 have h1:=h.Ur M.u M.v (by omega) hb hk
 by_cases e:ib+1=b.size
 ·rw[if_pos (by simp[e])]
  exact wpS_pure ⟨rfl,.inl ⟨_,_,rfl,h1.done M.u (by omega) e⟩⟩
 ·rw[if_neg (by simp[e])]
  have ha':ia<a.size:=by omega
  refine wpS_bind (Bt ha' ?_)
  obtain⟨t,et⟩:=K8 M.ia ha'
  refine wpS_bind (Ge hkd (Y0 M.ib (by omega)) (Zy M.v (by omega)) (by omega) et (fun i hi=>?_) fun k1 k2 k3 k4=>?_)
  ·rw[GC (by omega)]
   exact fun z=>M.ne a[ia] (by simp) _ (by simp) z.symm
  ·dsimp only
   have tb:MI a b (out.push b[ib]++b.extract (ib+1) (ib+1+k1)) ia (ib+1+k1):=h1.Abm M.u M.v ha' fun j hj hl=>by
    have:=k3 j hj
    rwa [GC hl] at this
   by_cases c:k1>0
   ·rw[if_pos c]
    by_cases e2:ib+1+k1=b.size
    ·rw[if_pos (by simp[e2])]
     exact wpS_pure ⟨rfl,.inl ⟨_,_,rfl,tb.done M.u (by omega) e2⟩⟩
    ·rw[if_neg (by simp[e2])]
     refine Us M tb ha (by omega) ?_ (by omega)
     have:=k4 k1 (AhX _) (by omega)
     rwa [GC (by omega)] at this
   ·rw[if_neg c]
    have e0:k1=0:=by omega
    subst e0
    refine Us M h1 ha (by omega) ?_ (by omega)
    have:=k4 0 (AhX _) (by omega)
    rwa [GC (by omega)] at this
theorem Aak{st:SortSt}{out:Array Keyed}{ia ib g ac bc r0:Nat}(hkd:kindOf st=oneType')(M:MP a b)(h:MI a b out ia ib)(ha:ia+1<a.size)(hb:ib<b.size)(hr:(a.size-ia)+(b.size-ib)≤r0):wpS (model prog w) A E s (part1 a b out ia ib g ac bc) (Res a b r0 st) st:=by
 unfold part1
 refine wpS_bind (Bt hb ?_)
 obtain⟨t,et⟩:=K8 M.ib hb
 refine wpS_bind (Ge hkd (Y0 M.ia (by omega)) (Zy M.u (by omega)) (by omega) et (fun i hi=>?_) fun k k2 k3 k4=>?_)
 ·rw[GC (by omega)]
  exact M.ne _ (by simp) b[ib] (by simp)
 ·dsimp only
  have tA:MI a b (out++a.extract ia (ia+k)) (ia+k) ib:=h.Sq M.u M.v hb fun j hj hl=>by
   have:=k3 j hj
   rwa [GC hl] at this
  have kl:ia+k<a.size:=by
   rcases AiO (ia+k) a.size with q | q
   ·exact q
   ·have h1:=k3 (a.size-1-ia) (by omega)
    rw[GC (by omega)] at h1
    have h2:=M.last b[ib] (by simp) (a[ia+(a.size-1-ia)]'(by omega)) (by
     rw[AiX (by simp;omega)]
     refine List.mem_cons.mpr (.inl ?_)
     simp[show ia+(a.size-1-ia)=a.size-1 by omega])
    omega
  have lt2:ky b[ib]<ky a[ia+k]:=by
   have:=k4 k (AhX _) (by omega)
   rwa [GC kl] at this
  by_cases c:k>0
  ·rw[if_pos c]
   by_cases e:ia+k+1=a.size
   ·rw[if_pos (by simp[e])]
    exact wpS_pure ⟨rfl,.inl ⟨_,_,rfl,tA.Zx M.u M.v e (by omega) M.last⟩⟩
   ·rw[if_neg (by simp[e]),if_neg (by simp;omega)]
    exact Ut hkd M tA (by omega) hb lt2 (by omega)
  ·rw[if_neg c]
   have e0:k=0:=by omega
   subst e0
   exact Ut hkd M h ha hb lt2 hr
end
end Tim
open PySem PySem.Spec PyProof.Rows
namespace Tim
structure SG (st st':SortSt):Prop where
 kd:kindOf st'=kindOf st
 ar:arrOf st'=arrOf st
 pe:pendingOf st'=pendingOf st
 fa:failedOf st'=failedOf st
theorem SG.refl(st:SortSt):SG st st:=⟨rfl,rfl,rfl,rfl⟩
theorem SG.gal{st st':SortSt}(h:SG st st')(g:Nat):SG st (Abk st' g):=⟨h.kd,h.ar,h.pe,h.fa⟩
section
variable {prog:Program}{w:World}{A:Around}{E:Value→Shared→Prop}{s:Shared}{a b:Array Keyed}
theorem MI.nil(a b:Array Keyed):MI a b #[] 0 0:=⟨by simp,by simp,fun x hx=>by simp at hx,fun x hx=>by simp at hx⟩
theorem Xe{st:SortSt}{Q:Array Keyed→SortSt→Prop}(hkd:kindOf st=oneType')(M:MP a b)(h:∀ r st',SG st st'→RG a b r→Q r st'):wpS (model prog w) A E s (Sh a b) Q st:=by
 have na:=M.na
 have nb:=M.nb
 rw[Xb]
 refine wpS_bind (wpS_lift (wpAny_rule ⟨rfl,?_⟩))
 refine wpS_bind (Bt (by omega) ?_)
 have m0:MI a b #[b[0]] 0 1:=(MI.nil a b).Ur M.u M.v (by omega) (by omega) (M.fst _ _)
 dsimp only
 by_cases e1:1=b.size
 ·rw[if_pos (by simp[← e1])]
  exact wpS_pure (h _ _ (.refl _) (m0.done M.u (by omega) e1))
 rw[if_neg (by simp;omega)]
 by_cases e2:0+1=a.size
 ·rw[if_pos (by simp[← e2])]
  exact wpS_pure (h _ _ (.refl _) (m0.Zx M.u M.v e2 (by omega) M.last))
 rw[if_neg (by simp;omega)]
 refine wpS_bind (wpS_get ?_)
 refine wpS_bind (wpS_mono (wpS_forRange (I:=fun y c st'=>SG st st'∧∃ out ia ib g,c=(none,out,ia,ib,g)∧MI a b out ia ib∧ia+1<a.size∧ib<b.size∧(a.size-ia)+(b.size-ib)+y+1≤a.size+b.size)
  (Q:=fun c st'=>SG st st'∧∃ r x,c=(some r,x)∧RG a b r) ?step ?fin ⟨.refl _,_,0,1,_,rfl,m0,by omega,by omega,by omega⟩) ?post)
 case fin =>
  rintro c st' ⟨_,out,ia,ib,g,rfl,m,h1,h2,h3⟩
  omega
 case post =>
  rintro c st' ⟨sg,r,x,rfl,rg⟩
  exact wpS_pure (h r st' sg rg)
 case step =>
  rintro y c st' _ hy ⟨sg,out,ia,ib,g,rfl,m,h1,h2,h3⟩
  dsimp only
  obtain⟨r0,er0⟩:∃ r0,r0=(a.size-ia)+(b.size-ib):=⟨_,rfl⟩
  refine wpS_bind (wpS_mono (wpS_forRange (I:=fun x c st2=>st2=st'∧∃ out ia ib ac bc,c=(none,out,ia,ib,ac,bc)∧MI a b out ia ib∧ia+1<a.size∧ib<b.size∧(a.size-ia)+(b.size-ib)+x≤r0)
   (Q:=fun c st2=>st2=st'∧((∃ r x,c=(some r,x)∧RG a b r)∨∃ out ia ib ac bc,c=(none,out,ia,ib,ac,bc)∧MI a b out ia ib∧ia+1<a.size∧ib<b.size∧(a.size-ia)+(b.size-ib)+1≤r0)) ?step1 ?AdN ⟨rfl,out,ia,ib,0,0,rfl,m,h1,h2,by omega⟩) ?Abn)
  case AdN =>
   rintro c st2 ⟨rfl,out,ia,ib,ac,bc,rfl,m,h1,h2,h3⟩
   omega
  case step1 =>
   rintro x c st2 _ hx ⟨rfl,out,ia,ib,ac,bc,rfl,m,h1,h2,h3⟩
   dsimp only
   have h1':ia<a.size:=by omega
   refine wpS_bind (Bt h2 (wpS_bind (Bt h1' ?_)))
   obtain⟨t,et⟩:=K8 M.ib h2
   obtain⟨u,eu⟩:=K8 M.ia h1'
   refine wpS_bind (Vo (sg.kd.trans hkd) et eu ?_)
   by_cases c:ky b[ib]<ky a[ia]
   ·simp only [c,decide_true,if_true]
    refine wpS_bind (Bt h2 ?_)
    have m1:=m.Ur M.u M.v h1' h2 c
    by_cases e:ib+1=b.size
    ·rw[if_pos (by simp[e])]
     exact wpS_pure ⟨rfl,.inl ⟨_,_,rfl,m1.done M.u (by omega) e⟩⟩
    ·rw[if_neg (by simp[e])]
     by_cases d:bc+1 ≥ g
     ·rw[if_pos d]
      exact wpS_pure ⟨rfl,.inr ⟨_,_,_,_,_,rfl,m1,h1,by omega,by omega⟩⟩
     ·rw[if_neg d]
      exact wpS_pure ⟨rfl,_,_,_,_,_,rfl,m1,h1,by omega,by omega⟩
   ·simp only [c,decide_false,Ain,if_false]
    refine wpS_bind (Bt h1' ?_)
    have ne:=M.ne a[ia] (by simp) b[ib] (by simp)
    have m1:=m.Ss M.u M.v h1' h2 (by omega)
    by_cases e:ia+1+1=a.size
    ·rw[if_pos (by simp[e])]
     exact wpS_pure ⟨rfl,.inl ⟨_,_,rfl,m1.Zx M.u M.v e (by omega) M.last⟩⟩
    ·rw[if_neg (by simp[e])]
     by_cases d:ac+1 ≥ g
     ·rw[if_pos d]
      exact wpS_pure ⟨rfl,.inr ⟨_,_,_,_,_,rfl,m1,by omega,h2,by omega⟩⟩
     ·rw[if_neg d]
      exact wpS_pure ⟨rfl,_,_,_,_,_,rfl,m1,by omega,h2,by omega⟩
  case Abn =>
   rintro c st2 ⟨rfl,(⟨r,x,rfl,rg⟩ | ⟨out,ia,ib,ac,bc,rfl,m,h1,h2,h4⟩)⟩
   ·exact wpS_pure ⟨sg,r,_,rfl,rg⟩
   ·dsimp only
    refine wpS_bind (wpS_lift (wpAny_rule ⟨rfl,?_⟩))
    obtain⟨r1,er1⟩:∃ r1,r1=(a.size-ia)+(b.size-ib):=⟨_,rfl⟩
    refine wpS_bind (wpS_mono (wpS_forRange (I:=fun x c st3=>SG st st3∧∃ out ia ib g ac bc,c=(none,out,ia,ib,g,ac,bc)∧MI a b out ia ib∧ia+1<a.size∧ib<b.size∧(a.size-ia)+(b.size-ib)+x≤r1)
     (Q:=fun c st3=>SG st st3∧((∃ r x,c=(some r,x)∧RG a b r)∨∃ out ia ib g ac bc,c=(none,out,ia,ib,g,ac,bc)∧MI a b out ia ib∧ia+1<a.size∧ib<b.size∧(a.size-ia)+(b.size-ib)≤r1)) ?Xa ?fin2 ⟨sg,out,ia,ib,_,ac,bc,rfl,m,h1,h2,by omega⟩) ?post2)
    case fin2 =>
     rintro c st3 ⟨_,out,ia,ib,g,ac,bc,rfl,m,h1,h2,h3⟩
     omega
    case Xa =>
     rintro x c st3 _ hx ⟨sg3,out,ia,ib,g,ac,bc,rfl,m,h1,h2,h5⟩
     dsimp only
     have go:∀ g':Nat,wpS (model prog w) A E s (do Di g';part1 a b out ia ib g' ac bc) (fun r st'=>match r with
       | .done c'=>SG st st'∧((∃ r x,c'=(some r,x)∧RG a b r)∨∃ out ia ib g ac bc,c'=(none,out,ia,ib,g,ac,bc)∧MI a b out ia ib∧ia+1<a.size∧ib<b.size∧(a.size-ia)+(b.size-ib)≤r1)
       | .yield c'=>SG st st'∧∃ out ia ib g ac bc,c'=(none,out,ia,ib,g,ac,bc)∧MI a b out ia ib∧ia+1<a.size∧ib<b.size∧(a.size-ia)+(b.size-ib)+(x+1)≤r1) st3:=fun g'=>by
      rw[El]
      refine wpS_bind (wpS_modify ?_)
      refine wpS_mono (Aak (r0:=(a.size-ia)+(b.size-ib)) (sg3.kd.trans hkd) M m h1 h2 (AhX _)) fun r st4 hr=>?_
      obtain⟨rfl,hr⟩:=hr
      cases r with
      | done c' =>
       rcases hr with ⟨x',y',rfl,rg⟩ | ⟨out',ia',ib',g'',ac',bc',rfl,m',q1,q2,q3⟩
       ·exact⟨sg3.gal g',.inl ⟨_,_,rfl,rg⟩⟩
       ·exact⟨sg3.gal g',.inr ⟨_,_,_,_,_,_,rfl,m',q1,q2,by omega⟩⟩
      | yield c' =>
       obtain⟨out',ia',ib',g'',ac',bc',rfl,m',q1,q2,q3⟩:=hr
       exact⟨sg3.gal g',_,_,_,_,_,_,rfl,m',q1,q2,by omega⟩
     by_cases hg:g>1
     ·rw[if_pos hg]
      exact wpS_mono (go (g-1)) fun r st' hr=>by cases r <;> exact hr
     ·rw[if_neg hg]
      exact wpS_mono (go g) fun r st' hr=>by cases r <;> exact hr
    case post2 =>
     rintro c st3 ⟨sg3,(⟨r,x,rfl,rg⟩ | ⟨out,ia,ib,g',ac,bc,rfl,m,h1,h2,h5⟩)⟩
     ·exact wpS_pure ⟨sg3,r,_,rfl,rg⟩
     ·dsimp only
      rw[El]
      refine wpS_bind (wpS_modify (wpS_pure ⟨sg3.gal _,out,ia,ib,_,rfl,m,h1,h2,by omega⟩))
end
end Tim
open PySem PySem.Spec PyProof.Rows
namespace Tim
def Su:Array Keyed→Array Keyed→StateT SortSt Sem (Array Keyed):=sortPriv% PySem.Builtin.mergeHi
theorem Xf(a b:Array Keyed):Su a b=(do
 rule "list.sort.merge-hi"
 let total:=a.size+b.size
 let done (out:Array Keyed) (na nb:Nat):=a.extract 0 na++b.extract 0 nb++out.reverse
 let firstOfB (out:Array Keyed) (na nb:Nat):=b.extract 0 nb++a.extract 0 na++out.reverse
 let mut na:=a.size-1
 let mut nb:=b.size
 let mut out:Array Keyed:=#[← elem' a na]
 if na == 0 then return done out na nb
 if nb == 1 then return firstOfB out na nb
 let mut minGallop:=gallopOf (← get)
 for _ in [0:total] do
  let mut acount:=0
  let mut bcount:=0
  for _ in [0:total] do
   let some aWins ← lt' (← elem' b (nb-1)) (← elem' a (na-1)) | return done out na nb
   if aWins then
    na:=na-1;out:=out.push (← elem' a na);acount:=acount+1;bcount:=0
    if na == 0 then return done out na nb
    if acount ≥ minGallop then break
   else
    nb:=nb-1;out:=out.push (← elem' b nb);bcount:=bcount+1;acount:=0
    if nb == 1 then return firstOfB out na nb
    if bcount ≥ minGallop then break
  rule "list.sort.gallop"
  minGallop:=minGallop+1
  for _ in [0:total] do
   if minGallop>1 then minGallop:=minGallop-1
   Di minGallop
   let some at_ ← Ex false (← elem' b (nb-1)) a 0 na (na-1) | return done out na nb
   let k:=na-at_
   acount:=k
   if k>0 then
    out:=out++(a.extract at_ na).reverse;na:=at_
    if na == 0 then return done out na nb
   nb:=nb-1;out:=out.push (← elem' b nb)
   if nb == 1 then return firstOfB out na nb
   let some at_ ← Ex true (← elem' a (na-1)) b 0 nb (nb-1) | return done out na nb
   let k:=nb-at_
   bcount:=k
   if k>0 then
    out:=out++(b.extract at_ nb).reverse;nb:=at_
    if nb == 1 then return firstOfB out na nb
    if nb == 0 then return done out na nb
   na:=na-1;out:=out.push (← elem' a na)
   if na == 0 then return done out na nb
   if acount<7 && bcount<7 then break
  minGallop:=minGallop+1
  Di minGallop
 unsupported "internal:list.sort.merge-bound"):=rfl
structure MH (a b out:Array Keyed) (na nb:Nat):Prop where
 perm:out.toList.Perm (a.toList.drop na++b.toList.drop nb)
 up:(out.toList.map ky).Pairwise (·>·)
 la:∀ x∈out.toList,∀ y∈a.toList.take na,ky y<ky x
 lb:∀ x∈out.toList,∀ y∈b.toList.take nb,ky y<ky x
theorem MH.swap{a b out:Array Keyed}{na nb:Nat}(h:MH a b out na nb):MH b a out nb na:=⟨h.perm.trans AjA,h.up,h.lb,h.la⟩
theorem Gf(a:Array Keyed)(i j:Nat):(a.extract i j).toList=(a.toList.drop i).take (j-i):=by rw[Array.toList_extract]
theorem O8{a:Array Keyed}{i j:Nat}{x:Keyed}(hx:x∈(a.toList.drop i).take (j-i)):∃ k,i≤k∧k<j∧∃ h:k<a.size,a[k]=x:=by
 obtain⟨k,hk,hl,e⟩:=Xd hx
 exact⟨i+k,by omega,by omega,hl,e⟩
theorem GD{a:Array Keyed}{n:Nat}{x:Keyed}(hx:x∈a.toList.take n):∃ k,k<n∧∃ h:k<a.size,a[k]=x:=by
 obtain⟨j,hj,e⟩:=Aiu hx
 rw[Aib,Array.length_toList] at hj
 rw[AjC] at e
 exact⟨j,by omega,by omega,by simpa using e⟩
theorem MH.chunk{a b out:Array Keyed}{na nb i:Nat}(h:MH a b out na nb)(u:Up a)(hi:i≤na)(hn:na≤a.size)(hc:∀ x∈(a.toList.drop i).take (na-i),∀ y∈b.toList.take nb,ky y<ky x):MH a b (out++(a.extract i na).reverse) i nb:=by
 have e:(out++(a.extract i na).reverse).toList=out.toList++((a.toList.drop i).take (na-i)).reverse:=by rw[Array.toList_append,Array.toList_reverse,Gf]
 have ed:a.toList.drop i=(a.toList.drop i).take (na-i)++a.toList.drop na:=by
  conv=>lhs;rw[← Ai0 (na-i) (a.toList.drop i),Aji,show i+(na-i)=na by omega]
 have cu:((a.toList.drop i).take (na-i)).Pairwise fun x y=>ky x<ky y:=((List.pairwise_map.mp u).drop).sublist (AiU _ _)
 refine⟨?_,?_,?_,?_⟩
 ·rw[e]
  generalize (a.toList.drop i).take (na-i)=c at ed
  rw[ed]
  refine(h.perm.append (List.reverse_perm _)).trans ?_
  refine List.perm_append_comm.trans ?_
  rw[AiC]
 ·rw[e,Aio]
  refine List.pairwise_append.mpr ⟨h.up,?_,fun x hx y hy=>?_⟩
  ·rw[List.map_reverse,List.pairwise_reverse]
   exact List.pairwise_map.mpr (cu.imp fun q=>q)
  ·obtain⟨x',hx',rfl⟩:=List.mem_map.mp hx
   obtain⟨y',hy',rfl⟩:=List.mem_map.mp hy
   obtain⟨k,k1,k2,k3,rfl⟩:=O8 (List.mem_reverse.mp hy')
   refine h.la x' hx' _ ?_
   have:(a.toList.take na)[k]?=some a[k]:=by rw[AiR k2];simp[k3]
   exact Aiv this
 ·rw[e]
  intro x hx y hy
  rcases List.mem_append.mp hx with q | q
  ·refine h.la x q y ?_
   obtain⟨k,k1,k2,rfl⟩:=GD hy
   have:(a.toList.take na)[k]?=some a[k]:=by rw[AiR (by omega)];simp[k2]
   exact Aiv this
  ·obtain⟨k,k1,k2,k3,rfl⟩:=O8 (List.mem_reverse.mp q)
   obtain⟨j,j1,j2,rfl⟩:=GD hy
   exact u.get (by omega) k3
 ·rw[e]
  intro x hx y hy
  rcases List.mem_append.mp hx with q | q
  ·exact h.lb x q y hy
  ·exact hc x (List.mem_reverse.mp q) y hy
theorem MH.Sq{a b out:Array Keyed}{na nb i:Nat}(h:MH a b out na nb)(u:Up a)(v:Up b)(hi:i≤na)(hn:na≤a.size)(hb:1≤nb)(hb2:nb≤b.size)(hk:∀ k,i≤k→k<na→∀ h:k<a.size,ky (b[nb-1]'(by omega))<ky a[k]):MH a b (out++(a.extract i na).reverse) i nb:=h.chunk u hi hn fun x hx y hy=>by
 obtain⟨k,k1,k2,k3,rfl⟩:=O8 hx
 obtain⟨j,j1,j2,rfl⟩:=GD hy
 have h1:=hk k k1 k2 k3
 by_cases e:j=nb-1
 ·subst e;exact h1
 ·exact Int.lt_trans (v.get (i:=j) (j:=nb-1) (by omega) (by omega)) h1
theorem MH.Abm{a b out:Array Keyed}{na nb i:Nat}(h:MH a b out na nb)(u:Up a)(v:Up b)(hi:i≤nb)(hn:nb≤b.size)(ha:1≤na)(ha2:na≤a.size)(hk:∀ k,i≤k→k<nb→∀ h:k<b.size,ky (a[na-1]'(by omega))<ky b[k]):MH a b (out++(b.extract i nb).reverse) na i:=(h.swap.Sq v u hi hn ha ha2 hk).swap
theorem Aal{a out:Array Keyed}{i:Nat}(h:i<a.size):out.push a[i]=out++(a.extract i (i+1)).reverse:=by
 rw[Zw h]
 simp
theorem MH.Ss{a b out:Array Keyed}{na nb:Nat}(h:MH a b out na nb)(u:Up a)(v:Up b)(ha:1≤na)(ha2:na≤a.size)(hb:1≤nb)(hb2:nb≤b.size)(hk:ky (b[nb-1]'(by omega))<ky (a[na-1]'(by omega))):MH a b (out.push (a[na-1]'(by omega))) (na-1) nb:=by
 rw[Aal (by omega),show na-1+1=na by omega]
 refine h.Sq u v (by omega) ha2 hb hb2 fun k k1 k2 k3=>?_
 have e:k=na-1:=by omega
 subst e;exact hk
theorem MH.Ur{a b out:Array Keyed}{na nb:Nat}(h:MH a b out na nb)(u:Up a)(v:Up b)(ha:1≤na)(ha2:na≤a.size)(hb:1≤nb)(hb2:nb≤b.size)(hk:ky (a[na-1]'(by omega))<ky (b[nb-1]'(by omega))):MH a b (out.push (b[nb-1]'(by omega))) na (nb-1):=(h.swap.Ss v u hb hb2 ha ha2 hk).swap
theorem MH.end{a b out:Array Keyed}(h:MH a b out 0 0):RG a b out.reverse:=⟨by rw[Array.toList_reverse];exact(List.reverse_perm _).trans h.perm,by rw[Array.toList_reverse,List.map_reverse,List.pairwise_reverse];exact h.up.imp fun q=>q⟩
theorem RG.rev{a b:Array Keyed}{x y:Array Keyed}(h:RG a b (x++y.reverse).reverse):RG a b (y++x.reverse):=by
 have e:(x++y.reverse).reverse=y++x.reverse:=by simp
 rwa [e] at h
theorem MH.done{a b out:Array Keyed}{na nb:Nat}(h:MH a b out na nb)(v:Up b)(hb:nb≤b.size)(ha:na=0):RG a b (a.extract 0 na++b.extract 0 nb++out.reverse):=by
 subst ha
 have h1:=(h.swap.chunk (i:=0) v (by omega) hb fun x _ y hy=>by simp at hy).swap
 have:=h1.end
 rw[show a.extract 0 0=#[] by simp,Array.empty_append]
 exact RG.rev this
theorem MH.Vp{a b out:Array Keyed}{na nb:Nat}(h:MH a b out na nb)(u:Up a)(v:Up b)(hn:na≤a.size)(hb:nb=1)(hb2:nb≤b.size)(hf:∀ h1:0<b.size,∀ h2:0<a.size,ky b[0]<ky a[0]):RG a b (b.extract 0 nb++a.extract 0 na++out.reverse):=by
 subst hb
 have h1:MH a b (out++(a.extract 0 na).reverse) 0 1:=h.chunk u (by omega) hn fun x hx y hy=>by
  obtain⟨k,k1,k2,k3,rfl⟩:=O8 hx
  obtain⟨j,j1,j2,rfl⟩:=GD hy
  have e:j=0:=by omega
  subst e
  have:=hf j2 (by omega)
  by_cases c:k=0
  ·subst c;exact this
  ·exact Int.lt_trans this (u.get (by omega) k3)
 have h2:=(h1.swap.chunk (i:=0) v (by omega) hb2 fun x _ y hy=>by simp at hy).swap
 have:=h2.end
 have e:((out++(a.extract 0 na).reverse)++(b.extract 0 1).reverse).reverse=b.extract 0 1++a.extract 0 na++out.reverse:=by simp
 rwa [e] at this
abbrev H7:=Option (Array Keyed) × Nat × Nat × Array Keyed × Nat × Nat × Nat
def Zz (a b out:Array Keyed)(na nb g ac bc:Nat):StateT SortSt Sem (ForInStep H7):=do
 let z ← elem' a (na-1)
 if (na-1 == 0)=true then pure (ForInStep.done (some (a.extract 0 (na-1)++b.extract 0 nb++(out.push z).reverse),na-1,nb,out.push z,g,ac,bc))
 else if (decide (ac<7) && decide (bc<7))=true then pure (ForInStep.done (none,na-1,nb,out.push z,g,ac,bc))
 else pure (ForInStep.yield (none,na-1,nb,out.push z,g,ac,bc))
def Z0 (a b out:Array Keyed)(na nb g ac bc:Nat):StateT SortSt Sem (ForInStep H7):=do
 let y ← elem' b (nb-1)
 if (nb-1 == 1)=true then pure (ForInStep.done (some (b.extract 0 (nb-1)++a.extract 0 na++(out.push y).reverse),na,nb-1,out.push y,g,ac,bc))
 else do
  let z ← elem' a (na-1)
  let r ← Ex true z b 0 (nb-1) (nb-1-1)
  match r with
  | some k1 =>
   if nb-1-k1>0 then
    if (k1 == 1)=true then pure (ForInStep.done (some (b.extract 0 k1++a.extract 0 na++(out.push y++(b.extract k1 (nb-1)).reverse).reverse),na,k1,out.push y++(b.extract k1 (nb-1)).reverse,g,ac,nb-1-k1))
    else if (k1 == 0)=true then pure (ForInStep.done (some (a.extract 0 na++b.extract 0 k1++(out.push y++(b.extract k1 (nb-1)).reverse).reverse),na,k1,out.push y++(b.extract k1 (nb-1)).reverse,g,ac,nb-1-k1))
    else Zz a b (out.push y++(b.extract k1 (nb-1)).reverse) na k1 g ac (nb-1-k1)
   else Zz a b (out.push y) na (nb-1) g ac (nb-1-k1)
  | _=>pure (ForInStep.done (some (a.extract 0 na++b.extract 0 (nb-1)++(out.push y).reverse),na,nb-1,out.push y,g,ac,bc))
def Abo (a b out:Array Keyed)(na nb g ac bc:Nat):StateT SortSt Sem (ForInStep H7):=do
 let y ← elem' b (nb-1)
 let r ← Ex false y a 0 na (na-1)
 match r with
 | some k =>
  if na-k>0 then
   if (k == 0)=true then pure (ForInStep.done (some (a.extract 0 k++b.extract 0 nb++(out++(a.extract k na).reverse).reverse),k,nb,out++(a.extract k na).reverse,g,na-k,bc))
   else Z0 a b (out++(a.extract k na).reverse) k nb g (na-k) bc
  else Z0 a b out na nb g (na-k) bc
 | _=>pure (ForInStep.done (some (a.extract 0 na++b.extract 0 nb++out.reverse),na,nb,out,g,ac,bc))
section
variable {prog:Program}{w:World}{A:Around}{E:Value→Shared→Prop}{s:Shared}{a b:Array Keyed}
theorem Vq(hI:∀ q∈a.toList,∃ n t,q.1=.int n t){n:Nat}(hn:n≤a.size):At a 0 n fun j=>K a j:=fun j hj=>by
 have h:j<a.size:=by omega
 obtain⟨t,e⟩:=K8 hI h
 refine⟨t,a[j].2,?_⟩
 rw[AiD,getElem?_pos a j h]
 dsimp only
 rw[GC h,← e]
theorem Xg(u:Up a){n:Nat}(hn:n≤a.size):Inc n fun j=>K a j:=fun j k hjk hk=>by
 dsimp only
 rw[GC (by omega),GC (by omega)]
 exact u.get hjk (by omega)
def AdO (a b:Array Keyed)(r0:Nat)(st:SortSt):ForInStep H7→SortSt→Prop:=fun r st'=>st'=st∧match r with
 | .done c=>(∃ x y,c=(some x,y)∧RG a b x)∨∃ out na nb g ac bc,c=(none,na,nb,out,g,ac,bc)∧MH a b out na nb∧1≤na∧na≤a.size∧2≤nb∧nb≤b.size∧na+nb+1≤r0
 | .yield c=>∃ out na nb g ac bc,c=(none,na,nb,out,g,ac,bc)∧MH a b out na nb∧1≤na∧na≤a.size∧2≤nb∧nb≤b.size∧na+nb+1≤r0
theorem Uu{st:SortSt}{out:Array Keyed}{na nb g ac bc r0:Nat}(M:MP a b)(h:MH a b out na nb)(ha:1≤na)(ha2:na≤a.size)(hb:2≤nb)(hb2:nb≤b.size)(hk:ky (b[nb-1]'(by omega))<ky (a[na-1]'(by omega)))(hr:na+nb≤r0):wpS (model prog w) A E s (Zz a b out na nb g ac bc) (AdO a b r0 st) st:=by
 unfold Zz
 refine wpS_bind (Bt (by omega) ?_)
 have h1:=h.Ss M.u M.v ha ha2 (by omega) hb2 hk
 by_cases e:na-1=0
 ·rw[if_pos (by simp[e])]
  exact wpS_pure ⟨rfl,.inl ⟨_,_,rfl,h1.done M.v hb2 e⟩⟩
 ·rw[if_neg (by simp[e])]
  by_cases c:(decide (ac<7) && decide (bc<7))=true
  ·rw[if_pos c]
   exact wpS_pure ⟨rfl,.inr ⟨_,_,_,_,_,_,rfl,h1,by omega,by omega,hb,hb2,by omega⟩⟩
  ·rw[if_neg c]
   exact wpS_pure ⟨rfl,_,_,_,_,_,_,rfl,h1,by omega,by omega,hb,hb2,by omega⟩
theorem Uv{st:SortSt}{out:Array Keyed}{na nb g ac bc r0:Nat}(hkd:kindOf st=oneType')(M:MP a b)(h:MH a b out na nb)(ha:1≤na)(ha2:na≤a.size)(hb:2≤nb)(hb2:nb≤b.size)(hk:ky (a[na-1]'(by omega))<ky (b[nb-1]'(by omega)))(hr:na+nb≤r0):wpS (model prog w) A E s (Z0 a b out na nb g ac bc) (AdO a b r0 st) st:=by
 unfold Z0
 refine wpS_bind (Bt (by omega) ?_)
 have h1:=h.Ur M.u M.v ha ha2 (by omega) hb2 hk
 by_cases e:nb-1=1
 ·rw[if_pos (by simp[e])]
  exact wpS_pure ⟨rfl,.inl ⟨_,_,rfl,h1.Vp M.u M.v ha2 e (by omega) M.fst⟩⟩
 ·rw[if_neg (by simp[e])]
  have ha':na-1<a.size:=by omega
  refine wpS_bind (Bt ha' ?_)
  obtain⟨t,et⟩:=K8 M.ia ha'
  refine wpS_bind (Ge hkd (Vq M.ib (by omega)) (Xg M.v (by omega)) (by omega) et (fun i hi=>?_) fun k1 k2 k3 k4=>?_)
  ·rw[GC (by omega)]
   exact fun z=>M.ne a[na-1] (by simp) _ (by simp) z.symm
  ·dsimp only
   have tb:MH a b (out.push (b[nb-1]'(by omega))++(b.extract k1 (nb-1)).reverse) na k1:=h1.Abm M.u M.v k2 (by omega) ha ha2 fun j j1 j2 j3=>by
    have:=k4 j j1 j2
    rwa [GC j3] at this
   have k10:1≤k1:=by
    rcases AiO 0 k1 with q | q
    ·exact q
    ·have h1:=k4 0 (by omega) (by omega)
     rw[GC (by omega)] at h1
     have h2:=M.fst (by omega) (by omega)
     by_cases e0:na-1=0
     ·simp only [e0] at h1;omega
     ·have:=M.u.get (i:=0) (j:=na-1) (by omega) (by omega)
      omega
   have lt3:∀ h:k1-1<b.size,ky b[k1-1]<ky a[na-1]:=fun hh=>by
    have:=k3 (k1-1) (by omega)
    rwa [GC hh] at this
   by_cases c:nb-1-k1>0
   ·rw[if_pos c]
    by_cases e2:k1=1
    ·rw[if_pos (by simp[e2])]
     exact wpS_pure ⟨rfl,.inl ⟨_,_,rfl,tb.Vp M.u M.v ha2 e2 (by omega) M.fst⟩⟩
    ·rw[if_neg (by simp[e2]),if_neg (by simp;omega)]
     exact Uu M tb ha ha2 (by omega) (by omega) (lt3 _) (by omega)
   ·rw[if_neg c]
    have e0:k1=nb-1:=by omega
    refine Uu M h1 ha ha2 (by omega) (by omega) ?_ (by omega)
    subst e0
    exact lt3 _
theorem Aam{st:SortSt}{out:Array Keyed}{na nb g ac bc r0:Nat}(hkd:kindOf st=oneType')(M:MP a b)(h:MH a b out na nb)(ha:1≤na)(ha2:na≤a.size)(hb:2≤nb)(hb2:nb≤b.size)(hr:na+nb≤r0):wpS (model prog w) A E s (Abo a b out na nb g ac bc) (AdO a b r0 st) st:=by
 unfold Abo
 have hb':nb-1<b.size:=by omega
 refine wpS_bind (Bt hb' ?_)
 obtain⟨t,et⟩:=K8 M.ib hb'
 refine wpS_bind (Ge hkd (Vq M.ia ha2) (Xg M.u ha2) (by omega) et (fun i hi=>?_) fun k k2 k3 k4=>?_)
 ·rw[GC (by omega)]
  exact M.ne _ (by simp) b[nb-1] (by simp)
 ·dsimp only
  have tA:MH a b (out++(a.extract k na).reverse) k nb:=h.Sq M.u M.v k2 ha2 (by omega) hb2 fun j j1 j2 j3=>by
   have:=k4 j j1 j2
   rwa [GC j3] at this
  have lt2:1≤k→∀ h:k-1<a.size,ky a[k-1]<ky b[nb-1]:=fun q hh=>by
   have:=k3 (k-1) (by omega)
   rwa [GC hh] at this
  by_cases c:na-k>0
  ·rw[if_pos c]
   by_cases e:k=0
   ·rw[if_pos (by simp[e])]
    exact wpS_pure ⟨rfl,.inl ⟨_,_,rfl,tA.done M.v hb2 e⟩⟩
   ·rw[if_neg (by simp[e])]
    exact Uv hkd M tA (by omega) (by omega) hb hb2 (lt2 (by omega) _) (by omega)
  ·rw[if_neg c]
   have e0:k=na:=by omega
   refine Uv hkd M h ha ha2 hb hb2 ?_ hr
   subst e0
   exact lt2 ha _
end
end Tim
open PySem PySem.Spec PyProof.Rows
namespace Tim
section
variable {prog:Program}{w:World}{A:Around}{E:Value→Shared→Prop}{s:Shared}{a b:Array Keyed}
theorem Xh{st:SortSt}{Q:Array Keyed→SortSt→Prop}(hkd:kindOf st=oneType')(M:MP a b)(h:∀ r st',SG st st'→RG a b r→Q r st'):wpS (model prog w) A E s (Su a b) Q st:=by
 have na':=M.na
 have nb':=M.nb
 rw[Xf]
 refine wpS_bind (wpS_lift (wpAny_rule ⟨rfl,?_⟩))
 have hl:a.size-1<a.size:=by omega
 refine wpS_bind (Bt hl ?_)
 have m0:MH a b #[a[a.size-1]] (a.size-1) b.size:=by
  have ed:a.toList.drop (a.size-1)=[a[a.size-1]]:=by
   rw[AiX (by simpa using hl)]
   simp
   omega
  refine⟨by rw[ed];simp,by simp,fun x hx y hy=>?_,fun x hx y hy=>?_⟩
  ·have ex:x=a[a.size-1]:=by simpa using hx
   obtain⟨k,k1,k2,rfl⟩:=GD hy
   rw[ex]
   exact M.u.get (by omega) hl
  ·have ex:x=a[a.size-1]:=by simpa using hx
   obtain⟨k,k1,k2,rfl⟩:=GD hy
   rw[ex]
   exact M.last _ (by simp) _ (by rw[ed];simp)
 dsimp only
 by_cases e1:a.size-1=0
 ·rw[if_pos (by simp[e1])]
  exact wpS_pure (h _ _ (.refl _) (m0.done M.v (AhX _) e1))
 rw[if_neg (by simp[e1])]
 by_cases e2:b.size=1
 ·rw[if_pos (by simp[e2])]
  exact wpS_pure (h _ _ (.refl _) (m0.Vp M.u M.v (by omega) e2 (AhX _) M.fst))
 rw[if_neg (by simp[e2])]
 refine wpS_bind (wpS_get ?_)
 refine wpS_bind (wpS_mono (wpS_forRange (I:=fun y c st'=>SG st st'∧∃ out na nb g,c=(none,na,nb,out,g)∧MH a b out na nb∧1≤na∧na≤a.size∧2≤nb∧nb≤b.size∧na+nb+y+1≤a.size+b.size)
  (Q:=fun c st'=>SG st st'∧∃ r x,c=(some r,x)∧RG a b r) ?step ?fin ⟨.refl _,_,a.size-1,b.size,_,rfl,m0,by omega,by omega,by omega,by omega,by omega⟩) ?post)
 case fin =>
  rintro c st' ⟨_,out,na,nb,g,rfl,m,h1,h2,h3,h4,h5⟩
  omega
 case post =>
  rintro c st' ⟨sg,r,x,rfl,rg⟩
  exact wpS_pure (h r st' sg rg)
 case step =>
  rintro y c st' _ hy ⟨sg,out,na,nb,g,rfl,m,h1,h2,h3,h4,h5⟩
  dsimp only
  obtain⟨r0,er0⟩:∃ r0,r0=na+nb:=⟨_,rfl⟩
  refine wpS_bind (wpS_mono (wpS_forRange (I:=fun x c st2=>st2=st'∧∃ out na nb ac bc,c=(none,na,nb,out,ac,bc)∧MH a b out na nb∧1≤na∧na≤a.size∧2≤nb∧nb≤b.size∧na+nb+x≤r0)
   (Q:=fun c st2=>st2=st'∧((∃ r x,c=(some r,x)∧RG a b r)∨∃ out na nb ac bc,c=(none,na,nb,out,ac,bc)∧MH a b out na nb∧1≤na∧na≤a.size∧2≤nb∧nb≤b.size∧na+nb+1≤r0)) ?step1 ?AdN ⟨rfl,out,na,nb,0,0,rfl,m,h1,h2,h3,h4,by omega⟩) ?Abn)
  case AdN =>
   rintro c st2 ⟨rfl,out,na,nb,ac,bc,rfl,m,h1,h2,h3,h4,h6⟩
   omega
  case step1 =>
   rintro x c st2 _ hx ⟨rfl,out,na,nb,ac,bc,rfl,m,h1,h2,h3,h4,h6⟩
   dsimp only
   have h1':na-1<a.size:=by omega
   have h2':nb-1<b.size:=by omega
   refine wpS_bind (Bt h2' (wpS_bind (Bt h1' ?_)))
   obtain⟨t,et⟩:=K8 M.ib h2'
   obtain⟨u,eu⟩:=K8 M.ia h1'
   refine wpS_bind (Vo (sg.kd.trans hkd) et eu ?_)
   by_cases c:ky b[nb-1]<ky a[na-1]
   ·simp only [c,decide_true,if_true]
    refine wpS_bind (Bt h1' ?_)
    have m1:=m.Ss M.u M.v h1 h2 (by omega) h4 c
    by_cases e:na-1=0
    ·rw[if_pos (by simp[e])]
     exact wpS_pure ⟨rfl,.inl ⟨_,_,rfl,m1.done M.v h4 e⟩⟩
    ·rw[if_neg (by simp[e])]
     by_cases d:ac+1 ≥ g
     ·rw[if_pos d]
      exact wpS_pure ⟨rfl,.inr ⟨_,_,_,_,_,rfl,m1,by omega,by omega,h3,h4,by omega⟩⟩
     ·rw[if_neg d]
      exact wpS_pure ⟨rfl,_,_,_,_,_,rfl,m1,by omega,by omega,h3,h4,by omega⟩
   ·simp only [c,decide_false,Ain,if_false]
    refine wpS_bind (Bt h2' ?_)
    have ne:=M.ne a[na-1] (by simp) b[nb-1] (by simp)
    have m1:=m.Ur M.u M.v h1 h2 (by omega) h4 (by omega)
    by_cases e:nb-1=1
    ·rw[if_pos (by simp[e])]
     exact wpS_pure ⟨rfl,.inl ⟨_,_,rfl,m1.Vp M.u M.v h2 e (by omega) M.fst⟩⟩
    ·rw[if_neg (by simp[e])]
     by_cases d:bc+1 ≥ g
     ·rw[if_pos d]
      exact wpS_pure ⟨rfl,.inr ⟨_,_,_,_,_,rfl,m1,h1,h2,by omega,by omega,by omega⟩⟩
     ·rw[if_neg d]
      exact wpS_pure ⟨rfl,_,_,_,_,_,rfl,m1,h1,h2,by omega,by omega,by omega⟩
  case Abn =>
   rintro c st2 ⟨rfl,(⟨r,x,rfl,rg⟩ | ⟨out,na,nb,ac,bc,rfl,m,h1,h2,h3,h4,h6⟩)⟩
   ·exact wpS_pure ⟨sg,r,_,rfl,rg⟩
   ·dsimp only
    refine wpS_bind (wpS_lift (wpAny_rule ⟨rfl,?_⟩))
    obtain⟨r1,er1⟩:∃ r1,r1=na+nb:=⟨_,rfl⟩
    refine wpS_bind (wpS_mono (wpS_forRange (I:=fun x c st3=>SG st st3∧∃ out na nb g ac bc,c=(none,na,nb,out,g,ac,bc)∧MH a b out na nb∧1≤na∧na≤a.size∧2≤nb∧nb≤b.size∧na+nb+x≤r1)
     (Q:=fun c st3=>SG st st3∧((∃ r x,c=(some r,x)∧RG a b r)∨∃ out na nb g ac bc,c=(none,na,nb,out,g,ac,bc)∧MH a b out na nb∧1≤na∧na≤a.size∧2≤nb∧nb≤b.size∧na+nb≤r1)) ?Xa ?fin2 ⟨sg,out,na,nb,_,ac,bc,rfl,m,h1,h2,h3,h4,by omega⟩) ?post2)
    case fin2 =>
     rintro c st3 ⟨_,out,na,nb,g,ac,bc,rfl,m,h1,h2,h3,h4,h7⟩
     omega
    case Xa =>
     rintro x c st3 _ hx ⟨sg3,out,na,nb,g,ac,bc,rfl,m,h1,h2,h3,h4,h7⟩
     dsimp only
     have go:∀ g':Nat,wpS (model prog w) A E s (do Di g';Abo a b out na nb g' ac bc) (fun r st'=>match r with
       | .done c'=>SG st st'∧((∃ r x,c'=(some r,x)∧RG a b r)∨∃ out na nb g ac bc,c'=(none,na,nb,out,g,ac,bc)∧MH a b out na nb∧1≤na∧na≤a.size∧2≤nb∧nb≤b.size∧na+nb≤r1)
       | .yield c'=>SG st st'∧∃ out na nb g ac bc,c'=(none,na,nb,out,g,ac,bc)∧MH a b out na nb∧1≤na∧na≤a.size∧2≤nb∧nb≤b.size∧na+nb+(x+1)≤r1) st3:=fun g'=>by
      rw[El]
      refine wpS_bind (wpS_modify ?_)
      refine wpS_mono (Aam (r0:=na+nb) (sg3.kd.trans hkd) M m h1 h2 h3 h4 (AhX _)) fun r st4 hr=>?_
      obtain⟨rfl,hr⟩:=hr
      cases r with
      | done c' =>
       rcases hr with ⟨x',y',rfl,rg⟩ | ⟨out',na2,nb2,g'',ac',bc',rfl,m',q1,q2,q3,q4,q5⟩
       ·exact⟨sg3.gal g',.inl ⟨_,_,rfl,rg⟩⟩
       ·exact⟨sg3.gal g',.inr ⟨_,_,_,_,_,_,rfl,m',q1,q2,q3,q4,by omega⟩⟩
      | yield c' =>
       obtain⟨out',na2,nb2,g'',ac',bc',rfl,m',q1,q2,q3,q4,q5⟩:=hr
       exact⟨sg3.gal g',_,_,_,_,_,_,rfl,m',q1,q2,q3,q4,by omega⟩
     by_cases hg:g>1
     ·rw[if_pos hg]
      exact wpS_mono (go (g-1)) fun r st' hr=>by cases r <;> exact hr
     ·rw[if_neg hg]
      exact wpS_mono (go g) fun r st' hr=>by cases r <;> exact hr
    case post2 =>
     rintro c st3 ⟨sg3,(⟨r,x,rfl,rg⟩ | ⟨out,na,nb,g',ac,bc,rfl,m,h1,h2,h3,h4,h7⟩)⟩
     ·exact wpS_pure ⟨sg3,r,_,rfl,rg⟩
     ·dsimp only
      rw[El]
      refine wpS_bind (wpS_modify (wpS_pure ⟨sg3.gal _,out,na,nb,_,rfl,m,h1,h2,h3,h4,by omega⟩))
end
end Tim
open PySem PySem.Spec PyProof.Rows
namespace Tim
theorem Xi(i:Nat):mergeAt' i=(do
 let s ← get
 let (some (sa,na,power),some (sb,nb,_)):=((pendingOf s)[i]?,(pendingOf s)[i+1]?) | unsupported "internal:list.sort.pending"
 set (setPending s (((pendingOf s).setIfInBounds i (sa,na+nb,power)).eraseIdxIfInBounds (i+1)))
 let some k ← Ex false (← elem' (arrOf s) sb) (arrOf s) sa na 0 | return false
 let (sa,na):=(sa+k,na-k)
 if na == 0 then return true
 let some nb ← Ex true (← elem' (arrOf s) (sa+na-1)) (arrOf s) sb nb (nb-1) | return false
 if nb == 0 then return true
 let x:=(arrOf s).extract sa sb
 let y:=(arrOf s).extract sb (sb+nb)
 let merged ← if na≤nb then Sh x y else Su x y
 modify fun s=>setArr s (merged.toList.zipIdx.foldl (fun a (p,j)=>a.setIfInBounds (sa+j) p) (arrOf s))
 return (failedOf (← get)).isNone):=rfl
theorem Xj:∀(l:List Keyed) (n k:Nat) (arr:Array Keyed),k+n+l.length≤arr.size→((l.zipIdx n).foldl (fun a (q:Keyed × Nat)=>a.setIfInBounds (k+q.2) q.1) arr).toList=arr.toList.take (k+n)++l++arr.toList.drop (k+n+l.length)
 | [],n,k,arr,h=>by simp
 | x::l,n,k,arr,h=>by
  rw[List.zipIdx_cons,List.foldl_cons]
  rw[Ai2] at h
  rw[Xj l (n+1) k _ (by rw[Array.size_setIfInBounds];omega)]
  have hk:k+n<arr.toList.length:=by rw[Array.length_toList];omega
  dsimp only
  rw[Array.toList_setIfInBounds,Ai2]
  have e1:(arr.toList.set (k+n) x).take (k+(n+1))=arr.toList.take (k+n)++[x]:=by
   rw[show k+(n+1)=k+n+1 by omega,Ai8,Ajd hk,List.take_set_of_le (AhX _)]
   rfl
  have e2:(arr.toList.set (k+n) x).drop (k+(n+1)+l.length)=arr.toList.drop (k+n+(l.length+1)):=by
   rw[List.drop_set_of_lt (by omega)]
   congr 1
   omega
  rw[e1,e2]
  simp
section
variable {prog:Program}{w:World}{A:Around}{E:Value→Shared→Prop}{s:Shared}{a₀:Array Keyed}
theorem NB{xs:Array Keyed}{i:Nat}(h:i<xs.size):ky xs[i]=K xs i:=(GC h).symm
theorem Acy{st x:SortSt}{Q:PUnit→SortSt→Prop}(h:Q ⟨⟩ x):wpS (model prog w) A E s (set x:StateT SortSt Sem PUnit) Q st:=by
 unfold wpS
 show wpAny _ _ ((pure (PUnit.unit,x):Sem (PUnit × SortSt))) _ _ _
 exact wpAny_pure ⟨rfl,h⟩
structure Two (a₀:Array Keyed) (n1:Nat) (st:SortSt):Prop where
 perm:(arrOf st).Perm a₀
 kind:kindOf st=oneType'
 failed:failedOf st=none
 one:∀ i j,i<j→j<n1→K (arrOf st) i<K (arrOf st) j
 two:∀ i j,n1≤i→i<j→j<a₀.size→K (arrOf st) i<K (arrOf st) j
theorem Y4{xs:Array Keyed}(h:(xs.toList.map ky).Pairwise (·<·)):SortedTo xs xs.size:=fun i j hij hj=>by
 by_cases e:i=j
 ·subst e;exact Aiz _
 ·have:=List.pairwise_iff_getElem.mp (List.pairwise_map.mp h) i j (by simp;omega) (by simpa using hj) (by omega)
  rw[GC (by omega),GC hj]
  refine AiN ?_
  simpa using this
theorem Vr{xs:Array Keyed}{i j:Nat}(hj:j≤xs.size)(h:∀ p q,i≤p→p<q→q<j→K xs p<K xs q):Up (xs.extract i j):=by
 unfold Up
 rw[AiE,List.pairwise_iff_getElem]
 intro p q hp hq hpq
 rw[Gf,Aib,Aim,Array.length_toList] at hp hq
 have hq':i+q<xs.size:=by omega
 have hp':i+p<xs.size:=by omega
 have:=h (i+p) (i+q) (by omega) (by omega) (by omega)
 rw[GC hp',GC hq'] at this
 simpa using this
theorem ext_get{xs:Array Keyed}{i j k:Nat}(h:k<(xs.extract i j).size)(hj:j≤xs.size):∃ h':i+k<xs.size,(xs.extract i j)[k]=xs[i+k]:=by
 rw[Array.size_extract] at h
 exact⟨by omega,by simp⟩
theorem ext_mem{xs:Array Keyed}{i j:Nat}{x:Keyed}(hx:x∈(xs.extract i j).toList):∃ k,i≤k∧k<j∧∃ h:k<xs.size,xs[k]=x:=by
 rw[Gf] at hx
 exact O8 hx
theorem Xk{st:SortSt}{n1 pw z:Nat}{Q:Bool→SortSt→Prop}(h0:IntKeys a₀)(hD:DK a₀)(T:Two a₀ n1 st)(hn1:1≤n1)(hn:n1<a₀.size)(hp:pendingOf st=#[(0,n1,pw),(n1,a₀.size-n1,z)])
  (h:∀ st',(arrOf st').Perm a₀→failedOf st'=none→pendingOf st'=#[(0,a₀.size,pw)]→SortedTo (arrOf st') a₀.size→Q true st'):wpS (model prog w) A E s (mergeAt' 0) Q st:=by
 have Xl:=T.perm
 have Y5:=T.one
 have Y6:=T.two
 have sz:(arrOf st).size=a₀.size:=Xl.size_eq
 have Aan:∀ q∈(arrOf st).toList,∃ n t,q.1=.int n t:=fun q hq=>h0 q ((Array.perm_iff_toList_perm.mp Xl).mem_iff.mp hq)
 have inj:∀ i j,i<a₀.size→j<a₀.size→i≠j→K (arrOf st) i≠K (arrOf st) j:=fun i j hi hj ne=>Yx Xl hD (by omega) (by omega) ne
 rw[Xi]
 refine wpS_bind (wpS_get ?_)
 have p0:(pendingOf st)[0]?=some (0,n1,pw):=by rw[hp];rfl
 have p1:(pendingOf st)[0+1]?=some (n1,a₀.size-n1,z):=by rw[hp];rfl
 rw[p0,p1]
 dsimp only
 refine wpS_bind (Acy ?_)
 have ep:((pendingOf st).setIfInBounds 0 (0,n1+(a₀.size-n1),pw)).eraseIdxIfInBounds (0+1)=#[(0,a₀.size,pw)]:=by
  rw[hp,show n1+(a₀.size-n1)=a₀.size by omega]
  apply Array.toList_inj.mp
  simp[Array.eraseIdxIfInBounds]
 rw[ep]
 generalize Abp:setPending st #[(0,a₀.size,pw)]=st1
 have k1:kindOf st1=oneType':=by rw[← Abp];exact T.kind
 have ar1:arrOf st1=arrOf st:=by rw[← Abp]
 have pe1:pendingOf st1=#[(0,a₀.size,pw)]:=by rw[← Abp]
 have fa1:failedOf st1=none:=by rw[← Abp];exact T.failed
 clear Abp
 generalize hxs:arrOf st=xs at *
 have hlt:n1<xs.size:=by omega
 refine wpS_bind (Bt hlt ?_)
 obtain⟨t,et⟩:=K8 Aan hlt
 have at0:At xs 0 n1 fun j=>K xs j:=Vq Aan (by omega)
 refine wpS_bind (Ge k1 at0 (fun i j hij hj=>Y5 i j hij (by omega)) (by omega) et (fun i hi=>by rw[NB hlt];exact inj i n1 (by omega) (by omega) (by omega)) fun k kn ka kb=>?_)
 rw[NB hlt] at ka kb
 dsimp only
 have fin:∀{st':SortSt},arrOf st'=xs→failedOf st'=none→pendingOf st'=#[(0,a₀.size,pw)]→K xs (n1-1)<K xs n1→Q true st':=fun a1 a2 a3 lt=>by
  refine h _ (by rw[a1];exact Xl) a2 a3 ?_
  rw[a1]
  intro i j hij hj
  by_cases e:i=j
  ·subst e;exact Aiz _
  ·refine AiN ?_
   rcases AiO j n1 with c | c
   ·exact Y5 i j (by omega) c
   ·rcases AiO i n1 with d | d
    ·have q1:K xs i≤K xs (n1-1):=by
      by_cases e2:i=n1-1
      ·rw[e2];exact Aiz _
      ·exact AiN (Y5 i (n1-1) (by omega) (by omega))
     have q2:K xs n1≤K xs j:=by
      by_cases e2:j=n1
      ·rw[e2];exact Aiz _
      ·exact AiN (Y6 n1 j (by omega) (by omega) hj)
     omega
    ·exact Y6 i j d (by omega) hj
 by_cases e0:n1-k=0
 ·rw[if_pos (by simp[e0])]
  exact wpS_pure (fin ar1 fa1 pe1 (ka (n1-1) (by omega)))
 rw[if_neg (by simp[e0])]
 have hl1:0+k+(n1-k)-1<xs.size:=by omega
 refine wpS_bind (Bt hl1 ?_)
 obtain⟨t2,et2⟩:=K8 Aan hl1
 have ix:0+k+(n1-k)-1=n1-1:=by omega
 have kx:ky (xs[0+k+(n1-k)-1]'hl1)=K xs (n1-1):=by rw[NB hl1,ix]
 have at1:At xs n1 (a₀.size-n1) fun j=>K xs (n1+j):=by have:=Y0 Aan (i:=n1) (by omega);rwa [sz] at this
 refine wpS_bind (Ge k1 at1 (fun i j hij hj=>Y6 (n1+i) (n1+j) (by omega) (by omega) (by omega)) (by omega) et2 (fun i hi=>by rw[kx];exact inj _ _ (by omega) (by omega) (by omega)) fun m mn ma mb=>?_)
 rw[kx] at ma mb
 dsimp only
 by_cases e1:m=0
 ·rw[if_pos (by simp[e1])]
  have:=mb 0 (by omega) (by omega)
  exact wpS_pure (fin ar1 fa1 pe1 this)
 rw[if_neg (by simp[e1])]
 rw[AiD]
 have M:MP (xs.extract k n1) (xs.extract n1 (n1+m)):=by
  have z1:(xs.extract k n1).size=n1-k:=by rw[Array.size_extract];omega
  have z2:(xs.extract n1 (n1+m)).size=m:=by rw[Array.size_extract];omega
  refine⟨Vr (by omega) (fun p q h1 h2 h3=>Y5 p q h2 h3),Vr (by omega) (fun p q h1 h2 h3=>Y6 p q h1 h2 (by omega)),fun q hq=>?_,fun q hq=>?_,fun x hx y hy=>?_,by omega,by omega,fun h1 h2=>?_,fun y hy x hx=>?_⟩
  ·obtain⟨i,_,_,hi,rfl⟩:=ext_mem hq
   exact Aan _ (by simp)
  ·obtain⟨i,_,_,hi,rfl⟩:=ext_mem hq
   exact Aan _ (by simp)
  ·obtain⟨i,i1,i2,hi,rfl⟩:=ext_mem hx
   obtain⟨j,j1,j2,hj,rfl⟩:=ext_mem hy
   rw[NB hi,NB hj]
   exact inj i j (by omega) (by omega) (by omega)
  ·obtain⟨q1,e1⟩:=ext_get h1 (by omega)
   obtain⟨q2,e2⟩:=ext_get h2 (by omega)
   rw[e1,e2,NB q1,NB q2,AiZ,AiZ]
   exact kb k (AhX _) (by omega)
  ·obtain⟨j,j1,j2,hj,rfl⟩:=ext_mem hy
   have ex:x=xs[n1-1]'(by omega):=by
    rw[AiX (by rw[Array.length_toList];omega)] at hx
    rcases List.mem_cons.mp hx with q | q
    ·rw[q]
     obtain⟨q1,e1⟩:=ext_get (xs:=xs) (i:=k) (j:=n1) (k:=(xs.extract k n1).size-1) (by omega) (by omega)
     simp only [Array.getElem_toList]
     rw[e1]
     congr 1
     omega
    ·rw[AjR (by rw[Array.length_toList];omega)] at q
     exact absurd q (by simp)
   rw[ex,NB hj,NB (by omega)]
   have:=ma (j-n1) (by omega)
   rwa [show n1+(j-n1)=j by omega] at this
 have last:∀ r st',SG st1 st'→RG (xs.extract k n1) (xs.extract n1 (n1+m)) r→wpS (model prog w) A E s (do
   modify fun s=>setArr s (r.toList.zipIdx.foldl (fun a (p,j)=>a.setIfInBounds (k+j) p) (arrOf s))
   return (failedOf (← get)).isNone) Q st':=fun r st' sg rg=>by
  refine wpS_bind (wpS_modify ?_)
  refine wpS_bind (wpS_get (wpS_pure ?_))
  have rl:r.toList.length=n1+m-k:=by
   rw[rg.1.length_eq,Aid,Array.length_toList,Array.length_toList,Array.size_extract,Array.size_extract]
   omega
  have ea:arrOf st'=xs:=sg.ar.trans ar1
  have el:=Xj r.toList 0 k xs (by omega)
  rw[AiZ,rl,show k+(n1+m-k)=n1+m by omega] at el
  generalize hys:r.toList.zipIdx.foldl (fun a (q:Keyed × Nat)=>a.setIfInBounds (k+q.2) q.1) xs=ys at el
  have hf:(failedOf (setArr st' ys)).isNone=true:=by
   show(failedOf st').isNone=true
   rw[sg.fa,fa1];rfl
  rw[ea]
  show Q (failedOf (setArr st' (r.toList.zipIdx.foldl (fun a (q:Keyed × Nat)=>a.setIfInBounds (k+q.2) q.1) xs))).isNone (setArr st' (r.toList.zipIdx.foldl (fun a (q:Keyed × Nat)=>a.setIfInBounds (k+q.2) q.1) xs))
  rw[hys,hf]
  have ed:xs.toList=xs.toList.take k++((xs.extract k n1).toList++(xs.extract n1 (n1+m)).toList)++xs.toList.drop (n1+m):=by
   rw[Gf,Gf,Ajk]
   have q1:xs.toList.drop k=(xs.toList.drop k).take (n1-k)++xs.toList.drop n1:=by
    conv=>lhs;rw[← Ai0 (n1-k) (xs.toList.drop k),Aji,show k+(n1-k)=n1 by omega]
   have q2:xs.toList.drop n1=(xs.toList.drop n1).take m++xs.toList.drop (n1+m):=by
    conv=>lhs;rw[← Ai0 m (xs.toList.drop n1),Aji]
   conv=>lhs;rw[← Ai0 k xs.toList,q1,q2]
   simp
  have pm:ys.toList.Perm xs.toList:=by
   rw[el]
   conv=>rhs;rw[ed]
   exact(List.Perm.append_left _ rg.1).append_right _
  have pm2:ys.Perm a₀:=Array.perm_iff_toList_perm.mpr (pm.trans (Array.perm_iff_toList_perm.mp Xl))
  refine h (setArr st' ys) pm2 (sg.fa.trans fa1) (sg.pe.trans pe1) ?_
  have ysz:ys.size=a₀.size:=pm2.size_eq
  have su:SortedTo ys ys.size:=by
   refine Y4 ?_
   rw[el,Aio,Aio]
   have inr:∀ x∈r.toList,∃ j,k≤j∧j<n1+m∧∃ h:j<xs.size,xs[j]=x:=fun x hx=>by
    rcases List.mem_append.mp (rg.1.mem_iff.mp hx) with q | q
    ·obtain⟨j,j1,j2,hj,e⟩:=ext_mem q
     exact⟨j,j1,by omega,hj,e⟩
    ·obtain⟨j,j1,j2,hj,e⟩:=ext_mem q
     exact⟨j,by omega,j2,hj,e⟩
   have AcT:∀ i j,i<k→k≤j→j<a₀.size→K xs i<K xs j:=fun i j hi hj hja=>by
    rcases AiO j n1 with c | c
    ·exact Y5 i j (by omega) c
    ·have q1:=ka i hi
     by_cases e:j=n1
     ·rw[e];exact q1
     ·exact Int.lt_trans q1 (Y6 n1 j (by omega) (by omega) hja)
   have AgA:∀ i j,k≤i→i<n1+m→n1+m≤j→j<a₀.size→K xs i<K xs j:=fun i j hi hi2 hj hja=>by
    rcases AiO i n1 with c | c
    ·have q1:K xs i≤K xs (n1-1):=by
      by_cases e2:i=n1-1
      ·rw[e2];exact Aiz _
      ·exact AiN (Y5 i (n1-1) (by omega) (by omega))
     have q2:=mb (j-n1) (by omega) (by omega)
     rw[show n1+(j-n1)=j by omega] at q2
     omega
    ·exact Y6 i j c (by omega) hja
   have Afk:∀ x∈xs.toList.drop (n1+m),∃ j,n1+m≤j∧∃ h:j<xs.size,xs[j]=x:=fun x hx=>by
    obtain⟨j,hj,e⟩:=Aiu hx
    rw[Aim,Array.length_toList] at hj
    rw[AjE] at e
    exact⟨n1+m+j,by omega,by omega,by simpa using e⟩
   refine List.pairwise_append.mpr ⟨List.pairwise_append.mpr ⟨?_,rg.2,fun x hx y hy=>?_⟩,?_,fun x hx y hy=>?_⟩
   ·have:=Vr (xs:=xs) (i:=0) (j:=k) (by omega) (fun p q h1 h2 h3=>Y5 p q h2 (by omega))
    unfold Up at this
    rw[Gf] at this
    simpa using this
   ·obtain⟨x',hx',rfl⟩:=List.mem_map.mp hx
    obtain⟨y',hy',rfl⟩:=List.mem_map.mp hy
    obtain⟨i,i1,hi,rfl⟩:=GD hx'
    obtain⟨j,j1,j2,hj,rfl⟩:=inr _ hy'
    rw[NB hi,NB hj]
    exact AcT i j i1 j1 (by omega)
   ·have:=Vr (xs:=xs) (i:=n1+m) (j:=xs.size) (by omega) (fun p q h1 h2 h3=>Y6 p q (by omega) h2 (by omega))
    unfold Up at this
    rw[Gf,Aiy (by rw[Aim,Array.length_toList];omega)] at this
    exact this
   ·obtain⟨y',hy',rfl⟩:=List.mem_map.mp hy
    obtain⟨j,j1,hj,rfl⟩:=Afk _ hy'
    rcases List.mem_append.mp hx with q | q
    ·obtain⟨x',hx',rfl⟩:=List.mem_map.mp q
     obtain⟨i,i1,hi,rfl⟩:=GD hx'
     rw[NB hi,NB hj]
     exact AcT i j i1 (by omega) (by omega)
    ·obtain⟨x',hx',rfl⟩:=List.mem_map.mp q
     obtain⟨i,i1,i2,hi,rfl⟩:=inr _ hx'
     rw[NB hi,NB hj]
     exact AgA i j i1 i2 j1 (by omega)
  rwa [ysz] at su
 by_cases c:n1-k≤m
 ·rw[if_pos c]
  exact wpS_bind (Xe k1 M last)
 ·rw[if_neg c]
  exact wpS_bind (Xh k1 M last)
end
end Tim
open PySem PySem.Spec PyProof.Rows
namespace Tim
section
variable {prog:Program}{w:World}{A:Around}{E:Value→Shared→Prop}{s:Shared}{a₀:Array Keyed}
structure One (a₀:Array Keyed) (n1:Nat) (st:SortSt):Prop where
 perm:(arrOf st).Perm a₀
 kind:kindOf st=oneType'
 failed:failedOf st=none
 pend:pendingOf st=#[(0,n1,0)]
 up:SortedTo (arrOf st) n1
theorem strict{xs:Array Keyed}(hp:xs.Perm a₀)(hD:DK a₀){i j:Nat}(hij:i<j)(hj:j<xs.size)(h:K xs i≤K xs j):K xs i<K xs j:=by
 have:=Yx hp hD (i:=i) (j:=j) (by omega) hj (by omega)
 omega
theorem Acz{n:Nat}(h1:64≤n)(h2:n<128):minRun' n n 0=n / 2+n%2:=by
 obtain⟨f,hf⟩:∃ f,n=f+2:=⟨n-2,by omega⟩
 have e:minRun' (f+2) n 0=n / 2+n%2:=by
  rw[minRun'_succ,if_neg (by omega),minRun'_succ,if_pos (by omega)]
  omega
 rwa [← hf] at e
theorem Tu{st:SortSt}{Q:Unit→SortSt→Prop}(h0:IntKeys a₀)(hD:DK a₀)(hB:SBase a₀ st)(h64:64≤a₀.size)(Y7:a₀.size<128)
  (h:∀ st',(arrOf st').Perm a₀→failedOf st'=none→SortedTo (arrOf st') a₀.size→Q () st'):wpS (model prog w) A E s sortRuns' Q st:=by
 rw[sortRuns'_eq]
 refine wpS_bind (wpS_get ?_)
 dsimp only
 have hmr:=Acz h64 Y7
 simp only [hB.size,hmr]
 obtain⟨mr,emr⟩:∃ mr,mr=a₀.size / 2+a₀.size%2:=⟨_,rfl⟩
 have mr1:a₀.size≤2*mr:=by omega
 have mr2:mr<a₀.size:=by omega
 rw[← emr]
 clear emr hmr
 refine wpS_bind (wpS_mono (wpS_forRange
  (I:=fun x c st'=>(x=0∧c=(none,0)∧SBase a₀ st')∨(x=1∧∃ n1,c=(none,n1)∧mr≤n1∧n1≤a₀.size∧One a₀ n1 st')∨(2≤x∧c=(none,a₀.size)∧∃ n1 pw,1≤n1∧n1<a₀.size∧Two a₀ n1 st'∧pendingOf st'=#[(0,n1,pw),(n1,a₀.size-n1,0)]))
  (Q:=fun c st'=>c=(none,a₀.size)∧(One a₀ a₀.size st'∨∃ n1 pw,1≤n1∧n1<a₀.size∧Two a₀ n1 st'∧pendingOf st'=#[(0,n1,pw),(n1,a₀.size-n1,0)])) ?step ?fin (.inl ⟨rfl,rfl,hB⟩)) ?post)
 case fin =>
  rintro c st' (⟨hx,_,_⟩ | ⟨hx,_⟩ | ⟨_,hc,hT⟩)
  ·omega
  ·omega
  ·exact⟨hc,.inr hT⟩
 case step =>
  rintro x c st' _ hx (⟨rfl,rfl,hB'⟩ | ⟨rfl,n1,rfl,n11,n12,O⟩ | ⟨hx2,rfl,hT⟩)
  ·dsimp only
   rw[if_neg (by omega)]
   simp only [Ajs,AiD]
   refine wpS_bind (wpS_countRun h0 (AhX _) (by omega) hB' fun m st2 hB2 hm1 hm2 hs2=>?_)
   dsimp only
   by_cases hlt:m<mr
   ·rw[if_pos hlt]
    refine wpS_bind (wpS_lift (wpAny_rule ⟨rfl,?_⟩))
    simp only [Nat.min_eq_right (show mr≤a₀.size by omega)]
    refine wpS_bind (wpS_binarySort h0 (by omega) (by omega) hB2 hs2 fun st3 hB3 hs3=>?_)
    simp only [Ajt,Ain,if_false]
    refine wpS_bind (wpS_get ?_)
    have hb:(pendingOf st3).back?=none:=by rw[hB3.pend];rfl
    rw[hb]
    dsimp only
    exact wpS_bind (wpS_modify (wpS_pure (.inr (.inl ⟨trivial,mr,rfl,AhX _,by omega,hB3.perm,hB3.kind,hB3.failed,by show(pendingOf st3).push _=_;rw[hB3.pend];rfl,hs3⟩))))
   ·rw[if_neg hlt]
    refine wpS_bind (wpS_get ?_)
    have hb:(pendingOf st2).back?=none:=by rw[hB2.pend];rfl
    rw[hb]
    dsimp only
    exact wpS_bind (wpS_modify (wpS_pure (.inr (.inl ⟨trivial,m,rfl,by omega,hm2,hB2.perm,hB2.kind,hB2.failed,by show(pendingOf st2).push _=_;rw[hB2.pend];rfl,hs2⟩))))
  ·dsimp only
   by_cases ef:n1=a₀.size
   ·rw[if_pos (by omega)]
    subst ef
    exact wpS_pure ⟨rfl,.inl O⟩
   ·rw[if_neg (by omega)]
    have tb:TB a₀ #[(0,n1,0)] (arrOf st') n1 st':=⟨O.perm,O.kind,O.failed,O.pend,fun i _=>rfl⟩
    obtain⟨bb,ebb⟩:∃ bb,bb=arrOf st':=⟨_,rfl⟩
    have bsz:bb.size=a₀.size:=by rw[ebb];exact O.perm.size_eq
    have bup:SortedTo bb n1:=by rw[ebb];exact O.up
    rw[← ebb] at tb
    have fin:∀{st3:SortSt},TB a₀ #[(0,n1,0)] bb n1 st3→CJ (arrOf st3) n1 (a₀.size-n1)→∀ pw,Two a₀ n1 (setPending st3 pw):=fun {st3} T3 S3 pw=>by
     have sz:=T3.size
     refine⟨T3.perm,T3.kind,T3.failed,fun i j hij hj=>?_,fun i j hi hij hj=>?_⟩
     ·refine strict T3.perm hD hij (by show j<(arrOf st3).size;omega) ?_
      show K (arrOf st3) i≤K (arrOf st3) j
      rw[K_congr (T3.low i (by omega)),K_congr (T3.low j hj)]
      exact bup i j (by omega) hj
     ·refine strict T3.perm hD hij (by show j<(arrOf st3).size;omega) ?_
      have:=S3 (i-n1) (j-n1) (by omega) (by omega)
      rwa [show n1+(i-n1)=i by omega,show n1+(j-n1)=j by omega] at this
    refine wpS_bind (Yy h0 hD (by omega) (by omega) tb fun m st2 T2 m1 m2 S2=>?_)
    dsimp only
    by_cases hlt:m<mr
    ·rw[if_pos hlt]
     refine wpS_bind (wpS_lift (wpAny_rule ⟨rfl,?_⟩))
     rw[Ai3 (by omega)]
     refine wpS_bind (Abj h0 (by omega) m2 T2 S2 fun st3 T3 S3=>?_)
     simp only [Ajt,Ain,if_false]
     refine wpS_bind (wpS_get ?_)
     have hb:(pendingOf st3).back?=some (0,n1,0):=by rw[T3.pend];rfl
     rw[hb]
     dsimp only
     refine wpS_bind (wpS_mono (wpS_forRange (I:=fun _ c st4=>st4=st3∧c=(none,())) (Q:=fun c st4=>st4=st3∧c=(none,())) ?us (fun _ _ hh=>hh) ⟨rfl,rfl⟩) ?up)
     case us =>
      rintro y c st4 _ _ ⟨rfl,rfl⟩
      refine wpS_bind (wpS_get ?_)
      rw[if_neg (by rw[T3.pend];show ¬1>1;decide)]
      exact wpS_pure ⟨rfl,rfl⟩
     case up =>
      rintro c st4 ⟨rfl,rfl⟩
      dsimp only
      refine wpS_bind (wpS_modify (wpS_bind (wpS_modify (wpS_pure (.inr (.inr ⟨by omega,by rw[show n1+(a₀.size-n1)=a₀.size by omega],n1,power' a₀.size (2*0+n1) (2*0+n1+n1+(a₀.size-n1)) a₀.size,by omega,by omega,fin T3 S3 _,?_⟩))))))
      show((pendingOf st4).modify ((pendingOf st4).size-1) _).push _=_
      rw[T3.pend]
      apply Array.toList_inj.mp
      simp
    ·rw[if_neg hlt]
     have em:m=a₀.size-n1:=by omega
     subst em
     refine wpS_bind (wpS_get ?_)
     have hb:(pendingOf st2).back?=some (0,n1,0):=by rw[T2.pend];rfl
     rw[hb]
     dsimp only
     refine wpS_bind (wpS_mono (wpS_forRange (I:=fun _ c st4=>st4=st2∧c=(none,())) (Q:=fun c st4=>st4=st2∧c=(none,())) ?vs (fun _ _ hh=>hh) ⟨rfl,rfl⟩) ?vp)
     case vs =>
      rintro y c st4 _ _ ⟨rfl,rfl⟩
      refine wpS_bind (wpS_get ?_)
      rw[if_neg (by rw[T2.pend];show ¬1>1;decide)]
      exact wpS_pure ⟨rfl,rfl⟩
     case vp =>
      rintro c st4 ⟨rfl,rfl⟩
      dsimp only
      refine wpS_bind (wpS_modify (wpS_bind (wpS_modify (wpS_pure (.inr (.inr ⟨by omega,by rw[show n1+(a₀.size-n1)=a₀.size by omega],n1,power' a₀.size (2*0+n1) (2*0+n1+n1+(a₀.size-n1)) a₀.size,by omega,by omega,fin T2 S2 _,?_⟩))))))
      show((pendingOf st4).modify ((pendingOf st4).size-1) _).push _=_
      rw[T2.pend]
      apply Array.toList_inj.mp
      simp
  ·dsimp only
   rw[if_pos (AhX _)]
   exact wpS_pure ⟨rfl,.inr hT⟩
 case post =>
  rintro c st' ⟨rfl,hc⟩
  dsimp only
  rcases hc with O | ⟨n1,pw,n11,n12,T,hp⟩
  ·refine wpS_bind (wpS_mono (wpS_forRange (I:=fun _ c st4=>st4=st'∧c=(none,())) (Q:=fun c st4=>st4=st'∧c=(none,())) ?_ (fun _ _ hh=>hh) ⟨rfl,rfl⟩) ?_)
   ·rintro y c st4 _ _ ⟨rfl,rfl⟩
    refine wpS_bind (wpS_get ?_)
    rw[if_pos (by rw[O.pend];exact AhX 1)]
    exact wpS_pure ⟨rfl,rfl⟩
   ·rintro c st4 ⟨rfl,rfl⟩
    exact wpS_pure (h _ O.perm O.failed O.up)
  ·refine wpS_bind (wpS_mono (wpS_forRange (I:=fun y c st4=>c=(none,())∧((y=0∧st4=st')∨(1≤y∧(arrOf st4).Perm a₀∧failedOf st4=none∧pendingOf st4=#[(0,a₀.size,pw)]∧SortedTo (arrOf st4) a₀.size)))
    (Q:=fun c st4=>c=(none,())∧(arrOf st4).Perm a₀∧failedOf st4=none∧SortedTo (arrOf st4) a₀.size) ?_ ?_ ⟨rfl,.inl ⟨rfl,rfl⟩⟩) ?_)
   ·rintro y c st4 _ hy ⟨rfl,(⟨rfl,rfl⟩ | ⟨y1,q1,q2,q3,q4⟩)⟩
    ·refine wpS_bind (wpS_get ?_)
     rw[hp]
     rw[if_neg (by show ¬2≤1;decide)]
     show wpS (model prog w) A E s (do
      let b ← mergeAt' 0
      if (!b)=true then pure (ForInStep.done (some (),())) else pure (ForInStep.yield (none,()))) _ st4
     refine wpS_bind (Xk h0 hD T n11 n12 hp fun st5 q1 q2 q3 q4=>?_)
     simp only [Ajt,Ain,if_false]
     exact wpS_pure ⟨rfl,.inr ⟨by omega,q1,q2,q3,q4⟩⟩
    ·refine wpS_bind (wpS_get ?_)
     rw[if_pos (by rw[q3];exact AhX 1)]
     exact wpS_pure ⟨rfl,q1,q2,q4⟩
   ·rintro c st4 ⟨rfl,(⟨hy,_⟩ | ⟨y1,q1,q2,q3,q4⟩)⟩
    ·omega
    ·exact⟨rfl,q1,q2,q4⟩
   ·rintro c st4 ⟨rfl,q1,q2,q4⟩
    exact wpS_pure (h _ q1 q2 q4)
end
end Tim
open PySem PySem.Spec PyProof.Rows
namespace Tim
section
variable {prog:Program}{w:World}{A:Around}{E:Value→Shared→Prop}{s:Shared}
theorem Afl{vs:List Value}{ns:List Int}(hI:IntsAre vs ns)(hn:ns.Nodup):DK (pairsOf vs):=by
 unfold DK
 have e:(pairsOf vs).toList.map (fun q=>numOf q.1)=ns:=by
  rw[← hI.nums]
  show((vs.toArray.zip vs.toArray).toList.map _)=_
  rw[Array.toList_zip]
  have:∀ l:List Value,(l.zip l).map (fun q=>numOf q.1)=l.map numOf:=by
   intro l;induction l with
   | nil=>rfl
   | cons a l ih=>simp only [List.zip_cons_cons,Aiq,ih]
  exact this vs
 rw[e];exact hn
theorem Y8{a:Addr}{vs:List Value}{ns:List Int}{n:Nat}{P:Fin→Shared→Prop}(ho:s.heap.get? a=some (seqObj "list" vs.toArray n))
  (hI:IntsAre vs ns) (hn:ns.Nodup) (h64:64≤vs.length) (Y7:vs.length<128)
  (h:∀(out:Array Value) (ns':List Int),IntsAre out.toList ns'→ns'.Perm ns→ns'.Pairwise (·≤·)→P (.done (.ret .none)) { s with heap:=sortedHeap s.heap a vs out }) :
  wpAny (model prog w) A (Builtin.«list.sort» ⟨[.ref a],[]⟩) P E s:=by
 rw[list_sort_plain]
 have ha:a<s.heap.objs.size:=Heap.lt_size ho
 refine wpAny_bind (listItems_at ho rfl ?_)
 refine wpAny_bind (listUpdate_at ho rfl ?_)
 obtain⟨e1,ho1⟩:∃ e1,(s.heap.update a (Obj.mapSeq fun _=>#[])).get? a=some (seqObj "list" #[] e1):=⟨_,get?_update_seq ho (fun _=>#[])⟩
 refine wpAny_bind (seqEpoch_at ho1 rfl ?_)
 refine wpAny_bind (wpAny_newTuple ?_)
 refine wpAny_bind (wpAny_newList ?_)
 refine wpAny_holding ?_
 have ho6:(((s.heap.update a (Obj.mapSeq fun _=>#[])).push (seqObj "tuple" vs.toArray 0)).push (seqObj "list" #[] 0)).get? a=some (seqObj "list" #[] e1):=by
  rw[Heap.get?_push_ne _ _ _ (by rw[size_push',Heap.size_update];exact Aig (AjJ ha)),Heap.get?_push_ne _ _ _ (by rw[Heap.size_update];exact Aig ha)]
  exact ho1
 show wpAny (model prog w) A _ P E { s with heap:=((s.heap.update a (Obj.mapSeq fun _=>#[])).push (seqObj "tuple" vs.toArray 0)).push (seqObj "list" #[] 0) }
 dsimp only
 have hsz:vs.toArray.size=vs.length:=by simp
 have h2:¬vs.toArray.size<2:=by omega
 rw[if_neg h2,if_neg h2]
 obtain⟨v₁,v₂,rest,rfl⟩:∃ v₁ v₂ rest,vs=v₁::v₂::rest:=by
  match vs,hsz,h2 with
  | [],_,h2=>simp at h2
  | [_],_,h2=>simp at h2
  | v₁::v₂::rest,_,_=>exact⟨v₁,v₂,rest,rfl⟩
 rw[keyKind_ints hI]
 refine wpAny_bind (wpAny_pure ?_)
 refine wpAny_bind (wpAny_mono (Tu (a₀:=pairsOf (v₁::v₂::rest)) (st:=SortSt.mk' oneType' ((v₁::v₂::rest).toArray.zip (v₁::v₂::rest).toArray) #[] 7 none)
  (Q:=fun _ st'=>(arrOf st').Perm (pairsOf (v₁::v₂::rest))∧failedOf st'=none∧SortedTo (arrOf st') (pairsOf (v₁::v₂::rest)).size)
  hI.intKeys (Afl hI hn) ⟨Array.Perm.refl _,rfl,rfl,rfl⟩ (by rw[pairsOf_size];exact h64) (by rw[pairsOf_size];exact Y7) fun st' a1 a2 a3=>⟨a1,a2,a3⟩) ?_ fun _ _ e=>e)
 rintro⟨⟨⟩,st'⟩ s' ⟨rfl,hp,hf,hs⟩
 dsimp only
 refine wpAny_bind (seqEpoch_at ho6 rfl ?_)
 refine wpAny_bind (listUpdate_at ho6 rfl ?_ (hsz2:=by refine Ais (Aje ((Array.size_map ..).trans (hp.size_eq.trans (pairsOf_size _)))) ?_;rw[sizeLine_eq];omega))
 rw[hf]
 simp only [bne_self_eq_false,Ain,if_false]
 obtain⟨ns',h1,h2,h3⟩:=sorted_out hI hp hs
 exact wpAny_pure (h _ ns' h1 h2 h3)
theorem Vs{l:Addr}{vs:List Value}{ns:List Int}{Q:Value→Shared→Prop}(hl:s.heap.IsList l vs.toArray)(hI:IntsAre vs ns)(hn:ns.Nodup)(Y7:vs.length<128)
  (h:∀(out:Array Value) (ns':List Int),IntsAre out.toList ns'→ns'.Perm ns→ns'.Pairwise (·≤·)→Q (.ref (s.heap.objs.size+1)) { s with heap:=sortedAll s.heap vs out }) :
  wpAny (model prog w) A (call (.builtin "sorted") [.ref l]) Q E s:=by
 by_cases h64:vs.length<64
 ·exact sorted_ints hl hI h64 h
 refine Calls.call_function_entry kind_sorted plain_sorted entry_sorted (args_sorted1 _) ?_
 unfold Builtin.«sorted»
 refine wpAny_bind (m:=checkCount "sorted" 1 1 _) (wpAny_pure ?_)
 refine wpAny_bind (collect_list hl ?_)
 refine wpAny_bind (wpAny_newList ?_)
 have hsz:((s.heap.push (seqObj "list" #[] 0)).update s.heap.objs.size (Obj.mapSeq (·++vs.toArray))).objs.size=s.heap.objs.size+1:=by
  rw[Heap.size_update,size_push']
 have hoL:(((s.heap.push (seqObj "list" #[] 0)).update s.heap.objs.size (Obj.mapSeq (·++vs.toArray))).push (seqObj "list" vs.toArray 0)).get? (s.heap.objs.size+1)=some (seqObj "list" vs.toArray 0):=by
  rw[← hsz];exact Heap.get?_push_size _ rfl
 show wpAny _ _ _ _ _ { s with heap:=((s.heap.push (seqObj "list" #[] 0)).update s.heap.objs.size (Obj.mapSeq (·++vs.toArray))).push (seqObj "list" vs.toArray 0) }
 rw[hsz]
 refine wpAny_bind (wpAny_holding (wpAny_call_entry slot_list_sort ⟨_,hoL,rfl⟩ entry_list_sort (Y8 hoL hI hn (by omega) Y7 fun out ns' a1 a2 a3=>⟨_,rfl,?_⟩) (args_list_sort _)))
 exact wpAny_pure ⟨_,rfl,h out ns' a1 a2 a3⟩
end
end Tim
section
variable {X:Cx}{K:PySem.W.Frag}
theorem Y9(hK:X.K=K:=by rfl):Hm X (.builtin "sorted") (fun xs H Q=>∃ a ns,xs=[.ref a]∧SqL K H a (vI ns)∧(ns.length<128∧(ns.length<64∨ns.Nodup))∧∀ l ns',ns'.Perm ns→ns'.Pairwise (·≤·)→H l=none→Q (.ref l) (upd H l (.lst (vI ns')))):=by
 subst hK
 intro pins s σ H xs us Q I rv h
 obtain⟨a,ns,rfl,hq,⟨Y7,h64⟩,q⟩:=h
 obtain⟨u,rfl,ru⟩:=rv.one
 cases ru
 obtain⟨its,r,pl,hl⟩:=I.list hq
 have hi:IntsAre its ns:=intsAre_of r
 have hsz:sizeLine=16777216:=sizeLine_eq
 rcases h64 with h64 | hn
 ·refine sorted_ints pl.isList hi (by rw[hi.length];exact h64) fun out ns' a1 a2 a3=>?_
  exact Ny I a1 (by have:=a2.length_eq;omega) fun l hl=>q l ns' a2 a3 hl
 ·refine Tim.Vs pl.isList hi hn (by rw[hi.length];exact Y7) fun out ns' a1 a2 a3=>?_
  exact Ny I a1 (by have:=a2.length_eq;omega) fun l hl=>q l ns' a2 a3 hl
end
end L2
namespace Mine
open PySem L2
def top (i:Nat):Stmt:=PySem.Challenge.pw_heddle_k35_taken_apart.main.body.getD i (.Pass ⟨0,0,0,0⟩)
abbrev Dj:Stmt:=top 5
theorem Xm:Bq ["cloth"] ["cloth"] (Ac Dj):=⟨rfl,rfl,rfl,by decide +kernel,rfl,by decide +kernel,by decide +kernel⟩
abbrev Ba:Stmt:=top 6
theorem Fq:Bq ["texts", "least", "signs", "ends", "text"] ["texts", "least", "signs"] (Ac Ba):=⟨rfl,rfl,rfl,by decide +kernel,rfl,by decide +kernel,by decide +kernel⟩
abbrev BV:Stmt:=top 7
theorem MN:Bq ["text", "ends", "signs", "sign"] ["text", "ends", "signs"] (Ac BV):=⟨rfl,rfl,rfl,by decide +kernel,rfl,by decide +kernel,by decide +kernel⟩
abbrev BZ:Stmt:=top 8
theorem Vt:Bq ["cloth", "end"] ["cloth", "end"] (Ac BZ):=⟨rfl,rfl,rfl,by decide +kernel,rfl,by decide +kernel,by decide +kernel⟩
abbrev BK:Stmt:=top 10
theorem JR:Bq ["cloth", "size", "of_ends"] ["cloth"] (Ac BK):=⟨rfl,rfl,rfl,by decide +kernel,rfl,by decide +kernel,by decide +kernel⟩
abbrev DP:Stmt:=top 12
theorem Dz:Bq ["cloth", "size", "scores", "end_scores", "pick_scores", "tops", "ends", "picks", "crossings"] ["cloth"] (Ac DP):=⟨rfl,rfl,rfl,by decide +kernel,rfl,by decide +kernel,by decide +kernel⟩
abbrev Bu:Stmt:=top 13
theorem Ce:Bq ["cloth", "size", "scores", "ends", "picks", "tops", "layers", "upper", "lower"] ["cloth"] (Ac Bu):=⟨rfl,rfl,rfl,by decide +kernel,rfl,by decide +kernel,by decide +kernel⟩
abbrev Az:Stmt:=top 14
theorem Cq:Bq ["cloth", "layers", "numbers", "number", "layer", "strand"] ["cloth"] (Ac Az):=⟨rfl,rfl,rfl,by decide +kernel,rfl,by decide +kernel,by decide +kernel⟩
abbrev Bl:Stmt:=top 16
theorem Ft:Bq ["cloth", "size", "numbers", "pieces"] ["cloth"] (Ac Bl):=⟨rfl,rfl,rfl,by decide +kernel,rfl,by decide +kernel,by decide +kernel⟩
abbrev BR:Stmt:=top 17
theorem KZ:Bq ["cloth", "ends", "layer", "own_ends", "own_picks"] ["cloth", "ends", "layer"] (Ac BR):=⟨rfl,rfl,rfl,by decide +kernel,rfl,by decide +kernel,by decide +kernel⟩
abbrev DX:Stmt:=top 18
theorem Aao:Bq ["text", "places"] ["text", "places"] (Ac DX):=⟨rfl,rfl,rfl,by decide +kernel,rfl,by decide +kernel,by decide +kernel⟩
abbrev By:Stmt:=top 20
theorem Cr:Bq ["script", "many", "found", "step", "k"] ["script", "many"] (Ac By):=⟨rfl,rfl,rfl,by decide +kernel,rfl,by decide +kernel,by decide +kernel⟩
abbrev Cg:Stmt:=top 21
theorem BJ:Bq ["numbers", "wide", "high", "layered", "rows", "j", "row", "k", "at", "bit", "up", "low"] ["numbers", "wide", "high", "layered"] (Ac Cg):=⟨rfl,rfl,rfl,by decide +kernel,rfl,by decide +kernel,by decide +kernel⟩
abbrev Bo:Stmt:=top 22
theorem Cu:Bq ["piece", "wide", "forth", "size", "seen", "turn", "j", "k", "along"] ["piece", "wide", "forth"] (Ac Bo):=⟨rfl,rfl,rfl,by decide +kernel,rfl,by decide +kernel,by decide +kernel⟩
abbrev Ci:Stmt:=top 23
theorem Vu:Bq ["piece", "wide"] ["piece", "wide"] (Ac Ci):=⟨rfl,rfl,rfl,by decide +kernel,rfl,by decide +kernel,by decide +kernel⟩
abbrev Cj:Stmt:=top 24
theorem O9:Bq ["row", "count", "many", "number"] ["row", "count", "many"] (Ac Cj):=⟨rfl,rfl,rfl,by decide +kernel,rfl,by decide +kernel,by decide +kernel⟩
abbrev BW:Stmt:=top 25
theorem Je:Bq ["piece", "wide", "high", "row", "sign"] ["piece", "wide", "high"] (Ac BW):=⟨rfl,rfl,rfl,by decide +kernel,rfl,by decide +kernel,by decide +kernel⟩
abbrev Dk:Stmt:=top 26
theorem DY:Bq ["given", "pieces", "ends", "picks", "j", "k", "name", "place", "due"] ["given", "pieces", "ends", "picks"] (Ac Dk):=⟨rfl,rfl,rfl,by decide +kernel,rfl,by decide +kernel,by decide +kernel⟩
abbrev Dl:Stmt:=top 27
theorem Xn:Bq ["ends", "picks", "name"] ["ends", "picks", "name"] (Ac Dl):=⟨rfl,rfl,rfl,by decide +kernel,rfl,by decide +kernel,by decide +kernel⟩
abbrev Ax:Stmt:=top 28
theorem Fv:Bq ["handed", "given", "found", "kept", "piece"] ["handed", "given", "found"] (Ac Ax):=⟨rfl,rfl,rfl,by decide +kernel,rfl,by decide +kernel,by decide +kernel⟩
abbrev MT:Stmt:=top 29
theorem Dm:Bq ["script", "numbers", "most", "heights", "wide", "high", "given", "handed", "found", "pieces", "ends", "picks", "name", "count", "many", "one", "two"] ["script"] (Ac MT):=⟨rfl,rfl,rfl,by decide +kernel,rfl,by decide +kernel,by decide +kernel⟩
set_option genInjectivity false in
structure Adr where
 Cv:Addr
 Gg:FuncData
 Bv:Addr
 Gh:FuncData
 CK:Addr
 JS:FuncData
 Du:Addr
 La:FuncData
 CP:Addr
 HF:FuncData
 Fi:Addr
 QB:FuncData
 CQ:Addr
 CT:FuncData
 BL:Addr
 GP:FuncData
 BX:Addr
 Gs:FuncData
 Ea:Addr
 NP:FuncData
 GF:Addr
 Sv:FuncData
 Ck:Addr
 Jf:FuncData
 Dv:Addr
 Lb:FuncData
 Cm:Addr
 Jg:FuncData
 Dw:Addr
 Ld:FuncData
 Dy:Addr
 Le:FuncData
 CV:Addr
 JT:FuncData
 Eb:Addr
 NQ:FuncData
 Ed:Addr
 NT:FuncData
 Bw:Addr
 Gi:FuncData
 Sw:Addr
 AcU:FuncData
 Be:Addr
 Ca:Addr
structure Txt (K:PySem.W.Frag) (mg:Str→Option Value) (t:Adr):Prop where
 measured:Df K mg "measured" Dj ["cloth"] t.Cv t.Gg
 Fw:Df K mg "measured_texts" Ba ["texts", "least", "signs"] t.Bv t.Gh
 JV:Df K mg "check_pick" BV ["text", "ends", "signs"] t.CK t.JS
 M3:Df K mg "end_signs" BZ ["cloth", "end"] t.Du t.La
 Gj:Df K mg "scores_of" BK ["cloth"] t.CP t.HF
 R7:Df K mg "tops_of" DP ["cloth"] t.Fi t.QB
 Gk:Df K mg "layers_of" Bu ["cloth"] t.CQ t.CT
 Gu:Df K mg "layer_numbers" Az ["cloth"] t.BL t.GP
 Ef:Df K mg "taken_apart" Bl ["cloth"] t.BX t.Gs
 OD:Df K mg "piece_of" BR ["cloth", "ends", "layer"] t.Ea t.NP
 picked:Df K mg "picked" DX ["text", "places"] t.GF t.Sv
 HH:Df K mg "_law_numbers" By ["script", "many"] t.Ck t.Jf
 M4:Df K mg "_law_cloth" Cg ["numbers", "wide", "high", "layered"] t.Dv t.Lb
 Eg:Df K mg "_law_reached" Bo ["piece", "wide", "forth"] t.Cm t.Jg
 M5:Df K mg "_law_hangs" Ci ["piece", "wide"] t.Dw t.Ld
 Gm:Df K mg "_law_owned" Cj ["row", "count", "many"] t.Dy t.Le
 JW:Df K mg "_law_formed" BW ["piece", "wide", "high"] t.CV t.JT
 OJ:Df K mg "_law_lies" Dk ["given", "pieces", "ends", "picks"] t.Eb t.NQ
 Hs:Df K mg "_law_lone" Dl ["ends", "picks", "name"] t.Ed t.NT
 Fy:Df K mg "_law_told_again" Ax ["handed", "given", "found"] t.Bw t.Gi
 law:Df K mg "law" MT ["script"] t.Sw t.AcU
 Afm:mg "all" = none
 AdP:mg "bool" = none
 Xo:mg "enumerate" = none
 Abq:mg "int" = none
 DG:mg "isinstance" = none
 Ew:mg "len" = none
 NZ:mg "list" = none
 CW:mg "range" = none
 Lg:mg "sorted" = none
 Afn:mg "str" = none
 Abr:mg "sum" = none
 Ac0:mg "tuple" = none
 Afo:mg "zip" = none
 Lh:∃ tk,mg "MOST_STRANDS" = some (.int 40 tk)
 Ac1:mg "WeaveError" = some (.ref t.Be)
 Ac2:Exn K t.Be
 Aem:mg "NoCloth" = some (.ref t.Ca)
 Aen:Exn K t.Ca
theorem bl1{fd:FuncData}{ps:List Str}(h:∀ a0:Value,bindArgs fd ⟨[a0],[]⟩=pure (ps.zip [a0]))(us:List Value)(hl:us.length=1):bindArgs fd ⟨us,[]⟩=pure (ps.zip us):=by
 rcases us with _ | ⟨a0,us⟩
 ·cases hl
 rcases us with _ | ⟨b,us⟩
 ·exact h a0
 ·cases hl
theorem bl2{fd:FuncData}{ps:List Str}(h:∀ a0 a1:Value,bindArgs fd ⟨[a0,a1],[]⟩=pure (ps.zip [a0,a1]))(us:List Value)(hl:us.length=2):bindArgs fd ⟨us,[]⟩=pure (ps.zip us):=by
 rcases us with _ | ⟨a0,us⟩
 ·cases hl
 rcases us with _ | ⟨a1,us⟩
 ·cases hl
 rcases us with _ | ⟨b,us⟩
 ·exact h a0 a1
 ·cases hl
theorem bl3{fd:FuncData}{ps:List Str}(h:∀ a0 a1 a2:Value,bindArgs fd ⟨[a0,a1,a2],[]⟩=pure (ps.zip [a0,a1,a2]))(us:List Value)(hl:us.length=3):bindArgs fd ⟨us,[]⟩=pure (ps.zip us):=by
 rcases us with _ | ⟨a0,us⟩
 ·cases hl
 rcases us with _ | ⟨a1,us⟩
 ·cases hl
 rcases us with _ | ⟨a2,us⟩
 ·cases hl
 rcases us with _ | ⟨b,us⟩
 ·exact h a0 a1 a2
 ·cases hl
theorem bl4{fd:FuncData}{ps:List Str}(h:∀ a0 a1 a2 a3:Value,bindArgs fd ⟨[a0,a1,a2,a3],[]⟩=pure (ps.zip [a0,a1,a2,a3]))(us:List Value)(hl:us.length=4):bindArgs fd ⟨us,[]⟩=pure (ps.zip us):=by
 rcases us with _ | ⟨a0,us⟩
 ·cases hl
 rcases us with _ | ⟨a1,us⟩
 ·cases hl
 rcases us with _ | ⟨a2,us⟩
 ·cases hl
 rcases us with _ | ⟨a3,us⟩
 ·cases hl
 rcases us with _ | ⟨b,us⟩
 ·exact h a0 a1 a2 a3
 ·cases hl
section
variable {P:Program}{w:World}{K:PySem.W.Frag}{mg:Str→Option Value}{base:Heap}{t:Adr}
def Aeo (z:Str):Sp:=fun vs H Q _=>∃ v,vs=[v]∧Q (.str z) H
end
section
variable {P:Program}{w:World}{K:PySem.W.Frag}{mg:Str→Option Value}{base:Heap}{t:Adr}
theorem z0(i:Nat):(0+(i:Int)).toNat=i:=by omega
theorem J5(K:PySem.W.Frag)(n:String):PySem.W.kitOne K (.type n) (.type n)=some true:=if_pos (beq_self_eq_true _)
theorem Afp{c d:Nat}:(V.str ⟨#[c]⟩:V)=V.str ⟨#[d]⟩↔c=d :=
 ⟨fun z=>by injection z with z;exact(List.cons.inj (Ad3 (a:=[c]) (b:=[d]) z)).1,fun z=>by rw[z]⟩
theorem e35:(V.str ⟨#[35]⟩:V)=V.str "#" := congrArg V.str (by decide +kernel)
theorem e46:(V.str ⟨#[46]⟩:V)=V.str "." := congrArg V.str (by decide +kernel)
theorem Gv{n:Nat}(h:n≤40):n≤sizeLine:=Ais h (by decide)
theorem occ{c:Nat}(h:Sg c):(!(!(Builtin.Str.occurrences "#." ⟨#[c]⟩ 0 (Str.length "#.") 1).isEmpty))=false:=by
 rcases h with h | h <;> subst h <;> decide +kernel
def Tv:Sp:=fun vs H Q _=>∃(t:List Nat),vs=[.str (tx t),.int (t.length:Int),.str "#."]∧(∀ c∈t,Sg c)∧t.length≤40∧Q .non H
theorem Tw(T:Txt K mg t):Bx P w K mg base CX0 1 t.CK t.JS ["text", "ends", "signs"] Tv:=by
 refine T.JV.F.ok MN (fun vs H Q E h=>?_) (fun cdv A outer s H vs Q E hr h=>?_)
 ·obtain⟨t,rfl,_⟩:=h
  rfl
 ·obtain⟨t,rfl,hsg,hl,k⟩:=h
  refine⟨_,(Ab (Dp (Bc KN (An JG rfl T.Ew Dc (Aa (pv 0) Ad)) (pv 1) (Bh _))
    (Ag Ot)
    Bj)
   (Ag (Cw PassesOwn.never rfl (AaG (pv 0)) (Bp (i:=3) MN.nd rfl (Or.inl rfl))
    (Ag (Dp (Bc U7 (pv 3) (pv 2) rfl)
     (Ag Ot)
     Bj))))),?_⟩
  refine⟨_,rfl,_,rfl,(by rw[Fb];exact Gv hl),_,rfl,rfl,_,rfl,?_⟩
  refine KQ (by rw[Fb]) ?_
  refine⟨_,rfl,_,rfl,Zg (z:=tx t) (fun i σ H2=>∃ v,σ=[some (.str (tx t)),some (.int (t.length:Int)),some (.str "#."),v]∧H2=H) ⟨none,rfl,rfl⟩ ?_ ?_⟩
  ·rintro i c σ H2 hc ⟨v,rfl,rfl⟩
   rw[Q0] at hc
   refine⟨_,rfl,_,rfl,_,_,rfl,rfl,_,rfl,?_⟩
   rw[occ (hsg c (Aiv hc))]
   exact Jc ⟨_,rfl,rfl⟩
  ·rintro σ H2 ⟨v,rfl,rfl⟩
   exact k
def Pa (K:PySem.W.Frag):Sp:=fun vs H Q _=>∃(a:Addr) (cl:List (List Nat)) (m n:Nat),vs=[.ref a,.int 1,.str "#."]∧SqL K H a (vS cl)∧Cl cl m n∧∀ p,H p=none→Q (.ref p) (upd H p (.tup [.int (m:Int),.int (n:Int)]))
theorem Pb(T:Txt K mg t):Bx P w K mg base CX0 2 t.Bv t.Gh ["texts", "least", "signs"] (Pa K):=by
 have Vv:Bx P w K mg base CX0 1 t.CK t.JS _ _:=Tw T
 refine T.Fw.F.ok Fq (fun vs H Q E h=>?_) (fun cdv A outer s H vs Q E hr h=>?_)
 ·obtain⟨a,cl,m,n,rfl,_⟩:=h
  rfl
 ·obtain⟨a,cl,m,n,rfl,hS,C,k⟩:=h
  have hlen:(vS cl).length=n:=by rw[GK,C.hn]
  have h0:0<cl.length:=by rw[C.hn];exact C.n1
  have hm0:=C.hm cl[0] (Aie h0)
  have c1:=C.n1
  have c2:=C.n40
  have c3:=C.m1
  have c4:=C.m40
  refine⟨_,(Ab (Dp (PW.pt (pw_or (Bc Wm (An (Am (K:=K)) rfl T.Ew Dc (Aa (pv 0) Ad)) (pv 1) (Bh _)) (pw_or1 (Bc TY (An (Am (K:=K)) rfl T.Ew Dc (Aa (pv 0) Ad)) (YX (v:=.int 40) rfl T.Lh.choose_spec ⟨_,rfl⟩) (Bh _)))))
    (Ag Ot)
    Bj)
   (Ab (Ak (i:=3) Fq.nd rfl (Or.inl rfl) (An JG rfl T.Ew Dc (Aa (Aq (Aw (K:=K)) (pv 0) Af (fun _ _=>rfl)) Ad)))
   (Ab (Dp (PW.pt (pw_or (Bc Wm (pv 3) (pv 1) (Bh _)) (pw_or1 (Bc TY (pv 3) (YX (v:=.int 40) rfl T.Lh.choose_spec ⟨_,rfl⟩) (Bh _)))))
    (Ag Ot)
    Bj)
   (Ab (Cw PassesOwn.never rfl (CG (K:=K) (pv 0)) (Bp (i:=4) Fq.nd rfl (Or.inl rfl))
    (Ag (GZ (Bd (Vv.mono (by decide)) hr rfl T.JV.m T.JV.F.kp T.JV.b .nil Cz (Aa (pv 4) (Aa (pv 3) (Aa (pv 2) Ad)))))))
   (Ag (Bg (Nv (Aa (pv 3) (Aa (An (Am (K:=K)) rfl T.Ew Dc (Aa (pv 0) Ad)) Ad))))))))),?_⟩
  refine⟨_,rfl,_,_,rfl,.inl hS,_,rfl,_,_,rfl,rfl,_,rfl,?_⟩
  refine QR (by rw[hlen];omega) ?_
  refine⟨_,rfl,_,_,rfl,.inl hS,_,_,rfl,rfl,_,rfl,?_⟩
  refine QR (by rw[hlen];omega) ?_
  refine⟨_,rfl,_,_,_,_,rfl,rfl,hS,Bb (by decide) (RN (AhY h0)),_,rfl,(by rw[Fb,hm0];exact Gv c4),?_⟩
  rw[Fb,hm0]
  refine⟨_,rfl,_,rfl,_,_,rfl,rfl,_,rfl,?_⟩
  refine QR (by omega) ?_
  refine⟨_,rfl,_,_,rfl,rfl,_,rfl,?_⟩
  refine QR (by omega) ?_
  refine⟨_,rfl,_,rfl,⟨_,hS⟩,KH (K:=K) (a:=a) (xs:=vS cl) (fun i σ H2=>∃ v,σ=[some (.ref a),some (.int 1),some (.str "#."),some (.int (m:Int)),v]∧H2=H) ⟨none,rfl,rfl⟩ (fun i σ H2 _ ⟨_,_,e⟩=>e▸hS) ?_ ?_⟩
  ·rintro i x σ H2 hx ⟨v,rfl,rfl⟩
   obtain⟨t,ht,rfl⟩:=RP hx
   have htm:=Aiv ht
   refine⟨_,rfl,_,rfl,_,rfl,t,?_,C.sg t htm,?_,⟨_,rfl,rfl⟩⟩
   ·rw[C.hm t htm];rfl
   ·rw[C.hm t htm];exact c4
  ·rintro σ H2 ⟨v,rfl,rfl⟩
   refine⟨_,rfl,_,rfl,_,_,rfl,.inl hS,(by show 2≤sizeLine;decide),fun p hp=>?_⟩
   rw[hlen]
   exact k p hp
def Xp (K:PySem.W.Frag):Sp:=fun vs H Q _=>∃(a:Addr) (cl:List (List Nat)) (m n:Nat),vs=[.ref a]∧SqL K H a (vS cl)∧Cl cl m n∧∀ p,H p=none→Q (.ref p) (upd H p (.tup [.int (m:Int),.int (n:Int)]))
theorem HJ(T:Txt K mg t):Bx P w K mg base CX0 3 t.Cv t.Gg ["cloth"] (Xp K):=by
 have QC:Bx P w K mg base CX0 2 t.Bv t.Gh _ _:=Pb T
 refine T.measured.F.ok Xm (fun vs H Q E h=>?_) (fun cdv A outer s H vs Q E hr h=>?_)
 ·obtain⟨a,cl,m,n,rfl,_⟩:=h
  rfl
 ·obtain⟨a,cl,m,n,rfl,hS,C,k⟩:=h
  exact⟨_,(Ag (Bg (Bd (QC.mono (by decide)) hr rfl T.Fw.m T.Fw.F.kp T.Fw.b .nil Cz (Aa (pv 0) (Aa Af (Aa FW Ad)))))),_,rfl,a,cl,m,n,rfl,hS,C,k⟩
def Vw (K:PySem.W.Frag):Sp:=fun vs H Q _=>∃(a:Addr) (cl:List (List Nat)) (m n e:Nat),vs=[.ref a,.int (e:Int)]∧SqL K H a (vS cl)∧Cl cl m n∧e<m∧∀ H',Al H H'→Q (.str (tx (col cl e))) H'
theorem Vx(T:Txt K mg t):Bx P w K mg base CX0 1 t.Du t.La ["cloth", "end"] (Vw K):=by
 refine T.M3.F.ok Vt (fun vs H Q E h=>?_) (fun cdv A outer s H vs Q E hr h=>?_)
 ·obtain⟨a,cl,m,n,e,rfl,_⟩:=h
  rfl
 ·obtain⟨a,cl,m,n,e,rfl,hS,C,he,k⟩:=h
  have c2:=C.n40
  have c4:=C.m40
  refine⟨_,(Ag (Bg (Dg (K:=K) PySem.F.plainAttrs_str PySem.F.slot_str_join PySem.F.type_str_join (Wu (K:=K)) FW (Aa (JL (Et.mk (Bs:=[1]) (Nc:=["text", "end"]) rfl (by decide +kernel) (by decide +kernel) (Fl (sc0:=Ac BZ) rfl (by decide +kernel)) rfl rfl rfl (by decide +kernel) (fun k j h=>match k,h with | 0,h=>by obtain rfl:=Option.some.inj h;exact⟨_,rfl,rfl,rfl⟩ | _+1,h=>by simp at h)) rfl (CG (K:=K) (pv 0)) (fun _ _ _ _ _=>.nil) (fun _ _ _ _ _=>(Aq Nx (pv 0) (pv 1) (fun _ _=>rfl)))) Ad)))),?_⟩
  refine⟨rfl,_,rfl,_,rfl,⟨_,hS⟩,Ej (K:=K) (a:=a) (xs:=vS cl) (fun i ys H2=>H2=H∧ys=vS ((cl.take i).map fun t=>[t.getD e 0])) ⟨rfl,rfl⟩ ?_ ?_ ?_ ?_⟩
  ·rintro i ys H2 hi ⟨rfl,rfl⟩
   refine⟨hS,?_⟩
   rw[GK,AhZ,Aib]
   omega
  ·rw[GK,C.hn];exact Gv c2
  ·rintro i x ys H2 hi hx ⟨rfl,rfl⟩
   obtain⟨t,ht,rfl⟩:=RP hx
   have htm:=Aiv ht
   have htl:=C.hm t htm
   have hel:e<t.length:=by omega
   refine HB.no ?_
   refine⟨_,rfl,_,rfl,_,_,t[e],rfl,rfl,(by rw[Fb,htl];exact Gv c4),(by rw[Zh];exact Zf (AhY hel)),?_⟩
   refine CN.of hi ⟨rfl,?_⟩
   rw[Vc,Ve,Ai8,ht,Aio]
   simp[List.getD,hel]
  ·rintro ys H2 p ⟨rfl,rfl⟩ hp
   rw[GK,AiP]
   refine⟨_,_,((cl.map fun t=>[t.getD e 0]).map tx),rfl,rfl,SqL.of (by rw[Ae,AaL]),?_,?_⟩
   ·have e1:=Ad4 (fun t:List Nat=>t.getD e 0) cl
    rw[e1,AhZ,AhZ,C.hn]
    have:n*(Str.length "")=0:=by rw[show Str.length "" = 0 from by decide +kernel];omega
    omega
   ·rw[show(("" : Str))=tx [] from by decide +kernel,Zi]
    have e2:(cl.map fun t=>[t.getD e 0]).flatten=col cl e:=AaI (fun t:List Nat=>t.getD e 0) cl
    rw[e2]
    exact k _ (.upd hp)
def Aap (K:PySem.W.Frag):Sp:=fun vs H Q _=>∃(a:Addr) (cl:List (List Nat)) (m n:Nat),vs=[.ref a]∧SqL K H a (vS cl)∧Cl cl m n∧∀ l H',Al H H'→H l=none→H' l=some (.lst (vI (Dh cl m)))→Q (.ref l) H'
theorem Pg(T:Txt K mg t):Bx P w K mg base CX0 4 t.CP t.HF ["cloth"] (Aap K):=by
 have Fd:Bx P w K mg base CX0 3 t.Cv t.Gg _ _:=HJ T
 have Xq:Bx P w K mg base CX0 1 t.Du t.La _ _:=Vx T
 refine T.Gj.F.ok JR (fun vs H Q E h=>?_) (fun cdv A outer s H vs Q E hr h=>?_)
 ·obtain⟨a,cl,m,n,rfl,_⟩:=h
  rfl
 ·obtain⟨a,cl,m,n,rfl,hS,C,k⟩:=h
  have c2:=C.n40
  have c4:=C.m40
  refine⟨_,(Ab (Ak (i:=1) JR.nd rfl (Or.inl rfl) (Bd (Fd.mono (by decide)) hr rfl T.measured.m T.measured.F.kp T.measured.b .nil Cz (Aa (pv 0) Ad)))
   (Ab (R0 (i:=2) (Et.mk (Bs:=[0]) (Nc:=["end", "cloth"]) rfl (by decide +kernel) (by decide +kernel) (Fl (sc0:=Ac BK) rfl (by decide +kernel)) rfl rfl rfl (by decide +kernel) (fun k j h=>match k,h with | 0,h=>by obtain rfl:=Option.some.inj h;exact⟨_,rfl,rfl,rfl⟩ | _+1,h=>by simp at h)) rfl JR.nd rfl rfl (BP rfl T.CW (Aa (Aq (Ay (K:=K)) (pv 1) Af (fun _ _=>rfl)) Ad)) (fun _ _ _ _ _=>.nil) (fun _ _ _ _ _=>(Dg (K:=K) PySem.F.plainAttrs_str PySem.F.slot_str_count PySem.F.type_str_count Wx (Bd (Xq.mono (by decide)) hr rfl T.M3.m T.M3.F.kp T.M3.b .nil Cz (Aa (pv 1) (Aa (pv 0) Ad))) (Aa FW Ad))) rfl)
   (Ag (Bg (Ar AaC (pv 2) (JL (Et.mk (Bs:=[]) (Nc:=["text"]) rfl (by decide +kernel) (by decide +kernel) (Fl (sc0:=Ac BK) rfl (by decide +kernel)) rfl rfl rfl (by decide +kernel) (fun _ _ h=>by simp at h)) rfl (CG (K:=K) (pv 0)) (fun _ _ _ _ _=>.nil) (fun _ _ _ _ _=>(Dg (K:=K) PySem.F.plainAttrs_str PySem.F.slot_str_count PySem.F.type_str_count Wx (pv 0) (Aa FW Ad))))))))),?_⟩
  refine⟨_,rfl,a,cl,m,n,rfl,hS,C,fun p hp=>?_⟩
  have s1:Al H (upd H p (.tup [.int (m:Int),.int (n:Int)])):=.upd hp
  have gp:SqT K (upd H p (.tup [.int (m:Int),.int (n:Int)])) p [.int (m:Int),.int (n:Int)]:=SqT.of Ae
  refine⟨_,rfl,_,_,_,_,rfl,rfl,gp,Bb (by decide) rfl,_,rfl,(by omega),(by omega),?_⟩
  rw[Air]
  refine RM (lo:=0) (n:=m) (fun i ys H2=>Al H H2∧ys=vI ((List.range i).map fun e=>(((col cl e).count 35:Nat):Int))) ⟨s1,rfl⟩ ?_ ?_ ?_ ?_
  ·rintro i ys H2 hi ⟨s2,rfl⟩
   rw[Ao,AhZ,Aih]
   exact AhX _
  ·exact Gv c4
  ·rintro i ys H2 hi ⟨s2,rfl⟩
   refine HB.no ?_
   refine⟨_,rfl,_,rfl,a,cl,m,n,i,(by rw[Aja] <;> rfl),s2.seq hS,C,hi,fun H3 s3=>?_⟩
   refine⟨rfl,col cl i,35,rfl,(by rw[e35]),?_⟩
   refine CN.of hi ⟨s2.trans s3,?_⟩
   rw[Yo,Ajh,Aio]
   rfl
  ·rintro ys H2 q ⟨s2,rfl⟩ hq
   have s3:Al H (upd H2 q (.lst (vI ((List.range m).map fun e=>(((col cl e).count 35:Nat):Int))))):=s2.new hq
   refine⟨_,rfl,_,rfl,_,rfl,⟨_,s3.seq hS⟩,Ej (K:=K) (a:=a) (xs:=vS cl) (fun i ys H4=>H4=upd H2 q (.lst (vI ((List.range m).map fun e=>(((col cl e).count 35:Nat):Int))))∧ys=vI ((cl.take i).map fun t=>((t.count 46:Nat):Int))) ⟨rfl,rfl⟩ ?_ ?_ ?_ ?_⟩
   ·rintro i ys H4 hi ⟨rfl,rfl⟩
    refine⟨s3.seq hS,?_⟩
    rw[Ao,AhZ,Aib]
    omega
   ·rw[GK,C.hn];exact Gv c2
   ·rintro i x ys H4 hi hx ⟨rfl,rfl⟩
    obtain⟨t,ht,rfl⟩:=RP hx
    refine HB.no ?_
    refine⟨_,rfl,rfl,t,46,rfl,(by rw[e46]),?_⟩
    refine CN.of hi ⟨rfl,?_⟩
    rw[Yo,Ai8,ht,Aio]
    rfl
   ·rintro ys H4 q2 ⟨rfl,rfl⟩ hq2
    rw[GK,AiP]
    have hq4:(upd (upd H2 q (.lst (vI ((List.range m).map fun e=>(((col cl e).count 35:Nat):Int))))) q2 (.lst (vI (cl.map fun t=>((t.count 46:Nat):Int))))) q=some (.lst (vI ((List.range m).map fun e=>(((col cl e).count 35:Nat):Int)))):=(Al.upd hq2) _ _ Ae
    refine⟨_,_,_,_,rfl,rfl,hq4,Ae,(by rw[Ao,Ao,AhZ,AhZ,Aih,C.hn,sizeLine_eq];omega),fun l hl=>?_⟩
    have e:vI ((List.range m).map fun e=>(((col cl e).count 35:Nat):Int))++vI (cl.map fun t=>((t.count 46:Nat):Int))=vI (Dh cl m):=by
     unfold vI Dh
     rw[Aio]
    rw[e]
    exact k l _ ((s3.new hq2).new hl) ((s3.new hq2).free hl) Ae
structure PL (H:Hp) (l:Addr) (ps:List Addr) (zs:List (Nat × Nat)):Prop where
 h:H l=some (.lst (ps.map V.ref))
 len:ps.length=zs.length
 at_:∀(i:Nat) (p:Addr) (z:Nat × Nat),ps[i]?=some p→zs[i]?=some z→H p=some (.tup [.int (z.1:Int),.int (z.2:Int)])
theorem PL.same{H H':Hp}{l:Addr}{ps:List Addr}{zs:List (Nat × Nat)}(N:PL H l ps zs)(s:Al H H'):PL H' l ps zs:=⟨s _ _ N.h,N.len,fun i p z e1 e2=>s _ _ (N.at_ i p z e1 e2)⟩
theorem PL.app{H:Hp}{l tp:Addr}{ps:List Addr}{zs:List (Nat × Nat)}{z:Nat × Nat}(N:PL H l ps zs)(ht:H tp=some (.tup [.int (z.1:Int),.int (z.2:Int)])) :
  PL (upd H l (.lst (ps.map V.ref++[.ref tp]))) l (ps++[tp]) (zs++[z]):=by
 refine⟨by rw[Ae,Aio];rfl,by rw[Aid,Aid,N.len];rfl,fun i p y e1 e2=>?_⟩
 have pl:H p=some (.tup [.int (y.1:Int),.int (y.2:Int)]):=by
  by_cases hi:i<ps.length
  ·rw[AiG hi] at e1
   rw[AiG (by rw[← N.len];exact hi)] at e2
   exact N.at_ i p y e1 e2
  ·have hi2:=(List.getElem?_eq_some_iff.mp e1).1
   rw[Aid] at hi2
   have e:i=ps.length:=by have:[tp].length=1:=rfl;omega
   rw[e,AiB (AhX _),AiM] at e1
   rw[e,N.len,AiB (AhX _),AiM] at e2
   cases e1
   cases e2
   exact ht
 rw[Aj (fun e=>by rw[e,N.h] at pl;cases pl)]
 exact pl
theorem PL.get{H:Hp}{l:Addr}{ps:List Addr}{zs:List (Nat × Nat)}(N:PL H l ps zs){i:Nat}{z:Nat × Nat}(h:zs[i]?=some z):∃ p,(ps.map V.ref)[i]?=some (.ref p)∧H p=some (.tup [.int (z.1:Int),.int (z.2:Int)]):=by
 have hi:i<ps.length:=by rw[N.len];exact(List.getElem?_eq_some_iff.mp h).1
 exact⟨ps[i],by rw[Aip,AhY hi];rfl,N.at_ i _ z (AhY hi) h⟩
theorem Vy{ks:List Int}{k:Nat}(h:k≤ks.length):Jw (vI ks) none (some (k:Int))=vI (ks.take k):=by
 unfold Jw
 rw[HT.Wo,HT.Ox,List.drop_zero,Ao,Ai3 h,Ajs]
 unfold vI
 rw[Ai9]
theorem Aaq{ks:List Int}{k:Nat}(h:k≤ks.length):Jw (vI ks) (some (k:Int)) none=vI (ks.drop k):=by
 unfold Jw
 have e1:HT.sIx (vI ks).length 0 (some (k:Int))=k:=by rw[HT.Ox,Ao,Ai3 h]
 have e2:HT.sIx (vI ks).length (vI ks).length none=(vI ks).length:=rfl
 rw[e1,e2]
 unfold vI
 rw[← Ajb]
 exact Aiy (by rw[AhZ,AhZ,Aim];omega)
def Ac3 (K:PySem.W.Frag):Sp:=fun vs H Q _=>∃(a:Addr) (cl:List (List Nat)) (m n:Nat),vs=[.ref a]∧SqL K H a (vS cl)∧Cl cl m n ∧
 ∀ l H' ps dA dB,Al H H'→H l=none→dA.Perm (eS cl m)→dB.Perm (pS cl)→dA.Pairwise (· ≥ ·)→dB.Pairwise (· ≥ ·)→PL H' l ps (Fo (Pz m n dA dB) n (m+1))→Q (.ref l) H'
theorem YB(T:Txt K mg t):Bx P w K mg base CX0 5 t.Fi t.QB ["cloth"] (Ac3 K):=by
 have Fd:Bx P w K mg base CX0 3 t.Cv t.Gg _ _:=HJ T
 have Li:Bx P w K mg base CX0 4 t.CP t.HF _ _:=Pg T
 refine T.R7.F.ok Dz (fun vs H Q E h=>?_) (fun cdv A outer s H vs Q E hr h=>?_)
 ·obtain⟨a,cl,m,n,rfl,_⟩:=h
  rfl
 ·obtain⟨a,cl,m,n,rfl,hS,C,k⟩:=h
  have c2:=C.n40
  have c4:=C.m40
  have hsz:sizeLine=16777216:=sizeLine_eq
  refine⟨_,(Ab (Ak (i:=1) Dz.nd rfl (Or.inl rfl) (Bd (Fd.mono (by decide)) hr rfl T.measured.m T.measured.F.kp T.measured.b .nil Cz (Aa (pv 0) Ad)))
   (Ab (Ak (i:=2) Dz.nd rfl (Or.inl rfl) (Bd (Li.mono (by decide)) hr rfl T.Gj.m T.Gj.F.kp T.Gj.b .nil Cz (Aa (pv 0) Ad)))
   (Ab (Ak (i:=3) Dz.nd rfl (Or.inl rfl) (W0 (K:=K) rfl T.Lg (DR (DW (K:=K)) (pv 2) Hb (Ei (Aq (Ay (K:=K)) (pv 1) Af (fun _ _=>rfl))))))
   (Ab (Ak (i:=4) Dz.nd rfl (Or.inl rfl) (W0 (K:=K) rfl T.Lg (DR (DW (K:=K)) (pv 2) (Ei (Aq (Ay (K:=K)) (pv 1) Af (fun _ _=>rfl))) Hb)))
   (Ab (Ak (i:=5) Dz.nd rfl (Or.inl rfl) (Qz Ad))
   (Ab (Cw PassesOwn.never rfl (BP rfl T.CW (Aa (Ar CZ (Aq (Ay (K:=K)) (pv 1) Af (fun _ _=>rfl)) Af) Ad)) (Bp (i:=6) Dz.nd rfl (Or.inl rfl))
    (Ag (Cw PassesOwn.never rfl (BP rfl T.CW (Aa (Ar CZ (Aq (Ay (K:=K)) (pv 1) Af (fun _ _=>rfl)) Af) Ad)) (Bp (i:=7) Dz.nd rfl (Or.inl rfl))
     (Ab (Ak (i:=8) Dz.nd rfl (Or.inl rfl) (Ar Yd (Ar CZ (Ar KJ (pv 6) (Aq (Ay (K:=K)) (pv 1) Af (fun _ _=>rfl))) (Ar KJ (pv 7) (Aq (Ay (K:=K)) (pv 1) Af (fun _ _=>rfl)))) (Ar KJ (pv 6) (pv 7))))
     (Ag (Dp (Bc MK (Ar CZ (An (Q5 (K:=K)) rfl T.Abr Ym (Aa (DR (DW (K:=K)) (pv 3) Hb (Ei (pv 6))) Ad)) (An (Q5 (K:=K)) rfl T.Abr Ym (Aa (DR (DW (K:=K)) (pv 4) Hb (Ei (pv 7))) Ad))) (pv 8) (Bh _))
      (Ag (GZ (Dg (K:=K) PySem.F.plainAttrs_list PySem.F.slot_list_append PySem.F.type_list_append Fg (pv 5) (Aa (Nv (Aa (pv 6) (Aa (pv 7) Ad))) Ad))))
      Bj))))))
   (Ag (Bg (pv 5))))))))),?_⟩
  refine⟨_,rfl,a,cl,m,n,rfl,hS,C,fun p hp=>?_⟩
  have s1:Al H (upd H p (.tup [.int (m:Int),.int (n:Int)])):=.upd hp
  have gp1:(upd H p (.tup [.int (m:Int),.int (n:Int)])) p=some (.tup [.int (m:Int),.int (n:Int)]):=Ae
  refine⟨_,rfl,a,cl,m,n,rfl,s1.seq hS,C,fun lf H2 s2 nlf hlf=>?_⟩
  have gp2:=s2 _ _ gp1
  have u2:=s1.trans s2
  have lsc:(Dh cl m).length=m+n:=by rw[RX,C.hn]
  refine⟨_,rfl,_,rfl,_,_,_,_,rfl,rfl,SqT.of gp2,Bb (by decide) rfl,_,rfl,_,_,rfl,SqL.of hlf,fun q1 hq1=>?_⟩
  rw[Vy (by omega),WL]
  refine⟨_,_,rfl,SqL.of Ae,(by rw[Nz];omega),fun le dA pA decA hle=>?_⟩
  have u3:Al H (upd (upd H2 q1 (.lst (vI (eS cl m)))) le (.lst (vI dA))):=(u2.new hq1).new hle
  have s3:Al H2 (upd (upd H2 q1 (.lst (vI (eS cl m)))) le (.lst (vI dA))):=(Al.upd hq1).new hle
  have Afq:(upd (upd H2 q1 (.lst (vI (eS cl m)))) le (.lst (vI dA))) le=some (.lst (vI dA)):=Ae
  generalize hH3:upd (upd H2 q1 (.lst (vI (eS cl m)))) le (.lst (vI dA))=H3 at u3 s3 Afq ⊢
  refine⟨_,rfl,_,rfl,_,_,_,_,rfl,rfl,SqT.of (s3 _ _ gp2),Bb (by decide) rfl,_,rfl,_,_,rfl,SqL.of (s3 _ _ hlf),fun q2 hq2=>?_⟩
  rw[Aaq (by omega),WM]
  refine⟨_,_,rfl,SqL.of Ae,(by rw[Vk,C.hn];omega),fun lp dB pB FQ hlp=>?_⟩
  have s4:Al H3 (upd (upd H3 q2 (.lst (vI (pS cl)))) lp (.lst (vI dB))):=(Al.upd hq2).new hlp
  have Afr:(upd (upd H3 q2 (.lst (vI (pS cl)))) lp (.lst (vI dB))) lp=some (.lst (vI dB)):=Ae
  generalize hH4:upd (upd H3 q2 (.lst (vI (pS cl)))) lp (.lst (vI dB))=H4 at s4 Afr ⊢
  have u4:=u3.trans s4
  have gp4:=s4 _ _ (s3 _ _ gp2)
  have AgB:=s4 _ _ Afq
  have dAl:dA.length=m:=by rw[pA.length_eq,Nz]
  have dBl:dB.length=n:=by rw[pB.length_eq,Vk,C.hn]
  refine⟨Aik _,fun lt hlt=>?_⟩
  have nlt:=u4.free hlt
  have pl0:PL (upd H4 lt (.lst [])) lt [] (Fo (Pz m n dA dB) n 0):=⟨Ae,rfl,fun i p z e=>by simp at e⟩
  refine⟨_,rfl,_,_,_,_,rfl,rfl,SqT.of ((Al.upd hlt) _ _ gp4),Bb (by decide) rfl,_,_,rfl,rfl,_,rfl,(by omega),(by omega),?_⟩
  rw[show((m:Int)+1).toNat=m+1 by omega]
  refine Cp (lo:=0) (n:=m+1) (fun i σ H5=>∃(ps:List Addr) (v6 v7 v8:Option V),σ=[some (.ref a),some (.ref p),some (.ref lf),some (.ref le),some (.ref lp),some (.ref lt),v6,v7,v8]∧Al H4 H5∧PL H5 lt ps (Fo (Pz m n dA dB) n i))
   ⟨[],none,none,none,rfl,.upd hlt,pl0⟩ ?_ ?_
  ·rintro i σ H5 hi ⟨ps,v6,v7,v8,rfl,s5,N5⟩
   refine⟨_,rfl,_,_,_,_,rfl,rfl,SqT.of (s5 _ _ gp4),Bb (by decide) rfl,_,_,rfl,rfl,_,rfl,(by omega),(by omega),?_⟩
   rw[show((n:Int)+1).toNat=n+1 by omega]
   refine Cp (lo:=0) (n:=n+1) (fun j σ H6=>∃(ps:List Addr) (v7 v8:Option V),σ=[some (.ref a),some (.ref p),some (.ref lf),some (.ref le),some (.ref lp),some (.ref lt),some (.int (0+(i:Int))),v7,v8]∧Al H4 H6∧PL H6 lt ps (Fo (Pz m n dA dB) n i++Ry (Pz m n dA dB) i j))
    ⟨ps,v7,v8,rfl,s5,by rw[show Ry (Pz m n dA dB) i 0=[] from rfl,AiA];exact N5⟩ ?_ ?_
   ·rintro j σ H6 hj ⟨ps6,w7,w8,rfl,s6,N6⟩
    have gp6:=s6 _ _ gp4
    refine⟨_,rfl,_,rfl,_,_,_,_,rfl,rfl,SqT.of gp6,Bb (by decide) rfl,_,_,rfl,rfl,.inl ⟨by omega,by omega⟩,_,rfl,_,rfl,_,_,_,_,rfl,rfl,SqT.of gp6,Bb (by decide) rfl,_,_,rfl,rfl,.inl ⟨by omega,by omega⟩,_,_,rfl,rfl,_,rfl,_,rfl,_,_,rfl,rfl,.inl ⟨by omega,by omega⟩,_,_,rfl,rfl,?_⟩
    refine⟨_,rfl,_,rfl,_,rfl,_,_,rfl,SqL.of (s6 _ _ AgB),fun c1 hc1=>?_⟩
    rw[show(0:Int)+(i:Int)=(i:Int) by omega,Vy (by omega)]
    refine⟨_,_,rfl,SqL.of Ae,?_⟩
    have s7:Al H6 (upd H6 c1 (.lst (vI (dA.take i)))):=.upd hc1
    refine⟨_,rfl,_,rfl,_,rfl,_,_,rfl,SqL.of (s7 _ _ (s6 _ _ Afr)),fun c2 hc2=>?_⟩
    rw[show(0:Int)+(j:Int)=(j:Int) by omega,Vy (by omega)]
    have s8:Al H6 (upd (upd H6 c1 (.lst (vI (dA.take i)))) c2 (.lst (vI (dB.take j)))):=s7.new hc2
    refine⟨_,_,rfl,SqL.of Ae,_,_,rfl,rfl,_,rfl,rfl,_,rfl,?_⟩
    have N8:=N6.same s8
    have u8:=s6.trans s8
    generalize hH8:upd (upd H6 c1 (.lst (vI (dA.take i)))) c2 (.lst (vI (dB.take j)))=H8 at s8 N8 u8 ⊢
    have AgC:(ps6.map V.ref).length<sizeLine:=by
     have q1:=RZ (Pz m n dA dB) n i
     have q2:=WD (Pz m n dA dB) i j
     have q3:i*(n+1)≤41*41:=Nat.mul_le_mul (by omega) (by omega)
     have q4:=N6.len
     rw[Aid] at q4
     rw[AhZ]
     omega
    refine O1 (fun h=>?_) (fun h=>?_)
    ·have hz:Pz m n dA dB i j=true:=by unfold Pz;exact decide_eq_true (V.int.inj h)
     refine⟨_,rfl,.inl ⟨rfl,_,SqL.of N8.h⟩,_,rfl,_,rfl,(by show 2≤sizeLine;omega),fun tp htp=>?_⟩
     have s9:Al H8 (upd H8 tp (.tup [.int (i:Int),.int (j:Int)])):=.upd htp
     refine⟨_,_,_,rfl,rfl,s9 _ _ N8.h,AgC,?_⟩
     refine⟨ps6++[tp],_,_,rfl,(u8.trans s9).over hlt,?_⟩
     rw[Q7,if_pos hz,← AiC]
     exact(N8.same s9).app (z:=(i,j)) Ae
    ·have hz:¬Pz m n dA dB i j=true:=fun z=>h (congrArg V.int (of_decide_eq_true z))
     refine⟨ps6,_,_,rfl,u8,?_⟩
     rw[Q7,if_neg hz,AiA]
     exact N8
   ·rintro σ H6 ⟨ps6,w7,w8,rfl,s6,N6⟩
    exact⟨ps6,_,_,_,rfl,s6,by rw[Q8];exact N6⟩
  ·rintro σ H5 ⟨ps,v6,v7,v8,rfl,s5,N5⟩
   exact⟨_,rfl,k lt H5 ps dA dB (u4.trans s5) nlt pA pB decA FQ N5⟩
structure NL (H:Hp) (y:Addr) (rs:List Addr) (tss:List (List Int)):Prop where
 h:H y=some (.lst (rs.map V.ref))
 l:rs.length=tss.length
 r:∀(i:Nat) (a:Addr) (ks:List Int),rs[i]?=some a→tss[i]?=some ks→H a=some (.lst (vI ks))
theorem NL.same{H H':Hp}{y:Addr}{rs:List Addr}{tss:List (List Int)}(N:NL H y rs tss)(s:Al H H'):NL H' y rs tss:=⟨s _ _ N.h,N.l,fun i a ks h1 h2=>s _ _ (N.r i a ks h1 h2)⟩
theorem NL.at{H:Hp}{y:Addr}{rs:List Addr}{tss:List (List Int)}(N:NL H y rs tss){i:Nat}{a:V}(h:(rs.map V.ref)[i]?=some a):∃ r ks,a=.ref r∧rs[i]?=some r∧tss[i]?=some ks∧H r=some (.lst (vI ks)):=by
 rw[Aip] at h
 cases e:rs[i]? with
 | none=>rw[e] at h;cases h
 | some r =>
  rw[e] at h
  cases h
  have hi:i<tss.length:=by rw[← N.l];exact(List.getElem?_eq_some_iff.mp e).1
  exact⟨r,tss[i],rfl,rfl,AhY hi,N.r i r _ e (AhY hi)⟩
theorem Abs{ks:List Int}{i j:Int}(h0:0≤i)(h1:i≤j)(h2:j≤ks.length):Jw (vI ks) (some i) (some j)=vI ((ks.drop i.toNat).take (j.toNat-i.toNat)):=by
 unfold Jw
 have e1:HT.sIx (vI ks).length 0 (some i)=i.toNat:=by
  show(if i<0 then _ else _)=_
  rw[if_neg (by omega),Ao];omega
 have e2:HT.sIx (vI ks).length (vI ks).length (some j)=j.toNat:=by
  show(if j<0 then _ else _)=_
  rw[if_neg (by omega),Ao];omega
 rw[e1,e2]
 unfold vI
 rw[← Ajb,← Ai9]
theorem Aar{ps:List Addr}{k:Nat}(h:k≤ps.length):Jw (ps.map V.ref) (some (k:Int)) none=(ps.drop k).map V.ref:=by
 unfold Jw
 have e1:HT.sIx (ps.map V.ref).length 0 (some (k:Int))=k:=by rw[HT.Ox,AhZ,Ai3 h]
 have e2:HT.sIx (ps.map V.ref).length (ps.map V.ref).length none=(ps.map V.ref).length:=rfl
 rw[e1,e2,← Ajb]
 exact Aiy (by rw[AhZ,AhZ,Aim];omega)
theorem Z1{lo n:Nat}(h:lo+n≤1000):Builtin.Range.rangeSize (lo:Int) ((lo+n:Nat):Int) 1=(n:Int)∧Builtin.Range.small (lo:Int) ((lo+n:Nat):Int) 1=true:=by
 have rs:Builtin.Range.rangeSize (lo:Int) ((lo+n:Nat):Int) 1=(n:Int):=by
  unfold Builtin.Range.rangeSize
  rw[if_pos (by decide)]
  by_cases h:(lo:Int)<((lo+n:Nat):Int)
  ·rw[if_pos h,Int.ediv_one]
   omega
  ·rw[if_neg h]
   omega
 refine⟨rs,?_⟩
 have fits:∀{z:Int},-1000000≤z→z≤1000000→Builtin.Range.rangeFitsLong z=true:=fun {z} h1 h2=>by
  unfold Builtin.Range.rangeFitsLong
  simp only [Aj3,decide_eq_true_eq]
  omega
 unfold Builtin.Range.small
 rw[rs,fits (by omega) (by omega),fits (by omega) (by omega),fits (by omega) (by omega),fits (by omega) (by omega)]
 simp only [show(1:Int)>0 by decide,if_true,Bool.true_and,Bool.or_eq_true]
 exact .inr (fits (by omega) (by omega))
theorem Z2(lo n:Nat):Rx (lo:Int) 1 n=(List.range n).map (cQ lo):=by
 unfold Rx cQ
 refine Aj7 fun i _=>?_
 omega
theorem AcV{cl:List (List Nat)}{m n:Nat}(C:Cl cl m n){k:Nat}(h:k<m):(Dh cl m).getD (cQ 0 k).toNat 0=((aS (upC cl) n k:Nat):Int):=by
 have e:(cQ 0 k).toNat=k:=by unfold cQ;omega
 have hl:=Nz cl m
 rw[e,Aic]
 show((eS cl m++pS cl)[k]?).getD 0=_
 rw[AiG (by omega),Zo C,Aip,Aj5 h]
 rfl
theorem AcW{cl:List (List Nat)}{m n:Nat}(C:Cl cl m n){k:Nat}(h:k<n):(Dh cl m).getD (cQ m k).toNat 0=((bS (upC cl) m k:Nat):Int):=by
 have e:(cQ m k).toNat=m+k:=by unfold cQ;omega
 have hl:=Nz cl m
 rw[e,Aic]
 show((eS cl m++pS cl)[m+k]?).getD 0=_
 rw[AiB (by omega),Zq C,hl,Ajk,Aip,Aj5 h]
 rfl
theorem Afs{cl:List (List Nat)}{m n:Nat}(C:Cl cl m n){n1:List Int}(p1:n1.Perm (Rx 0 1 m))
  (w1:n1.Pairwise (fun x y => -((Dh cl m).getD x.toNat 0) < -((Dh cl m).getD y.toNat 0)∨(-((Dh cl m).getD x.toNat 0) = -((Dh cl m).getD y.toNat 0)∧x<y))):∃ eo,Ord (aS (upC cl) n) m eo∧n1=eo.map (cQ 0):=by
 have p1':n1.Perm ((List.range m).map (cQ 0)):=by rw[← Z2];exact p1
 obtain⟨eo,p,e⟩:=O3 p1' _ rfl
 refine⟨eo,⟨p,?_⟩,e⟩
 rw[e,AiE] at w1
 refine w1.imp_of_mem fun {x y} hx hy h=>?_
 rw[AcV C (List.mem_range.mp (p.mem_iff.mp hx)),AcV C (List.mem_range.mp (p.mem_iff.mp hy))] at h
 unfold cQ at h
 omega
theorem Aft{cl:List (List Nat)}{m n:Nat}(C:Cl cl m n){n1:List Int}(p1:n1.Perm (Rx (m:Int) 1 n))
  (w1:n1.Pairwise (fun x y => -((Dh cl m).getD x.toNat 0) < -((Dh cl m).getD y.toNat 0)∨(-((Dh cl m).getD x.toNat 0) = -((Dh cl m).getD y.toNat 0)∧x<y))):∃ po,Ord (bS (upC cl) m) n po∧n1=po.map (cQ m):=by
 have p1':n1.Perm ((List.range n).map (cQ m)):=by rw[← Z2];exact p1
 obtain⟨po,p,e⟩:=O3 p1' _ rfl
 refine⟨po,⟨p,?_⟩,e⟩
 rw[e,AiE] at w1
 refine w1.imp_of_mem fun {x y} hx hy h=>?_
 rw[AcW C (List.mem_range.mp (p.mem_iff.mp hx)),AcW C (List.mem_range.mp (p.mem_iff.mp hy))] at h
 unfold cQ at h
 omega
theorem R8{key:Nat→Nat}{N:Nat}{l:List Nat}(o:Ord key N l):(l.map fun e=>((key e:Nat):Int)).Pairwise (· ≥ ·):=by
 rw[AiE]
 exact o.ord.imp fun {x y} h=>by omega
theorem lay_of{cl:List (List Nat)}{m n:Nat}(C:Cl cl m n){dA dB:List Int}(pA:dA.Perm (eS cl m))(pB:dB.Perm (pS cl))(decA:dA.Pairwise (· ≥ ·))(FQ:dB.Pairwise (· ≥ ·)){eo po:List Nat}
  (oE:Ord (aS (upC cl) n) m eo) (oP:Ord (bS (upC cl) m) n po) {tss:List (List Int)} (len:tss.length+1=(Fo (Pz m n dA dB) n (m+1)).length)
  (lay:∀(i:Nat) (a b:Nat × Nat) (t:List Int),(Fo (Pz m n dA dB) n (m+1))[i]?=some a→(Fo (Pz m n dA dB) n (m+1))[i+1]?=some b→tss[i]?=some t →
   t.Perm (((eo.drop a.1).take (b.1-a.1)).map (cQ 0)++((po.drop a.2).take (b.2-a.2)).map (cQ m))∧t.Pairwise (·≤·)):Lay (upC cl) m n tss (Fo (Pz m n dA dB) n (m+1)) eo po:=by
 have tp:=Tps.of (Abi C pA pB decA FQ) C.m1
 have eA:dA=eo.map fun e=>((aS (upC cl) n e:Nat):Int):=Fp (pA.trans (by rw[Zo C];exact(oE.perm.map _).symm)) decA (R8 oE)
 have eB:dB=po.map fun e=>((bS (upC cl) m e:Nat):Int):=Fp (pB.trans (by rw[Zq C];exact(oP.perm.map _).symm)) FQ (R8 oP)
 refine⟨oE,oP,tp.fst,tp.lst,tp.in_,fun i a b ea eb=>?_,fun i a ea=>?_,len,lay⟩
 ·obtain⟨h1,h2,h3,_⟩:=tp.stp i a b ea eb
  exact⟨h1,h2,h3⟩
 ·have hm:=(Hq.mp (Aiv ea)).2.2
  unfold Pz at hm
  have hz:=of_decide_eq_true hm
  rw[eA,eB,← Ai9,← Ai9,Hd,Hd] at hz
  have e1:((a.1*n:Nat):Int)=(a.1:Int)*n:=by rw[AiS]
  have e2:((a.2*m:Nat):Int)=(a.2:Int)*m:=by rw[AiS]
  have e3:((a.1*a.2:Nat):Int)=(a.1:Int)*a.2:=by rw[AiS]
  omega
theorem AcX:(("layers_of" : Str) ++ ".<locals>.") ++ "<lambda>" = "layers_of.<locals>.<lambda>" := by decide +kernel
theorem Abt{eo:List Nat}{m:Nat}(p:eo.Perm (List.range m))(lo a b:Nat):(((eo.drop a).take b).map (cQ lo)).Nodup:=by
 have hs:((eo.drop a).take b).Nodup:=((AiU _ _).trans (List.drop_sublist _ _)).nodup (p.nodup_iff.mpr AjP)
 unfold List.Nodup
 rw[AiE]
 exact hs.imp fun {x y} h e=>h (by unfold cQ at e;omega)
theorem Ac4{eo po:List Nat}{m n:Nat}(p1:eo.Perm (List.range m))(p2:po.Perm (List.range n))(a b c d:Nat):(((eo.drop a).take b).map (cQ 0)++((po.drop c).take d).map (cQ m)).Nodup:=by
 rw[AjD]
 refine⟨Abt p1 0 a b,Abt p2 m c d,fun x hx y hy e=>?_⟩
 obtain⟨i,hi,rfl⟩:=List.mem_map.mp hx
 obtain⟨j,hj,rfl⟩:=List.mem_map.mp hy
 have:=List.mem_range.mp (p1.mem_iff.mp (AiL (Ai4 hi)))
 unfold cQ at e
 omega
def Aas (K:PySem.W.Frag)(tT:Addr):Sp:=fun vs H Q _=>∃(a:Addr) (cl:List (List Nat)) (m n:Nat),vs=[.ref a]∧SqL K H a (vS cl)∧Cl cl m n∧Tb tT "layers_of.<locals>.<lambda>" H ∧
 ∀ l H' rs tss dA dB eo po,Dt H H'→Tb tT "layers_of.<locals>.<lambda>" H'→dA.Perm (eS cl m)→dB.Perm (pS cl)→dA.Pairwise (· ≥ ·)→dB.Pairwise (· ≥ ·)→Lay (upC cl) m n tss (Fo (Pz m n dA dB) n (m+1)) eo po→NL H' l rs tss→Q (.ref l) H'
theorem Ph{tc tT:Addr}(T:Txt K mg t)(hcd:t.CT.code=.ref tc)(hCd:PySem.W.CodeHd base tc tT)(hBm:Bm mg base):Bx P w K mg base CX0 6 t.CQ t.CT ["cloth"] (Aas K tT):=by
 have Fd:Bx P w K mg base CX0 3 t.Cv t.Gg _ _:=HJ T
 have Li:Bx P w K mg base CX0 4 t.CP t.HF _ _:=Pg T
 have Aat:Bx P w K mg base CX0 5 t.Fi t.QB _ _:=YB T
 refine T.Gk.F.okC hcd Ce (fun vs H Q E h=>?_) (fun A outer s H vs Q E hr h=>?_)
 ·obtain⟨a,cl,m,n,rfl,_⟩:=h
  rfl
 ·obtain⟨a,cl,m,n,rfl,hS,C,tb,k⟩:=h
  have c2:=C.n40
  have c4:=C.m40
  have hsz:sizeLine=16777216:=sizeLine_eq
  refine⟨_,(Ab (Ak (i:=1) Ce.nd rfl (Or.inl rfl) (Bd (Fd.mono (by decide)) hr rfl T.measured.m T.measured.F.kp T.measured.b .nil Cz (Aa (pv 0) Ad)))
   (Ab (Ak (i:=2) Ce.nd rfl (Or.inr rfl) (Bd (Li.mono (by decide)) hr rfl T.Gj.m T.Gj.F.kp T.Gj.b .nil Cz (Aa (pv 0) Ad)))
   (Ab (Ak (i:=3) Ce.nd rfl (Or.inl rfl) (RW (K:=K) (j:=2) (q := "layers_of.<locals>.<lambda>") rfl T.Lg (Ff Aae rfl T.CW Wt (Aa (Aq (Ay (K:=K)) (pv 1) Af (fun _ _=>rfl)) Ad)) hCd hBm (hr.mono (by decide)) rfl AcX))
   (Ab (Ak (i:=4) Ce.nd rfl (Or.inl rfl) (RW (K:=K) (j:=2) (q := "layers_of.<locals>.<lambda>") rfl T.Lg (Ff Aaa rfl T.CW Wt (Aa (Aq (Ay (K:=K)) (pv 1) Af (fun _ _=>rfl)) (Aa (An (Am (K:=K)) rfl T.Ew Dc (Aa (pv 2) Ad)) Ad))) hCd hBm (hr.mono (by decide)) rfl AcX))
   (Ab (Ak (i:=5) Ce.nd rfl (Or.inl rfl) (Bd (Aat.mono (by decide)) hr rfl T.R7.m T.R7.F.kp T.R7.b .nil Cz (Aa (pv 0) Ad)))
   (Ab (Ak (i:=6) Ce.nd rfl (Or.inl rfl) (Qz Ad))
   (Ab (Cw PassesOwn.never rfl (AdA (K:=K) rfl T.Afo (Aa (pv 5) (Aa (DR (DW (K:=K)) (pv 5) (Ei Af) Hb) Ad))) (Aa3 rfl (Ou (Bp (i:=7) Ce.nd rfl (Or.inl rfl)) (Ou (Bp (i:=8) Ce.nd rfl (Or.inl rfl)) YZ)))
    (Ag (GZ (Dg (K:=K) PySem.F.plainAttrs_list PySem.F.slot_list_append PySem.F.type_list_append Fg (pv 6) (Aa (An (Y9 (K:=K)) rfl T.Lg Q3 (Aa (Ar AaC (DR (DW (K:=K)) (pv 3) (Ei (Aq (Ay (K:=K)) (pv 7) Af (fun _ _=>rfl))) (Ei (Aq (Ay (K:=K)) (pv 8) Af (fun _ _=>rfl)))) (DR (DW (K:=K)) (pv 4) (Ei (Aq (Ay (K:=K)) (pv 7) Af (fun _ _=>rfl))) (Ei (Aq (Ay (K:=K)) (pv 8) Af (fun _ _=>rfl))))) Ad)) Ad)))))
   (Ag (Bg (pv 6)))))))))),?_⟩
  refine⟨_,rfl,a,cl,m,n,rfl,hS,C,fun p hp=>?_⟩
  have s1:Al H (upd H p (.tup [.int (m:Int),.int (n:Int)])):=.upd hp
  have gp1:(upd H p (.tup [.int (m:Int),.int (n:Int)])) p=some (.tup [.int (m:Int),.int (n:Int)]):=Ae
  refine⟨_,rfl,a,cl,m,n,rfl,s1.seq hS,C,fun lf H2 s2 nlf hlf=>?_⟩
  have gp2:=s2 _ _ gp1
  have u2:=s1.trans s2
  have tb2:=tb.same u2
  have lsc:(Dh cl m).length=m+n:=by rw[RX,C.hn]
  refine⟨_,rfl,_,_,_,_,rfl,rfl,SqT.of gp2,Bb (by decide) rfl,_,rfl,fun pr npr=>?_⟩
  have s3:Al H2 (upd H2 pr (Yp pr 0 (m:Int) 1)):=.upd npr
  obtain⟨r1,r2⟩:=Z1 (lo:=0) (n:=m) (by omega)
  rw[AiD] at r1 r2
  refine⟨pr,0,(m:Int),m,lf,Dh cl m,rfl,Ae,r2,r1,(by omega),rfl,SqL.of (s3 _ _ hlf),by decide,(by show 0+m≤_;omega),tb2.same s3,fun l1 H3 n1 t3 tb3 nl1 hl1 p1 w1=>?_⟩
  have v3:Dt H2 H3:=s3.toT.trans t3
  have gp3:=v3.tup gp2
  have Afu:=v3.lst hlf
  refine⟨_,rfl,_,_,_,_,rfl,rfl,SqT.of gp3,Bb (by decide) rfl,_,rfl,_,_,rfl,.inl (SqL.of Afu),_,_,rfl,fun pr2 AgD=>?_⟩
  rw[Ao,lsc]
  have s4:Al H3 (upd H3 pr2 (Yp pr2 (m:Int) ((m+n:Nat):Int) 1)):=.upd AgD
  obtain⟨q1,q2⟩:=Z1 (lo:=m) (n:=n) (by omega)
  refine⟨pr2,(m:Int),((m+n:Nat):Int),n,lf,Dh cl m,rfl,Ae,q2,q1,(by omega),rfl,SqL.of (s4 _ _ Afu),by omega,(by omega),tb3.same s4,fun l2 H4 n2 t4 tb4 nl2 hl2 p2 w2=>?_⟩
  have v4:Dt H3 H4:=s4.toT.trans t4
  have x4:Dt H H4:=u2.toT.trans (v3.trans v4)
  have AgE:=v4.lst hl1
  obtain⟨eo,oE,rfl⟩:=Afs C p1 w1
  obtain⟨po,oP,rfl⟩:=Aft C p2 w2
  refine⟨_,rfl,a,cl,m,n,rfl,x4.seq hS,C,fun lt H5 ps dA dB s5 nlt pA pB decA FQ N=>?_⟩
  have tp:=Tps.of (Abi C pA pB decA FQ) C.m1
  have x5:Dt H H5:=x4.trans s5.toT
  have tb5:=tb4.same s5
  have AgF:=s5 _ _ AgE
  have AgG:=s5 _ _ hl2
  have AgH:(Fo (Pz m n dA dB) n (m+1)).length≤41*41:=by
   have q1:=RZ (Pz m n dA dB) n (m+1)
   have q3:(m+1)*(n+1)≤41*41:=Nat.mul_le_mul (by omega) (by omega)
   omega
  have Afv:=fun(tss:List (List Int))=>lay_of (tss:=tss) C pA pB decA FQ oE oP
  generalize hzs:Fo (Pz m n dA dB) n (m+1)=zs at N tp AgH Afv
  refine⟨Aik _,fun ll nll=>?_⟩
  have s6:Al H5 (upd H5 ll (.lst [])):=.upd nll
  have N6:=N.same s6
  refine⟨_,rfl,_,rfl,_,rfl,_,_,rfl,SqL.of N6.h,fun lc nlc=>?_⟩
  have s7:=s6.new nlc (o:=.lst (Jw (ps.map V.ref) (some 1) none))
  have ct:Jw (ps.map V.ref) (some 1) none=(ps.drop 1).map V.ref:=by
   have:=Aar (ps:=ps) (k:=1) (by rw[N.len];have:=tp.two;omega)
   exact this
  rw[ct] at s7 ⊢
  have N7:=N.same s7
  have AdQ:(upd (upd H5 ll (.lst [])) lc (.lst ((ps.drop 1).map V.ref))) lc=some (.lst ((ps.drop 1).map V.ref)):=Ae
  have lne:ll≠lc:=fun e=>by rw[← e,Ae] at nlc;cases nlc
  have Afw:(upd (upd H5 ll (.lst [])) lc (.lst ((ps.drop 1).map V.ref))) ll=some (.lst []):=by rw[Aj lne];exact Ae
  generalize upd (upd H5 ll (.lst [])) lc (.lst ((ps.drop 1).map V.ref))=H7 at s7 N7 AdQ Afw ⊢
  have Afx:ps.length=zs.length:=N.len
  refine⟨_,_,rfl,⟨_,SqL.of N7.h⟩,⟨_,SqL.of AdQ⟩,Acg (K:=K) (n:=zs.length-1) (xs:=ps.map V.ref) (ys:=(ps.drop 1).map V.ref) (by rw[AhZ,AhZ,Aim,Afx];omega)
   (fun i σ H8=>∃(rs:List Addr) (tss:List (List Int)) (v7 v8:Option V),σ=[some (.ref a),some (.ref p),some (.ref lf),some (.ref l1),some (.ref l2),some (.ref lt),some (.ref ll),v7,v8]∧Al H5 H8∧H8 lc=some (.lst ((ps.drop 1).map V.ref))∧lc≠ll∧NL H8 ll rs tss∧rs.length=i∧(∀ r∈rs,r≠ll) ∧
    ∀(j:Nat) (x y:Nat × Nat) (t:List Int),zs[j]?=some x→zs[j+1]?=some y→tss[j]?=some t→t.Perm (((eo.drop x.1).take (y.1-x.1)).map (cQ 0)++((po.drop x.2).take (y.2-x.2)).map (cQ m))∧t.Pairwise (·≤·))
   ⟨[],[],none,none,rfl,s7,AdQ,Ne.symm lne,⟨Afw,rfl,fun i a ks e=>by simp at e⟩,rfl,fun r hr=>by simp at hr,fun j x y t _ _ e=>by simp at e⟩ (fun i σ H8 ⟨_,_,_,_,_,s8,AdR,_⟩=>⟨SqL.of (s8 _ _ N.h),SqL.of AdR⟩) ?_ ?_⟩
  ·rintro i x y σ H8 T8 hx hy ⟨rs,tss,v7,v8,rfl,s8,AdR,lcn,N8,rl,rne,ly⟩ nT
   have hi:i+1<zs.length:=by
    have:=(List.getElem?_eq_some_iff.mp hy).1
    rw[AhZ,Aim,Afx] at this
    omega
   have ex:=AhY (l:=zs) (i:=i) (by omega)
   have ey:=AhY (l:=zs) (i:=i+1) hi
   obtain⟨px,hpx,Afy⟩:=N.get ex
   obtain⟨py,hpy,Afz⟩:=N.get ey
   rw[hpx] at hx
   cases hx
   have hy':(ps.map V.ref)[i+1]?=some y:=by
    rw[Ajb,Ajl,Nat.add_comm 1 i] at hy
    exact hy
   rw[hpy] at hy'
   cases hy'
   obtain⟨st1,st2,st3,_⟩:=tp.stp i _ _ ex ey
   obtain⟨in1,in2⟩:=tp.in_ _ _ ey
   have s9:Al H5 (upd H8 T8 (.tup [.ref px,.ref py])):=s8.new nT
   have Ac5:=s9 _ _ Afy
   have Ac6:=s9 _ _ Afz
   have N9:=N8.same (Al.upd nT (o:=.tup [.ref px,.ref py]))
   have Af0:=(Al.upd nT (o:=.tup [.ref px,.ref py])) _ _ AdR
   refine⟨_,_,rfl,SqT.of Ae,rfl,_,_,rfl,_,_,rfl,rfl,?_⟩
   generalize upd H8 T8 (.tup [.ref px,.ref py])=H9 at s9 Ac5 Ac6 N9 Af0 ⊢
   have eol:=oE.len
   have pol:=oP.len
   generalize zs[i]=za at ex Ac5 st1 st2 st3 Afy ⊢
   generalize zs[i+1]=zb at ey Ac6 st1 st2 st3 in1 in2 Afz ⊢
   refine⟨_,rfl,.inl ⟨rfl,_,SqL.of N9.h⟩,_,rfl,_,rfl,_,_,_,_,rfl,rfl,SqT.of Ac5,Bb (by decide) rfl,_,rfl,_,rfl,_,_,_,_,rfl,rfl,SqT.of Ac6,Bb (by decide) rfl,_,rfl,_,_,rfl,SqL.of (s9 _ _ AgF),fun c1 nc1=>?_⟩
   rw[Abs (by omega) (by omega) (by rw[AhZ,eol];omega)]
   rw[show((za.1:Nat):Int).toNat=za.1 by omega,show((zb.1:Nat):Int).toNat=zb.1 by omega,← Ajb,← Ai9]
   have s10:Al H9 (upd H9 c1 (.lst (vI (((eo.drop za.1).take (zb.1-za.1)).map (cQ 0))))):=.upd nc1
   have g10:(upd H9 c1 (.lst (vI (((eo.drop za.1).take (zb.1-za.1)).map (cQ 0))))) c1=some (.lst (vI (((eo.drop za.1).take (zb.1-za.1)).map (cQ 0)))):=Ae
   generalize upd H9 c1 (.lst (vI (((eo.drop za.1).take (zb.1-za.1)).map (cQ 0))))=H10 at s10 g10 ⊢
   refine⟨_,rfl,_,rfl,_,_,_,_,rfl,rfl,SqT.of (s10 _ _ Ac5),Bb (by decide) rfl,_,rfl,_,rfl,_,_,_,_,rfl,rfl,SqT.of (s10 _ _ Ac6),Bb (by decide) rfl,_,rfl,_,_,rfl,SqL.of (s10 _ _ (s9 _ _ AgG)),fun c2 nc2=>?_⟩
   rw[Abs (by omega) (by omega) (by rw[AhZ,pol];omega)]
   rw[show((za.2:Nat):Int).toNat=za.2 by omega,show((zb.2:Nat):Int).toNat=zb.2 by omega,← Ajb,← Ai9]
   have s11:Al H10 (upd H10 c2 (.lst (vI (((po.drop za.2).take (zb.2-za.2)).map (cQ m))))):=.upd nc2
   have g11:(upd H10 c2 (.lst (vI (((po.drop za.2).take (zb.2-za.2)).map (cQ m))))) c2=some (.lst (vI (((po.drop za.2).take (zb.2-za.2)).map (cQ m)))):=Ae
   generalize upd H10 c2 (.lst (vI (((po.drop za.2).take (zb.2-za.2)).map (cQ m))))=H11 at s11 g11 ⊢
   have Af1:(((eo.drop za.1).take (zb.1-za.1)).map (cQ 0)).length=zb.1-za.1:=by rw[AhZ,Aib,Aim];omega
   have Af2:(((po.drop za.2).take (zb.2-za.2)).map (cQ m)).length=zb.2-za.2:=by rw[AhZ,Aib,Aim];omega
   refine⟨_,_,_,_,rfl,rfl,s11 _ _ g10,g11,(by rw[Ao,Ao,Af1,Af2];omega),fun c3 nc3=>?_⟩
   have AgI:vI (((eo.drop za.1).take (zb.1-za.1)).map (cQ 0))++vI (((po.drop za.2).take (zb.2-za.2)).map (cQ m))=vI (((eo.drop za.1).take (zb.1-za.1)).map (cQ 0)++((po.drop za.2).take (zb.2-za.2)).map (cQ m)):=by unfold vI;rw[Aio]
   rw[AgI]
   have s12:=s11.new nc3 (o:=.lst (vI (((eo.drop za.1).take (zb.1-za.1)).map (cQ 0)++((po.drop za.2).take (zb.2-za.2)).map (cQ m))))
   refine⟨_,_,rfl,SqL.of Ae,⟨by rw[Aid,Af1,Af2];omega,.inr (Ac4 oE.perm oP.perm ..)⟩,fun c4 ns' p4 w4 nc4=>?_⟩
   have s13:Al H9 _:=(s10.trans s12).new nc4 (o:=.lst (vI ns'))
   have N13:=N9.same s13
   have g13:(upd (upd H11 c3 (.lst (vI (((eo.drop za.1).take (zb.1-za.1)).map (cQ 0)++((po.drop za.2).take (zb.2-za.2)).map (cQ m))))) c4 (.lst (vI ns'))) c4=some (.lst (vI ns')):=Ae
   have AcY:=s13 _ _ Af0
   have u13:=s9.trans s13
   have Af3:c4≠ll:=fun e=>by
    have z:=(s10.trans s12) _ _ N9.h
    rw[← e,nc4] at z
    cases z
   generalize upd (upd H11 c3 (.lst (vI (((eo.drop za.1).take (zb.1-za.1)).map (cQ 0)++((po.drop za.2).take (zb.2-za.2)).map (cQ m))))) c4 (.lst (vI ns'))=H13 at N13 g13 AcY u13 ⊢
   refine⟨_,_,_,rfl,rfl,N13.h,(by rw[AhZ,rl];omega),?_⟩
   have tl:tss.length=i:=by rw[← N8.l,rl]
   refine⟨rs++[c4],tss++[ns'],_,_,rfl,u13.over nll,by rw[Aj lcn];exact AcY,lcn,⟨by rw[Ae,Aio];rfl,by rw[Aid,Aid,N8.l];rfl,fun j r ks e1 e2=>?_⟩,by rw[Aid,rl];rfl,fun r hr=>?_,fun j x y t e1 e2 e3=>?_⟩
   ·by_cases hj:j<rs.length
    ·rw[AiG hj] at e1
     rw[AiG (by rw[← N8.l];exact hj)] at e2
     rw[Aj (rne r (Aiv e1))]
     exact N13.r j r ks e1 e2
    ·have hj2:=(List.getElem?_eq_some_iff.mp e1).1
     rw[Aid] at hj2
     have ej:j=rs.length:=by have:[c4].length=1:=rfl;omega
     rw[ej,AiB (AhX _),AiM] at e1
     rw[ej,N8.l,AiB (AhX _),AiM] at e2
     cases e1
     cases e2
     rw[Aj Af3]
     exact g13
   ·rcases List.mem_append.mp hr with h | h
    ·exact rne r h
    ·rw[List.mem_singleton.mp h];exact Af3
   ·by_cases hj:j<tss.length
    ·rw[AiG hj] at e3
     exact ly j x y t e1 e2 e3
    ·have hj2:=(List.getElem?_eq_some_iff.mp e3).1
     rw[Aid] at hj2
     have ej:j=tss.length:=by have:[ns'].length=1:=rfl;omega
     rw[ej,AiB (AhX _),AiM] at e3
     cases e3
     rw[ej,tl] at e1 e2
     rw[ex] at e1
     rw[ey] at e2
     cases e1
     cases e2
     exact⟨p4,w4⟩
  ·rintro σ H8 ⟨rs,tss,v7,v8,rfl,s8,_,_,N8,rl,rne,ly⟩
   have h2:=tp.two
   refine⟨_,rfl,k ll H8 rs tss dA dB eo po (x5.trans s8.toT) (tb5.same s8) pA pB decA FQ ?_ N8⟩
   rw[hzs]
   exact Afv tss (by rw[← N8.l,rl];omega) ly
theorem AdS(m:Nat)(z:Int):(List.replicate m [V.int z]).flatten=vI (List.replicate m z):=by
 induction m with
 | zero=>rfl
 | succ m ih=>rw[AiV,Ai1,ih,AiV];rfl
structure Pc (tss:List (List Int)) (N i j:Nat) (ks:List Int):Prop where
 len:ks.length=N
 old:∀(i':Nat) (z:Int) (h:i'<tss.length),i'<i→z∈tss[i']→ks[z.toNat]?=some (i':Int)
 now:∀(h:i<tss.length),∀ z∈tss[i].take j,ks[z.toNat]?=some (i:Int)
theorem Pc.nil(tss:List (List Int))(N:Nat){ks:List Int}(h:ks.length=N):Pc tss N 0 0 ks:=⟨h,fun i' z h h0=>absurd h0 (Nat.not_lt_zero _),fun h z hz=>by simp at hz⟩
theorem Pc.step{up:Nat→Nat→Bool}{m n:Nat}{tss:List (List Int)}{zs:List (Nat × Nat)}{eo po:List Nat}(L:Lay up m n tss zs eo po){i j:Nat}{ks:List Int}(c:Pc tss (m+n) i j ks)(hi:i<tss.length)(hj:j<tss[i].length) :
  Pc tss (m+n) i (j+1) (ks.set tss[i][j].toNat (i:Int)):=by
 have mz:=L.mem hi (Aie hj)
 have hl:tss[i][j].toNat<ks.length:=by rw[c.len];omega
 refine⟨by rw[Ajq];exact c.len,fun i' z h h0 hz=>?_,fun h z hz=>?_⟩
 ·have m2:=L.mem h hz
  have ne:tss[i][j].toNat≠z.toNat:=fun e=>by
   have ez:z=tss[i][j]:=by omega
   rw[ez] at hz
   have:=Uk L.nd h hi hz (Aie hj)
   omega
  rw[Ajo ne]
  exact c.old i' z h h0 hz
 ·rw[Aj9 hj] at hz
  by_cases e:tss[i][j].toNat=z.toNat
  ·rw[e] at hl ⊢
   rw[Ajd hl]
  ·rw[Ajo e]
   rcases List.mem_append.mp hz with h' | h'
   ·exact c.now h z h'
   ·rw[List.mem_singleton.mp h'] at e
    exact absurd rfl e
theorem Pc.next{tss:List (List Int)}{N i:Nat}{ks:List Int}(hi:i<tss.length)(c:Pc tss N i tss[i].length ks):Pc tss N (i+1) 0 ks:=by
 refine⟨c.len,fun i' z h h0 hz=>?_,fun h z hz=>by simp at hz⟩
 by_cases e:i'=i
 ·subst e
  exact c.now hi z (by rw[AiP];exact hz)
 ·exact c.old i' z h (by omega) hz
theorem Pc.uniq{up:Nat→Nat→Bool}{m n:Nat}{tss:List (List Int)}{zs:List (Nat × Nat)}{eo po:List Nat}(L:Lay up m n tss zs eo po){ks ks':List Int}(c:Pc tss (m+n) tss.length 0 ks)(c':Pc tss (m+n) tss.length 0 ks'):ks=ks':=by
 refine List.ext_getElem? fun k=>?_
 by_cases h:k<m+n
 ·obtain⟨i,hi,hz⟩:=L.has h
  have e1:=c.old i _ hi hi hz
  have e2:=c'.old i _ hi hi hz
  rw[Air] at e1 e2
  rw[e1,e2]
 ·rw[AjN (by rw[c.len];omega),AjN (by rw[c'.len];omega)]
theorem Abu(tss:List (List Int)):(tss.map fun t=>((t.length:Nat):Int)).sum=((tss.flatten.length:Nat):Int):=by
 induction tss with
 | nil=>rfl
 | cons t r ih=>rw[Aiq,AiJ,ih,Ai1,Aid];omega
theorem Lay.YC{up:Nat→Nat→Bool}{m n:Nat}{tss:List (List Int)}{zs:List (Nat × Nat)}{eo po:List Nat}(L:Lay up m n tss zs eo po):tss.flatten.length=m+n:=by rw[L.all.length_eq,AhZ,Aih]
theorem Xr:∀(tss:List (List Int)),(∀ t∈tss,0<t.length)→tss.length≤tss.flatten.length
 | [],_=>AhX _
 | t::r,h=>by
  have:=h t Aii
  have:=Xr r fun x hx=>h x (Aij _ hx)
  rw[Ai1,Aid,Ai2]
  omega
theorem Lay.few{up:Nat→Nat→Bool}{m n:Nat}{tss:List (List Int)}{zs:List (Nat × Nat)}{eo po:List Nat}(L:Lay up m n tss zs eo po):tss.length≤m+n:=by
 rw[← L.YC]
 refine Xr tss fun t ht=>?_
 obtain⟨i,hi,e⟩:=Aiu ht
 rw[← e]
 exact L.ne hi
theorem Abv:∀{tss:List (List Int)} {i:Nat} (hi:i<tss.length),tss[i].length≤tss.flatten.length
 | t::r,0,_=>by rw[Ai1,Aid];exact Nat.le_add_right _ _
 | t::r,i+1,hi=>by
  have hi':i<r.length:=by simpa using hi
  have:=Abv (tss:=r) (i:=i) hi'
  rw[Ai1,Aid]
  show r[i].length≤_
  omega
def Ac7 (K:PySem.W.Frag)(tT:Addr):Sp:=fun vs H Q _=>∃(a:Addr) (cl:List (List Nat)) (m n:Nat),vs=[.ref a]∧SqL K H a (vS cl)∧Cl cl m n∧Tb tT "layers_of.<locals>.<lambda>" H ∧
 ∀ l H' tss dA dB eo po ks,Dt H H'→Tb tT "layers_of.<locals>.<lambda>" H'→dA.Perm (eS cl m)→dB.Perm (pS cl)→dA.Pairwise (· ≥ ·)→dB.Pairwise (· ≥ ·)→Lay (upC cl) m n tss (Fo (Pz m n dA dB) n (m+1)) eo po→Pc tss (m+n) tss.length 0 ks→H' l=some (.lst (vI ks))→Q (.ref l) H'
theorem QD{tc tT:Addr}(T:Txt K mg t)(hcd:t.CT.code=.ref tc)(hCd:PySem.W.CodeHd base tc tT)(hBm:Bm mg base):Bx P w K mg base CX0 7 t.BL t.GP ["cloth"] (Ac7 K tT):=by
 have Lj:Bx P w K mg base CX0 6 t.CQ t.CT _ _:=Ph T hcd hCd hBm
 refine T.Gu.F.ok Cq (fun vs H Q E h=>?_) (fun cdv A outer s H vs Q E hr h=>?_)
 ·obtain⟨a,cl,m,n,rfl,_⟩:=h
  rfl
 ·obtain⟨a,cl,m,n,rfl,hS,C,tb,k⟩:=h
  have hsz:sizeLine=16777216:=sizeLine_eq
  refine⟨_,(Ab (Ak (i:=1) Cq.nd rfl (Or.inl rfl) (Bd (Lj.mono (by decide)) hr rfl T.Gk.m T.Gk.F.kp T.Gk.b .nil Cz (Aa (pv 0) Ad)))
   (Ab (Ak (i:=2) Cq.nd rfl (Or.inl rfl) (Ar Adz (Qz (Aa Af Ad)) (An (Q5 (K:=K)) rfl T.Abr Ym (Aa (JL (Et.mk (Bs:=[]) (Nc:=["layer"]) rfl (by decide +kernel) (by decide +kernel) (Fl (sc0:=Ac Az) rfl (by decide +kernel)) rfl rfl rfl (by decide +kernel) (fun _ _ h=>by simp at h)) rfl (CG (K:=K) (pv 1)) (fun _ _ _ _ _=>.nil) (fun _ _ _ _ _=>(An (Am (K:=K)) rfl T.Ew Dc (Aa (pv 0) Ad)))) Ad))))
   (Ab (Cw PassesOwn.never rfl (Acj (K:=K) rfl T.Xo (Aa (pv 1) Ad)) (Aa3 rfl (Ou (Bp (i:=3) Cq.nd rfl (Or.inl rfl)) (Ou (Bp (i:=4) Cq.nd rfl (Or.inl rfl)) YZ)))
    (Ag (Cw PassesOwn.never rfl (CG (K:=K) (pv 4)) (Bp (i:=5) Cq.nd rfl (Or.inl rfl))
     (Ag (U6 (pv 3) (U5 (pv 2) (pv 5) set_list))))))
   (Ag (Bg (pv 2)))))),?_⟩
  refine⟨_,rfl,a,cl,m,n,rfl,hS,C,tb,fun ly H1 rs tss dA dB eo po t1 tb1 pA pB decA FQ L N=>?_⟩
  have few:=L.few
  have c2:=C.n40
  have c4:=C.m40
  refine⟨(by show 1≤sizeLine;decide),fun p hp=>?_⟩
  have s2:Al H1 (upd H1 p (.lst [.int 0])):=.upd hp
  have gp2:(upd H1 p (.lst [.int 0])) p=some (.lst [.int 0]):=Ae
  have N2:=N.same s2
  generalize upd H1 p (.lst [.int 0])=H2 at s2 gp2 N2 ⊢
  have rl:(rs.map V.ref).length=tss.length:=by rw[AhZ,N.l]
  refine⟨_,rfl,_,rfl,⟨_,SqL.of N2.h⟩,Ej (K:=K) (a:=ly) (xs:=rs.map V.ref) (fun j ys H3=>H3=H2∧ys=vI ((tss.take j).map fun t=>((t.length:Nat):Int))) ⟨rfl,rfl⟩ ?_ ?_ ?_ ?_⟩
  ·rintro j ys H3 hj ⟨rfl,rfl⟩
   refine⟨SqL.of N2.h,?_⟩
   rw[Ao,AhZ,Aib]
   omega
  ·rw[rl];omega
  ·rintro j x ys H3 hj hx ⟨rfl,rfl⟩
   obtain⟨r,ks,rfl,hr1,hr2,hr3⟩:=N2.at hx
   refine HB.no ?_
   refine⟨_,rfl,_,_,rfl,.inl (SqL.of hr3),?_⟩
   refine CN.of hj ⟨rfl,?_⟩
   rw[Ai8,hr2,Ao]
   unfold vI
   rw[Aio,Aio]
   rfl
  ·rintro ys H3 q ⟨rfl,rfl⟩ hq
   rw[rl,AiP]
   have s4:Al H3 (upd H3 q (.lst (vI (tss.map fun t=>((t.length:Nat):Int))))):=.upd hq
   refine⟨_,_,rfl,SqL.of Ae,?_⟩
   rw[Abu,L.YC]
   refine⟨_,_,_,rfl,rfl,s4 _ _ gp2,(by omega),(by omega),(by show 1*(((m+n:Nat):Int).toNat)≤sizeLine;omega),fun l nl=>?_⟩
   rw[Air,AdS]
   have u5:Al H1 _:=(s2.trans s4).new nl (o:=.lst (vI (List.replicate (m+n) 0)))
   have nl1:H1 l=none:=(s2.trans s4).free nl
   have g5:(upd (upd H3 q (.lst (vI (tss.map fun t=>((t.length:Nat):Int))))) l (.lst (vI (List.replicate (m+n) 0)))) l=some (.lst (vI (List.replicate (m+n) 0))):=Ae
   generalize upd (upd H3 q (.lst (vI (tss.map fun t=>((t.length:Nat):Int))))) l (.lst (vI (List.replicate (m+n) 0)))=H5 at u5 g5 ⊢
   refine⟨_,rfl,_,rfl,⟨_,SqL.of (u5 _ _ N.h)⟩,AaR (K:=K) (a:=ly) (xs:=rs.map V.ref) (fun i σ H6=>∃(ks:List Int) (v3 v4 v5:Option V),σ=[some (.ref a),some (.ref ly),some (.ref l),v3,v4,v5]∧Al H1 H6∧H6 l=some (.lst (vI ks))∧Pc tss (m+n) i 0 ks)
    ⟨_,none,none,none,rfl,u5,g5,Pc.nil tss (m+n) (by rw[List.length_replicate])⟩ (fun i σ H6 ⟨_,_,_,_,_,s6,_⟩=>SqL.of (s6 _ _ N.h)) ?_ ?_⟩
   ·rintro i x σ H6 T6 hx ⟨ks,v3,v4,v5,rfl,s6,g6,pc⟩ nT
    have N6:=N.same s6
    obtain⟨r,ts,rfl,hr1,hr2,hr3⟩:=N6.at hx
    have hi:i<tss.length:=(List.getElem?_eq_some_iff.mp hr2).1
    have e2:ts=tss[i]:=Option.some.inj (hr2.symm.trans (AhY hi))
    subst e2
    have hrl:r≠l:=fun e=>by
     have z:=N.r i r _ hr1 hr2
     rw[e,nl1] at z
     cases z
    have s7:Al H1 (upd H6 T6 (.tup [.int (i:Int),.ref r])):=s6.new nT
    have g7:=(Al.upd nT (o:=.tup [.int (i:Int),.ref r])) _ _ g6
    have hr7:=(Al.upd nT (o:=.tup [.int (i:Int),.ref r])) _ _ hr3
    refine⟨_,_,rfl,SqT.of Ae,rfl,_,_,rfl,_,_,rfl,rfl,?_⟩
    generalize upd H6 T6 (.tup [.int (i:Int),.ref r])=H7 at s7 g7 hr7 ⊢
    refine⟨_,rfl,_,rfl,⟨_,SqL.of hr7⟩,KH (K:=K) (a:=r) (xs:=vI tss[i]) (fun j σ H8=>∃(ks:List Int) (v5:Option V),σ=[some (.ref a),some (.ref ly),some (.ref l),some (.int (i:Int)),some (.ref r),v5]∧Al H1 H8∧H8 l=some (.lst (vI ks))∧H8 r=some (.lst (vI tss[i]))∧Pc tss (m+n) i j ks)
     ⟨ks,_,rfl,s7,g7,hr7,pc⟩ (fun j σ H8 _ ⟨_,_,_,_,_,h,_⟩=>SqL.of h) ?_ ?_⟩
    ·rintro j x σ H8 hx ⟨ks8,v5',rfl,s8,g8,hr8,pc8⟩
     obtain⟨z,hz,rfl⟩:=JN hx
     have hj:j<tss[i].length:=(List.getElem?_eq_some_iff.mp hz).1
     have ez:z=tss[i][j]:=Option.some.inj (hz.symm.trans (AhY hj))
     have mz:=L.mem hi (Aie hj)
     rw[← ez] at mz
     refine⟨_,rfl,_,rfl,_,rfl,_,_,_,_,rfl,rfl,g8,Vf mz.1 (by rw[Ao,pc8.len];omega),?_⟩
     rw[AaM]
     refine⟨_,_,rfl,s8.over nl1,Ae,by rw[Aj hrl];exact hr8,?_⟩
     rw[ez]
     exact pc8.step L hi hj
    ·rintro σ H8 ⟨ks8,v5',rfl,s8,g8,hr8,pc8⟩
     rw[Ao] at pc8
     exact⟨_,_,_,_,rfl,s8,g8,pc8.next hi⟩
   ·rintro σ H6 ⟨ks,v3,v4,v5,rfl,s6,g6,pc⟩
    rw[rl] at pc
    exact⟨_,rfl,k l H6 tss dA dB eo po ks (t1.trans s6.toT) (tb1.same s6) pA pB decA FQ L pc g6⟩
theorem Vz{ns:List Int}{k:Nat}(h:k≤ns.length):Jw (vI ns) none (some (0+(k:Int)))=vI (ns.take k):=by
 unfold Jw
 rw[Aja,HT.Wo,HT.Ox,List.drop_zero,Ao,Ai3 h,Ajs]
 unfold vI
 rw[Ai9]
def pick(u:List Nat)(ts:List Int):List Nat:=ts.map fun z=>u.getD z.toNat 0
def Aau (K:PySem.W.Frag):Sp:=fun vs H Q _=>∃(u:List Nat) (r:Addr) (ts:List Int),vs=[.str (tx u),.ref r]∧SqL K H r (vI ts)∧u.length≤40∧ts.length≤100∧(∀ z∈ts,0≤z∧z<(u.length:Int))∧∀ H',Al H H'→Q (.str (tx (pick u ts))) H'
theorem Aav(T:Txt K mg t):Bx P w K mg base CX0 1 t.GF t.Sv ["text", "places"] (Aau K):=by
 refine T.picked.F.ok Aao (fun vs H Q E h=>?_) (fun cdv A outer s H vs Q E hr h=>?_)
 ·obtain⟨u,r,ts,rfl,_⟩:=h
  rfl
 ·obtain⟨u,r,ts,rfl,hS,u40,AgJ,bd,k⟩:=h
  have hsz:sizeLine=16777216:=sizeLine_eq
  refine⟨_,(Ag (Bg (Dg (K:=K) PySem.F.plainAttrs_str PySem.F.slot_str_join PySem.F.type_str_join (Wu (K:=K)) FW (Aa (JL (Et.mk (Bs:=[0]) (Nc:=["place", "text"]) rfl (by decide +kernel) (by decide +kernel) (Fl (sc0:=Ac DX) rfl (by decide +kernel)) rfl rfl rfl (by decide +kernel) (fun k j h=>match k,h with | 0,h=>by obtain rfl:=Option.some.inj h;exact⟨_,rfl,rfl,rfl⟩ | _+1,h=>by simp at h)) rfl (CG (K:=K) (pv 1)) (fun _ _ _ _ _=>.nil) (fun _ _ _ _ _=>(Aq Nx (pv 1) (pv 0) (fun _ _=>rfl)))) Ad)))),?_⟩
  refine⟨rfl,_,rfl,_,rfl,⟨_,hS⟩,Ej (K:=K) (a:=r) (xs:=vI ts) (fun i ys H2=>H2=H∧ys=vS ((ts.take i).map fun z=>[u.getD z.toNat 0])) ⟨rfl,rfl⟩ ?_ ?_ ?_ ?_⟩
  ·rintro i ys H2 hi ⟨rfl,rfl⟩
   refine⟨hS,?_⟩
   rw[GK,AhZ,Aib]
   omega
  ·rw[Ao];omega
  ·rintro i x ys H2 hi hx ⟨rfl,rfl⟩
   obtain⟨z,hz,rfl⟩:=JN hx
   obtain⟨b0,b1⟩:=bd z (Aiv hz)
   have hl:z.toNat<u.length:=by omega
   have e:u.getD z.toNat 0=u[z.toNat]:=by rw[Aic,AhY hl];rfl
   refine HB.no ?_
   refine⟨_,rfl,_,rfl,_,_,u[z.toNat],rfl,rfl,(by rw[Fb];omega),Bb b0 (by rw[Array.getElem?_toList,Q0];exact AhY hl),?_⟩
   refine CN.of hi ⟨rfl,?_⟩
   rw[Vc,Ve,Ai8,hz,Aio]
   show _=vS (_++[[u.getD z.toNat 0]])
   rw[e]
  ·rintro ys H2 p ⟨rfl,rfl⟩ hp
   rw[Ao,AiP]
   refine⟨_,_,((ts.map fun z=>[u.getD z.toNat 0]).map tx),rfl,rfl,SqL.of (by rw[Ae,AaL]),?_,?_⟩
   ·have e1:=Ad4 (fun z:Int=>u.getD z.toNat 0) ts
    rw[e1,AhZ,AhZ]
    have:ts.length*(Str.length "")=0:=by rw[show Str.length "" = 0 from by decide +kernel];omega
    omega
   ·rw[show(("" : Str))=tx [] from by decide +kernel,Zi]
    have e2:(ts.map fun z=>[u.getD z.toNat 0]).flatten=pick u ts:=AaI (fun z:Int=>u.getD z.toNat 0) ts
    rw[e2]
    exact k _ (.upd hp)
def pOf (cl:List (List Nat))(m:Nat)(ts:List Int):List (List Nat):=(ts.filter fun z=>decide ((m:Int)≤z)).map fun p=>pick (cl.getD (p-(m:Int)).toNat []) (ts.filter fun z=>decide (z<(m:Int)))
def AdT (K:PySem.W.Frag):Sp:=fun vs H Q _=>∃(a r:Addr) (cl:List (List Nat)) (m n:Nat) (ts:List Int),vs=[.ref a,.int (m:Int),.ref r]∧SqL K H a (vS cl)∧Cl cl m n∧SqL K H r (vI ts)∧ts.length≤100∧(∀ z∈ts,0≤z∧z<((m+n:Nat):Int)) ∧
 ∀ l H',Al H H'→H l=none→H' l=some (.lst (vS (pOf cl m ts)))→Q (.ref l) H'
theorem R9(p:Int→Bool)(l:List Int)(z:Int):vI ((l++[z]).filter p)=vI (l.filter p)++(if p z=true then [V.int z] else []):=by
 rw[AiK]
 unfold vI
 rw[Aio]
 congr 1
 by_cases h:p z=true
 ·rw[if_pos h,Ajw h];rfl
 ·rw[if_neg h,Ajy h];rfl
theorem Xu(T:Txt K mg t):Bx P w K mg base CX0 2 t.Ea t.NP ["cloth", "ends", "layer"] (AdT K):=by
 have Abw:Bx P w K mg base CX0 1 t.GF t.Sv _ _:=Aav T
 refine T.OD.F.ok KZ (fun vs H Q E h=>?_) (fun cdv A outer s H vs Q E hr h=>?_)
 ·obtain⟨a,r,cl,m,n,ts,rfl,_⟩:=h
  rfl
 ·obtain⟨a,r,cl,m,n,ts,rfl,hS,C,hr2,AgJ,bd,k⟩:=h
  have hsz:sizeLine=16777216:=sizeLine_eq
  have fl:∀ p:Int→Bool,(ts.filter p).length≤ts.length:=fun p=>Ajv _ _
  refine⟨_,(Ab (Ak (i:=3) KZ.nd rfl (Or.inr rfl) (JL (Et.mk (Bs:=[1]) (Nc:=["strand", "ends"]) rfl (by decide +kernel) (by decide +kernel) (Fl (sc0:=Ac BR) rfl (by decide +kernel)) rfl rfl rfl (by decide +kernel) (fun k j h=>match k,h with | 0,h=>by obtain rfl:=Option.some.inj h;exact⟨_,rfl,rfl,rfl⟩ | _+1,h=>by simp at h)) rfl (CG (K:=K) (pv 2)) (fun _ _ _ _ _=>.one (Bc Wm (pv 0) (pv 1) (Bh _))) (fun _ _ _ _ _=>(pv 0))))
   (Ab (R0 (i:=4) (Et.mk (Bs:=[1]) (Nc:=["strand", "ends"]) rfl (by decide +kernel) (by decide +kernel) (Fl (sc0:=Ac BR) rfl (by decide +kernel)) rfl rfl rfl (by decide +kernel) (fun k j h=>match k,h with | 0,h=>by obtain rfl:=Option.some.inj h;exact⟨_,rfl,rfl,rfl⟩ | _+1,h=>by simp at h)) rfl KZ.nd rfl rfl (CG (K:=K) (pv 2)) (fun _ _ _ _ _=>.one (Bc Ae3 (pv 0) (pv 1) (Bh _))) (fun _ _ _ _ _=>(pv 0)) rfl)
   (Ag (Bg (JL (Et.mk (Bs:=[0,1,3]) (Nc:=["strand", "cloth", "ends", "own_ends"]) rfl (by decide +kernel) (by decide +kernel) (Fl (sc0:=Ac BR) rfl (by decide +kernel)) rfl rfl rfl (by decide +kernel) (fun k j h=>match k,h with | 0,h=>by obtain rfl:=Option.some.inj h;exact⟨_,rfl,rfl,rfl⟩ | 1,h=>by obtain rfl:=Option.some.inj h;exact⟨_,rfl,rfl,rfl⟩ | 2,h=>by obtain rfl:=Option.some.inj h;exact⟨_,rfl,rfl,rfl⟩ | _+3,h=>by simp at h)) rfl (CG (K:=K) (pv 4)) (fun _ _ _ _ _=>.nil) (fun _ _ _ _ _=>(Bd (Abw.mono (by decide)) hr rfl T.picked.m T.picked.F.kp T.picked.b .nil Cz (Aa (Aq (Aw (K:=K)) (pv 1) (Ar Yd (pv 0) (pv 2)) (fun _ _=>rfl)) (Aa (pv 3) Ad))))))))),?_⟩
  refine⟨_,rfl,_,rfl,⟨_,hr2⟩,Ej (K:=K) (a:=r) (xs:=vI ts) (fun j ys H3=>H3=H∧ys=vI ((ts.take j).filter fun z=>decide (z<(m:Int)))) ⟨rfl,rfl⟩ ?_ ?_ ?_ ?_⟩
  ·rintro j ys H3 hj ⟨rfl,rfl⟩
   exact⟨hr2,by rw[Ao];exact Ais (Ajv _ _) (by rw[Aib];omega)⟩
  ·rw[Ao];omega
  ·rintro j x ys H3 hj hx2 ⟨rfl,rfl⟩
   obtain⟨z,hz,rfl⟩:=JN hx2
   have et:ts.take (j+1)=ts.take j++[z]:=by rw[Ai8,hz];rfl
   refine⟨_,rfl,_,rfl,_,_,rfl,rfl,_,rfl,?_⟩
   refine O1 (fun h=>?_) (fun h=>?_)
   ·refine⟨_,rfl,CN.of hj ⟨rfl,?_⟩⟩
    rw[et,R9,if_pos (decide_eq_true h)]
   ·refine CN.of hj ⟨rfl,?_⟩
    rw[et,R9,if_neg (by rw[decide_eq_false h];decide),AiA]
  ·rintro ys H3 p3 ⟨rfl,rfl⟩ hp3
   rw[Ao,AiP]
   have s4:Al H3 (upd H3 p3 (.lst (vI (ts.filter fun z=>decide (z<(m:Int)))))):=.upd hp3
   have g4:(upd H3 p3 (.lst (vI (ts.filter fun z=>decide (z<(m:Int)))))) p3=some (.lst (vI (ts.filter fun z=>decide (z<(m:Int))))):=Ae
   generalize upd H3 p3 (.lst (vI (ts.filter fun z=>decide (z<(m:Int)))))=H4 at s4 g4 ⊢
   refine⟨_,rfl,_,rfl,⟨_,s4.seq hr2⟩,Ej (K:=K) (a:=r) (xs:=vI ts) (fun j ys H5=>H5=H4∧ys=vI ((ts.take j).filter fun z=>decide ((m:Int)≤z))) ⟨rfl,rfl⟩ ?_ ?_ ?_ ?_⟩
   ·rintro j ys H5 hj ⟨rfl,rfl⟩
    exact⟨s4.seq hr2,by rw[Ao];exact Ais (Ajv _ _) (by rw[Aib];omega)⟩
   ·rw[Ao];omega
   ·rintro j x ys H5 hj hx2 ⟨rfl,rfl⟩
    obtain⟨z,hz,rfl⟩:=JN hx2
    have et:ts.take (j+1)=ts.take j++[z]:=by rw[Ai8,hz];rfl
    refine⟨_,rfl,_,rfl,_,_,rfl,rfl,_,rfl,?_⟩
    refine O1 (fun h=>?_) (fun h=>?_)
    ·refine⟨_,rfl,CN.of hj ⟨rfl,?_⟩⟩
     rw[et,R9,if_pos (decide_eq_true h)]
    ·refine CN.of hj ⟨rfl,?_⟩
     rw[et,R9,if_neg (by rw[decide_eq_false h];decide),AiA]
   ·rintro ys H5 p5 ⟨rfl,rfl⟩ hp5
    rw[Ao,AiP]
    have s6:Al H5 (upd H5 p5 (.lst (vI (ts.filter fun z=>decide ((m:Int)≤z))))):=.upd hp5
    have g6:(upd H5 p5 (.lst (vI (ts.filter fun z=>decide ((m:Int)≤z))))) p5=some (.lst (vI (ts.filter fun z=>decide ((m:Int)≤z)))):=Ae
    generalize upd H5 p5 (.lst (vI (ts.filter fun z=>decide ((m:Int)≤z))))=H6 at s6 g6 ⊢
    have u6:=s4.trans s6
    have f1:=fl fun z=>decide (z<(m:Int))
    have f2:=fl fun z=>decide ((m:Int)≤z)
    have bdE:∀ z∈ts.filter (fun z=>decide (z<(m:Int))),0≤z∧z<(m:Int):=fun z hz=>⟨(bd z (List.mem_filter.mp hz).1).1,of_decide_eq_true (List.mem_filter.mp hz).2⟩
    have bdP:∀ z∈ts.filter (fun z=>decide ((m:Int)≤z)),(m:Int)≤z∧z<((m+n:Nat):Int):=fun z hz=>⟨of_decide_eq_true (List.mem_filter.mp hz).2,(bd z (List.mem_filter.mp hz).1).2⟩
    have eP:pOf cl m ts=(ts.filter fun z=>decide ((m:Int)≤z)).map fun p=>pick (cl.getD (p-(m:Int)).toNat []) (ts.filter fun z=>decide (z<(m:Int))):=rfl
    generalize ts.filter (fun z=>decide (z<(m:Int)))=oe at g4 f1 bdE eP
    generalize ts.filter (fun z=>decide ((m:Int)≤z))=op at g6 f2 bdP eP
    refine⟨_,rfl,_,rfl,⟨_,SqL.of g6⟩,Ej (K:=K) (a:=p5) (xs:=vI op) (fun j ys H7=>Al H6 H7∧ys=vS ((op.take j).map fun p=>pick (cl.getD (p-(m:Int)).toNat []) oe)) ⟨.refl _,rfl⟩ ?_ ?_ ?_ ?_⟩
    ·rintro j ys H7 hj ⟨s7,rfl⟩
     refine⟨SqL.of (s7 _ _ g6),?_⟩
     rw[GK,AhZ,Aib]
     omega
    ·rw[Ao];omega
    ·rintro j x ys H7 hj hx2 ⟨s7,rfl⟩
     obtain⟨z,hz,rfl⟩:=JN hx2
     obtain⟨b0,b1⟩:=bdP z (Aiv hz)
     have pl:(z-(m:Int)).toNat<cl.length:=by rw[C.hn];omega
     have ec:cl.getD (z-(m:Int)).toNat []=cl[(z-(m:Int)).toNat]:=by rw[Aic,AhY pl];rfl
     have hm:=C.hm _ (Aie pl)
     have m40:=C.m40
     refine HB.no ?_
     refine⟨_,rfl,_,rfl,_,rfl,_,_,rfl,rfl,_,_,_,_,rfl,rfl,(u6.trans s7).seq hS,Bb (by omega) (RN (AhY pl)),_,rfl,cl[(z-(m:Int)).toNat],p3,oe,rfl,SqL.of (s7 _ _ (s6 _ _ g4)),by omega,by omega,(fun y hy=>by have:=bdE y hy;omega),fun H8 s8=>?_⟩
     refine CN.of hj ⟨s7.trans s8,?_⟩
     rw[Ve,Ai8,hz,Aio]
     show _=vS (_++[pick (cl.getD (z-(m:Int)).toNat []) oe])
     rw[ec]
    ·rintro ys H7 p7 ⟨s7,rfl⟩ hp7
     rw[Ao,AiP,← eP]
     exact k p7 _ ((u6.trans s7).new hp7) ((u6.trans s7).free hp7) Ae
structure TL (H:Hp) (y:Addr) (as:List Addr) (ps:List (List (List Nat))):Prop where
 h:H y=some (.lst (as.map V.ref))
 l:as.length=ps.length
 r:∀(i:Nat) (a:Addr) (u:List (List Nat)),as[i]?=some a→ps[i]?=some u→H a=some (.lst (vS u))
theorem TL.same{H H':Hp}{y:Addr}{as:List Addr}{ps:List (List (List Nat))}(N:TL H y as ps)(s:Al H H'):TL H' y as ps:=⟨s _ _ N.h,N.l,fun i a u h1 h2=>s _ _ (N.r i a u h1 h2)⟩
def Xv (H:Hp)(l:Addr):Prop:=∀ xs,H l≠some (.lst xs)
theorem Xv.of{H H1:Hp}{l:Addr}(s:Dt H H1)(h:H1 l=none):Xv H l:=fun xs e=>by
 rw[s.lst e] at h
 cases h
def Abx (K:PySem.W.Frag)(tT:Addr):Sp:=fun vs H Q _=>∃(a:Addr) (cl:List (List Nat)) (m n:Nat),vs=[.ref a]∧SqL K H a (vS cl)∧Cl cl m n∧Tb tT "layers_of.<locals>.<lambda>" H ∧
 ∀ tp H' lp n1 n2 as tss dA dB eo po ks,Dt H H'→Tb tT "layers_of.<locals>.<lambda>" H'→(∀ r∈lp::n1::n2::as,Xv H r)→n1≠n2→dA.Perm (eS cl m)→dB.Perm (pS cl)→dA.Pairwise (· ≥ ·)→dB.Pairwise (· ≥ ·)→Lay (upC cl) m n tss (Fo (Pz m n dA dB) n (m+1)) eo po→Pc tss (m+n) tss.length 0 ks→H' tp=some (.tup [.ref lp,.ref n1,.ref n2])→TL H' lp as (tss.map (pOf cl m))→H' n1=some (.lst (vI (ks.take m)))→H' n2=some (.lst (vI (ks.drop m)))→Q (.ref tp) H'
theorem Lk{tc tT:Addr}(T:Txt K mg t)(hcd:t.CT.code=.ref tc)(hCd:PySem.W.CodeHd base tc tT)(hBm:Bm mg base):Bx P w K mg base CX0 8 t.BX t.Gs ["cloth"] (Abx K tT):=by
 have Fd:Bx P w K mg base CX0 3 t.Cv t.Gg _ _:=HJ T
 have Lj:Bx P w K mg base CX0 6 t.CQ t.CT _ _:=Ph T hcd hCd hBm
 have Rz:Bx P w K mg base CX0 7 t.BL t.GP _ _:=QD T hcd hCd hBm
 have YD:Bx P w K mg base CX0 2 t.Ea t.NP _ _:=Xu T
 refine T.Ef.F.ok Ft (fun vs H Q E h=>?_) (fun cdv A outer s H vs Q E hr h=>?_)
 ·obtain⟨a,cl,m,n,rfl,_⟩:=h
  rfl
 ·obtain⟨a,cl,m,n,rfl,hS,C,tb,k⟩:=h
  have hsz:sizeLine=16777216:=sizeLine_eq
  have c2:=C.n40
  have c4:=C.m40
  refine⟨_,(Ab (Ak (i:=1) Ft.nd rfl (Or.inr rfl) (Bd (Fd.mono (by decide)) hr rfl T.measured.m T.measured.F.kp T.measured.b .nil Cz (Aa (pv 0) Ad)))
   (Ab (Ak (i:=2) Ft.nd rfl (Or.inl rfl) (Bd (Rz.mono (by decide)) hr rfl T.Gu.m T.Gu.F.kp T.Gu.b .nil Cz (Aa (pv 0) Ad)))
   (Ab (R0 (i:=3) (Et.mk (Bs:=[0,1]) (Nc:=["layer", "cloth", "size"]) rfl (by decide +kernel) (by decide +kernel) (Fl (sc0:=Ac Bl) rfl (by decide +kernel)) rfl rfl rfl (by decide +kernel) (fun k j h=>match k,h with | 0,h=>by obtain rfl:=Option.some.inj h;exact⟨_,rfl,rfl,rfl⟩ | 1,h=>by obtain rfl:=Option.some.inj h;exact⟨_,rfl,rfl,rfl⟩ | _+2,h=>by simp at h)) rfl Ft.nd rfl rfl (CG (K:=K) (Bd (Lj.mono (by decide)) hr rfl T.Gk.m T.Gk.F.kp T.Gk.b .nil Cz (Aa (pv 0) Ad))) (fun _ _ _ _ _=>.nil) (fun _ _ _ _ _=>(Bd (YD.mono (by decide)) hr rfl T.OD.m T.OD.F.kp T.OD.b .nil Cz (Aa (pv 1) (Aa (Aq (Ay (K:=K)) (pv 2) Af (fun _ _=>rfl)) (Aa (pv 0) Ad))))) rfl)
   (Ag (Bg (Nv (Aa (pv 3) (Aa (DR (DW (K:=K)) (pv 2) Hb (Ei (Aq (Ay (K:=K)) (pv 1) Af (fun _ _=>rfl)))) (Aa (DR (DW (K:=K)) (pv 2) (Ei (Aq (Ay (K:=K)) (pv 1) Af (fun _ _=>rfl))) Hb) Ad))))))))),?_⟩
  refine⟨_,rfl,a,cl,m,n,rfl,hS,C,fun p hp=>?_⟩
  have s1:Al H (upd H p (.tup [.int (m:Int),.int (n:Int)])):=.upd hp
  have gp1:(upd H p (.tup [.int (m:Int),.int (n:Int)])) p=some (.tup [.int (m:Int),.int (n:Int)]):=Ae
  generalize upd H p (.tup [.int (m:Int),.int (n:Int)])=H1 at s1 gp1 ⊢
  refine⟨_,rfl,a,cl,m,n,rfl,s1.seq hS,C,tb.same s1,fun ln H2 tss dA dB eo po ks t2 tb2 pA pB decA FQ L pc gl=>?_⟩
  have x2:Dt H H2:=s1.toT.trans t2
  have gp2:=t2.tup gp1
  refine⟨_,rfl,a,cl,m,n,rfl,x2.seq hS,C,tb2,fun ly H3 rs Sd dA' dB' eo' po' t3 tb3 pA' pB' Z3 Z4 L' N=>?_⟩
  have eA:=Fp (pA'.trans pA.symm) Z3 decA
  have eB:=Fp (pB'.trans pB.symm) Z4 FQ
  subst eA eB
  have et:=L'.uniq L
  subst et
  have few:=L.few
  have x3:Dt H H3:=x2.trans t3
  have gp3:=t3.tup gp2
  have gl3:=t3.lst gl
  have kl:=pc.len
  have rl:(rs.map V.ref).length=Sd.length:=by rw[AhZ,N.l]
  refine⟨_,rfl,⟨_,SqL.of N.h⟩,Ej (K:=K) (a:=ly) (xs:=rs.map V.ref) (fun i ys H4=>∃ as:List Addr,Al H3 H4∧ys=as.map V.ref∧as.length=i∧(∀ r∈as,Xv H r)∧∀(j:Nat) (b:Addr) (u:List (List Nat)),as[j]?=some b→(Sd.map (pOf cl m))[j]?=some u→H4 b=some (.lst (vS u)))
   ⟨[],.refl _,rfl,rfl,fun r h=>by simp at h,fun j b u h=>by simp at h⟩ ?_ ?_ ?_ ?_⟩
  ·rintro i ys H4 hi ⟨as,s4,rfl,al,_⟩
   exact⟨SqL.of (s4 _ _ N.h),by rw[AhZ];omega⟩
  ·rw[rl];omega
  ·rintro i x ys H4 hi hx ⟨as,s4,rfl,al,hW,hA⟩
   obtain⟨r,ts,rfl,hr1,hr2,hr3⟩:=(N.same s4).at hx
   have hit:i<Sd.length:=(List.getElem?_eq_some_iff.mp hr2).1
   have et:ts=Sd[i]:=Option.some.inj (hr2.symm.trans (AhY hit))
   have le1:=Abv hit
   rw[L.YC] at le1
   refine HB.no ?_
   refine⟨_,rfl,_,rfl,_,_,_,_,rfl,rfl,SqT.of (s4 _ _ gp3),Bb (by decide) rfl,_,rfl,a,r,cl,m,n,ts,rfl,(x3.trans s4.toT).seq hS,C,SqL.of hr3,(by rw[et];omega),(fun z hz=>L.mem hit (by rw[← et];exact hz)),fun l H5 s5 nl hl=>?_⟩
   refine CN.of hi ⟨as++[l],s4.trans s5,by rw[Aio];rfl,by rw[Aid,al];rfl,fun r hr=>?_,fun j b u e1 e2=>?_⟩
   ·rcases List.mem_append.mp hr with c | c
    ·exact hW r c
    ·rw[List.mem_singleton.mp c];exact Xv.of (x3.trans s4.toT) nl
   rcases AiO j as.length with c | c
   ·rw[AiG c] at e1
    exact s5 _ _ (hA j b u e1 e2)
   ·rw[AiB c] at e1
    have:j=i:=by
     have:=(List.getElem?_eq_some_iff.mp e1).1
     simp at this
     omega
    subst this
    rw[al,AiM] at e1
    cases e1
    rw[Aip,hr2] at e2
    cases e2
    exact hl
  ·rintro ys H4 lp ⟨as,s4,rfl,al,hW,hA⟩ nlp
   rw[rl] at al
   have s5:Al H4 (upd H4 lp (.lst (as.map V.ref))):=.upd nlp
   have TL5:TL (upd H4 lp (.lst (as.map V.ref))) lp as (Sd.map (pOf cl m)):=⟨Ae,by rw[AhZ];exact al,fun j b u e1 e2=>s5 _ _ (hA j b u e1 e2)⟩
   generalize upd H4 lp (.lst (as.map V.ref))=H5 at s5 TL5 ⊢
   have u5:=s4.trans s5
   have gl5:=u5 _ _ gl3
   have gp5:=u5 _ _ gp3
   refine⟨_,rfl,_,rfl,_,rfl,_,_,_,_,rfl,rfl,SqT.of gp5,Bb (by decide) rfl,_,rfl,_,_,rfl,SqL.of gl5,fun c1 nc1=>?_⟩
   have e1:Jw (vI ks) none (some (m:Int))=vI (ks.take m):=by
    have:=Vz (ns:=ks) (k:=m) (by omega)
    rwa [Aja] at this
   rw[e1]
   have s6:Al H5 (upd H5 c1 (.lst (vI (ks.take m)))):=.upd nc1
   have g6:(upd H5 c1 (.lst (vI (ks.take m)))) c1=some (.lst (vI (ks.take m))):=Ae
   generalize upd H5 c1 (.lst (vI (ks.take m)))=H6 at s6 g6 ⊢
   refine⟨_,rfl,_,rfl,_,_,_,_,rfl,rfl,SqT.of (s6 _ _ gp5),Bb (by decide) rfl,_,rfl,_,_,rfl,SqL.of (s6 _ _ gl5),fun c2 nc2=>?_⟩
   have e2:Jw (vI ks) (some (m:Int)) none=vI (ks.drop m):=by
    unfold Jw
    have q1:HT.sIx (vI ks).length 0 (some (m:Int))=m:=by rw[HT.Ox,Ao,Ai3 (by omega)]
    have q2:HT.sIx (vI ks).length (vI ks).length none=(vI ks).length:=rfl
    rw[q1,q2]
    unfold vI
    rw[← Ajb]
    exact Aiy (by rw[AhZ,AhZ,Aim];omega)
   rw[e2]
   have s7:Al H6 (upd H6 c2 (.lst (vI (ks.drop m)))):=.upd nc2
   have g7:(upd H6 c2 (.lst (vI (ks.drop m)))) c2=some (.lst (vI (ks.drop m))):=Ae
   generalize upd H6 c2 (.lst (vI (ks.drop m)))=H7 at s7 g7 ⊢
   refine⟨(by show 3≤sizeLine;decide),fun tp ntp=>?_⟩
   have s8:Al H7 (upd H7 tp (.tup [.ref lp,.ref c1,.ref c2])):=.upd ntp
   exact k tp _ lp c1 c2 as Sd _ _ eo po ks (x3.trans (((u5.trans s6).trans s7).trans s8).toT) (tb3.same (((u5.trans s6).trans s7).trans s8)) (fun r hr=>by
    rcases List.mem_cons.mp hr with e | hr
    ·rw[e];exact Xv.of (x3.trans s4.toT) nlp
    rcases List.mem_cons.mp hr with e | hr
    ·rw[e];exact Xv.of (x3.trans u5.toT) nc1
    rcases List.mem_cons.mp hr with e | hr
    ·rw[e];exact Xv.of (x3.trans (u5.trans s6).toT) nc2
    exact hW r hr) (fun e=>by rw[e,nc2] at g6;cases g6) pA' pB' Z3 Z4 L pc Ae (((TL5.same s6).same s7).same s8) (s8 _ _ (s7 _ _ g6)) (s8 _ _ g7)
theorem Aby{G:Prop}{R:Int→Prop}(main:(∀ z,R z)→G)(rest:∀ z,R z):G:=main rest
theorem AdU(c:Int){z:Int}(hz:0<z){y:Nat}(hz2:z≤(y:Int)):∃ m:Nat,1+c%z=(m:Int)∧1≤m∧m≤y:=by
 have h1:=Ajm c (show z≠0 by omega)
 have h2:=Ajn c hz
 exact⟨(1+c%z).toNat,by omega,by omega,by omega⟩
def Num (ks:List Int)(m:Nat):Prop:=ks.length=m∧∀ k∈ks,0≤k∧k<1000000
theorem Num.at{ks:List Int}{m:Nat}(h:Num ks m){i:Int}(h0:0≤i)(hi:i<m):∃ z:Int,atI (vI ks) i=some (.int z)∧0≤z∧z<1000000:=by
 have hlt:i.toNat<ks.length:=by rw[h.1];omega
 exact⟨ks[i.toNat],Bb h0 (Q4 (AhY hlt)),h.2 _ (Aie hlt)⟩
theorem Num.mod(z:Int):0≤z%1000000∧z%1000000<1000000:=⟨Ajm _ (by decide),Ajn _ (by decide)⟩
def Ac8 (K:PySem.W.Frag):Sp:=fun vs H Q _=>∃(a:Addr) (ns:List Int) (m:Nat),vs=[.ref a,.int (m:Int)]∧SqL K H a (vI ns)∧ns.length≤63∧1≤m∧m≤1000 ∧
 ∀(l:Addr) (ks:List Int) (H':Hp),Al H H'→H l=none→H' l=some (.lst (vI ks))→Num ks m→Q (.ref l) H'
theorem Sx(T:Txt K mg t):Bx P w K mg base CX0 1 t.Ck t.Jf ["script", "many"] (Ac8 K):=by
 refine T.HH.F.ok Cr (fun vs H Q E h=>?_) (fun cdv A outer s H vs Q E hr h=>?_)
 ·obtain⟨a,ns,m,rfl,_⟩:=h
  rfl
 ·obtain⟨a,ns,m,rfl,hS,hl,hm,hm2,k⟩:=h
  have hsz:sizeLine=16777216:=sizeLine_eq
  refine⟨_,(Ab (Ak (i:=2) Cr.nd rfl (Or.inl rfl) (Qz Ad))
   (Ab (Ak (i:=3) Cr.nd rfl (Or.inl rfl) Af)
   (Ab (Dp (Bc TY (An (Am (K:=K)) rfl T.Ew Dc (Aa (pv 0) Ad)) Af (Bh _))
    (Ag (Ak (i:=3) Cr.nd rfl (Or.inl rfl) (Ar CZ Af (Ar DQ (Aq (Aw (K:=K)) (pv 0) Af (fun _ _=>rfl)) Af))))
    Bj)
   (Ab (Cw PassesOwn.never rfl (BP rfl T.CW (Aa (pv 1) Ad)) (Bp (i:=4) Cr.nd rfl (Or.inl rfl))
    (Ab (Ak (i:=3) Cr.nd rfl (Or.inl rfl) (Ar DQ (Ar KJ (pv 3) Af) Af))
    (Ag (GZ (Dg (K:=K) PySem.F.plainAttrs_list PySem.F.slot_list_append PySem.F.type_list_append Fg (pv 2) (Aa (Ar DQ (Ar Ow (pv 3) Af) Af) Ad))))))
   (Ab (Cw PassesOwn.never rfl (BP rfl T.CW (Aa (An (Am (K:=K)) rfl T.Ew Dc (Aa (pv 0) Ad)) Ad)) (Bp (i:=4) Cr.nd rfl (Or.inl rfl))
    (Ag (U6 (Ar DQ (Ar CZ (Aq (Aw (K:=K)) (pv 2) (Ar DQ (pv 4) (pv 1)) (fun _ _=>rfl)) (Aq (Aw (K:=K)) (pv 0) (pv 4) (fun _ _=>rfl))) Af) (U5 (pv 2) (Ar DQ (pv 4) (pv 1)) set_list))))
   (Ag (Bg (pv 2)))))))),?_⟩
  refine⟨Aik _,fun q hq=>?_⟩
  have s1:Al H (upd H q (.lst [])):=.upd hq
  apply Aby
  ·intro rest
   refine⟨_,rfl,_,_,rfl,.inl (s1.seq hS),_,_,rfl,rfl,_,rfl,?_⟩
   refine O1 (fun h1=>?_) (fun h1=>?_)
   ·have hlt:0<ns.length:=by rw[Ao] at h1;omega
    refine⟨_,rfl,_,_,_,_,rfl,rfl,s1.seq hS,Bb (by decide) (Q4 (AhY hlt)),_,_,rfl,rfl,(by show(0:Int)<2147483646;decide),_,_,rfl,rfl,?_⟩
    obtain⟨z,ez⟩:∃ z:Int,z=(1:Int)+(ns[0]'hlt:Int)%(2147483646:Int):=⟨_,rfl⟩
    dsimp only
    rw[← ez]
    exact rest z
   ·exact rest 1
  ·intro z0
   refine⟨_,rfl,_,rfl,(by omega),(by omega),?_⟩
   rw[Air]
   refine Cp (lo:=0) (n:=m) (fun i σ H2=>∃(z:Int) (ks:List Int) (v:Option V),σ=[some (.ref a),some (.int (m:Int)),some (.ref q),some (.int z),v]∧Al H H2∧H2 q=some (.lst (vI ks))∧Num ks i)
    ⟨z0,[],none,rfl,s1,Ae,rfl,fun _ h=>absurd h (by simp)⟩ ?_ ?_
   ·rintro i σ H2 hi ⟨z,ks,v,rfl,s2,hq2,hkl⟩
    refine⟨_,rfl,_,_,rfl,rfl,.inr ⟨by decide,by decide⟩,_,_,rfl,rfl,(by show(0:Int)<2147483647;decide),?_⟩
    refine⟨_,rfl,.inl ⟨rfl,_,SqL.of hq2⟩,_,rfl,_,_,rfl,rfl,⟨by decide,by decide⟩,_,_,rfl,rfl,(by show(0:Int)<1000000;decide),_,_,_,rfl,rfl,hq2,(by rw[Ao,hkl.1];omega),?_⟩
    rw[Yo]
    refine⟨_,_,_,rfl,s2.over hq,Ae,by rw[Aid,hkl.1];rfl,fun x hx=>?_⟩
    rcases List.mem_append.mp hx with h | h
    ·exact hkl.2 x h
    ·rw[List.mem_singleton.mp h];exact Num.mod _
   ·rintro σ H2 ⟨z,ks,v,rfl,s2,hq2,hkl⟩
    refine⟨_,rfl,_,_,rfl,.inl (s2.seq hS),_,rfl,(by omega),(by rw[Ao];omega),?_⟩
    rw[Air,Ao]
    refine Cp (lo:=0) (n:=ns.length) (fun i σ H2=>∃(ks:List Int) (v:Option V),σ=[some (.ref a),some (.int (m:Int)),some (.ref q),some (.int z),v]∧Al H H2∧H2 q=some (.lst (vI ks))∧Num ks m)
     ⟨ks,v,rfl,s2,hq2,hkl⟩ ?_ ?_
    ·rintro i σ H3 hi ⟨ks,v,rfl,s3,hq3,hkl⟩
     have hix:(0+(i:Int))%(m:Int)=((i%m:Nat):Int):=by rw[Aja];omega
     have hlt:i%m<ks.length:=by rw[hkl.1];exact Nat.mod_lt _ (by omega)
     have e1:(vI ks)[((0+(i:Int))%(m:Int)).toNat]?=some (.int ks[i%m]):=by
      rw[hix,Air]
      exact Q4 (AhY hlt)
     have e2:(vI ns)[(0+(i:Int)).toNat]?=some (.int ns[i]):=by
      rw[Aja,Air]
      exact Q4 (AhY hi)
     have n1:0≤(0+(i:Int))%(m:Int):=by rw[hix];omega
     refine⟨_,rfl,_,rfl,_,rfl,_,_,rfl,rfl,(by show(0:Int)<m;omega),?_⟩
     refine⟨_,_,_,_,rfl,rfl,SqL.of hq3,Bb n1 e1,?_⟩
     refine⟨_,rfl,_,rfl,_,_,_,_,rfl,rfl,s3.seq hS,Bb (by omega) e2,?_⟩
     refine⟨_,_,rfl,rfl,?_⟩
     refine⟨_,_,rfl,rfl,(by show(0:Int)<1000000;decide),?_⟩
     refine⟨_,rfl,_,rfl,_,rfl,_,_,rfl,rfl,(by show(0:Int)<m;omega),?_⟩
     refine⟨_,_,_,_,rfl,rfl,hq3,Vf n1 (by rw[Ao,hkl.1,hix];have:=Nat.mod_lt i (show m>0 by omega);omega),?_⟩
     rw[AaM]
     refine⟨_,_,rfl,s3.over hq,Ae,by rw[Ajq];exact hkl.1,fun x hx=>?_⟩
     rcases List.mem_or_eq_of_mem_set hx with h | h
     ·exact hkl.2 x h
     ·rw[h];exact Num.mod _
    ·rintro σ H3 ⟨ks,v,rfl,s3,hq3,hkl⟩
     exact⟨_,rfl,k q ks H3 s3 hq hq3 hkl⟩
theorem AdV{u:List Nat}{c:Nat}(h:∀ d∈u,Sg d)(hc:Sg c):∀ d∈u++[c],Sg d:=fun d hd=>by
 rcases List.mem_append.mp hd with h1 | h1
 ·exact h d h1
 ·rw[List.mem_singleton.mp h1];exact hc
theorem AdW{z:Int}(h:z=0∨z=1):∃ c:Nat,atI ((".#" : Str)).cps.toList z=some c∧Sg c:=by
 rcases h with h | h <;> rw[h]
 ·exact⟨46,by decide +kernel,.inr rfl⟩
 ·exact⟨35,by decide +kernel,.inl rfl⟩
theorem Af4{c A B:Prop}[Decidable c](h1:¬c→A)(h2:c→B):if (!decide c)=true then A else B:=by
 by_cases h:c
 ·exact KQ h (h2 h)
 ·exact Zj h (h1 h)
theorem Abz{G:Prop}{R:Int→Option V→Option V→Prop}(C:Int→Prop)(main:(∀ z u v,C z→R z u v)→G)(rest:∀ z u v,C z→R z u v):G:=main rest
def Aaw (K:PySem.W.Frag):Sp:=fun vs H Q _=>∃(a:Addr) (ks:List Int) (m n y:Nat),vs=[.ref a,.int (m:Int),.int (n:Int),.int (y:Int)]∧SqL K H a (vI ks)∧Num ks 63∧1≤m∧m≤40∧1≤n∧n≤40∧1≤y ∧
 ∀(l:Addr) (cl:List (List Nat)) (H':Hp),Al H H'→H l=none→H' l=some (.lst (vS cl))→Cl cl m n→Q (.ref l) H'
theorem V0(T:Txt K mg t):Bx P w K mg base CX0 1 t.Dv t.Lb ["numbers", "wide", "high", "layered"] (Aaw K):=by
 refine T.M4.F.ok BJ (fun vs H Q E h=>?_) (fun cdv A outer s H vs Q E hr h=>?_)
 ·obtain⟨a,ks,m,n,y,rfl,_⟩:=h
  rfl
 ·obtain⟨a,ks,m,n,y,rfl,hS,hN,m1,m40,n1,n40,y1,k⟩:=h
  have hsz:sizeLine=16777216:=sizeLine_eq
  refine⟨_,(Ab (Ak (i:=4) BJ.nd rfl (Or.inl rfl) (Qz Ad))
   (Ab (Cw PassesOwn.never rfl (BP rfl T.CW (Aa (pv 2) Ad)) (Bp (i:=5) BJ.nd rfl (Or.inl rfl))
    (Ab (Ak (i:=6) BJ.nd rfl (Or.inl rfl) FW)
    (Ab (Cw PassesOwn.never rfl (BP rfl T.CW (Aa (pv 1) Ad)) (Bp (i:=7) BJ.nd rfl (Or.inl rfl))
     (Ab (Ak (i:=8) BJ.nd rfl (Or.inl rfl) (Ar CZ (Ar KJ (pv 5) Af) (pv 7)))
     (Ab (Ak (i:=9) BJ.nd rfl (Or.inl rfl) (Ar DQ (Ar Ow (Aq (Aw (K:=K)) (pv 0) (Ar CZ Af (Ar DQ (pv 8) Af)) (fun _ _=>rfl)) (Ar CZ Af (Ar KJ Af (Ar Ow (pv 8) Af)))) Af))
     (Ab (Dp (Bc TY (pv 3) Af (Bh _))
      (Ab (Ak (i:=10) BJ.nd rfl (Or.inl rfl) (Ar DQ (Ar Ow (Aq (Aw (K:=K)) (pv 0) (Ar CZ Af (Ar DQ (Ar KJ Af (pv 7)) Af)) (fun _ _=>rfl)) Af) (pv 3)))
      (Ab (Ak (i:=11) BJ.nd rfl (Or.inl rfl) (Ar DQ (Ar Ow (Aq (Aw (K:=K)) (pv 0) (Ar CZ Af (Ar DQ (Ar CZ (Ar KJ Af (pv 5)) Af) Af)) (fun _ _=>rfl)) Af) (pv 3)))
      (Ag (Dp (Bc KN (pv 10) (pv 11) (Bh _))
       (Ag (Ak (i:=9) BJ.nd rfl (Or.inl rfl) (Ff Ua rfl T.Abq Yn (Aa (JF Wm (pv 10) (pv 11) (Bh _)) Ad))))
       Bj))))
      Bj)
     (Ag (Ak (i:=6) BJ.nd rfl (Or.inl rfl) (Ar Yg (pv 6) (Aq Nx FW (pv 9) (fun _ _=>rfl)))))))))
    (Ag (GZ (Dg (K:=K) PySem.F.plainAttrs_list PySem.F.slot_list_append PySem.F.type_list_append Fg (pv 4) (Aa (pv 6) Ad)))))))
   (Ag (Bg (pv 4))))),?_⟩
  refine⟨Aik _,fun q hq=>?_⟩
  have s1:Al H (upd H q (.lst [])):=.upd hq
  refine⟨_,rfl,_,rfl,(by omega),(by omega),?_⟩
  rw[Air]
  refine Cp (lo:=0) (n:=n) (fun i σ H2=>∃(cl:List (List Nat)) (v5 v6 v7 v8 v9 v10 v11:Option V),σ=[some (.ref a),some (.int (m:Int)),some (.int (n:Int)),some (.int (y:Int)),some (.ref q),v5,v6,v7,v8,v9,v10,v11]∧Al H H2∧H2 q=some (.lst (vS cl))∧cl.length=i∧(∀ t∈cl,t.length=m∧∀ c∈t,Sg c))
   ⟨[],none,none,none,none,none,none,none,rfl,s1,Ae,rfl,fun _ h=>absurd h (by simp)⟩ ?_ ?_
  ·rintro i σ H2 hi ⟨cl,v5,v6,v7,v8,v9,v10,v11,rfl,s2,hq2,hcl,hcm⟩
   have S2:=s2.seq hS
   refine⟨_,rfl,_,rfl,(by omega),(by omega),?_⟩
   rw[Air]
   refine Cp (lo:=0) (n:=m) (fun j σ H3=>∃(u:List Nat) (v7 v8 v9 v10 v11:Option V),σ=[some (.ref a),some (.int (m:Int)),some (.int (n:Int)),some (.int (y:Int)),some (.ref q),some (.int (0+(i:Int))),some (.str (tx u)),v7,v8,v9,v10,v11]∧H3=H2∧u.length=j∧∀ c∈u,Sg c)
    ⟨[],v7,v8,v9,v10,v11,by rw[show(("" : Str))=tx [] from by decide +kernel];rfl,rfl,rfl,fun _ h=>absurd h (by simp)⟩ ?_ ?_
   ·rintro j σ H3 hj ⟨u,v7,v8,v9,v10,v11,rfl,rfl,hul,hus⟩
    refine⟨_,rfl,_,_,rfl,rfl,.inr ⟨by decide,by decide⟩,_,rfl,_,_,rfl,rfl,?_⟩
    obtain⟨x,ex⟩:∃ x:Int,x=(0+(i:Int))*40+(0+(j:Int)):=⟨_,rfl⟩
    have x0:0≤x:=by omega
    have x1:x<1700:=by omega
    dsimp only
    rw[← ex]
    have b1:=Ajm x (show(55:Int)≠0 by decide)
    have b2:=Ajn x (show(0:Int)<55 by decide)
    obtain⟨z,ez,_⟩:=hN.at (i:=8+x%55) (by omega) (by omega)
    have d0:0≤x / 55:=Int.ediv_nonneg x0 (by decide)
    have d1:x / 55≤1601600:=by omega
    refine⟨_,rfl,_,rfl,_,_,rfl,rfl,(by show(0:Int)<55;decide),_,_,rfl,rfl,_,_,_,_,rfl,rfl,S2,ez,?_⟩
    refine⟨_,rfl,_,_,rfl,rfl,⟨by decide,by decide⟩,_,_,rfl,rfl,.inl ⟨by decide,by decide⟩,_,_,rfl,rfl,_,_,rfl,rfl,⟨by omega,by omega⟩,_,_,rfl,rfl,(by show(0:Int)<2;decide),?_⟩
    have hb:z / (1+2*(x / 55))%2=0∨z / (1+2*(x / 55))%2=1:=by omega
    dsimp only
    generalize z / (1+2*(x / 55))%2=bz at hb
    apply Abz (fun z=>z=0∨z=1)
    ·intro rest
     refine⟨_,rfl,_,_,rfl,rfl,_,rfl,?_⟩
     refine O1 ?tt ?ff
     case ff =>
      intro _
      obtain⟨b',e1⟩:∃ b',b'=bz:=⟨_,rfl⟩
      obtain⟨u10,e2⟩:∃ u10,u10=v10:=⟨_,rfl⟩
      obtain⟨u11,e3⟩:∃ u11,u11=v11:=⟨_,rfl⟩
      rw[← e1,← e2,← e3]
      exact rest b' u10 u11 (by rw[e1];exact hb)
     case tt =>
      intro _
      have c1:=Ajm (3*(0+(j:Int))) (show(55:Int)≠0 by decide)
      have c2:=Ajn (3*(0+(j:Int))) (show(0:Int)<55 by decide)
      obtain⟨p,ep,_⟩:=hN.at (i:=8+3*(0+(j:Int))%55) (by omega) (by omega)
      have c3:=Ajm (3*(0+(i:Int))+1) (show(55:Int)≠0 by decide)
      have c4:=Ajn (3*(0+(i:Int))+1) (show(0:Int)<55 by decide)
      obtain⟨r,er,_⟩:=hN.at (i:=8+(3*(0+(i:Int))+1)%55) (by omega) (by omega)
      refine⟨_,rfl,_,rfl,_,_,rfl,rfl,.inl ⟨by decide,by decide⟩,_,_,rfl,rfl,(by show(0:Int)<55;decide),_,_,rfl,rfl,_,_,_,_,rfl,rfl,S2,ep,_,_,rfl,rfl,⟨by decide,by decide⟩,_,rfl,_,_,rfl,rfl,(by show(0:Int)<(y:Int);omega),?_⟩
      refine⟨_,rfl,_,rfl,_,_,rfl,rfl,.inl ⟨by decide,by decide⟩,_,_,rfl,rfl,_,_,rfl,rfl,(by show(0:Int)<55;decide),_,_,rfl,rfl,_,_,_,_,rfl,rfl,S2,er,_,_,rfl,rfl,⟨by decide,by decide⟩,_,rfl,_,_,rfl,rfl,(by show(0:Int)<(y:Int);omega),?_⟩
      refine⟨_,rfl,_,rfl,rfl,_,rfl,?_⟩
      refine Af4 (fun h=>?_) (fun h=>?_)
      ·refine⟨_,rfl,_,rfl,_,_,rfl,rfl,.inr ⟨_,rfl,?_⟩⟩
       exact rest _ _ _ (by split <;> simp)
      ·exact rest _ _ _ hb
    rintro bz u10 u11 hb
    obtain⟨c,ec,hc⟩:=AdW hb
    refine⟨_,rfl,_,rfl,_,_,_,rfl,rfl,(by decide +kernel),ec,_,_,rfl,rfl,?_,?_⟩
    ·rw[Fb,Vc,Fb,hul]
     show j+1≤sizeLine
     omega
    ·rw[Vc,Ad2]
     exact⟨_,_,_,_,_,_,rfl,rfl,by rw[Aid,hul];rfl,AdV hus hc⟩
   ·rintro σ H3 ⟨u,v7,v8,v9,v10,v11,rfl,rfl,hul,hus⟩
    refine⟨_,rfl,.inl ⟨rfl,_,SqL.of hq2⟩,_,rfl,_,_,_,rfl,rfl,hq2,(by rw[GK,hcl];omega),?_⟩
    rw[Ve]
    refine⟨_,_,_,_,_,_,_,_,rfl,s2.over hq,Ae,by rw[Aid,hcl];rfl,fun t ht=>?_⟩
    rcases List.mem_append.mp ht with h | h
    ·exact hcm t h
    ·rw[List.mem_singleton.mp h];exact⟨hul,hus⟩
  ·rintro σ H2 ⟨cl,v5,v6,v7,v8,v9,v10,v11,rfl,s2,hq2,hcl,hcm⟩
   exact⟨_,rfl,k q cl H2 s2 hq hq2 ⟨hcl,fun t ht=>(hcm t ht).1,fun t ht c hc=>(hcm t ht).2 c hc,m1,m40,n1,n40⟩⟩
theorem Ab0{bs:List Bool}{i:Nat}{b:Bool}(h:bs[i]?=some b):(vB bs)[i]?=some (.bl b):=by unfold vB;rw[Aip,h];rfl
theorem Ab1(bs:List Bool)(i:Nat)(b:Bool):(vB bs).set i (.bl b)=vB (bs.set i b):=by unfold vB;rw[List.map_set]
theorem Ab2{G:Prop}{R:List Bool→Hp→Prop}(C:List Bool→Hp→Prop)(main:(∀ x H,C x H→R x H)→G)(rest:∀ x H,C x H→R x H):G:=main rest
theorem Ab3{b:Bool}{A B:Prop}(ht:b=true→A)(hf:b=false→B):if b=true then A else B:=by cases b with | true=>exact Yj (ht rfl) | false=>exact Jc (hf rfl)
structure PcR (cl:List (List Nat)) (w h:Nat):Prop where
 hn:cl.length=h
 hm:∀ u∈cl,u.length=w∧∀ c∈u,Sg c
 w40:w≤40
 h1:1≤w+h
 h40:h≤40
theorem PcR.at{cl:List (List Nat)}{w h:Nat}(C:PcR cl w h){j k:Nat}(hj:j<h)(hk:k<w):∃(h1:j<cl.length) (h2:k<cl[j].length),atI (vS cl) (0+(j:Int))=some (.str (tx cl[j]))∧atI (tx cl[j]).cps.toList (0+(k:Int))=some cl[j][k]∧Sg cl[j][k]∧cl[j].length=w∧upC cl k j=decide (cl[j][k]=35):=by
 have h1:j<cl.length:=by rw[C.hn];exact hj
 obtain⟨m1,m2⟩:=C.hm _ (Aie h1)
 have h2:k<cl[j].length:=by omega
 have e1:cl.getD j []=cl[j]:=by rw[Aic,AhY h1];rfl
 have e2:cl[j].getD k 0=cl[j][k]:=by rw[Aic,AhY h2];rfl
 refine⟨h1,h2,Bb (by omega) (by rw[z0];exact RN (AhY h1)),Bb (by omega) (by rw[z0,Array.getElem?_toList,Q0];exact AhY h2),m2 _ (Aie h2),m1,?_⟩
 unfold upC
 rw[e1,e2,AiQ,beq_iff_eq,decide_eq_true_iff]
def YF (K:PySem.W.Frag):Sp:=fun vs H Q _=>∃(a:Addr) (cl:List (List Nat)) (m n:Nat) (f:Bool),vs=[.ref a,.int (m:Int),.bl f]∧SqL K H a (vS cl)∧PcR cl m n∧Hng cl m n∧∀ H',Al H H'→Q (.bl true) H'
theorem Sy(T:Txt K mg t):Bx P w K mg base CX0 1 t.Cm t.Jg ["piece", "wide", "forth"] (YF K):=by
 refine T.Eg.F.ok Cu (fun vs H Q E h=>?_) (fun cdv A outer s H vs Q E hr h=>?_)
 ·obtain⟨a,cl,m,n,f,rfl,_⟩:=h
  rfl
 ·obtain⟨a,cl,m,n,f,rfl,hS,C,hg,k⟩:=h
  have hsz:sizeLine=16777216:=sizeLine_eq
  have m40:=C.w40
  have n40:=C.h40
  have hlen:(vS cl).length=n:=by rw[GK,C.hn]
  refine⟨_,(Ab (Ak (i:=3) Cu.nd rfl (Or.inl rfl) (Ar CZ (pv 1) (An (Am (K:=K)) rfl T.Ew Dc (Aa (pv 0) Ad))))
   (Ab (R0 (i:=4) (Et.mk (Bs:=[]) (Nc:=["strand"]) rfl (by decide +kernel) (by decide +kernel) (Fl (sc0:=Ac Bo) rfl (by decide +kernel)) rfl rfl rfl (by decide +kernel) (fun _ _ h=>by simp at h)) rfl Cu.nd rfl rfl (BP rfl T.CW (Aa (pv 3) Ad)) (fun _ _ _ _ _=>.nil) (fun _ _ _ _ _=>(JF MK (pv 0) Af (Bh _))) rfl)
   (Ab (Cw PassesOwn.never rfl (BP rfl T.CW (Aa (pv 3) Ad)) (Bp (i:=5) Cu.nd rfl (Or.inl rfl))
    (Ag (Cw PassesOwn.never rfl (BP rfl T.CW (Aa (An (Am (K:=K)) rfl T.Ew Dc (Aa (pv 0) Ad)) Ad)) (Bp (i:=6) Cu.nd rfl (Or.inl rfl))
     (Ag (Cw PassesOwn.never rfl (BP rfl T.CW (Aa (pv 1) Ad)) (Bp (i:=7) Cu.nd rfl (Or.inl rfl))
      (Ab (Ak (i:=8) Cu.nd rfl (Or.inl rfl) (JF MK (JF MK (Aq Nx (Aq (Aw (K:=K)) (pv 0) (pv 6) (fun _ _=>rfl)) (pv 7) (fun _ _=>rfl)) FW (Bh _)) (pv 2) (Bh _)))
      (Ab (Dp (PW.pt (pw_and (Ui (K:=K) (pv 8) (fun _=>rfl)) (pw_and1 (Fj (Aq (Aw (K:=K)) (pv 4) (pv 7) (fun _ _=>rfl))))))
       (Ag (U6 Fe (U5 (pv 4) (Ar CZ (pv 1) (pv 6)) set_list)))
       Bj)
      (Ag (Dp (PW.pt (pw_and (FZ (Ui (K:=K) (pv 8) (fun _=>rfl))) (pw_and1 (Fj (Aq (Aw (K:=K)) (pv 4) (Ar CZ (pv 1) (pv 6)) (fun _ _=>rfl))))))
       (Ag (U6 Fe (U5 (pv 4) (pv 7) set_list)))
       Bj)))))))))
   (Ag (Bg (An (Aad (K:=K)) rfl T.Afm Ad6 (Aa (pv 4) Ad))))))),?_⟩
  refine⟨_,rfl,_,rfl,_,_,rfl,.inl hS,_,_,rfl,rfl,?_⟩
  rw[hlen]
  refine⟨_,rfl,_,rfl,(by omega),(by omega),?_⟩
  rw[show((m:Int)+(n:Int)).toNat=m+n by omega]
  refine RM (lo:=0) (n:=m+n) (fun i ys H2=>H2=H∧ys=vB ((List.range i).map fun x=>decide (x=0))) ⟨rfl,rfl⟩ ?_ ?_ ?_ ?_
  ·rintro i ys H2 hi ⟨rfl,rfl⟩
   rw[Yq,AhZ,Aih]
   exact AhX _
  ·omega
  ·rintro i ys H2 hi ⟨rfl,rfl⟩
   refine HB.no ?_
   refine⟨_,rfl,rfl,CN.of hi ⟨rfl,?_⟩⟩
   rw[Ajh,Aio,Aiq,AiH,← AdC]
   rw[decide_eq_decide.mpr (show(V.int (0+(i:Int))=V.int 0)↔i=0 from⟨fun z=>by have:=V.int.inj z;omega,fun z=>by rw[z];rfl⟩)]
  ·rintro ys H2 sp ⟨rfl,rfl⟩ nsp
   have s1:Al H2 (upd H2 sp (.lst (vB ((List.range (m+n)).map fun x=>decide (x=0))))):=.upd nsp
   have g1:(upd H2 sp (.lst (vB ((List.range (m+n)).map fun x=>decide (x=0))))) sp=some (.lst (vB ((List.range (m+n)).map fun x=>decide (x=0)))):=Ae
   generalize upd H2 sp (.lst (vB ((List.range (m+n)).map fun x=>decide (x=0))))=H1 at s1 g1 ⊢
   refine⟨_,rfl,_,rfl,(by omega),(by omega),?_⟩
   rw[show((m:Int)+(n:Int)).toNat=m+n by omega]
   refine Cp (lo:=0) (n:=m+n) (fun i σ H3=>∃(sn:List Bool) (v5 v6 v7 v8:Option V),σ=[some (.ref a),some (.int (m:Int)),some (.bl f),some (.int ((m:Int)+(n:Int))),some (.ref sp),v5,v6,v7,v8]∧Al H2 H3∧H3 sp=some (.lst (vB sn))∧Rt cl m n f i sn 0 0 sn)
    ⟨_,none,none,none,none,rfl,s1,g1,Rt.zero cl m n f C.h1⟩ ?_ ?_
   ·rintro i σ H3 hi ⟨sn,v5,v6,v7,v8,rfl,s3,g3,R3⟩
    refine⟨_,rfl,_,_,rfl,.inl (s3.seq hS),_,rfl,(by rw[hlen];omega),(by rw[hlen];omega),?_⟩
    rw[hlen,Air]
    refine Cp (lo:=0) (n:=n) (fun j σ H3=>∃(sn':List Bool) (v6 v7 v8:Option V),σ=[some (.ref a),some (.int (m:Int)),some (.bl f),some (.int ((m:Int)+(n:Int))),some (.ref sp),some (.int (0+(i:Int))),v6,v7,v8]∧Al H2 H3∧H3 sp=some (.lst (vB sn'))∧Rt cl m n f i sn j 0 sn')
     ⟨sn,v6,v7,v8,rfl,s3,g3,R3⟩ ?_ ?_
    ·rintro j σ H4 hj ⟨sn4,v6,v7,v8,rfl,s4,g4,R4⟩
     refine⟨_,rfl,_,rfl,(by omega),(by omega),?_⟩
     rw[Air]
     refine Cp (lo:=0) (n:=m) (fun k σ H3=>∃(sn':List Bool) (v7 v8:Option V),σ=[some (.ref a),some (.int (m:Int)),some (.bl f),some (.int ((m:Int)+(n:Int))),some (.ref sp),some (.int (0+(i:Int))),some (.int (0+(j:Int))),v7,v8]∧Al H2 H3∧H3 sp=some (.lst (vB sn'))∧Rt cl m n f i sn j k sn')
      ⟨sn4,v7,v8,rfl,s4,g4,R4⟩ ?_ ?_
     ·rintro k2 σ H5 hk ⟨sn5,v7,v8,rfl,s5,g5,R5⟩
      obtain⟨p1,p2,a1,a2,sg,lw,hu⟩:=C.at hj hk
      refine⟨_,rfl,_,rfl,_,_,_,_,rfl,rfl,s5.seq hS,a1,_,rfl,_,_,_,rfl,rfl,(by rw[Fb,lw];exact Gv m40),a2,rfl,_,rfl,rfl,?_⟩
      have hh:("#" : Str)=⟨#[35]⟩:=by decide +kernel
      have es:decide ((V.str ⟨#[cl[j][k2]]⟩:V)=V.str "#")=upC cl k2 j:=by
       rw[hu,hh]
       exact decide_eq_decide.mpr Afp
      obtain⟨al,hal⟩:∃ al:Bool,decide ((V.bl (decide ((V.str ⟨#[cl[j][k2]]⟩:V)=V.str "#")))=V.bl f)=al:=⟨_,rfl⟩
      rw[hal]
      rw[es] at hal
      have al1:al=true→upC cl k2 j=f:=fun z=>by
       rw[z] at hal
       exact V.bl.inj (of_decide_eq_true hal)
      have al0:al=false→¬upC cl k2 j=f:=fun z q=>by
       rw[z] at hal
       exact(of_decide_eq_false hal) (by rw[q])
      have gk:∀{sn:List Bool},sn.length=m+n→∃ b:Bool,sn[k2]?=some b∧atI (vB sn) (0+(k2:Int))=some (.bl b):=fun {sn} R=>by
       have:k2<sn.length:=by rw[R];omega
       exact⟨sn[k2],AhY this,Bb (by omega) (by rw[z0];exact Ab0 (AhY this))⟩
      have gj:∀{sn:List Bool},sn.length=m+n→∃ b:Bool,sn[m+j]?=some b∧atI (vB sn) ((m:Int)+(0+(j:Int)))=some (.bl b):=fun {sn} R=>by
       have:m+j<sn.length:=by rw[R];omega
       exact⟨sn[m+j],AhY this,Bb (by omega) (by rw[show((m:Int)+(0+(j:Int))).toNat=m+j by omega];exact Ab0 (AhY this))⟩
      apply Ab2 (fun s' H'=>Al H2 H'∧H' sp=some (.lst (vB s'))∧Rt cl m n f i sn j k2 s'∧(al=true→Rt cl m n f i sn j (k2+1) s'))
      ·intro rest
       obtain⟨Hx,hx⟩:∃ Hx,Hx=H5:=⟨_,rfl⟩
       obtain⟨sx,hsx⟩:∃ sx,sx=sn5:=⟨_,rfl⟩
       rw[← hx] at s5 g5 ⊢
       rw[← hsx] at g5 R5
       refine⟨_,rfl,_,rfl,?_⟩
       refine Ab3 ?tt ?ff
       case ff =>
        intro z
        exact Jc (rest sx Hx ⟨s5,g5,R5,fun q=>by rw[z] at q;cases q⟩)
       case tt =>
        intro z
        obtain⟨b,eb,ab⟩:=gk R5.len
        refine⟨_,rfl,_,rfl,_,_,_,_,rfl,rfl,SqL.of g5,ab,_,rfl,?_⟩
        refine Ab3 ?tt ?ff
        case ff =>
         intro zb
         exact rest sx Hx ⟨s5,g5,R5,fun _=>R5.AeW (al1 z) (by rw[eb,zb])⟩
        case tt =>
         intro zb
         refine⟨_,rfl,_,rfl,_,rfl,_,_,rfl,rfl,_,_,_,_,rfl,rfl,g5,Vf (by omega) (by rw[Yq,R5.len];omega),?_⟩
         rw[show((m:Int)+(0+(j:Int))).toNat=m+j by omega,Ab1]
         exact rest _ _ ⟨s5.over nsp,Ae,(R5.down hj (al1 z)).weak,fun _=>R5.down hj (al1 z)⟩
      ·rintro sn6 H6 ⟨s6,g6,R6,R6'⟩
       refine⟨_,rfl,_,rfl,?_⟩
       cases hz:al with
       | true =>
        refine Jc ?_
        exact Jc ⟨sn6,_,_,rfl,s6,g6,R6' hz⟩
       | false =>
        refine Yj ?_
        obtain⟨b,eb,ab⟩:=gj R6.len
        refine⟨_,rfl,_,rfl,_,rfl,_,_,rfl,rfl,_,_,_,_,rfl,rfl,SqL.of g6,ab,_,rfl,?_⟩
        refine Ab3 (fun zb=>?_) (fun zb=>?_)
        ·refine⟨_,rfl,_,rfl,_,_,_,_,rfl,rfl,g6,Vf (by omega) (by rw[Yq,R6.len];omega),?_⟩
         rw[show(0+(k2:Int)).toNat=k2 by omega,Ab1]
         exact⟨_,_,_,rfl,s6.over nsp,Ae,R6.up hk (al0 hz)⟩
        ·exact⟨sn6,_,_,rfl,s6,g6,R6.AeX (al0 hz) (by rw[eb,zb])⟩
     ·rintro σ H5 ⟨sn5,v7,v8,rfl,s5,g5,R5⟩
      exact⟨sn5,_,_,_,rfl,s5,g5,R5.row⟩
    ·rintro σ H4 ⟨sn4,v6,v7,v8,rfl,s4,g4,R4⟩
     exact⟨sn4,_,_,_,_,rfl,s4,g4,R4.turn hg⟩
   ·rintro σ H3 ⟨sn,v5,v6,v7,v8,rfl,s3,g3,R3⟩
    refine⟨_,rfl,_,_,rfl,SqL.of g3,?_⟩
    rw[R3.all]
    exact k H3 s3
def Ab4 (K:PySem.W.Frag):Sp:=fun vs H Q _=>∃(a:Addr) (cl:List (List Nat)) (m n:Nat),vs=[.ref a,.int (m:Int)]∧SqL K H a (vS cl)∧PcR cl m n∧Hng cl m n∧∀(H':Hp),Al H H'→Q (.bl true) H'
theorem V1(T:Txt K mg t):Bx P w K mg base CX0 2 t.Dw t.Ld ["piece", "wide"] (Ab4 K):=by
 have Nb:Bx P w K mg base CX0 1 t.Cm t.Jg _ _:=Sy T
 refine T.M5.F.ok Vu (fun vs H Q E h=>?_) (fun cdv A outer s H vs Q E hr h=>?_)
 ·obtain⟨a,cl,m,n,rfl,_⟩:=h
  rfl
 ·obtain⟨a,cl,m,n,rfl,hS,C,hg,k⟩:=h
  refine⟨_,(Ag (Bg (Aa2 (Bd (Nb.mono (by decide)) hr rfl T.Eg.m T.Eg.F.kp T.Eg.b .nil Cz (Aa (pv 0) (Aa (pv 1) (Aa Fe Ad)))) (Aa1 (Bd (Nb.mono (by decide)) hr rfl T.Eg.m T.Eg.F.kp T.Eg.b .nil Cz (Aa (pv 0) (Aa (pv 1) (Aa Fe Ad)))))))),?_⟩
  refine⟨_,rfl,_,rfl,a,cl,m,n,true,rfl,hS,C,hg,fun H1 u1=>?_⟩
  refine⟨_,rfl,?_⟩
  refine Yj ?_
  exact⟨_,rfl,_,rfl,a,cl,m,n,false,rfl,u1.seq hS,C,hg,fun H2 u2=>k H2 (u1.trans u2)⟩
theorem AaO(K:PySem.W.Frag):PySem.W.kitOne K (.type "int") (.type "bool")=some false:=rfl
theorem AdX{c A B:Prop}[Decidable c](h:c)(k:B):if (!decide c)=true then A else B:=by rw[decide_eq_true h];exact Jc k
def Ab5:Sp:=fun vs H Q _=>∃(a:Addr) (ks:List Int) (n q:Nat),vs=[.ref a,.int (n:Int),.int (q:Int)]∧H a=some (.lst (vI ks))∧ks.length=n∧(∀ z∈ks,0≤z∧z<(q:Int))∧Q (.bl true) H
theorem V2(T:Txt K mg t):Bx P w K mg base CX0 1 t.Dy t.Le ["row", "count", "many"] Ab5:=by
 refine T.Gm.F.ok O9 (fun vs H Q E h=>?_) (fun cdv A outer s H vs Q E hr h=>?_)
 ·obtain⟨a,ks,n,q,rfl,_⟩:=h
  rfl
 ·obtain⟨a,ks,n,q,rfl,ha,hl,bd,k⟩:=h
  refine⟨_,(Ab (Dp (PW.pt (pw_or (FZ (Fj (An (Ga (K:=K)) rfl T.DG Dd (Aa (pv 0) (Aa (JC (v:=.ty "list") rfl T.NZ JM rfl) Ad))))) (pw_or1 (Bc KN (An (Am (K:=K)) rfl T.Ew Dc (Aa (pv 0) Ad)) (pv 1) (Bh _)))))
    (Ag (Bg Fe))
    Bj)
   (Ab (Cw PassesOwn.never rfl (CG (K:=K) (pv 0)) (Bp (i:=3) O9.nd rfl (Or.inl rfl))
    (Ag (Dp (PW.pt (pw_or (FZ (Fj (An (Ga (K:=K)) rfl T.DG Dd (Aa (pv 3) (Aa (JC (v:=.ty "int") rfl T.Abq Yn rfl) Ad))))) (pw_or (Fj (An (Ga (K:=K)) rfl T.DG Dd (Aa (pv 3) (Aa (JC (v:=.ty "bool") rfl T.AdP Acd rfl) Ad)))) (pw_or1 (FZ (Aa7 Ae2 Wm Af (pv 3) (pv 2)))))))
     (Ag (Bg Fe))
     Bj)))
   (Ag (Bg Fe)))),?_⟩
  refine⟨_,rfl,_,_,true,.lst ha,.inl ⟨_,rfl,J5 K _⟩,_,rfl,Jc ?_⟩
  refine⟨_,rfl,_,_,rfl,.inl (SqL.of ha),_,rfl,rfl,_,rfl,?_⟩
  rw[Ao,hl]
  refine KQ rfl ?_
  refine⟨_,rfl,_,rfl,⟨_,SqL.of ha⟩,KH (K:=K) (a:=a) (xs:=vI ks) (fun i σ H2=>∃ v3,σ=[some (.ref a),some (.int (n:Int)),some (.int (q:Int)),v3]∧H2=H) ⟨none,rfl,rfl⟩ (fun i σ H2 _ ⟨_,_,e⟩=>e▸SqL.of ha) ?_ ?_⟩
  ·rintro i x σ H2 hx ⟨v3,rfl,rfl⟩
   obtain⟨z,hz,rfl⟩:=JN hx
   obtain⟨b0,b1⟩:=bd z (Aiv hz)
   refine⟨_,rfl,_,_,true,.int _,.inl ⟨_,rfl,J5 K _⟩,_,rfl,Jc ?_⟩
   refine⟨_,rfl,_,_,false,.int _,.inl ⟨_,rfl,AaO K⟩,_,rfl,Jc ?_⟩
   refine⟨_,rfl,_,_,rfl,rfl,_,rfl,?_⟩
   refine AaJ (by omega) ?_
   refine⟨_,rfl,_,_,rfl,rfl,_,rfl,?_⟩
   refine AdX (by omega) ?_
   exact⟨_,rfl,rfl⟩
  ·rintro σ H2 ⟨v3,rfl,rfl⟩
   exact k
def Aax:Sp:=fun vs H Q _=>∃(a:Addr) (cl:List (List Nat)) (m n:Nat),vs=[.ref a,.int (m:Int),.int (n:Int)]∧H a=some (.lst (vS cl))∧cl.length=n∧m≤40∧(∀ t∈cl,t.length=m∧∀ c∈t,Sg c)∧Q (.bl true) H
theorem Tz(T:Txt K mg t):Bx P w K mg base CX0 1 t.CV t.JT ["piece", "wide", "high"] Aax:=by
 refine T.JW.F.ok Je (fun vs H Q E h=>?_) (fun cdv A outer s H vs Q E hr h=>?_)
 ·obtain⟨a,cl,m,n,rfl,_⟩:=h
  rfl
 ·obtain⟨a,cl,m,n,rfl,ha,hl,m40,bd,k⟩:=h
  refine⟨_,(Ab (Dp (PW.pt (pw_or (FZ (Fj (An (Ga (K:=K)) rfl T.DG Dd (Aa (pv 0) (Aa (JC (v:=.ty "list") rfl T.NZ JM rfl) Ad))))) (pw_or1 (Bc KN (An (Am (K:=K)) rfl T.Ew Dc (Aa (pv 0) Ad)) (pv 2) (Bh _)))))
    (Ag (Bg Fe))
    Bj)
   (Ab (Cw PassesOwn.never rfl (CG (K:=K) (pv 0)) (Bp (i:=3) Je.nd rfl (Or.inl rfl))
    (Ab (Dp (PW.pt (pw_or (FZ (Fj (An (Ga (K:=K)) rfl T.DG Dd (Aa (pv 3) (Aa (JC (v:=.ty "str") rfl T.Afn Ad7 rfl) Ad))))) (pw_or1 (Bc KN (An JG rfl T.Ew Dc (Aa (pv 3) Ad)) (pv 1) (Bh _)))))
     (Ag (Bg Fe))
     Bj)
    (Ag (Cw PassesOwn.never rfl (AaG (pv 3)) (Bp (i:=4) Je.nd rfl (Or.inl rfl))
     (Ag (Dp (PW.pt (pw_and (Bc KN (pv 4) FW (Bh _)) (pw_and1 (Bc KN (pv 4) FW (Bh _)))))
      (Ag (Bg Fe))
      Bj))))))
   (Ag (Bg Fe)))),?_⟩
  refine⟨_,rfl,_,_,true,.lst ha,.inl ⟨_,rfl,J5 K _⟩,_,rfl,Jc ?_⟩
  refine⟨_,rfl,_,_,rfl,.inl (SqL.of ha),_,rfl,rfl,_,rfl,?_⟩
  rw[GK,hl]
  refine KQ rfl ?_
  refine⟨_,rfl,_,rfl,⟨_,SqL.of ha⟩,KH (K:=K) (a:=a) (xs:=vS cl) (fun i σ H2=>∃ v3 v4,σ=[some (.ref a),some (.int (m:Int)),some (.int (n:Int)),v3,v4]∧H2=H) ⟨none,none,rfl,rfl⟩ (fun i σ H2 _ ⟨_,_,_,e⟩=>e▸SqL.of ha) ?_ ?_⟩
  ·rintro i x σ H2 hx ⟨v3,v4,rfl,rfl⟩
   obtain⟨u,hu,rfl⟩:=RP hx
   obtain⟨u1,u2⟩:=bd u (Aiv hu)
   refine⟨_,rfl,_,_,true,.str _,.inl ⟨_,rfl,J5 K _⟩,_,rfl,Jc ?_⟩
   refine⟨_,rfl,_,rfl,(by rw[Fb,u1];exact Gv m40),_,rfl,rfl,_,rfl,?_⟩
   refine KQ (by rw[Fb,u1]) ?_
   refine⟨_,rfl,_,rfl,Zg (z:=tx u) (fun i σ H3=>∃ v4,σ=[some (.ref a),some (.int (m:Int)),some (.int (n:Int)),some (.str (tx u)),v4]∧H3=H2) ⟨_,rfl,rfl⟩ ?_ ?_⟩
   ·rintro i c σ H3 hc ⟨v4,rfl,rfl⟩
    rw[Q0] at hc
    have sg:=u2 c (Aiv hc)
    have hh:("#" : Str)=⟨#[35]⟩:=by decide +kernel
    have hd:("." : Str)=⟨#[46]⟩:=by decide +kernel
    rw[hh,hd]
    rcases sg with e | e
    ·rw[e]
     refine⟨_,rfl,rfl,_,rfl,?_⟩
     refine KQ rfl ?_
     exact⟨_,rfl,rfl⟩
    ·rw[e]
     refine⟨_,rfl,rfl,_,rfl,?_⟩
     refine Zj (fun q=>by cases q) ?_
     refine⟨_,rfl,rfl,_,rfl,?_⟩
     refine KQ rfl ?_
     exact⟨_,rfl,rfl⟩
   ·rintro σ H3 ⟨v4,rfl,rfl⟩
    exact⟨_,_,rfl,rfl⟩
  ·rintro σ H2 ⟨v3,v4,rfl,rfl⟩
   exact k
end
end Mine
namespace L2
open PySem PySem.Spec PyProof.Rows
inductive Jh (K:PySem.W.Frag) (H:Hp):V→V→Bool→Prop
 | tup {a b:Addr} {xs ys:List V}:SqT K H a xs→SqT K H b ys→xs.all Dq=true→ys.all Dq=true→Jh K H (.ref a) (.ref b) (eqL xs ys)
 | lst {a b:Addr} {xs ys:List V}:SqL K H a xs→SqL K H b ys→xs.all Dq=true→ys.all Dq=true→Jh K H (.ref a) (.ref b) (eqL xs ys)
 | flat {x y:V}:Dq x=true→Dq y=true→Jh K H x y (eqV x y)
theorem Jh.is{K:PySem.W.Frag}{H:Hp}{x y:V}{b c:Bool}(h:Jh K H x y b)(e:b=c):Jh K H x y c:=e▸h
section
variable {X:Cx}{K:PySem.W.Frag}{pins:List (Addr × Obj)}{σ:St}{H:Hp}{s:Shared}
theorem Xw{x:V}{a:Addr}(h:Dq x=true)(r:RelV x (.ref a)):False:=by
 cases x with
 | non=>cases r
 | bl b=>cases r
 | int i=>obtain⟨t,e⟩:=r;cases e
 | str z=>obtain⟨t,e⟩:=r;cases e
 | ref a=>cases h
 | byt b=>cases h
 | flt b=>cases h
 | ty n=>cases h
theorem Jh.uniq(I:Inv X pins σ H s){x y:V}{b c:Bool}(h:Jh X.K H x y b)(h':Jh X.K H x y c):b=c:=by
 cases h with
 | tup h1 h2 f1 f2 =>
  cases h' with
  | tup g1 g2 _ _=>rw[I.Qx h1 g1,I.Qx h2 g2]
  | lst g1 g2 _ _ =>
   obtain⟨_,_,⟨o,e,c,_⟩,_⟩:=I.tuple h1
   obtain⟨_,_,⟨o',_,e',c',_⟩,_⟩:=I.list g1
   rw[e] at e'
   cases e'
   rw[c] at c'
   exact absurd c' (by decide)
  | flat g1 _=>cases g1
 | lst h1 h2 f1 f2 =>
  cases h' with
  | lst g1 g2 _ _=>rw[I.Hl h1 g1,I.Hl h2 g2]
  | tup g1 g2 _ _ =>
   obtain⟨_,_,⟨o,e,c,_⟩,_⟩:=I.tuple g1
   obtain⟨_,_,⟨o',_,e',c',_⟩,_⟩:=I.list h1
   rw[e] at e'
   cases e'
   rw[c] at c'
   exact absurd c' (by decide)
  | flat g1 _=>cases g1
 | flat f1 f2 =>
  cases h' with
  | tup _ _ _ _=>cases f1
  | lst _ _ _ _=>cases f1
  | flat _ _=>rfl
theorem Xx{A:Around}{xs ys:List V}{its its2:List Value}(r:Vals xs its)(r2:Vals ys its2)(fx:xs.all Dq=true)(fy:ys.all Dq=true)(j:Nat)(h1:j<its.toArray.size)(h2:j<its2.toArray.size) :
  SeqAt.EqAt A s its.toArray[j] its2.toArray[j] (eqV (xs.getD j .non) (ys.getD j .non)):=by
 have l1:=r.length
 have l2:=r2.length
 have j1:j<xs.length:=by simp only [Aia] at h1;omega
 have j2:j<ys.length:=by simp only [Aia] at h2;omega
 obtain⟨w1,e1,q1⟩:=r.get (i:=j) (x:=xs[j]) (by simp[j1])
 obtain⟨w2,e2,q2⟩:=r2.get (i:=j) (x:=ys[j]) (by simp[j2])
 have g1:its.toArray[j]=w1:=by
  have:its.toArray[j]?=some w1:=by simpa using e1
  exact Option.some.inj ((Array.getElem?_eq_getElem h1).symm.trans this)
 have g2:its2.toArray[j]=w2:=by
  have:its2.toArray[j]?=some w2:=by simpa using e2
  exact Option.some.inj ((Array.getElem?_eq_getElem h2).symm.trans this)
 rw[g1,g2]
 have d1:xs.getD j .non=xs[j]:=by simp[List.getD,j1]
 have d2:ys.getD j .non=ys[j]:=by simp[List.getD,j2]
 rw[d1,d2]
 exact RJ q1 q2 (List.all_eq_true.mp fx _ (Aie j1)) (List.all_eq_true.mp fy _ (Aie j2))
theorem Ab6{A:Around}(I:Inv X pins σ H s){x y:V}{b:Bool}{v u:Value}(c:Jh X.K H x y b)(rx:RelV x v)(ry:RelV y u)(hu:A.units<cLine):SeqAt.EqAt A s v u b:=by
 cases c with
 | flat f1 f2=>exact RJ rx ry f1 f2
 | @tup a b xs ys h1 h2 f1 f2 =>
  cases rx
  cases ry
  by_cases e:a=b
  ·subst e
   rw[I.Qx h1 h2,KR f2]
   exact SeqAt.EqAt.same _
  ·refine SeqAt.EqAt.of_refs e ?_
   obtain⟨its,r,pl,_⟩:=I.tuple h1
   obtain⟨its2,r2,pl2,_⟩:=I.tuple h2
   have l1:=r.length
   have l2:=r2.length
   have key:=SeqAt.RcAt.tuples (A:=A) (s:=s) (e:=fun j=>eqV (xs.getD j .non) (ys.getD j .non)) pl pl2 hu (fun j h1 h2=>Xx r r2 f1 f2 j h1 h2)
   have e1:((List.range (min its.toArray.size its2.toArray.size)).all (fun j=>eqV (xs.getD j .non) (ys.getD j .non)) && its.toArray.size == its2.toArray.size)=eqL xs ys:=by
    simp only [Aia]
    rw[← l1,← l2]
    by_cases hl:xs.length=ys.length
    ·rw[← hl,Aj4,Jy hl]
     simp
    ·have:(xs.length == ys.length)=false:=by simp[hl]
     rw[this,Bool.and_false,Oz hl]
   rw[e1] at key
   exact key
 | @lst a b xs ys h1 h2 f1 f2 =>
  cases rx
  cases ry
  by_cases e:a=b
  ·subst e
   rw[I.Hl h1 h2,KR f2]
   exact SeqAt.EqAt.same _
  ·refine SeqAt.EqAt.of_refs e ?_
   obtain⟨its,r,pl,_⟩:=I.list h1
   obtain⟨its2,r2,pl2,_⟩:=I.list h2
   have l1:=r.length
   have l2:=r2.length
   by_cases hl:xs.length=ys.length
   ·have key:=SeqAt.RcAt.lists (A:=A) (s:=s) (e:=fun j=>eqV (xs.getD j .non) (ys.getD j .non)) pl.isList pl2.isList (by simp only [Aia];omega) hu (fun j h1 h2=>Xx r r2 f1 f2 j h1 h2)
    rw[Aia,← l1,Jy hl] at key
    exact key
   ·have key:=SeqAt.RcAt.lists_lengths (A:=A) (s:=s) pl.isList pl2.isList (by simp only [Aia,bne_iff_ne];omega) hu
    rw[Oz hl]
    exact key
theorem Ac9{x y:V}{u:Value}(h:RelV x u)(h':RelV y u)(fx:Dq x=true∨∃ a,x=.ref a)(fy:Dq y=true∨∃ a,y=.ref a):x=y:=by
 rcases fx with fx | ⟨a,rfl⟩
 ·rcases fy with fy | ⟨b,rfl⟩
  ·cases x with
   | non =>
    cases h
    cases y with
    | non=>rfl
    | bl b=>cases h'
    | int i=>obtain⟨t,e⟩:=h';cases e
    | str z=>obtain⟨t,e⟩:=h';cases e
    | _=>cases fy
   | bl b =>
    cases h
    cases y with
    | non=>cases h'
    | bl c=>cases h';rfl
    | int i=>obtain⟨t,e⟩:=h';cases e
    | str z=>obtain⟨t,e⟩:=h';cases e
    | _=>cases fy
   | int i =>
    obtain⟨t,rfl⟩:=h
    cases y with
    | non=>cases h'
    | bl c=>cases h'
    | int j=>obtain⟨t,e⟩:=h';cases e;rfl
    | str z=>obtain⟨t,e⟩:=h';cases e
    | _=>cases fy
   | str z =>
    obtain⟨t,rfl⟩:=h
    cases y with
    | non=>cases h'
    | bl c=>cases h'
    | int j=>obtain⟨t,e⟩:=h';cases e
    | str z=>obtain⟨t,e⟩:=h';cases e;rfl
    | _=>cases fy
   | _=>cases fx
  ·cases h'
   exact absurd (Xw fx h) id
 ·rcases fy with fy | ⟨b,rfl⟩
  ·cases h
   exact absurd (Xw fy h') id
  ·cases h
   cases h'
   rfl
theorem Jh.left{K:PySem.W.Frag}{H:Hp}{x y:V}{b:Bool}(h:Jh K H x y b):Dq x=true∨∃ a,x=.ref a:=by
 cases h with
 | tup _ _ _ _=>exact .inr ⟨_,rfl⟩
 | lst _ _ _ _=>exact .inr ⟨_,rfl⟩
 | flat h _=>exact .inl h
theorem AcA{xs:List V}{us:List Value}(r:Vals xs us){j:Nat}{u:Value}(h:us[j]?=some u):∃ x,xs[j]?=some x∧RelV x u:=by
 have hj:=(List.getElem?_eq_some_iff.mp h).1
 have l:=r.length
 have hx:j<xs.length:=by omega
 obtain⟨u',e,q⟩:=r.get (AhY hx)
 rw[h] at e
 cases e
 exact⟨xs[j],AhY hx,q⟩
def AhV (K:PySem.W.Frag)(no:Bool):R2:=fun x y H Q=>∃(q:Addr) (xs:List V),y=.ref q∧SqL K H q xs ∧
 (((∀(i:Nat) (z:V),xs[i]?=some z→∃ b,Jh K H z x b)∧(∃(i:Nat) (z:V),xs[i]?=some z∧Jh K H z x true)∧Q (.bl (!no)) H)∨((∀(i:Nat) (z:V),xs[i]?=some z→Jh K H z x false)∧Q (.bl no) H))
def Af5 (K:PySem.W.Frag):V→List V→Hp→VK→Prop:=fun x vs H Q=>∃(l:Addr) (xs:List V) (v:V) (j:Nat),x=.ref l∧vs=[v]∧H l=some (.lst xs)∧j<xs.length∧xs.length≤1000 ∧
 (∀(i:Nat) (z:V),xs[i]?=some z→∃ b,Jh K H z v b∧(i<j→b=false)∧(i=j→b=true))∧Q (.int (j:Int)) H
open Classical in
theorem Z5(hu:X.A.units+100<cLine)(hK:X.K=K:=by rfl):MtR X "list.index" (Af5 K):=by
 subst hK
 intro pins s σ H x vs v us Q I rx rv h
 obtain⟨l,xs,a,j,rfl,rfl,hH,hj,hz,hall,q⟩:=h
 cases rx
 obtain⟨u,rfl,ru⟩:=rv.one
 obtain⟨zz,its,n,r,hl,e⟩:=I.Wr hH
 have jl:j<its.length:=by omega
 have ja:j<its.toArray.size:=by rw[Aia];exact jl
 have hu1:X.A.in1.units<cLine:=by show X.A.units+1<cLine;omega
 let ee:Value→Bool:=fun w=>decide (∃(i:Nat) (z:V),xs[i]?=some z∧RelV z w∧Jh X.K H z a true)
 have key:∀(i:Nat) (z:V) (w:Value) (b:Bool),xs[i]?=some z→RelV z w→Jh X.K H z a b→ee w=b:=fun i z w b hz rz cz=>by
  cases b with
  | true=>exact decide_eq_true ⟨i,z,hz,rz,cz⟩
  | false =>
   refine decide_eq_false fun⟨i',z',_,rz',cz'⟩=>?_
   have:=Ac9 rz rz' cz.left cz'.left
   subst this
   exact absurd (cz.uniq I cz') Ail
 have atI:∀(i:Nat) (hi:i<its.toArray.size),∃ z b,xs[i]?=some z∧RelV z its.toArray[i]∧Jh X.K H z a b∧(i<j→b=false)∧(i=j→b=true):=fun i hi=>by
  have il:i<its.length:=by rw[Aia] at hi;exact hi
  obtain⟨z,hz,rz⟩:=AcA r (AhY il)
  obtain⟨b,cb,b1,b2⟩:=hall i z hz
  exact⟨z,b,hz,by rw[List.getElem_toArray];exact rz,cb,b1,b2⟩
 have hit:ee its.toArray[j]=true:=by
  obtain⟨z,b,hz,rz,cz,_,b2⟩:=atI j ja
  rw[key j z _ b hz rz cz,b2 rfl]
 have hn:∀ m (hm:m<its.toArray.size),m<j→ee its.toArray[m]=false:=fun m hm hmj=>by
  obtain⟨z,b,hz,rz,cz,b1,_⟩:=atI m hm
  rw[key m z _ b hz rz cz,b1 hmj]
 have he:∀ y,y∈its.toArray→SeqAt.EqAt X.A.in1 s y u (ee y):=fun y hy=>by
  obtain⟨m,hm,em⟩:=Array.getElem_of_mem hy
  obtain⟨z,b,hz,rz,cz,_,_⟩:=atI m hm
  rw[em] at rz
  rw[key m z y b hz rz cz]
  exact Ab6 I cz rz ru hu1
 refine call_meets F.slot_list_index ⟨_,e,rfl⟩ F.entry_list_index (F.args_list_index_2 _ _)
  (SeqAt.list_indexAt l its.toArray n none #[] u ee j ja (by omega) hit hn) ⟨e,he,?_⟩
 exact⟨.int _,H,I.tok _,⟨_,rfl⟩,q⟩
end
end L2
namespace Mine
open PySem L2
section
variable {P:Program}{w:World}{K:PySem.W.Frag}{mg:Str→Option Value}{base:Heap}{t:Adr}
theorem S5{z:Int}:∀{l:List Int},1≤l.count z→∃ j,j<l.length∧l[j]?=some z∧∀ i,i<j→l[i]?≠some z
 | [],h=>by simp at h
 | y::l,h=>by
  by_cases e:y=z
  ·exact⟨0,Nat.succ_pos _,by rw[e];rfl,fun i hi=>absurd hi (Nat.not_lt_zero _)⟩
  ·rw[List.count_cons_of_ne e] at h
   obtain⟨j,h1,h2,h3⟩:=S5 h
   refine⟨j+1,Nat.succ_lt_succ h1,h2,fun i hi=>?_⟩
   match i,hi with
   | 0,_=>exact fun q=>e (Option.some.inj q)
   | i+1,hi=>exact h3 i (Nat.lt_of_succ_lt_succ hi)
def Xy (es os:List Int)(z:Int)(k:Int)(j:Nat):Prop:=k=2∨(es.count z+os.count z=1∧((k=0∧es[j]?=some z)∨(k=1∧os[j]?=some z)))
theorem Z6{H:Hp}{l:List Int}{z:Int}{j:Nat}(h2:l[j]?=some z)(h3:∀ i,i<j→l[i]?≠some z)(i:Nat)(x:V)(hx:(vI l)[i]?=some x):∃ b,Jh K H x (.int z) b∧(i<j→b=false)∧(i=j→b=true):=by
 obtain⟨y,hy,rfl⟩:=JN hx
 refine⟨decide (y=z),(Jh.flat rfl rfl).is ?_,fun hi=>decide_eq_false fun e=>h3 i hi (by rw[hy,e]),fun e=>?_⟩
 ·show(y == z)=_
  rw[AiQ,beq_iff_eq,decide_eq_true_iff]
 ·rw[e,h2] at hy
  exact decide_eq_true (Option.some.inj hy).symm
def AcB:Sp:=fun vs H Q _=>∃(a b:Addr) (es os:List Int) (z:Int),vs=[.ref a,.ref b,.int z]∧H a=some (.lst (vI es))∧H b=some (.lst (vI os))∧es.length≤1000∧os.length≤1000∧∀(p:Addr) (k:Int) (j:Nat),Xy es os z k j→H p=none→Q (.ref p) (upd H p (.tup [.int k,.int (j:Int)]))
theorem Xz(T:Txt K mg t):Bx P w K mg base CX0 1 t.Ed t.NT ["ends", "picks", "name"] AcB:=by
 refine T.Hs.F.ok Xn (fun vs H Q E h=>?_) (fun cdv A outer s H vs Q E hr h=>?_)
 ·obtain⟨a,b,es,os,z,rfl,_⟩:=h
  rfl
 ·obtain⟨a,b,es,os,z,rfl,ha,hb,l1,l2,k⟩:=h
  refine⟨_,(Ab (Dp (Bc KN (Ar CZ (Dg (K:=K) PySem.F.plainAttrs_list PySem.F.slot_list_count PySem.F.type_list_count (Gb (K:=K)) (pv 0) (Aa (pv 2) Ad)) (Dg (K:=K) PySem.F.plainAttrs_list PySem.F.slot_list_count PySem.F.type_list_count (Gb (K:=K)) (pv 1) (Aa (pv 2) Ad))) Af (Bh _))
    (Ag (Bg (Nv (Aa Af (Aa Af Ad)))))
    Bj)
   (Ab (Dp (Bc MK (Dg (K:=K) PySem.F.plainAttrs_list PySem.F.slot_list_count PySem.F.type_list_count (Gb (K:=K)) (pv 0) (Aa (pv 2) Ad)) Af (Bh _))
    (Ag (Bg (Nv (Aa Af (Aa (Dg (K:=K) PySem.F.plainAttrs_list PySem.F.slot_list_index PySem.F.type_list_index (Z5 (K:=K) hr.RQ) (pv 0) (Aa (pv 2) Ad)) Ad)))))
    Bj)
   (Ag (Bg (Nv (Aa Af (Aa (Dg (K:=K) PySem.F.plainAttrs_list PySem.F.slot_list_index PySem.F.type_list_index (Z5 (K:=K) hr.RQ) (pv 1) (Aa (pv 2) Ad)) Ad))))))),?_⟩
  refine⟨_,rfl,.inl ⟨rfl,_,SqL.of ha⟩,_,rfl,a,es,z,rfl,rfl,SqL.of ha,_,rfl,.inl ⟨rfl,_,SqL.of hb⟩,_,rfl,b,os,z,rfl,rfl,SqL.of hb,_,_,rfl,rfl,rfl,_,rfl,?_⟩
  by_cases e1:es.count z+os.count z=1
  ·refine KQ (congrArg V.int (by omega)) ?_
   refine⟨_,rfl,.inl ⟨rfl,_,SqL.of ha⟩,_,rfl,a,es,z,rfl,rfl,SqL.of ha,rfl,_,rfl,?_⟩
   by_cases e2:es.count z=1
   ·refine AaJ (congrArg V.int (by omega)) ?_
    obtain⟨j,j1,j2,j3⟩:=S5 (show 1≤es.count z by omega)
    refine⟨_,rfl,.inl ⟨rfl,_,SqL.of ha⟩,_,rfl,a,vI es,.int z,j,rfl,rfl,ha,(by rw[Ao];exact j1),(by rw[Ao];exact l1),Z6 j2 j3,?_⟩
    exact⟨(by show 2≤sizeLine;decide),fun p np=>k p 0 j (.inr ⟨e1,.inl ⟨rfl,j2⟩⟩) np⟩
   ·refine QR (fun q=>e2 (by have:=V.int.inj q;omega)) ?_
    obtain⟨j,j1,j2,j3⟩:=S5 (show 1≤os.count z by omega)
    refine⟨_,rfl,.inl ⟨rfl,_,SqL.of hb⟩,_,rfl,b,vI os,.int z,j,rfl,rfl,hb,(by rw[Ao];exact j1),(by rw[Ao];exact l2),Z6 j2 j3,?_⟩
    exact⟨(by show 2≤sizeLine;decide),fun p np=>k p 1 j (.inr ⟨e1,.inr ⟨rfl,j2⟩⟩) np⟩
  ·refine Zj (fun q=>e1 (by have:=V.int.inj q;omega)) ?_
   exact⟨(by show 2≤sizeLine;decide),fun p np=>k p 2 0 (.inl rfl) np⟩
theorem Ab7(u:List Nat)(A:List Nat):pick u (A.map (cQ 0))=A.map fun e=>u.getD e 0:=by
 unfold pick
 rw[Ajr]
 refine Aj7 fun e _=>?_
 show u.getD (cQ 0 e).toNat 0=_
 unfold cQ
 rw[AiD,Air]
theorem AcC(cl:List (List Nat)){m:Nat}{A B:List Nat}(hA:∀ e∈A,e<m):pOf cl m (A.map (cQ 0)++B.map (cQ m))=B.map fun p=>A.map fun e=>(cl.getD p []).getD e 0:=by
 have q1:(A.map (cQ 0)++B.map (cQ m)).filter (fun z=>decide (z<(m:Int)))=A.map (cQ 0):=by
  rw[AiK,List.filter_eq_self.mpr,List.filter_eq_nil_iff.mpr,AiA]
  ·intro z hz q
   obtain⟨p,_,rfl⟩:=List.mem_map.mp hz
   have:=of_decide_eq_true q
   unfold cQ at this
   omega
  ·intro z hz
   obtain⟨e,he,rfl⟩:=List.mem_map.mp hz
   have:=hA e he
   refine decide_eq_true ?_
   unfold cQ
   omega
 have q2:(A.map (cQ 0)++B.map (cQ m)).filter (fun z=>decide ((m:Int)≤z))=B.map (cQ m):=by
  rw[AiK,List.filter_eq_nil_iff.mpr,List.filter_eq_self.mpr,AiW]
  ·intro z hz
   obtain⟨p,_,rfl⟩:=List.mem_map.mp hz
   refine decide_eq_true ?_
   unfold cQ
   omega
  ·intro z hz q
   obtain⟨e,he,rfl⟩:=List.mem_map.mp hz
   have:=hA e he
   have:=of_decide_eq_true q
   unfold cQ at this
   omega
 unfold pOf
 rw[q1,q2,Ajr]
 refine Aj7 fun p _=>?_
 show pick (cl.getD (cQ m p-(m:Int)).toNat []) (A.map (cQ 0))=_
 rw[Ab7,show(cQ m p-(m:Int)).toNat=p by unfold cQ;omega]
def FT (l:List Int)(i:Nat):List Nat:=(List.range l.length).filter fun k=>decide (l.getD k 0=(i:Int))
theorem S6{l:List Int}{z:Int}:∀ k,k≤l.length→(l.take k).count z=((List.range k).filter fun x=>decide (l.getD x 0=z)).length
 | 0,_=>by simp
 | k+1,h=>by
  have ih:=S6 (l:=l) (z:=z) k (by omega)
  have e:l.getD k 0=l[k]:=by rw[Aic,AhY (by omega)];rfl
  rw[Aj9 (by omega),List.count_append,Ajh,AiK,Aid,ih]
  congr 1
  rw[Ajj,Ajx,List.count_singleton,e]
  by_cases c:l[k]=z
  ·rw[if_pos (decide_eq_true c),c,if_pos (beq_self_eq_true z)];rfl
  ·rw[if_neg (by rw[beq_iff_eq];exact c),if_neg (by rw[decide_eq_true_iff];exact c)];rfl
theorem Fz(l:List Int)(i:Nat):(FT l i).length=l.count (i:Int):=by
 have:=S6 (l:=l) (z:=(i:Int)) l.length (AhX _)
 rw[AiP] at this
 exact this.symm
theorem AdY{p:Nat→Bool}{k N:Nat}(hk:k<N)(hp:p k=true):((List.range N).filter p)[((List.range k).filter p).length]?=some k:=by
 have e:List.range N=List.range k++(List.range (N-k)).map (k+·):=by
  have:=List.range_add (n:=k) (m:=N-k)
  rw[show k+(N-k)=N by omega] at this
  exact this
 rw[e,AiK,AiB (AhX _),AiM]
 obtain⟨d,hd⟩:∃ d,N-k=d+1:=⟨N-k-1,by omega⟩
 rw[hd,List.range_succ_eq_map,Aiq,Ajj]
 rw[if_pos (by rw[AiZ];exact hp)]
 rfl
theorem M6{l:List Int}{i k:Nat}(hk:k<l.length)(e:l.getD k 0=(i:Int)):(FT l i)[(l.take k).count (i:Int)]?=some k:=by
 rw[S6 k (by omega)]
 exact AdY hk (decide_eq_true e)
theorem Eh{l:List Int}{i k:Nat}:k∈FT l i↔k<l.length∧l.getD k 0=(i:Int):=by
 unfold FT
 rw[AiF,List.mem_range,decide_eq_true_iff]
theorem V3(l:List Int)(i:Nat):(FT l i).Pairwise (·<·):=List.Pairwise.filter _ List.pairwise_lt_range
theorem Z7:∀{l l':List Int},l.Pairwise (·<·)→l'.Pairwise (·<·)→(∀ z,z∈l↔z∈l')→l=l'
 | [],[],_,_,_=>rfl
 | [],b::l',_,_,h=>absurd ((h b).mpr Aii) (by simp)
 | a::l,[],_,_,h=>absurd ((h a).mp Aii) (by simp)
 | a::l,b::l',p,p',h=>by
  obtain⟨p1,p2⟩:=List.pairwise_cons.mp p
  obtain⟨q1,q2⟩:=List.pairwise_cons.mp p'
  have e:a=b:=by
   rcases List.mem_cons.mp ((h a).mp Aii) with e | e
   ·exact e
   ·rcases List.mem_cons.mp ((h b).mpr Aii) with e' | e'
    ·exact e'.symm
    ·have:=p1 b e';have:=q1 a e;omega
  subst e
  congr 1
  refine Z7 p2 q2 fun z=>⟨fun hz=>?_,fun hz=>?_⟩
  ·rcases List.mem_cons.mp ((h z).mp (Aij _ hz)) with e | e
   ·rw[e] at hz;have:=p1 _ hz;omega
   ·exact e
  ·rcases List.mem_cons.mp ((h z).mpr (Aij _ hz)) with e | e
   ·rw[e] at hz;have:=q1 _ hz;omega
   ·exact e
variable {up:Nat→Nat→Bool}{m n:Nat}{tss:List (List Int)}{zs:List (Nat × Nat)}{eo po:List Nat}{ks:List Int}
theorem Pc.in(L:Lay up m n tss zs eo po)(pc:Pc tss (m+n) tss.length 0 ks){x:Nat}(hx:x<m+n){i:Nat}(hi:i<tss.length):((x:Nat):Int)∈tss[i]↔ks.getD x 0=(i:Int):=by
 have hk:x<ks.length:=by rw[pc.len];exact hx
 have e:ks.getD x 0=ks[x]:=by rw[Aic,AhY hk];rfl
 have q:∀{i:Nat} (hi:i<tss.length),((x:Nat):Int)∈tss[i]→ks.getD x 0=(i:Int):=fun {i} hi h=>by
  have:=pc.old i _ hi hi h
  rw[Air,AhY hk] at this
  rw[e];exact Option.some.inj this
 refine⟨q hi,fun h=>?_⟩
 obtain⟨i',hi',h'⟩:=L.has hx
 have:=q hi' h'
 have:i=i':=by omega
 subst this
 exact h'
theorem Pc.bd(L:Lay up m n tss zs eo po)(pc:Pc tss (m+n) tss.length 0 ks){x:Nat}(hx:x<m+n):∃ i,i<tss.length∧ks.getD x 0=(i:Int):=by
 obtain⟨i,hi,h⟩:=L.has hx
 exact⟨i,hi,(pc.in L hx hi).mp h⟩
theorem Pc.own(L:Lay up m n tss zs eo po)(pc:Pc tss (m+n) tss.length 0 ks){i:Nat}(hi:i<tss.length):tss[i]=(FT (ks.take m) i).map (cQ 0)++(FT (ks.drop m) i).map (cQ m):=by
 have kl:=pc.len
 have tl:(ks.take m).length=m:=by rw[Aib];omega
 have dl:(ks.drop m).length=n:=by rw[Aim];omega
 refine Z7 (L.inc hi) ?_ fun z=>?_
 ·rw[List.pairwise_append]
  refine⟨List.pairwise_map.mpr ((V3 _ _).imp fun {x y} h=>by unfold cQ;omega),List.pairwise_map.mpr ((V3 _ _).imp fun {x y} h=>by unfold cQ;omega),fun x hx y hy=>?_⟩
  obtain⟨e,he,rfl⟩:=List.mem_map.mp hx
  obtain⟨p,hp,rfl⟩:=List.mem_map.mp hy
  have:=(Eh.mp he).1
  unfold cQ
  omega
 ·have g1:∀ k,k<m→(ks.take m).getD k 0=ks.getD k 0:=fun k hk=>by rw[Aic,Aic,AiR hk]
  have g2:∀ p,(ks.drop m).getD p 0=ks.getD (m+p) 0:=fun p=>by rw[Aic,Aic,Ajl]
  constructor
  ·intro hz
   obtain⟨z0,z1⟩:=L.mem hi hz
   obtain⟨x,rfl⟩:∃ x:Nat,z=(x:Int):=⟨z.toNat,by omega⟩
   have:=(pc.in L (by omega) hi).mp hz
   by_cases c:x<m
   ·exact Ajz _ (List.mem_map.mpr ⟨x,Eh.mpr ⟨by omega,by rw[g1 x c];exact this⟩,by unfold cQ;omega⟩)
   ·refine Ait _ (List.mem_map.mpr ⟨x-m,Eh.mpr ⟨by omega,?_⟩,by unfold cQ;omega⟩)
    rw[g2,show m+(x-m)=x by omega];exact this
  ·intro hz
   rcases List.mem_append.mp hz with hz | hz
   ·obtain⟨e,he,rfl⟩:=List.mem_map.mp hz
    obtain⟨h1,h2⟩:=Eh.mp he
    rw[g1 e (by omega)] at h2
    have:=(pc.in L (by omega) hi).mpr h2
    unfold cQ
    rw[AiD];exact this
   ·obtain⟨p,hp,rfl⟩:=List.mem_map.mp hz
    obtain⟨h1,h2⟩:=Eh.mp hp
    rw[g2 p] at h2
    exact(pc.in L (by omega) hi).mpr h2
theorem Pc.piece(L:Lay up m n tss zs eo po)(pc:Pc tss (m+n) tss.length 0 ks)(cl:List (List Nat)){i:Nat}(hi:i<tss.length):pOf cl m tss[i]=(FT (ks.drop m) i).map fun p=>(FT (ks.take m) i).map fun e=>(cl.getD p []).getD e 0:=by
 rw[pc.own L hi]
 refine AcC cl fun e he=>?_
 have:=(Eh.mp he).1
 rw[Aib] at this
 omega
end
section
variable {P:Program}{w:World}{K:PySem.W.Frag}{mg:Str→Option Value}{base:Heap}{t:Adr}
variable {up:Nat→Nat→Bool}{m n:Nat}{tss:List (List Int)}{zs:List (Nat × Nat)}{eo po:List Nat}{ks:List Int}
theorem Pc.pU(L:Lay up m n tss zs eo po)(pc:Pc tss (m+n) tss.length 0 ks)(cl:List (List Nat)){i:Nat}(hi:i<tss.length){e p:Nat}(he:e<m)(hp:p<n)(h1:ks.getD e 0=(i:Int))(h2:ks.getD (m+p) 0=(i:Int)) :
  upC (pOf cl m tss[i]) (((ks.take m).take e).count (i:Int)) (((ks.drop m).take p).count (i:Int))=upC cl e p:=by
 have kl:=pc.len
 have g1:(ks.take m).getD e 0=ks.getD e 0:=by rw[Aic,Aic,AiR he]
 have g2:(ks.drop m).getD p 0=ks.getD (m+p) 0:=by rw[Aic,Aic,Ajl]
 have a1:=M6 (l:=ks.take m) (i:=i) (k:=e) (by rw[Aib];omega) (g1.trans h1)
 have a2:=M6 (l:=ks.drop m) (i:=i) (k:=p) (by rw[Aim];omega) (g2.trans h2)
 rw[pc.piece L cl hi]
 have q2:((FT (ks.drop m) i).map fun p=>(FT (ks.take m) i).map fun e=>(cl.getD p []).getD e 0).getD (((ks.drop m).take p).count (i:Int)) []=(FT (ks.take m) i).map fun e=>(cl.getD p []).getD e 0:=by
  rw[Aic,Aip,a2];rfl
 have q1:((FT (ks.take m) i).map fun e=>(cl.getD p []).getD e 0).getD (((ks.take m).take e).count (i:Int)) 0=(cl.getD p []).getD e 0:=by
  rw[Aic,Aip,a1];rfl
 unfold upC
 rw[q2,q1]
theorem V4(m:Nat):∀ A:List Nat,cE m A+cP m A=A.length
 | []=>rfl
 | x::A=>by
  have ih:=V4 m A
  unfold cE cP at ih ⊢
  rw[Ajj,Ajj,Ai2]
  by_cases h:x<m
  ·rw[if_pos (decide_eq_true h),if_neg (by rw[decide_eq_true h];decide),Ai2];omega
  ·rw[if_neg (by rw[decide_eq_true_iff];exact h),if_pos (by rw[decide_eq_false h];rfl),Ai2];omega
def loc (m:Nat)(ks:List Int)(i g:Nat):Nat:=if g<m then ((ks.take m).take g).count (i:Int) else (ks.take m).count (i:Int)+((ks.drop m).take (g-m)).count (i:Int)
theorem Z8{l:List Int}{i x:Nat}(hx:x<l.count (i:Int)):∃ k,k<l.length∧l.getD k 0=(i:Int)∧(l.take k).count (i:Int)=x:=by
 rw[← Fz] at hx
 obtain⟨h1,h2⟩:=Eh.mp (Aie hx)
 refine⟨(FT l i)[x],h1,h2,?_⟩
 have h3:=M6 h1 h2
 obtain⟨h4,h5⟩:=List.getElem?_eq_some_iff.mp h3
 have up:=V3 l i
 rcases Nat.lt_trichotomy ((l.take (FT l i)[x]).count (i:Int)) x with c | c | c
 ·have:=List.pairwise_iff_getElem.mp up _ _ h4 hx c;omega
 ·exact c
 ·have:=List.pairwise_iff_getElem.mp up _ _ hx h4 c;omega
theorem Pc.hng(T:Tpz up m n zs eo po)(L:Lay up m n tss zs eo po)(pc:Pc tss (m+n) tss.length 0 ks){cl:List (List Nat)}(hu:up=upC cl){i:Nat}(hi:i<tss.length):Hng (pOf cl m tss[i]) ((ks.take m).count (i:Int)) ((ks.drop m).count (i:Int)):=by
 intro S c x y hx hy sx
 refine Classical.byContradiction fun ny=>?_
 have kl:=pc.len
 have bd:∀ g,g<m+n→∃ j,j<tss.length∧ks.getD g 0=(j:Int):=fun g hg=>pc.bd L hg
 have g1:∀ k,k<m→(ks.take m).getD k 0=ks.getD k 0:=fun k hk=>by rw[Aic,Aic,AiR hk]
 have g2:∀ p,(ks.drop m).getD p 0=ks.getD (m+p) 0:=fun p=>by rw[Aic,Aic,Ajl]
 have back:∀ x,x<(ks.take m).count (i:Int)+(ks.drop m).count (i:Int)→∃ g,g<m+n∧ks.getD g 0=(i:Int)∧loc m ks i g=x:=fun x hx=>by
  by_cases h:x<(ks.take m).count (i:Int)
  ·obtain⟨k,k1,k2,k3⟩:=Z8 h
   rw[Aib] at k1
   have km:k<m:=by omega
   refine⟨k,by omega,by rw[← g1 k km];exact k2,?_⟩
   unfold loc
   rw[if_pos km];exact k3
  ·obtain⟨k,k1,k2,k3⟩:=Z8 (l:=ks.drop m) (i:=i) (x:=x-(ks.take m).count (i:Int)) (by omega)
   rw[Aim] at k1
   refine⟨m+k,by omega,by rw[← g2 k];exact k2,?_⟩
   unfold loc
   rw[if_neg (by omega),Ajk,k3];omega
 let p:Nat→Prop:=fun g=>ks.getD g 0<(i:Int)∨(ks.getD g 0=(i:Int)∧S (loc m ks i g))
 have hpd:DecidablePred p:=fun g=>Classical.propDecidable _
 let X:=(List.range (m+n)).filter fun g=>decide (p g)
 have mX:∀ g,g∈X↔g<m+n∧p g:=fun g=>by
  show g∈(List.range (m+n)).filter _↔_
  rw[AiF,List.mem_range,decide_eq_true_iff]
 have ndX:X.Nodup:=List.nodup_range.filter _
 have ltl:∀{l:List Int} {k:Nat},k<l.length→l.getD k 0=(i:Int)→(l.take k).count (i:Int)<l.count (i:Int):=fun {l k} h1 h2=>by
  have:=(List.getElem?_eq_some_iff.mp (M6 h1 h2)).1
  rw[Fz] at this
  exact this
 have clX:Clo (ovU up m n) X:=by
  intro u v hv o
  obtain⟨v1,v2⟩:=(mX v).mp hv
  have ul:u<m+n:=by rcases o with o | o <;> omega
  obtain⟨ju,hju,eu⟩:=bd u ul
  obtain⟨jv,hjv,ev⟩:=bd v v1
  have hvi:jv≤i:=by rcases v2 with h | h <;> omega
  have le:ju≤jv:=by
   rcases o with ⟨o1,o2,o3,o4⟩ | ⟨o1,o2,o3,o4⟩
   ·have:=(L.cross hju hjv (k:=u) (p:=v-m) o1 ((pc.in L ul hju).mpr eu) (by rw[show m+(v-m)=v by omega];exact(pc.in L v1 hjv).mpr ev)).2
    refine Classical.byContradiction fun n=>?_
    rw[this (by omega)] at o4;cases o4
   ·have:=(L.cross hjv hju (k:=v) (p:=u-m) o3 ((pc.in L v1 hjv).mpr ev) (by rw[show m+(u-m)=u by omega];exact(pc.in L ul hju).mpr eu)).1
    refine Classical.byContradiction fun n=>?_
    rw[this (by omega)] at o4;cases o4
  refine(mX u).mpr ⟨ul,?_⟩
  by_cases e:ju<i
  ·exact .inl (by omega)
  ·have eui:ks.getD u 0=(i:Int):=by omega
   have evi:ks.getD v 0=(i:Int):=by omega
   have sv:S (loc m ks i v):=by
    rcases v2 with h | h
    ·omega
    ·exact h.2
   refine .inr ⟨eui,c _ _ ?_ sv⟩
   unfold loc
   rcases o with ⟨o1,o2,o3,o4⟩ | ⟨o1,o2,o3,o4⟩
   ·rw[if_pos o1,if_neg (by omega)]
    refine .inl ⟨ltl (by rw[Aib];omega) (by rw[g1 u o1];exact eui),by omega,?_,?_⟩
    ·have:=ltl (l:=ks.drop m) (k:=v-m) (by rw[Aim];omega) (by rw[g2,show m+(v-m)=v by omega];exact evi)
     omega
    ·rw[Ajk,pc.pU L cl hi o1 (by omega) eui (by rw[show m+(v-m)=v by omega];exact evi),← hu];exact o4
   ·rw[if_neg (by omega),if_pos o3]
    refine .inr ⟨by omega,?_,ltl (by rw[Aib];omega) (by rw[g1 v o3];exact evi),?_⟩
    ·have:=ltl (l:=ks.drop m) (k:=u-m) (by rw[Aim];omega) (by rw[g2,show m+(u-m)=u by omega];exact eui)
     omega
    ·rw[Ajk,pc.pU L cl hi o3 (by omega) evi (by rw[show m+(u-m)=u by omega];exact eui),← hu];exact o4
 have hz:=T.top ndX (fun g hg=>((mX g).mp hg).1) clX
 obtain⟨gx,x1,x2,x3⟩:=back x hx
 obtain⟨gy,y1,y2,y3⟩:=back y hy
 have il:i<zs.length:=by have:=L.len;omega
 have il':i+1<zs.length:=by have:=L.len;omega
 have ea:=AhY il
 have eb:=AhY il'
 obtain⟨A1,A2,A3,A4,A5⟩:=T.X (s:=zs[i].1) (t:=zs[i].2) (Aie il)
 obtain⟨B1,B2,B3,B4,B5⟩:=T.X (s:=zs[i+1].1) (t:=zs[i+1].2) (Aie il')
 have lay:∀ g,g<m+n→∃ j,∃ hj:j<tss.length,((g:Nat):Int)∈tss[j]∧ks.getD g 0=(j:Int):=fun g hg=>by
  obtain⟨j,hj,e⟩:=bd g hg
  exact⟨j,hj,(pc.in L hg hj).mpr e,e⟩
 have Af6:∀ g∈J4 m eo po zs[i].1 zs[i].2,g∈X:=fun g hg=>by
  obtain⟨j,hj,q1,q2⟩:=lay g (A2 g hg)
  have:=(L.inX hj ea q1).mp hg
  exact(mX g).mpr ⟨A2 g hg,.inl (by omega)⟩
 have subB:∀ g∈X,g∈J4 m eo po zs[i+1].1 zs[i+1].2:=fun g hg=>by
  obtain⟨h1,h2⟩:=(mX g).mp hg
  obtain⟨j,hj,q1,q2⟩:=lay g h1
  refine(L.inX hj eb q1).mpr ?_
  rcases h2 with h | h <;> omega
 have inx:gx∈X:=(mX gx).mpr ⟨x1,.inr ⟨x2,by rw[x3];exact sx⟩⟩
 have niy:¬gy∈X:=fun h=>by
  rcases((mX gy).mp h).2 with h | h
  ·omega
  ·exact ny (y3▸h.2)
 have nix:¬gx∈J4 m eo po zs[i].1 zs[i].2:=fun h=>by
  have:=(L.inX hi ea ((pc.in L x1 hi).mpr x2)).mp h
  omega
 have iny:gy∈J4 m eo po zs[i+1].1 zs[i+1].2:=(L.inX hi eb ((pc.in L y1 hi).mpr y2)).mpr (by omega)
 have more:∀{A B:List Nat} {g:Nat},A.Nodup→(∀ x∈A,x∈B)→g∈B→¬g∈A→A.length<B.length:=fun {A B g} nd sub h1 h2=>by
  have:=Gd (g::A) B (List.nodup_cons.mpr ⟨h2,nd⟩) fun x hx=>by
   rcases List.mem_cons.mp hx with e | e
   ·rw[e];exact h1
   ·exact sub x e
  rw[Ai2] at this;omega
 obtain⟨m1,m2⟩:=Zr (m:=m) A1 Af6
 obtain⟨m3,m4⟩:=Zr (m:=m) ndX subB
 have t1:=more A1 Af6 inx nix
 have t2:=more ndX subB iny niy
 have r1:=V4 m (J4 m eo po zs[i].1 zs[i].2)
 have r2:=V4 m X
 have r3:=V4 m (J4 m eo po zs[i+1].1 zs[i+1].2)
 have l1:lexLt zs[i] (cE m X,cP m X):=by unfold lexLt;dsimp only;omega
 have l2:lexLt (cE m X,cP m X) zs[i+1]:=by unfold lexLt;dsimp only;omega
 have:=hz
 rw[← Ai0 (i+1) zs,AiT] at this
 rcases this with h | h
 ·exact((Uo T.lex ea _).mp h).2 l1
 ·exact((Uq T.lex eb _).mp h).2 l2
end
section
variable {P:Program}{w:World}{K:PySem.W.Frag}{mg:Str→Option Value}{base:Heap}{t:Adr}
theorem Ab8{G:Prop}{R:Option V→Option V→Hp→Prop}(C:Hp→Prop)(main:(∀ u v H,C H→R u v H)→G)(rest:∀ u v H,C H→R u v H):G:=main rest
theorem TL.get{H:Hp}{y:Addr}{as:List Addr}{ps:List (List (List Nat))}(N:TL H y as ps){i:Nat}(hi:i<ps.length):∃ a,(as.map V.ref)[i]?=some (.ref a)∧H a=some (.lst (vS ps[i])):=by
 have ha:i<as.length:=by rw[N.l];exact hi
 exact⟨as[i],by rw[Aip,AhY ha];rfl,N.r i _ _ (AhY ha) (AhY hi)⟩
def AcD (K:PySem.W.Frag):Sp:=fun vs H Q _=>∃(g lp n1 n2:Addr) (cl:List (List Nat)) (m n:Nat) (tss:List (List Int)) (zs:List (Nat × Nat)) (eo po:List Nat) (ks:List Int) (as:List Addr),vs=[.ref g,.ref lp,.ref n1,.ref n2]∧SqL K H g (vS cl)∧Cl cl m n∧TL H lp as (tss.map (pOf cl m))∧H n1=some (.lst (vI (ks.take m)))∧H n2=some (.lst (vI (ks.drop m)))∧Lay (upC cl) m n tss zs eo po∧Pc tss (m+n) tss.length 0 ks ∧
 ∀ H',Al H H'→Q (.bl true) H'
theorem X3(T:Txt K mg t):Bx P w K mg base CX0 1 t.Eb t.NQ ["given", "pieces", "ends", "picks"] (AcD K):=by
 refine T.OJ.F.ok DY (fun vs H Q E h=>?_) (fun cdv A outer s H vs Q E hr h=>?_)
 ·obtain⟨g,lp,n1,n2,cl,m,n,tss,zs,eo,po,ks,as,rfl,_⟩:=h
  rfl
 ·obtain⟨g,lp,n1,n2,cl,m,n,tss,zs,eo,po,ks,as,rfl,hS,C,N,h1,h2,L,pc,kq⟩:=h
  have hsz:sizeLine=16777216:=sizeLine_eq
  have m40:=C.m40
  have n40:=C.n40
  have kl:=pc.len
  have el:(ks.take m).length=m:=by rw[Aib];omega
  have ol:(ks.drop m).length=n:=by rw[Aim];omega
  refine⟨_,(Ab (Cw PassesOwn.never rfl (BP rfl T.CW (Aa (An (Am (K:=K)) rfl T.Ew Dc (Aa (pv 3) Ad)) Ad)) (Bp (i:=4) DY.nd rfl (Or.inl rfl))
    (Ag (Cw PassesOwn.never rfl (BP rfl T.CW (Aa (An (Am (K:=K)) rfl T.Ew Dc (Aa (pv 2) Ad)) Ad)) (Bp (i:=5) DY.nd rfl (Or.inl rfl))
     (Ab (Dp (Bc MK (Aq (Aw (K:=K)) (pv 2) (pv 5) (fun _ _=>rfl)) (Aq (Aw (K:=K)) (pv 3) (pv 4) (fun _ _=>rfl)) (Bh _))
      (Ab (Ak (i:=6) DY.nd rfl (Or.inl rfl) (Aq (Aw (K:=K)) (pv 2) (pv 5) (fun _ _=>rfl)))
      (Ab (Ak (i:=7) DY.nd rfl (Or.inl rfl) (Dg (K:=K) PySem.F.plainAttrs_list PySem.F.slot_list_count PySem.F.type_list_count (Gb (K:=K)) (DR (DW (K:=K)) (pv 2) Hb (Ei (pv 5))) (Aa (pv 6) Ad)))
      (Ag (Ak (i:=8) DY.nd rfl (Or.inl rfl) (Aq Nx (Aq (Aw (K:=K)) (Aq (Aw (K:=K)) (pv 1) (pv 6) (fun _ _=>rfl)) (Dg (K:=K) PySem.F.plainAttrs_list PySem.F.slot_list_count PySem.F.type_list_count (Gb (K:=K)) (DR (DW (K:=K)) (pv 3) Hb (Ei (pv 4))) (Aa (pv 6) Ad)) (fun _ _=>rfl)) (pv 7) (fun _ _=>rfl))))))
      (Ag (Ak (i:=8) DY.nd rfl (Or.inl rfl) (Aq Nx FW (Ff Ua rfl T.Abq Yn (Aa (JF TY (Aq (Aw (K:=K)) (pv 2) (pv 5) (fun _ _=>rfl)) (Aq (Aw (K:=K)) (pv 3) (pv 4) (fun _ _=>rfl)) (Bh _)) Ad)) (fun _ _=>rfl)))))
     (Ag (Dp (Bc KN (Aq Nx (Aq (Aw (K:=K)) (pv 0) (pv 4) (fun _ _=>rfl)) (pv 5) (fun _ _=>rfl)) (pv 8) (Bh _))
      (Ag (Bg Fe))
      Bj))))))
   (Ag (Bg Fe))),?_⟩
  refine⟨_,rfl,_,_,rfl,.inl (SqL.of h2),_,rfl,(by rw[Ao,ol];omega),(by rw[Ao,ol];omega),?_⟩
  rw[Ao,ol,Air]
  refine Cp (lo:=0) (n:=n) (fun j σ H2=>∃(v4 v5 v6 v7 v8:Option V),σ=[some (.ref g),some (.ref lp),some (.ref n1),some (.ref n2),v4,v5,v6,v7,v8]∧Al H H2) ⟨none,none,none,none,none,rfl,.refl _⟩ ?_ ?_
  ·rintro j σ H2 hj ⟨v4,v5,v6,v7,v8,rfl,s2⟩
   refine⟨_,rfl,_,_,rfl,.inl (SqL.of (s2 _ _ h1)),_,rfl,(by rw[Ao,el];omega),(by rw[Ao,el];omega),?_⟩
   rw[Ao,el,Air]
   refine Cp (lo:=0) (n:=m) (fun k σ H3=>∃(v5 v6 v7 v8:Option V),σ=[some (.ref g),some (.ref lp),some (.ref n1),some (.ref n2),some (.int (0+(j:Int))),v5,v6,v7,v8]∧Al H H3) ⟨v5,v6,v7,v8,rfl,s2⟩ ?_ ?_
   ·rintro k σ H3 hk ⟨v5,v6,v7,v8,rfl,s3⟩
    have jl:j<cl.length:=by rw[C.hn];exact hj
    have cm:=C.hm _ (Aie jl)
    have kk:k<cl[j].length:=by omega
    obtain⟨ie,hie,ee⟩:=pc.bd L (x:=k) (by omega)
    obtain⟨ip,hip,ep⟩:=pc.bd L (x:=m+j) (by omega)
    have a1:atI (vI (ks.take m)) (0+(k:Int))=some (.int (ie:Int)):=by
     refine Bb (by omega) ?_
     rw[z0]
     refine Q4 ?_
     rw[AiR hk,AhY (by omega),← ee,Aic,AhY (by omega)];rfl
    have a2:atI (vI (ks.drop m)) (0+(j:Int))=some (.int (ip:Int)):=by
     refine Bb (by omega) ?_
     rw[z0]
     refine Q4 ?_
     rw[Ajl,AhY (by omega),← ep,Aic,AhY (by omega)];rfl
    have a3:atI (vS cl) (0+(j:Int))=some (.str (tx cl[j])):=Bb (by omega) (by rw[z0];exact RN (AhY jl))
    have a4:atI (tx cl[j]).cps.toList (0+(k:Int))=some cl[j][k]:=Bb (by omega) (by rw[z0,Array.getElem?_toList,Q0];exact AhY kk)
    have sg:Sg cl[j][k]:=C.sg _ (Aie jl) _ (Aie kk)
    have uc:upC cl k j=decide (cl[j][k]=35):=by
     unfold upC
     rw[show cl.getD j []=cl[j] by rw[Aic,AhY jl];rfl,show cl[j].getD k 0=cl[j][k] by rw[Aic,AhY kk];rfl,AiQ,beq_iff_eq,decide_eq_true_iff]
    have cr:=L.cross hie hip hk ((pc.in L (by omega) hie).mpr ee) ((pc.in L (by omega) hip).mpr ep)
    apply Ab8 (fun H'=>Al H H')
    ·intro rest
     obtain⟨Hx,hx⟩:∃ Hx,Hx=H3:=⟨_,rfl⟩
     obtain⟨u6,e6⟩:∃ u,u=v6:=⟨_,rfl⟩
     obtain⟨u7,e7⟩:∃ u,u=v7:=⟨_,rfl⟩
     rw[← hx] at s3
     rw[← hx,← e6,← e7]
     refine⟨_,rfl,_,rfl,_,_,_,_,rfl,rfl,SqL.of (s3 _ _ h1),a1,_,rfl,_,rfl,_,_,_,_,rfl,rfl,SqL.of (s3 _ _ h2),a2,rfl,_,rfl,?_⟩
     refine O1 ?tt ?ff
     case ff =>
      intro ne
      have a5:atI (("#." : Str)).cps.toList (if decide ((ip:Int)<(ie:Int))=true then 1 else 0)=some cl[j][k]:=by
       have nn:¬ie=ip:=fun z=>ne (by rw[z])
       by_cases c:(ip:Int)<(ie:Int)
       ·have u0:=cr.2 (by omega)
        rw[uc] at u0
        have n35:=of_decide_eq_false u0
        rw[if_pos (decide_eq_true c)]
        rcases sg with e | e
        ·exact absurd e n35
        ·rw[e];decide +kernel
       ·have u0:=cr.1 (by omega)
        rw[uc] at u0
        rw[if_neg (by rw[decide_eq_true_iff];exact c),of_decide_eq_true u0]
        decide +kernel
      refine⟨_,rfl,_,rfl,_,_,_,_,rfl,rfl,SqL.of (s3 _ _ h1),a1,_,rfl,_,rfl,_,_,_,_,rfl,rfl,SqL.of (s3 _ _ h2),a2,_,_,rfl,rfl,.inr ⟨_,rfl,_,_,_,rfl,rfl,(by decide +kernel),a5,?_⟩⟩
      exact rest u6 u7 Hx s3
     case tt =>
      intro eq
      have ei:ie=ip:=by have:=V.int.inj eq;omega
      subst ei
      have g1:(ks.take m).getD k 0=(ie:Int):=by rw[← ee,Aic,Aic,AiR hk]
      have g2:(ks.drop m).getD j 0=(ie:Int):=by rw[← ep,Aic,Aic,Ajl]
      have b1:=M6 (l:=ks.take m) (by omega) g1
      have b2:=M6 (l:=ks.drop m) (by omega) g2
      have hp:=pc.piece L cl hie
      obtain⟨pa,hpa,hpb⟩:=N.get (i:=ie) (by rw[AhZ];exact hie)
      rw[Aj8,hp] at hpb
      refine⟨_,rfl,_,rfl,_,_,_,_,rfl,rfl,SqL.of (s3 _ _ h1),a1,?_⟩
      refine⟨_,rfl,_,rfl,_,rfl,_,_,rfl,SqL.of (s3 _ _ h1),fun q1 nq1=>?_⟩
      rw[Vz (by omega)]
      have s4:=s3.new nq1 (o:=.lst (vI ((ks.take m).take k)))
      refine⟨.inl ⟨rfl,_,SqL.of Ae⟩,_,rfl,_,_,_,rfl,rfl,SqL.of Ae,?_⟩
      generalize upd Hx q1 (.lst (vI ((ks.take m).take k)))=H4 at s4 ⊢
      have r1:atI (vS ((FT (ks.drop m) ie).map fun p=>(FT (ks.take m) ie).map fun e=>(cl.getD p []).getD e 0)) ((((ks.drop m).take j).count (ie:Int):Nat):Int)=some (.str (tx ((FT (ks.take m) ie).map fun e=>(cl.getD j []).getD e 0))):=by
       refine Bb (by omega) ?_
       rw[Air]
       exact RN (by rw[Aip,b2];rfl)
      have r2:atI (tx ((FT (ks.take m) ie).map fun e=>(cl.getD j []).getD e 0)).cps.toList ((((ks.take m).take k).count (ie:Int):Nat):Int)=some cl[j][k]:=by
       refine Bb (by omega) ?_
       rw[Air,Array.getElem?_toList,Q0,Aip,b1]
       show some ((cl.getD j []).getD k 0)=_
       rw[show cl.getD j []=cl[j] by rw[Aic,AhY jl];rfl,show cl[j].getD k 0=cl[j][k] by rw[Aic,AhY kk];rfl]
      have rl:((FT (ks.take m) ie).map fun e=>(cl.getD j []).getD e 0).length≤40:=by
       rw[AhZ,Fz]
       have:=AjS (a:=(ie:Int)) (l:=ks.take m)
       omega
      refine⟨_,rfl,_,rfl,_,_,_,_,rfl,rfl,SqL.of (s4 _ _ N.h),Bb (by omega) (by rw[Air];exact hpa),_,rfl,_,rfl,_,rfl,_,_,rfl,SqL.of (s4 _ _ h2),fun q2 nq2=>?_⟩
      rw[Vz (by omega)]
      have s5:=s4.new nq2 (o:=.lst (vI ((ks.drop m).take j)))
      refine⟨.inl ⟨rfl,_,SqL.of Ae⟩,_,rfl,_,_,_,rfl,rfl,SqL.of Ae,_,_,_,_,rfl,rfl,SqL.of (s5 _ _ hpb),r1,_,rfl,_,_,_,rfl,rfl,(by rw[Fb];exact Gv rl),r2,?_⟩
      exact rest _ _ _ s5
    ·rintro u v H4 s4
     refine⟨_,rfl,_,rfl,_,_,_,_,rfl,rfl,s4.seq hS,a3,_,rfl,_,_,_,rfl,rfl,(by rw[Fb,cm];exact Gv m40),a4,_,rfl,rfl,_,rfl,?_⟩
     refine KQ rfl ?_
     exact⟨_,_,_,_,rfl,s4⟩
   ·rintro σ H3 ⟨v5',v6',v7',v8',rfl,s3⟩
    exact⟨_,_,_,_,_,rfl,s3⟩
  ·rintro σ H2 ⟨v4,v5,v6,v7,v8,rfl,s2⟩
   exact kq H2 s2
theorem AaT.vI{H:Hp}{l l':Addr}{ks:List Int}(h:H l=some (.lst (vI ks)))(h':H l'=some (.lst (vI ks))):RT K H 50 (.ref l) (.ref l'):=by
 refine .lst (SqL.of h) (SqL.of h') rfl fun j x y e1 e2=>?_
 rw[e1] at e2
 cases e2
 obtain⟨z,_,rfl⟩:=JN e1
 exact .flat rfl
theorem Ab9{i:Nat}{v:V}{σ σ':St}{H:Hp}{b:TS}{D:Ends}(h:σ.set i (some v)=σ')(k:b D σ' H):Aeu (AbQ (tC v) (Wl i)) b D σ H:=by subst h;exact k
def Off (R:List Addr)(H H':Hp):Prop:=∀ b o,H b=some o→¬b∈R→H' b=some o
theorem Off.oth{R:List Addr}{H H':Hp}(f:Off R H H')(n:∀ r∈R,∃ xs,H r=some (.lst xs)){b:Addr}{o:HO}(h:H b=some o)(ho:∀ xs,o≠.lst xs):H' b=some o:=f _ _ h fun m=>by
 obtain⟨xs,e⟩:=n b m
 rw[e] at h
 cases h
 exact ho xs rfl
theorem Off.tb{R:List Addr}{H H':Hp}(f:Off R H H')(n:∀ r∈R,∃ xs,H r=some (.lst xs)){tT:Addr}{q:Str}(tb:Tb tT q H):Tb tT q H':=by
 obtain⟨ps,h1,h2,h3⟩:=tb
 refine⟨ps,f.oth n h1 (fun xs e=>by cases e),h2,fun pos cv e=>?_⟩
 obtain⟨c,hc,hh⟩:=h3 pos cv e
 exact⟨c,hc,f.oth n hh (fun xs e=>by cases e)⟩
theorem V5{R:List Addr}{H:Hp}{i:Nat}{r:Addr}{ys:List V}(h:∀ a∈R,∃ xs,H a=some (.lst xs)∧xs.length≤1000+i)(hy:ys.length≤1000+(i+1)):∀ a∈R,∃ xs,(upd H r (.lst ys)) a=some (.lst xs)∧xs.length≤1000+(i+1):=fun a ha=>by
 by_cases e:a=r
 ·rw[e];exact⟨_,Ae,hy⟩
 ·obtain⟨zs,h1,h2⟩:=h a ha
  exact⟨zs,by rw[Aj e];exact h1,by omega⟩
theorem TL.smv{H:Hp}{y y':Addr}{rs rs':List Addr}{ps:List (List (List Nat))}(a:TL H y rs ps)(b:TL H y' rs' ps)(d:Nat):(rs.map V.ref).length=(rs'.map V.ref).length∧∀(i:Nat) (x z:V),(rs.map V.ref)[i]?=some x→(rs'.map V.ref)[i]?=some z→RT K H (d+1) x z:=by
 refine⟨by rw[AhZ,AhZ,a.l,b.l],fun i x z e1 e2=>?_⟩
 have hi:i<ps.length:=by
  have:=(List.getElem?_eq_some_iff.mp e1).1
  rw[AhZ,a.l] at this
  exact this
 obtain⟨r,q1,q2⟩:=a.get hi
 obtain⟨r',q3,q4⟩:=b.get hi
 rw[q1] at e1
 rw[q3] at e2
 cases e1
 cases e2
 refine .lst (SqL.of q2) (SqL.of q4) rfl fun j x y e1 e2=>?_
 rw[e1] at e2
 cases e2
 obtain⟨z,_,rfl⟩:=RP e1
 exact .flat rfl
theorem TL.sam{H:Hp}{y y':Addr}{rs rs':List Addr}{ps:List (List (List Nat))}(a:TL H y rs ps)(b:TL H y' rs' ps):RT K H 50 (.ref y) (.ref y'):=by
 obtain⟨h1,h2⟩:=a.smv (K:=K) b 48
 exact .lst (SqL.of a.h) (SqL.of b.h) h1 h2
theorem TL.all{H:Hp}{y:Addr}{rs:List Addr}{ps:List (List (List Nat))}(N:TL H y rs ps){r:Addr}(m:r∈rs):∃ u,u∈ps∧H r=some (.lst (vS u)):=by
 obtain⟨i,hi,e⟩:=Aiu m
 have h2:i<ps.length:=by rw[← N.l];exact hi
 exact⟨_,Aie h2,N.r i r _ (by rw[← e];exact AhY hi) (AhY h2)⟩
theorem TL.AdZ{H:Hp}{y:Addr}{rs:List Addr}{ps:List (List (List Nat))}(N:TL H y rs ps):¬y∈rs:=fun m=>by
 obtain⟨u,_,h⟩:=N.all m
 have hh:=N.h
 rw[hh] at h
 have h:rs.map V.ref=vS u:=by injection h with h;injection h
 match rs,m,h with
 | r::rs,_,h =>
  cases hv:u with
  | nil=>rw[hv] at h;cases h
  | cons z l=>rw[hv] at h;cases h
theorem TL.Af7{H H':Hp}{y:Addr}{as:List Addr}{ps:List (List (List Nat))}(N:TL H y as ps)(s:Dt H H'):TL H' y as ps:=⟨s.lst N.h,N.l,fun i a u h1 h2=>s.lst (N.r i a u h1 h2)⟩
def AbA (K:PySem.W.Frag)(tT:Addr):Sp:=fun vs H Q _=>∃(a g tp lp n1 n2:Addr) (as:List Addr) (cl:List (List Nat)) (m n:Nat) (tss:List (List Int)) (dA dB:List Int) (eo po:List Nat) (ks:List Int),vs=[.ref a,.ref g,.ref tp]∧H a=some (.lst (vS cl))∧H g=some (.lst (vS cl))∧Cl cl m n∧Tb tT "layers_of.<locals>.<lambda>" H∧H tp=some (.tup [.ref lp,.ref n1,.ref n2])∧TL H lp as (tss.map (pOf cl m))∧H n1=some (.lst (vI (ks.take m)))∧H n2=some (.lst (vI (ks.drop m))) ∧
 (∀ r∈lp::n1::n2::as,r≠a∧r≠g)∧dA.Perm (eS cl m)∧dB.Perm (pS cl)∧dA.Pairwise (· ≥ ·)∧dB.Pairwise (· ≥ ·)∧Lay (upC cl) m n tss (Fo (Pz m n dA dB) n (m+1)) eo po∧Pc tss (m+n) tss.length 0 ks∧(∀ u∈tss.map (pOf cl m),u.length≤80)∧∀ H',Q (.bl true) H'
theorem Pj{tc tT:Addr}(T:Txt K mg t)(hcd:t.CT.code=.ref tc)(hCd:PySem.W.CodeHd base tc tT)(hBm:Bm mg base):Bx P w K mg base CX0 9 t.Bw t.Gi ["handed", "given", "found"] (AbA K tT):=by
 have Ji:Bx P w K mg base CX0 8 t.BX t.Gs _ _:=Lk T hcd hCd hBm
 refine T.Fy.F.ok Fv (fun vs H Q E h=>?_) (fun cdv A outer s H vs Q E hr h=>?_)
 ·obtain⟨a,g,tp,lp,n1,n2,as,cl,m,n,tss,dA,dB,eo,po,ks,rfl,_⟩:=h
  rfl
 ·obtain⟨a,g,tp,lp,n1,n2,as,cl,m,n,tss,dA,dB,eo,po,ks,rfl,ha,hg,C,tb,ht,N,h1,h2,nw,pA,pB,decA,FQ,L,pc,sm,k⟩:=h
  have hsz:sizeLine=16777216:=sizeLine_eq
  have m40:=C.m40
  have n40:=C.n40
  have kl:=pc.len
  have few:=L.few
  have e0:atI [V.ref lp,V.ref n1,V.ref n2] 0=some (V.ref lp):=rfl
  have e1:atI [V.ref lp,V.ref n1,V.ref n2] 1=some (V.ref n1):=rfl
  have e2:atI [V.ref lp,V.ref n1,V.ref n2] 2=some (V.ref n2):=rfl
  obtain⟨ps,eps⟩:∃ ps,ps=tss.map (pOf cl m):=⟨_,rfl⟩
  rw[← eps] at N sm
  have psl:ps.length=tss.length:=by rw[eps,AhZ]
  have rl:(as.map V.ref).length=ps.length:=by rw[AhZ,N.l]
  refine⟨_,(Ab (Ak (i:=3) Fv.nd rfl (Or.inl rfl) (Nv (Aa (JL (Et.mk (Bs:=[]) (Nc:=["piece"]) rfl (by decide +kernel) (by decide +kernel) (Fl (sc0:=Ac Ax) rfl (by decide +kernel)) rfl rfl rfl (by decide +kernel) (fun _ _ h=>by simp at h)) rfl (CG (K:=K) (Aq (Ay (K:=K)) (pv 2) Af (fun _ _=>rfl))) (fun _ _ _ _ _=>.nil) (fun _ _ _ _ _=>(Ff (Gr (K:=K)) rfl T.NZ JM (Aa (pv 0) Ad)))) (Aa (Ff (Gr (K:=K)) rfl T.NZ JM (Aa (Aq (Ay (K:=K)) (pv 2) Af (fun _ _=>rfl)) Ad)) (Aa (Ff (Gr (K:=K)) rfl T.NZ JM (Aa (Aq (Ay (K:=K)) (pv 2) Af (fun _ _=>rfl)) Ad)) Ad)))))
   (Ab (Cw PassesOwn.never rfl (CG (K:=K) (Aq (Ay (K:=K)) (pv 2) Af (fun _ _=>rfl))) (Bp (i:=4) Fv.nd rfl (Or.inl rfl))
    (Ag (GZ (Dg (K:=K) PySem.F.plainAttrs_list PySem.F.slot_list_append PySem.F.type_list_append Fg (pv 4) (Aa FW Ad)))))
   (Ab (GZ (Dg (K:=K) PySem.F.plainAttrs_list PySem.F.slot_list_append PySem.F.type_list_append Fg (Aq (Ay (K:=K)) (pv 2) Af (fun _ _=>rfl)) (Aa (Qz (Aa FW Ad)) Ad)))
   (Ab (GZ (Dg (K:=K) PySem.F.plainAttrs_list PySem.F.slot_list_append PySem.F.type_list_append Fg (Aq (Ay (K:=K)) (pv 2) Af (fun _ _=>rfl)) (Aa Af Ad)))
   (Ab (GZ (Dg (K:=K) PySem.F.plainAttrs_list PySem.F.slot_list_append PySem.F.type_list_append Fg (Aq (Ay (K:=K)) (pv 2) Af (fun _ _=>rfl)) (Aa Af Ad)))
   (Ag (Bg (Aa2 (JF (Ace (K:=K) (hr.Aa9)) (pv 0) (pv 1) (Bh _)) (Aa1 (JF (Acw (K:=K) (hr.RQ)) (Bd (Ji.mono (by decide)) hr rfl T.Ef.m T.Ef.F.kp T.Ef.b .nil Cz (Aa (pv 0) Ad)) (pv 3) (Bh _))))))))))),?_⟩
  refine⟨_,rfl,_,_,_,_,rfl,rfl,SqT.of ht,e0,_,rfl,⟨_,SqL.of N.h⟩,Ej (K:=K) (a:=lp) (xs:=as.map V.ref) (fun i ys H2=>Al H H2∧∃ cs:List Addr,ys=cs.map V.ref∧cs.length=i∧(∀ r∈cs,H r=none)∧∀(j:Nat) (r:Addr) (u:List (List Nat)),cs[j]?=some r→ps[j]?=some u→H2 r=some (.lst (vS u))) ⟨.refl _,[],rfl,rfl,(fun r hr=>absurd hr (by simp)),fun j r u h=>by simp at h⟩ ?_ ?_ ?_ ?_⟩
  ·rintro i ys H2 hi ⟨s2,cs,rfl,csl,_⟩
   exact⟨SqL.of (s2 _ _ N.h),by rw[AhZ,csl];exact AhX _⟩
  ·rw[rl];omega
  ·rintro i x ys H2 hi hx ⟨s2,cs,rfl,csl,cn,R⟩
   have hip:i<ps.length:=by rw[← rl];exact hi
   obtain⟨r',q1,q2⟩:=(N.same s2).get hip
   rw[q1] at hx
   cases hx
   refine HB.no ?_
   refine⟨_,rfl,_,_,rfl,.inl (SqL.of q2),fun l' nl'=>?_⟩
   have s3:Al H2 (upd H2 l' (.lst (vS ps[i]))):=.upd nl'
   refine CN.of hi ⟨s2.trans s3,cs++[l'],by rw[Aio];rfl,by rw[Aid,csl];rfl,fun r hr=>?_,fun j r u f1 f2=>?_⟩
   ·rcases List.mem_append.mp hr with h | h
    ·exact cn r h
    ·rw[List.mem_singleton.mp h];exact s2.free nl'
   ·rcases AiO j cs.length with d | d
    ·rw[AiG d] at f1
     exact s3 _ _ (R j r u f1 f2)
    ·rw[AiB d] at f1
     have:j=i:=by
      have:=(List.getElem?_eq_some_iff.mp f1).1
      simp at this
      omega
     subst this
     rw[csl,AiM] at f1
     cases f1
     rw[AhY hip] at f2
     cases f2
     exact Ae
  rintro ys H2 kk ⟨s2,cs,rfl,csl,cn,R⟩ nkk
  rw[rl] at csl
  have s3:Al H2 (upd H2 kk (.lst (cs.map V.ref))):=.upd nkk
  have NK:TL (upd H2 kk (.lst (cs.map V.ref))) kk cs ps:=⟨Ae,csl,fun j r u f1 f2=>s3 _ _ (R j r u f1 f2)⟩
  generalize upd H2 kk (.lst (cs.map V.ref))=H3 at s3 NK ⊢
  have u3:=s2.trans s3
  refine⟨_,rfl,_,_,_,_,rfl,rfl,SqT.of (u3 _ _ ht),e1,_,_,rfl,.inl (SqL.of (u3 _ _ h1)),fun k1 nk1=>?_⟩
  have s4:Al H3 (upd H3 k1 (.lst (vI (ks.take m)))):=.upd nk1
  have g4:(upd H3 k1 (.lst (vI (ks.take m)))) k1=some (.lst (vI (ks.take m))):=Ae
  generalize upd H3 k1 (.lst (vI (ks.take m)))=H4 at s4 g4 ⊢
  have u4:=u3.trans s4
  refine⟨_,rfl,_,_,_,_,rfl,rfl,SqT.of (u4 _ _ ht),e2,_,_,rfl,.inl (SqL.of (u4 _ _ h2)),fun k2 nk2=>?_⟩
  have s5:Al H4 (upd H4 k2 (.lst (vI (ks.drop m)))):=.upd nk2
  have g5:(upd H4 k2 (.lst (vI (ks.drop m)))) k2=some (.lst (vI (ks.drop m))):=Ae
  generalize upd H4 k2 (.lst (vI (ks.drop m)))=H5 at s5 g5 ⊢
  have u5:=u4.trans s5
  refine⟨(by show 3≤sizeLine;decide),fun pk npk=>?_⟩
  have s6:Al H5 (upd H5 pk (.tup [.ref kk,.ref k1,.ref k2])):=.upd npk
  have g6:(upd H5 pk (.tup [.ref kk,.ref k1,.ref k2])) pk=some (.tup [.ref kk,.ref k1,.ref k2]):=Ae
  generalize upd H5 pk (.tup [.ref kk,.ref k1,.ref k2])=H6 at s6 g6 ⊢
  have u6:=u5.trans s6
  obtain⟨RR,eRR⟩:∃ RR,RR=lp::n1::n2::as:=⟨_,rfl⟩
  rw[← eRR] at nw
  have mlp:lp∈RR:=by rw[eRR];exact Aii
  have mn1:n1∈RR:=by rw[eRR];exact Aij _ Aii
  have mn2:n2∈RR:=by rw[eRR];exact Aij _ (Aij _ Aii)
  have mas:∀ r∈as,r∈RR:=fun r hr=>by rw[eRR];exact Aij _ (Aij _ (Aij _ hr))
  have Af8:∀ r∈RR,∃ xs,H r=some (.lst xs)∧xs.length≤1000:=fun r hr=>by
   rw[eRR] at hr
   rcases List.mem_cons.mp hr with h | h
   ·rw[h];exact⟨_,N.h,by rw[rl];omega⟩
   ·rcases List.mem_cons.mp h with h | h
    ·rw[h];exact⟨_,h1,by rw[Ao,Aib];omega⟩
    ·rcases List.mem_cons.mp h with h | h
     ·rw[h];exact⟨_,h2,by rw[Ao,Aim];omega⟩
     ·obtain⟨u,hu1,hu2⟩:=N.all h
      exact⟨_,hu2,by rw[GK];have:=sm u hu1;omega⟩
  have Af9:∀ r∈RR,∃ xs,H6 r=some (.lst xs)∧xs.length≤1000+0:=fun r hr=>by
   obtain⟨xs,f1,f2⟩:=Af8 r hr
   exact⟨xs,u6 _ _ f1,f2⟩
  have out:∀{b:Addr} {H':Hp},Al H H'→H' b=none→¬b∈RR:=fun {b H'} s' nb h=>by obtain⟨xs,e,_⟩:=Af8 _ h;have:=s' _ _ e;rw[nb] at this;cases this
  have okk:¬kk∈RR:=out s2 nkk
  have ok1:¬k1∈RR:=out u3 nk1
  have ok2:¬k2∈RR:=out u4 nk2
  have ocs:∀ r∈cs,¬r∈RR:=fun r hr=>out (.refl _) (cn r hr)
  have lpn:¬lp∈as:=N.AdZ
  have N6:=N.same u6
  refine⟨_,rfl,_,_,_,_,rfl,rfl,SqT.of (u6 _ _ ht),e0,_,rfl,⟨_,SqL.of N6.h⟩,KH (K:=K) (a:=lp) (xs:=as.map V.ref) (fun i σ H7=>∃ v4,σ=[some (.ref a),some (.ref g),some (.ref tp),some (.ref pk),v4]∧Off as H6 H7∧∀ r∈RR,∃ xs,H7 r=some (.lst xs)∧xs.length≤1000+i) ⟨none,rfl,(fun b o h _=>h),Af9⟩ (fun i σ H7 _ ⟨_,_,f,_⟩=>SqL.of (f _ _ N6.h lpn)) ?_ ?_⟩
  ·rintro i x σ H7 hx ⟨v4,rfl,f7,l7⟩
   rw[Aip] at hx
   obtain⟨r',hr',rfl⟩:=Option.map_eq_some_iff.mp hx
   have hrm:=Aiv hr'
   have hi:i<as.length:=(List.getElem?_eq_some_iff.mp hr').1
   obtain⟨xs,g7,xl⟩:=l7 r' (mas r' hrm)
   have irl:as.length≤1000:=by rw[N.l];omega
   refine⟨_,rfl,.inl ⟨rfl,_,SqL.of g7⟩,_,_,_,rfl,rfl,g7,(by omega),?_⟩
   refine⟨_,rfl,fun b o h hb=>?_,V5 l7 (by rw[Aid];show xs.length+1≤_;omega)⟩
   rw[Aj (fun e:b=r'=>hb (by rw[e];exact hrm))]
   exact f7 b o h hb
  rintro σ H7 ⟨v4,rfl,f7,l7⟩
  rw[rl] at l7
  have f7':Off RR H6 H7:=fun b o h hb=>f7 b o h fun m=>hb (mas b m)
  have ll6:∀ r∈RR,∃ xs,H6 r=some (.lst xs):=fun r hr=>by obtain⟨xs,h,_⟩:=Af9 r hr;exact⟨xs,h⟩
  have Aea:∀{Ha:Hp} {r:Addr} {o':HO},Off RR H6 Ha→r∈RR→Off RR H6 (upd Ha r o'):=fun {Ha r o'} f hr b o h hb=>by
   rw[Aj (fun e:b=r=>hb (by rw[e];exact hr))]
   exact f b o h hb
  have tpo:∀{Ha:Hp},Off RR H6 Ha→Ha tp=some (.tup [.ref lp,.ref n1,.ref n2]):=fun {Ha} f=>f.oth ll6 (u6 _ _ ht) (fun xs e=>by cases e)
  obtain⟨x7,y7,z7⟩:=l7 lp mlp
  refine⟨_,rfl,_,_,_,_,rfl,rfl,SqT.of (tpo f7'),e0,.inl ⟨rfl,_,SqL.of y7⟩,(by show 1≤sizeLine;omega),fun q nq=>?_⟩
  have s8:Al H7 (upd H7 q (.lst [.str "#"])):=.upd nq
  generalize upd H7 q (.lst [.str "#"])=H8 at s8 ⊢
  have f8:Off RR H6 H8:=fun b o h hb=>s8 _ _ (f7' b o h hb)
  have l8:∀ r∈RR,∃ xs,H8 r=some (.lst xs)∧xs.length≤1000+ps.length:=fun r hr=>by
   obtain⟨xs,h,h'⟩:=l7 r hr
   exact⟨xs,s8 _ _ h,h'⟩
  refine⟨_,_,_,rfl,rfl,s8 _ _ y7,(by omega),?_⟩
  have f9:=Aea (o':=.lst (x7++[.ref q])) f8 mlp
  have l9:=V5 (r:=lp) (ys:=x7++[.ref q]) l8 (by rw[Aid];show x7.length+1≤_;omega)
  generalize upd H8 lp (.lst (x7++[.ref q]))=H9 at f9 l9 ⊢
  obtain⟨x9,y9,z9⟩:=l9 n1 mn1
  refine⟨_,rfl,_,_,_,_,rfl,rfl,SqT.of (tpo f9),e1,.inl ⟨rfl,_,SqL.of y9⟩,_,_,_,rfl,rfl,y9,(by omega),?_⟩
  have f10:=Aea (o':=.lst (x9++[.int 0])) f9 mn1
  have l10:=V5 (r:=n1) (ys:=x9++[.int 0]) l9 (by rw[Aid];show x9.length+1≤_;omega)
  generalize upd H9 n1 (.lst (x9++[.int 0]))=H10 at f10 l10 ⊢
  obtain⟨x10,y10,z10⟩:=l10 n2 mn2
  refine⟨_,rfl,_,_,_,_,rfl,rfl,SqT.of (tpo f10),e2,.inl ⟨rfl,_,SqL.of y10⟩,_,_,_,rfl,rfl,y10,(by omega),?_⟩
  have f11:=Aea (o':=.lst (x10++[.int 0])) f10 mn2
  generalize upd H10 n2 (.lst (x10++[.int 0]))=H11 at f11 ⊢
  have AgK:Tb tT "layers_of.<locals>.<lambda>" H11:=f11.tb ll6 (tb.same u6)
  have AfA:=f11 _ _ (u6 _ _ ha) fun m=>(nw a m).1 rfl
  have AgL:=f11 _ _ (u6 _ _ hg) fun m=>(nw g m).2 rfl
  have AgM:=f11.oth ll6 g6 (fun xs e=>by cases e)
  have AgN:=f11 _ _ (s6 _ _ (s5 _ _ g4)) ok1
  have AgO:=f11 _ _ (s6 _ _ g5) ok2
  have AgP:TL H11 kk cs ps:=⟨f11 _ _ (((s4.trans s5).trans s6) _ _ NK.h) okk,NK.l,fun j r u d1 d2=>f11 _ _ (((s4.trans s5).trans s6) _ _ (NK.r j r u d1 d2)) (ocs r (Aiv d1))⟩
  refine⟨_,rfl,_,rfl,_,_,_,_,rfl,rfl,SqL.of AfA,SqL.of AgL,Mx _,Mx _,_,rfl,?_⟩
  rw[KR (Mx _)]
  refine Yj ?_
  refine⟨_,rfl,a,cl,m,n,rfl,SqL.of AfA,C,AgK,fun tp' H12 lp' n1' n2' as' Sd dA' dB' eo' po' ks' x12 AhW _ _ pA' pB' Z3 Z4 L' pc' ht' N' h1' h2'=>?_⟩
  have eA:=Fp (pA'.trans pA.symm) Z3 decA
  have eB:=Fp (pB'.trans pB.symm) Z4 FQ
  subst eA eB
  have et:=L'.uniq L
  subst et
  have ek:=pc'.uniq L pc
  subst ek
  rw[← eps] at N'
  refine⟨_,rfl,tp',pk,_,_,rfl,rfl,SqT.of ht',SqT.of (x12.tup AgM),rfl,fun i x z d1 d2=>?_,k _⟩
  match i,d1,d2 with
  | 0,d1,d2=>cases d1;cases d2;exact N'.sam (AgP.Af7 x12)
  | 1,d1,d2=>cases d1;cases d2;exact AaT.vI h1' (x12.lst AgN)
  | 2,d1,d2=>cases d1;cases d2;exact AaT.vI h2' (x12.lst AgO)
  | i+3,d1,d2=>simp at d1
theorem Aeb{cl:List (List Nat)}{m n:Nat}(C:Cl cl m n){dA dB:List Int}(pA:dA.Perm (eS cl m))(pB:dB.Perm (pS cl))(decA:dA.Pairwise (· ≥ ·))(FQ:dB.Pairwise (· ≥ ·)){eo po:List Nat}
  (oE:Ord (aS (upC cl) n) m eo) (oP:Ord (bS (upC cl) m) n po) (s t:Nat):(s,t)∈Fo (Pz m n dA dB) n (m+1)↔s≤m∧t≤n∧sm (aS (upC cl) n) (eo.take s)+sm (bS (upC cl) m) (po.take t)+s*t=s*n+t*m:=by
 have eA:dA=eo.map fun e=>((aS (upC cl) n e:Nat):Int):=Fp (pA.trans (by rw[Zo C];exact(oE.perm.map _).symm)) decA (R8 oE)
 have eB:dB=po.map fun e=>((bS (upC cl) m e:Nat):Int):=Fp (pB.trans (by rw[Zq C];exact(oP.perm.map _).symm)) FQ (R8 oP)
 have e1:((s*n:Nat):Int)=(s:Int)*n:=by rw[AiS]
 have e2:((t*m:Nat):Int)=(t:Int)*m:=by rw[AiS]
 have e3:((s*t:Nat):Int)=(s:Int)*t:=by rw[AiS]
 rw[Hq]
 show s<m+1∧t≤n∧Pz m n dA dB s t=true↔_
 unfold Pz
 rw[decide_eq_true_iff,eA,eB,← Ai9,← Ai9,Hd,Hd]
 constructor
 ·rintro⟨h1,h2,h3⟩
  exact⟨by omega,h2,by omega⟩
 ·rintro⟨h1,h2,h3⟩
  exact⟨by omega,h2,by omega⟩
theorem X4{m n:Nat}{Q:Nat→Nat→Bool}{zs:List (Nat × Nat)}(T:Tps m n Q zs){i:Nat}{a:Nat × Nat}(ea:zs[i]?=some a):∀(d:Nat) (b:Nat × Nat),zs[i+d]?=some b→a.1≤b.1∧a.2≤b.2
 | 0,b,eb=>by rw[AiZ,ea] at eb;cases eb;exact⟨AhX _,AhX _⟩
 | d+1,b,eb=>by
  have hl:i+d<zs.length:=by have:=(List.getElem?_eq_some_iff.mp eb).1;omega
  obtain⟨h1,h2⟩:=X4 T ea d zs[i+d] (AhY hl)
  obtain⟨h3,h4,_⟩:=T.stp (i+d) _ b (AhY hl) eb
  omega
theorem Aec{cl:List (List Nat)}{m n:Nat}(C:Cl cl m n){dA dB:List Int}(pA:dA.Perm (eS cl m))(pB:dB.Perm (pS cl))(decA:dA.Pairwise (· ≥ ·))(FQ:dB.Pairwise (· ≥ ·)){eo po:List Nat}
  (oE:Ord (aS (upC cl) n) m eo) (oP:Ord (bS (upC cl) m) n po):Tpz (upC cl) m n (Fo (Pz m n dA dB) n (m+1)) eo po:=by
 have T:=Tps.of (Abi C pA pB decA FQ) C.m1
 have lex:=Vi (Pz m n dA dB) n (m+1)
 refine⟨oE,oP,Aeb C pA pB decA FQ oE oP,lex,fun a b ha hb h=>?_⟩
 obtain⟨i,hi,ei⟩:=Aiu ha
 obtain⟨j,hj,ej⟩:=Aiu hb
 have e1:(Fo (Pz m n dA dB) n (m+1))[i]?=some a:=by rw[AhY hi,ei]
 have e2:(Fo (Pz m n dA dB) n (m+1))[j]?=some b:=by rw[AhY hj,ej]
 have lt:=Q9 lex e1 e2 h
 exact X4 T e1 (j-i) b (by rw[show i+(j-i)=j by omega];exact e2)
theorem AbB{G:Prop}{R:Nat→Nat→Prop}(C:Nat→Nat→Prop)(main:(∀ x y,C x y→R x y)→G)(rest:∀ x y,C x y→R x y):G:=main rest
theorem AbC{G:Prop}{R:Nat→Prop}(C:Nat→Prop)(main:(∀ x,C x→R x)→G)(rest:∀ x,C x→R x):G:=main rest
variable {up:Nat→Nat→Bool}{m n:Nat}{tss:List (List Int)}{zs:List (Nat × Nat)}{eo po:List Nat}{ks:List Int}
theorem Pc.lone(L:Lay up m n tss zs eo po)(pc:Pc tss (m+n) tss.length 0 ks){i:Nat}(hi:i<tss.length){k:Int}{j:Nat}(r:Xy (ks.take m) (ks.drop m) (i:Int) k j)(h2:k≠2):(k=0∧tss[i]=[(j:Int)]∧j<m)∨(k=1∧tss[i]=[((m+j:Nat):Int)]):=by
 have kl:=pc.len
 rcases r with r | ⟨c,r⟩
 ·exact absurd r h2
 ·have own:=pc.own L hi
  have l1:=Fz (ks.take m) i
  have l2:=Fz (ks.drop m) i
  rcases r with ⟨e,hj⟩ | ⟨e,hj⟩
  ·have hjl:=(List.getElem?_eq_some_iff.mp hj).1
   have mem:j∈FT (ks.take m) i:=Eh.mpr ⟨hjl,by rw[Aic,hj];rfl⟩
   have p1:0<(FT (ks.take m) i).length:=AjB mem
   have e2:FT (ks.drop m) i=[]:=AjT (by omega)
   obtain⟨y,ey⟩:=List.length_eq_one_iff.mp (show(FT (ks.take m) i).length=1 by omega)
   rw[ey] at mem own
   rw[← List.mem_singleton.mp mem,e2] at own
   rw[Aib] at hjl
   refine .inl ⟨e,?_,by omega⟩
   rw[own]
   show[cQ 0 j]++[]=_
   unfold cQ
   rw[AiD];rfl
  ·have hjl:=(List.getElem?_eq_some_iff.mp hj).1
   have mem:j∈FT (ks.drop m) i:=Eh.mpr ⟨hjl,by rw[Aic,hj];rfl⟩
   have p1:0<(FT (ks.drop m) i).length:=AjB mem
   have e2:FT (ks.take m) i=[]:=AjT (by omega)
   obtain⟨y,ey⟩:=List.length_eq_one_iff.mp (show(FT (ks.drop m) i).length=1 by omega)
   rw[ey] at mem own
   rw[← List.mem_singleton.mp mem,e2] at own
   refine .inr ⟨e,?_⟩
   rw[own]
   rfl
theorem Pc.AfB(L:Lay up m n tss zs eo po)(pc:Pc tss (m+n) tss.length 0 ks){i:Nat}(hi:i+1<tss.length){k k':Int}{j j':Nat}(r:Xy (ks.take m) (ks.drop m) (i:Int) k j)(r':Xy (ks.take m) (ks.drop m) ((i+1:Nat):Int) k' j')(e:k=k')(h2:k≠2):j<j':=by
 subst e
 rcases pc.lone L (by omega) r h2 with ⟨a1,a2,a3⟩ | ⟨a1,a2⟩ <;> rcases pc.lone L hi r' h2 with ⟨b1,b2,b3⟩ | ⟨b1,b2⟩
 ·have:=L.AcP hi a2 b2 (by constructor <;> intro <;> omega);omega
 ·omega
 ·omega
 ·have:=L.AcP hi a2 b2 (by constructor <;> intro <;> omega);omega
end
section
variable {P:Program}{w:World}{K:PySem.W.Frag}{mg:Str→Option Value}{base:Heap}{t:Adr}
variable {m n:Nat}{tss:List (List Int)}{zs:List (Nat × Nat)}{eo po:List Nat}{ks:List Int}
theorem Pc.pcr{cl:List (List Nat)}(L:Lay (upC cl) m n tss zs eo po)(pc:Pc tss (m+n) tss.length 0 ks)(C:Cl cl m n){i:Nat}(hi:i<tss.length):PcR (pOf cl m tss[i]) ((ks.take m).count (i:Int)) ((ks.drop m).count (i:Int)):=by
 have kl:=pc.len
 have m40:=C.m40
 have n40:=C.n40
 have c1:=AjS (a:=(i:Int)) (l:=ks.take m)
 have c2:=AjS (a:=(i:Int)) (l:=ks.drop m)
 rw[Aib] at c1
 rw[Aim] at c2
 have own:=congrArg List.length (pc.own L hi)
 rw[Aid,AhZ,AhZ,Fz,Fz] at own
 have ne:=L.ne hi
 rw[pc.piece L cl hi]
 refine⟨by rw[AhZ,Fz],fun u hu=>?_,by omega,by omega,by omega⟩
 obtain⟨p,hp,rfl⟩:=List.mem_map.mp hu
 refine⟨by rw[AhZ,Fz],fun c hc=>?_⟩
 obtain⟨e,he,rfl⟩:=List.mem_map.mp hc
 have q1:=(Eh.mp hp).1
 have q2:=(Eh.mp he).1
 rw[Aim] at q1
 rw[Aib] at q2
 have jl:p<cl.length:=by rw[C.hn];omega
 have kk:e<cl[p].length:=by rw[C.hm _ (Aie jl)];omega
 rw[show cl.getD p []=cl[p] by rw[Aic,AhY jl];rfl,show cl[p].getD e 0=cl[p][e] by rw[Aic,AhY kk];rfl]
 exact C.sg _ (Aie jl) _ (Aie kk)
def V6 (K:PySem.W.Frag)(tT:Addr):Sp:=fun vs H Q _=>∃(a:Addr) (ns:List Int),vs=[.ref a]∧SqL K H a (vI ns)∧ns.length≤63∧Tb tT "layers_of.<locals>.<lambda>" H∧∀ H',Q (.bl true) H'
theorem V7{K:PySem.W.Frag}{tT:Addr}{H:Hp}{a:Addr}{ns:List Int}(hl:ns.length≤63)(hS:SqL K H a (ns.map V.int))(tb:Tb tT "layers_of.<locals>.<lambda>" H):V6 K tT [.ref a] H (fun v _=>v=.bl true) fun _ _ _=>False:=⟨a,ns,rfl,hS,hl,tb,fun _=>rfl⟩
end
section
variable {P:Program}{w:World}{K:PySem.W.Frag}{mg:Str→Option Value}{base:Heap}{t:Adr}
theorem Z9(c:Int){z:Nat}(h1:1≤z)(h2:z≤40):∃ m:Nat,1+c%(z:Int)=(m:Int)∧1≤m∧m≤40:=by
 have q1:=Ajm c (show(z:Int)≠0 by omega)
 have q2:=Ajn c (show(0:Int)<(z:Int) by omega)
 exact⟨(1+c%(z:Int)).toNat,by omega,by omega,by omega⟩
theorem Aed{tc tT:Addr}(T:Txt K mg t)(hcd:t.CT.code=.ref tc)(hCd:PySem.W.CodeHd base tc tT)(hBm:Bm mg base):Bx P w K mg base CX0 10 t.Sw t.AcU ["script"] (V6 K tT):=by
 have T4:Bx P w K mg base CX0 1 t.Ck t.Jf _ _:=Sx T
 have X5:Bx P w K mg base CX0 1 t.Dv t.Lb _ _:=V0 T
 have Ji:Bx P w K mg base CX0 8 t.BX t.Gs _ _:=Lk T hcd hCd hBm
 have QT:Bx P w K mg base CX0 1 t.Dy t.Le _ _:=V2 T
 have V8:Bx P w K mg base CX0 1 t.CV t.JT _ _:=Tz T
 have X6:Bx P w K mg base CX0 2 t.Dw t.Ld _ _:=V1 T
 have YG:Bx P w K mg base CX0 1 t.Eb t.NQ _ _:=X3 T
 have S8:Bx P w K mg base CX0 1 t.Ed t.NT _ _:=Xz T
 have QF:Bx P w K mg base CX0 9 t.Bw t.Gi _ _:=Pj T hcd hCd hBm
 refine T.law.F.ok Dm (fun vs H Q E h=>?_) (fun cdv A outer s H vs Q E hr h=>?_)
 ·obtain⟨a,ns,rfl,_⟩:=h
  rfl
 ·obtain⟨a,ns,rfl,hS,hl,tb,k⟩:=h
  have hsz:sizeLine=16777216:=sizeLine_eq
  refine⟨_,(Ab (Ak (i:=1) Dm.nd rfl (Or.inl rfl) (Bd (T4.mono (by decide)) hr rfl T.HH.m T.HH.F.kp T.HH.b .nil Cz (Aa (pv 0) (Aa Af Ad))))
   (Ab (Ak (i:=2) Dm.nd rfl (Or.inl rfl) Af)
   (Ab (Dp (Bc MK (Ar DQ (Aq (Aw (K:=K)) (pv 1) Af (fun _ _=>rfl)) Af) Af (Bh _))
    (Ag (Ak (i:=2) Dm.nd rfl (Or.inl rfl) Af))
    Bj)
   (Ab (Ak (i:=3) Dm.nd rfl (Or.inl rfl) (Ar CZ Af (Ar DQ (Aq (Aw (K:=K)) (pv 1) Af (fun _ _=>rfl)) Af)))
   (Ab (Dp (Bc MK (Ar DQ (Aq (Aw (K:=K)) (pv 1) Af (fun _ _=>rfl)) Af) Af (Bh _))
    (Ab (Ak (i:=2) Dm.nd rfl (Or.inl rfl) Af)
    (Ag (Ak (i:=3) Dm.nd rfl (Or.inl rfl) Af)))
    Bj)
   (Ab (Ak (i:=4) Dm.nd rfl (Or.inl rfl) (Ar CZ Af (Ar DQ (Aq (Aw (K:=K)) (pv 1) Af (fun _ _=>rfl)) (pv 2))))
   (Ab (Ak (i:=5) Dm.nd rfl (Or.inl rfl) (Ar CZ Af (Ar DQ (Aq (Aw (K:=K)) (pv 1) Af (fun _ _=>rfl)) (pv 2))))
   (Ab (Ak (i:=6) Dm.nd rfl (Or.inl rfl) (Bd (X5.mono (by decide)) hr rfl T.M4.m T.M4.F.kp T.M4.b .nil Cz (Aa (pv 1) (Aa (pv 4) (Aa (pv 5) (Aa (pv 3) Ad))))))
   (Ab (Ak (i:=7) Dm.nd rfl (Or.inl rfl) (Ff (Gr (K:=K)) rfl T.NZ JM (Aa (pv 6) Ad)))
   (Ab (Ak (i:=8) Dm.nd rfl (Or.inl rfl) (Bd (Ji.mono (by decide)) hr rfl T.Ef.m T.Ef.F.kp T.Ef.b .nil Cz (Aa (pv 7) Ad)))
   (Ab (Dp (PW.pt (pw_or (FZ (Fj (An (Ga (K:=K)) rfl T.DG Dd (Aa (pv 8) (Aa (JC (v:=.ty "tuple") rfl T.Ac0 AaK rfl) Ad))))) (pw_or (Bc KN (An (Am (K:=K)) rfl T.Ew Dc (Aa (pv 8) Ad)) Af (Bh _)) (pw_or1 (Bc (Acf (K:=K) (hr.Aa9)) (pv 7) (pv 6) (Bh _))))))
    (Ag (Bg Fe))
    Bj)
   (Ab (Ak (i:=9) Dm.nd rfl (Or.inl rfl) (Aq (Ay (K:=K)) (pv 8) Af (fun _ _=>rfl)))
   (Ab (Ak (i:=10) Dm.nd rfl (Or.inl rfl) (Aq (Ay (K:=K)) (pv 8) Af (fun _ _=>rfl)))
   (Ab (Ak (i:=11) Dm.nd rfl (Or.inl rfl) (Aq (Ay (K:=K)) (pv 8) Af (fun _ _=>rfl)))
   (Ab (Dp (FZ (Fj (An (Ga (K:=K)) rfl T.DG Dd (Aa (pv 9) (Aa (JC (v:=.ty "list") rfl T.NZ JM rfl) Ad)))))
    (Ag (Bg Fe))
    Bj)
   (Ab (Dp (PW.pt (pw_or (FZ (Fj (Bd (QT.mono (by decide)) hr rfl T.Gm.m T.Gm.F.kp T.Gm.b .nil Cz (Aa (pv 10) (Aa (pv 4) (Aa (An (Am (K:=K)) rfl T.Ew Dc (Aa (pv 9) Ad)) Ad)))))) (pw_or1 (FZ (Fj (Bd (QT.mono (by decide)) hr rfl T.Gm.m T.Gm.F.kp T.Gm.b .nil Cz (Aa (pv 11) (Aa (pv 5) (Aa (An (Am (K:=K)) rfl T.Ew Dc (Aa (pv 9) Ad)) Ad)))))))))
    (Ag (Bg Fe))
    Bj)
   (Ab (Cw PassesOwn.never rfl (BP rfl T.CW (Aa (An (Am (K:=K)) rfl T.Ew Dc (Aa (pv 9) Ad)) Ad)) (Bp (i:=12) Dm.nd rfl (Or.inl rfl))
    (Ab (Ak (i:=13) Dm.nd rfl (Or.inl rfl) (Dg (K:=K) PySem.F.plainAttrs_list PySem.F.slot_list_count PySem.F.type_list_count (Gb (K:=K)) (pv 10) (Aa (pv 12) Ad)))
    (Ab (Ak (i:=14) Dm.nd rfl (Or.inl rfl) (Dg (K:=K) PySem.F.plainAttrs_list PySem.F.slot_list_count PySem.F.type_list_count (Gb (K:=K)) (pv 11) (Aa (pv 12) Ad)))
    (Ab (Dp (PW.pt (pw_or (Bc MK (Ar CZ (pv 13) (pv 14)) Af (Bh _)) (pw_or1 (FZ (Fj (Bd (V8.mono (by decide)) hr rfl T.JW.m T.JW.F.kp T.JW.b .nil Cz (Aa (Aq (Aw (K:=K)) (pv 9) (pv 12) (fun _ _=>rfl)) (Aa (pv 13) (Aa (pv 14) Ad)))))))))
     (Ag (Bg Fe))
     Bj)
    (Ag (Dp (FZ (Fj (Bd (X6.mono (by decide)) hr rfl T.M5.m T.M5.F.kp T.M5.b .nil Cz (Aa (Aq (Aw (K:=K)) (pv 9) (pv 12) (fun _ _=>rfl)) (Aa (pv 13) Ad)))))
     (Ag (Bg Fe))
     Bj))))))
   (Ab (Dp (FZ (Fj (Bd (YG.mono (by decide)) hr rfl T.OJ.m T.OJ.F.kp T.OJ.b .nil Cz (Aa (pv 6) (Aa (pv 9) (Aa (pv 10) (Aa (pv 11) Ad)))))))
    (Ag (Bg Fe))
    Bj)
   (Ab (Cw PassesOwn.never rfl (BP rfl T.CW (Aa (Ar Yd (An (Am (K:=K)) rfl T.Ew Dc (Aa (pv 9) Ad)) Af) Ad)) (Bp (i:=12) Dm.nd rfl (Or.inl rfl))
    (Ab (Ak (i:=15) Dm.nd rfl (Or.inl rfl) (Bd (S8.mono (by decide)) hr rfl T.Hs.m T.Hs.F.kp T.Hs.b .nil Cz (Aa (pv 10) (Aa (pv 11) (Aa (pv 12) Ad)))))
    (Ab (Ak (i:=16) Dm.nd rfl (Or.inl rfl) (Bd (S8.mono (by decide)) hr rfl T.Hs.m T.Hs.F.kp T.Hs.b .nil Cz (Aa (pv 10) (Aa (pv 11) (Aa (Ar CZ (pv 12) Af) Ad)))))
    (Ag (Dp (PW.pt (pw_and (Bc MK (Aq (Ay (K:=K)) (pv 15) Af (fun _ _=>rfl)) (Aq (Ay (K:=K)) (pv 16) Af (fun _ _=>rfl)) (Bh _)) (pw_and (Bc KN (Aq (Ay (K:=K)) (pv 15) Af (fun _ _=>rfl)) Af (Bh _)) (pw_and1 (Bc TY (Aq (Ay (K:=K)) (pv 15) Af (fun _ _=>rfl)) (Aq (Ay (K:=K)) (pv 16) Af (fun _ _=>rfl)) (Bh _))))))
     (Ag (Bg Fe))
     Bj)))))
   (Ag (Bg (Bd (QF.mono (by decide)) hr rfl T.Fy.m T.Fy.F.kp T.Fy.b .nil Cz (Aa (pv 7) (Aa (pv 6) (Aa (pv 8) Ad))))))))))))))))))))))))),?_⟩
  refine⟨_,rfl,a,ns,63,rfl,hS,hl,by decide,by decide,fun ln nu H1 s1 nln hln hN=>?_⟩
  obtain⟨c0,e0,_⟩:=hN.at (i:=0) (by decide) (by decide)
  obtain⟨c1,e1,_⟩:=hN.at (i:=1) (by decide) (by decide)
  obtain⟨c2,e2,_⟩:=hN.at (i:=2) (by decide) (by decide)
  obtain⟨c3,e3,_⟩:=hN.at (i:=3) (by decide) (by decide)
  have gn:SqL K H1 ln (vI nu):=SqL.of hln
  have tb1:=tb.same s1
  obtain⟨y0,hy0⟩:∃ y0:Nat,y0=6:=⟨_,rfl⟩
  refine Ab9 (i:=2) (v:=.int 6) (σ:=[some (.ref a),some (.ref ln),none,none,none,none,none,none,none,none,none,none,none,none,none,none,none]) (σ':=[some (.ref a),some (.ref ln),some (.int (y0:Int)),none,none,none,none,none,none,none,none,none,none,none,none,none,none]) (by rw[hy0];rfl) ?_
  apply AbC (fun y=>1≤y∧y≤40)
  ·intro rest
   obtain⟨yy,hyy⟩:∃ yy,yy=y0:=⟨_,rfl⟩
   rw[← hyy]
   refine⟨_,rfl,_,_,_,_,rfl,rfl,gn,e3,_,_,rfl,rfl,(by show(0:Int)<8;decide),rfl,_,rfl,?_⟩
   refine O1 ?tt ?ff
   case ff=>exact fun _=>rest yy (by omega)
   case tt=>exact fun _=>rest 12 (by omega)
  intro y1 hy1
  obtain⟨h0,eh0,hh1,hh2⟩:=AdU c0 (z:=3) (by decide) (y:=3) (by decide)
  refine⟨_,rfl,_,_,_,_,rfl,rfl,gn,e0,_,_,rfl,rfl,(by show(0:Int)<3;decide),_,_,rfl,rfl,?_⟩
  dsimp only
  rw[eh0]
  apply AbB (fun y h=>(1≤y∧y≤40)∧1≤h)
  ·intro rest
   obtain⟨yy,hyy⟩:∃ yy,yy=y1:=⟨_,rfl⟩
   obtain⟨hh,ehh⟩:∃ hh,hh=h0:=⟨_,rfl⟩
   rw[← hyy,← ehh]
   refine⟨_,rfl,_,_,_,_,rfl,rfl,gn,e3,_,_,rfl,rfl,(by show(0:Int)<16;decide),rfl,_,rfl,?_⟩
   refine O1 ?tt ?ff
   case ff=>exact fun _=>rest yy hh (by omega)
   case tt =>
    intro _
    refine Ab9 (i:=2) (v:=.int 40) (σ':=[some (.ref a),some (.ref ln),some (.int ((40:Nat):Int)),some (.int (hh:Int)),none,none,none,none,none,none,none,none,none,none,none,none,none]) rfl ?_
    exact rest 40 12 (by decide)
  rintro y h ⟨hy,hh⟩
  obtain⟨m,em,m1,m40⟩:=Z9 c1 hy.1 hy.2
  obtain⟨n,en,n1,n40⟩:=Z9 c2 hy.1 hy.2
  refine⟨_,rfl,_,_,_,_,rfl,rfl,gn,e1,_,rfl,_,_,rfl,rfl,(by show(0:Int)<(y:Int);omega),_,_,rfl,rfl,?_⟩
  dsimp only
  rw[em]
  refine⟨_,rfl,_,_,_,_,rfl,rfl,gn,e2,_,rfl,_,_,rfl,rfl,(by show(0:Int)<(y:Int);omega),_,_,rfl,rfl,?_⟩
  dsimp only
  rw[en]
  refine⟨_,rfl,_,rfl,_,rfl,_,rfl,ln,nu,m,n,h,rfl,gn,hN,m1,m40,n1,n40,hh,fun lg cl H2 s2 nlg hlg C=>?_⟩
  refine⟨_,rfl,_,_,rfl,.inl (SqL.of hlg),fun lh nlh=>?_⟩
  have s3:Al H2 (upd H2 lh (.lst (vS cl))):=.upd nlh
  have g3:(upd H2 lh (.lst (vS cl))) lh=some (.lst (vS cl)):=Ae
  generalize upd H2 lh (.lst (vS cl))=H3 at s3 g3 ⊢
  have AfC:=s3 _ _ hlg
  have tb3:=(tb1.same s2).same s3
  refine⟨_,rfl,lh,cl,m,n,rfl,SqL.of g3,C,tb3,fun tp H4 lp q1 q2 as tss dA dB eo po ks x4 tb4 nw nn pA pB decA FQ L pc ht N h1 h2=>?_⟩
  have Aee:=x4.lst AfC
  have AfD:=x4.lst g3
  have few:=L.few
  have kl:=pc.len
  have tl:(as.map V.ref).length=tss.length:=by rw[AhZ,N.l,AhZ]
  refine⟨_,rfl,_,_,true,.tup ht,.inl ⟨_,rfl,J5 K _⟩,_,rfl,Jc ?_⟩
  refine⟨_,rfl,_,_,rfl,.inr (SqT.of ht),rfl,_,rfl,?_⟩
  refine KQ rfl ?_
  refine⟨_,rfl,_,rfl,_,_,_,_,rfl,rfl,SqL.of AfD,SqL.of Aee,Mx _,Mx _,_,rfl,?_⟩
  rw[KR (Mx _)]
  refine Jc ?_
  refine⟨_,rfl,_,_,_,_,rfl,rfl,SqT.of ht,(show atI [V.ref lp,V.ref q1,V.ref q2] 0=some (V.ref lp) from rfl),?_⟩
  refine⟨_,rfl,_,_,_,_,rfl,rfl,SqT.of ht,(show atI [V.ref lp,V.ref q1,V.ref q2] 1=some (V.ref q1) from rfl),?_⟩
  refine⟨_,rfl,_,_,_,_,rfl,rfl,SqT.of ht,(show atI [V.ref lp,V.ref q1,V.ref q2] 2=some (V.ref q2) from rfl),?_⟩
  refine⟨_,rfl,_,_,true,.lst N.h,.inl ⟨_,rfl,J5 K _⟩,_,rfl,Jc ?_⟩
  have bd:∀ z∈ks,0≤z∧z<(tss.length:Int):=fun z hz=>by
   obtain⟨x,hx,e⟩:=Aiu hz
   obtain⟨i,hi,ei⟩:=pc.bd L (x:=x) (by omega)
   rw[Aic,AhY hx] at ei
   have:z=(i:Int):=by rw[← e];exact ei
   omega
  have el:(ks.take m).length=m:=by rw[Aib];omega
  have ol:(ks.drop m).length=n:=by rw[Aim];omega
  refine⟨_,rfl,_,rfl,_,rfl,_,_,rfl,.inl (SqL.of N.h),q1,ks.take m,m,tss.length,(by rw[tl];rfl),h1,el,(fun z hz=>bd z (Ai4 hz)),_,rfl,Jc ?_⟩
  refine⟨_,rfl,_,rfl,_,rfl,_,_,rfl,.inl (SqL.of N.h),q2,ks.drop m,n,tss.length,(by rw[tl];rfl),h2,ol,(fun z hz=>bd z (AiL hz)),_,rfl,Jc ?_⟩
  refine⟨_,rfl,_,_,rfl,.inl (SqL.of N.h),_,rfl,(by rw[tl];omega),(by rw[tl];omega),?_⟩
  rw[tl,Air]
  refine Cp (lo:=0) (n:=tss.length) (fun i σ H5=>∃(v12 v13 v14:Option V),σ=[some (.ref a),some (.ref ln),some (.int (y:Int)),some (.int (h:Int)),some (.int (m:Int)),some (.int (n:Int)),some (.ref lg),some (.ref lh),some (.ref tp),some (.ref lp),some (.ref q1),some (.ref q2),v12,v13,v14,none,none]∧Al H4 H5) ⟨none,none,none,rfl,.refl _⟩ ?_ ?_
  ·rintro i σ H5 hi ⟨v12,v13,v14,rfl,s5⟩
   have R:=pc.pcr L C hi
   have HN:=pc.hng (Aec C pA pB decA FQ L.oE L.oP) L rfl hi
   obtain⟨pa,hpa,hpb⟩:=N.get (i:=i) (by rw[AhZ];exact hi)
   rw[Aj8] at hpb
   rw[show(0:Int)+(i:Int)=(i:Int) from Aja _]
   refine⟨_,rfl,.inl ⟨rfl,_,SqL.of (s5 _ _ h1)⟩,_,rfl,q1,ks.take m,(i:Int),rfl,rfl,SqL.of (s5 _ _ h1),?_⟩
   refine⟨_,rfl,.inl ⟨rfl,_,SqL.of (s5 _ _ h2)⟩,_,rfl,q2,ks.drop m,(i:Int),rfl,rfl,SqL.of (s5 _ _ h2),?_⟩
   refine⟨_,rfl,_,rfl,_,_,rfl,rfl,rfl,_,rfl,?_⟩
   refine QR (fun q=>by have:=V.int.inj q;have:=R.h1;omega) ?_
   refine⟨_,rfl,_,rfl,_,_,_,_,rfl,rfl,SqL.of (s5 _ _ N.h),Bb (by omega) (by rw[Air];exact hpa),_,rfl,_,rfl,pa,pOf cl m tss[i],_,_,rfl,s5 _ _ hpb,R.hn,R.w40,R.hm,_,rfl,Jc ?_⟩
   refine⟨_,rfl,_,rfl,_,_,_,_,rfl,rfl,SqL.of (s5 _ _ N.h),Bb (by omega) (by rw[Air];exact hpa),_,rfl,pa,pOf cl m tss[i],_,_,rfl,SqL.of (s5 _ _ hpb),R,HN,fun H6 s6=>?_⟩
   refine⟨_,rfl,Jc ?_⟩
   exact⟨_,_,_,rfl,s5.trans s6⟩
  ·rintro σ H5 ⟨v12,v13,v14,rfl,s5⟩
   have N5:TL H5 lp as (tss.map (pOf cl m)):=N.same s5
   refine⟨_,rfl,_,rfl,_,rfl,_,rfl,lg,lp,q1,q2,cl,m,n,tss,_,eo,po,ks,as,rfl,SqL.of (s5 _ _ Aee),C,N5,s5 _ _ h1,s5 _ _ h2,L,pc,fun H6 s6=>?_⟩
   refine⟨_,rfl,Jc ?_⟩
   have s46:=s5.trans s6
   refine⟨_,rfl,_,_,rfl,.inl (SqL.of (s46 _ _ N.h)),_,_,rfl,rfl,_,rfl,?_,?_,?_⟩
   ·rw[tl];omega
   ·rw[tl];omega
   rw[tl,show((tss.length:Int)-1).toNat=tss.length-1 by omega]
   refine Cp (lo:=0) (n:=tss.length-1) (fun i σ H7=>∃(v12 v13 v14 v15 v16:Option V),σ=[some (.ref a),some (.ref ln),some (.int (y:Int)),some (.int (h:Int)),some (.int (m:Int)),some (.int (n:Int)),some (.ref lg),some (.ref lh),some (.ref tp),some (.ref lp),some (.ref q1),some (.ref q2),v12,v13,v14,v15,v16]∧Al H4 H7) ⟨_,_,_,_,_,rfl,s46⟩ ?_ ?_
   ·rintro i σ H7 hi ⟨v12,v13,v14,v15,v16,rfl,s7⟩
    rw[show(0:Int)+(i:Int)=(i:Int) from Aja _]
    refine⟨_,rfl,_,rfl,_,rfl,q1,q2,ks.take m,ks.drop m,(i:Int),rfl,s7 _ _ h1,s7 _ _ h2,(by omega),(by omega),fun p1 k1 j1 r1 np1=>?_⟩
    have s8:=s7.new np1 (o:=.tup [.int k1,.int (j1:Int)])
    have g8:(upd H7 p1 (.tup [.int k1,.int (j1:Int)])) p1=some (.tup [.int k1,.int (j1:Int)]):=Ae
    generalize upd H7 p1 (.tup [.int k1,.int (j1:Int)])=H8 at s8 g8 ⊢
    refine⟨_,rfl,_,rfl,_,rfl,_,_,rfl,rfl,q1,q2,ks.take m,ks.drop m,(i:Int)+1,rfl,s8 _ _ h1,s8 _ _ h2,(by omega),(by omega),fun p2 k2 j2 r2 np2=>?_⟩
    have x9:Al H8 (upd H8 p2 (.tup [.int k2,.int (j2:Int)])):=.upd np2
    have g9:(upd H8 p2 (.tup [.int k2,.int (j2:Int)])) p2=some (.tup [.int k2,.int (j2:Int)]):=Ae
    generalize upd H8 p2 (.tup [.int k2,.int (j2:Int)])=H9 at x9 g9 ⊢
    have s9:=s8.trans x9
    have g89:=x9 _ _ g8
    have r2':Xy (ks.take m) (ks.drop m) ((i+1:Nat):Int) k2 j2:=by
     rw[show((i+1:Nat):Int)=(i:Int)+1 by omega]
     exact r2
    refine⟨_,rfl,_,_,_,_,rfl,rfl,SqT.of g89,(show atI [V.int k1,V.int (j1:Int)] 0=some (V.int k1) from rfl),_,rfl,_,_,_,_,rfl,rfl,SqT.of g9,(show atI [V.int k2,V.int (j2:Int)] 0=some (V.int k2) from rfl),rfl,_,rfl,?_⟩
    refine O1 (fun e1=>?_) (fun _=>⟨_,_,_,_,_,rfl,s9⟩)
    refine⟨_,rfl,_,_,_,_,rfl,rfl,SqT.of g89,(show atI [V.int k1,V.int (j1:Int)] 0=some (V.int k1) from rfl),rfl,_,rfl,?_⟩
    by_cases e2:k1=2
    ·refine KQ (congrArg V.int e2) ?_
     exact⟨_,_,_,_,_,rfl,s9⟩
    ·refine Zj (fun q=>e2 (V.int.inj q)) ?_
     have lt:=pc.AfB L (i:=i) (by omega) r1 r2' (V.int.inj e1) e2
     refine⟨_,rfl,_,_,_,_,rfl,rfl,SqT.of g89,(show atI [V.int k1,V.int (j1:Int)] 1=some (V.int (j1:Int)) from rfl),_,rfl,_,_,_,_,rfl,rfl,SqT.of g9,(show atI [V.int k2,V.int (j2:Int)] 1=some (V.int (j2:Int)) from rfl),_,_,rfl,rfl,_,rfl,?_⟩
     refine QR (by omega) ?_
     exact⟨_,_,_,_,_,rfl,s9⟩
   ·rintro σ H7 ⟨v12,v13,v14,v15,v16,rfl,s7⟩
    have nw':∀ r∈lp::q1::q2::as,r≠lh∧r≠lg:=fun r hr=>⟨fun e=>nw r hr _ (e▸g3),fun e=>nw r hr _ (e▸AfC)⟩
    have sm:∀ u∈tss.map (pOf cl m),u.length≤80:=fun u hu=>by
     obtain⟨ts,hts,rfl⟩:=List.mem_map.mp hu
     obtain⟨i,hi,rfl⟩:=Aiu hts
     have R:=pc.pcr L C hi
     have:=R.hn
     have:=R.h40
     omega
    exact⟨_,rfl,_,rfl,_,rfl,lh,lg,tp,lp,q1,q2,as,cl,m,n,tss,dA,dB,eo,po,ks,rfl,s7 _ _ AfD,s7 _ _ Aee,C,tb4.same s7,s7 _ _ ht,N.same s7,s7 _ _ h1,s7 _ _ h2,nw',pA,pB,decA,FQ,L,pc,sm,fun H'=>k H'⟩
end
theorem Aef{P:Program}{w:World}{K:PySem.W.Frag}{h:Heap}{mg:Str→Option Value}{fa tc tT:Addr}{t1:Value}{t2:Option Addr}{t3:Array (Option Value)}{tvs:Array Value}{Cv:Addr}{X7 QV:Option Addr}{X8:Array (Option Value)}{XC QW QX QZ Ln Ra:Value}
    {Bv:Addr}{Pk HQ:Option Addr}{Pn:Array (Option Value)}{Pq HR HS HW FJ HX:Value}
    {CK:Addr}{T5 Nf:Option Addr}{T7:Array (Option Value)}{T9 Ng Nh Ni Jj Nj:Value}
    {Du:Addr}{V9 Pr:Option Addr}{VB:Array (Option Value)}{VD Pu Px Py JX P0:Value}
    {CP:Addr}{VF PB:Option Addr}{VG:Array (Option Value)}{VH PJ PN PQ JZ PX:Value}
    {Fi:Addr}{YH S9:Option Addr}{YJ:Array (Option Value)}{YK SJ SM SN Oa SQ:Value}
    {CQ:Addr}{VJ Ka:Option Addr}{VL:Array (Option Value)}{VM Kc Kd Ke FN Kf:Value}
    {BL:Addr}{QG J6:Option Addr}{QH:Array (Option Value)}{QJ J7 J8 J9 Gn JB:Value}
    {BX:Addr}{SX Lp:Option Addr}{Tc:Array (Option Value)}{Td Lq Lr Ls Ht Lw:Value}
    {Ea:Addr}{XD Rb:Option Addr}{XF:Array (Option Value)}{XH Rc Rf Rg Ly Rh:Value}
    {GF:Addr}{Aay Uw:Option Addr}{Aaz:Array (Option Value)}{Aa0 Ux Uy Uz QK U0:Value}
    {Ck:Addr}{Te Lz:Option Addr}{Tf:Array (Option Value)}{Tg LC LK LQ Hu LR:Value}
    {Dv:Addr}{VN Qa:Option Addr}{VP:Array (Option Value)}{VR Qc Qd Qe Kg Qf:Value}
    {Cm:Addr}{Th Ma:Option Addr}{Ti:Array (Option Value)}{Tj Mg Mh Mi Hv Mj:Value}
    {Dw:Addr}{VV Qg:Option Addr}{Wa:Array (Option Value)}{Wb Qh Qi Qj Kh Qk:Value}
    {Dy:Addr}{Wc Ql:Option Addr}{Wd:Array (Option Value)}{We Qm Qn Qo Kl Qp:Value}
    {CV:Addr}{TF Nk:Option Addr}{TJ:Array (Option Value)}{TQ Nm Np Nq Jk Nr:Value}
    {Eb:Addr}{XJ Ri:Option Addr}{XM:Array (Option Value)}{XN Rj Rk Rm Ml Rn:Value}
    {Ed:Addr}{XQ Ro:Option Addr}{XR:Array (Option Value)}{XS Rp Rq Rr Mm Ru:Value}
    {Bw:Addr}{Qq HY:Option Addr}{Qs:Array (Option Value)}{Qt Ia Ib Ie FP Ig:Value}
    {Sw:Addr}{Aeg AbD:Option Addr}{Aeh:Array (Option Value)}{Aei AbE AbF AbG YL AbH:Value}
    {Tn:Tok}
    {Be:Addr}
    {Ca:Addr}
    (X:K.In h) (G:h.Ns mainGlobals mg) (hfa:mg "law" = some (.ref fa))
    (Ob:PySem.W.nsIn K mainGlobals "measured" = some (some (.ref Cv)))
    (Km:K.lookup Cv=some ⟨XC,X7,.func (PySem.W.fnOf "measured" "measured" (Ai Dj) (Ah Dj) (Ac Dj) .none QW QX QZ QV Ln Ra),X8⟩)
    (Ko:PySem.W.codeIn K Ln "measured" = true)
    (Kp:PySem.W.keepIn K (.ref Cv)=true)
    (Gp:PySem.W.nsIn K mainGlobals "measured_texts" = some (some (.ref Bv)))
    (Em:K.lookup Bv=some ⟨Pq,Pk,.func (PySem.W.fnOf "measured_texts" "measured_texts" (Ai Ba) (Ah Ba) (Ac Ba) .none HR HS HW HQ FJ HX),Pn⟩)
    (En:PySem.W.codeIn K FJ "measured_texts" = true)
    (Eo:PySem.W.keepIn K (.ref Bv)=true)
    (Kq:PySem.W.nsIn K mainGlobals "check_pick" = some (some (.ref CK)))
    (Hf:K.lookup CK=some ⟨T9,T5,.func (PySem.W.fnOf "check_pick" "check_pick" (Ai BV) (Ah BV) (Ac BV) .none Ng Nh Ni Nf Jj Nj),T7⟩)
    (Hg:PySem.W.codeIn K Jj "check_pick" = true)
    (Hh:PySem.W.keepIn K (.ref CK)=true)
    (Mp:PySem.W.nsIn K mainGlobals "end_signs" = some (some (.ref Du)))
    (Ih:K.lookup Du=some ⟨VD,V9,.func (PySem.W.fnOf "end_signs" "end_signs" (Ai BZ) (Ah BZ) (Ac BZ) .none Pu Px Py Pr JX P0),VB⟩)
    (Ii:PySem.W.codeIn K JX "end_signs" = true)
    (Ij:PySem.W.keepIn K (.ref Du)=true)
    (Mq:PySem.W.nsIn K mainGlobals "scores_of" = some (some (.ref CP)))
    (Ik:K.lookup CP=some ⟨VH,VF,.func (PySem.W.fnOf "scores_of" "scores_of" (Ai BK) (Ah BK) (Ac BK) .none PJ PN PQ PB JZ PX),VG⟩)
    (Il:PySem.W.codeIn K JZ "scores_of" = true)
    (Im:PySem.W.keepIn K (.ref CP)=true)
    (QL:PySem.W.nsIn K mainGlobals "tops_of" = some (some (.ref Fi)))
    (M7:K.lookup Fi=some ⟨YK,YH,.func (PySem.W.fnOf "tops_of" "tops_of" (Ai DP) (Ah DP) (Ac DP) .none SJ SM SN S9 Oa SQ),YJ⟩)
    (M8:PySem.W.codeIn K Oa "tops_of" = true)
    (M9:PySem.W.keepIn K (.ref Fi)=true)
    (Io:PySem.W.nsIn K mainGlobals "layers_of" = some (some (.ref CQ)))
    (GJ:K.lookup CQ=some ⟨VM,VJ,.func (PySem.W.fnOf "layers_of" "layers_of" (Ai Bu) (Ah Bu) (Ac Bu) .none Kc Kd Ke Ka FN Kf),VL⟩)
    (Ip:PySem.W.codeIn K FN "layers_of" = true)
    (Ir:PySem.W.keepIn K (.ref CQ)=true)
    (GQ:PySem.W.nsIn K mainGlobals "layer_numbers" = some (some (.ref BL)))
    (Ey:K.lookup BL=some ⟨QJ,QG,.func (PySem.W.fnOf "layer_numbers" "layer_numbers" (Ai Az) (Ah Az) (Ac Az) .none J7 J8 J9 J6 Gn JB),QH⟩)
    (Ez:PySem.W.codeIn K Gn "layer_numbers" = true)
    (EY:PySem.W.keepIn K (.ref BL)=true)
    (Jl:PySem.W.nsIn K mainGlobals "taken_apart" = some (some (.ref BX)))
    (Gw:K.lookup BX=some ⟨Td,SX,.func (PySem.W.fnOf "taken_apart" "taken_apart" (Ai Bl) (Ah Bl) (Ac Bl) .none Lq Lr Ls Lp Ht Lw),Tc⟩)
    (Gx:PySem.W.codeIn K Ht "taken_apart" = true)
    (Gy:PySem.W.keepIn K (.ref BX)=true)
    (Oc:PySem.W.nsIn K mainGlobals "piece_of" = some (some (.ref Ea)))
    (Kr:K.lookup Ea=some ⟨XH,XD,.func (PySem.W.fnOf "piece_of" "piece_of" (Ai BR) (Ah BR) (Ac BR) .none Rc Rf Rg Rb Ly Rh),XF⟩)
    (Ks:PySem.W.codeIn K Ly "piece_of" = true)
    (Ku:PySem.W.keepIn K (.ref Ea)=true)
    (Tp:PySem.W.nsIn K mainGlobals "picked" = some (some (.ref GF)))
    (Qu:K.lookup GF=some ⟨Aa0,Aay,.func (PySem.W.fnOf "picked" "picked" (Ai DX) (Ah DX) (Ac DX) .none Ux Uy Uz Uw QK U0),Aaz⟩)
    (Qv:PySem.W.codeIn K QK "picked" = true)
    (Qw:PySem.W.keepIn K (.ref GF)=true)
    (Jm:PySem.W.nsIn K mainGlobals "_law_numbers" = some (some (.ref Ck)))
    (Gz:K.lookup Ck=some ⟨Tg,Te,.func (PySem.W.fnOf "_law_numbers" "_law_numbers" (Ai By) (Ah By) (Ac By) .none LC LK LQ Lz Hu LR),Tf⟩)
    (G3:PySem.W.codeIn K Hu "_law_numbers" = true)
    (G4:PySem.W.keepIn K (.ref Ck)=true)
    (Mr:PySem.W.nsIn K mainGlobals "_law_cloth" = some (some (.ref Dv)))
    (Iu:K.lookup Dv=some ⟨VR,VN,.func (PySem.W.fnOf "_law_cloth" "_law_cloth" (Ai Cg) (Ah Cg) (Ac Cg) .none Qc Qd Qe Qa Kg Qf),VP⟩)
    (Iv:PySem.W.codeIn K Kg "_law_cloth" = true)
    (Iw:PySem.W.keepIn K (.ref Dv)=true)
    (Jo:PySem.W.nsIn K mainGlobals "_law_reached" = some (some (.ref Cm)))
    (G5:K.lookup Cm=some ⟨Tj,Th,.func (PySem.W.fnOf "_law_reached" "_law_reached" (Ai Bo) (Ah Bo) (Ac Bo) .none Mg Mh Mi Ma Hv Mj),Ti⟩)
    (G6:PySem.W.codeIn K Hv "_law_reached" = true)
    (G7:PySem.W.keepIn K (.ref Cm)=true)
    (Ms:PySem.W.nsIn K mainGlobals "_law_hangs" = some (some (.ref Dw)))
    (Iz:K.lookup Dw=some ⟨Wb,VV,.func (PySem.W.fnOf "_law_hangs" "_law_hangs" (Ai Ci) (Ah Ci) (Ac Ci) .none Qh Qi Qj Qg Kh Qk),Wa⟩)
    (IK:PySem.W.codeIn K Kh "_law_hangs" = true)
    (IV:PySem.W.keepIn K (.ref Dw)=true)
    (Mt:PySem.W.nsIn K mainGlobals "_law_owned" = some (some (.ref Dy)))
    (IW:K.lookup Dy=some ⟨We,Wc,.func (PySem.W.fnOf "_law_owned" "_law_owned" (Ai Cj) (Ah Cj) (Ac Cj) .none Qm Qn Qo Ql Kl Qp),Wd⟩)
    (Ja:PySem.W.codeIn K Kl "_law_owned" = true)
    (Jb:PySem.W.keepIn K (.ref Dy)=true)
    (Kv:PySem.W.nsIn K mainGlobals "_law_formed" = some (some (.ref CV)))
    (Hi:K.lookup CV=some ⟨TQ,TF,.func (PySem.W.fnOf "_law_formed" "_law_formed" (Ai BW) (Ah BW) (Ac BW) .none Nm Np Nq Nk Jk Nr),TJ⟩)
    (Hj:PySem.W.codeIn K Jk "_law_formed" = true)
    (Hk:PySem.W.keepIn K (.ref CV)=true)
    (Od:PySem.W.nsIn K mainGlobals "_law_lies" = some (some (.ref Eb)))
    (Kw:K.lookup Eb=some ⟨XN,XJ,.func (PySem.W.fnOf "_law_lies" "_law_lies" (Ai Dk) (Ah Dk) (Ac Dk) .none Rj Rk Rm Ri Ml Rn),XM⟩)
    (Ky:PySem.W.codeIn K Ml "_law_lies" = true)
    (Kz:PySem.W.keepIn K (.ref Eb)=true)
    (Oe:PySem.W.nsIn K mainGlobals "_law_lone" = some (some (.ref Ed)))
    (K1:K.lookup Ed=some ⟨XS,XQ,.func (PySem.W.fnOf "_law_lone" "_law_lone" (Ai Dl) (Ah Dl) (Ac Dl) .none Rp Rq Rr Ro Mm Ru),XR⟩)
    (K3:PySem.W.codeIn K Mm "_law_lone" = true)
    (K4:PySem.W.keepIn K (.ref Ed)=true)
    (Gq:PySem.W.nsIn K mainGlobals "_law_told_again" = some (some (.ref Bw)))
    (Ep:K.lookup Bw=some ⟨Qt,Qq,.func (PySem.W.fnOf "_law_told_again" "_law_told_again" (Ai Ax) (Ah Ax) (Ac Ax) .none Ia Ib Ie HY FP Ig),Qs⟩)
    (Er:PySem.W.codeIn K FP "_law_told_again" = true)
    (Es:PySem.W.keepIn K (.ref Bw)=true)
    (ZC:PySem.W.nsIn K mainGlobals "law" = some (some (.ref Sw)))
    (ZD:K.lookup Sw=some ⟨Aei,Aeg,.func (PySem.W.fnOf "law" "law" (Ai MT) (Ah MT) (Ac MT) .none AbE AbF AbG AbD YL AbH),Aeh⟩)
    (ZF:PySem.W.codeIn K YL "law" = true)
    (ZG:PySem.W.keepIn K (.ref Sw)=true)
    (AbI:PySem.W.nsIn K mainGlobals "all" = some none)
    (YM:PySem.W.nsIn K mainGlobals "bool" = some none)
    (Mu:PySem.W.nsIn K mainGlobals "enumerate" = some none)
    (AbJ:PySem.W.nsIn K mainGlobals "int" = some none)
    (K5:PySem.W.nsIn K mainGlobals "isinstance" = some none)
    (AbK:PySem.W.nsIn K mainGlobals "len" = some none)
    (YQ:PySem.W.nsIn K mainGlobals "list" = some none)
    (Wf:PySem.W.nsIn K mainGlobals "range" = some none)
    (Tq:PySem.W.nsIn K mainGlobals "sorted" = some none)
    (AbL:PySem.W.nsIn K mainGlobals "str" = some none)
    (AbM:PySem.W.nsIn K mainGlobals "sum" = some none)
    (Wg:PySem.W.nsIn K mainGlobals "tuple" = some none)
    (AbN:PySem.W.nsIn K mainGlobals "zip" = some none)
    (Hw:PySem.W.nsIn K mainGlobals "MOST_STRANDS" = some (some (.int 40 Tn)))
    (K6:PySem.W.nsIn K mainGlobals "WeaveError" = some (some (.ref Be)))
    (QM:PySem.W.nsIn K mainGlobals "NoCloth" = some (some (.ref Ca)))
    (Jp:PySem.W.excIn K Be vE vN=true)
    (Jq:PySem.W.findIn K (.ref Be) "__getattribute__" = some (some (.builtin "BaseException.__getattribute__")))
    (Jr:PySem.W.findIn K (.ref Be) "__getattr__" = some none)
    (Js:PySem.W.findIn K (.ref Be) "__class__" = some (some (.builtin "object.__class__")))
    (G8:PySem.W.specialIn K (.builtin "object.__class__") "__get__" = some (some (.builtin "getset_descriptor.__get__")))
    (G9:PySem.W.takesIn K (.builtin "object.__class__")=some true)
    (Jt:PySem.W.mroIn K Be (.type "object")=some true)
    (Ju:PySem.W.mroIn K Be (.type "BaseException")=some true)
    (Jv:PySem.W.isClsIn K Be=true)
    (Hy:PySem.W.typeIn K (.ref Be)=some (.type "type"))
    (Hz:PySem.W.mroIn K Be (.type "ValueError")=some true)
    (Og:PySem.W.excIn K Ca vE vN=true)
    (Oh:PySem.W.findIn K (.ref Ca) "__getattribute__" = some (some (.builtin "BaseException.__getattribute__")))
    (Oi:PySem.W.findIn K (.ref Ca) "__getattr__" = some none)
    (Oj:PySem.W.findIn K (.ref Ca) "__class__" = some (some (.builtin "object.__class__")))
    (Ol:PySem.W.mroIn K Ca (.type "object")=some true)
    (Om:PySem.W.mroIn K Ca (.type "BaseException")=some true)
    (Oo:PySem.W.isClsIn K Ca=true)
    (Mv:PySem.W.typeIn K (.ref Ca)=some (.type "type"))
    (Mw:PySem.W.mroIn K Ca (.type "ValueError")=some true)
    (tab0:FN=.ref tc) (Aej:K.lookup tc=some ⟨t1,t2,.fields tvs,t3⟩) (Aek:(tvs[11]?:Option Value)=some (.ref tT)) (Ael:PySem.W.noTabs K=true) :
    ∃(fd:FuncData) (c T:Addr),(∀(s:Shared) (v:Value),BindsTo s fd ⟨[v],[]⟩ [("script", v)])∧PySem.W.tabIn K "layers_of" = some (c,T)∧PySem.W.noTabs K=true∧∀ base:Heap,K.In base→base.Ns mainGlobals mg→PySem.W.CodeHd base c T→Bm mg base→Bx P w K mg base CX0 10 fa fd ["script"] (V6 K T):=by
  have T:Txt K mg ⟨Cv,PySem.W.fnOf "measured" "measured" (Ai Dj) (Ah Dj) (Ac Dj) .none QW QX QZ QV Ln Ra,Bv,PySem.W.fnOf "measured_texts" "measured_texts" (Ai Ba) (Ah Ba) (Ac Ba) .none HR HS HW HQ FJ HX,CK,PySem.W.fnOf "check_pick" "check_pick" (Ai BV) (Ah BV) (Ac BV) .none Ng Nh Ni Nf Jj Nj,Du,PySem.W.fnOf "end_signs" "end_signs" (Ai BZ) (Ah BZ) (Ac BZ) .none Pu Px Py Pr JX P0,CP,PySem.W.fnOf "scores_of" "scores_of" (Ai BK) (Ah BK) (Ac BK) .none PJ PN PQ PB JZ PX,Fi,PySem.W.fnOf "tops_of" "tops_of" (Ai DP) (Ah DP) (Ac DP) .none SJ SM SN S9 Oa SQ,CQ,PySem.W.fnOf "layers_of" "layers_of" (Ai Bu) (Ah Bu) (Ac Bu) .none Kc Kd Ke Ka FN Kf,BL,PySem.W.fnOf "layer_numbers" "layer_numbers" (Ai Az) (Ah Az) (Ac Az) .none J7 J8 J9 J6 Gn JB,BX,PySem.W.fnOf "taken_apart" "taken_apart" (Ai Bl) (Ah Bl) (Ac Bl) .none Lq Lr Ls Lp Ht Lw,Ea,PySem.W.fnOf "piece_of" "piece_of" (Ai BR) (Ah BR) (Ac BR) .none Rc Rf Rg Rb Ly Rh,GF,PySem.W.fnOf "picked" "picked" (Ai DX) (Ah DX) (Ac DX) .none Ux Uy Uz Uw QK U0,Ck,PySem.W.fnOf "_law_numbers" "_law_numbers" (Ai By) (Ah By) (Ac By) .none LC LK LQ Lz Hu LR,Dv,PySem.W.fnOf "_law_cloth" "_law_cloth" (Ai Cg) (Ah Cg) (Ac Cg) .none Qc Qd Qe Qa Kg Qf,Cm,PySem.W.fnOf "_law_reached" "_law_reached" (Ai Bo) (Ah Bo) (Ac Bo) .none Mg Mh Mi Ma Hv Mj,Dw,PySem.W.fnOf "_law_hangs" "_law_hangs" (Ai Ci) (Ah Ci) (Ac Ci) .none Qh Qi Qj Qg Kh Qk,Dy,PySem.W.fnOf "_law_owned" "_law_owned" (Ai Cj) (Ah Cj) (Ac Cj) .none Qm Qn Qo Ql Kl Qp,CV,PySem.W.fnOf "_law_formed" "_law_formed" (Ai BW) (Ah BW) (Ac BW) .none Nm Np Nq Nk Jk Nr,Eb,PySem.W.fnOf "_law_lies" "_law_lies" (Ai Dk) (Ah Dk) (Ac Dk) .none Rj Rk Rm Ri Ml Rn,Ed,PySem.W.fnOf "_law_lone" "_law_lone" (Ai Dl) (Ah Dl) (Ac Dl) .none Rp Rq Rr Ro Mm Ru,Bw,PySem.W.fnOf "_law_told_again" "_law_told_again" (Ai Ax) (Ah Ax) (Ac Ax) .none Ia Ib Ie HY FP Ig,Sw,PySem.W.fnOf "law" "law" (Ai MT) (Ah MT) (Ac MT) .none AbE AbF AbG AbD YL AbH,Be,Ca⟩ :=
  ⟨⟨Av (st:=Dj) Km Ko Kp,PySem.W.mg_of X G Ob,(Av (st:=Dj) Km Ko Kp).binds (ps:=["cloth"]) fun _ _ _ _ _ _ us hl=>bl1 (fun _=>rfl) us hl⟩,
   ⟨Av (st:=Ba) Em En Eo,PySem.W.mg_of X G Gp,(Av (st:=Ba) Em En Eo).binds (ps:=["texts", "least", "signs"]) fun _ _ _ _ _ _ us hl=>bl3 (fun _ _ _=>rfl) us hl⟩,
   ⟨Av (st:=BV) Hf Hg Hh,PySem.W.mg_of X G Kq,(Av (st:=BV) Hf Hg Hh).binds (ps:=["text", "ends", "signs"]) fun _ _ _ _ _ _ us hl=>bl3 (fun _ _ _=>rfl) us hl⟩,
   ⟨Av (st:=BZ) Ih Ii Ij,PySem.W.mg_of X G Mp,(Av (st:=BZ) Ih Ii Ij).binds (ps:=["cloth", "end"]) fun _ _ _ _ _ _ us hl=>bl2 (fun _ _=>rfl) us hl⟩,
   ⟨Av (st:=BK) Ik Il Im,PySem.W.mg_of X G Mq,(Av (st:=BK) Ik Il Im).binds (ps:=["cloth"]) fun _ _ _ _ _ _ us hl=>bl1 (fun _=>rfl) us hl⟩,
   ⟨Av (st:=DP) M7 M8 M9,PySem.W.mg_of X G QL,(Av (st:=DP) M7 M8 M9).binds (ps:=["cloth"]) fun _ _ _ _ _ _ us hl=>bl1 (fun _=>rfl) us hl⟩,
   ⟨Av (st:=Bu) GJ Ip Ir,PySem.W.mg_of X G Io,(Av (st:=Bu) GJ Ip Ir).binds (ps:=["cloth"]) fun _ _ _ _ _ _ us hl=>bl1 (fun _=>rfl) us hl⟩,
   ⟨Av (st:=Az) Ey Ez EY,PySem.W.mg_of X G GQ,(Av (st:=Az) Ey Ez EY).binds (ps:=["cloth"]) fun _ _ _ _ _ _ us hl=>bl1 (fun _=>rfl) us hl⟩,
   ⟨Av (st:=Bl) Gw Gx Gy,PySem.W.mg_of X G Jl,(Av (st:=Bl) Gw Gx Gy).binds (ps:=["cloth"]) fun _ _ _ _ _ _ us hl=>bl1 (fun _=>rfl) us hl⟩,
   ⟨Av (st:=BR) Kr Ks Ku,PySem.W.mg_of X G Oc,(Av (st:=BR) Kr Ks Ku).binds (ps:=["cloth", "ends", "layer"]) fun _ _ _ _ _ _ us hl=>bl3 (fun _ _ _=>rfl) us hl⟩,
   ⟨Av (st:=DX) Qu Qv Qw,PySem.W.mg_of X G Tp,(Av (st:=DX) Qu Qv Qw).binds (ps:=["text", "places"]) fun _ _ _ _ _ _ us hl=>bl2 (fun _ _=>rfl) us hl⟩,
   ⟨Av (st:=By) Gz G3 G4,PySem.W.mg_of X G Jm,(Av (st:=By) Gz G3 G4).binds (ps:=["script", "many"]) fun _ _ _ _ _ _ us hl=>bl2 (fun _ _=>rfl) us hl⟩,
   ⟨Av (st:=Cg) Iu Iv Iw,PySem.W.mg_of X G Mr,(Av (st:=Cg) Iu Iv Iw).binds (ps:=["numbers", "wide", "high", "layered"]) fun _ _ _ _ _ _ us hl=>bl4 (fun _ _ _ _=>rfl) us hl⟩,
   ⟨Av (st:=Bo) G5 G6 G7,PySem.W.mg_of X G Jo,(Av (st:=Bo) G5 G6 G7).binds (ps:=["piece", "wide", "forth"]) fun _ _ _ _ _ _ us hl=>bl3 (fun _ _ _=>rfl) us hl⟩,
   ⟨Av (st:=Ci) Iz IK IV,PySem.W.mg_of X G Ms,(Av (st:=Ci) Iz IK IV).binds (ps:=["piece", "wide"]) fun _ _ _ _ _ _ us hl=>bl2 (fun _ _=>rfl) us hl⟩,
   ⟨Av (st:=Cj) IW Ja Jb,PySem.W.mg_of X G Mt,(Av (st:=Cj) IW Ja Jb).binds (ps:=["row", "count", "many"]) fun _ _ _ _ _ _ us hl=>bl3 (fun _ _ _=>rfl) us hl⟩,
   ⟨Av (st:=BW) Hi Hj Hk,PySem.W.mg_of X G Kv,(Av (st:=BW) Hi Hj Hk).binds (ps:=["piece", "wide", "high"]) fun _ _ _ _ _ _ us hl=>bl3 (fun _ _ _=>rfl) us hl⟩,
   ⟨Av (st:=Dk) Kw Ky Kz,PySem.W.mg_of X G Od,(Av (st:=Dk) Kw Ky Kz).binds (ps:=["given", "pieces", "ends", "picks"]) fun _ _ _ _ _ _ us hl=>bl4 (fun _ _ _ _=>rfl) us hl⟩,
   ⟨Av (st:=Dl) K1 K3 K4,PySem.W.mg_of X G Oe,(Av (st:=Dl) K1 K3 K4).binds (ps:=["ends", "picks", "name"]) fun _ _ _ _ _ _ us hl=>bl3 (fun _ _ _=>rfl) us hl⟩,
   ⟨Av (st:=Ax) Ep Er Es,PySem.W.mg_of X G Gq,(Av (st:=Ax) Ep Er Es).binds (ps:=["handed", "given", "found"]) fun _ _ _ _ _ _ us hl=>bl3 (fun _ _ _=>rfl) us hl⟩,
   ⟨Av (st:=MT) ZD ZF ZG,PySem.W.mg_of X G ZC,(Av (st:=MT) ZD ZF ZG).binds (ps:=["script"]) fun _ _ _ _ _ _ us hl=>bl1 (fun _=>rfl) us hl⟩,
   PySem.W.mg_none_of X G AbI,
   PySem.W.mg_none_of X G YM,
   PySem.W.mg_none_of X G Mu,
   PySem.W.mg_none_of X G AbJ,
   PySem.W.mg_none_of X G K5,
   PySem.W.mg_none_of X G AbK,
   PySem.W.mg_none_of X G YQ,
   PySem.W.mg_none_of X G Wf,
   PySem.W.mg_none_of X G Tq,
   PySem.W.mg_none_of X G AbL,
   PySem.W.mg_none_of X G AbM,
   PySem.W.mg_none_of X G Wg,
   PySem.W.mg_none_of X G AbN,
   ⟨_,PySem.W.mg_of X G Hw⟩,
   PySem.W.mg_of X G K6,
   AaN Jp Jq Jr Js G8 G9 Jt Ju Jv Hy Hz,
   PySem.W.mg_of X G QM,
   AaN Og Oh Oi Oj G8 G9 Ol Om Oo Mv Mw⟩
  have e:=hfa.symm.trans (PySem.W.mg_of X G ZC)
  cases e
  have hcd:(PySem.W.fnOf "layers_of" "layers_of" (Ai Bu) (Ah Bu) (Ac Bu) .none Kc Kd Ke Ka FN Kf).code=.ref tc:=tab0
  exact⟨_,tc,tT,fun s v=>.of_eq rfl,AdE Io GJ hcd Aej Aek,Ael,fun base _ _ hC hB=>Aed T hcd hC hB⟩
end Mine
open PySem PySem.W PyProof.Rows
def PySem.W.Fast.tw16844877209336374523:=()
def PySem.W.Fast.tw12393823518130132788:=()
def PySem.W.Fast.tw2040169106817998518:=()
def PySem.W.Fast.tw16372945223711437316:=()
def PySem.W.Fast.tw11048563793260641770:=()
def PySem.W.Fast.tw17618008001434496736:=()
def PySem.W.Fast.tw17231581030894007691:=()
def PySem.W.Fast.tw17757025132372419484:=()
def PySem.W.Fast.tw4982753943318985169:=()
def PySem.W.Fast.tw5496850576618188479:=()
def PySem.W.Fast.tw6456836171361992716:=()
def PySem.W.Fast.tw2567914380540679718:=()
def PySem.W.Fast.tw17955481549694986089:=()
def PySem.W.Fast.tw16206757405527563652:=()
def PySem.W.Fast.tw5756539582380128484:=()
def PySem.W.Fast.tw5923769955639476938:=()
def PySem.W.Fast.tw5950919491573571366:=()
def PySem.W.Fast.tw10078187207881930972:=()
def PySem.W.Fast.tw16321262281282085899:=()
def PySem.W.Fast.tw9375961604573351692:=()
def PySem.W.Fast.tw5399833595019787628:=()
def PySem.W.Fast.tw6872139559768662892:=()
def PySem.W.Fast.tw5736558583755612870:=()
def PySem.W.Fast.tw3379259439042325021:=()
def PySem.W.Fast.tw16316245124702693473:=()
def PySem.W.Fast.tw12224412935469476445:=()
def PySem.W.Fast.tw450580799403443385:=()
def PySem.W.Fast.tw14958334872266750571:=()
def PySem.W.Fast.tw9829903109584538655:=()
def PySem.W.Fast.tw16063676756408444823:=()
def PySem.W.Fast.tw14154587619261983621:=()
def PySem.W.Fast.tw105782977794804087:=()
def PySem.W.Fast.tw1337558800959446821:=()
def PySem.W.Fast.tw10043125550242911800:=()
def PySem.W.Fast.tw13420608766316596211:=()
def PySem.W.Fast.tw9592312019444913994:=()
def PySem.W.Fast.tw4729819466496871175:=()
def PySem.W.Fast.tw5352858568774227196:=()
def PySem.W.Fast.tw10383063130093693633:=()
def PySem.W.Fast.tw8135120509948254363:=()
def PySem.W.Fast.tw12644404553500776178:=()
def PySem.W.Fast.tw3647404084921123303:=()
def PySem.W.Fast.tw10120736575909709563:=()
def PySem.W.Fast.tw13363995856483801046:=()
def PySem.W.Fast.tw13062541271990131641:=()
def PySem.W.Fast.tw7699787895890455467:=()
def PySem.W.Fast.tw2041046164387391918:=()
def PySem.W.Fast.tw15239692306441246270:=()
def PySem.W.Fast.tw3883004617096404867:=()
def PySem.W.Fast.tw17545064913881865136:=()
def PySem.W.Fast.tw15893969252732373529:=()
def PySem.W.Fast.tw12656092880590936009:=()
def PySem.W.Fast.tw4949620731564981768:=()
def PySem.W.Fast.tw8106180499084022803:=()
def PySem.W.Fast.tw423371945122788529:=()
def PySem.W.Fast.tw14899709590642046814:=()
def PySem.W.Fast.tw6772585076649564533:=()
def PySem.W.Fast.tw8565050687560073325:=()
def PySem.W.Fast.tw7781910405125644616:=()
def PySem.W.Fast.tw4563091304806325138:=()
def PySem.W.Fast.tw8597715180844839388:=()
def PySem.W.Fast.tw11510798675561704768:=()
def PySem.W.Fast.tw3947796571338819705:=()
set_option maxRecDepth 100000 in
set_option maxHeartbeats 0 in
theorem PySem.Challenge.cw_heddle_k35_taken_apart_holds : PySem.Challenge.rw_heddle_k35_taken_apart.Holds := by
 w_on;o_law;k_head;(case hw=>w_witness2)
 k_fill
 refine L2.Abb (l:=PySem.Challenge.rw_heddle_k35_taken_apart) (n:=63) (k:=10) (x := "script") (y := "layers_of") (qn := "layers_of.<locals>.<lambda>") (CX:=L2.CX0) (sp:=Mine.V6) rfl (by decide) rfl ⟨rfl,by decide,by decide⟩ (fun w h Y=>PySem.W.km_in_of Y) rfl ?F ?S ?C
 case F =>
  intro w mg fa h KX G hmg
  refine' Mine.Aef KX G hmg ?Ob ?Km ?Ko ?Kp ?Gp ?Em ?En ?Eo ?Kq ?Hf ?Hg ?Hh ?Mp ?Ih ?Ii ?Ij ?Mq ?Ik ?Il ?Im ?QL ?M7 ?M8 ?M9 ?Io ?GJ ?Ip ?Ir ?GQ ?Ey ?Ez ?EY ?Jl ?Gw ?Gx ?Gy ?Oc ?Kr ?Ks ?Ku ?Tp ?Qu ?Qv ?Qw ?Jm ?Gz ?G3 ?G4 ?Mr ?Iu ?Iv ?Iw ?Jo ?G5 ?G6 ?G7 ?Ms ?Iz ?IK ?IV ?Mt ?IW ?Ja ?Jb ?Kv ?Hi ?Hj ?Hk ?Od ?Kw ?Ky ?Kz ?Oe ?K1 ?K3 ?K4 ?Gq ?Ep ?Er ?Es ?ZC ?ZD ?ZF ?ZG ?AbI ?YM ?Mu ?AbJ ?K5 ?AbK ?YQ ?Wf ?Tq ?AbL ?AbM ?Wg ?AbN ?Hw ?K6 ?QM ?Jp ?Jq ?Jr ?Js ?G8 ?G9 ?Jt ?Ju ?Jv ?Hy ?Hz ?Og ?Oh ?Oi ?Oj ?Ol ?Om ?Oo ?Mv ?Mw ?tab0 ?Aej ?Aek ?Ael
  (case Ob=>k_is)
  (case Km=>k_is)
  (case Ko=>k_is)
  (case Kp=>k_is)
  (case Gp=>k_is)
  (case Em=>k_is)
  (case En=>k_is)
  (case Eo=>k_is)
  (case Kq=>k_is)
  (case Hf=>k_is)
  (case Hg=>k_is)
  (case Hh=>k_is)
  (case Mp=>k_is)
  (case Ih=>k_is)
  (case Ii=>k_is)
  (case Ij=>k_is)
  (case Mq=>k_is)
  (case Ik=>k_is)
  (case Il=>k_is)
  (case Im=>k_is)
  (case QL=>k_is)
  (case M7=>k_is)
  (case M8=>k_is)
  (case M9=>k_is)
  (case Io=>k_is)
  (case GJ=>k_is)
  (case Ip=>k_is)
  (case Ir=>k_is)
  (case GQ=>k_is)
  (case Ey=>k_is)
  (case Ez=>k_is)
  (case EY=>k_is)
  (case Jl=>k_is)
  (case Gw=>k_is)
  (case Gx=>k_is)
  (case Gy=>k_is)
  (case Oc=>k_is)
  (case Kr=>k_is)
  (case Ks=>k_is)
  (case Ku=>k_is)
  (case Tp=>k_is)
  (case Qu=>k_is)
  (case Qv=>k_is)
  (case Qw=>k_is)
  (case Jm=>k_is)
  (case Gz=>k_is)
  (case G3=>k_is)
  (case G4=>k_is)
  (case Mr=>k_is)
  (case Iu=>k_is)
  (case Iv=>k_is)
  (case Iw=>k_is)
  (case Jo=>k_is)
  (case G5=>k_is)
  (case G6=>k_is)
  (case G7=>k_is)
  (case Ms=>k_is)
  (case Iz=>k_is)
  (case IK=>k_is)
  (case IV=>k_is)
  (case Mt=>k_is)
  (case IW=>k_is)
  (case Ja=>k_is)
  (case Jb=>k_is)
  (case Kv=>k_is)
  (case Hi=>k_is)
  (case Hj=>k_is)
  (case Hk=>k_is)
  (case Od=>k_is)
  (case Kw=>k_is)
  (case Ky=>k_is)
  (case Kz=>k_is)
  (case Oe=>k_is)
  (case K1=>k_is)
  (case K3=>k_is)
  (case K4=>k_is)
  (case Gq=>k_is)
  (case Ep=>k_is)
  (case Er=>k_is)
  (case Es=>k_is)
  (case ZC=>k_is)
  (case ZD=>k_is)
  (case ZF=>k_is)
  (case ZG=>k_is)
  (case AbI=>k_is)
  (case YM=>k_is)
  (case Mu=>k_is)
  (case AbJ=>k_is)
  (case K5=>k_is)
  (case AbK=>k_is)
  (case YQ=>k_is)
  (case Wf=>k_is)
  (case Tq=>k_is)
  (case AbL=>k_is)
  (case AbM=>k_is)
  (case Wg=>k_is)
  (case AbN=>k_is)
  (case Hw=>k_is)
  (case K6=>k_is)
  (case QM=>k_is)
  (case Jp=>k_exc)
  (case Jq=>k_is)
  (case Jr=>k_is)
  (case Js=>k_is)
  (case G8=>k_is)
  (case G9=>k_is)
  (case Jt=>k_is)
  (case Ju=>k_is)
  (case Jv=>k_is)
  (case Hy=>k_is)
  (case Hz=>k_is)
  (case Og=>k_exc)
  (case Oh=>k_is)
  (case Oi=>k_is)
  (case Oj=>k_is)
  (case Ol=>k_is)
  (case Om=>k_is)
  (case Oo=>k_is)
  (case Mv=>k_is)
  (case Mw=>k_is)
  (case tab0=>exact rfl)
  (case Aej=>k_is)
  (case Aek=>exact rfl)
  (case Ael=>kernel_rfl)
 case S=>exact fun K T H a ns hl hS tb=>Mine.V7 hl hS tb
 case C=>exact fun _ _ _ _ z=>z
