import PyProof.Rows.All
import Wide.All
import OpenK.AllK
import Wide.FinOn
import Lean
import PyProof.EqAt
import PyProof.EqKinds
import PyProof.TupleCall
import PyProof.StrBlockL
import PyProof.EnumMake
import PyProof.CollectIter
import PyProof.JoinWalk
import PyProof.StrOps
import PyProof.StrLawsIdx
import PyProof.StrLawsIn
import PyProof.ListRange
import PyProof.Rows.Range3
import PyProof.Rows.SumAny
import KE.KIntText
import KE.LcSums
import PyProof.LongRange
import PyProof.StrOps2
import PyProof.FitsBits
import PyProof.NeKinds
import PyProof.ConsumeWalk
import PyProof.Rows.ZipGen
import PyProof.Draws
import PyProof.Rows.SeqMore
import PyProof.Rows.StrNews
import PyProof.StrLawsChain
import PyProof.Rows.SortRev
import PyProof.Rows.SortWalk
import PyProof.Rows.CallKwBuiltin
import PyProof.Rows.MinMaxN
import PyProof.Rows.SetFrom
import PyProof.CollectWalk
import PyProof.DictWalks
import KE.KItemsList
import PySem.Challenge.RW_heddle_k55_whole_blocks
set_option Elab.async false
set_option linter.all false
set_option maxRecDepth 100000
namespace Zz
def A3R:=@List.getElem?_eq_getElem
def A3S:=@List.length_map
def A3T:=@List.length_append
def A3U:=@Nat.le_refl
def A3V:=@List.mem_cons_self
def A3W:=@List.map_append
def A3X:=@List.map_cons
def A3Y:=@List.mem_of_getElem?
def A3Z:=@List.length_cons
def A4a:=@List.size_toArray
def A4b:=@Nat.ne_of_lt
def A4c:=@List.getD_eq_getElem?_getD
def A4d:=@List.mem_cons_of_mem
def A4e:=@List.getElem?_map
def A4f:=@Nat.zero_le
def A4g:=@Bool.false_ne_true
def A4h:=@List.getElem?_append_right
def A4i:=@List.getElem?_append_left
def A4j:=@List.getElem_mem
def A4k:=@Nat.lt_of_lt_of_le
def A4l:=@List.length_take
def A4m:=@Int.toNat_natCast
def A4n:=@List.flatten_cons
def A4o:=@List.getElem?_eq_none
def A4p:=@List.take_add_one
def A4q:=@Nat.le_trans
def A4r:=@List.length_drop
def A4s:=@List.take_length
def A4t:=@List.mem_append_right
def A4u:=@List.map_map
def A4v:=@Nat.lt_irrefl
def A4w:=@List.mem_cons
def A4x:=@List.not_mem_nil
def A4y:=@Nat.ne_of_gt
def A4z:=@List.length_nil
def A4G:=@List.ext_getElem?
def A4H:=@List.length_range
def A4I:=@Bool.and_eq_true
def A4J:=@Nat.mul_comm
def A4K:=@List.lookup_cons
def A4L:=@List.sum_cons
def A4M:=@List.take_of_length_le
def A4N:=@Nat.sub_self
def A4O:=@List.replicate_succ
def A4P:=@Nat.lt_succ_of_lt
def A4Q:=@List.append_nil
def A4R:=@List.length_singleton
def A4S:=@List.mem_append_left
def A4T:=@List.map_nil
def A4U:=@List.append_assoc
def A4V:=@Nat.min_eq_left
def A4W:=@Int.emod_nonneg
def A4X:=@Nat.le_of_lt
def A4Y:=@Nat.lt_succ_self
def A4Z:=@List.getElem?_drop
def A5a:=@List.getElem_of_mem
def A5b:=@Nat.min_self
def A5c:=@List.cons_append
def A5d:=@List.range_succ
def A5e:=@Nat.mod_lt
def A5f:=@Int.zero_add
def A5g:=@Nat.le_succ
def A5h:=@List.forIn_cons
def A5i:=@Bool.false_eq_true
def A5j:=@List.map_congr_left
def A5k:=@List.getElem?_range
def A5l:=@List.take_append_drop
def A5m:=@List.take_succ_cons
def A5n:=@List.getElem?_of_mem
def A5o:=@List.length_zip
def A5p:=@Nat.min_eq_right
def A5q:=@Nat.le_of_eq
def A5r:=@Nat.mul_le_mul
def A5s:=@List.getElem?_take
def A5t:=@List.drop_eq_nil_of_le
def A5u:=@Nat.div_add_mod
def A5v:=@List.flatten_append
def A5w:=@List.mem_of_mem_drop
def A5x:=@Bool.eq_iff_iff
def A5y:=@List.of_mem_zip
def A5z:=@List.length_replicate
def A5G:=@Nat.succ_mul
def A5H:=@List.mem_append
def A5I:=@List.flatMap_cons
def A5J:=@Nat.add_zero
def A5K:=@Nat.div_lt_of_lt_mul
def A5L:=@Nat.mul_pos
def A5M:=@List.sum_append
def A5N:=@Int.emod_lt_of_pos
def A5O:=@List.filterMap_cons
def A5P:=@List.all_cons
def A5Q:=@List.any_cons
def A5R:=@List.foldl_cons
def A5S:=@Bool.and_false
def A5T:=@List.nil_append
def A5U:=@List.getElem?_cons_succ
def A5V:=@List.all_map
def A5W:=@Int.natCast_mul
def A5X:=@Bool.or_eq_true
def A5Y:=@List.forIn_nil
def A5Z:=@List.count_append
def A6a:=@List.all_eq_true
def A6b:=@List.flatten_nil
def A6c:=@List.take_nil
def A6d:=@List.map_drop
def A6e:=@List.map_flatMap
def A6f:=@List.flatMap_map
def A6g:=@List.getElem?_replicate
def A6h:=@Nat.lt_of_le_of_lt
def A6i:=@List.eq_nil_of_length_eq_zero
def A6j:=@List.drop_eq_getElem_cons
def A6k:=@List.getElem_toArray
def A6l:=@List.getElem_idxOf
def A6m:=@Nat.div_eq_of_lt
def A6n:=@Nat.mul_le_mul_right
def A6o:=@List.takeWhile_cons
def A6p:=@List.mem_of_mem_take
def A6q:=@List.eraseIdx_eq_take_drop_succ
end Zz
open Zz
namespace L2
open PySem PySem.Spec PyProof.Rows
abbrev Key:=Sum Int Str
def Axw:Key→Value→Bool
 | .inl k,v=>Value.isInt k v
 | .inr x,v=>Value.isStrOf x v
def A1p (w:World):Key→Int
 | .inl k=>hashInt k
 | .inr x=>hashStr w x
theorem Hh:∀{k:Key} {v:Value},Axw k v=true→(∃ i t,k=Sum.inl i∧v=Value.int i t)∨(∃ x t,k=Sum.inr x∧v=Value.str x t)
 | .inl i,v,h=>by
  obtain⟨t,e⟩:=Value.isInt_shape (k:=i) (v:=v) h
  exact .inl ⟨i,t,rfl,e⟩
 | .inr x,v,h=>by
  obtain⟨t,e⟩:=Value.isStrOf_shape (x:=x) (v:=v) h
  exact .inr ⟨x,t,rfl,e⟩
theorem AxN(a b:Int):decide ((Sum.inl a:Key)=Sum.inl b)=(a == b):=by
 by_cases e:a=b
 ·subst e;simp
 ·have h:¬(Sum.inl a:Key)=Sum.inl b:=fun q=>e (Sum.inl.inj q)
  rw[decide_eq_false h]
  exact(beq_eq_false_iff_ne.mpr e).symm
theorem AxO(a b:Str):decide ((Sum.inr a:Key)=Sum.inr b)=decide (a=b):=by
 by_cases e:a=b
 ·subst e;simp
 ·have h:¬(Sum.inr a:Key)=Sum.inr b:=fun q=>e (Sum.inr.inj q)
  rw[decide_eq_false h,decide_eq_false e]
theorem AxP(a:Int)(b:Str):decide ((Sum.inl a:Key)=Sum.inr b)=false:=decide_eq_false (fun q=>nomatch q)
theorem AxQ(a:Str)(b:Int):decide ((Sum.inr a:Key)=Sum.inl b)=false:=decide_eq_false (fun q=>nomatch q)
def An3 (prog:Program)(w:World):PySem.KeyKind prog w Key where
 is:=Axw
 hash:=A1p w
 inj:=fun v a b ha hb=>by
  rcases Hh ha with ⟨i,t,rfl,rfl⟩ | ⟨x,t,rfl,rfl⟩
  ·rcases Hh hb with ⟨j,u,rfl,e⟩ | ⟨y,u,rfl,e⟩
   ·injection e with e1 _;rw[e1]
   ·exact nomatch e
  ·rcases Hh hb with ⟨j,u,rfl,e⟩ | ⟨y,u,rfl,e⟩
   ·exact nomatch e
   ·injection e with e1 _;rw[e1]
 byValue:=fun k v h=>by
  rcases Hh h with ⟨i,t,rfl,rfl⟩ | ⟨x,t,rfl,rfl⟩ <;> rfl
 pyHash:=fun hv h=>by
  rcases Hh hv with ⟨i,t,rfl,rfl⟩ | ⟨x,t,rfl,rfl⟩
  ·exact wpAny_pyHash_int h
  ·exact wpAny_pyHash_str h
 eqBool:=fun hu hv h=>by
  rcases Hh hu with ⟨i,t,rfl,rfl⟩ | ⟨x,t,rfl,rfl⟩
  ·rcases Hh hv with ⟨j,u,rfl,rfl⟩ | ⟨y,u,rfl,rfl⟩
   ·rw[AxN] at h;exact wpAny_eqBool_int h
   ·rw[AxP] at h;exact SeqAt.EqAt.int_str i t y u _ _ _ _ h
  ·rcases Hh hv with ⟨j,u,rfl,rfl⟩ | ⟨y,u,rfl,rfl⟩
   ·rw[AxQ] at h;exact SeqAt.EqAt.str_int x t j u _ _ _ _ h
   ·rw[AxO] at h;exact wpAny_eqBool_str h
 «strs»:=fun k x t v h=>by
  rcases Hh h with ⟨i,u,rfl,e⟩ | ⟨y,u,rfl,e⟩
  ·exact nomatch e
  ·injection e with e1 _
   subst e1
   cases v <;> rfl
open PySem PySem.Spec PyProof.Rows
inductive V where
 | non | bl (b:Bool) | int (i:Int) | str (x:Str) | byt (b:Array UInt8) | flt (b:UInt64) | ref (a:Addr) | ty (n:String)
 deriving DecidableEq
def RelV:V→Value→Prop
 | .non,u=>u=Value.none
 | .bl b,u=>u=Value.bool b
 | .int i,u=>∃ t,u=Value.int i t
 | .str x,u=>∃ t,u=Value.str x t
 | .byt b,u=>∃ t,u=Value.bytes b t
 | .flt b,u=>∃ t,u=Value.float b t
 | .ref a,u=>u=Value.ref a
 | .ty n,u=>u=Value.type n
abbrev Vals:List V→List Value→Prop:=Paired RelV
theorem Vals.length{xs:List V}{us:List Value}(r:Vals xs us):xs.length=us.length:=Paired.length r
theorem Vals.get:∀{xs:List V} {us:List Value} {i:Nat} {x:V},Vals xs us→xs[i]?=some x→∃ u,us[i]?=some u∧RelV x u
 | _,_,_,_,.nil,e=>by simp at e
 | _,_,0,_,.cons r _,e=>by simp at e;subst e;exact⟨_,rfl,r⟩
 | _,_,i+1,x,.cons _ t,e=>by
  obtain⟨u,h1,h2⟩:=Vals.get (i:=i) (x:=x) t (by simpa using e)
  exact⟨u,by simpa using h1,h2⟩
theorem Vals.set{x:V}{u:Value}(r:RelV x u):∀{xs:List V} {us:List Value} (i:Nat),Vals xs us→Vals (xs.set i x) (us.set i u)
 | _,_,_,.nil=>.nil
 | _,_,0,.cons _ t=>.cons r t
 | _,_,i+1,.cons q t=>.cons q (Vals.set r i t)
theorem Vals.append:∀{xs ys:List V} {us ws:List Value},Vals xs us→Vals ys ws→Vals (xs++ys) (us++ws)
 | _,_,_,_,.nil,s=>s
 | _,_,_,_,.cons r t,s=>.cons r (Vals.append t s)
theorem Vals.take:∀{xs:List V} {us:List Value} (n:Nat),Vals xs us→Vals (xs.take n) (us.take n)
 | _,_,0,_=>.nil
 | _,_,_+1,.nil=>.nil
 | _,_,n+1,.cons r t=>.cons r (Vals.take n t)
theorem Vals.drop:∀{xs:List V} {us:List Value} (n:Nat),Vals xs us→Vals (xs.drop n) (us.drop n)
 | _,_,0,r=>r
 | _,_,_+1,.nil=>.nil
 | _,_,n+1,.cons _ t=>Vals.drop n t
def Amj:Option V→Option Value→Prop
 | some v,some u=>RelV v u
 | none,none=>True
 | _,_=>False
def KV {κ:Type}:List (κ × V)→List (κ × Value)→Prop:=Paired fun(p:κ × V) (q:κ × Value)=>p.1=q.1∧RelV p.2 q.2
def kV:Key→V
 | .inl i=>.int i
 | .inr x=>.str x
inductive HO where
 | lst (xs:List V)
 | tup (xs:List V)
 | dK (kvs:List (Key × V)) | dT (kvs:List (List Key × V))
 | set (S:Int→Bool) (n:Nat)
 | ins (C dx:Addr) (fs:List (Str × V))
 | own (x:Addr)
 | xd (fs:List (Str × V))
 | met (f x:Addr)
 | rng (lo hi:Int)
 | frz (o:Obj) (u:HO)
 | tbl (ps:Array Value)
 | ext (φ:Heap→Prop)
abbrev Hp:=Addr→Option HO
def upd (H:Hp)(a:Addr)(o:HO):Hp:=fun b=>if b=a then some o else H b
theorem Ae{H:Hp}{a:Addr}{o:HO}:upd H a o a=some o:=by unfold upd;rw[if_pos rfl]
theorem Aw{H:Hp}{a b:Addr}{o:HO}(h:b≠a):upd H a o b=H b:=by unfold upd;rw[if_neg h]
theorem Uw{H:Hp}{a:Addr}{o u:HO}:upd (upd H a o) a u=upd H a u:=by
 funext b;unfold upd;split <;> rfl
theorem Bw{H:Hp}{a b:Addr}{o:HO}(h:H a=some o)(h':H b=none):a≠b:=by
 intro e;subst e;rw[h] at h';cases h'
section
variable (P:Program) (w:World)
def KJ (H:Hp)(h:Heap)(a:Addr):HO→Prop
 | .lst xs=>xs.length≤sizeLine∧∃(its:List Value) (n:Nat),Vals xs its∧h.get? a=some { cls:=.type "list", data:=.seq its.toArray n }
 | .tup xs=>xs.length≤sizeLine∧∃ its:List Value,Vals xs its∧IsTup h a its.toArray
 | .dK kvs=>kvs.length≤sizeLine∧(a == sysModules)=false∧∃ vs,KV kvs vs∧h.DictOf (An3 P w) a vs
 | .dT kvs=>kvs.length≤sizeLine∧(a == sysModules)=false∧∃ xs:List (List Key × Addr × Value),
   Paired (fun(p:List Key × V) (q:List Key × Addr × Value)=>p.1=q.1∧H q.2.1=some (.tup (p.1.map kV))∧RelV p.2 q.2.2) kvs xs ∧
   ∃ o es ep,h.get? a=some o∧o.ExactDict∧o.data=.dict es ep∧es.toList=xs.map (entryOfKey (tupleKind (An3 P w)))∧(xs.map (·.1)).Nodup
 | .set S n=>h.SetOf (intKind P w) a S n
 | .ins C dx fs=>H dx=some (.own a)∧fs.length≤1000∧dx≠a∧h.get? a=some (PySem.W.instObj C dx) ∧
   ∃ mA,h.Ns1 dx mA∧(∀ f,Amj (fs.lookup f) (mA f))∧PySem.Within mA (fs.map (·.1))
 | .own _=>∃ o,h.get? a=some o
 | .xd fs=>∃ mA,h.Ns1 a mA∧∀ f,Amj (fs.lookup f) (mA f)
 | .rng lo hi=>∃ t u v,h.get? a=some { cls:=.type "range", data:=.fields #[.int lo t,.int hi u,.int 1 v] }
 | .frz o u=>h.get? a=some o∧KJ H h a u
 | .tbl ps=>h.get? a=some { cls:=.none,data:=.fields ps }
 | .met f x=>h.get? a=some (PySem.W.methodObj (.ref f) (.ref x))
 | .ext φ=>φ h∧(∃ o,h.get? a=some o)∧∀ h1 h2:Heap,φ h1→(∀ o,h1.get? a=some o→h2.get? a=some o)→φ h2
def HOk (H:Hp)(h:Heap):Prop:=∀ a o,H a=some o→KJ P w H h a o
end
section
variable {P:Program}{w:World}{H H':Hp}{h h':Heap}{a:Addr}{o:HO}
theorem KJ.lt(x:KJ P w H h a o):a<h.objs.size:=by
 cases o with
 | lst xs=>obtain⟨_,_,_,_,e⟩:=x;exact Heap.lt_size e
 | tup xs=>obtain⟨_,_,_,p⟩:=x;exact p.lt
 | dK kvs=>obtain⟨_,_,_,_,o,_,_,e,_⟩:=x;exact Heap.lt_size e
 | dT kvs=>obtain⟨_,_,_,_,o,_,_,e,_⟩:=x;exact Heap.lt_size e
 | set S n=>obtain⟨o,_,_,_,e,_⟩:=x;exact Heap.lt_size e
 | ins C dx fs=>obtain⟨_,_,_,e,_⟩:=x;exact Heap.lt_size e
 | own y=>obtain⟨_,e⟩:=x;exact Heap.lt_size e
 | xd fs=>obtain⟨_,⟨_,_,_,e,_⟩,_⟩:=x;exact Heap.lt_size e
 | rng lo hi=>obtain⟨_,_,_,e⟩:=x;exact Heap.lt_size e
 | frz ob u=>obtain⟨e,_⟩:=x;exact Heap.lt_size e
 | tbl ps=>exact Heap.lt_size (show h.get? a=some _ from x)
 | met f y=>exact Heap.lt_size (show h.get? a=some _ from x)
 | ext φ=>obtain⟨_,⟨_,e⟩,_⟩:=x;exact Heap.lt_size e
theorem Paired.Az3{α β:Type}{F G:α→β→Prop}:∀{l₁:List α} {l₂:List β},Paired F l₁ l₂→(∀ a b,F a b→G a b)→Paired G l₁ l₂
 | _,_,.nil,_=>.nil
 | _,_,.cons r t,f=>.cons (f _ _ r) (Paired.Az3 t f)
theorem KJ.stay(x:KJ P w H h a o)(k:∀ b u,(b=a∨H b=some (.own a))→h.get? b=some u→h'.get? b=some u)
  (ho:∀ b,H b=some (.own a)→H' b=some (.own a)) (ht:∀ b xs,H b=some (.tup xs)→H' b=some (.tup xs)):KJ P w H' h' a o:=by
 induction o with
 | lst xs=>obtain⟨z,its,n,r,e⟩:=x;exact⟨z,its,n,r,k _ _ (.inl rfl) e⟩
 | tup xs=>obtain⟨z,its,r,ob,e,c⟩:=x;exact⟨z,its,r,ob,k _ _ (.inl rfl) e,c⟩
 | dK kvs=>obtain⟨z,y,vs,r,ob,es,ep,e,c⟩:=x;exact⟨z,y,vs,r,ob,es,ep,k _ _ (.inl rfl) e,c⟩
 | dT kvs =>
  obtain⟨z,y,xs,r,ob,es,ep,e,c⟩:=x
  exact⟨z,y,xs,Paired.Az3 r fun p q z=>⟨z.1,ht _ _ z.2.1,z.2.2⟩,ob,es,ep,k _ _ (.inl rfl) e,c⟩
 | set S n=>obtain⟨ob,es,ep,t,e,c⟩:=x;exact⟨ob,es,ep,t,k _ _ (.inl rfl) e,c⟩
 | ins C dx fs =>
  obtain⟨d,z,ne,e,mA,⟨od,es,ep,e2,c⟩,r⟩:=x
  exact⟨ho _ d,z,ne,k _ _ (.inl rfl) e,mA,⟨od,es,ep,k _ _ (.inr d) e2,c⟩,r⟩
 | own y=>obtain⟨ob,e⟩:=x;exact⟨ob,k _ _ (.inl rfl) e⟩
 | xd fs=>obtain⟨mA,⟨od,es,ep,e,c⟩,r⟩:=x;exact⟨mA,⟨od,es,ep,k _ _ (.inl rfl) e,c⟩,r⟩
 | rng lo hi=>obtain⟨t,u,v,e⟩:=x;exact⟨t,u,v,k _ _ (.inl rfl) e⟩
 | frz ob u ih=>obtain⟨e,q⟩:=x;exact⟨k _ _ (.inl rfl) e,ih q⟩
 | tbl ps =>
  have e:h.get? a=some { cls:=.none,data:=.fields ps }:=x
  show h'.get? a=some { cls:=.none,data:=.fields ps }
  exact k a _ (.inl rfl) e
 | met f y =>
  have e:h.get? a=some (PySem.W.methodObj (.ref f) (.ref y)):=x
  show h'.get? a=some (PySem.W.methodObj (.ref f) (.ref y))
  exact k a _ (.inl rfl) e
 | ext φ=>obtain⟨p,⟨o,e⟩,st⟩:=x;exact⟨st _ _ p fun o q=>k _ _ (.inl rfl) q,⟨o,k _ _ (.inl rfl) e⟩,st⟩
theorem HOk.lt(x:HOk P w H h)(e:H a=some o):a<h.objs.size:=(x a o e).lt
theorem HOk.fresh(x:HOk P w H h)(e:h.objs.size≤a):H a=none:=by
 cases q:H a with
 | none=>rfl
 | some u=>exact absurd (A4k (x.lt q) e) (A4v _)
theorem HOk.kept(x:HOk P w H h)(k:∀ b u,h.get? b=some u→h'.get? b=some u):HOk P w H h':=fun a o e =>
 (x a o e).stay (fun b u _ q=>k b u q) (fun _ q=>q) fun _ _ q=>q
theorem HOk.laid(x:HOk P w H h)(k:∀ b u,h.get? b=some u→h'.get? b=some u)(hp:h.objs.size≤a)(new:KJ P w (upd H a o) h' a o):HOk P w (upd H a o) h':=fun b u e=>by
 have hn:=x.fresh hp
 by_cases hb:b=a
 ·subst hb;rw[Ae] at e;cases e;exact new
 ·rw[Aw hb] at e
  exact(x b u e).stay (fun c v _ q=>k c v q) (fun c q=>by rw[Aw (Bw q hn)];exact q) fun c xs q=>by rw[Aw (Bw q hn)];exact q
end
def Rd (H:Hp)(a:Addr)(u:HO):Prop:=H a=some u∨∃ o,H a=some (.frz o u)
theorem Rd.ok{P:Program}{w:World}{H:Hp}{h:Heap}{a:Addr}{u:HO}(r:Rd H a u)(x:HOk P w H h):KJ P w H h a u:=by
 rcases r with r | ⟨o,r⟩
 ·exact x a u r
 ·obtain⟨_,q⟩:=x a _ r
  exact q
def Mut:Option HO→Prop
 | some (.lst _)=>True
 | some (.dK _)=>True
 | some (.dT _)=>True
 | some (.set _ _)=>True
 | some (.ins _ _ _)=>True
 | some (.ext _)=>True
 | _=>False
section
variable {P:Program}{w:World}{H:Hp}{h h':Heap}{x e:Addr}{o':HO}
theorem HOk.write(ok:HOk P w H h)(mu:Mut (H x))(he:e=x∨H e=some (.own x))(k:∀ b u,b≠e→h.get? b=some u→h'.get? b=some u)(heo:∃ u,h'.get? e=some u)
  (new:KJ P w (upd H x o') h' x o'):HOk P w (upd H x o') h':=fun b u q=>by
 have Az4:∀ c y,H c=some (.own y)→c≠x:=fun c y r z=>by subst z;rw[r] at mu;exact mu
 have A1q:∀ c xs,H c=some (.tup xs)→c≠x:=fun c xs r z=>by subst z;rw[r] at mu;exact mu
 by_cases hb:b=x
 ·subst hb;rw[Ae] at q;cases q;exact new
 ·rw[Aw hb] at q
  by_cases hbe:b=e
  ·have q':H b=some (.own x):=by
    rcases he with z | z
    ·exact absurd (hbe.trans z) hb
    ·rw[hbe];exact z
   rw[q] at q';cases q'
   obtain⟨v,hv⟩:=heo
   exact⟨v,by rw[hbe];exact hv⟩
  ·refine(ok b u q).stay (fun c v hc r=>k c v ?_ r) (fun c r=>by rw[Aw (Az4 c b r)];exact r) fun c xs r=>by rw[Aw (A1q c xs r)];exact r
   rcases hc with rfl | hc
   ·exact hbe
   ·rintro rfl
    rcases he with z | z
    ·exact Az4 c b hc z
    ·rw[hc] at z;cases z;exact hb rfl
end
structure Un (fs ex:List Addr) (H H':Hp) (h h':Heap):Prop where
 keep:∀ b o,h.get? b=some o→H b=none→b∉fs→b∉ex→h'.get? b=some o
 slot:∀ b o,h.get? b=some o→H b=none→b∈fs→b∉ex→∃ sl,h'.get? b=some { o with slots:=sl }
 free:∀ b o,h.get? b=some o→H b=none→b∉ex→H' b=none
 there:∀ b o,h.get? b=some o→b∉ex→∃ o',h'.get? b=some o'
 tups:∀ b xs,H b=some (.tup xs)→H' b=some (.tup xs)
 Aeg:∀ b o u,H b=some (.frz o u)→H' b=some (.frz o u)
 Aht:∀ b ps,H b=some (.tbl ps)→∃ more,H' b=some (.tbl (ps++more))
section
variable {fs fs' ex ex':List Addr}{H H1 H2:Hp}{h h1 h2 h':Heap}{a x e:Addr}{o:HO}
theorem Un.any(u:Un fs ex H H1 h h1){b:Addr}{ob:Obj}(q:h.get? b=some ob)(n:H b=none)(hx:b∉ex):∃ sl,h1.get? b=some { ob with slots:=sl }:=by
 by_cases hb:b∈fs
 ·exact u.slot b ob q n hb hx
 ·exact⟨ob.slots,u.keep b ob q n hb hx⟩
theorem Un.kept(k:∀ b u,h.get? b=some u→h'.get? b=some u):Un fs ex H H h h' :=
 ⟨fun b ob q _ _ _=>k b ob q,fun b ob q _ _ _=>⟨ob.slots,k b ob q⟩,fun _ _ _ n _=>n,fun b ob q _=>⟨ob,k b ob q⟩,fun _ _ q=>q,fun _ _ _ q=>q,fun _ ps q=>⟨#[],by rw[q];simp⟩⟩
theorem Un.refl:Un fs ex H H h h:=Un.kept fun _ _ q=>q
theorem Un.laid(k:∀ b u,h.get? b=some u→h'.get? b=some u)(hp:h.objs.size≤a)(hn:H a=none):Un fs ex H (upd H a o) h h' where
 keep:=fun b u q _ _ _=>k b u q
 slot:=fun b u q _ _ _=>⟨u.slots,k b u q⟩
 free:=fun b u q n _=>by rw[Aw (A4b (A4k (Heap.lt_size q) hp))];exact n
 there:=fun b u q _=>⟨u,k b u q⟩
 tups:=fun b xs q=>by rw[Aw (Bw q hn)];exact q
 Aeg:=fun b u xs q=>by rw[Aw (Bw q hn)];exact q
 Aht:=fun b ps q=>⟨#[],by rw[Aw (Bw q hn),q];simp⟩
theorem Un.write(mu:Mut (H x))(he:e=x∨H e=some (.own x))(k:∀ b u,b≠e→h.get? b=some u→h'.get? b=some u)(heo:∃ u,h'.get? e=some u):Un fs ex H (upd H x o) h h':=by
 have hx:∀ b,H b=none→b≠x:=fun b n z=>by subst z;rw[n] at mu;exact mu
 have hb:∀ b,H b=none→b≠e:=fun b n z=>by
  subst z
  rcases he with r | r
  ·exact hx b n r
  ·rw[n] at r;cases r
 have hm:∀ b u,H b=some u→¬Mut (some u)→b≠x:=fun b u q nm z=>by subst z;rw[q] at mu;exact nm mu
 refine⟨fun b u q n _ _=>k b u (hb b n) q,fun b u q n _ _=>⟨u.slots,k b u (hb b n) q⟩,fun b u q n _=>by rw[Aw (hx b n)];exact n,fun b u q _=>?_,
  fun b xs q=>by rw[Aw (hm b _ q fun z=>z)];exact q,fun b u xs q=>by rw[Aw (hm b _ q fun z=>z)];exact q,fun b ps q=>⟨#[],by rw[Aw (hm b _ q fun z=>z),q];simp⟩⟩
 by_cases hbe:b=e
 ·subst hbe;exact heo
 ·exact⟨u,k b u hbe q⟩
end
def trk (h:Heap)(H:Hp):List Addr:=(List.range h.objs.size).filter fun a=>(H a).isSome
def An4 (h:Heap)(H:Hp):Heap:=PySem.W.hideAll h (trk h H)
theorem AsP(h:Heap)(H:Hp):(An4 h H).objs.size=h.objs.size:=PySem.W.hideAll_size _ _
theorem Auj{h:Heap}{H:Hp}{b:Addr}{o:Obj}(e:h.get? b=some o)(n:H b=none):(An4 h H).get? b=some o :=
 PySem.W.hideAll_get _ e fun hm=>by
  have q:(H b).isSome=true:=(List.mem_filter.mp hm).2
  rw[n] at q;simp at q
theorem Awm{h:Heap}{H:Hp}{b:Addr}{o:Obj}(e:(An4 h H).get? b=some o):h.get? b=some o∧H b=none:=by
 have e':h.get? b=some o:=PySem.W.of_hideAll (trk h H) e
 refine⟨e',?_⟩
 cases q:H b with
 | none=>rfl
 | some x =>
  have hm:b∈trk h H:=List.mem_filter.mpr ⟨List.mem_range.mpr (Heap.lt_size e'),by simp[q]⟩
  have z:(An4 h H).get? b=none:=PySem.W.hideAll_none (trk h H) hm
  rw[z] at e;cases e
def Awn (g h:Heap)(L:Addr):List (Addr × Obj):=(List.range h.objs.size).filterMap fun a=>if a=L∨(g.get? a).isSome=true then none else (h.get? a).map fun o=>(a,o)
def rest(g h:Heap)(L d:Addr):List (Addr × Obj):=(Awn g h L).filter fun p=>decide (p.1≠d)
open PySem PySem.Spec PyProof.Rows
structure Mod (K:PySem.W.Frag) (mg:Str→Option Value) (base:Heap):Prop where
 kin:K.In base
 glob:base.Ns mainGlobals mg
 blt:∃ mb,base.Ns builtinsNs mb∧∀ x:Str,x ≠ "__name__" → mb x=bootBuiltins x
 nolimit:base.NoLimit
structure Cx where
 prog:Program
 w:World
 K:PySem.W.Frag
 mg:Str→Option Value
 base:Heap
 A:Around
 N:List Str
 s₀:Shared
 H₀:Hp
 env:Env
 outer:List Env
 stack:List Env
 ex:List Addr
 fn:Str→Bool
 calm:Bool
 pn:List (Addr × Obj)
 xe:Value→Shared→Prop
def frs (l:List Env):List Addr:=l.filterMap (·.frame)
abbrev Cx.fs (X:Cx):List Addr:=frs X.outer
def Vis (sc:Scope)(x:Str):Prop:=sc.names.lookup x=some .local∨sc.names.lookup x=some .cell∨sc.names.lookup x=some .free
def Loc (sc:Scope)(x:Str):Prop:=sc.names.lookup x=some .local∨sc.names.lookup x=some .cell
def Look(env:Env)(h:Heap)(m:Str→Option Value)(x:Str)(u:Value):Prop :=
 (env.kindOf x=some .local∧m x=some u)∨((env.kindOf x=some .cell∨env.kindOf x=some .free)∧∃ c,env.cells.lookup x=some c∧h.IsCell c (some u))
structure Cx.Ok (X:Cx):Prop where
 mod:Mod X.K X.mg X.base
 kind:X.env.scope.kind=.function
 glob:X.env.globals=mainGlobals
 blt:X.env.builtins=builtinsNs
 above:X.s₀.heap.objs.size≤X.env.locals
 inj:∀ x y c,X.env.cells.lookup x=some c→X.env.cells.lookup y=some c→x=y
 has:∀ x,(X.env.kindOf x=some .cell∨X.env.kindOf x=some .free)→∃ c,X.env.cells.lookup x=some c
 cab:∀ x c,X.fn x=true→X.env.cells.lookup x=some c→X.s₀.heap.objs.size≤c
 hd:X.calm=true→X.A.handled=none
 frames:X.A.frames=some X.stack
 stk:X.stack=X.outer∨(X.stack=X.env::X.outer∧X.env.frame=some X.env.locals)
 exf:∀ b∈X.ex,b≠X.env.locals∧∀ x c,X.env.cells.lookup x=some c→c≠b
 bs:∀ b o,X.base.get? b=some o→X.s₀.heap.get? b=some o∧X.H₀ b=none
 bsz:X.base.objs.size≤X.s₀.heap.objs.size
 AoX:∀ b o,X.base.get? b=some o→b∉X.ex
 AoY:∀ b∈X.ex,b∉X.fs
 Afa:X.s₀.heap.FunFrames X.base X.outer
 frf:∀ b∈X.fs,X.H₀ b=none
structure Inv (X:Cx) (pins:List (Addr × Obj)) (σ:List (Option V)) (H:Hp) (s:Shared):Prop where
 ok:X.Ok
 os:s.os=X.s₀.os
 bare:AllBare s.gens
 base:Un X.fs X.ex X.H₀ H X.s₀.heap s.heap
 loc:∃ m,s.heap.Ns X.env.locals m∧∀(i:Nat) (x:Str) (v:V),X.N[i]?=some x→σ[i]?=some (some v)→Vis X.env.scope x→∃ u,RelV v u∧Look X.env s.heap m x u
 cell:∀ x c,X.env.cells.lookup x=some c→∃ v,s.heap.IsCell c v
 free:H X.env.locals=none
 Ux:∀ x c,X.env.cells.lookup x=some c→H c=none
 pin:∀ p∈X.pn++pins,s.heap.get? p.1=some p.2∧H p.1=none∧p.1≠X.env.locals∧p.1∉X.fs∧∀ v,p.2.data≠.cell v
 hok:HOk X.prog X.w H s.heap
 len:σ.length=X.N.length
section
variable {X:Cx}{pins:List (Addr × Obj)}{σ:List (Option V)}{H H':Hp}{s:Shared}{h':Heap}
theorem Cx.Ok.A1r(ok:X.Ok){b:Addr}{o:Obj}(e:X.base.get? b=some o):b∉X.fs:=fun hb=>by
 have:=(ok.Afa.mem hb).1
 rw[e] at this;cases this
theorem Inv.bs(I:Inv X pins σ H s):∀ b o,X.base.get? b=some o→s.heap.get? b=some o∧H b=none:=fun b o e =>
 ⟨I.base.keep b o (I.ok.bs b o e).1 (I.ok.bs b o e).2 (I.ok.A1r e) (I.ok.AoX b o e),I.base.free b o (I.ok.bs b o e).1 (I.ok.bs b o e).2 (I.ok.AoX b o e)⟩
theorem Inv.bk(I:Inv X pins σ H s):∀ b o,X.base.get? b=some o→s.heap.get? b=some o:=fun b o e=>(I.bs b o e).1
theorem Inv.mod(I:Inv X pins σ H s):Mod X.K X.mg X.base:=I.ok.mod
theorem Inv.kIn(I:Inv X pins σ H s):X.K.In s.heap:=I.ok.mod.kin.keeps I.bk
theorem Inv.lt(I:Inv X pins σ H s):X.env.locals<s.heap.objs.size:=let ⟨_,hn,_⟩:=I.loc;hn.lt
theorem Inv.sz(I:Inv X pins σ H s):X.s₀.heap.objs.size≤s.heap.objs.size:=A4q I.ok.above (A4X I.lt)
theorem Inv.A1s(I:Inv X pins σ H s){a:Addr}(h:s.heap.objs.size≤a):a∉X.fs:=fun hb=>by
 obtain⟨_,o,ho,_⟩:=I.ok.Afa.mem hb
 exact absurd (A4k (Heap.lt_size ho) (A4q I.sz h)) (A4v _)
theorem Inv.cne(I:Inv X pins σ H s):∀ x c,X.env.cells.lookup x=some c→c≠X.env.locals:=fun x c e z=>by
 obtain⟨v,o,ho,hd⟩:=I.cell x c e
 obtain⟨m,⟨o',es,ep,ho',hd',_⟩,_⟩:=I.loc
 rw[z,ho'] at ho;cases ho;rw[hd'] at hd;cases hd
theorem Inv.Afa(I:Inv X pins σ H s):s.heap.FunFrames X.base X.outer:=by
 have all:∀(l:List Env),(∀ b∈frs l,b∈X.fs)→X.s₀.heap.FunFrames X.base l→s.heap.FunFrames X.base l:=by
  intro l
  induction l with
  | nil=>intro _ _;trivial
  | cons env r ih =>
   intro hs hl
   obtain⟨hk,⟨L,o,hf,hn,ho,hd⟩,hr⟩:=hl
   have hL:L∈X.fs:=hs L (by unfold frs;rw[A5O,hf];exact A3V)
   obtain⟨sl,e⟩:=I.base.slot L o ho (I.ok.frf L hL) hL fun z=>I.ok.AoY L z hL
   exact⟨hk,⟨L,_,hf,hn,e,hd⟩,ih (fun b hb=>hs b (by unfold frs;rw[A5O,hf];exact A4d _ hb)) hr⟩
 exact all X.outer (fun _ hb=>hb) I.ok.Afa
theorem Inv.stack(I:Inv X pins σ H s):s.heap.FunFrames X.base X.stack:=by
 rcases I.ok.stk with e | ⟨e,hf⟩
 ·rw[e];exact I.Afa
 ·rw[e]
  obtain⟨m,hn,_⟩:=I.loc
  refine .cons (by rw[I.ok.kind];decide) hf hn ?_ I.Afa
  exact Heap.get?_none_of_le (A4q I.ok.bsz I.ok.above)
theorem Inv.An5(I:Inv X pins σ H s):∀ b∈frs X.stack,b∈X.env.locals::X.fs:=fun b hb=>by
 rcases I.ok.stk with e | ⟨e,hf⟩
 ·rw[e] at hb;exact A4d _ hb
 ·rw[e] at hb
  unfold frs at hb
  rw[A5O,hf] at hb
  exact hb
theorem Inv.An6(I:Inv X pins σ H s):∀ b∈frs X.stack,H b=none:=fun b hb=>by
 rcases List.mem_cons.mp (I.An5 b hb) with e | hb
 ·rw[e];exact I.free
 ·obtain⟨_,o,ho,_⟩:=I.ok.Afa.mem hb
  exact I.base.free b o ho (I.ok.frf b hb) fun z=>I.ok.AoY b z hb
theorem Inv.step{g':Array GenState}{t':Nat}{d':Drawn}{ch:List Addr}(I:Inv X pins σ H s)
  (hch:∀ b∈ch,(b∈X.ex∨X.s₀.heap.objs.size≤b)∧b≠X.env.locals∧(∀ x c,X.env.cells.lookup x=some c→c≠b)∧∀ p∈X.pn++pins,p.1≠b)
  (keep:∀ b o,b≠X.env.locals→b∉X.fs→b∉ch→s.heap.get? b=some o→H b=none→h'.get? b=some o)
  (slot:∀ b o,b≠X.env.locals→b∈X.fs→b∉ch→s.heap.get? b=some o→H b=none→∃ sl,h'.get? b=some { o with slots:=sl }) (free:∀ b o,b∉ch→s.heap.get? b=some o→H b=none→H' b=none)
  (there:∀ b o,b∉ch→s.heap.get? b=some o→∃ o',h'.get? b=some o')
  (tups:∀ b xs,H b=some (.tup xs)→H' b=some (.tup xs)) (Aeg:∀ b o u,H b=some (.frz o u)→H' b=some (.frz o u)) (Aht:∀ b ps,H b=some (.tbl ps)→∃ more,H' b=some (.tbl (ps++more)))
  (ns:∀ m,s.heap.Ns X.env.locals m→h'.Ns X.env.locals m) (hok:HOk X.prog X.w H' h') (hg:AllBare g') :
  Inv X pins σ H' { s with heap:=h',gens:=g',drawn:=d',toks:=t' }:=by
 have neL:∀ b o,X.s₀.heap.get? b=some o→b≠X.env.locals:=fun b o e=>A4b (A4k (Heap.lt_size e) I.ok.above)
 have neC:∀ b o,X.s₀.heap.get? b=some o→b∉X.ex→b∉ch:=fun b o e hx hb=>by
  rcases(hch b hb).1 with z | z
  ·exact hx z
  ·exact absurd (A4k (Heap.lt_size e) z) (A4v _)
 have cellK:∀ x c,X.env.cells.lookup x=some c→∀ v,s.heap.IsCell c v→h'.IsCell c v:=fun x c e v ⟨o,ho,hd⟩=>by
  have nch:c∉ch:=fun z=>(hch c z).2.2.1 x c e rfl
  by_cases hc:c∈X.fs
  ·obtain⟨sl,q⟩:=slot c o (I.cne x c e) hc nch ho (I.Ux x c e)
   exact⟨_,q,hd⟩
  ·exact⟨o,keep c o (I.cne x c e) hc nch ho (I.Ux x c e),hd⟩
 refine⟨I.ok,I.os,hg,⟨fun b o e n hb hx=>?_,fun b o e n hb hx=>?_,fun b o e n hx=>?_,fun b o e hx=>?_,fun b xs e=>tups b xs (I.base.tups b xs e),fun b o xs e=>Aeg b o xs (I.base.Aeg b o xs e),fun b ps e=>?_⟩,?_,fun x c e=>?_,?_,fun x c e=>?_,fun p hp=>?_,hok,I.len⟩
 ·exact keep b o (neL b o e) hb (neC b o e hx) (I.base.keep b o e n hb hx) (I.base.free b o e n hx)
 ·obtain⟨sl,e1⟩:=I.base.slot b o e n hb hx
  obtain⟨sl',e2⟩:=slot b _ (neL b o e) hb (neC b o e hx) e1 (I.base.free b o e n hx)
  exact⟨sl',e2⟩
 ·obtain⟨o',e1⟩:=I.base.there b o e hx
  exact free b o' (neC b o e hx) e1 (I.base.free b o e n hx)
 ·obtain⟨o',e1⟩:=I.base.there b o e hx
  exact there b o' (neC b o e hx) e1
 ·obtain⟨m1,e1⟩:=I.base.Aht b ps e
  obtain⟨m2,e2⟩:=Aht b _ e1
  exact⟨m1++m2,by rw[e2,Array.append_assoc]⟩
 ·obtain⟨m,hn,hl⟩:=I.loc
  refine⟨m,ns m hn,fun i x v e1 e2 e3=>?_⟩
  obtain⟨u,r,l⟩:=hl i x v e1 e2 e3
  refine⟨u,r,?_⟩
  rcases l with l | ⟨k,c,e,z⟩
  ·exact .inl l
  ·exact .inr ⟨k,c,e,cellK x c e _ z⟩
 ·obtain⟨v,z⟩:=I.cell x c e
  exact⟨v,cellK x c e v z⟩
 ·obtain⟨m,⟨o,_,_,ho,_⟩,_⟩:=I.loc
  exact free _ o (fun z=>(hch _ z).2.1 rfl) ho I.free
 ·obtain⟨v,o,ho,hd⟩:=I.cell x c e
  exact free c o (fun z=>(hch c z).2.2.1 x c e rfl) ho (I.Ux x c e)
 ·obtain⟨e,n,ne,nf,d⟩:=I.pin p hp
  have nch:p.1∉ch:=fun z=>(hch p.1 z).2.2.2 p hp rfl
  exact⟨keep p.1 p.2 ne nf nch e n,free p.1 p.2 nch e n,ne,nf,d⟩
theorem Inv.un{t':Nat}(I:Inv X pins σ H s)(u:Un X.fs [] H H' s.heap h')(hok:HOk X.prog X.w H' h'):Inv X pins σ H' { s with heap:=h',toks:=t' }:=by
 obtain⟨m,⟨o,es,ep,ho,r⟩,_⟩:=id I.loc
 obtain⟨sl,hL⟩:=u.any ho I.free (by simp)
 exact I.step (g':=s.gens) (d':=s.drawn) (ch:=[]) (fun _ z=>nomatch z) (fun b o _ hb _ e n=>u.keep b o e n hb (by simp)) (fun b o _ hb _ e n=>u.slot b o e n hb (by simp)) (fun b o _ e n=>u.free b o e n (by simp)) (fun b o _ e=>u.there b o e (by simp)) u.tups u.Aeg u.Aht (fun m' hm=>by
  obtain⟨o',es',ep',ho',r'⟩:=hm
  rw[ho] at ho';cases ho'
  exact⟨_,es',ep',hL,r'⟩) hok I.bare
theorem Inv.call{g':Array GenState}{t':Nat}{d':Drawn}{ch:List Addr}(I:Inv X pins σ H s)(u:Un (frs X.stack) ch H H' s.heap h')(hok:HOk X.prog X.w H' h')(hg:AllBare g')
  (hch:∀ b∈ch,(b∈X.ex∨X.s₀.heap.objs.size≤b)∧b≠X.env.locals∧(∀ x c,X.env.cells.lookup x=some c→c≠b)∧∀ p∈X.pn++pins,p.1≠b) :
  Inv X pins σ H' { s with heap:=h',gens:=g',drawn:=d',toks:=t' }:=by
 obtain⟨m,⟨o,es,ep,ho,r⟩,_⟩:=id I.loc
 obtain⟨sl,hL⟩:=u.any ho I.free fun z=>(hch _ z).2.1 rfl
 exact I.step (ch:=ch) hch (fun b o hL hb hc e n=>u.keep b o e n (fun z=>(List.mem_cons.mp (I.An5 b z)).elim hL hb) hc) (fun b o _ _ hc e n=>u.any e n hc) (fun b o hc e n=>u.free b o e n hc) (fun b o hc e=>u.there b o e hc) u.tups u.Aeg u.Aht (fun m' hm=>by
  obtain⟨o',es',ep',ho',r'⟩:=hm
  rw[ho] at ho';cases ho'
  exact⟨_,es',ep',hL,r'⟩) hok hg
theorem Inv.turned{t':Nat}{it:Addr}(I:Inv X pins σ H s)(k:∀ b o,b≠it→s.heap.get? b=some o→h'.get? b=some o)(hn:H it=none)(hL:it≠X.env.locals)
  (h1:it∈X.ex∨X.s₀.heap.objs.size≤it) (h2:∀ x c,X.env.cells.lookup x=some c→c≠it) (h3:∀ p∈X.pn++pins,p.1≠it):Inv X pins σ H { s with heap:=h',toks:=t' }:=by
 have nit:∀ b u,H b=some u→b≠it:=fun b u e z=>by rw[z,hn] at e;cases e
 refine I.step (g':=s.gens) (d':=s.drawn) (ch:=[it]) (fun b hb=>?_) (fun b o _ _ hc e _=>k b o (fun z=>hc (by simp[z])) e) (fun b o _ _ hc e _=>⟨o.slots,k b o (fun z=>hc (by simp[z])) e⟩) (fun _ _ _ _ n=>n)
  (fun b o hc e=>⟨o,k b o (fun z=>hc (by simp[z])) e⟩) (fun _ _ e=>e) (fun _ _ _ e=>e) (fun b ps e=>⟨#[],by rw[e];simp⟩) (fun m hm=>?_) (fun b u e=>?_) I.bare
 ·have e:b=it:=by simpa using hb
  subst e
  exact⟨h1,hL,h2,h3⟩
 ·obtain⟨o,es,ep,ho,r⟩:=hm
  exact⟨o,es,ep,k _ o (Ne.symm hL) ho,r⟩
 ·refine(I.hok b u e).stay (fun c v hc q=>k c v ?_ q) (fun _ q=>q) fun _ _ q=>q
  rcases hc with z | z
  ·rw[z];exact nit b u e
  ·exact nit c _ z
theorem Inv.tok(I:Inv X pins σ H s)(t:Nat):Inv X pins σ H { s with toks:=t }:=I.un (h':=s.heap) (t':=t) Un.refl I.hok
theorem Inv.kept{t':Nat}(I:Inv X pins σ H s)(k:∀ b u,s.heap.get? b=some u→h'.get? b=some u):Inv X pins σ H { s with heap:=h',toks:=t' }:=I.un (Un.kept k) (I.hok.kept k)
theorem Inv.laid{a:Addr}{o:HO}{t':Nat}(I:Inv X pins σ H s)(k:∀ b u,s.heap.get? b=some u→h'.get? b=some u)(hp:s.heap.objs.size≤a)(new:KJ X.prog X.w (upd H a o) h' a o) :
  Inv X pins σ (upd H a o) { s with heap:=h',toks:=t' }:=I.un (Un.laid k hp (I.hok.fresh hp)) (I.hok.laid k hp new)
theorem Inv.write{x e:Addr}{o:HO}{t':Nat}(I:Inv X pins σ H s)(mu:Mut (H x))(he:e=x∨H e=some (.own x))(k:∀ b u,b≠e→s.heap.get? b=some u→h'.get? b=some u)(heo:∃ u,h'.get? e=some u)
  (new:KJ X.prog X.w (upd H x o) h' x o):Inv X pins σ (upd H x o) { s with heap:=h',toks:=t' }:=I.un (Un.write mu he k heo) (I.hok.write mu he k heo new)
theorem Inv.Uy{Axx:List (Addr × Obj)}(I:Inv X pins σ H s)(h:∀ p∈Axx,s.heap.get? p.1=some p.2∧H p.1=none∧p.1≠X.env.locals∧p.1∉X.fs∧∀ v,p.2.data≠.cell v):Inv X Axx σ H s :=
 ⟨I.ok,I.os,I.bare,I.base,I.loc,I.cell,I.free,I.Ux,fun p hp=>(List.mem_append.mp hp).elim (fun z=>I.pin p (A4S _ z)) (h p),I.hok,I.len⟩
theorem AoZ{N:List Str}(hN:N.Nodup){i j:Nat}{x:Str}(a:N[i]?=some x)(b:N[j]?=some x):i=j:=by
 obtain⟨h1,e1⟩:=List.getElem?_eq_some_iff.mp a
 obtain⟨h2,e2⟩:=List.getElem?_eq_some_iff.mp b
 exact(List.getElem_inj hN).mp (e1.trans e2.symm)
theorem AmU{M:Model}{A:Around}{E:Value→Shared→Prop}{i:Nat}{x:Str}{v:V}{u:Value}{Q:Unit→Shared→Prop}(I:Inv X pins σ H s)(hN:X.N.Nodup)(hi:X.N[i]?=some x)(hx:Loc X.env.scope x)(r:RelV v u)
  (h:∀ s',Inv X pins (σ.set i (some v)) H s'→(∃ a,Heap.SameBut a s.heap s'.heap∧(a=X.env.locals∨X.env.cells.lookup x=some a))→Q () s') (hf:X.fn x=true∨X.env.scope.names.lookup x=some .local:=by first | exact .inl rfl | exact .inr rfl | assumption):wpAny M A (storeName X.env x u) Q E s:=by
 obtain⟨m,hn,hl⟩:=id I.loc
 have hcls:(X.env.scope.kind == .class || (X.env.scope.kind == .module && X.env.locals != X.env.globals))=false:=by rw[I.ok.kind];rfl
 have hiσ:i<σ.length:=by rw[I.len];exact(List.getElem?_eq_some_iff.mp hi).1
 have cne:=I.cne
 have tracked:∀{a:Addr} {h':Heap},(∃ o,s.heap.get? a=some o∧H a=none)→Heap.SameBut a s.heap h'→HOk X.prog X.w H h':=fun {a h'} ha hs b ob e=>by
  obtain⟨_,_,hfree⟩:=ha
  refine(I.hok b ob e).stay (fun c w' hc q=>(hs.2 c ?_).trans q) (fun _ q=>q) fun _ _ q=>q
  rintro rfl
  rcases hc with rfl | hc
  ·rw[hfree] at e;cases e
  ·rw[hfree] at hc;cases hc
 rcases hx with hk | hk
 ·refine wpAny_storeName_local hk hn (fun h' hn' hs=>?_) hcls
  obtain⟨oL,_,_,hoL,_⟩:=id hn
  refine h _ ⟨I.ok,I.os,I.bare,⟨fun b o e n hb hx=>?_,fun b o e n hb hx=>?_,I.base.free,fun b o e hx=>?_,I.base.tups,I.base.Aeg,I.base.Aht⟩,⟨_,hn',fun j y v' e1 e2 e3=>?_⟩,fun y c e=>?_,I.free,I.Ux,fun p hp=>?_,tracked ⟨oL,hoL,I.free⟩ hs,by simpa using I.len⟩ ⟨_,hs,.inl rfl⟩
  ·exact(hs.2 b (A4b (A4k (Heap.lt_size e) I.ok.above))).trans (I.base.keep b o e n hb hx)
  ·obtain⟨sl,e1⟩:=I.base.slot b o e n hb hx
   exact⟨sl,(hs.2 b (A4b (A4k (Heap.lt_size e) I.ok.above))).trans e1⟩
  ·obtain⟨o',e1⟩:=I.base.there b o e hx
   exact⟨o',(hs.2 b (A4b (A4k (Heap.lt_size e) I.ok.above))).trans e1⟩
  ·by_cases hj:j=i
   ·subst hj
    rw[hi] at e1;cases e1
    rw[List.getElem?_set_self hiσ] at e2
    cases e2
    exact⟨u,r,.inl ⟨hk,by simp⟩⟩
   ·rw[List.getElem?_set_ne (Ne.symm hj)] at e2
    obtain⟨u',r',q⟩:=hl j y v' e1 e2 e3
    refine⟨u',r',?_⟩
    rcases q with ⟨k,e⟩ | ⟨k,c,e,z⟩
    ·refine .inl ⟨k,?_⟩
     have:y≠x:=fun e=>hj (AoZ hN e1 (e▸hi))
     simp[this,e]
    ·exact .inr ⟨k,c,e,z.sameBut hs (cne y c e)⟩
  ·obtain⟨w',z⟩:=I.cell y c e
   exact⟨w',z.sameBut hs (cne y c e)⟩
  ·obtain⟨e,n,ne,nf,d⟩:=I.pin p hp
   exact⟨(hs.2 p.1 ne).trans e,n,ne,nf,d⟩
 ·have hfn:X.fn x=true:=by
   rcases hf with z | z
   ·exact z
   ·rw[z] at hk;cases hk
  obtain⟨c,hc⟩:=I.ok.has x (.inl hk)
  obtain⟨w',z⟩:=I.cell x c hc
  refine wpAny_storeName_cell I.ok.kind hk hc z (fun h' hc' hs=>?_)
  obtain⟨oc,hoc,A1t⟩:=id z
  refine h { s with heap:=h' } ⟨I.ok,I.os,I.bare,⟨fun b o e n hb hx=>?_,fun b o e n hb hx=>?_,I.base.free,fun b o e hx=>?_,I.base.tups,I.base.Aeg,I.base.Aht⟩,⟨m,hn.sameBut hs (Ne.symm (cne x c hc)),fun j y v' e1 e2 e3=>?_⟩,fun y c' e=>?_,I.free,I.Ux,fun p hp=>?_,tracked ⟨oc,hoc,I.Ux x c hc⟩ hs,by simpa using I.len⟩ ⟨c,hs,.inr hc⟩
  ·exact(hs.2 b (A4b (A4k (Heap.lt_size e) (I.ok.cab x c hfn hc)))).trans (I.base.keep b o e n hb hx)
  ·obtain⟨sl,e1⟩:=I.base.slot b o e n hb hx
   exact⟨sl,(hs.2 b (A4b (A4k (Heap.lt_size e) (I.ok.cab x c hfn hc)))).trans e1⟩
  ·obtain⟨o',e1⟩:=I.base.there b o e hx
   exact⟨o',(hs.2 b (A4b (A4k (Heap.lt_size e) (I.ok.cab x c hfn hc)))).trans e1⟩
  ·by_cases hj:j=i
   ·subst hj
    rw[hi] at e1;cases e1
    rw[List.getElem?_set_self hiσ] at e2
    cases e2
    exact⟨u,r,.inr ⟨.inl hk,c,hc,hc'⟩⟩
   ·rw[List.getElem?_set_ne (Ne.symm hj)] at e2
    obtain⟨u',r',q⟩:=hl j y v' e1 e2 e3
    refine⟨u',r',?_⟩
    rcases q with q | ⟨k,c',e,z'⟩
    ·exact .inl q
    ·refine .inr ⟨k,c',e,z'.sameBut hs ?_⟩
     rintro rfl
     exact hj (AoZ hN e1 (I.ok.inj _ _ _ e hc▸hi))
  ·by_cases hcc:c'=c
   ·subst hcc;exact⟨_,hc'⟩
   ·obtain⟨w2,z2⟩:=I.cell y c' e
    exact⟨w2,z2.sameBut hs hcc⟩
  ·obtain⟨e,n,ne,nf,d⟩:=I.pin p hp
   refine⟨(hs.2 p.1 ?_).trans e,n,ne,nf,d⟩
   intro q
   rw[q,hoc] at e
   have q':oc=p.2:=Option.some.inj e
   exact d w' (by rw[← q'];exact A1t)
theorem AjQ{M:Model}{A:Around}{E:Value→Shared→Prop}{i:Nat}{x:Str}{v:V}{u:Value}{Q:Unit→Shared→Prop}(I:Inv X pins σ H s)(hN:X.N.Nodup)(hi:X.N[i]?=some x)(hx:Loc X.env.scope x)(r:RelV v u)
  (h:∀ s',Inv X pins (σ.set i (some v)) H s'→Q () s') (hf:X.fn x=true∨X.env.scope.names.lookup x=some .local:=by first | exact .inl rfl | exact .inr rfl | assumption):wpAny M A (storeName X.env x u) Q E s :=
 AmU I hN hi hx r (fun s' I' _=>h s' I') hf
theorem Inv.call'{s':Shared}{ch:List Addr}(I:Inv X pins σ H s)(ho:s'.os=s.os)(u:Un (frs X.stack) ch H H' s.heap s'.heap)(hok:HOk X.prog X.w H' s'.heap)(hg:AllBare s'.gens)
  (hch:∀ b∈ch,(b∈X.ex∨X.s₀.heap.objs.size≤b)∧b≠X.env.locals∧(∀ x c,X.env.cells.lookup x=some c→c≠b)∧∀ p∈X.pn++pins,p.1≠b):Inv X pins σ H' s':=by
 obtain⟨h',g',d',t',o'⟩:=s'
 have e:o'=s.os:=ho
 subst e
 exact I.call (g':=g') (t':=t') (d':=d') u hok hg hch
end
abbrev XK:=Value→Option Addr→Hp→Prop
abbrev St:=List (Option V)
abbrev VK:=V→Hp→Prop
abbrev TE:=St→Hp→VK→Prop
abbrev TT:=St→Hp→(Bool→Hp→Prop)→Prop
abbrev TA:=St→Hp→(List V→Hp→Prop)→Prop
structure Ends where
 nx:St→Hp→Prop
 rt:VK
 bk:St→Hp→Prop:=fun _ _=>False
 ct:St→Hp→Prop:=fun _ _=>False
abbrev TS:=Ends→St→Hp→Prop
def EP (X:Cx)(pins:List (Addr × Obj))(σ:St)(Q:VK)(u:Value)(s':Shared):Prop:=∃ v H',Inv X pins σ H' s'∧RelV v u∧Q v H'
def TP (X:Cx)(pins:List (Addr × Obj))(σ:St)(Q:Bool→Hp→Prop)(b:Bool)(s':Shared):Prop:=∃ H',Inv X pins σ H' s'∧Q b H'
def AP (X:Cx)(pins:List (Addr × Obj))(σ:St)(Q:List V→Hp→Prop)(us:List Value)(s':Shared):Prop:=∃ vs H',Inv X pins σ H' s'∧Vals vs us∧Q vs H'
def SP (X:Cx)(pins:List (Addr × Obj))(D:Ends)(f:Flow)(s':Shared):Prop :=
 match f with
 | .next=>∃ σ' H',Inv X pins σ' H' s'∧D.nx σ' H'
 | .brk=>∃ σ' H',Inv X pins σ' H' s'∧D.bk σ' H'
 | .cont=>∃ σ' H',Inv X pins σ' H' s'∧D.ct σ' H'
 | .ret u=>∃ v σ' H',Inv X pins σ' H' s'∧RelV v u∧D.rt v H'
def PE (X:Cx)(e:Expr)(t:TE):Prop :=
 ∀(pins:List (Addr × Obj)) (s:Shared) (σ:St) (H:Hp) (Q:VK),Inv X pins σ H s→t σ H Q→wpAny (model X.prog X.w) X.A (eval e X.env) (EP X pins σ Q) X.xe s
def PT (X:Cx)(e:Expr)(t:TT):Prop :=
 ∀(pins:List (Addr × Obj)) (s:Shared) (σ:St) (H:Hp) (Q:Bool→Hp→Prop),Inv X pins σ H s→t σ H Q→wpAny (model X.prog X.w) X.A (isTrue e X.env (eval e X.env)) (TP X pins σ Q) X.xe s
def PW (X:Cx)(e:Expr)(t:TT):Prop :=
 ∀(whole:Sem Value) (pins:List (Addr × Obj)) (s:Shared) (σ:St) (H:Hp) (Q:Bool→Hp→Prop),Inv X pins σ H s→t σ H Q→wpAny (model X.prog X.w) X.A (isTrue e X.env whole) (TP X pins σ Q) X.xe s
theorem PW.pt{X:Cx}{e:Expr}{t:TT}(h:PW X e t):PT X e t:=h _
def PA (X:Cx)(es:List Expr)(t:TA):Prop :=
 ∀(pos:Pos) (pins:List (Addr × Obj)) (s:Shared) (σ:St) (H:Hp) (Q:List V→Hp→Prop),Inv X pins σ H s→t σ H Q→wpAny (model X.prog X.w) X.A (spliced (backTo pos (starEach es X.env))) (AP X pins σ Q) X.xe s
def PS (X:Cx)(st:Stmt)(t:TS):Prop :=
 ∀(pins:List (Addr × Obj)) (s:Shared) (σ:St) (H:Hp) (D:Ends),Inv X pins σ H s→t D σ H→wpAny (model X.prog X.w) X.A (exec st X.env) (SP X pins D) X.xe s
def PSs (X:Cx)(st:List Stmt)(t:TS):Prop :=
 ∀(pins:List (Addr × Obj)) (s:Shared) (σ:St) (H:Hp) (D:Ends),Inv X pins σ H s→t D σ H→wpAny (model X.prog X.w) X.A (execs st X.env) (SP X pins D) X.xe s
theorem thn{α:Type}{t:Sem α}{Q Q':α→Shared→Prop}{M:Model}{A:Around}{E:Value→Shared→Prop}{s:Shared}(h:wpAny M A t Q E s)(hQ:∀ a s,Q a s→Q' a s):wpAny M A t Q' E s:=wpAny_mono h hQ fun _ _ x=>x
open PySem PySem.Spec PyProof.Rows
section
variable {X:Cx}
def Az5 (i:Nat):TE:=fun σ H Q=>∃ v,σ[i]?=some (some v)∧Q v H
def tC (v:V):TE:=fun _ H Q=>Q v H
theorem AxR{i:Nat}{x:Str}{pos:Pos}(hN:X.N[i]?=some x)(hv:Vis X.env.scope x)(hd:(x == ("__debug__" : Str))=false:=by decide) (hcd:(x == ("__classdict__" : Str))=false:=by decide):PE X (.Name x pos) (Az5 i):=by
 intro pins s σ H Q I h
 obtain⟨v,e,h⟩:=h
 obtain⟨m,hn,hl⟩:=I.loc
 obtain⟨u,r,l⟩:=hl i x v hN e hv
 have fin:EP X pins σ Q u s:=⟨v,H,I,r,h⟩
 rcases l with ⟨hk,hm⟩ | ⟨hk,c,hc,hcell⟩
 ·exact wpAny_Name (wpAny_loadName_local I.ok.kind hk hn hm fin) hd
 ·rcases hk with hk | hk
  ·exact wpAny_Name (wpAny_loadName_cell I.ok.kind hk hc hcell fin) hd
  ·exact wpAny_Name (wpAny_loadName_free I.ok.kind hk hc hcell fin hcd) hd
theorem Ak{i j pos}:PE X (.Constant (.int i) j pos) (tC (.int i)):=fun _ _ _ H _ I h=>wpAny_Constant_int ⟨.int i,H,I.tok _,⟨_,rfl⟩,h⟩
theorem XM{b j pos}:PE X (.Constant (.bool b) j pos) (tC (.bl b)):=fun _ _ _ H _ I h=>Constant_bool ⟨.bl b,H,I,rfl,h⟩
theorem Ahu{j pos}:PE X (.Constant .none j pos) (tC .non):=fun _ _ _ H _ I h=>Constant_none ⟨.non,H,I,rfl,h⟩
theorem Dm{x j pos}:PE X (.Constant (.str x) j pos) (tC (.str x)):=fun _ _ _ H _ I h=>Calls.Constant_str ⟨.str x,H,I.tok _,⟨_,rfl⟩,h⟩
def Gl (X:Cx)(x:Str):Prop:=X.env.kindOf x=some .globalImplicit
theorem An7{E:Value→Shared→Prop}{pins:List (Addr × Obj)}{s:Shared}{σ:St}{H:Hp}{x:Str}{u:Value}{pos:Pos}{Q:Value→Shared→Prop}(I:Inv X pins σ H s)(hg:Gl X x)(hm:X.mg x=some u)(h:Q u s)
  (hd:(x == ("__debug__" : Str))=false:=by decide):wpAny (model X.prog X.w) X.A (eval (.Name x pos) X.env) Q E s :=
 Calls.Name_function_global I.ok.kind hg (Calls.loadGlobal_global (by rw[I.ok.glob];exact I.mod.glob.keeps I.bk) hm h) hd
theorem QR{E:Value→Shared→Prop}{pins:List (Addr × Obj)}{s:Shared}{σ:St}{H:Hp}{x:Str}{u:Value}{pos:Pos}{Q:Value→Shared→Prop}(I:Inv X pins σ H s)(hg:Gl X x)(hm:X.mg x=none)(hv:bootBuiltins x=some u)(h:Q u s)
  (hn:x ≠ "__name__" := by decide) (hd:(x == ("__debug__" : Str))=false:=by decide):wpAny (model X.prog X.w) X.A (eval (.Name x pos) X.env) Q E s:=by
 obtain⟨mb,h1,h2⟩:=I.mod.blt
 exact Calls.Name_function_global I.ok.kind hg (Calls.loadGlobal_builtin (by rw[I.ok.glob];exact I.mod.glob.keeps I.bk) hm (by rw[I.ok.blt];exact h1.keeps I.bk) ((h2 x hn).trans hv) h) hd
theorem Kf{x:Str}{v:V}{u:Value}{pos:Pos}(hg:Gl X x)(hm:X.mg x=some u)(r:RelV v u)(hd:(x == ("__debug__" : Str))=false:=by decide):PE X (.Name x pos) (tC v) :=
 fun _ _ _ H _ I h=>An7 I hg hm ⟨v,H,I,r,h⟩ hd
theorem ArR{x:Str}{v:V}{u:Value}{pos:Pos}(hg:Gl X x)(hm:X.mg x=none)(hv:bootBuiltins x=some u)(r:RelV v u)(hn:x ≠ "__name__" := by decide) (hd:(x == ("__debug__" : Str))=false:=by decide):PE X (.Name x pos) (tC v) :=
 fun _ _ _ H _ I h=>QR I hg hm hv ⟨v,H,I,r,h⟩ hn hd
def t2I (ta tb:TE)(k:Int→Int→Hp→Prop):St→Hp→Prop:=fun σ H=>ta σ H fun x H1=>tb σ H1 fun y H2=>∃ i j,x=.int i∧y=.int j∧k i j H2
def A2Y (ta tb:TE):TE:=fun σ H Q=>t2I ta tb (fun i j H2=>Q (.int (i+j)) H2) σ H
def A2Z (ta tb:TE):TE:=fun σ H Q=>t2I ta tb (fun i j H2=>Q (.int (i-j)) H2) σ H
def A3a (ta tb:TE):TE:=fun σ H Q=>t2I ta tb (fun i j H2=>(-(2 ^ 64)<i∧i<2 ^ 64)∧Q (.int (i*j)) H2) σ H
variable {a b:Expr}{ta tb:TE}{pos:Pos}
def PC (X:Cx)(op:CmpOp)(a b:Expr)(t:TE):Prop :=
 ∀(pins:List (Addr × Obj)) (s:Shared) (σ:St) (H:Hp) (Q:VK),Inv X pins σ H s→t σ H Q →
  wpAny (model X.prog X.w) X.A (eval a X.env) (fun v s₁=>wpAny (model X.prog X.w) X.A (eval b X.env) (fun u s₂=>wpAny (model X.prog X.w) X.A (compareOp op v u) (EP X pins σ Q) X.xe s₂) X.xe s₁) X.xe s
def AsQ (p:Int→Int→Bool)(ta tb:TE):TE:=fun σ H Q=>t2I ta tb (fun i j H2=>Q (.bl (p i j)) H2) σ H
abbrev tLt:TE→TE→TE:=AsQ fun i j=>decide (i<j)
abbrev tLe:TE→TE→TE:=AsQ fun i j=>decide (i≤j)
abbrev tGt:TE→TE→TE:=AsQ fun i j=>decide (j<i)
abbrev tGe:TE→TE→TE:=AsQ fun i j=>decide (j≤i)
abbrev A3b:TE→TE→TE:=AsQ fun i j=>decide (i=j)
abbrev A3c:TE→TE→TE:=AsQ fun i j=>!decide (i=j)
def A3d (ta:TE):TE:=fun σ H Q=>ta σ H fun x H1=>Q (.bl (decide (x=.non))) H1
def A2H (ta:TE):TE:=fun σ H Q=>ta σ H fun x H1=>Q (.bl (!decide (x=.non))) H1
def tB (t:TE):TT:=fun σ H Q=>t σ H fun x H1=>∃ c,x=.bl c∧Q c H1
theorem M8{e:Expr}{t:TE}(h:PE X e t)(he:∀ whole,isTrue e X.env whole=(do let v ← whole;standAt e.pos;holding [v] (truthy v)):=by intro _;rfl):PT X e (tB t):=by
 intro pins s σ H Q I hw
 refine isTrue_plain (thn (h pins s σ H _ I hw) fun v s1 ⟨x,H1,I1,r1,q1⟩=>?_) (he _)
 obtain⟨d,rfl,q⟩:=q1
 cases r1
 exact wpAny_truthy_bool ⟨H1,I1,q⟩
variable {tA tB':TT}{rest:List Expr}
def A1u (t u:TT):TT:=fun σ H Q=>t σ H fun c H1=>if c=true then u σ H1 Q else Q false H1
def tOr (t u:TT):TT:=fun σ H Q=>t σ H fun c H1=>if c=true then Q true H1 else u σ H1 Q
def A1v (t:TT):TT:=fun σ H Q=>t σ H fun c H1=>Q (!c) H1
theorem pw_and1(ha:PT X a tA):PW X (.BoolOp .And [a] pos) tA:=by
 intro wh pins s σ H Q I h
 refine isTrue_and (thn (ha pins s σ H Q I h) fun c s1 e=>?_)
 cases c with
 | true=>exact isTrue_and_nil e
 | false=>exact e
theorem pw_or1(ha:PT X a tA):PW X (.BoolOp .Or [a] pos) tA:=by
 intro wh pins s σ H Q I h
 refine isTrue_or (thn (ha pins s σ H Q I h) fun c s1 e=>?_)
 cases c with
 | false=>exact isTrue_or_nil e
 | true=>exact e
theorem pw_and(ha:PT X a tA)(hb:PW X (.BoolOp .And (b::rest) pos) tB'):PW X (.BoolOp .And (a::b::rest) pos) (A1u tA tB'):=by
 intro wh pins s σ H Q I h
 refine isTrue_and (thn (ha pins s σ H _ I h) fun c s1 ⟨H1,I1,q1⟩=>?_)
 cases c with
 | true=>exact hb wh pins s1 σ H1 Q I1 q1
 | false=>exact⟨H1,I1,q1⟩
theorem pw_or(ha:PT X a tA)(hb:PW X (.BoolOp .Or (b::rest) pos) tB'):PW X (.BoolOp .Or (a::b::rest) pos) (tOr tA tB'):=by
 intro wh pins s σ H Q I h
 refine isTrue_or (thn (ha pins s σ H _ I h) fun c s1 ⟨H1,I1,q1⟩=>?_)
 cases c with
 | true=>exact⟨H1,I1,q1⟩
 | false=>exact hb wh pins s1 σ H1 Q I1 q1
theorem W9(ha:PT X a tA):PT X (.UnaryOp .Not a pos) (A1v tA):=by
 intro pins s σ H Q I h
 exact isTrue_not (ha pins s σ H (fun c H1=>Q (!c) H1) I h)
def A2I (ta tb:TE):TE:=fun σ H Q=>ta σ H fun x H1=>∃ c,x=.bl c∧if c=true then tb σ H1 Q else Q (.bl false) H1
def A3e (ta tb:TE):TE:=fun σ H Q=>ta σ H fun x H1=>∃ c,x=.bl c∧if c=true then Q (.bl true) H1 else tb σ H1 Q
def A2J (ta:TE):TE:=fun σ H Q=>ta σ H fun x H1=>∃ c,x=.bl c∧Q (.bl (!c)) H1
def tIf (t:TT)(ta tb:TE):TE:=fun σ H Q=>t σ H fun c H1=>if c=true then ta σ H1 Q else tb σ H1 Q
theorem Afb{c:Expr}(hc:PT X c tA)(ha:PE X a ta)(hb:PE X b tb):PE X (.IfExp c a b pos) (tIf tA ta tb):=by
 intro pins s σ H Q I h
 refine wpAny_IfExp (thn (hc pins s σ H _ I h) fun d s1 ⟨H1,I1,q1⟩=>?_)
 cases d with
 | true=>exact ha pins s1 σ H1 Q I1 q1
 | false=>exact hb pins s1 σ H1 Q I1 q1
end
open PySem PySem.Spec PyProof.Rows
def SqL (K:PySem.W.Frag)(H:Hp)(a:Addr)(xs:List V):Prop :=
 Rd H a (.lst xs) ∨
  ∃(o:Obj) (its:Array Value) (n:Nat),K.lookup a=some o∧o.cls=.type "list" ∧ o.dict=none∧o.data=.seq its n∧its.size≤sizeLine∧Vals xs its.toList
def SqT (K:PySem.W.Frag)(H:Hp)(a:Addr)(xs:List V):Prop :=
 Rd H a (.tup xs) ∨
  ∃(o:Obj) (its:Array Value) (n:Nat),K.lookup a=some o∧o.cls=.type "tuple" ∧ o.data=.seq its n∧its.size≤sizeLine∧Vals xs its.toList
def A1w:Value→Option V
 | .none=>some .non
 | .bool b=>some (.bl b)
 | .int i _=>some (.int i)
 | .str x _=>some (.str x)
 | .bytes b _=>some (.byt b)
 | .float b _=>some (.flt b)
 | .ref a=>some (.ref a)
 | .type n=>some (.ty n)
 | _=>none
theorem RelV.abs{x:V}{u:Value}(r:RelV x u):A1w u=some x:=by
 cases x with
 | non=>cases r;rfl
 | bl _=>cases r;rfl
 | int _=>obtain⟨t,rfl⟩:=r;rfl
 | str _=>obtain⟨t,rfl⟩:=r;rfl
 | byt _=>obtain⟨t,rfl⟩:=r;rfl
 | flt _=>obtain⟨t,rfl⟩:=r;rfl
 | ref _=>cases r;rfl
 | ty _=>cases r;rfl
theorem RelV.inj{x y:V}{u:Value}(r:RelV x u)(q:RelV y u):x=y:=Option.some.inj (r.abs.symm.trans q.abs)
theorem Vals.inj:∀{xs ys:List V} {us:List Value},Vals xs us→Vals ys us→xs=ys
 | _,_,_,.nil,.nil=>rfl
 | _,_,_,.cons r t,.cons r' t'=>by rw[r.inj r',Vals.inj t t']
section
variable {X:Cx}{pins:List (Addr × Obj)}{σ:St}{H:Hp}{s:Shared}{a:Addr}{xs ys:List V}
theorem SqL.of{K:PySem.W.Frag}(h:H a=some (.lst xs)):SqL K H a xs:=.inl (.inl h)
theorem SqT.of{K:PySem.W.Frag}(h:H a=some (.tup xs)):SqT K H a xs:=.inl (.inl h)
theorem Inv.list(I:Inv X pins σ H s)(h:SqL X.K H a xs):∃ its:List Value,Vals xs its∧PlainL s.heap a its.toArray∧xs.length≤sizeLine:=by
 rcases h with h | ⟨o,its,n,hk,hc,hd,hs,hz,r⟩
 ·obtain⟨z,its,n,r,e⟩:=h.ok I.hok
  exact⟨its,r,⟨_,n,e,rfl,rfl,rfl⟩,z⟩
 ·refine⟨its.toList,r,⟨o,n,I.kIn a o hk,hc,hd,by simpa using hs⟩,?_⟩
  have e:=r.length
  simp only [Array.length_toList] at e
  omega
theorem Inv.tuple(I:Inv X pins σ H s)(h:SqT X.K H a xs):∃ its:List Value,Vals xs its∧IsTup s.heap a its.toArray∧xs.length≤sizeLine:=by
 rcases h with h | ⟨o,its,n,hk,hc,hs,hz,r⟩
 ·obtain⟨z,its,r,p⟩:=h.ok I.hok
  exact⟨its,r,p,z⟩
 ·refine⟨its.toList,r,⟨o,I.kIn a o hk,hc,n,by simpa using hs⟩,?_⟩
  have e:=r.length
  simp only [Array.length_toList] at e
  omega
theorem Inv.M9(I:Inv X pins σ H s)(h:SqL X.K H a xs)(h':SqL X.K H a ys):xs=ys:=by
 obtain⟨its,r,⟨o,n,e,_,_,d⟩,_⟩:=I.list h
 obtain⟨its',r',⟨o',n',e',_,_,d'⟩,_⟩:=I.list h'
 rw[e] at e';cases e'
 rw[d] at d'
 injection d' with d1 _
 have:its=its':=by simpa using congrArg Array.toList d1
 subst this
 exact r.inj r'
theorem Inv.Ahv(I:Inv X pins σ H s)(h:SqT X.K H a xs)(h':SqT X.K H a ys):xs=ys:=by
 obtain⟨its,r,⟨o,e,_,n,d⟩,_⟩:=I.tuple h
 obtain⟨its',r',⟨o',e',_,n',d'⟩,_⟩:=I.tuple h'
 rw[e] at e';cases e'
 rw[d] at d'
 injection d' with d1 _
 have:its=its':=by simpa using congrArg Array.toList d1
 subst this
 exact r.inj r'
end
abbrev Cx.wish (X:Cx) (E:Value→Shared→Prop):Cx:={ X with xe:=E }
abbrev Cx.nox (X:Cx):Cx:=X.wish fun _ _=>False
theorem Cx.Ok.wish{X:Cx}(ok:X.Ok)(E:Value→Shared→Prop):(X.wish E).Ok :=
 ⟨ok.mod,ok.kind,ok.glob,ok.blt,ok.above,ok.inj,ok.has,ok.cab,ok.hd,ok.frames,ok.stk,ok.exf,ok.bs,ok.bsz,ok.AoX,ok.AoY,ok.Afa,ok.frf⟩
theorem Cx.Ok.AaM{X:Cx}{E:Value→Shared→Prop}(ok:(X.wish E).Ok):X.Ok :=
 ⟨ok.mod,ok.kind,ok.glob,ok.blt,ok.above,ok.inj,ok.has,ok.cab,ok.hd,ok.frames,ok.stk,ok.exf,ok.bs,ok.bsz,ok.AoX,ok.AoY,ok.Afa,ok.frf⟩
section
variable {X:Cx}{pins:List (Addr × Obj)}{σ:St}{H:Hp}{s:Shared}{E:Value→Shared→Prop}
theorem Inv.wish(I:Inv X pins σ H s)(E:Value→Shared→Prop):Inv (X.wish E) pins σ H s:=⟨I.ok.wish E,I.os,I.bare,I.base,I.loc,I.cell,I.free,I.Ux,I.pin,I.hok,I.len⟩
theorem Inv.AaM(I:Inv (X.wish E) pins σ H s):Inv X pins σ H s:=⟨I.ok.AaM,I.os,I.bare,I.base,I.loc,I.cell,I.free,I.Ux,I.pin,I.hok,I.len⟩
theorem SP.AaM{D:Ends}{f:Flow}{s':Shared}(h:SP (X.wish E) pins D f s'):SP X pins D f s':=by
 cases f with
 | next=>obtain⟨σ',H',I,q⟩:=h;exact⟨σ',H',I.AaM,q⟩
 | brk=>obtain⟨σ',H',I,q⟩:=h;exact⟨σ',H',I.AaM,q⟩
 | cont=>obtain⟨σ',H',I,q⟩:=h;exact⟨σ',H',I.AaM,q⟩
 | ret u=>obtain⟨v,σ',H',I,r,q⟩:=h;exact⟨v,σ',H',I.AaM,r,q⟩
theorem PSs.nox{st:List Stmt}{t:TS}(h:PSs X.nox st t):PSs X st t:=fun pins s σ H D I hw =>
 wpAny_mono (h pins s σ H D (I.wish _) hw) (fun _ _ q=>q.AaM) fun _ _ z=>False.elim z
end
section
variable {X:Cx}{st:Stmt}{rest:List Stmt}{t u:TS}{e:Expr}{te:TE}{pos:Pos}
def Az6:TS:=fun D σ H=>D.nx σ H
def A1x (t u:TS):TS:=fun D σ H=>t { D with nx:=u D } σ H
theorem Bj:PSs X [] Az6:=fun _ _ σ H _ I h=>wpAny_execs_nil ⟨σ,H,I,h⟩
theorem Ad(h1:PS X st t)(h2:PSs X rest u):PSs X (st::rest) (A1x t u):=by
 intro pins s σ H D I h
 refine wpAny_execs_cons (thn (h1 pins s σ H { D with nx:=u D } I h) fun f s1 q=>?_)
 cases f with
 | next =>
  obtain⟨σ',H',I',q⟩:=q
  exact h2 pins s1 σ' H' D I' q
 | ret v=>exact q
 | brk=>exact q
 | cont=>exact q
theorem Ah(h1:PS X st t):PSs X [st] t:=by
 intro pins s σ H D I h
 refine wpAny_execs_cons (thn (h1 pins s σ H D I h) fun f s1 q=>?_)
 cases f with
 | next=>exact wpAny_execs_nil q
 | ret v=>exact q
 | brk=>exact q
 | cont=>exact q
def A1y:TS:=fun D σ H=>D.bk σ H
def A2K:TS:=fun D σ H=>D.ct σ H
theorem Inv.quiet{pins:List (Addr × Obj)}{σ:St}{H:Hp}{s:Shared}(I:Inv X pins σ H s):interactive X.env=false:=by simp[interactive,I.ok.kind]
def Az7 (te:TE):TS:=fun D σ H=>te σ H fun _ H1=>D.nx σ H1
theorem DP(he:PE X e te)(hs:swapsWith e none pos.line X.env=pure false:=by rfl):PS X (.Expr e pos) (Az7 te):=by
 intro pins s σ H D I h
 exact wpAny_Expr_any (thn (he pins s σ H _ I h) fun v s1 ⟨x,H1,I1,r1,q1⟩=>⟨σ,H1,I1,q1⟩) I.quiet hs
def A1z (te:TE):TS:=fun D σ H=>te σ H D.rt
theorem Bb(he:PE X e te):PS X (.Return (some e) pos) (A1z te):=by
 intro pins s σ H D I h
 exact wpAny_Return_some (thn (he pins s σ H _ I h) fun v s1 ⟨x,H1,I1,r1,q1⟩=>⟨x,σ,H1,I1,r1,q1⟩)
def A2L:TS:=fun D _ H=>D.rt .non H
def A1G (c:TT)(t u:TS):TS:=fun D σ H=>c σ H fun b H1=>if b=true then t D σ H1 else u D σ H1
theorem Dc{c:Expr}{a b:List Stmt}{tc:TT}(hc:PT X c tc)(ha:PSs X a t)(hb:PSs X b u):PS X (.If c a b pos) (A1G tc t u):=by
 intro pins s σ H D I h
 refine wpAny_If (thn (hc pins s σ H _ I h) fun d s1 ⟨H1,I1,q1⟩=>?_)
 cases d with
 | true=>exact ha pins s1 σ H1 D I1 q1
 | false=>exact hb pins s1 σ H1 D I1 q1
def AxS:TS:=fun _ _ _=>False
theorem FJ:PS X st AxS:=fun _ _ _ _ _ _ h=>h.elim
end
abbrev TG:=V→St→Hp→(St→Hp→Prop)→Prop
abbrev TGs:=List V→St→Hp→(St→Hp→Prop)→Prop
def PG (X:Cx)(target:Expr)(t:TG):Prop :=
 ∀(pins:List (Addr × Obj)) (s:Shared) (σ:St) (H:Hp) (v:V) (u:Value) (Q:St→Hp→Prop),Inv X pins σ H s→RelV v u→t v σ H Q →
  wpAny (model X.prog X.w) X.A (assign target X.env u) (fun _ s'=>∃ σ' H',Inv X pins σ' H' s'∧Q σ' H') X.xe s
def PGs (X:Cx)(ts:List Expr)(t:TGs):Prop :=
 ∀(pins:List (Addr × Obj)) (s:Shared) (σ:St) (H:Hp) (vs:List V) (us:List Value) (Q:St→Hp→Prop),Inv X pins σ H s→Vals vs us→t vs σ H Q →
  wpAny (model X.prog X.w) X.A (assignInOrder ((assignEach ts X.env).map (·.2)) us) (fun _ s'=>∃ σ' H',Inv X pins σ' H' s'∧Q σ' H') X.xe s
abbrev Awo:=V→V→V→Hp→(Hp→Prop)→Prop
def Az8 (X:Cx)(t:Awo):Prop :=
 ∀(pins:List (Addr × Obj)) (s:Shared) (σ:St) (H:Hp) (o i v:V) (ov iv u:Value) (Q:Hp→Prop),Inv X pins σ H s→RelV o ov→RelV i iv→RelV v u→t o i v H Q →
  wpAny (model X.prog X.w) X.A (setItem ov iv u) (fun _ s'=>∃ H',Inv X pins σ H' s'∧Q H') X.xe s
abbrev TIp:=V→V→Hp→VK→Prop
def PIp (X:Cx)(op:Operator)(t:TIp):Prop :=
 ∀(pins:List (Addr × Obj)) (s:Shared) (σ:St) (H:Hp) (x y:V) (v u:Value) (Q:VK),Inv X pins σ H s→RelV x v→RelV y u→t x y H Q →
  wpAny (model X.prog X.w) X.A (inplaceOp op v u) (EP X pins σ Q) X.xe s
section
variable {X:Cx}{pos:Pos}
def Afc (i:Nat):TG:=fun v σ H Q=>Q (σ.set i (some v)) H
theorem Dd{i:Nat}{x:Str}(hN:X.N.Nodup)(hi:X.N[i]?=some x)(hx:Loc X.env.scope x)(hf:X.fn x=true∨X.env.scope.names.lookup x=some .local:=by first | exact .inl rfl | exact .inr rfl | assumption):PG X (.Name x pos) (Afc i):=by
 intro pins s σ H v u Q I r h
 exact wpAny_assign_Name (AjQ I hN hi hx r (fun s' I'=>⟨_,H,I',h⟩) hf)
def Az9:TGs:=fun vs σ H Q=>vs=[]∧Q σ H
def Auk (t:TG)(u:TGs):TGs:=fun vs σ H Q=>∃ v r,vs=v::r∧t v σ H fun σ' H'=>u r σ' H' Q
theorem ArS:PGs X [] Az9:=by
 intro pins s σ H vs us Q I r h
 obtain⟨e,h⟩:=h
 subst e
 cases r
 exact assignInOrder_nil ⟨σ,H,I,h⟩
theorem Afd{e:Expr}{es:List Expr}{t:TG}{u:TGs}(h1:PG X e t)(h2:PGs X es u)
  (hs:(assignEach (e::es) X.env).map (·.2)=assign e X.env::(assignEach es X.env).map (·.2):=by rfl):PGs X (e::es) (Auk t u):=by
 intro pins s σ H vs us Q I r h
 obtain⟨v,vr,e1,h⟩:=h
 subst e1
 cases r with
 | cons r rr =>
  rw[hs]
  refine assignInOrder_cons (thn (h1 pins s σ H _ _ _ I r h) fun _ s1 ⟨σ1,H1,I1,q1⟩=>?_)
  exact h2 pins s1 σ1 H1 _ _ Q I1 rr q1
def AzA (K:PySem.W.Frag)(n:Nat)(t:TGs):TG:=fun v σ H Q=>∃ a xs,v=.ref a∧SqT K H a xs∧xs.length=n∧t xs σ H Q
theorem Aul{es:List Expr}{k:Nat}{t:TGs}{n:Nat}(hc:X.calm=true)(h:PGs X es t)
  (hn:(assignEach es X.env).length=n:=by rfl) (hst:(assignEach es X.env).findIdx? (·.1)=none:=by rfl):PG X (.Tuple es k pos) (AzA X.K n t):=by
 intro pins s σ H v u Q I r hw
 obtain⟨a,xs,e1,hq,hl,hw⟩:=hw
 subst e1
 cases r
 obtain⟨its,rv,ht,hz⟩:=I.tuple hq
 refine assign_Tuple_tuple (I.ok.hd hc) ht (by simp[hn,← hl,rv.length]) hst fun h' hx=>?_
 have I1:Inv X pins σ H { s with heap:=h' }:=I.kept (t':=s.toks) fun b o e=>hx b o (A4b (Heap.lt_size e)) e
 exact h pins _ σ H xs _ Q I1 (by simpa using rv) hw
def A1H (to ti:TE)(t:Awo):TG:=fun v σ H Q=>to σ H fun o H1=>ti σ H1 fun i H2=>t o i v H2 fun H3=>Q σ H3
theorem Aum{o i:Expr}{to ti:TE}{t:Awo}(ho:PE X o to)(hi:PE X i ti)(hs:Az8 X t)
  (ha:∀ v,assign (.Subscript o i pos) X.env v=(do
   let ov ← holding [v] (eval o X.env)
   let iv ← holding [v,ov] (eval i X.env)
   standAt pos
   holding [v,ov,iv] (setItem ov iv v)
   release [v,ov,iv] []):=by intro _;rfl):PG X (.Subscript o i pos) (A1H to ti t):=by
 intro pins s σ H v u Q I r h
 rw[ha]
 refine wpAny_bind (wpAny_holding (thn (ho pins s σ H _ I h) fun ov s1 ⟨x,H1,I1,r1,q1⟩=>?_))
 refine wpAny_bind (wpAny_holding (thn (hi pins s1 σ H1 _ I1 q1) fun iv s2 ⟨y,H2,I2,r2,q2⟩=>?_))
 refine wpAny_bind (wpAny_standAt (wpAny_bind (wpAny_holding (thn (hs pins s2 σ H2 x y v ov iv u _ I2 r1 r2 r q2) fun _ s3 ⟨H3,I3,q3⟩=>?_))))
 exact wpAny_release ⟨σ,H3,I3,q3⟩
def AxT (te:TE)(g:TG):TS:=fun D σ H=>te σ H fun x H1=>g x σ H1 D.nx
theorem Aun{tg e:Expr}{te:TE}{g:TG}(he:PE X e te)(hg:PG X tg g)(hs:swapsWithSole [tg] e pos.line X.env=pure false:=by rfl)(hw:swappedStores [tg] e X.env=pure none:=by rfl)
  (h1:(assignEach [tg] X.env).map (·.2)=[assign tg X.env]:=by rfl):PS X (.Assign [tg] e pos) (AxT te g):=by
 intro pins s σ H D I h
 refine wpAny_Assign_stores (thn (he pins s σ H _ I h) fun v s1 ⟨x,H1,I1,r1,q1⟩=>?_) hs hw
 rw[h1]
 exact thn (hg pins s1 σ H1 x v _ I1 r1 q1) fun _ s2 q=>q
theorem Ax{i:Nat}{x:Str}{e:Expr}{te:TE}{pos':Pos}(hN:X.N.Nodup)(hi:X.N[i]?=some x)(hx:Loc X.env.scope x)(he:PE X e te)(hs:swapsWith e (some (.Name x pos')) pos.line X.env=pure false:=by rfl)(hf:X.fn x=true∨X.env.scope.names.lookup x=some .local:=by first | exact .inl rfl | exact .inr rfl | assumption) :
  PS X (.Assign [.Name x pos'] e pos) (AxT te (Afc i)):=by
 intro pins s σ H D I h
 refine wpAny_Assign_Name (thn (he pins s σ H _ I h) fun v s1 ⟨y,H1,I1,r1,q1⟩=>?_) hs
 exact AjQ I1 hN hi hx r1 (fun s2 I2=>⟨_,H1,I2,q1⟩) hf
def A3f (i j:Nat)(ta:TA):TS:=fun D σ H=>ta σ H fun vs H1=>∃ v w,vs=[v,w]∧D.nx ((σ.set i (some v)).set j (some w)) H1
def A1I (i:Nat)(te:TE)(ti:TIp):TS:=fun D σ H=>∃ x,σ[i]?=some (some x)∧te σ H fun y H1=>ti x y H1 fun z H2=>D.nx (σ.set i (some z)) H2
theorem AxU{i:Nat}{x:Str}{e:Expr}{te:TE}{op:Operator}{ti:TIp}{pos':Pos}(hN:X.N.Nodup)(hi:X.N[i]?=some x)(hx:Loc X.env.scope x)(he:PE X e te)(ho:PIp X op ti)(hf:X.fn x=true∨X.env.scope.names.lookup x=some .local:=by first | exact .inl rfl | exact .inr rfl | assumption) :
  PS X (.AugAssign (.Name x pos') op e pos) (A1I i te ti):=by
 intro pins s σ H D I h
 obtain⟨v,e1,h⟩:=h
 obtain⟨m,hn,hl⟩:=I.loc
 have vis:Vis X.env.scope x:=by rcases hx with k | k;exact .inl k;exact .inr (.inl k)
 obtain⟨u,r,l⟩:=hl i x v hi e1 vis
 refine wpAny_AugAssign_Name ?_
 have go:wpAny (model X.prog X.w) X.A (eval e X.env) (fun w s₂=>wpAny (model X.prog X.w) X.A (inplaceOp op u w) (fun r s₃=>wpAny (model X.prog X.w) X.A (storeName X.env x r) (fun _=>SP X pins D .next) X.xe s₃) X.xe s₂) X.xe s:=by
  refine thn (he pins s σ H _ I h) fun w s1 ⟨y,H1,I1,r1,q1⟩=>?_
  refine thn (ho pins s1 σ H1 v y u w _ I1 r r1 q1) fun z s2 ⟨zv,H2,I2,r2,q2⟩=>?_
  exact AjQ I2 hN hi hx r2 (fun s3 I3=>⟨_,H2,I3,q2⟩) hf
 rcases l with ⟨hk,hm⟩ | ⟨hk,c,hc,hcell⟩
 ·exact wpAny_loadName_local I.ok.kind hk hn hm go
 ·rcases hk with hk | hk
  ·exact wpAny_loadName_cell I.ok.kind hk hc hcell go
  ·rcases hx with k | k
   ·have:X.env.scope.names.lookup x=some .free:=hk
    rw[k] at this;cases this
   ·have:X.env.scope.names.lookup x=some .free:=hk
    rw[k] at this;cases this
def A2M (to ti te:TE)(A1J:V→V→Hp→VK→Prop)(tip:TIp)(A1K:Awo):TS:=fun D σ H=>to σ H fun o H1=>ti σ H1 fun i H2=>A1J o i H2 fun x H3=>te σ H3 fun y H4=>tip x y H4 fun z H5=>A1K o i z H5 fun H6=>D.nx σ H6
def A3g (X:Cx)(t:V→V→Hp→VK→Prop):Prop :=
 ∀(pins:List (Addr × Obj)) (s:Shared) (σ:St) (H:Hp) (o i:V) (ov iv:Value) (Q:VK),Inv X pins σ H s→RelV o ov→RelV i iv→t o i H Q →
  wpAny (model X.prog X.w) X.A (getItem ov iv) (EP X pins σ Q) X.xe s
def ipI (f:Int→Int→Int):TIp:=fun x y H Q=>∃ i j,x=.int i∧y=.int j∧Q (.int (f i j)) H
theorem AxV:PIp X .Add (ipI fun i j=>i+j):=by
 intro pins s σ H x y v u Q I r1 r2 h
 obtain⟨i,j,e1,e2,q⟩:=h
 subst e1;subst e2
 obtain⟨t,rfl⟩:=r1
 obtain⟨t',rfl⟩:=r2
 exact iadd_int ⟨.int _,H,I.tok _,⟨_,rfl⟩,q⟩
end
section
variable {X:Cx}{pos:Pos}
def AxW (c:TT)(tb:TS):TS:=fun D σ H=>∃ W:Nat→St→Hp→Prop,(∃ m,W m σ H)∧∀ m σ H,W m σ H →
 c σ H fun b H1=>if b=true then ∃ N:St→Hp→Prop,(∀ σ' H',N σ' H'→∃ m',m'<m∧W m' σ' H')∧tb { D with nx:=N,ct:=N,bk:=D.nx } σ H1 else D.nx σ H1
theorem AjR{c:Expr}{body:List Stmt}{tc:TT}{tb:TS}(hp:PassesOwn (model X.prog X.w) X.A X.env X.xe)(hc:PT X c tc)(hb:PSs X body tb):PS X (.While c body [] pos) (AxW tc tb):=by
 intro pins s σ H D I h
 obtain⟨W,⟨m0,w0⟩,turn⟩:=h
 refine wpAny_While (codeAny_whileLoop (fun n s'=>∃ σ' H',Inv X pins σ' H' s'∧W n σ' H') ?_ m0 ⟨σ,H,I,w0⟩)
 rintro n s1 ⟨σ1,H1,I1,w1⟩
 refine wpAny_passesOwn hp (thn (hc pins s1 σ1 H1 _ I1 (turn n σ1 H1 w1)) fun b s2 ⟨H2,I2,q2⟩=>?_)
 cases b with
 | true =>
  obtain⟨N,hN,q2⟩:=q2
  rw[if_pos rfl]
  refine wpAny_passesOwn hp (thn (hb pins s2 σ1 H2 _ I2 q2) fun f s3 q3=>?_)
  cases f with
  | next =>
   obtain⟨σ3,H3,I3,n3⟩:=q3
   obtain⟨m',hm,w3⟩:=hN σ3 H3 n3
   exact⟨m',hm,σ3,H3,I3,w3⟩
  | cont =>
   obtain⟨σ3,H3,I3,n3⟩:=q3
   obtain⟨m',hm,w3⟩:=hN σ3 H3 n3
   exact⟨m',hm,σ3,H3,I3,w3⟩
  | brk=>exact q3
  | ret v=>exact q3
 | false =>
  rw[if_neg A4g]
  exact wpAny_execs_nil ⟨σ1,H2,I2,q2⟩
end
structure It where
 go:Nat→Hp→Prop
 yld:Nat→Hp→V→Hp→Prop
 stop:Nat→Hp→Prop
def XN (X:Cx)(pins:List (Addr × Obj))(H:Hp)(b:Addr):Prop :=
 H b=none∧b≠X.env.locals∧b∉X.fs∧(b∈X.ex∨X.s₀.heap.objs.size≤b)∧(∀ x c,X.env.cells.lookup x=some c→c≠b)∧∀ p∈X.pn++pins,p.1≠b
theorem Inv.AsR{X:Cx}{pins:List (Addr × Obj)}{σ:St}{H H':Hp}{s:Shared}{b:Addr}(I:Inv X pins σ H s)(hb:s.heap.objs.size≤b)(hn:H' b=none):XN X pins H' b:=by
 refine⟨hn,A4y (A4k I.lt hb),I.A1s hb,.inr (A4q I.sz hb),fun x c e z=>?_,fun p hp z=>?_⟩
 ·obtain⟨v,q⟩:=I.cell x c e
  exact absurd (A4k q.lt (by rw[z];exact hb)) (A4v _)
 ·exact absurd (A4k (Heap.lt_size (I.pin p hp).1) (by rw[z];exact hb)) (A4v _)
structure Turn (P:Program) (w:World) (K:PySem.W.Frag) (tg:Expr) (J:It) (fp:List Addr) (it:Addr) (tn:Nat→Heap→Prop):Prop where
 mem:it∈fp
 obj:∀ i h,tn i h→∀ b∈fp,∃ o,h.get? b=some o∧∀ v,o.data≠.cell v
 keep:∀ i h h',tn i h→(∀ b∈fp,∀ o,h.get? b=some o→h'.get? b=some o)→tn i h'
 item:∀(X:Cx),X.prog=P→X.w=w→X.K=K→X.calm=true→∀(i:Nat) (pins:List (Addr × Obj)) (s:Shared) (σ:St) (H:Hp) (E:Value→Shared→Prop),Inv X pins σ H s→(∀ b∈fp,XN X pins H b)→tn i s.heap→J.go i H →
  wpAny (model P w) X.A (pyNext (.ref it)) (fun r s1=>∃ u,r=some u ∧
   wpAny (model P w) X.A (letOwnedTupleGo tg (.ref it) u) (fun _ s2=>∃ x H',Inv X pins σ H' s2∧RelV x u∧J.yld i H x H'∧tn (i+1) s2.heap∧∀ b∈fp,H' b=none) E s1) E s
 done:∀(X:Cx),X.prog=P→X.w=w→X.K=K→X.calm=true→∀(i:Nat) (pins:List (Addr × Obj)) (s:Shared) (σ:St) (H:Hp) (E:Value→Shared→Prop),Inv X pins σ H s→(∀ b∈fp,XN X pins H b)→tn i s.heap→J.stop i H →
  wpAny (model P w) X.A (pyNext (.ref it)) (fun r s1=>r=none∧Inv X pins σ H s1) E s
 self:∀(A:Around) (i:Nat) (s:Shared) (Q:Value→Shared→Prop) (E:Value→Shared→Prop),tn i s.heap→Q (.ref it) s→wpAny (model P w) A (pyIter (.ref it)) Q E s
abbrev TI:=St→Hp→(It→Hp→Prop)→Prop
def PIE (X:Cx)(pins:List (Addr × Obj))(σ:St)(tg:Expr)(R:It→Hp→Prop)(itv:Value)(s2:Shared):Prop :=
 ∃(it:Addr) (fp:List Addr) (tn:Nat→Heap→Prop) (J:It) (H':Hp),itv=.ref it∧Inv X pins σ H' s2∧Turn X.prog X.w X.K tg J fp it tn∧tn 0 s2.heap∧(∀ b∈fp,XN X pins H' b)∧R J H'
def PI (X:Cx)(tg iter:Expr)(wi:TI):Prop :=
 ∀(pins:List (Addr × Obj)) (s:Shared) (σ:St) (H:Hp) (R:It→Hp→Prop),Inv X pins σ H s→wi σ H R →
  wpAny (model X.prog X.w) X.A (eval iter X.env) (fun v s1=>wpAny (model X.prog X.w) X.A (pyIter v) (PIE X pins σ tg R) X.xe s1) X.xe s
theorem Apa{M:Model}{A:Around}{E:Value→Shared→Prop}{s:Shared}{tg:Expr}{it:Addr}{u:Value}{o:Obj}{n:String}{vs:Array Value}{Q:Unit→Shared→Prop}(ho:s.heap.get? it=some o)(hc:o.cls=.type n)(hd:o.data=.fields vs)
    (hn:["enumerate", "zip", "dict_itemiterator", "dict_reverseitemiterator", "odict_iterator", "itertools.zip_longest", "itertools.pairwise"].contains n=false) (hQ:Q () s):wpAny M A (letOwnedTupleGo tg (.ref it) u) Q E s:=by
  unfold letOwnedTupleGo
  cases tg <;> first
    | exact wpAny_pure hQ
    | (cases u <;> first
        | exact wpAny_pure hQ
        | (refine wpAny_bind (wpAny_load ho ?_)
           rw[hc,hd]
           show wpAny M A (if (["enumerate", "zip", "dict_itemiterator", "dict_reverseitemiterator", "odict_iterator", "itertools.zip_longest", "itertools.pairwise"].contains n && vs[0]? == some (rawInt _))=true then _ else _) Q E s
           rw[if_neg (by intro h;rw[hn,Bool.false_and] at h;cases h)]
           exact wpAny_pure hQ))
def Itl (K:PySem.W.Frag)(a:Addr):It :=
 ⟨fun i H=>∃ xs x,SqL K H a xs∧xs[i]?=some x,fun i H x H'=>H'=H∧∀ xs,SqL K H a xs→xs[i]?=some x,fun i H=>∃ xs,SqL K H a xs∧xs.length≤i⟩
def Itt (K:PySem.W.Frag)(a:Addr):It :=
 ⟨fun i H=>∃ xs x,SqT K H a xs∧xs[i]?=some x,fun i H x H'=>H'=H∧∀ xs,SqT K H a xs→xs[i]?=some x,fun i H=>∃ xs,SqT K H a xs∧xs.length≤i⟩
def Itr (lo:Int)(n:Nat):It:=⟨fun i _=>i<n,fun i H x H'=>H'=H∧x=.int (lo+i),fun i _=>n≤i⟩
theorem AsS{P:Program}{w:World}{K:PySem.W.Frag}{tg:Expr}(a it:Addr):Turn P w K tg (Itl K a) [it] it (fun i h=>h.IsListIter it a i) where
 mem:=by simp
 obj:=fun i h st b hb=>by
  have e:b=it:=by simpa using hb
  subst e
  obtain⟨o,e,c,d⟩:=st
  exact⟨o,e,fun v z=>by rw[d] at z;cases z⟩
 keep:=fun i h h' st k=>st.at fun o e=>k it (by simp) o e
 item:=by
  intro X hP hw hK hc i pins s σ H E I hf st hg
  subst hP hw hK
  obtain⟨xs,x,hq,hx⟩:=hg
  obtain⟨its,rv,p,hz⟩:=I.list hq
  obtain⟨u,hu,ru⟩:=rv.get hx
  obtain⟨f0,f1,f2,f3,f4,f5⟩:=hf it (by simp)
  refine wpAny_pyNext_list_item st p.isList (x:=u) (by simpa using hu) fun h' st' sb=>?_
  have I1:Inv X pins σ H { s with heap:=h' }:=I.turned (t':=s.toks) (fun b o hb e=>(sb.2 b hb).trans e) f0 f1 f3 f4 f5
  obtain⟨o,e,c,d⟩:=id st'
  exact⟨u,rfl,Apa (s:={ s with heap:=h' }) e c d (by decide) ⟨x,H,I1,ru,⟨rfl,fun ys hy=>by rw[I.M9 hy hq];exact hx⟩,st',fun b hb=>(hf b hb).1⟩⟩
 done:=by
  intro X hP hw hK hc i pins s σ H E I hf st hg
  subst hP hw hK
  obtain⟨xs,hq,hx⟩:=hg
  obtain⟨its,rv,p,hz⟩:=I.list hq
  obtain⟨f0,f1,f2,f3,f4,f5⟩:=hf it (by simp)
  have hl:=rv.length
  exact wpAny_pyNext_list_end (I.ok.hd hc) st p.isList (by simp;omega) fun h' eb=>⟨rfl,I.turned (t':=s.toks) (fun b o hb e=>eb b o hb e) f0 f1 f3 f4 f5⟩
 self:=fun _ _ _ _ _ st h=>wpAny_pyIter_listiter st h
theorem AqF{P:Program}{w:World}{K:PySem.W.Frag}{tg:Expr}(it:Addr)(lo:Int)(n:Nat):Turn P w K tg (Itr lo n) [it] it (fun i h=>IsRangeIter h it (lo+(i:Nat)*1) ((n:Int)-(i:Nat)) 1) where
 mem:=by simp
 obj:=fun i h st b hb=>by
  have e:b=it:=by simpa using hb
  subst e
  exact⟨_,st,fun v z=>by
   have z':Data.fields _=Data.cell v:=z
   cases z'⟩
 keep:=fun i h h' st k=>k it (by simp) _ st
 item:=by
  intro X hP hw hK hc i pins s σ H E I hf st hg
  subst hP hw hK
  obtain⟨f0,f1,f2,f3,f4,f5⟩:=hf it (by simp)
  have W:=Walks.range (prog:=X.prog) (w:=X.w) (I.ok.hd hc) it lo 1 n
  refine W.item i s _ _ hg st fun v h' tk hv st' kk=>?_
  obtain⟨t,rfl⟩:=hv
  have I1:Inv X pins σ H { s with heap:=h',toks:=tk }:=I.turned (fun b o hb e=>kk b o (by simpa using hb) e) f0 f1 f3 f4 f5
  refine⟨_,rfl,Apa (s:={ s with heap:=h',toks:=tk }) (n := "range_iterator") st' rfl rfl (by decide) ⟨.int (lo+i),H,I1,⟨t,?_⟩,⟨rfl,rfl⟩,st',fun b hb=>(hf b hb).1⟩⟩
  rw[Int.mul_one]
 done:=by
  intro X hP hw hK hc i pins s σ H E I hf st hg
  subst hP hw hK
  obtain⟨f0,f1,f2,f3,f4,f5⟩:=hf it (by simp)
  exact wpAny_pyNext_range_end (I.ok.hd hc) st (by have:n≤i:=hg;omega) fun h' eb=>⟨rfl,I.turned (t':=s.toks) (fun b o hb e=>eb b o hb e) f0 f1 f3 f4 f5⟩
 self:=fun _ _ _ _ _ st h=>wpAny_pyIter_rangeiter st h
open PySem PySem.Spec PyProof.Rows
section
variable {X:Cx}{tg:Expr}
def Axy (K:PySem.W.Frag)(tl:TE):TI:=fun σ H R=>tl σ H fun x H1=>∃ a,x=.ref a∧(∃ xs,SqL K H1 a xs)∧R (Itl K a) H1
def A3h (K:PySem.W.Frag)(tl:TE):TI:=fun σ H R=>tl σ H fun x H1=>∃ a,x=.ref a∧(∃ xs,SqT K H1 a xs)∧R (Itt K a) H1
theorem Awp{l:Expr}{tl:TE}(hl:PE X l tl):PI X tg l (Axy X.K tl):=by
 intro pins s σ H R I h
 refine thn (hl pins s σ H _ I h) fun v s1 ⟨x,H1,I1,r1,q1⟩=>?_
 obtain⟨a,e,⟨xs,hq⟩,q⟩:=q1
 subst e
 cases r1
 obtain⟨its,rv,p,hz⟩:=I1.list hq
 refine wpAny_pyIter_list p.isList ?_
 refine⟨s1.heap.objs.size,[s1.heap.objs.size],_,_,H1,rfl,I1.kept (t':=s1.toks) fun b o e=>Heap.get?_push_of_some _ e,AsS a _,⟨_,Heap.get?_push_size _ rfl,rfl,rfl⟩,fun b hb=>?_,q⟩
 have e:b=s1.heap.objs.size:=by simpa using hb
 subst e
 exact I1.AsR (A3U _) (I1.hok.fresh (A3U _))
theorem Apb{pins:List (Addr × Obj)}{σ:St}{H:Hp}{s:Shared}{R:It→Hp→Prop}{E:Value→Shared→Prop}{lo hi:Int}{t u v:Tok}{tk:Nat}(I:Inv X pins σ H s)(h1 : -(2 ^ 62)≤lo)(h2:lo<2 ^ 62)(h3 : -(2 ^ 62)≤hi)(h4:hi<2 ^ 62)
  (q:R (Itr lo (hi-lo).toNat) H):wpAny (model X.prog X.w) X.A (pyIter (.ref s.heap.objs.size)) (PIE X pins σ tg R) E { s with heap:=s.heap.push { cls:=.type "range", data:=.fields #[.int lo t,.int hi u,.int 1 v] },toks:=tk }:=by
 refine wpAny_pyIter_range (IsRange.new ..) (small_one h1 h2 h3 h4) ?_
 have I1:Inv X pins σ H { s with heap:=s.heap.push { cls:=.type "range", data:=.fields #[.int lo t,.int hi u,.int 1 v] },toks:=tk }:=I.kept fun b o e=>Heap.get?_push_of_some _ e
 refine⟨(s.heap.push { cls:=.type "range", data:=.fields #[.int lo t,.int hi u,.int 1 v] }).objs.size,[(s.heap.push { cls:=.type "range", data:=.fields #[.int lo t,.int hi u,.int 1 v] }).objs.size],_,_,H,rfl,
  I1.kept (t':=tk) fun b o e=>Heap.get?_push_of_some _ e,AqF _ lo (hi-lo).toNat,?_,fun b hb=>?_,q⟩
 ·have e1:lo+((0:Nat):Int)*1=lo:=by simp
  have e2:(((hi-lo).toNat:Nat):Int)-((0:Nat):Int)=Builtin.Range.rangeSize lo hi 1:=by rw[rangeSize_one];split <;> omega
  show IsRangeIter _ _ (lo+((0:Nat):Int)*1) ((((hi-lo).toNat:Nat):Int)-((0:Nat):Int)) 1
  rw[e1,e2]
  exact Heap.get?_push_size _ rfl
 ·have e:b=(s.heap.push { cls:=.type "range", data:=.fields #[.int lo t,.int hi u,.int 1 v] }).objs.size:=by simpa using hb
  subst e
  exact I1.AsR (A3U _) (I1.hok.fresh (A3U _))
def AzB (ta:TA):TI:=fun σ H R=>ta σ H fun vs H1=>∃ j:Int,vs=[.int j] ∧ -(2 ^ 62)≤j∧j<2 ^ 62∧R (Itr 0 j.toNat) H1
def AzC (ta:TA):TI:=fun σ H R=>ta σ H fun vs H1=>∃ i j:Int,vs=[.int i,.int j]∧(-(2 ^ 62)≤i∧i<2 ^ 62 ∧ -(2 ^ 62)≤j∧j<2 ^ 62)∧R (Itr i (j-i).toNat) H1
theorem Kg{a:Expr}{ta:TA}{p pos:Pos}(hg:Gl X "range") (hm:X.mg "range" = none) (ha:PA X [a] ta) (hs:starEach [a] X.env=[(false,eval a X.env)]:=by rfl):PI X tg (.Call (.Name "range" p) [a] [] pos) (AzB ta):=by
 intro pins s σ H R I h
 refine Call_ (QR I hg hm boot_range (PyProof.Rows.callWith_type1 (thn (ha pos pins s σ H _ I h) fun us s1 ⟨vs,H1,I1,r1,q1⟩=>?_) hs rfl))
 obtain⟨j,e,q1,q2,q⟩:=q1
 subst e
 cases r1 with
 | cons r rr =>
  cases rr
  obtain⟨t,rfl⟩:=r
  exact call_range_1 (Apb I1 (by omega) (by omega) q1 q2 (by simpa using q))
theorem AmV{a b:Expr}{ta:TA}{p pos:Pos}(hg:Gl X "range") (hm:X.mg "range" = none) (ha:PA X [a,b] ta) (hs:starEach [a,b] X.env=[(false,eval a X.env),(false,eval b X.env)]:=by rfl) (hs2:starEach [b] X.env=[(false,eval b X.env)]:=by rfl) :
  PI X tg (.Call (.Name "range" p) [a,b] [] pos) (AzC ta):=by
 intro pins s σ H R I h
 refine Call_ (QR I hg hm boot_range (PyProof.Rows.callWith_type1 (thn (ha pos pins s σ H _ I h) fun us s1 ⟨vs,H1,I1,r1,q1⟩=>?_) (by rw[hs,hs2]) (by rw[hs2];rfl)))
 obtain⟨i,j,e,⟨q1,q2,q3,q4⟩,q⟩:=q1
 subst e
 cases r1 with
 | cons r rr =>
  cases rr with
  | cons r' rr =>
   cases rr
   obtain⟨t,rfl⟩:=r
   obtain⟨t',rfl⟩:=r'
   exact call_range_2 (Apb I1 q1 q2 q3 q4 q)
def A1L (wi:TI)(g:TG)(tb:TS):TS:=fun D σ H=>wi σ H fun J H1=>∃ W:Nat→Nat→St→Hp→Prop,(∃ m,W 0 m σ H1)∧∀ i m σ H,W i m σ H →
 (J.stop i H∧D.nx σ H)∨(J.go i H∧∃ N:St→Hp→Prop,(∀ σ' H',N σ' H'→∃ m',m'<m∧W (i+1) m' σ' H')∧∀ x H',J.yld i H x H'→g x σ H' fun σ2 H2=>tb { D with nx:=N,ct:=N,bk:=D.nx } σ2 H2)
def Ahw (fp:List Addr)(h:Heap):List (Addr × Obj):=fp.filterMap fun b=>(h.get? b).map fun o=>(b,o)
theorem Ol{fp:List Addr}{h:Heap}{b:Addr}{o:Obj}(hb:b∈fp)(e:h.get? b=some o):(b,o)∈Ahw fp h:=List.mem_filterMap.mpr ⟨b,hb,by rw[e];rfl⟩
theorem AsT{fp:List Addr}{h:Heap}{p:Addr × Obj}(hp:p∈Ahw fp h):p.1∈fp∧h.get? p.1=some p.2:=by
 obtain⟨b,hb,e⟩:=List.mem_filterMap.mp hp
 cases q:h.get? b with
 | none=>rw[q] at e;cases e
 | some o =>
  rw[q] at e
  have e':(b,o)=p:=Option.some.inj e
  subst e'
  exact⟨hb,q⟩
theorem Inv.pinned{pins:List (Addr × Obj)}{σ:St}{H:Hp}{s:Shared}{fp:List Addr}(I:Inv X pins σ H s)(hf:∀ b∈fp,XN X pins H b)(ho:∀ b∈fp,∃ o,s.heap.get? b=some o∧∀ v,o.data≠.cell v):Inv X (pins++Ahw fp s.heap) σ H s :=
 I.Uy fun p hp=>(List.mem_append.mp hp).elim (fun z=>I.pin p (A4t _ z)) fun z=>by
  obtain⟨hb,e⟩:=AsT z
  obtain⟨f0,f1,f2,_⟩:=hf p.1 hb
  obtain⟨o,e',d⟩:=ho p.1 hb
  rw[e] at e';cases e'
  exact⟨e,f0,f1,f2,d⟩
theorem Inv.AjS{pins pl:List (Addr × Obj)}{σ:St}{H:Hp}{s:Shared}(I:Inv X (pins++pl) σ H s):Inv X pins σ H s:=I.Uy fun p hp=>I.pin p (A4t _ (A4S _ hp))
theorem GD{iter:Expr}{body:List Stmt}{wi:TI}{g:TG}{tb:TS}{pos:Pos}(hp:PassesOwn (model X.prog X.w) X.A X.env X.xe)(hc:X.calm=true)(hi:PI X tg iter wi)(hg:PG X tg g)(hb:PSs X body tb)
  (hs:∀ x,foldedSetIterable iter X.env x=pure x:=by intro _;rfl):PS X (.For tg iter body [] pos) (A1L wi g tb):=by
 intro pins s σ H D I h
 refine wpAny_For (thn (hi pins s σ H _ I h) fun v s1 h1=>thn h1 fun itv s2 h2=>?_) hs
 obtain⟨it,fp,tn,J,H2,e,I2,T,st2,f2,W,⟨m0,w0⟩,turn⟩:=h2
 subst e
 have stat:∀{H':Hp},(∀ b∈fp,H' b=none)→∀ b∈fp,XN X pins H' b:=fun hn b hb=>⟨hn b hb,(f2 b hb).2⟩
 refine codeAny_forLoop_any (fun n s'=>∃ i σ' H',Inv X pins σ' H' s'∧tn i s'.heap∧(∀ b∈fp,H' b=none)∧W i n σ' H') ?_ m0 ⟨0,σ,H2,I2,st2,fun b hb=>(f2 b hb).1,w0⟩
 rintro n s3 ⟨i,σ3,H3,I3,st3,fr3,w3⟩
 rcases turn i n σ3 H3 w3 with ⟨stop,qn⟩ | ⟨go,N,hN,step⟩
 ·refine wpAny_passesOwn hp (thn (T.done X rfl rfl rfl hc i pins s3 σ3 H3 X.xe I3 (stat fr3) st3 stop) fun r s4 ⟨hr,I4⟩=>?_)
  subst hr
  exact wpAny_execs_nil ⟨σ3,H3,I4,qn⟩
 ·refine wpAny_passesOwn hp (thn (T.item X rfl rfl rfl hc i pins s3 σ3 H3 X.xe I3 (stat fr3) st3 go) fun r s4 ⟨u,hr,h4⟩=>?_)
  subst hr
  refine wpAny_passesOwn hp (thn h4 fun _ s5 ⟨x,H5,I5,r5,y5,st5,fr5⟩=>?_)
  have I5':=I5.pinned (stat fr5) (T.obj _ _ st5)
  refine wpAny_passesOwn hp (thn (hg _ s5 σ3 H5 x u _ I5' r5 (step x H5 y5)) fun _ s6 ⟨σ6,H6,I6,q6⟩=>?_)
  refine wpAny_passesOwn hp (thn (hb _ s6 σ6 H6 _ I6 q6) fun f s7 q7=>?_)
  have again:∀{σ7:St} {H7:Hp},Inv X (pins++Ahw fp s5.heap) σ7 H7 s7→N σ7 H7→∃ m,m<n∧∃ i σ' H',Inv X pins σ' H' s7∧tn i s7.heap∧(∀ b∈fp,H' b=none)∧W i m σ' H':=fun {σ7 H7} I7 n7=>by
   obtain⟨m',hm,w7⟩:=hN σ7 H7 n7
   refine⟨m',hm,i+1,σ7,H7,I7.AjS,T.keep _ _ _ st5 fun b hb o e=>(I7.pin (b,o) (A4t _ (A4t _ (Ol hb e)))).1,fun b hb=>?_,w7⟩
   obtain⟨o,e,d⟩:=T.obj _ _ st5 b hb
   exact(I7.pin (b,o) (A4t _ (A4t _ (Ol hb e)))).2.1
  cases f with
  | next=>obtain⟨σ7,H7,I7,n7⟩:=q7;exact again I7 n7
  | cont=>obtain⟨σ7,H7,I7,n7⟩:=q7;exact again I7 n7
  | brk=>obtain⟨σ7,H7,I7,q7⟩:=q7;exact⟨σ7,H7,I7.AjS,q7⟩
  | ret v=>obtain⟨x7,σ7,H7,I7,r7,q7⟩:=q7;exact⟨x7,σ7,H7,I7.AjS,r7,q7⟩
end
theorem GF{K:PySem.W.Frag}{a:Addr}{xs:List V}{g:TG}{tb:TS}{D:Ends}{σ:St}{H:Hp}(Pv:Nat→St→Hp→Prop)(h0:Pv 0 σ H)(hl:∀ i σ H,i≤xs.length→Pv i σ H→SqL K H a xs)
  (hs:∀ i x σ H,xs[i]?=some x→Pv i σ H→g x σ H fun σ2 H2=>tb { D with nx:=Pv (i+1),ct:=Pv (i+1),bk:=D.nx } σ2 H2) (hd:∀ σ H,Pv xs.length σ H→D.nx σ H) :
  ∃ W:Nat→Nat→St→Hp→Prop,(∃ m,W 0 m σ H)∧∀ i m σ H,W i m σ H →
   ((Itl K a).stop i H∧D.nx σ H)∨((Itl K a).go i H∧∃ N:St→Hp→Prop,(∀ σ' H',N σ' H'→∃ m',m'<m∧W (i+1) m' σ' H')∧∀ x H',(Itl K a).yld i H x H'→g x σ H' fun σ2 H2=>tb { D with nx:=N,ct:=N,bk:=D.nx } σ2 H2):=by
 refine⟨fun i m σ H=>m=xs.length-i∧i≤xs.length∧Pv i σ H,⟨xs.length,by simp,A4f _,h0⟩,?_⟩
 rintro i m σ H ⟨rfl,hi,p⟩
 have q:=hl i σ H hi p
 by_cases hlt:i<xs.length
 ·refine .inr ⟨⟨xs,xs[i],q,by simp[hlt]⟩,Pv (i+1),fun σ' H' p'=>⟨xs.length-(i+1),by omega,rfl,hlt,p'⟩,fun x H' y=>?_⟩
  obtain⟨e,y⟩:=y
  subst e
  exact hs i x σ _ (y xs q) p
 ·have e:i=xs.length:=by omega
  subst e
  exact .inl ⟨⟨xs,q,A3U _⟩,hd σ H p⟩
theorem Om{lo:Int}{n:Nat}{g:TG}{tb:TS}{D:Ends}{σ:St}{H:Hp}(Pv:Nat→St→Hp→Prop)(h0:Pv 0 σ H)
  (hs:∀ i σ H,i<n→Pv i σ H→g (.int (lo+i)) σ H fun σ2 H2=>tb { D with nx:=Pv (i+1),ct:=Pv (i+1),bk:=D.nx } σ2 H2) (hd:∀ σ H,Pv n σ H→D.nx σ H) :
  ∃ W:Nat→Nat→St→Hp→Prop,(∃ m,W 0 m σ H)∧∀ i m σ H,W i m σ H →
   ((Itr lo n).stop i H∧D.nx σ H)∨((Itr lo n).go i H∧∃ N:St→Hp→Prop,(∀ σ' H',N σ' H'→∃ m',m'<m∧W (i+1) m' σ' H')∧∀ x H',(Itr lo n).yld i H x H'→g x σ H' fun σ2 H2=>tb { D with nx:=N,ct:=N,bk:=D.nx } σ2 H2):=by
 refine⟨fun i m σ H=>m=n-i∧i≤n∧Pv i σ H,⟨n,by simp,A4f _,h0⟩,?_⟩
 rintro i m σ H ⟨rfl,hi,p⟩
 by_cases hlt:i<n
 ·refine .inr ⟨hlt,Pv (i+1),fun σ' H' p'=>⟨n-(i+1),by omega,rfl,hlt,p'⟩,fun x H' y=>?_⟩
  obtain⟨e,y⟩:=y
  subst e y
  exact hs i σ _ hlt p
 ·have e:i=n:=by omega
  subst e
  exact .inl ⟨A3U _,hd σ H p⟩
open PySem PySem.Spec PyProof.Rows
abbrev R2:=V→V→Hp→VK→Prop
def OpR (X:Cx)(f:Value→Value→Sem Value)(r:R2):Prop :=
 ∀(pins:List (Addr × Obj)) (s:Shared) (σ:St) (H:Hp) (x y:V) (v u:Value) (Q:VK),Inv X pins σ H s→RelV x v→RelV y u→r x y H Q →
  wpAny (model X.prog X.w) X.A (f v u) (EP X pins σ Q) X.xe s
def UnR (X:Cx)(f:Value→Sem Value)(r:V→Hp→VK→Prop):Prop :=
 ∀(pins:List (Addr × Obj)) (s:Shared) (σ:St) (H:Hp) (x:V) (v:Value) (Q:VK),Inv X pins σ H s→RelV x v→r x H Q →
  wpAny (model X.prog X.w) X.A (f v) (EP X pins σ Q) X.xe s
def Oj (X:Cx)(f:Value)(r:List V→Hp→VK→Prop):Prop :=
 ∀(pins:List (Addr × Obj)) (s:Shared) (σ:St) (H:Hp) (xs:List V) (us:List Value) (Q:VK),Inv X pins σ H s→Vals xs us→r xs H Q →
  wpAny (model X.prog X.w) X.A (call f us) (EP X pins σ Q) X.xe s
def A1M (X:Cx)(r:V→Hp→(Bool→Hp→Prop)→Prop):Prop :=
 ∀(pins:List (Addr × Obj)) (s:Shared) (σ:St) (H:Hp) (x:V) (v:Value) (Q:Bool→Hp→Prop),Inv X pins σ H s→RelV x v→r x H Q →
  wpAny (model X.prog X.w) X.A (truthy v) (TP X pins σ Q) X.xe s
def tOp (r:R2)(ta tb:TE):TE:=fun σ H Q=>ta σ H fun x H1=>tb σ H1 fun y H2=>r x y H2 Q
def tUn (r:V→Hp→VK→Prop)(ta:TE):TE:=fun σ H Q=>ta σ H fun x H1=>r x H1 Q
def rI (C:Int→Int→Prop)(g:Int→Int→V):R2:=fun x y H Q=>∃ i j,x=.int i∧y=.int j∧C i j∧Q (g i j) H
def rI0 (g:Int→Int→V):R2:=fun x y H Q=>∃ i j,x=.int i∧y=.int j∧Q (g i j) H
def rU (g:Int→V):V→Hp→VK→Prop:=fun x H Q=>∃ i,x=.int i∧Q (g i) H
section
variable {X:Cx}{a b c:Expr}{ta tb tc:TE}{pos:Pos}
theorem AxX(ha:PE X a ta)(hb:PE X b tb){pins:List (Addr × Obj)}{s:Shared}{σ:St}{H:Hp}{R:V→V→Hp→Prop}(I:Inv X pins σ H s)
  (h:ta σ H fun x H1=>tb σ H1 fun y H2=>R x y H2) {Q:Value→Shared→Prop} {f:Value→Value→Sem Value}
  (hf:∀ v u s2 x y H2,Inv X pins σ H2 s2→RelV x v→RelV y u→R x y H2→wpAny (model X.prog X.w) X.A (f v u) Q X.xe s2) :
  wpAny (model X.prog X.w) X.A (eval a X.env) (fun v s₁=>wpAny (model X.prog X.w) X.A (eval b X.env) (fun u s₂=>wpAny (model X.prog X.w) X.A (f v u) Q X.xe s₂) X.xe s₁) X.xe s:=by
 refine thn (ha pins s σ H _ I h) fun v s1 ⟨x,H1,I1,r1,q1⟩=>?_
 refine thn (hb pins s1 σ H1 _ I1 q1) fun u s2 ⟨y,H2,I2,r2,q2⟩=>?_
 exact hf v u s2 x y H2 I2 r1 r2 q2
theorem Be{op:Operator}{r:R2}(ho:OpR X (binaryOp op) r)(ha:PE X a ta)(hb:PE X b tb):PE X (.BinOp a op b pos) (tOp r ta tb):=by
 intro pins s σ H Q I h
 exact wpAny_BinOp (AxX ha hb I h fun v u s2 x y H2 I2 rx ry q=>ho pins s2 σ H2 x y v u Q I2 rx ry q)
theorem Apc{op:UnaryOp}{r:V→Hp→VK→Prop}(ho:UnR X (unaryOp op) r)(ha:PE X a ta):PE X (.UnaryOp op a pos) (tUn r ta):=by
 intro pins s σ H Q I h
 exact UnaryOp_ (thn (ha pins s σ H _ I h) fun v s1 ⟨x,H1,I1,r1,q1⟩=>ho pins s1 σ H1 x v Q I1 r1 q1)
theorem opI{f:Value→Value→Sem Value}{C:Int→Int→Prop}{g:Int→Int→Int}
  (rule:∀(i j:Int) (t u:Tok) (s:Shared) (Q:Value→Shared→Prop) (E:Value→Shared→Prop),C i j→Q (.int (g i j) s.toks) { s with toks:=s.toks+1 }→wpAny (model X.prog X.w) X.A (f (.int i t) (.int j u)) Q E s) :
  OpR X f (rI C fun i j=>.int (g i j)):=by
 intro pins s σ H x y v u Q I rx ry h
 obtain⟨i,j,rfl,rfl,hc,q⟩:=h
 obtain⟨t,rfl⟩:=rx
 obtain⟨t',rfl⟩:=ry
 exact rule i j t t' s _ _ hc ⟨.int (g i j),H,I.tok _,⟨_,rfl⟩,q⟩
theorem AzD{f:Value→Value→Sem Value}{g:Int→Int→Int}
  (rule:∀(i j:Int) (t u:Tok) (s:Shared) (Q:Value→Shared→Prop) (E:Value→Shared→Prop),Q (.int (g i j) s.toks) { s with toks:=s.toks+1 }→wpAny (model X.prog X.w) X.A (f (.int i t) (.int j u)) Q E s) :
  OpR X f (rI0 fun i j=>.int (g i j)):=by
 intro pins s σ H x y v u Q I rx ry h
 obtain⟨i,j,rfl,rfl,q⟩:=h
 obtain⟨t,rfl⟩:=rx
 obtain⟨t',rfl⟩:=ry
 exact rule i j t t' s _ _ ⟨.int (g i j),H,I.tok _,⟨_,rfl⟩,q⟩
theorem Awq{f:Value→Value→Sem Value}{g:Int→Int→Bool}
  (rule:∀(i j:Int) (t u:Tok) (s:Shared) (Q:Value→Shared→Prop) (E:Value→Shared→Prop),Q (.bool (g i j)) s→wpAny (model X.prog X.w) X.A (f (.int i t) (.int j u)) Q E s) :
  OpR X f (rI0 fun i j=>.bl (g i j)):=by
 intro pins s σ H x y v u Q I rx ry h
 obtain⟨i,j,rfl,rfl,q⟩:=h
 obtain⟨t,rfl⟩:=rx
 obtain⟨t',rfl⟩:=ry
 exact rule i j t t' s _ _ ⟨.bl (g i j),H,I,rfl,q⟩
def A1N (i j:Int):Prop:=0<j∧j<1073741824
def A2N (i j:Int):Prop:=j≠0∧j.natAbs<1073741824
def A1O (i j:Int):Prop:=0≤j∧j≤1000000∧i.natAbs<2 ^ 64
def AxY (i j:Int):Prop:=(-(2 ^ 64)<i∧i<2 ^ 64)∨(-(2 ^ 64)<j∧j<2 ^ 64)
theorem AxY.ok{i j:Int}(h:AxY i j):IntMulOk i j:=by
 rcases h with ⟨h1,h2⟩ | ⟨h1,h2⟩
 ·exact .of_left (intBits_le_64 h1 h2)
 ·exact .of_right (intBits_le_64 h1 h2)
theorem Gi:OpR X (binaryOp .Add) (rI0 fun i j=>.int (i+j)):=AzD fun _ _ _ _ _ _ _ q=>add_int q
theorem AaN:OpR X (binaryOp .Sub) (rI0 fun i j=>.int (i-j)):=AzD fun _ _ _ _ _ _ _ q=>sub_int q
theorem YS:OpR X (binaryOp .Mult) (rI AxY fun i j=>.int (i*j)):=opI fun _ _ _ _ _ _ _ hc q=>mul_int q hc.ok
theorem R3:OpR X (binaryOp .FloorDiv) (rI A1N fun i j=>.int (i / j)):=opI fun i j _ _ _ _ _ hc q=>by
 have h1:(0:Int)<j:=hc.1
 have h2:j<1073741824:=hc.2
 exact floordiv_int (by omega) (by rw[Int.fdiv_eq_ediv_of_nonneg i (by omega)];exact q) (.inl (PyProof.noPylong_small (by omega)))
theorem IV:OpR X (binaryOp .Mod) (rI (fun _ j=>0<j) fun i j=>.int (i%j)):=opI fun i j _ _ _ _ _ hc q=>by
 have h1:(0:Int)<j:=hc
 exact mod_int' (by omega) (by rw[Int.fmod_eq_emod_of_nonneg i (by omega)];exact q)
theorem AqG:OpR X (binaryOp .Pow) (rI A1O fun i j=>.int (i ^ j.toNat)):=opI fun _ _ _ _ _ _ _ hc q=>pow_int_small hc.1 hc.2.1 hc.2.2 q
theorem unI{f:Value→Sem Value}{g:Int→Int}
  (rule:∀(i:Int) (t:Tok) (s:Shared) (Q:Value→Shared→Prop) (E:Value→Shared→Prop),Q (.int (g i) s.toks) { s with toks:=s.toks+1 }→wpAny (model X.prog X.w) X.A (f (.int i t)) Q E s) :
  UnR X f (rU fun i=>.int (g i)):=by
 intro pins s σ H x v Q I rx h
 obtain⟨i,rfl,q⟩:=h
 obtain⟨t,rfl⟩:=rx
 exact rule i t s _ _ ⟨.int (g i),H,I.tok _,⟨_,rfl⟩,q⟩
theorem AjT:UnR X (unaryOp .USub) (rU fun i=>.int (-i)):=unI fun _ _ _ _ _ q=>neg_int q
end
def AzE:V→V→Bool
 | .non,.non=>true | .non,.int _=>true | .int _,.non=>true | .non,.bl _=>true | .bl _,.non=>true | .non,.str _=>true | .str _,.non=>true
 | .int _,.int _=>true | .bl _,.bl _=>true | .str _,.str _=>true | .byt _,.byt _=>true
 | .int _,.str _=>true | .str _,.int _=>true | .bl _,.str _=>true | .str _,.bl _=>true
 | _,_=>false
def rEq:R2:=fun x y H Q=>AzE x y=true∧Q (.bl (decide (x=y))) H
def rNe:R2:=fun x y H Q=>AzE x y=true∧Q (.bl (!decide (x=y))) H
theorem ArT{i j:Int}:decide (V.int i=V.int j)=(i == j):=by
 rw[A5x]
 simp
theorem Auo{i j:Bool}:decide (V.bl i=V.bl j)=(i == j):=by
 rw[A5x]
 simp
theorem ArU{i j:Str}:decide (V.str i=V.str j)=(i == j):=by
 rw[A5x]
 simp
theorem ArV{i j:Array UInt8}:decide (V.byt i=V.byt j)=(i.toList == j.toList):=by
 rw[A5x]
 cases i
 cases j
 simp
section
variable {X:Cx}{a b c:Expr}{ta tb tc:TE}{pos:Pos}
theorem Dk{pins:List (Addr × Obj)}{σ:St}{H:Hp}{s:Shared}{Q:VK}{k k':Bool}(I:Inv X pins σ H s)(q:Q (.bl k) H)(e:k=k'):EP X pins σ Q (.bool k') s:=by
 subst e
 exact⟨.bl k,H,I,rfl,q⟩
theorem R0:OpR X (compareOp .Eq) rEq:=by
 intro pins s σ H x y v u Q I rx ry h
 obtain⟨hs,q⟩:=h
 cases x with
 | non =>
  cases rx
  cases y with
  | non=>cases ry;exact PySem.EqNone.eq_none_none (Dk I q (by simp))
  | bl j=>cases ry;exact PySem.EqNone.eq_none_bool (Dk I q (by simp))
  | int j=>obtain⟨t',rfl⟩:=ry;exact PySem.EqNone.eq_none_int (Dk I q (by simp))
  | str j=>obtain⟨t',rfl⟩:=ry;exact PySem.EqNone.eq_none_str (Dk I q (by simp))
  | _=>exact absurd (show false=true from hs) A4g
 | bl i =>
  cases rx
  cases y with
  | non=>cases ry;exact PySem.EqNone.eq_bool_none (Dk I q (by simp))
  | bl j=>cases ry;exact eq_bool (Dk I q Auo)
  | str j=>obtain⟨t',rfl⟩:=ry;exact PySem.EqMixed.eq_bool_str (Dk I q (by simp))
  | _=>exact absurd (show false=true from hs) A4g
 | int i =>
  obtain⟨t,rfl⟩:=rx
  cases y with
  | non=>cases ry;exact PySem.EqNone.eq_int_none (Dk I q (by simp))
  | int j=>obtain⟨t',rfl⟩:=ry;exact eq_int (Dk I q ArT)
  | str j=>obtain⟨t',rfl⟩:=ry;exact PySem.EqMixed.eq_int_str (Dk I q (by simp))
  | _=>exact absurd (show false=true from hs) A4g
 | str i =>
  obtain⟨t,rfl⟩:=rx
  cases y with
  | non=>cases ry;exact PySem.EqNone.eq_str_none (Dk I q (by simp))
  | bl j=>cases ry;exact PySem.EqMixed.eq_str_bool (Dk I q (by simp))
  | int j=>obtain⟨t',rfl⟩:=ry;exact PySem.EqMixed.eq_str_int (Dk I q (by simp))
  | str j=>obtain⟨t',rfl⟩:=ry;exact eq_str (Dk I q ArU)
  | _=>exact absurd (show false=true from hs) A4g
 | byt i =>
  obtain⟨t,rfl⟩:=rx
  cases y with
  | byt j=>obtain⟨t',rfl⟩:=ry;exact PySem.W.eq_bytes (Dk I q ArV)
  | _=>exact absurd (show false=true from hs) A4g
 | _=>cases y <;> exact absurd (show false=true from hs) A4g
theorem Apd:OpR X (compareOp .NotEq) rNe:=by
 intro pins s σ H x y v u Q I rx ry h
 obtain⟨hs,q⟩:=h
 cases x with
 | non =>
  cases rx
  cases y with
  | non=>cases ry;exact PySem.EqNone.ne_none_none (Dk I q (by simp))
  | bl j=>cases ry;exact PySem.EqNone.ne_none_bool (Dk I q (by simp))
  | int j=>obtain⟨t',rfl⟩:=ry;exact PySem.EqNone.ne_none_int (Dk I q (by simp))
  | str j=>obtain⟨t',rfl⟩:=ry;exact PySem.EqNone.ne_none_str (Dk I q (by simp))
  | _=>exact absurd (show false=true from hs) A4g
 | bl i =>
  cases rx
  cases y with
  | non=>cases ry;exact PySem.EqNone.ne_bool_none (Dk I q (by simp))
  | bl j=>cases ry;exact ne_bool (Dk I q (congrArg not Auo))
  | str j=>obtain⟨t',rfl⟩:=ry;exact PySem.EqMixed.ne_bool_str (Dk I q (by simp))
  | _=>exact absurd (show false=true from hs) A4g
 | int i =>
  obtain⟨t,rfl⟩:=rx
  cases y with
  | non=>cases ry;exact PySem.EqNone.ne_int_none (Dk I q (by simp))
  | int j=>obtain⟨t',rfl⟩:=ry;exact ne_int (Dk I q (congrArg not ArT))
  | str j=>obtain⟨t',rfl⟩:=ry;exact PySem.EqMixed.ne_int_str (Dk I q (by simp))
  | _=>exact absurd (show false=true from hs) A4g
 | str i =>
  obtain⟨t,rfl⟩:=rx
  cases y with
  | non=>cases ry;exact PySem.EqNone.ne_str_none (Dk I q (by simp))
  | bl j=>cases ry;exact PySem.EqMixed.ne_str_bool (Dk I q (by simp))
  | int j=>obtain⟨t',rfl⟩:=ry;exact PySem.EqMixed.ne_str_int (Dk I q (by simp))
  | str j=>obtain⟨t',rfl⟩:=ry;exact ne_str (Dk I q (congrArg not ArU))
  | _=>exact absurd (show false=true from hs) A4g
 | byt i =>
  obtain⟨t,rfl⟩:=rx
  cases y with
  | byt j=>obtain⟨t',rfl⟩:=ry;exact PySem.W.ne_bytes (Dk I q (congrArg not ArV))
  | _=>exact absurd (show false=true from hs) A4g
 | _=>cases y <;> exact absurd (show false=true from hs) A4g
theorem Afe:OpR X (compareOp .Lt) (rI0 fun i j=>.bl (decide (i<j))):=Awq fun _ _ _ _ _ _ _ q=>lt_int q
theorem AzF:OpR X (compareOp .LtE) (rI0 fun i j=>.bl (decide (i≤j))):=Awq fun _ _ _ _ _ _ _ q=>le_int q
theorem AaO:OpR X (compareOp .Gt) (rI0 fun i j=>.bl (decide (j<i))):=Awq fun _ _ _ _ _ _ _ q=>gt_int q
theorem Axz:OpR X (compareOp .GtE) (rI0 fun i j=>.bl (decide (j≤i))):=Awq fun _ _ _ _ _ _ _ q=>ge_int q
theorem AsU:OpR X (compareOp .In) (fun x y H Q=>∃ i j,x=.str i∧y=.str j∧Q (.bl (!(Builtin.Str.occurrences j i 0 j.length 1).isEmpty)) H):=by
 intro pins s σ H x y v u Q I rx ry h
 obtain⟨i,j,rfl,rfl,q⟩:=h
 obtain⟨t,rfl⟩:=rx
 obtain⟨t',rfl⟩:=ry
 exact in_str (Dk I q rfl)
theorem AxZ:OpR X (compareOp .Is) (fun x y H Q=>y=.non∧Q (.bl (decide (x=.non))) H):=by
 intro pins s σ H x y v u Q I rx ry h
 obtain⟨rfl,q⟩:=h
 cases ry
 refine is_none_gen (Dk I q ?_)
 cases x <;> first
  | (cases rx;rfl)
  | (obtain⟨t,rfl⟩:=rx;rfl)
theorem An8:OpR X (compareOp .NotIn) (fun x y H Q=>∃ i j,x=.str i∧y=.str j∧Q (.bl (!(!(Builtin.Str.occurrences j i 0 j.length 1).isEmpty))) H):=by
 intro pins s σ H x y v u Q I rx ry h
 obtain⟨i,j,rfl,rfl,q⟩:=h
 obtain⟨t,rfl⟩:=rx
 obtain⟨t',rfl⟩:=ry
 exact notIn_str (Dk I q rfl)
def isObj:HO→Bool
 | .lst _=>true
 | .ins _ _ _=>true
 | _=>false
theorem Br(b:Expr){op:CmpOp}(h:op≠.In:=by decide)(h2:op≠.NotIn:=by decide):behindInMarks op b=false:=by
 have e1:(op == CmpOp.In)=false:=by cases op <;> first | rfl | exact absurd rfl h
 have e2:(op == CmpOp.NotIn)=false:=by cases op <;> first | rfl | exact absurd rfl h2
 cases b <;> simp[behindInMarks,e1,e2]
theorem ArW{op:CmpOp}{r:R2}(ho:OpR X (compareOp op) r)(ha:PE X a ta)(hb:PE X b tb)(hm:behindInMarks op b=false):PE X (.Compare a [op] [b] pos) (tOp r ta tb):=by
 intro pins s σ H Q I h
 exact wpAny_Compare1 (AxX ha hb I h fun v u s2 x y H2 I2 rx ry q=>ho pins s2 σ H2 x y v u Q I2 rx ry q) hm
def AzG (t:TE):TT:=fun σ H Q=>t σ H fun x H'=>∃ k,x=.bl k∧Q k H'
theorem Bc{op:CmpOp}{r:R2}(ho:OpR X (compareOp op) r)(ha:PE X a ta)(hb:PE X b tb)(hm:behindInMarks op b=false):PT X (.Compare a [op] [b] pos) (AzG (tOp r ta tb)):=by
 intro pins s σ H Q I h
 refine wpAny_isTrue_Compare1 (thn (ha pins s σ H _ I h) fun v s1 ⟨x,H1,I1,r1,q1⟩=>thn (hb pins s1 σ H1 _ I1 q1) fun u s2 ⟨y,H2,I2,r2,q2⟩ =>
  thn (ho pins s2 σ H2 x y v u _ I2 r1 r2 q2) fun c s3 ⟨z,H3,I3,r3,k,e,q3⟩=>?_) hm
 subst e
 cases r3
 exact wpAny_truthy_bool ⟨H3,I3,q3⟩
def A1P (r r':R2)(ta tb tc:TE):TE:=fun σ H Q=>ta σ H fun x H1=>tb σ H1 fun y H2=>r x y H2 fun z H3=>∃ k,z=.bl k ∧
 (if k=true then tc σ H3 fun w' H4=>r' y w' H4 Q else Q (.bl false) H3)
def Aya (K:PySem.W.Frag)(x:V)(H:Hp)(k:Bool):Prop :=
 match x with
 | .non=>k=false
 | .bl b=>k=b
 | .int i=>k=(i != 0)
 | .str y=>y.length≤sizeLine∧k=((y.length:Int) != 0)
 | .byt y=>y.size≤sizeLine∧k=((y.size:Int) != 0)
 | .ref p=>(∃ xs,SqL K H p xs∧k=!xs.isEmpty)∨(∃ xs,SqT K H p xs∧k=!xs.isEmpty)∨∃ kvs,H p=some (.dK kvs)∧k=!kvs.isEmpty
 | _=>False
theorem AqH{κ:Type}{kvs:List (κ × V)}{vs:List (κ × Value)}(r:KV kvs vs):(!vs.isEmpty)=!kvs.isEmpty:=by
 cases r <;> rfl
theorem AjU{xs:List V}{its:List Value}(r:Vals xs its):(!its.toArray.isEmpty)=!xs.isEmpty:=by
 cases r <;> simp
theorem Aeh:(sizeLine:Nat)<2 ^ 63:=by rw[sizeLine_eq];decide
theorem Ayb:A1M X (fun x H Q=>∃ k,Aya X.K x H k∧Q k H):=by
 intro pins s σ H x v Q I rx h
 obtain⟨k,e,q⟩:=h
 have hl:=Aeh
 have hs:sizeLine=16777216:=sizeLine_eq
 cases x with
 | non =>
  cases rx
  have e':k=false:=e
  subst e'
  exact truthy_none ⟨H,I,q⟩
 | bl b =>
  cases rx
  have e':k=b:=e
  subst e'
  exact wpAny_truthy_bool ⟨H,I,q⟩
 | int i =>
  obtain⟨t,rfl⟩:=rx
  have e':k=(i != 0):=e
  subst e'
  exact PySem.P.truthy_int ⟨H,I,q⟩
 | str y =>
  obtain⟨t,rfl⟩:=rx
  obtain⟨hy,e'⟩:y.length≤sizeLine∧k=((y.length:Int) != 0):=e
  subst e'
  exact PySem.P.truthy_str (by omega) ⟨H,I.tok _,q⟩
 | byt y =>
  obtain⟨t,rfl⟩:=rx
  obtain⟨hy,e'⟩:y.size≤sizeLine∧k=((y.size:Int) != 0):=e
  subst e'
  exact PySem.W.truthy_bytes (by omega) ⟨H,I.tok _,q⟩
 | ref p =>
  cases rx
  have e':(∃ xs,SqL X.K H p xs∧k=!xs.isEmpty)∨(∃ xs,SqT X.K H p xs∧k=!xs.isEmpty)∨∃ kvs,H p=some (.dK kvs)∧k=!kvs.isEmpty:=e
  rcases e' with ⟨xs,hx,e'⟩ | ⟨xs,hx,e'⟩ | ⟨kvs,hx,e'⟩
  ·subst e'
   obtain⟨its,r,pl,hz⟩:=I.list hx
   have hlen:=r.length
   exact wpAny_truthy_list pl.isList (by simp only [A4a];omega) ⟨H,I.tok _,by rw[AjU r];exact q⟩
  ·subst e'
   obtain⟨its,r,pl,hz⟩:=I.tuple hx
   have hlen:=r.length
   exact truthy_tuple pl (by simp only [A4a];omega) ⟨H,I.tok _,by rw[AjU r];exact q⟩
  ·subst e'
   obtain⟨hz,hS,vs,r,m⟩:kvs.length≤sizeLine∧(p == sysModules)=false∧∃ vs,KV kvs vs∧s.heap.DictOf (An3 X.prog X.w) p vs:=I.hok p _ hx
   have hlen:kvs.length=vs.length:=Paired.length r
   exact wpAny_truthy_dict hS m (by omega) ⟨H,I.tok _,by rw[AqH r];exact q⟩
 | _=>exact(show False from e).elim
theorem Aup(ha:PE X a ta)(he:∀ whole,isTrue a X.env whole=(do let v ← whole;standAt a.pos;holding [v] (truthy v))) :
  PT X a (fun σ H Q=>ta σ H fun x H'=>∃ k,Aya X.K x H' k∧Q k H'):=by
 intro pins s σ H Q I h
 exact isTrue_plain (thn (ha pins s σ H _ I h) fun v s1 ⟨x,H1,I1,r1,q1⟩=>Ayb pins s1 σ H1 x v Q I1 r1 q1) (he _)
theorem Oo:OpR X (binaryOp .Add) (fun x y H Q=>∃ i j,x=.str i∧y=.str j∧i.length+j.length≤sizeLine∧Q (.str (i++j)) H):=by
 intro pins s σ H x y v u Q I rx ry h
 obtain⟨i,j,rfl,rfl,hz,q⟩:=h
 obtain⟨t,rfl⟩:=rx
 obtain⟨t',rfl⟩:=ry
 exact add_str (fun t' tk=>⟨.str (i++j),H,I.tok _,⟨_,rfl⟩,q⟩) hz
def AzH (b:Expr):Prop:=∀ o i,subscripted b false o i=operate [o,i] (getItem o i)
theorem vals1{x:V}{us:List Value}(r:Vals [x] us):∃ u,us=[u]∧RelV x u:=by
 cases r with
 | cons r1 r2=>cases r2;exact⟨_,rfl,r1⟩
theorem Ape:Oj X (.builtin "abs") (fun xs H Q=>∃ i,xs=[.int i]∧Q (.int (if i<0 then -i else i)) H):=by
 intro pins s σ H xs us Q I r h
 obtain⟨i,rfl,q⟩:=h
 obtain⟨u,rfl,t,rfl⟩:=vals1 r
 exact call_abs_int fun u tk=>⟨.int (if i<0 then -i else i),H,I.tok _,⟨_,rfl⟩,q⟩
theorem Afg:Oj X (.type "str") (fun xs H Q=>∃ i,xs=[.int i]∧i.natAbs.log2<1920∧Q (.str (toString i)) H):=by
 intro pins s σ H xs us Q I r h
 obtain⟨i,rfl,hz,q⟩:=h
 obtain⟨u,rfl,t,rfl⟩:=vals1 r
 exact PySem.P.str_of_int hz ⟨.str _,H,I.tok _,⟨_,rfl⟩,q⟩
def A3i (K:PySem.W.Frag)(x:V)(H:Hp)(n:Nat):Prop :=
 match x with
 | .str y=>y.length≤sizeLine∧n=y.length
 | .byt y=>y.size≤sizeLine∧n=y.size
 | .ref p=>(∃ xs,SqL K H p xs∧n=xs.length)∨∃ xs,SqT K H p xs∧n=xs.length
 | _=>False
end
open PySem PySem.Spec PyProof.Rows
structure AqI (h:Heap) (x dx C:Addr) (mA:Str→Option Value):Prop where
 obj:h.get? x=some (PySem.W.instObj C dx)
 ns:h.Ns1 dx mA
 ne:dx≠x
theorem AsV{h:Heap}{dx:Addr}{mA:Str→Option Value}(n:h.Ns1 dx mA):∃ od,h.get? dx=some od∧∀ name,PySem.W.lookIn name od=some (mA name):=by
 obtain⟨o,es,ep,ho,hd,hk,_,hm⟩:=n
 refine⟨o,ho,fun name=>?_⟩
 have e:=hm name
 unfold nsFind findBy at e
 rw[← Array.find?_toList] at e
 unfold PySem.W.lookIn
 rw[hd]
 dsimp only
 split
 ·rename_i y q
  rw[q] at e
  exact congrArg some e
 ·rename_i q
  rw[q] at e
  have a:es.toList.any (·.refKey)=false:=by
   rw[List.any_eq_false]
   intro y hy
   obtain⟨z,t,hkey⟩:=hk y (Array.mem_toList_iff.mp hy)
   simp[DictEntry.refKey,hkey]
  have a':¬es.toList.any (·.refKey)=true:=by rw[a];exact A4g
  rw[if_neg a']
  exact congrArg some e
theorem AqI.look{h:Heap}{x dx C:Addr}{mA:Str→Option Value}(I:AqI h x dx C mA):∃ od,PySem.W.InstAt h x (PySem.W.instObj C dx) C (some od)∧∀ name,PySem.W.lookIn name od=some (mA name) :=
 let ⟨od,ho,hl⟩:=AsV I.ns
 ⟨od,⟨I.obj,rfl,rfl,ho⟩,hl⟩
section
variable {prog:Program}{w:World}{A:Around}{E:Value→Shared→Prop}{s:Shared}{K:PySem.W.Frag}{x dx C f:Addr}{mA:Str→Option Value}{name:Str}{v:Value}
theorem get_map{expr:Bool}{Q:Value→Shared→Prop}(X:K.In s.heap)(I:AqI s.heap x dx C mA)(hg:PySem.W.plainGet K C name=true)(hh:PySem.W.hasDictIn K C=true)
  (ha:PySem.W.findIn K (.ref C) name=some none) (hv:mA name=some v) (hv':PySem.W.handedIn v=true) (h:Q v { s with toks:=s.toks+1 }) :
  wpAny (model prog w) A (getAttr (.ref x) name expr) Q E s:=by
 obtain⟨od,J,hl⟩:=I.look
 exact PySem.W.get_value X J (PySem.W.plainGet_of hg).1 (PySem.W.findObj_own hh ha rfl (by rw[hl,hv])) hv' h
theorem Auq{pl:Sem Bool}{Q:Value × List Value→Shared→Prop}(X:K.In s.heap)(I:AqI s.heap x dx C mA)(hg:PySem.W.plainGet K C name=true)
  (hf:PySem.W.findIn K (.ref C) name=some (some (.ref f))) (ht:PySem.W.isFn K (.ref f)=true) (hv:mA name=none) (h:Q (.ref f,[.ref x]) s) :
  wpAny (model prog w) A (getMethod (.ref x) name pl) Q E s:=by
 obtain⟨od,J,hl⟩:=I.look
 exact PySem.W.method_fn X J (PySem.W.plainGet_of hg).1 (PySem.W.plainGet_of hg).2 hf (beq_iff_eq.mp ht) (by show(PySem.W.lookIn name od).map (·.isSome)=some false;rw[hl,hv];rfl) h
theorem Awr{ns:List Str}{Q:Unit→Shared→Prop}(X:K.In s.heap)(I:AqI s.heap x dx C mA)
  (hs:PySem.W.findIn K (.ref C) "__setattr__" = some (some (.builtin "object.__setattr__"))) (hp:PySem.W.plainOver K C=true) (ht:PySem.W.takerIn K C name=some none) (hh:PySem.W.hasDictIn K C=true)
  (hw:PySem.Within mA ns) (hsz:ns.length≤sizeLine)
  (h:∀ h',AqI h' x dx C (fun y=>if y=name then some v else mA y)→Heap.SameBut dx s.heap h'→Q () { s with heap:=h',toks:=s.toks+2 }) :
  wpAny (model prog w) A (setAttr (.ref x) name v) Q E s:=by
 obtain⟨od,J,hl⟩:=I.look
 refine PySem.W.set_plain X J hs (PySem.W.osa_open (s:={ s with toks:=s.toks+1 }) (r:=none) X J hp ht fun b=>?_)
 obtain⟨cd,hc,hd'⟩:=PySem.W.any_some hh
 have hx:s.heap.get? x=some ⟨.ref C,some dx,.plain,#[]⟩:=I.obj
 refine wpAny_bind (wpAny_pure (wpAny_bind (wpAny_bind (wpAny_loadPart hx (wpAny_bind (PySem.W.Looks.here (s:={ s with toks:=s.toks+1 }) (PySem.W.looks_clsIn X hc) ?_))))))
 rw[hd']
 refine wpAny_pure (a:=some dx) (wpAny_bind (wpAny_pure (wpAny_bind ?_)))
 refine wpAny_nsSet1 (s:={ s with toks:=s.toks+1 }) I.ns fun h' hn2 hs2=>?_
 obtain⟨oD,esD,epD,hoD,hdD,hcD⟩:=hn2.count (PySem.Within.cons name v hw)
 refine wpAny_bind (wpAny_lookBehind hoD (by rw[hdD];exact pastItsLine_dict (A4q hcD (by rw[A3Z];omega))) ?_)
 exact wpAny_pure (h _ ⟨(hs2.2 _ (Ne.symm I.ne)).trans I.obj,hn2,I.ne⟩ hs2)
theorem Aur{R:Result→Shared→Prop}{vs:List Value}{kw:List (Str × Value)}(X:K.In s.heap)(hm:PySem.W.makesIn K C=true)
  (hi:PySem.W.findIn K (.ref C) "__init__" = some (some (.ref f))) (hf:PySem.W.typeIn K (.ref f)=some (.type "function"))
  (h:codeAny (model prog w) (A.under (.builtin "type.__call__" ⟨.ref C::vs,kw⟩)) (.call (.ref f) ⟨.ref (s.heap.objs.size+1)::vs,kw⟩) (PySem.W.InitBack (s.heap.objs.size+1) R)
   { s with heap:=(s.heap.push PySem.W.emptyDict).push (PySem.W.instObj C s.heap.objs.size) }) :
  codeAny (model prog w) A (.call (.ref C) ⟨vs,kw⟩) R s:=by
 obtain⟨hh,g,d,t,os⟩:=s
 exact PySem.W.make_core (PySem.W.makes_of X hm) (PySem.W.looks_findIn X hi) (fun self=>PySem.W.bind_fn X self hf) (.inl rfl) h
end
def WD (f:Str)(v:V):List (Str × V)→List (Str × V)
 | []=>[(f,v)]
 | (g,x)::r=>if g=f then (g,v)::r else (g,x)::WD f v r
theorem AiE(f g:Str)(v:V):∀ fs:List (Str × V),(WD f v fs).lookup g=if g=f then some v else fs.lookup g
 | []=>by
  show List.lookup g [(f,v)]=_
  by_cases h:g=f
  ·have hb:(g == f)=true:=beq_iff_eq.mpr h
   simp only [List.lookup,hb,if_pos h]
  ·have hb:(g == f)=false:=beq_eq_false_iff_ne.mpr h
   simp only [List.lookup,hb,if_neg h]
 | (k,x)::r=>by
  have ih:=AiE f g v r
  rw[show WD f v ((k,x)::r)=(if k=f then (k,v)::r else (k,x)::WD f v r) from rfl]
  by_cases hk:k=f
  ·rw[if_pos hk]
   by_cases h:g=k
   ·have hb:(g == k)=true:=beq_iff_eq.mpr h
    simp only [List.lookup,hb,if_pos (h.trans hk)]
   ·have hb:(g == k)=false:=beq_eq_false_iff_ne.mpr h
    simp only [List.lookup,hb,if_neg (fun e:g=f=>h (e.trans hk.symm))]
  ·rw[if_neg hk]
   by_cases h:g=k
   ·have hb:(g == k)=true:=beq_iff_eq.mpr h
    simp only [List.lookup,hb,if_neg (fun e:g=f=>hk (h.symm.trans e))]
   ·have hb:(g == k)=false:=beq_eq_false_iff_ne.mpr h
    simp only [List.lookup,hb]
    exact ih
theorem Ahx(f:Str)(v:V):∀ fs:List (Str × V),f∈(WD f v fs).map (·.1)∧∀ g,g∈fs.map (·.1)→g∈(WD f v fs).map (·.1)
 | []=>⟨by simp[WD],fun g h=>by simp at h⟩
 | (k,x)::r=>by
  obtain⟨i1,i2⟩:=Ahx f v r
  rw[show WD f v ((k,x)::r)=(if k=f then (k,v)::r else (k,x)::WD f v r) from rfl]
  by_cases hk:k=f
  ·rw[if_pos hk]
   subst hk
   exact⟨by simp,fun g h=>by simpa using h⟩
  ·rw[if_neg hk]
   refine⟨?_,fun g h=>?_⟩
   ·rw[A3X]
    exact A4d _ i1
   ·rw[A3X] at h ⊢
    rcases List.mem_cons.mp h with e | e
    ·exact List.mem_cons.mpr (.inl e)
    ·exact A4d _ (i2 g e)
theorem AiF(f:Str)(v:V):∀ fs:List (Str × V),(WD f v fs).length≤fs.length+1
 | []=>by simp[WD]
 | (k,x)::r=>by
  have ih:=AiF f v r
  rw[show WD f v ((k,x)::r)=(if k=f then (k,v)::r else (k,x)::WD f v r) from rfl]
  by_cases hk:k=f
  ·rw[if_pos hk,A3Z,A3Z];omega
  ·rw[if_neg hk,A3Z,A3Z];omega
theorem Amj.some_of{v:V}{o:Option Value}(r:Amj (some v) o):∃ u,o=some u∧RelV v u:=by
 cases o with
 | none=>exact(show False from r).elim
 | some u=>exact⟨u,rfl,r⟩
theorem Amj.none_of{o:Option Value}(r:Amj none o):o=none:=by
 cases o with
 | none=>rfl
 | some u=>exact(show False from r).elim
theorem AsW{v:V}{u:Value}(r:RelV v u):PySem.W.handedIn u=true:=by
 cases v with
 | non=>cases (show u=Value.none from r);rfl
 | bl b=>cases (show u=Value.bool b from r);rfl
 | int i=>obtain⟨t,e⟩:=(show ∃ t,u=Value.int i t from r);cases e;rfl
 | str x=>obtain⟨t,e⟩:=(show ∃ t,u=Value.str x t from r);cases e;rfl
 | byt b=>obtain⟨t,e⟩:=(show ∃ t,u=Value.bytes b t from r);cases e;rfl
 | flt b=>obtain⟨t,e⟩:=(show ∃ t,u=Value.float b t from r);cases e;rfl
 | ref a=>cases (show u=Value.ref a from r);rfl
 | ty n=>cases (show u=Value.type n from r);rfl
section
variable {P:Program}{w:World}{H H':Hp}{h h':Heap}{a C dx:Addr}{fs fs':List (Str × V)}
theorem AjC(hok:HOk P w H h)(e:H a=some (.ins C dx fs)):∃ mA,AqI h a dx C mA∧(∀ f,Amj (fs.lookup f) (mA f))∧PySem.Within mA (fs.map (·.1))∧fs.length≤1000∧H dx=some (.own a):=by
 obtain⟨d,z,ne,ob,mA,n,r,q⟩:=(show KJ P w H h a (.ins C dx fs) from hok a _ e)
 exact⟨mA,⟨ob,n,ne⟩,r,q,z,d⟩
end
structure Cls (K:PySem.W.Frag) (C:Addr):Prop where
 pg:PySem.W.plainGet K C Str.empty=true
 hd:PySem.W.hasDictIn K C=true
 po:PySem.W.plainOver K C=true
 sa:PySem.W.findIn K (.ref C) "__setattr__" = some (some (.builtin "object.__setattr__"))
theorem Cls.get{K:PySem.W.Frag}{C:Addr}(c:Cls K C)(f:Str):PySem.W.plainGet K C f=true:=c.pg
def Mr (K:PySem.W.Frag)(C:Addr)(f:Str):Prop:=PySem.W.findIn K (.ref C) f=some none
theorem Mr.taker{K:PySem.W.Frag}{C:Addr}{f:Str}(n:Mr K C f):PySem.W.takerIn K C f=some none:=by
 unfold PySem.W.takerIn
 rw[show PySem.W.findIn K (.ref C) f=some none from n]
 rfl
structure Con (K:PySem.W.Frag) (C:Addr) (f:Str) (v:V) (u:Value):Prop where
 at_:PySem.W.findIn K (.ref C) f=some (some u)
 rel:RelV v u
 get:PySem.W.specialIn K u "__get__" = some none
 cp:PySem.W.copiedNames.contains f=false
structure Meth (K:PySem.W.Frag) (C:Addr) (m:Str) (f:Addr):Prop where
 at_:PySem.W.findIn K (.ref C) m=some (some (.ref f))
 fn:PySem.W.isFn K (.ref f)=true
 kp:PySem.W.keepIn K (.ref f)=true
section
variable {X:Cx}{pins:List (Addr × Obj)}{σ:St}{H:Hp}{s:Shared}{a C dx:Addr}{fs:List (Str × V)}{f:Str}{v:V}{A:Around}{E:Value→Shared→Prop}
theorem AjV{b:Bool}{Q:Value→Shared→Prop}(I:Inv X pins σ H s)(e:H a=some (.ins C dx fs))(c:Cls X.K C)(n:Mr X.K C f)(l:fs.lookup f=some v)
  (h:∀ u s',Inv X pins σ H s'→RelV v u→Q u s'):wpAny (model X.prog X.w) A (getAttr (.ref a) f b) Q E s:=by
 obtain⟨mA,O,r,_,_,_⟩:=AjC I.hok e
 obtain⟨u,hu,ru⟩:=Amj.some_of (v:=v) (o:=mA f) (by rw[← l];exact r f)
 exact get_map I.kIn O (c.get f) c.hd n hu (AsW ru) (h u _ (I.tok _) ru)
theorem YT{m:Str}{g:Addr}{pl:Sem Bool}{Q:Value × List Value→Shared→Prop}(I:Inv X pins σ H s)(e:H a=some (.ins C dx fs))(c:Cls X.K C)(k:Meth X.K C m g)(l:fs.lookup m=none)
  (h:Q (.ref g,[.ref a]) s):wpAny (model X.prog X.w) A (getMethod (.ref a) m pl) Q E s:=by
 obtain⟨mA,O,r,_,_,_⟩:=AjC I.hok e
 have hn:mA m=none:=Amj.none_of (by rw[← l];exact r m)
 exact Auq I.kIn O (c.get m) k.at_ k.fn hn h
theorem AjW{y:V}{u:Value}{Q:Unit→Shared→Prop}(I:Inv X pins σ H s)(e:H a=some (.ins C dx fs))(c:Cls X.K C)(n:Mr X.K C f)(hl:fs.length<1000)(ry:RelV y u)
  (h:∀ s',Inv X pins σ (upd H a (.ins C dx (WD f y fs))) s'→Q () s'):wpAny (model X.prog X.w) A (setAttr (.ref a) f u) Q E s:=by
 obtain⟨mA,O,r,wi,_,ho⟩:=AjC I.hok e
 have hz:(fs.map (·.1)).length≤sizeLine:=by rw[A3S,sizeLine_eq];omega
 refine Awr I.kIn O c.sa c.po n.taker c.hd wi hz fun h' O' sb=>h _ ?_
 have hd:∃ o,h'.get? dx=some o:=let ⟨o,_,_,e',_⟩:=O'.ns;⟨o,e'⟩
 refine I.write (x:=a) (e:=dx) (by rw[e];exact True.intro) (.inr ho) (fun b q hb z=>(sb.2 b hb).trans z) hd ?_
 refine⟨by rw[Aw O.ne];exact ho,?_,O.ne,O'.obj,_,O'.ns,fun g=>?_,fun g hg=>?_⟩
 ·have:=AiF f y fs;omega
 ·show Amj ((WD f y fs).lookup g) (if g=f then some u else mA g)
  rw[AiE]
  by_cases q:g=f
  ·rw[if_pos q,if_pos q];exact ry
  ·rw[if_neg q,if_neg q];exact r g
 ·by_cases q:g=f
  ·rw[q];exact(Ahx f y fs).1
  ·refine(Ahx f y fs).2 g (wi g fun z=>hg ?_)
   show(if g=f then some u else mA g)=none
   rw[if_neg q];exact z
theorem Inv.made(I:Inv X pins σ H s):Inv X pins σ (upd (upd H s.heap.objs.size (.own (s.heap.objs.size+1))) (s.heap.objs.size+1) (.ins C s.heap.objs.size []))
  { s with heap:=(s.heap.push PySem.W.emptyDict).push (PySem.W.instObj C s.heap.objs.size) }:=by
 have e1:(s.heap.push PySem.W.emptyDict).get? s.heap.objs.size=some PySem.W.emptyDict:=Heap.get?_push_size s.heap rfl
 have e2:((s.heap.push PySem.W.emptyDict).push (PySem.W.instObj C s.heap.objs.size)).get? (s.heap.objs.size+1)=some (PySem.W.instObj C s.heap.objs.size):=by
  have:=Heap.get?_push_size (s.heap.push PySem.W.emptyDict) (o:=PySem.W.instObj C s.heap.objs.size) rfl
  rwa [Heap.size_push] at this
 have e3:(s.heap.push PySem.W.emptyDict).Ns s.heap.objs.size (fun _=>none):=⟨PySem.W.emptyDict,#[],_,e1,rfl,(fun e he=>absurd he (by simp)),fun _=>rfl⟩
 have I1:=I.laid (a:=s.heap.objs.size) (o:=.own (s.heap.objs.size+1)) (h':=s.heap.push PySem.W.emptyDict) (t':=s.toks) (fun b u q=>Heap.get?_push_of_some _ q) (A3U _) ⟨_,e1⟩
 refine I1.laid (a:=s.heap.objs.size+1) (o:=.ins C s.heap.objs.size []) (t':=s.toks) (fun b u q=>Heap.get?_push_of_some _ q) (A5q (Heap.size_push _ _)) ?_
 have ne:s.heap.objs.size≠s.heap.objs.size+1:=A4b (A4Y _)
 refine⟨by rw[Aw ne,Ae],A4f _,ne,e2,fun _=>none,(Heap.Ns1.of_empty e3).at fun o q=>Heap.get?_push_of_some _ q,fun _=>True.intro,fun y hy=>absurd rfl hy⟩
theorem Aws{prog:Program}{w:World}{env:Env}{e:Expr}{f:Str}{pos:Pos}{s:Shared}{Q:Value→Shared→Prop}(hb:attributeBase e f env (eval e env)=eval e env)
  (h:wpAny (model prog w) A (eval e env) (fun o s₁=>wpAny (model prog w) A (getAttr o f true) Q E s₁) E s):wpAny (model prog w) A (eval (.Attribute e f pos) env) Q E s :=
 Attribute_any_ h (by rw[arm_eval_Attribute,hb])
end
def AzI (K:PySem.W.Frag)(ta:TE)(f:Str):TE:=fun σ H Q=>ta σ H fun x H1=>∃ a C dx fs v,x=.ref a∧H1 a=some (.ins C dx fs)∧Cls K C∧Mr K C f∧fs.lookup f=some v∧Q v H1
def A3j (K:PySem.W.Frag)(ta:TE)(f:Str):TE:=fun σ H Q=>ta σ H fun x H1=>∃ a C dx fs v u,x=.ref a∧H1 a=some (.ins C dx fs)∧Cls K C∧Con K C f v u∧fs.lookup f=none∧Q v H1
def AzJ (K:PySem.W.Frag)(ta tv:TE)(f:Str):TS:=fun D σ H=>tv σ H fun y H1=>ta σ H1 fun x H2=>∃ a C dx fs,x=.ref a∧H2 a=some (.ins C dx fs)∧Cls K C∧Mr K C f∧fs.length<1000 ∧
 D.nx σ (upd H2 a (.ins C dx (WD f y fs)))
def Ayc (X:Cx)(op:Operator)(rd:V→V→Hp→VK→Prop):Prop :=
 ∀(pins:List (Addr × Obj)) (s:Shared) (σ:St) (H:Hp) (x y:V) (u v:Value) (Q:VK),Inv X pins σ H s→RelV x u→RelV y v→rd x y H Q→wpAny (model X.prog X.w) X.A (inplaceOp op u v) (EP X pins σ Q) X.xe s
def ArX (K:PySem.W.Frag)(ta tv:TE)(rd:V→V→Hp→VK→Prop)(f:Str):TS:=fun D σ H=>ta σ H fun x H1=>∃ a C dx fs v,x=.ref a∧H1 a=some (.ins C dx fs)∧Cls K C∧Mr K C f∧fs.lookup f=some v ∧
 tv σ H1 fun y H2=>rd v y H2 fun z H3=>∃ dx' fs',H3 a=some (.ins C dx' fs')∧fs'.length<1000∧D.nx σ (upd H3 a (.ins C dx' (WD f z fs')))
section
variable {X:Cx}{o e value:Expr}{f:Str}{pos pos' tpos:Pos}{ta tv:TE}
theorem Ayd(he:PE X e ta)(hb:attributeBase e f X.env (eval e X.env)=eval e X.env):PE X (.Attribute e f pos) (AzI X.K ta f):=by
 intro pins s σ H Q I h
 refine Aws hb (thn (he pins s σ H _ I h) fun u s1 ⟨x,H1,I1,rx,a,C,dx,fs,v,ex,ea,c,n,l,q⟩=>?_)
 subst ex
 obtain rfl:u=Value.ref a:=rx
 exact AjV I1 ea c n l fun u' s2 I2 ru=>⟨v,H1,I2,ru,q⟩
theorem Aye(ha:PE X o ta)(hv:PE X value tv)(hs:swapsWith value (some (.Attribute o f pos')) pos.line X.env=pure false):PS X (.Assign [.Attribute o f pos'] value pos) (AzJ X.K ta tv f):=by
 intro pins s σ H D I h
 refine plainObj_wpAny_Assign_Attribute (thn (hv pins s σ H _ I h) fun u s1 ⟨y,H1,I1,ry,q⟩=>thn (ha pins s1 σ H1 _ I1 q) fun ov s2 ⟨x,H2,I2,rx,a,C,dx,fs,ex,ea,c,n,l,q2⟩=>?_) hs
 subst ex
 obtain rfl:ov=Value.ref a:=rx
 exact AjW I2 ea c n l ry fun s3 I3=>⟨σ,_,I3,q2⟩
theorem AsX{op:Operator}{rd:V→V→Hp→VK→Prop}(ha:PE X o ta)(hv:PE X value tv)(hop:Ayc X op rd):PS X (.AugAssign (.Attribute o f tpos) op value pos) (ArX X.K ta tv rd f):=by
 intro pins s σ H D I h
 refine wpAny_AugAssign_AttributeAny (thn (ha pins s σ H _ I h) fun ov s1 ⟨x,H1,I1,rx,a,C,dx,fs,v,ex,ea,c,n,l,q⟩=>?_)
 subst ex
 obtain rfl:ov=Value.ref a:=rx
 refine AjV I1 ea c n l fun u s2 I2 ru=>thn (hv pins s2 σ H1 _ I2 q) fun w3 s3 ⟨y,H2,I3,ry,q3⟩=>thn (hop pins s3 σ H2 v y u w3 _ I3 ru ry q3) fun w4 s4 ⟨z,H3,I4,rz,dx',fs',ea',l',q4⟩=>?_
 exact AjW I4 ea' c n l' rz fun s5 I5=>⟨σ,_,I5,q4⟩
def A1Q:V→V→Hp→VK→Prop:=fun x y H Q=>∃ i j,x=.int i∧y=.int j∧Q (.int (i+j)) H
def A3k:V→V→Hp→VK→Prop:=fun x y H Q=>∃ i j,x=.int i∧y=.int j∧Q (.int (i-j)) H
theorem Ayf:Ayc X .Add A1Q:=by
 rintro pins s σ H x y u v Q I rx ry ⟨i,j,rfl,rfl,q⟩
 obtain⟨t,rfl⟩:=(show ∃ t,u=Value.int i t from rx)
 obtain⟨t',rfl⟩:=(show ∃ t',v=Value.int j t' from ry)
 exact PyProof.Rows.iadd_int ⟨.int (i+j),H,I.tok _,⟨_,rfl⟩,q⟩
end
section
variable {X:Cx}{pins:List (Addr × Obj)}{σ:St}{H:Hp}{s:Shared}{A:Around}{E:Value→Shared→Prop}{Q:Value→Shared→Prop}{c:Value}{b:Bool}
inductive Ahy (K:PySem.W.Frag) (H:Hp):V→Value→Prop where
 | non:Ahy K H .non (.type "NoneType")
 | bl (x:Bool):Ahy K H (.bl x) (.type "bool")
 | int (i:Int):Ahy K H (.int i) (.type "int")
 | str (x:Str):Ahy K H (.str x) (.type "str")
 | flt (x:UInt64):Ahy K H (.flt x) (.type "float")
 | lst {a:Addr} {xs:List V} (e:H a=some (.lst xs)):Ahy K H (.ref a) (.type "list")
 | frz {a:Addr} {o:Obj} {xs:List V} (e:H a=some (.frz o (.lst xs))):Ahy K H (.ref a) (.type "list")
 | tup {a:Addr} {xs:List V} (e:H a=some (.tup xs)):Ahy K H (.ref a) (.type "tuple")
 | dK {a:Addr} {kvs:List (Key × V)} (e:H a=some (.dK kvs)):Ahy K H (.ref a) (.type "dict")
 | dT {a:Addr} {kvs:List (List Key × V)} (e:H a=some (.dT kvs)):Ahy K H (.ref a) (.type "dict")
 | ins {a C dx:Addr} {fs:List (Str × V)} (e:H a=some (.ins C dx fs)) (cl:Cls K C) (ha:PySem.W.findIn K (.ref C) "__class__" = some (some (.builtin "object.__class__")))
   (hn:PySem.W.specialIn K (.builtin "object.__class__") "__get__" = some (some (.builtin "getset_descriptor.__get__"))) (htk:PySem.W.takesIn K (.builtin "object.__class__")=some true)
   (hm:PySem.W.mroIn K C (.type "object")=some true):Ahy K H (.ref a) (.ref C)
theorem AmW{x:V}{u t:Value}(I:Inv X pins σ H s)(rx:RelV x u)(ty:Ahy X.K H x t)(e:PySem.W.kitOne X.K t c=some b)(h:∀ tk,Q (.bool b) { s with toks:=tk }) :
  wpAny (model X.prog X.w) A (call (.builtin "isinstance") [u,c]) Q E s:=by
 cases ty with
 | non=>cases (show u=Value.none from rx);exact PySem.W.kia_one PySem.W.kitx_none I.kIn True.intro e (fun z=>nomatch z) h
 | bl y=>cases (show u=Value.bool y from rx);exact PySem.W.kia_one PySem.W.kitx_bool I.kIn True.intro e (fun z=>nomatch z) h
 | int i=>obtain⟨t,q⟩:=(show ∃ t,u=Value.int i t from rx);cases q;exact PySem.W.kia_one PySem.W.kitx_int I.kIn True.intro e (fun z=>nomatch z) h
 | str y=>obtain⟨t,q⟩:=(show ∃ t,u=Value.str y t from rx);cases q;exact PySem.W.kia_one PySem.W.kitx_str I.kIn True.intro e (fun z=>nomatch z) h
 | flt y=>obtain⟨t,q⟩:=(show ∃ t,u=Value.float y t from rx);cases q;exact PySem.W.kia_one PySem.W.kitx_float I.kIn True.intro e (fun z=>nomatch z) h
 | @lst a xs ea =>
  cases (show u=Value.ref a from rx)
  obtain⟨_,_,n,_,h1⟩:=(show KJ X.prog X.w H s.heap a (.lst xs) from I.hok a _ ea)
  exact PySem.W.kia_one PySem.W.kitx_list I.kIn ⟨_,h1,rfl⟩ e (fun z=>nomatch z) h
 | @frz a ob xs ea =>
  cases (show u=Value.ref a from rx)
  obtain⟨_,_,_,n,_,h1⟩:=(show KJ X.prog X.w H s.heap a (.frz ob (.lst xs)) from I.hok a _ ea)
  exact PySem.W.kia_one PySem.W.kitx_list I.kIn ⟨_,h1,rfl⟩ e (fun z=>nomatch z) h
 | @tup a xs ea =>
  cases (show u=Value.ref a from rx)
  obtain⟨_,_,_,p⟩:=(show KJ X.prog X.w H s.heap a (.tup xs) from I.hok a _ ea)
  obtain⟨o,h1,h2,_⟩:=p
  exact PySem.W.kia_one PySem.W.kitx_tuple I.kIn ⟨o,h1,h2⟩ e (fun z=>nomatch z) h
 | @dK a kvs ea =>
  cases (show u=Value.ref a from rx)
  obtain⟨_,_,vs,_,p⟩:=(show KJ X.prog X.w H s.heap a (.dK kvs) from I.hok a _ ea)
  obtain⟨o,es,ep,h1,h2,_⟩:=p
  exact PySem.W.kia_one PySem.W.kitx_dict I.kIn ⟨o,h1,h2.1⟩ e (fun z=>nomatch z) h
 | @dT a kvs ea =>
  cases (show u=Value.ref a from rx)
  obtain⟨_,_,xs,_,o,es,ep,h1,h2,_⟩:=(show KJ X.prog X.w H s.heap a (.dT kvs) from I.hok a _ ea)
  exact PySem.W.kia_one PySem.W.kitx_dict I.kIn ⟨o,h1,h2.1⟩ e (fun z=>nomatch z) h
 | @ins a C dx fs ea cl ha hn htk hm =>
  cases (show u=Value.ref a from rx)
  obtain⟨mA,O,_⟩:=AjC I.hok ea
  obtain⟨od,J,_⟩:=O.look
  exact PySem.W.kia_one (PySem.W.kitx_own (cl.get _) cl.hd ha hn htk hm) I.kIn J e (fun z=>nomatch z) h
end
open PySem PySem.Spec PyProof.Rows
structure MF (k:Nat) (A:Around):Prop where
 hd:A.handled=none
 dp:A.depth+3*k+5<recursionLimit
 un:A.units+16*k+200<cLine
theorem MF.mono{j k:Nat}{A:Around}(r:MF k A)(h:j≤k):MF j A:=⟨r.hd,by have:=r.dp;omega,by have:=r.un;omega⟩
theorem MF.deeper{k:Nat}{A:Around}(r:MF (k+1) A)(env:Env):MF k (A.deeper env) :=
 ⟨r.hd,by have:=r.dp;show A.depth+1+3*k+5<_;omega,by have:=r.un;show A.units+3+16*k+200<_;omega⟩
theorem AqJ{A:Around}{C:Addr}{us:List Value}{kw:List (Str × Value)}:(A.under (.builtin "type.__call__" ⟨.ref C::us,kw⟩)).depth=A.depth+1:=by
 first | rfl | simp[Around.under,Code.weight,Code.isCreation,Code.isGuard,Code.isCaller,Code.frames,Code.isFrame,guardIds]
theorem AqK{A:Around}{C:Addr}{us:List Value}{kw:List (Str × Value)}:(A.under (.builtin "type.__call__" ⟨.ref C::us,kw⟩)).units=A.units+1:=by
 first | rfl | simp[Around.under,Code.cUnits,Code.frames,Code.isFrame]
theorem MF.make{k:Nat}{A:Around}(r:MF (k+1) A)(C:Addr)(us:List Value)(kw:List (Str × Value)):MF k (A.under (.builtin "type.__call__" ⟨.ref C::us,kw⟩)) :=
 ⟨r.hd,by have:=r.dp;rw[AqJ];omega,by have:=r.un;rw[AqK];omega⟩
theorem MF.depth{k:Nat}{A:Around}(r:MF k A):A.depth<recursionLimit:=by have:=r.dp;omega
theorem MF.AqL{k:Nat}{A:Around}(r:MF k A):A.units<cLine:=by have:=r.un;omega
def AzK:TA:=fun _ H Q=>Q [] H
def AzL (ta:TE)(tr:TA):TA:=fun σ H Q=>ta σ H fun x H1=>tr σ H1 fun xs H2=>Q (x::xs) H2
section
variable {X:Cx}{e:Expr}{es:List Expr}{te:TE}{t:TA}{pos:Pos}
theorem Ac:PA X [] AzK:=fun _ _ _ _ H Q I h=>Calls.spliced_nil ⟨[],H,I,.nil,h⟩
theorem Aa(ha:PE X e te)(hr:PA X es t)(hs:starEach (e::es) X.env=(false,eval e X.env)::starEach es X.env:=by rfl):PA X (e::es) (AzL te t):=by
 intro pos pins s σ H Q I h
 rw[hs]
 show wpAny _ _ (spliced ((false,eval e X.env)::backTo pos (starEach es X.env))) _ _ s
 refine Calls.spliced_cons (thn (ha pins s σ H _ I h) fun u s1 ⟨x,H1,I1,r1,q1⟩=>?_)
 exact thn (hr pos pins s1 σ H1 _ I1 q1) fun us s2 ⟨xs,H2,I2,r2,q2⟩=>⟨x::xs,H2,I2,.cons r1 r2,q2⟩
def A1R (t:TA):TE:=fun σ H Q=>t σ H fun xs H1=>xs.length≤sizeLine∧∀ p,H1 p=none→Q (.ref p) (upd H1 p (.tup xs))
def A1S (t:TA):TE:=fun σ H Q=>t σ H fun xs H1=>xs.length≤sizeLine∧∀ p,H1 p=none→Q (.ref p) (upd H1 p (.lst xs))
theorem Aus{x1}(h:PA X es t):PE X (.Tuple es x1 pos) (A1R t):=by
 intro pins s σ H Q I hq
 refine wpAny_Tuple_spliced (thn (h pos pins s σ H _ I hq) fun us s1 ⟨xs,H1,I1,r,z,q⟩=>⟨by rw[← r.length];exact z,?_⟩)
 have hf:H1 s1.heap.objs.size=none:=I1.hok.fresh (A3U _)
 refine⟨.ref s1.heap.objs.size,upd H1 s1.heap.objs.size (.tup xs),I1.laid (t':=s1.toks) (fun b u e=>Heap.get?_push_of_some _ e) (A3U _) ?_,rfl,q _ hf⟩
 exact⟨z,us,r,⟨_,Heap.get?_push_size _ rfl,rfl,_,rfl⟩⟩
theorem HS(h:PA X es t):PE X (.List es pos) (A1S t):=by
 intro pins s σ H Q I hq
 refine wpAny_List_spliced (thn (h pos pins s σ H _ I hq) fun us s1 ⟨xs,H1,I1,r,z,q⟩=>⟨by rw[← r.length];exact z,?_⟩)
 have hf:H1 s1.heap.objs.size=none:=I1.hok.fresh (A3U _)
 refine⟨.ref s1.heap.objs.size,upd H1 s1.heap.objs.size (.lst xs),I1.laid (t':=s1.toks) (fun b u e=>Heap.get?_push_of_some _ e) (A3U _) ?_,rfl,q _ hf⟩
 exact⟨z,us,0,r,Heap.get?_push_size _ rfl⟩
end
abbrev Sp:=List V→Hp→VK→XK→Prop
abbrev CXT:=List Env→Hp→Shared→XK→Value→Shared→Prop
structure AqM (P:Program) (w:World) (K:PySem.W.Frag) (mg:Str→Option Value) (base:Heap) (A:Around) (outer:List Env) (s:Shared) (H:Hp):Prop where
 frames:A.frames=some outer
 mod:Mod K mg base
 bs:∀ b o,base.get? b=some o→s.heap.get? b=some o∧H b=none
 bsz:base.objs.size≤s.heap.objs.size
 Afa:s.heap.FunFrames base outer
 frf:∀ b∈frs outer,H b=none
 hok:HOk P w H s.heap
 bare:AllBare s.gens
def CE (outer:List Env)(P:Program)(w:World)(H:Hp)(s:Shared)(Q:VK)(u:Value)(s':Shared):Prop :=
 ∃ v H',s'.os=s.os∧AllBare s'.gens∧Un (frs outer) [] H H' s.heap s'.heap∧HOk P w H' s'.heap∧RelV v u∧Q v H'
def CR (CX:CXT)(outer:List Env)(P:Program)(w:World)(H:Hp)(s:Shared)(Q:VK)(E:XK)(r:Result)(s':Shared):Prop :=
 match r with
 | .ok (.ret u)=>CE outer P w H s Q u s'
 | .ok _=>False
 | .error e=>CX outer H s E e s'
structure Aq (P:Program) (w:World) (K:PySem.W.Frag) (mg:Str→Option Value) (base:Heap) (CX:CXT) (k:Nat) (f:Addr) (fd:FuncData) (ps:List Str) (sp:Sp):Prop where
 len:∀ vs H Q E,sp vs H Q E→vs.length=ps.length
 run:∀(A:Around) (outer:List Env) (s:Shared) (H:Hp) (args:Args) (us:List Value) (vs:List V) (Q:VK) (E:XK),MF k A→AqM P w K mg base A outer s H→BindsTo s fd args (ps.zip us)→Vals vs us→sp vs H Q E →
  codeAny (model P w) A (.call (.ref f) args) (CR CX outer P w H s Q E) s
theorem Aq.mono{P:Program}{w:World}{K:PySem.W.Frag}{mg:Str→Option Value}{base:Heap}{CX:CXT}{j k:Nat}{f:Addr}{fd:FuncData}{ps:List Str}{sp:Sp}(F:Aq P w K mg base CX j f fd ps sp)(h:j≤k) :
  Aq P w K mg base CX k f fd ps sp:=⟨F.len,fun A outer s H args us vs Q E hr=>F.run A outer s H args us vs Q E (hr.mono h)⟩
theorem Aq.imp{P:Program}{w:World}{K:PySem.W.Frag}{mg:Str→Option Value}{base:Heap}{CX:CXT}{k:Nat}{f:Addr}{fd:FuncData}{ps:List Str}{sp sp':Sp}(F:Aq P w K mg base CX k f fd ps sp)
  (h:∀ vs H Q E,sp' vs H Q E→sp vs H Q E):Aq P w K mg base CX k f fd ps sp' :=
 ⟨fun vs H Q E q=>F.len vs H Q E (h _ _ _ _ q),fun A outer s H args us vs Q E hr he hb hv hs=>F.run A outer s H args us vs Q E hr he hb hv (h _ _ _ _ hs)⟩
theorem AqM.make{P:Program}{w:World}{K:PySem.W.Frag}{mg:Str→Option Value}{base:Heap}{A:Around}{outer:List Env}{s:Shared}{H:Hp}(e:AqM P w K mg base A outer s H)(C:Addr)(us:List Value)(kw:List (Str × Value)) :
  AqM P w K mg base (A.under (.builtin "type.__call__" ⟨.ref C::us,kw⟩)) outer s H:=⟨by first | exact e.frames | (simpa [Around.under,Code.envs,Code.isFrame,pushEnvs] using e.frames),e.mod,e.bs,e.bsz,e.Afa,e.frf,e.hok,e.bare⟩
section
variable {X:Cx}{pins:List (Addr × Obj)}{σ:St}{H:Hp}{s s':Shared}
theorem Inv.env0(I:Inv X pins σ H s):AqM X.prog X.w X.K X.mg X.base X.A X.stack s H :=
 ⟨I.ok.frames,I.ok.mod,I.bs,A4q I.ok.bsz I.sz,I.stack,I.An6,I.hok,I.bare⟩
theorem Inv.after{Q:VK}{u:Value}(I:Inv X pins σ H s)(h:CE X.stack X.prog X.w H s Q u s'):EP X pins σ Q u s':=by
 obtain⟨v,H',os,bare,un,hok,r,q⟩:=h
 obtain⟨hh,g,d,t,os'⟩:=s'
 obtain rfl:os'=s.os:=os
 exact⟨v,H',I.call (h':=hh) (g':=g) (d':=d) (t':=t) (ch:=[]) un hok bare (fun b z=>absurd z (by simp)),r,q⟩
end
def AzM (sp:Sp)(dvs:List V)(E:XK)(t:TA):TE:=fun σ H Q=>t σ H fun vs H1=>sp (vs++dvs) H1 Q E
def Ax0 (C:Addr)(m:Str)(sp:Sp)(dvs:List V)(E:XK)(ta:TE)(t:TA):TE:=fun σ H Q=>ta σ H fun x H1=>∃ a dx fs,x=.ref a∧H1 a=some (.ins C dx fs)∧fs.lookup m=none ∧
 t σ H1 fun vs H2=>sp (x::(vs++dvs)) H2 Q E
def AzN (C:Addr)(sp:Sp)(dvs:List V)(E:XK)(t:TA):TE:=fun σ H Q=>t σ H fun vs H1=>∀ x dx,H1 x=none→H1 dx=none→dx≠x →
 sp (.ref x::(vs++dvs)) (upd (upd H1 dx (.own x)) x (.ins C dx [])) (fun v H2=>v=.non∧Q (.ref x) H2) E
def Binds(K:PySem.W.Frag)(fd:FuncData)(ps:List Str)(ds:List Value):Prop :=
 ∀(s:Shared) (us:List Value),K.In s.heap→(us++ds).length=ps.length→BindsTo s fd ⟨us,[]⟩ (ps.zip (us++ds))
theorem Binds.all{K:PySem.W.Frag}{fd:FuncData}{ps:List Str}(h:∀ us:List Value,us.length=ps.length→bindArgs fd ⟨us,[]⟩=pure (ps.zip us)):Binds K fd ps []:=fun s us _ hl=>by
 rw[A4Q] at hl ⊢
 exact .of_eq (h us hl)
def Passes(CX:CXT)(X:Cx)(E:XK):Prop:=∀(pins:List (Addr × Obj)) (σ:St) (H:Hp) (s:Shared) (e:Value) (s':Shared),Inv X pins σ H s→CX X.stack H s E e s'→X.xe e s'
section
variable {X:Cx}{CX:CXT}{k:Nat}{f C:Addr}{fd:FuncData}{ps:List Str}{sp:Sp}{dvs:List V}{ds:List Value}{E:XK}{x m:Str}{p pos apos:Pos}{e o:Expr}{es:List Expr}{ta:TE}{t:TA}
theorem AjX{pins:List (Addr × Obj)}{σ:St}{H:Hp}{s:Shared}{Q:VK}{us:List Value}{vs:List V}(F:Aq X.prog X.w X.K X.mg X.base CX k f fd ps sp)(hr:MF k X.A)(hb:Binds X.K fd ps ds)(hd:Vals dvs ds)(hx:Passes CX X E)
  (I:Inv X pins σ H s) (r:Vals vs us) (h:sp (vs++dvs) H Q E):wpAny (model X.prog X.w) X.A (call (.ref f) us) (EP X pins σ Q) X.xe s:=by
 have r2:Vals (vs++dvs) (us++ds):=r.append hd
 have hl:(us++ds).length=ps.length:=by rw[← r2.length];exact F.len _ _ _ _ h
 refine wpAny_call (codeAny_mono (F.run X.A X.stack s H ⟨us,[]⟩ (us++ds) (vs++dvs) Q E hr I.env0 (hb s us I.kIn hl) r2 h) fun r s' hq=>?_)
 cases r with
 | error e=>exact hx pins σ H s e s' I hq
 | ok fl =>
  cases fl with
  | ret u=>exact I.after hq
  | next=>exact False.elim hq
  | brk=>exact False.elim hq
  | cont=>exact False.elim hq
theorem Aj(F:Aq X.prog X.w X.K X.mg X.base CX k f fd ps sp)(hr:MF k X.A)(hg:Gl X x)(hm:X.mg x=some (.ref f))(hk:PySem.W.keepIn X.K (.ref f)=true)(hb:Binds X.K fd ps ds)(hd:Vals dvs ds)(hx:Passes CX X E)
  (ha:PA X (e::es) t) (hdb:(x == ("__debug__" : Str))=false:=by decide) (he:starEach (e::es) X.env=(false,eval e X.env)::starEach es X.env:=by rfl) (hpl:(backTo pos (starEach es X.env)).any (·.1)=false:=by rfl) :
  PE X (.Call (.Name x p) (e::es) [] pos) (AzM sp dvs E t):=by
 intro pins s σ H Q I h
 refine wpAny_Call_Name_kw (An7 I hg hm ?_ hdb)
 refine PySem.W.callWith_K (h₀:=X.base) I.ok.mod.kin hk (thn (ha pos pins s σ H _ I h) fun us s1 ⟨vs,H1,I1,r,q⟩=>⟨I1.kIn,?_⟩) he hpl
 exact AjX F hr hb hd hx I1 r q
theorem Afh{pl:Sem Bool}(he:PE X o ta)(c:Cls X.K C)(hm:Meth X.K C m f)(F:Aq X.prog X.w X.K X.mg X.base CX k f fd ps sp)(hr:MF k X.A)(hb:Binds X.K fd ps ds)(hd:Vals dvs ds)(hx:Passes CX X E)(ha:PA X (e::es) t)
  (hst:starEach (e::es) X.env=(false,eval e X.env)::starEach es X.env:=by rfl) (hpl:(backTo pos (starEach es X.env)).any (·.1)=false:=by rfl)
  (ht:eval (.Call (.Attribute o m apos) (e::es) [] pos) X.env=(do
   let ov ← eval o X.env
   standAt apos.atName
   let (f,first) ← holding [ov] (getMethod ov m pl)
   callWith pos f first (backTo pos (starEach (e::es) X.env)) (backToKw pos (keywordEach [] X.env))):=by rfl) :
  PE X (.Call (.Attribute o m apos) (e::es) [] pos) (Ax0 C m sp dvs E ta t):=by
 intro pins s σ H Q I h
 refine PySem.W.methodCall_KW (pl:=pl) (thn (he pins s σ H _ I h) fun u s1 ⟨x,H1,I1,rx,a,dx,fs,ex,ea,l,q⟩=>?_) ht
 subst ex
 obtain rfl:u=Value.ref a:=rx
 refine YT I1 ea c hm l ?_
 refine PySem.W.callWith_K (first:=[.ref a]) (h₀:=X.base) I.ok.mod.kin hm.kp (thn (ha pos pins s1 σ H1 _ I1 q) fun us s2 ⟨vs,H2,I2,r,q2⟩=>⟨I2.kIn,?_⟩) hst hpl
 exact AjX (us:=.ref a::us) (vs:=.ref a::vs) F hr hb hd hx I2 (.cons rfl r) q2
theorem AjY{pl:Sem Bool}(he:PE X o ta)(c:Cls X.K C)(hm:Meth X.K C m f)(F:Aq X.prog X.w X.K X.mg X.base CX k f fd ps sp)(hr:MF k X.A)(hb:Binds X.K fd ps ds)(hd:Vals dvs ds)(hx:Passes CX X E)
  (ht:eval (.Call (.Attribute o m apos) [] [] pos) X.env=(do
   let ov ← eval o X.env
   standAt apos.atName
   let (f,first) ← holding [ov] (getMethod ov m pl)
   callWith pos f first (backTo pos (starEach [] X.env)) (backToKw pos (keywordEach [] X.env))):=by rfl) :
  PE X (.Call (.Attribute o m apos) [] [] pos) (Ax0 C m sp dvs E ta AzK):=by
 intro pins s σ H Q I h
 refine PySem.W.methodCall_KW (pl:=pl) (thn (he pins s σ H _ I h) fun u s1 ⟨x,H1,I1,rx,a,dx,fs,ex,ea,l,q⟩=>?_) ht
 subst ex
 obtain rfl:u=Value.ref a:=rx
 refine YT I1 ea c hm l ?_
 exact PySem.W.callWith_K0 (first:=[.ref a]) I1.kIn hm.kp (AjX (us:=[.ref a]) (vs:=[.ref a]) F hr hb hd hx I1 (.cons rfl .nil) q)
structure Mk (K:PySem.W.Frag) (C f:Addr):Prop where
 makes:PySem.W.makesIn K C=true
 init:PySem.W.findIn K (.ref C) "__init__" = some (some (.ref f))
 fn:PySem.W.isFn K (.ref f)=true
 kp:PySem.W.keepIn K (.ref C)=true
theorem Aut{pins:List (Addr × Obj)}{σ:St}{H:Hp}{s:Shared}{Q:VK}{us:List Value}{vs:List V}(M:Mk X.K C f)(F:Aq X.prog X.w X.K X.mg X.base CX k f fd ps sp)(hr:MF (k+1) X.A)(hb:Binds X.K fd ps ds)(hd:Vals dvs ds)
  (hx:Passes CX X E) (I:Inv X pins σ H s) (r:Vals vs us)
  (h:∀ x dx,H x=none→H dx=none→dx≠x→sp (.ref x::(vs++dvs)) (upd (upd H dx (.own x)) x (.ins C dx [])) (fun v H2=>v=.non∧Q (.ref x) H2) E) :
  wpAny (model X.prog X.w) X.A (call (.ref C) us) (EP X pins σ Q) X.xe s:=by
 have hq:=h (s.heap.objs.size+1) s.heap.objs.size (I.hok.fresh (A5g _)) (I.hok.fresh (A3U _)) (A4b (A4Y _))
 have I2:=Inv.made (C:=C) I
 have r2:Vals (V.ref (s.heap.objs.size+1)::(vs++dvs)) (Value.ref (s.heap.objs.size+1)::(us++ds)):=.cons rfl (r.append hd)
 have hl:(Value.ref (s.heap.objs.size+1)::us++ds).length=ps.length:=by
  have e:=r2.length
  rw[F.len _ _ _ _ hq] at e
  exact e.symm
 refine wpAny_call (Aur (f:=f) I.kIn M.makes M.init (beq_iff_eq.mp M.fn) (codeAny_mono (F.run _ X.stack _ _ ⟨Value.ref (s.heap.objs.size+1)::us,[]⟩ (Value.ref (s.heap.objs.size+1)::(us++ds)) _ _ E (hr.make C us [])
  (I2.env0.make C us []) (hb _ (Value.ref (s.heap.objs.size+1)::us) I2.kIn hl) r2 hq) fun r s' hq'=>?_))
 cases r with
 | error e=>exact hx pins σ _ _ e s' I2 hq'
 | ok fl =>
  cases fl with
  | ret u =>
   obtain⟨v,H',I3,rv,ev,q3⟩:=I2.after hq'
   subst ev
   exact⟨rv,⟨V.ref (s.heap.objs.size+1),H',I3,rfl,q3⟩⟩
  | next=>exact False.elim hq'
  | brk=>exact False.elim hq'
  | cont=>exact False.elim hq'
theorem AcD(M:Mk X.K C f)(F:Aq X.prog X.w X.K X.mg X.base CX k f fd ps sp)(hr:MF (k+1) X.A)(hg:Gl X x)(hm:X.mg x=some (.ref C))(hb:Binds X.K fd ps ds)(hd:Vals dvs ds)(hx:Passes CX X E)
  (ha:PA X (e::es) t) (hdb:(x == ("__debug__" : Str))=false:=by decide) (he:starEach (e::es) X.env=(false,eval e X.env)::starEach es X.env:=by rfl) (hpl:(backTo pos (starEach es X.env)).any (·.1)=false:=by rfl) :
  PE X (.Call (.Name x p) (e::es) [] pos) (AzN C sp dvs E t):=by
 intro pins s σ H Q I h
 refine wpAny_Call_Name_kw (An7 I hg hm ?_ hdb)
 refine PySem.W.callWith_K (h₀:=X.base) I.ok.mod.kin M.kp (thn (ha pos pins s σ H _ I h) fun us s1 ⟨vs,H1,I1,r,q⟩=>⟨I1.kIn,?_⟩) he hpl
 exact Aut M F hr hb hd hx I1 r q
end
def PK (X:Cx)(kws:List Keyword)(t:TA):Prop :=
 ∀(pos:Pos) (pins:List (Addr × Obj)) (s:Shared) (σ:St) (H:Hp) (Q:List V→Hp→Prop),Inv X pins σ H s→t σ H Q→wpAny (model X.prog X.w) X.A (evalAll ((backToKw pos (keywordEach kws X.env)).map (·.2))) (AP X pins σ Q) X.xe s
section
variable {X:Cx}{CX:CXT}{k:Nat}{f C:Addr}{fd:FuncData}{ps ks:List Str}{sp:Sp}{E:XK}{x m:Str}{p pos apos A3l:Pos}{e o:Expr}{es:List Expr}{kws:List Keyword}{te ta:TE}{t tk:TA}{nm:Option Str}
structure A1T (K:PySem.W.Frag) (fd:FuncData) (ps ks:List Str) (g:List Value→List Value→List Value) (gV:List V→List V→List V):Prop where
 to:∀(s:Shared) (us ws:List Value),K.In s.heap→(g us ws).length=ps.length→BindsTo s fd ⟨us,ks.zip ws⟩ (ps.zip (g us ws))
 rel:∀{vs:List V} {us:List Value} {zs:List V} {ws:List Value},Vals vs us→Vals zs ws→Vals (gV vs zs) (g us ws)
def A1U (sp:Sp)(gV:List V→List V→List V)(E:XK)(t tk:TA):TE:=fun σ H Q=>t σ H fun vs H1=>tk σ H1 fun zs H2=>sp (gV vs zs) H2 Q E
variable {g:List Value→List Value→List Value}{gV:List V→List V→List V}
end
structure Av (N P:List Str) (sc:Scope):Prop where
 kind:sc.kind=.function
 co:sc.isCoroutine=false
 gen:sc.isGenerator=false
 nd:N.Nodup
 pre:N.take P.length=P
 par:∀ x∈P,sc.names.lookup x=some .local∨sc.names.lookup x=some .cell
 Ayg:∀ y∈sc.names,y.2≠.free
theorem AmX{kindOf:Str→Option NameKind}{x:Str}:∀{binds:List (Str × Value)} {m:Str→Option Value},(∀ v,(x,v)∉binds)→bindL kindOf binds m x=m x
 | [],_,_=>rfl
 | (n,v)::r,m,h=>by
  unfold bindL
  rw[AmX fun w hw=>h w (A4d _ hw)]
  split
  ·have:x≠n:=by rintro rfl;exact h v A3V
   simp[this]
  ·rfl
theorem AmY{kindOf:Str→Option NameKind}{x:Str}:∀{binds:List (Str × Value)} {m:Str→Option Value},(∀ v,(x,v)∉binds)→bindC kindOf binds m x=m x
 | [],_,_=>rfl
 | (n,v)::r,m,h=>by
  unfold bindC
  rw[AmY fun w hw=>h w (A4d _ hw)]
  split
  ·rfl
  ·have:x≠n:=by rintro rfl;exact h v A3V
   simp[this]
theorem AmZ{kindOf:Str→Option NameKind}{x:Str}{v:Value}:∀{P:List Str} {vs:List Value} {i:Nat} {m:Str→Option Value},P.Nodup→P[i]?=some x→vs[i]?=some v→kindOf x=some .local →
  bindL kindOf (P.zip vs) m x=some v
 | [],_,_,_,_,h,_,_=>by simp at h
 | _::_,[],_,_,_,_,h,_=>by simp at h
 | p::P,w::vs,0,m,nd,h1,h2,hk=>by
  simp at h1 h2;subst h1;subst h2
  show bindL kindOf ((p,w)::P.zip vs) m p=_
  unfold bindL
  rw[AmX fun v hv=>(List.nodup_cons.mp nd).1 (A5y hv).1,if_pos hk]
  simp
 | p::P,w::vs,i+1,m,nd,h1,h2,hk=>by
  show bindL kindOf ((p,w)::P.zip vs) m x=_
  unfold bindL
  exact AmZ (i:=i) (List.nodup_cons.mp nd).2 (by simpa using h1) (by simpa using h2) hk
theorem Ana{kindOf:Str→Option NameKind}{x:Str}{v:Value}:∀{P:List Str} {vs:List Value} {i:Nat} {m:Str→Option Value},P.Nodup→P[i]?=some x→vs[i]?=some v→kindOf x≠some .local →
  bindC kindOf (P.zip vs) m x=some v
 | [],_,_,_,_,h,_,_=>by simp at h
 | _::_,[],_,_,_,_,h,_=>by simp at h
 | p::P,w::vs,0,m,nd,h1,h2,hk=>by
  simp at h1 h2;subst h1;subst h2
  show bindC kindOf ((p,w)::P.zip vs) m p=_
  unfold bindC
  rw[AmY fun v hv=>(List.nodup_cons.mp nd).1 (A5y hv).1,if_neg hk]
  simp
 | p::P,w::vs,i+1,m,nd,h1,h2,hk=>by
  show bindC kindOf ((p,w)::P.zip vs) m x=_
  unfold bindC
  exact Ana (i:=i) (List.nodup_cons.mp nd).2 (by simpa using h1) (by simpa using h2) hk
def start(N:List Str)(vs:List V):St:=vs.map some++List.replicate (N.length-vs.length) none
def Apf (CX:CXT)(P:Program)(w:World)(K:PySem.W.Frag)(mg:Str→Option Value)(base:Heap)(N:List Str)(qual:Str)(scope:Scope)(f:Addr)(cd:Value)(A:Around)(outer:List Env)(s:Shared)(H:Hp)(E:XK):Cx where
 prog:=P
 w:=w
 K:=K
 mg:=mg
 base:=base
 A:=A.deeper (envOfC qual scope s.heap.objs.size f cd)
 N:=N
 s₀:=s
 H₀:=H
 env:=envOfC qual scope s.heap.objs.size f cd
 outer:=outer
 stack:=envOfC qual scope s.heap.objs.size f cd::outer
 ex:=[]
 calm:=true
 fn:=fun _=>true
 pn:=[]
 xe:=fun e s'=>wpAny (model P w) (A.deeper (envOfC qual scope s.heap.objs.size f cd)) (leaving (envOfC qual scope s.heap.objs.size f cd) e) (fun _ s''=>CX outer H s E e s'') (fun e' s''=>CX outer H s E e' s'') s'
theorem Apg{sc:Scope}{n:Nat}{x:Str}(h:sc.names.lookup x=some .cell):∃ c,(cellsFrom n sc.names []).lookup x=some c:=by
 have q:=PySem.W.cellsFrom_some sc.names n [] (.inl h)
 exact Option.isSome_iff_exists.mp q
theorem AsY{CX:CXT}{P:Program}{w:World}{K:PySem.W.Frag}{mg:Str→Option Value}{base:Heap}{N ps:List Str}{qual:Str}{scope:Scope}{f:Addr}{cd:Value}{A:Around}{outer:List Env}{s s1:Shared}{H:Hp}{E:XK}{us:List Value}{vs:List V}
  (S:Av N ps scope) (hd:A.handled=none) (e0:AqM P w K mg base A outer s H) (hl:vs.length=ps.length) (r:Vals vs us)
  (x:InCallC s s.heap.objs.size (bindL (envOfC qual scope s.heap.objs.size f cd).kindOf (ps.zip us) fun _=>none) (cellsFrom (s.heap.objs.size+1) scope.names []) (bindC (envOfC qual scope s.heap.objs.size f cd).kindOf (ps.zip us) fun _=>none) s1) :
  Inv (Apf CX P w K mg base N qual scope f cd A outer s H E) [] (start N vs) H s1:=by
 have hpl:ps.length≤N.length:=by have:=congrArg List.length S.pre;rw[A4l] at this;omega
 obtain⟨h1,tk,rfl,hk⟩:=x.done
 have noA:∀ b:Addr,b∉(Apf CX P w K mg base N qual scope f cd A outer s H E).ex:=fun b z=>absurd (show b∈([]:List Addr) from z) (by simp)
 refine⟨⟨e0.mod,S.kind,rfl,rfl,A3U _,fun y z c h1 h2=>?_,fun y hy=>?_,fun y c _ h=>?_,fun _=>hd,Around.frames_deeper e0.frames,.inr ⟨rfl,rfl⟩,fun b z=>absurd z (noA b),e0.bs,e0.bsz,fun b _ _=>noA b,fun b z=>absurd z (noA b),e0.Afa,e0.frf⟩,
  rfl,e0.bare,Un.kept hk,⟨_,x.toInCall.ns,fun i y v h1 h2 h3=>?_⟩,fun y c h=>⟨_,x.cell y c h⟩,e0.hok.fresh (A3U _),fun y c h=>?_,fun p hp=>absurd (show p∈([]:List (Addr × Obj)) from hp) (by simp),e0.hok.kept hk,?_⟩
 ·exact name_of_addr x.apart (PySem.mem_of_lookup h1) (PySem.mem_of_lookup h2)
 ·have hy:scope.names.lookup y=some .cell∨scope.names.lookup y=some .free:=hy
  rcases hy with hy | hy
  ·exact Apg hy
  ·exact absurd rfl (S.Ayg _ (PySem.mem_of_lookup hy))
 ·exact A4X (x.above y c (PySem.mem_of_lookup h))
 ·have hi:i<vs.length:=by
   unfold start at h2
   by_cases hi:i<vs.length
   ·exact hi
   ·rw[A4h (by simpa using hi)] at h2
    rw[A6g] at h2
    split at h2 <;> cases h2
  have ha:vs[i]?=some v:=by
   unfold start at h2
   rw[A4i (by simpa using hi),A4e] at h2
   cases e:vs[i]? with
   | none=>rw[e] at h2;cases h2
   | some a=>rw[e] at h2;cases h2;rfl
  obtain⟨u,hu,rv⟩:=r.get ha
  have hp:ps[i]?=some y:=by
   rw[← S.pre,List.getElem?_take_of_lt (by omega)];exact h1
  have ndP:ps.Nodup:=by rw[← S.pre];exact S.nd.sublist (List.take_sublist _ _)
  refine⟨u,rv,?_⟩
  rcases S.par y (A3Y hp) with k | k
  ·exact .inl ⟨k,AmZ ndP hp hu k⟩
  ·obtain⟨c,e⟩:=Apg (n:=s.heap.objs.size+1) k
   refine .inr ⟨.inl k,c,e,?_⟩
   have q:=x.cell y c e
   rw[Ana ndP hp hu (by show scope.names.lookup y≠_;rw[k];decide)] at q
   exact q
 ·exact e0.hok.fresh (A4X (x.above y c (PySem.mem_of_lookup h)))
 ·unfold start
  show _=N.length
  rw[A3T,A3S,A5z]
  omega
theorem AzO{CX:CXT}{P:Program}{w:World}{K:PySem.W.Frag}{mg:Str→Option Value}{base:Heap}{k:Nat}{f:Addr}{name qual:Str}{params:Arguments}{body:List Stmt}{scope:Scope}{dV kV doc pm cdv ct oc:Value}{an od:Option Addr}
  {osl:Array (Option Value)}{N ps:List Str}{sp:Sp} (lk:K.lookup f=some ⟨oc,od,.func (PySem.W.fnOf name qual params body scope dV kV doc pm an cdv ct),osl⟩) (hcd:PySem.W.codeIn K cdv qual=true) (S:Av N ps scope)
  (len:∀ vs H Q E,sp vs H Q E→vs.length=ps.length)
  (hbody:∀(A:Around) (outer:List Env) (s:Shared) (H:Hp) (vs:List V) (Q:VK) (E:XK),MF k (A.deeper (envOfC qual scope s.heap.objs.size f cdv))→sp vs H Q E →
   ∃ t,PSs (Apf CX P w K mg base N qual scope f cdv A outer s H E) body t∧t { nx:=fun _ H'=>Q .non H',rt:=Q } (start N vs) H) :
  Aq P w K mg base CX (k+1) f (PySem.W.fnOf name qual params body scope dV kV doc pm an cdv ct) ps sp:=by
 refine⟨len,fun A outer s H args us vs Q E hr e0 hb r hsp=>?_⟩
 have hl:=len _ _ _ _ hsp
 have KX:K.In s.heap:=e0.mod.kin.keeps fun b o e=>(e0.bs b o e).1
 have lim:s.heap.NoLimit:=e0.mod.nolimit.keeps fun b o e=>(e0.bs b o e).1
 have hkind:∀ y∈ps.zip us,scope.names.lookup y.1=some .local∨(scope.names.lookup y.1=some .cell∧((cellsFrom (s.heap.objs.size+1) scope.names []).lookup y.1).isSome=true):=fun⟨n,v⟩ hy=>by
  rcases S.par n (A5y hy).1 with q | q
  ·exact .inl q
  ·exact .inr ⟨q,PySem.W.cellsFrom_some _ _ _ (.inl q)⟩
 refine codeAny_call_function hr.depth (KX _ _ lk) rfl S.co S.gen rfl (PySem.W.codeRec_of KX hcd) (hb _ _ _ _ ?_)
 refine wpAny_newFunctionEnv_cells S.kind hkind fun env he s1 x=>?_
 subst he
 refine⟨lim.keeps x.toInCall.keep,codeAny_func ?_⟩
 obtain⟨t,ht,hq⟩:=hbody A outer s H vs Q E (hr.deeper _) hsp
 have I:Inv (Apf CX P w K mg base N qual scope f cdv A outer s H E) [] (start N vs) H s1:=AsY S hr.hd e0 hl r x
 refine wpAny_mono (ht [] s1 (start N vs) H _ I hq) (fun fl s' hs=>?_) fun e s' hs=>hs
 have fin:∀{σ':St} {H':Hp} {v:V} {u:Value},Inv (Apf CX P w K mg base N qual scope f cdv A outer s H E) [] σ' H' s'→RelV v u→Q v H'→CE outer P w H s Q u s' :=
  fun {σ' H' v u} J rv q=>⟨v,H',J.os,J.bare,J.base,J.hok,rv,q⟩
 cases fl with
 | ret u =>
  obtain⟨v,σ',H',J,rv,q⟩:=hs
  exact fin J rv q
 | next =>
  obtain⟨σ',H',J,q⟩:=hs
  exact fin (v:=V.non) (u:=Value.none) J rfl q
 | brk =>
  obtain⟨_,_,_,q⟩:=hs
  exact False.elim q
 | cont =>
  obtain⟨_,_,_,q⟩:=hs
  exact False.elim q
open PySem PySem.Spec PyProof.Rows
section
variable {X:Cx}{x:Str}{p pos:Pos}{e:Expr}{es:List Expr}{t:TA}{id T:String}{r:List V→Hp→VK→Prop}
def tCB (r:List V→Hp→VK→Prop)(t:TA):TE:=fun σ H Q=>t σ H fun vs H1=>r vs H1 Q
theorem Bo(hc:Oj X (.builtin id) r)(hg:Gl X x)(hm:X.mg x=none)(hv:bootBuiltins x=some (.builtin id))(ha:PA X (e::es) t)(hn:x ≠ "__name__" := by decide) (hdb:(x == ("__debug__" : Str))=false:=by decide)
  (he:starEach (e::es) X.env=(false,eval e X.env)::starEach es X.env:=by rfl) (hpl:(backTo pos (starEach es X.env)).any (·.1)=false:=by rfl):PE X (.Call (.Name x p) (e::es) [] pos) (tCB r t):=by
 intro pins s σ H Q I h
 refine wpAny_Call_Name_kw (QR I hg hm hv ?_ hn hdb)
 exact PyProof.Rows.callWith_builtin1 (thn (ha pos pins s σ H _ I h) fun us s1 ⟨vs,H1,I1,r1,q1⟩=>hc pins s1 σ H1 vs us Q I1 r1 q1) he hpl
theorem Hg(hc:Oj X (.type T) r)(hg:Gl X x)(hm:X.mg x=none)(hv:bootBuiltins x=some (.type T))(ha:PA X (e::es) t)(hn:x ≠ "__name__" := by decide) (hdb:(x == ("__debug__" : Str))=false:=by decide)
  (he:starEach (e::es) X.env=(false,eval e X.env)::starEach es X.env:=by rfl) (hpl:(backTo pos (starEach es X.env)).any (·.1)=false:=by rfl):PE X (.Call (.Name x p) (e::es) [] pos) (tCB r t):=by
 intro pins s σ H Q I h
 refine wpAny_Call_Name_kw (QR I hg hm hv ?_ hn hdb)
 exact PyProof.Rows.callWith_type1 (thn (ha pos pins s σ H _ I h) fun us s1 ⟨vs,H1,I1,r1,q1⟩=>hc pins s1 σ H1 vs us Q I1 r1 q1) he hpl
end
end L2
namespace HT
open PySem PyProof.Rows
def lexLt:List Int→List Int→Bool
 | [],[]=>false
 | [],_::_=>true
 | _::_,[]=>false
 | x::xs,y::ys=>if x=y then lexLt xs ys else decide (x<y)
section
open PySem.SeqAt
open PySem.AutoSeq1 (wpAny_loadPart')
open PySem.MeetsSeq PySem.MeetsSeq2 PySem.MeetsSeq3
end
section
variable {prog:Program}{w:World}{A:Around}{E:Value→Shared→Prop}{s:Shared}
def sIx (n d:Nat):Option Int→Nat
 | none=>d
 | some v=>if v<0 then (v+(n:Int)).toNat else min v.toNat n
theorem AjZ(n d:Nat):sIx n d none=d:=rfl
theorem R4(n d k:Nat):sIx n d (some (k:Int))=min k n:=by
 show(if (k:Int)<0 then ((k:Int)+(n:Int)).toNat else min (k:Int).toNat n)=min k n
 rw[if_neg (by omega),A4m]
theorem Ayh(n d:Nat)(hd:d≤n)(o:Option Int):sIx n d o≤n:=by
 cases o with
 | none=>exact hd
 | some v =>
  show(if v<0 then (v+(n:Int)).toNat else min v.toNat n)≤n
  by_cases hv:v<0
  ·rw[if_pos hv];omega
  ·rw[if_neg hv];exact Nat.min_le_right _ _
end
end HT
namespace L2
open PySem PySem.Spec PyProof.Rows
abbrev TO:=St→Hp→(Option Int→Hp→Prop)→Prop
def PO (X:Cx)(e:Option Expr)(t:TO):Prop :=
 ∀(pins:List (Addr × Obj)) (s:Shared) (σ:St) (H:Hp) (Q:Option Int→Hp→Prop),Inv X pins σ H s→t σ H Q →
  wpAny (model X.prog X.w) X.A (evalPart e X.env) (fun u s'=>∃ o H',Inv X pins σ H' s'∧IsPart u o∧Q o H') X.xe s
def Awt:TO:=fun _ H Q=>Q none H
def AzP (t:TE):TO:=fun σ H Q=>t σ H fun x H1=>∃ i,x=.int i∧Q (some i) H1
theorem intsAre_of{ns:List Int}:∀{us:List Value},Vals (ns.map V.int) us→IntsAre us ns:=by
 induction ns with
 | nil=>intro us r;rw[A4T] at r;cases r;exact .nil
 | cons n ns ih =>
  intro us r
  rw[A3X] at r
  cases r with
  | cons r1 r2 =>
   obtain⟨t,e⟩:=r1
   subst e
   exact .cons n t (ih r2)
section
variable {X:Cx}{e:Expr}{te:TE}{lo hi:Option Expr}{tl th:TO}{pos p2:Pos}
theorem Afi:PO X none Awt:=by
 intro pins s σ H Q I h
 rw[evalPart_none]
 exact wpAny_pure ⟨none,H,I,.none,h⟩
theorem Fb(h:PE X e te):PO X (some e) (AzP te):=by
 intro pins s σ H Q I hw
 rw[evalPart_some]
 refine thn (h pins s σ H _ I hw) fun u s1 ⟨x,H1,I1,r1,q1⟩=>?_
 obtain⟨i,rfl,q⟩:=q1
 obtain⟨t,rfl⟩:=r1
 exact⟨some i,H1,I1,.int i t,q⟩
def SlR (X:Cx)(r:V→Option Int→Option Int→Hp→VK→Prop):Prop :=
 ∀(pins:List (Addr × Obj)) (s:Shared) (σ:St) (H:Hp) (x:V) (v vl vu:Value) (lo hi:Option Int) (sl:Addr) (Q:VK),Inv X pins σ H s→RelV x v→s.heap.IsSliceOf sl vl vu .none→IsPart vl lo→IsPart vu hi→r x lo hi H Q →
  ∃ T id,typeLookup (.type T) "__getitem__" = pure (some (.builtin id))∧s.TypeIs v T∧wpAny (model X.prog X.w) X.A (getItem v (.ref sl)) (EP X pins σ Q) X.xe s
def tSl (r:V→Option Int→Option Int→Hp→VK→Prop)(te:TE)(tl th:TO):TE:=fun σ H Q=>te σ H fun x H1=>tl σ H1 fun l H2=>th σ H2 fun u H3=>r x l u H3 Q
theorem HW{r:V→Option Int→Option Int→Hp→VK→Prop}(hr:SlR X r)(he:PE X e te)(hl:PO X lo tl)(hu:PO X hi th):PE X (.Subscript e (.Slice lo hi none p2) pos) (tSl r te tl th):=by
 intro pins s σ H Q I h
 refine Subscript_ (thn (he pins s σ H _ I h) fun v s1 ⟨x,H1,I1,r1,q1⟩=>?_)
 refine wpAny_Slice (thn (hl pins s1 σ H1 _ I1 q1) fun vl s2 ⟨l,H2,I2,pl,q2⟩=>thn (hu pins s2 σ H2 _ I2 q2) fun vu s3 ⟨u,H3,I3,pu,q3⟩=>?_)
 rw[evalPart_none]
 refine wpAny_pure ?_
 have I4:Inv X pins σ H3 { s3 with heap:=s3.heap.push { cls:=.type "slice", data:=.fields #[vl,vu,.none] } }:=I3.kept (t':=s3.toks) fun b ob q=>Heap.get?_push_of_some _ q
 obtain⟨T,id,hT,ht,hg⟩:=hr pins { s3 with heap:=s3.heap.push { cls:=.type "slice", data:=.fields #[vl,vu,.none] } } σ H3 x v vl vu l u s3.heap.objs.size Q I4 r1 (Heap.IsSliceOf.new ..) pl pu q3
 show wpAny (model X.prog X.w) X.A (subscriptTail e (.Slice lo hi none p2) v (.ref s3.heap.objs.size)) (EP X pins σ Q) X.xe { s3 with heap:=s3.heap.push { cls:=.type "slice", data:=.fields #[vl,vu,.none] } }
 exact tail_any (ops:=[.ref s3.heap.objs.size,v]) ht hT hg (by with_unfolding_all rfl)
def Afj (xs:List V)(lo hi:Option Int):List V:=(xs.drop (HT.sIx xs.length 0 lo)).take (HT.sIx xs.length xs.length hi-HT.sIx xs.length 0 lo)
theorem Aph(xs:List V)(lo hi:Option Int):(Afj xs lo hi).length≤xs.length:=by
 unfold Afj
 rw[A4l,A4r]
 omega
def A3m (K:PySem.W.Frag):V→Option Int→Option Int→Hp→VK→Prop:=fun x lo hi H Q=>∃ a xs,x=.ref a∧SqT K H a xs ∧
 ¬(HT.sIx xs.length 0 lo=0∧HT.sIx xs.length xs.length hi=xs.length)∧∀ p,H p=none→Q (.ref p) (upd H p (.tup (Afj xs lo hi)))
def A3n (K:PySem.W.Frag):R2:=fun x y H Q=>∃ a b ns ms,x=.ref a∧y=.ref b∧SqT K H a (ns.map V.int)∧SqT K H b (ms.map V.int)∧Q (.bl (HT.lexLt ns ms)) H
def A2O (K:PySem.W.Frag):R2:=fun x y H Q=>∃ a b xs ys,x=.ref a∧y=.ref b∧SqT K H a xs∧SqT K H b ys∧xs≠[]∧xs.length+ys.length≤sizeLine ∧
 (ys=[]→Q (.ref a) H)∧(ys≠[]→∀ p,H p=none→Q (.ref p) (upd H p (.tup (xs++ys))))
end
open PySem PySem.Spec PyProof.Rows
def ixN (n:Nat)(i:Int):Option Nat:=if 0≤i then (if i<n then some i.toNat else none) else if -(n:Int)≤i then some (i+n).toNat else none
def atI {α:Type}(xs:List α)(i:Int):Option α:=(ixN xs.length i).bind fun j=>xs[j]?
theorem ArY{n:Nat}{i:Int}{j:Nat}(h:ixN n i=some j):seqIndex? i n=some j∧j<n ∧ -(n:Int)≤i∧i<n:=by
 unfold ixN at h
 by_cases h0:0≤i
 ·rw[if_pos h0] at h
  by_cases h1:i<n
  ·rw[if_pos h1] at h
   have e:i.toNat=j:=Option.some.inj h
   exact⟨by rw[seqIndex_of h0 h1,e],by omega,by omega,h1⟩
  ·rw[if_neg h1] at h;cases h
 ·rw[if_neg h0] at h
  by_cases h1 : -(n:Int)≤i
  ·rw[if_pos h1] at h
   have e:(i+n).toNat=j:=Option.some.inj h
   exact⟨by rw[seqIndex_neg (by omega) h1,e],by omega,h1,by omega⟩
  ·rw[if_neg h1] at h;cases h
theorem An9{α:Type}{xs:List α}{i:Int}{v:α}(h:atI xs i=some v):∃ j,seqIndex? i xs.length=some j∧xs[j]?=some v∧j<xs.length ∧ -(xs.length:Int)≤i∧i<xs.length:=by
 unfold atI at h
 cases e:ixN xs.length i with
 | none=>rw[e] at h;cases h
 | some j =>
  rw[e] at h
  obtain⟨h1,h2,h3,h4⟩:=ArY e
  exact⟨j,h1,h,h2,h3,h4⟩
theorem ArZ{α:Type}{xs:List α}{j:Nat}{v:α}(h:xs[j]?=some v):atI xs (j:Int)=some v:=by
 have hj:j<xs.length:=(List.getElem?_eq_some_iff.mp h).1
 have e:ixN xs.length (j:Int)=some j:=by
  unfold ixN
  rw[if_pos (by omega),if_pos (by omega)];simp
 unfold atI;rw[e];exact h
theorem Api{α:Type}(xs:List α)(v:α):atI (xs++[v]) (-1)=some v:=by
 have hl:(xs++[v]).length=xs.length+1:=by simp
 have e:ixN (xs++[v]).length (-1)=some xs.length:=by
  unfold ixN
  rw[hl,if_neg (by decide),if_pos (by omega)]
  congr 1
  omega
 unfold atI
 rw[e]
 show(xs++[v])[xs.length]?=some v
 simp
def Awu (b:Expr):Prop:=∀ o i,subscripted b false o i=operate [o,i] (getItem o i)
def IxR (X:Cx)(r:R2):Prop :=
 ∀(value slice:Expr) (pins:List (Addr × Obj)) (s:Shared) (σ:St) (H:Hp) (x y:V) (v u:Value) (Q:VK),Inv X pins σ H s→RelV x v→RelV y u→r x y H Q →
  subscripted slice false v u=operate [v,u] (getItem v u)→wpAny (model X.prog X.w) X.A (subscriptTail value slice v u) (EP X pins σ Q) X.xe s
def MtR (X:Cx)(id:String)(r:V→List V→Hp→VK→Prop):Prop :=
 ∀(pins:List (Addr × Obj)) (s:Shared) (σ:St) (H:Hp) (x:V) (xs:List V) (v:Value) (us:List Value) (Q:VK),Inv X pins σ H s→RelV x v→Vals xs us→r x xs H Q →
  wpAny (model X.prog X.w) X.A (call (.builtin id) (v::us)) (EP X pins σ Q) X.xe s
section
variable {X:Cx}{a b:Expr}{ta tb:TE}{pos:Pos}
theorem Cq{r:R2}(hr:IxR X r)(ha:PE X a ta)(hb:PE X b tb)(hs:Awu b):PE X (.Subscript a b pos) (tOp r ta tb):=by
 intro pins s σ H Q I h
 exact Subscript_ (AxX ha hb I h fun v u s2 x y H2 I2 rx ry q=>hr a b pins s2 σ H2 x y v u Q I2 rx ry q (hs _ _))
def Ayi (K:PySem.W.Frag):R2:=fun x y H Q=>∃ p xs i v,x=.ref p∧y=.int i∧SqL K H p xs∧atI xs i=some v∧Q v H
def Ayj (K:PySem.W.Frag):R2:=fun x y H Q=>∃ p xs i v,x=.ref p∧y=.int i∧SqT K H p xs∧atI xs i=some v∧Q v H
def AzQ:R2:=fun x y H Q=>∃ z i c,x=.str z∧y=.int i∧z.length≤sizeLine∧atI z.cps.toList i=some c∧Q (.str ⟨#[c]⟩) H
theorem Awv:IxR X (Ayi X.K):=by
 intro value slice pins s σ H x y v u Q I rx ry h hs
 obtain⟨p,xs,i,z,rfl,rfl,hq,he,q⟩:=h
 cases rx
 obtain⟨t,rfl⟩:=ry
 obtain⟨its,r,pl,hz⟩:=I.list hq
 obtain⟨j,h1,h2,h3,h4,h5⟩:=An9 he
 obtain⟨w,ew,rw'⟩:=r.get h2
 have hl:=r.length
 have hn:=Aeh
 have fin:EP X pins σ Q w s:=⟨z,H,I,rw',q⟩
 by_cases h0:0≤i
 ·have hj:i.toNat=j:=by
   rw[seqIndex_of h0 h5] at h1
   exact Option.some.inj h1
  exact item_listR pl.isList h0 (by omega) (by rw[hj];simpa using ew) fin hs
 ·have hj:(i+(its.toArray.size:Int)).toNat=j:=by
   rw[seqIndex_neg (by omega) h4] at h1
   rw[A4a,← hl]
   exact Option.some.inj h1
  exact subscriptTail_builtinR (x:=w) pl.isList.typeIs slot_list_getitem.lookup
   (wpAny_getItem_list_neg (Q:=fun r s'=>r=w∧EP X pins σ Q r s') pl.isList (by omega) (by rw[A4a] <;> omega) (by omega) (by rw[hj];simpa using ew) ⟨rfl,fin⟩) hs
theorem Ayk:IxR X (Ayj X.K):=by
 intro value slice pins s σ H x y v u Q I rx ry h hs
 obtain⟨p,xs,i,z,rfl,rfl,hq,he,q⟩:=h
 cases rx
 obtain⟨t,rfl⟩:=ry
 obtain⟨its,r,pl,hz⟩:=I.tuple hq
 obtain⟨j,h1,h2,h3,h4,h5⟩:=An9 he
 obtain⟨w,ew,rw'⟩:=r.get h2
 have hl:=r.length
 have hn:=Aeh
 have fin:EP X pins σ Q w s:=⟨z,H,I,rw',q⟩
 exact subscriptTail_builtinR (x:=w) pl.typeIs slot_tuple_getitem.lookup
  (getItem_tuple (j:=j) (Q:=fun r s'=>r=w∧EP X pins σ Q r s') pl (by omega) (by omega) (by rw[A4a,← hl];exact h1) (by simpa using ew) ⟨rfl,fin⟩) hs
theorem AqN:IxR X AzQ:=by
 intro value slice pins s σ H x y v u Q I rx ry h hs
 obtain⟨z,i,c,rfl,rfl,hz,he,q⟩:=h
 obtain⟨t,rfl⟩:=rx
 obtain⟨t',rfl⟩:=ry
 obtain⟨j,h1,h2,h3,h4,h5⟩:=An9 he
 have hl:z.cps.toList.length=z.length:=by simp[Str.length]
 rw[hl] at h1 h4 h5
 have hn:=Aeh
 exact tail_any (typeIs_str s z t) slot_str_getitem.lookup (getItem_str (c:=c) (by
  have e1:decide (i < -(2 ^ 63:Int))=false:=decide_eq_false (by omega)
  have e2:decide (i ≥ 2 ^ 63)=false:=decide_eq_false (by omega)
  rw[e1,e2,Bool.or_false]) (by rw[h1];simpa using h2) ⟨.str ⟨#[c]⟩,H,I.tok _,⟨_,rfl⟩,q⟩) hs
def rIx (K:PySem.W.Frag):R2:=fun x y H Q=>Ayi K x y H Q∨Ayj K x y H Q∨AzQ x y H Q
theorem AqO(its:List Value)(n j:Nat)(u:Value):Obj.mapSeq (·.setIfInBounds j u) { cls:=.type "list", data:=.seq its.toArray n }={ cls:=.type "list", data:=.seq (its.set j u).toArray n }:=by
 simp[Obj.mapSeq]
theorem Inv.lst{pins:List (Addr × Obj)}{σ:St}{H:Hp}{s:Shared}{p:Addr}{xs:List V}(I:Inv X pins σ H s)(h:H p=some (.lst xs)) :
  ∃(its:List Value) (n:Nat),Vals xs its∧s.heap.get? p=some { cls:=.type "list", data:=.seq its.toArray n }∧xs.length≤sizeLine:=by
 obtain⟨z,its,n,r,e⟩:=I.hok p _ h
 exact⟨its,n,r,e,z⟩
theorem Inv.Ayl{pins:List (Addr × Obj)}{σ:St}{H:Hp}{s:Shared}{p:Addr}{xs ys:List V}{its its':List Value}{n n':Nat}{f:Obj→Obj}(I:Inv X pins σ H s)(h:H p=some (.lst xs))
  (ho:s.heap.get? p=some { cls:=.type "list", data:=.seq its.toArray n }) (hf:f { cls:=.type "list", data:=.seq its.toArray n }={ cls:=.type "list", data:=.seq its'.toArray n' }) (r:Vals ys its') (hz:ys.length≤sizeLine) (t:Nat) :
  Inv X pins σ (upd H p (.lst ys)) { s with heap:=s.heap.update p f,toks:=t }:=by
 have e:(s.heap.update p f).get? p=some { cls:=.type "list", data:=.seq its'.toArray n' }:=by
  rw[Heap.get?_update_self f ho (by rw[hf] <;> rfl),hf]
 refine I.write (x:=p) (e:=p) (by rw[h];trivial) (.inl rfl) (fun b u hb q=>(Heap.get?_update_other _ _ (Ne.symm hb)).trans q) ⟨_,e⟩ ?_
 exact⟨hz,its',n',r,e⟩
def AzR:V→V→V→Hp→(Hp→Prop)→Prop:=fun o i v H Q=>∃ p xs k j,o=.ref p∧i=.int k∧H p=some (.lst xs)∧ixN xs.length k=some j∧Q (upd H p (.lst (xs.set j v)))
theorem set_list:Az8 X AzR:=by
 intro pins s σ H o i v ov iv u Q I ro ri rv h
 obtain⟨p,xs,k,j,rfl,rfl,hp,hj,q⟩:=h
 cases ro
 obtain⟨t,rfl⟩:=ri
 obtain⟨its,n,r,ho,hz⟩:=I.lst hp
 obtain⟨h1,h2,h3,h4⟩:=ArY hj
 have hl:=r.length
 have hn:=Aeh
 have I':Inv X pins σ (upd H p (.lst (xs.set j v))) { s with heap:=s.heap.update p (Obj.mapSeq (·.setIfInBounds j u)) } :=
  I.Ayl hp ho (AqO its n j u) (r.set rv j) (by rw[List.length_set];exact hz) s.toks
 by_cases h0:0≤k
 ·have hk:k.toNat=j:=by
   rw[seqIndex_of h0 h4] at h1
   exact Option.some.inj h1
  exact PySem.W.ki_setAt ho h0 (by omega) (by rw[A4a,← hl];exact h4) (by rw[hk];exact⟨_,I',q⟩)
 ·have hk:(k+(its.toArray.size:Int)).toNat=j:=by
   rw[seqIndex_neg (by omega) h3] at h1
   rw[A4a,← hl]
   exact Option.some.inj h1
  exact PySem.W.ki_setBack ho (by omega) (by rw[A4a,← hl];exact h3) (by omega) (by rw[hk];exact⟨_,I',q⟩)
theorem AnA(lo hi:Option Int)(n:Nat):(sliceBounds lo hi none n).1=((HT.sIx n 0 lo:Nat):Int)∧(sliceBounds lo hi none n).2.1=((HT.sIx n n hi:Nat):Int)∧(sliceBounds lo hi none n).2.2=1:=by
 refine⟨?_,?_,rfl⟩
 ·cases lo with
  | none=>simp[sliceBounds,HT.sIx]
  | some i =>
   simp only [sliceBounds,HT.sIx,Option.getD_none,show(1:Int)>0 by decide,if_true]
   by_cases h:i<0
   ·simp only [h,if_true] <;> omega
   ·simp only [h,if_false] <;> omega
 ·cases hi with
  | none=>simp[sliceBounds,HT.sIx]
  | some i =>
   simp only [sliceBounds,HT.sIx,Option.getD_none,show(1:Int)>0 by decide,if_true]
   by_cases h:i<0
   ·simp only [h,if_true] <;> omega
   ·simp only [h,if_false] <;> omega
theorem Amk(its:List Value)(lo hi:Option Int):slicePick its.toArray lo hi none=((its.drop (HT.sIx its.length 0 lo)).take (HT.sIx its.length its.length hi-HT.sIx its.length 0 lo)).toArray:=by
 obtain⟨h1,h2,h3⟩:=AnA lo hi its.toArray.size
 unfold slicePick
 rw[h1,h2,h3]
 simp only [sliceRange_one,pick_run,A4a] <;> rfl
def AzS (K:PySem.W.Frag):V→Option Int→Option Int→Hp→VK→Prop:=fun x lo hi H Q=>∃ a xs,x=.ref a∧SqL K H a xs∧∀ p,H p=none→Q (.ref p) (upd H p (.lst (Afj xs lo hi)))
theorem Aww:SlR X (AzS X.K):=by
 intro pins s σ H x v vl vu lo hi sl Q I rx hs pl pu h
 obtain⟨a,xs,rfl,hx,q⟩:=h
 cases rx
 obtain⟨its,r,ht,hz⟩:=I.list hx
 have hlen:=r.length
 refine⟨"list", _,slot_list_getitem.lookup,ht.isList.typeIs,?_⟩
 refine wpAny_getItem_list_slice ht.isList hs pl pu .none (by simp) ?_ (by rw[A4a] <;> omega)
 rw[Amk,← hlen]
 refine⟨.ref s.heap.objs.size,_,I.laid (t':=s.toks) (o:=.lst (Afj xs lo hi)) (fun b ob q=>Heap.get?_push_of_some _ q) (A3U _) ?_,rfl,q _ (I.hok.fresh (A3U _))⟩
 exact⟨A4q (Aph xs lo hi) hz,_,0,(r.drop (HT.sIx xs.length 0 lo)).take (HT.sIx xs.length xs.length hi-HT.sIx xs.length 0 lo),Heap.get?_push_size _ rfl⟩
def Gp:V→Bool
 | .non=>true
 | .bl _=>true
 | .int _=>true
 | .str _=>true
 | _=>false
def eqV:V→V→Bool
 | .non,.non=>true
 | .bl a,.bl b=>a == b
 | .bl a,.int b=>(if a then 1 else 0) == b
 | .int a,.bl b=>a == (if b then 1 else 0)
 | .int a,.int b=>a == b
 | .str a,.str b=>a == b
 | _,_=>false
theorem Aka{A:Around}{s:Shared}{y x:V}{u v:Value}(ry:RelV y u)(rx:RelV x v)(fy:Gp y=true)(fx:Gp x=true):SeqAt.EqAt A s u v (eqV y x):=by
 cases y with
 | non =>
  cases ry
  cases x with
  | non=>cases rx;exact SeqAt.EqAt.same _
  | bl b=>cases rx;exact SeqAt.EqAt.none_bool b
  | int b=>obtain⟨t,rfl⟩:=rx;exact SeqAt.EqAt.none_int b t
  | str b=>obtain⟨t,rfl⟩:=rx;exact SeqAt.EqAt.none_str b t
  | _=>exact absurd (show false=true from fx) A4g
 | bl a =>
  cases ry
  cases x with
  | non=>cases rx;exact SeqAt.EqAt.bool_none a
  | bl b=>cases rx;exact SeqAt.EqAt.bool_bool a b
  | int b=>obtain⟨t,rfl⟩:=rx;exact SeqAt.EqAt.bool_int a b t
  | str b=>obtain⟨t,rfl⟩:=rx;exact SeqAt.EqAt.bool_str a b t
  | _=>exact absurd (show false=true from fx) A4g
 | int a =>
  obtain⟨t',rfl⟩:=ry
  cases x with
  | non=>cases rx;exact SeqAt.EqAt.int_none a t'
  | bl b=>cases rx;exact SeqAt.EqAt.int_bool a t' b
  | int b=>obtain⟨t,rfl⟩:=rx;exact SeqAt.EqAt.int_int a t' b t
  | str b=>obtain⟨t,rfl⟩:=rx;exact SeqAt.EqAt.int_str a t' b t
  | _=>exact absurd (show false=true from fx) A4g
 | str a =>
  obtain⟨t',rfl⟩:=ry
  cases x with
  | non=>cases rx;exact SeqAt.EqAt.str_none a t'
  | bl b=>cases rx;exact SeqAt.EqAt.str_bool a t' b
  | int b=>obtain⟨t,rfl⟩:=rx;exact SeqAt.EqAt.str_int a t' b t
  | str b=>obtain⟨t,rfl⟩:=rx;exact SeqAt.EqAt.str_str a t' b t
  | _=>exact absurd (show false=true from fx) A4g
 | _=>exact absurd (show false=true from fy) A4g
def eqU (x:V)(u:Value):Bool:=match u with
 | .none=>eqV .non x
 | .bool b=>eqV (.bl b) x
 | .int i _=>eqV (.int i) x
 | .str z _=>eqV (.str z) x
 | _=>false
theorem Auu{x y:V}{u:Value}(r:RelV y u)(f:Gp y=true):eqU x u=eqV y x:=by
 cases y with
 | non=>cases r;rfl
 | bl b=>cases r;rfl
 | int i=>obtain⟨t,rfl⟩:=r;rfl
 | str z=>obtain⟨t,rfl⟩:=r;rfl
 | _=>exact absurd (show false=true from f) A4g
theorem Afk{x:V}:∀{xs:List V} {us:List Value},Vals xs us→xs.all Gp=true→us.any (eqU x)=xs.any fun y=>eqV y x
 | _,_,.nil,_=>rfl
 | y::xs,u::us,.cons r t,f=>by
  rw[A5P,A4I] at f
  rw[A5Q,A5Q,Auu r f.1,Afk t f.2]
theorem AaP{A:Around}{s:Shared}{x:V}{v:Value}(rx:RelV x v)(fx:Gp x=true):∀{xs:List V} {us:List Value},Vals xs us→xs.all Gp=true→∀ u∈us,SeqAt.EqAt A s u v (eqU x u)
 | _,_,.nil,_=>fun u hu=>by cases hu
 | y::xs,u::us,.cons r t,f=>fun u' hu=>by
  rw[A5P,A4I] at f
  rcases List.mem_cons.mp hu with rfl | hu
  ·rw[Auu r f.1];exact Aka r rx f.1 fx
  ·exact AaP rx fx t f.2 u' hu
def inV (x:V)(xs:List V):Bool:=xs.any fun y=>eqV y x
def rIn (K:PySem.W.Frag)(neg:Bool):R2:=fun x y H Q=>∃ p xs,y=.ref p∧(SqL K H p xs∨SqT K H p xs)∧Gp x=true∧xs.all Gp=true∧Q (.bl (if neg then !inV x xs else inV x xs)) H
theorem AsZ:OpR X (compareOp .In) (rIn X.K false):=by
 intro pins s σ H x y v u Q I rx ry h
 obtain⟨p,xs,rfl,hq,fx,fs,q⟩:=h
 cases ry
 rcases hq with hq | hq
 ·obtain⟨its,r,pl,hz⟩:=I.list hq
  refine SeqAt.in_listAt (eqU x) pl.isList (fun w hw=>AaP rx fx r fs w (by simpa using hw)) ⟨.bl _,H,I,rfl,?_⟩
  rw[show its.toArray.any (eqU x)=its.any (eqU x) by simp,Afk r fs]
  exact q
 ·obtain⟨its,r,pl,hz⟩:=I.tuple hq
  refine SeqAt.in_tupleAt (eqU x) pl (fun w hw=>AaP rx fx r fs w (by simpa using hw)) ⟨.bl _,H,I,rfl,?_⟩
  rw[show its.toArray.any (eqU x)=its.any (eqU x) by simp,Afk r fs]
  exact q
theorem AnB:OpR X (compareOp .NotIn) (rIn X.K true):=by
 intro pins s σ H x y v u Q I rx ry h
 obtain⟨p,xs,rfl,hq,fx,fs,q⟩:=h
 cases ry
 rcases hq with hq | hq
 ·obtain⟨its,r,pl,hz⟩:=I.list hq
  refine SeqAt.notIn_listAt (eqU x) pl.isList (fun w hw=>AaP rx fx r fs w (by simpa using hw)) ⟨.bl _,H,I,rfl,?_⟩
  rw[show its.toArray.any (eqU x)=its.any (eqU x) by simp,Afk r fs]
  exact q
 ·obtain⟨its,r,pl,hz⟩:=I.tuple hq
  refine SeqAt.notIn_tupleAt (eqU x) pl (fun w hw=>AaP rx fx r fs w (by simpa using hw)) ⟨.bl _,H,I,rfl,?_⟩
  rw[show its.toArray.any (eqU x)=its.any (eqU x) by simp,Afk r fs]
  exact q
theorem AnC:Oj X (.builtin "len") (fun xs H Q=>∃ p ys,xs=[.ref p]∧(SqL X.K H p ys∨SqT X.K H p ys)∧Q (.int ys.length) H):=by
 intro pins s σ H xs us Q I r h
 obtain⟨p,ys,rfl,hq,q⟩:=h
 obtain⟨u,rfl,rx⟩:=vals1 r
 cases rx
 have hn:=Aeh
 rcases hq with hq | hq
 ·obtain⟨its,r',pl,hz⟩:=I.list hq
  have hlen:=r'.length
  exact Calls.call_len_list pl.isList (by simp only [A4a] <;> omega) ⟨.int ys.length,H,I.tok _,⟨s.toks+1,by rw[A4a,hlen]⟩,q⟩
 ·obtain⟨its,r',pl,hz⟩:=I.tuple hq
  have hlen:=r'.length
  exact len_tuple pl (by simp only [A4a] <;> omega) ⟨.int ys.length,H,I.tok _,⟨s.toks+1,by rw[A4a,hlen]⟩,q⟩
theorem Gj:Oj X (.builtin "len") (fun xs H Q=>∃ z,xs=[.str z]∧z.length≤sizeLine∧Q (.int z.length) H):=by
 intro pins s σ H xs us Q I r h
 obtain⟨z,rfl,hz,q⟩:=h
 obtain⟨u,rfl,t,rfl⟩:=vals1 r
 have hn:=Aeh
 exact len_str (by omega) ⟨.int z.length,H,I.tok _,⟨_,rfl⟩,q⟩
theorem AnD:Oj X (.type "list") (fun xs H Q=>∃ p ys,xs=[.ref p]∧(SqL X.K H p ys∨SqT X.K H p ys)∧∀ l,H l=none→Q (.ref l) (upd H l (.lst ys))):=by
 intro pins s σ H xs us Q I r h
 obtain⟨p,ys,rfl,hq,q⟩:=h
 obtain⟨u,rfl,rx⟩:=vals1 r
 cases rx
 have fin:∀(its:List Value),Vals ys its→ys.length≤sizeLine→∀(h':Heap) (c':Nat),(∀ b o',s.heap.get? b=some o'→h'.get? b=some o') →
   h'.get? s.heap.objs.size=some { cls:=.type "list", dict:=none,data:=.seq its.toArray c',slots:=#[] }→EP X pins σ Q (.ref s.heap.objs.size) { s with heap:=h' }:=fun its r' hz h' c' kp e =>
  ⟨.ref s.heap.objs.size,_,I.laid (t':=s.toks) kp (A3U _) (show KJ X.prog X.w _ h' _ (.lst ys) from⟨hz,its,c',r',e⟩),rfl,q _ (I.hok.fresh (A3U _))⟩
 rcases hq with hq | hq
 ·obtain⟨its,r',pl,hz⟩:=I.list hq
  have hlen:=r'.length
  obtain⟨o,ho,hc,n,hd⟩:=pl.isList
  exact call_list_seq p (.inl rfl) ho hc hd (fun h' c' kp e=>fin its r' hz h' c' kp e) (by simp only [A4a] <;> omega)
 ·obtain⟨its,r',pl,hz⟩:=I.tuple hq
  have hlen:=r'.length
  obtain⟨o,ho,hc,n,hd⟩:=pl
  exact call_list_seq p (.inr rfl) ho hc hd (fun h' c' kp e=>fin its r' hz h' c' kp e) (by simp only [A4a] <;> omega)
def tyV (K:PySem.W.Frag)(T:String)(x:V)(H:Hp):Prop:=match x with
 | .str _=>T = "str"
 | .int _=>T = "int"
 | .ref p=>(T = "list" ∧ ∃ xs,SqL K H p xs)∨(T = "tuple" ∧ ∃ o,K.lookup p=some o∧o.cls=.type "tuple" ∧ o.dict=none) ∨
   (T = "dict" ∧ ((∃ kvs,H p=some (.dK kvs))∨∃ kvs,H p=some (.dT kvs)))∨(T = "set" ∧ ∃ S n,H p=some (.set S n))
 | _=>False
theorem Aym{pins:List (Addr × Obj)}{σ:St}{H:Hp}{s:Shared}{T:String}{x:V}{v:Value}(I:Inv X pins σ H s)(r:RelV x v)(ty:tyV X.K T x H) :
  s.TypeIs v T∧∀ a,v=.ref a→∃ ob,s.heap.get? a=some ob∧ob.dict=none:=by
 cases x with
 | str z =>
  obtain⟨t,rfl⟩:=r
  cases (show T = "str" from ty)
  exact⟨typeIs_str s z t,fun _ e=>nomatch e⟩
 | int i =>
  obtain⟨t,rfl⟩:=r
  cases (show T = "int" from ty)
  exact⟨typeIs_int s i t,fun _ e=>nomatch e⟩
 | ref p =>
  cases r
  rcases ty with ⟨rfl,xs,hq⟩ | ⟨rfl,o,hk,hc,hd⟩ | ⟨rfl,hk⟩ | ⟨rfl,S,n,hk⟩
  ·obtain⟨its,_,pl,_⟩:=I.list hq
   refine⟨pl.isList.typeIs,fun a e=>?_⟩
   cases e
   obtain⟨o,n,e,c,hd,_⟩:=pl
   exact⟨o,e,hd⟩
  ·refine⟨⟨o,I.kIn p o hk,hc⟩,fun a e=>?_⟩
   cases e
   exact⟨o,I.kIn _ o hk,hd⟩
  ·have z:∃ o,s.heap.get? p=some o∧o.ExactDict:=by
    rcases hk with ⟨kvs,hk⟩ | ⟨kvs,hk⟩
    ·obtain⟨_,_,_,_,o,_,_,e,ex,_⟩:=I.hok p _ hk
     exact⟨o,e,ex⟩
    ·obtain⟨_,_,_,_,o,_,_,e,ex,_⟩:=I.hok p _ hk
     exact⟨o,e,ex⟩
   obtain⟨o,e,ex⟩:=z
   refine⟨⟨o,e,ex.1⟩,fun a e2=>?_⟩
   cases e2
   exact⟨o,e,ex.2.1⟩
  ·obtain⟨o,_,_,_,e,ex,_⟩:=I.hok p _ hk
   refine⟨⟨o,e,ex.1⟩,fun a e2=>?_⟩
   cases e2
   exact⟨o,e,ex.2.1⟩
 | _=>exact False.elim ty
def A3o (K:PySem.W.Frag)(T:String)(r:V→List V→Hp→VK→Prop)(to:TE):TE:=fun σ H Q=>to σ H fun x H1=>tyV K T x H1∧r x [] H1 Q
def tBM (K:PySem.W.Frag)(T:String)(r:V→List V→Hp→VK→Prop)(to:TE)(t:TA):TE:=fun σ H Q=>to σ H fun x H1=>tyV K T x H1∧t σ H1 fun xs H2=>r x xs H2 Q
variable {o e:Expr}{es:List Expr}{to:TE}{t:TA}{name:Str}{apos cpos:Pos}{T id:String}{r:V→List V→Hp→VK→Prop}
theorem AzT(pa:PlainAttrs T)(slot:Slot T name id)(hty:typeOf (.builtin id)=pure (.type "method_descriptor")) (hm:MtR X id r) (ho:PE X o to) (ha:PA X (e::es) t)
  (hbase:attributeBase o name X.env (eval o X.env)=eval o X.env:=by rfl)
  (hfew:((backTo cpos (starEach (e::es) X.env)).all (fun x=>!x.1) && (backToKw cpos (keywordEach [] X.env)).all (fun x=>x.1.isSome)
   && decide ((e::es).length+([]:List Keyword).length+(if ([]:List Keyword).isEmpty then 0 else 1)<30))=true:=by rfl)
  (hline:(apos.endLine == cpos.line)=true:=by rfl) (hs:starEach (e::es) X.env=(false,eval e X.env)::starEach es X.env:=by rfl) (hplain:(backTo cpos (starEach es X.env)).any (·.1)=false:=by rfl) :
  PE X (.Call (.Attribute o name apos) (e::es) [] cpos) (tBM X.K T r to t):=by
 intro pins s σ H Q I h
 refine wpAny_Call_method_late hbase hfew hline rfl (thn (ho pins s σ H _ I h) fun v s1 ⟨x,H1,I1,r1,ty,q1⟩=>?_)
 obtain⟨h1,h2⟩:=Aym I1 r1 ty
 refine⟨T,id,pa,slot,hty,h1,h2,?_⟩
 have hA:=ha cpos pins s1 σ H1 _ I1 q1
 rw[hs] at hA ⊢
 refine Calls.callWith_builtin (by show(false || (backTo cpos (starEach es X.env)).any (·.1))=false;rw[hplain] <;> rfl) (Calls.evalArgs_plain ?_)
 exact thn hA fun us s2 ⟨vs,H2,I2,r2,q2⟩=>hm pins s2 σ H2 x vs v us Q I2 r1 r2 q2
end
open PySem PySem.Spec PyProof.Rows
def MtM (X:Cx)(id:String)(r:V→List V→Hp→VK→Prop):Prop :=
 ∀(pins:List (Addr × Obj)) (s:Shared) (σ:St) (H:Hp) (x:V) (xs:List V) (v:Value) (us:List Value) (Q:VK),Inv X pins σ H s→RelV x v→Vals xs us→r x xs H Q →
  wpAny (model X.prog X.w) X.A (call (.builtin id) (v::us)) (EP X pins σ Q) X.xe s
theorem Vals.one:∀{x:V} {us:List Value},Vals [x] us→∃ u,us=[u]∧RelV x u
 | _,_,.cons r .nil=>⟨_,rfl,r⟩
theorem Vals.two:∀{x y:V} {us:List Value},Vals [x,y] us→∃ u v,us=[u,v]∧RelV x u∧RelV y v
 | _,_,_,.cons r (.cons q .nil)=>⟨_,_,rfl,r,q⟩
theorem Vals.rep{xs:List V}{us:List Value}(h:Vals xs us):∀ k:Nat,Vals (List.replicate k xs).flatten (List.replicate k us).flatten
 | 0=>.nil
 | k+1=>by
  rw[A4O,A4O,A4n,A4n]
  exact Vals.append h (Vals.rep h k)
theorem foldl_rep(its:List Value):∀(k:Nat) (acc:List Value),
  List.foldl (fun x1 x2=>x1++x2) acc.toArray (List.replicate k its.toArray)=(acc++(List.replicate k its).flatten).toArray
 | 0,acc=>by simp
 | k+1,acc=>by
  have e:acc.toArray++its.toArray=(acc++its).toArray:=by simp
  have e2:(acc++its)++(List.replicate k its).flatten=acc++(List.replicate (k+1) its).flatten:=by
   rw[A4O,A4n,A4U]
  rw[← e2,← foldl_rep its k (acc++its),← e,A4O,A5R]
section
variable {X:Cx}{pins:List (Addr × Obj)}{σ:St}{H:Hp}{s:Shared}{l b:Addr}{xs ys zs:List V}
theorem Inv.AzU{its its':List Value}{n:Nat}{f:Array Value→Array Value}{t':Nat}(I:Inv X pins σ H s)(hH:H l=some (.lst xs))
  (e:s.heap.get? l=some { cls:=.type "list", data:=.seq its.toArray n }) (hf:f its.toArray=its'.toArray) (hv:Vals ys its') (hz:ys.length≤sizeLine) :
  Inv X pins σ (upd H l (.lst ys)) { s with heap:=s.heap.update l (Obj.mapSeq f),toks:=t' }:=by
 have q:=PySem.IsL.update e f
 rw[hf] at q
 refine I.write (x:=l) (e:=l) (by rw[hH];exact trivial) (.inl rfl) (fun b' u hb hu=>(Heap.get?_update_other s.heap (Obj.mapSeq f) (Ne.symm hb)).trans hu) ⟨_,q⟩ ?_
 exact⟨hz,its',_,hv,q⟩
theorem Inv.A1V{its:List Value}{t':Nat}(I:Inv X pins σ H s)(hv:Vals ys its)(hz:ys.length≤sizeLine) :
  Inv X pins σ (upd H s.heap.objs.size (.lst ys)) { s with heap:=s.heap.push { cls:=.type "list", data:=.seq its.toArray },toks:=t' } :=
 I.laid (fun _ _ q=>Heap.get?_push_of_some _ q) (A3U _) ⟨hz,its,0,hv,Heap.get?_push_size _ rfl⟩
theorem Inv.fresh(I:Inv X pins σ H s):H s.heap.objs.size=none:=I.hok.fresh (A3U _)
theorem Inv.Ata(I:Inv X pins σ H s)(hH:H l=some (.lst xs)):xs.length≤sizeLine∧∃(its:List Value) (n:Nat),Vals xs its∧xs.length=its.length∧s.heap.get? l=some { cls:=.type "list", data:=.seq its.toArray n }:=by
 obtain⟨z,its,n,r,e⟩:=I.hok l _ hH
 exact⟨z,its,n,r,r.length,e⟩
theorem Apj{n:Nat}(h:n≤sizeLine):Builtin.List.listTooLong n=false:=by
 unfold Builtin.List.listTooLong
 exact decide_eq_false (by omega)
end
section
variable {X:Cx}
def Awx:V→List V→Hp→VK→Prop:=fun x vs H Q=>∃ l xs y,x=.ref l∧vs=[y]∧H l=some (.lst xs)∧xs.length<sizeLine∧Q .non (upd H l (.lst (xs++[y])))
theorem HX:MtM X "list.append" Awx:=by
 intro pins s σ H x vs v us Q I rx rv h
 obtain⟨l,xs,y,rfl,rfl,hH,hz,q⟩:=h
 cases rx
 obtain⟨u,rfl,ru⟩:=rv.one
 obtain⟨z,its,n,r,hl,e⟩:=I.Ata hH
 refine call_meets F.slot_list_append ⟨_,e,rfl⟩ F.entry_list_append (F.args_list_append_2 _ _) (PySem.list_append l its.toArray n u (by rw[A4a];omega)) ⟨e,?_⟩
 refine⟨.non,_,I.AzU (its':=its++[u]) hH e (by simp) (r.append (.cons ru .nil)) ?_,rfl,q⟩
 rw[A3T,A4R]
 omega
def Awy:V→List V→Hp→VK→Prop:=fun x vs H Q=>∃ l b xs zs,x=.ref l∧vs=[.ref b]∧H l=some (.lst xs)∧H b=some (.lst zs)∧xs.length+zs.length≤sizeLine∧Q .non (upd H l (.lst (xs++zs)))
theorem Ahz:MtM X "list.extend" Awy:=by
 intro pins s σ H x vs v us Q I rx rv h
 obtain⟨l,b,xs,zs,rfl,rfl,hH,hB,hz,q⟩:=h
 cases rx
 obtain⟨u,rfl,ru⟩:=rv.one
 cases ru
 obtain⟨z,its,n,r,hl,e⟩:=I.Ata hH
 obtain⟨z2,its2,n2,r2,hl2,e2⟩:=I.Ata hB
 have hsz:its.toArray.size+its2.toArray.size≤sizeLine:=by rw[A4a,A4a];omega
 have Auv:¬(!its.toArray.isEmpty && Builtin.List.listTooLong (its.toArray.size+its2.toArray.size))=true:=by
  rw[Apj hsz,A5S]
  exact A4g
 refine call_meets F.slot_list_extend ⟨_,e,rfl⟩ F.entry_list_extend (F.args_list_extend_2 _ _)
  (AutoSeq1.list_extend_list_list_0 l its.toArray n b its2.toArray n2 Auv (by rw[A4a];omega) (by omega)) ⟨e,e2,?_⟩
 refine⟨.non,_,I.AzU (its':=its++its2) hH e (by simp) (r.append r2) ?_,rfl,q⟩
 rw[A3T]
 omega
def A3p:V→List V→Hp→VK→Prop:=fun x vs H Q=>∃ l xs y,x=.ref l∧vs=[]∧H l=some (.lst xs)∧xs[xs.length-1]?=some y∧Q y (upd H l (.lst xs.dropLast))
def A1W:V→List V→Hp→VK→Prop:=fun x vs H Q=>∃ l xs i k y,x=.ref l∧vs=[.int i]∧H l=some (.lst xs) ∧ -(2 ^ 63)≤i∧i<2 ^ 63∧seqIndex? i xs.length=some k∧xs[k]?=some y∧Q y (upd H l (.lst (xs.eraseIdx k)))
def AzV:V→List V→Hp→VK→Prop:=fun x vs H Q=>∃ l xs,x=.ref l∧vs=[]∧H l=some (.lst xs)∧Q .non (upd H l (.lst xs.reverse))
def A1X:V→List V→Hp→VK→Prop:=fun x vs H Q=>∃ l xs,x=.ref l∧vs=[]∧H l=some (.lst xs)∧Q .non (upd H l (.lst []))
def A3q:R2:=fun x y H Q=>∃ l b xs zs,x=.ref l∧y=.ref b∧H l=some (.lst xs)∧H b=some (.lst zs)∧xs.length+zs.length≤sizeLine∧∀ p,H p=none→Q (.ref p) (upd H p (.lst (xs++zs)))
def A1Y:R2:=fun x y H Q=>∃ l k xs,x=.ref l∧y=.int k∧H l=some (.lst xs) ∧ -(2 ^ 63)≤k∧k<2 ^ 63∧xs.length*k.toNat≤sizeLine ∧
 ∀ p,H p=none→Q (.ref p) (upd H p (.lst (List.replicate k.toNat xs).flatten))
theorem len_rep{α:Type}(xs:List α)(k:Nat):(List.replicate k xs).flatten.length=k*xs.length:=by
 induction k with
 | zero=>simp
 | succ k ih=>rw[A4O,A4n,A3T,ih,A5G,Nat.add_comm]
theorem AqP:OpR X (binaryOp .Mult) A1Y:=by
 intro pins s σ H x y v u Q I rx ry h
 obtain⟨l,k,xs,rfl,rfl,hH,h1,h2,hz,q⟩:=h
 cases rx
 obtain⟨t,rfl⟩:=ry
 obtain⟨z,its,n,r,hl,e⟩:=I.Ata hH
 have hlen:its.toArray.size*k.toNat≤sizeLine:=by rw[A4a,← hl];exact hz
 have A1Z:¬its.toArray.size*k.toNat>(2 ^ 63-1) / 8:=by
  have:(sizeLine:Nat)≤(2 ^ 63-1) / 8:=by decide
  omega
 have hfit:¬(!Builtin.List.listFitsIndex k)=true:=by
  rw[fitsIndex_both h1 h2]
  exact A4g
 have Auv:¬Builtin.List.listTooLong (its.toArray.size*k.toNat)=true:=by
  rw[Apj hlen]
  exact A4g
 have hnew:List.foldl (fun x1 x2=>x1++x2) #[] (List.replicate (if its.toArray.isEmpty=true then 0 else k.toNat) its.toArray)=(List.replicate k.toNat its).flatten.toArray:=by
  have f0:∀ m:Nat,List.foldl (fun x1 x2=>x1++x2) #[] (List.replicate m its.toArray)=(List.replicate m its).flatten.toArray:=fun m=>by
   have:=foldl_rep its m []
   rw[A5T] at this
   exact this
  rw[f0]
  cases its with
  | nil=>simp
  | cons a r'=>rw[if_neg (by simp)]
 refine wpAny_binaryOp_repeat_ref (T := "list") (U := "int") (by decide) ⟨_,e,rfl⟩ (fun s'=>typeIs_int s' k t) noFill_list_mul F.fills_int_mul F.slot_int_rmul repeat_list F.slot_int_index.lookup
  (call_meets F.slot_int_rmul (typeIs_int s k t) F.entry_int_rmul (F.args_int_rmul_2 _ _) (int___rmul___int_list k t l its.toArray n)
   ⟨e,rfl,⟨_,e,rfl⟩,call_meets F.slot_list_mul ⟨_,e,rfl⟩ F.entry_list_mul (F.args_list_mul_2 _ _) (AutoListH.list___mul___list_int_3 l its.toArray n k t hfit A1Z Auv) ⟨e,?_⟩⟩)
 rw[hnew]
 exact⟨.ref _,_,I.A1V (t':=s.toks) (r.rep k.toNat) (by rw[len_rep,A4J];exact hz),rfl,q _ I.fresh⟩
end
section
variable {prog:Program}{w:World}{A:Around}{E:Value→Shared→Prop}{s:Shared}
end
section
variable {X:Cx}
end
end L2
namespace Att
open PySem PySem.W PySem.Calls PyProof.Rows
theorem Aje{P:Params}{h:Heap}:∀(ns:List Int) (vs:List Value),WellAll P h vs (ns.map WData.int)→IntsAre vs ns:=by
 intro ns
 induction ns with
 | nil =>
  intro vs w
  rw[A4T] at w
  cases w
  exact .nil
 | cons n ns ih =>
  intro vs w
  rw[A3X] at w
  cases w with
  | cons a b =>
   cases a
   exact .cons _ _ (ih _ b)
theorem Atb{l:OpenLaw}{n:Nat}(hn:l.most=some n){P:Params}{h:Heap}{args:List WData}{vals:List Value}
  (hpre:l.row.toRowW.claim.pre args=true) (hwl:WellAll P h vals args) :
  ∃ a vs ns,vals=[Value.ref a]∧args=[WData.list (ns.map WData.int)]∧h.get? a=some { cls:=.type "list", data:=.seq vs.toArray }∧IntsAre vs ns∧ns.length≤n:=by
 have hsh:WShape.hasAll [] args [.list .int]=true:=(pre_splitW hpre).1
 have hc:l.pre.holds [] { args:=args }=true:=(pre_splitW hpre).2
 obtain⟨d,r,rfl,h1,h2⟩:=hasAllW_cons hsh
 obtain rfl:=hasAllW_nil h2
 obtain⟨xs,rfl,h3⟩:=hasW_list h1
 obtain⟨ns,rfl⟩:=items_int h3
 have hlen:ns.length≤n:=by
  unfold OpenLaw.pre at hc
  have h4:(WTm.not (.lt (.lit (.int (n:Int))) (.len (.arg 0)))).holds [] { args:=[.list (ns.map .int)] }=true:=by
   have h4:=(holds_andW hc).1
   rw[hn] at h4
   exact h4
  have h5:=condW_of h4 (w_not (w_lt w_lit (w_len_list (w_arg rfl))))
  rw[A3S] at h5
  refine Nat.le_of_not_lt fun q=>?_
  have q':(n:Int)<((ns.length:Nat):Int):=by omega
  first
   | (rw[decide_eq_true q'] at h5;exact absurd h5 (by decide))
   | (simp at h5;omega)
 cases hwl with
 | cons w1 w2 =>
  cases w2
  cases w1 with
  | list ho hall=>exact⟨_,_,ns,rfl,rfl,ho,Aje ns _ hall,hlen⟩
theorem Atc(l:OpenLaw)(args:List WData):l.row.toRowW.claim.post args (.bool true) args=true :=
 postW_of (r:=l.row.toRowW) (X:=(true == true))
  (show WShape.has [] (.bool true) .bool=true by first | rfl | decide | simp[WShape.has,WShape.arms,WShape.armsAll])
  (show(WTm.eq .res (.lit (.bool true))).value [] { args:=args,res:=some (.bool true),after:=args }=some (.bool (true == true)) from w_eq_bool (w_res rfl) w_lit) rfl
theorem Apk{l:OpenLaw}{n:Nat}{q:Program}{loose:List Str}{XP:(Str→Option Value)→Heap→Prop}{YP:World→Heap→Prop}{d:DefRec}
  (hn:l.most=some n) (hdf:d.params.defaults=[])
  (call:∀(w:World) (s₀ s₁:Shared) (mg mb:Str→Option Value) (fa:Addr) (o:Obj) (pm cd doc:Value) (a:Addr) (vs:List Value) (ns:List Int),
   Ground q loose [] XP w s₀ mg mb s₁.heap→YP w s₁.heap →
   s₁.heap.get? fa=some o→o.data=.func (docDef d.name d.params d.body d.scope pm cd doc)→s₁.heap.CodeRec cd d.name→mg d.name=some (.ref fa) →
   s₁.heap.get? a=some { cls:=.type "list", data:=.seq vs.toArray }→IntsAre vs ns→ns.length≤n→s₁.gens=#[] →
   codeAny (model l.prog w) callerA (.call (.ref fa) ⟨[.ref a],[]⟩) (fun r s'=>r=.ok (.ret (.bool true))∧OldK s₁.heap s'.heap∧s'.os=s₁.os∧AllBare s'.gens) s₁) :
  WalkO q loose XP YP l.row.toRowW d [] (fun f vs=>PySem.call f vs):=by
 intro w s₀ s₁ mg mb G Y fa o pm cd doc dV kV ho hd hcd hD hmg hg args vals as hpre hlay hrd hwl hlo
 obtain rfl:dV=.none:=Dflts.none hD hdf
 obtain rfl:kV=.none:=Dflts.noKw hD
 obtain⟨a,vs,ns,rfl,rfl,hobj,hints,hlen⟩:=Atb hn hpre hwl
 refine enter_call (codeAny_mono (call w s₀ s₁ mg mb fa o pm cd doc a vs ns G Y ho (fd_plain hd) hcd hmg hobj hints hlen hg) fun r s' hq=>?_)
 obtain⟨rfl,h2,h3,h4⟩:=hq
 exact⟨.inl ⟨.bool true,.bool true,[],rfl,fun _=>rfl,.bool true,Atc l _,fun _=>⟨List.Pairwise.nil,fun _ hm=>(nomatch hm)⟩⟩,h2,h3,h4⟩
section
variable {prog:Program}{w:World}{A:Around}{E:Value→Shared→Prop}{s:Shared}{K:Frag}
def A2a (h:Heap):Heap:={ h with objs:=#[] }
def ledger(h:Heap)(L d:Addr):List (Addr × Obj):=(List.range h.objs.size).filterMap fun a=>if a=L∨a=d then none else (h.get? a).map fun o=>(a,o)
end
end Att
namespace L2
open PySem PySem.Spec PyProof.Rows
theorem Ah0:∀{vs:List Value} {ns:List Int},IntsAre vs ns→Vals (ns.map V.int) vs
 | _,_,.nil=>.nil
 | _,_,.cons n t h=>.cons ⟨t,rfl⟩ (Ah0 h)
def Only(H:Hp):Prop:=∀ b,H b=none∨∃ o xs,H b=some (.frz o (.lst xs))
theorem Auw{P:Program}{w:World}{K:PySem.W.Frag}{mg mb:Str→Option Value}{CX:CXT}{k:Nat}{fa a:Addr}{fd:FuncData}{x:Str}{sp:Sp}{s₁:Shared}{vs:List Value}{ns:List Int}
  (KX:K.In s₁.heap) (hns:s₁.heap.Ns mainGlobals mg) (hb:s₁.heap.Ns builtinsNs mb) (hbb:∀ x:Str,x ≠ "__name__" → mb x=bootBuiltins x) (hlim:s₁.heap.NoLimit) (hg:s₁.gens=#[])
  (ha:s₁.heap.get? a=some { cls:=.type "list", data:=.seq vs.toArray }) (hi:IntsAre vs ns) (hl:ns.length≤sizeLine) (hr:MF k callerA)
  (F:∀ base:Heap,K.In base→base.Ns mainGlobals mg→Aq P w K mg base CX k fa fd [x] sp) (hbind:∀(s:Shared) (u:Value),BindsTo s fd ⟨[u],[]⟩ [(x,u)])
  (hsp:∀ H:Hp,Only H→SqL K H a (ns.map V.int)→sp [.ref a] H (fun v _=>v=.bl true) fun _ _ _=>False)
  (hCX:∀ H e s',CX [] H s₁ (fun _ _ _=>False) e s'→False) :
  codeAny (model P w) callerA (.call (.ref fa) ⟨[.ref a],[]⟩) (fun r s'=>r=.ok (.ret (.bool true))∧OldK s₁.heap s'.heap∧s'.os=s₁.os∧AllBare s'.gens) s₁:=by
 have rv:=Ah0 hi
 have lenV:=hi.length
 have core:∀ H:Hp,Only H→SqL K H a (ns.map V.int)→HOk P w H s₁.heap→(∀ b,H b≠none→b=a)→(H a≠none→K.lookup a=none) →
   codeAny (model P w) callerA (.call (.ref fa) ⟨[.ref a],[]⟩) (fun r s'=>r=.ok (.ret (.bool true))∧OldK s₁.heap s'.heap∧s'.os=s₁.os∧AllBare s'.gens) s₁:=by
  intro H hO hS hok hA hK
  have Asa:∀{b:Addr} {o:Obj},s₁.heap.get? b=some o→H b=none→(An4 s₁.heap H).get? b=some o:=fun e n=>Auj e n
  have noA:∀{b:Addr} {o:Obj} {es:Array DictEntry} {ep:Nat},s₁.heap.get? b=some o→o.data=.dict es ep→H b=none:=fun {b o es ep} e d=>by
   cases q:H b with
   | none=>rfl
   | some u =>
    have e':b=a:=hA b (by rw[q];simp)
    subst e'
    rw[ha] at e;cases e
    have d':Data.seq vs.toArray _=Data.dict es ep:=d
    cases d'
  have nsK:∀{b:Addr} {m:Str→Option Value},s₁.heap.Ns b m→(An4 s₁.heap H).Ns b m:=fun {b m} ⟨o,es,ep,e,d,r⟩=>⟨o,es,ep,Asa e (noA e d),d,r⟩
  have hKb:K.In (An4 s₁.heap H):=fun b o e=>Asa (KX b o e) (by
   cases q:H b with
   | none=>rfl
   | some u =>
    have e':b=a:=hA b (by rw[q];simp)
    subst e'
    rw[hK (by rw[q];simp)] at e;cases e)
  have hM:Mod K mg (An4 s₁.heap H):=⟨hKb,nsK hns,⟨mb,nsK hb,hbb⟩,let ⟨mc,h1,h2⟩:=hlim;⟨mc,nsK h1,h2⟩⟩
  have e0:AqM P w K mg (An4 s₁.heap H) callerA [] s₁ H:=⟨rfl,hM,fun b o e=>Awm e,A5q (AsP _ _),trivial,fun b hb=>absurd (show b∈([]:List Addr) from hb) (by simp),hok,.of_eq hg⟩
  refine codeAny_mono ((F _ hKb (nsK hns)).run callerA [] s₁ H ⟨[.ref a],[]⟩ [.ref a] [.ref a] _ _ hr e0 (hbind s₁ (.ref a)) (.cons rfl .nil) (hsp H hO hS)) fun r s' h=>?_
  cases r with
  | error e=>exact(hCX H e s' h).elim
  | ok fl =>
   cases fl with
   | next=>exact False.elim h
   | brk=>exact False.elim h
   | cont=>exact False.elim h
   | ret u =>
    obtain⟨v,H',os,bare,un,hok',r',q⟩:=h
    have q':v=.bl true:=q
    subst q'
    obtain rfl:u=Value.bool true:=r'
    refine⟨rfl,OldK.of_keep fun b o e=>?_,os,bare⟩
    cases q:H b with
    | none=>exact un.keep b o e q (by intro z;exact absurd (show b∈([]:List Addr) from z) (by simp)) (by simp)
    | some u =>
     rcases hO b with z | ⟨ob,xs,z⟩
     ·rw[q] at z;cases z
     ·have z2:=un.Aeg b ob _ z
      obtain⟨e1,_⟩:=hok b _ z
      obtain⟨e2,_⟩:=hok' b _ z2
      rw[e] at e1;cases e1
      exact e2
 cases hk:K.lookup a with
 | some o =>
  have e:=KX a o hk
  rw[ha] at e
  cases e
  refine core (fun _=>none) (fun _=>.inl rfl) (.inr ⟨_,vs.toArray,_,hk,rfl,rfl,rfl,by rw[A4a,lenV];exact hl,by simpa using rv⟩) (fun b u z=>by have z':(none:Option HO)=some u:=z;cases z') (fun b z=>absurd rfl z) fun z=>absurd rfl z
 | none =>
  refine core (fun b=>if b=a then some (.frz { cls:=.type "list", data:=.seq vs.toArray } (.lst (ns.map V.int))) else none) (fun b=>?_) (.inl (.inr ⟨{ cls:=.type "list", data:=.seq vs.toArray },if_pos rfl⟩)) (fun b u z=>?_) (fun b z=>?_) fun _=>hk
  ·by_cases hb:b=a
   ·exact .inr ⟨_,_,if_pos hb⟩
   ·exact .inl (if_neg hb)
  ·by_cases hb:b=a
   ·have z':=(if_pos hb).symm.trans z
    cases z'
    subst hb
    exact⟨ha,by rw[A3S];exact hl,vs,_,rv,ha⟩
   ·have z':=(if_neg hb).symm.trans z
    cases z'
  ·by_cases hb:b=a
   ·exact hb
   ·exact absurd (if_neg hb) z
open PySem PySem.Spec PyProof.Rows
abbrev KOf {K:PySem.W.Frag} {h:Heap} (_:K.In h):PySem.W.Frag:=K
theorem Awz{l:PySem.W.OpenLaw}{n k:Nat}{q:Program}{loose:List Str}{XP:(Str→Option Value)→Heap→Prop}{YP:World→Heap→Prop}{d:DefRec}{K:Params→PySem.W.Frag}{CX:World→CXT}{sp:World→Sp}{x:Str}
  (hn:l.most=some n) (hn2:n≤sizeLine) (hdf:d.params.defaults=[]) (hr:MF k callerA)
  (hY:∀(w:World) (h:Heap),YP w h→(K w.params).In h)
  (F:∀(w:World) (mg:Str→Option Value) (fa:Addr) (h:Heap),(K w.params).In h→h.Ns mainGlobals mg→mg d.name=some (.ref fa) →
   ∃ fd:FuncData,(∀(s:Shared) (u:Value),BindsTo s fd ⟨[u],[]⟩ [(x,u)]) ∧
    ∀ base:Heap,(K w.params).In base→base.Ns mainGlobals mg→Aq l.prog w (K w.params) mg base (CX w) k fa fd [x] (sp w))
  (hsp:∀(w:World) (H:Hp) (a:Addr) (ns:List Int),ns.length≤n→Only H→SqL (K w.params) H a (ns.map V.int)→sp w [.ref a] H (fun v _=>v=.bl true) fun _ _ _=>False)
  (hCX:∀(w:World) (H:Hp) (s:Shared) (e:Value) (s':Shared),CX w [] H s (fun _ _ _=>False) e s'→False) :
  PySem.W.WalkO q loose XP YP l.row.toRowW d [] (fun f vs=>PySem.call f vs):=by
 refine Att.Apk hn hdf fun w s₀ s₁ mg mb fa o pm cd doc a vs ns G Y ho hd hcd hmg hobj hints hlen hg=>?_
 have KX:=hY w _ Y
 obtain⟨fd,hb,hF⟩:=F w mg fa _ KX G.T.g hmg
 exact Auw KX G.T.g G.T.b G.T.builtins G.T.nolimit hg hobj hints (A4q hlen hn2) hr hF hb (fun H hO hS=>hsp w H a ns hlen hO hS) fun H e s'=>hCX w H s₁ e s'
theorem Aux{l:PySem.W.OpenLaw}{n k:Nat}{q:Program}{loose:List Str}{XP:(Str→Option Value)→Heap→Prop}{YP:World→Heap→Prop}{d:DefRec}{K:Params→PySem.W.Frag}{CX:CXT}{sp:PySem.W.Frag→Sp}{x:Str}
  (hn:l.most=some n) (hn2:n≤sizeLine) (hdf:d.params.defaults=[]) (hr:MF k callerA)
  (hY:∀(w:World) (h:Heap),YP w h→(K w.params).In h)
  (F:∀(w:World) (mg:Str→Option Value) (fa:Addr) (h:Heap),(K w.params).In h→h.Ns mainGlobals mg→mg d.name=some (.ref fa) →
   ∃ fd:FuncData,(∀(s:Shared) (u:Value),BindsTo s fd ⟨[u],[]⟩ [(x,u)]) ∧
    ∀ base:Heap,(K w.params).In base→base.Ns mainGlobals mg→Aq l.prog w (K w.params) mg base CX k fa fd [x] (sp (K w.params)))
  (hsp:∀(K:PySem.W.Frag) (H:Hp) (a:Addr) (ns:List Int),ns.length≤n→Only H→SqL K H a (ns.map V.int)→sp K [.ref a] H (fun v _=>v=.bl true) fun _ _ _=>False)
  (hCX:∀(H:Hp) (s:Shared) (e:Value) (s':Shared),CX [] H s (fun _ _ _=>False) e s'→False) :
  PySem.W.WalkO q loose XP YP l.row.toRowW d [] (fun f vs=>PySem.call f vs) :=
 Awz (K:=K) (CX:=fun _=>CX) (sp:=fun w=>sp (K w.params)) hn hn2 hdf hr hY F (fun w H a ns h1 h2 h3=>hsp (K w.params) H a ns h1 h2 h3) fun _ H s e s'=>hCX H s e s'
open PySem PySem.Spec PyProof.Rows
def inClass(s:Stmt)(j:Nat):Stmt:=match s with
 | .ClassDef _ _ _ body _ _ _ _ _ _ _=>body.getD j (.Pass ⟨0,0,0,0⟩)
 | _=>.Pass ⟨0,0,0,0⟩
def Ag (s:Stmt):Arguments:=match s with
 | .FunctionDef _ a _ _ _ _ _ _ _ _=>a
 | _=>{ posonlyargs:=[],args:=[],vararg:=none,kwonlyargs:=[],kw_defaults:=[],kwarg:=none,defaults:=[] }
def Af (s:Stmt):List Stmt:=match s with
 | .FunctionDef _ _ b _ _ _ _ _ _ _=>b
 | _=>[]
def Ab (s:Stmt):Scope:=match s with
 | .FunctionDef _ _ _ _ _ _ sc _ _ _=>sc
 | _=>{ kind:=.function,names:=[],isGenerator:=false,isCoroutine:=false }
abbrev CX0:CXT:=fun _ _ _ _ _ _=>False
abbrev E0:XK:=fun _ _ _=>False
theorem Ao{X:Cx}:Passes CX0 X E0:=fun _ _ _ _ _ _ _ h=>h.elim
structure Fun (K:PySem.W.Frag) (x qual:Str) (st:Stmt) (f:Addr) (fd:FuncData):Prop where
 ex:∃(oc:Value) (od:Option Addr) (kV doc pm:Value) (an:Option Addr) (cdv ct:Value) (osl:Array (Option Value)),
  fd=PySem.W.fnOf x qual (Ag st) (Af st) (Ab st) .none kV doc pm an cdv ct∧K.lookup f=some ⟨oc,od,.func fd,osl⟩∧PySem.W.codeIn K cdv qual=true
 kp:PySem.W.keepIn K (.ref f)=true
section
variable {P:Program}{w:World}{K:PySem.W.Frag}{mg:Str→Option Value}{base:Heap}
theorem Fun.ok{x qual:Str}{st:Stmt}{f:Addr}{fd:FuncData}{N ps:List Str}{k:Nat}{sp:Sp}(F:Fun K x qual st f fd)(S:Av N ps (Ab st))(len:∀ vs H Q E,sp vs H Q E→vs.length=ps.length)
  (hbody:∀(cdv:Value) (A:Around) (outer:List Env) (s:Shared) (H:Hp) (vs:List V) (Q:VK) (E:XK),MF k (A.deeper (envOfC qual (Ab st) s.heap.objs.size f cdv))→sp vs H Q E →
   ∃ t,PSs (Apf CX0 P w K mg base N qual (Ab st) f cdv A outer s H E).nox (Af st) t∧t { nx:=fun _ H'=>Q .non H',rt:=Q } (start N vs) H):Aq P w K mg base CX0 (k+1) f fd ps sp:=by
 obtain⟨oc,od,kV,doc,pm,an,cdv,ct,osl,rfl,lk,hcd⟩:=F.ex
 refine AzO lk hcd S len fun A outer s H vs Q E hr hsp=>?_
 obtain⟨t,h,q⟩:=hbody cdv A outer s H vs Q E hr hsp
 exact⟨t,h.nox,q⟩
theorem Fun.binds{x qual:Str}{st:Stmt}{f:Addr}{fd:FuncData}{ps:List Str}(F:Fun K x qual st f fd)
  (h:∀(kV doc pm:Value) (an:Option Addr) (cdv ct:Value) (us:List Value),us.length=ps.length→bindArgs (PySem.W.fnOf x qual (Ag st) (Af st) (Ab st) .none kV doc pm an cdv ct) ⟨us,[]⟩=pure (ps.zip us)):Binds K fd ps []:=by
 obtain⟨oc,od,kV,doc,pm,an,cdv,ct,osl,rfl,lk,hcd⟩:=F.ex
 exact .all (h kV doc pm an cdv ct)
theorem Ai{x qual:Str}{st:Stmt}{f:Addr}{oc:Value}{od an:Option Addr}{osl:Array (Option Value)}{kV doc pm cdv ct:Value}(l:K.lookup f=some ⟨oc,od,.func (PySem.W.fnOf x qual (Ag st) (Af st) (Ab st) .none kV doc pm an cdv ct),osl⟩)
  (c:PySem.W.codeIn K cdv qual=true) (k:PySem.W.keepIn K (.ref f)=true):Fun K x qual st f (PySem.W.fnOf x qual (Ag st) (Af st) (Ab st) .none kV doc pm an cdv ct):=⟨⟨oc,od,kV,doc,pm,an,cdv,ct,osl,rfl,l,c⟩,k⟩
end
theorem Tf{n:Nat}(h:n≤1000):n<sizeLine:=A6h h (by decide)
section
variable {X:Cx}
theorem pv(i:Nat){x:Str}{pos:Pos}(hN:X.N[i]?=some x:=by rfl)(hv:Vis X.env.scope x:=by first | exact Or.inl rfl | exact Or.inr (Or.inl rfl) | exact Or.inr (Or.inr rfl))(hd:(x == ("__debug__" : Str))=false:=by decide)
  (hcd:(x == ("__classdict__" : Str))=false:=by decide):PE X (.Name x pos) (Az5 i):=AxR hN hv hd hcd
end
theorem QS{A B:Prop}(h:B):if false=true then A else B:=by
 rw[if_neg A4g]
 exact h
theorem Ah1{A B:Prop}(h:A):if true=true then A else B:=by
 rw[if_pos rfl]
 exact h
theorem AiG{c A B:Prop}[Decidable c](hc:c)(h:B):if (!decide c)=true then A else B:=by
 rw[decide_eq_true hc]
 exact QS h
def Am (H H':Hp):Prop:=∀ b o,H b=some o→H' b=some o
theorem Am.refl(H:Hp):Am H H:=fun _ _ h=>h
theorem Am.trans{H H1 H2:Hp}(a:Am H H1)(b:Am H1 H2):Am H H2:=fun c o h=>b c o (a c o h)
theorem Am.free{H H':Hp}(e:Am H H'){l:Addr}(h:H' l=Option.none):H l=Option.none:=by
 cases q:H l with
 | none=>rfl
 | some o =>
  rw[e l o q] at h
  cases h
theorem Am.seq{K:PySem.W.Frag}{H H':Hp}{a:Addr}{xs:List V}(e:Am H H')(h:SqL K H a xs):SqL K H' a xs:=by
 rcases h with (h | ⟨o,h⟩) | h
 ·exact .inl (.inl (e _ _ h))
 ·exact .inl (.inr ⟨o,e _ _ h⟩)
 ·exact .inr h
open PySem PySem.Spec PyProof.Rows
theorem Aei{scope:Scope}{env:Env}(h:∀ y∈scope.names,y.2=.free→∃ c,env.cells.lookup y.1=some c) :
  ∃ cl,closureFor scope env=pure cl∧(∀ x c,cl.lookup x=some c→env.cells.lookup x=some c∧(x,NameKind.free)∈scope.names) ∧
   ∀ x,(x,NameKind.free)∈scope.names→cl.lookup x=env.cells.lookup x:=by
 have key:∀(l:List (Str × NameKind)) (cs:List (Str × Addr)),(∀ y∈l,y.2=.free→∃ c,env.cells.lookup y.1=some c) →
   ∃ cl,(forIn l cs (fun(x:Str × NameKind) (cs:List (Str × Addr))=>do
     if x.2 == .free then
      let c ← cellOf env x.1
      pure (ForInStep.yield ((x.1,c)::cs))
     else pure (ForInStep.yield cs)):Sem (List (Str × Addr)))=pure cl ∧
    (∀ x c,cl.lookup x=some c→(env.cells.lookup x=some c∧(x,NameKind.free)∈l)∨cs.lookup x=some c) ∧
    ∀ x,((x,NameKind.free)∈l→cl.lookup x=env.cells.lookup x)∧((cs.lookup x=env.cells.lookup x)→cl.lookup x=env.cells.lookup x):=by
  intro l
  induction l with
  | nil=>intro cs _;exact⟨cs,rfl,fun x c e=>.inr e,fun x=>⟨fun z=>absurd z (by simp),fun z=>z⟩⟩
  | cons y r ih =>
   intro cs hl
   obtain⟨n,k⟩:=y
   by_cases hk:k=.free
   ·subst hk
    obtain⟨c,hc⟩:=hl (n,.free) A3V rfl
    obtain⟨cl,e1,e2,e3⟩:=ih ((n,c)::cs) fun y hy=>hl y (A4d _ hy)
    refine⟨cl,?_,fun x d e=>?_,fun x=>⟨fun z=>?_,fun z=>?_⟩⟩
    ·rw[A5h]
     simp only [beq_self_eq_true,if_true,cellOf,hc]
     exact e1
    ·rcases e2 x d e with ⟨z1,z2⟩ | z
     ·exact .inl ⟨z1,A4d _ z2⟩
     ·rw[A4K] at z
      by_cases hx:x == n
      ·rw[hx] at z
       have hx':x=n:=by simpa using hx
       subst hx'
       refine .inl ⟨?_,A3V⟩
       rw[hc];exact z
      ·have hx':(x == n)=false:=by simpa using hx
       rw[hx'] at z
       exact .inr z
    ·rcases List.mem_cons.mp z with z | z
     ·injection z with z1 _
      subst z1
      refine(e3 x).2 ?_
      rw[A4K,hc]
      simp
     ·exact(e3 x).1 z
    ·by_cases hx:x=n
     ·subst hx
      refine(e3 x).2 ?_
      rw[A4K,hc]
      simp
     ·refine(e3 x).2 ?_
      rw[A4K]
      have hx':(x == n)=false:=by simpa using hx
      rw[hx']
      exact z
   ·obtain⟨cl,e1,e2,e3⟩:=ih cs fun y hy=>hl y (A4d _ hy)
    have hb:(k == NameKind.free)=false:=by simpa using hk
    refine⟨cl,?_,fun x d e=>?_,fun x=>⟨fun z=>?_,(e3 x).2⟩⟩
    ·rw[A5h]
     simp only [hb,A5i,if_false]
     exact e1
    ·rcases e2 x d e with ⟨z1,z2⟩ | z
     ·exact .inl ⟨z1,A4d _ z2⟩
     ·exact .inr z
    ·rcases List.mem_cons.mp z with z | z
     ·injection z with _ z2
      exact absurd z2.symm hk
     ·exact(e3 x).1 z
 obtain⟨cl,e1,e2,e3⟩:=key scope.names [] h
 refine⟨cl,?_,fun x c e=>?_,fun x z=>(e3 x).1 z⟩
 ·unfold closureFor
  have:=e1
  simpa using this
 ·rcases e2 x c e with z | z
  ·exact z
  ·simp at z
theorem GJ{env:Env}(hk:env.scope.kind=.function):∀{names:List (Str × NameKind)} {x:Str} {k:NameKind},names.lookup x=some k→k≠.free →
  (names.map fun(n,k)=>if (k == NameKind.free && env.scope.kind == .function && env.kindOf n == some .cell) then (n,NameKind.cell) else (n,k)).lookup x=some k
 | [],_,_,h,_=>by simp at h
 | (n,k')::r,x,k,h,hf=>by
  have ih:=@GJ env hk r x k
  show List.lookup x ((if (k' == NameKind.free && env.scope.kind == .function && env.kindOf n == some .cell)=true then (n,NameKind.cell) else (n,k'))::_)=_
  cases hx:x == n with
  | true =>
   simp only [A4K,hx] at h
   cases h
   have:(k' == NameKind.free)=false:=by simpa using hf
   simp[A4K,hx,this]
  | false =>
   simp only [A4K,hx] at h
   by_cases hc:(k' == NameKind.free && env.scope.kind == .function && env.kindOf n == some .cell)=true
   ·rw[if_pos hc];simp only [A4K,hx];exact ih h hf
   ·rw[if_neg hc];simp only [A4K,hx];exact ih h hf
theorem KH{env:Env}(hk:env.scope.kind=.function):∀{names:List (Str × NameKind)} {x:Str},names.lookup x=some .free→env.kindOf x=some .cell →
  (names.map fun(n,k)=>if (k == NameKind.free && env.scope.kind == .function && env.kindOf n == some .cell) then (n,NameKind.cell) else (n,k)).lookup x=some .cell
 | [],_,h,_=>by simp at h
 | (n,k')::r,x,h,hc=>by
  have ih:=@KH env hk r x
  show List.lookup x ((if (k' == NameKind.free && env.scope.kind == .function && env.kindOf n == some .cell)=true then (n,NameKind.cell) else (n,k'))::_)=_
  cases hx:x == n with
  | true =>
   simp only [A4K,hx] at h
   cases h
   have hxn:x=n:=by simpa using hx
   subst hxn
   simp[A4K,hk,hc]
  | false =>
   simp only [A4K,hx] at h
   by_cases hd:(k' == NameKind.free && env.scope.kind == .function && env.kindOf n == some .cell)=true
   ·rw[if_pos hd];simp only [A4K,hx];exact ih h hc
   ·rw[if_neg hd];simp only [A4K,hx];exact ih h hc
def Jw (X:Cx)(Nc:List Str)(scope:Scope)(cl:List (Str × Addr))(C:Addr)(fp:List Addr)(s:Shared)(H:Hp):Cx where
 prog:=X.prog
 w:=X.w
 K:=X.K
 mg:=X.mg
 base:=X.base
 A:=X.A
 N:=Nc
 s₀:=s
 H₀:=H
 env:=compEnvC scope cl C X.env
 outer:=X.stack
 stack:=X.stack
 ex:=fp
 fn:=fun _=>false
 calm:=X.calm
 pn:=[]
 xe:=fun _ _=>False
def MJ (σ:St)(Bh:List Nat):St:=Bh.map fun j=>(σ[j]?).join
structure Dp (X:Cx) (x:Str) (Nc:List Str) (Bh:List Nat) (scope:Scope):Prop where
 kind:scope.kind=.function
 cell:∀ y∈scope.names,y.2≠.cell
 names:∀ y∈scope.names,y.2=.local→scope.names.lookup y.1=some .local
 fr:∀ y∈scope.names,y.2=.free→X.env.scope.names.lookup y.1=some .cell∧scope.names.lookup y.1=some .free
 loc:scope.names.lookup x=some .local
 len:Nc.length=Bh.length+1
 hd:Nc[0]?=some x
 nd:Nc.Nodup
 cap:∀ k j,Bh[k]?=some j→∃ y,Nc[k+1]?=some y∧X.N[j]?=some y∧scope.names.lookup y=some .free
theorem Afl{prog:Program}{w:World}{A:Around}{R:Result→Shared→Prop}{s:Shared}{elt target iter:Expr}{ifs:List Expr}{scope:Scope}{pos:Pos}{it acc:Value}{env:Env}(I:Nat→Shared→Prop)
  (turn:∀ n s,I n s→wpAny (model prog w) A (pyNext it) (fun r s₁=>match r with
   | none=>R (.ok .next) s₁
   | some v=>wpAny (model prog w) A (letOwnedTupleGo target it v) (fun _ s1'=>wpAny (model prog w) A (assign target env v) (fun _ s₂ =>
     wpAny (model prog w) A (forIn ifs true fun c r=>if r=true then do let ok ← isTrue c env (eval c env);pure (ForInStep.yield ok) else pure (ForInStep.yield r)) (fun ok s₃ =>
      if ok=true then wpAny (model prog w) A (eval elt env) (fun x s₄ =>
       wpAny (model prog w) A (call (.builtin "list.append") [acc,x]) (fun _ s₅=>∃ m,m<n∧I m s₅) (notedBy (model prog w) A env fun e s'=>R (.error e) s') s₄) (notedBy (model prog w) A env fun e s'=>R (.error e) s') s₃
      else ∃ m,m<n∧I m s₃) (notedBy (model prog w) A env fun e s'=>R (.error e) s') s₂) (notedBy (model prog w) A env fun e s'=>R (.error e) s') s1') (notedBy (model prog w) A env fun e s'=>R (.error e) s') s₁) (notedBy (model prog w) A env fun e s'=>R (.error e) s') s)
  (n:Nat) (h:I n s) :
  codeAny (model prog w) A (.compLoop (.ListComp elt [⟨target,iter,ifs,0⟩] scope pos) 0 it acc env) R s:=by
 refine codeAny_loop rfl I (fun n s hI=>?_) n h
 show wpAny _ A ((compTurn (.ListComp elt [⟨target,iter,ifs,0⟩] scope pos) 0 it acc env).onRaise (fun x=>do noteFrame x env;theTreesLotGoes x)) _ _ s
 refine wpAny_noted ?_
 rw[compTurn_list]
 refine wpAny_bind (wpAny_standAt (wpAny_bind (wpAny_mono (turn n s hI) (fun r s₁ h₁=>?_) fun _ _ h'=>h')))
 cases r with
 | none=>exact wpAny_pure h₁
 | some v =>
  refine wpAny_bind (wpAny_mono h₁ (fun _ s1' h₁=>?_) fun _ _ h'=>h')
  refine wpAny_bind (wpAny_mono h₁ (fun _ s₂ h₂=>wpAny_bind (wpAny_mono h₂ (fun ok s₃ h₃=>?_) fun _ _ h'=>h')) fun _ _ h'=>h')
  cases ok with
  | false=>exact wpAny_pure ⟨rfl,h₃⟩
  | true =>
   exact wpAny_bind (wpAny_bind (wpAny_mono h₃ (fun x s₄ h₄=>wpAny_bind (wpAny_mono h₄ (fun _ s₅ h₅=>wpAny_pure (wpAny_pure ⟨rfl,h₅⟩)) fun _ _ h'=>h')) fun _ _ h'=>h'))
def AnE:TT:=fun _ H Q=>Q true H
inductive PIf (X:Cx):List Expr→TT→Prop where
 | nil:PIf X [] AnE
 | one {c:Expr} {t:TT} (h:PT X c t):PIf X [c] t
theorem PIf.run{X:Cx}{ifs:List Expr}{t:TT}(h:PIf X ifs t){pins:List (Addr × Obj)}{s:Shared}{σ:St}{H:Hp}{Q:Bool→Hp→Prop}(I:Inv X pins σ H s)(ht:t σ H Q) :
  wpAny (model X.prog X.w) X.A (forIn ifs true fun c r=>if r=true then do let ok ← isTrue c X.env (eval c X.env);pure (ForInStep.yield ok) else pure (ForInStep.yield r)) (TP X pins σ Q) X.xe s:=by
 cases h with
 | nil=>exact wpAny_tests_nil ⟨H,I,ht⟩
 | one h=>exact wpAny_tests_one (h pins s σ H Q I ht)
def Ah2 (Bh:List Nat)(tc:TT)(te:TE)(J:It)(σ:St)(H:Hp)(Q:VK):Prop :=
 ∃ W:Nat→Nat→List V→Hp→Prop,(∃ m,W 0 m [] H)∧∀ i m ys H,W i m ys H →
  (J.stop i H∧ys.length≤sizeLine∧∀ p,H p=none→Q (.ref p) (upd H p (.lst ys))) ∨
  (J.go i H∧ys.length<sizeLine∧∀ x H',J.yld i H x H'→tc (some x::MJ σ Bh) H' fun b H2 =>
   if b=true then te (some x::MJ σ Bh) H2 fun y H3=>∃ m',m'<m∧W (i+1) m' (ys++[y]) H3 else ∃ m',m'<m∧W (i+1) m' ys H2)
def Ax1 (wi:TI)(Bh:List Nat)(tc:TT)(te:TE):TE:=fun σ H Q=>wi σ H fun J H1=>Ah2 Bh tc te J σ H1 Q
section
variable {X:Cx}{pins:List (Addr × Obj)}{σ:St}{H:Hp}{s:Shared}
theorem Un.track{fs ex:List Addr}{H H':Hp}{h h':Heap}{a:Addr}{o:HO}(u:Un fs ex H H' h h')(ha:h.objs.size≤a)(hn:H' a=none):Un fs ex H (upd H' a o) h h' where
 keep:=u.keep
 slot:=u.slot
 free:=fun b ob q n hx=>by rw[Aw (A4b (A4k (Heap.lt_size q) ha))];exact u.free b ob q n hx
 there:=u.there
 tups:=fun b xs q=>by rw[Aw (Bw (u.tups b xs q) hn)];exact u.tups b xs q
 Aeg:=fun b ob xs q=>by rw[Aw (Bw (u.Aeg b ob xs q) hn)];exact u.Aeg b ob xs q
 Aht:=fun b ps q=>by
  obtain⟨m,e⟩:=u.Aht b ps q
  exact⟨m,by rw[Aw (Bw e hn)];exact e⟩
theorem HOk.track{P:Program}{w:World}{H:Hp}{h:Heap}{a:Addr}{o:HO}(x:HOk P w H h)(hn:H a=none)(new:KJ P w (upd H a o) h a o):HOk P w (upd H a o) h:=fun b u e=>by
 by_cases hb:b=a
 ·subst hb;rw[Ae] at e;cases e;exact new
 ·rw[Aw hb] at e
  exact(x b u e).stay (fun c v _ q=>q) (fun c q=>by rw[Aw (Bw q hn)];exact q) fun c xs q=>by rw[Aw (Bw q hn)];exact q
theorem Aw0{x:Str}{Nc:List Str}{Bh:List Nat}{scope:Scope}{cl:List (Str × Addr)}{C:Addr}{fp:List Addr}(I:Inv X pins σ H s)(O:Dp X x Nc Bh scope)
  (hcl:∀ x c,cl.lookup x=some c→X.env.cells.lookup x=some c∧(x,NameKind.free)∈scope.names) (Ah3:∀ x,(x,NameKind.free)∈scope.names→cl.lookup x=X.env.cells.lookup x)
  (hC:s.heap.objs.size≤C) (hfp:∀ b∈fp,XN X pins H b) (hfo:∀ b∈fp,b<s.heap.objs.size):(Jw X Nc scope cl C fp s H).Ok where
 mod:=I.ok.mod
 kind:=O.kind
 glob:=I.ok.glob
 blt:=I.ok.blt
 above:=hC
 inj:=fun a b c e1 e2=>I.ok.inj a b c (hcl a c e1).1 (hcl b c e2).1
 has:=fun y hy=>by
  have mem:(y,NameKind.free)∈scope.names:=by
   have hy':((relabel scope X.env).names.lookup y=some .cell)∨((relabel scope X.env).names.lookup y=some .free):=hy
   have hm:∃ k,(y,k)∈(relabel scope X.env).names∧(k=.cell∨k=.free):=by
    rcases hy' with h | h
    ·exact⟨_,PySem.mem_of_lookup h,.inl rfl⟩
    ·exact⟨_,PySem.mem_of_lookup h,.inr rfl⟩
   obtain⟨k,hm,hk⟩:=hm
   obtain⟨⟨n,k'⟩,hm',e⟩:=List.mem_map.mp hm
   dsimp only at e
   by_cases hc:(k' == NameKind.free && X.env.scope.kind == .function && X.env.kindOf n == some .cell)=true
   ·rw[if_pos hc] at e
    injection e with e1 _
    subst e1
    have:k'=.free:=by
     have:=(A4I _ _▸(A4I _ _▸hc).1).1
     simpa using this
    subst this
    exact hm'
   ·rw[if_neg hc] at e
    injection e with e1 e2
    subst e1 e2
    rcases hk with hk | hk
    ·subst hk;exact absurd rfl (O.cell _ hm')
    ·subst hk;exact hm'
  obtain⟨c,e⟩:=I.ok.has y (.inl (O.fr _ mem rfl).1)
  exact⟨c,(Ah3 y mem).trans e⟩
 cab:=fun _ _ z=>nomatch z
 hd:=I.ok.hd
 frames:=I.ok.frames
 stk:=.inl rfl
 exf:=fun b hb=>⟨A4b (A4k (hfo b hb) hC),fun y c e=>(hfp b hb).2.2.2.2.1 y c (hcl y c e).1⟩
 bs:=I.bs
 bsz:=A4q I.ok.bsz I.sz
 AoX:=fun b o e hb=>by
  rcases(hfp b hb).2.2.2.1 with z | z
  ·exact I.ok.AoX b o e z
  ·exact absurd (A4k (Heap.lt_size e) (A4q I.ok.bsz z)) (A4v _)
 AoY:=fun b hb z=>by
  rcases List.mem_cons.mp (I.An5 b z) with e | e
  ·exact(hfp b hb).2.1 e
  ·exact(hfp b hb).2.2.1 e
 Afa:=I.stack
 frf:=I.An6
end
open PySem PySem.Spec PyProof.Rows
section
variable {X:Cx}{pins:List (Addr × Obj)}{σ:St}{H:Hp}{s:Shared}
theorem Apl(σ:St)(Bh:List Nat):(MJ σ Bh).length=Bh.length:=by unfold MJ;rw[A3S]
theorem Apm{σ:St}{Bh:List Nat}{k:Nat}{v:V}(e:(MJ σ Bh)[k]?=some (some v)):∃ j,Bh[k]?=some j∧σ[j]?=some (some v):=by
 unfold MJ at e
 rw[A4e] at e
 cases hk:Bh[k]? with
 | none=>rw[hk] at e;cases e
 | some j =>
  rw[hk] at e
  have e':(σ[j]?).join=some v:=Option.some.inj e
  refine⟨j,rfl,?_⟩
  cases hj:σ[j]? with
  | none=>rw[hj] at e';cases e'
  | some o=>rw[hj] at e';rw[show o=some v from e']
theorem Un.but{fs ex:List Addr}{H H':Hp}{h h1 h2:Heap}{C:Addr}(u:Un fs ex H H' h h1)(hs:Heap.SameBut C h1 h2)(hC:h.objs.size≤C):Un fs ex H H' h h2 where
 keep:=fun b o q n hb hx=>(hs.2 b (A4b (A4k (Heap.lt_size q) hC))).trans (u.keep b o q n hb hx)
 slot:=fun b o q n hb hx=>by
  obtain⟨sl,e⟩:=u.slot b o q n hb hx
  exact⟨sl,(hs.2 b (A4b (A4k (Heap.lt_size q) hC))).trans e⟩
 free:=u.free
 there:=fun b o q hx=>by
  obtain⟨o',e⟩:=u.there b o q hx
  exact⟨o',(hs.2 b (A4b (A4k (Heap.lt_size q) hC))).trans e⟩
 tups:=u.tups
 Aeg:=u.Aeg
 Aht:=u.Aht
theorem AqQ{x:Str}{Nc:List Str}{Bh:List Nat}{scope:Scope}{cl:List (Str × Addr)}{C:Addr}{fp:List Addr}{h':Heap}{tk:Nat}{m0:Str→Option Value}(I:Inv X pins σ H s)(O:Dp X x Nc Bh scope)
  (hcl:∀ x c,cl.lookup x=some c→X.env.cells.lookup x=some c∧(x,NameKind.free)∈scope.names) (Ah3:∀ x,(x,NameKind.free)∈scope.names→cl.lookup x=X.env.cells.lookup x)
  (hC:s.heap.objs.size≤C) (hfp:∀ b∈fp,XN X pins H b) (hfo:∀ b∈fp,b<s.heap.objs.size)
  (old:∀ b o,s.heap.get? b=some o→h'.get? b=some o) (hns:h'.Ns C m0) :
  Inv (Jw X Nc scope cl C fp s H) [] (none::MJ σ Bh) H { s with heap:=h',toks:=tk } where
 ok:=Aw0 I O hcl Ah3 hC hfp hfo
 os:=rfl
 bare:=I.bare
 base:=Un.kept old
 loc:=by
  refine⟨m0,hns,fun i y v hN hσ hv=>?_⟩
  cases i with
  | zero=>simp at hσ
  | succ k =>
   rw[A5U] at hσ
   obtain⟨j,hj,hs⟩:=Apm hσ
   obtain⟨z,hz1,hz2,hz3⟩:=O.cap k j hj
   have hN':Nc[k+1]?=some y:=hN
   rw[hz1] at hN'
   cases hN'
   have mem:(y,NameKind.free)∈scope.names:=PySem.mem_of_lookup hz3
   have hk:=(O.fr _ mem rfl).1
   obtain⟨m,hn,hl⟩:=I.loc
   obtain⟨u,r,l⟩:=hl j y v hz2 hs (.inr (.inl hk))
   refine⟨u,r,?_⟩
   rcases l with ⟨k',_⟩ | ⟨_,c,hc,z⟩
   ·have k'':X.env.scope.names.lookup y=some .local:=k'
    rw[hk] at k'';cases k''
   ·obtain⟨o,ho,hd⟩:=z
    exact .inr ⟨.inl (KH I.ok.kind hz3 hk),c,(Ah3 y mem).trans hc,o,old _ _ ho,hd⟩
 cell:=fun y c e=>by
  obtain⟨v,o,ho,hd⟩:=I.cell y c (hcl y c e).1
  exact⟨v,o,old _ _ ho,hd⟩
 free:=I.hok.fresh hC
 Ux:=fun y c e=>I.Ux y c (hcl y c e).1
 pin:=fun p hp=>absurd (show p∈([]:List (Addr × Obj)) from hp) (by simp)
 hok:=I.hok.kept old
 len:=by
  show(none::MJ σ Bh).length=Nc.length
  rw[A3Z,Apl,O.len]
abbrev AaL (us:List Value) (n:Nat):Obj:={ cls:=.type "list", data:=.seq us.toArray n }
theorem Cu{X:Cx}{sc0 scope:Scope}(h:X.env.scope=sc0)(hd:∀ y∈scope.names,y.2=.free→sc0.names.lookup y.1=some .cell∧scope.names.lookup y.1=some .free) :
  ∀ y∈scope.names,y.2=.free→X.env.scope.names.lookup y.1=some .cell∧scope.names.lookup y.1=some .free:=by
 rw[h]
 exact hd
theorem Akb{x:Str}{px:Pos}{Nc:List Str}{Bh:List Nat}{scope:Scope}{cl:List (Str × Addr)}{iter elt:Expr}{ifs:List Expr}{pos:Pos}{tc:TT}{te:TE}{Q:VK}{it:Addr}{fp:List Addr}{tn:Nat→Heap→Prop}{J:It}
  {RR:Value→Addr→Result→Shared→Prop}{E:Value→Shared→Prop}
  (O:Dp X x Nc Bh scope) (hc:X.calm=true)
  (hcl:∀ x c,cl.lookup x=some c→X.env.cells.lookup x=some c∧(x,NameKind.free)∈scope.names) (Ah3:∀ x,(x,NameKind.free)∈scope.names→cl.lookup x=X.env.cells.lookup x)
  (hte:∀ C fp s H,PE (Jw X Nc scope cl C fp s H) elt te) (htc:∀ C fp s H,PIf (Jw X Nc scope cl C fp s H) ifs tc)
  (I:Inv X pins σ H s) (T:Turn X.prog X.w X.K (.Name x px) J fp it tn) (st:tn 0 s.heap) (hfp:∀ b∈fp,XN X pins H b) (h:Ah2 Bh tc te J σ H Q)
  (hRR:∀(D C:Addr) (s':Shared) (m:Str→Option Value),s'.heap.Ns C m→(∀ h',Heap.SameBut C s'.heap h'→∃ H',Inv X pins σ H' { s' with heap:=h' }∧H' C=none∧Q (.ref D) H') →
   s.heap.objs.size≤C→RR (.ref D) C (.ok .next) s') :
  wpAny (model X.prog X.w) X.A (newList []) (fun acc s₃=>wpAny (model X.prog X.w) X.A (newFunctionEnv scope X.env.globals cl [] X.env.qual none .none (some X.env)) (fun cenv s₄ =>
   codeAny (model X.prog X.w) X.A (.compStart (.ListComp elt [⟨.Name x px,iter,ifs,0⟩] scope pos) 0 (.ref it) acc { cenv with scope:=relabel scope X.env }) (RR acc cenv.locals) s₄) E s₃) E s:=by
 refine wpAny_newObj_type (wpAny_newFunctionEnv O.cell (by intro y hy;simp at hy) (fun h₁ hns₁ hsb₁=>?_) O.kind)
 dsimp only at hns₁ hsb₁ ⊢
 generalize hH2:s.heap.push { cls:=.type "list", dict:=none,data:=.seq ([]:List Value).toArray }=H2 at hns₁ hsb₁ ⊢
 have hC:H2.objs.size=s.heap.objs.size+1:=by rw[← hH2,Heap.size_push]
 have hCle:s.heap.objs.size≤H2.objs.size:=by rw[hC];exact A5g _
 have hDC:s.heap.objs.size≠H2.objs.size:=by rw[hC];exact A4b (A4Y _)
 have below:∀ b,b<s.heap.objs.size→b≠H2.objs.size∧b≠s.heap.objs.size:=fun b hb=>⟨by rw[hC];exact A4b (A4P hb),A4b hb⟩
 have old:∀ b o,s.heap.get? b=some o→h₁.get? b=some o:=fun b o e=>hsb₁.extBut b o (below b (Heap.lt_size e)).1 (Heap.get?_push_of_some _ (hH2▸Heap.get?_push_of_some _ e))
 have hacc:h₁.get? s.heap.objs.size=some (AaL [] 0):=hsb₁.extBut _ _ hDC (Heap.get?_push_of_some _ (hH2▸Heap.get?_push_size _ rfl))
 have hfo:∀ b∈fp,b<s.heap.objs.size:=fun b hb=>by
  obtain⟨o,e,_⟩:=T.obj _ _ st b hb
  exact Heap.lt_size e
 have st1:tn 0 h₁:=T.keep _ _ _ st fun b _ o e=>old b o e
 generalize hDD:s.heap.objs.size=D at *
 generalize hCC:H2.objs.size=C at *
 have Ayn:D≤C:=hCle
 let Y:Cx:=Jw X Nc scope cl C fp s H
 have I0:Inv Y [] (none::MJ σ Bh) H { s with heap:=h₁,toks:=s.toks+([]:List (Str × Value)).length }:=AqQ I O hcl Ah3 (by rw[hDD];exact hCle) hfp (fun b hb=>by rw[hDD];exact hfo b hb) old hns₁
 have Auy:H D=none:=by rw[← hDD];exact I.hok.fresh (A3U _)
 have AnF:D≠C:=hDC
 have Dfs:D∉Y.fs:=fun z=>by
  have:=I.stack.mem (show D∈frs X.stack from z)
  obtain⟨_,o,e,_⟩:=this
  have:=Heap.lt_size e
  rw[hDD] at this
  exact A4v _ this
 have Auz:∀ y c,Y.env.cells.lookup y=some c→c≠D:=fun y c e z=>by
  obtain⟨v,q⟩:=I.cell y c (hcl y c e).1
  have:=q.lt
  rw[z,hDD] at this
  exact A4v _ this
 have Dfp:∀ b∈fp,b≠D:=fun b hb=>A4b (hfo b hb)
 have fpY:∀{H':Hp},(∀ b∈fp,H' b=none)→∀ b∈fp,XN Y [] H' b:=fun hn b hb =>
  ⟨hn b hb,A4b (A4k (hfo b hb) Ayn),fun z=>I0.ok.AoY b hb z,.inl hb,fun y c e=>(I0.ok.exf b hb).2 y c e,fun p hp=>absurd (show p∈([]:List (Addr × Obj)) from hp) (by simp)⟩
 obtain⟨W,⟨m0,w0⟩,turn⟩:=h
 have loop:∀ s₃:Shared,s₃={ s with heap:=h₁,toks:=s.toks+([]:List (Str × Value)).length } →
   codeAny (model X.prog X.w) X.A (.compLoop (.ListComp elt [⟨.Name x px,iter,ifs,0⟩] scope pos) 0 (.ref it) (.ref D) (compEnvC scope cl C X.env)) (RR (.ref D) C) s₃:=by
  rintro s₃ rfl
  refine Afl (fun n s'=>∃(i:Nat) (o:Option V) (H':Hp) (ys:List V) (us:List Value) (k:Nat),Inv Y [] (o::MJ σ Bh) H' s'∧tn i s'.heap∧(∀ b∈fp,H' b=none)∧s'.heap.get? D=some (AaL us k)∧H' D=none∧Vals ys us∧W i n ys H')
   ?_ m0 ⟨0,none,H,[],[],0,I0,st1,fun b hb=>(hfp b hb).1,hacc,Auy,.nil,w0⟩
  rintro n s3 ⟨i,o3,H3,ys,us,k,I3,st3,fr3,hD3,nD3,rv,w3⟩
  have fpP:∀{H':Hp} {ob:Obj},(∀ b∈fp,H' b=none)→∀ b∈fp,XN Y [(D,ob)] H' b:=fun hn b hb=>by
   obtain⟨g0,g1,g2,g3,g4,_⟩:=fpY hn b hb
   refine⟨g0,g1,g2,g3,g4,fun p hp=>?_⟩
   have e:p=(D,_):=List.mem_singleton.mp (show p∈[(D,_)] from hp)
   rw[e]
   exact Ne.symm (Dfp b hb)
  have IP:Inv Y [(D,AaL us k)] (o3::MJ σ Bh) H3 s3:=I3.Uy fun p hp=>by
   have e:p=(D,AaL us k):=List.mem_singleton.mp hp
   subst e
   exact⟨hD3,nD3,AnF,Dfs,fun v z=>by cases z⟩
  have AqR:∀{σ':St} {H':Hp} {s':Shared} {pl:List (Addr × Obj)},Inv Y ([(D,AaL us k)]++pl) σ' H' s'→s'.heap.get? D=some (AaL us k)∧H' D=none:=fun I'=>by
   have z:=I'.pin (D,AaL us k) (A4t _ (A4S _ A3V))
   exact⟨z.1,z.2.1⟩
  rcases turn i n ys H3 w3 with ⟨stop,hlen,fin⟩ | ⟨go,hlen,step⟩
  ·
   refine wpAny_mono (T.done Y rfl rfl rfl hc i _ s3 _ H3 (fun _ _=>False) IP (fpP fr3) st3 stop) (fun r s4 hr=>?_) fun _ _ z=>z.elim
   obtain⟨hr,I4⟩:=hr
   subst hr
   obtain⟨gD,nD⟩:=AqR (pl:=[]) (by simpa using I4)
   obtain⟨m,hn,_⟩:=I4.loc
   refine hRR D C s4 m hn (fun h' hs'=>⟨upd H3 D (.lst ys),?_,(Aw (Ne.symm AnF)).trans I4.free,fin D nD⟩) hCle
   have nt:∀ b ob,H3 b=some ob→b≠C:=fun b ob e z=>by
    have:=I4.free
    rw[z] at e
    rw[show H3 C=none from this] at e
    cases e
   have u1:Un (frs X.stack) fp H H3 s.heap h':=Un.but I4.base hs' (show s.heap.objs.size≤C by rw[hDD];exact hCle)
   have ok1:HOk X.prog X.w H3 h':=fun b ob e=>(I4.hok b ob e).stay (fun c v hc q=>(hs'.2 c (by
    rcases hc with z | z
    ·rw[z];exact nt b ob e
    ·exact nt c _ z)).trans q) (fun _ q=>q) fun _ _ q=>q
   have gD':h'.get? D=some (AaL us k):=(hs'.2 D AnF).trans gD
   exact I.call' (s':={ s4 with heap:=h' }) (ch:=fp) I4.os (u1.track (A5q hDD) nD) (ok1.track nD ⟨hlen,us,k,rv,gD'⟩) I4.bare fun b hb=>by
    obtain⟨_,g1,_,g3,g4,g5⟩:=hfp b hb
    exact⟨g3,g1,g4,g5⟩
  ·
   refine wpAny_mono (T.item Y rfl rfl rfl hc i _ s3 _ H3 (fun _ _=>False) IP (fpP fr3) st3 go) (fun r s4 hr=>?_) fun _ _ z=>z.elim
   obtain⟨u0,hr,h4⟩:=hr
   subst hr
   refine wpAny_mono h4 (fun _ s5 h5=>?_) fun _ _ z=>z.elim
   obtain⟨x5,H5,I5,r5,y5,st5,fr5⟩:=h5
   have I5':=I5.pinned (fpP fr5) (T.obj _ _ st5)
   have tgt:PG Y (.Name x px) (Afc 0):=Dd (i:=0) O.nd O.hd (.inl (GJ I.ok.kind O.loc (by intro z;cases z))) (.inr (GJ I.ok.kind O.loc (by intro z;cases z)))
   refine wpAny_mono (tgt _ s5 _ H5 x5 u0 (fun σ2 H2=>σ2=some x5::MJ σ Bh∧H2=H5) I5' r5 ⟨rfl,rfl⟩) (fun _ s6 h6=>?_) fun _ _ z=>z.elim
   obtain⟨_,_,I6,rfl,rfl⟩:=h6
   refine wpAny_mono ((htc C fp s H).run I6 (step x5 _ y5)) (fun b s7 h7=>?_) fun _ _ z=>z.elim
   obtain⟨H7,I7,q7⟩:=h7
   have Apn:∀{σ':St} {H':Hp} {s':Shared},Inv Y ([(D,AaL us k)]++Ahw fp s5.heap) σ' H' s'→tn (i+1) s'.heap∧∀ b∈fp,H' b=none:=fun I' =>
    ⟨T.keep _ _ _ st5 fun b hb o e=>(I'.pin (b,o) (A4t _ (A4t _ (Ol hb e)))).1,fun b hb=>by
     obtain⟨o,e,d⟩:=T.obj _ _ st5 b hb
     exact(I'.pin (b,o) (A4t _ (A4t _ (Ol hb e)))).2.1⟩
   cases b with
   | false =>
    rw[if_neg A4g] at q7
    rw[if_neg A4g]
    obtain⟨m',hm,w7⟩:=q7
    obtain⟨gD,nD⟩:=AqR I7
    obtain⟨k1,k2⟩:=Apn I7
    exact⟨m',hm,i+1,some x5,H7,ys,us,k,I7.Uy (fun p hp=>nomatch hp),k1,k2,gD,nD,rv,w7⟩
   | true =>
    rw[if_pos rfl] at q7
    rw[if_pos rfl]
    refine wpAny_mono (hte C fp s H _ s7 _ H7 _ I7 q7) (fun u8 s8 h8=>?_) fun _ _ z=>z.elim
    obtain⟨y8,H8,I8,r8,m',hm,w8⟩:=h8
    obtain⟨gD,nD⟩:=AqR I8
    obtain⟨k1,k2⟩:=Apn I8
    refine call_meets F.slot_list_append ⟨_,gD,rfl⟩ F.entry_list_append (F.args_list_append_2 _ _) (PySem.list_append D us.toArray k u8 (by rw[A4a,← rv.length];omega)) ⟨gD,?_⟩
    have q:=PySem.IsL.update gD (·.push u8)
    have e1:us.toArray.push u8=(us++[u8]).toArray:=by simp
    rw[e1] at q
    have I8':Inv Y [] (some x5::MJ σ Bh) H8 s8:=I8.Uy (fun p hp=>nomatch hp)
    have I9:Inv Y [] (some x5::MJ σ Bh) H8 { s8 with heap:=s8.heap.update D (Obj.mapSeq (·.push u8)),toks:=s8.toks } :=
     I8'.turned (it:=D) (fun b o hb e=>(Heap.get?_update_other s8.heap (Obj.mapSeq (·.push u8)) (Ne.symm hb)).trans e) nD AnF (.inr (A5q hDD)) Auz (fun p hp=>nomatch hp)
    refine⟨m',hm,i+1,some x5,H8,ys++[y8],us++[u8],_,I9,T.keep _ _ _ k1 fun b hb o e=>(Heap.get?_update_other s8.heap (Obj.mapSeq (·.push u8)) (Ne.symm (Dfp b hb))).trans e,k2,q,nD,rv.append (.cons r8 .nil),w8⟩
 exact codeAny_compStart_list (loop _ rfl) (T.self X.A 0 _ _ _ st1 (loop _ rfl))
theorem Gk{x:Str}{px pos:Pos}{Nc:List Str}{Bh:List Nat}{scope:Scope}{iter elt:Expr}{ifs:List Expr}{wi:TI}{tc:TT}{te:TE}(O:Dp X x Nc Bh scope)(hc:X.calm=true)(hi:PI X (.Name x px) iter wi)
  (htc:∀ cl C fp s H,PIf (Jw X Nc scope cl C fp s H) ifs tc) (hte:∀ cl C fp s H,PE (Jw X Nc scope cl C fp s H) elt te) (hs:∀ x,foldedSetIterable iter X.env x=pure x:=by intro _;rfl) :
  PE X (.ListComp elt [⟨.Name x px,iter,ifs,0⟩] scope pos) (Ax1 wi Bh tc te):=by
 intro pins s σ H Q I h
 rw[eval_ListComp]
 obtain⟨cl,e1,e2,e3⟩:=Aei (scope:=scope) (env:=X.env) fun y hy hf=>I.ok.has y.1 (.inl (O.fr y hy hf).1)
 refine wpAny_comprehension_free (use:=none) rfl hs e1 O.kind O.names (thn (hi pins s σ H _ I h) fun v s1 h1=>thn h1 fun itv s2 h2=>?_)
 obtain⟨it,fp,tn,J,H2,e,I2,T,st2,f2,w2⟩:=h2
 subst e
 refine Akb (RR:=fun acc C=>compPost (model X.prog X.w) X.A X.xe none (EP X pins σ Q) acc C) O hc e2 e3 (hte cl) (htc cl) I2 T st2 f2 w2 ?_
 intro D C s' m hn hq hC
 refine⟨m,hn,fun h' hs'=>?_⟩
 obtain⟨H',I',_,q⟩:=hq h' hs'
 exact⟨.ref D,H',I',rfl,q⟩
theorem Uz{i:Nat}{y x:Str}{px py pos spos:Pos}{Nc:List Str}{Bh:List Nat}{scope:Scope}{iter elt:Expr}{ifs:List Expr}{wi:TI}{tc:TT}{te:TE}(O:Dp X x Nc Bh scope)(hc:X.calm=true)
  (hN:X.N.Nodup) (hy:X.N[i]?=some y) (hx:X.env.scope.names.lookup y=some .local) (hi:PI X (.Name x px) iter wi)
  (htc:∀ cl C fp s H,PIf (Jw X Nc scope cl C fp s H) ifs tc) (hte:∀ cl C fp s H,PE (Jw X Nc scope cl C fp s H) elt te)
  (hsw:swapsWith (.ListComp elt [⟨.Name x px,iter,ifs,0⟩] scope pos) (some (.Name y py)) spos.line X.env=pure true) (hs:∀ x,foldedSetIterable iter X.env x=pure x:=by intro _;rfl) :
  PS X (.Assign [.Name y py] (.ListComp elt [⟨.Name x px,iter,ifs,0⟩] scope pos) spos) (AxT (Ax1 wi Bh tc te) (Afc i)):=by
 intro pins s σ H Dn I h
 rw[exec_Assign_Name_used _ _ _ _ hsw]
 refine wpAny_bind (wpAny_standAt (wpAny_bind ?_))
 obtain⟨cl,e1,e2,e3⟩:=Aei (scope:=scope) (env:=X.env) fun y hy hf=>I.ok.has y.1 (.inl (O.fr y hy hf).1)
 show wpAny _ X.A (do let _ ← comprehension (.ListComp elt [⟨.Name x px,iter,ifs,0⟩] scope pos) scope X.env _ (newList []) false (eval iter X.env) (some (assign (.Name y py) X.env))) _ _ s
 refine wpAny_bind (wpAny_mono (wpAny_comprehension_free (use:=some (assign (.Name y py) X.env)) (Q:=fun _ s'=>SP X pins Dn .next s') rfl hs e1 O.kind O.names
  (thn (hi pins s σ H _ I h) fun v s1 h1=>thn h1 fun itv s2 h2=>?_)) (fun _ s' hq=>wpAny_pure (wpAny_pure hq)) fun _ _ e=>e)
 obtain⟨it,fp,tn,J,H2,e,I2,T,st2,f2,w2⟩:=h2
 subst e
 refine Akb (RR:=fun acc C=>compPost (model X.prog X.w) X.A X.xe (some (assign (.Name y py) X.env)) (fun _ s'=>SP X pins Dn .next s') acc C) O hc e2 e3 (hte cl) (htc cl) I2 T st2 f2 w2 ?_
 intro D C s' m hn hq hC
 show wpAny _ X.A (assign (.Name y py) X.env (.ref D)) _ _ _
 obtain⟨H',I',nC,q⟩:=hq s'.heap (.refl ..)
 have I'':Inv X pins σ H' s':=I'
 have CL:C≠X.env.locals:=A4y (A4k I2.lt hC)
 have Ax2:∀ y c,X.env.cells.lookup y=some c→c≠C:=fun y c e z=>by
  obtain⟨v,q⟩:=I2.cell y c e
  have:=A4k q.lt hC
  rw[z] at this
  exact A4v _ this
 refine wpAny_assign_Name (AmU I'' hN hy (.inl hx) (show RelV (.ref D) (.ref D) from rfl) (fun s3 I3 hsb=>?_) (.inr hx))
 obtain⟨a,hsb,ha⟩:=hsb
 have aC:C≠a:=by
  rcases ha with z | z
  ·rw[z];exact CL
  ·exact Ne.symm (Ax2 _ _ z)
 refine⟨m,hn.sameBut hsb aC,fun h4 hs4=>?_⟩
 refine⟨_,H',I3.turned (it:=C) (t':=s3.toks) (fun b o hb e=>(hs4.2 b hb).trans e) nC CL (.inr (A4q I2.sz hC)) Ax2 (fun p hp z=>?_),q⟩
 ·have:=A4k (Heap.lt_size (I2.pin p hp).1) hC
  rw[z] at this
  exact A4v _ this
end
open PySem PySem.Spec PyProof.Rows
def Its (x:Str):It:=⟨fun i _=>i<x.cps.size,fun i H v H'=>H'=H∧∃ c,x.cps[i]?=some c∧v=.str ⟨#[c]⟩,fun i _=>x.cps.size≤i⟩
theorem Atd{P:Program}{w:World}{K:PySem.W.Frag}{tg:Expr}(it:Addr)(x:Str)(t:Tok):Turn P w K tg (Its x) [it] it (fun i h=>i≤x.cps.size∧h.IsStrIter it "str_ascii_iterator" x t i) where
 mem:=by simp
 obj:=fun i h st b hb=>by
  have e:b=it:=by simpa using hb
  subst e
  obtain⟨_,o,e,c,d⟩:=st
  exact⟨o,e,fun v z=>by rw[d] at z;cases z⟩
 keep:=fun i h h' st k=>by
  obtain⟨hl,o,e,c,d⟩:=st
  exact⟨hl,o,k it (by simp) o e,c,d⟩
 item:=by
  intro X hP hw hK hc i pins s σ H E I hf st hg
  subst hP hw hK
  obtain⟨hl,st⟩:=st
  have hg:i<x.cps.size:=hg
  obtain⟨f0,f1,f2,f3,f4,f5⟩:=hf it (by simp)
  have hx:x.cps[i]?=some x.cps[i]:=by simp[hg]
  refine wpAny_pyNext_ascii_item st hx fun h' st' sb=>?_
  have I1:Inv X pins σ H { s with heap:=h',toks:=s.toks+1 }:=I.turned (fun b o hb e=>(sb.2 b hb).trans e) f0 f1 f3 f4 f5
  obtain⟨o,e,c,d⟩:=id st'
  exact⟨_,rfl,Apa (s:={ s with heap:=h',toks:=s.toks+1 }) e c d (by decide) ⟨.str ⟨#[x.cps[i]]⟩,H,I1,⟨_,rfl⟩,⟨rfl,_,hx,rfl⟩,⟨hg,st'⟩,fun b hb=>(hf b hb).1⟩⟩
 done:=by
  intro X hP hw hK hc i pins s σ H E I hf st hg
  subst hP hw hK
  obtain⟨hl,st⟩:=st
  have hg:x.cps.size≤i:=hg
  obtain⟨f0,f1,f2,f3,f4,f5⟩:=hf it (by simp)
  exact wpAny_pyNext_ascii_end (I.ok.hd hc) st (by simp;omega) fun h' eb=>⟨rfl,I.turned (t':=s.toks) (fun b o hb e=>eb b o hb e) f0 f1 f3 f4 f5⟩
 self:=fun _ _ _ _ _ st h=>wpAny_pyIter_striter_ascii st.2 h
theorem Ate{P:Program}{w:World}{K:PySem.W.Frag}{tg:Expr}(it:Addr)(x:Str)(t:Tok):Turn P w K tg (Its x) [it] it (fun i h=>i≤x.cps.size∧h.IsStrIter it "str_iterator" x t i) where
 mem:=by simp
 obj:=fun i h st b hb=>by
  have e:b=it:=by simpa using hb
  subst e
  obtain⟨_,o,e,c,d⟩:=st
  exact⟨o,e,fun v z=>by rw[d] at z;cases z⟩
 keep:=fun i h h' st k=>by
  obtain⟨hl,o,e,c,d⟩:=st
  exact⟨hl,o,k it (by simp) o e,c,d⟩
 item:=by
  intro X hP hw hK hc i pins s σ H E I hf st hg
  subst hP hw hK
  obtain⟨hl,st⟩:=st
  have hg:i<x.cps.size:=hg
  obtain⟨f0,f1,f2,f3,f4,f5⟩:=hf it (by simp)
  have hx:x.cps[i]?=some x.cps[i]:=by simp[hg]
  refine wpAny_pyNext_wide_item st hx fun h' st' sb=>?_
  have I1:Inv X pins σ H { s with heap:=h',toks:=s.toks+1 }:=I.turned (fun b o hb e=>(sb.2 b hb).trans e) f0 f1 f3 f4 f5
  obtain⟨o,e,c,d⟩:=id st'
  exact⟨_,rfl,Apa (s:={ s with heap:=h',toks:=s.toks+1 }) e c d (by decide) ⟨.str ⟨#[x.cps[i]]⟩,H,I1,⟨_,rfl⟩,⟨rfl,_,hx,rfl⟩,⟨hg,st'⟩,fun b hb=>(hf b hb).1⟩⟩
 done:=by
  intro X hP hw hK hc i pins s σ H E I hf st hg
  subst hP hw hK
  obtain⟨hl,st⟩:=st
  have hg:x.cps.size≤i:=hg
  obtain⟨f0,f1,f2,f3,f4,f5⟩:=hf it (by simp)
  exact wpAny_pyNext_wide_end (I.ok.hd hc) st (by simp;omega) fun h' eb=>⟨rfl,I.turned (t':=s.toks) (fun b o hb e=>eb b o hb e) f0 f1 f3 f4 f5⟩
 self:=fun _ _ _ _ _ st h=>wpAny_pyIter_striter_wide st.2 h
section
variable {X:Cx}{tg:Expr}
def A2b (tl:TE):TI:=fun σ H R=>tl σ H fun x H1=>∃ z,x=.str z∧R (Its z) H1
theorem AqS{l:Expr}{tl:TE}(hl:PE X l tl):PI X tg l (A2b tl):=by
 intro pins s σ H R I h
 refine thn (hl pins s σ H _ I h) fun v s1 ⟨x,H1,I1,r1,q1⟩=>?_
 obtain⟨z,e,q⟩:=q1
 subst e
 obtain⟨t,rfl⟩:=r1
 have fpn:∀ b∈[s1.heap.objs.size],XN X pins H1 b:=fun b hb=>by
  have e:b=s1.heap.objs.size:=by simpa using hb
  subst e
  exact I1.AsR (A3U _) (I1.hok.fresh (A3U _))
 cases ha:z.cps.all (·<128)
 ·refine wpAny_pyIter_wide ha ?_
  exact⟨s1.heap.objs.size,[s1.heap.objs.size],_,_,H1,rfl,I1.kept (t':=s1.toks) fun b o e=>Heap.get?_push_of_some _ e,Ate _ z t,⟨A4f _,_,Heap.get?_push_size _ rfl,rfl,rfl⟩,fpn,q⟩
 ·refine wpAny_pyIter_ascii ha ?_
  exact⟨s1.heap.objs.size,[s1.heap.objs.size],_,_,H1,rfl,I1.kept (t':=s1.toks) fun b o e=>Heap.get?_push_of_some _ e,Atd _ z t,⟨A4f _,_,Heap.get?_push_size _ rfl,rfl,rfl⟩,fpn,q⟩
end
theorem Aw1{z:Str}{g:TG}{tb:TS}{D:Ends}{σ:St}{H:Hp}(Pv:Nat→St→Hp→Prop)(h0:Pv 0 σ H)
  (hs:∀ i c σ H,z.cps[i]?=some c→Pv i σ H→g (.str ⟨#[c]⟩) σ H fun σ2 H2=>tb { D with nx:=Pv (i+1),ct:=Pv (i+1),bk:=D.nx } σ2 H2) (hd:∀ σ H,Pv z.cps.size σ H→D.nx σ H) :
  ∃ W:Nat→Nat→St→Hp→Prop,(∃ m,W 0 m σ H)∧∀ i m σ H,W i m σ H →
   ((Its z).stop i H∧D.nx σ H)∨((Its z).go i H∧∃ N:St→Hp→Prop,(∀ σ' H',N σ' H'→∃ m',m'<m∧W (i+1) m' σ' H')∧∀ x H',(Its z).yld i H x H'→g x σ H' fun σ2 H2=>tb { D with nx:=N,ct:=N,bk:=D.nx } σ2 H2):=by
 refine⟨fun i m σ H=>m=z.cps.size-i∧i≤z.cps.size∧Pv i σ H,⟨z.cps.size,by simp,A4f _,h0⟩,?_⟩
 rintro i m σ H ⟨rfl,hi,p⟩
 by_cases hlt:i<z.cps.size
 ·refine .inr ⟨hlt,Pv (i+1),fun σ' H' p'=>⟨z.cps.size-(i+1),by omega,rfl,hlt,p'⟩,fun x H' y=>?_⟩
  obtain⟨e,c,hc,rfl⟩:=y
  subst e
  exact hs i c σ _ hc p
 ·have e:i=z.cps.size:=by omega
  subst e
  exact .inl ⟨A3U _,hd σ H p⟩
def CN (n:Nat)(Pv:Nat→List V→Hp→Prop)(i:Nat)(ys:List V)(H:Hp):Prop:=∃ m',m'<n-i∧m'=n-(i+1)∧i+1≤n∧Pv (i+1) ys H
theorem CN.of{n:Nat}{Pv:Nat→List V→Hp→Prop}{i:Nat}{ys:List V}{H:Hp}(h:i<n)(p:Pv (i+1) ys H):CN n Pv i ys H:=⟨n-(i+1),by omega,rfl,h,p⟩
def FN (n:Nat)(Pv:Nat→List V→Hp→Prop)(tc:TT)(te:TE)(σ:St)(i:Nat)(ys:List V)(H:Hp):Prop :=
 tc σ H fun b H2=>if b=true then te σ H2 fun y H3=>CN n Pv i (ys++[y]) H3 else CN n Pv i ys H2
theorem FN.no{n:Nat}{Pv:Nat→List V→Hp→Prop}{te:TE}{σ:St}{i:Nat}{ys:List V}{H:Hp}(h:te σ H fun y H3=>CN n Pv i (ys++[y]) H3):FN n Pv AnE te σ i ys H:=by
 unfold FN AnE
 exact Ah1 h
theorem De{K:PySem.W.Frag}{a:Addr}{xs:List V}{Bh:List Nat}{tc:TT}{te:TE}{σ:St}{H:Hp}{Q:VK}(Pv:Nat→List V→Hp→Prop)(h0:Pv 0 [] H)(hl:∀ i ys H,i≤xs.length→Pv i ys H→SqL K H a xs∧ys.length≤i)
  (hz:xs.length≤sizeLine) (hs:∀ i x ys H,i<xs.length→xs[i]?=some x→Pv i ys H→FN xs.length Pv tc te (some x::MJ σ Bh) i ys H)
  (hd:∀ ys H p,Pv xs.length ys H→H p=none→Q (.ref p) (upd H p (.lst ys))):Ah2 Bh tc te (Itl K a) σ H Q:=by
 refine⟨fun i m ys H=>m=xs.length-i∧i≤xs.length∧Pv i ys H,⟨xs.length,by simp,A4f _,h0⟩,?_⟩
 rintro i m ys H ⟨rfl,hi,p⟩
 obtain⟨q,hy⟩:=hl i ys H hi p
 by_cases hlt:i<xs.length
 ·refine .inr ⟨⟨xs,xs[i],q,by simp[hlt]⟩,by omega,fun x H' y=>?_⟩
  obtain⟨e,y⟩:=y
  subst e
  exact hs i x ys _ hlt (y xs q) p
 ·have e:i=xs.length:=by omega
  subst e
  exact .inl ⟨⟨xs,q,A3U _⟩,by omega,fun p' hp=>hd ys H p' p hp⟩
theorem Ti{lo:Int}{n:Nat}{Bh:List Nat}{tc:TT}{te:TE}{σ:St}{H:Hp}{Q:VK}(Pv:Nat→List V→Hp→Prop)(h0:Pv 0 [] H)(hl:∀ i ys H,i≤n→Pv i ys H→ys.length≤i)
  (hz:n≤sizeLine) (hs:∀ i ys H,i<n→Pv i ys H→FN n Pv tc te (some (.int (lo+i))::MJ σ Bh) i ys H)
  (hd:∀ ys H p,Pv n ys H→H p=none→Q (.ref p) (upd H p (.lst ys))):Ah2 Bh tc te (Itr lo n) σ H Q:=by
 refine⟨fun i m ys H=>m=n-i∧i≤n∧Pv i ys H,⟨n,by simp,A4f _,h0⟩,?_⟩
 rintro i m ys H ⟨rfl,hi,p⟩
 have hy:=hl i ys H hi p
 by_cases hlt:i<n
 ·refine .inr ⟨hlt,by omega,fun x H' y=>?_⟩
  obtain⟨e,y⟩:=y
  subst e y
  exact hs i ys _ hlt p
 ·have e:i=n:=by omega
  subst e
  exact .inl ⟨A3U _,by omega,fun p' hp=>hd ys H p' p hp⟩
theorem Apo{z:Str}{Bh:List Nat}{tc:TT}{te:TE}{σ:St}{H:Hp}{Q:VK}(Pv:Nat→List V→Hp→Prop)(h0:Pv 0 [] H)(hl:∀ i ys H,i≤z.cps.size→Pv i ys H→ys.length≤i)
  (hz:z.cps.size≤sizeLine) (hs:∀ i c ys H,i<z.cps.size→z.cps[i]?=some c→Pv i ys H→FN z.cps.size Pv tc te (some (.str ⟨#[c]⟩)::MJ σ Bh) i ys H)
  (hd:∀ ys H p,Pv z.cps.size ys H→H p=none→Q (.ref p) (upd H p (.lst ys))):Ah2 Bh tc te (Its z) σ H Q:=by
 refine⟨fun i m ys H=>m=z.cps.size-i∧i≤z.cps.size∧Pv i ys H,⟨z.cps.size,by simp,A4f _,h0⟩,?_⟩
 rintro i m ys H ⟨rfl,hi,p⟩
 have hy:=hl i ys H hi p
 by_cases hlt:i<z.cps.size
 ·refine .inr ⟨hlt,by omega,fun x H' y=>?_⟩
  obtain⟨e,c,hc,rfl⟩:=y
  subst e
  exact hs i c ys _ hlt hc p
 ·have e:i=z.cps.size:=by omega
  subst e
  exact .inl ⟨A3U _,by omega,fun p' hp=>hd ys H p' p hp⟩
theorem AqT{ys:List Str}:∀{us:List Value},Vals (ys.map V.str) us→StrsAre us ys:=by
 induction ys with
 | nil=>intro us r;rw[A4T] at r;cases r;exact .nil
 | cons n ns ih =>
  intro us r
  rw[A3X] at r
  cases r with
  | cons r1 r2 =>
   obtain⟨t,e⟩:=r1
   subst e
   exact .cons n t (ih r2)
def rJoin(K:PySem.W.Frag):V→List V→Hp→VK→Prop:=fun x vs H Q=>∃ z a ys,x=.str z∧vs=[.ref a]∧SqL K H a (ys.map V.str)∧(ys.map (·.length)).sum+ys.length*z.length≤16777216∧Q (.str (Txt.join z ys)) H
section
variable {X:Cx}
theorem Aw2:MtR X "str.join" (rJoin X.K):=by
 intro pins s σ H x vs v us Q I rx rv h
 obtain⟨z,a,ys,rfl,rfl,hq,hz,q⟩:=h
 obtain⟨t,rfl⟩:=rx
 obtain⟨u,rfl,ru⟩:=rv.one
 cases ru
 obtain⟨its,r,pl,hl⟩:=I.list hq
 exact join_list pl.isList (AqT (by simpa using r)) hz fun t' k=>⟨.str _,H,I.tok _,⟨_,rfl⟩,q⟩
def AzW (K:PySem.W.Frag):List V→Hp→VK→Prop:=fun vs H Q=>∃ x t b,Ahy K H x t ∧
 ((∃ n,vs=[x,.ty n]∧PySem.W.kitOne K t (.type n)=some b)∨(∃ a,vs=[x,.ref a]∧PySem.W.kitOne K t (.ref a)=some b))∧Q (.bl b) H
theorem Au0:Oj X (.builtin "isinstance") (AzW X.K):=by
 intro pins s σ H xs us Q I rv h
 obtain⟨x,t,b,ty,hv,q⟩:=h
 rcases hv with ⟨n,rfl,e⟩ | ⟨a,rfl,e⟩
 ·obtain⟨u1,u2,rfl,r1,r2⟩:=rv.two
  cases r2
  exact AmW I r1 ty e fun tk=>⟨.bl b,H,I.tok _,rfl,q⟩
 ·obtain⟨u1,u2,rfl,r1,r2⟩:=rv.two
  cases r2
  exact AmW I r1 ty e fun tk=>⟨.bl b,H,I.tok _,rfl,q⟩
def eqL:List V→List V→Bool
 | [],[]=>true
 | x::xs,y::ys=>eqV x y && eqL xs ys
 | _,_=>false
theorem Akc{x:V}(h:Gp x=true):eqV x x=true:=by
 cases x with
 | non=>rfl
 | bl b=>simp[eqV]
 | int i=>simp[eqV]
 | str z=>simp[eqV]
 | _=>exact absurd (show false=true from h) A4g
theorem Akd:∀{xs:List V},xs.all Gp=true→eqL xs xs=true
 | [],_=>rfl
 | x::xs,h=>by
  rw[A5P,A4I] at h
  rw[eqL,Akc h.1,Akd h.2]
  rfl
theorem AjD:∀{xs ys:List V},xs.length≠ys.length→eqL xs ys=false
 | [],[],h=>absurd rfl h
 | [],_::_,_=>rfl
 | _::_,[],_=>rfl
 | x::xs,y::ys,h=>by
  rw[eqL,AjD (xs:=xs) (ys:=ys) (fun z=>h (by rw[A3Z,A3Z,z])),A5S]
theorem AcE:∀{xs ys:List V},xs.length=ys.length→(List.range xs.length).all (fun j=>eqV (xs.getD j .non) (ys.getD j .non))=eqL xs ys
 | [],[],_=>rfl
 | [],_::_,h=>by simp at h
 | _::_,[],h=>by simp at h
 | x::xs,y::ys,h=>by
  have h':xs.length=ys.length:=by simpa using h
  rw[A3Z,List.range_succ_eq_map,A5P,A5V]
  rw[eqL,← AcE h']
  rfl
def AzX (K:PySem.W.Frag):R2:=fun x y H Q=>∃ p q xs ys,x=.ref p∧y=.ref q∧SqL K H p xs∧SqL K H q ys∧xs.all Gp=true∧ys.all Gp=true∧Q (.bl (eqL xs ys)) H
theorem Ayo(hu:X.A.units<cLine):OpR X (compareOp .Eq) (AzX X.K):=by
 intro pins s σ H x y v u Q I rx ry h
 obtain⟨p,q,xs,ys,rfl,rfl,hx,hy,fx,fy,k⟩:=h
 cases rx
 cases ry
 obtain⟨its,r,pl,hz⟩:=I.list hx
 obtain⟨its2,r2,pl2,hz2⟩:=I.list hy
 have l1:=r.length
 have l2:=r2.length
 by_cases hl:xs.length=ys.length
 ·refine SeqAt.eq_listAt (e:=fun j=>eqV (xs.getD j .non) (ys.getD j .non)) pl.isList pl2.isList (by simp only [A4a];omega) hu (fun j h1 h2=>?_) ?_
  ·have j1:j<xs.length:=by simp only [A4a] at h1;omega
   have j2:j<ys.length:=by omega
   obtain⟨w1,e1,q1⟩:=r.get (i:=j) (x:=xs[j]) (by simp[j1])
   obtain⟨w2,e2,q2⟩:=r2.get (i:=j) (x:=ys[j]) (by simp[j2])
   have g1:its.toArray[j]=w1:=by
    have:its.toArray[j]?=some w1:=by simpa using e1
    exact Option.some.inj ((Array.getElem?_eq_getElem h1).symm.trans this)
   have g2:its2.toArray[j]=w2:=by
    have:its2.toArray[j]?=some w2:=by simpa using e2
    exact Option.some.inj ((Array.getElem?_eq_getElem h2).symm.trans this)
   rw[g1,g2]
   have d1:xs.getD j .non=xs[j]:=by simp[List.getD,j1]
   have d2:ys.getD j .non=ys[j]:=by simp[List.getD,j2]
   show SeqAt.EqAt _ _ _ _ (eqV (xs.getD j .non) (ys.getD j .non))
   rw[d1,d2]
   exact Aka q1 q2 (List.all_eq_true.mp fx _ (A4j j1)) (List.all_eq_true.mp fy _ (A4j j2))
  ·refine⟨.bl (eqL xs ys),H,I,?_,k⟩
   show Value.bool _=Value.bool _
   rw[A4a,← l1,AcE hl]
 ·refine SeqAt.eq_list_lengthsAt pl.isList pl2.isList (by simp only [A4a,bne_iff_ne];omega) hu ?_
  exact⟨.bl (eqL xs ys),H,I,by rw[AjD hl];rfl,k⟩
end
open PySem
def tx (l:List Nat):Str:=⟨l.toArray⟩
theorem Bf(l:List Nat):(tx l).length=l.length:=by simp[tx,Str.length]
theorem AjE(l:List Nat):(tx l).cps.size=l.length:=by simp[tx]
theorem Pr(l:List Nat):(tx l).cps.toList=l:=by simp[tx]
theorem Ake(l:List Nat)(i:Nat):(tx l).cps[i]?=l[i]?:=by simp[tx]
theorem AzY(z:Str):tx z.cps.toList=z:=by cases z;simp[tx]
theorem AaQ(a b:List Nat):tx a++tx b=tx (a++b):=by
 show Str.append (tx a) (tx b)=_
 simp[tx,Str.append]
theorem WL{a b:List Nat}(h:tx a=tx b):a=b:=by
 have:=congrArg (fun z:Str=>z.cps.toList) h
 simpa [tx] using this
theorem Akf(c:Nat):(⟨#[c]⟩:Str)=tx [c]:=rfl
theorem Anb:∀(ys:List (List Nat)) (acc:Array Nat),(ys.map tx).foldl (fun acc p=>acc++(tx []).cps++p.cps) acc=acc++ys.flatten.toArray
 | [],acc=>by simp
 | y::ys,acc=>by
  rw[A3X,A5R,Anb ys]
  simp[tx]
theorem AcF:∀(ys:List (List Nat)),Txt.join (tx []) (ys.map tx)=tx ys.flatten
 | []=>by simp[Txt.join,Builtin.Str.glued,tx,Str.empty]
 | y::ys=>by
  show Str.mk _=_
  simp only [A3X,List.drop_one,List.tail_cons,List.headD_cons]
  rw[Anb]
  simp[tx]
theorem Apq{α:Type}(f:α→Nat):∀(l:List α),(l.map fun c=>[f c]).flatten=l.map f
 | []=>rfl
 | a::l=>by rw[A3X,A4n,Apq f l];rfl
theorem Aw3{α:Type}(f:α→Nat):∀(l:List α),(((l.map fun c=>[f c]).map tx).map (·.length)).sum=l.length
 | []=>rfl
 | a::l=>by
  rw[A3X,A3X,A3X,A4L,Aw3 f l,Bf,A3Z]
  show 1+l.length=l.length+1
  omega
end L2
namespace PySem
open Sem (wp)
open Builtin Builtin.Str Builtin.Int
namespace RV
theorem Ah4:Manifest.owners.lookup (String.ofList ['d','e','s','r','e','v','e','r'].reverse)=some Manifest.sig_reversed:=by kernel_rfl
theorem mro_reversed:mroOf (.type "reversed")=pure [.type "reversed", .type "object"]:=by rw[mroOf_type];kernel_rfl
theorem lookup_reversed_new:typeLookup (.type "reversed") "__new__" = pure (some (.builtin "reversed.__new__")):=by rw[typeLookup_type,builtinLookup_eq_fast];kernel_rfl
theorem Atf:Slot "reversed" "__init__" "object.__init__" :=
 .of (owner := "object") (n := "__init__") (by rw[typeLookup_type,builtinLookup_eq_fast];kernel_rfl) (by decide +kernel) (by decide +kernel) (by decide +kernel)
  (by first | exact .inl (by decide +kernel) | exact .inr (by decide +kernel)) (by rw[isSubtype_type];kernel_rfl)
theorem Ajf:TypeCalled "reversed" "reversed.__new__" "object.__init__" :=
 ⟨by decide +kernel,by decide +kernel,⟨_,_,mro_reversed⟩,madeBy_type mro_reversed lookup_reversed_new (by decide +kernel),by decide +kernel,by rw[isSubtype_type];kernel_rfl,Atf⟩
theorem AqU(a:Value):checkTypeCall "reversed" ⟨[a],[]⟩=pure ():=by kernel_rfl
theorem Atg(a:Value):checkBuiltinCall "reversed.__new__" ⟨[.type "reversed", a],[]⟩=pure ():=by kernel_rfl
theorem Ath:entryFor table "reversed.__new__" = some Builtin.«reversed.__new__»:=entryFor_of_tree (by kernel_rfl)
theorem sub_self:isSubtype (.type "reversed") (.type "reversed")=pure true:=by rw[isSubtype_type];kernel_rfl
theorem Ati:typeLookup (.type "str") "__reversed__" = pure none:=by rw[typeLookup_type,builtinLookup_eq_fast];kernel_rfl
theorem AqV:isSubtype (.type "str") (.type "dict")=pure false:=by rw[isSubtype_type];kernel_rfl
theorem slot_next:Slot "reversed" "__next__" "reversed.__next__" :=
 .of (owner := "reversed") (n := "__next__") (by rw[typeLookup_type,builtinLookup_eq_fast];kernel_rfl) (by decide +kernel) (by decide +kernel) (by decide +kernel)
  (by first | exact .inl (by decide +kernel) | exact .inr (by decide +kernel)) (by rw[isSubtype_type];kernel_rfl)
theorem entry_next:entryFor table "reversed.__next__" = some Builtin.«reversed.__next__»:=entryFor_of_tree (by kernel_rfl)
theorem AiH(a:Value):argsOk "reversed.__next__" ⟨[a],[]⟩:=by
 unfold argsOk;rw[signature?_of (id := "reversed.__next__") (n:=['_','_','t','x','e','n','_','_']) (o:=['d','e','s','r','e','v','e','r']) (by kernel_rfl) Ah4];kernel_rfl
theorem Anc:Slot "reversed" "__iter__" "reversed.__iter__" :=
 .of (owner := "reversed") (n := "__iter__") (by rw[typeLookup_type,builtinLookup_eq_fast];kernel_rfl) (by decide +kernel) (by decide +kernel) (by decide +kernel)
  (by first | exact .inl (by decide +kernel) | exact .inr (by decide +kernel)) (by rw[isSubtype_type];kernel_rfl)
theorem AqW:entryFor table "reversed.__iter__" = some Builtin.«dict_keyiterator.__iter__» :=
 entryFor_alias (id' := "dict_keyiterator.__iter__") (by kernel_rfl) (by first | rfl | decide +kernel | (unfold String.splitOn;simp +decide [String.splitOnAux])) (by decide +kernel) (by kernel_rfl)
theorem Aps(a:Value):argsOk "reversed.__iter__" ⟨[a],[]⟩:=by
 unfold argsOk;rw[signature?_of (id := "reversed.__iter__") (n:=['_','_','r','e','t','i','_','_']) (o:=['d','e','s','r','e','v','e','r']) (by kernel_rfl) Ah4];kernel_rfl
theorem Ane:Slot "reversed" "__length_hint__" "reversed.__length_hint__" :=
 .of (owner := "reversed") (n := "__length_hint__") (by rw[typeLookup_type,builtinLookup_eq_fast];kernel_rfl) (by decide +kernel) (by decide +kernel) (by decide +kernel)
  (by first | exact .inl (by decide +kernel) | exact .inr (by decide +kernel)) (by rw[isSubtype_type];kernel_rfl)
theorem AqX:entryFor table "reversed.__length_hint__" = some Builtin.«reversed.__length_hint__»:=entryFor_of_tree (by kernel_rfl)
theorem Apt(a:Value):argsOk "reversed.__length_hint__" ⟨[a],[]⟩:=by
 unfold argsOk;rw[signature?_of (id := "reversed.__length_hint__") (n:=['_','_','t','n','i','h','_','h','t','g','n','e','l','_','_']) (o:=['d','e','s','r','e','v','e','r']) (by kernel_rfl) Ah4];kernel_rfl
theorem AzZ:typeLookup (.type "reversed") "__len__" = pure none:=by rw[typeLookup_type,builtinLookup_eq_fast];kernel_rfl
theorem hint:typeLookup (.type "reversed") "__length_hint__" = pure (some (.builtin "reversed.__length_hint__")):=by rw[typeLookup_type,builtinLookup_eq_fast];kernel_rfl
end RV
def Atj (x:Str)(t:Tok)(i:Int):Obj:={ cls:=.type "reversed", data:=.fields #[.str x t,rawInt i] }
set_option maxHeartbeats 1000000 in
theorem Akg(x:Str)(t:Tok)(hx:¬(x.length:Int) ≥ 2 ^ 63) :
  Meets (Builtin.«reversed.__new__» ⟨[.type "reversed", .str x t],[]⟩) (fun _ R s =>
   R (.ok (.ret (.ref s.heap.objs.size))) { s with heap:=s.heap.push (Atj x t ((x.length:Int)-1)),toks:=s.toks+1+1 }) :=
 .of_wp fun prog w A R s h=>by
  obtain⟨hp,g,d,tk,os⟩:=s
  have hsub:=RV.sub_self
  have h1:=RV.Ati
  have h2:=RV.AqV
  have h3:=F.slot_str_getitem.lookup
  wp_walk using (PySem.P.len_str hx)
  exact⟨_,rfl,h⟩
def Heap.HY(h:Heap)(a:Addr)(x:Str)(t:Tok)(i:Int):Prop:=∃ o,h.get? a=some o∧o.cls=.type "reversed" ∧ o.data=.fields #[.str x t,rawInt i]
theorem Heap.HY.typeIs{s:Shared}{a:Addr}{x:Str}{t:Tok}{i:Int}(y:s.heap.HY a x t i):s.TypeIs (.ref a) "reversed" := let ⟨o,ho,hc,_⟩:=y;⟨o,ho,hc⟩
theorem Heap.HY.at{h h':Heap}{a:Addr}{x:Str}{t:Tok}{i:Int}(y:h.HY a x t i)(e:∀ o,h.get? a=some o→h'.get? a=some o):h'.HY a x t i:=let ⟨o,ho,r⟩:=y;⟨o,e _ ho,r⟩
section
variable {prog:Program}{w:World}{A:Around}{E:Value→Shared→Prop}{s:Shared}
theorem Afm{x:Str}{t:Tok}{Q:Value→Shared→Prop}(hx:¬(x.length:Int) ≥ 2 ^ 63)
  (h:Q (.ref s.heap.objs.size) { s with heap:=s.heap.push (Atj x t ((x.length:Int)-1)),toks:=s.toks+1+1 }):wpAny (model prog w) A (call (.type "reversed") [.str x t]) Q E s :=
 callType_new RV.Ajf (by decide) (RV.AqU _) (RV.Atg _) (fun obj=>F.args_object_init_2 obj _) RV.Ath (Akg x t hx) ⟨⟨_,Heap.get?_push_size _ rfl,rfl⟩,h⟩
theorem AiI{it:Addr}{x:Str}{t:Tok}{i:Int}{Q:Value→Shared→Prop}(hit:s.heap.HY it x t i)(h:Q (.ref it) s):wpAny (model prog w) A (pyIter (.ref it)) Q E s:=by
 refine wpAny_pyIter_slot hit.typeIs RV.Anc (wpAny_call_entry RV.Anc hit.typeIs RV.AqW ?_ (RV.Aps _))
 show wpAny _ _ (ret (.ref it)) _ _ s
 exact wpAny_pure ⟨_,rfl, "reversed", _,hit.typeIs,RV.slot_next.lookup,h⟩
theorem XQ{it:Addr}{x:Str}{t:Tok}{i c:Nat}{Q:Option Value→Shared→Prop}(hit:s.heap.HY it x t (i:Int))(hx:x.cps[i]?=some c)(hb:¬(x.length:Int) ≥ 2 ^ 63)
  (hQ:∀ h' u tk,h'.HY it x t ((i:Int)-1)→Heap.SameBut it s.heap h'→Q (some (.str ⟨#[c]⟩ u)) { s with heap:=h',toks:=tk }):wpAny (model prog w) A (pyNext (.ref it)) Q E s:=by
 obtain⟨o,ho,hc,hd⟩:=id hit
 have hi:i<x.length:=(Array.getElem?_eq_some_iff.mp hx).1
 unfold pyNext
 refine wpAny_bind (wpAny_attempt (wpAny_callSpecial?_slot (name:=Str.ofString "__next__") hit.typeIs RV.slot_next
  (wpAny_call_entry RV.slot_next hit.typeIs RV.entry_next ?_ (RV.AiH _))))
 unfold Builtin.«reversed.__next__»
 refine wpAny_bind (wpAny_of_eq (a:=(Value.ref it,[])) rfl ?_)
 try dsimp only
 refine wpAny_bind (wpAny_field ho hd (x:=.str x t) rfl ?_)
 show wpAny _ _ (field (.ref it) 1 >>= _) _ _ s
 refine wpAny_bind (wpAny_field ho hd (x:=rawInt (i:Int)) rfl ?_)
 show wpAny _ _ (if (i:Int)<0 then _ else _) _ _ s
 rw[if_neg (by omega)]
 refine wpAny_bind (wpAny_specialOf (typeIs_str s x t) F.slot_str_getitem.lookup ?_)
 rw[if_neg (by decide)]
 refine wpAny_bind (wpAny_mkInt ?_)
 have e1:seqIndex? (i:Int) x.length=some i:=by
  have:=PySem.StrLaws.seqIndex_nonneg (i:=(i:Int)) (n:=x.length) (by omega) (by omega)
  simpa using this
 refine wpAny_bind (wpAny_attempt (PySem.P.getItem_str (c:=c) (by
  have e1:decide ((i:Int) < -(2 ^ 63:Int))=false:=decide_eq_false (by omega)
  have e2:decide ((i:Int) ≥ 2 ^ 63)=false:=decide_eq_false (by omega)
  rw[e1,e2];rfl) (by rw[e1];exact hx) ?_))
 show wpAny _ _ (field (.ref it) 1 >>= _) _ _ _
 refine wpAny_bind (wpAny_field (s:={ s with toks:=s.toks+1+1 }) ho hd (x:=rawInt (i:Int)) rfl ?_)
 show wpAny _ _ (setField (.ref it) 1 (rawInt ((i:Int)-1)) >>= _) _ _ _
 refine wpAny_bind (wpAny_setField (s:={ s with toks:=s.toks+1+1 }) ho hd (by simp) ?_)
 refine wpAny_pure ⟨_,rfl,wpAny_pure (hQ _ _ _ ?_ (Heap.SameBut.update ..))⟩
 exact⟨_,Heap.get?_update_self _ ho (Obj.isFreed_of_fields (Obj.data_mapFields hd _)),(Obj.cls_mapFields ..).trans hc,by
  rw[Obj.data_mapFields hd];simp⟩
theorem Aan{it:Addr}{x:Str}{t:Tok}{Q:Option Value→Shared→Prop}(hh:A.handled=none)(hit:s.heap.HY it x t (-1))
  (hQ:∀ h',Heap.ExtBut it s.heap h'→(∃ o,h'.get? it=some o)→Q none { s with heap:=h' }):wpAny (model prog w) A (pyNext (.ref it)) Q E s:=by
 obtain⟨o,ho,hc,hd⟩:=id hit
 unfold pyNext
 refine wpAny_bind (wpAny_attempt (wpAny_callSpecial?_slot (name:=Str.ofString "__next__") hit.typeIs RV.slot_next
  (wpAny_call_entry RV.slot_next hit.typeIs RV.entry_next ?_ (RV.AiH _))))
 unfold Builtin.«reversed.__next__»
 refine wpAny_bind (wpAny_of_eq (a:=(Value.ref it,[])) rfl ?_)
 try dsimp only
 refine wpAny_bind (wpAny_field ho hd (x:=.str x t) rfl ?_)
 show wpAny _ _ (field (.ref it) 1 >>= _) _ _ s
 refine wpAny_bind (wpAny_field ho hd (x:=rawInt (-1)) rfl ?_)
 show wpAny _ _ (if (-1:Int)<0 then _ else _) _ _ s
 rw[if_pos (by decide)]
 refine wpAny_bind (wpAny_rule ?_)
 refine wpAny_bind ?_
 show wpAny _ _ (setField (.ref it) 1 (rawInt (-1)) >>= fun _=>setField (.ref it) 0 .none) _ _ _
 refine wpAny_bind (wpAny_setField ho hd (by simp) ?_)
 have ho2:=Heap.get?_update_self (Obj.mapFields fun vs=>vs.set! 1 (rawInt (-1))) ho (Obj.isFreed_of_fields (Obj.data_mapFields hd _))
 have hd2:=Obj.data_mapFields hd fun vs=>vs.set! 1 (rawInt (-1))
 refine wpAny_setField (s:={ s with heap:=s.heap.update it (Obj.mapFields fun vs=>vs.set! 1 (rawInt (-1))) }) ho2 hd2 (by simp) ?_
 have hd3:=Obj.data_mapFields hd2 fun vs=>vs.set! 0 Value.none
 have ho3:=Heap.get?_update_self (Obj.mapFields fun vs=>vs.set! 0 Value.none) ho2 (Obj.isFreed_of_fields hd3)
 refine wpAny_bind ?_
 show wpAny _ _ (newExc (.type "StopIteration") [] >>= _) _ _ _
 refine wpAny_bind ?_
 simp only [newExc,newTuple]
 refine wpAny_bind (wpAny_newObj_type ?_ (by size_fits))
 refine wpAny_bind (m:=firstArgMember _ _) (wpAny_of_eq (a:=Value.none) (by first | rfl | (simp only [firstArgMember];rfl)) ?_)
 refine wpAny_newObj_type ?_ (by size_fits)
 simp only [raiseNew]
 refine wpAny_bind (wpAny_handled ?_)
 first | rw[show A.in1.handled=none from hh] | rw[hh]
 refine wpAny_bind (wpAny_pure (wpAny_throw ?_))
 refine wpAny_bind (wpAny_isInstance (T := "StopIteration") (b:=true) ⟨_,Heap.get?_push_size _ rfl,rfl⟩ isSubtype_stop ?_)
 refine wpAny_pure (hQ _ ((((Heap.SameBut.update ..).extBut.trans (Heap.SameBut.update ..).extBut).push _).push _) ⟨_,Heap.get?_push_of_some _ (Heap.get?_push_of_some _ ho3)⟩)
theorem Walks.Atj(hh:A.handled=none)(I:Addr)(x:Str)(t:Tok)(hb:¬(x.length:Int) ≥ 2 ^ 63) :
  Walks prog w A I [I] [I] x.cps.size (fun i v=>∃ c u,x.cps[x.cps.size-1-i]?=some c∧v=.str ⟨#[c]⟩ u) (fun i h=>i≤x.cps.size∧h.HY I x t ((x.cps.size:Int)-1-(i:Int))) where
 sub:=fun _ hb=>hb
 frame:=fun _ _ _ st hk=>⟨st.1,st.2.at fun o e=>hk I (by simp) o e⟩
 item:=fun i s Q E hi st hQ=>by
  have e:(x.cps.size:Int)-1-(i:Int)=((x.cps.size-1-i:Nat):Int):=by omega
  have hit:=st.2
  rw[e] at hit
  have hx:x.cps[x.cps.size-1-i]?=some (x.cps[x.cps.size-1-i]'(by omega)):=Array.getElem?_eq_getElem (by omega)
  refine XQ hit hx hb fun h' u tk hit' hs'=>?_
  have e2:((x.cps.size-1-i:Nat):Int)-1=(x.cps.size:Int)-1-((i+1:Nat):Int):=by omega
  rw[e2] at hit'
  exact hQ _ h' tk ⟨_,_,hx,rfl⟩ ⟨hi,hit'⟩ fun b o hb eo=>hs'.extBut b o (fun h=>hb (by simp[h])) eo
 done:=fun s Q E st hQ=>by
  have e:(x.cps.size:Int)-1-(x.cps.size:Int) = -1:=by omega
  have hit:=st.2
  rw[e] at hit
  exact Aan hh hit fun h' he' _=>hQ h' s.toks fun b o hb eo=>he' b o (fun h=>hb (by simp[h])) eo
 self:=fun _ _ _ _ st hQ=>AiI st.2 hQ
theorem Akh{it:Addr}{x:Str}{t:Tok}{Q:Value→Shared→Prop}(hb:¬(x.length:Int) ≥ 2 ^ 63)(hit:s.heap.HY it x t ((x.length:Int)-1))
  (h:∀ u tk,s.toks≤tk→Q (.int x.length u) { s with toks:=tk }):wpAny (model prog w) A (call (.builtin "reversed.__length_hint__") [.ref it]) Q E s:=by
 obtain⟨o,ho,hc,hd⟩:=id hit
 refine wpAny_call_entry RV.Ane hit.typeIs RV.AqX ?_ (RV.Apt _)
 unfold Builtin.«reversed.__length_hint__»
 refine wpAny_bind (wpAny_of_eq (a:=Value.ref it) rfl ?_)
 refine wpAny_bind (wpAny_field ho hd (x:=.str x t) rfl ?_)
 rw[if_neg (show ¬((Value.str x t == Value.none)=true) from A4g)]
 refine wpAny_bind (PySem.P.len_str hb ?_)
 refine wpAny_bind (m:=asInt? (.int x.length (s.toks+1))) (wpAny_pure ?_)
 dsimp only
 show wpAny _ _ (field (.ref it) 1 >>= _) _ _ _
 refine wpAny_bind (wpAny_field (s:={ s with toks:=s.toks+1+1 }) ho hd (x:=rawInt ((x.length:Int)-1)) rfl ?_)
 show wpAny _ _ (if (x.length:Int)<(x.length:Int)-1+1 then _ else retInt ((x.length:Int)-1+1)) _ _ _
 rw[if_neg (by omega),show(x.length:Int)-1+1=x.length by omega]
 unfold retInt
 refine wpAny_bind (wpAny_mkInt (wpAny_pure ⟨_,rfl,h _ _ ?_⟩))
 show s.toks≤s.toks+1+1+1
 omega
theorem Adc{R:Result→Shared→Prop}{I:Addr}{x:Str}{t:Tok}(hh:A.handled=none)(hb:x.length≤sizeLine)(S:Addr)(hSI:S≠I)(res:Value) :
  ∀(k i:Nat) (s:Shared) (acc:Array Value) (c:Nat),x.cps.size-i=k→i≤x.cps.size→s.heap.HY I x t ((x.cps.size:Int)-1-(i:Int)) →
  s.heap.get? S=some { cls:=.type "list", dict:=none,data:=.seq acc c,slots:=#[] }→ItemsOf (fun i v=>∃ c u,x.cps[x.cps.size-1-i]?=some c∧v=.str ⟨#[c]⟩ u) acc i →
  (∀ h' tk acc' c',(∀ b o,b≠S→b≠I→s.heap.get? b=some o→h'.get? b=some o)→(∃ o,h'.get? I=some o)→h'.get? S=some { cls:=.type "list", dict:=none,data:=.seq acc' c',slots:=#[] } →
   ItemsOf (fun i v=>∃ c u,x.cps[x.cps.size-1-i]?=some c∧v=.str ⟨#[c]⟩ u) acc' x.cps.size→R (.ok (.ret res)) { s with heap:=h',toks:=tk }) →
  codeAny (model prog w) A (.builtin "list.extend.loop" ⟨[.ref S,.ref I,res],[]⟩) R s:=by
 have hl:sizeLine=16777216:=sizeLine_eq
 have hb':¬(x.length:Int) ≥ 2 ^ 63:=by omega
 have hn:x.cps.size≤sizeLine:=hb
 intro k
 induction k with
 | zero =>
  intro i s acc c hk hi hst hS hacc hR
  have hin:i=x.cps.size:=by omega
  subst hin
  refine codeAny_builtin F.entry_extend_loop ?_
  rw[Around.under_plainId F.plain_extend_loop _]
  show wpAny _ A.in1 (pyNext (.ref I) >>= _) _ _ s
  have e:(x.cps.size:Int)-1-(x.cps.size:Int) = -1:=by omega
  rw[e] at hst
  refine wpAny_bind (Aan (by exact hh) hst fun h' he' ho'=>?_)
  exact wpAny_pure (hR h' s.toks acc c (fun b o _ hI q=>he' b o hI q) ho' (he' S _ hSI hS) hacc)
 | succ k ih =>
  intro i s acc c hk hi hst hS hacc hR
  have hlt:i<x.cps.size:=by omega
  refine codeAny_builtin F.entry_extend_loop ?_
  rw[Around.under_plainId F.plain_extend_loop _]
  show wpAny _ A.in1 (pyNext (.ref I) >>= _) _ _ s
  have e:(x.cps.size:Int)-1-(i:Int)=((x.cps.size-1-i:Nat):Int):=by omega
  rw[e] at hst
  have hx:x.cps[x.cps.size-1-i]?=some (x.cps[x.cps.size-1-i]'(by omega)):=Array.getElem?_eq_getElem (by omega)
  refine wpAny_bind (XQ hst hx hb' fun h' u tk hit' hs'=>?_)
  have e2:((x.cps.size-1-i:Nat):Int)-1=(x.cps.size:Int)-1-((i+1:Nat):Int):=by omega
  rw[e2] at hit'
  have hS':h'.get? S=some { cls:=.type "list", dict:=none,data:=.seq acc c,slots:=#[] }:=(hs'.2 S hSI).trans hS
  show wpAny _ A.in1 (updateSeq S (·.push _) >>= _) _ _ _
  refine wpAny_bind ?_
  refine wpAny_updateSeq (s:={ s with heap:=h',toks:=tk }) hS' rfl (wpAny_pure ⟨plainId_quiet F.plain_extend_loop _,ih (i+1) _ (acc.push _) _ (by omega) hlt (hit'.at fun o q=>(Heap.get?_update_other _ _ hSI).trans q) (Heap.get?_update_self _ hS' rfl) (hacc.push ⟨_,u,hx,rfl⟩) fun h2 tk2 acc' c' kp ho2 hS2 hacc'=>?_⟩)
   (by rw[hacc.1];omega) (by show(acc.push _).size≤sizeLine+1;rw[Array.size_push,hacc.1];omega)
  exact hR h2 tk2 acc' c' (fun b o hbS hbI q=>kp b o hbS hbI ((Heap.get?_update_other _ _ (Ne.symm hbS)).trans ((hs'.2 b hbI).trans q))) ho2 hS2 hacc'
theorem AnG{I:Addr}{x:Str}{t:Tok}{Q:List Value→Shared→Prop}(hh:A.handled=none)(hb:x.length≤sizeLine)(hit:s.heap.HY I x t ((x.length:Int)-1))
  (hQ:∀ h' tk acc,(∀ b o,b≠I→s.heap.get? b=some o→h'.get? b=some o)→(∃ o,h'.get? I=some o)→ItemsOf (fun i v=>∃ c u,x.cps[x.cps.size-1-i]?=some c∧v=.str ⟨#[c]⟩ u) acc x.cps.size→Q acc.toList { s with heap:=h',toks:=tk }) :
  wpAny (model prog w) A (collect (.ref I)) Q E s:=by
 have hl:sizeLine=16777216:=sizeLine_eq
 have hb':¬(x.length:Int) ≥ 2 ^ 63:=by omega
 have hn:x.cps.size≤sizeLine:=hb
 have W:=(Walks.Atj (prog:=prog) (w:=w) (A:=A.in1) hh I x t hb').toS
 have hst:(fun(i:Nat) (s:Shared)=>i≤x.cps.size∧s.heap.HY I x t ((x.cps.size:Int)-1-(i:Int))) 0 s:=⟨A4f _,by
  have e:(x.cps.size:Int)-1-((0:Nat):Int)=(x.length:Int)-1:=by show(x.cps.size:Int)-1-((0:Nat):Int)=(x.cps.size:Int)-1;omega
  rw[e];exact hit⟩
 have hI:I<s.heap.objs.size:=by
  obtain⟨o,ho,_⟩:=hit
  exact Heap.lt_size ho
 have hSf:s.heap.objs.size∉[I]:=fun hm=>by
  have:=List.mem_singleton.mp hm
  rw[this] at hI
  exact A4v _ hI
 have hSI:s.heap.objs.size≠I:=fun e=>hSf (by rw[e];simp)
 unfold collect
 refine wpAny_bind (wpAny_runValue (codeAny_builtin F.entry_proto_collect ?_))
 rw[Around.under_plainId F.plain_proto_collect _]
 show wpAny _ A.in1 (newList [] >>= fun l=>again (.builtin "list.__iadd__" ⟨[l,.ref I],[]⟩)) _ _ s
 refine wpAny_bind (wpAny_newObj_type ?_)
 refine wpAny_pure ⟨plainId_quiet F.plain_list_iadd _,codeAny_builtin F.entry_list_iadd ?_⟩
 rw[Around.under_plainId F.plain_list_iadd _]
 have hit1:(s.heap.push { cls:=.type "list", data:=.seq ([]:List Value).toArray }).HY I x t ((x.length:Int)-1):=hit.at fun o e=>Heap.get?_push_of_some _ e
 have hst₁:=W.frame 0 s (s.heap.push { cls:=.type "list", data:=.seq ([]:List Value).toArray }) s.toks hst (A3U _) fun b _ o e=>Heap.get?_push_of_some _ e
 have hS₁:(s.heap.push { cls:=.type "list", data:=.seq ([]:List Value).toArray }).get? s.heap.objs.size=some { cls:=.type "list", data:=.seq ([]:List Value).toArray }:=Heap.get?_push_size _ rfl
 have h1:Builtin.List.listSameRef (.ref s.heap.objs.size) (.ref I)=false:=by simp[Builtin.List.listSameRef,hSI]
 have hT1:({ s with heap:=s.heap.push { cls:=.type "list", data:=.seq ([]:List Value).toArray } }:Shared).TypeIs (.ref I) "reversed" := Heap.HY.typeIs (s:={ s with heap:=s.heap.push { cls:=.type "list", data:=.seq ([]:List Value).toArray } }) hit1
 show wpAny _ A.in1 (Builtin.List.listExtendWith (.ref s.heap.objs.size) (.ref I) (.ref s.heap.objs.size)) _ _ _
 unfold Builtin.List.listExtendWith
 refine wpAny_bind (wpAny_typeOf hT1 ?_)
 rw[if_neg (by rw[h1];decide)]
 refine wpAny_bind (W.self 0 _ _ _ hst₁ ?_)
 refine wpAny_bind (wpAny_holding ?_)
 unfold Builtin.List.listLengthHint
 refine wpAny_bind (wpAny_specialOf hT1 RV.AzZ ?_)
 show wpAny _ A.in1 (specialOf (Value.ref I) (Str.ofString "__length_hint__") >>= _) _ _ _
 refine wpAny_bind (wpAny_specialOf hT1 RV.hint ?_)
 (generalize hid:("reversed.__length_hint__" : String)=id0;(fail_if_success (clear hid id0));wp_delta;rw[show splitId id0=some ("reversed", "__length_hint__") from by subst hid;decide +kernel];subst hid)
 refine wpAny_bind (wpAny_isInstance (b:=true) hT1 (by rw[isSubtype_type];kernel_rfl) ?_)
 show wpAny _ A.in1 (rule "list.length-hint.hint" >>= _) _ _ _
 refine wpAny_bind (wpAny_rule ?_)
 refine wpAny_bind (wpAny_of_eq (RV.Ane.bind _) ?_)
 dsimp only
 refine wpAny_bind (wpAny_attempt (Akh (s:={ s with heap:=s.heap.push { cls:=.type "list", data:=.seq ([]:List Value).toArray } }) hb' hit1 fun u tk htk=>?_))
 have hk0:∃ k:Int,k=(x.length:Int):=⟨_,rfl⟩
 obtain⟨k,hk⟩:=hk0
 rw[← hk]
 dsimp only
 refine wpAny_bind (m:=asInt? (.int k u)) (wpAny_pure ?_)
 dsimp only
 have f1:Builtin.List.listFitsIndex k=true:=by
  unfold Builtin.List.listFitsIndex
  simp
  omega
 have f2:Builtin.List.listTooLong k.toNat=false:=by
  unfold Builtin.List.listTooLong
  exact decide_eq_false (by omega)
 rw[if_neg (by rw[f1];decide),if_neg (by omega),if_neg (by rw[f2];decide)]
 refine wpAny_pure ?_
 have e00:(x.cps.size:Int)-1-((0:Nat):Int)=(x.length:Int)-1:=by show(x.cps.size:Int)-1-((0:Nat):Int)=(x.cps.size:Int)-1;omega
 have old:∀ b o,s.heap.get? b=some o→(s.heap.push { cls:=.type "list", data:=.seq ([]:List Value).toArray }).get? b=some o:=fun b o e=>Heap.get?_push_of_some _ e
 have neS:∀ b o,s.heap.get? b=some o→b≠s.heap.objs.size:=fun b o e=>A4b (Heap.lt_size e)
 by_cases h0:x.length=0
 ·have e0:(k != 0)=false:=by rw[hk,h0];rfl
  rw[e0,if_neg (by decide)]
  have st0:(s.heap.push { cls:=.type "list", data:=.seq ([]:List Value).toArray }).HY I x t ((x.cps.size:Int)-1-((0:Nat):Int)):=by rw[e00];exact hit1
  refine wpAny_pure ⟨plainId_quiet F.plain_extend_loop _,?_⟩
  refine Adc (A:=A) hh hb _ hSI _ _ 0 { s with heap:=s.heap.push { cls:=.type "list", data:=.seq ([]:List Value).toArray },toks:=tk } #[] _ rfl (A4f _) st0 hS₁ (ItemsOf.nil _) fun h' tk' acc' c' kp ho' hS' hacc=>?_
  show wpAny _ A (load s.heap.objs.size >>= _) _ _ _
  refine wpAny_bind (wpAny_load (s:={ s with heap:=h',toks:=tk' }) hS' ?_)
  exact wpAny_pure (hQ h' tk' acc' (fun b o hbI q=>kp b o (neS b o q) hbI (old b o q)) ho' hacc)
 ·have e0:(k != 0)=true:=by simp;omega
  rw[e0,if_pos (by decide)]
  refine wpAny_bind (wpAny_rule ?_)
  refine wpAny_bind ?_
  show wpAny _ A.in1 (updateSeq s.heap.objs.size (·.push .none) >>= fun _=>updateSeq s.heap.objs.size (·.pop)) _ _ _
  refine wpAny_bind (wpAny_updateSeq hS₁ rfl ?_)
  have hS₂:=Heap.get?_update_self (Obj.mapSeq (·.push Value.none)) hS₁ rfl
  refine wpAny_updateSeq hS₂ rfl ?_
  have hS₃:=Heap.get?_update_self (Obj.mapSeq (·.pop)) hS₂ rfl
  have oth:∀ b o,b≠s.heap.objs.size→(s.heap.push { cls:=.type "list", data:=.seq ([]:List Value).toArray }).get? b=some o →
    (((s.heap.push { cls:=.type "list", data:=.seq ([]:List Value).toArray }).update s.heap.objs.size (Obj.mapSeq (·.push Value.none))).update s.heap.objs.size (Obj.mapSeq (·.pop))).get? b=some o :=
   fun b o hb e=>(Heap.get?_update_other _ _ (Ne.symm hb)).trans ((Heap.get?_update_other _ _ (Ne.symm hb)).trans e)
  have st0:(((s.heap.push { cls:=.type "list", data:=.seq ([]:List Value).toArray }).update s.heap.objs.size (Obj.mapSeq (·.push Value.none))).update s.heap.objs.size (Obj.mapSeq (·.pop))).HY I x t ((x.cps.size:Int)-1-((0:Nat):Int)):=by
   rw[e00];exact hit1.at fun o q=>oth I o (Ne.symm hSI) q
  refine wpAny_pure ⟨plainId_quiet F.plain_extend_loop _,?_⟩
  refine Adc (A:=A) hh hb _ hSI _ _ 0
   { s with heap:=((s.heap.push { cls:=.type "list", data:=.seq ([]:List Value).toArray }).update s.heap.objs.size (Obj.mapSeq (·.push Value.none))).update s.heap.objs.size (Obj.mapSeq (·.pop)),toks:=tk } #[] _ rfl (A4f _) st0 hS₃ (ItemsOf.nil _) fun h' tk' acc' c' kp ho' hS' hacc=>?_
  show wpAny _ A (load s.heap.objs.size >>= _) _ _ _
  refine wpAny_bind (wpAny_load (s:={ s with heap:=h',toks:=tk' }) hS' ?_)
  exact wpAny_pure (hQ h' tk' acc' (fun b o hbI q=>kp b o (neS b o q) hbI (oth b o (neS b o q) (old b o q))) ho' hacc)
theorem Atk{I:Addr}{sep x:Str}{t u:Tok}{Q:Value→Shared→Prop}(hh:A.handled=none)(hb:x.length≤1000)(hs:sep.length≤16)(hit:s.heap.HY I x t ((x.length:Int)-1))
  (h:∀ h' t' k,(∀ b o,b≠I→s.heap.get? b=some o→h'.get? b=some o)→(∃ o,h'.get? I=some o)→Q (.str (Txt.join sep (x.cps.toList.reverse.map fun c=>⟨#[c]⟩)) t') { s with heap:=h',toks:=k }) :
  wpAny (model prog w) A (call (.builtin "str.join") [.str sep u,.ref I]) Q E s:=by
 have hl:sizeLine=16777216:=sizeLine_eq
 refine wpAny_call (codeAny_call_builtin F.slot_str_join.plain F.entry_str_join (F.slot_str_join.check _ _ _ _ _ _ _ _ (typeIs_str _ _ _) (F.args_str_join_2 _ _) ?_))
 rw[join_tree_other]
 refine wpAny_bind (wpAny_typeOf hit.typeIs ?_)
 show wpAny _ A.in1 ((pyIter (.ref I)).tryCatch _ >>= fun it=>collect it >>= fun items=>joinTail sep items) _ _ s
 refine wpAny_bind (wpAny_tryCatch (AiI hit ?_))
 refine wpAny_bind (AnG (by exact hh) (by omega) hit fun h' tk' acc hm ho' hacc=>?_)
 obtain⟨l,hl'⟩:=exists_strValues acc.toList fun v hv=>by
  obtain⟨j,hj,rfl⟩:=Array.mem_iff_getElem.mp (Array.mem_toList_iff.mp hv)
  obtain⟨c,u,_,e⟩:=hacc.2 j _ (Array.getElem?_eq_getElem hj)
  exact⟨_,u,e⟩
 rw[← hl']
 have key:l.map (·.1)=x.cps.toList.reverse.map fun c=>(⟨#[c]⟩:Str):=by
  have hlen:l.length=x.cps.size:=by
   have:=congrArg List.length hl'
   simp only [strValues,A3S,Array.length_toList,hacc.1] at this
   exact this
  apply A4G
  intro j
  rw[A4e,A4e]
  by_cases hj:j<x.cps.size
  ·have hj':j<acc.size:=by rw[hacc.1];exact hj
   obtain⟨c,u,e1,e2⟩:=hacc.2 j _ (Array.getElem?_eq_getElem hj')
   have g:(strValues l)[j]?=some (.str ⟨#[c]⟩ u):=by
    rw[hl',← e2]
    simp[hj']
   have g2:l[j]?=some (⟨#[c]⟩,u):=by
    unfold strValues at g
    rw[A4e] at g
    cases hlj:l[j]? with
    | none=>rw[hlj] at g;cases g
    | some p =>
     rw[hlj] at g
     obtain⟨p1,p2⟩:=p
     have g':Value.str p1 p2=Value.str ⟨#[c]⟩ u:=Option.some.inj g
     injection g' with a b
     rw[a,b]
   rw[g2,List.getElem?_reverse (by simpa using hj)]
   simp only [Array.length_toList,Array.getElem?_toList,e1]
   rfl
  ·rw[A4o (by omega),A4o (by simp;omega)]
   rfl
 have hok:JoinOk sep (l.map (·.1))=true:=by
  rw[key]
  unfold JoinOk
  rw[StrLaws.joinTotal]
  have e1:((x.cps.toList.reverse.map fun c=>(⟨#[c]⟩:Str)).map (·.length)).sum=x.cps.size:=by
   have:∀(l:List Nat),((l.map fun c=>(⟨#[c]⟩:Str)).map (·.length)).sum=l.length:=by
    intro l
    induction l with
    | nil=>rfl
    | cons a r ih=>simp only [A3X,A4L,A3Z,ih];show 1+_=_;omega
   rw[this]
   simp
  rw[e1]
  simp only [A3S,List.length_reverse,Array.length_toList]
  have hx:x.cps.size≤1000:=hb
  have hm:x.cps.size*sep.length≤1000*16:=A5r hx hs
  unfold tooLong
  rw[decide_eq_false (by omega)]
  rfl
 have Aw4:=hok
 unfold JoinOk at Aw4
 rw[Bool.not_eq_true'] at Aw4
 have g:Gives (joinTail sep (strValues l)) (joinMade sep l):=by
  have g0:=gives_joinTail sep l Aw4
  cases l with
  | nil=>exact g0
  | cons p r=>cases r with
   | nil=>exact g0
   | cons q r'=>exact g0
 refine g prog w A (wants Q E) _ (post_join l ⟨joinFit_length Aw4,fun t' k=>?_⟩)
 rw[key]
 exact h h' t' k hm ho'
end
end PySem
namespace L2
open PySem PySem.Spec PyProof.Rows
def Ayp (p:Addr)(x:Str):HO:=.ext fun h=>∃ t,h.HY p x t ((x.length:Int)-1)
def A0a (p:Addr):HO:=.ext fun h=>∃ o,h.get? p=some o
section
variable {X:Cx}
theorem Apu:Oj X (.type "reversed") (fun xs H Q=>∃ z,xs=[.str z]∧z.length≤sizeLine∧∀ p,H p=none→Q (.ref p) (upd H p (Ayp p z))):=by
 intro pins s σ H xs us Q I rv h
 obtain⟨z,rfl,hz,q⟩:=h
 obtain⟨u,rfl,ru⟩:=rv.one
 obtain⟨t,rfl⟩:=ru
 have hl:sizeLine=16777216:=sizeLine_eq
 refine Afm (by omega) ?_
 have hg:(s.heap.push (Atj z t ((z.length:Int)-1))).get? s.heap.objs.size=some (Atj z t ((z.length:Int)-1)):=Heap.get?_push_size _ rfl
 refine⟨.ref s.heap.objs.size,_,I.laid (o:=Ayp s.heap.objs.size z) (fun b o e=>Heap.get?_push_of_some _ e) (A3U _) ?_,rfl,q _ (I.hok.fresh (A3U _))⟩
 exact⟨⟨t,_,hg,rfl,rfl⟩,⟨_,hg⟩,fun h1 h2 y k=>by
  obtain⟨t',y⟩:=y
  exact⟨t',y.at k⟩⟩
theorem AqY(hc:X.calm=true:=by rfl):MtR X "str.join" (fun x vs H Q=>∃ z y p,x=.str z∧vs=[.ref p]∧H p=some (Ayp p y)∧z.length≤16∧y.length≤1000 ∧
  Q (.str (Txt.join z (y.cps.toList.reverse.map fun c=>⟨#[c]⟩))) (upd H p (A0a p))):=by
 intro pins s σ H x vs v us Q I rx rv h
 obtain⟨z,y,p,rfl,rfl,hp,hz,hy,q⟩:=h
 obtain⟨t,rfl⟩:=rx
 obtain⟨u,rfl,ru⟩:=rv.one
 cases ru
 obtain⟨⟨t',hit⟩,⟨o,ho⟩,_⟩:=I.hok p _ hp
 refine Atk (I.ok.hd hc) hy hz hit fun h' t2 k kp hp'=>?_
 refine⟨.str _,_,I.write (t':=k) (x:=p) (e:=p) (o:=A0a p) (by rw[hp];exact trivial) (.inl rfl) (fun b u hb e=>kp b u hb e) hp' ?_,⟨_,rfl⟩,q⟩
 exact⟨hp',hp',fun h1 h2 y k=>by
  obtain⟨o,y⟩:=y
  exact⟨o,k o y⟩⟩
end
open PySem PySem.Spec PyProof.Rows
theorem Io{c A B:Prop}[Decidable c](h:¬c)(k:B):if decide c=true then A else B:=by rw[decide_eq_false h];exact QS k
theorem Aki{c A B:Prop}[Decidable c](h:c)(k:A):if decide c=true then A else B:=by rw[decide_eq_true h];exact Ah1 k
theorem Au1{c A B:Prop}[Decidable c](h:¬c)(k:A):if (!decide c)=true then A else B:=by rw[decide_eq_false h];exact Ah1 k
theorem A0b{b:Bool}{A B:Prop}(h1:b=true→A)(h2:b=false→B):if b=true then A else B:=by
 cases b with
 | true=>exact Ah1 (h1 rfl)
 | false=>exact QS (h2 rfl)
theorem Mz{c A B:Prop}[Decidable c](h1:c→A)(h2:¬c→B):if decide c=true then A else B:=by
 by_cases h:c
 ·exact Aki h (h1 h)
 ·exact Io h (h2 h)
theorem Am.upd{H:Hp}{p:Addr}{o:HO}(h:H p=none):Am H (L2.upd H p o):=fun b o' e=>by rw[Aw (Bw e h)];exact e
theorem Am.new{H H1:Hp}{p:Addr}{o:HO}(e:Am H H1)(h:H1 p=none):Am H (L2.upd H1 p o):=e.trans (.upd h)
theorem Am.over{H H1:Hp}{p:Addr}{o:HO}(e:Am H H1)(h:H p=none):Am H (L2.upd H1 p o):=fun b o' q=>by rw[Aw (Bw q h)];exact e b o' q
theorem Es:bootBuiltins "len" = some (.builtin "len"):=by decide +kernel
theorem Ade:bootBuiltins "isinstance" = some (.builtin "isinstance"):=by decide +kernel
theorem Au2:bootBuiltins "abs" = some (.builtin "abs"):=by decide +kernel
theorem Ayq:bootBuiltins "max" = some (.builtin "max"):=by decide +kernel
theorem Ayr:bootBuiltins "sum" = some (.builtin "sum"):=by decide +kernel
theorem Atl:bootBuiltins "sorted" = some (.builtin "sorted"):=by decide +kernel
theorem U0:bootBuiltins "list" = some (.type "list"):=by decide +kernel
theorem AqZ:bootBuiltins "str" = some (.type "str"):=by decide +kernel
theorem Ays:bootBuiltins "int" = some (.type "int"):=by decide +kernel
theorem Apv:bootBuiltins "reversed" = some (.type "reversed"):=by decide +kernel
theorem Ara:bootBuiltins "zip" = some (.type "zip"):=by decide +kernel
theorem Apw:bootBuiltins "range" = some (.type "range"):=by decide +kernel
theorem Ayt:bootBuiltins "set" = some (.type "set"):=by decide +kernel
structure Df (K:PySem.W.Frag) (mg:Str→Option Value) (x:Str) (st:Stmt) (ps:List Str) (f:Addr) (fd:FuncData):Prop where
 F:Fun K x x st f fd
 m:mg x=some (.ref f)
 b:Binds K fd ps []
def vS (cl:List (List Nat)):List V:=cl.map fun t=>V.str (tx t)
def vI (ns:List Int):List V:=ns.map V.int
theorem Bs(cl:List (List Nat)):(vS cl).length=cl.length:=by unfold vS;rw[A3S]
theorem Bd(ns:List Int):(vI ns).length=ns.length:=by unfold vI;rw[A3S]
theorem Aej{cl:List (List Nat)}{i:Nat}{t:List Nat}(h:cl[i]?=some t):(vS cl)[i]?=some (.str (tx t)):=by unfold vS;rw[A4e,h];rfl
theorem WM{ns:List Int}{i:Nat}{n:Int}(h:ns[i]?=some n):(vI ns)[i]?=some (.int n):=by unfold vI;rw[A4e,h];rfl
theorem QT{cl:List (List Nat)}{i:Nat}{v:V}(h:(vS cl)[i]?=some v):∃ t,cl[i]?=some t∧v=.str (tx t):=by
 unfold vS at h
 rw[A4e] at h
 cases e:cl[i]? with
 | none=>rw[e] at h;cases h
 | some t=>rw[e] at h;exact⟨t,rfl,(Option.some.inj h).symm⟩
theorem JM{ns:List Int}{i:Nat}{v:V}(h:(vI ns)[i]?=some v):∃ t,ns[i]?=some t∧v=.int t:=by
 unfold vI at h
 rw[A4e] at h
 cases e:ns[i]? with
 | none=>rw[e] at h;cases h
 | some t=>rw[e] at h;exact⟨t,rfl,(Option.some.inj h).symm⟩
theorem AjF(ns:List Int):(vI ns).all Gp=true:=by unfold vI;rw[A5V];exact List.all_eq_true.mpr fun _ _=>rfl
theorem YW(cl:List (List Nat)):(vS cl).all Gp=true:=by unfold vS;rw[A5V];exact List.all_eq_true.mpr fun _ _=>rfl
theorem QV(cl:List (List Nat)):vS cl=(cl.map tx).map V.str:=by unfold vS;rw[A4u];rfl
theorem Au3(ns:List Int)(j:Nat)(n:Int):(vI ns).set j (.int n)=vI (ns.set j n):=by unfold vI;rw[List.map_set]
theorem Tj(ns:List Int)(n:Int):vI ns++[.int n]=vI (ns++[n]):=by unfold vI;rw[A3W];rfl
theorem Ia(cl:List (List Nat))(t:List Nat):vS cl++[.str (tx t)]=vS (cl++[t]):=by unfold vS;rw[A3W];rfl
theorem Ed{α:Type}{xs:List α}{i:Int}{v:α}(h0:0≤i)(h:xs[i.toNat]?=some v):atI xs i=some v:=by
 have e:i=(i.toNat:Int):=by omega
 rw[e]
 exact ArZ h
theorem Arb{n:Nat}{i:Int}(h0:0≤i)(h:i<n):ixN n i=some i.toNat:=by unfold ixN;rw[if_pos h0,if_pos h]
open PySem PySem.Spec PyProof.Rows
section
variable {X:Cx}{K:PySem.W.Frag}{tg:Expr}
theorem Bm(hK:X.K=K:=by rfl):IxR X (Ayi K):=by subst hK;exact Awv
theorem MK(hK:X.K=K:=by rfl):IxR X (Ayj K):=by subst hK;exact Ayk
theorem Aek(hK:X.K=K:=by rfl):OpR X (compareOp .In) (rIn K false):=by subst hK;exact AsZ
theorem Adf(hK:X.K=K:=by rfl):OpR X (compareOp .NotIn) (rIn K true):=by subst hK;exact AnB
theorem AnH(hu:X.A.units<cLine)(hK:X.K=K:=by rfl):OpR X (compareOp .Eq) (AzX K):=by subst hK;exact Ayo hu
theorem Bl(hK:X.K=K:=by rfl):Oj X (.builtin "len") (fun xs H Q=>∃ p ys,xs=[.ref p]∧(SqL K H p ys∨SqT K H p ys)∧Q (.int ys.length) H):=by subst hK;exact AnC
theorem Pu(hK:X.K=K:=by rfl):Oj X (.type "list") (fun xs H Q=>∃ p ys,xs=[.ref p]∧(SqL K H p ys∨SqT K H p ys)∧∀ l,H l=none→Q (.ref l) (upd H l (.lst ys))):=by subst hK;exact AnD
theorem Anf(hK:X.K=K:=by rfl):Oj X (.builtin "isinstance") (AzW K):=by subst hK;exact Au0
theorem JN(hK:X.K=K:=by rfl):MtR X "str.join" (rJoin K):=by subst hK;exact Aw2
theorem KN(hK:X.K=K:=by rfl):SlR X (AzS K):=by subst hK;exact Aww
theorem Bq{l:Expr}{tl:TE}(hl:PE X l tl)(hK:X.K=K:=by rfl):PI X tg l (Axy K tl):=by subst hK;exact Awp hl
theorem Atm{a:Expr}{ta:TE}(ha:PE X a ta)(he:∀ whole,isTrue a X.env whole=(do let v ← whole;standAt a.pos;holding [v] (truthy v)))(hK:X.K=K:=by rfl) :
  PT X a (fun σ H Q=>ta σ H fun x H'=>∃ k,Aya K x H' k∧Q k H'):=by subst hK;exact Aup ha he
variable {o e:Expr}{es:List Expr}{to:TE}{t:TA}{name:Str}{apos cpos:Pos}{T id:String}{r:V→List V→Hp→VK→Prop}
theorem Dq(pa:PlainAttrs T)(slot:Slot T name id)(hty:typeOf (.builtin id)=pure (.type "method_descriptor")) (hm:MtR X id r) (ho:PE X o to) (ha:PA X (e::es) t)
  (hbase:attributeBase o name X.env (eval o X.env)=eval o X.env:=by rfl)
  (hfew:((backTo cpos (starEach (e::es) X.env)).all (fun x=>!x.1) && (backToKw cpos (keywordEach [] X.env)).all (fun x=>x.1.isSome)
   && decide ((e::es).length+([]:List Keyword).length+(if ([]:List Keyword).isEmpty then 0 else 1)<30))=true:=by rfl)
  (hline:(apos.endLine == cpos.line)=true:=by rfl) (hs:starEach (e::es) X.env=(false,eval e X.env)::starEach es X.env:=by rfl) (hplain:(backTo cpos (starEach es X.env)).any (·.1)=false:=by rfl) (hK:X.K=K:=by rfl) :
  PE X (.Call (.Attribute o name apos) (e::es) [] cpos) (tBM K T r to t):=by
 subst hK
 exact AzT pa slot hty hm ho ha hbase hfew hline hs hplain
end
open PySem PySem.Spec PyProof.Rows
abbrev exO (C t:Addr) (tb:Value):Obj:={ cls:=.ref C,data:=.fields #[.ref t,tb,.none,.none,.bool false,.none] }
structure Fx (B:Heap) (l:List Env) (e C t:Addr) (fl:Value) (h:Heap):Prop where
 st:B.StaysIn h
 ne:B.get? e=none
 fr:h.FunFrames B l
 ob:∃(T:Addr) (oT:Obj) (ts:Array Value),h.get? e=some (exO C t (.ref T))∧B.get? T=none∧T≠e∧h.get? T=some oT∧oT.data=.fields ts∧ts[3]?=some fl
section
variable {M:Model}{A:Around}{E:Value→Shared→Prop}{s:Shared}{B:Heap}{env:Env}{l:List Env}{e C t L:Addr}
end
open PySem PySem.Spec PyProof.Rows
section
variable {M:Model}{A:Around}{E:Value→Shared→Prop}{s:Shared}{B:Heap}{env:Env}{l:List Env}{e C t L:Addr}
end
structure Bk (P:Program) (w:World) (outer:List Env) (H:Hp) (h:Heap) (H':Hp) (B h':Heap):Prop where
 ok:HOk P w H' B
 keep:∀ b o,h.get? b=some o→H b=none→b∉frs outer→B.get? b=some o
 slot:∀ b o,h.get? b=some o→b∈frs outer→∃ sl,h'.get? b=some { o with slots:=sl }
 free:∀ b o,h.get? b=some o→H b=none→H' b=none
 there:∀ b o,h.get? b=some o→b∉frs outer→∃ o',B.get? b=some o'
 tups:∀ b xs,H b=some (.tup xs)→H' b=some (.tup xs)
 Aeg:∀ b o u,H b=some (.frz o u)→H' b=some (.frz o u)
 Aht:∀ b ps,H b=some (.tbl ps)→∃ more,H' b=some (.tbl (ps++more))
def CX1 (P:Program)(w:World):CXT:=fun outer H s E e s'=>∃ ea C t H' B,e=.ref ea∧Fx B outer ea C t .none s'.heap∧s'.os=s.os∧AllBare s'.gens∧Bk P w outer H s.heap H' B s'.heap∧E (.ref C) none H'
inductive Fly (B:Heap) (l:List Env) (L ea C t:Addr) (h:Heap):Prop where
 | new (st:B.StaysIn h) (ne:B.get? ea=none) (fr:h.FunFrames B l) (ob:h.get? ea=some (exO C t .none))
 | came (x:Fx B l ea C t .none h)
 | seen (x:Fx B l ea C t (rawInt L) h)
def FlX (X:Cx)(E:XK):Value→Shared→Prop:=fun e s'=>∃ ea C t H' B,e=.ref ea∧Fly B X.stack X.env.locals ea C t s'.heap∧s'.os=X.s₀.os∧AllBare s'.gens∧Bk X.prog X.w X.outer X.H₀ X.s₀.heap H' B s'.heap∧E (.ref C) none H'
structure Body (X:Cx):Prop where
 stack:X.stack=X.env::X.outer
 frame:X.env.frame=some X.env.locals
 ex:X.ex=[]
section
variable {X:Cx}{pins:List (Addr × Obj)}{σ:St}{H:Hp}{s s':Shared}{E:XK}{e:Value}
end
open PySem PySem.Spec PyProof.Rows
def A2c (K:PySem.W.Frag)(C:Addr):List Value:=match K.lookup C with
 | some ⟨_,_,.cls cd,_⟩=>cd.mro
 | _=>[]
def A2d (C:Addr)(E:XK)(t:TA):TS:=fun _ σ H=>t σ H fun vs H1=>vs.length≤sizeLine∧E (.ref C) none H1
section
variable {X:Cx}{x:Str}{C:Addr}{bmB bmN:List Value}{B Bn nid A3r iid A3s:String}{E:XK}{e:Expr}{es:List Expr}{t:TA}{np cpos pos:Pos}
end
abbrev cx1 (P:Program) (w:World) (K:PySem.W.Frag) (mg:Str→Option Value) (base:Heap) (N:List Str) (qual:Str) (scope:Scope) (f:Addr) (cd:Value) (A:Around) (outer:List Env) (s:Shared) (H:Hp) (E:XK):Cx :=
 (Apf (CX1 P w) P w K mg base N qual scope f cd A outer s H E).wish (FlX (Apf (CX1 P w) P w K mg base N qual scope f cd A outer s H E) E)
section
variable {P:Program}{w:World}{K:PySem.W.Frag}{mg:Str→Option Value}{base:Heap}
end
def PEX (X:Cx)(e:Expr)(t:XK→TE):Prop:=∀(pins:List (Addr × Obj)) (s:Shared) (σ:St) (H:Hp) (Q:VK) (E:XK),Inv X pins σ H s→t E σ H Q →
 wpAny (model X.prog X.w) X.A (eval e X.env) (EP X pins σ Q) (fun ex s'=>∃ H1 s1,Inv X pins σ H1 s1∧CX1 X.prog X.w X.stack H1 s1 E ex s') s
section
variable {X:Cx}{k:Nat}{f C:Addr}{fd:FuncData}{ps:List Str}{sp:Sp}{dvs:List V}{ds:List Value}{x m:Str}{p pos apos:Pos}{e o:Expr}{es:List Expr}{ta:TE}{t:TA}
end
open PySem PySem.Spec PyProof.Rows
def exH (C a:Addr):HO:=.ext fun h=>∃ t tb,h.get? a=some (exO C t tb)
section
variable {X:Cx}{pins:List (Addr × Obj)}{σ:St}{H H':Hp}{s s':Shared}{B h2:Heap}{ea C t:Addr}{fl:Value}
abbrev Cx.hdl (X:Cx) (e:Addr):Cx:={ X with A:=X.A.mark (some (.ref e)),calm:=false,xe:=fun _ _=>False }
end
open PySem PySem.Spec PyProof.Rows
section
variable {M:Model}{A:Around}{E:Value→Shared→Prop}{h:Heap}{g:Array GenState}{d:Drawn}{t:Nat}{os:OsState}
end
abbrev WX (X:Cx) (pins:List (Addr × Obj)) (σ:St) (E:XK):Value→Shared→Prop:=fun ex s'=>∃ H1 s1,Inv X pins σ H1 s1∧CX1 X.prog X.w X.stack H1 s1 E ex s'
def PSX (X:Cx)(st:Stmt)(t:XK→TS):Prop:=∀(pins:List (Addr × Obj)) (s:Shared) (σ:St) (H:Hp) (D:Ends) (E:XK),Inv X pins σ H s→t E D σ H→wpAny (model X.prog X.w) X.A (exec st X.env) (SP X pins D) (WX X pins σ E) s
def A3t (X:Cx)(st:List Stmt)(t:XK→TS):Prop:=∀(pins:List (Addr × Obj)) (s:Shared) (σ:St) (H:Hp) (D:Ends) (E:XK),Inv X pins σ H s→t E D σ H→wpAny (model X.prog X.w) X.A (execs st X.env) (SP X pins D) (WX X pins σ E) s
section
variable {X:Cx}{e:Expr}{t u:XK→TS}{te:XK→TE}{pos:Pos}{st:Stmt}
abbrev Ends.un (D:Ends) (j:Nat):Ends:={ nx:=fun σ H=>D.nx (σ.set j none) H,rt:=D.rt,bk:=fun σ H=>D.bk (σ.set j none) H,ct:=fun σ H=>D.ct (σ.set j none) H }
def Sub (K:PySem.W.Frag)(C D:Addr):Prop:=(∃ bm nid,PySem.W.excIn K C bm nid=true)∧(A2c K C).contains (.ref D)=true
def A3u (K:PySem.W.Frag)(Ch:Addr)(j:Nat)(t:XK→TS)(ts:TS):TS:=fun D σ H=>t (fun c _ H'=>∃ C,c=.ref C∧Sub K C Ch∧∀ ea,H' ea=none→ts (D.un j) (σ.set j (some (.ref ea))) (upd H' ea (exH C ea))) D σ H
end
open PySem PySem.Spec PyProof.Rows
structure ExC (K:PySem.W.Frag) (C:Addr):Prop where
 ga:PySem.W.findIn K (.ref C) "__getattribute__" = some (some (.builtin "BaseException.__getattribute__"))
 gt:PySem.W.findIn K (.ref C) "__getattr__" = some none
 cl:PySem.W.findIn K (.ref C) "__class__" = some (some (.builtin "object.__class__"))
 gc:PySem.W.specialIn K (.builtin "object.__class__") "__get__" = some (some (.builtin "getset_descriptor.__get__"))
 tk:PySem.W.takesIn K (.builtin "object.__class__")=some true
 ob:PySem.W.mroIn K C (.type "object")=some true
 be:PySem.W.mroIn K C (.type "BaseException")=some true
 is:(PySem.W.clsIn K C).isSome=true
section
variable {prog:Program}{w:World}{A:Around}{E:Value→Shared→Prop}{s:Shared}{K:PySem.W.Frag}{x C t:Addr}{tb:Value}
end
def A3v (K:PySem.W.Frag):List V→Hp→VK→Prop:=fun vs H Q=>∃ a C b,H a=some (exH C a)∧ExC K C ∧
 ((∃ n,vs=[.ref a,.ty n]∧PySem.W.kitOne K (.ref C) (.type n)=some b)∨(∃ D,vs=[.ref a,.ref D]∧PySem.W.kitOne K (.ref C) (.ref D)=some b))∧Q (.bl b) H
section
variable {X:Cx}{K:PySem.W.Frag}
variable {CX:CXT}{k:Nat}{ps:List Str}{sp:Addr→Sp}{E:XK}{m:Str}{pos apos:Pos}{o:Expr}{ta:TE}
def A2e (K:PySem.W.Frag)(m:Str)(sp:Addr→Sp)(E:XK)(ta:TE):TE:=fun σ H Q=>ta σ H fun x H1=>∃ a C,x=.ref a∧H1 a=some (exH C a)∧sp C [x] H1 Q E
end
open PySem PySem.Spec PyProof.Rows
abbrev vE:List Value:=[.type "ValueError", .type "Exception", .type "BaseException", .type "object"]
abbrev vN:String := "ValueError.__new__"
structure Exn (K:PySem.W.Frag) (C:Addr):Prop where
 q:PySem.W.excIn K C vE vN=true
 c:ExC K C
 ty:PySem.W.typeIn K (.ref C)=some (.type "type")
 ve:PySem.W.mroIn K C (.type "ValueError")=some true
theorem Ah5{K:PySem.W.Frag}{C:Addr}(q:PySem.W.excIn K C vE vN=true)(ga:PySem.W.findIn K (.ref C) "__getattribute__" = some (some (.builtin "BaseException.__getattribute__"))) (gt:PySem.W.findIn K (.ref C) "__getattr__" = some none)
  (cl:PySem.W.findIn K (.ref C) "__class__" = some (some (.builtin "object.__class__"))) (gc:PySem.W.specialIn K (.builtin "object.__class__") "__get__" = some (some (.builtin "getset_descriptor.__get__"))) (tk:PySem.W.takesIn K (.builtin "object.__class__")=some true)
  (ob:PySem.W.mroIn K C (.type "object")=some true) (be:PySem.W.mroIn K C (.type "BaseException")=some true) (is:PySem.W.isClsIn K C=true) (ty:PySem.W.typeIn K (.ref C)=some (.type "type")) (ve:PySem.W.mroIn K C (.type "ValueError")=some true):Exn K C :=
 ⟨q,⟨ga,gt,cl,gc,tk,ob,be,is⟩,ty,ve⟩
section
variable {X:Cx}{CX:CXT}{k:Nat}{C f:Addr}{fd:FuncData}{ps:List Str}{sp:Sp}{E:XK}{m:Str}{pos apos:Pos}{o:Expr}{ta:TE}
def A2f (C:Addr)(sp:Sp)(E:XK)(ta:TE):TE:=fun σ H Q=>ta σ H fun x H1=>∃ a,x=.ref a∧H1 a=some (exH C a)∧sp [x] H1 Q E
end
def Hb (s:Stmt):List Stmt:=match s with
 | .ClassDef _ _ _ b _ _ _ _ _ _ _=>b
 | _=>[]
structure Mf (K:PySem.W.Frag) (x q:Str) (st:Stmt) (ps:List Str) (C f:Addr) (fd:FuncData):Prop where
 F:Fun K x q st f fd
 m:Meth K C x f
 b:Binds K fd ps []
open PySem PySem.Spec PyProof.Rows
open Builtin Builtin.Str
def AnI (u:List Nat)(lo hi:Option Int):List Nat:=(u.drop (HT.sIx u.length 0 lo)).take (HT.sIx u.length u.length hi-HT.sIx u.length 0 lo)
theorem Ayu(a b:Nat):sliceRange (a:Int) (b:Int) 1=(List.range (b-a)).map fun k=>a+k:=by
 unfold sliceRange
 simp only [show(1:Int)>0 by decide,if_true]
 by_cases h:(a:Int)<(b:Int)
 ·rw[if_pos h,Int.ediv_one,show(b:Int)-(a:Int)+1-1=((b-a:Nat):Int) by omega,A4m]
  exact A5j fun k _=>by omega
 ·rw[if_neg h,show b-a=0 by omega]
  rfl
theorem AcG(n d:Nat)(i:Int):max 0 (min (if i<0 then i+(n:Int) else i) (n:Int))=(HT.sIx n d (some i):Int):=by
 show _=(((if i<0 then (i+(n:Int)).toNat else min i.toNat n):Nat):Int)
 by_cases h:i<0
 ·rw[if_pos h,if_pos h];omega
 ·rw[if_neg h,if_neg h];omega
theorem idx_eq(n:Nat)(lo hi:Option Int):strSliceIndices lo hi 1 n=(List.range (HT.sIx n n hi-HT.sIx n 0 lo)).map fun k=>HT.sIx n 0 lo+k:=by
 rw[← Ayu]
 cases lo with
 | none =>
  cases hi with
  | none=>rfl
  | some j=>rw[← AcG];rfl
 | some i =>
  cases hi with
  | none=>rw[← AcG n 0 i];rfl
  | some j=>rw[← AcG n 0 i,← AcG n n j];rfl
theorem Au4(u:List Nat)(lo hi:Option Int):Txt.slice (tx u) lo hi=tx (AnI u lo hi):=by
 unfold Txt.slice AnI
 rw[Bf,idx_eq]
 have hle:HT.sIx u.length u.length hi≤u.length:=HT.Ayh _ _ (A3U _) _
 have key:∀(a k:Nat),a+k≤u.length→((List.range k).map fun j=>a+j).filterMap (fun i=>(tx u).cps[i]?)=(u.drop a).take k:=by
  intro a k
  induction k with
  | zero=>intro _;simp
  | succ k ih =>
   intro h
   rw[A5d,A3W,List.filterMap_append,ih (by omega)]
   have:a+k<u.length:=by omega
   simp only [A3X,A4T,A5O,List.filterMap_nil,Ake,A3R this]
   rw[List.take_succ,A4Z,A3R this]
   rfl
 split
 next h =>
  simp only [A3S,A4H,A4I,beq_iff_eq] at h
  have h2:=h.2
  have:HT.sIx u.length 0 lo=0∨u.length=0:=by omega
  rcases this with e | e
  ·rw[e,List.drop_zero,A4M (by omega)]
  ·rw[A6i e];simp
 next h =>
  by_cases hlt:HT.sIx u.length 0 lo≤HT.sIx u.length u.length hi
  ·show(Str.mk _)=_
   rw[key _ _ (by omega)]
   rfl
  ·have e:HT.sIx u.length u.length hi-HT.sIx u.length 0 lo=0:=by omega
   rw[e]
   simp[tx]
section
variable {X:Cx}
theorem Arc:SlR X (fun x lo hi H Q=>∃ u:List Nat,x=.str (tx u)∧u.length≤sizeLine∧Q (.str (tx (AnI u lo hi))) H):=by
 intro pins s σ H x v vl vu lo hi sl Q I rx hs pl pu h
 obtain⟨u,rfl,hz,q⟩:=h
 obtain⟨t,rfl⟩:=rx
 rw[← Au4] at q
 refine⟨"str", _,F.slot_str_getitem.lookup,typeIs_str _ _ _,?_⟩
 have hsz:(tx u).length≤sizeLine:=by rw[Bf];exact hz
 obtain⟨os,hos,hcs,hds⟩:=id hs
 have fin:∀(l u':Option (Int × Tok)),s.heap.IsSlice sl l u' none→Q (.str (Txt.slice (tx u) (l.map (·.1)) (u'.map (·.1)))) H→wpAny (model X.prog X.w) X.A (getItem (.str (tx u) t) (.ref sl)) (EP X pins σ Q) X.xe s:=fun l u' z q' =>
  wpAny_getItem_str_slice z rfl (post_val_or_str ⟨A4q (Txt.slice_le (tx u) _ _) hsz,fun t' k=>⟨.str _,H,I.tok _,⟨t',rfl⟩,q'⟩⟩)
 cases pl with
 | none=>cases pu with
  | none=>exact fin none none ⟨os,hos,hcs,hds⟩ q
  | int j tj=>exact fin none (some (j,tj)) ⟨os,hos,hcs,hds⟩ q
 | int i ti=>cases pu with
  | none=>exact fin (some (i,ti)) none ⟨os,hos,hcs,hds⟩ q
  | int j tj=>exact fin (some (i,ti)) (some (j,tj)) ⟨os,hos,hcs,hds⟩ q
end
open PySem PySem.Spec PyProof.Rows
theorem Apx:∀(xs:List V) (us:List Value),xs.length=us.length→(∀(i:Nat) x u,xs[i]?=some x→us[i]?=some u→RelV x u)→Vals xs us
 | [],[],_,_=>.nil
 | [],_::_,h,_=>by simp at h
 | _::_,[],h,_=>by simp at h
 | x::xs,u::us,h,p=>.cons (p 0 x u rfl rfl) (Apx xs us (by simpa using h) fun i y v e1 e2=>p (i+1) y v e1 e2)
def Au5 (p:Addr)(a b c:Int):HO:=.ext fun h=>∃ t u v,IsRange h p a b c t u v
def Ah6 (a c:Int)(n:Nat):List Int:=(List.range n).map fun(i:Nat)=>a+(i:Int)*c
section
variable {X:Cx}{K:PySem.W.Frag}
theorem Apy{pins:List (Addr × Obj)}{σ:St}{H:Hp}{s:Shared}{a b c:Int}{t u v:Tok}{Q:VK}{tk:Nat}(I:Inv X pins σ H s)(q:∀ p,H p=none→Q (.ref p) (upd H p (Au5 p a b c))) :
  EP X pins σ Q (.ref s.heap.objs.size) { s with heap:=s.heap.push { cls:=.type "range", data:=.fields #[.int a t,.int b u,.int c v] },toks:=tk }:=by
 have hg:(s.heap.push { cls:=.type "range", data:=.fields #[.int a t,.int b u,.int c v] }).get? s.heap.objs.size=some { cls:=.type "range", data:=.fields #[.int a t,.int b u,.int c v] }:=Heap.get?_push_size _ rfl
 refine⟨.ref s.heap.objs.size,_,I.laid (o:=Au5 s.heap.objs.size a b c) (fun b o e=>Heap.get?_push_of_some _ e) (A3U _) ?_,rfl,q _ (I.hok.fresh (A3U _))⟩
 exact⟨⟨t,u,v,hg⟩,⟨_,hg⟩,fun h1 h2 y k=>by
  obtain⟨t',u',v',y⟩:=y
  exact⟨t',u',v',k _ y⟩⟩
theorem Atn:Oj X (.type "range") (fun xs H Q=>∃ a b,xs=[.int a,.int b]∧∀ p,H p=none→Q (.ref p) (upd H p (Au5 p a b 1))):=by
 intro pins s σ H xs us Q I rv h
 obtain⟨a,b,rfl,q⟩:=h
 obtain⟨u1,u2,rfl,r1,r2⟩:=rv.two
 obtain⟨t,rfl⟩:=r1
 obtain⟨t',rfl⟩:=r2
 exact call_range_2 (Apy I q)
theorem Ato:Oj X (.type "range") (fun xs H Q=>∃ a b c,xs=[.int a,.int b,.int c]∧c≠0∧c.natAbs<1000000∧∀ p,H p=none→Q (.ref p) (upd H p (Au5 p a b c))):=by
 intro pins s σ H xs us Q I rv h
 obtain⟨a,b,c,rfl,hc,hz,q⟩:=h
 cases rv with
 | cons r1 rv=>cases rv with
  | cons r2 rv=>cases rv with
   | cons r3 rv =>
    cases rv
    obtain⟨t,rfl⟩:=r1
    obtain⟨t',rfl⟩:=r2
    obtain⟨t'',rfl⟩:=r3
    exact call_range_3 hc (Apy I q) (Or.inl (PyProof.noPylong_small (by omega)))
theorem Akj(hc:X.calm=true:=by rfl):Oj X (.type "list") (fun xs H Q=>∃(p:Addr) (a b c:Int) (n:Nat),xs=[.ref p]∧H p=some (Au5 p a b c)∧Builtin.Range.small a b c=true∧Builtin.Range.rangeSize a b c=n∧n≤1000 ∧
  ∀ l,H l=none→Q (.ref l) (upd H l (.lst (vI (Ah6 a c n))))):=by
 intro pins s σ H xs us Q I rv h
 obtain⟨p,a,b,c,n,rfl,hp,hs,hn,hz,q⟩:=h
 obtain⟨u,rfl,ru⟩:=rv.one
 cases ru
 obtain⟨⟨t,u,v,hr⟩,_,_⟩:=I.hok p _ hp
 refine call_list_range (I.ok.hd hc) hr hs hn (A4q hz (by decide)) fun h' tk acc c' hk hl hi=>?_
 refine⟨.ref s.heap.objs.size,_,I.laid (t':=tk) (o:=.lst (vI (Ah6 a c n))) hk (A3U _) ?_,rfl,q _ (I.hok.fresh (A3U _))⟩
 have hlen:(vI (Ah6 a c n)).length=n:=by rw[Bd];unfold Ah6;rw[A3S,A4H]
 refine⟨by rw[hlen];exact A4X (Tf hz),acc.toList,c',?_,hl⟩
 refine Apx _ _ (by rw[hlen,Array.length_toList,hi.1]) fun i x u e1 e2=>?_
 obtain⟨z,hz1,rfl⟩:=JM e1
 obtain⟨t',rfl⟩:=hi.2 i u (by rw[← Array.getElem?_toList];exact e2)
 have hin:i<n:=by
  have:=(List.getElem?_eq_some_iff.mp e1).1
  rwa [hlen] at this
 unfold Ah6 at hz1
 rw[A4e,A5k hin] at hz1
 cases hz1
 exact⟨t',rfl⟩
theorem Atp:Oj X (.type "int") (fun xs H Q=>∃ z n,xs=[.str z]∧PySem.intText? z=some n∧z.length≤640∧Q (.int n) H):=by
 intro pins s σ H xs us Q I rv h
 obtain⟨z,n,rfl,hn,hl,q⟩:=h
 obtain⟨u,rfl,t,rfl⟩:=rv.one
 exact PySem.W.KIN.call_text hn hl ⟨.int n,H,I.tok _,⟨_,rfl⟩,q⟩
theorem Atq(hK:X.K=K:=by rfl)(hc:X.calm=true:=by rfl):Oj X (.builtin "sum") (fun xs H Q=>∃ a ns,xs=[.ref a]∧SqL K H a (vI ns)∧Q (.int ns.sum) H):=by
 subst hK
 intro pins s σ H xs us Q I rv h
 obtain⟨a,ns,rfl,hq,q⟩:=h
 obtain⟨u,rfl,ru⟩:=rv.one
 cases ru
 obtain⟨its,r,pl,hl⟩:=I.list hq
 have hi:IntsAre its ns:=intsAre_of r
 obtain⟨xs,hx⟩:=hi.allInts.items
 have hL:s.heap.IsList a (intItems xs):=by rw[← hx];exact pl.isList
 refine sum_intListG (I.ok.hd hc) hL fun h' tk t' hk=>?_
 have e1:xs.toList.map (·.1)=ns:=by
  have z:numsOf its.toArray.toList=ns:=hi.numsOf
  rw[hx,nums_intItems] at z
  exact z
 rw[show preSum (numAt xs) xs.size=ns.sum by rw[preSum_eq,A4M (by simp),e1]]
 exact⟨.int ns.sum,H,I.kept hk,⟨t',rfl⟩,q⟩
theorem Aw5(c:Nat):(!(Builtin.Str.occurrences "0123456789" ⟨#[c]⟩ 0 (Str.length "0123456789") 1).isEmpty)=decide (48≤c∧c≤57):=by
 rw[StrLaws.found_one]
 have e:(("0123456789" : Str)).cps.toList=[48,49,50,51,52,53,54,55,56,57]:=by decide +kernel
 rw[e]
 apply decide_eq_decide.mpr
 simp only [A4w,A4x,or_false]
 omega
end
open PySem PySem.Spec PyProof.Rows
section
variable {X:Cx}{tg:Expr}
def A2g (ta:TA):TI:=fun σ H R=>ta σ H fun vs H1=>∃ i j:Int,vs=[.int i,.int j]∧R (Itr i (j-i).toNat) H1
end
section
variable {X:Cx}
theorem Apz(l:List Nat):∀(k:Nat) (acc:List Nat),List.foldl (fun x1 x2=>x1++x2) acc.toArray (List.replicate k l.toArray)=(acc++(List.replicate k l).flatten).toArray
 | 0,acc=>by simp
 | k+1,acc=>by
  have e:acc.toArray++l.toArray=(acc++l).toArray:=by simp
  have e2:(acc++l)++(List.replicate k l).flatten=acc++(List.replicate (k+1) l).flatten:=by
   rw[A4O,A4n,A4U]
  rw[← e2,← Apz l k (acc++l),← e,A4O,A5R]
def A0c:R2:=fun x y H Q=>∃ u n,x=.str (tx u)∧y=.int n∧0≤n∧n≤1000000∧u.length*n.toNat≤sizeLine∧Q (.str (tx (List.replicate n.toNat u).flatten)) H
theorem Aw6:OpR X (binaryOp .Mult) A0c:=by
 intro pins s σ H x y v z Q I rx ry h
 obtain⟨u,n,rfl,rfl,h0,h1,h2,q⟩:=h
 obtain⟨t,rfl⟩:=rx
 obtain⟨t',rfl⟩:=ry
 have hsz:sizeLine=16777216:=sizeLine_eq
 have hlen:(tx u).length=u.length:=Bf u
 refine P.mul_str ?_ (fun c1 c2=>?_) (fun c1 c2=>?_) ?_
 ·rw[decide_eq_false (by omega),decide_eq_false (by omega)]
  rfl
 ·rw[hlen]
  have hn:0<n:=by omega
  have hm:(u.length:Int)*n≤16777216:=by
   have e:n=(n.toNat:Int):=by omega
   rw[e,← A5W]
   omega
  have:(u.length:Int)≤(2 ^ 63-1) / n:=(Int.le_ediv_iff_mul_le hn).mpr (by omega)
  omega
 ·rw[hlen]
  exact decide_eq_false (by omega)
 ·split
  ·next c =>
   have e:n=0:=by omega
   rw[e] at q
   exact⟨by decide,.str (tx []),H,I.tok _,⟨_,rfl⟩,q⟩
  ·split
   ·next c =>
    have e:tx (List.replicate n.toNat u).flatten=tx u:=by
     simp only [A5X,beq_iff_eq] at c
     rcases c with c | c
     ·rw[c];simp
     ·rw[hlen] at c
      rw[A6i c]
      simp
    rw[e] at q
    exact⟨.str (tx u),H,I,⟨_,rfl⟩,q⟩
   ·have hf:(⟨(List.replicate n.toNat (tx u).cps).foldl (·++·) #[]⟩:Str)=tx (List.replicate n.toNat u).flatten:=by
     have:=Apz u n.toNat []
     simp only [A5T] at this
     exact congrArg Str.mk this
    rw[hf]
    refine⟨?_,.str (tx (List.replicate n.toNat u).flatten),H,I.tok _,⟨_,rfl⟩,q⟩
    rw[Bf,len_rep,A4J]
    exact h2
def A2h:V→List V→Hp→VK→Prop:=fun x vs H Q=>∃ u c,x=.str (tx u)∧vs=[.str ⟨#[c]⟩]∧Q (.int (u.count c:Nat)) H
end
open PySem PySem.Spec PyProof.Rows
section
variable {X:Cx}{K:PySem.W.Frag}
def A2P (K:PySem.W.Frag):List V→Hp→VK→Prop:=fun vs H Q=>∃(a C p:Addr) (Ds:List Addr) (b:Bool),vs=[.ref a,.ref p]∧H a=some (exH C a)∧ExC K C∧H p=some (.tup (Ds.map V.ref))∧PySem.W.kitAny K (.ref C) (Ds.map Value.ref)=some b∧Q (.bl b) H
end
open PySem PySem.Spec PyProof.Rows
section
variable {X:Cx}{K:PySem.W.Frag}
def A3w (K:PySem.W.Frag):R2:=fun x y H Q=>∃ p q xs ys,x=.ref p∧y=.ref q∧SqL K H p xs∧SqL K H q ys∧xs.all Gp=true∧ys.all Gp=true∧Q (.bl (!eqL xs ys)) H
end
open PySem PySem.Spec PyProof.Rows
theorem MF.Afn{k:Nat}{A:Around}(r:MF k A):A.units+100<cLine:=by have:=r.un;omega
def A0d (K:PySem.W.Frag)(H:Hp)(p q:Addr):Prop:=∃ as bs:List Addr,SqL K H p (as.map V.ref)∧SqL K H q (bs.map V.ref)∧as.length=bs.length ∧
 ∀(i:Nat) (a b:Addr),as[i]?=some a→bs[i]?=some b→∃ xs:List V,xs.all Gp=true∧SqL K H a xs∧SqL K H b xs
section
variable {X:Cx}{K:PySem.W.Frag}
def A2Q (K:PySem.W.Frag):R2:=fun x y H Q=>∃ p q,x=.ref p∧y=.ref q∧A0d K H p q∧Q (.bl false) H
def A2R (K:PySem.W.Frag):R2:=fun x y H Q=>∃ p q,x=.ref p∧y=.ref q∧A0d K H p q∧Q (.bl true) H
theorem Ard(z:Int):∀ ks:List Int,inV (.int z) (vI ks)=decide (z∈ks)
 | []=>by simp[inV,vI]
 | k::ks=>by
  have ih:=Ard z ks
  unfold inV vI at ih ⊢
  rw[A3X,A5Q,ih]
  by_cases h:k=z
  ·subst h
   have:eqV (V.int k) (V.int k)=true:=Akc rfl
   rw[this]
   simp
  ·have:eqV (V.int k) (V.int z)=false:=by simp[eqV,h]
   rw[this,Bool.false_or]
   exact decide_eq_decide.mpr (by simp[Ne.symm h])
end
open PySem PySem.Spec PyProof.Rows
abbrev A2S:Obj:={ cls:=.type "dict", data:=.dict #[] }
abbrev A2T:Obj:={ cls:=.type "cell", data:=.cell none }
def A1i (X:Cx)(x:Str)(Nc:List Str)(scope:Scope)(cs:List (Str × Addr))(C:Addr)(fp:List Addr)(s:Shared)(H:Hp):Cx where
 prog:=X.prog
 w:=X.w
 K:=X.K
 mg:=X.mg
 base:=X.base
 A:=X.A
 N:=Nc
 s₀:=s
 H₀:=H
 env:=compEnvC scope cs C X.env
 outer:=X.stack
 stack:=X.stack
 ex:=fp
 fn:=fun y=>y == x
 calm:=X.calm
 pn:=[]
 xe:=fun _ _=>False
structure A1j (X:Cx) (x:Str) (Nc:List Str) (Bh:List Nat) (scope:Scope):Prop where
 kind:scope.kind=.function
 one:scope.names.filter (fun y=>y.2 == .cell)=[(x,.cell)]
 names:∀ y∈scope.names,y.2=.local→scope.names.lookup y.1=some .local
 fr:∀ y∈scope.names,y.2=.free→X.env.scope.names.lookup y.1=some .cell∧scope.names.lookup y.1=some .free
 loc:scope.names.lookup x=some .cell
 len:Nc.length=Bh.length+1
 hd:Nc[0]?=some x
 nd:Nc.Nodup
 cap:∀ k j,Bh[k]?=some j→∃ y,Nc[k+1]?=some y∧X.N[j]?=some y∧scope.names.lookup y=some .free
section
variable {X:Cx}{pins:List (Addr × Obj)}{σ:St}{H:Hp}{s:Shared}
def A3x (scope sc:Scope):Scope:={ scope with names:=scope.names.map fun(n,k)=>if (k == .free && sc.kind == .function && sc.names.lookup n == some .cell) then (n,.cell) else (n,k) }
end
open PySem PySem.Spec PyProof.Rows
section
variable {X:Cx}{CX CX':CXT}{k k':Nat}{f f' C C':Addr}{fd fd':FuncData}{ps ps':List Str}{sp sp':Sp}{E:XK}{m:Str}{pos apos:Pos}{o:Expr}{ta:TE}
def Ayv (C C':Addr)(m:Str)(sp sp':Sp)(E:XK)(ta:TE):TE:=fun σ H Q=>ta σ H fun x H1=>∃ a dx fs,x=.ref a∧fs.lookup m=none ∧
 ((H1 a=some (.ins C dx fs)∧sp [x] H1 Q E)∨(H1 a=some (.ins C' dx fs)∧sp' [x] H1 Q E))
theorem Ap0{pl:Sem Bool}(he:PE X o ta)(c:Cls X.K C)(hm:Meth X.K C m f)(F:Aq X.prog X.w X.K X.mg X.base CX k f fd ps sp)(hr:MF k X.A)(hb:Binds X.K fd ps [])(hx:Passes CX X E)
  (c':Cls X.K C') (hm':Meth X.K C' m f') (F':Aq X.prog X.w X.K X.mg X.base CX' k' f' fd' ps' sp') (hr':MF k' X.A) (hb':Binds X.K fd' ps' []) (hx':Passes CX' X E)
  (ht:eval (.Call (.Attribute o m apos) [] [] pos) X.env=(do
   let ov ← eval o X.env
   standAt apos.atName
   let (f,first) ← holding [ov] (getMethod ov m pl)
   callWith pos f first (backTo pos (starEach [] X.env)) (backToKw pos (keywordEach [] X.env))):=by rfl) :
  PE X (.Call (.Attribute o m apos) [] [] pos) (Ayv C C' m sp sp' E ta):=by
 intro pins s σ H Q I h
 refine PySem.W.methodCall_KW (pl:=pl) (thn (he pins s σ H _ I h) fun u s1 ⟨x,H1,I1,rx,a,dx,fs,ex,l,q⟩=>?_) ht
 subst ex
 obtain rfl:u=Value.ref a:=rx
 rcases q with ⟨ea,q⟩ | ⟨ea,q⟩
 ·refine YT I1 ea c hm l ?_
  exact PySem.W.callWith_K0 (first:=[.ref a]) I1.kIn hm.kp (AjX (us:=[.ref a]) (vs:=[.ref a]) F hr hb .nil hx I1 (.cons rfl .nil) (by simpa using q))
 ·refine YT I1 ea c' hm' l ?_
  exact PySem.W.callWith_K0 (first:=[.ref a]) I1.kIn hm'.kp (AjX (us:=[.ref a]) (vs:=[.ref a]) F' hr' hb' .nil hx' I1 (.cons rfl .nil) (by simpa using q))
end
open PySem PySem.Spec PyProof.Rows
def vB (bs:List Bool):List V:=bs.map V.bl
section
variable {X:Cx}{K:PySem.W.Frag}
end
open PySem PySem.Spec PyProof.Rows
section
variable {X:Cx}{K:PySem.W.Frag}
end
open PySem PySem.Spec PyProof.Rows
section
variable {X:Cx}{K:PySem.W.Frag}{o e value:Expr}{f:Str}{pos pos' tpos:Pos}{ta tv:TE}{st:Stmt}{t:TS}
theorem BV(he:PE X e ta)(hb:attributeBase e f X.env (eval e X.env)=eval e X.env)(hK:X.K=K:=by rfl):PE X (.Attribute e f pos) (AzI K ta f):=by subst hK;exact Ayd he hb
theorem R5(ha:PE X o ta)(hv:PE X value tv)(hs:swapsWith value (some (.Attribute o f pos')) pos.line X.env=pure false:=by rfl)(hK:X.K=K:=by rfl):PS X (.Assign [.Attribute o f pos'] value pos) (AzJ K ta tv f):=by subst hK;exact Aye ha hv hs
theorem Are{op:Operator}{rd:V→V→Hp→VK→Prop}(ha:PE X o ta)(hv:PE X value tv)(hop:Ayc X op rd)(hK:X.K=K:=by rfl):PS X (.AugAssign (.Attribute o f tpos) op value pos) (ArX K ta tv rd f):=by subst hK;exact AsX ha hv hop
end
structure Own (K:PySem.W.Frag) (C f:Addr):Prop where
 c:Cls K C
 m:Mk K C f
theorem AnJ{K:PySem.W.Frag}{C f:Addr}(h1:PySem.W.plainGet K C Str.empty=true)(h2:PySem.W.hasDictIn K C=true)(h3:PySem.W.plainOver K C=true)(h4:PySem.W.findIn K (.ref C) "__setattr__" = some (some (.builtin "object.__setattr__")))
  (h5:PySem.W.makesIn K C=true) (h6:PySem.W.findIn K (.ref C) "__init__" = some (some (.ref f))) (h7:PySem.W.isFn K (.ref f)=true) (h8:PySem.W.keepIn K (.ref C)=true):Own K C f:=⟨⟨h1,h2,h3,h4⟩,⟨h5,h6,h7,h8⟩⟩
open PySem PySem.Spec PyProof.Rows
theorem Inv.AjG{X:Cx}{pins:List (Addr × Obj)}{σ:St}{H:Hp}{s:Shared}{h':Heap}{t':Nat}{its:List Addr}(I:Inv X pins σ H s)
  (k:∀ b o,b∉its→s.heap.get? b=some o→h'.get? b=some o) (hf:∀ b∈its,XN X pins H b):Inv X pins σ H { s with heap:=h',toks:=t' }:=by
 have nit:∀ b u,H b=some u→b∉its:=fun b u e z=>by
  have:=(hf b z).1
  rw[this] at e
  cases e
 have nL:X.env.locals∉its:=fun z=>(hf _ z).2.1 rfl
 refine I.step (g':=s.gens) (d':=s.drawn) (ch:=its) (fun b hb=>?_) (fun b o _ _ hc e _=>k b o hc e) (fun b o _ _ hc e _=>⟨o.slots,k b o hc e⟩) (fun _ _ _ _ n=>n)
  (fun b o hc e=>⟨o,k b o hc e⟩) (fun _ _ e=>e) (fun _ _ _ e=>e) (fun b ps e=>⟨#[],by rw[e];simp⟩) (fun m hm=>?_) (fun b u e=>?_) I.bare
 ·obtain⟨_,h2,_,h4,h5,h6⟩:=hf b hb
  exact⟨h4,h2,h5,h6⟩
 ·obtain⟨o,es,ep,ho,r⟩:=hm
  exact⟨o,es,ep,k _ o nL ho,r⟩
 ·refine(I.hok b u e).stay (fun c v hc q=>k c v ?_ q) (fun _ q=>q) fun _ _ q=>q
  rcases hc with z | z
  ·rw[z];exact nit b u e
  ·exact nit c _ z
def Itz (K:PySem.W.Frag)(a b:Addr):It where
 go:=fun i H=>∃ xs ys x y,SqL K H a xs∧SqL K H b ys∧xs[i]?=some x∧ys[i]?=some y
 yld:=fun i H x H'=>∃ T,x=.ref T∧H T=none∧∀ xs ys u v,SqL K H a xs→SqL K H b ys→xs[i]?=some u→ys[i]?=some v→H'=upd H T (.tup [u,v])
 stop:=fun i H=>∃ xs ys,SqL K H a xs∧SqL K H b ys∧(xs.length≤i∨ys.length≤i)
def A0e (z TI TO i1 i2 a b:Addr)(i:Nat)(h:Heap):Prop:=IsZip h z TI TO .none∧IsPair h TI (.ref i1) (.ref i2)∧(∃ p q,IsPair h TO p q)∧h.IsListIter i1 a i∧h.IsListIter i2 b i
theorem Au6{P:Program}{w:World}{K:PySem.W.Frag}{es:List Expr}{kx:Nat}{tp:Pos}{z TI TO i1 i2 a b:Addr}(D:ZipApart z TI TO i1 i2 a b) :
  Turn P w K (.Tuple es kx tp) (Itz K a b) [z,TI,TO,i1,i2] z (A0e z TI TO i1 i2 a b) where
 mem:=by simp
 obj:=fun i h st c hc=>by
  obtain⟨s1,s2,⟨p,q,s3⟩,s4,s5⟩:=st
  simp only [A4w,A4x,or_false] at hc
  rcases hc with e | e | e | e | e
  ·subst e;exact⟨_,s1,fun v z=>by cases (show Data.fields _=Data.cell v from z)⟩
  ·subst e;exact⟨_,s2,fun v z=>by cases (show Data.seq _ _=Data.cell v from z)⟩
  ·subst e;exact⟨_,s3,fun v z=>by cases (show Data.seq _ _=Data.cell v from z)⟩
  ·subst e;obtain⟨o,e,_,d⟩:=s4;exact⟨o,e,fun v z=>by rw[d] at z;cases z⟩
  ·subst e;obtain⟨o,e,_,d⟩:=s5;exact⟨o,e,fun v z=>by rw[d] at z;cases z⟩
 keep:=fun i h h' st k=>by
  obtain⟨s1,s2,⟨p,q,s3⟩,s4,s5⟩:=st
  exact⟨k _ (by simp) _ s1,k _ (by simp) _ s2,⟨p,q,k _ (by simp) _ s3⟩,s4.at fun o e=>k _ (by simp) o e,s5.at fun o e=>k _ (by simp) o e⟩
 item:=by
  intro X hP hw hK hc i pins s σ H E I hf st hg
  subst hP hw hK
  obtain⟨xs,ys,x,y,hq1,hq2,hx,hy⟩:=hg
  obtain⟨Ajg,rv1,p1,_⟩:=I.list hq1
  obtain⟨its2,rv2,p2,_⟩:=I.list hq2
  obtain⟨u,hu,ru⟩:=rv1.get hx
  obtain⟨v,hv,rw'⟩:=rv2.get hy
  obtain⟨s1,s2,⟨p,q,s3⟩,s4,s5⟩:=st
  refine wpAny_pyNext_zip_item D s1 s2 s3 s4 s5 p1.isList p2.isList (x:=u) (y:=v) (by simpa using hu) (by simpa using hv) fun h1 z1 t1 j1 j2 hT hsz kk=>?_
  refine⟨_,rfl,wpAny_letOwnedTupleGo_zip z1 fun h2 z2 sb=>?_⟩
  have zl:z<s.heap.objs.size:=Heap.lt_size s1
  have TIl:TI<s.heap.objs.size:=Heap.lt_size s2
  have TOl:TO<s.heap.objs.size:=Heap.lt_size s3
  have i1l:i1<s.heap.objs.size:=by obtain⟨_,e,_⟩:=s4;exact Heap.lt_size e
  have i2l:i2<s.heap.objs.size:=by obtain⟨_,e,_⟩:=s5;exact Heap.lt_size e
  have up:∀ c o,c≠z→h1.get? c=some o→h2.get? c=some o:=fun c o c1 e=>(sb.2 c c1).trans e
  have hTn:H s.heap.objs.size=none:=I.hok.fresh (A3U _)
  have I1:Inv X pins σ (upd H s.heap.objs.size (.tup [x,y])) { s with heap:=s.heap.push { cls:=.type "tuple", data:=.seq #[u,v] },toks:=s.toks } :=
   I.laid (fun c o e=>Heap.get?_push_of_some _ e) (A3U _) ⟨by show 2≤sizeLine;decide,[u,v],.cons ru (.cons rw' .nil),⟨_,Heap.get?_push_size _ rfl,rfl,_,rfl⟩⟩
  have fp2:∀ c∈[z,TI,TO,i1,i2],XN X pins (upd H s.heap.objs.size (.tup [x,y])) c:=fun c hc=>by
   obtain⟨f0,f⟩:=hf c hc
   refine⟨?_,f⟩
   have lt:c<s.heap.objs.size:=by
    simp only [A4w,A4x,or_false] at hc
    rcases hc with e | e | e | e | e <;> subst e <;> assumption
   rw[Aw (A4b lt)]
   exact f0
  have I2:Inv X pins σ (upd H s.heap.objs.size (.tup [x,y])) { s with heap:=h2 }:=by
   refine Inv.AjG (s:={ s with heap:=s.heap.push { cls:=.type "tuple", data:=.seq #[u,v] },toks:=s.toks }) (h':=h2) (t':=s.toks) (its:=[z,TI,TO,i1,i2]) I1 (fun c o hc e=>?_) fp2
   simp only [A4w,A4x,or_false,not_or] at hc
   refine up c o hc.1 ?_
   by_cases hcs:c=s.heap.objs.size
   ·subst hcs
    have e':(s.heap.push { cls:=.type "tuple", data:=.seq #[u,v] }).get? s.heap.objs.size=some { cls:=.type "tuple", data:=.seq #[u,v] }:=Heap.get?_push_size _ rfl
    rw[e'] at e
    cases e
    exact hT
   ·have e':s.heap.get? c=some o:=by
     rw[← e]
     exact(Heap.get?_push_ne _ _ _ hcs).symm
    exact kk c o hc.1 hc.2.2.1 hc.2.2.2.1 hc.2.2.2.2 e'
  refine⟨.ref s.heap.objs.size,_,I2,rfl,⟨s.heap.objs.size,rfl,hTn,fun xs' ys' u' v' a1 a2 a3 a4=>?_⟩,⟨z2,up _ _ D.TIz (kk _ _ D.TIz D.TITO D.TIi1 D.TIi2 s2),⟨u,v,up _ _ D.TOz t1⟩,j1.at fun o e=>up _ o D.i1z e,j2.at fun o e=>up _ o D.i2z e⟩,fun c hc=>(fp2 c hc).1⟩
  rw[I.M9 a1 hq1,hx] at a3
  rw[I.M9 a2 hq2,hy] at a4
  cases a3
  cases a4
  rfl
 done:=by
  intro X hP hw hK hc i pins s σ H E I hf st hg
  subst hP hw hK
  obtain⟨xs,ys,hq1,hq2,hend⟩:=hg
  obtain⟨Ajg,rv1,p1,_⟩:=I.list hq1
  obtain⟨its2,rv2,p2,_⟩:=I.list hq2
  have l1:=rv1.length
  have l2:=rv2.length
  obtain⟨s1,s2,⟨p,q,s3⟩,s4,s5⟩:=st
  refine wpAny_pyNext_zip_end (I.ok.hd hc) D s1 s2 s3 s4 s5 p1.isList p2.isList ?_ fun h' kk=>⟨rfl,I.AjG (t':=s.toks) (its:=[z,TI,TO,i1,i2]) (fun c o hc e=>?_) hf⟩
  ·rcases hend with e | e
   ·exact .inl (by simp;omega)
   ·exact .inr (by simp;omega)
  ·simp only [A4w,A4x,or_false,not_or] at hc
   exact kk c o hc.1 hc.2.2.1 hc.2.2.2.1 hc.2.2.2.2 e
 self:=fun _ _ _ _ _ st h=>wpAny_pyIter_zip st.1 h
section
variable {X:Cx}{es:List Expr}{kx:Nat}{tp:Pos}
def A2i (K:PySem.W.Frag)(ta:TA):TI:=fun σ H R=>ta σ H fun vs H1=>∃ a b,vs=[.ref a,.ref b]∧(∃ xs,SqL K H1 a xs)∧(∃ ys,SqL K H1 b ys)∧R (Itz K a b) H1
theorem Ayw{K:PySem.W.Frag}{a b:Expr}{ta:TA}{p pos:Pos}(hg:Gl X "zip") (hm:X.mg "zip" = none) (ha:PA X [a,b] ta) (hK:X.K=K:=by rfl) (hs:starEach [a,b] X.env=[(false,eval a X.env),(false,eval b X.env)]:=by rfl) (hs2:starEach [b] X.env=[(false,eval b X.env)]:=by rfl) :
  PI X (.Tuple es kx tp) (.Call (.Name "zip" p) [a,b] [] pos) (A2i K ta):=by
 subst hK
 intro pins s σ H R I h
 refine Call_ (QR I hg hm Ara (PyProof.Rows.callWith_type1 (thn (ha pos pins s σ H _ I h) fun us s1 ⟨vs,H1,I1,r1,q1⟩=>?_) (by rw[hs,hs2]) (by rw[hs2];rfl)))
 obtain⟨a,b,e,⟨xs,hq1⟩,⟨ys,hq2⟩,q⟩:=q1
 subst e
 cases r1 with
 | cons r rr =>
  cases rr with
  | cons r' rr =>
   cases rr
   cases r
   cases r'
   obtain⟨Ajg,rv1,p1,_⟩:=I1.list hq1
   obtain⟨its2,rv2,p2,_⟩:=I1.list hq2
   obtain⟨o1,e1,_⟩:=id p1.isList
   obtain⟨o2,e2,_⟩:=id p2.isList
   refine call_zip_2 p1.isList p2.isList fun h' hz hTI hTO j1 j2 hsz kk=>wpAny_pyIter_zip hz ?_
   refine⟨_,[s1.heap.objs.size+4,s1.heap.objs.size+2,s1.heap.objs.size+3,s1.heap.objs.size,s1.heap.objs.size+1],_,_,H1,rfl,I1.kept (t':=s1.toks) kk,Au6 (zipApart_new (Heap.lt_size e1) (Heap.lt_size e2)),
    ⟨hz,hTI,⟨_,_,hTO⟩,j1,j2⟩,fun c hc=>?_,q⟩
   have le:s1.heap.objs.size≤c:=by
    simp only [A4w,A4x,or_false] at hc
    rcases hc with e | e | e | e | e <;> subst e <;> omega
   exact I1.AsR le (I1.hok.fresh le)
theorem Aw7{K:PySem.W.Frag}{a b:Addr}{xs ys:List V}{g:TG}{tb:TS}{D:Ends}{σ:St}{H:Hp}{n:Nat}(hn:n=min xs.length ys.length)(Pv:Nat→St→Hp→Prop)(h0:Pv 0 σ H)(hl:∀ i σ H,Pv i σ H→SqL K H a xs∧SqL K H b ys)
  (hs:∀ i x y σ H T,xs[i]?=some x→ys[i]?=some y→Pv i σ H→H T=none→g (.ref T) σ (upd H T (.tup [x,y])) fun σ2 H2=>tb { D with nx:=Pv (i+1),ct:=Pv (i+1),bk:=D.nx } σ2 H2) (hd:∀ σ H,Pv n σ H→D.nx σ H) :
  ∃ W:Nat→Nat→St→Hp→Prop,(∃ m,W 0 m σ H)∧∀ i m σ H,W i m σ H →
   ((Itz K a b).stop i H∧D.nx σ H)∨((Itz K a b).go i H∧∃ N:St→Hp→Prop,(∀ σ' H',N σ' H'→∃ m',m'<m∧W (i+1) m' σ' H')∧∀ x H',(Itz K a b).yld i H x H'→g x σ H' fun σ2 H2=>tb { D with nx:=N,ct:=N,bk:=D.nx } σ2 H2):=by
 refine⟨fun i m σ H=>m=n-i∧i≤n∧Pv i σ H,⟨n,by simp,A4f _,h0⟩,?_⟩
 rintro i m σ H ⟨rfl,hi,p⟩
 obtain⟨q1,q2⟩:=hl i σ H p
 by_cases hlt:i<n
 ·have x1:i<xs.length:=by omega
  have y1:i<ys.length:=by omega
  refine .inr ⟨⟨xs,ys,xs[i],ys[i],q1,q2,A3R x1,A3R y1⟩,Pv (i+1),fun σ' H' p'=>⟨n-(i+1),by omega,rfl,hlt,p'⟩,fun x H' y=>?_⟩
  obtain⟨T,rfl,hT,y⟩:=y
  have e:=y xs ys _ _ q1 q2 (A3R x1) (A3R y1)
  subst e
  exact hs i _ _ σ H T (A3R x1) (A3R y1) p hT
 ·have e:i=n:=by omega
  subst e
  exact .inl ⟨⟨xs,ys,q1,q2,by omega⟩,hd σ H p⟩
end
open PySem PySem.Spec PyProof.Rows
def A3y (K:PySem.W.Frag):R2:=fun x y H Q=>∃(p q:Addr) (as:List Addr) (ks:List Int),x=.ref p∧y=.ref q∧SqL K H q (as.map V.ref)∧SqT K H p (vI ks) ∧
 (∀ a∈as,∃ js:List Int,SqT K H a (vI js))∧(∃ a∈as,SqT K H a (vI ks))∧Q (.bl true) H
section
variable {X:Cx}{K:PySem.W.Frag}
end
open PySem PySem.Spec PyProof.Rows
section
variable {prog:Program}{w:World}{A:Around}{E:Value→Shared→Prop}{s:Shared}
theorem Au7(hh:A.handled=none)(it:Addr)(x:Str)(t:Tok):Draws prog w A it [it] x.cps.size (fun i v=>∃ c u,x.cps[i]?=some c∧v=.str ⟨#[c]⟩ u) (fun i h=>h.IsStrIter it (strIterType x) x t i):=by
 unfold strIterType
 split
 ·exact Draws.strAscii hh it x t
 ·exact Draws.strWide hh it x t
structure Oq (z TI TO i1 i2:Addr):Prop where
 TIz:TI≠z
 TOz:TO≠z
 i1z:i1≠z
 i2z:i2≠z
 TITO:TI≠TO
 TIi1:TI≠i1
 TIi2:TI≠i2
 TOi1:TO≠i1
 TOi2:TO≠i2
 i12:i1≠i2
theorem Atr{z TI TO i1 i2:Addr}{fp1 fp2:List Addr}{n1 n2 k:Nat}{P1 P2:Nat→Value→Prop}{S1 S2:Nat→Heap→Prop}{a b:Value}{Q:Value→Shared→Prop}(D:Oq z TI TO i1 i2)
  (D1:∀ A':Around,A'.handled=none→Draws prog w A' i1 fp1 n1 P1 S1) (D2:∀ A':Around,A'.handled=none→Draws prog w A' i2 fp2 n2 P2 S2) (hh:A.handled=none)
  (f1:∀ c∈fp1,c≠z∧c≠TO∧c≠i2) (f2:∀ c∈fp2,c≠z∧c≠TO∧c≠i1)
  (hz:IsZip s.heap z TI TO .none) (hTI:IsPair s.heap TI (.ref i1) (.ref i2)) (hTO:IsPair s.heap TO a b) (h1:S1 k s.heap) (h2:S2 k s.heap) (lt1:k<n1) (lt2:k<n2)
  (hQ:∀ x y h' tk,P1 k x→P2 k y→IsZip h' z TI TO (rawInt s.heap.objs.size)→IsPair h' TO x y→S1 (k+1) h'→S2 (k+1) h'→IsPair h' s.heap.objs.size x y→h'.objs.size=s.heap.objs.size+1 →
   (∀ c o,c≠z→c≠TO→c≠i1→c≠i2→s.heap.get? c=some o→h'.get? c=some o)→Q (.ref s.heap.objs.size) { s with heap:=h',toks:=tk }) :
  wpAny (model prog w) A (Builtin.«zip.__next__» ⟨[.ref z],[]⟩) (fun fin s'=>∃ v,fin=.done (.ret v)∧Q v s') E s:=by
 show wpAny _ _ (field (.ref z) 2 >>= _) _ _ _
 refine wpAny_bind (wpAny_field hz rfl (x:=.bool false) rfl ?_)
 show wpAny _ _ (field (.ref z) 3 >>= _) _ _ _
 refine wpAny_bind (wpAny_field hz rfl (x:=.ref TI) rfl ?_)
 refine wpAny_bind (wpAny_seqItems hTI rfl ?_)
 show wpAny _ _ (Builtin.SmallTypes.ownedTupleIsFree (.ref z) >>= _) _ _ _
 refine wpAny_bind ?_
 unfold Builtin.SmallTypes.ownedTupleIsFree
 refine wpAny_bind (wpAny_field hz rfl (x:=.none) rfl (wpAny_pure ?_))
 simp only [if_true]
 refine wpAny_bind (wpAny_rule ?_)
 refine wpAny_bind (wpAny_field hz rfl (x:=.ref TO) rfl ?_)
 refine wpAny_bind (wpAny_setField_rec hz (by simp) fun h₁ hz₁ hs₁=>?_)
 replace hz₁:IsZip h₁ z TI TO .ellipsis:=hz₁
 refine wpAny_bind ?_
 simp only [List.zipIdx_cons,List.zipIdx_nil,A5h,A5Y]
 refine wpAny_bind (wpAny_bind (wpAny_onRaise ?_))
 show wpAny _ _ (Builtin.SmallTypes.nextOf (.ref i1) >>= _) _ _ _
 refine wpAny_bind ((D1 _ hh).item k _ _ _ lt1 ((D1 A hh).frame _ _ _ h1 fun c hc o e=>hs₁.extBut _ _ (f1 c hc).1 e) fun x h₂ tk₂ px h1₂ hs₂=>wpAny_pure ?_)
 have hs₂:Heap.SameBut i1 h₁ h₂:=hs₂
 have hTO₂:IsPair h₂ TO a b:=hs₂.extBut _ _ D.TOi1 (hs₁.extBut _ _ D.TOz hTO)
 refine wpAny_bind (wpAny_seqItems hTO₂ rfl ?_)
 refine wpAny_bind (wpAny_updateSeq_pair hTO₂ fun h₃ hTO₃ hs₃=>?_)
 have hs₃:Heap.SameBut TO h₂ h₃:=hs₃
 replace hTO₃:IsPair h₃ TO x b:=hTO₃
 refine wpAny_bind (wpAny_letGo (wpAny_pure ?_))
 refine wpAny_bind (wpAny_bind (wpAny_onRaise ?_))
 show wpAny _ _ (Builtin.SmallTypes.nextOf (.ref i2) >>= _) _ _ _
 refine wpAny_bind ((D2 _ hh).item k _ _ _ lt2 ((D2 A hh).frame _ _ _ h2 fun c hc o e=>hs₃.extBut _ _ (f2 c hc).2.1 (hs₂.extBut _ _ (f2 c hc).2.2 (hs₁.extBut _ _ (f2 c hc).1 e))) fun y h₄ tk₄ py h2₄ hs₄=>wpAny_pure ?_)
 have hs₄:Heap.SameBut i2 h₃ h₄:=hs₄
 have hTO₄:IsPair h₄ TO x b:=hs₄.extBut _ _ D.TOi2 hTO₃
 refine wpAny_bind (wpAny_seqItems hTO₄ rfl ?_)
 refine wpAny_bind (wpAny_updateSeq_pair hTO₄ fun h₅ hTO₅ hs₅=>?_)
 have hs₅:Heap.SameBut TO h₄ h₅:=hs₅
 replace hTO₅:IsPair h₅ TO x y:=hTO₅
 refine wpAny_bind (wpAny_letGo (wpAny_pure (wpAny_pure ?_)))
 refine wpAny_bind (wpAny_seqItems hTO₅ rfl ?_)
 refine wpAny_bind (wpAny_newTuple ?_)
 have hsz:h₅.objs.size=s.heap.objs.size:=by rw[hs₅.1,hs₄.1,hs₃.1,hs₂.1,hs₁.1]
 have hz₅:IsZip h₅ z TI TO .ellipsis:=hs₅.extBut _ _ D.TOz.symm (hs₄.extBut _ _ D.i2z.symm (hs₃.extBut _ _ D.TOz.symm (hs₂.extBut _ _ D.i1z.symm hz₁)))
 have hk₅:∀ c o,c≠z→c≠TO→c≠i1→c≠i2→s.heap.get? c=some o→h₅.get? c=some o:=fun c o c1 c2 c3 c4 e =>
  hs₅.extBut _ _ c2 (hs₄.extBut _ _ c4 (hs₃.extBut _ _ c2 (hs₂.extBut _ _ c3 (hs₁.extBut _ _ c1 e))))
 have h1₅:S1 (k+1) h₅:=(D1 A hh).frame _ _ _ h1₂ fun c hc o e=>hs₅.extBut _ _ (f1 c hc).2.1 (hs₄.extBut _ _ (f1 c hc).2.2 (hs₃.extBut _ _ (f1 c hc).2.1 e))
 have h2₅:S2 (k+1) h₅:=(D2 A hh).frame _ _ _ h2₄ fun c hc o e=>hs₅.extBut _ _ (f2 c hc).2.1 e
 have hzlt:z<h₅.objs.size:=Heap.lt_size hz₅
 show wpAny _ _ (Builtin.SmallTypes.ownedTupleHandOut (.ref z) (.ref h₅.objs.size) >>= _) _ _ _
 refine wpAny_bind ?_
 unfold Builtin.SmallTypes.ownedTupleHandOut
 have hz₆:IsZip (h₅.push { cls:=.type "tuple", data:=.seq #[x,y] }) z TI TO .ellipsis:=Heap.get?_push_of_some _ hz₅
 refine wpAny_bind (wpAny_setField_rec hz₆ (by simp) fun h₇ hz₇ hs₇=>?_)
 replace hz₇:IsZip h₇ z TI TO (rawInt h₅.objs.size):=hz₇
 refine wpAny_setField_rec hz₇ (by simp) fun h₈ hz₈ hs₈=>?_
 replace hz₈:IsZip h₈ z TI TO (rawInt h₅.objs.size):=hz₈
 have up:∀ c o,c≠z→h₅.get? c=some o→h₈.get? c=some o:=fun c o c1 e=>hs₈.extBut _ _ c1 (hs₇.extBut _ _ c1 (Heap.get?_push_of_some _ e))
 have hT₈:IsPair h₈ h₅.objs.size x y:=hs₈.extBut _ _ (A4y hzlt) (hs₇.extBut _ _ (A4y hzlt) (Heap.get?_push_size _ rfl))
 have hz8:h₈.objs.size=h₅.objs.size+1:=by rw[hs₈.1,hs₇.1,Heap.size_push]
 rw[hsz] at hz₈ hT₈ hz8
 refine wpAny_pure ⟨_,rfl,?_⟩
 show Q (.ref h₅.objs.size) _
 rw[hsz]
 exact hQ x y h₈ tk₄ px py hz₈ (up _ _ D.TOz hTO₅) ((D1 A hh).frame _ _ _ h1₅ fun c hc o e=>up _ o (f1 c hc).1 e) ((D2 A hh).frame _ _ _ h2₅ fun c hc o e=>up _ o (f2 c hc).1 e) hT₈ hz8 fun c o c1 c2 c3 c4 e=>up c o c1 (hk₅ c o c1 c2 c3 c4 e)
theorem Au8{z TI TO i1 i2:Addr}{fp1 fp2:List Addr}{n1 n2 k:Nat}{P1 P2:Nat→Value→Prop}{S1 S2:Nat→Heap→Prop}{a b:Value}{Q:Fin→Shared→Prop}(D:Oq z TI TO i1 i2)
  (D1:∀ A':Around,A'.handled=none→Draws prog w A' i1 fp1 n1 P1 S1) (D2:∀ A':Around,A'.handled=none→Draws prog w A' i2 fp2 n2 P2 S2) (hh:A.handled=none)
  (f1:∀ c∈fp1,c≠z∧c≠TO∧c≠i2) (f2:∀ c∈fp2,c≠z∧c≠TO∧c≠i1)
  (hz:IsZip s.heap z TI TO .none) (hTI:IsPair s.heap TI (.ref i1) (.ref i2)) (hTO:IsPair s.heap TO a b) (h1:S1 k s.heap) (h2:S2 k s.heap) (hend:k=n1∨(k<n1∧k=n2))
  (hE:∀ h' e tk,(∀ c o,c≠z→c≠TO→c≠i1→c≠i2→s.heap.get? c=some o→h'.get? c=some o)→(∃ o,h'.get? e=some o∧o.cls=.type "StopIteration")→E (.ref e) { s with heap:=h',toks:=tk }) :
  wpAny (model prog w) A (Builtin.«zip.__next__» ⟨[.ref z],[]⟩) Q E s:=by
 show wpAny _ _ (field (.ref z) 2 >>= _) _ _ _
 refine wpAny_bind (wpAny_field hz rfl (x:=.bool false) rfl ?_)
 show wpAny _ _ (field (.ref z) 3 >>= _) _ _ _
 refine wpAny_bind (wpAny_field hz rfl (x:=.ref TI) rfl ?_)
 refine wpAny_bind (wpAny_seqItems hTI rfl ?_)
 show wpAny _ _ (Builtin.SmallTypes.ownedTupleIsFree (.ref z) >>= _) _ _ _
 refine wpAny_bind ?_
 unfold Builtin.SmallTypes.ownedTupleIsFree
 refine wpAny_bind (wpAny_field hz rfl (x:=.none) rfl (wpAny_pure ?_))
 simp only [if_true]
 refine wpAny_bind (wpAny_rule ?_)
 refine wpAny_bind (wpAny_field hz rfl (x:=.ref TO) rfl ?_)
 refine wpAny_bind (wpAny_setField_rec hz (by simp) fun h₁ hz₁ hs₁=>?_)
 replace hz₁:IsZip h₁ z TI TO .ellipsis:=hz₁
 refine wpAny_bind ?_
 simp only [List.zipIdx_cons,List.zipIdx_nil,A5h,A5Y]
 refine wpAny_bind (wpAny_bind (wpAny_onRaise ?_))
 show wpAny _ _ (Builtin.SmallTypes.nextOf (.ref i1) >>= _) _ _ _
 have g1:S1 k h₁:=(D1 A hh).frame _ _ _ h1 fun c hc o e=>hs₁.extBut _ _ (f1 c hc).1 e
 rcases hend with hk | ⟨lt1,hk⟩
 ·subst hk
  refine wpAny_bind ((D1 _ hh).done _ _ _ g1 fun h₂ e hs₂ he=>?_)
  have hs₂:Heap.ExtBut i1 h₁ h₂:=hs₂
  obtain⟨oe,hoe,hce⟩:=he
  have hz₂:IsZip h₂ z TI TO .ellipsis:=hs₂ _ _ D.i1z.symm hz₁
  have hez:e≠z:=fun x=>by subst x;rw[hz₂] at hoe;cases hoe;simp at hce
  refine wpAny_setField_rec hz₂ (by simp) fun h₃ _ hs₃=>hE h₃ e _ (fun c o c1 _ c3 _ x=>hs₃.extBut _ _ c1 (hs₂ _ _ c3 (hs₁.extBut _ _ c1 x))) ⟨oe,hs₃.extBut _ _ hez hoe,hce⟩
 ·refine wpAny_bind ((D1 _ hh).item k _ _ _ lt1 g1 fun x h₂ tk₂ px h1₂ hs₂=>wpAny_pure ?_)
  have hs₂:Heap.SameBut i1 h₁ h₂:=hs₂
  have hTO₂:IsPair h₂ TO a b:=hs₂.extBut _ _ D.TOi1 (hs₁.extBut _ _ D.TOz hTO)
  refine wpAny_bind (wpAny_seqItems hTO₂ rfl ?_)
  refine wpAny_bind (wpAny_updateSeq_pair hTO₂ fun h₃ hTO₃ hs₃=>?_)
  have hs₃:Heap.SameBut TO h₂ h₃:=hs₃
  refine wpAny_bind (wpAny_letGo (wpAny_pure ?_))
  refine wpAny_bind (wpAny_bind (wpAny_onRaise ?_))
  show wpAny _ _ (Builtin.SmallTypes.nextOf (.ref i2) >>= _) _ _ _
  subst hk
  refine wpAny_bind ((D2 _ hh).done _ _ _ ((D2 A hh).frame _ _ _ h2 fun c hc o e=>hs₃.extBut _ _ (f2 c hc).2.1 (hs₂.extBut _ _ (f2 c hc).2.2 (hs₁.extBut _ _ (f2 c hc).1 e))) fun h₄ e hs₄ he=>?_)
  have hs₄:Heap.ExtBut i2 h₃ h₄:=hs₄
  obtain⟨oe,hoe,hce⟩:=he
  have hz₄:IsZip h₄ z TI TO .ellipsis:=hs₄ _ _ D.i2z.symm (hs₃.extBut _ _ D.TOz.symm (hs₂.extBut _ _ D.i1z.symm hz₁))
  have hez:e≠z:=fun x=>by subst x;rw[hz₄] at hoe;cases hoe;simp at hce
  refine wpAny_setField_rec hz₄ (by simp) fun h₅ _ hs₅=>hE h₅ e _ (fun c o c1 c2 c3 c4 x=>hs₅.extBut _ _ c1 (hs₄ _ _ c4 (hs₃.extBut _ _ c2 (hs₂.extBut _ _ c3 (hs₁.extBut _ _ c1 x))))) ⟨oe,hs₅.extBut _ _ hez hoe,hce⟩
theorem Akk{z TI TO i1 i2:Addr}{fp1 fp2:List Addr}{n1 n2 k:Nat}{P1 P2:Nat→Value→Prop}{S1 S2:Nat→Heap→Prop}{a b:Value}{Q:Option Value→Shared→Prop}(D:Oq z TI TO i1 i2)
  (D1:∀ A':Around,A'.handled=none→Draws prog w A' i1 fp1 n1 P1 S1) (D2:∀ A':Around,A'.handled=none→Draws prog w A' i2 fp2 n2 P2 S2) (hh:A.handled=none)
  (f1:∀ c∈fp1,c≠z∧c≠TO∧c≠i2) (f2:∀ c∈fp2,c≠z∧c≠TO∧c≠i1)
  (hz:IsZip s.heap z TI TO .none) (hTI:IsPair s.heap TI (.ref i1) (.ref i2)) (hTO:IsPair s.heap TO a b) (h1:S1 k s.heap) (h2:S2 k s.heap) (lt1:k<n1) (lt2:k<n2)
  (hQ:∀ x y h' tk,P1 k x→P2 k y→IsZip h' z TI TO (rawInt s.heap.objs.size)→IsPair h' TO x y→S1 (k+1) h'→S2 (k+1) h'→IsPair h' s.heap.objs.size x y→h'.objs.size=s.heap.objs.size+1 →
   (∀ c o,c≠z→c≠TO→c≠i1→c≠i2→s.heap.get? c=some o→h'.get? c=some o)→Q (some (.ref s.heap.objs.size)) { s with heap:=h',toks:=tk }) :
  wpAny (model prog w) A (pyNext (.ref z)) Q E s:=by
 have hT:s.TypeIs (.ref z) "zip" := ⟨_,hz,rfl⟩
 unfold pyNext
 exact wpAny_bind (wpAny_attempt (wpAny_callSpecial?_slot (name:=Str.ofString "__next__") hT F.slot_zip_next
  (wpAny_call_entry F.slot_zip_next hT F.entry_zip_next
   (Atr D D1 D2 hh f1 f2 hz hTI hTO h1 h2 lt1 lt2 fun x y h' tk a1 a2 a3 a4 a5 a6 a7 a8 a9=>wpAny_pure (hQ x y h' tk a1 a2 a3 a4 a5 a6 a7 a8 a9)) (F.args_zip_next_1 _))))
theorem Ang{z TI TO i1 i2:Addr}{fp1 fp2:List Addr}{n1 n2 k:Nat}{P1 P2:Nat→Value→Prop}{S1 S2:Nat→Heap→Prop}{a b:Value}{Q:Option Value→Shared→Prop}(D:Oq z TI TO i1 i2)
  (D1:∀ A':Around,A'.handled=none→Draws prog w A' i1 fp1 n1 P1 S1) (D2:∀ A':Around,A'.handled=none→Draws prog w A' i2 fp2 n2 P2 S2) (hh:A.handled=none)
  (f1:∀ c∈fp1,c≠z∧c≠TO∧c≠i2) (f2:∀ c∈fp2,c≠z∧c≠TO∧c≠i1)
  (hz:IsZip s.heap z TI TO .none) (hTI:IsPair s.heap TI (.ref i1) (.ref i2)) (hTO:IsPair s.heap TO a b) (h1:S1 k s.heap) (h2:S2 k s.heap) (hend:k=n1∨(k<n1∧k=n2))
  (hQ:∀ h' tk,(∀ c o,c≠z→c≠TO→c≠i1→c≠i2→s.heap.get? c=some o→h'.get? c=some o)→Q none { s with heap:=h',toks:=tk }):wpAny (model prog w) A (pyNext (.ref z)) Q E s:=by
 have hT:s.TypeIs (.ref z) "zip" := ⟨_,hz,rfl⟩
 unfold pyNext
 refine wpAny_bind (wpAny_attempt (wpAny_callSpecial?_slot (name:=Str.ofString "__next__") hT F.slot_zip_next
  (wpAny_call_entry F.slot_zip_next hT F.entry_zip_next (Au8 D D1 D2 hh f1 f2 hz hTI hTO h1 h2 hend fun h' e tk hk he=>?_) (F.args_zip_next_1 _))))
 obtain⟨o,ho,hc⟩:=he
 refine wpAny_bind (wpAny_isInstance (T := "StopIteration") (b:=true) ⟨o,ho,hc⟩ isSubtype_stop ?_)
 exact wpAny_pure (hQ _ _ hk)
abbrev Adg (x:Str) (t:Tok):Obj:={ cls:=.type (strIterType x),data:=.fields #[.str x t,.int 0 0] }
abbrev Asb (l:Addr):Obj:={ cls:=.type "list_iterator", data:=.fields #[.ref l,.int 0 0] }
abbrev XR (h:Heap) (o1 o2:Obj):Heap:=((((h.push o1).push o2).push { cls:=.type "tuple", data:=.seq #[.ref h.objs.size,.ref (h.push o1).objs.size] }).push { cls:=.type "tuple", data:=.seq #[.none,.none] }).push
 { cls:=.type "zip", data:=.fields #[.none,.bool false,.bool false,.ref ((h.push o1).push o2).objs.size,.ref (((h.push o1).push o2).push { cls:=.type "tuple", data:=.seq #[.ref h.objs.size,.ref (h.push o1).objs.size] }).objs.size] }
abbrev Anh (h:Heap) (o1 o2:Obj):Addr:=((((h.push o1).push o2).push { cls:=.type "tuple", data:=.seq #[.ref h.objs.size,.ref (h.push o1).objs.size] }).push { cls:=.type "tuple", data:=.seq #[.none,.none] }).objs.size
set_option maxHeartbeats 4000000 in
theorem Ap1(l1:Addr)(xs:Array Value)(x:Str)(t:Tok) :
  Meets (Builtin.«zip.__new__» ⟨[.type "zip", .ref l1,.str x t],[]⟩) (fun _ R s=>s.heap.IsList l1 xs∧R (.ok (.ret (.ref (Anh s.heap (Asb l1) (Adg x t))))) { s with heap:=XR s.heap (Asb l1) (Adg x t) }) :=
 .of_wp fun prog w A R s h=>by
  obtain⟨hp,g,d,tk,os⟩:=s;obtain⟨hl1,h⟩:=h
  have hsub:=sub_zip
  have hL1:Heap.IsList (Shared.heap ⟨hp,g,d,tk,os⟩) l1 xs:=hl1
  wp_walk using wpAny_pyIter_list hL1,wpAny_pyIter_strU
  exact⟨_,rfl,h⟩
set_option maxHeartbeats 4000000 in
theorem Ap2(y:Str)(u:Tok)(x:Str)(t:Tok) :
  Meets (Builtin.«zip.__new__» ⟨[.type "zip", .str y u,.str x t],[]⟩) (fun _ R s=>R (.ok (.ret (.ref (Anh s.heap (Adg y u) (Adg x t))))) { s with heap:=XR s.heap (Adg y u) (Adg x t) }) :=
 .of_wp fun prog w A R s h=>by
  obtain⟨hp,g,d,tk,os⟩:=s
  have hsub:=sub_zip
  wp_walk using wpAny_pyIter_strU
  exact⟨_,rfl,h⟩
end
open PySem PySem.Spec PyProof.Rows
inductive Src where
 | l (a:Addr)
 | s (z:Str)
def A0f:Src→V
 | .l a=>.ref a
 | .s z=>.str z
def Akl (K:PySem.W.Frag)(H:Hp):Src→Prop
 | .l a=>∃ xs,SqL K H a xs
 | .s _=>True
def XS (K:PySem.W.Frag)(H:Hp):Src→Nat→V→Prop
 | .l a,i,v=>∃ xs,SqL K H a xs∧xs[i]?=some v
 | .s z,i,v=>∃ c,z.cps[i]?=some c∧v=.str ⟨#[c]⟩
def Arf (K:PySem.W.Frag)(H:Hp):Src→Nat→Prop
 | .l a,i=>∃ xs,SqL K H a xs∧xs.length=i
 | .s z,i=>z.cps.size=i
def Afo (it:Addr)(t:Tok):Src→Nat→Heap→Prop
 | .l a,i,h=>h.IsListIter it a i
 | .s z,i,h=>h.IsStrIter it (strIterType z) z t i
def Au9 (it:Addr):Src→List Addr
 | .l a=>[it,a]
 | .s _=>[it]
def A2U (t:Tok):Src→Obj
 | .l a=>Asb a
 | .s z=>Adg z t
theorem Akm{X:Cx}{pins:List (Addr × Obj)}{σ:St}{H:Hp}{s:Shared}(I:Inv X pins σ H s){S:Src}{i:Nat}{u v:V}(h1:XS X.K H S i u)(h2:XS X.K H S i v):u=v:=by
 cases S with
 | l a =>
  obtain⟨xs,q1,e1⟩:=h1
  obtain⟨ys,q2,e2⟩:=h2
  rw[I.M9 q2 q1,e1] at e2
  exact Option.some.inj e2
 | s z =>
  obtain⟨c,e1,rfl⟩:=h1
  obtain⟨d,e2,rfl⟩:=h2
  rw[e1] at e2
  cases e2
  rfl
theorem AcH{X:Cx}{pins:List (Addr × Obj)}{σ:St}{H:Hp}{s:Shared}(I:Inv X pins σ H s){it:Addr}{t:Tok}{S:Src}{i:Nat}(st:Afo it t S i s.heap)(ok:Akl X.K H S)(ap:∀ a,S=.l a→a≠it) :
  ∃(n:Nat) (Pd:Nat→Value→Prop) (Sd:Nat→Heap→Prop),(∀ A':Around,A'.handled=none→Draws X.prog X.w A' it (Au9 it S) n Pd Sd)∧Sd i s.heap∧(∀ h',Sd (i+1) h'→Afo it t S (i+1) h') ∧
   (∀ v,XS X.K H S i v→i<n∧∀ u,Pd i u→RelV v u)∧(Arf X.K H S i→i=n):=by
 cases S with
 | l a =>
  obtain⟨xs,q⟩:=ok
  obtain⟨its,rv,p1,_⟩:=I.list q
  have len:=rv.length
  refine⟨_,_,_,fun A' hh=>Draws.list hh it a (ap a rfl) its.toArray,⟨st,p1.isList⟩,fun h' z=>z.1,fun v hv=>?_,fun he=>?_⟩
  ·obtain⟨ys,q2,e⟩:=hv
   rw[I.M9 q2 q] at e
   obtain⟨u,hu,r⟩:=rv.get e
   refine⟨by have:=(List.getElem?_eq_some_iff.mp hu).1;simpa using this,fun u' hu'=>?_⟩
   have:its[i]?=some u':=by simpa using hu'
   rw[hu] at this
   cases this
   exact r
  ·obtain⟨ys,q2,e⟩:=he
   rw[I.M9 q2 q] at e
   simp only [A4a]
   omega
 | s z =>
  refine⟨_,_,_,fun A' hh=>Au7 hh it z t,st,fun h' z=>z,fun v hv=>?_,fun he=>he.symm⟩
  obtain⟨c,e,rfl⟩:=hv
  refine⟨by rw[Array.getElem?_eq_some_iff] at e;exact e.1,fun u ⟨d,tk,e2,hu⟩=>?_⟩
  rw[e] at e2
  cases e2
  exact⟨tk,hu⟩
def Aw8 (K:PySem.W.Frag)(S1 S2:Src):It where
 go:=fun i H=>(∃ u,XS K H S1 i u)∧∃ v,XS K H S2 i v
 yld:=fun i H x H'=>∃ T,x=.ref T∧H T=none∧∀ u v,XS K H S1 i u→XS K H S2 i v→H'=upd H T (.tup [u,v])
 stop:=fun i H=>Akl K H S1∧Akl K H S2∧(Arf K H S1 i∨((∃ u,XS K H S1 i u)∧Arf K H S2 i))
theorem Ap3{K:PySem.W.Frag}{H:Hp}{S:Src}{i:Nat}{u:V}(h:XS K H S i u):Akl K H S:=by
 cases S with
 | l a=>obtain⟨xs,q,_⟩:=h;exact⟨xs,q⟩
 | s z=>trivial
def Ayx (z TI TO i1 i2:Addr)(t1 t2:Tok)(S1 S2:Src)(i:Nat)(h:Heap):Prop:=IsZip h z TI TO .none∧IsPair h TI (.ref i1) (.ref i2)∧(∃ p q,IsPair h TO p q)∧Afo i1 t1 S1 i h∧Afo i2 t2 S2 i h
theorem Afp{it:Addr}{t:Tok}{S:Src}{i:Nat}{h h':Heap}(st:Afo it t S i h)(k:∀ o,h.get? it=some o→h'.get? it=some o):Afo it t S i h':=by
 cases S with
 | l a=>exact Heap.IsListIter.at st k
 | s z=>obtain⟨o,e,c⟩:=st;exact⟨o,k o e,c⟩
theorem AcI{it:Addr}{t:Tok}{S:Src}{i:Nat}{h:Heap}(st:Afo it t S i h):∃ o,h.get? it=some o∧∀ v,o.data≠.cell v:=by
 cases S with
 | l a=>obtain⟨o,e,_,d⟩:=st;exact⟨o,e,fun v z=>by rw[d] at z;cases z⟩
 | s z=>obtain⟨o,e,_,d⟩:=st;exact⟨o,e,fun v z=>by rw[d] at z;cases z⟩
theorem Ats{P:Program}{w:World}{K:PySem.W.Frag}{es:List Expr}{kx:Nat}{tp:Pos}{z TI TO i1 i2:Addr}{t1 t2:Tok}{S1 S2:Src}(D:Oq z TI TO i1 i2)
  (a1:∀ a,S1=.l a→a≠z∧a≠TO∧a≠i1∧a≠i2) (a2:∀ a,S2=.l a→a≠z∧a≠TO∧a≠i1∧a≠i2) :
  Turn P w K (.Tuple es kx tp) (Aw8 K S1 S2) [z,TI,TO,i1,i2] z (Ayx z TI TO i1 i2 t1 t2 S1 S2):=by
 have f1:∀ c∈Au9 i1 S1,c≠z∧c≠TO∧c≠i2:=fun c hc=>by
  cases S1 with
  | l a =>
   rcases List.mem_cons.mp hc with e | e
   ·subst e;exact⟨D.i1z,D.TOi1.symm,D.i12⟩
   ·rw[List.mem_singleton.mp e];exact⟨(a1 a rfl).1,(a1 a rfl).2.1,(a1 a rfl).2.2.2⟩
  | s x=>rw[List.mem_singleton.mp hc];exact⟨D.i1z,D.TOi1.symm,D.i12⟩
 have f2:∀ c∈Au9 i2 S2,c≠z∧c≠TO∧c≠i1:=fun c hc=>by
  cases S2 with
  | l a =>
   rcases List.mem_cons.mp hc with e | e
   ·subst e;exact⟨D.i2z,D.TOi2.symm,D.i12.symm⟩
   ·rw[List.mem_singleton.mp e];exact⟨(a2 a rfl).1,(a2 a rfl).2.1,(a2 a rfl).2.2.1⟩
  | s x=>rw[List.mem_singleton.mp hc];exact⟨D.i2z,D.TOi2.symm,D.i12.symm⟩
 exact {
  mem:=by simp
  obj:=fun i h st c hc=>by
   obtain⟨s1,s2,⟨p,q,s3⟩,s4,s5⟩:=st
   simp only [A4w,A4x,or_false] at hc
   rcases hc with e | e | e | e | e
   ·subst e;exact⟨_,s1,fun v z=>by cases (show Data.fields _=Data.cell v from z)⟩
   ·subst e;exact⟨_,s2,fun v z=>by cases (show Data.seq _ _=Data.cell v from z)⟩
   ·subst e;exact⟨_,s3,fun v z=>by cases (show Data.seq _ _=Data.cell v from z)⟩
   ·subst e;exact AcI s4
   ·subst e;exact AcI s5
  keep:=fun i h h' st k=>by
   obtain⟨s1,s2,⟨p,q,s3⟩,s4,s5⟩:=st
   exact⟨k _ (by simp) _ s1,k _ (by simp) _ s2,⟨p,q,k _ (by simp) _ s3⟩,Afp s4 fun o e=>k _ (by simp) o e,Afp s5 fun o e=>k _ (by simp) o e⟩
  item:=by
   intro X hP hw hK hc i pins s σ H E I hf st hg
   subst hP hw hK
   obtain⟨⟨x,hx⟩,y,hy⟩:=hg
   obtain⟨s1,s2,⟨p,q,s3⟩,s4,s5⟩:=st
   obtain⟨n1,P1,Q1,D1,g1,e1,v1,_⟩:=AcH I s4 (Ap3 hx) (fun a e=>(a1 a e).2.2.1)
   obtain⟨n2,P2,Q2,D2,g2,e2,v2,_⟩:=AcH I s5 (Ap3 hy) (fun a e=>(a2 a e).2.2.2)
   obtain⟨l1,r1⟩:=v1 x hx
   obtain⟨l2,r2⟩:=v2 y hy
   refine Akk D D1 D2 (I.ok.hd hc) f1 f2 s1 s2 s3 g1 g2 l1 l2 fun u v h1 tk pu pv z1 w1 j1 j2 hT hsz kk=>?_
   have ru:=r1 u pu
   have rw':=r2 v pv
   refine⟨_,rfl,wpAny_letOwnedTupleGo_zip z1 fun h2 z2 sb=>?_⟩
   have sb:Heap.SameBut z h1 h2:=sb
   have zl:z<s.heap.objs.size:=Heap.lt_size s1
   have TIl:TI<s.heap.objs.size:=Heap.lt_size s2
   have TOl:TO<s.heap.objs.size:=Heap.lt_size s3
   have i1l:i1<s.heap.objs.size:=by obtain⟨_,e,_⟩:=AcI s4;exact Heap.lt_size e
   have i2l:i2<s.heap.objs.size:=by obtain⟨_,e,_⟩:=AcI s5;exact Heap.lt_size e
   have up:∀ c o,c≠z→h1.get? c=some o→h2.get? c=some o:=fun c o c1 e=>(sb.2 c c1).trans e
   have hTn:H s.heap.objs.size=none:=I.hok.fresh (A3U _)
   have I1:Inv X pins σ (upd H s.heap.objs.size (.tup [x,y])) { s with heap:=s.heap.push { cls:=.type "tuple", data:=.seq #[u,v] },toks:=tk } :=
    I.laid (fun c o e=>Heap.get?_push_of_some _ e) (A3U _) ⟨by show 2≤sizeLine;decide,[u,v],.cons ru (.cons rw' .nil),⟨_,Heap.get?_push_size _ rfl,rfl,_,rfl⟩⟩
   have fp2:∀ c∈[z,TI,TO,i1,i2],XN X pins (upd H s.heap.objs.size (.tup [x,y])) c:=fun c hc=>by
    obtain⟨f0,f⟩:=hf c hc
    refine⟨?_,f⟩
    have lt:c<s.heap.objs.size:=by
     simp only [A4w,A4x,or_false] at hc
     rcases hc with e | e | e | e | e <;> subst e <;> assumption
    rw[Aw (A4b lt)]
    exact f0
   have I2:Inv X pins σ (upd H s.heap.objs.size (.tup [x,y])) { s with heap:=h2,toks:=tk }:=by
    refine Inv.AjG (s:={ s with heap:=s.heap.push { cls:=.type "tuple", data:=.seq #[u,v] },toks:=tk }) (h':=h2) (t':=tk) (its:=[z,TI,TO,i1,i2]) I1 (fun c o hc e=>?_) fp2
    simp only [A4w,A4x,or_false,not_or] at hc
    refine up c o hc.1 ?_
    by_cases hcs:c=s.heap.objs.size
    ·subst hcs
     have e':(s.heap.push { cls:=.type "tuple", data:=.seq #[u,v] }).get? s.heap.objs.size=some { cls:=.type "tuple", data:=.seq #[u,v] }:=Heap.get?_push_size _ rfl
     rw[e'] at e
     cases e
     exact hT
    ·have e':s.heap.get? c=some o:=by
      rw[← e]
      exact(Heap.get?_push_ne _ _ _ hcs).symm
     exact kk c o hc.1 hc.2.2.1 hc.2.2.2.1 hc.2.2.2.2 e'
   refine⟨.ref s.heap.objs.size,_,I2,rfl,⟨s.heap.objs.size,rfl,hTn,fun u' v' q1 q2=>?_⟩,⟨z2,up _ _ D.TIz (kk _ _ D.TIz D.TITO D.TIi1 D.TIi2 s2),⟨u,v,up _ _ D.TOz w1⟩,Afp (e1 _ j1) fun o e=>up _ o D.i1z e,Afp (e2 _ j2) fun o e=>up _ o D.i2z e⟩,fun c hc=>(fp2 c hc).1⟩
   rw[Akm I q1 hx,Akm I q2 hy]
  done:=by
   intro X hP hw hK hc i pins s σ H E I hf st hg
   subst hP hw hK
   obtain⟨o1,o2,hend⟩:=hg
   obtain⟨s1,s2,⟨p,q,s3⟩,s4,s5⟩:=st
   obtain⟨n1,P1,Q1,D1,g1,e1,v1,d1⟩:=AcH I s4 o1 (fun a e=>(a1 a e).2.2.1)
   obtain⟨n2,P2,Q2,D2,g2,e2,v2,d2⟩:=AcH I s5 o2 (fun a e=>(a2 a e).2.2.2)
   have he:i=n1∨(i<n1∧i=n2):=by
    rcases hend with h | ⟨⟨u,hu⟩,h⟩
    ·exact .inl (d1 h)
    ·exact .inr ⟨(v1 u hu).1,d2 h⟩
   refine Ang D D1 D2 (I.ok.hd hc) f1 f2 s1 s2 s3 g1 g2 he fun h' tk kk=>⟨rfl,I.AjG (t':=tk) (its:=[z,TI,TO,i1,i2]) (fun c o hc e=>?_) hf⟩
   simp only [A4w,A4x,or_false,not_or] at hc
   exact kk c o hc.1 hc.2.2.1 hc.2.2.2.1 hc.2.2.2.2 e
  self:=fun _ _ _ _ _ st h=>wpAny_pyIter_zip st.1 h }
theorem Ap4{h:Heap}{o1 o2:Obj}(e1:o1.isFreed=false)(e2:o2.isFreed=false):Anh h o1 o2=h.objs.size+4∧IsZip (XR h o1 o2) (h.objs.size+4) (h.objs.size+2) (h.objs.size+3) .none ∧
  IsPair (XR h o1 o2) (h.objs.size+2) (.ref h.objs.size) (.ref (h.objs.size+1))∧IsPair (XR h o1 o2) (h.objs.size+3) .none .none∧(XR h o1 o2).get? h.objs.size=some o1∧(XR h o1 o2).get? (h.objs.size+1)=some o2 ∧
  ∀ c o,h.get? c=some o→(XR h o1 o2).get? c=some o:=by
 have z1:(h.push o1).objs.size=h.objs.size+1:=Heap.size_push ..
 have z2:((h.push o1).push o2).objs.size=h.objs.size+2:=by rw[Heap.size_push,z1]
 have z3:(((h.push o1).push o2).push { cls:=.type "tuple", data:=.seq #[.ref h.objs.size,.ref (h.push o1).objs.size] }).objs.size=h.objs.size+3:=by rw[Heap.size_push,z2]
 have z4:Anh h o1 o2=h.objs.size+4:=by unfold Anh;rw[Heap.size_push,z3]
 have g5:(XR h o1 o2).get? (Anh h o1 o2)=some _:=Heap.get?_push_size _ rfl
 have g4:(XR h o1 o2).get? (((h.push o1).push o2).push { cls:=.type "tuple", data:=.seq #[.ref h.objs.size,.ref (h.push o1).objs.size] }).objs.size=some _:=Heap.get?_push_of_some _ (Heap.get?_push_size _ rfl)
 have g3:(XR h o1 o2).get? ((h.push o1).push o2).objs.size=some _:=Heap.get?_push_of_some _ (Heap.get?_push_of_some _ (Heap.get?_push_size _ rfl))
 have g2:(XR h o1 o2).get? (h.push o1).objs.size=some o2:=Heap.get?_push_of_some _ (Heap.get?_push_of_some _ (Heap.get?_push_of_some _ (Heap.get?_push_size _ e2)))
 have g1:(XR h o1 o2).get? h.objs.size=some o1:=Heap.get?_push_of_some _ (Heap.get?_push_of_some _ (Heap.get?_push_of_some _ (Heap.get?_push_of_some _ (Heap.get?_push_size _ e1))))
 refine⟨z4,?_,?_,?_,g1,?_,fun c o x=>Heap.get?_push_of_some _ (Heap.get?_push_of_some _ (Heap.get?_push_of_some _ (Heap.get?_push_of_some _ (Heap.get?_push_of_some _ x))))⟩
 ·rw[z4,z2,z3] at g5;exact g5
 ·rw[z2,z1] at g3;exact g3
 ·rw[z3] at g4;exact g4
 ·rw[z1] at g2;exact g2
theorem ane{a b:Nat}(h:a≠b):@Ne Addr a b:=h
theorem lne{a n:Nat}(h:a<n)(k:Nat):@Ne Addr a (n+k):=fun z=>by have z:a=n+k:=z;omega
theorem Akn(n:Nat):Oq (n+4) (n+2) (n+3) n (n+1) where
 TIz:=ane (by omega)
 TOz:=ane (by omega)
 i1z:=ane (by omega)
 i2z:=ane (by omega)
 TITO:=ane (by omega)
 TIi1:=ane (by omega)
 TIi2:=ane (by omega)
 TOi1:=ane (by omega)
 TOi2:=ane (by omega)
 i12:=ane (by omega)
section
variable {X:Cx}{es:List Expr}{kx:Nat}{tp:Pos}
def zOk:Src→Src→Prop
 | .s _,.l _=>False
 | _,_=>True
def A0g (K:PySem.W.Frag)(ta:TA):TI:=fun σ H R=>ta σ H fun vs H1=>∃ S1 S2,vs=[A0f S1,A0f S2]∧zOk S1 S2∧Akl K H1 S1∧Akl K H1 S2∧R (Aw8 K S1 S2) H1
theorem Aw9{K:PySem.W.Frag}{a b:Expr}{ta:TA}{p pos:Pos}(hg:Gl X "zip") (hm:X.mg "zip" = none) (ha:PA X [a,b] ta) (hK:X.K=K:=by rfl) (hs:starEach [a,b] X.env=[(false,eval a X.env),(false,eval b X.env)]:=by rfl) (hs2:starEach [b] X.env=[(false,eval b X.env)]:=by rfl) :
  PI X (.Tuple es kx tp) (.Call (.Name "zip" p) [a,b] [] pos) (A0g K ta):=by
 subst hK
 intro pins s σ H R I h
 refine Call_ (QR I hg hm Ara (PyProof.Rows.callWith_type1 (thn (ha pos pins s σ H _ I h) fun us s1 ⟨vs,H1,I1,r1,q1⟩=>?_) (by rw[hs,hs2]) (by rw[hs2];rfl)))
 obtain⟨S1,S2,e,hz,o1,o2,q⟩:=q1
 subst e
 obtain⟨u1,u2,rfl,ru1,ru2⟩:=r1.two
 have fin:∀(t1 t2:Tok) (h':Heap) (tk:Nat),IsZip h' (s1.heap.objs.size+4) (s1.heap.objs.size+2) (s1.heap.objs.size+3) .none→IsPair h' (s1.heap.objs.size+2) (.ref s1.heap.objs.size) (.ref (s1.heap.objs.size+1))→IsPair h' (s1.heap.objs.size+3) .none .none →
   Afo s1.heap.objs.size t1 S1 0 h'→Afo (s1.heap.objs.size+1) t2 S2 0 h'→(∀ c o,s1.heap.get? c=some o→h'.get? c=some o) →
   wpAny (model X.prog X.w) X.A (pyIter (.ref (s1.heap.objs.size+4))) (PIE X pins σ (.Tuple es kx tp) R) X.xe { s1 with heap:=h',toks:=tk }:=fun t1 t2 h' tk hzz hTI hTO j1 j2 kk=>by
  refine wpAny_pyIter_zip hzz ?_
  have lt:∀ S:Src,Akl X.K H1 S→∀ a,S=.l a→a<s1.heap.objs.size:=fun S ok a e=>by
   subst e
   obtain⟨xs,q⟩:=ok
   obtain⟨its,_,p1,_⟩:=I1.list q
   obtain⟨o,e,_⟩:=p1.isList
   exact Heap.lt_size e
  refine⟨_,[s1.heap.objs.size+4,s1.heap.objs.size+2,s1.heap.objs.size+3,s1.heap.objs.size,s1.heap.objs.size+1],_,_,H1,rfl,I1.kept (t':=tk) kk,Ats (t1:=t1) (t2:=t2) (Akn _) (fun a e=>?_) (fun a e=>?_),
   ⟨hzz,hTI,⟨_,_,hTO⟩,j1,j2⟩,fun c hc=>?_,q⟩
  ·have:=lt S1 o1 a e;exact⟨lne this 4,lne this 3,lne this 0,lne this 1⟩
  ·have:=lt S2 o2 a e;exact⟨lne this 4,lne this 3,lne this 0,lne this 1⟩
  ·have le:s1.heap.objs.size≤c:=by
    simp only [A4w,A4x,or_false] at hc
    rcases hc with e | e | e | e | e <;> subst e <;> omega
   exact I1.AsR le (I1.hok.fresh le)
 cases S1 with
 | l a =>
  cases ru1
  obtain⟨xs,hq1⟩:=id o1
  obtain⟨Ajg,rv1,p1,_⟩:=I1.list hq1
  cases S2 with
  | l b =>
   cases ru2
   obtain⟨ys,hq2⟩:=id o2
   obtain⟨its2,rv2,p2,_⟩:=I1.list hq2
   refine call_zip_2 p1.isList p2.isList fun h' hzz hTI hTO j1 j2 hsz kk=>fin 0 0 h' s1.toks hzz hTI hTO j1 j2 kk
  | s x =>
   obtain⟨t,rfl⟩:=ru2
   refine callType_new F.called_zip (by decide) (F.typeCall_zip_2 _ _) (F.newCall_zip_2 _ _) (fun obj=>F.args_object_init_3 obj _ _) F.entry_zip_new (Ap1 a Ajg.toArray x t) ⟨p1.isList,?_⟩
   obtain⟨z4,g5,g3,g4,g1,g2,kk⟩:=Ap4 (h:=s1.heap) (o1:=Asb a) (o2:=Adg x t) rfl rfl
   show _∧_
   rw[z4]
   exact⟨⟨_,g5,rfl⟩,fin 0 t _ s1.toks g5 g3 g4 ⟨_,g1,rfl,rfl⟩ ⟨_,g2,rfl,rfl⟩ kk⟩
 | s y =>
  obtain⟨t1,rfl⟩:=ru1
  cases S2 with
  | l b=>exact hz.elim
  | s x =>
   obtain⟨t,rfl⟩:=ru2
   refine callType_new F.called_zip (by decide) (F.typeCall_zip_2 _ _) (F.newCall_zip_2 _ _) (fun obj=>F.args_object_init_3 obj _ _) F.entry_zip_new (Ap2 y t1 x t) ?_
   obtain⟨z4,g5,g3,g4,g1,g2,kk⟩:=Ap4 (h:=s1.heap) (o1:=Adg y t1) (o2:=Adg x t) rfl rfl
   show _∧_
   rw[z4]
   exact⟨⟨_,g5,rfl⟩,fin t1 t _ s1.toks g5 g3 g4 ⟨_,g1,rfl,rfl⟩ ⟨_,g2,rfl,rfl⟩ kk⟩
end
open PySem PySem.Spec PyProof.Rows
structure AcJ (X:Cx) (x x':Str) (Nc:List Str) (Bh:List Nat) (scope:Scope):Prop where
 kind:scope.kind=.function
 cell:∀ y∈scope.names,y.2≠.cell
 names:∀ y∈scope.names,y.2=.local→scope.names.lookup y.1=some .local
 fr:∀ y∈scope.names,y.2=.free→X.env.scope.names.lookup y.1=some .cell∧scope.names.lookup y.1=some .free
 loc:scope.names.lookup x=some .local
 A0h:scope.names.lookup x'=some .local
 len:Nc.length=Bh.length+2
 hd:Nc[0]?=some x
 hd2:Nc[1]?=some x'
 nd:Nc.Nodup
 cap:∀ k j,Bh[k]?=some j→∃ y,Nc[k+2]?=some y∧X.N[j]?=some y∧scope.names.lookup y=some .free
def AnK (K:PySem.W.Frag)(Bh:List Nat)(tc:TT)(te:TE)(J:It)(σ:St)(H:Hp)(Q:VK):Prop :=
 ∃ W:Nat→Nat→List V→Hp→Prop,(∃ m,W 0 m [] H)∧∀ i m ys H,W i m ys H →
  (J.stop i H∧ys.length≤sizeLine∧∀ p,H p=none→Q (.ref p) (upd H p (.lst ys))) ∨
  (J.go i H∧ys.length<sizeLine∧∀ x H',J.yld i H x H'→∃ a u v,x=.ref a∧SqT K H' a [u,v]∧tc (some u::some v::MJ σ Bh) H' fun b H2 =>
   if b=true then te (some u::some v::MJ σ Bh) H2 fun y H3=>∃ m',m'<m∧W (i+1) m' (ys++[y]) H3 else ∃ m',m'<m∧W (i+1) m' ys H2)
def AuA (K:PySem.W.Frag)(wi:TI)(Bh:List Nat)(tc:TT)(te:TE):TE:=fun σ H Q=>wi σ H fun J H1=>AnK K Bh tc te J σ H1 Q
section
variable {X:Cx}{pins:List (Addr × Obj)}{σ:St}{H:Hp}{s:Shared}
theorem AuB{x x':Str}{Nc:List Str}{Bh:List Nat}{scope:Scope}{cl:List (Str × Addr)}{C:Addr}{fp:List Addr}(I:Inv X pins σ H s)(O:AcJ X x x' Nc Bh scope)
  (hcl:∀ x c,cl.lookup x=some c→X.env.cells.lookup x=some c∧(x,NameKind.free)∈scope.names) (Ah3:∀ x,(x,NameKind.free)∈scope.names→cl.lookup x=X.env.cells.lookup x)
  (hC:s.heap.objs.size≤C) (hfp:∀ b∈fp,XN X pins H b) (hfo:∀ b∈fp,b<s.heap.objs.size):(Jw X Nc scope cl C fp s H).Ok where
 mod:=I.ok.mod
 kind:=O.kind
 glob:=I.ok.glob
 blt:=I.ok.blt
 above:=hC
 inj:=fun a b c e1 e2=>I.ok.inj a b c (hcl a c e1).1 (hcl b c e2).1
 has:=fun y hy=>by
  have mem:(y,NameKind.free)∈scope.names:=by
   have hy':((relabel scope X.env).names.lookup y=some .cell)∨((relabel scope X.env).names.lookup y=some .free):=hy
   have hm:∃ k,(y,k)∈(relabel scope X.env).names∧(k=.cell∨k=.free):=by
    rcases hy' with h | h
    ·exact⟨_,PySem.mem_of_lookup h,.inl rfl⟩
    ·exact⟨_,PySem.mem_of_lookup h,.inr rfl⟩
   obtain⟨k,hm,hk⟩:=hm
   obtain⟨⟨n,k'⟩,hm',e⟩:=List.mem_map.mp hm
   dsimp only at e
   by_cases hc:(k' == NameKind.free && X.env.scope.kind == .function && X.env.kindOf n == some .cell)=true
   ·rw[if_pos hc] at e
    injection e with e1 _
    subst e1
    have:k'=.free:=by
     have:=(A4I _ _▸(A4I _ _▸hc).1).1
     simpa using this
    subst this
    exact hm'
   ·rw[if_neg hc] at e
    injection e with e1 e2
    subst e1 e2
    rcases hk with hk | hk
    ·subst hk;exact absurd rfl (O.cell _ hm')
    ·subst hk;exact hm'
  obtain⟨c,e⟩:=I.ok.has y (.inl (O.fr _ mem rfl).1)
  exact⟨c,(Ah3 y mem).trans e⟩
 cab:=fun _ _ z=>nomatch z
 hd:=I.ok.hd
 frames:=I.ok.frames
 stk:=.inl rfl
 exf:=fun b hb=>⟨A4b (A4k (hfo b hb) hC),fun y c e=>(hfp b hb).2.2.2.2.1 y c (hcl y c e).1⟩
 bs:=I.bs
 bsz:=A4q I.ok.bsz I.sz
 AoX:=fun b o e hb=>by
  rcases(hfp b hb).2.2.2.1 with z | z
  ·exact I.ok.AoX b o e z
  ·exact absurd (A4k (Heap.lt_size e) (A4q I.ok.bsz z)) (A4v _)
 AoY:=fun b hb z=>by
  rcases List.mem_cons.mp (I.An5 b z) with e | e
  ·exact(hfp b hb).2.1 e
  ·exact(hfp b hb).2.2.1 e
 Afa:=I.stack
 frf:=I.An6
theorem Ap5{x x':Str}{Nc:List Str}{Bh:List Nat}{scope:Scope}{cl:List (Str × Addr)}{C:Addr}{fp:List Addr}{h':Heap}{tk:Nat}{m0:Str→Option Value}(I:Inv X pins σ H s)(O:AcJ X x x' Nc Bh scope)
  (hcl:∀ x c,cl.lookup x=some c→X.env.cells.lookup x=some c∧(x,NameKind.free)∈scope.names) (Ah3:∀ x,(x,NameKind.free)∈scope.names→cl.lookup x=X.env.cells.lookup x)
  (hC:s.heap.objs.size≤C) (hfp:∀ b∈fp,XN X pins H b) (hfo:∀ b∈fp,b<s.heap.objs.size)
  (old:∀ b o,s.heap.get? b=some o→h'.get? b=some o) (hns:h'.Ns C m0) :
  Inv (Jw X Nc scope cl C fp s H) [] (none::none::MJ σ Bh) H { s with heap:=h',toks:=tk } where
 ok:=AuB I O hcl Ah3 hC hfp hfo
 os:=rfl
 bare:=I.bare
 base:=Un.kept old
 loc:=by
  refine⟨m0,hns,fun i y v hN hσ hv=>?_⟩
  match i with
  | 0=>simp at hσ
  | 1=>simp at hσ
  | k+2 =>
   rw[A5U,A5U] at hσ
   obtain⟨j,hj,hs⟩:=Apm hσ
   obtain⟨z,hz1,hz2,hz3⟩:=O.cap k j hj
   have hN':Nc[k+2]?=some y:=hN
   rw[hz1] at hN'
   cases hN'
   have mem:(y,NameKind.free)∈scope.names:=PySem.mem_of_lookup hz3
   have hk:=(O.fr _ mem rfl).1
   obtain⟨m,hn,hl⟩:=I.loc
   obtain⟨u,r,l⟩:=hl j y v hz2 hs (.inr (.inl hk))
   refine⟨u,r,?_⟩
   rcases l with ⟨k',_⟩ | ⟨_,c,hc,z⟩
   ·have k'':X.env.scope.names.lookup y=some .local:=k'
    rw[hk] at k'';cases k''
   ·obtain⟨o,ho,hd⟩:=z
    exact .inr ⟨.inl (KH I.ok.kind hz3 hk),c,(Ah3 y mem).trans hc,o,old _ _ ho,hd⟩
 cell:=fun y c e=>by
  obtain⟨v,o,ho,hd⟩:=I.cell y c (hcl y c e).1
  exact⟨v,o,old _ _ ho,hd⟩
 free:=I.hok.fresh hC
 Ux:=fun y c e=>I.Ux y c (hcl y c e).1
 pin:=fun p hp=>absurd (show p∈([]:List (Addr × Obj)) from hp) (by simp)
 hok:=I.hok.kept old
 len:=by
  show(none::none::MJ σ Bh).length=Nc.length
  rw[A3Z,A3Z,Apl,O.len]
theorem Ap6{x x':Str}{px px' tp:Pos}{kx:Nat}{Nc:List Str}{Bh:List Nat}{scope:Scope}{cl:List (Str × Addr)}{iter elt:Expr}{ifs:List Expr}{pos:Pos}{tc:TT}{te:TE}{Q:VK}{it:Addr}{fp:List Addr}{tn:Nat→Heap→Prop}{J:It}
  {RR:Value→Addr→Result→Shared→Prop}{E:Value→Shared→Prop}
  (O:AcJ X x x' Nc Bh scope) (hc:X.calm=true)
  (hcl:∀ x c,cl.lookup x=some c→X.env.cells.lookup x=some c∧(x,NameKind.free)∈scope.names) (Ah3:∀ x,(x,NameKind.free)∈scope.names→cl.lookup x=X.env.cells.lookup x)
  (hte:∀ C fp s H,PE (Jw X Nc scope cl C fp s H) elt te) (htc:∀ C fp s H,PIf (Jw X Nc scope cl C fp s H) ifs tc)
  (I:Inv X pins σ H s) (T:Turn X.prog X.w X.K (.Tuple [.Name x px,.Name x' px'] kx tp) J fp it tn) (st:tn 0 s.heap) (hfp:∀ b∈fp,XN X pins H b) (h:AnK X.K Bh tc te J σ H Q)
  (hRR:∀(D C:Addr) (s':Shared) (m:Str→Option Value),s'.heap.Ns C m→(∀ h',Heap.SameBut C s'.heap h'→∃ H',Inv X pins σ H' { s' with heap:=h' }∧H' C=none∧Q (.ref D) H') →
   s.heap.objs.size≤C→RR (.ref D) C (.ok .next) s') :
  wpAny (model X.prog X.w) X.A (newList []) (fun acc s₃=>wpAny (model X.prog X.w) X.A (newFunctionEnv scope X.env.globals cl [] X.env.qual none .none (some X.env)) (fun cenv s₄ =>
   codeAny (model X.prog X.w) X.A (.compStart (.ListComp elt [⟨(.Tuple [.Name x px,.Name x' px'] kx tp),iter,ifs,0⟩] scope pos) 0 (.ref it) acc { cenv with scope:=relabel scope X.env }) (RR acc cenv.locals) s₄) E s₃) E s:=by
 refine wpAny_newObj_type (wpAny_newFunctionEnv O.cell (by intro y hy;simp at hy) (fun h₁ hns₁ hsb₁=>?_) O.kind)
 dsimp only at hns₁ hsb₁ ⊢
 generalize hH2:s.heap.push { cls:=.type "list", dict:=none,data:=.seq ([]:List Value).toArray }=H2 at hns₁ hsb₁ ⊢
 have hC:H2.objs.size=s.heap.objs.size+1:=by rw[← hH2,Heap.size_push]
 have hCle:s.heap.objs.size≤H2.objs.size:=by rw[hC];exact A5g _
 have hDC:s.heap.objs.size≠H2.objs.size:=by rw[hC];exact A4b (A4Y _)
 have below:∀ b,b<s.heap.objs.size→b≠H2.objs.size∧b≠s.heap.objs.size:=fun b hb=>⟨by rw[hC];exact A4b (A4P hb),A4b hb⟩
 have old:∀ b o,s.heap.get? b=some o→h₁.get? b=some o:=fun b o e=>hsb₁.extBut b o (below b (Heap.lt_size e)).1 (Heap.get?_push_of_some _ (hH2▸Heap.get?_push_of_some _ e))
 have hacc:h₁.get? s.heap.objs.size=some (AaL [] 0):=hsb₁.extBut _ _ hDC (Heap.get?_push_of_some _ (hH2▸Heap.get?_push_size _ rfl))
 have hfo:∀ b∈fp,b<s.heap.objs.size:=fun b hb=>by
  obtain⟨o,e,_⟩:=T.obj _ _ st b hb
  exact Heap.lt_size e
 have st1:tn 0 h₁:=T.keep _ _ _ st fun b _ o e=>old b o e
 generalize hDD:s.heap.objs.size=D at *
 generalize hCC:H2.objs.size=C at *
 have Ayn:D≤C:=hCle
 let Y:Cx:=Jw X Nc scope cl C fp s H
 have I0:Inv Y [] (none::none::MJ σ Bh) H { s with heap:=h₁,toks:=s.toks+([]:List (Str × Value)).length }:=Ap5 I O hcl Ah3 (by rw[hDD];exact hCle) hfp (fun b hb=>by rw[hDD];exact hfo b hb) old hns₁
 have Auy:H D=none:=by rw[← hDD];exact I.hok.fresh (A3U _)
 have AnF:D≠C:=hDC
 have Dfs:D∉Y.fs:=fun z=>by
  have:=I.stack.mem (show D∈frs X.stack from z)
  obtain⟨_,o,e,_⟩:=this
  have:=Heap.lt_size e
  rw[hDD] at this
  exact A4v _ this
 have Auz:∀ y c,Y.env.cells.lookup y=some c→c≠D:=fun y c e z=>by
  obtain⟨v,q⟩:=I.cell y c (hcl y c e).1
  have:=q.lt
  rw[z,hDD] at this
  exact A4v _ this
 have Dfp:∀ b∈fp,b≠D:=fun b hb=>A4b (hfo b hb)
 have fpY:∀{H':Hp},(∀ b∈fp,H' b=none)→∀ b∈fp,XN Y [] H' b:=fun hn b hb =>
  ⟨hn b hb,A4b (A4k (hfo b hb) Ayn),fun z=>I0.ok.AoY b hb z,.inl hb,fun y c e=>(I0.ok.exf b hb).2 y c e,fun p hp=>absurd (show p∈([]:List (Addr × Obj)) from hp) (by simp)⟩
 obtain⟨W,⟨m0,w0⟩,turn⟩:=h
 have loop:∀ s₃:Shared,s₃={ s with heap:=h₁,toks:=s.toks+([]:List (Str × Value)).length } →
   codeAny (model X.prog X.w) X.A (.compLoop (.ListComp elt [⟨(.Tuple [.Name x px,.Name x' px'] kx tp),iter,ifs,0⟩] scope pos) 0 (.ref it) (.ref D) (compEnvC scope cl C X.env)) (RR (.ref D) C) s₃:=by
  rintro s₃ rfl
  refine Afl (fun n s'=>∃(i:Nat) (o o':Option V) (H':Hp) (ys:List V) (us:List Value) (k:Nat),Inv Y [] (o::o'::MJ σ Bh) H' s'∧tn i s'.heap∧(∀ b∈fp,H' b=none)∧s'.heap.get? D=some (AaL us k)∧H' D=none∧Vals ys us∧W i n ys H')
   ?_ m0 ⟨0,none,none,H,[],[],0,I0,st1,fun b hb=>(hfp b hb).1,hacc,Auy,.nil,w0⟩
  rintro n s3 ⟨i,o3,o3',H3,ys,us,k,I3,st3,fr3,hD3,nD3,rv,w3⟩
  have fpP:∀{H':Hp} {ob:Obj},(∀ b∈fp,H' b=none)→∀ b∈fp,XN Y [(D,ob)] H' b:=fun hn b hb=>by
   obtain⟨g0,g1,g2,g3,g4,_⟩:=fpY hn b hb
   refine⟨g0,g1,g2,g3,g4,fun p hp=>?_⟩
   have e:p=(D,_):=List.mem_singleton.mp (show p∈[(D,_)] from hp)
   rw[e]
   exact Ne.symm (Dfp b hb)
  have IP:Inv Y [(D,AaL us k)] (o3::o3'::MJ σ Bh) H3 s3:=I3.Uy fun p hp=>by
   have e:p=(D,AaL us k):=List.mem_singleton.mp hp
   subst e
   exact⟨hD3,nD3,AnF,Dfs,fun v z=>by cases z⟩
  have AqR:∀{σ':St} {H':Hp} {s':Shared} {pl:List (Addr × Obj)},Inv Y ([(D,AaL us k)]++pl) σ' H' s'→s'.heap.get? D=some (AaL us k)∧H' D=none:=fun I'=>by
   have z:=I'.pin (D,AaL us k) (A4t _ (A4S _ A3V))
   exact⟨z.1,z.2.1⟩
  rcases turn i n ys H3 w3 with ⟨stop,hlen,fin⟩ | ⟨go,hlen,step⟩
  ·
   refine wpAny_mono (T.done Y rfl rfl rfl hc i _ s3 _ H3 (fun _ _=>False) IP (fpP fr3) st3 stop) (fun r s4 hr=>?_) fun _ _ z=>z.elim
   obtain⟨hr,I4⟩:=hr
   subst hr
   obtain⟨gD,nD⟩:=AqR (pl:=[]) (by simpa using I4)
   obtain⟨m,hn,_⟩:=I4.loc
   refine hRR D C s4 m hn (fun h' hs'=>⟨upd H3 D (.lst ys),?_,(Aw (Ne.symm AnF)).trans I4.free,fin D nD⟩) hCle
   have nt:∀ b ob,H3 b=some ob→b≠C:=fun b ob e z=>by
    have:=I4.free
    rw[z] at e
    rw[show H3 C=none from this] at e
    cases e
   have u1:Un (frs X.stack) fp H H3 s.heap h':=Un.but I4.base hs' (show s.heap.objs.size≤C by rw[hDD];exact hCle)
   have ok1:HOk X.prog X.w H3 h':=fun b ob e=>(I4.hok b ob e).stay (fun c v hc q=>(hs'.2 c (by
    rcases hc with z | z
    ·rw[z];exact nt b ob e
    ·exact nt c _ z)).trans q) (fun _ q=>q) fun _ _ q=>q
   have gD':h'.get? D=some (AaL us k):=(hs'.2 D AnF).trans gD
   exact I.call' (s':={ s4 with heap:=h' }) (ch:=fp) I4.os (u1.track (A5q hDD) nD) (ok1.track nD ⟨hlen,us,k,rv,gD'⟩) I4.bare fun b hb=>by
    obtain⟨_,g1,_,g3,g4,g5⟩:=hfp b hb
    exact⟨g3,g1,g4,g5⟩
  ·
   refine wpAny_mono (T.item Y rfl rfl rfl hc i _ s3 _ H3 (fun _ _=>False) IP (fpP fr3) st3 go) (fun r s4 hr=>?_) fun _ _ z=>z.elim
   obtain⟨u0,hr,h4⟩:=hr
   subst hr
   refine wpAny_mono h4 (fun _ s5 h5=>?_) fun _ _ z=>z.elim
   obtain⟨x5,H5,I5,r5,y5,st5,fr5⟩:=h5
   have I5':=I5.pinned (fpP fr5) (T.obj _ _ st5)
   have n1:PG Y (.Name x px) (Afc 0):=Dd (i:=0) O.nd O.hd (.inl (GJ I.ok.kind O.loc (by intro z;cases z))) (.inr (GJ I.ok.kind O.loc (by intro z;cases z)))
   have n2:PG Y (.Name x' px') (Afc 1):=Dd (i:=1) O.nd O.hd2 (.inl (GJ I.ok.kind O.A0h (by intro z;cases z))) (.inr (GJ I.ok.kind O.A0h (by intro z;cases z)))
   have tgt:PG Y (.Tuple [.Name x px,.Name x' px'] kx tp) (AzA Y.K 2 (Auk (Afc 0) (Auk (Afc 1) Az9))):=Aul hc (Afd n1 (Afd n2 ArS))
   obtain⟨aT,uT,vT,rfl,hT,stepT⟩:=step x5 _ y5
   refine wpAny_mono (tgt _ s5 _ H5 (.ref aT) u0 (fun σ2 H2=>σ2=some uT::some vT::MJ σ Bh∧H2=H5) I5' r5 ⟨aT,[uT,vT],rfl,hT,rfl,uT,[vT],rfl,vT,[],rfl,rfl,rfl,rfl⟩) (fun _ s6 h6=>?_) fun _ _ z=>z.elim
   obtain⟨_,_,I6,rfl,rfl⟩:=h6
   refine wpAny_mono ((htc C fp s H).run I6 stepT) (fun b s7 h7=>?_) fun _ _ z=>z.elim
   obtain⟨H7,I7,q7⟩:=h7
   have Apn:∀{σ':St} {H':Hp} {s':Shared},Inv Y ([(D,AaL us k)]++Ahw fp s5.heap) σ' H' s'→tn (i+1) s'.heap∧∀ b∈fp,H' b=none:=fun I' =>
    ⟨T.keep _ _ _ st5 fun b hb o e=>(I'.pin (b,o) (A4t _ (A4t _ (Ol hb e)))).1,fun b hb=>by
     obtain⟨o,e,d⟩:=T.obj _ _ st5 b hb
     exact(I'.pin (b,o) (A4t _ (A4t _ (Ol hb e)))).2.1⟩
   cases b with
   | false =>
    rw[if_neg A4g] at q7
    rw[if_neg A4g]
    obtain⟨m',hm,w7⟩:=q7
    obtain⟨gD,nD⟩:=AqR I7
    obtain⟨k1,k2⟩:=Apn I7
    exact⟨m',hm,i+1,some uT,some vT,H7,ys,us,k,I7.Uy (fun p hp=>nomatch hp),k1,k2,gD,nD,rv,w7⟩
   | true =>
    rw[if_pos rfl] at q7
    rw[if_pos rfl]
    refine wpAny_mono (hte C fp s H _ s7 _ H7 _ I7 q7) (fun u8 s8 h8=>?_) fun _ _ z=>z.elim
    obtain⟨y8,H8,I8,r8,m',hm,w8⟩:=h8
    obtain⟨gD,nD⟩:=AqR I8
    obtain⟨k1,k2⟩:=Apn I8
    refine call_meets F.slot_list_append ⟨_,gD,rfl⟩ F.entry_list_append (F.args_list_append_2 _ _) (PySem.list_append D us.toArray k u8 (by rw[A4a,← rv.length];omega)) ⟨gD,?_⟩
    have q:=PySem.IsL.update gD (·.push u8)
    have e1:us.toArray.push u8=(us++[u8]).toArray:=by simp
    rw[e1] at q
    have I8':Inv Y [] (some uT::some vT::MJ σ Bh) H8 s8:=I8.Uy (fun p hp=>nomatch hp)
    have I9:Inv Y [] (some uT::some vT::MJ σ Bh) H8 { s8 with heap:=s8.heap.update D (Obj.mapSeq (·.push u8)),toks:=s8.toks } :=
     I8'.turned (it:=D) (fun b o hb e=>(Heap.get?_update_other s8.heap (Obj.mapSeq (·.push u8)) (Ne.symm hb)).trans e) nD AnF (.inr (A5q hDD)) Auz (fun p hp=>nomatch hp)
    refine⟨m',hm,i+1,some uT,some vT,H8,ys++[y8],us++[u8],_,I9,T.keep _ _ _ k1 fun b hb o e=>(Heap.get?_update_other s8.heap (Obj.mapSeq (·.push u8)) (Ne.symm (Dfp b hb))).trans e,k2,q,nD,rv.append (.cons r8 .nil),w8⟩
 exact codeAny_compStart_list (loop _ rfl) (T.self X.A 0 _ _ _ st1 (loop _ rfl))
theorem AuC{x x':Str}{px px' tp pos:Pos}{kx:Nat}{Nc:List Str}{Bh:List Nat}{scope:Scope}{iter elt:Expr}{ifs:List Expr}{wi:TI}{tc:TT}{te:TE}(O:AcJ X x x' Nc Bh scope)(hc:X.calm=true)(hi:PI X (.Tuple [.Name x px,.Name x' px'] kx tp) iter wi)
  (htc:∀ cl C fp s H,PIf (Jw X Nc scope cl C fp s H) ifs tc) (hte:∀ cl C fp s H,PE (Jw X Nc scope cl C fp s H) elt te) (hs:∀ x,foldedSetIterable iter X.env x=pure x:=by intro _;rfl) :
  PE X (.ListComp elt [⟨(.Tuple [.Name x px,.Name x' px'] kx tp),iter,ifs,0⟩] scope pos) (AuA X.K wi Bh tc te):=by
 intro pins s σ H Q I h
 rw[eval_ListComp]
 obtain⟨cl,e1,e2,e3⟩:=Aei (scope:=scope) (env:=X.env) fun y hy hf=>I.ok.has y.1 (.inl (O.fr y hy hf).1)
 refine wpAny_comprehension_free (use:=none) rfl hs e1 O.kind O.names (thn (hi pins s σ H _ I h) fun v s1 h1=>thn h1 fun itv s2 h2=>?_)
 obtain⟨it,fp,tn,J,H2,e,I2,T,st2,f2,w2⟩:=h2
 subst e
 refine Ap6 (RR:=fun acc C=>compPost (model X.prog X.w) X.A X.xe none (EP X pins σ Q) acc C) O hc e2 e3 (hte cl) (htc cl) I2 T st2 f2 w2 ?_
 intro D C s' m hn hq hC
 refine⟨m,hn,fun h' hs'=>?_⟩
 obtain⟨H',I',_,q⟩:=hq h' hs'
 exact⟨.ref D,H',I',rfl,q⟩
theorem Atu{K:PySem.W.Frag}{x x':Str}{px px' tp pos:Pos}{kx:Nat}{Nc:List Str}{Bh:List Nat}{scope:Scope}{iter elt:Expr}{ifs:List Expr}{wi:TI}{tc:TT}{te:TE}(O:AcJ X x x' Nc Bh scope)(hc:X.calm=true)(hi:PI X (.Tuple [.Name x px,.Name x' px'] kx tp) iter wi)
  (htc:∀ cl C fp s H,PIf (Jw X Nc scope cl C fp s H) ifs tc) (hte:∀ cl C fp s H,PE (Jw X Nc scope cl C fp s H) elt te) (hs:∀ x,foldedSetIterable iter X.env x=pure x:=by intro _;rfl) (hK:X.K=K:=by rfl) :
  PE X (.ListComp elt [⟨(.Tuple [.Name x px,.Name x' px'] kx tp),iter,ifs,0⟩] scope pos) (AuA K wi Bh tc te):=by
 subst hK
 exact AuC O hc hi htc hte hs
theorem AuD{K:PySem.W.Frag}{S1 S2:Src}{n:Nat}{Bh:List Nat}{tc:TT}{te:TE}{σ:St}{H:Hp}{Q:VK}(f g:Nat→V)(Pv:Nat→List V→Hp→Prop)(h0:Pv 0 [] H)(hl:∀ i ys H,i≤n→Pv i ys H→ys.length≤i)
  (hz:n≤sizeLine) (h1:∀ i ys H,i<n→Pv i ys H→XS K H S1 i (f i)) (h2:∀ i ys H,i<n→Pv i ys H→XS K H S2 i (g i)) (hst:∀ ys H,Pv n ys H→(Aw8 K S1 S2).stop n H)
  (hs:∀ i ys H T,i<n→Pv i ys H→H T=none→FN n Pv tc te (some (f i)::some (g i)::MJ σ Bh) i ys (upd H T (.tup [f i,g i])))
  (hd:∀ ys H p,Pv n ys H→H p=none→Q (.ref p) (upd H p (.lst ys))):AnK K Bh tc te (Aw8 K S1 S2) σ H Q:=by
 refine⟨fun i m ys H=>m=n-i∧i≤n∧Pv i ys H,⟨n,by simp,A4f _,h0⟩,?_⟩
 rintro i m ys H ⟨rfl,hi,p⟩
 have hy:=hl i ys H hi p
 by_cases hlt:i<n
 ·refine .inr ⟨⟨⟨_,h1 i ys H hlt p⟩,_,h2 i ys H hlt p⟩,by omega,fun x H' y=>?_⟩
  obtain⟨T,rfl,hT,e⟩:=y
  have e:=e _ _ (h1 i ys H hlt p) (h2 i ys H hlt p)
  subst e
  exact⟨T,f i,g i,rfl,SqT.of Ae,hs i ys H T hlt p hT⟩
 ·have e:i=n:=by omega
  subst e
  exact .inl ⟨hst ys H p,by omega,fun p' hp=>hd ys H p' p hp⟩
theorem Ayy{K:PySem.W.Frag}{H:Hp}{u:List Nat}{i:Nat}(h:i<u.length):XS K H (.s (tx u)) i (.str ⟨#[u.getD i 0]⟩) :=
 ⟨u.getD i 0,by rw[Ake,A3R h];simp[List.getD,h],rfl⟩
theorem AwA{K:PySem.W.Frag}{H:Hp}{a:Addr}{xs:List V}{i:Nat}(q:SqL K H a xs)(h:i<xs.length):XS K H (.l a) i (xs.getD i .non) :=
 ⟨xs,q,by rw[A3R h];simp[List.getD,h]⟩
end
open PySem PySem.Spec PyProof.Rows
section
variable {X:Cx}
def A1k (K:PySem.W.Frag):V→List V→Hp→VK→Prop:=fun x vs H Q=>∃ a ns k,x=.ref a∧vs=[.int k]∧SqL K H a (vI ns)∧Q (.int (ns.count k:Nat)) H
end
def Ite (K:PySem.W.Frag)(a:Addr):It where
 go:=fun i H=>∃ xs x,SqL K H a xs∧xs[i]?=some x
 yld:=fun i H x H'=>∃ T,x=.ref T∧H T=none∧∀ xs u,SqL K H a xs→xs[i]?=some u→H'=upd H T (.tup [.int (i:Int),u])
 stop:=fun i H=>∃ xs,SqL K H a xs∧xs.length=i
def A3z (e it a:Addr)(i:Nat)(h:Heap):Prop:=(∃ old,IsEnum h e it i old)∧h.IsListIter it a i
section
variable {X:Cx}{es:List Expr}{kx:Nat}{tp:Pos}
def A2V (K:PySem.W.Frag)(ta:TA):TI:=fun σ H R=>ta σ H fun vs H1=>∃ a,vs=[.ref a]∧(∃ xs,SqL K H1 a xs)∧R (Ite K a) H1
end
open PySem PySem.Spec PyProof.Rows
inductive Atv (K:PySem.W.Frag) (H:Hp):Nat→V→V→Prop where
 | flat {n:Nat} {x:V} (h:Gp x=true):Atv K H n x x
 | lst {n:Nat} {p q:Addr} {xs ys:List V} (hp:SqL K H p xs) (hq:SqL K H q ys) (hl:xs.length=ys.length) (hi:∀(i:Nat) (x y:V),xs[i]?=some x→ys[i]?=some y→Atv K H n x y):Atv K H (n+1) (.ref p) (.ref q)
 | tup {n:Nat} {p q:Addr} {xs ys:List V} (hp:SqT K H p xs) (hq:SqT K H q ys) (hl:xs.length=ys.length) (hi:∀(i:Nat) (x y:V),xs[i]?=some x→ys[i]?=some y→Atv K H n x y):Atv K H (n+1) (.ref p) (.ref q)
section
variable {X:Cx}{K:PySem.W.Frag}
def A0i (K:PySem.W.Frag)(H:Hp)(p q:Addr):Prop:=∃ xs ys:List V,SqL K H p xs∧SqL K H q ys∧xs.length=ys.length∧∀(i:Nat) (x y:V),xs[i]?=some x→ys[i]?=some y→Atv K H 50 x y
def A3G (K:PySem.W.Frag):R2:=fun x y H Q=>∃ p q,x=.ref p∧y=.ref q∧A0i K H p q∧Q (.bl true) H
def A3H (K:PySem.W.Frag):R2:=fun x y H Q=>∃ p q,x=.ref p∧y=.ref q∧A0i K H p q∧Q (.bl false) H
end
open PySem PySem.Spec PyProof.Rows
section
variable {X:Cx}{K:PySem.W.Frag}{k:Nat}{f C:Addr}{fd:FuncData}{ps:List Str}{sp:Sp}{dvs:List V}{ds:List Value}{x m:Str}{p pos apos:Pos}{e o:Expr}{es:List Expr}{ta:TE}{t:TA}
def A3I (K:PySem.W.Frag):R2:=fun x y H Q=>∃ p q xs,x=.ref p∧y=.ref q∧SqL K H p xs∧SqL K H q []∧Q (.bl (!xs.isEmpty)) H
def A3J (K:PySem.W.Frag):R2:=fun x y H Q=>∃ p q xs,x=.ref p∧y=.ref q∧SqL K H p xs∧SqL K H q []∧Q (.bl xs.isEmpty) H
end
open PySem PySem.Spec PyProof.Rows PySem.Builtin PySem.Builtin.Str
def jn (c:Nat):List (List Nat)→List Nat
 | []=>[]
 | [w]=>w
 | w::v::r=>w++c::jn c (v::r)
theorem AuE{c:Nat}:∀{w v a b:List Nat},c∉w→c∉v→w++c::a=v++c::b→w=v∧a=b
 | [],[],a,b,_,_,h=>⟨rfl,(List.cons.inj h).2⟩
 | [],x::v,a,b,_,hv,h=>absurd (by have:=(List.cons.inj h).1;rw[this];exact A3V) hv
 | x::w,[],a,b,hw,_,h=>absurd (by have:=(List.cons.inj h).1;rw[← this];exact A3V) hw
 | x::w,y::v,a,b,hw,hv,h=>by
  have e:=List.cons.inj h
  have:=AuE (w:=w) (v:=v) (fun z=>hw (A4d _ z)) (fun z=>hv (A4d _ z)) e.2
  exact⟨by rw[e.1,this.1],this.2⟩
theorem join_list(c:Nat):∀ l:List Str,(Str.join ⟨#[c]⟩ l).cps.toList=jn c (l.map fun z=>z.cps.toList)
 | []=>rfl
 | [x]=>rfl
 | x::y::r=>by
  show(x++⟨#[c]⟩++Str.join ⟨#[c]⟩ (y::r)).cps.toList=x.cps.toList++c::jn c ((y::r).map fun z=>z.cps.toList)
  rw[← join_list c (y::r)]
  show((x.cps++#[c])++(Str.join ⟨#[c]⟩ (y::r)).cps).toList=_
  simp
theorem Ayz(z:Str):1≤Builtin.Str.strKind z:=by
 unfold Builtin.Str.strKind
 split
 ·omega
 ·split <;> omega
theorem Ako:∀{l:List Nat} {a:Nat},a∈l→a≤l.sum
 | [],_,h=>by cases h
 | b::l,a,h=>by
  rw[A4L]
  rcases List.mem_cons.mp h with z | z
  ·rw[z];omega
  ·have:=Ako z;omega
theorem Ani:∀{l:List (Str × Tok)} {ws:List (List Nat)},l.map (·.1)=ws.map tx→Vals (vS ws) (strValues l)
 | [],[],_=>.nil
 | [],w::ws,h=>by cases h
 | p::l,[],h=>by cases h
 | p::l,w::ws,h=>by
  have e:=List.cons.inj h
  exact .cons ⟨p.2,by rw[← e.1]⟩ (Ani e.2)
def A2j:V→List V→Hp→VK→Prop:=fun x vs H Q=>∃(u:List Nat) (c:Nat) (ws:List (List Nat)),x=.str (tx u)∧vs=[.str ⟨#[c]⟩]∧c<256∧u.length+2≤sizeLine∧ws≠[]∧jn c ws=u∧(∀ w∈ws,c∉w)∧∀ l,H l=none→Q (.ref l) (upd H l (.lst (vS ws)))
open PySem PySem.Spec PyProof.Rows PySem.Builtin PySem.Builtin.Str
def jnS (sp:List Nat):List (List Nat)→List Nat
 | []=>[]
 | [w]=>w
 | w::v::r=>w++(sp++jnS sp (v::r))
structure Sgn (sp:List Nat) (c d:Nat):Prop where
 at':∀ i,sp[i]?=some c↔i=d
 b:∀ z∈sp,z<256
theorem Sgn.lt{sp:List Nat}{c d:Nat}(S:Sgn sp c d):d<sp.length:=(List.getElem?_eq_some_iff.mp ((S.at' d).mpr rfl)).1
theorem Sgn.parts{sp:List Nat}{c d:Nat}(S:Sgn sp c d):∃ a b,sp=a++c::b∧c∉a∧c∉b∧a.length=d:=by
 have h:=S.lt
 refine⟨sp.take d,sp.drop (d+1),?_,fun z=>?_,fun z=>?_,by rw[A4l];omega⟩
 ·have e:sp[d]=c:=(List.getElem?_eq_some_iff.mp ((S.at' d).mpr rfl)).2
  have:sp.take d++sp.drop d=sp:=A5l d sp
  rw[A6j h,e] at this
  exact this.symm
 ·obtain⟨i,hi,e⟩:=A5a z
  rw[A4l] at hi
  have q:(sp.take d)[i]?=some c:=by rw[← e];exact A3R _
  rw[A5s,if_pos (by omega)] at q
  have:=(S.at' i).mp q
  omega
 ·obtain⟨i,hi,e⟩:=A5a z
  have q:(sp.drop (d+1))[i]?=some c:=by rw[← e];exact A3R _
  rw[A4Z] at q
  have:=(S.at' _).mp q
  omega
theorem XX{sp:List Nat}{c d:Nat}(S:Sgn sp c d):∀{ws:List (List Nat)},ws≠[]→(jnS sp ws).count c+1=(ws.map (List.count c)).sum+ws.length
 | [],h=>absurd rfl h
 | [w],_=>by simp[jnS]
 | w::v::r,_=>by
  have ih:=XX S (ws:=v::r) (by simp)
  obtain⟨a,b,e,na,nb,_⟩:=S.parts
  have one:sp.count c=1:=by rw[e,A5Z,List.count_cons_self,List.count_eq_zero.mpr na,List.count_eq_zero.mpr nb]
  rw[jnS,A5Z,A5Z,one,A3X,A4L,A3Z]
  omega
theorem AwB{sp:List Nat}{c d:Nat}(S:Sgn sp c d){w v a b:List Nat}(hw:c∉w)(hv:c∉v)(h:w++(sp++a)=v++(sp++b)):w=v∧a=b:=by
 obtain⟨p,q,e,np,nq,_⟩:=S.parts
 have h':(w++p)++c::(q++a)=(v++p)++c::(q++b):=by rw[e] at h;simpa using h
 have:=AuE (fun z=>(List.mem_append.mp z).elim hw np) (fun z=>(List.mem_append.mp z).elim hv np) h'
 exact⟨List.append_cancel_right this.1,List.append_cancel_left this.2⟩
theorem Sgn.mem{sp:List Nat}{c d:Nat}(S:Sgn sp c d):c∈sp:=A3Y ((S.at' d).mpr rfl)
theorem Asc{sp:List Nat}{c d:Nat}(S:Sgn sp c d):∀{ws vs:List (List Nat)},ws≠[]→vs≠[]→(∀ w∈ws,c∉w)→(∀ v∈vs,c∉v)→jnS sp ws=jnS sp vs→ws=vs
 | [],_,h,_,_,_,_=>absurd rfl h
 | _,[],_,h,_,_,_=>absurd rfl h
 | [w],[v],_,_,_,_,e=>by rw[show w=v from e]
 | [w],v::v'::r,_,_,hw,_,e=>absurd (show c∈w by rw[show w=v++(sp++jnS sp (v'::r)) from e];simp[S.mem]) (hw w A3V)
 | w::w'::r,[v],_,_,_,hv,e=>absurd (show c∈v by rw[← show w++(sp++jnS sp (w'::r))=v from e];simp[S.mem]) (hv v A3V)
 | w::w'::r,v::v'::r',_,_,hw,hv,e=>by
  have h:=AwB S (hw w A3V) (hv v A3V) (show w++(sp++jnS sp (w'::r))=v++(sp++jnS sp (v'::r')) from e)
  rw[h.1,Asc S (ws:=w'::r) (vs:=v'::r') (by simp) (by simp) (fun x hx=>hw x (A4d _ hx)) (fun x hx=>hv x (A4d _ hx)) h.2]
theorem Akp(sp:List Nat):∀ l:List Str,(Str.join (tx sp) l).cps.toList=jnS sp (l.map fun z=>z.cps.toList)
 | []=>rfl
 | [x]=>rfl
 | x::y::r=>by
  show(x++tx sp++Str.join (tx sp) (y::r)).cps.toList=x.cps.toList++(sp++jnS sp ((y::r).map fun z=>z.cps.toList))
  rw[← Akp sp (y::r)]
  show((x.cps++(tx sp).cps)++(Str.join (tx sp) (y::r)).cps).toList=_
  simp[tx]
theorem Asd{sp:List Nat}{c d:Nat}(S:Sgn sp c d):∀{ws:List (List Nat)},(∀ w∈ws,c∉w)→∀ p,(jnS sp ws)[p]?=some c→d≤p∧∀ i,i<sp.length→(jnS sp ws)[p-d+i]?=sp[i]?
 | [],_,p,h=>by simp[jnS] at h
 | [w],no,p,h=>absurd (A3Y h) (no w A3V)
 | w::v::r,no,p,h=>by
  rw[jnS] at h ⊢
  by_cases c1:p<w.length
  ·rw[A4i c1] at h
   exact absurd (A3Y h) (no w A3V)
  ·rw[A4h (by omega)] at h
   by_cases c2:p-w.length<sp.length
   ·rw[A4i c2] at h
    have e:=(S.at' _).mp h
    refine⟨by omega,fun i hi=>?_⟩
    rw[A4h (by omega),A4i (by omega)]
    congr 1
    omega
   ·rw[A4h (by omega)] at h
    have ih:=Asd S (ws:=v::r) (fun x hx=>no x (A4d _ hx)) _ h
    refine⟨by omega,fun i hi=>?_⟩
    rw[A4h (by omega),A4h (by omega),← ih.2 i hi]
    congr 1
    omega
theorem Ase{sp:List Nat}{c d:Nat}(S:Sgn sp c d):∀{ws:List (List Nat)},(∀ w∈ws,c∉w)→∀ p p',(jnS sp ws)[p]?=some c→(jnS sp ws)[p']?=some c→p<p'→p+sp.length≤p'
 | [],_,p,p',h,_,_=>by simp[jnS] at h
 | [w],no,p,p',h,_,_=>absurd (A3Y h) (no w A3V)
 | w::v::r,no,p,p',h,h',lt=>by
  rw[jnS] at h h'
  have c1:¬p<w.length:=fun c1=>by
   rw[A4i c1] at h
   exact absurd (A3Y h) (no w A3V)
  rw[A4h (by omega)] at h h'
  have no':∀ x∈v::r,c∉x:=fun x hx=>no x (A4d _ hx)
  by_cases c2:p-w.length<sp.length
  ·rw[A4i c2] at h
   have e:=(S.at' _).mp h
   by_cases c3:p'-w.length<sp.length
   ·rw[A4i c3] at h'
    have e':=(S.at' _).mp h'
    omega
   ·rw[A4h (by omega)] at h'
    have:=(Asd S no' _ h').1
    omega
  ·rw[A4h (by omega)] at h h'
   have:=Ase S no' _ _ h h' (by omega)
   omega
theorem AuF(u:List Nat)(i n:Nat):((tx u).cps.extract i n).toList=(u.drop i).take (n-i):=by
 show((u.toArray).extract i n).toList=_
 rw[Array.toList_extract,List.extract_eq_drop_take]
theorem Atw{u sp:List Nat}{j:Nat}:Builtin.Str.subAt (tx u) (tx sp) j=true↔(u.drop j).take sp.length=sp:=by
 unfold Builtin.Str.subAt
 rw[beq_iff_eq,← Array.toList_inj,AuF,Bf,show j+sp.length-j=sp.length by omega,Pr]
theorem Akq{u sp:List Nat}{c d limit:Nat}(M:∀ j,u[j+d]?=some c↔(j+(tx sp).length≤(tx u).length∧Builtin.Str.subAt (tx u) (tx sp) j=true))(G:∀ j j',u[j+d]?=some c→u[j'+d]?=some c→j<j'→j+(tx sp).length≤j'):∀(k i:Nat) (acc:Array Nat) (free:Nat),(∀ j,i≤j→u[j+d]?=some c→free≤j)→acc.size+k≤limit →
  (forIn (List.range' i k) (acc,free) (StrLaws.occBody (tx u) (tx sp) (tx u).length limit)).run.fst.size=acc.size+((u.drop (i+d)).take k).count c
 | 0,i,acc,free,_,_=>by simp
 | k+1,i,acc,free,hf,hl=>by
  rw[List.range'_succ,A5h]
  by_cases hc:u[i+d]?=some c
  ·have h1:=(M i).mp hc
   have e:StrLaws.occBody (tx u) (tx sp) (tx u).length limit i (acc,free)=pure (ForInStep.yield (acc.push i,i+(tx sp).length)):=by
    unfold StrLaws.occBody
    rw[if_pos ⟨⟨⟨by show acc.size<limit;omega,hf i (A3U _) hc⟩,h1.1⟩,h1.2⟩]
   rw[e]
   have ih:=Akq (limit:=limit) M G k (i+1) (acc.push i) (i+(tx sp).length) (fun j hj hj'=>G i j hc hj' (by omega)) (by rw[Array.size_push];omega)
   have hd:u.drop (i+d)=c::u.drop (i+1+d):=by
    obtain⟨hlt,he⟩:=List.getElem?_eq_some_iff.mp hc
    rw[A6j hlt,he,show i+d+1=i+1+d by omega]
   rw[hd,A5m,List.count_cons_self]
   rw[Array.size_push] at ih
   refine Eq.trans ih ?_
   omega
  ·have h1:¬(i+(tx sp).length≤(tx u).length∧Builtin.Str.subAt (tx u) (tx sp) i=true):=fun z=>hc ((M i).mpr z)
   have e:StrLaws.occBody (tx u) (tx sp) (tx u).length limit i (acc,free)=pure (ForInStep.yield (acc,free)):=by
    unfold StrLaws.occBody
    rw[if_neg fun z=>h1 ⟨z.1.2,z.2⟩]
   rw[e]
   have ih:=Akq (limit:=limit) M G k (i+1) acc free (fun j hj=>hf j (by omega)) (by omega)
   refine Eq.trans ih ?_
   congr 1
   by_cases hlt:i+d<u.length
   ·rw[A6j hlt,A5m,List.count_cons_of_ne,show i+d+1=i+1+d by omega]
    intro z
    exact hc (by rw[A3R hlt];exact congrArg some z)
   ·rw[A5t (by omega),A5t (by omega)]
    simp
theorem Atx{sp:List Nat}{c d:Nat}(S:Sgn sp c d){ws:List (List Nat)}(no:∀ w∈ws,c∉w):(Builtin.Str.occurrences (tx (jnS sp ws)) (tx sp) 0 (tx (jnS sp ws)).length ((tx (jnS sp ws)).length+1)).length=(jnS sp ws).count c:=by
 rw[StrLaws.occ_eq]
 have dl:=S.lt
 have hc:=Asd S no
 have hg:=Ase S no
 generalize jnS sp ws=u at hc hg ⊢
 have M:∀ j,u[j+d]?=some c↔(j+(tx sp).length≤(tx u).length∧Builtin.Str.subAt (tx u) (tx sp) j=true):=fun j=>by
  rw[Atw,Bf,Bf]
  constructor
  ·intro h
   have q:=(hc _ h).2
   rw[show j+d-d=j by omega] at q
   have hl:j+sp.length≤u.length:=by
    have:=q (sp.length-1) (by omega)
    rw[A3R (l:=sp) (show sp.length-1<sp.length by omega)] at this
    have:=(List.getElem?_eq_some_iff.mp this).1
    omega
   refine⟨hl,A4G fun i=>?_⟩
   rw[A5s]
   split
   ·rw[A4Z,q i (by assumption)]
   ·rw[A4o (by omega)]
  ·rintro⟨hl,e⟩
   have:((u.drop j).take sp.length)[d]?=sp[d]?:=by rw[e]
   rw[A5s,if_pos dl,A4Z,(S.at' d).mpr rfl] at this
   exact this
 have G:∀ j j',u[j+d]?=some c→u[j'+d]?=some c→j<j'→j+(tx sp).length≤j':=fun j j' h h' l=>by
  have:=hg _ _ h h' (by omega)
  rw[Bf]
  omega
 have:=Akq (limit:=(tx u).length+1) M G ((tx u).length+1-0) 0 #[] 0 (fun _ _ _=>A4f _) (by simp)
 rw[Array.length_toList,this,Bf]
 have t0:(u.take d).count c=0:=List.count_eq_zero.mpr fun z=>by
  obtain⟨i,hi,e⟩:=A5a z
  rw[A4l] at hi
  have q:(u.take d)[i]?=some c:=by rw[← e];exact A3R _
  rw[A5s,if_pos (by omega)] at q
  have:=(hc _ q).1
  omega
 have e:u.count c=(u.take d).count c+(u.drop d).count c:=by rw[← A5Z,A5l]
 rw[e,t0,A4M (by rw[A4r];omega)]
 simp
theorem Ay0{sp:List Nat}(h:∀ z∈sp,z<256):Builtin.Str.strKind (tx sp)=1:=by
 unfold Builtin.Str.strKind
 rw[if_pos]
 rw[← Array.all_toList,Pr,A6a]
 exact fun z hz=>decide_eq_true (h z hz)
theorem Arh{sp:List Nat}{c d:Nat}(S:Sgn sp c d){ws:List (List Nat)}(ne:ws≠[])(no:∀ w∈ws,c∉w):(Txt.split (tx (jnS sp ws)) (tx sp)).length=ws.length:=by
 have n:=Atx S no
 have k:=XX S ne
 have s0:(ws.map (List.count c)).sum=0:=by
  clear n k ne
  induction ws with
  | nil=>rfl
  | cons w r ih=>rw[A3X,A4L,List.count_eq_zero.mpr (no w A3V),ih fun x hx=>no x (A4d _ hx)]
 unfold Txt.split
 split
 ·rename_i h
  have lt:(tx (jnS sp ws)).length<(tx sp).length:=by
   rcases Bool.or_eq_true_iff.mp h with h | h
   ·exact of_decide_eq_true h
   ·have:=of_decide_eq_true h
    rw[Ay0 S.b] at this
    have:=Ayz (tx (jnS sp ws))
    omega
  rw[Bf,Bf] at lt
  have:(jnS sp ws).count c=0:=List.count_eq_zero.mpr fun z=>by
   obtain⟨i,hi,e⟩:=A5a z
   have q:=(Asd S no i (by rw[← e];exact A3R _)).2 (sp.length-1) (by have:=S.lt;omega)
   rw[A3R (l:=sp) (show sp.length-1<sp.length by have:=S.lt;omega)] at q
   have:=(List.getElem?_eq_some_iff.mp q).1
   omega
  show 1=_
  omega
 ·split
  ·rename_i h
   rw[List.isEmpty_iff] at h
   rw[h] at n
   show 1=_
   simp at n
   omega
  ·rw[length_partsBetween,n]
   omega
theorem Aty{sp:List Nat}{c d:Nat}(S:Sgn sp c d){ws:List (List Nat)}(ne:ws≠[])(no:∀ w∈ws,c∉w):Txt.split (tx (jnS sp ws)) (tx sp)=ws.map tx:=by
 have l:=Arh S ne no
 have j:=congrArg (fun z:Str=>z.cps.toList) (StrLaws.join_split (tx (jnS sp ws)) (tx sp))
 rw[Akp,Pr] at j
 generalize Txt.split (tx (jnS sp ws)) (tx sp)=ps at l j
 obtain⟨qs,eqs⟩:∃ qs,qs=ps.map fun z=>z.cps.toList:=⟨_,rfl⟩
 rw[← eqs] at j
 have ql:qs.length=ps.length:=by rw[eqs,A3S]
 have wl:0<ws.length:=List.length_pos_iff.mpr ne
 have qne:qs≠[]:=fun z=>by rw[z] at ql;simp at ql;omega
 have cnt:=XX S qne
 have A2k:=XX S ne
 have s0:(ws.map (List.count c)).sum=0:=by
  clear A2k cnt l j ql wl ne
  induction ws with
  | nil=>rfl
  | cons w r ih=>rw[A3X,A4L,List.count_eq_zero.mpr (no w A3V),ih fun x hx=>no x (A4d _ hx)]
 rw[j,ql,l] at cnt
 have s1:(qs.map (List.count c)).sum=0:=by omega
 have qno:∀ w∈qs,c∉w:=fun w hw z=>by
  have h1:w.count c≤(qs.map (List.count c)).sum:=Ako (List.mem_map.mpr ⟨w,hw,rfl⟩)
  have h2:=List.count_pos_iff.mpr z
  omega
 have e:qs=ws:=Asc S qne ne qno no j
 rw[← e,eqs,A4u]
 exact(List.map_id' ps).symm.trans (A5j fun z _=>by rfl)
def AwC:V→List V→Hp→VK→Prop:=fun x vs H Q=>∃(sp:List Nat) (c d:Nat) (ws:List (List Nat)),x=.str (tx (jnS sp ws))∧vs=[.str (tx sp)]∧Sgn sp c d∧(jnS sp ws).length+2≤sizeLine∧ws≠[]∧(∀ w∈ws,c∉w)∧∀ l,H l=none→Q (.ref l) (upd H l (.lst (vS ws)))
theorem Anj{X:Cx}:MtR X "str.split" AwC:=by
 intro pins s σ H x vs v us Q I rx rv h
 obtain⟨sp,c,d,ws,rfl,rfl,hc,hz,ne,no,q⟩:=h
 obtain⟨t,rfl⟩:=rx
 obtain⟨u',rfl,ru⟩:=rv.one
 obtain⟨t',rfl⟩:=ru
 have es:=Aty hc ne no
 have wl:ws.length≤(jnS sp ws).length+1:=by
  have:=XX hc ne
  have:=List.count_le_length (a:=c) (l:=jnS sp ws)
  omega
 generalize jnS sp ws=u at es hz wl ⊢
 have hlen:(tx u).length+2≤sizeLine:=by rw[Bf];exact hz
 have fin:∀(l:List (Str × Tok)) (tk:Nat),l.map (·.1)=Txt.split (tx u) (tx sp)→EP X pins σ Q (.ref s.heap.objs.size) { s with heap:=s.heap.push { cls:=.type "list", data:=.seq (strValues l).toArray },toks:=tk }:=fun l tk e =>
  ⟨.ref s.heap.objs.size,_,I.laid (t':=tk) (fun b o e=>Heap.get?_push_of_some _ e) (A3U _) (show KJ X.prog X.w _ _ _ (.lst (vS ws)) from⟨by rw[Bs];omega,_,_,Ani (e.trans es),Heap.get?_push_size _ rfl⟩),rfl,q _ (I.hok.fresh (A3U _))⟩
 have hy:((tx sp).length == 0)=false:=by rw[Bf];have:=hc.lt;rw[beq_eq_false_iff_ne];omega
 have hn:(partsBetween (tx u) (occurrences (tx u) (tx sp) 0 (tx u).length ((tx u).length+1)) ((tx sp)).length).length≤sizeLine:=by
  have e1:=StrLaws.occ_length_le (tx u) (tx sp) 0 (tx u).length ((tx u).length+1)
  rw[length_partsBetween];omega
 cases h1:(decide ((tx u).length<((tx sp)).length) || decide (Builtin.Str.strKind (tx u)<Builtin.Str.strKind (tx sp)))
 ·cases hf:(occurrences (tx u) (tx sp) 0 (tx u).length ((tx u).length+1)).isEmpty
  ·refine call_meets F.slot_str_split (typeIs_str _ _ _) F.entry_str_split (F.args_str_split_2 _ _) (meets_str_split_sep (tx u) (tx sp) t t' h1 hy hf (by omega) hn) ?_
   show wants (EP X pins σ Q) _ _ { s with toks:=_,heap:=s.heap.push { cls:=.type "list", data:=.seq (strsFrom s.toks (partsBetween (tx u) (occurrences (tx u) (tx sp) 0 (tx u).length ((tx u).length+1)) ((tx sp)).length)).toArray } }
   rw[strsFrom_eq]
   exact fin (numbered s.toks _) _ ((numbered_texts _ _).trans ((if_neg (ne_true_of_eq_false h1)).trans (if_neg (ne_true_of_eq_false hf))).symm)
  ·exact call_meets F.slot_str_split (typeIs_str _ _ _) F.entry_str_split (F.args_str_split_2 _ _) (meets_str_split_not_found (tx u) (tx sp) t t' h1 hy hf)
    (fin [(tx u,t)] s.toks ((if_neg (ne_true_of_eq_false h1)).trans (if_pos hf)).symm)
 ·exact call_meets F.slot_str_split (typeIs_str _ _ _) F.entry_str_split (F.args_str_split_2 _ _) (meets_str_split_cannot_occur (tx u) (tx sp) t t' h1)
   (fin [(tx u,t)] s.toks (if_pos h1).symm)
theorem Atz:Sgn [32,47,32] 47 1:=by
 refine⟨fun i=>?_,by decide⟩
 match i with
 | 0=>simp
 | 1=>simp
 | 2=>simp
 | _+3=>simp
theorem AuG:Sgn [44,32] 44 0:=by
 refine⟨fun i=>?_,by decide⟩
 match i with
 | 0=>simp
 | 1=>simp
 | _+2=>simp
open PySem PySem.Spec PyProof.Rows
def At0 (lo c:Int)(n:Nat):It:=⟨fun i _=>i<n,fun i H x H'=>H'=H∧x=.int (lo+i*c),fun i _=>n≤i⟩
theorem Ap7{P:Program}{w:World}{K:PySem.W.Frag}{tg:Expr}(it:Addr)(lo c:Int)(n:Nat):Turn P w K tg (At0 lo c n) [it] it (fun i h=>IsRangeIter h it (lo+(i:Nat)*c) ((n:Int)-(i:Nat)) c) where
 mem:=by simp
 obj:=fun i h st b hb=>by
  have e:b=it:=by simpa using hb
  subst e
  exact⟨_,st,fun v z=>by
   have z':Data.fields _=Data.cell v:=z
   cases z'⟩
 keep:=fun i h h' st k=>k it (by simp) _ st
 item:=by
  intro X hP hw hK hc i pins s σ H E I hf st hg
  subst hP hw hK
  obtain⟨f0,f1,f2,f3,f4,f5⟩:=hf it (by simp)
  have W:=Walks.range (prog:=X.prog) (w:=X.w) (I.ok.hd hc) it lo c n
  refine W.item i s _ _ hg st fun v h' tk hv st' kk=>?_
  obtain⟨t,rfl⟩:=hv
  have I1:Inv X pins σ H { s with heap:=h',toks:=tk }:=I.turned (fun b o hb e=>kk b o (by simpa using hb) e) f0 f1 f3 f4 f5
  exact⟨_,rfl,Apa (s:={ s with heap:=h',toks:=tk }) (n := "range_iterator") st' rfl rfl (by decide) ⟨.int (lo+i*c),H,I1,⟨t,rfl⟩,⟨rfl,rfl⟩,st',fun b hb=>(hf b hb).1⟩⟩
 done:=by
  intro X hP hw hK hc i pins s σ H E I hf st hg
  subst hP hw hK
  obtain⟨f0,f1,f2,f3,f4,f5⟩:=hf it (by simp)
  exact wpAny_pyNext_range_end (I.ok.hd hc) st (by have:n≤i:=hg;omega) fun h' eb=>⟨rfl,I.turned (t':=s.toks) (fun b o hb e=>eb b o hb e) f0 f1 f3 f4 f5⟩
 self:=fun _ _ _ _ _ st h=>wpAny_pyIter_rangeiter st h
def Ap8 (lo hi c:Int):Nat:=(if lo<hi then (hi-lo-1) / c+1 else 0).toNat
theorem A0j{lo hi c:Int}(hc:0<c):Builtin.Range.rangeSize lo hi c=((Ap8 lo hi c:Nat):Int):=by
 unfold Builtin.Range.rangeSize Ap8
 rw[if_pos hc]
 split
 ·have:=Int.ediv_nonneg (show 0≤hi-lo-1 by omega) (Int.le_of_lt hc)
  omega
 ·rfl
section
variable {X:Cx}{tg:Expr}
def A0k (ta:TA):TI:=fun σ H R=>ta σ H fun vs H1=>∃ i j c:Int,vs=[.int i,.int j,.int c]∧(0<c∧c<1000∧Builtin.Range.small i j c=true)∧R (At0 i c (Ap8 i j c)) H1
theorem Ank{a b c:Expr}{ta:TA}{p pos:Pos}(hg:Gl X "range") (hm:X.mg "range" = none) (ha:PA X [a,b,c] ta) (hs:starEach [a,b,c] X.env=[(false,eval a X.env),(false,eval b X.env),(false,eval c X.env)]:=by rfl) (hs2:starEach [b,c] X.env=[(false,eval b X.env),(false,eval c X.env)]:=by rfl) :
  PI X tg (.Call (.Name "range" p) [a,b,c] [] pos) (A0k ta):=by
 intro pins s σ H R I h
 refine Call_ (QR I hg hm boot_range (PyProof.Rows.callWith_type1 (thn (ha pos pins s σ H _ I h) fun us s1 ⟨vs,H1,I1,r1,q1⟩=>?_) (by rw[hs,hs2]) (by rw[hs2];rfl)))
 obtain⟨i,j,k,e,⟨q1,q2,q3⟩,q⟩:=q1
 subst e
 cases r1 with
 | cons r rr =>
  cases rr with
  | cons r' rr =>
   cases rr with
   | cons r'' rr =>
    cases rr
    obtain⟨t,rfl⟩:=r
    obtain⟨t',rfl⟩:=r'
    obtain⟨t'',rfl⟩:=r''
    refine call_range_3 (by omega) ?_ (Or.inl (PyProof.noPylong_small (by omega)))
    refine wpAny_pyIter_range (IsRange.new ..) q3 ?_
    have I2:Inv X pins σ H1 { s1 with heap:=s1.heap.push { cls:=.type "range", data:=.fields #[.int i t,.int j t',.int k t''] },toks:=s1.toks }:=I1.kept fun b o e=>Heap.get?_push_of_some _ e
    refine⟨(s1.heap.push { cls:=.type "range", data:=.fields #[.int i t,.int j t',.int k t''] }).objs.size,[(s1.heap.push { cls:=.type "range", data:=.fields #[.int i t,.int j t',.int k t''] }).objs.size],_,_,H1,rfl,
     I2.kept (t':=s1.toks) fun b o e=>Heap.get?_push_of_some _ e,Ap7 _ i k (Ap8 i j k),?_,fun b hb=>?_,q⟩
    ·have e1:i+((0:Nat):Int)*k=i:=by simp
     have e2:((Ap8 i j k:Nat):Int)-((0:Nat):Int)=Builtin.Range.rangeSize i j k:=by rw[A0j q1];omega
     show IsRangeIter _ _ (i+((0:Nat):Int)*k) (((Ap8 i j k:Nat):Int)-((0:Nat):Int)) k
     rw[e1,e2]
     exact Heap.get?_push_size _ rfl
    ·have e:b=(s1.heap.push { cls:=.type "range", data:=.fields #[.int i t,.int j t',.int k t''] }).objs.size:=by simpa using hb
     subst e
     exact I2.AsR (A3U _) (I2.hok.fresh (A3U _))
end
theorem Ari{lo c:Int}{n:Nat}{g:TG}{tb:TS}{D:Ends}{σ:St}{H:Hp}(Pv:Nat→St→Hp→Prop)(h0:Pv 0 σ H)
  (hs:∀ i σ H,i<n→Pv i σ H→g (.int (lo+i*c)) σ H fun σ2 H2=>tb { D with nx:=Pv (i+1),ct:=Pv (i+1),bk:=D.nx } σ2 H2) (hd:∀ σ H,Pv n σ H→D.nx σ H) :
  ∃ W:Nat→Nat→St→Hp→Prop,(∃ m,W 0 m σ H)∧∀ i m σ H,W i m σ H →
   ((At0 lo c n).stop i H∧D.nx σ H)∨((At0 lo c n).go i H∧∃ N:St→Hp→Prop,(∀ σ' H',N σ' H'→∃ m',m'<m∧W (i+1) m' σ' H')∧∀ x H',(At0 lo c n).yld i H x H'→g x σ H' fun σ2 H2=>tb { D with nx:=N,ct:=N,bk:=D.nx } σ2 H2):=by
 refine⟨fun i m σ H=>m=n-i∧i≤n∧Pv i σ H,⟨n,by simp,A4f _,h0⟩,?_⟩
 rintro i m σ H ⟨rfl,hi,p⟩
 by_cases hlt:i<n
 ·refine .inr ⟨hlt,Pv (i+1),fun σ' H' p'=>⟨n-(i+1),by omega,rfl,hlt,p'⟩,fun x H' y=>?_⟩
  obtain⟨e,y⟩:=y
  subst e y
  exact hs i σ _ hlt p
 ·have e:i=n:=by omega
  subst e
  exact .inl ⟨A3U _,hd σ H p⟩
theorem Ap9{lo c:Int}{n:Nat}{Bh:List Nat}{tc:TT}{te:TE}{σ:St}{H:Hp}{Q:VK}(Pv:Nat→List V→Hp→Prop)(h0:Pv 0 [] H)(hl:∀ i ys H,i≤n→Pv i ys H→ys.length≤i)
  (hz:n≤sizeLine) (hs:∀ i ys H,i<n→Pv i ys H→FN n Pv tc te (some (.int (lo+i*c))::MJ σ Bh) i ys H)
  (hd:∀ ys H p,Pv n ys H→H p=none→Q (.ref p) (upd H p (.lst ys))):Ah2 Bh tc te (At0 lo c n) σ H Q:=by
 refine⟨fun i m ys H=>m=n-i∧i≤n∧Pv i ys H,⟨n,by simp,A4f _,h0⟩,?_⟩
 rintro i m ys H ⟨rfl,hi,p⟩
 have hy:=hl i ys H hi p
 by_cases hlt:i<n
 ·refine .inr ⟨hlt,by omega,fun x H' y=>?_⟩
  obtain⟨e,y⟩:=y
  subst e y
  exact hs i ys _ hlt p
 ·have e:i=n:=by omega
  subst e
  exact .inl ⟨A3U _,by omega,fun p' hp=>hd ys H p' p hp⟩
theorem AuH{i j c:Int}(h0:0≤i)(h1:i≤1000)(h2:0≤j)(h3:j≤1000)(c0:0<c)(c1:c≤1000):Builtin.Range.small i j c=true:=by
 have hd:(j-i-1) / c≤1000:=by
  rcases Int.lt_or_le (j-i-1) 0 with h | h
  ·have:=Int.ediv_neg_of_neg_of_pos h c0
   omega
  ·have:=Int.ediv_le_self c h
   omega
 have hd0:i<j→0≤(j-i-1) / c:=fun h=>Int.ediv_nonneg (by omega) (by omega)
 unfold Builtin.Range.small
 have hsz:Builtin.Range.rangeSize i j c=if i<j then (j-i-1) / c+1 else 0:=by
  unfold Builtin.Range.rangeSize
  rw[if_pos c0]
 rw[hsz]
 simp only [Builtin.Range.rangeFitsLong,A4I,A5X,decide_eq_true_eq,beq_iff_eq]
 by_cases q:i<j
 ·have:=hd0 q
  simp only [if_pos q,if_pos c0,gt_iff_lt,A4I,decide_eq_true_eq]
  generalize (j-i-1) / c=z at *
  omega
 ·simp only [if_neg q,if_pos c0,gt_iff_lt,A4I,decide_eq_true_eq]
  omega
open PySem PySem.Spec PyProof.Rows
section
variable {X:Cx}{K:PySem.W.Frag}
def A2l (K:PySem.W.Frag)(tl:TE):TE:=fun σ H Q=>tl σ H fun x H1=>∃ a ns,x=.ref a∧SqL K H1 a (vI ns)∧ns.length<64∧∀ l ns',ns'.Perm ns→ns'.Pairwise (· ≥ ·)→H1 l=none→Q (.ref l) (upd H1 l (.lst (vI ns')))
theorem At1(hK:X.K=K:=by rfl)(hc:X.calm=true:=by rfl):Oj X (.builtin "max") (fun xs H Q=>∃ a ns,xs=[.ref a]∧SqL K H a (vI ns)∧0<ns.length∧∀ M:Int,M∈ns→(∀ z∈ns,z≤M)→Q (.int M) H):=by
 subst hK
 intro pins s σ H xs us Q I rv h
 obtain⟨a,ns,rfl,hq,h0,q⟩:=h
 obtain⟨u,rfl,ru⟩:=rv.one
 cases ru
 obtain⟨its,r,pl,hl⟩:=I.list hq
 have hi:IntsAre its ns:=intsAre_of r
 obtain⟨xs,hx⟩:=hi.allInts.items
 have hns:ns=xs.toList.map (·.1):=by rw[← hi.numsOf,← nums_intItems,← hx]
 have hsz:0<xs.size:=by rw[hns,A3S,Array.length_toList] at h0;exact h0
 have hL:s.heap.IsList a (intItems xs):=by rw[← hx];exact pl.isList
 refine max_intList (I.ok.hd hc) hL hsz fun v h' tk hv hk=>?_
 obtain⟨t,rfl⟩:=intItems_at hv
 obtain⟨h1,h2⟩:=argBest_gt (numAt xs) (xs.size-1)
 refine⟨.int _,H,I.kept hk,⟨t,rfl⟩,q _ ?_ fun z hz=>?_⟩
 ·rw[hns,numAt_eq];exact getD_mem (by rw[A3S,Array.length_toList];omega)
 ·rw[hns] at hz
  obtain⟨j,hj,rfl⟩:=mem_getD hz
  rw[A3S,Array.length_toList] at hj
  rw[← numAt_eq];exact h2 j (by omega)
end
open PySem PySem.Spec PyProof.Rows
namespace SetW
theorem Akr:Slot "set_iterator" "__next__" "set_iterator.__next__" := .of (owner := "set_iterator") (n := "__next__") (by rw[typeLookup_type,builtinLookup_eq_fast];kernel_rfl) (by decide +kernel) (by decide +kernel) (by decide +kernel) (by first | exact .inl (by decide +kernel) | exact .inr (by decide +kernel)) (by rw[isSubtype_type];kernel_rfl)
theorem Ax3:Slot "set_iterator" "__iter__" "set_iterator.__iter__" := .of (owner := "set_iterator") (n := "__iter__") (by rw[typeLookup_type,builtinLookup_eq_fast];kernel_rfl) (by decide +kernel) (by decide +kernel) (by decide +kernel) (by first | exact .inl (by decide +kernel) | exact .inr (by decide +kernel)) (by rw[isSubtype_type];kernel_rfl)
theorem Ax4:entryFor table "set_iterator.__next__" = some Builtin.«set_iterator.__next__»:=entryFor_of_fast (by kernel_rfl)
theorem A0l:entryFor table "set_iterator.__iter__" = some Builtin.«dict_keyiterator.__iter__»:=entryFor_alias (id' := "dict_keyiterator.__iter__") (by kernel_rfl) rfl (by decide +kernel) (by kernel_rfl)
theorem A0m:entryFor table "set.__iter__" = some Builtin.«frozenset.__iter__»:=entryFor_alias (id' := "frozenset.__iter__") (by kernel_rfl) rfl (by decide +kernel) (by kernel_rfl)
theorem Ax5(a:Value):argsOk "set_iterator.__next__" ⟨[a],[]⟩:=by unfold argsOk;kernel_rfl
theorem A0n(a:Value):argsOk "set_iterator.__iter__" ⟨[a],[]⟩:=by unfold argsOk;kernel_rfl
theorem Ay1:typeLookup (.type "set") "__len__" = pure (some (.builtin "set.__len__")):=by rw[typeLookup_type,builtinLookup_eq_fast];kernel_rfl
end SetW
open PySem PySem.Spec PyProof.Rows
namespace SetW
theorem Asf{α:Type}(next:Nat→Nat):∀(fuel k:Nat) (left:List α) (out:Array α),left.length≤fuel→(pickOrder.go next fuel k left out).toList.Perm (out.toList++left)
 | 0,k,left,out,h=>by
  have:left=[]:=List.length_eq_zero_iff.mp (by omega)
  subst this
  simp[pickOrder.go]
 | fuel+1,k,left,out,h=>by
  unfold pickOrder.go
  by_cases e:left=[]
  ·subst e
   simp
  ·have l0:0<left.length:=List.length_pos_iff.mpr e
   have l1:next k%left.length<left.length:=A5e _ l0
   rw[A3R l1]
   dsimp only
   refine(Asf next fuel (k+1) _ _ (by rw[List.length_eraseIdx,if_pos l1];omega)).trans ?_
   rw[Array.toList_push,A4U]
   refine List.Perm.append_left _ ?_
   rw[A6q]
   have e2:left=left.take (next k%left.length)++left[next k%left.length]::left.drop (next k%left.length+1):=by
    rw[List.getElem_cons_drop,A5l]
   exact(List.perm_middle (a:=left[next k%left.length]) (l₁:=left.take (next k%left.length)) (l₂:=left.drop (next k%left.length+1))).symm.trans (.of_eq e2.symm)
theorem At2{α:Type}(next:Nat→Nat)(xs:Array α):(pickOrder next xs).toList.Perm xs.toList:=by
 have:=Asf next xs.size 0 xs.toList #[] (by simp)
 simpa [pickOrder] using this
def Ah7 (xs:Array Nat):Prop:=∀ i k,i<k→k<xs.size→xs.getD i 0<xs.getD k 0
theorem Aks(xs:Array Nat)(j:Nat)(hR:Ah7 xs):∀(fuel lo hi:Nat),lo≤hi→hi≤xs.size→hi-lo≤fuel→(∀ i,i<lo→xs.getD i 0<j)→(∀ i,hi≤i→i<xs.size→j≤xs.getD i 0) →
  SetTable.below.go xs j fuel lo hi≤xs.size∧(∀ i,i<SetTable.below.go xs j fuel lo hi→xs.getD i 0<j)∧(∀ i,SetTable.below.go xs j fuel lo hi≤i→i<xs.size→j≤xs.getD i 0)
 | 0,lo,hi,h1,h2,h3,h4,h5=>by
  have:lo=hi:=by omega
  subst this
  unfold SetTable.below.go
  exact⟨h2,h4,h5⟩
 | fuel+1,lo,hi,h1,h2,h3,h4,h5=>by
  unfold SetTable.below.go
  by_cases c:lo<hi
  ·rw[if_pos c]
   have hm:(lo+hi) / 2<xs.size:=by omega
   have e:xs.getD ((lo+hi) / 2) j=xs.getD ((lo+hi) / 2) 0:=by simp[Array.getD,hm]
   dsimp only
   by_cases c2:xs.getD ((lo+hi) / 2) j<j
   ·rw[if_pos c2]
    refine Aks xs j hR fuel _ hi (by omega) h2 (by omega) (fun i hi'=>?_) h5
    rw[e] at c2
    by_cases c3:i=(lo+hi) / 2
    ·rw[c3];exact c2
    ·have:=hR i ((lo+hi) / 2) (by omega) hm
     omega
   ·rw[if_neg c2]
    refine Aks xs j hR fuel lo _ (by omega) (by omega) (by omega) h4 (fun i hi' hs=>?_)
    rw[e] at c2
    by_cases c3:i=(lo+hi) / 2
    ·rw[c3];omega
    ·have:=hR ((lo+hi) / 2) i (by omega) hs
     omega
  ·rw[if_neg c]
   have:lo=hi:=by omega
   subst this
   exact⟨h2,h4,h5⟩
theorem Akt{xs:Array Nat}(hR:Ah7 xs)(j:Nat):SetTable.below xs j≤xs.size∧(∀ i,i<SetTable.below xs j→xs.getD i 0<j)∧(∀ i,SetTable.below xs j≤i→i<xs.size→j≤xs.getD i 0) :=
 Aks xs j hR xs.size 0 xs.size (A4f _) (A3U _) (by omega) (fun i h=>by omega) (fun i h1 h2=>by omega)
theorem Arj{xs:Array Nat}(hR:Ah7 xs):SetTable.below xs 0=0:=by
 obtain⟨h1,h2,h3⟩:=Akt hR 0
 by_cases c:SetTable.below xs 0=0
 ·exact c
 ·have:=h2 0 (by omega);omega
theorem Ark{xs:Array Nat}(hR:Ah7 xs){i:Nat}(hi:i<xs.size):SetTable.below xs (xs.getD i 0+1)=i+1:=by
 obtain⟨h1,h2,h3⟩:=Akt hR (xs.getD i 0+1)
 rcases Nat.lt_trichotomy (SetTable.below xs (xs.getD i 0+1)) (i+1) with c | c | c
 ·have:=h3 i (by omega) hi;omega
 ·exact c
 ·have a:=h2 (i+1) c
  have:=hR i (i+1) (by omega) (by omega)
  omega
structure Wk (w:World) (o:Obj) (es:Array (Int × Value)) (ep:Nat) (t:SetTable):Prop where
 ex:o.ExactSet
 d:o.data=.set es ep t
 f:t.fits es.size=true
 ok:w.params.followText "set-order" = true∨es.size=0∨(t.led=true∧(t.plain=true→Ah7 t.place))
theorem Wk.rise{w:World}{o:Obj}{es:Array (Int × Value)}{ep:Nat}{t:SetTable}(W:Wk w o es ep t)(hb:w.params.followText "set-order" = false) (hp:t.plain=true∨es.size≤1):Ah7 t.place:=by
 have hf:t.place.size=es.size:=by
  have:=W.f
  unfold SetTable.fits at this
  simp at this
  exact this.1
 rcases W.ok with e | e | ⟨_,e⟩
 ·rw[hb] at e;cases e
 ·intro i k h1 h2;omega
 ·rcases hp with hp | hp
  ·exact e hp
  ·intro i k h1 h2;omega
def Md (w:World)(a:Addr)(es:Array (Int × Value))(ep:Nat)(t:SetTable)(h:Heap)(T:Addr)(xl:List (Int × Value))(i:Nat)(f:Value):Prop :=
 (∃ slot:Nat,f=.int slot 0∧((w.params.followText "set-order" = true∧xl=(pickOrder (w.params.setOrder a ep) es).toList)∨(w.params.followText "set-order" = false∧(t.plain=true∨es.size≤1)∧xl=es.toList∧SetTable.below t.place slot=i))) ∨
 (∃ pm:List Nat,f=.ref T∧h.get? T=some (seqObj "tuple" (pm.map fun k:Nat=>rawInt (k:Int)).toArray 0)∧pm.Perm (List.range es.size)∧xl=pm.map fun k=>es.toList.getD k (0,.none))
theorem Md.perm{w:World}{a T:Addr}{es:Array (Int × Value)}{ep i:Nat}{t:SetTable}{h:Heap}{xl:List (Int × Value)}{f:Value}(m:Md w a es ep t h T xl i f):xl.Perm es.toList:=by
 rcases m with ⟨_,_,⟨_,e⟩ | ⟨_,_,e,_⟩⟩ | ⟨pm,_,_,hp,e⟩
 ·rw[e];exact At2 _ _
 ·rw[e]
 ·rw[e]
  refine(hp.map _).trans (.of_eq ?_)
  refine A4G fun k=>?_
  rw[A4e]
  by_cases c:k<es.size
  ·rw[A5k c]
   simp[List.getD,c]
  ·rw[A4o (by simp;omega),A4o (by simp;omega)]
   rfl
theorem Md.len{w:World}{a T:Addr}{es:Array (Int × Value)}{ep i:Nat}{t:SetTable}{h:Heap}{xl:List (Int × Value)}{f:Value}(m:Md w a es ep t h T xl i f):xl.length=es.size:=by
 rw[m.perm.length_eq,Array.length_toList]
def StI (w:World)(I a T:Addr)(o:Obj)(es:Array (Int × Value))(ep:Nat)(t:SetTable)(xl:List (Int × Value))(i:Nat)(h:Heap):Prop :=
 ∃ f oi,h.get? I=some oi∧oi.cls=.type "set_iterator" ∧ oi.data=.fields #[f,.int i 0,.ref a,.int es.size 0,.int ep 0]∧Md w a es ep t h T xl i f∧h.get? a=some o
section
variable {prog:Program}{w:World}{A:Around}{E:Value→Shared→Prop}{s:Shared}{a T:Addr}{o:Obj}{es:Array (Int × Value)}{ep:Nat}{t:SetTable}{xl:List (Int × Value)}
theorem StI.typeIs{I:Addr}{i:Nat}(x:StI w I a T o es ep t xl i s.heap):s.TypeIs (.ref I) "set_iterator" := let ⟨_,oi,ho,hc,_⟩:=x;⟨oi,ho,hc⟩
theorem typ(W:Wk w o es ep t)(ho:s.heap.get? a=some o):s.TypeIs (.ref a) "set" := ⟨o,ho,W.ex.1⟩
theorem Ah8{Q:Bool→Shared→Prop}(h:Q (w.params.followText "set-order") s):wpAny (model prog w) A setsByText Q E s:=by
 unfold setsByText
 exact wpAny_bind (wpAny_askSetting (wpAny_pure h))
theorem AuI(W:Wk w o es ep t)(ho:s.heap.get? a=some o){Q:Bool→Shared→Prop}(h:Q (!w.params.followText "set-order" && (!t.plain && decide (es.size>1))) s):wpAny (model prog w) A (setDrawn a) Q E s:=by
 unfold setDrawn
 exact wpAny_bind (wpAny_setState_of ho W.d W.f (wpAny_bind (Ah8 (wpAny_pure h))))
theorem ApA(W:Wk w o es ep t)(ho:s.heap.get? a=some o){Q:Nat→Shared→Prop}(h:Q ep s):wpAny (model prog w) A (setEpoch a) Q E s:=by
 unfold setEpoch
 exact wpAny_bind (wpAny_setState_of ho W.d W.f (wpAny_pure h))
theorem AnL(W:Wk w o es ep t)(ho:s.heap.get? a=some o){Q:Array (Int × Value)→Shared→Prop}(h:Q es s):wpAny (model prog w) A (setEntries a) Q E s:=by
 unfold setEntries
 exact wpAny_bind (wpAny_setState_of ho W.d W.f (wpAny_pure h))
theorem At3{M:Model}{n:Nat}(hn:0<n){Q:Nat→Shared→Prop}(h:∀ i d,i<n→Q i { s with drawn:=d }):wpAny M A (choose .order n) Q E s:=fun Γ p _=>by
 show Sem.wp M Γ (.choose .order n .pure) _ _ p s
 rw[Sem.wp_choose]
 exact⟨by omega,h _ _ (A5e _ hn)⟩
theorem ApB{α:Type}{M:Model}:∀(n:Nat) (l:List α) {s:Shared} {Q:List α→Shared→Prop},l.length≤n→(∀ l' d,l'.Perm l→Q l' { s with drawn:=d })→wpAny M A (drawOrder n l) Q E s
 | 0,l,s,Q,hl,h=>by
  have:l=[]:=List.length_eq_zero_iff.mp (by omega)
  subst this
  unfold drawOrder
  exact wpAny_pure (h [] s.drawn (.refl _))
 | n+1,[],s,Q,hl,h=>by
  unfold drawOrder
  exact wpAny_pure (h [] s.drawn (.refl _))
 | n+1,x::l,s,Q,hl,h=>by
  unfold drawOrder
  refine wpAny_bind (At3 (by simp) fun i d hi=>?_)
  rw[A3R hi]
  dsimp only
  refine wpAny_bind (ApB n ((x::l).eraseIdx i) (by rw[List.length_eraseIdx,if_pos hi];omega) fun l' d' hp=>wpAny_pure (h _ d' ?_))
  refine(hp.cons _).trans ?_
  rw[A6q]
  have e2:(x::l)=(x::l).take i++(x::l)[i]::(x::l).drop (i+1):=by rw[List.getElem_cons_drop,A5l]
  exact(List.perm_middle (a:=(x::l)[i]) (l₁:=(x::l).take i) (l₂:=(x::l).drop (i+1))).symm.trans (.of_eq e2.symm)
theorem Ay2(W:Wk w o es ep t)(ho:s.heap.get? a=some o)(hz:es.size≤sizeLine){Q:Value→Shared→Prop}
  (hQ:∀(h':Heap) d I T xl,I≠a→T≠I→s.heap.objs.size≤I→(T=a∨s.heap.objs.size≤T)→(∀ b o,s.heap.get? b=some o→h'.get? b=some o)→StI w I a T o es ep t xl 0 h'→Q (.ref I) { s with heap:=h',drawn:=d }):wpAny (model prog w) A (pyIter (.ref a)) Q E s:=by
 have hT:=typ W ho
 have ha:a<s.heap.objs.size:=Heap.lt_size ho
 refine wpAny_pyIter_slot hT F.slot_set_iter (wpAny_call_entry F.slot_set_iter hT A0m ?_ (F.args_set_iter_1 _))
 unfold Builtin.«frozenset.__iter__»
 refine wpAny_bind (m:=Builtin.Frozenset.slot0 "__iter__" ⟨[.ref a],[]⟩) (wpAny_of_eq (a:=a) rfl ?_)
 refine wpAny_bind (wpAny_bind (AnL W ho (wpAny_pure ?_)))
 refine wpAny_bind (AuI W ho ?_)
 dsimp only
 by_cases c:(!w.params.followText "set-order" && (!t.plain && decide (es.size>1)))=true
 ·rw[if_pos c]
  refine wpAny_bind (ApB es.size (List.range es.size) (by simp) fun pm d hp=>?_)
  have hl:pm.length=es.size:=by rw[hp.length_eq,A4H]
  unfold newTuple
  refine wpAny_bind (wpAny_newObj_type ?_ (by show(List.map _ pm).toArray.size≤_+1;rw[A4a,A3S,hl];have:=sizeLine_eq;omega))
  have k1:∀ b ob,s.heap.get? b=some ob→(s.heap.push { cls:=.type "tuple", data:=.seq (pm.map fun k:Nat=>rawInt (k:Int)).toArray }).get? b=some ob:=fun b ob e=>Heap.get?_push_of_some _ e
  refine wpAny_bind (ApA W (k1 _ _ ho) (wpAny_bind (wpAny_newObj_type (wpAny_pure ⟨_,rfl, "set_iterator", _,⟨_,Heap.get?_push_size _ rfl,rfl⟩,Akr.lookup,?_⟩))))
  refine hQ _ d _ s.heap.objs.size (pm.map fun k=>es.toList.getD k (0,.none)) ?_ ?_ ?_ (.inr (A3U _)) (fun b ob e=>Heap.get?_push_of_some _ (k1 _ _ e)) ?_
  ·show(s.heap.push _).objs.size≠a
   rw[Heap.size_push];exact A4y (A4P ha)
  ·show s.heap.objs.size≠(s.heap.push _).objs.size
   rw[Heap.size_push];exact A4b (A4Y _)
  ·show s.heap.objs.size≤(s.heap.push _).objs.size
   rw[Heap.size_push];exact A5g _
  ·exact⟨.ref s.heap.objs.size,_,Heap.get?_push_size _ rfl,rfl,rfl,.inr ⟨pm,rfl,Heap.get?_push_of_some _ (Heap.get?_push_size _ rfl),hp,rfl⟩,Heap.get?_push_of_some _ (k1 _ _ ho)⟩
 ·rw[if_neg c]
  refine wpAny_bind (wpAny_pure (wpAny_bind (ApA W ho (wpAny_bind (wpAny_newObj_type (wpAny_pure ⟨_,rfl, "set_iterator", _,⟨_,Heap.get?_push_size _ rfl,rfl⟩,Akr.lookup,?_⟩))))))
  have k:∀ b ob,s.heap.get? b=some ob→(s.heap.push { cls:=.type "set_iterator", data:=.fields [rawInt 0,rawInt 0,.ref a,rawInt es.size,rawInt ep].toArray }).get? b=some ob:=fun b ob e=>Heap.get?_push_of_some _ e
  refine hQ _ s.drawn s.heap.objs.size a (if w.params.followText "set-order" = true then (pickOrder (w.params.setOrder a ep) es).toList else es.toList) (A4y ha) (A4b ha) (A3U _) (.inl rfl) k ?_
  refine⟨rawInt 0,_,Heap.get?_push_size _ rfl,rfl,rfl,.inl ⟨0,rfl,?_⟩,k _ _ ho⟩
  by_cases hb:w.params.followText "set-order" = true
  ·exact .inl ⟨hb,by rw[if_pos hb]⟩
  ·have hb':w.params.followText "set-order" = false:=by simpa using hb
   rw[hb'] at c
   have hpl:t.plain=true∨es.size≤1:=by
    by_cases z:t.plain=true
    ·exact .inl z
    ·have z':t.plain=false:=by simpa using z
     rw[z'] at c
     simp at c
     exact .inr c
   exact .inr ⟨hb',hpl,by rw[if_neg hb],Arj (W.rise hb' hpl)⟩
theorem Asg(W:Wk w o es ep t)(ho:s.heap.get? a=some o){slot i:Nat}
  (hm:(w.params.followText "set-order" = true∧xl=(pickOrder (w.params.setOrder a ep) es).toList)∨(w.params.followText "set-order" = false∧(t.plain=true∨es.size≤1)∧xl=es.toList∧SetTable.below t.place slot=i)) {Q:Option (Value × Nat)→Shared→Prop}
  (h:∀ next,(i<es.size→(w.params.followText "set-order" = true∧xl=(pickOrder (w.params.setOrder a ep) es).toList)∨(w.params.followText "set-order" = false∧(t.plain=true∨es.size≤1)∧xl=es.toList∧SetTable.below t.place next=i+1)) →
   Q ((xl[i]?).map fun e=>(e.2,next)) s):wpAny (model prog w) A (setNext a slot i ep) Q E s:=by
 unfold setNext
 refine wpAny_bind (wpAny_setState_of ho W.d W.f (wpAny_bind (Ah8 ?_)))
 dsimp only
 rcases hm with ⟨hb,hx⟩ | ⟨hb,hp,hx,hs⟩
 ·rw[hb,if_pos rfl,if_neg (by simp)]
  unfold setWalk
  refine wpAny_bind (wpAny_bind (wpAny_setState_of ho W.d W.f (wpAny_bind (Ah8 ?_))))
  rw[hb,if_pos rfl]
  refine wpAny_bind (wpAny_askSetting (wpAny_pure (wpAny_pure ?_)))
  have:=h slot fun _=>.inl ⟨hb,hx⟩
  rw[hx,Array.getElem?_toList] at this
  exact this
 ·rw[hb,if_neg (by decide)]
  have hR:=W.rise hb hp
  have hf:t.place.size=es.size:=by
   have:=W.f
   unfold SetTable.fits at this
   simp at this
   exact this.1
  have nd:(!t.plain && decide (es.size>1))=false:=by
   rcases hp with e | e
   ·rw[e];simp
   ·rw[decide_eq_false (by omega)];simp
  have nl:(!t.led && !es.isEmpty)=false:=by
   rcases W.ok with e | e | ⟨e,_⟩
   ·rw[hb] at e;cases e
   ·simp[Array.isEmpty,e]
   ·rw[e];simp
  split
  ·rename_i hd
   have hd':(!t.plain && decide (es.size>1))=true:=hd
   rw[nd] at hd'
   cases hd'
  ·refine wpAny_bind ?_
   show wpAny _ _ (if (!t.led && !es.isEmpty)=true then unsupported "set:maker-not-led" else pure ()) _ _ _
   rw[nl,if_neg (by decide)]
   refine wpAny_pure (wpAny_pure ?_)
   rw[hs]
   by_cases hi:i<es.size
   ·have:=h (t.place[i]'(by omega)+1) fun _=>.inr ⟨hb,hp,hx,by
     have:=Ark hR (i:=i) (by omega)
     rwa [show t.place.getD i 0=t.place[i]'(by omega) by simp[Array.getD,show i<t.place.size by omega]] at this⟩
    rw[hx,Array.getElem?_toList,Array.getElem?_eq_getElem hi] at this
    rw[Array.getElem?_eq_getElem hi,Array.getElem?_eq_getElem (show i<t.place.size by omega)]
    exact this
   ·have:=h 0 fun z=>absurd z hi
    rw[hx,Array.getElem?_toList,Array.getElem?_eq_none (by omega)] at this
    rw[Array.getElem?_eq_none (by omega)]
    exact this
theorem AwD(W:Wk w o es ep t){I:Addr}{i:Nat}{x:Int × Value}{Q:Option Value→Shared→Prop}(hne:a≠I)(hnT:T≠I)(st:StI w I a T o es ep t xl i s.heap)(hx:xl[i]?=some x)
  (hQ:∀ h',StI w I a T o es ep t xl (i+1) h'→(∀ b o,b≠I→s.heap.get? b=some o→h'.get? b=some o)→Q (some x.2) { s with heap:=h' }):wpAny (model prog w) A (pyNext (.ref I)) Q E s:=by
 have hT:=st.typeIs
 obtain⟨f,oi,hoi,hci,hdi,hm,ho⟩:=st
 have hi:i<es.size:=by rw[← hm.len];exact(List.getElem?_eq_some_iff.mp hx).1
 unfold pyNext
 refine wpAny_bind (wpAny_attempt (wpAny_callSpecial?_slot (name:=Str.ofString "__next__") hT Akr (wpAny_call_entry Akr hT Ax4 ?_ (Ax5 _))))
 unfold Builtin.«set_iterator.__next__»
 refine wpAny_bind (m:=slotArgs "__next__" 0 ⟨[.ref I],[]⟩) (wpAny_of_eq (a:=(Value.ref I,[])) rfl ?_)
 refine wpAny_bind (wpAny_fieldsOf hoi hdi ?_)
 dsimp only
 refine wpAny_bind (AnL W ho ?_)
 rw[if_neg (by simp)]
 rcases hm with ⟨slot,rfl,hm⟩ | ⟨pm,rfl,hT2,hp,hxl⟩
 ·simp only [A4m]
  refine wpAny_bind (Asg W ho hm fun next hn=>?_)
  rw[hx]
  dsimp only [Option.map]
  refine wpAny_bind (wpAny_setField hoi hdi (by simp) ?_)
  have ho1:=Heap.get?_update_self (Obj.mapFields (·.setIfInBounds 0 (rawInt (next:Int)))) hoi (Obj.isFreed_of_fields (Obj.data_mapFields hdi _))
  have hd1:=Obj.data_mapFields hdi (·.setIfInBounds 0 (rawInt (next:Int)))
  refine wpAny_bind (wpAny_setField ho1 hd1 (by simp) (wpAny_pure ⟨_,rfl,wpAny_pure (hQ _ ⟨.int next 0,_,Heap.get?_update_self _ ho1 (Obj.isFreed_of_fields (Obj.data_mapFields hd1 _)),?_,?_,.inl ⟨next,rfl,hn hi⟩,?_⟩ fun b o' hb e=>?_)⟩))
  ·exact(Obj.cls_mapFields ..).trans ((Obj.cls_mapFields ..).trans hci)
  ·rw[Obj.data_mapFields hd1];simp[rawInt]
  ·exact(Heap.get?_update_other _ _ (Ne.symm hne)).trans ((Heap.get?_update_other _ _ (Ne.symm hne)).trans ho)
  ·exact(Heap.get?_update_other _ _ (Ne.symm hb)).trans ((Heap.get?_update_other _ _ (Ne.symm hb)).trans e)
 ·have hpi:i<pm.length:=by rw[hp.length_eq,A4H];exact hi
  have hk:pm[i]<es.size:=by
   have:=hp.mem_iff.mp (A4j hpi)
   simpa using this
  have e1:es[pm[i]]?=some x:=by
   rw[hxl,A4e,A3R hpi] at hx
   have:=Option.some.inj hx
   rw[Array.getElem?_eq_getElem hk]
   simp[List.getD,hk] at this
   rw[this]
  simp only [A4m]
  refine wpAny_bind (wpAny_seqItems hT2 rfl ?_)
  dsimp only
  rw[show((pm.map fun k:Nat=>rawInt (k:Int)).toArray)[i]?=some (.int (pm[i]:Int) 0) by simp[hpi,rawInt]]
  dsimp only
  unfold setNextDrawn
  refine wpAny_bind (wpAny_bind (wpAny_setState_of ho W.d W.f ?_))
  dsimp only
  rw[if_neg (by simp)]
  simp only [A4m]
  rw[e1]
  refine wpAny_pure (wpAny_bind (wpAny_setField hoi hdi (by simp) (wpAny_pure ⟨_,rfl,wpAny_pure (hQ _ ⟨.ref T,_,Heap.get?_update_self _ hoi (Obj.isFreed_of_fields (Obj.data_mapFields hdi _)),?_,?_,.inr ⟨pm,rfl,?_,hp,hxl⟩,?_⟩ fun b o' hb e=>?_)⟩)))
  ·exact(Obj.cls_mapFields ..).trans hci
  ·rw[Obj.data_mapFields hdi];simp[rawInt]
  ·exact(Heap.get?_update_other _ _ (Ne.symm hnT)).trans hT2
  ·exact(Heap.get?_update_other _ _ (Ne.symm hne)).trans ho
  ·exact(Heap.get?_update_other _ _ (Ne.symm hb)).trans e
theorem stops(hh:A.handled=none){Q:Option Value→Shared→Prop}(hQ:∀ h',(∀ b o,s.heap.get? b=some o→h'.get? b=some o)→Q none { s with heap:=h' }) :
  wpAny (model prog w) A.in1 (do raiseNew (← newExc (.type "StopIteration") []):Sem Fin) (fun fin s'=>∃ v,fin=Fin.done (Flow.ret v)∧wpAny (model prog w) A (pure (some v)) Q E s')
   (fun e s'=>wpAny (model prog w) A (do if ← isInstance e (.type "StopIteration") then pure none else throw e) Q E s') s:=by
 refine wpAny_bind ?_
 simp only [newExc,newTuple]
 refine wpAny_bind (wpAny_newObj_type (wpAny_bind (m:=firstArgMember _ _) (wpAny_of_eq (a:=Value.none) (by first | rfl | (simp only [firstArgMember];rfl)) (wpAny_newObj_type ?_ (by size_fits)))) (by size_fits))
 simp only [raiseNew]
 refine wpAny_bind (wpAny_handled ?_)
 rw[show A.in1.handled=none from hh]
 refine wpAny_bind (wpAny_pure (wpAny_throw ?_))
 refine wpAny_bind (wpAny_isInstance (T := "StopIteration") (b:=true) ⟨_,Heap.get?_push_size _ rfl,rfl⟩ isSubtype_stop (wpAny_pure (hQ _ fun b o' e=>?_)))
 exact Heap.get?_push_of_some _ (Heap.get?_push_of_some _ e)
theorem Ay3(W:Wk w o es ep t){I:Addr}{Q:Option Value→Shared→Prop}(hh:A.handled=none)(st:StI w I a T o es ep t xl es.size s.heap)
  (hQ:∀ h',(∀ b o,b≠I→s.heap.get? b=some o→h'.get? b=some o)→Q none { s with heap:=h' }):wpAny (model prog w) A (pyNext (.ref I)) Q E s:=by
 have hT:=st.typeIs
 obtain⟨f,oi,hoi,hci,hdi,hm,ho⟩:=st
 have hx:xl[es.size]?=none:=A4o (by rw[hm.len];exact A3U _)
 unfold pyNext
 refine wpAny_bind (wpAny_attempt (wpAny_callSpecial?_slot (name:=Str.ofString "__next__") hT Akr (wpAny_call_entry Akr hT Ax4 ?_ (Ax5 _))))
 unfold Builtin.«set_iterator.__next__»
 refine wpAny_bind (m:=slotArgs "__next__" 0 ⟨[.ref I],[]⟩) (wpAny_of_eq (a:=(Value.ref I,[])) rfl ?_)
 refine wpAny_bind (wpAny_fieldsOf hoi hdi ?_)
 dsimp only
 refine wpAny_bind (AnL W ho ?_)
 rw[if_neg (by simp)]
 rcases hm with ⟨slot,rfl,hm⟩ | ⟨pm,rfl,hT2,hp,hxl⟩
 ·simp only [A4m]
  refine wpAny_bind (Asg W ho hm fun next hn=>?_)
  rw[hx]
  dsimp only [Option.map]
  refine wpAny_bind (wpAny_setField hoi hdi (by simp) (stops hh fun h' k=>hQ h' fun b o' hb e=>k _ _ ?_))
  exact(Heap.get?_update_other _ _ (Ne.symm hb)).trans e
 ·simp only [A4m]
  refine wpAny_bind (wpAny_seqItems hT2 rfl ?_)
  dsimp only
  rw[show((pm.map fun k:Nat=>rawInt (k:Int)).toArray)[es.size]?=none by
   rw[List.getElem?_toArray]
   exact A4o (by rw[A3S,hp.length_eq,A4H];exact A3U _)]
  dsimp only
  refine wpAny_bind (wpAny_setField hoi hdi (by simp) ?_)
  have ho1:=Heap.get?_update_self (Obj.mapFields (·.setIfInBounds 0 (rawInt 0))) hoi (Obj.isFreed_of_fields (Obj.data_mapFields hdi _))
  have hd1:=Obj.data_mapFields hdi (·.setIfInBounds 0 (rawInt 0))
  refine wpAny_bind (wpAny_setField ho1 hd1 (by simp) (stops hh fun h' k=>hQ h' fun b o' hb e=>k _ _ ?_))
  exact(Heap.get?_update_other _ _ (Ne.symm hb)).trans ((Heap.get?_update_other _ _ (Ne.symm hb)).trans e)
theorem AwE{I:Addr}{i:Nat}{Q:Value→Shared→Prop}(st:StI w I a T o es ep t xl i s.heap)(h:Q (.ref I) s):wpAny (model prog w) A (pyIter (.ref I)) Q E s:=by
 have hT:=st.typeIs
 refine wpAny_pyIter_slot hT Ax3 (wpAny_call_entry Ax3 hT A0l ?_ (A0n _))
 show wpAny _ _ (ret (.ref I)) _ _ s
 exact wpAny_pure ⟨_,rfl, "set_iterator", _,hT,Akr.lookup,h⟩
theorem walks(W:Wk w o es ep t)(hh:A.handled=none){I:Addr}(hne:a≠I)(hnT:T≠I):Walks prog w A I [I,a,T] [I] es.size (fun i v=>∃ x,xl[i]?=some x∧v=x.2) (StI w I a T o es ep t xl) where
 sub:=fun b hb=>by rw[List.mem_singleton.mp hb];exact A3V
 frame:=fun i h h' ⟨f,oi,h1,h2,h3,hm,h4⟩ hk=>⟨f,oi,hk I (by simp) _ h1,h2,h3,by
  rcases hm with m | ⟨pm,m1,m2,m3⟩
  ·exact .inl m
  ·exact .inr ⟨pm,m1,hk T (by simp) _ m2,m3⟩,hk a (by simp) _ h4⟩
 item:=fun i s Q E hi st hQ=>by
  obtain⟨x,hx⟩:∃ x,xl[i]?=some x:=⟨_,A3R (by
   obtain⟨_,_,_,_,_,hm,_⟩:=id st
   rw[hm.len];exact hi)⟩
  exact AwD W hne hnT st hx fun h' st' hk=>hQ _ h' s.toks ⟨x,hx,rfl⟩ st' fun b o hb e=>hk b o (fun z=>hb (by simp[z])) e
 done:=fun s Q E st hQ=>Ay3 W hh st fun h' hk=>hQ h' s.toks fun b o hb e=>hk b o (fun z=>hb (by simp[z])) e
 self:=fun i s Q E st hQ=>AwE st hQ
end
end SetW
open PySem PySem.Spec PyProof.Rows
namespace SetW
section
variable {prog:Program}{w:World}{A:Around}{E:Value→Shared→Prop}{s:Shared}{a:Addr}{o:Obj}{es:Array (Int × Value)}{ep:Nat}{t:SetTable}
theorem Ay4:isSubtype (.type "set") (.type "set")=pure true:=by rw[isSubtype_type];kernel_rfl
theorem AwF(W:Wk w o es ep t)(ho:s.heap.get? a=some o)(hh:A.handled=none)(hn:es.size≤sizeLine){Q:List Value→Shared→Prop}
  (hQ:∀(xl:List (Int × Value)) s',xl.Perm es.toList→(∀ b o,s.heap.get? b=some o→s'.heap.get? b=some o)→s'.gens=s.gens→s'.os=s.os→s.heap.objs.size≤s'.heap.objs.size→Q (xl.map (·.2)) s'):wpAny (model prog w) A (collect (.ref a)) Q E s:=by
 have ha:a<s.heap.objs.size:=Heap.lt_size ho
 unfold collect
 refine wpAny_bind (wpAny_runValue (codeAny_builtin F.entry_proto_collect ?_))
 rw[Around.under_plainId F.plain_proto_collect _]
 show wpAny _ A.in1 (newList [] >>= fun l=>again (.builtin "list.__iadd__" ⟨[l,.ref a],[]⟩)) _ _ s
 refine wpAny_bind (wpAny_newObj_type (wpAny_pure ⟨plainId_quiet F.plain_list_iadd _,codeAny_builtin F.entry_list_iadd ?_⟩))
 rw[Around.under_plainId F.plain_list_iadd _]
 obtain⟨h1,eh1⟩:∃ h1,h1=s.heap.push { cls:=.type "list", data:=.seq ([]:List Value).toArray }:=⟨_,rfl⟩
 have hS1:h1.get? s.heap.objs.size=some { cls:=.type "list", data:=.seq ([]:List Value).toArray }:=by rw[eh1];exact Heap.get?_push_size _ rfl
 have k1:∀ b o,s.heap.get? b=some o→h1.get? b=some o:=fun b o e=>by rw[eh1];exact Heap.get?_push_of_some _ e
 have z1:h1.objs.size=s.heap.objs.size+1:=by rw[eh1,Heap.size_push]
 show wpAny _ A.in1 (Builtin.List.listExtendWith (.ref s.heap.objs.size) (.ref a) (.ref s.heap.objs.size)) _ _ { s with heap:=s.heap.push { cls:=.type "list", data:=.seq ([]:List Value).toArray } }
 rw[← eh1]
 unfold Builtin.List.listExtendWith
 have ho1:=k1 _ _ ho
 refine wpAny_bind (wpAny_typeOf (typ (s:={ s with heap:=h1 }) W ho1) ?_)
 have e1:Builtin.List.listSameRef (.ref s.heap.objs.size) (.ref a)=false:=by
  have:s.heap.objs.size≠a:=A4y ha
  simp[Builtin.List.listSameRef,this]
 rw[if_neg (by rw[e1];decide)]
 refine wpAny_bind (Ay2 (s:={ s with heap:=h1 }) W ho1 hn ?_)
 intro h2 d I T xl nIa nTI sI sT k2 st2
 have hxp:xl.Perm es.toList:=by
  obtain⟨_,_,_,_,_,hm,_⟩:=st2
  exact hm.perm
 have sI':s.heap.objs.size<I:=A4k (by rw[z1];exact A4Y _) sI
 show wpAny _ A.in1 _ _ _ { s with heap:=h2,drawn:=d }
 refine wpAny_bind (wpAny_holding ?_)
 unfold Builtin.List.listLengthHint
 have ho2:=k2 _ _ ho1
 refine wpAny_bind (wpAny_specialOf (typ (s:={ s with heap:=h2,drawn:=d }) W ho2) Ay1 ?_)
 generalize hid:("set.__len__" : String)=ln0
 wp_delta
 rw[show splitId ln0=some ("set", "__len__") by subst hid;decide +kernel]
 subst hid
 refine wpAny_bind (wpAny_isInstance (b:=true) (typ (s:={ s with heap:=h2,drawn:=d }) W ho2) Ay4 ?_)
 rw[if_neg (by decide)]
 split
 case isFalse hn1=>exact absurd (by decide +kernel) hn1
 refine wpAny_bind (wpAny_typeOf (typ (s:={ s with heap:=h2,drawn:=d }) W ho2) (wpAny_pure ?_))
 rw[if_pos (by decide +kernel)]
 refine wpAny_bind (wpAny_rule (wpAny_bind ?_))
 have hS2:=k2 _ _ hS1
 show wpAny _ A.in1 (updateSeq s.heap.objs.size (·.push .none) >>= fun _=>updateSeq s.heap.objs.size (·.pop)) _ _ _
 refine wpAny_bind (wpAny_updateSeq hS2 rfl ?_)
 have hS3:=Heap.get?_update_self (Obj.mapSeq (·.push Value.none)) hS2 rfl
 refine wpAny_updateSeq hS3 rfl ?_
 have hS4:=Heap.get?_update_self (Obj.mapSeq (·.pop)) hS3 rfl
 obtain⟨h4,eh4⟩:∃ h4,h4=(h2.update s.heap.objs.size (Obj.mapSeq (·.push Value.none))).update s.heap.objs.size (Obj.mapSeq (·.pop)):=⟨_,rfl⟩
 have k4:∀ b o,b≠s.heap.objs.size→h2.get? b=some o→h4.get? b=some o:=fun b o hb e=>by rw[eh4];exact(Heap.get?_update_other _ _ (Ne.symm hb)).trans ((Heap.get?_update_other _ _ (Ne.symm hb)).trans e)
 have nT:T≠s.heap.objs.size:=by
  rcases sT with e | e
  ·rw[e];exact A4b ha
  ·exact A4y (A4k (by rw[z1];exact A4Y _) e)
 have WK:=walks (prog:=prog) (T:=T) (xl:=xl) (A:=A.in1) W hh nIa.symm nTI
 have st4:StI w I a T o es ep t xl 0 h4:=WK.frame 0 h2 h4 st2 fun b hb ob e=>k4 b ob (by
  simp only [A4w,A4x,or_false] at hb
  rcases hb with e | e | e
  ·rw[e];exact A4y sI'
  ·rw[e];exact A4b ha
  ·rw[e];exact nT) e
 show wpAny _ A.in1 (again (.builtin "list.extend.loop" ⟨[.ref s.heap.objs.size,.ref I,.ref s.heap.objs.size],[]⟩)) _ _ { s with heap:=(h2.update s.heap.objs.size (Obj.mapSeq (·.push Value.none))).update s.heap.objs.size (Obj.mapSeq (·.pop)),drawn:=d }
 rw[← eh4]
 rw[← eh4] at hS4
 refine wpAny_pure ⟨plainId_quiet F.plain_extend_loop _,codeAny_extend_loopS (WK.toS) hn s.heap.objs.size ?_ _ es.size 0 _ _ _ rfl (A4f _) st4 hS4 (ItemsOf.nil _) fun s' acc' c' hm hS' hacc=>?_⟩
 ·simp only [A4w,A4x,or_false,not_or]
  exact⟨A4b sI',A4y ha,nT.symm⟩
 show wpAny _ A (load s.heap.objs.size >>= _) _ _ s'
 refine wpAny_bind (wpAny_load hS' (wpAny_pure ?_))
 have AwG:xl.length=es.size:=by rw[hxp.length_eq,Array.length_toList]
 have ea:acc'.toList=xl.map (·.2):=by
  refine A4G fun i=>?_
  rw[A4e,Array.getElem?_toList]
  by_cases hi:i<es.size
  ·have hi2:i<acc'.size:=by rw[hacc.1];exact hi
   obtain⟨x,g1,g2⟩:=hacc.2 i acc'[i] (Array.getElem?_eq_getElem hi2)
   rw[g1,Array.getElem?_eq_getElem hi2,g2]
   rfl
  ·rw[Array.getElem?_eq_none (by rw[hacc.1];omega),A4o (by rw[AwG];omega)]
   rfl
 rw[ea]
 refine hQ xl s' hxp (fun b ob e=>hm.heap b ob ?_ (k4 _ _ (A4b (Heap.lt_size e)) (k2 _ _ (k1 _ _ e)))) hm.gens hm.os (A4X (Heap.lt_size hS'))
 have:=Heap.lt_size e
 simp only [A4w,A4x,or_false,not_or]
 exact⟨A4b this,A4b (Nat.lt_trans this sI')⟩
theorem Arl(W:Wk w o es ep t)(ho:s.heap.get? a=some o)(hh:A.handled=none)(h64:es.size<64){key:Int × Value→Int}(hI:∀ e∈es.toList,∃ tk,e.2=.int (key e) tk){Q:Value→Shared→Prop}
  (hQ:∀(h':Heap) d (tk l e:Nat) (out:Array Value) (ns':List Int),(∀ b o,s.heap.get? b=some o→h'.get? b=some o)→s.heap.objs.size≤l→h'.get? l=some (seqObj "list" out e)→IntsAre out.toList ns'→ns'.Perm (es.toList.map key)→ns'.Pairwise (·≤·) →
   Q (.ref l) { s with heap:=h',drawn:=d,toks:=tk }):wpAny (model prog w) A (call (.builtin "sorted") [.ref a]) Q E s:=by
 refine Calls.call_function_entry kind_sorted plain_sorted entry_sorted (args_sorted1 _) ?_
 unfold Builtin.«sorted»
 refine wpAny_bind (m:=checkCount "sorted" 1 1 _) (wpAny_pure (wpAny_bind (AwF (A:=A.in1) W ho hh (by rw[sizeLine_eq];omega) fun xl s' hxp k hg hos hz=>?_)))
 obtain⟨h',g',d',tk',os'⟩:=s'
 dsimp only at k hg hos hz
 subst hg hos
 have AwG:xl.length=es.size:=by rw[hxp.length_eq,Array.length_toList]
 have hI2:∀ l:List (Int × Value),(∀ e∈l,∃ tk,e.2=.int (key e) tk)→IntsAre (l.map (·.2)) (l.map key):=by
  intro l
  induction l with
  | nil=>intro _;exact .nil
  | cons e l ih =>
   intro h
   obtain⟨tk,hk⟩:=h e A3V
   rw[A3X,A3X,hk]
   exact .cons _ _ (ih fun x hx=>h x (A4d _ hx))
 have hIx:=hI2 xl fun e he=>hI e (hxp.mem_iff.mp he)
 have hoL:(h'.push (seqObj "list" (xl.map (·.2)).toArray 0)).get? h'.objs.size=some (seqObj "list" (xl.map (·.2)).toArray 0):=Heap.get?_push_size _ rfl
 refine wpAny_bind (wpAny_newList (hsz:=by rw[A3S,AwG,sizeLine_eq];omega) ?_)
 show wpAny _ _ _ _ _ { s with heap:=h'.push (seqObj "list" (xl.map (·.2)).toArray 0),drawn:=d',toks:=tk' }
 refine wpAny_bind (wpAny_holding (wpAny_call_entry slot_list_sort ⟨_,hoL,rfl⟩ entry_list_sort (list_sort_tree hoL hIx (by rw[A3S,AwG];exact h64) fun out ns' a1 a2 a3=>⟨_,rfl,wpAny_pure ⟨_,rfl,?_⟩⟩) (args_list_sort _)))
 obtain⟨e,he⟩:=sortedHeap_at (out:=out) hoL
 refine hQ _ d' tk' h'.objs.size e out ns' (fun b ob eb=>?_) ?_ he a1 (a2.trans (hxp.map _)) a3
 ·have lb:=Heap.lt_size (k _ _ eb)
  rw[sortedHeap_old (A4b lb) (by rw[size_push'];exact A4P lb)]
  exact Heap.get?_push_of_some _ (k _ _ eb)
 ·exact hz
end
end SetW
open PySem PySem.Spec PyProof.Rows
namespace SetW
theorem Aku{xs:Array Nat}:Ah7 xs↔xs.toList.Pairwise (·<·):=by
 rw[List.pairwise_iff_getElem]
 constructor
 ·intro h i j hi hj hij
  have:=h i j hij (by simpa using hj)
  have hi':i<xs.size:=by simpa using hi
  have hj':j<xs.size:=by simpa using hj
  simpa [Array.getD,hi',hj'] using this
 ·intro h i k hik hk
  have:=h i k (by simp;omega) (by simpa using hk) hik
  have hi':i<xs.size:=by omega
  simpa [Array.getD,hi',hk] using this
theorem AuJ{xs:Array Nat}{j:Nat}(hR:Ah7 xs)(hn:xs[SetTable.below xs j]?≠some j):Ah7 (SetTable.insertAt xs (SetTable.below xs j) j):=by
 obtain⟨h1,h2,h3⟩:=Akt hR j
 have hP:=Aku.mp hR
 rw[Aku]
 generalize SetTable.below xs j=p at h1 h2 h3 hn
 have e:(SetTable.insertAt xs p j).toList=xs.toList.take p++j::xs.toList.drop p:=by
  unfold SetTable.insertAt
  simp[Array.toList_extract,A4M]
 rw[e]
 have g:∀ i,i<xs.size→xs.getD i 0=xs.toList.getD i 0:=fun i hi=>by simp[Array.getD,List.getD,hi]
 have lo:∀ y∈xs.toList.take p,y<j:=fun y hy=>by
  obtain⟨i,hi,rfl⟩:=List.mem_take_iff_getElem.mp hy
  have hi':i<p∧i<xs.size:=by simpa using (Nat.lt_min.mp hi)
  have:=h2 i hi'.1
  simpa [Array.getD,hi'.2] using this
 have hi:∀ y∈xs.toList.drop p,j<y:=fun y hy=>by
  obtain⟨i,hi,rfl⟩:=List.mem_drop_iff_getElem.mp hy
  have hi':i+p<xs.size:=by simpa using hi
  have a:=h3 (i+p) (by omega) hi'
  have b:xs.getD (i+p) 0=xs[i+p]:=by simp[Array.getD,hi']
  rw[b] at a
  have ne:xs[i+p]≠j:=fun z=>by
   by_cases c:i=0
   ·subst c
    apply hn
    rw[Array.getElem?_eq_getElem (by omega)]
    simp at z
    rw[z]
   ·have c1:=h3 p (A3U _) (by omega)
    have c2:=hR p (i+p) (by omega) hi'
    rw[b,z] at c2
    omega
  have:(xs.toList)[i+p]'(by simpa using hi')=xs[i+p]:=by simp
  simp only [Nat.add_comm] at *
  omega
 rw[List.pairwise_append]
 refine⟨hP.sublist (List.take_sublist _ _),?_,fun a ha b hb=>?_⟩
 ·rw[List.pairwise_cons]
  exact⟨hi,hP.sublist (List.drop_sublist _ _)⟩
 ·rcases List.mem_cons.mp hb with e | hb
  ·rw[e];exact lo a ha
  ·exact Nat.lt_trans (lo a ha) (hi b hb)
theorem Ael(t:SetTable)(g:Nat→Int)(h:Int):∀(fuel:Nat) (p:SetTable.Probe) (j:Nat) (dm:Option Nat),(∀ d,p.dummy=some d→t.slot d=.dummy)→SetTable.probe.go t g h fuel p=some (.empty j dm)→t.slot j=.empty∧∀ d,dm=some d→t.slot d=.dummy
 | 0,p,j,dm,hd,e=>by simp[SetTable.probe.go] at e
 | fuel+1,p,j,dm,hd,e=>by
  have adv:∀ q:SetTable.Probe,(t.advance q).dummy=q.dummy:=fun q=>by
   unfold SetTable.advance
   split <;> rfl
  unfold SetTable.probe.go at e
  split at e
  ·rename_i hs
   injection e with e
   injection e with e1 e2
   subst e1 e2
   exact⟨hs,hd⟩
  ·rename_i hs
   refine Ael t g h fuel _ j dm (fun d hd'=>?_) e
   rw[adv] at hd'
   have:p.j=d:=by simpa using hd'
   rw[← this];exact hs
  ·split at e
   ·cases e
   ·exact Ael t g h fuel _ j dm (fun d hd'=>hd d (by rwa [adv] at hd')) e
theorem At4{t:SetTable}{h:Int}{j:Nat}{b:Bool}(e:t.freeSlot h=some (j,b)):t.place[SetTable.below t.place j]?≠some j:=by
 have nl:t.slot j=.empty∨t.slot j=.dummy:=by
  unfold SetTable.freeSlot at e
  split at e
  ·rename_i j' dm hp
   unfold SetTable.probe at hp
   obtain⟨a,b'⟩:=Ael t _ h _ _ j' dm (fun d hd=>by simp[SetTable.probeStart] at hd) hp
   injection e with e
   injection e with e1 e2
   cases dm with
   | none=>exact .inl (by rw[← e1];exact a)
   | some d=>exact .inr (by rw[← e1];exact b' d rfl)
  ·cases e
 intro z
 unfold SetTable.slot at nl
 dsimp only at nl
 rw[if_pos (by rw[z];simp)] at nl
 rcases nl with nl | nl <;> cases nl
def TOk (t t':SetTable):Prop:=t'.led=t.led∧((t.plain=true→Ah7 t.place)→t'.plain=true→Ah7 t'.place)
theorem Akv(t:SetTable)(n:Nat):TOk t (t.standIn n):=⟨rfl,fun _ h=>by cases h⟩
theorem A0o{t t':SetTable}(h:TOk t t')(n:Nat):TOk t (t'.orStandIn n):=by
 unfold SetTable.orStandIn
 by_cases c:t'.fits n=true
 ·rw[if_pos c];exact h
 ·rw[if_neg c];exact⟨h.1,fun _ z=>by cases z⟩
theorem Ay5(t:SetTable)(es:Array (Int × Value))(h:Int)(x:Value):TOk t (layNew t es h x).2.1:=by
 unfold layNew
 split
 ·rename_i slot wd e
  exact A0o (t:=t) (t':=(t.put slot).1) ⟨rfl,fun hr hp=>AuJ (hr hp) (At4 e)⟩ _
 ·exact Akv _ _
theorem AwH{mask finger moves:Nat}{led plain:Bool}{hs:Array Int}{t':SetTable}{order:Array Nat}(e:SetTable.laid mask finger moves led plain hs=some (t',order)):t'.led=led∧t'.plain=plain∧Ah7 t'.place:=by
 unfold SetTable.laid at e
 cases ho:SetTable.layClean mask hs with
 | none=>rw[ho] at e;cases e
 | some owner =>
  rw[ho] at e
  have e':some (_,_)=some (t',order):=e
  injection e' with e'
  injection e' with e1 e2
  subst e1
  refine⟨rfl,rfl,?_⟩
  rw[Aku]
  dsimp only
  refine List.Pairwise.map (R:=fun a b:Nat × Nat=>a.1<b.1) _ (fun a b h=>h) ?_
  refine List.Pairwise.filterMap (R:=(·<·)) _ (fun a a' haa b hb b' hb'=>?_) List.pairwise_lt_range
  cases h1:owner.getD a none with
  | none=>rw[h1] at hb;cases hb
  | some u =>
   cases h2:owner.getD a' none with
   | none=>rw[h2] at hb';cases hb'
   | some u' =>
    rw[h1] at hb;rw[h2] at hb'
    cases hb;cases hb'
    exact haa
theorem AuK(t:SetTable)(es:Array (Int × Value))(n:Nat):TOk t (relayAll t es n).2.1:=by
 unfold relayAll
 split
 ·rename_i t' order e
  unfold SetTable.relaid at e
  obtain⟨a,b,c⟩:=AwH e
  dsimp only
  split
  ·exact⟨a,fun _ _=>c⟩
  ·exact Akv _ _
 ·exact Akv _ _
section
variable {prog:Program}{w:World}{A:Around}{E:Value→Shared→Prop}{s:Shared}{a:Addr}
def ky (e:Int × Value):Int:=match e.2 with | .int i _=>i | _=>0
structure IS (w:World) (o:Obj) (es:Array (Int × Value)) (ep:Nat) (t:SetTable):Prop where
 ex:o.ExactSet
 d:o.data=.set es ep t
 f:t.fits es.size=true
 ok:w.params.followText "set-order" = true∨(t.led=true∧(t.plain=true→Ah7 t.place))
 el:∀ e∈es.toList,(∃ k tk,e=(hashInt k,.int k tk))
 nd:(es.toList.map ky).Nodup
theorem IS.elems{o:Obj}{es:Array (Int × Value)}{ep:Nat}{t:SetTable}(h:IS w o es ep t):ElemsOf (intKind prog w) es.toList:=fun e he=>by
 obtain⟨k,tk,rfl⟩:=h.el e he
 exact⟨⟨k,intKind_is _ _ _ _,rfl⟩,rfl⟩
theorem IS.wk{o:Obj}{es:Array (Int × Value)}{ep:Nat}{t:SetTable}(h:IS w o es ep t):Wk w o es ep t:=⟨h.ex,h.d,h.f,h.ok.elim .inl fun z=>.inr (.inr z)⟩
theorem Ax6{gv:Bool}(g:Sem Unit)(hg:g=match gv with | true=>rule "set.scan.the-table-gave-way" | false=>pure ()) {Q:Unit→Shared→Prop} (h:Q () s):wpAny (model prog w) A g Q E s:=by
 subst hg
 cases gv
 ·exact wpAny_pure h
 ·exact wpAny_rule h
theorem Ash{o:Obj}{es es':Array (Int × Value)}{ep:Nat}{t t':SetTable}(ho:s.heap.get? a=some o)(hd:o.data=.set es ep t):(s.heap.update a (Obj.putSet es' t')).get? a=some { o with data:=.set es' (ep+1) t' }:=by
 have:=Heap.get?_update_self (Obj.putSet es' t') ho (by rw[putSet_of es' t' hd];rfl)
 rw[putSet_of es' t' hd] at this
 exact this
theorem IS.to{o:Obj}{es es1:Array (Int × Value)}{ep:Nat}{t t1:SetTable}{v:Int}{tk:Tok}(h:IS w o es ep t)(hv:v∉es.toList.map ky)(hp:es1.toList.Perm (es.push (hashInt v,.int v tk)).toList)(hf:t1.fits es1.size=true)(hto:TOk t t1)(ep':Nat) :
  IS w { o with data:=.set es1 ep' t1 } es1 ep' t1:=by
 rw[Array.toList_push] at hp
 refine⟨h.ex,rfl,hf,h.ok.imp id fun z=>⟨by rw[hto.1];exact z.1,hto.2 z.2⟩,fun e he=>?_,?_⟩
 ·rcases List.mem_append.mp (hp.mem_iff.mp he) with he | he
  ·exact h.el e he
  ·rw[List.mem_singleton.mp he];exact⟨v,tk,rfl⟩
 ·refine(hp.map ky).nodup_iff.mpr ?_
  rw[A3W,List.nodup_append]
  refine⟨h.nd,by simp,fun x hx y hy e=>?_⟩
  have:y=v:=by simpa [ky] using hy
  rw[e,this] at hx
  exact hv hx
theorem Ay6{o:Obj}{es:Array (Int × Value)}{ep:Nat}{t:SetTable}(h:IS w o es ep t)(ho:s.heap.get? a=some o){v:Int}{tk:Tok}(hb:es.size+1<scanBound){Q:Bool→Shared→Prop}
  (hQ:∀ h' o' es' ep' t' b,Heap.SameBut a s.heap h'→h'.get? a=some o'→IS w o' es' ep' t'→(∀ z,z∈es'.toList.map ky↔z∈es.toList.map ky∨z=v)→es'.size≤es.size+1→Q b { s with heap:=h' }) :
  wpAny (model prog w) A (setAddHashed a (.int v tk) (hashInt v)) Q E s:=by
 have hel:ElemsOf (intKind prog w) es.toList:=h.elems
 have hkey:(intKind prog w).is v (.int v tk)=true:=intKind_is _ _ _ _
 unfold setAddHashed setAddHashedIn
 refine wpAny_holding (wpAny_bind (wpAny_setState_of ho h.d h.f ?_))
 dsimp only
 rw[byScan_of (knd:=intKind prog w) rfl (Nat.lt_of_succ_lt hb) hel,if_pos rfl]
 unfold setAddByScan
 refine wpAny_bind (wpAny_bind (wpAny_rule (wpAny_bind (wpAny_setScan_of (knd:=intKind prog w) hkey ho h.d h.f hel ?_))))
 have mem:∀ e∈es.toList,((intKind prog w).is v e.2=true↔ky e=v):=fun e he=>by
  obtain⟨k,tk',rfl⟩:=h.el e he
  show Value.isInt v (.int k tk')=true↔k=v
  constructor
  ·intro z
   obtain⟨_,q⟩:=Value.isInt_shape z
   cases q
   rfl
  ·intro z
   rw[← z]
   exact intKind_is prog w k tk'
 cases hr:List.findIdx? (fun e=>(intKind prog w).is v e.2) es.toList with
 | some j =>
  dsimp only
  obtain⟨hj,hpj,_⟩:=List.findIdx?_eq_some_iff_getElem.mp hr
  refine wpAny_pure (wpAny_pure ?_)
  have hv:v∈es.toList.map ky:=List.mem_map.mpr ⟨_,A4j hj,(mem _ (A4j hj)).mp hpj⟩
  have:=hQ s.heap o es ep t false (Heap.SameBut.refl a s.heap) ho h (fun z=>⟨.inl,fun q=>q.elim id fun e=>e▸hv⟩) (A5g _)
  exact this
 | none =>
  dsimp only
  have hv:v∉es.toList.map ky:=fun q=>by
   obtain⟨e,he,hk⟩:=List.mem_map.mp q
   have:=List.findIdx?_eq_none_iff.mp hr e he
   rw[(mem e he).mpr hk] at this
   cases this
  have hperm:=layNew_perm t es (hashInt v) (.int v tk)
  have hfits:=layNew_fits t es (hashInt v) (.int v tk)
  have hto:=Ay5 t es (hashInt v) (.int v tk)
  generalize layNew t es (hashInt v) (.int v tk)=Ly at hperm hfits hto ⊢
  obtain⟨es1,t1,wd,gv⟩:=Ly
  dsimp only at hperm hfits hto ⊢
  refine wpAny_bind (Ax6 (gv:=gv) _ rfl ?_)
  have mm:∀ z,z∈es1.toList.map ky↔z∈es.toList.map ky∨z=v:=fun z=>by
   rw[(hperm.map ky).mem_iff,Array.toList_push,A3W,A5H]
   simp[ky]
  have sz:es1.size=es.size+1:=by rw[← Array.length_toList,hperm.length_eq,Array.toList_push,A3T,Array.length_toList];rfl
  have hb1:es1.size<scanBound:=by rw[sz];exact hb
  have g1:=Ash (es':=es1) (t':=t1) ho h.d
  have I1:=h.to hv hperm hfits hto (ep+1)
  have b1:=Heap.SameBut.update s.heap a (Obj.putSet es1 t1)
  split
  all_goals
   refine wpAny_bind (wpAny_of_eq (a:=true) rfl ?_)
   simp only [↓reduceIte]
   refine wpAny_bind (wpAny_storeSet_of ho h.d ?_ (fits_of_scanBound hb1))
   split
   ·have rp:=relayAll_perm t1 es1 (SetTable.grown es1.size)
    have rf:=relayAll_fits t1 es1 (SetTable.grown es1.size)
    have rt:=AuK t1 es1 (SetTable.grown es1.size)
    generalize relayAll t1 es1 (SetTable.grown es1.size)=Rl at rp rf rt ⊢
    obtain⟨es2,t2,gv2⟩:=Rl
    dsimp only at rp rf rt ⊢
    have sz2:es2.size=es1.size:=by rw[← Array.length_toList,rp.length_eq,Array.length_toList]
    refine wpAny_bind (Ax6 (gv:=gv2) _ rfl (wpAny_bind (wpAny_storeSet_of g1 rfl (wpAny_pure (wpAny_pure ?_)) (fits_of_scanBound (by rw[sz2];exact hb1)))))
    refine hQ _ _ es2 (ep+1+1) t2 true (b1.trans (Heap.SameBut.update _ a _)) (Ash (s:={ s with heap:=s.heap.update a (Obj.putSet es1 t1) }) g1 rfl) ?_ (fun z=>by rw[(rp.map ky).mem_iff];exact mm z) (by rw[sz2,sz];exact A3U _)
    exact⟨I1.ex,rfl,rf,I1.ok.imp id fun z=>⟨by rw[rt.1];exact z.1,rt.2 z.2⟩,fun e he=>I1.el e (rp.mem_iff.mp he),(rp.map ky).nodup_iff.mpr I1.nd⟩
   ·exact wpAny_pure (wpAny_pure (hQ _ _ es1 (ep+1) t1 true b1 g1 I1 mm (by rw[sz];exact A3U _)))
end
end SetW
open PySem PySem.Spec PyProof.Rows
namespace SetW
section
variable {prog:Program}{w:World}{A:Around}{E:Value→Shared→Prop}{s:Shared}
theorem IS.fresh:IS w { cls:=.type "set", dict:=none,data:=.set #[] 0 (.fresh 0 0 (!w.params.followText "set-order")) } #[] 0 (.fresh 0 0 (!w.params.followText "set-order")):=by
 refine⟨⟨rfl,rfl,rfl⟩,rfl,rfl,?_,fun e he=>by simp at he,by simp⟩
 by_cases h:w.params.followText "set-order" = true
 ·exact .inl h
 ·refine .inr ⟨by simpa [SetTable.fresh] using h,fun _ i k h1 h2=>?_⟩
  simp[SetTable.fresh] at h2
theorem AwI{I:Addr}{fp wr:List Addr}{G:Array GenState→Array GenState→Prop}{n:Nat}{P:Nat→Value→Prop}{St:Nat→Shared→Prop}{R:Result→Shared→Prop}(W:WalksS prog w A.in1 I fp wr G n P St)(S:Addr)(hSf:S∉fp)
  (val:Nat→Int) (hval:∀ i v,P i v→∃ tk,v=.int (val i) tk) (hb:n+1<scanBound):∀(k i:Nat) (s:Shared) (o:Obj) (es:Array (Int × Value)) (ep:Nat) (t:SetTable),n-i=k→i≤n→St i s→s.heap.get? S=some o→IS w o es ep t→es.size≤i →
   (∀ z,z∈es.toList.map ky↔∃ j,j<i∧val j=z) →
   (∀ s' o' es' ep' t',Moved (S::wr) G s s'→s'.heap.get? S=some o'→IS w o' es' ep' t'→es'.size≤n→(∀ z,z∈es'.toList.map ky↔∃ j,j<n∧val j=z)→R (.ok (.ret .none)) s') →
   codeAny (model prog w) A (.builtin "set.update.loop" ⟨[.ref S,.ref I],[]⟩) R s:=by
 have hSw:S∉wr:=fun h=>hSf (W.sub _ h)
 have hsub:∀ b∈wr,b∈S::wr:=fun b hb=>A4d _ hb
 intro k
 induction k with
 | zero =>
  intro i s o es ep t hk hi hst ho hS hz hm hR
  obtain rfl:i=n:=by omega
  refine codeAny_builtin PyProof.Rows.F.entry_set_update_loop ?_
  rw[Around.under_plainId PyProof.Rows.F.plain_set_update_loop _]
  show wpAny _ A.in1 (pyNext (.ref I) >>= _) _ _ s
  refine wpAny_bind (W.done s _ _ hst fun s' mv=>?_)
  show wpAny _ A.in1 (ret Value.none) _ _ s'
  exact wpAny_pure (hR s' o es ep t (mv.mono hsub) (mv.heap S _ hSw ho) hS hz hm)
 | succ k ih =>
  intro i s o es ep t hk hi hst ho hS hz hm hR
  have hlt:i<n:=by omega
  refine codeAny_builtin PyProof.Rows.F.entry_set_update_loop ?_
  rw[Around.under_plainId PyProof.Rows.F.plain_set_update_loop _]
  show wpAny _ A.in1 (pyNext (.ref I) >>= _) _ _ s
  refine wpAny_bind (W.item i s _ _ hlt hst fun v s' hP hst' mv=>?_)
  obtain⟨tk,rfl⟩:=hval i v hP
  show wpAny _ A.in1 (holding [Value.int (val i) tk] (setAdd S (.int (val i) tk)) >>= _) _ _ s'
  refine wpAny_bind (wpAny_holding ?_)
  unfold setAdd
  refine wpAny_holding (wpAny_bind ((intKind prog w).pyHash (k:=val i) (intKind_is _ _ _ _) ?_))
  refine Ay6 (s:={ s' with toks:=s'.toks+1 }) hS (mv.heap S _ hSw ho) (by omega) fun h' o' es' ep' t' b sb ho' hS' hm' hz'=>?_
  refine wpAny_pure ⟨plainId_quiet PyProof.Rows.F.plain_set_update_loop _,ih (i+1) _ o' es' ep' t' (by omega) hlt (W.frame _ s' _ _ hst' (A5g _) fun b hb ob e=>?_) ho' hS' (by omega) (fun z=>?_) fun s'' o2 es2 ep2 t2 mv2 ho2 hS2 hz2 hm2=>?_⟩
  ·rw[sb.2 b (fun h:b=S=>hSf (by rw[← h];exact hb))];exact e
  ·rw[hm' z,hm z]
   constructor
   ·rintro(⟨j,hj,e⟩ | e)
    ·exact⟨j,by omega,e⟩
    ·exact⟨i,by omega,e.symm⟩
   ·rintro⟨j,hj,e⟩
    by_cases c:j=i
    ·exact .inr (by rw[← e,c])
    ·exact .inl ⟨j,by omega,e⟩
  ·refine hR s'' o2 es2 ep2 t2 (Moved.trans W.gtrans ((mv.mono hsub).then_heap (A5g _) fun b ob hb e=>?_) mv2) ho2 hS2 hz2 hm2
   rw[sb.2 b (fun h:b=S=>hb (by rw[h];exact A3V))];exact e
end
end SetW
open PySem PySem.Spec PyProof.Rows
namespace SetW
section
variable {prog:Program}{w:World}{A:Around}{E:Value→Shared→Prop}{s:Shared}
def frs (w:World):Obj:={ cls:=.type "set", dict:=none,data:=.set #[] 0 (.fresh 0 0 (!w.params.followText "set-order")) }
theorem Ay7(v:Value){Q₁:Value→Shared→Prop}(h:Q₁ (.ref s.heap.objs.size) { s with heap:=s.heap.push (frs w) }):codeAny (model prog w) A (.call (.builtin "set.__new__") ⟨[.type "set", v],[]⟩) (wants Q₁ E) s:=by
 refine codeAny_of_tree ?_
 show wpAny _ A.in1 (do checkBuiltinCall "set.__new__" ⟨[.type "set", v],[]⟩;again (.builtin "set.__new__" ⟨[.type "set", v],[]⟩)) _ _ s
 refine wpAny_bind (wpAny_of_eq (PySem.F.newCall_set_1 v) (wpAny_pure ⟨plainId_quiet PySem.F.plain_set_new _,codeAny_builtin PySem.F.entry_set_new ?_⟩))
 rw[Around.under_plainId PySem.F.plain_set_new _]
 unfold Builtin.«set.__new__» Builtin.Frozenset.newClass
 have hsub:=sub_set_self
 obtain⟨hp,g,d,tk,os⟩:=s
 dsimp only
 wp_walk
 refine wpAny_askSetting (wpAny_pure ?_)
 dsimp only
 simp only [newObj]
 exact wpAny_bind (wpAny_alloc (wpAny_pure (wpAny_pure h)))
set_option maxHeartbeats 4000000 in
theorem AwJ{l:Addr}{items:Array Value}{ns:List Int}{Q:Value→Shared→Prop}(hh:A.handled=none)(hl:s.heap.IsList l items)(hi:IntsAre items.toList ns)(hb:items.size+1<scanBound)
  (h:∀(h':Heap) (tk:Nat) o es ep t,h'.get? s.heap.objs.size=some o→IS w o es ep t→es.size≤items.size→(∀ z,z∈es.toList.map ky↔∃ j,j<items.size∧ns.getD j 0=z) →
   (∀ b o,s.heap.get? b=some o→h'.get? b=some o)→Q (.ref s.heap.objs.size) { s with heap:=h',toks:=tk }):wpAny (model prog w) A (call (.type "set") [.ref l]) Q E s:=by
 obtain⟨c,tl,hmro⟩:=PySem.F.called_set.mro
 have hmade:=PySem.F.called_set.made
 have hsub:=PySem.F.called_set.sub
 refine wpAny_call (codeAny_of_tree ?_)
 show wpAny _ _ (callAny (.type "set") _) _ _ _
 refine wpAny_pure ⟨Code.quiet_builtin _ (by decide +kernel),codeAny_builtin PySem.F.entry_type_call ?_⟩
 rw[Around.under_plain (weight_type_call_type "set" [.ref l] []) rfl]
 have h1:=PySem.F.called_set.notType
 have h2:=PySem.F.called_set.canCreate
 have hct:=PySem.F.typeCall_set_1 (.ref l)
 repeat (any_goals (first | assumption | wp_step))
 refine codeAny_mono (Ay7 (.ref l) (E:=E) (Q₁:=fun obj s₁=>obj=.ref s.heap.objs.size∧s₁={ s with heap:=s.heap.push (frs w) }) ⟨rfl,rfl⟩) fun r s₁ hr=>?_
 cases r with
 | error e=>exact hr
 | ok fl =>
  cases fl with
  | ret obj =>
   obtain⟨rfl,rfl⟩:=hr
   have hS:(s.heap.push (frs w)).get? s.heap.objs.size=some (frs w):=Heap.get?_push_size _ rfl
   have hT:Shared.TypeIs { s with heap:=s.heap.push (frs w) } (.ref s.heap.objs.size) "set" := ⟨_,hS,rfl⟩
   have hli:=PySem.F.called_set.init.lookup
   have hbi:=PySem.F.called_set.init.bind (.ref s.heap.objs.size)
   repeat (any_goals (first | assumption | wp_step))
   refine codeAny_mono (codeAny_call_builtin (R:=wants (fun r s₂=>r=.none∧∃ h' tk o es ep t,s₂={ s with heap:=h',toks:=tk }∧h'.get? s.heap.objs.size=some o∧IS w o es ep t∧es.size≤items.size∧(∀ z,z∈es.toList.map ky↔∃ j,j<items.size∧ns.getD j 0=z) ∧
     (∀ b o,s.heap.get? b=some o→h'.get? b=some o)) E) PySem.F.called_set.init.plain PySem.F.entry_set_init (check_set_init_1 hT ?_)) fun r₂ s₂ hr₂=>?_
   ·obtain⟨ol,hol,hcl,nl,hdl⟩:=hl
    obtain⟨ocls,odict,odata,oslots⟩:=ol
    simp only at hcl hdl
    subst hcl hdl
    have hlS:l<s.heap.objs.size:=Heap.lt_size hol
    obtain⟨h1,eh1⟩:∃ h1,h1=s.heap.push (frs w):=⟨_,rfl⟩
    have z1:h1.objs.size=s.heap.objs.size+1:=by rw[eh1,Heap.size_push]
    have k1:∀ b ob,s.heap.get? b=some ob→h1.get? b=some ob:=fun b ob e=>by rw[eh1];exact Heap.get?_push_of_some _ e
    rw[← eh1] at hS hT ⊢
    have hol':=k1 _ _ hol
    have hl1:h1.IsList l items:=⟨_,hol',rfl,nl,rfl⟩
    have hsls:=PySem.F.sub_list_set
    have hslf:=PySem.F.sub_list_frozenset
    have hne:(Value.type "list" == Value.type "dict")=false:=by decide
    have hS':h1.get? s.heap.objs.size=some { cls:=.type "set", dict:=none,data:=.set #[] 0 (.fresh 0 0 (!w.params.followText "set-order")) }:=hS
    unfold Builtin.«set.__init__» noKeywords Builtin.Frozenset.updateFrom
    generalize hPI:pyIter=PI
    wp_walk
    subst hPI
    refine wpAny_pyIter_list hl1 ?_
    obtain⟨h2,eh2⟩:∃ h2,h2=h1.push { cls:=.type "list_iterator", data:=.fields #[.ref l,.int 0 0] }:=⟨_,rfl⟩
    show wpAny _ _ _ _ _ { s with heap:=h1.push { cls:=.type "list_iterator", data:=.fields #[.ref l,.int 0 0] } }
    rw[← eh2]
    have k2:∀ b ob,h1.get? b=some ob→h2.get? b=some ob:=fun b ob e=>by rw[eh2];exact Heap.get?_push_of_some _ e
    have hit2:h2.IsListIter h1.objs.size l 0:=by rw[eh2];exact⟨_,Heap.get?_push_size _ rfl,rfl,rfl⟩
    have hl2:h2.IsList l items:=⟨_,k2 _ _ hol',rfl,nl,rfl⟩
    refine wpAny_bind (wpAny_runValue ?_)
    have hh3:A.in1.in1.in1.handled=none:=by simp[hh]
    have hneI:l≠h1.objs.size:=by rw[z1];exact A4b (A4P hlS)
    have hSf:s.heap.objs.size∉[h1.objs.size,l]:=by
     simp only [A4w,A4x,or_false,not_or]
     exact⟨by rw[z1];exact A4b (A4Y _),A4y hlS⟩
    have hval:∀(i:Nat) (v:Value),items[i]?=some v→∃ tk,v=.int ((fun i=>ns.getD i 0) i) tk:=fun i v hv=>IntsAre.int_at hi i v (by rw[Array.getElem?_toList];exact hv)
    refine AwI ((Walks.list hh3 h1.objs.size l hneI items).toS) s.heap.objs.size hSf (fun i=>ns.getD i 0) hval hb (items.size-0) 0 _ _ #[] 0 _ (by omega) (A4f _) ⟨hit2,hl2⟩ (k2 _ _ hS') IS.fresh (A4f _) (fun z=>by simp) fun s' o es ep t mv ho hI hz hm=>?_
    obtain⟨h',g',d',tk',os'⟩:=s'
    have eg:g'=s.gens:=mv.gens
    have ed:d'=s.drawn:=mv.drawn
    have eo:os'=s.os:=mv.os
    subst eg ed eo
    show wpAny _ _ _ _ _ _
    refine wpAny_pure ?_
    show wpAny _ _ (ret Value.none) _ _ _
    refine wpAny_pure ⟨rfl,h',tk',o,es,ep,t,rfl,ho,hI,hz,hm,fun b ob e=>?_⟩
    have lb:=Heap.lt_size e
    refine mv.heap b ob ?_ (k2 _ _ (k1 _ _ e))
    simp only [A4w,A4x,or_false,not_or]
    exact⟨A4b lb,by rw[z1];exact A4b (A4P lb)⟩
   ·cases r₂ with
    | error e=>exact hr₂
    | ok fl₂ =>
     cases fl₂ with
     | ret r =>
      obtain⟨rfl,h',tk,o,es,ep,t,rfl,a1,a2,a3,a4,a5⟩:=hr₂
      repeat (any_goals (first | assumption | wp_step))
      exact h _ _ o es ep t a1 a2 a3 a4 a5
     | _=>exact hr₂.elim
  | _=>exact hr.elim
end
end SetW
open PySem PySem.Spec PyProof.Rows
section
variable {X:Cx}{K:PySem.W.Frag}{p1 p2 pos1 pos2:Pos}{e:Expr}{te:TE}
theorem Inv.drew{X:Cx}{pins:List (Addr × Obj)}{σ:St}{H:Hp}{s:Shared}{d:Drawn}(I:Inv X pins σ H s):Inv X pins σ H { s with drawn:=d }:=⟨I.ok,I.os,I.bare,I.base,I.loc,I.cell,I.free,I.Ux,I.pin,I.hok,I.len⟩
def AuL (K:PySem.W.Frag)(te:TE):TE:=fun σ H Q=>te σ H fun x H1=>∃ a ns,x=.ref a∧SqL K H1 a (vI ns)∧ns.length≤4000∧(∀ ds:List Int,ds.Nodup→(∀ z∈ds,z∈ns)→ds.length<64) ∧
 ∀ l ns',(∀ z,z∈ns'↔z∈ns)→ns'.Pairwise (·<·)→H1 l=none→Q (.ref l) (upd H1 l (.lst (vI ns')))
theorem ApC:∀{l:List Int},l.Pairwise (·≤·)→l.Nodup→l.Pairwise (·<·):=fun h n=>(h.and n).imp fun {a b} ⟨h1,h2⟩=>by omega
theorem Arm(hg1:Gl X "sorted") (hm1:X.mg "sorted" = none) (hg2:Gl X "set") (hm2:X.mg "set" = none) (he:PE X e te) (hK:X.K=K:=by rfl) (hc:X.calm=true:=by rfl)
  (hs2:starEach [e] X.env=(false,eval e X.env)::starEach [] X.env:=by rfl)
  (hs1:starEach [.Call (.Name "set" p2) [e] [] pos2] X.env=(false,eval (.Call (.Name "set" p2) [e] [] pos2) X.env)::starEach [] X.env:=by rfl)
  (hq1:(backTo pos1 (starEach [] X.env)).any (·.1)=false:=by rfl) (hq2:(backTo pos2 (starEach [] X.env)).any (·.1)=false:=by rfl) :
  PE X (.Call (.Name "sorted" p1) [.Call (.Name "set" p2) [e] [] pos2] [] pos1) (AuL K te):=by
 subst hK
 intro pins s σ H Q I h
 have hsz:sizeLine=16777216:=sizeLine_eq
 refine wpAny_Call_Name_kw (QR I hg1 hm1 Atl ?_ (by decide) (by decide))
 refine PyProof.Rows.callWith_builtin1 ?_ hs1 hq1
 rw[hs1]
 show wpAny _ _ (spliced ((false,eval (.Call (.Name "set" p2) [e] [] pos2) X.env)::backTo pos1 (starEach [] X.env))) _ _ s
 refine Calls.spliced_cons ?_
 refine wpAny_Call_Name_kw (QR I hg2 hm2 Ayt ?_ (by decide) (by decide))
 refine PyProof.Rows.callWith_type1 ?_ hs2 hq2
 rw[hs2]
 show wpAny _ _ (spliced ((false,eval e X.env)::backTo pos2 (starEach [] X.env))) _ _ s
 refine Calls.spliced_cons (thn (he pins s σ H _ I h) fun u s1 ⟨x,H1,I1,r1,a,ns,ex,hq,h4,h64,q⟩=>?_)
 subst ex
 cases r1
 refine Calls.spliced_nil ?_
 obtain⟨its,r,pl,hz⟩:=I1.list hq
 have hi:IntsAre its ns:=intsAre_of r
 have hlen:its.length=ns.length:=hi.length
 refine SetW.AwJ (items:=its.toArray) (I.ok.hd hc) pl.isList hi (by rw[A4a,hlen];show _+1<4096;omega) fun h' tk o es ep t go gi gz gm gk=>?_
 refine Calls.spliced_nil ?_
 have mem:∀ z,z∈es.toList.map SetW.ky↔z∈ns:=fun z=>by
  rw[gm z,A4a,hlen]
  constructor
  ·rintro⟨j,hj,e⟩
   rw[← e,A4c,A3R hj]
   exact A4j hj
  ·intro hz
   obtain⟨j,hj,e⟩:=A5a hz
   exact⟨j,hj,by rw[A4c,A3R hj];exact e⟩
 have e64:es.size<64:=by
  have:=h64 _ gi.nd fun z hz=>(mem z).mp hz
  rwa [A3S,Array.length_toList] at this
 refine SetW.Arl (s:={ s1 with heap:=h',toks:=tk }) (key:=SetW.ky) gi.wk go (I.ok.hd hc) e64 (fun e he=>?_) fun h2 d tk2 l ep2 out ns' k2 hl2 hg2 hi2 hp2 hr2=>?_
 ·obtain⟨k,tk',rfl⟩:=gi.el e he
  exact⟨tk',rfl⟩
 ·have hns:ns'.Nodup:=hp2.nodup_iff.mpr gi.nd
  have hl1:s1.heap.objs.size≤l:=A4X (A4k (Heap.lt_size go) hl2)
  refine⟨.ref l,_,(I1.laid (t':=tk2) (h':=h2) (a:=l) (o:=.lst (vI ns')) (fun b u e=>k2 _ _ (gk _ _ e)) hl1 ?_).drew,rfl,q l ns' (fun z=>by rw[hp2.mem_iff];exact mem z) (ApC hr2 hns) (I1.hok.fresh hl1)⟩
  have:ns'.length<64:=by rw[hp2.length_eq,A3S,Array.length_toList];exact e64
  refine⟨by rw[Bd];omega,out.toList,ep2,Ah0 hi2,?_⟩
  rw[hg2]
end
open PySem PySem.Spec PyProof.Rows
section
variable {X:Cx}
def Asi (z:Str):Value→Bool
 | .str a _=>a.cps.toList == z.cps.toList
 | _=>false
theorem Akw{zs:List Str}{us:List Value}(r:Vals (zs.map V.str) us){j:Nat}{u:Value}(h:us[j]?=some u):∃ k t,zs[j]?=some k∧u=.str k t:=by
 have hj:=(List.getElem?_eq_some_iff.mp h).1
 have l:=r.length
 rw[A3S] at l
 have hk:j<zs.length:=by omega
 obtain⟨u',e,q⟩:=r.get (i:=j) (x:=.str zs[j]) (by rw[A4e,A3R hk];rfl)
 rw[h] at e
 cases e
 obtain⟨t,rfl⟩:=q
 exact⟨zs[j],t,A3R hk,rfl⟩
def A0p:V→List V→Hp→VK→Prop:=fun x vs H Q=>∃(l:Addr) (zs:List Str) (z:Str) (j:Nat),x=.ref l∧vs=[.str z]∧H l=some (.lst (zs.map V.str))∧zs[j]?=some z∧(∀ i,i<j→zs[i]?≠some z)∧zs.length≤1000∧Q (.int (j:Int)) H
theorem Asj:MtR X "list.index" A0p:=by
 intro pins s σ H x vs v us Q I rx rv h
 obtain⟨l,zs,z,j,rfl,rfl,hH,hj,hno,hz,q⟩:=h
 cases rx
 obtain⟨u,rfl,ru⟩:=rv.one
 obtain⟨t,rfl⟩:=ru
 obtain⟨zz,its,n,r,hl,e⟩:=I.Ata hH
 have lr:=r.length
 rw[A3S] at lr
 have jl:j<its.length:=by have:=(List.getElem?_eq_some_iff.mp hj).1;omega
 have ja:j<its.toArray.size:=by rw[A4a];exact jl
 have hit:Asi z its.toArray[j]=true:=by
  obtain⟨k',t',e1,e2⟩:=Akw r (A3R jl)
  rw[hj] at e1
  cases e1
  rw[A6k,e2]
  exact beq_self_eq_true z.cps.toList
 have hn:∀ m (hm:m<its.toArray.size),m<j→Asi z its.toArray[m]=false:=fun m hm hmj=>by
  have ml:m<its.length:=by rw[A4a] at hm;exact hm
  obtain⟨k',t',e1,e2⟩:=Akw r (A3R ml)
  have:=hno m hmj
  rw[A6k,e2]
  show(k'.cps.toList == z.cps.toList)=false
  rw[beq_eq_false_iff_ne]
  intro ez
  have ek:k'=z:=by
   cases k';cases z
   exact congrArg Str.mk (Array.toList_inj.mp ez)
  rw[ek] at e1
  exact this e1
 have he:∀ y,y∈its.toArray→MeetsSeq.EqGives y (.str z t) (Asi z y):=fun y hy=>by
  have hy:y∈its:=by simpa using hy
  obtain⟨m,hm,em⟩:=A5a hy
  obtain⟨k',t',e1,e2⟩:=Akw r (A3R hm)
  rw[← em,e2]
  exact SeqRoads2.EqGives.str k' z t' t
 refine call_meets F.slot_list_index ⟨_,e,rfl⟩ F.entry_list_index (F.args_list_index_2 _ _)
  (MeetsSeq.list_index l its.toArray n (.str z t) (Asi z) he j ja (by omega) hit hn) ⟨e,?_⟩
 exact⟨.int _,H,I.tok _,⟨_,rfl⟩,q⟩
end
open PySem PySem.Spec PyProof.Rows
inductive Ms (K:PySem.W.Frag) (H:Hp):V→V→Bool→Prop
 | tup {a b:Addr} {xs ys:List V}:SqT K H a xs→SqT K H b ys→xs.all Gp=true→ys.all Gp=true→Ms K H (.ref a) (.ref b) (eqL xs ys)
 | lst {a b:Addr} {xs ys:List V}:SqL K H a xs→SqL K H b ys→xs.all Gp=true→ys.all Gp=true→Ms K H (.ref a) (.ref b) (eqL xs ys)
 | flat {x y:V}:Gp x=true→Gp y=true→Ms K H x y (eqV x y)
theorem Ms.is{K:PySem.W.Frag}{H:Hp}{x y:V}{b c:Bool}(h:Ms K H x y b)(e:b=c):Ms K H x y c:=e▸h
section
variable {X:Cx}{K:PySem.W.Frag}{pins:List (Addr × Obj)}{σ:St}{H:Hp}{s:Shared}
theorem ApD{x:V}{a:Addr}(h:Gp x=true)(r:RelV x (.ref a)):False:=by
 cases x with
 | non=>cases r
 | bl b=>cases r
 | int i=>obtain⟨t,e⟩:=r;cases e
 | str z=>obtain⟨t,e⟩:=r;cases e
 | ref a=>cases h
 | byt b=>cases h
 | flt b=>cases h
 | ty n=>cases h
theorem Ms.uniq(I:Inv X pins σ H s){x y:V}{b c:Bool}(h:Ms X.K H x y b)(h':Ms X.K H x y c):b=c:=by
 cases h with
 | tup h1 h2 f1 f2 =>
  cases h' with
  | tup g1 g2 _ _=>rw[I.Ahv h1 g1,I.Ahv h2 g2]
  | lst g1 g2 _ _ =>
   obtain⟨_,_,⟨o,e,c,_⟩,_⟩:=I.tuple h1
   obtain⟨_,_,⟨o',_,e',c',_⟩,_⟩:=I.list g1
   rw[e] at e'
   cases e'
   rw[c] at c'
   exact absurd c' (by decide)
  | flat g1 _=>cases g1
 | lst h1 h2 f1 f2 =>
  cases h' with
  | lst g1 g2 _ _=>rw[I.M9 h1 g1,I.M9 h2 g2]
  | tup g1 g2 _ _ =>
   obtain⟨_,_,⟨o,e,c,_⟩,_⟩:=I.tuple g1
   obtain⟨_,_,⟨o',_,e',c',_⟩,_⟩:=I.list h1
   rw[e] at e'
   cases e'
   rw[c] at c'
   exact absurd c' (by decide)
  | flat g1 _=>cases g1
 | flat f1 f2 =>
  cases h' with
  | tup _ _ _ _=>cases f1
  | lst _ _ _ _=>cases f1
  | flat _ _=>rfl
theorem ApE{A:Around}{xs ys:List V}{its its2:List Value}(r:Vals xs its)(r2:Vals ys its2)(fx:xs.all Gp=true)(fy:ys.all Gp=true)(j:Nat)(h1:j<its.toArray.size)(h2:j<its2.toArray.size) :
  SeqAt.EqAt A s its.toArray[j] its2.toArray[j] (eqV (xs.getD j .non) (ys.getD j .non)):=by
 have l1:=r.length
 have l2:=r2.length
 have j1:j<xs.length:=by simp only [A4a] at h1;omega
 have j2:j<ys.length:=by simp only [A4a] at h2;omega
 obtain⟨w1,e1,q1⟩:=r.get (i:=j) (x:=xs[j]) (by simp[j1])
 obtain⟨w2,e2,q2⟩:=r2.get (i:=j) (x:=ys[j]) (by simp[j2])
 have g1:its.toArray[j]=w1:=by
  have:its.toArray[j]?=some w1:=by simpa using e1
  exact Option.some.inj ((Array.getElem?_eq_getElem h1).symm.trans this)
 have g2:its2.toArray[j]=w2:=by
  have:its2.toArray[j]?=some w2:=by simpa using e2
  exact Option.some.inj ((Array.getElem?_eq_getElem h2).symm.trans this)
 rw[g1,g2]
 have d1:xs.getD j .non=xs[j]:=by simp[List.getD,j1]
 have d2:ys.getD j .non=ys[j]:=by simp[List.getD,j2]
 rw[d1,d2]
 exact Aka q1 q2 (List.all_eq_true.mp fx _ (A4j j1)) (List.all_eq_true.mp fy _ (A4j j2))
theorem Akx{A:Around}(I:Inv X pins σ H s){x y:V}{b:Bool}{v u:Value}(c:Ms X.K H x y b)(rx:RelV x v)(ry:RelV y u)(hu:A.units<cLine):SeqAt.EqAt A s v u b:=by
 cases c with
 | flat f1 f2=>exact Aka rx ry f1 f2
 | @tup a b xs ys h1 h2 f1 f2 =>
  cases rx
  cases ry
  by_cases e:a=b
  ·subst e
   rw[I.Ahv h1 h2,Akd f2]
   exact SeqAt.EqAt.same _
  ·refine SeqAt.EqAt.of_refs e ?_
   obtain⟨its,r,pl,_⟩:=I.tuple h1
   obtain⟨its2,r2,pl2,_⟩:=I.tuple h2
   have l1:=r.length
   have l2:=r2.length
   have key:=SeqAt.RcAt.tuples (A:=A) (s:=s) (e:=fun j=>eqV (xs.getD j .non) (ys.getD j .non)) pl pl2 hu (fun j h1 h2=>ApE r r2 f1 f2 j h1 h2)
   have e1:((List.range (min its.toArray.size its2.toArray.size)).all (fun j=>eqV (xs.getD j .non) (ys.getD j .non)) && its.toArray.size == its2.toArray.size)=eqL xs ys:=by
    simp only [A4a]
    rw[← l1,← l2]
    by_cases hl:xs.length=ys.length
    ·rw[← hl,A5b,AcE hl]
     simp
    ·have:(xs.length == ys.length)=false:=by simp[hl]
     rw[this,A5S,AjD hl]
   rw[e1] at key
   exact key
 | @lst a b xs ys h1 h2 f1 f2 =>
  cases rx
  cases ry
  by_cases e:a=b
  ·subst e
   rw[I.M9 h1 h2,Akd f2]
   exact SeqAt.EqAt.same _
  ·refine SeqAt.EqAt.of_refs e ?_
   obtain⟨its,r,pl,_⟩:=I.list h1
   obtain⟨its2,r2,pl2,_⟩:=I.list h2
   have l1:=r.length
   have l2:=r2.length
   by_cases hl:xs.length=ys.length
   ·have key:=SeqAt.RcAt.lists (A:=A) (s:=s) (e:=fun j=>eqV (xs.getD j .non) (ys.getD j .non)) pl.isList pl2.isList (by simp only [A4a];omega) hu (fun j h1 h2=>ApE r r2 f1 f2 j h1 h2)
    rw[A4a,← l1,AcE hl] at key
    exact key
   ·have key:=SeqAt.RcAt.lists_lengths (A:=A) (s:=s) pl.isList pl2.isList (by simp only [A4a,bne_iff_ne];omega) hu
    rw[AjD hl]
    exact key
theorem Asl{x y:V}{u:Value}(h:RelV x u)(h':RelV y u)(fx:Gp x=true∨∃ a,x=.ref a)(fy:Gp y=true∨∃ a,y=.ref a):x=y:=by
 rcases fx with fx | ⟨a,rfl⟩
 ·rcases fy with fy | ⟨b,rfl⟩
  ·cases x with
   | non =>
    cases h
    cases y with
    | non=>rfl
    | bl b=>cases h'
    | int i=>obtain⟨t,e⟩:=h';cases e
    | str z=>obtain⟨t,e⟩:=h';cases e
    | _=>cases fy
   | bl b =>
    cases h
    cases y with
    | non=>cases h'
    | bl c=>cases h';rfl
    | int i=>obtain⟨t,e⟩:=h';cases e
    | str z=>obtain⟨t,e⟩:=h';cases e
    | _=>cases fy
   | int i =>
    obtain⟨t,rfl⟩:=h
    cases y with
    | non=>cases h'
    | bl c=>cases h'
    | int j=>obtain⟨t,e⟩:=h';cases e;rfl
    | str z=>obtain⟨t,e⟩:=h';cases e
    | _=>cases fy
   | str z =>
    obtain⟨t,rfl⟩:=h
    cases y with
    | non=>cases h'
    | bl c=>cases h'
    | int j=>obtain⟨t,e⟩:=h';cases e
    | str z=>obtain⟨t,e⟩:=h';cases e;rfl
    | _=>cases fy
   | _=>cases fx
  ·cases h'
   exact absurd (ApD fx h) id
 ·rcases fy with fy | ⟨b,rfl⟩
  ·cases h
   exact absurd (ApD fy h') id
  ·cases h
   cases h'
   rfl
theorem Ms.left{K:PySem.W.Frag}{H:Hp}{x y:V}{b:Bool}(h:Ms K H x y b):Gp x=true∨∃ a,x=.ref a:=by
 cases h with
 | tup _ _ _ _=>exact .inr ⟨_,rfl⟩
 | lst _ _ _ _=>exact .inr ⟨_,rfl⟩
 | flat h _=>exact .inl h
theorem AnM{xs:List V}{us:List Value}(r:Vals xs us){j:Nat}{u:Value}(h:us[j]?=some u):∃ x,xs[j]?=some x∧RelV x u:=by
 have hj:=(List.getElem?_eq_some_iff.mp h).1
 have l:=r.length
 have hx:j<xs.length:=by omega
 obtain⟨u',e,q⟩:=r.get (A3R hx)
 rw[h] at e
 cases e
 exact⟨xs[j],A3R hx,q⟩
def A2m (K:PySem.W.Frag)(no:Bool):R2:=fun x y H Q=>∃(q:Addr) (xs:List V),y=.ref q∧SqL K H q xs ∧
 (((∀(i:Nat) (z:V),xs[i]?=some z→∃ b,Ms K H z x b)∧(∃(i:Nat) (z:V),xs[i]?=some z∧Ms K H z x true)∧Q (.bl (!no)) H)∨((∀(i:Nat) (z:V),xs[i]?=some z→Ms K H z x false)∧Q (.bl no) H))
open Classical in
theorem AuM(hu:X.A.units+100<cLine)(I:Inv X pins σ H s){x:V}{v:Value}{q:Addr}{xs:List V}{its:List Value}(rx:RelV x v)(r:Vals xs its)
  (h:((∀(i:Nat) (z:V),xs[i]?=some z→∃ b,Ms X.K H z x b)∧∃(i:Nat) (z:V),xs[i]?=some z∧Ms X.K H z x true)∨∀(i:Nat) (z:V),xs[i]?=some z→Ms X.K H z x false) :
  ∃ e:Value→Bool,(∀ y,y∈its.toArray→SeqAt.EqAt X.A.in1 s y v (e y))∧((∃(i:Nat) (z:V),xs[i]?=some z∧Ms X.K H z x true)→its.toArray.any e=true)∧((∀(i:Nat) (z:V),xs[i]?=some z→Ms X.K H z x false)→its.toArray.any e=false):=by
 have hu1:X.A.in1.units<cLine:=by show X.A.units+1<cLine;omega
 rcases h with ⟨hall,i,z,hz,hc⟩ | hall
 ·refine⟨fun w=>decide (∃(i:Nat) (z:V),xs[i]?=some z∧RelV z w∧Ms X.K H z x true),fun y hy=>?_,fun _=>?_,fun hn=>?_⟩
  ·have hy:y∈its:=by simpa using hy
   obtain⟨j,hj⟩:=A5n hy
   obtain⟨a,ha,ra⟩:=AnM r hj
   obtain⟨b,cb⟩:=hall j a ha
   have e:b=decide (∃(i:Nat) (z:V),xs[i]?=some z∧RelV z y∧Ms X.K H z x true):=by
    cases b with
    | true=>exact(decide_eq_true ⟨j,a,ha,ra,cb⟩).symm
    | false =>
     symm
     refine decide_eq_false fun⟨i',z',_,rz,cz⟩=>?_
     have:=Asl ra rz cb.left cz.left
     subst this
     exact absurd (cb.uniq I cz) A4g
   show SeqAt.EqAt X.A.in1 s y v (decide _)
   rw[← e]
   exact Akx I cb ra rx hu1
  ·obtain⟨u,hu',ru⟩:=r.get hz
   rw[show its.toArray.any (fun w=>decide (∃(i:Nat) (z:V),xs[i]?=some z∧RelV z w∧Ms X.K H z x true))=its.any (fun w=>decide (∃(i:Nat) (z:V),xs[i]?=some z∧RelV z w∧Ms X.K H z x true)) by simp,List.any_eq_true]
   exact⟨u,A3Y hu',decide_eq_true ⟨i,z,hz,ru,hc⟩⟩
  ·exact absurd ((hn i z hz).uniq I hc) A4g
 ·refine⟨fun _=>false,fun y hy=>?_,fun⟨i,z,hz,hc⟩=>absurd ((hall i z hz).uniq I hc) A4g,fun _=>by simp⟩
  have hy:y∈its:=by simpa using hy
  obtain⟨j,hj⟩:=A5n hy
  obtain⟨a,ha,ra⟩:=AnM r hj
  exact Akx I (hall j a ha) ra rx hu1
theorem At5(hu:X.A.units+100<cLine)(hK:X.K=K:=by rfl):OpR X (compareOp .NotIn) (A2m K true):=by
 subst hK
 intro pins s σ H x y v u Q I rx ry h
 obtain⟨q,xs,rfl,hq,h⟩:=h
 cases ry
 obtain⟨its,r,pl,hz⟩:=I.list hq
 rcases h with ⟨h1,h2,k⟩ | ⟨h1,k⟩
 ·obtain⟨e,he,a1,_⟩:=AuM (q:=q) hu I rx r (.inl ⟨h1,h2⟩)
  exact SeqAt.notIn_listAt e pl.isList he ⟨.bl false,H,I,by rw[a1 h2];rfl,k⟩
 ·obtain⟨e,he,_,a2⟩:=AuM (q:=q) hu I rx r (.inr h1)
  exact SeqAt.notIn_listAt e pl.isList he ⟨.bl true,H,I,by rw[a2 h1];rfl,k⟩
def A0q (K:PySem.W.Frag):V→List V→Hp→VK→Prop:=fun x vs H Q=>∃(l:Addr) (xs:List V) (v:V) (j:Nat),x=.ref l∧vs=[v]∧H l=some (.lst xs)∧j<xs.length∧xs.length≤1000 ∧
 (∀(i:Nat) (z:V),xs[i]?=some z→∃ b,Ms K H z v b∧(i<j→b=false)∧(i=j→b=true))∧Q (.int (j:Int)) H
open Classical in
theorem Asm(hu:X.A.units+100<cLine)(hK:X.K=K:=by rfl):MtR X "list.index" (A0q K):=by
 subst hK
 intro pins s σ H x vs v us Q I rx rv h
 obtain⟨l,xs,a,j,rfl,rfl,hH,hj,hz,hall,q⟩:=h
 cases rx
 obtain⟨u,rfl,ru⟩:=rv.one
 obtain⟨zz,its,n,r,hl,e⟩:=I.Ata hH
 have jl:j<its.length:=by omega
 have ja:j<its.toArray.size:=by rw[A4a];exact jl
 have hu1:X.A.in1.units<cLine:=by show X.A.units+1<cLine;omega
 let ee:Value→Bool:=fun w=>decide (∃(i:Nat) (z:V),xs[i]?=some z∧RelV z w∧Ms X.K H z a true)
 have key:∀(i:Nat) (z:V) (w:Value) (b:Bool),xs[i]?=some z→RelV z w→Ms X.K H z a b→ee w=b:=fun i z w b hz rz cz=>by
  cases b with
  | true=>exact decide_eq_true ⟨i,z,hz,rz,cz⟩
  | false =>
   refine decide_eq_false fun⟨i',z',_,rz',cz'⟩=>?_
   have:=Asl rz rz' cz.left cz'.left
   subst this
   exact absurd (cz.uniq I cz') A4g
 have atI:∀(i:Nat) (hi:i<its.toArray.size),∃ z b,xs[i]?=some z∧RelV z its.toArray[i]∧Ms X.K H z a b∧(i<j→b=false)∧(i=j→b=true):=fun i hi=>by
  have il:i<its.length:=by rw[A4a] at hi;exact hi
  obtain⟨z,hz,rz⟩:=AnM r (A3R il)
  obtain⟨b,cb,b1,b2⟩:=hall i z hz
  exact⟨z,b,hz,by rw[A6k];exact rz,cb,b1,b2⟩
 have hit:ee its.toArray[j]=true:=by
  obtain⟨z,b,hz,rz,cz,_,b2⟩:=atI j ja
  rw[key j z _ b hz rz cz,b2 rfl]
 have hn:∀ m (hm:m<its.toArray.size),m<j→ee its.toArray[m]=false:=fun m hm hmj=>by
  obtain⟨z,b,hz,rz,cz,b1,_⟩:=atI m hm
  rw[key m z _ b hz rz cz,b1 hmj]
 have he:∀ y,y∈its.toArray→SeqAt.EqAt X.A.in1 s y u (ee y):=fun y hy=>by
  obtain⟨m,hm,em⟩:=Array.getElem_of_mem hy
  obtain⟨z,b,hz,rz,cz,_,_⟩:=atI m hm
  rw[em] at rz
  rw[key m z y b hz rz cz]
  exact Akx I cz rz ru hu1
 refine call_meets F.slot_list_index ⟨_,e,rfl⟩ F.entry_list_index (F.args_list_index_2 _ _)
  (SeqAt.list_indexAt l its.toArray n none #[] u ee j ja (by omega) hit hn) ⟨e,he,?_⟩
 exact⟨.int _,H,I.tok _,⟨_,rfl⟩,q⟩
end
open PySem PySem.Spec PyProof.Rows
theorem Adh{a b T:Nat}(h:a<b)(hT:b≤T):T≠a:=by omega
abbrev EnX (h:Heap) (e it:Addr) (i:Int) (T0:Addr) (f:Bool) (old:Value):Prop :=
 h.get? e=some { cls:=.type "enumerate", dict:=none,data:=.fields #[rawInt T0,.bool f,.ref it,rawInt i,.none,old],slots:=#[] }
section
variable {prog:Program}{w:World}{A:Around}{E:Value→Shared→Prop}{s:Shared}
structure EL (P:Nat→Value→Prop) (St:Nat→Heap→Prop) (e it M B:Addr) (s0:Shared) (i:Nat) (Ts:List Addr) (s:Shared):Prop where
 st:St i s.heap
 en:(i=0∧IsEnum s.heap e it 0 .none)∨∃ T0 f old,EnX s.heap e it i T0 f old∧Ts[0]?=some T0
 acc:∃ c,s.heap.get? M=some { cls:=.type "list", dict:=none,data:=.seq (Ts.map Value.ref).toArray c,slots:=#[] }
 len:Ts.length=i
 tup:∀(j:Nat) (T:Addr),Ts[j]?=some T→B≤T∧T<s.heap.objs.size∧∃ t x,P j x∧s.heap.get? T=some { cls:=.type "tuple", data:=.seq #[.int (j:Int) t,x] }
 nd:Ts.Nodup
 big:B≤s.heap.objs.size
 old:∀ b o,b≠e→b≠it→b≠M→s0.heap.get? b=some o→s.heap.get? b=some o
 rest:∃ h tk,s={ s0 with heap:=h,toks:=tk }
end
section
variable {prog:Program}{w:World}{A:Around}{E:Value→Shared→Prop}{s:Shared}{R:Result→Shared→Prop}
end
theorem Aky:∀ l:List Addr,Vals (l.map V.ref) (l.map Value.ref)
 | []=>.nil
 | a::l=>.cons rfl (Aky l)
section
variable {X:Cx}{p1 p2 pos1 pos2:Pos}{e:Expr}{te:TE}
def Azs (te:TE):TE:=fun σ H Q=>te σ H fun x H1=>∃ z:Str,x=.str z∧z.cps.size≤1000∧∀(l:Addr) (Ts:List Addr) (H':Hp),Am H1 H'→H1 l=none→H' l=some (.lst (Ts.map V.ref))→Ts.length=z.cps.size →
 (∀(j:Nat) (T:Addr) (c:Nat),Ts[j]?=some T→z.cps[j]?=some c→H' T=some (.tup [.int (j:Int),.str ⟨#[c]⟩]))→Q (.ref l) H'
end
open PySem PySem.Spec PyProof.Rows
abbrev ZX (h:Heap) (z TI TO T0:Addr) (f:Bool):Prop :=
 h.get? z=some { cls:=.type "zip", dict:=none,data:=.fields #[rawInt T0,.bool f,.bool false,.ref TI,.ref TO],slots:=#[] }
theorem At6:typeLookup (.type "zip") "__len__" = pure none:=by rw[typeLookup_type,builtinLookup_eq_fast];kernel_rfl
theorem Arn:typeLookup (.type "zip") "__length_hint__" = pure none:=by rw[typeLookup_type,builtinLookup_eq_fast];kernel_rfl
theorem Asn{G:Prop}{R:Heap→Prop}(C:Heap→Prop)(main:(∀ h,C h→R h)→G)(rest:∀ h,C h→R h):G:=main rest
section
variable {prog:Program}{w:World}{A:Around}{E:Value→Shared→Prop}{s:Shared}
theorem At7{z TI TO i1 i2 T0:Addr}{fp1 fp2:List Addr}{n1 n2 k:Nat}{P1 P2:Nat→Value→Prop}{S1 S2:Nat→Heap→Prop}{f:Bool}{o0:Obj}{Q:Value→Shared→Prop}(D:Oq z TI TO i1 i2)
  (D1:∀ A':Around,A'.handled=none→Draws prog w A' i1 fp1 n1 P1 S1) (D2:∀ A':Around,A'.handled=none→Draws prog w A' i2 fp2 n2 P2 S2) (hh:A.handled=none)
  (f1:∀ c∈fp1,c≠z∧c≠TO∧c≠i2) (f2:∀ c∈fp2,c≠z∧c≠TO∧c≠i1)
  (hz:ZX s.heap z TI TO T0 f) (h0:s.heap.get? T0=some o0) (h0z:T0≠z) (hTI:IsPair s.heap TI (.ref i1) (.ref i2)) (h1:S1 k s.heap) (h2:S2 k s.heap) (lt1:k<n1) (lt2:k<n2)
  (hQ:∀ x y h' tk,P1 k x→P2 k y→ZX h' z TI TO T0 true→S1 (k+1) h'→S2 (k+1) h'→IsPair h' s.heap.objs.size x y→h'.objs.size=s.heap.objs.size+1 →
   (∀ c o,c≠z→c≠i1→c≠i2→s.heap.get? c=some o→h'.get? c=some o)→Q (.ref s.heap.objs.size) { s with heap:=h',toks:=tk }) :
  wpAny (model prog w) A (Builtin.«zip.__next__» ⟨[.ref z],[]⟩) (fun fin s'=>∃ v,fin=.done (.ret v)∧Q v s') E s:=by
 show wpAny _ _ (field (.ref z) 2 >>= _) _ _ _
 refine wpAny_bind (wpAny_field hz rfl (x:=.bool false) rfl ?_)
 show wpAny _ _ (field (.ref z) 3 >>= _) _ _ _
 refine wpAny_bind (wpAny_field hz rfl (x:=.ref TI) rfl ?_)
 refine wpAny_bind (wpAny_seqItems hTI rfl ?_)
 show wpAny _ _ (Builtin.SmallTypes.ownedTupleIsFree (.ref z) >>= _) _ _ _
 refine wpAny_bind ?_
 apply Asn (fun h₁=>ZX h₁ z TI TO T0 true∧Heap.SameBut z s.heap h₁)
 ·intro rest
  unfold Builtin.SmallTypes.ownedTupleIsFree
  refine wpAny_bind (wpAny_field hz rfl (x:=rawInt T0) rfl ?_)
  show wpAny _ _ (loadIfAlive ((T0:Int).toNat) >>= _) _ _ _
  rw[A4m]
  refine wpAny_bind (PySem.W.kdx_alive h0 ?_)
  simp only [Option.isNone_some,A5i,if_false]
  refine wpAny_bind (wpAny_field hz rfl (x:=.bool f) rfl ?_)
  by_cases ef:f=true
  case neg =>
   have ef:f=false:=by simpa using ef
   rw[if_pos (show(Value.bool f != Value.bool true)=true by rw[ef];rfl)]
   refine wpAny_bind (wpAny_setField_rec hz (by simp) fun h₅ he₅ hs₅=>?_)
   replace hs₅:Heap.SameBut z s.heap h₅:=hs₅
   replace he₅:ZX h₅ z TI TO T0 true:=he₅
   refine wpAny_pure ?_
   simp only [A5i,if_false]
   exact rest h₅ ⟨he₅,hs₅⟩
  case pos =>
   rw[if_neg (show ¬((Value.bool f != Value.bool true)=true) by rw[ef];exact A4g)]
   refine wpAny_pure ?_
   simp only [A5i,if_false]
   exact rest s.heap ⟨ef▸hz,Heap.SameBut.refl _ _⟩
 rintro h₁ ⟨hz₁,hs₁⟩
 simp only [List.forIn_toArray,A5h,A5Y]
 refine wpAny_bind (wpAny_bind (wpAny_bind (wpAny_holding ?_)))
 show wpAny _ _ (Builtin.SmallTypes.nextOf (.ref i1) >>= _) _ _ _
 refine wpAny_bind ((D1 _ hh).item k _ _ _ lt1 ((D1 A hh).frame _ _ _ h1 fun c hc o e=>hs₁.extBut _ _ (f1 c hc).1 e) fun x h₂ tk₂ px h1₂ hs₂=>wpAny_pure ?_)
 have hs₂:Heap.SameBut i1 h₁ h₂:=hs₂
 refine wpAny_pure ?_
 refine wpAny_bind (wpAny_bind (wpAny_holding ?_))
 show wpAny _ _ (Builtin.SmallTypes.nextOf (.ref i2) >>= _) _ _ _
 refine wpAny_bind ((D2 _ hh).item k _ _ _ lt2 ((D2 A hh).frame _ _ _ h2 fun c hc o e=>hs₂.extBut _ _ (f2 c hc).2.2 (hs₁.extBut _ _ (f2 c hc).1 e)) fun y h₃ tk₃ py h2₃ hs₃=>wpAny_pure ?_)
 have hs₃:Heap.SameBut i2 h₂ h₃:=hs₃
 refine wpAny_pure (wpAny_pure ?_)
 show wpAny _ _ (newTuple [x,y] >>= _) _ _ _
 refine wpAny_bind (wpAny_newTuple ?_)
 have hsz:h₃.objs.size=s.heap.objs.size:=by rw[hs₃.1,hs₂.1,hs₁.1]
 have hz₃:ZX h₃ z TI TO T0 true:=hs₃.extBut _ _ D.i2z.symm (hs₂.extBut _ _ D.i1z.symm hz₁)
 have hk₃:∀ c o,c≠z→c≠i1→c≠i2→s.heap.get? c=some o→h₃.get? c=some o:=fun c o c1 c3 c4 e=>hs₃.extBut _ _ c4 (hs₂.extBut _ _ c3 (hs₁.extBut _ _ c1 e))
 have h1₃:S1 (k+1) h₃:=(D1 A hh).frame _ _ _ h1₂ fun c hc o e=>hs₃.extBut _ _ (f1 c hc).2.2 e
 refine wpAny_pure ⟨_,rfl,?_⟩
 have:=hQ x y (h₃.push { cls:=.type "tuple", data:=.seq #[x,y] }) tk₃ px py (Heap.get?_push_of_some _ hz₃) ((D1 A hh).frame _ _ _ h1₃ fun c hc o e=>Heap.get?_push_of_some _ e) ((D2 A hh).frame _ _ _ h2₃ fun c hc o e=>Heap.get?_push_of_some _ e)
  (by rw[← hsz];exact Heap.get?_push_size _ rfl) (by rw[Heap.size_push,hsz]) fun c o c1 c3 c4 e=>Heap.get?_push_of_some _ (hk₃ c o c1 c3 c4 e)
 rw[← hsz] at this
 exact this
theorem AuN{z TI TO i1 i2 T0:Addr}{fp1 fp2:List Addr}{n k:Nat}{P1 P2:Nat→Value→Prop}{S1 S2:Nat→Heap→Prop}{f:Bool}{o0:Obj}{Q:Fin→Shared→Prop}(D:Oq z TI TO i1 i2)
  (D1:∀ A':Around,A'.handled=none→Draws prog w A' i1 fp1 n P1 S1) (hh:A.handled=none) (f1:∀ c∈fp1,c≠z∧c≠TO∧c≠i2)
  (hz:ZX s.heap z TI TO T0 f) (h0:s.heap.get? T0=some o0) (hTI:IsPair s.heap TI (.ref i1) (.ref i2)) (h1:S1 n s.heap)
  (hE:∀ h' e tk,(∀ c o,c≠z→c≠i1→s.heap.get? c=some o→h'.get? c=some o)→(∃ o,h'.get? e=some o∧o.cls=.type "StopIteration")→E (.ref e) { s with heap:=h',toks:=tk }) :
  wpAny (model prog w) A (Builtin.«zip.__next__» ⟨[.ref z],[]⟩) Q E s:=by
 show wpAny _ _ (field (.ref z) 2 >>= _) _ _ _
 refine wpAny_bind (wpAny_field hz rfl (x:=.bool false) rfl ?_)
 show wpAny _ _ (field (.ref z) 3 >>= _) _ _ _
 refine wpAny_bind (wpAny_field hz rfl (x:=.ref TI) rfl ?_)
 refine wpAny_bind (wpAny_seqItems hTI rfl ?_)
 show wpAny _ _ (Builtin.SmallTypes.ownedTupleIsFree (.ref z) >>= _) _ _ _
 refine wpAny_bind ?_
 apply Asn (fun h₁=>ZX h₁ z TI TO T0 true∧Heap.SameBut z s.heap h₁)
 ·intro rest
  unfold Builtin.SmallTypes.ownedTupleIsFree
  refine wpAny_bind (wpAny_field hz rfl (x:=rawInt T0) rfl ?_)
  show wpAny _ _ (loadIfAlive ((T0:Int).toNat) >>= _) _ _ _
  rw[A4m]
  refine wpAny_bind (PySem.W.kdx_alive h0 ?_)
  simp only [Option.isNone_some,A5i,if_false]
  refine wpAny_bind (wpAny_field hz rfl (x:=.bool f) rfl ?_)
  by_cases ef:f=true
  case neg =>
   have ef:f=false:=by simpa using ef
   rw[if_pos (show(Value.bool f != Value.bool true)=true by rw[ef];rfl)]
   refine wpAny_bind (wpAny_setField_rec hz (by simp) fun h₅ he₅ hs₅=>?_)
   replace hs₅:Heap.SameBut z s.heap h₅:=hs₅
   replace he₅:ZX h₅ z TI TO T0 true:=he₅
   refine wpAny_pure ?_
   simp only [A5i,if_false]
   exact rest h₅ ⟨he₅,hs₅⟩
  case pos =>
   rw[if_neg (show ¬((Value.bool f != Value.bool true)=true) by rw[ef];exact A4g)]
   refine wpAny_pure ?_
   simp only [A5i,if_false]
   exact rest s.heap ⟨ef▸hz,Heap.SameBut.refl _ _⟩
 rintro h₁ ⟨hz₁,hs₁⟩
 simp only [List.forIn_toArray,A5h,A5Y]
 refine wpAny_bind (wpAny_bind (wpAny_bind (wpAny_holding ?_)))
 show wpAny _ _ (Builtin.SmallTypes.nextOf (.ref i1) >>= _) _ _ _
 refine wpAny_bind ((D1 _ hh).done _ _ _ ((D1 A hh).frame _ _ _ h1 fun c hc o e=>hs₁.extBut _ _ (f1 c hc).1 e) fun h₂ e hs₂ he=>?_)
 have hs₂:Heap.ExtBut i1 h₁ h₂:=hs₂
 exact hE h₂ e _ (fun c o c1 c3 x=>hs₂ _ _ c3 (hs₁.extBut _ _ c1 x)) he
theorem Aro{z TI TO i1 i2 T0:Addr}{fp1 fp2:List Addr}{n1 n2 k:Nat}{P1 P2:Nat→Value→Prop}{S1 S2:Nat→Heap→Prop}{f:Bool}{o0:Obj}{Q:Option Value→Shared→Prop}(D:Oq z TI TO i1 i2)
  (D1:∀ A':Around,A'.handled=none→Draws prog w A' i1 fp1 n1 P1 S1) (D2:∀ A':Around,A'.handled=none→Draws prog w A' i2 fp2 n2 P2 S2) (hh:A.handled=none)
  (f1:∀ c∈fp1,c≠z∧c≠TO∧c≠i2) (f2:∀ c∈fp2,c≠z∧c≠TO∧c≠i1)
  (hz:ZX s.heap z TI TO T0 f) (h0:s.heap.get? T0=some o0) (h0z:T0≠z) (hTI:IsPair s.heap TI (.ref i1) (.ref i2)) (h1:S1 k s.heap) (h2:S2 k s.heap) (lt1:k<n1) (lt2:k<n2)
  (hQ:∀ x y h' tk,P1 k x→P2 k y→ZX h' z TI TO T0 true→S1 (k+1) h'→S2 (k+1) h'→IsPair h' s.heap.objs.size x y→h'.objs.size=s.heap.objs.size+1 →
   (∀ c o,c≠z→c≠i1→c≠i2→s.heap.get? c=some o→h'.get? c=some o)→Q (some (.ref s.heap.objs.size)) { s with heap:=h',toks:=tk }) :
  wpAny (model prog w) A (pyNext (.ref z)) Q E s:=by
 have hT:s.TypeIs (.ref z) "zip" := ⟨_,hz,rfl⟩
 unfold pyNext
 exact wpAny_bind (wpAny_attempt (wpAny_callSpecial?_slot (name:=Str.ofString "__next__") hT F.slot_zip_next
  (wpAny_call_entry F.slot_zip_next hT F.entry_zip_next
   (At7 D D1 D2 hh f1 f2 hz h0 h0z hTI h1 h2 lt1 lt2 fun x y h' tk a1 a2 a3 a4 a5 a6 a7 a8=>wpAny_pure (hQ x y h' tk a1 a2 a3 a4 a5 a6 a7 a8)) (F.args_zip_next_1 _))))
theorem At8{z TI TO i1 i2 T0:Addr}{fp1:List Addr}{n:Nat}{P1:Nat→Value→Prop}{S1:Nat→Heap→Prop}{f:Bool}{o0:Obj}{Q:Option Value→Shared→Prop}(D:Oq z TI TO i1 i2)
  (D1:∀ A':Around,A'.handled=none→Draws prog w A' i1 fp1 n P1 S1) (hh:A.handled=none) (f1:∀ c∈fp1,c≠z∧c≠TO∧c≠i2)
  (hz:ZX s.heap z TI TO T0 f) (h0:s.heap.get? T0=some o0) (hTI:IsPair s.heap TI (.ref i1) (.ref i2)) (h1:S1 n s.heap)
  (hQ:∀ h' tk,(∀ c o,c≠z→c≠i1→s.heap.get? c=some o→h'.get? c=some o)→Q none { s with heap:=h',toks:=tk }):wpAny (model prog w) A (pyNext (.ref z)) Q E s:=by
 have hT:s.TypeIs (.ref z) "zip" := ⟨_,hz,rfl⟩
 unfold pyNext
 refine wpAny_bind (wpAny_attempt (wpAny_callSpecial?_slot (name:=Str.ofString "__next__") hT F.slot_zip_next
  (wpAny_call_entry F.slot_zip_next hT F.entry_zip_next (AuN (P2:=P1) (S2:=S1) (fp2:=fp1) (k:=n) D D1 hh f1 hz h0 hTI h1 fun h' e tk hk he=>?_) (F.args_zip_next_1 _))))
 obtain⟨o,ho,hc⟩:=he
 refine wpAny_bind (wpAny_isInstance (T := "StopIteration") (b:=true) ⟨o,ho,hc⟩ isSubtype_stop ?_)
 exact wpAny_pure (hQ _ _ hk)
structure ZL (P1 P2:Nat→Value→Prop) (S1 S2:Nat→Heap→Prop) (z TI TO i1 i2 M B:Addr) (s0:Shared) (i:Nat) (Ts:List Addr) (s:Shared):Prop where
 st1:S1 i s.heap
 st2:S2 i s.heap
 zp:(i=0∧IsZip s.heap z TI TO .none∧∃ a b,IsPair s.heap TO a b)∨∃ T0 f,ZX s.heap z TI TO T0 f∧Ts[0]?=some T0
 ti:IsPair s.heap TI (.ref i1) (.ref i2)
 acc:∃ c,s.heap.get? M=some { cls:=.type "list", dict:=none,data:=.seq (Ts.map Value.ref).toArray c,slots:=#[] }
 len:Ts.length=i
 tup:∀(j:Nat) (T:Addr),Ts[j]?=some T→B≤T∧T<s.heap.objs.size∧∃ x y,P1 j x∧P2 j y∧s.heap.get? T=some { cls:=.type "tuple", data:=.seq #[x,y] }
 nd:Ts.Nodup
 big:B≤s.heap.objs.size
 old:∀ b o,b≠z→b≠TO→b≠i1→b≠i2→b≠M→s0.heap.get? b=some o→s.heap.get? b=some o
 rest:∃ h tk,s={ s0 with heap:=h,toks:=tk }
theorem AuO{z TI TO i1 i2 M B:Addr}{fp1 fp2:List Addr}{n:Nat}{P1 P2:Nat→Value→Prop}{S1 S2:Nat→Heap→Prop}{s0:Shared}{R:Result→Shared→Prop}{res:Value}(D:Oq z TI TO i1 i2)
  (D1:∀ A':Around,A'.handled=none→Draws prog w A' i1 fp1 n P1 S1) (D2:∀ A':Around,A'.handled=none→Draws prog w A' i2 fp2 n P2 S2) (hh:A.in1.handled=none)
  (f1:∀ c∈fp1,c≠z∧c≠TO∧c≠i2) (f2:∀ c∈fp2,c≠z∧c≠TO∧c≠i1) (hn:n≤sizeLine) (m1:M∉fp1) (m2:M∉fp2) (hM:M≠z∧M≠TI∧M≠TO∧M≠i1∧M≠i2) (hB:z<B∧TI<B∧TO<B∧i1<B∧i2<B∧M<B) :
  ∀(k i:Nat) (s:Shared) (Ts:List Addr),n-i=k→i≤n→ZL P1 P2 S1 S2 z TI TO i1 i2 M B s0 i Ts s →
  (∀ Ts s h' tk,ZL P1 P2 S1 S2 z TI TO i1 i2 M B s0 n Ts s→(∀ c o,c≠z→c≠TO→c≠i1→c≠i2→s.heap.get? c=some o→h'.get? c=some o)→R (.ok (.ret res)) { s with heap:=h',toks:=tk }) →
  codeAny (model prog w) A (.builtin "list.extend.loop" ⟨[.ref M,.ref z,res],[]⟩) R s:=by
 obtain⟨hMz,Ay8,Ay9,hM1,hM2⟩:=hM
 obtain⟨bz,bTI,bTO,b1,b2,bM⟩:=hB
 have TM:∀ T,B≤T→T≠M∧T≠z∧T≠TI∧T≠TO∧T≠i1∧T≠i2:=fun T h=>⟨Adh bM h,Adh bz h,Adh bTI h,Adh bTO h,Adh b1 h,Adh b2 h⟩
 intro k
 induction k with
 | zero =>
  intro i s Ts hk hi L hR
  have hin:i=n:=by omega
  subst hin
  refine codeAny_builtin F.entry_extend_loop ?_
  rw[Around.under_plainId F.plain_extend_loop _]
  show wpAny _ A.in1 (pyNext (.ref z) >>= _) _ _ s
  refine wpAny_bind ?_
  rcases L.zp with ⟨h0,zp,a,b,to⟩ | ⟨T0,f,zx,ht⟩
  ·exact Ang D D1 D2 hh f1 f2 zp L.ti to L.st1 L.st2 (.inl rfl) fun h' tk kk=>wpAny_pure (hR Ts s h' tk L kk)
  ·obtain⟨_,_,x,y,_,_,q2⟩:=L.tup 0 T0 ht
   exact At8 D D1 hh f1 zx q2 L.ti L.st1 fun h' tk kk=>wpAny_pure (hR Ts s h' tk L fun c o c1 _ c3 _ e=>kk c o c1 c3 e)
 | succ k ih =>
  intro i s Ts hk hi L hR
  have hlt:i<n:=by omega
  refine codeAny_builtin F.entry_extend_loop ?_
  rw[Around.under_plainId F.plain_extend_loop _]
  show wpAny _ A.in1 (pyNext (.ref z) >>= _) _ _ s
  obtain⟨c,hMo⟩:=L.acc
  have step:∀ x y h' tk T0 f,P1 i x→P2 i y→ZX h' z TI TO T0 f→(Ts++[s.heap.objs.size])[0]?=some T0→S1 (i+1) h'→S2 (i+1) h' →
    h'.get? s.heap.objs.size=some { cls:=.type "tuple", data:=.seq #[x,y] }→h'.objs.size=s.heap.objs.size+1 →
    (∀ b o,b≠z→b≠TO→b≠i1→b≠i2→s.heap.get? b=some o→h'.get? b=some o) →
    wpAny (model prog w) A.in1 (updateSeq M (·.push (.ref s.heap.objs.size)) >>= fun _=>again (.builtin "list.extend.loop" ⟨[.ref M,.ref z,res],[]⟩))
     (fun f s'=>match f with | .done d=>R (.ok d) s' | .again k=>k.quiet=true∧codeAny (model prog w) A k R s') (fun e s'=>R (.error e) s') { s with heap:=h',toks:=tk }:=by
   intro x y h' tk T0 f hP1 hP2 zx hT0 st1 st2 hT hsz kk
   have hM':h'.get? M=some { cls:=.type "list", dict:=none,data:=.seq (Ts.map Value.ref).toArray c,slots:=#[] }:=kk M _ hMz Ay9 hM1 hM2 hMo
   refine wpAny_bind ?_
   refine wpAny_updateSeq hM' rfl (wpAny_pure ⟨plainId_quiet F.plain_extend_loop _,ih (i+1) _ (Ts++[s.heap.objs.size]) (by omega) hlt ?_ hR⟩) ?_ ?_
   ·have oth:∀ b o,b≠M→h'.get? b=some o→(h'.update M (Obj.mapSeq (·.push (.ref s.heap.objs.size)))).get? b=some o:=fun b o hb y=>(Heap.get?_update_other _ _ (Ne.symm hb)).trans y
    have bs:B≤s.heap.objs.size:=L.big
    have hMU:=Heap.get?_update_self (Obj.mapSeq (·.push (.ref s.heap.objs.size))) hM' rfl
    have szU:(h'.update M (Obj.mapSeq (·.push (.ref s.heap.objs.size)))).objs.size=s.heap.objs.size+1:=by rw[Heap.size_update,hsz]
    refine⟨(D1 A.in1 hh).frame _ _ _ st1 fun b hb o y=>oth b o (fun z=>m1 (z▸hb)) y,(D2 A.in1 hh).frame _ _ _ st2 fun b hb o y=>oth b o (fun z=>m2 (z▸hb)) y,.inr ⟨T0,f,oth _ _ (Ne.symm hMz) zx,hT0⟩,
     oth _ _ (Ne.symm Ay8) (kk _ _ D.TIz D.TITO D.TIi1 D.TIi2 L.ti),⟨c+1,hMU.trans ?_⟩,by rw[A3T,L.len];rfl,fun j T hj=>?_,?_,?_,fun b o c1 c2 c3 c4 c5 y=>oth b o c5 (kk b o c1 c2 c3 c4 (L.old b o c1 c2 c3 c4 c5 y)),?_⟩
    ·show some _=some _
     congr 1
     simp[Obj.mapSeq]
    ·by_cases hji:j<Ts.length
     ·rw[A4i hji] at hj
      obtain⟨c1,c2,x',y',q1,q2,q3⟩:=L.tup j T hj
      obtain⟨n1,n2,_,n3,n4,n5⟩:=TM T c1
      exact⟨c1,by show T<(h'.update M _).objs.size;rw[szU];exact A4P c2,x',y',q1,q2,oth T _ n1 (kk T _ n2 n3 n4 n5 q3)⟩
     ·have hj2:=(List.getElem?_eq_some_iff.mp hj).1
      rw[A3T,A4R] at hj2
      have ej:j=Ts.length:=by omega
      rw[ej,A4h (A3U _),A4N] at hj
      cases hj
      obtain⟨n1,_⟩:=TM s.heap.objs.size bs
      exact⟨bs,by show s.heap.objs.size<(h'.update M _).objs.size;rw[szU];omega,x,y,by rw[ej,L.len];exact hP1,by rw[ej,L.len];exact hP2,oth _ _ n1 hT⟩
    ·refine List.nodup_append.mpr ⟨L.nd,by simp,fun a ha b hb=>?_⟩
     rw[List.mem_singleton.mp hb]
     obtain⟨j,hj⟩:=A5n ha
     exact A4b (L.tup j a hj).2.1
    ·show B≤(h'.update M _).objs.size
     rw[szU];exact Nat.le_succ_of_le bs
    ·obtain⟨h,tk',e⟩:=L.rest
     exact⟨_,_,by rw[e]⟩
   ·rw[A4a,A3S,L.len];omega
   ·show((Ts.map Value.ref).toArray.push _).size≤sizeLine+1
    rw[Array.size_push,A4a,A3S,L.len];omega
  refine wpAny_bind ?_
  rcases L.zp with ⟨h0,zp,a,b,to⟩ | ⟨T0,f,zx,ht⟩
  ·subst h0
   have e0:Ts=[]:=List.length_eq_zero_iff.mp L.len
   refine Akk D D1 D2 hh f1 f2 zp L.ti to L.st1 L.st2 hlt hlt fun x y h' tk p1 p2 z1 w1 j1 j2 hT hsz kk=>?_
   exact step x y h' tk _ false p1 p2 z1 (by rw[e0];rfl) j1 j2 hT hsz kk
  ·obtain⟨c1,c2,x,y,q1,q2,q3⟩:=L.tup 0 T0 ht
   refine Aro D D1 D2 hh f1 f2 zx q3 (TM T0 c1).2.1 L.ti L.st1 L.st2 hlt hlt fun x y h' tk p1 p2 z1 j1 j2 hT hsz kk=>?_
   exact step x y h' tk T0 true p1 p2 z1 (by rw[A4i (List.getElem?_eq_some_iff.mp ht).1];exact ht) j1 j2 hT hsz fun b o d1 _ d3 d4 e=>kk b o d1 d3 d4 e
end
section
variable {prog:Program}{w:World}{A:Around}{E:Value→Shared→Prop}{s:Shared}{R:Result→Shared→Prop}
theorem AuP{z TI TO i1 i2 M B:Addr}{fp1 fp2:List Addr}{n:Nat}{P1 P2:Nat→Value→Prop}{S1 S2:Nat→Heap→Prop}{a b:Value}(D:Oq z TI TO i1 i2)
  (D1:∀ A':Around,A'.handled=none→Draws prog w A' i1 fp1 n P1 S1) (D2:∀ A':Around,A'.handled=none→Draws prog w A' i2 fp2 n P2 S2) (hh:A.in1.handled=none)
  (f1:∀ c∈fp1,c≠z∧c≠TO∧c≠i2) (f2:∀ c∈fp2,c≠z∧c≠TO∧c≠i1) (hn:n≤sizeLine) (m1:M∉fp1) (m2:M∉fp2) (hMM:M≠z∧M≠TI∧M≠TO∧M≠i1∧M≠i2) (hBB:z<B∧TI<B∧TO<B∧i1<B∧i2<B∧M<B) (hB:B≤s.heap.objs.size)
  (st1:S1 0 s.heap) (st2:S2 0 s.heap) (zp:IsZip s.heap z TI TO .none) (ti:IsPair s.heap TI (.ref i1) (.ref i2)) (to:IsPair s.heap TO a b) (hM:s.heap.get? M=some { cls:=.type "list", data:=.seq #[] })
  (fin:∀ Ts s' h' tk,ZL P1 P2 S1 S2 z TI TO i1 i2 M B s n Ts s'→(∀ c o,c≠z→c≠TO→c≠i1→c≠i2→s'.heap.get? c=some o→h'.get? c=some o)→R (.ok (.ret .none)) { s' with heap:=h',toks:=tk }) :
  wpAny (model prog w) A.in1 (Builtin.«list.__init__» ⟨[.ref M,.ref z],[]⟩)
   (fun f s'=>match f with | .done d=>R (.ok d) s' | .again k=>k.quiet=true∧codeAny (model prog w) A k R s') (fun e s'=>R (.error e) s') s:=by
 obtain⟨hMz,Ay8,Ay9,hM1,hM2⟩:=id hMM
 show wpAny _ A.in1 (do let old ← Builtin.List.listItems (.ref M);Builtin.List.listUpdate (.ref M) (fun _=>#[]);letGo old.toList.reverse;Builtin.List.listExtendWith (.ref M) (.ref z) .none) _ _ s
 refine wpAny_bind ?_;unfold Builtin.List.listItems
 refine wpAny_bind (wpAny_seqItems hM rfl (wpAny_pure ?_))
 show wpAny _ A.in1 (updateSeq M (fun _=>#[]) >>= fun _=>letGo (#[]:Array Value).toList.reverse >>= fun _=>Builtin.List.listExtendWith (.ref M) (.ref z) .none) _ _ s
 refine wpAny_bind (wpAny_updateSeq hM rfl ?_)
 have hMu:=Heap.get?_update_self (Obj.mapSeq (fun _=>(#[]:Array Value))) hM rfl
 have off:∀ b o,b≠M→s.heap.get? b=some o→(s.heap.update M (Obj.mapSeq (fun _=>(#[]:Array Value)))).get? b=some o:=fun b o nb e=>(Heap.get?_update_other _ _ (Ne.symm nb)).trans e
 refine wpAny_bind (wpAny_letGo ?_)
 have q1:Builtin.List.listSameRef (.ref M) (.ref z)=false:=by simp[Builtin.List.listSameRef,hMz]
 have zp2:IsZip (s.heap.update M (Obj.mapSeq (fun _=>(#[]:Array Value)))) z TI TO .none:=off _ _ (Ne.symm hMz) zp
 generalize hh2:s.heap.update M (Obj.mapSeq (fun _=>(#[]:Array Value)))=h2 at hMu off zp2 ⊢
 have sz2:h2.objs.size=s.heap.objs.size:=by rw[← hh2,Heap.size_update]
 have ty:Shared.TypeIs { s with heap:=h2 } (.ref z) "zip" := ⟨_,zp2,rfl⟩
 unfold Builtin.List.listExtendWith
 refine wpAny_bind (wpAny_typeOf ty ?_)
 rw[if_neg (by rw[q1];decide)]
 refine wpAny_bind (wpAny_pyIter_zip zp2 ?_)
 refine wpAny_bind (wpAny_holding ?_)
 unfold Builtin.List.listLengthHint
 refine wpAny_bind (wpAny_specialOf ty At6 ?_)
 show wpAny _ A.in1 (specialOf (Value.ref z) (Str.ofString "__length_hint__") >>= _) _ _ _
 refine wpAny_bind (wpAny_specialOf ty Arn ?_)
 refine wpAny_pure ?_
 show wpAny _ A.in1 (rule "list.extend.makes-room" >>= fun _=>Builtin.List.listTouch (.ref M) >>= fun _ =>
  again (.builtin "list.extend.loop" ⟨[.ref M,.ref z,.none],[]⟩)) _ _ _
 refine wpAny_bind (wpAny_rule ?_)
 refine wpAny_bind ?_
 show wpAny _ A.in1 (updateSeq M (·.push .none) >>= fun _=>updateSeq M (·.pop)) _ _ _
 refine wpAny_bind (wpAny_updateSeq hMu rfl ?_)
 have hM3:=Heap.get?_update_self (Obj.mapSeq (·.push Value.none)) hMu rfl
 refine wpAny_updateSeq hM3 rfl ?_
 have hM4:=Heap.get?_update_self (Obj.mapSeq (·.pop)) hM3 rfl
 have oth:∀ b o,b≠M→h2.get? b=some o→((h2.update M (Obj.mapSeq (·.push Value.none))).update M (Obj.mapSeq (·.pop))).get? b=some o :=
  fun b o hb e=>(Heap.get?_update_other _ _ (Ne.symm hb)).trans ((Heap.get?_update_other _ _ (Ne.symm hb)).trans e)
 refine wpAny_pure ⟨plainId_quiet F.plain_extend_loop _,AuO (s0:=s) D D1 D2 hh f1 f2 hn m1 m2 hMM hBB n 0 _ [] rfl (A4f _) ?_ fin⟩
 have all:∀ b o,b≠M→s.heap.get? b=some o→((h2.update M (Obj.mapSeq (·.push Value.none))).update M (Obj.mapSeq (·.pop))).get? b=some o:=fun b o hb e=>oth b o hb (off b o hb e)
 refine⟨(D1 A.in1 hh).frame _ _ _ st1 fun b hb o y=>all b o (fun z=>m1 (z▸hb)) y,(D2 A.in1 hh).frame _ _ _ st2 fun b hb o y=>all b o (fun z=>m2 (z▸hb)) y,.inl ⟨rfl,oth _ _ (Ne.symm hMz) zp2,a,b,all _ _ (Ne.symm Ay9) to⟩,all _ _ (Ne.symm Ay8) ti,⟨_,hM4⟩,rfl,fun j T h=>by simp at h,List.Pairwise.nil,?_,fun b o c1 c2 c3 c4 c5 y=>all b o c5 y,⟨_,_,rfl⟩⟩
 show B≤((h2.update M _).update M _).objs.size
 rw[Heap.size_update,Heap.size_update,sz2]
 exact hB
theorem AuQ{Q:Value→Shared→Prop}{z TI TO i1 i2:Addr}{fp1 fp2:List Addr}{n:Nat}{P1 P2:Nat→Value→Prop}{S1 S2:Nat→Heap→Prop}{a b:Value}(D:Oq z TI TO i1 i2)
  (D1:∀ A':Around,A'.handled=none→Draws prog w A' i1 fp1 n P1 S1) (D2:∀ A':Around,A'.handled=none→Draws prog w A' i2 fp2 n P2 S2) (hh:A.in1.in1.handled=none)
  (f1:∀ c∈fp1,c≠z∧c≠TO∧c≠i2) (f2:∀ c∈fp2,c≠z∧c≠TO∧c≠i1) (hn:n≤sizeLine) (bl1:∀ b∈fp1,b<s.heap.objs.size) (bl2:∀ b∈fp2,b<s.heap.objs.size) (bb:z<s.heap.objs.size∧TI<s.heap.objs.size∧TO<s.heap.objs.size∧i1<s.heap.objs.size∧i2<s.heap.objs.size)
  (st1:S1 0 s.heap) (st2:S2 0 s.heap) (zp:IsZip s.heap z TI TO .none) (ti:IsPair s.heap TI (.ref i1) (.ref i2)) (to:IsPair s.heap TO a b)
  (fin:∀ Ts s' h' tk,ZL P1 P2 S1 S2 z TI TO i1 i2 s.heap.objs.size (s.heap.objs.size+1) { s with heap:=s.heap.push { cls:=.type "list", data:=.seq #[] } } n Ts s'→(∀ c o,c≠z→c≠TO→c≠i1→c≠i2→s'.heap.get? c=some o→h'.get? c=some o)→Q (.ref s.heap.objs.size) { s' with heap:=h',toks:=tk }) :
  wpAny (model prog w) A (call (.type "list") [.ref z]) Q E s:=by
 obtain⟨bz,bTI,bTO,b1,b2⟩:=bb
 refine callType_codes (Q₁:=fun ob s1=>ob=.ref s.heap.objs.size∧s1={ s with heap:=s.heap.push { cls:=.type "list", data:=.seq #[] } }) F.called_list (F.typeCall_list_1 _) F.entry_list_init (code_list_new _ ⟨rfl,rfl⟩) fun ob s1 h1=>?_
 obtain⟨rfl,rfl⟩:=h1
 have hM:(s.heap.push { cls:=.type "list", data:=.seq #[] }).get? s.heap.objs.size=some { cls:=.type "list", data:=.seq #[] }:=Heap.get?_push_size _ rfl
 refine⟨⟨_,hM,rfl⟩,F.args_list_init_2 _ _,AuP (M:=s.heap.objs.size) (B:=s.heap.objs.size+1) D D1 D2 hh f1 f2 hn (fun z=>A4v _ (bl1 _ z)) (fun z=>A4v _ (bl2 _ z)) ⟨A4y bz,A4y bTI,A4y bTO,A4y b1,A4y b2⟩ ⟨A4P bz,A4P bTI,A4P bTO,A4P b1,A4P b2,A4Y _⟩ (by show _≤(s.heap.push _).objs.size;rw[Heap.size_push];exact A3U _)
  ((D1 A.in1.in1 hh).frame _ _ _ st1 fun b _ o y=>Heap.get?_push_of_some _ y) ((D2 A.in1.in1 hh).frame _ _ _ st2 fun b _ o y=>Heap.get?_push_of_some _ y) (Heap.get?_push_of_some _ zp) (Heap.get?_push_of_some _ ti) (Heap.get?_push_of_some _ to) hM (fun Ts s' h' tk L he=>⟨rfl,fin Ts s' h' tk L he⟩)⟩
end
theorem ApF{P:Program}{w:World}{fs ex:List Addr}{H:Hp}{h h':Heap}{f g:Nat→V}:∀(Ts:List Addr),Ts.Nodup→(∀ T∈Ts,h.objs.size≤T)→(∀ b o,h.get? b=some o→h'.get? b=some o)→HOk P w H h→HOk P w H h' →
  (∀(j:Nat) (T:Addr),Ts[j]?=some T→∃ us,Vals [f j,g j] us∧h'.IsTuple T us.toArray) →
  ∃ H',Am H H'∧Un fs ex H H' h h'∧HOk P w H' h'∧(∀(j:Nat) (T:Addr),Ts[j]?=some T→H' T=some (.tup [f j,g j]))∧∀ b,b∉Ts→H' b=H b:=by
 intro Ts nd big keep ok0 ok tup
 have key:∀ k,k≤Ts.length→∃ H',Am H H'∧Un fs ex H H' h h'∧HOk P w H' h'∧(∀(j:Nat) (T:Addr),j<k→Ts[j]?=some T→H' T=some (.tup [f j,g j]))∧∀ b,b∉Ts.take k→H' b=H b:=by
  intro k
  induction k with
  | zero=>intro _;exact⟨H,.refl _,Un.kept keep,ok,fun j T h=>by omega,fun b _=>rfl⟩
  | succ k ih =>
   intro hk
   obtain⟨H1,s1,u1,o1,t1,n1⟩:=ih (by omega)
   have hg:Ts[k]?=some Ts[k]:=A3R (by omega)
   have hb:=big _ (A4j (show k<Ts.length by omega))
   have nk:Ts[k]∉Ts.take k:=fun z=>by
    obtain⟨i,hi,e⟩:=A5a z
    rw[A4l] at hi
    rw[List.getElem_take] at e
    have:=(List.pairwise_iff_getElem.mp nd) i k (by omega) (by omega) (by omega)
    exact this e
   have hn:H1 Ts[k]=none:=by rw[n1 _ nk];exact ok0.fresh hb
   obtain⟨us,vs,it⟩:=tup k _ hg
   refine⟨upd H1 Ts[k] (.tup [f k,g k]),s1.new hn,u1.track hb hn,o1.track hn ⟨by show 2≤sizeLine;decide,us,vs,it⟩,fun j T hj e=>?_,fun b hb=>?_⟩
   ·by_cases hjk:j=k
    ·subst hjk
     rw[hg] at e
     cases e
     exact Ae
    ·have q:=t1 j T (by omega) e
     rw[Aw (Bw q hn)]
     exact q
   ·rw[A4p,hg] at hb
    have h1:b∉Ts.take k:=fun z=>hb (A4S _ z)
    have h2:b≠Ts[k]:=fun z=>hb (A4t _ (by rw[z];simp))
    rw[Aw h2,n1 b h1]
 obtain⟨H',s,u,o,t,n⟩:=key Ts.length (A3U _)
 refine⟨H',s,u,o,fun j T e=>t j T (List.getElem?_eq_some_iff.mp e).1 e,fun b hb=>n b ?_⟩
 rw[A4s]
 exact hb
theorem kkL{h h':Heap}{l:Addr}{its:Array Value}(p:h.IsList l its)(k:∀ c o,h.get? c=some o→h'.get? c=some o):h'.IsList l its:=by
 obtain⟨o,e,r⟩:=p
 exact⟨o,k _ _ e,r⟩
section
variable {X:Cx}{K:PySem.W.Frag}{a b:Expr}{ta:TA}{p1 p2 pos1 pos2:Pos}
def AuR (K:PySem.W.Frag)(ta:TA):TE:=fun σ H Q=>ta σ H fun vs H1=>∃(x y:Addr) (xs ys:List V),vs=[.ref x,.ref y]∧SqL K H1 x xs∧SqL K H1 y ys∧xs.length=ys.length∧xs.length≤1000∧∀(l:Addr) (Ts:List Addr) (H':Hp),Am H1 H'→H1 l=none→H' l=some (.lst (Ts.map V.ref))→Ts.length=xs.length →
 (∀(j:Nat) (T:Addr) (u v:V),Ts[j]?=some T→xs[j]?=some u→ys[j]?=some v→H' T=some (.tup [u,v]))→Q (.ref l) H'
theorem Arp(hg1:Gl X "list") (hm1:X.mg "list" = none) (hg2:Gl X "zip") (hm2:X.mg "zip" = none) (ha:PA X [a,b] ta) (hc:X.calm=true:=by rfl) (hK:X.K=K:=by rfl)
  (hs:starEach [a,b] X.env=[(false,eval a X.env),(false,eval b X.env)]:=by rfl) (hs2:starEach [b] X.env=[(false,eval b X.env)]:=by rfl)
  (hs1:starEach [.Call (.Name "zip" p2) [a,b] [] pos2] X.env=(false,eval (.Call (.Name "zip" p2) [a,b] [] pos2) X.env)::starEach [] X.env:=by rfl)
  (hq1:(backTo pos1 (starEach [] X.env)).any (·.1)=false:=by rfl) :
  PE X (.Call (.Name "list" p1) [.Call (.Name "zip" p2) [a,b] [] pos2] [] pos1) (AuR K ta):=by
 subst hK
 intro pins s σ H Q I h
 have hsz:sizeLine=16777216:=sizeLine_eq
 refine wpAny_Call_Name_kw (QR I hg1 hm1 U0 ?_)
 refine PyProof.Rows.callWith_type1 ?_ hs1 hq1
 rw[hs1]
 show wpAny _ _ (spliced ((false,eval (.Call (.Name "zip" p2) [a,b] [] pos2) X.env)::backTo pos1 (starEach [] X.env))) _ _ s
 refine Calls.spliced_cons ?_
 refine Call_ (QR I hg2 hm2 Ara (PyProof.Rows.callWith_type1 (thn (ha pos2 pins s σ H _ I h) fun us s1 ⟨vs,H1,I1,r1,q1⟩=>?_) (by rw[hs,hs2]) (by rw[hs2];rfl)))
 obtain⟨x,y,xs,ys,e,hx,hy,hl,hz,q⟩:=q1
 subst e
 obtain⟨u1,u2,rfl,ru1,ru2⟩:=r1.two
 cases ru1
 cases ru2
 obtain⟨Ajg,rv1,pl1,_⟩:=I1.list hx
 obtain⟨its2,rv2,pl2,_⟩:=I1.list hy
 have l1:=rv1.length
 have l2:=rv2.length
 have x0:x<s1.heap.objs.size:=by obtain⟨o,e,_⟩:=pl1.isList;exact Heap.lt_size e
 have y0:y<s1.heap.objs.size:=by obtain⟨o,e,_⟩:=pl2.isList;exact Heap.lt_size e
 refine call_zip_2 pl1.isList pl2.isList fun h1 hzz hTI hTO j1 j2 hsz1 kk=>?_
 refine Calls.spliced_nil ?_
 have hh:X.A.in1.in1.handled=none:=by simp[I.ok.hd hc]
 have en:its2.toArray.size=Ajg.toArray.size:=by rw[A4a,A4a];omega
 have D1:∀ A':Around,A'.handled=none→Draws X.prog X.w A' s1.heap.objs.size [s1.heap.objs.size,x] Ajg.toArray.size (fun i v=>Ajg.toArray[i]?=some v) (fun i h=>h.IsListIter s1.heap.objs.size x i∧h.IsList x Ajg.toArray):=fun A' hh'=>Draws.list hh' s1.heap.objs.size x (A4b x0) Ajg.toArray
 have D2:∀ A':Around,A'.handled=none→Draws X.prog X.w A' (s1.heap.objs.size+1) [s1.heap.objs.size+1,y] Ajg.toArray.size (fun i v=>its2.toArray[i]?=some v) (fun i h=>h.IsListIter (s1.heap.objs.size+1) y i∧h.IsList y its2.toArray):=fun A' hh'=>en▸Draws.list hh' (s1.heap.objs.size+1) y (A4b (A4P y0)) its2.toArray
 have ap:=Akn s1.heap.objs.size
 refine AuQ (s:={ s1 with heap:=h1 }) ap D1 D2 hh (fun c hc=>?_) (fun c hc=>?_) (by rw[A4a];omega) (fun c hc=>?_) (fun c hc=>?_) ⟨by show _<h1.objs.size;omega,by show _<h1.objs.size;omega,by show _<h1.objs.size;omega,by show _<h1.objs.size;omega,by show _<h1.objs.size;omega⟩
  ⟨j1,kkL pl1.isList kk⟩ ⟨j2,kkL pl2.isList kk⟩ hzz hTI hTO fun Ts s' h' tk L ext=>?_
 ·rcases List.mem_cons.mp hc with e | e
  ·subst e;exact⟨ap.i1z,ap.TOi1.symm,ap.i12⟩
  ·rw[List.mem_singleton.mp e];exact⟨lne x0 4,lne x0 3,lne x0 1⟩
 ·rcases List.mem_cons.mp hc with e | e
  ·subst e;exact⟨ap.i2z,ap.TOi2.symm,ap.i12.symm⟩
  ·rw[List.mem_singleton.mp e];exact⟨lne y0 4,lne y0 3,lne y0 0⟩
 ·show c<h1.objs.size
  rcases List.mem_cons.mp hc with e | e
  ·rw[e];show s1.heap.objs.size<h1.objs.size;omega
  ·rw[List.mem_singleton.mp e];exact A4k x0 (by omega)
 ·show c<h1.objs.size
  rcases List.mem_cons.mp hc with e | e
  ·rw[e];show s1.heap.objs.size+1<h1.objs.size;omega
  ·rw[List.mem_singleton.mp e];exact A4k y0 (by omega)
 have L1:h1.objs.size=s1.heap.objs.size+5:=hsz1
 have old:∀ b o,s1.heap.get? b=some o→h'.get? b=some o:=fun b o y=>by
  have hb:b<s1.heap.objs.size:=Heap.lt_size y
  have y1:=kk b o y
  have b1:b<h1.objs.size:=Heap.lt_size y1
  exact ext b o (lne hb 4) (lne hb 3) (lne hb 0) (lne hb 1) (L.old b o (lne hb 4) (lne hb 3) (lne hb 0) (lne hb 1) (A4b b1) (Heap.get?_push_of_some _ y1))
 obtain⟨c,hM⟩:=L.acc
 have hM:s'.heap.get? h1.objs.size=some { cls:=.type "list", dict:=none,data:=.seq (Ts.map Value.ref).toArray c,slots:=#[] }:=hM
 have big:∀ T,h1.objs.size≤T→T≠s1.heap.objs.size+4∧T≠s1.heap.objs.size+3∧T≠s1.heap.objs.size∧T≠s1.heap.objs.size+1:=fun T h=>⟨Adh (show s1.heap.objs.size+4<h1.objs.size by omega) h,Adh (show s1.heap.objs.size+3<h1.objs.size by omega) h,Adh (show s1.heap.objs.size<h1.objs.size by omega) h,Adh (show s1.heap.objs.size+1<h1.objs.size by omega) h⟩
 have ex:∀ T o,h1.objs.size≤T→s'.heap.get? T=some o→h'.get? T=some o:=fun T o h e=>ext T o (big T h).1 (big T h).2.1 (big T h).2.2.1 (big T h).2.2.2 e
 have hM':=ex _ _ (A3U _) hM
 have tl:∀ T∈Ts,h1.objs.size<T:=fun T hT=>by
  obtain⟨j,hj⟩:=A5n hT
  have:=(L.tup j T hj).1
  have e:h1.objs.size+1≤T:=this
  omega
 have A0r:Ts.length=xs.length:=by rw[L.len,A4a];omega
 have sgn:∀(j:Nat) (T:Addr),Ts[j]?=some T→∃ us,Vals [xs.getD j .non,ys.getD j .non] us∧h'.IsTuple T us.toArray:=fun j T hj=>by
  obtain⟨_,_,u,v,hu,hv,ht⟩:=L.tup j T hj
  have nT:=tl T (A3Y hj)
  have jl:j<xs.length:=by have:=(List.getElem?_eq_some_iff.mp hj).1;omega
  have jl2:j<ys.length:=by omega
  obtain⟨u',eu,ru⟩:=rv1.get (A3R jl)
  obtain⟨v',ev,rv⟩:=rv2.get (A3R jl2)
  have hu:Ajg[j]?=some u:=by simpa using hu
  have hv:its2[j]?=some v:=by simpa using hv
  rw[hu] at eu
  rw[hv] at ev
  cases eu
  cases ev
  refine⟨[u,v],?_,⟨_,ex T _ (A4X nT) ht,rfl,_,rfl⟩⟩
  rw[A4c,A3R jl,A4c,A3R jl2]
  exact .cons ru (.cons rv .nil)
 obtain⟨H',sm,un,ok,tt,nn⟩:=ApF (P:=X.prog) (w:=X.w) (fs:=X.fs) (ex:=[]) (H:=H1) (h:=s1.heap) (h':=h') (f:=fun j=>xs.getD j .non) (g:=fun j=>ys.getD j .non) Ts L.nd (fun T hT=>by have:=tl T hT;omega) old I1.hok (I1.hok.kept old) sgn
 have hMn:h1.objs.size∉Ts:=fun z=>A4v _ (tl _ z)
 have hn:H' h1.objs.size=none:=by rw[nn _ hMn];exact I1.hok.fresh (by omega)
 have vs:Vals (Ts.map V.ref) (Ts.map Value.ref):=Aky Ts
 have ts:(Ts.map V.ref).length≤sizeLine:=by rw[A3S,A0r];omega
 obtain⟨hx',tkx,es⟩:=L.rest
 rw[es]
 refine⟨.ref h1.objs.size,upd H' h1.objs.size (.lst (Ts.map V.ref)),I1.un (t':=tk) (un.track (by omega) hn) (ok.track hn ⟨ts,_,c,vs,hM'⟩),rfl,?_⟩
 refine q h1.objs.size Ts _ (sm.new hn) (I1.hok.fresh (by omega)) Ae A0r fun j T u v hj hu hv=>?_
 have:=tt j T hj
 rw[Aw (Bw this hn),this]
 rw[A4c,hu,A4c,hv]
 rfl
end
open PySem PySem.Spec PyProof.Rows
section
variable {X:Cx}{K:PySem.W.Frag}
def A0s (K:PySem.W.Frag):R2:=fun x y H Q=>∃(p q:Addr) (js ks:List Int),x=.ref p∧y=.ref q∧SqT K H p (vI js)∧SqT K H q (vI ks)∧Q (.bl (!decide (js=ks))) H
theorem AwK(hu:X.A.units+100<cLine)(hK:X.K=K:=by rfl):OpR X (compareOp .NotEq) (A0s K):=by
 subst hK
 intro pins s σ H x y v u Q I rx ry h
 obtain⟨p,q,js,ks,rfl,rfl,hx,hy,k⟩:=h
 cases rx
 cases ry
 obtain⟨its,r,pl,hz⟩:=I.tuple hx
 obtain⟨its2,r2,pl2,hz2⟩:=I.tuple hy
 have l1:=r.length
 have l2:=r2.length
 unfold vI at l1 l2
 rw[A3S] at l1 l2
 refine SeqAt.RcNeAt.tuples (e:=fun j=>decide (js[j]?=ks[j]?)) pl pl2 (by omega) (fun j h1 h2=>?_) _ _ _ _ ?_
 ·simp only [A4a] at h1 h2
  have j1:j<js.length:=by omega
  have j2:j<ks.length:=by omega
  obtain⟨w1,e1,q1⟩:=r.get (i:=j) (x:=V.int js[j]) (by simp[vI,j1])
  obtain⟨w2,e2,q2⟩:=r2.get (i:=j) (x:=V.int ks[j]) (by simp[vI,j2])
  have g1:its.toArray[j]=w1:=by
   have:its.toArray[j]?=some w1:=by simpa using e1
   exact Option.some.inj ((Array.getElem?_eq_getElem (by simpa using h1)).symm.trans this)
  have g2:its2.toArray[j]=w2:=by
   have:its2.toArray[j]?=some w2:=by simpa using e2
   exact Option.some.inj ((Array.getElem?_eq_getElem (by simpa using h2)).symm.trans this)
  rw[g1,g2]
  have:=Aka (A:=X.A.in1) (s:=s) q1 q2 rfl rfl
  have e3:eqV (V.int js[j]) (V.int ks[j])=decide (js[j]?=ks[j]?):=by
   rw[A3R j1,A3R j2]
   show(js[j] == ks[j])=_
   by_cases h:js[j]=ks[j] <;> simp[h]
  rw[e3] at this
  exact this
 refine⟨.bl (!decide (js=ks)),H,I,?_,k⟩
 show Value.bool _=Value.bool _
 congr 1
 simp only [A4a]
 rw[← l1,← l2]
 by_cases h:js=ks
 ·subst h
  simp
 ·rw[decide_eq_false h]
  by_cases hl:js.length=ks.length
  ·have:¬((List.range (min js.length ks.length)).all (fun j=>decide (js[j]?=ks[j]?))=true):=fun z=>h (by
    rw[A6a] at z
    refine A4G fun j=>?_
    by_cases hj:j<js.length
    ·exact of_decide_eq_true (z j (List.mem_range.mpr (by omega)))
    ·rw[A4o (by omega),A4o (by omega)])
   rw[Bool.eq_false_iff.mpr this,Bool.false_and]
  ·have:(js.length == ks.length)=false:=by simp[hl]
   rw[this,A5S]
end
end L2
namespace Mine
open L2
def Sg (c:Nat):Prop:=c=35∨c=46
structure Cl (cl:List (List Nat)) (m n:Nat):Prop where
 hn:cl.length=n
 hm:∀ t∈cl,t.length=m
 sg:∀ t∈cl,∀ c∈t,Sg c
 m1:1≤m
 m40:m≤40
 n1:1≤n
 n40:n≤40
def flip(c:Nat):Nat:=if c=35 then 46 else 35
theorem Aso(c:Nat):Sg (flip c):=by unfold flip Sg;split <;> simp
def back(cl:List (List Nat)):List (List Nat):=cl.map fun t=>t.reverse.map flip
def col (cl:List (List Nat))(e:Nat):List Nat:=cl.map fun t=>t.getD e 0
def Jx (cl:List (List Nat))(m:Nat):List (List Nat):=(List.range m).map fun e=>(col cl e).map flip
theorem Cl.back{cl:List (List Nat)}{m n:Nat}(h:Cl cl m n):Cl (back cl) m n where
 hn:=by unfold Mine.back;rw[A3S];exact h.hn
 hm:=fun t ht=>by
  obtain⟨s,hs,rfl⟩:=List.mem_map.mp ht
  simp[h.hm s hs]
 sg:=fun t ht c hc=>by
  obtain⟨s,hs,rfl⟩:=List.mem_map.mp ht
  obtain⟨d,_,rfl⟩:=List.mem_map.mp hc
  exact Aso d
 m1:=h.m1
 m40:=h.m40
 n1:=h.n1
 n40:=h.n40
theorem Cl.Jx{cl:List (List Nat)}{m n:Nat}(h:Cl cl m n):Cl (Jx cl m) n m where
 hn:=by unfold Mine.Jx;simp
 hm:=fun t ht=>by
  obtain⟨e,_,rfl⟩:=List.mem_map.mp ht
  simp[col,h.hn]
 sg:=fun t ht c hc=>by
  obtain⟨e,_,rfl⟩:=List.mem_map.mp ht
  obtain⟨d,_,rfl⟩:=List.mem_map.mp hc
  exact Aso d
 m1:=h.n1
 m40:=h.n40
 n1:=h.m1
 n40:=h.m40
def sgn (cl:List (List Nat))(m n:Nat)(x y:Int):Nat:=(cl.getD (y%(n:Int)).toNat []).getD (x%(m:Int)).toNat 0
def Rs (ks:List Int):Prop:=(∀(i:Nat) (a b:Int),ks[i]?=some a→ks[i+1]?=some b→a<b)∧∀ k∈ks,0≤k∧k<40
theorem Arq:Rs []:=⟨fun i a b h=>by simp at h,fun k h=>by cases h⟩
theorem AuS{ks:List Int}{z:Int}(h:Rs ks)(hz:∀ k∈ks,k<z)(h0:0≤z)(h1:z<40):Rs (ks++[z]):=by
 refine⟨fun i a b ha hb=>?_,fun k hk=>?_⟩
 ·by_cases hi:i+1<ks.length
  ·rw[A4i (by omega)] at ha
   rw[A4i hi] at hb
   exact h.1 i a b ha hb
  ·by_cases hi2:i<ks.length
   ·rw[A4i hi2] at ha
    rw[A4h (by omega)] at hb
    have e:i+1-ks.length=0:=by omega
    rw[e] at hb
    have:b=z:=by simpa using hb.symm
    rw[this]
    exact hz a (A3Y ha)
   ·rw[A4h (by omega)] at hb
    have:([z]:List Int)[i+1-ks.length]?=none:=by
     apply A4o
     simp
     omega
    rw[this] at hb
    cases hb
 ·rcases List.mem_append.mp hk with h2 | h2
  ·exact h.2 k h2
  ·rw[List.mem_singleton.mp h2];exact⟨h0,h1⟩
structure Ft (th:List Int) (tss:List (List Int)) (tr:List Int):Prop where
 m1:1≤th.length
 m40:th.length≤40
 t1:1≤tss.length
 t40:tss.length≤40
 n1:1≤tr.length
 n40:tr.length≤40
 hth:∀ v∈th,0≤v∧v<40
 hti:∀ ks∈tss,Rs ks
 htr:∀ v∈tr,0≤v∧v<tss.length
def shd (th ks:List Int):List Nat:=th.map fun s=>if s∈ks then 35 else 46
def wv (th:List Int)(tss:List (List Int))(tr:List Int):List (List Nat):=tr.map fun v=>shd th (tss.getD v.toNat [])
theorem AwL(th ks:List Int):(shd th ks).length=th.length:=by unfold shd;rw[A3S]
theorem AuT(th:List Int)(tss:List (List Int))(tr:List Int):(wv th tss tr).length=tr.length:=by unfold wv;rw[A3S]
theorem AwM{tss:List (List Int)}{v:Int}(h:0≤v∧v<tss.length):tss[v.toNat]?=some (tss.getD v.toNat []):=by
 have:v.toNat<tss.length:=by omega
 rw[A4c,A3R this]
 rfl
section
variable {α β:Type} [DecidableEq α] [DecidableEq β]
theorem snoc_ind{γ:Type}{P:List γ→Prop}(h0:P [])(h1:∀ l x,P l→P (l++[x])):∀ l,P l:=by
 intro l
 have k:∀ r:List γ,P r.reverse:=by
  intro r
  induction r with
  | nil=>exact h0
  | cons a r ih=>rw[List.reverse_cons];exact h1 _ _ ih
 have:=k l.reverse
 rwa [List.reverse_reverse] at this
def unl (l:List α):List α:=l.foldl (fun f x=>if x∈f then f else f++[x]) []
theorem Ib(l:List α)(x:α):unl (l++[x])=if x∈unl l then unl l else unl l++[x]:=by
 unfold unl
 rw[List.foldl_append]
 rfl
theorem MN(x:α):∀ l:List α,x∈unl l↔x∈l:=by
 refine snoc_ind (by simp[unl]) fun l y ih=>?_
 rw[Ib]
 split
 ·rename_i h
  rw[ih,A5H,List.mem_singleton]
  refine⟨.inl,fun z=>z.elim id fun z=>?_⟩
  rw[z];rw[z] at ih;exact ih.mp h
 ·rw[A5H,A5H,ih]
theorem At9:∀ l:List α,(unl l).Nodup:=by
 refine snoc_ind (by simp[unl]) fun l y ih=>?_
 rw[Ib]
 split
 ·exact ih
 ·rename_i h
  rw[List.nodup_append]
  exact⟨ih,by simp,fun a ha b hb e=>h (by rw[← List.mem_singleton.mp hb,← e];exact ha)⟩
theorem QW:∀ l:List α,(unl l).length≤l.length:=by
 refine snoc_ind (by simp[unl]) fun l y ih=>?_
 rw[Ib,A3T]
 split
 ·omega
 ·rw[A3T]
  show _+1≤_+1
  omega
theorem AwN{l:List α}(h:l≠[]):0<(unl l).length:=by
 cases l with
 | nil=>exact absurd rfl h
 | cons a r=>exact List.length_pos_of_mem ((MN a _).mpr A3V)
def ix (l:List α)(x:α):Nat:=@List.idxOf α instBEqOfDecidableEq x l
def num (l:List α):List Nat:=l.map fun x=>ix (unl l) x
theorem Gb(l:List α):(num l).length=l.length:=by unfold num;rw[A3S]
theorem Akz{l:List α}{i:Nat}{x:α}(h:l[i]?=some x):(num l)[i]?=some (ix (unl l) x):=by unfold num;rw[A4e,h];rfl
theorem Aem{l:List α}{x:α}(h:x∈l):ix (unl l) x<(unl l).length:=List.idxOf_lt_length_iff.mpr ((MN x l).mpr h)
theorem Ak0{l:List α}{z:Nat}(h:z∈num l):z<(unl l).length:=by
 obtain⟨x,hx,rfl⟩:=List.mem_map.mp h
 exact Aem hx
theorem Afq{l:List α}{x y:α}(hx:x∈l)(hy:y∈l)(e:ix (unl l) x=ix (unl l) y):x=y:=by
 have a:=A6l (Aem hx)
 have b:=A6l (Aem hy)
 rw[← a,← b]
 congr 1
theorem Asp{l:List α}{j:Nat}(h:j<(unl l).length):j∈num l:=by
 refine List.mem_map.mpr ⟨(unl l)[j],(MN _ l).mp (A4j h),?_⟩
 exact(At9 l).idxOf_getElem j h
theorem AiJ{l:List α}{x:α}(h:x∈l):ix l x<l.length:=List.idxOf_lt_length_iff.mpr h
theorem Anl{l:List α}{x:α}(h:x∈l):l[ix l x]?=some x:=by
 rw[A3R (AiJ h)]
 exact congrArg some (A6l (AiJ h))
theorem Asq{x:α}:∀{l:List α} {i:Nat},i<ix l x→l[i]?≠some x
 | [],i,h=>by simp
 | a::l,i,h=>by
  unfold ix at h
  rw[List.idxOf_cons] at h
  by_cases e:a=x
  ·subst e
   simp at h
  ·have:(a == x)=false:=by simp[e]
   rw[this] at h
   cases i with
   | zero=>exact fun z=>e (Option.some.inj z)
   | succ i=>exact Asq (l:=l) (i:=i) (Nat.lt_of_succ_lt_succ h)
theorem Asr{f:α→β}:∀ l:List α,(∀ x∈l,∀ y∈l,f x=f y→x=y)→unl (l.map f)=(unl l).map f:=by
 refine snoc_ind (fun _=>rfl) fun l x ih h=>?_
 rw[A3W,List.map_singleton,Ib,Ib,ih fun a ha b hb=>h a (A4S _ ha) b (A4S _ hb)]
 have:f x∈(unl l).map f↔x∈unl l:=by
  constructor
  ·intro z
   obtain⟨y,hy,e⟩:=List.mem_map.mp z
   have:=h y (A4S _ ((MN y l).mp hy)) x (by simp) e
   rw[← this];exact hy
  ·exact fun z=>List.mem_map_of_mem z
 by_cases c:x∈unl l
 ·rw[if_pos c,if_pos (this.mpr c)]
 ·rw[if_neg c,if_neg (fun z=>c (this.mp z)),A3W,List.map_singleton]
end
theorem Yb{α β:Type}{f:α→List β}{h:Nat}:∀ xs:List α,(∀ x∈xs,(f x).length=h)→(xs.flatMap f).length=xs.length*h
 | [],_=>by simp
 | x::xs,k=>by
  rw[A5I,A3T,k x A3V,Yb xs fun y hy=>k y (A4d _ hy),A3Z,A5G]
  omega
theorem Afr{α β:Type}{f:α→List β}{h:Nat}:∀(xs:List α),(∀ x∈xs,(f x).length=h)→∀ i s,s<h→(xs.flatMap f)[i*h+s]?=xs[i]?.bind fun x=>(f x)[s]?
 | [],_,i,s,hs=>by simp
 | x::xs,k,0,s,hs=>by
  rw[A5I,Nat.zero_mul,Nat.zero_add,A4i (by rw[k x A3V];exact hs)]
  rfl
 | x::xs,k,i+1,s,hs=>by
  have kx:=k x A3V
  rw[A5I,A4h (by rw[kx,A5G];omega),kx,show(i+1)*h+s-h=i*h+s by rw[A5G];omega,
   Afr xs (fun y hy=>k y (A4d _ hy)) i s hs,A5U]
def bw (bs:List Nat)(F:Nat)(ws:List Nat):List Nat:=bs.flatMap fun b=>ws.map fun x=>b*F+x
theorem Ars(bs:List Nat)(F:Nat)(ws:List Nat):(bw bs F ws).length=bs.length*ws.length:=Yb bs fun x _=>by rw[A3S]
theorem AuU{bs:List Nat}{F:Nat}{ws:List Nat}{z:Nat}:z∈bw bs F ws↔∃ b∈bs,∃ x∈ws,z=b*F+x:=by
 unfold bw
 rw[List.mem_flatMap]
 constructor
 ·rintro⟨b,hb,h⟩
  obtain⟨x,hx,rfl⟩:=List.mem_map.mp h
  exact⟨b,hb,x,hx,rfl⟩
 ·rintro⟨b,hb,x,hx,rfl⟩
  exact⟨b,hb,List.mem_map.mpr ⟨x,hx,rfl⟩⟩
theorem Ax7{bs:List Nat}{F:Nat}{ws:List Nat}{i s b x:Nat}(hb:bs[i]?=some b)(hx:ws[s]?=some x):(bw bs F ws)[i*ws.length+s]?=some (b*F+x):=by
 have hs:s<ws.length:=(List.getElem?_eq_some_iff.mp hx).1
 unfold bw
 rw[Afr bs (fun x _=>by rw[A3S]) i s hs,hb]
 show((ws.map fun x=>b*F+x)[s]?)=_
 rw[A4e,hx]
 rfl
theorem AuV{F b x b' x':Nat}(hx:x<F)(hx':x'<F)(e:b*F+x=b'*F+x'):b=b'∧x=x':=by
 have h1:(b*F+x) / F=b:=by rw[A4J,Nat.mul_add_div (by omega),A6m hx,A5J]
 have h2:(b'*F+x') / F=b':=by rw[A4J,Nat.mul_add_div (by omega),A6m hx',A5J]
 have:b=b':=by rw[← h1,← h2,e]
 subst this
 exact⟨rfl,by omega⟩
theorem A0t{A F b x:Nat}(hb:b<A)(hx:x<F):b*F+x<A*F:=by
 have:(b+1)*F≤A*F:=A6n F hb
 rw[A5G] at this
 omega
theorem AuW{α β:Type}[DecidableEq α][DecidableEq β]{as:List α}{cs:List β}{z:Nat}(h:z<(unl as).length*(unl cs).length):z∈bw (num as) (unl cs).length (num cs):=by
 have F0:0<(unl cs).length:=Nat.pos_of_ne_zero fun q=>by rw[q,Nat.mul_zero] at h;omega
 rw[AuU]
 refine⟨z / (unl cs).length,Asp (A5K (by rw[A4J];exact h)),z%(unl cs).length,Asp (A5e _ F0),?_⟩
 rw[A4J]
 exact(A5u _ _).symm
theorem AnN{α β:Type}[DecidableEq α][DecidableEq β]{as:List α}{cs:List β}{z:Nat}(h:z∈bw (num as) (unl cs).length (num cs)):z<(unl as).length*(unl cs).length:=by
 obtain⟨b,hb,x,hx,rfl⟩:=AuU.mp h
 exact A0t (Ak0 hb) (Ak0 hx)
theorem AyA{α β:Type}[DecidableEq α][DecidableEq β]{as:List α}{cs:List β}{M:Nat}(h:M∈bw (num as) (unl cs).length (num cs))(hm:∀ z∈bw (num as) (unl cs).length (num cs),z≤M):M+1=(unl as).length*(unl cs).length:=by
 have h1:=AnN h
 have:=hm _ (AuW (z:=(unl as).length*(unl cs).length-1) (by omega))
 omega
def fil (pr one other:List (List Nat)):List (List Nat):=pr.flatMap fun u=>(one.zip other).map fun q=>u.flatMap fun c=>if c=35 then q.1 else q.2
section
variable {pr one other:List (List Nat)}{m n w h:Nat} (C:Cl pr m n) (C1:Cl one w h) (C2:Cl other w h)
include C C1 C2
theorem Afs:(fil pr one other).length=n*h:=by
 unfold fil
 rw[Yb (h:=h) pr fun x _=>by rw[A3S,A5o,C1.hn,C2.hn,A5b],C.hn]
theorem Afu{P s:Nat}{u a b:List Nat}(hu:pr[P]?=some u)(ha:one[s]?=some a)(hb:other[s]?=some b):(fil pr one other)[P*h+s]?=some (u.flatMap fun c=>if c=35 then a else b):=by
 have hs:s<h:=by rw[← C1.hn];exact(List.getElem?_eq_some_iff.mp ha).1
 unfold fil
 rw[Afr (h:=h) pr (fun x _=>by rw[A3S,A5o,C1.hn,C2.hn,A5b]) P s hs,hu]
 show(((one.zip other).map _)[s]?)=_
 have z:(one.zip other)[s]?=some (a,b):=List.getElem?_zip_eq_some.mpr ⟨ha,hb⟩
 rw[A4e,z]
 rfl
theorem Afv{u a b:List Nat}{E k c:Nat}(ha:a∈one)(hb:b∈other)(hc:u[E]?=some c)(hk:k<w):(u.flatMap fun c=>if c=35 then a else b)[E*w+k]?=(if c=35 then a else b)[k]?:=by
 rw[Afr (h:=w) u (fun x _=>by split;exact C1.hm a ha;exact C2.hm b hb) E k hk,hc]
 rfl
theorem ApG{u a b:List Nat}(ha:a∈one)(hb:b∈other):(u.flatMap fun c=>if c=35 then a else b).length=u.length*w:=Yb u fun x _=>by split;exact C1.hm a ha;exact C2.hm b hb
theorem Art(hm:m*w≤40)(hn:n*h≤40):Cl (fil pr one other) (m*w) (n*h):=by
 have key:∀ r∈fil pr one other,∃ u∈pr,∃ a∈one,∃ b∈other,r=u.flatMap fun c=>if c=35 then a else b:=fun r hr=>by
  unfold fil at hr
  obtain⟨u,hu,hr⟩:=List.mem_flatMap.mp hr
  obtain⟨⟨a,b⟩,hq,rfl⟩:=List.mem_map.mp hr
  have z:=A5y hq
  exact⟨u,hu,a,z.1,b,z.2,rfl⟩
 refine⟨Afs C C1 C2,fun r hr=>?_,fun r hr c hc=>?_,A5L C.m1 C1.m1,hm,A5L C.n1 C1.n1,hn⟩
 ·obtain⟨u,hu,a,ha,b,hb,rfl⟩:=key r hr
  rw[ApG C C1 C2 ha hb,C.hm u hu]
 ·obtain⟨u,hu,a,ha,b,hb,rfl⟩:=key r hr
  obtain⟨d,hd,hc⟩:=List.mem_flatMap.mp hc
  split at hc
  ·exact C1.sg a ha c hc
  ·exact C2.sg b hb c hc
end
def cols(cl:List (List Nat))(m:Nat):List (List Nat):=(List.range m).map (col cl)
def R1 (one other:List (List Nat))(w:Nat):List (List Nat × List Nat):=(List.range w).map fun e=>(col one e,col other e)
theorem KQ(cl:List (List Nat))(m:Nat):(cols cl m).length=m:=by unfold cols;rw[A3S,A4H]
theorem Tg(one other:List (List Nat))(w:Nat):(R1 one other w).length=w:=by unfold R1;rw[A3S,A4H]
theorem YX{cl:List (List Nat)}{m e:Nat}(h:e<m):(cols cl m)[e]?=some (col cl e):=by
 unfold cols
 rw[A4e,A5k h]
 rfl
theorem Afw{one other:List (List Nat)}{w e:Nat}(h:e<w):(R1 one other w)[e]?=some (col one e,col other e):=by
 unfold R1
 rw[A4e,A5k h]
 rfl
theorem AaR{cl:List (List Nat)}{p:Nat}{u:List Nat}(h:cl[p]?=some u)(e:Nat):(col cl e)[p]?=some (u.getD e 0):=by
 unfold col
 rw[A4e,h]
 rfl
def nts (l:List Nat):List Int:=l.map fun(z:Nat)=>(z:Int)
theorem Ge(l:List Nat):(nts l).length=l.length:=by unfold nts;rw[A3S]
theorem Ah9{l:List Nat}{i z:Nat}(h:l[i]?=some z):(nts l)[i]?=some (z:Int):=by unfold nts;rw[A4e,h];rfl
theorem AnO{l:List Nat}{i:Nat}{z:Int}(h:(nts l)[i]?=some z):∃ y:Nat,l[i]?=some y∧z=(y:Int):=by
 unfold nts at h
 rw[A4e] at h
 obtain⟨y,hy,rfl⟩:=Option.map_eq_some_iff.mp h
 exact⟨y,hy,rfl⟩
theorem Afx{l:List Nat}{z:Int}:z∈nts l↔∃ y∈l,z=(y:Int):=by
 unfold nts
 rw[List.mem_map]
 exact⟨fun⟨y,hy,e⟩=>⟨y,hy,e.symm⟩,fun⟨y,hy,e⟩=>⟨y,hy,e.symm⟩⟩
section
variable {pr one other:List (List Nat)}{m n w h:Nat} (C:Cl pr m n) (C1:Cl one w h) (C2:Cl other w h)
def thN (pr one other:List (List Nat))(m w:Nat):List Nat:=bw (num (cols pr m)) (unl (R1 one other w)).length (num (R1 one other w))
def trN (pr one other:List (List Nat)):List Nat:=bw (num pr) (unl (one.zip other)).length (num (one.zip other))
theorem YZ:(thN pr one other m w).length=m*w:=by unfold thN;rw[Ars,Gb,Gb,KQ,Tg]
theorem AuX{E k:Nat}(hE:E<m)(hk:k<w):(thN pr one other m w)[E*w+k]?=some (ix (unl (cols pr m)) (col pr E)*(unl (R1 one other w)).length+ix (unl (R1 one other w)) (col one k,col other k)):=by
 have:=Ax7 (F:=(unl (R1 one other w)).length) (Akz (YX (cl:=pr) hE)) (Akz (Afw (one:=one) (other:=other) hk))
 rw[Gb,Tg] at this
 exact this
include C C1 C2
theorem Afy:(trN pr one other).length=n*h:=by unfold trN;rw[Ars,Gb,Gb,C.hn,A5o,C1.hn,C2.hn,A5b]
theorem AuY{P s:Nat}{u a b:List Nat}(hu:pr[P]?=some u)(ha:one[s]?=some a)(hb:other[s]?=some b):(trN pr one other)[P*h+s]?=some (ix (unl pr) u*(unl (one.zip other)).length+ix (unl (one.zip other)) (a,b)):=by
 have z:(one.zip other)[s]?=some (a,b):=List.getElem?_zip_eq_some.mpr ⟨ha,hb⟩
 have:=Ax7 (F:=(unl (one.zip other)).length) (Akz hu) (Akz z)
 rw[Gb,A5o,C1.hn,C2.hn,A5b] at this
 exact this
theorem AnP{p:Nat}(hp:p<n*h):∃ P s u a b,p=P*h+s∧pr[P]?=some u∧one[s]?=some a∧other[s]?=some b:=by
 have h0:0<h:=C1.n1
 have hP:p / h<pr.length:=by rw[C.hn];exact A5K (by rw[A4J];exact hp)
 have hs:=A5e p h0
 have h1:p%h<one.length:=by rw[C1.hn];exact hs
 have h2:p%h<other.length:=by rw[C2.hn];exact hs
 exact⟨p / h,p%h,pr[p / h],one[p%h],other[p%h],by rw[A4J];exact(A5u _ _).symm,A3R hP,A3R h1,A3R h2⟩
theorem ApH{p p':Nat}{t:Nat}(h1:(trN pr one other)[p]?=some t)(h2:(trN pr one other)[p']?=some t):(fil pr one other)[p]?=(fil pr one other)[p']?:=by
 have l1:=(List.getElem?_eq_some_iff.mp h1).1
 have l2:=(List.getElem?_eq_some_iff.mp h2).1
 rw[Afy C C1 C2] at l1 l2
 obtain⟨P,s,u,a,b,rfl,hu,ha,hb⟩:=AnP C C1 C2 l1
 obtain⟨P',s',u',a',b',rfl,hu',ha',hb'⟩:=AnP C C1 C2 l2
 rw[AuY C C1 C2 hu ha hb] at h1
 rw[AuY C C1 C2 hu' ha' hb'] at h2
 have zz:(a,b)∈one.zip other:=A3Y (List.getElem?_zip_eq_some.mpr ⟨ha,hb⟩)
 have zz':(a',b')∈one.zip other:=A3Y (List.getElem?_zip_eq_some.mpr ⟨ha',hb'⟩)
 have:=AuV (Aem zz) (Aem zz') ((Option.some.inj h1).trans (Option.some.inj h2).symm)
 have e1:=Afq (A3Y hu) (A3Y hu') this.1
 have e2:=Afq zz zz' this.2
 rw[Afu C C1 C2 hu ha hb,Afu C C1 C2 hu' ha' hb',e1]
 cases e2
 rfl
theorem ApI{e e':Nat}{t:Nat}(h1:(thN pr one other m w)[e]?=some t)(h2:(thN pr one other m w)[e']?=some t){r:List Nat}(hr:r∈fil pr one other):r[e]?=r[e']?:=by
 have w0:0<w:=C1.m1
 have l1:=(List.getElem?_eq_some_iff.mp h1).1
 have l2:=(List.getElem?_eq_some_iff.mp h2).1
 rw[YZ] at l1 l2
 obtain⟨p,hp⟩:=A5n hr
 have lp:=(List.getElem?_eq_some_iff.mp hp).1
 rw[Afs C C1 C2] at lp
 obtain⟨P,s,u,a,b,rfl,hu,ha,hb⟩:=AnP C C1 C2 lp
 rw[Afu C C1 C2 hu ha hb] at hp
 have hp:=Option.some.inj hp
 have d1:e=e / w*w+e%w:=by rw[A4J];exact(A5u _ _).symm
 have d2:e'=e' / w*w+e'%w:=by rw[A4J];exact(A5u _ _).symm
 have E1:e / w<m:=A5K (by rw[A4J];exact l1)
 have E2:e' / w<m:=A5K (by rw[A4J];exact l2)
 have k1:=A5e e w0
 have k2:=A5e e' w0
 rw[d1,AuX E1 k1] at h1
 rw[d2,AuX E2 k2] at h2
 have c1:(col one (e%w),col other (e%w))∈R1 one other w:=A3Y (Afw k1)
 have c2:(col one (e'%w),col other (e'%w))∈R1 one other w:=A3Y (Afw k2)
 have:=AuV (Aem c1) (Aem c2) ((Option.some.inj h1).trans (Option.some.inj h2).symm)
 have q1:=Afq (A3Y (YX E1)) (A3Y (YX E2)) this.1
 have q2:=Afq c1 c2 this.2
 have lu:=C.hm u (A3Y hu)
 have a1:u[e / w]?=some (u.getD (e / w) 0):=by rw[A4c,A3R (by omega)];rfl
 have a2:u[e' / w]?=some (u.getD (e' / w) 0):=by rw[A4c,A3R (by omega)];rfl
 have g1:=AaR hu (e / w)
 have g2:=AaR hu (e' / w)
 rw[q1,g2] at g1
 have g1:=Option.some.inj g1
 have ma:=A3Y ha
 have mb:=A3Y hb
 have o1:=AaR ha (e%w)
 have o2:=AaR ha (e'%w)
 have r1:=AaR hb (e%w)
 have r2:=AaR hb (e'%w)
 rw[(Prod.mk.inj q2).1,o2] at o1
 rw[(Prod.mk.inj q2).2,r2] at r1
 have o1:=Option.some.inj o1
 have r1:=Option.some.inj r1
 have f1:=Afv C C1 C2 ma mb a1 k1
 have f2:=Afv C C1 C2 ma mb a2 k2
 rw[← hp]
 conv=>lhs;rw[d1,f1]
 conv=>rhs;rw[d2,f2]
 rw[← g1]
 have la:=C1.hm a ma
 have lb:=C2.hm b mb
 split
 ·rw[A3R (by omega),A3R (by omega)]
  rw[A4c,A4c,A3R (by omega),A3R (by omega)] at o1
  exact congrArg some o1.symm
 ·rw[A3R (by omega),A3R (by omega)]
  rw[A4c,A4c,A3R (by omega),A3R (by omega)] at r1
  exact congrArg some r1.symm
theorem weave(hm:m*w≤40)(hn:n*h≤40){tss:List (List Int)}(hl:tss.length=(unl pr).length*(unl (one.zip other)).length)
  (ht:∀(t:Nat) (ks:List Int),tss[t]?=some ks→∃(p:Nat) (r:List Nat),(trN pr one other)[p]?=some t∧(fil pr one other)[p]?=some r∧∀ z:Int,z∈ks↔∃ e:Nat,(nts (thN pr one other m w))[e]?=some z∧r[e]?=some 35) :
  wv (nts (thN pr one other m w)) tss (nts (trN pr one other))=fil pr one other:=by
 have FC:=Art C C1 C2 hm hn
 unfold wv
 refine A4G fun p=>?_
 rw[A4e]
 by_cases hp:p<n*h
 case neg =>
  rw[A4o (by rw[Ge,Afy C C1 C2];omega),A4o (by rw[Afs C C1 C2];omega)]
  rfl
 have lp:p<(trN pr one other).length:=by rw[Afy C C1 C2];exact hp
 have hv:=A3R lp
 generalize (trN pr one other)[p]=v at hv
 rw[Ah9 hv]
 have vb:v<tss.length:=by rw[hl];exact AnN (A3Y hv)
 obtain⟨p0,r,h0,hr,hz⟩:=ht v _ (A3R vb)
 have e1:tss.getD (v:Int).toNat []=tss[v]:=by
  rw[A4m,A4c,A3R vb]
  rfl
 show some (shd _ (tss.getD (v:Int).toNat []))=_
 rw[e1,ApH C C1 C2 hv h0,hr]
 have mr:=A3Y hr
 have lr:=FC.hm r mr
 congr 1
 unfold shd
 refine A4G fun e=>?_
 rw[A4e]
 by_cases he:e<m*w
 case neg =>
  rw[A4o (by rw[Ge,YZ];omega),A4o (by omega)]
  rfl
 have le:e<(thN pr one other m w).length:=by rw[YZ];exact he
 have hs:=A3R le
 generalize (thN pr one other m w)[e]=x at hs
 rw[Ah9 hs]
 have hc:=A3R (show e<r.length by omega)
 have sg:=FC.sg r mr _ (A4j (show e<r.length by omega))
 rw[hc]
 show some (if ((x:Nat):Int)∈tss[v] then 35 else 46)=some r[e]
 congr 1
 by_cases q:r[e]=35
 ·rw[if_pos,q]
  exact(hz _).mpr ⟨e,Ah9 hs,by rw[hc,q]⟩
 ·rw[if_neg]
  ·rcases sg with g | g
   ·exact absurd g q
   ·exact g.symm
  ·intro z
   obtain⟨e',g1,g2⟩:=(hz _).mp z
   obtain⟨y,hy,ey⟩:=AnO g1
   have:y=x:=by omega
   subst this
   have:=ApI C C1 C2 hs hy mr
   rw[g2,hc] at this
   exact q (Option.some.inj this)
end
section
variable {α β:Type} [DecidableEq α] [DecidableEq β]
theorem Aru(f:α→β):∀ l:List α,(unl (l.map f)).length≤(unl l).length:=by
 refine snoc_ind (A3U _) fun l x ih=>?_
 rw[A3W,A3X,A4T,Ib,Ib]
 by_cases c:x∈unl l
 ·have:f x∈unl (l.map f):=(MN _ _).mpr (List.mem_map.mpr ⟨x,(MN x l).mp c,rfl⟩)
  rw[if_pos c,if_pos this]
  exact ih
 ·rw[if_neg c]
  split
  ·rw[A3T];omega
  ·rw[A3T,A3T];simp;exact ih
theorem AnQ{l:List α}{i j:Nat}(h:(num l)[i]?=some j):l[i]?=(unl l)[j]?∧j<(unl l).length:=by
 have hi:i<l.length:=by have:=(List.getElem?_eq_some_iff.mp h).1;rwa [Gb] at this
 have hx:=A3R hi
 have:=Akz hx
 rw[h] at this
 have e:=Option.some.inj this
 have hm:l[i]∈unl l:=(MN _ _).mpr (A4j hi)
 rw[hx,e]
 exact⟨(Anl hm).symm,AiJ hm⟩
end
theorem A0u{th:List Int}{tss:List (List Int)}{tr:List Int}(F:Ft th tss tr):Cl (wv th tss tr) th.length tr.length:=by
 refine⟨AuT _ _ _,fun t ht=>?_,fun t ht c hc=>?_,F.m1,F.m40,F.n1,F.n40⟩
 ·unfold wv at ht
  obtain⟨v,_,rfl⟩:=List.mem_map.mp ht
  exact AwL _ _
 ·unfold wv at ht
  obtain⟨v,_,rfl⟩:=List.mem_map.mp ht
  unfold shd at hc
  obtain⟨s,_,rfl⟩:=List.mem_map.mp hc
  split
  ·exact .inl rfl
  ·exact .inr rfl
theorem ApJ{cl:List (List Nat)}{m n:Nat}(C:Cl cl m n){tss:List (List Int)}(hl:tss.length=(unl cl).length)
  (ht:∀(j:Nat) (u:List Nat) (ks:List Int),(unl cl)[j]?=some u→tss[j]?=some ks→∀ z:Int,z∈ks↔∃ e:Nat,(nts (num (cols cl m)))[e]?=some z∧u[e]?=some 35) :
  wv (nts (num (cols cl m))) tss (nts (num cl))=cl:=by
 unfold wv
 refine A4G fun p=>?_
 rw[A4e]
 by_cases hp:p<cl.length
 case neg =>
  rw[A4o (by rw[Ge,Gb];omega),A4o (by omega)]
  rfl
 have lp:p<(num cl).length:=by rw[Gb];exact hp
 have hv:=A3R lp
 generalize (num cl)[p]=v at hv
 obtain⟨hu,vb'⟩:=AnQ hv
 have vb:v<tss.length:=by rw[hl];exact vb'
 have hcl:=A3R hp
 generalize cl[p]=u at hcl
 rw[Ah9 hv]
 have e1:tss.getD (v:Int).toNat []=tss[v]:=by
  rw[A4m,A4c,A3R vb]
  rfl
 show some (shd _ (tss.getD (v:Int).toNat []))=_
 rw[e1,hcl]
 rw[hcl] at hu
 have hz:=ht v u _ hu.symm (A3R vb)
 have mu:=A3Y hcl
 have lu:=C.hm u mu
 congr 1
 unfold shd
 refine A4G fun e=>?_
 rw[A4e]
 by_cases he:e<m
 case neg =>
  rw[A4o (by rw[Ge,Gb,KQ];omega),A4o (by omega)]
  rfl
 have le:e<(num (cols cl m)).length:=by rw[Gb,KQ];exact he
 have hs:=A3R le
 generalize (num (cols cl m))[e]=x at hs
 rw[Ah9 hs]
 have hc:=A3R (show e<u.length by omega)
 have sg:=C.sg u mu _ (A4j (show e<u.length by omega))
 rw[hc]
 show some (if ((x:Nat):Int)∈tss[v] then 35 else 46)=some u[e]
 congr 1
 by_cases q:u[e]=35
 ·rw[if_pos,q]
  exact(hz _).mpr ⟨e,Ah9 hs,by rw[hc,q]⟩
 ·have q2:u[e]=46:=by
   rcases sg with z | z
   ·exact absurd z q
   ·exact z
  rw[if_neg,q2]
  intro h
  obtain⟨e',h1,h2⟩:=(hz _).mp h
  obtain⟨y,hy,ey⟩:=AnO h1
  have yx:y=x:=by omega
  rw[yx] at hy
  have le':e'<m:=by have:=(List.getElem?_eq_some_iff.mp hy).1;rwa [Gb,KQ] at this
  have k1:=(AnQ hs).1
  have k2:=(AnQ hy).1
  rw[YX he] at k1
  rw[YX le',← k1] at k2
  have k3:=Option.some.inj k2
  have c1:=AaR hcl e
  have c2:=AaR hcl e'
  rw[k3,c1] at c2
  have c3:=Option.some.inj c2
  rw[A4c,A4c,h2,hc] at c3
  exact q c3
def tile(cl:List (List Nat))(w h a b:Nat):List (List Nat):=((cl.drop (b*h)).take h).map fun t=>(t.drop (a*w)).take w
def cdiv(n h:Nat):Nat:=(n-1) / h+1
theorem AtA{n h:Nat}(h1:1≤h)(n1:1≤n)(f:n%h=0):cdiv n h=n / h:=by
 unfold cdiv
 have e:=A5u n h
 rw[f,A5J] at e
 have q1:1≤n / h:=Nat.one_le_iff_ne_zero.mpr fun z=>by rw[z] at e;omega
 obtain⟨k,hk⟩:∃ k,n / h=k+1:=⟨n / h-1,by omega⟩
 rw[hk,Nat.mul_add,Nat.mul_one] at e
 rw[hk]
 have:(n-1) / h=k:=by
  rw[show n-1=h*k+(h-1) by omega,Nat.mul_add_div (by omega),A6m (by omega),A5J]
 rw[this]
theorem cdiv_le{n h:Nat}(n1:1≤n):cdiv n h≤n:=by
 unfold cdiv
 have:=Nat.div_le_self (n-1) h
 omega
def Nei (cl one other:List (List Nat))(w h a b:Nat):Prop:=tile cl w h a b≠one∧tile cl w h a b≠other
structure Pf (cl one other:List (List Nat)) (m n w h:Nat) (pf:List (List Nat)):Prop where
 hn:pf.length=cdiv n h
 hm:∀ t∈pf,t.length=cdiv m w
 at':∀ b a,b<cdiv n h→a<cdiv m w→((pf.getD b []).getD a 0=35∧tile cl w h a b=one)∨((pf.getD b []).getD a 0=46∧tile cl w h a b≠one∧tile cl w h a b=other)
end Mine
set_option maxHeartbeats 4000000
namespace Mine
open PySem L2
def top (i:Nat):Stmt:=PySem.Challenge.pw_heddle_k55_whole_blocks.main.body.getD i (.Pass ⟨0,0,0,0⟩)
abbrev Hz:Stmt:=top 9
theorem ApK:Av ["cloth"] ["cloth"] (Ab Hz):=⟨rfl,rfl,rfl,by decide +kernel,rfl,by decide +kernel,by decide +kernel⟩
abbrev Ie:Stmt:=top 10
theorem Arv:Av ["cloth"] ["cloth"] (Ab Ie):=⟨rfl,rfl,rfl,by decide +kernel,rfl,by decide +kernel,by decide +kernel⟩
abbrev Ef:Stmt:=top 11
theorem Adi:Av ["cloth", "size"] ["cloth"] (Ab Ef):=⟨rfl,rfl,rfl,by decide +kernel,rfl,by decide +kernel,by decide +kernel⟩
abbrev Cd:Stmt:=top 12
theorem MP:Av ["texts", "least", "signs", "ends", "text"] ["texts", "least", "signs"] (Ab Cd):=⟨rfl,rfl,rfl,by decide +kernel,rfl,by decide +kernel,by decide +kernel⟩
abbrev Fd:Stmt:=top 13
theorem Adj:Av ["text", "ends", "signs", "sign"] ["text", "ends", "signs"] (Ab Fd):=⟨rfl,rfl,rfl,by decide +kernel,rfl,by decide +kernel,by decide +kernel⟩
abbrev FP:Stmt:=top 14
theorem AnR:Av ["cloth", "end"] ["cloth", "end"] (Ab FP):=⟨rfl,rfl,rfl,by decide +kernel,rfl,by decide +kernel,by decide +kernel⟩
abbrev Cw:Stmt:=top 15
theorem Ajh:Av ["signs"] ["signs"] (Ab Cw):=⟨rfl,rfl,rfl,by decide +kernel,rfl,by decide +kernel,by decide +kernel⟩
abbrev MT:Stmt:=top 19
theorem AuZ:Av ["draft"] ["draft"] (Ab MT):=⟨rfl,rfl,rfl,by decide +kernel,rfl,by decide +kernel,by decide +kernel⟩
abbrev BK:Stmt:=top 20
theorem GK:Av ["cloth", "size", "ends", "unlike_ends", "unlike_picks", "threading", "treading"] ["cloth"] (Ab BK):=⟨rfl,rfl,rfl,by decide +kernel,rfl,by decide +kernel,by decide +kernel⟩
abbrev CG:Stmt:=top 21
theorem Ot:Av ["threading", "ties", "shaft", "tie"] ["threading", "ties"] (Ab CG):=⟨rfl,rfl,rfl,by decide +kernel,rfl,by decide +kernel,by decide +kernel⟩
abbrev DQ:Stmt:=top 22
theorem Ak1:Av ["count"] ["count"] (Ab DQ):=⟨rfl,rfl,rfl,by decide +kernel,rfl,by decide +kernel,by decide +kernel⟩
abbrev DR:Stmt:=top 23
theorem Ak2:Av ["shaft"] ["shaft"] (Ab DR):=⟨rfl,rfl,rfl,by decide +kernel,rfl,by decide +kernel,by decide +kernel⟩
abbrev Gq:Stmt:=top 24
theorem Afz:Av ["tie", "k"] ["tie"] (Ab Gq):=⟨rfl,rfl,rfl,by decide +kernel,rfl,by decide +kernel,by decide +kernel⟩
abbrev Ce:Stmt:=top 25
theorem U3:Av ["treading", "treadles", "treadle"] ["treading", "treadles"] (Ab Ce):=⟨rfl,rfl,rfl,by decide +kernel,rfl,by decide +kernel,by decide +kernel⟩
abbrev FQ:Stmt:=top 26
theorem AnS:Av ["threading", "lifted"] ["threading", "lifted"] (Ab FQ):=⟨rfl,rfl,rfl,by decide +kernel,rfl,by decide +kernel,by decide +kernel⟩
abbrev Dr:Stmt:=top 27
theorem Ak3:Av ["threading", "text"] ["threading", "text"] (Ab Dr):=⟨rfl,rfl,rfl,by decide +kernel,rfl,by decide +kernel,by decide +kernel⟩
abbrev KR:Stmt:=top 28
theorem Th:Av ["things", "found", "thing"] ["things"] (Ab KR):=⟨rfl,rfl,rfl,by decide +kernel,rfl,by decide +kernel,by decide +kernel⟩
abbrev BW:Stmt:=top 30
theorem Et:Av ["profile", "one", "other", "size", "unit", "cloth", "text", "of_one", "of_other"] ["profile", "one", "other"] (Ab BW):=⟨rfl,rfl,rfl,by decide +kernel,rfl,by decide +kernel,by decide +kernel⟩
abbrev CJ:Stmt:=top 31
theorem GP:Av ["profile", "one", "other", "cloth", "least", "ends", "threading", "treading", "ties"] ["profile", "one", "other"] (Ab CJ):=⟨rfl,rfl,rfl,by decide +kernel,rfl,by decide +kernel,by decide +kernel⟩
abbrev Eg:Stmt:=top 32
theorem HB:Av ["cloth", "one", "other", "size", "unit", "profile", "first", "picks", "signs"] ["cloth", "one", "other"] (Ab Eg):=⟨rfl,rfl,rfl,by decide +kernel,rfl,by decide +kernel,by decide +kernel⟩
abbrev Gr:Stmt:=top 33
theorem Af0:Av ["one", "other", "size"] ["one", "other"] (Ab Gr):=⟨rfl,rfl,rfl,by decide +kernel,rfl,by decide +kernel,by decide +kernel⟩
abbrev FW:Stmt:=top 34
theorem R6:Av ["blocks", "strands", "found", "numbers", "block"] ["blocks", "strands"] (Ab FW):=⟨rfl,rfl,rfl,by decide +kernel,rfl,by decide +kernel,by decide +kernel⟩
abbrev Eh:Stmt:=top 35
theorem Adk:Av ["picks", "left", "one", "other", "block"] ["picks", "left", "one", "other"] (Ab Eh):=⟨rfl,rfl,rfl,by decide +kernel,rfl,by decide +kernel,by decide +kernel⟩
abbrev Gs:Stmt:=top 39
theorem AnT:Av ["figures"] ["figures"] (Ab Gs):=⟨rfl,rfl,rfl,by decide +kernel,rfl,by decide +kernel,by decide +kernel⟩
abbrev HD:Stmt:=top 45
theorem AiK:Av ["text", "row_items"] ["text"] (Ab HD):=⟨rfl,rfl,rfl,by decide +kernel,rfl,by decide +kernel,by decide +kernel⟩
abbrev Nb:Stmt:=top 46
theorem Ava:Av ["row"] ["row"] (Ab Nb):=⟨rfl,rfl,rfl,by decide +kernel,rfl,by decide +kernel,by decide +kernel⟩
abbrev Ei:Stmt:=top 47
theorem Aml:Av ["row_items"] ["row_items"] (Ab Ei):=⟨rfl,rfl,rfl,by decide +kernel,rfl,by decide +kernel,by decide +kernel⟩
abbrev DW:Stmt:=top 48
theorem Tn:Av ["row_items", "written", "item"] ["row_items"] (Ab DW):=⟨rfl,rfl,rfl,by decide +kernel,rfl,by decide +kernel,by decide +kernel⟩
abbrev CK:Stmt:=top 49
theorem AhA:Av ["start", "stop"] ["start", "stop"] (Ab CK):=⟨rfl,rfl,rfl,by decide +kernel,rfl,by decide +kernel,by decide +kernel⟩
abbrev HF:Stmt:=top 50
theorem AaS:Av ["text", "reader", "row_items"] ["text"] (Ab HF):=⟨rfl,rfl,rfl,by decide +kernel,rfl,by decide +kernel,by decide +kernel⟩
abbrev Fe:Stmt:=top 51
theorem Adl:Av ["reader", "depth", "row_items"] ["reader", "depth"] (Ab Fe):=⟨rfl,rfl,rfl,by decide +kernel,rfl,by decide +kernel,by decide +kernel⟩
abbrev Gu:Stmt:=top 52
theorem Af1:Av ["reader", "depth", "first"] ["reader", "depth"] (Ab Gu):=⟨rfl,rfl,rfl,by decide +kernel,rfl,by decide +kernel,by decide +kernel⟩
abbrev Ff:Stmt:=top 53
theorem WN:Av ["reader", "count", "depth", "inner"] ["reader", "count", "depth"] (Ab Ff):=⟨rfl,rfl,rfl,by decide +kernel,rfl,by decide +kernel,by decide +kernel⟩
abbrev Gv:Stmt:=top 54
theorem Af2:Av ["reader", "first", "stops"] ["reader", "first"] (Ab Gv):=⟨rfl,rfl,rfl,by decide +kernel,rfl,by decide +kernel,by decide +kernel⟩
abbrev DX:Stmt:=top 55
theorem AaT:Av ["reader", "number"] ["reader"] (Ab DX):=⟨rfl,rfl,rfl,by decide +kernel,rfl,by decide +kernel,by decide +kernel⟩
abbrev KY:Stmt:=top 56
theorem AhB:Av ["row", "paths", "number"] ["row"] (Ab KY):=⟨rfl,rfl,rfl,by decide +kernel,rfl,by decide +kernel,by decide +kernel⟩
abbrev Cy:Stmt:=top 57
theorem Aji:Av ["path"] ["path"] (Ab Cy):=⟨rfl,rfl,rfl,by decide +kernel,rfl,by decide +kernel,by decide +kernel⟩
abbrev Ju:Stmt:=top 58
theorem Arw:Av ["path", "k"] ["path", "k"] (Ab Ju):=⟨rfl,rfl,rfl,by decide +kernel,rfl,by decide +kernel,by decide +kernel⟩
abbrev BX:Stmt:=top 62
theorem Yc:Av ["draft", "ties"] ["draft"] (Ab BX):=⟨rfl,rfl,rfl,by decide +kernel,rfl,by decide +kernel,by decide +kernel⟩
abbrev Ej:Stmt:=top 63
theorem Px:Av ["text", "parts", "threading", "ties"] ["text"] (Ab Ej):=⟨rfl,rfl,rfl,by decide +kernel,rfl,by decide +kernel,by decide +kernel⟩
abbrev DY:Stmt:=top 65
theorem GQ:Av ["script", "many", "mixed", "found", "k"] ["script", "many"] (Ab DY):=⟨rfl,rfl,rfl,by decide +kernel,rfl,by decide +kernel,by decide +kernel⟩
abbrev Fg:Stmt:=top 66
theorem KZ:Av ["number", "found", "shaft"] ["number"] (Ab Fg):=⟨rfl,rfl,rfl,by decide +kernel,rfl,by decide +kernel,by decide +kernel⟩
abbrev Cz:Stmt:=top 67
theorem BZ:Av ["numbers", "ends", "picks", "high", "shafts", "cloth", "number", "lifted", "text", "shaft"] ["numbers", "ends", "picks"] (Ab Cz):=⟨rfl,rfl,rfl,by decide +kernel,rfl,by decide +kernel,by decide +kernel⟩
abbrev Cg:Stmt:=top 68
theorem U4:Av ["found", "due", "k"] ["found", "due"] (Ab Cg):=⟨rfl,rfl,rfl,by decide +kernel,rfl,by decide +kernel,by decide +kernel⟩
abbrev Ig:Stmt:=top 69
theorem Arx:Av ["numbers"] ["numbers"] (Ab Ig):=⟨rfl,rfl,rfl,by decide +kernel,rfl,by decide +kernel,by decide +kernel⟩
abbrev Ci:Stmt:=top 70
theorem JP:Av ["numbers", "ends", "picks", "treadles", "ties", "threading", "treading"] ["numbers", "ends", "picks"] (Ab Ci):=⟨rfl,rfl,rfl,by decide +kernel,rfl,by decide +kernel,by decide +kernel⟩
abbrev Gw:Stmt:=top 71
theorem Za:Av ["row", "kinds", "number"] ["row"] (Ab Gw):=⟨rfl,rfl,rfl,by decide +kernel,rfl,by decide +kernel,by decide +kernel⟩
abbrev Adm:Stmt:=top 72
theorem JQ:Av ["script", "numbers", "ends", "picks", "wide", "high", "profile", "one", "other", "cloth", "draft", "due", "turned", "least"] ["script"] (Ab Adm):=⟨rfl,rfl,rfl,by decide +kernel,rfl,by decide +kernel,by decide +kernel⟩
abbrev By:Stmt:=(Hb (top 1)).getD 0 (.Pass ⟨0,0,0,0⟩)
abbrev Ek:Stmt:=(Hb (top 2)).getD 0 (.Pass ⟨0,0,0,0⟩)
abbrev Cr:Stmt:=(Hb (top 3)).getD 0 (.Pass ⟨0,0,0,0⟩)
abbrev Dg:Stmt:=(Hb (top 4)).getD 0 (.Pass ⟨0,0,0,0⟩)
abbrev Dh:Stmt:=(Hb (top 5)).getD 0 (.Pass ⟨0,0,0,0⟩)
abbrev Di:Stmt:=(Hb (top 6)).getD 0 (.Pass ⟨0,0,0,0⟩)
abbrev BJ:Stmt:=(Hb (top 18)).getD 0 (.Pass ⟨0,0,0,0⟩)
theorem Af3:Av ["self", "threading", "ties", "treading"] ["self", "threading", "ties", "treading"] (Ab BJ):=⟨rfl,rfl,rfl,by decide +kernel,rfl,by decide +kernel,by decide +kernel⟩
abbrev BL:Stmt:=(Hb (top 38)).getD 0 (.Pass ⟨0,0,0,0⟩)
theorem Aen:Av ["self", "text"] ["self", "text"] (Ab BL):=⟨rfl,rfl,rfl,by decide +kernel,rfl,by decide +kernel,by decide +kernel⟩
abbrev Dt:Stmt:=(Hb (top 38)).getD 1 (.Pass ⟨0,0,0,0⟩)
theorem Ajj:Av ["self"] ["self"] (Ab Dt):=⟨rfl,rfl,rfl,by decide +kernel,rfl,by decide +kernel,by decide +kernel⟩
abbrev Ea:Stmt:=(Hb (top 38)).getD 2 (.Pass ⟨0,0,0,0⟩)
theorem AaU:Av ["self", "wanted", "behind"] ["self", "wanted"] (Ab Ea):=⟨rfl,rfl,rfl,by decide +kernel,rfl,by decide +kernel,by decide +kernel⟩
abbrev Cj:Stmt:=(Hb (top 38)).getD 3 (.Pass ⟨0,0,0,0⟩)
theorem U5:Av ["self", "signs", "begin"] ["self", "signs"] (Ab Cj):=⟨rfl,rfl,rfl,by decide +kernel,rfl,by decide +kernel,by decide +kernel⟩
abbrev CP:Stmt:=(Hb (top 38)).getD 4 (.Pass ⟨0,0,0,0⟩)
theorem AhC:Av ["self"] ["self"] (Ab CP):=⟨rfl,rfl,rfl,by decide +kernel,rfl,by decide +kernel,by decide +kernel⟩
abbrev CQ:Stmt:=(Hb (top 43)).getD 0 (.Pass ⟨0,0,0,0⟩)
theorem AhD:Av ["self", "stops"] ["self", "stops"] (Ab CQ):=⟨rfl,rfl,rfl,by decide +kernel,rfl,by decide +kernel,by decide +kernel⟩
abbrev Gx:Stmt:=(Hb (top 43)).getD 1 (.Pass ⟨0,0,0,0⟩)
theorem R7:Av ["self", "total", "k"] ["self"] (Ab Gx):=⟨rfl,rfl,rfl,by decide +kernel,rfl,by decide +kernel,by decide +kernel⟩
abbrev Du:Stmt:=(Hb (top 43)).getD 2 (.Pass ⟨0,0,0,0⟩)
theorem QX:Av ["self", "written", "stop"] ["self"] (Ab Du):=⟨rfl,rfl,rfl,by decide +kernel,rfl,by decide +kernel,by decide +kernel⟩
abbrev Ck:Stmt:=(Hb (top 44)).getD 0 (.Pass ⟨0,0,0,0⟩)
theorem Af4:Av ["self", "count", "inner"] ["self", "count", "inner"] (Ab Ck):=⟨rfl,rfl,rfl,by decide +kernel,rfl,by decide +kernel,by decide +kernel⟩
abbrev Fi:Stmt:=(Hb (top 44)).getD 1 (.Pass ⟨0,0,0,0⟩)
theorem Adn:Av ["self"] ["self"] (Ab Fi):=⟨rfl,rfl,rfl,by decide +kernel,rfl,by decide +kernel,by decide +kernel⟩
abbrev CT:Stmt:=(Hb (top 44)).getD 2 (.Pass ⟨0,0,0,0⟩)
theorem Yd:Av ["self"] ["self"] (Ab CT):=⟨rfl,rfl,rfl,by decide +kernel,rfl,by decide +kernel,by decide +kernel⟩
set_option genInjectivity false in
structure Adr where
 Cv:Addr
 An:Addr
 Eu:Addr
 Bv:Addr
 Bu:Addr
 Ih:FuncData
 BP:Addr
 Nf:FuncData
 Dv:Addr
 Ng:FuncData
 CV:Addr
 Jv:FuncData
 Dj:Addr
 Ou:FuncData
 Dy:Addr
 QZ:FuncData
 CW:Addr
 Ra:FuncData
 Hi:Addr
 AaV:FuncData
 El:Addr
 Tp:FuncData
 Cm:Addr
 Ov:FuncData
 Fj:Addr
 R8:FuncData
 CZ:Addr
 Lg:FuncData
 Ew:Addr
 JR:FuncData
 M3:Addr
 AhE:FuncData
 Hj:Addr
 Zb:FuncData
 DG:Addr
 Ow:FuncData
 Hk:Addr
 Zc:FuncData
 Gy:Addr
 QD:FuncData
 Em:Addr
 Nh:FuncData
 U6:Addr
 AnU:FuncData
 Fl:Addr
 Py:FuncData
 Eo:Addr
 Rb:FuncData
 Fo:Addr
 Pz:FuncData
 Fp:Addr
 P0:FuncData
 Ip:Addr
 AaW:FuncData
 DK:Addr
 Ox:FuncData
 Ir:Addr
 AaX:FuncData
 Fq:Addr
 PB:FuncData
 La:Addr
 AaY:FuncData
 Dz:Addr
 Lh:FuncData
 Gz:Addr
 WQ:FuncData
 Hl:Addr
 Zd:FuncData
 Hm:Addr
 U7:FuncData
 Iu:Addr
 AaZ:FuncData
 Hn:Addr
 Ze:FuncData
 Iv:Addr
 Aba:FuncData
 IW:Addr
 Zf:FuncData
 PJ:Addr
 Af5:FuncData
 Fv:Addr
 Ni:FuncData
 Eb:Addr
 Lb:FuncData
 Ep:Addr
 Rc:FuncData
 JS:Addr
 Aeo:FuncData
 Fw:Addr
 Nj:FuncData
 Iw:Addr
 Abb:FuncData
 Gm:Addr
 R9:FuncData
 Iz:Addr
 Abd:FuncData
 Fy:Addr
 PL:FuncData
 QF:Addr
 Ak4:FuncData
 FZ:Addr
 Tq:FuncData
 M4:Addr
 AhF:FuncData
 Er:Addr
 Rf:FuncData
 Ho:Addr
 Zg:FuncData
 G3:Addr
 WR:FuncData
 Gn:Addr
 RB:FuncData
 Ga:Addr
 Tr:FuncData
 DN:Addr
 Oz:FuncData
 M5:Addr
 AhG:FuncData
 G4:Addr
 WT:FuncData
 IK:Addr
 Abe:FuncData
 Ak5:Addr
 Ax8:FuncData
 Al:Addr
 Dl:Addr
 Ada:FuncData
 Bp:Addr
 GR:Addr
 Ak6:FuncData
 Ar:Addr
 En:Addr
 Af6:FuncData
 Ay:Addr
 Ex:Addr
 AhH:FuncData
 Az:Addr
 Ey:Addr
 AhI:FuncData
 Ba:Addr
 Ez:Addr
 AhJ:FuncData
structure Txt (K:PySem.W.Frag) (mg:Str→Option Value) (t:Adr):Prop where
 measured:Df K mg "measured" Hz ["cloth"] t.Ew t.JR
 Kh:Df K mg "back_of" Ie ["cloth"] t.M3 t.AhE
 EY:Df K mg "quarter_of" Ef ["cloth"] t.Hj t.Zb
 Nk:Df K mg "measured_texts" Cd ["texts", "least", "signs"] t.DG t.Ow
 Zh:Df K mg "check_pick" Fd ["text", "ends", "signs"] t.Hk t.Zc
 G8:Df K mg "end_signs" FP ["cloth", "end"] t.Gy t.QD
 Ja:Df K mg "turned_signs" Cw ["signs"] t.Em t.Nh
 Ye:Df K mg "woven" MT ["draft"] t.U6 t.AnU
 JT:Df K mg "least_draft" BK ["cloth"] t.Fl t.Py
 PN:Df K mg "check_setting" CG ["threading", "ties"] t.Eo t.Rb
 G5:Df K mg "check_count" DQ ["count"] t.Fo t.Pz
 JV:Df K mg "check_shaft" DR ["shaft"] t.Fp t.P0
 AcK:Df K mg "check_tie" Gq ["tie"] t.Ip t.AaW
 Nm:Df K mg "check_treading" Ce ["treading", "treadles"] t.DK t.Ox
 AcL:Df K mg "shed_over" FQ ["threading", "lifted"] t.Ir t.AaX
 JW:Df K mg "shafts_over" Dr ["threading", "text"] t.Fq t.PB
 unlike:Df K mg "unlike" KR ["things"] t.La t.AaY
 Cp:Df K mg "filled_blocks" BW ["profile", "one", "other"] t.Dz t.Lh
 U8:Df K mg "block_draft" CJ ["profile", "one", "other"] t.Gz t.WQ
 Zi:Df K mg "profile_of" Eg ["cloth", "one", "other"] t.Hl t.Zd
 O1:Df K mg "unit_size" Gr ["one", "other"] t.Hm t.U7
 O2:Df K mg "blockwise" FW ["blocks", "strands"] t.Iu t.AaZ
 Zj:Df K mg "block_sign" Eh ["picks", "left", "one", "other"] t.Hn t.Ze
 AcM:Df K mg "number_of" Gs ["figures"] t.Iv t.Aba
 Ld:Df K mg "unfolded" HD ["text"] t.IW t.Zf
 shown:Df K mg "shown" Nb ["row"] t.PJ t.Af5
 Mt:Df K mg "whole_size" Ei ["row_items"] t.Fv t.Ni
 JX:Df K mg "all_numbers" DW ["row_items"] t.Eb t.Lb
 PQ:Df K mg "steps_between" CK ["start", "stop"] t.Ep t.Rc
 Af7:Df K mg "read_row" HF ["text"] t.JS t.Aeo
 Mu:Df K mg "read_items" Fe ["reader", "depth"] t.Fw t.Nj
 O3:Df K mg "read_item" Gu ["reader", "depth"] t.Iw t.Abb
 Tt:Df K mg "read_times" Ff ["reader", "count", "depth"] t.Gm t.R9
 AcN:Df K mg "read_path" Gv ["reader", "first"] t.Iz t.Abd
 JZ:Df K mg "read_number" DX ["reader"] t.Fy t.PL
 parted:Df K mg "parted" KY ["row"] t.QF t.Ak4
 RC:Df K mg "written_path" Cy ["path"] t.FZ t.Tq
 AjH:Df K mg "is_stop" Ju ["path", "k"] t.M4 t.AhF
 PX:Df K mg "written_draft" BX ["draft"] t.Er t.Rf
 Mv:Df K mg "read_draft" Ej ["text"] t.Ho t.Zg
 U9:Df K mg "_law_numbers" DY ["script", "many"] t.G3 t.WR
 Mw:Df K mg "_law_subset" Fg ["number"] t.Gn t.RB
 Jb:Df K mg "_law_cloth_by" Cz ["numbers", "ends", "picks"] t.Ga t.Tr
 Bg:Df K mg "_law_texts_same" Cg ["found", "due"] t.DN t.Oz
 Qa:Df K mg "_law_row" Ig ["numbers"] t.M5 t.AhG
 UG:Df K mg "_law_writing" Ci ["numbers", "ends", "picks"] t.G4 t.WT
 G9:Df K mg "_law_kinds" Gw ["row"] t.IK t.Abe
 law:Df K mg "law" Adm ["script"] t.Ak5 t.Ax8
 Ax9:mg "abs" = none
 A0v:mg "int" = none
 Af8:mg "isinstance" = none
 HN:mg "len" = none
 Abf:mg "list" = none
 A0w:mg "max" = none
 Jc:mg "range" = none
 Ary:mg "reversed" = none
 A0x:mg "set" = none
 Avb:mg "sorted" = none
 Avc:mg "str" = none
 A0y:mg "sum" = none
 Avd:mg "zip" = none
 Ka:∃ tk,mg "MOST_STRANDS" = some (.int 40 tk)
 Amm:∃ tk,mg "MOST_SHAFTS" = some (.int 40 tk)
 AtB:∃ tk,mg "FIGURES" = some (.str "0123456789" tk)
 Ak7:∃ tk,mg "MOST_NUMBERS" = some (.int 400 tk)
 ApL:∃ tk,mg "MOST_DEEP" = some (.int 8 tk)
 Aao:∃ tk,mg "BETWEEN_PARTS" = some (.str " / " tk)
 Abg:∃ tk,mg "BETWEEN_TIES" = some (.str ", " tk)
 AwO:mg "WeaveError" = some (.ref t.Al)
 AwP:Exn K t.Al
 AwQ:Mf K "called" "WeaveError.called" By ["self"] t.Al t.Dl t.Ada
 Gf:PySem.W.mroIn K t.Al (.ref t.Al)=some true
 Jd:PySem.W.mroIn K t.Al (.ref t.Bp)=some false
 Hc:PySem.W.mroIn K t.Al (.ref t.Ar)=some false
 Hq:PySem.W.mroIn K t.Al (.ref t.Ay)=some false
 Hr:PySem.W.mroIn K t.Al (.ref t.Az)=some false
 Hs:PySem.W.mroIn K t.Al (.ref t.Ba)=some false
 A1l:mg "NoRow" = some (.ref t.Bp)
 A1m:Exn K t.Bp
 A1n:Mf K "called" "NoRow.called" Ek ["self"] t.Bp t.GR t.Ak6
 Je:PySem.W.mroIn K t.Bp (.ref t.Al)=some true
 Qc:PySem.W.mroIn K t.Bp (.ref t.Bp)=some true
 Kl:PySem.W.mroIn K t.Bp (.ref t.Ar)=some false
 Li:PySem.W.mroIn K t.Bp (.ref t.Ay)=some false
 Lj:PySem.W.mroIn K t.Bp (.ref t.Az)=some false
 Lk:PySem.W.mroIn K t.Bp (.ref t.Ba)=some false
 AyB:mg "TooLarge" = some (.ref t.Ar)
 AyC:Exn K t.Ar
 AyD:Mf K "called" "TooLarge.called" Cr ["self"] t.Ar t.En t.Af6
 Hd:PySem.W.mroIn K t.Ar (.ref t.Al)=some true
 Km:PySem.W.mroIn K t.Ar (.ref t.Bp)=some false
 HR:PySem.W.mroIn K t.Ar (.ref t.Ar)=some true
 Jf:PySem.W.mroIn K t.Ar (.ref t.Ay)=some false
 Jg:PySem.W.mroIn K t.Ar (.ref t.Az)=some false
 Jh:PySem.W.mroIn K t.Ar (.ref t.Ba)=some false
 Azt:mg "NoCloth" = some (.ref t.Ay)
 Azu:Exn K t.Ay
 Azv:Mf K "called" "NoCloth.called" Dg ["self"] t.Ay t.Ex t.AhH
 Ht:PySem.W.mroIn K t.Ay (.ref t.Al)=some true
 Ln:PySem.W.mroIn K t.Ay (.ref t.Bp)=some false
 Ji:PySem.W.mroIn K t.Ay (.ref t.Ar)=some false
 Jy:PySem.W.mroIn K t.Ay (.ref t.Ay)=some true
 Jz:PySem.W.mroIn K t.Ay (.ref t.Az)=some false
 J0:PySem.W.mroIn K t.Ay (.ref t.Ba)=some false
 Azw:mg "NoDraft" = some (.ref t.Az)
 Azx:Exn K t.Az
 Azy:Mf K "called" "NoDraft.called" Dh ["self"] t.Az t.Ey t.AhI
 Hu:PySem.W.mroIn K t.Az (.ref t.Al)=some true
 Lp:PySem.W.mroIn K t.Az (.ref t.Bp)=some false
 Jj:PySem.W.mroIn K t.Az (.ref t.Ar)=some false
 J1:PySem.W.mroIn K t.Az (.ref t.Ay)=some false
 J2:PySem.W.mroIn K t.Az (.ref t.Az)=some true
 J3:PySem.W.mroIn K t.Az (.ref t.Ba)=some false
 Azz:mg "NoBlock" = some (.ref t.Ba)
 Az0:Exn K t.Ba
 Az1:Mf K "called" "NoBlock.called" Di ["self"] t.Ba t.Ez t.AhJ
 Hv:PySem.W.mroIn K t.Ba (.ref t.Al)=some true
 Lq:PySem.W.mroIn K t.Ba (.ref t.Bp)=some false
 Jk:PySem.W.mroIn K t.Ba (.ref t.Ar)=some false
 J4:PySem.W.mroIn K t.Ba (.ref t.Ay)=some false
 J5:PySem.W.mroIn K t.Ba (.ref t.Az)=some false
 J6:PySem.W.mroIn K t.Ba (.ref t.Ba)=some true
 AnV:mg "Draft" = some (.ref t.Cv)
 Hf:Own K t.Cv t.Bu
 Bx:Mr K t.Cv "threading"
 HH:Mr K t.Cv "ties"
 BR:Mr K t.Cv "treading"
 Ave:mg "Reader" = some (.ref t.An)
 Ca:Own K t.An t.BP
 Dw:Mr K t.An "text"
 Bt:Mr K t.An "place"
 AyE:mg "Path" = some (.ref t.Eu)
 Zk:Own K t.Eu t.CW
 Ec:Mr K t.Eu "stops"
 AwR:mg "Times" = some (.ref t.Bv)
 RD:Own K t.Bv t.Cm
 GX:Mr K t.Bv "count"
 GZ:Mr K t.Bv "inner"
 Ko:Mf K "__init__" "Draft.__init__" BJ ["self", "threading", "ties", "treading"] t.Cv t.Bu t.Ih
 Gg:Mf K "__init__" "Reader.__init__" BL ["self", "text"] t.An t.BP t.Nf
 Kc:Mf K "ended" "Reader.ended" Dt ["self"] t.An t.Dv t.Ng
 Fz:Mf K "took" "Reader.took" Ea ["self", "wanted"] t.An t.CV t.Jv
 O4:Mf K "stretch" "Reader.stretch" Cj ["self", "signs"] t.An t.Dj t.Ou
 Rg:Mf K "number" "Reader.number" CP ["self"] t.An t.Dy t.QZ
 Lr:Mf K "__init__" "Path.__init__" CQ ["self", "stops"] t.Eu t.CW t.Ra
 Abh:Mf K "size" "Path.size" Gx ["self"] t.Eu t.Hi t.AaV
 Tu:Mf K "numbers" "Path.numbers" Du ["self"] t.Eu t.El t.Tp
 Kq:Mf K "__init__" "Times.__init__" Ck ["self", "count", "inner"] t.Bv t.Cm t.Ov
 RG:Mf K "size" "Times.size" Fi ["self"] t.Bv t.Fj t.R8
 Ls:Mf K "numbers" "Times.numbers" CT ["self"] t.Bv t.CZ t.Lg
theorem bl1{fd:FuncData}{ps:List Str}(h:∀ a0:Value,bindArgs fd ⟨[a0],[]⟩=pure (ps.zip [a0]))(us:List Value)(hl:us.length=1):bindArgs fd ⟨us,[]⟩=pure (ps.zip us):=by
 rcases us with _ | ⟨a0,us⟩
 ·cases hl
 rcases us with _ | ⟨b,us⟩
 ·exact h a0
 ·cases hl
theorem bl2{fd:FuncData}{ps:List Str}(h:∀ a0 a1:Value,bindArgs fd ⟨[a0,a1],[]⟩=pure (ps.zip [a0,a1]))(us:List Value)(hl:us.length=2):bindArgs fd ⟨us,[]⟩=pure (ps.zip us):=by
 rcases us with _ | ⟨a0,us⟩
 ·cases hl
 rcases us with _ | ⟨a1,us⟩
 ·cases hl
 rcases us with _ | ⟨b,us⟩
 ·exact h a0 a1
 ·cases hl
theorem bl3{fd:FuncData}{ps:List Str}(h:∀ a0 a1 a2:Value,bindArgs fd ⟨[a0,a1,a2],[]⟩=pure (ps.zip [a0,a1,a2]))(us:List Value)(hl:us.length=3):bindArgs fd ⟨us,[]⟩=pure (ps.zip us):=by
 rcases us with _ | ⟨a0,us⟩
 ·cases hl
 rcases us with _ | ⟨a1,us⟩
 ·cases hl
 rcases us with _ | ⟨a2,us⟩
 ·cases hl
 rcases us with _ | ⟨b,us⟩
 ·exact h a0 a1 a2
 ·cases hl
theorem bl4{fd:FuncData}{ps:List Str}(h:∀ a0 a1 a2 a3:Value,bindArgs fd ⟨[a0,a1,a2,a3],[]⟩=pure (ps.zip [a0,a1,a2,a3]))(us:List Value)(hl:us.length=4):bindArgs fd ⟨us,[]⟩=pure (ps.zip us):=by
 rcases us with _ | ⟨a0,us⟩
 ·cases hl
 rcases us with _ | ⟨a1,us⟩
 ·cases hl
 rcases us with _ | ⟨a2,us⟩
 ·cases hl
 rcases us with _ | ⟨a3,us⟩
 ·cases hl
 rcases us with _ | ⟨b,us⟩
 ·exact h a0 a1 a2 a3
 ·cases hl
section
variable {P:Program}{w:World}{K:PySem.W.Frag}{mg:Str→Option Value}{base:Heap}{t:Adr}
def Az2 (z:Str):Sp:=fun vs H Q _=>∃ v,vs=[v]∧Q (.str z) H
end
section
variable {P:Program}{w:World}{K:PySem.W.Frag}{mg:Str→Option Value}{base:Heap}{t:Adr}
theorem z0(i:Nat):(0+(i:Int)).toNat=i:=by omega
theorem ApM(K:PySem.W.Frag)(n:String):PySem.W.kitOne K (.type n) (.type n)=some true:=if_pos (beq_self_eq_true _)
theorem Ass{c d:Nat}:(V.str ⟨#[c]⟩:V)=V.str ⟨#[d]⟩↔c=d :=
 ⟨fun z=>by injection z with z;exact(List.cons.inj (WL (a:=[c]) (b:=[d]) z)).1,fun z=>by rw[z]⟩
theorem e35:(V.str ⟨#[35]⟩:V)=V.str "#" := congrArg V.str (by decide +kernel)
theorem e46:(V.str ⟨#[46]⟩:V)=V.str "." := congrArg V.str (by decide +kernel)
theorem Jl{n:Nat}(h:n≤40):n≤sizeLine:=A4q h (by decide)
theorem occ{c:Nat}(h:Sg c):(!(!(Builtin.Str.occurrences "#." ⟨#[c]⟩ 0 (Str.length "#.") 1).isEmpty))=false:=by
 rcases h with h | h <;> subst h <;> decide +kernel
def Amn:Sp:=fun vs H Q _=>∃(t:List Nat),vs=[.str (tx t),.int (t.length:Int),.str "#."]∧(∀ c∈t,Sg c)∧t.length≤40∧Q .non H
theorem Amo(T:Txt K mg t):Aq P w K mg base CX0 1 t.Hk t.Zc ["text", "ends", "signs"] Amn:=by
 refine T.Zh.F.ok Adj (fun vs H Q E h=>?_) (fun cdv A outer s H vs Q E hr h=>?_)
 ·obtain⟨t,rfl,_⟩:=h
  rfl
 ·obtain⟨t,rfl,hsg,hl,k⟩:=h
  refine⟨_,(Ad (Dc (Bc Apd (Bo Gj rfl T.HN Es (Aa (pv 0) Ac)) (pv 1) (Br _))
    (Ah FJ)
    Bj)
   (Ah (GD PassesOwn.never rfl (AqS (pv 0)) (Dd (i:=3) Adj.nd rfl (Or.inl rfl))
    (Ah (Dc (Bc An8 (pv 3) (pv 2) rfl)
     (Ah FJ)
     Bj))))),?_⟩
  refine⟨_,rfl,_,rfl,(by rw[Bf];exact Jl hl),_,rfl,rfl,_,rfl,?_⟩
  refine AiG (by rw[Bf]) ?_
  refine⟨_,rfl,_,rfl,Aw1 (z:=tx t) (fun i σ H2=>∃ v,σ=[some (.str (tx t)),some (.int (t.length:Int)),some (.str "#."),v]∧H2=H) ⟨none,rfl,rfl⟩ ?_ ?_⟩
  ·rintro i c σ H2 hc ⟨v,rfl,rfl⟩
   rw[Ake] at hc
   refine⟨_,rfl,_,rfl,_,_,rfl,rfl,_,rfl,?_⟩
   rw[occ (hsg c (A3Y hc))]
   exact QS ⟨_,rfl,rfl⟩
  ·rintro σ H2 ⟨v,rfl,rfl⟩
   exact k
def Af9 (K:PySem.W.Frag):Sp:=fun vs H Q _=>∃(a:Addr) (cl:List (List Nat)) (m n:Nat),vs=[.ref a,.int 1,.str "#."]∧SqL K H a (vS cl)∧Cl cl m n∧∀ p,H p=none→Q (.ref p) (upd H p (.tup [.int (m:Int),.int (n:Int)]))
theorem AfA(T:Txt K mg t):Aq P w K mg base CX0 2 t.DG t.Ow ["texts", "least", "signs"] (Af9 K):=by
 have AnW:Aq P w K mg base CX0 1 t.Hk t.Zc _ _:=Amo T
 refine T.Nk.F.ok MP (fun vs H Q E h=>?_) (fun cdv A outer s H vs Q E hr h=>?_)
 ·obtain⟨a,cl,m,n,rfl,_⟩:=h
  rfl
 ·obtain⟨a,cl,m,n,rfl,hS,C,k⟩:=h
  have hlen:(vS cl).length=n:=by rw[Bs,C.hn]
  have h0:0<cl.length:=by rw[C.hn];exact C.n1
  have hm0:=C.hm cl[0] (A4j h0)
  have c1:=C.n1
  have c2:=C.n40
  have c3:=C.m1
  have c4:=C.m40
  refine⟨_,(Ad (Dc (PW.pt (pw_or (Bc Afe (Bo (Bl (K:=K)) rfl T.HN Es (Aa (pv 0) Ac)) (pv 1) (Br _)) (pw_or1 (Bc AaO (Bo (Bl (K:=K)) rfl T.HN Es (Aa (pv 0) Ac)) (Kf (v:=.int 40) rfl T.Ka.choose_spec ⟨_,rfl⟩) (Br _)))))
    (Ah FJ)
    Bj)
   (Ad (Ax (i:=3) MP.nd rfl (Or.inl rfl) (Bo Gj rfl T.HN Es (Aa (Cq (Bm (K:=K)) (pv 0) Ak (fun _ _=>rfl)) Ac)))
   (Ad (Dc (PW.pt (pw_or (Bc Afe (pv 3) (pv 1) (Br _)) (pw_or1 (Bc AaO (pv 3) (Kf (v:=.int 40) rfl T.Ka.choose_spec ⟨_,rfl⟩) (Br _)))))
    (Ah FJ)
    Bj)
   (Ad (GD PassesOwn.never rfl (Bq (K:=K) (pv 0)) (Dd (i:=4) MP.nd rfl (Or.inl rfl))
    (Ah (DP (Aj (AnW.mono (by decide)) hr rfl T.Zh.m T.Zh.F.kp T.Zh.b .nil Ao (Aa (pv 4) (Aa (pv 3) (Aa (pv 2) Ac)))))))
   (Ah (Bb (Aus (Aa (pv 3) (Aa (Bo (Bl (K:=K)) rfl T.HN Es (Aa (pv 0) Ac)) Ac))))))))),?_⟩
  refine⟨_,rfl,_,_,rfl,.inl hS,_,rfl,_,_,rfl,rfl,_,rfl,?_⟩
  refine Io (by rw[hlen];omega) ?_
  refine⟨_,rfl,_,_,rfl,.inl hS,_,_,rfl,rfl,_,rfl,?_⟩
  refine Io (by rw[hlen];omega) ?_
  refine⟨_,rfl,_,_,_,_,rfl,rfl,hS,Ed (by decide) (Aej (A3R h0)),_,rfl,(by rw[Bf,hm0];exact Jl c4),?_⟩
  rw[Bf,hm0]
  refine⟨_,rfl,_,rfl,_,_,rfl,rfl,_,rfl,?_⟩
  refine Io (by omega) ?_
  refine⟨_,rfl,_,_,rfl,rfl,_,rfl,?_⟩
  refine Io (by omega) ?_
  refine⟨_,rfl,_,rfl,⟨_,hS⟩,GF (K:=K) (a:=a) (xs:=vS cl) (fun i σ H2=>∃ v,σ=[some (.ref a),some (.int 1),some (.str "#."),some (.int (m:Int)),v]∧H2=H) ⟨none,rfl,rfl⟩ (fun i σ H2 _ ⟨_,_,e⟩=>e▸hS) ?_ ?_⟩
  ·rintro i x σ H2 hx ⟨v,rfl,rfl⟩
   obtain⟨t,ht,rfl⟩:=QT hx
   have htm:=A3Y ht
   refine⟨_,rfl,_,rfl,_,rfl,t,?_,C.sg t htm,?_,⟨_,rfl,rfl⟩⟩
   ·rw[C.hm t htm];rfl
   ·rw[C.hm t htm];exact c4
  ·rintro σ H2 ⟨v,rfl,rfl⟩
   refine⟨_,rfl,_,rfl,_,_,rfl,.inl hS,(by show 2≤sizeLine;decide),fun p hp=>?_⟩
   rw[hlen]
   exact k p hp
def ApN (K:PySem.W.Frag):Sp:=fun vs H Q _=>∃(a:Addr) (cl:List (List Nat)) (m n:Nat),vs=[.ref a]∧SqL K H a (vS cl)∧Cl cl m n∧∀ p,H p=none→Q (.ref p) (upd H p (.tup [.int (m:Int),.int (n:Int)]))
theorem M6(T:Txt K mg t):Aq P w K mg base CX0 3 t.Ew t.JR ["cloth"] (ApN K):=by
 have AhK:Aq P w K mg base CX0 2 t.DG t.Ow _ _:=AfA T
 refine T.measured.F.ok ApK (fun vs H Q E h=>?_) (fun cdv A outer s H vs Q E hr h=>?_)
 ·obtain⟨a,cl,m,n,rfl,_⟩:=h
  rfl
 ·obtain⟨a,cl,m,n,rfl,hS,C,k⟩:=h
  exact⟨_,(Ah (Bb (Aj (AhK.mono (by decide)) hr rfl T.Nk.m T.Nk.F.kp T.Nk.b .nil Ao (Aa (pv 0) (Aa Ak (Aa Dm Ac)))))),_,rfl,a,cl,m,n,rfl,hS,C,k⟩
def AnX (K:PySem.W.Frag):Sp:=fun vs H Q _=>∃(a:Addr) (cl:List (List Nat)) (m n e:Nat),vs=[.ref a,.int (e:Int)]∧SqL K H a (vS cl)∧Cl cl m n∧e<m∧∀ H',Am H H'→Q (.str (tx (col cl e))) H'
theorem Zm(T:Txt K mg t):Aq P w K mg base CX0 1 t.Gy t.QD ["cloth", "end"] (AnX K):=by
 refine T.G8.F.ok AnR (fun vs H Q E h=>?_) (fun cdv A outer s H vs Q E hr h=>?_)
 ·obtain⟨a,cl,m,n,e,rfl,_⟩:=h
  rfl
 ·obtain⟨a,cl,m,n,e,rfl,hS,C,he,k⟩:=h
  have c2:=C.n40
  have c4:=C.m40
  refine⟨_,(Ah (Bb (Dq (K:=K) PySem.F.plainAttrs_str PySem.F.slot_str_join PySem.F.type_str_join (JN (K:=K)) Dm (Aa (Gk (Dp.mk (Bh:=[1]) (Nc:=["text", "end"]) rfl (by decide +kernel) (by decide +kernel) (Cu (sc0:=Ab FP) rfl (by decide +kernel)) rfl rfl rfl (by decide +kernel) (fun k j h=>match k,h with | 0,h=>by obtain rfl:=Option.some.inj h;exact⟨_,rfl,rfl,rfl⟩ | _+1,h=>by simp at h)) rfl (Bq (K:=K) (pv 0)) (fun _ _ _ _ _=>.nil) (fun _ _ _ _ _=>(Cq AqN (pv 0) (pv 1) (fun _ _=>rfl)))) Ac)))),?_⟩
  refine⟨rfl,_,rfl,_,rfl,⟨_,hS⟩,De (K:=K) (a:=a) (xs:=vS cl) (fun i ys H2=>H2=H∧ys=vS ((cl.take i).map fun t=>[t.getD e 0])) ⟨rfl,rfl⟩ ?_ ?_ ?_ ?_⟩
  ·rintro i ys H2 hi ⟨rfl,rfl⟩
   refine⟨hS,?_⟩
   rw[Bs,A3S,A4l]
   omega
  ·rw[Bs,C.hn];exact Jl c2
  ·rintro i x ys H2 hi hx ⟨rfl,rfl⟩
   obtain⟨t,ht,rfl⟩:=QT hx
   have htm:=A3Y ht
   have htl:=C.hm t htm
   have hel:e<t.length:=by omega
   refine FN.no ?_
   refine⟨_,rfl,_,rfl,_,_,t[e],rfl,rfl,(by rw[Bf,htl];exact Jl c4),(by rw[Pr];exact ArZ (A3R hel)),?_⟩
   refine CN.of hi ⟨rfl,?_⟩
   rw[Akf,Ia,A4p,ht,A3W]
   simp[List.getD,hel]
  ·rintro ys H2 p ⟨rfl,rfl⟩ hp
   rw[Bs,A4s]
   refine⟨_,_,((cl.map fun t=>[t.getD e 0]).map tx),rfl,rfl,SqL.of (by rw[Ae,QV]),?_,?_⟩
   ·have e1:=Aw3 (fun t:List Nat=>t.getD e 0) cl
    rw[e1,A3S,A3S,C.hn]
    have:n*(Str.length "")=0:=by rw[show Str.length "" = 0 from by decide +kernel];omega
    omega
   ·rw[show(("" : Str))=tx [] from by decide +kernel,AcF]
    have e2:(cl.map fun t=>[t.getD e 0]).flatten=col cl e:=Apq (fun t:List Nat=>t.getD e 0) cl
    rw[e2]
    exact k _ (.upd hp)
end
def WW (a b:Int):List Int:=if a<b then Ah6 (a+1) 1 (b-a).toNat else Ah6 (a-1) (-1) (a-b).toNat
def Ak8 (z:Int):Int:=if z<0 then -z else z
def go (a:Int):List Int→List Int
 | []=>[]
 | b::r=>WW a b++go b r
def Yg:List Int→List Int
 | []=>[]
 | s::r=>s::go s r
def lst (a:Int):List Int→Int
 | []=>a
 | b::r=>lst b r
theorem AfB:∀(a:Int) (r:List Int) (b:Int),go a (r++[b])=go a r++WW (lst a r) b
 | a,[],b=>by simp[go,lst]
 | a,c::r,b=>by rw[A5c,go,AfB c r b,go,lst,A4U]
theorem lst_snoc:∀(a:Int) (r:List Int) (b:Int),lst a (r++[b])=b
 | a,[],b=>rfl
 | a,c::r,b=>by rw[A5c,lst,lst_snoc c r b]
theorem ApO(a c:Int)(n:Nat):(Ah6 a c n).length=n:=by unfold Ah6;rw[A3S,A4H]
theorem AfC(a b:Int):((WW a b).length:Int)=Ak8 (b-a):=by
 unfold WW Ak8
 split
 ·rw[ApO,if_neg (by omega)];omega
 ·rw[ApO]
  split <;> omega
theorem ApP{a c:Int}{n i:Nat}(h:i<n):(Ah6 a c n)[i]?=some (a+(i:Int)*c):=by
 unfold Ah6
 rw[A4e,A5k h]
 rfl
theorem ApQ{a b:Int}{q:Nat}(h1:1≤q)(h2:(q:Int)≤Ak8 (b-a)):(WW a b)[q-1]?=some (a+(if b-a<0 then -1 else 1)*(q:Int)):=by
 unfold WW
 unfold Ak8 at h2
 by_cases c:a<b
 ·rw[if_pos c,ApP (by rw[if_neg (by omega)] at h2;omega),if_neg (by omega)]
  congr 1
  omega
 ·rw[if_neg c]
  by_cases d:b-a<0
  ·rw[if_pos d] at h2 ⊢
   rw[ApP (by omega)]
   congr 1
   omega
  ·rw[if_neg d] at h2
   omega
theorem Ak9{l r:List Int}(h:r≠[]):(l++r).getLast?=r.getLast?:=by
 rw[List.getLast?_append]
 cases e:r.getLast? with
 | none=>exact absurd (List.getLast?_eq_none_iff.mp e) h
 | some z=>rfl
theorem Anm{a b:Int}(h:a≠b):(WW a b).getLast?=some b:=by
 have hl:=AfC a b
 have pos:0<(WW a b).length:=by unfold Ak8 at hl;split at hl <;> omega
 rw[List.getLast?_eq_getElem?]
 have e:=ApQ (a:=a) (b:=b) (q:=(WW a b).length) pos (by omega)
 rw[e]
 congr 1
 rw[hl]
 unfold Ak8
 split <;> omega
theorem Avf(a:Int):WW a a=[]:=by
 have:=AfC a a
 unfold Ak8 at this
 have h:(WW a a).length=0:=by split at this <;> omega
 exact A6i h
theorem Ast:∀(l:List Int) (a:Int) (r:List Int),l.getLast?=some a→(l++go a r).getLast?=some (lst a r)
 | l,a,[],h=>by simpa [go,lst] using h
 | l,a,b::r,h=>by
  rw[go,lst,← A4U]
  refine Ast _ b r ?_
  by_cases e:a=b
  ·rw[e,Avf,A4Q,← e];exact h
  ·rw[Ak9 (fun z=>by have:=Anm e;rw[z] at this;cases this)]
   exact Anm e
theorem AtC(s:Int)(r:List Int):(s::go s r).getLast?=some (lst s r):=Ast [s] s r rfl
section
variable {P:Program}{w:World}{K:PySem.W.Frag}{mg:Str→Option Value}{base:Heap}{t:Adr}
def rf (u:List Nat)(p:Nat):List (Str × V):=[("text", .str (tx u)),("place", .int (p:Int))]
def Rd (t:Adr)(H:Hp)(r dx:Addr)(u:List Nat)(p:Nat):Prop:=H r=some (.ins t.An dx (rf u p))∧p≤u.length∧u.length≤1000000
theorem AfD(u:List Nat)(p:Nat):(rf u p).lookup ("text" : Str)=some (V.str (tx u)):=rfl
theorem QG(u:List Nat)(p:Nat):(rf u p).lookup ("place" : Str)=some (V.int (p:Int)):=rfl
theorem AyF(u:List Nat)(p q:Nat):WD "place" (.int (q:Int)) (rf u p)=rf u q:=rfl
theorem big{n:Nat}(h:n≤1000000):n≤sizeLine:=A4q h (by decide)
def Avg (t:Adr):Sp:=fun vs H Q _=>∃ r dx u p,vs=[.ref r]∧Rd t H r dx u p∧Q (.bl (decide (p=u.length))) H
theorem Aap(T:Txt K mg t):Aq P w K mg base CX0 1 t.Dv t.Ng ["self"] (Avg t):=by
 refine T.Kc.F.ok Ajj (fun vs H Q E h=>?_) (fun cdv A outer s H vs Q E hr h=>?_)
 ·obtain⟨r,dx,u,p,rfl,_⟩:=h
  rfl
 ·obtain⟨r,dx,u,p,rfl,⟨hr1,hp,hu⟩,k⟩:=h
  refine⟨_,(Ah (Bb (ArW R0 (BV (K:=K) (pv 0) rfl) (Bo Gj rfl T.HN Es (Aa (BV (K:=K) (pv 0) rfl) Ac)) (Br _)))),?_⟩
  refine⟨_,rfl,_,_,_,_,_,rfl,hr1,T.Ca.c,T.Bt,QG u p,?_⟩
  refine⟨_,rfl,_,_,_,_,_,rfl,hr1,T.Ca.c,T.Dw,AfD u p,?_⟩
  refine⟨_,rfl,(by rw[Bf];exact big hu),rfl,?_⟩
  have e:decide (V.int (p:Int)=V.int ((tx u).length:Int))=decide (p=u.length):=by
   rw[Bf]
   apply decide_eq_decide.mpr
   constructor
   ·intro z;injection z with z;omega
   ·intro z;rw[z]
  rw[e]
  exact k
def AwS (t:Adr):Sp:=fun vs H Q _=>∃ r dx u p v,vs=[.ref r,.str (tx v)]∧Rd t H r dx u p∧v.length≤100 ∧
 ((u.drop p).take v.length=v→Q (.bl true) (upd H r (.ins t.An dx (rf u (p+v.length)))))∧((u.drop p).take v.length≠v→Q (.bl false) H)
theorem Asu{u:List Nat}{p n:Nat}(h:p≤u.length):AnI u (some (p:Int)) (some ((p:Int)+(n:Int)))=(u.drop p).take n:=by
 unfold AnI
 rw[show((p:Int)+(n:Int))=((p+n:Nat):Int) by omega,HT.R4,HT.R4,A4V h]
 by_cases h2:p+n≤u.length
 ·rw[A4V h2,Nat.add_sub_cancel_left]
 ·rw[A5p (by omega),A4M (by rw[A4r];omega),A4M (by rw[A4r];omega)]
theorem Np(T:Txt K mg t):Aq P w K mg base CX0 1 t.CV t.Jv ["self", "wanted"] (AwS t):=by
 refine T.Fz.F.ok AaU (fun vs H Q E h=>?_) (fun cdv A outer s H vs Q E hr h=>?_)
 ·obtain⟨r,dx,u,p,v,rfl,_⟩:=h
  rfl
 ·obtain⟨r,dx,u,p,v,rfl,⟨hr1,hp,hu⟩,hv,k1,k2⟩:=h
  refine⟨_,(Ad (Ax (i:=2) AaU.nd rfl (Or.inl rfl) (Be Gi (BV (K:=K) (pv 0) rfl) (Bo Gj rfl T.HN Es (Aa (pv 1) Ac))))
   (Ad (Dc (Bc Apd (HW Arc (BV (K:=K) (pv 0) rfl) (Fb (BV (K:=K) (pv 0) rfl)) (Fb (pv 2))) (pv 1) (Br _))
    (Ah (Bb XM))
    Bj)
   (Ad (R5 (K:=K) (pv 0) (pv 2))
   (Ah (Bb XM))))),?_⟩
  refine⟨_,rfl,_,_,_,_,_,rfl,hr1,T.Ca.c,T.Bt,QG u p,_,rfl,_,rfl,(by rw[Bf];exact big (by omega)),_,_,rfl,rfl,?_⟩
  rw[Bf]
  refine⟨_,rfl,_,_,_,_,_,rfl,hr1,T.Ca.c,T.Dw,AfD u p,?_⟩
  refine⟨_,rfl,_,_,_,_,_,rfl,hr1,T.Ca.c,T.Bt,QG u p,_,rfl,_,rfl,_,rfl,u,rfl,big hu,_,rfl,rfl,_,rfl,?_⟩
  rw[Asu hp]
  by_cases hc:(u.drop p).take v.length=v
  ·refine AiG (by rw[hc]) ?_
   refine⟨_,rfl,_,rfl,_,_,_,_,rfl,hr1,T.Ca.c,T.Bt,(by show 2<1000;decide),?_⟩
   show Q (.bl true) (upd H r (.ins t.An dx (WD ("place" : Str) (.int ((p:Int)+(v.length:Int))) (rf u p))))
   rw[show((p:Int)+(v.length:Int))=((p+v.length:Nat):Int) by omega,AyF]
   exact k1 hc
  ·refine Au1 (fun z=>hc (by injection z with z;exact WL z)) ?_
   exact k2 hc
def dg (c:Nat):Bool:=decide (48≤c∧c≤57)
def Aep (l:List Nat):List Nat:=l.takeWhile dg
def Avh (v:List Nat):V:=if (1≤v.length∧v.length≤2)∧¬(v.length=2∧v[0]?=some 48) then .int ((PySem.NumText.digitsVal v:Nat):Int) else .non
theorem AnY:∀(l:List Nat) (n:Nat),n≤l.length→(∀ c∈l.take n,dg c=true)→(∀ c,l[n]?=some c→dg c=false)→Aep l=l.take n
 | [],n,h,_,_=>by simp[Aep]
 | c::l,0,_,_,h2=>by
  unfold Aep
  rw[A6o,h2 c rfl]
  rfl
 | c::l,n+1,h,h1,h2=>by
  have hc:dg c=true:=h1 c (by simp)
  have:=AnY l n (by simpa using h) (fun d hd=>h1 d (by rw[A5m];exact A4d _ hd)) (fun d hd=>h2 d (by simpa using hd))
  unfold Aep at this ⊢
  rw[A6o,if_pos hc,this,A5m]
theorem Avi{H:Hp}{r:Addr}{o:HO}(h:H r=some o):upd H r o=H:=by
 funext b
 unfold upd
 split
 next e=>rw[e,h]
 next=>rfl
theorem z48(c:Nat):(V.str ⟨#[c]⟩:V)=V.str "0" ↔ c=48:=by
 have e:(("0" : Str))=tx [48]:=by decide +kernel
 rw[e]
 exact⟨fun z=>by injection z with z;exact(List.cons.inj (WL (a:=[c]) (b:=[48]) z)).1,fun z=>by rw[z];rfl⟩
def Avj:Sp:=fun vs H Q _=>∃ v:List Nat,vs=[.str (tx v)]∧(∀ c∈v,48≤c∧c≤57)∧v.length≤1000000∧Q (Avh v) H
theorem AnZ(T:Txt K mg t):Aq P w K mg base CX0 1 t.Iv t.Aba ["figures"] Avj:=by
 refine T.AcM.F.ok AnT (fun vs H Q E h=>?_) (fun cdv A outer s H vs Q E hr h=>?_)
 ·obtain⟨v,rfl,_⟩:=h
  rfl
 ·obtain⟨v,rfl,hd,hl,k⟩:=h
  have sz:(tx v).length≤sizeLine:=by rw[Bf];exact big hl
  refine⟨_,(Ad (Dc (PW.pt (pw_or (Bc Afe (Bo Gj rfl T.HN Es (Aa (pv 0) Ac)) Ak (Br _)) (pw_or1 (Bc AaO (Bo Gj rfl T.HN Es (Aa (pv 0) Ac)) Ak (Br _)))))
    (Ah (Bb Ahu))
    Bj)
   (Ad (Dc (PW.pt (pw_and (Bc R0 (Bo Gj rfl T.HN Es (Aa (pv 0) Ac)) Ak (Br _)) (pw_and1 (Bc R0 (Cq AqN (pv 0) Ak (fun _ _=>rfl)) Dm (Br _)))))
    (Ah (Bb Ahu))
    Bj)
   (Ah (Bb (Hg Atp rfl T.A0v Ays (Aa (pv 0) Ac)))))),?_⟩
  unfold Avh at k
  refine⟨_,rfl,_,rfl,sz,_,_,rfl,rfl,_,rfl,?_⟩
  rw[Bf]
  refine Mz (fun c1=>?_) (fun c1=>?_)
  ·refine Ah1 ?_
   rw[if_neg (by omega)] at k
   exact k
  ·refine⟨_,rfl,_,rfl,sz,_,_,rfl,rfl,_,rfl,?_⟩
   rw[Bf]
   refine Mz (fun c2=>?_) (fun c2=>?_)
   ·rw[if_neg (by omega)] at k
    exact k
   ·refine⟨_,rfl,_,rfl,sz,rfl,_,rfl,?_⟩
    rw[Bf]
    have fin:¬(v.length=2∧v[0]?=some 48)→∃ z n,[V.str (tx v)]=[V.str z]∧PySem.intText? z=some n∧z.length≤640∧Q (.int n) H:=fun c3=>by
     rw[if_pos ⟨by omega,c3⟩] at k
     refine⟨tx v,_,rfl,PySem.intText_digits (x:=tx v) (by rw[Pr];exact hd) (by rw[Pr];intro z;rw[z] at c1;simp at c1) (by rw[Bf];omega),by rw[Bf];omega,?_⟩
     rw[Pr]
     exact k
    refine Mz (fun c3=>?_) (fun c3=>?_)
    ·have l2:v.length=2:=by injection c3 with c3;omega
     have h0:0<v.length:=by omega
     refine⟨_,rfl,_,_,v[0],rfl,rfl,sz,Ed (by decide) (by rw[Pr];exact A3R h0),rfl,_,rfl,?_⟩
     refine Mz (fun c4=>?_) (fun c4=>?_)
     ·rw[if_neg (fun z=>z.2 ⟨l2,by rw[A3R h0,(z48 _).mp c4]⟩)] at k
      exact k
     ·exact⟨_,rfl,fin fun z=>c4 ((z48 _).mpr (by have:=z.2;rw[A3R h0] at this;exact Option.some.inj this))⟩
    ·exact QS ⟨_,rfl,fin fun z=>c3 (by rw[z.1];rfl)⟩
end
section
variable {P:Program}{w:World}{K:PySem.W.Frag}{mg:Str→Option Value}{base:Heap}{t:Adr}
theorem RJ(u:List Nat)(p:Nat):(rf u p).lookup ("ended" : Str)=none∧(rf u p).lookup ("took" : Str)=none∧(rf u p).lookup ("number" : Str)=none∧(rf u p).lookup ("stretch" : Str)=none:=⟨rfl,rfl,rfl,rfl⟩
def A1o:Sp:=fun vs H Q _=>∃(C r dx:Addr) (u:List Nat),vs=[.ref r,.str (tx u)]∧H r=some (.ins C dx [])∧Q .non (upd H r (.ins C dx (rf u 0)))
theorem Aeq(T:Txt K mg t):Aq P w K mg base CX0 1 t.BP t.Nf ["self", "text"] (fun vs H Q E=>∃(r dx:Addr) (u:List Nat),vs=[.ref r,.str (tx u)]∧H r=some (.ins t.An dx [])∧Q .non (upd H r (.ins t.An dx (rf u 0)))):=by
 refine T.Gg.F.ok Aen (fun vs H Q E h=>?_) (fun cdv A outer s H vs Q E hr h=>?_)
 ·obtain⟨r,dx,u,rfl,_⟩:=h
  rfl
 ·obtain⟨r,dx,u,rfl,h1,k⟩:=h
  refine⟨_,(Ad (R5 (K:=K) (pv 0) (pv 1))
   (Ah (R5 (K:=K) (pv 0) Ak))),?_⟩
  refine⟨_,rfl,_,rfl,_,_,_,_,rfl,h1,T.Ca.c,T.Dw,(by decide),?_⟩
  refine⟨_,rfl,_,_,_,_,rfl,Ae,T.Ca.c,T.Bt,(by show 1<1000;decide),?_⟩
  rw[Uw]
  exact k
def Arz (t:Adr):Sp:=fun vs H Q _=>∃ r dx u p,vs=[.ref r,.str "0123456789"]∧Rd t H r dx u p∧Q (.str (tx (Aep (u.drop p)))) (upd H r (.ins t.An dx (rf u (p+(Aep (u.drop p)).length))))
theorem AfE(T:Txt K mg t):Aq P w K mg base CX0 2 t.Dj t.Ou ["self", "signs"] (Arz t):=by
 have Tv:Aq P w K mg base CX0 1 t.Dv t.Ng _ _:=Aap T
 refine T.O4.F.ok U5 (fun vs H Q E h=>?_) (fun cdv A outer s H vs Q E hr h=>?_)
 ·obtain⟨r,dx,u,p,rfl,_⟩:=h
  rfl
 ·obtain⟨r,dx,u,p,rfl,⟨hr1,hp,hu⟩,k⟩:=h
  refine⟨_,(Ad (Ax (i:=2) U5.nd rfl (Or.inl rfl) (BV (K:=K) (pv 0) rfl))
   (Ad (AjR PassesOwn.never (PW.pt (pw_and (W9 (M8 (AjY (pv 0) T.Ca.c T.Kc.m (Tv.mono (by decide)) hr T.Kc.b .nil Ao))) (pw_and1 (Bc AsU (Cq AqN (BV (K:=K) (pv 0) rfl) (BV (K:=K) (pv 0) rfl) (fun _ _=>rfl)) (pv 1) rfl))))
    (Ah (Are (K:=K) (pv 0) Ak Ayf)))
   (Ah (Bb (HW Arc (BV (K:=K) (pv 0) rfl) (Fb (pv 2)) (Fb (BV (K:=K) (pv 0) rfl))))))),?_⟩
  refine⟨_,rfl,_,_,_,_,_,rfl,hr1,T.Ca.c,T.Bt,QG u p,?_⟩
  refine⟨fun m σ H2=>∃ n,σ=[some (.ref r),some (.str "0123456789"),some (.int (p:Int))]∧H2=upd H r (.ins t.An dx (rf u (p+n)))∧p+n≤u.length∧(∀ c∈(u.drop p).take n,dg c=true)∧m=u.length-(p+n),
   ⟨_,0,rfl,(Avi hr1).symm,hp,(fun c hc=>by simp at hc),rfl⟩,?_⟩
  rintro m σ H2 ⟨n,rfl,rfl,hn,ha,rfl⟩
  have hS:(upd H r (.ins t.An dx (rf u (p+n)))) r=some (.ins t.An dx (rf u (p+n))):=Ae
  have done:(∀ c,(u.drop p)[n]?=some c→dg c=false)→(u.drop p).take n=Aep (u.drop p):=fun hs=>(AnY _ n (by rw[A4r];omega) ha hs).symm
  have ln:((u.drop p).take n).length=n:=by rw[A4l,A4r];omega
  have e3:AnI u (some (p:Int)) (some ((p+n:Nat):Int))=(u.drop p).take n:=by rw[Int.natCast_add];exact Asu hp
  have fin:(u.drop p).take n=Aep (u.drop p)→Q (.str (tx (AnI u (some (p:Int)) (some ((p+n:Nat):Int))))) (upd H r (.ins t.An dx (rf u (p+n)))):=fun e2=>by
   have e1:(Aep (u.drop p)).length=n:=by rw[← e2,ln]
   rw[e3,e2];rw[e1] at k;exact k
  refine⟨_,rfl,r,dx,rf u (p+n),rfl,hS,(RJ u _).1,r,dx,u,p+n,rfl,⟨hS,hn,hu⟩,_,rfl,?_⟩
  by_cases c1:p+n=u.length
  ·rw[decide_eq_true c1]
   refine QS ?_
   refine QS ?_
   exact⟨_,rfl,_,_,_,_,_,rfl,hS,T.Ca.c,T.Dw,AfD u _,_,rfl,_,rfl,_,rfl,_,_,_,_,_,rfl,hS,T.Ca.c,T.Bt,QG u _,_,rfl,u,rfl,big hu,
    fin (done fun c hc=>by rw[A4o (by rw[A4r];omega)] at hc;cases hc)⟩
  ·rw[decide_eq_false c1]
   refine Ah1 ?_
   have hlt:p+n<u.length:=by omega
   refine⟨_,rfl,_,_,_,_,_,rfl,hS,T.Ca.c,T.Dw,AfD u _,_,rfl,_,_,_,_,_,rfl,hS,T.Ca.c,T.Bt,QG u _,_,_,u[p+n],rfl,rfl,(by rw[Bf];exact big hu),
    Ed (by omega) (by rw[A4m,Pr];exact A3R hlt),_,rfl,_,_,rfl,rfl,_,rfl,?_⟩
   rw[Aw5]
   refine Mz (fun c2=>?_) (fun c2=>?_)
   ·refine⟨_,fun σ' H' h=>h,?_⟩
    refine⟨_,rfl,_,_,_,_,_,rfl,hS,T.Ca.c,T.Bt,QG u _,_,_,rfl,rfl,dx,rf u (p+n),hS,(by show 2<1000;decide),?_⟩
    refine⟨u.length-(p+(n+1)),by omega,n+1,rfl,?_,by omega,fun c hc=>?_,rfl⟩
    ·rw[Uw]
     rfl
    ·rw[A4p,A4Z,A3R hlt] at hc
     rcases List.mem_append.mp hc with h | h
     ·exact ha c h
     ·rw[show c=u[p+n] by simpa using h]
      exact decide_eq_true c2
   ·exact⟨_,rfl,_,_,_,_,_,rfl,hS,T.Ca.c,T.Dw,AfD u _,_,rfl,_,rfl,_,rfl,_,_,_,_,_,rfl,hS,T.Ca.c,T.Bt,QG u _,_,rfl,u,rfl,big hu,
     fin (done fun c hc=>by rw[A4Z,A3R hlt] at hc;cases hc;exact decide_eq_false c2)⟩
theorem ApR:∀(l:List Nat),(∀ c∈Aep l,dg c=true)∧(Aep l).length≤l.length
 | []=>⟨fun c hc=>(by cases hc),A3U _⟩
 | a::l=>by
  have ih:=ApR l
  unfold Aep at ih ⊢
  rw[A6o]
  by_cases h:dg a=true
  ·rw[if_pos h]
   refine⟨fun c hc=>?_,by simp only [A3Z];omega⟩
   rcases List.mem_cons.mp hc with e | e
   ·rw[e];exact h
   ·exact ih.1 c e
  ·rw[if_neg h]
   exact⟨fun c hc=>(by cases hc),A4f _⟩
def AtD (t:Adr):Sp:=fun vs H Q _=>∃ r dx u p,vs=[.ref r]∧Rd t H r dx u p∧Q (Avh (Aep (u.drop p))) (upd H r (.ins t.An dx (rf u (p+(Aep (u.drop p)).length))))
theorem AhL(T:Txt K mg t):Aq P w K mg base CX0 3 t.Dy t.QZ ["self"] (AtD t):=by
 have AhM:Aq P w K mg base CX0 2 t.Dj t.Ou _ _:=AfE T
 have ApS:Aq P w K mg base CX0 1 t.Iv t.Aba _ _:=AnZ T
 refine T.Rg.F.ok AhC (fun vs H Q E h=>?_) (fun cdv A outer s H vs Q E hr h=>?_)
 ·obtain⟨r,dx,u,p,rfl,_⟩:=h
  rfl
 ·obtain⟨r,dx,u,p,rfl,hR,k⟩:=h
  refine⟨_,(Ah (Bb (Aj (ApS.mono (by decide)) hr rfl T.AcM.m T.AcM.F.kp T.AcM.b .nil Ao (Aa (Afh (pv 0) T.Ca.c T.O4.m (AhM.mono (by decide)) hr T.O4.b .nil Ao (Aa (Kf (v:=.str "0123456789") rfl T.AtB.choose_spec ⟨_,rfl⟩) Ac)) Ac)))),?_⟩
  have hf:=ApR (u.drop p)
  refine⟨_,rfl,r,dx,rf u p,rfl,hR.1,(RJ u p).2.2.2,r,dx,u,p,rfl,hR,?_⟩
  exact⟨_,rfl,fun c hc=>of_decide_eq_true (hf.1 c hc),by have:=hR.2.2;have:=hf.2;rw[A4r] at this;omega,k⟩
end
section
variable {P:Program}{w:World}{K:PySem.W.Frag}{mg:Str→Option Value}{base:Heap}{t:Adr}
theorem fits{z:Int}(h:z.natAbs≤1000000):Builtin.Range.rangeFitsLong z=true:=by
 unfold Builtin.Range.rangeFitsLong
 simp only [A4I,decide_eq_true_eq]
 omega
def Avk:Sp:=fun vs H Q _=>∃(a b:Int),vs=[.int a,.int b]∧a.natAbs≤400∧b.natAbs≤400∧∀ l H',Am H H'→H l=none→H' l=some (.lst (vI (WW a b)))→Q (.ref l) H'
theorem AhN(T:Txt K mg t):Aq P w K mg base CX0 1 t.Ep t.Rc ["start", "stop"] Avk:=by
 refine T.PQ.F.ok AhA (fun vs H Q E h=>?_) (fun cdv A outer s H vs Q E hr h=>?_)
 ·obtain⟨a,b,rfl,_⟩:=h
  rfl
 ·obtain⟨a,b,rfl,ha,hb,k⟩:=h
  refine⟨_,(Ad (Dc (Bc Afe (pv 0) (pv 1) (Br _))
    (Ah (Bb (Hg Akj rfl T.Abf U0 (Aa (Hg Atn rfl T.Jc Apw (Aa (Be Gi (pv 0) Ak) (Aa (Be Gi (pv 1) Ak) Ac))) Ac))))
    Bj)
   (Ah (Bb (Hg Akj rfl T.Abf U0 (Aa (Hg Ato rfl T.Jc Apw (Aa (Be AaN (pv 0) Ak) (Aa (Be AaN (pv 1) Ak) (Aa (Apc AjT Ak) Ac)))) Ac))))),?_⟩
  refine⟨_,rfl,_,rfl,_,_,rfl,rfl,_,rfl,?_⟩
  refine Mz (fun c1=>?_) (fun c1=>?_)
  ·refine⟨_,rfl,_,_,rfl,rfl,_,rfl,_,_,rfl,rfl,_,_,rfl,fun p hp=>?_⟩
   have rs:Builtin.Range.rangeSize (a+1) (b+1) 1=((b-a).toNat:Int):=by
    unfold Builtin.Range.rangeSize
    rw[if_pos (by decide),if_pos (by omega),Int.ediv_one]
    omega
   refine⟨p,a+1,b+1,1,(b-a).toNat,rfl,Ae,?_,rs,by omega,fun l hl=>?_⟩
   ·unfold Builtin.Range.small
    rw[rs,fits (by omega),fits (by omega),fits (by omega),fits (by omega)]
    simp only [show(1:Int)>0 by decide,if_true,Bool.true_and,A5X]
    exact .inr (fits (by omega))
   ·have:WW a b=Ah6 (a+1) 1 (b-a).toNat:=if_pos c1
    rw[← this]
    exact k l _ ((Am.upd hp).new hl) ((Am.upd hp).free hl) Ae
  ·refine⟨_,rfl,_,_,rfl,rfl,_,rfl,_,_,rfl,rfl,_,rfl,_,_,_,rfl,(by decide),(by decide),fun p hp=>?_⟩
   have rs:Builtin.Range.rangeSize (a-1) (b-1) (-1)=((a-b).toNat:Int):=by
    unfold Builtin.Range.rangeSize
    rw[if_neg (by decide)]
    by_cases c2:a-1>b-1
    ·rw[if_pos c2,show -(-1:Int)=1 by decide,Int.ediv_one]
     omega
    ·rw[if_neg c2]
     omega
   refine⟨p,a-1,b-1,-1,(a-b).toNat,rfl,Ae,?_,rs,by omega,fun l hl=>?_⟩
   ·unfold Builtin.Range.small
    rw[rs,fits (by omega),fits (by omega),fits (by decide),fits (by omega)]
    simp only [show ¬((-1:Int)>0) by decide,if_false,Bool.true_and,A5X]
    exact .inr (fits (by omega))
   ·have:WW a b=Ah6 (a-1) (-1) (a-b).toNat:=if_neg c1
    rw[← this]
    exact k l _ ((Am.upd hp).new hl) ((Am.upd hp).free hl) Ae
def pf (l:Addr):List (Str × V):=[("stops", .ref l)]
theorem ApT(l:Addr):(pf l).lookup ("stops" : Str)=some (V.ref l):=rfl
theorem AhO(T:Txt K mg t):Aq P w K mg base CX0 1 t.CW t.Ra ["self", "stops"] (fun vs H Q E=>∃(r dx l:Addr),vs=[.ref r,.ref l]∧H r=some (.ins t.Eu dx [])∧Q .non (upd H r (.ins t.Eu dx (pf l)))):=by
 refine T.Lr.F.ok AhD (fun vs H Q E h=>?_) (fun cdv A outer s H vs Q E hr h=>?_)
 ·obtain⟨r,dx,l,rfl,_⟩:=h
  rfl
 ·obtain⟨r,dx,l,rfl,h1,k⟩:=h
  refine⟨_,(Ah (R5 (K:=K) (pv 0) (pv 1))),?_⟩
  exact⟨_,rfl,_,rfl,_,_,_,_,rfl,h1,T.Zk.c,T.Ec,(by decide),k⟩
def dst (ss:List Int)(k:Nat):Int:=Ak8 (ss.getD (k+1) 0-ss.getD k 0)
def AhP (ss:List Int)(k:Nat):Int:=1+((List.range k).map (dst ss)).sum
theorem AhQ(ss:List Int)(k:Nat):AhP ss (k+1)=AhP ss k+dst ss k:=by
 unfold AhP
 rw[A5d,A3W,A5M]
 simp
 omega
theorem AxA{ks:List Int}{i:Int}(h0:0≤i)(h:i.toNat<ks.length):atI (vI ks) i=some (.int (ks.getD i.toNat 0)):=Ed h0 (by
 rw[WM (A3R h)]
 simp[List.getD,h])
structure IsP (t:Adr) (H:Hp) (a dx l:Addr) (ss:List Int):Prop where
 o:H a=some (.ins t.Eu dx (pf l))
 l:H l=some (.lst (vI ss))
 ne:1≤ss.length
 le:ss.length≤1000
def Avl (t:Adr):Sp:=fun vs H Q _=>∃(a dx l:Addr) (ss:List Int),vs=[.ref a]∧IsP t H a dx l ss∧Q (.int (AhP ss (ss.length-1))) H
theorem Aoa(T:Txt K mg t):Aq P w K mg base CX0 1 t.Hi t.AaV ["self"] (Avl t):=by
 refine T.Abh.F.ok R7 (fun vs H Q E h=>?_) (fun cdv A outer s H vs Q E hr h=>?_)
 ·obtain⟨a,dx,l,ss,rfl,_⟩:=h
  rfl
 ·obtain⟨a,dx,l,ss,rfl,hP,k⟩:=h
  have ne:=hP.ne
  have le:=hP.le
  refine⟨_,(Ad (Ax (i:=1) R7.nd rfl (Or.inl rfl) Ak)
   (Ad (GD PassesOwn.never rfl (AmV rfl T.Jc (Aa Ak (Aa (Bo (Bl (K:=K)) rfl T.HN Es (Aa (BV (K:=K) (pv 0) rfl) Ac)) Ac))) (Dd (i:=2) R7.nd rfl (Or.inl rfl))
    (Ah (AxU (i:=1) R7.nd rfl (Or.inl rfl) (Bo Ape rfl T.Ax9 Au2 (Aa (Be AaN (Cq (Bm (K:=K)) (BV (K:=K) (pv 0) rfl) (pv 2) (fun _ _=>rfl)) (Cq (Bm (K:=K)) (BV (K:=K) (pv 0) rfl) (Be AaN (pv 2) Ak) (fun _ _=>rfl))) Ac)) AxV)))
   (Ah (Bb (pv 1))))),?_⟩
  refine⟨_,rfl,_,_,_,_,_,rfl,hP.o,T.Zk.c,T.Ec,ApT l,_,_,rfl,.inl (SqL.of hP.l),_,_,rfl,⟨by decide,by decide,by rw[Bd];omega,by rw[Bd];omega⟩,?_⟩
  rw[Bd]
  refine Om (lo:=1) (n:=((ss.length:Int)-1).toNat) (fun i σ H2=>∃ v,σ=[some (.ref a),some (.int (AhP ss i)),v]∧H2=H) ⟨none,rfl,rfl⟩ ?_ ?_
  ·rintro i σ H2 hi ⟨v,rfl,rfl⟩
   have e1:=AxA (ks:=ss) (i:=1+(i:Int)) (by omega) (by omega)
   have e2:=AxA (ks:=ss) (i:=1+(i:Int)-1) (by omega) (by omega)
   rw[show(1+(i:Int)).toNat=i+1 by omega] at e1
   rw[show(1+(i:Int)-1).toNat=i by omega] at e2
   refine⟨_,rfl,_,rfl,_,_,_,_,_,rfl,hP.o,T.Zk.c,T.Ec,ApT l,_,rfl,_,_,_,_,rfl,rfl,SqL.of hP.l,e1,?_⟩
   refine⟨_,rfl,_,_,_,_,_,rfl,hP.o,T.Zk.c,T.Ec,ApT l,_,rfl,_,_,rfl,rfl,_,_,_,_,rfl,rfl,SqL.of hP.l,e2,_,_,rfl,rfl,_,rfl,_,_,rfl,rfl,?_⟩
   exact⟨some (.int (1+(i:Int))),by rw[AhQ];rfl,rfl⟩
  ·rintro σ H2 ⟨v,rfl,rfl⟩
   refine⟨_,rfl,?_⟩
   rw[show((ss.length:Int)-1).toNat=ss.length-1 by omega]
   exact k
end
section
variable {P:Program}{w:World}{K:PySem.W.Frag}{mg:Str→Option Value}{base:Heap}{t:Adr}
theorem Api{ks:List Int}{z:Int}(h:ks.getLast?=some z):atI (vI ks) (-1)=some (.int z):=by
 have hne:0<ks.length:=by
  cases ks with
  | nil=>cases h
  | cons a l=>exact Nat.succ_pos _
 rw[List.getLast?_eq_getElem?] at h
 unfold atI ixN
 rw[if_neg (by decide),Bd]
 rw[if_pos (by omega)]
 have:((ks.length:Int) + -1).toNat=ks.length-1:=by omega
 show(some _).bind _=_
 rw[Option.bind_some]
 first
  | (rw[this];exact WM h)
  | (rw[show(-1+(ks.length:Int)).toNat=ks.length-1 by omega];exact WM h)
theorem Avm:∀(ss:List Int) (i:Nat),i+1≤ss.length→((Yg (ss.take (i+1))).length:Int)=AhP ss i:=by
 intro ss i
 induction i with
 | zero =>
  intro h
  cases ss with
  | nil=>simp at h
  | cons s r=>simp[Yg,go,AhP]
 | succ i ih =>
  intro h
  have hlt:i+1<ss.length:=by omega
  have e:=ih (by omega)
  rw[AhQ,← e]
  cases ss with
  | nil=>simp at h
  | cons s r =>
   have hr:i<r.length:=by simpa using hlt
   rw[A5m,A5m,A4p,A3R hr]
   show((Yg (s::(r.take i++[r[i]]))).length:Int)=_
   rw[Yg,AfB,Yg,A3Z,A3T,A3Z]
   have d:((WW (lst s (r.take i)) r[i]).length:Int)=dst (s::r) i:=by
    rw[AfC]
    unfold dst
    have e1:(s::r).getD (i+1) 0=r[i]:=by simp[List.getD,hr]
    have e2:(s::r).getD i 0=lst s (r.take i):=by
     cases i with
     | zero=>simp[lst]
     | succ j =>
      have hj:j<r.length:=by omega
      rw[A4p,A3R hj]
      show _=lst s (r.take j++[r[j]])
      rw[lst_snoc]
      simp[List.getD,hj]
    rw[e1,e2]
   omega
theorem AtE(ss:List Int):∀{i j:Nat},i≤j→AhP ss i≤AhP ss j:=by
 intro i j h
 induction h with
 | refl=>exact Int.le_refl _
 | @step m _ ih =>
  have:0≤dst ss m:=by unfold dst Ak8;split <;> omega
  have e:=AhQ ss m
  show AhP ss i≤AhP ss (m+1)
  omega
def AwT (t:Adr):Sp:=fun vs H Q _=>∃(a dx l:Addr) (ss:List Int),vs=[.ref a]∧IsP t H a dx l ss∧AhP ss (ss.length-1)≤400∧(∀ s∈ss,s.natAbs≤400)∧∀ q H',Am H H'→H q=none→H' q=some (.lst (vI (Yg ss)))→Q (.ref q) H'
theorem Ajk(T:Txt K mg t):Aq P w K mg base CX0 2 t.El t.Tp ["self"] (AwT t):=by
 have Ajl:Aq P w K mg base CX0 1 t.Ep t.Rc _ _:=AhN T
 refine T.Tu.F.ok QX (fun vs H Q E h=>?_) (fun cdv A outer s H vs Q E hr h=>?_)
 ·obtain⟨a,dx,l,ss,rfl,_⟩:=h
  rfl
 ·obtain⟨a,dx,l,ss,rfl,hP,A3K,hb,k⟩:=h
  have ne:=hP.ne
  have le:=hP.le
  have hsz:sizeLine=16777216:=sizeLine_eq
  refine⟨_,(Ad (Ax (i:=1) QX.nd rfl (Or.inl rfl) (HS (Aa (Cq (Bm (K:=K)) (BV (K:=K) (pv 0) rfl) Ak (fun _ _=>rfl)) Ac)))
   (Ad (GD PassesOwn.never rfl (Bq (K:=K) (HW (KN (K:=K)) (BV (K:=K) (pv 0) rfl) (Fb Ak) Afi)) (Dd (i:=2) QX.nd rfl (Or.inl rfl))
    (Ah (DP (Dq (K:=K) PySem.F.plainAttrs_list PySem.F.slot_list_extend PySem.F.type_list_extend Ahz (pv 1) (Aa (Aj (Ajl.mono (by decide)) hr rfl T.PQ.m T.PQ.F.kp T.PQ.b .nil Ao (Aa (Cq (Bm (K:=K)) (pv 1) (Apc AjT Ak) (fun _ _=>rfl)) (Aa (pv 2) Ac))) Ac)))))
   (Ah (Bb (pv 1))))),?_⟩
  obtain⟨s0,r,rfl⟩:∃ s0 r,ss=s0::r:=by
   cases ss with
   | nil=>simp at ne
   | cons s0 r=>exact⟨s0,r,rfl⟩
  refine⟨_,rfl,_,_,_,_,_,rfl,hP.o,T.Zk.c,T.Ec,ApT l,_,_,_,_,rfl,rfl,SqL.of hP.l,Ed (by decide) rfl,(by show 1≤sizeLine;decide),fun q hq=>?_⟩
  have s1:Am H (upd H q (.lst [.int s0])):=.upd hq
  refine⟨_,rfl,_,_,_,_,_,rfl,s1 _ _ hP.o,T.Zk.c,T.Ec,ApT l,_,rfl,_,_,rfl,SqL.of (s1 _ _ hP.l),fun p hp=>?_⟩
  have e1:Afj (vI (s0::r)) (some 1) none=vI r:=by
   unfold Afj
   have e0:HT.sIx (vI (s0::r)).length 0 (some 1)=1:=by
    show HT.sIx (vI (s0::r)).length 0 (some ((1:Nat):Int))=1
    rw[HT.R4,Bd,A3Z]
    omega
   rw[e0,HT.AjZ,Bd,A3Z]
   show(vI r).take _=vI r
   rw[A4M (by rw[Bd];omega)]
  rw[e1]
  have s2:Am H (upd (upd H q (.lst [.int s0])) p (.lst (vI r))):=s1.new hp
  have nqp:q≠p:=Bw (Ae (H:=H)) hp
  refine⟨_,rfl,⟨_,SqL.of Ae⟩,?_⟩
  refine GF (K:=K) (a:=p) (xs:=vI r) (fun i σ H2=>∃ v,σ=[some (.ref a),some (.ref q),v]∧Am H H2∧H2 p=some (.lst (vI r))∧H2 q=some (.lst (vI (s0::go s0 (r.take i)))))
   ⟨none,rfl,s2,Ae,by rw[Aw nqp,Ae];rfl⟩ (fun i σ H2 _ ⟨_,_,_,e,_⟩=>SqL.of e) ?_ ?_
  ·rintro i xv σ H2 hx ⟨v,rfl,s3,hp3,hq3⟩
   obtain⟨z,hz,rfl⟩:=JM hx
   have hir:i<r.length:=(List.getElem?_eq_some_iff.mp hz).1
   have bz:z.natAbs≤400:=hb z (A4d _ (A3Y hz))
   have bl:(lst s0 (r.take i)).natAbs≤400:=by
    cases i with
    | zero=>exact hb s0 A3V
    | succ j =>
     have hj:j<r.length:=by omega
     rw[A4p,A3R hj]
     show(lst s0 (r.take j++[r[j]])).natAbs≤400
     rw[lst_snoc]
     exact hb _ (A4d _ (A4j hj))
   have hlen:=Avm (s0::r) (i+1) (by rw[A3Z];omega)
   have A2W:=AtE (s0::r) (i:=i+1) (j:=(s0::r).length-1) (by simp;omega)
   have e5:(s0::r).take (i+1+1)=s0::(r.take i++[z]):=by rw[A5m,A4p,hz];rfl
   rw[e5,Yg,AfB,A3Z,A3T] at hlen
   refine⟨_,rfl,.inl ⟨rfl,_,SqL.of hq3⟩,_,rfl,_,rfl,_,_,_,_,rfl,rfl,SqL.of hq3,Api (AtC s0 (r.take i)),_,rfl,lst s0 (r.take i),z,rfl,bl,bz,fun l2 H3 s4 nl2 hl2=>?_⟩
   refine⟨q,l2,_,_,rfl,rfl,s4 _ _ hq3,hl2,(by rw[Bd,Bd,A3Z];omega),?_⟩
   have n2:l2≠q:=(Bw hq3 nl2).symm
   have np:p≠q:=nqp.symm
   refine⟨_,rfl,(s3.trans s4).over hq,by rw[Aw np];exact s4 _ _ hp3,?_⟩
   rw[Ae,A4p,hz]
   show some (HO.lst (vI (s0::go s0 (r.take i))++vI (WW (lst s0 (r.take i)) z)))=some (HO.lst (vI (s0::go s0 (r.take i++[z]))))
   rw[AfB]
   unfold vI
   rw[← A3W]
   rfl
  ·rintro σ H2 ⟨v,rfl,s3,hp3,hq3⟩
   refine⟨_,rfl,k q H2 s3 hq ?_⟩
   rw[hq3,Bd,A4s]
   rfl
end
inductive It where
 | pth (ss:List Int)
 | tms (n:Nat) (xs:List It)
def psz (ss:List Int):Int:=AhP ss (ss.length-1)
mutual
def It.sz:It→Int
 | .pth ss=>psz ss
 | .tms n xs=>(n:Int)*szs xs
def szs:List It→Int
 | []=>0
 | x::xs=>x.sz+szs xs
end
theorem Zn:∀ xs:List It,szs xs=(xs.map It.sz).sum
 | []=>by simp[szs]
 | x::xs=>by simp only [szs,A3X,A4L];rw[Zn xs]
mutual
def It.nu:It→List Int
 | .pth ss=>Yg ss
 | .tms n xs=>(List.replicate n (nus xs)).flatten
def nus:List It→List Int
 | []=>[]
 | x::xs=>x.nu++nus xs
end
theorem AfF:∀ xs:List It,nus xs=(xs.map It.nu).flatten
 | []=>by simp[nus]
 | x::xs=>by simp only [nus,A3X,A4n];rw[AfF xs]
section
variable {P:Program}{w:World}{K:PySem.W.Frag}{mg:Str→Option Value}{base:Heap}{t:Adr}
def AtP (t:Adr)(H:Hp)(a:Addr)(ss:List Int):Prop:=∃ dx l,IsP t H a dx l ss
theorem AtP.same{H H':Hp}{a:Addr}{ss:List Int}(h:AtP t H a ss)(s:Am H H'):AtP t H' a ss :=
 let ⟨dx,l,p⟩:=h
 ⟨dx,l,s _ _ p.o,s _ _ p.l,p.ne,p.le⟩
def tf (n:Nat)(l:Addr):List (Str × V):=[("count", .int (n:Int)),("inner", .ref l)]
theorem ApU(n:Nat)(l:Addr):(tf n l).lookup ("count" : Str)=some (V.int (n:Int)):=rfl
theorem ApV(n:Nat)(l:Addr):(tf n l).lookup ("inner" : Str)=some (V.ref l):=rfl
def AtI (t:Adr)(H:Hp):Nat→Addr→It→Prop
 | _,a,.pth ss=>AtP t H a ss
 | 0,_,.tms _ _=>False
 | d+1,a,.tms n xs=>∃(dx li:Addr) (rs:List Addr),H a=some (.ins t.Bv dx (tf n li))∧H li=some (.lst (rs.map V.ref))∧n≤99∧rs.length=xs.length∧rs.length≤1000 ∧
   ∀(i:Nat) r x,rs[i]?=some r→xs[i]?=some x→AtI t H d r x
theorem AtI.same{H H':Hp}(s:Am H H'):∀(d:Nat) (a:Addr) (x:It),AtI t H d a x→AtI t H' d a x
 | 0,_,.pth _,h=>AtP.same h s
 | 0,_,.tms _ _,h=>h.elim
 | d+1,_,.pth _,h=>AtP.same h s
 | d+1,_,.tms n xs,h=>by
  obtain⟨dx,li,rs,h1,h2,h0,h3,h4,h5⟩:=h
  exact⟨dx,li,rs,s _ _ h1,s _ _ h2,h0,h3,h4,fun i r x e1 e2=>AtI.same s d r x (h5 i r x e1 e2)⟩
structure ApW (t:Adr) (H:Hp) (d:Nat) (rs:List Addr) (xs:List It):Prop where
 len:rs.length=xs.length
 le:rs.length≤1000
 at_:∀(i:Nat) r x,rs[i]?=some r→xs[i]?=some x→AtI t H d r x
theorem ApW.same{H H':Hp}{d:Nat}{rs:List Addr}{xs:List It}(h:ApW t H d rs xs)(s:Am H H'):ApW t H' d rs xs:=⟨h.len,h.le,fun i r x e1 e2=>AtI.same s d r x (h.at_ i r x e1 e2)⟩
def Ar0 (t:Adr)(d:Nat):Sp:=fun vs H Q _=>∃(li:Addr) (rs:List Addr) (xs:List It),vs=[.ref li]∧H li=some (.lst (rs.map V.ref))∧ApW t H d rs xs∧∀ H',Am H H'→Q (.int (szs xs)) H'
def Ar1 (t:Adr):Nat→Sp
 | 0=>fun _ _ _ _=>False
 | d+1=>fun vs H Q _=>∃(a dx li:Addr) (n:Nat) (rs:List Addr) (xs:List It),vs=[.ref a]∧H a=some (.ins t.Bv dx (tf n li))∧H li=some (.lst (rs.map V.ref))∧n≤99∧ApW t H d rs xs∧∀ H',Am H H'→Q (.int ((n:Int)*szs xs)) H'
theorem AkA(T:Txt K mg t):Aq P w K mg base CX0 1 t.Fj t.R8 ["self"] (Ar1 t 0) :=
 T.RG.F.ok Adn (fun vs H Q E h=>h.elim) (fun cdv A outer s H vs Q E hr h=>h.elim)
theorem Amp{k d:Nat}(T:Txt K mg t)(Zo:Aq P w K mg base CX0 k t.Fv t.Ni ["row_items"] (Ar0 t d)) :
  Aq P w K mg base CX0 (k+1) t.Fj t.R8 ["self"] (Ar1 t (d+1)):=by
 refine T.RG.F.ok Adn (fun vs H Q E h=>?_) (fun cdv A outer s H vs Q E hr h=>?_)
 ·obtain⟨a,dx,li,n,rs,xs,rfl,_⟩:=h
  rfl
 ·obtain⟨a,dx,li,n,rs,xs,rfl,ho,hl,hn,hA,k⟩:=h
  refine⟨_,(Ah (Bb (Be YS (BV (K:=K) (pv 0) rfl) (Aj (Zo.mono (by omega)) hr rfl T.Mt.m T.Mt.F.kp T.Mt.b .nil Ao (Aa (BV (K:=K) (pv 0) rfl) Ac))))),?_⟩
  refine⟨_,rfl,_,_,_,_,_,rfl,ho,T.RD.c,T.GX,ApU n li,?_⟩
  refine⟨_,rfl,_,_,_,_,_,rfl,ho,T.RD.c,T.GZ,ApV n li,?_⟩
  refine⟨li,rs,xs,rfl,hl,hA,fun H1 s1=>?_⟩
  exact⟨_,_,rfl,rfl,.inl ⟨by omega,by omega⟩,k H1 s1⟩
theorem Ado{k d:Nat}(hk:1≤k)(T:Txt K mg t)(Aob:Aq P w K mg base CX0 k t.Fj t.R8 ["self"] (Ar1 t d)) :
  Aq P w K mg base CX0 (k+1) t.Fv t.Ni ["row_items"] (Ar0 t d):=by
 have ApX:Aq P w K mg base CX0 1 t.Hi t.AaV _ _:=Aoa T
 refine T.Mt.F.ok Aml (fun vs H Q E h=>?_) (fun cdv A outer s H vs Q E hr h=>?_)
 ·obtain⟨li,rs,xs,rfl,_⟩:=h
  rfl
 ·obtain⟨li,rs,xs,rfl,hl,hA,kk⟩:=h
  have ln:=hA.len
  have le:=hA.le
  have hsz:sizeLine=16777216:=sizeLine_eq
  refine⟨_,(Ah (Bb (Bo (Atq (K:=K)) rfl T.A0y Ayr (Aa (Gk (Dp.mk (Bh:=[]) (Nc:=["item"]) rfl (by decide +kernel) (by decide +kernel) (Cu (sc0:=Ab Ei) rfl (by decide +kernel)) rfl rfl rfl (by decide +kernel) (fun _ _ h=>by simp at h)) rfl (Bq (K:=K) (pv 0)) (fun _ _ _ _ _=>.nil) (fun _ _ _ _ _=>(Ap0 (pv 0) T.Zk.c T.Abh.m (ApX.mono (by omega)) hr T.Abh.b Ao T.RD.c T.RG.m (Aob.mono (by omega)) hr T.RG.b Ao))) Ac)))),?_⟩
  refine⟨_,rfl,_,rfl,⟨_,SqL.of hl⟩,De (K:=K) (a:=li) (xs:=rs.map V.ref) (fun i ys H2=>Am H H2∧ys=vI ((xs.take i).map It.sz)) ⟨.refl _,rfl⟩ ?_ ?_ ?_ ?_⟩
  ·rintro i ys H2 hi ⟨s2,rfl⟩
   refine⟨SqL.of (s2 _ _ hl),?_⟩
   rw[Bd,A3S,A4l]
   omega
  ·rw[A3S];omega
  ·rintro i x ys H2 hi hx ⟨s2,rfl⟩
   rw[A3S] at hi
   have hi':i<xs.length:=by omega
   rw[A4e,A3R hi] at hx
   cases hx
   have hI:=AtI.same s2 d _ _ (hA.at_ i _ _ (A3R hi) (A3R hi'))
   refine FN.no ?_
   have fin:∀ H3,Am H2 H3→∀ z:Int,z=(xs[i]).sz→CN (rs.map V.ref).length (fun i ys H2=>Am H H2∧ys=vI ((xs.take i).map It.sz)) i (vI ((xs.take i).map It.sz)++[.int z]) H3:=fun H3 s3 z hz=>by
    refine CN.of (by rw[A3S];exact hi) ⟨s2.trans s3,?_⟩
    rw[hz,Tj,A4p,A3R hi',A3W]
    rfl
   generalize hx':xs[i]=x at hI
   cases x with
   | pth ss =>
    have hP0:AtP t H2 rs[i] ss:=by cases d <;> exact hI
    obtain⟨dx,l,hP⟩:=hP0
    refine⟨_,rfl,_,dx,pf l,rfl,rfl,.inl ⟨hP.o,_,dx,l,_,rfl,hP,?_⟩⟩
    exact fin H2 (.refl _) _ (by rw[hx'];simp only [It.sz];rfl)
   | tms n ys =>
    cases d with
    | zero=>exact hI.elim
    | succ d =>
     obtain⟨dx,l2,rs2,h1,h2,h0,h3,h4,h5⟩:=hI
     refine⟨_,rfl,_,dx,tf n l2,rfl,rfl,.inr ⟨h1,_,dx,l2,n,rs2,ys,rfl,h1,h2,h0,⟨h3,h4,h5⟩,fun H3 s3=>?_⟩⟩
     exact fin H3 s3 _ (by rw[hx'];simp only [It.sz])
  ·rintro ys H2 p ⟨s2,rfl⟩ hp
   rw[A3S,ln,A4s]
   refine⟨_,_,rfl,SqL.of Ae,?_⟩
   rw[← Zn]
   exact kk _ (s2.new hp)
theorem Avn(T:Txt K mg t):∀ d:Nat,Aq P w K mg base CX0 (2*d+2) t.Fv t.Ni ["row_items"] (Ar0 t d)
 | 0=>Ado (A3U 1) T (AkA T)
 | d+1=>Ado (k:=2*d+3) (by omega) T (Amp T (Avn T d))
end
mutual
def It.Sm:It→Prop
 | .pth ss=>1≤ss.length∧∀ s∈ss,s.natAbs≤400
 | .tms n xs=>1≤n∧Sms xs
def Sms:List It→Prop
 | []=>True
 | x::xs=>x.Sm∧Sms xs
end
theorem Sms.of_get:∀{xs:List It} {i:Nat} {x:It},Sms xs→xs[i]?=some x→x.Sm
 | [],i,x,_,e=>by simp at e
 | y::xs,0,x,h,e=>by
  simp only [Sms] at h
  simp at e
  rw[← e];exact h.1
 | y::xs,i+1,x,h,e=>by
  simp only [Sms] at h
  exact Sms.of_get h.2 (by simpa using e)
mutual
theorem It.Ar2:∀ x:It,x.Sm→(x.nu.length:Int)=x.sz
 | .pth ss,h=>by
  simp only [It.Sm] at h
  simp only [It.nu,It.sz]
  have:=Avm ss (ss.length-1) (by omega)
  rw[show ss.length-1+1=ss.length by omega,A4s] at this
  exact this
 | .tms n xs,h=>by
  simp only [It.Sm] at h
  simp only [It.nu,It.sz]
  rw[len_rep,A5W,Zq xs h.2]
theorem Zq:∀ xs:List It,Sms xs→((nus xs).length:Int)=szs xs
 | [],_=>by simp[nus,szs]
 | x::xs,h=>by
  simp only [Sms] at h
  simp only [nus,szs]
  rw[A3T,Int.natCast_add,It.Ar2 x h.1,Zq xs h.2]
end
theorem Sms.nn{xs:List It}(h:Sms xs):0≤szs xs:=by rw[← Zq xs h];omega
theorem It.Sm.nn{x:It}(h:x.Sm):0≤x.sz:=by rw[← x.Ar2 h];omega
theorem Avo(xs:List It)(x:It):nus (xs++[x])=nus xs++x.nu:=by
 rw[AfF,AfF,A3W,A5v]
 simp
theorem Avp(xs:List It)(x:It):szs (xs++[x])=szs xs+x.sz:=by
 rw[Zn,Zn,A3W,A5M]
 simp
theorem AwU(xs ys:List It):szs (xs++ys)=szs xs+szs ys:=by
 rw[Zn,Zn,Zn,A3W,A5M]
theorem Sms.app:∀{xs ys:List It},Sms (xs++ys)→Sms xs∧Sms ys
 | [],ys,h=>⟨by simp only [Sms],h⟩
 | x::xs,ys,h=>by
  rw[A5c] at h
  simp only [Sms] at h
  have:=Sms.app h.2
  exact⟨by simp only [Sms];exact⟨h.1,this.1⟩,this.2⟩
theorem Asv{xs:List It}(h:Sms xs)(i:Nat):szs (xs.take i)≤szs xs∧0≤szs (xs.take i):=by
 have e:xs=xs.take i++xs.drop i:=(A5l i xs).symm
 have h':=h
 rw[e] at h'
 have a:=Sms.app h'
 have e2:szs xs=szs (xs.take i)+szs (xs.drop i):=by rw[← AwU,A5l]
 have n1:=a.1.nn
 have n2:=a.2.nn
 omega
section
variable {P:Program}{w:World}{K:PySem.W.Frag}{mg:Str→Option Value}{base:Heap}{t:Adr}
def Ar3 (t:Adr)(d:Nat):Sp:=fun vs H Q _=>∃(li:Addr) (rs:List Addr) (xs:List It),vs=[.ref li]∧H li=some (.lst (rs.map V.ref))∧ApW t H d rs xs∧Sms xs∧szs xs≤400 ∧
 ∀ q H',Am H H'→H q=none→H' q=some (.lst (vI (nus xs)))→Q (.ref q) H'
def Ar4 (t:Adr):Nat→Sp
 | 0=>fun _ _ _ _=>False
 | d+1=>fun vs H Q _=>∃(a dx li:Addr) (n:Nat) (rs:List Addr) (xs:List It),vs=[.ref a]∧H a=some (.ins t.Bv dx (tf n li))∧H li=some (.lst (rs.map V.ref))∧n≤99∧ApW t H d rs xs∧(It.tms n xs).Sm∧(It.tms n xs).sz≤400 ∧
   ∀ q H',Am H H'→H q=none→H' q=some (.lst (vI (It.tms n xs).nu))→Q (.ref q) H'
theorem AyG(n:Nat)(l:List Int):(List.replicate n (vI l)).flatten=vI (List.replicate n l).flatten:=by
 induction n with
 | zero=>rfl
 | succ n ih =>
  rw[A4O,A4O,A4n,A4n,ih]
  unfold vI
  rw[A3W]
theorem AfG(T:Txt K mg t):Aq P w K mg base CX0 1 t.CZ t.Lg ["self"] (Ar4 t 0) :=
 T.Ls.F.ok Yd (fun vs H Q E h=>h.elim) (fun cdv A outer s H vs Q E hr h=>h.elim)
theorem AhR{k d:Nat}(T:Txt K mg t)(WY:Aq P w K mg base CX0 k t.Eb t.Lb ["row_items"] (Ar3 t d)) :
  Aq P w K mg base CX0 (k+1) t.CZ t.Lg ["self"] (Ar4 t (d+1)):=by
 refine T.Ls.F.ok Yd (fun vs H Q E h=>?_) (fun cdv A outer s H vs Q E hr h=>?_)
 ·obtain⟨a,dx,li,n,rs,xs,rfl,_⟩:=h
  rfl
 ·obtain⟨a,dx,li,n,rs,xs,rfl,ho,hl,hn,hA,hS,h4,k⟩:=h
  have hsz:sizeLine=16777216:=sizeLine_eq
  simp only [It.Sm] at hS
  simp only [It.sz] at h4
  have nn:=hS.2.nn
  have z4:szs xs≤400:=by
   have:szs xs≤(n:Int)*szs xs:=by
    have h1:=Int.mul_le_mul_of_nonneg_right (show(1:Int)≤(n:Int) by omega) nn
    omega
   omega
  have len:=Zq xs hS.2
  refine⟨_,(Ah (Bb (Be AqP (Aj (WY.mono (by omega)) hr rfl T.JX.m T.JX.F.kp T.JX.b .nil Ao (Aa (BV (K:=K) (pv 0) rfl) Ac)) (BV (K:=K) (pv 0) rfl)))),?_⟩
  refine⟨_,rfl,_,_,_,_,_,rfl,ho,T.RD.c,T.GZ,ApV n li,?_⟩
  refine⟨li,rs,xs,rfl,hl,hA,hS.2,z4,fun q H1 s1 nq hq=>?_⟩
  refine⟨_,rfl,_,_,_,_,_,rfl,s1 _ _ ho,T.RD.c,T.GX,ApU n li,?_⟩
  refine⟨q,(n:Int),vI (nus xs),rfl,rfl,hq,by omega,by omega,?_,fun p hp=>?_⟩
  ·rw[Bd,A4m]
   have:(nus xs).length≤400:=by omega
   have:(nus xs).length*n≤400*99:=A5r this hn
   omega
  ·refine k p _ (s1.new hp) (s1.free hp) ?_
   rw[Ae,A4m,AyG]
   simp only [It.nu]
theorem Abi{k d:Nat}(hk:2≤k)(T:Txt K mg t)(Ajm:Aq P w K mg base CX0 k t.CZ t.Lg ["self"] (Ar4 t d)) :
  Aq P w K mg base CX0 (k+1) t.Eb t.Lb ["row_items"] (Ar3 t d):=by
 have AkB:Aq P w K mg base CX0 2 t.El t.Tp _ _:=Ajk T
 refine T.JX.F.ok Tn (fun vs H Q E h=>?_) (fun cdv A outer s H vs Q E hr h=>?_)
 ·obtain⟨li,rs,xs,rfl,_⟩:=h
  rfl
 ·obtain⟨li,rs,xs,rfl,hl,hA,hS,h4,kk⟩:=h
  have ln:=hA.len
  have hsz:sizeLine=16777216:=sizeLine_eq
  refine⟨_,(Ad (Ax (i:=1) Tn.nd rfl (Or.inl rfl) (HS Ac))
   (Ad (GD PassesOwn.never rfl (Bq (K:=K) (pv 0)) (Dd (i:=2) Tn.nd rfl (Or.inl rfl))
    (Ah (DP (Dq (K:=K) PySem.F.plainAttrs_list PySem.F.slot_list_extend PySem.F.type_list_extend Ahz (pv 1) (Aa (Ap0 (pv 2) T.Zk.c T.Tu.m (AkB.mono (by omega)) hr T.Tu.b Ao T.RD.c T.Ls.m (Ajm.mono (by omega)) hr T.Ls.b Ao) Ac)))))
   (Ah (Bb (pv 1))))),?_⟩
  refine⟨A4f _,fun q hq=>?_⟩
  have s1:Am H (upd H q (.lst [])):=.upd hq
  refine⟨_,rfl,_,rfl,⟨_,SqL.of (s1 _ _ hl)⟩,?_⟩
  refine GF (K:=K) (a:=li) (xs:=rs.map V.ref) (fun i σ H2=>∃ v,σ=[some (.ref li),some (.ref q),v]∧Am H H2∧H2 q=some (.lst (vI (nus (xs.take i)))))
   ⟨none,rfl,s1,by rw[Ae];simp[nus,vI]⟩ (fun i σ H2 _ ⟨_,_,s2,_⟩=>SqL.of (s2 _ _ hl)) ?_ ?_
  ·rintro i x σ H2 hx ⟨v,rfl,s2,hq2⟩
   have hi:i<rs.length:=by
    have:=(List.getElem?_eq_some_iff.mp hx).1
    rwa [A3S] at this
   have hi':i<xs.length:=by omega
   rw[A4e,A3R hi] at hx
   cases hx
   have hm:(xs[i]).Sm:=hS.of_get (A3R hi')
   have hI:=AtI.same s2 d _ _ (hA.at_ i _ _ (A3R hi) (A3R hi'))
   have e6:(xs.take (i+1))=xs.take i++[xs[i]]:=by rw[A4p,A3R hi'];rfl
   have p1:=Asv hS (i+1)
   have p0:=Asv hS i
   have e7:szs (xs.take (i+1))=szs (xs.take i)+(xs[i]).sz:=by rw[e6,Avp]
   have m0:=hm.nn
   have x4:(xs[i]).sz≤400:=by omega
   have l1:=(xs[i]).Ar2 hm
   have sm:Sms (xs.take i):=by
    have h':=hS
    rw[← A5l i xs] at h'
    exact h'.app.1
   have l0:=Zq _ sm
   have fin:∀ l2 H3,Am H2 H3→H2 l2=none→H3 l2=some (.lst (vI (xs[i]).nu))→∀(nz:(vI (nus (xs.take i))).length+(vI (xs[i]).nu).length≤sizeLine),
     ∃ v,[some (V.ref li),some (.ref q),some (.ref rs[i])]=[some (.ref li),some (.ref q),v]∧Am H (upd H3 q (.lst (vI (nus (xs.take i))++vI (xs[i]).nu)))∧(upd H3 q (.lst (vI (nus (xs.take i))++vI (xs[i]).nu))) q=some (.lst (vI (nus (xs.take (i+1))))):=fun l2 H3 s3 n3 h3 _=>by
    refine⟨_,rfl,(s2.trans s3).over hq,?_⟩
    rw[Ae,e6,Avo]
    unfold vI
    rw[A3W]
   have nz:(vI (nus (xs.take i))).length+(vI (xs[i]).nu).length≤sizeLine:=by rw[Bd,Bd];omega
   generalize hx':xs[i]=x at hI hm x4 fin nz
   refine⟨_,rfl,.inl ⟨rfl,_,SqL.of hq2⟩,_,rfl,?_⟩
   cases x with
   | pth ss =>
    have hP0:AtP t H2 rs[i] ss:=by cases d <;> exact hI
    obtain⟨dx,l,hP⟩:=hP0
    simp only [It.Sm] at hm
    simp only [It.sz] at x4
    refine⟨_,dx,pf l,rfl,rfl,.inl ⟨hP.o,_,dx,l,_,rfl,hP,x4,hm.2,fun l2 H3 s3 nl2 hl2=>?_⟩⟩
    exact⟨q,l2,_,_,rfl,rfl,s3 _ _ hq2,by rw[hl2];simp only [It.nu],nz,fin l2 H3 s3 nl2 (by rw[hl2];simp only [It.nu]) nz⟩
   | tms n ys =>
    cases d with
    | zero=>exact hI.elim
    | succ d =>
     obtain⟨dx,l2,rs2,h1,h2,h0,h3,h4',h5⟩:=hI
     refine⟨_,dx,tf n l2,rfl,rfl,.inr ⟨h1,_,dx,l2,n,rs2,ys,rfl,h1,h2,h0,⟨h3,h4',h5⟩,hm,x4,fun l3 H3 s3 nl3 hl3=>?_⟩⟩
     exact⟨q,l3,_,_,rfl,rfl,s3 _ _ hq2,hl3,nz,fin l3 H3 s3 nl3 hl3 nz⟩
  ·rintro σ H2 ⟨v,rfl,s2,hq2⟩
   refine⟨_,rfl,kk q H2 s2 hq ?_⟩
   rw[hq2,A3S,ln,A4s]
theorem Avq(T:Txt K mg t):∀ d:Nat,Aq P w K mg base CX0 (2*d+3) t.Eb t.Lb ["row_items"] (Ar3 t d)
 | 0=>Abi (A3U 2) T ((AfG T).mono (by decide))
 | d+1=>Abi (k:=2*d+4) (by omega) T (AhR T (Avq T d))
end
def dec (n:Nat):List Nat:=(Str.ofString (toString (n:Int))).cps.toList
theorem Avr(n:Nat):Str.ofString (toString (n:Int))=tx (dec n):=(AzY _).symm
def AxB (n:Nat):Bool:=(dec n).all (fun c=>decide (48≤c∧c≤57)) && decide (1≤(dec n).length∧(dec n).length≤2) && decide (¬((dec n).length=2∧(dec n)[0]?=some 48)) && decide (PySem.NumText.digitsVal (dec n)=n)
theorem AyH:∀ n,n<100→AxB n=true:=by decide +kernel
structure Dec (n:Nat):Prop where
 dg:∀ c∈dec n,48≤c∧c≤57
 l1:1≤(dec n).length
 l2:(dec n).length≤2
 z:¬((dec n).length=2∧(dec n)[0]?=some 48)
 v:PySem.NumText.digitsVal (dec n)=n
theorem dec_is{n:Nat}(h:n<100):Dec n:=by
 have:=AyH n h
 unfold AxB at this
 simp only [A4I,decide_eq_true_eq,A6a] at this
 obtain⟨⟨⟨h1,h2⟩,h3⟩,h4⟩:=this
 exact⟨h1,h2.1,h2.2,h3,h4⟩
def tails:List Nat→List Nat
 | []=>[]
 | n::r=>45::(dec n++tails r)
def Nq:List Nat→List Nat
 | []=>[]
 | n::r=>dec n++tails r
def Stop(rest:List Nat):Prop:=∀ c,rest[0]?=some c→¬(48≤c∧c≤57)∧c≠45
section
variable {P:Program}{w:World}{K:PySem.W.Frag}{mg:Str→Option Value}{base:Heap}{t:Adr}
theorem Avs{n:Nat}(h:n<100):Avh (dec n)=.int (n:Int):=by
 have d:=dec_is h
 unfold Avh
 rw[if_pos ⟨⟨d.l1,d.l2⟩,d.z⟩,d.v]
theorem Avt{n:Nat}(h:n<100){rest:List Nat}(hs:∀ c,rest[0]?=some c→¬(48≤c∧c≤57)):Aep (dec n++rest)=dec n:=by
 have d:=dec_is h
 rw[AnY (dec n++rest) (dec n).length (by rw[A3T];omega)]
 ·exact List.take_left
 ·rw[List.take_left]
  exact fun c hc=>decide_eq_true (d.dg c hc)
 ·intro c hc
  rw[A4h (A3U _),A4N] at hc
  exact decide_eq_false (hs c hc)
def HQ (r:Addr)(H H':Hp):Prop:=∀ b o,b≠r→H b=some o→H' b=some o
theorem HQ.trans{r:Addr}{H H1 H2:Hp}(a:HQ r H H1)(b:HQ r H1 H2):HQ r H H2:=fun c o n e=>b c o n (a c o n e)
theorem HQ.upd{r:Addr}{H:Hp}{o:HO}:HQ r H (L2.upd H r o):=fun b o' n e=>by rw[Aw n];exact e
theorem Avu{r:Addr}{H H':Hp}(s:Am H H'):HQ r H H':=fun b o _ e=>s b o e
def AwV (t:Adr):Sp:=fun vs H Q _=>∃ r dx u p n rest,vs=[.ref r]∧Rd t H r dx u p∧n<100∧u.drop p=dec n++rest∧(∀ c,rest[0]?=some c→¬(48≤c∧c≤57))∧Q (.int (n:Int)) (upd H r (.ins t.An dx (rf u (p+(dec n).length))))
theorem Abj(T:Txt K mg t):Aq P w K mg base CX0 4 t.Fy t.PL ["reader"] (AwV t):=by
 have Ajn:Aq P w K mg base CX0 3 t.Dy t.QZ _ _:=AhL T
 refine T.JZ.F.ok AaT (fun vs H Q E h=>?_) (fun cdv A outer s H vs Q E hr h=>?_)
 ·obtain⟨r,dx,u,p,n,rest,rfl,_⟩:=h
  rfl
 ·obtain⟨r,dx,u,p,n,rest,rfl,hR,hn,hd,hs,k⟩:=h
  refine⟨_,(Ad (Ax (i:=1) AaT.nd rfl (Or.inl rfl) (AjY (pv 0) T.Ca.c T.Rg.m (Ajn.mono (by decide)) hr T.Rg.b .nil Ao))
   (Ad (Dc (Bc AxZ (pv 1) Ahu (Br _))
    (Ah FJ)
    Bj)
   (Ah (Bb (pv 1))))),?_⟩
  refine⟨_,rfl,r,dx,rf u p,rfl,hR.1,(RJ u p).2.2.1,r,dx,u,p,rfl,hR,?_⟩
  rw[hd,Avt hn hs,Avs hn]
  refine⟨_,rfl,rfl,_,rfl,?_⟩
  refine Io (fun z=>nomatch z) ?_
  exact⟨_,rfl,k⟩
theorem Avv:(("-" : Str))=tx [45]:=by decide +kernel
def Avw (t:Adr):Sp:=fun vs H Q _=>∃ r dx u p n0 ns rest,vs=[.ref r,.int ((n0:Nat):Int)]∧Rd t H r dx u p∧(∀ n∈ns,n<100)∧ns.length≤900∧u.drop p=tails ns++rest∧Stop rest ∧
 ∀ a H',HQ r H H'→Rd t H' r dx u (p+(tails ns).length)→H a=none→AtP t H' a ((n0::ns).map Int.ofNat)→Q (.ref a) H'
theorem Aoc(T:Txt K mg t):Aq P w K mg base CX0 5 t.Iz t.Abd ["reader", "first"] (Avw t):=by
 have HJ:Aq P w K mg base CX0 1 t.CV t.Jv _ _:=Np T
 have Xa:Aq P w K mg base CX0 4 t.Fy t.PL _ _:=Abj T
 have Ajo:Aq P w K mg base CX0 1 t.CW t.Ra _ _:=AhO T
 refine T.AcN.F.ok Af2 (fun vs H Q E h=>?_) (fun cdv A outer s H vs Q E hr h=>?_)
 ·obtain⟨r,dx,u,p,n0,ns,rest,rfl,_⟩:=h
  rfl
 ·obtain⟨r,dx,u,p,n0,ns,rest,rfl,hR,hn,hl,hd,hs,k⟩:=h
  refine⟨_,(Ad (Ax (i:=2) Af2.nd rfl (Or.inl rfl) (HS (Aa (pv 1) Ac)))
   (Ad (AjR PassesOwn.never (M8 (Afh (pv 0) T.Ca.c T.Fz.m (HJ.mono (by decide)) hr T.Fz.b .nil Ao (Aa Dm Ac)))
    (Ah (DP (Dq (K:=K) PySem.F.plainAttrs_list PySem.F.slot_list_append PySem.F.type_list_append HX (pv 2) (Aa (Aj (Xa.mono (by decide)) hr rfl T.JZ.m T.JZ.F.kp T.JZ.b .nil Ao (Aa (pv 0) Ac)) Ac)))))
   (Ah (Bb (AcD T.Zk.m (Ajo.mono (by decide)) hr rfl T.AyE T.Lr.b .nil Ao (Aa (pv 2) Ac)))))),?_⟩
  refine⟨_,rfl,(by show 1≤sizeLine;decide),fun q hq=>?_⟩
  have nqr:q≠r:=fun z=>by rw[z,hR.1] at hq;cases hq
  refine⟨fun m σ H2=>∃ done todo,σ=[some (.ref r),some (.int (n0:Int)),some (.ref q)]∧ns=done++todo∧HQ r H H2∧H2 q=some (.lst (vI ((n0::done).map Int.ofNat)))∧Rd t H2 r dx u (p+(tails done).length)∧u.drop (p+(tails done).length)=tails todo++rest∧m=todo.length,
   ⟨_,[],ns,rfl,rfl,Avu (Am.upd hq),Ae,⟨by rw[Aw nqr.symm];exact hR.1,hR.2⟩,hd,rfl⟩,?_⟩
  rintro m σ H2 ⟨done,todo,rfl,rfl,s2,hq2,hR2,hd2,rfl⟩
  refine⟨_,rfl,r,dx,rf u (p+(tails done).length),rfl,hR2.1,(RJ u _).2.1,r,dx,u,p+(tails done).length,[45],(by rw[Avv];rfl),hR2,(by decide),fun AfH=>?_,fun hno=>?_⟩
  ·refine⟨_,rfl,?_⟩
   refine Ah1 ?_
   rw[hd2] at AfH
   cases todo with
   | nil =>
    exfalso
    cases rest with
    | nil=>simp[tails] at AfH
    | cons c rest =>
     have:c=45:=by simpa [tails] using AfH
     exact(hs c rfl).2 this
   | cons n td =>
    have hn2:n<100:=hn n (by simp)
    have hdr:u.drop (p+(tails done).length+1)=dec n++(tails td++rest):=by
     rw[← List.drop_drop,hd2]
     simp[tails]
    have hlen:p+(tails done).length+1≤u.length:=by
     have:=congrArg List.length hd2
     rw[A4r] at this
     simp[tails] at this
     omega
    have nx:∀ c,(tails td++rest)[0]?=some c→¬(48≤c∧c≤57):=fun c hc=>by
     cases td with
     | nil=>exact(hs c (by simpa [tails] using hc)).1
     | cons m td =>
      have:45=c:=by simpa [tails] using hc
      omega
    have hq3:(upd H2 r (.ins t.An dx (rf u (p+(tails done).length+[45].length)))) q=some (.lst (vI ((n0::done).map Int.ofNat))):=by rw[Aw nqr];exact hq2
    refine⟨_,fun σ' H' h=>h,?_⟩
    refine⟨_,rfl,.inl ⟨rfl,_,SqL.of hq3⟩,_,rfl,r,dx,u,p+(tails done).length+1,n,tails td++rest,rfl,⟨Ae,hlen,hR2.2.2⟩,hn2,hdr,nx,?_⟩
    rw[Uw]
    have hq4:(upd H2 r (.ins t.An dx (rf u (p+(tails done).length+1+(dec n).length)))) q=some (.lst (vI ((n0::done).map Int.ofNat))):=by rw[Aw nqr];exact hq2
    have ld:done.length≤900:=by
     rw[A3T] at hl
     omega
    refine⟨_,_,_,rfl,rfl,hq4,(by rw[Bd,A3S,A3Z];exact Tf (by omega)),?_⟩
    have et:(tails (done++[n])).length=(tails done).length+1+(dec n).length:=by
     have:∀(d:List Nat),tails (d++[n])=tails d++45::dec n:=by
      intro d
      induction d with
      | nil=>simp[tails]
      | cons a d ih=>simp[tails,ih]
     rw[this,A3T,A3Z]
     omega
    have hfin:p+(tails done).length+1+(dec n).length≤u.length:=by
     have:=congrArg List.length hdr
     rw[A4r,A3T] at this
     omega
    refine⟨td.length,by simp,done++[n],td,rfl,by simp,?_,?_,?_,?_,rfl⟩
    ·intro b o hb e
     rw[Aw (Bw e hq),Aw hb]
     exact s2 b o hb e
    ·rw[Ae]
     show some (HO.lst (vI ((n0::done).map Int.ofNat)++[V.int (Int.ofNat n)]))=_
     rw[Tj,← A5c,A3W]
     rfl
    ·refine⟨?_,by rw[et];omega,hR2.2.2⟩
     rw[Aw nqr.symm,Ae,et]
     rw[show p+((tails done).length+1+(dec n).length)=p+(tails done).length+1+(dec n).length by omega]
    ·rw[et,show p+((tails done).length+1+(dec n).length)=p+(tails done).length+1+(dec n).length by omega,← List.drop_drop,hdr]
     exact List.drop_left
  ·refine⟨_,rfl,?_⟩
   refine QS ?_
   cases todo with
   | cons n td =>
    exfalso
    rw[hd2] at hno
    exact hno (by simp[tails])
   | nil =>
    rw[A4Q] at hl k
    refine⟨_,rfl,fun x dx' hx hdx hne=>⟨x,dx',q,rfl,Ae,rfl,?_⟩⟩
    rw[Uw]
    have nx:∀ b o,H2 b=some o→b≠x∧b≠dx':=fun b o e=>⟨Bw e hx,Bw e hdx⟩
    have keep:∀ b o,H2 b=some o→(upd (upd H2 dx' (.own x)) x (.ins t.Eu dx' (pf q))) b=some o:=fun b o e=>by rw[Aw (nx b o e).1,Aw (nx b o e).2];exact e
    refine k x _ (fun b o hb e=>keep b o (s2 b o hb e)) ⟨keep _ _ hR2.1,hR2.2⟩ ?_ ⟨dx',q,Ae,keep _ _ hq2,by simp,by rw[A3S,A3Z];omega⟩
    cases e:H x with
    | none=>rfl
    | some o =>
     by_cases hxr:x=r
     ·rw[hxr,hR2.1] at hx;cases hx
     ·rw[s2 x o hxr e] at hx;cases hx
end
def ofN (ns:List Nat):List Int:=ns.map Int.ofNat
mutual
def It.tx:It→List Nat
 | .pth ss=>Nq (ss.map Int.toNat)
 | .tms n xs=>dec n++42::40::(O5 xs++[41])
def O5:List It→List Nat
 | []=>[]
 | x::xs=>x.tx++Tw xs
def Tw:List It→List Nat
 | []=>[]
 | x::xs=>32::(x.tx++Tw xs)
end
def Gd:Nat→It→Prop
 | _,.pth ss=>∃ n0 ns,ss=ofN (n0::ns)∧(∀ n∈n0::ns,n<100)∧ns.length≤900
 | 0,.tms _ _=>False
 | d+1,.tms n xs=>1≤n∧n≤99∧xs≠[]∧xs.length≤900∧∀ x∈xs,Gd d x
theorem AfI(ns:List Nat):(ofN ns).map Int.toNat=ns:=by
 unfold ofN
 rw[A4u]
 induction ns with
 | nil=>rfl
 | cons a l ih=>rw[A3X,ih];rfl
def Aft (rest:List Nat):Prop:=∀ c,rest[0]?=some c→c=32∨c=41
theorem Aft.stop{rest:List Nat}(h:Aft rest):Stop rest:=fun c e=>by
 rcases h c e with rfl | rfl <;> exact⟨by decide,by decide⟩
theorem Aft.star{rest:List Nat}(h:Aft rest):rest.take 2≠[42,40]:=fun e=>by
 cases rest with
 | nil=>cases e
 | cons c r =>
  have:=h c rfl
  simp at e
  omega
theorem Asw(xs:List It){rest:List Nat}(h:∀ c,rest[0]?=some c→c=41):Aft (Tw xs++rest):=fun c e=>by
 cases xs with
 | nil =>
  simp only [Tw,A5T] at e
  exact .inr (h c e)
 | cons x xs =>
  simp only [Tw,A5c] at e
  simp at e
  exact .inl e.symm
section
variable {P:Program}{w:World}{K:PySem.W.Frag}{mg:Str→Option Value}{base:Heap}{t:Adr}
def AtJ (t:Adr)(H:Hp)(F:Addr→Prop):Nat→Addr→It→Prop
 | _,a,.pth ss=>AtP t H a ss
 | 0,_,.tms _ _=>False
 | d+1,a,.tms n xs=>∃(dx li:Addr) (rs:List Addr),H a=some (.ins t.Bv dx (tf n li))∧H li=some (.lst (rs.map V.ref))∧F li∧n≤99∧rs.length=xs.length∧rs.length≤1000 ∧
   ∀(i:Nat) r x,rs[i]?=some r→xs[i]?=some x→AtJ t H F d r x
structure Kp (t:Adr) (H H':Hp) (F:Addr→Prop):Prop where
 kp:∀(b dx l:Addr),H b=some (.ins t.Eu dx (pf l))→H' b=some (.ins t.Eu dx (pf l))
 ks:∀(b:Addr) (ss:List Int),1≤ss.length→H b=some (.lst (vI ss))→H' b=some (.lst (vI ss))
 kt:∀(b dx:Addr) (n:Nat) (l:Addr),H b=some (.ins t.Bv dx (tf n l))→H' b=some (.ins t.Bv dx (tf n l))
 kl:∀(b:Addr) (rs:List Addr),F b→H b=some (.lst (rs.map V.ref))→H' b=some (.lst (rs.map V.ref))
theorem AtJ.keep{H H':Hp}{F:Addr→Prop}(k:Kp t H H' F):∀(d:Nat) (a:Addr) (x:It),AtJ t H F d a x→AtJ t H' F d a x
 | 0,_,.pth _,⟨dx,l,h⟩=>⟨dx,l,k.kp _ _ _ h.o,k.ks _ _ h.ne h.l,h.ne,h.le⟩
 | 0,_,.tms _ _,h=>h.elim
 | d+1,_,.pth _,⟨dx,l,h⟩=>⟨dx,l,k.kp _ _ _ h.o,k.ks _ _ h.ne h.l,h.ne,h.le⟩
 | d+1,_,.tms n xs,⟨dx,li,rs,h1,h2,h0,h3,h4,h5,h6⟩=>⟨dx,li,rs,k.kt _ _ _ _ h1,k.kl _ _ h0 h2,h0,h3,h4,h5,fun i r x e1 e2=>AtJ.keep k d r x (h6 i r x e1 e2)⟩
theorem AtJ.imp{H:Hp}{F F':Addr→Prop}(k:∀ b,F b→(∃ o,H b=some o)→F' b):∀(d:Nat) (a:Addr) (x:It),AtJ t H F d a x→AtJ t H F' d a x
 | 0,_,.pth _,h=>h
 | 0,_,.tms _ _,h=>h.elim
 | d+1,_,.pth _,h=>h
 | d+1,_,.tms n xs,⟨dx,li,rs,h1,h2,h0,h3,h4,h5,h6⟩=>⟨dx,li,rs,h1,h2,k _ h0 ⟨_,h2⟩,h3,h4,h5,fun i r x e1 e2=>AtJ.imp k d r x (h6 i r x e1 e2)⟩
theorem AtJ.to{H:Hp}{F:Addr→Prop}:∀(d:Nat) (a:Addr) (x:It),AtJ t H F d a x→AtI t H d a x
 | 0,_,.pth _,h=>h
 | 0,_,.tms _ _,h=>h.elim
 | d+1,_,.pth _,h=>h
 | d+1,_,.tms n xs,⟨dx,li,rs,h1,h2,h0,h3,h4,h5,h6⟩=>⟨dx,li,rs,h1,h2,h3,h4,h5,fun i r x e1 e2=>AtJ.to d r x (h6 i r x e1 e2)⟩
structure Aod (t:Adr) (H:Hp) (F:Addr→Prop) (d:Nat) (rs:List Addr) (xs:List It):Prop where
 len:rs.length=xs.length
 le:rs.length≤1000
 at_:∀(i:Nat) r x,rs[i]?=some r→xs[i]?=some x→AtJ t H F d r x
theorem Aod.snoc{H:Hp}{F:Addr→Prop}{d:Nat}{rs:List Addr}{xs:List It}{a:Addr}{x:It}(h:Aod t H F d rs xs)(hx:AtJ t H F d a x)(hl:rs.length<1000):Aod t H F d (rs++[a]) (xs++[x]):=by
 have ln:=h.len
 refine⟨by rw[A3T,A3T,ln];rfl,by rw[A3T,A4R];omega,fun i r y e1 e2=>?_⟩
 by_cases hi:i<rs.length
 ·rw[A4i hi] at e1
  rw[A4i (by omega)] at e2
  exact h.at_ i r y e1 e2
 ·rw[A4h (by omega)] at e1
  rw[A4h (by omega)] at e2
  rw[ln] at e1
  cases hj:i-xs.length with
  | zero =>
   rw[hj] at e1 e2
   cases e1;cases e2
   exact hx
  | succ j=>rw[hj] at e1;simp at e1
theorem Aod.keep{H H':Hp}{F:Addr→Prop}{d:Nat}{rs:List Addr}{xs:List It}(h:Aod t H F d rs xs)(k:Kp t H H' F):Aod t H' F d rs xs:=⟨h.len,h.le,fun i r x e1 e2=>AtJ.keep k d r x (h.at_ i r x e1 e2)⟩
theorem Kp.same{H H':Hp}{F:Addr→Prop}(s:Am H H'):Kp t H H' F:=⟨fun b dx l e=>s _ _ e,fun b ss _ e=>s _ _ e,fun b dx n l e=>s _ _ e,fun b rs _ e=>s _ _ e⟩
theorem Kp.but{H H':Hp}{F:Addr→Prop}{r dr:Addr}{fs:List (Str × V)}(s:HQ r H H')(er:H r=some (.ins t.An dr fs))(nc:t.An≠t.Eu)(nt:t.An≠t.Bv):Kp t H H' F:=by
 refine⟨fun b dx l e=>s _ _ (fun z=>?_) e,fun b ss _ e=>s _ _ (fun z=>?_) e,fun b dx n l e=>s _ _ (fun z=>?_) e,fun b rs _ e=>s _ _ (fun z=>?_) e⟩
 ·rw[z,er] at e
  injection e with e
  injection e with e
  exact nc e
 ·rw[z,er] at e;cases e
 ·rw[z,er] at e
  injection e with e
  injection e with e
  exact nt e
 ·rw[z,er] at e;cases e
theorem Kp.app{H:Hp}{F:Addr→Prop}{li:Addr}{rs:List Addr}{o:HO}(hl:H li=some (.lst (rs.map V.ref)))(nF:¬F li):Kp t H (upd H li o) F:=by
 refine⟨fun b dx l e=>?_,fun b ss n e=>?_,fun b dx n l e=>?_,fun b rs' f e=>?_⟩
 ·rw[Aw (fun z=>by rw[z,hl] at e;cases e)];exact e
 ·rw[Aw (fun z=>by
   rw[z,hl] at e
   injection e with e
   injection e with e
   cases ss with
   | nil=>simp at n
   | cons x y =>
    cases rs with
    | nil=>simp[vI] at e
    | cons c d =>
     unfold vI at e
     rw[A3X,A3X] at e
     injection e with e
     cases e)]
  exact e
 ·rw[Aw (fun z=>by rw[z,hl] at e;cases e)];exact e
 ·rw[Aw (fun z=>by rw[z] at f;exact nF f)];exact e
theorem AxC(T:Txt K mg t):t.An≠t.Eu:=fun e=>by
 have h1:=T.Gg.m.at_
 have h2:=T.Lr.m.at_
 rw[e,h2] at h1
 injection h1 with h1
 injection h1 with h1
 injection h1 with h1
 obtain⟨_,_,_,_,_,_,_,_,_,e1,l1,_⟩:=T.Gg.F.ex
 obtain⟨_,_,_,_,_,_,_,_,_,e2,l2,_⟩:=T.Lr.F.ex
 rw[h1,l1,e1,e2] at l2
 injection l2 with l2
 injection l2 with _ _ l2 _
 injection l2 with l2
 have q:(("Reader.__init__" : Str))=("Path.__init__" : Str):=congrArg FuncData.qualname l2
 exact absurd q (by decide +kernel)
theorem AxD(T:Txt K mg t):t.An≠t.Bv:=fun e=>by
 have h1:=T.Gg.m.at_
 have h2:=T.Kq.m.at_
 rw[e,h2] at h1
 injection h1 with h1
 injection h1 with h1
 injection h1 with h1
 obtain⟨_,_,_,_,_,_,_,_,_,e1,l1,_⟩:=T.Gg.F.ex
 obtain⟨_,_,_,_,_,_,_,_,_,e2,l2,_⟩:=T.Kq.F.ex
 rw[h1,l1,e1,e2] at l2
 injection l2 with l2
 injection l2 with _ _ l2 _
 injection l2 with l2
 have q:(("Reader.__init__" : Str))=("Times.__init__" : Str):=congrArg FuncData.qualname l2
 exact absurd q (by decide +kernel)
theorem AfJ(T:Txt K mg t):Aq P w K mg base CX0 1 t.Cm t.Ov ["self", "count", "inner"] (fun vs H Q E=>∃(r dx l:Addr) (n:Nat),vs=[.ref r,.int (n:Int),.ref l]∧H r=some (.ins t.Bv dx [])∧Q .non (upd H r (.ins t.Bv dx (tf n l)))):=by
 refine T.Kq.F.ok Af4 (fun vs H Q E h=>?_) (fun cdv A outer s H vs Q E hr h=>?_)
 ·obtain⟨r,dx,l,n,rfl,_⟩:=h
  rfl
 ·obtain⟨r,dx,l,n,rfl,h1,k⟩:=h
  refine⟨_,(Ad (R5 (K:=K) (pv 0) (pv 1))
   (Ah (R5 (K:=K) (pv 0) (pv 2)))),?_⟩
  refine⟨_,rfl,_,rfl,_,_,_,_,rfl,h1,T.RD.c,T.GX,(by decide),?_⟩
  refine⟨_,rfl,_,rfl,_,_,_,_,rfl,Ae,T.RD.c,T.GZ,(by show 1<1000;decide),?_⟩
  rw[Uw]
  exact k
theorem Ann:(("*(" : Str))=tx [42,40]:=by decide +kernel
theorem AyI:((")" : Str))=tx [41]:=by decide +kernel
theorem AyJ:((" " : Str))=tx [32]:=by decide +kernel
theorem AiL{u:List Nat}{q:Nat}{x y:List Nat}(hq:q≤u.length)(e:u.drop q=x++y):u.drop (q+x.length)=y∧q+x.length≤u.length:=by
 refine⟨by rw[← List.drop_drop,e];exact List.drop_left,?_⟩
 have:=congrArg List.length e
 rw[A4r,A3T] at this
 omega
theorem HQ.none{r b:Addr}{H H':Hp}(s:HQ r H H')(n:H' b=none)(h:b≠r):H b=none:=by
 cases e:H b with
 | none=>rfl
 | some o=>rw[s b o h e] at n;cases n
def AhS (t:Adr)(d:Nat):Sp:=fun vs H Q _=>∃(r dx:Addr) (u:List Nat) (p:Nat) (xs:List It) (rest:List Nat) (e:Nat),vs=[.ref r,.int (e:Int)]∧e+d≤8∧Rd t H r dx u p∧xs≠[]∧xs.length≤900∧(∀ x∈xs,Gd d x)∧u.drop p=O5 xs++rest∧(∀ c,rest[0]?=some c→c=41) ∧
 ∀(li:Addr) (rs:List Addr) (H':Hp),HQ r H H'→Rd t H' r dx u (p+(O5 xs).length)→H li=none→H' li=some (.lst (rs.map V.ref))→Aod t H' (fun b=>H b=none) d rs xs→Q (.ref li) H'
def ApY (t:Adr)(d:Nat):Sp:=fun vs H Q _=>∃(r dx:Addr) (u:List Nat) (p:Nat) (x:It) (rest:List Nat) (e:Nat),vs=[.ref r,.int (e:Int)]∧e+d≤8∧Rd t H r dx u p∧Gd d x∧u.drop p=x.tx++rest∧Aft rest ∧
 ∀(a:Addr) (H':Hp),HQ r H H'→Rd t H' r dx u (p+x.tx.length)→H a=none→AtJ t H' (fun b=>H b=none) d a x→Q (.ref a) H'
def AhT (t:Adr):Nat→Sp
 | 0=>fun _ _ _ _=>False
 | d+1=>fun vs H Q _=>∃(r dx:Addr) (u:List Nat) (p n:Nat) (xs:List It) (rest:List Nat) (e:Nat),vs=[.ref r,.int (n:Int),.int (e:Int)]∧e+d≤8∧Rd t H r dx u p∧1≤n∧n≤99∧xs≠[]∧xs.length≤900∧(∀ x∈xs,Gd d x)∧u.drop p=O5 xs++41::rest ∧
   ∀(a:Addr) (H':Hp),HQ r H H'→Rd t H' r dx u (p+(O5 xs).length+1)→H a=none→AtJ t H' (fun b=>H b=none) (d+1) a (.tms n xs)→Q (.ref a) H'
theorem AkC(T:Txt K mg t):Aq P w K mg base CX0 1 t.Gm t.R9 ["reader", "count", "depth"] (AhT t 0) :=
 T.Tt.F.ok WN (fun vs H Q E h=>h.elim) (fun cdv A outer s H vs Q E hr h=>h.elim)
theorem Amq{k d:Nat}(hk:1≤k)(T:Txt K mg t)(Zr:Aq P w K mg base CX0 k t.Fw t.Nj ["reader", "depth"] (AhS t d)) :
  Aq P w K mg base CX0 (k+2) t.Gm t.R9 ["reader", "count", "depth"] (AhT t (d+1)):=by
 have HJ:Aq P w K mg base CX0 1 t.CV t.Jv _ _:=Np T
 have AhU:Aq P w K mg base CX0 1 t.Cm t.Ov _ _:=AfJ T
 refine T.Tt.F.ok WN (fun vs H Q E h=>?_) (fun cdv A outer s H vs Q E hr h=>?_)
 ·obtain⟨r,dx,u,p,n,xs,rest,e,rfl,_⟩:=h
  rfl
 ·obtain⟨r,dx,u,p,n,xs,rest,e,rfl,he,hR,n1,n9,hne,hl,hG,hd,k⟩:=h
  refine⟨_,(Ad (Dc (Bc R0 (pv 1) Ak (Br _))
    (Ah FJ)
    Bj)
   (Ad (Dc (Bc AaO (pv 2) (Kf (v:=.int 8) rfl T.ApL.choose_spec ⟨_,rfl⟩) (Br _))
    (Ah FJ)
    Bj)
   (Ad (Ax (i:=3) WN.nd rfl (Or.inl rfl) (Aj (Zr.mono (by omega)) hr rfl T.Mu.m T.Mu.F.kp T.Mu.b .nil Ao (Aa (pv 0) (Aa (pv 2) Ac))))
   (Ad (Dc (W9 (M8 (Afh (pv 0) T.Ca.c T.Fz.m (HJ.mono (by omega)) hr T.Fz.b .nil Ao (Aa Dm Ac))))
    (Ah FJ)
    Bj)
   (Ah (Bb (AcD T.RD.m (AhU.mono (by omega)) hr rfl T.AwR T.Kq.b .nil Ao (Aa (pv 1) (Aa (pv 3) Ac))))))))),?_⟩
  refine⟨_,rfl,rfl,_,rfl,?_⟩
  refine Io (fun z=>by injection z with z;omega) ?_
  refine⟨_,rfl,_,_,rfl,rfl,_,rfl,?_⟩
  refine Io (fun z=>by omega) ?_
  refine⟨_,rfl,_,rfl,r,dx,u,p,xs,41::rest,e,rfl,he,hR,hne,hl,hG,hd,fun c hc=>by simpa using hc.symm,fun li rs H1 s1 hR1 nli hli hA=>?_⟩
  obtain⟨hd1,hp1⟩:=AiL hR.2.1 hd
  refine⟨_,rfl,r,dx,rf u _,rfl,hR1.1,(RJ u _).2.1,r,dx,u,p+(O5 xs).length,[41],(by rw[AyI];rfl),hR1,(by decide),fun AfH=>?_,fun hno=>?_⟩
  ·refine⟨_,rfl,?_⟩
   refine QS ?_
   have hS:(upd H1 r (.ins t.An dx (rf u (p+(O5 xs).length+[41].length)))) r=some (.ins t.An dx (rf u (p+(O5 xs).length+[41].length))):=Ae
   have sB:HQ r H1 (upd H1 r (.ins t.An dx (rf u (p+(O5 xs).length+[41].length)))):=HQ.upd
   generalize upd H1 r (.ins t.An dx (rf u (p+(O5 xs).length+[41].length)))=H2 at hS sB ⊢
   have nlr:li≠r:=fun z=>by rw[z,hR.1] at nli;cases nli
   have A2n:=sB _ _ nlr hli
   have hA2:=hA.keep (Kp.but sB hR1.1 (AxC T) (AxD T))
   refine⟨_,rfl,_,rfl,fun x dx' hx hdx hnx=>⟨x,dx',li,n,rfl,Ae,rfl,?_⟩⟩
   rw[Uw]
   have s3:Am H2 (upd (upd H2 dx' (.own x)) x (.ins t.Bv dx' (tf n li))):=(Am.upd hdx).over hx
   have hx2:(upd (upd H2 dx' (.own x)) x (.ins t.Bv dx' (tf n li))) x=some (.ins t.Bv dx' (tf n li)):=Ae
   generalize upd (upd H2 dx' (.own x)) x (.ins t.Bv dx' (tf n li))=H3 at s3 hx2 ⊢
   have nxr:x≠r:=fun z=>by rw[z,hS] at hx;cases hx
   have sH:HQ r H H2:=s1.trans sB
   have l9:=hA2.len
   refine k x H3 (sH.trans (Avu s3)) ⟨s3 _ _ hS,?_,hR.2.2⟩ (sH.none hx nxr) ⟨dx',li,rs,hx2,s3 _ _ A2n,nli,n9,l9,hA2.le,(hA2.keep (Kp.same s3)).at_⟩
   have:=(AiL hp1 (x:=[41]) (y:=rest) hd1).2
   exact this
  ·exfalso
   rw[hd1] at hno
   exact hno (by simp)
theorem AfK{k d:Nat}(hk:5≤k)(T:Txt K mg t)(Aoe:Aq P w K mg base CX0 k t.Gm t.R9 ["reader", "count", "depth"] (AhT t d)) :
  Aq P w K mg base CX0 (k+1) t.Iw t.Abb ["reader", "depth"] (ApY t d):=by
 have HJ:Aq P w K mg base CX0 1 t.CV t.Jv _ _:=Np T
 have Xa:Aq P w K mg base CX0 4 t.Fy t.PL _ _:=Abj T
 have ApZ:Aq P w K mg base CX0 5 t.Iz t.Abd _ _:=Aoc T
 refine T.O3.F.ok Af1 (fun vs H Q E h=>?_) (fun cdv A outer s H vs Q E hr h=>?_)
 ·obtain⟨r,dx,u,p,x,rest,e,rfl,_⟩:=h
  rfl
 ·obtain⟨r,dx,u,p,x,rest,e,rfl,he,hR,hG,hd,hst,k⟩:=h
  refine⟨_,(Ad (Ax (i:=2) Af1.nd rfl (Or.inl rfl) (Aj (Xa.mono (by omega)) hr rfl T.JZ.m T.JZ.F.kp T.JZ.b .nil Ao (Aa (pv 0) Ac)))
   (Ad (Dc (M8 (Afh (pv 0) T.Ca.c T.Fz.m (HJ.mono (by omega)) hr T.Fz.b .nil Ao (Aa Dm Ac)))
    (Ah (Bb (Aj (Aoe.mono (by omega)) hr rfl T.Tt.m T.Tt.F.kp T.Tt.b .nil Ao (Aa (pv 0) (Aa (pv 2) (Aa (Be Gi (pv 1) Ak) Ac))))))
    Bj)
   (Ah (Bb (Aj (ApZ.mono (by omega)) hr rfl T.AcN.m T.AcN.F.kp T.AcN.b .nil Ao (Aa (pv 0) (Aa (pv 2) Ac))))))),?_⟩
  cases x with
  | pth ss =>
   have hG0:∃ n0 ns,ss=ofN (n0::ns)∧(∀ n∈n0::ns,n<100)∧ns.length≤900:=by cases d <;> exact hG
   obtain⟨n0,ns,rfl,hn,hl⟩:=hG0
   have ex:(It.pth (ofN (n0::ns))).tx=dec n0++tails ns:=by simp only [It.tx];rw[AfI];rfl
   rw[ex] at hd k
   have h0:n0<100:=hn n0 A3V
   have hd':u.drop p=dec n0++(tails ns++rest):=by rw[hd,A4U]
   obtain⟨hdr,hle⟩:=AiL hR.2.1 hd'
   have nx:∀ c,(tails ns++rest)[0]?=some c→¬(48≤c∧c≤57):=fun c hc=>by
    cases ns with
    | nil=>exact(hst.stop c (by simpa [tails] using hc)).1
    | cons m td =>
     have:45=c:=by simpa [tails] using hc
     omega
   refine⟨_,rfl,r,dx,u,p,n0,tails ns++rest,rfl,hR,h0,hd',nx,?_⟩
   have hS:(upd H r (.ins t.An dx (rf u (p+(dec n0).length)))) r=some (.ins t.An dx (rf u (p+(dec n0).length))):=Ae
   refine⟨_,rfl,r,dx,rf u (p+(dec n0).length),rfl,hS,(RJ u _).2.1,r,dx,u,p+(dec n0).length,[42,40],(by rw[Ann];rfl),⟨hS,hle,hR.2.2⟩,(by decide),fun AfH=>?_,fun hno=>?_⟩
   ·exfalso
    rw[hdr] at AfH
    cases ns with
    | nil=>exact hst.star (by simpa [tails] using AfH)
    | cons m td=>simp[tails] at AfH
   ·refine⟨_,rfl,?_⟩
    refine QS ?_
    refine⟨_,rfl,_,rfl,r,dx,u,p+(dec n0).length,n0,ns,rest,rfl,⟨hS,hle,hR.2.2⟩,fun n h=>hn n (A4d _ h),hl,hdr,hst.stop,fun a H' s1 hR1 na hA=>?_⟩
    have na':H a=none:=by
     by_cases har:a=r
     ·rw[har,hS] at na;cases na
     ·rw[Aw har] at na;exact na
    refine k a H' (HQ.upd.trans s1) ?_ na' (by cases d <;> exact hA)
    rw[A3T,← Nat.add_assoc]
    exact hR1
  | tms n xs =>
   cases d with
   | zero=>exact hG.elim
   | succ d =>
    obtain⟨n1,n9,hne,hl,hGs⟩:=hG
    have ex:(It.tms n xs).tx=dec n++42::40::(O5 xs++[41]):=by simp only [It.tx]
    rw[ex] at hd k
    have h0:n<100:=by omega
    have hd':u.drop p=dec n++(42::40::(O5 xs++41::rest)):=by rw[hd];simp
    obtain⟨hdr,hle⟩:=AiL hR.2.1 hd'
    have nx:∀ c,(42::40::(O5 xs++41::rest):List Nat)[0]?=some c→¬(48≤c∧c≤57):=fun c hc=>by
     have:42=c:=by simpa using hc
     omega
    refine⟨_,rfl,r,dx,u,p,n,_,rfl,hR,h0,hd',nx,?_⟩
    have hS:(upd H r (.ins t.An dx (rf u (p+(dec n).length)))) r=some (.ins t.An dx (rf u (p+(dec n).length))):=Ae
    refine⟨_,rfl,r,dx,rf u (p+(dec n).length),rfl,hS,(RJ u _).2.1,r,dx,u,p+(dec n).length,[42,40],(by rw[Ann];rfl),⟨hS,hle,hR.2.2⟩,(by decide),fun AfH=>?_,fun hno=>?_⟩
    ·refine⟨_,rfl,?_⟩
     refine Ah1 ?_
     rw[Uw]
     obtain⟨A2o,A2p⟩:=AiL hle (x:=[42,40]) (y:=O5 xs++41::rest) hdr
     have hS2:(upd H r (.ins t.An dx (rf u (p+(dec n).length+[42,40].length)))) r=some (.ins t.An dx (rf u (p+(dec n).length+[42,40].length))):=Ae
     refine⟨_,rfl,_,rfl,_,rfl,_,_,rfl,rfl,r,dx,u,p+(dec n).length+[42,40].length,n,xs,rest,e+1,rfl,by omega,⟨hS2,A2p,hR.2.2⟩,n1,n9,hne,hl,hGs,A2o,fun a H' s1 hR1 na hA=>?_⟩
     have back:∀ b,(upd H r (.ins t.An dx (rf u (p+(dec n).length+[42,40].length)))) b=none→H b=none:=fun b hb=>by
      by_cases hbr:b=r
      ·rw[hbr,hS2] at hb;cases hb
      ·rw[Aw hbr] at hb;exact hb
     refine k a H' (HQ.upd.trans s1) ?_ (back a na) (AtJ.imp (fun b hb _=>back b hb) _ _ _ hA)
     have e9:p+(dec n++42::40::(O5 xs++[41])).length=p+(dec n).length+[42,40].length+(O5 xs).length+1:=by
      simp only [A3T,A3Z,A4z]
      omega
     rw[e9]
     exact hR1
    ·exfalso
     rw[hdr] at hno
     exact hno (by simp)
end
section
variable {P:Program}{w:World}{K:PySem.W.Frag}{mg:Str→Option Value}{base:Heap}{t:Adr}
theorem Adp{k d:Nat}(hk:1≤k)(T:Txt K mg t)(AiM:Aq P w K mg base CX0 k t.Iw t.Abb ["reader", "depth"] (ApY t d)) :
  Aq P w K mg base CX0 (k+1) t.Fw t.Nj ["reader", "depth"] (AhS t d):=by
 have HJ:Aq P w K mg base CX0 1 t.CV t.Jv _ _:=Np T
 refine T.Mu.F.ok Adl (fun vs H Q E h=>?_) (fun cdv A outer s H vs Q E hr h=>?_)
 ·obtain⟨r,dx,u,p,xs,rest,e,rfl,_⟩:=h
  rfl
 ·obtain⟨r,dx,u,p,xs,rest,e,rfl,he,hR,hne,hl,hG,hd,hrest,k⟩:=h
  obtain⟨x0,xs,rfl⟩:∃ y ys,xs=y::ys:=by
   cases xs with
   | nil=>exact absurd rfl hne
   | cons a b=>exact⟨a,b,rfl⟩
  simp only [O5] at hd k
  have hd':u.drop p=x0.tx++(Tw xs++rest):=by rw[hd,A4U]
  refine⟨_,(Ad (Ax (i:=2) Adl.nd rfl (Or.inl rfl) (HS (Aa (Aj (AiM.mono (by omega)) hr rfl T.O3.m T.O3.F.kp T.O3.b .nil Ao (Aa (pv 0) (Aa (pv 1) Ac))) Ac)))
   (Ad (AjR PassesOwn.never (M8 (Afh (pv 0) T.Ca.c T.Fz.m (HJ.mono (by omega)) hr T.Fz.b .nil Ao (Aa Dm Ac)))
    (Ah (DP (Dq (K:=K) PySem.F.plainAttrs_list PySem.F.slot_list_append PySem.F.type_list_append HX (pv 2) (Aa (Aj (AiM.mono (by omega)) hr rfl T.O3.m T.O3.F.kp T.O3.b .nil Ao (Aa (pv 0) (Aa (pv 1) Ac))) Ac)))))
   (Ah (Bb (pv 2))))),?_⟩
  refine⟨_,rfl,_,rfl,r,dx,u,p,x0,Tw xs++rest,e,rfl,he,hR,hG _ A3V,hd',Asw xs hrest,fun a H1 s1 hR1 na hA=>?_⟩
  obtain⟨hd1,hp1⟩:=AiL hR.2.1 hd'
  refine⟨(by show 1≤sizeLine;decide),fun li hli=>?_⟩
  have s2:Am H1 (upd H1 li (.lst [.ref a])):=.upd hli
  have hl2:(upd H1 li (.lst [.ref a])) li=some (.lst ([a].map V.ref)):=Ae
  have nlr:li≠r:=fun z=>by rw[z,hR1.1] at hli;cases hli
  have nli:H li=none:=s1.none hli nlr
  have a1:Aod t (upd H1 li (.lst [.ref a])) (fun b=>H b=none∧b≠li) d [a] [x0]:=⟨rfl,by simp,fun i b x e1 e2=>by
   cases i with
   | zero =>
    cases e1;cases e2
    exact AtJ.keep (Kp.same s2) d _ _ (AtJ.imp (fun b hb ⟨o,ho⟩=>⟨hb,fun z=>by rw[z,hli] at ho;cases ho⟩) d _ _ hA)
   | succ i=>simp at e1⟩
  generalize upd H1 li (.lst [.ref a])=H1' at s2 hl2 a1 ⊢
  refine⟨fun m σ H2=>∃(q:Nat) (rs:List Addr) (done todo:List It),σ=[some (.ref r),some (.int (e:Int)),some (.ref li)]∧xs=done++todo∧HQ r H H2∧Rd t H2 r dx u q∧q+(Tw todo).length=p+(x0.tx++Tw xs).length∧u.drop q=Tw todo++rest∧H2 li=some (.lst (rs.map V.ref))∧Aod t H2 (fun b=>H b=none∧b≠li) d rs (x0::done)∧m=todo.length,
   ⟨_,p+x0.tx.length,[a],[],xs,rfl,rfl,s1.trans (Avu s2),⟨s2 _ _ hR1.1,hR1.2⟩,by rw[A3T];omega,hd1,hl2,a1,rfl⟩,?_⟩
  rintro m σ H2 ⟨q,rs,done,todo,rfl,exs,s3,hR3,hq3,hd3,hl3,hA3,rfl⟩
  refine⟨_,rfl,r,dx,rf u q,rfl,hR3.1,(RJ u _).2.1,r,dx,u,q,[32],(by rw[AyJ];rfl),hR3,(by decide),fun AfH=>?_,fun hno=>?_⟩
  ·refine⟨_,rfl,?_⟩
   refine Ah1 ?_
   rw[hd3] at AfH
   cases todo with
   | nil =>
    exfalso
    simp only [Tw,A5T] at AfH
    cases rest with
    | nil=>simp at AfH
    | cons c rr =>
     have:=hrest c rfl
     simp at AfH
     omega
   | cons y td =>
    have hGy:Gd d y:=hG y (by rw[exs];simp)
    simp only [Tw] at hd3 hq3
    have A2q:u.drop q=[32]++(y.tx++(Tw td++rest)):=by rw[hd3];simp
    obtain⟨hd4,hq4⟩:=AiL hR3.2.1 A2q
    have hS4:(upd H2 r (.ins t.An dx (rf u (q+[32].length)))) r=some (.ins t.An dx (rf u (q+[32].length))):=Ae
    have hl4:(upd H2 r (.ins t.An dx (rf u (q+[32].length)))) li=some (.lst (rs.map V.ref)):=by rw[Aw nlr];exact hl3
    have s4:HQ r H2 (upd H2 r (.ins t.An dx (rf u (q+[32].length)))):=HQ.upd
    generalize upd H2 r (.ins t.An dx (rf u (q+[32].length)))=H4 at hS4 hl4 s4 ⊢
    refine⟨_,fun σ' H' h=>h,?_⟩
    refine⟨_,rfl,.inl ⟨rfl,_,SqL.of hl4⟩,_,rfl,_,rfl,r,dx,u,q+[32].length,y,Tw td++rest,e,rfl,he,⟨hS4,hq4,hR3.2.2⟩,hGy,hd4,Asw td hrest,fun b H5 s5 hR5 nb hB=>?_⟩
    obtain⟨hd5,_⟩:=AiL hq4 hd4
    have hl5:=s5 _ _ nlr hl4
    have lrs:rs.length≤901:=by
     have:=hA3.len
     have l2:=congrArg List.length exs
     rw[A3T] at l2
     rw[A3Z] at this hl
     omega
    refine⟨_,_,_,rfl,rfl,hl5,(by rw[A3S];exact Tf (by omega)),?_⟩
    have sB:HQ r H2 H5:=s4.trans s5
    have hA5:=hA3.keep (Kp.but sB hR3.1 (AxC T) (AxD T))
    have hB5:AtJ t H5 (fun b=>H b=none∧b≠li) d b y:=AtJ.imp (fun c hc _=>⟨(s3.trans s4).none hc (fun z=>by rw[z,hS4] at hc;cases hc),fun z=>by rw[z,hl4] at hc;cases hc⟩) d _ _ hB
    have nF:¬(H li=none∧li≠li):=fun z=>z.2 rfl
    have hA6:=(hA5.snoc hB5 (by omega)).keep (Kp.app (o:=.lst (rs.map V.ref++[V.ref b])) hl5 nF)
    refine⟨td.length,by simp,q+[32].length+y.tx.length,rs++[b],done++[y],td,rfl,by rw[exs];simp,?_,⟨?_,hR5.2⟩,?_,hd5,?_,?_,rfl⟩
    ·intro c o hc ec
     rw[Aw (Bw ec nli)]
     exact sB c o hc (s3 c o hc ec)
    ·rw[Aw nlr.symm];exact hR5.1
    ·rw[A3Z,A3T] at hq3
     simp only [A3Z,A4z]
     omega
    ·rw[Ae,A3W];rfl
    ·rw[← A5c]
     exact hA6
  ·refine⟨_,rfl,?_⟩
   refine QS ?_
   cases todo with
   | cons y td =>
    exfalso
    rw[hd3] at hno
    exact hno (by simp[Tw])
   | nil =>
    rw[A4Q] at exs
    subst exs
    simp only [Tw,A4z,A5J] at hq3
    rw[hq3] at hR3
    refine⟨_,rfl,k li rs H2 s3 hR3 nli hl3 ⟨hA3.len,hA3.le,fun i r x e1 e2=>AtJ.imp (fun b hb _=>hb.1) d _ _ (hA3.at_ i r x e1 e2)⟩⟩
theorem Aqa(T:Txt K mg t):∀ d:Nat,Aq P w K mg base CX0 (4*d+7) t.Fw t.Nj ["reader", "depth"] (AhS t d)
 | 0=>Adp (k:=6) (by decide) T (AfK (k:=5) (by decide) T ((AkC T).mono (by decide)))
 | d+1=>Adp (k:=4*d+10) (by omega) T (AfK (k:=4*d+9) (by omega) T (Amq (k:=4*d+7) (by omega) T (Aqa T d)))
theorem It.AyK:∀(d:Nat) (x:It),Gd d x→1≤x.tx.length
 | d,.pth ss,h=>by
  have hG0:∃ n0 ns,ss=ofN (n0::ns)∧(∀ n∈n0::ns,n<100)∧ns.length≤900:=by cases d <;> exact h
  obtain⟨n0,ns,rfl,hn,_⟩:=hG0
  have ex:(It.pth (ofN (n0::ns))).tx=dec n0++tails ns:=by simp only [It.tx];rw[AfI];rfl
  rw[ex,A3T]
  have:=(dec_is (hn n0 A3V)).l1
  omega
 | d,.tms n xs,h=>by
  simp only [It.tx,A3T,A3Z]
  omega
structure Row (u:List Nat) (xs:List It):Prop where
 le:xs.length≤900
 gd:∀ x∈xs,Gd 8 x
 tx:u=O5 xs
 ul:u.length≤1000000
def AwW (t:Adr):Sp:=fun vs H Q _=>∃(u:List Nat) (xs:List It),vs=[.str (tx u)]∧Row u xs ∧
 ∀(li:Addr) (rs:List Addr) (H':Hp),Am H H'→H li=none→H' li=some (.lst (rs.map V.ref))→ApW t H' 8 rs xs→Q (.ref li) H'
theorem Aqb(T:Txt K mg t):Aq P w K mg base CX0 40 t.JS t.Aeo ["text"] (AwW t):=by
 have Tv:Aq P w K mg base CX0 1 t.Dv t.Ng _ _:=Aap T
 have AfL:Aq P w K mg base CX0 1 t.BP t.Nf _ _:=Aeq T
 have Zr:Aq P w K mg base CX0 39 t.Fw t.Nj _ _:=Aqa T 8
 refine T.Af7.F.ok AaS (fun vs H Q E h=>?_) (fun cdv A outer s H vs Q E hr h=>?_)
 ·obtain⟨u,xs,rfl,_⟩:=h
  rfl
 ·obtain⟨u,xs,rfl,hW,k⟩:=h
  refine⟨_,(Ad (Dc (Bc R0 (pv 0) Dm (Br _))
    (Ah (Bb (HS Ac)))
    Bj)
   (Ad (Ax (i:=1) AaS.nd rfl (Or.inl rfl) (AcD T.Ca.m (AfL.mono (by decide)) hr rfl T.Ave T.Gg.b .nil Ao (Aa (pv 0) Ac)))
   (Ad (Ax (i:=2) AaS.nd rfl (Or.inl rfl) (Aj (Zr.mono (by decide)) hr rfl T.Mu.m T.Mu.F.kp T.Mu.b .nil Ao (Aa (pv 1) (Aa Ak Ac))))
   (Ad (Dc (W9 (M8 (AjY (pv 1) T.Ca.c T.Kc.m (Tv.mono (by decide)) hr T.Kc.b .nil Ao)))
    (Ah FJ)
    Bj)
   (Ah (Bb (pv 2))))))),?_⟩
  refine⟨_,rfl,rfl,_,rfl,?_⟩
  cases xs with
  | nil =>
   have eu:u=[]:=by rw[hW.tx];simp only [O5]
   refine Aki (by rw[eu];exact congrArg V.str (by decide +kernel)) ?_
   refine⟨A4f _,fun li hli=>?_⟩
   exact k li [] _ (.upd hli) hli Ae ⟨rfl,by simp,fun i r x e1 _=>by simp at e1⟩
  | cons x0 xs =>
   have u1:1≤u.length:=by
    have:=It.AyK 8 x0 (hW.gd _ A3V)
    rw[hW.tx]
    simp only [O5,A3T]
    omega
   refine Io (fun z=>?_) ?_
   ·injection z with z
    have:u=[]:=WL (z.trans (by decide +kernel))
    rw[this] at u1
    simp at u1
   refine⟨_,rfl,fun r dx hr1 hdx hne=>⟨r,dx,u,rfl,Ae,rfl,?_⟩⟩
   rw[Uw]
   have hR:Rd t (upd (upd H dx (.own r)) r (.ins t.An dx (rf u 0))) r dx u 0:=⟨Ae,A4f _,hW.ul⟩
   have s1:Am H (upd (upd H dx (.own r)) r (.ins t.An dx (rf u 0))):=(Am.upd hdx).over hr1
   generalize upd (upd H dx (.own r)) r (.ins t.An dx (rf u 0))=H1 at hR s1 ⊢
   refine⟨_,rfl,r,dx,u,0,x0::xs,[],0,rfl,by decide,hR,by simp,hW.le,hW.gd,by rw[A4Q];exact hW.tx,fun c hc=>by simp at hc,fun li rs H' s2 hR' nli hli hA=>?_⟩
   rw[Nat.zero_add,← hW.tx] at hR'
   refine⟨_,rfl,r,dx,rf u u.length,rfl,hR'.1,(RJ u _).1,r,dx,u,u.length,rfl,hR',_,rfl,?_⟩
   rw[decide_eq_true rfl]
   refine QS ?_
   have s3:Am H H':=fun b o e=>s2 b o (Bw e hr1) (s1 b o e)
   exact⟨_,rfl,k li rs H' s3 (s1.free nli) hli ⟨hA.len,hA.le,fun i r x e1 e2=>AtJ.to 8 _ _ (hA.at_ i r x e1 e2)⟩⟩
end
theorem Sms.AkD:∀{xs:List It},(∀ x∈xs,x.Sm)→Sms xs
 | [],_=>by simp only [Sms]
 | x::xs,h=>by
  simp only [Sms]
  exact⟨h x A3V,Sms.AkD fun y hy=>h y (A4d _ hy)⟩
theorem Gd.sm:∀(d:Nat) (x:It),Gd d x→x.Sm
 | d,.pth ss,h=>by
  have hG0:∃ n0 ns,ss=ofN (n0::ns)∧(∀ n∈n0::ns,n<100)∧ns.length≤900:=by cases d <;> exact h
  obtain⟨n0,ns,rfl,hn,_⟩:=hG0
  simp only [It.Sm]
  refine⟨by simp[ofN],fun s hs=>?_⟩
  obtain⟨n,hn',rfl⟩:=List.mem_map.mp hs
  have:=hn n hn'
  show n≤400
  omega
 | 0,.tms n xs,h=>h.elim
 | d+1,.tms n xs,h=>by
  obtain⟨h1,_,_,_,h5⟩:=h
  simp only [It.Sm]
  exact⟨h1,Sms.AkD fun y hy=>Gd.sm d y (h5 y hy)⟩
section
variable {P:Program}{w:World}{K:PySem.W.Frag}{mg:Str→Option Value}{base:Heap}{t:Adr}
def AyL:Sp:=fun vs H Q _=>∃(u:List Nat) (xs:List It),vs=[.str (tx u)]∧Row u xs∧szs xs≤400∧∀ q H',Am H H'→H q=none→H' q=some (.lst (vI (nus xs)))→Q (.ref q) H'
theorem Aqc(T:Txt K mg t):Aq P w K mg base CX0 41 t.IW t.Zf ["text"] AyL:=by
 have Ar5:Aq P w K mg base CX0 40 t.JS t.Aeo _ _:=Aqb T
 have Zo:Aq P w K mg base CX0 18 t.Fv t.Ni _ _:=Avn T 8
 have WY:Aq P w K mg base CX0 19 t.Eb t.Lb _ _:=Avq T 8
 refine T.Ld.F.ok AiK (fun vs H Q E h=>?_) (fun cdv A outer s H vs Q E hr h=>?_)
 ·obtain⟨u,xs,rfl,_⟩:=h
  rfl
 ·obtain⟨u,xs,rfl,hW,c',k1⟩:=h
  refine⟨_,(Ad (Ax (i:=1) AiK.nd rfl (Or.inl rfl) (Aj (Ar5.mono (by decide)) hr rfl T.Af7.m T.Af7.F.kp T.Af7.b .nil Ao (Aa (pv 0) Ac)))
   (Ad (Dc (Bc AaO (Aj (Zo.mono (by decide)) hr rfl T.Mt.m T.Mt.F.kp T.Mt.b .nil Ao (Aa (pv 1) Ac)) (Kf (v:=.int 400) rfl T.Ak7.choose_spec ⟨_,rfl⟩) (Br _))
    (Ah FJ)
    Bj)
   (Ah (Bb (Aj (WY.mono (by decide)) hr rfl T.JX.m T.JX.F.kp T.JX.b .nil Ao (Aa (pv 1) Ac)))))),?_⟩
  refine⟨_,rfl,u,xs,rfl,hW,fun li rs H1 s1 nli hli hA=>?_⟩
  refine⟨_,rfl,li,rs,_,rfl,hli,hA,fun H2 s2=>?_⟩
  refine⟨_,_,rfl,rfl,_,rfl,?_⟩
  refine Io (by omega) ?_
  exact⟨_,rfl,li,rs,xs,rfl,s2 _ _ hli,hA.same s2,Sms.AkD fun x hx=>Gd.sm 8 x (hW.gd x hx),c',fun q H3 s3 nq hq=>k1 q H3 ((s1.trans s2).trans s3) ((s1.trans s2).free nq) hq⟩
end
theorem Aqd(z:List Nat):∀(ys:List (List Nat)) (acc:Array Nat),(ys.map tx).foldl (fun acc p=>acc++(tx z).cps++p.cps) acc=acc++((ys.map fun y=>z++y).flatten).toArray
 | [],acc=>by simp
 | y::ys,acc=>by
  rw[A3X,A5R,Aqd z ys]
  simp[tx]
theorem AkE(z y:List Nat)(ys:List (List Nat)):Txt.join (tx z) ((y::ys).map tx)=tx (y++(ys.map fun y=>z++y).flatten):=by
 show Str.mk _=_
 simp only [A3X,List.drop_one,List.tail_cons,List.headD_cons]
 rw[Aqd]
 simp[tx]
theorem AkF:∀(ns:List Nat),((ns.map dec).map fun y=>[45]++y).flatten=tails ns
 | []=>rfl
 | n::r=>by
  rw[A3X,A3X,A4n,AkF r,tails]
  rfl
theorem AtF(n0:Nat)(ns:List Nat):Txt.join (tx [45]) (((n0::ns).map dec).map tx)=tx (Nq (n0::ns)):=by
 rw[A3X,AkE,AkF,Nq]
def more:List (List Nat)→List Nat
 | []=>[]
 | ps::r=>32::(Nq ps++more r)
structure Okp (ps:List Nat):Prop where
 ne:1≤ps.length
 le:ps.length≤900
 bd:∀ n∈ps,n<100
def AyM (ps:List Nat)(pss:List (List Nat)):List Nat:=Nq ps++more pss
def rT:List (List Nat)→List Nat
 | []=>[]
 | p::r=>AyM p r
def nT (pss:List (List Nat)):List Int:=((pss.map ofN).map Yg).flatten
theorem Asx(pss:List (List Nat))(p:List Nat):nT (pss++[p])=nT pss++Yg (ofN p):=by
 unfold nT
 simp
theorem AtG{z:List Int}{a:Int}(b:Int):Yg ((z++[a])++[b])=Yg (z++[a])++WW a b:=by
 cases z with
 | nil=>simp[Yg,go]
 | cons s r=>rw[A5c,A5c,Yg,AfB,lst_snoc,Yg,A5c]
theorem AcO(a b:List Nat):ofN (a++b)=ofN a++ofN b:=by unfold ofN;rw[A3W]
theorem AyN(pss:List (List Nat))(q:List Nat)(a n:Nat):nT (pss++[(q++[a])++[n]])=nT (pss++[q++[a]])++WW (a:Int) (n:Int):=by
 rw[Asx,Asx,AcO (q++[a]) [n],AcO q [a]]
 show nT pss++Yg ((ofN q++[(a:Int)])++[(n:Int)])=nT pss++Yg (ofN q++[(a:Int)])++WW (a:Int) (n:Int)
 rw[AtG,A4U]
def gt (row:List Nat)(i:Nat):Nat:=row.getD i 0
def un (row:List Nat)(i:Nat):Prop:=gt row (i+1)=gt row i+1∨gt row i=gt row (i+1)+1
instance (row:List Nat) (i:Nat):Decidable (un row i):=inferInstanceAs (Decidable (_∨_))
def Leg (row:List Nat)(j k:Nat):Prop:=∃ d:Int,(d=1∨d = -1)∧∀ i,j≤i→i<k→(gt row (i+1):Int)=(gt row i:Int)+d
theorem Avx{row:List Nat}{j:Nat}{d:Int}:∀{q:Nat},(∀ i,j≤i→i<j+q→(gt row (i+1):Int)=(gt row i:Int)+d)→(gt row (j+q):Int)=(gt row j:Int)+d*(q:Int)
 | 0,_=>by simp
 | q+1,h=>by
  have h1:=Avx (q:=q) fun i h1 h2=>h i h1 (by omega)
  have h2:=h (j+q) (by omega) (by omega)
  rw[show j+(q+1)=j+q+1 by omega,h2,h1]
  have:d*((q+1:Nat):Int)=d*(q:Int)+d:=by rw[show((q+1:Nat):Int)=(q:Int)+1 by omega,Int.mul_add,Int.mul_one]
  omega
theorem Avy{row:List Nat}{j k:Nat}(hj:j≤k)(hk:k<row.length)(L:Leg row j k):WW (gt row j:Int) (gt row k:Int)=ofN ((row.drop (j+1)).take (k-j)):=by
 obtain⟨d,hd,hL⟩:=L
 have at':∀ q,q≤k-j→(gt row (j+q):Int)=(gt row j:Int)+d*(q:Int):=fun q hq=>Avx fun i h1 h2=>hL i h1 (by omega)
 have e:=at' (k-j) (A3U _)
 rw[show j+(k-j)=k by omega] at e
 have ab:Ak8 ((gt row k:Int)-(gt row j:Int))=((k-j:Nat):Int):=by
  unfold Ak8
  rcases hd with h | h <;> subst h
  ·split <;> omega
  ·split <;> omega
 have sg:∀ q:Nat,1≤q→q≤k-j→(if (gt row k:Int)-(gt row j:Int)<0 then (-1:Int) else 1)*(q:Int)=d*(q:Int):=fun q h1 h2=>by
  rcases hd with h | h <;> subst h
  ·rw[if_neg (by omega)]
  ·rw[if_pos (by omega)]
 refine A4G fun i=>?_
 by_cases hi:i<k-j
 ·have h1:=ApQ (a:=(gt row j:Int)) (b:=(gt row k:Int)) (q:=i+1) (by omega) (by rw[ab];omega)
  rw[show i+1-1=i by omega] at h1
  rw[h1,sg (i+1) (by omega) (by omega),← at' (i+1) (by omega)]
  have hl:j+(i+1)<row.length:=by omega
  unfold ofN
  rw[A4e,List.getElem?_take_of_lt hi,A4Z,show j+1+i=j+(i+1) by omega,A3R hl]
  show some _=some _
  congr 1
  unfold gt
  rw[A4c,A3R hl]
  rfl
 ·have l1:=AfC (gt row j:Int) (gt row k:Int)
  rw[ab] at l1
  rw[A4o (by omega),A4o (by unfold ofN;rw[A3S,A4l,A4r];omega)]
theorem Avz{row:List Nat}{j k:Nat}(hj:j≤k)(hk:k<row.length)(L:Leg row j k):ofN (row.take (j+1))++WW (gt row j:Int) (gt row k:Int)=ofN (row.take (k+1)):=by
 rw[Avy hj hk L,← AcO]
 congr 1
 have e:k+1=(j+1)+(k-j):=by omega
 rw[e,show row.take ((j+1)+(k-j))=row.take (j+1)++(row.drop (j+1)).take (k-j) from List.take_add]
theorem Leg.one(row:List Nat)(j:Nat):Leg row j j:=⟨1,.inl rfl,fun i h1 h2=>by omega⟩
theorem Leg.step{row:List Nat}{j k:Nat}(hj:j≤k)(L:Leg row j k)(u:un row k)(same:j<k→(gt row (k+1):Int)-gt row k=(gt row k:Int)-gt row (k-1)):Leg row j (k+1):=by
 by_cases h:j=k
 ·subst h
  rcases u with u | u
  ·exact⟨1,.inl rfl,fun i h1 h2=>by have:i=j:=(by omega);subst this;omega⟩
  ·exact⟨-1,.inr rfl,fun i h1 h2=>by have:i=j:=(by omega);subst this;omega⟩
 ·obtain⟨d,hd,hL⟩:=L
  refine⟨d,hd,fun i h1 h2=>?_⟩
  by_cases q:i<k
  ·exact hL i h1 q
  ·have:i=k:=by omega
   subst this
   have s:=same (by omega)
   have e:=hL (i-1) (by omega) (by omega)
   rw[show i-1+1=i by omega] at e
   omega
def cs (n:Nat):Nat:=(dec n).length+1
def cP (p:List Nat):Nat:=(p.map cs).sum
def cT (pss:List (List Nat)):Nat:=(pss.map cP).sum
theorem AwX(p:List Nat)(n:Nat):cP (p++[n])=cP p+cs n:=by unfold cP;simp
theorem Asy(pss:List (List Nat))(p:List Nat):cT (pss++[p])=cT pss+cP p:=by unfold cT;simp
theorem AkG:∀ r,(tails r).length=cP r
 | []=>rfl
 | n::r=>by
  rw[tails,A3Z,A3T,AkG r]
  show _=(dec n).length+1+cP r
  omega
theorem Zt{p:List Nat}(h:p≠[]):(Nq p).length+1=cP p:=by
 cases p with
 | nil=>exact absurd rfl h
 | cons n r =>
  rw[Nq,A3T,AkG]
  show _=(dec n).length+1+cP r
  omega
theorem Aqe:∀ r,(∀ p∈r,p≠[])→(more r).length=cT r
 | [],_=>rfl
 | p::r,h=>by
  have h1:=Zt (h p A3V)
  rw[more,A3Z,A3T,Aqe r fun q hq=>h q (A4d _ hq)]
  show _=cP p+cT r
  omega
theorem AyO{pss:List (List Nat)}(h:pss≠[])(hp:∀ p∈pss,p≠[]):(rT pss).length+1=cT pss:=by
 cases pss with
 | nil=>exact absurd rfl h
 | cons p r =>
  have h1:=Zt (hp p A3V)
  show(AyM p r).length+1=cP p+cT r
  unfold AyM
  rw[A3T,Aqe r fun q hq=>hp q (A4d _ hq)]
  omega
def must(row:List Nat)(P:Nat→Bool)(i:Nat):Prop:=i=0∨i+1=row.length∨P i=true∨P (i+1)=true∨(gt row (i+1):Int)-gt row i≠(gt row i:Int)-gt row (i-1)
def gs (row:List Nat)(i:Nat):Prop:=i=0∨¬un row (i-1)∨i+1=row.length∨¬un row i∨gt row (i-1)=gt row (i+1)
instance (row:List Nat) (i:Nat):Decidable (gs row i):=inferInstanceAs (Decidable (_∨_))
def Av0 (row:List Nat)(k:Nat):Nat:=((List.range k).map fun i=>if gs row i then cs (gt row i) else 0).sum
def nb (row:List Nat)(k:Nat):Nat:=((List.range k).map fun i=>if 0<i∧¬un row (i-1) then 1 else 0).sum
theorem AhV(row:List Nat)(k:Nat):Av0 row (k+1)=Av0 row k+(if gs row k then cs (gt row k) else 0):=by
 unfold Av0
 rw[A5d,A3W,A5M]
 simp
theorem Aof(row:List Nat)(k:Nat):nb row (k+1)=nb row k+(if 0<k∧¬un row (k-1) then 1 else 0):=by
 unfold nb
 rw[A5d,A3W,A5M]
 simp
structure Prt (row:List Nat) (P:Nat→Bool):Prop where
 z:P 0=false
 u:∀ i,i<row.length→P i=false→0<i→un row (i-1)
theorem AwY{row:List Nat}{P:Nat→Bool}(hP:Prt row P){i:Nat}(hi:i<row.length)(h:gs row i):must row P i:=by
 by_cases i0:i=0
 ·exact .inl i0
 by_cases il:i+1=row.length
 ·exact .inr (.inl il)
 by_cases p0:P i=true
 ·exact .inr (.inr (.inl p0))
 by_cases p1:P (i+1)=true
 ·exact .inr (.inr (.inr (.inl p1)))
 refine .inr (.inr (.inr (.inr ?_)))
 have u0:=hP.u i hi (by simpa using p0) (by omega)
 have u1:=hP.u (i+1) (by omega) (by simpa using p1) (by omega)
 rw[show i+1-1=i by omega] at u1
 rcases h with h | h | h | h | h
 ·exact absurd h i0
 ·exact absurd u0 h
 ·exact absurd h il
 ·exact absurd u1 h
 ·unfold un at u0 u1
  rw[show i-1+1=i by omega] at u0
  omega
structure Wt (row:List Nat) (P:Nat→Bool) (k:Nat) (pss:List (List Nat)) (p:List Nat) (j:Nat):Prop where
 q:∃ q,p=q++[gt row j]
 jk:j<k
 num:nT (pss++[p])=ofN (row.take (j+1))
 leg:Leg row j (k-1)
 skip:∀ i,j<i→i<k→¬must row P i
 bd:∀ q∈pss++[p],q≠[]∧∀ n∈q,n<100
 cost:Av0 row k≤cT (pss++[p])
 cnt:nb row k+1≤(pss++[p]).length
 len:pss.length≤k∧∀ q∈pss++[p],q.length≤2*k
section
variable {row:List Nat}{P:Nat→Bool}{k:Nat}{pss:List (List Nat)}{p:List Nat}{j:Nat}
theorem Asz(hb:∀ n∈row,n<100)(hk:k<row.length):gt row k<100:=by
 unfold gt
 rw[A4c,A3R hk]
 exact hb _ (A4j hk)
theorem As0(hk:k<row.length):row.take (k+1)=row.take k++[gt row k]:=by
 unfold gt
 rw[A4p,A3R hk,A4c,A3R hk]
 rfl
theorem Av1(hb:∀ n∈row,n<100)(h0:0<row.length):Wt row P 1 [] [gt row 0] 0:=by
 refine⟨⟨[],rfl⟩,by omega,?_,Leg.one row 0,fun i h1 h2=>by omega,fun q hq=>?_,?_,?_,A4f _,fun q hq=>?_⟩
 ·rw[As0 h0]
  simp[nT,ofN,Yg,go]
 ·rw[List.mem_singleton.mp hq]
  exact⟨by simp,fun n hn=>by rw[List.mem_singleton.mp hn];exact Asz hb h0⟩
 ·rw[AhV]
  have:gs row 0:=.inl rfl
  rw[if_pos this]
  simp[Av0,cT,cP]
 ·rw[Aof,if_neg (by omega)]
  simp[nb]
 ·rw[List.mem_singleton.mp hq]
  simp
theorem Wt.A0z(W:Wt row P k pss p j)(hP:Prt row P)(hk:k<row.length)(hp:P k=false):Leg row j k:=by
 have jk:=W.jk
 have u:=hP.u k hk hp (by omega)
 have:=Leg.step (k:=k-1) (by omega) W.leg u fun h=>?_
 ·rwa [show k-1+1=k by omega] at this
 ·have nm:=W.skip (k-1) h (by omega)
  refine Classical.byContradiction fun z=>nm (.inr (.inr (.inr (.inr ?_))))
  exact z
theorem Wt.A0G(W:Wt row P k pss p j)(hP:Prt row P)(hk:k<row.length)(nm:¬must row P k):Wt row P (k+1) pss p j:=by
 have jk:=W.jk
 have hp:P k=false:=by
  cases e:P k with
  | false=>rfl
  | true=>exact absurd (.inr (.inr (.inl e))) nm
 refine⟨W.q,by omega,W.num,by rw[Nat.add_sub_cancel];exact W.A0z hP hk hp,fun i h1 h2=>?_,W.bd,?_,?_,by have:=W.len.1;omega,fun q hq=>by have:=W.len.2 q hq;omega⟩
 ·by_cases q:i=k
  ·rw[q];exact nm
  ·exact W.skip i h1 (by omega)
 ·rw[AhV,if_neg fun z=>nm (AwY hP hk z)]
  exact W.cost
 ·rw[Aof,if_neg fun z=>z.2 (hP.u k hk hp z.1)]
  exact W.cnt
theorem A0H(row:List Nat)(k:Nat):(if gs row k then cs (gt row k) else 0)≤cs (gt row k):=by split <;> omega
theorem Wt.ext(W:Wt row P k pss p j)(hP:Prt row P)(hb:∀ n∈row,n<100)(hk:k<row.length)(hp:P k=false):Wt row P (k+1) pss (p++[gt row k]) k:=by
 have jk:=W.jk
 obtain⟨q,eq⟩:=W.q
 refine⟨⟨p,rfl⟩,by omega,?_,by rw[Nat.add_sub_cancel];exact Leg.one row k,fun i h1 h2=>by omega,fun r hr=>?_,?_,?_,by have:=W.len.1;omega,fun r hr=>?_⟩
 ·have n:=W.num
  rw[eq] at n ⊢
  rw[AyN,n]
  exact Avz (by omega) hk (W.A0z hP hk hp)
 ·rcases List.mem_append.mp hr with h | h
  ·exact W.bd r (A4S _ h)
  ·rw[List.mem_singleton.mp h]
   refine⟨by simp,fun n hn=>?_⟩
   rcases List.mem_append.mp hn with h | h
   ·exact(W.bd p (A4t _ A3V)).2 n h
   ·rw[List.mem_singleton.mp h];exact Asz hb hk
 ·have c1:=W.cost
  have c2:=A0H row k
  rw[Asy] at c1
  rw[AhV,Asy,AwX]
  omega
 ·have c1:=W.cnt
  rw[Aof,if_neg fun z=>z.2 (hP.u k hk hp z.1)]
  rw[A3T] at c1 ⊢
  exact c1
 ·rcases List.mem_append.mp hr with h | h
  ·have:=W.len.2 r (A4S _ h);omega
  ·have:=W.len.2 p (A4t _ A3V)
   rw[List.mem_singleton.mp h,A3T]
   simp only [A4R]
   omega
theorem Wt.done(W:Wt row P row.length pss p j):nT (pss++[p])=ofN row:=by
 have jk:=W.jk
 have ej:j+1=row.length:=Classical.byContradiction fun z=>W.skip (row.length-1) (by omega) (by omega) (.inr (.inl (by omega)))
 rw[W.num,ej,A4s]
end
def Aer (v:List Nat)(i:Nat):Prop:=i=0∨i+1=v.length∨gt v (i-1)=gt v (i+1)
instance (v:List Nat) (i:Nat):Decidable (Aer v i):=inferInstanceAs (Decidable (_∨_))
def Yh (v:List Nat)(k:Nat):List Nat:=((List.range k).filter fun i=>decide (Aer v i)).map (gt v)
def stp (v:List Nat):List Nat:=Yh v v.length
def cv (v:List Nat):Nat:=((List.range v.length).map fun i=>if Aer v i then cs (gt v i) else 0).sum
structure Run (v:List Nat):Prop where
 ne:v≠[]
 u:∀ i,i+1<v.length→un v i
 bd:∀ n∈v,n<100
theorem Aes(v:List Nat)(k:Nat):Yh v (k+1)=Yh v k++(if Aer v k then [gt v k] else []):=by
 unfold Yh
 rw[A5d,List.filter_append,A3W]
 congr 1
 by_cases h:Aer v k
 ·rw[if_pos h,List.filter_cons_of_pos (p:=fun i=>decide (Aer v i)) (decide_eq_true h)];rfl
 ·rw[if_neg h,List.filter_cons_of_neg (p:=fun i=>decide (Aer v i)) (by rw[decide_eq_false h];simp)];rfl
theorem As1{v:List Nat}(R:Run v):Prt v fun _=>false:=⟨rfl,fun i hi _ h0=>R.u (i-1) (by omega)⟩
theorem AtH{v:List Nat}(R:Run v){i:Nat}(hi:i<v.length):Aer v i↔must v (fun _=>false) i:=by
 constructor
 ·rintro(h | h | h)
  ·exact .inl h
  ·exact .inr (.inl h)
  ·by_cases i0:i=0
   ·exact .inl i0
   by_cases il:i+1=v.length
   ·exact .inr (.inl il)
   have u0:=R.u (i-1) (by omega)
   have u1:=R.u i (by omega)
   unfold un at u0 u1
   rw[show i-1+1=i by omega] at u0
   exact .inr (.inr (.inr (.inr (by omega))))
 ·rintro(h | h | h | h | h)
  ·exact .inl h
  ·exact .inr (.inl h)
  ·cases h
  ·cases h
  ·by_cases i0:i=0
   ·exact .inl i0
   by_cases il:i+1=v.length
   ·exact .inr (.inl il)
   have u0:=R.u (i-1) (by omega)
   have u1:=R.u i (by omega)
   unfold un at u0 u1
   rw[show i-1+1=i by omega] at u0
   exact .inr (.inr (by omega))
theorem Av2{v:List Nat}(R:Run v):∀ k,k+1≤v.length→∃ j,Wt v (fun _=>false) (k+1) [] (Yh v (k+1)) j
 | 0,h=>by
  have:Yh v 1=[gt v 0]:=by
   rw[Aes]
   have:Aer v 0:=.inl rfl
   rw[if_pos this]
   rfl
  exact⟨0,by rw[this];exact Av1 R.bd h⟩
 | k+1,h=>by
  obtain⟨j,W⟩:=Av2 R k (by omega)
  rw[Aes]
  by_cases q:Aer v (k+1)
  ·rw[if_pos q]
   exact⟨k+1,W.ext (As1 R) R.bd (by omega) rfl⟩
  ·rw[if_neg q,A4Q]
   exact⟨j,W.A0G (As1 R) (by omega) fun z=>q ((AtH R (by omega)).mpr z)⟩
theorem AfM{v:List Nat}(R:Run v):Yg (ofN (stp v))=ofN v∧stp v≠[]∧(∀ n∈stp v,n<100)∧(stp v).length≤2*v.length:=by
 have l:0<v.length:=List.length_pos_iff.mpr R.ne
 obtain⟨j,W⟩:=Av2 R (v.length-1) (by omega)
 rw[show v.length-1+1=v.length by omega] at W
 have:=W.done
 have b:=W.bd (stp v) (by show stp v∈[]++[Yh v v.length];exact A3V)
 have c:=W.len.2 (stp v) (by show stp v∈[]++[Yh v v.length];exact A3V)
 refine⟨?_,b.1,b.2,c⟩
 rw[show nT ([]++[Yh v v.length])=Yg (ofN (stp v)) by simp[nT,stp]] at this
 exact this
theorem AcP{v r:List Nat}{i:Nat}(h:i<v.length):gt (v++r) i=gt v i:=by
 unfold gt
 rw[A4c,A4i h,← A4c]
theorem AkH(v r:List Nat)(i:Nat):gt (v++r) (v.length+i)=gt r i:=by
 unfold gt
 rw[A4c,A4h (by omega),show v.length+i-v.length=i by omega,← A4c]
theorem As2{v r:List Nat}{i:Nat}(h:i+1<v.length):un (v++r) i↔un v i:=by
 unfold un
 rw[AcP h,AcP (by omega)]
section
variable {v r:List Nat}
end
def Rns:List (List Nat)→Prop
 | []=>True
 | [v]=>Run v
 | v::v'::r=>Run v∧¬(gt v' 0=gt v (v.length-1)+1∨gt v (v.length-1)=gt v' 0+1)∧Rns (v'::r)
theorem J7:∀{vss:List (List Nat)},Rns vss→∀ v∈vss,Run v
 | [],_,v,h=>by cases h
 | [v'],h,v,hv=>by rw[List.mem_singleton.mp hv];exact h
 | v'::v2::r,h,v,hv=>by
  rcases List.mem_cons.mp hv with z | z
  ·rw[z];exact h.1
  ·exact J7 h.2.2 v z
theorem AkI:∀{vss:List (List Nat)} {v w:List Nat},Rns (vss++[v])→Run w→¬(gt w 0=gt v (v.length-1)+1∨gt v (v.length-1)=gt w 0+1)→Rns (vss++[v]++[w])
 | [],v,w,h,R,b=>⟨h,b,R⟩
 | [u],v,w,h,R,b=>⟨h.1,h.2.1,AkI (vss:=[]) h.2.2 R b⟩
 | u::u'::r,v,w,h,R,b=>⟨h.1,h.2.1,AkI (vss:=u'::r) h.2.2 R b⟩
theorem As3:∀{vss:List (List Nat)} {v w:List Nat},Rns (vss++[v])→Run w→gt w 0=gt v 0→Rns (vss++[w])
 | [],v,w,h,R,b=>R
 | [u],v,w,h,R,b=>⟨h.1,by rw[b];exact h.2.1,R⟩
 | u::u'::r,v,w,h,R,b=>⟨h.1,h.2.1,As3 (vss:=u'::r) h.2.2 R b⟩
theorem AwZ{v:List Nat}{n:Nat}(R:Run v)(hn:n<100)(u:n=gt v (v.length-1)+1∨gt v (v.length-1)=n+1):Run (v++[n]):=by
 have vl:0<v.length:=List.length_pos_iff.mpr R.ne
 refine⟨by simp,fun i hi=>?_,fun m hm=>?_⟩
 ·rw[A3T] at hi
  simp only [A4R] at hi
  by_cases q:i+1<v.length
  ·exact(As2 q).mpr (R.u i q)
  ·have e:i=v.length-1:=by omega
   unfold un
   rw[e,show v.length-1+1=v.length+0 by omega,AkH,AcP (by omega)]
   exact u
 ·rcases List.mem_append.mp hm with h | h
  ·exact R.bd m h
  ·rw[List.mem_singleton.mp h];exact hn
theorem AyP{vss:List (List Nat)}(h:Rns vss):nT (vss.map stp)=ofN vss.flatten:=by
 have:∀ v∈vss,Run v:=J7 h
 clear h
 induction vss with
 | nil=>rfl
 | cons v r ih =>
  have h1:=(AfM (this v A3V)).1
  have h2:=ih fun u hu=>this u (A4d _ hu)
  unfold nT at h2 ⊢
  rw[A3X,A3X,A3X,A4n,h1,h2,A4n,AcO]
section
variable {P:Program}{w:World}{K:PySem.W.Frag}{mg:Str→Option Value}{base:Heap}{t:Adr}
theorem As4{v:List Nat}{k:Nat}(h:k<v.length):atI (vI (ofN v)) (k:Int)=some (.int (gt v k:Int)):=Ed (by omega) (by
 rw[A4m]
 unfold ofN gt
 refine WM ?_
 rw[A4e,A3R h,A4c,A3R h]
 rfl)
theorem Aet(v:List Nat):(vI (ofN v)).length=v.length:=by rw[Bd];unfold ofN;rw[A3S]
def Axa (K:PySem.W.Frag):Sp:=fun vs H Q _=>∃(l:Addr) (v:List Nat) (k:Nat),vs=[.ref l,.int (k:Int)]∧SqL K H l (vI (ofN v))∧k<v.length∧Q (.bl (decide (Aer v k))) H
theorem Ar6(T:Txt K mg t):Aq P w K mg base CX0 1 t.M4 t.AhF ["path", "k"] (Axa K):=by
 refine T.AjH.F.ok Arw (fun vs H Q E h=>?_) (fun cdv A outer s H vs Q E hr h=>?_)
 ·obtain⟨l,v,k,rfl,_⟩:=h
  rfl
 ·obtain⟨l,v,k,rfl,hS,hk,kk⟩:=h
  refine⟨_,(Ad (Dc (PW.pt (pw_or (Bc R0 (pv 1) Ak (Br _)) (pw_or1 (Bc R0 (pv 1) (Be AaN (Bo (Bl (K:=K)) rfl T.HN Es (Aa (pv 0) Ac)) Ak) (Br _)))))
    (Ah (Bb XM))
    Bj)
   (Ah (Bb (ArW R0 (Cq (Bm (K:=K)) (pv 0) (Be AaN (pv 1) Ak) (fun _ _=>rfl)) (Cq (Bm (K:=K)) (pv 0) (Be Gi (pv 1) Ak) (fun _ _=>rfl)) (Br _))))),?_⟩
  refine⟨_,rfl,rfl,_,rfl,?_⟩
  by_cases h0:k=0
  ·have:Aer v k:=.inl h0
   rw[decide_eq_true this] at kk
   exact Aki (by rw[h0];rfl) (Ah1 kk)
  refine Io (fun z=>h0 (by have:=V.int.inj z;omega)) ?_
  refine⟨_,rfl,_,rfl,_,_,rfl,.inl hS,_,_,rfl,rfl,rfl,_,rfl,?_⟩
  rw[Aet]
  by_cases h1:k+1=v.length
  ·have:Aer v k:=.inr (.inl h1)
   rw[decide_eq_true this] at kk
   exact Aki (congrArg V.int (by omega)) kk
  refine Io (fun z=>h1 (by have:=V.int.inj z;omega)) ?_
  have e1:atI (vI (ofN v)) ((k:Int)-1)=some (.int (gt v (k-1):Int)):=by rw[show(k:Int)-1=((k-1:Nat):Int) by omega];exact As4 (by omega)
  have e2:atI (vI (ofN v)) ((k:Int)+1)=some (.int (gt v (k+1):Int)):=by rw[show(k:Int)+1=((k+1:Nat):Int) by omega];exact As4 (by omega)
  refine⟨_,rfl,_,rfl,_,_,rfl,rfl,_,_,_,_,rfl,rfl,hS,e1,_,rfl,_,rfl,_,_,rfl,rfl,_,_,_,_,rfl,rfl,hS,e2,rfl,?_⟩
  have:decide ((V.int (gt v (k-1):Int):V)=V.int (gt v (k+1):Int))=decide (Aer v k):=decide_eq_decide.mpr ⟨fun z=>.inr (.inr (by have:=V.int.inj z;omega)),fun z=>by
   rcases z with z | z | z
   ·exact absurd z h0
   ·exact absurd z h1
   ·rw[z]⟩
  rw[this]
  exact kk
theorem Axb(ns:List Nat)(h:∀ n∈ns,n<100):(((ns.map dec).map tx).map (·.length)).sum≤2*ns.length:=by
 induction ns with
 | nil=>exact A3U _
 | cons n r ih =>
  have h1:=(dec_is (h n A3V)).l2
  have h2:=ih fun m hm=>h m (A4d _ hm)
  rw[A3X,A3X,A3X,A4L,Bf,A3Z]
  omega
def A0I (K:PySem.W.Frag):Sp:=fun vs H Q _=>∃(l:Addr) (v:List Nat),vs=[.ref l]∧SqL K H l (vI (ofN v))∧Run v∧v.length≤400∧∀ H',Am H H'→Q (.str (tx (Nq (stp v)))) H'
theorem Ajp(T:Txt K mg t):Aq P w K mg base CX0 2 t.FZ t.Tq ["path"] (A0I K):=by
 have AtK:Aq P w K mg base CX0 1 t.M4 t.AhF _ _:=Ar6 T
 refine T.RC.F.ok Aji (fun vs H Q E h=>?_) (fun cdv A outer s H vs Q E hr h=>?_)
 ·obtain⟨l,v,rfl,_⟩:=h
  rfl
 ·obtain⟨l,v,rfl,hS,R,A3L,k⟩:=h
  have hsz:sizeLine=16777216:=sizeLine_eq
  obtain⟨sn,sne,sbd,sl⟩:=AfM R
  refine⟨_,(Ah (Bb (Dq (K:=K) PySem.F.plainAttrs_str PySem.F.slot_str_join PySem.F.type_str_join (JN (K:=K)) Dm (Aa (Gk (Dp.mk (Bh:=[0]) (Nc:=["k", "path"]) rfl (by decide +kernel) (by decide +kernel) (Cu (sc0:=Ab Cy) rfl (by decide +kernel)) rfl rfl rfl (by decide +kernel) (fun k j h=>match k,h with | 0,h=>by obtain rfl:=Option.some.inj h;exact⟨_,rfl,rfl,rfl⟩ | _+1,h=>by simp at h)) rfl (Kg rfl T.Jc (Aa (Bo (Bl (K:=K)) rfl T.HN Es (Aa (pv 0) Ac)) Ac)) (fun _ _ _ _ _=>.one (M8 (Aj (AtK.mono (by decide)) hr rfl T.AjH.m T.AjH.F.kp T.AjH.b .nil Ao (Aa (pv 1) (Aa (pv 0) Ac))))) (fun _ _ _ _ _=>(Hg Afg rfl T.Avc AqZ (Aa (Cq (Bm (K:=K)) (pv 1) (pv 0) (fun _ _=>rfl)) Ac)))) Ac)))),?_⟩
  refine⟨rfl,_,rfl,_,_,rfl,.inl hS,_,rfl,(by omega),(by rw[Aet];omega),?_⟩
  rw[A4m,Aet]
  refine Ti (lo:=0) (n:=v.length) (fun i ys H2=>H2=H∧ys=vS ((Yh v i).map dec)) ⟨rfl,rfl⟩ ?_ ?_ ?_ ?_
  ·rintro i ys H2 hi ⟨rfl,rfl⟩
   rw[Bs,A3S]
   unfold Yh
   rw[A3S]
   have:=List.length_filter_le (fun i=>decide (Aer v i)) (List.range i)
   rwa [A4H] at this
  ·omega
  ·rintro i ys H2 hi ⟨rfl,rfl⟩
   refine⟨_,rfl,_,rfl,l,v,i,(by rw[A5f];rfl),hS,hi,?_⟩
   refine⟨_,rfl,?_⟩
   have st:=Aes v i
   refine Mz (fun q=>?_) (fun q=>?_)
   ·rw[if_pos q] at st
    have e1:atI (vI (ofN v)) (0+(i:Int))=some (.int (gt v i:Int)):=by rw[A5f];exact As4 hi
    have AyQ:=Asz R.bd hi
    refine⟨_,rfl,_,rfl,_,_,_,_,rfl,rfl,hS,e1,_,rfl,?_,?_⟩
    ·show(gt v i).log2<1920
     exact A6h (Nat.log2_le_self _) (by omega)
    ·show CN v.length _ i (vS ((Yh v i).map dec)++[.str (Str.ofString (toString ((gt v i:Nat):Int)))]) H2
     rw[Avr,Ia]
     refine CN.of hi ⟨rfl,?_⟩
     rw[st,A3W]
     rfl
   ·rw[if_neg q,A4Q] at st
    exact CN.of hi ⟨rfl,by rw[st]⟩
  ·rintro ys H2 q ⟨rfl,rfl⟩ hq
   refine⟨_,_,((stp v).map dec).map tx,rfl,rfl,SqL.of (by rw[Ae,QV];rfl),?_,?_⟩
   ·have:=Axb (stp v) sbd
    have d1:Str.length "-" = 1:=by decide +kernel
    rw[A3S,A3S,d1]
    omega
   ·rw[show(("-" : Str))=tx [45] from by decide +kernel]
    obtain⟨a,r,e⟩:∃ a r,stp v=a::r:=by
     cases e:stp v with
     | nil=>exact absurd e sne
     | cons a r=>exact⟨a,r,rfl⟩
    have k':=k _ (.upd (o:=.lst (vS ((Yh v v.length).map dec))) hq)
    rw[e] at k' ⊢
    rw[AtF]
    exact k'
end
section
variable {P:Program}{w:World}{K:PySem.W.Frag}{mg:Str→Option Value}{base:Heap}{t:Adr}
structure NL (H:Hp) (y:Addr) (rs:List Addr) (tss:List (List Int)):Prop where
 h:H y=some (.lst (rs.map V.ref))
 l:rs.length=tss.length
 r:∀(i:Nat) (a:Addr) (ks:List Int),rs[i]?=some a→tss[i]?=some ks→H a=some (.lst (vI ks))
theorem NL.same{H H':Hp}{y:Addr}{rs:List Addr}{tss:List (List Int)}(N:NL H y rs tss)(s:Am H H'):NL H' y rs tss:=⟨s _ _ N.h,N.l,fun i a ks h1 h2=>s _ _ (N.r i a ks h1 h2)⟩
theorem NL.at{H:Hp}{y:Addr}{rs:List Addr}{tss:List (List Int)}(N:NL H y rs tss){i:Nat}{a:V}(h:(rs.map V.ref)[i]?=some a):∃ r ks,a=.ref r∧rs[i]?=some r∧tss[i]?=some ks∧H r=some (.lst (vI ks)):=by
 rw[A4e] at h
 cases e:rs[i]? with
 | none=>rw[e] at h;cases h
 | some r =>
  rw[e] at h
  cases h
  have hi:i<tss.length:=by rw[← N.l];exact(List.getElem?_eq_some_iff.mp e).1
  exact⟨r,tss[i],rfl,rfl,A3R hi,N.r i r _ e (A3R hi)⟩
theorem As5{α:Type}(xs:List α)(x:α):atI (xs++[x]) (-1)=some x:=by
 unfold atI ixN
 rw[if_neg (by decide),if_pos (by rw[A3T];simp;omega)]
 have:(-1+((xs++[x]).length:Int)).toNat=xs.length:=by rw[A3T];simp;omega
 rw[this]
 show(xs++[x])[xs.length]?=some x
 rw[A4h (A3U _),A4N]
 rfl
theorem UJ{α:Type}:∀(l:List α),l=[]∨∃ a b,l=a++[b]
 | []=>.inl rfl
 | x::l=>by
  rcases UJ l with h | ⟨a,b,h⟩
  ·exact .inr ⟨[],x,by rw[h];rfl⟩
  ·exact .inr ⟨x::a,b,by rw[h];rfl⟩
theorem NL.Axc{H:Hp}{y r:Addr}{rs:List Addr}{tss:List (List Int)}{z z':List Int}(N:NL H y (rs++[r]) (tss++[z]))(hy:y∉rs++[r])(nd:(rs++[r]).Nodup):NL (upd H r (.lst (vI z'))) y (rs++[r]) (tss++[z']):=by
 have l:=N.l
 rw[A3T,A3T] at l
 simp only [A4R] at l
 refine⟨by rw[Aw fun e=>hy (by rw[e];exact A4t _ A3V)];exact N.h,by rw[A3T,A3T];simp only [A4R];omega,fun i a ks h1 h2=>?_⟩
 by_cases hi:i<rs.length
 ·rw[A4i hi] at h1
  rw[A4i (by omega)] at h2
  have ne:a≠r:=fun e=>by
   have:=(List.nodup_append.mp nd).2.2 a (A3Y h1) r A3V
   exact this e
  rw[Aw ne]
  exact N.r i a ks (by rw[A4i hi];exact h1) (by rw[A4i (by omega)];exact h2)
 ·have il:=(List.getElem?_eq_some_iff.mp h1).1
  rw[A3T] at il
  simp only [A4R] at il
  have e:i=rs.length:=by omega
  subst e
  rw[A4h (A3U _),A4N] at h1
  rw[A4h (by omega),show rs.length-tss.length=0 by omega] at h2
  cases h1
  cases h2
  exact Ae
theorem NL.more{H:Hp}{y r:Addr}{rs:List Addr}{tss:List (List Int)}{z:List Int}(N:NL H y rs tss)(hr:H r=some (.lst (vI z)))(hy:y∉rs)(ry:r≠y):NL (upd H y (.lst ((rs++[r]).map V.ref))) y (rs++[r]) (tss++[z]):=by
 have l:=N.l
 refine⟨Ae,by rw[A3T,A3T,l];rfl,fun i a ks h1 h2=>?_⟩
 by_cases hi:i<rs.length
 ·rw[A4i hi] at h1
  rw[A4i (by omega)] at h2
  rw[Aw fun e=>hy (by rw[← e];exact A3Y h1)]
  exact N.r i a ks h1 h2
 ·have il:=(List.getElem?_eq_some_iff.mp h1).1
  rw[A3T] at il
  simp only [A4R] at il
  have e:i=rs.length:=by omega
  subst e
  rw[A4h (A3U _),A4N] at h1
  rw[A4h (by omega),show rs.length-tss.length=0 by omega] at h2
  cases h1
  cases h2
  rw[Aw ry]
  exact hr
def AtL (K:PySem.W.Frag):Sp:=fun vs H Q _=>∃(l:Addr) (row:List Nat),vs=[.ref l]∧SqL K H l (vI (ofN row))∧(∀ n∈row,n<100)∧row.length≤400∧∀(y:Addr) (rs:List Addr) (vss:List (List Nat)) (H':Hp),Am H H'→NL H' y rs (vss.map ofN)→Rns vss→vss.flatten=row→Q (.ref y) H'
theorem AhW{vss:List (List Nat)}(h:∀ v∈vss,v≠[]):vss.length≤vss.flatten.length:=by
 induction vss with
 | nil=>exact A3U _
 | cons v r ih =>
  have h1:=List.length_pos_iff.mpr (h v A3V)
  have h2:=ih fun u hu=>h u (A4d _ hu)
  rw[A4n,A3T,A3Z]
  omega
theorem AtM(T:Txt K mg t):Aq P w K mg base CX0 1 t.QF t.Ak4 ["row"] (AtL K):=by
 refine T.parted.F.ok AhB (fun vs H Q E h=>?_) (fun cdv A outer s H vs Q E hr h=>?_)
 ·obtain⟨l,row,rfl,_⟩:=h
  rfl
 ·obtain⟨l,row,rfl,hS,hb,r400,k⟩:=h
  have hsz:sizeLine=16777216:=sizeLine_eq
  refine⟨_,(Ad (Ax (i:=1) AhB.nd rfl (Or.inl rfl) (HS Ac))
   (Ad (GD PassesOwn.never rfl (Bq (K:=K) (pv 0)) (Dd (i:=2) AhB.nd rfl (Or.inl rfl))
    (Ah (Dc (PW.pt (pw_and (Atm (K:=K) (pv 1) (fun _=>rfl)) (pw_and1 (Bc R0 (Bo Ape rfl T.Ax9 Au2 (Aa (Be AaN (pv 2) (Cq (Bm (K:=K)) (Cq (Bm (K:=K)) (pv 1) (Apc AjT Ak) (fun _ _=>rfl)) (Apc AjT Ak) (fun _ _=>rfl))) Ac)) Ak (Br _)))))
     (Ah (DP (Dq (K:=K) PySem.F.plainAttrs_list PySem.F.slot_list_append PySem.F.type_list_append HX (Cq (Bm (K:=K)) (pv 1) (Apc AjT Ak) (fun _ _=>rfl)) (Aa (pv 2) Ac))))
     (Ah (DP (Dq (K:=K) PySem.F.plainAttrs_list PySem.F.slot_list_append PySem.F.type_list_append HX (pv 1) (Aa (HS (Aa (pv 2) Ac)) Ac)))))))
   (Ah (Bb (pv 1))))),?_⟩
  refine⟨A4f _,fun y ny=>?_⟩
  have s1:Am H (upd H y (.lst [])):=.upd ny
  have hy1:(upd H y (.lst [])) y=some (.lst (([]:List Addr).map V.ref)):=Ae
  generalize upd H y (.lst [])=H1 at s1 hy1 ⊢
  refine⟨_,rfl,_,rfl,⟨_,s1.seq hS⟩,GF (K:=K) (a:=l) (xs:=vI (ofN row)) (fun i σ H2=>∃(vss:List (List Nat)) (rs:List Addr) (v2:Option V),σ=[some (.ref l),some (.ref y),v2]∧Am H H2∧NL H2 y rs (vss.map ofN)∧(∀ r∈rs,H r=none)∧y∉rs∧rs.Nodup∧Rns vss∧vss.flatten=row.take i)
   ⟨[],[],none,rfl,s1,⟨hy1,rfl,fun i a ks h=>by simp at h⟩,fun r h=>(by cases h),(by simp),List.nodup_nil,trivial,rfl⟩ (fun i σ H2 _ ⟨_,_,_,_,g,_⟩=>g.seq hS) ?_ ?_⟩
  ·rintro i x σ H2 hx ⟨vss,rs,v2,rfl,s2,N,fr,yr,nd,R,fl⟩
   have il:i<row.length:=by have:=(List.getElem?_eq_some_iff.mp hx).1;rwa [Aet] at this
   obtain rfl:x=.int (gt row i:Int):=by
    have e:=As4 (v:=row) il
    unfold atI at e
    have:ixN (vI (ofN row)).length (i:Int)=some i:=by
     have:=Arb (n:=(vI (ofN row)).length) (i:=(i:Int)) (by omega) (by rw[Aet];omega)
     rwa [A4m] at this
    rw[this] at e
    have e:(vI (ofN row))[i]?=some (.int (gt row i:Int)):=e
    rw[hx] at e
    exact Option.some.inj e
   have AyQ:=Asz hb il
   have tk:=As0 il
   have vl:vss.length≤400:=by
    have:=AhW fun v hv=>(J7 R v hv).ne
    rw[fl,A4l] at this
    omega
   have rl:rs.length=vss.length:=by have:=N.l;rwa [A3S] at this
   have Av3:Run [gt row i]:=⟨by simp,fun i hi=>by simp at hi,fun n hn=>by rw[List.mem_singleton.mp hn];exact AyQ⟩
   refine⟨_,rfl,_,.inl ⟨_,SqL.of N.h,rfl⟩,?_⟩
   have A0J:∀ r,H2 r=none→Rns (vss++[[gt row i]])→(fun(i:Nat) (σ:St) (H2:Hp)=>∃(vss:List (List Nat)) (rs:List Addr) (v2:Option V),σ=[some (.ref l),some (.ref y),v2]∧Am H H2∧NL H2 y rs (vss.map ofN)∧(∀ r∈rs,H r=none)∧y∉rs∧rs.Nodup∧Rns vss∧vss.flatten=row.take i) (i+1) [some (.ref l),some (.ref y),some (.int (gt row i:Int))] (upd (upd H2 r (.lst [.int (gt row i:Int)])) y (.lst (rs.map V.ref++[.ref r]))):=fun r nr R'=>by
    have s3:Am H2 (upd H2 r (.lst [.int (gt row i:Int)])):=.upd nr
    have ry:r≠y:=fun e=>by have:=N.h;rw[← e,nr] at this;cases this
    have rn:r∉rs:=fun z=>by
     obtain⟨j,hj,e⟩:=A5a z
     have:=N.r j r _ (by rw[A3R hj,e]) (A3R (by rw[← N.l];exact hj))
     rw[nr] at this
     cases this
    have N3:=(N.same s3).more (r:=r) (z:=ofN [gt row i]) (by rw[Ae];rfl) yr ry
    refine⟨vss++[[gt row i]],rs++[r],_,rfl,(s2.trans s3).over ny,?_,fun r' hr'=>?_,fun z=>?_,List.nodup_append.mpr ⟨nd,by simp,fun a ha b hb e=>?_⟩,R',?_⟩
    ·have e1:rs.map V.ref++[V.ref r]=(rs++[r]).map V.ref:=by rw[A3W];rfl
     have e2:(vss++[[gt row i]]).map ofN=vss.map ofN++[ofN [gt row i]]:=by rw[A3W];rfl
     rw[e1,e2]
     exact N3
    ·rcases List.mem_append.mp hr' with h | h
     ·exact fr r' h
     ·rw[List.mem_singleton.mp h];exact s2.free nr
    ·rcases List.mem_append.mp z with h | h
     ·exact yr h
     ·exact ry (List.mem_singleton.mp h).symm
    ·rw[List.mem_singleton.mp hb] at e
     rw[e] at ha
     exact rn ha
    ·rw[A5v,fl,tk]
     simp
   rcases UJ vss with e | ⟨ws,v,e⟩
   ·have er:rs=[]:=List.length_eq_zero_iff.mp (by rw[rl,e];rfl)
    have ee:(rs.map V.ref).isEmpty=true:=by rw[er];rfl
    rw[ee]
    refine QS ?_
    refine QS ?_
    refine⟨_,rfl,.inl ⟨rfl,_,SqL.of N.h⟩,_,rfl,(by show 1≤sizeLine;decide),fun r nr=>?_⟩
    refine⟨_,_,_,rfl,rfl,(Am.upd nr) _ _ N.h,(by rw[A3S];omega),?_⟩
    exact A0J r nr (by rw[e];exact Av3)
   ·obtain⟨rs0,r,er⟩:∃ rs0 r,rs=rs0++[r]:=by
     rcases UJ rs with z | ⟨a,b,z⟩
     ·rw[z,e,A3T] at rl
      simp at rl
     ·exact⟨a,b,z⟩
    have Rv:=J7 R v (by rw[e];exact A4t _ A3V)
    have v0:=List.length_pos_iff.mpr Rv.ne
    have A3M:v.length≤row.length:=by
     have h1:v.length≤vss.flatten.length:=by
      rw[e,A5v,A3T]
      simp
     rw[fl,A4l] at h1
     omega
    have ee:(rs.map V.ref).isEmpty=false:=by rw[er,A3W];simp
    rw[ee]
    refine Ah1 ?_
    have N':NL H2 y (rs0++[r]) (ws.map ofN++[ofN v]):=by
     have:(ws++[v]).map ofN=ws.map ofN++[ofN v]:=by rw[A3W];rfl
     rw[← er,← this,← e]
     exact N
    have rl0:rs0.length=ws.length:=by
     have:=N'.l
     rw[A3T,A3T,A3S] at this
     simpa using this
    have hr2:H2 r=some (.lst (vI (ofN v))):=N'.r rs0.length r (ofN v) (by rw[A4h (A3U _),A4N];rfl) (by rw[A4h (by rw[A3S];omega),A3S,rl0,A4N];rfl)
    have aL:atI (rs.map V.ref) (-1)=some (.ref r):=by rw[er,A3W];exact As5 _ _
    have bL:atI (vI (ofN v)) (-1)=some (.int (gt v (v.length-1):Int)):=by
     rcases UJ v with z | ⟨v1,m,z⟩
     ·exact absurd z Rv.ne
     ·have:vI (ofN v)=vI (ofN v1)++[.int (m:Int)]:=by rw[z,AcO];unfold vI;rw[A3W];rfl
      rw[this,As5]
      have:gt v (v.length-1)=m:=by
       rw[z,show(v1++[m]).length-1=v1.length+0 by rw[A3T];simp,AkH]
       rfl
      rw[this]
    refine⟨_,rfl,_,rfl,_,rfl,_,_,_,_,rfl,rfl,SqL.of N.h,aL,_,rfl,_,_,_,_,rfl,rfl,SqL.of hr2,bL,_,_,rfl,rfl,_,rfl,rfl,_,rfl,?_⟩
    by_cases u:gt row i=gt v (v.length-1)+1∨gt v (v.length-1)=gt row i+1
    ·refine Aki (congrArg V.int (by show(if (gt row i:Int)-(gt v (v.length-1):Int)<0 then -((gt row i:Int)-(gt v (v.length-1):Int)) else (gt row i:Int)-(gt v (v.length-1):Int))=1;split <;> omega)) ?_
     refine⟨_,rfl,_,rfl,_,_,_,_,rfl,rfl,SqL.of N.h,aL,.inl ⟨rfl,_,SqL.of hr2⟩,_,rfl,_,_,_,rfl,rfl,hr2,(by rw[Aet];omega),?_⟩
     have ea:vI (ofN v)++[.int (gt row i:Int)]=vI (ofN (v++[gt row i])):=by rw[AcO];unfold vI;rw[A3W];rfl
     rw[ea]
     have Rn:=AwZ Rv AyQ u
     refine⟨ws++[v++[gt row i]],rs,_,rfl,s2.over (fr r (by rw[er];exact A4t _ A3V)),?_,fr,yr,nd,?_,?_⟩
     ·have e2:(ws++[v++[gt row i]]).map ofN=ws.map ofN++[ofN (v++[gt row i])]:=by rw[A3W];rfl
      rw[e2,er]
      exact N'.Axc (by rw[← er];exact yr) (by rw[← er];exact nd)
     ·rw[e] at R
      exact As3 R Rn (AcP v0)
     ·rw[e] at fl
      rw[A5v] at fl ⊢
      rw[tk,← fl]
      simp
    ·refine Io (fun z=>u (by
      have z:(if (gt row i:Int)-(gt v (v.length-1):Int)<0 then -((gt row i:Int)-(gt v (v.length-1):Int)) else (gt row i:Int)-(gt v (v.length-1):Int))=1:=V.int.inj z
      split at z <;> omega)) ?_
     refine⟨_,rfl,.inl ⟨rfl,_,SqL.of N.h⟩,_,rfl,(by show 1≤sizeLine;decide),fun r' nr'=>?_⟩
     refine⟨_,_,_,rfl,rfl,(Am.upd nr') _ _ N.h,(by rw[A3S];omega),?_⟩
     refine A0J r' nr' ?_
     rw[e] at R ⊢
     exact AkI R Av3 u
  ·rintro σ H2 ⟨vss,rs,v2,rfl,s2,N,fr,yr,nd,R,fl⟩
   rw[Aet,A4s] at fl
   exact⟨_,rfl,k y rs vss H2 s2 N R fl⟩
theorem Ano:∀(r:List (List Nat)),((r.map Nq).map fun y=>[32]++y).flatten=more r
 | []=>rfl
 | p::r=>by
  rw[A3X,A3X,A4n,Ano r,more]
  rfl
theorem join_rows(pss:List (List Nat)):Txt.join (tx [32]) ((pss.map Nq).map tx)=tx (rT pss):=by
 cases pss with
 | nil=>simp[Txt.join,Builtin.Str.glued,tx,Str.empty,rT]
 | cons p r =>
  rw[A3X,AkE,Ano]
  rfl
theorem Av4{p:List Nat}(h:∀ n∈p,n<100):cP p≤3*p.length:=by
 induction p with
 | nil=>exact A3U _
 | cons n r ih =>
  have h1:=(dec_is (h n A3V)).l2
  have h2:=ih fun m hm=>h m (A4d _ hm)
  show(dec n).length+1+cP r≤3*(r.length+1)
  omega
theorem AtN{vss:List (List Nat)}(h:∀ v∈vss,Run v):((((vss.map stp).map Nq).map tx).map (·.length)).sum≤6*vss.flatten.length:=by
 induction vss with
 | nil=>exact A3U _
 | cons v r ih =>
  have R:=h v A3V
  obtain⟨_,ne,bd,le⟩:=AfM R
  have h1:=Zt ne
  have h2:=Av4 bd
  have h3:=ih fun u hu=>h u (A4d _ hu)
  rw[A3X,A3X,A3X,A3X,A4L,Bf,A4n,A3T]
  omega
def Av5 (K:PySem.W.Frag):Sp:=fun vs H Q _=>∃(l:Addr) (row:List Nat),vs=[.ref l]∧SqL K H l (vI (ofN row))∧(∀ n∈row,n<100)∧row.length≤400∧∀(vss:List (List Nat)) (H':Hp),Am H H'→Rns vss→vss.flatten=row→Q (.str (tx (rT (vss.map stp)))) H'
theorem Av6(T:Txt K mg t):Aq P w K mg base CX0 3 t.PJ t.Af5 ["row"] (Av5 K):=by
 have Av7:Aq P w K mg base CX0 1 t.QF t.Ak4 _ _:=AtM T
 have AkJ:Aq P w K mg base CX0 2 t.FZ t.Tq _ _:=Ajp T
 refine T.shown.F.ok Ava (fun vs H Q E h=>?_) (fun cdv A outer s H vs Q E hr h=>?_)
 ·obtain⟨l,row,rfl,_⟩:=h
  rfl
 ·obtain⟨l,row,rfl,hS,hb,r400,k⟩:=h
  have hsz:sizeLine=16777216:=sizeLine_eq
  refine⟨_,(Ah (Bb (Dq (K:=K) PySem.F.plainAttrs_str PySem.F.slot_str_join PySem.F.type_str_join (JN (K:=K)) Dm (Aa (Gk (Dp.mk (Bh:=[]) (Nc:=["path"]) rfl (by decide +kernel) (by decide +kernel) (Cu (sc0:=Ab Nb) rfl (by decide +kernel)) rfl rfl rfl (by decide +kernel) (fun _ _ h=>by simp at h)) rfl (Bq (K:=K) (Aj (Av7.mono (by decide)) hr rfl T.parted.m T.parted.F.kp T.parted.b .nil Ao (Aa (pv 0) Ac))) (fun _ _ _ _ _=>.nil) (fun _ _ _ _ _=>(Aj (AkJ.mono (by decide)) hr rfl T.RC.m T.RC.F.kp T.RC.b .nil Ao (Aa (pv 0) Ac)))) Ac)))),?_⟩
  refine⟨rfl,_,rfl,l,row,rfl,hS,hb,r400,fun y rs vss H1 s1 N R fl=>?_⟩
  have all:=J7 R
  have vl:vss.length≤400:=by
   have:=AhW fun v hv=>(all v hv).ne
   rw[fl] at this
   omega
  have rl:rs.length=vss.length:=by have:=N.l;rwa [A3S] at this
  have vle:∀ v∈vss,v.length≤400:=fun v hv=>by
   have:v.length≤vss.flatten.length:=by
    obtain⟨a,b,e⟩:=List.append_of_mem hv
    rw[e,A5v,A4n,A3T,A3T]
    omega
   rw[fl] at this
   omega
  refine⟨_,rfl,⟨_,SqL.of N.h⟩,De (K:=K) (a:=y) (xs:=rs.map V.ref) (fun i ys H2=>Am H1 H2∧ys=vS (((vss.take i).map stp).map Nq)) ⟨.refl _,rfl⟩ ?_ ?_ ?_ ?_⟩
  ·rintro i ys H2 hi ⟨s2,rfl⟩
   refine⟨SqL.of (s2 _ _ N.h),?_⟩
   rw[Bs,A3S,A3S,A4l]
   omega
  ·rw[A3S];omega
  ·rintro i x ys H2 hi hx ⟨s2,rfl⟩
   obtain⟨r,ks,rfl,h1,h2,h3⟩:=(N.same s2).at hx
   rw[A4e] at h2
   cases hv:vss[i]? with
   | none=>rw[hv] at h2;cases h2
   | some v =>
    rw[hv] at h2
    obtain rfl:ofN v=ks:=Option.some.inj h2
    have vm:=A3Y hv
    refine FN.no ?_
    refine⟨_,rfl,r,v,rfl,SqL.of h3,all v vm,vle v vm,fun H3 s3=>?_⟩
    dsimp only
    rw[Ia]
    refine CN.of hi ⟨s2.trans s3,?_⟩
    rw[A4p,hv,A3W,A3W]
    rfl
  ·rintro ys H2 q ⟨s2,rfl⟩ hq
   rw[A3S,rl,A4s]
   refine⟨_,_,((vss.map stp).map Nq).map tx,rfl,rfl,SqL.of (by rw[Ae,QV]),?_,?_⟩
   ·have:=AtN all
    have d1:Str.length " " = 1:=by decide +kernel
    rw[fl] at this
    rw[A3S,A3S,A3S,d1]
    omega
   ·rw[show((" " : Str))=tx [32] from by decide +kernel,join_rows]
    exact k vss _ ((s1.trans s2).new hq) R fl
theorem Aqf:∀{vss wss:List (List Nat)},Rns vss→Rns wss→vss.flatten=wss.flatten→vss=wss
 | [],[],_,_,_=>rfl
 | [],w::r,_,R,e=>by
  have:=(J7 R w A3V).ne
  rw[A6b,A4n] at e
  exact absurd (List.append_eq_nil_iff.mp e.symm).1 this
 | v::r,[],R,_,e=>by
  have:=(J7 R v A3V).ne
  rw[A6b,A4n] at e
  exact absurd (List.append_eq_nil_iff.mp e).1 this
 | v::r,w::q,R,S,e=>by
  have Rv:=J7 R v A3V
  have Sw:=J7 S w A3V
  rw[A4n,A4n] at e
  have key:∀{v w:List Nat} {r q:List (List Nat)},Rns (v::r)→Rns (w::q)→v++r.flatten=w++q.flatten→¬v.length<w.length:=fun {v w r q} R S e lt=>by
   have Rv:=J7 R v A3V
   have Sw:=J7 S w A3V
   have vp:0<v.length:=List.length_pos_iff.mpr Rv.ne
   match r,R with
   | [],R =>
    have:=congrArg List.length e
    rw[A6b,A4Q,A3T] at this
    omega
   | v2::r2,R =>
    have V2:=J7 R v2 (by simp)
    have p2:0<v2.length:=List.length_pos_iff.mpr V2.ne
    have h:=Sw.u (v.length-1) (by omega)
    rw[← As2 (r:=q.flatten) (by omega),← e] at h
    unfold un at h
    have a1:gt (v++(v2::r2).flatten) (v.length-1)=gt v (v.length-1):=AcP (by omega)
    have a2:gt (v++(v2::r2).flatten) (v.length-1+1)=gt v2 0:=by rw[show v.length-1+1=v.length+0 by omega,AkH,A4n,AcP p2]
    rw[a1,a2] at h
    exact R.2.1 h
  have n1:=key R S e
  have n2:=key S R e.symm
  have hv:=List.append_inj e (by omega)
  have R':Rns r:=match r,R with
   | [],_=>trivial
   | _::_,R=>R.2.2
  have S':Rns q:=match q,S with
   | [],_=>trivial
   | _::_,S=>S.2.2
  rw[hv.1,Aqf R' S' hv.2]
open Classical in
noncomputable def prt (row:List Nat):List (List Nat):=if h:∃ vss,Rns vss∧vss.flatten=row then h.choose else []
theorem AyR{row:List Nat}{vss:List (List Nat)}(R:Rns vss)(e:vss.flatten=row):prt row=vss:=by
 have h:∃ vss,Rns vss∧vss.flatten=row:=⟨vss,R,e⟩
 unfold prt
 rw[dif_pos h]
 exact Aqf h.choose_spec.1 R (h.choose_spec.2.trans e.symm)
noncomputable def shT (row:List Nat):List Nat:=rT ((prt row).map stp)
structure Shn (row:List Nat):Prop where
 r:Rns (prt row)
 e:(prt row).flatten=row
def AyS (K:PySem.W.Frag):Sp:=fun vs H Q _=>∃(l:Addr) (row:List Nat),vs=[.ref l]∧SqL K H l (vI (ofN row))∧(∀ n∈row,n<100)∧row.length≤400∧∀ H',Am H H'→Shn row→Q (.str (tx (shT row))) H'
theorem AyT(T:Txt K mg t):Aq P w K mg base CX0 3 t.PJ t.Af5 ["row"] (AyS K):=(Av6 T).imp fun vs H Q E ⟨l,row,e,hS,hb,hl,k⟩=>⟨l,row,e,hS,hb,hl,fun vss H' s R fl=>by
 have p:=AyR R fl
 have:=k H' s ⟨by rw[p];exact R,by rw[p];exact fl⟩
 unfold shT at this
 rwa [p] at this⟩
theorem AhX{n:Nat}(h:n<100):∀ c∈dec n,c≠47∧c≠44:=fun c hc=>by have:=(dec_is h).dg c hc;omega
theorem AiN:∀{r:List Nat},(∀ n∈r,n<100)→∀ c∈tails r,c≠47∧c≠44
 | [],_,c,hc=>by cases hc
 | n::r,h,c,hc=>by
  rw[tails] at hc
  rcases List.mem_cons.mp hc with z | z
  ·omega
  ·rcases List.mem_append.mp z with z | z
   ·exact AhX (h n A3V) c z
   ·exact AiN (fun m hm=>h m (A4d _ hm)) c z
theorem Ar7{p:List Nat}(h:∀ n∈p,n<100):∀ c∈Nq p,c≠47∧c≠44:=fun c hc=>by
 cases p with
 | nil=>cases hc
 | cons n r =>
  rcases List.mem_append.mp hc with z | z
  ·exact AhX (h n A3V) c z
  ·exact AiN (fun m hm=>h m (A4d _ hm)) c z
theorem Anp{p:It→Prop}(k:∀ x,p x→∀ c∈x.tx,c≠47∧c≠44):∀{xs:List It},(∀ x∈xs,p x)→∀ c∈Tw xs,c≠47∧c≠44
 | [],_,c,hc=>by rw[Tw] at hc;cases hc
 | x::xs,h,c,hc=>by
  rw[Tw] at hc
  rcases List.mem_cons.mp hc with z | z
  ·omega
  ·rcases List.mem_append.mp z with z | z
   ·exact k x (h x A3V) c z
   ·exact Anp k (fun y hy=>h y (A4d _ hy)) c z
theorem Anq{p:It→Prop}(k:∀ x,p x→∀ c∈x.tx,c≠47∧c≠44){xs:List It}(h:∀ x∈xs,p x):∀ c∈O5 xs,c≠47∧c≠44:=fun c hc=>by
 cases xs with
 | nil=>rw[O5] at hc;cases hc
 | cons x xs =>
  rw[O5] at hc
  rcases List.mem_append.mp hc with z | z
  ·exact k x (h x A3V) c z
  ·exact Anp k (fun y hy=>h y (A4d _ hy)) c z
theorem Aqg:∀(d:Nat) (x:It),Gd d x→∀ c∈x.tx,c≠47∧c≠44
 | d,.pth ss,h,c,hc=>by
  rw[Gd] at h
  obtain⟨n0,ns,rfl,hb,_⟩:=h
  rw[It.tx,AfI] at hc
  exact Ar7 hb c hc
 | 0,.tms _ _,h,c,hc=>by rw[Gd] at h;exact h.elim
 | d+1,.tms n xs,h,c,hc=>by
  rw[Gd] at h
  obtain⟨h1,h2,h3,h4,h5⟩:=h
  rw[It.tx] at hc
  rcases List.mem_append.mp hc with z | z
  ·exact AhX (by omega) c z
  ·rcases List.mem_cons.mp z with z | z
   ·omega
   ·rcases List.mem_cons.mp z with z | z
    ·omega
    ·rcases List.mem_append.mp z with z | z
     ·exact Anq (Aqg d) h5 c z
     ·have:=List.mem_singleton.mp z;omega
def Wr (u:List Nat)(ks:List Int):Prop:=∃ xs,Row u xs∧szs xs≤400∧nus xs=ks
theorem Wr.signs{u:List Nat}{ks:List Int}(h:Wr u ks):∀ c∈u,c≠47∧c≠44:=by
 obtain⟨xs,R,_,_⟩:=h
 rw[R.tx]
 exact Anq (Aqg 8) R.gd
def AyU:Sp:=fun vs H Q _=>∃(u:List Nat) (ks:List Int),vs=[.str (tx u)]∧Wr u ks∧∀ q H',Am H H'→H q=none→H' q=some (.lst (vI ks))→Q (.ref q) H'
theorem AyV(T:Txt K mg t):Aq P w K mg base CX0 41 t.IW t.Zf ["text"] AyU:=(Aqc T).imp fun vs H Q E ⟨u,ks,e,⟨xs,R,hs,en⟩,k⟩=>⟨u,xs,e,R,hs,fun q H' s nq hq=>k q H' s nq (en▸hq)⟩
def pIt (p:List Nat):It:=.pth (ofN p)
theorem As6:∀ pss:List (List Nat),Tw (pss.map pIt)=more pss
 | []=>by rw[A4T,Tw];rfl
 | p::r=>by
  rw[A3X,Tw,As6 r,more]
  unfold pIt
  rw[It.tx,AfI]
theorem As7(pss:List (List Nat)):O5 (pss.map pIt)=rT pss:=by
 cases pss with
 | nil=>rw[A4T,O5];rfl
 | cons p r =>
  rw[A3X,O5,As6]
  unfold pIt
  rw[It.tx,AfI]
  rfl
theorem Aog(pss:List (List Nat)):nus (pss.map pIt)=nT pss:=by
 rw[AfF,A4u]
 unfold nT
 rw[A4u]
 congr 1
theorem Av8{d:Nat}{p:List Nat}(h:Okp p):Gd d (pIt p):=by
 unfold pIt
 cases p with
 | nil=>exact absurd h.ne (by decide)
 | cons n r =>
  cases d with
  | zero=>rw[Gd];exact⟨n,r,rfl,h.bd,by have:=h.le;simp at this;omega⟩
  | succ d=>rw[Gd];exact⟨n,r,rfl,h.bd,by have:=h.le;simp at this;omega⟩
theorem Aqh{pss:List (List Nat)}(h:∀ p∈pss,Okp p)(hl:pss.length≤900)(hu:(rT pss).length≤1000000)(hn:(nT pss).length≤400):Wr (rT pss) (nT pss):=by
 have gd:∀ x∈pss.map pIt,Gd 8 x:=fun x hx=>by
  obtain⟨p,hp,rfl⟩:=List.mem_map.mp hx
  exact Av8 (h p hp)
 refine⟨pss.map pIt,⟨by rw[A3S];exact hl,gd,(As7 pss).symm,hu⟩,?_,Aog pss⟩
 have:=Zq (pss.map pIt) (Sms.AkD fun x hx=>Gd.sm 8 x (gd x hx))
 rw[Aog] at this
 omega
theorem Shn.okp{row:List Nat}(S:Shn row)(hl:row.length≤400):(∀ p∈(prt row).map stp,Okp p)∧(prt row).length≤400:=by
 have all:=J7 S.r
 have vl:(prt row).length≤400:=by
  have:=AhW fun v hv=>(all v hv).ne
  rw[S.e] at this
  omega
 refine⟨fun p hp=>?_,vl⟩
 obtain⟨v,hv,rfl⟩:=List.mem_map.mp hp
 obtain⟨_,ne,bd,le⟩:=AfM (all v hv)
 have:v.length≤(prt row).flatten.length:=by
  obtain⟨a,b,e⟩:=List.append_of_mem hv
  rw[e,A5v,A4n,A3T,A3T]
  omega
 rw[S.e] at this
 exact⟨List.length_pos_iff.mpr ne,by omega,bd⟩
theorem Aqi:∀{pss:List (List Nat)},(∀ p∈pss,Okp p)→(rT pss).length≤3*pss.flatten.length:=fun {pss} h=>by
 have key:∀{r:List (List Nat)},(∀ p∈r,Okp p)→cT r≤3*r.flatten.length:=fun {r} h=>by
  induction r with
  | nil=>exact A3U _
  | cons p r ih =>
   have h1:=Av4 (h p A3V).bd
   have h2:=ih fun q hq=>h q (A4d _ hq)
   unfold cT at h2 ⊢
   rw[A3X,A4L,A4n,A3T]
   omega
 by_cases c:pss=[]
 ·rw[c];exact A4f _
 ·have:=AyO c fun p hp=>List.length_pos_iff.mp (h p hp).ne
  have:=key h
  omega
theorem Axd{vss:List (List Nat)}(h:∀ v∈vss,Run v):(vss.map stp).flatten.length≤2*vss.flatten.length:=by
 induction vss with
 | nil=>exact A3U _
 | cons v r ih =>
  have h1:=(AfM (h v A3V)).2.2.2
  have h2:=ih fun u hu=>h u (A4d _ hu)
  rw[A3X,A4n,A4n,A3T,A3T]
  omega
theorem Shn.len{row:List Nat}(S:Shn row)(hl:row.length≤400):(shT row).length≤6*row.length:=by
 have h1:=Aqi (S.okp hl).1
 have h2:=Axd (J7 S.r)
 rw[S.e] at h2
 unfold shT
 omega
theorem Shn.num{row:List Nat}(S:Shn row):nT ((prt row).map stp)=ofN row:=by rw[AyP S.r,S.e]
theorem As8(l:List Nat):(ofN l).length=l.length:=by unfold ofN;rw[A3S]
theorem Shn.wr{row:List Nat}(S:Shn row)(hl:row.length≤400):Wr (shT row) (ofN row):=by
 have h1:=S.okp hl
 have h2:=S.len hl
 have h3:=S.num
 have:=Aqh h1.1 (by rw[A3S];omega) (by unfold shT at h2;omega) (by rw[h3,As8];exact hl)
 rw[h3] at this
 exact this
theorem Shn.times{row:List Nat}(S:Shn row)(hl:row.length≤400)(ne:row≠[]):Wr ([49,42,40]++shT row++[41]) (ofN row):=by
 have h1:=S.okp hl
 have h2:=S.len hl
 have h3:=S.num
 have gd:∀ x∈((prt row).map stp).map pIt,Gd 7 x:=fun x hx=>by
  obtain⟨p,hp,rfl⟩:=List.mem_map.mp hx
  exact Av8 (h1.1 p hp)
 have gx:Gd 8 (.tms 1 (((prt row).map stp).map pIt)):=by
  rw[Gd]
  refine⟨by decide,by decide,fun z=>?_,by rw[A3S,A3S];omega,gd⟩
  have:(prt row)=[]:=by
   have:=congrArg List.length z
   rw[A3S,A3S] at this
   exact List.length_eq_zero_iff.mp this
  have e:=S.e
  rw[this] at e
  exact ne e.symm
 have nu:nus [It.tms 1 (((prt row).map stp).map pIt)]=ofN row:=by
  rw[AfF,A3X,A4T,A4n,A6b,A4Q,It.nu,Aog,h3]
  simp
 have gx':∀ x∈[It.tms 1 (((prt row).map stp).map pIt)],Gd 8 x:=fun x hx=>by rw[List.mem_singleton.mp hx];exact gx
 refine⟨[.tms 1 (((prt row).map stp).map pIt)],⟨by simp,gx',?_,?_⟩,?_,nu⟩
 ·rw[O5,Tw,It.tx,As7,A4Q,show dec 1=[49] from by decide +kernel]
  unfold shT
  simp
 ·simp only [A3T,A3Z,A4z]
  omega
 ·have:=Zq _ (Sms.AkD fun x hx=>Gd.sm 8 x (gx' x hx))
  rw[nu,As8] at this
  omega
def AtO:Sp:=fun vs H Q _=>∃ c:Nat,vs=[.int (c:Int)]∧1≤c∧c≤40∧Q .non H
theorem Abk(T:Txt K mg t):Aq P w K mg base CX0 1 t.Fo t.Pz ["count"] AtO:=by
 refine T.G5.F.ok Ak1 (fun vs H Q E h=>?_) (fun cdv A outer s H vs Q E hr h=>?_)
 ·obtain⟨c,rfl,_⟩:=h
  rfl
 ·obtain⟨c,rfl,h1,h2,k⟩:=h
  refine⟨_,(Ah (Dc (PW.pt (pw_or (Bc Afe (pv 0) Ak (Br _)) (pw_or1 (Bc AaO (pv 0) (Kf (v:=.int 40) rfl T.Ka.choose_spec ⟨_,rfl⟩) (Br _)))))
    (Ah FJ)
    Bj)),?_⟩
  refine⟨_,rfl,_,_,rfl,rfl,_,rfl,?_⟩
  refine Io (by omega) ?_
  refine⟨_,rfl,_,_,rfl,rfl,_,rfl,?_⟩
  exact Io (by omega) k
def AtQ:Sp:=fun vs H Q _=>∃ v:Int,vs=[.int v]∧0≤v∧v<40∧Q .non H
theorem Abl(T:Txt K mg t):Aq P w K mg base CX0 1 t.Fp t.P0 ["shaft"] AtQ:=by
 refine T.JV.F.ok Ak2 (fun vs H Q E h=>?_) (fun cdv A outer s H vs Q E hr h=>?_)
 ·obtain⟨v,rfl,_⟩:=h
  rfl
 ·obtain⟨v,rfl,h1,h2,k⟩:=h
  refine⟨_,(Ah (Dc (PW.pt (pw_or (Bc Afe (pv 0) Ak (Br _)) (pw_or1 (Bc Axz (pv 0) (Kf (v:=.int 40) rfl T.Amm.choose_spec ⟨_,rfl⟩) (Br _)))))
    (Ah FJ)
    Bj)),?_⟩
  refine⟨_,rfl,_,_,rfl,rfl,_,rfl,?_⟩
  refine Io (by omega) ?_
  refine⟨_,rfl,_,_,rfl,rfl,_,rfl,?_⟩
  exact Io (by omega) k
def Axe:Sp:=fun vs H Q _=>∃(a:Addr) (ks:List Int),vs=[.ref a]∧H a=some (.lst (vI ks))∧Rs ks∧ks.length≤1000∧Q .non H
theorem Aoh(T:Txt K mg t):Aq P w K mg base CX0 2 t.Ip t.AaW ["tie"] Axe:=by
 have Xb:Aq P w K mg base CX0 1 t.Fp t.P0 _ _:=Abl T
 refine T.AcK.F.ok Afz (fun vs H Q E h=>?_) (fun cdv A outer s H vs Q E hr h=>?_)
 ·obtain⟨a,ks,rfl,_⟩:=h
  rfl
 ·obtain⟨a,ks,rfl,ha,R,hl,k⟩:=h
  refine⟨_,(Ah (GD PassesOwn.never rfl (Kg rfl T.Jc (Aa (Bo (Bl (K:=K)) rfl T.HN Es (Aa (pv 0) Ac)) Ac)) (Dd (i:=1) Afz.nd rfl (Or.inl rfl))
    (Ad (DP (Aj (Xb.mono (by decide)) hr rfl T.JV.m T.JV.F.kp T.JV.b .nil Ao (Aa (Cq (Bm (K:=K)) (pv 0) (pv 1) (fun _ _=>rfl)) Ac)))
    (Ah (Dc (PW.pt (pw_and (Bc AaO (pv 1) Ak (Br _)) (pw_and1 (Bc AzF (Cq (Bm (K:=K)) (pv 0) (pv 1) (fun _ _=>rfl)) (Cq (Bm (K:=K)) (pv 0) (Be AaN (pv 1) Ak) (fun _ _=>rfl)) (Br _)))))
     (Ah FJ)
     Bj))))),?_⟩
  refine⟨_,rfl,_,_,rfl,.inl (SqL.of ha),_,rfl,(by omega),(by rw[Bd];omega),?_⟩
  rw[A4m,Bd]
  refine Om (lo:=0) (n:=ks.length) (fun i σ H2=>∃ v,σ=[some (.ref a),v]∧H2=H) ⟨none,rfl,rfl⟩ ?_ ?_
  ·rintro i σ H2 hi ⟨v,rfl,rfl⟩
   have e1:atI (vI ks) (0+(i:Int))=some (.int ks[i]):=Ed (by omega) (by rw[z0];exact WM (A3R hi))
   have b:=R.2 _ (A4j hi)
   refine⟨_,rfl,_,rfl,_,_,_,_,rfl,rfl,SqL.of ha,e1,_,rfl,b.1,b.2,?_⟩
   refine⟨_,rfl,_,_,rfl,rfl,_,rfl,?_⟩
   by_cases h0:i=0
   ·subst h0
    refine Io (by omega) ?_
    exact QS ⟨_,rfl,rfl⟩
   ·have hi1:i-1<ks.length:=by omega
    have e2:atI (vI ks) (0+(i:Int)-1)=some (.int ks[i-1]):=Ed (by omega) (by rw[show(0+(i:Int)-1).toNat=i-1 by omega];exact WM (A3R hi1))
    have lt:=R.1 (i-1) ks[i-1] ks[i] (A3R hi1) (by rw[show i-1+1=i by omega];exact A3R hi)
    refine Aki (by omega) ?_
    refine⟨_,rfl,_,rfl,_,_,_,_,rfl,rfl,SqL.of ha,e1,_,rfl,_,rfl,_,_,rfl,rfl,_,_,_,_,rfl,rfl,SqL.of ha,e2,_,_,rfl,rfl,_,rfl,?_⟩
    refine Io (by omega) ?_
    exact⟨_,rfl,rfl⟩
  ·rintro σ H2 ⟨v,rfl,rfl⟩
   exact k
theorem AyW{ks:List Int}(R:Rs ks):ks.length≤40:=by
 have step:∀(i:Nat) (a:Int),ks[i]?=some a→(i:Int)≤a:=by
  intro i
  induction i with
  | zero=>exact fun a h=>(R.2 a (A3Y h)).1
  | succ i ih =>
   intro a h
   have hi:i<ks.length:=by have:=(List.getElem?_eq_some_iff.mp h).1;omega
   have:=ih ks[i] (A3R hi)
   have:=R.1 i ks[i] a (A3R hi) h
   omega
 by_cases h:ks.length=0
 ·omega
 ·have hi:ks.length-1<ks.length:=by omega
  have h1:=step (ks.length-1) _ (A3R hi)
  have h2:=R.2 _ (A4j hi)
  omega
theorem Av9{ks:List Int}(R:Rs ks):ks.length≤1000:=A4q (AyW R) (by decide)
def Aqj:Sp:=fun vs H Q _=>∃(x y:Addr) (rs:List Addr) (th:List Int) (tss:List (List Int)) (tr:List Int),vs=[.ref x,.ref y]∧H x=some (.lst (vI th))∧NL H y rs tss∧Ft th tss tr∧Q .non H
theorem AhY(T:Txt K mg t):Aq P w K mg base CX0 3 t.Eo t.Rb ["threading", "ties"] Aqj:=by
 have Qd:Aq P w K mg base CX0 1 t.Fo t.Pz _ _:=Abk T
 have Xb:Aq P w K mg base CX0 1 t.Fp t.P0 _ _:=Abl T
 have Aqk:Aq P w K mg base CX0 2 t.Ip t.AaW _ _:=Aoh T
 refine T.PN.F.ok Ot (fun vs H Q E h=>?_) (fun cdv A outer s H vs Q E hr h=>?_)
 ·obtain⟨x,y,rs,th,tss,tr,rfl,_⟩:=h
  rfl
 ·obtain⟨x,y,rs,th,tss,tr,rfl,hx,N,F,k⟩:=h
  refine⟨_,(Ad (DP (Aj (Qd.mono (by decide)) hr rfl T.G5.m T.G5.F.kp T.G5.b .nil Ao (Aa (Bo (Bl (K:=K)) rfl T.HN Es (Aa (pv 0) Ac)) Ac)))
   (Ad (DP (Aj (Qd.mono (by decide)) hr rfl T.G5.m T.G5.F.kp T.G5.b .nil Ao (Aa (Bo (Bl (K:=K)) rfl T.HN Es (Aa (pv 1) Ac)) Ac)))
   (Ad (GD PassesOwn.never rfl (Bq (K:=K) (pv 0)) (Dd (i:=2) Ot.nd rfl (Or.inl rfl))
    (Ah (DP (Aj (Xb.mono (by decide)) hr rfl T.JV.m T.JV.F.kp T.JV.b .nil Ao (Aa (pv 2) Ac)))))
   (Ah (GD PassesOwn.never rfl (Bq (K:=K) (pv 1)) (Dd (i:=3) Ot.nd rfl (Or.inl rfl))
    (Ah (DP (Aj (Aqk.mono (by decide)) hr rfl T.AcK.m T.AcK.F.kp T.AcK.b .nil Ao (Aa (pv 3) Ac))))))))),?_⟩
  refine⟨_,rfl,_,_,rfl,.inl (SqL.of hx),th.length,(by rw[Bd] <;> rfl),F.m1,F.m40,?_⟩
  refine⟨_,rfl,_,_,rfl,.inl (SqL.of N.h),tss.length,(by rw[A3S,N.l] <;> rfl),F.t1,F.t40,?_⟩
  refine⟨_,rfl,_,rfl,⟨_,SqL.of hx⟩,GF (K:=K) (a:=x) (xs:=vI th) (fun i σ H2=>∃ v1 v2,σ=[some (.ref x),some (.ref y),v1,v2]∧H2=H) ⟨none,none,rfl,rfl⟩ (fun i σ H2 _ ⟨_,_,_,e⟩=>e▸SqL.of hx) ?_ ?_⟩
  ·rintro i xv σ H2 hxv ⟨v1,v2,rfl,rfl⟩
   obtain⟨z,hz,rfl⟩:=JM hxv
   have b:=F.hth z (A3Y hz)
   exact⟨_,rfl,z,rfl,b.1,b.2,_,_,rfl,rfl⟩
  ·rintro σ H2 ⟨v1,v2,rfl,rfl⟩
   refine⟨_,rfl,_,rfl,⟨_,SqL.of N.h⟩,GF (K:=K) (a:=y) (xs:=rs.map V.ref) (fun i σ H3=>∃ v1 v2,σ=[some (.ref x),some (.ref y),v1,v2]∧H3=H2) ⟨v1,v2,rfl,rfl⟩ (fun i σ H3 _ ⟨_,_,_,e⟩=>e▸SqL.of N.h) ?_ ?_⟩
   ·rintro i xv σ H3 hxv ⟨v1,v2,rfl,rfl⟩
    obtain⟨r,ks,rfl,_,hks,hr'⟩:=N.at hxv
    have R:=F.hti ks (A3Y hks)
    exact⟨_,rfl,r,ks,rfl,hr',R,Av9 R,_,_,rfl,rfl⟩
   ·rintro σ H3 ⟨v1,v2,rfl,rfl⟩
    exact k
def Aoi:Sp:=fun vs H Q _=>∃(z:Addr) (th:List Int) (tss:List (List Int)) (tr:List Int),vs=[.ref z,.int (tss.length:Int)]∧H z=some (.lst (vI tr))∧Ft th tss tr∧Q .non H
theorem AfN(T:Txt K mg t):Aq P w K mg base CX0 2 t.DK t.Ox ["treading", "treadles"] Aoi:=by
 have Qd:Aq P w K mg base CX0 1 t.Fo t.Pz _ _:=Abk T
 refine T.Nm.F.ok U3 (fun vs H Q E h=>?_) (fun cdv A outer s H vs Q E hr h=>?_)
 ·obtain⟨z,th,tss,tr,rfl,_⟩:=h
  rfl
 ·obtain⟨z,th,tss,tr,rfl,hz,F,k⟩:=h
  refine⟨_,(Ad (DP (Aj (Qd.mono (by decide)) hr rfl T.G5.m T.G5.F.kp T.G5.b .nil Ao (Aa (Bo (Bl (K:=K)) rfl T.HN Es (Aa (pv 0) Ac)) Ac)))
   (Ah (GD PassesOwn.never rfl (Bq (K:=K) (pv 0)) (Dd (i:=2) U3.nd rfl (Or.inl rfl))
    (Ah (Dc (PW.pt (pw_or (Bc Afe (pv 2) Ak (Br _)) (pw_or1 (Bc Axz (pv 2) (pv 1) (Br _)))))
     (Ah FJ)
     Bj))))),?_⟩
  refine⟨_,rfl,_,_,rfl,.inl (SqL.of hz),tr.length,(by rw[Bd] <;> rfl),F.n1,F.n40,?_⟩
  refine⟨_,rfl,_,rfl,⟨_,SqL.of hz⟩,GF (K:=K) (a:=z) (xs:=vI tr) (fun i σ H2=>∃ v1,σ=[some (.ref z),some (.int (tss.length:Int)),v1]∧H2=H) ⟨none,rfl,rfl⟩ (fun i σ H2 _ ⟨_,_,e⟩=>e▸SqL.of hz) ?_ ?_⟩
  ·rintro i xv σ H2 hxv ⟨v1,rfl,rfl⟩
   obtain⟨v,hv,rfl⟩:=JM hxv
   have b:=F.htr v (A3Y hv)
   refine⟨_,rfl,_,_,rfl,rfl,_,rfl,?_⟩
   refine Io (by omega) ?_
   refine⟨_,rfl,_,rfl,_,_,rfl,rfl,_,rfl,?_⟩
   refine Io (by omega) ?_
   exact⟨_,rfl,rfl⟩
  ·rintro σ H2 ⟨v1,rfl,rfl⟩
   exact k
def df (a b c:Addr):List (Str × V):=[("threading", .ref a),("ties", .ref b),("treading", .ref c)]
theorem Aql(a b c:Addr):(df a b c).lookup ("threading" : Str)=some (V.ref a):=rfl
theorem AxE(a b c:Addr):(df a b c).lookup ("ties" : Str)=some (V.ref b):=rfl
theorem Aqm(a b c:Addr):(df a b c).lookup ("treading" : Str)=some (V.ref c):=rfl
theorem NL.other{H H':Hp}{r C dx y:Addr}{fs:List (Str × V)}{rs:List Addr}{tss:List (List Int)}(N:NL H y rs tss)(b:HQ r H H')(hr:H r=some (.ins C dx fs)):NL H' y rs tss :=
 ⟨b _ _ (fun e=>by have:=N.h;rw[e,hr] at this;cases this) N.h,N.l,fun i a ks h1 h2=>b _ _ (fun e=>by have:=N.r i a ks h1 h2;rw[e,hr] at this;cases this) (N.r i a ks h1 h2)⟩
structure IsD (t:Adr) (H:Hp) (d dx a b c:Addr) (qs:List Addr) (th:List Int) (tss:List (List Int)) (tr:List Int):Prop where
 o:H d=some (.ins t.Cv dx (df a b c))
 ha:H a=some (.lst (vI th))
 hb:NL H b qs tss
 hc:H c=some (.lst (vI tr))
theorem IsD.same{H H':Hp}{d dx a b c:Addr}{qs:List Addr}{th:List Int}{tss:List (List Int)}{tr:List Int}(D:IsD t H d dx a b c qs th tss tr)(s:Am H H'):IsD t H' d dx a b c qs th tss tr:=⟨s _ _ D.o,s _ _ D.ha,D.hb.same s,s _ _ D.hc⟩
def AvA (t:Adr):Sp:=fun vs H Q _=>∃(r dx x y z:Addr) (rs:List Addr) (th:List Int) (tss:List (List Int)) (tr:List Int),vs=[.ref r,.ref x,.ref y,.ref z]∧H r=some (.ins t.Cv dx [])∧H x=some (.lst (vI th))∧NL H y rs tss∧H z=some (.lst (vI tr))∧Ft th tss tr ∧
 ∀ a b c qs H',HQ r H H'→H a=none→H b=none→H c=none→(∀ q∈qs,H q=none)→IsD t H' r dx a b c qs th tss tr→Q .non H'
theorem Nr(T:Txt K mg t):Aq P w K mg base CX0 4 t.Bu t.Ih ["self", "threading", "ties", "treading"] (AvA t):=by
 have Ajq:Aq P w K mg base CX0 3 t.Eo t.Rb _ _:=AhY T
 have AhZ:Aq P w K mg base CX0 2 t.DK t.Ox _ _:=AfN T
 refine T.Ko.F.ok Af3 (fun vs H Q E h=>?_) (fun cdv A outer s H vs Q E hr h=>?_)
 ·obtain⟨r,dx,x,y,z,rs,th,tss,tr,rfl,_⟩:=h
  rfl
 ·obtain⟨r,dx,x,y,z,rs,th,tss,tr,rfl,hr1,hx,N,hz,F,k⟩:=h
  have hsz:sizeLine=16777216:=sizeLine_eq
  refine⟨_,(Ad (DP (Aj (Ajq.mono (by decide)) hr rfl T.PN.m T.PN.F.kp T.PN.b .nil Ao (Aa (pv 1) (Aa (pv 2) Ac))))
   (Ad (DP (Aj (AhZ.mono (by decide)) hr rfl T.Nm.m T.Nm.F.kp T.Nm.b .nil Ao (Aa (pv 3) (Aa (Bo (Bl (K:=K)) rfl T.HN Es (Aa (pv 2) Ac)) Ac))))
   (Ad (R5 (K:=K) (pv 0) (Hg (Pu (K:=K)) rfl T.Abf U0 (Aa (pv 1) Ac)))
   (Ad (R5 (K:=K) (pv 0) (Gk (Dp.mk (Bh:=[]) (Nc:=["tie"]) rfl (by decide +kernel) (by decide +kernel) (Cu (sc0:=Ab BJ) rfl (by decide +kernel)) rfl rfl rfl (by decide +kernel) (fun _ _ h=>by simp at h)) rfl (Bq (K:=K) (pv 2)) (fun _ _ _ _ _=>.nil) (fun _ _ _ _ _=>(Hg (Pu (K:=K)) rfl T.Abf U0 (Aa (pv 0) Ac)))))
   (Ah (R5 (K:=K) (pv 0) (Hg (Pu (K:=K)) rfl T.Abf U0 (Aa (pv 3) Ac)))))))),?_⟩
  refine⟨_,rfl,_,rfl,x,y,rs,th,tss,tr,rfl,hx,N,F,?_⟩
  refine⟨_,rfl,_,rfl,_,_,rfl,.inl (SqL.of N.h),z,th,tss,tr,(by rw[A3S,N.l] <;> rfl),hz,F,?_⟩
  refine⟨_,rfl,_,_,rfl,.inl (SqL.of hx),fun a na=>?_⟩
  have s1:Am H (upd H a (.lst (vI th))):=.upd na
  have nra:a≠r:=fun e=>by rw[e,hr1] at na;cases na
  refine⟨_,rfl,_,_,_,_,rfl,s1 _ _ hr1,T.Hf.c,T.Bx,(by decide),?_⟩
  generalize hH2:upd (upd H a (.lst (vI th))) r (.ins t.Cv dx (WD "threading" (.ref a) []))=H2
  have b2:HQ r H H2:=fun b o nb e=>by rw[← hH2,Aw nb];exact s1 _ _ e
  have hr2:H2 r=some (.ins t.Cv dx [("threading", .ref a)]):=by rw[← hH2];exact Ae
  have ha2:H2 a=some (.lst (vI th)):=by rw[← hH2,Aw nra];exact Ae
  have fre:∀ q,H2 q=none→H q=none:=fun q hq=>by
   have nq:q≠r:=fun e=>by rw[e,hr2] at hq;cases hq
   cases e:H q with
   | none=>rfl
   | some o=>rw[b2 q o nq e] at hq;cases hq
  clear hH2
  have N2:=N.other b2 hr1
  refine⟨_,rfl,_,rfl,⟨_,SqL.of N2.h⟩,De (K:=K) (a:=y) (xs:=rs.map V.ref) (fun i ys H3=>Am H2 H3∧∃ qs:List Addr,ys=qs.map V.ref∧qs.length=i∧(∀ q∈qs,H2 q=none)∧∀(j:Nat) (q:Addr) (ks:List Int),qs[j]?=some q→tss[j]?=some ks→H3 q=some (.lst (vI ks)))
   ⟨.refl _,[],rfl,rfl,fun q hq=>(by cases hq),fun j q ks h=>(by simp at h)⟩ ?_ ?_ ?_ ?_⟩
  ·rintro i ys H3 hi ⟨s3,qs,rfl,hq,_⟩
   exact⟨SqL.of (s3 _ _ N2.h),by rw[A3S];omega⟩
  ·rw[A3S,N.l];have:=F.t40;omega
  ·rintro i xv ys H3 hi hxv ⟨s3,qs,rfl,hq,nq,hqs⟩
   obtain⟨r',ks',rfl,_,hks,hr'⟩:=N2.at hxv
   refine FN.no ?_
   refine⟨_,rfl,_,_,rfl,.inl (SqL.of (s3 _ _ hr')),fun l nl=>?_⟩
   refine CN.of hi ⟨s3.new nl,qs++[l],by rw[A3W];rfl,by rw[A3T,hq];rfl,fun q h=>?_,fun j q ks h1 h2=>?_⟩
   ·rcases List.mem_append.mp h with h | h
    ·exact nq q h
    ·rw[List.mem_singleton.mp h];exact s3.free nl
   ·by_cases hj:j<qs.length
    ·rw[A4i hj] at h1
     exact(Am.upd nl) _ _ (hqs j q ks h1 h2)
    ·rw[A4h (by omega)] at h1
     have e0:j=i:=by
      have:=(List.getElem?_eq_some_iff.mp h1).1
      simp at this
      omega
     rw[show j-qs.length=0 by omega] at h1
     have e1:l=q:=by simpa using h1
     rw[e0,hks] at h2
     cases h2
     rw[← e1]
     exact Ae
  ·rintro ys H3 b ⟨s3,qs,rfl,hq,nq,hqs⟩ nb
   rw[A3S,N.l] at hq
   have s4:Am H2 (upd H3 b (.lst (qs.map V.ref))):=s3.new nb
   have nbr:b≠r:=fun e=>by rw[e,s3 _ _ hr2] at nb;cases nb
   refine⟨_,rfl,_,_,_,_,rfl,s4 _ _ hr2,T.Hf.c,T.HH,(by show 1<1000;decide),?_⟩
   generalize hH5:upd (upd H3 b (.lst (qs.map V.ref))) r (.ins t.Cv dx (WD "ties" (.ref b) [("threading", .ref a)]))=H5
   have b5:HQ r H2 H5:=fun b' o nb e=>by rw[← hH5,Aw nb];exact s4 _ _ e
   have hr5:H5 r=some (.ins t.Cv dx [("threading", .ref a),("ties", .ref b)]):=by rw[← hH5];exact Ae
   have hb5:H5 b=some (.lst (qs.map V.ref)):=by rw[← hH5,Aw nbr];exact Ae
   have hq5:∀(j:Nat) (q:Addr) (ks:List Int),qs[j]?=some q→tss[j]?=some ks→H5 q=some (.lst (vI ks)):=fun j q ks h1 h2=>by
    have nqr:q≠r:=fun e=>by have:=nq q (A3Y h1);rw[e,hr2] at this;cases this
    rw[← hH5,Aw nqr]
    exact(Am.upd nb) _ _ (hqs j q ks h1 h2)
   clear hH5
   have nzr:z≠r:=fun e=>by rw[e,hr1] at hz;cases hz
   have hz5:H5 z=some (.lst (vI tr)):=b5 _ _ nzr (b2 _ _ nzr hz)
   refine⟨_,rfl,_,_,rfl,.inl (SqL.of hz5),fun c nc=>?_⟩
   have s6:Am H5 (upd H5 c (.lst (vI tr))):=.upd nc
   have ncr:c≠r:=fun e=>by rw[e,hr5] at nc;cases nc
   refine⟨_,rfl,_,_,_,_,rfl,s6 _ _ hr5,T.Hf.c,T.BR,(by show 2<1000;decide),?_⟩
   have f5:∀ q,H5 q=none→H q=none:=fun q h=>fre q (by
    have nqr:q≠r:=fun e=>by rw[e,hr5] at h;cases h
    cases e:H2 q with
    | none=>rfl
    | some o=>rw[b5 q o nqr e] at h;cases h)
   refine k a b c qs _ (fun b' o nb' e=>by rw[Aw nb'];exact s6 _ _ (b5 _ _ nb' (b2 _ _ nb' e))) na (fre b (s3.free nb)) (f5 c nc) (fun q h=>fre q (nq q h)) ⟨Ae,?_,⟨?_,hq,fun j q ks h1 h2=>?_⟩,?_⟩
   ·rw[Aw nra];exact s6 _ _ (b5 _ _ nra ha2)
   ·rw[Aw nbr];exact s6 _ _ hb5
   ·have nqr:q≠r:=fun e=>by have:=nq q (A3Y h1);rw[e,hr2] at this;cases this
    rw[Aw nqr];exact s6 _ _ (hq5 j q ks h1 h2)
   ·rw[Aw ncr];exact Ae
theorem Tf{n:Nat}(h:n≤1000):n≤sizeLine:=A4q h (by decide)
theorem AkK{xs:List V}{i j:Nat}(h:i≤j):Afj xs (some (i:Int)) (some (j:Int))=(xs.drop i).take (j-i):=by
 unfold Afj
 rw[HT.R4,HT.R4]
 by_cases q:i≤xs.length
 ·rw[A4V q]
  by_cases r:j≤xs.length
  ·rw[A4V r]
  ·rw[A5p (by omega),A4M (by rw[A4r];omega),A4M (by rw[A4r];omega)]
 ·rw[A5p (by omega),A5p (by omega),A5t (A3U _),A5t (by omega),A6c,A6c]
theorem AyX(m:Nat)(z:Int):(List.replicate m [V.int z]).flatten=vI (List.replicate m z):=by
 induction m with
 | zero=>rfl
 | succ m ih=>rw[A4O,A4n,ih,A4O];rfl
theorem AkL{ks:List Int}{j:Nat}{z:Int}(h:∀ k∈ks,0≤k)(hz:0≤z):∀ k∈ks.set j z,0≤k:=fun k hk=>by
 rcases List.mem_or_eq_of_mem_set hk with h1 | h1
 ·exact h k h1
 ·subst h1;exact hz
def Ar8 (K:PySem.W.Frag):Sp:=fun vs H Q _=>∃(a:Addr) (ns:List Int) (m:Nat),vs=[.ref a,.int (m:Int)]∧SqL K H a (vI ns)∧ns.length≤63∧63≤m∧m≤1000 ∧
 ∀(l:Addr) (ks:List Int) (H':Hp),Am H H'→H l=none→H' l=some (.lst (vI ks))→ks.length=m→(∀ k∈ks,0≤k)→Q (.ref l) H'
theorem AkM(T:Txt K mg t):Aq P w K mg base CX0 1 t.G3 t.WR ["script", "many"] (Ar8 K):=by
 refine T.U9.F.ok GQ (fun vs H Q E h=>?_) (fun cdv A outer s H vs Q E hr h=>?_)
 ·obtain⟨a,ns,m,rfl,_⟩:=h
  rfl
 ·obtain⟨a,ns,m,rfl,hS,hl,hm,hm2,k⟩:=h
  have hsz:sizeLine=16777216:=sizeLine_eq
  refine⟨_,(Ad (Ax (i:=2) GQ.nd rfl (Or.inl rfl) Ak)
   (Ad (Ax (i:=3) GQ.nd rfl (Or.inl rfl) (Be AqP (HS (Aa Ak Ac)) (pv 1)))
   (Ad (GD PassesOwn.never rfl (Kg rfl T.Jc (Aa (Bo (Bl (K:=K)) rfl T.HN Es (Aa (pv 0) Ac)) Ac)) (Dd (i:=4) GQ.nd rfl (Or.inl rfl))
    (Ad (Aun (Be IV (Be Gi (Be YS (Cq (Bm (K:=K)) (pv 3) (Be IV (pv 4) (pv 1)) (fun _ _=>rfl)) Ak) (Cq (Bm (K:=K)) (pv 0) (pv 4) (fun _ _=>rfl))) (Be AqG Ak Ak)) (Aum (pv 3) (Be IV (pv 4) (pv 1)) set_list))
    (Ah (Ax (i:=2) GQ.nd rfl (Or.inl rfl) (Be IV (Be Gi (Be YS (pv 2) Ak) (Cq (Bm (K:=K)) (pv 0) (pv 4) (fun _ _=>rfl))) Ak)))))
   (Ad (GD PassesOwn.never rfl (AmV rfl T.Jc (Aa (Bo (Bl (K:=K)) rfl T.HN Es (Aa (pv 0) Ac)) (Aa (pv 1) Ac))) (Dd (i:=4) GQ.nd rfl (Or.inl rfl))
    (Ad (Ax (i:=2) GQ.nd rfl (Or.inl rfl) (Be IV (Be Gi (Be YS (pv 2) Ak) (pv 4)) Ak))
    (Ah (Aun (Be R3 (pv 2) Ak) (Aum (pv 3) (pv 4) set_list)))))
   (Ah (Bb (pv 3))))))),?_⟩
  refine⟨(by show 1≤sizeLine;decide),fun p hp=>?_⟩
  refine⟨_,rfl,_,_,_,rfl,rfl,Ae,(by omega),(by omega),(by show 1*((m:Int).toNat)≤sizeLine;omega),fun q hq=>?_⟩
  rw[A4m,AyX]
  have s1:Am H (upd H p (.lst [.int 0])):=.upd hp
  have nq:H q=none:=s1.free hq
  have s2:Am H (upd (upd H p (.lst [.int 0])) q (.lst (vI (List.replicate m 0)))):=s1.new hq
  refine⟨_,rfl,_,_,rfl,.inl (s2.seq hS),_,rfl,(by omega),(by rw[Bd];omega),?_⟩
  rw[A4m,Bd]
  refine Om (lo:=0) (n:=ns.length) (fun i σ H2=>∃(mx:Int) (ks:List Int) (v:Option V),σ=[some (.ref a),some (.int (m:Int)),some (.int mx),some (.ref q),v]∧Am H H2∧H2 q=some (.lst (vI ks))∧ks.length=m∧(∀ k∈ks,0≤k)∧0≤mx)
   ⟨7,_,none,rfl,s2,Ae,by rw[A5z],fun k hk=>by rw[List.eq_of_mem_replicate hk];exact Int.le_refl _,by decide⟩ ?_ ?_
  ·rintro i σ H2 hi ⟨mx,ks,v,rfl,s3,hq2,hkl,hkn,hmx⟩
   have hix:(0+(i:Int))%(m:Int)=((i%m:Nat):Int):=by rw[A5f];omega
   have hlt:i%m<ks.length:=by rw[hkl];exact A5e _ (by omega)
   have e1:(vI ks)[((0+(i:Int))%(m:Int)).toNat]?=some (.int ks[i%m]):=by
    rw[hix,A4m]
    exact WM (A3R hlt)
   have e2:(vI ns)[(0+(i:Int)).toNat]?=some (.int ns[i]):=by
    rw[A5f,A4m]
    exact WM (A3R hi)
   have n1:0≤(0+(i:Int))%(m:Int):=by rw[hix];omega
   refine⟨_,rfl,_,rfl,_,rfl,_,_,rfl,rfl,(by show(0:Int)<m;omega),?_⟩
   refine⟨_,_,_,_,rfl,rfl,SqL.of hq2,Ed n1 e1,?_⟩
   refine⟨_,_,rfl,rfl,.inr ⟨by decide,by decide⟩,?_⟩
   refine⟨_,rfl,_,rfl,_,_,_,_,rfl,rfl,s3.seq hS,Ed (by omega) e2,?_⟩
   refine⟨_,_,rfl,rfl,?_⟩
   refine⟨_,_,rfl,rfl,⟨by decide,by decide,by decide⟩,?_⟩
   refine⟨_,_,rfl,rfl,(by show(0:Int)<10 ^ 60;decide),?_⟩
   refine⟨_,rfl,_,rfl,_,rfl,_,_,rfl,rfl,(by show(0:Int)<m;omega),?_⟩
   refine⟨_,_,_,_,rfl,rfl,hq2,Arb n1 (by rw[Bd,hkl];rw[hix];omega),?_⟩
   rw[Au3]
   refine⟨_,rfl,_,_,rfl,rfl,.inr ⟨by decide,by decide⟩,?_⟩
   have s4:Am H (upd H2 q (.lst (vI (ks.set ((0+(i:Int))%(m:Int)).toNat ((ks[i%m]*31+ns[i])%10 ^ (60:Int).toNat))))):=s3.over nq
   refine⟨_,rfl,_,rfl,_,_,_,_,rfl,rfl,s4.seq hS,Ed (by omega) e2,?_⟩
   refine⟨_,_,rfl,rfl,?_⟩
   refine⟨_,_,rfl,rfl,(by show(0:Int)<2147483647;decide),?_⟩
   exact⟨_,_,_,rfl,s4,Ae,by rw[List.length_set];exact hkl,AkL hkn (A4W _ (by decide)),A4W _ (by decide)⟩
  ·rintro σ H2 ⟨mx,ks,v,rfl,s3,hq2,hkl,hkn,hmx⟩
   refine⟨_,rfl,_,_,rfl,.inl (s3.seq hS),_,rfl,_,_,rfl,⟨by omega,by rw[Bd];omega,by omega,by omega⟩,?_⟩
   rw[Bd]
   refine Om (lo:=(ns.length:Int)) (n:=((m:Int)-(ns.length:Int)).toNat) (fun i σ H2=>∃(mx:Int) (ks:List Int) (v:Option V),σ=[some (.ref a),some (.int (m:Int)),some (.int mx),some (.ref q),v]∧Am H H2∧H2 q=some (.lst (vI ks))∧ks.length=m∧(∀ k∈ks,0≤k)∧0≤mx)
    ⟨mx,ks,v,rfl,s3,hq2,hkl,hkn,hmx⟩ ?_ ?_
   ·rintro i σ H3 hi ⟨mx,ks,v,rfl,s3,hq2,hkl,hkn,hmx⟩
    refine⟨_,rfl,_,_,rfl,rfl,.inr ⟨by decide,by decide⟩,?_⟩
    refine⟨_,rfl,_,_,rfl,rfl,?_⟩
    refine⟨_,_,rfl,rfl,(by show(0:Int)<2147483647;decide),?_⟩
    have hnn:0≤(mx*16807+((ns.length:Int)+(i:Int)))%2147483647:=A4W _ (by decide)
    refine⟨_,rfl,_,_,rfl,rfl,⟨by decide,by decide⟩,?_⟩
    refine⟨_,rfl,_,rfl,_,_,_,_,rfl,rfl,hq2,Arb (by omega) (by rw[Bd,hkl];omega),?_⟩
    rw[Au3]
    exact⟨_,_,_,rfl,s3.over nq,Ae,by rw[List.length_set];exact hkl,AkL hkn (Int.ediv_nonneg hnn (by decide)),hnn⟩
   ·rintro σ H3 ⟨mx,ks,v,rfl,s3,hq2,hkl,hkn,hmx⟩
    exact⟨_,rfl,k q ks H3 s3 nq hq2 hkl hkn⟩
theorem below{ks:List Int}{i:Nat}(h:∀ k∈ks,k<(i:Int)):∀ k∈ks++[0+(i:Int)],k<((i+1:Nat):Int):=fun k hk=>by
 rcases List.mem_append.mp hk with h1 | h1
 ·have:=h k h1;omega
 ·rw[List.mem_singleton.mp h1];omega
theorem As9{zs:List Int}{z:Int}{p:Int→Prop}(h:∀ v∈zs,p v)(hz:p z):∀ v∈zs++[z],p v:=fun v hv=>by
 rcases List.mem_append.mp hv with h1 | h1
 ·exact h v h1
 ·rw[List.mem_singleton.mp h1];exact hz
def AtR:Sp:=fun vs H Q _=>∃(n:Int),vs=[.int n]∧0≤n∧∀(l:Addr) (ks:List Int) (H':Hp),Am H H'→H l=none→H' l=some (.lst (vI ks))→Rs ks→Q (.ref l) H'
theorem Adq(T:Txt K mg t):Aq P w K mg base CX0 1 t.Gn t.RB ["number"] AtR:=by
 refine T.Mw.F.ok KZ (fun vs H Q E h=>?_) (fun cdv A outer s H vs Q E hr h=>?_)
 ·obtain⟨n,rfl,_⟩:=h
  rfl
 ·obtain⟨n,rfl,hn,k⟩:=h
  refine⟨_,(Ad (Dc (PW.pt (pw_and (Bc Afe (pv 0) (Be AqG Ak Ak) (Br _)) (pw_and1 (Bc R0 (Be IV (pv 0) Ak) Ak (Br _)))))
    (Ah (Bb (HS Ac)))
    Bj)
   (Ad (Dc (Bc Afe (pv 0) (Be AqG Ak Ak) (Br _))
    (Ah (Ax (i:=0) KZ.nd rfl (Or.inl rfl) (Be Gi (Be YS (Be YS (pv 0) (pv 0)) Ak) (pv 0))))
    Bj)
   (Ad (Ax (i:=1) KZ.nd rfl (Or.inl rfl) (HS Ac))
   (Ad (GD PassesOwn.never rfl (Kg rfl T.Jc (Aa Ak Ac)) (Dd (i:=2) KZ.nd rfl (Or.inl rfl))
    (Ad (Dc (Bc R0 (Be IV (pv 0) Ak) Ak (Br _))
     (Ah (DP (Dq (K:=K) PySem.F.plainAttrs_list PySem.F.slot_list_append PySem.F.type_list_append HX (pv 1) (Aa (pv 2) Ac))))
     Bj)
    (Ah (Ax (i:=0) KZ.nd rfl (Or.inl rfl) (Be R3 (pv 0) Ak)))))
   (Ah (Bb (pv 1))))))),?_⟩
  have e6:(10:Int) ^ (6:Int).toNat=1000000:=by decide
  refine⟨_,rfl,_,_,rfl,rfl,⟨by decide,by decide,by decide⟩,_,_,rfl,rfl,_,rfl,?_⟩
  rw[e6]
  refine Mz (fun h6=>?_) (fun h6=>?_)
  ·refine⟨_,rfl,_,_,rfl,rfl,(by show(0:Int)<8;decide),rfl,_,rfl,?_⟩
   refine Mz (fun _=>?_) (fun _=>?_)
   ·exact⟨A4f _,fun p hp=>k p [] _ (.upd hp) hp Ae Arq⟩
   ·refine⟨_,rfl,_,_,rfl,rfl,⟨by decide,by decide,by decide⟩,_,_,rfl,rfl,_,rfl,?_⟩
    rw[e6]
    refine Aki h6 ?_
    refine⟨_,rfl,_,rfl,_,_,rfl,rfl,.inl ⟨by omega,by omega⟩,?_⟩
    refine⟨_,_,rfl,rfl,.inr ⟨by decide,by decide⟩,?_⟩
    refine⟨_,rfl,_,_,rfl,rfl,?_⟩
    refine⟨A4f _,fun p hp=>?_⟩
    refine⟨_,rfl,by decide,by decide,?_⟩
    refine Om (lo:=0) (n:=40) (fun i σ H2=>∃(z:Int) (ks:List Int) (v:Option V),σ=[some (.int z),some (.ref p),v]∧Am H H2∧H2 p=some (.lst (vI ks))∧ks.length≤i∧Rs ks∧∀ k∈ks,k<(i:Int))
     ⟨_,[],none,rfl,.upd hp,Ae,A3U _,Arq,fun k h=>(by cases h)⟩ ?_ ?_
    ·rintro i σ H2 hi ⟨z,ks,v,rfl,s2,hp2,hkl,R,lt⟩
     refine⟨_,rfl,_,_,rfl,rfl,(by show(0:Int)<2;decide),rfl,_,rfl,?_⟩
     refine Mz (fun _=>?_) (fun _=>?_)
     ·refine⟨_,rfl,.inl ⟨rfl,_,SqL.of hp2⟩,_,rfl,_,_,_,rfl,rfl,hp2,(by rw[Bd];exact Tf (by omega)),?_⟩
      rw[Tj]
      refine⟨_,rfl,_,_,rfl,rfl,⟨by decide,by decide⟩,?_⟩
      exact⟨_,_,_,rfl,s2.over hp,Ae,by rw[A3T,A4R];omega,AuS R (fun k h=>by have:=lt k h;omega) (by omega) (by omega),below lt⟩
     ·refine⟨_,rfl,_,_,rfl,rfl,⟨by decide,by decide⟩,?_⟩
      exact⟨_,_,_,rfl,s2,hp2,by omega,R,fun k h=>by have:=lt k h;omega⟩
    ·rintro σ H2 ⟨z,ks,v,rfl,s2,hp2,hkl,R,lt⟩
     exact⟨_,rfl,k p ks H2 s2 hp hp2 R⟩
  ·refine QS ?_
   refine⟨_,rfl,_,_,rfl,rfl,⟨by decide,by decide,by decide⟩,_,_,rfl,rfl,_,rfl,?_⟩
   rw[e6]
   refine Io h6 ?_
   refine⟨A4f _,fun p hp=>?_⟩
   refine⟨_,rfl,by decide,by decide,?_⟩
   refine Om (lo:=0) (n:=40) (fun i σ H2=>∃(z:Int) (ks:List Int) (v:Option V),σ=[some (.int z),some (.ref p),v]∧Am H H2∧H2 p=some (.lst (vI ks))∧ks.length≤i∧Rs ks∧∀ k∈ks,k<(i:Int))
    ⟨_,[],none,rfl,.upd hp,Ae,A3U _,Arq,fun k h=>(by cases h)⟩ ?_ ?_
   ·rintro i σ H2 hi ⟨z,ks,v,rfl,s2,hp2,hkl,R,lt⟩
    refine⟨_,rfl,_,_,rfl,rfl,(by show(0:Int)<2;decide),rfl,_,rfl,?_⟩
    refine Mz (fun _=>?_) (fun _=>?_)
    ·refine⟨_,rfl,.inl ⟨rfl,_,SqL.of hp2⟩,_,rfl,_,_,_,rfl,rfl,hp2,(by rw[Bd];exact Tf (by omega)),?_⟩
     rw[Tj]
     refine⟨_,rfl,_,_,rfl,rfl,⟨by decide,by decide⟩,?_⟩
     exact⟨_,_,_,rfl,s2.over hp,Ae,by rw[A3T,A4R];omega,AuS R (fun k h=>by have:=lt k h;omega) (by omega) (by omega),below lt⟩
    ·refine⟨_,rfl,_,_,rfl,rfl,⟨by decide,by decide⟩,?_⟩
     exact⟨_,_,_,rfl,s2,hp2,by omega,R,fun k h=>by have:=lt k h;omega⟩
   ·rintro σ H2 ⟨z,ks,v,rfl,s2,hp2,hkl,R,lt⟩
    exact⟨_,rfl,k p ks H2 s2 hp hp2 R⟩
theorem AsA(ns:List Int)(k:Nat):(vI ns).take k=vI (ns.take k):=by unfold vI;rw[List.map_take]
theorem Axf(ns:List Int)(k:Nat):(vI ns).drop k=vI (ns.drop k):=by unfold vI;rw[A6d]
theorem Axg{xs:List V}{k:Nat}(h:k≤xs.length):Afj xs none (some (k:Int))=xs.take k:=by
 unfold Afj
 rw[HT.AjZ,HT.R4,List.drop_zero,A4V h,Nat.sub_zero]
theorem AyY{z:Int}(h0:0≤z)(h4:z<4):∃ s:Int,atI [V.int 40,V.int 2,V.int 5,V.int 3] z=some (.int s)∧0<s:=by
 have:z=0∨z=1∨z=2∨z=3:=by omega
 rcases this with e | e | e | e <;> subst e
 ·exact⟨40,rfl,by decide⟩
 ·exact⟨2,rfl,by decide⟩
 ·exact⟨5,rfl,by decide⟩
 ·exact⟨3,rfl,by decide⟩
def AyZ (K:PySem.W.Frag):Sp:=fun vs H Q _=>∃(a:Addr) (ks:List Int) (m n:Nat),vs=[.ref a,.int (m:Int),.int (n:Int)]∧SqL K H a (vI ks)∧m+n≤ks.length∧ks.length≤1000∧(∀ k∈ks,0≤k)∧1≤m∧m≤40∧1≤n∧n≤40 ∧
 ∀(l:Addr) (cl:List (List Nat)) (H':Hp),Am H H'→H' l=some (.lst (vS cl))→Cl cl m n→Q (.ref l) H'
theorem Ajr(T:Txt K mg t):Aq P w K mg base CX0 2 t.Ga t.Tr ["numbers", "ends", "picks"] (AyZ K):=by
 have Zu:Aq P w K mg base CX0 1 t.Gn t.RB _ _:=Adq T
 refine T.Jb.F.ok BZ (fun vs H Q E h=>?_) (fun cdv A outer s H vs Q E hr h=>?_)
 ·obtain⟨a,ks,m,n,rfl,_⟩:=h
  rfl
 ·obtain⟨a,ks,m,n,rfl,hS,kl,A2X,k0,m1,m40,n1,n40,k⟩:=h
  have hsz:sizeLine=16777216:=sizeLine_eq
  have hk0:0<ks.length:=by omega
  have v35:(("#" : Str))=tx [35]:=by decide +kernel
  have v46:(("." : Str))=tx [46]:=by decide +kernel
  refine⟨_,(Ad (Ax (i:=3) BZ.nd rfl (Or.inr rfl) (Cq (Bm (K:=K)) (HS (Aa Ak (Aa Ak (Aa Ak (Aa Ak Ac))))) (Be IV (Cq (Bm (K:=K)) (pv 0) Ak (fun _ _=>rfl)) Ak) (fun _ _=>rfl)))
   (Ad (Uz (i:=4) (Dp.mk (Bh:=[3]) (Nc:=["number", "high"]) rfl (by decide +kernel) (by decide +kernel) (Cu (sc0:=Ab Cz) rfl (by decide +kernel)) rfl rfl rfl (by decide +kernel) (fun k j h=>match k,h with | 0,h=>by obtain rfl:=Option.some.inj h;exact⟨_,rfl,rfl,rfl⟩ | _+1,h=>by simp at h)) rfl BZ.nd rfl rfl (Bq (K:=K) (HW (KN (K:=K)) (pv 0) Afi (Fb (pv 1)))) (fun _ _ _ _ _=>.nil) (fun _ _ _ _ _=>(Be IV (Be R3 (pv 0) Ak) (pv 1))) rfl)
   (Ad (Ax (i:=5) BZ.nd rfl (Or.inl rfl) (HS Ac))
   (Ad (GD PassesOwn.never rfl (Bq (K:=K) (HW (KN (K:=K)) (pv 0) (Fb (pv 1)) (Fb (Be Gi (pv 1) (pv 2))))) (Dd (i:=6) BZ.nd rfl (Or.inl rfl))
    (Ad (Dc (Bc R0 (Be IV (pv 6) Ak) Ak (Br _))
     (Ah (Ax (i:=6) BZ.nd rfl (Or.inl rfl) (Be IV (Be R3 (pv 6) Ak) Ak)))
     Bj)
    (Ad (Ax (i:=7) BZ.nd rfl (Or.inl rfl) (Aj (Zu.mono (by decide)) hr rfl T.Mw.m T.Mw.F.kp T.Mw.b .nil Ao (Aa (pv 6) Ac)))
    (Ad (Ax (i:=8) BZ.nd rfl (Or.inl rfl) Dm)
    (Ad (GD PassesOwn.never rfl (Bq (K:=K) (pv 4)) (Dd (i:=9) BZ.nd rfl (Or.inl rfl))
     (Ah (Dc (Bc (Aek (K:=K)) (pv 9) (pv 7) rfl)
      (Ah (Ax (i:=8) BZ.nd rfl (Or.inl rfl) (Be Oo (pv 8) Dm)))
      (Ah (Ax (i:=8) BZ.nd rfl (Or.inl rfl) (Be Oo (pv 8) Dm))))))
    (Ah (DP (Dq (K:=K) PySem.F.plainAttrs_list PySem.F.slot_list_append PySem.F.type_list_append HX (pv 5) (Aa (pv 8) Ac)))))))))
   (Ah (Bb (pv 5))))))),?_⟩
  refine⟨(by show 4≤sizeLine;decide),fun lx nx=>?_⟩
  have s1:Am H (upd H lx (.lst [.int 40,.int 2,.int 5,.int 3])):=.upd nx
  have hx1:(upd H lx (.lst [.int 40,.int 2,.int 5,.int 3])) lx=some (.lst [.int 40,.int 2,.int 5,.int 3]):=Ae
  generalize upd H lx (.lst [.int 40,.int 2,.int 5,.int 3])=H1 at s1 hx1 ⊢
  obtain⟨hg,ehg,hg0⟩:=AyY (z:=ks[0]%4) (A4W _ (by decide)) (A5N _ (by decide))
  refine⟨_,rfl,_,_,_,_,rfl,rfl,s1.seq hS,Ed (by decide) (WM (A3R hk0)),_,_,rfl,rfl,(by show(0:Int)<4;decide),_,_,_,_,rfl,rfl,SqL.of hx1,ehg,?_⟩
  refine⟨_,rfl,_,rfl,_,rfl,_,_,rfl,s1.seq hS,fun l2 n2=>?_⟩
  rw[Axg (by rw[Bd];omega),AsA]
  have s2:Am H1 (upd H1 l2 (.lst (vI (ks.take m)))):=.upd n2
  have h2:(upd H1 l2 (.lst (vI (ks.take m)))) l2=some (.lst (vI (ks.take m))):=Ae
  generalize upd H1 l2 (.lst (vI (ks.take m)))=H2 at s2 h2 ⊢
  have u2:=s1.trans s2
  have tl:(ks.take m).length=m:=by rw[A4l];omega
  refine⟨_,rfl,⟨_,SqL.of h2⟩,De (K:=K) (a:=l2) (xs:=vI (ks.take m)) (fun i ys H3=>H3=H2∧∃ zs:List Int,ys=vI zs∧zs.length=i) ⟨rfl,[],rfl,rfl⟩ ?_ ?_ ?_ ?_⟩
  ·rintro i ys H3 hi ⟨rfl,zs,rfl,hz⟩
   exact⟨SqL.of h2,by rw[Bd];omega⟩
  ·rw[Bd,tl];omega
  ·rintro i x ys H3 hi hx ⟨rfl,zs,rfl,hz⟩
   obtain⟨z,_,rfl⟩:=JM hx
   refine FN.no ⟨_,rfl,_,_,rfl,rfl,⟨by decide,by decide⟩,_,rfl,_,_,rfl,rfl,hg0,CN.of hi ⟨rfl,zs++[_],Tj _ _,by rw[A3T,hz];rfl⟩⟩
  ·rintro ys H3 q3 ⟨rfl,zs,rfl,hz⟩ nq3
   rw[Bd,tl] at hz
   have s3:Am H3 (upd H3 q3 (.lst (vI zs))):=.upd nq3
   have h3:(upd H3 q3 (.lst (vI zs))) q3=some (.lst (vI zs)):=Ae
   generalize upd H3 q3 (.lst (vI zs))=H4 at s3 h3 ⊢
   have u4:=u2.trans s3
   refine⟨A4f _,fun q nq=>?_⟩
   have s5:Am H4 (upd H4 q (.lst [])):=.upd nq
   have hq5:(upd H4 q (.lst [])) q=some (.lst (vS [])):=Ae
   generalize upd H4 q (.lst [])=H5 at s5 hq5 ⊢
   have u5:=u4.trans s5
   refine⟨_,rfl,_,rfl,_,rfl,_,rfl,_,rfl,_,_,rfl,rfl,_,rfl,_,_,rfl,u5.seq hS,fun l6 n6=>?_⟩
   rw[show(m:Int)+(n:Int)=((m+n:Nat):Int) by omega,AkK (by omega),show m+n-m=n by omega,Axf,AsA]
   obtain⟨js,ejs⟩:∃ js,js=(ks.drop m).take n:=⟨_,rfl⟩
   rw[← ejs]
   have jl:js.length=n:=by rw[ejs,A4l,A4r];omega
   have j0:∀ k∈js,0≤k:=fun x hx=>by rw[ejs] at hx;exact k0 x (A5w (A6p hx))
   have s6:Am H5 (upd H5 l6 (.lst (vI js))):=.upd n6
   have h6:(upd H5 l6 (.lst (vI js))) l6=some (.lst (vI js)):=Ae
   have h36:=(s5.trans s6) _ _ h3
   have hq6:=s6 _ _ hq5
   have ql:l6≠q:=fun z=>by rw[z,hq5] at n6;cases n6
   have q3q:q3≠q:=fun z=>by rw[z,nq] at h3;cases h3
   generalize upd H5 l6 (.lst (vI js))=H6 at s6 h6 h36 hq6 ⊢
   have u6:=u5.trans s6
   have nqH:=u4.free nq
   refine⟨_,rfl,⟨_,SqL.of h6⟩,GF (K:=K) (a:=l6) (xs:=vI js) (fun i σ H7=>∃(cl:List (List Nat)) (v6 v7 v8 v9:Option V),σ=[some (.ref a),some (.int (m:Int)),some (.int (n:Int)),some (.int hg),some (.ref q3),some (.ref q),v6,v7,v8,v9]∧Am H H7∧H7 l6=some (.lst (vI js))∧H7 q3=some (.lst (vI zs))∧H7 q=some (.lst (vS cl))∧cl.length=i∧∀ t∈cl,t.length=m∧∀ d∈t,Sg d)
    ⟨[],none,none,none,none,rfl,u6,h6,h36,hq6,rfl,fun t h=>(by cases h)⟩ (fun i σ H7 _ ⟨_,_,_,_,_,_,_,g,_⟩=>SqL.of g) ?_ ?_⟩
   ·rintro i x σ H7 hx ⟨cl,v6,v7,v8,v9,rfl,s7,h67,h37,hq7,cll,cls⟩
    obtain⟨z,hz',rfl⟩:=JM hx
    have z0':=j0 z (A3Y hz')
    have iN:i<n:=by have:=(List.getElem?_eq_some_iff.mp hz').1;omega
    refine⟨_,rfl,_,_,rfl,rfl,(by show(0:Int)<3;decide),rfl,_,rfl,?_⟩
    refine Mz (fun _=>?_) (fun _=>?_)
    ·refine⟨_,rfl,_,_,rfl,rfl,⟨by decide,by decide⟩,_,_,rfl,rfl,(by show(0:Int)<4;decide),?_⟩
     obtain⟨y,ey⟩:∃ y:Int,y=z / 3%4:=⟨_,rfl⟩
     have y0:0≤y:=by rw[ey];exact A4W _ (by decide)
     dsimp only
     rw[← ey]
     refine⟨_,rfl,y,rfl,y0,fun l8 ls H8 s8 nl8 hl8 _=>?_⟩
     have u8:=s7.trans s8
     have h38:=s8 _ _ h37
     refine⟨_,rfl,_,rfl,⟨_,SqL.of h38⟩,GF (K:=K) (a:=q3) (xs:=vI zs) (fun j σ H9=>∃(us:List Nat) (v6 v9:Option V),σ=[some (.ref a),some (.int (m:Int)),some (.int (n:Int)),some (.int hg),some (.ref q3),some (.ref q),v6,some (.ref l8),some (.str (tx us)),v9]∧H9=H8∧us.length=j∧∀ d∈us,Sg d)
      ⟨[],_,v9,by rw[show(("" : Str))=tx [] from by decide +kernel];rfl,rfl,rfl,fun d h=>(by cases h)⟩ (fun i σ H9 _ ⟨_,_,_,_,e,_⟩=>by rw[e];exact SqL.of h38) ?_ ?_⟩
     ·rintro j x σ H9 hx' ⟨us,v6',v9',rfl,rfl,usl,uss⟩
      obtain⟨zz,hzz,rfl⟩:=JM hx'
      have jm:j<m:=by have:=(List.getElem?_eq_some_iff.mp hzz).1;omega
      have add:∀ d,Sg d→∀ x∈us++[d],Sg x:=fun d hd x hx=>by
       rcases List.mem_append.mp hx with h | h
       ·exact uss x h
       ·rw[List.mem_singleton.mp h];exact hd
      refine⟨_,rfl,_,rfl,_,_,rfl,.inl (SqL.of hl8),rfl,AjF _,_,rfl,?_⟩
      refine A0b (fun _=>?_) (fun _=>?_)
      ·refine⟨_,rfl,_,_,rfl,rfl,(by rw[v35,Bf,Bf,usl];show j+1≤sizeLine;omega),?_⟩
       rw[v35,AaQ]
       exact⟨_,_,_,rfl,rfl,by rw[A3T,usl];rfl,add 35 (.inl rfl)⟩
      ·refine⟨_,rfl,_,_,rfl,rfl,(by rw[v46,Bf,Bf,usl];show j+1≤sizeLine;omega),?_⟩
       rw[v46,AaQ]
       exact⟨_,_,_,rfl,rfl,by rw[A3T,usl];rfl,add 46 (.inr rfl)⟩
     ·rintro σ H9 ⟨us,v6',v9',rfl,rfl,usl,uss⟩
      rw[Bd,hz] at usl
      have hq9:=s8 _ _ hq7
      refine⟨_,rfl,.inl ⟨rfl,_,SqL.of hq9⟩,_,rfl,_,_,_,rfl,rfl,hq9,(by rw[Bs,cll];omega),?_⟩
      rw[Ia]
      refine⟨cl++[us],_,_,_,_,rfl,u8.over nqH,by rw[Aw ql];exact s8 _ _ h67,by rw[Aw q3q];exact h38,Ae,by rw[A3T,cll];rfl,fun t ht=>?_⟩
      rcases List.mem_append.mp ht with h | h
      ·exact cls t h
      ·rw[List.mem_singleton.mp h];exact⟨usl,uss⟩
    ·obtain⟨y,ey⟩:∃ y:Int,y=z:=⟨_,rfl⟩
     have y0:0≤y:=by rw[ey];exact z0'
     rw[← ey]
     refine⟨_,rfl,y,rfl,y0,fun l8 ls H8 s8 nl8 hl8 _=>?_⟩
     have u8:=s7.trans s8
     have h38:=s8 _ _ h37
     refine⟨_,rfl,_,rfl,⟨_,SqL.of h38⟩,GF (K:=K) (a:=q3) (xs:=vI zs) (fun j σ H9=>∃(us:List Nat) (v6 v9:Option V),σ=[some (.ref a),some (.int (m:Int)),some (.int (n:Int)),some (.int hg),some (.ref q3),some (.ref q),v6,some (.ref l8),some (.str (tx us)),v9]∧H9=H8∧us.length=j∧∀ d∈us,Sg d)
      ⟨[],_,v9,by rw[show(("" : Str))=tx [] from by decide +kernel];rfl,rfl,rfl,fun d h=>(by cases h)⟩ (fun i σ H9 _ ⟨_,_,_,_,e,_⟩=>by rw[e];exact SqL.of h38) ?_ ?_⟩
     ·rintro j x σ H9 hx' ⟨us,v6',v9',rfl,rfl,usl,uss⟩
      obtain⟨zz,hzz,rfl⟩:=JM hx'
      have jm:j<m:=by have:=(List.getElem?_eq_some_iff.mp hzz).1;omega
      have add:∀ d,Sg d→∀ x∈us++[d],Sg x:=fun d hd x hx=>by
       rcases List.mem_append.mp hx with h | h
       ·exact uss x h
       ·rw[List.mem_singleton.mp h];exact hd
      refine⟨_,rfl,_,rfl,_,_,rfl,.inl (SqL.of hl8),rfl,AjF _,_,rfl,?_⟩
      refine A0b (fun _=>?_) (fun _=>?_)
      ·refine⟨_,rfl,_,_,rfl,rfl,(by rw[v35,Bf,Bf,usl];show j+1≤sizeLine;omega),?_⟩
       rw[v35,AaQ]
       exact⟨_,_,_,rfl,rfl,by rw[A3T,usl];rfl,add 35 (.inl rfl)⟩
      ·refine⟨_,rfl,_,_,rfl,rfl,(by rw[v46,Bf,Bf,usl];show j+1≤sizeLine;omega),?_⟩
       rw[v46,AaQ]
       exact⟨_,_,_,rfl,rfl,by rw[A3T,usl];rfl,add 46 (.inr rfl)⟩
     ·rintro σ H9 ⟨us,v6',v9',rfl,rfl,usl,uss⟩
      rw[Bd,hz] at usl
      have hq9:=s8 _ _ hq7
      refine⟨_,rfl,.inl ⟨rfl,_,SqL.of hq9⟩,_,rfl,_,_,_,rfl,rfl,hq9,(by rw[Bs,cll];omega),?_⟩
      rw[Ia]
      refine⟨cl++[us],_,_,_,_,rfl,u8.over nqH,by rw[Aw ql];exact s8 _ _ h67,by rw[Aw q3q];exact h38,Ae,by rw[A3T,cll];rfl,fun t ht=>?_⟩
      rcases List.mem_append.mp ht with h | h
      ·exact cls t h
      ·rw[List.mem_singleton.mp h];exact⟨usl,uss⟩
   ·rintro σ H7 ⟨cl,v6,v7,v8,v9,rfl,s7,h67,h37,hq7,cll,cls⟩
    rw[Bd,jl] at cll
    exact⟨_,rfl,k q cl H7 s7 hq7 ⟨cll,fun t ht=>(cls t ht).1,fun t ht=>(cls t ht).2,m1,m40,n1,n40⟩⟩
def nn (l:List Int):List Nat:=l.map Int.toNat
theorem Aza{l:List Int}(h:∀ z∈l,0≤z):ofN (nn l)=l:=by
 unfold ofN nn
 rw[A4u]
 refine(A5j fun z hz=>?_).trans (List.map_id l)
 exact Int.toNat_of_nonneg (h z hz)
noncomputable def shI (ks:List Int):List Nat:=shT (nn ks)
structure Sw (ks:List Int):Prop where
 w:Wr (shI ks) ks
 l:(shI ks).length≤240
 t:ks≠[]→Wr ([49,42,40]++shI ks++[41]) ks
def Azb (K:PySem.W.Frag):Sp:=fun vs H Q _=>∃(l:Addr) (ks:List Int),vs=[.ref l]∧SqL K H l (vI ks)∧(∀ z∈ks,0≤z∧z<40)∧ks.length≤40∧∀ H',Am H H'→Sw ks→Q (.str (tx (shI ks))) H'
theorem Azc(T:Txt K mg t):Aq P w K mg base CX0 3 t.PJ t.Af5 ["row"] (Azb K):=(AyT T).imp fun vs H Q E ⟨l,ks,e,hS,hb,hl,k⟩=>by
 have en:=Aza fun z hz=>(hb z hz).1
 have ln:(nn ks).length=ks.length:=by unfold nn;rw[A3S]
 refine⟨l,nn ks,e,by rw[en];exact hS,fun n hn=>?_,by omega,fun H' s S=>k H' s ⟨?_,?_,fun ne=>?_⟩⟩
 ·unfold nn at hn
  obtain⟨z,hz,rfl⟩:=List.mem_map.mp hn
  have:=hb z hz
  omega
 ·have:=S.wr (by omega)
  rw[en] at this
  exact this
 ·have:=S.len (by omega)
  unfold shI
  omega
 ·have:=S.times (by omega) (fun z=>ne (List.length_eq_zero_iff.mp (by rw[← ln,z];rfl)))
  rw[en] at this
  exact this
theorem AkN(sp:List Nat):∀ us:List (List Nat),Txt.join (tx sp) (us.map tx)=tx (jnS sp us)
 | []=>by simp[Txt.join,Builtin.Str.glued,tx,Str.empty,jnS]
 | u::us=>by
  have key:∀(us:List (List Nat)) (u:List Nat),u++(us.map fun y=>sp++y).flatten=jnS sp (u::us):=fun us=>by
   induction us with
   | nil=>intro u;simp[jnS]
   | cons v r ih =>
    intro u
    rw[A3X,A4n,A4U,ih v]
    rfl
  rw[AkE,key]
theorem AjI(sp:List Nat){B:Nat}:∀ us:List (List Nat),(∀ u∈us,u.length≤B)→(jnS sp us).length≤us.length*(B+sp.length)
 | [],_=>A4f _
 | [u],h=>by
  have:=h u A3V
  show u.length≤1*(B+sp.length)
  omega
 | u::v::r,h=>by
  have h1:=h u A3V
  have h2:=AjI sp (v::r) fun x hx=>h x (A4d _ hx)
  show(u++(sp++jnS sp (v::r))).length≤((v::r).length+1)*(B+sp.length)
  rw[A3T,A3T,Nat.add_mul]
  omega
theorem AfO{B:Nat}:∀ us:List (List Nat),(∀ u∈us,u.length≤B)→((us.map tx).map (·.length)).sum≤us.length*B
 | [],_=>A4f _
 | u::r,h=>by
  have h1:=h u A3V
  have h2:=AfO r fun x hx=>h x (A4d _ hx)
  rw[A3X,A3X,A4L,Bf,A3Z,Nat.add_mul]
  omega
def drT (a:List Nat)(bs:List (List Nat))(c:List Nat):List Nat:=jnS [32,47,32] [a,jnS [44,32] bs,c]
theorem Abm:((" / " : Str))=tx [32,47,32]:=by decide +kernel
theorem AfP:((", " : Str))=tx [44,32]:=by decide +kernel
def A0K (t:Adr):Sp:=fun vs H Q _=>∃(d dx a b c:Addr) (qs:List Addr) (th:List Int) (tss:List (List Int)) (tr:List Int),vs=[.ref d]∧IsD t H d dx a b c qs th tss tr∧Ft th tss tr∧∀ H',Am H H'→Sw th→(∀ ks∈tss,Sw ks)→Sw tr→Q (.str (tx (drT (shI th) (tss.map shI) (shI tr)))) H'
theorem Aia(T:Txt K mg t):Aq P w K mg base CX0 4 t.Er t.Rf ["draft"] (A0K t):=by
 have Aoj:Aq P w K mg base CX0 3 t.PJ t.Af5 _ _:=Azc T
 refine T.PX.F.ok Yc (fun vs H Q E h=>?_) (fun cdv A outer s H vs Q E hr h=>?_)
 ·obtain⟨d,dx,a,b,c,qs,th,tss,tr,rfl,_⟩:=h
  rfl
 ·obtain⟨d,dx,a,b,c,qs,th,tss,tr,rfl,D,F,k⟩:=h
  have m40:=F.m40
  have n40:=F.n40
  have t40:=F.t40
  have ql:=D.hb.l
  have hsz:sizeLine=16777216:=sizeLine_eq
  refine⟨_,(Ad (Ax (i:=1) Yc.nd rfl (Or.inl rfl) (Dq (K:=K) PySem.F.plainAttrs_str PySem.F.slot_str_join PySem.F.type_str_join (JN (K:=K)) (Kf (v:=.str ", ") rfl T.Abg.choose_spec ⟨_,rfl⟩) (Aa (Gk (Dp.mk (Bh:=[]) (Nc:=["tie"]) rfl (by decide +kernel) (by decide +kernel) (Cu (sc0:=Ab BX) rfl (by decide +kernel)) rfl rfl rfl (by decide +kernel) (fun _ _ h=>by simp at h)) rfl (Bq (K:=K) (BV (K:=K) (pv 0) rfl)) (fun _ _ _ _ _=>.nil) (fun _ _ _ _ _=>(Aj (Aoj.mono (by decide)) hr rfl T.shown.m T.shown.F.kp T.shown.b .nil Ao (Aa (pv 0) Ac)))) Ac)))
   (Ah (Bb (Dq (K:=K) PySem.F.plainAttrs_str PySem.F.slot_str_join PySem.F.type_str_join (JN (K:=K)) (Kf (v:=.str " / ") rfl T.Aao.choose_spec ⟨_,rfl⟩) (Aa (HS (Aa (Aj (Aoj.mono (by decide)) hr rfl T.shown.m T.shown.F.kp T.shown.b .nil Ao (Aa (BV (K:=K) (pv 0) rfl) Ac)) (Aa (pv 1) (Aa (Aj (Aoj.mono (by decide)) hr rfl T.shown.m T.shown.F.kp T.shown.b .nil Ao (Aa (BV (K:=K) (pv 0) rfl) Ac)) Ac)))) Ac))))),?_⟩
  refine⟨rfl,_,rfl,_,_,_,_,_,rfl,D.o,T.Hf.c,T.HH,AxE a b c,_,rfl,⟨_,SqL.of D.hb.h⟩,De (K:=K) (a:=b) (xs:=qs.map V.ref) (fun i ys H2=>Am H H2∧ys=vS ((tss.take i).map shI)∧∀ ks∈tss.take i,Sw ks) ⟨.refl _,rfl,fun ks h=>(by simp at h)⟩ ?_ ?_ ?_ ?_⟩
  ·rintro i ys H2 hi ⟨s2,rfl,_⟩
   refine⟨SqL.of (s2 _ _ D.hb.h),?_⟩
   rw[Bs,A3S,A4l]
   omega
  ·rw[A3S];omega
  ·rintro i x ys H2 hi hx ⟨s2,rfl,sw⟩
   obtain⟨r,ks,rfl,h1,h2,h3⟩:=(D.hb.same s2).at hx
   have R:=F.hti ks (A3Y h2)
   refine FN.no ?_
   refine⟨_,rfl,r,ks,rfl,SqL.of h3,R.2,AyW R,fun H3 s3 S=>?_⟩
   dsimp only
   rw[Ia]
   refine CN.of hi ⟨s2.trans s3,?_,fun ks' h=>?_⟩
   ·rw[A4p,h2,A3W]
    rfl
   ·rw[A4p,h2] at h
    rcases List.mem_append.mp h with h | h
    ·exact sw ks' h
    ·rw[List.mem_singleton.mp h];exact S
  rintro ys H2 q ⟨s2,rfl,sw⟩ hq
  rw[A3S,ql,A4s] at sw ⊢
  have lb:∀ u∈tss.map shI,u.length≤240:=fun u hu=>by
   obtain⟨ks,hk,rfl⟩:=List.mem_map.mp hu
   exact(sw ks hk).l
  have jb:=AjI [44,32] (tss.map shI) lb
  rw[A3S] at jb
  simp only [A3Z,A4z] at jb
  refine⟨_,_,(tss.map shI).map tx,rfl,rfl,SqL.of (by rw[Ae,QV]),?_,?_⟩
  ·have:=AfO (tss.map shI) lb
   rw[A3S] at this
   rw[A3S,A3S,AfP,Bf]
   simp only [A3Z,A4z]
   omega
  rw[AfP,AkN]
  have s3:Am H (upd H2 q (.lst (vS (tss.map shI)))):=s2.new hq
  generalize upd H2 q (.lst (vS (tss.map shI)))=H3 at s3 ⊢
  have D3:=D.same s3
  refine⟨rfl,_,rfl,_,_,_,_,_,rfl,D3.o,T.Hf.c,T.Bx,Aql a b c,a,th,rfl,SqL.of D3.ha,F.hth,m40,fun H4 s4 S1=>?_⟩
  have D4:=D3.same s4
  refine⟨_,rfl,_,rfl,_,_,_,_,_,rfl,D4.o,T.Hf.c,T.BR,Aqm a b c,c,tr,rfl,SqL.of D4.hc,fun z hz=>?_,n40,fun H5 s5 S2=>?_⟩
  ·have:=F.htr z hz
   omega
  refine⟨(by show 3≤sizeLine;decide),fun l nl=>?_⟩
  refine⟨_,_,[shI th,jnS [44,32] (tss.map shI),shI tr].map tx,rfl,rfl,SqL.of Ae,?_,?_⟩
  ·have l1:=S1.l
   have l2:=S2.l
   rw[Abm]
   simp only [A3X,A4T,A4L,List.sum_nil,A3Z,A4z,Bf]
   omega
  rw[Abm,AkN]
  exact k _ (((s3.trans s4).trans s5).new nl) S1 sw S2
def Cps (H0 H:Hp)(qs:List Addr)(tss:List (List Int))(i:Nat):Prop:=qs.length=i∧(∀ q∈qs,H0 q=none)∧∀(j:Nat) (q:Addr) (ks:List Int),qs[j]?=some q→tss[j]?=some ks→H q=some (.lst (vI ks))
theorem Cps.nil(H0 H:Hp)(tss:List (List Int)):Cps H0 H [] tss 0:=⟨rfl,fun q hq=>(by cases hq),fun j q ks h=>(by simp at h)⟩
theorem Cps.A2r{H0 H H':Hp}{qs:List Addr}{tss:List (List Int)}{i:Nat}(C:Cps H0 H qs tss i){l:Addr}{ks':List Int}(s:Am H H')(hl:H' l=some (.lst (vI ks')))(n0:H0 l=none)(hk:tss[i]?=some ks'):Cps H0 H' (qs++[l]) tss (i+1):=by
 refine⟨by rw[A3T,C.1];rfl,fun q h=>?_,fun j q ks h1 h2=>?_⟩
 ·rcases List.mem_append.mp h with h | h
  ·exact C.2.1 q h
  ·rw[List.mem_singleton.mp h];exact n0
 ·have ql:=C.1
  by_cases hj:j<qs.length
  ·rw[A4i hj] at h1
   exact s _ _ (C.2.2 j q ks h1 h2)
  ·rw[A4h (by omega)] at h1
   have e0:j=i:=by
    have:=(List.getElem?_eq_some_iff.mp h1).1
    simp at this
    omega
   rw[show j-qs.length=0 by omega] at h1
   have e1:l=q:=by simpa using h1
   rw[e0,hk] at h2
   cases h2
   rw[← e1]
   exact hl
def A0L (t:Adr):Sp:=fun vs H Q _=>∃(u0:List Nat) (us:List (List Nat)) (u2:List Nat) (th:List Int) (tss:List (List Int)) (tr:List Int),vs=[.str (tx (drT u0 us u2))]∧Wr u0 th∧us.length=tss.length∧(∀(i:Nat) (u:List Nat) (ks:List Int),us[i]?=some u→tss[i]?=some ks→Wr u ks)∧Wr u2 tr∧Ft th tss tr∧(drT u0 us u2).length≤1000000 ∧
 ∀(d dx a b c:Addr) (qs:List Addr) (H':Hp),Am H H'→IsD t H' d dx a b c qs th tss tr→Q (.ref d) H'
theorem Amr(T:Txt K mg t):Aq P w K mg base CX0 42 t.Ho t.Zg ["text"] (A0L t):=by
 have Aeu:Aq P w K mg base CX0 41 t.IW t.Zf _ _:=AyV T
 have Ii:Aq P w K mg base CX0 4 t.Bu t.Ih _ _:=Nr T
 refine T.Mv.F.ok Px (fun vs H Q E h=>?_) (fun cdv A outer s H vs Q E hr h=>?_)
 ·obtain⟨u0,us,u2,th,tss,tr,rfl,_⟩:=h
  rfl
 ·obtain⟨u0,us,u2,th,tss,tr,rfl,W0,ul,Ws,W2,F,dl,k⟩:=h
  have t1:=F.t1
  have t40:=F.t40
  have hsz:sizeLine=16777216:=sizeLine_eq
  have une:us≠[]:=fun z=>by rw[z] at ul;simp at ul;omega
  have A0M:∀ u∈us,∀ c∈u,c≠47∧c≠44:=fun u hu=>by
   obtain⟨i,hi,e⟩:=A5a hu
   have hit:i<tss.length:=by omega
   exact(Ws i u tss[i] (by rw[← e];exact A3R hi) (A3R hit)).signs
  have A2s:∀(us:List (List Nat)),(∀ u∈us,∀ c∈u,c≠47∧c≠44)→47∉jnS [44,32] us:=fun us=>by
   induction us with
   | nil=>intro _ h;cases h
   | cons u r ih =>
    intro h z
    cases r with
    | nil=>exact(h u A3V 47 z).1 rfl
    | cons v r =>
     rcases List.mem_append.mp (show 47∈u++([44,32]++jnS [44,32] (v::r)) from z) with z | z
     ·exact(h u A3V 47 z).1 rfl
     ·rcases List.mem_append.mp z with z | z
      ·simp at z
      ·exact ih (fun x hx=>h x (A4d _ hx)) z
  have jl:(jnS [44,32] us).length≤1000000:=by
   have:(drT u0 us u2).length=u0.length+(3+((jnS [44,32] us).length+(3+u2.length))):=by
    unfold drT
    simp[jnS]
    omega
   omega
  refine⟨_,(Ad (Ax (i:=1) Px.nd rfl (Or.inl rfl) (Dq (K:=K) PySem.F.plainAttrs_str PySem.F.slot_str_split PySem.F.type_str_split Anj (pv 0) (Aa (Kf (v:=.str " / ") rfl T.Aao.choose_spec ⟨_,rfl⟩) Ac)))
   (Ad (Dc (Bc Apd (Bo (Bl (K:=K)) rfl T.HN Es (Aa (pv 1) Ac)) Ak (Br _))
    (Ah FJ)
    Bj)
   (Ad (Ax (i:=2) Px.nd rfl (Or.inl rfl) (Aj (Aeu.mono (by decide)) hr rfl T.Ld.m T.Ld.F.kp T.Ld.b .nil Ao (Aa (Cq (Bm (K:=K)) (pv 1) Ak (fun _ _=>rfl)) Ac)))
   (Ad (Uz (i:=3) (Dp.mk (Bh:=[]) (Nc:=["tie"]) rfl (by decide +kernel) (by decide +kernel) (Cu (sc0:=Ab Ej) rfl (by decide +kernel)) rfl rfl rfl (by decide +kernel) (fun _ _ h=>by simp at h)) rfl Px.nd rfl rfl (Bq (K:=K) (Dq (K:=K) PySem.F.plainAttrs_str PySem.F.slot_str_split PySem.F.type_str_split Anj (Cq (Bm (K:=K)) (pv 1) Ak (fun _ _=>rfl)) (Aa (Kf (v:=.str ", ") rfl T.Abg.choose_spec ⟨_,rfl⟩) Ac))) (fun _ _ _ _ _=>.nil) (fun _ _ _ _ _=>(Aj (Aeu.mono (by decide)) hr rfl T.Ld.m T.Ld.F.kp T.Ld.b .nil Ao (Aa (pv 0) Ac))) rfl)
   (Ah (Bb (AcD T.Hf.m (Ii.mono (by decide)) hr rfl T.AnV T.Ko.b .nil Ao (Aa (pv 2) (Aa (pv 3) (Aa (Aj (Aeu.mono (by decide)) hr rfl T.Ld.m T.Ld.F.kp T.Ld.b .nil Ao (Aa (Cq (Bm (K:=K)) (pv 1) Ak (fun _ _=>rfl)) Ac)) Ac)))))))))),?_⟩
  refine⟨_,rfl,rfl,[32,47,32],47,1,[u0,jnS [44,32] us,u2],rfl,congrArg (fun z=>[V.str z]) Abm,Atz,(by unfold drT at dl;omega),by simp,fun w hw=>?_,fun lp nlp=>?_⟩
  ·simp only [A4w,A4x,or_false] at hw
   rcases hw with z | z | z <;> rw[z]
   ·exact fun h=>(W0.signs _ h).1 rfl
   ·exact A2s us A0M
   ·exact fun h=>(W2.signs _ h).1 rfl
  have s1:Am H (upd H lp (.lst (vS [u0,jnS [44,32] us,u2]))):=.upd nlp
  have hp:(upd H lp (.lst (vS [u0,jnS [44,32] us,u2]))) lp=some (.lst (vS [u0,jnS [44,32] us,u2])):=Ae
  generalize upd H lp (.lst (vS [u0,jnS [44,32] us,u2]))=H1 at s1 hp ⊢
  refine⟨_,rfl,_,_,rfl,.inl (SqL.of hp),rfl,_,rfl,?_⟩
  refine AiG rfl ?_
  refine⟨_,rfl,_,_,_,_,rfl,rfl,SqL.of hp,rfl,u0,th,rfl,W0,fun q0 H2 s2 nq0 hq0=>?_⟩
  have hp2:=s2 _ _ hp
  refine⟨_,rfl,_,_,_,_,rfl,rfl,SqL.of hp2,rfl,rfl,[44,32],44,0,us,rfl,congrArg (fun z=>[V.str z]) AfP,AuG,by omega,une,fun w hw h=>(A0M w hw _ h).2 rfl,fun lt nlt=>?_⟩
  have s3:Am H2 (upd H2 lt (.lst (vS us))):=.upd nlt
  have ht:(upd H2 lt (.lst (vS us))) lt=some (.lst (vS us)):=Ae
  generalize upd H2 lt (.lst (vS us))=H3 at s3 ht ⊢
  refine⟨_,rfl,⟨_,SqL.of ht⟩,De (K:=K) (a:=lt) (xs:=vS us) (fun i ys H4=>Am H3 H4∧∃ qs:List Addr,ys=qs.map V.ref∧Cps H3 H4 qs tss i) ⟨.refl _,[],rfl,Cps.nil _ _ _⟩ ?_ ?_ ?_ ?_⟩
  ·rintro i ys H4 hi ⟨s4,qs,rfl,C⟩
   exact⟨SqL.of (s4 _ _ ht),by rw[A3S,C.1];exact A3U _⟩
  ·rw[Bs];omega
  ·rintro i xv ys H4 hi hxv ⟨s4,qs,rfl,C⟩
   obtain⟨u,hu,rfl⟩:=QT hxv
   have hit:i<tss.length:=by have:=(List.getElem?_eq_some_iff.mp hu).1;omega
   have hk:tss[i]?=some tss[i]:=A3R hit
   refine FN.no ?_
   refine⟨_,rfl,u,tss[i],rfl,Ws i u _ hu hk,fun q H5 s5 nq hq=>?_⟩
   exact CN.of hi ⟨s4.trans s5,qs++[q],by rw[A3W];rfl,C.A2r s5 hq (s4.free nq) hk⟩
  rintro ys H4 lz ⟨s4,qs0,rfl,C4⟩ nlz
  rw[Bs,ul] at C4
  have s5:Am H4 (upd H4 lz (.lst (qs0.map V.ref))):=.upd nlz
  have hlz:(upd H4 lz (.lst (qs0.map V.ref))) lz=some (.lst (qs0.map V.ref)):=Ae
  generalize upd H4 lz (.lst (qs0.map V.ref))=H5 at s5 hlz ⊢
  have Z5:NL H5 lz qs0 tss:=⟨hlz,C4.1,fun j q ks h1 h2=>s5 _ _ (C4.2.2 j q ks h1 h2)⟩
  have u35:=(s3.trans s4).trans s5
  refine⟨_,rfl,_,rfl,_,rfl,_,_,_,_,rfl,rfl,SqL.of (u35 _ _ hp2),rfl,u2,tr,rfl,W2,fun q2 H6 s6 nq2 hq2=>?_⟩
  refine fun d dx nd ndx ndd=>?_
  have sd:Am H6 (upd (upd H6 dx (.own d)) d (.ins t.Cv dx [])):=(Am.upd ndx).over nd
  refine⟨d,dx,q0,lz,q2,qs0,th,tss,tr,rfl,Ae,sd _ _ (s6 _ _ (u35 _ _ hq0)),(Z5.same s6).same sd,sd _ _ hq2,F,fun a b c qs H7 b7 _ _ _ _ D=>⟨rfl,?_⟩⟩
  have s7:Am H6 H7:=fun b o e=>b7 b o (fun z=>by rw[z,nd] at e;cases e) (sd _ _ e)
  exact k d dx a b c qs H7 (((s1.trans s2).trans u35).trans (s6.trans s7)) D
theorem AvB(u:List Nat):∀ f:List (List Nat),inV (.str (tx u)) (vS f)=decide (u∈f)
 | []=>by simp[inV,vS]
 | k::f=>by
  have ih:=AvB u f
  unfold inV vS at ih ⊢
  rw[A3X,A5Q,ih]
  by_cases h:k=u
  ·subst h
   have:eqV (V.str (tx k)) (V.str (tx k))=true:=Akc rfl
   rw[this]
   simp
  ·have:eqV (V.str (tx k)) (V.str (tx u))=false:=by
    show(tx k == tx u)=false
    rw[beq_eq_false_iff_ne]
    exact fun z=>h (WL z)
   rw[this,Bool.false_or,decide_eq_decide]
   exact⟨A4d _,fun z=>by
    rcases List.mem_cons.mp z with e | e
    ·exact absurd e.symm h
    ·exact e⟩
def AtS (K:PySem.W.Frag):Sp:=fun vs H Q _=>∃(a:Addr) (us:List (List Nat)),vs=[.ref a]∧SqL K H a (vS us)∧us.length≤40∧∀ l H',Am H H'→H l=none→H' l=some (.lst (vS (unl us)))→Q (.ref l) H'
theorem AtT(T:Txt K mg t):Aq P w K mg base CX0 1 t.La t.AaY ["things"] (AtS K):=by
 refine T.unlike.F.ok Th (fun vs H Q E h=>?_) (fun cdv A outer s H vs Q E hr h=>?_)
 ·obtain⟨a,us,rfl,_⟩:=h
  rfl
 ·obtain⟨a,us,rfl,hS,hl,k⟩:=h
  refine⟨_,(Ad (Ax (i:=1) Th.nd rfl (Or.inl rfl) (HS Ac))
   (Ad (GD PassesOwn.never rfl (Bq (K:=K) (pv 0)) (Dd (i:=2) Th.nd rfl (Or.inl rfl))
    (Ah (Dc (Bc (Adf (K:=K)) (pv 2) (pv 1) rfl)
     (Ah (DP (Dq (K:=K) PySem.F.plainAttrs_list PySem.F.slot_list_append PySem.F.type_list_append HX (pv 1) (Aa (pv 2) Ac))))
     Bj)))
   (Ah (Bb (pv 1))))),?_⟩
  refine⟨A4f _,fun q nq=>?_⟩
  have s1:Am H (upd H q (.lst [])):=.upd nq
  refine⟨_,rfl,_,rfl,⟨_,s1.seq hS⟩,?_⟩
  refine GF (K:=K) (a:=a) (xs:=vS us) (fun i σ H2=>∃(v:Option V),σ=[some (.ref a),some (.ref q),v]∧Am H H2∧H2 q=some (.lst (vS (unl (us.take i)))))
   ⟨none,rfl,s1,Ae⟩ (fun i σ H2 _ ⟨_,_,s2,_⟩=>s2.seq hS) ?_ ?_
  ·rintro i xv σ H2 hx ⟨v,rfl,s2,h2⟩
   have hil:i<us.length:=by
    have:=(List.getElem?_eq_some_iff.mp hx).1
    rwa [Bs] at this
   obtain⟨u,hu,rfl⟩:=QT hx
   have et:us.take (i+1)=us.take i++[u]:=by rw[A4p,hu];rfl
   have lf:(unl (us.take i)).length≤i:=A4q (QW _) (by rw[A4l];omega)
   refine⟨_,rfl,_,rfl,_,_,rfl,.inl (SqL.of h2),rfl,YW _,_,rfl,?_⟩
   show if (!inV (.str (tx u)) (vS (unl (us.take i))))=true then _ else _
   rw[AvB]
   by_cases hm:u∈unl (us.take i)
   ·refine AiG hm ?_
    exact⟨_,rfl,s2,by rw[et,Ib,if_pos hm];exact h2⟩
   ·refine Au1 hm ?_
    refine⟨_,rfl,.inl ⟨rfl,_,SqL.of h2⟩,_,rfl,_,_,_,rfl,rfl,h2,(by rw[Bs];exact Jl (by omega)),?_⟩
    rw[Ia]
    exact⟨_,rfl,s2.over nq,by rw[et,Ib,if_neg hm];exact Ae⟩
  ·rintro σ H2 ⟨v,rfl,s2,h2⟩
   rw[Bs,A4s] at h2
   exact⟨_,rfl,k q H2 s2 nq h2⟩
theorem Aqn:∀(m:Nat) (l:List Nat),l.Nodup→(∀ x∈l,x<m)→l.length≤m
 | 0,l,_,h=>by
  cases l with
  | nil=>exact A3U _
  | cons a r=>exact absurd (h a A3V) (by omega)
 | m+1,l,n,h=>by
  have:=Aqn m (l.erase m) (n.erase m) fun x hx=>by
   have g:=n.mem_erase_iff.mp hx
   have:=h x g.2
   omega
  have e:=List.length_erase (a:=m) (l:=l)
  split at e <;> omega
theorem Axh{ds:List Int}(n:ds.Nodup)(h:∀ z∈ds,0≤z∧z<40):ds.length<64:=by
 have:=Aqn 40 (ds.map Int.toNat) (by
  rw[List.Nodup,List.pairwise_map]
  refine n.imp_of_mem fun {a b} ha hb ne e=>ne ?_
  have:=h a ha
  have:=h b hb
  omega) fun x hx=>by
   obtain⟨z,hz,rfl⟩:=List.mem_map.mp hx
   have:=h z hz
   omega
 rw[A3S] at this
 omega
def Aqo (th:List Int)(u:List Nat)(ks:List Int):Prop:=∀ z:Int,z∈ks↔∃ e:Nat,th[e]?=some z∧u[e]?=some 35
def Axi:Sp:=fun vs H Q _=>∃(x:Addr) (th:List Int) (u:List Nat),vs=[.ref x,.str (tx u)]∧H x=some (.lst (vI th))∧th.length=u.length∧u.length≤40∧(∀ z∈th,0≤z∧z<40)∧∀ l ks H',Am H H'→H l=none→H' l=some (.lst (vI ks))→Rs ks→Aqo th u ks→Q (.ref l) H'
theorem Abn(T:Txt K mg t):Aq P w K mg base CX0 1 t.Fq t.PB ["threading", "text"] Axi:=by
 refine T.JW.F.ok Ak3 (fun vs H Q E h=>?_) (fun cdv A outer s H vs Q E hr h=>?_)
 ·obtain⟨x,th,u,rfl,_⟩:=h
  rfl
 ·obtain⟨x,th,u,rfl,hx,hlu,h40,hth,k⟩:=h
  have hsz:sizeLine=16777216:=sizeLine_eq
  refine⟨_,(Ah (Bb (Arm (K:=K) rfl T.Avb rfl T.A0x (Atu (K:=K) (AcJ.mk (Bh:=[]) (Nc:=["shaft", "sign"]) rfl (by decide +kernel) (by decide +kernel) (Cu (sc0:=Ab Dr) rfl (by decide +kernel)) rfl rfl rfl rfl rfl (by decide +kernel) (fun _ _ h=>by simp at h)) rfl (Aw9 (K:=K) rfl T.Avd (Aa (pv 0) (Aa (pv 1) Ac))) (fun _ _ _ _ _=>.one (Bc R0 (pv 1) Dm (Br _))) (fun _ _ _ _ _=>(pv 0)))))),?_⟩
  refine⟨_,rfl,_,rfl,.l x,.s (tx u),rfl,trivial,⟨_,SqL.of hx⟩,trivial,?_⟩
  refine AuD (n:=u.length) (fun i=>(vI th).getD i .non) (fun i=>.str ⟨#[u.getD i 0]⟩) (fun i ys H2=>Am H H2∧∃ ns:List Int,ys=vI ns∧ns.length≤i∧∀ z:Int,z∈ns↔∃ e:Nat,e<i∧th[e]?=some z∧u[e]?=some 35) ⟨.refl _,[],rfl,A3U _,fun z=>⟨fun h=>(by cases h),fun⟨e,h,_⟩=>absurd h (Nat.not_lt_zero _)⟩⟩ ?_ ?_ ?_ ?_ ?_ ?_ ?_
  ·rintro i ys H2 hi ⟨s2,ns,rfl,hn,_⟩
   rw[Bd]
   exact hn
  ·omega
  ·rintro i ys H2 hi ⟨s2,_⟩
   exact AwA (SqL.of (s2 _ _ hx)) (by rw[Bd];omega)
  ·rintro i ys H2 hi _
   exact Ayy hi
  ·rintro ys H2 ⟨s2,_⟩
   exact⟨⟨_,SqL.of (s2 _ _ hx)⟩,trivial,.inl ⟨_,SqL.of (s2 _ _ hx),by rw[Bd];exact hlu⟩⟩
  ·rintro i ys H2 T2 hi ⟨s2,ns,rfl,hn,hm⟩ nT
   have hit:i<th.length:=by omega
   have ev:(vI th).getD i .non=.int th[i]:=by
    rw[A4c,WM (A3R hit)]
    rfl
   have eu:u.getD i 0=u[i]:=by
    rw[A4c,A3R hi]
    rfl
   rw[ev,eu]
   have s3:Am H (upd H2 T2 (.tup [.int th[i],.str ⟨#[u[i]]⟩])):=s2.new nT
   unfold FN
   refine⟨_,rfl,rfl,_,rfl,?_⟩
   have hh:("#" : Str)=⟨#[35]⟩:=by decide +kernel
   rw[hh]
   refine Mz (fun h=>?_) (fun h=>?_)
   ·have h35:u[i]=35:=Ass.mp h
    refine⟨_,rfl,?_⟩
    refine CN.of hi ⟨s3,ns++[th[i]],Tj _ _,by rw[A3T];show ns.length+1≤i+1;omega,fun z=>?_⟩
    rw[A5H,List.mem_singleton,hm z]
    constructor
    ·rintro(⟨e,h1,h2⟩ | rfl)
     ·exact⟨e,by omega,h2⟩
     ·exact⟨i,by omega,A3R hit,by rw[A3R hi,h35]⟩
    ·rintro⟨e,h1,h2,h3⟩
     by_cases q:e=i
     ·subst q
      rw[A3R hit] at h2
      exact .inr (Option.some.inj h2).symm
     ·exact .inl ⟨e,by omega,h2,h3⟩
   ·refine CN.of hi ⟨s3,ns,rfl,by omega,fun z=>?_⟩
    rw[hm z]
    constructor
    ·rintro⟨e,h1,h2⟩
     exact⟨e,by omega,h2⟩
    ·rintro⟨e,h1,h2,h3⟩
     by_cases q:e=i
     ·subst q
      rw[A3R hi] at h3
      exact absurd (Ass.mpr (Option.some.inj h3)) h
     ·exact⟨e,by omega,h2,h3⟩
  ·rintro ys H2 p ⟨s2,ns,rfl,hn,hm⟩ np
   have A0N:∀ z∈ns,z∈th:=fun z hz=>by
    obtain⟨e,_,h2,_⟩:=(hm z).mp hz
    exact A3Y h2
   refine⟨_,_,rfl,SqL.of Ae,by omega,fun ds nd hs=>Axh nd fun z hz=>hth z (A0N z (hs z hz)),fun l ks hk hp nl=>?_⟩
   have s3:Am H (upd H2 p (.lst (vI ns))):=s2.new np
   refine k l ks _ (s3.new nl) (s3.free nl) Ae ⟨fun i a b e1 e2=>?_,fun a ha=>hth a (A0N a ((hk a).mp ha))⟩ fun z=>?_
   ·obtain⟨i1,rfl⟩:=List.getElem?_eq_some_iff.mp e1
    obtain⟨i2,rfl⟩:=List.getElem?_eq_some_iff.mp e2
    exact List.pairwise_iff_getElem.mp hp i (i+1) i1 i2 (by omega)
   ·rw[hk z,hm z]
    exact⟨fun⟨e,_,h⟩=>⟨e,h⟩,fun⟨e,h1,h2⟩=>⟨e,(List.getElem?_eq_some_iff.mp h2).1,h1,h2⟩⟩
theorem AsB{f:List (List Nat)}{u:List Nat}(h:u∈f):(f.map tx)[ix f u]?=some (tx u)∧(∀ i,i<ix f u→(f.map tx)[i]?≠some (tx u))∧ix f u<f.length:=by
 refine⟨by rw[A4e,Anl h];rfl,fun i hi z=>?_,AiJ h⟩
 rw[A4e] at z
 obtain⟨y,hy,e⟩:=Option.map_eq_some_iff.mp z
 rw[WL e] at hy
 exact Asq hi hy
theorem AsC(l:List Nat)(z:Nat):nts l++[(z:Int)]=nts (l++[z]):=by unfold nts;rw[A3W];rfl
def Ams {α:Type}[DecidableEq α](l:List α)(i:Nat):List Nat:=(l.take i).map fun x=>ix (unl l) x
theorem AkO{α:Type}[DecidableEq α](l:List α):Ams l l.length=num l:=by unfold Ams num;rw[A4s]
theorem AkP{α:Type}[DecidableEq α]{l:List α}{i:Nat}{x:α}(h:l[i]?=some x):Ams l (i+1)=Ams l i++[ix (unl l) x]:=by
 unfold Ams
 rw[A4p,h,A3W]
 rfl
theorem AkQ{α:Type}[DecidableEq α]{l:List α}{i:Nat}(h:i≤l.length):(Ams l i).length=i:=by
 unfold Ams
 rw[A3S,A4l]
 omega
theorem AsD{α:Type}[DecidableEq α]{l:List α}{z:Int}(h:z∈nts (num l)):0≤z∧z<((unl l).length:Int):=by
 obtain⟨y,hy,rfl⟩:=Afx.mp h
 have:=Ak0 hy
 omega
structure Lts (cl:List (List Nat)) (m:Nat) (tss:List (List Int)):Prop where
 l:tss.length=(unl cl).length
 r:∀(j:Nat) (u:List Nat) (ks:List Int),(unl cl)[j]?=some u→tss[j]?=some ks→Rs ks∧Aqo (nts (num (cols cl m))) u ks
def AvC (K:PySem.W.Frag)(t:Adr):Sp:=fun vs H Q _=>∃(a:Addr) (cl:List (List Nat)) (m n:Nat),vs=[.ref a]∧SqL K H a (vS cl)∧Cl cl m n ∧
 ∀ d dx a' b' c' qs tss H',Am H H'→H d=none→Lts cl m tss→Ft (nts (num (cols cl m))) tss (nts (num cl))→IsD t H' d dx a' b' c' qs (nts (num (cols cl m))) tss (nts (num cl))→Q (.ref d) H'
theorem Abo(T:Txt K mg t):Aq P w K mg base CX0 6 t.Fl t.Py ["cloth"] (AvC K t):=by
 have Gh:Aq P w K mg base CX0 3 t.Ew t.JR _ _:=M6 T
 have M7:Aq P w K mg base CX0 1 t.Gy t.QD _ _:=Zm T
 have AfQ:Aq P w K mg base CX0 1 t.La t.AaY _ _:=AtT T
 have Xc:Aq P w K mg base CX0 1 t.Fq t.PB _ _:=Abn T
 have Ii:Aq P w K mg base CX0 4 t.Bu t.Ih _ _:=Nr T
 refine T.JT.F.ok GK (fun vs H Q E h=>?_) (fun cdv A outer s H vs Q E hr h=>?_)
 ·obtain⟨a,cl,m,n,rfl,_⟩:=h
  rfl
 ·obtain⟨a,cl,m,n,rfl,hS,C,k⟩:=h
  refine⟨_,(Ad (Ax (i:=1) GK.nd rfl (Or.inl rfl) (Aj (Gh.mono (by decide)) hr rfl T.measured.m T.measured.F.kp T.measured.b .nil Ao (Aa (pv 0) Ac)))
   (Ad (Uz (i:=2) (Dp.mk (Bh:=[0]) (Nc:=["end", "cloth"]) rfl (by decide +kernel) (by decide +kernel) (Cu (sc0:=Ab BK) rfl (by decide +kernel)) rfl rfl rfl (by decide +kernel) (fun k j h=>match k,h with | 0,h=>by obtain rfl:=Option.some.inj h;exact⟨_,rfl,rfl,rfl⟩ | _+1,h=>by simp at h)) rfl GK.nd rfl rfl (Kg rfl T.Jc (Aa (Cq (MK (K:=K)) (pv 1) Ak (fun _ _=>rfl)) Ac)) (fun _ _ _ _ _=>.nil) (fun _ _ _ _ _=>(Aj (M7.mono (by decide)) hr rfl T.G8.m T.G8.F.kp T.G8.b .nil Ao (Aa (pv 1) (Aa (pv 0) Ac)))) rfl)
   (Ad (Ax (i:=3) GK.nd rfl (Or.inr rfl) (Aj (AfQ.mono (by decide)) hr rfl T.unlike.m T.unlike.F.kp T.unlike.b .nil Ao (Aa (pv 2) Ac)))
   (Ad (Ax (i:=4) GK.nd rfl (Or.inr rfl) (Aj (AfQ.mono (by decide)) hr rfl T.unlike.m T.unlike.F.kp T.unlike.b .nil Ao (Aa (pv 0) Ac)))
   (Ad (Ax (i:=5) GK.nd rfl (Or.inr rfl) (Gk (Dp.mk (Bh:=[3]) (Nc:=["signs", "unlike_ends"]) rfl (by decide +kernel) (by decide +kernel) (Cu (sc0:=Ab BK) rfl (by decide +kernel)) rfl rfl rfl (by decide +kernel) (fun k j h=>match k,h with | 0,h=>by obtain rfl:=Option.some.inj h;exact⟨_,rfl,rfl,rfl⟩ | _+1,h=>by simp at h)) rfl (Bq (K:=K) (pv 2)) (fun _ _ _ _ _=>.nil) (fun _ _ _ _ _=>(Dq (K:=K) PySem.F.plainAttrs_list PySem.F.slot_list_index PySem.F.type_list_index Asj (pv 1) (Aa (pv 0) Ac)))))
   (Ad (Uz (i:=6) (Dp.mk (Bh:=[4]) (Nc:=["text", "unlike_picks"]) rfl (by decide +kernel) (by decide +kernel) (Cu (sc0:=Ab BK) rfl (by decide +kernel)) rfl rfl rfl (by decide +kernel) (fun k j h=>match k,h with | 0,h=>by obtain rfl:=Option.some.inj h;exact⟨_,rfl,rfl,rfl⟩ | _+1,h=>by simp at h)) rfl GK.nd rfl rfl (Bq (K:=K) (pv 0)) (fun _ _ _ _ _=>.nil) (fun _ _ _ _ _=>(Dq (K:=K) PySem.F.plainAttrs_list PySem.F.slot_list_index PySem.F.type_list_index Asj (pv 1) (Aa (pv 0) Ac))) rfl)
   (Ah (Bb (AcD T.Hf.m (Ii.mono (by decide)) hr rfl T.AnV T.Ko.b .nil Ao (Aa (pv 5) (Aa (Gk (Dp.mk (Bh:=[5]) (Nc:=["text", "threading"]) rfl (by decide +kernel) (by decide +kernel) (Cu (sc0:=Ab BK) rfl (by decide +kernel)) rfl rfl rfl (by decide +kernel) (fun k j h=>match k,h with | 0,h=>by obtain rfl:=Option.some.inj h;exact⟨_,rfl,rfl,rfl⟩ | _+1,h=>by simp at h)) rfl (Bq (K:=K) (pv 4)) (fun _ _ _ _ _=>.nil) (fun _ _ _ _ _=>(Aj (Xc.mono (by decide)) hr rfl T.JW.m T.JW.F.kp T.JW.b .nil Ao (Aa (pv 1) (Aa (pv 0) Ac))))) (Aa (pv 6) Ac)))))))))))),?_⟩
  refine⟨_,rfl,a,cl,m,n,rfl,hS,C,fun p hp=>?_⟩
  have hsz:sizeLine=16777216:=sizeLine_eq
  have m1:=C.m1
  have m40:=C.m40
  have n1:=C.n1
  have n40:=C.n40
  have hn:=C.hn
  have s1:Am H (upd H p (.tup [.int (m:Int),.int (n:Int)])):=.upd hp
  refine⟨_,rfl,_,_,_,_,rfl,rfl,SqT.of Ae,Ed (by decide) rfl,(m:Int),rfl,(by omega),(by omega),?_⟩
  rw[A4m]
  refine Ti (lo:=0) (n:=m) (fun i ys H2=>Am H H2∧ys=vS ((List.range i).map (col cl))) ⟨s1,rfl⟩ ?_ ?_ ?_ ?_
  ·rintro i ys H2 hi ⟨s2,rfl⟩
   rw[Bs,A3S,A4H]
   omega
  ·exact Jl m40
  ·rintro i ys H2 hi ⟨s2,rfl⟩
   refine FN.no ?_
   refine⟨_,rfl,_,rfl,a,cl,m,n,i,(by rw[A5f];rfl),s2.seq hS,C,hi,fun H3 s3=>?_⟩
   refine CN.of hi ⟨s2.trans s3,?_⟩
   rw[Ia,A5d,A3W]
   rfl
  rintro ys H2 p2 ⟨s2,rfl⟩ np2
  obtain⟨es,hes⟩:∃ es,es=cols cl m:=⟨_,rfl⟩
  have les:es.length=m:=by rw[hes,KQ]
  rw[show(List.range m).map (col cl)=es from hes.symm]
  rw[← hes] at k
  have s3:Am H (upd H2 p2 (.lst (vS es))):=s2.new np2
  generalize hH3:upd H2 p2 (.lst (vS es))=H3 at s3 ⊢
  have h3:H3 p2=some (.lst (vS es)):=by rw[← hH3];exact Ae
  clear hH3
  refine⟨_,rfl,p2,es,rfl,SqL.of h3,by omega,fun q1 H4 s4 nq1 h4=>?_⟩
  have lf1:=QW es
  have mf1:∀ u∈es,u∈unl es:=fun u hu=>(MN u es).mpr hu
  have s14:=s3.trans s4
  refine⟨_,rfl,a,cl,rfl,s14.seq hS,by omega,fun q2 H5 s5 nq2 h5=>?_⟩
  have lf2:=QW cl
  have mf2:∀ u∈cl,u∈unl cl:=fun u hu=>(MN u cl).mpr hu
  have mg2:∀ u∈unl cl,u∈cl:=fun u hu=>(MN u cl).mp hu
  have s15:=s14.trans s5
  have hp2:=s5 _ _ (s4 _ _ h3)
  have hq1:=s5 _ _ h4
  have g1:0<(unl cl).length:=AwN fun z=>by rw[z] at hn;simp at hn;omega
  refine⟨_,rfl,_,rfl,⟨_,SqL.of hp2⟩,De (K:=K) (a:=p2) (xs:=vS es) (fun i ys H6=>H6=H5∧ys=vI (nts (Ams es i))) ⟨rfl,rfl⟩ ?_ ?_ ?_ ?_⟩
  ·rintro i ys H6 hi ⟨rfl,rfl⟩
   rw[Bs] at hi
   exact⟨SqL.of hp2,by rw[Bd,Ge,AkQ hi];exact A3U _⟩
  ·rw[Bs];omega
  ·rintro i xv ys H6 hi hxv ⟨rfl,rfl⟩
   obtain⟨u,hu,rfl⟩:=QT hxv
   obtain⟨j1,j2,j3⟩:=AsB (mf1 u (A3Y hu))
   refine FN.no ?_
   refine⟨_,rfl,.inl ⟨rfl,_,SqL.of hq1⟩,_,rfl,q1,(unl es).map tx,tx u,_,rfl,rfl,(by rw[← QV];exact hq1),j1,j2,(by rw[A3S];omega),?_⟩
   refine CN.of hi ⟨rfl,?_⟩
   rw[Tj,AsC,AkP hu]
  rintro ys H6 p3 ⟨rfl,rfl⟩ np3
  rw[Bs,AkO]
  obtain⟨th,eth⟩:∃ th,th=nts (num es):=⟨_,rfl⟩
  rw[← eth] at k ⊢
  have lth:th.length=m:=by rw[eth,Ge,Gb,les]
  have hth:∀ z∈th,0≤z∧z<40:=fun z hz=>by rw[eth] at hz;have:=AsD hz;omega
  have s6:Am H6 (upd H6 p3 (.lst (vI th))):=.upd np3
  generalize hH7:upd H6 p3 (.lst (vI th))=H7 at s6 ⊢
  have h7:H7 p3=some (.lst (vI th)):=by rw[← hH7];exact Ae
  clear hH7
  have s17:=s15.trans s6
  have h5':=s6 _ _ h5
  refine⟨_,rfl,_,rfl,⟨_,s17.seq hS⟩,De (K:=K) (a:=a) (xs:=vS cl) (fun i ys H8=>H8=H7∧ys=vI (nts (Ams cl i))) ⟨rfl,rfl⟩ ?_ ?_ ?_ ?_⟩
  ·rintro i ys H8 hi ⟨rfl,rfl⟩
   rw[Bs] at hi
   exact⟨s17.seq hS,by rw[Bd,Ge,AkQ hi];exact A3U _⟩
  ·rw[Bs];omega
  ·rintro i xv ys H8 hi hxv ⟨rfl,rfl⟩
   obtain⟨u,hu,rfl⟩:=QT hxv
   obtain⟨j1,j2,j3⟩:=AsB (mf2 u (A3Y hu))
   refine FN.no ?_
   refine⟨_,rfl,.inl ⟨rfl,_,SqL.of h5'⟩,_,rfl,q2,(unl cl).map tx,tx u,_,rfl,rfl,(by rw[← QV];exact h5'),j1,j2,(by rw[A3S];omega),?_⟩
   refine CN.of hi ⟨rfl,?_⟩
   rw[Tj,AsC,AkP hu]
  rintro ys H8 p4 ⟨rfl,rfl⟩ np4
  rw[Bs,AkO]
  obtain⟨tr,etr⟩:∃ tr,tr=nts (num cl):=⟨_,rfl⟩
  rw[← etr] at k ⊢
  have ltr:tr.length=n:=by rw[etr,Ge,Gb,hn]
  have htr:∀ z∈tr,0≤z∧z<((unl cl).length:Int):=fun z hz=>by rw[etr] at hz;exact AsD hz
  have s8:Am H8 (upd H8 p4 (.lst (vI tr))):=.upd np4
  generalize hH9:upd H8 p4 (.lst (vI tr))=H9 at s8 ⊢
  have h9:H9 p4=some (.lst (vI tr)):=by rw[← hH9];exact Ae
  clear hH9
  have s19:=s17.trans s8
  have h9t:=s8 _ _ h7
  have h9u:=s8 _ _ h5'
  refine⟨_,rfl,_,rfl,_,rfl,⟨_,SqL.of h9u⟩,De (K:=K) (a:=q2) (xs:=vS (unl cl)) (fun i ys H10=>Am H9 H10∧∃(rs:List Addr) (tss:List (List Int)),ys=rs.map V.ref∧rs.length=i∧tss.length=i∧(∀ ks∈tss,Rs ks)∧(∀(j:Nat) (u:List Nat) (ks:List Int),(unl cl)[j]?=some u→tss[j]?=some ks→Aqo th u ks)∧∀(j:Nat) (r:Addr) (ks:List Int),rs[j]?=some r→tss[j]?=some ks→H10 r=some (.lst (vI ks)))
   ⟨.refl _,[],[],rfl,rfl,rfl,fun _ h=>absurd h (by simp),fun j u ks _ h=>(by simp at h),fun j r ks h=>(by simp at h)⟩ ?_ ?_ ?_ ?_⟩
  ·rintro i ys H10 hi ⟨s10,rs,tss,rfl,e,_⟩
   exact⟨SqL.of (s10 _ _ h9u),by rw[A3S];omega⟩
  ·rw[Bs];omega
  ·rintro i xv ys H10 hi hxv ⟨s10,rs,tss,rfl,e,e2,hR,hT,hrs⟩
   obtain⟨u,hu,rfl⟩:=QT hxv
   refine FN.no ?_
   refine⟨_,rfl,_,rfl,p3,th,u,rfl,s10 _ _ h9t,?_,?_,hth,fun l ks H11 s11 nl hl R TO=>?_⟩
   ·rw[C.hm u (mg2 u (A3Y hu))];exact lth
   ·rw[C.hm u (mg2 u (A3Y hu))];exact m40
   refine CN.of hi ⟨s10.trans s11,rs++[l],tss++[ks],by rw[A3W];rfl,by rw[A3T,e];rfl,by rw[A3T,e2];rfl,fun x hx=>?_,fun j u' x h1 h2=>?_,fun j r x h1 h2=>?_⟩
   ·rcases List.mem_append.mp hx with h | h
    ·exact hR x h
    ·rw[List.mem_singleton.mp h];exact R
   ·by_cases hj:j<tss.length
    ·rw[A4i hj] at h2
     exact hT j u' x h1 h2
    ·have hj2:j=i:=by
      have:=(List.getElem?_eq_some_iff.mp h2).1
      rw[A3T] at this
      simp at this
      omega
     rw[A4h (by omega),hj2,e2,A4N] at h2
     cases h2
     rw[hj2,hu] at h1
     cases h1
     exact TO
   ·by_cases hj:j<rs.length
    ·rw[A4i hj] at h1
     rw[A4i (by omega)] at h2
     exact s11 _ _ (hrs j r x h1 h2)
    ·have hj2:j=i:=by
      have:=(List.getElem?_eq_some_iff.mp h1).1
      rw[A3T] at this
      simp at this
      omega
     subst hj2
     rw[A4h (by omega),e,A4N] at h1
     rw[A4h (by omega),e2,A4N] at h2
     cases h1
     cases h2
     exact hl
  rintro ys H10 p5 ⟨s10,rs,tss,rfl,lrs,Axj,hR,hT,hrs⟩ np5
  rw[Bs] at lrs Axj
  have s11:Am H9 (upd H10 p5 (.lst (rs.map V.ref))):=s10.new np5
  have sn:Am H10 (upd H10 p5 (.lst (rs.map V.ref))):=.upd np5
  generalize A0O:upd H10 p5 (.lst (rs.map V.ref))=H11 at s11 sn ⊢
  have h11:H11 p5=some (.lst (rs.map V.ref)):=by rw[← A0O];exact Ae
  clear A0O
  have FT:Ft th tss tr:={ m1:=by omega,m40:=by omega,t1:=by omega,t40:=by omega,n1:=by omega,n40:=by omega,hth:=hth,hti:=hR,htr:=fun v hv=>by have:=htr v hv;omega }
  refine⟨_,rfl,fun x dx nx ndx hne=>?_⟩
  have sz:Am H11 (upd (upd H11 dx (.own x)) x (.ins t.Cv dx [])):=(Am.upd ndx).new (by rw[Aw (fun z=>hne z.symm)];exact nx)
  refine⟨x,dx,p3,p5,p4,rs,th,tss,tr,rfl,Ae,sz _ _ (s11 _ _ h9t),⟨sz _ _ h11,by omega,fun j r ks e1 e2=>sz _ _ (sn _ _ (hrs j r ks e1 e2))⟩,sz _ _ (s11 _ _ h9),?_,fun a' b' c' qs H' sb _ _ _ _ D=>⟨rfl,?_⟩⟩
  ·exact FT
  ·have nx0:H x=none:=by
    cases e:H x with
    | none=>rfl
    | some o=>rw[s11 _ _ (s19 _ _ e)] at nx;cases nx
   refine k x dx a' b' c' qs tss H' (fun b o e=>?_) nx0 ⟨Axj,fun j u ks h1 h2=>⟨hR ks (A3Y h2),by rw[← hes,← eth];exact hT j u ks h1 h2⟩⟩ FT D
   have e11:=s11 _ _ (s19 _ _ e)
   exact sb b o (fun z=>by rw[z,nx] at e11;cases e11) (sz _ _ e11)
def Axk:Sp:=fun vs H Q _=>∃(x l:Addr) (th ks:List Int),vs=[.ref x,.ref l]∧H x=some (.lst (vI th))∧H l=some (.lst (vI ks))∧th.length≤40∧∀ H',Am H H'→Q (.str (tx (shd th ks))) H'
theorem Aok(T:Txt K mg t):Aq P w K mg base CX0 1 t.Ir t.AaX ["threading", "lifted"] Axk:=by
 refine T.AcL.F.ok AnS (fun vs H Q E h=>?_) (fun cdv A outer s H vs Q E hr h=>?_)
 ·obtain⟨x,l,th,ks,rfl,_⟩:=h
  rfl
 ·obtain⟨x,l,th,ks,rfl,hx,hl,h40,k⟩:=h
  refine⟨_,(Ah (Bb (Dq (K:=K) PySem.F.plainAttrs_str PySem.F.slot_str_join PySem.F.type_str_join (JN (K:=K)) Dm (Aa (Gk (Dp.mk (Bh:=[1]) (Nc:=["shaft", "lifted"]) rfl (by decide +kernel) (by decide +kernel) (Cu (sc0:=Ab FQ) rfl (by decide +kernel)) rfl rfl rfl (by decide +kernel) (fun k j h=>match k,h with | 0,h=>by obtain rfl:=Option.some.inj h;exact⟨_,rfl,rfl,rfl⟩ | _+1,h=>by simp at h)) rfl (Bq (K:=K) (pv 0)) (fun _ _ _ _ _=>.nil) (fun _ _ _ _ _=>(Afb (Bc (Aek (K:=K)) (pv 0) (pv 1) rfl) Dm Dm))) Ac)))),?_⟩
  refine⟨rfl,_,rfl,_,rfl,⟨_,SqL.of hx⟩,De (K:=K) (a:=x) (xs:=vI th) (fun i ys H2=>H2=H∧ys=vS ((th.take i).map fun s=>[if s∈ks then 35 else 46])) ⟨rfl,rfl⟩ ?_ ?_ ?_ ?_⟩
  ·rintro i ys H2 hi ⟨rfl,rfl⟩
   refine⟨SqL.of hx,?_⟩
   rw[Bs,A3S,A4l]
   omega
  ·rw[Bd];exact Jl h40
  ·rintro i xv ys H2 hi hxv ⟨rfl,rfl⟩
   obtain⟨z,hz,rfl⟩:=JM hxv
   refine FN.no ?_
   have fin:∀ d,d=(if z∈ks then 35 else 46)→CN (vI th).length (fun i ys H2'=>H2'=H2∧ys=vS ((th.take i).map fun s=>[if s∈ks then 35 else 46])) i (vS ((th.take i).map fun s=>[if s∈ks then 35 else 46])++[.str (tx [d])]) H2:=fun d hd=>by
    subst hd
    refine CN.of hi ⟨rfl,?_⟩
    rw[Ia,A4p,hz,A3W]
    rfl
   refine⟨_,rfl,_,rfl,_,_,rfl,.inl (SqL.of hl),rfl,AjF _,_,rfl,?_⟩
   show if (inV (.int z) (vI ks))=true then _ else _
   rw[Ard]
   refine Mz (fun h=>?_) (fun h=>?_)
   ·have:=fin 35 (by rw[if_pos h])
    rw[← Akf,e35] at this
    exact this
   ·have:=fin 46 (by rw[if_neg h])
    rw[← Akf,e46] at this
    exact this
  ·rintro ys H2 p ⟨rfl,rfl⟩ hp
   rw[Bd,A4s]
   refine⟨_,_,((th.map fun s=>[if s∈ks then 35 else 46]).map tx),rfl,rfl,SqL.of (by rw[Ae,QV]),?_,?_⟩
   ·have e1:=Aw3 (fun s:Int=>if s∈ks then 35 else 46) th
    rw[e1,A3S,A3S]
    have:th.length*(Str.length "")=0:=by rw[show Str.length "" = 0 from by decide +kernel];omega
    omega
   ·rw[show(("" : Str))=tx [] from by decide +kernel,AcF]
    have e2:=Apq (fun s:Int=>if s∈ks then 35 else 46) th
    rw[e2]
    exact k _ (.upd hp)
def AvD (t:Adr):Sp:=fun vs H Q _=>∃(d dx a b c:Addr) (qs:List Addr) (th:List Int) (tss:List (List Int)) (tr:List Int),vs=[.ref d]∧IsD t H d dx a b c qs th tss tr∧Ft th tss tr∧∀ l H',Am H H'→H l=none→H' l=some (.lst (vS (wv th tss tr)))→Q (.ref l) H'
theorem AvE(T:Txt K mg t):Aq P w K mg base CX0 2 t.U6 t.AnU ["draft"] (AvD t):=by
 have Aqp:Aq P w K mg base CX0 1 t.Ir t.AaX _ _:=Aok T
 refine T.Ye.F.ok AuZ (fun vs H Q E h=>?_) (fun cdv A outer s H vs Q E hr h=>?_)
 ·obtain⟨d,dx,a,b,c,qs,th,tss,tr,rfl,_⟩:=h
  rfl
 ·obtain⟨d,dx,a,b,c,qs,th,tss,tr,rfl,D,F,k⟩:=h
  have n40:=F.n40
  refine⟨_,(Ah (Bb (Gk (Dp.mk (Bh:=[0]) (Nc:=["treadle", "draft"]) rfl (by decide +kernel) (by decide +kernel) (Cu (sc0:=Ab MT) rfl (by decide +kernel)) rfl rfl rfl (by decide +kernel) (fun k j h=>match k,h with | 0,h=>by obtain rfl:=Option.some.inj h;exact⟨_,rfl,rfl,rfl⟩ | _+1,h=>by simp at h)) rfl (Bq (K:=K) (BV (K:=K) (pv 0) rfl)) (fun _ _ _ _ _=>.nil) (fun _ _ _ _ _=>(Aj (Aqp.mono (by decide)) hr rfl T.AcL.m T.AcL.F.kp T.AcL.b .nil Ao (Aa (BV (K:=K) (pv 1) rfl) (Aa (Cq (Bm (K:=K)) (BV (K:=K) (pv 1) rfl) (pv 0) (fun _ _=>rfl)) Ac))))))),?_⟩
  refine⟨_,rfl,_,_,_,_,_,rfl,D.o,T.Hf.c,T.BR,Aqm a b c,_,rfl,⟨_,SqL.of D.hc⟩,De (K:=K) (a:=c) (xs:=vI tr) (fun i ys H2=>Am H H2∧ys=vS (wv th tss (tr.take i))) ⟨.refl _,rfl⟩ ?_ ?_ ?_ ?_⟩
  ·rintro i ys H2 hi ⟨s2,rfl⟩
   refine⟨SqL.of (s2 _ _ D.hc),?_⟩
   rw[Bs,AuT,A4l]
   omega
  ·rw[Bd];exact Jl n40
  ·rintro i xv ys H2 hi hxv ⟨s2,rfl⟩
   obtain⟨v,hv,rfl⟩:=JM hxv
   have bv:=F.htr v (A3Y hv)
   have D2:=D.same s2
   have hvq:v.toNat<qs.length:=by rw[D2.hb.l];omega
   have hrow:=D2.hb.r v.toNat qs[v.toNat] _ (A3R hvq) (AwM bv)
   refine FN.no ?_
   refine⟨_,rfl,_,_,_,_,_,rfl,D2.o,T.Hf.c,T.Bx,Aql a b c,_,rfl,_,_,_,_,_,rfl,D2.o,T.Hf.c,T.HH,AxE a b c,_,rfl,_,_,_,_,rfl,rfl,SqL.of D2.hb.h,Ed bv.1 (by rw[A4e,A3R hvq];rfl),
    a,qs[v.toNat],th,_,rfl,D2.ha,hrow,F.m40,fun H3 s3=>?_⟩
   refine CN.of hi ⟨s2.trans s3,?_⟩
   rw[Ia]
   unfold wv
   rw[A4p,hv,A3W]
   rfl
  ·rintro ys H2 l ⟨s2,rfl⟩ nl
   rw[Bd,A4s]
   exact k l _ (s2.new nl) (s2.free nl) Ae
def Axl (K:PySem.W.Frag):Sp:=fun vs H Q _=>∃(a b:Addr) (cl:List (List Nat)),vs=[.ref a,.ref b]∧H a=some (.lst (vS cl))∧SqL K H b (vS cl)∧cl.length≤40∧Q (.bl true) H
theorem AfR(T:Txt K mg t):Aq P w K mg base CX0 1 t.DN t.Oz ["found", "due"] (Axl K):=by
 refine T.Bg.F.ok U4 (fun vs H Q E h=>?_) (fun cdv A outer s H vs Q E hr h=>?_)
 ·obtain⟨a,b,cl,rfl,_⟩:=h
  rfl
 ·obtain⟨a,b,cl,rfl,ha,hb,hl,k⟩:=h
  refine⟨_,(Ad (Dc (PW.pt (pw_or (W9 (M8 (Bo (Anf (K:=K)) rfl T.Af8 Ade (Aa (pv 0) (Aa (ArR (v:=.ty "list") rfl T.Abf U0 rfl) Ac))))) (pw_or1 (Bc Apd (Bo (Bl (K:=K)) rfl T.HN Es (Aa (pv 0) Ac)) (Bo (Bl (K:=K)) rfl T.HN Es (Aa (pv 1) Ac)) (Br _)))))
    (Ah (Bb XM))
    Bj)
   (Ad (GD PassesOwn.never rfl (Kg rfl T.Jc (Aa (Bo (Bl (K:=K)) rfl T.HN Es (Aa (pv 1) Ac)) Ac)) (Dd (i:=2) U4.nd rfl (Or.inl rfl))
    (Ah (Dc (PW.pt (pw_or (W9 (M8 (Bo (Anf (K:=K)) rfl T.Af8 Ade (Aa (Cq (Bm (K:=K)) (pv 0) (pv 2) (fun _ _=>rfl)) (Aa (ArR (v:=.ty "str") rfl T.Avc AqZ rfl) Ac))))) (pw_or1 (Bc Apd (Cq (Bm (K:=K)) (pv 0) (pv 2) (fun _ _=>rfl)) (Cq (Bm (K:=K)) (pv 1) (pv 2) (fun _ _=>rfl)) (Br _)))))
     (Ah (Bb XM))
     Bj)))
   (Ah (Bb XM)))),?_⟩
  refine⟨_,rfl,_,_,true,.lst ha,.inl ⟨_,rfl,ApM K _⟩,_,rfl,?_⟩
  refine QS ?_
  refine⟨_,rfl,_,_,rfl,.inl (SqL.of ha),_,rfl,_,_,rfl,.inl hb,rfl,_,rfl,?_⟩
  refine AiG rfl ?_
  refine⟨_,rfl,_,_,rfl,.inl hb,_,rfl,(by omega),(by rw[Bs];omega),?_⟩
  rw[A4m,Bs]
  refine Om (lo:=0) (n:=cl.length) (fun i σ H2=>∃ v,σ=[some (.ref a),some (.ref b),v]∧H2=H) ⟨none,rfl,rfl⟩ ?_ ?_
  ·rintro i σ H2 hi ⟨v,rfl,rfl⟩
   have e:atI (vS cl) (0+(i:Int))=some (.str (tx cl[i])):=Ed (by omega) (by rw[z0];exact Aej (A3R hi))
   refine⟨_,rfl,_,rfl,_,_,_,_,rfl,rfl,SqL.of ha,e,_,_,true,.str _,.inl ⟨_,rfl,ApM K _⟩,_,rfl,?_⟩
   refine QS ?_
   refine⟨_,rfl,_,rfl,_,_,_,_,rfl,rfl,SqL.of ha,e,_,rfl,_,rfl,_,_,_,_,rfl,rfl,hb,e,rfl,_,rfl,?_⟩
   refine AiG rfl ?_
   exact⟨_,rfl,rfl⟩
  ·rintro σ H2 ⟨v,rfl,rfl⟩
   exact k
structure TL (H:Hp) (rs:List Addr) (ps:List (List Nat × List Nat)):Prop where
 l:rs.length=ps.length
 r:∀(i:Nat) (a:Addr) (p:List Nat × List Nat),rs[i]?=some a→ps[i]?=some p→H a=some (.tup [.str (tx p.1),.str (tx p.2)])
theorem TL.same{H H':Hp}{rs:List Addr}{ps:List (List Nat × List Nat)}(N:TL H rs ps)(s:Am H H'):TL H' rs ps:=⟨N.l,fun i a p h1 h2=>s _ _ (N.r i a p h1 h2)⟩
theorem TL.at{H:Hp}{rs:List Addr}{ps:List (List Nat × List Nat)}(N:TL H rs ps){i:Nat}{v:V}(h:(rs.map V.ref)[i]?=some v):∃ a p,v=.ref a∧rs[i]?=some a∧ps[i]?=some p∧H a=some (.tup [.str (tx p.1),.str (tx p.2)]):=by
 rw[A4e] at h
 obtain⟨a,ha,rfl⟩:=Option.map_eq_some_iff.mp h
 have hi:i<ps.length:=by rw[← N.l];exact(List.getElem?_eq_some_iff.mp ha).1
 exact⟨a,ps[i],rfl,ha,A3R hi,N.r i a _ ha (A3R hi)⟩
theorem TL.snoc{H:Hp}{rs:List Addr}{ps:List (List Nat × List Nat)}{a:Addr}{p:List Nat × List Nat}(N:TL H rs ps)(h:H a=some (.tup [.str (tx p.1),.str (tx p.2)])):TL H (rs++[a]) (ps++[p]):=by
 have e:=N.l
 refine⟨by rw[A3T,A3T,e];rfl,fun i a' p' g1 g2=>?_⟩
 by_cases c:i<rs.length
 ·rw[A4i c] at g1
  rw[A4i (by omega)] at g2
  exact N.r i a' p' g1 g2
 ·rw[A4h (by omega)] at g1 g2
  have:=(List.getElem?_eq_some_iff.mp g1).1
  simp at this
  rw[show i-rs.length=0 by omega] at g1
  rw[show i-ps.length=0 by omega] at g2
  cases g1
  cases g2
  exact h
theorem eqP(p q:List Nat × List Nat):eqL [.str (tx p.1),.str (tx p.2)] [.str (tx q.1),.str (tx q.2)]=decide (p=q):=by
 show((tx p.1 == tx q.1) && ((tx p.2 == tx q.2) && true))=_
 rw[Bool.and_true,A5x,A4I,beq_iff_eq,beq_iff_eq,decide_eq_true_iff]
 constructor
 ·rintro⟨h1,h2⟩
  exact Prod.ext (WL h1) (WL h2)
 ·rintro rfl
  exact⟨rfl,rfl⟩
theorem Axm{H:Hp}{a b:Addr}{p q:List Nat × List Nat}(h1:H a=some (.tup [.str (tx p.1),.str (tx p.2)]))(h2:H b=some (.tup [.str (tx q.1),.str (tx q.2)])):Ms K H (.ref a) (.ref b) (decide (p=q)):=(Ms.tup (SqT.of h1) (SqT.of h2) rfl rfl).is (eqP p q)
def Ar9 (K:PySem.W.Frag):Sp:=fun vs H Q _=>∃(a:Addr) (rs:List Addr) (ps:List (List Nat × List Nat)),vs=[.ref a]∧SqL K H a (rs.map V.ref)∧TL H rs ps∧ps.length≤40∧∀ l fs H',Am H H'→H l=none→H' l=some (.lst (fs.map V.ref))→TL H' fs (unl ps)→Q (.ref l) H'
theorem ArA(T:Txt K mg t):Aq P w K mg base CX0 1 t.La t.AaY ["things"] (Ar9 K):=by
 refine T.unlike.F.ok Th (fun vs H Q E h=>?_) (fun cdv A outer s H vs Q E hr h=>?_)
 ·obtain⟨a,rs,ps,rfl,_⟩:=h
  rfl
 ·obtain⟨a,rs,ps,rfl,hS,N,hl,k⟩:=h
  have nl:=N.l
  refine⟨_,(Ad (Ax (i:=1) Th.nd rfl (Or.inl rfl) (HS Ac))
   (Ad (GD PassesOwn.never rfl (Bq (K:=K) (pv 0)) (Dd (i:=2) Th.nd rfl (Or.inl rfl))
    (Ah (Dc (Bc (At5 (K:=K) hr.Afn) (pv 2) (pv 1) rfl)
     (Ah (DP (Dq (K:=K) PySem.F.plainAttrs_list PySem.F.slot_list_append PySem.F.type_list_append HX (pv 1) (Aa (pv 2) Ac))))
     Bj)))
   (Ah (Bb (pv 1))))),?_⟩
  refine⟨A4f _,fun q nq=>?_⟩
  have s1:Am H (upd H q (.lst [])):=.upd nq
  refine⟨_,rfl,_,rfl,⟨_,s1.seq hS⟩,?_⟩
  refine GF (K:=K) (a:=a) (xs:=rs.map V.ref) (fun i σ H2=>∃(fs:List Addr) (v:Option V),σ=[some (.ref a),some (.ref q),v]∧Am H H2∧H2 q=some (.lst (fs.map V.ref))∧TL H fs (unl (ps.take i)))
   ⟨[],none,rfl,s1,Ae,⟨rfl,fun i a p h=>(by simp at h)⟩⟩ (fun i σ H2 _ ⟨_,_,_,s2,_⟩=>s2.seq hS) ?_ ?_
  ·rintro i xv σ H2 hx ⟨fs,v,rfl,s2,h2,F⟩
   obtain⟨r,p,rfl,hr1,hp1,hH⟩:=N.at hx
   have hil:i<ps.length:=(List.getElem?_eq_some_iff.mp hp1).1
   have et:ps.take (i+1)=ps.take i++[p]:=by rw[A4p,hp1];rfl
   have lf:(unl (ps.take i)).length≤i:=A4q (QW _) (by rw[A4l];omega)
   have fl:=F.l
   have F2:=F.same s2
   have hH2:=s2 _ _ hH
   refine⟨_,rfl,_,rfl,q,fs.map V.ref,rfl,SqL.of h2,?_⟩
   by_cases hm:p∈unl (ps.take i)
   ·refine .inl ⟨fun i' z hz=>?_,?_,?_⟩
    ·obtain⟨b,p',rfl,_,_,hb⟩:=F2.at hz
     exact⟨_,Axm hb hH2⟩
    ·obtain⟨j,hj⟩:=A5n hm
     have jl:j<fs.length:=by have:=(List.getElem?_eq_some_iff.mp hj).1;omega
     have g:(fs.map V.ref)[j]?=some (.ref fs[j]):=by rw[A4e,A3R jl];rfl
     have hb:=F2.r j fs[j] p (A3R jl) hj
     exact⟨j,_,g,(Axm hb hH2).is (decide_eq_true rfl)⟩
    ·refine⟨_,rfl,QS ?_⟩
     exact⟨fs,_,rfl,s2,h2,by rw[et,Ib,if_pos hm];exact F⟩
   ·refine .inr ⟨fun i' z hz=>?_,?_⟩
    ·obtain⟨b,p',rfl,_,hp',hb⟩:=F2.at hz
     exact(Axm hb hH2).is (decide_eq_false fun e=>hm (by rw[← e];exact A3Y hp'))
    ·refine⟨_,rfl,Ah1 ?_⟩
     refine⟨_,rfl,.inl ⟨rfl,_,SqL.of h2⟩,_,rfl,_,_,_,rfl,rfl,h2,(by rw[A3S];exact Jl (by omega)),?_⟩
     refine⟨fs++[r],_,rfl,s2.over nq,by rw[Ae,A3W];rfl,?_⟩
     rw[et,Ib,if_neg hm]
     exact F.snoc hH
  ·rintro σ H2 ⟨fs,v,rfl,s2,h2,F⟩
   rw[A3S,nl,A4s] at F
   exact⟨_,rfl,k q fs H2 s2 nq h2 (F.same s2)⟩
def Axn (K:PySem.W.Frag):Sp:=fun vs H Q _=>∃(b c:Addr) (cb cc:List (List Nat)) (w h:Nat),vs=[.ref b,.ref c]∧SqL K H b (vS cb)∧SqL K H c (vS cc)∧Cl cb w h∧Cl cc w h ∧
 ∀ p H',Am H H'→H' p=some (.tup [.int (w:Int),.int (h:Int)])→Q (.ref p) H'
theorem AfS(T:Txt K mg t):Aq P w K mg base CX0 4 t.Hm t.U7 ["one", "other"] (Axn K):=by
 have Gh:Aq P w K mg base CX0 3 t.Ew t.JR _ _:=M6 T
 refine T.O1.F.ok Af0 (fun vs H Q E h=>?_) (fun cdv A outer s H vs Q E hr h=>?_)
 ·obtain⟨b,c,cb,cc,w,h,rfl,_⟩:=h
  rfl
 ·obtain⟨b,c,cb,cc,w,h,rfl,hB,hC,C,C',k⟩:=h
  refine⟨_,(Ad (Ax (i:=2) Af0.nd rfl (Or.inl rfl) (Aj (Gh.mono (by decide)) hr rfl T.measured.m T.measured.F.kp T.measured.b .nil Ao (Aa (pv 0) Ac)))
   (Ad (Dc (Bc (AwK (K:=K) (hr.Afn)) (Aj (Gh.mono (by decide)) hr rfl T.measured.m T.measured.F.kp T.measured.b .nil Ao (Aa (pv 1) Ac)) (pv 2) (Br _))
    (Ah FJ)
    Bj)
   (Ah (Bb (pv 2))))),?_⟩
  refine⟨_,rfl,b,cb,w,h,rfl,hB,C,fun p np=>?_⟩
  have s1:Am H (upd H p (.tup [.int (w:Int),.int (h:Int)])):=.upd np
  have hp1:(upd H p (.tup [.int (w:Int),.int (h:Int)])) p=some (.tup (vI [(w:Int),(h:Int)])):=Ae
  generalize upd H p (.tup [.int (w:Int),.int (h:Int)])=H1 at s1 hp1 ⊢
  refine⟨_,rfl,c,cc,w,h,rfl,s1.seq hC,C',fun p' np'=>?_⟩
  have s2:Am H1 (upd H1 p' (.tup [.int (w:Int),.int (h:Int)])):=.upd np'
  have hp2:(upd H1 p' (.tup [.int (w:Int),.int (h:Int)])) p'=some (.tup (vI [(w:Int),(h:Int)])):=Ae
  generalize upd H1 p' (.tup [.int (w:Int),.int (h:Int)])=H2 at s2 hp2 ⊢
  refine⟨_,rfl,p',p,_,_,rfl,rfl,SqT.of hp2,SqT.of (s2 _ _ hp1),_,rfl,?_⟩
  refine AiG rfl ?_
  exact⟨_,rfl,k p _ (s1.trans s2) (s2 _ _ hp1)⟩
def rowOf(u a b:List Nat):List Nat:=u.flatMap fun c=>if c=35 then a else b
theorem AvF(pr one other:List (List Nat))(u:List Nat):fil (pr++[u]) one other=fil pr one other++(one.zip other).map fun q=>rowOf u q.1 q.2:=by
 unfold fil rowOf
 rw[List.flatMap_append,List.flatMap_singleton]
def AtU (K:PySem.W.Frag):Sp:=fun vs H Q _=>∃(a b c:Addr) (pr one other:List (List Nat)) (m n w h:Nat),vs=[.ref a,.ref b,.ref c]∧SqL K H a (vS pr)∧SqL K H b (vS one)∧SqL K H c (vS other)∧Cl pr m n∧Cl one w h∧Cl other w h∧m*w≤40∧n*h≤40 ∧
 ∀ l H',Am H H'→H l=none→H' l=some (.lst (vS (fil pr one other)))→Q (.ref l) H'
theorem Yi(T:Txt K mg t):Aq P w K mg base CX0 5 t.Dz t.Lh ["profile", "one", "other"] (AtU K):=by
 have Gh:Aq P w K mg base CX0 3 t.Ew t.JR _ _:=M6 T
 have Abp:Aq P w K mg base CX0 4 t.Hm t.U7 _ _:=AfS T
 refine T.Cp.F.ok Et (fun vs H Q E h=>?_) (fun cdv A outer s H vs Q E hr h=>?_)
 ·obtain⟨a,b,c,pr,one,other,m,n,w,h,rfl,_⟩:=h
  rfl
 ·obtain⟨a,b,c,pr,one,other,m,n,w,h,rfl,hA,hB,hC,C,C1,C2,hm,hn,k⟩:=h
  have hsz:sizeLine=16777216:=sizeLine_eq
  have m1:=C.m1
  have m40:=C.m40
  have n40:=C.n40
  have w40:=C1.m40
  have h40:=C1.n40
  refine⟨_,(Ad (Ax (i:=3) Et.nd rfl (Or.inl rfl) (Aj (Gh.mono (by decide)) hr rfl T.measured.m T.measured.F.kp T.measured.b .nil Ao (Aa (pv 0) Ac)))
   (Ad (Ax (i:=4) Et.nd rfl (Or.inl rfl) (Aj (Abp.mono (by decide)) hr rfl T.O1.m T.O1.F.kp T.O1.b .nil Ao (Aa (pv 1) (Aa (pv 2) Ac))))
   (Ad (Dc (PW.pt (pw_or (Bc AaO (Be YS (Cq (MK (K:=K)) (pv 3) Ak (fun _ _=>rfl)) (Cq (MK (K:=K)) (pv 4) Ak (fun _ _=>rfl))) (Kf (v:=.int 40) rfl T.Ka.choose_spec ⟨_,rfl⟩) (Br _)) (pw_or1 (Bc AaO (Be YS (Cq (MK (K:=K)) (pv 3) Ak (fun _ _=>rfl)) (Cq (MK (K:=K)) (pv 4) Ak (fun _ _=>rfl))) (Kf (v:=.int 40) rfl T.Ka.choose_spec ⟨_,rfl⟩) (Br _)))))
    (Ah FJ)
    Bj)
   (Ad (Ax (i:=5) Et.nd rfl (Or.inl rfl) (HS Ac))
   (Ad (GD PassesOwn.never rfl (Bq (K:=K) (pv 0)) (Dd (i:=6) Et.nd rfl (Or.inl rfl))
    (Ah (GD PassesOwn.never rfl (Ayw (K:=K) rfl T.Avd (Aa (pv 1) (Aa (pv 2) Ac))) (Aul rfl (Afd (Dd (i:=7) Et.nd rfl (Or.inr rfl)) (Afd (Dd (i:=8) Et.nd rfl (Or.inr rfl)) ArS)))
     (Ah (DP (Dq (K:=K) PySem.F.plainAttrs_list PySem.F.slot_list_append PySem.F.type_list_append HX (pv 5) (Aa (Dq (K:=K) PySem.F.plainAttrs_str PySem.F.slot_str_join PySem.F.type_str_join (JN (K:=K)) Dm (Aa (Gk (Dp.mk (Bh:=[7,8]) (Nc:=["sign", "of_one", "of_other"]) rfl (by decide +kernel) (by decide +kernel) (Cu (sc0:=Ab BW) rfl (by decide +kernel)) rfl rfl rfl (by decide +kernel) (fun k j h=>match k,h with | 0,h=>by obtain rfl:=Option.some.inj h;exact⟨_,rfl,rfl,rfl⟩ | 1,h=>by obtain rfl:=Option.some.inj h;exact⟨_,rfl,rfl,rfl⟩ | _+2,h=>by simp at h)) rfl (AqS (pv 6)) (fun _ _ _ _ _=>.nil) (fun _ _ _ _ _=>(Afb (Bc R0 (pv 0) Dm (Br _)) (pv 1) (pv 2)))) Ac)) Ac)))))))
   (Ah (Bb (pv 5)))))))),?_⟩
  refine⟨_,rfl,a,pr,m,n,rfl,hA,C,fun p np=>?_⟩
  have s1:Am H (upd H p (.tup [.int (m:Int),.int (n:Int)])):=.upd np
  have hp1:(upd H p (.tup [.int (m:Int),.int (n:Int)])) p=some (.tup [.int (m:Int),.int (n:Int)]):=Ae
  generalize upd H p (.tup [.int (m:Int),.int (n:Int)])=H1 at s1 hp1 ⊢
  refine⟨_,rfl,_,rfl,b,c,one,other,w,h,rfl,s1.seq hB,s1.seq hC,C1,C2,fun p2 H2 s2 hp2=>?_⟩
  have u2:=s1.trans s2
  have A0P:=s2 _ _ hp1
  refine⟨_,rfl,_,_,_,_,rfl,rfl,SqT.of A0P,Ed (by decide) rfl,_,rfl,_,_,_,_,rfl,rfl,SqT.of hp2,Ed (by decide) rfl,_,_,rfl,rfl,.inl ⟨by omega,by omega⟩,_,_,rfl,rfl,_,rfl,?_⟩
  have em:(m:Int)*(w:Int)=((m*w:Nat):Int):=by rw[A5W]
  have en:(n:Int)*(h:Int)=((n*h:Nat):Int):=by rw[A5W]
  refine Io (by rw[em];omega) ?_
  refine⟨_,rfl,_,_,_,_,rfl,rfl,SqT.of A0P,Ed (by decide) rfl,_,rfl,_,_,_,_,rfl,rfl,SqT.of hp2,Ed (by decide) rfl,_,_,rfl,rfl,.inl ⟨by omega,by omega⟩,_,_,rfl,rfl,_,rfl,?_⟩
  refine Io (by rw[en];omega) ?_
  refine⟨A4f _,fun q nq=>?_⟩
  have s3:Am H2 (upd H2 q (.lst [])):=.upd nq
  have hq3:(upd H2 q (.lst [])) q=some (.lst (vS [])):=Ae
  generalize upd H2 q (.lst [])=H3 at s3 hq3 ⊢
  have u3:=u2.trans s3
  have nqH:H q=none:=u2.free nq
  refine⟨_,rfl,_,rfl,⟨_,u3.seq hA⟩,GF (K:=K) (a:=a) (xs:=vS pr) (fun i σ H4=>∃(v6 v7 v8:Option V),σ=[some (.ref a),some (.ref b),some (.ref c),some (.ref p),some (.ref p2),some (.ref q),v6,v7,v8]∧Am H H4∧H4 q=some (.lst (vS (fil (pr.take i) one other))))
   ⟨none,none,none,rfl,u3,hq3⟩ (fun i σ H4 _ ⟨_,_,_,_,s4,_⟩=>s4.seq hA) ?_ ?_⟩
  ·rintro i xv σ H4 hx ⟨v6,v7,v8,rfl,s4,hq4⟩
   obtain⟨u,hu,rfl⟩:=QT hx
   have lu:=C.hm u (A3Y hu)
   have il:i<n:=by rw[← C.hn];exact(List.getElem?_eq_some_iff.mp hu).1
   have et:pr.take (i+1)=pr.take i++[u]:=by rw[A4p,hu];rfl
   have A3N:(fil (pr.take i) one other).length≤40:=by
    unfold fil
    rw[Yb (h:=h) _ fun x _=>by rw[A3S,A5o,C1.hn,C2.hn,A5b],A4l,C.hn,A4V (by omega)]
    exact A4q (A6n h (A4X il)) hn
   have lz:(one.zip other).length=h:=by rw[A5o,C1.hn,C2.hn,A5b]
   refine⟨_,rfl,_,rfl,b,c,rfl,⟨_,s4.seq hB⟩,⟨_,s4.seq hC⟩,Aw7 (K:=K) (a:=b) (b:=c) (xs:=vS one) (ys:=vS other) (n:=h) (by rw[Bs,Bs,C1.hn,C2.hn,A5b]) (fun j σ H5=>∃(v7 v8:Option V),σ=[some (.ref a),some (.ref b),some (.ref c),some (.ref p),some (.ref p2),some (.ref q),some (.str (tx u)),v7,v8]∧Am H H5∧H5 q=some (.lst (vS (fil (pr.take i) one other++((one.zip other).take j).map fun q=>rowOf u q.1 q.2))))
    ⟨_,_,rfl,s4,by rw[List.take_zero,A4T,A4Q];exact hq4⟩ (fun j σ H5 ⟨_,_,_,s5,_⟩=>⟨s5.seq hB,s5.seq hC⟩) ?_ ?_⟩
   ·rintro j xo yo σ H5 TT hxo hyo ⟨v7',v8',rfl,s5,hq5⟩ nT
    obtain⟨ao,hao,rfl⟩:=QT hxo
    obtain⟨bo,hbo,rfl⟩:=QT hyo
    have la:=C1.hm ao (A3Y hao)
    have lb:=C2.hm bo (A3Y hbo)
    have jl:j<h:=by rw[← C1.hn];exact(List.getElem?_eq_some_iff.mp hao).1
    have zj:(one.zip other)[j]?=some (ao,bo):=List.getElem?_zip_eq_some.mpr ⟨hao,hbo⟩
    have s6:Am H (upd H5 TT (.tup [.str (tx ao),.str (tx bo)])):=s5.new nT
    have hq6:=(Am.upd nT (o:=.tup [.str (tx ao),.str (tx bo)])) _ _ hq5
    refine⟨_,_,rfl,SqT.of Ae,rfl,_,_,rfl,_,_,rfl,rfl,?_⟩
    generalize upd H5 TT (.tup [.str (tx ao),.str (tx bo)])=H6 at s6 hq6 ⊢
    refine⟨_,rfl,.inl ⟨rfl,_,SqL.of hq6⟩,rfl,_,rfl,_,rfl,Apo (z:=tx u) (fun e ys H7=>H7=H6∧ys=vS ((u.take e).map fun c=>if c=35 then ao else bo)) ⟨rfl,rfl⟩ ?_ ?_ ?_ ?_⟩
    ·rintro e ys H7 he ⟨rfl,rfl⟩
     rw[Bs,A3S,A4l]
     omega
    ·rw[AjE,lu];exact Jl m40
    ·rintro e cc ys H7 he hcc ⟨rfl,rfl⟩
     rw[Ake] at hcc
     refine FN.no ?_
     refine⟨_,rfl,rfl,_,rfl,?_⟩
     have hh:("#" : Str)=⟨#[35]⟩:=by decide +kernel
     rw[hh]
     refine Mz (fun z=>?_) (fun z=>?_)
     ·refine⟨_,rfl,CN.of he ⟨rfl,?_⟩⟩
      rw[Ia,A4p,hcc,A3W]
      show _=vS (_++[if cc=35 then ao else bo])
      rw[if_pos (Ass.mp z)]
     ·refine⟨_,rfl,CN.of he ⟨rfl,?_⟩⟩
      rw[Ia,A4p,hcc,A3W]
      show _=vS (_++[if cc=35 then ao else bo])
      rw[if_neg fun y=>z (Ass.mpr y)]
    ·rintro ys H7 p7 ⟨rfl,rfl⟩ np7
     rw[AjE,A4s]
     have s7:Am H (upd H7 p7 (.lst (vS (u.map fun c=>if c=35 then ao else bo)))):=s6.new np7
     have hq7:=(Am.upd np7 (o:=.lst (vS (u.map fun c=>if c=35 then ao else bo)))) _ _ hq6
     have hp7:(upd H7 p7 (.lst (vS (u.map fun c=>if c=35 then ao else bo)))) p7=some (.lst (vS (u.map fun c=>if c=35 then ao else bo))):=Ae
     generalize upd H7 p7 (.lst (vS (u.map fun c=>if c=35 then ao else bo)))=H8 at s7 hq7 hp7 ⊢
     have ef:(u.map fun c=>if c=35 then ao else bo).flatten=rowOf u ao bo:=by unfold rowOf;rw[List.flatMap_def]
     have lr:(rowOf u ao bo).length=m*w:=by
      unfold rowOf
      rw[Yb (h:=w) u fun x _=>by split;exact la;exact lb,lu]
     refine⟨_,_,((u.map fun c=>if c=35 then ao else bo).map tx),rfl,rfl,SqL.of (by rw[hp7,QV]),?_,?_⟩
     ·have:∀ l:List (List Nat),((l.map tx).map (·.length)).sum=l.flatten.length:=fun l=>by
       induction l with
       | nil=>rfl
       | cons x l ih=>rw[A3X,A3X,A4L,ih,A4n,A3T,Bf]
      rw[this,ef,lr]
      have:(((u.map fun c=>if c=35 then ao else bo).map tx).length)*(Str.length "")=0:=by rw[show Str.length "" = 0 from by decide +kernel];omega
      omega
     ·rw[show(("" : Str))=tx [] from by decide +kernel,AcF,ef]
      refine⟨_,_,_,rfl,rfl,hq7,(by rw[Bs,A3T,A3S,A4l];omega),?_⟩
      rw[Ia]
      refine⟨_,_,rfl,s7.over nqH,?_⟩
      rw[Ae,A4U,A4p,zj,A3W]
      rfl
   ·rintro σ H5 ⟨v7',v8',rfl,s5,hq5⟩
    rw[A4M (l:=one.zip other) (i:=h) (by omega)] at hq5
    exact⟨_,_,_,rfl,s5,by rw[et,AvF];exact hq5⟩
  ·rintro σ H4 ⟨v6,v7,v8,rfl,s4,hq4⟩
   rw[Bs,A4s] at hq4
   exact⟨_,rfl,k q H4 s4 nqH hq4⟩
theorem TL.over{H:Hp}{l:Addr}{xs:List V}{o:HO}{rs:List Addr}{ps:List (List Nat × List Nat)}(N:TL H rs ps)(h:H l=some (.lst xs)):TL (upd H l o) rs ps:=⟨N.l,fun i a p h1 h2=>by
 have g:=N.r i a p h1 h2
 rw[Aw fun z=>by rw[z,h] at g;cases g]
 exact g⟩
theorem Axo(bs:List Nat)(F:Nat)(ws:List Nat)(b:Nat):bw (bs++[b]) F ws=bw bs F ws++ws.map fun x=>b*F+x:=by
 unfold bw
 rw[List.flatMap_append,List.flatMap_singleton]
theorem AsE(a b:List Nat):nts a++nts b=nts (a++b):=by unfold nts;rw[A3W]
theorem AvG(a b:List Int):vI a++vI b=vI (a++b):=by unfold vI;rw[A3W]
def A0Q (K:PySem.W.Frag):Sp:=fun vs H Q _=>∃(b s:Addr) (bs:List Nat) (rs:List Addr) (ps:List (List Nat × List Nat)),vs=[.ref b,.ref s]∧SqL K H b (vI (nts bs))∧SqL K H s (rs.map V.ref)∧TL H rs ps∧bs.length*ps.length≤40∧bs≠[]∧ps≠[]∧(∀ z∈bs,z≤40) ∧
 ∀ l H',Am H H'→H l=none→H' l=some (.lst (vI (nts (bw bs (unl ps).length (num ps)))))→Q (.ref l) H'
theorem Aol(T:Txt K mg t):Aq P w K mg base CX0 2 t.Iu t.AaZ ["blocks", "strands"] (A0Q K):=by
 have AfQ:Aq P w K mg base CX0 1 t.La t.AaY _ _:=ArA T
 refine T.O2.F.ok R6 (fun vs H Q E h=>?_) (fun cdv A outer s H vs Q E hr h=>?_)
 ·obtain⟨b,s,bs,rs,ps,rfl,_⟩:=h
  rfl
 ·obtain⟨b,s',bs,rs,ps,rfl,hB,hS,N,hl,hb0,hp,hb,k⟩:=h
  have hsz:sizeLine=16777216:=sizeLine_eq
  have p1:1≤ps.length:=List.length_pos_iff.mpr hp
  have nl:=N.l
  refine⟨_,(Ad (Ax (i:=2) R6.nd rfl (Or.inr rfl) (Aj (AfQ.mono (by decide)) hr rfl T.unlike.m T.unlike.F.kp T.unlike.b .nil Ao (Aa (pv 1) Ac)))
   (Ad (Ax (i:=3) R6.nd rfl (Or.inl rfl) (HS Ac))
   (Ad (GD PassesOwn.never rfl (Bq (K:=K) (pv 0)) (Dd (i:=4) R6.nd rfl (Or.inr rfl))
    (Ah (DP (Dq (K:=K) PySem.F.plainAttrs_list PySem.F.slot_list_extend PySem.F.type_list_extend Ahz (pv 3) (Aa (Gk (Dp.mk (Bh:=[2,4]) (Nc:=["strand", "found", "block"]) rfl (by decide +kernel) (by decide +kernel) (Cu (sc0:=Ab FW) rfl (by decide +kernel)) rfl rfl rfl (by decide +kernel) (fun k j h=>match k,h with | 0,h=>by obtain rfl:=Option.some.inj h;exact⟨_,rfl,rfl,rfl⟩ | 1,h=>by obtain rfl:=Option.some.inj h;exact⟨_,rfl,rfl,rfl⟩ | _+2,h=>by simp at h)) rfl (Bq (K:=K) (pv 1)) (fun _ _ _ _ _=>.nil) (fun _ _ _ _ _=>(Be Gi (Be YS (pv 2) (Bo (Bl (K:=K)) rfl T.HN Es (Aa (pv 1) Ac))) (Dq (K:=K) PySem.F.plainAttrs_list PySem.F.slot_list_index PySem.F.type_list_index (Asm (K:=K) hr.Afn) (pv 1) (Aa (pv 0) Ac))))) Ac)))))
   (Ah (Bb (pv 3)))))),?_⟩
  have b1:1≤bs.length:=List.length_pos_iff.mpr hb0
  have p40:ps.length≤40:=A4q (Nat.le_mul_of_pos_left _ b1) hl
  have b40:bs.length≤40:=A4q (Nat.le_mul_of_pos_right _ p1) hl
  have f40:=QW ps
  refine⟨_,rfl,s',rs,ps,rfl,hS,N,p40,fun q fs H1 s1 nq hq F=>?_⟩
  have fl:=F.l
  refine⟨A4f _,fun l nl1=>?_⟩
  have s2:Am H1 (upd H1 l (.lst [])):=.upd nl1
  have hl2:(upd H1 l (.lst [])) l=some (.lst (vI (nts []))):=Ae
  have hq2:=s2 _ _ hq
  have nlq:q≠l:=fun z=>by rw[z,nl1] at hq;cases hq
  have F2:=F.same s2
  generalize upd H1 l (.lst [])=H2 at s2 hl2 hq2 F2 ⊢
  have u2:=s1.trans s2
  have nlH:H l=none:=s1.free nl1
  refine⟨_,rfl,_,rfl,⟨_,u2.seq hB⟩,GF (K:=K) (a:=b) (xs:=vI (nts bs)) (fun i σ H3=>∃(v:Option V),σ=[some (.ref b),some (.ref s'),some (.ref q),some (.ref l),v]∧Am H H3∧H3 q=some (.lst (fs.map V.ref))∧TL H3 fs (unl ps)∧H3 l=some (.lst (vI (nts (bw (bs.take i) (unl ps).length (num ps))))))
   ⟨none,rfl,u2,hq2,F2,hl2⟩ (fun i σ H3 _ ⟨_,_,s3,_⟩=>s3.seq hB) ?_ ?_⟩
  ·rintro i xv σ H3 hx ⟨v,rfl,s3,hq3,F3,hl3⟩
   obtain⟨z,hz,rfl⟩:=JM hx
   obtain⟨bb,hbb,rfl⟩:=AnO hz
   have il:i<bs.length:=(List.getElem?_eq_some_iff.mp hbb).1
   have bbl:=hb bb (A3Y hbb)
   have et:bs.take (i+1)=bs.take i++[bb]:=by rw[A4p,hbb];rfl
   have N3:=N.same s3
   refine⟨_,rfl,.inl ⟨rfl,_,SqL.of hl3⟩,_,rfl,_,rfl,⟨_,s3.seq hS⟩,De (K:=K) (a:=s') (xs:=rs.map V.ref) (fun j ys H4=>H4=H3∧ys=vI (nts ((Ams ps j).map fun x=>bb*(unl ps).length+x))) ⟨rfl,rfl⟩ ?_ ?_ ?_ ?_⟩
   ·rintro j ys H4 hj ⟨rfl,rfl⟩
    rw[A3S,nl] at hj
    exact⟨s3.seq hS,by rw[Bd,Ge,A3S,AkQ hj];exact A3U _⟩
   ·rw[A3S];omega
   ·rintro j xw ys H4 hj hxw ⟨rfl,rfl⟩
    obtain⟨r,pq,rfl,hr1,hp1,hH⟩:=N3.at hxw
    have hm:pq∈unl ps:=(MN pq ps).mpr (A3Y hp1)
    refine FN.no ?_
    refine⟨_,rfl,_,rfl,_,_,rfl,.inl (SqL.of hq3),_,_,rfl,rfl,.inl ⟨by omega,by omega⟩,?_⟩
    refine⟨_,rfl,.inl ⟨rfl,_,SqL.of hq3⟩,_,rfl,q,fs.map V.ref,_,ix (unl ps) pq,rfl,rfl,hq3,(by rw[A3S,fl];exact AiJ hm),(by rw[A3S,fl];omega),fun i' z hz'=>?_,?_⟩
    ·obtain⟨a',p',rfl,_,hp',ha'⟩:=F3.at hz'
     refine⟨_,Axm ha' hH,fun lt=>decide_eq_false fun e=>Asq lt (by rw[hp',e]),fun e=>decide_eq_true ?_⟩
     rw[e,Anl hm] at hp'
     exact(Option.some.inj hp').symm
    ·refine⟨_,_,rfl,rfl,CN.of hj ⟨rfl,?_⟩⟩
     rw[AkP hp1,A3W,← AsE,← AvG,A3S,fl]
     congr 1
   ·rintro ys H4 e ⟨rfl,rfl⟩ ne
    rw[A3S,nl,AkO]
    have s5:Am H (upd H4 e (.lst (vI (nts ((num ps).map fun x=>bb*(unl ps).length+x))))):=s3.new ne
    have sn:=Am.upd ne (o:=.lst (vI (nts ((num ps).map fun x=>bb*(unl ps).length+x))))
    have he:(upd H4 e (.lst (vI (nts ((num ps).map fun x=>bb*(unl ps).length+x))))) e=some (.lst (vI (nts ((num ps).map fun x=>bb*(unl ps).length+x)))):=Ae
    have hl5:=sn _ _ hl3
    have hq5:=sn _ _ hq3
    have F5:=F3.same sn
    generalize upd H4 e (.lst (vI (nts ((num ps).map fun x=>bb*(unl ps).length+x))))=H5 at s5 sn he hl5 hq5 F5 ⊢
    have lb:(bw (bs.take i) (unl ps).length (num ps)).length≤40:=by
     rw[Ars,Gb,A4l,A4V (by omega)]
     exact A4q (A6n _ (A4X il)) hl
    refine⟨_,_,_,_,rfl,rfl,hl5,he,(by rw[Bd,Bd,Ge,Ge,A3S,Gb];omega),?_⟩
    rw[AvG,AsE,← Axo,← et]
    exact⟨_,rfl,s5.over nlH,by rw[Aw nlq];exact hq5,F5.over hl5,Ae⟩
  ·rintro σ H3 ⟨v,rfl,s3,hq3,F3,hl3⟩
   rw[Bd,Ge,A4s] at hl3
   exact⟨_,rfl,k l H3 s3 nlH hl3⟩
structure BTs (pr one other:List (List Nat)) (m w:Nat) (tss:List (List Int)):Prop where
 l:tss.length=(unl pr).length*(unl (one.zip other)).length
 r:∀(t:Nat) (ks:List Int),tss[t]?=some ks→Rs ks∧∃(p:Nat) (r:List Nat),(trN pr one other)[p]?=some t∧(fil pr one other)[p]?=some r∧Aqo (nts (thN pr one other m w)) r ks
def AtV (K:PySem.W.Frag)(t:Adr):Sp:=fun vs H Q _=>∃(a b c:Addr) (pr one other:List (List Nat)) (m n w h:Nat),vs=[.ref a,.ref b,.ref c]∧SqL K H a (vS pr)∧SqL K H b (vS one)∧SqL K H c (vS other)∧Cl pr m n∧Cl one w h∧Cl other w h∧m*w≤40∧n*h≤40 ∧
 ∀ d dx a' b' c' qs tss H',Am H H'→IsD t H' d dx a' b' c' qs (nts (thN pr one other m w)) tss (nts (trN pr one other))→BTs pr one other m w tss→Ft (nts (thN pr one other m w)) tss (nts (trN pr one other))→Q (.ref d) H'
theorem AkR(T:Txt K mg t):Aq P w K mg base CX0 7 t.Gz t.WQ ["profile", "one", "other"] (AtV K t):=by
 have Jr:Aq P w K mg base CX0 5 t.Dz t.Lh _ _:=Yi T
 have Xd:Aq P w K mg base CX0 6 t.Fl t.Py _ _:=Abo T
 have M7:Aq P w K mg base CX0 1 t.Gy t.QD _ _:=Zm T
 have AiO:Aq P w K mg base CX0 2 t.Iu t.AaZ _ _:=Aol T
 have Xc:Aq P w K mg base CX0 1 t.Fq t.PB _ _:=Abn T
 have Ii:Aq P w K mg base CX0 4 t.Bu t.Ih _ _:=Nr T
 refine T.U8.F.ok GP (fun vs H Q E h=>?_) (fun cdv A outer s H vs Q E hr h=>?_)
 ·obtain⟨a,b,c,pr,one,other,m,n,w,h,rfl,_⟩:=h
  rfl
 ·obtain⟨a,b,c,pr,one,other,m,n,w,h,rfl,hA,hB,hC,C,C1,C2,hm,hn,k⟩:=h
  have hsz:sizeLine=16777216:=sizeLine_eq
  have m1:=C.m1
  have n1:=C.n1
  have m40:=C.m40
  have n40:=C.n40
  have w1:=C1.m1
  have h1:=C1.n1
  have w40:=C1.m40
  have h40:=C1.n40
  have FC:=Art C C1 C2 hm hn
  have lz:(one.zip other).length=h:=by rw[A5o,C1.hn,C2.hn,A5b]
  have zne:one.zip other≠[]:=fun z=>by rw[z] at lz;simp at lz;omega
  have ene:R1 one other w≠[]:=fun z=>by have:=Tg one other w;rw[z] at this;simp at this;omega
  refine⟨_,(Ad (Ax (i:=3) GP.nd rfl (Or.inr rfl) (Aj (Jr.mono (by decide)) hr rfl T.Cp.m T.Cp.F.kp T.Cp.b .nil Ao (Aa (pv 0) (Aa (pv 1) (Aa (pv 2) Ac)))))
   (Ad (Ax (i:=4) GP.nd rfl (Or.inl rfl) (Aj (Xd.mono (by decide)) hr rfl T.JT.m T.JT.F.kp T.JT.b .nil Ao (Aa (pv 0) Ac)))
   (Ad (Uz (i:=5) (Dp.mk (Bh:=[1,2]) (Nc:=["end", "one", "other"]) rfl (by decide +kernel) (by decide +kernel) (Cu (sc0:=Ab CJ) rfl (by decide +kernel)) rfl rfl rfl (by decide +kernel) (fun k j h=>match k,h with | 0,h=>by obtain rfl:=Option.some.inj h;exact⟨_,rfl,rfl,rfl⟩ | 1,h=>by obtain rfl:=Option.some.inj h;exact⟨_,rfl,rfl,rfl⟩ | _+2,h=>by simp at h)) rfl GP.nd rfl rfl (Kg rfl T.Jc (Aa (Bo Gj rfl T.HN Es (Aa (Cq (Bm (K:=K)) (pv 1) Ak (fun _ _=>rfl)) Ac)) Ac)) (fun _ _ _ _ _=>.nil) (fun _ _ _ _ _=>(Aus (Aa (Aj (M7.mono (by decide)) hr rfl T.G8.m T.G8.F.kp T.G8.b .nil Ao (Aa (pv 1) (Aa (pv 0) Ac))) (Aa (Aj (M7.mono (by decide)) hr rfl T.G8.m T.G8.F.kp T.G8.b .nil Ao (Aa (pv 2) (Aa (pv 0) Ac))) Ac)))) rfl)
   (Ad (Ax (i:=6) GP.nd rfl (Or.inr rfl) (Aj (AiO.mono (by decide)) hr rfl T.O2.m T.O2.F.kp T.O2.b .nil Ao (Aa (BV (K:=K) (pv 4) rfl) (Aa (pv 5) Ac))))
   (Ad (Ax (i:=7) GP.nd rfl (Or.inr rfl) (Aj (AiO.mono (by decide)) hr rfl T.O2.m T.O2.F.kp T.O2.b .nil Ao (Aa (BV (K:=K) (pv 4) rfl) (Aa (Arp (K:=K) rfl T.Abf rfl T.Avd (Aa (pv 1) (Aa (pv 2) Ac))) Ac))))
   (Ad (Uz (i:=8) (Dp.mk (Bh:=[3,6,7]) (Nc:=["treadle", "cloth", "threading", "treading"]) rfl (by decide +kernel) (by decide +kernel) (Cu (sc0:=Ab CJ) rfl (by decide +kernel)) rfl rfl rfl (by decide +kernel) (fun k j h=>match k,h with | 0,h=>by obtain rfl:=Option.some.inj h;exact⟨_,rfl,rfl,rfl⟩ | 1,h=>by obtain rfl:=Option.some.inj h;exact⟨_,rfl,rfl,rfl⟩ | 2,h=>by obtain rfl:=Option.some.inj h;exact⟨_,rfl,rfl,rfl⟩ | _+3,h=>by simp at h)) rfl GP.nd rfl rfl (Kg rfl T.Jc (Aa (Be Gi (Bo (At1 (K:=K)) rfl T.A0w Ayq (Aa (pv 7) Ac)) Ak) Ac)) (fun _ _ _ _ _=>.nil) (fun _ _ _ _ _=>(Aj (Xc.mono (by decide)) hr rfl T.JW.m T.JW.F.kp T.JW.b .nil Ao (Aa (pv 2) (Aa (Cq (Bm (K:=K)) (pv 1) (Dq (K:=K) PySem.F.plainAttrs_list PySem.F.slot_list_index PySem.F.type_list_index (Asm (K:=K) hr.Afn) (pv 3) (Aa (pv 0) Ac)) (fun _ _=>rfl)) Ac)))) rfl)
   (Ah (Bb (AcD T.Hf.m (Ii.mono (by decide)) hr rfl T.AnV T.Ko.b .nil Ao (Aa (pv 6) (Aa (pv 8) (Aa (pv 7) Ac)))))))))))),?_⟩
  refine⟨_,rfl,_,rfl,_,rfl,a,b,c,pr,one,other,m,n,w,h,rfl,hA,hB,hC,C,C1,C2,hm,hn,fun lc H1 s1 nlc hlc=>?_⟩
  refine⟨_,rfl,a,pr,m,n,rfl,s1.seq hA,C,fun d dx xa xb xc qs A3O H2 s2 nd _ _ D=>?_⟩
  have u2:=s1.trans s2
  have A2t:=s2 _ _ hlc
  have h0:0<one.length:=by rw[C1.hn];omega
  have w0:=C1.hm one[0] (A4j h0)
  have e0:atI (vS one) 0=some (.str (tx one[0])):=Ed (by decide) (Aej (A3R h0))
  refine⟨_,rfl,_,_,_,_,rfl,rfl,u2.seq hB,e0,_,rfl,(by rw[Bf,w0];omega),_,rfl,(by omega),(by rw[Bf,w0];omega),?_⟩
  rw[Bf,w0,A4m]
  refine Ti (lo:=0) (n:=w) (fun i ys H3=>Am H2 H3∧∃ rs:List Addr,ys=rs.map V.ref∧TL H3 rs ((R1 one other w).take i)) ⟨.refl _,[],rfl,⟨by rw[List.take_zero];rfl,fun i a p h=>(by simp at h)⟩⟩ ?_ ?_ ?_ ?_
  ·rintro i ys H3 hi ⟨s3,rs,rfl,N⟩
   have:=N.l
   rw[A4l] at this
   rw[A3S]
   omega
  ·omega
  ·rintro i ys H3 hi ⟨s3,rs,rfl,N⟩
   refine FN.no ?_
   refine⟨_,rfl,_,rfl,b,one,w,h,i,(by rw[A5f];rfl),(u2.trans s3).seq hB,C1,hi,fun H4 s4=>?_⟩
   refine⟨_,rfl,_,rfl,c,other,w,h,i,(by rw[A5f];rfl),(u2.trans (s3.trans s4)).seq hC,C2,hi,fun H5 s5=>?_⟩
   refine⟨(by show 2≤sizeLine;decide),fun p np=>?_⟩
   have s6:=s3.trans (s4.trans s5)
   refine CN.of hi ⟨s6.new np,rs++[p],by rw[A3W];rfl,?_⟩
   rw[A4p,Afw hi]
   exact((N.same (s4.trans s5)).same (.upd np)).snoc Ae
  rintro ys H3 pe ⟨s3,rs,rfl,N⟩ npe
  rw[A4M (by rw[Tg];exact A3U _)] at N
  have s4:Am H2 (upd H3 pe (.lst (rs.map V.ref))):=s3.new npe
  have N4:=N.same (Am.upd npe (o:=.lst (rs.map V.ref)))
  have hpe:(upd H3 pe (.lst (rs.map V.ref))) pe=some (.lst (rs.map V.ref)):=Ae
  generalize upd H3 pe (.lst (rs.map V.ref))=H4 at s4 N4 hpe ⊢
  have u4:=u2.trans s4
  have D4:=D.same s4
  have A2u:=s4 _ _ A2t
  refine⟨_,rfl,_,_,_,_,_,rfl,D4.o,T.Hf.c,T.Bx,Aql xa xb xc,_,rfl,xa,pe,num (cols pr m),rs,R1 one other w,rfl,SqL.of D4.ha,SqL.of hpe,N4,(by rw[Gb,KQ,Tg];exact hm),(fun z=>by have:=Gb (cols pr m);rw[z,KQ] at this;simp at this;omega),ene,(fun z hz=>by have:=Ak0 hz;have:=QW (cols pr m);rw[KQ] at this;omega),fun lt H5 s5 nlt hlt=>?_⟩
  have u5:=u4.trans s5
  have D5:=D4.same s5
  have A2v:=s5 _ _ A2u
  have hlt:H5 lt=some (.lst (vI (nts (thN pr one other m w)))):=hlt
  refine⟨_,rfl,_,_,_,_,_,rfl,D5.o,T.Hf.c,T.BR,Aqm xa xb xc,_,rfl,_,rfl,b,c,vS one,vS other,rfl,u5.seq hB,u5.seq hC,(by rw[Bs,Bs,C1.hn,C2.hn]),(by rw[Bs,C1.hn];omega),fun lz' Ts H6 s6 nlz hlz lT hT=>?_⟩
  rw[Bs,C1.hn] at lT
  have u6:=u5.trans s6
  have D6:=D5.same s6
  have N6:TL H6 Ts (one.zip other):=⟨by rw[lT,lz],fun i a' p' g1 g2=>by
   obtain⟨z1,z2⟩:=List.getElem?_zip_eq_some.mp g2
   exact hT i a' _ _ g1 (Aej z1) (Aej z2)⟩
  refine⟨xc,lz',num pr,Ts,one.zip other,rfl,SqL.of D6.hc,SqL.of hlz,N6,(by rw[Gb,C.hn,lz];exact hn),(fun z=>by have:=Gb pr;rw[z,C.hn] at this;simp at this;omega),zne,(fun z hz=>by have:=Ak0 hz;have:=QW pr;rw[C.hn] at this;omega),fun lr H7 s7 nlr hlr=>?_⟩
  have u7:=u6.trans s7
  have A0R:=s7 _ _ (s6 _ _ hlt)
  have A2w:=s7 _ _ (s6 _ _ A2v)
  have hlr:H7 lr=some (.lst (vI (nts (trN pr one other)))):=hlr
  have ltr:=Afy C C1 C2
  have lth:(thN pr one other m w).length=m*w:=YZ
  have A3P:n*h≤40:=hn
  have nh1:1≤n*h:=A5L n1 h1
  have mw1:1≤m*w:=A5L m1 w1
  refine⟨_,rfl,lr,nts (trN pr one other),rfl,SqL.of hlr,(by rw[Ge,ltr];omega),fun M hM hMx=>?_⟩
  obtain⟨Mn,hMn,rfl⟩:=Afx.mp hM
  have eM:Mn+1=(unl pr).length*(unl (one.zip other)).length:=AyA hMn fun z hz=>by
   have:=hMx (z:Int) (Afx.mpr ⟨z,hz,rfl⟩)
   omega
  have A2x:(unl pr).length*(unl (one.zip other)).length≤40:=A4q (A5r (QW _) (QW _)) (by rw[C.hn,lz];exact hn)
  refine⟨_,_,rfl,rfl,_,rfl,(by omega),(by omega),?_⟩
  rw[show((Mn:Int)+1).toNat=(unl pr).length*(unl (one.zip other)).length by omega]
  obtain⟨TN,eTN⟩:∃ TN,TN=(unl pr).length*(unl (one.zip other)).length:=⟨_,rfl⟩
  rw[← eTN] at A2x eM ⊢
  have hth:∀ z∈nts (thN pr one other m w),0≤z∧z<40:=fun z hz=>by
   obtain⟨y,hy,rfl⟩:=Afx.mp hz
   have b1:=AnN hy
   have b2:(unl (cols pr m)).length*(unl (R1 one other w)).length≤m*w:=by
    have:=A5r (QW (cols pr m)) (QW (R1 one other w))
    rw[KQ,Tg] at this
    exact this
   omega
  refine Ti (lo:=0) (n:=TN) (fun i ys H8=>Am H7 H8∧∃(rs:List Addr) (tss:List (List Int)),ys=rs.map V.ref∧rs.length=i∧tss.length=i∧(∀(t:Nat) (ks:List Int),tss[t]?=some ks→Rs ks∧∃(p:Nat) (r:List Nat),(trN pr one other)[p]?=some t∧(fil pr one other)[p]?=some r∧Aqo (nts (thN pr one other m w)) r ks)∧∀(j:Nat) (r:Addr) (ks:List Int),rs[j]?=some r→tss[j]?=some ks→H8 r=some (.lst (vI ks)))
   ⟨.refl _,[],[],rfl,rfl,rfl,fun t ks h=>(by simp at h),fun j r ks h=>(by simp at h)⟩ ?_ ?_ ?_ ?_
  ·rintro i ys H8 hi ⟨s8,rs,tss,rfl,e,_⟩
   rw[A3S]
   omega
  ·omega
  ·rintro i ys H8 hi ⟨s8,rs,tss,rfl,e,e2,hR,hrs⟩
   have hmi:i∈trN pr one other:=AuW (by rw[← eTN];exact hi)
   have A0S:=s8 _ _ hlr
   have px:=AiJ hmi
   rw[ltr] at px
   have fp:ix (trN pr one other) i<(fil pr one other).length:=by rw[FC.hn];exact px
   have A0T:=FC.hm _ (A4j fp)
   refine FN.no ?_
   refine⟨_,rfl,_,rfl,_,rfl,.inl ⟨rfl,_,SqL.of A0S⟩,_,rfl,lr,vI (nts (trN pr one other)),_,ix (trN pr one other) i,rfl,rfl,A0S,(by rw[Bd,Ge];exact AiJ hmi),(by rw[Bd,Ge,ltr];omega),fun i' z hz'=>?_,?_⟩
   ·obtain⟨y,hy,rfl⟩:=JM hz'
    obtain⟨yn,hyn,rfl⟩:=AnO hy
    refine⟨_,Ms.flat rfl rfl,fun lt=>?_,fun e=>?_⟩
    ·show((yn:Int) == 0+(i:Int))=false
     rw[beq_eq_false_iff_ne]
     intro q
     have:yn=i:=by omega
     subst this
     exact Asq lt hyn
    ·show((yn:Int) == 0+(i:Int))=true
     rw[e,Anl hmi] at hyn
     have:=Option.some.inj hyn
     rw[beq_iff_eq]
     omega
   refine⟨_,_,_,_,rfl,rfl,SqL.of (s8 _ _ A2w),Ed (by omega) (by rw[A4m];exact Aej (A3R fp)),lt,nts (thN pr one other m w),_,rfl,s8 _ _ A0R,?_,?_,hth,fun l ks H9 s9 nl hl R TO=>?_⟩
   ·rw[Ge,lth,A0T]
   ·rw[A0T];exact hm
   refine CN.of hi ⟨s8.trans s9,rs++[l],tss++[ks],by rw[A3W];rfl,by rw[A3T,e];rfl,by rw[A3T,e2];rfl,fun t' ks' ht=>?_,fun j r x h1 h2=>?_⟩
   ·by_cases ht':t'<tss.length
    ·rw[A4i ht'] at ht
     exact hR t' ks' ht
    ·have ht2:t'=i:=by
      have:=(List.getElem?_eq_some_iff.mp ht).1
      rw[A3T] at this
      simp at this
      omega
     subst ht2
     rw[A4h (by omega),e2,A4N] at ht
     cases ht
     exact⟨R,_,_,Anl hmi,A3R fp,TO⟩
   ·by_cases hj:j<rs.length
    ·rw[A4i hj] at h1
     rw[A4i (by omega)] at h2
     exact s9 _ _ (hrs j r x h1 h2)
    ·have hj2:j=i:=by
      have:=(List.getElem?_eq_some_iff.mp h1).1
      rw[A3T] at this
      simp at this
      omega
     subst hj2
     rw[A4h (by omega),e,A4N] at h1
     rw[A4h (by omega),e2,A4N] at h2
     cases h1
     cases h2
     exact hl
  rintro ys H8 p5 ⟨s8,rs5,tss,rfl,lrs,Axj,hR,hrs⟩ np5
  have sn:Am H8 (upd H8 p5 (.lst (rs5.map V.ref))):=.upd np5
  have s11:=s8.trans sn
  have h11:(upd H8 p5 (.lst (rs5.map V.ref))) p5=some (.lst (rs5.map V.ref)):=Ae
  generalize upd H8 p5 (.lst (rs5.map V.ref))=H11 at sn s11 h11 ⊢
  have FT:Ft (nts (thN pr one other m w)) tss (nts (trN pr one other)):=by
   have hti:∀ ks∈tss,Rs ks:=fun ks hks=>by
    obtain⟨j,hj⟩:=A5n hks
    exact(hR j ks hj).1
   have htr:∀ v∈nts (trN pr one other),0≤v∧v<(tss.length:Int):=fun v hv=>by
    obtain⟨y,hy,rfl⟩:=Afx.mp hv
    have:=AnN hy
    rw[← eTN] at this
    omega
   exact { m1:=by rw[Ge,lth];omega,m40:=by rw[Ge,lth];omega,t1:=by omega,t40:=by omega,n1:=by rw[Ge,ltr];omega,n40:=by rw[Ge,ltr];omega,hth:=hth,hti:=hti,htr:=htr }
  refine⟨_,rfl,_,rfl,_,rfl,fun x dx' nx ndx hne=>?_⟩
  have sz:Am H11 (upd (upd H11 dx' (.own x)) x (.ins t.Cv dx' [])):=(Am.upd ndx).new (by rw[Aw (fun z=>hne z.symm)];exact nx)
  refine⟨x,dx',lt,p5,lr,rs5,nts (thN pr one other m w),tss,nts (trN pr one other),rfl,Ae,sz _ _ (s11 _ _ A0R),⟨sz _ _ h11,by omega,fun j r ks e1 e2=>sz _ _ (sn _ _ (hrs j r ks e1 e2))⟩,sz _ _ (s11 _ _ hlr),?_,fun a' b' c' qs' H' sb _ _ _ _ D'=>⟨rfl,?_⟩⟩
  ·exact FT
  ·refine k x dx' a' b' c' qs' tss H' (fun b o e=>?_) D' ⟨by rw[Axj,eTN],hR⟩ FT
   have e11:=s11 _ _ (u7 _ _ e)
   exact sb b o (fun z=>by rw[z,nx] at e11;cases e11) (sz _ _ e11)
theorem Axp{u:List Nat}{i j:Nat}(h:i≤j):AnI u (some (i:Int)) (some (j:Int))=(u.drop i).take (j-i):=by
 unfold AnI
 rw[HT.R4,HT.R4]
 by_cases q:i≤u.length
 ·rw[A4V q]
  by_cases r:j≤u.length
  ·rw[A4V r]
  ·rw[A5p (by omega),A4M (by rw[A4r];omega),A4M (by rw[A4r];omega)]
 ·rw[A5p (by omega),A5p (by omega),A5t (A3U _),A5t (by omega),A6c,A6c]
theorem Axq(cl:List (List Nat))(k:Nat):(vS cl).take k=vS (cl.take k):=by unfold vS;rw[List.map_take]
theorem Axr(cl:List (List Nat))(k:Nat):(vS cl).drop k=vS (cl.drop k):=by unfold vS;rw[A6d]
theorem ArB(a b:List (List Nat)):eqL (vS a) (vS b)=decide (a=b):=by
 induction a generalizing b with
 | nil=>cases b with | nil=>rfl | cons y ys=>rw[decide_eq_false (by simp)];rfl
 | cons x xs ih =>
  cases b with
  | nil=>rw[decide_eq_false (by simp)];rfl
  | cons y ys =>
   have e:eqL (vS (x::xs)) (vS (y::ys))=((tx x == tx y) && eqL (vS xs) (vS ys)):=rfl
   rw[e,ih]
   by_cases h:x=y
   ·subst h
    by_cases h2:xs=ys
    ·subst h2;simp
    ·simp[h2]
   ·have:(tx x == tx y)=false:=by
     rw[beq_eq_false_iff_ne]
     exact fun z=>h (WL z)
    rw[this,decide_eq_false (fun z=>h (List.cons.inj z).1)]
    rfl
def A0U (K:PySem.W.Frag):Sp:=fun vs H Q _=>∃(pk b c:Addr) (us one other:List (List Nat)) (lf w h:Nat),vs=[.ref pk,.int (lf:Int),.ref b,.ref c]∧SqL K H pk (vS us)∧SqL K H b (vS one)∧SqL K H c (vS other)∧Cl one w h∧us.length≤40∧(∀ u∈us,u.length≤40)∧lf≤1600 ∧
 ∀ H' tl,Am H H'→tl=(us.map fun t=>(t.drop lf).take w)→(tl=one→Q (.str "#") H')∧(tl≠one→tl=other→Q (.str ".") H')∧(tl≠one→tl≠other→Q .non H')
theorem Amt(T:Txt K mg t):Aq P w K mg base CX0 1 t.Hn t.Ze ["picks", "left", "one", "other"] (A0U K):=by
 refine T.Zj.F.ok Adk (fun vs H Q E h=>?_) (fun cdv A outer s H vs Q E hr h=>?_)
 ·obtain⟨pk,b,c,us,one,other,lf,w,h,rfl,_⟩:=h
  rfl
 ·obtain⟨pk,b,c,us,one,other,lf,w,h,rfl,hP,hB,hC,C,ul,um,l16,k⟩:=h
  have hsz:sizeLine=16777216:=sizeLine_eq
  have h0:0<one.length:=by rw[C.hn];have:=C.n1;omega
  have w0:=C.hm one[0] (A4j h0)
  have c4:=C.m40
  have e0:atI (vS one) 0=some (.str (tx one[0])):=Ed (by decide) (Aej (A3R h0))
  refine⟨_,(Ad (Uz (i:=4) (Dp.mk (Bh:=[1,2]) (Nc:=["text", "left", "one"]) rfl (by decide +kernel) (by decide +kernel) (Cu (sc0:=Ab Eh) rfl (by decide +kernel)) rfl rfl rfl (by decide +kernel) (fun k j h=>match k,h with | 0,h=>by obtain rfl:=Option.some.inj h;exact⟨_,rfl,rfl,rfl⟩ | 1,h=>by obtain rfl:=Option.some.inj h;exact⟨_,rfl,rfl,rfl⟩ | _+2,h=>by simp at h)) rfl Adk.nd rfl rfl (Bq (K:=K) (pv 0)) (fun _ _ _ _ _=>.nil) (fun _ _ _ _ _=>(HW Arc (pv 0) (Fb (pv 1)) (Fb (Be Gi (pv 1) (Bo Gj rfl T.HN Es (Aa (Cq (Bm (K:=K)) (pv 2) Ak (fun _ _=>rfl)) Ac)))))) rfl)
   (Ad (Dc (Bc (AnH (K:=K) (hr.AqL)) (pv 4) (pv 2) (Br _))
    (Ah (Bb Dm))
    Bj)
   (Ah (Bb (Afb (Bc (AnH (K:=K) (hr.AqL)) (pv 4) (pv 3) (Br _)) Dm Ahu))))),?_⟩
  refine⟨_,rfl,_,rfl,⟨_,hP⟩,De (K:=K) (a:=pk) (xs:=vS us) (fun j ys H7=>H7=H∧ys=vS ((us.take j).map fun t=>(t.drop lf).take w)) ⟨rfl,rfl⟩ ?_ ?_ ?_ ?_⟩
  ·rintro j ys H7 hj ⟨rfl,rfl⟩
   refine⟨hP,?_⟩
   rw[Bs,A3S,A4l]
   omega
  ·rw[Bs];omega
  ·rintro j xw ys H7 hj hxw ⟨rfl,rfl⟩
   obtain⟨u,hu,rfl⟩:=QT hxw
   have lu:=um u (A3Y hu)
   refine FN.no ?_
   refine⟨_,rfl,_,rfl,_,rfl,_,rfl,_,rfl,_,_,_,_,rfl,rfl,hB,e0,_,rfl,(by rw[Bf,w0];omega),_,_,rfl,rfl,_,rfl,_,rfl,(by omega),?_⟩
   rw[Bf,w0,show(lf:Int)+(w:Int)=((lf+w:Nat):Int) by omega,Axp (by omega),show lf+w-lf=w by omega]
   dsimp only
   rw[Ia]
   refine CN.of hj ⟨rfl,?_⟩
   rw[A4p,hu,A3W]
   rfl
  ·rintro ys H7 q ⟨rfl,rfl⟩ hq
   rw[Bs,A4s]
   have s1:Am H7 (upd H7 q (.lst (vS (us.map fun t=>(t.drop lf).take w)))):=.upd hq
   have hq1:(upd H7 q (.lst (vS (us.map fun t=>(t.drop lf).take w)))) q=some (.lst (vS (us.map fun t=>(t.drop lf).take w))):=Ae
   generalize upd H7 q (.lst (vS (us.map fun t=>(t.drop lf).take w)))=H1 at s1 hq1 ⊢
   obtain⟨k1,k2,k3⟩:=k H1 _ s1 rfl
   refine⟨_,rfl,_,rfl,_,_,_,_,rfl,rfl,SqL.of hq1,s1.seq hB,YW _,YW _,_,rfl,?_⟩
   rw[ArB]
   refine Mz (fun h=>k1 h) (fun h=>?_)
   refine⟨_,rfl,_,rfl,_,_,_,_,rfl,rfl,SqL.of hq1,s1.seq hC,YW _,YW _,_,rfl,?_⟩
   rw[ArB]
   exact Mz (fun h2=>k2 h h2) (fun h2=>k3 h h2)
theorem Aqq{n h:Nat}(n1:1≤n):Ap8 0 (n:Int) (h:Int)=cdiv n h:=by
 unfold Ap8 cdiv
 rw[if_pos (by omega),show(n:Int)-0-1=((n-1:Nat):Int) by omega,← Int.natCast_ediv]
 generalize (n-1) / h=k
 omega
def sgV (cl one other:List (List Nat))(w h b a:Nat):V:=if tile cl w h a b=one then .str (tx [35]) else if tile cl w h a b=other then .str (tx [46]) else .non
def sgN (cl one:List (List Nat))(w h b a:Nat):Nat:=if tile cl w h a b=one then 35 else 46
theorem AsF(i h:Nat):(0:Int)+(i:Int)*(h:Int)=((i*h:Nat):Int):=by simp
theorem AvH(us:List Nat):(((us.map fun c=>[c]).map tx).map (·.length)).sum=us.length:=by
 induction us with
 | nil=>rfl
 | cons a us ih =>
  rw[A3X,A3X,A3X,A4L,ih,Bf,A3Z]
  show 1+us.length=us.length+1
  omega
theorem AtW(us:List Nat):(us.map fun c=>[c]).flatten=us:=by
 induction us with
 | nil=>rfl
 | cons a us ih=>show[a]++_=_;rw[ih];rfl
def Axs (K:PySem.W.Frag):Sp:=fun vs H Q _=>∃(a b c:Addr) (ca cb cc:List (List Nat)) (m n w h:Nat),vs=[.ref a,.ref b,.ref c]∧SqL K H a (vS ca)∧SqL K H b (vS cb)∧SqL K H c (vS cc)∧Cl ca m n∧Cl cb w h∧Cl cc w h ∧
 ∀(v:V) (H':Hp),Am H H'→((v=.non∧∃ x y,x<cdiv m w∧y<cdiv n h∧Nei ca cb cc w h x y)∨∃ l pf,v=.ref l∧H' l=some (.lst (vS pf))∧Pf ca cb cc m n w h pf)→Q v H'
theorem Amu(T:Txt K mg t):Aq P w K mg base CX0 5 t.Hl t.Zd ["cloth", "one", "other"] (Axs K):=by
 have Gh:Aq P w K mg base CX0 3 t.Ew t.JR _ _:=M6 T
 have Abp:Aq P w K mg base CX0 4 t.Hm t.U7 _ _:=AfS T
 have Aom:Aq P w K mg base CX0 1 t.Hn t.Ze _ _:=Amt T
 refine T.Zi.F.ok HB (fun vs H Q E h=>?_) (fun cdv A outer s H vs Q E hr h=>?_)
 ·obtain⟨a,b,c,ca,cb,cc,m,n,w,h,rfl,_⟩:=h
  rfl
 ·obtain⟨a,b,c,ca,cb,cc,m,n,w,h,rfl,hA,hB,hC,C,C1,C2,k1⟩:=h
  have hsz:sizeLine=16777216:=sizeLine_eq
  refine⟨_,(Ad (Ax (i:=3) HB.nd rfl (Or.inl rfl) (Aj (Gh.mono (by decide)) hr rfl T.measured.m T.measured.F.kp T.measured.b .nil Ao (Aa (pv 0) Ac)))
   (Ad (Ax (i:=4) HB.nd rfl (Or.inl rfl) (Aj (Abp.mono (by decide)) hr rfl T.O1.m T.O1.F.kp T.O1.b .nil Ao (Aa (pv 1) (Aa (pv 2) Ac))))
   (Ad (Ax (i:=5) HB.nd rfl (Or.inl rfl) (HS Ac))
   (Ad (GD PassesOwn.never rfl (Ank rfl T.Jc (Aa Ak (Aa (Cq (MK (K:=K)) (pv 3) Ak (fun _ _=>rfl)) (Aa (Cq (MK (K:=K)) (pv 4) Ak (fun _ _=>rfl)) Ac)))) (Dd (i:=6) HB.nd rfl (Or.inl rfl))
    (Ad (Ax (i:=7) HB.nd rfl (Or.inr rfl) (HW (KN (K:=K)) (pv 0) (Fb (pv 6)) (Fb (Be Gi (pv 6) (Cq (MK (K:=K)) (pv 4) Ak (fun _ _=>rfl))))))
    (Ad (Uz (i:=8) (Dp.mk (Bh:=[1,2,7]) (Nc:=["left", "one", "other", "picks"]) rfl (by decide +kernel) (by decide +kernel) (Cu (sc0:=Ab Eg) rfl (by decide +kernel)) rfl rfl rfl (by decide +kernel) (fun k j h=>match k,h with | 0,h=>by obtain rfl:=Option.some.inj h;exact⟨_,rfl,rfl,rfl⟩ | 1,h=>by obtain rfl:=Option.some.inj h;exact⟨_,rfl,rfl,rfl⟩ | 2,h=>by obtain rfl:=Option.some.inj h;exact⟨_,rfl,rfl,rfl⟩ | _+3,h=>by simp at h)) rfl HB.nd rfl rfl (Ank rfl T.Jc (Aa Ak (Aa (Cq (MK (K:=K)) (pv 3) Ak (fun _ _=>rfl)) (Aa (Cq (MK (K:=K)) (pv 4) Ak (fun _ _=>rfl)) Ac)))) (fun _ _ _ _ _=>.nil) (fun _ _ _ _ _=>(Aj (Aom.mono (by decide)) hr rfl T.Zj.m T.Zj.F.kp T.Zj.b .nil Ao (Aa (pv 3) (Aa (pv 0) (Aa (pv 1) (Aa (pv 2) Ac)))))) rfl)
    (Ad (Dc (Bc (Aek (K:=K)) Ahu (pv 8) rfl)
     (Ah (Bb Ahu))
     Bj)
    (Ah (DP (Dq (K:=K) PySem.F.plainAttrs_list PySem.F.slot_list_append PySem.F.type_list_append HX (pv 5) (Aa (Dq (K:=K) PySem.F.plainAttrs_str PySem.F.slot_str_join PySem.F.type_str_join (JN (K:=K)) Dm (Aa (pv 8) Ac)) Ac))))))))
   (Ah (Bb (pv 5))))))),?_⟩
  refine⟨_,rfl,a,ca,m,n,rfl,hA,C,fun p np=>?_⟩
  have s1:Am H (upd H p (.tup [.int (m:Int),.int (n:Int)])):=.upd np
  have hp1:(upd H p (.tup [.int (m:Int),.int (n:Int)])) p=some (.tup [.int (m:Int),.int (n:Int)]):=Ae
  generalize upd H p (.tup [.int (m:Int),.int (n:Int)])=H1 at s1 hp1 ⊢
  refine⟨_,rfl,_,rfl,b,c,cb,cc,w,h,rfl,s1.seq hB,s1.seq hC,C1,C2,fun pu H2 s2 hpu=>?_⟩
  have m1:=C.m1
  have m40:=C.m40
  have n1:=C.n1
  have n40:=C.n40
  have w1:=C1.m1
  have w40:=C1.m40
  have h1:=C1.n1
  have h40:=C1.n40
  have cw:=cdiv_le (n:=m) (h:=w) m1
  have chh:=cdiv_le (n:=n) (h:=h) n1
  have hp2:=s2 _ _ hp1
  have u2:=s1.trans s2
  have t0:atI [V.int (m:Int),V.int (n:Int)] 0=some (.int (m:Int)):=Ed (by decide) rfl
  have t1:atI [V.int (m:Int),V.int (n:Int)] 1=some (.int (n:Int)):=Ed (by decide) rfl
  have v0:atI [V.int (w:Int),V.int (h:Int)] 0=some (.int (w:Int)):=Ed (by decide) rfl
  have v1:atI [V.int (w:Int),V.int (h:Int)] 1=some (.int (h:Int)):=Ed (by decide) rfl
  refine⟨A4f _,fun q nq=>?_⟩
  have s3:Am H2 (upd H2 q (.lst [])):=.upd nq
  have hq3:(upd H2 q (.lst [])) q=some (.lst (vS [])):=Ae
  have pq:p≠q:=fun z=>by rw[z,nq] at hp2;cases hp2
  have puq:pu≠q:=fun z=>by rw[z,nq] at hpu;cases hpu
  have nqH:=u2.free nq
  generalize upd H2 q (.lst [])=H3 at s3 hq3 ⊢
  have hp3:=s3 _ _ hp2
  have Azd:=s3 _ _ hpu
  refine⟨_,rfl,_,_,_,_,rfl,rfl,SqT.of hp3,t1,_,rfl,_,_,_,_,rfl,rfl,SqT.of Azd,v1,_,_,_,rfl,⟨by omega,by omega,AuH (by omega) (by omega) (by omega) (by omega) (by omega) (by omega)⟩,?_⟩
  rw[Aqq n1]
  refine Ari (lo:=0) (c:=(h:Int)) (n:=cdiv n h) (fun i σ H5=>∃(pf:List (List Nat)) (v6 v7 v8:Option V),σ=[some (.ref a),some (.ref b),some (.ref c),some (.ref p),some (.ref pu),some (.ref q),v6,v7,v8]∧Am H H5∧H5 p=some (.tup [.int (m:Int),.int (n:Int)])∧H5 pu=some (.tup [.int (w:Int),.int (h:Int)])∧H5 q=some (.lst (vS pf))∧pf.length=i∧(∀ t∈pf,t.length=cdiv m w) ∧
   ∀ y x,y<i→x<cdiv m w→((pf.getD y []).getD x 0=35∧tile ca w h x y=cb)∨((pf.getD y []).getD x 0=46∧tile ca w h x y≠cb∧tile ca w h x y=cc)) ⟨[],none,none,none,rfl,u2.trans s3,hp3,Azd,hq3,rfl,fun t h=>(by cases h),fun y x h=>absurd h (by omega)⟩ ?_ ?_
  ·clear hp3 Azd hq3 s3 hp2 hpu s2 s1
   rintro i σ H5 hi ⟨pf,v6,v7,v8,rfl,s5,hp5,Aze,hq5,pl,pm,pa⟩
   rw[AsF]
   refine⟨_,rfl,_,rfl,_,rfl,_,rfl,_,rfl,_,_,_,_,rfl,rfl,SqT.of Aze,v1,_,_,rfl,rfl,_,rfl,_,_,rfl,s5.seq hA,fun l1 n1'=>?_⟩
   rw[show((i*h:Nat):Int)+(h:Int)=((i*h+h:Nat):Int) by omega,AkK (by omega),show i*h+h-i*h=h by omega,Axr,Axq]
   obtain⟨us,eus⟩:∃ us,us=(ca.drop (i*h)).take h:=⟨_,rfl⟩
   rw[← eus]
   have s6:Am H5 (upd H5 l1 (.lst (vS us))):=.upd n1'
   have hl6:(upd H5 l1 (.lst (vS us))) l1=some (.lst (vS us)):=Ae
   generalize upd H5 l1 (.lst (vS us))=H6 at s6 hl6 ⊢
   have ul:us.length≤40:=by rw[eus,A4l];omega
   have um:∀ u∈us,u.length≤40:=fun u hu=>by
    rw[eus] at hu
    rw[C.hm u (A5w (A6p hu))]
    exact m40
   have u6:=s5.trans s6
   have hp6:=s6 _ _ hp5
   have A0V:=s6 _ _ Aze
   have hq6:=s6 _ _ hq5
   refine⟨_,rfl,_,_,_,_,rfl,rfl,SqT.of hp6,t0,_,rfl,_,_,_,_,rfl,rfl,SqT.of A0V,v0,_,_,_,rfl,⟨by omega,by omega,AuH (by omega) (by omega) (by omega) (by omega) (by omega) (by omega)⟩,?_⟩
   rw[Aqq m1]
   refine Ap9 (lo:=0) (c:=(w:Int)) (n:=cdiv m w) (fun j ys H7=>Am H6 H7∧ys=(List.range j).map (sgV ca cb cc w h i)) ⟨.refl _,rfl⟩ ?_ ?_ ?_ ?_
   ·rintro j ys H7 hj ⟨_,rfl⟩
    rw[A3S,A4H]
    exact A3U _
   ·omega
   ·rintro j ys H7 hj ⟨s7,rfl⟩
    refine FN.no ?_
    rw[AsF]
    have u7:=u6.trans s7
    have jw:j*w≤40*40:=A5r (by omega) (by omega)
    refine⟨_,rfl,_,rfl,_,rfl,_,rfl,l1,b,c,us,cb,cc,j*w,w,h,rfl,SqL.of (s7 _ _ hl6),u7.seq hB,u7.seq hC,C1,ul,um,by omega,fun H8 tl s8 etl=>?_⟩
    have et:tl=tile ca w h j i:=by rw[etl,eus];rfl
    have add:∀ v:V,v=sgV ca cb cc w h i j→CN (cdiv m w) (fun j ys H7=>Am H6 H7∧ys=(List.range j).map (sgV ca cb cc w h i)) j ((List.range j).map (sgV ca cb cc w h i)++[v]) H8:=fun v hv=>by
     refine CN.of hj ⟨s7.trans s8,?_⟩
     rw[A5d,A3W,hv]
     rfl
    have x35:(("#" : Str))=tx [35]:=by decide +kernel
    have x46:(("." : Str))=tx [46]:=by decide +kernel
    rw[et]
    refine⟨fun q1=>add _ ?_,fun q1 q2=>add _ ?_,fun q1 q2=>add _ ?_⟩
    ·unfold sgV;rw[if_pos q1,x35]
    ·unfold sgV;rw[if_neg q1,if_pos q2,x46]
    ·unfold sgV;rw[if_neg q1,if_neg q2]
   ·rintro ys H7 g ⟨s7,rfl⟩ hg
    have s8:Am H7 (upd H7 g (.lst ((List.range (cdiv m w)).map (sgV ca cb cc w h i)))):=.upd hg
    have hg8:(upd H7 g (.lst ((List.range (cdiv m w)).map (sgV ca cb cc w h i)))) g=some (.lst ((List.range (cdiv m w)).map (sgV ca cb cc w h i))):=Ae
    generalize upd H7 g (.lst ((List.range (cdiv m w)).map (sgV ca cb cc w h i)))=H8 at s8 hg8 ⊢
    have u8:=s7.trans s8
    have fl:((List.range (cdiv m w)).map (sgV ca cb cc w h i)).all Gp=true:=by
     rw[A5V,A6a]
     intro x _
     show Gp (sgV ca cb cc w h i x)=true
     unfold sgV
     split
     ·rfl
     ·split <;> rfl
    refine⟨_,rfl,_,_,rfl,.inl (SqL.of hg8),rfl,fl,_,rfl,?_⟩
    rw[if_neg (by decide)]
    by_cases hn:∃ x,x<cdiv m w∧Nei ca cb cc w h x i
    ·obtain⟨x,hx,hx2⟩:=hn
     have:inV .non ((List.range (cdiv m w)).map (sgV ca cb cc w h i))=true:=by
      unfold inV
      rw[List.any_eq_true]
      refine⟨.non,List.mem_map.mpr ⟨x,List.mem_range.mpr hx,?_⟩,rfl⟩
      unfold sgV
      rw[if_neg hx2.1,if_neg hx2.2]
     rw[this]
     exact Ah1 (k1 .non H8 (u6.trans u8) (.inl ⟨rfl,x,i,hx,hi,hx2⟩))
    ·have is:∀ x,x<cdiv m w→tile ca w h x i=cb∨(tile ca w h x i≠cb∧tile ca w h x i=cc):=fun x hx=>by
      by_cases q1:tile ca w h x i=cb
      ·exact .inl q1
      ·by_cases q2:tile ca w h x i=cc
       ·exact .inr ⟨q1,q2⟩
       ·exact absurd ⟨x,hx,q1,q2⟩ hn
     have eq:(List.range (cdiv m w)).map (sgV ca cb cc w h i)=vS (((List.range (cdiv m w)).map (sgN ca cb w h i)).map fun c=>[c]):=by
      unfold vS
      rw[A4u,A4u]
      refine A5j fun x hx=>?_
      show sgV ca cb cc w h i x=.str (tx [sgN ca cb w h i x])
      unfold sgV sgN
      rcases is x (List.mem_range.mp hx) with q1 | ⟨q1,q2⟩
      ·rw[if_pos q1,if_pos q1]
      ·rw[if_neg q1,if_neg q1,if_pos q2]
     have:inV .non ((List.range (cdiv m w)).map (sgV ca cb cc w h i))=false:=by
      rw[eq]
      unfold inV
      rw[List.any_eq_false]
      intro y hy
      obtain⟨x,_,rfl⟩:=List.mem_map.mp hy
      exact fun z=>nomatch z
     rw[this]
     refine QS ?_
     rw[eq] at hg8
     have hq8:=u8 _ _ hq6
     refine⟨_,rfl,.inl ⟨rfl,_,SqL.of hq8⟩,rfl,_,rfl,_,_,(((List.range (cdiv m w)).map (sgN ca cb w h i)).map fun c=>[c]).map tx,rfl,rfl,SqL.of (by rw[hg8,QV]),?_,?_⟩
     ·have z0:Str.length "" = 0:=by decide +kernel
      rw[AvH]
      simp only [A3S,A4H,z0,Nat.mul_zero]
      omega
     rw[show(("" : Str))=tx [] from by decide +kernel,AcF,AtW]
     refine⟨_,_,_,rfl,rfl,hq8,(by rw[Bs];omega),?_⟩
     rw[Ia]
     refine⟨pf++[(List.range (cdiv m w)).map (sgN ca cb w h i)],_,_,_,rfl,(u6.trans u8).over nqH,by rw[Aw pq];exact u8 _ _ hp6,by rw[Aw puq];exact u8 _ _ A0V,Ae,by rw[A3T,pl];rfl,fun t ht=>?_,fun y x hy hx=>?_⟩
     ·rcases List.mem_append.mp ht with h | h
      ·exact pm t h
      ·rw[List.mem_singleton.mp h,A3S,A4H]
     ·by_cases q:y<i
      ·have g0:(pf++[(List.range (cdiv m w)).map (sgN ca cb w h i)]).getD y []=pf.getD y []:=by rw[A4c,A4i (by omega),← A4c]
       rw[g0]
       exact pa y x q hx
      ·have:y=i:=by omega
       subst this
       have g1:(pf++[(List.range (cdiv m w)).map (sgN ca cb w h y)]).getD y []=(List.range (cdiv m w)).map (sgN ca cb w h y):=by
        rw[A4c,A4h (by omega),pl,A4N]
        rfl
       have g2:((List.range (cdiv m w)).map (sgN ca cb w h y)).getD x 0=sgN ca cb w h y x:=by
        rw[A4c,A4e,A5k hx]
        rfl
       rw[g1,g2]
       unfold sgN
       rcases is x hx with q1 | ⟨q1,q2⟩
       ·rw[if_pos q1];exact .inl ⟨rfl,q1⟩
       ·rw[if_neg q1];exact .inr ⟨rfl,q1,q2⟩
  ·rintro σ H5 ⟨pf,v6,v7,v8,rfl,s5,hp5,Aze,hq5,pl,pm,pa⟩
   exact⟨_,rfl,k1 (.ref q) H5 s5 (.inr ⟨q,pf,rfl,hq5,⟨pl,pm,pa⟩⟩)⟩
def AtX:Sp:=fun vs H Q _=>∃(t:List Nat),vs=[.str (tx t)]∧t.length≤40∧∀ H',Am H H'→Q (.str (tx (t.map flip))) H'
theorem Aaq(T:Txt K mg t):Aq P w K mg base CX0 1 t.Em t.Nh ["signs"] AtX:=by
 refine T.Ja.F.ok Ajh (fun vs H Q E h=>?_) (fun cdv A outer s H vs Q E hr h=>?_)
 ·obtain⟨t,rfl,_⟩:=h
  rfl
 ·obtain⟨t,rfl,hl,k⟩:=h
  refine⟨_,(Ah (Bb (Dq (K:=K) PySem.F.plainAttrs_str PySem.F.slot_str_join PySem.F.type_str_join (JN (K:=K)) Dm (Aa (Gk (Dp.mk (Bh:=[]) (Nc:=["sign"]) rfl (by decide +kernel) (by decide +kernel) (Cu (sc0:=Ab Cw) rfl (by decide +kernel)) rfl rfl rfl (by decide +kernel) (fun _ _ h=>by simp at h)) rfl (AqS (pv 0)) (fun _ _ _ _ _=>.nil) (fun _ _ _ _ _=>(Afb (Bc R0 (pv 0) Dm (Br _)) Dm Dm))) Ac)))),?_⟩
  refine⟨rfl,_,rfl,_,rfl,Apo (z:=tx t) (fun i ys H2=>H2=H∧ys=vS ((t.take i).map fun c=>[flip c])) ⟨rfl,rfl⟩ ?_ ?_ ?_ ?_⟩
  ·rintro i ys H2 hi ⟨rfl,rfl⟩
   rw[Bs,A3S,A4l]
   omega
  ·rw[AjE];exact Jl hl
  ·rintro i c ys H2 hi hc ⟨rfl,rfl⟩
   rw[Ake] at hc
   refine FN.no ?_
   have fin:∀ d,d=flip c→CN (tx t).cps.size (fun i ys H2'=>H2'=H2∧ys=vS ((t.take i).map fun c=>[flip c])) i (vS ((t.take i).map fun c=>[flip c])++[.str (tx [d])]) H2:=fun d hd=>by
    subst hd
    refine CN.of hi ⟨rfl,?_⟩
    rw[Ia,A4p,hc,A3W]
    rfl
   refine⟨_,rfl,rfl,_,rfl,?_⟩
   refine Mz (fun h=>?_) (fun h=>?_)
   ·have e:c=35:=by
     rw[← e35] at h
     injection h with h
     exact List.cons.inj (WL h) |>.1
    have:=fin 46 (by rw[e];rfl)
    rw[← Akf,e46] at this
    exact this
   ·have e:c≠35:=fun z=>h (by rw[z];exact e35)
    have:=fin 35 (by unfold flip;rw[if_neg e])
    rw[← Akf,e35] at this
    exact this
  ·rintro ys H2 p ⟨rfl,rfl⟩ hp
   rw[AjE,A4s]
   refine⟨_,_,((t.map fun c=>[flip c]).map tx),rfl,rfl,SqL.of (by rw[Ae,QV]),?_,?_⟩
   ·have e1:=Aw3 flip t
    rw[e1,A3S,A3S]
    have:t.length*(Str.length "")=0:=by rw[show Str.length "" = 0 from by decide +kernel];omega
    omega
   ·rw[show(("" : Str))=tx [] from by decide +kernel,AcF]
    have e2:=Apq flip t
    rw[e2]
    exact k _ (.upd hp)
def Axt (K:PySem.W.Frag):Sp:=fun vs H Q _=>∃(a:Addr) (cl:List (List Nat)) (m n:Nat),vs=[.ref a]∧SqL K H a (vS cl)∧Cl cl m n∧∀ l H',Am H H'→H l=none→H' l=some (.lst (vS (back cl)))→Q (.ref l) H'
theorem ArC(T:Txt K mg t):Aq P w K mg base CX0 4 t.M3 t.AhE ["cloth"] (Axt K):=by
 have Gh:Aq P w K mg base CX0 3 t.Ew t.JR _ _:=M6 T
 have Tz:Aq P w K mg base CX0 1 t.Em t.Nh _ _:=Aaq T
 refine T.Kh.F.ok Arv (fun vs H Q E h=>?_) (fun cdv A outer s H vs Q E hr h=>?_)
 ·obtain⟨a,cl,m,n,rfl,_⟩:=h
  rfl
 ·obtain⟨a,cl,m,n,rfl,hS,C,k⟩:=h
  have c2:=C.n40
  have c4:=C.m40
  refine⟨_,(Ad (DP (Aj (Gh.mono (by decide)) hr rfl T.measured.m T.measured.F.kp T.measured.b .nil Ao (Aa (pv 0) Ac)))
   (Ah (Bb (Gk (Dp.mk (Bh:=[]) (Nc:=["text"]) rfl (by decide +kernel) (by decide +kernel) (Cu (sc0:=Ab Ie) rfl (by decide +kernel)) rfl rfl rfl (by decide +kernel) (fun _ _ h=>by simp at h)) rfl (Bq (K:=K) (pv 0)) (fun _ _ _ _ _=>.nil) (fun _ _ _ _ _=>(Aj (Tz.mono (by decide)) hr rfl T.Ja.m T.Ja.F.kp T.Ja.b .nil Ao (Aa (Dq (K:=K) PySem.F.plainAttrs_str PySem.F.slot_str_join PySem.F.type_str_join AqY Dm (Aa (Hg Apu rfl T.Ary Apv (Aa (pv 0) Ac)) Ac)) Ac))))))),?_⟩
  refine⟨_,rfl,a,cl,m,n,rfl,hS,C,fun p hp=>?_⟩
  have s1:Am H (upd H p (.tup [.int (m:Int),.int (n:Int)])):=.upd hp
  refine⟨_,rfl,_,rfl,⟨_,s1.seq hS⟩,De (K:=K) (a:=a) (xs:=vS cl) (fun i ys H2=>Am H H2∧ys=vS ((cl.take i).map fun t=>t.reverse.map flip)) ⟨s1,rfl⟩ ?_ ?_ ?_ ?_⟩
  ·rintro i ys H2 hi ⟨s2,rfl⟩
   refine⟨s2.seq hS,?_⟩
   rw[Bs,A3S,A4l]
   omega
  ·rw[Bs,C.hn];exact Jl c2
  ·rintro i x ys H2 hi hx ⟨s2,rfl⟩
   obtain⟨t,ht,rfl⟩:=QT hx
   have htm:=A3Y ht
   have htl:=C.hm t htm
   refine FN.no ?_
   refine⟨rfl,_,rfl,_,rfl,(by rw[Bf,htl];exact Jl c4),fun q hq=>?_⟩
   refine⟨_,_,q,rfl,rfl,Ae,(by decide +kernel),(by rw[Bf];omega),?_⟩
   rw[Pr,show(("" : Str))=tx [] from by decide +kernel,show(t.reverse.map fun c=>(⟨#[c]⟩:Str))=(t.reverse.map fun c=>[c]).map tx by rw[A4u];rfl,AcF]
   have e2:(t.reverse.map fun c=>[c]).flatten=t.reverse:=(Apq id t.reverse).trans (List.map_id _)
   rw[e2]
   refine⟨t.reverse,rfl,(by rw[List.length_reverse];omega),fun H3 s3=>?_⟩
   refine CN.of hi ⟨((s2.new hq).over (s2.free hq)).trans s3,?_⟩
   rw[Ia,A4p,ht,A3W]
   rfl
  ·rintro ys H2 p2 ⟨s2,rfl⟩ hp2
   rw[Bs,A4s]
   exact k p2 _ (s2.new hp2) (s2.free hp2) Ae
def ArD (K:PySem.W.Frag):Sp:=fun vs H Q _=>∃(a:Addr) (cl:List (List Nat)) (m n:Nat),vs=[.ref a]∧SqL K H a (vS cl)∧Cl cl m n∧∀ l H',Am H H'→H l=none→H' l=some (.lst (vS (Jx cl m)))→Q (.ref l) H'
theorem Amv(T:Txt K mg t):Aq P w K mg base CX0 4 t.Hj t.Zb ["cloth"] (ArD K):=by
 have Gh:Aq P w K mg base CX0 3 t.Ew t.JR _ _:=M6 T
 have Tz:Aq P w K mg base CX0 1 t.Em t.Nh _ _:=Aaq T
 have M7:Aq P w K mg base CX0 1 t.Gy t.QD _ _:=Zm T
 refine T.EY.F.ok Adi (fun vs H Q E h=>?_) (fun cdv A outer s H vs Q E hr h=>?_)
 ·obtain⟨a,cl,m,n,rfl,_⟩:=h
  rfl
 ·obtain⟨a,cl,m,n,rfl,hS,C,k⟩:=h
  have c2:=C.n40
  have c4:=C.m40
  refine⟨_,(Ad (Ax (i:=1) Adi.nd rfl (Or.inl rfl) (Aj (Gh.mono (by decide)) hr rfl T.measured.m T.measured.F.kp T.measured.b .nil Ao (Aa (pv 0) Ac)))
   (Ah (Bb (Gk (Dp.mk (Bh:=[0]) (Nc:=["end", "cloth"]) rfl (by decide +kernel) (by decide +kernel) (Cu (sc0:=Ab Ef) rfl (by decide +kernel)) rfl rfl rfl (by decide +kernel) (fun k j h=>match k,h with | 0,h=>by obtain rfl:=Option.some.inj h;exact⟨_,rfl,rfl,rfl⟩ | _+1,h=>by simp at h)) rfl (Kg rfl T.Jc (Aa (Cq (MK (K:=K)) (pv 1) Ak (fun _ _=>rfl)) Ac)) (fun _ _ _ _ _=>.nil) (fun _ _ _ _ _=>(Aj (Tz.mono (by decide)) hr rfl T.Ja.m T.Ja.F.kp T.Ja.b .nil Ao (Aa (Aj (M7.mono (by decide)) hr rfl T.G8.m T.G8.F.kp T.G8.b .nil Ao (Aa (pv 1) (Aa (pv 0) Ac))) Ac))))))),?_⟩
  refine⟨_,rfl,a,cl,m,n,rfl,hS,C,fun p hp=>?_⟩
  have s1:Am H (upd H p (.tup [.int (m:Int),.int (n:Int)])):=.upd hp
  refine⟨_,rfl,_,_,_,_,rfl,rfl,SqT.of Ae,Ed (by decide) rfl,(m:Int),rfl,(by omega),(by omega),?_⟩
  rw[A4m]
  refine Ti (lo:=0) (n:=m) (fun i ys H2=>Am H H2∧ys=vS ((List.range i).map fun e=>(col cl e).map flip)) ⟨s1,rfl⟩ ?_ ?_ ?_ ?_
  ·rintro i ys H2 hi ⟨s2,rfl⟩
   rw[Bs,A3S,A4H]
   omega
  ·exact Jl c4
  ·rintro i ys H2 hi ⟨s2,rfl⟩
   refine FN.no ?_
   refine⟨_,rfl,_,rfl,a,cl,m,n,i,(by rw[A5f];rfl),s2.seq hS,C,hi,fun H3 s3=>?_⟩
   refine⟨col cl i,rfl,(by unfold col;rw[A3S,C.hn];omega),fun H4 s4=>?_⟩
   refine CN.of hi ⟨(s2.trans s3).trans s4,?_⟩
   rw[Ia,A5d,A3W]
   rfl
  ·rintro ys H2 p2 ⟨s2,rfl⟩ hp2
   exact k p2 _ (s2.new hp2) (s2.free hp2) Ae
theorem Ij{i:Nat}{v:V}{σ σ':St}{H:Hp}{Kt:St→Hp→Prop}(h:σ.set i (some v)=σ')(k:Kt σ' H):Afc i v σ H Kt:=by subst h;exact k
def Adb (ks:List Int):List (List Nat):=ks.map fun z=>[z.toNat]
theorem AvI{ks:List Int}(h:∀ z∈ks,0≤z):nT (Adb ks)=ks:=by
 induction ks with
 | nil=>rfl
 | cons z r ih =>
  have h1:=h z A3V
  have h2:=ih fun y hy=>h y (A4d _ hy)
  show ofN [z.toNat]++nT (Adb r)=_
  rw[h2]
  show((z.toNat:Nat):Int)::r=_
  rw[Int.toNat_of_nonneg h1]
theorem AvJ{ks:List Int}(h:∀ z∈ks,0≤z∧z<40):∀ p∈Adb ks,Okp p:=fun p hp=>by
 unfold Adb at hp
 obtain⟨z,hz,rfl⟩:=List.mem_map.mp hp
 have:=h z hz
 exact⟨by simp,by simp,fun n hn=>by rw[List.mem_singleton.mp hn];omega⟩
theorem AtY(ks:List Int):(Adb ks).flatten.length=ks.length:=by
 induction ks with
 | nil=>rfl
 | cons z r ih =>
  show([z.toNat]++(Adb r).flatten).length=_
  rw[A3T,ih,A3Z]
  simp
  omega
def Azf:Sp:=fun vs H Q _=>∃(l:Addr) (ks:List Int),vs=[.ref l]∧H l=some (.lst (vI ks))∧(∀ z∈ks,0≤z∧z<40)∧ks.length≤40∧∀(u:List Nat) (H':Hp),Am H H'→Wr u ks→u.length≤240→Q (.str (tx u)) H'
theorem ArE(T:Txt K mg t):Aq P w K mg base CX0 1 t.M5 t.AhG ["numbers"] Azf:=by
 refine T.Qa.F.ok Arx (fun vs H Q E h=>?_) (fun cdv A outer s H vs Q E hr h=>?_)
 ·obtain⟨l,ks,rfl,_⟩:=h
  rfl
 ·obtain⟨l,ks,rfl,hl,hb,h40,k⟩:=h
  refine⟨_,(Ah (Bb (Dq (K:=K) PySem.F.plainAttrs_str PySem.F.slot_str_join PySem.F.type_str_join (JN (K:=K)) Dm (Aa (Gk (Dp.mk (Bh:=[]) (Nc:=["number"]) rfl (by decide +kernel) (by decide +kernel) (Cu (sc0:=Ab Ig) rfl (by decide +kernel)) rfl rfl rfl (by decide +kernel) (fun _ _ h=>by simp at h)) rfl (Bq (K:=K) (pv 0)) (fun _ _ _ _ _=>.nil) (fun _ _ _ _ _=>(Hg Afg rfl T.Avc AqZ (Aa (pv 0) Ac)))) Ac)))),?_⟩
  refine⟨rfl,_,rfl,_,rfl,⟨_,SqL.of hl⟩,De (K:=K) (a:=l) (xs:=vI ks) (fun i ys H2=>H2=H∧ys=vS ((Adb (ks.take i)).map Nq)) ⟨rfl,rfl⟩ ?_ ?_ ?_ ?_⟩
  ·rintro i ys H2 hi ⟨rfl,rfl⟩
   refine⟨SqL.of hl,?_⟩
   rw[Bs,A3S]
   unfold Adb
   rw[A3S,A4l]
   omega
  ·rw[Bd];exact Jl h40
  ·rintro i xv ys H2 hi hxv ⟨rfl,rfl⟩
   obtain⟨z,hz,rfl⟩:=JM hxv
   have bz:=hb z (A3Y hz)
   obtain⟨n,rfl⟩:∃ n:Nat,z=(n:Int):=⟨z.toNat,by omega⟩
   have A2y:n<100:=by omega
   refine FN.no ?_
   refine⟨_,rfl,_,rfl,?_,?_⟩
   ·show(n:Int).natAbs.log2<1920
    rw[Int.natAbs_natCast]
    by_cases c:n=0
    ·rw[c];decide
    ·have:n.log2<7:=(Nat.log2_lt c).mpr (A4k A2y (by decide))
     omega
   ·show CN (vI ks).length _ i (vS ((Adb (ks.take i)).map Nq)++[.str (Str.ofString (toString ((n:Nat):Int)))]) H2
    rw[Avr,Ia]
    refine CN.of hi ⟨rfl,?_⟩
    unfold Adb
    rw[A4p,hz,A3W,A3W]
    show vS (_++[dec n])=vS (_++[dec n++[]])
    rw[A4Q]
  ·rintro ys H2 q ⟨rfl,rfl⟩ nq
   rw[Bd,A4s]
   have okp:=AvJ hb
   have nt:=AvI fun z hz=>(hb z hz).1
   have rl:=Aqi okp
   rw[AtY] at rl
   have ol:(Adb ks).length=ks.length:=by unfold Adb;rw[A3S]
   have wr:=Aqh okp (by omega) (by omega) (by rw[nt];omega)
   rw[nt] at wr
   have pb:∀ u∈(Adb ks).map Nq,u.length≤6:=fun u hu=>by
    obtain⟨p,hp,rfl⟩:=List.mem_map.mp hu
    have h1:=Zt (List.length_pos_iff.mp (okp p hp).ne)
    have h2:=Av4 (okp p hp).bd
    have h3:p.length≤1:=by
     unfold Adb at hp
     obtain⟨z,_,rfl⟩:=List.mem_map.mp hp
     simp
    omega
   refine⟨_,_,((Adb ks).map Nq).map tx,rfl,rfl,SqL.of (by rw[Ae,QV]),?_,?_⟩
   ·have:=AfO ((Adb ks).map Nq) pb
    have d1:Str.length " " = 1:=by decide +kernel
    rw[A3S] at this
    rw[A3S,A3S,d1]
    omega
   ·rw[show((" " : Str))=tx [32] from by decide +kernel,join_rows]
    exact k _ _ (.upd nq) wr (by omega)
def AvK (K:PySem.W.Frag):Sp:=fun vs H Q _=>∃(a:Addr) (ks:List Int),vs=[.ref a]∧SqL K H a (vI ks)∧ks.length≤40∧∀ H',Am H H'→Q (.int ((unl ks).length:Int)) H'
theorem Aon(T:Txt K mg t):Aq P w K mg base CX0 1 t.IK t.Abe ["row"] (AvK K):=by
 refine T.G9.F.ok Za (fun vs H Q E h=>?_) (fun cdv A outer s H vs Q E hr h=>?_)
 ·obtain⟨a,ks,rfl,_⟩:=h
  rfl
 ·obtain⟨a,ks,rfl,hS,h40,k⟩:=h
  refine⟨_,(Ad (Ax (i:=1) Za.nd rfl (Or.inl rfl) (HS Ac))
   (Ad (GD PassesOwn.never rfl (Bq (K:=K) (pv 0)) (Dd (i:=2) Za.nd rfl (Or.inl rfl))
    (Ah (Dc (Bc (Adf (K:=K)) (pv 2) (pv 1) rfl)
     (Ah (DP (Dq (K:=K) PySem.F.plainAttrs_list PySem.F.slot_list_append PySem.F.type_list_append HX (pv 1) (Aa (pv 2) Ac))))
     Bj)))
   (Ah (Bb (Bo (Bl (K:=K)) rfl T.HN Es (Aa (pv 1) Ac)))))),?_⟩
  refine⟨A4f _,fun q nq=>?_⟩
  have s1:Am H (upd H q (.lst [])):=.upd nq
  refine⟨_,rfl,_,rfl,⟨_,s1.seq hS⟩,GF (K:=K) (a:=a) (xs:=vI ks) (fun i σ H2=>∃ v,σ=[some (.ref a),some (.ref q),v]∧Am H H2∧H2 q=some (.lst (vI (unl (ks.take i))))) ⟨none,rfl,s1,Ae⟩ (fun i σ H2 _ ⟨_,_,s2,_⟩=>s2.seq hS) ?_ ?_⟩
  ·rintro i xv σ H2 hx ⟨v,rfl,s2,h2⟩
   obtain⟨z,hz,rfl⟩:=JM hx
   have e1:ks.take (i+1)=ks.take i++[z]:=by rw[A4p,hz];rfl
   refine⟨_,rfl,_,rfl,_,_,rfl,.inl (SqL.of h2),rfl,AjF _,_,rfl,?_⟩
   show if (!inV (.int z) (vI (unl (ks.take i))))=true then _ else _
   rw[Ard]
   by_cases hm:z∈unl (ks.take i)
   ·refine AiG hm ?_
    exact⟨_,rfl,s2,by rw[e1,Ib,if_pos hm];exact h2⟩
   ·refine Au1 hm ?_
    have ul:=QW (ks.take i)
    rw[A4l] at ul
    refine⟨_,rfl,.inl ⟨rfl,_,SqL.of h2⟩,_,rfl,_,_,_,rfl,rfl,h2,(by rw[Bd];exact A6h (show _≤40 by omega) (by decide)),?_⟩
    rw[Tj]
    exact⟨_,rfl,s2.over nq,by rw[e1,Ib,if_neg hm];exact Ae⟩
  ·rintro σ H2 ⟨v,rfl,s2,h2⟩
   rw[Bd,A4s] at h2
   refine⟨_,rfl,_,_,rfl,.inl (SqL.of h2),?_⟩
   rw[Bd]
   exact k H2 s2
theorem Azg(ks:List Int)(i n:Nat){a b:Int}(ha:a=(i:Int))(hb:b=((i+n:Nat):Int)):Afj (vI ks) (some a) (some b)=vI ((ks.drop i).take n):=by
 subst ha hb
 rw[AkK (by omega),show i+n-i=n by omega]
 unfold vI
 rw[List.map_take,A6d]
theorem cutE(ks:List Int)(i:Nat){a:Int}(ha:a=(i:Int))(h:i≤ks.length):Afj (vI ks) (some a) none=vI (ks.drop i):=by
 subst ha
 unfold Afj
 rw[HT.R4,HT.AjZ,Bd,A4V h]
 unfold vI
 rw[A6d,A4M (by simp)]
theorem Axu{ks:List Int}{i n:Nat}{z:Int}(h:z∈(ks.drop i).take n):z∈ks:=A5w (A6p h)
theorem sub_len{ks:List Int}{i n:Nat}(h:i+n≤ks.length):((ks.drop i).take n).length=n:=by rw[A4l,A4r];omega
def Azh (K:PySem.W.Frag):Sp:=fun vs H Q _=>∃(l:Addr) (ks:List Int) (en pk:Nat),vs=[.ref l,.int (en:Int),.int (pk:Int)]∧SqL K H l (vI ks)∧25≤ks.length∧(∀ k∈ks,0≤k)∧1≤en∧en≤8∧1≤pk∧pk≤8 ∧
 ∀(u0:List Nat) (us:List (List Nat)) (u2:List Nat) (th:List Int) (tss:List (List Int)) (tr:List Int) (H':Hp),Am H H'→Wr u0 th→us.length=tss.length→(∀(i:Nat) (u:List Nat) (ks:List Int),us[i]?=some u→tss[i]?=some ks→Wr u ks)→Wr u2 tr→Ft th tss tr→th.length=en→tr.length=pk→(drT u0 us u2).length≤1000000→Q (.str (tx (drT u0 us u2))) H'
theorem AkS(T:Txt K mg t):Aq P w K mg base CX0 2 t.G4 t.WT ["numbers", "ends", "picks"] (Azh K):=by
 have Aib:Aq P w K mg base CX0 1 t.M5 t.AhG _ _:=ArE T
 have Zu:Aq P w K mg base CX0 1 t.Gn t.RB _ _:=Adq T
 refine T.UG.F.ok JP (fun vs H Q E h=>?_) (fun cdv A outer s H vs Q E hr h=>?_)
 ·obtain⟨l,ks,en,pk,rfl,_⟩:=h
  rfl
 ·obtain⟨l,ks,en,pk,rfl,hS,k25,knn,e1,e8,p1,p8,k⟩:=h
  have hsz:sizeLine=16777216:=sizeLine_eq
  refine⟨_,(Ad (Ax (i:=3) JP.nd rfl (Or.inr rfl) (Be Gi Ak (Be IV (Cq (Bm (K:=K)) (pv 0) Ak (fun _ _=>rfl)) Ak)))
   (Ad (Ax (i:=4) JP.nd rfl (Or.inl rfl) (Dq (K:=K) PySem.F.plainAttrs_str PySem.F.slot_str_join PySem.F.type_str_join (JN (K:=K)) Dm (Aa (Gk (Dp.mk (Bh:=[]) (Nc:=["number"]) rfl (by decide +kernel) (by decide +kernel) (Cu (sc0:=Ab Ci) rfl (by decide +kernel)) rfl rfl rfl (by decide +kernel) (fun _ _ h=>by simp at h)) rfl (Bq (K:=K) (HW (KN (K:=K)) (pv 0) (Fb Ak) (Fb (Be Gi Ak (pv 3))))) (fun _ _ _ _ _=>.nil) (fun _ _ _ _ _=>(Aj (Aib.mono (by decide)) hr rfl T.Qa.m T.Qa.F.kp T.Qa.b .nil Ao (Aa (Aj (Zu.mono (by decide)) hr rfl T.Mw.m T.Mw.F.kp T.Mw.b .nil Ao (Aa (pv 0) Ac)) Ac)))) Ac)))
   (Ad (Ax (i:=5) JP.nd rfl (Or.inl rfl) (Aj (Aib.mono (by decide)) hr rfl T.Qa.m T.Qa.F.kp T.Qa.b .nil Ao (Aa (Gk (Dp.mk (Bh:=[]) (Nc:=["number"]) rfl (by decide +kernel) (by decide +kernel) (Cu (sc0:=Ab Ci) rfl (by decide +kernel)) rfl rfl rfl (by decide +kernel) (fun _ _ h=>by simp at h)) rfl (Bq (K:=K) (HW (KN (K:=K)) (pv 0) (Fb Ak) (Fb (Be Gi Ak (pv 1))))) (fun _ _ _ _ _=>.nil) (fun _ _ _ _ _=>(Be IV (pv 0) Ak))) Ac)))
   (Ad (Ax (i:=6) JP.nd rfl (Or.inl rfl) (Aj (Aib.mono (by decide)) hr rfl T.Qa.m T.Qa.F.kp T.Qa.b .nil Ao (Aa (Gk (Dp.mk (Bh:=[3]) (Nc:=["number", "treadles"]) rfl (by decide +kernel) (by decide +kernel) (Cu (sc0:=Ab Ci) rfl (by decide +kernel)) rfl rfl rfl (by decide +kernel) (fun k j h=>match k,h with | 0,h=>by obtain rfl:=Option.some.inj h;exact⟨_,rfl,rfl,rfl⟩ | _+1,h=>by simp at h)) rfl (Bq (K:=K) (HW (KN (K:=K)) (pv 0) (Fb Ak) (Fb (Be Gi Ak (pv 2))))) (fun _ _ _ _ _=>.nil) (fun _ _ _ _ _=>(Be IV (pv 0) (pv 1)))) Ac)))
   (Ah (Bb (Be Oo (Be Oo (Be Oo (Be Oo (pv 5) Dm) (pv 4)) Dm) (pv 6)))))))),?_⟩
  have g0:atI (vI ks) 0=some (.int ks[0]):=Ed (by decide) (by unfold vI;rw[A4e];show(ks[0]?).map _=_;rw[A3R (by omega)];rfl)
  refine⟨_,rfl,_,_,_,_,rfl,rfl,hS,g0,_,_,rfl,rfl,(by show(0:Int)<8;decide),_,_,rfl,rfl,?_⟩
  obtain⟨tl,etl,tl1,tl8⟩:∃ tl:Nat,1+ks[0]%8=(tl:Int)∧1≤tl∧tl≤8:=⟨(1+ks[0]%8).toNat,by have:=A4W ks[0] (show(8:Int)≠0 by decide);omega,by have:=A4W ks[0] (show(8:Int)≠0 by decide);omega,by have:=A5N ks[0] (show(0:Int)<8 by decide);omega⟩
  refine Ij (σ':=[some (.ref l),some (.int (en:Int)),some (.int (pk:Int)),some (.int (tl:Int)),none,none,none]) (by show[some (V.ref l),some (.int (en:Int)),some (.int (pk:Int)),some (.int (1+ks[0]%8)),none,none,none]=_;rw[etl]) ?_
  refine⟨rfl,_,rfl,_,rfl,_,rfl,_,_,rfl,rfl,_,rfl,_,_,rfl,hS,fun p nq=>?_⟩
  rw[Azg ks 1 tl (a:=1) (b:=1+(tl:Int)) rfl (by omega)]
  have s1:Am H (upd H p (.lst (vI ((ks.drop 1).take tl)))):=.upd nq
  have hp:(upd H p (.lst (vI ((ks.drop 1).take tl)))) p=some (.lst (vI ((ks.drop 1).take tl))):=Ae
  generalize upd H p (.lst (vI ((ks.drop 1).take tl)))=H1 at s1 hp ⊢
  have l1:=sub_len (ks:=ks) (i:=1) (n:=tl) (by omega)
  refine⟨_,rfl,⟨_,SqL.of hp⟩,De (K:=K) (a:=p) (xs:=vI ((ks.drop 1).take tl)) (fun i ys H2=>Am H1 H2∧∃(us:List (List Nat)) (tss:List (List Int)),ys=vS us∧us.length=i∧tss.length=i∧(∀(j:Nat) (u:List Nat) (ks:List Int),us[j]?=some u→tss[j]?=some ks→Wr u ks)∧(∀ u∈us,u.length≤240)∧∀ ks∈tss,Rs ks) ⟨.refl _,[],[],rfl,rfl,rfl,fun j u ks h=>(by simp at h),fun u h=>(by cases h),fun ks h=>(by cases h)⟩ ?_ ?_ ?_ ?_⟩
  ·rintro i ys H2 hi ⟨s2,us,tss,rfl,ul,_⟩
   exact⟨SqL.of (s2 _ _ hp),by rw[Bs];omega⟩
  ·rw[Bd,l1];omega
  ·rintro i xv ys H2 hi hxv ⟨s2,us,tss,rfl,ul,tsl,uw,ub,tR⟩
   obtain⟨z,hz,rfl⟩:=JM hxv
   refine FN.no ?_
   refine⟨_,rfl,z,rfl,knn z (Axu (A3Y hz)),fun r ks' H3 s3 nr hr' R=>?_⟩
   refine⟨r,ks',rfl,hr',R.2,AyW R,fun u H4 s4 W wl=>?_⟩
   dsimp only
   rw[Ia]
   refine CN.of hi ⟨(s2.trans s3).trans s4,us++[u],tss++[ks'],rfl,by rw[A3T,ul];rfl,by rw[A3T,tsl];rfl,fun j u' Azi g1 g2=>?_,fun u' h=>?_,fun Azi h=>?_⟩
   ·by_cases hj:j<us.length
    ·rw[A4i hj] at g1
     rw[A4i (by omega)] at g2
     exact uw j u' Azi g1 g2
    ·rw[A4h (by omega)] at g1 g2
     have:=(List.getElem?_eq_some_iff.mp g1).1
     simp at this
     rw[show j-us.length=0 by omega] at g1
     rw[show j-tss.length=0 by omega] at g2
     cases g1
     cases g2
     exact W
   ·rcases List.mem_append.mp h with h | h
    ·exact ub u' h
    ·rw[List.mem_singleton.mp h];exact wl
   ·rcases List.mem_append.mp h with h | h
    ·exact tR Azi h
    ·rw[List.mem_singleton.mp h];exact R
  rintro ys H2 q ⟨s2,us,tss,rfl,ul,tsl,uw,ub,tR⟩ nq2
  rw[Bd,l1] at ul tsl
  have jb:=AjI [44,32] us ub
  simp only [A3Z,A4z] at jb
  have ls:=AfO us ub
  refine⟨_,_,us.map tx,rfl,rfl,SqL.of (by rw[Ae,QV]),?_,?_⟩
  ·rw[A3S,AfP,Bf]
   simp only [A3Z,A4z]
   omega
  rw[AfP,AkN]
  have s3:Am H (upd H2 q (.lst (vS us))):=(s1.trans s2).new nq2
  generalize upd H2 q (.lst (vS us))=H3 at s3 ⊢
  refine Ij (σ':=[some (.ref l),some (.int (en:Int)),some (.int (pk:Int)),some (.int (tl:Int)),some (.str (tx (jnS [44,32] us))),none,none]) rfl ?_
  refine⟨_,rfl,_,rfl,_,rfl,_,_,rfl,rfl,_,rfl,_,_,rfl,s3.seq hS,fun p2 np2=>?_⟩
  rw[Azg ks 9 en (a:=9) (b:=9+(en:Int)) rfl (by omega)]
  have s4:Am H3 (upd H3 p2 (.lst (vI ((ks.drop 9).take en)))):=.upd np2
  have hp2:(upd H3 p2 (.lst (vI ((ks.drop 9).take en)))) p2=some (.lst (vI ((ks.drop 9).take en))):=Ae
  generalize upd H3 p2 (.lst (vI ((ks.drop 9).take en)))=H4 at s4 hp2 ⊢
  have l2:=sub_len (ks:=ks) (i:=9) (n:=en) (by omega)
  refine⟨_,rfl,⟨_,SqL.of hp2⟩,De (K:=K) (a:=p2) (xs:=vI ((ks.drop 9).take en)) (fun i ys H5=>H5=H4∧∃ zs:List Int,ys=vI zs∧zs.length=i∧∀ v∈zs,0≤v∧v<40) ⟨rfl,[],rfl,rfl,fun v h=>(by cases h)⟩ ?_ ?_ ?_ ?_⟩
  ·rintro i ys H5 hi ⟨rfl,zs,rfl,zl,_⟩
   exact⟨SqL.of hp2,by rw[Bd];omega⟩
  ·rw[Bd,l2];omega
  ·rintro i xv ys H5 hi hxv ⟨rfl,zs,rfl,zl,zb⟩
   obtain⟨z,hz,rfl⟩:=JM hxv
   refine FN.no ?_
   refine⟨_,rfl,_,_,rfl,rfl,(by show(0:Int)<40;decide),?_⟩
   dsimp only
   rw[Tj]
   exact CN.of hi ⟨rfl,_,rfl,by rw[A3T,zl];rfl,As9 zb ⟨A4W _ (by decide),A5N _ (by decide)⟩⟩
  rintro ys H4' q2 ⟨rfl,th,rfl,thl,thb⟩ nq3
  rw[Bd,l2] at thl
  have s5:Am H4' (upd H4' q2 (.lst (vI th))):=.upd nq3
  have hq2:(upd H4' q2 (.lst (vI th))) q2=some (.lst (vI th)):=Ae
  generalize upd H4' q2 (.lst (vI th))=H5 at s5 hq2 ⊢
  refine⟨q2,th,rfl,hq2,thb,by omega,fun a H6 s6 Wa la=>?_⟩
  have u6:=((s3.trans s4).trans s5).trans s6
  refine Ij (σ':=[some (.ref l),some (.int (en:Int)),some (.int (pk:Int)),some (.int (tl:Int)),some (.str (tx (jnS [44,32] us))),some (.str (tx a)),none]) rfl ?_
  refine⟨_,rfl,_,rfl,_,rfl,_,_,rfl,rfl,_,rfl,_,_,rfl,u6.seq hS,fun p3 np3=>?_⟩
  rw[Azg ks 17 pk (a:=17) (b:=17+(pk:Int)) rfl (by omega)]
  have s7:Am H6 (upd H6 p3 (.lst (vI ((ks.drop 17).take pk)))):=.upd np3
  have hp3:(upd H6 p3 (.lst (vI ((ks.drop 17).take pk)))) p3=some (.lst (vI ((ks.drop 17).take pk))):=Ae
  generalize upd H6 p3 (.lst (vI ((ks.drop 17).take pk)))=H7 at s7 hp3 ⊢
  have l3:=sub_len (ks:=ks) (i:=17) (n:=pk) (by omega)
  have tlp:(0:Int)<(tl:Int):=by omega
  refine⟨_,rfl,⟨_,SqL.of hp3⟩,De (K:=K) (a:=p3) (xs:=vI ((ks.drop 17).take pk)) (fun i ys H8=>H8=H7∧∃ zs:List Int,ys=vI zs∧zs.length=i∧∀ v∈zs,0≤v∧v<(tl:Int)) ⟨rfl,[],rfl,rfl,fun v h=>(by cases h)⟩ ?_ ?_ ?_ ?_⟩
  ·rintro i ys H8 hi ⟨rfl,zs,rfl,zl,_⟩
   exact⟨SqL.of hp3,by rw[Bd];omega⟩
  ·rw[Bd,l3];omega
  ·rintro i xv ys H8 hi hxv ⟨rfl,zs,rfl,zl,zb⟩
   obtain⟨z,hz,rfl⟩:=JM hxv
   refine FN.no ?_
   refine⟨_,rfl,_,rfl,_,_,rfl,rfl,tlp,?_⟩
   dsimp only
   rw[Tj]
   exact CN.of hi ⟨rfl,_,rfl,by rw[A3T,zl];rfl,As9 zb ⟨A4W _ (by omega),A5N _ tlp⟩⟩
  rintro ys H7' q3 ⟨rfl,tr,rfl,trl,trb⟩ nq4
  rw[Bd,l3] at trl
  have s8:Am H7' (upd H7' q3 (.lst (vI tr))):=.upd nq4
  have hq3:(upd H7' q3 (.lst (vI tr))) q3=some (.lst (vI tr)):=Ae
  generalize upd H7' q3 (.lst (vI tr))=H8 at s8 hq3 ⊢
  refine⟨q3,tr,rfl,hq3,fun v hv=>(by have:=trb v hv;omega),by omega,fun c H9 s9 Wc lc=>?_⟩
  have u9:=((u6.trans s7).trans s8).trans s9
  refine Ij (σ':=[some (.ref l),some (.int (en:Int)),some (.int (pk:Int)),some (.int (tl:Int)),some (.str (tx (jnS [44,32] us))),some (.str (tx a)),some (.str (tx c))]) rfl ?_
  refine⟨_,rfl,_,_,rfl,rfl,(by rw[Abm,Bf,Bf];simp only [A3Z,A4z];omega),?_⟩
  rw[Abm,AaQ]
  refine⟨_,rfl,_,_,rfl,rfl,(by rw[Bf,Bf,A3T];simp only [A3Z,A4z];omega),?_⟩
  rw[AaQ]
  refine⟨_,_,rfl,rfl,(by rw[Bf,Bf,A3T,A3T];simp only [A3Z,A4z];omega),?_⟩
  rw[AaQ]
  refine⟨_,rfl,_,_,rfl,rfl,(by rw[Bf,Bf,A3T,A3T,A3T];simp only [A3Z,A4z];omega),?_⟩
  rw[AaQ]
  have e:a++[32,47,32]++jnS [44,32] us++[32,47,32]++c=drT a us c:=by
   unfold drT
   simp[jnS]
  rw[e]
  have FT:Ft th tss tr:={ m1:=by omega,m40:=by omega,t1:=by omega,t40:=by omega,n1:=by omega,n40:=by omega,hth:=thb,hti:=tR,htr:=fun v hv=>by have:=trb v hv;omega }
  refine k a us c th tss tr H9 u9 Wa (by omega) uw Wc FT thl trl ?_
  rw[← e]
  simp only [A3T,A3Z,A4z]
  omega
end
theorem AvL{α β:Type}:∀(a:List α) (b:List β),b.zip a=(a.zip b).map Prod.swap
 | [],b=>by simp
 | x::a,[]=>by simp
 | x::a,y::b=>by rw[List.zip_cons_cons,List.zip_cons_cons,AvL a b];rfl
theorem Zv{α β:Type}{f g:α→List β}:∀{l:List α},(∀ x∈l,f x=g x)→l.flatMap f=l.flatMap g
 | [],_=>rfl
 | x::r,h=>by rw[A5I,A5I,h x A3V,Zv fun y hy=>h y (A4d _ hy)]
section
variable {α β:Type} [DecidableEq α] [DecidableEq β]
theorem Anr{l:List α}{l':List β}(e:l.length=l'.length)(h:∀ i j,i<l.length→j<l.length→l[i]?=l[j]?→l'[i]?=l'[j]?):(unl l').length≤(unl l).length:=by
 by_cases c:l'=[]
 ·rw[c];exact A4f _
 ·obtain⟨d,_⟩:=List.exists_mem_of_ne_nil _ c
  have key:l'=l.map fun x=>l'.getD (ix l x) d:=by
   refine A4G fun i=>?_
   rw[A4e]
   by_cases hi:i<l.length
   ·have hm:l[i]∈l:=A4j hi
    have h1:=Anl hm
    have h2:=AiJ hm
    have h3:=h i (ix l l[i]) hi h2 (by rw[h1,A3R hi])
    rw[A3R hi,h3,A3R (by omega)]
    show _=some (l'.getD (ix l l[i]) d)
    rw[A4c,A3R (by omega)]
    rfl
   ·rw[A4o (by omega),A4o (by omega)]
    rfl
  rw[key]
  exact Aru _ l
theorem AsG(l:List α):(unl (nts (num l))).length=(unl l).length:=by
 have e:nts (num l)=l.map fun x=>((ix (unl l) x:Nat):Int):=by
  unfold nts num
  rw[A4u]
  rfl
 rw[e,Asr l fun x hx y hy h=>Afq hx hy (by omega),A3S]
theorem AsH(l:List Nat):(unl (nts l)).length=(unl l).length:=by
 unfold nts
 rw[Asr l fun x _ y _ h=>by omega,A3S]
end
section
variable {pr one other:List (List Nat)}{m n w h:Nat} (C:Cl pr m n) (C1:Cl one w h) (C2:Cl other w h)
include C C1 C2
theorem AvM:(unl (cols (fil pr one other) (m*w))).length≤(unl (thN pr one other m w)).length:=by
 refine Anr (by rw[YZ,KQ]) fun i j hi hj e=>?_
 rw[YZ] at hi hj
 rw[YX hi,YX hj]
 congr 1
 unfold col
 refine A5j fun r hr=>?_
 have hi':i<(thN pr one other m w).length:=by rw[YZ];exact hi
 have h1:=A3R hi'
 have:=ApI C C1 C2 h1 (e.symm.trans h1) hr
 rw[A4c,A4c,this]
theorem AvN:(unl (fil pr one other)).length≤(unl (trN pr one other)).length:=by
 refine Anr (by rw[Afy C C1 C2,Afs C C1 C2]) fun i j hi hj e=>?_
 have h1:=A3R hi
 exact ApH C C1 C2 h1 (e.symm.trans h1)
theorem AvO:back (fil pr one other)=fil (back pr) (back other) (back one):=by
 unfold fil back
 rw[A6e,A6f]
 refine Zv fun u hu=>?_
 rw[A4u]
 have z:(other.map fun t=>t.reverse.map flip).zip (one.map fun t=>t.reverse.map flip)=(one.zip other).map fun q=>(q.2.reverse.map flip,q.1.reverse.map flip):=by
  rw[List.zip_map]
  have:other.zip one=(one.zip other).map Prod.swap:=AvL one other
  rw[this,A4u]
  rfl
 rw[z,A4u]
 refine A5j fun q _=>?_
 show((u.flatMap fun c=>if c=35 then q.1 else q.2).reverse).map flip=(u.reverse.map flip).flatMap fun c=>if c=35 then q.2.reverse.map flip else q.1.reverse.map flip
 rw[List.reverse_flatMap,A6e,A6f]
 refine Zv fun c hc=>?_
 have sg:=C.sg u hu c (List.mem_reverse.mp hc)
 show((if c=35 then q.1 else q.2).reverse).map flip=if flip c=35 then _ else _
 rcases sg with rfl | rfl
 ·rw[if_pos rfl,if_neg (by decide)]
 ·rw[if_neg (by decide),if_pos (by decide)]
theorem AfT{cl:List (List Nat)}{m e:Nat}(h:e<m):(Jx cl m)[e]?=some ((col cl e).map flip):=by
 unfold Jx
 rw[A4e,A5k h]
 rfl
theorem AtZ:Jx (fil pr one other) (m*w)=fil (Jx pr m) (Jx other w) (Jx one w):=by
 have w0:=C1.m1
 refine A4G fun e=>?_
 by_cases he:e<m*w
 case neg =>
  rw[A4o (by unfold Jx;rw[A3S,A4H];omega),A4o (by rw[Afs C.Jx C2.Jx C1.Jx];omega)]
 have d1:e=e / w*w+e%w:=by rw[A4J];exact(A5u _ _).symm
 have hE:e / w<m:=A5K (by rw[A4J];exact he)
 have hk:=A5e e w0
 rw[AfT C C1 C2 he]
 generalize e / w=E at d1 hE
 generalize e%w=k at d1 hk
 rw[d1,Afu C.Jx C2.Jx C1.Jx (AfT C C1 C2 hE) (AfT C C1 C2 hk) (AfT C C1 C2 hk)]
 congr 1
 unfold col fil
 rw[A6e,A6e,A6f,A6f]
 refine Zv fun u hu=>?_
 have lu:=C.hm u hu
 have hc:u[E]?=some (u.getD E 0):=by rw[A4c,A3R (by omega)];rfl
 have sg:Sg (u.getD E 0):=C.sg u hu _ (A3Y hc)
 have cell:∀ q∈one.zip other,(u.flatMap fun c=>if c=35 then q.1 else q.2).getD (E*w+k) 0=(if u.getD E 0=35 then q.1 else q.2).getD k 0:=fun q hq=>by
  have z:=A5y hq
  rw[A4c,Afv C C1 C2 z.1 z.2 hc hk,← A4c]
 have in1:((one.zip other).map fun q=>u.flatMap fun c=>if c=35 then q.1 else q.2).map (fun t=>t.getD (E*w+k) 0)=(one.zip other).map fun q=>(if u.getD E 0=35 then q.1 else q.2).getD k 0:=by
  rw[A4u]
  exact A5j cell
 rw[in1]
 show _=if flip (u.getD E 0)=35 then (other.map fun t=>t.getD k 0).map flip else (one.map fun t=>t.getD k 0).map flip
 have l1:(one.zip other).map Prod.fst=one:=List.map_fst_zip (by rw[C1.hn,C2.hn];exact A3U _)
 have l2:(one.zip other).map Prod.snd=other:=List.map_snd_zip (by rw[C1.hn,C2.hn];exact A3U _)
 rcases sg with q | q
 ·rw[q,if_neg (by decide)]
  conv=>rhs;rw[← l1]
  rw[A4u,A4u,A4u]
  rfl
 ·rw[q,if_pos (by decide)]
  conv=>rhs;rw[← l2]
  rw[A4u,A4u,A4u]
  rfl
theorem Aqr{a b:Nat}(ha:a<m)(hb:b<n):tile (fil pr one other) w h a b=if (pr.getD b []).getD a 0=35 then one else other:=by
 have w1:=C1.m1
 have hpb:b<pr.length:=by rw[C.hn];exact hb
 have hu:=A3R hpb
 have lu:=C.hm _ (A4j hpb)
 have eu:pr.getD b []=pr[b]:=by rw[A4c,hu];rfl
 rw[eu]
 generalize pr[b]=u at hu lu
 have hc:u[a]?=some (u.getD a 0):=by rw[A4c,A3R (by omega)];rfl
 refine A4G fun s=>?_
 unfold tile
 rw[A4e,A5s]
 have lr:(if u.getD a 0=35 then one else other).length=h:=by split;exact C1.hn;exact C2.hn
 split
 case isFalse hs=>rw[A4o (by rw[lr];omega)];rfl
 rename_i hs
 have h1:s<one.length:=by rw[C1.hn];exact hs
 have h2:s<other.length:=by rw[C2.hn];exact hs
 rw[A4Z,Afu C C1 C2 hu (A3R h1) (A3R h2)]
 show some (((u.flatMap fun c=>if c=35 then one[s] else other[s]).drop (a*w)).take w)=_
 have la:=C1.hm _ (A4j h1)
 have lb:=C2.hm _ (A4j h2)
 have fw:=ApG C C1 C2 (u:=u) (A4j h1) (A4j h2)
 have row:((u.flatMap fun c=>if c=35 then one[s] else other[s]).drop (a*w)).take w=if u.getD a 0=35 then one[s] else other[s]:=by
  have lx:(if u.getD a 0=35 then one[s] else other[s]).length=w:=by split;exact la;exact lb
  refine A4G fun k=>?_
  rw[A5s]
  split
  ·rename_i hk
   rw[A4Z,Afv C C1 C2 (A4j h1) (A4j h2) hc hk]
  ·rw[A4o (by omega)]
 rw[row]
 split
 ·rw[A3R h1]
 ·rw[A3R h2]
theorem AfU{k w:Nat}(h:1≤w)(k1:1≤k):cdiv (k*w) w=k:=by
 rw[AtA h (A5L k1 h) (Nat.mul_mod_left k w),Nat.mul_div_cancel _ h]
theorem AvP{pf:List (List Nat)}(F:Pf (fil pr one other) one other (m*w) (n*h) w h pf):pf=if one=other then List.replicate n (List.replicate m 35) else pr:=by
 have w1:=C1.m1
 have h1:=C1.n1
 have e1:cdiv (m*w) w=m:=AfU C C1 C2 w1 C.m1
 have e2:cdiv (n*h) h=n:=AfU C C1 C2 h1 C.n1
 have hn:=F.hn
 have hm:=F.hm
 have hat:=F.at'
 rw[e2] at hn hat
 rw[e1] at hm hat
 refine A4G fun b=>?_
 by_cases hb:b<n
 case neg =>
  rw[A4o (by omega),A4o (by split;rw[A5z];omega;rw[C.hn];omega)]
 have hpb:b<pf.length:=by omega
 have hx:=A3R hpb
 have lx:=hm _ (A4j hpb)
 have ex:pf.getD b []=pf[b]:=by rw[A4c,hx];rfl
 rw[hx]
 have key:∀ a,a<m→pf[b].getD a 0=if one=other then 35 else (pr.getD b []).getD a 0:=fun a ha=>by
  have q:=hat b a hb ha
  rw[ex,Aqr C C1 C2 ha hb] at q
  by_cases c:one=other
  ·rw[if_pos c]
   rw[← c,ite_self] at q
   rcases q with q | q
   ·exact q.1
   ·exact absurd rfl q.2.1
  ·rw[if_neg c]
   have hpp:b<pr.length:=by rw[C.hn];exact hb
   have eu:pr.getD b []=pr[b]:=by rw[A4c,A3R hpp];rfl
   have lu:=C.hm _ (A4j hpp)
   have sg:Sg ((pr.getD b []).getD a 0):=by
    rw[eu]
    refine C.sg _ (A4j hpp) _ ?_
    rw[A4c,A3R (by omega)]
    exact A4j _
   rcases sg with z | z
   ·rw[z,if_pos rfl] at q
    rw[z]
    rcases q with q | q
    ·exact q.1
    ·exact absurd rfl q.2.1
   ·rw[z,if_neg (by decide)] at q
    rw[z]
    rcases q with q | q
    ·exact absurd q.2.symm c
    ·exact q.1
 have fin:∀ v:List Nat,v.length=m→(∀ a,a<m→pf[b].getD a 0=v.getD a 0)→pf[b]=v:=fun v lv hv=>by
  refine List.ext_getElem (by omega) fun a g1 g2=>?_
  have:=hv a (by omega)
  rwa [A4c,A4c,A3R g1,A3R g2] at this
 by_cases c:one=other
 ·rw[if_pos c,A6g,if_pos hb]
  refine congrArg some (fin _ (A5z) fun a ha=>?_)
  rw[key a ha,if_pos c,A4c,A6g,if_pos ha]
  rfl
 ·have hpp:b<pr.length:=by rw[C.hn];exact hb
  have eu:pr.getD b []=pr[b]:=by rw[A4c,A3R hpp];rfl
  rw[if_neg c,A3R hpp]
  refine congrArg some (fin _ (C.hm _ (A4j hpp)) fun a ha=>?_)
  rw[key a ha,if_neg c,eu]
theorem Azj{a b:Nat}(ha:a<cdiv (m*w) w)(hb:b<cdiv (n*h) h):¬Nei (fil pr one other) one other w h a b:=by
 rw[AfU C C1 C2 C1.m1 C.m1] at ha
 rw[AfU C C1 C2 C1.n1 C.n1] at hb
 rintro⟨h1,h2⟩
 rw[Aqr C C1 C2 ha hb] at h1 h2
 split at h1
 ·exact h1 rfl
 ·rename_i c
  rw[if_neg c] at h2
  exact h2 rfl
end
section
variable {P:Program}{w:World}{K:PySem.W.Frag}{mg:Str→Option Value}{base:Heap}{t:Adr}
theorem Aqs{G:Prop}{R:Addr→Hp→Prop}(C:Addr→Hp→Prop)(main:(∀ a H,C a H→R a H)→G)(rest:∀ a H,C a H→R a H):G:=main rest
theorem Azk{tss:List (List Int)}(h:∀ ks∈tss,Sw ks):∀(i:Nat) (u:List Nat) (ks:List Int),(tss.map shI)[i]?=some u→tss[i]?=some ks→Wr u ks:=fun i u ks h1 h2=>by
 rw[A4e,h2] at h1
 cases h1
 exact(h ks (A3Y h2)).w
theorem Axv{a c:List Nat}{bs:List (List Nat)}(ha:a.length≤400)(hc:c.length≤400)(hl:bs.length≤40)(hb:∀ u∈bs,u.length≤400):(drT a bs c).length≤1000000:=by
 have jb:=AjI [44,32] bs hb
 simp only [A3Z,A4z] at jb
 unfold drT
 simp only [jnS,A3T,A3Z,A4z]
 omega
theorem one_mod(z:Int){m:Int}{M:Nat}(hm:m=(M:Int))(h:1≤M):∃ x:Nat,1+z%m=(x:Int)∧1≤x∧x≤M:=by
 subst hm
 have h1:=A4W z (show(M:Int)≠0 by omega)
 have h2:=A5N z (show 0<(M:Int) by omega)
 exact⟨(1+z%(M:Int)).toNat,by omega,by omega,by omega⟩
theorem AvQ{e x:Nat}(e1:1≤e)(h:x≤40 / e):e*x≤40:=A4q (A5r (A3U e) h) (Nat.mul_div_le 40 e)
theorem Aua(n:Nat)(u:List Nat):(List.replicate n [V.str (tx u)]).flatten=vS (List.replicate n u):=by
 induction n with
 | zero=>rfl
 | succ n ih=>rw[A4O,A4n,ih,A4O];rfl
def Aoo (K:PySem.W.Frag):Sp:=fun vs H Q _=>∃(a:Addr) (ns:List Int),vs=[.ref a]∧SqL K H a (vI ns)∧ns.length≤63∧∀ H',Q (.bl true) H'
theorem Aop{K:PySem.W.Frag}{H:Hp}{a:Addr}{ns:List Int}(hl:ns.length≤63)(hS:SqL K H a (ns.map V.int)):Aoo K [.ref a] H (fun v _=>v=.bl true) fun _ _ _=>False:=⟨a,ns,rfl,hS,hl,fun _=>rfl⟩
theorem Azl(T:Txt K mg t):Aq P w K mg base CX0 43 t.Ak5 t.Ax8 ["script"] (Aoo K):=by
 have Amw:Aq P w K mg base CX0 1 t.G3 t.WR _ _:=AkM T
 have Amx:Aq P w K mg base CX0 2 t.G4 t.WT _ _:=AkS T
 have AfV:Aq P w K mg base CX0 42 t.Ho t.Zg _ _:=Amr T
 have Ajs:Aq P w K mg base CX0 4 t.Er t.Rf _ _:=Aia T
 have AjJ:Aq P w K mg base CX0 2 t.U6 t.AnU _ _:=AvE T
 have Abq:Aq P w K mg base CX0 2 t.Ga t.Tr _ _:=Ajr T
 have Jr:Aq P w K mg base CX0 5 t.Dz t.Lh _ _:=Yi T
 have Amy:Aq P w K mg base CX0 7 t.Gz t.WQ _ _:=AkR T
 have GC:Aq P w K mg base CX0 1 t.DN t.Oz _ _:=AfR T
 have Aoq:Aq P w K mg base CX0 5 t.Hl t.Zd _ _:=Amu T
 have AcQ:Aq P w K mg base CX0 4 t.M3 t.AhE _ _:=ArC T
 have RK:Aq P w K mg base CX0 4 t.Hj t.Zb _ _:=Amv T
 have Xd:Aq P w K mg base CX0 6 t.Fl t.Py _ _:=Abo T
 have UL:Aq P w K mg base CX0 1 t.IK t.Abe _ _:=Aon T
 refine T.law.F.ok JQ (fun vs H Q E h=>?_) (fun cdv A outer s H vs Q E hr h=>?_)
 ·obtain⟨a,ns,rfl,_⟩:=h
  rfl
 ·obtain⟨sc,ns,rfl,hS,hl,k⟩:=h
  have hsz:sizeLine=16777216:=sizeLine_eq
  refine⟨_,(Ad (Ax (i:=1) JQ.nd rfl (Or.inl rfl) (Aj (Amw.mono (by decide)) hr rfl T.U9.m T.U9.F.kp T.U9.b .nil Ao (Aa (pv 0) (Aa Ak Ac))))
   (Ad (Ax (i:=2) JQ.nd rfl (Or.inl rfl) (Be Gi Ak (Be IV (Cq (Bm (K:=K)) (pv 1) Ak (fun _ _=>rfl)) Ak)))
   (Ad (Ax (i:=3) JQ.nd rfl (Or.inl rfl) (Be Gi Ak (Be IV (Cq (Bm (K:=K)) (pv 1) Ak (fun _ _=>rfl)) Ak)))
   (Ad (Ax (i:=4) JQ.nd rfl (Or.inl rfl) (Be Gi Ak (Be IV (Be R3 (Cq (Bm (K:=K)) (pv 1) Ak (fun _ _=>rfl)) Ak) (Be R3 Ak (pv 2)))))
   (Ad (Ax (i:=5) JQ.nd rfl (Or.inl rfl) (Be Gi Ak (Be IV (Be R3 (Cq (Bm (K:=K)) (pv 1) Ak (fun _ _=>rfl)) Ak) (Be R3 Ak (pv 3)))))
   (Ad (Ax (i:=6) JQ.nd rfl (Or.inl rfl) (Aj (AjJ.mono (by decide)) hr rfl T.Ye.m T.Ye.F.kp T.Ye.b .nil Ao (Aa (Aj (AfV.mono (by decide)) hr rfl T.Mv.m T.Mv.F.kp T.Mv.b .nil Ao (Aa (Aj (Amx.mono (by decide)) hr rfl T.UG.m T.UG.F.kp T.UG.b .nil Ao (Aa (HW (KN (K:=K)) (pv 1) (Fb Ak) Afi) (Aa (pv 2) (Aa (pv 3) Ac)))) Ac)) Ac)))
   (Ad (Ax (i:=7) JQ.nd rfl (Or.inl rfl) (Aj (Abq.mono (by decide)) hr rfl T.Jb.m T.Jb.F.kp T.Jb.b .nil Ao (Aa (HW (KN (K:=K)) (pv 1) (Fb Ak) Afi) (Aa (pv 4) (Aa (pv 5) Ac)))))
   (Ad (Ax (i:=8) JQ.nd rfl (Or.inl rfl) (Aj (Abq.mono (by decide)) hr rfl T.Jb.m T.Jb.F.kp T.Jb.b .nil Ao (Aa (HW (KN (K:=K)) (pv 1) (Fb (Be Gi (Be Gi Ak (pv 4)) (pv 5))) Afi) (Aa (pv 4) (Aa (pv 5) Ac)))))
   (Ad (Dc (Bc R0 (Be IV (Be R3 (Cq (Bm (K:=K)) (pv 1) Ak (fun _ _=>rfl)) Ak) Ak) Ak (Br _))
    (Ah (Ax (i:=8) JQ.nd rfl (Or.inl rfl) (Hg (Pu (K:=K)) rfl T.Abf U0 (Aa (pv 7) Ac))))
    Bj)
   (Ad (Ax (i:=9) JQ.nd rfl (Or.inl rfl) (Aj (Jr.mono (by decide)) hr rfl T.Cp.m T.Cp.F.kp T.Cp.b .nil Ao (Aa (pv 6) (Aa (pv 7) (Aa (pv 8) Ac)))))
   (Ad (Ax (i:=10) JQ.nd rfl (Or.inl rfl) (Aj (Amy.mono (by decide)) hr rfl T.U8.m T.U8.F.kp T.U8.b .nil Ao (Aa (pv 6) (Aa (pv 7) (Aa (pv 8) Ac)))))
   (Ad (Dc (W9 (M8 (Aj (GC.mono (by decide)) hr rfl T.Bg.m T.Bg.F.kp T.Bg.b .nil Ao (Aa (Aj (AjJ.mono (by decide)) hr rfl T.Ye.m T.Ye.F.kp T.Ye.b .nil Ao (Aa (pv 10) Ac)) (Aa (pv 9) Ac)))))
    (Ah (Bb XM))
    Bj)
   (Ad (Dc (W9 (M8 (Aj (GC.mono (by decide)) hr rfl T.Bg.m T.Bg.F.kp T.Bg.b .nil Ao (Aa (Aj (AjJ.mono (by decide)) hr rfl T.Ye.m T.Ye.F.kp T.Ye.b .nil Ao (Aa (Aj (AfV.mono (by decide)) hr rfl T.Mv.m T.Mv.F.kp T.Mv.b .nil Ao (Aa (Aj (Ajs.mono (by decide)) hr rfl T.PX.m T.PX.F.kp T.PX.b .nil Ao (Aa (pv 10) Ac)) Ac)) Ac)) (Aa (pv 9) Ac)))))
    (Ah (Bb XM))
    Bj)
   (Ad (Ax (i:=11) JQ.nd rfl (Or.inl rfl) (pv 6))
   (Ad (Dc (Bc (AnH (K:=K) (hr.AqL)) (pv 7) (pv 8) (Br _))
    (Ah (Ax (i:=11) JQ.nd rfl (Or.inl rfl) (Be AqP (HS (Aa (Be Aw6 Dm (pv 2)) Ac)) (pv 3))))
    Bj)
   (Ad (Dc (W9 (M8 (Aj (GC.mono (by decide)) hr rfl T.Bg.m T.Bg.F.kp T.Bg.b .nil Ao (Aa (Aj (Aoq.mono (by decide)) hr rfl T.Zi.m T.Zi.F.kp T.Zi.b .nil Ao (Aa (pv 9) (Aa (pv 7) (Aa (pv 8) Ac)))) (Aa (pv 11) Ac)))))
    (Ah (Bb XM))
    Bj)
   (Ad (Ax (i:=12) JQ.nd rfl (Or.inl rfl) (Aj (Jr.mono (by decide)) hr rfl T.Cp.m T.Cp.F.kp T.Cp.b .nil Ao (Aa (Aj (AcQ.mono (by decide)) hr rfl T.Kh.m T.Kh.F.kp T.Kh.b .nil Ao (Aa (pv 6) Ac)) (Aa (Aj (AcQ.mono (by decide)) hr rfl T.Kh.m T.Kh.F.kp T.Kh.b .nil Ao (Aa (pv 8) Ac)) (Aa (Aj (AcQ.mono (by decide)) hr rfl T.Kh.m T.Kh.F.kp T.Kh.b .nil Ao (Aa (pv 7) Ac)) Ac)))))
   (Ad (Dc (W9 (M8 (Aj (GC.mono (by decide)) hr rfl T.Bg.m T.Bg.F.kp T.Bg.b .nil Ao (Aa (Aj (AcQ.mono (by decide)) hr rfl T.Kh.m T.Kh.F.kp T.Kh.b .nil Ao (Aa (pv 9) Ac)) (Aa (pv 12) Ac)))))
    (Ah (Bb XM))
    Bj)
   (Ad (Ax (i:=12) JQ.nd rfl (Or.inl rfl) (Aj (Jr.mono (by decide)) hr rfl T.Cp.m T.Cp.F.kp T.Cp.b .nil Ao (Aa (Aj (RK.mono (by decide)) hr rfl T.EY.m T.EY.F.kp T.EY.b .nil Ao (Aa (pv 6) Ac)) (Aa (Aj (RK.mono (by decide)) hr rfl T.EY.m T.EY.F.kp T.EY.b .nil Ao (Aa (pv 8) Ac)) (Aa (Aj (RK.mono (by decide)) hr rfl T.EY.m T.EY.F.kp T.EY.b .nil Ao (Aa (pv 7) Ac)) Ac)))))
   (Ad (Dc (W9 (M8 (Aj (GC.mono (by decide)) hr rfl T.Bg.m T.Bg.F.kp T.Bg.b .nil Ao (Aa (Aj (RK.mono (by decide)) hr rfl T.EY.m T.EY.F.kp T.EY.b .nil Ao (Aa (pv 9) Ac)) (Aa (pv 12) Ac)))))
    (Ah (Bb XM))
    Bj)
   (Ad (Ax (i:=13) JQ.nd rfl (Or.inl rfl) (Aj (Xd.mono (by decide)) hr rfl T.JT.m T.JT.F.kp T.JT.b .nil Ao (Aa (pv 9) Ac)))
   (Ad (Dc (Bc AaO (Aj (UL.mono (by decide)) hr rfl T.G9.m T.G9.F.kp T.G9.b .nil Ao (Aa (BV (K:=K) (pv 13) rfl) Ac)) (Aj (UL.mono (by decide)) hr rfl T.G9.m T.G9.F.kp T.G9.b .nil Ao (Aa (BV (K:=K) (pv 10) rfl) Ac)) (Br _))
    (Ah (Bb XM))
    Bj)
   (Ad (Dc (Bc AaO (Aj (UL.mono (by decide)) hr rfl T.G9.m T.G9.F.kp T.G9.b .nil Ao (Aa (BV (K:=K) (pv 13) rfl) Ac)) (Aj (UL.mono (by decide)) hr rfl T.G9.m T.G9.F.kp T.G9.b .nil Ao (Aa (BV (K:=K) (pv 10) rfl) Ac)) (Br _))
    (Ah (Bb XM))
    Bj)
   (Ah (Bb (Aj (GC.mono (by decide)) hr rfl T.Bg.m T.Bg.F.kp T.Bg.b .nil Ao (Aa (Aj (AjJ.mono (by decide)) hr rfl T.Ye.m T.Ye.F.kp T.Ye.b .nil Ao (Aa (pv 13) Ac)) (Aa (pv 9) Ac)))))))))))))))))))))))))))),?_⟩
  refine⟨_,rfl,sc,ns,190,rfl,hS,hl,by decide,by decide,fun l ks H1 s1 nl hl1 hkl hkn=>?_⟩
  refine Ij (σ':=[some (.ref sc),some (.ref l),none,none,none,none,none,none,none,none,none,none,none,none]) rfl ?_
  have g:∀ i:Nat,i<190→atI (vI ks) (i:Int)=some (.int (ks.getD i 0)):=fun i hi=>Ed (by omega) (by
   rw[A4m]
   unfold vI
   rw[A4e,A3R (by omega),A4c,A3R (by omega)]
   rfl)
  refine⟨_,rfl,_,_,_,_,rfl,rfl,SqL.of hl1,g 0 (by decide),_,_,rfl,rfl,(by show(0:Int)<8;decide),_,_,rfl,rfl,?_⟩
  obtain⟨en,een,e1,e8⟩:=one_mod (ks.getD 0 0) (m:=8) (M:=8) rfl (by decide)
  refine Ij (σ':=[some (.ref sc),some (.ref l),some (.int (en:Int)),none,none,none,none,none,none,none,none,none,none,none]) (by rw[← een];rfl) ?_
  refine⟨_,rfl,_,_,_,_,rfl,rfl,SqL.of hl1,g 1 (by decide),_,_,rfl,rfl,(by show(0:Int)<8;decide),_,_,rfl,rfl,?_⟩
  obtain⟨pk,epk,p1,p8⟩:=one_mod (ks.getD 1 0) (m:=8) (M:=8) rfl (by decide)
  refine Ij (σ':=[some (.ref sc),some (.ref l),some (.int (en:Int)),some (.int (pk:Int)),none,none,none,none,none,none,none,none,none,none]) (by rw[← epk];rfl) ?_
  have en5:5≤40 / en:=(Nat.le_div_iff_mul_le (by omega)).mpr (by omega)
  have pk5:5≤40 / pk:=(Nat.le_div_iff_mul_le (by omega)).mpr (by omega)
  have de:(40:Int) / (en:Int)=((40 / en:Nat):Int):=rfl
  have dp:(40:Int) / (pk:Int)=((40 / pk:Nat):Int):=rfl
  refine⟨_,rfl,_,_,_,_,rfl,rfl,SqL.of hl1,g 0 (by decide),_,_,rfl,rfl,⟨by decide,by decide⟩,_,rfl,_,_,rfl,rfl,⟨by omega,by omega⟩,_,_,rfl,rfl,(by show(0:Int)<40 / (en:Int);rw[de];omega),_,_,rfl,rfl,?_⟩
  obtain⟨wd,ewd,w1,w40⟩:=one_mod (ks.getD 0 0 / 8) (m:=40 / (en:Int)) (M:=40 / en) de (by omega)
  refine Ij (σ':=[some (.ref sc),some (.ref l),some (.int (en:Int)),some (.int (pk:Int)),some (.int (wd:Int)),none,none,none,none,none,none,none,none,none]) (by rw[← ewd];rfl) ?_
  refine⟨_,rfl,_,_,_,_,rfl,rfl,SqL.of hl1,g 1 (by decide),_,_,rfl,rfl,⟨by decide,by decide⟩,_,rfl,_,_,rfl,rfl,⟨by omega,by omega⟩,_,_,rfl,rfl,(by show(0:Int)<40 / (pk:Int);rw[dp];omega),_,_,rfl,rfl,?_⟩
  obtain⟨hg,ehg,h1,h40⟩:=one_mod (ks.getD 1 0 / 8) (m:=40 / (pk:Int)) (M:=40 / pk) dp (by omega)
  refine Ij (σ':=[some (.ref sc),some (.ref l),some (.int (en:Int)),some (.int (pk:Int)),some (.int (wd:Int)),some (.int (hg:Int)),none,none,none,none,none,none,none,none]) (by rw[← ehg];rfl) ?_
  have fm:=AvQ e1 w40
  have fn:=AvQ p1 h40
  have A0W:wd≤40:=A4q w40 (Nat.div_le_self 40 en)
  have A0X:hg≤40:=A4q h40 (Nat.div_le_self 40 pk)
  clear een epk ewd ehg de dp s1 nl
  refine⟨_,rfl,_,rfl,_,_,rfl,SqL.of hl1,fun q1 nq1=>?_⟩
  rw[cutE ks 2 (a:=2) rfl (by omega)]
  have s2:Am H1 (upd H1 q1 (.lst (vI (ks.drop 2)))):=.upd nq1
  have hq1:(upd H1 q1 (.lst (vI (ks.drop 2)))) q1=some (.lst (vI (ks.drop 2))):=Ae
  generalize upd H1 q1 (.lst (vI (ks.drop 2)))=H2 at s2 hq1 ⊢
  refine⟨_,rfl,_,rfl,q1,ks.drop 2,en,pk,rfl,SqL.of hq1,by rw[A4r];omega,fun z hz=>hkn z (A5w hz),e1,e8,p1,p8,fun u0 us u2 th tss tr H3 s3 W0 ul Ws W2 F thl trl dl=>?_⟩
  refine⟨u0,us,u2,th,tss,tr,rfl,W0,ul,Ws,W2,F,dl,fun d dx a b c qs H4 s4 D=>?_⟩
  refine⟨d,dx,a,b,c,qs,th,tss,tr,rfl,D,F,fun lp H5 s5 nlp hlp=>?_⟩
  refine Ij (σ':=[some (.ref sc),some (.ref l),some (.int (en:Int)),some (.int (pk:Int)),some (.int (wd:Int)),some (.int (hg:Int)),some (.ref lp),none,none,none,none,none,none,none]) rfl ?_
  have C:=A0u F
  rw[thl,trl] at C
  generalize wv th tss tr=pr at hlp C
  have hl5:=(((s2.trans s3).trans s4).trans s5) _ _ hl1
  clear s2 s3 s4 s5 hq1 nq1 W0 ul Ws W2 F thl trl dl D nlp
  refine⟨_,rfl,_,rfl,_,_,rfl,SqL.of hl5,fun q2 nq2=>?_⟩
  rw[cutE ks 27 (a:=27) rfl (by omega)]
  have s6:Am H5 (upd H5 q2 (.lst (vI (ks.drop 27)))):=.upd nq2
  have hq2:(upd H5 q2 (.lst (vI (ks.drop 27)))) q2=some (.lst (vI (ks.drop 27))):=Ae
  generalize upd H5 q2 (.lst (vI (ks.drop 27)))=H6 at s6 hq2 ⊢
  refine⟨_,rfl,_,rfl,q2,ks.drop 27,wd,hg,rfl,SqL.of hq2,by rw[A4r];omega,by rw[A4r];omega,fun z hz=>hkn z (A5w hz),w1,A0W,h1,A0X,fun l1 one H7 s7 A0Y C1=>?_⟩
  refine Ij (σ':=[some (.ref sc),some (.ref l),some (.int (en:Int)),some (.int (pk:Int)),some (.int (wd:Int)),some (.int (hg:Int)),some (.ref lp),some (.ref l1),none,none,none,none,none,none]) rfl ?_
  have u7:=s6.trans s7
  have hl7:=u7 _ _ hl5
  have A0Z:=u7 _ _ hlp
  refine⟨_,rfl,_,rfl,_,_,rfl,rfl,_,rfl,_,_,rfl,rfl,_,rfl,_,_,rfl,SqL.of hl7,fun q3 nq3=>?_⟩
  rw[cutE ks (27+wd+hg) (a:=27+(wd:Int)+(hg:Int)) (by omega) (by omega)]
  have s8:Am H7 (upd H7 q3 (.lst (vI (ks.drop (27+wd+hg))))):=.upd nq3
  have hq3:(upd H7 q3 (.lst (vI (ks.drop (27+wd+hg))))) q3=some (.lst (vI (ks.drop (27+wd+hg)))):=Ae
  generalize upd H7 q3 (.lst (vI (ks.drop (27+wd+hg))))=H8 at s8 hq3 ⊢
  refine⟨_,rfl,_,rfl,q3,ks.drop (27+wd+hg),wd,hg,rfl,SqL.of hq3,by rw[A4r];omega,by rw[A4r];omega,fun z hz=>hkn z (A5w hz),w1,A0W,h1,A0X,fun l2 ot H9 s9 A1a Co=>?_⟩
  refine Ij (σ':=[some (.ref sc),some (.ref l),some (.int (en:Int)),some (.int (pk:Int)),some (.int (wd:Int)),some (.int (hg:Int)),some (.ref lp),some (.ref l1),some (.ref l2),none,none,none,none,none]) rfl ?_
  have u9:=s8.trans s9
  have hl9:=u9 _ _ hl7
  have A1b:=u9 _ _ A0Z
  have Azm:=u9 _ _ A0Y
  apply Aqs (fun l2 H'=>Am H9 H'∧∃ other,H' l2=some (.lst (vS other))∧Cl other wd hg)
  ·intro rest
   refine⟨_,rfl,_,_,_,_,rfl,rfl,SqL.of hl9,g 2 (by decide),_,_,rfl,rfl,⟨by decide,by decide⟩,_,_,rfl,rfl,(by show(0:Int)<4;decide),rfl,_,rfl,?_⟩
   refine Mz ?tt ?ff
   case tt =>
    intro _
    refine⟨_,rfl,_,_,rfl,.inl (SqL.of Azm),fun l3 nl3=>?_⟩
    have s10:Am H9 (upd H9 l3 (.lst (vS one))):=.upd nl3
    have hl3:(upd H9 l3 (.lst (vS one))) l3=some (.lst (vS one)):=Ae
    generalize upd H9 l3 (.lst (vS one))=H10 at s10 hl3 ⊢
    refine Ij (σ':=[some (.ref sc),some (.ref l),some (.int (en:Int)),some (.int (pk:Int)),some (.int (wd:Int)),some (.int (hg:Int)),some (.ref lp),some (.ref l1),some (.ref l3),none,none,none,none,none]) rfl ?_
    exact rest l3 H10 ⟨s10,one,hl3,C1⟩
   case ff=>exact fun _=>rest l2 H9 ⟨.refl _,ot,A1a,Co⟩
  clear A1a Co
  rintro l2 H10 ⟨s10,other,hl2,C2⟩
  have AsI:=s10 _ _ A1b
  have AsJ:=s10 _ _ Azm
  clear s6 s7 s8 s9 s10 u7 u9 hq2 hq3 hl5 hl7 hl9 hl1 hlp A0Z A1b A0Y Azm
  refine⟨_,rfl,_,rfl,_,rfl,lp,l1,l2,pr,one,other,en,pk,wd,hg,rfl,SqL.of AsI,SqL.of AsJ,SqL.of hl2,C,C1,C2,fm,fn,fun lc H11 s11 nlc hlc=>?_⟩
  refine Ij (σ':=[some (.ref sc),some (.ref l),some (.int (en:Int)),some (.int (pk:Int)),some (.int (wd:Int)),some (.int (hg:Int)),some (.ref lp),some (.ref l1),some (.ref l2),some (.ref lc),none,none,none,none]) rfl ?_
  have FC:=Art C C1 C2 fm fn
  have Azn:(fil pr one other).length≤40:=by rw[FC.hn];exact fn
  refine⟨_,rfl,_,rfl,_,rfl,lp,l1,l2,pr,one,other,en,pk,wd,hg,rfl,SqL.of (s11 _ _ AsI),SqL.of (s11 _ _ AsJ),SqL.of (s11 _ _ hl2),C,C1,C2,fm,fn,fun d2 dx2 a2 b2 c2 qs2 Aqt H12 s12 D2 B F2=>?_⟩
  refine Ij (σ':=[some (.ref sc),some (.ref l),some (.int (en:Int)),some (.int (pk:Int)),some (.int (wd:Int)),some (.int (hg:Int)),some (.ref lp),some (.ref l1),some (.ref l2),some (.ref lc),some (.ref d2),none,none,none]) rfl ?_
  have wl:wv (nts (thN pr one other en wd)) Aqt (nts (trN pr one other))=fil pr one other:=weave C C1 C2 fm fn B.l fun t ks h=>by
   obtain⟨_,p,r,g1,g2,g3⟩:=B.r t ks h
   exact⟨p,r,g1,g2,g3⟩
  have u12:=s11.trans s12
  have AsK:=s12 _ _ hlc
  refine⟨_,rfl,d2,dx2,a2,b2,c2,qs2,_,Aqt,_,rfl,D2,F2,fun x1 H13 s13 nx1 hx1=>?_⟩
  rw[wl] at hx1
  refine⟨_,rfl,x1,lc,fil pr one other,rfl,hx1,SqL.of (s13 _ _ AsK),Azn,_,rfl,?_⟩
  refine QS ?_
  have D13:=D2.same s13
  refine⟨_,rfl,d2,dx2,a2,b2,c2,qs2,_,Aqt,_,rfl,D13,F2,fun H14 s14 S1 sw S2=>?_⟩
  have swl:∀ u∈Aqt.map shI,u.length≤400:=fun u hu=>by
   obtain⟨ks',hk,rfl⟩:=List.mem_map.mp hu
   have:=(sw ks' hk).l
   omega
  have l1':=S1.l
  have l2':=S2.l
  have f40:=F2.t40
  have dl2:=Axv (a:=shI (nts (thN pr one other en wd))) (c:=shI (nts (trN pr one other))) (bs:=Aqt.map shI) (by omega) (by omega) (by rw[A3S];exact f40) swl
  refine⟨_,Aqt.map shI,_,_,Aqt,_,rfl,S1.w,A3S _,Azk sw,S2.w,F2,dl2,fun d3 dx3 a3 b3 c3 qs3 H15 s15 D3=>?_⟩
  refine⟨d3,dx3,a3,b3,c3,qs3,_,Aqt,_,rfl,D3,F2,fun x2 H16 s16 nx2 hx2=>?_⟩
  rw[wl] at hx2
  have Aqu:=((s13.trans s14).trans s15).trans s16
  refine⟨_,rfl,x2,lc,fil pr one other,rfl,hx2,SqL.of (Aqu _ _ AsK),Azn,_,rfl,?_⟩
  refine QS ?_
  have u16:=u12.trans Aqu
  have AxF:=u16 _ _ AsI
  have AvR:=u16 _ _ AsJ
  have AvS:=u16 _ _ hl2
  have AxG:=Aqu _ _ AsK
  have D16:=D2.same Aqu
  clear s11 s12 s13 s14 s15 s16 u12 Aqu u16 hx1 hx2 hlc AsK AsI AsJ hl2 D13 D3 D2 S1 S2 sw swl dl2 l1' l2'
  refine⟨_,rfl,?_⟩
  refine Ij (σ':=[some (.ref sc),some (.ref l),some (.int (en:Int)),some (.int (pk:Int)),some (.int (wd:Int)),some (.int (hg:Int)),some (.ref lp),some (.ref l1),some (.ref l2),some (.ref lc),some (.ref d2),some (.ref lp),none,none]) rfl ?_
  apply Aqs (fun lu H'=>Am H16 H'∧H' lu=some (.lst (vS (if one=other then List.replicate pk (List.replicate en 35) else pr))))
  ·intro rest
   refine⟨_,rfl,_,rfl,_,_,_,_,rfl,rfl,SqL.of AvR,SqL.of AvS,YW _,YW _,_,rfl,?_⟩
   rw[ArB]
   refine Mz ?ta ?fa
   case ta =>
    intro ce
    have A2z:(("#" : Str))=tx [35]:=by decide +kernel
    refine⟨_,rfl,[35],(en:Int),congrArg V.str A2z,rfl,by omega,by omega,(by rw[A4m];show 1*en≤sizeLine;omega),(by show 1≤sizeLine;decide),fun x3 nx3=>?_⟩
    rw[A4m,show(List.replicate en [35]).flatten=List.replicate en 35 from by rw[List.flatten_replicate_singleton]]
    have s17:Am H16 (upd H16 x3 (.lst [V.str (tx (List.replicate en 35))])):=.upd nx3
    have hx3:(upd H16 x3 (.lst [V.str (tx (List.replicate en 35))])) x3=some (.lst [V.str (tx (List.replicate en 35))]):=Ae
    generalize upd H16 x3 (.lst [V.str (tx (List.replicate en 35))])=H17 at s17 hx3 ⊢
    refine⟨_,rfl,x3,(pk:Int),_,rfl,rfl,hx3,by omega,by omega,(by rw[A4m];show 1*pk≤sizeLine;omega),fun x4 nx4=>?_⟩
    rw[A4m,Aua]
    have s18:Am H17 (upd H17 x4 (.lst (vS (List.replicate pk (List.replicate en 35))))):=.upd nx4
    have hx4:(upd H17 x4 (.lst (vS (List.replicate pk (List.replicate en 35))))) x4=some (.lst (vS (List.replicate pk (List.replicate en 35)))):=Ae
    generalize upd H17 x4 (.lst (vS (List.replicate pk (List.replicate en 35))))=H18 at s18 hx4 ⊢
    refine Ij (σ':=[some (.ref sc),some (.ref l),some (.int (en:Int)),some (.int (pk:Int)),some (.int (wd:Int)),some (.int (hg:Int)),some (.ref lp),some (.ref l1),some (.ref l2),some (.ref lc),some (.ref d2),some (.ref x4),none,none]) rfl ?_
    exact rest x4 H18 ⟨s17.trans s18,by rw[if_pos ce];exact hx4⟩
   case fa=>exact fun ce=>rest lp H16 ⟨.refl _,by rw[if_neg ce];exact AxF⟩
  rintro lu H17 ⟨s17,hlu⟩
  have A1c:=s17 _ _ AxG
  have A1d:=s17 _ _ AvR
  have A1e:=s17 _ _ AvS
  have dul:(if one=other then List.replicate pk (List.replicate en 35) else pr).length≤40:=by
   split
   ·rw[A5z];omega
   ·rw[C.hn];omega
  refine⟨_,rfl,_,rfl,_,rfl,lc,l1,l2,fil pr one other,one,other,en*wd,pk*hg,wd,hg,rfl,SqL.of A1c,SqL.of A1d,SqL.of A1e,FC,C1,C2,fun v H18 s18 hv=>?_⟩
  rcases hv with ⟨rfl,x,y,hx,hy,N⟩ | ⟨lf,pf,rfl,hlf,PF⟩
  ·exact absurd N (Azj C C1 C2 hx hy)
  rw[AvP C C1 C2 PF] at hlf
  refine⟨_,rfl,lf,lu,_,rfl,hlf,SqL.of (s18 _ _ hlu),dul,_,rfl,?_⟩
  refine QS ?_
  have u18:=s17.trans s18
  have AxH:=u18 _ _ AxF
  have AxI:=u18 _ _ AvR
  have AxJ:=u18 _ _ AvS
  have AxK:=u18 _ _ AxG
  refine⟨_,rfl,lp,pr,en,pk,rfl,SqL.of AxH,C,fun y1 H19 s19 _ hy1=>?_⟩
  refine⟨_,rfl,l2,other,wd,hg,rfl,SqL.of (s19 _ _ AxJ),C2,fun y2 H20 s20 _ hy2=>?_⟩
  have u20:=s19.trans s20
  refine⟨_,rfl,l1,one,wd,hg,rfl,SqL.of (u20 _ _ AxI),C1,fun y3 H21 s21 _ hy3=>?_⟩
  have u21:=u20.trans s21
  refine⟨y1,y2,y3,back pr,back other,back one,en,pk,wd,hg,rfl,SqL.of ((s20.trans s21) _ _ hy1),SqL.of (s21 _ _ hy2),SqL.of hy3,C.back,C2.back,C1.back,fm,fn,fun lt H22 s22 nlt hlt=>?_⟩
  refine Ij (σ':=[some (.ref sc),some (.ref l),some (.int (en:Int)),some (.int (pk:Int)),some (.int (wd:Int)),some (.int (hg:Int)),some (.ref lp),some (.ref l1),some (.ref l2),some (.ref lc),some (.ref d2),some (.ref lu),some (.ref lt),none]) rfl ?_
  rw[← AvO C C1 C2] at hlt
  have u22:=u21.trans s22
  refine⟨_,rfl,lc,fil pr one other,en*wd,pk*hg,rfl,SqL.of (u22 _ _ AxK),FC,fun y4 H23 s23 _ hy4=>?_⟩
  refine⟨_,rfl,y4,lt,_,rfl,hy4,SqL.of (s23 _ _ hlt),(by rw[FC.back.hn];exact fn),_,rfl,?_⟩
  refine QS ?_
  have u23:=u22.trans s23
  have A1f:=u23 _ _ AxH
  have A1g:=u23 _ _ AxI
  have A1h:=u23 _ _ AxJ
  have AxL:=u23 _ _ AxK
  refine⟨_,rfl,lp,pr,en,pk,rfl,SqL.of A1f,C,fun z1 H24 s24 _ hz1=>?_⟩
  refine⟨_,rfl,l2,other,wd,hg,rfl,SqL.of (s24 _ _ A1h),C2,fun z2 H25 s25 _ hz2=>?_⟩
  have u25:=s24.trans s25
  refine⟨_,rfl,l1,one,wd,hg,rfl,SqL.of (u25 _ _ A1g),C1,fun z3 H26 s26 _ hz3=>?_⟩
  have u26:=u25.trans s26
  refine⟨z1,z2,z3,Jx pr en,Jx other wd,Jx one wd,pk,en,hg,wd,rfl,SqL.of ((s25.trans s26) _ _ hz1),SqL.of (s26 _ _ hz2),SqL.of hz3,C.Jx,C2.Jx,C1.Jx,fn,fm,fun lt2 H27 s27 A3Q hlt2=>?_⟩
  refine Ij (σ':=[some (.ref sc),some (.ref l),some (.int (en:Int)),some (.int (pk:Int)),some (.int (wd:Int)),some (.int (hg:Int)),some (.ref lp),some (.ref l1),some (.ref l2),some (.ref lc),some (.ref d2),some (.ref lu),some (.ref lt2),none]) rfl ?_
  rw[← AtZ C C1 C2] at hlt2
  have u27:=u26.trans s27
  refine⟨_,rfl,lc,fil pr one other,en*wd,pk*hg,rfl,SqL.of (u27 _ _ AxL),FC,fun z4 H28 s28 _ hz4=>?_⟩
  refine⟨_,rfl,z4,lt2,_,rfl,hz4,SqL.of (s28 _ _ hlt2),(by rw[FC.Jx.hn];exact fm),_,rfl,?_⟩
  refine QS ?_
  have u28:=u27.trans s28
  have AxM:=u28 _ _ AxL
  have D28:=((D16.same u18).same u23).same u28
  refine⟨_,rfl,lc,fil pr one other,en*wd,pk*hg,rfl,SqL.of AxM,FC,fun d4 dx4 a4 b4 c4 qs4 A2G H29 s29 _ L4 F4 D4=>?_⟩
  refine Ij (σ':=[some (.ref sc),some (.ref l),some (.int (en:Int)),some (.int (pk:Int)),some (.int (wd:Int)),some (.int (hg:Int)),some (.ref lp),some (.ref l1),some (.ref l2),some (.ref lc),some (.ref d2),some (.ref lu),some (.ref lt2),some (.ref d4)]) rfl ?_
  have wl4:=ApJ FC L4.l fun j u ks h1 h2=>(L4.r j u ks h1 h2).2
  have kt:=AvM C C1 C2
  have kr:=AvN C C1 C2
  have q1:=AsG (cols (fil pr one other) (en*wd))
  have q2':=AsG (fil pr one other)
  have q3':=AsH (thN pr one other en wd)
  have q4:=AsH (trN pr one other)
  have D29:=D28.same s29
  refine⟨_,rfl,_,_,_,_,_,rfl,D4.o,T.Hf.c,T.Bx,Aql a4 b4 c4,a4,_,rfl,SqL.of D4.ha,F4.m40,fun H30 s30=>?_⟩
  have D30:=D29.same s30
  refine⟨_,rfl,_,_,_,_,_,rfl,D30.o,T.Hf.c,T.Bx,Aql a2 b2 c2,a2,_,rfl,SqL.of D30.ha,F2.m40,fun H31 s31=>?_⟩
  refine⟨_,_,rfl,rfl,_,rfl,?_⟩
  refine Io (by omega) ?_
  have E31:=(D4.same s30).same s31
  have D31:=D30.same s31
  refine⟨_,rfl,_,_,_,_,_,rfl,E31.o,T.Hf.c,T.BR,Aqm a4 b4 c4,c4,_,rfl,SqL.of E31.hc,F4.n40,fun H32 s32=>?_⟩
  have D32:=D31.same s32
  refine⟨_,rfl,_,_,_,_,_,rfl,D32.o,T.Hf.c,T.BR,Aqm a2 b2 c2,c2,_,rfl,SqL.of D32.hc,F2.n40,fun H33 s33=>?_⟩
  refine⟨_,_,rfl,rfl,_,rfl,?_⟩
  refine Io (by omega) ?_
  have E33:=(E31.same s32).same s33
  refine⟨_,rfl,d4,dx4,a4,b4,c4,qs4,_,A2G,_,rfl,E33,F4,fun x9 H34 s34 nx9 hx9=>?_⟩
  rw[wl4] at hx9
  have u34:=((((s29.trans s30).trans s31).trans s32).trans s33).trans s34
  exact⟨_,rfl,x9,lc,fil pr one other,rfl,hx9,SqL.of (u34 _ _ AxM),Azn,k _⟩
end
theorem Azo{P:Program}{w:World}{K:PySem.W.Frag}{h:Heap}{mg:Str→Option Value}{fa:Addr}{Ew:Addr}{Aqv AiP:Option Addr}{Aqw:Array (Option Value)}{Aqx AiQ AiR AiS Abr AiT:Value}
    {M3:Addr}{ArF AkT:Option Addr}{ArG:Array (Option Value)}{ArH AkU AkV AkW Aev AkX:Value}
    {Hj:Addr}{Amz Ads:Option Addr}{Am0:Array (Option Value)}{Am1 Adt Adu Adv Xe Adw:Value}
    {DG:Addr}{AfW UT:Option Addr}{AfX:Array (Option Value)}{AfY UW Va Vb Nt Vc:Value}
    {Hk:Addr}{Am2 Adx:Option Addr}{Am3:Array (Option Value)}{Am4 Ady Adz Ad0 Xf Ad1:Value}
    {Gy:Addr}{Aor AfZ:Option Addr}{Aos:Array (Option Value)}{Aot Aga Agb Agc Zw Agd:Value}
    {Em:Addr}{Ajt Aar:Option Addr}{Aju:Array (Option Value)}{Ajv Aas Aat Aau Rh Aav:Value}
    {U6:Addr}{AvT Aqy:Option Addr}{AvU:Array (Option Value)}{AvV Aqz Aq0 Aq1 AkY Aq2:Value}
    {Fl:Addr}{AkZ Abs:Option Addr}{Ala:Array (Option Value)}{Alb Abt Abu Abv T3 Abw:Value}
    {Eo:Addr}{Aic Yj:Option Addr}{Aid:Array (Option Value)}{Aie Yk Yl Ym O6 Yn:Value}
    {Fo:Addr}{Alc Abx:Option Addr}{Ald:Array (Option Value)}{Ale Aby Abz Ab0 T4 Ab1:Value}
    {Fp:Addr}{Alf Ab2:Option Addr}{Alh:Array (Option Value)}{Ali Ab3 Ab4 Ab5 T5 Ab6:Value}
    {Ip:Addr}{Aou Age:Option Addr}{Aov:Array (Option Value)}{Aow Agf Agg Agh Zx Agi:Value}
    {DK:Addr}{Agj Vd:Option Addr}{Agk:Array (Option Value)}{Agl Ve Vf Vg Nu Vh:Value}
    {Ir:Addr}{Aox Agm:Option Addr}{Aoy:Array (Option Value)}{Aoz Agn Ago Agp Zy Agq:Value}
    {Fq:Addr}{Alj Ab7:Option Addr}{Alk:Array (Option Value)}{Alm Ab8 Ab9 AbA T6 AbB:Value}
    {La:Addr}{Aub Ans:Option Addr}{Auc:Array (Option Value)}{Aud Ant Anu Anv Aif Anw:Value}
    {Dz:Addr}{Aig Yo:Option Addr}{Aih:Array (Option Value)}{Aii Yp Yq Yr O7 Ys:Value}
    {Gz:Addr}{Aln AbC:Option Addr}{Alo:Array (Option Value)}{Alp AbD AbE AbF T7 AbG:Value}
    {Hl:Addr}{Am5 Ad2:Option Addr}{Am6:Array (Option Value)}{Am7 Ad3 Ad4 Ad5 Xg Ad6:Value}
    {Hm:Addr}{Ao0 Agr:Option Addr}{Ao1:Array (Option Value)}{Ao2 Ags Agt Agu Zz Agv:Value}
    {Iu:Addr}{Ao3 Agw:Option Addr}{Ao4:Array (Option Value)}{Ao5 Agx Agy Agz Z0 Ag0:Value}
    {Hn:Addr}{Am8 Ad7:Option Addr}{Am9:Array (Option Value)}{AmA Ad8 Ad9 AdA Xh AdB:Value}
    {Iv:Addr}{Ao6 Ag1:Option Addr}{Ao7:Array (Option Value)}{Ao8 Ag2 Ag3 Ag4 Z1 Ag5:Value}
    {IW:Addr}{Aq3 AiU:Option Addr}{Aq4:Array (Option Value)}{Aq5 AiV AiW AiX AbH AiY:Value}
    {PJ:Addr}{AvW Aq6:Option Addr}{AvX:Array (Option Value)}{AvY Aq7 Aq8 Aq9 Alq AqA:Value}
    {Fv:Addr}{AmB AdC:Option Addr}{AmC:Array (Option Value)}{AmD AdD AdE AdF Xi AdG:Value}
    {Eb:Addr}{Alr AbI:Option Addr}{Als:Array (Option Value)}{Alu AbJ AbK AbL T8 AbM:Value}
    {Ep:Addr}{Aij Yt:Option Addr}{Aik:Array (Option Value)}{Ail Yu Yv Yw O8 Yx:Value}
    {JS:Addr}{AqB AiZ:Option Addr}{AqC:Array (Option Value)}{AqD Aja Ajb Ajc AbN Ajd:Value}
    {Fw:Addr}{AmE AdH:Option Addr}{AmF:Array (Option Value)}{AmG AdI AdJ AdK Xj AdL:Value}
    {Iw:Addr}{Ao9 Ag6:Option Addr}{AoA:Array (Option Value)}{AoB Ag7 Ag8 Ag9 Z2 AgA:Value}
    {Gm:Addr}{AmH AdM:Option Addr}{AmI:Array (Option Value)}{AmJ AdN AdO AdP Xk AdQ:Value}
    {Iz:Addr}{AoC AgB:Option Addr}{AoD:Array (Option Value)}{AoE AgC AgD AgE Z3 AgF:Value}
    {Fy:Addr}{Alv AbO:Option Addr}{Alw:Array (Option Value)}{Alx AbP AbQ AbR T9 AbS:Value}
    {QF:Addr}{Aue Anx:Option Addr}{Auf:Array (Option Value)}{Auh Anz An0 An1 Aim An2:Value}
    {FZ:Addr}{Ajw Aaw:Option Addr}{Ajx:Array (Option Value)}{Ajy Aax Aay Aaz Ri Aa0:Value}
    {M4:Addr}{ArI Aly:Option Addr}{ArJ:Array (Option Value)}{ArK Alz Al0 Al1 Aew Al2:Value}
    {Er:Addr}{Ain Yy:Option Addr}{Aio:Array (Option Value)}{Aip Yz Y0 Y4 O9 Y5:Value}
    {Ho:Addr}{AmK AdR:Option Addr}{AmL:Array (Option Value)}{AmM AdS AdT AdU Xl AdV:Value}
    {G3:Addr}{Al3 AbT:Option Addr}{Al4:Array (Option Value)}{Al5 AbU AbV AbW TF AbX:Value}
    {Gn:Addr}{AmN AdW:Option Addr}{AmO:Array (Option Value)}{AmP AdX AdY AdZ Xm Aea:Value}
    {Ga:Addr}{Ajz Aa1:Option Addr}{Aj0:Array (Option Value)}{Aj1 Aa2 Aa3 Aa4 Rj Aa5:Value}
    {DN:Addr}{AgG Vi:Option Addr}{AgH:Array (Option Value)}{AgI Vj Vk Vl Nv Vm:Value}
    {M5:Addr}{ArL Al6:Option Addr}{ArM:Array (Option Value)}{ArN Al7 Al8 Al9 Aex AlA:Value}
    {G4:Addr}{AlB AbY:Option Addr}{AlC:Array (Option Value)}{AlD AbZ Aca Acb TJ Acd:Value}
    {IK:Addr}{AoF AgJ:Option Addr}{AoG:Array (Option Value)}{AoH AgK AgL AgM Z4 AgN:Value}
    {Ak5:Addr}{Azp AvZ:Option Addr}{Azq:Array (Option Value)}{Azr Awa Awb Awc ArO Awd:Value}
    {AlE:Tok}
    {AmQ:Tok}
    {Aui:Tok}
    {AlF:Tok}
    {AqE:Tok}
    {Aj2:Tok}
    {AlG:Tok}
    {Al:Addr}
    {Bp:Addr}
    {Ar:Addr}
    {Ay:Addr}
    {Az:Addr}
    {Ba:Addr}
    {Dl:Addr}{Ace QH:Option Addr}{Acf:Array (Option Value)}{Acg QJ QK QL Kd QM:Value}
    {GR:Addr}{Aj3 Aa6:Option Addr}{Aj4:Array (Option Value)}{Aj5 Aa7 Aa8 Aa9 Rk AaA:Value}
    {En:Addr}{Aey TQ:Option Addr}{Aez:Array (Option Value)}{Ae0 TV TX TY Mx Ua:Value}
    {Ex:Addr}{AgO Vn:Option Addr}{AgP:Array (Option Value)}{AgQ Vo Vp Vq Nx Vr:Value}
    {Ey:Addr}{AgR Vs:Option Addr}{AgS:Array (Option Value)}{AgT Vt Vu Vv Ny Vw:Value}
    {Ez:Addr}{AgU Vx:Option Addr}{AgV:Array (Option Value)}{AgW Vy Vz V0 Nz V1:Value}
    {Cv:Addr}
    {An:Addr}
    {Eu:Addr}
    {Bv:Addr}
    {Bu:Addr}{AgX V3:Option Addr}{AgY:Array (Option Value)}{AgZ V4 V5 V6 N5 V7:Value}
    {BP:Addr}{Ae1 Ub:Option Addr}{Ae2:Array (Option Value)}{Ae3 Uc Ud Ue My Ug:Value}
    {Dv:Addr}{Aj6 AaB:Option Addr}{Aj7:Array (Option Value)}{Aj8 AaC AaD AaE Rm AaF:Value}
    {CV:Addr}{AlH Ach:Option Addr}{AlI:Array (Option Value)}{AlJ Aci Acj Ack Uh Acl:Value}
    {Dj:Addr}{Aha V8:Option Addr}{Ahb:Array (Option Value)}{Ahc V9 VB VD N7 VF:Value}
    {Dy:Addr}{Aiq Y6:Option Addr}{Air:Array (Option Value)}{Ais Y7 Y8 Y9 OD YB:Value}
    {CW:Addr}{Ait YC:Option Addr}{Aiu:Array (Option Value)}{Aiv YD YF YG OJ YH:Value}
    {Hi:Addr}{AoI Ahd:Option Addr}{AoJ:Array (Option Value)}{AoK Ahe Ahf Ahg Z6 Ahh:Value}
    {El:Addr}{Aj9 AaG:Option Addr}{AjA:Array (Option Value)}{AjB AaH AaI AaJ Ro AaK:Value}
    {Cm:Addr}{Ahi VG:Option Addr}{Ahj:Array (Option Value)}{Ahk VH VJ VL N8 VM:Value}
    {Fj:Addr}{AmR Aeb:Option Addr}{AmS:Array (Option Value)}{AmT Aec Aed Aee Xn Aef:Value}
    {CZ:Addr}{Aiw YJ:Option Addr}{Aix:Array (Option Value)}{Aiy YK YL YM Pa YQ:Value}
    (X:K.In h) (G:h.Ns mainGlobals mg) (hfa:mg "law" = some (.ref fa))
    (Ae4:PySem.W.nsIn K mainGlobals "measured" = some (some (.ref Ew)))
    (Z7:K.lookup Ew=some ⟨Aqx,Aqv,.func (PySem.W.fnOf "measured" "measured" (Ag Hz) (Af Hz) (Ab Hz) .none AiQ AiR AiS AiP Abr AiT),Aqw⟩)
    (Z8:PySem.W.codeIn K Abr "measured" = true)
    (Z9:PySem.W.keepIn K (.ref Ew)=true)
    (Aiz:PySem.W.nsIn K mainGlobals "back_of" = some (some (.ref M3)))
    (AcR:K.lookup M3=some ⟨ArH,ArF,.func (PySem.W.fnOf "back_of" "back_of" (Ag Ie) (Af Ie) (Ab Ie) .none AkU AkV AkW AkT Aev AkX),ArG⟩)
    (AcS:PySem.W.codeIn K Aev "back_of" = true)
    (AcT:PySem.W.keepIn K (.ref M3)=true)
    (ZC:PySem.W.nsIn K mainGlobals "quarter_of" = some (some (.ref Hj)))
    (RL:K.lookup Hj=some ⟨Am1,Amz,.func (PySem.W.fnOf "quarter_of" "quarter_of" (Ag Ef) (Af Ef) (Ab Ef) .none Adt Adu Adv Ads Xe Adw),Am0⟩)
    (RM:PySem.W.codeIn K Xe "quarter_of" = true)
    (RN:PySem.W.keepIn K (.ref Hj)=true)
    (Pb:PySem.W.nsIn K mainGlobals "measured_texts" = some (some (.ref DG)))
    (Kr:K.lookup DG=some ⟨AfY,AfW,.func (PySem.W.fnOf "measured_texts" "measured_texts" (Ag Cd) (Af Cd) (Ab Cd) .none UW Va Vb UT Nt Vc),AfX⟩)
    (Ks:PySem.W.codeIn K Nt "measured_texts" = true)
    (Ku:PySem.W.keepIn K (.ref DG)=true)
    (ZD:PySem.W.nsIn K mainGlobals "check_pick" = some (some (.ref Hk)))
    (RP:K.lookup Hk=some ⟨Am4,Am2,.func (PySem.W.fnOf "check_pick" "check_pick" (Ag Fd) (Af Fd) (Ab Fd) .none Ady Adz Ad0 Adx Xf Ad1),Am3⟩)
    (RQ:PySem.W.codeIn K Xf "check_pick" = true)
    (RT:PySem.W.keepIn K (.ref Hk)=true)
    (Acm:PySem.W.nsIn K mainGlobals "end_signs" = some (some (.ref Gy)))
    (VN:K.lookup Gy=some ⟨Aot,Aor,.func (PySem.W.fnOf "end_signs" "end_signs" (Ag FP) (Af FP) (Ab FP) .none Aga Agb Agc AfZ Zw Agd),Aos⟩)
    (VP:PySem.W.codeIn K Zw "end_signs" = true)
    (VR:PySem.W.keepIn K (.ref Gy)=true)
    (Ui:PySem.W.nsIn K mainGlobals "turned_signs" = some (some (.ref Em)))
    (NB:K.lookup Em=some ⟨Ajv,Ajt,.func (PySem.W.fnOf "turned_signs" "turned_signs" (Ag Cw) (Af Cw) (Ab Cw) .none Aas Aat Aau Aar Rh Aav),Aju⟩)
    (NK:PySem.W.codeIn K Rh "turned_signs" = true)
    (NP:PySem.W.keepIn K (.ref Em)=true)
    (AoL:PySem.W.nsIn K mainGlobals "woven" = some (some (.ref U6)))
    (AjK:K.lookup U6=some ⟨AvV,AvT,.func (PySem.W.fnOf "woven" "woven" (Ag MT) (Af MT) (Ab MT) .none Aqz Aq0 Aq1 Aqy AkY Aq2),AvU⟩)
    (AjL:PySem.W.codeIn K AkY "woven" = true)
    (AjM:PySem.W.keepIn K (.ref U6)=true)
    (Xo:PySem.W.nsIn K mainGlobals "least_draft" = some (some (.ref Fl)))
    (Qe:K.lookup Fl=some ⟨Alb,AkZ,.func (PySem.W.fnOf "least_draft" "least_draft" (Ag BK) (Af BK) (Ab BK) .none Abt Abu Abv Abs T3 Abw),Ala⟩)
    (Qf:PySem.W.codeIn K T3 "least_draft" = true)
    (Qg:PySem.W.keepIn K (.ref Fl)=true)
    (Rp:PySem.W.nsIn K mainGlobals "check_setting" = some (some (.ref Eo)))
    (Lw:K.lookup Eo=some ⟨Aie,Aic,.func (PySem.W.fnOf "check_setting" "check_setting" (Ag CG) (Af CG) (Ab CG) .none Yk Yl Ym Yj O6 Yn),Aid⟩)
    (Lx:PySem.W.codeIn K O6 "check_setting" = true)
    (Lz:PySem.W.keepIn K (.ref Eo)=true)
    (Xp:PySem.W.nsIn K mainGlobals "check_count" = some (some (.ref Fo)))
    (Qh:K.lookup Fo=some ⟨Ale,Alc,.func (PySem.W.fnOf "check_count" "check_count" (Ag DQ) (Af DQ) (Ab DQ) .none Aby Abz Ab0 Abx T4 Ab1),Ald⟩)
    (Qi:PySem.W.codeIn K T4 "check_count" = true)
    (Qj:PySem.W.keepIn K (.ref Fo)=true)
    (Xq:PySem.W.nsIn K mainGlobals "check_shaft" = some (some (.ref Fp)))
    (Qk:K.lookup Fp=some ⟨Ali,Alf,.func (PySem.W.fnOf "check_shaft" "check_shaft" (Ag DR) (Af DR) (Ab DR) .none Ab3 Ab4 Ab5 Ab2 T5 Ab6),Alh⟩)
    (Ql:PySem.W.codeIn K T5 "check_shaft" = true)
    (Qm:PySem.W.keepIn K (.ref Fp)=true)
    (Acn:PySem.W.nsIn K mainGlobals "check_tie" = some (some (.ref Ip)))
    (VV:K.lookup Ip=some ⟨Aow,Aou,.func (PySem.W.fnOf "check_tie" "check_tie" (Ag Gq) (Af Gq) (Ab Gq) .none Agf Agg Agh Age Zx Agi),Aov⟩)
    (Wb:PySem.W.codeIn K Zx "check_tie" = true)
    (Wd:PySem.W.keepIn K (.ref Ip)=true)
    (Pg:PySem.W.nsIn K mainGlobals "check_treading" = some (some (.ref DK)))
    (Kv:K.lookup DK=some ⟨Agl,Agj,.func (PySem.W.fnOf "check_treading" "check_treading" (Ag Ce) (Af Ce) (Ab Ce) .none Ve Vf Vg Vd Nu Vh),Agk⟩)
    (Kw:PySem.W.codeIn K Nu "check_treading" = true)
    (Ky:PySem.W.keepIn K (.ref DK)=true)
    (Aco:PySem.W.nsIn K mainGlobals "shed_over" = some (some (.ref Ir)))
    (We:K.lookup Ir=some ⟨Aoz,Aox,.func (PySem.W.fnOf "shed_over" "shed_over" (Ag FQ) (Af FQ) (Ab FQ) .none Agn Ago Agp Agm Zy Agq),Aoy⟩)
    (Wf:PySem.W.codeIn K Zy "shed_over" = true)
    (Wg:PySem.W.keepIn K (.ref Ir)=true)
    (Xr:PySem.W.nsIn K mainGlobals "shafts_over" = some (some (.ref Fq)))
    (Qn:K.lookup Fq=some ⟨Alm,Alj,.func (PySem.W.fnOf "shafts_over" "shafts_over" (Ag Dr) (Af Dr) (Ab Dr) .none Ab8 Ab9 AbA Ab7 T6 AbB),Alk⟩)
    (Qo:PySem.W.codeIn K T6 "shafts_over" = true)
    (Qp:PySem.W.keepIn K (.ref Fq)=true)
    (AlK:PySem.W.nsIn K mainGlobals "unlike" = some (some (.ref La)))
    (Ahl:K.lookup La=some ⟨Aud,Aub,.func (PySem.W.fnOf "unlike" "unlike" (Ag KR) (Af KR) (Ab KR) .none Ant Anu Anv Ans Aif Anw),Auc⟩)
    (Ahm:PySem.W.codeIn K Aif "unlike" = true)
    (Ahn:PySem.W.keepIn K (.ref La)=true)
    (Rq:PySem.W.nsIn K mainGlobals "filled_blocks" = some (some (.ref Dz)))
    (LC:K.lookup Dz=some ⟨Aii,Aig,.func (PySem.W.fnOf "filled_blocks" "filled_blocks" (Ag BW) (Af BW) (Ab BW) .none Yp Yq Yr Yo O7 Ys),Aih⟩)
    (LK:PySem.W.codeIn K O7 "filled_blocks" = true)
    (LQ:PySem.W.keepIn K (.ref Dz)=true)
    (Xu:PySem.W.nsIn K mainGlobals "block_draft" = some (some (.ref Gz)))
    (Qq:K.lookup Gz=some ⟨Alp,Aln,.func (PySem.W.fnOf "block_draft" "block_draft" (Ag CJ) (Af CJ) (Ab CJ) .none AbD AbE AbF AbC T7 AbG),Alo⟩)
    (Qs:PySem.W.codeIn K T7 "block_draft" = true)
    (Qt:PySem.W.keepIn K (.ref Gz)=true)
    (ZF:PySem.W.nsIn K mainGlobals "profile_of" = some (some (.ref Hl)))
    (RW:K.lookup Hl=some ⟨Am7,Am5,.func (PySem.W.fnOf "profile_of" "profile_of" (Ag Eg) (Af Eg) (Ab Eg) .none Ad3 Ad4 Ad5 Ad2 Xg Ad6),Am6⟩)
    (RX:PySem.W.codeIn K Xg "profile_of" = true)
    (RZ:PySem.W.keepIn K (.ref Hl)=true)
    (Acp:PySem.W.nsIn K mainGlobals "unit_size" = some (some (.ref Hm)))
    (Wh:K.lookup Hm=some ⟨Ao2,Ao0,.func (PySem.W.fnOf "unit_size" "unit_size" (Ag Gr) (Af Gr) (Ab Gr) .none Ags Agt Agu Agr Zz Agv),Ao1⟩)
    (Wi:PySem.W.codeIn K Zz "unit_size" = true)
    (Wj:PySem.W.keepIn K (.ref Hm)=true)
    (Acq:PySem.W.nsIn K mainGlobals "blockwise" = some (some (.ref Iu)))
    (Wl:K.lookup Iu=some ⟨Ao5,Ao3,.func (PySem.W.fnOf "blockwise" "blockwise" (Ag FW) (Af FW) (Ab FW) .none Agx Agy Agz Agw Z0 Ag0),Ao4⟩)
    (Wm:PySem.W.codeIn K Z0 "blockwise" = true)
    (Wn:PySem.W.keepIn K (.ref Iu)=true)
    (ZG:PySem.W.nsIn K mainGlobals "block_sign" = some (some (.ref Hn)))
    (Sh:K.lookup Hn=some ⟨AmA,Am8,.func (PySem.W.fnOf "block_sign" "block_sign" (Ag Eh) (Af Eh) (Ab Eh) .none Ad8 Ad9 AdA Ad7 Xh AdB),Am9⟩)
    (Sq:PySem.W.codeIn K Xh "block_sign" = true)
    (Ss:PySem.W.keepIn K (.ref Hn)=true)
    (Acr:PySem.W.nsIn K mainGlobals "number_of" = some (some (.ref Iv)))
    (Wo:K.lookup Iv=some ⟨Ao8,Ao6,.func (PySem.W.fnOf "number_of" "number_of" (Ag Gs) (Af Gs) (Ab Gs) .none Ag2 Ag3 Ag4 Ag1 Z1 Ag5),Ao7⟩)
    (Wq:PySem.W.codeIn K Z1 "number_of" = true)
    (Wu:PySem.W.keepIn K (.ref Iv)=true)
    (Ae5:PySem.W.nsIn K mainGlobals "unfolded" = some (some (.ref IW)))
    (ZJ:K.lookup IW=some ⟨Aq5,Aq3,.func (PySem.W.fnOf "unfolded" "unfolded" (Ag HD) (Af HD) (Ab HD) .none AiV AiW AiX AiU AbH AiY),Aq4⟩)
    (ZK:PySem.W.codeIn K AbH "unfolded" = true)
    (ZM:PySem.W.keepIn K (.ref IW)=true)
    (AoM:PySem.W.nsIn K mainGlobals "shown" = some (some (.ref PJ)))
    (AjN:K.lookup PJ=some ⟨AvY,AvW,.func (PySem.W.fnOf "shown" "shown" (Ag Nb) (Af Nb) (Ab Nb) .none Aq7 Aq8 Aq9 Aq6 Alq AqA),AvX⟩)
    (AjO:PySem.W.codeIn K Alq "shown" = true)
    (AjP:PySem.W.keepIn K (.ref PJ)=true)
    (ZP:PySem.W.nsIn K mainGlobals "whole_size" = some (some (.ref Fv)))
    (Su:K.lookup Fv=some ⟨AmD,AmB,.func (PySem.W.fnOf "whole_size" "whole_size" (Ag Ei) (Af Ei) (Ab Ei) .none AdD AdE AdF AdC Xi AdG),AmC⟩)
    (Sv:PySem.W.codeIn K Xi "whole_size" = true)
    (Sx:PySem.W.keepIn K (.ref Fv)=true)
    (Xv:PySem.W.nsIn K mainGlobals "all_numbers" = some (some (.ref Eb)))
    (Qu:K.lookup Eb=some ⟨Alu,Alr,.func (PySem.W.fnOf "all_numbers" "all_numbers" (Ag DW) (Af DW) (Ab DW) .none AbJ AbK AbL AbI T8 AbM),Als⟩)
    (Qv:PySem.W.codeIn K T8 "all_numbers" = true)
    (Qw:PySem.W.keepIn K (.ref Eb)=true)
    (Rr:PySem.W.nsIn K mainGlobals "steps_between" = some (some (.ref Ep)))
    (LR:K.lookup Ep=some ⟨Ail,Aij,.func (PySem.W.fnOf "steps_between" "steps_between" (Ag CK) (Af CK) (Ab CK) .none Yu Yv Yw Yt O8 Yx),Aik⟩)
    (Ma:PySem.W.codeIn K O8 "steps_between" = true)
    (Mg:PySem.W.keepIn K (.ref Ep)=true)
    (Ae6:PySem.W.nsIn K mainGlobals "read_row" = some (some (.ref JS)))
    (ZQ:K.lookup JS=some ⟨AqD,AqB,.func (PySem.W.fnOf "read_row" "read_row" (Ag HF) (Af HF) (Ab HF) .none Aja Ajb Ajc AiZ AbN Ajd),AqC⟩)
    (ZR:PySem.W.codeIn K AbN "read_row" = true)
    (ZS:PySem.W.keepIn K (.ref JS)=true)
    (ZV:PySem.W.nsIn K mainGlobals "read_items" = some (some (.ref Fw)))
    (Sy:K.lookup Fw=some ⟨AmG,AmE,.func (PySem.W.fnOf "read_items" "read_items" (Ag Fe) (Af Fe) (Ab Fe) .none AdI AdJ AdK AdH Xj AdL),AmF⟩)
    (S5:PySem.W.codeIn K Xj "read_items" = true)
    (S6:PySem.W.keepIn K (.ref Fw)=true)
    (Acs:PySem.W.nsIn K mainGlobals "read_item" = some (some (.ref Iw)))
    (Wv:K.lookup Iw=some ⟨AoB,Ao9,.func (PySem.W.fnOf "read_item" "read_item" (Ag Gu) (Af Gu) (Ab Gu) .none Ag7 Ag8 Ag9 Ag6 Z2 AgA),AoA⟩)
    (Ww:PySem.W.codeIn K Z2 "read_item" = true)
    (Wx:PySem.W.keepIn K (.ref Iw)=true)
    (ZW:PySem.W.nsIn K mainGlobals "read_times" = some (some (.ref Gm)))
    (S7:K.lookup Gm=some ⟨AmJ,AmH,.func (PySem.W.fnOf "read_times" "read_times" (Ag Ff) (Af Ff) (Ab Ff) .none AdN AdO AdP AdM Xk AdQ),AmI⟩)
    (S8:PySem.W.codeIn K Xk "read_times" = true)
    (S9:PySem.W.keepIn K (.ref Gm)=true)
    (Acu:PySem.W.nsIn K mainGlobals "read_path" = some (some (.ref Iz)))
    (Wy:K.lookup Iz=some ⟨AoE,AoC,.func (PySem.W.fnOf "read_path" "read_path" (Ag Gv) (Af Gv) (Ab Gv) .none AgC AgD AgE AgB Z3 AgF),AoD⟩)
    (Wz:PySem.W.codeIn K Z3 "read_path" = true)
    (W3:PySem.W.keepIn K (.ref Iz)=true)
    (Xw:PySem.W.nsIn K mainGlobals "read_number" = some (some (.ref Fy)))
    (Qx:K.lookup Fy=some ⟨Alx,Alv,.func (PySem.W.fnOf "read_number" "read_number" (Ag DX) (Af DX) (Ab DX) .none AbP AbQ AbR AbO T9 AbS),Alw⟩)
    (Qy:PySem.W.codeIn K T9 "read_number" = true)
    (Qz:PySem.W.keepIn K (.ref Fy)=true)
    (AlL:PySem.W.nsIn K mainGlobals "parted" = some (some (.ref QF)))
    (Aho:K.lookup QF=some ⟨Auh,Aue,.func (PySem.W.fnOf "parted" "parted" (Ag KY) (Af KY) (Ab KY) .none Anz An0 An1 Anx Aim An2),Auf⟩)
    (Ahp:PySem.W.codeIn K Aim "parted" = true)
    (Ahq:PySem.W.keepIn K (.ref QF)=true)
    (Uj:PySem.W.nsIn K mainGlobals "written_path" = some (some (.ref FZ)))
    (NQ:K.lookup FZ=some ⟨Ajy,Ajw,.func (PySem.W.fnOf "written_path" "written_path" (Ag Cy) (Af Cy) (Ab Cy) .none Aax Aay Aaz Aaw Ri Aa0),Ajx⟩)
    (NT:PySem.W.codeIn K Ri "written_path" = true)
    (NZ:PySem.W.keepIn K (.ref FZ)=true)
    (Ai0:PySem.W.nsIn K mainGlobals "is_stop" = some (some (.ref M4)))
    (AcU:K.lookup M4=some ⟨ArK,ArI,.func (PySem.W.fnOf "is_stop" "is_stop" (Ag Ju) (Af Ju) (Ab Ju) .none Alz Al0 Al1 Aly Aew Al2),ArJ⟩)
    (AcV:PySem.W.codeIn K Aew "is_stop" = true)
    (AcW:PySem.W.keepIn K (.ref M4)=true)
    (Rt:PySem.W.nsIn K mainGlobals "written_draft" = some (some (.ref Er)))
    (Mh:K.lookup Er=some ⟨Aip,Ain,.func (PySem.W.fnOf "written_draft" "written_draft" (Ag BX) (Af BX) (Ab BX) .none Yz Y0 Y4 Yy O9 Y5),Aio⟩)
    (Mi:PySem.W.codeIn K O9 "written_draft" = true)
    (Mj:PySem.W.keepIn K (.ref Er)=true)
    (ZZ:PySem.W.nsIn K mainGlobals "read_draft" = some (some (.ref Ho)))
    (SJ:K.lookup Ho=some ⟨AmM,AmK,.func (PySem.W.fnOf "read_draft" "read_draft" (Ag Ej) (Af Ej) (Ab Ej) .none AdS AdT AdU AdR Xl AdV),AmL⟩)
    (SM:PySem.W.codeIn K Xl "read_draft" = true)
    (SN:PySem.W.keepIn K (.ref Ho)=true)
    (Xx:PySem.W.nsIn K mainGlobals "_law_numbers" = some (some (.ref G3)))
    (Q0:K.lookup G3=some ⟨Al5,Al3,.func (PySem.W.fnOf "_law_numbers" "_law_numbers" (Ag DY) (Af DY) (Ab DY) .none AbU AbV AbW AbT TF AbX),Al4⟩)
    (Q3:PySem.W.codeIn K TF "_law_numbers" = true)
    (Q4:PySem.W.keepIn K (.ref G3)=true)
    (Aaa:PySem.W.nsIn K mainGlobals "_law_subset" = some (some (.ref Gn)))
    (SQ:K.lookup Gn=some ⟨AmP,AmN,.func (PySem.W.fnOf "_law_subset" "_law_subset" (Ag Fg) (Af Fg) (Ab Fg) .none AdX AdY AdZ AdW Xm Aea),AmO⟩)
    (SX:PySem.W.codeIn K Xm "_law_subset" = true)
    (Tc:PySem.W.keepIn K (.ref Gn)=true)
    (Uk:PySem.W.nsIn K mainGlobals "_law_cloth_by" = some (some (.ref Ga)))
    (Oa:K.lookup Ga=some ⟨Aj1,Ajz,.func (PySem.W.fnOf "_law_cloth_by" "_law_cloth_by" (Ag Cz) (Af Cz) (Ab Cz) .none Aa2 Aa3 Aa4 Aa1 Rj Aa5),Aj0⟩)
    (Ob:PySem.W.codeIn K Rj "_law_cloth_by" = true)
    (Oc:PySem.W.keepIn K (.ref Ga)=true)
    (Ph:PySem.W.nsIn K mainGlobals "_law_texts_same" = some (some (.ref DN)))
    (Kz:K.lookup DN=some ⟨AgI,AgG,.func (PySem.W.fnOf "_law_texts_same" "_law_texts_same" (Ag Cg) (Af Cg) (Ab Cg) .none Vj Vk Vl Vi Nv Vm),AgH⟩)
    (K1:PySem.W.codeIn K Nv "_law_texts_same" = true)
    (K3:PySem.W.keepIn K (.ref DN)=true)
    (Ai1:PySem.W.nsIn K mainGlobals "_law_row" = some (some (.ref M5)))
    (AcX:K.lookup M5=some ⟨ArN,ArL,.func (PySem.W.fnOf "_law_row" "_law_row" (Ag Ig) (Af Ig) (Ab Ig) .none Al7 Al8 Al9 Al6 Aex AlA),ArM⟩)
    (AcY:PySem.W.codeIn K Aex "_law_row" = true)
    (AcZ:PySem.W.keepIn K (.ref M5)=true)
    (Xy:PySem.W.nsIn K mainGlobals "_law_writing" = some (some (.ref G4)))
    (Q5:K.lookup G4=some ⟨AlD,AlB,.func (PySem.W.fnOf "_law_writing" "_law_writing" (Ag Ci) (Af Ci) (Ab Ci) .none AbZ Aca Acb AbY TJ Acd),AlC⟩)
    (Q6:PySem.W.codeIn K TJ "_law_writing" = true)
    (Q7:PySem.W.keepIn K (.ref G4)=true)
    (Acv:PySem.W.nsIn K mainGlobals "_law_kinds" = some (some (.ref IK)))
    (W4:K.lookup IK=some ⟨AoH,AoF,.func (PySem.W.fnOf "_law_kinds" "_law_kinds" (Ag Gw) (Af Gw) (Ab Gw) .none AgK AgL AgM AgJ Z4 AgN),AoG⟩)
    (W5:PySem.W.codeIn K Z4 "_law_kinds" = true)
    (W6:PySem.W.keepIn K (.ref IK)=true)
    (AsL:PySem.W.nsIn K mainGlobals "law" = some (some (.ref Ak5)))
    (AsM:K.lookup Ak5=some ⟨Azr,Azp,.func (PySem.W.fnOf "law" "law" (Ag Adm) (Af Adm) (Ab Adm) .none Awa Awb Awc AvZ ArO Awd),Azq⟩)
    (AsN:PySem.W.codeIn K ArO "law" = true)
    (AsO:PySem.W.keepIn K (.ref Ak5)=true)
    (Awe:PySem.W.nsIn K mainGlobals "abs" = some none)
    (Awf:PySem.W.nsIn K mainGlobals "int" = some none)
    (Aab:PySem.W.nsIn K mainGlobals "isinstance" = some none)
    (Awg:PySem.W.nsIn K mainGlobals "len" = some none)
    (ArP:PySem.W.nsIn K mainGlobals "list" = some none)
    (Awh:PySem.W.nsIn K mainGlobals "max" = some none)
    (AoN:PySem.W.nsIn K mainGlobals "range" = some none)
    (Ae7:PySem.W.nsIn K mainGlobals "reversed" = some none)
    (Awi:PySem.W.nsIn K mainGlobals "set" = some none)
    (AlM:PySem.W.nsIn K mainGlobals "sorted" = some none)
    (Awj:PySem.W.nsIn K mainGlobals "str" = some none)
    (Awk:PySem.W.nsIn K mainGlobals "sum" = some none)
    (Awl:PySem.W.nsIn K mainGlobals "zip" = some none)
    (Ul:PySem.W.nsIn K mainGlobals "MOST_STRANDS" = some (some (.int 40 AlE)))
    (Xz:PySem.W.nsIn K mainGlobals "MOST_SHAFTS" = some (some (.int 40 AmQ)))
    (Ai2:PySem.W.nsIn K mainGlobals "FIGURES" = some (some (.str "0123456789" Aui)))
    (Um:PySem.W.nsIn K mainGlobals "MOST_NUMBERS" = some (some (.int 400 AlF)))
    (Acw:PySem.W.nsIn K mainGlobals "MOST_DEEP" = some (some (.int 8 AqE)))
    (Ru:PySem.W.nsIn K mainGlobals "BETWEEN_PARTS" = some (some (.str " / " Aj2)))
    (Uo:PySem.W.nsIn K mainGlobals "BETWEEN_TIES" = some (some (.str ", " AlG)))
    (Aac:PySem.W.nsIn K mainGlobals "WeaveError" = some (some (.ref Al)))
    (AoO:PySem.W.nsIn K mainGlobals "NoRow" = some (some (.ref Bp)))
    (Ae8:PySem.W.nsIn K mainGlobals "TooLarge" = some (some (.ref Ar)))
    (Ai3:PySem.W.nsIn K mainGlobals "NoCloth" = some (some (.ref Ay)))
    (Ai4:PySem.W.nsIn K mainGlobals "NoDraft" = some (some (.ref Az)))
    (Ai5:PySem.W.nsIn K mainGlobals "NoBlock" = some (some (.ref Ba)))
    (X3:PySem.W.excIn K Al vE vN=true)
    (X4:PySem.W.findIn K (.ref Al) "__getattribute__" = some (some (.builtin "BaseException.__getattribute__")))
    (X5:PySem.W.findIn K (.ref Al) "__getattr__" = some none)
    (X6:PySem.W.findIn K (.ref Al) "__class__" = some (some (.builtin "object.__class__")))
    (G6:PySem.W.specialIn K (.builtin "object.__class__") "__get__" = some (some (.builtin "getset_descriptor.__get__")))
    (G7:PySem.W.takesIn K (.builtin "object.__class__")=some true)
    (X7:PySem.W.mroIn K Al (.type "object")=some true)
    (X8:PySem.W.mroIn K Al (.type "BaseException")=some true)
    (XC:PySem.W.isClsIn K Al=true)
    (Up:PySem.W.typeIn K (.ref Al)=some (.type "type"))
    (Uq:PySem.W.mroIn K Al (.type "ValueError")=some true)
    (Gf:PySem.W.mroIn K Al (.ref Al)=some true)
    (Jd:PySem.W.mroIn K Al (.ref Bp)=some false)
    (Hc:PySem.W.mroIn K Al (.ref Ar)=some false)
    (Hq:PySem.W.mroIn K Al (.ref Ay)=some false)
    (Hr:PySem.W.mroIn K Al (.ref Az)=some false)
    (Hs:PySem.W.mroIn K Al (.ref Ba)=some false)
    (AlN:PySem.W.excIn K Bp vE vN=true)
    (AlO:PySem.W.findIn K (.ref Bp) "__getattribute__" = some (some (.builtin "BaseException.__getattribute__")))
    (AlP:PySem.W.findIn K (.ref Bp) "__getattr__" = some none)
    (AlQ:PySem.W.findIn K (.ref Bp) "__class__" = some (some (.builtin "object.__class__")))
    (AlR:PySem.W.mroIn K Bp (.type "object")=some true)
    (AlS:PySem.W.mroIn K Bp (.type "BaseException")=some true)
    (AlT:PySem.W.isClsIn K Bp=true)
    (Ai6:PySem.W.typeIn K (.ref Bp)=some (.type "type"))
    (Ai7:PySem.W.mroIn K Bp (.type "ValueError")=some true)
    (Je:PySem.W.mroIn K Bp (.ref Al)=some true)
    (Qc:PySem.W.mroIn K Bp (.ref Bp)=some true)
    (Kl:PySem.W.mroIn K Bp (.ref Ar)=some false)
    (Li:PySem.W.mroIn K Bp (.ref Ay)=some false)
    (Lj:PySem.W.mroIn K Bp (.ref Az)=some false)
    (Lk:PySem.W.mroIn K Bp (.ref Ba)=some false)
    (Acx:PySem.W.excIn K Ar vE vN=true)
    (Acy:PySem.W.findIn K (.ref Ar) "__getattribute__" = some (some (.builtin "BaseException.__getattribute__")))
    (Acz:PySem.W.findIn K (.ref Ar) "__getattr__" = some none)
    (Ac0:PySem.W.findIn K (.ref Ar) "__class__" = some (some (.builtin "object.__class__")))
    (Ac1:PySem.W.mroIn K Ar (.type "object")=some true)
    (Ac2:PySem.W.mroIn K Ar (.type "BaseException")=some true)
    (Ac3:PySem.W.isClsIn K Ar=true)
    (Aad:PySem.W.typeIn K (.ref Ar)=some (.type "type"))
    (Aae:PySem.W.mroIn K Ar (.type "ValueError")=some true)
    (Hd:PySem.W.mroIn K Ar (.ref Al)=some true)
    (Km:PySem.W.mroIn K Ar (.ref Bp)=some false)
    (HR:PySem.W.mroIn K Ar (.ref Ar)=some true)
    (Jf:PySem.W.mroIn K Ar (.ref Ay)=some false)
    (Jg:PySem.W.mroIn K Ar (.ref Az)=some false)
    (Jh:PySem.W.mroIn K Ar (.ref Ba)=some false)
    (Ae9:PySem.W.excIn K Ay vE vN=true)
    (AeA:PySem.W.findIn K (.ref Ay) "__getattribute__" = some (some (.builtin "BaseException.__getattribute__")))
    (AeB:PySem.W.findIn K (.ref Ay) "__getattr__" = some none)
    (AeC:PySem.W.findIn K (.ref Ay) "__class__" = some (some (.builtin "object.__class__")))
    (AeD:PySem.W.mroIn K Ay (.type "object")=some true)
    (AeE:PySem.W.mroIn K Ay (.type "BaseException")=some true)
    (AeF:PySem.W.isClsIn K Ay=true)
    (Ac4:PySem.W.typeIn K (.ref Ay)=some (.type "type"))
    (Ac5:PySem.W.mroIn K Ay (.type "ValueError")=some true)
    (Ht:PySem.W.mroIn K Ay (.ref Al)=some true)
    (Ln:PySem.W.mroIn K Ay (.ref Bp)=some false)
    (Ji:PySem.W.mroIn K Ay (.ref Ar)=some false)
    (Jy:PySem.W.mroIn K Ay (.ref Ay)=some true)
    (Jz:PySem.W.mroIn K Ay (.ref Az)=some false)
    (J0:PySem.W.mroIn K Ay (.ref Ba)=some false)
    (AeG:PySem.W.excIn K Az vE vN=true)
    (AeH:PySem.W.findIn K (.ref Az) "__getattribute__" = some (some (.builtin "BaseException.__getattribute__")))
    (AeI:PySem.W.findIn K (.ref Az) "__getattr__" = some none)
    (AeJ:PySem.W.findIn K (.ref Az) "__class__" = some (some (.builtin "object.__class__")))
    (AeK:PySem.W.mroIn K Az (.type "object")=some true)
    (AeL:PySem.W.mroIn K Az (.type "BaseException")=some true)
    (AeM:PySem.W.isClsIn K Az=true)
    (Ac6:PySem.W.typeIn K (.ref Az)=some (.type "type"))
    (Ac7:PySem.W.mroIn K Az (.type "ValueError")=some true)
    (Hu:PySem.W.mroIn K Az (.ref Al)=some true)
    (Lp:PySem.W.mroIn K Az (.ref Bp)=some false)
    (Jj:PySem.W.mroIn K Az (.ref Ar)=some false)
    (J1:PySem.W.mroIn K Az (.ref Ay)=some false)
    (J2:PySem.W.mroIn K Az (.ref Az)=some true)
    (J3:PySem.W.mroIn K Az (.ref Ba)=some false)
    (AeN:PySem.W.excIn K Ba vE vN=true)
    (AeO:PySem.W.findIn K (.ref Ba) "__getattribute__" = some (some (.builtin "BaseException.__getattribute__")))
    (AeP:PySem.W.findIn K (.ref Ba) "__getattr__" = some none)
    (AeQ:PySem.W.findIn K (.ref Ba) "__class__" = some (some (.builtin "object.__class__")))
    (AeR:PySem.W.mroIn K Ba (.type "object")=some true)
    (AeS:PySem.W.mroIn K Ba (.type "BaseException")=some true)
    (AeT:PySem.W.isClsIn K Ba=true)
    (Ac8:PySem.W.typeIn K (.ref Ba)=some (.type "type"))
    (Ac9:PySem.W.mroIn K Ba (.type "ValueError")=some true)
    (Hv:PySem.W.mroIn K Ba (.ref Al)=some true)
    (Lq:PySem.W.mroIn K Ba (.ref Bp)=some false)
    (Jk:PySem.W.mroIn K Ba (.ref Ar)=some false)
    (J4:PySem.W.mroIn K Ba (.ref Ay)=some false)
    (J5:PySem.W.mroIn K Ba (.ref Az)=some false)
    (J6:PySem.W.mroIn K Ba (.ref Ba)=some true)
    (XD:PySem.W.findIn K (.ref Al) "called" = some (some (.ref Dl)))
    (XF:PySem.W.isFn K (.ref Dl)=true)
    (Q8:K.lookup Dl=some ⟨Acg,Ace,.func (PySem.W.fnOf "called" "WeaveError.called" (Ag By) (Af By) (Ab By) .none QJ QK QL QH Kd QM),Acf⟩)
    (Q9:PySem.W.codeIn K Kd "WeaveError.called" = true)
    (Le:PySem.W.keepIn K (.ref Dl)=true)
    (AlU:PySem.W.findIn K (.ref Bp) "called" = some (some (.ref GR)))
    (AlV:PySem.W.isFn K (.ref GR)=true)
    (Ahr:K.lookup GR=some ⟨Aj5,Aj3,.func (PySem.W.fnOf "called" "NoRow.called" (Ag Ek) (Af Ek) (Ab Ek) .none Aa7 Aa8 Aa9 Aa6 Rk AaA),Aj4⟩)
    (Ahs:PySem.W.codeIn K Rk "NoRow.called" = true)
    (AcA:PySem.W.keepIn K (.ref GR)=true)
    (AcB:PySem.W.findIn K (.ref Ar) "called" = some (some (.ref En)))
    (AcC:PySem.W.isFn K (.ref En)=true)
    (W7:K.lookup En=some ⟨Ae0,Aey,.func (PySem.W.fnOf "called" "TooLarge.called" (Ag Cr) (Af Cr) (Ab Cr) .none TV TX TY TQ Mx Ua),Aez⟩)
    (W8:PySem.W.codeIn K Mx "TooLarge.called" = true)
    (QQ:PySem.W.keepIn K (.ref En)=true)
    (AeU:PySem.W.findIn K (.ref Ay) "called" = some (some (.ref Ex)))
    (AeV:PySem.W.isFn K (.ref Ex)=true)
    (Aaf:K.lookup Ex=some ⟨AgQ,AgO,.func (PySem.W.fnOf "called" "NoCloth.called" (Ag Dg) (Af Dg) (Ab Dg) .none Vo Vp Vq Vn Nx Vr),AgP⟩)
    (Aag:PySem.W.codeIn K Nx "NoCloth.called" = true)
    (Ur:PySem.W.keepIn K (.ref Ex)=true)
    (AeW:PySem.W.findIn K (.ref Az) "called" = some (some (.ref Ey)))
    (AeX:PySem.W.isFn K (.ref Ey)=true)
    (Aah:K.lookup Ey=some ⟨AgT,AgR,.func (PySem.W.fnOf "called" "NoDraft.called" (Ag Dh) (Af Dh) (Ab Dh) .none Vt Vu Vv Vs Ny Vw),AgS⟩)
    (Aai:PySem.W.codeIn K Ny "NoDraft.called" = true)
    (Us:PySem.W.keepIn K (.ref Ey)=true)
    (AeY:PySem.W.findIn K (.ref Ba) "called" = some (some (.ref Ez)))
    (AeZ:PySem.W.isFn K (.ref Ez)=true)
    (Aaj:K.lookup Ez=some ⟨AgW,AgU,.func (PySem.W.fnOf "called" "NoBlock.called" (Ag Di) (Af Di) (Ab Di) .none Vy Vz V0 Vx Nz V1),AgV⟩)
    (Aak:PySem.W.codeIn K Nz "NoBlock.called" = true)
    (Ut:PySem.W.keepIn K (.ref Ez)=true)
    (AoP:PySem.W.nsIn K mainGlobals "Draft" = some (some (.ref Cv)))
    (AlW:PySem.W.nsIn K mainGlobals "Reader" = some (some (.ref An)))
    (ArQ:PySem.W.nsIn K mainGlobals "Path" = some (some (.ref Eu)))
    (AoQ:PySem.W.nsIn K mainGlobals "Times" = some (some (.ref Bv)))
    (J8:PySem.W.findIn K (.ref Cv) "__init__" = some (some (.ref Bu)))
    (J9:PySem.W.isFn K (.ref Bu)=true)
    (JB:K.lookup Bu=some ⟨AgZ,AgX,.func (PySem.W.fnOf "__init__" "Draft.__init__" (Ag BJ) (Af BJ) (Ab BJ) .none V4 V5 V6 V3 N5 V7),AgY⟩)
    (JC:PySem.W.codeIn K N5 "Draft.__init__" = true)
    (Hw:PySem.W.keepIn K (.ref Bu)=true)
    (Jm:PySem.W.findIn K (.ref An) "__init__" = some (some (.ref BP)))
    (Jo:PySem.W.isFn K (.ref BP)=true)
    (Jp:K.lookup BP=some ⟨Ae3,Ae1,.func (PySem.W.fnOf "__init__" "Reader.__init__" (Ag BL) (Af BL) (Ab BL) .none Uc Ud Ue Ub My Ug),Ae2⟩)
    (Jq:PySem.W.codeIn K My "Reader.__init__" = true)
    (Ha:PySem.W.keepIn K (.ref BP)=true)
    (Rw:PySem.W.findIn K (.ref An) "ended" = some (some (.ref Dv)))
    (Rx:PySem.W.isFn K (.ref Dv)=true)
    (Ml:K.lookup Dv=some ⟨Aj8,Aj6,.func (PySem.W.fnOf "ended" "Reader.ended" (Ag Dt) (Af Dt) (Ab Dt) .none AaC AaD AaE AaB Rm AaF),Aj7⟩)
    (Mm:PySem.W.codeIn K Rm "Reader.ended" = true)
    (Js:PySem.W.keepIn K (.ref Dv)=true)
    (Uu:PySem.W.findIn K (.ref An) "took" = some (some (.ref CV)))
    (Uv:PySem.W.isFn K (.ref CV)=true)
    (Od:K.lookup CV=some ⟨AlJ,AlH,.func (PySem.W.fnOf "took" "Reader.took" (Ag Ea) (Af Ea) (Ab Ea) .none Aci Acj Ack Ach Uh Acl),AlI⟩)
    (Oe:PySem.W.codeIn K Uh "Reader.took" = true)
    (Ke:PySem.W.keepIn K (.ref CV)=true)
    (Og:PySem.W.findIn K (.ref An) "stretch" = some (some (.ref Dj)))
    (Oh:PySem.W.isFn K (.ref Dj)=true)
    (JD:K.lookup Dj=some ⟨Ahc,Aha,.func (PySem.W.fnOf "stretch" "Reader.stretch" (Ag Cj) (Af Cj) (Ab Cj) .none V9 VB VD V8 N7 VF),Ahb⟩)
    (JF:PySem.W.codeIn K N7 "Reader.stretch" = true)
    (Hx:PySem.W.keepIn K (.ref Dj)=true)
    (Pj:PySem.W.findIn K (.ref An) "number" = some (some (.ref Dy)))
    (Pk:PySem.W.isFn K (.ref Dy)=true)
    (K4:K.lookup Dy=some ⟨Ais,Aiq,.func (PySem.W.fnOf "number" "Reader.number" (Ag CP) (Af CP) (Ab CP) .none Y7 Y8 Y9 Y6 OD YB),Air⟩)
    (K5:PySem.W.codeIn K OD "Reader.number" = true)
    (Ik:PySem.W.keepIn K (.ref Dy)=true)
    (K6:PySem.W.findIn K (.ref Eu) "__init__" = some (some (.ref CW)))
    (K7:PySem.W.isFn K (.ref CW)=true)
    (K8:K.lookup CW=some ⟨Aiv,Ait,.func (PySem.W.fnOf "__init__" "Path.__init__" (Ag CQ) (Af CQ) (Ab CQ) .none YD YF YG YC OJ YH),Aiu⟩)
    (K9:PySem.W.codeIn K OJ "Path.__init__" = true)
    (Il:PySem.W.keepIn K (.ref CW)=true)
    (Aal:PySem.W.findIn K (.ref Eu) "size" = some (some (.ref Hi)))
    (Aam:PySem.W.isFn K (.ref Hi)=true)
    (Td:K.lookup Hi=some ⟨AoK,AoI,.func (PySem.W.fnOf "size" "Path.size" (Ag Gx) (Af Gx) (Ab Gx) .none Ahe Ahf Ahg Ahd Z6 Ahh),AoJ⟩)
    (Te:PySem.W.codeIn K Z6 "Path.size" = true)
    (Oi:PySem.W.keepIn K (.ref Hi)=true)
    (Ry:PySem.W.findIn K (.ref Eu) "numbers" = some (some (.ref El)))
    (Rz:PySem.W.isFn K (.ref El)=true)
    (Mp:K.lookup El=some ⟨AjB,Aj9,.func (PySem.W.fnOf "numbers" "Path.numbers" (Ag Du) (Af Du) (Ab Du) .none AaH AaI AaJ AaG Ro AaK),AjA⟩)
    (Mq:PySem.W.codeIn K Ro "Path.numbers" = true)
    (Jt:PySem.W.keepIn K (.ref El)=true)
    (JG:PySem.W.findIn K (.ref Bv) "__init__" = some (some (.ref Cm)))
    (JH:PySem.W.isFn K (.ref Cm)=true)
    (JK:K.lookup Cm=some ⟨Ahk,Ahi,.func (PySem.W.fnOf "__init__" "Times.__init__" (Ag Ck) (Af Ck) (Ab Ck) .none VH VJ VL VG N8 VM),Ahj⟩)
    (JL:PySem.W.codeIn K N8 "Times.__init__" = true)
    (Hy:PySem.W.keepIn K (.ref Cm)=true)
    (XH:PySem.W.findIn K (.ref Bv) "size" = some (some (.ref Fj)))
    (XJ:PySem.W.isFn K (.ref Fj)=true)
    (QB:K.lookup Fj=some ⟨AmT,AmR,.func (PySem.W.fnOf "size" "Times.size" (Ag Fi) (Af Fi) (Ab Fi) .none Aec Aed Aee Aeb Xn Aef),AmS⟩)
    (QC:PySem.W.codeIn K Xn "Times.size" = true)
    (Lf:PySem.W.keepIn K (.ref Fj)=true)
    (Pn:PySem.W.findIn K (.ref Bv) "numbers" = some (some (.ref CZ)))
    (Pq:PySem.W.isFn K (.ref CZ)=true)
    (KC:K.lookup CZ=some ⟨Aiy,Aiw,.func (PySem.W.fnOf "numbers" "Times.numbers" (Ag CT) (Af CT) (Ab CT) .none YK YL YM YJ Pa YQ),Aix⟩)
    (KD:PySem.W.codeIn K Pa "Times.numbers" = true)
    (Im:PySem.W.keepIn K (.ref CZ)=true)
    (AlX:PySem.W.plainGet K Cv Str.empty=true)
    (AlY:PySem.W.hasDictIn K Cv=true)
    (AlZ:PySem.W.plainOver K Cv=true)
    (Ama:PySem.W.findIn K (.ref Cv) "__setattr__" = some (some (.builtin "object.__setattr__")))
    (Amb:PySem.W.makesIn K Cv=true)
    (Amc:PySem.W.keepIn K (.ref Cv)=true)
    (Bx:PySem.W.findIn K (.ref Cv) "threading" = some none)
    (HH:PySem.W.findIn K (.ref Cv) "ties" = some none)
    (BR:PySem.W.findIn K (.ref Cv) "treading" = some none)
    (Ai8:PySem.W.plainGet K An Str.empty=true)
    (Ai9:PySem.W.hasDictIn K An=true)
    (AiA:PySem.W.plainOver K An=true)
    (AiB:PySem.W.findIn K (.ref An) "__setattr__" = some (some (.builtin "object.__setattr__")))
    (AiC:PySem.W.makesIn K An=true)
    (AiD:PySem.W.keepIn K (.ref An)=true)
    (Dw:PySem.W.findIn K (.ref An) "text" = some none)
    (Bt:PySem.W.findIn K (.ref An) "place" = some none)
    (AoR:PySem.W.plainGet K Eu Str.empty=true)
    (AoS:PySem.W.hasDictIn K Eu=true)
    (AoT:PySem.W.plainOver K Eu=true)
    (AoU:PySem.W.findIn K (.ref Eu) "__setattr__" = some (some (.builtin "object.__setattr__")))
    (AoV:PySem.W.makesIn K Eu=true)
    (AoW:PySem.W.keepIn K (.ref Eu)=true)
    (Ec:PySem.W.findIn K (.ref Eu) "stops" = some none)
    (Amd:PySem.W.plainGet K Bv Str.empty=true)
    (Ame:PySem.W.hasDictIn K Bv=true)
    (Amf:PySem.W.plainOver K Bv=true)
    (Amg:PySem.W.findIn K (.ref Bv) "__setattr__" = some (some (.builtin "object.__setattr__")))
    (Amh:PySem.W.makesIn K Bv=true)
    (Ami:PySem.W.keepIn K (.ref Bv)=true)
    (GX:PySem.W.findIn K (.ref Bv) "count" = some none)
    (GZ:PySem.W.findIn K (.ref Bv) "inner" = some none) :
    ∃ fd:FuncData,(∀(s:Shared) (v:Value),BindsTo s fd ⟨[v],[]⟩ [("script", v)])∧∀ base:Heap,K.In base→base.Ns mainGlobals mg→Aq P w K mg base CX0 43 fa fd ["script"] (Aoo K):=by
  have T:Txt K mg ⟨Cv,An,Eu,Bv,Bu,PySem.W.fnOf "__init__" "Draft.__init__" (Ag BJ) (Af BJ) (Ab BJ) .none V4 V5 V6 V3 N5 V7,BP,PySem.W.fnOf "__init__" "Reader.__init__" (Ag BL) (Af BL) (Ab BL) .none Uc Ud Ue Ub My Ug,Dv,PySem.W.fnOf "ended" "Reader.ended" (Ag Dt) (Af Dt) (Ab Dt) .none AaC AaD AaE AaB Rm AaF,CV,PySem.W.fnOf "took" "Reader.took" (Ag Ea) (Af Ea) (Ab Ea) .none Aci Acj Ack Ach Uh Acl,Dj,PySem.W.fnOf "stretch" "Reader.stretch" (Ag Cj) (Af Cj) (Ab Cj) .none V9 VB VD V8 N7 VF,Dy,PySem.W.fnOf "number" "Reader.number" (Ag CP) (Af CP) (Ab CP) .none Y7 Y8 Y9 Y6 OD YB,CW,PySem.W.fnOf "__init__" "Path.__init__" (Ag CQ) (Af CQ) (Ab CQ) .none YD YF YG YC OJ YH,Hi,PySem.W.fnOf "size" "Path.size" (Ag Gx) (Af Gx) (Ab Gx) .none Ahe Ahf Ahg Ahd Z6 Ahh,El,PySem.W.fnOf "numbers" "Path.numbers" (Ag Du) (Af Du) (Ab Du) .none AaH AaI AaJ AaG Ro AaK,Cm,PySem.W.fnOf "__init__" "Times.__init__" (Ag Ck) (Af Ck) (Ab Ck) .none VH VJ VL VG N8 VM,Fj,PySem.W.fnOf "size" "Times.size" (Ag Fi) (Af Fi) (Ab Fi) .none Aec Aed Aee Aeb Xn Aef,CZ,PySem.W.fnOf "numbers" "Times.numbers" (Ag CT) (Af CT) (Ab CT) .none YK YL YM YJ Pa YQ,Ew,PySem.W.fnOf "measured" "measured" (Ag Hz) (Af Hz) (Ab Hz) .none AiQ AiR AiS AiP Abr AiT,M3,PySem.W.fnOf "back_of" "back_of" (Ag Ie) (Af Ie) (Ab Ie) .none AkU AkV AkW AkT Aev AkX,Hj,PySem.W.fnOf "quarter_of" "quarter_of" (Ag Ef) (Af Ef) (Ab Ef) .none Adt Adu Adv Ads Xe Adw,DG,PySem.W.fnOf "measured_texts" "measured_texts" (Ag Cd) (Af Cd) (Ab Cd) .none UW Va Vb UT Nt Vc,Hk,PySem.W.fnOf "check_pick" "check_pick" (Ag Fd) (Af Fd) (Ab Fd) .none Ady Adz Ad0 Adx Xf Ad1,Gy,PySem.W.fnOf "end_signs" "end_signs" (Ag FP) (Af FP) (Ab FP) .none Aga Agb Agc AfZ Zw Agd,Em,PySem.W.fnOf "turned_signs" "turned_signs" (Ag Cw) (Af Cw) (Ab Cw) .none Aas Aat Aau Aar Rh Aav,U6,PySem.W.fnOf "woven" "woven" (Ag MT) (Af MT) (Ab MT) .none Aqz Aq0 Aq1 Aqy AkY Aq2,Fl,PySem.W.fnOf "least_draft" "least_draft" (Ag BK) (Af BK) (Ab BK) .none Abt Abu Abv Abs T3 Abw,Eo,PySem.W.fnOf "check_setting" "check_setting" (Ag CG) (Af CG) (Ab CG) .none Yk Yl Ym Yj O6 Yn,Fo,PySem.W.fnOf "check_count" "check_count" (Ag DQ) (Af DQ) (Ab DQ) .none Aby Abz Ab0 Abx T4 Ab1,Fp,PySem.W.fnOf "check_shaft" "check_shaft" (Ag DR) (Af DR) (Ab DR) .none Ab3 Ab4 Ab5 Ab2 T5 Ab6,Ip,PySem.W.fnOf "check_tie" "check_tie" (Ag Gq) (Af Gq) (Ab Gq) .none Agf Agg Agh Age Zx Agi,DK,PySem.W.fnOf "check_treading" "check_treading" (Ag Ce) (Af Ce) (Ab Ce) .none Ve Vf Vg Vd Nu Vh,Ir,PySem.W.fnOf "shed_over" "shed_over" (Ag FQ) (Af FQ) (Ab FQ) .none Agn Ago Agp Agm Zy Agq,Fq,PySem.W.fnOf "shafts_over" "shafts_over" (Ag Dr) (Af Dr) (Ab Dr) .none Ab8 Ab9 AbA Ab7 T6 AbB,La,PySem.W.fnOf "unlike" "unlike" (Ag KR) (Af KR) (Ab KR) .none Ant Anu Anv Ans Aif Anw,Dz,PySem.W.fnOf "filled_blocks" "filled_blocks" (Ag BW) (Af BW) (Ab BW) .none Yp Yq Yr Yo O7 Ys,Gz,PySem.W.fnOf "block_draft" "block_draft" (Ag CJ) (Af CJ) (Ab CJ) .none AbD AbE AbF AbC T7 AbG,Hl,PySem.W.fnOf "profile_of" "profile_of" (Ag Eg) (Af Eg) (Ab Eg) .none Ad3 Ad4 Ad5 Ad2 Xg Ad6,Hm,PySem.W.fnOf "unit_size" "unit_size" (Ag Gr) (Af Gr) (Ab Gr) .none Ags Agt Agu Agr Zz Agv,Iu,PySem.W.fnOf "blockwise" "blockwise" (Ag FW) (Af FW) (Ab FW) .none Agx Agy Agz Agw Z0 Ag0,Hn,PySem.W.fnOf "block_sign" "block_sign" (Ag Eh) (Af Eh) (Ab Eh) .none Ad8 Ad9 AdA Ad7 Xh AdB,Iv,PySem.W.fnOf "number_of" "number_of" (Ag Gs) (Af Gs) (Ab Gs) .none Ag2 Ag3 Ag4 Ag1 Z1 Ag5,IW,PySem.W.fnOf "unfolded" "unfolded" (Ag HD) (Af HD) (Ab HD) .none AiV AiW AiX AiU AbH AiY,PJ,PySem.W.fnOf "shown" "shown" (Ag Nb) (Af Nb) (Ab Nb) .none Aq7 Aq8 Aq9 Aq6 Alq AqA,Fv,PySem.W.fnOf "whole_size" "whole_size" (Ag Ei) (Af Ei) (Ab Ei) .none AdD AdE AdF AdC Xi AdG,Eb,PySem.W.fnOf "all_numbers" "all_numbers" (Ag DW) (Af DW) (Ab DW) .none AbJ AbK AbL AbI T8 AbM,Ep,PySem.W.fnOf "steps_between" "steps_between" (Ag CK) (Af CK) (Ab CK) .none Yu Yv Yw Yt O8 Yx,JS,PySem.W.fnOf "read_row" "read_row" (Ag HF) (Af HF) (Ab HF) .none Aja Ajb Ajc AiZ AbN Ajd,Fw,PySem.W.fnOf "read_items" "read_items" (Ag Fe) (Af Fe) (Ab Fe) .none AdI AdJ AdK AdH Xj AdL,Iw,PySem.W.fnOf "read_item" "read_item" (Ag Gu) (Af Gu) (Ab Gu) .none Ag7 Ag8 Ag9 Ag6 Z2 AgA,Gm,PySem.W.fnOf "read_times" "read_times" (Ag Ff) (Af Ff) (Ab Ff) .none AdN AdO AdP AdM Xk AdQ,Iz,PySem.W.fnOf "read_path" "read_path" (Ag Gv) (Af Gv) (Ab Gv) .none AgC AgD AgE AgB Z3 AgF,Fy,PySem.W.fnOf "read_number" "read_number" (Ag DX) (Af DX) (Ab DX) .none AbP AbQ AbR AbO T9 AbS,QF,PySem.W.fnOf "parted" "parted" (Ag KY) (Af KY) (Ab KY) .none Anz An0 An1 Anx Aim An2,FZ,PySem.W.fnOf "written_path" "written_path" (Ag Cy) (Af Cy) (Ab Cy) .none Aax Aay Aaz Aaw Ri Aa0,M4,PySem.W.fnOf "is_stop" "is_stop" (Ag Ju) (Af Ju) (Ab Ju) .none Alz Al0 Al1 Aly Aew Al2,Er,PySem.W.fnOf "written_draft" "written_draft" (Ag BX) (Af BX) (Ab BX) .none Yz Y0 Y4 Yy O9 Y5,Ho,PySem.W.fnOf "read_draft" "read_draft" (Ag Ej) (Af Ej) (Ab Ej) .none AdS AdT AdU AdR Xl AdV,G3,PySem.W.fnOf "_law_numbers" "_law_numbers" (Ag DY) (Af DY) (Ab DY) .none AbU AbV AbW AbT TF AbX,Gn,PySem.W.fnOf "_law_subset" "_law_subset" (Ag Fg) (Af Fg) (Ab Fg) .none AdX AdY AdZ AdW Xm Aea,Ga,PySem.W.fnOf "_law_cloth_by" "_law_cloth_by" (Ag Cz) (Af Cz) (Ab Cz) .none Aa2 Aa3 Aa4 Aa1 Rj Aa5,DN,PySem.W.fnOf "_law_texts_same" "_law_texts_same" (Ag Cg) (Af Cg) (Ab Cg) .none Vj Vk Vl Vi Nv Vm,M5,PySem.W.fnOf "_law_row" "_law_row" (Ag Ig) (Af Ig) (Ab Ig) .none Al7 Al8 Al9 Al6 Aex AlA,G4,PySem.W.fnOf "_law_writing" "_law_writing" (Ag Ci) (Af Ci) (Ab Ci) .none AbZ Aca Acb AbY TJ Acd,IK,PySem.W.fnOf "_law_kinds" "_law_kinds" (Ag Gw) (Af Gw) (Ab Gw) .none AgK AgL AgM AgJ Z4 AgN,Ak5,PySem.W.fnOf "law" "law" (Ag Adm) (Af Adm) (Ab Adm) .none Awa Awb Awc AvZ ArO Awd,Al,Dl,PySem.W.fnOf "called" "WeaveError.called" (Ag By) (Af By) (Ab By) .none QJ QK QL QH Kd QM,Bp,GR,PySem.W.fnOf "called" "NoRow.called" (Ag Ek) (Af Ek) (Ab Ek) .none Aa7 Aa8 Aa9 Aa6 Rk AaA,Ar,En,PySem.W.fnOf "called" "TooLarge.called" (Ag Cr) (Af Cr) (Ab Cr) .none TV TX TY TQ Mx Ua,Ay,Ex,PySem.W.fnOf "called" "NoCloth.called" (Ag Dg) (Af Dg) (Ab Dg) .none Vo Vp Vq Vn Nx Vr,Az,Ey,PySem.W.fnOf "called" "NoDraft.called" (Ag Dh) (Af Dh) (Ab Dh) .none Vt Vu Vv Vs Ny Vw,Ba,Ez,PySem.W.fnOf "called" "NoBlock.called" (Ag Di) (Af Di) (Ab Di) .none Vy Vz V0 Vx Nz V1⟩ :=
  ⟨⟨Ai (st:=Hz) Z7 Z8 Z9,PySem.W.mg_of X G Ae4,(Ai (st:=Hz) Z7 Z8 Z9).binds (ps:=["cloth"]) fun _ _ _ _ _ _ us hl=>bl1 (fun _=>rfl) us hl⟩,
   ⟨Ai (st:=Ie) AcR AcS AcT,PySem.W.mg_of X G Aiz,(Ai (st:=Ie) AcR AcS AcT).binds (ps:=["cloth"]) fun _ _ _ _ _ _ us hl=>bl1 (fun _=>rfl) us hl⟩,
   ⟨Ai (st:=Ef) RL RM RN,PySem.W.mg_of X G ZC,(Ai (st:=Ef) RL RM RN).binds (ps:=["cloth"]) fun _ _ _ _ _ _ us hl=>bl1 (fun _=>rfl) us hl⟩,
   ⟨Ai (st:=Cd) Kr Ks Ku,PySem.W.mg_of X G Pb,(Ai (st:=Cd) Kr Ks Ku).binds (ps:=["texts", "least", "signs"]) fun _ _ _ _ _ _ us hl=>bl3 (fun _ _ _=>rfl) us hl⟩,
   ⟨Ai (st:=Fd) RP RQ RT,PySem.W.mg_of X G ZD,(Ai (st:=Fd) RP RQ RT).binds (ps:=["text", "ends", "signs"]) fun _ _ _ _ _ _ us hl=>bl3 (fun _ _ _=>rfl) us hl⟩,
   ⟨Ai (st:=FP) VN VP VR,PySem.W.mg_of X G Acm,(Ai (st:=FP) VN VP VR).binds (ps:=["cloth", "end"]) fun _ _ _ _ _ _ us hl=>bl2 (fun _ _=>rfl) us hl⟩,
   ⟨Ai (st:=Cw) NB NK NP,PySem.W.mg_of X G Ui,(Ai (st:=Cw) NB NK NP).binds (ps:=["signs"]) fun _ _ _ _ _ _ us hl=>bl1 (fun _=>rfl) us hl⟩,
   ⟨Ai (st:=MT) AjK AjL AjM,PySem.W.mg_of X G AoL,(Ai (st:=MT) AjK AjL AjM).binds (ps:=["draft"]) fun _ _ _ _ _ _ us hl=>bl1 (fun _=>rfl) us hl⟩,
   ⟨Ai (st:=BK) Qe Qf Qg,PySem.W.mg_of X G Xo,(Ai (st:=BK) Qe Qf Qg).binds (ps:=["cloth"]) fun _ _ _ _ _ _ us hl=>bl1 (fun _=>rfl) us hl⟩,
   ⟨Ai (st:=CG) Lw Lx Lz,PySem.W.mg_of X G Rp,(Ai (st:=CG) Lw Lx Lz).binds (ps:=["threading", "ties"]) fun _ _ _ _ _ _ us hl=>bl2 (fun _ _=>rfl) us hl⟩,
   ⟨Ai (st:=DQ) Qh Qi Qj,PySem.W.mg_of X G Xp,(Ai (st:=DQ) Qh Qi Qj).binds (ps:=["count"]) fun _ _ _ _ _ _ us hl=>bl1 (fun _=>rfl) us hl⟩,
   ⟨Ai (st:=DR) Qk Ql Qm,PySem.W.mg_of X G Xq,(Ai (st:=DR) Qk Ql Qm).binds (ps:=["shaft"]) fun _ _ _ _ _ _ us hl=>bl1 (fun _=>rfl) us hl⟩,
   ⟨Ai (st:=Gq) VV Wb Wd,PySem.W.mg_of X G Acn,(Ai (st:=Gq) VV Wb Wd).binds (ps:=["tie"]) fun _ _ _ _ _ _ us hl=>bl1 (fun _=>rfl) us hl⟩,
   ⟨Ai (st:=Ce) Kv Kw Ky,PySem.W.mg_of X G Pg,(Ai (st:=Ce) Kv Kw Ky).binds (ps:=["treading", "treadles"]) fun _ _ _ _ _ _ us hl=>bl2 (fun _ _=>rfl) us hl⟩,
   ⟨Ai (st:=FQ) We Wf Wg,PySem.W.mg_of X G Aco,(Ai (st:=FQ) We Wf Wg).binds (ps:=["threading", "lifted"]) fun _ _ _ _ _ _ us hl=>bl2 (fun _ _=>rfl) us hl⟩,
   ⟨Ai (st:=Dr) Qn Qo Qp,PySem.W.mg_of X G Xr,(Ai (st:=Dr) Qn Qo Qp).binds (ps:=["threading", "text"]) fun _ _ _ _ _ _ us hl=>bl2 (fun _ _=>rfl) us hl⟩,
   ⟨Ai (st:=KR) Ahl Ahm Ahn,PySem.W.mg_of X G AlK,(Ai (st:=KR) Ahl Ahm Ahn).binds (ps:=["things"]) fun _ _ _ _ _ _ us hl=>bl1 (fun _=>rfl) us hl⟩,
   ⟨Ai (st:=BW) LC LK LQ,PySem.W.mg_of X G Rq,(Ai (st:=BW) LC LK LQ).binds (ps:=["profile", "one", "other"]) fun _ _ _ _ _ _ us hl=>bl3 (fun _ _ _=>rfl) us hl⟩,
   ⟨Ai (st:=CJ) Qq Qs Qt,PySem.W.mg_of X G Xu,(Ai (st:=CJ) Qq Qs Qt).binds (ps:=["profile", "one", "other"]) fun _ _ _ _ _ _ us hl=>bl3 (fun _ _ _=>rfl) us hl⟩,
   ⟨Ai (st:=Eg) RW RX RZ,PySem.W.mg_of X G ZF,(Ai (st:=Eg) RW RX RZ).binds (ps:=["cloth", "one", "other"]) fun _ _ _ _ _ _ us hl=>bl3 (fun _ _ _=>rfl) us hl⟩,
   ⟨Ai (st:=Gr) Wh Wi Wj,PySem.W.mg_of X G Acp,(Ai (st:=Gr) Wh Wi Wj).binds (ps:=["one", "other"]) fun _ _ _ _ _ _ us hl=>bl2 (fun _ _=>rfl) us hl⟩,
   ⟨Ai (st:=FW) Wl Wm Wn,PySem.W.mg_of X G Acq,(Ai (st:=FW) Wl Wm Wn).binds (ps:=["blocks", "strands"]) fun _ _ _ _ _ _ us hl=>bl2 (fun _ _=>rfl) us hl⟩,
   ⟨Ai (st:=Eh) Sh Sq Ss,PySem.W.mg_of X G ZG,(Ai (st:=Eh) Sh Sq Ss).binds (ps:=["picks", "left", "one", "other"]) fun _ _ _ _ _ _ us hl=>bl4 (fun _ _ _ _=>rfl) us hl⟩,
   ⟨Ai (st:=Gs) Wo Wq Wu,PySem.W.mg_of X G Acr,(Ai (st:=Gs) Wo Wq Wu).binds (ps:=["figures"]) fun _ _ _ _ _ _ us hl=>bl1 (fun _=>rfl) us hl⟩,
   ⟨Ai (st:=HD) ZJ ZK ZM,PySem.W.mg_of X G Ae5,(Ai (st:=HD) ZJ ZK ZM).binds (ps:=["text"]) fun _ _ _ _ _ _ us hl=>bl1 (fun _=>rfl) us hl⟩,
   ⟨Ai (st:=Nb) AjN AjO AjP,PySem.W.mg_of X G AoM,(Ai (st:=Nb) AjN AjO AjP).binds (ps:=["row"]) fun _ _ _ _ _ _ us hl=>bl1 (fun _=>rfl) us hl⟩,
   ⟨Ai (st:=Ei) Su Sv Sx,PySem.W.mg_of X G ZP,(Ai (st:=Ei) Su Sv Sx).binds (ps:=["row_items"]) fun _ _ _ _ _ _ us hl=>bl1 (fun _=>rfl) us hl⟩,
   ⟨Ai (st:=DW) Qu Qv Qw,PySem.W.mg_of X G Xv,(Ai (st:=DW) Qu Qv Qw).binds (ps:=["row_items"]) fun _ _ _ _ _ _ us hl=>bl1 (fun _=>rfl) us hl⟩,
   ⟨Ai (st:=CK) LR Ma Mg,PySem.W.mg_of X G Rr,(Ai (st:=CK) LR Ma Mg).binds (ps:=["start", "stop"]) fun _ _ _ _ _ _ us hl=>bl2 (fun _ _=>rfl) us hl⟩,
   ⟨Ai (st:=HF) ZQ ZR ZS,PySem.W.mg_of X G Ae6,(Ai (st:=HF) ZQ ZR ZS).binds (ps:=["text"]) fun _ _ _ _ _ _ us hl=>bl1 (fun _=>rfl) us hl⟩,
   ⟨Ai (st:=Fe) Sy S5 S6,PySem.W.mg_of X G ZV,(Ai (st:=Fe) Sy S5 S6).binds (ps:=["reader", "depth"]) fun _ _ _ _ _ _ us hl=>bl2 (fun _ _=>rfl) us hl⟩,
   ⟨Ai (st:=Gu) Wv Ww Wx,PySem.W.mg_of X G Acs,(Ai (st:=Gu) Wv Ww Wx).binds (ps:=["reader", "depth"]) fun _ _ _ _ _ _ us hl=>bl2 (fun _ _=>rfl) us hl⟩,
   ⟨Ai (st:=Ff) S7 S8 S9,PySem.W.mg_of X G ZW,(Ai (st:=Ff) S7 S8 S9).binds (ps:=["reader", "count", "depth"]) fun _ _ _ _ _ _ us hl=>bl3 (fun _ _ _=>rfl) us hl⟩,
   ⟨Ai (st:=Gv) Wy Wz W3,PySem.W.mg_of X G Acu,(Ai (st:=Gv) Wy Wz W3).binds (ps:=["reader", "first"]) fun _ _ _ _ _ _ us hl=>bl2 (fun _ _=>rfl) us hl⟩,
   ⟨Ai (st:=DX) Qx Qy Qz,PySem.W.mg_of X G Xw,(Ai (st:=DX) Qx Qy Qz).binds (ps:=["reader"]) fun _ _ _ _ _ _ us hl=>bl1 (fun _=>rfl) us hl⟩,
   ⟨Ai (st:=KY) Aho Ahp Ahq,PySem.W.mg_of X G AlL,(Ai (st:=KY) Aho Ahp Ahq).binds (ps:=["row"]) fun _ _ _ _ _ _ us hl=>bl1 (fun _=>rfl) us hl⟩,
   ⟨Ai (st:=Cy) NQ NT NZ,PySem.W.mg_of X G Uj,(Ai (st:=Cy) NQ NT NZ).binds (ps:=["path"]) fun _ _ _ _ _ _ us hl=>bl1 (fun _=>rfl) us hl⟩,
   ⟨Ai (st:=Ju) AcU AcV AcW,PySem.W.mg_of X G Ai0,(Ai (st:=Ju) AcU AcV AcW).binds (ps:=["path", "k"]) fun _ _ _ _ _ _ us hl=>bl2 (fun _ _=>rfl) us hl⟩,
   ⟨Ai (st:=BX) Mh Mi Mj,PySem.W.mg_of X G Rt,(Ai (st:=BX) Mh Mi Mj).binds (ps:=["draft"]) fun _ _ _ _ _ _ us hl=>bl1 (fun _=>rfl) us hl⟩,
   ⟨Ai (st:=Ej) SJ SM SN,PySem.W.mg_of X G ZZ,(Ai (st:=Ej) SJ SM SN).binds (ps:=["text"]) fun _ _ _ _ _ _ us hl=>bl1 (fun _=>rfl) us hl⟩,
   ⟨Ai (st:=DY) Q0 Q3 Q4,PySem.W.mg_of X G Xx,(Ai (st:=DY) Q0 Q3 Q4).binds (ps:=["script", "many"]) fun _ _ _ _ _ _ us hl=>bl2 (fun _ _=>rfl) us hl⟩,
   ⟨Ai (st:=Fg) SQ SX Tc,PySem.W.mg_of X G Aaa,(Ai (st:=Fg) SQ SX Tc).binds (ps:=["number"]) fun _ _ _ _ _ _ us hl=>bl1 (fun _=>rfl) us hl⟩,
   ⟨Ai (st:=Cz) Oa Ob Oc,PySem.W.mg_of X G Uk,(Ai (st:=Cz) Oa Ob Oc).binds (ps:=["numbers", "ends", "picks"]) fun _ _ _ _ _ _ us hl=>bl3 (fun _ _ _=>rfl) us hl⟩,
   ⟨Ai (st:=Cg) Kz K1 K3,PySem.W.mg_of X G Ph,(Ai (st:=Cg) Kz K1 K3).binds (ps:=["found", "due"]) fun _ _ _ _ _ _ us hl=>bl2 (fun _ _=>rfl) us hl⟩,
   ⟨Ai (st:=Ig) AcX AcY AcZ,PySem.W.mg_of X G Ai1,(Ai (st:=Ig) AcX AcY AcZ).binds (ps:=["numbers"]) fun _ _ _ _ _ _ us hl=>bl1 (fun _=>rfl) us hl⟩,
   ⟨Ai (st:=Ci) Q5 Q6 Q7,PySem.W.mg_of X G Xy,(Ai (st:=Ci) Q5 Q6 Q7).binds (ps:=["numbers", "ends", "picks"]) fun _ _ _ _ _ _ us hl=>bl3 (fun _ _ _=>rfl) us hl⟩,
   ⟨Ai (st:=Gw) W4 W5 W6,PySem.W.mg_of X G Acv,(Ai (st:=Gw) W4 W5 W6).binds (ps:=["row"]) fun _ _ _ _ _ _ us hl=>bl1 (fun _=>rfl) us hl⟩,
   ⟨Ai (st:=Adm) AsM AsN AsO,PySem.W.mg_of X G AsL,(Ai (st:=Adm) AsM AsN AsO).binds (ps:=["script"]) fun _ _ _ _ _ _ us hl=>bl1 (fun _=>rfl) us hl⟩,
   PySem.W.mg_none_of X G Awe,
   PySem.W.mg_none_of X G Awf,
   PySem.W.mg_none_of X G Aab,
   PySem.W.mg_none_of X G Awg,
   PySem.W.mg_none_of X G ArP,
   PySem.W.mg_none_of X G Awh,
   PySem.W.mg_none_of X G AoN,
   PySem.W.mg_none_of X G Ae7,
   PySem.W.mg_none_of X G Awi,
   PySem.W.mg_none_of X G AlM,
   PySem.W.mg_none_of X G Awj,
   PySem.W.mg_none_of X G Awk,
   PySem.W.mg_none_of X G Awl,
   ⟨_,PySem.W.mg_of X G Ul⟩,
   ⟨_,PySem.W.mg_of X G Xz⟩,
   ⟨_,PySem.W.mg_of X G Ai2⟩,
   ⟨_,PySem.W.mg_of X G Um⟩,
   ⟨_,PySem.W.mg_of X G Acw⟩,
   ⟨_,PySem.W.mg_of X G Ru⟩,
   ⟨_,PySem.W.mg_of X G Uo⟩,
   PySem.W.mg_of X G Aac,
   Ah5 X3 X4 X5 X6 G6 G7 X7 X8 XC Up Uq,
   ⟨Ai (st:=By) Q8 Q9 Le,⟨XD,XF,Le⟩,(Ai (st:=By) Q8 Q9 Le).binds (ps:=["self"]) fun _ _ _ _ _ _ us hl=>match us,hl with | [_],_=>rfl⟩,
   Gf,
   Jd,
   Hc,
   Hq,
   Hr,
   Hs,
   PySem.W.mg_of X G AoO,
   Ah5 AlN AlO AlP AlQ G6 G7 AlR AlS AlT Ai6 Ai7,
   ⟨Ai (st:=Ek) Ahr Ahs AcA,⟨AlU,AlV,AcA⟩,(Ai (st:=Ek) Ahr Ahs AcA).binds (ps:=["self"]) fun _ _ _ _ _ _ us hl=>match us,hl with | [_],_=>rfl⟩,
   Je,
   Qc,
   Kl,
   Li,
   Lj,
   Lk,
   PySem.W.mg_of X G Ae8,
   Ah5 Acx Acy Acz Ac0 G6 G7 Ac1 Ac2 Ac3 Aad Aae,
   ⟨Ai (st:=Cr) W7 W8 QQ,⟨AcB,AcC,QQ⟩,(Ai (st:=Cr) W7 W8 QQ).binds (ps:=["self"]) fun _ _ _ _ _ _ us hl=>match us,hl with | [_],_=>rfl⟩,
   Hd,
   Km,
   HR,
   Jf,
   Jg,
   Jh,
   PySem.W.mg_of X G Ai3,
   Ah5 Ae9 AeA AeB AeC G6 G7 AeD AeE AeF Ac4 Ac5,
   ⟨Ai (st:=Dg) Aaf Aag Ur,⟨AeU,AeV,Ur⟩,(Ai (st:=Dg) Aaf Aag Ur).binds (ps:=["self"]) fun _ _ _ _ _ _ us hl=>match us,hl with | [_],_=>rfl⟩,
   Ht,
   Ln,
   Ji,
   Jy,
   Jz,
   J0,
   PySem.W.mg_of X G Ai4,
   Ah5 AeG AeH AeI AeJ G6 G7 AeK AeL AeM Ac6 Ac7,
   ⟨Ai (st:=Dh) Aah Aai Us,⟨AeW,AeX,Us⟩,(Ai (st:=Dh) Aah Aai Us).binds (ps:=["self"]) fun _ _ _ _ _ _ us hl=>match us,hl with | [_],_=>rfl⟩,
   Hu,
   Lp,
   Jj,
   J1,
   J2,
   J3,
   PySem.W.mg_of X G Ai5,
   Ah5 AeN AeO AeP AeQ G6 G7 AeR AeS AeT Ac8 Ac9,
   ⟨Ai (st:=Di) Aaj Aak Ut,⟨AeY,AeZ,Ut⟩,(Ai (st:=Di) Aaj Aak Ut).binds (ps:=["self"]) fun _ _ _ _ _ _ us hl=>match us,hl with | [_],_=>rfl⟩,
   Hv,
   Lq,
   Jk,
   J4,
   J5,
   J6,
   PySem.W.mg_of X G AoP,
   AnJ AlX AlY AlZ Ama Amb J8 J9 Amc,
   Bx,
   HH,
   BR,
   PySem.W.mg_of X G AlW,
   AnJ Ai8 Ai9 AiA AiB AiC Jm Jo AiD,
   Dw,
   Bt,
   PySem.W.mg_of X G ArQ,
   AnJ AoR AoS AoT AoU AoV K6 K7 AoW,
   Ec,
   PySem.W.mg_of X G AoQ,
   AnJ Amd Ame Amf Amg Amh JG JH Ami,
   GX,
   GZ,
   ⟨Ai (st:=BJ) JB JC Hw,⟨J8,J9,Hw⟩,(Ai (st:=BJ) JB JC Hw).binds (ps:=["self", "threading", "ties", "treading"]) fun _ _ _ _ _ _ us hl=>bl4 (fun _ _ _ _=>rfl) us hl⟩,
   ⟨Ai (st:=BL) Jp Jq Ha,⟨Jm,Jo,Ha⟩,(Ai (st:=BL) Jp Jq Ha).binds (ps:=["self", "text"]) fun _ _ _ _ _ _ us hl=>bl2 (fun _ _=>rfl) us hl⟩,
   ⟨Ai (st:=Dt) Ml Mm Js,⟨Rw,Rx,Js⟩,(Ai (st:=Dt) Ml Mm Js).binds (ps:=["self"]) fun _ _ _ _ _ _ us hl=>bl1 (fun _=>rfl) us hl⟩,
   ⟨Ai (st:=Ea) Od Oe Ke,⟨Uu,Uv,Ke⟩,(Ai (st:=Ea) Od Oe Ke).binds (ps:=["self", "wanted"]) fun _ _ _ _ _ _ us hl=>bl2 (fun _ _=>rfl) us hl⟩,
   ⟨Ai (st:=Cj) JD JF Hx,⟨Og,Oh,Hx⟩,(Ai (st:=Cj) JD JF Hx).binds (ps:=["self", "signs"]) fun _ _ _ _ _ _ us hl=>bl2 (fun _ _=>rfl) us hl⟩,
   ⟨Ai (st:=CP) K4 K5 Ik,⟨Pj,Pk,Ik⟩,(Ai (st:=CP) K4 K5 Ik).binds (ps:=["self"]) fun _ _ _ _ _ _ us hl=>bl1 (fun _=>rfl) us hl⟩,
   ⟨Ai (st:=CQ) K8 K9 Il,⟨K6,K7,Il⟩,(Ai (st:=CQ) K8 K9 Il).binds (ps:=["self", "stops"]) fun _ _ _ _ _ _ us hl=>bl2 (fun _ _=>rfl) us hl⟩,
   ⟨Ai (st:=Gx) Td Te Oi,⟨Aal,Aam,Oi⟩,(Ai (st:=Gx) Td Te Oi).binds (ps:=["self"]) fun _ _ _ _ _ _ us hl=>bl1 (fun _=>rfl) us hl⟩,
   ⟨Ai (st:=Du) Mp Mq Jt,⟨Ry,Rz,Jt⟩,(Ai (st:=Du) Mp Mq Jt).binds (ps:=["self"]) fun _ _ _ _ _ _ us hl=>bl1 (fun _=>rfl) us hl⟩,
   ⟨Ai (st:=Ck) JK JL Hy,⟨JG,JH,Hy⟩,(Ai (st:=Ck) JK JL Hy).binds (ps:=["self", "count", "inner"]) fun _ _ _ _ _ _ us hl=>bl3 (fun _ _ _=>rfl) us hl⟩,
   ⟨Ai (st:=Fi) QB QC Lf,⟨XH,XJ,Lf⟩,(Ai (st:=Fi) QB QC Lf).binds (ps:=["self"]) fun _ _ _ _ _ _ us hl=>bl1 (fun _=>rfl) us hl⟩,
   ⟨Ai (st:=CT) KC KD Im,⟨Pn,Pq,Im⟩,(Ai (st:=CT) KC KD Im).binds (ps:=["self"]) fun _ _ _ _ _ _ us hl=>bl1 (fun _=>rfl) us hl⟩⟩
  have e:=hfa.symm.trans (PySem.W.mg_of X G AsL)
  cases e
  exact⟨_,fun s v=>.of_eq rfl,fun base _ _=>Azl T⟩
end Mine
open PySem PySem.W PyProof.Rows
def PySem.W.Fast.tw9155147928967544706:=()
def PySem.W.Fast.tw16070174609425261980:=()
def PySem.W.Fast.tw9881846412547749138:=()
def PySem.W.Fast.tw13252724884544147820:=()
def PySem.W.Fast.tw4577146679928615386:=()
def PySem.W.Fast.tw12016780765914567882:=()
def PySem.W.Fast.tw5385845092717468095:=()
def PySem.W.Fast.tw4195457751780512043:=()
def PySem.W.Fast.tw1105380376965680621:=()
def PySem.W.Fast.tw7507803756184899820:=()
def PySem.W.Fast.tw7321157887761396861:=()
def PySem.W.Fast.tw16137754086141703178:=()
def PySem.W.Fast.tw13713444510765994763:=()
def PySem.W.Fast.tw8544105897229615429:=()
def PySem.W.Fast.tw6135663802934097356:=()
def PySem.W.Fast.tw230006217009378:=()
def PySem.W.Fast.tw5199206333734836645:=()
def PySem.W.Fast.tw15888263338379885208:=()
def PySem.W.Fast.tw14321700671756150375:=()
def PySem.W.Fast.tw11546165127665516776:=()
def PySem.W.Fast.tw14507438771522992392:=()
def PySem.W.Fast.tw4205320997658338781:=()
def PySem.W.Fast.tw13738405314254780733:=()
def PySem.W.Fast.tw651791919161285659:=()
def PySem.W.Fast.tw9077404971796967838:=()
def PySem.W.Fast.tw3489791846276774912:=()
def PySem.W.Fast.tw481201017904699156:=()
def PySem.W.Fast.tw602577816877262004:=()
def PySem.W.Fast.tw15975290792851933420:=()
def PySem.W.Fast.tw17375142981034610256:=()
def PySem.W.Fast.tw1405067447702844407:=()
def PySem.W.Fast.tw11346477799551032772:=()
def PySem.W.Fast.tw2858606643851784840:=()
def PySem.W.Fast.tw16288870119217551054:=()
def PySem.W.Fast.tw13108950044129557774:=()
def PySem.W.Fast.tw15674838049231862190:=()
def PySem.W.Fast.tw16375909352990651051:=()
def PySem.W.Fast.tw277024697452638315:=()
def PySem.W.Fast.tw7091011531989426466:=()
def PySem.W.Fast.tw6511092602327522249:=()
def PySem.W.Fast.tw16465520612108865335:=()
def PySem.W.Fast.tw6599636479116088832:=()
def PySem.W.Fast.tw1612412500258429286:=()
def PySem.W.Fast.tw339135502201896164:=()
def PySem.W.Fast.tw17290381243956092682:=()
def PySem.W.Fast.tw11449550230907393047:=()
def PySem.W.Fast.tw4368836942159895133:=()
def PySem.W.Fast.tw4827503534278484791:=()
def PySem.W.Fast.tw3040752114059698361:=()
def PySem.W.Fast.tw9006433386163922494:=()
def PySem.W.Fast.tw9636492658095944534:=()
def PySem.W.Fast.tw15390353432221906854:=()
def PySem.W.Fast.tw2322267498799175295:=()
def PySem.W.Fast.tw9486666469610308907:=()
def PySem.W.Fast.tw10550517038764535414:=()
def PySem.W.Fast.tw15620928610029649580:=()
def PySem.W.Fast.tw8252560604950643010:=()
def PySem.W.Fast.tw4247901754242837191:=()
def PySem.W.Fast.tw16794080344418368284:=()
def PySem.W.Fast.tw6298357487222765796:=()
def PySem.W.Fast.tw5132437471863444037:=()
def PySem.W.Fast.tw9360769303267686004:=()
def PySem.W.Fast.tw25783511709126555:=()
def PySem.W.Fast.tw8230812229332670529:=()
def PySem.W.Fast.tw11784744742132239692:=()
def PySem.W.Fast.tw11263418096440208783:=()
def PySem.W.Fast.tw15021883300603533064:=()
def PySem.W.Fast.tw10174162233805209939:=()
def PySem.W.Fast.tw4541312860725157129:=()
def PySem.W.Fast.tw1624327054044505514:=()
def PySem.W.Fast.tw17441976734509563697:=()
def PySem.W.Fast.tw10193298749573595513:=()
def PySem.W.Fast.tw12876698225275828675:=()
def PySem.W.Fast.tw13697991666054335392:=()
def PySem.W.Fast.tw9079132961490682248:=()
def PySem.W.Fast.tw1446466196076875679:=()
def PySem.W.Fast.tw13661335820331545358:=()
def PySem.W.Fast.tw2222646388486478855:=()
def PySem.W.Fast.tw10423552976374570068:=()
def PySem.W.Fast.tw5149594694644803770:=()
def PySem.W.Fast.tw13865438767319204976:=()
def PySem.W.Fast.tw8977734551306411139:=()
def PySem.W.Fast.tw13545968166724591238:=()
def PySem.W.Fast.tw924346112776411777:=()
def PySem.W.Fast.tw14645765706030701644:=()
def PySem.W.Fast.tw14770821387014880994:=()
def PySem.W.Fast.tw5765476348197059977:=()
def PySem.W.Fast.tw16106338527425596423:=()
def PySem.W.Fast.tw3282247965948432865:=()
def PySem.W.Fast.tw3626875536278306878:=()
def PySem.W.Fast.tw13082960646480373143:=()
def PySem.W.Fast.tw6022273420835735395:=()
def PySem.W.Fast.tw13479653436434967816:=()
def PySem.W.Fast.tw3378831235130099063:=()
def PySem.W.Fast.tw6162574220322701852:=()
def PySem.W.Fast.tw10883776281159398150:=()
def PySem.W.Fast.tw18010932229453554214:=()
def PySem.W.Fast.tw786299443501771954:=()
def PySem.W.Fast.tw16565725243976763712:=()
def PySem.W.Fast.tw2546245429363568034:=()
def PySem.W.Fast.tw3758054972809022989:=()
def PySem.W.Fast.tw1882381485000223910:=()
def PySem.W.Fast.tw4768581876513583220:=()
def PySem.W.Fast.tw14057610431853335641:=()
def PySem.W.Fast.tw4832471766579539339:=()
def PySem.W.Fast.tw14251232266879637816:=()
def PySem.W.Fast.tw2067384722799260137:=()
def PySem.W.Fast.tw338176420913147072:=()
def PySem.W.Fast.tw8220925828625736899:=()
def PySem.W.Fast.tw5668023060460483007:=()
def PySem.W.Fast.tw8163778449956346966:=()
def PySem.W.Fast.tw12681826891488456043:=()
def PySem.W.Fast.tw13874644437180638408:=()
def PySem.W.Fast.tw6878239793775933436:=()
def PySem.W.Fast.tw1528197844572937210:=()
def PySem.W.Fast.tw950544433149775156:=()
def PySem.W.Fast.tw23400209674709567:=()
def PySem.W.Fast.tw14020442926736276885:=()
def PySem.W.Fast.tw7533233021003874524:=()
def PySem.W.Fast.tw15678273806893286989:=()
def PySem.W.Fast.tw9287654477445698099:=()
def PySem.W.Fast.tw3253381638243138964:=()
def PySem.W.Fast.tw18039598821397897451:=()
def PySem.W.Fast.tw12621222253242959161:=()
def PySem.W.Fast.tw644940806051936772:=()
def PySem.W.Fast.tw3693323560109145400:=()
def PySem.W.Fast.tw6668308233050316789:=()
def PySem.W.Fast.tw4618789015503694266:=()
def PySem.W.Fast.tw5373869109718360136:=()
def PySem.W.Fast.tw5453564253897438712:=()
def PySem.W.Fast.tw9593953162069159383:=()
def PySem.W.Fast.tw9697218750281139323:=()
def PySem.W.Fast.tw17920983631054512092:=()
def PySem.W.Fast.tw8579587132116142643:=()
def PySem.W.Fast.tw8934254481919194621:=()
def PySem.W.Fast.tw3078110920660682262:=()
def PySem.W.Fast.tw13071257690880595148:=()
def PySem.W.Fast.tw18382855582853261652:=()
def PySem.W.Fast.tw11790363232207825746:=()
def PySem.W.Fast.tw8314433721534438395:=()
def PySem.W.Fast.tw6340963635762689416:=()
def PySem.W.Fast.tw13746086691499305495:=()
def PySem.W.Fast.tw13954044027271290870:=()
def PySem.W.Fast.tw13411266255315277164:=()
def PySem.W.Fast.tw11958311511005689111:=()
def PySem.W.Fast.tw5647030490153660712:=()
def PySem.W.Fast.tw1165690311709236839:=()
def PySem.W.Fast.tw6174772309855067866:=()
def PySem.W.Fast.tw1712047088572746584:=()
def PySem.W.Fast.tw18400787493945913741:=()
def PySem.W.Fast.tw4966664875870038698:=()
def PySem.W.Fast.tw14664545176290612359:=()
def PySem.W.Fast.tw6769519543889077675:=()
def PySem.W.Fast.tw2225264185402034659:=()
def PySem.W.Fast.tw17253052029666096974:=()
def PySem.W.Fast.tw1859969706484822271:=()
def PySem.W.Fast.tw14538493149467558506:=()
def PySem.W.Fast.tw14977869871709160589:=()
def PySem.W.Fast.tw14628241304483412804:=()
def PySem.W.Fast.tw11725058261870038240:=()
def PySem.W.Fast.tw1110609246570983128:=()
def PySem.W.Fast.tw9994717246824643396:=()
def PySem.W.Fast.tw5739069298847893723:=()
def PySem.W.Fast.tw15037149348624731190:=()
def PySem.W.Fast.tw16490417898829024976:=()
def PySem.W.Fast.tw8994084394339805223:=()
set_option maxRecDepth 100000 in
set_option maxHeartbeats 0 in
theorem PySem.Challenge.cw_heddle_k55_whole_blocks_holds : PySem.Challenge.rw_heddle_k55_whole_blocks.Holds := by
 w_on;o_law;k_head;(case hw=>w_witness2)
 k_fill
 refine L2.Aux (l:=PySem.Challenge.rw_heddle_k55_whole_blocks) (n:=63) (k:=43) (x := "script") (CX:=L2.CX0) (sp:=Mine.Aoo) rfl (by decide) rfl ⟨rfl,by decide,by decide⟩ (fun w h Y=>PySem.W.kIn_of Y) ?F ?S ?C
 case F =>
  intro w mg fa h KX G hmg
  refine' Mine.Azo KX G hmg ?Ae4 ?Z7 ?Z8 ?Z9 ?Aiz ?AcR ?AcS ?AcT ?ZC ?RL ?RM ?RN ?Pb ?Kr ?Ks ?Ku ?ZD ?RP ?RQ ?RT ?Acm ?VN ?VP ?VR ?Ui ?NB ?NK ?NP ?AoL ?AjK ?AjL ?AjM ?Xo ?Qe ?Qf ?Qg ?Rp ?Lw ?Lx ?Lz ?Xp ?Qh ?Qi ?Qj ?Xq ?Qk ?Ql ?Qm ?Acn ?VV ?Wb ?Wd ?Pg ?Kv ?Kw ?Ky ?Aco ?We ?Wf ?Wg ?Xr ?Qn ?Qo ?Qp ?AlK ?Ahl ?Ahm ?Ahn ?Rq ?LC ?LK ?LQ ?Xu ?Qq ?Qs ?Qt ?ZF ?RW ?RX ?RZ ?Acp ?Wh ?Wi ?Wj ?Acq ?Wl ?Wm ?Wn ?ZG ?Sh ?Sq ?Ss ?Acr ?Wo ?Wq ?Wu ?Ae5 ?ZJ ?ZK ?ZM ?AoM ?AjN ?AjO ?AjP ?ZP ?Su ?Sv ?Sx ?Xv ?Qu ?Qv ?Qw ?Rr ?LR ?Ma ?Mg ?Ae6 ?ZQ ?ZR ?ZS ?ZV ?Sy ?S5 ?S6 ?Acs ?Wv ?Ww ?Wx ?ZW ?S7 ?S8 ?S9 ?Acu ?Wy ?Wz ?W3 ?Xw ?Qx ?Qy ?Qz ?AlL ?Aho ?Ahp ?Ahq ?Uj ?NQ ?NT ?NZ ?Ai0 ?AcU ?AcV ?AcW ?Rt ?Mh ?Mi ?Mj ?ZZ ?SJ ?SM ?SN ?Xx ?Q0 ?Q3 ?Q4 ?Aaa ?SQ ?SX ?Tc ?Uk ?Oa ?Ob ?Oc ?Ph ?Kz ?K1 ?K3 ?Ai1 ?AcX ?AcY ?AcZ ?Xy ?Q5 ?Q6 ?Q7 ?Acv ?W4 ?W5 ?W6 ?AsL ?AsM ?AsN ?AsO ?Awe ?Awf ?Aab ?Awg ?ArP ?Awh ?AoN ?Ae7 ?Awi ?AlM ?Awj ?Awk ?Awl ?Ul ?Xz ?Ai2 ?Um ?Acw ?Ru ?Uo ?Aac ?AoO ?Ae8 ?Ai3 ?Ai4 ?Ai5 ?X3 ?X4 ?X5 ?X6 ?G6 ?G7 ?X7 ?X8 ?XC ?Up ?Uq ?Gf ?Jd ?Hc ?Hq ?Hr ?Hs ?AlN ?AlO ?AlP ?AlQ ?AlR ?AlS ?AlT ?Ai6 ?Ai7 ?Je ?Qc ?Kl ?Li ?Lj ?Lk ?Acx ?Acy ?Acz ?Ac0 ?Ac1 ?Ac2 ?Ac3 ?Aad ?Aae ?Hd ?Km ?HR ?Jf ?Jg ?Jh ?Ae9 ?AeA ?AeB ?AeC ?AeD ?AeE ?AeF ?Ac4 ?Ac5 ?Ht ?Ln ?Ji ?Jy ?Jz ?J0 ?AeG ?AeH ?AeI ?AeJ ?AeK ?AeL ?AeM ?Ac6 ?Ac7 ?Hu ?Lp ?Jj ?J1 ?J2 ?J3 ?AeN ?AeO ?AeP ?AeQ ?AeR ?AeS ?AeT ?Ac8 ?Ac9 ?Hv ?Lq ?Jk ?J4 ?J5 ?J6 ?XD ?XF ?Q8 ?Q9 ?Le ?AlU ?AlV ?Ahr ?Ahs ?AcA ?AcB ?AcC ?W7 ?W8 ?QQ ?AeU ?AeV ?Aaf ?Aag ?Ur ?AeW ?AeX ?Aah ?Aai ?Us ?AeY ?AeZ ?Aaj ?Aak ?Ut ?AoP ?AlW ?ArQ ?AoQ ?J8 ?J9 ?JB ?JC ?Hw ?Jm ?Jo ?Jp ?Jq ?Ha ?Rw ?Rx ?Ml ?Mm ?Js ?Uu ?Uv ?Od ?Oe ?Ke ?Og ?Oh ?JD ?JF ?Hx ?Pj ?Pk ?K4 ?K5 ?Ik ?K6 ?K7 ?K8 ?K9 ?Il ?Aal ?Aam ?Td ?Te ?Oi ?Ry ?Rz ?Mp ?Mq ?Jt ?JG ?JH ?JK ?JL ?Hy ?XH ?XJ ?QB ?QC ?Lf ?Pn ?Pq ?KC ?KD ?Im ?AlX ?AlY ?AlZ ?Ama ?Amb ?Amc ?Bx ?HH ?BR ?Ai8 ?Ai9 ?AiA ?AiB ?AiC ?AiD ?Dw ?Bt ?AoR ?AoS ?AoT ?AoU ?AoV ?AoW ?Ec ?Amd ?Ame ?Amf ?Amg ?Amh ?Ami ?GX ?GZ
  (case Ae4=>k_is)
  (case Z7=>k_is)
  (case Z8=>k_is)
  (case Z9=>k_is)
  (case Aiz=>k_is)
  (case AcR=>k_is)
  (case AcS=>k_is)
  (case AcT=>k_is)
  (case ZC=>k_is)
  (case RL=>k_is)
  (case RM=>k_is)
  (case RN=>k_is)
  (case Pb=>k_is)
  (case Kr=>k_is)
  (case Ks=>k_is)
  (case Ku=>k_is)
  (case ZD=>k_is)
  (case RP=>k_is)
  (case RQ=>k_is)
  (case RT=>k_is)
  (case Acm=>k_is)
  (case VN=>k_is)
  (case VP=>k_is)
  (case VR=>k_is)
  (case Ui=>k_is)
  (case NB=>k_is)
  (case NK=>k_is)
  (case NP=>k_is)
  (case AoL=>k_is)
  (case AjK=>k_is)
  (case AjL=>k_is)
  (case AjM=>k_is)
  (case Xo=>k_is)
  (case Qe=>k_is)
  (case Qf=>k_is)
  (case Qg=>k_is)
  (case Rp=>k_is)
  (case Lw=>k_is)
  (case Lx=>k_is)
  (case Lz=>k_is)
  (case Xp=>k_is)
  (case Qh=>k_is)
  (case Qi=>k_is)
  (case Qj=>k_is)
  (case Xq=>k_is)
  (case Qk=>k_is)
  (case Ql=>k_is)
  (case Qm=>k_is)
  (case Acn=>k_is)
  (case VV=>k_is)
  (case Wb=>k_is)
  (case Wd=>k_is)
  (case Pg=>k_is)
  (case Kv=>k_is)
  (case Kw=>k_is)
  (case Ky=>k_is)
  (case Aco=>k_is)
  (case We=>k_is)
  (case Wf=>k_is)
  (case Wg=>k_is)
  (case Xr=>k_is)
  (case Qn=>k_is)
  (case Qo=>k_is)
  (case Qp=>k_is)
  (case AlK=>k_is)
  (case Ahl=>k_is)
  (case Ahm=>k_is)
  (case Ahn=>k_is)
  (case Rq=>k_is)
  (case LC=>k_is)
  (case LK=>k_is)
  (case LQ=>k_is)
  (case Xu=>k_is)
  (case Qq=>k_is)
  (case Qs=>k_is)
  (case Qt=>k_is)
  (case ZF=>k_is)
  (case RW=>k_is)
  (case RX=>k_is)
  (case RZ=>k_is)
  (case Acp=>k_is)
  (case Wh=>k_is)
  (case Wi=>k_is)
  (case Wj=>k_is)
  (case Acq=>k_is)
  (case Wl=>k_is)
  (case Wm=>k_is)
  (case Wn=>k_is)
  (case ZG=>k_is)
  (case Sh=>k_is)
  (case Sq=>k_is)
  (case Ss=>k_is)
  (case Acr=>k_is)
  (case Wo=>k_is)
  (case Wq=>k_is)
  (case Wu=>k_is)
  (case Ae5=>k_is)
  (case ZJ=>k_is)
  (case ZK=>k_is)
  (case ZM=>k_is)
  (case AoM=>k_is)
  (case AjN=>k_is)
  (case AjO=>k_is)
  (case AjP=>k_is)
  (case ZP=>k_is)
  (case Su=>k_is)
  (case Sv=>k_is)
  (case Sx=>k_is)
  (case Xv=>k_is)
  (case Qu=>k_is)
  (case Qv=>k_is)
  (case Qw=>k_is)
  (case Rr=>k_is)
  (case LR=>k_is)
  (case Ma=>k_is)
  (case Mg=>k_is)
  (case Ae6=>k_is)
  (case ZQ=>k_is)
  (case ZR=>k_is)
  (case ZS=>k_is)
  (case ZV=>k_is)
  (case Sy=>k_is)
  (case S5=>k_is)
  (case S6=>k_is)
  (case Acs=>k_is)
  (case Wv=>k_is)
  (case Ww=>k_is)
  (case Wx=>k_is)
  (case ZW=>k_is)
  (case S7=>k_is)
  (case S8=>k_is)
  (case S9=>k_is)
  (case Acu=>k_is)
  (case Wy=>k_is)
  (case Wz=>k_is)
  (case W3=>k_is)
  (case Xw=>k_is)
  (case Qx=>k_is)
  (case Qy=>k_is)
  (case Qz=>k_is)
  (case AlL=>k_is)
  (case Aho=>k_is)
  (case Ahp=>k_is)
  (case Ahq=>k_is)
  (case Uj=>k_is)
  (case NQ=>k_is)
  (case NT=>k_is)
  (case NZ=>k_is)
  (case Ai0=>k_is)
  (case AcU=>k_is)
  (case AcV=>k_is)
  (case AcW=>k_is)
  (case Rt=>k_is)
  (case Mh=>k_is)
  (case Mi=>k_is)
  (case Mj=>k_is)
  (case ZZ=>k_is)
  (case SJ=>k_is)
  (case SM=>k_is)
  (case SN=>k_is)
  (case Xx=>k_is)
  (case Q0=>k_is)
  (case Q3=>k_is)
  (case Q4=>k_is)
  (case Aaa=>k_is)
  (case SQ=>k_is)
  (case SX=>k_is)
  (case Tc=>k_is)
  (case Uk=>k_is)
  (case Oa=>k_is)
  (case Ob=>k_is)
  (case Oc=>k_is)
  (case Ph=>k_is)
  (case Kz=>k_is)
  (case K1=>k_is)
  (case K3=>k_is)
  (case Ai1=>k_is)
  (case AcX=>k_is)
  (case AcY=>k_is)
  (case AcZ=>k_is)
  (case Xy=>k_is)
  (case Q5=>k_is)
  (case Q6=>k_is)
  (case Q7=>k_is)
  (case Acv=>k_is)
  (case W4=>k_is)
  (case W5=>k_is)
  (case W6=>k_is)
  (case AsL=>k_is)
  (case AsM=>k_is)
  (case AsN=>k_is)
  (case AsO=>k_is)
  (case Awe=>k_is)
  (case Awf=>k_is)
  (case Aab=>k_is)
  (case Awg=>k_is)
  (case ArP=>k_is)
  (case Awh=>k_is)
  (case AoN=>k_is)
  (case Ae7=>k_is)
  (case Awi=>k_is)
  (case AlM=>k_is)
  (case Awj=>k_is)
  (case Awk=>k_is)
  (case Awl=>k_is)
  (case Ul=>k_is)
  (case Xz=>k_is)
  (case Ai2=>k_is)
  (case Um=>k_is)
  (case Acw=>k_is)
  (case Ru=>k_is)
  (case Uo=>k_is)
  (case Aac=>k_is)
  (case AoO=>k_is)
  (case Ae8=>k_is)
  (case Ai3=>k_is)
  (case Ai4=>k_is)
  (case Ai5=>k_is)
  (case X3=>k_exc)
  (case X4=>k_is)
  (case X5=>k_is)
  (case X6=>k_is)
  (case G6=>k_is)
  (case G7=>k_is)
  (case X7=>k_is)
  (case X8=>k_is)
  (case XC=>k_is)
  (case Up=>k_is)
  (case Uq=>k_is)
  (case Gf=>k_is)
  (case Jd=>k_is)
  (case Hc=>k_is)
  (case Hq=>k_is)
  (case Hr=>k_is)
  (case Hs=>k_is)
  (case AlN=>k_exc)
  (case AlO=>k_is)
  (case AlP=>k_is)
  (case AlQ=>k_is)
  (case AlR=>k_is)
  (case AlS=>k_is)
  (case AlT=>k_is)
  (case Ai6=>k_is)
  (case Ai7=>k_is)
  (case Je=>k_is)
  (case Qc=>k_is)
  (case Kl=>k_is)
  (case Li=>k_is)
  (case Lj=>k_is)
  (case Lk=>k_is)
  (case Acx=>k_exc)
  (case Acy=>k_is)
  (case Acz=>k_is)
  (case Ac0=>k_is)
  (case Ac1=>k_is)
  (case Ac2=>k_is)
  (case Ac3=>k_is)
  (case Aad=>k_is)
  (case Aae=>k_is)
  (case Hd=>k_is)
  (case Km=>k_is)
  (case HR=>k_is)
  (case Jf=>k_is)
  (case Jg=>k_is)
  (case Jh=>k_is)
  (case Ae9=>k_exc)
  (case AeA=>k_is)
  (case AeB=>k_is)
  (case AeC=>k_is)
  (case AeD=>k_is)
  (case AeE=>k_is)
  (case AeF=>k_is)
  (case Ac4=>k_is)
  (case Ac5=>k_is)
  (case Ht=>k_is)
  (case Ln=>k_is)
  (case Ji=>k_is)
  (case Jy=>k_is)
  (case Jz=>k_is)
  (case J0=>k_is)
  (case AeG=>k_exc)
  (case AeH=>k_is)
  (case AeI=>k_is)
  (case AeJ=>k_is)
  (case AeK=>k_is)
  (case AeL=>k_is)
  (case AeM=>k_is)
  (case Ac6=>k_is)
  (case Ac7=>k_is)
  (case Hu=>k_is)
  (case Lp=>k_is)
  (case Jj=>k_is)
  (case J1=>k_is)
  (case J2=>k_is)
  (case J3=>k_is)
  (case AeN=>k_exc)
  (case AeO=>k_is)
  (case AeP=>k_is)
  (case AeQ=>k_is)
  (case AeR=>k_is)
  (case AeS=>k_is)
  (case AeT=>k_is)
  (case Ac8=>k_is)
  (case Ac9=>k_is)
  (case Hv=>k_is)
  (case Lq=>k_is)
  (case Jk=>k_is)
  (case J4=>k_is)
  (case J5=>k_is)
  (case J6=>k_is)
  (case XD=>k_is)
  (case XF=>k_is)
  (case Q8=>k_is)
  (case Q9=>k_is)
  (case Le=>k_is)
  (case AlU=>k_is)
  (case AlV=>k_is)
  (case Ahr=>k_is)
  (case Ahs=>k_is)
  (case AcA=>k_is)
  (case AcB=>k_is)
  (case AcC=>k_is)
  (case W7=>k_is)
  (case W8=>k_is)
  (case QQ=>k_is)
  (case AeU=>k_is)
  (case AeV=>k_is)
  (case Aaf=>k_is)
  (case Aag=>k_is)
  (case Ur=>k_is)
  (case AeW=>k_is)
  (case AeX=>k_is)
  (case Aah=>k_is)
  (case Aai=>k_is)
  (case Us=>k_is)
  (case AeY=>k_is)
  (case AeZ=>k_is)
  (case Aaj=>k_is)
  (case Aak=>k_is)
  (case Ut=>k_is)
  (case AoP=>k_is)
  (case AlW=>k_is)
  (case ArQ=>k_is)
  (case AoQ=>k_is)
  (case J8=>k_is)
  (case J9=>k_is)
  (case JB=>k_is)
  (case JC=>k_is)
  (case Hw=>k_is)
  (case Jm=>k_is)
  (case Jo=>k_is)
  (case Jp=>k_is)
  (case Jq=>k_is)
  (case Ha=>k_is)
  (case Rw=>k_is)
  (case Rx=>k_is)
  (case Ml=>k_is)
  (case Mm=>k_is)
  (case Js=>k_is)
  (case Uu=>k_is)
  (case Uv=>k_is)
  (case Od=>k_is)
  (case Oe=>k_is)
  (case Ke=>k_is)
  (case Og=>k_is)
  (case Oh=>k_is)
  (case JD=>k_is)
  (case JF=>k_is)
  (case Hx=>k_is)
  (case Pj=>k_is)
  (case Pk=>k_is)
  (case K4=>k_is)
  (case K5=>k_is)
  (case Ik=>k_is)
  (case K6=>k_is)
  (case K7=>k_is)
  (case K8=>k_is)
  (case K9=>k_is)
  (case Il=>k_is)
  (case Aal=>k_is)
  (case Aam=>k_is)
  (case Td=>k_is)
  (case Te=>k_is)
  (case Oi=>k_is)
  (case Ry=>k_is)
  (case Rz=>k_is)
  (case Mp=>k_is)
  (case Mq=>k_is)
  (case Jt=>k_is)
  (case JG=>k_is)
  (case JH=>k_is)
  (case JK=>k_is)
  (case JL=>k_is)
  (case Hy=>k_is)
  (case XH=>k_is)
  (case XJ=>k_is)
  (case QB=>k_is)
  (case QC=>k_is)
  (case Lf=>k_is)
  (case Pn=>k_is)
  (case Pq=>k_is)
  (case KC=>k_is)
  (case KD=>k_is)
  (case Im=>k_is)
  (case AlX=>k_is)
  (case AlY=>k_is)
  (case AlZ=>k_is)
  (case Ama=>k_is)
  (case Amb=>k_is)
  (case Amc=>k_is)
  (case Bx=>k_is)
  (case HH=>k_is)
  (case BR=>k_is)
  (case Ai8=>k_is)
  (case Ai9=>k_is)
  (case AiA=>k_is)
  (case AiB=>k_is)
  (case AiC=>k_is)
  (case AiD=>k_is)
  (case Dw=>k_is)
  (case Bt=>k_is)
  (case AoR=>k_is)
  (case AoS=>k_is)
  (case AoT=>k_is)
  (case AoU=>k_is)
  (case AoV=>k_is)
  (case AoW=>k_is)
  (case Ec=>k_is)
  (case Amd=>k_is)
  (case Ame=>k_is)
  (case Amf=>k_is)
  (case Amg=>k_is)
  (case Amh=>k_is)
  (case Ami=>k_is)
  (case GX=>k_is)
  (case GZ=>k_is)
 case S=>exact fun K H a ns hl hO hS=>Mine.Aop hl hS
 case C=>exact fun _ _ _ _ z=>z
