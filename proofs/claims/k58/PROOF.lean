import PyProof.Rows.All
import Wide.All
import OpenK.AllK
import Wide.FinOn
import Lean
import PyProof.EqAt
import PyProof.EqKinds
import PyProof.TupleCall
import PyProof.StrBlockL
import PyProof.EnumMake
import PyProof.CollectIter
import PyProof.JoinWalk
import PyProof.StrOps
import PyProof.StrLawsIdx
import PyProof.StrLawsIn
import PyProof.ListRange
import PyProof.Rows.Range3
import PyProof.Rows.SumAny
import KE.KIntText
import KE.LcSums
import PyProof.LongRange
import PyProof.StrOps2
import PyProof.FitsBits
import PyProof.NeKinds
import PyProof.ConsumeWalk
import OpenK.KCls
import KE.KTabLook
import KE.KUnpack
import PyProof.Rows.ZipGen
import PyProof.Draws
import PyProof.Rows.SeqMore
import KE.KRevIter
import PySem.Challenge.RW_heddle_k58_texts_that_are_no_patterns
set_option Elab.async false
set_option linter.all false
set_option maxRecDepth 100000
namespace Zz
def A5I:=@List.length_map
def A5J:=@List.length_append
def A5K:=@Nat.le_refl
def A5L:=@List.getElem?_eq_getElem
def A5M:=@Nat.ne_of_lt
def A5N:=@List.length_cons
def A5O:=@Nat.lt_of_lt_of_le
def A5P:=@List.map_cons
def A5Q:=@Bool.false_ne_true
def A5R:=@List.size_toArray
def A5S:=@List.length_take
def A5T:=@List.getElem?_map
def A5U:=@List.mem_cons
def A5V:=@List.not_mem_nil
def A5W:=@Nat.lt_irrefl
def A5X:=@Nat.le_trans
def A5Y:=@List.map_append
def A5Z:=@Int.toNat_natCast
def A6a:=@List.length_nil
def A6b:=@List.mem_append_right
def A6c:=@Nat.zero_le
def A6d:=@List.flatten_cons
def A6e:=@List.mem_of_getElem?
def A6f:=@List.length_range
def A6g:=@List.replicate_succ
def A6h:=@List.mem_cons_of_mem
def A6i:=@List.take_add_one
def A6j:=@List.mem_cons_self
def A6k:=@List.length_replicate
def A6l:=@List.length_drop
def A6m:=@List.getElem_mem
def A6n:=@List.lookup_cons
def A6o:=@List.length_singleton
def A6p:=@List.take_length
def A6q:=@Bool.and_eq_true
def A6r:=@List.getD_eq_getElem?_getD
def A6s:=@List.map_nil
def A6t:=@Int.natCast_mul
def A6u:=@List.filterMap_cons
def A6v:=@Nat.le_of_eq
def A6w:=@List.take_of_length_le
def A6x:=@Nat.ne_of_gt
def A6y:=@Nat.lt_succ_self
def A6z:=@Nat.mul_comm
def A6G:=@List.length_reverse
def A6H:=@List.range_succ
def A6I:=@Nat.min_self
def A6J:=@Bool.eq_iff_iff
def A6K:=@Nat.le_succ
def A6L:=@List.getElem?_eq_none
def A6M:=@List.map_map
def A6N:=@Nat.min_eq_left
def A6O:=@List.map_id
def A6P:=@List.mem_append_left
def A6Q:=@List.getElem?_append_right
def A6R:=@List.getElem?_append_left
def A6S:=@List.append_assoc
def A6T:=@Nat.lt_succ_of_lt
def A6U:=@List.sum_cons
def A6V:=@List.getElem_append_left
def A6W:=@List.takeWhile_cons
def A6X:=@Nat.le_of_lt
def A6Y:=@List.append_nil
def A6Z:=@List.of_mem_zip
def A7a:=@List.foldl_cons
def A7b:=@List.forIn_cons
def A7c:=@List.tail_cons
def A7d:=@List.drop_zero
def A7e:=@List.all_eq_true
def A7f:=@List.getElem?_range
def A7g:=@List.getElem_replicate
def A7h:=@List.getElem_append_right
def A7i:=@Nat.sub_self
def A7j:=@List.getElem?_set_ne
def A7k:=@List.getElem?_cons_succ
def A7l:=@List.ext_getElem?
def A7m:=@List.getElem?_drop
def A7n:=@List.dropWhile_suffix
def A7o:=@List.eq_nil_of_length_eq_zero
end Zz
open Zz
namespace L2
open PySem PySem.Spec PyProof.Rows
abbrev Key:=Sum Int Str
def AzE:Key→Value→Bool
 | .inl k,v=>Value.isInt k v
 | .inr x,v=>Value.isStrOf x v
def A3k (w:World):Key→Int
 | .inl k=>hashInt k
 | .inr x=>hashStr w x
theorem Jv:∀{k:Key} {v:Value},AzE k v=true→(∃ i t,k=Sum.inl i∧v=Value.int i t)∨(∃ x t,k=Sum.inr x∧v=Value.str x t)
 | .inl i,v,h=>by
  obtain⟨t,e⟩:=Value.isInt_shape (k:=i) (v:=v) h
  exact .inl ⟨i,t,rfl,e⟩
 | .inr x,v,h=>by
  obtain⟨t,e⟩:=Value.isStrOf_shape (x:=x) (v:=v) h
  exact .inr ⟨x,t,rfl,e⟩
theorem AzU(a b:Int):decide ((Sum.inl a:Key)=Sum.inl b)=(a == b):=by
 by_cases e:a=b
 ·subst e;simp
 ·have h:¬(Sum.inl a:Key)=Sum.inl b:=fun q=>e (Sum.inl.inj q)
  rw[decide_eq_false h]
  exact(beq_eq_false_iff_ne.mpr e).symm
theorem AzV(a b:Str):decide ((Sum.inr a:Key)=Sum.inr b)=decide (a=b):=by
 by_cases e:a=b
 ·subst e;simp
 ·have h:¬(Sum.inr a:Key)=Sum.inr b:=fun q=>e (Sum.inr.inj q)
  rw[decide_eq_false h,decide_eq_false e]
theorem AzW(a:Int)(b:Str):decide ((Sum.inl a:Key)=Sum.inr b)=false:=decide_eq_false (fun q=>nomatch q)
theorem AzX(a:Str)(b:Int):decide ((Sum.inr a:Key)=Sum.inl b)=false:=decide_eq_false (fun q=>nomatch q)
def Aqh (prog:Program)(w:World):PySem.KeyKind prog w Key where
 is:=AzE
 hash:=A3k w
 inj:=fun v a b ha hb=>by
  rcases Jv ha with ⟨i,t,rfl,rfl⟩ | ⟨x,t,rfl,rfl⟩
  ·rcases Jv hb with ⟨j,u,rfl,e⟩ | ⟨y,u,rfl,e⟩
   ·injection e with e1 _;rw[e1]
   ·exact nomatch e
  ·rcases Jv hb with ⟨j,u,rfl,e⟩ | ⟨y,u,rfl,e⟩
   ·exact nomatch e
   ·injection e with e1 _;rw[e1]
 byValue:=fun k v h=>by
  rcases Jv h with ⟨i,t,rfl,rfl⟩ | ⟨x,t,rfl,rfl⟩ <;> rfl
 pyHash:=fun hv h=>by
  rcases Jv hv with ⟨i,t,rfl,rfl⟩ | ⟨x,t,rfl,rfl⟩
  ·exact wpAny_pyHash_int h
  ·exact wpAny_pyHash_str h
 eqBool:=fun hu hv h=>by
  rcases Jv hu with ⟨i,t,rfl,rfl⟩ | ⟨x,t,rfl,rfl⟩
  ·rcases Jv hv with ⟨j,u,rfl,rfl⟩ | ⟨y,u,rfl,rfl⟩
   ·rw[AzU] at h;exact wpAny_eqBool_int h
   ·rw[AzW] at h;exact SeqAt.EqAt.int_str i t y u _ _ _ _ h
  ·rcases Jv hv with ⟨j,u,rfl,rfl⟩ | ⟨y,u,rfl,rfl⟩
   ·rw[AzX] at h;exact SeqAt.EqAt.str_int x t j u _ _ _ _ h
   ·rw[AzV] at h;exact wpAny_eqBool_str h
 «strs»:=fun k x t v h=>by
  rcases Jv h with ⟨i,u,rfl,e⟩ | ⟨y,u,rfl,e⟩
  ·exact nomatch e
  ·injection e with e1 _
   subst e1
   cases v <;> rfl
open PySem PySem.Spec PyProof.Rows
inductive V where
 | non | bl (b:Bool) | int (i:Int) | str (x:Str) | byt (b:Array UInt8) | flt (b:UInt64) | ref (a:Addr) | ty (n:String)
 deriving DecidableEq
def RelV:V→Value→Prop
 | .non,u=>u=Value.none
 | .bl b,u=>u=Value.bool b
 | .int i,u=>∃ t,u=Value.int i t
 | .str x,u=>∃ t,u=Value.str x t
 | .byt b,u=>∃ t,u=Value.bytes b t
 | .flt b,u=>∃ t,u=Value.float b t
 | .ref a,u=>u=Value.ref a
 | .ty n,u=>u=Value.type n
abbrev Vals:List V→List Value→Prop:=Paired RelV
theorem Vals.length{xs:List V}{us:List Value}(r:Vals xs us):xs.length=us.length:=Paired.length r
theorem Vals.get:∀{xs:List V} {us:List Value} {i:Nat} {x:V},Vals xs us→xs[i]?=some x→∃ u,us[i]?=some u∧RelV x u
 | _,_,_,_,.nil,e=>by simp at e
 | _,_,0,_,.cons r _,e=>by simp at e;subst e;exact⟨_,rfl,r⟩
 | _,_,i+1,x,.cons _ t,e=>by
  obtain⟨u,h1,h2⟩:=Vals.get (i:=i) (x:=x) t (by simpa using e)
  exact⟨u,by simpa using h1,h2⟩
theorem Vals.append:∀{xs ys:List V} {us ws:List Value},Vals xs us→Vals ys ws→Vals (xs++ys) (us++ws)
 | _,_,_,_,.nil,s=>s
 | _,_,_,_,.cons r t,s=>.cons r (Vals.append t s)
theorem Vals.take:∀{xs:List V} {us:List Value} (n:Nat),Vals xs us→Vals (xs.take n) (us.take n)
 | _,_,0,_=>.nil
 | _,_,_+1,.nil=>.nil
 | _,_,n+1,.cons r t=>.cons r (Vals.take n t)
theorem Vals.drop:∀{xs:List V} {us:List Value} (n:Nat),Vals xs us→Vals (xs.drop n) (us.drop n)
 | _,_,0,r=>r
 | _,_,_+1,.nil=>.nil
 | _,_,n+1,.cons _ t=>Vals.drop n t
def AoL:Option V→Option Value→Prop
 | some v,some u=>RelV v u
 | none,none=>True
 | _,_=>False
def KV {κ:Type}:List (κ × V)→List (κ × Value)→Prop:=Paired fun(p:κ × V) (q:κ × Value)=>p.1=q.1∧RelV p.2 q.2
def kV:Key→V
 | .inl i=>.int i
 | .inr x=>.str x
inductive HO where
 | lst (xs:List V)
 | tup (xs:List V)
 | dK (kvs:List (Key × V)) | dT (kvs:List (List Key × V))
 | set (S:Int→Bool) (n:Nat)
 | ins (C dx:Addr) (fs:List (Str × V))
 | own (x:Addr)
 | xd (fs:List (Str × V))
 | met (f x:Addr)
 | rng (lo hi:Int)
 | frz (o:Obj) (u:HO)
 | tbl (ps:Array Value)
 | ext (φ:Heap→Prop)
abbrev Hp:=Addr→Option HO
def upd (H:Hp)(a:Addr)(o:HO):Hp:=fun b=>if b=a then some o else H b
theorem Ad{H:Hp}{a:Addr}{o:HO}:upd H a o a=some o:=by unfold upd;rw[if_pos rfl]
theorem Bd{H:Hp}{a b:Addr}{o:HO}(h:b≠a):upd H a o b=H b:=by unfold upd;rw[if_neg h]
theorem Ow{H:Hp}{a:Addr}{o u:HO}:upd (upd H a o) a u=upd H a u:=by
 funext b;unfold upd;split <;> rfl
theorem Bs{H:Hp}{a b:Addr}{o:HO}(h:H a=some o)(h':H b=none):a≠b:=by
 intro e;subst e;rw[h] at h';cases h'
section
variable (P:Program) (w:World)
def PQ (H:Hp)(h:Heap)(a:Addr):HO→Prop
 | .lst xs=>xs.length≤sizeLine∧∃(its:List Value) (n:Nat),Vals xs its∧h.get? a=some { cls:=.type "list", data:=.seq its.toArray n }
 | .tup xs=>xs.length≤sizeLine∧∃ its:List Value,Vals xs its∧IsTup h a its.toArray
 | .dK kvs=>kvs.length≤sizeLine∧(a == sysModules)=false∧∃ vs,KV kvs vs∧h.DictOf (Aqh P w) a vs
 | .dT kvs=>kvs.length≤sizeLine∧(a == sysModules)=false∧∃ xs:List (List Key × Addr × Value),
   Paired (fun(p:List Key × V) (q:List Key × Addr × Value)=>p.1=q.1∧H q.2.1=some (.tup (p.1.map kV))∧RelV p.2 q.2.2) kvs xs ∧
   ∃ o es ep,h.get? a=some o∧o.ExactDict∧o.data=.dict es ep∧es.toList=xs.map (entryOfKey (tupleKind (Aqh P w)))∧(xs.map (·.1)).Nodup
 | .set S n=>h.SetOf (intKind P w) a S n
 | .ins C dx fs=>H dx=some (.own a)∧fs.length≤1000∧dx≠a∧h.get? a=some (PySem.W.instObj C dx) ∧
   ∃ mA,h.Ns1 dx mA∧(∀ f,AoL (fs.lookup f) (mA f))∧PySem.Within mA (fs.map (·.1))
 | .own _=>∃ o,h.get? a=some o
 | .xd fs=>∃ mA,h.Ns1 a mA∧∀ f,AoL (fs.lookup f) (mA f)
 | .rng lo hi=>∃ t u v,h.get? a=some { cls:=.type "range", data:=.fields #[.int lo t,.int hi u,.int 1 v] }
 | .frz o u=>h.get? a=some o∧PQ H h a u
 | .tbl ps=>h.get? a=some { cls:=.none,data:=.fields ps }
 | .met f x=>h.get? a=some (PySem.W.methodObj (.ref f) (.ref x))
 | .ext φ=>φ h∧(∃ o,h.get? a=some o)∧∀ h1 h2:Heap,φ h1→(∀ o,h1.get? a=some o→h2.get? a=some o)→φ h2
def HOk (H:Hp)(h:Heap):Prop:=∀ a o,H a=some o→PQ P w H h a o
end
section
variable {P:Program}{w:World}{H H':Hp}{h h':Heap}{a:Addr}{o:HO}
theorem PQ.lt(x:PQ P w H h a o):a<h.objs.size:=by
 cases o with
 | lst xs=>obtain⟨_,_,_,_,e⟩:=x;exact Heap.lt_size e
 | tup xs=>obtain⟨_,_,_,p⟩:=x;exact p.lt
 | dK kvs=>obtain⟨_,_,_,_,o,_,_,e,_⟩:=x;exact Heap.lt_size e
 | dT kvs=>obtain⟨_,_,_,_,o,_,_,e,_⟩:=x;exact Heap.lt_size e
 | set S n=>obtain⟨o,_,_,_,e,_⟩:=x;exact Heap.lt_size e
 | ins C dx fs=>obtain⟨_,_,_,e,_⟩:=x;exact Heap.lt_size e
 | own y=>obtain⟨_,e⟩:=x;exact Heap.lt_size e
 | xd fs=>obtain⟨_,⟨_,_,_,e,_⟩,_⟩:=x;exact Heap.lt_size e
 | rng lo hi=>obtain⟨_,_,_,e⟩:=x;exact Heap.lt_size e
 | frz ob u=>obtain⟨e,_⟩:=x;exact Heap.lt_size e
 | tbl ps=>exact Heap.lt_size (show h.get? a=some _ from x)
 | met f y=>exact Heap.lt_size (show h.get? a=some _ from x)
 | ext φ=>obtain⟨_,⟨_,e⟩,_⟩:=x;exact Heap.lt_size e
theorem Paired.A1w{α β:Type}{F G:α→β→Prop}:∀{l₁:List α} {l₂:List β},Paired F l₁ l₂→(∀ a b,F a b→G a b)→Paired G l₁ l₂
 | _,_,.nil,_=>.nil
 | _,_,.cons r t,f=>.cons (f _ _ r) (Paired.A1w t f)
theorem PQ.stay(x:PQ P w H h a o)(k:∀ b u,(b=a∨H b=some (.own a))→h.get? b=some u→h'.get? b=some u)
  (ho:∀ b,H b=some (.own a)→H' b=some (.own a)) (ht:∀ b xs,H b=some (.tup xs)→H' b=some (.tup xs)):PQ P w H' h' a o:=by
 induction o with
 | lst xs=>obtain⟨z,its,n,r,e⟩:=x;exact⟨z,its,n,r,k _ _ (.inl rfl) e⟩
 | tup xs=>obtain⟨z,its,r,ob,e,c⟩:=x;exact⟨z,its,r,ob,k _ _ (.inl rfl) e,c⟩
 | dK kvs=>obtain⟨z,y,vs,r,ob,es,ep,e,c⟩:=x;exact⟨z,y,vs,r,ob,es,ep,k _ _ (.inl rfl) e,c⟩
 | dT kvs =>
  obtain⟨z,y,xs,r,ob,es,ep,e,c⟩:=x
  exact⟨z,y,xs,Paired.A1w r fun p q z=>⟨z.1,ht _ _ z.2.1,z.2.2⟩,ob,es,ep,k _ _ (.inl rfl) e,c⟩
 | set S n=>obtain⟨ob,es,ep,t,e,c⟩:=x;exact⟨ob,es,ep,t,k _ _ (.inl rfl) e,c⟩
 | ins C dx fs =>
  obtain⟨d,z,ne,e,mA,⟨od,es,ep,e2,c⟩,r⟩:=x
  exact⟨ho _ d,z,ne,k _ _ (.inl rfl) e,mA,⟨od,es,ep,k _ _ (.inr d) e2,c⟩,r⟩
 | own y=>obtain⟨ob,e⟩:=x;exact⟨ob,k _ _ (.inl rfl) e⟩
 | xd fs=>obtain⟨mA,⟨od,es,ep,e,c⟩,r⟩:=x;exact⟨mA,⟨od,es,ep,k _ _ (.inl rfl) e,c⟩,r⟩
 | rng lo hi=>obtain⟨t,u,v,e⟩:=x;exact⟨t,u,v,k _ _ (.inl rfl) e⟩
 | frz ob u ih=>obtain⟨e,q⟩:=x;exact⟨k _ _ (.inl rfl) e,ih q⟩
 | tbl ps =>
  have e:h.get? a=some { cls:=.none,data:=.fields ps }:=x
  show h'.get? a=some { cls:=.none,data:=.fields ps }
  exact k a _ (.inl rfl) e
 | met f y =>
  have e:h.get? a=some (PySem.W.methodObj (.ref f) (.ref y)):=x
  show h'.get? a=some (PySem.W.methodObj (.ref f) (.ref y))
  exact k a _ (.inl rfl) e
 | ext φ=>obtain⟨p,⟨o,e⟩,st⟩:=x;exact⟨st _ _ p fun o q=>k _ _ (.inl rfl) q,⟨o,k _ _ (.inl rfl) e⟩,st⟩
theorem HOk.lt(x:HOk P w H h)(e:H a=some o):a<h.objs.size:=(x a o e).lt
theorem HOk.fresh(x:HOk P w H h)(e:h.objs.size≤a):H a=none:=by
 cases q:H a with
 | none=>rfl
 | some u=>exact absurd (A5O (x.lt q) e) (A5W _)
theorem HOk.kept(x:HOk P w H h)(k:∀ b u,h.get? b=some u→h'.get? b=some u):HOk P w H h':=fun a o e =>
 (x a o e).stay (fun b u _ q=>k b u q) (fun _ q=>q) fun _ _ q=>q
theorem HOk.laid(x:HOk P w H h)(k:∀ b u,h.get? b=some u→h'.get? b=some u)(hp:h.objs.size≤a)(new:PQ P w (upd H a o) h' a o):HOk P w (upd H a o) h':=fun b u e=>by
 have hn:=x.fresh hp
 by_cases hb:b=a
 ·subst hb;rw[Ad] at e;cases e;exact new
 ·rw[Bd hb] at e
  exact(x b u e).stay (fun c v _ q=>k c v q) (fun c q=>by rw[Bd (Bs q hn)];exact q) fun c xs q=>by rw[Bd (Bs q hn)];exact q
end
def Rd (H:Hp)(a:Addr)(u:HO):Prop:=H a=some u∨∃ o,H a=some (.frz o u)
theorem Rd.ok{P:Program}{w:World}{H:Hp}{h:Heap}{a:Addr}{u:HO}(r:Rd H a u)(x:HOk P w H h):PQ P w H h a u:=by
 rcases r with r | ⟨o,r⟩
 ·exact x a u r
 ·obtain⟨_,q⟩:=x a _ r
  exact q
def Mut:Option HO→Prop
 | some (.lst _)=>True
 | some (.dK _)=>True
 | some (.dT _)=>True
 | some (.set _ _)=>True
 | some (.ins _ _ _)=>True
 | some (.ext _)=>True
 | _=>False
section
variable {P:Program}{w:World}{H:Hp}{h h':Heap}{x e:Addr}{o':HO}
theorem HOk.write(ok:HOk P w H h)(mu:Mut (H x))(he:e=x∨H e=some (.own x))(k:∀ b u,b≠e→h.get? b=some u→h'.get? b=some u)(heo:∃ u,h'.get? e=some u)
  (new:PQ P w (upd H x o') h' x o'):HOk P w (upd H x o') h':=fun b u q=>by
 have A1x:∀ c y,H c=some (.own y)→c≠x:=fun c y r z=>by subst z;rw[r] at mu;exact mu
 have A3l:∀ c xs,H c=some (.tup xs)→c≠x:=fun c xs r z=>by subst z;rw[r] at mu;exact mu
 by_cases hb:b=x
 ·subst hb;rw[Ad] at q;cases q;exact new
 ·rw[Bd hb] at q
  by_cases hbe:b=e
  ·have q':H b=some (.own x):=by
    rcases he with z | z
    ·exact absurd (hbe.trans z) hb
    ·rw[hbe];exact z
   rw[q] at q';cases q'
   obtain⟨v,hv⟩:=heo
   exact⟨v,by rw[hbe];exact hv⟩
  ·refine(ok b u q).stay (fun c v hc r=>k c v ?_ r) (fun c r=>by rw[Bd (A1x c b r)];exact r) fun c xs r=>by rw[Bd (A3l c xs r)];exact r
   rcases hc with rfl | hc
   ·exact hbe
   ·rintro rfl
    rcases he with z | z
    ·exact A1x c b hc z
    ·rw[hc] at z;cases z;exact hb rfl
end
structure Un (fs ex:List Addr) (H H':Hp) (h h':Heap):Prop where
 keep:∀ b o,h.get? b=some o→H b=none→b∉fs→b∉ex→h'.get? b=some o
 slot:∀ b o,h.get? b=some o→H b=none→b∈fs→b∉ex→∃ sl,h'.get? b=some { o with slots:=sl }
 free:∀ b o,h.get? b=some o→H b=none→b∉ex→H' b=none
 there:∀ b o,h.get? b=some o→b∉ex→∃ o',h'.get? b=some o'
 tups:∀ b xs,H b=some (.tup xs)→H' b=some (.tup xs)
 Vk:∀ b o u,H b=some (.frz o u)→H' b=some (.frz o u)
 Wt:∀ b ps,H b=some (.tbl ps)→∃ more,H' b=some (.tbl (ps++more))
section
variable {fs fs' ex ex':List Addr}{H H1 H2:Hp}{h h1 h2 h':Heap}{a x e:Addr}{o:HO}
theorem Un.any(u:Un fs ex H H1 h h1){b:Addr}{ob:Obj}(q:h.get? b=some ob)(n:H b=none)(hx:b∉ex):∃ sl,h1.get? b=some { ob with slots:=sl }:=by
 by_cases hb:b∈fs
 ·exact u.slot b ob q n hb hx
 ·exact⟨ob.slots,u.keep b ob q n hb hx⟩
theorem Un.kept(k:∀ b u,h.get? b=some u→h'.get? b=some u):Un fs ex H H h h' :=
 ⟨fun b ob q _ _ _=>k b ob q,fun b ob q _ _ _=>⟨ob.slots,k b ob q⟩,fun _ _ _ n _=>n,fun b ob q _=>⟨ob,k b ob q⟩,fun _ _ q=>q,fun _ _ _ q=>q,fun _ ps q=>⟨#[],by rw[q];simp⟩⟩
theorem Un.refl:Un fs ex H H h h:=Un.kept fun _ _ q=>q
theorem Un.laid(k:∀ b u,h.get? b=some u→h'.get? b=some u)(hp:h.objs.size≤a)(hn:H a=none):Un fs ex H (upd H a o) h h' where
 keep:=fun b u q _ _ _=>k b u q
 slot:=fun b u q _ _ _=>⟨u.slots,k b u q⟩
 free:=fun b u q n _=>by rw[Bd (A5M (A5O (Heap.lt_size q) hp))];exact n
 there:=fun b u q _=>⟨u,k b u q⟩
 tups:=fun b xs q=>by rw[Bd (Bs q hn)];exact q
 Vk:=fun b u xs q=>by rw[Bd (Bs q hn)];exact q
 Wt:=fun b ps q=>⟨#[],by rw[Bd (Bs q hn),q];simp⟩
theorem Un.write(mu:Mut (H x))(he:e=x∨H e=some (.own x))(k:∀ b u,b≠e→h.get? b=some u→h'.get? b=some u)(heo:∃ u,h'.get? e=some u):Un fs ex H (upd H x o) h h':=by
 have hx:∀ b,H b=none→b≠x:=fun b n z=>by subst z;rw[n] at mu;exact mu
 have hb:∀ b,H b=none→b≠e:=fun b n z=>by
  subst z
  rcases he with r | r
  ·exact hx b n r
  ·rw[n] at r;cases r
 have hm:∀ b u,H b=some u→¬Mut (some u)→b≠x:=fun b u q nm z=>by subst z;rw[q] at mu;exact nm mu
 refine⟨fun b u q n _ _=>k b u (hb b n) q,fun b u q n _ _=>⟨u.slots,k b u (hb b n) q⟩,fun b u q n _=>by rw[Bd (hx b n)];exact n,fun b u q _=>?_,
  fun b xs q=>by rw[Bd (hm b _ q fun z=>z)];exact q,fun b u xs q=>by rw[Bd (hm b _ q fun z=>z)];exact q,fun b ps q=>⟨#[],by rw[Bd (hm b _ q fun z=>z),q];simp⟩⟩
 by_cases hbe:b=e
 ·subst hbe;exact heo
 ·exact⟨u,k b u hbe q⟩
end
def trk (h:Heap)(H:Hp):List Addr:=(List.range h.objs.size).filter fun a=>(H a).isSome
def Aqi (h:Heap)(H:Hp):Heap:=PySem.W.hideAll h (trk h H)
theorem Avv(h:Heap)(H:Hp):(Aqi h H).objs.size=h.objs.size:=PySem.W.hideAll_size _ _
theorem Aw2{h:Heap}{H:Hp}{b:Addr}{o:Obj}(e:h.get? b=some o)(n:H b=none):(Aqi h H).get? b=some o :=
 PySem.W.hideAll_get _ e fun hm=>by
  have q:(H b).isSome=true:=(List.mem_filter.mp hm).2
  rw[n] at q;simp at q
theorem Ay6{h:Heap}{H:Hp}{b:Addr}{o:Obj}(e:(Aqi h H).get? b=some o):h.get? b=some o∧H b=none:=by
 have e':h.get? b=some o:=PySem.W.of_hideAll (trk h H) e
 refine⟨e',?_⟩
 cases q:H b with
 | none=>rfl
 | some x =>
  have hm:b∈trk h H:=List.mem_filter.mpr ⟨List.mem_range.mpr (Heap.lt_size e'),by simp[q]⟩
  have z:(Aqi h H).get? b=none:=PySem.W.hideAll_none (trk h H) hm
  rw[z] at e;cases e
def Ay7 (g h:Heap)(L:Addr):List (Addr × Obj):=(List.range h.objs.size).filterMap fun a=>if a=L∨(g.get? a).isSome=true then none else (h.get? a).map fun o=>(a,o)
def rest(g h:Heap)(L d:Addr):List (Addr × Obj):=(Ay7 g h L).filter fun p=>decide (p.1≠d)
open PySem PySem.Spec PyProof.Rows
structure Mod (K:PySem.W.Frag) (mg:Str→Option Value) (base:Heap):Prop where
 kin:K.In base
 glob:base.Ns mainGlobals mg
 blt:∃ mb,base.Ns builtinsNs mb∧∀ x:Str,x ≠ "__name__" → mb x=bootBuiltins x
 nolimit:base.NoLimit
structure Cx where
 prog:Program
 w:World
 K:PySem.W.Frag
 mg:Str→Option Value
 base:Heap
 A:Around
 N:List Str
 s₀:Shared
 H₀:Hp
 env:Env
 outer:List Env
 stack:List Env
 ex:List Addr
 fn:Str→Bool
 calm:Bool
 pn:List (Addr × Obj)
 xe:Value→Shared→Prop
def frs (l:List Env):List Addr:=l.filterMap (·.frame)
abbrev Cx.fs (X:Cx):List Addr:=frs X.outer
def Vis (sc:Scope)(x:Str):Prop:=sc.names.lookup x=some .local∨sc.names.lookup x=some .cell∨sc.names.lookup x=some .free
def Loc (sc:Scope)(x:Str):Prop:=sc.names.lookup x=some .local∨sc.names.lookup x=some .cell
def Look(env:Env)(h:Heap)(m:Str→Option Value)(x:Str)(u:Value):Prop :=
 (env.kindOf x=some .local∧m x=some u)∨((env.kindOf x=some .cell∨env.kindOf x=some .free)∧∃ c,env.cells.lookup x=some c∧h.IsCell c (some u))
structure Cx.Ok (X:Cx):Prop where
 mod:Mod X.K X.mg X.base
 kind:X.env.scope.kind=.function
 glob:X.env.globals=mainGlobals
 blt:X.env.builtins=builtinsNs
 above:X.s₀.heap.objs.size≤X.env.locals
 inj:∀ x y c,X.env.cells.lookup x=some c→X.env.cells.lookup y=some c→x=y
 has:∀ x,(X.env.kindOf x=some .cell∨X.env.kindOf x=some .free)→∃ c,X.env.cells.lookup x=some c
 cab:∀ x c,X.fn x=true→X.env.cells.lookup x=some c→X.s₀.heap.objs.size≤c
 hd:X.calm=true→X.A.handled=none
 frames:X.A.frames=some X.stack
 stk:X.stack=X.outer∨(X.stack=X.env::X.outer∧X.env.frame=some X.env.locals)
 exf:∀ b∈X.ex,b≠X.env.locals∧∀ x c,X.env.cells.lookup x=some c→c≠b
 bs:∀ b o,X.base.get? b=some o→X.s₀.heap.get? b=some o∧X.H₀ b=none
 bsz:X.base.objs.size≤X.s₀.heap.objs.size
 AoM:∀ b o,X.base.get? b=some o→b∉X.ex
 Amo:∀ b∈X.ex,b∉X.fs
 Afg:X.s₀.heap.FunFrames X.base X.outer
 frf:∀ b∈X.fs,X.H₀ b=none
structure Inv (X:Cx) (pins:List (Addr × Obj)) (σ:List (Option V)) (H:Hp) (s:Shared):Prop where
 ok:X.Ok
 os:s.os=X.s₀.os
 bare:AllBare s.gens
 base:Un X.fs X.ex X.H₀ H X.s₀.heap s.heap
 loc:∃ m,s.heap.Ns X.env.locals m∧∀(i:Nat) (x:Str) (v:V),X.N[i]?=some x→σ[i]?=some (some v)→Vis X.env.scope x→∃ u,RelV v u∧Look X.env s.heap m x u
 cell:∀ x c,X.env.cells.lookup x=some c→∃ v,s.heap.IsCell c v
 free:H X.env.locals=none
 V8:∀ x c,X.env.cells.lookup x=some c→H c=none
 pin:∀ p∈X.pn++pins,s.heap.get? p.1=some p.2∧H p.1=none∧p.1≠X.env.locals∧p.1∉X.fs∧∀ v,p.2.data≠.cell v
 hok:HOk X.prog X.w H s.heap
 len:σ.length=X.N.length
section
variable {X:Cx}{pins:List (Addr × Obj)}{σ:List (Option V)}{H H':Hp}{s:Shared}{h':Heap}
theorem Cx.Ok.A3m(ok:X.Ok){b:Addr}{o:Obj}(e:X.base.get? b=some o):b∉X.fs:=fun hb=>by
 have:=(ok.Afg.mem hb).1
 rw[e] at this;cases this
theorem Inv.bs(I:Inv X pins σ H s):∀ b o,X.base.get? b=some o→s.heap.get? b=some o∧H b=none:=fun b o e =>
 ⟨I.base.keep b o (I.ok.bs b o e).1 (I.ok.bs b o e).2 (I.ok.A3m e) (I.ok.AoM b o e),I.base.free b o (I.ok.bs b o e).1 (I.ok.bs b o e).2 (I.ok.AoM b o e)⟩
theorem Inv.bk(I:Inv X pins σ H s):∀ b o,X.base.get? b=some o→s.heap.get? b=some o:=fun b o e=>(I.bs b o e).1
theorem Inv.mod(I:Inv X pins σ H s):Mod X.K X.mg X.base:=I.ok.mod
theorem Inv.kIn(I:Inv X pins σ H s):X.K.In s.heap:=I.ok.mod.kin.keeps I.bk
theorem Inv.lt(I:Inv X pins σ H s):X.env.locals<s.heap.objs.size:=let ⟨_,hn,_⟩:=I.loc;hn.lt
theorem Inv.sz(I:Inv X pins σ H s):X.s₀.heap.objs.size≤s.heap.objs.size:=A5X I.ok.above (A6X I.lt)
theorem Inv.A3n(I:Inv X pins σ H s){a:Addr}(h:s.heap.objs.size≤a):a∉X.fs:=fun hb=>by
 obtain⟨_,o,ho,_⟩:=I.ok.Afg.mem hb
 exact absurd (A5O (Heap.lt_size ho) (A5X I.sz h)) (A5W _)
theorem Inv.cne(I:Inv X pins σ H s):∀ x c,X.env.cells.lookup x=some c→c≠X.env.locals:=fun x c e z=>by
 obtain⟨v,o,ho,hd⟩:=I.cell x c e
 obtain⟨m,⟨o',es,ep,ho',hd',_⟩,_⟩:=I.loc
 rw[z,ho'] at ho;cases ho;rw[hd'] at hd;cases hd
theorem Inv.Afg(I:Inv X pins σ H s):s.heap.FunFrames X.base X.outer:=by
 have all:∀(l:List Env),(∀ b∈frs l,b∈X.fs)→X.s₀.heap.FunFrames X.base l→s.heap.FunFrames X.base l:=by
  intro l
  induction l with
  | nil=>intro _ _;trivial
  | cons env r ih =>
   intro hs hl
   obtain⟨hk,⟨L,o,hf,hn,ho,hd⟩,hr⟩:=hl
   have hL:L∈X.fs:=hs L (by unfold frs;rw[A6u,hf];exact A6j)
   obtain⟨sl,e⟩:=I.base.slot L o ho (I.ok.frf L hL) hL fun z=>I.ok.Amo L z hL
   exact⟨hk,⟨L,_,hf,hn,e,hd⟩,ih (fun b hb=>hs b (by unfold frs;rw[A6u,hf];exact A6h _ hb)) hr⟩
 exact all X.outer (fun _ hb=>hb) I.ok.Afg
theorem Inv.stack(I:Inv X pins σ H s):s.heap.FunFrames X.base X.stack:=by
 rcases I.ok.stk with e | ⟨e,hf⟩
 ·rw[e];exact I.Afg
 ·rw[e]
  obtain⟨m,hn,_⟩:=I.loc
  refine .cons (by rw[I.ok.kind];decide) hf hn ?_ I.Afg
  exact Heap.get?_none_of_le (A5X I.ok.bsz I.ok.above)
theorem Inv.Amp(I:Inv X pins σ H s):∀ b∈frs X.stack,b∈X.env.locals::X.fs:=fun b hb=>by
 rcases I.ok.stk with e | ⟨e,hf⟩
 ·rw[e] at hb;exact A6h _ hb
 ·rw[e] at hb
  unfold frs at hb
  rw[A6u,hf] at hb
  exact hb
theorem Inv.Ah0(I:Inv X pins σ H s):∀ b∈frs X.stack,H b=none:=fun b hb=>by
 rcases List.mem_cons.mp (I.Amp b hb) with e | hb
 ·rw[e];exact I.free
 ·obtain⟨_,o,ho,_⟩:=I.ok.Afg.mem hb
  exact I.base.free b o ho (I.ok.frf b hb) fun z=>I.ok.Amo b z hb
theorem Inv.step{g':Array GenState}{t':Nat}{d':Drawn}{ch:List Addr}(I:Inv X pins σ H s)
  (hch:∀ b∈ch,(b∈X.ex∨X.s₀.heap.objs.size≤b)∧b≠X.env.locals∧(∀ x c,X.env.cells.lookup x=some c→c≠b)∧∀ p∈X.pn++pins,p.1≠b)
  (keep:∀ b o,b≠X.env.locals→b∉X.fs→b∉ch→s.heap.get? b=some o→H b=none→h'.get? b=some o)
  (slot:∀ b o,b≠X.env.locals→b∈X.fs→b∉ch→s.heap.get? b=some o→H b=none→∃ sl,h'.get? b=some { o with slots:=sl }) (free:∀ b o,b∉ch→s.heap.get? b=some o→H b=none→H' b=none)
  (there:∀ b o,b∉ch→s.heap.get? b=some o→∃ o',h'.get? b=some o')
  (tups:∀ b xs,H b=some (.tup xs)→H' b=some (.tup xs)) (Vk:∀ b o u,H b=some (.frz o u)→H' b=some (.frz o u)) (Wt:∀ b ps,H b=some (.tbl ps)→∃ more,H' b=some (.tbl (ps++more)))
  (ns:∀ m,s.heap.Ns X.env.locals m→h'.Ns X.env.locals m) (hok:HOk X.prog X.w H' h') (hg:AllBare g') :
  Inv X pins σ H' { s with heap:=h',gens:=g',drawn:=d',toks:=t' }:=by
 have neL:∀ b o,X.s₀.heap.get? b=some o→b≠X.env.locals:=fun b o e=>A5M (A5O (Heap.lt_size e) I.ok.above)
 have neC:∀ b o,X.s₀.heap.get? b=some o→b∉X.ex→b∉ch:=fun b o e hx hb=>by
  rcases(hch b hb).1 with z | z
  ·exact hx z
  ·exact absurd (A5O (Heap.lt_size e) z) (A5W _)
 have cellK:∀ x c,X.env.cells.lookup x=some c→∀ v,s.heap.IsCell c v→h'.IsCell c v:=fun x c e v ⟨o,ho,hd⟩=>by
  have nch:c∉ch:=fun z=>(hch c z).2.2.1 x c e rfl
  by_cases hc:c∈X.fs
  ·obtain⟨sl,q⟩:=slot c o (I.cne x c e) hc nch ho (I.V8 x c e)
   exact⟨_,q,hd⟩
  ·exact⟨o,keep c o (I.cne x c e) hc nch ho (I.V8 x c e),hd⟩
 refine⟨I.ok,I.os,hg,⟨fun b o e n hb hx=>?_,fun b o e n hb hx=>?_,fun b o e n hx=>?_,fun b o e hx=>?_,fun b xs e=>tups b xs (I.base.tups b xs e),fun b o xs e=>Vk b o xs (I.base.Vk b o xs e),fun b ps e=>?_⟩,?_,fun x c e=>?_,?_,fun x c e=>?_,fun p hp=>?_,hok,I.len⟩
 ·exact keep b o (neL b o e) hb (neC b o e hx) (I.base.keep b o e n hb hx) (I.base.free b o e n hx)
 ·obtain⟨sl,e1⟩:=I.base.slot b o e n hb hx
  obtain⟨sl',e2⟩:=slot b _ (neL b o e) hb (neC b o e hx) e1 (I.base.free b o e n hx)
  exact⟨sl',e2⟩
 ·obtain⟨o',e1⟩:=I.base.there b o e hx
  exact free b o' (neC b o e hx) e1 (I.base.free b o e n hx)
 ·obtain⟨o',e1⟩:=I.base.there b o e hx
  exact there b o' (neC b o e hx) e1
 ·obtain⟨m1,e1⟩:=I.base.Wt b ps e
  obtain⟨m2,e2⟩:=Wt b _ e1
  exact⟨m1++m2,by rw[e2,Array.append_assoc]⟩
 ·obtain⟨m,hn,hl⟩:=I.loc
  refine⟨m,ns m hn,fun i x v e1 e2 e3=>?_⟩
  obtain⟨u,r,l⟩:=hl i x v e1 e2 e3
  refine⟨u,r,?_⟩
  rcases l with l | ⟨k,c,e,z⟩
  ·exact .inl l
  ·exact .inr ⟨k,c,e,cellK x c e _ z⟩
 ·obtain⟨v,z⟩:=I.cell x c e
  exact⟨v,cellK x c e v z⟩
 ·obtain⟨m,⟨o,_,_,ho,_⟩,_⟩:=I.loc
  exact free _ o (fun z=>(hch _ z).2.1 rfl) ho I.free
 ·obtain⟨v,o,ho,hd⟩:=I.cell x c e
  exact free c o (fun z=>(hch c z).2.2.1 x c e rfl) ho (I.V8 x c e)
 ·obtain⟨e,n,ne,nf,d⟩:=I.pin p hp
  have nch:p.1∉ch:=fun z=>(hch p.1 z).2.2.2 p hp rfl
  exact⟨keep p.1 p.2 ne nf nch e n,free p.1 p.2 nch e n,ne,nf,d⟩
theorem Inv.un{t':Nat}(I:Inv X pins σ H s)(u:Un X.fs [] H H' s.heap h')(hok:HOk X.prog X.w H' h'):Inv X pins σ H' { s with heap:=h',toks:=t' }:=by
 obtain⟨m,⟨o,es,ep,ho,r⟩,_⟩:=id I.loc
 obtain⟨sl,hL⟩:=u.any ho I.free (by simp)
 exact I.step (g':=s.gens) (d':=s.drawn) (ch:=[]) (fun _ z=>nomatch z) (fun b o _ hb _ e n=>u.keep b o e n hb (by simp)) (fun b o _ hb _ e n=>u.slot b o e n hb (by simp)) (fun b o _ e n=>u.free b o e n (by simp)) (fun b o _ e=>u.there b o e (by simp)) u.tups u.Vk u.Wt (fun m' hm=>by
  obtain⟨o',es',ep',ho',r'⟩:=hm
  rw[ho] at ho';cases ho'
  exact⟨_,es',ep',hL,r'⟩) hok I.bare
theorem Inv.call{g':Array GenState}{t':Nat}{d':Drawn}{ch:List Addr}(I:Inv X pins σ H s)(u:Un (frs X.stack) ch H H' s.heap h')(hok:HOk X.prog X.w H' h')(hg:AllBare g')
  (hch:∀ b∈ch,(b∈X.ex∨X.s₀.heap.objs.size≤b)∧b≠X.env.locals∧(∀ x c,X.env.cells.lookup x=some c→c≠b)∧∀ p∈X.pn++pins,p.1≠b) :
  Inv X pins σ H' { s with heap:=h',gens:=g',drawn:=d',toks:=t' }:=by
 obtain⟨m,⟨o,es,ep,ho,r⟩,_⟩:=id I.loc
 obtain⟨sl,hL⟩:=u.any ho I.free fun z=>(hch _ z).2.1 rfl
 exact I.step (ch:=ch) hch (fun b o hL hb hc e n=>u.keep b o e n (fun z=>(List.mem_cons.mp (I.Amp b z)).elim hL hb) hc) (fun b o _ _ hc e n=>u.any e n hc) (fun b o hc e n=>u.free b o e n hc) (fun b o hc e=>u.there b o e hc) u.tups u.Vk u.Wt (fun m' hm=>by
  obtain⟨o',es',ep',ho',r'⟩:=hm
  rw[ho] at ho';cases ho'
  exact⟨_,es',ep',hL,r'⟩) hok hg
theorem Inv.turned{t':Nat}{it:Addr}(I:Inv X pins σ H s)(k:∀ b o,b≠it→s.heap.get? b=some o→h'.get? b=some o)(hn:H it=none)(hL:it≠X.env.locals)
  (h1:it∈X.ex∨X.s₀.heap.objs.size≤it) (h2:∀ x c,X.env.cells.lookup x=some c→c≠it) (h3:∀ p∈X.pn++pins,p.1≠it):Inv X pins σ H { s with heap:=h',toks:=t' }:=by
 have nit:∀ b u,H b=some u→b≠it:=fun b u e z=>by rw[z,hn] at e;cases e
 refine I.step (g':=s.gens) (d':=s.drawn) (ch:=[it]) (fun b hb=>?_) (fun b o _ _ hc e _=>k b o (fun z=>hc (by simp[z])) e) (fun b o _ _ hc e _=>⟨o.slots,k b o (fun z=>hc (by simp[z])) e⟩) (fun _ _ _ _ n=>n)
  (fun b o hc e=>⟨o,k b o (fun z=>hc (by simp[z])) e⟩) (fun _ _ e=>e) (fun _ _ _ e=>e) (fun b ps e=>⟨#[],by rw[e];simp⟩) (fun m hm=>?_) (fun b u e=>?_) I.bare
 ·have e:b=it:=by simpa using hb
  subst e
  exact⟨h1,hL,h2,h3⟩
 ·obtain⟨o,es,ep,ho,r⟩:=hm
  exact⟨o,es,ep,k _ o (Ne.symm hL) ho,r⟩
 ·refine(I.hok b u e).stay (fun c v hc q=>k c v ?_ q) (fun _ q=>q) fun _ _ q=>q
  rcases hc with z | z
  ·rw[z];exact nit b u e
  ·exact nit c _ z
theorem Inv.tok(I:Inv X pins σ H s)(t:Nat):Inv X pins σ H { s with toks:=t }:=I.un (h':=s.heap) (t':=t) Un.refl I.hok
theorem Inv.kept{t':Nat}(I:Inv X pins σ H s)(k:∀ b u,s.heap.get? b=some u→h'.get? b=some u):Inv X pins σ H { s with heap:=h',toks:=t' }:=I.un (Un.kept k) (I.hok.kept k)
theorem Inv.laid{a:Addr}{o:HO}{t':Nat}(I:Inv X pins σ H s)(k:∀ b u,s.heap.get? b=some u→h'.get? b=some u)(hp:s.heap.objs.size≤a)(new:PQ X.prog X.w (upd H a o) h' a o) :
  Inv X pins σ (upd H a o) { s with heap:=h',toks:=t' }:=I.un (Un.laid k hp (I.hok.fresh hp)) (I.hok.laid k hp new)
theorem Inv.write{x e:Addr}{o:HO}{t':Nat}(I:Inv X pins σ H s)(mu:Mut (H x))(he:e=x∨H e=some (.own x))(k:∀ b u,b≠e→s.heap.get? b=some u→h'.get? b=some u)(heo:∃ u,h'.get? e=some u)
  (new:PQ X.prog X.w (upd H x o) h' x o):Inv X pins σ (upd H x o) { s with heap:=h',toks:=t' }:=I.un (Un.write mu he k heo) (I.hok.write mu he k heo new)
theorem Inv.Rw{AzF:List (Addr × Obj)}(I:Inv X pins σ H s)(h:∀ p∈AzF,s.heap.get? p.1=some p.2∧H p.1=none∧p.1≠X.env.locals∧p.1∉X.fs∧∀ v,p.2.data≠.cell v):Inv X AzF σ H s :=
 ⟨I.ok,I.os,I.bare,I.base,I.loc,I.cell,I.free,I.V8,fun p hp=>(List.mem_append.mp hp).elim (fun z=>I.pin p (A6P _ z)) (h p),I.hok,I.len⟩
theorem Amq{N:List Str}(hN:N.Nodup){i j:Nat}{x:Str}(a:N[i]?=some x)(b:N[j]?=some x):i=j:=by
 obtain⟨h1,e1⟩:=List.getElem?_eq_some_iff.mp a
 obtain⟨h2,e2⟩:=List.getElem?_eq_some_iff.mp b
 exact(List.getElem_inj hN).mp (e1.trans e2.symm)
theorem Ae8{M:Model}{A:Around}{E:Value→Shared→Prop}{i:Nat}{x:Str}{v:V}{u:Value}{Q:Unit→Shared→Prop}(I:Inv X pins σ H s)(hN:X.N.Nodup)(hi:X.N[i]?=some x)(hx:Loc X.env.scope x)(r:RelV v u)
  (h:∀ s',Inv X pins (σ.set i (some v)) H s'→(∃ a,Heap.SameBut a s.heap s'.heap∧(a=X.env.locals∨X.env.cells.lookup x=some a))→Q () s') (hf:X.fn x=true∨X.env.scope.names.lookup x=some .local:=by first | exact .inl rfl | exact .inr rfl | assumption):wpAny M A (storeName X.env x u) Q E s:=by
 obtain⟨m,hn,hl⟩:=id I.loc
 have hcls:(X.env.scope.kind == .class || (X.env.scope.kind == .module && X.env.locals != X.env.globals))=false:=by rw[I.ok.kind];rfl
 have hiσ:i<σ.length:=by rw[I.len];exact(List.getElem?_eq_some_iff.mp hi).1
 have cne:=I.cne
 have tracked:∀{a:Addr} {h':Heap},(∃ o,s.heap.get? a=some o∧H a=none)→Heap.SameBut a s.heap h'→HOk X.prog X.w H h':=fun {a h'} ha hs b ob e=>by
  obtain⟨_,_,hfree⟩:=ha
  refine(I.hok b ob e).stay (fun c w' hc q=>(hs.2 c ?_).trans q) (fun _ q=>q) fun _ _ q=>q
  rintro rfl
  rcases hc with rfl | hc
  ·rw[hfree] at e;cases e
  ·rw[hfree] at hc;cases hc
 rcases hx with hk | hk
 ·refine wpAny_storeName_local hk hn (fun h' hn' hs=>?_) hcls
  obtain⟨oL,_,_,hoL,_⟩:=id hn
  refine h _ ⟨I.ok,I.os,I.bare,⟨fun b o e n hb hx=>?_,fun b o e n hb hx=>?_,I.base.free,fun b o e hx=>?_,I.base.tups,I.base.Vk,I.base.Wt⟩,⟨_,hn',fun j y v' e1 e2 e3=>?_⟩,fun y c e=>?_,I.free,I.V8,fun p hp=>?_,tracked ⟨oL,hoL,I.free⟩ hs,by simpa using I.len⟩ ⟨_,hs,.inl rfl⟩
  ·exact(hs.2 b (A5M (A5O (Heap.lt_size e) I.ok.above))).trans (I.base.keep b o e n hb hx)
  ·obtain⟨sl,e1⟩:=I.base.slot b o e n hb hx
   exact⟨sl,(hs.2 b (A5M (A5O (Heap.lt_size e) I.ok.above))).trans e1⟩
  ·obtain⟨o',e1⟩:=I.base.there b o e hx
   exact⟨o',(hs.2 b (A5M (A5O (Heap.lt_size e) I.ok.above))).trans e1⟩
  ·by_cases hj:j=i
   ·subst hj
    rw[hi] at e1;cases e1
    rw[List.getElem?_set_self hiσ] at e2
    cases e2
    exact⟨u,r,.inl ⟨hk,by simp⟩⟩
   ·rw[A7j (Ne.symm hj)] at e2
    obtain⟨u',r',q⟩:=hl j y v' e1 e2 e3
    refine⟨u',r',?_⟩
    rcases q with ⟨k,e⟩ | ⟨k,c,e,z⟩
    ·refine .inl ⟨k,?_⟩
     have:y≠x:=fun e=>hj (Amq hN e1 (e▸hi))
     simp[this,e]
    ·exact .inr ⟨k,c,e,z.sameBut hs (cne y c e)⟩
  ·obtain⟨w',z⟩:=I.cell y c e
   exact⟨w',z.sameBut hs (cne y c e)⟩
  ·obtain⟨e,n,ne,nf,d⟩:=I.pin p hp
   exact⟨(hs.2 p.1 ne).trans e,n,ne,nf,d⟩
 ·have hfn:X.fn x=true:=by
   rcases hf with z | z
   ·exact z
   ·rw[z] at hk;cases hk
  obtain⟨c,hc⟩:=I.ok.has x (.inl hk)
  obtain⟨w',z⟩:=I.cell x c hc
  refine wpAny_storeName_cell I.ok.kind hk hc z (fun h' hc' hs=>?_)
  obtain⟨oc,hoc,A3o⟩:=id z
  refine h { s with heap:=h' } ⟨I.ok,I.os,I.bare,⟨fun b o e n hb hx=>?_,fun b o e n hb hx=>?_,I.base.free,fun b o e hx=>?_,I.base.tups,I.base.Vk,I.base.Wt⟩,⟨m,hn.sameBut hs (Ne.symm (cne x c hc)),fun j y v' e1 e2 e3=>?_⟩,fun y c' e=>?_,I.free,I.V8,fun p hp=>?_,tracked ⟨oc,hoc,I.V8 x c hc⟩ hs,by simpa using I.len⟩ ⟨c,hs,.inr hc⟩
  ·exact(hs.2 b (A5M (A5O (Heap.lt_size e) (I.ok.cab x c hfn hc)))).trans (I.base.keep b o e n hb hx)
  ·obtain⟨sl,e1⟩:=I.base.slot b o e n hb hx
   exact⟨sl,(hs.2 b (A5M (A5O (Heap.lt_size e) (I.ok.cab x c hfn hc)))).trans e1⟩
  ·obtain⟨o',e1⟩:=I.base.there b o e hx
   exact⟨o',(hs.2 b (A5M (A5O (Heap.lt_size e) (I.ok.cab x c hfn hc)))).trans e1⟩
  ·by_cases hj:j=i
   ·subst hj
    rw[hi] at e1;cases e1
    rw[List.getElem?_set_self hiσ] at e2
    cases e2
    exact⟨u,r,.inr ⟨.inl hk,c,hc,hc'⟩⟩
   ·rw[A7j (Ne.symm hj)] at e2
    obtain⟨u',r',q⟩:=hl j y v' e1 e2 e3
    refine⟨u',r',?_⟩
    rcases q with q | ⟨k,c',e,z'⟩
    ·exact .inl q
    ·refine .inr ⟨k,c',e,z'.sameBut hs ?_⟩
     rintro rfl
     exact hj (Amq hN e1 (I.ok.inj _ _ _ e hc▸hi))
  ·by_cases hcc:c'=c
   ·subst hcc;exact⟨_,hc'⟩
   ·obtain⟨w2,z2⟩:=I.cell y c' e
    exact⟨w2,z2.sameBut hs hcc⟩
  ·obtain⟨e,n,ne,nf,d⟩:=I.pin p hp
   refine⟨(hs.2 p.1 ?_).trans e,n,ne,nf,d⟩
   intro q
   rw[q,hoc] at e
   have q':oc=p.2:=Option.some.inj e
   exact d w' (by rw[← q'];exact A3o)
theorem Ah1{M:Model}{A:Around}{E:Value→Shared→Prop}{i:Nat}{x:Str}{v:V}{u:Value}{Q:Unit→Shared→Prop}(I:Inv X pins σ H s)(hN:X.N.Nodup)(hi:X.N[i]?=some x)(hx:Loc X.env.scope x)(r:RelV v u)
  (h:∀ s',Inv X pins (σ.set i (some v)) H s'→Q () s') (hf:X.fn x=true∨X.env.scope.names.lookup x=some .local:=by first | exact .inl rfl | exact .inr rfl | assumption):wpAny M A (storeName X.env x u) Q E s :=
 Ae8 I hN hi hx r (fun s' I' _=>h s' I') hf
theorem Inv.call'{s':Shared}{ch:List Addr}(I:Inv X pins σ H s)(ho:s'.os=s.os)(u:Un (frs X.stack) ch H H' s.heap s'.heap)(hok:HOk X.prog X.w H' s'.heap)(hg:AllBare s'.gens)
  (hch:∀ b∈ch,(b∈X.ex∨X.s₀.heap.objs.size≤b)∧b≠X.env.locals∧(∀ x c,X.env.cells.lookup x=some c→c≠b)∧∀ p∈X.pn++pins,p.1≠b):Inv X pins σ H' s':=by
 obtain⟨h',g',d',t',o'⟩:=s'
 have e:o'=s.os:=ho
 subst e
 exact I.call (g':=g') (t':=t') (d':=d') u hok hg hch
end
abbrev XK:=Value→Option Addr→Hp→Prop
abbrev St:=List (Option V)
abbrev VK:=V→Hp→Prop
abbrev TE:=St→Hp→VK→Prop
abbrev TT:=St→Hp→(Bool→Hp→Prop)→Prop
abbrev TA:=St→Hp→(List V→Hp→Prop)→Prop
structure Ends where
 nx:St→Hp→Prop
 rt:VK
 bk:St→Hp→Prop:=fun _ _=>False
 ct:St→Hp→Prop:=fun _ _=>False
abbrev TS:=Ends→St→Hp→Prop
def EP (X:Cx)(pins:List (Addr × Obj))(σ:St)(Q:VK)(u:Value)(s':Shared):Prop:=∃ v H',Inv X pins σ H' s'∧RelV v u∧Q v H'
def TP (X:Cx)(pins:List (Addr × Obj))(σ:St)(Q:Bool→Hp→Prop)(b:Bool)(s':Shared):Prop:=∃ H',Inv X pins σ H' s'∧Q b H'
def AP (X:Cx)(pins:List (Addr × Obj))(σ:St)(Q:List V→Hp→Prop)(us:List Value)(s':Shared):Prop:=∃ vs H',Inv X pins σ H' s'∧Vals vs us∧Q vs H'
def SP (X:Cx)(pins:List (Addr × Obj))(D:Ends)(f:Flow)(s':Shared):Prop :=
 match f with
 | .next=>∃ σ' H',Inv X pins σ' H' s'∧D.nx σ' H'
 | .brk=>∃ σ' H',Inv X pins σ' H' s'∧D.bk σ' H'
 | .cont=>∃ σ' H',Inv X pins σ' H' s'∧D.ct σ' H'
 | .ret u=>∃ v σ' H',Inv X pins σ' H' s'∧RelV v u∧D.rt v H'
def PE (X:Cx)(e:Expr)(t:TE):Prop :=
 ∀(pins:List (Addr × Obj)) (s:Shared) (σ:St) (H:Hp) (Q:VK),Inv X pins σ H s→t σ H Q→wpAny (model X.prog X.w) X.A (eval e X.env) (EP X pins σ Q) X.xe s
def PT (X:Cx)(e:Expr)(t:TT):Prop :=
 ∀(pins:List (Addr × Obj)) (s:Shared) (σ:St) (H:Hp) (Q:Bool→Hp→Prop),Inv X pins σ H s→t σ H Q→wpAny (model X.prog X.w) X.A (isTrue e X.env (eval e X.env)) (TP X pins σ Q) X.xe s
def PW (X:Cx)(e:Expr)(t:TT):Prop :=
 ∀(whole:Sem Value) (pins:List (Addr × Obj)) (s:Shared) (σ:St) (H:Hp) (Q:Bool→Hp→Prop),Inv X pins σ H s→t σ H Q→wpAny (model X.prog X.w) X.A (isTrue e X.env whole) (TP X pins σ Q) X.xe s
theorem PW.pt{X:Cx}{e:Expr}{t:TT}(h:PW X e t):PT X e t:=h _
def PA (X:Cx)(es:List Expr)(t:TA):Prop :=
 ∀(pos:Pos) (pins:List (Addr × Obj)) (s:Shared) (σ:St) (H:Hp) (Q:List V→Hp→Prop),Inv X pins σ H s→t σ H Q→wpAny (model X.prog X.w) X.A (spliced (backTo pos (starEach es X.env))) (AP X pins σ Q) X.xe s
def PS (X:Cx)(st:Stmt)(t:TS):Prop :=
 ∀(pins:List (Addr × Obj)) (s:Shared) (σ:St) (H:Hp) (D:Ends),Inv X pins σ H s→t D σ H→wpAny (model X.prog X.w) X.A (exec st X.env) (SP X pins D) X.xe s
def PSs (X:Cx)(st:List Stmt)(t:TS):Prop :=
 ∀(pins:List (Addr × Obj)) (s:Shared) (σ:St) (H:Hp) (D:Ends),Inv X pins σ H s→t D σ H→wpAny (model X.prog X.w) X.A (execs st X.env) (SP X pins D) X.xe s
theorem thn{α:Type}{t:Sem α}{Q Q':α→Shared→Prop}{M:Model}{A:Around}{E:Value→Shared→Prop}{s:Shared}(h:wpAny M A t Q E s)(hQ:∀ a s,Q a s→Q' a s):wpAny M A t Q' E s:=wpAny_mono h hQ fun _ _ x=>x
open PySem PySem.Spec PyProof.Rows
section
variable {X:Cx}
def A1y (i:Nat):TE:=fun σ H Q=>∃ v,σ[i]?=some (some v)∧Q v H
def tC (v:V):TE:=fun _ H Q=>Q v H
theorem AzY{i:Nat}{x:Str}{pos:Pos}(hN:X.N[i]?=some x)(hv:Vis X.env.scope x)(hd:(x == ("__debug__" : Str))=false:=by decide) (hcd:(x == ("__classdict__" : Str))=false:=by decide):PE X (.Name x pos) (A1y i):=by
 intro pins s σ H Q I h
 obtain⟨v,e,h⟩:=h
 obtain⟨m,hn,hl⟩:=I.loc
 obtain⟨u,r,l⟩:=hl i x v hN e hv
 have fin:EP X pins σ Q u s:=⟨v,H,I,r,h⟩
 rcases l with ⟨hk,hm⟩ | ⟨hk,c,hc,hcell⟩
 ·exact wpAny_Name (wpAny_loadName_local I.ok.kind hk hn hm fin) hd
 ·rcases hk with hk | hk
  ·exact wpAny_Name (wpAny_loadName_cell I.ok.kind hk hc hcell fin) hd
  ·exact wpAny_Name (wpAny_loadName_free I.ok.kind hk hc hcell fin hcd) hd
theorem Am{i j pos}:PE X (.Constant (.int i) j pos) (tC (.int i)):=fun _ _ _ H _ I h=>wpAny_Constant_int ⟨.int i,H,I.tok _,⟨_,rfl⟩,h⟩
theorem AuA{b j pos}:PE X (.Constant (.bool b) j pos) (tC (.bl b)):=fun _ _ _ H _ I h=>Constant_bool ⟨.bl b,H,I,rfl,h⟩
theorem Abr{j pos}:PE X (.Constant .none j pos) (tC .non):=fun _ _ _ H _ I h=>Constant_none ⟨.non,H,I,rfl,h⟩
theorem Af{x j pos}:PE X (.Constant (.str x) j pos) (tC (.str x)):=fun _ _ _ H _ I h=>Calls.Constant_str ⟨.str x,H,I.tok _,⟨_,rfl⟩,h⟩
def Gl (X:Cx)(x:Str):Prop:=X.env.kindOf x=some .globalImplicit
theorem Ae9{E:Value→Shared→Prop}{pins:List (Addr × Obj)}{s:Shared}{σ:St}{H:Hp}{x:Str}{u:Value}{pos:Pos}{Q:Value→Shared→Prop}(I:Inv X pins σ H s)(hg:Gl X x)(hm:X.mg x=some u)(h:Q u s)
  (hd:(x == ("__debug__" : Str))=false:=by decide):wpAny (model X.prog X.w) X.A (eval (.Name x pos) X.env) Q E s :=
 Calls.Name_function_global I.ok.kind hg (Calls.loadGlobal_global (by rw[I.ok.glob];exact I.mod.glob.keeps I.bk) hm h) hd
theorem ZC{E:Value→Shared→Prop}{pins:List (Addr × Obj)}{s:Shared}{σ:St}{H:Hp}{x:Str}{u:Value}{pos:Pos}{Q:Value→Shared→Prop}(I:Inv X pins σ H s)(hg:Gl X x)(hm:X.mg x=none)(hv:bootBuiltins x=some u)(h:Q u s)
  (hn:x ≠ "__name__" := by decide) (hd:(x == ("__debug__" : Str))=false:=by decide):wpAny (model X.prog X.w) X.A (eval (.Name x pos) X.env) Q E s:=by
 obtain⟨mb,h1,h2⟩:=I.mod.blt
 exact Calls.Name_function_global I.ok.kind hg (Calls.loadGlobal_builtin (by rw[I.ok.glob];exact I.mod.glob.keeps I.bk) hm (by rw[I.ok.blt];exact h1.keeps I.bk) ((h2 x hn).trans hv) h) hd
theorem Cq{x:Str}{v:V}{u:Value}{pos:Pos}(hg:Gl X x)(hm:X.mg x=some u)(r:RelV v u)(hd:(x == ("__debug__" : Str))=false:=by decide):PE X (.Name x pos) (tC v) :=
 fun _ _ _ H _ I h=>Ae9 I hg hm ⟨v,H,I,r,h⟩ hd
theorem Ay8{x:Str}{v:V}{u:Value}{pos:Pos}(hg:Gl X x)(hm:X.mg x=none)(hv:bootBuiltins x=some u)(r:RelV v u)(hn:x ≠ "__name__" := by decide) (hd:(x == ("__debug__" : Str))=false:=by decide):PE X (.Name x pos) (tC v) :=
 fun _ _ _ H _ I h=>ZC I hg hm hv ⟨v,H,I,r,h⟩ hn hd
def t2I (ta tb:TE)(k:Int→Int→Hp→Prop):St→Hp→Prop:=fun σ H=>ta σ H fun x H1=>tb σ H1 fun y H2=>∃ i j,x=.int i∧y=.int j∧k i j H2
def A4S (ta tb:TE):TE:=fun σ H Q=>t2I ta tb (fun i j H2=>Q (.int (i+j)) H2) σ H
def A4T (ta tb:TE):TE:=fun σ H Q=>t2I ta tb (fun i j H2=>Q (.int (i-j)) H2) σ H
def A4U (ta tb:TE):TE:=fun σ H Q=>t2I ta tb (fun i j H2=>(-(2 ^ 64)<i∧i<2 ^ 64)∧Q (.int (i*j)) H2) σ H
variable {a b:Expr}{ta tb:TE}{pos:Pos}
def PC (X:Cx)(op:CmpOp)(a b:Expr)(t:TE):Prop :=
 ∀(pins:List (Addr × Obj)) (s:Shared) (σ:St) (H:Hp) (Q:VK),Inv X pins σ H s→t σ H Q →
  wpAny (model X.prog X.w) X.A (eval a X.env) (fun v s₁=>wpAny (model X.prog X.w) X.A (eval b X.env) (fun u s₂=>wpAny (model X.prog X.w) X.A (compareOp op v u) (EP X pins σ Q) X.xe s₂) X.xe s₁) X.xe s
theorem Aw3(b:Expr){op:CmpOp}(h:op≠.In)(h2:op≠.NotIn):behindInMarks op b=false:=by
 have e1:(op == CmpOp.In)=false:=by cases op <;> first | rfl | exact absurd rfl h
 have e2:(op == CmpOp.NotIn)=false:=by cases op <;> first | rfl | exact absurd rfl h2
 cases b <;> simp[behindInMarks,e1,e2]
def Avw (p:Int→Int→Bool)(ta tb:TE):TE:=fun σ H Q=>t2I ta tb (fun i j H2=>Q (.bl (p i j)) H2) σ H
abbrev tLt:TE→TE→TE:=Avw fun i j=>decide (i<j)
abbrev tLe:TE→TE→TE:=Avw fun i j=>decide (i≤j)
abbrev tGt:TE→TE→TE:=Avw fun i j=>decide (j<i)
abbrev tGe:TE→TE→TE:=Avw fun i j=>decide (j≤i)
abbrev A4V:TE→TE→TE:=Avw fun i j=>decide (i=j)
abbrev A4W:TE→TE→TE:=Avw fun i j=>!decide (i=j)
def A4X (ta:TE):TE:=fun σ H Q=>ta σ H fun x H1=>Q (.bl (decide (x=.non))) H1
def A4u (ta:TE):TE:=fun σ H Q=>ta σ H fun x H1=>Q (.bl (!decide (x=.non))) H1
def tB (t:TE):TT:=fun σ H Q=>t σ H fun x H1=>∃ c,x=.bl c∧Q c H1
theorem AzZ{op:CmpOp}{t:TE}(h:PC X op a b t)(h1:behindInMarks op b=false:=by first | exact Aw3 _ (by decide) (by decide) | rfl):PT X (.Compare a [op] [b] pos) (tB t):=by
 intro pins s σ H Q I hw
 refine wpAny_isTrue_Compare1 (thn (h pins s σ H _ I hw) fun v s1 h1=>thn h1 fun u s2 h2=>thn h2 fun c s3 ⟨x,H1,I1,r1,q1⟩=>?_) h1
 obtain⟨d,rfl,q⟩:=q1
 cases r1
 exact wpAny_truthy_bool ⟨H1,I1,q⟩
theorem Rx{e:Expr}{t:TE}(h:PE X e t)(he:∀ whole,isTrue e X.env whole=(do let v ← whole;standAt e.pos;holding [v] (truthy v)):=by intro _;rfl):PT X e (tB t):=by
 intro pins s σ H Q I hw
 refine isTrue_plain (thn (h pins s σ H _ I hw) fun v s1 ⟨x,H1,I1,r1,q1⟩=>?_) (he _)
 obtain⟨d,rfl,q⟩:=q1
 cases r1
 exact wpAny_truthy_bool ⟨H1,I1,q⟩
variable {tA tB':TT}{rest:List Expr}
def A3p (t u:TT):TT:=fun σ H Q=>t σ H fun c H1=>if c=true then u σ H1 Q else Q false H1
def tOr (t u:TT):TT:=fun σ H Q=>t σ H fun c H1=>if c=true then Q true H1 else u σ H1 Q
def A3q (t:TT):TT:=fun σ H Q=>t σ H fun c H1=>Q (!c) H1
theorem pw_and1(ha:PT X a tA):PW X (.BoolOp .And [a] pos) tA:=by
 intro wh pins s σ H Q I h
 refine isTrue_and (thn (ha pins s σ H Q I h) fun c s1 e=>?_)
 cases c with
 | true=>exact isTrue_and_nil e
 | false=>exact e
theorem pw_or1(ha:PT X a tA):PW X (.BoolOp .Or [a] pos) tA:=by
 intro wh pins s σ H Q I h
 refine isTrue_or (thn (ha pins s σ H Q I h) fun c s1 e=>?_)
 cases c with
 | false=>exact isTrue_or_nil e
 | true=>exact e
theorem pw_and(ha:PT X a tA)(hb:PW X (.BoolOp .And (b::rest) pos) tB'):PW X (.BoolOp .And (a::b::rest) pos) (A3p tA tB'):=by
 intro wh pins s σ H Q I h
 refine isTrue_and (thn (ha pins s σ H _ I h) fun c s1 ⟨H1,I1,q1⟩=>?_)
 cases c with
 | true=>exact hb wh pins s1 σ H1 Q I1 q1
 | false=>exact⟨H1,I1,q1⟩
theorem pw_or(ha:PT X a tA)(hb:PW X (.BoolOp .Or (b::rest) pos) tB'):PW X (.BoolOp .Or (a::b::rest) pos) (tOr tA tB'):=by
 intro wh pins s σ H Q I h
 refine isTrue_or (thn (ha pins s σ H _ I h) fun c s1 ⟨H1,I1,q1⟩=>?_)
 cases c with
 | true=>exact⟨H1,I1,q1⟩
 | false=>exact hb wh pins s1 σ H1 Q I1 q1
theorem Wu(ha:PT X a tA):PT X (.UnaryOp .Not a pos) (A3q tA):=by
 intro pins s σ H Q I h
 exact isTrue_not (ha pins s σ H (fun c H1=>Q (!c) H1) I h)
def A1z (ta tb:TE):TE:=fun σ H Q=>ta σ H fun x H1=>∃ c,x=.bl c∧if c=true then tb σ H1 Q else Q (.bl false) H1
def A4Y (ta tb:TE):TE:=fun σ H Q=>ta σ H fun x H1=>∃ c,x=.bl c∧if c=true then Q (.bl true) H1 else tb σ H1 Q
def A1G (ta:TE):TE:=fun σ H Q=>ta σ H fun x H1=>∃ c,x=.bl c∧Q (.bl (!c)) H1
theorem Aji{op}{t:TE}(h:PE X a t):PE X (.BoolOp op [a] pos) t:=fun pins s σ H Q I hw=>BoolOp_one (h pins s σ H Q I hw)
theorem Agm(ha:PE X a ta)(hb:PE X (.BoolOp .And (b::rest) pos) tb):PE X (.BoolOp .And (a::b::rest) pos) (A1z ta tb):=by
 intro pins s σ H Q I h
 refine BoolOp_and (thn (ha pins s σ H _ I h) fun v s1 ⟨x,H1,I1,r1,q1⟩=>?_)
 obtain⟨c,rfl,q1⟩:=q1
 cases r1
 refine wpAny_truthy_bool ?_
 cases c with
 | true=>exact hb pins s1 σ H1 Q I1 q1
 | false=>exact⟨.bl false,H1,I1,rfl,q1⟩
theorem Aqj(ha:PE X a ta):PE X (.UnaryOp .Not a pos) (A1G ta):=by
 intro pins s σ H Q I h
 refine UnaryOp_ (thn (ha pins s σ H _ I h) fun v s1 ⟨x,H1,I1,r1,q1⟩=>?_)
 obtain⟨c,rfl,q1⟩:=q1
 cases r1
 exact not_of (wpAny_truthy_bool ⟨.bl (!c),H1,I1,rfl,q1⟩)
def tIf (t:TT)(ta tb:TE):TE:=fun σ H Q=>t σ H fun c H1=>if c=true then ta σ H1 Q else tb σ H1 Q
theorem AcQ{c:Expr}(hc:PT X c tA)(ha:PE X a ta)(hb:PE X b tb):PE X (.IfExp c a b pos) (tIf tA ta tb):=by
 intro pins s σ H Q I h
 refine wpAny_IfExp (thn (hc pins s σ H _ I h) fun d s1 ⟨H1,I1,q1⟩=>?_)
 cases d with
 | true=>exact ha pins s1 σ H1 Q I1 q1
 | false=>exact hb pins s1 σ H1 Q I1 q1
end
open PySem PySem.Spec PyProof.Rows
def SqL (K:PySem.W.Frag)(H:Hp)(a:Addr)(xs:List V):Prop :=
 Rd H a (.lst xs) ∨
  ∃(o:Obj) (its:Array Value) (n:Nat),K.lookup a=some o∧o.cls=.type "list" ∧ o.dict=none∧o.data=.seq its n∧its.size≤sizeLine∧Vals xs its.toList
def SqT (K:PySem.W.Frag)(H:Hp)(a:Addr)(xs:List V):Prop :=
 Rd H a (.tup xs) ∨
  ∃(o:Obj) (its:Array Value) (n:Nat),K.lookup a=some o∧o.cls=.type "tuple" ∧ o.data=.seq its n∧its.size≤sizeLine∧Vals xs its.toList
def A3r:Value→Option V
 | .none=>some .non
 | .bool b=>some (.bl b)
 | .int i _=>some (.int i)
 | .str x _=>some (.str x)
 | .bytes b _=>some (.byt b)
 | .float b _=>some (.flt b)
 | .ref a=>some (.ref a)
 | .type n=>some (.ty n)
 | _=>none
theorem RelV.abs{x:V}{u:Value}(r:RelV x u):A3r u=some x:=by
 cases x with
 | non=>cases r;rfl
 | bl _=>cases r;rfl
 | int _=>obtain⟨t,rfl⟩:=r;rfl
 | str _=>obtain⟨t,rfl⟩:=r;rfl
 | byt _=>obtain⟨t,rfl⟩:=r;rfl
 | flt _=>obtain⟨t,rfl⟩:=r;rfl
 | ref _=>cases r;rfl
 | ty _=>cases r;rfl
theorem RelV.inj{x y:V}{u:Value}(r:RelV x u)(q:RelV y u):x=y:=Option.some.inj (r.abs.symm.trans q.abs)
theorem Vals.inj:∀{xs ys:List V} {us:List Value},Vals xs us→Vals ys us→xs=ys
 | _,_,_,.nil,.nil=>rfl
 | _,_,_,.cons r t,.cons r' t'=>by rw[r.inj r',Vals.inj t t']
section
variable {X:Cx}{pins:List (Addr × Obj)}{σ:St}{H:Hp}{s:Shared}{a:Addr}{xs ys:List V}
theorem SqL.of{K:PySem.W.Frag}(h:H a=some (.lst xs)):SqL K H a xs:=.inl (.inl h)
theorem SqT.of{K:PySem.W.Frag}(h:H a=some (.tup xs)):SqT K H a xs:=.inl (.inl h)
theorem Inv.list(I:Inv X pins σ H s)(h:SqL X.K H a xs):∃ its:List Value,Vals xs its∧PlainL s.heap a its.toArray∧xs.length≤sizeLine:=by
 rcases h with h | ⟨o,its,n,hk,hc,hd,hs,hz,r⟩
 ·obtain⟨z,its,n,r,e⟩:=h.ok I.hok
  exact⟨its,r,⟨_,n,e,rfl,rfl,rfl⟩,z⟩
 ·refine⟨its.toList,r,⟨o,n,I.kIn a o hk,hc,hd,by simpa using hs⟩,?_⟩
  have e:=r.length
  simp only [Array.length_toList] at e
  omega
theorem Inv.tuple(I:Inv X pins σ H s)(h:SqT X.K H a xs):∃ its:List Value,Vals xs its∧IsTup s.heap a its.toArray∧xs.length≤sizeLine:=by
 rcases h with h | ⟨o,its,n,hk,hc,hs,hz,r⟩
 ·obtain⟨z,its,r,p⟩:=h.ok I.hok
  exact⟨its,r,p,z⟩
 ·refine⟨its.toList,r,⟨o,I.kIn a o hk,hc,n,by simpa using hs⟩,?_⟩
  have e:=r.length
  simp only [Array.length_toList] at e
  omega
theorem Inv.Wv(I:Inv X pins σ H s)(h:SqL X.K H a xs)(h':SqL X.K H a ys):xs=ys:=by
 obtain⟨its,r,⟨o,n,e,_,_,d⟩,_⟩:=I.list h
 obtain⟨its',r',⟨o',n',e',_,_,d'⟩,_⟩:=I.list h'
 rw[e] at e';cases e'
 rw[d] at d'
 injection d' with d1 _
 have:its=its':=by simpa using congrArg Array.toList d1
 subst this
 exact r.inj r'
end
abbrev Cx.wish (X:Cx) (E:Value→Shared→Prop):Cx:={ X with xe:=E }
abbrev Cx.nox (X:Cx):Cx:=X.wish fun _ _=>False
theorem Cx.Ok.wish{X:Cx}(ok:X.Ok)(E:Value→Shared→Prop):(X.wish E).Ok :=
 ⟨ok.mod,ok.kind,ok.glob,ok.blt,ok.above,ok.inj,ok.has,ok.cab,ok.hd,ok.frames,ok.stk,ok.exf,ok.bs,ok.bsz,ok.AoM,ok.Amo,ok.Afg,ok.frf⟩
theorem Cx.Ok.Ry{X:Cx}{E:Value→Shared→Prop}(ok:(X.wish E).Ok):X.Ok :=
 ⟨ok.mod,ok.kind,ok.glob,ok.blt,ok.above,ok.inj,ok.has,ok.cab,ok.hd,ok.frames,ok.stk,ok.exf,ok.bs,ok.bsz,ok.AoM,ok.Amo,ok.Afg,ok.frf⟩
section
variable {X:Cx}{pins:List (Addr × Obj)}{σ:St}{H:Hp}{s:Shared}{E:Value→Shared→Prop}
theorem Inv.wish(I:Inv X pins σ H s)(E:Value→Shared→Prop):Inv (X.wish E) pins σ H s:=⟨I.ok.wish E,I.os,I.bare,I.base,I.loc,I.cell,I.free,I.V8,I.pin,I.hok,I.len⟩
theorem Inv.Ry(I:Inv (X.wish E) pins σ H s):Inv X pins σ H s:=⟨I.ok.Ry,I.os,I.bare,I.base,I.loc,I.cell,I.free,I.V8,I.pin,I.hok,I.len⟩
theorem SP.Ry{D:Ends}{f:Flow}{s':Shared}(h:SP (X.wish E) pins D f s'):SP X pins D f s':=by
 cases f with
 | next=>obtain⟨σ',H',I,q⟩:=h;exact⟨σ',H',I.Ry,q⟩
 | brk=>obtain⟨σ',H',I,q⟩:=h;exact⟨σ',H',I.Ry,q⟩
 | cont=>obtain⟨σ',H',I,q⟩:=h;exact⟨σ',H',I.Ry,q⟩
 | ret u=>obtain⟨v,σ',H',I,r,q⟩:=h;exact⟨v,σ',H',I.Ry,r,q⟩
theorem PE.nox{e:Expr}{t:TE}(h:PE X.nox e t):PE X e t:=fun pins s σ H Q I hw =>
 wpAny_mono (h pins s σ H Q (I.wish _) hw) (fun _ _ ⟨v,H',I',r,q⟩=>⟨v,H',I'.Ry,r,q⟩) fun _ _ z=>False.elim z
theorem PSs.nox{st:List Stmt}{t:TS}(h:PSs X.nox st t):PSs X st t:=fun pins s σ H D I hw =>
 wpAny_mono (h pins s σ H D (I.wish _) hw) (fun _ _ q=>q.Ry) fun _ _ z=>False.elim z
end
section
variable {X:Cx}{st:Stmt}{rest:List Stmt}{t u:TS}{e:Expr}{te:TE}{pos:Pos}
def A1H:TS:=fun D σ H=>D.nx σ H
def A3s (t u:TS):TS:=fun D σ H=>t { D with nx:=u D } σ H
theorem Bf:PSs X [] A1H:=fun _ _ σ H _ I h=>wpAny_execs_nil ⟨σ,H,I,h⟩
theorem Ae(h1:PS X st t)(h2:PSs X rest u):PSs X (st::rest) (A3s t u):=by
 intro pins s σ H D I h
 refine wpAny_execs_cons (thn (h1 pins s σ H { D with nx:=u D } I h) fun f s1 q=>?_)
 cases f with
 | next =>
  obtain⟨σ',H',I',q⟩:=q
  exact h2 pins s1 σ' H' D I' q
 | ret v=>exact q
 | brk=>exact q
 | cont=>exact q
theorem Ag(h1:PS X st t):PSs X [st] t:=by
 intro pins s σ H D I h
 refine wpAny_execs_cons (thn (h1 pins s σ H D I h) fun f s1 q=>?_)
 cases f with
 | next=>exact wpAny_execs_nil q
 | ret v=>exact q
 | brk=>exact q
 | cont=>exact q
def A3t:TS:=fun D σ H=>D.bk σ H
def A4v:TS:=fun D σ H=>D.ct σ H
theorem Inv.quiet{pins:List (Addr × Obj)}{σ:St}{H:Hp}{s:Shared}(I:Inv X pins σ H s):interactive X.env=false:=by simp[interactive,I.ok.kind]
def A1I (te:TE):TS:=fun D σ H=>te σ H fun _ H1=>D.nx σ H1
theorem BX(he:PE X e te)(hs:swapsWith e none pos.line X.env=pure false:=by rfl):PS X (.Expr e pos) (A1I te):=by
 intro pins s σ H D I h
 exact wpAny_Expr_any (thn (he pins s σ H _ I h) fun v s1 ⟨x,H1,I1,r1,q1⟩=>⟨σ,H1,I1,q1⟩) I.quiet hs
def A3u (te:TE):TS:=fun D σ H=>te σ H D.rt
theorem Bm(he:PE X e te):PS X (.Return (some e) pos) (A3u te):=by
 intro pins s σ H D I h
 exact wpAny_Return_some (thn (he pins s σ H _ I h) fun v s1 ⟨x,H1,I1,r1,q1⟩=>⟨x,σ,H1,I1,r1,q1⟩)
def A4w:TS:=fun D _ H=>D.rt .non H
def A3v (c:TT)(t u:TS):TS:=fun D σ H=>c σ H fun b H1=>if b=true then t D σ H1 else u D σ H1
theorem Ck{c:Expr}{a b:List Stmt}{tc:TT}(hc:PT X c tc)(ha:PSs X a t)(hb:PSs X b u):PS X (.If c a b pos) (A3v tc t u):=by
 intro pins s σ H D I h
 refine wpAny_If (thn (hc pins s σ H _ I h) fun d s1 ⟨H1,I1,q1⟩=>?_)
 cases d with
 | true=>exact ha pins s1 σ H1 D I1 q1
 | false=>exact hb pins s1 σ H1 D I1 q1
def A0a:TS:=fun _ _ _=>False
theorem Qd:PS X st A0a:=fun _ _ _ _ _ _ h=>h.elim
end
abbrev TG:=V→St→Hp→(St→Hp→Prop)→Prop
abbrev TGs:=List V→St→Hp→(St→Hp→Prop)→Prop
def PG (X:Cx)(target:Expr)(t:TG):Prop :=
 ∀(pins:List (Addr × Obj)) (s:Shared) (σ:St) (H:Hp) (v:V) (u:Value) (Q:St→Hp→Prop),Inv X pins σ H s→RelV v u→t v σ H Q →
  wpAny (model X.prog X.w) X.A (assign target X.env u) (fun _ s'=>∃ σ' H',Inv X pins σ' H' s'∧Q σ' H') X.xe s
def PGs (X:Cx)(ts:List Expr)(t:TGs):Prop :=
 ∀(pins:List (Addr × Obj)) (s:Shared) (σ:St) (H:Hp) (vs:List V) (us:List Value) (Q:St→Hp→Prop),Inv X pins σ H s→Vals vs us→t vs σ H Q →
  wpAny (model X.prog X.w) X.A (assignInOrder ((assignEach ts X.env).map (·.2)) us) (fun _ s'=>∃ σ' H',Inv X pins σ' H' s'∧Q σ' H') X.xe s
abbrev A0b:=V→V→V→Hp→(Hp→Prop)→Prop
def A3w (X:Cx)(t:A0b):Prop :=
 ∀(pins:List (Addr × Obj)) (s:Shared) (σ:St) (H:Hp) (o i v:V) (ov iv u:Value) (Q:Hp→Prop),Inv X pins σ H s→RelV o ov→RelV i iv→RelV v u→t o i v H Q →
  wpAny (model X.prog X.w) X.A (setItem ov iv u) (fun _ s'=>∃ H',Inv X pins σ H' s'∧Q H') X.xe s
abbrev TIp:=V→V→Hp→VK→Prop
def PIp (X:Cx)(op:Operator)(t:TIp):Prop :=
 ∀(pins:List (Addr × Obj)) (s:Shared) (σ:St) (H:Hp) (x y:V) (v u:Value) (Q:VK),Inv X pins σ H s→RelV x v→RelV y u→t x y H Q →
  wpAny (model X.prog X.w) X.A (inplaceOp op v u) (EP X pins σ Q) X.xe s
section
variable {X:Cx}{pos:Pos}
def XS (i:Nat):TG:=fun v σ H Q=>Q (σ.set i (some v)) H
theorem En{i:Nat}{x:Str}(hN:X.N.Nodup)(hi:X.N[i]?=some x)(hx:Loc X.env.scope x)(hf:X.fn x=true∨X.env.scope.names.lookup x=some .local:=by first | exact .inl rfl | exact .inr rfl | assumption):PG X (.Name x pos) (XS i):=by
 intro pins s σ H v u Q I r h
 exact wpAny_assign_Name (Ah1 I hN hi hx r (fun s' I'=>⟨_,H,I',h⟩) hf)
def A1J:TGs:=fun vs σ H Q=>vs=[]∧Q σ H
def Aw4 (t:TG)(u:TGs):TGs:=fun vs σ H Q=>∃ v r,vs=v::r∧t v σ H fun σ' H'=>u r σ' H' Q
theorem XX:PGs X [] A1J:=by
 intro pins s σ H vs us Q I r h
 obtain⟨e,h⟩:=h
 subst e
 cases r
 exact assignInOrder_nil ⟨σ,H,I,h⟩
theorem Gy{e:Expr}{es:List Expr}{t:TG}{u:TGs}(h1:PG X e t)(h2:PGs X es u)
  (hs:(assignEach (e::es) X.env).map (·.2)=assign e X.env::(assignEach es X.env).map (·.2):=by rfl):PGs X (e::es) (Aw4 t u):=by
 intro pins s σ H vs us Q I r h
 obtain⟨v,vr,e1,h⟩:=h
 subst e1
 cases r with
 | cons r rr =>
  rw[hs]
  refine assignInOrder_cons (thn (h1 pins s σ H _ _ _ I r h) fun _ s1 ⟨σ1,H1,I1,q1⟩=>?_)
  exact h2 pins s1 σ1 H1 _ _ Q I1 rr q1
def A1K (K:PySem.W.Frag)(n:Nat)(t:TGs):TG:=fun v σ H Q=>∃ a xs,v=.ref a∧SqT K H a xs∧xs.length=n∧t xs σ H Q
theorem AcR{es:List Expr}{k:Nat}{t:TGs}{n:Nat}(hc:X.calm=true)(h:PGs X es t)
  (hn:(assignEach es X.env).length=n:=by rfl) (hst:(assignEach es X.env).findIdx? (·.1)=none:=by rfl):PG X (.Tuple es k pos) (A1K X.K n t):=by
 intro pins s σ H v u Q I r hw
 obtain⟨a,xs,e1,hq,hl,hw⟩:=hw
 subst e1
 cases r
 obtain⟨its,rv,ht,hz⟩:=I.tuple hq
 refine assign_Tuple_tuple (I.ok.hd hc) ht (by simp[hn,← hl,rv.length]) hst fun h' hx=>?_
 have I1:Inv X pins σ H { s with heap:=h' }:=I.kept (t':=s.toks) fun b o e=>hx b o (A5M (Heap.lt_size e)) e
 exact h pins _ σ H xs _ Q I1 (by simpa using rv) hw
def A4Z (to ti:TE)(t:A0b):TG:=fun v σ H Q=>to σ H fun o H1=>ti σ H1 fun i H2=>t o i v H2 fun H3=>Q σ H3
def Atn (te:TE)(g:TG):TS:=fun D σ H=>te σ H fun x H1=>g x σ H1 D.nx
theorem Ato{tg e:Expr}{te:TE}{g:TG}(he:PE X e te)(hg:PG X tg g)(hs:swapsWithSole [tg] e pos.line X.env=pure false:=by rfl)(hw:swappedStores [tg] e X.env=pure none:=by rfl)
  (h1:(assignEach [tg] X.env).map (·.2)=[assign tg X.env]:=by rfl):PS X (.Assign [tg] e pos) (Atn te g):=by
 intro pins s σ H D I h
 refine wpAny_Assign_stores (thn (he pins s σ H _ I h) fun v s1 ⟨x,H1,I1,r1,q1⟩=>?_) hs hw
 rw[h1]
 exact thn (hg pins s1 σ H1 x v _ I1 r1 q1) fun _ s2 q=>q
theorem CP{i:Nat}{x:Str}{e:Expr}{te:TE}{pos':Pos}(hN:X.N.Nodup)(hi:X.N[i]?=some x)(hx:Loc X.env.scope x)(he:PE X e te)(hs:swapsWith e (some (.Name x pos')) pos.line X.env=pure false:=by rfl)(hf:X.fn x=true∨X.env.scope.names.lookup x=some .local:=by first | exact .inl rfl | exact .inr rfl | assumption) :
  PS X (.Assign [.Name x pos'] e pos) (Atn te (XS i)):=by
 intro pins s σ H D I h
 refine wpAny_Assign_Name (thn (he pins s σ H _ I h) fun v s1 ⟨y,H1,I1,r1,q1⟩=>?_) hs
 exact Ah1 I1 hN hi hx r1 (fun s2 I2=>⟨_,H1,I2,q1⟩) hf
def A5a (i j:Nat)(ta:TA):TS:=fun D σ H=>ta σ H fun vs H1=>∃ v w,vs=[v,w]∧D.nx ((σ.set i (some v)).set j (some w)) H1
def A5b (i:Nat)(te:TE)(ti:TIp):TS:=fun D σ H=>∃ x,σ[i]?=some (some x)∧te σ H fun y H1=>ti x y H1 fun z H2=>D.nx (σ.set i (some z)) H2
def A4x (to ti te:TE)(A3x:V→V→Hp→VK→Prop)(tip:TIp)(A3y:A0b):TS:=fun D σ H=>to σ H fun o H1=>ti σ H1 fun i H2=>A3x o i H2 fun x H3=>te σ H3 fun y H4=>tip x y H4 fun z H5=>A3y o i z H5 fun H6=>D.nx σ H6
def A3z (X:Cx)(t:V→V→Hp→VK→Prop):Prop :=
 ∀(pins:List (Addr × Obj)) (s:Shared) (σ:St) (H:Hp) (o i:V) (ov iv:Value) (Q:VK),Inv X pins σ H s→RelV o ov→RelV i iv→t o i H Q →
  wpAny (model X.prog X.w) X.A (getItem ov iv) (EP X pins σ Q) X.xe s
def ipI (f:Int→Int→Int):TIp:=fun x y H Q=>∃ i j,x=.int i∧y=.int j∧Q (.int (f i j)) H
end
section
variable {X:Cx}{pos:Pos}
def A0c (c:TT)(tb:TS):TS:=fun D σ H=>∃ W:Nat→St→Hp→Prop,(∃ m,W m σ H)∧∀ m σ H,W m σ H →
 c σ H fun b H1=>if b=true then ∃ N:St→Hp→Prop,(∀ σ' H',N σ' H'→∃ m',m'<m∧W m' σ' H')∧tb { D with nx:=N,ct:=N,bk:=D.nx } σ H1 else D.nx σ H1
theorem ArN{c:Expr}{body:List Stmt}{tc:TT}{tb:TS}(hp:PassesOwn (model X.prog X.w) X.A X.env X.xe)(hc:PT X c tc)(hb:PSs X body tb):PS X (.While c body [] pos) (A0c tc tb):=by
 intro pins s σ H D I h
 obtain⟨W,⟨m0,w0⟩,turn⟩:=h
 refine wpAny_While (codeAny_whileLoop (fun n s'=>∃ σ' H',Inv X pins σ' H' s'∧W n σ' H') ?_ m0 ⟨σ,H,I,w0⟩)
 rintro n s1 ⟨σ1,H1,I1,w1⟩
 refine wpAny_passesOwn hp (thn (hc pins s1 σ1 H1 _ I1 (turn n σ1 H1 w1)) fun b s2 ⟨H2,I2,q2⟩=>?_)
 cases b with
 | true =>
  obtain⟨N,hN,q2⟩:=q2
  rw[if_pos rfl]
  refine wpAny_passesOwn hp (thn (hb pins s2 σ1 H2 _ I2 q2) fun f s3 q3=>?_)
  cases f with
  | next =>
   obtain⟨σ3,H3,I3,n3⟩:=q3
   obtain⟨m',hm,w3⟩:=hN σ3 H3 n3
   exact⟨m',hm,σ3,H3,I3,w3⟩
  | cont =>
   obtain⟨σ3,H3,I3,n3⟩:=q3
   obtain⟨m',hm,w3⟩:=hN σ3 H3 n3
   exact⟨m',hm,σ3,H3,I3,w3⟩
  | brk=>exact q3
  | ret v=>exact q3
 | false =>
  rw[if_neg A5Q]
  exact wpAny_execs_nil ⟨σ1,H2,I2,q2⟩
end
structure It where
 go:Nat→Hp→Prop
 yld:Nat→Hp→V→Hp→Prop
 stop:Nat→Hp→Prop
def Vl (X:Cx)(pins:List (Addr × Obj))(H:Hp)(b:Addr):Prop :=
 H b=none∧b≠X.env.locals∧b∉X.fs∧(b∈X.ex∨X.s₀.heap.objs.size≤b)∧(∀ x c,X.env.cells.lookup x=some c→c≠b)∧∀ p∈X.pn++pins,p.1≠b
theorem Inv.Avx{X:Cx}{pins:List (Addr × Obj)}{σ:St}{H H':Hp}{s:Shared}{b:Addr}(I:Inv X pins σ H s)(hb:s.heap.objs.size≤b)(hn:H' b=none):Vl X pins H' b:=by
 refine⟨hn,A6x (A5O I.lt hb),I.A3n hb,.inr (A5X I.sz hb),fun x c e z=>?_,fun p hp z=>?_⟩
 ·obtain⟨v,q⟩:=I.cell x c e
  exact absurd (A5O q.lt (by rw[z];exact hb)) (A5W _)
 ·exact absurd (A5O (Heap.lt_size (I.pin p hp).1) (by rw[z];exact hb)) (A5W _)
structure Turn (P:Program) (w:World) (K:PySem.W.Frag) (tg:Expr) (J:It) (fp:List Addr) (it:Addr) (tn:Nat→Heap→Prop):Prop where
 mem:it∈fp
 obj:∀ i h,tn i h→∀ b∈fp,∃ o,h.get? b=some o∧∀ v,o.data≠.cell v
 keep:∀ i h h',tn i h→(∀ b∈fp,∀ o,h.get? b=some o→h'.get? b=some o)→tn i h'
 item:∀(X:Cx),X.prog=P→X.w=w→X.K=K→X.calm=true→∀(i:Nat) (pins:List (Addr × Obj)) (s:Shared) (σ:St) (H:Hp) (E:Value→Shared→Prop),Inv X pins σ H s→(∀ b∈fp,Vl X pins H b)→tn i s.heap→J.go i H →
  wpAny (model P w) X.A (pyNext (.ref it)) (fun r s1=>∃ u,r=some u ∧
   wpAny (model P w) X.A (letOwnedTupleGo tg (.ref it) u) (fun _ s2=>∃ x H',Inv X pins σ H' s2∧RelV x u∧J.yld i H x H'∧tn (i+1) s2.heap∧∀ b∈fp,H' b=none) E s1) E s
 done:∀(X:Cx),X.prog=P→X.w=w→X.K=K→X.calm=true→∀(i:Nat) (pins:List (Addr × Obj)) (s:Shared) (σ:St) (H:Hp) (E:Value→Shared→Prop),Inv X pins σ H s→(∀ b∈fp,Vl X pins H b)→tn i s.heap→J.stop i H →
  wpAny (model P w) X.A (pyNext (.ref it)) (fun r s1=>r=none∧Inv X pins σ H s1) E s
 self:∀(A:Around) (i:Nat) (s:Shared) (Q:Value→Shared→Prop) (E:Value→Shared→Prop),tn i s.heap→Q (.ref it) s→wpAny (model P w) A (pyIter (.ref it)) Q E s
abbrev TI:=St→Hp→(It→Hp→Prop)→Prop
def PIE (X:Cx)(pins:List (Addr × Obj))(σ:St)(tg:Expr)(R:It→Hp→Prop)(itv:Value)(s2:Shared):Prop :=
 ∃(it:Addr) (fp:List Addr) (tn:Nat→Heap→Prop) (J:It) (H':Hp),itv=.ref it∧Inv X pins σ H' s2∧Turn X.prog X.w X.K tg J fp it tn∧tn 0 s2.heap∧(∀ b∈fp,Vl X pins H' b)∧R J H'
def PI (X:Cx)(tg iter:Expr)(wi:TI):Prop :=
 ∀(pins:List (Addr × Obj)) (s:Shared) (σ:St) (H:Hp) (R:It→Hp→Prop),Inv X pins σ H s→wi σ H R →
  wpAny (model X.prog X.w) X.A (eval iter X.env) (fun v s1=>wpAny (model X.prog X.w) X.A (pyIter v) (PIE X pins σ tg R) X.xe s1) X.xe s
theorem AuB{M:Model}{A:Around}{E:Value→Shared→Prop}{s:Shared}{tg:Expr}{it:Addr}{u:Value}{o:Obj}{n:String}{vs:Array Value}{Q:Unit→Shared→Prop}(ho:s.heap.get? it=some o)(hc:o.cls=.type n)(hd:o.data=.fields vs)
    (hn:["enumerate", "zip", "dict_itemiterator", "dict_reverseitemiterator", "odict_iterator", "itertools.zip_longest", "itertools.pairwise"].contains n=false) (hQ:Q () s):wpAny M A (letOwnedTupleGo tg (.ref it) u) Q E s:=by
  unfold letOwnedTupleGo
  cases tg <;> first
    | exact wpAny_pure hQ
    | (cases u <;> first
        | exact wpAny_pure hQ
        | (refine wpAny_bind (wpAny_load ho ?_)
           rw[hc,hd]
           show wpAny M A (if (["enumerate", "zip", "dict_itemiterator", "dict_reverseitemiterator", "odict_iterator", "itertools.zip_longest", "itertools.pairwise"].contains n && vs[0]? == some (rawInt _))=true then _ else _) Q E s
           rw[if_neg (by intro h;rw[hn,Bool.false_and] at h;cases h)]
           exact wpAny_pure hQ))
def Itl (K:PySem.W.Frag)(a:Addr):It :=
 ⟨fun i H=>∃ xs x,SqL K H a xs∧xs[i]?=some x,fun i H x H'=>H'=H∧∀ xs,SqL K H a xs→xs[i]?=some x,fun i H=>∃ xs,SqL K H a xs∧xs.length≤i⟩
def Itt (K:PySem.W.Frag)(a:Addr):It :=
 ⟨fun i H=>∃ xs x,SqT K H a xs∧xs[i]?=some x,fun i H x H'=>H'=H∧∀ xs,SqT K H a xs→xs[i]?=some x,fun i H=>∃ xs,SqT K H a xs∧xs.length≤i⟩
def Itr (lo:Int)(n:Nat):It:=⟨fun i _=>i<n,fun i H x H'=>H'=H∧x=.int (lo+i),fun i _=>n≤i⟩
theorem Avy{P:Program}{w:World}{K:PySem.W.Frag}{tg:Expr}(a it:Addr):Turn P w K tg (Itl K a) [it] it (fun i h=>h.IsListIter it a i) where
 mem:=by simp
 obj:=fun i h st b hb=>by
  have e:b=it:=by simpa using hb
  subst e
  obtain⟨o,e,c,d⟩:=st
  exact⟨o,e,fun v z=>by rw[d] at z;cases z⟩
 keep:=fun i h h' st k=>st.at fun o e=>k it (by simp) o e
 item:=by
  intro X hP hw hK hc i pins s σ H E I hf st hg
  subst hP hw hK
  obtain⟨xs,x,hq,hx⟩:=hg
  obtain⟨its,rv,p,hz⟩:=I.list hq
  obtain⟨u,hu,ru⟩:=rv.get hx
  obtain⟨f0,f1,f2,f3,f4,f5⟩:=hf it (by simp)
  refine wpAny_pyNext_list_item st p.isList (x:=u) (by simpa using hu) fun h' st' sb=>?_
  have I1:Inv X pins σ H { s with heap:=h' }:=I.turned (t':=s.toks) (fun b o hb e=>(sb.2 b hb).trans e) f0 f1 f3 f4 f5
  obtain⟨o,e,c,d⟩:=id st'
  exact⟨u,rfl,AuB (s:={ s with heap:=h' }) e c d (by decide) ⟨x,H,I1,ru,⟨rfl,fun ys hy=>by rw[I.Wv hy hq];exact hx⟩,st',fun b hb=>(hf b hb).1⟩⟩
 done:=by
  intro X hP hw hK hc i pins s σ H E I hf st hg
  subst hP hw hK
  obtain⟨xs,hq,hx⟩:=hg
  obtain⟨its,rv,p,hz⟩:=I.list hq
  obtain⟨f0,f1,f2,f3,f4,f5⟩:=hf it (by simp)
  have hl:=rv.length
  exact wpAny_pyNext_list_end (I.ok.hd hc) st p.isList (by simp;omega) fun h' eb=>⟨rfl,I.turned (t':=s.toks) (fun b o hb e=>eb b o hb e) f0 f1 f3 f4 f5⟩
 self:=fun _ _ _ _ _ st h=>wpAny_pyIter_listiter st h
theorem Atp{P:Program}{w:World}{K:PySem.W.Frag}{tg:Expr}(it:Addr)(lo:Int)(n:Nat):Turn P w K tg (Itr lo n) [it] it (fun i h=>IsRangeIter h it (lo+(i:Nat)*1) ((n:Int)-(i:Nat)) 1) where
 mem:=by simp
 obj:=fun i h st b hb=>by
  have e:b=it:=by simpa using hb
  subst e
  exact⟨_,st,fun v z=>by
   have z':Data.fields _=Data.cell v:=z
   cases z'⟩
 keep:=fun i h h' st k=>k it (by simp) _ st
 item:=by
  intro X hP hw hK hc i pins s σ H E I hf st hg
  subst hP hw hK
  obtain⟨f0,f1,f2,f3,f4,f5⟩:=hf it (by simp)
  have W:=Walks.range (prog:=X.prog) (w:=X.w) (I.ok.hd hc) it lo 1 n
  refine W.item i s _ _ hg st fun v h' tk hv st' kk=>?_
  obtain⟨t,rfl⟩:=hv
  have I1:Inv X pins σ H { s with heap:=h',toks:=tk }:=I.turned (fun b o hb e=>kk b o (by simpa using hb) e) f0 f1 f3 f4 f5
  refine⟨_,rfl,AuB (s:={ s with heap:=h',toks:=tk }) (n := "range_iterator") st' rfl rfl (by decide) ⟨.int (lo+i),H,I1,⟨t,?_⟩,⟨rfl,rfl⟩,st',fun b hb=>(hf b hb).1⟩⟩
  rw[Int.mul_one]
 done:=by
  intro X hP hw hK hc i pins s σ H E I hf st hg
  subst hP hw hK
  obtain⟨f0,f1,f2,f3,f4,f5⟩:=hf it (by simp)
  exact wpAny_pyNext_range_end (I.ok.hd hc) st (by have:n≤i:=hg;omega) fun h' eb=>⟨rfl,I.turned (t':=s.toks) (fun b o hb e=>eb b o hb e) f0 f1 f3 f4 f5⟩
 self:=fun _ _ _ _ _ st h=>wpAny_pyIter_rangeiter st h
open PySem PySem.Spec PyProof.Rows
section
variable {X:Cx}{tg:Expr}
def AzG (K:PySem.W.Frag)(tl:TE):TI:=fun σ H R=>tl σ H fun x H1=>∃ a,x=.ref a∧(∃ xs,SqL K H1 a xs)∧R (Itl K a) H1
def A5c (K:PySem.W.Frag)(tl:TE):TI:=fun σ H R=>tl σ H fun x H1=>∃ a,x=.ref a∧(∃ xs,SqT K H1 a xs)∧R (Itt K a) H1
theorem Ay9{l:Expr}{tl:TE}(hl:PE X l tl):PI X tg l (AzG X.K tl):=by
 intro pins s σ H R I h
 refine thn (hl pins s σ H _ I h) fun v s1 ⟨x,H1,I1,r1,q1⟩=>?_
 obtain⟨a,e,⟨xs,hq⟩,q⟩:=q1
 subst e
 cases r1
 obtain⟨its,rv,p,hz⟩:=I1.list hq
 refine wpAny_pyIter_list p.isList ?_
 refine⟨s1.heap.objs.size,[s1.heap.objs.size],_,_,H1,rfl,I1.kept (t':=s1.toks) fun b o e=>Heap.get?_push_of_some _ e,Avy a _,⟨_,Heap.get?_push_size _ rfl,rfl,rfl⟩,fun b hb=>?_,q⟩
 have e:b=s1.heap.objs.size:=by simpa using hb
 subst e
 exact I1.Avx (A5K _) (I1.hok.fresh (A5K _))
theorem ArO{pins:List (Addr × Obj)}{σ:St}{H:Hp}{s:Shared}{R:It→Hp→Prop}{E:Value→Shared→Prop}{lo hi:Int}{t u v:Tok}{tk:Nat}(I:Inv X pins σ H s)(h1 : -(2 ^ 62)≤lo)(h2:lo<2 ^ 62)(h3 : -(2 ^ 62)≤hi)(h4:hi<2 ^ 62)
  (q:R (Itr lo (hi-lo).toNat) H):wpAny (model X.prog X.w) X.A (pyIter (.ref s.heap.objs.size)) (PIE X pins σ tg R) E { s with heap:=s.heap.push { cls:=.type "range", data:=.fields #[.int lo t,.int hi u,.int 1 v] },toks:=tk }:=by
 refine wpAny_pyIter_range (IsRange.new ..) (small_one h1 h2 h3 h4) ?_
 have I1:Inv X pins σ H { s with heap:=s.heap.push { cls:=.type "range", data:=.fields #[.int lo t,.int hi u,.int 1 v] },toks:=tk }:=I.kept fun b o e=>Heap.get?_push_of_some _ e
 refine⟨(s.heap.push { cls:=.type "range", data:=.fields #[.int lo t,.int hi u,.int 1 v] }).objs.size,[(s.heap.push { cls:=.type "range", data:=.fields #[.int lo t,.int hi u,.int 1 v] }).objs.size],_,_,H,rfl,
  I1.kept (t':=tk) fun b o e=>Heap.get?_push_of_some _ e,Atp _ lo (hi-lo).toNat,?_,fun b hb=>?_,q⟩
 ·have e1:lo+((0:Nat):Int)*1=lo:=by simp
  have e2:(((hi-lo).toNat:Nat):Int)-((0:Nat):Int)=Builtin.Range.rangeSize lo hi 1:=by rw[rangeSize_one];split <;> omega
  show IsRangeIter _ _ (lo+((0:Nat):Int)*1) ((((hi-lo).toNat:Nat):Int)-((0:Nat):Int)) 1
  rw[e1,e2]
  exact Heap.get?_push_size _ rfl
 ·have e:b=(s.heap.push { cls:=.type "range", data:=.fields #[.int lo t,.int hi u,.int 1 v] }).objs.size:=by simpa using hb
  subst e
  exact I1.Avx (A5K _) (I1.hok.fresh (A5K _))
def A1L (ta:TA):TI:=fun σ H R=>ta σ H fun vs H1=>∃ j:Int,vs=[.int j] ∧ -(2 ^ 62)≤j∧j<2 ^ 62∧R (Itr 0 j.toNat) H1
def A1M (ta:TA):TI:=fun σ H R=>ta σ H fun vs H1=>∃ i j:Int,vs=[.int i,.int j]∧(-(2 ^ 62)≤i∧i<2 ^ 62 ∧ -(2 ^ 62)≤j∧j<2 ^ 62)∧R (Itr i (j-i).toNat) H1
theorem AeA{a:Expr}{ta:TA}{p pos:Pos}(hg:Gl X "range") (hm:X.mg "range" = none) (ha:PA X [a] ta) (hs:starEach [a] X.env=[(false,eval a X.env)]:=by rfl):PI X tg (.Call (.Name "range" p) [a] [] pos) (A1L ta):=by
 intro pins s σ H R I h
 refine Call_ (ZC I hg hm boot_range (PyProof.Rows.callWith_type1 (thn (ha pos pins s σ H _ I h) fun us s1 ⟨vs,H1,I1,r1,q1⟩=>?_) hs rfl))
 obtain⟨j,e,q1,q2,q⟩:=q1
 subst e
 cases r1 with
 | cons r rr =>
  cases rr
  obtain⟨t,rfl⟩:=r
  exact call_range_1 (ArO I1 (by omega) (by omega) q1 q2 (by simpa using q))
theorem Avz{a b:Expr}{ta:TA}{p pos:Pos}(hg:Gl X "range") (hm:X.mg "range" = none) (ha:PA X [a,b] ta) (hs:starEach [a,b] X.env=[(false,eval a X.env),(false,eval b X.env)]:=by rfl) (hs2:starEach [b] X.env=[(false,eval b X.env)]:=by rfl) :
  PI X tg (.Call (.Name "range" p) [a,b] [] pos) (A1M ta):=by
 intro pins s σ H R I h
 refine Call_ (ZC I hg hm boot_range (PyProof.Rows.callWith_type1 (thn (ha pos pins s σ H _ I h) fun us s1 ⟨vs,H1,I1,r1,q1⟩=>?_) (by rw[hs,hs2]) (by rw[hs2];rfl)))
 obtain⟨i,j,e,⟨q1,q2,q3,q4⟩,q⟩:=q1
 subst e
 cases r1 with
 | cons r rr =>
  cases rr with
  | cons r' rr =>
   cases rr
   obtain⟨t,rfl⟩:=r
   obtain⟨t',rfl⟩:=r'
   exact call_range_2 (ArO I1 q1 q2 q3 q4 q)
def A3G (wi:TI)(g:TG)(tb:TS):TS:=fun D σ H=>wi σ H fun J H1=>∃ W:Nat→Nat→St→Hp→Prop,(∃ m,W 0 m σ H1)∧∀ i m σ H,W i m σ H →
 (J.stop i H∧D.nx σ H)∨(J.go i H∧∃ N:St→Hp→Prop,(∀ σ' H',N σ' H'→∃ m',m'<m∧W (i+1) m' σ' H')∧∀ x H',J.yld i H x H'→g x σ H' fun σ2 H2=>tb { D with nx:=N,ct:=N,bk:=D.nx } σ2 H2)
def Agn (fp:List Addr)(h:Heap):List (Addr × Obj):=fp.filterMap fun b=>(h.get? b).map fun o=>(b,o)
theorem Ny{fp:List Addr}{h:Heap}{b:Addr}{o:Obj}(hb:b∈fp)(e:h.get? b=some o):(b,o)∈Agn fp h:=List.mem_filterMap.mpr ⟨b,hb,by rw[e];rfl⟩
theorem Av0{fp:List Addr}{h:Heap}{p:Addr × Obj}(hp:p∈Agn fp h):p.1∈fp∧h.get? p.1=some p.2:=by
 obtain⟨b,hb,e⟩:=List.mem_filterMap.mp hp
 cases q:h.get? b with
 | none=>rw[q] at e;cases e
 | some o =>
  rw[q] at e
  have e':(b,o)=p:=Option.some.inj e
  subst e'
  exact⟨hb,q⟩
theorem Inv.pinned{pins:List (Addr × Obj)}{σ:St}{H:Hp}{s:Shared}{fp:List Addr}(I:Inv X pins σ H s)(hf:∀ b∈fp,Vl X pins H b)(ho:∀ b∈fp,∃ o,s.heap.get? b=some o∧∀ v,o.data≠.cell v):Inv X (pins++Agn fp s.heap) σ H s :=
 I.Rw fun p hp=>(List.mem_append.mp hp).elim (fun z=>I.pin p (A6b _ z)) fun z=>by
  obtain⟨hb,e⟩:=Av0 z
  obtain⟨f0,f1,f2,_⟩:=hf p.1 hb
  obtain⟨o,e',d⟩:=ho p.1 hb
  rw[e] at e';cases e'
  exact⟨e,f0,f1,f2,d⟩
theorem Inv.Amr{pins pl:List (Addr × Obj)}{σ:St}{H:Hp}{s:Shared}(I:Inv X (pins++pl) σ H s):Inv X pins σ H s:=I.Rw fun p hp=>I.pin p (A6b _ (A6P _ hp))
theorem Vm{iter:Expr}{body:List Stmt}{wi:TI}{g:TG}{tb:TS}{pos:Pos}(hp:PassesOwn (model X.prog X.w) X.A X.env X.xe)(hc:X.calm=true)(hi:PI X tg iter wi)(hg:PG X tg g)(hb:PSs X body tb)
  (hs:∀ x,foldedSetIterable iter X.env x=pure x:=by intro _;rfl):PS X (.For tg iter body [] pos) (A3G wi g tb):=by
 intro pins s σ H D I h
 refine wpAny_For (thn (hi pins s σ H _ I h) fun v s1 h1=>thn h1 fun itv s2 h2=>?_) hs
 obtain⟨it,fp,tn,J,H2,e,I2,T,st2,f2,W,⟨m0,w0⟩,turn⟩:=h2
 subst e
 have stat:∀{H':Hp},(∀ b∈fp,H' b=none)→∀ b∈fp,Vl X pins H' b:=fun hn b hb=>⟨hn b hb,(f2 b hb).2⟩
 refine codeAny_forLoop_any (fun n s'=>∃ i σ' H',Inv X pins σ' H' s'∧tn i s'.heap∧(∀ b∈fp,H' b=none)∧W i n σ' H') ?_ m0 ⟨0,σ,H2,I2,st2,fun b hb=>(f2 b hb).1,w0⟩
 rintro n s3 ⟨i,σ3,H3,I3,st3,fr3,w3⟩
 rcases turn i n σ3 H3 w3 with ⟨stop,qn⟩ | ⟨go,N,hN,step⟩
 ·refine wpAny_passesOwn hp (thn (T.done X rfl rfl rfl hc i pins s3 σ3 H3 X.xe I3 (stat fr3) st3 stop) fun r s4 ⟨hr,I4⟩=>?_)
  subst hr
  exact wpAny_execs_nil ⟨σ3,H3,I4,qn⟩
 ·refine wpAny_passesOwn hp (thn (T.item X rfl rfl rfl hc i pins s3 σ3 H3 X.xe I3 (stat fr3) st3 go) fun r s4 ⟨u,hr,h4⟩=>?_)
  subst hr
  refine wpAny_passesOwn hp (thn h4 fun _ s5 ⟨x,H5,I5,r5,y5,st5,fr5⟩=>?_)
  have I5':=I5.pinned (stat fr5) (T.obj _ _ st5)
  refine wpAny_passesOwn hp (thn (hg _ s5 σ3 H5 x u _ I5' r5 (step x H5 y5)) fun _ s6 ⟨σ6,H6,I6,q6⟩=>?_)
  refine wpAny_passesOwn hp (thn (hb _ s6 σ6 H6 _ I6 q6) fun f s7 q7=>?_)
  have again:∀{σ7:St} {H7:Hp},Inv X (pins++Agn fp s5.heap) σ7 H7 s7→N σ7 H7→∃ m,m<n∧∃ i σ' H',Inv X pins σ' H' s7∧tn i s7.heap∧(∀ b∈fp,H' b=none)∧W i m σ' H':=fun {σ7 H7} I7 n7=>by
   obtain⟨m',hm,w7⟩:=hN σ7 H7 n7
   refine⟨m',hm,i+1,σ7,H7,I7.Amr,T.keep _ _ _ st5 fun b hb o e=>(I7.pin (b,o) (A6b _ (A6b _ (Ny hb e)))).1,fun b hb=>?_,w7⟩
   obtain⟨o,e,d⟩:=T.obj _ _ st5 b hb
   exact(I7.pin (b,o) (A6b _ (A6b _ (Ny hb e)))).2.1
  cases f with
  | next=>obtain⟨σ7,H7,I7,n7⟩:=q7;exact again I7 n7
  | cont=>obtain⟨σ7,H7,I7,n7⟩:=q7;exact again I7 n7
  | brk=>obtain⟨σ7,H7,I7,q7⟩:=q7;exact⟨σ7,H7,I7.Amr,q7⟩
  | ret v=>obtain⟨x7,σ7,H7,I7,r7,q7⟩:=q7;exact⟨x7,σ7,H7,I7.Amr,r7,q7⟩
end
theorem Aa2{K:PySem.W.Frag}{a:Addr}{xs:List V}{g:TG}{tb:TS}{D:Ends}{σ:St}{H:Hp}(Pv:Nat→St→Hp→Prop)(h0:Pv 0 σ H)(hl:∀ i σ H,i≤xs.length→Pv i σ H→SqL K H a xs)
  (hs:∀ i x σ H,xs[i]?=some x→Pv i σ H→g x σ H fun σ2 H2=>tb { D with nx:=Pv (i+1),ct:=Pv (i+1),bk:=D.nx } σ2 H2) (hd:∀ σ H,Pv xs.length σ H→D.nx σ H) :
  ∃ W:Nat→Nat→St→Hp→Prop,(∃ m,W 0 m σ H)∧∀ i m σ H,W i m σ H →
   ((Itl K a).stop i H∧D.nx σ H)∨((Itl K a).go i H∧∃ N:St→Hp→Prop,(∀ σ' H',N σ' H'→∃ m',m'<m∧W (i+1) m' σ' H')∧∀ x H',(Itl K a).yld i H x H'→g x σ H' fun σ2 H2=>tb { D with nx:=N,ct:=N,bk:=D.nx } σ2 H2):=by
 refine⟨fun i m σ H=>m=xs.length-i∧i≤xs.length∧Pv i σ H,⟨xs.length,by simp,A6c _,h0⟩,?_⟩
 rintro i m σ H ⟨rfl,hi,p⟩
 have q:=hl i σ H hi p
 by_cases hlt:i<xs.length
 ·refine .inr ⟨⟨xs,xs[i],q,by simp[hlt]⟩,Pv (i+1),fun σ' H' p'=>⟨xs.length-(i+1),by omega,rfl,hlt,p'⟩,fun x H' y=>?_⟩
  obtain⟨e,y⟩:=y
  subst e
  exact hs i x σ _ (y xs q) p
 ·have e:i=xs.length:=by omega
  subst e
  exact .inl ⟨⟨xs,q,A5K _⟩,hd σ H p⟩
open PySem PySem.Spec PyProof.Rows
abbrev R2:=V→V→Hp→VK→Prop
def OpR (X:Cx)(f:Value→Value→Sem Value)(r:R2):Prop :=
 ∀(pins:List (Addr × Obj)) (s:Shared) (σ:St) (H:Hp) (x y:V) (v u:Value) (Q:VK),Inv X pins σ H s→RelV x v→RelV y u→r x y H Q →
  wpAny (model X.prog X.w) X.A (f v u) (EP X pins σ Q) X.xe s
def UnR (X:Cx)(f:Value→Sem Value)(r:V→Hp→VK→Prop):Prop :=
 ∀(pins:List (Addr × Obj)) (s:Shared) (σ:St) (H:Hp) (x:V) (v:Value) (Q:VK),Inv X pins σ H s→RelV x v→r x H Q →
  wpAny (model X.prog X.w) X.A (f v) (EP X pins σ Q) X.xe s
def V9 (X:Cx)(f:Value)(r:List V→Hp→VK→Prop):Prop :=
 ∀(pins:List (Addr × Obj)) (s:Shared) (σ:St) (H:Hp) (xs:List V) (us:List Value) (Q:VK),Inv X pins σ H s→Vals xs us→r xs H Q →
  wpAny (model X.prog X.w) X.A (call f us) (EP X pins σ Q) X.xe s
def A3H (X:Cx)(r:V→Hp→(Bool→Hp→Prop)→Prop):Prop :=
 ∀(pins:List (Addr × Obj)) (s:Shared) (σ:St) (H:Hp) (x:V) (v:Value) (Q:Bool→Hp→Prop),Inv X pins σ H s→RelV x v→r x H Q →
  wpAny (model X.prog X.w) X.A (truthy v) (TP X pins σ Q) X.xe s
def tOp (r:R2)(ta tb:TE):TE:=fun σ H Q=>ta σ H fun x H1=>tb σ H1 fun y H2=>r x y H2 Q
def tUn (r:V→Hp→VK→Prop)(ta:TE):TE:=fun σ H Q=>ta σ H fun x H1=>r x H1 Q
def rI (C:Int→Int→Prop)(g:Int→Int→V):R2:=fun x y H Q=>∃ i j,x=.int i∧y=.int j∧C i j∧Q (g i j) H
def rI0 (g:Int→Int→V):R2:=fun x y H Q=>∃ i j,x=.int i∧y=.int j∧Q (g i j) H
def rU (g:Int→V):V→Hp→VK→Prop:=fun x H Q=>∃ i,x=.int i∧Q (g i) H
section
variable {X:Cx}{a b c:Expr}{ta tb tc:TE}{pos:Pos}
theorem A0d(ha:PE X a ta)(hb:PE X b tb){pins:List (Addr × Obj)}{s:Shared}{σ:St}{H:Hp}{R:V→V→Hp→Prop}(I:Inv X pins σ H s)
  (h:ta σ H fun x H1=>tb σ H1 fun y H2=>R x y H2) {Q:Value→Shared→Prop} {f:Value→Value→Sem Value}
  (hf:∀ v u s2 x y H2,Inv X pins σ H2 s2→RelV x v→RelV y u→R x y H2→wpAny (model X.prog X.w) X.A (f v u) Q X.xe s2) :
  wpAny (model X.prog X.w) X.A (eval a X.env) (fun v s₁=>wpAny (model X.prog X.w) X.A (eval b X.env) (fun u s₂=>wpAny (model X.prog X.w) X.A (f v u) Q X.xe s₂) X.xe s₁) X.xe s:=by
 refine thn (ha pins s σ H _ I h) fun v s1 ⟨x,H1,I1,r1,q1⟩=>?_
 refine thn (hb pins s1 σ H1 _ I1 q1) fun u s2 ⟨y,H2,I2,r2,q2⟩=>?_
 exact hf v u s2 x y H2 I2 r1 r2 q2
theorem Bo{op:Operator}{r:R2}(ho:OpR X (binaryOp op) r)(ha:PE X a ta)(hb:PE X b tb):PE X (.BinOp a op b pos) (tOp r ta tb):=by
 intro pins s σ H Q I h
 exact wpAny_BinOp (A0d ha hb I h fun v u s2 x y H2 I2 rx ry q=>ho pins s2 σ H2 x y v u Q I2 rx ry q)
theorem A1N{op:UnaryOp}{r:V→Hp→VK→Prop}(ho:UnR X (unaryOp op) r)(ha:PE X a ta):PE X (.UnaryOp op a pos) (tUn r ta):=by
 intro pins s σ H Q I h
 exact UnaryOp_ (thn (ha pins s σ H _ I h) fun v s1 ⟨x,H1,I1,r1,q1⟩=>ho pins s1 σ H1 x v Q I1 r1 q1)
theorem opI{f:Value→Value→Sem Value}{C:Int→Int→Prop}{g:Int→Int→Int}
  (rule:∀(i j:Int) (t u:Tok) (s:Shared) (Q:Value→Shared→Prop) (E:Value→Shared→Prop),C i j→Q (.int (g i j) s.toks) { s with toks:=s.toks+1 }→wpAny (model X.prog X.w) X.A (f (.int i t) (.int j u)) Q E s) :
  OpR X f (rI C fun i j=>.int (g i j)):=by
 intro pins s σ H x y v u Q I rx ry h
 obtain⟨i,j,rfl,rfl,hc,q⟩:=h
 obtain⟨t,rfl⟩:=rx
 obtain⟨t',rfl⟩:=ry
 exact rule i j t t' s _ _ hc ⟨.int (g i j),H,I.tok _,⟨_,rfl⟩,q⟩
theorem A1O{f:Value→Value→Sem Value}{g:Int→Int→Int}
  (rule:∀(i j:Int) (t u:Tok) (s:Shared) (Q:Value→Shared→Prop) (E:Value→Shared→Prop),Q (.int (g i j) s.toks) { s with toks:=s.toks+1 }→wpAny (model X.prog X.w) X.A (f (.int i t) (.int j u)) Q E s) :
  OpR X f (rI0 fun i j=>.int (g i j)):=by
 intro pins s σ H x y v u Q I rx ry h
 obtain⟨i,j,rfl,rfl,q⟩:=h
 obtain⟨t,rfl⟩:=rx
 obtain⟨t',rfl⟩:=ry
 exact rule i j t t' s _ _ ⟨.int (g i j),H,I.tok _,⟨_,rfl⟩,q⟩
theorem AyA{f:Value→Value→Sem Value}{g:Int→Int→Bool}
  (rule:∀(i j:Int) (t u:Tok) (s:Shared) (Q:Value→Shared→Prop) (E:Value→Shared→Prop),Q (.bool (g i j)) s→wpAny (model X.prog X.w) X.A (f (.int i t) (.int j u)) Q E s) :
  OpR X f (rI0 fun i j=>.bl (g i j)):=by
 intro pins s σ H x y v u Q I rx ry h
 obtain⟨i,j,rfl,rfl,q⟩:=h
 obtain⟨t,rfl⟩:=rx
 obtain⟨t',rfl⟩:=ry
 exact rule i j t t' s _ _ ⟨.bl (g i j),H,I,rfl,q⟩
def A3I (i j:Int):Prop:=0<j∧j<1073741824
def A4y (i j:Int):Prop:=j≠0∧j.natAbs<1073741824
def A5d (i j:Int):Prop:=0≤j∧j≤1000000∧i.natAbs<2 ^ 64
def A0e (i j:Int):Prop:=(-(2 ^ 64)<i∧i<2 ^ 64)∨(-(2 ^ 64)<j∧j<2 ^ 64)
theorem A0e.ok{i j:Int}(h:A0e i j):IntMulOk i j:=by
 rcases h with ⟨h1,h2⟩ | ⟨h1,h2⟩
 ·exact .of_left (intBits_le_64 h1 h2)
 ·exact .of_right (intBits_le_64 h1 h2)
theorem Mr:OpR X (binaryOp .Add) (rI0 fun i j=>.int (i+j)):=A1O fun _ _ _ _ _ _ _ q=>add_int q
theorem Aqk:OpR X (binaryOp .Sub) (rI0 fun i j=>.int (i-j)):=A1O fun _ _ _ _ _ _ _ q=>sub_int q
theorem ZD:OpR X (binaryOp .Mult) (rI A0e fun i j=>.int (i*j)):=opI fun _ _ _ _ _ _ _ hc q=>mul_int q hc.ok
theorem Abs:OpR X (binaryOp .FloorDiv) (rI A3I fun i j=>.int (i / j)):=opI fun i j _ _ _ _ _ hc q=>by
 have h1:(0:Int)<j:=hc.1
 have h2:j<1073741824:=hc.2
 exact floordiv_int (by omega) (by rw[Int.fdiv_eq_ediv_of_nonneg i (by omega)];exact q) (.inl (PyProof.noPylong_small (by omega)))
theorem Ms:OpR X (binaryOp .Mod) (rI (fun _ j=>0<j) fun i j=>.int (i%j)):=opI fun i j _ _ _ _ _ hc q=>by
 have h1:(0:Int)<j:=hc
 exact mod_int' (by omega) (by rw[Int.fmod_eq_emod_of_nonneg i (by omega)];exact q)
theorem unI{f:Value→Sem Value}{g:Int→Int}
  (rule:∀(i:Int) (t:Tok) (s:Shared) (Q:Value→Shared→Prop) (E:Value→Shared→Prop),Q (.int (g i) s.toks) { s with toks:=s.toks+1 }→wpAny (model X.prog X.w) X.A (f (.int i t)) Q E s) :
  UnR X f (rU fun i=>.int (g i)):=by
 intro pins s σ H x v Q I rx h
 obtain⟨i,rfl,q⟩:=h
 obtain⟨t,rfl⟩:=rx
 exact rule i t s _ _ ⟨.int (g i),H,I.tok _,⟨_,rfl⟩,q⟩
theorem A0f:UnR X (unaryOp .USub) (rU fun i=>.int (-i)):=unI fun _ _ _ _ _ q=>neg_int q
end
def A1P:V→V→Bool
 | .non,.non=>true | .non,.int _=>true | .int _,.non=>true | .non,.bl _=>true | .bl _,.non=>true | .non,.str _=>true | .str _,.non=>true
 | .int _,.int _=>true | .bl _,.bl _=>true | .str _,.str _=>true | .byt _,.byt _=>true
 | .int _,.str _=>true | .str _,.int _=>true | .bl _,.str _=>true | .str _,.bl _=>true
 | _,_=>false
def rEq:R2:=fun x y H Q=>A1P x y=true∧Q (.bl (decide (x=y))) H
def rNe:R2:=fun x y H Q=>A1P x y=true∧Q (.bl (!decide (x=y))) H
theorem AuC{i j:Int}:decide (V.int i=V.int j)=(i == j):=by
 rw[A6J]
 simp
theorem Aw5{i j:Bool}:decide (V.bl i=V.bl j)=(i == j):=by
 rw[A6J]
 simp
theorem AuD{i j:Str}:decide (V.str i=V.str j)=(i == j):=by
 rw[A6J]
 simp
theorem AuE{i j:Array UInt8}:decide (V.byt i=V.byt j)=(i.toList == j.toList):=by
 rw[A6J]
 cases i
 cases j
 simp
section
variable {X:Cx}{a b c:Expr}{ta tb tc:TE}{pos:Pos}
theorem Fq{pins:List (Addr × Obj)}{σ:St}{H:Hp}{s:Shared}{Q:VK}{k k':Bool}(I:Inv X pins σ H s)(q:Q (.bl k) H)(e:k=k'):EP X pins σ Q (.bool k') s:=by
 subst e
 exact⟨.bl k,H,I,rfl,q⟩
theorem GJ:OpR X (compareOp .Eq) rEq:=by
 intro pins s σ H x y v u Q I rx ry h
 obtain⟨hs,q⟩:=h
 cases x with
 | non =>
  cases rx
  cases y with
  | non=>cases ry;exact PySem.EqNone.eq_none_none (Fq I q (by simp))
  | bl j=>cases ry;exact PySem.EqNone.eq_none_bool (Fq I q (by simp))
  | int j=>obtain⟨t',rfl⟩:=ry;exact PySem.EqNone.eq_none_int (Fq I q (by simp))
  | str j=>obtain⟨t',rfl⟩:=ry;exact PySem.EqNone.eq_none_str (Fq I q (by simp))
  | _=>exact absurd (show false=true from hs) A5Q
 | bl i =>
  cases rx
  cases y with
  | non=>cases ry;exact PySem.EqNone.eq_bool_none (Fq I q (by simp))
  | bl j=>cases ry;exact eq_bool (Fq I q Aw5)
  | str j=>obtain⟨t',rfl⟩:=ry;exact PySem.EqMixed.eq_bool_str (Fq I q (by simp))
  | _=>exact absurd (show false=true from hs) A5Q
 | int i =>
  obtain⟨t,rfl⟩:=rx
  cases y with
  | non=>cases ry;exact PySem.EqNone.eq_int_none (Fq I q (by simp))
  | int j=>obtain⟨t',rfl⟩:=ry;exact eq_int (Fq I q AuC)
  | str j=>obtain⟨t',rfl⟩:=ry;exact PySem.EqMixed.eq_int_str (Fq I q (by simp))
  | _=>exact absurd (show false=true from hs) A5Q
 | str i =>
  obtain⟨t,rfl⟩:=rx
  cases y with
  | non=>cases ry;exact PySem.EqNone.eq_str_none (Fq I q (by simp))
  | bl j=>cases ry;exact PySem.EqMixed.eq_str_bool (Fq I q (by simp))
  | int j=>obtain⟨t',rfl⟩:=ry;exact PySem.EqMixed.eq_str_int (Fq I q (by simp))
  | str j=>obtain⟨t',rfl⟩:=ry;exact eq_str (Fq I q AuD)
  | _=>exact absurd (show false=true from hs) A5Q
 | byt i =>
  obtain⟨t,rfl⟩:=rx
  cases y with
  | byt j=>obtain⟨t',rfl⟩:=ry;exact PySem.W.eq_bytes (Fq I q AuE)
  | _=>exact absurd (show false=true from hs) A5Q
 | _=>cases y <;> exact absurd (show false=true from hs) A5Q
theorem Ah2:OpR X (compareOp .NotEq) rNe:=by
 intro pins s σ H x y v u Q I rx ry h
 obtain⟨hs,q⟩:=h
 cases x with
 | non =>
  cases rx
  cases y with
  | non=>cases ry;exact PySem.EqNone.ne_none_none (Fq I q (by simp))
  | bl j=>cases ry;exact PySem.EqNone.ne_none_bool (Fq I q (by simp))
  | int j=>obtain⟨t',rfl⟩:=ry;exact PySem.EqNone.ne_none_int (Fq I q (by simp))
  | str j=>obtain⟨t',rfl⟩:=ry;exact PySem.EqNone.ne_none_str (Fq I q (by simp))
  | _=>exact absurd (show false=true from hs) A5Q
 | bl i =>
  cases rx
  cases y with
  | non=>cases ry;exact PySem.EqNone.ne_bool_none (Fq I q (by simp))
  | bl j=>cases ry;exact ne_bool (Fq I q (congrArg not Aw5))
  | str j=>obtain⟨t',rfl⟩:=ry;exact PySem.EqMixed.ne_bool_str (Fq I q (by simp))
  | _=>exact absurd (show false=true from hs) A5Q
 | int i =>
  obtain⟨t,rfl⟩:=rx
  cases y with
  | non=>cases ry;exact PySem.EqNone.ne_int_none (Fq I q (by simp))
  | int j=>obtain⟨t',rfl⟩:=ry;exact ne_int (Fq I q (congrArg not AuC))
  | str j=>obtain⟨t',rfl⟩:=ry;exact PySem.EqMixed.ne_int_str (Fq I q (by simp))
  | _=>exact absurd (show false=true from hs) A5Q
 | str i =>
  obtain⟨t,rfl⟩:=rx
  cases y with
  | non=>cases ry;exact PySem.EqNone.ne_str_none (Fq I q (by simp))
  | bl j=>cases ry;exact PySem.EqMixed.ne_str_bool (Fq I q (by simp))
  | int j=>obtain⟨t',rfl⟩:=ry;exact PySem.EqMixed.ne_str_int (Fq I q (by simp))
  | str j=>obtain⟨t',rfl⟩:=ry;exact ne_str (Fq I q (congrArg not AuD))
  | _=>exact absurd (show false=true from hs) A5Q
 | byt i =>
  obtain⟨t,rfl⟩:=rx
  cases y with
  | byt j=>obtain⟨t',rfl⟩:=ry;exact PySem.W.ne_bytes (Fq I q (congrArg not AuE))
  | _=>exact absurd (show false=true from hs) A5Q
 | _=>cases y <;> exact absurd (show false=true from hs) A5Q
theorem Ww:OpR X (compareOp .Lt) (rI0 fun i j=>.bl (decide (i<j))):=AyA fun _ _ _ _ _ _ _ q=>lt_int q
theorem A1Q:OpR X (compareOp .LtE) (rI0 fun i j=>.bl (decide (i≤j))):=AyA fun _ _ _ _ _ _ _ q=>le_int q
theorem Yb:OpR X (compareOp .Gt) (rI0 fun i j=>.bl (decide (j<i))):=AyA fun _ _ _ _ _ _ _ q=>gt_int q
theorem AzH:OpR X (compareOp .GtE) (rI0 fun i j=>.bl (decide (j≤i))):=AyA fun _ _ _ _ _ _ _ q=>ge_int q
theorem ApD:OpR X (compareOp .In) (fun x y H Q=>∃ i j,x=.str i∧y=.str j∧Q (.bl (!(Builtin.Str.occurrences j i 0 j.length 1).isEmpty)) H):=by
 intro pins s σ H x y v u Q I rx ry h
 obtain⟨i,j,rfl,rfl,q⟩:=h
 obtain⟨t,rfl⟩:=rx
 obtain⟨t',rfl⟩:=ry
 exact in_str (Fq I q rfl)
theorem Atq:OpR X (compareOp .Is) (fun x y H Q=>y=.non∧Q (.bl (decide (x=.non))) H):=by
 intro pins s σ H x y v u Q I rx ry h
 obtain⟨rfl,q⟩:=h
 cases ry
 refine is_none_gen (Fq I q ?_)
 cases x <;> first
  | (cases rx;rfl)
  | (obtain⟨t,rfl⟩:=rx;rfl)
theorem Ah3:OpR X (compareOp .NotIn) (fun x y H Q=>∃ i j,x=.str i∧y=.str j∧Q (.bl (!(!(Builtin.Str.occurrences j i 0 j.length 1).isEmpty))) H):=by
 intro pins s σ H x y v u Q I rx ry h
 obtain⟨i,j,rfl,rfl,q⟩:=h
 obtain⟨t,rfl⟩:=rx
 obtain⟨t',rfl⟩:=ry
 exact notIn_str (Fq I q rfl)
def isObj:HO→Bool
 | .lst _=>true
 | .ins _ _ _=>true
 | _=>false
theorem Bh(b:Expr){op:CmpOp}(h:op≠.In:=by decide)(h2:op≠.NotIn:=by decide):behindInMarks op b=false:=by
 have e1:(op == CmpOp.In)=false:=by cases op <;> first | rfl | exact absurd rfl h
 have e2:(op == CmpOp.NotIn)=false:=by cases op <;> first | rfl | exact absurd rfl h2
 cases b <;> simp[behindInMarks,e1,e2]
theorem Ox{op:CmpOp}{r:R2}(ho:OpR X (compareOp op) r)(ha:PE X a ta)(hb:PE X b tb)(hm:behindInMarks op b=false):PE X (.Compare a [op] [b] pos) (tOp r ta tb):=by
 intro pins s σ H Q I h
 exact wpAny_Compare1 (A0d ha hb I h fun v u s2 x y H2 I2 rx ry q=>ho pins s2 σ H2 x y v u Q I2 rx ry q) hm
def A1R (t:TE):TT:=fun σ H Q=>t σ H fun x H'=>∃ k,x=.bl k∧Q k H'
theorem Az{op:CmpOp}{r:R2}(ho:OpR X (compareOp op) r)(ha:PE X a ta)(hb:PE X b tb)(hm:behindInMarks op b=false):PT X (.Compare a [op] [b] pos) (A1R (tOp r ta tb)):=by
 intro pins s σ H Q I h
 refine wpAny_isTrue_Compare1 (thn (ha pins s σ H _ I h) fun v s1 ⟨x,H1,I1,r1,q1⟩=>thn (hb pins s1 σ H1 _ I1 q1) fun u s2 ⟨y,H2,I2,r2,q2⟩ =>
  thn (ho pins s2 σ H2 x y v u _ I2 r1 r2 q2) fun c s3 ⟨z,H3,I3,r3,k,e,q3⟩=>?_) hm
 subst e
 cases r3
 exact wpAny_truthy_bool ⟨H3,I3,q3⟩
def A3J (r r':R2)(ta tb tc:TE):TE:=fun σ H Q=>ta σ H fun x H1=>tb σ H1 fun y H2=>r x y H2 fun z H3=>∃ k,z=.bl k ∧
 (if k=true then tc σ H3 fun w' H4=>r' y w' H4 Q else Q (.bl false) H3)
def A0g (K:PySem.W.Frag)(x:V)(H:Hp)(k:Bool):Prop :=
 match x with
 | .non=>k=false
 | .bl b=>k=b
 | .int i=>k=(i != 0)
 | .str y=>y.length≤sizeLine∧k=((y.length:Int) != 0)
 | .byt y=>y.size≤sizeLine∧k=((y.size:Int) != 0)
 | .ref p=>(∃ xs,SqL K H p xs∧k=!xs.isEmpty)∨(∃ xs,SqT K H p xs∧k=!xs.isEmpty)∨∃ kvs,H p=some (.dK kvs)∧k=!kvs.isEmpty
 | _=>False
theorem Atr{κ:Type}{kvs:List (κ × V)}{vs:List (κ × Value)}(r:KV kvs vs):(!vs.isEmpty)=!kvs.isEmpty:=by
 cases r <;> rfl
theorem Ams{xs:List V}{its:List Value}(r:Vals xs its):(!its.toArray.isEmpty)=!xs.isEmpty:=by
 cases r <;> simp
theorem Ajj:(sizeLine:Nat)<2 ^ 63:=by rw[sizeLine_eq];decide
theorem A0h:A3H X (fun x H Q=>∃ k,A0g X.K x H k∧Q k H):=by
 intro pins s σ H x v Q I rx h
 obtain⟨k,e,q⟩:=h
 have hl:=Ajj
 have hs:sizeLine=16777216:=sizeLine_eq
 cases x with
 | non =>
  cases rx
  have e':k=false:=e
  subst e'
  exact truthy_none ⟨H,I,q⟩
 | bl b =>
  cases rx
  have e':k=b:=e
  subst e'
  exact wpAny_truthy_bool ⟨H,I,q⟩
 | int i =>
  obtain⟨t,rfl⟩:=rx
  have e':k=(i != 0):=e
  subst e'
  exact PySem.P.truthy_int ⟨H,I,q⟩
 | str y =>
  obtain⟨t,rfl⟩:=rx
  obtain⟨hy,e'⟩:y.length≤sizeLine∧k=((y.length:Int) != 0):=e
  subst e'
  exact PySem.P.truthy_str (by omega) ⟨H,I.tok _,q⟩
 | byt y =>
  obtain⟨t,rfl⟩:=rx
  obtain⟨hy,e'⟩:y.size≤sizeLine∧k=((y.size:Int) != 0):=e
  subst e'
  exact PySem.W.truthy_bytes (by omega) ⟨H,I.tok _,q⟩
 | ref p =>
  cases rx
  have e':(∃ xs,SqL X.K H p xs∧k=!xs.isEmpty)∨(∃ xs,SqT X.K H p xs∧k=!xs.isEmpty)∨∃ kvs,H p=some (.dK kvs)∧k=!kvs.isEmpty:=e
  rcases e' with ⟨xs,hx,e'⟩ | ⟨xs,hx,e'⟩ | ⟨kvs,hx,e'⟩
  ·subst e'
   obtain⟨its,r,pl,hz⟩:=I.list hx
   have hlen:=r.length
   exact wpAny_truthy_list pl.isList (by simp only [A5R];omega) ⟨H,I.tok _,by rw[Ams r];exact q⟩
  ·subst e'
   obtain⟨its,r,pl,hz⟩:=I.tuple hx
   have hlen:=r.length
   exact truthy_tuple pl (by simp only [A5R];omega) ⟨H,I.tok _,by rw[Ams r];exact q⟩
  ·subst e'
   obtain⟨hz,hS,vs,r,m⟩:kvs.length≤sizeLine∧(p == sysModules)=false∧∃ vs,KV kvs vs∧s.heap.DictOf (Aqh X.prog X.w) p vs:=I.hok p _ hx
   have hlen:kvs.length=vs.length:=Paired.length r
   exact wpAny_truthy_dict hS m (by omega) ⟨H,I.tok _,by rw[Atr r];exact q⟩
 | _=>exact(show False from e).elim
theorem Aw6(ha:PE X a ta)(he:∀ whole,isTrue a X.env whole=(do let v ← whole;standAt a.pos;holding [v] (truthy v))) :
  PT X a (fun σ H Q=>ta σ H fun x H'=>∃ k,A0g X.K x H' k∧Q k H'):=by
 intro pins s σ H Q I h
 exact isTrue_plain (thn (ha pins s σ H _ I h) fun v s1 ⟨x,H1,I1,r1,q1⟩=>A0h pins s1 σ H1 x v Q I1 r1 q1) (he _)
theorem Bu:OpR X (binaryOp .Add) (fun x y H Q=>∃ i j,x=.str i∧y=.str j∧i.length+j.length≤sizeLine∧Q (.str (i++j)) H):=by
 intro pins s σ H x y v u Q I rx ry h
 obtain⟨i,j,rfl,rfl,hz,q⟩:=h
 obtain⟨t,rfl⟩:=rx
 obtain⟨t',rfl⟩:=ry
 exact add_str (fun t' tk=>⟨.str (i++j),H,I.tok _,⟨_,rfl⟩,q⟩) hz
def A1S (b:Expr):Prop:=∀ o i,subscripted b false o i=operate [o,i] (getItem o i)
theorem vals1{x:V}{us:List Value}(r:Vals [x] us):∃ u,us=[u]∧RelV x u:=by
 cases r with
 | cons r1 r2=>cases r2;exact⟨_,rfl,r1⟩
theorem AeB:V9 X (.type "int") (fun xs H Q=>(∃ i,xs=[.int i]∧Q (.int i) H)∨∃ k,xs=[.bl k]∧Q (.int (if k then 1 else 0)) H):=by
 intro pins s σ H xs us Q I r h
 rcases h with ⟨i,rfl,q⟩ | ⟨k,rfl,q⟩
 ·obtain⟨u,rfl,t,rfl⟩:=vals1 r
  exact call_int_int ⟨.int i,H,I,⟨_,rfl⟩,q⟩
 ·obtain⟨u,rfl,r1⟩:=vals1 r
  cases r1
  exact call_int_bool ⟨.int (if k then 1 else 0),H,I.tok _,⟨_,rfl⟩,q⟩
theorem Gz:V9 X (.type "str") (fun xs H Q=>∃ i,xs=[.int i]∧i.natAbs.log2<1920∧Q (.str (toString i)) H):=by
 intro pins s σ H xs us Q I r h
 obtain⟨i,rfl,hz,q⟩:=h
 obtain⟨u,rfl,t,rfl⟩:=vals1 r
 exact PySem.P.str_of_int hz ⟨.str _,H,I.tok _,⟨_,rfl⟩,q⟩
def A5e (K:PySem.W.Frag)(x:V)(H:Hp)(n:Nat):Prop :=
 match x with
 | .str y=>y.length≤sizeLine∧n=y.length
 | .byt y=>y.size≤sizeLine∧n=y.size
 | .ref p=>(∃ xs,SqL K H p xs∧n=xs.length)∨∃ xs,SqT K H p xs∧n=xs.length
 | _=>False
end
open PySem PySem.Spec PyProof.Rows
structure Ats (h:Heap) (x dx C:Addr) (mA:Str→Option Value):Prop where
 obj:h.get? x=some (PySem.W.instObj C dx)
 ns:h.Ns1 dx mA
 ne:dx≠x
theorem Av1{h:Heap}{dx:Addr}{mA:Str→Option Value}(n:h.Ns1 dx mA):∃ od,h.get? dx=some od∧∀ name,PySem.W.lookIn name od=some (mA name):=by
 obtain⟨o,es,ep,ho,hd,hk,_,hm⟩:=n
 refine⟨o,ho,fun name=>?_⟩
 have e:=hm name
 unfold nsFind findBy at e
 rw[← Array.find?_toList] at e
 unfold PySem.W.lookIn
 rw[hd]
 dsimp only
 split
 ·rename_i y q
  rw[q] at e
  exact congrArg some e
 ·rename_i q
  rw[q] at e
  have a:es.toList.any (·.refKey)=false:=by
   rw[List.any_eq_false]
   intro y hy
   obtain⟨z,t,hkey⟩:=hk y (Array.mem_toList_iff.mp hy)
   simp[DictEntry.refKey,hkey]
  have a':¬es.toList.any (·.refKey)=true:=by rw[a];exact A5Q
  rw[if_neg a']
  exact congrArg some e
theorem Ats.look{h:Heap}{x dx C:Addr}{mA:Str→Option Value}(I:Ats h x dx C mA):∃ od,PySem.W.InstAt h x (PySem.W.instObj C dx) C (some od)∧∀ name,PySem.W.lookIn name od=some (mA name) :=
 let ⟨od,ho,hl⟩:=Av1 I.ns
 ⟨od,⟨I.obj,rfl,rfl,ho⟩,hl⟩
section
variable {prog:Program}{w:World}{A:Around}{E:Value→Shared→Prop}{s:Shared}{K:PySem.W.Frag}{x dx C f:Addr}{mA:Str→Option Value}{name:Str}{v:Value}
theorem get_map{expr:Bool}{Q:Value→Shared→Prop}(X:K.In s.heap)(I:Ats s.heap x dx C mA)(hg:PySem.W.plainGet K C name=true)(hh:PySem.W.hasDictIn K C=true)
  (ha:PySem.W.findIn K (.ref C) name=some none) (hv:mA name=some v) (hv':PySem.W.handedIn v=true) (h:Q v { s with toks:=s.toks+1 }) :
  wpAny (model prog w) A (getAttr (.ref x) name expr) Q E s:=by
 obtain⟨od,J,hl⟩:=I.look
 exact PySem.W.get_value X J (PySem.W.plainGet_of hg).1 (PySem.W.findObj_own hh ha rfl (by rw[hl,hv])) hv' h
theorem Aw7{pl:Sem Bool}{Q:Value × List Value→Shared→Prop}(X:K.In s.heap)(I:Ats s.heap x dx C mA)(hg:PySem.W.plainGet K C name=true)
  (hf:PySem.W.findIn K (.ref C) name=some (some (.ref f))) (ht:PySem.W.isFn K (.ref f)=true) (hv:mA name=none) (h:Q (.ref f,[.ref x]) s) :
  wpAny (model prog w) A (getMethod (.ref x) name pl) Q E s:=by
 obtain⟨od,J,hl⟩:=I.look
 exact PySem.W.method_fn X J (PySem.W.plainGet_of hg).1 (PySem.W.plainGet_of hg).2 hf (beq_iff_eq.mp ht) (by show(PySem.W.lookIn name od).map (·.isSome)=some false;rw[hl,hv];rfl) h
theorem AyB{ns:List Str}{Q:Unit→Shared→Prop}(X:K.In s.heap)(I:Ats s.heap x dx C mA)
  (hs:PySem.W.findIn K (.ref C) "__setattr__" = some (some (.builtin "object.__setattr__"))) (hp:PySem.W.plainOver K C=true) (ht:PySem.W.takerIn K C name=some none) (hh:PySem.W.hasDictIn K C=true)
  (hw:PySem.Within mA ns) (hsz:ns.length≤sizeLine)
  (h:∀ h',Ats h' x dx C (fun y=>if y=name then some v else mA y)→Heap.SameBut dx s.heap h'→Q () { s with heap:=h',toks:=s.toks+2 }) :
  wpAny (model prog w) A (setAttr (.ref x) name v) Q E s:=by
 obtain⟨od,J,hl⟩:=I.look
 refine PySem.W.set_plain X J hs (PySem.W.osa_open (s:={ s with toks:=s.toks+1 }) (r:=none) X J hp ht fun b=>?_)
 obtain⟨cd,hc,hd'⟩:=PySem.W.any_some hh
 have hx:s.heap.get? x=some ⟨.ref C,some dx,.plain,#[]⟩:=I.obj
 refine wpAny_bind (wpAny_pure (wpAny_bind (wpAny_bind (wpAny_loadPart hx (wpAny_bind (PySem.W.Looks.here (s:={ s with toks:=s.toks+1 }) (PySem.W.looks_clsIn X hc) ?_))))))
 rw[hd']
 refine wpAny_pure (a:=some dx) (wpAny_bind (wpAny_pure (wpAny_bind ?_)))
 refine wpAny_nsSet1 (s:={ s with toks:=s.toks+1 }) I.ns fun h' hn2 hs2=>?_
 obtain⟨oD,esD,epD,hoD,hdD,hcD⟩:=hn2.count (PySem.Within.cons name v hw)
 refine wpAny_bind (wpAny_lookBehind hoD (by rw[hdD];exact pastItsLine_dict (A5X hcD (by rw[A5N];omega))) ?_)
 exact wpAny_pure (h _ ⟨(hs2.2 _ (Ne.symm I.ne)).trans I.obj,hn2,I.ne⟩ hs2)
theorem Aw8{R:Result→Shared→Prop}{vs:List Value}{kw:List (Str × Value)}(X:K.In s.heap)(hm:PySem.W.makesIn K C=true)
  (hi:PySem.W.findIn K (.ref C) "__init__" = some (some (.ref f))) (hf:PySem.W.typeIn K (.ref f)=some (.type "function"))
  (h:codeAny (model prog w) (A.under (.builtin "type.__call__" ⟨.ref C::vs,kw⟩)) (.call (.ref f) ⟨.ref (s.heap.objs.size+1)::vs,kw⟩) (PySem.W.InitBack (s.heap.objs.size+1) R)
   { s with heap:=(s.heap.push PySem.W.emptyDict).push (PySem.W.instObj C s.heap.objs.size) }) :
  codeAny (model prog w) A (.call (.ref C) ⟨vs,kw⟩) R s:=by
 obtain⟨hh,g,d,t,os⟩:=s
 exact PySem.W.make_core (PySem.W.makes_of X hm) (PySem.W.looks_findIn X hi) (fun self=>PySem.W.bind_fn X self hf) (.inl rfl) h
end
def Abt (f:Str)(v:V):List (Str × V)→List (Str × V)
 | []=>[(f,v)]
 | (g,x)::r=>if g=f then (g,v)::r else (g,x)::Abt f v r
theorem AkO(f g:Str)(v:V):∀ fs:List (Str × V),(Abt f v fs).lookup g=if g=f then some v else fs.lookup g
 | []=>by
  show List.lookup g [(f,v)]=_
  by_cases h:g=f
  ·have hb:(g == f)=true:=beq_iff_eq.mpr h
   simp only [List.lookup,hb,if_pos h]
  ·have hb:(g == f)=false:=beq_eq_false_iff_ne.mpr h
   simp only [List.lookup,hb,if_neg h]
 | (k,x)::r=>by
  have ih:=AkO f g v r
  rw[show Abt f v ((k,x)::r)=(if k=f then (k,v)::r else (k,x)::Abt f v r) from rfl]
  by_cases hk:k=f
  ·rw[if_pos hk]
   by_cases h:g=k
   ·have hb:(g == k)=true:=beq_iff_eq.mpr h
    simp only [List.lookup,hb,if_pos (h.trans hk)]
   ·have hb:(g == k)=false:=beq_eq_false_iff_ne.mpr h
    simp only [List.lookup,hb,if_neg (fun e:g=f=>h (e.trans hk.symm))]
  ·rw[if_neg hk]
   by_cases h:g=k
   ·have hb:(g == k)=true:=beq_iff_eq.mpr h
    simp only [List.lookup,hb,if_neg (fun e:g=f=>hk (h.symm.trans e))]
   ·have hb:(g == k)=false:=beq_eq_false_iff_ne.mpr h
    simp only [List.lookup,hb]
    exact ih
theorem Ajk(f:Str)(v:V):∀ fs:List (Str × V),f∈(Abt f v fs).map (·.1)∧∀ g,g∈fs.map (·.1)→g∈(Abt f v fs).map (·.1)
 | []=>⟨by simp[Abt],fun g h=>by simp at h⟩
 | (k,x)::r=>by
  obtain⟨i1,i2⟩:=Ajk f v r
  rw[show Abt f v ((k,x)::r)=(if k=f then (k,v)::r else (k,x)::Abt f v r) from rfl]
  by_cases hk:k=f
  ·rw[if_pos hk]
   subst hk
   exact⟨by simp,fun g h=>by simpa using h⟩
  ·rw[if_neg hk]
   refine⟨?_,fun g h=>?_⟩
   ·rw[A5P]
    exact A6h _ i1
   ·rw[A5P] at h ⊢
    rcases List.mem_cons.mp h with e | e
    ·exact List.mem_cons.mpr (.inl e)
    ·exact A6h _ (i2 g e)
theorem AkP(f:Str)(v:V):∀ fs:List (Str × V),(Abt f v fs).length≤fs.length+1
 | []=>by simp[Abt]
 | (k,x)::r=>by
  have ih:=AkP f v r
  rw[show Abt f v ((k,x)::r)=(if k=f then (k,v)::r else (k,x)::Abt f v r) from rfl]
  by_cases hk:k=f
  ·rw[if_pos hk,A5N,A5N];omega
  ·rw[if_neg hk,A5N,A5N];omega
theorem AoL.some_of{v:V}{o:Option Value}(r:AoL (some v) o):∃ u,o=some u∧RelV v u:=by
 cases o with
 | none=>exact(show False from r).elim
 | some u=>exact⟨u,rfl,r⟩
theorem AoL.none_of{o:Option Value}(r:AoL none o):o=none:=by
 cases o with
 | none=>rfl
 | some u=>exact(show False from r).elim
theorem Av2{v:V}{u:Value}(r:RelV v u):PySem.W.handedIn u=true:=by
 cases v with
 | non=>cases (show u=Value.none from r);rfl
 | bl b=>cases (show u=Value.bool b from r);rfl
 | int i=>obtain⟨t,e⟩:=(show ∃ t,u=Value.int i t from r);cases e;rfl
 | str x=>obtain⟨t,e⟩:=(show ∃ t,u=Value.str x t from r);cases e;rfl
 | byt b=>obtain⟨t,e⟩:=(show ∃ t,u=Value.bytes b t from r);cases e;rfl
 | flt b=>obtain⟨t,e⟩:=(show ∃ t,u=Value.float b t from r);cases e;rfl
 | ref a=>cases (show u=Value.ref a from r);rfl
 | ty n=>cases (show u=Value.type n from r);rfl
section
variable {P:Program}{w:World}{H H':Hp}{h h':Heap}{a C dx:Addr}{fs fs':List (Str × V)}
theorem AlZ(hok:HOk P w H h)(e:H a=some (.ins C dx fs)):∃ mA,Ats h a dx C mA∧(∀ f,AoL (fs.lookup f) (mA f))∧PySem.Within mA (fs.map (·.1))∧fs.length≤1000∧H dx=some (.own a):=by
 obtain⟨d,z,ne,ob,mA,n,r,q⟩:=(show PQ P w H h a (.ins C dx fs) from hok a _ e)
 exact⟨mA,⟨ob,n,ne⟩,r,q,z,d⟩
end
structure Cls (K:PySem.W.Frag) (C:Addr):Prop where
 pg:PySem.W.plainGet K C Str.empty=true
 hd:PySem.W.hasDictIn K C=true
 po:PySem.W.plainOver K C=true
 sa:PySem.W.findIn K (.ref C) "__setattr__" = some (some (.builtin "object.__setattr__"))
theorem Cls.get{K:PySem.W.Frag}{C:Addr}(c:Cls K C)(f:Str):PySem.W.plainGet K C f=true:=c.pg
def De (K:PySem.W.Frag)(C:Addr)(f:Str):Prop:=PySem.W.findIn K (.ref C) f=some none
theorem De.taker{K:PySem.W.Frag}{C:Addr}{f:Str}(n:De K C f):PySem.W.takerIn K C f=some none:=by
 unfold PySem.W.takerIn
 rw[show PySem.W.findIn K (.ref C) f=some none from n]
 rfl
structure Con (K:PySem.W.Frag) (C:Addr) (f:Str) (v:V) (u:Value):Prop where
 at_:PySem.W.findIn K (.ref C) f=some (some u)
 rel:RelV v u
 get:PySem.W.specialIn K u "__get__" = some none
 cp:PySem.W.copiedNames.contains f=false
structure Meth (K:PySem.W.Frag) (C:Addr) (m:Str) (f:Addr):Prop where
 at_:PySem.W.findIn K (.ref C) m=some (some (.ref f))
 fn:PySem.W.isFn K (.ref f)=true
 kp:PySem.W.keepIn K (.ref f)=true
section
variable {X:Cx}{pins:List (Addr × Obj)}{σ:St}{H:Hp}{s:Shared}{a C dx:Addr}{fs:List (Str × V)}{f:Str}{v:V}{A:Around}{E:Value→Shared→Prop}
theorem Amt{b:Bool}{Q:Value→Shared→Prop}(I:Inv X pins σ H s)(e:H a=some (.ins C dx fs))(c:Cls X.K C)(n:De X.K C f)(l:fs.lookup f=some v)
  (h:∀ u s',Inv X pins σ H s'→RelV v u→Q u s'):wpAny (model X.prog X.w) A (getAttr (.ref a) f b) Q E s:=by
 obtain⟨mA,O,r,_,_,_⟩:=AlZ I.hok e
 obtain⟨u,hu,ru⟩:=AoL.some_of (v:=v) (o:=mA f) (by rw[← l];exact r f)
 exact get_map I.kIn O (c.get f) c.hd n hu (Av2 ru) (h u _ (I.tok _) ru)
theorem Ago{m:Str}{g:Addr}{pl:Sem Bool}{Q:Value × List Value→Shared→Prop}(I:Inv X pins σ H s)(e:H a=some (.ins C dx fs))(c:Cls X.K C)(k:Meth X.K C m g)(l:fs.lookup m=none)
  (h:Q (.ref g,[.ref a]) s):wpAny (model X.prog X.w) A (getMethod (.ref a) m pl) Q E s:=by
 obtain⟨mA,O,r,_,_,_⟩:=AlZ I.hok e
 have hn:mA m=none:=AoL.none_of (by rw[← l];exact r m)
 exact Aw7 I.kIn O (c.get m) k.at_ k.fn hn h
theorem Amu{y:V}{u:Value}{Q:Unit→Shared→Prop}(I:Inv X pins σ H s)(e:H a=some (.ins C dx fs))(c:Cls X.K C)(n:De X.K C f)(hl:fs.length<1000)(ry:RelV y u)
  (h:∀ s',Inv X pins σ (upd H a (.ins C dx (Abt f y fs))) s'→Q () s'):wpAny (model X.prog X.w) A (setAttr (.ref a) f u) Q E s:=by
 obtain⟨mA,O,r,wi,_,ho⟩:=AlZ I.hok e
 have hz:(fs.map (·.1)).length≤sizeLine:=by rw[A5I,sizeLine_eq];omega
 refine AyB I.kIn O c.sa c.po n.taker c.hd wi hz fun h' O' sb=>h _ ?_
 have hd:∃ o,h'.get? dx=some o:=let ⟨o,_,_,e',_⟩:=O'.ns;⟨o,e'⟩
 refine I.write (x:=a) (e:=dx) (by rw[e];exact True.intro) (.inr ho) (fun b q hb z=>(sb.2 b hb).trans z) hd ?_
 refine⟨by rw[Bd O.ne];exact ho,?_,O.ne,O'.obj,_,O'.ns,fun g=>?_,fun g hg=>?_⟩
 ·have:=AkP f y fs;omega
 ·show AoL ((Abt f y fs).lookup g) (if g=f then some u else mA g)
  rw[AkO]
  by_cases q:g=f
  ·rw[if_pos q,if_pos q];exact ry
  ·rw[if_neg q,if_neg q];exact r g
 ·by_cases q:g=f
  ·rw[q];exact(Ajk f y fs).1
  ·refine(Ajk f y fs).2 g (wi g fun z=>hg ?_)
   show(if g=f then some u else mA g)=none
   rw[if_neg q];exact z
theorem Inv.made(I:Inv X pins σ H s):Inv X pins σ (upd (upd H s.heap.objs.size (.own (s.heap.objs.size+1))) (s.heap.objs.size+1) (.ins C s.heap.objs.size []))
  { s with heap:=(s.heap.push PySem.W.emptyDict).push (PySem.W.instObj C s.heap.objs.size) }:=by
 have e1:(s.heap.push PySem.W.emptyDict).get? s.heap.objs.size=some PySem.W.emptyDict:=Heap.get?_push_size s.heap rfl
 have e2:((s.heap.push PySem.W.emptyDict).push (PySem.W.instObj C s.heap.objs.size)).get? (s.heap.objs.size+1)=some (PySem.W.instObj C s.heap.objs.size):=by
  have:=Heap.get?_push_size (s.heap.push PySem.W.emptyDict) (o:=PySem.W.instObj C s.heap.objs.size) rfl
  rwa [Heap.size_push] at this
 have e3:(s.heap.push PySem.W.emptyDict).Ns s.heap.objs.size (fun _=>none):=⟨PySem.W.emptyDict,#[],_,e1,rfl,(fun e he=>absurd he (by simp)),fun _=>rfl⟩
 have I1:=I.laid (a:=s.heap.objs.size) (o:=.own (s.heap.objs.size+1)) (h':=s.heap.push PySem.W.emptyDict) (t':=s.toks) (fun b u q=>Heap.get?_push_of_some _ q) (A5K _) ⟨_,e1⟩
 refine I1.laid (a:=s.heap.objs.size+1) (o:=.ins C s.heap.objs.size []) (t':=s.toks) (fun b u q=>Heap.get?_push_of_some _ q) (A6v (Heap.size_push _ _)) ?_
 have ne:s.heap.objs.size≠s.heap.objs.size+1:=A5M (A6y _)
 refine⟨by rw[Bd ne,Ad],A6c _,ne,e2,fun _=>none,(Heap.Ns1.of_empty e3).at fun o q=>Heap.get?_push_of_some _ q,fun _=>True.intro,fun y hy=>absurd rfl hy⟩
theorem AyC{prog:Program}{w:World}{env:Env}{e:Expr}{f:Str}{pos:Pos}{s:Shared}{Q:Value→Shared→Prop}(hb:attributeBase e f env (eval e env)=eval e env)
  (h:wpAny (model prog w) A (eval e env) (fun o s₁=>wpAny (model prog w) A (getAttr o f true) Q E s₁) E s):wpAny (model prog w) A (eval (.Attribute e f pos) env) Q E s :=
 Attribute_any_ h (by rw[arm_eval_Attribute,hb])
end
def A1T (K:PySem.W.Frag)(ta:TE)(f:Str):TE:=fun σ H Q=>ta σ H fun x H1=>∃ a C dx fs v,x=.ref a∧H1 a=some (.ins C dx fs)∧Cls K C∧De K C f∧fs.lookup f=some v∧Q v H1
def A5f (K:PySem.W.Frag)(ta:TE)(f:Str):TE:=fun σ H Q=>ta σ H fun x H1=>∃ a C dx fs v u,x=.ref a∧H1 a=some (.ins C dx fs)∧Cls K C∧Con K C f v u∧fs.lookup f=none∧Q v H1
def A1U (K:PySem.W.Frag)(ta tv:TE)(f:Str):TS:=fun D σ H=>tv σ H fun y H1=>ta σ H1 fun x H2=>∃ a C dx fs,x=.ref a∧H2 a=some (.ins C dx fs)∧Cls K C∧De K C f∧fs.length<1000 ∧
 D.nx σ (upd H2 a (.ins C dx (Abt f y fs)))
def A0i (X:Cx)(op:Operator)(rd:V→V→Hp→VK→Prop):Prop :=
 ∀(pins:List (Addr × Obj)) (s:Shared) (σ:St) (H:Hp) (x y:V) (u v:Value) (Q:VK),Inv X pins σ H s→RelV x u→RelV y v→rd x y H Q→wpAny (model X.prog X.w) X.A (inplaceOp op u v) (EP X pins σ Q) X.xe s
def AuF (K:PySem.W.Frag)(ta tv:TE)(rd:V→V→Hp→VK→Prop)(f:Str):TS:=fun D σ H=>ta σ H fun x H1=>∃ a C dx fs v,x=.ref a∧H1 a=some (.ins C dx fs)∧Cls K C∧De K C f∧fs.lookup f=some v ∧
 tv σ H1 fun y H2=>rd v y H2 fun z H3=>∃ dx' fs',H3 a=some (.ins C dx' fs')∧fs'.length<1000∧D.nx σ (upd H3 a (.ins C dx' (Abt f z fs')))
section
variable {X:Cx}{o e value:Expr}{f:Str}{pos pos' tpos:Pos}{ta tv:TE}
theorem A0j(he:PE X e ta)(hb:attributeBase e f X.env (eval e X.env)=eval e X.env):PE X (.Attribute e f pos) (A1T X.K ta f):=by
 intro pins s σ H Q I h
 refine AyC hb (thn (he pins s σ H _ I h) fun u s1 ⟨x,H1,I1,rx,a,C,dx,fs,v,ex,ea,c,n,l,q⟩=>?_)
 subst ex
 obtain rfl:u=Value.ref a:=rx
 exact Amt I1 ea c n l fun u' s2 I2 ru=>⟨v,H1,I2,ru,q⟩
theorem A0k(ha:PE X o ta)(hv:PE X value tv)(hs:swapsWith value (some (.Attribute o f pos')) pos.line X.env=pure false):PS X (.Assign [.Attribute o f pos'] value pos) (A1U X.K ta tv f):=by
 intro pins s σ H D I h
 refine plainObj_wpAny_Assign_Attribute (thn (hv pins s σ H _ I h) fun u s1 ⟨y,H1,I1,ry,q⟩=>thn (ha pins s1 σ H1 _ I1 q) fun ov s2 ⟨x,H2,I2,rx,a,C,dx,fs,ex,ea,c,n,l,q2⟩=>?_) hs
 subst ex
 obtain rfl:ov=Value.ref a:=rx
 exact Amu I2 ea c n l ry fun s3 I3=>⟨σ,_,I3,q2⟩
theorem Av3{op:Operator}{rd:V→V→Hp→VK→Prop}(ha:PE X o ta)(hv:PE X value tv)(hop:A0i X op rd):PS X (.AugAssign (.Attribute o f tpos) op value pos) (AuF X.K ta tv rd f):=by
 intro pins s σ H D I h
 refine wpAny_AugAssign_AttributeAny (thn (ha pins s σ H _ I h) fun ov s1 ⟨x,H1,I1,rx,a,C,dx,fs,v,ex,ea,c,n,l,q⟩=>?_)
 subst ex
 obtain rfl:ov=Value.ref a:=rx
 refine Amt I1 ea c n l fun u s2 I2 ru=>thn (hv pins s2 σ H1 _ I2 q) fun w3 s3 ⟨y,H2,I3,ry,q3⟩=>thn (hop pins s3 σ H2 v y u w3 _ I3 ru ry q3) fun w4 s4 ⟨z,H3,I4,rz,dx',fs',ea',l',q4⟩=>?_
 exact Amu I4 ea' c n l' rz fun s5 I5=>⟨σ,_,I5,q4⟩
def A3K:V→V→Hp→VK→Prop:=fun x y H Q=>∃ i j,x=.int i∧y=.int j∧Q (.int (i+j)) H
def A5g:V→V→Hp→VK→Prop:=fun x y H Q=>∃ i j,x=.int i∧y=.int j∧Q (.int (i-j)) H
theorem A0l:A0i X .Add A3K:=by
 rintro pins s σ H x y u v Q I rx ry ⟨i,j,rfl,rfl,q⟩
 obtain⟨t,rfl⟩:=(show ∃ t,u=Value.int i t from rx)
 obtain⟨t',rfl⟩:=(show ∃ t',v=Value.int j t' from ry)
 exact PyProof.Rows.iadd_int ⟨.int (i+j),H,I.tok _,⟨_,rfl⟩,q⟩
end
section
variable {X:Cx}{pins:List (Addr × Obj)}{σ:St}{H:Hp}{s:Shared}{A:Around}{E:Value→Shared→Prop}{Q:Value→Shared→Prop}{c:Value}{b:Bool}
inductive Ajl (K:PySem.W.Frag) (H:Hp):V→Value→Prop where
 | non:Ajl K H .non (.type "NoneType")
 | bl (x:Bool):Ajl K H (.bl x) (.type "bool")
 | int (i:Int):Ajl K H (.int i) (.type "int")
 | str (x:Str):Ajl K H (.str x) (.type "str")
 | flt (x:UInt64):Ajl K H (.flt x) (.type "float")
 | lst {a:Addr} {xs:List V} (e:H a=some (.lst xs)):Ajl K H (.ref a) (.type "list")
 | frz {a:Addr} {o:Obj} {xs:List V} (e:H a=some (.frz o (.lst xs))):Ajl K H (.ref a) (.type "list")
 | tup {a:Addr} {xs:List V} (e:H a=some (.tup xs)):Ajl K H (.ref a) (.type "tuple")
 | dK {a:Addr} {kvs:List (Key × V)} (e:H a=some (.dK kvs)):Ajl K H (.ref a) (.type "dict")
 | dT {a:Addr} {kvs:List (List Key × V)} (e:H a=some (.dT kvs)):Ajl K H (.ref a) (.type "dict")
 | ins {a C dx:Addr} {fs:List (Str × V)} (e:H a=some (.ins C dx fs)) (cl:Cls K C) (ha:PySem.W.findIn K (.ref C) "__class__" = some (some (.builtin "object.__class__")))
   (hn:PySem.W.specialIn K (.builtin "object.__class__") "__get__" = some (some (.builtin "getset_descriptor.__get__"))) (htk:PySem.W.takesIn K (.builtin "object.__class__")=some true)
   (hm:PySem.W.mroIn K C (.type "object")=some true):Ajl K H (.ref a) (.ref C)
theorem ApE{x:V}{u t:Value}(I:Inv X pins σ H s)(rx:RelV x u)(ty:Ajl X.K H x t)(e:PySem.W.kitOne X.K t c=some b)(h:∀ tk,Q (.bool b) { s with toks:=tk }) :
  wpAny (model X.prog X.w) A (call (.builtin "isinstance") [u,c]) Q E s:=by
 cases ty with
 | non=>cases (show u=Value.none from rx);exact PySem.W.kia_one PySem.W.kitx_none I.kIn True.intro e (fun z=>nomatch z) h
 | bl y=>cases (show u=Value.bool y from rx);exact PySem.W.kia_one PySem.W.kitx_bool I.kIn True.intro e (fun z=>nomatch z) h
 | int i=>obtain⟨t,q⟩:=(show ∃ t,u=Value.int i t from rx);cases q;exact PySem.W.kia_one PySem.W.kitx_int I.kIn True.intro e (fun z=>nomatch z) h
 | str y=>obtain⟨t,q⟩:=(show ∃ t,u=Value.str y t from rx);cases q;exact PySem.W.kia_one PySem.W.kitx_str I.kIn True.intro e (fun z=>nomatch z) h
 | flt y=>obtain⟨t,q⟩:=(show ∃ t,u=Value.float y t from rx);cases q;exact PySem.W.kia_one PySem.W.kitx_float I.kIn True.intro e (fun z=>nomatch z) h
 | @lst a xs ea =>
  cases (show u=Value.ref a from rx)
  obtain⟨_,_,n,_,h1⟩:=(show PQ X.prog X.w H s.heap a (.lst xs) from I.hok a _ ea)
  exact PySem.W.kia_one PySem.W.kitx_list I.kIn ⟨_,h1,rfl⟩ e (fun z=>nomatch z) h
 | @frz a ob xs ea =>
  cases (show u=Value.ref a from rx)
  obtain⟨_,_,_,n,_,h1⟩:=(show PQ X.prog X.w H s.heap a (.frz ob (.lst xs)) from I.hok a _ ea)
  exact PySem.W.kia_one PySem.W.kitx_list I.kIn ⟨_,h1,rfl⟩ e (fun z=>nomatch z) h
 | @tup a xs ea =>
  cases (show u=Value.ref a from rx)
  obtain⟨_,_,_,p⟩:=(show PQ X.prog X.w H s.heap a (.tup xs) from I.hok a _ ea)
  obtain⟨o,h1,h2,_⟩:=p
  exact PySem.W.kia_one PySem.W.kitx_tuple I.kIn ⟨o,h1,h2⟩ e (fun z=>nomatch z) h
 | @dK a kvs ea =>
  cases (show u=Value.ref a from rx)
  obtain⟨_,_,vs,_,p⟩:=(show PQ X.prog X.w H s.heap a (.dK kvs) from I.hok a _ ea)
  obtain⟨o,es,ep,h1,h2,_⟩:=p
  exact PySem.W.kia_one PySem.W.kitx_dict I.kIn ⟨o,h1,h2.1⟩ e (fun z=>nomatch z) h
 | @dT a kvs ea =>
  cases (show u=Value.ref a from rx)
  obtain⟨_,_,xs,_,o,es,ep,h1,h2,_⟩:=(show PQ X.prog X.w H s.heap a (.dT kvs) from I.hok a _ ea)
  exact PySem.W.kia_one PySem.W.kitx_dict I.kIn ⟨o,h1,h2.1⟩ e (fun z=>nomatch z) h
 | @ins a C dx fs ea cl ha hn htk hm =>
  cases (show u=Value.ref a from rx)
  obtain⟨mA,O,_⟩:=AlZ I.hok ea
  obtain⟨od,J,_⟩:=O.look
  exact PySem.W.kia_one (PySem.W.kitx_own (cl.get _) cl.hd ha hn htk hm) I.kIn J e (fun z=>nomatch z) h
end
open PySem PySem.Spec PyProof.Rows
structure Rv (k:Nat) (A:Around):Prop where
 hd:A.handled=none
 dp:A.depth+3*k+5<recursionLimit
 un:A.units+16*k+200<cLine
theorem Rv.mono{j k:Nat}{A:Around}(r:Rv k A)(h:j≤k):Rv j A:=⟨r.hd,by have:=r.dp;omega,by have:=r.un;omega⟩
theorem Rv.deeper{k:Nat}{A:Around}(r:Rv (k+1) A)(env:Env):Rv k (A.deeper env) :=
 ⟨r.hd,by have:=r.dp;show A.depth+1+3*k+5<_;omega,by have:=r.un;show A.units+3+16*k+200<_;omega⟩
theorem Atu{A:Around}{C:Addr}{us:List Value}{kw:List (Str × Value)}:(A.under (.builtin "type.__call__" ⟨.ref C::us,kw⟩)).depth=A.depth+1:=by
 first | rfl | simp[Around.under,Code.weight,Code.isCreation,Code.isGuard,Code.isCaller,Code.frames,Code.isFrame,guardIds]
theorem Atv{A:Around}{C:Addr}{us:List Value}{kw:List (Str × Value)}:(A.under (.builtin "type.__call__" ⟨.ref C::us,kw⟩)).units=A.units+1:=by
 first | rfl | simp[Around.under,Code.cUnits,Code.frames,Code.isFrame]
theorem Rv.make{k:Nat}{A:Around}(r:Rv (k+1) A)(C:Addr)(us:List Value)(kw:List (Str × Value)):Rv k (A.under (.builtin "type.__call__" ⟨.ref C::us,kw⟩)) :=
 ⟨r.hd,by have:=r.dp;rw[Atu];omega,by have:=r.un;rw[Atv];omega⟩
theorem Rv.depth{k:Nat}{A:Around}(r:Rv k A):A.depth<recursionLimit:=by have:=r.dp;omega
def A1V:TA:=fun _ H Q=>Q [] H
def A1W (ta:TE)(tr:TA):TA:=fun σ H Q=>ta σ H fun x H1=>tr σ H1 fun xs H2=>Q (x::xs) H2
section
variable {X:Cx}{e:Expr}{es:List Expr}{te:TE}{t:TA}{pos:Pos}
theorem Ac:PA X [] A1V:=fun _ _ _ _ H Q I h=>Calls.spliced_nil ⟨[],H,I,.nil,h⟩
theorem Aa(ha:PE X e te)(hr:PA X es t)(hs:starEach (e::es) X.env=(false,eval e X.env)::starEach es X.env:=by rfl):PA X (e::es) (A1W te t):=by
 intro pos pins s σ H Q I h
 rw[hs]
 show wpAny _ _ (spliced ((false,eval e X.env)::backTo pos (starEach es X.env))) _ _ s
 refine Calls.spliced_cons (thn (ha pins s σ H _ I h) fun u s1 ⟨x,H1,I1,r1,q1⟩=>?_)
 exact thn (hr pos pins s1 σ H1 _ I1 q1) fun us s2 ⟨xs,H2,I2,r2,q2⟩=>⟨x::xs,H2,I2,.cons r1 r2,q2⟩
def A3L (t:TA):TE:=fun σ H Q=>t σ H fun xs H1=>xs.length≤sizeLine∧∀ p,H1 p=none→Q (.ref p) (upd H1 p (.tup xs))
def A3M (t:TA):TE:=fun σ H Q=>t σ H fun xs H1=>xs.length≤sizeLine∧∀ p,H1 p=none→Q (.ref p) (upd H1 p (.lst xs))
theorem K5{x1}(h:PA X es t):PE X (.Tuple es x1 pos) (A3L t):=by
 intro pins s σ H Q I hq
 refine wpAny_Tuple_spliced (thn (h pos pins s σ H _ I hq) fun us s1 ⟨xs,H1,I1,r,z,q⟩=>⟨by rw[← r.length];exact z,?_⟩)
 have hf:H1 s1.heap.objs.size=none:=I1.hok.fresh (A5K _)
 refine⟨.ref s1.heap.objs.size,upd H1 s1.heap.objs.size (.tup xs),I1.laid (t':=s1.toks) (fun b u e=>Heap.get?_push_of_some _ e) (A5K _) ?_,rfl,q _ hf⟩
 exact⟨z,us,r,⟨_,Heap.get?_push_size _ rfl,rfl,_,rfl⟩⟩
theorem GX(h:PA X es t):PE X (.List es pos) (A3M t):=by
 intro pins s σ H Q I hq
 refine wpAny_List_spliced (thn (h pos pins s σ H _ I hq) fun us s1 ⟨xs,H1,I1,r,z,q⟩=>⟨by rw[← r.length];exact z,?_⟩)
 have hf:H1 s1.heap.objs.size=none:=I1.hok.fresh (A5K _)
 refine⟨.ref s1.heap.objs.size,upd H1 s1.heap.objs.size (.lst xs),I1.laid (t':=s1.toks) (fun b u e=>Heap.get?_push_of_some _ e) (A5K _) ?_,rfl,q _ hf⟩
 exact⟨z,us,0,r,Heap.get?_push_size _ rfl⟩
end
abbrev Sp:=List V→Hp→VK→XK→Prop
abbrev CXT:=List Env→Hp→Shared→XK→Value→Shared→Prop
structure Atw (P:Program) (w:World) (K:PySem.W.Frag) (mg:Str→Option Value) (base:Heap) (A:Around) (outer:List Env) (s:Shared) (H:Hp):Prop where
 frames:A.frames=some outer
 mod:Mod K mg base
 bs:∀ b o,base.get? b=some o→s.heap.get? b=some o∧H b=none
 bsz:base.objs.size≤s.heap.objs.size
 Afg:s.heap.FunFrames base outer
 frf:∀ b∈frs outer,H b=none
 hok:HOk P w H s.heap
 bare:AllBare s.gens
def CE (outer:List Env)(P:Program)(w:World)(H:Hp)(s:Shared)(Q:VK)(u:Value)(s':Shared):Prop :=
 ∃ v H',s'.os=s.os∧AllBare s'.gens∧Un (frs outer) [] H H' s.heap s'.heap∧HOk P w H' s'.heap∧RelV v u∧Q v H'
def CR (CX:CXT)(outer:List Env)(P:Program)(w:World)(H:Hp)(s:Shared)(Q:VK)(E:XK)(r:Result)(s':Shared):Prop :=
 match r with
 | .ok (.ret u)=>CE outer P w H s Q u s'
 | .ok _=>False
 | .error e=>CX outer H s E e s'
structure Aq (P:Program) (w:World) (K:PySem.W.Frag) (mg:Str→Option Value) (base:Heap) (CX:CXT) (k:Nat) (f:Addr) (fd:FuncData) (ps:List Str) (sp:Sp):Prop where
 len:∀ vs H Q E,sp vs H Q E→vs.length=ps.length
 run:∀(A:Around) (outer:List Env) (s:Shared) (H:Hp) (args:Args) (us:List Value) (vs:List V) (Q:VK) (E:XK),Rv k A→Atw P w K mg base A outer s H→BindsTo s fd args (ps.zip us)→Vals vs us→sp vs H Q E →
  codeAny (model P w) A (.call (.ref f) args) (CR CX outer P w H s Q E) s
theorem Aq.mono{P:Program}{w:World}{K:PySem.W.Frag}{mg:Str→Option Value}{base:Heap}{CX:CXT}{j k:Nat}{f:Addr}{fd:FuncData}{ps:List Str}{sp:Sp}(F:Aq P w K mg base CX j f fd ps sp)(h:j≤k) :
  Aq P w K mg base CX k f fd ps sp:=⟨F.len,fun A outer s H args us vs Q E hr=>F.run A outer s H args us vs Q E (hr.mono h)⟩
theorem Atw.make{P:Program}{w:World}{K:PySem.W.Frag}{mg:Str→Option Value}{base:Heap}{A:Around}{outer:List Env}{s:Shared}{H:Hp}(e:Atw P w K mg base A outer s H)(C:Addr)(us:List Value)(kw:List (Str × Value)) :
  Atw P w K mg base (A.under (.builtin "type.__call__" ⟨.ref C::us,kw⟩)) outer s H:=⟨by first | exact e.frames | (simpa [Around.under,Code.envs,Code.isFrame,pushEnvs] using e.frames),e.mod,e.bs,e.bsz,e.Afg,e.frf,e.hok,e.bare⟩
section
variable {X:Cx}{pins:List (Addr × Obj)}{σ:St}{H:Hp}{s s':Shared}
theorem Inv.env0(I:Inv X pins σ H s):Atw X.prog X.w X.K X.mg X.base X.A X.stack s H :=
 ⟨I.ok.frames,I.ok.mod,I.bs,A5X I.ok.bsz I.sz,I.stack,I.Ah0,I.hok,I.bare⟩
theorem Inv.after{Q:VK}{u:Value}(I:Inv X pins σ H s)(h:CE X.stack X.prog X.w H s Q u s'):EP X pins σ Q u s':=by
 obtain⟨v,H',os,bare,un,hok,r,q⟩:=h
 obtain⟨hh,g,d,t,os'⟩:=s'
 obtain rfl:os'=s.os:=os
 exact⟨v,H',I.call (h':=hh) (g':=g) (d':=d) (t':=t) (ch:=[]) un hok bare (fun b z=>absurd z (by simp)),r,q⟩
end
def AzI (sp:Sp)(dvs:List V)(E:XK)(t:TA):TE:=fun σ H Q=>t σ H fun vs H1=>sp (vs++dvs) H1 Q E
def AzJ (C:Addr)(m:Str)(sp:Sp)(dvs:List V)(E:XK)(ta:TE)(t:TA):TE:=fun σ H Q=>ta σ H fun x H1=>∃ a dx fs,x=.ref a∧H1 a=some (.ins C dx fs)∧fs.lookup m=none ∧
 t σ H1 fun vs H2=>sp (x::(vs++dvs)) H2 Q E
def A1X (C:Addr)(sp:Sp)(dvs:List V)(E:XK)(t:TA):TE:=fun σ H Q=>t σ H fun vs H1=>∀ x dx,H1 x=none→H1 dx=none→dx≠x →
 sp (.ref x::(vs++dvs)) (upd (upd H1 dx (.own x)) x (.ins C dx [])) (fun v H2=>v=.non∧Q (.ref x) H2) E
def Binds(K:PySem.W.Frag)(fd:FuncData)(ps:List Str)(ds:List Value):Prop :=
 ∀(s:Shared) (us:List Value),K.In s.heap→(us++ds).length=ps.length→BindsTo s fd ⟨us,[]⟩ (ps.zip (us++ds))
theorem Binds.all{K:PySem.W.Frag}{fd:FuncData}{ps:List Str}(h:∀ us:List Value,us.length=ps.length→bindArgs fd ⟨us,[]⟩=pure (ps.zip us)):Binds K fd ps []:=fun s us _ hl=>by
 rw[A6Y] at hl ⊢
 exact .of_eq (h us hl)
def Passes(CX:CXT)(X:Cx)(E:XK):Prop:=∀(pins:List (Addr × Obj)) (σ:St) (H:Hp) (s:Shared) (e:Value) (s':Shared),Inv X pins σ H s→CX X.stack H s E e s'→X.xe e s'
section
variable {X:Cx}{CX:CXT}{k:Nat}{f C:Addr}{fd:FuncData}{ps:List Str}{sp:Sp}{dvs:List V}{ds:List Value}{E:XK}{x m:Str}{p pos apos:Pos}{e o:Expr}{es:List Expr}{ta:TE}{t:TA}
theorem Amv{pins:List (Addr × Obj)}{σ:St}{H:Hp}{s:Shared}{Q:VK}{us:List Value}{vs:List V}(F:Aq X.prog X.w X.K X.mg X.base CX k f fd ps sp)(hr:Rv k X.A)(hb:Binds X.K fd ps ds)(hd:Vals dvs ds)(hx:Passes CX X E)
  (I:Inv X pins σ H s) (r:Vals vs us) (h:sp (vs++dvs) H Q E):wpAny (model X.prog X.w) X.A (call (.ref f) us) (EP X pins σ Q) X.xe s:=by
 have r2:Vals (vs++dvs) (us++ds):=r.append hd
 have hl:(us++ds).length=ps.length:=by rw[← r2.length];exact F.len _ _ _ _ h
 refine wpAny_call (codeAny_mono (F.run X.A X.stack s H ⟨us,[]⟩ (us++ds) (vs++dvs) Q E hr I.env0 (hb s us I.kIn hl) r2 h) fun r s' hq=>?_)
 cases r with
 | error e=>exact hx pins σ H s e s' I hq
 | ok fl =>
  cases fl with
  | ret u=>exact I.after hq
  | next=>exact False.elim hq
  | brk=>exact False.elim hq
  | cont=>exact False.elim hq
theorem Bc(F:Aq X.prog X.w X.K X.mg X.base CX k f fd ps sp)(hr:Rv k X.A)(hg:Gl X x)(hm:X.mg x=some (.ref f))(hk:PySem.W.keepIn X.K (.ref f)=true)(hb:Binds X.K fd ps ds)(hd:Vals dvs ds)(hx:Passes CX X E)
  (ha:PA X (e::es) t) (hdb:(x == ("__debug__" : Str))=false:=by decide) (he:starEach (e::es) X.env=(false,eval e X.env)::starEach es X.env:=by rfl) (hpl:(backTo pos (starEach es X.env)).any (·.1)=false:=by rfl) :
  PE X (.Call (.Name x p) (e::es) [] pos) (AzI sp dvs E t):=by
 intro pins s σ H Q I h
 refine wpAny_Call_Name_kw (Ae9 I hg hm ?_ hdb)
 refine PySem.W.callWith_K (h₀:=X.base) I.ok.mod.kin hk (thn (ha pos pins s σ H _ I h) fun us s1 ⟨vs,H1,I1,r,q⟩=>⟨I1.kIn,?_⟩) he hpl
 exact Amv F hr hb hd hx I1 r q
theorem Hd{pl:Sem Bool}(he:PE X o ta)(c:Cls X.K C)(hm:Meth X.K C m f)(F:Aq X.prog X.w X.K X.mg X.base CX k f fd ps sp)(hr:Rv k X.A)(hb:Binds X.K fd ps ds)(hd:Vals dvs ds)(hx:Passes CX X E)(ha:PA X (e::es) t)
  (hst:starEach (e::es) X.env=(false,eval e X.env)::starEach es X.env:=by rfl) (hpl:(backTo pos (starEach es X.env)).any (·.1)=false:=by rfl)
  (ht:eval (.Call (.Attribute o m apos) (e::es) [] pos) X.env=(do
   let ov ← eval o X.env
   standAt apos.atName
   let (f,first) ← holding [ov] (getMethod ov m pl)
   callWith pos f first (backTo pos (starEach (e::es) X.env)) (backToKw pos (keywordEach [] X.env))):=by rfl) :
  PE X (.Call (.Attribute o m apos) (e::es) [] pos) (AzJ C m sp dvs E ta t):=by
 intro pins s σ H Q I h
 refine PySem.W.methodCall_KW (pl:=pl) (thn (he pins s σ H _ I h) fun u s1 ⟨x,H1,I1,rx,a,dx,fs,ex,ea,l,q⟩=>?_) ht
 subst ex
 obtain rfl:u=Value.ref a:=rx
 refine Ago I1 ea c hm l ?_
 refine PySem.W.callWith_K (first:=[.ref a]) (h₀:=X.base) I.ok.mod.kin hm.kp (thn (ha pos pins s1 σ H1 _ I1 q) fun us s2 ⟨vs,H2,I2,r,q2⟩=>⟨I2.kIn,?_⟩) hst hpl
 exact Amv (us:=.ref a::us) (vs:=.ref a::vs) F hr hb hd hx I2 (.cons rfl r) q2
theorem Amw{pl:Sem Bool}(he:PE X o ta)(c:Cls X.K C)(hm:Meth X.K C m f)(F:Aq X.prog X.w X.K X.mg X.base CX k f fd ps sp)(hr:Rv k X.A)(hb:Binds X.K fd ps ds)(hd:Vals dvs ds)(hx:Passes CX X E)
  (ht:eval (.Call (.Attribute o m apos) [] [] pos) X.env=(do
   let ov ← eval o X.env
   standAt apos.atName
   let (f,first) ← holding [ov] (getMethod ov m pl)
   callWith pos f first (backTo pos (starEach [] X.env)) (backToKw pos (keywordEach [] X.env))):=by rfl) :
  PE X (.Call (.Attribute o m apos) [] [] pos) (AzJ C m sp dvs E ta A1V):=by
 intro pins s σ H Q I h
 refine PySem.W.methodCall_KW (pl:=pl) (thn (he pins s σ H _ I h) fun u s1 ⟨x,H1,I1,rx,a,dx,fs,ex,ea,l,q⟩=>?_) ht
 subst ex
 obtain rfl:u=Value.ref a:=rx
 refine Ago I1 ea c hm l ?_
 exact PySem.W.callWith_K0 (first:=[.ref a]) I1.kIn hm.kp (Amv (us:=[.ref a]) (vs:=[.ref a]) F hr hb hd hx I1 (.cons rfl .nil) q)
structure Mk (K:PySem.W.Frag) (C f:Addr):Prop where
 makes:PySem.W.makesIn K C=true
 init:PySem.W.findIn K (.ref C) "__init__" = some (some (.ref f))
 fn:PySem.W.isFn K (.ref f)=true
 kp:PySem.W.keepIn K (.ref C)=true
theorem Aw9{pins:List (Addr × Obj)}{σ:St}{H:Hp}{s:Shared}{Q:VK}{us:List Value}{vs:List V}(M:Mk X.K C f)(F:Aq X.prog X.w X.K X.mg X.base CX k f fd ps sp)(hr:Rv (k+1) X.A)(hb:Binds X.K fd ps ds)(hd:Vals dvs ds)
  (hx:Passes CX X E) (I:Inv X pins σ H s) (r:Vals vs us)
  (h:∀ x dx,H x=none→H dx=none→dx≠x→sp (.ref x::(vs++dvs)) (upd (upd H dx (.own x)) x (.ins C dx [])) (fun v H2=>v=.non∧Q (.ref x) H2) E) :
  wpAny (model X.prog X.w) X.A (call (.ref C) us) (EP X pins σ Q) X.xe s:=by
 have hq:=h (s.heap.objs.size+1) s.heap.objs.size (I.hok.fresh (A6K _)) (I.hok.fresh (A5K _)) (A5M (A6y _))
 have I2:=Inv.made (C:=C) I
 have r2:Vals (V.ref (s.heap.objs.size+1)::(vs++dvs)) (Value.ref (s.heap.objs.size+1)::(us++ds)):=.cons rfl (r.append hd)
 have hl:(Value.ref (s.heap.objs.size+1)::us++ds).length=ps.length:=by
  have e:=r2.length
  rw[F.len _ _ _ _ hq] at e
  exact e.symm
 refine wpAny_call (Aw8 (f:=f) I.kIn M.makes M.init (beq_iff_eq.mp M.fn) (codeAny_mono (F.run _ X.stack _ _ ⟨Value.ref (s.heap.objs.size+1)::us,[]⟩ (Value.ref (s.heap.objs.size+1)::(us++ds)) _ _ E (hr.make C us [])
  (I2.env0.make C us []) (hb _ (Value.ref (s.heap.objs.size+1)::us) I2.kIn hl) r2 hq) fun r s' hq'=>?_))
 cases r with
 | error e=>exact hx pins σ _ _ e s' I2 hq'
 | ok fl =>
  cases fl with
  | ret u =>
   obtain⟨v,H',I3,rv,ev,q3⟩:=I2.after hq'
   subst ev
   exact⟨rv,⟨V.ref (s.heap.objs.size+1),H',I3,rfl,q3⟩⟩
  | next=>exact False.elim hq'
  | brk=>exact False.elim hq'
  | cont=>exact False.elim hq'
theorem Mt(M:Mk X.K C f)(F:Aq X.prog X.w X.K X.mg X.base CX k f fd ps sp)(hr:Rv (k+1) X.A)(hg:Gl X x)(hm:X.mg x=some (.ref C))(hb:Binds X.K fd ps ds)(hd:Vals dvs ds)(hx:Passes CX X E)
  (ha:PA X (e::es) t) (hdb:(x == ("__debug__" : Str))=false:=by decide) (he:starEach (e::es) X.env=(false,eval e X.env)::starEach es X.env:=by rfl) (hpl:(backTo pos (starEach es X.env)).any (·.1)=false:=by rfl) :
  PE X (.Call (.Name x p) (e::es) [] pos) (A1X C sp dvs E t):=by
 intro pins s σ H Q I h
 refine wpAny_Call_Name_kw (Ae9 I hg hm ?_ hdb)
 refine PySem.W.callWith_K (h₀:=X.base) I.ok.mod.kin M.kp (thn (ha pos pins s σ H _ I h) fun us s1 ⟨vs,H1,I1,r,q⟩=>⟨I1.kIn,?_⟩) he hpl
 exact Aw9 M F hr hb hd hx I1 r q
end
def PK (X:Cx)(kws:List Keyword)(t:TA):Prop :=
 ∀(pos:Pos) (pins:List (Addr × Obj)) (s:Shared) (σ:St) (H:Hp) (Q:List V→Hp→Prop),Inv X pins σ H s→t σ H Q→wpAny (model X.prog X.w) X.A (evalAll ((backToKw pos (keywordEach kws X.env)).map (·.2))) (AP X pins σ Q) X.xe s
section
variable {X:Cx}{CX:CXT}{k:Nat}{f C:Addr}{fd:FuncData}{ps ks:List Str}{sp:Sp}{E:XK}{x m:Str}{p pos apos A5h:Pos}{e o:Expr}{es:List Expr}{kws:List Keyword}{te ta:TE}{t tk:TA}{nm:Option Str}
structure A3N (K:PySem.W.Frag) (fd:FuncData) (ps ks:List Str) (g:List Value→List Value→List Value) (gV:List V→List V→List V):Prop where
 to:∀(s:Shared) (us ws:List Value),K.In s.heap→(g us ws).length=ps.length→BindsTo s fd ⟨us,ks.zip ws⟩ (ps.zip (g us ws))
 rel:∀{vs:List V} {us:List Value} {zs:List V} {ws:List Value},Vals vs us→Vals zs ws→Vals (gV vs zs) (g us ws)
def A3O (sp:Sp)(gV:List V→List V→List V)(E:XK)(t tk:TA):TE:=fun σ H Q=>t σ H fun vs H1=>tk σ H1 fun zs H2=>sp (gV vs zs) H2 Q E
variable {g:List Value→List Value→List Value}{gV:List V→List V→List V}
end
structure Bg (N P:List Str) (sc:Scope):Prop where
 kind:sc.kind=.function
 co:sc.isCoroutine=false
 gen:sc.isGenerator=false
 nd:N.Nodup
 pre:N.take P.length=P
 par:∀ x∈P,sc.names.lookup x=some .local∨sc.names.lookup x=some .cell
 A0m:∀ y∈sc.names,y.2≠.free
theorem ApF{kindOf:Str→Option NameKind}{x:Str}:∀{binds:List (Str × Value)} {m:Str→Option Value},(∀ v,(x,v)∉binds)→bindL kindOf binds m x=m x
 | [],_,_=>rfl
 | (n,v)::r,m,h=>by
  unfold bindL
  rw[ApF fun w hw=>h w (A6h _ hw)]
  split
  ·have:x≠n:=by rintro rfl;exact h v A6j
   simp[this]
  ·rfl
theorem ApG{kindOf:Str→Option NameKind}{x:Str}:∀{binds:List (Str × Value)} {m:Str→Option Value},(∀ v,(x,v)∉binds)→bindC kindOf binds m x=m x
 | [],_,_=>rfl
 | (n,v)::r,m,h=>by
  unfold bindC
  rw[ApG fun w hw=>h w (A6h _ hw)]
  split
  ·rfl
  ·have:x≠n:=by rintro rfl;exact h v A6j
   simp[this]
theorem ApH{kindOf:Str→Option NameKind}{x:Str}{v:Value}:∀{P:List Str} {vs:List Value} {i:Nat} {m:Str→Option Value},P.Nodup→P[i]?=some x→vs[i]?=some v→kindOf x=some .local →
  bindL kindOf (P.zip vs) m x=some v
 | [],_,_,_,_,h,_,_=>by simp at h
 | _::_,[],_,_,_,_,h,_=>by simp at h
 | p::P,w::vs,0,m,nd,h1,h2,hk=>by
  simp at h1 h2;subst h1;subst h2
  show bindL kindOf ((p,w)::P.zip vs) m p=_
  unfold bindL
  rw[ApF fun v hv=>(List.nodup_cons.mp nd).1 (A6Z hv).1,if_pos hk]
  simp
 | p::P,w::vs,i+1,m,nd,h1,h2,hk=>by
  show bindL kindOf ((p,w)::P.zip vs) m x=_
  unfold bindL
  exact ApH (i:=i) (List.nodup_cons.mp nd).2 (by simpa using h1) (by simpa using h2) hk
theorem ApI{kindOf:Str→Option NameKind}{x:Str}{v:Value}:∀{P:List Str} {vs:List Value} {i:Nat} {m:Str→Option Value},P.Nodup→P[i]?=some x→vs[i]?=some v→kindOf x≠some .local →
  bindC kindOf (P.zip vs) m x=some v
 | [],_,_,_,_,h,_,_=>by simp at h
 | _::_,[],_,_,_,_,h,_=>by simp at h
 | p::P,w::vs,0,m,nd,h1,h2,hk=>by
  simp at h1 h2;subst h1;subst h2
  show bindC kindOf ((p,w)::P.zip vs) m p=_
  unfold bindC
  rw[ApG fun v hv=>(List.nodup_cons.mp nd).1 (A6Z hv).1,if_neg hk]
  simp
 | p::P,w::vs,i+1,m,nd,h1,h2,hk=>by
  show bindC kindOf ((p,w)::P.zip vs) m x=_
  unfold bindC
  exact ApI (i:=i) (List.nodup_cons.mp nd).2 (by simpa using h1) (by simpa using h2) hk
def start(N:List Str)(vs:List V):St:=vs.map some++List.replicate (N.length-vs.length) none
def Aql (CX:CXT)(P:Program)(w:World)(K:PySem.W.Frag)(mg:Str→Option Value)(base:Heap)(N:List Str)(qual:Str)(scope:Scope)(f:Addr)(cd:Value)(A:Around)(outer:List Env)(s:Shared)(H:Hp)(E:XK):Cx where
 prog:=P
 w:=w
 K:=K
 mg:=mg
 base:=base
 A:=A.deeper (envOfC qual scope s.heap.objs.size f cd)
 N:=N
 s₀:=s
 H₀:=H
 env:=envOfC qual scope s.heap.objs.size f cd
 outer:=outer
 stack:=envOfC qual scope s.heap.objs.size f cd::outer
 ex:=[]
 calm:=true
 fn:=fun _=>true
 pn:=[]
 xe:=fun e s'=>wpAny (model P w) (A.deeper (envOfC qual scope s.heap.objs.size f cd)) (leaving (envOfC qual scope s.heap.objs.size f cd) e) (fun _ s''=>CX outer H s E e s'') (fun e' s''=>CX outer H s E e' s'') s'
theorem ArP{sc:Scope}{n:Nat}{x:Str}(h:sc.names.lookup x=some .cell):∃ c,(cellsFrom n sc.names []).lookup x=some c:=by
 have q:=PySem.W.cellsFrom_some sc.names n [] (.inl h)
 exact Option.isSome_iff_exists.mp q
theorem Av4{CX:CXT}{P:Program}{w:World}{K:PySem.W.Frag}{mg:Str→Option Value}{base:Heap}{N ps:List Str}{qual:Str}{scope:Scope}{f:Addr}{cd:Value}{A:Around}{outer:List Env}{s s1:Shared}{H:Hp}{E:XK}{us:List Value}{vs:List V}
  (S:Bg N ps scope) (hd:A.handled=none) (e0:Atw P w K mg base A outer s H) (hl:vs.length=ps.length) (r:Vals vs us)
  (x:InCallC s s.heap.objs.size (bindL (envOfC qual scope s.heap.objs.size f cd).kindOf (ps.zip us) fun _=>none) (cellsFrom (s.heap.objs.size+1) scope.names []) (bindC (envOfC qual scope s.heap.objs.size f cd).kindOf (ps.zip us) fun _=>none) s1) :
  Inv (Aql CX P w K mg base N qual scope f cd A outer s H E) [] (start N vs) H s1:=by
 have hpl:ps.length≤N.length:=by have:=congrArg List.length S.pre;rw[A5S] at this;omega
 obtain⟨h1,tk,rfl,hk⟩:=x.done
 have noA:∀ b:Addr,b∉(Aql CX P w K mg base N qual scope f cd A outer s H E).ex:=fun b z=>absurd (show b∈([]:List Addr) from z) (by simp)
 refine⟨⟨e0.mod,S.kind,rfl,rfl,A5K _,fun y z c h1 h2=>?_,fun y hy=>?_,fun y c _ h=>?_,fun _=>hd,Around.frames_deeper e0.frames,.inr ⟨rfl,rfl⟩,fun b z=>absurd z (noA b),e0.bs,e0.bsz,fun b _ _=>noA b,fun b z=>absurd z (noA b),e0.Afg,e0.frf⟩,
  rfl,e0.bare,Un.kept hk,⟨_,x.toInCall.ns,fun i y v h1 h2 h3=>?_⟩,fun y c h=>⟨_,x.cell y c h⟩,e0.hok.fresh (A5K _),fun y c h=>?_,fun p hp=>absurd (show p∈([]:List (Addr × Obj)) from hp) (by simp),e0.hok.kept hk,?_⟩
 ·exact name_of_addr x.apart (PySem.mem_of_lookup h1) (PySem.mem_of_lookup h2)
 ·have hy:scope.names.lookup y=some .cell∨scope.names.lookup y=some .free:=hy
  rcases hy with hy | hy
  ·exact ArP hy
  ·exact absurd rfl (S.A0m _ (PySem.mem_of_lookup hy))
 ·exact A6X (x.above y c (PySem.mem_of_lookup h))
 ·have hi:i<vs.length:=by
   unfold start at h2
   by_cases hi:i<vs.length
   ·exact hi
   ·rw[A6Q (by simpa using hi)] at h2
    rw[List.getElem?_replicate] at h2
    split at h2 <;> cases h2
  have ha:vs[i]?=some v:=by
   unfold start at h2
   rw[A6R (by simpa using hi),A5T] at h2
   cases e:vs[i]? with
   | none=>rw[e] at h2;cases h2
   | some a=>rw[e] at h2;cases h2;rfl
  obtain⟨u,hu,rv⟩:=r.get ha
  have hp:ps[i]?=some y:=by
   rw[← S.pre,List.getElem?_take_of_lt (by omega)];exact h1
  have ndP:ps.Nodup:=by rw[← S.pre];exact S.nd.sublist (List.take_sublist _ _)
  refine⟨u,rv,?_⟩
  rcases S.par y (A6e hp) with k | k
  ·exact .inl ⟨k,ApH ndP hp hu k⟩
  ·obtain⟨c,e⟩:=ArP (n:=s.heap.objs.size+1) k
   refine .inr ⟨.inl k,c,e,?_⟩
   have q:=x.cell y c e
   rw[ApI ndP hp hu (by show scope.names.lookup y≠_;rw[k];decide)] at q
   exact q
 ·exact e0.hok.fresh (A6X (x.above y c (PySem.mem_of_lookup h)))
 ·unfold start
  show _=N.length
  rw[A5J,A5I,A6k]
  omega
theorem AzK{CX:CXT}{P:Program}{w:World}{K:PySem.W.Frag}{mg:Str→Option Value}{base:Heap}{k:Nat}{f:Addr}{name qual:Str}{params:Arguments}{body:List Stmt}{scope:Scope}{dV kV doc pm cdv ct oc:Value}{an od:Option Addr}
  {osl:Array (Option Value)}{N ps:List Str}{sp:Sp} (lk:K.lookup f=some ⟨oc,od,.func (PySem.W.fnOf name qual params body scope dV kV doc pm an cdv ct),osl⟩) (hcd:PySem.W.codeIn K cdv qual=true) (S:Bg N ps scope)
  (len:∀ vs H Q E,sp vs H Q E→vs.length=ps.length)
  (hbody:∀(A:Around) (outer:List Env) (s:Shared) (H:Hp) (vs:List V) (Q:VK) (E:XK),Rv k (A.deeper (envOfC qual scope s.heap.objs.size f cdv))→sp vs H Q E →
   ∃ t,PSs (Aql CX P w K mg base N qual scope f cdv A outer s H E) body t∧t { nx:=fun _ H'=>Q .non H',rt:=Q } (start N vs) H) :
  Aq P w K mg base CX (k+1) f (PySem.W.fnOf name qual params body scope dV kV doc pm an cdv ct) ps sp:=by
 refine⟨len,fun A outer s H args us vs Q E hr e0 hb r hsp=>?_⟩
 have hl:=len _ _ _ _ hsp
 have KX:K.In s.heap:=e0.mod.kin.keeps fun b o e=>(e0.bs b o e).1
 have lim:s.heap.NoLimit:=e0.mod.nolimit.keeps fun b o e=>(e0.bs b o e).1
 have hkind:∀ y∈ps.zip us,scope.names.lookup y.1=some .local∨(scope.names.lookup y.1=some .cell∧((cellsFrom (s.heap.objs.size+1) scope.names []).lookup y.1).isSome=true):=fun⟨n,v⟩ hy=>by
  rcases S.par n (A6Z hy).1 with q | q
  ·exact .inl q
  ·exact .inr ⟨q,PySem.W.cellsFrom_some _ _ _ (.inl q)⟩
 refine codeAny_call_function hr.depth (KX _ _ lk) rfl S.co S.gen rfl (PySem.W.codeRec_of KX hcd) (hb _ _ _ _ ?_)
 refine wpAny_newFunctionEnv_cells S.kind hkind fun env he s1 x=>?_
 subst he
 refine⟨lim.keeps x.toInCall.keep,codeAny_func ?_⟩
 obtain⟨t,ht,hq⟩:=hbody A outer s H vs Q E (hr.deeper _) hsp
 have I:Inv (Aql CX P w K mg base N qual scope f cdv A outer s H E) [] (start N vs) H s1:=Av4 S hr.hd e0 hl r x
 refine wpAny_mono (ht [] s1 (start N vs) H _ I hq) (fun fl s' hs=>?_) fun e s' hs=>hs
 have fin:∀{σ':St} {H':Hp} {v:V} {u:Value},Inv (Aql CX P w K mg base N qual scope f cdv A outer s H E) [] σ' H' s'→RelV v u→Q v H'→CE outer P w H s Q u s' :=
  fun {σ' H' v u} J rv q=>⟨v,H',J.os,J.bare,J.base,J.hok,rv,q⟩
 cases fl with
 | ret u =>
  obtain⟨v,σ',H',J,rv,q⟩:=hs
  exact fin J rv q
 | next =>
  obtain⟨σ',H',J,q⟩:=hs
  exact fin (v:=V.non) (u:=Value.none) J rfl q
 | brk =>
  obtain⟨_,_,_,q⟩:=hs
  exact False.elim q
 | cont =>
  obtain⟨_,_,_,q⟩:=hs
  exact False.elim q
open PySem PySem.Spec PyProof.Rows
section
variable {X:Cx}{x:Str}{p pos:Pos}{e:Expr}{es:List Expr}{t:TA}{id T:String}{r:List V→Hp→VK→Prop}
def tCB (r:List V→Hp→VK→Prop)(t:TA):TE:=fun σ H Q=>t σ H fun vs H1=>r vs H1 Q
theorem Bw(hc:V9 X (.builtin id) r)(hg:Gl X x)(hm:X.mg x=none)(hv:bootBuiltins x=some (.builtin id))(ha:PA X (e::es) t)(hn:x ≠ "__name__" := by decide) (hdb:(x == ("__debug__" : Str))=false:=by decide)
  (he:starEach (e::es) X.env=(false,eval e X.env)::starEach es X.env:=by rfl) (hpl:(backTo pos (starEach es X.env)).any (·.1)=false:=by rfl):PE X (.Call (.Name x p) (e::es) [] pos) (tCB r t):=by
 intro pins s σ H Q I h
 refine wpAny_Call_Name_kw (ZC I hg hm hv ?_ hn hdb)
 exact PyProof.Rows.callWith_builtin1 (thn (ha pos pins s σ H _ I h) fun us s1 ⟨vs,H1,I1,r1,q1⟩=>hc pins s1 σ H1 vs us Q I1 r1 q1) he hpl
theorem Er(hc:V9 X (.type T) r)(hg:Gl X x)(hm:X.mg x=none)(hv:bootBuiltins x=some (.type T))(ha:PA X (e::es) t)(hn:x ≠ "__name__" := by decide) (hdb:(x == ("__debug__" : Str))=false:=by decide)
  (he:starEach (e::es) X.env=(false,eval e X.env)::starEach es X.env:=by rfl) (hpl:(backTo pos (starEach es X.env)).any (·.1)=false:=by rfl):PE X (.Call (.Name x p) (e::es) [] pos) (tCB r t):=by
 intro pins s σ H Q I h
 refine wpAny_Call_Name_kw (ZC I hg hm hv ?_ hn hdb)
 exact PyProof.Rows.callWith_type1 (thn (ha pos pins s σ H _ I h) fun us s1 ⟨vs,H1,I1,r1,q1⟩=>hc pins s1 σ H1 vs us Q I1 r1 q1) he hpl
end
end L2
namespace HT
open PySem PyProof.Rows
def lexLt:List Int→List Int→Bool
 | [],[]=>false
 | [],_::_=>true
 | _::_,[]=>false
 | x::xs,y::ys=>if x=y then lexLt xs ys else decide (x<y)
section
open PySem.SeqAt
open PySem.AutoSeq1 (wpAny_loadPart')
open PySem.MeetsSeq PySem.MeetsSeq2 PySem.MeetsSeq3
end
section
variable {prog:Program}{w:World}{A:Around}{E:Value→Shared→Prop}{s:Shared}
def sIx (n d:Nat):Option Int→Nat
 | none=>d
 | some v=>if v<0 then (v+(n:Int)).toNat else min v.toNat n
theorem Amx(n d:Nat):sIx n d none=d:=rfl
theorem Ah4(n d k:Nat):sIx n d (some (k:Int))=min k n:=by
 show(if (k:Int)<0 then ((k:Int)+(n:Int)).toNat else min (k:Int).toNat n)=min k n
 rw[if_neg (by omega),A5Z]
theorem A0n(n d:Nat)(hd:d≤n)(o:Option Int):sIx n d o≤n:=by
 cases o with
 | none=>exact hd
 | some v =>
  show(if v<0 then (v+(n:Int)).toNat else min v.toNat n)≤n
  by_cases hv:v<0
  ·rw[if_pos hv];omega
  ·rw[if_neg hv];exact Nat.min_le_right _ _
end
end HT
namespace L2
open PySem PySem.Spec PyProof.Rows
abbrev TO:=St→Hp→(Option Int→Hp→Prop)→Prop
def PO (X:Cx)(e:Option Expr)(t:TO):Prop :=
 ∀(pins:List (Addr × Obj)) (s:Shared) (σ:St) (H:Hp) (Q:Option Int→Hp→Prop),Inv X pins σ H s→t σ H Q →
  wpAny (model X.prog X.w) X.A (evalPart e X.env) (fun u s'=>∃ o H',Inv X pins σ H' s'∧IsPart u o∧Q o H') X.xe s
def AyD:TO:=fun _ H Q=>Q none H
def A1Y (t:TE):TO:=fun σ H Q=>t σ H fun x H1=>∃ i,x=.int i∧Q (some i) H1
theorem intsAre_of{ns:List Int}:∀{us:List Value},Vals (ns.map V.int) us→IntsAre us ns:=by
 induction ns with
 | nil=>intro us r;rw[A6s] at r;cases r;exact .nil
 | cons n ns ih =>
  intro us r
  rw[A5P] at r
  cases r with
  | cons r1 r2 =>
   obtain⟨t,e⟩:=r1
   subst e
   exact .cons n t (ih r2)
section
variable {X:Cx}{e:Expr}{te:TE}{lo hi:Option Expr}{tl th:TO}{pos p2:Pos}
theorem Ud:PO X none AyD:=by
 intro pins s σ H Q I h
 rw[evalPart_none]
 exact wpAny_pure ⟨none,H,I,.none,h⟩
theorem Mu(h:PE X e te):PO X (some e) (A1Y te):=by
 intro pins s σ H Q I hw
 rw[evalPart_some]
 refine thn (h pins s σ H _ I hw) fun u s1 ⟨x,H1,I1,r1,q1⟩=>?_
 obtain⟨i,rfl,q⟩:=q1
 obtain⟨t,rfl⟩:=r1
 exact⟨some i,H1,I1,.int i t,q⟩
def SlR (X:Cx)(r:V→Option Int→Option Int→Hp→VK→Prop):Prop :=
 ∀(pins:List (Addr × Obj)) (s:Shared) (σ:St) (H:Hp) (x:V) (v vl vu:Value) (lo hi:Option Int) (sl:Addr) (Q:VK),Inv X pins σ H s→RelV x v→s.heap.IsSliceOf sl vl vu .none→IsPart vl lo→IsPart vu hi→r x lo hi H Q →
  ∃ T id,typeLookup (.type T) "__getitem__" = pure (some (.builtin id))∧s.TypeIs v T∧wpAny (model X.prog X.w) X.A (getItem v (.ref sl)) (EP X pins σ Q) X.xe s
def tSl (r:V→Option Int→Option Int→Hp→VK→Prop)(te:TE)(tl th:TO):TE:=fun σ H Q=>te σ H fun x H1=>tl σ H1 fun l H2=>th σ H2 fun u H3=>r x l u H3 Q
theorem Lw{r:V→Option Int→Option Int→Hp→VK→Prop}(hr:SlR X r)(he:PE X e te)(hl:PO X lo tl)(hu:PO X hi th):PE X (.Subscript e (.Slice lo hi none p2) pos) (tSl r te tl th):=by
 intro pins s σ H Q I h
 refine Subscript_ (thn (he pins s σ H _ I h) fun v s1 ⟨x,H1,I1,r1,q1⟩=>?_)
 refine wpAny_Slice (thn (hl pins s1 σ H1 _ I1 q1) fun vl s2 ⟨l,H2,I2,pl,q2⟩=>thn (hu pins s2 σ H2 _ I2 q2) fun vu s3 ⟨u,H3,I3,pu,q3⟩=>?_)
 rw[evalPart_none]
 refine wpAny_pure ?_
 have I4:Inv X pins σ H3 { s3 with heap:=s3.heap.push { cls:=.type "slice", data:=.fields #[vl,vu,.none] } }:=I3.kept (t':=s3.toks) fun b ob q=>Heap.get?_push_of_some _ q
 obtain⟨T,id,hT,ht,hg⟩:=hr pins { s3 with heap:=s3.heap.push { cls:=.type "slice", data:=.fields #[vl,vu,.none] } } σ H3 x v vl vu l u s3.heap.objs.size Q I4 r1 (Heap.IsSliceOf.new ..) pl pu q3
 show wpAny (model X.prog X.w) X.A (subscriptTail e (.Slice lo hi none p2) v (.ref s3.heap.objs.size)) (EP X pins σ Q) X.xe { s3 with heap:=s3.heap.push { cls:=.type "slice", data:=.fields #[vl,vu,.none] } }
 exact tail_any (ops:=[.ref s3.heap.objs.size,v]) ht hT hg (by with_unfolding_all rfl)
def Aqm (xs:List V)(lo hi:Option Int):List V:=(xs.drop (HT.sIx xs.length 0 lo)).take (HT.sIx xs.length xs.length hi-HT.sIx xs.length 0 lo)
theorem ArQ(xs:List V)(lo hi:Option Int):(Aqm xs lo hi).length≤xs.length:=by
 unfold Aqm
 rw[A5S,A6l]
 omega
def A5i (K:PySem.W.Frag):V→Option Int→Option Int→Hp→VK→Prop:=fun x lo hi H Q=>∃ a xs,x=.ref a∧SqT K H a xs ∧
 ¬(HT.sIx xs.length 0 lo=0∧HT.sIx xs.length xs.length hi=xs.length)∧∀ p,H p=none→Q (.ref p) (upd H p (.tup (Aqm xs lo hi)))
def A5j (K:PySem.W.Frag):R2:=fun x y H Q=>∃ a b ns ms,x=.ref a∧y=.ref b∧SqT K H a (ns.map V.int)∧SqT K H b (ms.map V.int)∧Q (.bl (HT.lexLt ns ms)) H
def A4z (K:PySem.W.Frag):R2:=fun x y H Q=>∃ a b xs ys,x=.ref a∧y=.ref b∧SqT K H a xs∧SqT K H b ys∧xs≠[]∧xs.length+ys.length≤sizeLine ∧
 (ys=[]→Q (.ref a) H)∧(ys≠[]→∀ p,H p=none→Q (.ref p) (upd H p (.tup (xs++ys))))
end
open PySem PySem.Spec PyProof.Rows
def ixN (n:Nat)(i:Int):Option Nat:=if 0≤i then (if i<n then some i.toNat else none) else if -(n:Int)≤i then some (i+n).toNat else none
def atI {α:Type}(xs:List α)(i:Int):Option α:=(ixN xs.length i).bind fun j=>xs[j]?
theorem AyE{n:Nat}{i:Int}{j:Nat}(h:ixN n i=some j):seqIndex? i n=some j∧j<n ∧ -(n:Int)≤i∧i<n:=by
 unfold ixN at h
 by_cases h0:0≤i
 ·rw[if_pos h0] at h
  by_cases h1:i<n
  ·rw[if_pos h1] at h
   have e:i.toNat=j:=Option.some.inj h
   exact⟨by rw[seqIndex_of h0 h1,e],by omega,by omega,h1⟩
  ·rw[if_neg h1] at h;cases h
 ·rw[if_neg h0] at h
  by_cases h1 : -(n:Int)≤i
  ·rw[if_pos h1] at h
   have e:(i+n).toNat=j:=Option.some.inj h
   exact⟨by rw[seqIndex_neg (by omega) h1,e],by omega,h1,by omega⟩
  ·rw[if_neg h1] at h;cases h
theorem Aqn{α:Type}{xs:List α}{i:Int}{v:α}(h:atI xs i=some v):∃ j,seqIndex? i xs.length=some j∧xs[j]?=some v∧j<xs.length ∧ -(xs.length:Int)≤i∧i<xs.length:=by
 unfold atI at h
 cases e:ixN xs.length i with
 | none=>rw[e] at h;cases h
 | some j =>
  rw[e] at h
  obtain⟨h1,h2,h3,h4⟩:=AyE e
  exact⟨j,h1,h,h2,h3,h4⟩
theorem AuG{α:Type}{xs:List α}{j:Nat}{v:α}(h:xs[j]?=some v):atI xs (j:Int)=some v:=by
 have hj:j<xs.length:=(List.getElem?_eq_some_iff.mp h).1
 have e:ixN xs.length (j:Int)=some j:=by
  unfold ixN
  rw[if_pos (by omega),if_pos (by omega)];simp
 unfold atI;rw[e];exact h
def AyF (b:Expr):Prop:=∀ o i,subscripted b false o i=operate [o,i] (getItem o i)
def IxR (X:Cx)(r:R2):Prop :=
 ∀(value slice:Expr) (pins:List (Addr × Obj)) (s:Shared) (σ:St) (H:Hp) (x y:V) (v u:Value) (Q:VK),Inv X pins σ H s→RelV x v→RelV y u→r x y H Q →
  subscripted slice false v u=operate [v,u] (getItem v u)→wpAny (model X.prog X.w) X.A (subscriptTail value slice v u) (EP X pins σ Q) X.xe s
def MtR (X:Cx)(id:String)(r:V→List V→Hp→VK→Prop):Prop :=
 ∀(pins:List (Addr × Obj)) (s:Shared) (σ:St) (H:Hp) (x:V) (xs:List V) (v:Value) (us:List Value) (Q:VK),Inv X pins σ H s→RelV x v→Vals xs us→r x xs H Q →
  wpAny (model X.prog X.w) X.A (call (.builtin id) (v::us)) (EP X pins σ Q) X.xe s
section
variable {X:Cx}{a b:Expr}{ta tb:TE}{pos:Pos}
theorem Ge{r:R2}(hr:IxR X r)(ha:PE X a ta)(hb:PE X b tb)(hs:AyF b):PE X (.Subscript a b pos) (tOp r ta tb):=by
 intro pins s σ H Q I h
 exact Subscript_ (A0d ha hb I h fun v u s2 x y H2 I2 rx ry q=>hr a b pins s2 σ H2 x y v u Q I2 rx ry q (hs _ _))
def A0o (K:PySem.W.Frag):R2:=fun x y H Q=>∃ p xs i v,x=.ref p∧y=.int i∧SqL K H p xs∧atI xs i=some v∧Q v H
def A0p (K:PySem.W.Frag):R2:=fun x y H Q=>∃ p xs i v,x=.ref p∧y=.int i∧SqT K H p xs∧atI xs i=some v∧Q v H
def A1Z:R2:=fun x y H Q=>∃ z i c,x=.str z∧y=.int i∧z.length≤sizeLine∧atI z.cps.toList i=some c∧Q (.str ⟨#[c]⟩) H
theorem AyG:IxR X (A0o X.K):=by
 intro value slice pins s σ H x y v u Q I rx ry h hs
 obtain⟨p,xs,i,z,rfl,rfl,hq,he,q⟩:=h
 cases rx
 obtain⟨t,rfl⟩:=ry
 obtain⟨its,r,pl,hz⟩:=I.list hq
 obtain⟨j,h1,h2,h3,h4,h5⟩:=Aqn he
 obtain⟨w,ew,rw'⟩:=r.get h2
 have hl:=r.length
 have hn:=Ajj
 have fin:EP X pins σ Q w s:=⟨z,H,I,rw',q⟩
 by_cases h0:0≤i
 ·have hj:i.toNat=j:=by
   rw[seqIndex_of h0 h5] at h1
   exact Option.some.inj h1
  exact item_listR pl.isList h0 (by omega) (by rw[hj];simpa using ew) fin hs
 ·have hj:(i+(its.toArray.size:Int)).toNat=j:=by
   rw[seqIndex_neg (by omega) h4] at h1
   rw[A5R,← hl]
   exact Option.some.inj h1
  exact subscriptTail_builtinR (x:=w) pl.isList.typeIs slot_list_getitem.lookup
   (wpAny_getItem_list_neg (Q:=fun r s'=>r=w∧EP X pins σ Q r s') pl.isList (by omega) (by rw[A5R] <;> omega) (by omega) (by rw[hj];simpa using ew) ⟨rfl,fin⟩) hs
theorem A0q:IxR X (A0p X.K):=by
 intro value slice pins s σ H x y v u Q I rx ry h hs
 obtain⟨p,xs,i,z,rfl,rfl,hq,he,q⟩:=h
 cases rx
 obtain⟨t,rfl⟩:=ry
 obtain⟨its,r,pl,hz⟩:=I.tuple hq
 obtain⟨j,h1,h2,h3,h4,h5⟩:=Aqn he
 obtain⟨w,ew,rw'⟩:=r.get h2
 have hl:=r.length
 have hn:=Ajj
 have fin:EP X pins σ Q w s:=⟨z,H,I,rw',q⟩
 exact subscriptTail_builtinR (x:=w) pl.typeIs slot_tuple_getitem.lookup
  (getItem_tuple (j:=j) (Q:=fun r s'=>r=w∧EP X pins σ Q r s') pl (by omega) (by omega) (by rw[A5R,← hl];exact h1) (by simpa using ew) ⟨rfl,fin⟩) hs
theorem Amy:IxR X A1Z:=by
 intro value slice pins s σ H x y v u Q I rx ry h hs
 obtain⟨z,i,c,rfl,rfl,hz,he,q⟩:=h
 obtain⟨t,rfl⟩:=rx
 obtain⟨t',rfl⟩:=ry
 obtain⟨j,h1,h2,h3,h4,h5⟩:=Aqn he
 have hl:z.cps.toList.length=z.length:=by simp[Str.length]
 rw[hl] at h1 h4 h5
 have hn:=Ajj
 exact tail_any (typeIs_str s z t) slot_str_getitem.lookup (getItem_str (c:=c) (by
  have e1:decide (i < -(2 ^ 63:Int))=false:=decide_eq_false (by omega)
  have e2:decide (i ≥ 2 ^ 63)=false:=decide_eq_false (by omega)
  rw[e1,e2,Bool.or_false]) (by rw[h1];simpa using h2) ⟨.str ⟨#[c]⟩,H,I.tok _,⟨_,rfl⟩,q⟩) hs
def rIx (K:PySem.W.Frag):R2:=fun x y H Q=>A0o K x y H Q∨A0p K x y H Q∨A1Z x y H Q
def A4G:V→V→V→Hp→(Hp→Prop)→Prop:=fun o i v H Q=>∃ p xs k j,o=.ref p∧i=.int k∧H p=some (.lst xs)∧ixN xs.length k=some j∧Q (upd H p (.lst (xs.set j v)))
theorem Aqo(lo hi:Option Int)(n:Nat):(sliceBounds lo hi none n).1=((HT.sIx n 0 lo:Nat):Int)∧(sliceBounds lo hi none n).2.1=((HT.sIx n n hi:Nat):Int)∧(sliceBounds lo hi none n).2.2=1:=by
 refine⟨?_,?_,rfl⟩
 ·cases lo with
  | none=>simp[sliceBounds,HT.sIx]
  | some i =>
   simp only [sliceBounds,HT.sIx,Option.getD_none,show(1:Int)>0 by decide,if_true]
   by_cases h:i<0
   ·simp only [h,if_true] <;> omega
   ·simp only [h,if_false] <;> omega
 ·cases hi with
  | none=>simp[sliceBounds,HT.sIx]
  | some i =>
   simp only [sliceBounds,HT.sIx,Option.getD_none,show(1:Int)>0 by decide,if_true]
   by_cases h:i<0
   ·simp only [h,if_true] <;> omega
   ·simp only [h,if_false] <;> omega
theorem AoN(its:List Value)(lo hi:Option Int):slicePick its.toArray lo hi none=((its.drop (HT.sIx its.length 0 lo)).take (HT.sIx its.length its.length hi-HT.sIx its.length 0 lo)).toArray:=by
 obtain⟨h1,h2,h3⟩:=Aqo lo hi its.toArray.size
 unfold slicePick
 rw[h1,h2,h3]
 simp only [sliceRange_one,pick_run,A5R] <;> rfl
def A2a (K:PySem.W.Frag):V→Option Int→Option Int→Hp→VK→Prop:=fun x lo hi H Q=>∃ a xs,x=.ref a∧SqL K H a xs∧∀ p,H p=none→Q (.ref p) (upd H p (.lst (Aqm xs lo hi)))
theorem AyH:SlR X (A2a X.K):=by
 intro pins s σ H x v vl vu lo hi sl Q I rx hs pl pu h
 obtain⟨a,xs,rfl,hx,q⟩:=h
 cases rx
 obtain⟨its,r,ht,hz⟩:=I.list hx
 have hlen:=r.length
 refine⟨"list", _,slot_list_getitem.lookup,ht.isList.typeIs,?_⟩
 refine wpAny_getItem_list_slice ht.isList hs pl pu .none (by simp) ?_ (by rw[A5R] <;> omega)
 rw[AoN,← hlen]
 refine⟨.ref s.heap.objs.size,_,I.laid (t':=s.toks) (o:=.lst (Aqm xs lo hi)) (fun b ob q=>Heap.get?_push_of_some _ q) (A5K _) ?_,rfl,q _ (I.hok.fresh (A5K _))⟩
 exact⟨A5X (ArQ xs lo hi) hz,_,0,(r.drop (HT.sIx xs.length 0 lo)).take (HT.sIx xs.length xs.length hi-HT.sIx xs.length 0 lo),Heap.get?_push_size _ rfl⟩
def Wy:V→Bool
 | .non=>true
 | .bl _=>true
 | .int _=>true
 | .str _=>true
 | _=>false
def eqV:V→V→Bool
 | .non,.non=>true
 | .bl a,.bl b=>a == b
 | .bl a,.int b=>(if a then 1 else 0) == b
 | .int a,.bl b=>a == (if b then 1 else 0)
 | .int a,.int b=>a == b
 | .str a,.str b=>a == b
 | _,_=>false
theorem AwA{A:Around}{s:Shared}{y x:V}{u v:Value}(ry:RelV y u)(rx:RelV x v)(fy:Wy y=true)(fx:Wy x=true):SeqAt.EqAt A s u v (eqV y x):=by
 cases y with
 | non =>
  cases ry
  cases x with
  | non=>cases rx;exact SeqAt.EqAt.same _
  | bl b=>cases rx;exact SeqAt.EqAt.none_bool b
  | int b=>obtain⟨t,rfl⟩:=rx;exact SeqAt.EqAt.none_int b t
  | str b=>obtain⟨t,rfl⟩:=rx;exact SeqAt.EqAt.none_str b t
  | _=>exact absurd (show false=true from fx) A5Q
 | bl a =>
  cases ry
  cases x with
  | non=>cases rx;exact SeqAt.EqAt.bool_none a
  | bl b=>cases rx;exact SeqAt.EqAt.bool_bool a b
  | int b=>obtain⟨t,rfl⟩:=rx;exact SeqAt.EqAt.bool_int a b t
  | str b=>obtain⟨t,rfl⟩:=rx;exact SeqAt.EqAt.bool_str a b t
  | _=>exact absurd (show false=true from fx) A5Q
 | int a =>
  obtain⟨t',rfl⟩:=ry
  cases x with
  | non=>cases rx;exact SeqAt.EqAt.int_none a t'
  | bl b=>cases rx;exact SeqAt.EqAt.int_bool a t' b
  | int b=>obtain⟨t,rfl⟩:=rx;exact SeqAt.EqAt.int_int a t' b t
  | str b=>obtain⟨t,rfl⟩:=rx;exact SeqAt.EqAt.int_str a t' b t
  | _=>exact absurd (show false=true from fx) A5Q
 | str a =>
  obtain⟨t',rfl⟩:=ry
  cases x with
  | non=>cases rx;exact SeqAt.EqAt.str_none a t'
  | bl b=>cases rx;exact SeqAt.EqAt.str_bool a t' b
  | int b=>obtain⟨t,rfl⟩:=rx;exact SeqAt.EqAt.str_int a t' b t
  | str b=>obtain⟨t,rfl⟩:=rx;exact SeqAt.EqAt.str_str a t' b t
  | _=>exact absurd (show false=true from fx) A5Q
 | _=>exact absurd (show false=true from fy) A5Q
def eqU (x:V)(u:Value):Bool:=match u with
 | .none=>eqV .non x
 | .bool b=>eqV (.bl b) x
 | .int i _=>eqV (.int i) x
 | .str z _=>eqV (.str z) x
 | _=>false
theorem AwB{x y:V}{u:Value}(r:RelV y u)(f:Wy y=true):eqU x u=eqV y x:=by
 cases y with
 | non=>cases r;rfl
 | bl b=>cases r;rfl
 | int i=>obtain⟨t,rfl⟩:=r;rfl
 | str z=>obtain⟨t,rfl⟩:=r;rfl
 | _=>exact absurd (show false=true from f) A5Q
theorem Aqp{x:V}:∀{xs:List V} {us:List Value},Vals xs us→xs.all Wy=true→us.any (eqU x)=xs.any fun y=>eqV y x
 | _,_,.nil,_=>rfl
 | y::xs,u::us,.cons r t,f=>by
  rw[List.all_cons,A6q] at f
  rw[List.any_cons,List.any_cons,AwB r f.1,Aqp t f.2]
theorem Amz{A:Around}{s:Shared}{x:V}{v:Value}(rx:RelV x v)(fx:Wy x=true):∀{xs:List V} {us:List Value},Vals xs us→xs.all Wy=true→∀ u∈us,SeqAt.EqAt A s u v (eqU x u)
 | _,_,.nil,_=>fun u hu=>by cases hu
 | y::xs,u::us,.cons r t,f=>fun u' hu=>by
  rw[List.all_cons,A6q] at f
  rcases List.mem_cons.mp hu with rfl | hu
  ·rw[AwB r f.1];exact AwA r rx f.1 fx
  ·exact Amz rx fx t f.2 u' hu
def inV (x:V)(xs:List V):Bool:=xs.any fun y=>eqV y x
def rIn (K:PySem.W.Frag)(neg:Bool):R2:=fun x y H Q=>∃ p xs,y=.ref p∧(SqL K H p xs∨SqT K H p xs)∧Wy x=true∧xs.all Wy=true∧Q (.bl (if neg then !inV x xs else inV x xs)) H
theorem Aqq:OpR X (compareOp .NotIn) (rIn X.K true):=by
 intro pins s σ H x y v u Q I rx ry h
 obtain⟨p,xs,rfl,hq,fx,fs,q⟩:=h
 cases ry
 rcases hq with hq | hq
 ·obtain⟨its,r,pl,hz⟩:=I.list hq
  refine SeqAt.notIn_listAt (eqU x) pl.isList (fun w hw=>Amz rx fx r fs w (by simpa using hw)) ⟨.bl _,H,I,rfl,?_⟩
  rw[show its.toArray.any (eqU x)=its.any (eqU x) by simp,Aqp r fs]
  exact q
 ·obtain⟨its,r,pl,hz⟩:=I.tuple hq
  refine SeqAt.notIn_tupleAt (eqU x) pl (fun w hw=>Amz rx fx r fs w (by simpa using hw)) ⟨.bl _,H,I,rfl,?_⟩
  rw[show its.toArray.any (eqU x)=its.any (eqU x) by simp,Aqp r fs]
  exact q
theorem Aqr:V9 X (.builtin "len") (fun xs H Q=>∃ p ys,xs=[.ref p]∧(SqL X.K H p ys∨SqT X.K H p ys)∧Q (.int ys.length) H):=by
 intro pins s σ H xs us Q I r h
 obtain⟨p,ys,rfl,hq,q⟩:=h
 obtain⟨u,rfl,rx⟩:=vals1 r
 cases rx
 have hn:=Ajj
 rcases hq with hq | hq
 ·obtain⟨its,r',pl,hz⟩:=I.list hq
  have hlen:=r'.length
  exact Calls.call_len_list pl.isList (by simp only [A5R] <;> omega) ⟨.int ys.length,H,I.tok _,⟨s.toks+1,by rw[A5R,hlen]⟩,q⟩
 ·obtain⟨its,r',pl,hz⟩:=I.tuple hq
  have hlen:=r'.length
  exact len_tuple pl (by simp only [A5R] <;> omega) ⟨.int ys.length,H,I.tok _,⟨s.toks+1,by rw[A5R,hlen]⟩,q⟩
theorem Dd:V9 X (.builtin "len") (fun xs H Q=>∃ z,xs=[.str z]∧z.length≤sizeLine∧Q (.int z.length) H):=by
 intro pins s σ H xs us Q I r h
 obtain⟨z,rfl,hz,q⟩:=h
 obtain⟨u,rfl,t,rfl⟩:=vals1 r
 have hn:=Ajj
 exact len_str (by omega) ⟨.int z.length,H,I.tok _,⟨_,rfl⟩,q⟩
theorem Aqs:V9 X (.type "list") (fun xs H Q=>∃ p ys,xs=[.ref p]∧(SqL X.K H p ys∨SqT X.K H p ys)∧∀ l,H l=none→Q (.ref l) (upd H l (.lst ys))):=by
 intro pins s σ H xs us Q I r h
 obtain⟨p,ys,rfl,hq,q⟩:=h
 obtain⟨u,rfl,rx⟩:=vals1 r
 cases rx
 have fin:∀(its:List Value),Vals ys its→ys.length≤sizeLine→∀(h':Heap) (c':Nat),(∀ b o',s.heap.get? b=some o'→h'.get? b=some o') →
   h'.get? s.heap.objs.size=some { cls:=.type "list", dict:=none,data:=.seq its.toArray c',slots:=#[] }→EP X pins σ Q (.ref s.heap.objs.size) { s with heap:=h' }:=fun its r' hz h' c' kp e =>
  ⟨.ref s.heap.objs.size,_,I.laid (t':=s.toks) kp (A5K _) (show PQ X.prog X.w _ h' _ (.lst ys) from⟨hz,its,c',r',e⟩),rfl,q _ (I.hok.fresh (A5K _))⟩
 rcases hq with hq | hq
 ·obtain⟨its,r',pl,hz⟩:=I.list hq
  have hlen:=r'.length
  obtain⟨o,ho,hc,n,hd⟩:=pl.isList
  exact call_list_seq p (.inl rfl) ho hc hd (fun h' c' kp e=>fin its r' hz h' c' kp e) (by simp only [A5R] <;> omega)
 ·obtain⟨its,r',pl,hz⟩:=I.tuple hq
  have hlen:=r'.length
  obtain⟨o,ho,hc,n,hd⟩:=pl
  exact call_list_seq p (.inr rfl) ho hc hd (fun h' c' kp e=>fin its r' hz h' c' kp e) (by simp only [A5R] <;> omega)
def tyV (K:PySem.W.Frag)(T:String)(x:V)(H:Hp):Prop:=match x with
 | .str _=>T = "str"
 | .int _=>T = "int"
 | .ref p=>(T = "list" ∧ ∃ xs,SqL K H p xs)∨(T = "tuple" ∧ ∃ o,K.lookup p=some o∧o.cls=.type "tuple" ∧ o.dict=none) ∨
   (T = "dict" ∧ ((∃ kvs,H p=some (.dK kvs))∨∃ kvs,H p=some (.dT kvs)))∨(T = "set" ∧ ∃ S n,H p=some (.set S n))
 | _=>False
theorem A0r{pins:List (Addr × Obj)}{σ:St}{H:Hp}{s:Shared}{T:String}{x:V}{v:Value}(I:Inv X pins σ H s)(r:RelV x v)(ty:tyV X.K T x H) :
  s.TypeIs v T∧∀ a,v=.ref a→∃ ob,s.heap.get? a=some ob∧ob.dict=none:=by
 cases x with
 | str z =>
  obtain⟨t,rfl⟩:=r
  cases (show T = "str" from ty)
  exact⟨typeIs_str s z t,fun _ e=>nomatch e⟩
 | int i =>
  obtain⟨t,rfl⟩:=r
  cases (show T = "int" from ty)
  exact⟨typeIs_int s i t,fun _ e=>nomatch e⟩
 | ref p =>
  cases r
  rcases ty with ⟨rfl,xs,hq⟩ | ⟨rfl,o,hk,hc,hd⟩ | ⟨rfl,hk⟩ | ⟨rfl,S,n,hk⟩
  ·obtain⟨its,_,pl,_⟩:=I.list hq
   refine⟨pl.isList.typeIs,fun a e=>?_⟩
   cases e
   obtain⟨o,n,e,c,hd,_⟩:=pl
   exact⟨o,e,hd⟩
  ·refine⟨⟨o,I.kIn p o hk,hc⟩,fun a e=>?_⟩
   cases e
   exact⟨o,I.kIn _ o hk,hd⟩
  ·have z:∃ o,s.heap.get? p=some o∧o.ExactDict:=by
    rcases hk with ⟨kvs,hk⟩ | ⟨kvs,hk⟩
    ·obtain⟨_,_,_,_,o,_,_,e,ex,_⟩:=I.hok p _ hk
     exact⟨o,e,ex⟩
    ·obtain⟨_,_,_,_,o,_,_,e,ex,_⟩:=I.hok p _ hk
     exact⟨o,e,ex⟩
   obtain⟨o,e,ex⟩:=z
   refine⟨⟨o,e,ex.1⟩,fun a e2=>?_⟩
   cases e2
   exact⟨o,e,ex.2.1⟩
  ·obtain⟨o,_,_,_,e,ex,_⟩:=I.hok p _ hk
   refine⟨⟨o,e,ex.1⟩,fun a e2=>?_⟩
   cases e2
   exact⟨o,e,ex.2.1⟩
 | _=>exact False.elim ty
def A5k (K:PySem.W.Frag)(T:String)(r:V→List V→Hp→VK→Prop)(to:TE):TE:=fun σ H Q=>to σ H fun x H1=>tyV K T x H1∧r x [] H1 Q
def tBM (K:PySem.W.Frag)(T:String)(r:V→List V→Hp→VK→Prop)(to:TE)(t:TA):TE:=fun σ H Q=>to σ H fun x H1=>tyV K T x H1∧t σ H1 fun xs H2=>r x xs H2 Q
variable {o e:Expr}{es:List Expr}{to:TE}{t:TA}{name:Str}{apos cpos:Pos}{T id:String}{r:V→List V→Hp→VK→Prop}
theorem A2b(pa:PlainAttrs T)(slot:Slot T name id)(hty:typeOf (.builtin id)=pure (.type "method_descriptor")) (hm:MtR X id r) (ho:PE X o to) (ha:PA X (e::es) t)
  (hbase:attributeBase o name X.env (eval o X.env)=eval o X.env:=by rfl)
  (hfew:((backTo cpos (starEach (e::es) X.env)).all (fun x=>!x.1) && (backToKw cpos (keywordEach [] X.env)).all (fun x=>x.1.isSome)
   && decide ((e::es).length+([]:List Keyword).length+(if ([]:List Keyword).isEmpty then 0 else 1)<30))=true:=by rfl)
  (hline:(apos.endLine == cpos.line)=true:=by rfl) (hs:starEach (e::es) X.env=(false,eval e X.env)::starEach es X.env:=by rfl) (hplain:(backTo cpos (starEach es X.env)).any (·.1)=false:=by rfl) :
  PE X (.Call (.Attribute o name apos) (e::es) [] cpos) (tBM X.K T r to t):=by
 intro pins s σ H Q I h
 refine wpAny_Call_method_late hbase hfew hline rfl (thn (ho pins s σ H _ I h) fun v s1 ⟨x,H1,I1,r1,ty,q1⟩=>?_)
 obtain⟨h1,h2⟩:=A0r I1 r1 ty
 refine⟨T,id,pa,slot,hty,h1,h2,?_⟩
 have hA:=ha cpos pins s1 σ H1 _ I1 q1
 rw[hs] at hA ⊢
 refine Calls.callWith_builtin (by show(false || (backTo cpos (starEach es X.env)).any (·.1))=false;rw[hplain] <;> rfl) (Calls.evalArgs_plain ?_)
 exact thn hA fun us s2 ⟨vs,H2,I2,r2,q2⟩=>hm pins s2 σ H2 x vs v us Q I2 r1 r2 q2
end
open PySem PySem.Spec PyProof.Rows
def MtM (X:Cx)(id:String)(r:V→List V→Hp→VK→Prop):Prop :=
 ∀(pins:List (Addr × Obj)) (s:Shared) (σ:St) (H:Hp) (x:V) (xs:List V) (v:Value) (us:List Value) (Q:VK),Inv X pins σ H s→RelV x v→Vals xs us→r x xs H Q →
  wpAny (model X.prog X.w) X.A (call (.builtin id) (v::us)) (EP X pins σ Q) X.xe s
theorem Vals.one:∀{x:V} {us:List Value},Vals [x] us→∃ u,us=[u]∧RelV x u
 | _,_,.cons r .nil=>⟨_,rfl,r⟩
theorem Vals.two:∀{x y:V} {us:List Value},Vals [x,y] us→∃ u v,us=[u,v]∧RelV x u∧RelV y v
 | _,_,_,.cons r (.cons q .nil)=>⟨_,_,rfl,r,q⟩
theorem Vals.rep{xs:List V}{us:List Value}(h:Vals xs us):∀ k:Nat,Vals (List.replicate k xs).flatten (List.replicate k us).flatten
 | 0=>.nil
 | k+1=>by
  rw[A6g,A6g,A6d,A6d]
  exact Vals.append h (Vals.rep h k)
theorem foldl_rep(its:List Value):∀(k:Nat) (acc:List Value),
  List.foldl (fun x1 x2=>x1++x2) acc.toArray (List.replicate k its.toArray)=(acc++(List.replicate k its).flatten).toArray
 | 0,acc=>by simp
 | k+1,acc=>by
  have e:acc.toArray++its.toArray=(acc++its).toArray:=by simp
  have e2:(acc++its)++(List.replicate k its).flatten=acc++(List.replicate (k+1) its).flatten:=by
   rw[A6g,A6d,A6S]
  rw[← e2,← foldl_rep its k (acc++its),← e,A6g,A7a]
section
variable {X:Cx}{pins:List (Addr × Obj)}{σ:St}{H:Hp}{s:Shared}{l b:Addr}{xs ys zs:List V}
theorem Inv.A3P{its its':List Value}{n:Nat}{f:Array Value→Array Value}{t':Nat}(I:Inv X pins σ H s)(hH:H l=some (.lst xs))
  (e:s.heap.get? l=some { cls:=.type "list", data:=.seq its.toArray n }) (hf:f its.toArray=its'.toArray) (hv:Vals ys its') (hz:ys.length≤sizeLine) :
  Inv X pins σ (upd H l (.lst ys)) { s with heap:=s.heap.update l (Obj.mapSeq f),toks:=t' }:=by
 have q:=PySem.IsL.update e f
 rw[hf] at q
 refine I.write (x:=l) (e:=l) (by rw[hH];exact trivial) (.inl rfl) (fun b' u hb hu=>(Heap.get?_update_other s.heap (Obj.mapSeq f) (Ne.symm hb)).trans hu) ⟨_,q⟩ ?_
 exact⟨hz,its',_,hv,q⟩
theorem Inv.A2c{its:List Value}{t':Nat}(I:Inv X pins σ H s)(hv:Vals ys its)(hz:ys.length≤sizeLine) :
  Inv X pins σ (upd H s.heap.objs.size (.lst ys)) { s with heap:=s.heap.push { cls:=.type "list", data:=.seq its.toArray },toks:=t' } :=
 I.laid (fun _ _ q=>Heap.get?_push_of_some _ q) (A5K _) ⟨hz,its,0,hv,Heap.get?_push_size _ rfl⟩
theorem Inv.fresh(I:Inv X pins σ H s):H s.heap.objs.size=none:=I.hok.fresh (A5K _)
theorem Inv.AyI(I:Inv X pins σ H s)(hH:H l=some (.lst xs)):xs.length≤sizeLine∧∃(its:List Value) (n:Nat),Vals xs its∧xs.length=its.length∧s.heap.get? l=some { cls:=.type "list", data:=.seq its.toArray n }:=by
 obtain⟨z,its,n,r,e⟩:=I.hok l _ hH
 exact⟨z,its,n,r,r.length,e⟩
theorem AwC{n:Nat}(h:n≤sizeLine):Builtin.List.listTooLong n=false:=by
 unfold Builtin.List.listTooLong
 exact decide_eq_false (by omega)
end
section
variable {X:Cx}
def AyJ:V→List V→Hp→VK→Prop:=fun x vs H Q=>∃ l xs y,x=.ref l∧vs=[y]∧H l=some (.lst xs)∧xs.length<sizeLine∧Q .non (upd H l (.lst (xs++[y])))
theorem AeC:MtM X "list.append" AyJ:=by
 intro pins s σ H x vs v us Q I rx rv h
 obtain⟨l,xs,y,rfl,rfl,hH,hz,q⟩:=h
 cases rx
 obtain⟨u,rfl,ru⟩:=rv.one
 obtain⟨z,its,n,r,hl,e⟩:=I.AyI hH
 refine call_meets F.slot_list_append ⟨_,e,rfl⟩ F.entry_list_append (F.args_list_append_2 _ _) (PySem.list_append l its.toArray n u (by rw[A5R];omega)) ⟨e,?_⟩
 refine⟨.non,_,I.A3P (its':=its++[u]) hH e (by simp) (r.append (.cons ru .nil)) ?_,rfl,q⟩
 rw[A5J,A6o]
 omega
def A3f:V→List V→Hp→VK→Prop:=fun x vs H Q=>∃ l b xs zs,x=.ref l∧vs=[.ref b]∧H l=some (.lst xs)∧H b=some (.lst zs)∧xs.length+zs.length≤sizeLine∧Q .non (upd H l (.lst (xs++zs)))
def A5l:V→List V→Hp→VK→Prop:=fun x vs H Q=>∃ l xs y,x=.ref l∧vs=[]∧H l=some (.lst xs)∧xs[xs.length-1]?=some y∧Q y (upd H l (.lst xs.dropLast))
def A3Q:V→List V→Hp→VK→Prop:=fun x vs H Q=>∃ l xs i k y,x=.ref l∧vs=[.int i]∧H l=some (.lst xs) ∧ -(2 ^ 63)≤i∧i<2 ^ 63∧seqIndex? i xs.length=some k∧xs[k]?=some y∧Q y (upd H l (.lst (xs.eraseIdx k)))
def A2d:V→List V→Hp→VK→Prop:=fun x vs H Q=>∃ l xs,x=.ref l∧vs=[]∧H l=some (.lst xs)∧Q .non (upd H l (.lst xs.reverse))
def A3R:V→List V→Hp→VK→Prop:=fun x vs H Q=>∃ l xs,x=.ref l∧vs=[]∧H l=some (.lst xs)∧Q .non (upd H l (.lst []))
def A3S:R2:=fun x y H Q=>∃ l b xs zs,x=.ref l∧y=.ref b∧H l=some (.lst xs)∧H b=some (.lst zs)∧xs.length+zs.length≤sizeLine∧∀ p,H p=none→Q (.ref p) (upd H p (.lst (xs++zs)))
theorem A0s:OpR X (binaryOp .Add) A3S:=by
 intro pins s σ H x y v u Q I rx ry h
 obtain⟨l,b,xs,zs,rfl,rfl,hH,hB,hz,q⟩:=h
 cases rx
 cases ry
 obtain⟨z,its,n,r,hl,e⟩:=I.AyI hH
 obtain⟨z2,its2,n2,r2,hl2,e2⟩:=I.AyI hB
 refine PySem.P.add_list e e2 ?_ (by rw[A5R,A5R];omega)
 have ea:its.toArray++its2.toArray=(its++its2).toArray:=by simp
 rw[ea]
 exact⟨.ref _,_,I.A2c (t':=s.toks) (r.append r2) (by rw[A5J];omega),rfl,q _ I.fresh⟩
def A3T:R2:=fun x y H Q=>∃ l k xs,x=.ref l∧y=.int k∧H l=some (.lst xs) ∧ -(2 ^ 63)≤k∧k<2 ^ 63∧xs.length*k.toNat≤sizeLine ∧
 ∀ p,H p=none→Q (.ref p) (upd H p (.lst (List.replicate k.toNat xs).flatten))
theorem len_rep{α:Type}(xs:List α)(k:Nat):(List.replicate k xs).flatten.length=k*xs.length:=by
 induction k with
 | zero=>simp
 | succ k ih=>rw[A6g,A6d,A5J,ih,Nat.succ_mul,Nat.add_comm]
theorem Am0:OpR X (binaryOp .Mult) A3T:=by
 intro pins s σ H x y v u Q I rx ry h
 obtain⟨l,k,xs,rfl,rfl,hH,h1,h2,hz,q⟩:=h
 cases rx
 obtain⟨t,rfl⟩:=ry
 obtain⟨z,its,n,r,hl,e⟩:=I.AyI hH
 have hlen:its.toArray.size*k.toNat≤sizeLine:=by rw[A5R,← hl];exact hz
 have A3U:¬its.toArray.size*k.toNat>(2 ^ 63-1) / 8:=by
  have:(sizeLine:Nat)≤(2 ^ 63-1) / 8:=by decide
  omega
 have hfit:¬(!Builtin.List.listFitsIndex k)=true:=by
  rw[fitsIndex_both h1 h2]
  exact A5Q
 have A2e:¬Builtin.List.listTooLong (its.toArray.size*k.toNat)=true:=by
  rw[AwC hlen]
  exact A5Q
 have hnew:List.foldl (fun x1 x2=>x1++x2) #[] (List.replicate (if its.toArray.isEmpty=true then 0 else k.toNat) its.toArray)=(List.replicate k.toNat its).flatten.toArray:=by
  have f0:∀ m:Nat,List.foldl (fun x1 x2=>x1++x2) #[] (List.replicate m its.toArray)=(List.replicate m its).flatten.toArray:=fun m=>by
   have:=foldl_rep its m []
   rw[List.nil_append] at this
   exact this
  rw[f0]
  cases its with
  | nil=>simp
  | cons a r'=>rw[if_neg (by simp)]
 refine wpAny_binaryOp_repeat_ref (T := "list") (U := "int") (by decide) ⟨_,e,rfl⟩ (fun s'=>typeIs_int s' k t) noFill_list_mul F.fills_int_mul F.slot_int_rmul repeat_list F.slot_int_index.lookup
  (call_meets F.slot_int_rmul (typeIs_int s k t) F.entry_int_rmul (F.args_int_rmul_2 _ _) (int___rmul___int_list k t l its.toArray n)
   ⟨e,rfl,⟨_,e,rfl⟩,call_meets F.slot_list_mul ⟨_,e,rfl⟩ F.entry_list_mul (F.args_list_mul_2 _ _) (AutoListH.list___mul___list_int_3 l its.toArray n k t hfit A3U A2e) ⟨e,?_⟩⟩)
 rw[hnew]
 exact⟨.ref _,_,I.A2c (t':=s.toks) (r.rep k.toNat) (by rw[len_rep,A6z];exact hz),rfl,q _ I.fresh⟩
end
section
variable {prog:Program}{w:World}{A:Around}{E:Value→Shared→Prop}{s:Shared}
end
section
variable {X:Cx}
end
end L2
namespace Att
open PySem PySem.W PySem.Calls PyProof.Rows
theorem Al1{P:Params}{h:Heap}:∀(ns:List Int) (vs:List Value),WellAll P h vs (ns.map WData.int)→IntsAre vs ns:=by
 intro ns
 induction ns with
 | nil =>
  intro vs w
  rw[A6s] at w
  cases w
  exact .nil
 | cons n ns ih =>
  intro vs w
  rw[A5P] at w
  cases w with
  | cons a b =>
   cases a
   exact .cons _ _ (ih _ b)
theorem Av5{l:OpenLaw}{n:Nat}(hn:l.most=some n){P:Params}{h:Heap}{args:List WData}{vals:List Value}
  (hpre:l.row.toRowW.claim.pre args=true) (hwl:WellAll P h vals args) :
  ∃ a vs ns,vals=[Value.ref a]∧args=[WData.list (ns.map WData.int)]∧h.get? a=some { cls:=.type "list", data:=.seq vs.toArray }∧IntsAre vs ns∧ns.length≤n:=by
 have hsh:WShape.hasAll [] args [.list .int]=true:=(pre_splitW hpre).1
 have hc:l.pre.holds [] { args:=args }=true:=(pre_splitW hpre).2
 obtain⟨d,r,rfl,h1,h2⟩:=hasAllW_cons hsh
 obtain rfl:=hasAllW_nil h2
 obtain⟨xs,rfl,h3⟩:=hasW_list h1
 obtain⟨ns,rfl⟩:=items_int h3
 have hlen:ns.length≤n:=by
  unfold OpenLaw.pre at hc
  have h4:(WTm.not (.lt (.lit (.int (n:Int))) (.len (.arg 0)))).holds [] { args:=[.list (ns.map .int)] }=true:=by
   have h4:=(holds_andW hc).1
   rw[hn] at h4
   exact h4
  have h5:=condW_of h4 (w_not (w_lt w_lit (w_len_list (w_arg rfl))))
  rw[A5I] at h5
  refine Nat.le_of_not_lt fun q=>?_
  have q':(n:Int)<((ns.length:Nat):Int):=by omega
  first
   | (rw[decide_eq_true q'] at h5;exact absurd h5 (by decide))
   | (simp at h5;omega)
 cases hwl with
 | cons w1 w2 =>
  cases w2
  cases w1 with
  | list ho hall=>exact⟨_,_,ns,rfl,rfl,ho,Al1 ns _ hall,hlen⟩
theorem Av6(l:OpenLaw)(args:List WData):l.row.toRowW.claim.post args (.bool true) args=true :=
 postW_of (r:=l.row.toRowW) (X:=(true == true))
  (show WShape.has [] (.bool true) .bool=true by first | rfl | decide | simp[WShape.has,WShape.arms,WShape.armsAll])
  (show(WTm.eq .res (.lit (.bool true))).value [] { args:=args,res:=some (.bool true),after:=args }=some (.bool (true == true)) from w_eq_bool (w_res rfl) w_lit) rfl
theorem ArR{l:OpenLaw}{n:Nat}{q:Program}{loose:List Str}{XP:(Str→Option Value)→Heap→Prop}{YP:World→Heap→Prop}{d:DefRec}
  (hn:l.most=some n) (hdf:d.params.defaults=[])
  (call:∀(w:World) (s₀ s₁:Shared) (mg mb:Str→Option Value) (fa:Addr) (o:Obj) (pm cd doc:Value) (a:Addr) (vs:List Value) (ns:List Int),
   Ground q loose [] XP w s₀ mg mb s₁.heap→YP w s₁.heap →
   s₁.heap.get? fa=some o→o.data=.func (docDef d.name d.params d.body d.scope pm cd doc)→s₁.heap.CodeRec cd d.name→mg d.name=some (.ref fa) →
   s₁.heap.get? a=some { cls:=.type "list", data:=.seq vs.toArray }→IntsAre vs ns→ns.length≤n→s₁.gens=#[] →
   codeAny (model l.prog w) callerA (.call (.ref fa) ⟨[.ref a],[]⟩) (fun r s'=>r=.ok (.ret (.bool true))∧OldK s₁.heap s'.heap∧s'.os=s₁.os∧AllBare s'.gens) s₁) :
  WalkO q loose XP YP l.row.toRowW d [] (fun f vs=>PySem.call f vs):=by
 intro w s₀ s₁ mg mb G Y fa o pm cd doc dV kV ho hd hcd hD hmg hg args vals as hpre hlay hrd hwl hlo
 obtain rfl:dV=.none:=Dflts.none hD hdf
 obtain rfl:kV=.none:=Dflts.noKw hD
 obtain⟨a,vs,ns,rfl,rfl,hobj,hints,hlen⟩:=Av5 hn hpre hwl
 refine enter_call (codeAny_mono (call w s₀ s₁ mg mb fa o pm cd doc a vs ns G Y ho (fd_plain hd) hcd hmg hobj hints hlen hg) fun r s' hq=>?_)
 obtain⟨rfl,h2,h3,h4⟩:=hq
 exact⟨.inl ⟨.bool true,.bool true,[],rfl,fun _=>rfl,.bool true,Av6 l _,fun _=>⟨List.Pairwise.nil,fun _ hm=>(nomatch hm)⟩⟩,h2,h3,h4⟩
section
variable {prog:Program}{w:World}{A:Around}{E:Value→Shared→Prop}{s:Shared}{K:Frag}
def A3V (h:Heap):Heap:={ h with objs:=#[] }
def ledger(h:Heap)(L d:Addr):List (Addr × Obj):=(List.range h.objs.size).filterMap fun a=>if a=L∨a=d then none else (h.get? a).map fun o=>(a,o)
end
end Att
namespace L2
open PySem PySem.Spec PyProof.Rows
theorem ApJ:∀{vs:List Value} {ns:List Int},IntsAre vs ns→Vals (ns.map V.int) vs
 | _,_,.nil=>.nil
 | _,_,.cons n t h=>.cons ⟨t,rfl⟩ (ApJ h)
def Only(H:Hp):Prop:=∀ b,H b=none∨∃ o xs,H b=some (.frz o (.lst xs))
theorem AwD{P:Program}{w:World}{K:PySem.W.Frag}{mg mb:Str→Option Value}{CX:CXT}{k:Nat}{fa a:Addr}{fd:FuncData}{x:Str}{sp:Sp}{s₁:Shared}{vs:List Value}{ns:List Int}
  (KX:K.In s₁.heap) (hns:s₁.heap.Ns mainGlobals mg) (hb:s₁.heap.Ns builtinsNs mb) (hbb:∀ x:Str,x ≠ "__name__" → mb x=bootBuiltins x) (hlim:s₁.heap.NoLimit) (hg:s₁.gens=#[])
  (ha:s₁.heap.get? a=some { cls:=.type "list", data:=.seq vs.toArray }) (hi:IntsAre vs ns) (hl:ns.length≤sizeLine) (hr:Rv k callerA)
  (F:∀ base:Heap,K.In base→base.Ns mainGlobals mg→Aq P w K mg base CX k fa fd [x] sp) (hbind:∀(s:Shared) (u:Value),BindsTo s fd ⟨[u],[]⟩ [(x,u)])
  (hsp:∀ H:Hp,Only H→SqL K H a (ns.map V.int)→sp [.ref a] H (fun v _=>v=.bl true) fun _ _ _=>False)
  (hCX:∀ H e s',CX [] H s₁ (fun _ _ _=>False) e s'→False) :
  codeAny (model P w) callerA (.call (.ref fa) ⟨[.ref a],[]⟩) (fun r s'=>r=.ok (.ret (.bool true))∧OldK s₁.heap s'.heap∧s'.os=s₁.os∧AllBare s'.gens) s₁:=by
 have rv:=ApJ hi
 have lenV:=hi.length
 have core:∀ H:Hp,Only H→SqL K H a (ns.map V.int)→HOk P w H s₁.heap→(∀ b,H b≠none→b=a)→(H a≠none→K.lookup a=none) →
   codeAny (model P w) callerA (.call (.ref fa) ⟨[.ref a],[]⟩) (fun r s'=>r=.ok (.ret (.bool true))∧OldK s₁.heap s'.heap∧s'.os=s₁.os∧AllBare s'.gens) s₁:=by
  intro H hO hS hok hA hK
  have AuH:∀{b:Addr} {o:Obj},s₁.heap.get? b=some o→H b=none→(Aqi s₁.heap H).get? b=some o:=fun e n=>Aw2 e n
  have noA:∀{b:Addr} {o:Obj} {es:Array DictEntry} {ep:Nat},s₁.heap.get? b=some o→o.data=.dict es ep→H b=none:=fun {b o es ep} e d=>by
   cases q:H b with
   | none=>rfl
   | some u =>
    have e':b=a:=hA b (by rw[q];simp)
    subst e'
    rw[ha] at e;cases e
    have d':Data.seq vs.toArray _=Data.dict es ep:=d
    cases d'
  have nsK:∀{b:Addr} {m:Str→Option Value},s₁.heap.Ns b m→(Aqi s₁.heap H).Ns b m:=fun {b m} ⟨o,es,ep,e,d,r⟩=>⟨o,es,ep,AuH e (noA e d),d,r⟩
  have hKb:K.In (Aqi s₁.heap H):=fun b o e=>AuH (KX b o e) (by
   cases q:H b with
   | none=>rfl
   | some u =>
    have e':b=a:=hA b (by rw[q];simp)
    subst e'
    rw[hK (by rw[q];simp)] at e;cases e)
  have hM:Mod K mg (Aqi s₁.heap H):=⟨hKb,nsK hns,⟨mb,nsK hb,hbb⟩,let ⟨mc,h1,h2⟩:=hlim;⟨mc,nsK h1,h2⟩⟩
  have e0:Atw P w K mg (Aqi s₁.heap H) callerA [] s₁ H:=⟨rfl,hM,fun b o e=>Ay6 e,A6v (Avv _ _),trivial,fun b hb=>absurd (show b∈([]:List Addr) from hb) (by simp),hok,.of_eq hg⟩
  refine codeAny_mono ((F _ hKb (nsK hns)).run callerA [] s₁ H ⟨[.ref a],[]⟩ [.ref a] [.ref a] _ _ hr e0 (hbind s₁ (.ref a)) (.cons rfl .nil) (hsp H hO hS)) fun r s' h=>?_
  cases r with
  | error e=>exact(hCX H e s' h).elim
  | ok fl =>
   cases fl with
   | next=>exact False.elim h
   | brk=>exact False.elim h
   | cont=>exact False.elim h
   | ret u =>
    obtain⟨v,H',os,bare,un,hok',r',q⟩:=h
    have q':v=.bl true:=q
    subst q'
    obtain rfl:u=Value.bool true:=r'
    refine⟨rfl,OldK.of_keep fun b o e=>?_,os,bare⟩
    cases q:H b with
    | none=>exact un.keep b o e q (by intro z;exact absurd (show b∈([]:List Addr) from z) (by simp)) (by simp)
    | some u =>
     rcases hO b with z | ⟨ob,xs,z⟩
     ·rw[q] at z;cases z
     ·have z2:=un.Vk b ob _ z
      obtain⟨e1,_⟩:=hok b _ z
      obtain⟨e2,_⟩:=hok' b _ z2
      rw[e] at e1;cases e1
      exact e2
 cases hk:K.lookup a with
 | some o =>
  have e:=KX a o hk
  rw[ha] at e
  cases e
  refine core (fun _=>none) (fun _=>.inl rfl) (.inr ⟨_,vs.toArray,_,hk,rfl,rfl,rfl,by rw[A5R,lenV];exact hl,by simpa using rv⟩) (fun b u z=>by have z':(none:Option HO)=some u:=z;cases z') (fun b z=>absurd rfl z) fun z=>absurd rfl z
 | none =>
  refine core (fun b=>if b=a then some (.frz { cls:=.type "list", data:=.seq vs.toArray } (.lst (ns.map V.int))) else none) (fun b=>?_) (.inl (.inr ⟨{ cls:=.type "list", data:=.seq vs.toArray },if_pos rfl⟩)) (fun b u z=>?_) (fun b z=>?_) fun _=>hk
  ·by_cases hb:b=a
   ·exact .inr ⟨_,_,if_pos hb⟩
   ·exact .inl (if_neg hb)
  ·by_cases hb:b=a
   ·have z':=(if_pos hb).symm.trans z
    cases z'
    subst hb
    exact⟨ha,by rw[A5I];exact hl,vs,_,rv,ha⟩
   ·have z':=(if_neg hb).symm.trans z
    cases z'
  ·by_cases hb:b=a
   ·exact hb
   ·exact absurd (if_neg hb) z
open PySem PySem.Spec PyProof.Rows
abbrev KOf {K:PySem.W.Frag} {h:Heap} (_:K.In h):PySem.W.Frag:=K
theorem AyK{l:PySem.W.OpenLaw}{n k:Nat}{q:Program}{loose:List Str}{XP:(Str→Option Value)→Heap→Prop}{YP:World→Heap→Prop}{d:DefRec}{K:Params→PySem.W.Frag}{CX:World→CXT}{sp:World→Sp}{x:Str}
  (hn:l.most=some n) (hn2:n≤sizeLine) (hdf:d.params.defaults=[]) (hr:Rv k callerA)
  (hY:∀(w:World) (h:Heap),YP w h→(K w.params).In h)
  (F:∀(w:World) (mg:Str→Option Value) (fa:Addr) (h:Heap),(K w.params).In h→h.Ns mainGlobals mg→mg d.name=some (.ref fa) →
   ∃ fd:FuncData,(∀(s:Shared) (u:Value),BindsTo s fd ⟨[u],[]⟩ [(x,u)]) ∧
    ∀ base:Heap,(K w.params).In base→base.Ns mainGlobals mg→Aq l.prog w (K w.params) mg base (CX w) k fa fd [x] (sp w))
  (hsp:∀(w:World) (H:Hp) (a:Addr) (ns:List Int),ns.length≤n→Only H→SqL (K w.params) H a (ns.map V.int)→sp w [.ref a] H (fun v _=>v=.bl true) fun _ _ _=>False)
  (hCX:∀(w:World) (H:Hp) (s:Shared) (e:Value) (s':Shared),CX w [] H s (fun _ _ _=>False) e s'→False) :
  PySem.W.WalkO q loose XP YP l.row.toRowW d [] (fun f vs=>PySem.call f vs):=by
 refine Att.ArR hn hdf fun w s₀ s₁ mg mb fa o pm cd doc a vs ns G Y ho hd hcd hmg hobj hints hlen hg=>?_
 have KX:=hY w _ Y
 obtain⟨fd,hb,hF⟩:=F w mg fa _ KX G.T.g hmg
 exact AwD KX G.T.g G.T.b G.T.builtins G.T.nolimit hg hobj hints (A5X hlen hn2) hr hF hb (fun H hO hS=>hsp w H a ns hlen hO hS) fun H e s'=>hCX w H s₁ e s'
theorem AwE{l:PySem.W.OpenLaw}{n k:Nat}{q:Program}{loose:List Str}{XP:(Str→Option Value)→Heap→Prop}{YP:World→Heap→Prop}{d:DefRec}{K:Params→PySem.W.Frag}{CX:CXT}{sp:PySem.W.Frag→Sp}{x:Str}
  (hn:l.most=some n) (hn2:n≤sizeLine) (hdf:d.params.defaults=[]) (hr:Rv k callerA)
  (hY:∀(w:World) (h:Heap),YP w h→(K w.params).In h)
  (F:∀(w:World) (mg:Str→Option Value) (fa:Addr) (h:Heap),(K w.params).In h→h.Ns mainGlobals mg→mg d.name=some (.ref fa) →
   ∃ fd:FuncData,(∀(s:Shared) (u:Value),BindsTo s fd ⟨[u],[]⟩ [(x,u)]) ∧
    ∀ base:Heap,(K w.params).In base→base.Ns mainGlobals mg→Aq l.prog w (K w.params) mg base CX k fa fd [x] (sp (K w.params)))
  (hsp:∀(K:PySem.W.Frag) (H:Hp) (a:Addr) (ns:List Int),ns.length≤n→Only H→SqL K H a (ns.map V.int)→sp K [.ref a] H (fun v _=>v=.bl true) fun _ _ _=>False)
  (hCX:∀(H:Hp) (s:Shared) (e:Value) (s':Shared),CX [] H s (fun _ _ _=>False) e s'→False) :
  PySem.W.WalkO q loose XP YP l.row.toRowW d [] (fun f vs=>PySem.call f vs) :=
 AyK (K:=K) (CX:=fun _=>CX) (sp:=fun w=>sp (K w.params)) hn hn2 hdf hr hY F (fun w H a ns h1 h2 h3=>hsp (K w.params) H a ns h1 h2 h3) fun _ H s e s'=>hCX H s e s'
open PySem PySem.Spec PyProof.Rows
def inClass(s:Stmt)(j:Nat):Stmt:=match s with
 | .ClassDef _ _ _ body _ _ _ _ _ _ _=>body.getD j (.Pass ⟨0,0,0,0⟩)
 | _=>.Pass ⟨0,0,0,0⟩
def Ai (s:Stmt):Arguments:=match s with
 | .FunctionDef _ a _ _ _ _ _ _ _ _=>a
 | _=>{ posonlyargs:=[],args:=[],vararg:=none,kwonlyargs:=[],kw_defaults:=[],kwarg:=none,defaults:=[] }
def Ah (s:Stmt):List Stmt:=match s with
 | .FunctionDef _ _ b _ _ _ _ _ _ _=>b
 | _=>[]
def Ab (s:Stmt):Scope:=match s with
 | .FunctionDef _ _ _ _ _ _ sc _ _ _=>sc
 | _=>{ kind:=.function,names:=[],isGenerator:=false,isCoroutine:=false }
abbrev CX0:CXT:=fun _ _ _ _ _ _=>False
abbrev E0:XK:=fun _ _ _=>False
theorem Ax{X:Cx}:Passes CX0 X E0:=fun _ _ _ _ _ _ _ h=>h.elim
structure Fun (K:PySem.W.Frag) (x qual:Str) (st:Stmt) (f:Addr) (fd:FuncData):Prop where
 ex:∃(oc:Value) (od:Option Addr) (kV doc pm:Value) (an:Option Addr) (cdv ct:Value) (osl:Array (Option Value)),
  fd=PySem.W.fnOf x qual (Ai st) (Ah st) (Ab st) .none kV doc pm an cdv ct∧K.lookup f=some ⟨oc,od,.func fd,osl⟩∧PySem.W.codeIn K cdv qual=true
 kp:PySem.W.keepIn K (.ref f)=true
section
variable {P:Program}{w:World}{K:PySem.W.Frag}{mg:Str→Option Value}{base:Heap}
theorem Fun.ok{x qual:Str}{st:Stmt}{f:Addr}{fd:FuncData}{N ps:List Str}{k:Nat}{sp:Sp}(F:Fun K x qual st f fd)(S:Bg N ps (Ab st))(len:∀ vs H Q E,sp vs H Q E→vs.length=ps.length)
  (hbody:∀(cdv:Value) (A:Around) (outer:List Env) (s:Shared) (H:Hp) (vs:List V) (Q:VK) (E:XK),Rv k (A.deeper (envOfC qual (Ab st) s.heap.objs.size f cdv))→sp vs H Q E →
   ∃ t,PSs (Aql CX0 P w K mg base N qual (Ab st) f cdv A outer s H E).nox (Ah st) t∧t { nx:=fun _ H'=>Q .non H',rt:=Q } (start N vs) H):Aq P w K mg base CX0 (k+1) f fd ps sp:=by
 obtain⟨oc,od,kV,doc,pm,an,cdv,ct,osl,rfl,lk,hcd⟩:=F.ex
 refine AzK lk hcd S len fun A outer s H vs Q E hr hsp=>?_
 obtain⟨t,h,q⟩:=hbody cdv A outer s H vs Q E hr hsp
 exact⟨t,h.nox,q⟩
theorem Fun.binds{x qual:Str}{st:Stmt}{f:Addr}{fd:FuncData}{ps:List Str}(F:Fun K x qual st f fd)
  (h:∀(kV doc pm:Value) (an:Option Addr) (cdv ct:Value) (us:List Value),us.length=ps.length→bindArgs (PySem.W.fnOf x qual (Ai st) (Ah st) (Ab st) .none kV doc pm an cdv ct) ⟨us,[]⟩=pure (ps.zip us)):Binds K fd ps []:=by
 obtain⟨oc,od,kV,doc,pm,an,cdv,ct,osl,rfl,lk,hcd⟩:=F.ex
 exact .all (h kV doc pm an cdv ct)
theorem Ak{x qual:Str}{st:Stmt}{f:Addr}{oc:Value}{od an:Option Addr}{osl:Array (Option Value)}{kV doc pm cdv ct:Value}(l:K.lookup f=some ⟨oc,od,.func (PySem.W.fnOf x qual (Ai st) (Ah st) (Ab st) .none kV doc pm an cdv ct),osl⟩)
  (c:PySem.W.codeIn K cdv qual=true) (k:PySem.W.keepIn K (.ref f)=true):Fun K x qual st f (PySem.W.fnOf x qual (Ai st) (Ah st) (Ab st) .none kV doc pm an cdv ct):=⟨⟨oc,od,kV,doc,pm,an,cdv,ct,osl,rfl,l,c⟩,k⟩
end
section
variable {X:Cx}
theorem pv(i:Nat){x:Str}{pos:Pos}(hN:X.N[i]?=some x:=by rfl)(hv:Vis X.env.scope x:=by first | exact Or.inl rfl | exact Or.inr (Or.inl rfl) | exact Or.inr (Or.inr rfl))(hd:(x == ("__debug__" : Str))=false:=by decide)
  (hcd:(x == ("__classdict__" : Str))=false:=by decide):PE X (.Name x pos) (A1y i):=AzY hN hv hd hcd
end
theorem ZF{A B:Prop}(h:B):if false=true then A else B:=by
 rw[if_neg A5Q]
 exact h
theorem Tn{A B:Prop}(h:A):if true=true then A else B:=by
 rw[if_pos rfl]
 exact h
theorem Ah5{c A B:Prop}[Decidable c](hc:c)(h:B):if (!decide c)=true then A else B:=by
 rw[decide_eq_true hc]
 exact ZF h
def Bv (H H':Hp):Prop:=∀ b o,H b=some o→H' b=some o
theorem Bv.refl(H:Hp):Bv H H:=fun _ _ h=>h
theorem Bv.trans{H H1 H2:Hp}(a:Bv H H1)(b:Bv H1 H2):Bv H H2:=fun c o h=>b c o (a c o h)
theorem Bv.free{H H':Hp}(e:Bv H H'){l:Addr}(h:H' l=Option.none):H l=Option.none:=by
 cases q:H l with
 | none=>rfl
 | some o =>
  rw[e l o q] at h
  cases h
theorem Bv.seq{K:PySem.W.Frag}{H H':Hp}{a:Addr}{xs:List V}(e:Bv H H')(h:SqL K H a xs):SqL K H' a xs:=by
 rcases h with (h | ⟨o,h⟩) | h
 ·exact .inl (.inl (e _ _ h))
 ·exact .inl (.inr ⟨o,e _ _ h⟩)
 ·exact .inr h
open PySem PySem.Spec PyProof.Rows
theorem Abu{scope:Scope}{env:Env}(h:∀ y∈scope.names,y.2=.free→∃ c,env.cells.lookup y.1=some c) :
  ∃ cl,closureFor scope env=pure cl∧(∀ x c,cl.lookup x=some c→env.cells.lookup x=some c∧(x,NameKind.free)∈scope.names) ∧
   ∀ x,(x,NameKind.free)∈scope.names→cl.lookup x=env.cells.lookup x:=by
 have key:∀(l:List (Str × NameKind)) (cs:List (Str × Addr)),(∀ y∈l,y.2=.free→∃ c,env.cells.lookup y.1=some c) →
   ∃ cl,(forIn l cs (fun(x:Str × NameKind) (cs:List (Str × Addr))=>do
     if x.2 == .free then
      let c ← cellOf env x.1
      pure (ForInStep.yield ((x.1,c)::cs))
     else pure (ForInStep.yield cs)):Sem (List (Str × Addr)))=pure cl ∧
    (∀ x c,cl.lookup x=some c→(env.cells.lookup x=some c∧(x,NameKind.free)∈l)∨cs.lookup x=some c) ∧
    ∀ x,((x,NameKind.free)∈l→cl.lookup x=env.cells.lookup x)∧((cs.lookup x=env.cells.lookup x)→cl.lookup x=env.cells.lookup x):=by
  intro l
  induction l with
  | nil=>intro cs _;exact⟨cs,rfl,fun x c e=>.inr e,fun x=>⟨fun z=>absurd z (by simp),fun z=>z⟩⟩
  | cons y r ih =>
   intro cs hl
   obtain⟨n,k⟩:=y
   by_cases hk:k=.free
   ·subst hk
    obtain⟨c,hc⟩:=hl (n,.free) A6j rfl
    obtain⟨cl,e1,e2,e3⟩:=ih ((n,c)::cs) fun y hy=>hl y (A6h _ hy)
    refine⟨cl,?_,fun x d e=>?_,fun x=>⟨fun z=>?_,fun z=>?_⟩⟩
    ·rw[A7b]
     simp only [beq_self_eq_true,if_true,cellOf,hc]
     exact e1
    ·rcases e2 x d e with ⟨z1,z2⟩ | z
     ·exact .inl ⟨z1,A6h _ z2⟩
     ·rw[A6n] at z
      by_cases hx:x == n
      ·rw[hx] at z
       have hx':x=n:=by simpa using hx
       subst hx'
       refine .inl ⟨?_,A6j⟩
       rw[hc];exact z
      ·have hx':(x == n)=false:=by simpa using hx
       rw[hx'] at z
       exact .inr z
    ·rcases List.mem_cons.mp z with z | z
     ·injection z with z1 _
      subst z1
      refine(e3 x).2 ?_
      rw[A6n,hc]
      simp
     ·exact(e3 x).1 z
    ·by_cases hx:x=n
     ·subst hx
      refine(e3 x).2 ?_
      rw[A6n,hc]
      simp
     ·refine(e3 x).2 ?_
      rw[A6n]
      have hx':(x == n)=false:=by simpa using hx
      rw[hx']
      exact z
   ·obtain⟨cl,e1,e2,e3⟩:=ih cs fun y hy=>hl y (A6h _ hy)
    have hb:(k == NameKind.free)=false:=by simpa using hk
    refine⟨cl,?_,fun x d e=>?_,fun x=>⟨fun z=>?_,(e3 x).2⟩⟩
    ·rw[A7b]
     simp only [hb,Bool.false_eq_true,if_false]
     exact e1
    ·rcases e2 x d e with ⟨z1,z2⟩ | z
     ·exact .inl ⟨z1,A6h _ z2⟩
     ·exact .inr z
    ·rcases List.mem_cons.mp z with z | z
     ·injection z with _ z2
      exact absurd z2.symm hk
     ·exact(e3 x).1 z
 obtain⟨cl,e1,e2,e3⟩:=key scope.names [] h
 refine⟨cl,?_,fun x c e=>?_,fun x z=>(e3 x).1 z⟩
 ·unfold closureFor
  have:=e1
  simpa using this
 ·rcases e2 x c e with z | z
  ·exact z
  ·simp at z
theorem G3{env:Env}(hk:env.scope.kind=.function):∀{names:List (Str × NameKind)} {x:Str} {k:NameKind},names.lookup x=some k→k≠.free →
  (names.map fun(n,k)=>if (k == NameKind.free && env.scope.kind == .function && env.kindOf n == some .cell) then (n,NameKind.cell) else (n,k)).lookup x=some k
 | [],_,_,h,_=>by simp at h
 | (n,k')::r,x,k,h,hf=>by
  have ih:=@G3 env hk r x k
  show List.lookup x ((if (k' == NameKind.free && env.scope.kind == .function && env.kindOf n == some .cell)=true then (n,NameKind.cell) else (n,k'))::_)=_
  cases hx:x == n with
  | true =>
   simp only [A6n,hx] at h
   cases h
   have:(k' == NameKind.free)=false:=by simpa using hf
   simp[A6n,hx,this]
  | false =>
   simp only [A6n,hx] at h
   by_cases hc:(k' == NameKind.free && env.scope.kind == .function && env.kindOf n == some .cell)=true
   ·rw[if_pos hc];simp only [A6n,hx];exact ih h hf
   ·rw[if_neg hc];simp only [A6n,hx];exact ih h hf
theorem PX{env:Env}(hk:env.scope.kind=.function):∀{names:List (Str × NameKind)} {x:Str},names.lookup x=some .free→env.kindOf x=some .cell →
  (names.map fun(n,k)=>if (k == NameKind.free && env.scope.kind == .function && env.kindOf n == some .cell) then (n,NameKind.cell) else (n,k)).lookup x=some .cell
 | [],_,h,_=>by simp at h
 | (n,k')::r,x,h,hc=>by
  have ih:=@PX env hk r x
  show List.lookup x ((if (k' == NameKind.free && env.scope.kind == .function && env.kindOf n == some .cell)=true then (n,NameKind.cell) else (n,k'))::_)=_
  cases hx:x == n with
  | true =>
   simp only [A6n,hx] at h
   cases h
   have hxn:x=n:=by simpa using hx
   subst hxn
   simp[A6n,hk,hc]
  | false =>
   simp only [A6n,hx] at h
   by_cases hd:(k' == NameKind.free && env.scope.kind == .function && env.kindOf n == some .cell)=true
   ·rw[if_pos hd];simp only [A6n,hx];exact ih h hc
   ·rw[if_neg hd];simp only [A6n,hx];exact ih h hc
def K6 (X:Cx)(Nc:List Str)(scope:Scope)(cl:List (Str × Addr))(C:Addr)(fp:List Addr)(s:Shared)(H:Hp):Cx where
 prog:=X.prog
 w:=X.w
 K:=X.K
 mg:=X.mg
 base:=X.base
 A:=X.A
 N:=Nc
 s₀:=s
 H₀:=H
 env:=compEnvC scope cl C X.env
 outer:=X.stack
 stack:=X.stack
 ex:=fp
 fn:=fun _=>false
 calm:=X.calm
 pn:=[]
 xe:=fun _ _=>False
def Oz (σ:St)(BW:List Nat):St:=BW.map fun j=>(σ[j]?).join
structure Jo (X:Cx) (x:Str) (Nc:List Str) (BW:List Nat) (scope:Scope):Prop where
 kind:scope.kind=.function
 cell:∀ y∈scope.names,y.2≠.cell
 names:∀ y∈scope.names,y.2=.local→scope.names.lookup y.1=some .local
 fr:∀ y∈scope.names,y.2=.free→X.env.scope.names.lookup y.1=some .cell∧scope.names.lookup y.1=some .free
 loc:scope.names.lookup x=some .local
 len:Nc.length=BW.length+1
 hd:Nc[0]?=some x
 nd:Nc.Nodup
 cap:∀ k j,BW[k]?=some j→∃ y,Nc[k+1]?=some y∧X.N[j]?=some y∧scope.names.lookup y=some .free
theorem Abv{prog:Program}{w:World}{A:Around}{R:Result→Shared→Prop}{s:Shared}{elt target iter:Expr}{ifs:List Expr}{scope:Scope}{pos:Pos}{it acc:Value}{env:Env}(I:Nat→Shared→Prop)
  (turn:∀ n s,I n s→wpAny (model prog w) A (pyNext it) (fun r s₁=>match r with
   | none=>R (.ok .next) s₁
   | some v=>wpAny (model prog w) A (letOwnedTupleGo target it v) (fun _ s1'=>wpAny (model prog w) A (assign target env v) (fun _ s₂ =>
     wpAny (model prog w) A (forIn ifs true fun c r=>if r=true then do let ok ← isTrue c env (eval c env);pure (ForInStep.yield ok) else pure (ForInStep.yield r)) (fun ok s₃ =>
      if ok=true then wpAny (model prog w) A (eval elt env) (fun x s₄ =>
       wpAny (model prog w) A (call (.builtin "list.append") [acc,x]) (fun _ s₅=>∃ m,m<n∧I m s₅) (notedBy (model prog w) A env fun e s'=>R (.error e) s') s₄) (notedBy (model prog w) A env fun e s'=>R (.error e) s') s₃
      else ∃ m,m<n∧I m s₃) (notedBy (model prog w) A env fun e s'=>R (.error e) s') s₂) (notedBy (model prog w) A env fun e s'=>R (.error e) s') s1') (notedBy (model prog w) A env fun e s'=>R (.error e) s') s₁) (notedBy (model prog w) A env fun e s'=>R (.error e) s') s)
  (n:Nat) (h:I n s) :
  codeAny (model prog w) A (.compLoop (.ListComp elt [⟨target,iter,ifs,0⟩] scope pos) 0 it acc env) R s:=by
 refine codeAny_loop rfl I (fun n s hI=>?_) n h
 show wpAny _ A ((compTurn (.ListComp elt [⟨target,iter,ifs,0⟩] scope pos) 0 it acc env).onRaise (fun x=>do noteFrame x env;theTreesLotGoes x)) _ _ s
 refine wpAny_noted ?_
 rw[compTurn_list]
 refine wpAny_bind (wpAny_standAt (wpAny_bind (wpAny_mono (turn n s hI) (fun r s₁ h₁=>?_) fun _ _ h'=>h')))
 cases r with
 | none=>exact wpAny_pure h₁
 | some v =>
  refine wpAny_bind (wpAny_mono h₁ (fun _ s1' h₁=>?_) fun _ _ h'=>h')
  refine wpAny_bind (wpAny_mono h₁ (fun _ s₂ h₂=>wpAny_bind (wpAny_mono h₂ (fun ok s₃ h₃=>?_) fun _ _ h'=>h')) fun _ _ h'=>h')
  cases ok with
  | false=>exact wpAny_pure ⟨rfl,h₃⟩
  | true =>
   exact wpAny_bind (wpAny_bind (wpAny_mono h₃ (fun x s₄ h₄=>wpAny_bind (wpAny_mono h₄ (fun _ s₅ h₅=>wpAny_pure (wpAny_pure ⟨rfl,h₅⟩)) fun _ _ h'=>h')) fun _ _ h'=>h'))
def Aqt:TT:=fun _ H Q=>Q true H
inductive PIf (X:Cx):List Expr→TT→Prop where
 | nil:PIf X [] Aqt
 | one {c:Expr} {t:TT} (h:PT X c t):PIf X [c] t
theorem PIf.run{X:Cx}{ifs:List Expr}{t:TT}(h:PIf X ifs t){pins:List (Addr × Obj)}{s:Shared}{σ:St}{H:Hp}{Q:Bool→Hp→Prop}(I:Inv X pins σ H s)(ht:t σ H Q) :
  wpAny (model X.prog X.w) X.A (forIn ifs true fun c r=>if r=true then do let ok ← isTrue c X.env (eval c X.env);pure (ForInStep.yield ok) else pure (ForInStep.yield r)) (TP X pins σ Q) X.xe s:=by
 cases h with
 | nil=>exact wpAny_tests_nil ⟨H,I,ht⟩
 | one h=>exact wpAny_tests_one (h pins s σ H Q I ht)
def Ajm (BW:List Nat)(tc:TT)(te:TE)(J:It)(σ:St)(H:Hp)(Q:VK):Prop :=
 ∃ W:Nat→Nat→List V→Hp→Prop,(∃ m,W 0 m [] H)∧∀ i m ys H,W i m ys H →
  (J.stop i H∧ys.length≤sizeLine∧∀ p,H p=none→Q (.ref p) (upd H p (.lst ys))) ∨
  (J.go i H∧ys.length<sizeLine∧∀ x H',J.yld i H x H'→tc (some x::Oz σ BW) H' fun b H2 =>
   if b=true then te (some x::Oz σ BW) H2 fun y H3=>∃ m',m'<m∧W (i+1) m' (ys++[y]) H3 else ∃ m',m'<m∧W (i+1) m' ys H2)
def AwF (wi:TI)(BW:List Nat)(tc:TT)(te:TE):TE:=fun σ H Q=>wi σ H fun J H1=>Ajm BW tc te J σ H1 Q
section
variable {X:Cx}{pins:List (Addr × Obj)}{σ:St}{H:Hp}{s:Shared}
theorem Un.track{fs ex:List Addr}{H H':Hp}{h h':Heap}{a:Addr}{o:HO}(u:Un fs ex H H' h h')(ha:h.objs.size≤a)(hn:H' a=none):Un fs ex H (upd H' a o) h h' where
 keep:=u.keep
 slot:=u.slot
 free:=fun b ob q n hx=>by rw[Bd (A5M (A5O (Heap.lt_size q) ha))];exact u.free b ob q n hx
 there:=u.there
 tups:=fun b xs q=>by rw[Bd (Bs (u.tups b xs q) hn)];exact u.tups b xs q
 Vk:=fun b ob xs q=>by rw[Bd (Bs (u.Vk b ob xs q) hn)];exact u.Vk b ob xs q
 Wt:=fun b ps q=>by
  obtain⟨m,e⟩:=u.Wt b ps q
  exact⟨m,by rw[Bd (Bs e hn)];exact e⟩
theorem HOk.track{P:Program}{w:World}{H:Hp}{h:Heap}{a:Addr}{o:HO}(x:HOk P w H h)(hn:H a=none)(new:PQ P w (upd H a o) h a o):HOk P w (upd H a o) h:=fun b u e=>by
 by_cases hb:b=a
 ·subst hb;rw[Ad] at e;cases e;exact new
 ·rw[Bd hb] at e
  exact(x b u e).stay (fun c v _ q=>q) (fun c q=>by rw[Bd (Bs q hn)];exact q) fun c xs q=>by rw[Bd (Bs q hn)];exact q
theorem AyL{x:Str}{Nc:List Str}{BW:List Nat}{scope:Scope}{cl:List (Str × Addr)}{C:Addr}{fp:List Addr}(I:Inv X pins σ H s)(O:Jo X x Nc BW scope)
  (hcl:∀ x c,cl.lookup x=some c→X.env.cells.lookup x=some c∧(x,NameKind.free)∈scope.names) (Agp:∀ x,(x,NameKind.free)∈scope.names→cl.lookup x=X.env.cells.lookup x)
  (hC:s.heap.objs.size≤C) (hfp:∀ b∈fp,Vl X pins H b) (hfo:∀ b∈fp,b<s.heap.objs.size):(K6 X Nc scope cl C fp s H).Ok where
 mod:=I.ok.mod
 kind:=O.kind
 glob:=I.ok.glob
 blt:=I.ok.blt
 above:=hC
 inj:=fun a b c e1 e2=>I.ok.inj a b c (hcl a c e1).1 (hcl b c e2).1
 has:=fun y hy=>by
  have mem:(y,NameKind.free)∈scope.names:=by
   have hy':((relabel scope X.env).names.lookup y=some .cell)∨((relabel scope X.env).names.lookup y=some .free):=hy
   have hm:∃ k,(y,k)∈(relabel scope X.env).names∧(k=.cell∨k=.free):=by
    rcases hy' with h | h
    ·exact⟨_,PySem.mem_of_lookup h,.inl rfl⟩
    ·exact⟨_,PySem.mem_of_lookup h,.inr rfl⟩
   obtain⟨k,hm,hk⟩:=hm
   obtain⟨⟨n,k'⟩,hm',e⟩:=List.mem_map.mp hm
   dsimp only at e
   by_cases hc:(k' == NameKind.free && X.env.scope.kind == .function && X.env.kindOf n == some .cell)=true
   ·rw[if_pos hc] at e
    injection e with e1 _
    subst e1
    have:k'=.free:=by
     have:=(A6q _ _▸(A6q _ _▸hc).1).1
     simpa using this
    subst this
    exact hm'
   ·rw[if_neg hc] at e
    injection e with e1 e2
    subst e1 e2
    rcases hk with hk | hk
    ·subst hk;exact absurd rfl (O.cell _ hm')
    ·subst hk;exact hm'
  obtain⟨c,e⟩:=I.ok.has y (.inl (O.fr _ mem rfl).1)
  exact⟨c,(Agp y mem).trans e⟩
 cab:=fun _ _ z=>nomatch z
 hd:=I.ok.hd
 frames:=I.ok.frames
 stk:=.inl rfl
 exf:=fun b hb=>⟨A5M (A5O (hfo b hb) hC),fun y c e=>(hfp b hb).2.2.2.2.1 y c (hcl y c e).1⟩
 bs:=I.bs
 bsz:=A5X I.ok.bsz I.sz
 AoM:=fun b o e hb=>by
  rcases(hfp b hb).2.2.2.1 with z | z
  ·exact I.ok.AoM b o e z
  ·exact absurd (A5O (Heap.lt_size e) (A5X I.ok.bsz z)) (A5W _)
 Amo:=fun b hb z=>by
  rcases List.mem_cons.mp (I.Amp b z) with e | e
  ·exact(hfp b hb).2.1 e
  ·exact(hfp b hb).2.2.1 e
 Afg:=I.stack
 frf:=I.Ah0
end
open PySem PySem.Spec PyProof.Rows
section
variable {X:Cx}{pins:List (Addr × Obj)}{σ:St}{H:Hp}{s:Shared}
theorem ArS(σ:St)(BW:List Nat):(Oz σ BW).length=BW.length:=by unfold Oz;rw[A5I]
theorem ArT{σ:St}{BW:List Nat}{k:Nat}{v:V}(e:(Oz σ BW)[k]?=some (some v)):∃ j,BW[k]?=some j∧σ[j]?=some (some v):=by
 unfold Oz at e
 rw[A5T] at e
 cases hk:BW[k]? with
 | none=>rw[hk] at e;cases e
 | some j =>
  rw[hk] at e
  have e':(σ[j]?).join=some v:=Option.some.inj e
  refine⟨j,rfl,?_⟩
  cases hj:σ[j]? with
  | none=>rw[hj] at e';cases e'
  | some o=>rw[hj] at e';rw[show o=some v from e']
theorem Un.but{fs ex:List Addr}{H H':Hp}{h h1 h2:Heap}{C:Addr}(u:Un fs ex H H' h h1)(hs:Heap.SameBut C h1 h2)(hC:h.objs.size≤C):Un fs ex H H' h h2 where
 keep:=fun b o q n hb hx=>(hs.2 b (A5M (A5O (Heap.lt_size q) hC))).trans (u.keep b o q n hb hx)
 slot:=fun b o q n hb hx=>by
  obtain⟨sl,e⟩:=u.slot b o q n hb hx
  exact⟨sl,(hs.2 b (A5M (A5O (Heap.lt_size q) hC))).trans e⟩
 free:=u.free
 there:=fun b o q hx=>by
  obtain⟨o',e⟩:=u.there b o q hx
  exact⟨o',(hs.2 b (A5M (A5O (Heap.lt_size q) hC))).trans e⟩
 tups:=u.tups
 Vk:=u.Vk
 Wt:=u.Wt
theorem Am1{x:Str}{Nc:List Str}{BW:List Nat}{scope:Scope}{cl:List (Str × Addr)}{C:Addr}{fp:List Addr}{h':Heap}{tk:Nat}{m0:Str→Option Value}(I:Inv X pins σ H s)(O:Jo X x Nc BW scope)
  (hcl:∀ x c,cl.lookup x=some c→X.env.cells.lookup x=some c∧(x,NameKind.free)∈scope.names) (Agp:∀ x,(x,NameKind.free)∈scope.names→cl.lookup x=X.env.cells.lookup x)
  (hC:s.heap.objs.size≤C) (hfp:∀ b∈fp,Vl X pins H b) (hfo:∀ b∈fp,b<s.heap.objs.size)
  (old:∀ b o,s.heap.get? b=some o→h'.get? b=some o) (hns:h'.Ns C m0) :
  Inv (K6 X Nc scope cl C fp s H) [] (none::Oz σ BW) H { s with heap:=h',toks:=tk } where
 ok:=AyL I O hcl Agp hC hfp hfo
 os:=rfl
 bare:=I.bare
 base:=Un.kept old
 loc:=by
  refine⟨m0,hns,fun i y v hN hσ hv=>?_⟩
  cases i with
  | zero=>simp at hσ
  | succ k =>
   rw[A7k] at hσ
   obtain⟨j,hj,hs⟩:=ArT hσ
   obtain⟨z,hz1,hz2,hz3⟩:=O.cap k j hj
   have hN':Nc[k+1]?=some y:=hN
   rw[hz1] at hN'
   cases hN'
   have mem:(y,NameKind.free)∈scope.names:=PySem.mem_of_lookup hz3
   have hk:=(O.fr _ mem rfl).1
   obtain⟨m,hn,hl⟩:=I.loc
   obtain⟨u,r,l⟩:=hl j y v hz2 hs (.inr (.inl hk))
   refine⟨u,r,?_⟩
   rcases l with ⟨k',_⟩ | ⟨_,c,hc,z⟩
   ·have k'':X.env.scope.names.lookup y=some .local:=k'
    rw[hk] at k'';cases k''
   ·obtain⟨o,ho,hd⟩:=z
    exact .inr ⟨.inl (PX I.ok.kind hz3 hk),c,(Agp y mem).trans hc,o,old _ _ ho,hd⟩
 cell:=fun y c e=>by
  obtain⟨v,o,ho,hd⟩:=I.cell y c (hcl y c e).1
  exact⟨v,o,old _ _ ho,hd⟩
 free:=I.hok.fresh hC
 V8:=fun y c e=>I.V8 y c (hcl y c e).1
 pin:=fun p hp=>absurd (show p∈([]:List (Addr × Obj)) from hp) (by simp)
 hok:=I.hok.kept old
 len:=by
  show(none::Oz σ BW).length=Nc.length
  rw[A5N,ArS,O.len]
abbrev Tp (us:List Value) (n:Nat):Obj:={ cls:=.type "list", data:=.seq us.toArray n }
theorem Jw{X:Cx}{sc0 scope:Scope}(h:X.env.scope=sc0)(hd:∀ y∈scope.names,y.2=.free→sc0.names.lookup y.1=some .cell∧scope.names.lookup y.1=some .free) :
  ∀ y∈scope.names,y.2=.free→X.env.scope.names.lookup y.1=some .cell∧scope.names.lookup y.1=some .free:=by
 rw[h]
 exact hd
theorem Am2{x:Str}{px:Pos}{Nc:List Str}{BW:List Nat}{scope:Scope}{cl:List (Str × Addr)}{iter elt:Expr}{ifs:List Expr}{pos:Pos}{tc:TT}{te:TE}{Q:VK}{it:Addr}{fp:List Addr}{tn:Nat→Heap→Prop}{J:It}
  {RR:Value→Addr→Result→Shared→Prop}{E:Value→Shared→Prop}
  (O:Jo X x Nc BW scope) (hc:X.calm=true)
  (hcl:∀ x c,cl.lookup x=some c→X.env.cells.lookup x=some c∧(x,NameKind.free)∈scope.names) (Agp:∀ x,(x,NameKind.free)∈scope.names→cl.lookup x=X.env.cells.lookup x)
  (hte:∀ C fp s H,PE (K6 X Nc scope cl C fp s H) elt te) (htc:∀ C fp s H,PIf (K6 X Nc scope cl C fp s H) ifs tc)
  (I:Inv X pins σ H s) (T:Turn X.prog X.w X.K (.Name x px) J fp it tn) (st:tn 0 s.heap) (hfp:∀ b∈fp,Vl X pins H b) (h:Ajm BW tc te J σ H Q)
  (hRR:∀(D C:Addr) (s':Shared) (m:Str→Option Value),s'.heap.Ns C m→(∀ h',Heap.SameBut C s'.heap h'→∃ H',Inv X pins σ H' { s' with heap:=h' }∧H' C=none∧Q (.ref D) H') →
   s.heap.objs.size≤C→RR (.ref D) C (.ok .next) s') :
  wpAny (model X.prog X.w) X.A (newList []) (fun acc s₃=>wpAny (model X.prog X.w) X.A (newFunctionEnv scope X.env.globals cl [] X.env.qual none .none (some X.env)) (fun cenv s₄ =>
   codeAny (model X.prog X.w) X.A (.compStart (.ListComp elt [⟨.Name x px,iter,ifs,0⟩] scope pos) 0 (.ref it) acc { cenv with scope:=relabel scope X.env }) (RR acc cenv.locals) s₄) E s₃) E s:=by
 refine wpAny_newObj_type (wpAny_newFunctionEnv O.cell (by intro y hy;simp at hy) (fun h₁ hns₁ hsb₁=>?_) O.kind)
 dsimp only at hns₁ hsb₁ ⊢
 generalize hH2:s.heap.push { cls:=.type "list", dict:=none,data:=.seq ([]:List Value).toArray }=H2 at hns₁ hsb₁ ⊢
 have hC:H2.objs.size=s.heap.objs.size+1:=by rw[← hH2,Heap.size_push]
 have hCle:s.heap.objs.size≤H2.objs.size:=by rw[hC];exact A6K _
 have hDC:s.heap.objs.size≠H2.objs.size:=by rw[hC];exact A5M (A6y _)
 have below:∀ b,b<s.heap.objs.size→b≠H2.objs.size∧b≠s.heap.objs.size:=fun b hb=>⟨by rw[hC];exact A5M (A6T hb),A5M hb⟩
 have old:∀ b o,s.heap.get? b=some o→h₁.get? b=some o:=fun b o e=>hsb₁.extBut b o (below b (Heap.lt_size e)).1 (Heap.get?_push_of_some _ (hH2▸Heap.get?_push_of_some _ e))
 have hacc:h₁.get? s.heap.objs.size=some (Tp [] 0):=hsb₁.extBut _ _ hDC (Heap.get?_push_of_some _ (hH2▸Heap.get?_push_size _ rfl))
 have hfo:∀ b∈fp,b<s.heap.objs.size:=fun b hb=>by
  obtain⟨o,e,_⟩:=T.obj _ _ st b hb
  exact Heap.lt_size e
 have st1:tn 0 h₁:=T.keep _ _ _ st fun b _ o e=>old b o e
 generalize hDD:s.heap.objs.size=D at *
 generalize hCC:H2.objs.size=C at *
 have AwG:D≤C:=hCle
 let Y:Cx:=K6 X Nc scope cl C fp s H
 have I0:Inv Y [] (none::Oz σ BW) H { s with heap:=h₁,toks:=s.toks+([]:List (Str × Value)).length }:=Am1 I O hcl Agp (by rw[hDD];exact hCle) hfp (fun b hb=>by rw[hDD];exact hfo b hb) old hns₁
 have ArU:H D=none:=by rw[← hDD];exact I.hok.fresh (A5K _)
 have Ah6:D≠C:=hDC
 have Dfs:D∉Y.fs:=fun z=>by
  have:=I.stack.mem (show D∈frs X.stack from z)
  obtain⟨_,o,e,_⟩:=this
  have:=Heap.lt_size e
  rw[hDD] at this
  exact A5W _ this
 have ArV:∀ y c,Y.env.cells.lookup y=some c→c≠D:=fun y c e z=>by
  obtain⟨v,q⟩:=I.cell y c (hcl y c e).1
  have:=q.lt
  rw[z,hDD] at this
  exact A5W _ this
 have Dfp:∀ b∈fp,b≠D:=fun b hb=>A5M (hfo b hb)
 have fpY:∀{H':Hp},(∀ b∈fp,H' b=none)→∀ b∈fp,Vl Y [] H' b:=fun hn b hb =>
  ⟨hn b hb,A5M (A5O (hfo b hb) AwG),fun z=>I0.ok.Amo b hb z,.inl hb,fun y c e=>(I0.ok.exf b hb).2 y c e,fun p hp=>absurd (show p∈([]:List (Addr × Obj)) from hp) (by simp)⟩
 obtain⟨W,⟨m0,w0⟩,turn⟩:=h
 have loop:∀ s₃:Shared,s₃={ s with heap:=h₁,toks:=s.toks+([]:List (Str × Value)).length } →
   codeAny (model X.prog X.w) X.A (.compLoop (.ListComp elt [⟨.Name x px,iter,ifs,0⟩] scope pos) 0 (.ref it) (.ref D) (compEnvC scope cl C X.env)) (RR (.ref D) C) s₃:=by
  rintro s₃ rfl
  refine Abv (fun n s'=>∃(i:Nat) (o:Option V) (H':Hp) (ys:List V) (us:List Value) (k:Nat),Inv Y [] (o::Oz σ BW) H' s'∧tn i s'.heap∧(∀ b∈fp,H' b=none)∧s'.heap.get? D=some (Tp us k)∧H' D=none∧Vals ys us∧W i n ys H')
   ?_ m0 ⟨0,none,H,[],[],0,I0,st1,fun b hb=>(hfp b hb).1,hacc,ArU,.nil,w0⟩
  rintro n s3 ⟨i,o3,H3,ys,us,k,I3,st3,fr3,hD3,nD3,rv,w3⟩
  have fpP:∀{H':Hp} {ob:Obj},(∀ b∈fp,H' b=none)→∀ b∈fp,Vl Y [(D,ob)] H' b:=fun hn b hb=>by
   obtain⟨g0,g1,g2,g3,g4,_⟩:=fpY hn b hb
   refine⟨g0,g1,g2,g3,g4,fun p hp=>?_⟩
   have e:p=(D,_):=List.mem_singleton.mp (show p∈[(D,_)] from hp)
   rw[e]
   exact Ne.symm (Dfp b hb)
  have IP:Inv Y [(D,Tp us k)] (o3::Oz σ BW) H3 s3:=I3.Rw fun p hp=>by
   have e:p=(D,Tp us k):=List.mem_singleton.mp hp
   subst e
   exact⟨hD3,nD3,Ah6,Dfs,fun v z=>by cases z⟩
  have Am3:∀{σ':St} {H':Hp} {s':Shared} {pl:List (Addr × Obj)},Inv Y ([(D,Tp us k)]++pl) σ' H' s'→s'.heap.get? D=some (Tp us k)∧H' D=none:=fun I'=>by
   have z:=I'.pin (D,Tp us k) (A6b _ (A6P _ A6j))
   exact⟨z.1,z.2.1⟩
  rcases turn i n ys H3 w3 with ⟨stop,hlen,fin⟩ | ⟨go,hlen,step⟩
  ·
   refine wpAny_mono (T.done Y rfl rfl rfl hc i _ s3 _ H3 (fun _ _=>False) IP (fpP fr3) st3 stop) (fun r s4 hr=>?_) fun _ _ z=>z.elim
   obtain⟨hr,I4⟩:=hr
   subst hr
   obtain⟨gD,nD⟩:=Am3 (pl:=[]) (by simpa using I4)
   obtain⟨m,hn,_⟩:=I4.loc
   refine hRR D C s4 m hn (fun h' hs'=>⟨upd H3 D (.lst ys),?_,(Bd (Ne.symm Ah6)).trans I4.free,fin D nD⟩) hCle
   have nt:∀ b ob,H3 b=some ob→b≠C:=fun b ob e z=>by
    have:=I4.free
    rw[z] at e
    rw[show H3 C=none from this] at e
    cases e
   have u1:Un (frs X.stack) fp H H3 s.heap h':=Un.but I4.base hs' (show s.heap.objs.size≤C by rw[hDD];exact hCle)
   have ok1:HOk X.prog X.w H3 h':=fun b ob e=>(I4.hok b ob e).stay (fun c v hc q=>(hs'.2 c (by
    rcases hc with z | z
    ·rw[z];exact nt b ob e
    ·exact nt c _ z)).trans q) (fun _ q=>q) fun _ _ q=>q
   have gD':h'.get? D=some (Tp us k):=(hs'.2 D Ah6).trans gD
   exact I.call' (s':={ s4 with heap:=h' }) (ch:=fp) I4.os (u1.track (A6v hDD) nD) (ok1.track nD ⟨hlen,us,k,rv,gD'⟩) I4.bare fun b hb=>by
    obtain⟨_,g1,_,g3,g4,g5⟩:=hfp b hb
    exact⟨g3,g1,g4,g5⟩
  ·
   refine wpAny_mono (T.item Y rfl rfl rfl hc i _ s3 _ H3 (fun _ _=>False) IP (fpP fr3) st3 go) (fun r s4 hr=>?_) fun _ _ z=>z.elim
   obtain⟨u0,hr,h4⟩:=hr
   subst hr
   refine wpAny_mono h4 (fun _ s5 h5=>?_) fun _ _ z=>z.elim
   obtain⟨x5,H5,I5,r5,y5,st5,fr5⟩:=h5
   have I5':=I5.pinned (fpP fr5) (T.obj _ _ st5)
   have tgt:PG Y (.Name x px) (XS 0):=En (i:=0) O.nd O.hd (.inl (G3 I.ok.kind O.loc (by intro z;cases z))) (.inr (G3 I.ok.kind O.loc (by intro z;cases z)))
   refine wpAny_mono (tgt _ s5 _ H5 x5 u0 (fun σ2 H2=>σ2=some x5::Oz σ BW∧H2=H5) I5' r5 ⟨rfl,rfl⟩) (fun _ s6 h6=>?_) fun _ _ z=>z.elim
   obtain⟨_,_,I6,rfl,rfl⟩:=h6
   refine wpAny_mono ((htc C fp s H).run I6 (step x5 _ y5)) (fun b s7 h7=>?_) fun _ _ z=>z.elim
   obtain⟨H7,I7,q7⟩:=h7
   have AkQ:∀{σ':St} {H':Hp} {s':Shared},Inv Y ([(D,Tp us k)]++Agn fp s5.heap) σ' H' s'→tn (i+1) s'.heap∧∀ b∈fp,H' b=none:=fun I' =>
    ⟨T.keep _ _ _ st5 fun b hb o e=>(I'.pin (b,o) (A6b _ (A6b _ (Ny hb e)))).1,fun b hb=>by
     obtain⟨o,e,d⟩:=T.obj _ _ st5 b hb
     exact(I'.pin (b,o) (A6b _ (A6b _ (Ny hb e)))).2.1⟩
   cases b with
   | false =>
    rw[if_neg A5Q] at q7
    rw[if_neg A5Q]
    obtain⟨m',hm,w7⟩:=q7
    obtain⟨gD,nD⟩:=Am3 I7
    obtain⟨k1,k2⟩:=AkQ I7
    exact⟨m',hm,i+1,some x5,H7,ys,us,k,I7.Rw (fun p hp=>nomatch hp),k1,k2,gD,nD,rv,w7⟩
   | true =>
    rw[if_pos rfl] at q7
    rw[if_pos rfl]
    refine wpAny_mono (hte C fp s H _ s7 _ H7 _ I7 q7) (fun u8 s8 h8=>?_) fun _ _ z=>z.elim
    obtain⟨y8,H8,I8,r8,m',hm,w8⟩:=h8
    obtain⟨gD,nD⟩:=Am3 I8
    obtain⟨k1,k2⟩:=AkQ I8
    refine call_meets F.slot_list_append ⟨_,gD,rfl⟩ F.entry_list_append (F.args_list_append_2 _ _) (PySem.list_append D us.toArray k u8 (by rw[A5R,← rv.length];omega)) ⟨gD,?_⟩
    have q:=PySem.IsL.update gD (·.push u8)
    have e1:us.toArray.push u8=(us++[u8]).toArray:=by simp
    rw[e1] at q
    have I8':Inv Y [] (some x5::Oz σ BW) H8 s8:=I8.Rw (fun p hp=>nomatch hp)
    have I9:Inv Y [] (some x5::Oz σ BW) H8 { s8 with heap:=s8.heap.update D (Obj.mapSeq (·.push u8)),toks:=s8.toks } :=
     I8'.turned (it:=D) (fun b o hb e=>(Heap.get?_update_other s8.heap (Obj.mapSeq (·.push u8)) (Ne.symm hb)).trans e) nD Ah6 (.inr (A6v hDD)) ArV (fun p hp=>nomatch hp)
    refine⟨m',hm,i+1,some x5,H8,ys++[y8],us++[u8],_,I9,T.keep _ _ _ k1 fun b hb o e=>(Heap.get?_update_other s8.heap (Obj.mapSeq (·.push u8)) (Ne.symm (Dfp b hb))).trans e,k2,q,nD,rv.append (.cons r8 .nil),w8⟩
 exact codeAny_compStart_list (loop _ rfl) (T.self X.A 0 _ _ _ st1 (loop _ rfl))
theorem Ue{x:Str}{px pos:Pos}{Nc:List Str}{BW:List Nat}{scope:Scope}{iter elt:Expr}{ifs:List Expr}{wi:TI}{tc:TT}{te:TE}(O:Jo X x Nc BW scope)(hc:X.calm=true)(hi:PI X (.Name x px) iter wi)
  (htc:∀ cl C fp s H,PIf (K6 X Nc scope cl C fp s H) ifs tc) (hte:∀ cl C fp s H,PE (K6 X Nc scope cl C fp s H) elt te) (hs:∀ x,foldedSetIterable iter X.env x=pure x:=by intro _;rfl) :
  PE X (.ListComp elt [⟨.Name x px,iter,ifs,0⟩] scope pos) (AwF wi BW tc te):=by
 intro pins s σ H Q I h
 rw[eval_ListComp]
 obtain⟨cl,e1,e2,e3⟩:=Abu (scope:=scope) (env:=X.env) fun y hy hf=>I.ok.has y.1 (.inl (O.fr y hy hf).1)
 refine wpAny_comprehension_free (use:=none) rfl hs e1 O.kind O.names (thn (hi pins s σ H _ I h) fun v s1 h1=>thn h1 fun itv s2 h2=>?_)
 obtain⟨it,fp,tn,J,H2,e,I2,T,st2,f2,w2⟩:=h2
 subst e
 refine Am2 (RR:=fun acc C=>compPost (model X.prog X.w) X.A X.xe none (EP X pins σ Q) acc C) O hc e2 e3 (hte cl) (htc cl) I2 T st2 f2 w2 ?_
 intro D C s' m hn hq hC
 refine⟨m,hn,fun h' hs'=>?_⟩
 obtain⟨H',I',_,q⟩:=hq h' hs'
 exact⟨.ref D,H',I',rfl,q⟩
theorem Ama{i:Nat}{y x:Str}{px py pos spos:Pos}{Nc:List Str}{BW:List Nat}{scope:Scope}{iter elt:Expr}{ifs:List Expr}{wi:TI}{tc:TT}{te:TE}(O:Jo X x Nc BW scope)(hc:X.calm=true)
  (hN:X.N.Nodup) (hy:X.N[i]?=some y) (hx:X.env.scope.names.lookup y=some .local) (hi:PI X (.Name x px) iter wi)
  (htc:∀ cl C fp s H,PIf (K6 X Nc scope cl C fp s H) ifs tc) (hte:∀ cl C fp s H,PE (K6 X Nc scope cl C fp s H) elt te)
  (hsw:swapsWith (.ListComp elt [⟨.Name x px,iter,ifs,0⟩] scope pos) (some (.Name y py)) spos.line X.env=pure true) (hs:∀ x,foldedSetIterable iter X.env x=pure x:=by intro _;rfl) :
  PS X (.Assign [.Name y py] (.ListComp elt [⟨.Name x px,iter,ifs,0⟩] scope pos) spos) (Atn (AwF wi BW tc te) (XS i)):=by
 intro pins s σ H Dn I h
 rw[exec_Assign_Name_used _ _ _ _ hsw]
 refine wpAny_bind (wpAny_standAt (wpAny_bind ?_))
 obtain⟨cl,e1,e2,e3⟩:=Abu (scope:=scope) (env:=X.env) fun y hy hf=>I.ok.has y.1 (.inl (O.fr y hy hf).1)
 show wpAny _ X.A (do let _ ← comprehension (.ListComp elt [⟨.Name x px,iter,ifs,0⟩] scope pos) scope X.env _ (newList []) false (eval iter X.env) (some (assign (.Name y py) X.env))) _ _ s
 refine wpAny_bind (wpAny_mono (wpAny_comprehension_free (use:=some (assign (.Name y py) X.env)) (Q:=fun _ s'=>SP X pins Dn .next s') rfl hs e1 O.kind O.names
  (thn (hi pins s σ H _ I h) fun v s1 h1=>thn h1 fun itv s2 h2=>?_)) (fun _ s' hq=>wpAny_pure (wpAny_pure hq)) fun _ _ e=>e)
 obtain⟨it,fp,tn,J,H2,e,I2,T,st2,f2,w2⟩:=h2
 subst e
 refine Am2 (RR:=fun acc C=>compPost (model X.prog X.w) X.A X.xe (some (assign (.Name y py) X.env)) (fun _ s'=>SP X pins Dn .next s') acc C) O hc e2 e3 (hte cl) (htc cl) I2 T st2 f2 w2 ?_
 intro D C s' m hn hq hC
 show wpAny _ X.A (assign (.Name y py) X.env (.ref D)) _ _ _
 obtain⟨H',I',nC,q⟩:=hq s'.heap (.refl ..)
 have I'':Inv X pins σ H' s':=I'
 have CL:C≠X.env.locals:=A6x (A5O I2.lt hC)
 have AkR:∀ y c,X.env.cells.lookup y=some c→c≠C:=fun y c e z=>by
  obtain⟨v,q⟩:=I2.cell y c e
  have:=A5O q.lt hC
  rw[z] at this
  exact A5W _ this
 refine wpAny_assign_Name (Ae8 I'' hN hy (.inl hx) (show RelV (.ref D) (.ref D) from rfl) (fun s3 I3 hsb=>?_) (.inr hx))
 obtain⟨a,hsb,ha⟩:=hsb
 have aC:C≠a:=by
  rcases ha with z | z
  ·rw[z];exact CL
  ·exact Ne.symm (AkR _ _ z)
 refine⟨m,hn.sameBut hsb aC,fun h4 hs4=>?_⟩
 refine⟨_,H',I3.turned (it:=C) (t':=s3.toks) (fun b o hb e=>(hs4.2 b hb).trans e) nC CL (.inr (A5X I2.sz hC)) AkR (fun p hp z=>?_),q⟩
 ·have:=A5O (Heap.lt_size (I2.pin p hp).1) hC
  rw[z] at this
  exact A5W _ this
end
open PySem PySem.Spec PyProof.Rows
def Its (x:Str):It:=⟨fun i _=>i<x.cps.size,fun i H v H'=>H'=H∧∃ c,x.cps[i]?=some c∧v=.str ⟨#[c]⟩,fun i _=>x.cps.size≤i⟩
theorem Av7{P:Program}{w:World}{K:PySem.W.Frag}{tg:Expr}(it:Addr)(x:Str)(t:Tok):Turn P w K tg (Its x) [it] it (fun i h=>i≤x.cps.size∧h.IsStrIter it "str_ascii_iterator" x t i) where
 mem:=by simp
 obj:=fun i h st b hb=>by
  have e:b=it:=by simpa using hb
  subst e
  obtain⟨_,o,e,c,d⟩:=st
  exact⟨o,e,fun v z=>by rw[d] at z;cases z⟩
 keep:=fun i h h' st k=>by
  obtain⟨hl,o,e,c,d⟩:=st
  exact⟨hl,o,k it (by simp) o e,c,d⟩
 item:=by
  intro X hP hw hK hc i pins s σ H E I hf st hg
  subst hP hw hK
  obtain⟨hl,st⟩:=st
  have hg:i<x.cps.size:=hg
  obtain⟨f0,f1,f2,f3,f4,f5⟩:=hf it (by simp)
  have hx:x.cps[i]?=some x.cps[i]:=by simp[hg]
  refine wpAny_pyNext_ascii_item st hx fun h' st' sb=>?_
  have I1:Inv X pins σ H { s with heap:=h',toks:=s.toks+1 }:=I.turned (fun b o hb e=>(sb.2 b hb).trans e) f0 f1 f3 f4 f5
  obtain⟨o,e,c,d⟩:=id st'
  exact⟨_,rfl,AuB (s:={ s with heap:=h',toks:=s.toks+1 }) e c d (by decide) ⟨.str ⟨#[x.cps[i]]⟩,H,I1,⟨_,rfl⟩,⟨rfl,_,hx,rfl⟩,⟨hg,st'⟩,fun b hb=>(hf b hb).1⟩⟩
 done:=by
  intro X hP hw hK hc i pins s σ H E I hf st hg
  subst hP hw hK
  obtain⟨hl,st⟩:=st
  have hg:x.cps.size≤i:=hg
  obtain⟨f0,f1,f2,f3,f4,f5⟩:=hf it (by simp)
  exact wpAny_pyNext_ascii_end (I.ok.hd hc) st (by simp;omega) fun h' eb=>⟨rfl,I.turned (t':=s.toks) (fun b o hb e=>eb b o hb e) f0 f1 f3 f4 f5⟩
 self:=fun _ _ _ _ _ st h=>wpAny_pyIter_striter_ascii st.2 h
theorem Av8{P:Program}{w:World}{K:PySem.W.Frag}{tg:Expr}(it:Addr)(x:Str)(t:Tok):Turn P w K tg (Its x) [it] it (fun i h=>i≤x.cps.size∧h.IsStrIter it "str_iterator" x t i) where
 mem:=by simp
 obj:=fun i h st b hb=>by
  have e:b=it:=by simpa using hb
  subst e
  obtain⟨_,o,e,c,d⟩:=st
  exact⟨o,e,fun v z=>by rw[d] at z;cases z⟩
 keep:=fun i h h' st k=>by
  obtain⟨hl,o,e,c,d⟩:=st
  exact⟨hl,o,k it (by simp) o e,c,d⟩
 item:=by
  intro X hP hw hK hc i pins s σ H E I hf st hg
  subst hP hw hK
  obtain⟨hl,st⟩:=st
  have hg:i<x.cps.size:=hg
  obtain⟨f0,f1,f2,f3,f4,f5⟩:=hf it (by simp)
  have hx:x.cps[i]?=some x.cps[i]:=by simp[hg]
  refine wpAny_pyNext_wide_item st hx fun h' st' sb=>?_
  have I1:Inv X pins σ H { s with heap:=h',toks:=s.toks+1 }:=I.turned (fun b o hb e=>(sb.2 b hb).trans e) f0 f1 f3 f4 f5
  obtain⟨o,e,c,d⟩:=id st'
  exact⟨_,rfl,AuB (s:={ s with heap:=h',toks:=s.toks+1 }) e c d (by decide) ⟨.str ⟨#[x.cps[i]]⟩,H,I1,⟨_,rfl⟩,⟨rfl,_,hx,rfl⟩,⟨hg,st'⟩,fun b hb=>(hf b hb).1⟩⟩
 done:=by
  intro X hP hw hK hc i pins s σ H E I hf st hg
  subst hP hw hK
  obtain⟨hl,st⟩:=st
  have hg:x.cps.size≤i:=hg
  obtain⟨f0,f1,f2,f3,f4,f5⟩:=hf it (by simp)
  exact wpAny_pyNext_wide_end (I.ok.hd hc) st (by simp;omega) fun h' eb=>⟨rfl,I.turned (t':=s.toks) (fun b o hb e=>eb b o hb e) f0 f1 f3 f4 f5⟩
 self:=fun _ _ _ _ _ st h=>wpAny_pyIter_striter_wide st.2 h
section
variable {X:Cx}{tg:Expr}
def A3W (tl:TE):TI:=fun σ H R=>tl σ H fun x H1=>∃ z,x=.str z∧R (Its z) H1
theorem Ajn{l:Expr}{tl:TE}(hl:PE X l tl):PI X tg l (A3W tl):=by
 intro pins s σ H R I h
 refine thn (hl pins s σ H _ I h) fun v s1 ⟨x,H1,I1,r1,q1⟩=>?_
 obtain⟨z,e,q⟩:=q1
 subst e
 obtain⟨t,rfl⟩:=r1
 have fpn:∀ b∈[s1.heap.objs.size],Vl X pins H1 b:=fun b hb=>by
  have e:b=s1.heap.objs.size:=by simpa using hb
  subst e
  exact I1.Avx (A5K _) (I1.hok.fresh (A5K _))
 cases ha:z.cps.all (·<128)
 ·refine wpAny_pyIter_wide ha ?_
  exact⟨s1.heap.objs.size,[s1.heap.objs.size],_,_,H1,rfl,I1.kept (t':=s1.toks) fun b o e=>Heap.get?_push_of_some _ e,Av8 _ z t,⟨A6c _,_,Heap.get?_push_size _ rfl,rfl,rfl⟩,fpn,q⟩
 ·refine wpAny_pyIter_ascii ha ?_
  exact⟨s1.heap.objs.size,[s1.heap.objs.size],_,_,H1,rfl,I1.kept (t':=s1.toks) fun b o e=>Heap.get?_push_of_some _ e,Av7 _ z t,⟨A6c _,_,Heap.get?_push_size _ rfl,rfl,rfl⟩,fpn,q⟩
end
theorem Aqu{z:Str}{g:TG}{tb:TS}{D:Ends}{σ:St}{H:Hp}(Pv:Nat→St→Hp→Prop)(h0:Pv 0 σ H)
  (hs:∀ i c σ H,z.cps[i]?=some c→Pv i σ H→g (.str ⟨#[c]⟩) σ H fun σ2 H2=>tb { D with nx:=Pv (i+1),ct:=Pv (i+1),bk:=D.nx } σ2 H2) (hd:∀ σ H,Pv z.cps.size σ H→D.nx σ H) :
  ∃ W:Nat→Nat→St→Hp→Prop,(∃ m,W 0 m σ H)∧∀ i m σ H,W i m σ H →
   ((Its z).stop i H∧D.nx σ H)∨((Its z).go i H∧∃ N:St→Hp→Prop,(∀ σ' H',N σ' H'→∃ m',m'<m∧W (i+1) m' σ' H')∧∀ x H',(Its z).yld i H x H'→g x σ H' fun σ2 H2=>tb { D with nx:=N,ct:=N,bk:=D.nx } σ2 H2):=by
 refine⟨fun i m σ H=>m=z.cps.size-i∧i≤z.cps.size∧Pv i σ H,⟨z.cps.size,by simp,A6c _,h0⟩,?_⟩
 rintro i m σ H ⟨rfl,hi,p⟩
 by_cases hlt:i<z.cps.size
 ·refine .inr ⟨hlt,Pv (i+1),fun σ' H' p'=>⟨z.cps.size-(i+1),by omega,rfl,hlt,p'⟩,fun x H' y=>?_⟩
  obtain⟨e,c,hc,rfl⟩:=y
  subst e
  exact hs i c σ _ hc p
 ·have e:i=z.cps.size:=by omega
  subst e
  exact .inl ⟨A5K _,hd σ H p⟩
def CN (n:Nat)(Pv:Nat→List V→Hp→Prop)(i:Nat)(ys:List V)(H:Hp):Prop:=∃ m',m'<n-i∧m'=n-(i+1)∧i+1≤n∧Pv (i+1) ys H
theorem CN.of{n:Nat}{Pv:Nat→List V→Hp→Prop}{i:Nat}{ys:List V}{H:Hp}(h:i<n)(p:Pv (i+1) ys H):CN n Pv i ys H:=⟨n-(i+1),by omega,rfl,h,p⟩
def Mv (n:Nat)(Pv:Nat→List V→Hp→Prop)(tc:TT)(te:TE)(σ:St)(i:Nat)(ys:List V)(H:Hp):Prop :=
 tc σ H fun b H2=>if b=true then te σ H2 fun y H3=>CN n Pv i (ys++[y]) H3 else CN n Pv i ys H2
theorem Mv.no{n:Nat}{Pv:Nat→List V→Hp→Prop}{te:TE}{σ:St}{i:Nat}{ys:List V}{H:Hp}(h:te σ H fun y H3=>CN n Pv i (ys++[y]) H3):Mv n Pv Aqt te σ i ys H:=by
 unfold Mv Aqt
 exact Tn h
theorem Tq{K:PySem.W.Frag}{a:Addr}{xs:List V}{BW:List Nat}{tc:TT}{te:TE}{σ:St}{H:Hp}{Q:VK}(Pv:Nat→List V→Hp→Prop)(h0:Pv 0 [] H)(hl:∀ i ys H,i≤xs.length→Pv i ys H→SqL K H a xs∧ys.length≤i)
  (hz:xs.length≤sizeLine) (hs:∀ i x ys H,i<xs.length→xs[i]?=some x→Pv i ys H→Mv xs.length Pv tc te (some x::Oz σ BW) i ys H)
  (hd:∀ ys H p,Pv xs.length ys H→H p=none→Q (.ref p) (upd H p (.lst ys))):Ajm BW tc te (Itl K a) σ H Q:=by
 refine⟨fun i m ys H=>m=xs.length-i∧i≤xs.length∧Pv i ys H,⟨xs.length,by simp,A6c _,h0⟩,?_⟩
 rintro i m ys H ⟨rfl,hi,p⟩
 obtain⟨q,hy⟩:=hl i ys H hi p
 by_cases hlt:i<xs.length
 ·refine .inr ⟨⟨xs,xs[i],q,by simp[hlt]⟩,by omega,fun x H' y=>?_⟩
  obtain⟨e,y⟩:=y
  subst e
  exact hs i x ys _ hlt (y xs q) p
 ·have e:i=xs.length:=by omega
  subst e
  exact .inl ⟨⟨xs,q,A5K _⟩,by omega,fun p' hp=>hd ys H p' p hp⟩
theorem Wz{lo:Int}{n:Nat}{BW:List Nat}{tc:TT}{te:TE}{σ:St}{H:Hp}{Q:VK}(Pv:Nat→List V→Hp→Prop)(h0:Pv 0 [] H)(hl:∀ i ys H,i≤n→Pv i ys H→ys.length≤i)
  (hz:n≤sizeLine) (hs:∀ i ys H,i<n→Pv i ys H→Mv n Pv tc te (some (.int (lo+i))::Oz σ BW) i ys H)
  (hd:∀ ys H p,Pv n ys H→H p=none→Q (.ref p) (upd H p (.lst ys))):Ajm BW tc te (Itr lo n) σ H Q:=by
 refine⟨fun i m ys H=>m=n-i∧i≤n∧Pv i ys H,⟨n,by simp,A6c _,h0⟩,?_⟩
 rintro i m ys H ⟨rfl,hi,p⟩
 have hy:=hl i ys H hi p
 by_cases hlt:i<n
 ·refine .inr ⟨hlt,by omega,fun x H' y=>?_⟩
  obtain⟨e,y⟩:=y
  subst e y
  exact hs i ys _ hlt p
 ·have e:i=n:=by omega
  subst e
  exact .inl ⟨A5K _,by omega,fun p' hp=>hd ys H p' p hp⟩
theorem Am4{z:Str}{BW:List Nat}{tc:TT}{te:TE}{σ:St}{H:Hp}{Q:VK}(Pv:Nat→List V→Hp→Prop)(h0:Pv 0 [] H)(hl:∀ i ys H,i≤z.cps.size→Pv i ys H→ys.length≤i)
  (hz:z.cps.size≤sizeLine) (hs:∀ i c ys H,i<z.cps.size→z.cps[i]?=some c→Pv i ys H→Mv z.cps.size Pv tc te (some (.str ⟨#[c]⟩)::Oz σ BW) i ys H)
  (hd:∀ ys H p,Pv z.cps.size ys H→H p=none→Q (.ref p) (upd H p (.lst ys))):Ajm BW tc te (Its z) σ H Q:=by
 refine⟨fun i m ys H=>m=z.cps.size-i∧i≤z.cps.size∧Pv i ys H,⟨z.cps.size,by simp,A6c _,h0⟩,?_⟩
 rintro i m ys H ⟨rfl,hi,p⟩
 have hy:=hl i ys H hi p
 by_cases hlt:i<z.cps.size
 ·refine .inr ⟨hlt,by omega,fun x H' y=>?_⟩
  obtain⟨e,c,hc,rfl⟩:=y
  subst e
  exact hs i c ys _ hlt hc p
 ·have e:i=z.cps.size:=by omega
  subst e
  exact .inl ⟨A5K _,by omega,fun p' hp=>hd ys H p' p hp⟩
theorem Atx{ys:List Str}:∀{us:List Value},Vals (ys.map V.str) us→StrsAre us ys:=by
 induction ys with
 | nil=>intro us r;rw[A6s] at r;cases r;exact .nil
 | cons n ns ih =>
  intro us r
  rw[A5P] at r
  cases r with
  | cons r1 r2 =>
   obtain⟨t,e⟩:=r1
   subst e
   exact .cons n t (ih r2)
def rJoin(K:PySem.W.Frag):V→List V→Hp→VK→Prop:=fun x vs H Q=>∃ z a ys,x=.str z∧vs=[.ref a]∧SqL K H a (ys.map V.str)∧(ys.map (·.length)).sum+ys.length*z.length≤16777216∧Q (.str (Txt.join z ys)) H
section
variable {X:Cx}
theorem AyM:MtR X "str.join" (rJoin X.K):=by
 intro pins s σ H x vs v us Q I rx rv h
 obtain⟨z,a,ys,rfl,rfl,hq,hz,q⟩:=h
 obtain⟨t,rfl⟩:=rx
 obtain⟨u,rfl,ru⟩:=rv.one
 cases ru
 obtain⟨its,r,pl,hl⟩:=I.list hq
 exact join_list pl.isList (Atx (by simpa using r)) hz fun t' k=>⟨.str _,H,I.tok _,⟨_,rfl⟩,q⟩
def A2f (K:PySem.W.Frag):List V→Hp→VK→Prop:=fun vs H Q=>∃ x t b,Ajl K H x t ∧
 ((∃ n,vs=[x,.ty n]∧PySem.W.kitOne K t (.type n)=some b)∨(∃ a,vs=[x,.ref a]∧PySem.W.kitOne K t (.ref a)=some b))∧Q (.bl b) H
theorem AwH:V9 X (.builtin "isinstance") (A2f X.K):=by
 intro pins s σ H xs us Q I rv h
 obtain⟨x,t,b,ty,hv,q⟩:=h
 rcases hv with ⟨n,rfl,e⟩ | ⟨a,rfl,e⟩
 ·obtain⟨u1,u2,rfl,r1,r2⟩:=rv.two
  cases r2
  exact ApE I r1 ty e fun tk=>⟨.bl b,H,I.tok _,rfl,q⟩
 ·obtain⟨u1,u2,rfl,r1,r2⟩:=rv.two
  cases r2
  exact ApE I r1 ty e fun tk=>⟨.bl b,H,I.tok _,rfl,q⟩
def eqL:List V→List V→Bool
 | [],[]=>true
 | x::xs,y::ys=>eqV x y && eqL xs ys
 | _,_=>false
theorem AwI{x:V}(h:Wy x=true):eqV x x=true:=by
 cases x with
 | non=>rfl
 | bl b=>simp[eqV]
 | int i=>simp[eqV]
 | str z=>simp[eqV]
 | _=>exact absurd (show false=true from h) A5Q
def A5m (K:PySem.W.Frag):R2:=fun x y H Q=>∃ p q xs ys,x=.ref p∧y=.ref q∧SqL K H p xs∧SqL K H q ys∧xs.all Wy=true∧ys.all Wy=true∧Q (.bl (eqL xs ys)) H
end
open PySem
def tx (l:List Nat):Str:=⟨l.toArray⟩
theorem Ao(l:List Nat):(tx l).length=l.length:=by simp[tx,Str.length]
theorem Amb(l:List Nat):(tx l).cps.size=l.length:=by simp[tx]
theorem Q6(l:List Nat):(tx l).cps.toList=l:=by simp[tx]
theorem Am5(l:List Nat)(i:Nat):(tx l).cps[i]?=l[i]?:=by simp[tx]
theorem AzL(z:Str):tx z.cps.toList=z:=by cases z;simp[tx]
theorem Gf(a b:List Nat):tx a++tx b=tx (a++b):=by
 show Str.append (tx a) (tx b)=_
 simp[tx,Str.append]
theorem W0{a b:List Nat}(h:tx a=tx b):a=b:=by
 have:=congrArg (fun z:Str=>z.cps.toList) h
 simpa [tx] using this
theorem Aqv(c:Nat):(⟨#[c]⟩:Str)=tx [c]:=rfl
theorem ApK:∀(ys:List (List Nat)) (acc:Array Nat),(ys.map tx).foldl (fun acc p=>acc++(tx []).cps++p.cps) acc=acc++ys.flatten.toArray
 | [],acc=>by simp
 | y::ys,acc=>by
  rw[A5P,A7a,ApK ys]
  simp[tx]
theorem AeD:∀(ys:List (List Nat)),Txt.join (tx []) (ys.map tx)=tx ys.flatten
 | []=>by simp[Txt.join,Builtin.Str.glued,tx,Str.empty]
 | y::ys=>by
  show Str.mk _=_
  simp only [A5P,List.drop_one,A7c,List.headD_cons]
  rw[ApK]
  simp[tx]
theorem ApL{α:Type}(f:α→Nat):∀(l:List α),(l.map fun c=>[f c]).flatten=l.map f
 | []=>rfl
 | a::l=>by rw[A5P,A6d,ApL f l];rfl
theorem AyN{α:Type}(f:α→Nat):∀(l:List α),(((l.map fun c=>[f c]).map tx).map (·.length)).sum=l.length
 | []=>rfl
 | a::l=>by
  rw[A5P,A5P,A5P,A6U,AyN f l,Ao,A5N]
  show 1+l.length=l.length+1
  omega
end L2
namespace PySem
open Sem (wp)
open Builtin Builtin.Str Builtin.Int
namespace RV
theorem Ajo:Manifest.owners.lookup (String.ofList ['d','e','s','r','e','v','e','r'].reverse)=some Manifest.sig_reversed:=by kernel_rfl
theorem mro_reversed:mroOf (.type "reversed")=pure [.type "reversed", .type "object"]:=by rw[mroOf_type];kernel_rfl
theorem lookup_reversed_new:typeLookup (.type "reversed") "__new__" = pure (some (.builtin "reversed.__new__")):=by rw[typeLookup_type,builtinLookup_eq_fast];kernel_rfl
theorem Av9:Slot "reversed" "__init__" "object.__init__" :=
 .of (owner := "object") (n := "__init__") (by rw[typeLookup_type,builtinLookup_eq_fast];kernel_rfl) (by decide +kernel) (by decide +kernel) (by decide +kernel)
  (by first | exact .inl (by decide +kernel) | exact .inr (by decide +kernel)) (by rw[isSubtype_type];kernel_rfl)
theorem Al2:TypeCalled "reversed" "reversed.__new__" "object.__init__" :=
 ⟨by decide +kernel,by decide +kernel,⟨_,_,mro_reversed⟩,madeBy_type mro_reversed lookup_reversed_new (by decide +kernel),by decide +kernel,by rw[isSubtype_type];kernel_rfl,Av9⟩
theorem Aty(a:Value):checkTypeCall "reversed" ⟨[a],[]⟩=pure ():=by kernel_rfl
theorem AvA(a:Value):checkBuiltinCall "reversed.__new__" ⟨[.type "reversed", a],[]⟩=pure ():=by kernel_rfl
theorem AvB:entryFor table "reversed.__new__" = some Builtin.«reversed.__new__»:=entryFor_of_tree (by kernel_rfl)
theorem sub_self:isSubtype (.type "reversed") (.type "reversed")=pure true:=by rw[isSubtype_type];kernel_rfl
theorem AvC:typeLookup (.type "str") "__reversed__" = pure none:=by rw[typeLookup_type,builtinLookup_eq_fast];kernel_rfl
theorem Atz:isSubtype (.type "str") (.type "dict")=pure false:=by rw[isSubtype_type];kernel_rfl
theorem slot_next:Slot "reversed" "__next__" "reversed.__next__" :=
 .of (owner := "reversed") (n := "__next__") (by rw[typeLookup_type,builtinLookup_eq_fast];kernel_rfl) (by decide +kernel) (by decide +kernel) (by decide +kernel)
  (by first | exact .inl (by decide +kernel) | exact .inr (by decide +kernel)) (by rw[isSubtype_type];kernel_rfl)
theorem entry_next:entryFor table "reversed.__next__" = some Builtin.«reversed.__next__»:=entryFor_of_tree (by kernel_rfl)
theorem AkS(a:Value):argsOk "reversed.__next__" ⟨[a],[]⟩:=by
 unfold argsOk;rw[signature?_of (id := "reversed.__next__") (n:=['_','_','t','x','e','n','_','_']) (o:=['d','e','s','r','e','v','e','r']) (by kernel_rfl) Ajo];kernel_rfl
theorem ApM:Slot "reversed" "__iter__" "reversed.__iter__" :=
 .of (owner := "reversed") (n := "__iter__") (by rw[typeLookup_type,builtinLookup_eq_fast];kernel_rfl) (by decide +kernel) (by decide +kernel) (by decide +kernel)
  (by first | exact .inl (by decide +kernel) | exact .inr (by decide +kernel)) (by rw[isSubtype_type];kernel_rfl)
theorem At0:entryFor table "reversed.__iter__" = some Builtin.«dict_keyiterator.__iter__» :=
 entryFor_alias (id' := "dict_keyiterator.__iter__") (by kernel_rfl) (by first | rfl | decide +kernel | (unfold String.splitOn;simp +decide [String.splitOnAux])) (by decide +kernel) (by kernel_rfl)
theorem ArW(a:Value):argsOk "reversed.__iter__" ⟨[a],[]⟩:=by
 unfold argsOk;rw[signature?_of (id := "reversed.__iter__") (n:=['_','_','r','e','t','i','_','_']) (o:=['d','e','s','r','e','v','e','r']) (by kernel_rfl) Ajo];kernel_rfl
theorem ApN:Slot "reversed" "__length_hint__" "reversed.__length_hint__" :=
 .of (owner := "reversed") (n := "__length_hint__") (by rw[typeLookup_type,builtinLookup_eq_fast];kernel_rfl) (by decide +kernel) (by decide +kernel) (by decide +kernel)
  (by first | exact .inl (by decide +kernel) | exact .inr (by decide +kernel)) (by rw[isSubtype_type];kernel_rfl)
theorem At1:entryFor table "reversed.__length_hint__" = some Builtin.«reversed.__length_hint__»:=entryFor_of_tree (by kernel_rfl)
theorem ArX(a:Value):argsOk "reversed.__length_hint__" ⟨[a],[]⟩:=by
 unfold argsOk;rw[signature?_of (id := "reversed.__length_hint__") (n:=['_','_','t','n','i','h','_','h','t','g','n','e','l','_','_']) (o:=['d','e','s','r','e','v','e','r']) (by kernel_rfl) Ajo];kernel_rfl
theorem A2g:typeLookup (.type "reversed") "__len__" = pure none:=by rw[typeLookup_type,builtinLookup_eq_fast];kernel_rfl
theorem hint:typeLookup (.type "reversed") "__length_hint__" = pure (some (.builtin "reversed.__length_hint__")):=by rw[typeLookup_type,builtinLookup_eq_fast];kernel_rfl
end RV
def AvD (x:Str)(t:Tok)(i:Int):Obj:={ cls:=.type "reversed", data:=.fields #[.str x t,rawInt i] }
set_option maxHeartbeats 1000000 in
theorem Am6(x:Str)(t:Tok)(hx:¬(x.length:Int) ≥ 2 ^ 63) :
  Meets (Builtin.«reversed.__new__» ⟨[.type "reversed", .str x t],[]⟩) (fun _ R s =>
   R (.ok (.ret (.ref s.heap.objs.size))) { s with heap:=s.heap.push (AvD x t ((x.length:Int)-1)),toks:=s.toks+1+1 }) :=
 .of_wp fun prog w A R s h=>by
  obtain⟨hp,g,d,tk,os⟩:=s
  have hsub:=RV.sub_self
  have h1:=RV.AvC
  have h2:=RV.Atz
  have h3:=F.slot_str_getitem.lookup
  wp_walk using (PySem.P.len_str hx)
  exact⟨_,rfl,h⟩
def Heap.JW(h:Heap)(a:Addr)(x:Str)(t:Tok)(i:Int):Prop:=∃ o,h.get? a=some o∧o.cls=.type "reversed" ∧ o.data=.fields #[.str x t,rawInt i]
theorem Heap.JW.typeIs{s:Shared}{a:Addr}{x:Str}{t:Tok}{i:Int}(y:s.heap.JW a x t i):s.TypeIs (.ref a) "reversed" := let ⟨o,ho,hc,_⟩:=y;⟨o,ho,hc⟩
theorem Heap.JW.at{h h':Heap}{a:Addr}{x:Str}{t:Tok}{i:Int}(y:h.JW a x t i)(e:∀ o,h.get? a=some o→h'.get? a=some o):h'.JW a x t i:=let ⟨o,ho,r⟩:=y;⟨o,e _ ho,r⟩
section
variable {prog:Program}{w:World}{A:Around}{E:Value→Shared→Prop}{s:Shared}
theorem Ah7{x:Str}{t:Tok}{Q:Value→Shared→Prop}(hx:¬(x.length:Int) ≥ 2 ^ 63)
  (h:Q (.ref s.heap.objs.size) { s with heap:=s.heap.push (AvD x t ((x.length:Int)-1)),toks:=s.toks+1+1 }):wpAny (model prog w) A (call (.type "reversed") [.str x t]) Q E s :=
 callType_new RV.Al2 (by decide) (RV.Aty _) (RV.AvA _) (fun obj=>F.args_object_init_2 obj _) RV.AvB (Am6 x t hx) ⟨⟨_,Heap.get?_push_size _ rfl,rfl⟩,h⟩
theorem AkT{it:Addr}{x:Str}{t:Tok}{i:Int}{Q:Value→Shared→Prop}(hit:s.heap.JW it x t i)(h:Q (.ref it) s):wpAny (model prog w) A (pyIter (.ref it)) Q E s:=by
 refine wpAny_pyIter_slot hit.typeIs RV.ApM (wpAny_call_entry RV.ApM hit.typeIs RV.At0 ?_ (RV.ArW _))
 show wpAny _ _ (ret (.ref it)) _ _ s
 exact wpAny_pure ⟨_,rfl, "reversed", _,hit.typeIs,RV.slot_next.lookup,h⟩
theorem Aa3{it:Addr}{x:Str}{t:Tok}{i c:Nat}{Q:Option Value→Shared→Prop}(hit:s.heap.JW it x t (i:Int))(hx:x.cps[i]?=some c)(hb:¬(x.length:Int) ≥ 2 ^ 63)
  (hQ:∀ h' u tk,h'.JW it x t ((i:Int)-1)→Heap.SameBut it s.heap h'→Q (some (.str ⟨#[c]⟩ u)) { s with heap:=h',toks:=tk }):wpAny (model prog w) A (pyNext (.ref it)) Q E s:=by
 obtain⟨o,ho,hc,hd⟩:=id hit
 have hi:i<x.length:=(Array.getElem?_eq_some_iff.mp hx).1
 unfold pyNext
 refine wpAny_bind (wpAny_attempt (wpAny_callSpecial?_slot (name:=Str.ofString "__next__") hit.typeIs RV.slot_next
  (wpAny_call_entry RV.slot_next hit.typeIs RV.entry_next ?_ (RV.AkS _))))
 unfold Builtin.«reversed.__next__»
 refine wpAny_bind (wpAny_of_eq (a:=(Value.ref it,[])) rfl ?_)
 try dsimp only
 refine wpAny_bind (wpAny_field ho hd (x:=.str x t) rfl ?_)
 show wpAny _ _ (field (.ref it) 1 >>= _) _ _ s
 refine wpAny_bind (wpAny_field ho hd (x:=rawInt (i:Int)) rfl ?_)
 show wpAny _ _ (if (i:Int)<0 then _ else _) _ _ s
 rw[if_neg (by omega)]
 refine wpAny_bind (wpAny_specialOf (typeIs_str s x t) F.slot_str_getitem.lookup ?_)
 rw[if_neg (by decide)]
 refine wpAny_bind (wpAny_mkInt ?_)
 have e1:seqIndex? (i:Int) x.length=some i:=by
  have:=PySem.StrLaws.seqIndex_nonneg (i:=(i:Int)) (n:=x.length) (by omega) (by omega)
  simpa using this
 refine wpAny_bind (wpAny_attempt (PySem.P.getItem_str (c:=c) (by
  have e1:decide ((i:Int) < -(2 ^ 63:Int))=false:=decide_eq_false (by omega)
  have e2:decide ((i:Int) ≥ 2 ^ 63)=false:=decide_eq_false (by omega)
  rw[e1,e2];rfl) (by rw[e1];exact hx) ?_))
 show wpAny _ _ (field (.ref it) 1 >>= _) _ _ _
 refine wpAny_bind (wpAny_field (s:={ s with toks:=s.toks+1+1 }) ho hd (x:=rawInt (i:Int)) rfl ?_)
 show wpAny _ _ (setField (.ref it) 1 (rawInt ((i:Int)-1)) >>= _) _ _ _
 refine wpAny_bind (wpAny_setField (s:={ s with toks:=s.toks+1+1 }) ho hd (by simp) ?_)
 refine wpAny_pure ⟨_,rfl,wpAny_pure (hQ _ _ _ ?_ (Heap.SameBut.update ..))⟩
 exact⟨_,Heap.get?_update_self _ ho (Obj.isFreed_of_fields (Obj.data_mapFields hd _)),(Obj.cls_mapFields ..).trans hc,by
  rw[Obj.data_mapFields hd];simp⟩
theorem Acr{it:Addr}{x:Str}{t:Tok}{Q:Option Value→Shared→Prop}(hh:A.handled=none)(hit:s.heap.JW it x t (-1))
  (hQ:∀ h',Heap.ExtBut it s.heap h'→(∃ o,h'.get? it=some o)→Q none { s with heap:=h' }):wpAny (model prog w) A (pyNext (.ref it)) Q E s:=by
 obtain⟨o,ho,hc,hd⟩:=id hit
 unfold pyNext
 refine wpAny_bind (wpAny_attempt (wpAny_callSpecial?_slot (name:=Str.ofString "__next__") hit.typeIs RV.slot_next
  (wpAny_call_entry RV.slot_next hit.typeIs RV.entry_next ?_ (RV.AkS _))))
 unfold Builtin.«reversed.__next__»
 refine wpAny_bind (wpAny_of_eq (a:=(Value.ref it,[])) rfl ?_)
 try dsimp only
 refine wpAny_bind (wpAny_field ho hd (x:=.str x t) rfl ?_)
 show wpAny _ _ (field (.ref it) 1 >>= _) _ _ s
 refine wpAny_bind (wpAny_field ho hd (x:=rawInt (-1)) rfl ?_)
 show wpAny _ _ (if (-1:Int)<0 then _ else _) _ _ s
 rw[if_pos (by decide)]
 refine wpAny_bind (wpAny_rule ?_)
 refine wpAny_bind ?_
 show wpAny _ _ (setField (.ref it) 1 (rawInt (-1)) >>= fun _=>setField (.ref it) 0 .none) _ _ _
 refine wpAny_bind (wpAny_setField ho hd (by simp) ?_)
 have ho2:=Heap.get?_update_self (Obj.mapFields fun vs=>vs.set! 1 (rawInt (-1))) ho (Obj.isFreed_of_fields (Obj.data_mapFields hd _))
 have hd2:=Obj.data_mapFields hd fun vs=>vs.set! 1 (rawInt (-1))
 refine wpAny_setField (s:={ s with heap:=s.heap.update it (Obj.mapFields fun vs=>vs.set! 1 (rawInt (-1))) }) ho2 hd2 (by simp) ?_
 have hd3:=Obj.data_mapFields hd2 fun vs=>vs.set! 0 Value.none
 have ho3:=Heap.get?_update_self (Obj.mapFields fun vs=>vs.set! 0 Value.none) ho2 (Obj.isFreed_of_fields hd3)
 refine wpAny_bind ?_
 show wpAny _ _ (newExc (.type "StopIteration") [] >>= _) _ _ _
 refine wpAny_bind ?_
 simp only [newExc,newTuple]
 refine wpAny_bind (wpAny_newObj_type ?_ (by size_fits))
 refine wpAny_bind (m:=firstArgMember _ _) (wpAny_of_eq (a:=Value.none) (by first | rfl | (simp only [firstArgMember];rfl)) ?_)
 refine wpAny_newObj_type ?_ (by size_fits)
 simp only [raiseNew]
 refine wpAny_bind (wpAny_handled ?_)
 first | rw[show A.in1.handled=none from hh] | rw[hh]
 refine wpAny_bind (wpAny_pure (wpAny_throw ?_))
 refine wpAny_bind (wpAny_isInstance (T := "StopIteration") (b:=true) ⟨_,Heap.get?_push_size _ rfl,rfl⟩ isSubtype_stop ?_)
 refine wpAny_pure (hQ _ ((((Heap.SameBut.update ..).extBut.trans (Heap.SameBut.update ..).extBut).push _).push _) ⟨_,Heap.get?_push_of_some _ (Heap.get?_push_of_some _ ho3)⟩)
theorem Walks.AvD(hh:A.handled=none)(I:Addr)(x:Str)(t:Tok)(hb:¬(x.length:Int) ≥ 2 ^ 63) :
  Walks prog w A I [I] [I] x.cps.size (fun i v=>∃ c u,x.cps[x.cps.size-1-i]?=some c∧v=.str ⟨#[c]⟩ u) (fun i h=>i≤x.cps.size∧h.JW I x t ((x.cps.size:Int)-1-(i:Int))) where
 sub:=fun _ hb=>hb
 frame:=fun _ _ _ st hk=>⟨st.1,st.2.at fun o e=>hk I (by simp) o e⟩
 item:=fun i s Q E hi st hQ=>by
  have e:(x.cps.size:Int)-1-(i:Int)=((x.cps.size-1-i:Nat):Int):=by omega
  have hit:=st.2
  rw[e] at hit
  have hx:x.cps[x.cps.size-1-i]?=some (x.cps[x.cps.size-1-i]'(by omega)):=Array.getElem?_eq_getElem (by omega)
  refine Aa3 hit hx hb fun h' u tk hit' hs'=>?_
  have e2:((x.cps.size-1-i:Nat):Int)-1=(x.cps.size:Int)-1-((i+1:Nat):Int):=by omega
  rw[e2] at hit'
  exact hQ _ h' tk ⟨_,_,hx,rfl⟩ ⟨hi,hit'⟩ fun b o hb eo=>hs'.extBut b o (fun h=>hb (by simp[h])) eo
 done:=fun s Q E st hQ=>by
  have e:(x.cps.size:Int)-1-(x.cps.size:Int) = -1:=by omega
  have hit:=st.2
  rw[e] at hit
  exact Acr hh hit fun h' he' _=>hQ h' s.toks fun b o hb eo=>he' b o (fun h=>hb (by simp[h])) eo
 self:=fun _ _ _ _ st hQ=>AkT st.2 hQ
theorem Am7{it:Addr}{x:Str}{t:Tok}{Q:Value→Shared→Prop}(hb:¬(x.length:Int) ≥ 2 ^ 63)(hit:s.heap.JW it x t ((x.length:Int)-1))
  (h:∀ u tk,s.toks≤tk→Q (.int x.length u) { s with toks:=tk }):wpAny (model prog w) A (call (.builtin "reversed.__length_hint__") [.ref it]) Q E s:=by
 obtain⟨o,ho,hc,hd⟩:=id hit
 refine wpAny_call_entry RV.ApN hit.typeIs RV.At1 ?_ (RV.ArX _)
 unfold Builtin.«reversed.__length_hint__»
 refine wpAny_bind (wpAny_of_eq (a:=Value.ref it) rfl ?_)
 refine wpAny_bind (wpAny_field ho hd (x:=.str x t) rfl ?_)
 rw[if_neg (show ¬((Value.str x t == Value.none)=true) from A5Q)]
 refine wpAny_bind (PySem.P.len_str hb ?_)
 refine wpAny_bind (m:=asInt? (.int x.length (s.toks+1))) (wpAny_pure ?_)
 dsimp only
 show wpAny _ _ (field (.ref it) 1 >>= _) _ _ _
 refine wpAny_bind (wpAny_field (s:={ s with toks:=s.toks+1+1 }) ho hd (x:=rawInt ((x.length:Int)-1)) rfl ?_)
 show wpAny _ _ (if (x.length:Int)<(x.length:Int)-1+1 then _ else retInt ((x.length:Int)-1+1)) _ _ _
 rw[if_neg (by omega),show(x.length:Int)-1+1=x.length by omega]
 unfold retInt
 refine wpAny_bind (wpAny_mkInt (wpAny_pure ⟨_,rfl,h _ _ ?_⟩))
 show s.toks≤s.toks+1+1+1
 omega
theorem Afo{R:Result→Shared→Prop}{I:Addr}{x:Str}{t:Tok}(hh:A.handled=none)(hb:x.length≤sizeLine)(S:Addr)(hSI:S≠I)(res:Value) :
  ∀(k i:Nat) (s:Shared) (acc:Array Value) (c:Nat),x.cps.size-i=k→i≤x.cps.size→s.heap.JW I x t ((x.cps.size:Int)-1-(i:Int)) →
  s.heap.get? S=some { cls:=.type "list", dict:=none,data:=.seq acc c,slots:=#[] }→ItemsOf (fun i v=>∃ c u,x.cps[x.cps.size-1-i]?=some c∧v=.str ⟨#[c]⟩ u) acc i →
  (∀ h' tk acc' c',(∀ b o,b≠S→b≠I→s.heap.get? b=some o→h'.get? b=some o)→(∃ o,h'.get? I=some o)→h'.get? S=some { cls:=.type "list", dict:=none,data:=.seq acc' c',slots:=#[] } →
   ItemsOf (fun i v=>∃ c u,x.cps[x.cps.size-1-i]?=some c∧v=.str ⟨#[c]⟩ u) acc' x.cps.size→R (.ok (.ret res)) { s with heap:=h',toks:=tk }) →
  codeAny (model prog w) A (.builtin "list.extend.loop" ⟨[.ref S,.ref I,res],[]⟩) R s:=by
 have hl:sizeLine=16777216:=sizeLine_eq
 have hb':¬(x.length:Int) ≥ 2 ^ 63:=by omega
 have hn:x.cps.size≤sizeLine:=hb
 intro k
 induction k with
 | zero =>
  intro i s acc c hk hi hst hS hacc hR
  have hin:i=x.cps.size:=by omega
  subst hin
  refine codeAny_builtin F.entry_extend_loop ?_
  rw[Around.under_plainId F.plain_extend_loop _]
  show wpAny _ A.in1 (pyNext (.ref I) >>= _) _ _ s
  have e:(x.cps.size:Int)-1-(x.cps.size:Int) = -1:=by omega
  rw[e] at hst
  refine wpAny_bind (Acr (by exact hh) hst fun h' he' ho'=>?_)
  exact wpAny_pure (hR h' s.toks acc c (fun b o _ hI q=>he' b o hI q) ho' (he' S _ hSI hS) hacc)
 | succ k ih =>
  intro i s acc c hk hi hst hS hacc hR
  have hlt:i<x.cps.size:=by omega
  refine codeAny_builtin F.entry_extend_loop ?_
  rw[Around.under_plainId F.plain_extend_loop _]
  show wpAny _ A.in1 (pyNext (.ref I) >>= _) _ _ s
  have e:(x.cps.size:Int)-1-(i:Int)=((x.cps.size-1-i:Nat):Int):=by omega
  rw[e] at hst
  have hx:x.cps[x.cps.size-1-i]?=some (x.cps[x.cps.size-1-i]'(by omega)):=Array.getElem?_eq_getElem (by omega)
  refine wpAny_bind (Aa3 hst hx hb' fun h' u tk hit' hs'=>?_)
  have e2:((x.cps.size-1-i:Nat):Int)-1=(x.cps.size:Int)-1-((i+1:Nat):Int):=by omega
  rw[e2] at hit'
  have hS':h'.get? S=some { cls:=.type "list", dict:=none,data:=.seq acc c,slots:=#[] }:=(hs'.2 S hSI).trans hS
  show wpAny _ A.in1 (updateSeq S (·.push _) >>= _) _ _ _
  refine wpAny_bind ?_
  refine wpAny_updateSeq (s:={ s with heap:=h',toks:=tk }) hS' rfl (wpAny_pure ⟨plainId_quiet F.plain_extend_loop _,ih (i+1) _ (acc.push _) _ (by omega) hlt (hit'.at fun o q=>(Heap.get?_update_other _ _ hSI).trans q) (Heap.get?_update_self _ hS' rfl) (hacc.push ⟨_,u,hx,rfl⟩) fun h2 tk2 acc' c' kp ho2 hS2 hacc'=>?_⟩)
   (by rw[hacc.1];omega) (by show(acc.push _).size≤sizeLine+1;rw[Array.size_push,hacc.1];omega)
  exact hR h2 tk2 acc' c' (fun b o hbS hbI q=>kp b o hbS hbI ((Heap.get?_update_other _ _ (Ne.symm hbS)).trans ((hs'.2 b hbI).trans q))) ho2 hS2 hacc'
theorem Aqw{I:Addr}{x:Str}{t:Tok}{Q:List Value→Shared→Prop}(hh:A.handled=none)(hb:x.length≤sizeLine)(hit:s.heap.JW I x t ((x.length:Int)-1))
  (hQ:∀ h' tk acc,(∀ b o,b≠I→s.heap.get? b=some o→h'.get? b=some o)→(∃ o,h'.get? I=some o)→ItemsOf (fun i v=>∃ c u,x.cps[x.cps.size-1-i]?=some c∧v=.str ⟨#[c]⟩ u) acc x.cps.size→Q acc.toList { s with heap:=h',toks:=tk }) :
  wpAny (model prog w) A (collect (.ref I)) Q E s:=by
 have hl:sizeLine=16777216:=sizeLine_eq
 have hb':¬(x.length:Int) ≥ 2 ^ 63:=by omega
 have hn:x.cps.size≤sizeLine:=hb
 have W:=(Walks.AvD (prog:=prog) (w:=w) (A:=A.in1) hh I x t hb').toS
 have hst:(fun(i:Nat) (s:Shared)=>i≤x.cps.size∧s.heap.JW I x t ((x.cps.size:Int)-1-(i:Int))) 0 s:=⟨A6c _,by
  have e:(x.cps.size:Int)-1-((0:Nat):Int)=(x.length:Int)-1:=by show(x.cps.size:Int)-1-((0:Nat):Int)=(x.cps.size:Int)-1;omega
  rw[e];exact hit⟩
 have hI:I<s.heap.objs.size:=by
  obtain⟨o,ho,_⟩:=hit
  exact Heap.lt_size ho
 have hSf:s.heap.objs.size∉[I]:=fun hm=>by
  have:=List.mem_singleton.mp hm
  rw[this] at hI
  exact A5W _ hI
 have hSI:s.heap.objs.size≠I:=fun e=>hSf (by rw[e];simp)
 unfold collect
 refine wpAny_bind (wpAny_runValue (codeAny_builtin F.entry_proto_collect ?_))
 rw[Around.under_plainId F.plain_proto_collect _]
 show wpAny _ A.in1 (newList [] >>= fun l=>again (.builtin "list.__iadd__" ⟨[l,.ref I],[]⟩)) _ _ s
 refine wpAny_bind (wpAny_newObj_type ?_)
 refine wpAny_pure ⟨plainId_quiet F.plain_list_iadd _,codeAny_builtin F.entry_list_iadd ?_⟩
 rw[Around.under_plainId F.plain_list_iadd _]
 have hit1:(s.heap.push { cls:=.type "list", data:=.seq ([]:List Value).toArray }).JW I x t ((x.length:Int)-1):=hit.at fun o e=>Heap.get?_push_of_some _ e
 have hst₁:=W.frame 0 s (s.heap.push { cls:=.type "list", data:=.seq ([]:List Value).toArray }) s.toks hst (A5K _) fun b _ o e=>Heap.get?_push_of_some _ e
 have hS₁:(s.heap.push { cls:=.type "list", data:=.seq ([]:List Value).toArray }).get? s.heap.objs.size=some { cls:=.type "list", data:=.seq ([]:List Value).toArray }:=Heap.get?_push_size _ rfl
 have h1:Builtin.List.listSameRef (.ref s.heap.objs.size) (.ref I)=false:=by simp[Builtin.List.listSameRef,hSI]
 have hT1:({ s with heap:=s.heap.push { cls:=.type "list", data:=.seq ([]:List Value).toArray } }:Shared).TypeIs (.ref I) "reversed" := Heap.JW.typeIs (s:={ s with heap:=s.heap.push { cls:=.type "list", data:=.seq ([]:List Value).toArray } }) hit1
 show wpAny _ A.in1 (Builtin.List.listExtendWith (.ref s.heap.objs.size) (.ref I) (.ref s.heap.objs.size)) _ _ _
 unfold Builtin.List.listExtendWith
 refine wpAny_bind (wpAny_typeOf hT1 ?_)
 rw[if_neg (by rw[h1];decide)]
 refine wpAny_bind (W.self 0 _ _ _ hst₁ ?_)
 refine wpAny_bind (wpAny_holding ?_)
 unfold Builtin.List.listLengthHint
 refine wpAny_bind (wpAny_specialOf hT1 RV.A2g ?_)
 show wpAny _ A.in1 (specialOf (Value.ref I) (Str.ofString "__length_hint__") >>= _) _ _ _
 refine wpAny_bind (wpAny_specialOf hT1 RV.hint ?_)
 (generalize hid:("reversed.__length_hint__" : String)=id0;(fail_if_success (clear hid id0));wp_delta;rw[show splitId id0=some ("reversed", "__length_hint__") from by subst hid;decide +kernel];subst hid)
 refine wpAny_bind (wpAny_isInstance (b:=true) hT1 (by rw[isSubtype_type];kernel_rfl) ?_)
 show wpAny _ A.in1 (rule "list.length-hint.hint" >>= _) _ _ _
 refine wpAny_bind (wpAny_rule ?_)
 refine wpAny_bind (wpAny_of_eq (RV.ApN.bind _) ?_)
 dsimp only
 refine wpAny_bind (wpAny_attempt (Am7 (s:={ s with heap:=s.heap.push { cls:=.type "list", data:=.seq ([]:List Value).toArray } }) hb' hit1 fun u tk htk=>?_))
 have hk0:∃ k:Int,k=(x.length:Int):=⟨_,rfl⟩
 obtain⟨k,hk⟩:=hk0
 rw[← hk]
 dsimp only
 refine wpAny_bind (m:=asInt? (.int k u)) (wpAny_pure ?_)
 dsimp only
 have f1:Builtin.List.listFitsIndex k=true:=by
  unfold Builtin.List.listFitsIndex
  simp
  omega
 have f2:Builtin.List.listTooLong k.toNat=false:=by
  unfold Builtin.List.listTooLong
  exact decide_eq_false (by omega)
 rw[if_neg (by rw[f1];decide),if_neg (by omega),if_neg (by rw[f2];decide)]
 refine wpAny_pure ?_
 have e00:(x.cps.size:Int)-1-((0:Nat):Int)=(x.length:Int)-1:=by show(x.cps.size:Int)-1-((0:Nat):Int)=(x.cps.size:Int)-1;omega
 have old:∀ b o,s.heap.get? b=some o→(s.heap.push { cls:=.type "list", data:=.seq ([]:List Value).toArray }).get? b=some o:=fun b o e=>Heap.get?_push_of_some _ e
 have neS:∀ b o,s.heap.get? b=some o→b≠s.heap.objs.size:=fun b o e=>A5M (Heap.lt_size e)
 by_cases h0:x.length=0
 ·have e0:(k != 0)=false:=by rw[hk,h0];rfl
  rw[e0,if_neg (by decide)]
  have st0:(s.heap.push { cls:=.type "list", data:=.seq ([]:List Value).toArray }).JW I x t ((x.cps.size:Int)-1-((0:Nat):Int)):=by rw[e00];exact hit1
  refine wpAny_pure ⟨plainId_quiet F.plain_extend_loop _,?_⟩
  refine Afo (A:=A) hh hb _ hSI _ _ 0 { s with heap:=s.heap.push { cls:=.type "list", data:=.seq ([]:List Value).toArray },toks:=tk } #[] _ rfl (A6c _) st0 hS₁ (ItemsOf.nil _) fun h' tk' acc' c' kp ho' hS' hacc=>?_
  show wpAny _ A (load s.heap.objs.size >>= _) _ _ _
  refine wpAny_bind (wpAny_load (s:={ s with heap:=h',toks:=tk' }) hS' ?_)
  exact wpAny_pure (hQ h' tk' acc' (fun b o hbI q=>kp b o (neS b o q) hbI (old b o q)) ho' hacc)
 ·have e0:(k != 0)=true:=by simp;omega
  rw[e0,if_pos (by decide)]
  refine wpAny_bind (wpAny_rule ?_)
  refine wpAny_bind ?_
  show wpAny _ A.in1 (updateSeq s.heap.objs.size (·.push .none) >>= fun _=>updateSeq s.heap.objs.size (·.pop)) _ _ _
  refine wpAny_bind (wpAny_updateSeq hS₁ rfl ?_)
  have hS₂:=Heap.get?_update_self (Obj.mapSeq (·.push Value.none)) hS₁ rfl
  refine wpAny_updateSeq hS₂ rfl ?_
  have hS₃:=Heap.get?_update_self (Obj.mapSeq (·.pop)) hS₂ rfl
  have oth:∀ b o,b≠s.heap.objs.size→(s.heap.push { cls:=.type "list", data:=.seq ([]:List Value).toArray }).get? b=some o →
    (((s.heap.push { cls:=.type "list", data:=.seq ([]:List Value).toArray }).update s.heap.objs.size (Obj.mapSeq (·.push Value.none))).update s.heap.objs.size (Obj.mapSeq (·.pop))).get? b=some o :=
   fun b o hb e=>(Heap.get?_update_other _ _ (Ne.symm hb)).trans ((Heap.get?_update_other _ _ (Ne.symm hb)).trans e)
  have st0:(((s.heap.push { cls:=.type "list", data:=.seq ([]:List Value).toArray }).update s.heap.objs.size (Obj.mapSeq (·.push Value.none))).update s.heap.objs.size (Obj.mapSeq (·.pop))).JW I x t ((x.cps.size:Int)-1-((0:Nat):Int)):=by
   rw[e00];exact hit1.at fun o q=>oth I o (Ne.symm hSI) q
  refine wpAny_pure ⟨plainId_quiet F.plain_extend_loop _,?_⟩
  refine Afo (A:=A) hh hb _ hSI _ _ 0
   { s with heap:=((s.heap.push { cls:=.type "list", data:=.seq ([]:List Value).toArray }).update s.heap.objs.size (Obj.mapSeq (·.push Value.none))).update s.heap.objs.size (Obj.mapSeq (·.pop)),toks:=tk } #[] _ rfl (A6c _) st0 hS₃ (ItemsOf.nil _) fun h' tk' acc' c' kp ho' hS' hacc=>?_
  show wpAny _ A (load s.heap.objs.size >>= _) _ _ _
  refine wpAny_bind (wpAny_load (s:={ s with heap:=h',toks:=tk' }) hS' ?_)
  exact wpAny_pure (hQ h' tk' acc' (fun b o hbI q=>kp b o (neS b o q) hbI (oth b o (neS b o q) (old b o q))) ho' hacc)
theorem AvE{I:Addr}{sep x:Str}{t u:Tok}{Q:Value→Shared→Prop}(hh:A.handled=none)(hb:x.length≤1000)(hs:sep.length≤16)(hit:s.heap.JW I x t ((x.length:Int)-1))
  (h:∀ h' t' k,(∀ b o,b≠I→s.heap.get? b=some o→h'.get? b=some o)→(∃ o,h'.get? I=some o)→Q (.str (Txt.join sep (x.cps.toList.reverse.map fun c=>⟨#[c]⟩)) t') { s with heap:=h',toks:=k }) :
  wpAny (model prog w) A (call (.builtin "str.join") [.str sep u,.ref I]) Q E s:=by
 have hl:sizeLine=16777216:=sizeLine_eq
 refine wpAny_call (codeAny_call_builtin F.slot_str_join.plain F.entry_str_join (F.slot_str_join.check _ _ _ _ _ _ _ _ (typeIs_str _ _ _) (F.args_str_join_2 _ _) ?_))
 rw[join_tree_other]
 refine wpAny_bind (wpAny_typeOf hit.typeIs ?_)
 show wpAny _ A.in1 ((pyIter (.ref I)).tryCatch _ >>= fun it=>collect it >>= fun items=>joinTail sep items) _ _ s
 refine wpAny_bind (wpAny_tryCatch (AkT hit ?_))
 refine wpAny_bind (Aqw (by exact hh) (by omega) hit fun h' tk' acc hm ho' hacc=>?_)
 obtain⟨l,hl'⟩:=exists_strValues acc.toList fun v hv=>by
  obtain⟨j,hj,rfl⟩:=Array.mem_iff_getElem.mp (Array.mem_toList_iff.mp hv)
  obtain⟨c,u,_,e⟩:=hacc.2 j _ (Array.getElem?_eq_getElem hj)
  exact⟨_,u,e⟩
 rw[← hl']
 have key:l.map (·.1)=x.cps.toList.reverse.map fun c=>(⟨#[c]⟩:Str):=by
  have hlen:l.length=x.cps.size:=by
   have:=congrArg List.length hl'
   simp only [strValues,A5I,Array.length_toList,hacc.1] at this
   exact this
  apply A7l
  intro j
  rw[A5T,A5T]
  by_cases hj:j<x.cps.size
  ·have hj':j<acc.size:=by rw[hacc.1];exact hj
   obtain⟨c,u,e1,e2⟩:=hacc.2 j _ (Array.getElem?_eq_getElem hj')
   have g:(strValues l)[j]?=some (.str ⟨#[c]⟩ u):=by
    rw[hl',← e2]
    simp[hj']
   have g2:l[j]?=some (⟨#[c]⟩,u):=by
    unfold strValues at g
    rw[A5T] at g
    cases hlj:l[j]? with
    | none=>rw[hlj] at g;cases g
    | some p =>
     rw[hlj] at g
     obtain⟨p1,p2⟩:=p
     have g':Value.str p1 p2=Value.str ⟨#[c]⟩ u:=Option.some.inj g
     injection g' with a b
     rw[a,b]
   rw[g2,List.getElem?_reverse (by simpa using hj)]
   simp only [Array.length_toList,Array.getElem?_toList,e1]
   rfl
  ·rw[A6L (by omega),A6L (by simp;omega)]
   rfl
 have hok:JoinOk sep (l.map (·.1))=true:=by
  rw[key]
  unfold JoinOk
  rw[StrLaws.joinTotal]
  have e1:((x.cps.toList.reverse.map fun c=>(⟨#[c]⟩:Str)).map (·.length)).sum=x.cps.size:=by
   have:∀(l:List Nat),((l.map fun c=>(⟨#[c]⟩:Str)).map (·.length)).sum=l.length:=by
    intro l
    induction l with
    | nil=>rfl
    | cons a r ih=>simp only [A5P,A6U,A5N,ih];show 1+_=_;omega
   rw[this]
   simp
  rw[e1]
  simp only [A5I,A6G,Array.length_toList]
  have hx:x.cps.size≤1000:=hb
  have hm:x.cps.size*sep.length≤1000*16:=Nat.mul_le_mul hx hs
  unfold tooLong
  rw[decide_eq_false (by omega)]
  rfl
 have AyO:=hok
 unfold JoinOk at AyO
 rw[Bool.not_eq_true'] at AyO
 have g:Gives (joinTail sep (strValues l)) (joinMade sep l):=by
  have g0:=gives_joinTail sep l AyO
  cases l with
  | nil=>exact g0
  | cons p r=>cases r with
   | nil=>exact g0
   | cons q r'=>exact g0
 refine g prog w A (wants Q E) _ (post_join l ⟨joinFit_length AyO,fun t' k=>?_⟩)
 rw[key]
 exact h h' t' k hm ho'
end
end PySem
namespace L2
open PySem PySem.Spec PyProof.Rows
def A0t (p:Addr)(x:Str):HO:=.ext fun h=>∃ t,h.JW p x t ((x.length:Int)-1)
def A2h (p:Addr):HO:=.ext fun h=>∃ o,h.get? p=some o
section
variable {X:Cx}
theorem AkU:V9 X (.type "reversed") (fun xs H Q=>∃ z,xs=[.str z]∧z.length≤sizeLine∧∀ p,H p=none→Q (.ref p) (upd H p (A0t p z))):=by
 intro pins s σ H xs us Q I rv h
 obtain⟨z,rfl,hz,q⟩:=h
 obtain⟨u,rfl,ru⟩:=rv.one
 obtain⟨t,rfl⟩:=ru
 have hl:sizeLine=16777216:=sizeLine_eq
 refine Ah7 (by omega) ?_
 have hg:(s.heap.push (AvD z t ((z.length:Int)-1))).get? s.heap.objs.size=some (AvD z t ((z.length:Int)-1)):=Heap.get?_push_size _ rfl
 refine⟨.ref s.heap.objs.size,_,I.laid (o:=A0t s.heap.objs.size z) (fun b o e=>Heap.get?_push_of_some _ e) (A5K _) ?_,rfl,q _ (I.hok.fresh (A5K _))⟩
 exact⟨⟨t,_,hg,rfl,rfl⟩,⟨_,hg⟩,fun h1 h2 y k=>by
  obtain⟨t',y⟩:=y
  exact⟨t',y.at k⟩⟩
theorem Am8(hc:X.calm=true:=by rfl):MtR X "str.join" (fun x vs H Q=>∃ z y p,x=.str z∧vs=[.ref p]∧H p=some (A0t p y)∧z.length≤16∧y.length≤1000 ∧
  Q (.str (Txt.join z (y.cps.toList.reverse.map fun c=>⟨#[c]⟩))) (upd H p (A2h p))):=by
 intro pins s σ H x vs v us Q I rx rv h
 obtain⟨z,y,p,rfl,rfl,hp,hz,hy,q⟩:=h
 obtain⟨t,rfl⟩:=rx
 obtain⟨u,rfl,ru⟩:=rv.one
 cases ru
 obtain⟨⟨t',hit⟩,⟨o,ho⟩,_⟩:=I.hok p _ hp
 refine AvE (I.ok.hd hc) hy hz hit fun h' t2 k kp hp'=>?_
 refine⟨.str _,_,I.write (t':=k) (x:=p) (e:=p) (o:=A2h p) (by rw[hp];exact trivial) (.inl rfl) (fun b u hb e=>kp b u hb e) hp' ?_,⟨_,rfl⟩,q⟩
 exact⟨hp',hp',fun h1 h2 y k=>by
  obtain⟨o,y⟩:=y
  exact⟨o,k o y⟩⟩
end
open PySem PySem.Spec PyProof.Rows
theorem Ht{c A B:Prop}[Decidable c](h:¬c)(k:B):if decide c=true then A else B:=by rw[decide_eq_false h];exact ZF k
theorem Mw{c A B:Prop}[Decidable c](h:c)(k:A):if decide c=true then A else B:=by rw[decide_eq_true h];exact Tn k
theorem ArY{c A B:Prop}[Decidable c](h:¬c)(k:A):if (!decide c)=true then A else B:=by rw[decide_eq_false h];exact Tn k
theorem A3X{b:Bool}{A B:Prop}(h1:b=true→A)(h2:b=false→B):if b=true then A else B:=by
 cases b with
 | true=>exact Tn (h1 rfl)
 | false=>exact ZF (h2 rfl)
theorem Hu{c A B:Prop}[Decidable c](h1:c→A)(h2:¬c→B):if decide c=true then A else B:=by
 by_cases h:c
 ·exact Mw h (h1 h)
 ·exact Ht h (h2 h)
theorem Bv.upd{H:Hp}{p:Addr}{o:HO}(h:H p=none):Bv H (L2.upd H p o):=fun b o' e=>by rw[Bd (Bs e h)];exact e
theorem Bv.new{H H1:Hp}{p:Addr}{o:HO}(e:Bv H H1)(h:H1 p=none):Bv H (L2.upd H1 p o):=e.trans (.upd h)
theorem Bv.over{H H1:Hp}{p:Addr}{o:HO}(e:Bv H H1)(h:H p=none):Bv H (L2.upd H1 p o):=fun b o' q=>by rw[Bd (Bs q h)];exact e b o' q
theorem Gg:bootBuiltins "len" = some (.builtin "len"):=by decide +kernel
theorem JD:bootBuiltins "isinstance" = some (.builtin "isinstance"):=by decide +kernel
theorem AwJ:bootBuiltins "any" = some (.builtin "any"):=by decide +kernel
theorem A0u:bootBuiltins "all" = some (.builtin "all"):=by decide +kernel
theorem Aqx:bootBuiltins "list" = some (.type "list"):=by decide +kernel
theorem W2:bootBuiltins "str" = some (.type "str"):=by decide +kernel
theorem Am9:bootBuiltins "int" = some (.type "int"):=by decide +kernel
theorem AwK:bootBuiltins "tuple" = some (.type "tuple"):=by decide +kernel
theorem AcS:bootBuiltins "reversed" = some (.type "reversed"):=by decide +kernel
theorem Aqy:bootBuiltins "enumerate" = some (.type "enumerate"):=by decide +kernel
theorem AwL:bootBuiltins "zip" = some (.type "zip"):=by decide +kernel
structure Df (K:PySem.W.Frag) (mg:Str→Option Value) (x:Str) (st:Stmt) (ps:List Str) (f:Addr) (fd:FuncData):Prop where
 F:Fun K x x st f fd
 m:mg x=some (.ref f)
 b:Binds K fd ps []
def vS (cl:List (List Nat)):List V:=cl.map fun t=>V.str (tx t)
def vI (ns:List Int):List V:=ns.map V.int
theorem DG(cl:List (List Nat)):(vS cl).length=cl.length:=by unfold vS;rw[A5I]
theorem QX(ns:List Int):(vI ns).length=ns.length:=by unfold vI;rw[A5I]
theorem Aqz{cl:List (List Nat)}{i:Nat}{t:List Nat}(h:cl[i]?=some t):(vS cl)[i]?=some (.str (tx t)):=by unfold vS;rw[A5T,h];rfl
theorem AmA{ns:List Int}{i:Nat}{n:Int}(h:ns[i]?=some n):(vI ns)[i]?=some (.int n):=by unfold vI;rw[A5T,h];rfl
theorem ZG{cl:List (List Nat)}{i:Nat}{v:V}(h:(vS cl)[i]?=some v):∃ t,cl[i]?=some t∧v=.str (tx t):=by
 unfold vS at h
 rw[A5T] at h
 cases e:cl[i]? with
 | none=>rw[e] at h;cases h
 | some t=>rw[e] at h;exact⟨t,rfl,(Option.some.inj h).symm⟩
theorem A0v{ns:List Int}{i:Nat}{v:V}(h:(vI ns)[i]?=some v):∃ t,ns[i]?=some t∧v=.int t:=by
 unfold vI at h
 rw[A5T] at h
 cases e:ns[i]? with
 | none=>rw[e] at h;cases h
 | some t=>rw[e] at h;exact⟨t,rfl,(Option.some.inj h).symm⟩
theorem Agq(cl:List (List Nat)):vS cl=(cl.map tx).map V.str:=by unfold vS;rw[A6M];rfl
theorem AwM(ns:List Int)(n:Int):vI ns++[.int n]=vI (ns++[n]):=by unfold vI;rw[A5Y];rfl
theorem QZ(cl:List (List Nat))(t:List Nat):vS cl++[.str (tx t)]=vS (cl++[t]):=by unfold vS;rw[A5Y];rfl
theorem Fi{α:Type}{xs:List α}{i:Int}{v:α}(h0:0≤i)(h:xs[i.toNat]?=some v):atI xs i=some v:=by
 have e:i=(i.toNat:Int):=by omega
 rw[e]
 exact AuG h
open PySem PySem.Spec PyProof.Rows
section
variable {X:Cx}{K:PySem.W.Frag}{tg:Expr}
theorem Fp(hK:X.K=K:=by rfl):IxR X (A0o K):=by subst hK;exact AyG
theorem K7(hK:X.K=K:=by rfl):IxR X (A0p K):=by subst hK;exact A0q
theorem AoO(hK:X.K=K:=by rfl):OpR X (compareOp .NotIn) (rIn K true):=by subst hK;exact Aqq
theorem CV(hK:X.K=K:=by rfl):V9 X (.builtin "len") (fun xs H Q=>∃ p ys,xs=[.ref p]∧(SqL K H p ys∨SqT K H p ys)∧Q (.int ys.length) H):=by subst hK;exact Aqr
theorem Afp(hK:X.K=K:=by rfl):V9 X (.type "list") (fun xs H Q=>∃ p ys,xs=[.ref p]∧(SqL K H p ys∨SqT K H p ys)∧∀ l,H l=none→Q (.ref l) (upd H l (.lst ys))):=by subst hK;exact Aqs
theorem AvF(hK:X.K=K:=by rfl):V9 X (.builtin "isinstance") (A2f K):=by subst hK;exact AwH
theorem W3(hK:X.K=K:=by rfl):MtR X "str.join" (rJoin K):=by subst hK;exact AyM
theorem ArZ(hK:X.K=K:=by rfl):SlR X (A2a K):=by subst hK;exact AyH
theorem JX{l:Expr}{tl:TE}(hl:PE X l tl)(hK:X.K=K:=by rfl):PI X tg l (AzG K tl):=by subst hK;exact Ay9 hl
theorem AvG{a:Expr}{ta:TE}(ha:PE X a ta)(he:∀ whole,isTrue a X.env whole=(do let v ← whole;standAt a.pos;holding [v] (truthy v)))(hK:X.K=K:=by rfl) :
  PT X a (fun σ H Q=>ta σ H fun x H'=>∃ k,A0g K x H' k∧Q k H'):=by subst hK;exact Aw6 ha he
variable {o e:Expr}{es:List Expr}{to:TE}{t:TA}{name:Str}{apos cpos:Pos}{T id:String}{r:V→List V→Hp→VK→Prop}
theorem Qa(pa:PlainAttrs T)(slot:Slot T name id)(hty:typeOf (.builtin id)=pure (.type "method_descriptor")) (hm:MtR X id r) (ho:PE X o to) (ha:PA X (e::es) t)
  (hbase:attributeBase o name X.env (eval o X.env)=eval o X.env:=by rfl)
  (hfew:((backTo cpos (starEach (e::es) X.env)).all (fun x=>!x.1) && (backToKw cpos (keywordEach [] X.env)).all (fun x=>x.1.isSome)
   && decide ((e::es).length+([]:List Keyword).length+(if ([]:List Keyword).isEmpty then 0 else 1)<30))=true:=by rfl)
  (hline:(apos.endLine == cpos.line)=true:=by rfl) (hs:starEach (e::es) X.env=(false,eval e X.env)::starEach es X.env:=by rfl) (hplain:(backTo cpos (starEach es X.env)).any (·.1)=false:=by rfl) (hK:X.K=K:=by rfl) :
  PE X (.Call (.Attribute o name apos) (e::es) [] cpos) (tBM K T r to t):=by
 subst hK
 exact A2b pa slot hty hm ho ha hbase hfew hline hs hplain
end
open PySem PySem.Spec PyProof.Rows
abbrev exO (C t:Addr) (tb:Value):Obj:={ cls:=.ref C,data:=.fields #[.ref t,tb,.none,.none,.bool false,.none] }
structure Fx (B:Heap) (l:List Env) (e C t:Addr) (fl:Value) (h:Heap):Prop where
 st:B.StaysIn h
 ne:B.get? e=none
 fr:h.FunFrames B l
 ob:∃(T:Addr) (oT:Obj) (ts:Array Value),h.get? e=some (exO C t (.ref T))∧B.get? T=none∧T≠e∧h.get? T=some oT∧oT.data=.fields ts∧ts[3]?=some fl
theorem Fx.outer{B:Heap}{env:Env}{l:List Env}{e C t:Addr}{fl:Value}{h:Heap}(x:Fx B (env::l) e C t fl h):Fx B l e C t fl h:=⟨x.st,x.ne,x.fr.2.2,x.ob⟩
section
variable {M:Model}{A:Around}{E:Value→Shared→Prop}{s:Shared}{B:Heap}{env:Env}{l:List Env}{e C t L:Addr}
theorem Aq0{fl:Value}{Q:Unit→Shared→Prop}(x:Fx B l e C t fl s.heap)(k:∀ h',Fx B l e C t .none h'→s.heap.UpToSlots h'→Q () { s with heap:=h' }):wpAny M A (setFlight (.ref e) none) Q E s:=by
 obtain⟨st,ne,fr,T,oT,ts,hE,hBT,hTe,hT,hdT,h3⟩:=x
 have h3s:3<ts.size:=(Array.getElem?_eq_some_iff.mp h3).1
 unfold setFlight
 refine wpAny_bind (wpAny_field hE rfl (x:=.ref T) rfl ?_)
 rw[if_pos (show(Value.ref T != Value.none)=true by simp)]
 refine wpAny_setField hT hdT h3s (k _ ?_ ?_)
 all_goals
  have oth:∀ b,b≠T→(s.heap.update T (Obj.mapFields (·.setIfInBounds 3 ((none:Option Addr).elim Value.none fun f=>rawInt f)))).get? b=s.heap.get? b:=fun b hb=>Heap.get?_update_other _ _ (Ne.symm hb)
  have AmB:∀ b o,s.heap.get? b=some o→(∀ vs,o.data≠.fields vs)→b≠T:=fun b o hb hn q=>by
   rw[q,hT] at hb
   cases hb
   exact hn ts hdT
 ·refine⟨fun b o hb=>(oth b fun q=>by rw[q,hBT] at hb;cases hb).trans (st b o hb),ne,fr.of_keeps fun b o hb hn=>⟨o,(oth b (AmB b o hb hn)).trans hb,rfl⟩,T,_,_,(oth e (Ne.symm hTe)).trans hE,hBT,hTe,
   Heap.get?_update_self _ hT (Obj.isFreed_of_fields (Obj.data_mapFields hdT _)),Obj.data_mapFields hdT _,?_⟩
  simp[h3s]
 ·exact fun b o hb hn=>⟨o.slots,(oth b (AmB b o hb hn)).trans hb⟩
theorem Asa{tb:Value}{had:Bool}{Q:Unit→Shared→Prop}(hfr:A.frames=some (env::l))(hf:env.frame=some L)(st:B.StaysIn s.heap)(ne:B.get? e=none)(fr:s.heap.FunFrames B (env::l))
  (hE:s.heap.get? e=some (exO C t tb)) (k:∀ h',Fx B (env::l) e C t (rawInt L) h'→s.heap.UpToSlots h'→Q () { s with heap:=h' }) :
  wpAny M A (do let a ← frameOf env;let pl ← entryPlaceOf L had;let b ← EntryCells.newEntry tb a .none (rawInt L) .none pl;setField (.ref e) 1 b) Q E s:=by
 have eF:e∉(env::l).filterMap (·.frame):=fun hm=>by
  obtain⟨_,o,ho,hn⟩:=fr.mem hm
  rw[hE] at ho
  cases ho
  exact hn _ rfl
 refine wpAny_bind (wpAny_frameOf_fun hfr fr hf fun h1 so=>wpAny_bind (wpAny_entryPlaceOf fun pl hpl=>?_))
 unfold EntryCells.newEntry newFields
 refine wpAny_bind (wpAny_newObj_type ?_ (hpl.sizeOk5 _ _ _ _ _))
 have E1:h1.get? e=some (exO C t tb):=(so.2.1 e eF).trans hE
 have st1:B.StaysIn h1:=fun b o hb=>(so.2.1 b fun hm=>by rw[(fr.mem hm).1] at hb;cases hb).trans (st b o hb)
 have TE:h1.objs.size≠e:=A6x (Heap.lt_size E1)
 generalize hN:({ cls:=.type "traceback", dict:=none,data:=.fields ([tb,.ref L,.none,rawInt L,.none]++(if pl.isEmpty then List.replicate 6 Value.none else pl)).toArray }:Obj)=nT
 have E2:(h1.push nT).get? e=some (exO C t tb):=Heap.get?_push_of_some nT E1
 refine wpAny_setField (s:={ s with heap:=h1.push nT }) E2 rfl (by show 1<6;decide) (k _ ?_ ?_)
 all_goals
  have kp:∀ b o,b≠e→h1.get? b=some o→((h1.push nT).update e (Obj.mapFields (·.setIfInBounds 1 (Value.ref h1.objs.size)))).get? b=some o:=fun b o hb q =>
   (Heap.get?_update_other _ _ (Ne.symm hb)).trans (Heap.get?_push_of_some nT q)
  have AmB:∀ b o,s.heap.get? b=some o→(∀ vs,o.data≠.fields vs)→b≠e:=fun b o hb hn q=>by
   rw[q,hE] at hb
   cases hb
   exact hn _ rfl
 ·have freed:nT.isFreed=false:=by rw[← hN];rfl
  refine⟨fun b o hb=>kp b o (fun q=>by rw[q,ne] at hb;cases hb) (st1 b o hb),ne,fr.of_keeps fun b o hb hn=>?_,h1.objs.size,nT,_,Heap.get?_update_self _ E2 rfl,st1.fresh,TE,
   (Heap.get?_update_other _ _ (Ne.symm TE)).trans (Heap.get?_push_size h1 freed),by rw[← hN],by simp⟩
  obtain⟨sl,q⟩:=so.2.2 b o hb
  exact⟨_,kp b _ (AmB b o hb hn) q,rfl⟩
 ·intro b o hb hn
  obtain⟨sl,q⟩:=so.2.2 b o hb
  exact⟨sl,kp b _ (AmB b o hb hn) q⟩
theorem AwN{Q:Unit→Shared→Prop}(hfr:A.frames=some (env::l))(hf:env.frame=some L)(st:B.StaysIn s.heap)(ne:B.get? e=none)(fr:s.heap.FunFrames B (env::l))
  (hE:s.heap.get? e=some (exO C t .none)) (k:∀ h',Fx B (env::l) e C t (rawInt L) h'→s.heap.UpToSlots h'→Q () { s with heap:=h' }):wpAny M A (noteFrame (.ref e) env) Q E s:=by
 unfold noteFrame
 simp only [hf]
 refine wpAny_bind (wpAny_field hE rfl (x:=.none) rfl ?_)
 rw[if_neg (by decide)]
 exact Asa hfr hf st ne fr hE k
theorem AyP{Q:Unit→Shared→Prop}(hfr:A.frames=some (env::l))(hf:env.frame=some L)(x:Fx B (env::l) e C t .none s.heap)
  (k:∀ h',Fx B (env::l) e C t (rawInt L) h'→s.heap.UpToSlots h'→Q () { s with heap:=h' }):wpAny M A (noteFrame (.ref e) env) Q E s:=by
 obtain⟨st,ne,fr,T,oT,ts,hE,hBT,hTe,hT,hdT,h3⟩:=x
 unfold noteFrame
 simp only [hf]
 refine wpAny_bind (wpAny_field hE rfl (x:=.ref T) rfl ?_)
 rw[if_pos (show(Value.ref T != Value.none)=true by simp)]
 refine wpAny_bind (wpAny_field hT hdT h3 ?_)
 rw[if_neg (show ¬((Value.none == rawInt L)=true) by simp[rawInt])]
 refine wpAny_bind (wpAny_setField hT hdT (Array.getElem?_eq_some_iff.mp h3).1 ?_)
 have oth:∀ b,b≠T→(s.heap.update T (Obj.mapFields (·.setIfInBounds 3 Value.none))).get? b=s.heap.get? b:=fun b hb=>Heap.get?_update_other _ _ (Ne.symm hb)
 have AmB:∀ b o,s.heap.get? b=some o→(∀ vs,o.data≠.fields vs)→b≠T:=fun b o hb hn q=>by
  rw[q,hT] at hb
  cases hb
  exact hn ts hdT
 exact Asa (s:={ s with heap:=s.heap.update T (Obj.mapFields (·.setIfInBounds 3 Value.none)) }) hfr hf (fun b o hb=>(oth b fun q=>by rw[q,hBT] at hb;cases hb).trans (st b o hb)) ne
  (fr.of_keeps fun b o hb hn=>⟨o,(oth b (AmB b o hb hn)).trans hb,rfl⟩) ((oth e (Ne.symm hTe)).trans hE)
  fun h' y u=>k h' y fun b o hb hn=>u b o ((oth b (AmB b o hb hn)).trans hb) hn
end
open PySem PySem.Spec PyProof.Rows
section
variable {M:Model}{A:Around}{E:Value→Shared→Prop}{s:Shared}{B:Heap}{env:Env}{l:List Env}{e C t L:Addr}
theorem ApO{fl:Value}{f:Option Addr}{Q:Unit→Shared→Prop}(x:Fx B l e C t fl s.heap)(k:∀ h',Fx B l e C t (f.elim Value.none fun f=>rawInt f) h'→s.heap.UpToSlots h'→Q () { s with heap:=h' }):wpAny M A (setFlight (.ref e) f) Q E s:=by
 obtain⟨st,ne,fr,T,oT,ts,hE,hBT,hTe,hT,hdT,h3⟩:=x
 have h3s:3<ts.size:=(Array.getElem?_eq_some_iff.mp h3).1
 unfold setFlight
 refine wpAny_bind (wpAny_field hE rfl (x:=.ref T) rfl ?_)
 rw[if_pos (show(Value.ref T != Value.none)=true by simp)]
 refine wpAny_setField hT hdT h3s (k _ ?_ ?_)
 all_goals
  have oth:∀ b,b≠T→(s.heap.update T (Obj.mapFields (·.setIfInBounds 3 (f.elim Value.none fun f=>rawInt f)))).get? b=s.heap.get? b:=fun b hb=>Heap.get?_update_other _ _ (Ne.symm hb)
  have AmB:∀ b o,s.heap.get? b=some o→(∀ vs,o.data≠.fields vs)→b≠T:=fun b o hb hn q=>by
   rw[q,hT] at hb
   cases hb
   exact hn ts hdT
 ·refine⟨fun b o hb=>(oth b fun q=>by rw[q,hBT] at hb;cases hb).trans (st b o hb),ne,fr.of_keeps fun b o hb hn=>⟨o,(oth b (AmB b o hb hn)).trans hb,rfl⟩,T,_,_,(oth e (Ne.symm hTe)).trans hE,hBT,hTe,
   Heap.get?_update_self _ hT (Obj.isFreed_of_fields (Obj.data_mapFields hdT _)),Obj.data_mapFields hdT _,?_⟩
  simp[h3s]
 ·exact fun b o hb hn=>⟨o.slots,(oth b (AmB b o hb hn)).trans hb⟩
theorem AwO{Q:Unit→Shared→Prop}(hf:env.frame=some L)(x:Fx B l e C t (rawInt L) s.heap)(k:Q () s):wpAny M A (noteFrame (.ref e) env) Q E s:=by
 obtain⟨st,ne,fr,T,oT,ts,hE,hBT,hTe,hT,hdT,h3⟩:=x
 unfold noteFrame
 simp only [hf]
 refine wpAny_bind (wpAny_field hE rfl (x:=.ref T) rfl ?_)
 rw[if_pos (show(Value.ref T != Value.none)=true by simp)]
 refine wpAny_bind (wpAny_field hT hdT h3 ?_)
 rw[if_pos (show((rawInt L == rawInt L)=true) by simp)]
 exact wpAny_pure k
end
structure Bk (P:Program) (w:World) (outer:List Env) (H:Hp) (h:Heap) (H':Hp) (B h':Heap):Prop where
 ok:HOk P w H' B
 keep:∀ b o,h.get? b=some o→H b=none→b∉frs outer→B.get? b=some o
 slot:∀ b o,h.get? b=some o→b∈frs outer→∃ sl,h'.get? b=some { o with slots:=sl }
 free:∀ b o,h.get? b=some o→H b=none→H' b=none
 there:∀ b o,h.get? b=some o→b∉frs outer→∃ o',B.get? b=some o'
 tups:∀ b xs,H b=some (.tup xs)→H' b=some (.tup xs)
 Vk:∀ b o u,H b=some (.frz o u)→H' b=some (.frz o u)
 Wt:∀ b ps,H b=some (.tbl ps)→∃ more,H' b=some (.tbl (ps++more))
theorem Bk.slots{P:Program}{w:World}{outer:List Env}{H H':Hp}{h B h1 h2:Heap}(k:Bk P w outer H h H' B h1)(fr:h1.FunFrames B outer)(u:h1.UpToSlots h2):Bk P w outer H h H' B h2 :=
 ⟨k.ok,k.keep,fun b o q hb=>by
  obtain⟨sl,e⟩:=k.slot b o q hb
  obtain⟨_,o2,e2,n2⟩:=fr.mem hb
  rw[e] at e2
  cases e2
  obtain⟨sl2,e3⟩:=u b _ e n2
  exact⟨sl2,e3⟩,k.free,k.there,k.tups,k.Vk,k.Wt⟩
def CX1 (P:Program)(w:World):CXT:=fun outer H s E e s'=>∃ ea C t H' B,e=.ref ea∧Fx B outer ea C t .none s'.heap∧s'.os=s.os∧AllBare s'.gens∧Bk P w outer H s.heap H' B s'.heap∧E (.ref C) none H'
inductive Fly (B:Heap) (l:List Env) (L ea C t:Addr) (h:Heap):Prop where
 | new (st:B.StaysIn h) (ne:B.get? ea=none) (fr:h.FunFrames B l) (ob:h.get? ea=some (exO C t .none))
 | came (x:Fx B l ea C t .none h)
 | seen (x:Fx B l ea C t (rawInt L) h)
theorem Fly.fr{B:Heap}{l:List Env}{L ea C t:Addr}{h:Heap}(x:Fly B l L ea C t h):h.FunFrames B l:=by
 cases x with
 | new st ne fr ob=>exact fr
 | came x=>exact x.fr
 | seen x=>exact x.fr
def FlX (X:Cx)(E:XK):Value→Shared→Prop:=fun e s'=>∃ ea C t H' B,e=.ref ea∧Fly B X.stack X.env.locals ea C t s'.heap∧s'.os=X.s₀.os∧AllBare s'.gens∧Bk X.prog X.w X.outer X.H₀ X.s₀.heap H' B s'.heap∧E (.ref C) none H'
structure Body (X:Cx):Prop where
 stack:X.stack=X.env::X.outer
 frame:X.env.frame=some X.env.locals
 ex:X.ex=[]
section
variable {X:Cx}{pins:List (Addr × Obj)}{σ:St}{H:Hp}{s s':Shared}{E:XK}{e:Value}
theorem Inv.AvH(I:Inv X pins σ H s){b:Addr}{o:Obj}(q:X.s₀.heap.get? b=some o)(hb:b∉X.fs):b∉frs X.stack:=fun hm=>by
 rcases List.mem_cons.mp (I.Amp b hm) with z | z
 ·rw[z] at q
  exact absurd (A5O (Heap.lt_size q) I.ok.above) (A5W _)
 ·exact hb z
theorem A2i(hB:Body X)(I:Inv X pins σ H s)(c:CX1 X.prog X.w X.stack H s E e s'):FlX X E e s':=by
 obtain⟨ea,C,t,H',B,rfl,fx,os,bare,bk,q⟩:=c
 have nx:∀ b:Addr,b∉X.ex:=fun b z=>by rw[hB.ex] at z;exact nomatch z
 have fsS:∀ b,b∈X.fs→b∈frs X.stack:=fun b hb=>by
  rw[hB.stack];unfold frs;rw[A6u,hB.frame];exact A6h _ hb
 refine⟨ea,C,t,H',B,rfl,.came fx,os.trans I.os,bare,⟨bk.ok,fun b o e n hb=>?_,fun b o e hb=>?_,fun b o e n=>?_,fun b o e hb=>?_,fun b xs e=>bk.tups b xs (I.base.tups b xs e),fun b o u e=>bk.Vk b o u (I.base.Vk b o u e),fun b ps e=>?_⟩,q⟩
 ·exact bk.keep b o (I.base.keep b o e n hb (nx b)) (I.base.free b o e n (nx b)) (I.AvH e hb)
 ·obtain⟨sl,e1⟩:=I.base.slot b o e (I.ok.frf b hb) hb (nx b)
  obtain⟨sl2,e2⟩:=bk.slot b _ e1 (fsS b hb)
  exact⟨sl2,e2⟩
 ·obtain⟨o',e1⟩:=I.base.there b o e (nx b)
  exact bk.free b o' e1 (I.base.free b o e n (nx b))
 ·obtain⟨o',e1⟩:=I.base.there b o e (nx b)
  exact bk.there b o' e1 (I.AvH e hb)
 ·obtain⟨m1,e1⟩:=I.base.Wt b ps e
  obtain⟨m2,e2⟩:=bk.Wt b _ e1
  exact⟨m1++m2,by rw[e2,Array.append_assoc]⟩
theorem A2j{h':Heap}{ea C:Addr}{vs:List Value}(hB:Body X)(I:Inv X pins σ H s)(hx:Heap.MadeExcOf s.heap h' ea (.ref C) vs)(q:E (.ref C) none H):FlX X E (.ref ea) { s with heap:=h' }:=by
 obtain⟨t,ht,_,_⟩:=hx.there
 have nx:∀ b:Addr,b∉X.ex:=fun b z=>by rw[hB.ex] at z;exact nomatch z
 have nfr:∀ b u,H b=some u→b∉frs X.stack:=fun b u e hm=>by rw[I.Ah0 b hm] at e;cases e
 refine⟨ea,C,t,H,PySem.W.hideAll s.heap (frs X.stack),rfl,.new (fun b o e=>hx.keeps b o (PySem.W.of_hideAll _ e)) ?_ ?_ ht,I.os,I.bare,⟨fun b u e=>?_,fun b o e n hb=>?_,fun b o e hb=>?_,fun b o e n=>I.base.free b o e n (nx b),fun b o e hb=>?_,I.base.tups,I.base.Vk,I.base.Wt⟩,q⟩
 ·cases z:(PySem.W.hideAll s.heap (frs X.stack)).get? ea with
  | none=>rfl
  | some o =>
   have:=PySem.W.of_hideAll _ z
   rw[hx.new] at this
   cases this
 ·exact(PySem.W.funFrames_hide I.stack fun env he a ha=>List.mem_filterMap.mpr ⟨env,he,ha⟩).of_keeps fun b o hb _=>⟨o,hx.keeps b o hb,rfl⟩
 ·refine(I.hok b u e).stay (fun c v hc z=>PySem.W.hideAll_get _ z ?_) (fun _ z=>z) fun _ _ z=>z
  rcases hc with z | z
  ·rw[z];exact nfr b u e
  ·exact nfr c _ z
 ·exact PySem.W.hideAll_get _ (I.base.keep b o e n hb (nx b)) (I.AvH e hb)
 ·obtain⟨sl,e1⟩:=I.base.slot b o e (I.ok.frf b hb) hb (nx b)
  exact⟨sl,hx.keeps _ _ e1⟩
 ·obtain⟨o',e1⟩:=I.base.there b o e (nx b)
  exact⟨o',PySem.W.hideAll_get _ e1 (I.AvH e hb)⟩
theorem AuI{M:Model}{Q:Unit→Shared→Prop}{E':Value→Shared→Prop}{B:Heap}{ea C t:Addr}(hB:Body X)(hfr:X.A.frames=some X.stack)(x:Fly B X.stack X.env.locals ea C t s.heap)
  (k:∀ h',Fx B X.stack ea C t (rawInt X.env.locals) h'→s.heap.UpToSlots h'→Q () { s with heap:=h' }):wpAny M X.A (noteFrame (.ref ea) X.env) Q E' s:=by
 rw[hB.stack] at x hfr k
 cases x with
 | new st ne fr ob=>exact AwN hfr hB.frame st ne fr ob k
 | came x=>exact AyP hfr hB.frame x k
 | seen x=>exact AwO hB.frame x (k s.heap x (.refl _))
theorem Amc(hB:Body X){B h:Heap}(x:h.FunFrames B X.stack):h.FunFrames B X.outer:=by
 rw[hB.stack] at x
 exact x.2.2
theorem leaveX{M:Model}{E':Value→Shared→Prop}(hB:Body X)(hfr:X.A.frames=some X.stack)(c:FlX X E e s):wpAny M X.A (leaving X.env e) (fun _ s''=>CX1 X.prog X.w X.outer X.H₀ X.s₀ E e s'') E' s:=by
 obtain⟨ea,C,t,H',B,rfl,fx,os,bare,bk,q⟩:=c
 unfold leaving
 refine wpAny_bind (AuI hB hfr fx fun h1 x1 u1=>Aq0 (s:={ s with heap:=h1 }) x1 fun h2 x2 u2=>?_)
 have x3:=x2
 rw[hB.stack] at x3
 exact⟨ea,C,t,H',B,rfl,x3.outer,os,bare,bk.slots (Amc hB fx.fr) (u1.trans u2),q⟩
theorem A2k(hB:Body X)(hfr:X.A.frames=some X.stack):PassesOwn (model X.prog X.w) X.A X.env (FlX X E):=by
 rintro e s ⟨ea,C,t,H',B,rfl,fx,os,bare,bk,q⟩
 unfold notedBy
 refine AuI hB hfr fx fun h1 x1 u1=>?_
 obtain⟨T,oT,ts,hE,_⟩:=x1.ob
 unfold cameBackBy
 refine wpAny_bind (wpAny_field (s:={ s with heap:=h1 }) hE rfl (x:=.ref T) rfl ?_)
 rw[if_neg (by simp)]
 refine ApO (s:={ s with heap:=h1 }) (f:=X.env.frame) x1 fun h2 x2 u2=>?_
 rw[hB.frame] at x2
 exact⟨ea,C,t,H',B,rfl,.seen x2,os,bare,bk.slots (Amc hB fx.fr) (u1.trans u2),q⟩
end
open PySem PySem.Spec PyProof.Rows
def AvI (K:PySem.W.Frag)(C:Addr):List Value:=match K.lookup C with
 | some ⟨_,_,.cls cd,_⟩=>cd.mro
 | _=>[]
theorem Aq1{K:PySem.W.Frag}{h:Heap}{C:Addr}{bmB:List Value}{nid:String}(X:K.In h)(q:PySem.W.excIn K C bmB nid=true) :
  ∃ bm N nm qn bs hdct sn sub ab col dd k0 k1 k2 k3 k5 mN,AvI K C=.ref C::bm∧h.get? C=some (excClassObj nm qn C N bs bm hdct sn sub ab col dd k0 k1 k2 k3 k5 nid)∧h.Ns N mN∧mN "__init__" = none∧OwnTail h bmB bm:=by
 unfold PySem.W.excIn at q
 split at q
 next dd cd sl ho =>
  split at q
  next C' bm k0 k1 k2 k3 n k5 hm hs =>
   have hM:AvI K C=cd.mro:=by unfold AvI;rw[ho]
   simp only [A6q,beq_iff_eq,Bool.not_eq_true'] at q
   obtain⟨⟨⟨⟨⟨q1,q2⟩,hdel⟩,ht⟩,hok⟩,hni⟩:=q
   subst q1 q2
   have hsl:sl=#[k0,k1,k2,k3,some (.builtin n),k5]:=by rw[← hs]
   rw[hm] at hM
   cases cd
   dsimp only at hm hdel hok hni
   subst hm hdel hsl
   exact⟨bm,_,_,_,_,_,_,_,_,_,dd,k0,k1,k2,k3,k5,_,hM,X _ _ ho,.of_isNs (PySem.W.isNs_of_in X hok),PySem.W.nsMap_none_of_in X hok hni,PySem.W.tail_of_in X ht⟩
  next=>cases q
 next=>cases q
def A0w (C:Addr)(E:XK)(t:TA):TS:=fun _ σ H=>t σ H fun vs H1=>vs.length≤sizeLine∧E (.ref C) none H1
section
variable {X:Cx}{x:Str}{C:Addr}{bmB bmN:List Value}{B Bn nid A3Y iid A3Z:String}{E:XK}{e:Expr}{es:List Expr}{t:TA}{np cpos pos:Pos}
theorem Eu(hB:Body X)(hc:X.calm=true)(hw:∀ e s',FlX X E e s'→X.xe e s')(Fn:ExcBaseFacts Bn nid iid bmN)(hn:bmB.contains (.type Bn)=true)(FB:ExcBaseFacts B A3Y A3Z bmB)(q:PySem.W.excIn X.K C bmB nid=true)(hg:Gl X x)(hm:X.mg x=some (.ref C))(ha:PA X.nox (e::es) t)
  (hd:(x == ("__debug__" : Str))=false:=by decide) (he:starEach (e::es) X.env=(false,eval e X.env)::starEach es X.env:=by rfl) (hpl:(backTo cpos (starEach es X.env)).any (·.1)=false:=by rfl) :
  PS X (.Raise (some (.Call (.Name x np) (e::es) [] cpos)) none pos) (A0w C E t):=by
 intro pins s σ H D I h
 obtain⟨bm,N,nm,qn,bs,hdct,sn,sub,ab,col,dd,k0,k1,k2,k3,k5,mN,_,hC,hN,hni,T⟩:=Aq1 I.ok.mod.kin q
 refine wpAny_Raise_call_subU (N:=N) (C:=C) (k5:=k5) (k3:=k3) (k2:=k2) (k1:=k1) (k0:=k0) (dd:=dd) (col:=col) (ab:=ab) (sub:=sub) (sn:=sn) (hdct:=hdct) (bs:=bs) (q:=qn) (nm:=nm) (newId:=nid) Fn hn FB (mN:=mN) (T.hasType FB.hasBase) (I.ok.hd hc) (by rw[he];show(false || (backTo cpos (starEach es X.env)).any (·.1))=false;rw[hpl];rfl) hni (Ae9 I hg hm ⟨rfl,?_⟩ hd)
 have h1:=ha cpos pins s σ H _ (I.wish _) h
 rw[he] at h1 ⊢
 refine Calls.evalArgs_plain (wpAny_mono h1 (fun us s2 z=>?_) fun _ _ z=>z.elim)
 obtain⟨vs,H1,I1,r,hl,hE⟩:=z
 have I2:Inv X pins σ H1 s2:=I1.Ry
 exact⟨rfl,by rw[← r.length];exact hl,I2.bk _ _ hC,hN.keeps I2.bk,T.keeps I2.bk,fun h' ea hx=>hw _ _ (A2j hB I2 hx hE)⟩
end
abbrev cx1 (P:Program) (w:World) (K:PySem.W.Frag) (mg:Str→Option Value) (base:Heap) (N:List Str) (qual:Str) (scope:Scope) (f:Addr) (cd:Value) (A:Around) (outer:List Env) (s:Shared) (H:Hp) (E:XK):Cx :=
 (Aql (CX1 P w) P w K mg base N qual scope f cd A outer s H E).wish (FlX (Aql (CX1 P w) P w K mg base N qual scope f cd A outer s H E) E)
section
variable {P:Program}{w:World}{K:PySem.W.Frag}{mg:Str→Option Value}{base:Heap}
theorem Kv{N:List Str}{qual:Str}{scope:Scope}{f:Addr}{cd:Value}{A:Around}{outer:List Env}{s:Shared}{H:Hp}{E:XK}:Body (cx1 P w K mg base N qual scope f cd A outer s H E):=⟨rfl,rfl,rfl⟩
theorem Fun.okX{x qual:Str}{st:Stmt}{f:Addr}{fd:FuncData}{N ps:List Str}{k:Nat}{sp:Sp}(F:Fun K x qual st f fd)(S:Bg N ps (Ab st))(len:∀ vs H Q E,sp vs H Q E→vs.length=ps.length)
  (hbody:∀(cdv:Value) (A:Around) (outer:List Env) (s:Shared) (H:Hp) (vs:List V) (Q:VK) (E:XK),Rv k (A.deeper (envOfC qual (Ab st) s.heap.objs.size f cdv))→sp vs H Q E →
   ∃ t,PSs (cx1 P w K mg base N qual (Ab st) f cdv A outer s H E) (Ah st) t∧t { nx:=fun _ H'=>Q .non H',rt:=Q } (start N vs) H):Aq P w K mg base (CX1 P w) (k+1) f fd ps sp:=by
 obtain⟨oc,od,kV,doc,pm,an,cdv,ct,osl,rfl,lk,hcd⟩:=F.ex
 refine AzK lk hcd S len fun A outer s H vs Q E hr hsp=>?_
 obtain⟨t,h,q⟩:=hbody cdv A outer s H vs Q E hr hsp
 refine⟨t,fun pins s1 σ H1 D I h1=>?_,q⟩
 exact wpAny_mono (h pins s1 σ H1 D (I.wish _) h1) (fun _ _ z=>z.Ry) fun e s' z=>leaveX (X:=Aql (CX1 P w) P w K mg base N qual (Ab st) f cdv A outer s H E) ⟨rfl,rfl,rfl⟩ I.ok.frames z
theorem Ig{N:List Str}{qual:Str}{scope:Scope}{f:Addr}{cd:Value}{A:Around}{outer:List Env}{s:Shared}{H:Hp}{E:XK} :
  Passes (CX1 P w) (cx1 P w K mg base N qual scope f cd A outer s H E) E:=fun _ _ _ _ _ _ I c=>A2i ⟨rfl,rfl,rfl⟩ I.Ry c
end
theorem PS.nox{X:Cx}{st:Stmt}{t:TS}(h:PS X.nox st t):PS X st t:=fun pins s σ H D I hw =>
 wpAny_mono (h pins s σ H D (I.wish _) hw) (fun _ _ q=>q.Ry) fun _ _ z=>False.elim z
def PEX (X:Cx)(e:Expr)(t:XK→TE):Prop:=∀(pins:List (Addr × Obj)) (s:Shared) (σ:St) (H:Hp) (Q:VK) (E:XK),Inv X pins σ H s→t E σ H Q →
 wpAny (model X.prog X.w) X.A (eval e X.env) (EP X pins σ Q) (fun ex s'=>∃ H1 s1,Inv X pins σ H1 s1∧CX1 X.prog X.w X.stack H1 s1 E ex s') s
section
variable {X:Cx}{k:Nat}{f C:Addr}{fd:FuncData}{ps:List Str}{sp:Sp}{dvs:List V}{ds:List Value}{x m:Str}{p pos apos:Pos}{e o:Expr}{es:List Expr}{ta:TE}{t:TA}
theorem AyQ{pins:List (Addr × Obj)}{σ:St}{H:Hp}{s:Shared}{Q:VK}{E:XK}{us:List Value}{vs:List V}(F:Aq X.prog X.w X.K X.mg X.base (CX1 X.prog X.w) k f fd ps sp)(hr:Rv k X.A)(hb:Binds X.K fd ps ds)(hd:Vals dvs ds)
  (I:Inv X pins σ H s) (r:Vals vs us) (h:sp (vs++dvs) H Q E):wpAny (model X.prog X.w) X.A (call (.ref f) us) (EP X pins σ Q) (fun ex s'=>∃ H1 s1,Inv X pins σ H1 s1∧CX1 X.prog X.w X.stack H1 s1 E ex s') s:=by
 have r2:Vals (vs++dvs) (us++ds):=r.append hd
 have hl:(us++ds).length=ps.length:=(r2.length.symm).trans (F.len _ _ _ _ h)
 refine wpAny_call (codeAny_mono (F.run X.A X.stack s H ⟨us,[]⟩ (us++ds) (vs++dvs) Q E hr I.env0 (hb s us I.kIn hl) r2 h) fun rs s' hq=>?_)
 match rs,hq with
 | .error e,hq=>exact⟨H,s,I,hq⟩
 | .ok (.ret u),hq=>exact I.after hq
 | .ok .next,hq=>exact False.elim hq
 | .ok .brk,hq=>exact False.elim hq
 | .ok .cont,hq=>exact False.elim hq
theorem AwP(F:Aq X.prog X.w X.K X.mg X.base (CX1 X.prog X.w) k f fd ps sp)(hr:Rv k X.A)(hg:Gl X x)(hm:X.mg x=some (.ref f))(hk:PySem.W.keepIn X.K (.ref f)=true)(hb:Binds X.K fd ps ds)(hd:Vals dvs ds)
  (ha:PA X.nox (e::es) t) (hdb:(x == ("__debug__" : Str))=false:=by decide) (he:starEach (e::es) X.env=(false,eval e X.env)::starEach es X.env:=by rfl) (hpl:(backTo pos (starEach es X.env)).any (·.1)=false:=by rfl) :
  PEX X (.Call (.Name x p) (e::es) [] pos) fun E=>AzI sp dvs E t:=by
 intro pins s σ H Q E I h
 refine wpAny_Call_Name_kw (Ae9 I hg hm ?_ hdb)
 refine PySem.W.callWith_K (h₀:=X.base) I.ok.mod.kin hk (wpAny_mono (ha pos pins s σ H _ (I.wish _) h) (fun us s1 ⟨vs,H1,I1,r,q⟩=>⟨I1.kIn,?_⟩) fun _ _ z=>z.elim) he hpl
 exact AyQ F hr hb hd (I1.Ry) r q
end
open PySem PySem.Spec PyProof.Rows
def exH (C a:Addr):HO:=.ext fun h=>∃ t tb,h.get? a=some (exO C t tb)
theorem PQ.get{P:Program}{w:World}{H:Hp}{h:Heap}{a:Addr}{o:HO}(x:PQ P w H h a o):∃ u,h.get? a=some u:=by
 induction o with
 | lst xs=>obtain⟨_,_,_,_,e⟩:=x;exact⟨_,e⟩
 | tup xs=>obtain⟨_,_,_,_,e,_⟩:=x;exact⟨_,e⟩
 | dK kvs=>obtain⟨_,_,_,_,_,_,_,e,_⟩:=x;exact⟨_,e⟩
 | dT kvs=>obtain⟨_,_,_,_,_,_,_,e,_⟩:=x;exact⟨_,e⟩
 | set S n=>obtain⟨_,_,_,_,e,_⟩:=x;exact⟨_,e⟩
 | ins C dx fs=>obtain⟨_,_,_,e,_⟩:=x;exact⟨_,e⟩
 | own y=>obtain⟨_,e⟩:=x;exact⟨_,e⟩
 | xd fs=>obtain⟨_,⟨_,_,_,e,_⟩,_⟩:=x;exact⟨_,e⟩
 | rng lo hi=>obtain⟨_,_,_,e⟩:=x;exact⟨_,e⟩
 | frz ob u ih=>obtain⟨e,_⟩:=x;exact⟨_,e⟩
 | tbl ps=>exact⟨_,x⟩
 | met f y=>exact⟨_,x⟩
 | ext φ=>exact x.2.1
section
variable {X:Cx}{pins:List (Addr × Obj)}{σ:St}{H H':Hp}{s s':Shared}{B h2:Heap}{ea C t:Addr}{fl:Value}
theorem Bk.none{P:Program}{w:World}{outer:List Env}{h h':Heap}(k:Bk P w outer H h H' B h')(ne:B.get? ea=Option.none):H' ea=Option.none:=by
 cases q:H' ea with
 | none=>rfl
 | some o =>
  obtain⟨u,e⟩:=(k.ok ea o q).get
  rw[ne] at e
  cases e
theorem AuJ(I:Inv X pins σ H s)(os:s'.os=s.os)(bare:AllBare s'.gens)(bk:Bk X.prog X.w X.stack H s.heap H' B h2)(fx:Fx B X.stack ea C t fl h2) :
  Inv X pins σ (upd H' ea (exH C ea)) { s' with heap:=h2 }:=by
 have hn:=bk.none fx.ne
 obtain⟨T,oT,ts,hE,_⟩:=fx.ob
 have ne:∀ b o,s.heap.get? b=some o→b≠ea:=fun b o e z=>by
  by_cases hb:b∈frs X.stack
  ·obtain⟨_,o2,e2,n2⟩:=fx.fr.mem hb
   rw[z,hE] at e2
   cases e2
   exact n2 _ rfl
  ·obtain⟨o',e1⟩:=bk.there b o e hb
   rw[z,fx.ne] at e1
   cases e1
 have nt:∀ b u,H' b=some u→b≠ea:=fun b u e z=>by
  rw[z,hn] at e
  cases e
 obtain⟨hh,g,d,tk,os'⟩:=s'
 obtain rfl:os'=s.os:=os
 refine I.call (s:=s) (h':=h2) (g':=g) (d':=d) (t':=tk) (ch:=[]) ⟨fun b o e n hb _=>fx.st _ _ (bk.keep b o e n hb),fun b o e n hb _=>bk.slot b o e hb,fun b o e n _=>?_,fun b o e _=>?_,fun b xs e=>?_,fun b o u e=>?_,fun b ps e=>?_⟩ (fun b u e=>?_) bare (fun b z=>nomatch z)
 ·rw[Bd (ne b o e)]
  exact bk.free b o e n
 ·by_cases hb:b∈frs X.stack
  ·obtain⟨sl,e1⟩:=bk.slot b o e hb
   exact⟨_,e1⟩
  ·obtain⟨o',e1⟩:=bk.there b o e hb
   exact⟨o',fx.st _ _ e1⟩
 ·have e1:=bk.tups b xs e
  rw[Bd (nt _ _ e1)]
  exact e1
 ·have e1:=bk.Vk b o u e
  rw[Bd (nt _ _ e1)]
  exact e1
 ·obtain⟨m1,e1⟩:=bk.Wt b ps e
  exact⟨m1,by rw[Bd (nt _ _ e1)];exact e1⟩
 ·by_cases hb:b=ea
  ·subst hb
   rw[Ad] at e
   cases e
   exact⟨⟨t,_,hE⟩,⟨_,hE⟩,fun h1 h3 ⟨t',tb',q⟩ k=>⟨t',tb',k _ q⟩⟩
  ·rw[Bd hb] at e
   refine(bk.ok b u e).stay (fun c v _ q=>fx.st _ _ q) (fun c q=>?_) fun c xs q=>?_
   ·rw[Bd (nt _ _ q)];exact q
   ·rw[Bd (nt _ _ q)];exact q
abbrev Cx.hdl (X:Cx) (e:Addr):Cx:={ X with A:=X.A.mark (some (.ref e)),calm:=false,xe:=fun _ _=>False }
theorem Inv.hdl(I:Inv X pins σ H s)(e:Addr):Inv (X.hdl e) pins σ H s :=
 ⟨⟨I.ok.mod,I.ok.kind,I.ok.glob,I.ok.blt,I.ok.above,I.ok.inj,I.ok.has,I.ok.cab,(fun z=>nomatch z),I.ok.frames,I.ok.stk,I.ok.exf,I.ok.bs,I.ok.bsz,I.ok.AoM,I.ok.Amo,I.ok.Afg,I.ok.frf⟩,I.os,I.bare,I.base,I.loc,I.cell,I.free,I.V8,I.pin,I.hok,I.len⟩
theorem Inv.A2l{e:Addr}(hd:X.calm=true→X.A.handled=none)(I:Inv (X.hdl e) pins σ H s):Inv X pins σ H s :=
 ⟨⟨I.ok.mod,I.ok.kind,I.ok.glob,I.ok.blt,I.ok.above,I.ok.inj,I.ok.has,I.ok.cab,hd,I.ok.frames,I.ok.stk,I.ok.exf,I.ok.bs,I.ok.bsz,I.ok.AoM,I.ok.Amo,I.ok.Afg,I.ok.frf⟩,I.os,I.bare,I.base,I.loc,I.cell,I.free,I.V8,I.pin,I.hok,I.len⟩
theorem Inv.forget{n:Str}{j:Nat}{m:Str→Option Value}{v:Option Value}{tk:Nat}{h':Heap}(I:Inv X pins σ H s)(hN:X.N.Nodup)(hj:X.N[j]?=some n)(hn:s.heap.Ns X.env.locals m)
  (hm:∀(i:Nat) (x:Str) (v:V),X.N[i]?=some x→σ[i]?=some (some v)→Vis X.env.scope x→∃ u,RelV v u∧Look X.env s.heap m x u) (hn':h'.Ns X.env.locals (fun x=>if x=n then v else m x)) (hs:Heap.SameBut X.env.locals s.heap h') :
  Inv X pins (σ.set j none) H { s with heap:=h',toks:=tk }:=by
 obtain⟨oL,_,_,hoL,_⟩:=id hn
 have neL:∀ b o,X.s₀.heap.get? b=some o→b≠X.env.locals:=fun b o e=>A5M (A5O (Heap.lt_size e) I.ok.above)
 refine⟨I.ok,I.os,I.bare,⟨fun b o e n hb hx=>?_,fun b o e n hb hx=>?_,I.base.free,fun b o e hx=>?_,I.base.tups,I.base.Vk,I.base.Wt⟩,⟨_,hn',fun i y w e1 e2 e3=>?_⟩,fun y c e=>?_,I.free,I.V8,fun p hp=>?_,fun b u e=>?_,by rw[List.length_set];exact I.len⟩
 ·exact(hs.2 b (neL b o e)).trans (I.base.keep b o e n hb hx)
 ·obtain⟨sl,e1⟩:=I.base.slot b o e n hb hx
  exact⟨sl,(hs.2 b (neL b o e)).trans e1⟩
 ·obtain⟨o',e1⟩:=I.base.there b o e hx
  exact⟨o',(hs.2 b (neL b o e)).trans e1⟩
 ·by_cases hij:i=j
  ·subst hij
   rw[List.getElem?_set] at e2
   split at e2
   ·split at e2 <;> cases e2
   ·exact absurd rfl ‹_›
  ·rw[A7j (Ne.symm hij)] at e2
   obtain⟨u,r,l⟩:=hm i y w e1 e2 e3
   refine⟨u,r,?_⟩
   rcases l with ⟨k,z⟩ | ⟨k,c,z,y'⟩
   ·have:y≠n:=fun q=>hij (Amq hN e1 (q▸hj))
    exact .inl ⟨k,by simp[this,z]⟩
   ·exact .inr ⟨k,c,z,y'.sameBut hs (I.cne y c z)⟩
 ·obtain⟨v',z⟩:=I.cell y c e
  exact⟨v',z.sameBut hs (I.cne y c e)⟩
 ·obtain⟨e,n1,n2,nf,d⟩:=I.pin p hp
  exact⟨(hs.2 p.1 n2).trans e,n1,n2,nf,d⟩
 ·refine(I.hok b u e).stay (fun c w' hc q=>(hs.2 c ?_).trans q) (fun _ q=>q) fun _ _ q=>q
  rintro rfl
  rcases hc with z | z
  ·rw[← z,I.free] at e;cases e
  ·rw[I.free] at z;cases z
end
open PySem PySem.Spec PyProof.Rows
section
variable {M:Model}{A:Around}{E:Value→Shared→Prop}{h:Heap}{g:Array GenState}{d:Drawn}{t:Nat}{os:OsState}
theorem Asb{K:PySem.W.Frag}{C D e:Addr}{bC bD:List Value}{nC nD:String}{oe:Obj}{Q:Bool→Shared→Prop}(X:K.In h)(qC:PySem.W.excIn K C bC nC=true)(qD:PySem.W.excIn K D bD nD=true)
  (hb:bD.contains (.type "BaseException")=true) (he:h.get? e=some oe) (hc:oe.cls=.ref C) (hq:Q ((AvI K C).contains (.ref D)) ⟨h,g,d,t,os⟩):wpAny M A (excMatches (.ref e) (.ref D)) Q E ⟨h,g,d,t,os⟩:=by
 obtain⟨bm1,_,_,_,_,_,_,_,_,_,_,_,_,_,_,_,_,e1,hC,_,_,T1⟩:=Aq1 X qC
 obtain⟨bm2,_,_,_,_,_,_,_,_,_,_,_,_,_,_,_,_,_,hD,_,_,T2⟩:=Aq1 X qD
 have hcB:(Value.ref D::bm2).contains (.type "BaseException")=true:=by rw[List.contains_cons,T2.hasType hb,Bool.or_true]
 have f:=tc_notTuple
 rw[e1] at hq
 unfold excMatches
 repeat (first | (with_reducible refine wpAny_loadPart_at he ?_;rw[hc]) | with_reducible refine wpAny_loadPart_at hD ?_ | (with_reducible refine wpAny_isSubtype_exc hD ?_;rw[hcB]) | with_reducible refine wpAny_isSubtype_exc hC ?_ | wp_step)
 all_goals (revert hq;cases (Value.ref C::bm1).contains (Value.ref D) <;> intro hq)
 all_goals (repeat (first | exact hq | wp_step))
end
abbrev WX (X:Cx) (pins:List (Addr × Obj)) (σ:St) (E:XK):Value→Shared→Prop:=fun ex s'=>∃ H1 s1,Inv X pins σ H1 s1∧CX1 X.prog X.w X.stack H1 s1 E ex s'
def PSX (X:Cx)(st:Stmt)(t:XK→TS):Prop:=∀(pins:List (Addr × Obj)) (s:Shared) (σ:St) (H:Hp) (D:Ends) (E:XK),Inv X pins σ H s→t E D σ H→wpAny (model X.prog X.w) X.A (exec st X.env) (SP X pins D) (WX X pins σ E) s
def A0x (X:Cx)(st:List Stmt)(t:XK→TS):Prop:=∀(pins:List (Addr × Obj)) (s:Shared) (σ:St) (H:Hp) (D:Ends) (E:XK),Inv X pins σ H s→t E D σ H→wpAny (model X.prog X.w) X.A (execs st X.env) (SP X pins D) (WX X pins σ E) s
section
variable {X:Cx}{e:Expr}{t u:XK→TS}{te:XK→TE}{pos:Pos}{st:Stmt}
theorem AwQ(h:PSX X st t):A0x X [st] t:=by
 intro pins s σ H D E I h1
 refine wpAny_execs_cons (thn (h pins s σ H D E I h1) fun f s1 q=>?_)
 match f,q with
 | .next,q=>exact wpAny_execs_nil q
 | .brk,q=>exact q
 | .cont,q=>exact q
 | .ret u,q=>exact q
theorem AyR{i:Nat}{x:Str}{pos':Pos}(hN:X.N.Nodup)(hi:X.N[i]?=some x)(hx:Loc X.env.scope x)(he:PEX X e te)(hs:swapsWith e (some (.Name x pos')) pos.line X.env=pure false:=by rfl)
  (hf:X.fn x=true∨X.env.scope.names.lookup x=some .local:=by first | exact .inl rfl | exact .inr rfl | assumption):PSX X (.Assign [.Name x pos'] e pos) fun E=>Atn (te E) (XS i):=by
 intro pins s σ H D E I h
 refine wpAny_Assign_Name (thn (he pins s σ H _ E I h) fun v s1 ⟨y,H1,I1,r1,q1⟩=>?_) hs
 exact Ah1 I1 hN hi hx r1 (fun s2 I2=>⟨_,H1,I2,q1⟩) hf
abbrev Ends.un (D:Ends) (j:Nat):Ends:={ nx:=fun σ H=>D.nx (σ.set j none) H,rt:=D.rt,bk:=fun σ H=>D.bk (σ.set j none) H,ct:=fun σ H=>D.ct (σ.set j none) H }
def Sub (K:PySem.W.Frag)(C D:Addr):Prop:=(∃ bm nid,PySem.W.excIn K C bm nid=true)∧(AvI K C).contains (.ref D)=true
def A4a (K:PySem.W.Frag)(Ch:Addr)(j:Nat)(t:XK→TS)(ts:TS):TS:=fun D σ H=>t (fun c _ H'=>∃ C,c=.ref C∧Sub K C Ch∧∀ ea,H' ea=none→ts (D.un j) (σ.set j (some (.ref ea))) (upd H' ea (exH C ea))) D σ H
theorem A0y{body suite:List Stmt}{b₀:Stmt}{ts:TS}{n x:Str}{j:Nat}{Ch:Addr}{bmB:List Value}{nid:String}{np hpos:Pos}(hB:Body X)(hc:X.calm=true)(hb:A0x X body t)(hN:X.N.Nodup)(hj:X.N[j]?=some n)
  (hn:X.env.scope.names.lookup n=some .local) (hg:Gl X x) (hm:X.mg x=some (.ref Ch)) (hq:PySem.W.excIn X.K Ch bmB nid=true) (hbs:bmB.contains (.type "BaseException")=true) (hs:∀ ea,PSs (X.hdl ea) (b₀::suite) ts)
  (hd:(x == ("__debug__" : Str))=false:=by decide) :
  PS X (.Try body [.ExceptHandler (some (.Name x np)) (some n) (b₀::suite) hpos] [] [] pos) (A4a X.K Ch j t ts):=by
 intro pins s σ H D I h
 refine wpAny_Try_except (wpAny_mono (hb pins s σ H D _ I h) (fun f s1 q=>?_) fun ex s1 z=>?_)
 ·match f,q with
  | .next,q=>exact wpAny_execs_nil q
  | .brk,q=>exact q
  | .cont,q=>exact q
  | .ret u,q=>exact q
 ·obtain⟨H1,s0,I0,ea,C,t0,H',B,rfl,fx,os,bare,bk,C',eC,⟨⟨bC,nC,qC⟩,sub⟩,ht⟩:=z
  obtain rfl:C=C':=by cases eC;rfl
  refine AuI hB I.ok.frames (.came fx) fun h1 x1 u1=>Aq0 (s:={ s1 with heap:=h1 }) x1 fun h2 x2 u2=>?_
  have bk2:=(bk.slots fx.fr u1).slots x1.fr u2
  have I2:Inv X pins σ (upd H' ea (exH C ea)) { s1 with heap:=h2 }:=AuJ I0 os bare bk2 x2
  refine wpAny_handleBy_cons (codeAny_handlers_test (Ae9 (X:=X.hdl ea) (I2.hdl ea) hg hm ?_ hd)) (by intro q;cases q)
  obtain⟨T,oT,tt,hE,_⟩:=x2.ob
  refine Asb I2.kIn qC hq hbs hE rfl ?_
  rw[sub]
  refine codeAny_handlers_suite_as ?_
  refine Aq0 (s:={ s1 with heap:=h2 }) x2 fun h3 x3 u3=>?_
  have I3:Inv X pins σ (upd H' ea (exH C ea)) { s1 with heap:=h3 }:=AuJ I0 os bare (bk2.slots x2.fr u3) x3
  refine Ah1 (X:=X.hdl ea) (I3.hdl ea) hN hj (.inl hn) (v:=.ref ea) rfl (fun s4 I4=>?_) (.inr hn)
  refine wpAny_mono (hs ea pins s4 _ _ _ I4 (ht ea (bk.none fx.ne))) (fun f s5 q=>?_) fun _ _ z=>z.elim
  have go:∀{σ':St} {H5:Hp} {Q:Unit→Shared→Prop},Inv (X.hdl ea) pins σ' H5 s5→(∀ s6,Inv X pins (σ'.set j none) H5 s6→Q () s6)→wpAny (model X.prog X.w) X.A (do bindName X.env n .none;unbindBehindTheSuite X.env n hpos) Q X.xe s5:=fun {σ' H5 Q} J k=>by
   have J':Inv X pins σ' H5 s5:=J.A2l I.ok.hd
   obtain⟨m,hns,hl⟩:=id J'.loc
   refine wpAny_nameGoes_keeps hn hns (by rw[I.ok.kind];rfl) fun h6 v hn6 hs6=>k _ ?_
   exact J'.forget hN hj hns hl hn6 hs6
  match f,q with
  | .next,⟨σ',H5,J,q⟩=>exact go J fun s6 J6=>⟨_,H5,J6,q⟩
  | .brk,⟨σ',H5,J,q⟩=>exact go J fun s6 J6=>⟨_,H5,J6,q⟩
  | .cont,⟨σ',H5,J,q⟩=>exact go J fun s6 J6=>⟨_,H5,J6,q⟩
  | .ret u,⟨v,σ',H5,J,r,q⟩=>exact go J fun s6 J6=>⟨v,_,H5,J6,r,q⟩
end
open PySem PySem.Spec PyProof.Rows
structure ExC (K:PySem.W.Frag) (C:Addr):Prop where
 ga:PySem.W.findIn K (.ref C) "__getattribute__" = some (some (.builtin "BaseException.__getattribute__"))
 gt:PySem.W.findIn K (.ref C) "__getattr__" = some none
 cl:PySem.W.findIn K (.ref C) "__class__" = some (some (.builtin "object.__class__"))
 gc:PySem.W.specialIn K (.builtin "object.__class__") "__get__" = some (some (.builtin "getset_descriptor.__get__"))
 tk:PySem.W.takesIn K (.builtin "object.__class__")=some true
 ob:PySem.W.mroIn K C (.type "object")=some true
 be:PySem.W.mroIn K C (.type "BaseException")=some true
 is:(PySem.W.clsIn K C).isSome=true
section
variable {prog:Program}{w:World}{A:Around}{E:Value→Shared→Prop}{s:Shared}{K:PySem.W.Frag}{x C t:Addr}{tb:Value}
theorem AuK{h:Heap}(hx:h.get? x=some (exO C t tb)):PySem.W.InstAt h x (exO C t tb) C none:=⟨hx,rfl,rfl,True.intro⟩
theorem AwR{Q:Option Value→Shared→Prop}(X:K.In s.heap)(hx:s.heap.get? x=some (exO C t tb))(c:ExC K C)(h:Q (some (.ref C)) { s with toks:=s.toks+1 }):wpAny (model prog w) A (getAttr? (.ref x) "__class__") Q E s:=by
 have I:=AuK hx
 obtain⟨hh,g,d,tk,os⟩:=s
 have L0:PySem.W.Looks (model prog w) hh (typeOf (.ref x)) (.ref C):=I.type
 have L1:=PySem.W.looks_findIn (M:=model prog w) X c.ga
 have L2:=PySem.W.looks_findIn (M:=model prog w) X c.gt
 have hfo:PySem.W.findObj K C none "__class__" = some (.bind (.builtin "getset_descriptor.__get__") (.builtin "object.__class__")):=by
  obtain⟨cd,hc⟩:=Option.isSome_iff_exists.mp c.is
  unfold PySem.W.findObj
  rw[hc,Option.bind_some,c.cl,Option.bind_some]
  simp[c.gc,c.tk]
 have L3:=PySem.W.looks_find (M:=model prog w) X I hfo
 have L4:PySem.W.Looks (model prog w) hh (isInstance (.ref x) (.type "BaseException")) true:=L0.andThen (PySem.W.looks_mroIn X c.be)
 have f3:=F.excAttr_ValueError.ga.bind (.ref x)
 unfold getAttr? getAttrBy? getAttrBy
 refine wpAny_bind (wpAny_mkText (wpAny_bind (wpAny_attempt (wpAny_holding (wpAny_bind (L0.at (wpAny_bind (L1.at ?_))))))))
 show wpAny _ _ (getAttrByItsOwn _ _ _ _ _ _) _ _ _
 unfold getAttrByItsOwn hookBefore
 rw[if_pos (show onTheHeap (Value.ref C)=true from rfl)]
 refine wpAny_bind (L2.at (wpAny_bind (wpAny_attempt (wpAny_holding ?_))))
 unfold callGetattribute
 rw[if_neg (show ¬((false && onTheHeap (Value.builtin "BaseException.__getattribute__"))=true) by simp)]
 unfold boundAndCalled
 rw[f3]
 refine wpAny_bind (wpAny_pure (wpAny_call (codeAny_call_builtin F.excAttr_ValueError.ga.plain F.entry_bexc_ga ?_)))
 have hk:builtinKind "BaseException.__getattribute__" = some .slot:=by decide +kernel
 have hsp:splitId "BaseException.__getattribute__" = some ("BaseException", "__getattribute__"):=by decide +kernel
 have ha:=F.args_bexc_ga (.ref x) (.str "__class__" tk)
 simp only [checkBuiltinCall,hk,hsp]
 refine wpAny_bind (L4.at ?_)
 repeat (first | (with_reducible refine wpAny_bind (L0.at (wpAny_bind (L3.at ?_)))) | wp_step)
 refine PySem.W.class_get (s:=⟨hh,g,d,tk+1,os⟩) (ox:=exO C t tb) (od:=none) X I c.ob ?_
 exact wpAny_pure (PySem.W.handed_on rfl (wpAny_pure h))
theorem Asc(c:ExC K C):PySem.W.KitX K (.ref x) (.ref C) (fun h=>∃ t tb,h.get? x=some (exO C t tb)) where
 ty:=fun M h _ ⟨t,tb,e⟩=>(AuK e).type
 it:=fun M h X _=>by
  obtain⟨cd,hc⟩:=Option.isSome_iff_exists.mp c.is
  unfold PySem.W.clsIn at hc
  split at hc
  next ho =>
   intro A' Q' E' s' k q
   unfold isType loadHead
   exact wpAny_bind (wpAny_loadPart (k _ _ (X _ _ ho)) (wpAny_pure q))
  next=>cases hc
 ne:=fun h tp dd its n sl X htp=>by
  obtain⟨cd,hc⟩:=Option.isSome_iff_exists.mp c.is
  refine Bool.eq_false_iff.mpr fun q=>?_
  have e:C=tp:=Value.ref.inj (beq_iff_eq.mp q)
  subst e
  unfold PySem.W.clsIn at hc
  split at hc
  next ho=>cases (X _ _ ho).symm.trans htp
  next=>cases hc
 ca:=fun X ⟨t,tb,e⟩ k=>AwR X e c k
end
def A4b (K:PySem.W.Frag):List V→Hp→VK→Prop:=fun vs H Q=>∃ a C b,H a=some (exH C a)∧ExC K C ∧
 ((∃ n,vs=[.ref a,.ty n]∧PySem.W.kitOne K (.ref C) (.type n)=some b)∨(∃ D,vs=[.ref a,.ref D]∧PySem.W.kitOne K (.ref C) (.ref D)=some b))∧Q (.bl b) H
section
variable {X:Cx}{K:PySem.W.Frag}
theorem AzM{pins:List (Addr × Obj)}{σ:St}{H:Hp}{s:Shared}{a C:Addr}(I:Inv X pins σ H s)(e:H a=some (exH C a)):∃ t tb,s.heap.get? a=some (exO C t tb):=(I.hok a _ e).1
theorem Aa4(hK:X.K=K:=by rfl):V9 X (.builtin "isinstance") (A4b K):=by
 subst hK
 intro pins s σ H xs us Q I rv h
 obtain⟨a,C,b,ea,c,hv,q⟩:=h
 rcases hv with ⟨n,rfl,e⟩ | ⟨D,rfl,e⟩
 ·obtain⟨u1,u2,rfl,r1,r2⟩:=rv.two
  cases r1
  cases r2
  exact PySem.W.kia_one (Asc c) I.kIn (AzM I ea) e (fun z=>nomatch z) fun tk=>⟨.bl b,H,I.tok _,rfl,q⟩
 ·obtain⟨u1,u2,rfl,r1,r2⟩:=rv.two
  cases r1
  cases r2
  exact PySem.W.kia_one (Asc c) I.kIn (AzM I ea) e (fun z=>nomatch z) fun tk=>⟨.bl b,H,I.tok _,rfl,q⟩
variable {CX:CXT}{k:Nat}{ps:List Str}{sp:Addr→Sp}{E:XK}{m:Str}{pos apos:Pos}{o:Expr}{ta:TE}
def A4c (K:PySem.W.Frag)(m:Str)(sp:Addr→Sp)(E:XK)(ta:TE):TE:=fun σ H Q=>ta σ H fun x H1=>∃ a C,x=.ref a∧H1 a=some (exH C a)∧sp C [x] H1 Q E
end
open PySem PySem.Spec PyProof.Rows
abbrev vE:List Value:=[.type "ValueError", .type "Exception", .type "BaseException", .type "object"]
abbrev vN:String := "ValueError.__new__"
structure Exn (K:PySem.W.Frag) (C:Addr):Prop where
 q:PySem.W.excIn K C vE vN=true
 c:ExC K C
 ty:PySem.W.typeIn K (.ref C)=some (.type "type")
 ve:PySem.W.mroIn K C (.type "ValueError")=some true
theorem Agr{K:PySem.W.Frag}{C:Addr}(q:PySem.W.excIn K C vE vN=true)(ga:PySem.W.findIn K (.ref C) "__getattribute__" = some (some (.builtin "BaseException.__getattribute__"))) (gt:PySem.W.findIn K (.ref C) "__getattr__" = some none)
  (cl:PySem.W.findIn K (.ref C) "__class__" = some (some (.builtin "object.__class__"))) (gc:PySem.W.specialIn K (.builtin "object.__class__") "__get__" = some (some (.builtin "getset_descriptor.__get__"))) (tk:PySem.W.takesIn K (.builtin "object.__class__")=some true)
  (ob:PySem.W.mroIn K C (.type "object")=some true) (be:PySem.W.mroIn K C (.type "BaseException")=some true) (is:PySem.W.isClsIn K C=true) (ty:PySem.W.typeIn K (.ref C)=some (.type "type")) (ve:PySem.W.mroIn K C (.type "ValueError")=some true):Exn K C :=
 ⟨q,⟨ga,gt,cl,gc,tk,ob,be,is⟩,ty,ve⟩
theorem AwS:vE.contains (.type "BaseException")=true:=by decide
theorem Jc:vE.contains (.type "ValueError")=true:=by decide
theorem Exn.sub{K:PySem.W.Frag}{C D:Addr}(x:Exn K C)(r:PySem.W.mroIn K C (.ref D)=some true):Sub K C D:=by
 refine⟨⟨_,_,x.q⟩,?_⟩
 obtain⟨cd,h1,h2⟩:=Option.bind_eq_some_iff.mp r
 unfold PySem.W.clsIn at h1
 unfold AvI
 split at h1
 next c d cd' sl ho =>
  cases h1
  rw[ho]
  split at h2
  ·cases h2
  ·exact Option.some.inj h2
 next=>cases h1
theorem AeE{K:PySem.W.Frag}{C D:Addr}{b:Bool}(hC:PySem.W.mroIn K C (.ref C)=some true)(x:Exn K D)(r:PySem.W.mroIn K C (.ref D)=some b):PySem.W.kitOne K (.ref C) (.ref D)=some b:=by
 unfold PySem.W.kitOne
 by_cases q:(Value.ref C == Value.ref D)=true
 ·rw[if_pos q]
  have e:C=D:=Value.ref.inj (beq_iff_eq.mp q)
  subst e
  rw[hC] at r
  exact r
 ·rw[if_neg q]
  unfold PySem.W.kitCls
  have h:((PySem.W.clsIn K D).isSome && PySem.W.typeIn K (.ref D) == some (.type "type"))=true:=by rw[x.c.is,x.ty];rfl
  show(if _ then _ else _)=_
  rw[if_pos h]
  exact r
section
variable {X:Cx}{CX:CXT}{k:Nat}{C f:Addr}{fd:FuncData}{ps:List Str}{sp:Sp}{E:XK}{m:Str}{pos apos:Pos}{o:Expr}{ta:TE}
def A4d (C:Addr)(sp:Sp)(E:XK)(ta:TE):TE:=fun σ H Q=>ta σ H fun x H1=>∃ a,x=.ref a∧H1 a=some (exH C a)∧sp [x] H1 Q E
end
def Gk (s:Stmt):List Stmt:=match s with
 | .ClassDef _ _ _ b _ _ _ _ _ _ _=>b
 | _=>[]
structure Mf (K:PySem.W.Frag) (x q:Str) (st:Stmt) (ps:List Str) (C f:Addr) (fd:FuncData):Prop where
 F:Fun K x q st f fd
 m:Meth K C x f
 b:Binds K fd ps []
open PySem PySem.Spec PyProof.Rows
open Builtin Builtin.Str
def Ags (u:List Nat)(lo hi:Option Int):List Nat:=(u.drop (HT.sIx u.length 0 lo)).take (HT.sIx u.length u.length hi-HT.sIx u.length 0 lo)
theorem A0z(a b:Nat):sliceRange (a:Int) (b:Int) 1=(List.range (b-a)).map fun k=>a+k:=by
 unfold sliceRange
 simp only [show(1:Int)>0 by decide,if_true]
 by_cases h:(a:Int)<(b:Int)
 ·rw[if_pos h,Int.ediv_one,show(b:Int)-(a:Int)+1-1=((b-a:Nat):Int) by omega,A5Z]
  exact List.map_congr_left fun k _=>by omega
 ·rw[if_neg h,show b-a=0 by omega]
  rfl
theorem AeF(n d:Nat)(i:Int):max 0 (min (if i<0 then i+(n:Int) else i) (n:Int))=(HT.sIx n d (some i):Int):=by
 show _=(((if i<0 then (i+(n:Int)).toNat else min i.toNat n):Nat):Int)
 by_cases h:i<0
 ·rw[if_pos h,if_pos h];omega
 ·rw[if_neg h,if_neg h];omega
theorem idx_eq(n:Nat)(lo hi:Option Int):strSliceIndices lo hi 1 n=(List.range (HT.sIx n n hi-HT.sIx n 0 lo)).map fun k=>HT.sIx n 0 lo+k:=by
 rw[← A0z]
 cases lo with
 | none =>
  cases hi with
  | none=>rfl
  | some j=>rw[← AeF];rfl
 | some i =>
  cases hi with
  | none=>rw[← AeF n 0 i];rfl
  | some j=>rw[← AeF n 0 i,← AeF n n j];rfl
theorem AwT(u:List Nat)(lo hi:Option Int):Txt.slice (tx u) lo hi=tx (Ags u lo hi):=by
 unfold Txt.slice Ags
 rw[Ao,idx_eq]
 have hle:HT.sIx u.length u.length hi≤u.length:=HT.A0n _ _ (A5K _) _
 have key:∀(a k:Nat),a+k≤u.length→((List.range k).map fun j=>a+j).filterMap (fun i=>(tx u).cps[i]?)=(u.drop a).take k:=by
  intro a k
  induction k with
  | zero=>intro _;simp
  | succ k ih =>
   intro h
   rw[A6H,A5Y,List.filterMap_append,ih (by omega)]
   have:a+k<u.length:=by omega
   simp only [A5P,A6s,A6u,List.filterMap_nil,Am5,A5L this]
   rw[List.take_succ,A7m,A5L this]
   rfl
 split
 next h =>
  simp only [A5I,A6f,A6q,beq_iff_eq] at h
  have h2:=h.2
  have:HT.sIx u.length 0 lo=0∨u.length=0:=by omega
  rcases this with e | e
  ·rw[e,A7d,A6w (by omega)]
  ·rw[A7o e];simp
 next h =>
  by_cases hlt:HT.sIx u.length 0 lo≤HT.sIx u.length u.length hi
  ·show(Str.mk _)=_
   rw[key _ _ (by omega)]
   rfl
  ·have e:HT.sIx u.length u.length hi-HT.sIx u.length 0 lo=0:=by omega
   rw[e]
   simp[tx]
theorem AmC{u:List Nat}{k:Nat}(h:k≤u.length):Ags u none (some (k:Int))=u.take k:=by
 unfold Ags
 rw[HT.Amx,HT.Ah4,A7d,A6N h,Nat.sub_zero]
section
variable {X:Cx}
theorem ZJ:SlR X (fun x lo hi H Q=>∃ u:List Nat,x=.str (tx u)∧u.length≤sizeLine∧Q (.str (tx (Ags u lo hi))) H):=by
 intro pins s σ H x v vl vu lo hi sl Q I rx hs pl pu h
 obtain⟨u,rfl,hz,q⟩:=h
 obtain⟨t,rfl⟩:=rx
 rw[← AwT] at q
 refine⟨"str", _,F.slot_str_getitem.lookup,typeIs_str _ _ _,?_⟩
 have hsz:(tx u).length≤sizeLine:=by rw[Ao];exact hz
 obtain⟨os,hos,hcs,hds⟩:=id hs
 have fin:∀(l u':Option (Int × Tok)),s.heap.IsSlice sl l u' none→Q (.str (Txt.slice (tx u) (l.map (·.1)) (u'.map (·.1)))) H→wpAny (model X.prog X.w) X.A (getItem (.str (tx u) t) (.ref sl)) (EP X pins σ Q) X.xe s:=fun l u' z q' =>
  wpAny_getItem_str_slice z rfl (post_val_or_str ⟨A5X (Txt.slice_le (tx u) _ _) hsz,fun t' k=>⟨.str _,H,I.tok _,⟨t',rfl⟩,q'⟩⟩)
 cases pl with
 | none=>cases pu with
  | none=>exact fin none none ⟨os,hos,hcs,hds⟩ q
  | int j tj=>exact fin none (some (j,tj)) ⟨os,hos,hcs,hds⟩ q
 | int i ti=>cases pu with
  | none=>exact fin (some (i,ti)) none ⟨os,hos,hcs,hds⟩ q
  | int j tj=>exact fin (some (i,ti)) (some (j,tj)) ⟨os,hos,hcs,hds⟩ q
end
open PySem PySem.Spec PyProof.Rows
theorem Asd:∀(xs:List V) (us:List Value),xs.length=us.length→(∀(i:Nat) x u,xs[i]?=some x→us[i]?=some u→RelV x u)→Vals xs us
 | [],[],_,_=>.nil
 | [],_::_,h,_=>by simp at h
 | _::_,[],h,_=>by simp at h
 | x::xs,u::us,h,p=>.cons (p 0 x u rfl rfl) (Asd xs us (by simpa using h) fun i y v e1 e2=>p (i+1) y v e1 e2)
def A5n (p:Addr)(a b c:Int):HO:=.ext fun h=>∃ t u v,IsRange h p a b c t u v
def A2m (a c:Int)(n:Nat):List Int:=(List.range n).map fun(i:Nat)=>a+(i:Int)*c
section
variable {X:Cx}{K:PySem.W.Frag}
theorem AvJ:V9 X (.type "int") (fun xs H Q=>∃ z n,xs=[.str z]∧PySem.intText? z=some n∧z.length≤640∧Q (.int n) H):=by
 intro pins s σ H xs us Q I rv h
 obtain⟨z,n,rfl,hn,hl,q⟩:=h
 obtain⟨u,rfl,t,rfl⟩:=rv.one
 exact PySem.W.KIN.call_text hn hl ⟨.int n,H,I.tok _,⟨_,rfl⟩,q⟩
end
open PySem PySem.Spec PyProof.Rows
section
variable {X:Cx}{K:PySem.W.Frag}{o e value:Expr}{f:Str}{pos pos' tpos:Pos}{ta tv:TE}{st:Stmt}{t:TS}
theorem Mx(he:PE X e ta)(hb:attributeBase e f X.env (eval e X.env)=eval e X.env)(hK:X.K=K:=by rfl):PE X (.Attribute e f pos) (A1T K ta f):=by subst hK;exact A0j he hb
theorem Ah8(ha:PE X o ta)(hv:PE X value tv)(hs:swapsWith value (some (.Attribute o f pos')) pos.line X.env=pure false:=by rfl)(hK:X.K=K:=by rfl):PS X (.Assign [.Attribute o f pos'] value pos) (A1U K ta tv f):=by subst hK;exact A0k ha hv hs
theorem At2{op:Operator}{rd:V→V→Hp→VK→Prop}(ha:PE X o ta)(hv:PE X value tv)(hop:A0i X op rd)(hK:X.K=K:=by rfl):PS X (.AugAssign (.Attribute o f tpos) op value pos) (AuF K ta tv rd f):=by subst hK;exact Av3 ha hv hop
theorem AzN(h:X.A.frames=some X.stack→PS X st t):PS X st t:=fun pins s σ H D I hw=>h I.ok.frames pins s σ H D I hw
end
structure Own (K:PySem.W.Frag) (C f:Addr):Prop where
 c:Cls K C
 m:Mk K C f
theorem Ra{K:PySem.W.Frag}{C f:Addr}(h1:PySem.W.plainGet K C Str.empty=true)(h2:PySem.W.hasDictIn K C=true)(h3:PySem.W.plainOver K C=true)(h4:PySem.W.findIn K (.ref C) "__setattr__" = some (some (.builtin "object.__setattr__")))
  (h5:PySem.W.makesIn K C=true) (h6:PySem.W.findIn K (.ref C) "__init__" = some (some (.ref f))) (h7:PySem.W.isFn K (.ref f)=true) (h8:PySem.W.keepIn K (.ref C)=true):Own K C f:=⟨⟨h1,h2,h3,h4⟩,⟨h5,h6,h7,h8⟩⟩
open PySem PySem.Spec PyProof.Rows
section
variable {X:Cx}{tg:Expr}
def A4e (ta:TA):TI:=fun σ H R=>ta σ H fun vs H1=>∃ i j:Int,vs=[.int i,.int j]∧R (Itr i (j-i).toNat) H1
end
section
variable {X:Cx}
theorem Ase(l:List Nat):∀(k:Nat) (acc:List Nat),List.foldl (fun x1 x2=>x1++x2) acc.toArray (List.replicate k l.toArray)=(acc++(List.replicate k l).flatten).toArray
 | 0,acc=>by simp
 | k+1,acc=>by
  have e:acc.toArray++l.toArray=(acc++l).toArray:=by simp
  have e2:(acc++l)++(List.replicate k l).flatten=acc++(List.replicate (k+1) l).flatten:=by
   rw[A6g,A6d,A6S]
  rw[← e2,← Ase l k (acc++l),← e,A6g,A7a]
def A2n:R2:=fun x y H Q=>∃ u n,x=.str (tx u)∧y=.int n∧0≤n∧n≤1000000∧u.length*n.toNat≤sizeLine∧Q (.str (tx (List.replicate n.toNat u).flatten)) H
theorem VL:OpR X (binaryOp .Mult) A2n:=by
 intro pins s σ H x y v z Q I rx ry h
 obtain⟨u,n,rfl,rfl,h0,h1,h2,q⟩:=h
 obtain⟨t,rfl⟩:=rx
 obtain⟨t',rfl⟩:=ry
 have hsz:sizeLine=16777216:=sizeLine_eq
 have hlen:(tx u).length=u.length:=Ao u
 refine P.mul_str ?_ (fun c1 c2=>?_) (fun c1 c2=>?_) ?_
 ·rw[decide_eq_false (by omega),decide_eq_false (by omega)]
  rfl
 ·rw[hlen]
  have hn:0<n:=by omega
  have hm:(u.length:Int)*n≤16777216:=by
   have e:n=(n.toNat:Int):=by omega
   rw[e,← A6t]
   omega
  have:(u.length:Int)≤(2 ^ 63-1) / n:=(Int.le_ediv_iff_mul_le hn).mpr (by omega)
  omega
 ·rw[hlen]
  exact decide_eq_false (by omega)
 ·split
  ·next c =>
   have e:n=0:=by omega
   rw[e] at q
   exact⟨by decide,.str (tx []),H,I.tok _,⟨_,rfl⟩,q⟩
  ·split
   ·next c =>
    have e:tx (List.replicate n.toNat u).flatten=tx u:=by
     simp only [Bool.or_eq_true,beq_iff_eq] at c
     rcases c with c | c
     ·rw[c];simp
     ·rw[hlen] at c
      rw[A7o c]
      simp
    rw[e] at q
    exact⟨.str (tx u),H,I,⟨_,rfl⟩,q⟩
   ·have hf:(⟨(List.replicate n.toNat (tx u).cps).foldl (·++·) #[]⟩:Str)=tx (List.replicate n.toNat u).flatten:=by
     have:=Ase u n.toNat []
     simp only [List.nil_append] at this
     exact congrArg Str.mk this
    rw[hf]
    refine⟨?_,.str (tx (List.replicate n.toNat u).flatten),H,I.tok _,⟨_,rfl⟩,q⟩
    rw[Ao,len_rep,A6z]
    exact h2
def A4f:V→List V→Hp→VK→Prop:=fun x vs H Q=>∃ u c,x=.str (tx u)∧vs=[.str ⟨#[c]⟩]∧Q (.int (u.count c:Nat)) H
end
open PySem PySem.Spec PyProof.Rows
section
variable {X:Cx}{K:PySem.W.Frag}
def A4H (K:PySem.W.Frag):List V→Hp→VK→Prop:=fun vs H Q=>∃(a C p:Addr) (Ds:List Addr) (b:Bool),vs=[.ref a,.ref p]∧H a=some (exH C a)∧ExC K C∧H p=some (.tup (Ds.map V.ref))∧PySem.W.kitAny K (.ref C) (Ds.map Value.ref)=some b∧Q (.bl b) H
end
open PySem PySem.Spec PyProof.Rows
section
variable {X:Cx}{K:PySem.W.Frag}
def A5o (K:PySem.W.Frag):R2:=fun x y H Q=>∃ p q xs ys,x=.ref p∧y=.ref q∧SqL K H p xs∧SqL K H q ys∧xs.all Wy=true∧ys.all Wy=true∧Q (.bl (!eqL xs ys)) H
end
open PySem PySem.Spec PyProof.Rows
theorem Rv.AwU{k:Nat}{A:Around}(r:Rv k A):A.units+100<cLine:=by have:=r.un;omega
def A2o (K:PySem.W.Frag)(H:Hp)(p q:Addr):Prop:=∃ as bs:List Addr,SqL K H p (as.map V.ref)∧SqL K H q (bs.map V.ref)∧as.length=bs.length ∧
 ∀(i:Nat) (a b:Addr),as[i]?=some a→bs[i]?=some b→∃ xs:List V,xs.all Wy=true∧SqL K H a xs∧SqL K H b xs
section
variable {X:Cx}{K:PySem.W.Frag}
def A4I (K:PySem.W.Frag):R2:=fun x y H Q=>∃ p q,x=.ref p∧y=.ref q∧A2o K H p q∧Q (.bl false) H
def A4J (K:PySem.W.Frag):R2:=fun x y H Q=>∃ p q,x=.ref p∧y=.ref q∧A2o K H p q∧Q (.bl true) H
end
open PySem PySem.Spec PyProof.Rows
section
variable {X:Cx}{CX CX':CXT}{k k':Nat}{f f' C C':Addr}{fd fd':FuncData}{ps ps':List Str}{sp sp':Sp}{E:XK}{m:Str}{pos apos:Pos}{o:Expr}{ta:TE}
def A4g (C C':Addr)(m:Str)(sp sp':Sp)(E:XK)(ta:TE):TE:=fun σ H Q=>ta σ H fun x H1=>∃ a dx fs,x=.ref a∧fs.lookup m=none ∧
 ((H1 a=some (.ins C dx fs)∧sp [x] H1 Q E)∨(H1 a=some (.ins C' dx fs)∧sp' [x] H1 Q E))
end
open PySem PySem.Spec PyProof.Rows
section
variable {X:Cx}{CX:CXT}{k:Nat}{f:Addr}{fd:FuncData}{ps:List Str}{sp:Sp}{E:XK}{m:Str}{pos apos:Pos}{o e:Expr}{es:List Expr}{ta:TE}{t:TA}{dvs:List V}{ds:List Value}
def A0G (K:PySem.W.Frag)(m:Str)(f:Addr)(sp:Sp)(E:XK)(ta:TE):TE:=fun σ H Q=>ta σ H fun x H1=>∃ a dx fs C,x=.ref a∧H1 a=some (.ins C dx fs)∧fs.lookup m=none∧Cls K C∧Meth K C m f∧sp [x] H1 Q E
theorem Bp{pl:Sem Bool}{K:PySem.W.Frag}(hK:K=X.K)(he:PE X o ta)(F:Aq X.prog X.w X.K X.mg X.base CX k f fd ps sp)(hr:Rv k X.A)(hb:Binds X.K fd ps [])(hx:Passes CX X E)
  (ht:eval (.Call (.Attribute o m apos) [] [] pos) X.env=(do
   let ov ← eval o X.env
   standAt apos.atName
   let (f,first) ← holding [ov] (getMethod ov m pl)
   callWith pos f first (backTo pos (starEach [] X.env)) (backToKw pos (keywordEach [] X.env))):=by rfl) :
  PE X (.Call (.Attribute o m apos) [] [] pos) (A0G K m f sp E ta):=by
 subst hK
 intro pins s σ H Q I h
 refine PySem.W.methodCall_KW (pl:=pl) (thn (he pins s σ H _ I h) fun u s1 ⟨x,H1,I1,rx,a,dx,fs,C,ex,ea,l,c,hm,q⟩=>?_) ht
 subst ex
 obtain rfl:u=Value.ref a:=rx
 refine Ago I1 ea c hm l ?_
 exact PySem.W.callWith_K0 (first:=[.ref a]) I1.kIn hm.kp (Amv (us:=[.ref a]) (vs:=[.ref a]) F hr hb .nil hx I1 (.cons rfl .nil) (by simpa using q))
def A3g (K:PySem.W.Frag)(m:Str)(f:Addr)(sp:Sp)(E:XK)(ta:TE)(t:TA):TE:=fun σ H Q=>ta σ H fun x H1=>∃ a dx fs C,x=.ref a∧H1 a=some (.ins C dx fs)∧fs.lookup m=none∧Cls K C∧Meth K C m f∧t σ H1 fun vs H2=>sp (x::vs) H2 Q E
end
open PySem PySem.Spec PyProof.Rows
def vB (bs:List Bool):List V:=bs.map V.bl
theorem At3(bs:List Bool):(vB bs).length=bs.length:=by unfold vB;rw[A5I]
theorem At4(bs:List Bool)(b:Bool):vB bs++[.bl b]=vB (bs++[b]):=by unfold vB;rw[A5Y];rfl
theorem AmD{bs:List Bool}:∀{us:List Value},Vals (bs.map V.bl) us→us=bs.map Value.bool:=by
 induction bs with
 | nil=>intro us r;rw[A6s] at r;cases r;rfl
 | cons n ns ih =>
  intro us r
  rw[A5P] at r
  cases r with
  | cons r1 r2 =>
   cases r1
   rw[ih r2]
   rfl
theorem any_range(bs:List Bool):(List.range bs.length).any (fun i=>bs.getD i false)=bs.any id:=by
 rw[A6J,List.any_eq_true,List.any_eq_true]
 constructor
 ·rintro⟨i,hi,h⟩
  have hl:=List.mem_range.mp hi
  refine⟨bs[i],A6m hl,?_⟩
  rw[A6r,A5L hl] at h
  exact h
 ·rintro⟨b,hb,h⟩
  obtain⟨i,hi,e⟩:=List.getElem_of_mem hb
  refine⟨i,List.mem_range.mpr hi,?_⟩
  rw[A6r,A5L hi,e]
  exact h
section
variable {X:Cx}{K:PySem.W.Frag}
theorem ApP(hK:X.K=K:=by rfl)(hc:X.calm=true:=by rfl):V9 X (.builtin "any") (fun xs H Q=>∃ a bs,xs=[.ref a]∧SqL K H a (vB bs)∧Q (.bl (bs.any id)) H):=by
 subst hK
 intro pins s σ H xs us Q I rv h
 obtain⟨a,bs,rfl,hq,q⟩:=h
 obtain⟨u,rfl,ru⟩:=rv.one
 cases ru
 obtain⟨its,r,pl,hl⟩:=I.list hq
 have ei:=AmD (bs:=bs) r
 subst ei
 obtain⟨o,eo,_⟩:=id pl.isList
 have alt:=Heap.lt_size eo
 refine call_any_walk (wpAny_pyIter_list pl.isList ?_)
 refine⟨_,_,_,_,_,_,fun i=>bs.getD i false,rfl,Walks.list (A:=X.A.in1) (I.ok.hd hc) _ a (A5M alt) (bs.map Value.bool).toArray,⟨⟨_,Heap.get?_push_size _ rfl,rfl,rfl⟩,pl.isList.push _⟩,?_,fun h' tk hk=>?_⟩
 ·intro i v s' Q' E' hP hQ
  have hv:(bs.map Value.bool)[i]?=some v:=by simpa using hP
  rw[A5T] at hv
  cases e:bs[i]? with
  | none=>rw[e] at hv;cases hv
  | some b =>
   rw[e] at hv
   cases hv
   have eb:bs.getD i false=b:=by rw[A6r,e];rfl
   have hQ':Q' (bs.getD i false) s':=hQ
   rw[eb] at hQ'
   exact wpAny_truthy_bool hQ'
 ·have e1:(List.range ((bs.map Value.bool).toArray).size).any (fun i=>bs.getD i false)=bs.any id:=by
   rw[A5R,A5I]
   exact any_range bs
  rw[e1]
  refine⟨.bl (bs.any id),H,I.kept (t':=tk) (fun b ob e=>hk b ob ?_ (Heap.get?_push_of_some _ e)),rfl,q⟩
  have lt:=Heap.lt_size e
  intro hm
  rw[List.mem_singleton.mp hm] at lt
  exact A5W _ lt
end
open PySem PySem.Spec PyProof.Rows
theorem all_range(bs:List Bool):(List.range bs.length).all (fun i=>bs.getD i false)=bs.all id:=by
 rw[A6J,A7e,A7e]
 constructor
 ·rintro h b hb
  obtain⟨i,hi,e⟩:=List.getElem_of_mem hb
  have:=h i (List.mem_range.mpr hi)
  rw[A6r,A5L hi,e] at this
  exact this
 ·rintro h i hi
  have hl:=List.mem_range.mp hi
  rw[A6r,A5L hl]
  exact h _ (A6m hl)
section
variable {X:Cx}{K:PySem.W.Frag}
theorem AvK(hK:X.K=K:=by rfl)(hc:X.calm=true:=by rfl):V9 X (.builtin "all") (fun xs H Q=>∃ a bs,xs=[.ref a]∧SqL K H a (vB bs)∧Q (.bl (bs.all id)) H):=by
 subst hK
 intro pins s σ H xs us Q I rv h
 obtain⟨a,bs,rfl,hq,q⟩:=h
 obtain⟨u,rfl,ru⟩:=rv.one
 cases ru
 obtain⟨its,r,pl,hl⟩:=I.list hq
 have ei:=AmD (bs:=bs) r
 subst ei
 obtain⟨o,eo,_⟩:=id pl.isList
 have alt:=Heap.lt_size eo
 refine call_all_walk (wpAny_pyIter_list pl.isList ?_)
 refine⟨_,_,_,_,_,_,fun i=>bs.getD i false,rfl,Walks.list (A:=X.A.in1) (I.ok.hd hc) _ a (A5M alt) (bs.map Value.bool).toArray,⟨⟨_,Heap.get?_push_size _ rfl,rfl,rfl⟩,pl.isList.push _⟩,?_,fun h' tk hk=>?_⟩
 ·intro i v s' Q' E' hP hQ
  have hv:(bs.map Value.bool)[i]?=some v:=by simpa using hP
  rw[A5T] at hv
  cases e:bs[i]? with
  | none=>rw[e] at hv;cases hv
  | some b =>
   rw[e] at hv
   cases hv
   have eb:bs.getD i false=b:=by rw[A6r,e];rfl
   have hQ':Q' (bs.getD i false) s':=hQ
   rw[eb] at hQ'
   exact wpAny_truthy_bool hQ'
 ·have e1:(List.range ((bs.map Value.bool).toArray).size).all (fun i=>bs.getD i false)=bs.all id:=by
   rw[A5R,A5I]
   exact all_range bs
  rw[e1]
  refine⟨.bl (bs.all id),H,I.kept (t':=tk) (fun b ob e=>hk b ob ?_ (Heap.get?_push_of_some _ e)),rfl,q⟩
  have lt:=Heap.lt_size e
  intro hm
  rw[List.mem_singleton.mp hm] at lt
  exact A5W _ lt
end
open PySem PySem.Spec PyProof.Rows
structure A2p (K:PySem.W.Frag) (C:Addr) (m:Str) (f:Addr):Prop where
 rd:PySem.W.readsIn K C (.type "type")=true
 fi:PySem.W.findCls K (.ref C) (.type "type") m=some (.val (.ref f))
 ha:PySem.W.handedIn (.ref f)=true
 sp:PySem.W.specialIn K (.ref C) "__getattribute__" = some (some (.builtin "type.__getattribute__"))
 kp:PySem.W.keepIn K (.ref f)=true
def A2q (C:Addr)(sp:Sp)(dvs:List V)(E:XK)(ta:TE)(t:TA):TE:=fun σ H Q=>ta σ H fun x H1=>x=.ref C∧t σ H1 fun vs H2=>sp (vs++dvs) H2 Q E
section
variable {X:Cx}{CX:CXT}{k:Nat}{f C:Addr}{fd:FuncData}{ps:List Str}{sp:Sp}{dvs:List V}{ds:List Value}{E:XK}{m:Str}{pos apos:Pos}{e o:Expr}{es:List Expr}{ta:TE}{t:TA}
theorem O1{pl:Sem Bool}(he:PE X o ta)(M:A2p X.K C m f)(F:Aq X.prog X.w X.K X.mg X.base CX k f fd ps sp)(hr:Rv k X.A)(hb:Binds X.K fd ps ds)(hd:Vals dvs ds)(hx:Passes CX X E)(ha:PA X (e::es) t)
  (hst:starEach (e::es) X.env=(false,eval e X.env)::starEach es X.env:=by rfl) (hpl:(backTo pos (starEach es X.env)).any (·.1)=false:=by rfl)
  (ht:eval (.Call (.Attribute o m apos) (e::es) [] pos) X.env=(do
   let ov ← eval o X.env
   standAt apos.atName
   let (f,first) ← holding [ov] (getMethod ov m pl)
   callWith pos f first (backTo pos (starEach (e::es) X.env)) (backToKw pos (keywordEach [] X.env))):=by rfl) :
  PE X (.Call (.Attribute o m apos) (e::es) [] pos) (A2q C sp dvs E ta t):=by
 intro pins s σ H Q I h
 refine PySem.W.methodCall_KW (pl:=pl) (thn (he pins s σ H _ I h) fun u s1 ⟨x,H1,I1,rx,ex,q⟩=>?_) ht
 subst ex
 obtain rfl:u=Value.ref C:=rx
 refine PySem.W.method_cls I1.kIn M.sp (PySem.W.cls_value I1.kIn M.rd M.fi M.ha ?_)
 refine PySem.W.callWith_K (first:=[]) (h₀:=X.base) I.ok.mod.kin M.kp (thn (ha pos pins _ σ H1 _ (I1.tok (s1.toks+1)) q) fun us s2 ⟨vs,H2,I2,r,q2⟩=>⟨I2.kIn,?_⟩) hst hpl
 exact Amv (us:=us) (vs:=vs) F hr hb hd hx I2 r q2
end
open PySem PySem.Spec PyProof.Rows
section
variable {κ:Type} [DecidableEq κ]
def AvL (kvs:List (κ × V))(k:κ):Option V:=(kvs.find? fun kv=>decide (kv.1=k)).map (·.2)
def putK(kvs:List (κ × V))(k:κ)(v:V):List (κ × V) :=
 if (kvs.any fun kv=>decide (kv.1=k))=true then kvs.map (fun kv=>if kv.1=k then (kv.1,v) else kv) else kvs++[(k,v)]
def AwV (kvs:List (κ × V))(k:κ):List (κ × V):=kvs.filter fun kv=>decide (kv.1≠k)
end
abbrev KT (H:Hp):List (List Key × V)→List (List Key × Addr × Value)→Prop:=Paired fun p q=>p.1=q.1∧H q.2.1=some (.tup (p.1.map kV))∧RelV p.2 q.2.2
section
variable {P:Program}{w:World}{H:Hp}{h:Heap}{a:Addr}
end
def AvM (H:Hp)(a:Addr)(y:V)(r:Option V):Prop :=
 (∃ kvs k,Rd H a (.dK kvs)∧y=kV k∧r=AvL kvs k)∨∃ kvs k b,Rd H a (.dT kvs)∧y=.ref b∧H b=some (.tup (k.map kV))∧r=AvL kvs k
def A2r (H:Hp)(a:Addr)(y v:V)(H':Hp):Prop :=
 (∃ kvs k,H a=some (.dK kvs)∧y=kV k∧kvs.length<sizeLine∧H'=upd H a (.dK (putK kvs k v))) ∨
 ∃ kvs k b,H a=some (.dT kvs)∧y=.ref b∧H b=some (.tup (k.map kV))∧kvs.length<sizeLine∧H'=upd H a (.dT (putK kvs k v))
section
variable {X:Cx}{pins:List (Addr × Obj)}{σ:St}{H:Hp}{s:Shared}{a:Addr}{y v:V}{u r:Value}{o:Option V}{A:Around}{E:Value→Shared→Prop}
end
section
variable {X:Cx}{pins:List (Addr × Obj)}{σ:St}{H:Hp}{s:Shared}{a:Addr}{kvs:List (Key × V)}{k:Key}{u:Value}{A:Around}{E:Value→Shared→Prop}
end
def A2s (i:Expr):Prop:=∀ ov iv,subscripted i false ov iv=operate [ov,iv] (getItem ov iv)
theorem AyS{prog:Program}{w:World}{A:Around}{E:Value→Shared→Prop}{s:Shared}{env:Env}{value slice:Expr}{pos:Pos}{T id:String}{Q:Value→Shared→Prop}
  (hl:typeLookup (.type T) "__getitem__" = pure (some (.builtin id))) (hs:A2s slice)
  (h:wpAny (model prog w) A (eval value env) (fun o s₁=>wpAny (model prog w) A (eval slice env) (fun i s₂=>s₂.TypeIs o T∧wpAny (model prog w) A (getItem o i) Q E s₂) E s₁) E s) :
  wpAny (model prog w) A (eval (.Subscript value slice pos) env) Q E s:=by
 refine Subscript_ (wpAny_mono h (fun o s₁ h₁=>wpAny_mono h₁ (fun i s₂ h₂=>?_) fun _ _ x=>x) fun _ _ x=>x)
 obtain⟨hT,h₂⟩:=h₂
 unfold subscriptTail
 refine wpAny_bind ?_
 rw[getitemInPython_of_ne hT.not_modules]
 refine wpAny_bind (wpAny_specialOf hT hl ?_)
 have fin:wpAny (model prog w) A (subscripted slice false o i) (fun r s₃=>wpAny (model prog w) A (letTemporaryGo value o r >>= fun _=>pure r) Q E s₃) E s₂:=by
  rw[hs o i]
  exact wpAny_operating (wpAny_mono h₂ (fun r s₃ h₃=>wpAny_bind (wpAny_letTemporaryGo (wpAny_pure h₃))) fun _ _ x=>x)
 first
  | exact wpAny_pure (wpAny_bind fin)
  | exact wpAny_bind (wpAny_pure (wpAny_bind fin))
  | exact wpAny_bind fin
def A4K (td ty:TE):TE:=fun σ H Q=>td σ H fun x H1=>ty σ H1 fun y H2=>∃ a v,x=.ref a∧AvM H2 a y (some v)∧Q v H2
def A5p (ty td:TE):TE:=fun σ H Q=>ty σ H fun y H1=>td σ H1 fun x H2=>∃ a o,x=.ref a∧AvM H2 a y o∧Q (.bl o.isSome) H2
def A3h (ty td:TE):TE:=fun σ H Q=>ty σ H fun y H1=>td σ H1 fun x H2=>∃ a o,x=.ref a∧AvM H2 a y o∧Q (.bl (!o.isSome)) H2
def A4L (td ty tv:TE):TS:=fun D σ H=>tv σ H fun v H1=>td σ H1 fun x H2=>ty σ H2 fun y H3=>∃ a H4,x=.ref a∧A2r H3 a y v H4∧D.nx σ H4
def A4M (td ty tv:TE)(rd:V→V→Hp→VK→Prop):TS:=fun D σ H=>td σ H fun x H1=>ty σ H1 fun y H2=>∃ a v,x=.ref a∧AvM H2 a y (some v) ∧
 tv σ H2 fun y2 H3=>rd v y2 H3 fun z H4=>∃ H5,A2r H4 a y z H5∧D.nx σ H5
def A4N (td ty:TE):TS:=fun D σ H=>td σ H fun x H1=>ty σ H1 fun y H2=>∃ a kvs k,x=.ref a∧H2 a=some (.dK kvs)∧y=kV k∧(AvL kvs k).isSome=true∧D.nx σ (upd H2 a (.dK (AwV kvs k)))
section
variable {X:Cx}{o i e value:Expr}{pos pos' tpos:Pos}{td ty tv:TE}
end
def A4h:TE:=fun _ H Q=>∀ p,H p=none→Q (.ref p) (upd H p (.dK []))
def A4i:TE:=fun _ H Q=>∀ p,H p=none→Q (.ref p) (upd H p (.dT []))
section
variable {X:Cx}{pos:Pos}
end
def At5:List (TE × TE)→St→Hp→(List (V × V)→Hp→Prop)→Prop
 | [],_,H,Q=>Q [] H
 | (tk,tv)::r,σ,H,Q=>tk σ H fun x H1=>tv σ H1 fun y H2=>At5 r σ H2 fun ps H3=>Q ((x,y)::ps) H3
abbrev VV:List (V × V)→List (Value × Value)→Prop:=Paired fun p q=>RelV p.1 q.1∧RelV p.2 q.2
def PPs (X:Cx)(pos:Pos)(keys:List (Option Expr))(values:List Expr)(trs:List (TE × TE)):Prop :=
 ∀(pins:List (Addr × Obj)) (s:Shared) (σ:St) (H:Hp) (Q:List (V × V)→Hp→Prop),Inv X pins σ H s→At5 trs σ H Q →
  wpAny (model X.prog X.w) X.A (evalPairs (pairTrees keys values X.env pos)) (fun vs s'=>∃ ps H',Inv X pins σ H' s'∧VV ps vs∧Q ps H') X.xe s
def A0H (kvs more:List (Key × V)):List (Key × V):=more.foldl (fun acc kv=>putK acc kv.1 kv.2) kvs
def A4O (trs:List (TE × TE)):TE:=fun σ H Q=>∀ p,H p=none→At5 trs σ (upd H p (.dK [])) fun ps H2=>H2 p=some (.dK [])∧∃ kvs:List (Key × V),ps=kvs.map (fun kv=>(kV kv.1,kv.2))∧kvs.length≤15∧Q (.ref p) (upd H2 p (.dK (A0H [] kvs)))
structure M1 (X:Cx) (o:Expr) (m:Str) (apos:Pos) (e:Expr) (cpos:Pos):Prop where
 base:attributeBase o m X.env (eval o X.env)=eval o X.env
 few:((backTo cpos (starEach [e] X.env)).all (fun x=>!x.1) && (backToKw cpos (keywordEach [] X.env)).all (fun x=>x.1.isSome)
  && decide (([e]:List Expr).length+([]:List Keyword).length+(if ([]:List Keyword).isEmpty then 0 else 1)<30))=true
 line:(apos.endLine == cpos.line)=true
 trees:backTo cpos (starEach [e] X.env)=[(false,eval e X.env)]
structure M2 (X:Cx) (o:Expr) (m:Str) (apos:Pos) (e f:Expr) (cpos:Pos):Prop where
 base:attributeBase o m X.env (eval o X.env)=eval o X.env
 few:((backTo cpos (starEach [e,f] X.env)).all (fun x=>!x.1) && (backToKw cpos (keywordEach [] X.env)).all (fun x=>x.1.isSome)
  && decide (([e,f]:List Expr).length+([]:List Keyword).length+(if ([]:List Keyword).isEmpty then 0 else 1)<30))=true
 line:(apos.endLine == cpos.line)=true
 trees:backTo cpos (starEach [e,f] X.env)=[(false,eval e X.env),(false,eval f X.env)]
def IsD (H:Hp)(a:Addr):Prop:=(∃ kvs,Rd H a (.dK kvs))∨∃ kvs,Rd H a (.dT kvs)
section
variable {X:Cx}{pins:List (Addr × Obj)}{σ:St}{H:Hp}{s:Shared}{a:Addr}{y d:V}{u r:Value}{o:Option V}{A:Around}{E:Value→Shared→Prop}
end
def A4j (td ty:TE):TE:=fun σ H Q=>td σ H fun x H1=>∃ a,x=.ref a∧IsD H1 a∧ty σ H1 fun y H2=>∃ o,AvM H2 a y o∧Q (o.getD .non) H2
def A4k (td ty tx:TE):TE:=fun σ H Q=>td σ H fun x H1=>∃ a,x=.ref a∧IsD H1 a∧ty σ H1 fun y H2=>tx σ H2 fun z H3=>∃ o,AvM H3 a y o∧Q (o.getD z) H3
def A4l (td ty:TE):TE:=fun σ H Q=>td σ H fun x H1=>∃ a,x=.ref a∧IsD H1 a∧ty σ H1 fun y H2=>∃ kvs k v,H2 a=some (.dK kvs)∧y=kV k∧AvL kvs k=some v∧Q v (upd H2 a (.dK (AwV kvs k)))
def A4m (td ty tx:TE):TE:=fun σ H Q=>td σ H fun x H1=>∃ a,x=.ref a∧IsD H1 a∧ty σ H1 fun y H2=>tx σ H2 fun z H3=>∃ kvs k,H3 a=some (.dK kvs)∧y=kV k ∧
 (∀ v,AvL kvs k=some v→Q v (upd H3 a (.dK (AwV kvs k))))∧(AvL kvs k=none→Q z H3)
section
variable {X:Cx}{o e f:Expr}{apos cpos:Pos}{td ty tx:TE}
end
section
variable {X:Cx}{pins:List (Addr × Obj)}{σ:St}{H:Hp}{s:Shared}{a:Addr}{kvs:List (Key × V)}{A:Around}{E:Value→Shared→Prop}
end
section
variable {X:Cx}{pins:List (Addr × Obj)}{σ:St}{H:Hp}{s:Shared}{a:Addr}{y:V}{u:Value}{A:Around}{E:Value→Shared→Prop}
end
open PySem PySem.Spec PyProof.Rows
section
variable {X:Cx}
end
section
variable {κ:Type} [DecidableEq κ]
end
open PySem PySem.Spec PySem.Calls PyProof.Rows PyProof.Rows.KTD
def Top (K:PySem.W.Frag)(a:Addr)(D:List (Str × Str)):Prop:=∀ h:Heap,K.In h→TextTab h a (D.map fun p=>(p.1,Dat.flat (.str p.2)))
theorem A0I{K:PySem.W.Frag}{a:Addr}{D:List (Str × Str)}(hl:tabLook (datLooks fun b=>K.lookup b) (fun b=>K.lookup b) a (D.map fun p=>(p.1,Dat.flat (.str p.2)))=true):Top K a D:=fun h X=>text_of_look (fun b o e=>X b o e) hl
def lk (D:List (Str × Str))(k:Str):Option Str:=(D.find? fun p=>decide (p.1=k)).map (·.2)
theorem ApQ(k:Str):∀ D:List (Str × Str),inKeys k (D.map fun p=>(p.1,Dat.flat (.str p.2)))=(lk D k).isSome
 | []=>rfl
 | p::D=>by
  have ih:=ApQ k D
  unfold lk at ih ⊢
  rw[A5P,List.find?_cons]
  by_cases c:p.1=k
  ·simp[inKeys,c]
  ·have c':¬k=p.1:=fun z=>c z.symm
   simp[inKeys,c,c']
   simpa using ih
theorem AzO{k v:Str}:∀{D:List (Str × Str)},lk D k=some v→∃ d,datumAt k (D.map fun p=>(p.1,Dat.flat (.str p.2)))=some d∧d=Dat.flat (.str v)
 | [],h=>by simp[lk] at h
 | p::D,h=>by
  unfold lk at h
  rw[List.find?_cons] at h
  by_cases c:p.1=k
  ·simp[c] at h
   subst h
   exact⟨_,by simp[datumAt,c],rfl⟩
  ·have c':¬k=p.1:=fun z=>c z.symm
   simp only [c,decide_false] at h
   obtain⟨d,e1,e2⟩:=AzO (D:=D) h
   exact⟨d,by simp[datumAt,c',e1],e2⟩
def AvN (a:Addr)(D:List (Str × Str))(ty td:TE):TE:=fun σ H Q=>ty σ H fun y H1=>td σ H1 fun x H2=>∃ k,y=.str k∧x=.ref a∧Q (.bl (!(lk D k).isSome)) H2
def AyT (a:Addr)(D:List (Str × Str))(td ty:TE):TE:=fun σ H Q=>td σ H fun x H1=>ty σ H1 fun y H2=>∃ k v,y=.str k∧x=.ref a∧lk D k=some v∧Q (.str v) H2
section
variable {X:Cx}{o i:Expr}{pos:Pos}{td ty:TE}{a:Addr}{D:List (Str × Str)}
theorem Asf(T:Top X.K a D)(hi:PE X i ty)(ho:PE X o td):PC X .NotIn i o (AvN a D ty td):=by
 intro pins s σ H Q I h
 refine thn (hi pins s σ H _ I h) fun iv s1 ⟨y,H1,I1,ry,q1⟩=>thn (ho pins s1 σ H1 _ I1 q1) fun u s2 ⟨x,H2,I2,rx,k,ey,ex,q2⟩=>?_
 subst ey ex
 obtain⟨tk,rfl⟩:=ry
 obtain rfl:u=Value.ref a:=rx
 refine notin_text (h₀:=s2.heap) ⟨T s2.heap I2.kIn,fun b o e=>e⟩ ?_
 rw[ApQ]
 exact⟨.bl _,H2,I2.tok _,rfl,q2⟩
theorem Asg{A:Around}{E:Value→Shared→Prop}{s:Shared}{pins:List (Addr × Obj)}{σ:St}{H:Hp}{k v:Str}{tk:Tok}{Q:Value→Shared→Prop}(T:Top X.K a D)(I:Inv X pins σ H s)(e:lk D k=some v)(h:∀ t s',Inv X pins σ H s'→Q (.str v t) s') :
  wpAny (model X.prog X.w) A (getItem (.ref a) (.str k tk)) Q E s:=by
 have T':Here s.heap s.heap a (D.map fun p=>(p.1,Dat.flat (.str p.2))):=⟨T s.heap I.kIn,fun b o e=>e⟩
 unfold getItem
 try with_reducible refine wpAny_holding ?_
 refine wpAny_bind (wpAny_sequenceKey T'.typeIs (by decide) ?_)
 refine wpAny_bind (wpAny_callSpecial?_slot (name:=Str.ofString "__getitem__") T'.typeIs PySem.F.slot_dict_getitem
  (wpAny_call_entry PySem.F.slot_dict_getitem T'.typeIs PySem.F.entry_dict_getitem ?_ (args_dict_getitem _ _)))
 show wpAny _ _ (dictGet a (.str k tk) >>= _) _ _ s
 obtain⟨d,hd,ed⟩:=AzO e
 refine wpAny_bind (dictGet_text T' (fun d' v' ha hv=>wpAny_pure ⟨v',rfl,wpAny_pure ?_⟩) fun hn=>by rw[hd] at hn;cases hn)
 rw[hd] at ha
 cases ha
 subst ed
 exact Opened.of (P:=fun x=>Q x _) (opened_str fun t=>h t _ (I.tok _)) v' hv
theorem AvO(T:Top X.K a D)(ho:PE X o td)(hi:PE X i ty)(hs:A2s i):PE X (.Subscript o i pos) (AyT a D td ty):=by
 intro pins s σ H Q I h
 refine AyS PySem.F.slot_dict_getitem.lookup hs (thn (ho pins s σ H _ I h) fun u s1 ⟨x,H1,I1,rx,q1⟩=>thn (hi pins s1 σ H1 _ I1 q1) fun iv s2 ⟨y,H2,I2,ry,k,v,ey,ex,el,q2⟩=>?_)
 subst ex ey
 obtain rfl:u=Value.ref a:=rx
 obtain⟨tk,rfl⟩:=ry
 have T':Here s2.heap s2.heap a (D.map fun p=>(p.1,Dat.flat (.str p.2))):=⟨T s2.heap I2.kIn,fun b o e=>e⟩
 exact⟨T'.typeIs,Asg T I2 el fun t s3 I3=>⟨.str v,H2,I3,⟨t,rfl⟩,q2⟩⟩
end
open PySem PySem.Spec PyProof.Rows
def A4P (K:PySem.W.Frag)(no:Bool):R2:=fun x y H Q=>∃(z:Str) (q:Addr) (ys:List Str),x=.str z∧y=.ref q∧SqT K H q (ys.map V.str)∧Q (.bl (no != ys.any (· == z))) H
section
variable {X:Cx}{K:PySem.W.Frag}
end
def A2t (K:PySem.W.Frag)(a:Addr)(ys:List Str):Prop:=∀ H:Hp,SqT K H a (ys.map V.str)
theorem AyU{K:PySem.W.Frag}{a:Addr}{o:Obj}{its:Array Value}{n:Nat}{ys:List Str}(e:K.lookup a=some o)(c:o.cls=.type "tuple") (d:o.data=.seq its n) (z:its.size≤sizeLine) (r:Vals (ys.map V.str) its.toList):A2t K a ys:=fun _=>.inr ⟨o,its,n,e,c,d,z,r⟩
open PySem PySem.Spec PyProof.Rows
def A5q (K:PySem.W.Frag)(n:Nat)(t:TGs):TG:=fun v σ H Q=>∃ a xs,v=.ref a∧SqL K H a xs∧xs.length=n∧t xs σ H Q
section
variable {X:Cx}{K:PySem.W.Frag}{pos:Pos}
end
open PySem PySem.Spec PyProof.Rows
structure Isa (K:PySem.W.Frag) (C:Addr):Prop where
 ha:PySem.W.findIn K (.ref C) "__class__" = some (some (.builtin "object.__class__"))
 hn:PySem.W.specialIn K (.builtin "object.__class__") "__get__" = some (some (.builtin "getset_descriptor.__get__"))
 htk:PySem.W.takesIn K (.builtin "object.__class__")=some true
 hm:PySem.W.mroIn K C (.type "object")=some true
open PySem PySem.Spec PyProof.Rows
theorem Inv.AeG{X:Cx}{pins:List (Addr × Obj)}{σ:St}{H:Hp}{s:Shared}{h':Heap}{t':Nat}{its:List Addr}(I:Inv X pins σ H s)
  (k:∀ b o,b∉its→s.heap.get? b=some o→h'.get? b=some o) (hf:∀ b∈its,Vl X pins H b):Inv X pins σ H { s with heap:=h',toks:=t' }:=by
 have nit:∀ b u,H b=some u→b∉its:=fun b u e z=>by
  have:=(hf b z).1
  rw[this] at e
  cases e
 have nL:X.env.locals∉its:=fun z=>(hf _ z).2.1 rfl
 refine I.step (g':=s.gens) (d':=s.drawn) (ch:=its) (fun b hb=>?_) (fun b o _ _ hc e _=>k b o hc e) (fun b o _ _ hc e _=>⟨o.slots,k b o hc e⟩) (fun _ _ _ _ n=>n)
  (fun b o hc e=>⟨o,k b o hc e⟩) (fun _ _ e=>e) (fun _ _ _ e=>e) (fun b ps e=>⟨#[],by rw[e];simp⟩) (fun m hm=>?_) (fun b u e=>?_) I.bare
 ·obtain⟨_,h2,_,h4,h5,h6⟩:=hf b hb
  exact⟨h4,h2,h5,h6⟩
 ·obtain⟨o,es,ep,ho,r⟩:=hm
  exact⟨o,es,ep,k _ o nL ho,r⟩
 ·refine(I.hok b u e).stay (fun c v hc q=>k c v ?_ q) (fun _ q=>q) fun _ _ q=>q
  rcases hc with z | z
  ·rw[z];exact nit b u e
  ·exact nit c _ z
def Itz (K:PySem.W.Frag)(a b:Addr):It where
 go:=fun i H=>∃ xs ys x y,SqL K H a xs∧SqL K H b ys∧xs[i]?=some x∧ys[i]?=some y
 yld:=fun i H x H'=>∃ T,x=.ref T∧H T=none∧∀ xs ys u v,SqL K H a xs→SqL K H b ys→xs[i]?=some u→ys[i]?=some v→H'=upd H T (.tup [u,v])
 stop:=fun i H=>∃ xs ys,SqL K H a xs∧SqL K H b ys∧(xs.length≤i∨ys.length≤i)
def A2u (z TI TO i1 i2 a b:Addr)(i:Nat)(h:Heap):Prop:=IsZip h z TI TO .none∧IsPair h TI (.ref i1) (.ref i2)∧(∃ p q,IsPair h TO p q)∧h.IsListIter i1 a i∧h.IsListIter i2 b i
theorem AwW{P:Program}{w:World}{K:PySem.W.Frag}{es:List Expr}{kx:Nat}{tp:Pos}{z TI TO i1 i2 a b:Addr}(D:ZipApart z TI TO i1 i2 a b) :
  Turn P w K (.Tuple es kx tp) (Itz K a b) [z,TI,TO,i1,i2] z (A2u z TI TO i1 i2 a b) where
 mem:=by simp
 obj:=fun i h st c hc=>by
  obtain⟨s1,s2,⟨p,q,s3⟩,s4,s5⟩:=st
  simp only [A5U,A5V,or_false] at hc
  rcases hc with e | e | e | e | e
  ·subst e;exact⟨_,s1,fun v z=>by cases (show Data.fields _=Data.cell v from z)⟩
  ·subst e;exact⟨_,s2,fun v z=>by cases (show Data.seq _ _=Data.cell v from z)⟩
  ·subst e;exact⟨_,s3,fun v z=>by cases (show Data.seq _ _=Data.cell v from z)⟩
  ·subst e;obtain⟨o,e,_,d⟩:=s4;exact⟨o,e,fun v z=>by rw[d] at z;cases z⟩
  ·subst e;obtain⟨o,e,_,d⟩:=s5;exact⟨o,e,fun v z=>by rw[d] at z;cases z⟩
 keep:=fun i h h' st k=>by
  obtain⟨s1,s2,⟨p,q,s3⟩,s4,s5⟩:=st
  exact⟨k _ (by simp) _ s1,k _ (by simp) _ s2,⟨p,q,k _ (by simp) _ s3⟩,s4.at fun o e=>k _ (by simp) o e,s5.at fun o e=>k _ (by simp) o e⟩
 item:=by
  intro X hP hw hK hc i pins s σ H E I hf st hg
  subst hP hw hK
  obtain⟨xs,ys,x,y,hq1,hq2,hx,hy⟩:=hg
  obtain⟨Al3,rv1,p1,_⟩:=I.list hq1
  obtain⟨its2,rv2,p2,_⟩:=I.list hq2
  obtain⟨u,hu,ru⟩:=rv1.get hx
  obtain⟨v,hv,rw'⟩:=rv2.get hy
  obtain⟨s1,s2,⟨p,q,s3⟩,s4,s5⟩:=st
  refine wpAny_pyNext_zip_item D s1 s2 s3 s4 s5 p1.isList p2.isList (x:=u) (y:=v) (by simpa using hu) (by simpa using hv) fun h1 z1 t1 j1 j2 hT hsz kk=>?_
  refine⟨_,rfl,wpAny_letOwnedTupleGo_zip z1 fun h2 z2 sb=>?_⟩
  have zl:z<s.heap.objs.size:=Heap.lt_size s1
  have TIl:TI<s.heap.objs.size:=Heap.lt_size s2
  have TOl:TO<s.heap.objs.size:=Heap.lt_size s3
  have i1l:i1<s.heap.objs.size:=by obtain⟨_,e,_⟩:=s4;exact Heap.lt_size e
  have i2l:i2<s.heap.objs.size:=by obtain⟨_,e,_⟩:=s5;exact Heap.lt_size e
  have up:∀ c o,c≠z→h1.get? c=some o→h2.get? c=some o:=fun c o c1 e=>(sb.2 c c1).trans e
  have hTn:H s.heap.objs.size=none:=I.hok.fresh (A5K _)
  have I1:Inv X pins σ (upd H s.heap.objs.size (.tup [x,y])) { s with heap:=s.heap.push { cls:=.type "tuple", data:=.seq #[u,v] },toks:=s.toks } :=
   I.laid (fun c o e=>Heap.get?_push_of_some _ e) (A5K _) ⟨by show 2≤sizeLine;decide,[u,v],.cons ru (.cons rw' .nil),⟨_,Heap.get?_push_size _ rfl,rfl,_,rfl⟩⟩
  have fp2:∀ c∈[z,TI,TO,i1,i2],Vl X pins (upd H s.heap.objs.size (.tup [x,y])) c:=fun c hc=>by
   obtain⟨f0,f⟩:=hf c hc
   refine⟨?_,f⟩
   have lt:c<s.heap.objs.size:=by
    simp only [A5U,A5V,or_false] at hc
    rcases hc with e | e | e | e | e <;> subst e <;> assumption
   rw[Bd (A5M lt)]
   exact f0
  have I2:Inv X pins σ (upd H s.heap.objs.size (.tup [x,y])) { s with heap:=h2 }:=by
   refine Inv.AeG (s:={ s with heap:=s.heap.push { cls:=.type "tuple", data:=.seq #[u,v] },toks:=s.toks }) (h':=h2) (t':=s.toks) (its:=[z,TI,TO,i1,i2]) I1 (fun c o hc e=>?_) fp2
   simp only [A5U,A5V,or_false,not_or] at hc
   refine up c o hc.1 ?_
   by_cases hcs:c=s.heap.objs.size
   ·subst hcs
    have e':(s.heap.push { cls:=.type "tuple", data:=.seq #[u,v] }).get? s.heap.objs.size=some { cls:=.type "tuple", data:=.seq #[u,v] }:=Heap.get?_push_size _ rfl
    rw[e'] at e
    cases e
    exact hT
   ·have e':s.heap.get? c=some o:=by
     rw[← e]
     exact(Heap.get?_push_ne _ _ _ hcs).symm
    exact kk c o hc.1 hc.2.2.1 hc.2.2.2.1 hc.2.2.2.2 e'
  refine⟨.ref s.heap.objs.size,_,I2,rfl,⟨s.heap.objs.size,rfl,hTn,fun xs' ys' u' v' a1 a2 a3 a4=>?_⟩,⟨z2,up _ _ D.TIz (kk _ _ D.TIz D.TITO D.TIi1 D.TIi2 s2),⟨u,v,up _ _ D.TOz t1⟩,j1.at fun o e=>up _ o D.i1z e,j2.at fun o e=>up _ o D.i2z e⟩,fun c hc=>(fp2 c hc).1⟩
  rw[I.Wv a1 hq1,hx] at a3
  rw[I.Wv a2 hq2,hy] at a4
  cases a3
  cases a4
  rfl
 done:=by
  intro X hP hw hK hc i pins s σ H E I hf st hg
  subst hP hw hK
  obtain⟨xs,ys,hq1,hq2,hend⟩:=hg
  obtain⟨Al3,rv1,p1,_⟩:=I.list hq1
  obtain⟨its2,rv2,p2,_⟩:=I.list hq2
  have l1:=rv1.length
  have l2:=rv2.length
  obtain⟨s1,s2,⟨p,q,s3⟩,s4,s5⟩:=st
  refine wpAny_pyNext_zip_end (I.ok.hd hc) D s1 s2 s3 s4 s5 p1.isList p2.isList ?_ fun h' kk=>⟨rfl,I.AeG (t':=s.toks) (its:=[z,TI,TO,i1,i2]) (fun c o hc e=>?_) hf⟩
  ·rcases hend with e | e
   ·exact .inl (by simp;omega)
   ·exact .inr (by simp;omega)
  ·simp only [A5U,A5V,or_false,not_or] at hc
   exact kk c o hc.1 hc.2.2.1 hc.2.2.2.1 hc.2.2.2.2 e
 self:=fun _ _ _ _ _ st h=>wpAny_pyIter_zip st.1 h
section
variable {X:Cx}{es:List Expr}{kx:Nat}{tp:Pos}
def A4n (K:PySem.W.Frag)(ta:TA):TI:=fun σ H R=>ta σ H fun vs H1=>∃ a b,vs=[.ref a,.ref b]∧(∃ xs,SqL K H1 a xs)∧(∃ ys,SqL K H1 b ys)∧R (Itz K a b) H1
theorem AwX{K:PySem.W.Frag}{a b:Expr}{ta:TA}{p pos:Pos}(hg:Gl X "zip") (hm:X.mg "zip" = none) (ha:PA X [a,b] ta) (hK:X.K=K:=by rfl) (hs:starEach [a,b] X.env=[(false,eval a X.env),(false,eval b X.env)]:=by rfl) (hs2:starEach [b] X.env=[(false,eval b X.env)]:=by rfl) :
  PI X (.Tuple es kx tp) (.Call (.Name "zip" p) [a,b] [] pos) (A4n K ta):=by
 subst hK
 intro pins s σ H R I h
 refine Call_ (ZC I hg hm AwL (PyProof.Rows.callWith_type1 (thn (ha pos pins s σ H _ I h) fun us s1 ⟨vs,H1,I1,r1,q1⟩=>?_) (by rw[hs,hs2]) (by rw[hs2];rfl)))
 obtain⟨a,b,e,⟨xs,hq1⟩,⟨ys,hq2⟩,q⟩:=q1
 subst e
 cases r1 with
 | cons r rr =>
  cases rr with
  | cons r' rr =>
   cases rr
   cases r
   cases r'
   obtain⟨Al3,rv1,p1,_⟩:=I1.list hq1
   obtain⟨its2,rv2,p2,_⟩:=I1.list hq2
   obtain⟨o1,e1,_⟩:=id p1.isList
   obtain⟨o2,e2,_⟩:=id p2.isList
   refine call_zip_2 p1.isList p2.isList fun h' hz hTI hTO j1 j2 hsz kk=>wpAny_pyIter_zip hz ?_
   refine⟨_,[s1.heap.objs.size+4,s1.heap.objs.size+2,s1.heap.objs.size+3,s1.heap.objs.size,s1.heap.objs.size+1],_,_,H1,rfl,I1.kept (t':=s1.toks) kk,AwW (zipApart_new (Heap.lt_size e1) (Heap.lt_size e2)),
    ⟨hz,hTI,⟨_,_,hTO⟩,j1,j2⟩,fun c hc=>?_,q⟩
   have le:s1.heap.objs.size≤c:=by
    simp only [A5U,A5V,or_false] at hc
    rcases hc with e | e | e | e | e <;> subst e <;> omega
   exact I1.Avx le (I1.hok.fresh le)
theorem AuL{K:PySem.W.Frag}{a b:Addr}{xs ys:List V}{g:TG}{tb:TS}{D:Ends}{σ:St}{H:Hp}{n:Nat}(hn:n=min xs.length ys.length)(Pv:Nat→St→Hp→Prop)(h0:Pv 0 σ H)(hl:∀ i σ H,Pv i σ H→SqL K H a xs∧SqL K H b ys)
  (hs:∀ i x y σ H T,xs[i]?=some x→ys[i]?=some y→Pv i σ H→H T=none→g (.ref T) σ (upd H T (.tup [x,y])) fun σ2 H2=>tb { D with nx:=Pv (i+1),ct:=Pv (i+1),bk:=D.nx } σ2 H2) (hd:∀ σ H,Pv n σ H→D.nx σ H) :
  ∃ W:Nat→Nat→St→Hp→Prop,(∃ m,W 0 m σ H)∧∀ i m σ H,W i m σ H →
   ((Itz K a b).stop i H∧D.nx σ H)∨((Itz K a b).go i H∧∃ N:St→Hp→Prop,(∀ σ' H',N σ' H'→∃ m',m'<m∧W (i+1) m' σ' H')∧∀ x H',(Itz K a b).yld i H x H'→g x σ H' fun σ2 H2=>tb { D with nx:=N,ct:=N,bk:=D.nx } σ2 H2):=by
 refine⟨fun i m σ H=>m=n-i∧i≤n∧Pv i σ H,⟨n,by simp,A6c _,h0⟩,?_⟩
 rintro i m σ H ⟨rfl,hi,p⟩
 obtain⟨q1,q2⟩:=hl i σ H p
 by_cases hlt:i<n
 ·have x1:i<xs.length:=by omega
  have y1:i<ys.length:=by omega
  refine .inr ⟨⟨xs,ys,xs[i],ys[i],q1,q2,A5L x1,A5L y1⟩,Pv (i+1),fun σ' H' p'=>⟨n-(i+1),by omega,rfl,hlt,p'⟩,fun x H' y=>?_⟩
  obtain⟨T,rfl,hT,y⟩:=y
  have e:=y xs ys _ _ q1 q2 (A5L x1) (A5L y1)
  subst e
  exact hs i _ _ σ H T (A5L x1) (A5L y1) p hT
 ·have e:i=n:=by omega
  subst e
  exact .inl ⟨⟨xs,ys,q1,q2,by omega⟩,hd σ H p⟩
end
open PySem PySem.Spec PyProof.Rows
def A5r (K:PySem.W.Frag):R2:=fun x y H Q=>∃(p q:Addr) (as:List Addr) (ks:List Int),x=.ref p∧y=.ref q∧SqL K H q (as.map V.ref)∧SqT K H p (vI ks) ∧
 (∀ a∈as,∃ js:List Int,SqT K H a (vI js))∧(∃ a∈as,SqT K H a (vI ks))∧Q (.bl true) H
section
variable {X:Cx}{K:PySem.W.Frag}
end
open PySem PySem.Spec PyProof.Rows
section
variable {prog:Program}{w:World}{A:Around}{E:Value→Shared→Prop}{s:Shared}
theorem AwY(hh:A.handled=none)(it:Addr)(x:Str)(t:Tok):Draws prog w A it [it] x.cps.size (fun i v=>∃ c u,x.cps[i]?=some c∧v=.str ⟨#[c]⟩ u) (fun i h=>h.IsStrIter it (strIterType x) x t i):=by
 unfold strIterType
 split
 ·exact Draws.strAscii hh it x t
 ·exact Draws.strWide hh it x t
structure Ajp (z TI TO i1 i2:Addr):Prop where
 TIz:TI≠z
 TOz:TO≠z
 i1z:i1≠z
 i2z:i2≠z
 TITO:TI≠TO
 TIi1:TI≠i1
 TIi2:TI≠i2
 TOi1:TO≠i1
 TOi2:TO≠i2
 i12:i1≠i2
theorem AvP{z TI TO i1 i2:Addr}{fp1 fp2:List Addr}{n1 n2 k:Nat}{P1 P2:Nat→Value→Prop}{S1 S2:Nat→Heap→Prop}{a b:Value}{Q:Value→Shared→Prop}(D:Ajp z TI TO i1 i2)
  (D1:∀ A':Around,A'.handled=none→Draws prog w A' i1 fp1 n1 P1 S1) (D2:∀ A':Around,A'.handled=none→Draws prog w A' i2 fp2 n2 P2 S2) (hh:A.handled=none)
  (f1:∀ c∈fp1,c≠z∧c≠TO∧c≠i2) (f2:∀ c∈fp2,c≠z∧c≠TO∧c≠i1)
  (hz:IsZip s.heap z TI TO .none) (hTI:IsPair s.heap TI (.ref i1) (.ref i2)) (hTO:IsPair s.heap TO a b) (h1:S1 k s.heap) (h2:S2 k s.heap) (lt1:k<n1) (lt2:k<n2)
  (hQ:∀ x y h' tk,P1 k x→P2 k y→IsZip h' z TI TO (rawInt s.heap.objs.size)→IsPair h' TO x y→S1 (k+1) h'→S2 (k+1) h'→IsPair h' s.heap.objs.size x y→h'.objs.size=s.heap.objs.size+1 →
   (∀ c o,c≠z→c≠TO→c≠i1→c≠i2→s.heap.get? c=some o→h'.get? c=some o)→Q (.ref s.heap.objs.size) { s with heap:=h',toks:=tk }) :
  wpAny (model prog w) A (Builtin.«zip.__next__» ⟨[.ref z],[]⟩) (fun fin s'=>∃ v,fin=.done (.ret v)∧Q v s') E s:=by
 show wpAny _ _ (field (.ref z) 2 >>= _) _ _ _
 refine wpAny_bind (wpAny_field hz rfl (x:=.bool false) rfl ?_)
 show wpAny _ _ (field (.ref z) 3 >>= _) _ _ _
 refine wpAny_bind (wpAny_field hz rfl (x:=.ref TI) rfl ?_)
 refine wpAny_bind (wpAny_seqItems hTI rfl ?_)
 show wpAny _ _ (Builtin.SmallTypes.ownedTupleIsFree (.ref z) >>= _) _ _ _
 refine wpAny_bind ?_
 unfold Builtin.SmallTypes.ownedTupleIsFree
 refine wpAny_bind (wpAny_field hz rfl (x:=.none) rfl (wpAny_pure ?_))
 simp only [if_true]
 refine wpAny_bind (wpAny_rule ?_)
 refine wpAny_bind (wpAny_field hz rfl (x:=.ref TO) rfl ?_)
 refine wpAny_bind (wpAny_setField_rec hz (by simp) fun h₁ hz₁ hs₁=>?_)
 replace hz₁:IsZip h₁ z TI TO .ellipsis:=hz₁
 refine wpAny_bind ?_
 simp only [List.zipIdx_cons,List.zipIdx_nil,A7b,List.forIn_nil]
 refine wpAny_bind (wpAny_bind (wpAny_onRaise ?_))
 show wpAny _ _ (Builtin.SmallTypes.nextOf (.ref i1) >>= _) _ _ _
 refine wpAny_bind ((D1 _ hh).item k _ _ _ lt1 ((D1 A hh).frame _ _ _ h1 fun c hc o e=>hs₁.extBut _ _ (f1 c hc).1 e) fun x h₂ tk₂ px h1₂ hs₂=>wpAny_pure ?_)
 have hs₂:Heap.SameBut i1 h₁ h₂:=hs₂
 have hTO₂:IsPair h₂ TO a b:=hs₂.extBut _ _ D.TOi1 (hs₁.extBut _ _ D.TOz hTO)
 refine wpAny_bind (wpAny_seqItems hTO₂ rfl ?_)
 refine wpAny_bind (wpAny_updateSeq_pair hTO₂ fun h₃ hTO₃ hs₃=>?_)
 have hs₃:Heap.SameBut TO h₂ h₃:=hs₃
 replace hTO₃:IsPair h₃ TO x b:=hTO₃
 refine wpAny_bind (wpAny_letGo (wpAny_pure ?_))
 refine wpAny_bind (wpAny_bind (wpAny_onRaise ?_))
 show wpAny _ _ (Builtin.SmallTypes.nextOf (.ref i2) >>= _) _ _ _
 refine wpAny_bind ((D2 _ hh).item k _ _ _ lt2 ((D2 A hh).frame _ _ _ h2 fun c hc o e=>hs₃.extBut _ _ (f2 c hc).2.1 (hs₂.extBut _ _ (f2 c hc).2.2 (hs₁.extBut _ _ (f2 c hc).1 e))) fun y h₄ tk₄ py h2₄ hs₄=>wpAny_pure ?_)
 have hs₄:Heap.SameBut i2 h₃ h₄:=hs₄
 have hTO₄:IsPair h₄ TO x b:=hs₄.extBut _ _ D.TOi2 hTO₃
 refine wpAny_bind (wpAny_seqItems hTO₄ rfl ?_)
 refine wpAny_bind (wpAny_updateSeq_pair hTO₄ fun h₅ hTO₅ hs₅=>?_)
 have hs₅:Heap.SameBut TO h₄ h₅:=hs₅
 replace hTO₅:IsPair h₅ TO x y:=hTO₅
 refine wpAny_bind (wpAny_letGo (wpAny_pure (wpAny_pure ?_)))
 refine wpAny_bind (wpAny_seqItems hTO₅ rfl ?_)
 refine wpAny_bind (wpAny_newTuple ?_)
 have hsz:h₅.objs.size=s.heap.objs.size:=by rw[hs₅.1,hs₄.1,hs₃.1,hs₂.1,hs₁.1]
 have hz₅:IsZip h₅ z TI TO .ellipsis:=hs₅.extBut _ _ D.TOz.symm (hs₄.extBut _ _ D.i2z.symm (hs₃.extBut _ _ D.TOz.symm (hs₂.extBut _ _ D.i1z.symm hz₁)))
 have hk₅:∀ c o,c≠z→c≠TO→c≠i1→c≠i2→s.heap.get? c=some o→h₅.get? c=some o:=fun c o c1 c2 c3 c4 e =>
  hs₅.extBut _ _ c2 (hs₄.extBut _ _ c4 (hs₃.extBut _ _ c2 (hs₂.extBut _ _ c3 (hs₁.extBut _ _ c1 e))))
 have h1₅:S1 (k+1) h₅:=(D1 A hh).frame _ _ _ h1₂ fun c hc o e=>hs₅.extBut _ _ (f1 c hc).2.1 (hs₄.extBut _ _ (f1 c hc).2.2 (hs₃.extBut _ _ (f1 c hc).2.1 e))
 have h2₅:S2 (k+1) h₅:=(D2 A hh).frame _ _ _ h2₄ fun c hc o e=>hs₅.extBut _ _ (f2 c hc).2.1 e
 have hzlt:z<h₅.objs.size:=Heap.lt_size hz₅
 show wpAny _ _ (Builtin.SmallTypes.ownedTupleHandOut (.ref z) (.ref h₅.objs.size) >>= _) _ _ _
 refine wpAny_bind ?_
 unfold Builtin.SmallTypes.ownedTupleHandOut
 have hz₆:IsZip (h₅.push { cls:=.type "tuple", data:=.seq #[x,y] }) z TI TO .ellipsis:=Heap.get?_push_of_some _ hz₅
 refine wpAny_bind (wpAny_setField_rec hz₆ (by simp) fun h₇ hz₇ hs₇=>?_)
 replace hz₇:IsZip h₇ z TI TO (rawInt h₅.objs.size):=hz₇
 refine wpAny_setField_rec hz₇ (by simp) fun h₈ hz₈ hs₈=>?_
 replace hz₈:IsZip h₈ z TI TO (rawInt h₅.objs.size):=hz₈
 have up:∀ c o,c≠z→h₅.get? c=some o→h₈.get? c=some o:=fun c o c1 e=>hs₈.extBut _ _ c1 (hs₇.extBut _ _ c1 (Heap.get?_push_of_some _ e))
 have hT₈:IsPair h₈ h₅.objs.size x y:=hs₈.extBut _ _ (A6x hzlt) (hs₇.extBut _ _ (A6x hzlt) (Heap.get?_push_size _ rfl))
 have hz8:h₈.objs.size=h₅.objs.size+1:=by rw[hs₈.1,hs₇.1,Heap.size_push]
 rw[hsz] at hz₈ hT₈ hz8
 refine wpAny_pure ⟨_,rfl,?_⟩
 show Q (.ref h₅.objs.size) _
 rw[hsz]
 exact hQ x y h₈ tk₄ px py hz₈ (up _ _ D.TOz hTO₅) ((D1 A hh).frame _ _ _ h1₅ fun c hc o e=>up _ o (f1 c hc).1 e) ((D2 A hh).frame _ _ _ h2₅ fun c hc o e=>up _ o (f2 c hc).1 e) hT₈ hz8 fun c o c1 c2 c3 c4 e=>up c o c1 (hk₅ c o c1 c2 c3 c4 e)
theorem AwZ{z TI TO i1 i2:Addr}{fp1 fp2:List Addr}{n1 n2 k:Nat}{P1 P2:Nat→Value→Prop}{S1 S2:Nat→Heap→Prop}{a b:Value}{Q:Fin→Shared→Prop}(D:Ajp z TI TO i1 i2)
  (D1:∀ A':Around,A'.handled=none→Draws prog w A' i1 fp1 n1 P1 S1) (D2:∀ A':Around,A'.handled=none→Draws prog w A' i2 fp2 n2 P2 S2) (hh:A.handled=none)
  (f1:∀ c∈fp1,c≠z∧c≠TO∧c≠i2) (f2:∀ c∈fp2,c≠z∧c≠TO∧c≠i1)
  (hz:IsZip s.heap z TI TO .none) (hTI:IsPair s.heap TI (.ref i1) (.ref i2)) (hTO:IsPair s.heap TO a b) (h1:S1 k s.heap) (h2:S2 k s.heap) (hend:k=n1∨(k<n1∧k=n2))
  (hE:∀ h' e tk,(∀ c o,c≠z→c≠TO→c≠i1→c≠i2→s.heap.get? c=some o→h'.get? c=some o)→(∃ o,h'.get? e=some o∧o.cls=.type "StopIteration")→E (.ref e) { s with heap:=h',toks:=tk }) :
  wpAny (model prog w) A (Builtin.«zip.__next__» ⟨[.ref z],[]⟩) Q E s:=by
 show wpAny _ _ (field (.ref z) 2 >>= _) _ _ _
 refine wpAny_bind (wpAny_field hz rfl (x:=.bool false) rfl ?_)
 show wpAny _ _ (field (.ref z) 3 >>= _) _ _ _
 refine wpAny_bind (wpAny_field hz rfl (x:=.ref TI) rfl ?_)
 refine wpAny_bind (wpAny_seqItems hTI rfl ?_)
 show wpAny _ _ (Builtin.SmallTypes.ownedTupleIsFree (.ref z) >>= _) _ _ _
 refine wpAny_bind ?_
 unfold Builtin.SmallTypes.ownedTupleIsFree
 refine wpAny_bind (wpAny_field hz rfl (x:=.none) rfl (wpAny_pure ?_))
 simp only [if_true]
 refine wpAny_bind (wpAny_rule ?_)
 refine wpAny_bind (wpAny_field hz rfl (x:=.ref TO) rfl ?_)
 refine wpAny_bind (wpAny_setField_rec hz (by simp) fun h₁ hz₁ hs₁=>?_)
 replace hz₁:IsZip h₁ z TI TO .ellipsis:=hz₁
 refine wpAny_bind ?_
 simp only [List.zipIdx_cons,List.zipIdx_nil,A7b,List.forIn_nil]
 refine wpAny_bind (wpAny_bind (wpAny_onRaise ?_))
 show wpAny _ _ (Builtin.SmallTypes.nextOf (.ref i1) >>= _) _ _ _
 have g1:S1 k h₁:=(D1 A hh).frame _ _ _ h1 fun c hc o e=>hs₁.extBut _ _ (f1 c hc).1 e
 rcases hend with hk | ⟨lt1,hk⟩
 ·subst hk
  refine wpAny_bind ((D1 _ hh).done _ _ _ g1 fun h₂ e hs₂ he=>?_)
  have hs₂:Heap.ExtBut i1 h₁ h₂:=hs₂
  obtain⟨oe,hoe,hce⟩:=he
  have hz₂:IsZip h₂ z TI TO .ellipsis:=hs₂ _ _ D.i1z.symm hz₁
  have hez:e≠z:=fun x=>by subst x;rw[hz₂] at hoe;cases hoe;simp at hce
  refine wpAny_setField_rec hz₂ (by simp) fun h₃ _ hs₃=>hE h₃ e _ (fun c o c1 _ c3 _ x=>hs₃.extBut _ _ c1 (hs₂ _ _ c3 (hs₁.extBut _ _ c1 x))) ⟨oe,hs₃.extBut _ _ hez hoe,hce⟩
 ·refine wpAny_bind ((D1 _ hh).item k _ _ _ lt1 g1 fun x h₂ tk₂ px h1₂ hs₂=>wpAny_pure ?_)
  have hs₂:Heap.SameBut i1 h₁ h₂:=hs₂
  have hTO₂:IsPair h₂ TO a b:=hs₂.extBut _ _ D.TOi1 (hs₁.extBut _ _ D.TOz hTO)
  refine wpAny_bind (wpAny_seqItems hTO₂ rfl ?_)
  refine wpAny_bind (wpAny_updateSeq_pair hTO₂ fun h₃ hTO₃ hs₃=>?_)
  have hs₃:Heap.SameBut TO h₂ h₃:=hs₃
  refine wpAny_bind (wpAny_letGo (wpAny_pure ?_))
  refine wpAny_bind (wpAny_bind (wpAny_onRaise ?_))
  show wpAny _ _ (Builtin.SmallTypes.nextOf (.ref i2) >>= _) _ _ _
  subst hk
  refine wpAny_bind ((D2 _ hh).done _ _ _ ((D2 A hh).frame _ _ _ h2 fun c hc o e=>hs₃.extBut _ _ (f2 c hc).2.1 (hs₂.extBut _ _ (f2 c hc).2.2 (hs₁.extBut _ _ (f2 c hc).1 e))) fun h₄ e hs₄ he=>?_)
  have hs₄:Heap.ExtBut i2 h₃ h₄:=hs₄
  obtain⟨oe,hoe,hce⟩:=he
  have hz₄:IsZip h₄ z TI TO .ellipsis:=hs₄ _ _ D.i2z.symm (hs₃.extBut _ _ D.TOz.symm (hs₂.extBut _ _ D.i1z.symm hz₁))
  have hez:e≠z:=fun x=>by subst x;rw[hz₄] at hoe;cases hoe;simp at hce
  refine wpAny_setField_rec hz₄ (by simp) fun h₅ _ hs₅=>hE h₅ e _ (fun c o c1 c2 c3 c4 x=>hs₅.extBut _ _ c1 (hs₄ _ _ c4 (hs₃.extBut _ _ c2 (hs₂.extBut _ _ c3 (hs₁.extBut _ _ c1 x))))) ⟨oe,hs₅.extBut _ _ hez hoe,hce⟩
theorem At6{z TI TO i1 i2:Addr}{fp1 fp2:List Addr}{n1 n2 k:Nat}{P1 P2:Nat→Value→Prop}{S1 S2:Nat→Heap→Prop}{a b:Value}{Q:Option Value→Shared→Prop}(D:Ajp z TI TO i1 i2)
  (D1:∀ A':Around,A'.handled=none→Draws prog w A' i1 fp1 n1 P1 S1) (D2:∀ A':Around,A'.handled=none→Draws prog w A' i2 fp2 n2 P2 S2) (hh:A.handled=none)
  (f1:∀ c∈fp1,c≠z∧c≠TO∧c≠i2) (f2:∀ c∈fp2,c≠z∧c≠TO∧c≠i1)
  (hz:IsZip s.heap z TI TO .none) (hTI:IsPair s.heap TI (.ref i1) (.ref i2)) (hTO:IsPair s.heap TO a b) (h1:S1 k s.heap) (h2:S2 k s.heap) (lt1:k<n1) (lt2:k<n2)
  (hQ:∀ x y h' tk,P1 k x→P2 k y→IsZip h' z TI TO (rawInt s.heap.objs.size)→IsPair h' TO x y→S1 (k+1) h'→S2 (k+1) h'→IsPair h' s.heap.objs.size x y→h'.objs.size=s.heap.objs.size+1 →
   (∀ c o,c≠z→c≠TO→c≠i1→c≠i2→s.heap.get? c=some o→h'.get? c=some o)→Q (some (.ref s.heap.objs.size)) { s with heap:=h',toks:=tk }) :
  wpAny (model prog w) A (pyNext (.ref z)) Q E s:=by
 have hT:s.TypeIs (.ref z) "zip" := ⟨_,hz,rfl⟩
 unfold pyNext
 exact wpAny_bind (wpAny_attempt (wpAny_callSpecial?_slot (name:=Str.ofString "__next__") hT F.slot_zip_next
  (wpAny_call_entry F.slot_zip_next hT F.entry_zip_next
   (AvP D D1 D2 hh f1 f2 hz hTI hTO h1 h2 lt1 lt2 fun x y h' tk a1 a2 a3 a4 a5 a6 a7 a8 a9=>wpAny_pure (hQ x y h' tk a1 a2 a3 a4 a5 a6 a7 a8 a9)) (F.args_zip_next_1 _))))
theorem AvQ{z TI TO i1 i2:Addr}{fp1 fp2:List Addr}{n1 n2 k:Nat}{P1 P2:Nat→Value→Prop}{S1 S2:Nat→Heap→Prop}{a b:Value}{Q:Option Value→Shared→Prop}(D:Ajp z TI TO i1 i2)
  (D1:∀ A':Around,A'.handled=none→Draws prog w A' i1 fp1 n1 P1 S1) (D2:∀ A':Around,A'.handled=none→Draws prog w A' i2 fp2 n2 P2 S2) (hh:A.handled=none)
  (f1:∀ c∈fp1,c≠z∧c≠TO∧c≠i2) (f2:∀ c∈fp2,c≠z∧c≠TO∧c≠i1)
  (hz:IsZip s.heap z TI TO .none) (hTI:IsPair s.heap TI (.ref i1) (.ref i2)) (hTO:IsPair s.heap TO a b) (h1:S1 k s.heap) (h2:S2 k s.heap) (hend:k=n1∨(k<n1∧k=n2))
  (hQ:∀ h' tk,(∀ c o,c≠z→c≠TO→c≠i1→c≠i2→s.heap.get? c=some o→h'.get? c=some o)→Q none { s with heap:=h',toks:=tk }):wpAny (model prog w) A (pyNext (.ref z)) Q E s:=by
 have hT:s.TypeIs (.ref z) "zip" := ⟨_,hz,rfl⟩
 unfold pyNext
 refine wpAny_bind (wpAny_attempt (wpAny_callSpecial?_slot (name:=Str.ofString "__next__") hT F.slot_zip_next
  (wpAny_call_entry F.slot_zip_next hT F.entry_zip_next (AwZ D D1 D2 hh f1 f2 hz hTI hTO h1 h2 hend fun h' e tk hk he=>?_) (F.args_zip_next_1 _))))
 obtain⟨o,ho,hc⟩:=he
 refine wpAny_bind (wpAny_isInstance (T := "StopIteration") (b:=true) ⟨o,ho,hc⟩ isSubtype_stop ?_)
 exact wpAny_pure (hQ _ _ hk)
abbrev Afq (x:Str) (t:Tok):Obj:={ cls:=.type (strIterType x),data:=.fields #[.str x t,.int 0 0] }
abbrev AuM (l:Addr):Obj:={ cls:=.type "list_iterator", data:=.fields #[.ref l,.int 0 0] }
abbrev Aa5 (h:Heap) (o1 o2:Obj):Heap:=((((h.push o1).push o2).push { cls:=.type "tuple", data:=.seq #[.ref h.objs.size,.ref (h.push o1).objs.size] }).push { cls:=.type "tuple", data:=.seq #[.none,.none] }).push
 { cls:=.type "zip", data:=.fields #[.none,.bool false,.bool false,.ref ((h.push o1).push o2).objs.size,.ref (((h.push o1).push o2).push { cls:=.type "tuple", data:=.seq #[.ref h.objs.size,.ref (h.push o1).objs.size] }).objs.size] }
abbrev ApR (h:Heap) (o1 o2:Obj):Addr:=((((h.push o1).push o2).push { cls:=.type "tuple", data:=.seq #[.ref h.objs.size,.ref (h.push o1).objs.size] }).push { cls:=.type "tuple", data:=.seq #[.none,.none] }).objs.size
set_option maxHeartbeats 4000000 in
theorem Ash(l1:Addr)(xs:Array Value)(x:Str)(t:Tok) :
  Meets (Builtin.«zip.__new__» ⟨[.type "zip", .ref l1,.str x t],[]⟩) (fun _ R s=>s.heap.IsList l1 xs∧R (.ok (.ret (.ref (ApR s.heap (AuM l1) (Afq x t))))) { s with heap:=Aa5 s.heap (AuM l1) (Afq x t) }) :=
 .of_wp fun prog w A R s h=>by
  obtain⟨hp,g,d,tk,os⟩:=s;obtain⟨hl1,h⟩:=h
  have hsub:=sub_zip
  have hL1:Heap.IsList (Shared.heap ⟨hp,g,d,tk,os⟩) l1 xs:=hl1
  wp_walk using wpAny_pyIter_list hL1,wpAny_pyIter_strU
  exact⟨_,rfl,h⟩
set_option maxHeartbeats 4000000 in
theorem Asi(y:Str)(u:Tok)(x:Str)(t:Tok) :
  Meets (Builtin.«zip.__new__» ⟨[.type "zip", .str y u,.str x t],[]⟩) (fun _ R s=>R (.ok (.ret (.ref (ApR s.heap (Afq y u) (Afq x t))))) { s with heap:=Aa5 s.heap (Afq y u) (Afq x t) }) :=
 .of_wp fun prog w A R s h=>by
  obtain⟨hp,g,d,tk,os⟩:=s
  have hsub:=sub_zip
  wp_walk using wpAny_pyIter_strU
  exact⟨_,rfl,h⟩
end
open PySem PySem.Spec PyProof.Rows
inductive Src where
 | l (a:Addr)
 | s (z:Str)
def A2v:Src→V
 | .l a=>.ref a
 | .s z=>.str z
def AmE (K:PySem.W.Frag)(H:Hp):Src→Prop
 | .l a=>∃ xs,SqL K H a xs
 | .s _=>True
def AcT (K:PySem.W.Frag)(H:Hp):Src→Nat→V→Prop
 | .l a,i,v=>∃ xs,SqL K H a xs∧xs[i]?=some v
 | .s z,i,v=>∃ c,z.cps[i]?=some c∧v=.str ⟨#[c]⟩
def At7 (K:PySem.W.Frag)(H:Hp):Src→Nat→Prop
 | .l a,i=>∃ xs,SqL K H a xs∧xs.length=i
 | .s z,i=>z.cps.size=i
def Ah9 (it:Addr)(t:Tok):Src→Nat→Heap→Prop
 | .l a,i,h=>h.IsListIter it a i
 | .s z,i,h=>h.IsStrIter it (strIterType z) z t i
def Axa (it:Addr):Src→List Addr
 | .l a=>[it,a]
 | .s _=>[it]
def A4Q (t:Tok):Src→Obj
 | .l a=>AuM a
 | .s z=>Afq z t
theorem AmF{X:Cx}{pins:List (Addr × Obj)}{σ:St}{H:Hp}{s:Shared}(I:Inv X pins σ H s){S:Src}{i:Nat}{u v:V}(h1:AcT X.K H S i u)(h2:AcT X.K H S i v):u=v:=by
 cases S with
 | l a =>
  obtain⟨xs,q1,e1⟩:=h1
  obtain⟨ys,q2,e2⟩:=h2
  rw[I.Wv q2 q1,e1] at e2
  exact Option.some.inj e2
 | s z =>
  obtain⟨c,e1,rfl⟩:=h1
  obtain⟨d,e2,rfl⟩:=h2
  rw[e1] at e2
  cases e2
  rfl
theorem AeH{X:Cx}{pins:List (Addr × Obj)}{σ:St}{H:Hp}{s:Shared}(I:Inv X pins σ H s){it:Addr}{t:Tok}{S:Src}{i:Nat}(st:Ah9 it t S i s.heap)(ok:AmE X.K H S)(ap:∀ a,S=.l a→a≠it) :
  ∃(n:Nat) (Pd:Nat→Value→Prop) (Sd:Nat→Heap→Prop),(∀ A':Around,A'.handled=none→Draws X.prog X.w A' it (Axa it S) n Pd Sd)∧Sd i s.heap∧(∀ h',Sd (i+1) h'→Ah9 it t S (i+1) h') ∧
   (∀ v,AcT X.K H S i v→i<n∧∀ u,Pd i u→RelV v u)∧(At7 X.K H S i→i=n):=by
 cases S with
 | l a =>
  obtain⟨xs,q⟩:=ok
  obtain⟨its,rv,p1,_⟩:=I.list q
  have len:=rv.length
  refine⟨_,_,_,fun A' hh=>Draws.list hh it a (ap a rfl) its.toArray,⟨st,p1.isList⟩,fun h' z=>z.1,fun v hv=>?_,fun he=>?_⟩
  ·obtain⟨ys,q2,e⟩:=hv
   rw[I.Wv q2 q] at e
   obtain⟨u,hu,r⟩:=rv.get e
   refine⟨by have:=(List.getElem?_eq_some_iff.mp hu).1;simpa using this,fun u' hu'=>?_⟩
   have:its[i]?=some u':=by simpa using hu'
   rw[hu] at this
   cases this
   exact r
  ·obtain⟨ys,q2,e⟩:=he
   rw[I.Wv q2 q] at e
   simp only [A5R]
   omega
 | s z =>
  refine⟨_,_,_,fun A' hh=>AwY hh it z t,st,fun h' z=>z,fun v hv=>?_,fun he=>he.symm⟩
  obtain⟨c,e,rfl⟩:=hv
  refine⟨by rw[Array.getElem?_eq_some_iff] at e;exact e.1,fun u ⟨d,tk,e2,hu⟩=>?_⟩
  rw[e] at e2
  cases e2
  exact⟨tk,hu⟩
def AyV (K:PySem.W.Frag)(S1 S2:Src):It where
 go:=fun i H=>(∃ u,AcT K H S1 i u)∧∃ v,AcT K H S2 i v
 yld:=fun i H x H'=>∃ T,x=.ref T∧H T=none∧∀ u v,AcT K H S1 i u→AcT K H S2 i v→H'=upd H T (.tup [u,v])
 stop:=fun i H=>AmE K H S1∧AmE K H S2∧(At7 K H S1 i∨((∃ u,AcT K H S1 i u)∧At7 K H S2 i))
theorem Asj{K:PySem.W.Frag}{H:Hp}{S:Src}{i:Nat}{u:V}(h:AcT K H S i u):AmE K H S:=by
 cases S with
 | l a=>obtain⟨xs,q,_⟩:=h;exact⟨xs,q⟩
 | s z=>trivial
def A0J (z TI TO i1 i2:Addr)(t1 t2:Tok)(S1 S2:Src)(i:Nat)(h:Heap):Prop:=IsZip h z TI TO .none∧IsPair h TI (.ref i1) (.ref i2)∧(∃ p q,IsPair h TO p q)∧Ah9 i1 t1 S1 i h∧Ah9 i2 t2 S2 i h
theorem AhA{it:Addr}{t:Tok}{S:Src}{i:Nat}{h h':Heap}(st:Ah9 it t S i h)(k:∀ o,h.get? it=some o→h'.get? it=some o):Ah9 it t S i h':=by
 cases S with
 | l a=>exact Heap.IsListIter.at st k
 | s z=>obtain⟨o,e,c⟩:=st;exact⟨o,k o e,c⟩
theorem AeI{it:Addr}{t:Tok}{S:Src}{i:Nat}{h:Heap}(st:Ah9 it t S i h):∃ o,h.get? it=some o∧∀ v,o.data≠.cell v:=by
 cases S with
 | l a=>obtain⟨o,e,_,d⟩:=st;exact⟨o,e,fun v z=>by rw[d] at z;cases z⟩
 | s z=>obtain⟨o,e,_,d⟩:=st;exact⟨o,e,fun v z=>by rw[d] at z;cases z⟩
theorem AvR{P:Program}{w:World}{K:PySem.W.Frag}{es:List Expr}{kx:Nat}{tp:Pos}{z TI TO i1 i2:Addr}{t1 t2:Tok}{S1 S2:Src}(D:Ajp z TI TO i1 i2)
  (a1:∀ a,S1=.l a→a≠z∧a≠TO∧a≠i1∧a≠i2) (a2:∀ a,S2=.l a→a≠z∧a≠TO∧a≠i1∧a≠i2) :
  Turn P w K (.Tuple es kx tp) (AyV K S1 S2) [z,TI,TO,i1,i2] z (A0J z TI TO i1 i2 t1 t2 S1 S2):=by
 have f1:∀ c∈Axa i1 S1,c≠z∧c≠TO∧c≠i2:=fun c hc=>by
  cases S1 with
  | l a =>
   rcases List.mem_cons.mp hc with e | e
   ·subst e;exact⟨D.i1z,D.TOi1.symm,D.i12⟩
   ·rw[List.mem_singleton.mp e];exact⟨(a1 a rfl).1,(a1 a rfl).2.1,(a1 a rfl).2.2.2⟩
  | s x=>rw[List.mem_singleton.mp hc];exact⟨D.i1z,D.TOi1.symm,D.i12⟩
 have f2:∀ c∈Axa i2 S2,c≠z∧c≠TO∧c≠i1:=fun c hc=>by
  cases S2 with
  | l a =>
   rcases List.mem_cons.mp hc with e | e
   ·subst e;exact⟨D.i2z,D.TOi2.symm,D.i12.symm⟩
   ·rw[List.mem_singleton.mp e];exact⟨(a2 a rfl).1,(a2 a rfl).2.1,(a2 a rfl).2.2.1⟩
  | s x=>rw[List.mem_singleton.mp hc];exact⟨D.i2z,D.TOi2.symm,D.i12.symm⟩
 exact {
  mem:=by simp
  obj:=fun i h st c hc=>by
   obtain⟨s1,s2,⟨p,q,s3⟩,s4,s5⟩:=st
   simp only [A5U,A5V,or_false] at hc
   rcases hc with e | e | e | e | e
   ·subst e;exact⟨_,s1,fun v z=>by cases (show Data.fields _=Data.cell v from z)⟩
   ·subst e;exact⟨_,s2,fun v z=>by cases (show Data.seq _ _=Data.cell v from z)⟩
   ·subst e;exact⟨_,s3,fun v z=>by cases (show Data.seq _ _=Data.cell v from z)⟩
   ·subst e;exact AeI s4
   ·subst e;exact AeI s5
  keep:=fun i h h' st k=>by
   obtain⟨s1,s2,⟨p,q,s3⟩,s4,s5⟩:=st
   exact⟨k _ (by simp) _ s1,k _ (by simp) _ s2,⟨p,q,k _ (by simp) _ s3⟩,AhA s4 fun o e=>k _ (by simp) o e,AhA s5 fun o e=>k _ (by simp) o e⟩
  item:=by
   intro X hP hw hK hc i pins s σ H E I hf st hg
   subst hP hw hK
   obtain⟨⟨x,hx⟩,y,hy⟩:=hg
   obtain⟨s1,s2,⟨p,q,s3⟩,s4,s5⟩:=st
   obtain⟨n1,P1,Q1,D1,g1,e1,v1,_⟩:=AeH I s4 (Asj hx) (fun a e=>(a1 a e).2.2.1)
   obtain⟨n2,P2,Q2,D2,g2,e2,v2,_⟩:=AeH I s5 (Asj hy) (fun a e=>(a2 a e).2.2.2)
   obtain⟨l1,r1⟩:=v1 x hx
   obtain⟨l2,r2⟩:=v2 y hy
   refine At6 D D1 D2 (I.ok.hd hc) f1 f2 s1 s2 s3 g1 g2 l1 l2 fun u v h1 tk pu pv z1 w1 j1 j2 hT hsz kk=>?_
   have ru:=r1 u pu
   have rw':=r2 v pv
   refine⟨_,rfl,wpAny_letOwnedTupleGo_zip z1 fun h2 z2 sb=>?_⟩
   have sb:Heap.SameBut z h1 h2:=sb
   have zl:z<s.heap.objs.size:=Heap.lt_size s1
   have TIl:TI<s.heap.objs.size:=Heap.lt_size s2
   have TOl:TO<s.heap.objs.size:=Heap.lt_size s3
   have i1l:i1<s.heap.objs.size:=by obtain⟨_,e,_⟩:=AeI s4;exact Heap.lt_size e
   have i2l:i2<s.heap.objs.size:=by obtain⟨_,e,_⟩:=AeI s5;exact Heap.lt_size e
   have up:∀ c o,c≠z→h1.get? c=some o→h2.get? c=some o:=fun c o c1 e=>(sb.2 c c1).trans e
   have hTn:H s.heap.objs.size=none:=I.hok.fresh (A5K _)
   have I1:Inv X pins σ (upd H s.heap.objs.size (.tup [x,y])) { s with heap:=s.heap.push { cls:=.type "tuple", data:=.seq #[u,v] },toks:=tk } :=
    I.laid (fun c o e=>Heap.get?_push_of_some _ e) (A5K _) ⟨by show 2≤sizeLine;decide,[u,v],.cons ru (.cons rw' .nil),⟨_,Heap.get?_push_size _ rfl,rfl,_,rfl⟩⟩
   have fp2:∀ c∈[z,TI,TO,i1,i2],Vl X pins (upd H s.heap.objs.size (.tup [x,y])) c:=fun c hc=>by
    obtain⟨f0,f⟩:=hf c hc
    refine⟨?_,f⟩
    have lt:c<s.heap.objs.size:=by
     simp only [A5U,A5V,or_false] at hc
     rcases hc with e | e | e | e | e <;> subst e <;> assumption
    rw[Bd (A5M lt)]
    exact f0
   have I2:Inv X pins σ (upd H s.heap.objs.size (.tup [x,y])) { s with heap:=h2,toks:=tk }:=by
    refine Inv.AeG (s:={ s with heap:=s.heap.push { cls:=.type "tuple", data:=.seq #[u,v] },toks:=tk }) (h':=h2) (t':=tk) (its:=[z,TI,TO,i1,i2]) I1 (fun c o hc e=>?_) fp2
    simp only [A5U,A5V,or_false,not_or] at hc
    refine up c o hc.1 ?_
    by_cases hcs:c=s.heap.objs.size
    ·subst hcs
     have e':(s.heap.push { cls:=.type "tuple", data:=.seq #[u,v] }).get? s.heap.objs.size=some { cls:=.type "tuple", data:=.seq #[u,v] }:=Heap.get?_push_size _ rfl
     rw[e'] at e
     cases e
     exact hT
    ·have e':s.heap.get? c=some o:=by
      rw[← e]
      exact(Heap.get?_push_ne _ _ _ hcs).symm
     exact kk c o hc.1 hc.2.2.1 hc.2.2.2.1 hc.2.2.2.2 e'
   refine⟨.ref s.heap.objs.size,_,I2,rfl,⟨s.heap.objs.size,rfl,hTn,fun u' v' q1 q2=>?_⟩,⟨z2,up _ _ D.TIz (kk _ _ D.TIz D.TITO D.TIi1 D.TIi2 s2),⟨u,v,up _ _ D.TOz w1⟩,AhA (e1 _ j1) fun o e=>up _ o D.i1z e,AhA (e2 _ j2) fun o e=>up _ o D.i2z e⟩,fun c hc=>(fp2 c hc).1⟩
   rw[AmF I q1 hx,AmF I q2 hy]
  done:=by
   intro X hP hw hK hc i pins s σ H E I hf st hg
   subst hP hw hK
   obtain⟨o1,o2,hend⟩:=hg
   obtain⟨s1,s2,⟨p,q,s3⟩,s4,s5⟩:=st
   obtain⟨n1,P1,Q1,D1,g1,e1,v1,d1⟩:=AeH I s4 o1 (fun a e=>(a1 a e).2.2.1)
   obtain⟨n2,P2,Q2,D2,g2,e2,v2,d2⟩:=AeH I s5 o2 (fun a e=>(a2 a e).2.2.2)
   have he:i=n1∨(i<n1∧i=n2):=by
    rcases hend with h | ⟨⟨u,hu⟩,h⟩
    ·exact .inl (d1 h)
    ·exact .inr ⟨(v1 u hu).1,d2 h⟩
   refine AvQ D D1 D2 (I.ok.hd hc) f1 f2 s1 s2 s3 g1 g2 he fun h' tk kk=>⟨rfl,I.AeG (t':=tk) (its:=[z,TI,TO,i1,i2]) (fun c o hc e=>?_) hf⟩
   simp only [A5U,A5V,or_false,not_or] at hc
   exact kk c o hc.1 hc.2.2.1 hc.2.2.2.1 hc.2.2.2.2 e
  self:=fun _ _ _ _ _ st h=>wpAny_pyIter_zip st.1 h }
theorem Asl{h:Heap}{o1 o2:Obj}(e1:o1.isFreed=false)(e2:o2.isFreed=false):ApR h o1 o2=h.objs.size+4∧IsZip (Aa5 h o1 o2) (h.objs.size+4) (h.objs.size+2) (h.objs.size+3) .none ∧
  IsPair (Aa5 h o1 o2) (h.objs.size+2) (.ref h.objs.size) (.ref (h.objs.size+1))∧IsPair (Aa5 h o1 o2) (h.objs.size+3) .none .none∧(Aa5 h o1 o2).get? h.objs.size=some o1∧(Aa5 h o1 o2).get? (h.objs.size+1)=some o2 ∧
  ∀ c o,h.get? c=some o→(Aa5 h o1 o2).get? c=some o:=by
 have z1:(h.push o1).objs.size=h.objs.size+1:=Heap.size_push ..
 have z2:((h.push o1).push o2).objs.size=h.objs.size+2:=by rw[Heap.size_push,z1]
 have z3:(((h.push o1).push o2).push { cls:=.type "tuple", data:=.seq #[.ref h.objs.size,.ref (h.push o1).objs.size] }).objs.size=h.objs.size+3:=by rw[Heap.size_push,z2]
 have z4:ApR h o1 o2=h.objs.size+4:=by unfold ApR;rw[Heap.size_push,z3]
 have g5:(Aa5 h o1 o2).get? (ApR h o1 o2)=some _:=Heap.get?_push_size _ rfl
 have g4:(Aa5 h o1 o2).get? (((h.push o1).push o2).push { cls:=.type "tuple", data:=.seq #[.ref h.objs.size,.ref (h.push o1).objs.size] }).objs.size=some _:=Heap.get?_push_of_some _ (Heap.get?_push_size _ rfl)
 have g3:(Aa5 h o1 o2).get? ((h.push o1).push o2).objs.size=some _:=Heap.get?_push_of_some _ (Heap.get?_push_of_some _ (Heap.get?_push_size _ rfl))
 have g2:(Aa5 h o1 o2).get? (h.push o1).objs.size=some o2:=Heap.get?_push_of_some _ (Heap.get?_push_of_some _ (Heap.get?_push_of_some _ (Heap.get?_push_size _ e2)))
 have g1:(Aa5 h o1 o2).get? h.objs.size=some o1:=Heap.get?_push_of_some _ (Heap.get?_push_of_some _ (Heap.get?_push_of_some _ (Heap.get?_push_of_some _ (Heap.get?_push_size _ e1))))
 refine⟨z4,?_,?_,?_,g1,?_,fun c o x=>Heap.get?_push_of_some _ (Heap.get?_push_of_some _ (Heap.get?_push_of_some _ (Heap.get?_push_of_some _ (Heap.get?_push_of_some _ x))))⟩
 ·rw[z4,z2,z3] at g5;exact g5
 ·rw[z2,z1] at g3;exact g3
 ·rw[z3] at g4;exact g4
 ·rw[z1] at g2;exact g2
theorem ane{a b:Nat}(h:a≠b):@Ne Addr a b:=h
theorem lne{a n:Nat}(h:a<n)(k:Nat):@Ne Addr a (n+k):=fun z=>by have z:a=n+k:=z;omega
theorem At8(n:Nat):Ajp (n+4) (n+2) (n+3) n (n+1) where
 TIz:=ane (by omega)
 TOz:=ane (by omega)
 i1z:=ane (by omega)
 i2z:=ane (by omega)
 TITO:=ane (by omega)
 TIi1:=ane (by omega)
 TIi2:=ane (by omega)
 TOi1:=ane (by omega)
 TOi2:=ane (by omega)
 i12:=ane (by omega)
section
variable {X:Cx}{es:List Expr}{kx:Nat}{tp:Pos}
def zOk:Src→Src→Prop
 | .s _,.l _=>False
 | _,_=>True
def A2w (K:PySem.W.Frag)(ta:TA):TI:=fun σ H R=>ta σ H fun vs H1=>∃ S1 S2,vs=[A2v S1,A2v S2]∧zOk S1 S2∧AmE K H1 S1∧AmE K H1 S2∧R (AyV K S1 S2) H1
theorem AuN{K:PySem.W.Frag}{a b:Expr}{ta:TA}{p pos:Pos}(hg:Gl X "zip") (hm:X.mg "zip" = none) (ha:PA X [a,b] ta) (hK:X.K=K:=by rfl) (hs:starEach [a,b] X.env=[(false,eval a X.env),(false,eval b X.env)]:=by rfl) (hs2:starEach [b] X.env=[(false,eval b X.env)]:=by rfl) :
  PI X (.Tuple es kx tp) (.Call (.Name "zip" p) [a,b] [] pos) (A2w K ta):=by
 subst hK
 intro pins s σ H R I h
 refine Call_ (ZC I hg hm AwL (PyProof.Rows.callWith_type1 (thn (ha pos pins s σ H _ I h) fun us s1 ⟨vs,H1,I1,r1,q1⟩=>?_) (by rw[hs,hs2]) (by rw[hs2];rfl)))
 obtain⟨S1,S2,e,hz,o1,o2,q⟩:=q1
 subst e
 obtain⟨u1,u2,rfl,ru1,ru2⟩:=r1.two
 have fin:∀(t1 t2:Tok) (h':Heap) (tk:Nat),IsZip h' (s1.heap.objs.size+4) (s1.heap.objs.size+2) (s1.heap.objs.size+3) .none→IsPair h' (s1.heap.objs.size+2) (.ref s1.heap.objs.size) (.ref (s1.heap.objs.size+1))→IsPair h' (s1.heap.objs.size+3) .none .none →
   Ah9 s1.heap.objs.size t1 S1 0 h'→Ah9 (s1.heap.objs.size+1) t2 S2 0 h'→(∀ c o,s1.heap.get? c=some o→h'.get? c=some o) →
   wpAny (model X.prog X.w) X.A (pyIter (.ref (s1.heap.objs.size+4))) (PIE X pins σ (.Tuple es kx tp) R) X.xe { s1 with heap:=h',toks:=tk }:=fun t1 t2 h' tk hzz hTI hTO j1 j2 kk=>by
  refine wpAny_pyIter_zip hzz ?_
  have lt:∀ S:Src,AmE X.K H1 S→∀ a,S=.l a→a<s1.heap.objs.size:=fun S ok a e=>by
   subst e
   obtain⟨xs,q⟩:=ok
   obtain⟨its,_,p1,_⟩:=I1.list q
   obtain⟨o,e,_⟩:=p1.isList
   exact Heap.lt_size e
  refine⟨_,[s1.heap.objs.size+4,s1.heap.objs.size+2,s1.heap.objs.size+3,s1.heap.objs.size,s1.heap.objs.size+1],_,_,H1,rfl,I1.kept (t':=tk) kk,AvR (t1:=t1) (t2:=t2) (At8 _) (fun a e=>?_) (fun a e=>?_),
   ⟨hzz,hTI,⟨_,_,hTO⟩,j1,j2⟩,fun c hc=>?_,q⟩
  ·have:=lt S1 o1 a e;exact⟨lne this 4,lne this 3,lne this 0,lne this 1⟩
  ·have:=lt S2 o2 a e;exact⟨lne this 4,lne this 3,lne this 0,lne this 1⟩
  ·have le:s1.heap.objs.size≤c:=by
    simp only [A5U,A5V,or_false] at hc
    rcases hc with e | e | e | e | e <;> subst e <;> omega
   exact I1.Avx le (I1.hok.fresh le)
 cases S1 with
 | l a =>
  cases ru1
  obtain⟨xs,hq1⟩:=id o1
  obtain⟨Al3,rv1,p1,_⟩:=I1.list hq1
  cases S2 with
  | l b =>
   cases ru2
   obtain⟨ys,hq2⟩:=id o2
   obtain⟨its2,rv2,p2,_⟩:=I1.list hq2
   refine call_zip_2 p1.isList p2.isList fun h' hzz hTI hTO j1 j2 hsz kk=>fin 0 0 h' s1.toks hzz hTI hTO j1 j2 kk
  | s x =>
   obtain⟨t,rfl⟩:=ru2
   refine callType_new F.called_zip (by decide) (F.typeCall_zip_2 _ _) (F.newCall_zip_2 _ _) (fun obj=>F.args_object_init_3 obj _ _) F.entry_zip_new (Ash a Al3.toArray x t) ⟨p1.isList,?_⟩
   obtain⟨z4,g5,g3,g4,g1,g2,kk⟩:=Asl (h:=s1.heap) (o1:=AuM a) (o2:=Afq x t) rfl rfl
   show _∧_
   rw[z4]
   exact⟨⟨_,g5,rfl⟩,fin 0 t _ s1.toks g5 g3 g4 ⟨_,g1,rfl,rfl⟩ ⟨_,g2,rfl,rfl⟩ kk⟩
 | s y =>
  obtain⟨t1,rfl⟩:=ru1
  cases S2 with
  | l b=>exact hz.elim
  | s x =>
   obtain⟨t,rfl⟩:=ru2
   refine callType_new F.called_zip (by decide) (F.typeCall_zip_2 _ _) (F.newCall_zip_2 _ _) (fun obj=>F.args_object_init_3 obj _ _) F.entry_zip_new (Asi y t1 x t) ?_
   obtain⟨z4,g5,g3,g4,g1,g2,kk⟩:=Asl (h:=s1.heap) (o1:=Afq y t1) (o2:=Afq x t) rfl rfl
   show _∧_
   rw[z4]
   exact⟨⟨_,g5,rfl⟩,fin t1 t _ s1.toks g5 g3 g4 ⟨_,g1,rfl,rfl⟩ ⟨_,g2,rfl,rfl⟩ kk⟩
end
open PySem PySem.Spec PyProof.Rows
structure Abw (X:Cx) (x x':Str) (Nc:List Str) (BW:List Nat) (scope:Scope):Prop where
 kind:scope.kind=.function
 cell:∀ y∈scope.names,y.2≠.cell
 names:∀ y∈scope.names,y.2=.local→scope.names.lookup y.1=some .local
 fr:∀ y∈scope.names,y.2=.free→X.env.scope.names.lookup y.1=some .cell∧scope.names.lookup y.1=some .free
 loc:scope.names.lookup x=some .local
 A2x:scope.names.lookup x'=some .local
 len:Nc.length=BW.length+2
 hd:Nc[0]?=some x
 hd2:Nc[1]?=some x'
 nd:Nc.Nodup
 cap:∀ k j,BW[k]?=some j→∃ y,Nc[k+2]?=some y∧X.N[j]?=some y∧scope.names.lookup y=some .free
def Aq2 (K:PySem.W.Frag)(BW:List Nat)(tc:TT)(te:TE)(J:It)(σ:St)(H:Hp)(Q:VK):Prop :=
 ∃ W:Nat→Nat→List V→Hp→Prop,(∃ m,W 0 m [] H)∧∀ i m ys H,W i m ys H →
  (J.stop i H∧ys.length≤sizeLine∧∀ p,H p=none→Q (.ref p) (upd H p (.lst ys))) ∨
  (J.go i H∧ys.length<sizeLine∧∀ x H',J.yld i H x H'→∃ a u v,x=.ref a∧SqT K H' a [u,v]∧tc (some u::some v::Oz σ BW) H' fun b H2 =>
   if b=true then te (some u::some v::Oz σ BW) H2 fun y H3=>∃ m',m'<m∧W (i+1) m' (ys++[y]) H3 else ∃ m',m'<m∧W (i+1) m' ys H2)
def Axb (K:PySem.W.Frag)(wi:TI)(BW:List Nat)(tc:TT)(te:TE):TE:=fun σ H Q=>wi σ H fun J H1=>Aq2 K BW tc te J σ H1 Q
section
variable {X:Cx}{pins:List (Addr × Obj)}{σ:St}{H:Hp}{s:Shared}
theorem Axc{x x':Str}{Nc:List Str}{BW:List Nat}{scope:Scope}{cl:List (Str × Addr)}{C:Addr}{fp:List Addr}(I:Inv X pins σ H s)(O:Abw X x x' Nc BW scope)
  (hcl:∀ x c,cl.lookup x=some c→X.env.cells.lookup x=some c∧(x,NameKind.free)∈scope.names) (Agp:∀ x,(x,NameKind.free)∈scope.names→cl.lookup x=X.env.cells.lookup x)
  (hC:s.heap.objs.size≤C) (hfp:∀ b∈fp,Vl X pins H b) (hfo:∀ b∈fp,b<s.heap.objs.size):(K6 X Nc scope cl C fp s H).Ok where
 mod:=I.ok.mod
 kind:=O.kind
 glob:=I.ok.glob
 blt:=I.ok.blt
 above:=hC
 inj:=fun a b c e1 e2=>I.ok.inj a b c (hcl a c e1).1 (hcl b c e2).1
 has:=fun y hy=>by
  have mem:(y,NameKind.free)∈scope.names:=by
   have hy':((relabel scope X.env).names.lookup y=some .cell)∨((relabel scope X.env).names.lookup y=some .free):=hy
   have hm:∃ k,(y,k)∈(relabel scope X.env).names∧(k=.cell∨k=.free):=by
    rcases hy' with h | h
    ·exact⟨_,PySem.mem_of_lookup h,.inl rfl⟩
    ·exact⟨_,PySem.mem_of_lookup h,.inr rfl⟩
   obtain⟨k,hm,hk⟩:=hm
   obtain⟨⟨n,k'⟩,hm',e⟩:=List.mem_map.mp hm
   dsimp only at e
   by_cases hc:(k' == NameKind.free && X.env.scope.kind == .function && X.env.kindOf n == some .cell)=true
   ·rw[if_pos hc] at e
    injection e with e1 _
    subst e1
    have:k'=.free:=by
     have:=(A6q _ _▸(A6q _ _▸hc).1).1
     simpa using this
    subst this
    exact hm'
   ·rw[if_neg hc] at e
    injection e with e1 e2
    subst e1 e2
    rcases hk with hk | hk
    ·subst hk;exact absurd rfl (O.cell _ hm')
    ·subst hk;exact hm'
  obtain⟨c,e⟩:=I.ok.has y (.inl (O.fr _ mem rfl).1)
  exact⟨c,(Agp y mem).trans e⟩
 cab:=fun _ _ z=>nomatch z
 hd:=I.ok.hd
 frames:=I.ok.frames
 stk:=.inl rfl
 exf:=fun b hb=>⟨A5M (A5O (hfo b hb) hC),fun y c e=>(hfp b hb).2.2.2.2.1 y c (hcl y c e).1⟩
 bs:=I.bs
 bsz:=A5X I.ok.bsz I.sz
 AoM:=fun b o e hb=>by
  rcases(hfp b hb).2.2.2.1 with z | z
  ·exact I.ok.AoM b o e z
  ·exact absurd (A5O (Heap.lt_size e) (A5X I.ok.bsz z)) (A5W _)
 Amo:=fun b hb z=>by
  rcases List.mem_cons.mp (I.Amp b z) with e | e
  ·exact(hfp b hb).2.1 e
  ·exact(hfp b hb).2.2.1 e
 Afg:=I.stack
 frf:=I.Ah0
theorem Asm{x x':Str}{Nc:List Str}{BW:List Nat}{scope:Scope}{cl:List (Str × Addr)}{C:Addr}{fp:List Addr}{h':Heap}{tk:Nat}{m0:Str→Option Value}(I:Inv X pins σ H s)(O:Abw X x x' Nc BW scope)
  (hcl:∀ x c,cl.lookup x=some c→X.env.cells.lookup x=some c∧(x,NameKind.free)∈scope.names) (Agp:∀ x,(x,NameKind.free)∈scope.names→cl.lookup x=X.env.cells.lookup x)
  (hC:s.heap.objs.size≤C) (hfp:∀ b∈fp,Vl X pins H b) (hfo:∀ b∈fp,b<s.heap.objs.size)
  (old:∀ b o,s.heap.get? b=some o→h'.get? b=some o) (hns:h'.Ns C m0) :
  Inv (K6 X Nc scope cl C fp s H) [] (none::none::Oz σ BW) H { s with heap:=h',toks:=tk } where
 ok:=Axc I O hcl Agp hC hfp hfo
 os:=rfl
 bare:=I.bare
 base:=Un.kept old
 loc:=by
  refine⟨m0,hns,fun i y v hN hσ hv=>?_⟩
  match i with
  | 0=>simp at hσ
  | 1=>simp at hσ
  | k+2 =>
   rw[A7k,A7k] at hσ
   obtain⟨j,hj,hs⟩:=ArT hσ
   obtain⟨z,hz1,hz2,hz3⟩:=O.cap k j hj
   have hN':Nc[k+2]?=some y:=hN
   rw[hz1] at hN'
   cases hN'
   have mem:(y,NameKind.free)∈scope.names:=PySem.mem_of_lookup hz3
   have hk:=(O.fr _ mem rfl).1
   obtain⟨m,hn,hl⟩:=I.loc
   obtain⟨u,r,l⟩:=hl j y v hz2 hs (.inr (.inl hk))
   refine⟨u,r,?_⟩
   rcases l with ⟨k',_⟩ | ⟨_,c,hc,z⟩
   ·have k'':X.env.scope.names.lookup y=some .local:=k'
    rw[hk] at k'';cases k''
   ·obtain⟨o,ho,hd⟩:=z
    exact .inr ⟨.inl (PX I.ok.kind hz3 hk),c,(Agp y mem).trans hc,o,old _ _ ho,hd⟩
 cell:=fun y c e=>by
  obtain⟨v,o,ho,hd⟩:=I.cell y c (hcl y c e).1
  exact⟨v,o,old _ _ ho,hd⟩
 free:=I.hok.fresh hC
 V8:=fun y c e=>I.V8 y c (hcl y c e).1
 pin:=fun p hp=>absurd (show p∈([]:List (Addr × Obj)) from hp) (by simp)
 hok:=I.hok.kept old
 len:=by
  show(none::none::Oz σ BW).length=Nc.length
  rw[A5N,A5N,ArS,O.len]
theorem Asn{x x':Str}{px px' tp:Pos}{kx:Nat}{Nc:List Str}{BW:List Nat}{scope:Scope}{cl:List (Str × Addr)}{iter elt:Expr}{ifs:List Expr}{pos:Pos}{tc:TT}{te:TE}{Q:VK}{it:Addr}{fp:List Addr}{tn:Nat→Heap→Prop}{J:It}
  {RR:Value→Addr→Result→Shared→Prop}{E:Value→Shared→Prop}
  (O:Abw X x x' Nc BW scope) (hc:X.calm=true)
  (hcl:∀ x c,cl.lookup x=some c→X.env.cells.lookup x=some c∧(x,NameKind.free)∈scope.names) (Agp:∀ x,(x,NameKind.free)∈scope.names→cl.lookup x=X.env.cells.lookup x)
  (hte:∀ C fp s H,PE (K6 X Nc scope cl C fp s H) elt te) (htc:∀ C fp s H,PIf (K6 X Nc scope cl C fp s H) ifs tc)
  (I:Inv X pins σ H s) (T:Turn X.prog X.w X.K (.Tuple [.Name x px,.Name x' px'] kx tp) J fp it tn) (st:tn 0 s.heap) (hfp:∀ b∈fp,Vl X pins H b) (h:Aq2 X.K BW tc te J σ H Q)
  (hRR:∀(D C:Addr) (s':Shared) (m:Str→Option Value),s'.heap.Ns C m→(∀ h',Heap.SameBut C s'.heap h'→∃ H',Inv X pins σ H' { s' with heap:=h' }∧H' C=none∧Q (.ref D) H') →
   s.heap.objs.size≤C→RR (.ref D) C (.ok .next) s') :
  wpAny (model X.prog X.w) X.A (newList []) (fun acc s₃=>wpAny (model X.prog X.w) X.A (newFunctionEnv scope X.env.globals cl [] X.env.qual none .none (some X.env)) (fun cenv s₄ =>
   codeAny (model X.prog X.w) X.A (.compStart (.ListComp elt [⟨(.Tuple [.Name x px,.Name x' px'] kx tp),iter,ifs,0⟩] scope pos) 0 (.ref it) acc { cenv with scope:=relabel scope X.env }) (RR acc cenv.locals) s₄) E s₃) E s:=by
 refine wpAny_newObj_type (wpAny_newFunctionEnv O.cell (by intro y hy;simp at hy) (fun h₁ hns₁ hsb₁=>?_) O.kind)
 dsimp only at hns₁ hsb₁ ⊢
 generalize hH2:s.heap.push { cls:=.type "list", dict:=none,data:=.seq ([]:List Value).toArray }=H2 at hns₁ hsb₁ ⊢
 have hC:H2.objs.size=s.heap.objs.size+1:=by rw[← hH2,Heap.size_push]
 have hCle:s.heap.objs.size≤H2.objs.size:=by rw[hC];exact A6K _
 have hDC:s.heap.objs.size≠H2.objs.size:=by rw[hC];exact A5M (A6y _)
 have below:∀ b,b<s.heap.objs.size→b≠H2.objs.size∧b≠s.heap.objs.size:=fun b hb=>⟨by rw[hC];exact A5M (A6T hb),A5M hb⟩
 have old:∀ b o,s.heap.get? b=some o→h₁.get? b=some o:=fun b o e=>hsb₁.extBut b o (below b (Heap.lt_size e)).1 (Heap.get?_push_of_some _ (hH2▸Heap.get?_push_of_some _ e))
 have hacc:h₁.get? s.heap.objs.size=some (Tp [] 0):=hsb₁.extBut _ _ hDC (Heap.get?_push_of_some _ (hH2▸Heap.get?_push_size _ rfl))
 have hfo:∀ b∈fp,b<s.heap.objs.size:=fun b hb=>by
  obtain⟨o,e,_⟩:=T.obj _ _ st b hb
  exact Heap.lt_size e
 have st1:tn 0 h₁:=T.keep _ _ _ st fun b _ o e=>old b o e
 generalize hDD:s.heap.objs.size=D at *
 generalize hCC:H2.objs.size=C at *
 have AwG:D≤C:=hCle
 let Y:Cx:=K6 X Nc scope cl C fp s H
 have I0:Inv Y [] (none::none::Oz σ BW) H { s with heap:=h₁,toks:=s.toks+([]:List (Str × Value)).length }:=Asm I O hcl Agp (by rw[hDD];exact hCle) hfp (fun b hb=>by rw[hDD];exact hfo b hb) old hns₁
 have ArU:H D=none:=by rw[← hDD];exact I.hok.fresh (A5K _)
 have Ah6:D≠C:=hDC
 have Dfs:D∉Y.fs:=fun z=>by
  have:=I.stack.mem (show D∈frs X.stack from z)
  obtain⟨_,o,e,_⟩:=this
  have:=Heap.lt_size e
  rw[hDD] at this
  exact A5W _ this
 have ArV:∀ y c,Y.env.cells.lookup y=some c→c≠D:=fun y c e z=>by
  obtain⟨v,q⟩:=I.cell y c (hcl y c e).1
  have:=q.lt
  rw[z,hDD] at this
  exact A5W _ this
 have Dfp:∀ b∈fp,b≠D:=fun b hb=>A5M (hfo b hb)
 have fpY:∀{H':Hp},(∀ b∈fp,H' b=none)→∀ b∈fp,Vl Y [] H' b:=fun hn b hb =>
  ⟨hn b hb,A5M (A5O (hfo b hb) AwG),fun z=>I0.ok.Amo b hb z,.inl hb,fun y c e=>(I0.ok.exf b hb).2 y c e,fun p hp=>absurd (show p∈([]:List (Addr × Obj)) from hp) (by simp)⟩
 obtain⟨W,⟨m0,w0⟩,turn⟩:=h
 have loop:∀ s₃:Shared,s₃={ s with heap:=h₁,toks:=s.toks+([]:List (Str × Value)).length } →
   codeAny (model X.prog X.w) X.A (.compLoop (.ListComp elt [⟨(.Tuple [.Name x px,.Name x' px'] kx tp),iter,ifs,0⟩] scope pos) 0 (.ref it) (.ref D) (compEnvC scope cl C X.env)) (RR (.ref D) C) s₃:=by
  rintro s₃ rfl
  refine Abv (fun n s'=>∃(i:Nat) (o o':Option V) (H':Hp) (ys:List V) (us:List Value) (k:Nat),Inv Y [] (o::o'::Oz σ BW) H' s'∧tn i s'.heap∧(∀ b∈fp,H' b=none)∧s'.heap.get? D=some (Tp us k)∧H' D=none∧Vals ys us∧W i n ys H')
   ?_ m0 ⟨0,none,none,H,[],[],0,I0,st1,fun b hb=>(hfp b hb).1,hacc,ArU,.nil,w0⟩
  rintro n s3 ⟨i,o3,o3',H3,ys,us,k,I3,st3,fr3,hD3,nD3,rv,w3⟩
  have fpP:∀{H':Hp} {ob:Obj},(∀ b∈fp,H' b=none)→∀ b∈fp,Vl Y [(D,ob)] H' b:=fun hn b hb=>by
   obtain⟨g0,g1,g2,g3,g4,_⟩:=fpY hn b hb
   refine⟨g0,g1,g2,g3,g4,fun p hp=>?_⟩
   have e:p=(D,_):=List.mem_singleton.mp (show p∈[(D,_)] from hp)
   rw[e]
   exact Ne.symm (Dfp b hb)
  have IP:Inv Y [(D,Tp us k)] (o3::o3'::Oz σ BW) H3 s3:=I3.Rw fun p hp=>by
   have e:p=(D,Tp us k):=List.mem_singleton.mp hp
   subst e
   exact⟨hD3,nD3,Ah6,Dfs,fun v z=>by cases z⟩
  have Am3:∀{σ':St} {H':Hp} {s':Shared} {pl:List (Addr × Obj)},Inv Y ([(D,Tp us k)]++pl) σ' H' s'→s'.heap.get? D=some (Tp us k)∧H' D=none:=fun I'=>by
   have z:=I'.pin (D,Tp us k) (A6b _ (A6P _ A6j))
   exact⟨z.1,z.2.1⟩
  rcases turn i n ys H3 w3 with ⟨stop,hlen,fin⟩ | ⟨go,hlen,step⟩
  ·
   refine wpAny_mono (T.done Y rfl rfl rfl hc i _ s3 _ H3 (fun _ _=>False) IP (fpP fr3) st3 stop) (fun r s4 hr=>?_) fun _ _ z=>z.elim
   obtain⟨hr,I4⟩:=hr
   subst hr
   obtain⟨gD,nD⟩:=Am3 (pl:=[]) (by simpa using I4)
   obtain⟨m,hn,_⟩:=I4.loc
   refine hRR D C s4 m hn (fun h' hs'=>⟨upd H3 D (.lst ys),?_,(Bd (Ne.symm Ah6)).trans I4.free,fin D nD⟩) hCle
   have nt:∀ b ob,H3 b=some ob→b≠C:=fun b ob e z=>by
    have:=I4.free
    rw[z] at e
    rw[show H3 C=none from this] at e
    cases e
   have u1:Un (frs X.stack) fp H H3 s.heap h':=Un.but I4.base hs' (show s.heap.objs.size≤C by rw[hDD];exact hCle)
   have ok1:HOk X.prog X.w H3 h':=fun b ob e=>(I4.hok b ob e).stay (fun c v hc q=>(hs'.2 c (by
    rcases hc with z | z
    ·rw[z];exact nt b ob e
    ·exact nt c _ z)).trans q) (fun _ q=>q) fun _ _ q=>q
   have gD':h'.get? D=some (Tp us k):=(hs'.2 D Ah6).trans gD
   exact I.call' (s':={ s4 with heap:=h' }) (ch:=fp) I4.os (u1.track (A6v hDD) nD) (ok1.track nD ⟨hlen,us,k,rv,gD'⟩) I4.bare fun b hb=>by
    obtain⟨_,g1,_,g3,g4,g5⟩:=hfp b hb
    exact⟨g3,g1,g4,g5⟩
  ·
   refine wpAny_mono (T.item Y rfl rfl rfl hc i _ s3 _ H3 (fun _ _=>False) IP (fpP fr3) st3 go) (fun r s4 hr=>?_) fun _ _ z=>z.elim
   obtain⟨u0,hr,h4⟩:=hr
   subst hr
   refine wpAny_mono h4 (fun _ s5 h5=>?_) fun _ _ z=>z.elim
   obtain⟨x5,H5,I5,r5,y5,st5,fr5⟩:=h5
   have I5':=I5.pinned (fpP fr5) (T.obj _ _ st5)
   have n1:PG Y (.Name x px) (XS 0):=En (i:=0) O.nd O.hd (.inl (G3 I.ok.kind O.loc (by intro z;cases z))) (.inr (G3 I.ok.kind O.loc (by intro z;cases z)))
   have n2:PG Y (.Name x' px') (XS 1):=En (i:=1) O.nd O.hd2 (.inl (G3 I.ok.kind O.A2x (by intro z;cases z))) (.inr (G3 I.ok.kind O.A2x (by intro z;cases z)))
   have tgt:PG Y (.Tuple [.Name x px,.Name x' px'] kx tp) (A1K Y.K 2 (Aw4 (XS 0) (Aw4 (XS 1) A1J))):=AcR hc (Gy n1 (Gy n2 XX))
   obtain⟨aT,uT,vT,rfl,hT,stepT⟩:=step x5 _ y5
   refine wpAny_mono (tgt _ s5 _ H5 (.ref aT) u0 (fun σ2 H2=>σ2=some uT::some vT::Oz σ BW∧H2=H5) I5' r5 ⟨aT,[uT,vT],rfl,hT,rfl,uT,[vT],rfl,vT,[],rfl,rfl,rfl,rfl⟩) (fun _ s6 h6=>?_) fun _ _ z=>z.elim
   obtain⟨_,_,I6,rfl,rfl⟩:=h6
   refine wpAny_mono ((htc C fp s H).run I6 stepT) (fun b s7 h7=>?_) fun _ _ z=>z.elim
   obtain⟨H7,I7,q7⟩:=h7
   have AkQ:∀{σ':St} {H':Hp} {s':Shared},Inv Y ([(D,Tp us k)]++Agn fp s5.heap) σ' H' s'→tn (i+1) s'.heap∧∀ b∈fp,H' b=none:=fun I' =>
    ⟨T.keep _ _ _ st5 fun b hb o e=>(I'.pin (b,o) (A6b _ (A6b _ (Ny hb e)))).1,fun b hb=>by
     obtain⟨o,e,d⟩:=T.obj _ _ st5 b hb
     exact(I'.pin (b,o) (A6b _ (A6b _ (Ny hb e)))).2.1⟩
   cases b with
   | false =>
    rw[if_neg A5Q] at q7
    rw[if_neg A5Q]
    obtain⟨m',hm,w7⟩:=q7
    obtain⟨gD,nD⟩:=Am3 I7
    obtain⟨k1,k2⟩:=AkQ I7
    exact⟨m',hm,i+1,some uT,some vT,H7,ys,us,k,I7.Rw (fun p hp=>nomatch hp),k1,k2,gD,nD,rv,w7⟩
   | true =>
    rw[if_pos rfl] at q7
    rw[if_pos rfl]
    refine wpAny_mono (hte C fp s H _ s7 _ H7 _ I7 q7) (fun u8 s8 h8=>?_) fun _ _ z=>z.elim
    obtain⟨y8,H8,I8,r8,m',hm,w8⟩:=h8
    obtain⟨gD,nD⟩:=Am3 I8
    obtain⟨k1,k2⟩:=AkQ I8
    refine call_meets F.slot_list_append ⟨_,gD,rfl⟩ F.entry_list_append (F.args_list_append_2 _ _) (PySem.list_append D us.toArray k u8 (by rw[A5R,← rv.length];omega)) ⟨gD,?_⟩
    have q:=PySem.IsL.update gD (·.push u8)
    have e1:us.toArray.push u8=(us++[u8]).toArray:=by simp
    rw[e1] at q
    have I8':Inv Y [] (some uT::some vT::Oz σ BW) H8 s8:=I8.Rw (fun p hp=>nomatch hp)
    have I9:Inv Y [] (some uT::some vT::Oz σ BW) H8 { s8 with heap:=s8.heap.update D (Obj.mapSeq (·.push u8)),toks:=s8.toks } :=
     I8'.turned (it:=D) (fun b o hb e=>(Heap.get?_update_other s8.heap (Obj.mapSeq (·.push u8)) (Ne.symm hb)).trans e) nD Ah6 (.inr (A6v hDD)) ArV (fun p hp=>nomatch hp)
    refine⟨m',hm,i+1,some uT,some vT,H8,ys++[y8],us++[u8],_,I9,T.keep _ _ _ k1 fun b hb o e=>(Heap.get?_update_other s8.heap (Obj.mapSeq (·.push u8)) (Ne.symm (Dfp b hb))).trans e,k2,q,nD,rv.append (.cons r8 .nil),w8⟩
 exact codeAny_compStart_list (loop _ rfl) (T.self X.A 0 _ _ _ st1 (loop _ rfl))
theorem Axd{i:Nat}{y x x':Str}{px px' tp py pos spos:Pos}{kx:Nat}{Nc:List Str}{BW:List Nat}{scope:Scope}{iter elt:Expr}{ifs:List Expr}{wi:TI}{tc:TT}{te:TE}(O:Abw X x x' Nc BW scope)(hc:X.calm=true)
  (hN:X.N.Nodup) (hy:X.N[i]?=some y) (hx:X.env.scope.names.lookup y=some .local) (hi:PI X (.Tuple [.Name x px,.Name x' px'] kx tp) iter wi)
  (htc:∀ cl C fp s H,PIf (K6 X Nc scope cl C fp s H) ifs tc) (hte:∀ cl C fp s H,PE (K6 X Nc scope cl C fp s H) elt te)
  (hsw:swapsWith (.ListComp elt [⟨(.Tuple [.Name x px,.Name x' px'] kx tp),iter,ifs,0⟩] scope pos) (some (.Name y py)) spos.line X.env=pure true) (hs:∀ x,foldedSetIterable iter X.env x=pure x:=by intro _;rfl) :
  PS X (.Assign [.Name y py] (.ListComp elt [⟨(.Tuple [.Name x px,.Name x' px'] kx tp),iter,ifs,0⟩] scope pos) spos) (Atn (Axb X.K wi BW tc te) (XS i)):=by
 intro pins s σ H Dn I h
 rw[exec_Assign_Name_used _ _ _ _ hsw]
 refine wpAny_bind (wpAny_standAt (wpAny_bind ?_))
 obtain⟨cl,e1,e2,e3⟩:=Abu (scope:=scope) (env:=X.env) fun y hy hf=>I.ok.has y.1 (.inl (O.fr y hy hf).1)
 show wpAny _ X.A (do let _ ← comprehension (.ListComp elt [⟨(.Tuple [.Name x px,.Name x' px'] kx tp),iter,ifs,0⟩] scope pos) scope X.env _ (newList []) false (eval iter X.env) (some (assign (.Name y py) X.env))) _ _ s
 refine wpAny_bind (wpAny_mono (wpAny_comprehension_free (use:=some (assign (.Name y py) X.env)) (Q:=fun _ s'=>SP X pins Dn .next s') rfl hs e1 O.kind O.names
  (thn (hi pins s σ H _ I h) fun v s1 h1=>thn h1 fun itv s2 h2=>?_)) (fun _ s' hq=>wpAny_pure (wpAny_pure hq)) fun _ _ e=>e)
 obtain⟨it,fp,tn,J,H2,e,I2,T,st2,f2,w2⟩:=h2
 subst e
 refine Asn (RR:=fun acc C=>compPost (model X.prog X.w) X.A X.xe (some (assign (.Name y py) X.env)) (fun _ s'=>SP X pins Dn .next s') acc C) O hc e2 e3 (hte cl) (htc cl) I2 T st2 f2 w2 ?_
 intro D C s' m hn hq hC
 show wpAny _ X.A (assign (.Name y py) X.env (.ref D)) _ _ _
 obtain⟨H',I',nC,q⟩:=hq s'.heap (.refl ..)
 have I'':Inv X pins σ H' s':=I'
 have CL:C≠X.env.locals:=A6x (A5O I2.lt hC)
 have AkR:∀ y c,X.env.cells.lookup y=some c→c≠C:=fun y c e z=>by
  obtain⟨v,q⟩:=I2.cell y c e
  have:=A5O q.lt hC
  rw[z] at this
  exact A5W _ this
 refine wpAny_assign_Name (Ae8 I'' hN hy (.inl hx) (show RelV (.ref D) (.ref D) from rfl) (fun s3 I3 hsb=>?_) (.inr hx))
 obtain⟨a,hsb,ha⟩:=hsb
 have aC:C≠a:=by
  rcases ha with z | z
  ·rw[z];exact CL
  ·exact Ne.symm (AkR _ _ z)
 refine⟨m,hn.sameBut hsb aC,fun h4 hs4=>?_⟩
 refine⟨_,H',I3.turned (it:=C) (t':=s3.toks) (fun b o hb e=>(hs4.2 b hb).trans e) nC CL (.inr (A5X I2.sz hC)) AkR (fun p hp z=>?_),q⟩
 ·have:=A5O (Heap.lt_size (I2.pin p hp).1) hC
  rw[z] at this
  exact A5W _ this
theorem ApS{K:PySem.W.Frag}{i:Nat}{y x x':Str}{px px' tp py pos spos:Pos}{kx:Nat}{Nc:List Str}{BW:List Nat}{scope:Scope}{iter elt:Expr}{ifs:List Expr}{wi:TI}{tc:TT}{te:TE}(O:Abw X x x' Nc BW scope)(hc:X.calm=true)
  (hN:X.N.Nodup) (hy:X.N[i]?=some y) (hx:X.env.scope.names.lookup y=some .local) (hi:PI X (.Tuple [.Name x px,.Name x' px'] kx tp) iter wi)
  (htc:∀ cl C fp s H,PIf (K6 X Nc scope cl C fp s H) ifs tc) (hte:∀ cl C fp s H,PE (K6 X Nc scope cl C fp s H) elt te)
  (hsw:swapsWith (.ListComp elt [⟨(.Tuple [.Name x px,.Name x' px'] kx tp),iter,ifs,0⟩] scope pos) (some (.Name y py)) spos.line X.env=pure true) (hs:∀ x,foldedSetIterable iter X.env x=pure x:=by intro _;rfl) (hK:X.K=K:=by rfl) :
  PS X (.Assign [.Name y py] (.ListComp elt [⟨(.Tuple [.Name x px,.Name x' px'] kx tp),iter,ifs,0⟩] scope pos) spos) (Atn (Axb K wi BW tc te) (XS i)):=by
 subst hK
 exact Axd O hc hN hy hx hi htc hte hsw hs
theorem Aso{K:PySem.W.Frag}{S1 S2:Src}{n:Nat}{BW:List Nat}{tc:TT}{te:TE}{σ:St}{H:Hp}{Q:VK}(f g:Nat→V)(Pv:Nat→List V→Hp→Prop)(h0:Pv 0 [] H)(hl:∀ i ys H,i≤n→Pv i ys H→ys.length≤i)
  (hz:n≤sizeLine) (h1:∀ i ys H,i<n→Pv i ys H→AcT K H S1 i (f i)) (h2:∀ i ys H,i<n→Pv i ys H→AcT K H S2 i (g i)) (hst:∀ ys H,Pv n ys H→(AyV K S1 S2).stop n H)
  (hs:∀ i ys H T,i<n→Pv i ys H→H T=none→Mv n Pv tc te (some (f i)::some (g i)::Oz σ BW) i ys (upd H T (.tup [f i,g i])))
  (hd:∀ ys H p,Pv n ys H→H p=none→Q (.ref p) (upd H p (.lst ys))):Aq2 K BW tc te (AyV K S1 S2) σ H Q:=by
 refine⟨fun i m ys H=>m=n-i∧i≤n∧Pv i ys H,⟨n,by simp,A6c _,h0⟩,?_⟩
 rintro i m ys H ⟨rfl,hi,p⟩
 have hy:=hl i ys H hi p
 by_cases hlt:i<n
 ·refine .inr ⟨⟨⟨_,h1 i ys H hlt p⟩,_,h2 i ys H hlt p⟩,by omega,fun x H' y=>?_⟩
  obtain⟨T,rfl,hT,e⟩:=y
  have e:=e _ _ (h1 i ys H hlt p) (h2 i ys H hlt p)
  subst e
  exact⟨T,f i,g i,rfl,SqT.of Ad,hs i ys H T hlt p hT⟩
 ·have e:i=n:=by omega
  subst e
  exact .inl ⟨hst ys H p,by omega,fun p' hp=>hd ys H p' p hp⟩
end
open PySem PySem.Spec PyProof.Rows
section
variable {X:Cx}
def AyW (K:PySem.W.Frag):V→List V→Hp→VK→Prop:=fun x vs H Q=>∃ a ns k,x=.ref a∧vs=[.int k]∧SqL K H a (vI ns)∧Q (.int (ns.count k:Nat)) H
theorem Ajq{K:PySem.W.Frag}(hK:X.K=K:=by rfl):MtR X "list.count" (AyW K):=by
 subst hK
 intro pins s σ H x vs v us Q I rx rv h
 obtain⟨a,ns,k,rfl,rfl,hx,q⟩:=h
 cases rx
 obtain⟨u,rfl,ru⟩:=rv.one
 obtain⟨t,rfl⟩:=ru
 obtain⟨its,r,ht,hz⟩:=I.list hx
 refine PyProof.Rows.count_list_ints (ns:=ns) ht.isList (intsAre_of r) ?_
 exact⟨.int _,H,I.tok _,⟨_,rfl⟩,q⟩
end
def Ite (K:PySem.W.Frag)(a:Addr):It where
 go:=fun i H=>∃ xs x,SqL K H a xs∧xs[i]?=some x
 yld:=fun i H x H'=>∃ T,x=.ref T∧H T=none∧∀ xs u,SqL K H a xs→xs[i]?=some u→H'=upd H T (.tup [.int (i:Int),u])
 stop:=fun i H=>∃ xs,SqL K H a xs∧xs.length=i
def A4o (e it a:Addr)(i:Nat)(h:Heap):Prop:=(∃ old,IsEnum h e it i old)∧h.IsListIter it a i
theorem AvS{P:Program}{w:World}{K:PySem.W.Frag}{es:List Expr}{kx:Nat}{tp:Pos}{e it a:Addr}(hei:e≠it)(hae:a≠e)(hai:a≠it) :
  Turn P w K (.Tuple es kx tp) (Ite K a) [e,it] e (A4o e it a) where
 mem:=by simp
 obj:=fun i h st c hc=>by
  obtain⟨⟨old,s1⟩,s2⟩:=st
  simp only [A5U,A5V,or_false] at hc
  rcases hc with z | z
  ·subst z;exact⟨_,s1,fun v z=>by cases (show Data.fields _=Data.cell v from z)⟩
  ·subst z;obtain⟨o,e,_,d⟩:=s2;exact⟨o,e,fun v z=>by rw[d] at z;cases z⟩
 keep:=fun i h h' st k=>by
  obtain⟨⟨old,s1⟩,s2⟩:=st
  exact⟨⟨old,k _ (by simp) _ s1⟩,s2.at fun o e=>k _ (by simp) o e⟩
 item:=by
  intro X hP hw hK hc i pins s σ H E I hf st hg
  subst hP hw hK
  obtain⟨xs,x,hq1,hx⟩:=hg
  obtain⟨Al3,rv1,p1,_⟩:=I.list hq1
  obtain⟨u,hu,ru⟩:=rv1.get hx
  obtain⟨⟨old,s1⟩,s4⟩:=st
  have hlt:i<Al3.toArray.size:=by have:=(List.getElem?_eq_some_iff.mp hu).1;simpa using this
  have hh:X.A.in1.handled=none:=I.ok.hd hc
  refine wpAny_pyNext_enum_itemD (Draws.list hh it a hai Al3.toArray) s1 ⟨s4,p1.isList⟩ hlt hei (fun z=>?_) fun u' h1 tk hu' ho hst hT hsz kk=>?_
  ·simp only [A5U,A5V,or_false] at z
   rcases z with z | z
   ·exact hei z
   ·exact hae z.symm
  have hu2:Al3[i]?=some u':=by simpa using hu'
  rw[hu] at hu2
  cases hu2
  refine⟨_,rfl,wpAny_letOwnedTupleGo_enum ho fun h2 he2 sb=>?_⟩
  have sb:Heap.SameBut e h1 h2:=sb
  have el:e<s.heap.objs.size:=Heap.lt_size s1
  have il:it<s.heap.objs.size:=by obtain⟨_,e,_⟩:=s4;exact Heap.lt_size e
  have up:∀ c o,c≠e→h1.get? c=some o→h2.get? c=some o:=fun c o c1 z=>(sb.2 c c1).trans z
  have hTn:H s.heap.objs.size=none:=I.hok.fresh (A5K _)
  have I1:Inv X pins σ (upd H s.heap.objs.size (.tup [.int (i:Int),x])) { s with heap:=s.heap.push { cls:=.type "tuple", data:=.seq #[.int i tk,u] },toks:=tk+1 } :=
   I.laid (fun c o e=>Heap.get?_push_of_some _ e) (A5K _) ⟨by show 2≤sizeLine;decide,[.int i tk,u],.cons ⟨tk,rfl⟩ (.cons ru .nil),⟨_,Heap.get?_push_size _ rfl,rfl,_,rfl⟩⟩
  have fp2:∀ c∈[e,it],Vl X pins (upd H s.heap.objs.size (.tup [.int (i:Int),x])) c:=fun c hc=>by
   obtain⟨f0,f⟩:=hf c hc
   refine⟨?_,f⟩
   have lt:c<s.heap.objs.size:=by
    simp only [A5U,A5V,or_false] at hc
    rcases hc with e | e <;> subst e <;> assumption
   rw[Bd (A5M lt)]
   exact f0
  have I2:Inv X pins σ (upd H s.heap.objs.size (.tup [.int (i:Int),x])) { s with heap:=h2,toks:=tk+1 }:=by
   refine Inv.AeG (s:={ s with heap:=s.heap.push { cls:=.type "tuple", data:=.seq #[.int i tk,u] },toks:=tk+1 }) (h':=h2) (t':=tk+1) (its:=[e,it]) I1 (fun c o hc z=>?_) fp2
   simp only [A5U,A5V,or_false,not_or] at hc
   refine up c o hc.1 ?_
   by_cases hcs:c=s.heap.objs.size
   ·subst hcs
    have e':(s.heap.push { cls:=.type "tuple", data:=.seq #[.int i tk,u] }).get? s.heap.objs.size=some { cls:=.type "tuple", data:=.seq #[.int i tk,u] }:=Heap.get?_push_size _ rfl
    rw[e'] at z
    cases z
    exact hT
   ·have e':s.heap.get? c=some o:=by
     rw[← z]
     exact(Heap.get?_push_ne _ _ _ hcs).symm
    exact kk c o hc.1 hc.2 e'
  refine⟨.ref s.heap.objs.size,_,I2,rfl,⟨s.heap.objs.size,rfl,hTn,fun xs' u' a1 a3=>?_⟩,⟨⟨u,by simpa using he2⟩,hst.1.at fun o z=>up _ o hei.symm z⟩,fun c hc=>(fp2 c hc).1⟩
  rw[I.Wv a1 hq1,hx] at a3
  cases a3
  rfl
 done:=by
  intro X hP hw hK hc i pins s σ H E I hf st hg
  subst hP hw hK
  obtain⟨xs,hq1,hend⟩:=hg
  obtain⟨Al3,rv1,p1,_⟩:=I.list hq1
  have l1:=rv1.length
  obtain⟨⟨old,s1⟩,s4⟩:=st
  have hh:X.A.in1.handled=none:=I.ok.hd hc
  have en:i=Al3.toArray.size:=by simp;omega
  subst en
  refine wpAny_pyNext_enum_endD (Draws.list hh it a hai Al3.toArray) s1 ⟨s4,p1.isList⟩ fun h' kk=>⟨rfl,I.AeG (t':=s.toks) (its:=[e,it]) (fun c o hc z=>?_) hf⟩
  simp only [A5U,A5V,or_false,not_or] at hc
  exact kk c o hc.2 z
 self:=fun _ _ _ _ _ st h=>by obtain⟨⟨old,s1⟩,_⟩:=st;exact wpAny_pyIter_enum s1 h
section
variable {X:Cx}{es:List Expr}{kx:Nat}{tp:Pos}
def A2y (K:PySem.W.Frag)(ta:TA):TI:=fun σ H R=>ta σ H fun vs H1=>∃ a,vs=[.ref a]∧(∃ xs,SqL K H1 a xs)∧R (Ite K a) H1
theorem AyX{K:PySem.W.Frag}{a:Expr}{ta:TA}{p pos:Pos}(hg:Gl X "enumerate") (hm:X.mg "enumerate" = none) (ha:PA X [a] ta) (hK:X.K=K:=by rfl) (hs:starEach [a] X.env=[(false,eval a X.env)]:=by rfl) :
  PI X (.Tuple es kx tp) (.Call (.Name "enumerate" p) [a] [] pos) (A2y K ta):=by
 subst hK
 intro pins s σ H R I h
 refine Call_ (ZC I hg hm Aqy (PyProof.Rows.callWith_type1 (thn (ha pos pins s σ H _ I h) fun us s1 ⟨vs,H1,I1,r1,q1⟩=>?_) hs rfl))
 obtain⟨a,e,⟨xs,hq1⟩,q⟩:=q1
 subst e
 cases r1 with
 | cons r rr =>
  cases rr
  cases r
  obtain⟨Al3,rv1,p1,_⟩:=I1.list hq1
  obtain⟨o1,e1,_⟩:=id p1.isList
  have la:a<s1.heap.objs.size:=Heap.lt_size e1
  refine call_enumerate_list p1.isList fun h' he hi hsz kk=>wpAny_pyIter_enum he ?_
  refine⟨_,[s1.heap.objs.size+1,s1.heap.objs.size],_,_,H1,rfl,I1.kept (t':=s1.toks) kk,AvS (lne (A6y _) 0).symm (lne la 1) (lne la 0),⟨⟨_,he⟩,hi⟩,fun c hc=>?_,q⟩
  have le:s1.heap.objs.size≤c:=by
   simp only [A5U,A5V,or_false] at hc
   rcases hc with e | e <;> subst e <;> omega
  exact I1.Avx le (I1.hok.fresh le)
theorem Axe{K:PySem.W.Frag}{a:Addr}{xs:List V}{g:TG}{tb:TS}{D:Ends}{σ:St}{H:Hp}(Pv:Nat→St→Hp→Prop)(h0:Pv 0 σ H)(hl:∀ i σ H,Pv i σ H→SqL K H a xs)
  (hs:∀ i x σ H T,xs[i]?=some x→Pv i σ H→H T=none→g (.ref T) σ (upd H T (.tup [.int (i:Int),x])) fun σ2 H2=>tb { D with nx:=Pv (i+1),ct:=Pv (i+1),bk:=D.nx } σ2 H2) (hd:∀ σ H,Pv xs.length σ H→D.nx σ H) :
  ∃ W:Nat→Nat→St→Hp→Prop,(∃ m,W 0 m σ H)∧∀ i m σ H,W i m σ H →
   ((Ite K a).stop i H∧D.nx σ H)∨((Ite K a).go i H∧∃ N:St→Hp→Prop,(∀ σ' H',N σ' H'→∃ m',m'<m∧W (i+1) m' σ' H')∧∀ x H',(Ite K a).yld i H x H'→g x σ H' fun σ2 H2=>tb { D with nx:=N,ct:=N,bk:=D.nx } σ2 H2):=by
 refine⟨fun i m σ H=>m=xs.length-i∧i≤xs.length∧Pv i σ H,⟨xs.length,by simp,A6c _,h0⟩,?_⟩
 rintro i m σ H ⟨rfl,hi,p⟩
 have q1:=hl i σ H p
 by_cases hlt:i<xs.length
 ·refine .inr ⟨⟨xs,xs[i],q1,A5L hlt⟩,Pv (i+1),fun σ' H' p'=>⟨xs.length-(i+1),by omega,rfl,hlt,p'⟩,fun x H' y=>?_⟩
  obtain⟨T,rfl,hT,y⟩:=y
  have e:=y xs _ q1 (A5L hlt)
  subst e
  exact hs i _ σ H T (A5L hlt) p hT
 ·have e:i=xs.length:=by omega
  subst e
  exact .inl ⟨⟨xs,q1,rfl⟩,hd σ H p⟩
end
open PySem PySem.Spec PyProof.Rows
inductive AvT (K:PySem.W.Frag) (H:Hp):Nat→V→V→Prop where
 | flat {n:Nat} {x:V} (h:Wy x=true):AvT K H n x x
 | lst {n:Nat} {p q:Addr} {xs ys:List V} (hp:SqL K H p xs) (hq:SqL K H q ys) (hl:xs.length=ys.length) (hi:∀(i:Nat) (x y:V),xs[i]?=some x→ys[i]?=some y→AvT K H n x y):AvT K H (n+1) (.ref p) (.ref q)
 | tup {n:Nat} {p q:Addr} {xs ys:List V} (hp:SqT K H p xs) (hq:SqT K H q ys) (hl:xs.length=ys.length) (hi:∀(i:Nat) (x y:V),xs[i]?=some x→ys[i]?=some y→AvT K H n x y):AvT K H (n+1) (.ref p) (.ref q)
section
variable {X:Cx}{K:PySem.W.Frag}
def A2z (K:PySem.W.Frag)(H:Hp)(p q:Addr):Prop:=∃ xs ys:List V,SqL K H p xs∧SqL K H q ys∧xs.length=ys.length∧∀(i:Nat) (x y:V),xs[i]?=some x→ys[i]?=some y→AvT K H 50 x y
def A5s (K:PySem.W.Frag):R2:=fun x y H Q=>∃ p q,x=.ref p∧y=.ref q∧A2z K H p q∧Q (.bl true) H
def A5t (K:PySem.W.Frag):R2:=fun x y H Q=>∃ p q,x=.ref p∧y=.ref q∧A2z K H p q∧Q (.bl false) H
end
open PySem PySem.Spec PyProof.Rows
section
variable {X:Cx}{K:PySem.W.Frag}{k:Nat}{f C:Addr}{fd:FuncData}{ps:List Str}{sp:Sp}{dvs:List V}{ds:List Value}{x m:Str}{p pos apos:Pos}{e o:Expr}{es:List Expr}{ta:TE}{t:TA}
def A5u (K:PySem.W.Frag):R2:=fun x y H Q=>∃ p q xs,x=.ref p∧y=.ref q∧SqL K H p xs∧SqL K H q []∧Q (.bl (!xs.isEmpty)) H
def A5v (K:PySem.W.Frag):R2:=fun x y H Q=>∃ p q xs,x=.ref p∧y=.ref q∧SqL K H p xs∧SqL K H q []∧Q (.bl xs.isEmpty) H
end
open PySem PySem.Spec PyProof.Rows
def YX (X:Cx)(fp:List Addr)(C:Addr)(s:Shared)(H:Hp)(E:XK):Value→Shared→Prop:=fun e s' =>
 ∃(H1:Hp) (s1:Shared) (m:Str→Option Value),Un (frs X.stack) fp H H1 s.heap s1.heap∧s1.os=s.os∧s1.heap.Ns C m∧H1 C=none∧CX1 X.prog X.w X.stack H1 s1 E e s'
abbrev AeJ (X:Cx) (Nc:List Str) (scope:Scope) (cl:List (Str × Addr)) (C:Addr) (fp:List Addr) (s:Shared) (H:Hp) (E:XK):Cx:=(K6 X Nc scope cl C fp s H).wish (YX X fp C s H E)
theorem A2G{X:Cx}{Nc:List Str}{scope:Scope}{cl:List (Str × Addr)}{C:Addr}{fp:List Addr}{s:Shared}{H:Hp}{E:XK}:Passes (CX1 X.prog X.w) (AeJ X Nc scope cl C fp s H E) E:=fun pins σ H1 s1 e s' I c=>by
 obtain⟨m,hn,_⟩:=I.loc
 exact⟨H1,s1,m,I.base,I.os,hn,I.free,c⟩
def Aft (X:Cx)(E:XK)(C:Addr)(e:Value)(s':Shared):Prop :=
 (∃ m,s'.heap.Ns C m)∧∀ h',Heap.SameBut C s'.heap h'→∃ ea Cc t H' B,e=.ref ea∧Fx B X.stack ea Cc t (rawInt X.env.locals) h'∧s'.os=X.s₀.os∧AllBare s'.gens∧Bk X.prog X.w X.outer X.H₀ X.s₀.heap H' B h'∧E (.ref Cc) none H'
theorem Al4{e:Value}{env env':Env}(h:env.frame=env'.frame):noteFrame e env=noteFrame e env':=by
 unfold noteFrame PySem.frameOf
 rw[h]
theorem Afr{h h' base:Heap}:∀{l:List Env},(∀ b∈frs l,h'.get? b=h.get? b)→h.FunFrames base l→h'.FunFrames base l
 | [],_,_=>trivial
 | env::r,k,⟨hk,⟨L,o,hf,hn,ho,hd⟩,hr⟩=>by
  have m:∀ b∈frs r,b∈frs (env::r):=fun b hb=>by unfold frs;rw[A6u,hf];exact A6h _ hb
  have mL:L∈frs (env::r):=by unfold frs;rw[A6u,hf];exact A6j
  exact⟨hk,⟨L,o,hf,hn,(k L mL).trans ho,hd⟩,Afr (fun b hb=>k b (m b hb)) hr⟩
section
variable {X:Cx}{pins:List (Addr × Obj)}{σ:St}{H:Hp}{s s':Shared}{E:XK}{e:Value}{C:Addr}{fp:List Addr}
theorem A4p{M:Model}{R:Shared→Prop}{E':Value→Shared→Prop}{cenv:Env}(hB:Body X)(I:Inv X pins σ H s)(hfp:∀ b∈fp,Vl X pins H b)(hC:s.heap.objs.size≤C)(hf:cenv.frame=X.env.frame)
  (c:YX X fp C s H E e s') (k:∀ s'',Aft X E C e s''→R s''):wpAny M X.A (noteFrame e cenv) (fun _ s''=>R s'') E' s':=by
 obtain⟨H1,s1,m,un,os1,hns,nC,ea,Cc,t,H',B,rfl,fx,os,bare,bk,q⟩:=c
 have nx:∀ b:Addr,b∉X.ex:=fun b z=>by rw[hB.ex] at z;exact nomatch z
 have fsS:∀ b,b∈X.fs→b∈frs X.stack:=fun b hb=>by
  rw[hB.stack];unfold frs;rw[A6u,hB.frame];exact A6h _ hb
 have stk:∀ b,b∈frs X.stack→∃ o,s.heap.get? b=some o:=fun b hb=>by
  obtain⟨_,o,e,_⟩:=I.stack.mem hb
  exact⟨o,e⟩
 have CS:C∉frs X.stack:=fun z=>by
  obtain⟨o,e⟩:=stk C z
  exact absurd (Heap.lt_size e) (Nat.not_lt.mpr hC)
 have old:∀ b o,s.heap.get? b=some o→b≠C:=fun b o e z=>absurd (Heap.lt_size e) (Nat.not_lt.mpr (z▸hC))
 have nfp:∀ b o,X.s₀.heap.get? b=some o→b∉fp:=fun b o e z=>by
  rcases(hfp b z).2.2.2.1 with y | y
  ·exact nx b y
  ·exact absurd (Heap.lt_size e) (Nat.not_lt.mpr y)
 obtain⟨oC,es,ep,hoC,dC,sk,nf⟩:=hns
 have hBC:B.get? C=some oC:=bk.keep C oC hoC nC CS
 have A2H:H' C=none:=bk.free C oC hoC nC
 have B'C:(PySem.W.hideAll B [C]).get? C=none:=PySem.W.hideAll_none _ A6j
 have A0K:∀ b o,B.get? b=some o→b≠C→(PySem.W.hideAll B [C]).get? b=some o:=fun b o e z=>PySem.W.hideAll_get _ e fun y=>z (List.mem_singleton.mp y)
 have stays:(PySem.W.hideAll B [C]).StaysIn B:=fun b o e=>PySem.W.of_hideAll _ e
 have fx':Fx (PySem.W.hideAll B [C]) X.stack ea Cc t .none s'.heap:=by
  obtain⟨st,ne,fr,T,oT,ts,hE,hBT,hTe,hT,hdT,h3⟩:=fx
  exact⟨fun b o e=>st b o (stays b o e),PySem.W.fresh_of_stays stays ne,PySem.W.funFrames_base stays fr,T,oT,ts,hE,PySem.W.fresh_of_stays stays hBT,hTe,hT,hdT,h3⟩
 have bkX:Bk X.prog X.w X.outer X.H₀ X.s₀.heap H' (PySem.W.hideAll B [C]) s'.heap:=by
  refine⟨fun b u e=>?_,fun b o e n hb=>?_,fun b o e hb=>?_,fun b o e n=>?_,fun b o e hb=>?_,fun b xs e=>bk.tups b xs (un.tups b xs (I.base.tups b xs e)),fun b o u e=>bk.Vk b o u (un.Vk b o u (I.base.Vk b o u e)),fun b ps e=>?_⟩
  ·refine(bk.ok b u e).stay (fun c v hc z=>A0K c v z fun y=>?_) (fun _ z=>z) fun _ _ z=>z
   rcases hc with x | x
   ·rw[← x,y,A2H] at e;cases e
   ·rw[y,A2H] at x;cases x
  ·have e1:=I.base.keep b o e n hb (nx b)
   have n1:=I.base.free b o e n (nx b)
   have bfr:=I.AvH e hb
   exact A0K b o (bk.keep b o (un.keep b o e1 n1 bfr (nfp b o e)) (un.free b o e1 n1 (nfp b o e)) bfr) (old b o e1)
  ·obtain⟨sl,e1⟩:=I.base.slot b o e (I.ok.frf b hb) hb (nx b)
   obtain⟨sl2,e2⟩:=un.slot b _ e1 (I.Ah0 b (fsS b hb)) (fsS b hb) (nfp b o e)
   obtain⟨sl3,e3⟩:=bk.slot b _ e2 (fsS b hb)
   exact⟨sl3,e3⟩
  ·obtain⟨o',e1⟩:=I.base.there b o e (nx b)
   obtain⟨o2,e2⟩:=un.there b o' e1 (nfp b o e)
   exact bk.free b o2 e2 (un.free b o' e1 (I.base.free b o e n (nx b)) (nfp b o e))
  ·obtain⟨o',e1⟩:=I.base.there b o e (nx b)
   obtain⟨o2,e2⟩:=un.there b o' e1 (nfp b o e)
   obtain⟨o3,e3⟩:=bk.there b o2 e2 (I.AvH e hb)
   exact⟨o3,A0K b o3 e3 (old b o' e1)⟩
  ·obtain⟨m1,e1⟩:=I.base.Wt b ps e
   obtain⟨m2,e2⟩:=un.Wt b _ e1
   obtain⟨m3,e3⟩:=bk.Wt b _ e2
   exact⟨m1++m2++m3,by rw[e3,Array.append_assoc,Array.append_assoc,Array.append_assoc]⟩
 rw[Al4 hf]
 refine AuI hB I.ok.frames (.came fx') fun h1 x1 u1=>k _ ?_
 obtain⟨sl,hC1⟩:=u1 C oC (fx.st C oC hBC) (fun vs z=>by rw[dC] at z;cases z)
 refine⟨⟨m,_,es,ep,hC1,dC,sk,nf⟩,fun h' sb=>?_⟩
 have bk1:=bkX.slots (Amc hB fx'.fr) u1
 obtain⟨st,ne,fr,T,oT,ts,hE,hBT,hTe,hT,hdT,h3⟩:=x1
 have TC:T≠C:=fun z=>by rw[z,hC1] at hT;cases hT;rw[dC] at hdT;cases hdT
 have EC:ea≠C:=fun z=>by rw[z,hC1] at hE;have:=congrArg Obj.data (Option.some.inj hE);dsimp only at this;rw[dC] at this;cases this
 refine⟨ea,Cc,t,H',_,rfl,⟨fun b o e=>(sb.2 b fun z=>by rw[z,B'C] at e;cases e).trans (st b o e),ne,Afr (fun b hb=>sb.2 b fun z=>CS (z▸hb)) fr,T,oT,ts,(sb.2 ea EC).trans hE,hBT,hTe,(sb.2 T TC).trans hT,hdT,h3⟩,os.trans (os1.trans I.os),bare,
  ⟨bk1.ok,bk1.keep,fun b o e hb=>?_,bk1.free,bk1.there,bk1.tups,bk1.Vk,bk1.Wt⟩,q⟩
 obtain⟨sl2,e2⟩:=bk1.slot b o e hb
 exact⟨sl2,(sb.2 b fun z=>CS (z▸fsS b hb)).trans e2⟩
end
def A1q (M:Model)(A:Around)(E:Value→Shared→Prop)(Q:Value→Shared→Prop)(acc:Value)(C:Addr)(f:Option Addr)(r:Result)(s':Shared):Prop :=
 match r with
 | .ok _=>∃ m,s'.heap.Ns C m∧∀ h',Heap.SameBut C s'.heap h'→Q acc { s' with heap:=h' }
 | .error x=>∃ m,s'.heap.Ns C m∧∀ h',Heap.SameBut C s'.heap h'→∀ cenv:Env,cenv.locals=C→cenv.frame=f→wpAny M A (passOn "comprehension.variables-let-go" x cenv:Sem Value) (fun _ _=>False) E { s' with heap:=h' }
section
variable {X:Cx}{pins:List (Addr × Obj)}{σ:St}{H:Hp}{s:Shared}
end
open PySem PySem.Spec PyProof.Rows
section
variable {X:Cx}{pins:List (Addr × Obj)}{σ:St}{H:Hp}{s:Shared}
theorem Asp{x:Str}{px:Pos}{Nc:List Str}{BW:List Nat}{scope:Scope}{cl:List (Str × Addr)}{iter elt:Expr}{ifs:List Expr}{pos:Pos}{tc:TT}{te:TE}{Q:VK}{it:Addr}{fp:List Addr}{tn:Nat→Heap→Prop}{J:It}
  {RR:Value→Addr→Option Addr→Result→Shared→Prop}{E:Value→Shared→Prop}{E':XK} (hB:Body X)
  (O:Jo X x Nc BW scope) (hc:X.calm=true)
  (hcl:∀ x c,cl.lookup x=some c→X.env.cells.lookup x=some c∧(x,NameKind.free)∈scope.names) (Agp:∀ x,(x,NameKind.free)∈scope.names→cl.lookup x=X.env.cells.lookup x)
  (hte:∀ C fp s H,PE (AeJ X Nc scope cl C fp s H E') elt te) (htc:∀ C fp s H,PIf (AeJ X Nc scope cl C fp s H E') ifs tc)
  (I:Inv X pins σ H s) (T:Turn X.prog X.w X.K (.Name x px) J fp it tn) (st:tn 0 s.heap) (hfp:∀ b∈fp,Vl X pins H b) (h:Ajm BW tc te J σ H Q)
  (hRR:∀(D C:Addr) (s':Shared) (m:Str→Option Value),s'.heap.Ns C m→(∀ h',Heap.SameBut C s'.heap h'→∃ H',Inv X pins σ H' { s' with heap:=h' }∧H' C=none∧Q (.ref D) H') →
   s.heap.objs.size≤C→RR (.ref D) C X.env.frame (.ok .next) s')
  (hRE:∀(D C:Addr) (e:Value) (s':Shared),Aft X E' C e s'→RR (.ref D) C X.env.frame (.error e) s') :
  wpAny (model X.prog X.w) X.A (newList []) (fun acc s₃=>wpAny (model X.prog X.w) X.A (newFunctionEnv scope X.env.globals cl [] X.env.qual none .none (some X.env)) (fun cenv s₄ =>
   codeAny (model X.prog X.w) X.A (.compStart (.ListComp elt [⟨.Name x px,iter,ifs,0⟩] scope pos) 0 (.ref it) acc { cenv with scope:=relabel scope X.env }) (RR acc cenv.locals cenv.frame) s₄) E s₃) E s:=by
 refine wpAny_newObj_type (wpAny_newFunctionEnv O.cell (by intro y hy;simp at hy) (fun h₁ hns₁ hsb₁=>?_) O.kind)
 dsimp only at hns₁ hsb₁ ⊢
 generalize hH2:s.heap.push { cls:=.type "list", dict:=none,data:=.seq ([]:List Value).toArray }=H2 at hns₁ hsb₁ ⊢
 have hC:H2.objs.size=s.heap.objs.size+1:=by rw[← hH2,Heap.size_push]
 have hCle:s.heap.objs.size≤H2.objs.size:=by rw[hC];exact A6K _
 have hDC:s.heap.objs.size≠H2.objs.size:=by rw[hC];exact A5M (A6y _)
 have below:∀ b,b<s.heap.objs.size→b≠H2.objs.size∧b≠s.heap.objs.size:=fun b hb=>⟨by rw[hC];exact A5M (A6T hb),A5M hb⟩
 have old:∀ b o,s.heap.get? b=some o→h₁.get? b=some o:=fun b o e=>hsb₁.extBut b o (below b (Heap.lt_size e)).1 (Heap.get?_push_of_some _ (hH2▸Heap.get?_push_of_some _ e))
 have hacc:h₁.get? s.heap.objs.size=some (Tp [] 0):=hsb₁.extBut _ _ hDC (Heap.get?_push_of_some _ (hH2▸Heap.get?_push_size _ rfl))
 have hfo:∀ b∈fp,b<s.heap.objs.size:=fun b hb=>by
  obtain⟨o,e,_⟩:=T.obj _ _ st b hb
  exact Heap.lt_size e
 have st1:tn 0 h₁:=T.keep _ _ _ st fun b _ o e=>old b o e
 generalize hDD:s.heap.objs.size=D at *
 generalize hCC:H2.objs.size=C at *
 have AwG:D≤C:=hCle
 let Y:Cx:=AeJ X Nc scope cl C fp s H E'
 have I0:Inv Y [] (none::Oz σ BW) H { s with heap:=h₁,toks:=s.toks+([]:List (Str × Value)).length }:=(Am1 I O hcl Agp (by rw[hDD];exact hCle) hfp (fun b hb=>by rw[hDD];exact hfo b hb) old hns₁).wish _
 have ArU:H D=none:=by rw[← hDD];exact I.hok.fresh (A5K _)
 have Ah6:D≠C:=hDC
 have Dfs:D∉Y.fs:=fun z=>by
  have:=I.stack.mem (show D∈frs X.stack from z)
  obtain⟨_,o,e,_⟩:=this
  have:=Heap.lt_size e
  rw[hDD] at this
  exact A5W _ this
 have ArV:∀ y c,Y.env.cells.lookup y=some c→c≠D:=fun y c e z=>by
  obtain⟨v,q⟩:=I.cell y c (hcl y c e).1
  have:=q.lt
  rw[z,hDD] at this
  exact A5W _ this
 have Dfp:∀ b∈fp,b≠D:=fun b hb=>A5M (hfo b hb)
 have fpY:∀{H':Hp},(∀ b∈fp,H' b=none)→∀ b∈fp,Vl Y [] H' b:=fun hn b hb =>
  ⟨hn b hb,A5M (A5O (hfo b hb) AwG),fun z=>I0.ok.Amo b hb z,.inl hb,fun y c e=>(I0.ok.exf b hb).2 y c e,fun p hp=>absurd (show p∈([]:List (Addr × Obj)) from hp) (by simp)⟩
 obtain⟨W,⟨m0,w0⟩,turn⟩:=h
 have loop:∀ s₃:Shared,s₃={ s with heap:=h₁,toks:=s.toks+([]:List (Str × Value)).length } →
   codeAny (model X.prog X.w) X.A (.compLoop (.ListComp elt [⟨.Name x px,iter,ifs,0⟩] scope pos) 0 (.ref it) (.ref D) (compEnvC scope cl C X.env)) (RR (.ref D) C X.env.frame) s₃:=by
  rintro s₃ rfl
  have err:∀ e s',YX X fp C s H E' e s'→notedBy (model X.prog X.w) X.A (compEnvC scope cl C X.env) (fun e s''=>RR (.ref D) C X.env.frame (.error e) s'') e s':=fun e s' c =>
   A4p hB I hfp (by rw[hDD];exact hCle) rfl c fun s'' q=>hRE D C e s'' q
  refine Abv (fun n s'=>∃(i:Nat) (o:Option V) (H':Hp) (ys:List V) (us:List Value) (k:Nat),Inv Y [] (o::Oz σ BW) H' s'∧tn i s'.heap∧(∀ b∈fp,H' b=none)∧s'.heap.get? D=some (Tp us k)∧H' D=none∧Vals ys us∧W i n ys H')
   ?_ m0 ⟨0,none,H,[],[],0,I0,st1,fun b hb=>(hfp b hb).1,hacc,ArU,.nil,w0⟩
  rintro n s3 ⟨i,o3,H3,ys,us,k,I3,st3,fr3,hD3,nD3,rv,w3⟩
  have fpP:∀{H':Hp} {ob:Obj},(∀ b∈fp,H' b=none)→∀ b∈fp,Vl Y [(D,ob)] H' b:=fun hn b hb=>by
   obtain⟨g0,g1,g2,g3,g4,_⟩:=fpY hn b hb
   refine⟨g0,g1,g2,g3,g4,fun p hp=>?_⟩
   have e:p=(D,_):=List.mem_singleton.mp (show p∈[(D,_)] from hp)
   rw[e]
   exact Ne.symm (Dfp b hb)
  have IP:Inv Y [(D,Tp us k)] (o3::Oz σ BW) H3 s3:=I3.Rw fun p hp=>by
   have e:p=(D,Tp us k):=List.mem_singleton.mp hp
   subst e
   exact⟨hD3,nD3,Ah6,Dfs,fun v z=>by cases z⟩
  have Am3:∀{σ':St} {H':Hp} {s':Shared} {pl:List (Addr × Obj)},Inv Y ([(D,Tp us k)]++pl) σ' H' s'→s'.heap.get? D=some (Tp us k)∧H' D=none:=fun I'=>by
   have z:=I'.pin (D,Tp us k) (A6b _ (A6P _ A6j))
   exact⟨z.1,z.2.1⟩
  rcases turn i n ys H3 w3 with ⟨stop,hlen,fin⟩ | ⟨go,hlen,step⟩
  ·
   refine wpAny_mono (T.done Y rfl rfl rfl hc i _ s3 _ H3 (fun _ _=>False) IP (fpP fr3) st3 stop) (fun r s4 hr=>?_) fun _ _ z=>z.elim
   obtain⟨hr,I4⟩:=hr
   subst hr
   obtain⟨gD,nD⟩:=Am3 (pl:=[]) (by simpa using I4)
   obtain⟨m,hn,_⟩:=I4.loc
   refine hRR D C s4 m hn (fun h' hs'=>⟨upd H3 D (.lst ys),?_,(Bd (Ne.symm Ah6)).trans I4.free,fin D nD⟩) hCle
   have nt:∀ b ob,H3 b=some ob→b≠C:=fun b ob e z=>by
    have:=I4.free
    rw[z] at e
    rw[show H3 C=none from this] at e
    cases e
   have u1:Un (frs X.stack) fp H H3 s.heap h':=Un.but I4.base hs' (show s.heap.objs.size≤C by rw[hDD];exact hCle)
   have ok1:HOk X.prog X.w H3 h':=fun b ob e=>(I4.hok b ob e).stay (fun c v hc q=>(hs'.2 c (by
    rcases hc with z | z
    ·rw[z];exact nt b ob e
    ·exact nt c _ z)).trans q) (fun _ q=>q) fun _ _ q=>q
   have gD':h'.get? D=some (Tp us k):=(hs'.2 D Ah6).trans gD
   exact I.call' (s':={ s4 with heap:=h' }) (ch:=fp) I4.os (u1.track (A6v hDD) nD) (ok1.track nD ⟨hlen,us,k,rv,gD'⟩) I4.bare fun b hb=>by
    obtain⟨_,g1,_,g3,g4,g5⟩:=hfp b hb
    exact⟨g3,g1,g4,g5⟩
  ·
   refine wpAny_mono (T.item Y rfl rfl rfl hc i _ s3 _ H3 (fun _ _=>False) IP (fpP fr3) st3 go) (fun r s4 hr=>?_) fun _ _ z=>z.elim
   obtain⟨u0,hr,h4⟩:=hr
   subst hr
   refine wpAny_mono h4 (fun _ s5 h5=>?_) fun _ _ z=>z.elim
   obtain⟨x5,H5,I5,r5,y5,st5,fr5⟩:=h5
   have I5':=I5.pinned (fpP fr5) (T.obj _ _ st5)
   have tgt:PG Y (.Name x px) (XS 0):=En (i:=0) O.nd O.hd (.inl (G3 I.ok.kind O.loc (by intro z;cases z))) (.inr (G3 I.ok.kind O.loc (by intro z;cases z)))
   refine wpAny_mono (tgt _ s5 _ H5 x5 u0 (fun σ2 H2=>σ2=some x5::Oz σ BW∧H2=H5) I5' r5 ⟨rfl,rfl⟩) (fun _ s6 h6=>?_) err
   obtain⟨_,_,I6,rfl,rfl⟩:=h6
   refine wpAny_mono ((htc C fp s H).run I6 (step x5 _ y5)) (fun b s7 h7=>?_) err
   obtain⟨H7,I7,q7⟩:=h7
   have AkQ:∀{σ':St} {H':Hp} {s':Shared},Inv Y ([(D,Tp us k)]++Agn fp s5.heap) σ' H' s'→tn (i+1) s'.heap∧∀ b∈fp,H' b=none:=fun I' =>
    ⟨T.keep _ _ _ st5 fun b hb o e=>(I'.pin (b,o) (A6b _ (A6b _ (Ny hb e)))).1,fun b hb=>by
     obtain⟨o,e,d⟩:=T.obj _ _ st5 b hb
     exact(I'.pin (b,o) (A6b _ (A6b _ (Ny hb e)))).2.1⟩
   cases b with
   | false =>
    rw[if_neg A5Q] at q7
    rw[if_neg A5Q]
    obtain⟨m',hm,w7⟩:=q7
    obtain⟨gD,nD⟩:=Am3 I7
    obtain⟨k1,k2⟩:=AkQ I7
    exact⟨m',hm,i+1,some x5,H7,ys,us,k,I7.Rw (fun p hp=>nomatch hp),k1,k2,gD,nD,rv,w7⟩
   | true =>
    rw[if_pos rfl] at q7
    rw[if_pos rfl]
    refine wpAny_mono (hte C fp s H _ s7 _ H7 _ I7 q7) (fun u8 s8 h8=>?_) err
    obtain⟨y8,H8,I8,r8,m',hm,w8⟩:=h8
    obtain⟨gD,nD⟩:=Am3 I8
    obtain⟨k1,k2⟩:=AkQ I8
    refine call_meets F.slot_list_append ⟨_,gD,rfl⟩ F.entry_list_append (F.args_list_append_2 _ _) (PySem.list_append D us.toArray k u8 (by rw[A5R,← rv.length];omega)) ⟨gD,?_⟩
    have q:=PySem.IsL.update gD (·.push u8)
    have e1:us.toArray.push u8=(us++[u8]).toArray:=by simp
    rw[e1] at q
    have I8':Inv Y [] (some x5::Oz σ BW) H8 s8:=I8.Rw (fun p hp=>nomatch hp)
    have I9:Inv Y [] (some x5::Oz σ BW) H8 { s8 with heap:=s8.heap.update D (Obj.mapSeq (·.push u8)),toks:=s8.toks } :=
     I8'.turned (it:=D) (fun b o hb e=>(Heap.get?_update_other s8.heap (Obj.mapSeq (·.push u8)) (Ne.symm hb)).trans e) nD Ah6 (.inr (A6v hDD)) ArV (fun p hp=>nomatch hp)
    refine⟨m',hm,i+1,some x5,H8,ys++[y8],us++[u8],_,I9,T.keep _ _ _ k1 fun b hb o e=>(Heap.get?_update_other s8.heap (Obj.mapSeq (·.push u8)) (Ne.symm (Dfp b hb))).trans e,k2,q,nD,rv.append (.cons r8 .nil),w8⟩
 exact codeAny_compStart_list (loop _ rfl) (T.self X.A 0 _ _ _ st1 (loop _ rfl))
end
def ApT (M:Model)(A:Around)(E:Value→Shared→Prop)(u:Value→Sem Unit)(Q:Value→Shared→Prop)(acc:Value)(C:Addr)(f:Option Addr)(r:Result)(s':Shared):Prop :=
 match r with
 | .ok _=>wpAny M A (u acc) (fun _ s''=>∃ m,s''.heap.Ns C m∧∀ h',Heap.SameBut C s''.heap h'→Q .none { s'' with heap:=h' }) E s'
 | .error x=>∃ m,s'.heap.Ns C m∧∀ h',Heap.SameBut C s'.heap h'→∀ cenv:Env,cenv.locals=C→cenv.frame=f→wpAny M A (passOn "comprehension.variables-let-go" x cenv:Sem Value) (fun _ _=>False) E { s' with heap:=h' }
theorem At9{M:Model}{A:Around}{E:Value→Shared→Prop}{s:Shared}{env:Env}{e:Expr}{scope:Scope}{pos:Pos}{newAcc first:Sem Value}{g:Comprehension}{gs:List Comprehension}{cl:List (Str × Addr)}{u:Value→Sem Unit}{Q:Value→Shared→Prop}
  (hcl:clausesOf e=g::gs) (hs:∀ x,foldedSetIterable g.iter env x=pure x) (hclos:closureFor scope env=pure cl)
  (hkind:scope.kind=.function) (hnames:∀ x∈scope.names,x.2=.local→scope.names.lookup x.1=some .local)
  (h:wpAny M A first (fun x s₁=>wpAny M A (pyIter x) (fun it s₂=>wpAny M A newAcc (fun acc s₃ =>
   wpAny M A (newFunctionEnv scope env.globals cl [] env.qual none .none (some env)) (fun cenv s₄ =>
    codeAny M A (.compStart e 0 it acc { cenv with scope:=relabel scope env }) (ApT M A E u Q acc cenv.locals cenv.frame) s₄) E s₃) E s₂) E s₁) E s) :
  wpAny M A (comprehension e scope env pos newAcc false first (some u)) Q E s:=by
 unfold comprehension
 rw[hclos,hcl]
 refine wpAny_bind (wpAny_mono h (fun x s₁ h₁=>wpAny_bind (wpAny_standAt (wpAny_bind (wpAny_of_eq (hs x) (wpAny_bind (wpAny_holding (wpAny_mono h₁ (fun it s₂ h₂ =>
  wpAny_standIf (wpAny_bind (wpAny_mono h₂ (fun acc s₃ h₃=>wpAny_bind (wpAny_pure (wpAny_bind (wpAny_mono h₃ (fun cenv s₄ h₄=>?_) fun _ _ h'=>h')))) fun _ _ h'=>h')))
   fun _ _ h'=>h'))))))) fun _ _ h'=>h')
 dsimp only
 have hv:∀ x∈(scope.names.filter fun x=>(x.2 == .local || x.2 == .cell) && x.1 != (".0" : Str)).reverse,x.2=.local →
   Env.kindOf { cenv with scope:=relabel scope env } x.1=some .local:=fun x hx hl=>lookup_relabel_local (hnames x (List.mem_filter.mp (List.mem_reverse.mp hx)).1 hl)
 have hv':∀ x∈(scope.names.filter fun x=>(x.2 == .local || x.2 == .cell) && x.1 != (".0" : Str)).reverse.drop 1++(scope.names.filter fun x=>(x.2 == .local || x.2 == .cell) && x.1 != (".0" : Str)).reverse.take 1,
   x.2=.local→Env.kindOf { cenv with scope:=relabel scope env } x.1=some .local:=fun x hx hl=>(List.mem_append.mp hx).elim (fun h1=>hv x (List.mem_of_mem_drop h1) hl) (fun h1=>hv x (List.mem_of_mem_take h1) hl)
 refine wpAny_holding (wpAny_bind (wpAny_attempt (wpAny_holding (wpAny_run (codeAny_mono h₄ fun r s' hr=>?_)))))
 cases r with
 | ok f =>
  refine wpAny_bind (wpAny_rule (wpAny_bind (wpAny_holding (wpAny_mono hr (fun _ s'' hr'=>?_) fun _ _ h'=>h'))))
  obtain⟨m,hn,hr'⟩:=hr'
  exact wpAny_bind (wpAny_comp_letGo (cenv:={ cenv with scope:=relabel scope env }) hkind _ s'' m hv' hn fun h' m' _ hs'=>wpAny_pure (hr' h' hs'))
 | error x =>
  obtain⟨m,hn,hr⟩:=hr
  exact wpAny_bind (wpAny_holding (wpAny_comp_letGo (cenv:={ cenv with scope:=relabel scope env }) hkind _ s' m hv hn fun h' m' _ hs'=>wpAny_mono (hr h' hs' _ rfl rfl) (fun _ _ f=>f.elim) fun _ _ y=>y))
section
variable {X:Cx}{pins:List (Addr × Obj)}{σ:St}{H:Hp}{s:Shared}
theorem Axf{E':XK}{i:Nat}{y x:Str}{px py pos spos:Pos}{Nc:List Str}{BW:List Nat}{scope:Scope}{iter elt:Expr}{ifs:List Expr}{wi:TI}{tc:TT}{te:TE}(hB:Body X)(hw:∀ e s',FlX X E' e s'→X.xe e s')(O:Jo X x Nc BW scope)(hc:X.calm=true)
  (hN:X.N.Nodup) (hy:X.N[i]?=some y) (hx:X.env.scope.names.lookup y=some .local) (hi:PI X (.Name x px) iter wi)
  (htc:∀ cl C fp s H,PIf (AeJ X Nc scope cl C fp s H E') ifs tc) (hte:∀ cl C fp s H,PE (AeJ X Nc scope cl C fp s H E') elt te)
  (hsw:swapsWith (.ListComp elt [⟨.Name x px,iter,ifs,0⟩] scope pos) (some (.Name y py)) spos.line X.env=pure true) (hs:∀ x,foldedSetIterable iter X.env x=pure x:=by intro _;rfl) :
  PS X (.Assign [.Name y py] (.ListComp elt [⟨.Name x px,iter,ifs,0⟩] scope pos) spos) (Atn (AwF wi BW tc te) (XS i)):=by
 intro pins s σ H Dn I h
 rw[exec_Assign_Name_used _ _ _ _ hsw]
 refine wpAny_bind (wpAny_standAt (wpAny_bind ?_))
 obtain⟨cl,e1,e2,e3⟩:=Abu (scope:=scope) (env:=X.env) fun y hy hf=>I.ok.has y.1 (.inl (O.fr y hy hf).1)
 show wpAny _ X.A (do let _ ← comprehension (.ListComp elt [⟨.Name x px,iter,ifs,0⟩] scope pos) scope X.env _ (newList []) false (eval iter X.env) (some (assign (.Name y py) X.env))) _ _ s
 refine wpAny_bind (wpAny_mono (At9 (u:=assign (.Name y py) X.env) (Q:=fun _ s'=>SP X pins Dn .next s') rfl hs e1 O.kind O.names
  (thn (hi pins s σ H _ I h) fun v s1 h1=>thn h1 fun itv s2 h2=>?_)) (fun _ s' hq=>wpAny_pure (wpAny_pure hq)) fun _ _ e=>e)
 obtain⟨it,fp,tn,J,H2,e,I2,T,st2,f2,w2⟩:=h2
 subst e
 refine Asp (RR:=fun acc C f=>ApT (model X.prog X.w) X.A X.xe (assign (.Name y py) X.env) (fun _ s'=>SP X pins Dn .next s') acc C f) hB O hc e2 e3 (hte cl) (htc cl) I2 T st2 f2 w2 ?_ ?_
 ·intro D C s' m hn hq hC
  show wpAny _ X.A (assign (.Name y py) X.env (.ref D)) _ _ _
  obtain⟨H',I',nC,q⟩:=hq s'.heap (.refl ..)
  have I'':Inv X pins σ H' s':=I'
  have CL:C≠X.env.locals:=A6x (A5O I2.lt hC)
  have AkR:∀ y c,X.env.cells.lookup y=some c→c≠C:=fun y c e z=>by
   obtain⟨v,q⟩:=I2.cell y c e
   have:=A5O q.lt hC
   rw[z] at this
   exact A5W _ this
  refine wpAny_assign_Name (Ae8 I'' hN hy (.inl hx) (show RelV (.ref D) (.ref D) from rfl) (fun s3 I3 hsb=>?_) (.inr hx))
  obtain⟨a,hsb,ha⟩:=hsb
  have aC:C≠a:=by
   rcases ha with z | z
   ·rw[z];exact CL
   ·exact Ne.symm (AkR _ _ z)
  refine⟨m,hn.sameBut hsb aC,fun h4 hs4=>?_⟩
  refine⟨_,H',I3.turned (it:=C) (t':=s3.toks) (fun b o hb e=>(hs4.2 b hb).trans e) nC CL (.inr (A5X I2.sz hC)) AkR (fun p hp z=>?_),q⟩
  ·have:=A5O (Heap.lt_size (I2.pin p hp).1) hC
   rw[z] at this
   exact A5W _ this
 ·intro D C e s' ⟨⟨m,hn⟩,hq⟩
  refine⟨m,hn,fun h' hs' cenv _ hf=>?_⟩
  obtain⟨ea,Cc,t,H',B,rfl,fx,os,bare,bk,q⟩:=hq h' hs'
  unfold PySem.passOn
  obtain⟨T',oT,ts,hE,_⟩:=fx.ob
  refine wpAny_bind (wpAny_field (s:={ s' with heap:=h' }) hE rfl (x:=.ref T') rfl ?_)
  rw[if_neg (by simp)]
  refine wpAny_bind (ApO (s:={ s' with heap:=h' }) (f:=cenv.frame) fx fun h2 x2 u2=>?_)
  rw[hf,hB.frame] at x2
  refine wpAny_throw (hw _ _ ⟨ea,Cc,t,H',B,rfl,.seen x2,os,bare,bk.slots (Amc hB fx.fr) u2,q⟩)
end
open PySem PySem.Spec PyProof.Rows
section
variable {X:Cx}{K:PySem.W.Frag}
def A2I (K:PySem.W.Frag):R2:=fun x y H Q=>∃(p q:Addr) (js ks:List Int),x=.ref p∧y=.ref q∧SqT K H p (vI js)∧SqT K H q (vI ks)∧Q (.bl (!decide (js=ks))) H
theorem AyY(hu:X.A.units+100<cLine)(hK:X.K=K:=by rfl):OpR X (compareOp .NotEq) (A2I K):=by
 subst hK
 intro pins s σ H x y v u Q I rx ry h
 obtain⟨p,q,js,ks,rfl,rfl,hx,hy,k⟩:=h
 cases rx
 cases ry
 obtain⟨its,r,pl,hz⟩:=I.tuple hx
 obtain⟨its2,r2,pl2,hz2⟩:=I.tuple hy
 have l1:=r.length
 have l2:=r2.length
 unfold vI at l1 l2
 rw[A5I] at l1 l2
 refine SeqAt.RcNeAt.tuples (e:=fun j=>decide (js[j]?=ks[j]?)) pl pl2 (by omega) (fun j h1 h2=>?_) _ _ _ _ ?_
 ·simp only [A5R] at h1 h2
  have j1:j<js.length:=by omega
  have j2:j<ks.length:=by omega
  obtain⟨w1,e1,q1⟩:=r.get (i:=j) (x:=V.int js[j]) (by simp[vI,j1])
  obtain⟨w2,e2,q2⟩:=r2.get (i:=j) (x:=V.int ks[j]) (by simp[vI,j2])
  have g1:its.toArray[j]=w1:=by
   have:its.toArray[j]?=some w1:=by simpa using e1
   exact Option.some.inj ((Array.getElem?_eq_getElem (by simpa using h1)).symm.trans this)
  have g2:its2.toArray[j]=w2:=by
   have:its2.toArray[j]?=some w2:=by simpa using e2
   exact Option.some.inj ((Array.getElem?_eq_getElem (by simpa using h2)).symm.trans this)
  rw[g1,g2]
  have:=AwA (A:=X.A.in1) (s:=s) q1 q2 rfl rfl
  have e3:eqV (V.int js[j]) (V.int ks[j])=decide (js[j]?=ks[j]?):=by
   rw[A5L j1,A5L j2]
   show(js[j] == ks[j])=_
   by_cases h:js[j]=ks[j] <;> simp[h]
  rw[e3] at this
  exact this
 refine⟨.bl (!decide (js=ks)),H,I,?_,k⟩
 show Value.bool _=Value.bool _
 congr 1
 simp only [A5R]
 rw[← l1,← l2]
 by_cases h:js=ks
 ·subst h
  simp
 ·rw[decide_eq_false h]
  by_cases hl:js.length=ks.length
  ·have:¬((List.range (min js.length ks.length)).all (fun j=>decide (js[j]?=ks[j]?))=true):=fun z=>h (by
    rw[A7e] at z
    refine A7l fun j=>?_
    by_cases hj:j<js.length
    ·exact of_decide_eq_true (z j (List.mem_range.mpr (by omega)))
    ·rw[A6L (by omega),A6L (by omega)])
   rw[Bool.eq_false_iff.mpr this,Bool.false_and]
  ·have:(js.length == ks.length)=false:=by simp[hl]
   rw[this,Bool.and_false]
end
open PySem PySem.Spec PyProof.Rows
theorem AvU:typeLookup (.type "list_reverseiterator") "__len__" = pure none:=by
 rw[typeLookup_type,builtinLookup_eq_fast];kernel_rfl
theorem Axg:typeLookup (.type "list_reverseiterator") "__length_hint__" = pure (some (.builtin "list_reverseiterator.__length_hint__")):=by
 rw[typeLookup_type,builtinLookup_eq_fast];kernel_rfl
section
variable {prog:Program}{w:World}{A:Around}{E:Value→Shared→Prop}{s:Shared}{R:Result→Shared→Prop}{it:Addr}{fp wr:List Addr}{G:Array GenState→Array GenState→Prop}{n:Nat}{P:Nat→Value→Prop}{St:Nat→Shared→Prop}
theorem AtB(V:WalksS prog w A.in1 it fp wr G n P St)(ty:∀ i s,St i s→s.TypeIs (.ref it) "list_reverseiterator") (M:Addr) (res:Value) (c:Nat) (st0:St 0 s) (nf:M∉fp) (mi:it∈fp) (hM:s.heap.get? M=some { cls:=.type "list", data:=.seq #[] c })
  (fin:∀ s' acc c',Moved (M::wr) G s s'→s'.heap.get? M=some { cls:=.type "list", dict:=none,data:=.seq acc c',slots:=#[] }→ItemsOf P acc n→R (.ok (.ret res)) s') (hn:n≤sizeLine) :
  wpAny (model prog w) A.in1 (Builtin.List.listExtendWith (.ref M) (.ref it) res)
   (fun f s'=>match f with | .done d=>R (.ok d) s' | .again k=>k.quiet=true∧codeAny (model prog w) A k R s') (fun e s'=>R (.error e) s') s:=by
 have ne:M≠it:=fun e=>nf (e▸mi)
 have q1:Builtin.List.listSameRef (.ref M) (.ref it)=false:=by simp[Builtin.List.listSameRef,ne]
 unfold Builtin.List.listExtendWith
 refine wpAny_bind (wpAny_typeOf (ty 0 _ st0) ?_)
 rw[if_neg (by rw[q1];decide)]
 refine wpAny_bind (V.self 0 _ _ _ st0 ?_);refine wpAny_bind (wpAny_holding ?_)
 unfold Builtin.List.listLengthHint
 refine wpAny_bind (wpAny_specialOf (ty 0 _ st0) AvU ?_)
 show wpAny _ A.in1 (specialOf (Value.ref it) (Str.ofString "__length_hint__") >>= _) _ _ _
 refine wpAny_bind (wpAny_specialOf (ty 0 _ st0) Axg ?_)
 generalize hid:("list_reverseiterator.__length_hint__" : String)=name
 wp_delta
 rw[show splitId name=some ("list_reverseiterator", "__length_hint__") from by subst hid;decide +kernel]
 subst hid
 refine wpAny_bind (wpAny_isInstance (b:=true) (ty 0 _ st0) (by rw[isSubtype_type];kernel_rfl) ?_);refine wpAny_pure ?_
 rw[if_neg (by decide)]
 refine wpAny_pure ⟨plainId_quiet F.plain_extend_loop _,codeAny_extend_loopS V hn _ nf _ n 0 _ _ _ rfl (A6c _) st0 hM (ItemsOf.nil P) fun s' acc c' mv hM' ha=>?_⟩
 exact fin s' acc c' mv hM' ha
theorem Axh(V:WalksS prog w A.in1 it fp wr G n P St)(ty:∀ i s,St i s→s.TypeIs (.ref it) "list_reverseiterator") (M:Addr) (st0:St 0 s) (nf:M∉fp) (mi:it∈fp) (hM:s.heap.get? M=some { cls:=.type "list", data:=.seq #[] })
  (fin:∀ s' acc c',Moved (M::wr) G s s'→s'.heap.get? M=some { cls:=.type "list", dict:=none,data:=.seq acc c',slots:=#[] }→ItemsOf P acc n→R (.ok (.ret .none)) s') (hn:n≤sizeLine) :
  wpAny (model prog w) A.in1 (Builtin.«list.__init__» ⟨[.ref M,.ref it],[]⟩)
   (fun f s'=>match f with | .done d=>R (.ok d) s' | .again k=>k.quiet=true∧codeAny (model prog w) A k R s') (fun e s'=>R (.error e) s') s:=by
 show wpAny _ A.in1 (do let old ← Builtin.List.listItems (.ref M);Builtin.List.listUpdate (.ref M) (fun _=>#[]);letGo old.toList.reverse;Builtin.List.listExtendWith (.ref M) (.ref it) .none) _ _ s
 refine wpAny_bind ?_;unfold Builtin.List.listItems
 refine wpAny_bind (wpAny_seqItems hM rfl (wpAny_pure ?_))
 show wpAny _ A.in1 (updateSeq M (fun _=>#[]) >>= fun _=>letGo (#[]:Array Value).toList.reverse >>= fun _=>Builtin.List.listExtendWith (.ref M) (.ref it) .none) _ _ s
 refine wpAny_bind (wpAny_updateSeq hM rfl ?_)
 have hM2:=Heap.get?_update_self (Obj.mapSeq (fun _=>(#[]:Array Value))) hM rfl
 have off:∀ b o,b≠M→s.heap.get? b=some o→(s.heap.update M (Obj.mapSeq (fun _=>(#[]:Array Value)))).get? b=some o:=fun b o nb e=>(Heap.get?_update_other _ _ (Ne.symm nb)).trans e
 refine wpAny_bind (wpAny_letGo ?_)
 refine AtB V ty M .none _ (V.frame 0 s _ s.toks st0 (A5K _) fun b hb o e=>off b o (fun z=>nf (z▸hb)) e) nf mi hM2 (fun s' acc c' mv hM' ha=>?_) hn
 exact fin s' acc c' (Moved.trans V.gtrans ((Moved.refl V.grefl).then_heap (A5K _) fun b o hb e=>off b o (fun z=>hb (z▸A6j)) e) mv) hM' ha
theorem Axi{Q:Value→Shared→Prop}(V:WalksS prog w A.in1.in1 it fp wr G n P St)(ty:∀ i s,St i s→s.TypeIs (.ref it) "list_reverseiterator") (st0:St 0 s) (below:∀ b∈fp,b<s.heap.objs.size) (mi:it∈fp)
  (fin:∀ s' acc c',Moved (s.heap.objs.size::wr) G { s with heap:=s.heap.push { cls:=.type "list", data:=.seq #[] } } s' →
   s'.heap.get? s.heap.objs.size=some { cls:=.type "list", dict:=none,data:=.seq acc c',slots:=#[] }→ItemsOf P acc n→Q (.ref s.heap.objs.size) s') (hn:n≤sizeLine) :
  wpAny (model prog w) A (call (.type "list") [.ref it]) Q E s:=by
 have nf:s.heap.objs.size∉fp:=fun z=>A5W _ (below _ z)
 refine callType_codes (Q₁:=fun ob s1=>ob=.ref s.heap.objs.size∧s1={ s with heap:=s.heap.push { cls:=.type "list", data:=.seq #[] } }) F.called_list (F.typeCall_list_1 _) F.entry_list_init (code_list_new _ ⟨rfl,rfl⟩) fun ob s1 h1=>?_
 obtain⟨rfl,rfl⟩:=h1
 have hM:(s.heap.push { cls:=.type "list", data:=.seq #[] }).get? s.heap.objs.size=some { cls:=.type "list", data:=.seq #[] }:=Heap.get?_push_size _ rfl
 refine⟨⟨_,hM,rfl⟩,F.args_list_init_2 _ _,Axh V ty _ (V.frame 0 s _ s.toks st0 (A5K _) fun b _ o e=>Heap.get?_push_of_some _ e) nf mi hM (fun s' acc c' mv hM' ha=>?_) hn⟩
 exact⟨rfl,fin s' acc c' mv hM' ha⟩
end
section
variable {X:Cx}{K:PySem.W.Frag}{p1 p2 pos1 pos2:Pos}{e:Expr}{te:TE}
def Axj (K:PySem.W.Frag)(te:TE):TE:=fun σ H Q=>te σ H fun x H1=>∃ a ys,x=.ref a∧SqL K H1 a ys∧ys.length≤1000∧∀ l,H1 l=none→Q (.ref l) (upd H1 l (.lst ys.reverse))
theorem AtC(hg1:Gl X "list") (hm1:X.mg "list" = none) (hg2:Gl X "reversed") (hm2:X.mg "reversed" = none) (he:PE X e te) (hK:X.K=K:=by rfl) (hc:X.calm=true:=by rfl)
  (hs2:starEach [e] X.env=(false,eval e X.env)::starEach [] X.env:=by rfl)
  (hs1:starEach [.Call (.Name "reversed" p2) [e] [] pos2] X.env=(false,eval (.Call (.Name "reversed" p2) [e] [] pos2) X.env)::starEach [] X.env:=by rfl)
  (hq1:(backTo pos1 (starEach [] X.env)).any (·.1)=false:=by rfl) (hq2:(backTo pos2 (starEach [] X.env)).any (·.1)=false:=by rfl) :
  PE X (.Call (.Name "list" p1) [.Call (.Name "reversed" p2) [e] [] pos2] [] pos1) (Axj K te):=by
 subst hK
 intro pins s σ H Q I h
 have hsz:sizeLine=16777216:=sizeLine_eq
 refine wpAny_Call_Name_kw (ZC I hg1 hm1 Aqx ?_)
 refine PyProof.Rows.callWith_type1 ?_ hs1 hq1
 rw[hs1]
 show wpAny _ _ (spliced ((false,eval (.Call (.Name "reversed" p2) [e] [] pos2) X.env)::backTo pos1 (starEach [] X.env))) _ _ s
 refine Calls.spliced_cons ?_
 refine wpAny_Call_Name_kw (ZC I hg2 hm2 AcS ?_)
 refine PyProof.Rows.callWith_type1 ?_ hs2 hq2
 rw[hs2]
 show wpAny _ _ (spliced ((false,eval e X.env)::backTo pos2 (starEach [] X.env))) _ _ s
 refine Calls.spliced_cons (thn (he pins s σ H _ I h) fun u s1 ⟨x,H1,I1,r1,a,ys,ex,hq,hy,q⟩=>?_)
 subst ex
 cases r1
 refine Calls.spliced_nil ?_
 obtain⟨its,r,pl,hz⟩:=I1.list hq
 have hl:=r.length
 refine call_reversed_list pl.isList ?_
 refine Calls.spliced_nil ?_
 obtain⟨h1,g1,d1,k1,o1⟩:=s1
 have hit:(h1.push (revObj a ((its.toArray.size:Int)-1))).IsRevIter h1.objs.size a ((its.toArray.size:Int)-1-((0:Nat):Int)):=⟨_,Heap.get?_push_size _ rfl,rfl,by show Data.fields _=Data.fields _;rw[show(its.toArray.size:Int)-1-((0:Nat):Int)=(its.toArray.size:Int)-1 by omega]⟩
 have hli:(h1.push (revObj a ((its.toArray.size:Int)-1))).IsList a its.toArray:=pl.isList.push _
 obtain⟨oa,hoa,_⟩:=pl.isList
 have hlt:a<h1.objs.size:=Heap.lt_size hoa
 have hh:X.A.in1.in1.handled=none:=by simp[I.ok.hd hc]
 have ps:(h1.push (revObj a ((its.toArray.size:Int)-1))).objs.size=h1.objs.size+1:=Heap.size_push _ _
 refine Axi (Walks.toS (Walks.listRev hh h1.objs.size a (A5M hlt) its.toArray)) (fun i s x=>x.2.1.typeIs) ⟨A6c _,hit,hli⟩ (fun b hb=>?_) (by simp) (fun s' acc c' mv hM ha=>?_) (by rw[A5R];omega)
 ·show b<(h1.push (revObj a ((its.toArray.size:Int)-1))).objs.size
  rw[ps]
  rcases List.mem_cons.mp hb with e | e
  ·rw[e];exact A6y _
  ·rw[List.mem_singleton.mp e];exact A6T hlt
 ·have vs:Vals ys.reverse acc.toList:=by
   refine Asd _ _ (by rw[A6G,hl];have:=ha.1;simpa using this.symm) fun i x u e1 e2=>?_
   have hi:i<ys.length:=by
    have:=(List.getElem?_eq_some_iff.mp e1).1
    rwa [A6G] at this
   have e3:=ha.2 i u (by rw[← Array.getElem?_toList];exact e2)
   rw[List.getElem?_reverse hi] at e1
   obtain⟨v,hv,rv'⟩:=r.get e1
   rw[A5R,← hl] at e3
   have e4:its[ys.length-1-i]?=some u:=by simpa using e3
   rw[hv] at e4
   cases e4
   exact rv'
  rw[Moved.eq_with mv]
  have hM':s'.heap.get? (h1.objs.size+1)=some { cls:=.type "list", dict:=none,data:=.seq acc c',slots:=#[] }:=by
   have:=hM
   dsimp only at this
   rw[ps] at this
   exact this
  show EP X pins σ Q (Value.ref (h1.push (revObj a ((its.toArray.size:Int)-1))).objs.size) _
  rw[ps]
  refine⟨.ref (h1.objs.size+1),_,I1.laid (t':=s'.toks) (o:=.lst ys.reverse) (h':=s'.heap) (fun b o e=>?_) (A6K _) ?_,rfl,q _ (I1.hok.fresh (A6K _))⟩
  ·have hb:=Heap.lt_size e
   refine mv.heap b o ?_ (Heap.get?_push_of_some _ (Heap.get?_push_of_some _ e))
   show b∉[(h1.push (revObj a ((its.toArray.size:Int)-1))).objs.size,h1.objs.size]
   rw[ps]
   have hb2:b<h1.objs.size:=hb
   simp only [A5U,A5V,or_false,not_or]
   exact⟨A5M (A6T hb2),A5M hb2⟩
  ·exact⟨by rw[A6G];exact hz,acc.toList,c',vs,by simpa using hM'⟩
end
end L2
namespace Mine
open PySem L2
def Sg (c:Nat):Prop:=c=35∨c=46
structure Cl (cl:List (List Nat)) (m n:Nat):Prop where
 hn:cl.length=n
 hm:∀ t∈cl,t.length=m
 sg:∀ t∈cl,∀ c∈t,Sg c
 m1:1≤m
 m40:m≤40
 n1:1≤n
 n40:n≤40
def flip(c:Nat):Nat:=if c=35 then 46 else 35
theorem AuO(c:Nat):Sg (flip c):=by unfold flip Sg;split <;> simp
def back(cl:List (List Nat)):List (List Nat):=cl.map fun t=>t.reverse.map flip
def col (cl:List (List Nat))(e:Nat):List Nat:=cl.map fun t=>t.getD e 0
def AmG (cl:List (List Nat))(m:Nat):List (List Nat):=(List.range m).map fun e=>(col cl e).map flip
theorem Cl.back{cl:List (List Nat)}{m n:Nat}(h:Cl cl m n):Cl (back cl) m n where
 hn:=by unfold Mine.back;rw[A5I];exact h.hn
 hm:=fun t ht=>by
  obtain⟨s,hs,rfl⟩:=List.mem_map.mp ht
  simp[h.hm s hs]
 sg:=fun t ht c hc=>by
  obtain⟨s,hs,rfl⟩:=List.mem_map.mp ht
  obtain⟨d,_,rfl⟩:=List.mem_map.mp hc
  exact AuO d
 m1:=h.m1
 m40:=h.m40
 n1:=h.n1
 n40:=h.n40
theorem Cl.AmG{cl:List (List Nat)}{m n:Nat}(h:Cl cl m n):Cl (AmG cl m) n m where
 hn:=by unfold Mine.AmG;simp
 hm:=fun t ht=>by
  obtain⟨e,_,rfl⟩:=List.mem_map.mp ht
  simp[col,h.hn]
 sg:=fun t ht c hc=>by
  obtain⟨e,_,rfl⟩:=List.mem_map.mp ht
  obtain⟨d,_,rfl⟩:=List.mem_map.mp hc
  exact AuO d
 m1:=h.n1
 m40:=h.n40
 n1:=h.m1
 n40:=h.m40
def sgn (cl:List (List Nat))(m n:Nat)(x y:Int):Nat:=(cl.getD (y%(n:Int)).toNat []).getD (x%(m:Int)).toNat 0
def A4q (a b:Int):List Int:=if a<b then A2m (a+1) 1 (b-a).toNat else A2m (a-1) (-1) (a-b).toNat
def A5w (z:Int):Int:=if z<0 then -z else z
def go (a:Int):List Int→List Int
 | []=>[]
 | b::r=>A4q a b++go b r
def A5x:List Int→List Int
 | []=>[]
 | s::r=>s::go s r
def lst (a:Int):List Int→Int
 | []=>a
 | b::r=>lst b r
def dec (n:Nat):List Nat:=(Str.ofString (toString (n:Int))).cps.toList
theorem W4(n:Nat):Str.ofString (toString (n:Int))=tx (dec n):=(AzL _).symm
def AzP (n:Nat):Bool:=(dec n).all (fun c=>decide (48≤c∧c≤57)) && decide (1≤(dec n).length∧(dec n).length≤2) && decide (¬((dec n).length=2∧(dec n)[0]?=some 48)) && decide (PySem.NumText.digitsVal (dec n)=n)
theorem A0L:∀ n,n<100→AzP n=true:=by decide +kernel
structure Dec (n:Nat):Prop where
 dg:∀ c∈dec n,48≤c∧c≤57
 l1:1≤(dec n).length
 l2:(dec n).length≤2
 z:¬((dec n).length=2∧(dec n)[0]?=some 48)
 v:PySem.NumText.digitsVal (dec n)=n
theorem dec_is{n:Nat}(h:n<100):Dec n:=by
 have:=A0L n h
 unfold AzP at this
 simp only [A6q,decide_eq_true_eq,A7e] at this
 obtain⟨⟨⟨h1,h2⟩,h3⟩,h4⟩:=this
 exact⟨h1,h2.1,h2.2,h3,h4⟩
def tails:List Nat→List Nat
 | []=>[]
 | n::r=>45::(dec n++tails r)
def A4R:List Nat→List Nat
 | []=>[]
 | n::r=>dec n++tails r
def Stop(rest:List Nat):Prop:=∀ c,rest[0]?=some c→¬(48≤c∧c≤57)∧c≠45
inductive Nd where
 | nam (w:List Nat)
 | num (n:Nat)
 | run (r:List Nat)
 | node (w:List Nat) (ts:List Nd)
namespace Pat
def sk (l:List Nat):List Nat:=l.dropWhile fun c=>decide (c=32)
def letter(c:Nat):Bool:=decide (97≤c∧c≤122)
def Rb (c:Nat):Bool:=decide (48≤c∧c≤57)
def knot(c:Nat):Bool:=decide (c=35∨c=46)
def one (c:Nat):List Nat→Option (List Nat)
 | []=>none
 | a::l=>if a=c then some l else none
def ApU (f:List Nat):Bool:=decide ((1≤f.length∧f.length≤2)∧¬(f.length=2∧f[0]?=some 48))
def num (l:List Nat):Option (Nat × List Nat) :=
 if ApU (l.takeWhile Rb)=true then some (PySem.NumText.digitsVal (l.takeWhile Rb),sk (l.dropWhile Rb)) else none
def comma(l:List Nat):Option (List Nat):=(one 44 l).map sk
def run (l:List Nat):Option (List Nat × List Nat) :=
 if l.takeWhile knot=[] then none else some (l.takeWhile knot,sk (l.dropWhile knot))
def Hv:Nat→List Nat→Option (List (List Nat) × List Nat)
 | 0,_=>none
 | k+1,l=>match one 44 l with
  | none=>some ([],l)
  | some l1=>match run (sk l1) with
   | none=>none
   | some (r,l2)=>(Hv k l2).map fun p=>(r::p.1,p.2)
def runs(l:List Nat):Option (List (List Nat) × List Nat) :=
 match run l with
 | none=>none
 | some (r,l1)=>match Hv (l1.length+1) l1 with
  | none=>none
  | some (rs,l2)=>if (r::rs).length>40 then none else some (r::rs,l2)
def wants(w:List Nat):Option (List Nat) :=
 if w=[116,119,105,108,108]∨w=[115,97,116,105,110] then some [110,110]
 else if w=[98,101,115,105,100,101]∨w=[97,98,111,118,101]∨w=[108,97,121] then some [112,112]
 else if w=[109,105,114,114,111,114]∨w=[117,112,101,110,100]∨w=[98,97,99,107]∨w=[113,117,97,114,116,101,114] then some [112]
 else if w=[116,105,108,101] then some [112,110,110]
 else if w=[98,108,111,99,107,115] then some [112,112,112]
 else none
def VB:List Nat:=[114,111,119,115]
def isWord(w:List Nat):Bool:=decide (w=VB) || (wants w).isSome
def isName(w:List Nat):Bool:=decide (1≤w.length∧w.length≤20) && w.all letter && !isWord w
def args(sub:List Nat→Option (Nd × List Nat)):Bool→List Nat→List Nat→Option (List Nd × List Nat)
 | _,[],l=>some ([],l)
 | fst,k::ks,l =>
  match (if fst=true then some l else comma l) with
  | none=>none
  | some l1=>match (if k=112 then sub l1 else (num l1).map fun p=>(Nd.num p.1,p.2)) with
   | none=>none
   | some (a,l2)=>(args sub false ks l2).map fun p=>(a::p.1,p.2)
def things(sub:List Nat→Option (Nd × List Nat))(w l:List Nat):Option (List Nd × List Nat) :=
 if w=VB then (runs l).map fun p=>(p.1.map Nd.run,p.2)
 else match wants w with
  | none=>none
  | some ks=>args sub true ks l
def node:Nat→List Nat→Option (Nd × List Nat)
 | 0,_=>none
 | d+1,l =>
  match one 40 (sk (l.dropWhile letter)) with
  | none=>if isName (l.takeWhile letter)=true then some (.nam (l.takeWhile letter),sk (l.dropWhile letter)) else none
  | some l1=>match things (node d) (l.takeWhile letter) (sk l1) with
   | none=>none
   | some (ts,l2)=>match one 41 l2 with
    | none=>none
    | some l3=>some (.node (l.takeWhile letter) ts,sk l3)
def whole(l:List Nat):Option Nd :=
 match node 12 (sk l) with
 | some (n,[])=>some n
 | _=>none
end Pat
def wid (cl:List (List Nat))(ac:Nat):List (List Nat):=cl.map fun t=>(List.replicate ac t).flatten
def til (cl:List (List Nat))(ac al:Nat):List (List Nat):=(List.replicate al (wid cl ac)).flatten
theorem VM{α:Type}(l:List α):∀ k,((List.replicate k l).flatten).length=k*l.length
 | 0=>by simp
 | k+1=>by rw[A6g,A6d,A5J,VM l k,Nat.add_mul,Nat.one_mul];omega
theorem AhB{α:Type}{l:List α}{x:α}:∀{k},x∈(List.replicate k l).flatten→x∈l
 | 0,h=>by simp at h
 | k+1,h=>by
  rw[A6g,A6d] at h
  rcases List.mem_append.mp h with h | h
  ·exact h
  ·exact AhB h
theorem Cl.til{cl:List (List Nat)}{m n ac al:Nat}(h:Cl cl m n)(h1:1≤ac)(h2:1≤al)(h3:ac*m≤40)(h4:al*n≤40):Cl (til cl ac al) (ac*m) (al*n) where
 hn:=by unfold Mine.til;rw[VM];unfold wid;rw[A5I,h.hn]
 hm:=fun t ht=>by
  obtain⟨s,hs,rfl⟩:=List.mem_map.mp (AhB ht)
  rw[VM,h.hm s hs]
 sg:=fun t ht c hc=>by
  obtain⟨s,hs,rfl⟩:=List.mem_map.mp (AhB ht)
  exact h.sg s hs c (AhB hc)
 m1:=Nat.mul_pos h1 h.m1
 m40:=h3
 n1:=Nat.mul_pos h2 h.n1
 n40:=h4
def plc (os:List Int)(k:Nat):Nat:=(os.take k).count (os.getD k 0)
theorem AtD{os:List Int}{k:Nat}(h:k<os.length)(z:Int):(os.take (k+1)).count z=(os.take k).count z+if os.getD k 0=z then 1 else 0:=by
 rw[A6i,List.count_append,A5L h]
 have e:os.getD k 0=os[k]:=by simp[List.getD,h]
 rw[e]
 simp only [Option.toList_some,List.count_cons,List.count_nil,beq_iff_eq]
 simp
theorem count_le{os:List Int}(k:Nat)(z:Int):(os.take k).count z≤os.count z:=List.Sublist.count_le _ (List.take_sublist _ _)
theorem AtE{os:List Int}{k:Nat}(h:k<os.length):plc os k<os.count (os.getD k 0):=by
 have h1:=AtD h (os.getD k 0)
 rw[if_pos rfl] at h1
 have h2:=count_le (os:=os) (k+1) (os.getD k 0)
 unfold plc
 omega
def Asq (o e:Int)(own:List Nat)(p:Nat):Nat:=if o=e then own.getD p 0 else if e<o then 35 else 46
def Nz (ps:List (List (List Nat)))(es:List Int)(o:Int)(b:Nat):List Nat:=(List.range es.length).map fun k=>Asq o (es.getD k 0) ((ps.getD o.toNat []).getD b []) (plc es k)
def lay (ps:List (List (List Nat)))(es os:List Int):List (List Nat):=(List.range os.length).map fun j=>Nz ps es (os.getD j 0) (plc os j)
theorem Agt(ps:List (List (List Nat)))(es:List Int)(o:Int)(b:Nat):(Nz ps es o b).length=es.length:=by unfold Nz;rw[A5I,A6f]
theorem AtF{ps:List (List (List Nat))}{es:List Int}{o:Int}{b k:Nat}(h:k<es.length):(Nz ps es o b)[k]?=some (Asq o (es.getD k 0) ((ps.getD o.toNat []).getD b []) (plc es k)):=by
 unfold Nz
 rw[A5T,A7f h]
 rfl
theorem AuP(ps:List (List (List Nat)))(es os:List Int):(lay ps es os).length=os.length:=by unfold lay;rw[A5I,A6f]
theorem AyZ{ps:List (List (List Nat))}{es os:List Int}{j:Nat}(h:j<os.length):(lay ps es os)[j]?=some (Nz ps es (os.getD j 0) (plc os j)):=by
 unfold lay
 rw[A5T,A7f h]
 rfl
structure AtG (ps:List (List (List Nat))) (es os:List Int):Prop where
 e:∀ z∈es,0≤z∧z<(ps.length:Int)
 o:∀ z∈os,0≤z∧z<(ps.length:Int)
 hn:∀ i,i<ps.length→(ps.getD i []).length=os.count (i:Int)
 hm:∀ i,i<ps.length→∀ t∈ps.getD i [],t.length=es.count (i:Int)∧∀ c∈t,Sg c
 e1:1≤es.length
 e40:es.length≤40
 o1:1≤os.length
 o40:os.length≤40
theorem getD_mem{os:List Int}{k:Nat}(h:k<os.length):os.getD k 0∈os:=by
 have e:os.getD k 0=os[k]:=by simp[List.getD,h]
 rw[e]
 exact A6m h
theorem AtG.own{ps:List (List (List Nat))}{es os:List Int}(C:AtG ps es os){j:Nat}(h:j<os.length):(os.getD j 0).toNat<ps.length∧plc os j<(ps.getD (os.getD j 0).toNat []).length:=by
 have h1:=C.o _ (getD_mem h)
 have h2:(os.getD j 0).toNat<ps.length:=by omega
 refine⟨h2,?_⟩
 rw[C.hn _ h2,show(((os.getD j 0).toNat:Nat):Int)=os.getD j 0 by omega]
 exact AtE h
theorem AtG.row{ps:List (List (List Nat))}{es os:List Int}(C:AtG ps es os){i b:Nat}(h:i<ps.length)(hb:b<(ps.getD i []).length):((ps.getD i []).getD b []).length=es.count (i:Int):=by
 have e:(ps.getD i []).getD b []=(ps.getD i [])[b]:=by rw[A6r,A5L hb];rfl
 rw[e]
 exact(C.hm i h _ (A6m hb)).1
structure Own (es:List Int) (z:Int) (i:Nat) (ms:List Nat):Prop where
 len:ms.length=(es.take i).count z
 lt:∀ m∈ms,m<i
 at':∀ a m,ms[a]?=some m→es.getD m 0=z∧(es.take m).count z=a
def Rs (ks:List Int):Prop:=(∀(i:Nat) (a b:Int),ks[i]?=some a→ks[i+1]?=some b→a<b)∧∀ k∈ks,0≤k∧k<40
structure Ft (th:List Int) (tss:List (List Int)) (tr:List Int):Prop where
 m1:1≤th.length
 m40:th.length≤40
 t1:1≤tss.length
 t40:tss.length≤40
 n1:1≤tr.length
 n40:tr.length≤40
 hth:∀ v∈th,0≤v∧v<40
 hti:∀ ks∈tss,Rs ks
 htr:∀ v∈tr,0≤v∧v<tss.length
def shd (th ks:List Int):List Nat:=th.map fun s=>if s∈ks then 35 else 46
def wv (th:List Int)(tss:List (List Int))(tr:List Int):List (List Nat):=tr.map fun v=>shd th (tss.getD v.toNat [])
section
variable {α β:Type} [DecidableEq α] [DecidableEq β]
def unl (l:List α):List α:=l.foldl (fun f x=>if x∈f then f else f++[x]) []
def ix (l:List α)(x:α):Nat:=@List.idxOf α instBEqOfDecidableEq x l
def num (l:List α):List Nat:=l.map fun x=>ix (unl l) x
end
theorem AcU{α β:Type}{f:α→List β}{h:Nat}:∀ xs:List α,(∀ x∈xs,(f x).length=h)→(xs.flatMap f).length=xs.length*h
 | [],_=>by simp
 | x::xs,k=>by
  rw[List.flatMap_cons,A5J,k x A6j,AcU xs fun y hy=>k y (A6h _ hy),A5N,Nat.succ_mul]
  omega
def bw (bs:List Nat)(F:Nat)(ws:List Nat):List Nat:=bs.flatMap fun b=>ws.map fun x=>b*F+x
def fil (pr one other:List (List Nat)):List (List Nat):=pr.flatMap fun u=>(one.zip other).map fun q=>u.flatMap fun c=>if c=35 then q.1 else q.2
section
variable {pr one other:List (List Nat)}{m n w h:Nat} (C:Cl pr m n) (C1:Cl one w h) (C2:Cl other w h)
include C C1 C2
theorem Aza:(fil pr one other).length=n*h:=by
 unfold fil
 rw[AcU (h:=h) pr fun x _=>by rw[A5I,List.length_zip,C1.hn,C2.hn,A6I],C.hn]
theorem Axk{u a b:List Nat}(ha:a∈one)(hb:b∈other):(u.flatMap fun c=>if c=35 then a else b).length=u.length*w:=AcU u fun x _=>by split;exact C1.hm a ha;exact C2.hm b hb
theorem A0M(hm:m*w≤40)(hn:n*h≤40):Cl (fil pr one other) (m*w) (n*h):=by
 have key:∀ r∈fil pr one other,∃ u∈pr,∃ a∈one,∃ b∈other,r=u.flatMap fun c=>if c=35 then a else b:=fun r hr=>by
  unfold fil at hr
  obtain⟨u,hu,hr⟩:=List.mem_flatMap.mp hr
  obtain⟨⟨a,b⟩,hq,rfl⟩:=List.mem_map.mp hr
  have z:=A6Z hq
  exact⟨u,hu,a,z.1,b,z.2,rfl⟩
 refine⟨Aza C C1 C2,fun r hr=>?_,fun r hr c hc=>?_,Nat.mul_pos C.m1 C1.m1,hm,Nat.mul_pos C.n1 C1.n1,hn⟩
 ·obtain⟨u,hu,a,ha,b,hb,rfl⟩:=key r hr
  rw[Axk C C1 C2 ha hb,C.hm u hu]
 ·obtain⟨u,hu,a,ha,b,hb,rfl⟩:=key r hr
  obtain⟨d,hd,hc⟩:=List.mem_flatMap.mp hc
  split at hc
  ·exact C1.sg a ha c hc
  ·exact C2.sg b hb c hc
end
def twW:List Nat:=[116,119,105,108,108]
def saW:List Nat:=[115,97,116,105,110]
def beW:List Nat:=[98,101,115,105,100,101]
def abW:List Nat:=[97,98,111,118,101]
def miW:List Nat:=[109,105,114,114,111,114]
def upW:List Nat:=[117,112,101,110,100]
def baW:List Nat:=[98,97,99,107]
def quW:List Nat:=[113,117,97,114,116,101,114]
def tiW:List Nat:=[116,105,108,101]
def blW:List Nat:=[98,108,111,99,107,115]
def laW:List Nat:=[108,97,121]
def twl (m n:Nat)(y x:Nat):Nat:=if (x+(m+n)-y)%(m+n)<m then 35 else 46
def twT (m n y:Nat):List Nat:=(List.range (m+n)).map (twl m n y)
def AmH (m n:Nat):List Nat:=List.replicate m 35++List.replicate n 46
theorem Asr{m n:Nat}:(AmH m n).length=m+n:=by unfold AmH;rw[A5J,A6k,A6k]
theorem AuQ{m n i:Nat}(h:i<(AmH m n).length):(AmH m n)[i]=if i<m then 35 else 46:=by
 unfold AmH at h ⊢
 by_cases c:i<m
 ·rw[if_pos c,A6V (by rw[A6k];exact c),A7g]
 ·rw[if_neg c,A7h (by rw[A6k];omega),A7g]
theorem A0N{m n y:Nat}(hy:y<m+n):(AmH m n).drop (m+n-y)++(AmH m n).take (m+n-y)=twT m n y:=by
 have fl:=@Asr m n
 apply List.ext_getElem
 ·unfold twT
  rw[A5J,A6l,A5S,fl,A5I,A6f]
  omega
 ·intro x h1 h2
  have hx:x<m+n:=by
   unfold twT at h2
   rw[A5I,A6f] at h2
   exact h2
  have hd:((AmH m n).drop (m+n-y)).length=y:=by rw[A6l,fl];omega
  have e2:(twT m n y)[x]=twl m n y x:=by simp only [twT,List.getElem_map,List.getElem_range]
  rw[e2]
  unfold twl
  by_cases c:x<y
  ·rw[A6V (by rw[hd];exact c),List.getElem_drop,AuQ,show m+n-y+x=x+(m+n)-y by omega,Nat.mod_eq_of_lt (show x+(m+n)-y<m+n by omega)]
  ·rw[A7h (by rw[hd];omega),List.getElem_take,AuQ,hd]
   have e:(x+(m+n)-y)%(m+n)=x-y:=by
    rw[show x+(m+n)-y=(x-y)+(m+n) by omega,Nat.add_mod_right]
    exact Nat.mod_eq_of_lt (by omega)
   rw[e]
theorem rep1(n c:Nat):(List.replicate n [c]).flatten=List.replicate n c:=by
 induction n with
 | zero=>rfl
 | succ n ih=>rw[A6g,A6d,ih,A6g];rfl
def stT (s o:Nat):List Nat:=(List.range s).map fun x=>if x=o then 35 else 46
theorem A0O{s o:Nat}(ho:o<s):List.replicate o 46++[35]++List.replicate (s-1-o) 46=stT s o:=by
 apply List.ext_getElem
 ·unfold stT
  simp only [A5J,A6k,A5N,A6a,A5I,A6f]
  omega
 ·intro x h1 h2
  have e2:(stT s o)[x]=if x=o then 35 else 46:=by simp only [stT,List.getElem_map,List.getElem_range]
  rw[e2]
  by_cases c:x<o
  ·rw[if_neg (by omega),A6V (by simp only [A5J,A6k,A5N,A6a];omega),A6V (by rw[A6k];exact c),A7g]
  ·by_cases c2:x=o
   ·subst c2
    rw[if_pos rfl,A6V (by simp only [A5J,A6k,A5N,A6a];omega),A7h (by rw[A6k];omega)]
    simp
   ·rw[if_neg c2,A7h (by simp only [A5J,A6k,A5N,A6a];omega),A7g]
def saT (s p y:Nat):List Nat:=stT s (y*p%s)
def Aq3 (m n i:Nat):List Bool:=(List.range i).map fun j=>decide (m%(2+j)=0) && decide (n%(2+j)=0)
def cop (m n k:Nat):Bool:=(Aq3 m n (k-1)).any id
theorem Axl{m n i:Nat}:(Aq3 m n i).length=i:=by unfold Aq3;rw[A5I,A6f]
theorem AvV{m n i:Nat}:Aq3 m n (i+1)=Aq3 m n i++[decide (m%(2+i)=0) && decide (n%(2+i)=0)]:=by
 unfold Aq3
 rw[A6H,A5Y]
 rfl
def Pri (s p:Nat):Prop:=1≤p∧p<s∧cop s p p=false
instance (s p:Nat):Decidable (Pri s p):=inferInstanceAs (Decidable (_∧_∧_))
inductive Rf where
 | nop
 | big
 | unk
inductive Res where
 | ok (rows:List (List Nat))
 | no (f:Rf)
def wdt (x:List (List Nat)):Nat:=(x.headD []).length
def ApV (rs:List (List Nat)):Res:=if (rs.map fun r=>decide (¬r.length=wdt rs)).any id=true then .no .nop else if 40<wdt rs∨40<rs.length then .no .big else .ok rs
def Agu (a b:Nat):Res:=if a<1∨b<1 then .no .nop else if 40<a+b then .no .big else .ok ((List.range (a+b)).map (twT a b))
def Agv (m n:Nat):Res:=if ¬Pri m n then .no .nop else if 40<m then .no .big else .ok ((List.range m).map (saT m n))
def AhC (x y:List (List Nat)):Res:=if ¬x.length=y.length then .no .nop else if 40<wdt x+wdt y∨40<x.length then .no .big else .ok (List.zipWith (·++·) x y)
def AmI (x y:List (List Nat)):Res:=if ¬wdt x=wdt y then .no .nop else if 40<wdt x∨40<x.length+y.length then .no .big else .ok (x++y)
def Axm (z:List Nat)(x:List (List Nat)):Res:=if z=miW then .ok (x.map List.reverse) else if z=upW then .ok x.reverse else if z=baW then .ok (back x) else .ok (AmG x (wdt x))
def Ass (x:List (List Nat))(a b:Nat):Res:=if a<1∨b<1 then .no .nop else if 40<wdt x*a∨40<x.length*b then .no .big else .ok (til x a b)
def AhD (p x y:List (List Nat)):Res:=if ¬wdt x=wdt y∨¬x.length=y.length then .no .nop else if 40<wdt p*wdt x∨40<p.length*x.length then .no .big else .ok (fil p x y)
def ZK (k:Nat):List Int:=(List.replicate k [(0:Int),1]).flatten
def Axn (x y:List (List Nat)):Res:=if ¬wdt x=wdt y∨¬x.length=y.length then .no .nop else if 40<2*wdt x∨40<2*x.length then .no .big else .ok (lay [x,y] (ZK (wdt x)) (ZK x.length))
inductive Arg where
 | num (n:Nat)
 | run (r:List Nat)
 | cl (x:List (List Nat)) (z:List Nat)
def runOf:Arg→List Nat
 | .run r=>r
 | _=>[]
def made(z:List Nat)(as:List Arg):Res :=
 if z=Pat.VB then ApV (as.map runOf) else
 match as with
 | [.num a,.num b]=>if z=twW then Agu a b else Agv a b
 | [.cl x _]=>Axm z x
 | [.cl x _,.cl y _]=>if z=beW then AhC x y else if z=abW then AmI x y else Axn x y
 | [.cl x _,.num a,.num b]=>Ass x a b
 | [.cl x _,.cl y _,.cl w _]=>AhD x y w
 | _=>.no .nop
def cj:List (List Nat)→List Nat
 | []=>[]
 | y::ys=>y++(ys.map fun y=>[44]++y).flatten
def wrA:Arg→List Nat
 | .num n=>dec n
 | .run r=>r
 | .cl _ z=>z
def wz (z:List Nat)(ys:List (List Nat)):List Nat:=z++(40::(cj ys++[41]))
def wr:Nat→Nd→List Nat
 | _,.nam z=>z
 | _,.num n=>dec n
 | _,.run r=>r
 | 0,.node _ _=>[]
 | d+1,.node z ts=>wz z (ts.map (wr d))
def arg (sub:Nd→Res)(wrt:Nd→List Nat):Nd→Rf ⊕ Arg
 | .num n=>.inr (.num n)
 | .run r=>.inr (.run r)
 | .nam z=>match sub (.nam z) with
  | .ok x=>.inr (.cl x (wrt (.nam z)))
  | .no f=>.inl f
 | .node z ts=>match sub (.node z ts) with
  | .ok x=>.inr (.cl x (wrt (.node z ts)))
  | .no f=>.inl f
def args(sub:Nd→Res)(wrt:Nd→List Nat):List Nd→Rf ⊕ List Arg
 | []=>.inr []
 | x::ts=>match arg sub wrt x with
  | .inl f=>.inl f
  | .inr a=>match args sub wrt ts with
   | .inl f=>.inl f
   | .inr as=>.inr (a::as)
abbrev Kns:=List (List Nat × List (List Nat))
def known(kn:Kns)(z:List Nat):Res:=match kn.find? fun p=>decide (p.1=z) with
 | some p=>.ok p.2
 | none=>.no .unk
def out (kn:Kns):Nat→Nd→Res
 | _,.nam z=>known kn z
 | d+1,.node z ts=>match args (out kn d) (wr d) ts with
  | .inl f=>.no f
  | .inr as=>made z as
 | _,_=>.no .nop
theorem Azb{kn:Kns}{d:Nat}{z:List Nat}:out kn d (.nam z)=known kn z:=by cases d <;> rfl
theorem Axo{d:Nat}{z:List Nat}:wr d (.nam z)=z:=by cases d <;> rfl
theorem Axp{d n:Nat}:wr d (.num n)=dec n:=by cases d <;> rfl
theorem Axq{d:Nat}{r:List Nat}:wr d (.run r)=r:=by cases d <;> rfl
theorem AuR{kn:Kns}{d:Nat}:∀{ts:List Nd} {as:List Arg},args (out kn d) (wr d) ts=.inr as→as.map wrA=ts.map (wr d)
 | [],as,h=>by cases h;rfl
 | x::ts,as,h=>by
  unfold args at h
  have hx:∀ a,arg (out kn d) (wr d) x=.inr a→wrA a=wr d x:=fun a ha=>by
   cases x with
   | num n=>cases ha;exact Axp.symm
   | run r=>cases ha;exact Axq.symm
   | nam z =>
    unfold arg at ha
    dsimp only at ha
    cases e:out kn d (.nam z) with
    | ok x=>rw[e] at ha;cases ha;rfl
    | no f=>rw[e] at ha;cases ha
   | node z ts =>
    unfold arg at ha
    dsimp only at ha
    cases e:out kn d (.node z ts) with
    | ok x=>rw[e] at ha;cases ha;rfl
    | no f=>rw[e] at ha;cases ha
  cases e:arg (out kn d) (wr d) x with
  | inl f=>rw[e] at h;cases h
  | inr a =>
   rw[e] at h
   dsimp only at h
   cases e2:args (out kn d) (wr d) ts with
   | inl f=>rw[e2] at h;cases h
   | inr as' =>
    rw[e2] at h
    cases h
    rw[A5P,A5P,hx a e,AuR e2]
theorem AmJ{sub:Nd→Res}{wrt:Nd→List Nat}:∀{ts:List Nd} {as:List Arg},args sub wrt ts=.inr as→as.length=ts.length
 | [],as,h=>by cases h;rfl
 | x::ts,as,h=>by
  unfold args at h
  cases e:arg sub wrt x with
  | inl f=>rw[e] at h;cases h
  | inr a =>
   rw[e] at h
   dsimp only at h
   cases e2:args sub wrt ts with
   | inl f=>rw[e2] at h;cases h
   | inr as'=>rw[e2] at h;cases h;rw[A5N,A5N,AmJ e2]
theorem ApW{sub:Nd→Res}{wrt:Nd→List Nat}{x:Nd}:∀{ts:List Nd} {as:List Arg},args sub wrt ts=.inr as→args sub wrt (ts++[x])=match arg sub wrt x with
  | .inl f=>.inl f
  | .inr a=>.inr (as++[a])
 | [],as,h=>by
  cases h
  rw[List.nil_append]
  unfold args
  cases arg sub wrt x with
  | inl f=>rfl
  | inr a=>rfl
 | y::ts,as,h=>by
  unfold args at h
  rw[List.cons_append]
  conv=>lhs;unfold args
  cases e:arg sub wrt y with
  | inl f=>rw[e] at h;cases h
  | inr a =>
   rw[e] at h
   dsimp only at h ⊢
   cases e2:args sub wrt ts with
   | inl f=>rw[e2] at h;cases h
   | inr as' =>
    rw[e2] at h
    cases h
    rw[ApW e2]
    cases arg sub wrt x with
    | inl f=>rfl
    | inr b=>rfl
theorem AuS{sub:Nd→Res}{wrt:Nd→List Nat}{f:Rf}:∀{ts us:List Nd},args sub wrt ts=.inl f→args sub wrt (ts++us)=.inl f
 | [],us,h=>by cases h
 | y::ts,us,h=>by
  unfold args at h
  rw[List.cons_append]
  unfold args
  cases e:arg sub wrt y with
  | inl f=>rw[e] at h;exact h
  | inr a =>
   rw[e] at h
   dsimp only at h ⊢
   cases e2:args sub wrt ts with
   | inl f=>rw[e2] at h;rw[AuS e2];exact h
   | inr as'=>rw[e2] at h;cases h
inductive Wd:Nat→Nd→Prop
 | nam {d:Nat} {z:List Nat}:Pat.isName z=true→Wd (d+1) (.nam z)
 | rows {d:Nat} {rs:List (List Nat)}:rs≠[]→rs.length≤40→(∀ r∈rs,r≠[]∧∀ c∈r,Sg c)→Wd (d+1) (.node Pat.VB (rs.map Nd.run))
 | nums {d:Nat} {z:List Nat} {a b:Nat}:z=twW∨z=saW→a<100→b<100→Wd (d+1) (.node z [.num a,.num b])
 | one {d:Nat} {z:List Nat} {x:Nd}:z=miW∨z=upW∨z=baW∨z=quW→Wd d x→Wd (d+1) (.node z [x])
 | two {d:Nat} {z:List Nat} {x y:Nd}:z=beW∨z=abW∨z=laW→Wd d x→Wd d y→Wd (d+1) (.node z [x,y])
 | tile {d:Nat} {x:Nd} {a b:Nat}:Wd d x→a<100→b<100→Wd (d+1) (.node tiW [x,.num a,.num b])
 | blk {d:Nat} {x y w:Nd}:Wd d x→Wd d y→Wd d w→Wd (d+1) (.node blW [x,y,w])
theorem Pat.AcV(l:List Nat):(Pat.sk l).length≤l.length:=(A7n _).length_le
theorem Pat.AtH(p:Nat→Bool)(l:List Nat):(l.takeWhile p).length+(l.dropWhile p).length=l.length:=by
 have:=congrArg List.length (List.takeWhile_append_dropWhile (p:=p) (l:=l))
 rw[A5J] at this
 exact this
theorem Pat.Amd{c:Nat}{l l':List Nat}(h:Pat.one c l=some l'):l'.length+1=l.length:=by
 cases l with
 | nil=>cases h
 | cons a l =>
  unfold Pat.one at h
  dsimp only at h
  by_cases e:a=c
  ·rw[if_pos e] at h;cases h;rfl
  ·rw[if_neg e] at h;cases h
theorem Aq4{p:Nat→Bool}:∀{l:List Nat} {c:Nat},c∈l.takeWhile p→p c=true
 | [],c,h=>by simp at h
 | a::l,c,h=>by
  rw[A6W] at h
  split at h
  next e =>
   rcases List.mem_cons.mp h with rfl | h
   ·exact e
   ·exact Aq4 h
  ·simp at h
theorem Azc{f:List Nat}(h:Pat.ApU f=true)(hf:∀ c∈f,Pat.Rb c=true):NumText.digitsVal f<100∧(dec (NumText.digitsVal f)).length≤f.length:=by
 unfold Pat.ApU at h
 have h:=of_decide_eq_true h
 have dig:∀ c,Pat.Rb c=true→48≤c∧c≤57:=fun c hc=>of_decide_eq_true hc
 rcases f with _ | ⟨a,_ | ⟨b,_ | ⟨c,f⟩⟩⟩
 ·simp at h
 ·have ha:=dig a (hf a (by simp))
  have e:a=48∨a=49∨a=50∨a=51∨a=52∨a=53∨a=54∨a=55∨a=56∨a=57:=by omega
  rcases e with rfl | rfl | rfl | rfl | rfl | rfl | rfl | rfl | rfl | rfl <;> decide +kernel
 ·have ha:=dig a (hf a (by simp))
  have hb:=dig b (hf b (by simp))
  have e:a=48∨a=49∨a=50∨a=51∨a=52∨a=53∨a=54∨a=55∨a=56∨a=57:=by omega
  have e2:b=48∨b=49∨b=50∨b=51∨b=52∨b=53∨b=54∨b=55∨b=56∨b=57:=by omega
  have key:∀ x∈List.range 58,∀ y∈List.range 58,48≤x→48≤y→NumText.digitsVal [x,y]<100∧(dec (NumText.digitsVal [x,y])).length≤2:=by decide +kernel
  exact key a (List.mem_range.mpr (by omega)) b (List.mem_range.mpr (by omega)) (by omega) (by omega)
 ·simp at h
theorem Pat.A0P{l l':List Nat}{n:Nat}(h:Pat.num l=some (n,l')):n<100∧(dec n).length+l'.length≤l.length:=by
 unfold Pat.num at h
 split at h
 next e =>
  cases h
  have g:=Azc e fun c hc=>Aq4 hc
  have:=Pat.AcV (l.dropWhile Pat.Rb)
  have:=Pat.AtH Pat.Rb l
  exact⟨g.1,by omega⟩
 ·cases h
theorem Pat.AvW{l l':List Nat}(h:Pat.comma l=some l'):l'.length+1≤l.length:=by
 unfold Pat.comma at h
 cases e:Pat.one 44 l with
 | none=>rw[e] at h;cases h
 | some l1 =>
  rw[e] at h
  cases h
  have:=Pat.Amd e
  have:=Pat.AcV l1
  omega
theorem Pat.Axr{l r l':List Nat}(h:Pat.run l=some (r,l')):r≠[]∧(∀ c∈r,Sg c)∧r.length+l'.length≤l.length:=by
 unfold Pat.run at h
 split at h
 ·cases h
 next e =>
  cases h
  have:=Pat.AcV (l.dropWhile Pat.knot)
  have:=Pat.AtH Pat.knot l
  exact⟨e,fun c hc=>of_decide_eq_true (p:=c=35∨c=46) (Aq4 hc),by omega⟩
theorem Pat.AuT:∀{k:Nat} {l l':List Nat} {rs:List (List Nat)},Pat.Hv k l=some (rs,l')→(∀ r∈rs,r≠[]∧∀ c∈r,Sg c)∧((rs.map fun y=>[44]++y).flatten).length+l'.length≤l.length
 | 0,l,l',rs,h=>by cases h
 | k+1,l,l',rs,h=>by
  unfold Pat.Hv at h
  cases e:Pat.one 44 l with
  | none=>rw[e] at h;cases h;exact⟨fun r hr=>by simp at hr,by simp⟩
  | some l1 =>
   rw[e] at h
   dsimp only at h
   cases e2:Pat.run (Pat.sk l1) with
   | none=>rw[e2] at h;cases h
   | some q =>
    obtain⟨r,l2⟩:=q
    rw[e2] at h
    dsimp only at h
    cases e3:Pat.Hv k l2 with
    | none=>rw[e3] at h;cases h
    | some q =>
     obtain⟨rs',l3⟩:=q
     rw[e3] at h
     cases h
     have g1:=Pat.Amd e
     have g2:=Pat.Axr e2
     have g3:=Pat.AuT e3
     have g4:=Pat.AcV l1
     refine⟨fun s hs=>?_,?_⟩
     ·rcases List.mem_cons.mp hs with rfl | hs
      ·exact⟨g2.1,g2.2.1⟩
      ·exact g3.1 s hs
     ·rw[A5P,A6d,A5J,A5J,A6o]
      have:=g3.2
      have:=g2.2.2
      dsimp only
      omega
theorem Pat.Aq5{l l':List Nat}{rs:List (List Nat)}(h:Pat.runs l=some (rs,l')):rs≠[]∧rs.length≤40∧(∀ r∈rs,r≠[]∧∀ c∈r,Sg c)∧(cj rs).length+l'.length≤l.length:=by
 unfold Pat.runs at h
 cases e:Pat.run l with
 | none=>rw[e] at h;cases h
 | some q =>
  obtain⟨r,l1⟩:=q
  rw[e] at h
  dsimp only at h
  cases e2:Pat.Hv (l1.length+1) l1 with
  | none=>rw[e2] at h;cases h
  | some q =>
   obtain⟨rs',l2⟩:=q
   rw[e2] at h
   dsimp only at h
   split at h
   ·cases h
   next c =>
    cases h
    have g1:=Pat.Axr e
    have g2:=Pat.AuT e2
    refine⟨by simp,by omega,fun s hs=>?_,?_⟩
    ·rcases List.mem_cons.mp hs with rfl | hs
     ·exact⟨g1.1,g1.2.1⟩
     ·exact g2.1 s hs
    ·unfold cj
     rw[A5J]
     have:=g1.2.2
     have:=g2.2
     omega
def Rdg (d:Nat)(l:List Nat)(x:Nd)(l':List Nat):Prop:=(wr d x).length+l'.length≤l.length
def Kds (d:Nat):List Nat→List Nd→Prop
 | [],[]=>True
 | k::ks,x::ts=>(if k=112 then Wd d x else ∃ n,x=Nd.num n∧n<100)∧Kds d ks ts
 | _,_=>False
theorem AuU{d:Nat}(ih:∀{l l':List Nat} {x:Nd},Pat.node d l=some (x,l')→Wd d x∧Rdg d l x l'):∀{ks l l':List Nat} {ts:List Nd} {fst:Bool},Pat.args (Pat.node d) fst ks l=some (ts,l') →
  Kds d ks ts∧(if fst=true then (cj (ts.map (wr d))).length else ((ts.map (wr d)).map fun y=>[44]++y).flatten.length)+l'.length≤l.length
 | [],l,l',ts,fst,h=>by
  unfold Pat.args at h
  cases h
  refine⟨trivial,?_⟩
  cases fst <;> simp[cj]
 | k::ks,l,l',ts,fst,h=>by
  unfold Pat.args at h
  cases e:(if fst=true then some l else Pat.comma l) with
  | none=>rw[e] at h;cases h
  | some l1 =>
   rw[e] at h
   dsimp only at h
   cases e2:(if k=112 then Pat.node d l1 else (Pat.num l1).map fun p=>(Nd.num p.1,p.2)) with
   | none=>rw[e2] at h;cases h
   | some q =>
    obtain⟨a,l2⟩:=q
    rw[e2] at h
    dsimp only at h
    cases e3:Pat.args (Pat.node d) false ks l2 with
    | none=>rw[e3] at h;cases h
    | some q =>
     obtain⟨ts',l3⟩:=q
     rw[e3] at h
     cases h
     have g3:=AuU ih e3
     have g2:(if k=112 then Wd d a else ∃ n,a=Nd.num n∧n<100)∧(wr d a).length+l2.length≤l1.length:=by
      by_cases c:k=112
      ·rw[if_pos c] at e2
       rw[if_pos c]
       exact ih e2
      ·rw[if_neg c] at e2
       rw[if_neg c]
       cases e4:Pat.num l1 with
       | none=>rw[e4] at e2;cases e2
       | some q =>
        obtain⟨n,l4⟩:=q
        rw[e4] at e2
        cases e2
        have g:=Pat.A0P e4
        exact⟨⟨n,rfl,g.1⟩,by rw[Axp];exact g.2⟩
     refine⟨⟨g2.1,g3.1⟩,?_⟩
     have g3:=g3.2
     rw[if_neg (fun z=>nomatch z)] at g3
     cases fst with
     | true =>
      cases e
      rw[if_pos rfl,A5P]
      unfold cj
      rw[A5J]
      dsimp only
      omega
     | false =>
      rw[if_neg (fun z=>nomatch z)] at e ⊢
      have:=Pat.AvW e
      rw[A5P,A5P,A6d,A5J,A5J,A6o]
      dsimp only
      omega
theorem Kds.nil{d:Nat}{ts:List Nd}(h:Kds d [] ts):ts=[]:=by
 cases ts with
 | nil=>rfl
 | cons _ _=>exact h.elim
theorem Kds.cons{d k:Nat}{ks:List Nat}{ts:List Nd}(h:Kds d (k::ks) ts):∃ x ts',ts=x::ts'∧(if k=112 then Wd d x else ∃ n,x=Nd.num n∧n<100)∧Kds d ks ts':=by
 cases ts with
 | nil=>exact h.elim
 | cons x ts'=>exact⟨x,ts',rfl,h.1,h.2⟩
theorem AuV:∀{d:Nat} {l l':List Nat} {x:Nd},Pat.node d l=some (x,l')→Wd d x∧Rdg d l x l'
 | 0,l,l',x,h=>by cases h
 | d+1,l,l',x,h=>by
  unfold Pat.node at h
  have t1:=Pat.AtH Pat.letter l
  have t2:=Pat.AcV (l.dropWhile Pat.letter)
  cases e:Pat.one 40 (Pat.sk (l.dropWhile Pat.letter)) with
  | none =>
   rw[e] at h
   dsimp only at h
   split at h
   next c =>
    cases h
    exact⟨.nam c,by unfold Rdg;rw[Axo];omega⟩
   ·cases h
  | some l1 =>
   rw[e] at h
   dsimp only at h
   have o1:=Pat.Amd e
   have s1:=Pat.AcV l1
   generalize hz:l.takeWhile Pat.letter=z at h t1
   cases e2:Pat.things (Pat.node d) z (Pat.sk l1) with
   | none=>rw[e2] at h;cases h
   | some q =>
    obtain⟨ts,l2⟩:=q
    rw[e2] at h
    dsimp only at h
    cases e3:Pat.one 41 l2 with
    | none=>rw[e3] at h;cases h
    | some l3 =>
     rw[e3] at h
     cases h
     have o3:=Pat.Amd e3
     have s3:=Pat.AcV l3
     have main:Wd (d+1) (.node z ts)∧(cj (ts.map (wr d))).length+l2.length≤(Pat.sk l1).length:=by
      unfold Pat.things at e2
      by_cases c:z=Pat.VB
      ·rw[if_pos c] at e2
       cases e4:Pat.runs (Pat.sk l1) with
       | none=>rw[e4] at e2;cases e2
       | some q =>
        obtain⟨rs,l4⟩:=q
        rw[e4] at e2
        cases e2
        have g:=Pat.Aq5 e4
        refine⟨by rw[c];exact .rows g.1 g.2.1 g.2.2.1,?_⟩
        rw[A6M,show(wr d∘Nd.run)=id from funext fun r=>Axq,A6O]
        exact g.2.2.2
      ·rw[if_neg c] at e2
       cases e4:Pat.wants z with
       | none=>rw[e4] at e2;cases e2
       | some ks =>
        rw[e4] at e2
        dsimp only at e2
        have g:=AuU (fun h=>AuV h) e2
        rw[if_pos rfl] at g
        refine⟨?_,g.2⟩
        have K:=g.1
        unfold Pat.wants at e4
        split at e4
        next w =>
         cases e4
         obtain⟨a,t1,rfl,p1,K⟩:=K.cons
         obtain⟨b,t2,rfl,p2,K⟩:=K.cons
         cases K.nil
         obtain⟨a,rfl,ha⟩:=p1
         obtain⟨b,rfl,hb⟩:=p2
         exact .nums w ha hb
        split at e4
        next w =>
         cases e4
         obtain⟨a,t1,rfl,p1,K⟩:=K.cons
         obtain⟨b,t2,rfl,p2,K⟩:=K.cons
         cases K.nil
         exact .two w p1 p2
        split at e4
        next w =>
         cases e4
         obtain⟨a,t1,rfl,p1,K⟩:=K.cons
         cases K.nil
         exact .one w p1
        split at e4
        next w =>
         cases e4
         obtain⟨a,t1,rfl,p1,K⟩:=K.cons
         obtain⟨b,t2,rfl,p2,K⟩:=K.cons
         obtain⟨c,t3,rfl,p3,K⟩:=K.cons
         cases K.nil
         obtain⟨b,rfl,hb⟩:=p2
         obtain⟨c,rfl,hc⟩:=p3
         rw[w]
         exact .tile p1 hb hc
        split at e4
        next w =>
         cases e4
         obtain⟨a,t1,rfl,p1,K⟩:=K.cons
         obtain⟨b,t2,rfl,p2,K⟩:=K.cons
         obtain⟨c,t3,rfl,p3,K⟩:=K.cons
         cases K.nil
         rw[w]
         exact .blk p1 p2 p3
        ·cases e4
     exact⟨main.1,by unfold Rdg wr wz;rw[A5J,A5N,A5J,A6o];have:=main.2;omega⟩
theorem Ast{l:List Nat}{x:Nd}(h:Pat.whole l=some x):Wd 12 x∧(wr 12 x).length≤l.length:=by
 unfold Pat.whole at h
 cases e:Pat.node 12 (Pat.sk l) with
 | none=>rw[e] at h;cases h
 | some q =>
  obtain⟨n,l'⟩:=q
  rw[e] at h
  cases l' with
  | nil =>
   cases h
   have g:=AuV e
   refine⟨g.1,?_⟩
   have:=g.2
   unfold Rdg at this
   have:=Pat.AcV l
   omega
  | cons _ _=>cases h
theorem Cl.wdt{x:List (List Nat)}{m n:Nat}(C:Cl x m n):wdt x=m:=by
 cases x with
 | nil=>have:=C.hn;have:=C.n1;simp at *;omega
 | cons r x=>exact C.hm r A6j
theorem Cl.same{x:List (List Nat)}{m n:Nat}(C:Cl x m n):Cl x (Mine.wdt x) x.length:=by rw[C.wdt,C.hn];exact C
def Clo (x:List (List Nat)):Prop:=Cl x (wdt x) x.length
theorem Cl.clo{x:List (List Nat)}{m n:Nat}(C:Cl x m n):Clo x:=C.same
theorem Axs{p:Prop}[Decidable p]:Sg (if p then 35 else 46):=by split;exact .inl rfl;exact .inr rfl
theorem Axt{a b:Nat}(h1:1≤a)(h3:a+b≤40):Cl ((List.range (a+b)).map (twT a b)) (a+b) (a+b) where
 hn:=by rw[A5I,A6f]
 hm:=fun t ht=>by
  obtain⟨y,_,rfl⟩:=List.mem_map.mp ht
  unfold twT
  rw[A5I,A6f]
 sg:=fun t ht c hc=>by
  obtain⟨y,_,rfl⟩:=List.mem_map.mp ht
  obtain⟨x,_,rfl⟩:=List.mem_map.mp hc
  exact Axs
 m1:=by omega
 m40:=h3
 n1:=by omega
 n40:=h3
theorem Axu{m n:Nat}(h1:1≤m)(h3:m≤40):Cl ((List.range m).map (saT m n)) m m where
 hn:=by rw[A5I,A6f]
 hm:=fun t ht=>by
  obtain⟨y,_,rfl⟩:=List.mem_map.mp ht
  unfold saT stT
  rw[A5I,A6f]
 sg:=fun t ht c hc=>by
  obtain⟨y,_,rfl⟩:=List.mem_map.mp ht
  obtain⟨x,_,rfl⟩:=List.mem_map.mp hc
  exact Axs
 m1:=h1
 m40:=h3
 n1:=h1
 n40:=h3
theorem AtI:∀{x y:List (List Nat)} {r:List Nat},r∈List.zipWith (·++·) x y→∃ a∈x,∃ b∈y,r=a++b
 | [],_,r,h=>by simp at h
 | _::_,[],r,h=>by simp at h
 | a::x,b::y,r,h=>by
  rw[List.zipWith_cons_cons] at h
  rcases List.mem_cons.mp h with rfl | h
  ·exact⟨a,A6j,b,A6j,rfl⟩
  ·obtain⟨a',ha,b',hb,e⟩:=AtI h
   exact⟨a',A6h _ ha,b',A6h _ hb,e⟩
theorem AvX{x y:List (List Nat)}{m n m':Nat}(C:Cl x m n)(D:Cl y m' n)(h:m+m'≤40):Cl (List.zipWith (·++·) x y) (m+m') n where
 hn:=by rw[List.length_zipWith,C.hn,D.hn,A6I]
 hm:=fun t ht=>by
  obtain⟨a,ha,b,hb,rfl⟩:=AtI ht
  rw[A5J,C.hm a ha,D.hm b hb]
 sg:=fun t ht c hc=>by
  obtain⟨a,ha,b,hb,rfl⟩:=AtI ht
  rcases List.mem_append.mp hc with hc | hc
  ·exact C.sg a ha c hc
  ·exact D.sg b hb c hc
 m1:=by have:=C.m1;omega
 m40:=h
 n1:=C.n1
 n40:=C.n40
theorem Axv{x y:List (List Nat)}{m n n':Nat}(C:Cl x m n)(D:Cl y m n')(h:n+n'≤40):Cl (x++y) m (n+n') where
 hn:=by rw[A5J,C.hn,D.hn]
 hm:=fun t ht=>by
  rcases List.mem_append.mp ht with ht | ht
  ·exact C.hm t ht
  ·exact D.hm t ht
 sg:=fun t ht c hc=>by
  rcases List.mem_append.mp ht with ht | ht
  ·exact C.sg t ht c hc
  ·exact D.sg t ht c hc
 m1:=C.m1
 m40:=C.m40
 n1:=by have:=C.n1;omega
 n40:=h
theorem AvY{x:List (List Nat)}{m n:Nat}(C:Cl x m n):Cl (x.map List.reverse) m n where
 hn:=by rw[A5I,C.hn]
 hm:=fun t ht=>by
  obtain⟨a,ha,rfl⟩:=List.mem_map.mp ht
  rw[A6G,C.hm a ha]
 sg:=fun t ht c hc=>by
  obtain⟨a,ha,rfl⟩:=List.mem_map.mp ht
  exact C.sg a ha c (List.mem_reverse.mp hc)
 m1:=C.m1
 m40:=C.m40
 n1:=C.n1
 n40:=C.n40
theorem Axw{x:List (List Nat)}{m n:Nat}(C:Cl x m n):Cl x.reverse m n where
 hn:=by rw[A6G,C.hn]
 hm:=fun t ht=>C.hm t (List.mem_reverse.mp ht)
 sg:=fun t ht c hc=>C.sg t (List.mem_reverse.mp ht) c hc
 m1:=C.m1
 m40:=C.m40
 n1:=C.n1
 n40:=C.n40
theorem AhE(k:Nat):(ZK k).length=2*k:=by unfold ZK;rw[VM];simp;omega
theorem Abx(k:Nat)(i:Int):(ZK k).count i=if i=0∨i=1 then k else 0:=by
 unfold ZK
 induction k with
 | zero=>simp
 | succ k ih =>
  rw[A6g,A6d,List.count_append,ih]
  by_cases h0:i=0
  ·subst h0;simp;omega
  ·by_cases h1:i=1
   ·subst h1;simp;omega
   ·rw[if_neg (by omega),if_neg (by omega)]
    simp[List.count_cons,Ne.symm h0,Ne.symm h1]
theorem Asu{k:Nat}{i:Int}(h:i∈ZK k):0≤i∧i<2:=by
 have:=AhB h
 simp at this
 omega
theorem Axx{x y:List (List Nat)}{m n:Nat}(C:Cl x m n)(D:Cl y m n)(hm:2*m≤40)(hn:2*n≤40):AtG [x,y] (ZK m) (ZK n) where
 e:=fun z hz=>by have:=Asu hz;exact⟨this.1,by show z<2;exact this.2⟩
 o:=fun z hz=>by have:=Asu hz;exact⟨this.1,by show z<2;exact this.2⟩
 hn:=fun i hi=>by
  have:i=0∨i=1:=by simp only [A5N,A6a] at hi;omega
  rcases this with rfl | rfl
  ·rw[Abx,if_pos (by decide)];exact C.hn
  ·rw[Abx,if_pos (by decide)];exact D.hn
 hm:=fun i hi t ht=>by
  have:i=0∨i=1:=by simp only [A5N,A6a] at hi;omega
  rcases this with rfl | rfl
  ·rw[Abx,if_pos (by decide)];exact⟨C.hm t ht,C.sg t ht⟩
  ·rw[Abx,if_pos (by decide)];exact⟨D.hm t ht,D.sg t ht⟩
 e1:=by have:=C.m1;rw[AhE];omega
 e40:=by rw[AhE];exact hm
 o1:=by have:=C.n1;rw[AhE];omega
 o40:=by rw[AhE];exact hn
theorem A0Q{ps:List (List (List Nat))}{es os:List Int}(C:AtG ps es os):Cl (lay ps es os) es.length os.length where
 hn:=AuP ps es os
 hm:=fun t ht=>by
  obtain⟨j,_,rfl⟩:=List.mem_map.mp ht
  exact Agt ..
 sg:=fun t ht c hc=>by
  obtain⟨j,hj,rfl⟩:=List.mem_map.mp ht
  have hj:=List.mem_range.mp hj
  obtain⟨k,hk,rfl⟩:=List.mem_map.mp hc
  have hk:=List.mem_range.mp hk
  unfold Asq
  split
  next e =>
   obtain⟨o1,o2⟩:=C.own hj
   have e9:(ps.getD (os.getD j 0).toNat []).getD (plc os j) []=(ps.getD (os.getD j 0).toNat [])[plc os j]:=by rw[A6r,A5L o2];rfl
   have M:=C.hm _ o1 _ (A6m o2)
   rw[e9]
   have oz:=C.o _ (getD_mem hj)
   have lt:=AtE hk
   rw[← e,show os.getD j 0=(((os.getD j 0).toNat:Nat):Int) by omega,← M.1] at lt
   have e8:((ps.getD (os.getD j 0).toNat [])[plc os j]).getD (plc es k) 0=((ps.getD (os.getD j 0).toNat [])[plc os j])[plc es k]:=by rw[A6r,A5L lt];rfl
   rw[e8]
   exact M.2 _ (A6m lt)
  ·exact Axs
 m1:=C.e1
 m40:=C.e40
 n1:=C.o1
 n40:=C.o40
theorem Axy{sub:Nd→Res}{wrt:Nd→List Nat}{d:Nat}{x:Nd}(h:Wd d x):arg sub wrt x=match sub x with
  | .ok r=>.inr (.cl r (wrt x))
  | .no f=>.inl f:=by
 cases h <;> rfl
theorem AvZ{kn:Kns}{z:List Nat}{r:List (List Nat)}(hk:∀ p∈kn,Clo p.2)(h:known kn z=.ok r):Clo r:=by
 unfold known at h
 cases e:kn.find? fun p=>decide (p.1=z) with
 | none=>rw[e] at h;cases h
 | some p=>rw[e] at h;cases h;exact hk p (List.mem_of_find?_eq_some e)
theorem Ame{z:List Nat}{x r:List (List Nat)}(C:Clo x)(h:Axm z x=.ok r):Clo r:=by
 unfold Axm at h
 split at h
 ·cases h;exact(AvY C).clo
 split at h
 ·cases h;exact(Axw C).clo
 split at h
 ·cases h;exact(Cl.back C).clo
 ·cases h;exact(Cl.AmG C).clo
theorem AtJ{x y r:List (List Nat)}(C:Clo x)(D:Clo y)(h:AhC x y=.ok r):Clo r:=by
 unfold AhC at h
 split at h
 ·cases h
 next e =>
  split at h
  ·cases h
  next e2 =>
   cases h
   have e:=Decidable.of_not_not e
   unfold Clo at D
   rw[← e] at D
   exact(AvX C D (by omega)).clo
theorem Awa{x y r:List (List Nat)}(C:Clo x)(D:Clo y)(h:AmI x y=.ok r):Clo r:=by
 unfold AmI at h
 split at h
 ·cases h
 next e =>
  split at h
  ·cases h
  next e2 =>
   cases h
   have e:=Decidable.of_not_not e
   unfold Clo at D
   rw[← e] at D
   exact(Axv C D (by omega)).clo
theorem Azd{x y r:List (List Nat)}(C:Clo x)(D:Clo y)(h:Axn x y=.ok r):Clo r:=by
 unfold Axn at h
 split at h
 ·cases h
 next e =>
  split at h
  ·cases h
  next e2 =>
   cases h
   have e1:wdt x=wdt y:=Decidable.of_not_not fun z=>e (.inl z)
   have e3:x.length=y.length:=Decidable.of_not_not fun z=>e (.inr z)
   unfold Clo at D
   rw[← e1,← e3] at D
   exact(A0Q (Axx C D (by omega) (by omega))).clo
theorem Axz{x r:List (List Nat)}{a b:Nat}(C:Clo x)(h:Ass x a b=.ok r):Clo r:=by
 unfold Ass at h
 split at h
 ·cases h
 next e =>
  split at h
  ·cases h
  next e2 =>
   cases h
   exact(Cl.til C (by omega) (by omega) (by rw[A6z];omega) (by rw[A6z];omega)).clo
theorem AtK{p x y r:List (List Nat)}(B:Clo p)(C:Clo x)(D:Clo y)(h:AhD p x y=.ok r):Clo r:=by
 unfold AhD at h
 split at h
 ·cases h
 next e =>
  split at h
  ·cases h
  next e2 =>
   cases h
   have e1:wdt x=wdt y:=Decidable.of_not_not fun z=>e (.inl z)
   have e3:x.length=y.length:=Decidable.of_not_not fun z=>e (.inr z)
   unfold Clo at D
   rw[← e1,← e3] at D
   exact(A0M B C D (by omega) (by omega)).clo
theorem Ax0{rs r:List (List Nat)}(h1:rs≠[])(h2:∀ r∈rs,r≠[]∧∀ c∈r,Sg c)(h:ApV rs=.ok r):Clo r:=by
 unfold ApV at h
 split at h
 ·cases h
 next e =>
  split at h
  ·cases h
  next e2 =>
   cases h
   have w:∀ u∈rs,u.length=wdt rs:=fun u hu=>Decidable.of_not_not fun z=>e (by
    rw[List.any_map]
    exact List.any_eq_true.mpr ⟨u,hu,decide_eq_true z⟩)
   refine⟨rfl,w,fun u hu=>(h2 u hu).2,?_,by omega,List.length_pos_iff.mpr h1,by omega⟩
   cases rs with
   | nil=>exact absurd rfl h1
   | cons u r=>exact List.length_pos_iff.mpr (h2 u A6j).1
theorem Awb{a b:Nat}{r:List (List Nat)}(h:Agu a b=.ok r):Clo r:=by
 unfold Agu at h
 split at h
 ·cases h
 next e =>
  split at h
  ·cases h
  ·cases h;exact(Axt (by omega) (by omega)).clo
theorem Awc{a b:Nat}{r:List (List Nat)}(h:Agv a b=.ok r):Clo r:=by
 unfold Agv at h
 split at h
 ·cases h
 next e =>
  have e:=Decidable.of_not_not e
  split at h
  ·cases h
  ·cases h;exact(Axu (by have:=e.1;have:=e.2.1;omega) (by omega)).clo
theorem ApX{sub:Nd→Res}{wrt:Nd→List Nat}:∀ rs:List (List Nat),args sub wrt (rs.map Nd.run)=.inr (rs.map Arg.run)
 | []=>rfl
 | r::rs=>by
  rw[A5P]
  unfold args
  rw[ApX rs]
  rfl
theorem ApY(rs:List (List Nat)):(rs.map Arg.run).map runOf=rs:=by rw[A6M];exact A6O _
inductive Fit:List Nat→List Arg→Prop
 | rows {rs:List (List Nat)}:rs≠[]→rs.length≤40→(∀ r∈rs,r≠[]∧∀ c∈r,Sg c)→Fit Pat.VB (rs.map Arg.run)
 | nums {z:List Nat} {a b:Nat}:z=twW∨z=saW→a<100→b<100→Fit z [.num a,.num b]
 | one {z v:List Nat} {x:List (List Nat)}:z=miW∨z=upW∨z=baW∨z=quW→Clo x→Fit z [.cl x v]
 | two {z v u:List Nat} {x y:List (List Nat)}:z=beW∨z=abW∨z=laW→Clo x→Clo y→Fit z [.cl x v,.cl y u]
 | tile {v:List Nat} {x:List (List Nat)} {a b:Nat}:Clo x→a<100→b<100→Fit tiW [.cl x v,.num a,.num b]
 | blk {v u s:List Nat} {x y w:List (List Nat)}:Clo x→Clo y→Clo w→Fit blW [.cl x v,.cl y u,.cl w s]
theorem Ax1{z:List Nat}{as:List Arg}{r:List (List Nat)}(F:Fit z as)(h:made z as=.ok r):Clo r:=by
 cases F with
 | rows h1 h2 h3 =>
  unfold made at h
  rw[if_pos rfl,ApY] at h
  exact Ax0 h1 h3 h
 | nums w ha hb =>
  rcases w with rfl | rfl
  ·exact Awb h
  ·exact Awc h
 | one w C =>
  rcases w with rfl | rfl | rfl | rfl
  ·exact Ame (z:=miW) C h
  ·exact Ame (z:=upW) C h
  ·exact Ame (z:=baW) C h
  ·exact Ame (z:=quW) C h
 | two w C D =>
  rcases w with rfl | rfl | rfl
  ·exact AtJ C D h
  ·exact Awa C D h
  ·exact Azd C D h
 | tile C ha hb=>exact Axz C h
 | blk B C D=>exact AtK B C D h
theorem Ax2{kn:Kns}{d:Nat}(ih:∀{x:Nd} {r:List (List Nat)},Wd d x→out kn d x=.ok r→Clo r){z:List Nat}{ts:List Nd}{as:List Arg}(W:Wd (d+1) (.node z ts))(h:args (out kn d) (wr d) ts=.inr as):Fit z as:=by
 have sub:∀{x:Nd} {a:Arg},Wd d x→arg (out kn d) (wr d) x=.inr a→∃ r,a=.cl r (wr d x)∧Clo r:=fun {x a} W h=>by
  rw[Axy W] at h
  cases e:out kn d x with
  | no f=>rw[e] at h;cases h
  | ok r=>rw[e] at h;cases h;exact⟨r,rfl,ih W e⟩
 have inv:∀{x:Nd} {ts:List Nd} {as:List Arg},args (out kn d) (wr d) (x::ts)=.inr as→∃ a as',as=a::as'∧arg (out kn d) (wr d) x=.inr a∧args (out kn d) (wr d) ts=.inr as':=fun {x ts as} h=>by
  unfold args at h
  cases e:arg (out kn d) (wr d) x with
  | inl f=>rw[e] at h;cases h
  | inr a =>
   rw[e] at h
   dsimp only at h
   cases e2:args (out kn d) (wr d) ts with
   | inl f=>rw[e2] at h;cases h
   | inr as'=>rw[e2] at h;cases h;exact⟨a,as',rfl,rfl,rfl⟩
 have nil:∀{as:List Arg},args (out kn d) (wr d) []=.inr as→as=[]:=fun h=>by cases h;rfl
 cases W with
 | rows h1 h2 h3 =>
  rw[ApX] at h
  cases h
  exact .rows h1 h2 h3
 | nums w ha hb =>
  obtain⟨a,_,rfl,e1,h⟩:=inv h
  obtain⟨b,_,rfl,e2,h⟩:=inv h
  cases nil h
  cases e1
  cases e2
  exact .nums w ha hb
 | one w X =>
  obtain⟨a,_,rfl,e1,h⟩:=inv h
  cases nil h
  obtain⟨r,rfl,C⟩:=sub X e1
  exact .one w C
 | two w X Y =>
  obtain⟨a,_,rfl,e1,h⟩:=inv h
  obtain⟨b,_,rfl,e2,h⟩:=inv h
  cases nil h
  obtain⟨r,rfl,C⟩:=sub X e1
  obtain⟨r2,rfl,D⟩:=sub Y e2
  exact .two w C D
 | tile X ha hb =>
  obtain⟨a,_,rfl,e1,h⟩:=inv h
  obtain⟨b,_,rfl,e2,h⟩:=inv h
  obtain⟨c,_,rfl,e3,h⟩:=inv h
  cases nil h
  cases e2
  cases e3
  obtain⟨r,rfl,C⟩:=sub X e1
  exact .tile C ha hb
 | blk X Y Z =>
  obtain⟨a,_,rfl,e1,h⟩:=inv h
  obtain⟨b,_,rfl,e2,h⟩:=inv h
  obtain⟨c,_,rfl,e3,h⟩:=inv h
  cases nil h
  obtain⟨r,rfl,C⟩:=sub X e1
  obtain⟨r2,rfl,D⟩:=sub Y e2
  obtain⟨r3,rfl,F⟩:=sub Z e3
  exact .blk C D F
theorem Aq6{kn:Kns}(hk:∀ p∈kn,Clo p.2):∀{d:Nat} {x:Nd} {r:List (List Nat)},Wd d x→out kn d x=.ok r→Clo r
 | 0,x,r,W,h=>by cases W
 | d+1,.nam z,r,W,h=>AvZ hk h
 | d+1,.num n,r,W,h=>by cases W
 | d+1,.run n,r,W,h=>by cases W
 | d+1,.node z ts,r,W,h=>by
  unfold out at h
  cases e:args (out kn d) (wr d) ts with
  | inl f=>rw[e] at h;cases h
  | inr as =>
   rw[e] at h
   exact Ax1 (Ax2 (Aq6 hk) W e) h
theorem AuW:∀{xs:List (List Nat)} {y:List Nat},y∈xs→y.length≤((xs.map fun y=>[44]++y).flatten).length
 | [],y,h=>by simp at h
 | a::xs,y,h=>by
  rw[A5P,A6d,A5J,A5J]
  rcases List.mem_cons.mp h with rfl | h
  ·omega
  ·have:=AuW h;omega
theorem AzQ:∀{ys:List (List Nat)} {y:List Nat},y∈ys→y.length≤(cj ys).length
 | [],y,h=>by simp at h
 | x::xs,y,h=>by
  unfold cj
  rw[A5J]
  rcases List.mem_cons.mp h with rfl | h
  ·omega
  ·have:=AuW h
   omega
theorem Aze{d:Nat}{z:List Nat}{ts:List Nd}{x:Nd}(h:x∈ts):(wr d x).length≤(wr (d+1) (.node z ts)).length:=by
 have:=AzQ (List.mem_map.mpr ⟨x,h,rfl⟩:wr d x∈ts.map (wr d))
 show _≤(wz z (ts.map (wr d))).length
 unfold wz
 rw[A5J,A5N,A5J]
 omega
end Mine
set_option maxHeartbeats 4000000
namespace Mine
open PySem L2
def top (i:Nat):Stmt:=PySem.Challenge.pw_heddle_k58_texts_that_are_no_patterns.main.body.getD i (.Pass ⟨0,0,0,0⟩)
abbrev JZ:Stmt:=top 12
theorem AtL:Bg ["text"] ["text"] (Ab JZ):=⟨rfl,rfl,rfl,by decide +kernel,rfl,by decide +kernel,by decide +kernel⟩
abbrev JF:Stmt:=top 15
theorem Asv:Bg ["cloth"] ["cloth"] (Ab JF):=⟨rfl,rfl,rfl,by decide +kernel,rfl,by decide +kernel,by decide +kernel⟩
abbrev Ka:Stmt:=top 16
theorem AtM:Bg ["cloth"] ["cloth"] (Ab Ka):=⟨rfl,rfl,rfl,by decide +kernel,rfl,by decide +kernel,by decide +kernel⟩
abbrev G4:Stmt:=top 17
theorem Afs:Bg ["cloth", "size"] ["cloth"] (Ab G4):=⟨rfl,rfl,rfl,by decide +kernel,rfl,by decide +kernel,by decide +kernel⟩
abbrev DR:Stmt:=top 18
theorem Rz:Bg ["texts", "least", "signs", "ends", "text"] ["texts", "least", "signs"] (Ab DR):=⟨rfl,rfl,rfl,by decide +kernel,rfl,by decide +kernel,by decide +kernel⟩
abbrev Hf:Stmt:=top 19
theorem Afu:Bg ["text", "ends", "signs", "sign"] ["text", "ends", "signs"] (Ab Hf):=⟨rfl,rfl,rfl,by decide +kernel,rfl,by decide +kernel,by decide +kernel⟩
abbrev Hw:Stmt:=top 20
theorem Aq7:Bg ["cloth", "end"] ["cloth", "end"] (Ab Hw):=⟨rfl,rfl,rfl,by decide +kernel,rfl,by decide +kernel,by decide +kernel⟩
abbrev Ew:Stmt:=top 21
theorem Al5:Bg ["signs"] ["signs"] (Ab Ew):=⟨rfl,rfl,rfl,by decide +kernel,rfl,by decide +kernel,by decide +kernel⟩
abbrev DK:Stmt:=top 23
theorem Hb:Bg ["profile", "one", "other", "size", "unit", "cloth", "text", "of_one", "of_other"] ["profile", "one", "other"] (Ab DK):=⟨rfl,rfl,rfl,by decide +kernel,rfl,by decide +kernel,by decide +kernel⟩
abbrev Ih:Stmt:=top 24
theorem AhF:Bg ["one", "other", "size"] ["one", "other"] (Ab Ih):=⟨rfl,rfl,rfl,by decide +kernel,rfl,by decide +kernel,by decide +kernel⟩
abbrev R0:Stmt:=top 26
theorem Asw:Bg ["cloth", "across", "along", "size"] ["cloth", "across", "along"] (Ab R0):=⟨rfl,rfl,rfl,by decide +kernel,rfl,by decide +kernel,by decide +kernel⟩
abbrev DN:Stmt:=top 28
theorem DW:Bg ["pieces", "ends", "picks", "number", "piece", "end_places", "pick_places", "cloth", "owner", "place", "own", "signs"] ["pieces", "ends", "picks"] (Ab DN):=⟨rfl,rfl,rfl,by decide +kernel,rfl,by decide +kernel,by decide +kernel⟩
abbrev Fy:Stmt:=top 29
theorem Acs:Bg ["owners", "pieces", "owner"] ["owners", "pieces"] (Ab Fy):=⟨rfl,rfl,rfl,by decide +kernel,rfl,by decide +kernel,by decide +kernel⟩
abbrev Gm:Stmt:=top 30
theorem W5:Bg ["piece", "ends", "picks", "text", "sign"] ["piece", "ends", "picks"] (Ab Gm):=⟨rfl,rfl,rfl,by decide +kernel,rfl,by decide +kernel,by decide +kernel⟩
abbrev DP:Stmt:=top 31
theorem Ajr:Bg ["owners"] ["owners"] (Ab DP):=⟨rfl,rfl,rfl,by decide +kernel,rfl,by decide +kernel,by decide +kernel⟩
abbrev Mh:Stmt:=top 32
theorem AtO:Bg ["pick_owner", "own", "end_owner", "place"] ["pick_owner", "own", "end_owner", "place"] (Ab Mh):=⟨rfl,rfl,rfl,by decide +kernel,rfl,by decide +kernel,by decide +kernel⟩
abbrev Hg:Stmt:=top 48
theorem AoP:Bg ["ends", "picks"] ["ends", "picks"] (Ab Hg):=⟨rfl,rfl,rfl,by decide +kernel,rfl,by decide +kernel,by decide +kernel⟩
abbrev DX:Stmt:=top 49
theorem AhG:Bg ["one", "other"] ["one", "other"] (Ab DX):=⟨rfl,rfl,rfl,by decide +kernel,rfl,by decide +kernel,by decide +kernel⟩
abbrev Jd:Stmt:=top 50
theorem Asx:Bg ["size", "step"] ["size", "step"] (Ab Jd):=⟨rfl,rfl,rfl,by decide +kernel,rfl,by decide +kernel,by decide +kernel⟩
abbrev Mi:Stmt:=top 51
theorem AtP:Bg ["word", "things"] ["word", "things"] (Ab Mi):=⟨rfl,rfl,rfl,by decide +kernel,rfl,by decide +kernel,by decide +kernel⟩
abbrev Ii:Stmt:=top 55
theorem Aq8:Bg ["figures"] ["figures"] (Ab Ii):=⟨rfl,rfl,rfl,by decide +kernel,rfl,by decide +kernel,by decide +kernel⟩
abbrev Fz:Stmt:=top 60
theorem Al6:Bg ["text", "known"] ["text", "known"] (Ab Fz):=⟨rfl,rfl,rfl,by decide +kernel,rfl,by decide +kernel,by decide +kernel⟩
abbrev Hh:Stmt:=top 61
theorem ZL:Bg ["text", "reader", "node"] ["text"] (Ab Hh):=⟨rfl,rfl,rfl,by decide +kernel,rfl,by decide +kernel,by decide +kernel⟩
abbrev Ij:Stmt:=top 62
theorem O2:Bg ["reader", "depth", "word", "things"] ["reader", "depth"] (Ab Ij):=⟨rfl,rfl,rfl,by decide +kernel,rfl,by decide +kernel,by decide +kernel⟩
abbrev Gn:Stmt:=top 63
theorem W6:Bg ["reader", "word", "depth", "things", "kind"] ["reader", "word", "depth"] (Ab Gn):=⟨rfl,rfl,rfl,by decide +kernel,rfl,by decide +kernel,by decide +kernel⟩
abbrev Ik:Stmt:=top 64
theorem AhH:Bg ["reader", "runs"] ["reader"] (Ab Ik):=⟨rfl,rfl,rfl,by decide +kernel,rfl,by decide +kernel,by decide +kernel⟩
abbrev JG:Stmt:=top 65
theorem AkV:Bg ["reader", "run"] ["reader"] (Ab JG):=⟨rfl,rfl,rfl,by decide +kernel,rfl,by decide +kernel,by decide +kernel⟩
abbrev Gp:Stmt:=top 66
theorem AcW:Bg ["reader", "number"] ["reader"] (Ab Gp):=⟨rfl,rfl,rfl,by decide +kernel,rfl,by decide +kernel,by decide +kernel⟩
abbrev Hi:Stmt:=top 67
theorem AoQ:Bg ["reader"] ["reader"] (Ab Hi):=⟨rfl,rfl,rfl,by decide +kernel,rfl,by decide +kernel,by decide +kernel⟩
abbrev G5:Stmt:=top 68
theorem Afv:Bg ["node", "known", "things"] ["node", "known"] (Ab G5):=⟨rfl,rfl,rfl,by decide +kernel,rfl,by decide +kernel,by decide +kernel⟩
abbrev Gq:Stmt:=top 69
theorem W7:Bg ["name", "known", "one", "cloth"] ["name", "known"] (Ab Gq):=⟨rfl,rfl,rfl,by decide +kernel,rfl,by decide +kernel,by decide +kernel⟩
abbrev Gr:Stmt:=top 70
theorem AmK:Bg ["word", "inner"] ["word", "inner"] (Ab Gr):=⟨rfl,rfl,rfl,by decide +kernel,rfl,by decide +kernel,by decide +kernel⟩
abbrev Gs:Stmt:=top 71
theorem AmL:Bg ["word", "one", "other"] ["word", "one", "other"] (Ab Gs):=⟨rfl,rfl,rfl,by decide +kernel,rfl,by decide +kernel,by decide +kernel⟩
abbrev Ex:Stmt:=top 72
theorem Ajs:Bg ["word", "things"] ["word", "things"] (Ab Ex):=⟨rfl,rfl,rfl,by decide +kernel,rfl,by decide +kernel,by decide +kernel⟩
abbrev Il:Stmt:=top 74
theorem R1:Bg ["cell", "a", "b", "size", "inner"] ["cell"] (Ab Il):=⟨rfl,rfl,rfl,by decide +kernel,rfl,by decide +kernel,by decide +kernel⟩
abbrev Gu:Stmt:=top 75
theorem AcX:Bg ["cell", "some"] ["cell"] (Ab Gu):=⟨rfl,rfl,rfl,by decide +kernel,rfl,by decide +kernel,by decide +kernel⟩
abbrev Mj:Stmt:=top 76
theorem AmM:Bg ["cell", "some"] ["cell"] (Ab Mj):=⟨rfl,rfl,rfl,by decide +kernel,rfl,by decide +kernel,by decide +kernel⟩
abbrev JH:Stmt:=top 77
theorem Asy:Bg ["many"] ["many"] (Ab JH):=⟨rfl,rfl,rfl,by decide +kernel,rfl,by decide +kernel,by decide +kernel⟩
abbrev JK:Stmt:=top 78
theorem Gi:Bg ["cell", "way", "rest", "plain", "wide", "high", "at", "behind", "deep", "fits", "size", "name", "many"] ["cell"] (Ab JK):=⟨rfl,rfl,rfl,by decide +kernel,rfl,by decide +kernel,by decide +kernel⟩
abbrev Im:Stmt:=top 79
theorem Hj:Bg ["cell", "text", "due", "wide", "high", "caught", "piece", "e"] ["cell"] (Ab Im):=⟨rfl,rfl,rfl,by decide +kernel,rfl,by decide +kernel,by decide +kernel⟩
abbrev Afw:Stmt:=top 80
theorem Ax3:Bg ["script", "cell"] ["script"] (Ab Afw):=⟨rfl,rfl,rfl,by decide +kernel,rfl,by decide +kernel,by decide +kernel⟩
abbrev DY:Stmt:=(Gk (top 34)).getD 0 (.Pass ⟨0,0,0,0⟩)
theorem AhI:Bg ["self", "texts", "writing"] ["self", "texts", "writing"] (Ab DY):=⟨rfl,rfl,rfl,by decide +kernel,rfl,by decide +kernel,by decide +kernel⟩
abbrev Hk:Stmt:=(Gk (top 34)).getD 1 (.Pass ⟨0,0,0,0⟩)
theorem AoR:Bg ["self"] ["self"] (Ab Hk):=⟨rfl,rfl,rfl,by decide +kernel,rfl,by decide +kernel,by decide +kernel⟩
abbrev Hl:Stmt:=(Gk (top 34)).getD 2 (.Pass ⟨0,0,0,0⟩)
theorem AoS:Bg ["self"] ["self"] (Ab Hl):=⟨rfl,rfl,rfl,by decide +kernel,rfl,by decide +kernel,by decide +kernel⟩
abbrev Ie:Stmt:=(Gk (top 34)).getD 3 (.Pass ⟨0,0,0,0⟩)
abbrev Gv:Stmt:=(Gk (top 34)).getD 4 (.Pass ⟨0,0,0,0⟩)
theorem AmN:Bg ["self"] ["self"] (Ab Gv):=⟨rfl,rfl,rfl,by decide +kernel,rfl,by decide +kernel,by decide +kernel⟩
abbrev Hm:Stmt:=(Gk (top 34)).getD 5 (.Pass ⟨0,0,0,0⟩)
theorem AoT:Bg ["self"] ["self"] (Ab Hm):=⟨rfl,rfl,rfl,by decide +kernel,rfl,by decide +kernel,by decide +kernel⟩
abbrev Ea:Stmt:=(Gk (top 35)).getD 0 (.Pass ⟨0,0,0,0⟩)
theorem AhJ:Bg ["self", "name", "known_cloth"] ["self", "name", "known_cloth"] (Ab Ea):=⟨rfl,rfl,rfl,by decide +kernel,rfl,by decide +kernel,by decide +kernel⟩
abbrev DQ:Stmt:=(Gk (top 36)).getD 0 (.Pass ⟨0,0,0,0⟩)
theorem Ajt:Bg ["self", "runs"] ["self", "runs"] (Ab DQ):=⟨rfl,rfl,rfl,by decide +kernel,rfl,by decide +kernel,by decide +kernel⟩
abbrev Dg:Stmt:=(Gk (top 37)).getD 0 (.Pass ⟨0,0,0,0⟩)
theorem My:Bg ["self", "over", "under", "size", "first", "texts"] ["self", "over", "under"] (Ab Dg):=⟨rfl,rfl,rfl,by decide +kernel,rfl,by decide +kernel,by decide +kernel⟩
abbrev CK:Stmt:=(Gk (top 38)).getD 0 (.Pass ⟨0,0,0,0⟩)
theorem R3:Bg ["self", "size", "step", "overs", "texts"] ["self", "size", "step"] (Ab CK):=⟨rfl,rfl,rfl,by decide +kernel,rfl,by decide +kernel,by decide +kernel⟩
abbrev CQ:Stmt:=(Gk (top 39)).getD 0 (.Pass ⟨0,0,0,0⟩)
theorem W8:Bg ["self", "one", "other", "texts"] ["self", "one", "other"] (Ab CQ):=⟨rfl,rfl,rfl,by decide +kernel,rfl,by decide +kernel,by decide +kernel⟩
abbrev Eb:Stmt:=(Gk (top 40)).getD 0 (.Pass ⟨0,0,0,0⟩)
theorem AhK:Bg ["self", "one", "other"] ["self", "one", "other"] (Ab Eb):=⟨rfl,rfl,rfl,by decide +kernel,rfl,by decide +kernel,by decide +kernel⟩
abbrev CT:Stmt:=(Gk (top 41)).getD 0 (.Pass ⟨0,0,0,0⟩)
theorem W9:Bg ["self", "inner", "texts"] ["self", "inner"] (Ab CT):=⟨rfl,rfl,rfl,by decide +kernel,rfl,by decide +kernel,by decide +kernel⟩
abbrev Ec:Stmt:=(Gk (top 42)).getD 0 (.Pass ⟨0,0,0,0⟩)
theorem AhL:Bg ["self", "inner"] ["self", "inner"] (Ab Ec):=⟨rfl,rfl,rfl,by decide +kernel,rfl,by decide +kernel,by decide +kernel⟩
abbrev Ey:Stmt:=(Gk (top 43)).getD 0 (.Pass ⟨0,0,0,0⟩)
theorem Aju:Bg ["self", "inner"] ["self", "inner"] (Ab Ey):=⟨rfl,rfl,rfl,by decide +kernel,rfl,by decide +kernel,by decide +kernel⟩
abbrev CW:Stmt:=(Gk (top 44)).getD 0 (.Pass ⟨0,0,0,0⟩)
theorem Afh:Bg ["self", "inner"] ["self", "inner"] (Ab CW):=⟨rfl,rfl,rfl,by decide +kernel,rfl,by decide +kernel,by decide +kernel⟩
abbrev Ez:Stmt:=(Gk (top 45)).getD 0 (.Pass ⟨0,0,0,0⟩)
theorem Aa6:Bg ["self", "inner", "across", "along", "texts"] ["self", "inner", "across", "along"] (Ab Ez):=⟨rfl,rfl,rfl,by decide +kernel,rfl,by decide +kernel,by decide +kernel⟩
abbrev Dj:Stmt:=(Gk (top 46)).getD 0 (.Pass ⟨0,0,0,0⟩)
theorem WD:Bg ["self", "profile", "one", "other", "texts"] ["self", "profile", "one", "other"] (Ab Dj):=⟨rfl,rfl,rfl,by decide +kernel,rfl,by decide +kernel,by decide +kernel⟩
abbrev FJ:Stmt:=(Gk (top 47)).getD 0 (.Pass ⟨0,0,0,0⟩)
theorem Acu:Bg ["self", "upper", "lower", "texts"] ["self", "upper", "lower"] (Ab FJ):=⟨rfl,rfl,rfl,by decide +kernel,rfl,by decide +kernel,by decide +kernel⟩
abbrev Dk:Stmt:=(Gk (top 54)).getD 0 (.Pass ⟨0,0,0,0⟩)
theorem Agw:Bg ["self", "text"] ["self", "text"] (Ab Dk):=⟨rfl,rfl,rfl,by decide +kernel,rfl,by decide +kernel,by decide +kernel⟩
abbrev FN:Stmt:=(Gk (top 54)).getD 1 (.Pass ⟨0,0,0,0⟩)
theorem Al7:Bg ["self"] ["self"] (Ab FN):=⟨rfl,rfl,rfl,by decide +kernel,rfl,by decide +kernel,by decide +kernel⟩
abbrev Gw:Stmt:=(Gk (top 54)).getD 2 (.Pass ⟨0,0,0,0⟩)
theorem AcY:Bg ["self", "wanted", "behind"] ["self", "wanted"] (Ab Gw):=⟨rfl,rfl,rfl,by decide +kernel,rfl,by decide +kernel,by decide +kernel⟩
abbrev Ed:Stmt:=(Gk (top 54)).getD 3 (.Pass ⟨0,0,0,0⟩)
theorem Yc:Bg ["self", "signs", "begin"] ["self", "signs"] (Ab Ed):=⟨rfl,rfl,rfl,by decide +kernel,rfl,by decide +kernel,by decide +kernel⟩
abbrev EY:Stmt:=(Gk (top 54)).getD 4 (.Pass ⟨0,0,0,0⟩)
theorem Ajv:Bg ["self"] ["self"] (Ab EY):=⟨rfl,rfl,rfl,by decide +kernel,rfl,by decide +kernel,by decide +kernel⟩
set_option genInjectivity false in
structure Adr where
 BP:Addr
 Dl:Addr
 FP:Addr
 Dm:Addr
 Dp:Addr
 Cv:Addr
 Dv:Addr
 Cw:Addr
 Dw:Addr
 Gh:Addr
 BR:Addr
 FQ:Addr
 Cr:Addr
 Je:Addr
 Br:Addr
 Vd:Addr
 Aby:Addr
 Ba:Addr
 BV:FuncData
 Av:Addr
 K8:FuncData
 Aw:Addr
 K9:FuncData
 Be:Addr
 Aq9:FuncData
 Al:Addr
 Fb:FuncData
 An:Addr
 Gb:FuncData
 Ef:Addr
 Tr:FuncData
 Fd:Addr
 Vn:FuncData
 Eg:Addr
 Tt:FuncData
 Eh:Addr
 Tu:FuncData
 Dq:Addr
 R4:FuncData
 Ei:Addr
 Tv:FuncData
 Dr:Addr
 R5:FuncData
 Ej:Addr
 Tw:FuncData
 Fe:Addr
 Vo:FuncData
 CZ:Addr
 Rc:FuncData
 Ff:Addr
 Vp:FuncData
 Dt:Addr
 R6:FuncData
 FT:Addr
 WK:FuncData
 Du:Addr
 R7:FuncData
 FW:Addr
 R8:FuncData
 Fg:Addr
 Ml:FuncData
 BJ:Addr
 Ek:FuncData
 Gd:Addr
 Vq:FuncData
 O3:Addr
 AeK:FuncData
 HS:Addr
 Rh:FuncData
 Rp:Addr
 Ajw:FuncData
 Jx:Addr
 Abz:FuncData
 Gj:Addr
 Tz:FuncData
 Jy:Addr
 Ab0:FuncData
 Kw:Addr
 AcZ:FuncData
 G6:Addr
 R9:FuncData
 GK:Addr
 Vr:FuncData
 Ky:Addr
 Ada:FuncData
 Yd:Addr
 AqA:FuncData
 GP:Addr
 Vs:FuncData
 Hx:Addr
 WL:FuncData
 Io:Addr
 ZM:FuncData
 GQ:Addr
 Vt:FuncData
 Rq:Addr
 Ajx:FuncData
 Fj:Addr
 Jz:FuncData
 Fl:Addr
 O4:FuncData
 N5:Addr
 Agx:FuncData
 Fo:Addr
 HH:FuncData
 Kz:Addr
 Adb:FuncData
 Hy:Addr
 WM:FuncData
 J0:Addr
 Ab1:FuncData
 Hz:Addr
 Rr:FuncData
 Hn:Addr
 Ug:FuncData
 K1:Addr
 Adc:FuncData
 N6:Addr
 Agy:FuncData
 Ip:Addr
 ZP:FuncData
 J1:Addr
 Ab2:FuncData
 Ho:Addr
 RB:FuncData
 Ir:Addr
 ZQ:FuncData
 Iu:Addr
 ZR:FuncData
 Iv:Addr
 ZS:FuncData
 GR:Addr
 Vu:FuncData
 K3:Addr
 Ade:FuncData
 Iw:Addr
 ZV:FuncData
 Rt:Addr
 Ajy:FuncData
 N7:Addr
 Agz:FuncData
 N8:Addr
 Ag0:FuncData
 K4:Addr
 Adf:FuncData
 AmO:Addr
 AzR:FuncData
 BZ:Addr
 Ay:Addr
 Es:Addr
 Dh:Addr
 Et:Addr
 Aj:Addr
 Bj:Addr
structure Txt (K:PySem.W.Frag) (mg:Str→Option Value) (t:Adr):Prop where
 Ab3:Df K mg "is_name" JZ ["text"] t.O3 t.AeK
 measured:Df K mg "measured" JF ["cloth"] t.HS t.Rh
 Amf:Df K mg "back_of" Ka ["cloth"] t.Rp t.Ajw
 Ab4:Df K mg "quarter_of" G4 ["cloth"] t.Jx t.Abz
 RC:Df K mg "measured_texts" DR ["texts", "least", "signs"] t.Gj t.Tz
 Ab5:Df K mg "check_pick" Hf ["text", "ends", "signs"] t.Jy t.Ab0
 AeL:Df K mg "end_signs" Hw ["cloth", "end"] t.Kw t.AcZ
 KC:Df K mg "turned_signs" Ew ["signs"] t.G6 t.R9
 Uh:Df K mg "filled_blocks" DK ["profile", "one", "other"] t.GK t.Vr
 AeM:Df K mg "unit_size" Ih ["one", "other"] t.Ky t.Ada
 AuX:Df K mg "tiled" R0 ["cloth", "across", "along"] t.Yd t.AqA
 Ui:Df K mg "laid_together" DN ["pieces", "ends", "picks"] t.GP t.Vs
 KD:Df K mg "check_owners" Fy ["owners", "pieces"] t.Hx t.WL
 Ye:Df K mg "check_piece" Gm ["piece", "ends", "picks"] t.Io t.ZM
 JL:Df K mg "places_within" DP ["owners"] t.GQ t.Vt
 Amg:Df K mg "sign_at" Mh ["pick_owner", "own", "end_owner", "place"] t.Rq t.Ajx
 Dy:Df K mg "check_size" Hg ["ends", "picks"] t.Fj t.Jz
 Jf:Df K mg "check_one_size" DX ["one", "other"] t.Fl t.O4
 AhM:Df K mg "prime_to" Jd ["size", "step"] t.N5 t.Agx
 written:Df K mg "written" Mi ["word", "things"] t.Fo t.HH
 AeN:Df K mg "number_of" Ii ["figures"] t.Kz t.Adb
 VN:Df K mg "read_pattern" Fz ["text", "known"] t.Hy t.WM
 Ab6:Df K mg "read_whole" Hh ["text"] t.J0 t.Ab1
 Ru:Df K mg "read_node" Ij ["reader", "depth"] t.Hz t.Rr
 NB:Df K mg "read_things" Gn ["reader", "word", "depth"] t.Hn t.Ug
 AeO:Df K mg "read_runs" Ik ["reader"] t.K1 t.Adc
 WN:Df K mg "read_run" JG ["reader"] t.N6 t.Agy
 Yg:Df K mg "read_number" Gp ["reader"] t.Ip t.ZP
 Ab7:Df K mg "read_comma" Hi ["reader"] t.J1 t.Ab2
 Ri:Df K mg "worked_out" G5 ["node", "known"] t.Ho t.RB
 Yh:Df K mg "known_cloth" Gq ["name", "known"] t.Ir t.ZQ
 Yi:Df K mg "made_of_one" Gr ["word", "inner"] t.Iu t.ZR
 Yj:Df K mg "made_of_two" Gs ["word", "one", "other"] t.Iv t.ZS
 Uj:Df K mg "made_of_three" Ex ["word", "things"] t.GR t.Vu
 AeP:Df K mg "_law_plain" Il ["cell"] t.K3 t.Ade
 Yk:Df K mg "_law_strange" Gu ["cell"] t.Iw t.ZV
 Amh:Df K mg "_law_odd" Mj ["cell"] t.Rt t.Ajy
 AhN:Df K mg "_law_deep" JH ["many"] t.N7 t.Agz
 AhO:Df K mg "_law_text" JK ["cell"] t.N8 t.Ag0
 T3:Df K mg "_law_right" Im ["cell"] t.K4 t.Adf
 law:Df K mg "law" Afw ["script"] t.AmO t.AzR
 Azf:mg "ValueError" = none
 A2J:mg "all" = none
 AzS:mg "any" = none
 Asz:mg "enumerate" = none
 As0:mg "int" = none
 KH:mg "isinstance" = none
 Jg:mg "len" = none
 AtQ:mg "list" = none
 AhP:mg "range" = none
 Ag1:mg "reversed" = none
 Adg:mg "str" = none
 Azg:mg "tuple" = none
 AuY:mg "zip" = none
 Ajz:∃ tk,mg "LETTERS" = some (.str "abcdefghijklmnopqrstuvwxyz" tk)
 AmP:∃ tk,mg "MOST_LETTERS" = some (.int 20 tk)
 G7:∃ tk,mg "MOST_STRANDS" = some (.int 40 tk)
 Awd:∃ tk,mg "FIGURES" = some (.str "0123456789" tk)
 AkW:∃ tk,mg "MOST_DEEP" = some (.int 12 tk)
 As1:∃ tk,mg "MOST_RUNS" = some (.int 40 tk)
 AqB:mg "WeaveError" = some (.ref t.BZ)
 AqC:Exn K t.BZ
 Ab8:mg "TooLarge" = some (.ref t.Ay)
 Rj:Exn K t.Ay
 GZ:PySem.W.mroIn K t.Ay (.ref t.BZ)=some true
 Fv:PySem.W.mroIn K t.Ay (.ref t.Ay)=some true
 KJ:PySem.W.mroIn K t.Ay (.ref t.Es)=some false
 JN:PySem.W.mroIn K t.Ay (.ref t.Dh)=some false
 KN:PySem.W.mroIn K t.Ay (.ref t.Et)=some false
 HB:PySem.W.mroIn K t.Ay (.ref t.Aj)=some false
 KQ:PySem.W.mroIn K t.Ay (.ref t.Bj)=some false
 A1r:mg "NoCloth" = some (.ref t.Es)
 A1s:Exn K t.Es
 A0R:mg "NoLaying" = some (.ref t.Dh)
 A0S:Exn K t.Dh
 A1t:mg "NoBlock" = some (.ref t.Et)
 A1u:Exn K t.Et
 Cm:mg "NoPattern" = some (.ref t.Aj)
 BK:Exn K t.Aj
 G8:PySem.W.mroIn K t.Aj (.ref t.BZ)=some true
 J2:PySem.W.mroIn K t.Aj (.ref t.Ay)=some false
 JP:PySem.W.mroIn K t.Aj (.ref t.Es)=some false
 J3:PySem.W.mroIn K t.Aj (.ref t.Dh)=some false
 JQ:PySem.W.mroIn K t.Aj (.ref t.Et)=some false
 Em:PySem.W.mroIn K t.Aj (.ref t.Aj)=some true
 HX:PySem.W.mroIn K t.Aj (.ref t.Bj)=some false
 Aj0:mg "Unknown" = some (.ref t.Bj)
 Ws:Exn K t.Bj
 HD:PySem.W.mroIn K t.Bj (.ref t.BZ)=some true
 KR:PySem.W.mroIn K t.Bj (.ref t.Ay)=some false
 Mz:PySem.W.mroIn K t.Bj (.ref t.Es)=some false
 KY:PySem.W.mroIn K t.Bj (.ref t.Dh)=some false
 M3:PySem.W.mroIn K t.Bj (.ref t.Et)=some false
 HY:PySem.W.mroIn K t.Bj (.ref t.Aj)=some false
 G9:PySem.W.mroIn K t.Bj (.ref t.Bj)=some true
 O5:mg "Piece" = some (.ref t.BP)
 A3i:L2.Own K t.BP t.Ba
 RD:De K t.BP "texts"
 O6:De K t.BP "writing"
 Azh:mg "Named" = some (.ref t.Dl)
 AqD:L2.Own K t.Dl t.Ef
 Kc:De K t.Dl "texts"
 Iz:De K t.Dl "writing"
 Qe:Meth K t.Dl "wide" t.Av
 Qf:Meth K t.Dl "high" t.Aw
 Qg:Meth K t.Dl "sign" t.Be
 NK:Meth K t.Dl "cloth" t.Al
 Qh:Meth K t.Dl "told" t.An
 A0T:mg "Rows" = some (.ref t.FP)
 AtR:L2.Own K t.FP t.Fd
 Mm:De K t.FP "texts"
 Jp:De K t.FP "writing"
 RG:Meth K t.FP "wide" t.Av
 RJ:Meth K t.FP "high" t.Aw
 RK:Meth K t.FP "sign" t.Be
 Qi:Meth K t.FP "cloth" t.Al
 RL:Meth K t.FP "told" t.An
 Azi:mg "Twill" = some (.ref t.Dm)
 AqE:L2.Own K t.Dm t.Eg
 Kd:De K t.Dm "texts"
 IK:De K t.Dm "writing"
 Qj:Meth K t.Dm "wide" t.Av
 Qk:Meth K t.Dm "high" t.Aw
 Ql:Meth K t.Dm "sign" t.Be
 NP:Meth K t.Dm "cloth" t.Al
 Qm:Meth K t.Dm "told" t.An
 Azj:mg "Satin" = some (.ref t.Dp)
 AqF:L2.Own K t.Dp t.Eh
 Ke:De K t.Dp "texts"
 IV:De K t.Dp "writing"
 Qn:Meth K t.Dp "wide" t.Av
 Qo:Meth K t.Dp "high" t.Aw
 Qp:Meth K t.Dp "sign" t.Be
 NQ:Meth K t.Dp "cloth" t.Al
 Qq:Meth K t.Dp "told" t.An
 Ax4:mg "Beside" = some (.ref t.Cv)
 AmQ:L2.Own K t.Cv t.Dq
 Jq:De K t.Cv "texts"
 HJ:De K t.Cv "writing"
 NT:Meth K t.Cv "wide" t.Av
 NZ:Meth K t.Cv "high" t.Aw
 Oa:Meth K t.Cv "sign" t.Be
 Lx:Meth K t.Cv "cloth" t.Al
 Ob:Meth K t.Cv "told" t.An
 Azk:mg "Above" = some (.ref t.Dv)
 AqG:L2.Own K t.Dv t.Ei
 Kf:De K t.Dv "texts"
 IW:De K t.Dv "writing"
 Qs:Meth K t.Dv "wide" t.Av
 Qt:Meth K t.Dv "high" t.Aw
 Qu:Meth K t.Dv "sign" t.Be
 Od:Meth K t.Dv "cloth" t.Al
 Qv:Meth K t.Dv "told" t.An
 Ax5:mg "Mirror" = some (.ref t.Cw)
 AmR:L2.Own K t.Cw t.Dr
 Jr:De K t.Cw "texts"
 HN:De K t.Cw "writing"
 Oe:Meth K t.Cw "wide" t.Av
 Og:Meth K t.Cw "high" t.Aw
 Oh:Meth K t.Cw "sign" t.Be
 Ly:Meth K t.Cw "cloth" t.Al
 Oj:Meth K t.Cw "told" t.An
 Azl:mg "Upend" = some (.ref t.Dw)
 AqH:L2.Own K t.Dw t.Ej
 Kg:De K t.Dw "texts"
 Ja:De K t.Dw "writing"
 Qw:Meth K t.Dw "wide" t.Av
 Qx:Meth K t.Dw "high" t.Aw
 Qy:Meth K t.Dw "sign" t.Be
 Ol:Meth K t.Dw "cloth" t.Al
 Qz:Meth K t.Dw "told" t.An
 A0U:mg "Back" = some (.ref t.Gh)
 AtS:L2.Own K t.Gh t.Fe
 Mp:De K t.Gh "texts"
 Js:De K t.Gh "writing"
 RM:Meth K t.Gh "wide" t.Av
 RN:Meth K t.Gh "high" t.Aw
 RP:Meth K t.Gh "sign" t.Be
 Q0:Meth K t.Gh "cloth" t.Al
 RQ:Meth K t.Gh "told" t.An
 Awe:mg "Quarter" = some (.ref t.BR)
 Aj1:L2.Own K t.BR t.CZ
 Jb:De K t.BR "texts"
 Hc:De K t.BR "writing"
 Lz:Meth K t.BR "wide" t.Av
 LC:Meth K t.BR "high" t.Aw
 LK:Meth K t.BR "sign" t.Be
 Kh:Meth K t.BR "cloth" t.Al
 LQ:Meth K t.BR "told" t.An
 A0V:mg "Tile" = some (.ref t.FQ)
 AtT:L2.Own K t.FQ t.Ff
 Mq:De K t.FQ "texts"
 Jt:De K t.FQ "writing"
 RT:Meth K t.FQ "wide" t.Av
 RW:Meth K t.FQ "high" t.Aw
 RX:Meth K t.FQ "sign" t.Be
 Q3:Meth K t.FQ "cloth" t.Al
 RZ:Meth K t.FQ "told" t.An
 Ax6:mg "Blocks" = some (.ref t.Cr)
 AmS:L2.Own K t.Cr t.Dt
 Ju:De K t.Cr "texts"
 HQ:De K t.Cr "writing"
 Om:Meth K t.Cr "wide" t.Av
 Oo:Meth K t.Cr "high" t.Aw
 Oq:Meth K t.Cr "sign" t.Be
 LR:Meth K t.Cr "cloth" t.Al
 Ot:Meth K t.Cr "told" t.An
 A2K:mg "Lay" = some (.ref t.Je)
 Ax7:L2.Own K t.Je t.FT
 O7:De K t.Je "texts"
 Kl:De K t.Je "writing"
 Ve:Meth K t.Je "wide" t.Av
 Vf:Meth K t.Je "high" t.Aw
 Vg:Meth K t.Je "sign" t.Be
 Sh:Meth K t.Je "cloth" t.Al
 Vh:Meth K t.Je "told" t.An
 Ax8:mg "Reader" = some (.ref t.Br)
 Bx:L2.Own K t.Br t.Du
 FZ:De K t.Br "text"
 Cu:De K t.Br "place"
 Km:A2p K t.BP "__init__" t.Ba
 Azm:mg "WORDS" = some (.ref t.Aby)
 Azn:A2t K t.Aby (["rows", "twill", "satin", "beside", "above", "mirror", "upend", "back", "quarter", "tile", "blocks", "lay"]:List Str)
 As2:mg "THINGS" = some (.ref t.Vd)
 As3:Top K t.Vd ([("twill", "nn"),("satin", "nn"),("beside", "pp"),("above", "pp"),("mirror", "p"),("upend", "p"),("back", "p"),("quarter", "p"),("tile", "pnn"),("blocks", "ppp"),("lay", "pp")]:List (Str × Str))
 Ca:Mf K "__init__" "Piece.__init__" DY ["self", "texts", "writing"] t.BP t.Ba t.BV
 GC:Mf K "wide" "Piece.wide" Hk ["self"] t.BP t.Av t.K8
 GD:Mf K "high" "Piece.high" Hl ["self"] t.BP t.Aw t.K9
 Azo:Mf K "sign" "Piece.sign" Ie ["self", "x", "y"] t.BP t.Be t.Aq9
 Dc:Mf K "cloth" "Piece.cloth" Gv ["self"] t.BP t.Al t.Fb
 Dz:Mf K "told" "Piece.told" Hm ["self"] t.BP t.An t.Gb
 Aa7:Mf K "__init__" "Named.__init__" Ea ["self", "name", "known_cloth"] t.Dl t.Ef t.Tr
 Acv:Mf K "__init__" "Rows.__init__" DQ ["self", "runs"] t.FP t.Fd t.Vn
 Aa8:Mf K "__init__" "Twill.__init__" Dg ["self", "over", "under"] t.Dm t.Eg t.Tt
 Aa9:Mf K "__init__" "Satin.__init__" CK ["self", "size", "step"] t.Dp t.Eh t.Tu
 Yl:Mf K "__init__" "Beside.__init__" CQ ["self", "one", "other"] t.Cv t.Dq t.R4
 AaA:Mf K "__init__" "Above.__init__" Eb ["self", "one", "other"] t.Dv t.Ei t.Tv
 Ym:Mf K "__init__" "Mirror.__init__" CT ["self", "inner"] t.Cw t.Dr t.R5
 AaB:Mf K "__init__" "Upend.__init__" Ec ["self", "inner"] t.Dw t.Ej t.Tw
 Acw:Mf K "__init__" "Back.__init__" Ey ["self", "inner"] t.Gh t.Fe t.Vo
 WQ:Mf K "__init__" "Quarter.__init__" CW ["self", "inner"] t.BR t.CZ t.Rc
 Acx:Mf K "__init__" "Tile.__init__" Ez ["self", "inner", "across", "along"] t.FQ t.Ff t.Vp
 Yn:Mf K "__init__" "Blocks.__init__" Dj ["self", "profile", "one", "other"] t.Cr t.Dt t.R6
 Adh:Mf K "__init__" "Lay.__init__" FJ ["self", "upper", "lower"] t.Je t.FT t.WK
 Yo:Mf K "__init__" "Reader.__init__" Dk ["self", "text"] t.Br t.Du t.R7
 Ou:Mf K "ended" "Reader.ended" FN ["self"] t.Br t.FW t.R8
 El:Mf K "took" "Reader.took" Gw ["self", "wanted"] t.Br t.Fg t.Ml
 Ar:Mf K "stretch" "Reader.stretch" Ed ["self", "signs"] t.Br t.BJ t.Ek
 Vv:Mf K "number" "Reader.number" EY ["self"] t.Br t.Gd t.Vq
theorem bl1{fd:FuncData}{ps:List Str}(h:∀ a0:Value,bindArgs fd ⟨[a0],[]⟩=pure (ps.zip [a0]))(us:List Value)(hl:us.length=1):bindArgs fd ⟨us,[]⟩=pure (ps.zip us):=by
 rcases us with _ | ⟨a0,us⟩
 ·cases hl
 rcases us with _ | ⟨b,us⟩
 ·exact h a0
 ·cases hl
theorem bl2{fd:FuncData}{ps:List Str}(h:∀ a0 a1:Value,bindArgs fd ⟨[a0,a1],[]⟩=pure (ps.zip [a0,a1]))(us:List Value)(hl:us.length=2):bindArgs fd ⟨us,[]⟩=pure (ps.zip us):=by
 rcases us with _ | ⟨a0,us⟩
 ·cases hl
 rcases us with _ | ⟨a1,us⟩
 ·cases hl
 rcases us with _ | ⟨b,us⟩
 ·exact h a0 a1
 ·cases hl
theorem bl3{fd:FuncData}{ps:List Str}(h:∀ a0 a1 a2:Value,bindArgs fd ⟨[a0,a1,a2],[]⟩=pure (ps.zip [a0,a1,a2]))(us:List Value)(hl:us.length=3):bindArgs fd ⟨us,[]⟩=pure (ps.zip us):=by
 rcases us with _ | ⟨a0,us⟩
 ·cases hl
 rcases us with _ | ⟨a1,us⟩
 ·cases hl
 rcases us with _ | ⟨a2,us⟩
 ·cases hl
 rcases us with _ | ⟨b,us⟩
 ·exact h a0 a1 a2
 ·cases hl
theorem bl4{fd:FuncData}{ps:List Str}(h:∀ a0 a1 a2 a3:Value,bindArgs fd ⟨[a0,a1,a2,a3],[]⟩=pure (ps.zip [a0,a1,a2,a3]))(us:List Value)(hl:us.length=4):bindArgs fd ⟨us,[]⟩=pure (ps.zip us):=by
 rcases us with _ | ⟨a0,us⟩
 ·cases hl
 rcases us with _ | ⟨a1,us⟩
 ·cases hl
 rcases us with _ | ⟨a2,us⟩
 ·cases hl
 rcases us with _ | ⟨a3,us⟩
 ·cases hl
 rcases us with _ | ⟨b,us⟩
 ·exact h a0 a1 a2 a3
 ·cases hl
section
variable {P:Program}{w:World}{K:PySem.W.Frag}{mg:Str→Option Value}{base:Heap}{t:Adr}
def A1v (z:Str):Sp:=fun vs H Q _=>∃ v,vs=[v]∧Q (.str z) H
end
seal PE PT PW PA PS PSs PC PG PGs A3w PIp A3z PIE PI PO PEX PSX A0x
section
variable {P:Program}{w:World}{K:PySem.W.Frag}{mg:Str→Option Value}{base:Heap}{t:Adr}
def rf (u:List Nat)(p:Nat):List (Str × V):=[("text", .str (tx u)),("place", .int (p:Int))]
def Rd (t:Adr)(H:Hp)(r dx:Addr)(u:List Nat)(p:Nat):Prop:=H r=some (.ins t.Br dx (rf u p))∧p≤u.length∧u.length≤1000000
theorem AhQ(u:List Nat)(p:Nat):(rf u p).lookup ("text" : Str)=some (V.str (tx u)):=rfl
theorem Vi(u:List Nat)(p:Nat):(rf u p).lookup ("place" : Str)=some (V.int (p:Int)):=rfl
theorem A0W(u:List Nat)(p q:Nat):Abt "place" (.int (q:Int)) (rf u p)=rf u q:=rfl
theorem big{n:Nat}(h:n≤1000000):n≤sizeLine:=A5X h (by decide)
def Ax9 (t:Adr):Sp:=fun vs H Q _=>∃ r dx u p,vs=[.ref r]∧Rd t H r dx u p∧Q (.bl (decide (p=u.length))) H
theorem Acy(T:Txt K mg t):Aq P w K mg base CX0 1 t.FW t.R8 ["self"] (Ax9 t):=by
 refine T.Ou.F.ok Al7 (fun vs H Q E h=>?_) (fun cdv A outer s H vs Q E hr h=>?_)
 ·obtain⟨r,dx,u,p,rfl,_⟩:=h
  rfl
 ·obtain⟨r,dx,u,p,rfl,⟨hr1,hp,hu⟩,k⟩:=h
  refine⟨_,(Ag (Bm (Ox GJ (Mx (K:=K) (pv 0) rfl) (Bw Dd rfl T.Jg Gg (Aa (Mx (K:=K) (pv 0) rfl) Ac)) (Bh _)))),?_⟩
  refine⟨_,rfl,_,_,_,_,_,rfl,hr1,T.Bx.c,T.Cu,Vi u p,?_⟩
  refine⟨_,rfl,_,_,_,_,_,rfl,hr1,T.Bx.c,T.FZ,AhQ u p,?_⟩
  refine⟨_,rfl,(by rw[Ao];exact big hu),rfl,?_⟩
  have e:decide (V.int (p:Int)=V.int ((tx u).length:Int))=decide (p=u.length):=by
   rw[Ao]
   apply decide_eq_decide.mpr
   constructor
   ·intro z;injection z with z;omega
   ·intro z;rw[z]
  rw[e]
  exact k
def Azp (t:Adr):Sp:=fun vs H Q _=>∃ r dx u p v,vs=[.ref r,.str (tx v)]∧Rd t H r dx u p∧v.length≤100 ∧
 ((u.drop p).take v.length=v→Q (.bl true) (upd H r (.ins t.Br dx (rf u (p+v.length)))))∧((u.drop p).take v.length≠v→Q (.bl false) H)
theorem AuZ{u:List Nat}{p n:Nat}(h:p≤u.length):Ags u (some (p:Int)) (some ((p:Int)+(n:Int)))=(u.drop p).take n:=by
 unfold Ags
 rw[show((p:Int)+(n:Int))=((p+n:Nat):Int) by omega,HT.Ah4,HT.Ah4,A6N h]
 by_cases h2:p+n≤u.length
 ·rw[A6N h2,Nat.add_sub_cancel_left]
 ·rw[Nat.min_eq_right (by omega),A6w (by rw[A6l];omega),A6w (by rw[A6l];omega)]
theorem Sq(T:Txt K mg t):Aq P w K mg base CX0 1 t.Fg t.Ml ["self", "wanted"] (Azp t):=by
 refine T.El.F.ok AcY (fun vs H Q E h=>?_) (fun cdv A outer s H vs Q E hr h=>?_)
 ·obtain⟨r,dx,u,p,v,rfl,_⟩:=h
  rfl
 ·obtain⟨r,dx,u,p,v,rfl,⟨hr1,hp,hu⟩,hv,k1,k2⟩:=h
  refine⟨_,(Ae (CP (i:=2) AcY.nd rfl (Or.inl rfl) (Bo Mr (Mx (K:=K) (pv 0) rfl) (Bw Dd rfl T.Jg Gg (Aa (pv 1) Ac))))
   (Ae (Ck (Az Ah2 (Lw ZJ (Mx (K:=K) (pv 0) rfl) (Mu (Mx (K:=K) (pv 0) rfl)) (Mu (pv 2))) (pv 1) (Bh _))
    (Ag (Bm AuA))
    Bf)
   (Ae (Ah8 (K:=K) (pv 0) (pv 2))
   (Ag (Bm AuA))))),?_⟩
  refine⟨_,rfl,_,_,_,_,_,rfl,hr1,T.Bx.c,T.Cu,Vi u p,_,rfl,_,rfl,(by rw[Ao];exact big (by omega)),_,_,rfl,rfl,?_⟩
  rw[Ao]
  refine⟨_,rfl,_,_,_,_,_,rfl,hr1,T.Bx.c,T.FZ,AhQ u p,?_⟩
  refine⟨_,rfl,_,_,_,_,_,rfl,hr1,T.Bx.c,T.Cu,Vi u p,_,rfl,_,rfl,_,rfl,u,rfl,big hu,_,rfl,rfl,_,rfl,?_⟩
  rw[AuZ hp]
  by_cases hc:(u.drop p).take v.length=v
  ·refine Ah5 (by rw[hc]) ?_
   refine⟨_,rfl,_,rfl,_,_,_,_,rfl,hr1,T.Bx.c,T.Cu,(by show 2<1000;decide),?_⟩
   show Q (.bl true) (upd H r (.ins t.Br dx (Abt ("place" : Str) (.int ((p:Int)+(v.length:Int))) (rf u p))))
   rw[show((p:Int)+(v.length:Int))=((p+v.length:Nat):Int) by omega,A0W]
   exact k1 hc
  ·refine ArY (fun z=>hc (by injection z with z;exact W0 z)) ?_
   exact k2 hc
def dg (c:Nat):Bool:=decide (48≤c∧c≤57)
def A5y (l:List Nat):List Nat:=l.takeWhile dg
def AxA (v:List Nat):V:=if (1≤v.length∧v.length≤2)∧¬(v.length=2∧v[0]?=some 48) then .int ((PySem.NumText.digitsVal v:Nat):Int) else .non
theorem AxB{H:Hp}{r:Addr}{o:HO}(h:H r=some o):upd H r o=H:=by
 funext b
 unfold upd
 split
 next e=>rw[e,h]
 next=>rfl
theorem z48(c:Nat):(V.str ⟨#[c]⟩:V)=V.str "0" ↔ c=48:=by
 have e:(("0" : Str))=tx [48]:=by decide +kernel
 rw[e]
 exact⟨fun z=>by injection z with z;exact(List.cons.inj (W0 (a:=[c]) (b:=[48]) z)).1,fun z=>by rw[z];rfl⟩
def AxC:Sp:=fun vs H Q _=>∃ v:List Nat,vs=[.str (tx v)]∧(∀ c∈v,48≤c∧c≤57)∧v.length≤1000000∧Q (AxA v) H
theorem AqI(T:Txt K mg t):Aq P w K mg base CX0 1 t.Kz t.Adb ["figures"] AxC:=by
 refine T.AeN.F.ok Aq8 (fun vs H Q E h=>?_) (fun cdv A outer s H vs Q E hr h=>?_)
 ·obtain⟨v,rfl,_⟩:=h
  rfl
 ·obtain⟨v,rfl,hd,hl,k⟩:=h
  have sz:(tx v).length≤sizeLine:=by rw[Ao];exact big hl
  refine⟨_,(Ae (Ck (PW.pt (pw_or (Az Ww (Bw Dd rfl T.Jg Gg (Aa (pv 0) Ac)) Am (Bh _)) (pw_or1 (Az Yb (Bw Dd rfl T.Jg Gg (Aa (pv 0) Ac)) Am (Bh _)))))
    (Ag (Bm Abr))
    Bf)
   (Ae (Ck (PW.pt (pw_and (Az GJ (Bw Dd rfl T.Jg Gg (Aa (pv 0) Ac)) Am (Bh _)) (pw_and1 (Az GJ (Ge Amy (pv 0) Am (fun _ _=>rfl)) Af (Bh _)))))
    (Ag (Bm Abr))
    Bf)
   (Ag (Bm (Er AvJ rfl T.As0 Am9 (Aa (pv 0) Ac)))))),?_⟩
  unfold AxA at k
  refine⟨_,rfl,_,rfl,sz,_,_,rfl,rfl,_,rfl,?_⟩
  rw[Ao]
  refine Hu (fun c1=>?_) (fun c1=>?_)
  ·refine Tn ?_
   rw[if_neg (by omega)] at k
   exact k
  ·refine⟨_,rfl,_,rfl,sz,_,_,rfl,rfl,_,rfl,?_⟩
   rw[Ao]
   refine Hu (fun c2=>?_) (fun c2=>?_)
   ·rw[if_neg (by omega)] at k
    exact k
   ·refine⟨_,rfl,_,rfl,sz,rfl,_,rfl,?_⟩
    rw[Ao]
    have fin:¬(v.length=2∧v[0]?=some 48)→∃ z n,[V.str (tx v)]=[V.str z]∧PySem.intText? z=some n∧z.length≤640∧Q (.int n) H:=fun c3=>by
     rw[if_pos ⟨by omega,c3⟩] at k
     refine⟨tx v,_,rfl,PySem.intText_digits (x:=tx v) (by rw[Q6];exact hd) (by rw[Q6];intro z;rw[z] at c1;simp at c1) (by rw[Ao];omega),by rw[Ao];omega,?_⟩
     rw[Q6]
     exact k
    refine Hu (fun c3=>?_) (fun c3=>?_)
    ·have l2:v.length=2:=by injection c3 with c3;omega
     have h0:0<v.length:=by omega
     refine⟨_,rfl,_,_,v[0],rfl,rfl,sz,Fi (by decide) (by rw[Q6];exact A5L h0),rfl,_,rfl,?_⟩
     refine Hu (fun c4=>?_) (fun c4=>?_)
     ·rw[if_neg (fun z=>z.2 ⟨l2,by rw[A5L h0,(z48 _).mp c4]⟩)] at k
      exact k
     ·exact⟨_,rfl,fin fun z=>c4 ((z48 _).mpr (by have:=z.2;rw[A5L h0] at this;exact Option.some.inj this))⟩
    ·exact ZF ⟨_,rfl,fin fun z=>c3 (by rw[z.1];rfl)⟩
theorem Jl(u:List Nat)(p:Nat):(rf u p).lookup ("ended" : Str)=none∧(rf u p).lookup ("took" : Str)=none∧(rf u p).lookup ("number" : Str)=none∧(rf u p).lookup ("stretch" : Str)=none:=⟨rfl,rfl,rfl,rfl⟩
def A3j:Sp:=fun vs H Q _=>∃(C r dx:Addr) (u:List Nat),vs=[.ref r,.str (tx u)]∧H r=some (.ins C dx [])∧Q .non (upd H r (.ins C dx (rf u 0)))
theorem Ag2(T:Txt K mg t):Aq P w K mg base CX0 1 t.Du t.R7 ["self", "text"] (fun vs H Q E=>∃(r dx:Addr) (u:List Nat),vs=[.ref r,.str (tx u)]∧H r=some (.ins t.Br dx [])∧Q .non (upd H r (.ins t.Br dx (rf u 0)))):=by
 refine T.Yo.F.ok Agw (fun vs H Q E h=>?_) (fun cdv A outer s H vs Q E hr h=>?_)
 ·obtain⟨r,dx,u,rfl,_⟩:=h
  rfl
 ·obtain⟨r,dx,u,rfl,h1,k⟩:=h
  refine⟨_,(Ae (Ah8 (K:=K) (pv 0) (pv 1))
   (Ag (Ah8 (K:=K) (pv 0) Am))),?_⟩
  refine⟨_,rfl,_,rfl,_,_,_,_,rfl,h1,T.Bx.c,T.FZ,(by decide),?_⟩
  refine⟨_,rfl,_,_,_,_,rfl,Ad,T.Bx.c,T.Cu,(by show 1<1000;decide),?_⟩
  rw[Ow]
  exact k
def stp (sg l:List Nat):List Nat:=l.takeWhile fun c=>decide (c∈sg)
theorem AxD{sg:List Nat}:∀(l:List Nat) (n:Nat),n≤l.length→(∀ c∈l.take n,c∈sg)→(∀ c,l[n]?=some c→c∉sg)→stp sg l=l.take n
 | [],n,h,_,_=>by simp[stp]
 | c::l,0,_,_,h2=>by
  unfold stp
  rw[A6W,if_neg (by rw[decide_eq_true_eq];exact h2 c rfl)]
  rfl
 | c::l,n+1,h,h1,h2=>by
  have hc:c∈sg:=h1 c (by simp)
  have:=AxD (sg:=sg) l n (by simpa using h) (fun d hd=>h1 d (by rw[List.take_succ_cons];exact A6h _ hd)) (fun d hd=>h2 d (by simpa using hd))
  unfold stp at this ⊢
  rw[A6W,if_pos (decide_eq_true hc),this,List.take_succ_cons]
theorem Ava(sg:List Nat):∀(l:List Nat),(∀ c∈stp sg l,c∈sg)∧(stp sg l).length≤l.length
 | []=>⟨fun c hc=>(by cases hc),A5K _⟩
 | a::l=>by
  have ih:=Ava sg l
  unfold stp at ih ⊢
  rw[A6W]
  by_cases h:a∈sg
  ·rw[if_pos (decide_eq_true h)]
   refine⟨fun c hc=>?_,by simp only [A5N];omega⟩
   rcases List.mem_cons.mp hc with e | e
   ·rw[e];exact h
   ·exact ih.1 c e
  ·rw[if_neg (by rw[decide_eq_true_eq];exact h)]
   exact⟨fun c hc=>(by cases hc),A6c _⟩
theorem As4(sg:List Nat)(c:Nat):(!(Builtin.Str.occurrences (tx sg) ⟨#[c]⟩ 0 (tx sg).length 1).isEmpty)=decide (c∈sg):=by
 rw[StrLaws.found_one,Q6]
def AtU (t:Adr):Sp:=fun vs H Q _=>∃ r dx u p sg,vs=[.ref r,.str (tx sg)]∧Rd t H r dx u p∧sg.length≤1000∧Q (.str (tx (stp sg (u.drop p)))) (upd H r (.ins t.Br dx (rf u (p+(stp sg (u.drop p)).length))))
theorem Fw(T:Txt K mg t):Aq P w K mg base CX0 2 t.BJ t.Ek ["self", "signs"] (AtU t):=by
 have WR:Aq P w K mg base CX0 1 t.FW t.R8 _ _:=Acy T
 refine T.Ar.F.ok Yc (fun vs H Q E h=>?_) (fun cdv A outer s H vs Q E hr h=>?_)
 ·obtain⟨r,dx,u,p,sg,rfl,_⟩:=h
  rfl
 ·obtain⟨r,dx,u,p,sg,rfl,⟨hr1,hp,hu⟩,hsg,k⟩:=h
  refine⟨_,(Ae (CP (i:=2) Yc.nd rfl (Or.inl rfl) (Mx (K:=K) (pv 0) rfl))
   (Ae (ArN PassesOwn.never (PW.pt (pw_and (Wu (Rx (Amw (pv 0) T.Bx.c T.Ou.m (WR.mono (by decide)) hr T.Ou.b .nil Ax))) (pw_and1 (Az ApD (Ge Amy (Mx (K:=K) (pv 0) rfl) (Mx (K:=K) (pv 0) rfl) (fun _ _=>rfl)) (pv 1) rfl))))
    (Ag (At2 (K:=K) (pv 0) Am A0l)))
   (Ag (Bm (Lw ZJ (Mx (K:=K) (pv 0) rfl) (Mu (pv 2)) (Mu (Mx (K:=K) (pv 0) rfl))))))),?_⟩
  refine⟨_,rfl,_,_,_,_,_,rfl,hr1,T.Bx.c,T.Cu,Vi u p,?_⟩
  refine⟨fun m σ H2=>∃ n,σ=[some (.ref r),some (.str (tx sg)),some (.int (p:Int))]∧H2=upd H r (.ins t.Br dx (rf u (p+n)))∧p+n≤u.length∧(∀ c∈(u.drop p).take n,c∈sg)∧m=u.length-(p+n),
   ⟨_,0,rfl,(AxB hr1).symm,hp,(fun c hc=>by simp at hc),rfl⟩,?_⟩
  rintro m σ H2 ⟨n,rfl,rfl,hn,ha,rfl⟩
  have hS:(upd H r (.ins t.Br dx (rf u (p+n)))) r=some (.ins t.Br dx (rf u (p+n))):=Ad
  have done:(∀ c,(u.drop p)[n]?=some c→c∉sg)→(u.drop p).take n=stp sg (u.drop p):=fun hs=>(AxD _ n (by rw[A6l];omega) ha hs).symm
  have ln:((u.drop p).take n).length=n:=by rw[A5S,A6l];omega
  have e3:Ags u (some (p:Int)) (some ((p+n:Nat):Int))=(u.drop p).take n:=by rw[Int.natCast_add];exact AuZ hp
  have fin:(u.drop p).take n=stp sg (u.drop p)→Q (.str (tx (Ags u (some (p:Int)) (some ((p+n:Nat):Int))))) (upd H r (.ins t.Br dx (rf u (p+n)))):=fun e2=>by
   have e1:(stp sg (u.drop p)).length=n:=by rw[← e2,ln]
   rw[e3,e2];rw[e1] at k;exact k
  refine⟨_,rfl,r,dx,rf u (p+n),rfl,hS,(Jl u _).1,r,dx,u,p+n,rfl,⟨hS,hn,hu⟩,_,rfl,?_⟩
  by_cases c1:p+n=u.length
  ·rw[decide_eq_true c1]
   refine ZF ?_
   refine ZF ?_
   exact⟨_,rfl,_,_,_,_,_,rfl,hS,T.Bx.c,T.FZ,AhQ u _,_,rfl,_,rfl,_,rfl,_,_,_,_,_,rfl,hS,T.Bx.c,T.Cu,Vi u _,_,rfl,u,rfl,big hu,
    fin (done fun c hc=>by rw[A6L (by rw[A6l];omega)] at hc;cases hc)⟩
  ·rw[decide_eq_false c1]
   refine Tn ?_
   have hlt:p+n<u.length:=by omega
   refine⟨_,rfl,_,_,_,_,_,rfl,hS,T.Bx.c,T.FZ,AhQ u _,_,rfl,_,_,_,_,_,rfl,hS,T.Bx.c,T.Cu,Vi u _,_,_,u[p+n],rfl,rfl,(by rw[Ao];exact big hu),
    Fi (by omega) (by rw[A5Z,Q6];exact A5L hlt),_,rfl,_,_,rfl,rfl,_,rfl,?_⟩
   rw[As4]
   refine Hu (fun c2=>?_) (fun c2=>?_)
   ·refine⟨_,fun σ' H' h=>h,?_⟩
    refine⟨_,rfl,_,_,_,_,_,rfl,hS,T.Bx.c,T.Cu,Vi u _,_,_,rfl,rfl,dx,rf u (p+n),hS,(by show 2<1000;decide),?_⟩
    refine⟨u.length-(p+(n+1)),by omega,n+1,rfl,?_,by omega,fun c hc=>?_,rfl⟩
    ·rw[Ow]
     rfl
    ·rw[A6i,A7m,A5L hlt] at hc
     rcases List.mem_append.mp hc with h | h
     ·exact ha c h
     ·rw[show c=u[p+n] by simpa using h]
      exact c2
   ·exact⟨_,rfl,_,_,_,_,_,rfl,hS,T.Bx.c,T.FZ,AhQ u _,_,rfl,_,rfl,_,rfl,_,_,_,_,_,rfl,hS,T.Bx.c,T.Cu,Vi u _,_,rfl,u,rfl,big hu,
     fin (done fun c hc=>by rw[A7m,A5L hlt] at hc;cases hc;exact c2)⟩
def As5:List Nat:=[48,49,50,51,52,53,54,55,56,57]
theorem A0X:(("0123456789" : Str))=tx As5:=by decide +kernel
theorem As6{c:Nat}:c∈As5↔48≤c∧c≤57:=by
 unfold As5
 simp only [A5U,A5V,or_false]
 omega
def Awf (t:Adr):Sp:=fun vs H Q _=>∃ r dx u p,vs=[.ref r]∧Rd t H r dx u p∧Q (AxA (stp As5 (u.drop p))) (upd H r (.ins t.Br dx (rf u (p+(stp As5 (u.drop p)).length))))
theorem Aj2(T:Txt K mg t):Aq P w K mg base CX0 3 t.Gd t.Vq ["self"] (Awf t):=by
 have Bl:Aq P w K mg base CX0 2 t.BJ t.Ek _ _:=Fw T
 have As7:Aq P w K mg base CX0 1 t.Kz t.Adb _ _:=AqI T
 refine T.Vv.F.ok Ajv (fun vs H Q E h=>?_) (fun cdv A outer s H vs Q E hr h=>?_)
 ·obtain⟨r,dx,u,p,rfl,_⟩:=h
  rfl
 ·obtain⟨r,dx,u,p,rfl,hR,k⟩:=h
  refine⟨_,(Ag (Bm (Bc (As7.mono (by decide)) hr rfl T.AeN.m T.AeN.F.kp T.AeN.b .nil Ax (Aa (Hd (pv 0) T.Bx.c T.Ar.m (Bl.mono (by decide)) hr T.Ar.b .nil Ax (Aa (Cq (v:=.str "0123456789") rfl T.Awd.choose_spec ⟨_,rfl⟩) Ac)) Ac)))),?_⟩
  have hf:=Ava As5 (u.drop p)
  refine⟨_,rfl,r,dx,rf u p,rfl,hR.1,(Jl u p).2.2.2,r,dx,u,p,As5,(by rw[A0X];rfl),hR,(by decide),?_⟩
  exact⟨_,rfl,fun c hc=>As6.mp (hf.1 c hc),by have:=hR.2.2;have:=hf.2;rw[A6l] at this;omega,k⟩
def HF (r:Addr)(H H':Hp):Prop:=∀ b o,b≠r→H b=some o→H' b=some o
theorem HF.trans{r:Addr}{H H1 H2:Hp}(a:HF r H H1)(b:HF r H1 H2):HF r H H2:=fun c o n e=>b c o n (a c o n e)
theorem HF.upd{r:Addr}{H:Hp}{o:HO}:HF r H (L2.upd H r o):=fun b o' n e=>by rw[Bd n];exact e
def O8 (t:Adr)(H:Hp)(r dx:Addr)(u:List Nat)(p:Nat):Hp:=upd H r (.ins t.Br dx (rf u p))
theorem Adi{H:Hp}{r dx:Addr}{u:List Nat}{p q:Nat}(h:Rd t H r dx u p)(hq:q≤u.length):Rd t (O8 t H r dx u q) r dx u q:=⟨Ad,hq,h.2.2⟩
theorem Avb(f:Nat→Bool):∀ l:List Nat,l.drop (l.takeWhile f).length=l.dropWhile f
 | []=>rfl
 | a::l=>by
  rw[A6W,List.dropWhile_cons]
  by_cases h:f a=true
  ·rw[if_pos h,if_pos h,A5N,List.drop_succ_cons]
   exact Avb f l
  ·rw[if_neg h,if_neg h]
   rfl
theorem WT{sg:List Nat}{f:Nat→Bool}(h:∀ c,decide (c∈sg)=f c)(l:List Nat):stp sg l=l.takeWhile f:=by
 unfold stp
 rw[show(fun c=>decide (c∈sg))=f from funext h]
theorem A0Y(c:Nat):decide (c∈As5)=Pat.Rb c:=decide_eq_decide.mpr As6
theorem AkX(c:Nat):decide (c∈[32])=decide (c=32):=decide_eq_decide.mpr List.mem_singleton
theorem Adj:((" " : Str))=tx [32]:=by decide +kernel
theorem behind{u:List Nat}{p:Nat}(f:Nat→Bool)(hp:p≤u.length):u.drop (p+((u.drop p).takeWhile f).length)=(u.drop p).dropWhile f∧p+((u.drop p).takeWhile f).length≤u.length:=by
 refine⟨by rw[← List.drop_drop,Avb],?_⟩
 have h:=(List.takeWhile_prefix f (l:=u.drop p)).length_le
 rw[A6l] at h
 omega
theorem ApZ{f:List Nat}:Pat.ApU f=true↔((1≤f.length∧f.length≤2)∧¬(f.length=2∧f[0]?=some 48)):=by unfold Pat.ApU;exact decide_eq_true_iff
def Azq (t:Adr):Sp:=fun vs H Q E=>∃ r dx u p,vs=[.ref r]∧Rd t H r dx u p ∧
 (∀ n l p',Pat.num (u.drop p)=some (n,l)→p≤p'→p'≤u.length→u.drop p'=l→Q (.int ((n:Nat):Int)) (O8 t H r dx u p'))∧(Pat.num (u.drop p)=none→∀ H',HF r H H'→E (.ref t.Aj) none H')
theorem Al8(T:Txt K mg t):Aq P w K mg base (CX1 P w) 4 t.Ip t.ZP ["reader"] (Azq t):=by
 have Al9:Aq P w K mg base CX0 3 t.Gd t.Vq _ _:=Aj2 T
 have Bl:Aq P w K mg base CX0 2 t.BJ t.Ek _ _:=Fw T
 refine T.Yg.F.okX AcW (fun vs H Q E h=>?_) (fun cdv A outer s H vs Q E hr h=>?_)
 ·obtain⟨r,dx,u,p,rfl,_⟩:=h
  rfl
 ·obtain⟨r,dx,u,p,rfl,hR,k1,k2⟩:=h
  refine⟨_,(Ae (CP (i:=1) AcW.nd rfl (Or.inl rfl) (Amw (pv 0) T.Bx.c T.Vv.m (Al9.mono (by decide)) hr T.Vv.b .nil Ax))
   (Ae (Ck (Az Atq (pv 1) Abr (Bh _))
    (Ag (Eu Kv rfl (fun _ _ z=>z) PySem.F.excBase_ValueError Jc PySem.F.excBase_ValueError T.BK.q rfl T.Cm (Aa Af Ac)))
    Bf)
   (Ae (BX (Hd (pv 0) T.Bx.c T.Ar.m (Bl.mono (by decide)) hr T.Ar.b .nil Ax (Aa Af Ac)))
   (Ag (Bm (pv 1)))))),?_⟩
  refine⟨_,rfl,r,dx,rf u p,rfl,hR.1,(Jl u p).2.2.1,r,dx,u,p,rfl,hR,?_⟩
  show ∃ _,_
  rw[WT A0Y]
  have b1:=behind Pat.Rb hR.2.1
  unfold Pat.num at k1 k2
  by_cases c:Pat.ApU ((u.drop p).takeWhile Pat.Rb)=true
  ·rw[if_pos c] at k1
   rw[show AxA ((u.drop p).takeWhile Pat.Rb)=.int ((PySem.NumText.digitsVal ((u.drop p).takeWhile Pat.Rb):Nat):Int) from if_pos (ApZ.mp c)]
   refine⟨_,rfl,rfl,_,rfl,?_⟩
   refine Ht (fun z=>nomatch z) ?_
   have hR2:=Adi hR b1.2
   refine⟨_,rfl,r,dx,rf u _,rfl,hR2.1,(Jl u _).2.2.2,r,dx,u,_,[32],(by rw[Adj];rfl),hR2,(by decide),?_⟩
   rw[WT AkX,Ow]
   have b2:=behind (fun c=>decide (c=32)) b1.2
   show ∃ _,_
   refine⟨_,rfl,?_⟩
   exact k1 _ _ _ rfl (by omega) b2.2 (by rw[b2.1,b1.1];rfl)
  ·rw[if_neg c] at k2
   rw[show AxA ((u.drop p).takeWhile Pat.Rb)=.non from if_neg fun z=>c (ApZ.mpr z)]
   refine⟨_,rfl,rfl,_,rfl,?_⟩
   refine Mw rfl ?_
   exact⟨by decide,k2 rfl _ HF.upd⟩
theorem Aj3:(("," : Str))=tx [44]:=by decide +kernel
theorem AhR{c a:Nat}{v:List Nat}:Pat.one c (a::v)=if a=c then some v else none:=rfl
theorem Adk{u:List Nat}{p c:Nat}:(u.drop p).take [c].length=[c]↔∃ l,Pat.one c (u.drop p)=some l:=by
 cases e:u.drop p with
 | nil=>exact⟨fun z=>by simp at z,fun⟨l,z⟩=>by simp[Pat.one] at z⟩
 | cons a v =>
  constructor
  ·intro z
   have h:a=c:=by simpa using z
   exact⟨v,by rw[AhR,if_pos h]⟩
  ·rintro⟨l,z⟩
   rw[AhR] at z
   by_cases h:a=c
   ·rw[h];rfl
   ·rw[if_neg h] at z;cases z
theorem AhS{u l:List Nat}{p c:Nat}(h:Pat.one c (u.drop p)=some l):u.drop (p+[c].length)=l∧p+[c].length≤u.length:=by
 cases e:u.drop p with
 | nil=>rw[e] at h;simp[Pat.one] at h
 | cons a v =>
  rw[e] at h
  rw[AhR] at h
  by_cases ha:a=c
  ·rw[if_pos ha] at h
   have hl:=congrArg List.length e
   rw[A6l,A5N] at hl
   refine⟨?_,by simp only [A5N,A6a];omega⟩
   rw[← List.drop_drop,e]
   exact Option.some.inj h
  ·rw[if_neg ha] at h;cases h
theorem AhT{u:List Nat}{p c:Nat}(h:(u.drop p).take [c].length≠[c]):Pat.one c (u.drop p)=none:=by
 cases e:Pat.one c (u.drop p) with
 | none=>rfl
 | some l=>exact absurd (Adk.mpr ⟨l,e⟩) h
def Awg (t:Adr):Sp:=fun vs H Q E=>∃ r dx u p,vs=[.ref r]∧Rd t H r dx u p ∧
 (∀ l p',Pat.comma (u.drop p)=some l→p≤p'→p'≤u.length→u.drop p'=l→Q .non (O8 t H r dx u p'))∧(Pat.comma (u.drop p)=none→∀ H',HF r H H'→E (.ref t.Aj) none H')
theorem AmT(T:Txt K mg t):Aq P w K mg base (CX1 P w) 3 t.J1 t.Ab2 ["reader"] (Awg t):=by
 have Hq:Aq P w K mg base CX0 1 t.Fg t.Ml _ _:=Sq T
 have Bl:Aq P w K mg base CX0 2 t.BJ t.Ek _ _:=Fw T
 refine T.Ab7.F.okX AoQ (fun vs H Q E h=>?_) (fun cdv A outer s H vs Q E hr h=>?_)
 ·obtain⟨r,dx,u,p,rfl,_⟩:=h
  rfl
 ·obtain⟨r,dx,u,p,rfl,hR,k1,k2⟩:=h
  refine⟨_,(Ae (Ck (Wu (Rx (Hd (pv 0) T.Bx.c T.El.m (Hq.mono (by decide)) hr T.El.b .nil Ax (Aa Af Ac))))
    (Ag (Eu Kv rfl (fun _ _ z=>z) PySem.F.excBase_ValueError Jc PySem.F.excBase_ValueError T.BK.q rfl T.Cm (Aa Af Ac)))
    Bf)
   (Ag (BX (Hd (pv 0) T.Bx.c T.Ar.m (Bl.mono (by decide)) hr T.Ar.b .nil Ax (Aa Af Ac))))),?_⟩
  unfold Pat.comma at k1 k2
  refine⟨_,rfl,r,dx,rf u p,rfl,hR.1,(Jl u p).2.1,r,dx,u,p,[44],(by rw[Aj3];rfl),hR,(by decide),fun AxE=>?_,fun hno=>?_⟩
  ·obtain⟨l,e⟩:=Adk.mp AxE
   have d:=AhS e
   have hR2:=Adi hR d.2
   refine⟨_,rfl,?_⟩
   refine ZF ?_
   refine⟨_,rfl,r,dx,rf u _,rfl,hR2.1,(Jl u _).2.2.2,r,dx,u,_,[32],(by rw[Adj];rfl),hR2,(by decide),?_⟩
   rw[WT AkX,Ow]
   have b2:=behind (fun c=>decide (c=32)) d.2
   rw[e] at k1
   exact k1 _ _ rfl (by omega) b2.2 (by rw[b2.1,d.1];rfl)
  ·refine⟨_,rfl,?_⟩
   refine Tn ?_
   exact⟨by decide,k2 (by rw[AhT hno];rfl) _ (fun b o _ e=>e)⟩
theorem Azr:(("#." : Str))=tx [35,46]:=by decide +kernel
theorem Azs(c:Nat):decide (c∈[35,46])=Pat.knot c:=decide_eq_decide.mpr (by simp only [A5U,A5V,or_false])
def Azt (t:Adr):Sp:=fun vs H Q E=>∃ r dx u p,vs=[.ref r]∧Rd t H r dx u p ∧
 (∀ z l p',Pat.run (u.drop p)=some (z,l)→p<p'→p'≤u.length→u.drop p'=l→Q (.str (tx z)) (O8 t H r dx u p'))∧(Pat.run (u.drop p)=none→∀ H',HF r H H'→E (.ref t.Aj) none H')
theorem AqJ(T:Txt K mg t):Aq P w K mg base (CX1 P w) 3 t.N6 t.Agy ["reader"] (Azt t):=by
 have Bl:Aq P w K mg base CX0 2 t.BJ t.Ek _ _:=Fw T
 refine T.WN.F.okX AkV (fun vs H Q E h=>?_) (fun cdv A outer s H vs Q E hr h=>?_)
 ·obtain⟨r,dx,u,p,rfl,_⟩:=h
  rfl
 ·obtain⟨r,dx,u,p,rfl,hR,k1,k2⟩:=h
  refine⟨_,(Ae (CP (i:=1) AkV.nd rfl (Or.inl rfl) (Hd (pv 0) T.Bx.c T.Ar.m (Bl.mono (by decide)) hr T.Ar.b .nil Ax (Aa Af Ac)))
   (Ae (Ck (Az GJ (pv 1) Af (Bh _))
    (Ag (Eu Kv rfl (fun _ _ z=>z) PySem.F.excBase_ValueError Jc PySem.F.excBase_ValueError T.BK.q rfl T.Cm (Aa Af Ac)))
    Bf)
   (Ae (BX (Hd (pv 0) T.Bx.c T.Ar.m (Bl.mono (by decide)) hr T.Ar.b .nil Ax (Aa Af Ac)))
   (Ag (Bm (pv 1)))))),?_⟩
  unfold Pat.run at k1 k2
  have b1:=behind Pat.knot hR.2.1
  refine⟨_,rfl,r,dx,rf u p,rfl,hR.1,(Jl u p).2.2.2,r,dx,u,p,[35,46],(by rw[Azr];rfl),hR,(by decide),?_⟩
  rw[WT Azs]
  refine⟨_,rfl,rfl,_,rfl,?_⟩
  by_cases c:(u.drop p).takeWhile Pat.knot=[]
  ·rw[if_pos c] at k2
   refine Mw (by rw[c];decide +kernel) ?_
   exact⟨by decide,k2 rfl _ HF.upd⟩
  ·rw[if_neg c] at k1
   have hR2:=Adi hR b1.2
   refine Ht (fun z=>c ?_) ?_
   ·have e:(("" : Str))=tx []:=by decide +kernel
    rw[e] at z
    injection z with z
    exact W0 z
   refine⟨_,rfl,r,dx,rf u _,rfl,hR2.1,(Jl u _).2.2.2,r,dx,u,_,[32],(by rw[Adj];rfl),hR2,(by decide),?_⟩
   rw[WT AkX,Ow]
   have b2:=behind (fun c=>decide (c=32)) b1.2
   have l0:0<((u.drop p).takeWhile Pat.knot).length:=List.length_pos_iff.mpr c
   refine⟨_,rfl,?_⟩
   exact k1 _ _ _ rfl (by omega) b2.2 (by rw[b2.1,b1.1];rfl)
theorem AxF(l:List Nat):(Pat.sk l).length≤l.length:=(A7n _).length_le
theorem AxG{c:Nat}{l l1:List Nat}(h:Pat.one c l=some l1):l1.length<l.length:=by
 cases l with
 | nil=>simp[Pat.one] at h
 | cons a v =>
  rw[AhR] at h
  by_cases ha:a=c
  ·rw[if_pos ha] at h
   rw[← Option.some.inj h,A5N]
   omega
  ·rw[if_neg ha] at h;cases h
theorem AxH{l z l2:List Nat}(h:Pat.run l=some (z,l2)):l2.length≤l.length:=by
 unfold Pat.run at h
 split at h
 ·cases h
 ·injection h with h
  injection h with _ h
  rw[← h]
  exact A5X (AxF _) (A7n _).length_le
theorem Aqa:∀(k k':Nat) (l:List Nat),l.length<k→l.length<k'→Pat.Hv k l=Pat.Hv k' l
 | 0,_,_,h,_=>by omega
 | _+1,0,_,_,h=>by omega
 | k+1,k'+1,l,h1,h2=>by
  unfold Pat.Hv
  cases e:Pat.one 44 l with
  | none=>rfl
  | some l1 =>
   cases e2:Pat.run (Pat.sk l1) with
   | none=>simp only [e2]
   | some q =>
    obtain⟨z,l2⟩:=q
    have a:=AxG e
    have b:=AxH e2
    have c:=AxF l1
    simp only [e2]
    rw[Aqa k k' l2 (by omega) (by omega)]
def more(l:List Nat):Option (List (List Nat) × List Nat):=Pat.Hv (l.length+1) l
theorem AxI{l:List Nat}(h:Pat.one 44 l=none):more l=some ([],l):=by
 unfold more Pat.Hv
 rw[h]
theorem AxJ{l l1:List Nat}(h:Pat.one 44 l=some l1)(h2:Pat.run (Pat.sk l1)=none):more l=none:=by
 unfold more Pat.Hv
 rw[h]
 simp only [h2]
theorem Awh{l l1 z l2:List Nat}(h:Pat.one 44 l=some l1)(h2:Pat.run (Pat.sk l1)=some (z,l2)):more l=(more l2).map fun p=>(z::p.1,p.2):=by
 have a:=AxG h
 have b:=AxH h2
 have c:=AxF l1
 unfold more
 rw[Aqa (l2.length+1) l.length l2 (by omega) (by omega)]
 conv=>lhs;unfold Pat.Hv
 rw[h]
 simp only [h2]
def Afx (done:List (List Nat))(l:List Nat):Option (List (List Nat) × List Nat):=match more l with
 | none=>none
 | some (rs,l2)=>if (done++rs).length>40 then none else some (done++rs,l2)
theorem Aq5{l z l1:List Nat}(h:Pat.run l=some (z,l1)):Pat.runs l=Afx [z] l1:=by
 unfold Pat.runs Afx more
 rw[h]
 rfl
theorem AxK{done:List (List Nat)}{l l1 z l2:List Nat}(h:Pat.one 44 l=some l1)(h2:Pat.run (Pat.sk l1)=some (z,l2)):Afx done l=Afx (done++[z]) l2:=by
 unfold Afx
 rw[Awh h h2]
 cases more l2 with
 | none=>rfl
 | some q =>
  obtain⟨rs,l3⟩:=q
  simp only [Option.map_some,A6S,List.singleton_append]
def AxL (t:Adr):Sp:=fun vs H Q E=>∃ r dx u p,vs=[.ref r]∧Rd t H r dx u p ∧
 (∀ zs l p' q,Pat.runs (u.drop p)=some (zs,l)→p≤p'→p'≤u.length→u.drop p'=l→H q=none→q≠r→Q (.ref q) (upd (O8 t H r dx u p') q (.lst (vS zs))))∧(Pat.runs (u.drop p)=none→∀ H',HF r H H'→E (.ref t.Aj) none H')
theorem swp{H:Hp}{r dx q:Addr}{u:List Nat}{p1 p2:Nat}{o:HO}(h:q≠r):upd (upd (O8 t H r dx u p1) q o) r (.ins t.Br dx (rf u p2))=upd (O8 t H r dx u p2) q o:=by
 funext b
 show upd (upd (upd H r _) q _) r _ b=upd (upd H r _) q _ b
 by_cases e1:b=r
 ·rw[e1,Ad,Bd h.symm,Ad]
 ·by_cases e2:b=q
  ·rw[e2,Bd h,Ad,Ad]
  ·rw[Bd e1,Bd e2,Bd e1,Bd e2,Bd e1]
theorem AoU(T:Txt K mg t):Aq P w K mg base (CX1 P w) 4 t.K1 t.Adc ["reader"] (AxL t):=by
 have Hq:Aq P w K mg base CX0 1 t.Fg t.Ml _ _:=Sq T
 have Bl:Aq P w K mg base CX0 2 t.BJ t.Ek _ _:=Fw T
 have AmU:Aq P w K mg base (CX1 P w) 3 t.N6 t.Agy _ _:=AqJ T
 refine T.AeO.F.okX AhH (fun vs H Q E h=>?_) (fun cdv A outer s H vs Q E hr h=>?_)
 ·obtain⟨r,dx,u,p,rfl,_⟩:=h
  rfl
 ·obtain⟨r,dx,u,p,rfl,hR,k1,k2⟩:=h
  refine⟨_,(Ae (CP (i:=1) AhH.nd rfl (Or.inl rfl) (GX (Aa (Bc (AmU.mono (by decide)) hr rfl T.WN.m T.WN.F.kp T.WN.b .nil Ig (Aa (pv 0) Ac)) Ac)))
   (Ae (AzN fun hfr=>(ArN (A2k Kv hfr) (Rx (Hd (pv 0) T.Bx.c T.El.m (Hq.mono (by decide)) hr T.El.b .nil Ax (Aa Af Ac)))
    (Ae (BX (Hd (pv 0) T.Bx.c T.Ar.m (Bl.mono (by decide)) hr T.Ar.b .nil Ax (Aa Af Ac)))
    (Ag (BX (Qa (K:=K) PySem.F.plainAttrs_list PySem.F.slot_list_append PySem.F.type_list_append AeC (pv 1) (Aa (Bc (AmU.mono (by decide)) hr rfl T.WN.m T.WN.F.kp T.WN.b .nil Ig (Aa (pv 0) Ac)) Ac)))))))
   (Ae (Ck (Az Yb (Bw (CV (K:=K)) rfl T.Jg Gg (Aa (pv 1) Ac)) (Cq (v:=.int 40) rfl T.As1.choose_spec ⟨_,rfl⟩) (Bh _))
    (Ag (Eu Kv rfl (fun _ _ z=>z) PySem.F.excBase_ValueError Jc PySem.F.excBase_ValueError T.BK.q rfl T.Cm (Aa Af Ac)))
    Bf)
   (Ag (Bm (pv 1)))))),?_⟩
  refine⟨_,rfl,r,dx,u,p,rfl,hR,fun z l p1 hz hp1 hl1 hd1=>?_,fun hz H' sb=>k2 (by unfold Pat.runs;rw[hz]) H' sb⟩
  rw[Aq5 hz] at k1 k2
  refine⟨(by show 1≤sizeLine;decide),fun q hq=>?_⟩
  have nqr:q≠r:=fun z=>by rw[z,show O8 t H r dx u p1 r=some _ from Ad] at hq;cases hq
  rw[show O8 t H r dx u p1 q=H q from Bd nqr] at hq
  have hH:∀ p9 o,(upd (O8 t H r dx u p9) q o) r=some (.ins t.Br dx (rf u p9)):=fun p9 o=>by rw[Bd nqr.symm];exact Ad
  have sbq:∀ p9 o,HF r H (upd (O8 t H r dx u p9) q o):=fun p9 o b o' hb e=>by rw[Bd (Bs e hq)];show(upd H r _) b=_;rw[Bd hb];exact e
  have A0Z:=hR.2.2
  refine⟨fun m σ H2=>∃ done p2,σ=[some (.ref r),some (.ref q)]∧H2=upd (O8 t H r dx u p2) q (.lst (vS done))∧Afx [z] l=Afx done (u.drop p2)∧p≤p2∧p2≤u.length∧done.length≤p2∧m=u.length-p2,
   ⟨_,[z],p1,rfl,rfl,by rw[hd1],by omega,hl1,by simp only [A5N,A6a];omega,rfl⟩,?_⟩
  rintro m σ H2 ⟨done,p2,rfl,rfl,hf,hp2,hl2,hdl,rfl⟩
  refine⟨_,rfl,r,dx,rf u p2,rfl,hH _ _,(Jl u _).2.1,r,dx,u,p2,[44],(by rw[Aj3];rfl),⟨hH _ _,hl2,A0Z⟩,(by decide),fun AxE=>?_,fun hno=>?_⟩
  ·obtain⟨l1,e1⟩:=Adk.mp AxE
   have d:=AhS e1
   rw[swp nqr]
   refine⟨_,rfl,?_⟩
   refine Tn ?_
   refine⟨_,fun σ' H' h=>h,?_⟩
   refine⟨_,rfl,r,dx,rf u _,rfl,hH _ _,(Jl u _).2.2.2,r,dx,u,_,[32],(by rw[Adj];rfl),⟨hH _ _,d.2,A0Z⟩,(by decide),?_⟩
   rw[WT AkX,swp nqr]
   have b2:=behind (fun c=>decide (c=32)) d.2
   rw[d.1] at b2
   rw[d.1]
   obtain⟨p3,e3⟩:∃ p3,p3=p2+[44].length+(l1.takeWhile fun c=>decide (c=32)).length:=⟨_,rfl⟩
   rw[← e3] at b2
   have d3:u.drop p3=Pat.sk l1:=b2.1
   have p23:p2<p3:=by rw[e3];simp only [A5N,A6a];omega
   rw[← e3]
   refine⟨_,rfl,.inl ⟨rfl,_,SqL.of Ad⟩,_,rfl,r,dx,u,p3,rfl,⟨hH _ _,b2.2,A0Z⟩,fun z2 l2 p4 hz2 hp4 hl4 hd4=>?_,fun hz2 H' sb=>?_⟩
   ·rw[d3] at hz2
    rw[show ∀ p8 p9 o,O8 t (upd (O8 t H r dx u p8) q o) r dx u p9=upd (O8 t H r dx u p9) q o from fun _ _ _=>swp nqr]
    refine⟨_,_,_,rfl,rfl,Ad,(by rw[DG];exact A5O (show done.length<1000001 by omega) (by decide)),?_⟩
    rw[Ow,QZ]
    exact⟨u.length-p4,by omega,done++[z2],p4,rfl,rfl,by rw[hf,AxK e1 hz2,hd4],by omega,hl4,by rw[A5J,A6o];omega,rfl⟩
   ·rw[d3] at hz2
    refine k2 (by rw[hf];unfold Afx;rw[AxJ e1 hz2]) H' (fun b o hb e=>sb b o hb (sbq _ _ b o hb e))
  ·have e1:=AhT hno
   refine⟨_,rfl,?_⟩
   refine ZF ?_
   have hf2:Afx done (u.drop p2)=if (done++[]).length>40 then none else some (done++[],u.drop p2):=by unfold Afx;rw[AxI e1]
   rw[A6Y] at hf2
   refine⟨_,rfl,_,_,rfl,.inl (SqL.of Ad),_,_,rfl,rfl,_,rfl,?_⟩
   rw[DG]
   refine Hu (fun c1=>?_) (fun c1=>?_)
   ·exact⟨by decide,k2 (by rw[hf,hf2,if_pos (by omega)]) _ (sbq _ _)⟩
   ·refine⟨_,rfl,?_⟩
    exact k1 done _ p2 q (by rw[hf,hf2,if_neg (by omega)]) hp2 hl2 rfl hq nqr
def Q7:List (List Nat):=[[114,111,119,115],[116,119,105,108,108],[115,97,116,105,110],[98,101,115,105,100,101],[97,98,111,118,101],[109,105,114,114,111,114],[117,112,101,110,100],[98,97,99,107],[113,117,97,114,116,101,114],[116,105,108,101],[98,108,111,99,107,115],[108,97,121]]
theorem AxM:(["rows", "twill", "satin", "beside", "above", "mirror", "upend", "back", "quarter", "tile", "blocks", "lay"]:List Str)=Q7.map tx:=by decide +kernel
theorem Awi(u:List Nat):Pat.isWord u=decide (u∈Q7):=by
 by_cases h:u∈Q7
 ·rw[decide_eq_true h]
  simp only [Q7,A5U,A5V,or_false] at h
  rcases h with rfl | rfl | rfl | rfl | rfl | rfl | rfl | rfl | rfl | rfl | rfl | rfl <;> decide
 ·rw[decide_eq_false h]
  simp only [Q7,A5U,A5V,or_false,not_or] at h
  obtain⟨h1,h2,h3,h4,h5,h6,h7,h8,h9,h10,h11,h12⟩:=h
  unfold Pat.isWord Pat.wants Pat.VB
  rw[decide_eq_false h1,if_neg (fun z=>z.elim h2 h3),if_neg (fun z=>z.elim h4 fun z=>z.elim h5 h12),if_neg (fun z=>z.elim h6 fun z=>z.elim h7 fun z=>z.elim h8 h9),if_neg h10,if_neg h11]
  rfl
def Azu:List Nat:=[97,98,99,100,101,102,103,104,105,106,107,108,109,110,111,112,113,114,115,116,117,118,119,120,121,122]
theorem AxN:(("abcdefghijklmnopqrstuvwxyz" : Str))=tx Azu:=by decide +kernel
theorem AxO(c:Nat):decide (c∈Azu)=Pat.letter c:=decide_eq_decide.mpr (by
 unfold Azu
 simp only [A5U,A5V,or_false]
 omega)
theorem in_words(u:List Nat):∀ ls:List (List Nat),inV (V.str (tx u)) ((ls.map tx).map V.str)=decide (u∈ls)
 | []=>rfl
 | a::ls=>by
  have ih:=in_words u ls
  unfold inV at ih ⊢
  rw[A5P,A5P,List.any_cons,ih]
  by_cases h:u=a
  ·rw[h,decide_eq_true (A6j)]
   have:eqV (V.str (tx a)) (V.str (tx a))=true:=AwI rfl
   rw[this,Bool.true_or]
  ·have e1:(eqV (V.str (tx a)) (V.str (tx u))=false)∧(eqV (V.str (tx u)) (V.str (tx a))=false):=⟨beq_eq_false_iff_ne.mpr fun z=>h (W0 z).symm,beq_eq_false_iff_ne.mpr fun z=>h (W0 z)⟩
   first | rw[e1.1] | rw[e1.2]
   rw[Bool.false_or]
   exact decide_eq_decide.mpr ⟨fun z=>A6h _ z,fun z=>(List.mem_cons.mp z).elim (fun z=>absurd z h) id⟩
def Awj:Sp:=fun vs H Q _=>∃ u,vs=[.str (tx u)]∧u.length≤1000000∧∀ H',Bv H H'→Q (.bl (Pat.isName u)) H'
theorem AmV(T:Txt K mg t):Aq P w K mg base CX0 1 t.O3 t.AeK ["text"] Awj:=by
 refine T.Ab3.F.ok AtL (fun vs H Q E h=>?_) (fun cdv A outer s H vs Q E hr h=>?_)
 ·obtain⟨u,rfl,_⟩:=h
  rfl
 ·obtain⟨u,rfl,hu,k⟩:=h
  refine⟨_,(Ae (Ck (PW.pt (pw_or (Az Ww (Bw Dd rfl T.Jg Gg (Aa (pv 0) Ac)) Am (Bh _)) (pw_or1 (Az Yb (Bw Dd rfl T.Jg Gg (Aa (pv 0) Ac)) (Cq (v:=.int 20) rfl T.AmP.choose_spec ⟨_,rfl⟩) (Bh _)))))
    (Ag (Bm AuA))
    Bf)
   (Ag (Bm (Agm (Ox (AoO (K:=K)) (pv 0) (Cq (v:=.ref t.Aby) rfl T.Azm rfl) rfl) (Aji (Bw (AvK (K:=K)) rfl T.A2J A0u (Aa (Ue (Jo.mk (BW:=[]) (Nc:=["sign"]) rfl (by decide +kernel) (by decide +kernel) (Jw (sc0:=Ab JZ) rfl (by decide +kernel)) rfl rfl rfl (by decide +kernel) (fun _ _ h=>by simp at h)) rfl (Ajn (pv 0)) (fun _ _ _ _ _=>.nil) (fun _ _ _ _ _=>(Ox ApD (pv 0) (Cq (v:=.str "abcdefghijklmnopqrstuvwxyz") rfl T.Ajz.choose_spec ⟨_,rfl⟩) rfl))) Ac))))))),?_⟩
  have zl:(tx u).length≤sizeLine:=by rw[Ao];exact big hu
  refine⟨_,rfl,_,rfl,zl,_,_,rfl,rfl,_,rfl,?_⟩
  rw[Ao]
  unfold Pat.isName at k
  refine Hu (fun c1=>?_) (fun c1=>?_)
  ·refine Tn ?_
   rw[decide_eq_false (show ¬(1≤u.length∧u.length≤20) by omega)] at k
   exact k _ (.refl _)
  ·refine⟨_,rfl,_,rfl,zl,_,_,rfl,rfl,_,rfl,?_⟩
   rw[Ao]
   refine Hu (fun c2=>?_) (fun c2=>?_)
   ·rw[decide_eq_false (show ¬(1≤u.length∧u.length≤20) by omega)] at k
    exact k _ (.refl _)
   ·rw[decide_eq_true (show 1≤u.length∧u.length≤20 by omega),Bool.true_and,Awi] at k
    refine⟨_,rfl,_,_,rfl,.inr (T.Azn H),rfl,(by decide),_,rfl,?_⟩
    rw[AxM,in_words]
    show if (!decide (u∈Q7))=true then _ else _
    by_cases cw:u∈Q7
    ·rw[decide_eq_true cw] at k ⊢
     refine ZF ?_
     rw[Bool.not_true,Bool.and_false] at k
     exact k _ (.refl _)
    ·rw[decide_eq_false cw] at k ⊢
     refine Tn ?_
     rw[Bool.not_false,Bool.and_true] at k
     refine⟨_,rfl,_,rfl,?_⟩
     refine Am4 (z:=tx u) (fun i ys H2=>H2=H∧ys=vB ((u.take i).map Pat.letter)) ⟨rfl,rfl⟩ ?_ ?_ ?_ ?_
     ·rintro i ys H2 hi ⟨rfl,rfl⟩
      rw[At3,A5I,A5S]
      exact Nat.min_le_left _ _
     ·exact zl
     ·rintro i c ys H2 hi hc ⟨rfl,rfl⟩
      refine Mv.no ?_
      have hu':u[i]?=some c:=by
       rw[← Q6 u,Array.getElem?_toList]
       exact hc
      refine⟨_,rfl,_,_,rfl,rfl,?_⟩
      rw[AxN,As4,AxO]
      exact CN.of hi ⟨rfl,by rw[At4,A6i,hu',A5Y];rfl⟩
     ·rintro ys H2 q ⟨rfl,rfl⟩ hq
      refine⟨_,_,rfl,SqL.of Ad,?_⟩
      have e9:(((u.take (tx u).cps.size).map Pat.letter).all id)=u.all Pat.letter:=by
       rw[show(tx u).cps.size=u.length from Ao u,A6p,List.all_map]
       rfl
      rw[e9]
      exact k _ (.upd hq)
inductive AtN (H:Hp):Nd→V→Prop
 | num {n:Nat}:AtN H (.num n) (.int (n:Int))
 | run {r:List Nat}:AtN H (.run r) (.str (tx r))
 | nam {z:List Nat} {a:Addr}:H a=some (.tup [.str (tx z),.non])→AtN H (.nam z) (.ref a)
 | node {z:List Nat} {ts:List Nd} {a q:Addr} {vs:List V}:H a=some (.tup [.str (tx z),.ref q])→H q=some (.lst vs)→vs.length=ts.length→(∀(i:Nat) (x:Nd) (v:V),ts[i]?=some x→vs[i]?=some v→AtN H x v)→AtN H (.node z ts) (.ref a)
theorem AtN.mono{H H':Hp}(s:∀ b o,H b=some o→H' b=some o){x:Nd}{v:V}(h:AtN H x v):AtN H' x v:=by
 induction h with
 | num=>exact .num
 | run=>exact .run
 | nam h=>exact .nam (s _ _ h)
 | node h1 h2 h3 _ ih=>exact .node (s _ _ h1) (s _ _ h2) h3 ih
def nw (H H':Hp):Hp:=fun b=>match H b with
 | none=>H' b
 | some _=>none
theorem AhU{H H':Hp}{b:Addr}(h:H b=none):nw H H' b=H' b:=by unfold nw;rw[h]
theorem AmW{H H':Hp}{b:Addr}{o:HO}(h:nw H H' b=some o):H b=none∧H' b=some o:=by
 unfold nw at h
 cases e:H b with
 | none=>rw[e] at h;exact⟨rfl,h⟩
 | some o'=>rw[e] at h;cases h
theorem Ami{A H2 H3:Hp}{r:Addr}(hr:A r≠none)(s:HF r H2 H3):∀ b o,nw A H2 b=some o→nw A H3 b=some o:=fun b o h=>by
 have g:=AmW h
 rw[AhU g.1]
 exact s b o (fun z=>hr (by rw[← z];exact g.1)) g.2
theorem As8{A B H3:Hp}(h:∀ b,B b=none→A b=none):∀ b o,nw B H3 b=some o→nw A H3 b=some o:=fun b o g=>by
 have g:=AmW g
 rw[AhU (h b g.1)]
 exact g.2
theorem AxP{A H:Hp}{q:Addr}{o:HO}(h:A q≠none):nw A (upd H q o)=nw A H:=by
 funext b
 unfold nw
 cases e:A b with
 | none =>
  show upd H q o b=H b
  exact Bd fun z=>h (by rw[← z];exact e)
 | some o'=>rfl
def AoV (H:Hp)(ts:List Nd)(vs:List V):Prop:=vs.length=ts.length∧∀(i:Nat) (x:Nd) (v:V),ts[i]?=some x→vs[i]?=some v→AtN H x v
theorem AoV.snoc{H:Hp}{ts:List Nd}{vs:List V}{x:Nd}{v:V}(h:AoV H ts vs)(hx:AtN H x v):AoV H (ts++[x]) (vs++[v]):=by
 refine⟨by rw[A5J,A5J,h.1];rfl,fun i y w g1 g2=>?_⟩
 by_cases c:i<ts.length
 ·rw[A6R c] at g1
  rw[A6R (by rw[h.1];exact c)] at g2
  exact h.2 i y w g1 g2
 ·have e:i=ts.length:=by
   have:=(List.getElem?_eq_some_iff.mp g1).1
   rw[A5J,A6o] at this
   omega
  subst e
  rw[A6Q (A5K _),A7i] at g1
  rw[A6Q (by rw[h.1];exact A5K _),h.1,A7i] at g2
  cases g1
  cases g2
  exact hx
theorem AoV.mono{H H':Hp}(s:∀ b o,H b=some o→H' b=some o){ts:List Nd}{vs:List V}(h:AoV H ts vs):AoV H' ts vs:=⟨h.1,fun i x v g1 g2=>(h.2 i x v g1 g2).mono s⟩
theorem args_nil{sub:List Nat→Option (Nd × List Nat)}{b:Bool}{l:List Nat}:Pat.args sub b [] l=some ([],l):=by unfold Pat.args;rfl
def AtV (sub:List Nat→Option (Nd × List Nat))(done:List Nd)(ks l:List Nat):Option (List Nd × List Nat):=(Pat.args sub done.isEmpty ks l).map fun p=>(done++p.1,p.2)
theorem AxQ{sub:List Nat→Option (Nd × List Nat)}{done:List Nd}{l:List Nat}:AtV sub done [] l=some (done,l):=by unfold AtV;rw[args_nil];simp
def AhV (t:Adr)(d:Nat):Sp:=fun vs H Q E=>∃ r dx u p dep,vs=[.ref r,.int ((dep:Nat):Int)]∧dep+d=13∧Rd t H r dx u p ∧
 (∀ x l p' v H',Pat.node d (u.drop p)=some (x,l)→p≤p'→u.drop p'=l→HF r H H'→Rd t H' r dx u p'→AtN (nw H H') x v→Q v H')∧(Pat.node d (u.drop p)=none→∀ H',HF r H H'→E (.ref t.Aj) none H')
def AmX (t:Adr)(d:Nat):Sp:=fun vs H Q E=>∃ r dx u p dep z,vs=[.ref r,.str (tx z),.int ((dep:Nat):Int)]∧dep+d=13∧Rd t H r dx u p ∧
 (∀ ts l p' q vs' H',Pat.things (Pat.node d) z (u.drop p)=some (ts,l)→p≤p'→u.drop p'=l→HF r H H'→Rd t H' r dx u p'→H q=none→H' q=some (.lst vs')→AoV (nw H H') ts vs'→Q (.ref q) H')∧(Pat.things (Pat.node d) z (u.drop p)=none→∀ H',HF r H H'→E (.ref t.Aj) none H')
theorem As9(z:List Nat):lk [("twill", "nn"),("satin", "nn"),("beside", "pp"),("above", "pp"),("mirror", "p"),("upend", "p"),("back", "p"),("quarter", "p"),("tile", "pnn"),("blocks", "ppp"),("lay", "pp")] (tx z)=(Pat.wants z).map tx:=by
 by_cases h:z∈Q7.tail
 ·simp only [Q7,A7c,A5U,A5V,or_false] at h
  rcases h with rfl | rfl | rfl | rfl | rfl | rfl | rfl | rfl | rfl | rfl | rfl <;> decide +kernel
 ·have hn:lk [("twill", "nn"),("satin", "nn"),("beside", "pp"),("above", "pp"),("mirror", "p"),("upend", "p"),("back", "p"),("quarter", "p"),("tile", "pnn"),("blocks", "ppp"),("lay", "pp")] (tx z)=none:=by
   unfold lk
   rw[Option.map_eq_none_iff,List.find?_eq_none]
   intro q hq
   rw[decide_eq_true_eq]
   intro e
   have hm:tx z∈Q7.tail.map tx:=by
    rw[← e]
    have:∀ q∈([("twill", "nn"),("satin", "nn"),("beside", "pp"),("above", "pp"),("mirror", "p"),("upend", "p"),("back", "p"),("quarter", "p"),("tile", "pnn"),("blocks", "ppp"),("lay", "pp")]:List (Str × Str)),q.1∈Q7.tail.map tx:=by decide +kernel
    exact this q hq
   obtain⟨y,hy,ey⟩:=List.mem_map.mp hm
   exact h (W0 ey▸hy)
  rw[hn]
  simp only [Q7,A7c,A5U,A5V,or_false,not_or] at h
  obtain⟨h2,h3,h4,h5,h6,h7,h8,h9,h10,h11,h12⟩:=h
  unfold Pat.wants
  rw[if_neg (fun z=>z.elim h2 h3),if_neg (fun z=>z.elim h4 fun z=>z.elim h5 h12),if_neg (fun z=>z.elim h6 fun z=>z.elim h7 fun z=>z.elim h8 h9),if_neg h10,if_neg h11]
  rfl
theorem Amj:(("rows" : Str))=tx Pat.VB:=by decide +kernel
theorem Awk{z ks:List Nat}(h:Pat.wants z=some ks):ks.length≤3:=by
 unfold Pat.wants at h
 split at h
 ·cases h;decide
 ·split at h
  ·cases h;decide
  ·split at h
   ·cases h;decide
   ·split at h
    ·cases h;decide
    ·split at h
     ·cases h;decide
     ·cases h
theorem AeQ{H:Hp}{r dx:Addr}{u:List Nat}{p:Nat}(_:Rd t H r dx u p)(p4:Nat):HF r H (O8 t H r dx u p4):=HF.upd
def thing(sub:List Nat→Option (Nd × List Nat))(c:Nat)(l:List Nat):Option (Nd × List Nat):=if c=112 then sub l else (Pat.num l).map fun p=>(Nd.num p.1,p.2)
theorem Awl{sub:List Nat→Option (Nd × List Nat)}{done:List Nd}{c:Nat}{ks l:List Nat}:AtV sub done (c::ks) l=match (if done.isEmpty=true then some l else Pat.comma l) with
  | none=>none
  | some l1=>match thing sub c l1 with
   | none=>none
   | some (a,l2)=>AtV sub (done++[a]) ks l2:=by
 unfold AtV thing
 conv=>lhs;unfold Pat.args
 cases (if done.isEmpty=true then some l else Pat.comma l) with
 | none=>rfl
 | some l1 =>
  dsimp only
  cases (if c=112 then sub l1 else (Pat.num l1).map fun p=>(Nd.num p.1,p.2)) with
  | none=>rfl
  | some q =>
   obtain⟨a,l2⟩:=q
   dsimp only
   rw[show(done++[a]).isEmpty=false by cases done <;> rfl,Option.map_map]
   congr 1
   funext p
   simp
theorem AlA{d k:Nat}(hk:4≤k)(T:Txt K mg t)(Adl:Aq P w K mg base (CX1 P w) k t.Hz t.Rr ["reader", "depth"] (AhV t d)):Aq P w K mg base (CX1 P w) (k+1) t.Hn t.Ug ["reader", "word", "depth"] (AmX t d):=by
 have AoW:Aq P w K mg base (CX1 P w) 4 t.Ip t.ZP _ _:=Al8 T
 have AqK:Aq P w K mg base (CX1 P w) 3 t.J1 t.Ab2 _ _:=AmT T
 have AsA:Aq P w K mg base (CX1 P w) 4 t.K1 t.Adc _ _:=AoU T
 refine T.NB.F.okX W6 (fun vs H Q E h=>?_) (fun cdv A outer s H vs Q E hr h=>?_)
 ·obtain⟨r,dx,u,p,dep,z,rfl,_⟩:=h
  rfl
 ·obtain⟨r,dx,u,p,dep,z,rfl,A1a,hR,k1,k2⟩:=h
  refine⟨_,(Ae (Ck (Az GJ (pv 1) Af (Bh _))
    (Ag (Bm (Bc (AsA.mono (by omega)) hr rfl T.AeO.m T.AeO.F.kp T.AeO.b .nil Ig (Aa (pv 0) Ac))))
    Bf)
   (Ae (Ck (AzZ (Asf T.As3 (pv 1) (Cq (v:=.ref t.Vd) rfl T.As2 rfl)))
    (Ag (Eu Kv rfl (fun _ _ z=>z) PySem.F.excBase_ValueError Jc PySem.F.excBase_ValueError T.BK.q rfl T.Cm (Aa Af Ac)))
    Bf)
   (Ae (CP (i:=3) W6.nd rfl (Or.inl rfl) (GX Ac))
   (Ae (AzN fun hfr=>(Vm (A2k Kv hfr) rfl (Ajn (AvO T.As3 (Cq (v:=.ref t.Vd) rfl T.As2 rfl) (pv 1) (fun _ _=>rfl))) (En (i:=4) W6.nd rfl (Or.inl rfl))
    (Ae (Ck (AvG (K:=K) (pv 3) (fun _=>rfl))
     (Ag (BX (Bc (AqK.mono (by omega)) hr rfl T.Ab7.m T.Ab7.F.kp T.Ab7.b .nil Ig (Aa (pv 0) Ac))))
     Bf)
    (Ag (BX (Qa (K:=K) PySem.F.plainAttrs_list PySem.F.slot_list_append PySem.F.type_list_append AeC (pv 3) (Aa (AcQ (Az GJ (pv 4) Af (Bh _)) (Bc (Adl.mono (by omega)) hr rfl T.Ru.m T.Ru.F.kp T.Ru.b .nil Ig (Aa (pv 0) (Aa (pv 2) Ac))) (Bc (AoW.mono (by omega)) hr rfl T.Yg.m T.Yg.F.kp T.Yg.b .nil Ig (Aa (pv 0) Ac))) Ac)))))))
   (Ag (Bm (pv 3))))))),?_⟩
  refine⟨_,rfl,rfl,_,rfl,?_⟩
  unfold Pat.things at k1 k2
  by_cases c:z=Pat.VB
  ·refine Mw (by rw[c,Amj]) ?_
   rw[if_pos c] at k1 k2
   refine⟨_,rfl,r,dx,u,p,rfl,hR,fun zs l p' q hz hp hp' hd hq nqr=>?_,fun hz H' sb=>k2 (by rw[hz];rfl) H' sb⟩
   have hn:nw H (upd (O8 t H r dx u p') q (.lst (vS zs)))=nw H (upd (O8 t H r dx u p') q (.lst (vS zs))):=rfl
   refine k1 (zs.map Nd.run) l p' q (vS zs) _ (by rw[hz];rfl) hp hd (fun b o hb e=>by rw[Bd (Bs e hq)];show(upd H r _) b=_;rw[Bd hb];exact e) ⟨by rw[Bd nqr.symm];exact Ad,hp',hR.2.2⟩ hq Ad ⟨by rw[DG,A5I],fun i x v g1 g2=>?_⟩
   rw[A5T] at g1
   unfold vS at g2
   rw[A5T] at g2
   cases e:zs[i]? with
   | none=>rw[e] at g1;cases g1
   | some y =>
    rw[e] at g1 g2
    cases g1
    cases g2
    exact .run
  ·refine Ht (fun y=>c ?_) ?_
   ·rw[Amj] at y
    injection y with y
    exact W0 y
   rw[if_neg c] at k1 k2
   refine⟨_,rfl,tx z,rfl,rfl,_,rfl,?_⟩
   rw[As9]
   cases ew:Pat.wants z with
   | none =>
    rw[ew] at k2
    refine Tn ?_
    exact⟨by decide,k2 rfl _ (fun b o _ e=>e)⟩
   | some ks =>
    rw[ew] at k1 k2
    dsimp only at k1 k2
    refine ZF ?_
    refine⟨(by decide),fun q hq=>?_⟩
    have nqr:q≠r:=fun z=>by rw[z,hR.1] at hq;cases hq
    have hlk:lk [("twill", "nn"),("satin", "nn"),("beside", "pp"),("above", "pp"),("mirror", "p"),("upend", "p"),("back", "p"),("quarter", "p"),("tile", "pnn"),("blocks", "ppp"),("lay", "pp")] (tx z)=some (tx ks):=by rw[As9,ew];rfl
    have hq0:(upd H q (.lst [])) q≠none:=by rw[Ad];exact fun z=>nomatch z
    have hr0:(upd H q (.lst [])) r≠none:=by rw[Bd nqr.symm,hR.1];exact fun z=>nomatch z
    have sk0:∀ b o,H b=some o→(upd H q (.lst [])) b=some o:=fun b o e=>by rw[Bd (Bs e hq)];exact e
    refine⟨_,rfl,tx z,_,rfl,rfl,hlk,_,rfl,?_⟩
    have ksl:=Awk ew
    have A4r:(tx ks).cps.size=ks.length:=Ao ks
    refine Aqu (z:=tx ks) (fun i σ H2=>∃ v done vs p2,σ=[some (.ref r),some (.str (tx z)),some (.int (dep:Int)),some (.ref q),v]∧HF r H H2∧(∀ b,H2 b=none→(upd H q (.lst [])) b=none)∧Rd t H2 r dx u p2∧H2 q=some (.lst vs)∧AoV (nw (upd H q (.lst [])) H2) done vs∧done.length=i∧p≤p2∧Pat.args (Pat.node d) true ks (u.drop p)=AtV (Pat.node d) done (ks.drop i) (u.drop p2)) ⟨none,[],[],p,rfl,(fun b o _ e=>sk0 b o e),(fun b e=>e),⟨by rw[Bd nqr.symm];exact hR.1,hR.2⟩,Ad,⟨rfl,fun i x v g=>by simp at g⟩,rfl,A5K _,?_⟩ ?_ ?_
    ·unfold AtV
     simp
    ·rintro i c' σ H2 hc ⟨v,done,vs,p2,rfl,sb2,A1b,hR2,hq2,hN2,hl2,hp2,hA⟩
     have hci:ks[i]?=some c':=by
      rw[← Q6 ks,Array.getElem?_toList]
      exact hc
     have hik:i<ks.length:=(List.getElem?_eq_some_iff.mp hci).1
     have hdk:ks.drop i=c'::ks.drop (i+1):=by
      rw[List.drop_eq_getElem_cons hik,(List.getElem?_eq_some_iff.mp hci).2]
     rw[hdk,Awl] at hA
     have hvl:=hN2.1
     refine⟨_,rfl,!vs.isEmpty,.inl ⟨vs,SqL.of hq2,rfl⟩,?_⟩
     by_cases ce:done=[]
     case' pos =>
      have ve:vs=[]:=List.length_eq_zero_iff.mp (by rw[hvl,ce];rfl)
      rw[if_pos (by rw[ce];rfl)] at hA
      rw[show(!vs.isEmpty)=false by rw[ve];rfl]
      refine ZF ?_
      obtain⟨p3,ep3⟩:∃ p3,p3=p2:=⟨_,rfl⟩
      rw[← ep3] at hR2 hp2 hA
      have hR3:=hR2
      have sb3:=sb2
      have AxR:=A1b
      have hq3:=hq2
      have hN3:=hN2
      have hA3:=hA
      have hp3:=hp2
     case' neg =>
      have ve:vs.isEmpty=false:=by
       cases vs with
       | nil=>exact absurd (List.length_eq_zero_iff.mp hvl.symm) ce
       | cons _ _=>rfl
      rw[if_neg (by cases done with | nil=>exact absurd rfl ce | cons _ _=>exact fun z=>nomatch z)] at hA
      rw[ve]
      refine Tn ?_
      refine⟨_,rfl,r,dx,u,p2,rfl,hR2,fun l p3 hz hp hpl hd=>?_,fun hz H' sb=>k2 (by rw[hA,hz]) H' (sb2.trans sb)⟩
      have hR3:=Adi hR2 hpl
      have s23:HF r H2 (O8 t H2 r dx u p3):=HF.upd
      have sb3:=sb2.trans s23
      have AxR:∀ b,O8 t H2 r dx u p3 b=none→(upd H q (.lst [])) b=none:=fun b e=>A1b b (by
       have nb:b≠r:=fun z=>by rw[z,show O8 t H2 r dx u p3 r=some _ from Ad] at e;cases e
       rw[show O8 t H2 r dx u p3 b=H2 b from Bd nb] at e
       exact e)
      have hq3:=s23 _ _ nqr hq2
      have hN3:=hN2.mono (Ami hr0 s23)
      rw[hz,← hd] at hA
      have hA3:=hA
      have hp3:p≤p3:=A5X hp2 hp
      generalize O8 t H2 r dx u p3=H3 at hR3 sb3 AxR hq3 hN3 ⊢
     all_goals
      have small:vs.length<sizeLine:=A5O (show vs.length<1000 by omega) (by decide)
      refine⟨_,rfl,.inl ⟨rfl,_,SqL.of hq3⟩,_,rfl,rfl,_,rfl,?_⟩
      unfold thing at hA3
      dsimp only at hA3
      by_cases cp:c'=112
      ·rw[if_pos cp] at hA3
       refine Mw (by rw[cp];decide +kernel) ?_
       refine⟨_,rfl,_,rfl,r,dx,u,p3,dep,rfl,A1a,hR3,fun x l p4 v4 H4 hz4 hp4 hd4 sb4 hR4 hN4=>?_,fun hz4 H' sb=>k2 (by rw[hA3,hz4]) H' (sb3.trans sb)⟩
       have hq4:=sb4 _ _ nqr hq3
       refine⟨_,_,_,rfl,rfl,hq4,small,?_⟩
       refine⟨_,done++[x],vs++[v4],p4,rfl,?_,?_,?_,Ad,?_,by rw[A5J,hl2];rfl,by omega,by rw[hA3,hz4,hd4]⟩
       ·intro b o hb e
        rw[Bd (Bs e hq)]
        exact sb4 b o hb (sb3 b o hb e)
       ·intro b e
        have nb:b≠q:=fun z=>by rw[z,Ad] at e;cases e
        rw[Bd nb] at e
        refine AxR b (Option.eq_none_iff_forall_ne_some.mpr fun o e3=>?_)
        by_cases hb:b=r
        ·rw[hb,hR4.1] at e;cases e
        ·rw[sb4 b o hb e3] at e;cases e
       ·exact⟨by rw[Bd nqr.symm];exact hR4.1,hR4.2⟩
       ·rw[AxP hq0]
        exact(hN3.mono (Ami hr0 sb4)).snoc (hN4.mono (As8 AxR))
      ·rw[if_neg cp] at hA3
       refine Ht (fun y=>cp ?_) ?_
       ·have e:(("p" : Str))=tx [112]:=by decide +kernel
        rw[e] at y
        injection y with y
        exact(List.cons.inj (W0 (a:=[c']) (b:=[112]) y)).1
       refine⟨_,rfl,r,dx,u,p3,rfl,hR3,fun n l p4 hz4 hp4 hl4 hd4=>?_,fun hz4 H' sb=>k2 (by rw[hA3,hz4];rfl) H' (sb3.trans sb)⟩
       have hR4:=Adi hR3 hl4
       have sb4:=AeQ hR3 p4
       have hq4:=sb4 _ _ nqr hq3
       refine⟨_,_,_,rfl,rfl,hq4,small,?_⟩
       refine⟨_,done++[Nd.num n],vs++[.int (n:Int)],p4,rfl,?_,?_,?_,Ad,?_,by rw[A5J,hl2];rfl,by omega,by rw[hA3,hz4,hd4];rfl⟩
       ·intro b o hb e
        rw[Bd (Bs e hq)]
        exact sb4 b o hb (sb3 b o hb e)
       ·intro b e
        have nb:b≠q:=fun z=>by rw[z,Ad] at e;cases e
        rw[Bd nb] at e
        refine AxR b (Option.eq_none_iff_forall_ne_some.mpr fun o e3=>?_)
        by_cases hb:b=r
        ·rw[hb] at e;rw[hR4.1] at e;cases e
        ·rw[sb4 b o hb e3] at e;cases e
       ·exact⟨by rw[Bd nqr.symm];exact hR4.1,hR4.2⟩
       ·rw[AxP hq0]
        exact(hN3.mono (Ami hr0 sb4)).snoc .num
    ·rintro σ H2 ⟨v,done,vs,p2,rfl,sb2,A1b,hR2,hq2,hN2,hl2,hp2,hA⟩
     rw[A4r,List.drop_length,AxQ] at hA
     refine⟨_,rfl,?_⟩
     exact k1 done _ p2 q vs H2 hA hp2 rfl sb2 hR2 hq hq2 (hN2.mono (As8 (fun b e=>by
      by_cases eb:b=q
      ·rw[eb,Ad] at e;cases e
      ·rw[Bd eb] at e;exact e)))
theorem AmY:(("(" : Str))=tx [40]:=by decide +kernel
theorem Aqb:((")" : Str))=tx [41]:=by decide +kernel
theorem Awm(d:Nat)(l:List Nat):Pat.node (d+1) l=match Pat.one 40 (Pat.sk (l.dropWhile Pat.letter)) with
  | none=>if Pat.isName (l.takeWhile Pat.letter)=true then some (.nam (l.takeWhile Pat.letter),Pat.sk (l.dropWhile Pat.letter)) else none
  | some l1=>match Pat.things (Pat.node d) (l.takeWhile Pat.letter) (Pat.sk l1) with
   | none=>none
   | some (ts,l2)=>match Pat.one 41 l2 with
    | none=>none
    | some l3=>some (.node (l.takeWhile Pat.letter) ts,Pat.sk l3):=by
 (conv=>lhs;unfold Pat.node) <;> rfl
theorem AoX{d k:Nat}(hk:2≤k)(T:Txt K mg t)(ZW:Aq P w K mg base (CX1 P w) k t.Hn t.Ug ["reader", "word", "depth"] (AmX t d)):Aq P w K mg base (CX1 P w) (k+1) t.Hz t.Rr ["reader", "depth"] (AhV t (d+1)):=by
 have Hq:Aq P w K mg base CX0 1 t.Fg t.Ml _ _:=Sq T
 have Bl:Aq P w K mg base CX0 2 t.BJ t.Ek _ _:=Fw T
 have Aj4:Aq P w K mg base CX0 1 t.O3 t.AeK _ _:=AmV T
 refine T.Ru.F.okX O2 (fun vs H Q E h=>?_) (fun cdv A outer s H vs Q E hr h=>?_)
 ·obtain⟨r,dx,u,p,dep,rfl,_⟩:=h
  rfl
 ·obtain⟨r,dx,u,p,dep,rfl,A1a,hR,k1,k2⟩:=h
  refine⟨_,(Ae (Ck (Az Yb (pv 1) (Cq (v:=.int 12) rfl T.AkW.choose_spec ⟨_,rfl⟩) (Bh _))
    (Ag (Eu Kv rfl (fun _ _ z=>z) PySem.F.excBase_ValueError Jc PySem.F.excBase_ValueError T.BK.q rfl T.Cm (Aa Af Ac)))
    Bf)
   (Ae (CP (i:=2) O2.nd rfl (Or.inl rfl) (Hd (pv 0) T.Bx.c T.Ar.m (Bl.mono (by omega)) hr T.Ar.b .nil Ax (Aa (Cq (v:=.str "abcdefghijklmnopqrstuvwxyz") rfl T.Ajz.choose_spec ⟨_,rfl⟩) Ac)))
   (Ae (BX (Hd (pv 0) T.Bx.c T.Ar.m (Bl.mono (by omega)) hr T.Ar.b .nil Ax (Aa Af Ac)))
   (Ae (Ck (Wu (Rx (Hd (pv 0) T.Bx.c T.El.m (Hq.mono (by omega)) hr T.El.b .nil Ax (Aa Af Ac))))
    (Ae (Ck (Wu (Rx (Bc (Aj4.mono (by omega)) hr rfl T.Ab3.m T.Ab3.F.kp T.Ab3.b .nil Ax (Aa (pv 2) Ac))))
     (Ag (Eu Kv rfl (fun _ _ z=>z) PySem.F.excBase_ValueError Jc PySem.F.excBase_ValueError T.BK.q rfl T.Cm (Aa Af Ac)))
     Bf)
    (Ag (Bm (K5 (Aa (pv 2) (Aa Abr Ac))))))
    Bf)
   (Ae (BX (Hd (pv 0) T.Bx.c T.Ar.m (Bl.mono (by omega)) hr T.Ar.b .nil Ax (Aa Af Ac)))
   (Ae (CP (i:=3) O2.nd rfl (Or.inl rfl) (Bc (ZW.mono (by omega)) hr rfl T.NB.m T.NB.F.kp T.NB.b .nil Ig (Aa (pv 0) (Aa (pv 2) (Aa (Bo Mr (pv 1) Am) Ac)))))
   (Ae (Ck (Wu (Rx (Hd (pv 0) T.Bx.c T.El.m (Hq.mono (by omega)) hr T.El.b .nil Ax (Aa Af Ac))))
    (Ag (Eu Kv rfl (fun _ _ z=>z) PySem.F.excBase_ValueError Jc PySem.F.excBase_ValueError T.BK.q rfl T.Cm (Aa Af Ac)))
    Bf)
   (Ae (BX (Hd (pv 0) T.Bx.c T.Ar.m (Bl.mono (by omega)) hr T.Ar.b .nil Ax (Aa Af Ac)))
   (Ag (Bm (K5 (Aa (pv 2) (Aa (pv 3) Ac))))))))))))),?_⟩
  rw[Awm] at k1 k2
  refine⟨_,rfl,_,_,rfl,rfl,_,rfl,?_⟩
  refine Ht (by omega) ?_
  have b1:=behind Pat.letter hR.2.1
  obtain⟨p1,e1⟩:∃ p1,p1=p+((u.drop p).takeWhile Pat.letter).length:=⟨_,rfl⟩
  rw[← e1] at b1
  have b2:=behind (fun c=>decide (c=32)) b1.2
  obtain⟨p2,e2⟩:∃ p2,p2=p1+((u.drop p1).takeWhile fun c=>decide (c=32)).length:=⟨_,rfl⟩
  rw[← e2] at b2
  have d2:u.drop p2=Pat.sk ((u.drop p).dropWhile Pat.letter):=by rw[b2.1,b1.1];rfl
  rw[← d2] at k1 k2
  have hR1:=Adi hR b1.2
  have hR2:=Adi hR b2.2
  have hz:((u.drop p).takeWhile Pat.letter).length≤1000000:=by have:=hR.2.2;omega
  refine⟨_,rfl,r,dx,rf u p,rfl,hR.1,(Jl u p).2.2.2,r,dx,u,p,Azu,(by rw[AxN];rfl),hR,(by decide),?_⟩
  rw[WT AxO,← e1]
  refine⟨_,rfl,r,dx,rf u _,rfl,hR1.1,(Jl u _).2.2.2,r,dx,u,_,[32],(by rw[Adj];rfl),hR1,(by decide),?_⟩
  rw[WT AkX,Ow,← e2]
  generalize hzz:(u.drop p).takeWhile Pat.letter=z at k1 k2 hz ⊢
  refine⟨_,rfl,r,dx,rf u _,rfl,hR2.1,(Jl u _).2.1,r,dx,u,_,[40],(by rw[AmY];rfl),hR2,(by decide),fun AxE=>?_,fun hno=>?_⟩
  ·obtain⟨l1,el⟩:=Adk.mp AxE
   have d:=AhS el
   rw[el] at k1 k2
   dsimp only at k1 k2
   have b3:=behind (fun c=>decide (c=32)) d.2
   obtain⟨p3,e3⟩:∃ p3,p3=p2+[40].length+((u.drop (p2+[40].length)).takeWhile fun c=>decide (c=32)).length:=⟨_,rfl⟩
   rw[← e3] at b3
   have d3:u.drop p3=Pat.sk l1:=by rw[b3.1,d.1];rfl
   rw[← d3] at k1 k2
   have hRa:=Adi hR d.2
   have hR3:=Adi hR b3.2
   rw[Ow]
   refine⟨_,rfl,?_⟩
   refine ZF ?_
   refine⟨_,rfl,r,dx,rf u _,rfl,hRa.1,(Jl u _).2.2.2,r,dx,u,_,[32],(by rw[Adj];rfl),hRa,(by decide),?_⟩
   rw[WT AkX,Ow,← e3]
   refine⟨_,rfl,_,rfl,_,rfl,_,_,rfl,rfl,r,dx,u,p3,dep+1,z,rfl,by omega,hR3,fun ts l p4 q vs' H4 hz4 hp4 hd4 sb4 hR4 hqn hq4 hN4=>?_,fun hz4 H' sb=>k2 (by rw[hz4]) H' ((AeQ hR p3).trans sb)⟩
   rw[hz4] at k1 k2
   dsimp only at k1 k2
   have sH4:HF r H H4:=(AeQ hR p3).trans sb4
   refine⟨_,rfl,r,dx,rf u p4,rfl,hR4.1,(Jl u _).2.1,r,dx,u,p4,[41],(by rw[Aqb];rfl),hR4,(by decide),fun A2L=>?_,fun A2M=>?_⟩
   ·obtain⟨l5,el5⟩:=Adk.mp A2L
    have d5:=AhS el5
    rw[hd4] at el5
    rw[el5] at k1
    dsimp only at k1
    have b6:=behind (fun c=>decide (c=32)) d5.2
    obtain⟨p6,e6⟩:∃ p6,p6=p4+[41].length+((u.drop (p4+[41].length)).takeWhile fun c=>decide (c=32)).length:=⟨_,rfl⟩
    rw[← e6] at b6
    have hR5:=Adi hR4 d5.2
    refine⟨_,rfl,?_⟩
    refine ZF ?_
    refine⟨_,rfl,r,dx,rf u _,rfl,hR5.1,(Jl u _).2.2.2,r,dx,u,_,[32],(by rw[Adj];rfl),hR5,(by decide),?_⟩
    rw[WT AkX,Ow,← e6]
    have s6:=AeQ hR4 p6
    have hR6:=Adi hR4 b6.2
    have hqn:O8 t H r dx u p3 q=none:=hqn
    have hN4:AoV (nw (O8 t H r dx u p3) H4) ts vs':=hN4
    have nqr:q≠r:=fun y=>by rw[y,hR3.1] at hqn;cases hqn
    have hqH:H q=none:=by rw[show O8 t H r dx u p3 q=H q from Bd nqr] at hqn;exact hqn
    have hN6:AoV (nw H (O8 t H4 r dx u p6)) ts vs':=(hN4.mono (Ami (by rw[hR3.1];exact fun y=>nomatch y) s6)).mono (As8 fun b e=>by
     by_cases eb:b=r
     ·rw[eb,hR3.1] at e;cases e
     ·rw[show O8 t H r dx u p3 b=H b from Bd eb] at e;exact e)
    have sH6:=sH4.trans s6
    have hq6:=s6 _ _ nqr hq4
    have heq:upd H4 r (.ins t.Br dx (rf u p6))=O8 t H4 r dx u p6:=rfl
    rw[heq]
    generalize O8 t H4 r dx u p6=H6 at hR6 hN6 sH6 hq6 ⊢
    refine⟨_,rfl,_,rfl,(by show 2≤sizeLine;decide),fun a ha=>?_⟩
    have nar:a≠r:=fun y=>by rw[y,hR6.1] at ha;cases ha
    have naq:a≠q:=fun y=>by rw[y,hq6] at ha;cases ha
    have haH:H a=none:=by
     cases e:H a with
     | none=>rfl
     | some o=>rw[sH6 a o nar e] at ha;cases ha
    refine k1 (.node z ts) _ p6 (.ref a) _ rfl (by omega) (by rw[b6.1,d5.1];rfl) (fun b o hb e=>by rw[Bd (Bs (sH6 b o hb e) ha)];exact sH6 b o hb e) ⟨by rw[Bd nar.symm];exact hR6.1,hR6.2⟩ (.node (q:=q) (vs:=vs') ?_ ?_ hN6.1 (fun i x v g1 g2=>(hN6.2 i x v g1 g2).mono fun b o e=>?_))
    ·rw[AhU haH];exact Ad
    ·rw[AhU hqH,Bd naq.symm];exact hq6
    ·have g:=AmW e
     rw[AhU g.1,Bd (Bs g.2 ha)]
     exact g.2
   ·rw[hd4] at A2M
    have e9:=AhT (u:=u) (p:=p4) (c:=41) (by rw[hd4];exact A2M)
    rw[hd4] at e9
    rw[e9] at k2
    refine⟨_,rfl,?_⟩
    refine Tn ?_
    exact⟨by decide,k2 rfl _ sH4⟩
  ·rw[AhT hno] at k1 k2
   dsimp only at k1 k2
   refine⟨_,rfl,?_⟩
   refine Tn ?_
   refine⟨_,rfl,z,rfl,hz,fun H1 s1=>?_⟩
   refine⟨_,rfl,?_⟩
   cases cn:Pat.isName z with
   | true =>
    rw[cn,if_pos rfl] at k1
    refine ZF ?_
    refine⟨_,rfl,(by show 2≤sizeLine;decide),fun a ha=>?_⟩
    have sH:HF r H H1:=(AeQ hR p2).trans fun b o _ e=>s1 b o e
    have hr1:H1 r=some (.ins t.Br dx (rf u p2)):=s1 _ _ hR2.1
    have nar:a≠r:=fun y=>by rw[y,hr1] at ha;cases ha
    have haH:H a=none:=by
     cases e:H a with
     | none=>rfl
     | some o=>rw[sH a o nar e] at ha;cases ha
    refine k1 (.nam z) _ p2 (.ref a) _ rfl (by omega) rfl (fun b o hb e=>by rw[Bd (Bs (sH b o hb e) ha)];exact sH b o hb e) ⟨by rw[Bd nar.symm];exact hr1,b2.2,hR.2.2⟩ (.nam ?_)
    rw[AhU haH]
    exact Ad
   | false =>
    rw[cn] at k2
    refine Tn ?_
    exact⟨by decide,k2 (if_neg (fun y=>nomatch y)) _ ((AeQ hR p2).trans fun b o _ e=>s1 b o e)⟩
theorem A2N{k:Nat}{CX:CXT}{f:Addr}{fd:FuncData}{ps:List Str}:Aq P w K mg base CX k f fd ps (fun _ _ _ _=>False):=⟨fun _ _ _ _ h=>h.elim,fun _ _ _ _ _ _ _ _ _ _ _ _ _ h=>h.elim⟩
theorem AmZ{k:Nat}(hk:2≤k)(T:Txt K mg t):Aq P w K mg base (CX1 P w) (k+1) t.Hz t.Rr ["reader", "depth"] (AhV t 0):=by
 have Hq:Aq P w K mg base CX0 1 t.Fg t.Ml _ _:=Sq T
 have Bl:Aq P w K mg base CX0 2 t.BJ t.Ek _ _:=Fw T
 have Aj4:Aq P w K mg base CX0 1 t.O3 t.AeK _ _:=AmV T
 have ZW:Aq P w K mg base (CX1 P w) 1 t.Hn t.Ug ["reader", "word", "depth"] _:=A2N
 refine T.Ru.F.okX O2 (fun vs H Q E h=>?_) (fun cdv A outer s H vs Q E hr h=>?_)
 ·obtain⟨r,dx,u,p,dep,rfl,_⟩:=h
  rfl
 ·obtain⟨r,dx,u,p,dep,rfl,A1a,hR,k1,k2⟩:=h
  refine⟨_,(Ae (Ck (Az Yb (pv 1) (Cq (v:=.int 12) rfl T.AkW.choose_spec ⟨_,rfl⟩) (Bh _))
    (Ag (Eu Kv rfl (fun _ _ z=>z) PySem.F.excBase_ValueError Jc PySem.F.excBase_ValueError T.BK.q rfl T.Cm (Aa Af Ac)))
    Bf)
   (Ae (CP (i:=2) O2.nd rfl (Or.inl rfl) (Hd (pv 0) T.Bx.c T.Ar.m (Bl.mono (by omega)) hr T.Ar.b .nil Ax (Aa (Cq (v:=.str "abcdefghijklmnopqrstuvwxyz") rfl T.Ajz.choose_spec ⟨_,rfl⟩) Ac)))
   (Ae (BX (Hd (pv 0) T.Bx.c T.Ar.m (Bl.mono (by omega)) hr T.Ar.b .nil Ax (Aa Af Ac)))
   (Ae (Ck (Wu (Rx (Hd (pv 0) T.Bx.c T.El.m (Hq.mono (by omega)) hr T.El.b .nil Ax (Aa Af Ac))))
    (Ae (Ck (Wu (Rx (Bc (Aj4.mono (by omega)) hr rfl T.Ab3.m T.Ab3.F.kp T.Ab3.b .nil Ax (Aa (pv 2) Ac))))
     (Ag (Eu Kv rfl (fun _ _ z=>z) PySem.F.excBase_ValueError Jc PySem.F.excBase_ValueError T.BK.q rfl T.Cm (Aa Af Ac)))
     Bf)
    (Ag (Bm (K5 (Aa (pv 2) (Aa Abr Ac))))))
    Bf)
   (Ae (BX (Hd (pv 0) T.Bx.c T.Ar.m (Bl.mono (by omega)) hr T.Ar.b .nil Ax (Aa Af Ac)))
   (Ae (CP (i:=3) O2.nd rfl (Or.inl rfl) (Bc (ZW.mono (by omega)) hr rfl T.NB.m T.NB.F.kp T.NB.b .nil Ig (Aa (pv 0) (Aa (pv 2) (Aa (Bo Mr (pv 1) Am) Ac)))))
   (Ae (Ck (Wu (Rx (Hd (pv 0) T.Bx.c T.El.m (Hq.mono (by omega)) hr T.El.b .nil Ax (Aa Af Ac))))
    (Ag (Eu Kv rfl (fun _ _ z=>z) PySem.F.excBase_ValueError Jc PySem.F.excBase_ValueError T.BK.q rfl T.Cm (Aa Af Ac)))
    Bf)
   (Ae (BX (Hd (pv 0) T.Bx.c T.Ar.m (Bl.mono (by omega)) hr T.Ar.b .nil Ax (Aa Af Ac)))
   (Ag (Bm (K5 (Aa (pv 2) (Aa (pv 3) Ac))))))))))))),?_⟩
  refine⟨_,rfl,_,_,rfl,rfl,_,rfl,?_⟩
  refine Mw (by omega) ?_
  exact⟨by decide,k2 rfl _ (fun b o _ e=>e)⟩
theorem Aqc(T:Txt K mg t):∀ d,Aq P w K mg base (CX1 P w) (2*d+5) t.Hz t.Rr ["reader", "depth"] (AhV t d)
 | 0=>AmZ (k:=4) (by decide) T
 | d+1=>AoX (k:=2*d+6) (by omega) T (AlA (k:=2*d+5) (by omega) T (Aqc T d))
def Awn (t:Adr):Sp:=fun vs H Q E=>∃ u,vs=[.str (tx u)]∧u.length≤1000000 ∧
 (∀ x v H',Pat.whole u=some x→Bv H H'→AtN (nw H H') x v→Q v H')∧(Pat.whole u=none→∀ H',Bv H H'→E (.ref t.Aj) none H')
theorem Ana(T:Txt K mg t):Aq P w K mg base (CX1 P w) 30 t.J0 t.Ab1 ["text"] (Awn t):=by
 have Adl:Aq P w K mg base (CX1 P w) 29 t.Hz t.Rr _ _:=Aqc T 12
 have WR:Aq P w K mg base CX0 1 t.FW t.R8 _ _:=Acy T
 have Bl:Aq P w K mg base CX0 2 t.BJ t.Ek _ _:=Fw T
 have AhW:Aq P w K mg base CX0 1 t.Du t.R7 _ _:=Ag2 T
 refine T.Ab6.F.okX ZL (fun vs H Q E h=>?_) (fun cdv A outer s H vs Q E hr h=>?_)
 ·obtain⟨u,rfl,_⟩:=h
  rfl
 ·obtain⟨u,rfl,hu,k1,k2⟩:=h
  refine⟨_,(Ae (CP (i:=1) ZL.nd rfl (Or.inl rfl) (Mt T.Bx.m (AhW.mono (by decide)) hr rfl T.Ax8 T.Yo.b .nil Ax (Aa (pv 0) Ac)))
   (Ae (BX (Hd (pv 1) T.Bx.c T.Ar.m (Bl.mono (by decide)) hr T.Ar.b .nil Ax (Aa Af Ac)))
   (Ae (CP (i:=2) ZL.nd rfl (Or.inl rfl) (Bc (Adl.mono (by decide)) hr rfl T.Ru.m T.Ru.F.kp T.Ru.b .nil Ig (Aa (pv 1) (Aa Am Ac))))
   (Ae (Ck (Wu (Rx (Amw (pv 1) T.Bx.c T.Ou.m (WR.mono (by decide)) hr T.Ou.b .nil Ax)))
    (Ag (Eu Kv rfl (fun _ _ z=>z) PySem.F.excBase_ValueError Jc PySem.F.excBase_ValueError T.BK.q rfl T.Cm (Aa Af Ac)))
    Bf)
   (Ag (Bm (pv 2))))))),?_⟩
  refine⟨_,rfl,fun r dx hr1 hdx hne=>⟨r,dx,u,rfl,Ad,?_⟩⟩
  rw[Ow]
  refine⟨rfl,?_⟩
  have hR0:Rd t (O8 t (upd H dx (.own r)) r dx u 0) r dx u 0:=⟨Ad,A6c _,hu⟩
  have b1:=behind (u:=u) (p:=0) (fun c=>decide (c=32)) (A6c _)
  refine⟨_,rfl,r,dx,rf u 0,rfl,hR0.1,(Jl u _).2.2.2,r,dx,u,0,[32],(by rw[Adj];rfl),hR0,(by decide),?_⟩
  rw[WT AkX,Ow]
  obtain⟨p1,e1⟩:∃ p1,p1=0+((u.drop 0).takeWhile fun c=>decide (c=32)).length:=⟨_,rfl⟩
  rw[← e1] at b1 ⊢
  have hR1:Rd t (O8 t (upd H dx (.own r)) r dx u p1) r dx u p1:=⟨Ad,b1.2,hu⟩
  have d1:u.drop p1=Pat.sk u:=b1.1
  unfold Pat.whole at k1 k2
  rw[← d1] at k1 k2
  have sH:∀ H',HF r (O8 t (upd H dx (.own r)) r dx u p1) H'→Bv H H':=fun H' sb b o e=>by
   have n1:=Bs e hr1
   refine sb b o n1 ?_
   show(upd (upd H dx _) r _) b=_
   rw[Bd n1,Bd (Bs e hdx)]
   exact e
  refine⟨_,rfl,r,dx,u,p1,1,rfl,rfl,hR1,fun x l p4 v H4 hz4 hp4 hd4 sb4 hR4 hN4=>?_,fun hz4 H' sb=>k2 (by rw[hz4]) H' (sH H' sb)⟩
  have hN4:AtN (nw (O8 t (upd H dx (.own r)) r dx u p1) H4) x v:=hN4
  rw[hz4] at k1 k2
  refine⟨_,rfl,r,dx,rf u p4,rfl,hR4.1,(Jl u _).1,r,dx,u,p4,rfl,hR4,?_⟩
  refine⟨_,rfl,?_⟩
  by_cases c:p4=u.length
  ·rw[decide_eq_true c]
   refine ZF ?_
   have el:l=[]:=by rw[← hd4,c,List.drop_length]
   refine⟨_,rfl,k1 x v H4 (by rw[el]) (sH H4 sb4) (hN4.mono (As8 fun b e=>?_))⟩
   by_cases e1:b=r
   ·rw[e1];exact hr1
   ·by_cases e2:b=dx
    ·rw[e2];exact hdx
    ·have e:(upd (upd H dx (.own r)) r (.ins t.Br dx (rf u p1))) b=none:=e
     rw[Bd e1,Bd e2] at e
     exact e
  ·rw[decide_eq_false c]
   refine Tn ?_
   have el:l≠[]:=fun y=>by
    rw[y] at hd4
    have:=congrArg List.length hd4
    rw[A6l] at this
    have:=hR4.2.1
    simp only [A6a] at *
    omega
   refine⟨by decide,k2 ?_ _ (sH H4 sb4)⟩
   cases l with
   | nil=>exact absurd rfl el
   | cons _ _=>rfl
end
theorem AsB(z:List Nat):∀(ys:List (List Nat)) (acc:Array Nat),(ys.map tx).foldl (fun acc p=>acc++(tx z).cps++p.cps) acc=acc++((ys.map fun y=>z++y).flatten).toArray
 | [],acc=>by simp
 | y::ys,acc=>by
  rw[A5P,A7a,AsB z ys]
  simp[tx]
theorem Anb(z y:List Nat)(ys:List (List Nat)):Txt.join (tx z) ((y::ys).map tx)=tx (y++(ys.map fun y=>z++y).flatten):=by
 show Str.mk _=_
 simp only [A5P,List.drop_one,A7c,List.headD_cons]
 rw[AsB]
 simp[tx]
section
variable {P:Program}{w:World}{K:PySem.W.Frag}{mg:Str→Option Value}{base:Heap}{t:Adr}
def pf (l:Addr)(z:Str):List (Str × V):=[("texts", .ref l),("writing", .str z)]
def AxS (K:PySem.W.Frag):Sp:=fun vs H Q _=>∃(C r dx a:Addr) (ts:List (List Nat)) (z:Str),vs=[.ref r,.ref a,.str z]∧H r=some (.ins C dx [])∧Cls K C∧De K C "texts" ∧ De K C "writing" ∧ SqL K H a (vS ts) ∧
 ∀ l,H l=none→Q .non (upd (upd H l (.lst (vS ts))) r (.ins C dx (pf l z)))
theorem Cd(T:Txt K mg t):Aq P w K mg base CX0 1 t.Ba t.BV ["self", "texts", "writing"] (AxS K):=by
 refine T.Ca.F.ok AhI (fun vs H Q E h=>?_) (fun cdv A outer s H vs Q E hr h=>?_)
 ·obtain⟨C,r,dx,a,ts,z,rfl,_⟩:=h
  rfl
 ·obtain⟨C,r,dx,a,ts,z,rfl,h1,hc,hn1,hn2,hS,k⟩:=h
  refine⟨_,(Ae (Ah8 (K:=K) (pv 0) (Er (Afp (K:=K)) rfl T.AtQ Aqx (Aa (pv 1) Ac)))
   (Ag (Ah8 (K:=K) (pv 0) (pv 2)))),?_⟩
  refine⟨_,rfl,_,_,rfl,.inl hS,fun l hl=>?_⟩
  have nlr:r≠l:=Bs h1 hl
  have h1':(upd H l (.lst (vS ts))) r=some (.ins C dx []):=by rw[Bd nlr];exact h1
  refine⟨_,rfl,_,_,_,_,rfl,h1',hc,hn1,(by decide),?_⟩
  refine⟨_,rfl,_,rfl,_,_,_,_,rfl,Ad,hc,hn2,(by show 1<1000;decide),?_⟩
  rw[Ow]
  exact k l hl
def pcs (t:Adr):List Addr:=[t.Dl,t.FP,t.Dm,t.Dp,t.Cv,t.Dv,t.Cw,t.Dw,t.Gh,t.BR,t.FQ,t.Cr,t.Je]
structure PcC (K:PySem.W.Frag) (t:Adr) (C:Addr):Prop where
 c:Cls K C
 n1:De K C "texts"
 n2:De K C "writing"
 wide:Meth K C "wide" t.Av
 high:Meth K C "high" t.Aw
 sign:Meth K C "sign" t.Be
 A2O:Meth K C "cloth" t.Al
 told:Meth K C "told" t.An
theorem pcC(T:Txt K mg t){C:Addr}(h:C∈pcs t):PcC K t C:=by
 simp only [pcs,A5U,A5V,or_false] at h
 rcases h with rfl | rfl | rfl | rfl | rfl | rfl | rfl | rfl | rfl | rfl | rfl | rfl | rfl
 ·exact⟨T.AqD.c,T.Kc,T.Iz,T.Qe,T.Qf,T.Qg,T.NK,T.Qh⟩
 ·exact⟨T.AtR.c,T.Mm,T.Jp,T.RG,T.RJ,T.RK,T.Qi,T.RL⟩
 ·exact⟨T.AqE.c,T.Kd,T.IK,T.Qj,T.Qk,T.Ql,T.NP,T.Qm⟩
 ·exact⟨T.AqF.c,T.Ke,T.IV,T.Qn,T.Qo,T.Qp,T.NQ,T.Qq⟩
 ·exact⟨T.AmQ.c,T.Jq,T.HJ,T.NT,T.NZ,T.Oa,T.Lx,T.Ob⟩
 ·exact⟨T.AqG.c,T.Kf,T.IW,T.Qs,T.Qt,T.Qu,T.Od,T.Qv⟩
 ·exact⟨T.AmR.c,T.Jr,T.HN,T.Oe,T.Og,T.Oh,T.Ly,T.Oj⟩
 ·exact⟨T.AqH.c,T.Kg,T.Ja,T.Qw,T.Qx,T.Qy,T.Ol,T.Qz⟩
 ·exact⟨T.AtS.c,T.Mp,T.Js,T.RM,T.RN,T.RP,T.Q0,T.RQ⟩
 ·exact⟨T.Aj1.c,T.Jb,T.Hc,T.Lz,T.LC,T.LK,T.Kh,T.LQ⟩
 ·exact⟨T.AtT.c,T.Mq,T.Jt,T.RT,T.RW,T.RX,T.Q3,T.RZ⟩
 ·exact⟨T.AmS.c,T.Ju,T.HQ,T.Om,T.Oo,T.Oq,T.LR,T.Ot⟩
 ·exact⟨T.Ax7.c,T.O7,T.Kl,T.Ve,T.Vf,T.Vg,T.Sh,T.Vh⟩
def Pc (t:Adr)(H:Hp)(p:Addr)(x:List (List Nat))(z:List Nat):Prop:=∃ C dx l,C∈pcs t∧H p=some (.ins C dx (pf l (tx z)))∧H l=some (.lst (vS x))
theorem Pc.mono{H H':Hp}{p:Addr}{x:List (List Nat)}{z:List Nat}(h:Pc t H p x z)(s:∀ b o,H b=some o→H' b=some o):Pc t H' p x z:=by
 obtain⟨C,dx,l,hC,h1,h2⟩:=h
 exact⟨C,dx,l,hC,s _ _ h1,s _ _ h2⟩
theorem Anc(l:Addr)(z:Str):(pf l z).lookup ("texts" : Str)=some (V.ref l):=rfl
theorem AtW(l:Addr)(z:Str):(pf l z).lookup ("writing" : Str)=some (V.str z):=rfl
theorem Amk(l:Addr)(z:Str):(pf l z).lookup ("wide" : Str)=none∧(pf l z).lookup ("high" : Str)=none∧(pf l z).lookup ("sign" : Str)=none∧(pf l z).lookup ("cloth" : Str)=none∧(pf l z).lookup ("told" : Str)=none:=⟨rfl,rfl,rfl,rfl,rfl⟩
theorem AsC{cl:List (List Nat)}{i:Nat}{x:List Nat}(h:cl[i]?=some x):atI (vS cl) (i:Int)=some (.str (tx x)):=Fi (by omega) (by rw[A5Z];unfold vS;rw[A5T,h];rfl)
theorem Cl.at{x:List (List Nat)}{m n i:Nat}(C:Cl x m n)(h:i<n):∃ u,x[i]?=some u∧u.length=m:=by
 have hi:i<x.length:=by rw[C.hn];exact h
 exact⟨x[i],A5L hi,C.hm _ (A6m hi)⟩
def Avc (t:Adr):Sp:=fun vs H Q _=>∃ p x z m n,vs=[.ref p]∧Pc t H p x z∧Cl x m n∧Q (.int ((m:Nat):Int)) H
theorem Q4(T:Txt K mg t):Aq P w K mg base CX0 1 t.Av t.K8 ["self"] (Avc t):=by
 refine T.GC.F.ok AoR (fun vs H Q E h=>?_) (fun cdv A outer s H vs Q E hr h=>?_)
 ·obtain⟨p,x,z,m,n,rfl,_⟩:=h
  rfl
 ·obtain⟨p,x,z,m,n,rfl,⟨C,dx,l,hC,hp,hl⟩,D,k⟩:=h
  have C:=pcC T hC
  obtain⟨u,hu,hul⟩:=D.at D.n1
  have:=D.m40
  refine⟨_,(Ag (Bm (Bw Dd rfl T.Jg Gg (Aa (Ge (Fp (K:=K)) (Mx (K:=K) (pv 0) rfl) Am (fun _ _=>rfl)) Ac)))),?_⟩
  refine⟨_,rfl,_,_,_,_,_,rfl,hp,C.c,C.n1,Anc _ _,_,_,_,_,rfl,rfl,SqL.of hl,AsC (i:=0) hu,_,rfl,(by rw[Ao,hul];exact big (by omega)),?_⟩
  rw[Ao,hul]
  exact k
def Avd (t:Adr):Sp:=fun vs H Q _=>∃ p x z m n,vs=[.ref p]∧Pc t H p x z∧Cl x m n∧Q (.int ((n:Nat):Int)) H
theorem Q5(T:Txt K mg t):Aq P w K mg base CX0 1 t.Aw t.K9 ["self"] (Avd t):=by
 refine T.GD.F.ok AoS (fun vs H Q E h=>?_) (fun cdv A outer s H vs Q E hr h=>?_)
 ·obtain⟨p,x,z,m,n,rfl,_⟩:=h
  rfl
 ·obtain⟨p,x,z,m,n,rfl,⟨C,dx,l,hC,hp,hl⟩,D,k⟩:=h
  have C:=pcC T hC
  refine⟨_,(Ag (Bm (Bw (CV (K:=K)) rfl T.Jg Gg (Aa (Mx (K:=K) (pv 0) rfl) Ac)))),?_⟩
  refine⟨_,rfl,_,_,_,_,_,rfl,hp,C.c,C.n1,Anc _ _,_,_,rfl,.inl (SqL.of hl),?_⟩
  rw[DG,D.hn]
  exact k
def AsD (t:Adr):Sp:=fun vs H Q _=>∃ p x z,vs=[.ref p]∧Pc t H p x z∧∀ l,H l=none→Q (.ref l) (upd H l (.lst (vS x)))
theorem Ga(T:Txt K mg t):Aq P w K mg base CX0 1 t.Al t.Fb ["self"] (AsD t):=by
 refine T.Dc.F.ok AmN (fun vs H Q E h=>?_) (fun cdv A outer s H vs Q E hr h=>?_)
 ·obtain⟨p,x,z,rfl,_⟩:=h
  rfl
 ·obtain⟨p,x,z,rfl,⟨C,dx,l,hC,hp,hl⟩,k⟩:=h
  have C:=pcC T hC
  refine⟨_,(Ag (Bm (Er (Afp (K:=K)) rfl T.AtQ Aqx (Aa (Mx (K:=K) (pv 0) rfl) Ac)))),?_⟩
  exact⟨_,rfl,_,_,_,_,_,rfl,hp,C.c,C.n1,Anc _ _,_,_,rfl,.inl (SqL.of hl),fun q hq=>k q hq⟩
def Ave (t:Adr):Sp:=fun vs H Q _=>∃ p x z,vs=[.ref p]∧Pc t H p x z∧Q (.str (tx z)) H
theorem Gx(T:Txt K mg t):Aq P w K mg base CX0 1 t.An t.Gb ["self"] (Ave t):=by
 refine T.Dz.F.ok AoT (fun vs H Q E h=>?_) (fun cdv A outer s H vs Q E hr h=>?_)
 ·obtain⟨p,x,z,rfl,_⟩:=h
  rfl
 ·obtain⟨p,x,z,rfl,⟨C,dx,l,hC,hp,hl⟩,k⟩:=h
  have C:=pcC T hC
  refine⟨_,(Ag (Bm (Mx (K:=K) (pv 0) rfl))),?_⟩
  exact⟨_,rfl,_,_,_,_,_,rfl,hp,C.c,C.n2,AtW _ _,k⟩
def AxT (t:Adr):Sp:=fun vs H Q E=>∃ m n:Nat,vs=[.int (m:Int),.int (n:Int)]∧(m≤40∧n≤40→Q .non H)∧(40<m∨40<n→∀ H',Bv H H'→E (.ref t.Ay) none H')
theorem Ko(T:Txt K mg t):Aq P w K mg base (CX1 P w) 2 t.Fj t.Jz ["ends", "picks"] (AxT t):=by
 refine T.Dy.F.okX AoP (fun vs H Q E h=>?_) (fun cdv A outer s H vs Q E hr h=>?_)
 ·obtain⟨m,n,rfl,_⟩:=h
  rfl
 ·obtain⟨m,n,rfl,k1,k2⟩:=h
  refine⟨_,(Ag (Ck (PW.pt (pw_or (Az Yb (pv 0) (Cq (v:=.int 40) rfl T.G7.choose_spec ⟨_,rfl⟩) (Bh _)) (pw_or1 (Az Yb (pv 1) (Cq (v:=.int 40) rfl T.G7.choose_spec ⟨_,rfl⟩) (Bh _)))))
    (Ag (Eu Kv rfl (fun _ _ z=>z) PySem.F.excBase_ValueError Jc PySem.F.excBase_ValueError T.Rj.q rfl T.Ab8 (Aa Af Ac)))
    Bf)),?_⟩
  refine⟨_,rfl,_,_,rfl,rfl,_,rfl,?_⟩
  refine Hu (fun c1=>?_) (fun c1=>?_)
  ·refine Tn ?_
   exact⟨by decide,k2 (.inl (by omega)) _ (.refl _)⟩
  ·refine⟨_,rfl,_,_,rfl,rfl,_,rfl,?_⟩
   refine Hu (fun c2=>?_) (fun c2=>?_)
   ·exact⟨by decide,k2 (.inr (by omega)) _ (.refl _)⟩
   ·exact k1 (by omega)
theorem A2P(m i:Nat):decide (V.int ((m:Int)%(2+(i:Int)))=V.int 0)=decide (m%(2+i)=0):=by
 apply decide_eq_decide.mpr
 have e:(m:Int)%(2+(i:Int))=((m%(2+i):Nat):Int):=by
  rw[Int.natCast_emod]
  rfl
 rw[e]
 exact⟨fun z=>by injection z with z;omega,fun z=>by rw[z];rfl⟩
def AxU:Sp:=fun vs H Q _=>∃ m n:Nat,vs=[.int (m:Int),.int (n:Int)]∧m≤100∧1≤n∧n≤100∧∀ H',Bv H H'→Q (.bl (!cop m n n)) H'
theorem AsE(T:Txt K mg t):Aq P w K mg base CX0 2 t.N5 t.Agx ["size", "step"] AxU:=by
 refine T.AhM.F.ok Asx (fun vs H Q E h=>?_) (fun cdv A outer s H vs Q E hr h=>?_)
 ·obtain⟨m,n,rfl,_⟩:=h
  rfl
 ·obtain⟨m,n,rfl,hm,hn1,hn,k⟩:=h
  refine⟨_,(Ag (Bm (Aqj (Bw (ApP (K:=K)) rfl T.AzS AwJ (Aa (Ue (Jo.mk (BW:=[0,1]) (Nc:=["k", "size", "step"]) rfl (by decide +kernel) (by decide +kernel) (Jw (sc0:=Ab Jd) rfl (by decide +kernel)) rfl rfl rfl (by decide +kernel) (fun k j h=>match k,h with | 0,h=>by obtain rfl:=Option.some.inj h;exact⟨_,rfl,rfl,rfl⟩ | 1,h=>by obtain rfl:=Option.some.inj h;exact⟨_,rfl,rfl,rfl⟩ | _+2,h=>by simp at h)) rfl (Avz rfl T.AhP (Aa Am (Aa (Bo Mr (pv 1) Am) Ac))) (fun _ _ _ _ _=>.nil) (fun _ _ _ _ _=>(Agm (Ox GJ (Bo Ms (pv 1) (pv 0)) Am (Bh _)) (Aji (Ox GJ (Bo Ms (pv 2) (pv 0)) Am (Bh _)))))) Ac))))),?_⟩
  refine⟨_,rfl,_,_,rfl,rfl,_,_,rfl,⟨by decide,by decide,by omega,by omega⟩,?_⟩
  rw[show((n:Int)+1-2).toNat=n-1 by omega]
  refine Wz (lo:=2) (n:=n-1) (fun i ys H2=>H2=H∧ys=vB (Aq3 m n i)) ⟨rfl,rfl⟩ ?_ ?_ ?_ ?_
  ·rintro i ys H2 hi ⟨rfl,rfl⟩
   rw[At3,Axl]
   exact A5K _
  ·exact big (by omega)
  ·rintro i ys H2 hi ⟨rfl,rfl⟩
   refine Mv.no ?_
   refine⟨_,rfl,_,rfl,_,_,rfl,rfl,(by show(0:Int)<2+(i:Int);omega),rfl,_,rfl,?_⟩
   rw[A2P]
   have fin:CN (n-1) (fun i ys H3=>H3=H2∧ys=vB (Aq3 m n i)) i (vB (Aq3 m n i)++[.bl (decide (m%(2+i)=0) && decide (n%(2+i)=0))]) H2:=CN.of hi ⟨rfl,by rw[At4,AvV]⟩
   refine Hu (fun c1=>?_) (fun c1=>?_)
   ·refine⟨_,rfl,_,rfl,_,_,rfl,rfl,(by show(0:Int)<2+(i:Int);omega),rfl,?_⟩
    rw[A2P]
    rw[decide_eq_true c1,Bool.true_and] at fin
    exact fin
   ·rw[decide_eq_false c1,Bool.false_and] at fin
    exact fin
  ·rintro ys H2 q ⟨rfl,rfl⟩ hq
   refine⟨_,_,rfl,SqL.of Ad,_,rfl,?_⟩
   exact k _ (.upd hq)
theorem A1c:∀(ys:List (List Nat)),((ys.map tx).map (·.length)).sum+ys.length≤(cj ys).length+1
 | []=>by simp[cj]
 | y::ys=>by
  have h:∀ ys:List (List Nat),((ys.map tx).map (·.length)).sum+ys.length=((ys.map fun y=>[44]++y).flatten).length:=fun ys=>by
   induction ys with
   | nil=>rfl
   | cons x ys ih =>
    rw[A5P,A5P,A6U,A5P,A6d,A5J,A5J,← ih,Ao,A5N,A6o]
    omega
  have:=h ys
  unfold cj
  rw[A5P,A5P,A6U,A5J,Ao,A5N,← this]
  omega
theorem AtX(z:List Nat)(ys:List (List Nat)):(wz z ys).length=z.length+(cj ys).length+2:=by
 unfold wz
 rw[A5J,A5N,A5J,A6o]
 omega
def AtY (K:PySem.W.Frag):Sp:=fun vs H Q _=>∃(a:Addr) (ws:List Nat) (ys:List (List Nat)),vs=[.str (tx ws),.ref a]∧SqL K H a (vS ys)∧ys≠[]∧(wz ws ys).length≤1000000∧Q (.str (tx (wz ws ys))) H
theorem HW(T:Txt K mg t):Aq P w K mg base CX0 1 t.Fo t.HH ["word", "things"] (AtY K):=by
 refine T.written.F.ok AtP (fun vs H Q E h=>?_) (fun cdv A outer s H vs Q E hr h=>?_)
 ·obtain⟨a,ws,ys,rfl,_⟩:=h
  rfl
 ·obtain⟨a,ws,ys,rfl,hS,hne,hw,k⟩:=h
  refine⟨_,(Ag (Bm (Bo Bu (Bo Bu (Bo Bu (pv 0) Af) (Qa (K:=K) PySem.F.plainAttrs_str PySem.F.slot_str_join PySem.F.type_str_join (W3 (K:=K)) Af (Aa (pv 1) Ac))) Af))),?_⟩
  have e1:(("," : Str)).length=1:=by decide +kernel
  have cl:=A1c ys
  rw[AtX] at hw
  refine⟨_,rfl,_,_,rfl,rfl,(by rw[AmY,Ao,Ao];exact big (by simp only [A5N,A6a];omega)),rfl,_,rfl,_,_,ys.map tx,rfl,rfl,(by rw[← Agq];exact hS),?_,?_⟩
  ·rw[e1,A5I,Nat.mul_one]
   have:sizeLine=16777216:=sizeLine_eq
   omega
  ·have ej:Txt.join (tx [44]) (ys.map tx)=tx (cj ys):=by
    cases ys with
    | nil=>exact absurd rfl hne
    | cons y ys=>exact Anb [44] y ys
   rw[AmY,Aj3,Aqb,ej,Gf]
   refine⟨_,_,rfl,rfl,(by rw[Ao,Ao];exact big (by simp only [A5J,A5N,A6a];omega)),?_⟩
   rw[Gf]
   refine⟨_,_,rfl,rfl,(by rw[Ao,Ao];exact big (by simp only [A5J,A5N,A6a];omega)),?_⟩
   rw[Gf,show(ws++[40]++cj ys)++[41]=wz ws ys by unfold wz;simp]
   exact k
theorem z0(i:Nat):(0+(i:Int)).toNat=i:=by omega
theorem AxV(K:PySem.W.Frag)(n:String):PySem.W.kitOne K (.type n) (.type n)=some true:=if_pos (beq_self_eq_true _)
theorem AzT{c d:Nat}:(V.str ⟨#[c]⟩:V)=V.str ⟨#[d]⟩↔c=d :=
 ⟨fun z=>by injection z with z;exact(List.cons.inj (W0 (a:=[c]) (b:=[d]) z)).1,fun z=>by rw[z]⟩
theorem e35:(V.str ⟨#[35]⟩:V)=V.str "#" := congrArg V.str (by decide +kernel)
theorem e46:(V.str ⟨#[46]⟩:V)=V.str "." := congrArg V.str (by decide +kernel)
theorem Jm{n:Nat}(h:n≤40):n≤sizeLine:=A5X h (by decide)
theorem occ{c:Nat}(h:Sg c):(!(!(Builtin.Str.occurrences "#." ⟨#[c]⟩ 0 (Str.length "#.") 1).isEmpty))=false:=by
 rcases h with h | h <;> subst h <;> decide +kernel
def AoY:Sp:=fun vs H Q _=>∃(t:List Nat),vs=[.str (tx t),.int (t.length:Int),.str "#."]∧(∀ c∈t,Sg c)∧t.length≤40∧Q .non H
theorem AoZ(T:Txt K mg t):Aq P w K mg base CX0 1 t.Jy t.Ab0 ["text", "ends", "signs"] AoY:=by
 refine T.Ab5.F.ok Afu (fun vs H Q E h=>?_) (fun cdv A outer s H vs Q E hr h=>?_)
 ·obtain⟨t,rfl,_⟩:=h
  rfl
 ·obtain⟨t,rfl,hsg,hl,k⟩:=h
  refine⟨_,(Ae (Ck (Az Ah2 (Bw Dd rfl T.Jg Gg (Aa (pv 0) Ac)) (pv 1) (Bh _))
    (Ag Qd)
    Bf)
   (Ag (Vm PassesOwn.never rfl (Ajn (pv 0)) (En (i:=3) Afu.nd rfl (Or.inl rfl))
    (Ag (Ck (Az Ah3 (pv 3) (pv 2) rfl)
     (Ag Qd)
     Bf))))),?_⟩
  refine⟨_,rfl,_,rfl,(by rw[Ao];exact Jm hl),_,rfl,rfl,_,rfl,?_⟩
  refine Ah5 (by rw[Ao]) ?_
  refine⟨_,rfl,_,rfl,Aqu (z:=tx t) (fun i σ H2=>∃ v,σ=[some (.str (tx t)),some (.int (t.length:Int)),some (.str "#."),v]∧H2=H) ⟨none,rfl,rfl⟩ ?_ ?_⟩
  ·rintro i c σ H2 hc ⟨v,rfl,rfl⟩
   rw[Am5] at hc
   refine⟨_,rfl,_,rfl,_,_,rfl,rfl,_,rfl,?_⟩
   rw[occ (hsg c (A6e hc))]
   exact ZF ⟨_,rfl,rfl⟩
  ·rintro σ H2 ⟨v,rfl,rfl⟩
   exact k
def AhX (K:PySem.W.Frag):Sp:=fun vs H Q _=>∃(a:Addr) (cl:List (List Nat)) (m n:Nat),vs=[.ref a,.int 1,.str "#."]∧SqL K H a (vS cl)∧Cl cl m n∧∀ p,H p=none→Q (.ref p) (upd H p (.tup [.int (m:Int),.int (n:Int)]))
theorem AhY(T:Txt K mg t):Aq P w K mg base CX0 2 t.Gj t.Tz ["texts", "least", "signs"] (AhX K):=by
 have AqL:Aq P w K mg base CX0 1 t.Jy t.Ab0 _ _:=AoZ T
 refine T.RC.F.ok Rz (fun vs H Q E h=>?_) (fun cdv A outer s H vs Q E hr h=>?_)
 ·obtain⟨a,cl,m,n,rfl,_⟩:=h
  rfl
 ·obtain⟨a,cl,m,n,rfl,hS,C,k⟩:=h
  have hlen:(vS cl).length=n:=by rw[DG,C.hn]
  have h0:0<cl.length:=by rw[C.hn];exact C.n1
  have hm0:=C.hm cl[0] (A6m h0)
  have c1:=C.n1
  have c2:=C.n40
  have c3:=C.m1
  have c4:=C.m40
  refine⟨_,(Ae (Ck (PW.pt (pw_or (Az Ww (Bw (CV (K:=K)) rfl T.Jg Gg (Aa (pv 0) Ac)) (pv 1) (Bh _)) (pw_or1 (Az Yb (Bw (CV (K:=K)) rfl T.Jg Gg (Aa (pv 0) Ac)) (Cq (v:=.int 40) rfl T.G7.choose_spec ⟨_,rfl⟩) (Bh _)))))
    (Ag Qd)
    Bf)
   (Ae (CP (i:=3) Rz.nd rfl (Or.inl rfl) (Bw Dd rfl T.Jg Gg (Aa (Ge (Fp (K:=K)) (pv 0) Am (fun _ _=>rfl)) Ac)))
   (Ae (Ck (PW.pt (pw_or (Az Ww (pv 3) (pv 1) (Bh _)) (pw_or1 (Az Yb (pv 3) (Cq (v:=.int 40) rfl T.G7.choose_spec ⟨_,rfl⟩) (Bh _)))))
    (Ag Qd)
    Bf)
   (Ae (Vm PassesOwn.never rfl (JX (K:=K) (pv 0)) (En (i:=4) Rz.nd rfl (Or.inl rfl))
    (Ag (BX (Bc (AqL.mono (by decide)) hr rfl T.Ab5.m T.Ab5.F.kp T.Ab5.b .nil Ax (Aa (pv 4) (Aa (pv 3) (Aa (pv 2) Ac)))))))
   (Ag (Bm (K5 (Aa (pv 3) (Aa (Bw (CV (K:=K)) rfl T.Jg Gg (Aa (pv 0) Ac)) Ac))))))))),?_⟩
  refine⟨_,rfl,_,_,rfl,.inl hS,_,rfl,_,_,rfl,rfl,_,rfl,?_⟩
  refine Ht (by rw[hlen];omega) ?_
  refine⟨_,rfl,_,_,rfl,.inl hS,_,_,rfl,rfl,_,rfl,?_⟩
  refine Ht (by rw[hlen];omega) ?_
  refine⟨_,rfl,_,_,_,_,rfl,rfl,hS,Fi (by decide) (Aqz (A5L h0)),_,rfl,(by rw[Ao,hm0];exact Jm c4),?_⟩
  rw[Ao,hm0]
  refine⟨_,rfl,_,rfl,_,_,rfl,rfl,_,rfl,?_⟩
  refine Ht (by omega) ?_
  refine⟨_,rfl,_,_,rfl,rfl,_,rfl,?_⟩
  refine Ht (by omega) ?_
  refine⟨_,rfl,_,rfl,⟨_,hS⟩,Aa2 (K:=K) (a:=a) (xs:=vS cl) (fun i σ H2=>∃ v,σ=[some (.ref a),some (.int 1),some (.str "#."),some (.int (m:Int)),v]∧H2=H) ⟨none,rfl,rfl⟩ (fun i σ H2 _ ⟨_,_,e⟩=>e▸hS) ?_ ?_⟩
  ·rintro i x σ H2 hx ⟨v,rfl,rfl⟩
   obtain⟨t,ht,rfl⟩:=ZG hx
   have htm:=A6e ht
   refine⟨_,rfl,_,rfl,_,rfl,t,?_,C.sg t htm,?_,⟨_,rfl,rfl⟩⟩
   ·rw[C.hm t htm];rfl
   ·rw[C.hm t htm];exact c4
  ·rintro σ H2 ⟨v,rfl,rfl⟩
   refine⟨_,rfl,_,rfl,_,_,rfl,.inl hS,(by show 2≤sizeLine;decide),fun p hp=>?_⟩
   rw[hlen]
   exact k p hp
def AsF (K:PySem.W.Frag):Sp:=fun vs H Q _=>∃(a:Addr) (cl:List (List Nat)) (m n:Nat),vs=[.ref a]∧SqL K H a (vS cl)∧Cl cl m n∧∀ p,H p=none→Q (.ref p) (upd H p (.tup [.int (m:Int),.int (n:Int)]))
theorem Vj(T:Txt K mg t):Aq P w K mg base CX0 3 t.HS t.Rh ["cloth"] (AsF K):=by
 have Aj5:Aq P w K mg base CX0 2 t.Gj t.Tz _ _:=AhY T
 refine T.measured.F.ok Asv (fun vs H Q E h=>?_) (fun cdv A outer s H vs Q E hr h=>?_)
 ·obtain⟨a,cl,m,n,rfl,_⟩:=h
  rfl
 ·obtain⟨a,cl,m,n,rfl,hS,C,k⟩:=h
  exact⟨_,(Ag (Bm (Bc (Aj5.mono (by decide)) hr rfl T.RC.m T.RC.F.kp T.RC.b .nil Ax (Aa (pv 0) (Aa Am (Aa Af Ac)))))),_,rfl,a,cl,m,n,rfl,hS,C,k⟩
def AqM (K:PySem.W.Frag):Sp:=fun vs H Q _=>∃(a:Addr) (cl:List (List Nat)) (m n e:Nat),vs=[.ref a,.int (e:Int)]∧SqL K H a (vS cl)∧Cl cl m n∧e<m∧∀ H',Bv H H'→Q (.str (tx (col cl e))) H'
theorem AqN(T:Txt K mg t):Aq P w K mg base CX0 1 t.Kw t.AcZ ["cloth", "end"] (AqM K):=by
 refine T.AeL.F.ok Aq7 (fun vs H Q E h=>?_) (fun cdv A outer s H vs Q E hr h=>?_)
 ·obtain⟨a,cl,m,n,e,rfl,_⟩:=h
  rfl
 ·obtain⟨a,cl,m,n,e,rfl,hS,C,he,k⟩:=h
  have c2:=C.n40
  have c4:=C.m40
  refine⟨_,(Ag (Bm (Qa (K:=K) PySem.F.plainAttrs_str PySem.F.slot_str_join PySem.F.type_str_join (W3 (K:=K)) Af (Aa (Ue (Jo.mk (BW:=[1]) (Nc:=["text", "end"]) rfl (by decide +kernel) (by decide +kernel) (Jw (sc0:=Ab Hw) rfl (by decide +kernel)) rfl rfl rfl (by decide +kernel) (fun k j h=>match k,h with | 0,h=>by obtain rfl:=Option.some.inj h;exact⟨_,rfl,rfl,rfl⟩ | _+1,h=>by simp at h)) rfl (JX (K:=K) (pv 0)) (fun _ _ _ _ _=>.nil) (fun _ _ _ _ _=>(Ge Amy (pv 0) (pv 1) (fun _ _=>rfl)))) Ac)))),?_⟩
  refine⟨rfl,_,rfl,_,rfl,⟨_,hS⟩,Tq (K:=K) (a:=a) (xs:=vS cl) (fun i ys H2=>H2=H∧ys=vS ((cl.take i).map fun t=>[t.getD e 0])) ⟨rfl,rfl⟩ ?_ ?_ ?_ ?_⟩
  ·rintro i ys H2 hi ⟨rfl,rfl⟩
   refine⟨hS,?_⟩
   rw[DG,A5I,A5S]
   omega
  ·rw[DG,C.hn];exact Jm c2
  ·rintro i x ys H2 hi hx ⟨rfl,rfl⟩
   obtain⟨t,ht,rfl⟩:=ZG hx
   have htm:=A6e ht
   have htl:=C.hm t htm
   have hel:e<t.length:=by omega
   refine Mv.no ?_
   refine⟨_,rfl,_,rfl,_,_,t[e],rfl,rfl,(by rw[Ao,htl];exact Jm c4),(by rw[Q6];exact AuG (A5L hel)),?_⟩
   refine CN.of hi ⟨rfl,?_⟩
   rw[Aqv,QZ,A6i,ht,A5Y]
   simp[List.getD,hel]
  ·rintro ys H2 p ⟨rfl,rfl⟩ hp
   rw[DG,A6p]
   refine⟨_,_,((cl.map fun t=>[t.getD e 0]).map tx),rfl,rfl,SqL.of (by rw[Ad,Agq]),?_,?_⟩
   ·have e1:=AyN (fun t:List Nat=>t.getD e 0) cl
    rw[e1,A5I,A5I,C.hn]
    have:n*(Str.length "")=0:=by rw[show Str.length "" = 0 from by decide +kernel];omega
    omega
   ·rw[show(("" : Str))=tx [] from by decide +kernel,AeD]
    have e2:(cl.map fun t=>[t.getD e 0]).flatten=col cl e:=ApL (fun t:List Nat=>t.getD e 0) cl
    rw[e2]
    exact k _ (.upd hp)
def Awo:Sp:=fun vs H Q _=>∃(t:List Nat),vs=[.str (tx t)]∧t.length≤40∧∀ H',Bv H H'→Q (.str (tx (t.map flip))) H'
theorem Acz(T:Txt K mg t):Aq P w K mg base CX0 1 t.G6 t.R9 ["signs"] Awo:=by
 refine T.KC.F.ok Al5 (fun vs H Q E h=>?_) (fun cdv A outer s H vs Q E hr h=>?_)
 ·obtain⟨t,rfl,_⟩:=h
  rfl
 ·obtain⟨t,rfl,hl,k⟩:=h
  refine⟨_,(Ag (Bm (Qa (K:=K) PySem.F.plainAttrs_str PySem.F.slot_str_join PySem.F.type_str_join (W3 (K:=K)) Af (Aa (Ue (Jo.mk (BW:=[]) (Nc:=["sign"]) rfl (by decide +kernel) (by decide +kernel) (Jw (sc0:=Ab Ew) rfl (by decide +kernel)) rfl rfl rfl (by decide +kernel) (fun _ _ h=>by simp at h)) rfl (Ajn (pv 0)) (fun _ _ _ _ _=>.nil) (fun _ _ _ _ _=>(AcQ (Az GJ (pv 0) Af (Bh _)) Af Af))) Ac)))),?_⟩
  refine⟨rfl,_,rfl,_,rfl,Am4 (z:=tx t) (fun i ys H2=>H2=H∧ys=vS ((t.take i).map fun c=>[flip c])) ⟨rfl,rfl⟩ ?_ ?_ ?_ ?_⟩
  ·rintro i ys H2 hi ⟨rfl,rfl⟩
   rw[DG,A5I,A5S]
   omega
  ·rw[Amb];exact Jm hl
  ·rintro i c ys H2 hi hc ⟨rfl,rfl⟩
   rw[Am5] at hc
   refine Mv.no ?_
   have fin:∀ d,d=flip c→CN (tx t).cps.size (fun i ys H2'=>H2'=H2∧ys=vS ((t.take i).map fun c=>[flip c])) i (vS ((t.take i).map fun c=>[flip c])++[.str (tx [d])]) H2:=fun d hd=>by
    subst hd
    refine CN.of hi ⟨rfl,?_⟩
    rw[QZ,A6i,hc,A5Y]
    rfl
   refine⟨_,rfl,rfl,_,rfl,?_⟩
   refine Hu (fun h=>?_) (fun h=>?_)
   ·have e:c=35:=by
     rw[← e35] at h
     injection h with h
     exact List.cons.inj (W0 h) |>.1
    have:=fin 46 (by rw[e];rfl)
    rw[← Aqv,e46] at this
    exact this
   ·have e:c≠35:=fun z=>h (by rw[z];exact e35)
    have:=fin 35 (by unfold flip;rw[if_neg e])
    rw[← Aqv,e35] at this
    exact this
  ·rintro ys H2 p ⟨rfl,rfl⟩ hp
   rw[Amb,A6p]
   refine⟨_,_,((t.map fun c=>[flip c]).map tx),rfl,rfl,SqL.of (by rw[Ad,Agq]),?_,?_⟩
   ·have e1:=AyN flip t
    rw[e1,A5I,A5I]
    have:t.length*(Str.length "")=0:=by rw[show Str.length "" = 0 from by decide +kernel];omega
    omega
   ·rw[show(("" : Str))=tx [] from by decide +kernel,AeD]
    have e2:=ApL flip t
    rw[e2]
    exact k _ (.upd hp)
def Azv (K:PySem.W.Frag):Sp:=fun vs H Q _=>∃(a:Addr) (cl:List (List Nat)) (m n:Nat),vs=[.ref a]∧SqL K H a (vS cl)∧Cl cl m n∧∀ l H',Bv H H'→H l=none→H' l=some (.lst (vS (back cl)))→Q (.ref l) H'
theorem AtZ(T:Txt K mg t):Aq P w K mg base CX0 4 t.Rp t.Ajw ["cloth"] (Azv K):=by
 have JM:Aq P w K mg base CX0 3 t.HS t.Rh _ _:=Vj T
 have WW:Aq P w K mg base CX0 1 t.G6 t.R9 _ _:=Acz T
 refine T.Amf.F.ok AtM (fun vs H Q E h=>?_) (fun cdv A outer s H vs Q E hr h=>?_)
 ·obtain⟨a,cl,m,n,rfl,_⟩:=h
  rfl
 ·obtain⟨a,cl,m,n,rfl,hS,C,k⟩:=h
  have c2:=C.n40
  have c4:=C.m40
  refine⟨_,(Ae (BX (Bc (JM.mono (by decide)) hr rfl T.measured.m T.measured.F.kp T.measured.b .nil Ax (Aa (pv 0) Ac)))
   (Ag (Bm (Ue (Jo.mk (BW:=[]) (Nc:=["text"]) rfl (by decide +kernel) (by decide +kernel) (Jw (sc0:=Ab Ka) rfl (by decide +kernel)) rfl rfl rfl (by decide +kernel) (fun _ _ h=>by simp at h)) rfl (JX (K:=K) (pv 0)) (fun _ _ _ _ _=>.nil) (fun _ _ _ _ _=>(Bc (WW.mono (by decide)) hr rfl T.KC.m T.KC.F.kp T.KC.b .nil Ax (Aa (Qa (K:=K) PySem.F.plainAttrs_str PySem.F.slot_str_join PySem.F.type_str_join Am8 Af (Aa (Er AkU rfl T.Ag1 AcS (Aa (pv 0) Ac)) Ac)) Ac))))))),?_⟩
  refine⟨_,rfl,a,cl,m,n,rfl,hS,C,fun p hp=>?_⟩
  have s1:Bv H (upd H p (.tup [.int (m:Int),.int (n:Int)])):=.upd hp
  refine⟨_,rfl,_,rfl,⟨_,s1.seq hS⟩,Tq (K:=K) (a:=a) (xs:=vS cl) (fun i ys H2=>Bv H H2∧ys=vS ((cl.take i).map fun t=>t.reverse.map flip)) ⟨s1,rfl⟩ ?_ ?_ ?_ ?_⟩
  ·rintro i ys H2 hi ⟨s2,rfl⟩
   refine⟨s2.seq hS,?_⟩
   rw[DG,A5I,A5S]
   omega
  ·rw[DG,C.hn];exact Jm c2
  ·rintro i x ys H2 hi hx ⟨s2,rfl⟩
   obtain⟨t,ht,rfl⟩:=ZG hx
   have htm:=A6e ht
   have htl:=C.hm t htm
   refine Mv.no ?_
   refine⟨rfl,_,rfl,_,rfl,(by rw[Ao,htl];exact Jm c4),fun q hq=>?_⟩
   refine⟨_,_,q,rfl,rfl,Ad,(by decide +kernel),(by rw[Ao];omega),?_⟩
   rw[Q6,show(("" : Str))=tx [] from by decide +kernel,show(t.reverse.map fun c=>(⟨#[c]⟩:Str))=(t.reverse.map fun c=>[c]).map tx by rw[A6M];rfl,AeD]
   have e2:(t.reverse.map fun c=>[c]).flatten=t.reverse:=(ApL id t.reverse).trans (A6O _)
   rw[e2]
   refine⟨t.reverse,rfl,(by rw[A6G];omega),fun H3 s3=>?_⟩
   refine CN.of hi ⟨((s2.new hq).over (s2.free hq)).trans s3,?_⟩
   rw[QZ,A6i,ht,A5Y]
   rfl
  ·rintro ys H2 p2 ⟨s2,rfl⟩ hp2
   rw[DG,A6p]
   exact k p2 _ (s2.new hp2) (s2.free hp2) Ad
def Aua (K:PySem.W.Frag):Sp:=fun vs H Q _=>∃(a:Addr) (cl:List (List Nat)) (m n:Nat),vs=[.ref a]∧SqL K H a (vS cl)∧Cl cl m n∧∀ l H',Bv H H'→H l=none→H' l=some (.lst (vS (AmG cl m)))→Q (.ref l) H'
theorem Apa(T:Txt K mg t):Aq P w K mg base CX0 4 t.Jx t.Abz ["cloth"] (Aua K):=by
 have JM:Aq P w K mg base CX0 3 t.HS t.Rh _ _:=Vj T
 have WW:Aq P w K mg base CX0 1 t.G6 t.R9 _ _:=Acz T
 have AsG:Aq P w K mg base CX0 1 t.Kw t.AcZ _ _:=AqN T
 refine T.Ab4.F.ok Afs (fun vs H Q E h=>?_) (fun cdv A outer s H vs Q E hr h=>?_)
 ·obtain⟨a,cl,m,n,rfl,_⟩:=h
  rfl
 ·obtain⟨a,cl,m,n,rfl,hS,C,k⟩:=h
  have c2:=C.n40
  have c4:=C.m40
  refine⟨_,(Ae (CP (i:=1) Afs.nd rfl (Or.inl rfl) (Bc (JM.mono (by decide)) hr rfl T.measured.m T.measured.F.kp T.measured.b .nil Ax (Aa (pv 0) Ac)))
   (Ag (Bm (Ue (Jo.mk (BW:=[0]) (Nc:=["end", "cloth"]) rfl (by decide +kernel) (by decide +kernel) (Jw (sc0:=Ab G4) rfl (by decide +kernel)) rfl rfl rfl (by decide +kernel) (fun k j h=>match k,h with | 0,h=>by obtain rfl:=Option.some.inj h;exact⟨_,rfl,rfl,rfl⟩ | _+1,h=>by simp at h)) rfl (AeA rfl T.AhP (Aa (Ge (K7 (K:=K)) (pv 1) Am (fun _ _=>rfl)) Ac)) (fun _ _ _ _ _=>.nil) (fun _ _ _ _ _=>(Bc (WW.mono (by decide)) hr rfl T.KC.m T.KC.F.kp T.KC.b .nil Ax (Aa (Bc (AsG.mono (by decide)) hr rfl T.AeL.m T.AeL.F.kp T.AeL.b .nil Ax (Aa (pv 1) (Aa (pv 0) Ac))) Ac))))))),?_⟩
  refine⟨_,rfl,a,cl,m,n,rfl,hS,C,fun p hp=>?_⟩
  have s1:Bv H (upd H p (.tup [.int (m:Int),.int (n:Int)])):=.upd hp
  refine⟨_,rfl,_,_,_,_,rfl,rfl,SqT.of Ad,Fi (by decide) rfl,(m:Int),rfl,(by omega),(by omega),?_⟩
  rw[A5Z]
  refine Wz (lo:=0) (n:=m) (fun i ys H2=>Bv H H2∧ys=vS ((List.range i).map fun e=>(col cl e).map flip)) ⟨s1,rfl⟩ ?_ ?_ ?_ ?_
  ·rintro i ys H2 hi ⟨s2,rfl⟩
   rw[DG,A5I,A6f]
   omega
  ·exact Jm c4
  ·rintro i ys H2 hi ⟨s2,rfl⟩
   refine Mv.no ?_
   refine⟨_,rfl,_,rfl,a,cl,m,n,i,(by rw[Int.zero_add];rfl),s2.seq hS,C,hi,fun H3 s3=>?_⟩
   refine⟨col cl i,rfl,(by unfold col;rw[A5I,C.hn];omega),fun H4 s4=>?_⟩
   refine CN.of hi ⟨(s2.trans s3).trans s4,?_⟩
   rw[QZ,A6H,A5Y]
   rfl
  ·rintro ys H2 p2 ⟨s2,rfl⟩ hp2
   exact k p2 _ (s2.new hp2) (s2.free hp2) Ad
def AxW (K:PySem.W.Frag)(t:Adr):Sp:=fun vs H Q E=>∃(a:Addr) (cl:List (List Nat)) (m n:Nat) (ac al:Int),vs=[.ref a,.int ac,.int al]∧SqL K H a (vS cl)∧Cl cl m n∧1≤ac∧1≤al ∧
 (((m:Int)*ac≤40∧(n:Int)*al≤40)→∀ l H',Bv H H'→H l=none→H' l=some (.lst (vS (til cl ac.toNat al.toNat)))→Q (.ref l) H')∧(¬((m:Int)*ac≤40∧(n:Int)*al≤40)→∀ H',Bv H H'→E (.ref t.Ay) none H')
theorem Aqd{m:Nat}{z:Int}(hm:1≤m)(hz:1≤z)(h:(m:Int)*z≤40):z≤40:=by
 have:1*z≤(m:Int)*z:=Int.mul_le_mul_of_nonneg_right (by omega) (by omega)
 omega
theorem Ane{m:Nat}{z:Int}(hz:1≤z)(h:(m:Int)*z≤40):z.toNat*m≤40:=by
 have e:z=(z.toNat:Int):=by omega
 rw[e,← A6t] at h
 rw[A6z]
 omega
theorem AxX(cl:List (List Nat)):∀ k:Nat,(List.replicate k (vS cl)).flatten=vS ((List.replicate k cl).flatten)
 | 0=>rfl
 | k+1=>by
  rw[A6g,A6d,AxX cl k,A6g,A6d]
  unfold vS
  rw[A5Y]
theorem AxY(T:Txt K mg t):Aq P w K mg base (CX1 P w) 4 t.Yd t.AqA ["cloth", "across", "along"] (AxW K t):=by
 have JM:Aq P w K mg base CX0 3 t.HS t.Rh _ _:=Vj T
 refine T.AuX.F.okX Asw (fun vs H Q E h=>?_) (fun cdv A outer s H vs Q E hr h=>?_)
 ·obtain⟨a,cl,m,n,ac,al,rfl,_⟩:=h
  rfl
 ·obtain⟨a,cl,m,n,ac,al,rfl,hS,C,h1,h2,k1,k2⟩:=h
  have hsz:sizeLine=16777216:=sizeLine_eq
  have c1:=C.n1
  have c2:=C.n40
  have c3:=C.m1
  have c4:=C.m40
  refine⟨_,(Ae (CP (i:=3) Asw.nd rfl (Or.inl rfl) (Bc (JM.mono (by decide)) hr rfl T.measured.m T.measured.F.kp T.measured.b .nil Ax (Aa (pv 0) Ac)))
   (Ae (Ck (PW.pt (pw_or (Az Yb (Bo ZD (Ge (K7 (K:=K)) (pv 3) Am (fun _ _=>rfl)) (pv 1)) (Cq (v:=.int 40) rfl T.G7.choose_spec ⟨_,rfl⟩) (Bh _)) (pw_or1 (Az Yb (Bo ZD (Ge (K7 (K:=K)) (pv 3) Am (fun _ _=>rfl)) (pv 2)) (Cq (v:=.int 40) rfl T.G7.choose_spec ⟨_,rfl⟩) (Bh _)))))
    (Ag (Eu Kv rfl (fun _ _ z=>z) PySem.F.excBase_ValueError Jc PySem.F.excBase_ValueError T.Rj.q rfl T.Ab8 (Aa Af Ac)))
    Bf)
   (Ag (Bm (Bo Am0 (PE.nox (Ue (Jo.mk (BW:=[1]) (Nc:=["text", "across"]) rfl (by decide +kernel) (by decide +kernel) (Jw (sc0:=Ab R0) rfl (by decide +kernel)) rfl rfl rfl (by decide +kernel) (fun k j h=>match k,h with | 0,h=>by obtain rfl:=Option.some.inj h;exact⟨_,rfl,rfl,rfl⟩ | _+1,h=>by simp at h)) rfl (JX (K:=K) (pv 0)) (fun _ _ _ _ _=>.nil) (fun _ _ _ _ _=>(Bo VL (pv 0) (pv 1))))) (pv 2)))))),?_⟩
  refine⟨_,rfl,a,cl,m,n,rfl,hS,C,fun p hp=>?_⟩
  have s1:Bv H (upd H p (.tup [.int (m:Int),.int (n:Int)])):=.upd hp
  have gp:SqT K (upd H p (.tup [.int (m:Int),.int (n:Int)])) p [.int (m:Int),.int (n:Int)]:=SqT.of Ad
  refine⟨_,rfl,_,_,_,_,rfl,rfl,gp,Fi (by decide) rfl,_,rfl,_,_,rfl,rfl,.inl ⟨by omega,by omega⟩,_,_,rfl,rfl,_,rfl,?_⟩
  refine Hu (fun g1=>?_) (fun g1=>?_)
  ·exact Tn ⟨by decide,k2 (fun z=>by omega) _ s1⟩
  refine⟨_,rfl,_,_,_,_,rfl,rfl,gp,Fi (by decide) rfl,_,rfl,_,_,rfl,rfl,.inl ⟨by omega,by omega⟩,_,_,rfl,rfl,_,rfl,?_⟩
  refine Hu (fun g2=>?_) (fun g2=>?_)
  ·exact⟨by decide,k2 (fun z=>by omega) _ s1⟩
  have b1:(m:Int)*ac≤40:=by omega
  have b2:(n:Int)*al≤40:=by omega
  have a40:=Aqd c3 h1 b1
  have l40:=Aqd c1 h2 b2
  have d1:=Ane h1 b1
  have d2:=Ane h2 b2
  refine⟨_,rfl,_,rfl,⟨_,s1.seq hS⟩,Tq (K:=K) (a:=a) (xs:=vS cl) (fun i ys H2=>H2=upd H p (.tup [.int (m:Int),.int (n:Int)])∧ys=vS (wid (cl.take i) ac.toNat)) ⟨rfl,rfl⟩ ?_ ?_ ?_ ?_⟩
  ·rintro i ys H2 hi ⟨rfl,rfl⟩
   refine⟨s1.seq hS,?_⟩
   unfold wid
   rw[DG,A5I,A5S]
   omega
  ·rw[DG,C.hn];exact Jm c2
  ·rintro i x ys H2 hi hx ⟨rfl,rfl⟩
   obtain⟨t,ht,rfl⟩:=ZG hx
   have htl:=C.hm t (A6e ht)
   refine Mv.no ?_
   refine⟨_,rfl,_,rfl,t,ac,rfl,rfl,by omega,by omega,(by rw[htl,A6z];omega),?_⟩
   refine CN.of hi ⟨rfl,?_⟩
   unfold wid
   rw[QZ,A6i,ht,A5Y]
   rfl
  ·rintro ys H2 q ⟨rfl,rfl⟩ hq
   rw[DG,A6p]
   refine⟨_,rfl,_,_,_,rfl,rfl,Ad,by omega,by omega,?_,fun l hl=>?_⟩
   ·rw[DG]
    unfold wid
    rw[A5I,C.hn,A6z]
    omega
   ·rw[AxX]
    exact k1 ⟨b1,b2⟩ l _ ((s1.new hq).new hl) ((s1.new hq).free hl) Ad
def Azw (K:PySem.W.Frag):Sp:=fun vs H Q _=>∃(b c:Addr) (cb cc:List (List Nat)) (w h:Nat),vs=[.ref b,.ref c]∧SqL K H b (vS cb)∧SqL K H c (vS cc)∧Cl cb w h∧Cl cc w h ∧
 ∀ p H',Bv H H'→H' p=some (.tup [.int (w:Int),.int (h:Int)])→Q (.ref p) H'
theorem AqO(T:Txt K mg t):Aq P w K mg base CX0 4 t.Ky t.Ada ["one", "other"] (Azw K):=by
 have JM:Aq P w K mg base CX0 3 t.HS t.Rh _ _:=Vj T
 refine T.AeM.F.ok AhF (fun vs H Q E h=>?_) (fun cdv A outer s H vs Q E hr h=>?_)
 ·obtain⟨b,c,cb,cc,w,h,rfl,_⟩:=h
  rfl
 ·obtain⟨b,c,cb,cc,w,h,rfl,hB,hC,C,C',k⟩:=h
  refine⟨_,(Ae (CP (i:=2) AhF.nd rfl (Or.inl rfl) (Bc (JM.mono (by decide)) hr rfl T.measured.m T.measured.F.kp T.measured.b .nil Ax (Aa (pv 0) Ac)))
   (Ae (Ck (Az (AyY (K:=K) (hr.AwU)) (Bc (JM.mono (by decide)) hr rfl T.measured.m T.measured.F.kp T.measured.b .nil Ax (Aa (pv 1) Ac)) (pv 2) (Bh _))
    (Ag Qd)
    Bf)
   (Ag (Bm (pv 2))))),?_⟩
  refine⟨_,rfl,b,cb,w,h,rfl,hB,C,fun p np=>?_⟩
  have s1:Bv H (upd H p (.tup [.int (w:Int),.int (h:Int)])):=.upd np
  have hp1:(upd H p (.tup [.int (w:Int),.int (h:Int)])) p=some (.tup (vI [(w:Int),(h:Int)])):=Ad
  generalize upd H p (.tup [.int (w:Int),.int (h:Int)])=H1 at s1 hp1 ⊢
  refine⟨_,rfl,c,cc,w,h,rfl,s1.seq hC,C',fun p' np'=>?_⟩
  have s2:Bv H1 (upd H1 p' (.tup [.int (w:Int),.int (h:Int)])):=.upd np'
  have hp2:(upd H1 p' (.tup [.int (w:Int),.int (h:Int)])) p'=some (.tup (vI [(w:Int),(h:Int)])):=Ad
  generalize upd H1 p' (.tup [.int (w:Int),.int (h:Int)])=H2 at s2 hp2 ⊢
  refine⟨_,rfl,p',p,_,_,rfl,rfl,SqT.of hp2,SqT.of (s2 _ _ hp1),_,rfl,?_⟩
  refine Ah5 rfl ?_
  exact⟨_,rfl,k p _ (s1.trans s2) (s2 _ _ hp1)⟩
def rowOf(u a b:List Nat):List Nat:=u.flatMap fun c=>if c=35 then a else b
theorem AxZ(pr one other:List (List Nat))(u:List Nat):fil (pr++[u]) one other=fil pr one other++(one.zip other).map fun q=>rowOf u q.1 q.2:=by
 unfold fil rowOf
 rw[List.flatMap_append,List.flatMap_singleton]
def Awp (K:PySem.W.Frag)(t:Adr):Sp:=fun vs H Q E=>∃(a b c:Addr) (pr one other:List (List Nat)) (m n w h:Nat),vs=[.ref a,.ref b,.ref c]∧SqL K H a (vS pr)∧SqL K H b (vS one)∧SqL K H c (vS other)∧Cl pr m n∧Cl one w h∧Cl other w h ∧
 (m*w≤40∧n*h≤40→∀ l H',Bv H H'→H l=none→H' l=some (.lst (vS (fil pr one other)))→Q (.ref l) H')∧(40<m*w∨40<n*h→∀ H',Bv H H'→E (.ref t.Ay) none H')
theorem Aj6(T:Txt K mg t):Aq P w K mg base (CX1 P w) 5 t.GK t.Vr ["profile", "one", "other"] (Awp K t):=by
 have JM:Aq P w K mg base CX0 3 t.HS t.Rh _ _:=Vj T
 have AsH:Aq P w K mg base CX0 4 t.Ky t.Ada _ _:=AqO T
 refine T.Uh.F.okX Hb (fun vs H Q E h=>?_) (fun cdv A outer s H vs Q E hr h=>?_)
 ·obtain⟨a,b,c,pr,one,other,m,n,w,h,rfl,_⟩:=h
  rfl
 ·obtain⟨a,b,c,pr,one,other,m,n,w,h,rfl,hA,hB,hC,C,C1,C2,k1,k2⟩:=h
  have hsz:sizeLine=16777216:=sizeLine_eq
  have m1:=C.m1
  have m40:=C.m40
  have n40:=C.n40
  have w40:=C1.m40
  have h40:=C1.n40
  refine⟨_,(Ae (CP (i:=3) Hb.nd rfl (Or.inl rfl) (Bc (JM.mono (by decide)) hr rfl T.measured.m T.measured.F.kp T.measured.b .nil Ax (Aa (pv 0) Ac)))
   (Ae (CP (i:=4) Hb.nd rfl (Or.inl rfl) (Bc (AsH.mono (by decide)) hr rfl T.AeM.m T.AeM.F.kp T.AeM.b .nil Ax (Aa (pv 1) (Aa (pv 2) Ac))))
   (Ae (Ck (PW.pt (pw_or (Az Yb (Bo ZD (Ge (K7 (K:=K)) (pv 3) Am (fun _ _=>rfl)) (Ge (K7 (K:=K)) (pv 4) Am (fun _ _=>rfl))) (Cq (v:=.int 40) rfl T.G7.choose_spec ⟨_,rfl⟩) (Bh _)) (pw_or1 (Az Yb (Bo ZD (Ge (K7 (K:=K)) (pv 3) Am (fun _ _=>rfl)) (Ge (K7 (K:=K)) (pv 4) Am (fun _ _=>rfl))) (Cq (v:=.int 40) rfl T.G7.choose_spec ⟨_,rfl⟩) (Bh _)))))
    (Ag (Eu Kv rfl (fun _ _ z=>z) PySem.F.excBase_ValueError Jc PySem.F.excBase_ValueError T.Rj.q rfl T.Ab8 (Aa Af Ac)))
    Bf)
   (Ae (CP (i:=5) Hb.nd rfl (Or.inl rfl) (GX Ac))
   (Ae (PS.nox (Vm PassesOwn.never rfl (JX (K:=K) (pv 0)) (En (i:=6) Hb.nd rfl (Or.inl rfl))
    (Ag (Vm PassesOwn.never rfl (AwX (K:=K) rfl T.AuY (Aa (pv 1) (Aa (pv 2) Ac))) (AcR rfl (Gy (En (i:=7) Hb.nd rfl (Or.inr rfl)) (Gy (En (i:=8) Hb.nd rfl (Or.inr rfl)) XX)))
     (Ag (BX (Qa (K:=K) PySem.F.plainAttrs_list PySem.F.slot_list_append PySem.F.type_list_append AeC (pv 5) (Aa (Qa (K:=K) PySem.F.plainAttrs_str PySem.F.slot_str_join PySem.F.type_str_join (W3 (K:=K)) Af (Aa (Ue (Jo.mk (BW:=[7,8]) (Nc:=["sign", "of_one", "of_other"]) rfl (by decide +kernel) (by decide +kernel) (Jw (sc0:=Ab DK) rfl (by decide +kernel)) rfl rfl rfl (by decide +kernel) (fun k j h=>match k,h with | 0,h=>by obtain rfl:=Option.some.inj h;exact⟨_,rfl,rfl,rfl⟩ | 1,h=>by obtain rfl:=Option.some.inj h;exact⟨_,rfl,rfl,rfl⟩ | _+2,h=>by simp at h)) rfl (Ajn (pv 6)) (fun _ _ _ _ _=>.nil) (fun _ _ _ _ _=>(AcQ (Az GJ (pv 0) Af (Bh _)) (pv 1) (pv 2)))) Ac)) Ac))))))))
   (Ag (Bm (pv 5)))))))),?_⟩
  refine⟨_,rfl,a,pr,m,n,rfl,hA,C,fun p np=>?_⟩
  have s1:Bv H (upd H p (.tup [.int (m:Int),.int (n:Int)])):=.upd np
  have hp1:(upd H p (.tup [.int (m:Int),.int (n:Int)])) p=some (.tup [.int (m:Int),.int (n:Int)]):=Ad
  generalize upd H p (.tup [.int (m:Int),.int (n:Int)])=H1 at s1 hp1 ⊢
  refine⟨_,rfl,_,rfl,b,c,one,other,w,h,rfl,s1.seq hB,s1.seq hC,C1,C2,fun p2 H2 s2 hp2=>?_⟩
  have u2:=s1.trans s2
  have A2Q:=s2 _ _ hp1
  refine⟨_,rfl,_,_,_,_,rfl,rfl,SqT.of A2Q,Fi (by decide) rfl,_,rfl,_,_,_,_,rfl,rfl,SqT.of hp2,Fi (by decide) rfl,_,_,rfl,rfl,.inl ⟨by omega,by omega⟩,_,_,rfl,rfl,_,rfl,?_⟩
  have em:(m:Int)*(w:Int)=((m*w:Nat):Int):=by rw[A6t]
  have en:(n:Int)*(h:Int)=((n*h:Nat):Int):=by rw[A6t]
  rw[em]
  refine Hu (fun g1=>?_) (fun g1=>?_)
  ·exact Tn ⟨by decide,k2 (.inl (by omega)) _ u2⟩
  refine⟨_,rfl,_,_,_,_,rfl,rfl,SqT.of A2Q,Fi (by decide) rfl,_,rfl,_,_,_,_,rfl,rfl,SqT.of hp2,Fi (by decide) rfl,_,_,rfl,rfl,.inl ⟨by omega,by omega⟩,_,_,rfl,rfl,_,rfl,?_⟩
  rw[en]
  refine Hu (fun g2=>?_) (fun g2=>?_)
  ·exact⟨by decide,k2 (.inr (by omega)) _ u2⟩
  have hm:m*w≤40:=by omega
  have hn:n*h≤40:=by omega
  have k:=k1 ⟨hm,hn⟩
  refine⟨A6c _,fun q nq=>?_⟩
  have s3:Bv H2 (upd H2 q (.lst [])):=.upd nq
  have hq3:(upd H2 q (.lst [])) q=some (.lst (vS [])):=Ad
  generalize upd H2 q (.lst [])=H3 at s3 hq3 ⊢
  have u3:=u2.trans s3
  have nqH:H q=none:=u2.free nq
  refine⟨_,rfl,_,rfl,⟨_,u3.seq hA⟩,Aa2 (K:=K) (a:=a) (xs:=vS pr) (fun i σ H4=>∃(v6 v7 v8:Option V),σ=[some (.ref a),some (.ref b),some (.ref c),some (.ref p),some (.ref p2),some (.ref q),v6,v7,v8]∧Bv H H4∧H4 q=some (.lst (vS (fil (pr.take i) one other))))
   ⟨none,none,none,rfl,u3,hq3⟩ (fun i σ H4 _ ⟨_,_,_,_,s4,_⟩=>s4.seq hA) ?_ ?_⟩
  ·rintro i xv σ H4 hx ⟨v6,v7,v8,rfl,s4,hq4⟩
   obtain⟨u,hu,rfl⟩:=ZG hx
   have lu:=C.hm u (A6e hu)
   have il:i<n:=by rw[← C.hn];exact(List.getElem?_eq_some_iff.mp hu).1
   have et:pr.take (i+1)=pr.take i++[u]:=by rw[A6i,hu];rfl
   have A5z:(fil (pr.take i) one other).length≤40:=by
    unfold fil
    rw[AcU (h:=h) _ fun x _=>by rw[A5I,List.length_zip,C1.hn,C2.hn,A6I],A5S,C.hn,A6N (by omega)]
    exact A5X (Nat.mul_le_mul_right h (A6X il)) hn
   have lz:(one.zip other).length=h:=by rw[List.length_zip,C1.hn,C2.hn,A6I]
   refine⟨_,rfl,_,rfl,b,c,rfl,⟨_,s4.seq hB⟩,⟨_,s4.seq hC⟩,AuL (K:=K) (a:=b) (b:=c) (xs:=vS one) (ys:=vS other) (n:=h) (by rw[DG,DG,C1.hn,C2.hn,A6I]) (fun j σ H5=>∃(v7 v8:Option V),σ=[some (.ref a),some (.ref b),some (.ref c),some (.ref p),some (.ref p2),some (.ref q),some (.str (tx u)),v7,v8]∧Bv H H5∧H5 q=some (.lst (vS (fil (pr.take i) one other++((one.zip other).take j).map fun q=>rowOf u q.1 q.2))))
    ⟨_,_,rfl,s4,by rw[List.take_zero,A6s,A6Y];exact hq4⟩ (fun j σ H5 ⟨_,_,_,s5,_⟩=>⟨s5.seq hB,s5.seq hC⟩) ?_ ?_⟩
   ·rintro j xo yo σ H5 TT hxo hyo ⟨v7',v8',rfl,s5,hq5⟩ nT
    obtain⟨ao,hao,rfl⟩:=ZG hxo
    obtain⟨bo,hbo,rfl⟩:=ZG hyo
    have la:=C1.hm ao (A6e hao)
    have lb:=C2.hm bo (A6e hbo)
    have jl:j<h:=by rw[← C1.hn];exact(List.getElem?_eq_some_iff.mp hao).1
    have zj:(one.zip other)[j]?=some (ao,bo):=List.getElem?_zip_eq_some.mpr ⟨hao,hbo⟩
    have s6:Bv H (upd H5 TT (.tup [.str (tx ao),.str (tx bo)])):=s5.new nT
    have hq6:=(Bv.upd nT (o:=.tup [.str (tx ao),.str (tx bo)])) _ _ hq5
    refine⟨_,_,rfl,SqT.of Ad,rfl,_,_,rfl,_,_,rfl,rfl,?_⟩
    generalize upd H5 TT (.tup [.str (tx ao),.str (tx bo)])=H6 at s6 hq6 ⊢
    refine⟨_,rfl,.inl ⟨rfl,_,SqL.of hq6⟩,rfl,_,rfl,_,rfl,Am4 (z:=tx u) (fun e ys H7=>H7=H6∧ys=vS ((u.take e).map fun c=>if c=35 then ao else bo)) ⟨rfl,rfl⟩ ?_ ?_ ?_ ?_⟩
    ·rintro e ys H7 he ⟨rfl,rfl⟩
     rw[DG,A5I,A5S]
     omega
    ·rw[Amb,lu];exact Jm m40
    ·rintro e cc ys H7 he hcc ⟨rfl,rfl⟩
     rw[Am5] at hcc
     refine Mv.no ?_
     refine⟨_,rfl,rfl,_,rfl,?_⟩
     have hh:("#" : Str)=⟨#[35]⟩:=by decide +kernel
     rw[hh]
     refine Hu (fun z=>?_) (fun z=>?_)
     ·refine⟨_,rfl,CN.of he ⟨rfl,?_⟩⟩
      rw[QZ,A6i,hcc,A5Y]
      show _=vS (_++[if cc=35 then ao else bo])
      rw[if_pos (AzT.mp z)]
     ·refine⟨_,rfl,CN.of he ⟨rfl,?_⟩⟩
      rw[QZ,A6i,hcc,A5Y]
      show _=vS (_++[if cc=35 then ao else bo])
      rw[if_neg fun y=>z (AzT.mpr y)]
    ·rintro ys H7 p7 ⟨rfl,rfl⟩ np7
     rw[Amb,A6p]
     have s7:Bv H (upd H7 p7 (.lst (vS (u.map fun c=>if c=35 then ao else bo)))):=s6.new np7
     have hq7:=(Bv.upd np7 (o:=.lst (vS (u.map fun c=>if c=35 then ao else bo)))) _ _ hq6
     have hp7:(upd H7 p7 (.lst (vS (u.map fun c=>if c=35 then ao else bo)))) p7=some (.lst (vS (u.map fun c=>if c=35 then ao else bo))):=Ad
     generalize upd H7 p7 (.lst (vS (u.map fun c=>if c=35 then ao else bo)))=H8 at s7 hq7 hp7 ⊢
     have ef:(u.map fun c=>if c=35 then ao else bo).flatten=rowOf u ao bo:=by unfold rowOf;rw[List.flatMap_def]
     have lr:(rowOf u ao bo).length=m*w:=by
      unfold rowOf
      rw[AcU (h:=w) u fun x _=>by split;exact la;exact lb,lu]
     refine⟨_,_,((u.map fun c=>if c=35 then ao else bo).map tx),rfl,rfl,SqL.of (by rw[hp7,Agq]),?_,?_⟩
     ·have:∀ l:List (List Nat),((l.map tx).map (·.length)).sum=l.flatten.length:=fun l=>by
       induction l with
       | nil=>rfl
       | cons x l ih=>rw[A5P,A5P,A6U,ih,A6d,A5J,Ao]
      rw[this,ef,lr]
      have:(((u.map fun c=>if c=35 then ao else bo).map tx).length)*(Str.length "")=0:=by rw[show Str.length "" = 0 from by decide +kernel];omega
      omega
     ·rw[show(("" : Str))=tx [] from by decide +kernel,AeD,ef]
      refine⟨_,_,_,rfl,rfl,hq7,(by rw[DG,A5J,A5I,A5S];omega),?_⟩
      rw[QZ]
      refine⟨_,_,rfl,s7.over nqH,?_⟩
      rw[Ad,A6S,A6i,zj,A5Y]
      rfl
   ·rintro σ H5 ⟨v7',v8',rfl,s5,hq5⟩
    rw[A6w (l:=one.zip other) (i:=h) (by omega)] at hq5
    exact⟨_,_,_,rfl,s5,by rw[et,AxZ];exact hq5⟩
  ·rintro σ H4 ⟨v6,v7,v8,rfl,s4,hq4⟩
   rw[DG,A6p] at hq4
   exact⟨_,rfl,k q H4 s4 nqH hq4⟩
theorem Azx{ns:List Int}{k:Nat}(h:k≤ns.length):Aqm (vI ns) none (some (0+(k:Int)))=vI (ns.take k):=by
 unfold Aqm
 rw[Int.zero_add,HT.Amx,HT.Ah4,A7d,QX,A6N h,Nat.sub_zero]
 unfold vI
 rw[List.map_take]
theorem A2R{ns:List Int}{k:Nat}(h:k<ns.length):atI (vI ns) (0+(k:Int))=some (.int (ns.getD k 0)):=by
 refine Fi (by omega) ?_
 rw[z0]
 have e:ns.getD k 0=ns[k]:=by simp[List.getD,h]
 rw[e]
 exact AmA (A5L h)
def Pcs (K:PySem.W.Frag)(H:Hp)(as:List Addr)(ps:List (List (List Nat))):Prop:=as.length=ps.length∧∀ i a,as[i]?=some a→SqL K H a (vS (ps.getD i []))
theorem A1d{as:List Addr}{z:Int}(h0:0≤z)(h:z.toNat<as.length):atI (as.map V.ref) z=some (.ref as[z.toNat]):=Fi h0 (by rw[A5T,A5L h];rfl)
def Aub (K:PySem.W.Frag):Sp:=fun vs H Q _=>∃(a:Addr) (os:List Int) (n:Int),vs=[.ref a,.int n]∧SqL K H a (vI os)∧1≤os.length∧os.length≤40∧(∀ z∈os,0≤z∧z<n)∧Q .non H
theorem AlB(T:Txt K mg t):Aq P w K mg base CX0 1 t.Hx t.WL ["owners", "pieces"] (Aub K):=by
 refine T.KD.F.ok Acs (fun vs H Q E h=>?_) (fun cdv A outer s H vs Q E hr h=>?_)
 ·obtain⟨a,os,n,rfl,_⟩:=h
  rfl
 ·obtain⟨a,os,n,rfl,hS,o1,o40,hz,k⟩:=h
  refine⟨_,(Ae (Ck (PW.pt (pw_or (Az Ww (Bw (CV (K:=K)) rfl T.Jg Gg (Aa (pv 0) Ac)) Am (Bh _)) (pw_or1 (Az Yb (Bw (CV (K:=K)) rfl T.Jg Gg (Aa (pv 0) Ac)) (Cq (v:=.int 40) rfl T.G7.choose_spec ⟨_,rfl⟩) (Bh _)))))
    (Ag Qd)
    Bf)
   (Ag (Vm PassesOwn.never rfl (JX (K:=K) (pv 0)) (En (i:=2) Acs.nd rfl (Or.inl rfl))
    (Ag (Ck (PW.pt (pw_or (Az Ww (pv 2) Am (Bh _)) (pw_or1 (Az AzH (pv 2) (pv 1) (Bh _)))))
     (Ag Qd)
     Bf))))),?_⟩
  refine⟨_,rfl,_,_,rfl,.inl hS,_,_,rfl,rfl,_,rfl,?_⟩
  refine Ht (by rw[QX];omega) ?_
  refine⟨_,rfl,_,_,rfl,.inl hS,_,_,rfl,rfl,_,rfl,?_⟩
  refine Ht (by rw[QX];omega) ?_
  refine⟨_,rfl,_,rfl,⟨_,hS⟩,Aa2 (K:=K) (a:=a) (xs:=vI os) (fun i σ H2=>∃ v,σ=[some (.ref a),some (.int n),v]∧H2=H) ⟨none,rfl,rfl⟩ (fun i σ H2 _ ⟨_,_,e⟩=>e▸hS) ?_ ?_⟩
  ·rintro i x σ H2 hx ⟨v,rfl,rfl⟩
   obtain⟨z,hz2,rfl⟩:=A0v hx
   have hb:=hz z (A6e hz2)
   refine⟨_,rfl,_,_,rfl,rfl,_,rfl,?_⟩
   refine Ht (by omega) ?_
   refine⟨_,rfl,_,rfl,_,_,rfl,rfl,_,rfl,?_⟩
   refine Ht (by omega) ?_
   exact⟨_,rfl,rfl⟩
  ·rintro σ H2 ⟨v,rfl,rfl⟩
   exact k
def Awq (K:PySem.W.Frag):Sp:=fun vs H Q _=>∃(a:Addr) (cl:List (List Nat)) (m n:Nat),vs=[.ref a,.int (m:Int),.int (n:Int)]∧SqL K H a (vS cl)∧cl.length=n∧m≤40∧(∀ t∈cl,t.length=m∧∀ c∈t,Sg c)∧Q .non H
theorem Anf(T:Txt K mg t):Aq P w K mg base CX0 1 t.Io t.ZM ["piece", "ends", "picks"] (Awq K):=by
 refine T.Ye.F.ok W5 (fun vs H Q E h=>?_) (fun cdv A outer s H vs Q E hr h=>?_)
 ·obtain⟨a,cl,m,n,rfl,_⟩:=h
  rfl
 ·obtain⟨a,cl,m,n,rfl,hS,hn,hm,hc,k⟩:=h
  refine⟨_,(Ae (Ck (Az Ah2 (Bw (CV (K:=K)) rfl T.Jg Gg (Aa (pv 0) Ac)) (pv 2) (Bh _))
    (Ag Qd)
    Bf)
   (Ag (Vm PassesOwn.never rfl (JX (K:=K) (pv 0)) (En (i:=3) W5.nd rfl (Or.inl rfl))
    (Ae (Ck (Az Ah2 (Bw Dd rfl T.Jg Gg (Aa (pv 3) Ac)) (pv 1) (Bh _))
     (Ag Qd)
     Bf)
    (Ag (Vm PassesOwn.never rfl (Ajn (pv 3)) (En (i:=4) W5.nd rfl (Or.inl rfl))
     (Ag (Ck (Az Ah3 (pv 4) Af rfl)
      (Ag Qd)
      Bf)))))))),?_⟩
  refine⟨_,rfl,_,_,rfl,.inl hS,_,rfl,rfl,_,rfl,?_⟩
  refine Ah5 (by rw[DG,hn]) ?_
  refine⟨_,rfl,_,rfl,⟨_,hS⟩,Aa2 (K:=K) (a:=a) (xs:=vS cl) (fun i σ H2=>∃ v v2,σ=[some (.ref a),some (.int (m:Int)),some (.int (n:Int)),v,v2]∧H2=H) ⟨none,none,rfl,rfl⟩ (fun i σ H2 _ ⟨_,_,_,e⟩=>e▸hS) ?_ ?_⟩
  ·rintro i x σ H2 hx ⟨v,v2,rfl,rfl⟩
   obtain⟨u,hu,rfl⟩:=ZG hx
   obtain⟨u1,u2⟩:=hc u (A6e hu)
   refine⟨_,rfl,_,rfl,(by rw[Ao,u1];exact Jm hm),_,rfl,rfl,_,rfl,?_⟩
   refine Ah5 (by rw[Ao,u1]) ?_
   refine⟨_,rfl,_,rfl,Aqu (z:=tx u) (fun i σ H3=>∃ v2,σ=[some (.ref a),some (.int (m:Int)),some (.int (n:Int)),some (.str (tx u)),v2]∧H3=H2) ⟨_,rfl,rfl⟩ ?_ ?_⟩
   ·rintro i c σ H3 hc ⟨v2,rfl,rfl⟩
    rw[Am5] at hc
    refine⟨_,rfl,_,_,rfl,rfl,_,rfl,?_⟩
    rw[occ (u2 c (A6e hc))]
    exact ZF ⟨_,rfl,rfl⟩
   ·rintro σ H3 ⟨v2,rfl,rfl⟩
    exact⟨_,_,rfl,rfl⟩
  ·rintro σ H2 ⟨v,v2,rfl,rfl⟩
   exact k
def Apb (os:List Int)(i:Nat):List Int:=(List.range i).map fun k=>(plc os k:Int)
theorem AsI(os:List Int)(i:Nat):(Apb os i).length=i:=by unfold Apb;rw[A5I,A6f]
theorem Awr(os:List Int)(i:Nat):Apb os (i+1)=Apb os i++[(plc os i:Int)]:=by unfold Apb;rw[A6H,A5Y];rfl
theorem AsJ{os:List Int}{i k:Nat}(h:k<i):(Apb os i)[k]?=some (plc os k:Int):=by unfold Apb;rw[A5T,A7f h];rfl
def Aws (K:PySem.W.Frag):Sp:=fun vs H Q _=>∃(a:Addr) (os:List Int),vs=[.ref a]∧SqL K H a (vI os)∧os.length≤40∧∀ l H',Bv H H'→H l=none→H' l=some (.lst (vI (Apb os os.length)))→Q (.ref l) H'
theorem Aj7(T:Txt K mg t):Aq P w K mg base CX0 1 t.GQ t.Vt ["owners"] (Aws K):=by
 refine T.JL.F.ok Ajr (fun vs H Q E h=>?_) (fun cdv A outer s H vs Q E hr h=>?_)
 ·obtain⟨a,os,rfl,_⟩:=h
  rfl
 ·obtain⟨a,os,rfl,hS,o40,k⟩:=h
  refine⟨_,(Ag (Bm (Ue (Jo.mk (BW:=[0]) (Nc:=["k", "owners"]) rfl (by decide +kernel) (by decide +kernel) (Jw (sc0:=Ab DP) rfl (by decide +kernel)) rfl rfl rfl (by decide +kernel) (fun k j h=>match k,h with | 0,h=>by obtain rfl:=Option.some.inj h;exact⟨_,rfl,rfl,rfl⟩ | _+1,h=>by simp at h)) rfl (AeA rfl T.AhP (Aa (Bw (CV (K:=K)) rfl T.Jg Gg (Aa (pv 0) Ac)) Ac)) (fun _ _ _ _ _=>.nil) (fun _ _ _ _ _=>(Qa (K:=K) PySem.F.plainAttrs_list PySem.F.slot_list_count PySem.F.type_list_count (Ajq (K:=K)) (Lw (ArZ (K:=K)) (pv 1) Ud (Mu (pv 0))) (Aa (Ge (Fp (K:=K)) (pv 1) (pv 0) (fun _ _=>rfl)) Ac)))))),?_⟩
  refine⟨_,rfl,_,_,rfl,.inl hS,_,rfl,(by omega),(by rw[QX];omega),?_⟩
  rw[A5Z,QX]
  refine Wz (lo:=0) (n:=os.length) (fun i ys H2=>Bv H H2∧ys=vI (Apb os i)) ⟨.refl _,rfl⟩ ?_ ?_ ?_ ?_
  ·rintro i ys H2 hi ⟨s2,rfl⟩
   rw[QX,AsI]
   exact A5K _
  ·exact Jm o40
  ·rintro i ys H2 hi ⟨s2,rfl⟩
   refine Mv.no ?_
   refine⟨_,rfl,_,rfl,_,rfl,_,_,rfl,s2.seq hS,fun p hp=>?_⟩
   rw[Azx (by omega)]
   have s3:Bv H (upd H2 p (.lst (vI (os.take i)))):=s2.new hp
   refine⟨.inl ⟨rfl,_,SqL.of Ad⟩,_,rfl,_,rfl,_,_,_,_,rfl,rfl,s3.seq hS,A2R hi,_,_,_,rfl,rfl,SqL.of Ad,?_⟩
   refine CN.of hi ⟨s3,?_⟩
   rw[Awr,AwM]
   rfl
  ·rintro ys H2 l ⟨s2,rfl⟩ hl
   exact k l _ (s2.new hl) (s2.free hl) Ad
def Awt:Sp:=fun vs H Q _=>∃(o e:Int) (own:List Nat) (p:Nat),vs=[.int o,.str (tx own),.int e,.int (p:Int)]∧(o=e→p<own.length)∧own.length≤40∧Q (.str ⟨#[Asq o e own p]⟩) H
theorem A1e{u:List Nat}{i:Nat}(h:i<u.length):atI (tx u).cps.toList (i:Int)=some (u.getD i 0):=by
 refine Fi (by omega) ?_
 rw[A5Z]
 show u.toArray.toList[i]?=_
 simp[List.getD,h]
theorem Auc(T:Txt K mg t):Aq P w K mg base CX0 1 t.Rq t.Ajx ["pick_owner", "own", "end_owner", "place"] Awt:=by
 refine T.Amg.F.ok AtO (fun vs H Q E h=>?_) (fun cdv A outer s H vs Q E hr h=>?_)
 ·obtain⟨o,e,own,p,rfl,_⟩:=h
  rfl
 ·obtain⟨o,e,own,p,rfl,hp,h40,k⟩:=h
  refine⟨_,(Ae (Ck (Az GJ (pv 0) (pv 2) (Bh _))
    (Ag (Bm (Ge Amy (pv 1) (pv 3) (fun _ _=>rfl))))
    Bf)
   (Ag (Bm (AcQ (Az Ww (pv 2) (pv 0) (Bh _)) Af Af)))),?_⟩
  unfold Asq at k
  refine⟨_,rfl,_,rfl,rfl,_,rfl,?_⟩
  refine Hu (fun h=>?_) (fun h=>?_)
  ·have h:o=e:=by injection h
   rw[if_pos h] at k
   exact⟨_,rfl,_,rfl,_,_,_,rfl,rfl,(by rw[Ao];exact Jm h40),A1e (hp h),k⟩
  ·have h:¬o=e:=fun z=>h (by rw[z])
   rw[if_neg h] at k
   refine⟨_,rfl,_,rfl,_,_,rfl,rfl,_,rfl,?_⟩
   refine Hu (fun h2=>?_) (fun h2=>?_)
   ·rw[if_pos h2,e35] at k
    exact k
   ·rw[if_neg h2,e46] at k
    exact k
def Azy (K:PySem.W.Frag):Sp:=fun vs H Q _=>∃(p pe po:Addr) (as:List Addr) (ps:List (List (List Nat))) (es os:List Int),vs=[.ref p,.ref pe,.ref po]∧SqL K H p (as.map V.ref)∧Pcs K H as ps∧SqL K H pe (vI es)∧SqL K H po (vI os)∧AtG ps es os ∧
 ∀ l H',Bv H H'→H l=none→H' l=some (.lst (vS (lay ps es os)))→Q (.ref l) H'
theorem Aj8(T:Txt K mg t):Aq P w K mg base CX0 2 t.GP t.Vs ["pieces", "ends", "picks"] (Azy K):=by
 have Adm:Aq P w K mg base CX0 1 t.Hx t.WL _ _:=AlB T
 have Apc:Aq P w K mg base CX0 1 t.Io t.ZM _ _:=Anf T
 have Ac0:Aq P w K mg base CX0 1 t.GQ t.Vt _ _:=Aj7 T
 have Awu:Aq P w K mg base CX0 1 t.Rq t.Ajx _ _:=Auc T
 refine T.Ui.F.ok DW (fun vs H Q E h=>?_) (fun cdv A outer s H vs Q E hr h=>?_)
 ·obtain⟨p,pe,po,as,ps,es,os,rfl,_⟩:=h
  rfl
 ·obtain⟨p,pe,po,as,ps,es,os,rfl,hP,hA,hE,hO,C,k⟩:=h
  have hsz:sizeLine=16777216:=sizeLine_eq
  have al:=hA.1
  have ce1:=C.e1
  have Azz:=C.e40
  have co1:=C.o1
  have A2S:=C.o40
  have ml:(as.map V.ref).length=ps.length:=by rw[A5I,al]
  refine⟨_,(Ae (BX (Bc (Adm.mono (by decide)) hr rfl T.KD.m T.KD.F.kp T.KD.b .nil Ax (Aa (pv 1) (Aa (Bw (CV (K:=K)) rfl T.Jg Gg (Aa (pv 0) Ac)) Ac))))
   (Ae (BX (Bc (Adm.mono (by decide)) hr rfl T.KD.m T.KD.F.kp T.KD.b .nil Ax (Aa (pv 2) (Aa (Bw (CV (K:=K)) rfl T.Jg Gg (Aa (pv 0) Ac)) Ac))))
   (Ae (Vm PassesOwn.never rfl (AyX (K:=K) rfl T.Asz (Aa (pv 0) Ac)) (AcR rfl (Gy (En (i:=3) DW.nd rfl (Or.inl rfl)) (Gy (En (i:=4) DW.nd rfl (Or.inl rfl)) XX)))
    (Ag (BX (Bc (Apc.mono (by decide)) hr rfl T.Ye.m T.Ye.F.kp T.Ye.b .nil Ax (Aa (pv 4) (Aa (Qa (K:=K) PySem.F.plainAttrs_list PySem.F.slot_list_count PySem.F.type_list_count (Ajq (K:=K)) (pv 1) (Aa (pv 3) Ac)) (Aa (Qa (K:=K) PySem.F.plainAttrs_list PySem.F.slot_list_count PySem.F.type_list_count (Ajq (K:=K)) (pv 2) (Aa (pv 3) Ac)) Ac)))))))
   (Ae (CP (i:=5) DW.nd rfl (Or.inl rfl) (Bc (Ac0.mono (by decide)) hr rfl T.JL.m T.JL.F.kp T.JL.b .nil Ax (Aa (pv 1) Ac)))
   (Ae (CP (i:=6) DW.nd rfl (Or.inl rfl) (Bc (Ac0.mono (by decide)) hr rfl T.JL.m T.JL.F.kp T.JL.b .nil Ax (Aa (pv 2) Ac)))
   (Ae (CP (i:=7) DW.nd rfl (Or.inl rfl) (GX Ac))
   (Ae (Vm PassesOwn.never rfl (AwX (K:=K) rfl T.AuY (Aa (pv 2) (Aa (pv 6) Ac))) (AcR rfl (Gy (En (i:=8) DW.nd rfl (Or.inr rfl)) (Gy (En (i:=9) DW.nd rfl (Or.inl rfl)) XX)))
    (Ae (CP (i:=10) DW.nd rfl (Or.inr rfl) (Ge (Fp (K:=K)) (Ge (Fp (K:=K)) (pv 0) (pv 8) (fun _ _=>rfl)) (pv 9) (fun _ _=>rfl)))
    (Ae (ApS (K:=K) (i:=11) (Abw.mk (BW:=[8,10]) (Nc:=["end_owner", "k", "owner", "own"]) rfl (by decide +kernel) (by decide +kernel) (Jw (sc0:=Ab DN) rfl (by decide +kernel)) rfl rfl rfl rfl rfl (by decide +kernel) (fun k j h=>match k,h with | 0,h=>by obtain rfl:=Option.some.inj h;exact⟨_,rfl,rfl,rfl⟩ | 1,h=>by obtain rfl:=Option.some.inj h;exact⟨_,rfl,rfl,rfl⟩ | _+2,h=>by simp at h)) rfl DW.nd rfl rfl (AuN (K:=K) rfl T.AuY (Aa (pv 1) (Aa (pv 5) Ac))) (fun _ _ _ _ _=>.nil) (fun _ _ _ _ _=>(Bc (Awu.mono (by decide)) hr rfl T.Amg.m T.Amg.F.kp T.Amg.b .nil Ax (Aa (pv 2) (Aa (pv 3) (Aa (pv 0) (Aa (pv 1) Ac)))))) rfl)
    (Ag (BX (Qa (K:=K) PySem.F.plainAttrs_list PySem.F.slot_list_append PySem.F.type_list_append AeC (pv 7) (Aa (Qa (K:=K) PySem.F.plainAttrs_str PySem.F.slot_str_join PySem.F.type_str_join (W3 (K:=K)) Af (Aa (pv 11) Ac)) Ac)))))))
   (Ag (Bm (pv 7)))))))))),?_⟩
  refine⟨_,rfl,_,rfl,_,_,rfl,.inl hP,pe,es,_,rfl,hE,ce1,Azz,(by rw[ml];exact C.e),?_⟩
  refine⟨_,rfl,_,rfl,_,_,rfl,.inl hP,po,os,_,rfl,hO,co1,A2S,(by rw[ml];exact C.o),?_⟩
  refine⟨_,rfl,_,rfl,⟨_,hP⟩,Axe (K:=K) (a:=p) (xs:=as.map V.ref) (fun i σ H2=>∃ v1 v2,σ=[some (.ref p),some (.ref pe),some (.ref po),v1,v2,none,none,none,none,none,none,none]∧Bv H H2) ⟨none,none,rfl,.refl _⟩ (fun i σ H2 ⟨_,_,_,s2⟩=>s2.seq hP) ?_ ?_⟩
  ·rintro i x σ H2 T2 hx ⟨v1,v2,rfl,s2⟩ nT
   obtain⟨a,ha,rfl⟩:∃ a,as[i]?=some a∧x=.ref a:=by
    rw[A5T] at hx
    cases e:as[i]? with
    | none=>rw[e] at hx;cases hx
    | some b=>rw[e] at hx;cases hx;exact⟨b,rfl,rfl⟩
   have hi:i<ps.length:=by rw[← al];exact(List.getElem?_eq_some_iff.mp ha).1
   have s3:Bv H (upd H2 T2 (.tup [.int (i:Int),.ref a])):=s2.new nT
   refine⟨_,_,rfl,SqT.of Ad,rfl,_,_,rfl,_,_,rfl,rfl,?_⟩
   refine⟨_,rfl,_,rfl,.inl ⟨rfl,_,s3.seq hE⟩,_,rfl,_,_,_,rfl,rfl,s3.seq hE,?_⟩
   refine⟨_,rfl,.inl ⟨rfl,_,s3.seq hO⟩,_,rfl,_,_,_,rfl,rfl,s3.seq hO,?_⟩
   refine⟨a,ps.getD i [],es.count (i:Int),os.count (i:Int),rfl,s3.seq (hA.2 i a ha),C.hn i hi,A5X (List.count_le_length ..) Azz,C.hm i hi,?_⟩
   exact⟨_,_,rfl,s3⟩
  ·rintro σ H2 ⟨v1,v2,rfl,s2⟩
   refine⟨_,rfl,pe,es,rfl,s2.seq hE,Azz,fun l1 H3 s3 nl1 hl1=>?_⟩
   have u3:=s2.trans s3
   refine⟨_,rfl,po,os,rfl,u3.seq hO,A2S,fun l2 H4 s4 nl2 hl2=>?_⟩
   have u4:=u3.trans s4
   refine⟨A6c _,fun q hq=>?_⟩
   have nq:H q=none:=u4.free hq
   have u5:Bv H (upd H4 q (.lst [])):=u4.new hq
   have w5:Bv H4 (upd H4 q (.lst [])):=.upd hq
   refine⟨_,rfl,_,rfl,_,_,rfl,⟨_,u5.seq hO⟩,⟨_,SqL.of (w5 _ _ hl2)⟩,AuL (K:=K) (n:=os.length) (xs:=vI os) (ys:=vI (Apb os os.length)) (by rw[QX,QX,AsI,A6I])
    (fun j σ H6=>∃(v3 v4 v5 v6:Option V),σ=[some (.ref p),some (.ref pe),some (.ref po),v1,v2,some (.ref l1),some (.ref l2),some (.ref q),v3,v4,v5,v6]∧Bv H H6∧Bv H4 H6∧H6 q=some (.lst (vS ((lay ps es os).take j))))
    ⟨none,none,none,none,rfl,u5,w5,Ad⟩ (fun j σ H6 ⟨_,_,_,_,_,u6,w6,_⟩=>⟨u6.seq hO,SqL.of (w6 _ _ hl2)⟩) ?_ ?_⟩
   ·rintro j x y σ H6 T6 hx hy ⟨v3,v4,v5,v6,rfl,u6,w6,hq6⟩ nT
    have hj:j<os.length:=by
     have:=(List.getElem?_eq_some_iff.mp hx).1
     rwa [QX] at this
    have ex:x=.int (os.getD j 0):=by
     have e:os.getD j 0=os[j]:=by simp[List.getD,hj]
     rw[e]
     exact Option.some.inj (hx.symm.trans (AmA (A5L hj)))
    have ey:y=.int (plc os j:Int):=Option.some.inj (hy.symm.trans (AmA (AsJ hj)))
    subst ex
    subst ey
    obtain⟨o,eo⟩:∃ o,o=os.getD j 0:=⟨_,rfl⟩
    obtain⟨b,eb⟩:∃ b,b=plc os j:=⟨_,rfl⟩
    obtain⟨o1,o2⟩:=C.own hj
    have oz:=C.o _ (getD_mem hj)
    rw[← eo,← eb] at o2
    rw[← eo] at o1 oz
    rw[← eo,← eb]
    have hq7:(upd H6 T6 (.tup [.int o,.int (b:Int)])) q=some (.lst (vS ((lay ps es os).take j))):=(Bv.upd nT) _ _ hq6
    have u7:Bv H (upd H6 T6 (.tup [.int o,.int (b:Int)])):=u6.new nT
    have w7:Bv H4 (upd H6 T6 (.tup [.int o,.int (b:Int)])):=w6.new nT
    have hT7:(upd H6 T6 (.tup [.int o,.int (b:Int)])) T6=some (.tup [.int o,.int (b:Int)]):=Ad
    generalize upd H6 T6 (.tup [.int o,.int (b:Int)])=H7 at hq7 u7 w7 hT7 ⊢
    refine⟨_,_,rfl,SqT.of hT7,rfl,_,_,rfl,_,_,rfl,rfl,?_⟩
    have lo:o.toNat<as.length:=by rw[al];exact o1
    have sa:=u7.seq (hA.2 _ _ (A5L lo))
    have A2T:((ps.getD o.toNat []).getD b []).length≤40:=by
     rw[C.row o1 o2]
     exact A5X (List.count_le_length ..) Azz
    have ab:atI (vS (ps.getD o.toNat [])) (b:Int)=some (.str (tx ((ps.getD o.toNat []).getD b []))):=by
     refine Fi (by omega) ?_
     rw[A5Z]
     have e:(ps.getD o.toNat []).getD b []=(ps.getD o.toNat [])[b]:=by rw[A6r,A5L o2];rfl
     rw[e]
     exact Aqz (A5L o2)
    refine⟨_,rfl,_,rfl,_,_,_,_,rfl,rfl,u7.seq hP,A1d oz.1 lo,_,rfl,_,_,_,_,rfl,rfl,sa,ab,?_⟩
    refine⟨_,rfl,_,rfl,.l pe,.l l1,rfl,trivial,⟨_,u7.seq hE⟩,⟨_,SqL.of (w7 _ _ (s4 _ _ hl1))⟩,?_⟩
    refine Aso (n:=es.length) (fun i=>.int (es.getD i 0)) (fun i=>.int (plc es i:Int)) (fun i ys H8=>Bv H7 H8∧ys=vS (((Nz ps es o b).take i).map fun d=>[d])) ⟨.refl _,rfl⟩ ?_ ?_ ?_ ?_ ?_ ?_ ?_
    ·rintro i ys H8 hi ⟨s8,rfl⟩
     rw[DG,A5I,A5S]
     omega
    ·omega
    ·rintro i ys H8 hi ⟨s8,_⟩
     have e:es.getD i 0=es[i]:=by simp[List.getD,hi]
     exact⟨_,(u7.trans s8).seq hE,by rw[e];exact AmA (A5L hi)⟩
    ·rintro i ys H8 hi ⟨s8,_⟩
     exact⟨_,SqL.of ((w7.trans s8) _ _ (s4 _ _ hl1)),AmA (AsJ hi)⟩
    ·rintro ys H8 ⟨s8,_⟩
     exact⟨⟨_,(u7.trans s8).seq hE⟩,⟨_,SqL.of ((w7.trans s8) _ _ (s4 _ _ hl1))⟩,.inl ⟨_,(u7.trans s8).seq hE,by rw[QX]⟩⟩
    ·rintro i ys H8 T8 hi ⟨s8,rfl⟩ nT8
     refine Mv.no ?_
     refine⟨_,rfl,_,rfl,_,rfl,_,rfl,o,es.getD i 0,(ps.getD o.toNat []).getD b [],plc es i,rfl,fun h=>?_,A2T,?_⟩
     ·rw[C.row o1 o2,show((o.toNat:Nat):Int)=o by omega,h]
      exact AtE hi
     ·refine CN.of hi ⟨s8.new nT8,?_⟩
      rw[A6i,AtF hi,Aqv,QZ,A5Y]
      rfl
    ·rintro ys H8 l8 ⟨s8,rfl⟩ nl8
     have e0:(Nz ps es o b).take es.length=Nz ps es o b:=A6w (by rw[Agt];exact A5K _)
     rw[e0]
     have u8:=(u7.trans s8).new (o:=.lst (vS ((Nz ps es o b).map fun d=>[d]))) nl8
     have w8:=(w7.trans s8).new (o:=.lst (vS ((Nz ps es o b).map fun d=>[d]))) nl8
     have hq8:=(s8.new (o:=.lst (vS ((Nz ps es o b).map fun d=>[d]))) nl8) _ _ hq7
     refine⟨_,rfl,.inl ⟨rfl,_,SqL.of hq8⟩,rfl,_,rfl,_,_,(((Nz ps es o b).map fun d=>[d]).map tx),rfl,rfl,SqL.of (by rw[Ad,Agq]),?_,?_⟩
     ·have e1:=AyN (fun d:Nat=>d) (Nz ps es o b)
      rw[e1,A5I,A5I,Agt]
      have:es.length*(Str.length "")=0:=by rw[show Str.length "" = 0 from by decide +kernel];omega
      omega
     ·rw[show(("" : Str))=tx [] from by decide +kernel,AeD]
      have e2:((Nz ps es o b).map fun d=>[d]).flatten=Nz ps es o b:=(ApL (fun d:Nat=>d) (Nz ps es o b)).trans (A6O _)
      rw[e2]
      refine⟨_,_,_,rfl,rfl,hq8,(by rw[DG,A5S];omega),?_⟩
      refine⟨_,_,_,_,rfl,u8.over nq,w8.over hq,?_⟩
      rw[Ad,QZ,A6i,AyZ hj,← eo,← eb]
      rfl
   ·rintro σ H6 ⟨v3,v4,v5,v6,rfl,u6,w6,hq6⟩
    have e0:(lay ps es os).take os.length=lay ps es os:=A6w (by rw[AuP];exact A5K _)
    rw[e0] at hq6
    exact⟨_,rfl,k q H6 u6 nq hq6⟩
def rfa (t:Adr):Rf→Addr
 | .nop=>t.Aj
 | .big=>t.Ay
 | .unk=>t.Bj
def Oi (t:Adr)(C dx r:Addr)(H:Hp)(Q:VK)(E:XK)(R:Res)(z:List Nat):Prop:=match R with
 | .ok x=>∀ l H',HF r H H'→H l=none→H' l=some (.lst (vS x))→H' r=some (.ins C dx (pf l (tx z)))→Q .non H'
 | .no f=>∀ H',HF r H H'→E (.ref (rfa t f)) none H'
theorem Kp{r:Addr}{H H':Hp}(s:Bv H H'):HF r H H':=fun b o _ e=>s b o e
theorem Oi.fin{C dx r l:Addr}{H H3:Hp}{Q:VK}{E:XK}{x:List (List Nat)}{z:List Nat}(k:Oi t C dx r H Q E (.ok x) z)(sb:Bv H H3)(h1:H r=some (.ins C dx []))(hl:H3 l=none):Q .non (upd (upd H3 l (.lst (vS x))) r (.ins C dx (pf l (tx z)))):=by
 have hr:H3 r=some (.ins C dx []):=sb _ _ h1
 have nlr:l≠r:=fun y=>by rw[y,hr] at hl;cases hl
 have hlH:H l=none:=by
  cases e:H l with
  | none=>rfl
  | some o=>rw[sb _ _ e] at hl;cases hl
 refine k l _ (fun b o hb e=>?_) hlH (by rw[Bd nlr];exact Ad) Ad
 rw[Bd hb,Bd (Bs (sb b o e) hl)]
 exact sb b o e
def Aya (K:PySem.W.Frag)(t:Adr):Sp:=fun vs H Q E=>∃(r dx a:Addr) (x:List (List Nat)) (z:List Nat),vs=[.ref r,.str (tx z),.ref a]∧H r=some (.ins t.Dl dx [])∧SqL K H a (vS x)∧Oi t t.Dl dx r H Q E (.ok x) z
theorem AhZ(T:Txt K mg t):Aq P w K mg base CX0 3 t.Ef t.Tr ["self", "name", "known_cloth"] (Aya K t):=by
 have Bb:Aq P w K mg base CX0 1 t.Ba t.BV _ _:=Cd T
 refine T.Aa7.F.ok AhJ (fun vs H Q E h=>?_) (fun cdv A outer s H vs Q E hr h=>?_)
 ·obtain⟨r,dx,a,x,z,rfl,_⟩:=h
  rfl
 ·obtain⟨r,dx,a,x,z,rfl,h1,hS,k⟩:=h
  refine⟨_,(Ag (BX (O1 (Cq (v:=.ref t.BP) rfl T.O5 rfl) T.Km (Bb.mono (by decide)) hr T.Ca.b .nil Ax (Aa (pv 0) (Aa (pv 2) (Aa (pv 1) Ac)))))),?_⟩
  refine⟨rfl,_,rfl,_,rfl,_,rfl,t.Dl,r,dx,a,x,_,rfl,h1,T.AqD.c,T.Kc,T.Iz,hS,fun l hl=>?_⟩
  exact k.fin (.refl _) h1 hl
def Az0 (K:PySem.W.Frag)(t:Adr):Sp:=fun vs H Q E=>∃(r dx a:Addr) (rs:List (List Nat)),vs=[.ref r,.ref a]∧H r=some (.ins t.FP dx [])∧SqL K H a (vS rs)∧rs≠[]∧rs.length≤40∧(wz Pat.VB rs).length≤1000000∧Oi t t.FP dx r H Q E (ApV rs) (wz Pat.VB rs)
theorem Aia(T:Txt K mg t):Aq P w K mg base (CX1 P w) 3 t.Fd t.Vn ["self", "runs"] (Az0 K t):=by
 have GF:Aq P w K mg base (CX1 P w) 2 t.Fj t.Jz _ _:=Ko T
 have Di:Aq P w K mg base CX0 1 t.Fo t.HH _ _:=HW T
 have Bb:Aq P w K mg base CX0 1 t.Ba t.BV _ _:=Cd T
 refine T.Acv.F.okX Ajt (fun vs H Q E h=>?_) (fun cdv A outer s H vs Q E hr h=>?_)
 ·obtain⟨r,dx,a,rs,rfl,_⟩:=h
  rfl
 ·obtain⟨r,dx,a,rs,rfl,h1,hS,hne,A4s,hw,k⟩:=h
  refine⟨_,(Ae (Ck (Rx (Bw (ApP (K:=K)) rfl T.AzS AwJ (Aa (PE.nox (Ue (Jo.mk (BW:=[1]) (Nc:=["run", "runs"]) rfl (by decide +kernel) (by decide +kernel) (Jw (sc0:=Ab DQ) rfl (by decide +kernel)) rfl rfl rfl (by decide +kernel) (fun k j h=>match k,h with | 0,h=>by obtain rfl:=Option.some.inj h;exact⟨_,rfl,rfl,rfl⟩ | _+1,h=>by simp at h)) rfl (JX (K:=K) (pv 1)) (fun _ _ _ _ _=>.nil) (fun _ _ _ _ _=>(Ox Ah2 (Bw Dd rfl T.Jg Gg (Aa (pv 0) Ac)) (Bw Dd rfl T.Jg Gg (Aa (Ge (Fp (K:=K)) (pv 1) Am (fun _ _=>rfl)) Ac)) (Bh _))))) Ac)))
    (Ag (Eu Kv rfl (fun _ _ z=>z) PySem.F.excBase_ValueError Jc PySem.F.excBase_ValueError T.BK.q rfl T.Cm (Aa Af Ac)))
    Bf)
   (Ae (BX (Bc (GF.mono (by decide)) hr rfl T.Dy.m T.Dy.F.kp T.Dy.b .nil Ig (Aa (Bw Dd rfl T.Jg Gg (Aa (Ge (Fp (K:=K)) (pv 1) Am (fun _ _=>rfl)) Ac)) (Aa (Bw (CV (K:=K)) rfl T.Jg Gg (Aa (pv 1) Ac)) Ac))))
   (Ag (BX (O1 (Cq (v:=.ref t.BP) rfl T.O5 rfl) T.Km (Bb.mono (by decide)) hr T.Ca.b .nil Ax (Aa (pv 0) (Aa (pv 1) (Aa (Bc (Di.mono (by decide)) hr rfl T.written.m T.written.F.kp T.written.b .nil Ax (Aa Af (Aa (pv 1) Ac))) Ac)))))))),?_⟩
  have hb:∀ u∈rs,u.length≤1000000:=fun u hu=>by
   have:=AzQ hu
   rw[AtX] at hw
   omega
  obtain⟨u0,hu0,e0⟩:∃ u0,rs[0]?=some u0∧u0.length=wdt rs:=by
   cases rs with
   | nil=>exact absurd rfl hne
   | cons u rs=>exact⟨u,rfl,rfl⟩
  have b0:=hb u0 (A6e hu0)
  refine⟨_,rfl,_,rfl,⟨_,hS⟩,Tq (K:=K) (a:=a) (xs:=vS rs) (fun i ys H2=>H2=H∧ys=vB ((rs.take i).map fun r=>decide (¬r.length=wdt rs))) ⟨rfl,rfl⟩ ?_ ?_ ?_ ?_⟩
  ·rintro i ys H2 hi ⟨rfl,rfl⟩
   refine⟨hS,?_⟩
   rw[At3,A5I,A5S]
   omega
  ·rw[DG];exact Jm A4s
  ·rintro i x ys H2 hi hx ⟨rfl,rfl⟩
   obtain⟨u,hu,rfl⟩:=ZG hx
   have bu:=hb u (A6e hu)
   refine Mv.no ?_
   refine⟨_,rfl,_,rfl,(by rw[Ao];exact big bu),_,rfl,_,_,_,_,rfl,rfl,hS,AsC (i:=0) hu0,_,rfl,(by rw[Ao];exact big b0),rfl,?_⟩
   rw[show(!decide (V.int ((tx u).length:Int)=V.int ((tx u0).length:Int)))=decide (¬u.length=wdt rs) by
    rw[Ao,Ao,e0,← decide_not]
    exact decide_eq_decide.mpr ⟨fun z y=>z (by rw[y]),fun z y=>z (by injection y with y;omega)⟩]
   exact CN.of hi ⟨rfl,by rw[At4,A6i,hu,A5Y];rfl⟩
  ·rintro ys H2 q ⟨rfl,rfl⟩ hq
   rw[DG,A6p]
   refine⟨_,_,rfl,SqL.of Ad,_,rfl,?_⟩
   have s3:Bv H2 (upd H2 q (.lst (vB (rs.map fun r=>decide (¬r.length=wdt rs))))):=.upd hq
   generalize upd H2 q (.lst (vB (rs.map fun r=>decide (¬r.length=wdt rs))))=H3 at s3 ⊢
   unfold ApV at k
   refine A3X (fun c=>?_) (fun c=>?_)
   ·rw[if_pos c] at k
    exact⟨by decide,k _ (Kp s3)⟩
   ·rw[if_neg (by rw[c];exact fun z=>nomatch z)] at k
    refine⟨_,rfl,_,_,_,_,rfl,rfl,s3.seq hS,AsC (i:=0) hu0,_,rfl,(by rw[Ao];exact big b0),_,rfl,_,_,rfl,.inl (s3.seq hS),wdt rs,rs.length,(by rw[Ao,e0,DG];rfl),fun c2=>?_,fun c2 H' s'=>?_⟩
    ·rw[if_neg (by omega)] at k
     refine⟨rfl,_,rfl,_,rfl,_,rfl,a,Pat.VB,rs,(by rw[Amj];rfl),s3.seq hS,hne,hw,?_⟩
     refine⟨t.FP,r,dx,a,rs,_,rfl,s3 _ _ h1,T.AtR.c,T.Mm,T.Jp,s3.seq hS,fun l hl=>?_⟩
     exact k.fin s3 h1 hl
    ·rw[if_pos (by omega)] at k
     exact k _ (Kp (s3.trans s'))
theorem lg{m:Nat}(h:m<100):((m:Int)).natAbs.log2<1920:=by
 rw[Int.natAbs_natCast]
 exact Nat.lt_of_le_of_lt (Nat.log2_le_self m) (by omega)
theorem AsK:(("#" : Str))=tx [35]:=by decide +kernel
theorem AqP:(("." : Str))=tx [46]:=by decide +kernel
theorem AqQ:(("twill" : Str))=tx twW:=by decide +kernel
theorem AqR:(("satin" : Str))=tx saW:=by decide +kernel
theorem AsL{u:List Nat}{k:Nat}(h:k≤u.length):Ags u (some (k:Int)) none=u.drop k:=by
 unfold Ags
 rw[HT.Ah4,A6N h]
 exact A6w (by rw[A6l];exact A5K _)
theorem Ayb{z x y:List Nat}(hz:z.length≤100)(hx:x.length≤100)(hy:y.length≤100):(wz z [x,y]).length≤1000000:=by
 rw[AtX]
 unfold cj
 rw[A5J,A5P,A6s,A6d,List.flatten_nil,A5J,A5J,A6a,A6o]
 omega
def Ayc (K:PySem.W.Frag)(t:Adr):Sp:=fun vs H Q E=>∃(r dx:Addr) (m n:Nat),vs=[.ref r,.int (m:Int),.int (n:Int)]∧H r=some (.ins t.Dm dx [])∧m<100∧n<100∧Oi t t.Dm dx r H Q E (Agu m n) (wz twW [dec m,dec n])
theorem Ag3(T:Txt K mg t):Aq P w K mg base (CX1 P w) 3 t.Eg t.Tt ["self", "over", "under"] (Ayc K t):=by
 have GF:Aq P w K mg base (CX1 P w) 2 t.Fj t.Jz _ _:=Ko T
 have Di:Aq P w K mg base CX0 1 t.Fo t.HH _ _:=HW T
 have Bb:Aq P w K mg base CX0 1 t.Ba t.BV _ _:=Cd T
 refine T.Aa8.F.okX My (fun vs H Q E h=>?_) (fun cdv A outer s H vs Q E hr h=>?_)
 ·obtain⟨r,dx,m,n,rfl,_⟩:=h
  rfl
 ·obtain⟨r,dx,m,n,rfl,h1,hm,hn,k0⟩:=h
  refine⟨_,(Ae (Ck (PW.pt (pw_or (Az Ww (pv 1) Am (Bh _)) (pw_or1 (Az Ww (pv 2) Am (Bh _)))))
    (Ag (Eu Kv rfl (fun _ _ z=>z) PySem.F.excBase_ValueError Jc PySem.F.excBase_ValueError T.BK.q rfl T.Cm (Aa Af Ac)))
    Bf)
   (Ae (CP (i:=3) My.nd rfl (Or.inr rfl) (Bo Mr (pv 1) (pv 2)))
   (Ae (BX (Bc (GF.mono (by decide)) hr rfl T.Dy.m T.Dy.F.kp T.Dy.b .nil Ig (Aa (pv 3) (Aa (pv 3) Ac))))
   (Ae (CP (i:=4) My.nd rfl (Or.inr rfl) (Bo Bu (Bo VL Af (pv 1)) (Bo VL Af (pv 2))))
   (Ae (PS.nox (Ama (i:=5) (Jo.mk (BW:=[3,4]) (Nc:=["y", "size", "first"]) rfl (by decide +kernel) (by decide +kernel) (Jw (sc0:=Ab Dg) rfl (by decide +kernel)) rfl rfl rfl (by decide +kernel) (fun k j h=>match k,h with | 0,h=>by obtain rfl:=Option.some.inj h;exact⟨_,rfl,rfl,rfl⟩ | 1,h=>by obtain rfl:=Option.some.inj h;exact⟨_,rfl,rfl,rfl⟩ | _+2,h=>by simp at h)) rfl My.nd rfl rfl (AeA rfl T.AhP (Aa (pv 3) Ac)) (fun _ _ _ _ _=>.nil) (fun _ _ _ _ _=>(Bo Bu (Lw ZJ (pv 2) (Mu (Bo Aqk (pv 1) (pv 0))) Ud) (Lw ZJ (pv 2) Ud (Mu (Bo Aqk (pv 1) (pv 0)))))) rfl))
   (Ag (BX (O1 (Cq (v:=.ref t.BP) rfl T.O5 rfl) T.Km (Bb.mono (by decide)) hr T.Ca.b .nil Ax (Aa (pv 0) (Aa (pv 5) (Aa (Bc (Di.mono (by decide)) hr rfl T.written.m T.written.F.kp T.written.b .nil Ax (Aa Af (Aa (GX (Aa (Er Gz rfl T.Adg W2 (Aa (pv 1) Ac)) (Aa (Er Gz rfl T.Adg W2 (Aa (pv 2) Ac)) Ac))) Ac))) Ac))))))))))),?_⟩
  have k2:(m=0∨n=0)→∀ H',HF r H H'→E (.ref t.Aj) none H':=fun g=>by
   unfold Agu at k0
   rw[if_pos (by omega)] at k0
   exact k0
  have k3:1≤m→1≤n→40<m+n→∀ H',HF r H H'→E (.ref t.Ay) none H':=fun g1 g2 g3=>by
   unfold Agu at k0
   rw[if_neg (by omega),if_pos g3] at k0
   exact k0
  refine⟨_,rfl,_,_,rfl,rfl,_,rfl,?_⟩
  refine Hu (fun c1=>?_) (fun c1=>?_)
  ·refine Tn ?_
   exact⟨by decide,k2 (.inl (by omega)) _ (fun b o _ e=>e)⟩
  ·refine⟨_,rfl,_,_,rfl,rfl,_,rfl,?_⟩
   refine Hu (fun c2=>?_) (fun c2=>?_)
   ·exact⟨by decide,k2 (.inr (by omega)) _ (fun b o _ e=>e)⟩
   ·refine⟨_,rfl,_,rfl,_,_,rfl,rfl,?_⟩
    refine⟨_,rfl,_,rfl,m+n,m+n,rfl,fun c3=>?_,fun c3 H' s'=>k3 (by omega) (by omega) (by omega) _ (fun b o _ e=>s' b o e)⟩
    refine⟨_,rfl,[35],(m:Int),(by rw[AsK]),rfl,(by omega),(by omega),(big (by simp only [A5N,A6a];omega)),?_⟩
    refine⟨_,rfl,[46],(n:Int),(by rw[AqP]),rfl,(by omega),(by omega),(big (by simp only [A5N,A6a];omega)),?_⟩
    rw[A5Z,A5Z,rep1,rep1]
    refine⟨_,_,rfl,rfl,(by rw[Ao,Ao];exact big (by rw[A6k,A6k];omega)),?_⟩
    rw[Gf,show List.replicate m 35++List.replicate n 46=AmH m n from rfl]
    obtain⟨N,hN⟩:∃ N,N=m+n:=⟨_,rfl⟩
    refine⟨_,rfl,_,rfl,(by show -(2 ^ 62)≤(m:Int)+(n:Int);omega),(by show(m:Int)+(n:Int)<2 ^ 62;omega),?_⟩
    rw[show((m:Int)+(n:Int)).toNat=m+n by omega]
    refine Wz (lo:=0) (n:=m+n) (fun i ys H2=>H2=H∧ys=vS ((List.range i).map (twT m n))) ⟨rfl,rfl⟩ ?_ ?_ ?_ ?_
    ·rintro i ys H2 hi ⟨rfl,rfl⟩
     rw[DG,A5I,A6f]
     exact A5K _
    ·exact big (by omega)
    ·rintro i ys H2 hi ⟨rfl,rfl⟩
     refine Mv.no ?_
     have fl:=@Asr m n
     refine⟨_,rfl,_,rfl,_,rfl,_,_,rfl,rfl,_,rfl,AmH m n,rfl,big (by omega),?_⟩
     rw[show(m:Int)+(n:Int)-(0+(i:Int))=((m+n-i:Nat):Int) by omega,AsL (by omega)]
     refine⟨_,rfl,_,rfl,_,rfl,_,_,rfl,rfl,_,rfl,AmH m n,rfl,big (by omega),?_⟩
     rw[show(m:Int)+(n:Int)-(0+(i:Int))=((m+n-i:Nat):Int) by omega,AmC (by omega)]
     refine⟨_,_,rfl,rfl,(by rw[Ao,Ao];exact big (by rw[A6l,A5S];omega)),?_⟩
     rw[Gf,A0N hi]
     exact(CN.of hi ⟨rfl,by rw[A6H,A5Y];exact QZ _ _⟩:CN (m+n) (fun i ys H3=>H3=H2∧ys=vS ((List.range i).map (twT m n))) i (vS ((List.range i).map (twT m n))++[.str (tx (twT m n i))]) H2)
    ·rintro ys H2 q ⟨rfl,rfl⟩ hq
     have hqr:r≠q:=Bs h1 hq
     refine⟨rfl,_,rfl,_,rfl,_,rfl,_,rfl,lg hm,_,rfl,_,rfl,lg hn,(by show 2≤sizeLine;decide),fun p hp=>?_⟩
     rw[W4 m,W4 n]
     have d1:=(dec_is hm).l2
     have d2:=(dec_is hn).l2
     have npq:q≠p:=fun z=>by rw[← z,Ad] at hp;cases hp
     have s1:Bv H2 (upd H2 q (.lst (vS ((List.range (m+n)).map (twT m n))))):=.upd hq
     have hq1:(upd H2 q (.lst (vS ((List.range (m+n)).map (twT m n))))) q=some (.lst (vS ((List.range (m+n)).map (twT m n)))):=Ad
     generalize upd H2 q (.lst (vS ((List.range (m+n)).map (twT m n))))=H3 at s1 hq1 hp ⊢
     have s2:Bv H3 (upd H3 p (.lst [.str (tx (dec m)),.str (tx (dec n))])):=.upd hp
     have hp2:(upd H3 p (.lst [.str (tx (dec m)),.str (tx (dec n))])) p=some (.lst (vS [dec m,dec n])):=Ad
     generalize upd H3 p (.lst [.str (tx (dec m)),.str (tx (dec n))])=H4 at s2 hp2 ⊢
     refine⟨p,twW,[dec m,dec n],(by rw[AqQ];rfl),SqL.of hp2,(by simp),Ayb (by decide) (by omega) (by omega),?_⟩
     refine⟨t.Dm,r,dx,q,(List.range (m+n)).map (twT m n),_,rfl,s2 _ _ (s1 _ _ h1),T.AqE.c,T.Kd,T.IK,SqL.of (s2 _ _ hq1),fun l hl=>?_⟩
     unfold Agu at k0
     rw[if_neg (by omega),if_neg (by omega)] at k0
     exact k0.fin (s1.trans s2) h1 hl
def Ayd (K:PySem.W.Frag)(t:Adr):Sp:=fun vs H Q E=>∃(r dx:Addr) (m n:Nat),vs=[.ref r,.int (m:Int),.int (n:Int)]∧H r=some (.ins t.Dp dx [])∧m<100∧n<100∧Oi t t.Dp dx r H Q E (Agv m n) (wz saW [dec m,dec n])
theorem Ag4(T:Txt K mg t):Aq P w K mg base (CX1 P w) 3 t.Eh t.Tu ["self", "size", "step"] (Ayd K t):=by
 have GF:Aq P w K mg base (CX1 P w) 2 t.Fj t.Jz _ _:=Ko T
 have Aud:Aq P w K mg base CX0 2 t.N5 t.Agx _ _:=AsE T
 have Di:Aq P w K mg base CX0 1 t.Fo t.HH _ _:=HW T
 have Bb:Aq P w K mg base CX0 1 t.Ba t.BV _ _:=Cd T
 refine T.Aa9.F.okX R3 (fun vs H Q E h=>?_) (fun cdv A outer s H vs Q E hr h=>?_)
 ·obtain⟨r,dx,m,n,rfl,_⟩:=h
  rfl
 ·obtain⟨r,dx,m,n,rfl,h1,hm,hn,k0⟩:=h
  refine⟨_,(Ae (Ck (PW.pt (pw_or (Az Ww (pv 2) Am (Bh _)) (pw_or (Az AzH (pv 2) (pv 1) (Bh _)) (pw_or1 (Wu (Rx (Bc (Aud.mono (by decide)) hr rfl T.AhM.m T.AhM.F.kp T.AhM.b .nil Ax (Aa (pv 1) (Aa (pv 2) Ac)))))))))
    (Ag (Eu Kv rfl (fun _ _ z=>z) PySem.F.excBase_ValueError Jc PySem.F.excBase_ValueError T.BK.q rfl T.Cm (Aa Af Ac)))
    Bf)
   (Ae (BX (Bc (GF.mono (by decide)) hr rfl T.Dy.m T.Dy.F.kp T.Dy.b .nil Ig (Aa (pv 1) (Aa (pv 1) Ac))))
   (Ae (PS.nox (Ama (i:=3) (Jo.mk (BW:=[1,2]) (Nc:=["y", "size", "step"]) rfl (by decide +kernel) (by decide +kernel) (Jw (sc0:=Ab CK) rfl (by decide +kernel)) rfl rfl rfl (by decide +kernel) (fun k j h=>match k,h with | 0,h=>by obtain rfl:=Option.some.inj h;exact⟨_,rfl,rfl,rfl⟩ | 1,h=>by obtain rfl:=Option.some.inj h;exact⟨_,rfl,rfl,rfl⟩ | _+2,h=>by simp at h)) rfl R3.nd rfl rfl (AeA rfl T.AhP (Aa (pv 1) Ac)) (fun _ _ _ _ _=>.nil) (fun _ _ _ _ _=>(Bo Ms (Bo ZD (pv 0) (pv 2)) (pv 1))) rfl))
   (Ae (PS.nox (Ama (i:=4) (Jo.mk (BW:=[1]) (Nc:=["over", "size"]) rfl (by decide +kernel) (by decide +kernel) (Jw (sc0:=Ab CK) rfl (by decide +kernel)) rfl rfl rfl (by decide +kernel) (fun k j h=>match k,h with | 0,h=>by obtain rfl:=Option.some.inj h;exact⟨_,rfl,rfl,rfl⟩ | _+1,h=>by simp at h)) rfl R3.nd rfl rfl (JX (K:=K) (pv 3)) (fun _ _ _ _ _=>.nil) (fun _ _ _ _ _=>(Bo Bu (Bo Bu (Bo VL Af (pv 0)) Af) (Bo VL Af (Bo Aqk (Bo Aqk (pv 1) Am) (pv 0))))) rfl))
   (Ag (BX (O1 (Cq (v:=.ref t.BP) rfl T.O5 rfl) T.Km (Bb.mono (by decide)) hr T.Ca.b .nil Ax (Aa (pv 0) (Aa (pv 4) (Aa (Bc (Di.mono (by decide)) hr rfl T.written.m T.written.F.kp T.written.b .nil Ax (Aa Af (Aa (GX (Aa (Er Gz rfl T.Adg W2 (Aa (pv 1) Ac)) (Aa (Er Gz rfl T.Adg W2 (Aa (pv 2) Ac)) Ac))) Ac))) Ac)))))))))),?_⟩
  have k2:¬Pri m n→∀ H',HF r H H'→E (.ref t.Aj) none H':=fun g=>by
   unfold Agv at k0
   rw[if_pos g] at k0
   exact k0
  have k3:Pri m n→40<m→∀ H',HF r H H'→E (.ref t.Ay) none H':=fun g1 g3=>by
   unfold Agv at k0
   rw[if_neg (fun z=>z g1),if_pos g3] at k0
   exact k0
  refine⟨_,rfl,_,_,rfl,rfl,_,rfl,?_⟩
  refine Hu (fun c1=>?_) (fun c1=>?_)
  ·refine Tn ?_
   exact⟨by decide,k2 (fun z=>by have:=z.1;omega) _ (fun b o _ e=>e)⟩
  ·refine⟨_,rfl,_,rfl,_,_,rfl,rfl,_,rfl,?_⟩
   refine Hu (fun c2=>?_) (fun c2=>?_)
   ·exact⟨by decide,k2 (fun z=>by have:=z.2.1;omega) _ (fun b o _ e=>e)⟩
   ·refine⟨_,rfl,_,rfl,m,n,rfl,by omega,by omega,by omega,fun H1 s1=>?_⟩
    refine⟨_,rfl,?_⟩
    cases c3:cop m n n with
    | true =>
     refine Tn ?_
     exact⟨by decide,k2 (fun z=>by have:=z.2.2;rw[c3] at this;cases this) _ (fun b o _ e=>s1 b o e)⟩
    | false =>
     refine ZF ?_
     have pr:Pri m n:=⟨by omega,by omega,c3⟩
     refine⟨_,rfl,_,rfl,m,m,rfl,fun c4=>?_,fun c4 H' s'=>k3 pr (by omega) _ (fun b o _ e=>s' b o (s1 b o e))⟩
     have h1':=s1 _ _ h1
     have m0:0<m:=by omega
     refine⟨_,rfl,_,rfl,(by omega),(by omega),?_⟩
     rw[A5Z]
     refine Wz (lo:=0) (n:=m) (fun i ys H2=>H2=H1∧ys=vI ((List.range i).map fun y=>((y*n%m:Nat):Int))) ⟨rfl,rfl⟩ ?_ ?_ ?_ ?_
     ·rintro i ys H2 hi ⟨rfl,rfl⟩
      rw[QX,A5I,A6f]
      exact A5K _
     ·exact big (by omega)
     ·rintro i ys H2 hi ⟨rfl,rfl⟩
      refine Mv.no ?_
      refine⟨_,rfl,_,rfl,_,_,rfl,rfl,(.inr ⟨by omega,by omega⟩),_,rfl,_,_,rfl,rfl,(by omega),?_⟩
      show CN _ _ _ (_++[V.int ((0+(i:Int))*(n:Int)%(m:Int))]) _
      rw[show(0+(i:Int))*(n:Int)%(m:Int)=((i*n%m:Nat):Int) by rw[Int.zero_add,← A6t,← Int.natCast_emod]]
      exact(CN.of hi ⟨rfl,by rw[A6H,A5Y];exact AwM _ _⟩:CN m (fun i ys H3=>H3=H2∧ys=vI ((List.range i).map fun y=>((y*n%m:Nat):Int))) i (vI ((List.range i).map fun y=>((y*n%m:Nat):Int))++[.int ((i*n%m:Nat):Int)]) H2)
     ·rintro ys H2 q ⟨rfl,rfl⟩ hq
      have hqr:r≠q:=Bs h1' hq
      have e3:(upd H2 q (.lst (vI ((List.range m).map fun y=>((y*n%m:Nat):Int))))) q=some (.lst (vI ((List.range m).map fun y=>((y*n%m:Nat):Int)))):=Ad
      have s3:Bv H2 (upd H2 q (.lst (vI ((List.range m).map fun y=>((y*n%m:Nat):Int))))):=.upd hq
      generalize upd H2 q (.lst (vI ((List.range m).map fun y=>((y*n%m:Nat):Int))))=H3 at e3 s3 ⊢
      have h3:=s3 _ _ h1'
      refine⟨_,rfl,_,rfl,⟨_,SqL.of e3⟩,?_⟩
      refine Tq (K:=K) (a:=q) (xs:=vI ((List.range m).map fun y=>((y*n%m:Nat):Int))) (fun i ys H4=>H4=H3∧ys=vS ((List.range i).map (saT m n))) ⟨rfl,rfl⟩ ?_ ?_ ?_ ?_
      ·rintro i ys H4 hi ⟨rfl,rfl⟩
       refine⟨SqL.of e3,?_⟩
       rw[DG,A5I,A6f]
       exact A5K _
      ·rw[QX,A5I,A6f]
       exact big (by omega)
      ·rintro i x ys H4 hi hx ⟨rfl,rfl⟩
       rw[QX,A5I,A6f] at hi
       have ex:x=.int ((i*n%m:Nat):Int):=by
        unfold vI at hx
        rw[A5T,A5T,A7f hi] at hx
        exact(Option.some.inj hx).symm
       have lo:i*n%m<m:=Nat.mod_lt _ m0
       obtain⟨o,eo⟩:∃ o,o=i*n%m:=⟨_,rfl⟩
       rw[ex]
       rw[← eo] at lo ⊢
       refine Mv.no ?_
       refine⟨_,rfl,[46],(o:Int),(by rw[AqP]),rfl,(by omega),(by omega),(big (by simp only [A5N,A6a];omega)),?_⟩
       rw[A5Z,rep1,AsK]
       refine⟨_,_,rfl,rfl,(by rw[Ao,Ao];exact big (by rw[A6k];simp only [A5N,A6a];omega)),?_⟩
       rw[Gf]
       refine⟨_,rfl,_,_,rfl,rfl,_,rfl,_,_,rfl,rfl,[46],((m-1-o:Nat):Int),(by rw[AqP]),?_,(by omega),(by omega),(big (by simp only [A5N,A6a];omega)),?_⟩
       ·show V.int ((m:Int)-1-(o:Int))=_
        rw[show(m:Int)-1-(o:Int)=((m-1-o:Nat):Int) by omega]
       rw[A5Z,rep1]
       refine⟨_,_,rfl,rfl,(by rw[Ao,Ao];exact big (by rw[A5J,A6k,A6k];simp only [A5N,A6a];omega)),?_⟩
       rw[Gf,A0O lo]
       rw[QX,A5I,A6f]
       exact(CN.of hi ⟨rfl,by rw[A6H,A5Y,eo];exact QZ _ _⟩:CN m (fun i ys H5=>H5=H4∧ys=vS ((List.range i).map (saT m n))) i (vS ((List.range i).map (saT m n))++[.str (tx (stT m o))]) H4)
      ·rintro ys H4 q2 ⟨rfl,rfl⟩ hq2
       rw[QX,A5I,A6f]
       have A5G:r≠q2:=Bs h3 hq2
       refine⟨rfl,_,rfl,_,rfl,_,rfl,_,rfl,lg hm,_,rfl,_,rfl,lg hn,(by show 2≤sizeLine;decide),fun p hp=>?_⟩
       rw[W4 m,W4 n]
       have d1:=(dec_is hm).l2
       have d2:=(dec_is hn).l2
       have s4:Bv H4 (upd H4 q2 (.lst (vS ((List.range m).map (saT m n))))):=.upd hq2
       have hq4:(upd H4 q2 (.lst (vS ((List.range m).map (saT m n))))) q2=some (.lst (vS ((List.range m).map (saT m n)))):=Ad
       generalize upd H4 q2 (.lst (vS ((List.range m).map (saT m n))))=H5 at s4 hq4 hp ⊢
       have s5:Bv H5 (upd H5 p (.lst [.str (tx (dec m)),.str (tx (dec n))])):=.upd hp
       have hp5:(upd H5 p (.lst [.str (tx (dec m)),.str (tx (dec n))])) p=some (.lst (vS [dec m,dec n])):=Ad
       generalize upd H5 p (.lst [.str (tx (dec m)),.str (tx (dec n))])=H6 at s5 hp5 ⊢
       have u6:=((s1.trans s3).trans s4).trans s5
       refine⟨p,saW,[dec m,dec n],(by rw[AqR];rfl),SqL.of hp5,(by simp),Ayb (by decide) (by omega) (by omega),?_⟩
       refine⟨t.Dp,r,dx,q2,(List.range m).map (saT m n),_,rfl,u6 _ _ h1,T.AqF.c,T.Ke,T.IV,SqL.of (s5 _ _ hq4),fun l hl=>?_⟩
       unfold Agv at k0
       rw[if_neg (fun z=>z pr),if_neg (by omega)] at k0
       exact k0.fin u6 h1 hl
theorem Uk(T:Txt K mg t){H:Hp}{p:Addr}{x:List (List Nat)}{z:List Nat}{Q:VK}{E:XK}(hp:Pc t H p x z){m n:Nat}(C:Cl x m n)(k:Q (.int ((m:Nat):Int)) H):∃ a dx fs C,(V.ref p)=.ref a∧H a=some (.ins C dx fs)∧fs.lookup ("wide" : Str)=none∧Cls K C∧Meth K C "wide" t.Av∧Avc t [.ref p] H Q E:=by
 obtain⟨D,dx,l,hC,h1,h2⟩:=id hp
 exact⟨p,dx,_,D,rfl,h1,(Amk _ _).1,(pcC T hC).c,(pcC T hC).wide,p,x,z,m,n,rfl,hp,C,k⟩
theorem Ul(T:Txt K mg t){H:Hp}{p:Addr}{x:List (List Nat)}{z:List Nat}{Q:VK}{E:XK}(hp:Pc t H p x z){m n:Nat}(C:Cl x m n)(k:Q (.int ((n:Nat):Int)) H):∃ a dx fs C,(V.ref p)=.ref a∧H a=some (.ins C dx fs)∧fs.lookup ("high" : Str)=none∧Cls K C∧Meth K C "high" t.Aw∧Avd t [.ref p] H Q E:=by
 obtain⟨D,dx,l,hC,h1,h2⟩:=id hp
 exact⟨p,dx,_,D,rfl,h1,(Amk _ _).2.1,(pcC T hC).c,(pcC T hC).high,p,x,z,m,n,rfl,hp,C,k⟩
theorem J4(T:Txt K mg t){H:Hp}{p:Addr}{x:List (List Nat)}{z:List Nat}{Q:VK}{E:XK}(hp:Pc t H p x z)(k:∀ l,H l=none→Q (.ref l) (upd H l (.lst (vS x)))):∃ a dx fs C,(V.ref p)=.ref a∧H a=some (.ins C dx fs)∧fs.lookup ("cloth" : Str)=none∧Cls K C∧Meth K C "cloth" t.Al∧AsD t [.ref p] H Q E:=by
 obtain⟨D,dx,l,hC,h1,h2⟩:=id hp
 exact⟨p,dx,_,D,rfl,h1,(Amk _ _).2.2.2.1,(pcC T hC).c,(pcC T hC).A2O,p,x,z,rfl,hp,k⟩
theorem M4(T:Txt K mg t){H:Hp}{p:Addr}{x:List (List Nat)}{z:List Nat}{Q:VK}{E:XK}(hp:Pc t H p x z)(k:Q (.str (tx z)) H):∃ a dx fs C,(V.ref p)=.ref a∧H a=some (.ins C dx fs)∧fs.lookup ("told" : Str)=none∧Cls K C∧Meth K C "told" t.An∧Ave t [.ref p] H Q E:=by
 obtain⟨D,dx,l,hC,h1,h2⟩:=id hp
 exact⟨p,dx,_,D,rfl,h1,(Amk _ _).2.2.2.2,(pcC T hC).c,(pcC T hC).told,p,x,z,rfl,hp,k⟩
theorem Avf:(("beside" : Str))=tx beW:=by decide +kernel
theorem Avg:(("above" : Str))=tx abW:=by decide +kernel
theorem Avh:(("mirror" : Str))=tx miW:=by decide +kernel
theorem Avi:(("upend" : Str))=tx upW:=by decide +kernel
theorem Avj:(("back" : Str))=tx baW:=by decide +kernel
theorem Az1:(("quarter" : Str))=tx quW:=by decide +kernel
theorem Avk:(("tile" : Str))=tx tiW:=by decide +kernel
theorem Az2:(("blocks" : Str))=tx blW:=by decide +kernel
theorem Az3:(("lay" : Str))=tx laW:=by decide +kernel
def Az4 (t:Adr):Sp:=fun vs H Q E=>∃(p q:Addr) (x y:List (List Nat)) (zx zy:List Nat) (m n m' n':Nat),vs=[.ref p,.ref q]∧Pc t H p x zx∧Pc t H q y zy∧Cl x m n∧Cl y m' n'∧(m=m'∧n=n'→Q .non H)∧(¬(m=m'∧n=n')→E (.ref t.Aj) none H)
theorem WY(T:Txt K mg t):Aq P w K mg base (CX1 P w) 2 t.Fl t.O4 ["one", "other"] (Az4 t):=by
 have Eo:Aq P w K mg base CX0 1 t.Av t.K8 _ _:=Q4 T
 have Ep:Aq P w K mg base CX0 1 t.Aw t.K9 _ _:=Q5 T
 have Bq:Aq P w K mg base CX0 1 t.Al t.Fb _ _:=Ga T
 have By:Aq P w K mg base CX0 1 t.An t.Gb _ _:=Gx T
 refine T.Jf.F.okX AhG (fun vs H Q E h=>?_) (fun cdv A outer s H vs Q E hr h=>?_)
 ·obtain⟨p,q,x,y,zx,zy,m,n,m',n',rfl,_⟩:=h
  rfl
 ·obtain⟨p,q,x,y,zx,zy,m,n,m',n',rfl,hp,hq,C,D,k1,k2⟩:=h
  refine⟨_,(Ag (Ck (PW.pt (pw_or (Az Ah2 (Bp (K:=K) rfl (pv 0) (Eo.mono (by decide)) hr T.GC.b Ax) (Bp (K:=K) rfl (pv 1) (Eo.mono (by decide)) hr T.GC.b Ax) (Bh _)) (pw_or1 (Az Ah2 (Bp (K:=K) rfl (pv 0) (Ep.mono (by decide)) hr T.GD.b Ax) (Bp (K:=K) rfl (pv 1) (Ep.mono (by decide)) hr T.GD.b Ax) (Bh _)))))
    (Ag (Eu Kv rfl (fun _ _ z=>z) PySem.F.excBase_ValueError Jc PySem.F.excBase_ValueError T.BK.q rfl T.Cm (Aa Af Ac)))
    Bf)),?_⟩
  refine⟨_,rfl,Uk T hp C ?_⟩
  refine⟨_,rfl,Uk T hq D ?_⟩
  refine⟨rfl,_,rfl,?_⟩
  by_cases c1:m=m'
  ·refine Ah5 (by rw[c1]) ?_
   refine⟨_,rfl,Ul T hp C ?_⟩
   refine⟨_,rfl,Ul T hq D ?_⟩
   refine⟨rfl,_,rfl,?_⟩
   by_cases c2:n=n'
   ·refine Ah5 (by rw[c2]) ?_
    exact k1 ⟨c1,c2⟩
   ·refine ArY (fun z=>c2 (by injection z with z;omega)) ?_
    exact⟨by decide,k2 (fun z=>c2 z.2)⟩
  ·refine ArY (fun z=>c1 (by injection z with z;omega)) ?_
   exact Tn ⟨by decide,k2 (fun z=>c1 z.1)⟩
def Aue (K:PySem.W.Frag)(t:Adr)(C:Addr)(mk:List (List Nat)→List (List Nat)→Res)(wd:List Nat):Sp:=fun vs H Q E=>∃(r dx p q:Addr) (x y:List (List Nat)) (zx zy:List Nat),vs=[.ref r,.ref p,.ref q]∧H r=some (.ins C dx [])∧Pc t H p x zx∧Pc t H q y zy∧Clo x∧Clo y∧(wz wd [zx,zy]).length≤1000000∧Oi t C dx r H Q E (mk x y) (wz wd [zx,zy])
theorem Afi(T:Txt K mg t):Aq P w K mg base (CX1 P w) 3 t.Dq t.R4 ["self", "one", "other"] (Aue K t t.Cv AhC beW):=by
 have Eo:Aq P w K mg base CX0 1 t.Av t.K8 _ _:=Q4 T
 have Ep:Aq P w K mg base CX0 1 t.Aw t.K9 _ _:=Q5 T
 have Bq:Aq P w K mg base CX0 1 t.Al t.Fb _ _:=Ga T
 have By:Aq P w K mg base CX0 1 t.An t.Gb _ _:=Gx T
 have Di:Aq P w K mg base CX0 1 t.Fo t.HH _ _:=HW T
 have Bb:Aq P w K mg base CX0 1 t.Ba t.BV _ _:=Cd T
 have GF:Aq P w K mg base (CX1 P w) 2 t.Fj t.Jz _ _:=Ko T
 refine T.Yl.F.okX W8 (fun vs H Q E h=>?_) (fun cdv A outer s H vs Q E hr h=>?_)
 ·obtain⟨r,dx,p,q,x,y,zx,zy,rfl,_⟩:=h
  rfl
 ·obtain⟨r,dx,p,q,x,y,zx,zy,rfl,h1,hp,hq,C,D,hw,k⟩:=h
  refine⟨_,(Ae (Ck (Az Ah2 (Bp (K:=K) rfl (pv 1) (Ep.mono (by decide)) hr T.GD.b Ax) (Bp (K:=K) rfl (pv 2) (Ep.mono (by decide)) hr T.GD.b Ax) (Bh _))
    (Ag (Eu Kv rfl (fun _ _ z=>z) PySem.F.excBase_ValueError Jc PySem.F.excBase_ValueError T.BK.q rfl T.Cm (Aa Af Ac)))
    Bf)
   (Ae (BX (Bc (GF.mono (by decide)) hr rfl T.Dy.m T.Dy.F.kp T.Dy.b .nil Ig (Aa (Bo Mr (Bp (K:=K) rfl (pv 1) (Eo.mono (by decide)) hr T.GC.b Ax) (Bp (K:=K) rfl (pv 2) (Eo.mono (by decide)) hr T.GC.b Ax)) (Aa (Bp (K:=K) rfl (pv 1) (Ep.mono (by decide)) hr T.GD.b Ax) Ac))))
   (Ae (PS.nox (ApS (K:=K) (i:=3) (Abw.mk (BW:=[]) (Nc:=["left", "right"]) rfl (by decide +kernel) (by decide +kernel) (Jw (sc0:=Ab CQ) rfl (by decide +kernel)) rfl rfl rfl rfl rfl (by decide +kernel) (fun _ _ h=>by simp at h)) rfl W8.nd rfl rfl (AuN (K:=K) rfl T.AuY (Aa (Bp (K:=K) rfl (pv 1) (Bq.mono (by decide)) hr T.Dc.b Ax) (Aa (Bp (K:=K) rfl (pv 2) (Bq.mono (by decide)) hr T.Dc.b Ax) Ac))) (fun _ _ _ _ _=>.nil) (fun _ _ _ _ _=>(Bo Bu (pv 0) (pv 1))) rfl))
   (Ag (BX (O1 (Cq (v:=.ref t.BP) rfl T.O5 rfl) T.Km (Bb.mono (by decide)) hr T.Ca.b .nil Ax (Aa (pv 0) (Aa (pv 3) (Aa (Bc (Di.mono (by decide)) hr rfl T.written.m T.written.F.kp T.written.b .nil Ax (Aa Af (Aa (GX (Aa (Bp (K:=K) rfl (pv 1) (By.mono (by decide)) hr T.Dz.b Ax) (Aa (Bp (K:=K) rfl (pv 2) (By.mono (by decide)) hr T.Dz.b Ax) Ac))) Ac))) Ac))))))))),?_⟩
  have x40:=C.n40
  have Awv:=C.m40
  have A5H:=D.m40
  unfold AhC at k
  refine⟨_,rfl,Ul T hp C ?_⟩
  refine⟨_,rfl,Ul T hq D ?_⟩
  refine⟨rfl,_,rfl,?_⟩
  by_cases c1:x.length=y.length
  case neg =>
   rw[if_pos c1] at k
   refine ArY (fun z=>c1 (by injection z with z;omega)) ?_
   exact⟨by decide,k _ (Kp (.refl _))⟩
  rw[if_neg (fun z=>z c1)] at k
  refine Ah5 (by rw[c1]) ?_
  refine⟨_,rfl,Uk T hp C ?_⟩
  refine⟨_,rfl,Uk T hq D ?_⟩
  refine⟨_,_,rfl,rfl,?_⟩
  refine⟨_,rfl,Ul T hp C ?_⟩
  refine⟨wdt x+wdt y,x.length,rfl,fun c2=>?_,fun c2 H' s'=>?_⟩
  case' refine_2 =>
   rw[if_pos c2] at k
   exact k _ (Kp s')
  rw[if_neg (by omega)] at k
  refine⟨_,rfl,J4 T hp fun l1 nl1=>?_⟩
  have s1:Bv H (upd H l1 (.lst (vS x))):=.upd nl1
  have hl1:(upd H l1 (.lst (vS x))) l1=some (.lst (vS x)):=Ad
  generalize upd H l1 (.lst (vS x))=H1 at s1 hl1 ⊢
  refine⟨_,rfl,J4 T (hq.mono s1) fun l2 nl2=>?_⟩
  have s2:Bv H1 (upd H1 l2 (.lst (vS y))):=.upd nl2
  have hl2:(upd H1 l2 (.lst (vS y))) l2=some (.lst (vS y)):=Ad
  generalize upd H1 l2 (.lst (vS y))=H2 at s2 hl2 ⊢
  have hl1:=s2 _ _ hl1
  refine⟨.l l1,.l l2,rfl,trivial,⟨_,SqL.of hl1⟩,⟨_,SqL.of hl2⟩,?_⟩
  have zl:(List.zipWith (·++·) x y).length=x.length:=by rw[List.length_zipWith,← c1,A6I]
  refine Aso (n:=x.length) (fun i=>.str (tx (x.getD i []))) (fun i=>.str (tx (y.getD i []))) (fun i ys H8=>Bv H2 H8∧ys=vS ((List.zipWith (·++·) x y).take i)) ⟨.refl _,rfl⟩ ?_ ?_ ?_ ?_ ?_ ?_ ?_
  ·rintro i ys H8 hi ⟨s8,rfl⟩
   rw[DG,A5S]
   omega
  ·exact Jm x40
  ·rintro i ys H8 hi ⟨s8,_⟩
   have e:x.getD i []=x[i]:=by simp[List.getD,hi]
   exact⟨_,SqL.of (s8 _ _ hl1),by rw[e];exact Aqz (A5L hi)⟩
  ·rintro i ys H8 hi ⟨s8,_⟩
   have hi2:i<y.length:=by omega
   have e:y.getD i []=y[i]:=by simp[List.getD,hi2]
   exact⟨_,SqL.of (s8 _ _ hl2),by rw[e];exact Aqz (A5L hi2)⟩
  ·rintro ys H8 ⟨s8,_⟩
   exact⟨⟨_,SqL.of (s8 _ _ hl1)⟩,⟨_,SqL.of (s8 _ _ hl2)⟩,.inl ⟨_,SqL.of (s8 _ _ hl1),by rw[DG]⟩⟩
  ·rintro i ys H8 T8 hi ⟨s8,rfl⟩ nT8
   have hi2:i<y.length:=by omega
   have e1:x.getD i []=x[i]:=by simp[List.getD,hi]
   have e2:y.getD i []=y[i]:=by simp[List.getD,hi2]
   have w1:=C.hm _ (A6m hi)
   have w2:=D.hm _ (A6m hi2)
   refine Mv.no ?_
   rw[e1,e2]
   refine⟨_,rfl,_,rfl,_,_,rfl,rfl,(by rw[Ao,Ao,w1,w2];exact big (by omega)),?_⟩
   rw[Gf]
   refine CN.of hi ⟨s8.new nT8,?_⟩
   rw[QZ,A6i,List.getElem?_zipWith,A5L hi,A5L hi2]
   rfl
  ·rintro ys H8 l8 ⟨s8,rfl⟩ nl8
   rw[A6w (by rw[zl];exact A5K _)]
   have u8:=((s1.trans s2).trans s8).new (o:=.lst (vS (List.zipWith (·++·) x y))) nl8
   have hl8:(upd H8 l8 (.lst (vS (List.zipWith (·++·) x y)))) l8=some (.lst (vS (List.zipWith (·++·) x y))):=Ad
   generalize upd H8 l8 (.lst (vS (List.zipWith (·++·) x y)))=H9 at u8 hl8 ⊢
   refine⟨rfl,_,rfl,_,rfl,_,rfl,M4 T (hp.mono u8) ?_⟩
   refine⟨_,rfl,M4 T (hq.mono u8) ?_⟩
   refine⟨(by show 2≤sizeLine;decide),fun p9 np9=>?_⟩
   have v9:Bv H9 (upd H9 p9 (.lst (vS [zx,zy]))):=.upd np9
   have hp9:(upd H9 p9 (.lst (vS [zx,zy]))) p9=some (.lst (vS [zx,zy])):=Ad
   rw[show(upd H9 p9 (.lst [V.str (tx zx),V.str (tx zy)]))=upd H9 p9 (.lst (vS [zx,zy])) from rfl]
   generalize upd H9 p9 (.lst (vS [zx,zy]))=Ha at v9 hp9 ⊢
   refine⟨p9,beW,[zx,zy],(by rw[Avf];rfl),SqL.of hp9,(by simp),hw,?_⟩
   refine⟨t.Cv,r,dx,l8,_,_,rfl,(u8.trans v9) _ _ h1,T.AmQ.c,T.Jq,T.HJ,SqL.of (v9 _ _ hl8),fun l hl=>?_⟩
   exact k.fin (u8.trans v9) h1 hl
theorem Ag5(T:Txt K mg t):Aq P w K mg base (CX1 P w) 3 t.Ei t.Tv ["self", "one", "other"] (Aue K t t.Dv AmI abW):=by
 have Eo:Aq P w K mg base CX0 1 t.Av t.K8 _ _:=Q4 T
 have Ep:Aq P w K mg base CX0 1 t.Aw t.K9 _ _:=Q5 T
 have Bq:Aq P w K mg base CX0 1 t.Al t.Fb _ _:=Ga T
 have By:Aq P w K mg base CX0 1 t.An t.Gb _ _:=Gx T
 have Di:Aq P w K mg base CX0 1 t.Fo t.HH _ _:=HW T
 have Bb:Aq P w K mg base CX0 1 t.Ba t.BV _ _:=Cd T
 have GF:Aq P w K mg base (CX1 P w) 2 t.Fj t.Jz _ _:=Ko T
 refine T.AaA.F.okX AhK (fun vs H Q E h=>?_) (fun cdv A outer s H vs Q E hr h=>?_)
 ·obtain⟨r,dx,p,q,x,y,zx,zy,rfl,_⟩:=h
  rfl
 ·obtain⟨r,dx,p,q,x,y,zx,zy,rfl,h1,hp,hq,C,D,hw,k⟩:=h
  refine⟨_,(Ae (Ck (Az Ah2 (Bp (K:=K) rfl (pv 1) (Eo.mono (by decide)) hr T.GC.b Ax) (Bp (K:=K) rfl (pv 2) (Eo.mono (by decide)) hr T.GC.b Ax) (Bh _))
    (Ag (Eu Kv rfl (fun _ _ z=>z) PySem.F.excBase_ValueError Jc PySem.F.excBase_ValueError T.BK.q rfl T.Cm (Aa Af Ac)))
    Bf)
   (Ae (BX (Bc (GF.mono (by decide)) hr rfl T.Dy.m T.Dy.F.kp T.Dy.b .nil Ig (Aa (Bp (K:=K) rfl (pv 1) (Eo.mono (by decide)) hr T.GC.b Ax) (Aa (Bo Mr (Bp (K:=K) rfl (pv 1) (Ep.mono (by decide)) hr T.GD.b Ax) (Bp (K:=K) rfl (pv 2) (Ep.mono (by decide)) hr T.GD.b Ax)) Ac))))
   (Ag (BX (O1 (Cq (v:=.ref t.BP) rfl T.O5 rfl) T.Km (Bb.mono (by decide)) hr T.Ca.b .nil Ax (Aa (pv 0) (Aa (Bo A0s (Bp (K:=K) rfl (pv 1) (Bq.mono (by decide)) hr T.Dc.b Ax) (Bp (K:=K) rfl (pv 2) (Bq.mono (by decide)) hr T.Dc.b Ax)) (Aa (Bc (Di.mono (by decide)) hr rfl T.written.m T.written.F.kp T.written.b .nil Ax (Aa Af (Aa (GX (Aa (Bp (K:=K) rfl (pv 1) (By.mono (by decide)) hr T.Dz.b Ax) (Aa (Bp (K:=K) rfl (pv 2) (By.mono (by decide)) hr T.Dz.b Ax) Ac))) Ac))) Ac)))))))),?_⟩
  have x40:=C.n40
  have y40:=D.n40
  unfold AmI at k
  refine⟨_,rfl,Uk T hp C ?_⟩
  refine⟨_,rfl,Uk T hq D ?_⟩
  refine⟨rfl,_,rfl,?_⟩
  by_cases c1:wdt x=wdt y
  case neg =>
   rw[if_pos c1] at k
   refine ArY (fun z=>c1 (by injection z with z;omega)) ?_
   exact⟨by decide,k _ (Kp (.refl _))⟩
  rw[if_neg (fun z=>z c1)] at k
  refine Ah5 (by rw[c1]) ?_
  refine⟨_,rfl,Uk T hp C ?_⟩
  refine⟨_,rfl,Ul T hp C ?_⟩
  refine⟨_,rfl,Ul T hq D ?_⟩
  refine⟨_,_,rfl,rfl,?_⟩
  refine⟨wdt x,x.length+y.length,rfl,fun c2=>?_,fun c2 H' s'=>?_⟩
  case' refine_2 =>
   rw[if_pos c2] at k
   exact k _ (Kp s')
  rw[if_neg (by omega)] at k
  refine⟨rfl,_,rfl,_,rfl,J4 T hp fun l1 nl1=>?_⟩
  have s1:Bv H (upd H l1 (.lst (vS x))):=.upd nl1
  have hl1:(upd H l1 (.lst (vS x))) l1=some (.lst (vS x)):=Ad
  generalize upd H l1 (.lst (vS x))=H1 at s1 hl1 ⊢
  refine⟨_,rfl,J4 T (hq.mono s1) fun l2 nl2=>?_⟩
  have s2:Bv H1 (upd H1 l2 (.lst (vS y))):=.upd nl2
  have hl2:(upd H1 l2 (.lst (vS y))) l2=some (.lst (vS y)):=Ad
  generalize upd H1 l2 (.lst (vS y))=H2 at s2 hl2 ⊢
  have hl1:=s2 _ _ hl1
  refine⟨_,_,_,_,rfl,rfl,hl1,hl2,(by rw[DG,DG];exact big (by omega)),fun l8 nl8=>?_⟩
  rw[show vS x++vS y=vS (x++y) by unfold vS;rw[A5Y]]
  have u8:=(s1.trans s2).new (o:=.lst (vS (x++y))) nl8
  have hl8:(upd H2 l8 (.lst (vS (x++y)))) l8=some (.lst (vS (x++y))):=Ad
  generalize upd H2 l8 (.lst (vS (x++y)))=H9 at u8 hl8 ⊢
  refine⟨_,rfl,M4 T (hp.mono u8) ?_⟩
  refine⟨_,rfl,M4 T (hq.mono u8) ?_⟩
  refine⟨(by show 2≤sizeLine;decide),fun p9 np9=>?_⟩
  have v9:Bv H9 (upd H9 p9 (.lst (vS [zx,zy]))):=.upd np9
  have hp9:(upd H9 p9 (.lst (vS [zx,zy]))) p9=some (.lst (vS [zx,zy])):=Ad
  rw[show(upd H9 p9 (.lst [V.str (tx zx),V.str (tx zy)]))=upd H9 p9 (.lst (vS [zx,zy])) from rfl]
  generalize upd H9 p9 (.lst (vS [zx,zy]))=Ha at v9 hp9 ⊢
  refine⟨p9,abW,[zx,zy],(by rw[Avg];rfl),SqL.of hp9,(by simp),hw,?_⟩
  refine⟨t.Dv,r,dx,l8,_,_,rfl,(u8.trans v9) _ _ h1,T.AqG.c,T.Kf,T.IW,SqL.of (v9 _ _ hl8),fun l hl=>?_⟩
  exact k.fin (u8.trans v9) h1 hl
def AqS (K:PySem.W.Frag)(t:Adr)(C:Addr)(wd:List Nat)(mk:List (List Nat)→List (List Nat)):Sp:=fun vs H Q E=>∃(r dx p:Addr) (x:List (List Nat)) (zx:List Nat),vs=[.ref r,.ref p]∧H r=some (.ins C dx [])∧Pc t H p x zx∧Clo x∧(wz wd [zx]).length≤1000000∧Oi t C dx r H Q E (.ok (mk x)) (wz wd [zx])
theorem Ag6(T:Txt K mg t):Aq P w K mg base CX0 3 t.Dr t.R5 ["self", "inner"] (AqS K t t.Cw miW (List.map List.reverse)):=by
 have Bq:Aq P w K mg base CX0 1 t.Al t.Fb _ _:=Ga T
 have By:Aq P w K mg base CX0 1 t.An t.Gb _ _:=Gx T
 have Di:Aq P w K mg base CX0 1 t.Fo t.HH _ _:=HW T
 have Bb:Aq P w K mg base CX0 1 t.Ba t.BV _ _:=Cd T
 refine T.Ym.F.ok W9 (fun vs H Q E h=>?_) (fun cdv A outer s H vs Q E hr h=>?_)
 ·obtain⟨r,dx,p,x,zx,rfl,_⟩:=h
  rfl
 ·obtain⟨r,dx,p,x,zx,rfl,h1,hp,C,hw,k⟩:=h
  refine⟨_,(Ae (Ama (i:=2) (Jo.mk (BW:=[]) (Nc:=["text"]) rfl (by decide +kernel) (by decide +kernel) (Jw (sc0:=Ab CT) rfl (by decide +kernel)) rfl rfl rfl (by decide +kernel) (fun _ _ h=>by simp at h)) rfl W9.nd rfl rfl (JX (K:=K) (Bp (K:=K) rfl (pv 1) (Bq.mono (by decide)) hr T.Dc.b Ax)) (fun _ _ _ _ _=>.nil) (fun _ _ _ _ _=>(Qa (K:=K) PySem.F.plainAttrs_str PySem.F.slot_str_join PySem.F.type_str_join Am8 Af (Aa (Er AkU rfl T.Ag1 AcS (Aa (pv 0) Ac)) Ac))) rfl)
   (Ag (BX (O1 (Cq (v:=.ref t.BP) rfl T.O5 rfl) T.Km (Bb.mono (by decide)) hr T.Ca.b .nil Ax (Aa (pv 0) (Aa (pv 2) (Aa (Bc (Di.mono (by decide)) hr rfl T.written.m T.written.F.kp T.written.b .nil Ax (Aa Af (Aa (GX (Aa (Bp (K:=K) rfl (pv 1) (By.mono (by decide)) hr T.Dz.b Ax) Ac)) Ac))) Ac))))))),?_⟩
  have x40:=C.n40
  have Awv:=C.m40
  refine⟨_,rfl,J4 T hp fun l1 nl1=>?_⟩
  have s1:Bv H (upd H l1 (.lst (vS x))):=.upd nl1
  have hl1:(upd H l1 (.lst (vS x))) l1=some (.lst (vS x)):=Ad
  generalize upd H l1 (.lst (vS x))=H1 at s1 hl1 ⊢
  refine⟨_,rfl,⟨_,SqL.of hl1⟩,Tq (K:=K) (a:=l1) (xs:=vS x) (fun i ys H2=>Bv H1 H2∧ys=vS ((x.take i).map List.reverse)) ⟨.refl _,rfl⟩ ?_ ?_ ?_ ?_⟩
  ·rintro i ys H2 hi ⟨s2,rfl⟩
   refine⟨SqL.of (s2 _ _ hl1),?_⟩
   rw[DG,A5I,A5S]
   omega
  ·rw[DG];exact Jm x40
  ·rintro i xv ys H2 hi hx ⟨s2,rfl⟩
   obtain⟨u,hu,rfl⟩:=ZG hx
   have hul:=C.hm u (A6e hu)
   refine Mv.no ?_
   refine⟨rfl,_,rfl,_,rfl,(by rw[Ao,hul];exact Jm Awv),fun q hq=>?_⟩
   refine⟨_,_,q,rfl,rfl,Ad,(by decide +kernel),(by rw[Ao];omega),?_⟩
   rw[Q6,show(("" : Str))=tx [] from by decide +kernel,show(u.reverse.map fun c=>(⟨#[c]⟩:Str))=(u.reverse.map fun c=>[c]).map tx by rw[A6M];rfl,AeD]
   have e2:(u.reverse.map fun c=>[c]).flatten=u.reverse:=(ApL id u.reverse).trans (A6O _)
   rw[e2]
   refine CN.of hi ⟨(s2.new hq).over (s2.free hq),?_⟩
   rw[QZ,A6i,hu,A5Y]
   rfl
  rintro ys H2 l8 ⟨s2,rfl⟩ nl8
  rw[DG,A6p]
  have u8:=(s1.trans s2).new (o:=.lst (vS (x.map List.reverse))) nl8
  have hl8:(upd H2 l8 (.lst (vS (x.map List.reverse)))) l8=some (.lst (vS (x.map List.reverse))):=Ad
  generalize upd H2 l8 (.lst (vS (x.map List.reverse)))=H9 at u8 hl8 ⊢
  refine⟨rfl,_,rfl,_,rfl,?_⟩
  refine⟨_,rfl,M4 T (hp.mono u8) ?_⟩
  refine⟨(by show 1≤sizeLine;decide),fun p9 np9=>?_⟩
  have v9:Bv H9 (upd H9 p9 (.lst (vS [zx]))):=.upd np9
  have hp9:(upd H9 p9 (.lst (vS [zx]))) p9=some (.lst (vS [zx])):=Ad
  rw[show(upd H9 p9 (.lst [V.str (tx zx)]))=upd H9 p9 (.lst (vS [zx])) from rfl]
  generalize upd H9 p9 (.lst (vS [zx]))=Ha at v9 hp9 ⊢
  refine⟨p9,miW,[zx],(by rw[Avh];rfl),SqL.of hp9,(by simp),hw,?_⟩
  refine⟨t.Cw,r,dx,l8,_,_,rfl,(u8.trans v9) _ _ h1,T.AmR.c,T.Jr,T.HN,SqL.of (v9 _ _ hl8),fun l hl=>?_⟩
  exact k.fin (u8.trans v9) h1 hl
theorem Aib(T:Txt K mg t):Aq P w K mg base CX0 3 t.Ej t.Tw ["self", "inner"] (AqS K t t.Dw upW List.reverse):=by
 have Bq:Aq P w K mg base CX0 1 t.Al t.Fb _ _:=Ga T
 have By:Aq P w K mg base CX0 1 t.An t.Gb _ _:=Gx T
 have Di:Aq P w K mg base CX0 1 t.Fo t.HH _ _:=HW T
 have Bb:Aq P w K mg base CX0 1 t.Ba t.BV _ _:=Cd T
 refine T.AaB.F.ok AhL (fun vs H Q E h=>?_) (fun cdv A outer s H vs Q E hr h=>?_)
 ·obtain⟨r,dx,p,x,zx,rfl,_⟩:=h
  rfl
 ·obtain⟨r,dx,p,x,zx,rfl,h1,hp,C,hw,k⟩:=h
  refine⟨_,(Ag (BX (O1 (Cq (v:=.ref t.BP) rfl T.O5 rfl) T.Km (Bb.mono (by decide)) hr T.Ca.b .nil Ax (Aa (pv 0) (Aa (AtC (K:=K) rfl T.AtQ rfl T.Ag1 (Bp (K:=K) rfl (pv 1) (Bq.mono (by decide)) hr T.Dc.b Ax)) (Aa (Bc (Di.mono (by decide)) hr rfl T.written.m T.written.F.kp T.written.b .nil Ax (Aa Af (Aa (GX (Aa (Bp (K:=K) rfl (pv 1) (By.mono (by decide)) hr T.Dz.b Ax) Ac)) Ac))) Ac)))))),?_⟩
  have x40:=C.n40
  have Awv:=C.m40
  refine⟨rfl,_,rfl,_,rfl,J4 T hp fun l1 nl1=>?_⟩
  have s1:Bv H (upd H l1 (.lst (vS x))):=.upd nl1
  have hl1:(upd H l1 (.lst (vS x))) l1=some (.lst (vS x)):=Ad
  generalize upd H l1 (.lst (vS x))=H1 at s1 hl1 ⊢
  refine⟨l1,vS x,rfl,SqL.of hl1,(by rw[DG];omega),fun l8 nl8=>?_⟩
  rw[show(vS x).reverse=vS x.reverse by unfold vS;rw[List.map_reverse]]
  have u8:=s1.new (o:=.lst (vS x.reverse)) nl8
  have hl8:(upd H1 l8 (.lst (vS x.reverse))) l8=some (.lst (vS x.reverse)):=Ad
  generalize upd H1 l8 (.lst (vS x.reverse))=H9 at u8 hl8 ⊢
  refine⟨_,rfl,M4 T (hp.mono u8) ?_⟩
  refine⟨(by show 1≤sizeLine;decide),fun p9 np9=>?_⟩
  have v9:Bv H9 (upd H9 p9 (.lst (vS [zx]))):=.upd np9
  have hp9:(upd H9 p9 (.lst (vS [zx]))) p9=some (.lst (vS [zx])):=Ad
  rw[show(upd H9 p9 (.lst [V.str (tx zx)]))=upd H9 p9 (.lst (vS [zx])) from rfl]
  generalize upd H9 p9 (.lst (vS [zx]))=Ha at v9 hp9 ⊢
  refine⟨p9,upW,[zx],(by rw[Avi];rfl),SqL.of hp9,(by simp),hw,?_⟩
  refine⟨t.Dw,r,dx,l8,_,_,rfl,(u8.trans v9) _ _ h1,T.AqH.c,T.Kg,T.Ja,SqL.of (v9 _ _ hl8),fun l hl=>?_⟩
  exact k.fin (u8.trans v9) h1 hl
theorem Aj9(T:Txt K mg t):Aq P w K mg base CX0 6 t.Fe t.Vo ["self", "inner"] (AqS K t t.Gh baW back):=by
 have Bq:Aq P w K mg base CX0 1 t.Al t.Fb _ _:=Ga T
 have By:Aq P w K mg base CX0 1 t.An t.Gb _ _:=Gx T
 have Di:Aq P w K mg base CX0 1 t.Fo t.HH _ _:=HW T
 have Bb:Aq P w K mg base CX0 1 t.Ba t.BV _ _:=Cd T
 have Aww:Aq P w K mg base CX0 4 t.Rp t.Ajw _ _:=AtZ T
 refine T.Acw.F.ok Aju (fun vs H Q E h=>?_) (fun cdv A outer s H vs Q E hr h=>?_)
 ·obtain⟨r,dx,p,x,zx,rfl,_⟩:=h
  rfl
 ·obtain⟨r,dx,p,x,zx,rfl,h1,hp,C,hw,k⟩:=h
  refine⟨_,(Ag (BX (O1 (Cq (v:=.ref t.BP) rfl T.O5 rfl) T.Km (Bb.mono (by decide)) hr T.Ca.b .nil Ax (Aa (pv 0) (Aa (Bc (Aww.mono (by decide)) hr rfl T.Amf.m T.Amf.F.kp T.Amf.b .nil Ax (Aa (Bp (K:=K) rfl (pv 1) (Bq.mono (by decide)) hr T.Dc.b Ax) Ac)) (Aa (Bc (Di.mono (by decide)) hr rfl T.written.m T.written.F.kp T.written.b .nil Ax (Aa Af (Aa (GX (Aa (Bp (K:=K) rfl (pv 1) (By.mono (by decide)) hr T.Dz.b Ax) Ac)) Ac))) Ac)))))),?_⟩
  have x40:=C.n40
  have Awv:=C.m40
  refine⟨rfl,_,rfl,_,rfl,J4 T hp fun l1 nl1=>?_⟩
  have s1:Bv H (upd H l1 (.lst (vS x))):=.upd nl1
  have hl1:(upd H l1 (.lst (vS x))) l1=some (.lst (vS x)):=Ad
  generalize upd H l1 (.lst (vS x))=H1 at s1 hl1 ⊢
  refine⟨l1,x,wdt x,x.length,rfl,SqL.of hl1,C,fun l8 H9 s9 nl8 hl8=>?_⟩
  have u8:=s1.trans s9
  refine⟨_,rfl,M4 T (hp.mono u8) ?_⟩
  refine⟨(by show 1≤sizeLine;decide),fun p9 np9=>?_⟩
  have v9:Bv H9 (upd H9 p9 (.lst (vS [zx]))):=.upd np9
  have hp9:(upd H9 p9 (.lst (vS [zx]))) p9=some (.lst (vS [zx])):=Ad
  rw[show(upd H9 p9 (.lst [V.str (tx zx)]))=upd H9 p9 (.lst (vS [zx])) from rfl]
  generalize upd H9 p9 (.lst (vS [zx]))=Ha at v9 hp9 ⊢
  refine⟨p9,baW,[zx],(by rw[Avj];rfl),SqL.of hp9,(by simp),hw,?_⟩
  refine⟨t.Gh,r,dx,l8,_,_,rfl,(u8.trans v9) _ _ h1,T.AtS.c,T.Mp,T.Js,SqL.of (v9 _ _ hl8),fun l hl=>?_⟩
  exact k.fin (u8.trans v9) h1 hl
theorem Afj(T:Txt K mg t):Aq P w K mg base CX0 6 t.CZ t.Rc ["self", "inner"] (AqS K t t.BR quW (fun x=>AmG x (wdt x))):=by
 have Bq:Aq P w K mg base CX0 1 t.Al t.Fb _ _:=Ga T
 have By:Aq P w K mg base CX0 1 t.An t.Gb _ _:=Gx T
 have Di:Aq P w K mg base CX0 1 t.Fo t.HH _ _:=HW T
 have Bb:Aq P w K mg base CX0 1 t.Ba t.BV _ _:=Cd T
 have AqT:Aq P w K mg base CX0 4 t.Jx t.Abz _ _:=Apa T
 refine T.WQ.F.ok Afh (fun vs H Q E h=>?_) (fun cdv A outer s H vs Q E hr h=>?_)
 ·obtain⟨r,dx,p,x,zx,rfl,_⟩:=h
  rfl
 ·obtain⟨r,dx,p,x,zx,rfl,h1,hp,C,hw,k⟩:=h
  refine⟨_,(Ag (BX (O1 (Cq (v:=.ref t.BP) rfl T.O5 rfl) T.Km (Bb.mono (by decide)) hr T.Ca.b .nil Ax (Aa (pv 0) (Aa (Bc (AqT.mono (by decide)) hr rfl T.Ab4.m T.Ab4.F.kp T.Ab4.b .nil Ax (Aa (Bp (K:=K) rfl (pv 1) (Bq.mono (by decide)) hr T.Dc.b Ax) Ac)) (Aa (Bc (Di.mono (by decide)) hr rfl T.written.m T.written.F.kp T.written.b .nil Ax (Aa Af (Aa (GX (Aa (Bp (K:=K) rfl (pv 1) (By.mono (by decide)) hr T.Dz.b Ax) Ac)) Ac))) Ac)))))),?_⟩
  have x40:=C.n40
  have Awv:=C.m40
  refine⟨rfl,_,rfl,_,rfl,J4 T hp fun l1 nl1=>?_⟩
  have s1:Bv H (upd H l1 (.lst (vS x))):=.upd nl1
  have hl1:(upd H l1 (.lst (vS x))) l1=some (.lst (vS x)):=Ad
  generalize upd H l1 (.lst (vS x))=H1 at s1 hl1 ⊢
  refine⟨l1,x,wdt x,x.length,rfl,SqL.of hl1,C,fun l8 H9 s9 nl8 hl8=>?_⟩
  have u8:=s1.trans s9
  refine⟨_,rfl,M4 T (hp.mono u8) ?_⟩
  refine⟨(by show 1≤sizeLine;decide),fun p9 np9=>?_⟩
  have v9:Bv H9 (upd H9 p9 (.lst (vS [zx]))):=.upd np9
  have hp9:(upd H9 p9 (.lst (vS [zx]))) p9=some (.lst (vS [zx])):=Ad
  rw[show(upd H9 p9 (.lst [V.str (tx zx)]))=upd H9 p9 (.lst (vS [zx])) from rfl]
  generalize upd H9 p9 (.lst (vS [zx]))=Ha at v9 hp9 ⊢
  refine⟨p9,quW,[zx],(by rw[Az1];rfl),SqL.of hp9,(by simp),hw,?_⟩
  refine⟨t.BR,r,dx,l8,_,_,rfl,(u8.trans v9) _ _ h1,T.Aj1.c,T.Jb,T.Hc,SqL.of (v9 _ _ hl8),fun l hl=>?_⟩
  exact k.fin (u8.trans v9) h1 hl
def Az5 (K:PySem.W.Frag)(t:Adr):Sp:=fun vs H Q E=>∃(r dx p:Addr) (x:List (List Nat)) (zx:List Nat) (a b:Nat),vs=[.ref r,.ref p,.int (a:Int),.int (b:Int)]∧H r=some (.ins t.FQ dx [])∧Pc t H p x zx∧Clo x∧a<100∧b<100∧(wz tiW [zx,dec a,dec b]).length≤1000000∧Oi t t.FQ dx r H Q E (Ass x a b) (wz tiW [zx,dec a,dec b])
theorem Aic(T:Txt K mg t):Aq P w K mg base (CX1 P w) 6 t.Ff t.Vp ["self", "inner", "across", "along"] (Az5 K t):=by
 have Bq:Aq P w K mg base CX0 1 t.Al t.Fb _ _:=Ga T
 have By:Aq P w K mg base CX0 1 t.An t.Gb _ _:=Gx T
 have Di:Aq P w K mg base CX0 1 t.Fo t.HH _ _:=HW T
 have Bb:Aq P w K mg base CX0 1 t.Ba t.BV _ _:=Cd T
 have Az6:Aq P w K mg base (CX1 P w) 4 t.Yd t.AqA _ _:=AxY T
 refine T.Acx.F.okX Aa6 (fun vs H Q E h=>?_) (fun cdv A outer s H vs Q E hr h=>?_)
 ·obtain⟨r,dx,p,x,zx,a,b,rfl,_⟩:=h
  rfl
 ·obtain⟨r,dx,p,x,zx,a,b,rfl,h1,hp,C,ha,hb,hw,k⟩:=h
  refine⟨_,(Ae (Ck (PW.pt (pw_or (Az Ww (pv 2) Am (Bh _)) (pw_or1 (Az Ww (pv 3) Am (Bh _)))))
    (Ag (Eu Kv rfl (fun _ _ z=>z) PySem.F.excBase_ValueError Jc PySem.F.excBase_ValueError T.BK.q rfl T.Cm (Aa Af Ac)))
    Bf)
   (Ae (CP (i:=4) Aa6.nd rfl (Or.inl rfl) (Bc (Az6.mono (by decide)) hr rfl T.AuX.m T.AuX.F.kp T.AuX.b .nil Ig (Aa (Bp (K:=K) rfl (pv 1) (Bq.mono (by decide)) hr T.Dc.b Ax) (Aa (pv 2) (Aa (pv 3) Ac)))))
   (Ag (BX (O1 (Cq (v:=.ref t.BP) rfl T.O5 rfl) T.Km (Bb.mono (by decide)) hr T.Ca.b .nil Ax (Aa (pv 0) (Aa (pv 4) (Aa (Bc (Di.mono (by decide)) hr rfl T.written.m T.written.F.kp T.written.b .nil Ax (Aa Af (Aa (GX (Aa (Bp (K:=K) rfl (pv 1) (By.mono (by decide)) hr T.Dz.b Ax) (Aa (Er Gz rfl T.Adg W2 (Aa (pv 2) Ac)) (Aa (Er Gz rfl T.Adg W2 (Aa (pv 3) Ac)) Ac)))) Ac))) Ac)))))))),?_⟩
  unfold Ass at k
  have fin:(a<1∨b<1)→∀ H',HF r H H'→E (.ref t.Aj) none H':=fun g=>by
   rw[if_pos g] at k
   exact k
  refine⟨_,rfl,_,_,rfl,rfl,_,rfl,?_⟩
  refine Hu (fun c1=>?_) (fun c1=>?_)
  ·exact Tn ⟨by decide,fin (.inl (by omega)) _ (Kp (.refl _))⟩
  refine⟨_,rfl,_,_,rfl,rfl,_,rfl,?_⟩
  refine Hu (fun c2=>?_) (fun c2=>?_)
  ·exact⟨by decide,fin (.inr (by omega)) _ (Kp (.refl _))⟩
  rw[if_neg (by omega)] at k
  refine⟨_,rfl,J4 T hp fun l1 nl1=>?_⟩
  have s1:Bv H (upd H l1 (.lst (vS x))):=.upd nl1
  have hl1:(upd H l1 (.lst (vS x))) l1=some (.lst (vS x)):=Ad
  generalize upd H l1 (.lst (vS x))=H1 at s1 hl1 ⊢
  have e1:((wdt x:Nat):Int)*(a:Int)=((wdt x*a:Nat):Int):=by rw[A6t]
  have e2:((x.length:Nat):Int)*(b:Int)=((x.length*b:Nat):Int):=by rw[A6t]
  refine⟨_,rfl,_,rfl,l1,x,wdt x,x.length,(a:Int),(b:Int),rfl,SqL.of hl1,C,(by omega),(by omega),fun c3 l8 H9 s9 nl8 hl8=>?_,fun c3 H' s'=>?_⟩
  case' refine_2 =>
   rw[e1,e2] at c3
   rw[if_pos (by omega)] at k
   exact k _ (Kp (s1.trans s'))
  rw[e1,e2] at c3
  rw[if_neg (by omega)] at k
  rw[A5Z,A5Z] at hl8
  have u8:=s1.trans s9
  refine⟨rfl,_,rfl,_,rfl,_,rfl,M4 T (hp.mono u8) ?_⟩
  refine⟨_,rfl,_,rfl,lg ha,_,rfl,_,rfl,lg hb,?_⟩
  rw[W4 a,W4 b]
  refine⟨(by show 3≤sizeLine;decide),fun p9 np9=>?_⟩
  have v9:Bv H9 (upd H9 p9 (.lst (vS [zx,dec a,dec b]))):=.upd np9
  have hp9:(upd H9 p9 (.lst (vS [zx,dec a,dec b]))) p9=some (.lst (vS [zx,dec a,dec b])):=Ad
  rw[show(upd H9 p9 (.lst [V.str (tx zx),V.str (tx (dec a)),V.str (tx (dec b))]))=upd H9 p9 (.lst (vS [zx,dec a,dec b])) from rfl]
  generalize upd H9 p9 (.lst (vS [zx,dec a,dec b]))=Ha at v9 hp9 ⊢
  refine⟨p9,tiW,[zx,dec a,dec b],(by rw[Avk];rfl),SqL.of hp9,(by simp),hw,?_⟩
  refine⟨t.FQ,r,dx,l8,_,_,rfl,(u8.trans v9) _ _ h1,T.AtT.c,T.Mq,T.Jt,SqL.of (v9 _ _ hl8),fun l hl=>?_⟩
  exact k.fin (u8.trans v9) h1 hl
def A1f (K:PySem.W.Frag)(t:Adr):Sp:=fun vs H Q E=>∃(r dx o p q:Addr) (v x y:List (List Nat)) (zv zx zy:List Nat),vs=[.ref r,.ref o,.ref p,.ref q]∧H r=some (.ins t.Cr dx [])∧Pc t H o v zv∧Pc t H p x zx∧Pc t H q y zy∧Clo v∧Clo x∧Clo y∧(wz blW [zv,zx,zy]).length≤1000000∧Oi t t.Cr dx r H Q E (AhD v x y) (wz blW [zv,zx,zy])
theorem Afk(T:Txt K mg t):Aq P w K mg base (CX1 P w) 7 t.Dt t.R6 ["self", "profile", "one", "other"] (A1f K t):=by
 have Bq:Aq P w K mg base CX0 1 t.Al t.Fb _ _:=Ga T
 have By:Aq P w K mg base CX0 1 t.An t.Gb _ _:=Gx T
 have Di:Aq P w K mg base CX0 1 t.Fo t.HH _ _:=HW T
 have Bb:Aq P w K mg base CX0 1 t.Ba t.BV _ _:=Cd T
 have AlC:Aq P w K mg base (CX1 P w) 5 t.GK t.Vr _ _:=Aj6 T
 have T4:Aq P w K mg base (CX1 P w) 2 t.Fl t.O4 _ _:=WY T
 refine T.Yn.F.okX WD (fun vs H Q E h=>?_) (fun cdv A outer s H vs Q E hr h=>?_)
 ·obtain⟨r,dx,o,p,q,v,x,y,zv,zx,zy,rfl,_⟩:=h
  rfl
 ·obtain⟨r,dx,o,p,q,v,x,y,zv,zx,zy,rfl,h1,ho,hp,hq,B,C,D,hw,k⟩:=h
  refine⟨_,(Ae (BX (Bc (T4.mono (by decide)) hr rfl T.Jf.m T.Jf.F.kp T.Jf.b .nil Ig (Aa (pv 2) (Aa (pv 3) Ac))))
   (Ae (CP (i:=4) WD.nd rfl (Or.inl rfl) (Bc (AlC.mono (by decide)) hr rfl T.Uh.m T.Uh.F.kp T.Uh.b .nil Ig (Aa (Bp (K:=K) rfl (pv 1) (Bq.mono (by decide)) hr T.Dc.b Ax) (Aa (Bp (K:=K) rfl (pv 2) (Bq.mono (by decide)) hr T.Dc.b Ax) (Aa (Bp (K:=K) rfl (pv 3) (Bq.mono (by decide)) hr T.Dc.b Ax) Ac)))))
   (Ag (BX (O1 (Cq (v:=.ref t.BP) rfl T.O5 rfl) T.Km (Bb.mono (by decide)) hr T.Ca.b .nil Ax (Aa (pv 0) (Aa (pv 4) (Aa (Bc (Di.mono (by decide)) hr rfl T.written.m T.written.F.kp T.written.b .nil Ax (Aa Af (Aa (GX (Aa (Bp (K:=K) rfl (pv 1) (By.mono (by decide)) hr T.Dz.b Ax) (Aa (Bp (K:=K) rfl (pv 2) (By.mono (by decide)) hr T.Dz.b Ax) (Aa (Bp (K:=K) rfl (pv 3) (By.mono (by decide)) hr T.Dz.b Ax) Ac)))) Ac))) Ac)))))))),?_⟩
  unfold AhD at k
  refine⟨_,rfl,_,rfl,p,q,x,y,zx,zy,wdt x,x.length,wdt y,y.length,rfl,hp,hq,C,D,fun c1=>?_,fun c1=>?_⟩
  case' refine_2 =>
   rw[if_pos (by omega)] at k
   exact k _ (Kp (.refl _))
  rw[if_neg (by omega)] at k
  refine⟨_,rfl,J4 T ho fun l1 nl1=>?_⟩
  have s1:Bv H (upd H l1 (.lst (vS v))):=.upd nl1
  have hl1:(upd H l1 (.lst (vS v))) l1=some (.lst (vS v)):=Ad
  generalize upd H l1 (.lst (vS v))=H1 at s1 hl1 ⊢
  refine⟨_,rfl,J4 T (hp.mono s1) fun l2 nl2=>?_⟩
  have s2:Bv H1 (upd H1 l2 (.lst (vS x))):=.upd nl2
  have hl2:(upd H1 l2 (.lst (vS x))) l2=some (.lst (vS x)):=Ad
  generalize upd H1 l2 (.lst (vS x))=H2 at s2 hl2 ⊢
  refine⟨_,rfl,J4 T (hq.mono (s1.trans s2)) fun l3 nl3=>?_⟩
  have s3:Bv H2 (upd H2 l3 (.lst (vS y))):=.upd nl3
  have hl3:(upd H2 l3 (.lst (vS y))) l3=some (.lst (vS y)):=Ad
  generalize upd H2 l3 (.lst (vS y))=H3 at s3 hl3 ⊢
  have u3:=(s1.trans s2).trans s3
  have D':Cl y (wdt x) x.length:=by rw[c1.1,c1.2];exact D
  refine⟨l1,l2,l3,v,x,y,wdt v,v.length,wdt x,x.length,rfl,SqL.of (s3 _ _ (s2 _ _ hl1)),SqL.of (s3 _ _ hl2),SqL.of hl3,B,C,D',fun c3 l8 H9 s9 nl8 hl8=>?_,fun c3 H' s'=>?_⟩
  case' refine_2 =>
   rw[if_pos (by omega)] at k
   exact k _ (Kp (u3.trans s'))
  rw[if_neg (by omega)] at k
  have u8:=u3.trans s9
  refine⟨rfl,_,rfl,_,rfl,_,rfl,M4 T (ho.mono u8) ?_⟩
  refine⟨_,rfl,M4 T (hp.mono u8) ?_⟩
  refine⟨_,rfl,M4 T (hq.mono u8) ?_⟩
  refine⟨(by show 3≤sizeLine;decide),fun p9 np9=>?_⟩
  have v9:Bv H9 (upd H9 p9 (.lst (vS [zv,zx,zy]))):=.upd np9
  have hp9:(upd H9 p9 (.lst (vS [zv,zx,zy]))) p9=some (.lst (vS [zv,zx,zy])):=Ad
  rw[show(upd H9 p9 (.lst [V.str (tx zv),V.str (tx zx),V.str (tx zy)]))=upd H9 p9 (.lst (vS [zv,zx,zy])) from rfl]
  generalize upd H9 p9 (.lst (vS [zv,zx,zy]))=Ha at v9 hp9 ⊢
  refine⟨p9,blW,[zv,zx,zy],(by rw[Az2];rfl),SqL.of hp9,(by simp),hw,?_⟩
  refine⟨t.Cr,r,dx,l8,_,_,rfl,(u8.trans v9) _ _ h1,T.AmS.c,T.Ju,T.HQ,SqL.of (v9 _ _ hl8),fun l hl=>?_⟩
  exact k.fin (u8.trans v9) h1 hl
theorem Aye(k:Nat):(List.replicate k [V.int 0,V.int 1]).flatten=vI (ZK k):=by
 unfold ZK
 induction k with
 | zero=>rfl
 | succ k ih =>
  rw[A6g,A6d,ih,A6g,A6d]
  rfl
theorem AjA(T:Txt K mg t):Aq P w K mg base (CX1 P w) 4 t.FT t.WK ["self", "upper", "lower"] (Aue K t t.Je Axn laW):=by
 have Eo:Aq P w K mg base CX0 1 t.Av t.K8 _ _:=Q4 T
 have Ep:Aq P w K mg base CX0 1 t.Aw t.K9 _ _:=Q5 T
 have Bq:Aq P w K mg base CX0 1 t.Al t.Fb _ _:=Ga T
 have By:Aq P w K mg base CX0 1 t.An t.Gb _ _:=Gx T
 have Di:Aq P w K mg base CX0 1 t.Fo t.HH _ _:=HW T
 have Bb:Aq P w K mg base CX0 1 t.Ba t.BV _ _:=Cd T
 have GF:Aq P w K mg base (CX1 P w) 2 t.Fj t.Jz _ _:=Ko T
 have T4:Aq P w K mg base (CX1 P w) 2 t.Fl t.O4 _ _:=WY T
 have AlD:Aq P w K mg base CX0 2 t.GP t.Vs _ _:=Aj8 T
 refine T.Adh.F.okX Acu (fun vs H Q E h=>?_) (fun cdv A outer s H vs Q E hr h=>?_)
 ·obtain⟨r,dx,p,q,x,y,zx,zy,rfl,_⟩:=h
  rfl
 ·obtain⟨r,dx,p,q,x,y,zx,zy,rfl,h1,hp,hq,C,D,hw,k⟩:=h
  refine⟨_,(Ae (BX (Bc (T4.mono (by decide)) hr rfl T.Jf.m T.Jf.F.kp T.Jf.b .nil Ig (Aa (pv 1) (Aa (pv 2) Ac))))
   (Ae (BX (Bc (GF.mono (by decide)) hr rfl T.Dy.m T.Dy.F.kp T.Dy.b .nil Ig (Aa (Bo ZD Am (Bp (K:=K) rfl (pv 1) (Eo.mono (by decide)) hr T.GC.b Ax)) (Aa (Bo ZD Am (Bp (K:=K) rfl (pv 1) (Ep.mono (by decide)) hr T.GD.b Ax)) Ac))))
   (Ae (CP (i:=3) Acu.nd rfl (Or.inl rfl) (Bc (AlD.mono (by decide)) hr rfl T.Ui.m T.Ui.F.kp T.Ui.b .nil Ax (Aa (GX (Aa (Bp (K:=K) rfl (pv 1) (Bq.mono (by decide)) hr T.Dc.b Ax) (Aa (Bp (K:=K) rfl (pv 2) (Bq.mono (by decide)) hr T.Dc.b Ax) Ac))) (Aa (Bo Am0 (GX (Aa Am (Aa Am Ac))) (Bp (K:=K) rfl (pv 1) (Eo.mono (by decide)) hr T.GC.b Ax)) (Aa (Bo Am0 (GX (Aa Am (Aa Am Ac))) (Bp (K:=K) rfl (pv 1) (Ep.mono (by decide)) hr T.GD.b Ax)) Ac)))))
   (Ag (BX (O1 (Cq (v:=.ref t.BP) rfl T.O5 rfl) T.Km (Bb.mono (by decide)) hr T.Ca.b .nil Ax (Aa (pv 0) (Aa (pv 3) (Aa (Bc (Di.mono (by decide)) hr rfl T.written.m T.written.F.kp T.written.b .nil Ax (Aa Af (Aa (GX (Aa (Bp (K:=K) rfl (pv 1) (By.mono (by decide)) hr T.Dz.b Ax) (Aa (Bp (K:=K) rfl (pv 2) (By.mono (by decide)) hr T.Dz.b Ax) Ac))) Ac))) Ac))))))))),?_⟩
  unfold Axn at k
  have hsz:sizeLine=16777216:=sizeLine_eq
  refine⟨_,rfl,_,rfl,p,q,x,y,zx,zy,wdt x,x.length,wdt y,y.length,rfl,hp,hq,C,D,fun c1=>?_,fun c1=>?_⟩
  case' refine_2 =>
   rw[if_pos (by omega)] at k
   exact k _ (Kp (.refl _))
  rw[if_neg (by omega)] at k
  have Awv:=C.m40
  have x40:=C.n40
  refine⟨_,rfl,Uk T hp C ?_⟩
  refine⟨_,_,rfl,rfl,.inl ⟨by decide,by decide⟩,?_⟩
  refine⟨_,rfl,Ul T hp C ?_⟩
  refine⟨_,_,rfl,rfl,.inl ⟨by decide,by decide⟩,?_⟩
  refine⟨2*wdt x,2*x.length,(by rw[A6t,A6t];rfl),fun c2=>?_,fun c2 H' s'=>?_⟩
  case' refine_2 =>
   rw[if_pos c2] at k
   exact k _ (Kp s')
  rw[if_neg (by omega)] at k
  refine⟨_,rfl,J4 T hp fun l1 nl1=>?_⟩
  have s1:Bv H (upd H l1 (.lst (vS x))):=.upd nl1
  have hl1:(upd H l1 (.lst (vS x))) l1=some (.lst (vS x)):=Ad
  generalize upd H l1 (.lst (vS x))=H1 at s1 hl1 ⊢
  refine⟨_,rfl,J4 T (hq.mono s1) fun l2 nl2=>?_⟩
  have s2:Bv H1 (upd H1 l2 (.lst (vS y))):=.upd nl2
  have hl2:(upd H1 l2 (.lst (vS y))) l2=some (.lst (vS y)):=Ad
  generalize upd H1 l2 (.lst (vS y))=H2 at s2 hl2 ⊢
  refine⟨(by show 2≤sizeLine;decide),fun l3 nl3=>?_⟩
  have s3:Bv H2 (upd H2 l3 (.lst [V.ref l1,V.ref l2])):=.upd nl3
  have hl3:(upd H2 l3 (.lst [V.ref l1,V.ref l2])) l3=some (.lst [V.ref l1,V.ref l2]):=Ad
  generalize upd H2 l3 (.lst [V.ref l1,V.ref l2])=H3 at s3 hl3 ⊢
  refine⟨(by show 2≤sizeLine;decide),fun l4 nl4=>?_⟩
  have s4:Bv H3 (upd H3 l4 (.lst [V.int 0,V.int 1])):=.upd nl4
  have hl4:(upd H3 l4 (.lst [V.int 0,V.int 1])) l4=some (.lst [V.int 0,V.int 1]):=Ad
  generalize upd H3 l4 (.lst [V.int 0,V.int 1])=H4 at s4 hl4 ⊢
  have u4:=((s1.trans s2).trans s3).trans s4
  refine⟨_,rfl,Uk T (hp.mono u4) C ?_⟩
  refine⟨_,_,_,rfl,rfl,hl4,(by omega),(by omega),(by rw[A5Z];show 2*_≤_;omega),fun l5 nl5=>?_⟩
  rw[A5Z,Aye]
  have s5:Bv H4 (upd H4 l5 (.lst (vI (ZK (wdt x))))):=.upd nl5
  have hl5:(upd H4 l5 (.lst (vI (ZK (wdt x))))) l5=some (.lst (vI (ZK (wdt x)))):=Ad
  generalize upd H4 l5 (.lst (vI (ZK (wdt x))))=H5 at s5 hl5 ⊢
  refine⟨(by show 2≤sizeLine;decide),fun l6 nl6=>?_⟩
  have s6:Bv H5 (upd H5 l6 (.lst [V.int 0,V.int 1])):=.upd nl6
  have hl6:(upd H5 l6 (.lst [V.int 0,V.int 1])) l6=some (.lst [V.int 0,V.int 1]):=Ad
  generalize upd H5 l6 (.lst [V.int 0,V.int 1])=H6 at s6 hl6 ⊢
  have u6:=(u4.trans s5).trans s6
  refine⟨_,rfl,Ul T (hp.mono u6) C ?_⟩
  refine⟨_,_,_,rfl,rfl,hl6,(by omega),(by omega),(by rw[A5Z];show 2*_≤_;omega),fun l7 nl7=>?_⟩
  rw[A5Z,Aye]
  have s7:Bv H6 (upd H6 l7 (.lst (vI (ZK x.length)))):=.upd nl7
  have hl7:(upd H6 l7 (.lst (vI (ZK x.length)))) l7=some (.lst (vI (ZK x.length))):=Ad
  generalize upd H6 l7 (.lst (vI (ZK x.length)))=H7 at s7 hl7 ⊢
  have u7:=u6.trans s7
  have w3:Bv H3 H7:=((s4.trans s5).trans s6).trans s7
  have D':Cl y (wdt x) x.length:=by rw[c1.1,c1.2];exact D
  refine⟨l3,l5,l7,[l1,l2],[x,y],ZK (wdt x),ZK x.length,rfl,SqL.of (w3 _ _ hl3),⟨rfl,fun i a hi=>?_⟩,SqL.of ((s6.trans s7) _ _ hl5),SqL.of hl7,Axx C D' c2.1 c2.2,fun l8 H9 s9 nl8 hl8=>?_⟩
  ·rcases i with _ | _ | i
   ·cases hi
    exact SqL.of (w3 _ _ (s3 _ _ (s2 _ _ hl1)))
   ·cases hi
    exact SqL.of (w3 _ _ (s3 _ _ hl2))
   ·simp at hi
  have u8:=u7.trans s9
  refine⟨rfl,_,rfl,_,rfl,_,rfl,M4 T (hp.mono u8) ?_⟩
  refine⟨_,rfl,M4 T (hq.mono u8) ?_⟩
  refine⟨(by show 2≤sizeLine;decide),fun p9 np9=>?_⟩
  have v9:Bv H9 (upd H9 p9 (.lst (vS [zx,zy]))):=.upd np9
  have hp9:(upd H9 p9 (.lst (vS [zx,zy]))) p9=some (.lst (vS [zx,zy])):=Ad
  rw[show(upd H9 p9 (.lst [V.str (tx zx),V.str (tx zy)]))=upd H9 p9 (.lst (vS [zx,zy])) from rfl]
  generalize upd H9 p9 (.lst (vS [zx,zy]))=Ha at v9 hp9 ⊢
  refine⟨p9,laW,[zx,zy],(by rw[Az3];rfl),SqL.of hp9,(by simp),hw,?_⟩
  refine⟨t.Je,r,dx,l8,_,_,rfl,(u8.trans v9) _ _ h1,T.Ax7.c,T.O7,T.Kl,SqL.of (v9 _ _ hl8),fun l hl=>?_⟩
  exact k.fin (u8.trans v9) h1 hl
def Oc (t:Adr)(H:Hp)(Q:VK)(E:XK)(R:Res)(z:List Nat):Prop:=match R with
 | .ok x=>∀ p H',Bv H H'→Pc t (nw H H') p x z→Q (.ref p) H'
 | .no f=>∀ H',Bv H H'→E (.ref (rfa t f)) none H'
theorem Aqe{r dx C:Addr}{H H':Hp}(h1:H r=none)(h2:H dx=none)(s:HF r (upd (upd H dx (.own r)) r (.ins C dx [])) H'):Bv H H':=fun b o e=>by
 have n1:=Bs e h1
 refine s b o n1 ?_
 rw[Bd n1,Bd (Bs e h2)]
 exact e
theorem Avl{H H1 H2:Hp}(s:Bv H H1):∀ b o,nw H1 H2 b=some o→nw H H2 b=some o:=As8 fun b e=>by
 cases e2:H b with
 | none=>rfl
 | some o=>rw[s _ _ e2] at e;cases e
theorem Oc.same{H H1:Hp}{Q:VK}{E:XK}{R:Res}{z:List Nat}(k:Oc t H Q E R z)(s:Bv H H1):Oc t H1 Q E R z:=by
 cases R with
 | ok x=>exact fun p H' s' hp=>k p H' (s.trans s') (hp.mono (Avl s))
 | no f=>exact fun H' s'=>k H' (s.trans s')
theorem Oc.make{C r dx:Addr}{H:Hp}{Q:VK}{E:XK}{R:Res}{z:List Nat}(k:Oc t H Q E R z)(hC:C∈pcs t)(h1:H r=none)(h2:H dx=none):Oi t C dx r (upd (upd H dx (.own r)) r (.ins C dx [])) (fun v H2=>v=.non∧Q (.ref r) H2) E R z:=by
 cases R with
 | ok x =>
  intro l H' sb hl hl' hr'
  have nl:H l=none:=by
   by_cases e1:l=r
   ·rw[e1];exact h1
   ·rw[Bd e1] at hl
    by_cases e2:l=dx
    ·rw[e2];exact h2
    ·rw[Bd e2] at hl;exact hl
  exact⟨rfl,k r H' (Aqe h1 h2 sb) ⟨C,dx,l,hC,by rw[AhU h1];exact hr',by rw[AhU nl];exact hl'⟩⟩
 | no f=>exact fun H' sb=>k H' (Aqe h1 h2 sb)
inductive AtA (t:Adr) (H:Hp):Arg→V→Prop
 | num {n:Nat}:AtA t H (.num n) (.int (n:Int))
 | run {r:List Nat}:AtA t H (.run r) (.str (tx r))
 | cl {x:List (List Nat)} {z:List Nat} {p:Addr}:Pc t H p x z→AtA t H (.cl x z) (.ref p)
theorem AtA.mono{H H':Hp}(s:∀ b o,H b=some o→H' b=some o){x:Arg}{v:V}(h:AtA t H x v):AtA t H' x v:=by
 cases h with
 | num=>exact .num
 | run=>exact .run
 | cl h=>exact .cl (h.mono s)
theorem Ia{r dx C:Addr}{H:Hp}(h1:H r=none)(h2:H dx=none):Bv H (upd (upd H dx (.own r)) r (.ins C dx [])):=fun b o e=>by
 rw[Bd (Bs e h1),Bd (Bs e h2)]
 exact e
theorem O9:t.Dl∈pcs t∧t.FP∈pcs t∧t.Dm∈pcs t∧t.Dp∈pcs t∧t.Cv∈pcs t∧t.Dv∈pcs t∧t.Cw∈pcs t∧t.Dw∈pcs t∧t.Gh∈pcs t∧t.BR∈pcs t∧t.FQ∈pcs t∧t.Cr∈pcs t∧t.Je∈pcs t:=by
 simp[pcs]
def A2U (t:Adr):Sp:=fun vs H Q _=>∃(z zx:List Nat) (x:List (List Nat)) (p:Addr) (E:XK),vs=[.str (tx z),.ref p]∧(z=miW∨z=upW∨z=baW∨z=quW)∧Pc t H p x zx∧Clo x∧(wz z [zx]).length≤1000000∧Oc t H Q E (Axm z x) (wz z [zx])
theorem Adn{a b:List Nat}(h:¬a=b):¬(V.str (tx a):V)=V.str (tx b):=fun z=>h (by injection z with z;exact W0 z)
theorem Ang(T:Txt K mg t):Aq P w K mg base CX0 8 t.Iu t.ZR ["word", "inner"] (A2U t):=by
 have Aid:Aq P w K mg base CX0 3 t.Dr t.R5 _ _:=Ag6 T
 have AjB:Aq P w K mg base CX0 3 t.Ej t.Tw _ _:=Aib T
 have AlE:Aq P w K mg base CX0 6 t.Fe t.Vo _ _:=Aj9 T
 have Ag7:Aq P w K mg base CX0 6 t.CZ t.Rc _ _:=Afj T
 refine T.Yi.F.ok AmK (fun vs H Q E h=>?_) (fun cdv A outer s H vs Q E hr h=>?_)
 ·obtain⟨z,zx,x,p,E',rfl,_⟩:=h
  rfl
 ·obtain⟨z,zx,x,p,E',rfl,hz,hp,C,hw,k⟩:=h
  refine⟨_,(Ae (Ck (Az GJ (pv 0) Af (Bh _))
    (Ag (Bm (Mt T.AmR.m (Aid.mono (by decide)) hr rfl T.Ax5 T.Ym.b .nil Ax (Aa (pv 1) Ac))))
    Bf)
   (Ae (Ck (Az GJ (pv 0) Af (Bh _))
    (Ag (Bm (Mt T.AqH.m (AjB.mono (by decide)) hr rfl T.Azl T.AaB.b .nil Ax (Aa (pv 1) Ac))))
    Bf)
   (Ae (Ck (Az GJ (pv 0) Af (Bh _))
    (Ag (Bm (Mt T.AtS.m (AlE.mono (by decide)) hr rfl T.A0U T.Acw.b .nil Ax (Aa (pv 1) Ac))))
    Bf)
   (Ag (Bm (Mt T.Aj1.m (Ag7.mono (by decide)) hr rfl T.Awe T.WQ.b .nil Ax (Aa (pv 1) Ac))))))),?_⟩
  refine⟨_,rfl,rfl,_,rfl,?_⟩
  rw[Avh]
  by_cases c1:z=miW
  ·subst c1
   refine Mw rfl ?_
   exact⟨_,rfl,fun r dx hr1 hdx hne=>⟨r,dx,p,x,zx,rfl,Ad,hp.mono (Ia hr1 hdx),C,hw,Oc.make k O9.2.2.2.2.2.2.1 hr1 hdx⟩⟩
  refine Ht (Adn c1) ?_
  refine⟨_,rfl,rfl,_,rfl,?_⟩
  rw[Avi]
  by_cases c2:z=upW
  ·subst c2
   refine Mw rfl ?_
   exact⟨_,rfl,fun r dx hr1 hdx hne=>⟨r,dx,p,x,zx,rfl,Ad,hp.mono (Ia hr1 hdx),C,hw,Oc.make k O9.2.2.2.2.2.2.2.1 hr1 hdx⟩⟩
  refine Ht (Adn c2) ?_
  refine⟨_,rfl,rfl,_,rfl,?_⟩
  rw[Avj]
  by_cases c3:z=baW
  ·subst c3
   refine Mw rfl ?_
   exact⟨_,rfl,fun r dx hr1 hdx hne=>⟨r,dx,p,x,zx,rfl,Ad,hp.mono (Ia hr1 hdx),C,hw,Oc.make k O9.2.2.2.2.2.2.2.2.1 hr1 hdx⟩⟩
  refine Ht (Adn c3) ?_
  have c4:z=quW:=by
   rcases hz with h | h | h | h
   ·exact absurd h c1
   ·exact absurd h c2
   ·exact absurd h c3
   ·exact h
  subst c4
  exact⟨_,rfl,fun r dx hr1 hdx hne=>⟨r,dx,p,x,zx,rfl,Ad,hp.mono (Ia hr1 hdx),C,hw,Oc.make k O9.2.2.2.2.2.2.2.2.2.1 hr1 hdx⟩⟩
def A2V (t:Adr):Sp:=fun vs H Q E=>∃(z:List Nat) (a b:Arg) (va vb:V),vs=[.str (tx z),va,vb]∧¬z=Pat.VB∧Fit z [a,b]∧AtA t H a va∧AtA t H b vb∧(wz z [wrA a,wrA b]).length≤1000000∧Oc t H Q E (made z [a,b]) (wz z [wrA a,wrA b])
theorem AlF(T:Txt K mg t):Aq P w K mg base (CX1 P w) 6 t.Iv t.ZS ["word", "one", "other"] (A2V t):=by
 have AjC:Aq P w K mg base (CX1 P w) 3 t.Eg t.Tt _ _:=Ag3 T
 have AjD:Aq P w K mg base (CX1 P w) 3 t.Eh t.Tu _ _:=Ag4 T
 have Aie:Aq P w K mg base (CX1 P w) 3 t.Dq t.R4 _ _:=Afi T
 have AjE:Aq P w K mg base (CX1 P w) 3 t.Ei t.Tv _ _:=Ag5 T
 have Anh:Aq P w K mg base (CX1 P w) 4 t.FT t.WK _ _:=AjA T
 refine T.Yj.F.okX AmL (fun vs H Q E h=>?_) (fun cdv A outer s H vs Q E hr h=>?_)
 ·obtain⟨z,a,b,va,vb,rfl,_⟩:=h
  rfl
 ·obtain⟨z,a,b,va,vb,rfl,hz0,F,ha,hb,hw,k⟩:=h
  refine⟨_,(Ae (Ck (Az GJ (pv 0) Af (Bh _))
    (Ag (Bm (Mt T.AqE.m (AjC.mono (by decide)) hr rfl T.Azi T.Aa8.b .nil Ig (Aa (pv 1) (Aa (pv 2) Ac)))))
    Bf)
   (Ae (Ck (Az GJ (pv 0) Af (Bh _))
    (Ag (Bm (Mt T.AqF.m (AjD.mono (by decide)) hr rfl T.Azj T.Aa9.b .nil Ig (Aa (pv 1) (Aa (pv 2) Ac)))))
    Bf)
   (Ae (Ck (Az GJ (pv 0) Af (Bh _))
    (Ag (Bm (Mt T.AmQ.m (Aie.mono (by decide)) hr rfl T.Ax4 T.Yl.b .nil Ig (Aa (pv 1) (Aa (pv 2) Ac)))))
    Bf)
   (Ae (Ck (Az GJ (pv 0) Af (Bh _))
    (Ag (Bm (Mt T.AqG.m (AjE.mono (by decide)) hr rfl T.Azk T.AaA.b .nil Ig (Aa (pv 1) (Aa (pv 2) Ac)))))
    Bf)
   (Ag (Bm (Mt T.Ax7.m (Anh.mono (by decide)) hr rfl T.A2K T.Adh.b .nil Ig (Aa (pv 1) (Aa (pv 2) Ac))))))))),?_⟩
  have both:(∃ m n,(z=twW∨z=saW)∧a=.num m∧b=.num n∧m<100∧n<100)∨∃ x zx y zy,(z=beW∨z=abW∨z=laW)∧a=.cl x zx∧b=.cl y zy∧Clo x∧Clo y:=by
   generalize has:[a,b]=as at F
   cases F with
   | rows h1 h2 h3=>exact absurd rfl hz0
   | nums w h1 h2=>cases has;exact .inl ⟨_,_,w,rfl,rfl,h1,h2⟩
   | one w h1=>cases has
   | two w h1 h2=>cases has;exact .inr ⟨_,_,_,_,w,rfl,rfl,h1,h2⟩
   | tile h1 h2 h3=>cases has
   | blk h1 h2 h3=>cases has
  rcases both with ⟨m,n,w,rfl,rfl,hm,hn⟩ | ⟨x,zx,y,zy,w,rfl,rfl,C,D⟩
  ·cases ha
   cases hb
   refine⟨_,rfl,rfl,_,rfl,?_⟩
   rw[AqQ]
   by_cases c1:z=twW
   ·subst c1
    refine Mw rfl ?_
    exact⟨_,rfl,_,rfl,fun r dx hr1 hdx hne=>⟨r,dx,m,n,rfl,Ad,hm,hn,Oc.make k O9.2.2.1 hr1 hdx⟩⟩
   have c2:z=saW:=w.resolve_left c1
   subst c2
   refine Ht (Adn c1) ?_
   refine⟨_,rfl,rfl,_,rfl,?_⟩
   rw[AqR]
   refine Mw rfl ?_
   exact⟨_,rfl,_,rfl,fun r dx hr1 hdx hne=>⟨r,dx,m,n,rfl,Ad,hm,hn,Oc.make k O9.2.2.2.1 hr1 hdx⟩⟩
  ·obtain _ | _ | hp:=ha
   obtain _ | _ | hq:=hb
   have d1:¬z=twW:=by rcases w with rfl | rfl | rfl <;> decide
   have d2:¬z=saW:=by rcases w with rfl | rfl | rfl <;> decide
   refine⟨_,rfl,rfl,_,rfl,?_⟩
   rw[AqQ]
   refine Ht (Adn d1) ?_
   refine⟨_,rfl,rfl,_,rfl,?_⟩
   rw[AqR]
   refine Ht (Adn d2) ?_
   refine⟨_,rfl,rfl,_,rfl,?_⟩
   rw[Avf]
   by_cases c1:z=beW
   ·subst c1
    refine Mw rfl ?_
    exact⟨_,rfl,_,rfl,fun r dx hr1 hdx hne=>⟨r,dx,_,_,x,y,zx,zy,rfl,Ad,hp.mono (Ia hr1 hdx),hq.mono (Ia hr1 hdx),C,D,hw,Oc.make k O9.2.2.2.2.1 hr1 hdx⟩⟩
   refine Ht (Adn c1) ?_
   refine⟨_,rfl,rfl,_,rfl,?_⟩
   rw[Avg]
   by_cases c2:z=abW
   ·subst c2
    refine Mw rfl ?_
    exact⟨_,rfl,_,rfl,fun r dx hr1 hdx hne=>⟨r,dx,_,_,x,y,zx,zy,rfl,Ad,hp.mono (Ia hr1 hdx),hq.mono (Ia hr1 hdx),C,D,hw,Oc.make k O9.2.2.2.2.2.1 hr1 hdx⟩⟩
   refine Ht (Adn c2) ?_
   have c3:z=laW:=(w.resolve_left c1).resolve_left c2
   subst c3
   exact⟨_,rfl,_,rfl,fun r dx hr1 hdx hne=>⟨r,dx,_,_,x,y,zx,zy,rfl,Ad,hp.mono (Ia hr1 hdx),hq.mono (Ia hr1 hdx),C,D,hw,Oc.make k O9.2.2.2.2.2.2.2.2.2.2.2.2 hr1 hdx⟩⟩
def A2W (K:PySem.W.Frag)(t:Adr):Sp:=fun vs H Q E=>∃(z:List Nat) (a b c:Arg) (va vb vc:V) (l:Addr),vs=[.str (tx z),.ref l]∧SqL K H l [va,vb,vc]∧¬z=Pat.VB∧Fit z [a,b,c]∧AtA t H a va∧AtA t H b vb∧AtA t H c vc∧(wz z [wrA a,wrA b,wrA c]).length≤1000000∧Oc t H Q E (made z [a,b,c]) (wz z [wrA a,wrA b,wrA c])
theorem Aif(T:Txt K mg t):Aq P w K mg base (CX1 P w) 9 t.GR t.Vu ["word", "things"] (A2W K t):=by
 have AlG:Aq P w K mg base (CX1 P w) 6 t.Ff t.Vp _ _:=Aic T
 have Aig:Aq P w K mg base (CX1 P w) 7 t.Dt t.R6 _ _:=Afk T
 refine T.Uj.F.okX Ajs (fun vs H Q E h=>?_) (fun cdv A outer s H vs Q E hr h=>?_)
 ·obtain⟨z,a,b,c,va,vb,vc,l,rfl,_⟩:=h
  rfl
 ·obtain⟨z,a,b,c,va,vb,vc,l,rfl,hl,hz0,F,ha,hb,hc,hw,k⟩:=h
  refine⟨_,(Ae (Ck (Az GJ (pv 0) Af (Bh _))
    (Ag (Bm (Mt T.AtT.m (AlG.mono (by decide)) hr rfl T.A0V T.Acx.b .nil Ig (Aa (Ge (Fp (K:=K)) (pv 1) Am (fun _ _=>rfl)) (Aa (Ge (Fp (K:=K)) (pv 1) Am (fun _ _=>rfl)) (Aa (Ge (Fp (K:=K)) (pv 1) Am (fun _ _=>rfl)) Ac))))))
    Bf)
   (Ag (Bm (Mt T.AmS.m (Aig.mono (by decide)) hr rfl T.Ax6 T.Yn.b .nil Ig (Aa (Ge (Fp (K:=K)) (pv 1) Am (fun _ _=>rfl)) (Aa (Ge (Fp (K:=K)) (pv 1) Am (fun _ _=>rfl)) (Aa (Ge (Fp (K:=K)) (pv 1) Am (fun _ _=>rfl)) Ac))))))),?_⟩
  have a0:atI [va,vb,vc] 0=some va:=Fi (by decide) rfl
  have a1:atI [va,vb,vc] 1=some vb:=Fi (by decide) rfl
  have a2:atI [va,vb,vc] 2=some vc:=Fi (by decide) rfl
  have both:(∃ x zx m n,z=tiW∧a=.cl x zx∧b=.num m∧c=.num n∧Clo x∧m<100∧n<100)∨∃ v zv x zx y zy,z=blW∧a=.cl v zv∧b=.cl x zx∧c=.cl y zy∧Clo v∧Clo x∧Clo y:=by
   generalize has:[a,b,c]=as at F
   cases F with
   | rows h1 h2 h3=>exact absurd rfl hz0
   | nums w h1 h2=>cases has
   | one w h1=>cases has
   | two w h1 h2=>cases has
   | tile h1 h2 h3=>cases has;exact .inl ⟨_,_,_,_,rfl,rfl,rfl,rfl,h1,h2,h3⟩
   | blk h1 h2 h3=>cases has;exact .inr ⟨_,_,_,_,_,_,rfl,rfl,rfl,rfl,h1,h2,h3⟩
  refine⟨_,rfl,rfl,_,rfl,?_⟩
  rw[Avk]
  rcases both with ⟨x,zx,m,n,rfl,rfl,rfl,rfl,C,hm,hn⟩ | ⟨v,zv,x,zx,y,zy,rfl,rfl,rfl,rfl,B,C,D⟩
  ·obtain _ | _ | hp:=ha
   cases hb
   cases hc
   refine Mw rfl ?_
   exact⟨_,rfl,_,_,_,_,rfl,rfl,hl,a0,_,rfl,_,_,_,_,rfl,rfl,hl,a1,_,rfl,_,_,_,_,rfl,rfl,hl,a2,fun r dx hr1 hdx hne=>⟨r,dx,_,x,zx,m,n,rfl,Ad,hp.mono (Ia hr1 hdx),C,hm,hn,hw,Oc.make k O9.2.2.2.2.2.2.2.2.2.2.1 hr1 hdx⟩⟩
  ·obtain _ | _ | ho:=ha
   obtain _ | _ | hp:=hb
   obtain _ | _ | hq:=hc
   refine Ht (Adn (by decide)) ?_
   exact⟨_,rfl,_,_,_,_,rfl,rfl,hl,a0,_,rfl,_,_,_,_,rfl,rfl,hl,a1,_,rfl,_,_,_,_,rfl,rfl,hl,a2,fun r dx hr1 hdx hne=>⟨r,dx,_,_,_,v,x,y,zv,zx,zy,rfl,Ad,ho.mono (Ia hr1 hdx),hp.mono (Ia hr1 hdx),hq.mono (Ia hr1 hdx),B,C,D,hw,Oc.make k O9.2.2.2.2.2.2.2.2.2.2.2.1 hr1 hdx⟩⟩
def Kn (H:Hp)(kp:Addr)(kn:Kns):Prop:=∃ as:List Addr,H kp=some (.lst (as.map V.ref))∧as.length=kn.length∧∀(i:Nat) (a:Addr) (p:List Nat × List (List Nat)),as[i]?=some a→kn[i]?=some p→∃ q,H a=some (.tup [.str (tx p.1),.ref q])∧H q=some (.lst (vS p.2))
theorem Kn.same{H H':Hp}{kp:Addr}{kn:Kns}(h:Kn H kp kn)(s:Bv H H'):Kn H' kp kn:=by
 obtain⟨as,h1,h2,h3⟩:=h
 refine⟨as,s _ _ h1,h2,fun i a p g1 g2=>?_⟩
 obtain⟨q,e1,e2⟩:=h3 i a p g1 g2
 exact⟨q,s _ _ e1,s _ _ e2⟩
def Ayf (t:Adr):Sp:=fun vs H Q E=>∃(z:List Nat) (kp:Addr) (kn:Kns),vs=[.str (tx z),.ref kp]∧Kn H kp kn∧(∀ x q,known kn z=.ok x→H q=some (.lst (vS x))→Q (.ref q) H)∧(known kn z=.no .unk→E (.ref t.Bj) none H)
theorem AlH(T:Txt K mg t):Aq P w K mg base (CX1 P w) 1 t.Ir t.ZQ ["name", "known"] (Ayf t):=by
 refine T.Yh.F.okX W7 (fun vs H Q E h=>?_) (fun cdv A outer s H vs Q E hr h=>?_)
 ·obtain⟨z,kp,kn,rfl,_⟩:=h
  rfl
 ·obtain⟨z,kp,kn,rfl,⟨as,h1,h2,h3⟩,k1,k2⟩:=h
  refine⟨_,(Ae (PS.nox (Vm PassesOwn.never rfl (JX (K:=K) (pv 1)) (AcR rfl (Gy (En (i:=2) W7.nd rfl (Or.inl rfl)) (Gy (En (i:=3) W7.nd rfl (Or.inl rfl)) XX)))
    (Ag (Ck (Az GJ (pv 2) (pv 0) (Bh _))
     (Ag (Bm (pv 3)))
     Bf))))
   (Ag (Eu Kv rfl (fun _ _ z=>z) PySem.F.excBase_ValueError Jc PySem.F.excBase_ValueError T.Ws.q rfl T.Aj0 (Aa Af Ac)))),?_⟩
  refine⟨_,rfl,_,rfl,⟨_,SqL.of h1⟩,Aa2 (K:=K) (a:=kp) (xs:=as.map V.ref) (fun i σ H2=>∃ v1 v2,σ=[some (.str (tx z)),some (.ref kp),v1,v2]∧H2=H∧∀ p∈kn.take i,¬p.1=z) ⟨none,none,rfl,rfl,fun p hp=>by simp at hp⟩ (fun i σ H2 _ ⟨_,_,_,e,_⟩=>by rw[e];exact SqL.of h1) ?_ ?_⟩
  ·rintro i xv σ H2 hx ⟨v1,v2,rfl,rfl,no⟩
   rw[A5T] at hx
   cases ea:as[i]? with
   | none=>rw[ea] at hx;cases hx
   | some a =>
    rw[ea] at hx
    cases hx
    have hi:i<kn.length:=by rw[← h2];exact(List.getElem?_eq_some_iff.mp ea).1
    have ep:=A5L hi
    obtain⟨q,e1,e2⟩:=h3 i a _ ea ep
    refine⟨a,_,rfl,SqT.of e1,rfl,_,_,rfl,_,_,rfl,rfl,?_⟩
    refine⟨_,rfl,_,rfl,rfl,_,rfl,?_⟩
    by_cases c:kn[i].1=z
    ·refine Mw (by rw[c]) ?_
     refine⟨_,rfl,k1 kn[i].2 q ?_ e2⟩
     unfold known
     have:kn.find? (fun p=>decide (p.1=z))=some kn[i]:=by
      rw[List.find?_eq_some_iff_getElem]
      refine⟨by simpa using c,i,hi,rfl,fun j hj=>?_⟩
      have:=no kn[j] (List.mem_iff_getElem?.mpr ⟨j,by rw[List.getElem?_take_of_lt hj];exact A5L (by omega)⟩)
      simpa using this
     rw[this]
    ·refine Ht (Adn c) ?_
     refine⟨_,_,rfl,rfl,fun p hp=>?_⟩
     rw[A6i,ep] at hp
     rcases List.mem_append.mp hp with hp | hp
     ·exact no p hp
     ·rw[Option.toList_some,List.mem_singleton] at hp
      rw[hp]
      exact c
  ·rintro σ H2 ⟨v1,v2,rfl,rfl,no⟩
   rw[A5I,h2,A6p] at no
   refine⟨by decide,k2 ?_⟩
   unfold known
   have:kn.find? (fun p=>decide (p.1=z))=none:=List.find?_eq_none.mpr fun p hp=>by simpa using no p hp
   rw[this]
end
def rdp (kn:Kns)(u:List Nat):Res × List Nat:=match Pat.whole u with
 | none=>(.no .nop,[])
 | some x=>(out kn 12 x,wr 12 x)
def Pat.good(c:Nat):Prop:=Pat.letter c=true∨Pat.Rb c=true∨c=35∨c=46∨c=44∨c=40∨c=41∨c=32
def Bt (l l':List Nat):Prop:=∃ p,l=p++l'∧∀ c∈p,Pat.good c
theorem Bt.refl(l:List Nat):Bt l l:=⟨[],rfl,fun c h=>by simp at h⟩
theorem Bt.trans{a b c:List Nat}(h:Bt a b)(g:Bt b c):Bt a c:=by
 obtain⟨p,rfl,hp⟩:=h
 obtain⟨q,rfl,hq⟩:=g
 refine⟨p++q,by rw[A6S],fun x hx=>?_⟩
 rcases List.mem_append.mp hx with hx | hx
 ·exact hp x hx
 ·exact hq x hx
theorem Bt.drop{p:Nat→Bool}(hp:∀ c,p c=true→Pat.good c)(l:List Nat):Bt l (l.dropWhile p):=⟨l.takeWhile p,List.takeWhile_append_dropWhile.symm,fun c hc=>hp c (Aq4 hc)⟩
theorem Bt.sk(l:List Nat):Bt l (Pat.sk l):=Bt.drop (fun c h=>.inr (.inr (.inr (.inr (.inr (.inr (.inr (of_decide_eq_true h)))))))) l
theorem Bt.one{c:Nat}{l l':List Nat}(h:Pat.one c l=some l')(hc:Pat.good c):Bt l l':=by
 cases l with
 | nil=>cases h
 | cons a l =>
  unfold Pat.one at h
  dsimp only at h
  by_cases e:a=c
  ·rw[if_pos e] at h
   cases h
   exact⟨[a],rfl,fun x hx=>by rw[List.mem_singleton.mp hx,e];exact hc⟩
  ·rw[if_neg e] at h;cases h
theorem g40:Pat.good 40:=.inr (.inr (.inr (.inr (.inr (.inl rfl)))))
theorem g41:Pat.good 41:=.inr (.inr (.inr (.inr (.inr (.inr (.inl rfl))))))
theorem g44:Pat.good 44:=.inr (.inr (.inr (.inr (.inl rfl))))
theorem A1g{l l':List Nat}{n:Nat}(h:Pat.num l=some (n,l')):Bt l l':=by
 unfold Pat.num at h
 split at h
 ·cases h;exact(Bt.drop (fun c h=>.inr (.inl h)) l).trans (Bt.sk _)
 ·cases h
theorem Ayg{l l':List Nat}(h:Pat.comma l=some l'):Bt l l':=by
 unfold Pat.comma at h
 cases e:Pat.one 44 l with
 | none=>rw[e] at h;cases h
 | some l1=>rw[e] at h;cases h;exact(Bt.one e g44).trans (Bt.sk _)
theorem Ayh{l r l':List Nat}(h:Pat.run l=some (r,l')):Bt l l':=by
 unfold Pat.run at h
 split at h
 ·cases h
 ·cases h
  refine(Bt.drop (fun c h=>?_) l).trans (Bt.sk _)
  rcases of_decide_eq_true (p:=c=35∨c=46) h with e | e
  ·exact .inr (.inr (.inl e))
  ·exact .inr (.inr (.inr (.inl e)))
theorem Avm:∀{k:Nat} {l l':List Nat} {rs:List (List Nat)},Pat.Hv k l=some (rs,l')→Bt l l'
 | 0,l,l',rs,h=>by cases h
 | k+1,l,l',rs,h=>by
  unfold Pat.Hv at h
  cases e:Pat.one 44 l with
  | none=>rw[e] at h;cases h;exact .refl _
  | some l1 =>
   rw[e] at h
   dsimp only at h
   cases e2:Pat.run (Pat.sk l1) with
   | none=>rw[e2] at h;cases h
   | some q =>
    obtain⟨r,l2⟩:=q
    rw[e2] at h
    dsimp only at h
    cases e3:Pat.Hv k l2 with
    | none=>rw[e3] at h;cases h
    | some q =>
     obtain⟨rs',l3⟩:=q
     rw[e3] at h
     cases h
     exact((Bt.one e g44).trans (Bt.sk _)).trans ((Ayh e2).trans (Avm e3))
theorem Az7{l l':List Nat}{rs:List (List Nat)}(h:Pat.runs l=some (rs,l')):Bt l l':=by
 unfold Pat.runs at h
 cases e:Pat.run l with
 | none=>rw[e] at h;cases h
 | some q =>
  obtain⟨r,l1⟩:=q
  rw[e] at h
  dsimp only at h
  cases e2:Pat.Hv (l1.length+1) l1 with
  | none=>rw[e2] at h;cases h
  | some q =>
   obtain⟨rs',l2⟩:=q
   rw[e2] at h
   dsimp only at h
   split at h
   ·cases h
   ·cases h;exact(Ayh e).trans (Avm e2)
theorem Avn{sub:List Nat→Option (Nd × List Nat)}(ih:∀{l l':List Nat} {x:Nd},sub l=some (x,l')→Bt l l'):∀{ks l l':List Nat} {ts:List Nd} {fst:Bool},Pat.args sub fst ks l=some (ts,l')→Bt l l'
 | [],l,l',ts,fst,h=>by
  unfold Pat.args at h
  cases h
  exact .refl _
 | k::ks,l,l',ts,fst,h=>by
  unfold Pat.args at h
  cases e:(if fst=true then some l else Pat.comma l) with
  | none=>rw[e] at h;cases h
  | some l1 =>
   rw[e] at h
   dsimp only at h
   have b1:Bt l l1:=by
    cases fst with
    | true=>cases e;exact .refl _
    | false=>exact Ayg e
   cases e2:(if k=112 then sub l1 else (Pat.num l1).map fun p=>(Nd.num p.1,p.2)) with
   | none=>rw[e2] at h;cases h
   | some q =>
    obtain⟨a,l2⟩:=q
    rw[e2] at h
    dsimp only at h
    have b2:Bt l1 l2:=by
     by_cases c:k=112
     ·rw[if_pos c] at e2
      exact ih e2
     ·rw[if_neg c] at e2
      cases e4:Pat.num l1 with
      | none=>rw[e4] at e2;cases e2
      | some q =>
       obtain⟨n,l4⟩:=q
       rw[e4] at e2
       cases e2
       exact A1g e4
    cases e3:Pat.args sub false ks l2 with
    | none=>rw[e3] at h;cases h
    | some q =>
     obtain⟨ts',l3⟩:=q
     rw[e3] at h
     cases h
     exact(b1.trans b2).trans (Avn ih e3)
theorem Avo:∀{d:Nat} {l l':List Nat} {x:Nd},Pat.node d l=some (x,l')→Bt l l'
 | 0,l,l',x,h=>by cases h
 | d+1,l,l',x,h=>by
  unfold Pat.node at h
  have b1:Bt l (Pat.sk (l.dropWhile Pat.letter)):=(Bt.drop (fun c h=>.inl h) l).trans (Bt.sk _)
  cases e:Pat.one 40 (Pat.sk (l.dropWhile Pat.letter)) with
  | none =>
   rw[e] at h
   dsimp only at h
   split at h
   ·cases h;exact b1
   ·cases h
  | some l1 =>
   rw[e] at h
   dsimp only at h
   cases e2:Pat.things (Pat.node d) (l.takeWhile Pat.letter) (Pat.sk l1) with
   | none=>rw[e2] at h;cases h
   | some q =>
    obtain⟨ts,l2⟩:=q
    rw[e2] at h
    dsimp only at h
    cases e3:Pat.one 41 l2 with
    | none=>rw[e3] at h;cases h
    | some l3 =>
     rw[e3] at h
     cases h
     refine((b1.trans (Bt.one e g40)).trans (Bt.sk _)).trans (Bt.trans ?_ ((Bt.one e3 g41).trans (Bt.sk _)))
     unfold Pat.things at e2
     split at e2
     ·cases e4:Pat.runs (Pat.sk l1) with
      | none=>rw[e4] at e2;cases e2
      | some q =>
       obtain⟨rs,l4⟩:=q
       rw[e4] at e2
       cases e2
       exact Az7 e4
     ·cases e4:Pat.wants (l.takeWhile Pat.letter) with
      | none=>rw[e4] at e2;cases e2
      | some ks =>
       rw[e4] at e2
       exact Avn (fun h=>Avo h) e2
theorem Auf{u:List Nat}{c:Nat}(hc:c∈u)(hg:¬Pat.good c):Pat.whole u=none:=by
 unfold Pat.whole
 cases e:Pat.node 12 (Pat.sk u) with
 | none=>rfl
 | some q =>
  obtain⟨n,l⟩:=q
  cases l with
  | cons _ _=>rfl
  | nil =>
   obtain⟨p,ep,hp⟩:=(Bt.sk u).trans (Avo e)
   rw[A6Y] at ep
   exact absurd (hp c (ep▸hc)) hg
section
variable {P:Program}{w:World}{K:PySem.W.Frag}{mg:Str→Option Value}{base:Heap}{t:Adr}
def Ayi (t:Adr)(d:Nat):Sp:=fun vs H Q E=>∃(x:Nd) (v:V) (kp:Addr) (kn:Kns),vs=[v,.ref kp]∧Wd d x∧AtN H x v∧(wr d x).length≤1000000∧Kn H kp kn∧(∀ p∈kn,Clo p.2)∧Oc t H Q E (out kn d x) (wr d x)
def AsM (t:Adr)(H:Hp)(as:List Arg)(vs:List V):Prop:=vs.length=as.length∧∀(i:Nat) (a:Arg) (v:V),as[i]?=some a→vs[i]?=some v→AtA t H a v
theorem AsM.snoc{H:Hp}{ts:List Arg}{vs:List V}{x:Arg}{v:V}(h:AsM t H ts vs)(hx:AtA t H x v):AsM t H (ts++[x]) (vs++[v]):=by
 refine⟨by rw[A5J,A5J,h.1];rfl,fun i y w g1 g2=>?_⟩
 by_cases c:i<ts.length
 ·rw[A6R c] at g1
  rw[A6R (by rw[h.1];exact c)] at g2
  exact h.2 i y w g1 g2
 ·have e:i=ts.length:=by
   have:=(List.getElem?_eq_some_iff.mp g1).1
   rw[A5J,A6o] at this
   omega
  subst e
  rw[A6Q (A5K _),A7i] at g1
  rw[A6Q (by rw[h.1];exact A5K _),h.1,A7i] at g2
  cases g1
  cases g2
  exact hx
theorem AsM.mono{H H':Hp}(s:∀ b o,H b=some o→H' b=some o){ts:List Arg}{vs:List V}(h:AsM t H ts vs):AsM t H' ts vs:=⟨h.1,fun i x v g1 g2=>(h.2 i x v g1 g2).mono s⟩
theorem Avp{H H1 H2:Hp}(s:Bv H1 H2):∀ b o,nw H H1 b=some o→nw H H2 b=some o:=fun b o h=>by
 have g:=AmW h
 rw[AhU g.1]
 exact s _ _ g.2
theorem AsN{kn:Kns}{d:Nat}{z:List Nat}{ts:List Nd}:out kn (d+1) (.node z ts)=match args (out kn d) (wr d) ts with
  | .inl f=>.no f
  | .inr as=>made z as:=rfl
theorem Az8{d:Nat}{z:List Nat}{ts:List Nd}(h:Wd (d+1) (.node z ts)):1≤ts.length∧ts.length≤40∧(¬z=Pat.VB→ts.length≤3):=by
 cases h with
 | rows h1 h2 h3=>rw[A5I];exact⟨List.length_pos_iff.mpr h1,h2,fun c=>absurd rfl c⟩
 | nums w _ _=>exact⟨by simp,by simp,by simp⟩
 | one w _=>exact⟨by simp,by simp,by simp⟩
 | two w _ _=>exact⟨by simp,by simp,by simp⟩
 | tile _ _ _=>exact⟨by simp,by simp,by simp⟩
 | blk _ _ _=>exact⟨by simp,by simp,by simp⟩
theorem Ayj{d:Nat}{z:List Nat}{ts:List Nd}(h:Wd (d+1) (.node z ts)){i:Nat}{x:Nd}(hx:ts[i]?=some x):(∃ n,x=.num n)∨(∃ r,x=.run r)∨Wd d x:=by
 cases h with
 | rows h1 h2 h3 =>
  rw[A5T] at hx
  cases e:(_:List (List Nat))[i]? with
  | none=>rw[e] at hx;cases hx
  | some r=>rw[e] at hx;cases hx;exact .inr (.inl ⟨r,rfl⟩)
 | nums w _ _ =>
  rcases List.mem_cons.mp (A6e hx) with rfl | h
  ·exact .inl ⟨_,rfl⟩
  ·exact .inl ⟨_,List.mem_singleton.mp h⟩
 | one w h1=>rw[List.mem_singleton.mp (A6e hx)];exact .inr (.inr h1)
 | two w h1 h2 =>
  rcases List.mem_cons.mp (A6e hx) with rfl | h
  ·exact .inr (.inr h1)
  ·rw[List.mem_singleton.mp h];exact .inr (.inr h2)
 | tile h1 _ _ =>
  rcases List.mem_cons.mp (A6e hx) with rfl | h
  ·exact .inr (.inr h1)
  ·rcases List.mem_cons.mp h with rfl | h
   ·exact .inl ⟨_,rfl⟩
   ·exact .inl ⟨_,List.mem_singleton.mp h⟩
 | blk h1 h2 h3 =>
  rcases List.mem_cons.mp (A6e hx) with rfl | h
  ·exact .inr (.inr h1)
  ·rcases List.mem_cons.mp h with rfl | h
   ·exact .inr (.inr h2)
   ·rw[List.mem_singleton.mp h];exact .inr (.inr h3)
theorem Ani{d k:Nat}(hk:8≤k)(T:Txt K mg t)(Ab9:Aq P w K mg base (CX1 P w) (k+1) t.Ho t.RB ["node", "known"] (Ayi t d)):Aq P w K mg base (CX1 P w) (k+2) t.Ho t.RB ["node", "known"] (Ayi t (d+1)):=by
 have Apd:Aq P w K mg base CX0 8 t.Iu t.ZR _ _:=Ang T
 have Ape:Aq P w K mg base (CX1 P w) 6 t.Iv t.ZS _ _:=AlF T
 have AlI:Aq P w K mg base (CX1 P w) 9 t.GR t.Vu _ _:=Aif T
 have Apf:Aq P w K mg base (CX1 P w) 1 t.Ir t.ZQ _ _:=AlH T
 have AjF:Aq P w K mg base CX0 3 t.Ef t.Tr _ _:=AhZ T
 have AlJ:Aq P w K mg base (CX1 P w) 3 t.Fd t.Vn _ _:=Aia T
 refine T.Ri.F.okX Afv (fun vs H Q E h=>?_) (fun cdv A outer s H vs Q E hr h=>?_)
 ·obtain⟨x,v,kp,kn,rfl,_⟩:=h
  rfl
 ·obtain⟨x,v,kp,kn,rfl,W,hv,hw,hK,hC,k0⟩:=h
  refine⟨_,(Ae (Ck (Az Atq (Ge (K7 (K:=K)) (pv 0) Am (fun _ _=>rfl)) Abr (Bh _))
    (Ag (Bm (Mt T.AqD.m (AjF.mono (by omega)) hr rfl T.Azh T.Aa7.b .nil Ax (Aa (Ge (K7 (K:=K)) (pv 0) Am (fun _ _=>rfl)) (Aa (Bc (Apf.mono (by omega)) hr rfl T.Yh.m T.Yh.F.kp T.Yh.b .nil Ig (Aa (Ge (K7 (K:=K)) (pv 0) Am (fun _ _=>rfl)) (Aa (pv 1) Ac))) Ac)))))
    Bf)
   (Ae (Axf (i:=2) (E':=E) Kv (fun _ _ z=>z) (Jo.mk (BW:=[1]) (Nc:=["thing", "known"]) rfl (by decide +kernel) (by decide +kernel) (Jw (sc0:=Ab G5) rfl (by decide +kernel)) rfl rfl rfl (by decide +kernel) (fun k j h=>match k,h with | 0,h=>by obtain rfl:=Option.some.inj h;exact⟨_,rfl,rfl,rfl⟩ | _+1,h=>by simp at h)) rfl Afv.nd rfl rfl (JX (K:=K) (Ge (K7 (K:=K)) (pv 0) Am (fun _ _=>rfl))) (fun _ _ _ _ _=>.nil) (fun _ _ _ _ _=>(AcQ (Rx (Bw (AvF (K:=K)) rfl T.KH JD (Aa (pv 0) (Aa (Ay8 (v:=.ty "tuple") rfl T.Azg AwK rfl) Ac)))) (Bc (Ab9.mono (by omega)) hr rfl T.Ri.m T.Ri.F.kp T.Ri.b .nil A2G (Aa (pv 0) (Aa (pv 1) Ac))) (pv 0))) rfl)
   (Ae (Ck (Az GJ (Ge (K7 (K:=K)) (pv 0) Am (fun _ _=>rfl)) Af (Bh _))
    (Ag (Bm (Mt T.AtR.m (AlJ.mono (by omega)) hr rfl T.A0T T.Acv.b .nil Ig (Aa (pv 2) Ac))))
    Bf)
   (Ae (Ck (Az GJ (Bw (CV (K:=K)) rfl T.Jg Gg (Aa (pv 2) Ac)) Am (Bh _))
    (Ag (Bm (Bc (Apd.mono (by omega)) hr rfl T.Yi.m T.Yi.F.kp T.Yi.b .nil Ax (Aa (Ge (K7 (K:=K)) (pv 0) Am (fun _ _=>rfl)) (Aa (Ge (Fp (K:=K)) (pv 2) Am (fun _ _=>rfl)) Ac)))))
    Bf)
   (Ae (Ck (Az GJ (Bw (CV (K:=K)) rfl T.Jg Gg (Aa (pv 2) Ac)) Am (Bh _))
    (Ag (Bm (Bc (AlI.mono (by omega)) hr rfl T.Uj.m T.Uj.F.kp T.Uj.b .nil Ig (Aa (Ge (K7 (K:=K)) (pv 0) Am (fun _ _=>rfl)) (Aa (pv 2) Ac)))))
    Bf)
   (Ag (Bm (Bc (Ape.mono (by omega)) hr rfl T.Yj.m T.Yj.F.kp T.Yj.b .nil Ig (Aa (Ge (K7 (K:=K)) (pv 0) Am (fun _ _=>rfl)) (Aa (Ge (Fp (K:=K)) (pv 2) Am (fun _ _=>rfl)) (Aa (Ge (Fp (K:=K)) (pv 2) Am (fun _ _=>rfl)) Ac))))))))))),?_⟩
  cases hv with
  | num=>cases W
  | run=>cases W
  | nam ha =>
   rename_i z a
   have a0:atI [V.str (tx z),V.non] 0=some (.str (tx z)):=Fi (by decide) rfl
   have a1:atI [V.str (tx z),V.non] 1=some .non:=Fi (by decide) rfl
   rw[Azb,Axo] at k0
   refine⟨_,rfl,_,_,_,_,rfl,rfl,SqT.of ha,a1,rfl,_,rfl,?_⟩
   refine Mw rfl ?_
   refine⟨_,rfl,_,_,_,_,rfl,rfl,SqT.of ha,a0,_,rfl,_,_,_,_,rfl,rfl,SqT.of ha,a0,_,rfl,z,kp,kn,rfl,hK,fun xx q e hq=>?_,fun e=>?_⟩
   ·rw[e] at k0
    exact fun r dx hr1 hdx hne=>⟨r,dx,q,xx,z,rfl,Ad,SqL.of (Ia hr1 hdx _ _ hq),Oc.make k0 O9.1 hr1 hdx⟩
   ·rw[e] at k0
    exact k0 _ (.refl _)
  | node ha hq hl hN =>
   rename_i z ts a q vs
   have wl:=Az8 W
   have a0:atI [V.str (tx z),V.ref q] 0=some (.str (tx z)):=Fi (by decide) rfl
   have a1:atI [V.str (tx z),V.ref q] 1=some (.ref q):=Fi (by decide) rfl
   refine⟨_,rfl,_,_,_,_,rfl,rfl,SqT.of ha,a1,rfl,_,rfl,?_⟩
   refine Ht (fun z=>nomatch z) ?_
   refine⟨_,rfl,_,_,_,_,rfl,rfl,SqT.of ha,a1,_,rfl,⟨_,SqL.of hq⟩,?_⟩
   refine Tq (K:=K) (a:=q) (xs:=vs) (fun i ys H2=>Bv H H2∧∃ as,args (out kn d) (wr d) (ts.take i)=.inr as∧AsM t (nw H H2) as ys) ⟨.refl _,[],rfl,rfl,fun i a v g=>by simp at g⟩ ?_ ?_ ?_ ?_
   ·rintro i ys H2 hi ⟨s2,as,ea,hA⟩
    refine⟨SqL.of (s2 _ _ hq),?_⟩
    rw[hA.1,AmJ ea,A5S]
    exact Nat.min_le_left _ _
   ·rw[hl]
    exact Jm wl.2.1
   ·rintro i xv ys H2 hi hx ⟨s2,as,ea,hA⟩
    refine Mv.no ?_
    have hit:i<ts.length:=by rw[← hl];exact hi
    have ex:=A5L hit
    have et:ts.take (i+1)=ts.take i++[ts[i]]:=by rw[A6i,ex];rfl
    have hxv:=hN i _ xv ex hx
    have hpart:=Aze (d:=d) (z:=z) (A6m hit)
    generalize ts[i]=x at ex et hxv hpart
    have sn:=ApW (x:=x) ea
    rw[← et] at sn
    rcases Ayj W ex with ⟨n,rfl⟩ | ⟨r,rfl⟩ | Wx
    ·cases hxv
     refine⟨_,rfl,_,_,false,.int _,.inl ⟨_,rfl,rfl⟩,_,rfl,?_⟩
     refine ZF ?_
     refine⟨_,rfl,?_⟩
     exact CN.of hi ⟨s2,_,sn,hA.snoc .num⟩
    ·cases hxv
     refine⟨_,rfl,_,_,false,.str _,.inl ⟨_,rfl,rfl⟩,_,rfl,?_⟩
     refine ZF ?_
     refine⟨_,rfl,?_⟩
     exact CN.of hi ⟨s2,_,sn,hA.snoc .run⟩
    ·rw[Axy Wx] at sn
     obtain⟨ra,ro,rfl,hro⟩:∃ ra ro,xv=.ref ra∧H2 ra=some (.tup ro):=by
      cases hxv with
      | num=>cases Wx
      | run=>cases Wx
      | nam h=>exact⟨_,_,rfl,s2 _ _ h⟩
      | node h _ _ _=>exact⟨_,_,rfl,s2 _ _ h⟩
     refine⟨_,rfl,_,_,true,.tup hro,.inl ⟨_,rfl,AxV K "tuple"⟩,_,rfl,?_⟩
     refine Tn ?_
     refine⟨_,rfl,_,rfl,x,.ref ra,kp,kn,rfl,Wx,hxv.mono s2,by omega,hK.same s2,hC,?_⟩
     cases eo:out kn d x with
     | ok r =>
      rw[eo] at sn
      intro p H3 s3 hp
      have u3:=s2.trans s3
      exact CN.of hi ⟨u3,_,sn,(hA.mono (Avp s3)).snoc (.cl (hp.mono (Avl s2)))⟩
     | no f =>
      rw[eo] at sn
      intro H3 s3
      have en:args (out kn d) (wr d) ts=.inl f:=by
       have:=AuS (us:=ts.drop (i+1)) sn
       rw[List.take_append_drop] at this
       exact this
      rw[AsN,en] at k0
      exact k0 H3 (s2.trans s3)
   ·rintro ys H2 l ⟨s2,as,ea,hA⟩ hlN
    rw[hl,A6p] at ea
    have F:=Ax2 (fun W e=>Aq6 hC W e) W ea
    have ew:=AuR ea
    rw[AsN,ea] at k0
    have ewr:wr (d+1) (.node z ts)=wz z (as.map wrA):=by rw[ew];rfl
    rw[ewr] at k0 hw
    dsimp only at k0
    have al:=AmJ ea
    have u3:Bv H (upd H2 l (.lst ys)):=s2.new hlN
    have hl3:(upd H2 l (.lst ys)) l=some (.lst ys):=Ad
    have hA3:AsM t (upd H2 l (.lst ys)) as ys:=(hA.mono (Avp (.upd hlN))).mono (fun b o e=>(AmW e).2)
    have k3:=k0.same u3
    generalize upd H2 l (.lst ys)=H3 at u3 hl3 hA3 k3 ⊢
    have ha3:=u3 _ _ ha
    refine⟨_,rfl,_,_,_,_,rfl,rfl,SqT.of ha3,a0,rfl,_,rfl,?_⟩
    rw[Amj]
    by_cases c:z=Pat.VB
    ·refine Mw (by rw[c]) ?_
     obtain⟨rs,rfl,r1,r2,r3⟩:∃ rs,as=rs.map Arg.run∧rs≠[]∧rs.length≤40∧∀ r∈rs,r≠[]∧∀ c∈r,Sg c:=by
      cases F with
      | rows h1 h2 h3=>exact⟨_,rfl,h1,h2,h3⟩
      | nums w _ _=>rcases w with rfl | rfl <;> exact absurd c (by decide)
      | one w _=>rcases w with rfl | rfl | rfl | rfl <;> exact absurd c (by decide)
      | two w _ _=>rcases w with rfl | rfl | rfl <;> exact absurd c (by decide)
      | tile _ _ _=>exact absurd c (by decide)
      | blk _ _ _=>exact absurd c (by decide)
     have ey:ys=vS rs:=by
      apply A7l
      intro i
      unfold vS
      rw[A5T]
      cases e1:rs[i]? with
      | none =>
       have h1:=List.getElem?_eq_none_iff.mp e1
       have h2:=hA3.1
       rw[A5I] at h2
       exact A6L (by omega)
      | some r =>
       have h1:=(List.getElem?_eq_some_iff.mp e1).1
       have h2:=hA3.1
       rw[A5I] at h2
       have hy:i<ys.length:=by omega
       have:=hA3.2 i (.run r) ys[i] (by rw[A5T,e1];rfl) (A5L hy)
       rw[A5L hy]
       generalize ys[i]=yv at this ⊢
       cases this
       rfl
     have A2X:(rs.map Arg.run).map wrA=rs:=by rw[A6M];exact A6O _
     have em:made z (rs.map Arg.run)=ApV rs:=by unfold made;rw[if_pos c,ApY]
     rw[A2X,c] at hw
     rw[em,A2X,c] at k3
     refine⟨_,rfl,fun r dx hr1 hdx hne=>⟨r,dx,l,rs,rfl,Ad,SqL.of (by rw[← ey];exact Ia hr1 hdx _ _ hl3),r1,r2,hw,Oc.make k3 O9.2.1 hr1 hdx⟩⟩
    refine Ht (Adn c) ?_
    have l3:=wl.2.2 c
    rw[← al,← hA3.1] at l3
    have l1:1≤ys.length:=by rw[hA3.1,al];exact wl.1
    refine⟨_,rfl,_,_,rfl,.inl (SqL.of hl3),rfl,_,rfl,?_⟩
    obtain⟨hlen,hat⟩:=hA3
    rcases ys with _ | ⟨v1,_ | ⟨v2,_ | ⟨v3,_ | ⟨v4,ys⟩⟩⟩⟩
    ·simp at l1
    ·obtain⟨b1,rfl⟩:∃ b1,as=[b1]:=List.length_eq_one_iff.mp hlen.symm
     refine Mw rfl ?_
     have g1:=hat 0 b1 v1 rfl rfl
     have c0:atI [v1] 0=some v1:=Fi (by decide) rfl
     obtain⟨x,zx,ww,rfl,Cx⟩:∃ x zx,(z=miW∨z=upW∨z=baW∨z=quW)∧b1=.cl x zx∧Clo x:=by
      generalize has:[b1]=as at F
      cases F with
      | rows h1 h2 h3=>exact absurd rfl c
      | nums w h1 h2=>cases has
      | one w h1=>cases has;exact⟨_,_,w,rfl,h1⟩
      | two w h1 h2=>cases has
      | tile h1 h2 h3=>cases has
      | blk h1 h2 h3=>cases has
     obtain _ | _ | hp:=g1
     have em:made z [.cl x zx]=Axm z x:=by unfold made;rw[if_neg c]
     rw[em] at k3
     exact⟨_,rfl,_,_,_,_,rfl,rfl,SqT.of ha3,a0,_,rfl,_,_,_,_,rfl,rfl,SqL.of hl3,c0,z,zx,x,_,E,rfl,ww,hp,Cx,hw,k3⟩
    ·obtain⟨b1,b2,rfl⟩:∃ b1 b2,as=[b1,b2]:=by
      rcases as with _ | ⟨b1,_ | ⟨b2,_ | ⟨b3,as⟩⟩⟩
      ·simp at hlen
      ·simp at hlen
      ·exact⟨b1,b2,rfl⟩
      ·simp at hlen
     refine Ht (by show ¬(V.int 2:V)=V.int 1;decide) ?_
     refine⟨_,rfl,_,_,rfl,.inl (SqL.of hl3),rfl,_,rfl,?_⟩
     refine Ht (by show ¬(V.int 2:V)=V.int 3;decide) ?_
     have c0:atI [v1,v2] 0=some v1:=Fi (by decide) rfl
     have c1:atI [v1,v2] 1=some v2:=Fi (by decide) rfl
     exact⟨_,rfl,_,_,_,_,rfl,rfl,SqT.of ha3,a0,_,rfl,_,_,_,_,rfl,rfl,SqL.of hl3,c0,_,rfl,_,_,_,_,rfl,rfl,SqL.of hl3,c1,z,b1,b2,v1,v2,rfl,c,F,hat 0 b1 v1 rfl rfl,hat 1 b2 v2 rfl rfl,hw,k3⟩
    ·obtain⟨b1,b2,b3,rfl⟩:∃ b1 b2 b3,as=[b1,b2,b3]:=by
      rcases as with _ | ⟨b1,_ | ⟨b2,_ | ⟨b3,_ | ⟨b4,as⟩⟩⟩⟩
      ·simp at hlen
      ·simp at hlen
      ·simp at hlen
      ·exact⟨b1,b2,b3,rfl⟩
      ·simp at hlen
     refine Ht (by show ¬(V.int 3:V)=V.int 1;decide) ?_
     refine⟨_,rfl,_,_,rfl,.inl (SqL.of hl3),rfl,_,rfl,?_⟩
     refine Mw rfl ?_
     exact⟨_,rfl,_,_,_,_,rfl,rfl,SqT.of ha3,a0,_,rfl,z,b1,b2,b3,v1,v2,v3,l,rfl,SqL.of hl3,c,F,hat 0 b1 v1 rfl rfl,hat 1 b2 v2 rfl rfl,hat 2 b3 v3 rfl rfl,hw,k3⟩
    ·simp at l3
theorem Aqf(T:Txt K mg t):∀ d,Aq P w K mg base (CX1 P w) (d+9) t.Ho t.RB ["node", "known"] (Ayi t d)
 | 0=>⟨fun _ _ _ _ h=>(by obtain⟨x,v,kp,kn,_,W,_⟩:=h;cases W),fun _ _ _ _ _ _ _ _ _ _ _ _ _ h=>(by obtain⟨x,v,kp,kn,_,W,_⟩:=h;cases W)⟩
 | d+1=>Ani (k:=d+8) (by omega) T (Aqf T d)
def Az9 (t:Adr):Sp:=fun vs H Q E=>∃(u:List Nat) (kp:Addr) (kn:Kns),vs=[.str (tx u),.ref kp]∧u.length≤1000000∧Kn H kp kn∧(∀ p∈kn,Clo p.2)∧Oc t H Q E (rdp kn u).1 (rdp kn u).2
theorem AjG(T:Txt K mg t):Aq P w K mg base (CX1 P w) 31 t.Hy t.WM ["text", "known"] (Az9 t):=by
 have Ab9:Aq P w K mg base (CX1 P w) 21 t.Ho t.RB _ _:=Aqf T 12
 have AqU:Aq P w K mg base (CX1 P w) 30 t.J0 t.Ab1 _ _:=Ana T
 refine T.VN.F.okX Al6 (fun vs H Q E h=>?_) (fun cdv A outer s H vs Q E hr h=>?_)
 ·obtain⟨u,kp,kn,rfl,_⟩:=h
  rfl
 ·obtain⟨u,kp,kn,rfl,hu,hK,hC,k⟩:=h
  refine⟨_,(Ag (Bm (Bc (Ab9.mono (by decide)) hr rfl T.Ri.m T.Ri.F.kp T.Ri.b .nil Ig (Aa (Bc (AqU.mono (by decide)) hr rfl T.Ab6.m T.Ab6.F.kp T.Ab6.b .nil Ig (Aa (pv 0) Ac)) (Aa (pv 1) Ac))))),?_⟩
  unfold rdp at k
  refine⟨_,rfl,u,rfl,hu,fun x v H1 e s1 hN=>?_,fun e H1 s1=>?_⟩
  ·rw[e] at k
   have W:=Ast e
   exact⟨_,rfl,x,v,kp,kn,rfl,W.1,hN.mono (fun b o e=>(AmW e).2),by omega,hK.same s1,hC,k.same s1⟩
  ·rw[e] at k
   exact k H1 s1
end
namespace K58
def s2 (s:String):List Nat:=(Str.ofString s).cps.toList
theorem st(s:String):Str.ofString s=tx (s2 s):=(AzL _).symm
def knL:Kns:=[(s2 "known", [[35,46],[46,35],[35,35]])]
def chk (u:List Nat)(due w h:Nat):Bool:=match (rdp knL u).1 with
 | .ok x=>due == 0 && wdt x == w && x.length == h
 | .no .nop=>due == 1
 | .no .unk=>due == 2
 | .no .big=>due == 3
def sep (z:List Nat):List (List Nat)→List Nat
 | []=>[]
 | y::ys=>y++(ys.map fun y=>z++y).flatten
def plT (a b c:Nat):List Nat :=
 if c=0 then s2 "beside(" ++ (s2 "twill(" ++ dec (1+a)++s2 "," ++ dec (1+b+1)++s2 "),satin(" ++ dec (1+a+(1+b)+1)++s2 ",1)")++s2 ")"
 else if c=1 then s2 "tile(known," ++ dec (1+a)++s2 "," ++ dec (1+b)++s2 ")"
 else s2 "rows(" ++ sep (s2 ",") (List.replicate (1+b) ((s2 "#.#").take ((1+a)%3+1)))++s2 ")"
def plW (a b c:Nat):Nat:=if c=0 then 2*(1+a+(1+b)+1) else if c=1 then 2*(1+a) else (1+a)%3+1
def plH (a b c:Nat):Nat:=if c=0 then 1+a+(1+b)+1 else if c=1 then 3*(1+b) else 1+b
def odds:List (List Nat):=["", " ", "()", "rows", "rows()", "rows(#,)", "rows(,#)", "rows(# #)", "rows(a)", "rows(1)", "rows(#", "twill(02,1)", "twill(2,001)", "twill(123,1)", "twill(,1)", "twill(2)", "twill(2,1,1)", "twill(known,1)", "twill(#,1)", "twill(2 2,1)", "twill 2,1", "twill[2,1]", "satin(5)", "satin(5,2,)", "tile(known,2)", "tile(2,known,2)", "tile(known,2,2,2)", "mirror()", "mirror(known,known)", "mirror(2)", "mirror(#)", "back known", "lay(known)", "blocks(known,known)", "beside(known known)", "beside(known,known,known)", "known()", "known(known)", "known known", "#", "2", "above(,)", "rows(#,##)", "rows(##.,#.)", "beside(nobody,twill(2))", "above(twill(30,30),known", "tile(nobody,2,2)x"].map s2
def ends8:List (List Nat):=[")", "(", ",", " a", "1", "#", " rows(#)", "()"].map s2
def deepT(k:Nat):List Nat:=(List.replicate k (s2 "mirror(")).flatten++s2 "known" ++ (List.replicate k (s2 ")")).flatten
def namT(k:Nat):List Nat:=((List.replicate 5 (s2 "known")).flatten).take k
def lngT(k:Nat):List Nat:=s2 "rows(" ++ ((List.replicate 14 (s2 "#..")).flatten).take k++s2 ")"
def mnyT(k:Nat):List Nat:=s2 "rows(" ++ sep (s2 ",") (List.replicate k (s2 "#."))++s2 ")"
theorem A2Y:∀ a∈List.range 5,∀ b∈List.range 5,∀ c∈List.range 3,chk (plT a b c) 0 (plW a b c) (plH a b c)=true∧(plT a b c).length≤100∧1≤(plT a b c).length:=by decide +kernel
theorem A1h:∀ a∈List.range 5,∀ b∈List.range 5,∀ c∈List.range 3,chk ((plT a b c).dropLast) 1 0 0=true:=by decide +kernel
theorem A1i:∀ a∈List.range 5,∀ b∈List.range 5,∀ c∈List.range 3,∀ e∈ends8,chk (plT a b c++e) 1 0 0=true:=by decide +kernel
theorem A2Z:∀ k∈List.range 4,chk (deepT (10+k)) (if 10+k≤11 then 0 else 1) 2 3=true:=by decide +kernel
theorem A3a:∀ u∈odds,chk u 1 0 0=true:=by decide +kernel
theorem A3b:∀ k∈List.range 4,chk (namT (19+k)) (if 19+k<21 then 2 else 1) 0 0=true:=by decide +kernel
theorem A3c:∀ k∈List.range 4,chk (lngT (39+k)) (if 39+k<41 then 0 else 3) (39+k) 1=true:=by decide +kernel
theorem A3d:∀ k∈List.range 4,chk (mnyT (39+k)) (if 39+k<41 then 0 else 1) 2 (39+k)=true:=by decide +kernel
def oddS:List Nat:=s2 "!\"$&'*+-/:;<=>?\x40[\\]^_`{|}~ABCDEFGHIJKLMNOPQRSTUVWXYZ"
theorem Ayk:∀ c∈oddS,¬(Pat.letter c=true∨Pat.Rb c=true∨c=35∨c=46∨c=44∨c=40∨c=41∨c=32):=by decide +kernel
theorem strange{p q:List Nat}{c:Nat}(h:c∈oddS):chk (p++[c]++q) 1 0 0=true:=by
 unfold chk rdp
 rw[Auf (c:=c) (by simp) (Ayk c h)]
 rfl
end K58
open K58 (s2 st plT plW plH odds ends8 deepT namT lngT mnyT oddS chk sep knL)
section
variable {P:Program}{w:World}{K:PySem.W.Frag}{mg:Str→Option Value}{base:Heap}{t:Adr}
theorem Vw{i:Nat}{v v':V}{σ σ':St}{H:Hp}{Kt:St→Hp→Prop}(ev:v=v')(h:σ.set i (some v')=σ')(k:Kt σ' H):XS i v σ H Kt:=by subst ev;subst h;exact k
theorem A1j{u u':List Nat}{i i' j j':Int}(h1:u=u')(h2:i=i')(h3:j=j'):some (HO.tup [V.str (tx u),.int i,.int j])=some (HO.tup [V.str (tx u'),.int i',.int j']):=by subst h1;subst h2;subst h3;rfl
theorem A3e:(s2 "twill(").length=6∧(s2 ",").length=1∧(s2 "),satin(").length=8∧(s2 ",1)").length=3∧(s2 "beside(").length=7∧(s2 ")").length=1∧(s2 "tile(known,").length=11∧(s2 "rows(").length=5∧(s2 "#.#").length=3:=by decide +kernel
theorem Avq:∀(z:List Nat) (ys:List (List Nat)),((ys.map tx).map (·.length)).sum+ys.length*z.length≤(sep z ys).length+z.length
 | z,[]=>by simp[sep]
 | z,y::ys=>by
  have h:∀ ys:List (List Nat),((ys.map tx).map (·.length)).sum+ys.length*z.length=((ys.map fun y=>z++y).flatten).length:=fun ys=>by
   induction ys with
   | nil=>simp
   | cons x ys ih =>
    rw[A5P,A5P,A6U,A5P,A6d,A5J,A5J,← ih,Ao,A5N,Nat.succ_mul]
    omega
  have:=h ys
  unfold sep
  rw[A5P,A5P,A6U,A5J,Ao,A5N,← this,Nat.succ_mul]
  omega
def Awx:Sp:=fun vs H Q _=>∃ c:Int,vs=[.int c]∧∀ p a b d H',Bv H H'→c%5=((a:Nat):Int)→c / 5%5=((b:Nat):Int)→c / 25%3=((d:Nat):Int)→H' p=some (.tup [.str (tx (plT a b d)),.int (plW a b d:Int),.int (plH a b d:Int)])→Q (.ref p) H'
theorem AqV(T:Txt K mg t):Aq P w K mg base CX0 1 t.K3 t.Ade ["cell"] Awx:=by
 refine T.AeP.F.ok R1 (fun vs H Q E h=>?_) (fun cdv A outer s H vs Q E hr h=>?_)
 ·obtain⟨c,rfl,_⟩:=h
  rfl
 ·obtain⟨c,rfl,k⟩:=h
  refine⟨_,(Ae (CP (i:=1) R1.nd rfl (Or.inl rfl) (Bo Mr Am (Bo Ms (pv 0) Am)))
   (Ae (CP (i:=2) R1.nd rfl (Or.inl rfl) (Bo Mr Am (Bo Ms (Bo Abs (pv 0) Am) Am)))
   (Ae (Ck (Az GJ (Bo Ms (Bo Abs (pv 0) Am) Am) Am (Bh _))
    (Ae (CP (i:=3) R1.nd rfl (Or.inl rfl) (Bo Mr (Bo Mr (pv 1) (pv 2)) Am))
    (Ae (CP (i:=4) R1.nd rfl (Or.inl rfl) (Bo Bu (Bo Bu (Bo Bu (Bo Bu (Bo Bu (Bo Bu Af (Er Gz rfl T.Adg W2 (Aa (pv 1) Ac))) Af) (Er Gz rfl T.Adg W2 (Aa (Bo Mr (pv 2) Am) Ac))) Af) (Er Gz rfl T.Adg W2 (Aa (pv 3) Ac))) Af))
    (Ag (Bm (K5 (Aa (Bo Bu (Bo Bu Af (pv 4)) Af) (Aa (Bo ZD Am (pv 3)) (Aa (pv 3) Ac))))))))
    Bf)
   (Ae (Ck (Az GJ (Bo Ms (Bo Abs (pv 0) Am) Am) Am (Bh _))
    (Ag (Bm (K5 (Aa (Bo Bu (Bo Bu (Bo Bu (Bo Bu Af (Er Gz rfl T.Adg W2 (Aa (pv 1) Ac))) Af) (Er Gz rfl T.Adg W2 (Aa (pv 2) Ac))) Af) (Aa (Bo ZD Am (pv 1)) (Aa (Bo ZD Am (pv 2)) Ac))))))
    Bf)
   (Ag (Bm (K5 (Aa (Bo Bu (Bo Bu Af (Qa (K:=K) PySem.F.plainAttrs_str PySem.F.slot_str_join PySem.F.type_str_join (W3 (K:=K)) Af (Aa (Bo Am0 (GX (Aa (Lw ZJ Af Ud (Mu (Bo Mr (Bo Ms (pv 1) Am) Am))) Ac)) (pv 2)) Ac))) Af) (Aa (Bo Mr (Bo Ms (pv 1) Am) Am) (Aa (pv 2) Ac)))))))))),?_⟩
  obtain⟨a,ea,ha⟩:∃ a:Nat,c%5=(a:Int)∧a<5:=⟨(c%5).toNat,by omega,by omega⟩
  obtain⟨b,eb,hb⟩:∃ b:Nat,c / 5%5=(b:Int)∧b<5:=⟨(c / 5%5).toNat,by omega,by omega⟩
  obtain⟨d,ed,hd⟩:∃ d:Nat,c / 25%3=(d:Int)∧d<3:=⟨(c / 25%3).toNat,by omega,by omega⟩
  have pa:=(dec_is (show 1+a<100 by omega)).l2
  have pb:=(dec_is (show 1+b<100 by omega)).l2
  have pc:=(dec_is (show 1+b+1<100 by omega)).l2
  have pd:=(dec_is (show 1+a+(1+b)+1<100 by omega)).l2
  obtain⟨n1,n2,n3,n4,n5,n6,n7,n8,n9⟩:=A3e
  refine⟨_,rfl,_,_,rfl,rfl,(by show(0:Int)<5;decide),_,_,rfl,rfl,?_⟩
  refine Vw (v':=.int ((1+a:Nat):Int)) (congrArg V.int (by omega)) rfl ?_
  refine⟨_,rfl,_,_,rfl,rfl,⟨by decide,by decide⟩,_,_,rfl,rfl,(by show(0:Int)<5;decide),_,_,rfl,rfl,?_⟩
  refine Vw (v':=.int ((1+b:Nat):Int)) (congrArg V.int (by omega)) rfl ?_
  refine⟨_,rfl,_,_,rfl,rfl,⟨by decide,by decide⟩,_,_,rfl,rfl,(by show(0:Int)<3;decide),rfl,_,rfl,?_⟩
  refine Hu (fun c0=>?_) (fun c0=>?_)
  ·have d0:d=0:=by injection c0 with c0;omega
   subst d0
   refine⟨_,rfl,_,rfl,_,_,rfl,rfl,_,_,rfl,rfl,?_⟩
   refine Vw (v':=.int ((1+a+(1+b)+1:Nat):Int)) (congrArg V.int (by omega)) rfl ?_
   refine⟨_,rfl,_,rfl,lg (show 1+a<100 by omega),?_⟩
   rw[W4 (1+a),st "twill("]
   refine⟨_,_,rfl,rfl,(by rw[Ao,Ao];exact big (by omega)),?_⟩
   rw[Gf,st ","]
   refine⟨_,_,rfl,rfl,(by rw[Ao,Ao,A5J];exact big (by omega)),?_⟩
   rw[Gf]
   refine⟨_,rfl,_,_,rfl,rfl,_,rfl,(by show(((1+b:Nat):Int)+1).natAbs.log2<1920;rw[show((1+b:Nat):Int)+1=((1+b+1:Nat):Int) by omega];exact lg (by omega)),?_⟩
   rw[show(Str.ofString (toString (((1+b:Nat):Int)+1)))=tx (dec (1+b+1)) by rw[show((1+b:Nat):Int)+1=((1+b+1:Nat):Int) by omega];exact W4 _]
   refine⟨_,_,rfl,rfl,(by rw[Ao,Ao,A5J,A5J];exact big (by omega)),?_⟩
   rw[Gf,st "),satin("]
   refine⟨_,_,rfl,rfl,(by rw[Ao,Ao,A5J,A5J,A5J];exact big (by omega)),?_⟩
   rw[Gf]
   refine⟨_,rfl,_,rfl,lg (show 1+a+(1+b)+1<100 by omega),?_⟩
   rw[W4 (1+a+(1+b)+1)]
   refine⟨_,_,rfl,rfl,(by rw[Ao,Ao,A5J,A5J,A5J,A5J];exact big (by omega)),?_⟩
   rw[Gf,st ",1)"]
   refine⟨_,_,rfl,rfl,(by rw[Ao,Ao,A5J,A5J,A5J,A5J,A5J];exact big (by omega)),?_⟩
   rw[Gf]
   refine Vw rfl rfl ?_
   rw[st "beside("]
   refine⟨_,rfl,_,_,rfl,rfl,(by rw[Ao,Ao,A5J,A5J,A5J,A5J,A5J,A5J];exact big (by omega)),?_⟩
   rw[Gf,st ")"]
   refine⟨_,_,rfl,rfl,(by rw[Ao,Ao,A5J,A5J,A5J,A5J,A5J,A5J,A5J];exact big (by omega)),?_⟩
   rw[Gf]
   refine⟨_,rfl,_,_,rfl,rfl,.inl ⟨by decide,by decide⟩,_,rfl,(by show 3≤sizeLine;decide),fun p hp=>?_⟩
   refine k p a b 0 _ (.upd hp) ea eb ed ?_
   rw[Ad]
   exact A1j rfl (by show _=((2*(1+a+(1+b)+1):Nat):Int);omega) rfl
  refine⟨_,rfl,_,_,rfl,rfl,⟨by decide,by decide⟩,_,_,rfl,rfl,(by show(0:Int)<3;decide),rfl,_,rfl,?_⟩
  refine Hu (fun c1=>?_) (fun c1=>?_)
  ·have d1:d=1:=by injection c1 with c1;omega
   subst d1
   refine⟨_,rfl,_,rfl,lg (show 1+a<100 by omega),?_⟩
   rw[W4 (1+a),st "tile(known,"]
   refine⟨_,_,rfl,rfl,(by rw[Ao,Ao];exact big (by omega)),?_⟩
   rw[Gf,st ","]
   refine⟨_,_,rfl,rfl,(by rw[Ao,Ao,A5J];exact big (by omega)),?_⟩
   rw[Gf]
   refine⟨_,rfl,_,rfl,lg (show 1+b<100 by omega),?_⟩
   rw[W4 (1+b)]
   refine⟨_,_,rfl,rfl,(by rw[Ao,Ao,A5J,A5J];exact big (by omega)),?_⟩
   rw[Gf,st ")"]
   refine⟨_,_,rfl,rfl,(by rw[Ao,Ao,A5J,A5J,A5J];exact big (by omega)),?_⟩
   rw[Gf]
   refine⟨_,rfl,_,_,rfl,rfl,.inl ⟨by decide,by decide⟩,_,rfl,_,_,rfl,rfl,.inl ⟨by decide,by decide⟩,(by show 3≤sizeLine;decide),fun p hp=>?_⟩
   refine k p a b 1 _ (.upd hp) ea eb ed ?_
   rw[Ad]
   exact A1j rfl (by show _=((2*(1+a):Nat):Int);omega) (by show _=((3*(1+b):Nat):Int);omega)
  have d2:d=2:=by
   have h0:¬d=0:=fun z=>c0 (congrArg V.int (by omega))
   have h1:¬d=1:=fun z=>c1 (congrArg V.int (by omega))
   omega
  subst d2
  rw[st "#.#", st ",", st "rows(", st ")"]
  refine⟨rfl,_,rfl,_,_,rfl,rfl,(by show(0:Int)<3;decide),_,_,rfl,rfl,?_⟩
  obtain⟨q,eq⟩:∃ q:Nat,q=(1+a)%3+1:=⟨_,rfl⟩
  have q3:q≤3:=by omega
  have ei:((1+a:Nat):Int)%3+1=(q:Int):=by omega
  refine⟨_,rfl,s2 "#.#", rfl,big (by omega),?_⟩
  rw[ei,AmC (by omega)]
  refine⟨(by show 1≤sizeLine;decide),fun p1 np1=>?_⟩
  have s1:Bv H (upd H p1 (.lst [.str (tx ((s2 "#.#").take q))])):=.upd np1
  have h1:(upd H p1 (.lst [.str (tx ((s2 "#.#").take q))])) p1=some (.lst [.str (tx ((s2 "#.#").take q))]):=Ad
  generalize upd H p1 (.lst [.str (tx ((s2 "#.#").take q))])=H1 at s1 h1 ⊢
  have hsz:sizeLine=16777216:=sizeLine_eq
  refine⟨_,rfl,p1,_,_,rfl,rfl,h1,(by omega),(by omega),(by rw[A5Z];show 1*_≤_;omega),fun p2 np2=>?_⟩
  rw[A5Z]
  have er:(List.replicate (1+b) [V.str (tx ((s2 "#.#").take q))]).flatten=vS (List.replicate (1+b) ((s2 "#.#").take q)):=by
   unfold vS
   rw[List.map_replicate]
   generalize 1+b=j
   induction j with
   | zero=>rfl
   | succ j ih=>rw[A6g,A6d,ih,A6g];rfl
  rw[er]
  have s2':Bv H1 (upd H1 p2 (.lst (vS (List.replicate (1+b) ((s2 "#.#").take q))))):=.upd np2
  have h2:(upd H1 p2 (.lst (vS (List.replicate (1+b) ((s2 "#.#").take q))))) p2=some (.lst (vS (List.replicate (1+b) ((s2 "#.#").take q)))):=Ad
  generalize upd H1 p2 (.lst (vS (List.replicate (1+b) ((s2 "#.#").take q))))=H2 at s2' h2 ⊢
  have hsl:(sep (s2 ",") (List.replicate (1+b) ((s2 "#.#").take q))).length≤30:=by
   have key:∀ b∈List.range 5,∀ q∈List.range 4,(sep (s2 ",") (List.replicate (1+b) ((s2 "#.#").take q))).length≤30:=by decide +kernel
   exact key b (List.mem_range.mpr hb) q (List.mem_range.mpr (by omega))
  have sl:=Avq (s2 ",") (List.replicate (1+b) ((s2 "#.#").take q))
  have ej:Txt.join (tx (s2 ",")) ((List.replicate (1+b) ((s2 "#.#").take q)).map tx)=tx (sep (s2 ",") (List.replicate (1+b) ((s2 "#.#").take q))):=by
   rw[show 1+b=b+1 by omega,A6g]
   exact Anb _ _ _
  refine⟨_,_,(List.replicate (1+b) ((s2 "#.#").take q)).map tx,rfl,rfl,SqL.of (by rw[h2,Agq]),(by rw[Ao,A5I];omega),?_⟩
  rw[ej]
  refine⟨_,_,rfl,rfl,(by rw[Ao,Ao];exact big (by omega)),?_⟩
  rw[Gf]
  refine⟨_,_,rfl,rfl,(by rw[Ao,Ao,A5J];exact big (by omega)),?_⟩
  rw[Gf]
  refine⟨_,rfl,_,_,rfl,rfl,(by show(0:Int)<3;decide),_,_,rfl,rfl,_,rfl,(by show 3≤sizeLine;decide),fun p hp=>?_⟩
  refine k p a b 2 _ ((s1.trans s2').new hp) ea eb ed ?_
  rw[Ad]
  exact A1j (by rw[eq];rfl) (by show _=(((1+a)%3+1:Nat):Int);omega) rfl
end
open K58 (s2 st plT plW plH odds ends8 deepT namT lngT mnyT oddS chk sep knL)
section
variable {P:Program}{w:World}{K:PySem.W.Frag}{mg:Str→Option Value}{base:Heap}{t:Adr}
def AzA:Sp:=fun vs H Q _=>∃ c:Int,vs=[.int c]∧∀ x∈oddS,Q (.str (tx [x])) H
theorem Aih:oddS.length=52:=by decide +kernel
theorem Anj(T:Txt K mg t):Aq P w K mg base CX0 1 t.Iw t.ZV ["cell"] AzA:=by
 refine T.Yk.F.ok AcX (fun vs H Q E h=>?_) (fun cdv A outer s H vs Q E hr h=>?_)
 ·obtain⟨c,rfl,_⟩:=h
  rfl
 ·obtain⟨c,rfl,k⟩:=h
  refine⟨_,(Ae (CP (i:=1) AcX.nd rfl (Or.inl rfl) Af)
   (Ag (Bm (Ge Amy (pv 1) (Bo Ms (pv 0) (Bw Dd rfl T.Jg Gg (Aa (pv 1) Ac))) (fun _ _=>rfl))))),?_⟩
  have e1:(Str.ofString "!\"$&'*+-/:;<=>?\x40[\\]^_`{|}~ABCDEFGHIJKLMNOPQRSTUVWXYZ")=tx oddS:=st _
  rw[e1]
  refine⟨_,rfl,_,rfl,_,rfl,_,rfl,(by rw[Ao,Aih];exact big (by decide)),_,_,rfl,rfl,(by rw[Ao,Aih];show(0:Int)<52;decide),?_⟩
  obtain⟨i,ei,hi⟩:∃ i:Nat,c%((tx oddS).length:Int)=(i:Int)∧i<oddS.length:=by
   rw[Ao,Aih]
   exact⟨(c%52).toNat,by omega,by omega⟩
  exact⟨_,_,oddS[i],rfl,rfl,(by rw[Ao,Aih];exact big (by decide)),by rw[ei];exact Fi (by omega) (by rw[A5Z,Q6];exact A5L hi),k _ (A6m hi)⟩
def AzB:Sp:=fun vs H Q _=>∃ c:Int,vs=[.int c]∧∀ u∈odds,∀ H',Bv H H'→Q (.str (tx u)) H'
theorem Ayl:odds.length=47:=by decide +kernel
theorem Auh(T:Txt K mg t):Aq P w K mg base CX0 1 t.Rt t.Ajy ["cell"] AzB:=by
 refine T.Amh.F.ok AmM (fun vs H Q E h=>?_) (fun cdv A outer s H vs Q E hr h=>?_)
 ·obtain⟨c,rfl,_⟩:=h
  rfl
 ·obtain⟨c,rfl,k⟩:=h
  refine⟨_,(Ae (CP (i:=1) AmM.nd rfl (Or.inl rfl) (GX (Aa Af (Aa Af (Aa Af (Aa Af (Aa Af (Aa Af (Aa Af (Aa Af (Aa Af (Aa Af (Aa Af (Aa Af (Aa Af (Aa Af (Aa Af (Aa Af (Aa Af (Aa Af (Aa Af (Aa Af (Aa Af (Aa Af (Aa Af (Aa Af (Aa Af (Aa Af (Aa Af (Aa Af (Aa Af (Aa Af (Aa Af (Aa Af (Aa Af (Aa Af (Aa Af (Aa Af (Aa Af (Aa Af (Aa Af (Aa Af (Aa Af (Aa Af (Aa Af (Aa Af (Aa Af (Aa Af (Aa Af Ac)))))))))))))))))))))))))))))))))))))))))))))))))
   (Ag (Bm (Ge (Fp (K:=K)) (pv 1) (Bo Ms (pv 0) (Bw (CV (K:=K)) rfl T.Jg Gg (Aa (pv 1) Ac))) (fun _ _=>rfl))))),?_⟩
  refine⟨(by show 47≤sizeLine;decide),fun p hp=>?_⟩
  refine⟨_,rfl,_,rfl,_,rfl,_,_,rfl,.inl (SqL.of Ad),_,_,rfl,rfl,(by show(0:Int)<47;decide),?_⟩
  obtain⟨i,ei,hi⟩:∃ i:Nat,c%(47:Int)=(i:Int)∧i<odds.length:=by
   rw[Ayl]
   exact⟨(c%47).toNat,by omega,by omega⟩
  refine⟨p,vS odds,c%47,.str (tx odds[i]),rfl,rfl,SqL.of (Ad.trans ?_),?_,k _ (A6m hi) _ (.upd hp)⟩
  ·unfold odds vS
   simp only [A5P,A6s,← st]
  ·show atI (vS odds) (c%(47:Int))=_
   rw[ei]
   exact AsC (A5L hi)
def Aym:Sp:=fun vs H Q _=>∃ j:Nat,vs=[.int (10+(j:Int))]∧j<4∧∀ p,H p=none→Q (.ref p) (upd H p (.tup [.str (tx (deepT (10+j))),.bl (decide (10+j≤11))]))
theorem AsO(T:Txt K mg t):Aq P w K mg base CX0 1 t.N7 t.Agz ["many"] Aym:=by
 refine T.AhN.F.ok Asy (fun vs H Q E h=>?_) (fun cdv A outer s H vs Q E hr h=>?_)
 ·obtain⟨j,rfl,_⟩:=h
  rfl
 ·obtain⟨j,rfl,hj,k⟩:=h
  refine⟨_,(Ag (Bm (K5 (Aa (Bo Bu (Bo Bu (Bo VL Af (pv 0)) Af) (Bo VL Af (pv 0))) (Aa (Ox A1Q (pv 0) Am (Bh _)) Ac))))),?_⟩
  have l7:(s2 "mirror(").length=7∧(s2 "known").length=5∧(s2 ")").length=1:=by decide +kernel
  obtain⟨l7,l5,l1⟩:=l7
  have ek:(10+(j:Int)).toNat=10+j:=by omega
  rw[st "mirror(", st "known", st ")"]
  refine⟨_,rfl,s2 "mirror(", 10+(j:Int),rfl,rfl,(by omega),(by omega),(big (by rw[ek,l7];omega)),?_⟩
  rw[ek]
  refine⟨_,_,rfl,rfl,(by rw[Ao,Ao,VM,l7,l5];exact big (by omega)),?_⟩
  rw[Gf]
  refine⟨_,rfl,s2 ")", 10+(j:Int),rfl,rfl,(by omega),(by omega),(big (by rw[ek,l1];omega)),?_⟩
  rw[ek]
  refine⟨_,_,rfl,rfl,(by rw[Ao,Ao,A5J,VM,VM,l7,l5,l1];exact big (by omega)),?_⟩
  rw[Gf]
  refine⟨_,rfl,_,_,rfl,rfl,(by show 2≤sizeLine;decide),fun p hp=>?_⟩
  show Q (V.ref p) (upd H p (.tup [V.str (tx (deepT (10+j))),V.bl (decide (10+(j:Int)≤11))]))
  rw[show decide (10+(j:Int)≤11)=decide (10+j≤11) from decide_eq_decide.mpr ⟨fun z=>by omega,fun z=>by omega⟩]
  exact k p hp
end
open K58 (s2 st plT plW plH odds ends8 deepT namT lngT mnyT oddS chk sep knL)
section
variable {P:Program}{w:World}{K:PySem.W.Frag}{mg:Str→Option Value}{base:Heap}{t:Adr}
def A4t:Nat→Str
 | 0 => ""
 | 1 => "NoPattern"
 | 2 => "Unknown"
 | _ => "TooLarge"
def Rg (u:List Nat)(due:Str)(w h:Int):Prop:=u.length≤1000∧∃ n m k:Nat,n<4∧chk u n m k=true∧due=A4t n∧w=(m:Int)∧h=(k:Int)
def Ayn:Sp:=fun vs H Q _=>∃ c:Int,vs=[.int c]∧∀ p u due w h H',Bv H H'→H' p=some (.tup [.str (tx u),.str due,.int w,.int h])→Rg u due w h→Q (.ref p) H'
theorem Aqg:ends8.length=8∧∀ u∈ends8,u.length≤8:=by decide +kernel
theorem A1k{u:List Nat}{k:Nat}(h:k≤u.length):Ags u (some (k:Int)) none=u.drop k:=AsL h
theorem Ayo{u:List Nat}:Ags u none (some (-1))=u.dropLast:=by
 unfold Ags
 have e2:HT.sIx u.length u.length (some (-1))=u.length-1:=by
  show(if (-1:Int)<0 then (-1+(u.length:Int)).toNat else min (-1:Int).toNat u.length)=_
  rw[if_pos (by decide)]
  omega
 rw[HT.Amx,e2,A7d,Nat.sub_zero,List.dropLast_eq_take]
theorem rg1{u:List Nat}(h:u.length≤1000)(e:chk u 1 0 0=true):Rg u "NoPattern" 0 0:=⟨h,1,0,0,by decide,e,rfl,rfl,rfl⟩
theorem AsP(T:Txt K mg t):Aq P w K mg base CX0 3 t.N8 t.Ag0 ["cell"] Ayn:=by
 have AsQ:Aq P w K mg base CX0 1 t.K3 t.Ade _ _:=AqV T
 have Apg:Aq P w K mg base CX0 1 t.Iw t.ZV _ _:=Anj T
 have Awy:Aq P w K mg base CX0 1 t.Rt t.Ajy _ _:=Auh T
 have Aui:Aq P w K mg base CX0 1 t.N7 t.Agz _ _:=AsO T
 refine T.AhO.F.ok Gi (fun vs H Q E h=>?_) (fun cdv A outer s H vs Q E hr h=>?_)
 ·obtain⟨c,rfl,_⟩:=h
  rfl
 ·obtain⟨c,rfl,k⟩:=h
  refine⟨_,(Ae (CP (i:=1) Gi.nd rfl (Or.inl rfl) (Bo Ms (pv 0) Am))
   (Ae (CP (i:=2) Gi.nd rfl (Or.inl rfl) (Bo Abs (pv 0) Am))
   (Ae (Ato (Bc (AsQ.mono (by decide)) hr rfl T.AeP.m T.AeP.F.kp T.AeP.b .nil Ax (Aa (pv 2) Ac)) (AcR rfl (Gy (En (i:=3) Gi.nd rfl (Or.inl rfl)) (Gy (En (i:=4) Gi.nd rfl (Or.inl rfl)) (Gy (En (i:=5) Gi.nd rfl (Or.inl rfl)) XX)))))
   (Ae (Ck (Az GJ (pv 1) Am (Bh _))
    (Ae (CP (i:=6) Gi.nd rfl (Or.inl rfl) (Bo Ms (Bo Abs (pv 2) Am) (Bo Mr (Bw Dd rfl T.Jg Gg (Aa (pv 3) Ac)) Am)))
    (Ag (Bm (K5 (Aa (Bo Bu (Bo Bu (Lw ZJ (pv 3) Ud (Mu (pv 6))) (Bc (Apg.mono (by decide)) hr rfl T.Yk.m T.Yk.F.kp T.Yk.b .nil Ax (Aa (pv 2) Ac))) (Lw ZJ (pv 3) (Mu (pv 6)) Ud)) (Aa Af (Aa Am (Aa Am Ac))))))))
    Bf)
   (Ae (Ck (Az GJ (pv 1) Am (Bh _))
    (Ag (Bm (K5 (Aa (Lw ZJ (pv 3) Ud (Mu (A1N A0f Am))) (Aa Af (Aa Am (Aa Am Ac)))))))
    Bf)
   (Ae (Ck (Az GJ (pv 1) Am (Bh _))
    (Ae (CP (i:=7) Gi.nd rfl (Or.inl rfl) (Ge (Fp (K:=K)) (GX (Aa Af (Aa Af (Aa Af (Aa Af (Aa Af (Aa Af (Aa Af (Aa Af Ac))))))))) (Bo Ms (Bo Abs (pv 2) Am) Am) (fun _ _=>rfl)))
    (Ag (Bm (K5 (Aa (Bo Bu (pv 3) (pv 7)) (Aa Af (Aa Am (Aa Am Ac))))))))
    Bf)
   (Ae (Ck (Az GJ (pv 1) Am (Bh _))
    (Ae (Ato (Bc (Aui.mono (by decide)) hr rfl T.AhN.m T.AhN.F.kp T.AhN.b .nil Ax (Aa (Bo Mr Am (Bo Ms (pv 2) Am)) Ac)) (AcR rfl (Gy (En (i:=8) Gi.nd rfl (Or.inl rfl)) (Gy (En (i:=9) Gi.nd rfl (Or.inl rfl)) XX))))
    (Ag (Bm (K5 (Aa (pv 8) (Aa (Ge (Fp (K:=K)) (GX (Aa Af (Aa Af Ac))) (Er AeB rfl T.As0 Am9 (Aa (pv 9) Ac)) (fun _ _=>rfl)) (Aa Am (Aa Am Ac))))))))
    Bf)
   (Ae (Ck (Az GJ (pv 1) Am (Bh _))
    (Ag (Bm (K5 (Aa (Bc (Awy.mono (by decide)) hr rfl T.Amh.m T.Amh.F.kp T.Amh.b .nil Ax (Aa (pv 2) Ac)) (Aa Af (Aa Am (Aa Am Ac)))))))
    Bf)
   (Ae (Ck (Az GJ (pv 1) Am (Bh _))
    (Ae (CP (i:=10) Gi.nd rfl (Or.inl rfl) (Bo Mr Am (Bo Ms (pv 2) Am)))
    (Ae (CP (i:=11) Gi.nd rfl (Or.inl rfl) (Lw ZJ (Bo VL Af Am) Ud (Mu (pv 10))))
    (Ag (Bm (K5 (Aa (pv 11) (Aa (Ge (Fp (K:=K)) (GX (Aa Af (Aa Af Ac))) (Er AeB rfl T.As0 Am9 (Aa (Ox Ww (pv 10) Am (Bh _)) Ac)) (fun _ _=>rfl)) (Aa Am (Aa Am Ac)))))))))
    Bf)
   (Ae (Ck (Az GJ (pv 1) Am (Bh _))
    (Ae (CP (i:=12) Gi.nd rfl (Or.inl rfl) (Bo Mr Am (Bo Ms (pv 2) Am)))
    (Ae (Ck (Az GJ (Bo Ms (Bo Abs (pv 2) Am) Am) Am (Bh _))
     (Ag (Bm (K5 (Aa (Bo Bu (Bo Bu Af (Lw ZJ (Bo VL Af Am) Ud (Mu (pv 12)))) Af) (Aa (Ge (Fp (K:=K)) (GX (Aa Af (Aa Af Ac))) (Er AeB rfl T.As0 Am9 (Aa (Ox Ww (pv 12) Am (Bh _)) Ac)) (fun _ _=>rfl)) (Aa (pv 12) (Aa Am Ac)))))))
     Bf)
    (Ag (Bm (K5 (Aa (Bo Bu (Bo Bu Af (Qa (K:=K) PySem.F.plainAttrs_str PySem.F.slot_str_join PySem.F.type_str_join (W3 (K:=K)) Af (Aa (Bo Am0 (GX (Aa Af Ac)) (pv 12)) Ac))) Af) (Aa (Ge (Fp (K:=K)) (GX (Aa Af (Aa Af Ac))) (Er AeB rfl T.As0 Am9 (Aa (Ox Ww (pv 12) Am (Bh _)) Ac)) (fun _ _=>rfl)) (Aa Am (Aa (pv 12) Ac)))))))))
    Bf)
   (Ag (Bm (K5 (Aa (pv 3) (Aa Af (Aa (pv 4) (Aa (pv 5) Ac))))))))))))))))),?_⟩
  obtain⟨y,ey,hy⟩:∃ y:Nat,c%8=(y:Int)∧y<8:=⟨(c%8).toNat,by omega,by omega⟩
  obtain⟨r,er⟩:∃ r:Int,c / 8=r:=⟨_,rfl⟩
  refine⟨_,rfl,_,_,rfl,rfl,(by show(0:Int)<8;decide),?_⟩
  refine Vw (v':=.int (y:Int)) (congrArg V.int ey) rfl ?_
  refine⟨_,rfl,_,_,rfl,rfl,⟨by decide,by decide⟩,?_⟩
  refine Vw (v':=.int r) (congrArg V.int er) rfl ?_
  refine⟨_,rfl,r,rfl,fun p0 a b d H0 s0 ea eb ed hp0=>?_⟩
  have ha:a<5:=by omega
  have hb:b<5:=by omega
  have hd:d<3:=by omega
  have ma:=List.mem_range.mpr ha
  have mb:=List.mem_range.mpr hb
  have md:=List.mem_range.mpr hd
  obtain⟨o1,o2,o3⟩:=K58.A2Y a ma b mb d md
  have oc:=K58.A1h a ma b mb d md
  have oe:=K58.A1i a ma b mb d md
  generalize plT a b d=u at hp0 o1 o2 o3 oc oe
  generalize plW a b d=m at hp0 o1
  generalize plH a b d=n at hp0 o1
  refine⟨_,_,rfl,SqT.of hp0,rfl,_,_,rfl,_,_,rfl,_,_,rfl,rfl,?_⟩
  refine⟨_,rfl,rfl,_,rfl,?_⟩
  refine Hu (fun c1=>?_) (fun c1=>?_)
  ·obtain⟨at',eat,hat⟩:∃ i:Nat,r / 75%((u.length:Int)+1)=(i:Int)∧i≤u.length:=by
    have h1:=Int.emod_nonneg (r / 75) (show((u.length:Int)+1)≠0 by omega)
    have h2:=Int.emod_lt_of_pos (r / 75) (show 0<((u.length:Int)+1) by omega)
    exact⟨(r / 75%((u.length:Int)+1)).toNat,by omega,by omega⟩
   refine⟨_,rfl,_,_,rfl,rfl,⟨by decide,by decide⟩,_,rfl,_,rfl,(by rw[Ao];exact big (by omega)),?_⟩
   rw[Ao]
   refine⟨_,_,rfl,rfl,_,_,rfl,rfl,(by show(0:Int)<(u.length:Int)+1;omega),?_⟩
   refine Vw (v':=.int (at':Int)) (congrArg V.int eat) rfl ?_
   refine⟨_,rfl,_,rfl,_,rfl,u,rfl,big (by omega),?_⟩
   rw[AmC hat]
   refine⟨_,rfl,r,rfl,fun x hx=>?_⟩
   refine⟨_,_,rfl,rfl,(by rw[Ao,Ao,A5S];exact big (by simp only [A5N,A6a];omega)),?_⟩
   rw[Gf]
   refine⟨_,rfl,_,rfl,_,rfl,u,rfl,big (by omega),?_⟩
   rw[A1k hat]
   refine⟨_,_,rfl,rfl,(by rw[Ao,Ao,A5J,A5S,A6l];exact big (by simp only [A5N,A6a];omega)),?_⟩
   rw[Gf]
   refine⟨(by show 4≤sizeLine;decide),fun p hp=>?_⟩
   exact k p _ _ _ _ _ (s0.new hp) Ad (rg1 (by rw[A5J,A5J,A5S,A6l,A6o];omega) (K58.strange hx))
  refine⟨_,rfl,rfl,_,rfl,?_⟩
  refine Hu (fun c2=>?_) (fun c2=>?_)
  ·refine⟨_,rfl,_,rfl,_,rfl,u,rfl,big (by omega),?_⟩
   rw[show Ags u none (some ((fun i => -i) 1))=u.dropLast from Ayo]
   refine⟨(by show 4≤sizeLine;decide),fun p hp=>?_⟩
   exact k p _ _ _ _ _ (s0.new hp) Ad (rg1 (by rw[List.length_dropLast];omega) oc)
  refine⟨_,rfl,rfl,_,rfl,?_⟩
  refine Hu (fun c3=>?_) (fun c3=>?_)
  ·refine⟨(by show 8≤sizeLine;decide),fun p1 np1=>?_⟩
   obtain⟨i,ei,hi⟩:∃ i:Nat,r / 75%8=(i:Int)∧i<ends8.length:=by
    rw[Aqg.1]
    exact⟨(r / 75%8).toNat,by omega,by omega⟩
   have bi:=Aqg.2 _ (A6m hi)
   refine⟨_,rfl,_,_,rfl,rfl,⟨by decide,by decide⟩,_,_,rfl,rfl,(by show(0:Int)<8;decide),?_⟩
   refine⟨p1,vS ends8,r / 75%8,.str (tx ends8[i]),rfl,rfl,SqL.of (Ad.trans ?_),?_,?_⟩
   ·unfold ends8 vS
    simp only [A5P,A6s,← st]
   ·rw[ei]
    exact AsC (A5L hi)
   have s1:=s0.new (o:=HO.lst (vS ends8)) np1
   have e1:(upd H0 p1 (.lst (vS ends8)))=(upd H0 p1 (.lst (vS ends8))):=rfl
   refine Vw rfl rfl ?_
   refine⟨_,rfl,_,rfl,_,_,rfl,rfl,(by rw[Ao,Ao];exact big (by omega)),?_⟩
   rw[Gf]
   refine⟨(by show 4≤sizeLine;decide),fun p hp=>?_⟩
   exact k p _ _ _ _ _ ((s0.new np1).new hp) Ad (rg1 (by rw[A5J];omega) (oe _ (A6m hi)))
  refine⟨_,rfl,rfl,_,rfl,?_⟩
  refine Hu (fun c4=>?_) (fun c4=>?_)
  ·obtain⟨j,ej,hj⟩:∃ j:Nat,r%4=(j:Int)∧j<4:=⟨(r%4).toNat,by omega,by omega⟩
   refine⟨_,rfl,_,_,rfl,rfl,(by show(0:Int)<4;decide),_,_,rfl,rfl,j,?_,hj,fun p1 np1=>?_⟩
   ·show[V.int (10+r%4)]=_
    rw[ej]
   have s1:Bv H (upd H0 p1 (.tup [.str (tx (deepT (10+j))),.bl (decide (10+j≤11))])):=s0.new np1
   have hp1:(upd H0 p1 (.tup [.str (tx (deepT (10+j))),.bl (decide (10+j≤11))])) p1=some (.tup [.str (tx (deepT (10+j))),.bl (decide (10+j≤11))]):=Ad
   generalize upd H0 p1 (.tup [.str (tx (deepT (10+j))),.bl (decide (10+j≤11))])=H1 at s1 hp1 ⊢
   refine⟨_,_,rfl,SqT.of hp1,rfl,_,_,rfl,_,_,rfl,rfl,?_⟩
   refine⟨_,rfl,(by show 2≤sizeLine;decide),fun p2 np2=>?_⟩
   refine⟨_,rfl,.inr ⟨_,rfl,?_⟩⟩
   have s2':=s1.new (o:=.lst [.str "NoPattern", .str ""]) np2
   have hp2:(upd H1 p2 (.lst [.str "NoPattern", .str ""])) p2=some (.lst [.str "NoPattern", .str ""]):=Ad
   generalize upd H1 p2 (.lst [.str "NoPattern", .str ""])=H2 at s2' hp2 ⊢
   have dl:∀ j∈List.range 4,(deepT (10+j)).length≤1000:=by decide +kernel
   have dj:=dl j (List.mem_range.mpr hj)
   have ok:=K58.A2Z j (List.mem_range.mpr hj)
   by_cases cj:10+j≤11
   ·rw[decide_eq_true cj]
    rw[if_pos cj] at ok
    refine⟨p2,_,_,.str "", rfl,rfl,SqL.of hp2,Fi (by decide) rfl,?_⟩
    refine⟨(by show 4≤sizeLine;decide),fun p hp=>?_⟩
    exact k p _ _ _ _ _ (s2'.new hp) Ad ⟨dj,0,2,3,by decide,ok,rfl,rfl,rfl⟩
   ·rw[decide_eq_false cj]
    rw[if_neg cj] at ok
    refine⟨p2,_,_,.str "NoPattern", rfl,rfl,SqL.of hp2,Fi (by decide) rfl,?_⟩
    refine⟨(by show 4≤sizeLine;decide),fun p hp=>?_⟩
    exact k p _ _ _ _ _ (s2'.new hp) Ad ⟨dj,1,2,3,by decide,ok,rfl,rfl,rfl⟩
  refine⟨_,rfl,rfl,_,rfl,?_⟩
  refine Hu (fun c5=>?_) (fun c5=>?_)
  ·refine⟨_,rfl,r,rfl,fun v hv H1 s1=>?_⟩
   refine⟨(by show 4≤sizeLine;decide),fun p hp=>?_⟩
   have hl:∀ u∈odds,u.length≤100:=by decide +kernel
   exact k p _ _ _ _ _ ((s0.trans s1).new hp) Ad (rg1 (by have:=hl v hv;omega) (K58.A3a v hv))
  refine⟨_,rfl,rfl,_,rfl,?_⟩
  refine Hu (fun c6=>?_) (fun c6=>?_)
  ·obtain⟨j,ej,hj⟩:∃ j:Nat,r%4=(j:Int)∧j<4:=⟨(r%4).toNat,by omega,by omega⟩
   refine⟨_,rfl,_,_,rfl,rfl,(by show(0:Int)<4;decide),_,_,rfl,rfl,?_⟩
   refine Vw (v':=.int ((19+j:Nat):Int)) (congrArg V.int (by omega)) rfl ?_
   have l5:(s2 "known").length=5:=by decide +kernel
   rw[st "known"]
   refine⟨s2 "known", 5,rfl,rfl,(by decide),(by decide),(big (by rw[l5];decide)),?_⟩
   rw[show(5:Int).toNat=5 from rfl]
   have l25:((List.replicate 5 (s2 "known")).flatten).length=25:=by rw[VM,l5]
   refine⟨_,rfl,_,rfl,_,rfl,big (by rw[l25];decide),?_⟩
   rw[AmC (by rw[l25];omega)]
   refine Vw rfl rfl ?_
   have nl:((List.replicate 5 (s2 "known")).flatten.take (19+j)).length≤1000:=by rw[A5S,l25];omega
   have ok:=K58.A3b j (List.mem_range.mpr hj)
   refine⟨_,rfl,(by show 2≤sizeLine;decide),fun p2 np2=>?_⟩
   refine⟨_,rfl,_,_,rfl,rfl,.inr ⟨_,rfl,?_⟩⟩
   have s2':=s0.new (o:=.lst [.str "NoPattern", .str "Unknown"]) np2
   have hp2:(upd H0 p2 (.lst [.str "NoPattern", .str "Unknown"])) p2=some (.lst [.str "NoPattern", .str "Unknown"]):=Ad
   generalize upd H0 p2 (.lst [.str "NoPattern", .str "Unknown"])=H2 at s2' hp2 ⊢
   by_cases cj:19+j<21
   ·rw[decide_eq_true (show((19+j:Nat):Int)<21 by omega)]
    rw[if_pos cj] at ok
    refine⟨p2,_,_,.str "Unknown", rfl,rfl,SqL.of hp2,Fi (by decide) rfl,?_⟩
    refine⟨(by show 4≤sizeLine;decide),fun p hp=>?_⟩
    exact k p _ _ _ _ _ (s2'.new hp) Ad ⟨nl,2,0,0,by decide,ok,rfl,rfl,rfl⟩
   ·rw[decide_eq_false (show ¬((19+j:Nat):Int)<21 by omega)]
    rw[if_neg cj] at ok
    refine⟨p2,_,_,.str "NoPattern", rfl,rfl,SqL.of hp2,Fi (by decide) rfl,?_⟩
    refine⟨(by show 4≤sizeLine;decide),fun p hp=>?_⟩
    exact k p _ _ _ _ _ (s2'.new hp) Ad ⟨nl,1,0,0,by decide,ok,rfl,rfl,rfl⟩
  refine⟨_,rfl,rfl,_,rfl,?_⟩
  refine Hu (fun c7=>?_) (fun c7=>?_)
  ·obtain⟨j,ej,hj⟩:∃ j:Nat,r%4=(j:Int)∧j<4:=⟨(r%4).toNat,by omega,by omega⟩
   have l5:(s2 "rows(").length=5∧(s2 "#..").length=3∧(s2 ")").length=1∧(s2 ",").length=1∧(s2 "#.").length=2:=by decide +kernel
   obtain⟨l5,l3,l1,l1',l2⟩:=l5
   refine⟨_,rfl,_,_,rfl,rfl,(by show(0:Int)<4;decide),_,_,rfl,rfl,?_⟩
   refine Vw (v':=.int ((39+j:Nat):Int)) (congrArg V.int (by omega)) rfl ?_
   refine⟨_,rfl,_,_,rfl,rfl,⟨by decide,by decide⟩,_,_,rfl,rfl,(by show(0:Int)<2;decide),rfl,_,rfl,?_⟩
   refine Hu (fun c8=>?_) (fun c8=>?_)
   ·rw[st "#..", st "rows(", st ")"]
    refine⟨s2 "#..", 14,rfl,rfl,(by decide),(by decide),(big (by rw[l3];decide)),?_⟩
    rw[show(14:Int).toNat=14 from rfl]
    have l42:((List.replicate 14 (s2 "#..")).flatten).length=42:=by rw[VM,l3]
    refine⟨_,rfl,_,rfl,_,rfl,big (by rw[l42];decide),?_⟩
    rw[AmC (by rw[l42];omega)]
    refine⟨_,_,rfl,rfl,(by rw[Ao,Ao,A5S,l42,l5];exact big (by omega)),?_⟩
    rw[Gf]
    refine⟨_,_,rfl,rfl,(by rw[Ao,Ao,A5J,A5S,l42,l5,l1];exact big (by omega)),?_⟩
    rw[Gf]
    have nl:(lngT (39+j)).length≤1000:=by unfold lngT;rw[A5J,A5J,A5S,l42,l5,l1];omega
    have ok:=K58.A3c j (List.mem_range.mpr hj)
    refine⟨(by show 2≤sizeLine;decide),fun p2 np2=>?_⟩
    refine⟨_,rfl,_,_,rfl,rfl,.inr ⟨_,rfl,?_⟩⟩
    have s2':=s0.new (o:=.lst [.str "TooLarge", .str ""]) np2
    have hp2:(upd H0 p2 (.lst [.str "TooLarge", .str ""])) p2=some (.lst [.str "TooLarge", .str ""]):=Ad
    generalize upd H0 p2 (.lst [.str "TooLarge", .str ""])=H2 at s2' hp2 ⊢
    by_cases cj:39+j<41
    ·rw[decide_eq_true (show((39+j:Nat):Int)<41 by omega)]
     rw[if_pos cj] at ok
     refine⟨p2,_,_,.str "", rfl,rfl,SqL.of hp2,Fi (by decide) rfl,?_⟩
     refine⟨_,rfl,(by show 4≤sizeLine;decide),fun p hp=>?_⟩
     exact k p _ _ _ _ _ (s2'.new hp) Ad ⟨nl,0,39+j,1,by decide,ok,rfl,rfl,rfl⟩
    ·rw[decide_eq_false (show ¬((39+j:Nat):Int)<41 by omega)]
     rw[if_neg cj] at ok
     refine⟨p2,_,_,.str "TooLarge", rfl,rfl,SqL.of hp2,Fi (by decide) rfl,?_⟩
     refine⟨_,rfl,(by show 4≤sizeLine;decide),fun p hp=>?_⟩
     exact k p _ _ _ _ _ (s2'.new hp) Ad ⟨nl,3,39+j,1,by decide,ok,rfl,rfl,rfl⟩
   ·rw[st "#.", st "rows(", st ")", st ","]
    refine⟨rfl,(by show 1≤sizeLine;decide),fun p1 np1=>?_⟩
    have s1:Bv H0 (upd H0 p1 (.lst [.str (tx (s2 "#."))])):=.upd np1
    have h1:(upd H0 p1 (.lst [.str (tx (s2 "#."))])) p1=some (.lst [.str (tx (s2 "#."))]):=Ad
    generalize upd H0 p1 (.lst [.str (tx (s2 "#."))])=H1 at s1 h1 ⊢
    have hsz:sizeLine=16777216:=sizeLine_eq
    refine⟨_,rfl,p1,_,_,rfl,rfl,h1,(by omega),(by omega),(by rw[A5Z];show 1*_≤_;omega),fun p3 np3=>?_⟩
    rw[A5Z]
    have er:(List.replicate (39+j) [V.str (tx (s2 "#."))]).flatten=vS (List.replicate (39+j) (s2 "#.")):=by
     unfold vS
     rw[List.map_replicate]
     generalize 39+j=j
     induction j with
     | zero=>rfl
     | succ j ih=>rw[A6g,A6d,ih,A6g];rfl
    rw[er]
    have s3:Bv H1 (upd H1 p3 (.lst (vS (List.replicate (39+j) (s2 "#."))))):=.upd np3
    have h3:(upd H1 p3 (.lst (vS (List.replicate (39+j) (s2 "#."))))) p3=some (.lst (vS (List.replicate (39+j) (s2 "#.")))):=Ad
    generalize upd H1 p3 (.lst (vS (List.replicate (39+j) (s2 "#."))))=H3 at s3 h3 ⊢
    have hsl:(sep (s2 ",") (List.replicate (39+j) (s2 "#."))).length≤200:=by
     have key:∀ j∈List.range 4,(sep (s2 ",") (List.replicate (39+j) (s2 "#."))).length≤200:=by decide +kernel
     exact key j (List.mem_range.mpr hj)
    have sl:=Avq (s2 ",") (List.replicate (39+j) (s2 "#."))
    have ejn:Txt.join (tx (s2 ",")) ((List.replicate (39+j) (s2 "#.")).map tx)=tx (sep (s2 ",") (List.replicate (39+j) (s2 "#."))):=by
     rw[show 39+j=(38+j)+1 by omega,A6g]
     exact Anb _ _ _
    refine⟨_,_,(List.replicate (39+j) (s2 "#.")).map tx,rfl,rfl,SqL.of (by rw[h3,Agq]),(by rw[Ao,A5I];omega),?_⟩
    rw[ejn]
    refine⟨_,_,rfl,rfl,(by rw[Ao,Ao];exact big (by omega)),?_⟩
    rw[Gf]
    refine⟨_,_,rfl,rfl,(by rw[Ao,Ao,A5J];exact big (by omega)),?_⟩
    rw[Gf]
    have nl:(mnyT (39+j)).length≤1000:=by unfold mnyT;rw[A5J,A5J,l5,l1];omega
    have ok:=K58.A3d j (List.mem_range.mpr hj)
    have u3:=(s0.trans s1).trans s3
    refine⟨(by show 2≤sizeLine;decide),fun p2 np2=>?_⟩
    refine⟨_,rfl,_,_,rfl,rfl,.inr ⟨_,rfl,?_⟩⟩
    have s2':=u3.new (o:=.lst [.str "NoPattern", .str ""]) np2
    have hp2:(upd H3 p2 (.lst [.str "NoPattern", .str ""])) p2=some (.lst [.str "NoPattern", .str ""]):=Ad
    generalize upd H3 p2 (.lst [.str "NoPattern", .str ""])=H2 at s2' hp2 ⊢
    by_cases cj:39+j<41
    ·rw[decide_eq_true (show((39+j:Nat):Int)<41 by omega)]
     rw[if_pos cj] at ok
     refine⟨p2,_,_,.str "", rfl,rfl,SqL.of hp2,Fi (by decide) rfl,?_⟩
     refine⟨_,rfl,(by show 4≤sizeLine;decide),fun p hp=>?_⟩
     exact k p _ _ _ _ _ (s2'.new hp) Ad ⟨nl,0,2,39+j,by decide,ok,rfl,rfl,rfl⟩
    ·rw[decide_eq_false (show ¬((39+j:Nat):Int)<41 by omega)]
     rw[if_neg cj] at ok
     refine⟨p2,_,_,.str "NoPattern", rfl,rfl,SqL.of hp2,Fi (by decide) rfl,?_⟩
     refine⟨_,rfl,(by show 4≤sizeLine;decide),fun p hp=>?_⟩
     exact k p _ _ _ _ _ (s2'.new hp) Ad ⟨nl,1,2,39+j,by decide,ok,rfl,rfl,rfl⟩
  refine⟨_,rfl,_,rfl,_,rfl,(by show 4≤sizeLine;decide),fun p hp=>?_⟩
  exact k p _ _ _ _ _ (s0.new hp) Ad ⟨by omega,0,m,n,by decide,o1,rfl,rfl,rfl⟩
end
open K58 (s2 st plT plW plH odds ends8 deepT namT lngT mnyT oddS chk sep knL)
section
variable {P:Program}{w:World}{K:PySem.W.Frag}{mg:Str→Option Value}{base:Heap}{t:Adr}
theorem Ayp:∀ p∈knL,Clo p.2:=by
 intro p hp
 rw[List.mem_singleton.mp hp]
 refine⟨rfl,?_,?_,by decide,by decide,by decide,by decide⟩
 ·decide
 ·intro t ht c hc
  have:∀ t∈[[35,46],[46,35],[35,35]],∀ c∈t,c=35∨c=46:=by decide
  exact this t ht c hc
theorem AzC:[V.str "#.", V.str ".#", V.str "##"]=vS [[35,46],[46,35],[35,35]]:=by
 unfold vS
 have e1:(Str.ofString "#.")=tx [35,46]:=by decide +kernel
 have e2:(Str.ofString ".#")=tx [46,35]:=by decide +kernel
 have e3:(Str.ofString "##")=tx [35,35]:=by decide +kernel
 rw[e1,e2,e3]
 rfl
theorem AzD{kn:Kns}(hk:∀ p∈kn,Clo p.2){u:List Nat}{x:List (List Nat)}(h:(rdp kn u).1=.ok x):Clo x:=by
 unfold rdp at h
 cases e:Pat.whole u with
 | none=>rw[e] at h;cases h
 | some y=>rw[e] at h;exact Aq6 hk (Ast e).1 h
def Awz:Sp:=fun vs H Q _=>∃ c:Int,vs=[.int c]∧∀ H',Bv H H'→Q (.bl true) H'
theorem AqW(T:Txt K mg t):Aq P w K mg base CX0 33 t.K4 t.Adf ["cell"] Awz:=by
 have Auj:Aq P w K mg base CX0 3 t.N8 t.Ag0 _ _:=AsP T
 have Ank:Aq P w K mg base (CX1 P w) 31 t.Hy t.WM _ _:=AjG T
 have Eo:Aq P w K mg base CX0 1 t.Av t.K8 _ _:=Q4 T
 have Ep:Aq P w K mg base CX0 1 t.Aw t.K9 _ _:=Q5 T
 refine T.T3.F.ok Hj (fun vs H Q E h=>?_) (fun cdv A outer s H vs Q E hr h=>?_)
 ·obtain⟨c,rfl,_⟩:=h
  rfl
 ·obtain⟨c,rfl,k⟩:=h
  refine⟨_,(Ae (Ato (Bc (Auj.mono (by decide)) hr rfl T.AhO.m T.AhO.F.kp T.AhO.b .nil Ax (Aa (pv 0) Ac)) (AcR rfl (Gy (En (i:=1) Hj.nd rfl (Or.inl rfl)) (Gy (En (i:=2) Hj.nd rfl (Or.inl rfl)) (Gy (En (i:=3) Hj.nd rfl (Or.inl rfl)) (Gy (En (i:=4) Hj.nd rfl (Or.inl rfl)) XX))))))
   (Ae (CP (i:=5) Hj.nd rfl (Or.inl rfl) Abr)
   (Ae (CP (i:=6) Hj.nd rfl (Or.inl rfl) Abr)
   (Ae (A0y (j:=7) ⟨rfl,rfl,rfl⟩ rfl (AwQ (AyR (i:=6) Hj.nd rfl (Or.inl rfl) (AwP (Ank.mono (by decide)) hr rfl T.VN.m T.VN.F.kp T.VN.b .nil (Aa (pv 1) (Aa (GX (Aa (K5 (Aa Af (Aa (GX (Aa Af (Aa Af (Aa Af Ac)))) Ac))) Ac)) Ac))))) Hj.nd rfl rfl rfl T.AqB T.AqC.q AwS (fun _=>(Ag (CP (i:=5) Hj.nd rfl (Or.inl rfl) (pv 7)))))
   (Ae (Ck (Az GJ (pv 2) Af (Bh _))
    (Ag (Bm (Agm (Ox Atq (pv 5) Abr (Bh _)) (Agm (Ox GJ (Bp (K:=K) rfl (pv 6) (Eo.mono (by decide)) hr T.GC.b Ax) (pv 3) (Bh _)) (Aji (Ox GJ (Bp (K:=K) rfl (pv 6) (Ep.mono (by decide)) hr T.GD.b Ax) (pv 4) (Bh _)))))))
    Bf)
   (Ae (Ck (Az GJ (pv 2) Af (Bh _))
    (Ag (Bm (Agm (Bw (Aa4 (K:=K)) rfl T.KH JD (Aa (pv 5) (Aa (Cq (v:=.ref t.Bj) rfl T.Aj0 rfl) Ac))) (Aji (Aqj (Bw (Aa4 (K:=K)) rfl T.KH JD (Aa (pv 5) (Aa (Cq (v:=.ref t.Aj) rfl T.Cm rfl) Ac))))))))
    Bf)
   (Ae (Ck (Az GJ (pv 2) Af (Bh _))
    (Ag (Bm (Agm (Bw (Aa4 (K:=K)) rfl T.KH JD (Aa (pv 5) (Aa (Cq (v:=.ref t.Ay) rfl T.Ab8 rfl) Ac))) (Aji (Aqj (Bw (Aa4 (K:=K)) rfl T.KH JD (Aa (pv 5) (Aa (Cq (v:=.ref t.Aj) rfl T.Cm rfl) Ac))))))))
    Bf)
   (Ag (Bm (Agm (Bw (Aa4 (K:=K)) rfl T.KH JD (Aa (pv 5) (Aa (Cq (v:=.ref t.Aj) rfl T.Cm rfl) Ac))) (Aji (Aqj (Bw (Aa4 (K:=K)) rfl T.KH JD (Aa (pv 5) (Aa (Cq (v:=.ref t.Bj) rfl T.Aj0 rfl) Ac))))))))))))))),?_⟩
  refine⟨_,rfl,c,rfl,fun p0 u due wi hi H0 s0 hp0 hR=>?_⟩
  obtain⟨hul,n,m,q,hn,ok,rfl,rfl,rfl⟩:=hR
  refine⟨_,_,rfl,SqT.of hp0,rfl,_,_,rfl,_,_,rfl,_,_,rfl,_,_,rfl,rfl,?_⟩
  refine⟨_,rfl,(by show 3≤sizeLine;decide),fun p1 np1=>?_⟩
  rw[AzC]
  have s1:Bv H0 (upd H0 p1 (.lst (vS [[35,46],[46,35],[35,35]]))):=.upd np1
  have h1:(upd H0 p1 (.lst (vS [[35,46],[46,35],[35,35]]))) p1=some (.lst (vS [[35,46],[46,35],[35,35]])):=Ad
  generalize upd H0 p1 (.lst (vS [[35,46],[46,35],[35,35]]))=H1 at s1 h1 ⊢
  refine⟨(by show 2≤sizeLine;decide),fun p2 np2=>?_⟩
  rw[st "known"]
  have s2':Bv H1 (upd H1 p2 (.tup [.str (tx (s2 "known")),.ref p1])):=.upd np2
  have h2:(upd H1 p2 (.tup [.str (tx (s2 "known")),.ref p1])) p2=some (.tup [.str (tx (s2 "known")),.ref p1]):=Ad
  generalize upd H1 p2 (.tup [.str (tx (s2 "known")),.ref p1])=H2 at s2' h2 ⊢
  refine⟨(by show 1≤sizeLine;decide),fun p3 np3=>?_⟩
  have s3:Bv H2 (upd H2 p3 (.lst [.ref p2])):=.upd np3
  have h3:(upd H2 p3 (.lst [.ref p2])) p3=some (.lst [.ref p2]):=Ad
  generalize upd H2 p3 (.lst [.ref p2])=H3 at s3 h3 ⊢
  have u3:=((s0.trans s1).trans s2').trans s3
  have hK:Kn H3 p3 knL:=by
   refine⟨[p2],h3,rfl,fun i a p g1 g2=>?_⟩
   rcases i with _ | i
   ·cases g1
    cases g2
    exact⟨p1,s3 _ _ h2,s3 _ _ (s2' _ _ h1)⟩
   ·simp at g1
  refine⟨u,p3,knL,rfl,by omega,hK,Ayp,?_⟩
  unfold chk at ok
  cases e:(rdp knL u).1 with
  | ok x =>
   intro pp H4 s4 hp
   obtain⟨rfl,rfl,rfl⟩:n=0∧m=wdt x∧q=x.length:=by
    rw[e] at ok
    simp only [A6q,beq_iff_eq] at ok
    exact⟨ok.1.1,ok.1.2.symm,ok.2.symm⟩
   have C:Clo x:=AzD Ayp e
   have hp4:Pc t H4 pp x _:=hp.mono fun b o e=>(AmW e).2
   refine Vw rfl rfl ?_
   refine⟨_,rfl,rfl,_,rfl,?_⟩
   refine Mw rfl ?_
   refine⟨_,rfl,rfl,_,rfl,?_⟩
   refine Mw rfl ?_
   refine⟨_,rfl,Uk T hp4 C ?_⟩
   refine⟨_,rfl,rfl,_,rfl,?_⟩
   refine Mw rfl ?_
   refine⟨_,rfl,Ul T hp4 C ?_⟩
   refine⟨_,rfl,rfl,?_⟩
   rw[decide_eq_true rfl]
   exact k _ (u3.trans s4)
  | no f =>
   rw[e] at ok
   intro H4 s4
   cases f with
   | nop =>
    obtain rfl:n=1:=beq_iff_eq.mp ok
    refine⟨_,rfl,T.BK.sub T.G8,fun ea nea=>?_⟩
    rw[show rfa t .nop=t.Aj from rfl]
    have he:(upd H4 ea (exH t.Aj ea)) ea=some (exH t.Aj ea):=Ad
    have s5:Bv H4 (upd H4 ea (exH t.Aj ea)):=.upd nea
    generalize upd H4 ea (exH t.Aj ea)=H5 at he s5 ⊢
    refine⟨_,rfl,?_⟩
    refine⟨_,rfl,rfl,_,rfl,?_⟩
    refine Ht (by decide +kernel) ?_
    refine⟨_,rfl,rfl,_,rfl,?_⟩
    refine Ht (by decide +kernel) ?_
    refine⟨_,rfl,rfl,_,rfl,?_⟩
    refine Ht (by decide +kernel) ?_
    refine⟨_,rfl,ea,t.Aj,true,he,T.BK.c,.inr ⟨t.Aj,rfl,AeE T.Em T.BK T.Em⟩,_,rfl,?_⟩
    refine Tn ?_
    refine⟨_,rfl,ea,t.Aj,false,he,T.BK.c,.inr ⟨t.Bj,rfl,AeE T.Em T.Ws T.HX⟩,_,rfl,?_⟩
    exact k _ ((u3.trans s4).trans s5)
   | big =>
    obtain rfl:n=3:=beq_iff_eq.mp ok
    refine⟨_,rfl,T.Rj.sub T.GZ,fun ea nea=>?_⟩
    rw[show rfa t .big=t.Ay from rfl]
    have he:(upd H4 ea (exH t.Ay ea)) ea=some (exH t.Ay ea):=Ad
    have s5:Bv H4 (upd H4 ea (exH t.Ay ea)):=.upd nea
    generalize upd H4 ea (exH t.Ay ea)=H5 at he s5 ⊢
    refine⟨_,rfl,?_⟩
    refine⟨_,rfl,rfl,_,rfl,?_⟩
    refine Ht (by decide +kernel) ?_
    refine⟨_,rfl,rfl,_,rfl,?_⟩
    refine Ht (by decide +kernel) ?_
    refine⟨_,rfl,rfl,_,rfl,?_⟩
    refine Mw rfl ?_
    refine⟨_,rfl,ea,t.Ay,true,he,T.Rj.c,.inr ⟨t.Ay,rfl,AeE T.Fv T.Rj T.Fv⟩,_,rfl,?_⟩
    refine Tn ?_
    refine⟨_,rfl,ea,t.Ay,false,he,T.Rj.c,.inr ⟨t.Aj,rfl,AeE T.Fv T.BK T.HB⟩,_,rfl,?_⟩
    exact k _ ((u3.trans s4).trans s5)
   | unk =>
    obtain rfl:n=2:=beq_iff_eq.mp ok
    refine⟨_,rfl,T.Ws.sub T.HD,fun ea nea=>?_⟩
    rw[show rfa t .unk=t.Bj from rfl]
    have he:(upd H4 ea (exH t.Bj ea)) ea=some (exH t.Bj ea):=Ad
    have s5:Bv H4 (upd H4 ea (exH t.Bj ea)):=.upd nea
    generalize upd H4 ea (exH t.Bj ea)=H5 at he s5 ⊢
    refine⟨_,rfl,?_⟩
    refine⟨_,rfl,rfl,_,rfl,?_⟩
    refine Ht (by decide +kernel) ?_
    refine⟨_,rfl,rfl,_,rfl,?_⟩
    refine Mw rfl ?_
    refine⟨_,rfl,ea,t.Bj,true,he,T.Ws.c,.inr ⟨t.Bj,rfl,AeE T.G9 T.Ws T.G9⟩,_,rfl,?_⟩
    refine Tn ?_
    refine⟨_,rfl,ea,t.Bj,false,he,T.Ws.c,.inr ⟨t.Aj,rfl,AeE T.G9 T.BK T.HY⟩,_,rfl,?_⟩
    exact k _ ((u3.trans s4).trans s5)
def AqX (K:PySem.W.Frag):Sp:=fun vs H Q _=>∃(a:Addr) (ns:List Int),vs=[.ref a]∧SqL K H a (vI ns)∧ns.length≤63∧∀ H',Q (.bl true) H'
theorem AqY{K:PySem.W.Frag}{H:Hp}{a:Addr}{ns:List Int}(hl:ns.length≤63)(hS:SqL K H a (ns.map V.int)):AqX K [.ref a] H (fun v _=>v=.bl true) fun _ _ _=>False:=⟨a,ns,rfl,hS,hl,fun _=>rfl⟩
theorem A1l(T:Txt K mg t):Aq P w K mg base CX0 35 t.AmO t.AzR ["script"] (AqX K):=by
 have AkY:Aq P w K mg base CX0 33 t.K4 t.Adf _ _:=AqW T
 refine T.law.F.ok Ax3 (fun vs H Q E h=>?_) (fun cdv A outer s H vs Q E hr h=>?_)
 ·obtain⟨a,ns,rfl,_⟩:=h
  rfl
 ·obtain⟨a,sc,rfl,hS,hl,k⟩:=h
  refine⟨_,(Ae (Vm PassesOwn.never rfl (JX (K:=K) (Lw (ArZ (K:=K)) (pv 0) Ud (Mu Am))) (En (i:=1) Ax3.nd rfl (Or.inl rfl))
    (Ag (Ck (Wu (Rx (Bc (AkY.mono (by decide)) hr rfl T.T3.m T.T3.F.kp T.T3.b .nil Ax (Aa (pv 1) Ac))))
     (Ag (Bm AuA))
     Bf)))
   (Ag (Bm (Bc (AkY.mono (by decide)) hr rfl T.T3.m T.T3.F.kp T.T3.b .nil Ax (Aa Am Ac))))),?_⟩
  refine⟨_,rfl,_,rfl,_,_,rfl,hS,fun q hq=>?_⟩
  obtain⟨zs,ez⟩:∃ zs:List Int,Aqm (vI sc) none (some 12)=vI zs:=by
   unfold Aqm vI
   exact⟨_,by rw[← List.map_drop,← List.map_take]⟩
  rw[ez]
  have e1:(upd H q (.lst (vI zs))) q=some (.lst (vI zs)):=Ad
  generalize upd H q (.lst (vI zs))=H1 at e1 ⊢
  refine⟨_,rfl,⟨_,SqL.of e1⟩,Aa2 (K:=K) (a:=q) (xs:=vI zs) (fun i σ H2=>∃ v,σ=[some (.ref a),v]∧Bv H1 H2) ⟨none,rfl,.refl _⟩ ?_ ?_ ?_⟩
  ·rintro i σ H2 hi ⟨v,rfl,s2⟩
   exact SqL.of (s2 _ _ e1)
  ·rintro i x σ H2 hx ⟨v,rfl,s2⟩
   obtain⟨z,rfl⟩:∃ z,x=.int z:=by
    unfold vI at hx
    rw[A5T] at hx
    obtain⟨z,_,rfl⟩:=Option.map_eq_some_iff.mp hx
    exact⟨z,rfl⟩
   refine⟨_,rfl,z,rfl,fun H3 s3=>?_⟩
   refine⟨_,rfl,?_⟩
   refine ZF ?_
   exact⟨_,rfl,s2.trans s3⟩
  ·rintro σ H2 ⟨v,rfl,s2⟩
   exact⟨0,rfl,fun H3 s3=>k _⟩
end
theorem A1m{P:Program}{w:World}{K:PySem.W.Frag}{h:Heap}{mg:Str→Option Value}{fa:Addr}{O3:Addr}{Auk Anl:Option Addr}{Aul:Array (Option Value)}{Aum Anm Ann Ano Ag8 Anp:Value}
    {HS:Addr}{AsR AkZ:Option Addr}{AsS:Array (Option Value)}{AsT Ala Alb Alc Ado Ald:Value}
    {Rp:Addr}{Aun Anq:Option Addr}{Auo:Array (Option Value)}{Aup Anr Ans Ant Ag9 Anu:Value}
    {Jx:Addr}{Aph Afy:Option Addr}{Api:Array (Option Value)}{Apj Afz Af0 Af1 ZX Af2:Value}
    {Gj:Addr}{Aii Yp:Option Addr}{Aij:Array (Option Value)}{Aik Yq Yr Ys Ss Yt:Value}
    {Jy:Addr}{Apk Af3:Option Addr}{Apl:Array (Option Value)}{Apm Af4 Af5 Af6 ZZ Af7:Value}
    {Kw:Addr}{AqZ Ail:Option Addr}{Ara:Array (Option Value)}{Arb Aim Ain Aio AbA Aip:Value}
    {G6:Addr}{AlK Ac1:Option Addr}{AlL:Array (Option Value)}{AlM Ac2 Ac3 Ac4 Vx Ac5:Value}
    {GK:Addr}{AjH AaC:Option Addr}{AjI:Array (Option Value)}{AjJ AaD AaE AaF T5 AaG:Value}
    {Ky:Addr}{Arc Aiq:Option Addr}{Ard:Array (Option Value)}{Are Air Ais Ait AbB Aiu:Value}
    {Yd:Addr}{Ayq AsU:Option Addr}{Ayr:Array (Option Value)}{Ays AsV AsW AsX Anv AsY:Value}
    {GP:Addr}{AjK AaH:Option Addr}{AjL:Array (Option Value)}{AjM AaI AaJ AaK T7 AaL:Value}
    {Hx:Addr}{AlN Ac6:Option Addr}{AlO:Array (Option Value)}{AlP Ac7 Ac8 Ac9 Vy AcA:Value}
    {Io:Addr}{Anw Adp:Option Addr}{Anx:Array (Option Value)}{Anz Adq Ads Adt Xa Adu:Value}
    {GQ:Addr}{AjN AaM:Option Addr}{AjO:Array (Option Value)}{AjP AaN AaO AaP T9 AaQ:Value}
    {Rq:Addr}{Auq An0:Option Addr}{Aur:Array (Option Value)}{Aus An1 An2 An3 AgA An4:Value}
    {Fj:Addr}{Apn Af8:Option Addr}{Apo:Array (Option Value)}{Apq Af9 AfA AfB Aaa AfC:Value}
    {Fl:Addr}{Aiv Yu:Option Addr}{Aiw:Array (Option Value)}{Aix Yv Yw Yx Su Yy:Value}
    {N5:Addr}{AsZ Ale:Option Addr}{Ata:Array (Option Value)}{Atb Alf Alh Ali Adv Alj:Value}
    {Fo:Addr}{Aut An5:Option Addr}{Auu:Array (Option Value)}{Auv An6 An7 An8 AgB An9:Value}
    {Kz:Addr}{Arf Aiy:Option Addr}{Arh:Array (Option Value)}{Ari Aiz Ai0 Ai1 AbC Ai2:Value}
    {Hy:Addr}{AlQ AcB:Option Addr}{AlR:Array (Option Value)}{AlS AcC AcD AcE Vz AcF:Value}
    {J0:Addr}{Aps AfD:Option Addr}{Apt:Array (Option Value)}{Apu AfE AfF AfG Aab AfH:Value}
    {Hz:Addr}{Arj Ai3:Option Addr}{Ark:Array (Option Value)}{Arl Ai4 Ai5 Ai6 AbD Ai7:Value}
    {Hn:Addr}{AnA Adw:Option Addr}{AnB:Array (Option Value)}{AnC Adx Ady Adz Xb Ad0:Value}
    {K1:Addr}{Arm Ai8:Option Addr}{Arn:Array (Option Value)}{Aro Ai9 AiA AiB AbE AiC:Value}
    {N6:Addr}{Atc Alk:Option Addr}{Atd:Array (Option Value)}{Ate Alm Aln Alo Ad1 Alp:Value}
    {Ip:Addr}{AnD Ad2:Option Addr}{AnE:Array (Option Value)}{AnF Ad3 Ad4 Ad5 Xc Ad6:Value}
    {J1:Addr}{Apv AfI:Option Addr}{Apw:Array (Option Value)}{Apx AfJ AfK AfL Aac AfM:Value}
    {Ho:Addr}{Apy AfN:Option Addr}{Apz:Array (Option Value)}{Ap0 AfO AfP AfQ Aad AfR:Value}
    {Ir:Addr}{AnG Ad7:Option Addr}{AnH:Array (Option Value)}{AnI Ad8 Ad9 AdA Xd AdB:Value}
    {Iu:Addr}{AnJ AdC:Option Addr}{AnK:Array (Option Value)}{AnL AdD AdE AdF Xe AdG:Value}
    {Iv:Addr}{AnM AdH:Option Addr}{AnN:Array (Option Value)}{AnO AdI AdJ AdK Xf AdL:Value}
    {GR:Addr}{AjQ AaR:Option Addr}{AjR:Array (Option Value)}{AjS AaS AaT AaU TF AaV:Value}
    {K3:Addr}{Arp AiD:Option Addr}{Arq:Array (Option Value)}{Ars AiE AiF AiG AbF AiH:Value}
    {Iw:Addr}{AnP AdM:Option Addr}{AnQ:Array (Option Value)}{AnR AdN AdO AdP Xg AdQ:Value}
    {Rt:Addr}{Auw AnS:Option Addr}{Aux:Array (Option Value)}{Auy AnT AnU AnV AgC AnW:Value}
    {N7:Addr}{Atf Alq:Option Addr}{Atg:Array (Option Value)}{Ath Alr Als Alu AdR Alv:Value}
    {N8:Addr}{Ati Alw:Option Addr}{Atj:Array (Option Value)}{Atk Alx Aly Alz AdS Al0:Value}
    {K4:Addr}{Art AiI:Option Addr}{Aru:Array (Option Value)}{Arv AiJ AiK AiL AbG AiM:Value}
    {AmO:Addr}{A1n Ayt:Option Addr}{A1o:Array (Option Value)}{A1p Ayu Ayv Ayw Auz Ayx:Value}
    {Aw0:Tok}
    {AnX:Tok}
    {AnY:Tok}
    {Aw1:Tok}
    {Atl:Tok}
    {Atm:Tok}
    {BZ:Addr}
    {Ay:Addr}
    {Es:Addr}
    {Dh:Addr}
    {Et:Addr}
    {Aj:Addr}
    {Bj:Addr}
    {BP:Addr}
    {Dl:Addr}
    {FP:Addr}
    {Dm:Addr}
    {Dp:Addr}
    {Cv:Addr}
    {Dv:Addr}
    {Cw:Addr}
    {Dw:Addr}
    {Gh:Addr}
    {BR:Addr}
    {FQ:Addr}
    {Cr:Addr}
    {Je:Addr}
    {Br:Addr}
    {Ba:Addr}{AiN Yz:Option Addr}{AiO:Array (Option Value)}{AiP Y0 Y4 Y5 Sv Y6:Value}
    {Av:Addr}{Ap1 AfS:Option Addr}{Ap2:Array (Option Value)}{Ap3 AfT AfU AfV Aae AfW:Value}
    {Aw:Addr}{Ap4 AfX:Option Addr}{Ap5:Array (Option Value)}{Ap6 AfY AfZ Aga Aaf Agb:Value}
    {Be:Addr}{Ap7 Agc:Option Addr}{Ap8:Array (Option Value)}{Ap9 Agd Age Agf Aag Agg:Value}
    {Al:Addr}{AnZ AdT:Option Addr}{Aoa:Array (Option Value)}{Aob AdU AdV AdW Xh AdX:Value}
    {An:Addr}{ApA Agh:Option Addr}{ApB:Array (Option Value)}{ApC Agi Agj Agk Aah Agl:Value}
    {Ef:Addr}{AiQ Y7:Option Addr}{AiR:Array (Option Value)}{AiS Y8 Y9 YB Sw YC:Value}
    {Fd:Addr}{AjT AaW:Option Addr}{AjU:Array (Option Value)}{AjV AaX AaY AaZ TJ Aba:Value}
    {Eg:Addr}{AiT YD:Option Addr}{AiU:Array (Option Value)}{AiV YF YG YH Sx YJ:Value}
    {Eh:Addr}{AiW YK:Option Addr}{AiX:Array (Option Value)}{AiY YL YM YQ Sy YS:Value}
    {Dq:Addr}{AgD Xi:Option Addr}{AgE:Array (Option Value)}{AgF Xj Xk Xl Rk Xm:Value}
    {Ei:Addr}{AiZ YT:Option Addr}{Aja:Array (Option Value)}{Ajb YW YZ Za S5 Zb:Value}
    {Dr:Addr}{AgG Xn:Option Addr}{AgH:Array (Option Value)}{AgI Xo Xp Xq Rm Xr:Value}
    {Ej:Addr}{Ajc Zc:Option Addr}{Ajd:Array (Option Value)}{Aje Zd Ze Zf S6 Zg:Value}
    {Fe:Addr}{AjW Abb:Option Addr}{AjX:Array (Option Value)}{AjY Abd Abe Abf TQ Abg:Value}
    {CZ:Addr}{Afl VD:Option Addr}{Afm:Array (Option Value)}{Afn VF VG VH Qc VJ:Value}
    {Ff:Addr}{AjZ Abh:Option Addr}{Aka:Array (Option Value)}{Akb Abi Abj Abk TV Abl:Value}
    {Dt:Addr}{AgJ Xu:Option Addr}{AgK:Array (Option Value)}{AgL Xv Xw Xx Rn Xy:Value}
    {FT:Addr}{AlT AcG:Option Addr}{AlU:Array (Option Value)}{AlV AcH AcI AcJ V0 AcK:Value}
    {Du:Addr}{AgM Xz:Option Addr}{AgN:Array (Option Value)}{AgO X3 X4 X5 Ro X6:Value}
    {FW:Addr}{AlW AcL:Option Addr}{AlX:Array (Option Value)}{AlY AcM AcN AcO V1 AcP:Value}
    {Fg:Addr}{Aoc AdY:Option Addr}{Aod:Array (Option Value)}{Aoe AdZ Aea Aeb X7 Aec:Value}
    {BJ:Addr}{Ajf Zh:Option Addr}{Ajg:Array (Option Value)}{Ajh Zi Zj Zk S7 Zm:Value}
    {Gd:Addr}{Akc Abm:Option Addr}{Akd:Array (Option Value)}{Ake Abn Abo Abp TX Abq:Value}
    {Aby:Addr}{Aof:Obj}{Aog:Array Value}{Ayy:Nat}
    {Vd:Addr}
    (X:K.In h) (G:h.Ns mainGlobals mg) (hfa:mg "law" = some (.ref fa))
    (Akf:PySem.W.nsIn K mainGlobals "is_name" = some (some (.ref O3)))
    (AeR:K.lookup O3=some ⟨Aum,Auk,.func (PySem.W.fnOf "is_name" "is_name" (Ai JZ) (Ah JZ) (Ab JZ) .none Anm Ann Ano Anl Ag8 Anp),Aul⟩)
    (AeS:PySem.W.codeIn K Ag8 "is_name" = true)
    (AeT:PySem.W.keepIn K (.ref O3)=true)
    (AgP:PySem.W.nsIn K mainGlobals "measured" = some (some (.ref HS)))
    (AbH:K.lookup HS=some ⟨AsT,AsR,.func (PySem.W.fnOf "measured" "measured" (Ai JF) (Ah JF) (Ab JF) .none Ala Alb Alc AkZ Ado Ald),AsS⟩)
    (AbI:PySem.W.codeIn K Ado "measured" = true)
    (AbJ:PySem.W.keepIn K (.ref HS)=true)
    (Akg:PySem.W.nsIn K mainGlobals "back_of" = some (some (.ref Rp)))
    (AeU:K.lookup Rp=some ⟨Aup,Aun,.func (PySem.W.fnOf "back_of" "back_of" (Ai Ka) (Ah Ka) (Ab Ka) .none Anr Ans Ant Anq Ag9 Anu),Auo⟩)
    (AeV:PySem.W.codeIn K Ag9 "back_of" = true)
    (AeW:PySem.W.keepIn K (.ref Rp)=true)
    (AbK:PySem.W.nsIn K mainGlobals "quarter_of" = some (some (.ref Jx)))
    (VP:K.lookup Jx=some ⟨Apj,Aph,.func (PySem.W.fnOf "quarter_of" "quarter_of" (Ai G4) (Ah G4) (Ab G4) .none Afz Af0 Af1 Afy ZX Af2),Api⟩)
    (VR:PySem.W.codeIn K ZX "quarter_of" = true)
    (Wa:PySem.W.keepIn K (.ref Jx)=true)
    (TY:PySem.W.nsIn K mainGlobals "measured_texts" = some (some (.ref Gj)))
    (OD:K.lookup Gj=some ⟨Aik,Aii,.func (PySem.W.fnOf "measured_texts" "measured_texts" (Ai DR) (Ah DR) (Ab DR) .none Yq Yr Ys Yp Ss Yt),Aij⟩)
    (OJ:PySem.W.codeIn K Ss "measured_texts" = true)
    (Pa:PySem.W.keepIn K (.ref Gj)=true)
    (AbL:PySem.W.nsIn K mainGlobals "check_pick" = some (some (.ref Jy)))
    (Wb:K.lookup Jy=some ⟨Apm,Apk,.func (PySem.W.fnOf "check_pick" "check_pick" (Ai Hf) (Ah Hf) (Ab Hf) .none Af4 Af5 Af6 Af3 ZZ Af7),Apl⟩)
    (Wc:PySem.W.codeIn K ZZ "check_pick" = true)
    (We:PySem.W.keepIn K (.ref Jy)=true)
    (Aed:PySem.W.nsIn K mainGlobals "end_signs" = some (some (.ref Kw)))
    (Zn:K.lookup Kw=some ⟨Arb,AqZ,.func (PySem.W.fnOf "end_signs" "end_signs" (Ai Hw) (Ah Hw) (Ab Hw) .none Aim Ain Aio Ail AbA Aip),Ara⟩)
    (Zo:PySem.W.codeIn K AbA "end_signs" = true)
    (Zq:PySem.W.keepIn K (.ref Kw)=true)
    (X8:PySem.W.nsIn K mainGlobals "turned_signs" = some (some (.ref G6)))
    (S8:K.lookup G6=some ⟨AlM,AlK,.func (PySem.W.fnOf "turned_signs" "turned_signs" (Ai Ew) (Ah Ew) (Ab Ew) .none Ac2 Ac3 Ac4 Ac1 Vx Ac5),AlL⟩)
    (S9:PySem.W.codeIn K Vx "turned_signs" = true)
    (SJ:PySem.W.keepIn K (.ref G6)=true)
    (V2:PySem.W.nsIn K mainGlobals "filled_blocks" = some (some (.ref GK)))
    (Q8:K.lookup GK=some ⟨AjJ,AjH,.func (PySem.W.fnOf "filled_blocks" "filled_blocks" (Ai DK) (Ah DK) (Ab DK) .none AaD AaE AaF AaC T5 AaG),AjI⟩)
    (Q9:PySem.W.codeIn K T5 "filled_blocks" = true)
    (QB:PySem.W.keepIn K (.ref GK)=true)
    (Aee:PySem.W.nsIn K mainGlobals "unit_size" = some (some (.ref Ky)))
    (Zr:K.lookup Ky=some ⟨Are,Arc,.func (PySem.W.fnOf "unit_size" "unit_size" (Ai Ih) (Ah Ih) (Ab Ih) .none Air Ais Ait Aiq AbB Aiu),Ard⟩)
    (Zt:PySem.W.codeIn K AbB "unit_size" = true)
    (Zu:PySem.W.keepIn K (.ref Ky)=true)
    (Arw:PySem.W.nsIn K mainGlobals "tiled" = some (some (.ref Yd)))
    (Aml:K.lookup Yd=some ⟨Ays,Ayq,.func (PySem.W.fnOf "tiled" "tiled" (Ai R0) (Ah R0) (Ab R0) .none AsV AsW AsX AsU Anv AsY),Ayr⟩)
    (Amm:PySem.W.codeIn K Anv "tiled" = true)
    (Amn:PySem.W.keepIn K (.ref Yd)=true)
    (V3:PySem.W.nsIn K mainGlobals "laid_together" = some (some (.ref GP)))
    (QC:K.lookup GP=some ⟨AjM,AjK,.func (PySem.W.fnOf "laid_together" "laid_together" (Ai DN) (Ah DN) (Ab DN) .none AaI AaJ AaK AaH T7 AaL),AjL⟩)
    (QD:PySem.W.codeIn K T7 "laid_together" = true)
    (QF:PySem.W.keepIn K (.ref GP)=true)
    (XC:PySem.W.nsIn K mainGlobals "check_owners" = some (some (.ref Hx)))
    (SM:K.lookup Hx=some ⟨AlP,AlN,.func (PySem.W.fnOf "check_owners" "check_owners" (Ai Fy) (Ah Fy) (Ab Fy) .none Ac7 Ac8 Ac9 Ac6 Vy AcA),AlO⟩)
    (SN:PySem.W.codeIn K Vy "check_owners" = true)
    (SQ:PySem.W.keepIn K (.ref Hx)=true)
    (Aai:PySem.W.nsIn K mainGlobals "check_piece" = some (some (.ref Io)))
    (Um:K.lookup Io=some ⟨Anz,Anw,.func (PySem.W.fnOf "check_piece" "check_piece" (Ai Gm) (Ah Gm) (Ab Gm) .none Adq Ads Adt Adp Xa Adu),Anx⟩)
    (Uo:PySem.W.codeIn K Xa "check_piece" = true)
    (Up:PySem.W.keepIn K (.ref Io)=true)
    (V4:PySem.W.nsIn K mainGlobals "places_within" = some (some (.ref GQ)))
    (QG:K.lookup GQ=some ⟨AjP,AjN,.func (PySem.W.fnOf "places_within" "places_within" (Ai DP) (Ah DP) (Ab DP) .none AaN AaO AaP AaM T9 AaQ),AjO⟩)
    (QH:PySem.W.codeIn K T9 "places_within" = true)
    (QJ:PySem.W.keepIn K (.ref GQ)=true)
    (Akh:PySem.W.nsIn K mainGlobals "sign_at" = some (some (.ref Rq)))
    (AeX:K.lookup Rq=some ⟨Aus,Auq,.func (PySem.W.fnOf "sign_at" "sign_at" (Ai Mh) (Ah Mh) (Ab Mh) .none An1 An2 An3 An0 AgA An4),Aur⟩)
    (AeY:PySem.W.codeIn K AgA "sign_at" = true)
    (AeZ:PySem.W.keepIn K (.ref Rq)=true)
    (AbM:PySem.W.nsIn K mainGlobals "check_size" = some (some (.ref Fj)))
    (Wf:K.lookup Fj=some ⟨Apq,Apn,.func (PySem.W.fnOf "check_size" "check_size" (Ai Hg) (Ah Hg) (Ab Hg) .none Af9 AfA AfB Af8 Aaa AfC),Apo⟩)
    (Wg:PySem.W.codeIn K Aaa "check_size" = true)
    (Wh:PySem.W.keepIn K (.ref Fj)=true)
    (Ua:PySem.W.nsIn K mainGlobals "check_one_size" = some (some (.ref Fl)))
    (Pb:K.lookup Fl=some ⟨Aix,Aiv,.func (PySem.W.fnOf "check_one_size" "check_one_size" (Ai DX) (Ah DX) (Ab DX) .none Yv Yw Yx Yu Su Yy),Aiw⟩)
    (Pg:PySem.W.codeIn K Su "check_one_size" = true)
    (Ph:PySem.W.keepIn K (.ref Fl)=true)
    (AgQ:PySem.W.nsIn K mainGlobals "prime_to" = some (some (.ref N5)))
    (AbN:K.lookup N5=some ⟨Atb,AsZ,.func (PySem.W.fnOf "prime_to" "prime_to" (Ai Jd) (Ah Jd) (Ab Jd) .none Alf Alh Ali Ale Adv Alj),Ata⟩)
    (AbO:PySem.W.codeIn K Adv "prime_to" = true)
    (AbP:PySem.W.keepIn K (.ref N5)=true)
    (Aki:PySem.W.nsIn K mainGlobals "written" = some (some (.ref Fo)))
    (l_written:K.lookup Fo=some ⟨Auv,Aut,.func (PySem.W.fnOf "written" "written" (Ai Mi) (Ah Mi) (Ab Mi) .none An6 An7 An8 An5 AgB An9),Auu⟩)
    (Afa:PySem.W.codeIn K AgB "written" = true)
    (Afb:PySem.W.keepIn K (.ref Fo)=true)
    (Aef:PySem.W.nsIn K mainGlobals "number_of" = some (some (.ref Kz)))
    (Zv:K.lookup Kz=some ⟨Ari,Arf,.func (PySem.W.fnOf "number_of" "number_of" (Ai Ii) (Ah Ii) (Ab Ii) .none Aiz Ai0 Ai1 Aiy AbC Ai2),Arh⟩)
    (Zw:PySem.W.codeIn K AbC "number_of" = true)
    (Zx:PySem.W.keepIn K (.ref Kz)=true)
    (XD:PySem.W.nsIn K mainGlobals "read_pattern" = some (some (.ref Hy)))
    (SX:K.lookup Hy=some ⟨AlS,AlQ,.func (PySem.W.fnOf "read_pattern" "read_pattern" (Ai Fz) (Ah Fz) (Ab Fz) .none AcC AcD AcE AcB Vz AcF),AlR⟩)
    (Tc:PySem.W.codeIn K Vz "read_pattern" = true)
    (Td:PySem.W.keepIn K (.ref Hy)=true)
    (AbQ:PySem.W.nsIn K mainGlobals "read_whole" = some (some (.ref J0)))
    (Wi:K.lookup J0=some ⟨Apu,Aps,.func (PySem.W.fnOf "read_whole" "read_whole" (Ai Hh) (Ah Hh) (Ab Hh) .none AfE AfF AfG AfD Aab AfH),Apt⟩)
    (Wj:PySem.W.codeIn K Aab "read_whole" = true)
    (Wk:PySem.W.keepIn K (.ref J0)=true)
    (Aeg:PySem.W.nsIn K mainGlobals "read_node" = some (some (.ref Hz)))
    (Zy:K.lookup Hz=some ⟨Arl,Arj,.func (PySem.W.fnOf "read_node" "read_node" (Ai Ij) (Ah Ij) (Ab Ij) .none Ai4 Ai5 Ai6 Ai3 AbD Ai7),Ark⟩)
    (Zz:PySem.W.codeIn K AbD "read_node" = true)
    (Z0:PySem.W.keepIn K (.ref Hz)=true)
    (Aaj:PySem.W.nsIn K mainGlobals "read_things" = some (some (.ref Hn)))
    (Uq:K.lookup Hn=some ⟨AnC,AnA,.func (PySem.W.fnOf "read_things" "read_things" (Ai Gn) (Ah Gn) (Ab Gn) .none Adx Ady Adz Adw Xb Ad0),AnB⟩)
    (Ur:PySem.W.codeIn K Xb "read_things" = true)
    (Us:PySem.W.keepIn K (.ref Hn)=true)
    (Aeh:PySem.W.nsIn K mainGlobals "read_runs" = some (some (.ref K1)))
    (Z1:K.lookup K1=some ⟨Aro,Arm,.func (PySem.W.fnOf "read_runs" "read_runs" (Ai Ik) (Ah Ik) (Ab Ik) .none Ai9 AiA AiB Ai8 AbE AiC),Arn⟩)
    (Z2:PySem.W.codeIn K AbE "read_runs" = true)
    (Z3:PySem.W.keepIn K (.ref K1)=true)
    (AgR:PySem.W.nsIn K mainGlobals "read_run" = some (some (.ref N6)))
    (AbR:K.lookup N6=some ⟨Ate,Atc,.func (PySem.W.fnOf "read_run" "read_run" (Ai JG) (Ah JG) (Ab JG) .none Alm Aln Alo Alk Ad1 Alp),Atd⟩)
    (AbS:PySem.W.codeIn K Ad1 "read_run" = true)
    (AbT:PySem.W.keepIn K (.ref N6)=true)
    (Aak:PySem.W.nsIn K mainGlobals "read_number" = some (some (.ref Ip)))
    (Ut:K.lookup Ip=some ⟨AnF,AnD,.func (PySem.W.fnOf "read_number" "read_number" (Ai Gp) (Ah Gp) (Ab Gp) .none Ad3 Ad4 Ad5 Ad2 Xc Ad6),AnE⟩)
    (Uu:PySem.W.codeIn K Xc "read_number" = true)
    (Uv:PySem.W.keepIn K (.ref Ip)=true)
    (AbU:PySem.W.nsIn K mainGlobals "read_comma" = some (some (.ref J1)))
    (Wl:K.lookup J1=some ⟨Apx,Apv,.func (PySem.W.fnOf "read_comma" "read_comma" (Ai Hi) (Ah Hi) (Ab Hi) .none AfJ AfK AfL AfI Aac AfM),Apw⟩)
    (Wm:PySem.W.codeIn K Aac "read_comma" = true)
    (Wn:PySem.W.keepIn K (.ref J1)=true)
    (AbV:PySem.W.nsIn K mainGlobals "worked_out" = some (some (.ref Ho)))
    (Wo:K.lookup Ho=some ⟨Ap0,Apy,.func (PySem.W.fnOf "worked_out" "worked_out" (Ai G5) (Ah G5) (Ab G5) .none AfO AfP AfQ AfN Aad AfR),Apz⟩)
    (Wq:PySem.W.codeIn K Aad "worked_out" = true)
    (Wr:PySem.W.keepIn K (.ref Ho)=true)
    (Aal:PySem.W.nsIn K mainGlobals "known_cloth" = some (some (.ref Ir)))
    (Uw:K.lookup Ir=some ⟨AnI,AnG,.func (PySem.W.fnOf "known_cloth" "known_cloth" (Ai Gq) (Ah Gq) (Ab Gq) .none Ad8 Ad9 AdA Ad7 Xd AdB),AnH⟩)
    (Ux:PySem.W.codeIn K Xd "known_cloth" = true)
    (Uy:PySem.W.keepIn K (.ref Ir)=true)
    (Aam:PySem.W.nsIn K mainGlobals "made_of_one" = some (some (.ref Iu)))
    (Uz:K.lookup Iu=some ⟨AnL,AnJ,.func (PySem.W.fnOf "made_of_one" "made_of_one" (Ai Gr) (Ah Gr) (Ab Gr) .none AdD AdE AdF AdC Xe AdG),AnK⟩)
    (U0:PySem.W.codeIn K Xe "made_of_one" = true)
    (U3:PySem.W.keepIn K (.ref Iu)=true)
    (Aan:PySem.W.nsIn K mainGlobals "made_of_two" = some (some (.ref Iv)))
    (U4:K.lookup Iv=some ⟨AnO,AnM,.func (PySem.W.fnOf "made_of_two" "made_of_two" (Ai Gs) (Ah Gs) (Ab Gs) .none AdI AdJ AdK AdH Xf AdL),AnN⟩)
    (U5:PySem.W.codeIn K Xf "made_of_two" = true)
    (U6:PySem.W.keepIn K (.ref Iv)=true)
    (V5:PySem.W.nsIn K mainGlobals "made_of_three" = some (some (.ref GR)))
    (QK:K.lookup GR=some ⟨AjS,AjQ,.func (PySem.W.fnOf "made_of_three" "made_of_three" (Ai Ex) (Ah Ex) (Ab Ex) .none AaS AaT AaU AaR TF AaV),AjR⟩)
    (QL:PySem.W.codeIn K TF "made_of_three" = true)
    (QM:PySem.W.keepIn K (.ref GR)=true)
    (Aei:PySem.W.nsIn K mainGlobals "_law_plain" = some (some (.ref K3)))
    (Z4:K.lookup K3=some ⟨Ars,Arp,.func (PySem.W.fnOf "_law_plain" "_law_plain" (Ai Il) (Ah Il) (Ab Il) .none AiE AiF AiG AiD AbF AiH),Arq⟩)
    (Z5:PySem.W.codeIn K AbF "_law_plain" = true)
    (Z6:PySem.W.keepIn K (.ref K3)=true)
    (Aao:PySem.W.nsIn K mainGlobals "_law_strange" = some (some (.ref Iw)))
    (U7:K.lookup Iw=some ⟨AnR,AnP,.func (PySem.W.fnOf "_law_strange" "_law_strange" (Ai Gu) (Ah Gu) (Ab Gu) .none AdN AdO AdP AdM Xg AdQ),AnQ⟩)
    (U8:PySem.W.codeIn K Xg "_law_strange" = true)
    (U9:PySem.W.keepIn K (.ref Iw)=true)
    (Akj:PySem.W.nsIn K mainGlobals "_law_odd" = some (some (.ref Rt)))
    (Afc:K.lookup Rt=some ⟨Auy,Auw,.func (PySem.W.fnOf "_law_odd" "_law_odd" (Ai Mj) (Ah Mj) (Ab Mj) .none AnT AnU AnV AnS AgC AnW),Aux⟩)
    (Afd:PySem.W.codeIn K AgC "_law_odd" = true)
    (Afe:PySem.W.keepIn K (.ref Rt)=true)
    (AgS:PySem.W.nsIn K mainGlobals "_law_deep" = some (some (.ref N7)))
    (AbW:K.lookup N7=some ⟨Ath,Atf,.func (PySem.W.fnOf "_law_deep" "_law_deep" (Ai JH) (Ah JH) (Ab JH) .none Alr Als Alu Alq AdR Alv),Atg⟩)
    (AbX:PySem.W.codeIn K AdR "_law_deep" = true)
    (AbY:PySem.W.keepIn K (.ref N7)=true)
    (AgT:PySem.W.nsIn K mainGlobals "_law_text" = some (some (.ref N8)))
    (AbZ:K.lookup N8=some ⟨Atk,Ati,.func (PySem.W.fnOf "_law_text" "_law_text" (Ai JK) (Ah JK) (Ab JK) .none Alx Aly Alz Alw AdS Al0),Atj⟩)
    (Aca:PySem.W.codeIn K AdS "_law_text" = true)
    (Acb:PySem.W.keepIn K (.ref N8)=true)
    (Aej:PySem.W.nsIn K mainGlobals "_law_right" = some (some (.ref K4)))
    (Z7:K.lookup K4=some ⟨Arv,Art,.func (PySem.W.fnOf "_law_right" "_law_right" (Ai Im) (Ah Im) (Ab Im) .none AiJ AiK AiL AiI AbG AiM),Aru⟩)
    (Z8:PySem.W.codeIn K AbG "_law_right" = true)
    (Z9:PySem.W.keepIn K (.ref K4)=true)
    (Avr:PySem.W.nsIn K mainGlobals "law" = some (some (.ref AmO)))
    (Avs:K.lookup AmO=some ⟨A1p,A1n,.func (PySem.W.fnOf "law" "law" (Ai Afw) (Ah Afw) (Ab Afw) .none Ayu Ayv Ayw Ayt Auz Ayx),A1o⟩)
    (Avt:PySem.W.codeIn K Auz "law" = true)
    (Avu:PySem.W.keepIn K (.ref AmO)=true)
    (Acd:PySem.W.nsIn K mainGlobals "ValueError" = some none)
    (Ayz:PySem.W.nsIn K mainGlobals "all" = some none)
    (Ay0:PySem.W.nsIn K mainGlobals "any" = some none)
    (Aek:PySem.W.nsIn K mainGlobals "enumerate" = some none)
    (Ay1:PySem.W.nsIn K mainGlobals "int" = some none)
    (Ace:PySem.W.nsIn K mainGlobals "isinstance" = some none)
    (Ay2:PySem.W.nsIn K mainGlobals "len" = some none)
    (Au0:PySem.W.nsIn K mainGlobals "list" = some none)
    (Arx:PySem.W.nsIn K mainGlobals "range" = some none)
    (AgU:PySem.W.nsIn K mainGlobals "reversed" = some none)
    (Ay3:PySem.W.nsIn K mainGlobals "str" = some none)
    (Ary:PySem.W.nsIn K mainGlobals "tuple" = some none)
    (Ay4:PySem.W.nsIn K mainGlobals "zip" = some none)
    (Akk:PySem.W.nsIn K mainGlobals "LETTERS" = some (some (.str "abcdefghijklmnopqrstuvwxyz" Aw0)))
    (XF:PySem.W.nsIn K mainGlobals "MOST_LETTERS" = some (some (.int 20 AnX)))
    (XH:PySem.W.nsIn K mainGlobals "MOST_STRANDS" = some (some (.int 40 AnY)))
    (Akl:PySem.W.nsIn K mainGlobals "FIGURES" = some (some (.str "0123456789" Aw1)))
    (Ael:PySem.W.nsIn K mainGlobals "MOST_DEEP" = some (some (.int 12 Atl)))
    (Aem:PySem.W.nsIn K mainGlobals "MOST_RUNS" = some (some (.int 40 Atm)))
    (Acf:PySem.W.nsIn K mainGlobals "WeaveError" = some (some (.ref BZ)))
    (AgV:PySem.W.nsIn K mainGlobals "TooLarge" = some (some (.ref Ay)))
    (Akm:PySem.W.nsIn K mainGlobals "NoCloth" = some (some (.ref Es)))
    (AgW:PySem.W.nsIn K mainGlobals "NoLaying" = some (some (.ref Dh)))
    (Akn:PySem.W.nsIn K mainGlobals "NoBlock" = some (some (.ref Et)))
    (Aen:PySem.W.nsIn K mainGlobals "NoPattern" = some (some (.ref Aj)))
    (Ako:PySem.W.nsIn K mainGlobals "Unknown" = some (some (.ref Bj)))
    (Aap:PySem.W.excIn K BZ vE vN=true)
    (Aaq:PySem.W.findIn K (.ref BZ) "__getattribute__" = some (some (.builtin "BaseException.__getattribute__")))
    (Aar:PySem.W.findIn K (.ref BZ) "__getattr__" = some none)
    (Aas:PySem.W.findIn K (.ref BZ) "__class__" = some (some (.builtin "object.__class__")))
    (Hr:PySem.W.specialIn K (.builtin "object.__class__") "__get__" = some (some (.builtin "getset_descriptor.__get__")))
    (Hs:PySem.W.takesIn K (.builtin "object.__class__")=some true)
    (Aat:PySem.W.mroIn K BZ (.type "object")=some true)
    (Aau:PySem.W.mroIn K BZ (.type "BaseException")=some true)
    (Aav:PySem.W.isClsIn K BZ=true)
    (XJ:PySem.W.typeIn K (.ref BZ)=some (.type "type"))
    (XM:PySem.W.mroIn K BZ (.type "ValueError")=some true)
    (Aeo:PySem.W.excIn K Ay vE vN=true)
    (Aep:PySem.W.findIn K (.ref Ay) "__getattribute__" = some (some (.builtin "BaseException.__getattribute__")))
    (Aeq:PySem.W.findIn K (.ref Ay) "__getattr__" = some none)
    (Aer:PySem.W.findIn K (.ref Ay) "__class__" = some (some (.builtin "object.__class__")))
    (Aes:PySem.W.mroIn K Ay (.type "object")=some true)
    (Aet:PySem.W.mroIn K Ay (.type "BaseException")=some true)
    (Aeu:PySem.W.isClsIn K Ay=true)
    (Acg:PySem.W.typeIn K (.ref Ay)=some (.type "type"))
    (Ach:PySem.W.mroIn K Ay (.type "ValueError")=some true)
    (GZ:PySem.W.mroIn K Ay (.ref BZ)=some true)
    (Fv:PySem.W.mroIn K Ay (.ref Ay)=some true)
    (KJ:PySem.W.mroIn K Ay (.ref Es)=some false)
    (JN:PySem.W.mroIn K Ay (.ref Dh)=some false)
    (KN:PySem.W.mroIn K Ay (.ref Et)=some false)
    (HB:PySem.W.mroIn K Ay (.ref Aj)=some false)
    (KQ:PySem.W.mroIn K Ay (.ref Bj)=some false)
    (AgX:PySem.W.excIn K Es vE vN=true)
    (AgY:PySem.W.findIn K (.ref Es) "__getattribute__" = some (some (.builtin "BaseException.__getattribute__")))
    (AgZ:PySem.W.findIn K (.ref Es) "__getattr__" = some none)
    (Aha:PySem.W.findIn K (.ref Es) "__class__" = some (some (.builtin "object.__class__")))
    (Ahb:PySem.W.mroIn K Es (.type "object")=some true)
    (Ahc:PySem.W.mroIn K Es (.type "BaseException")=some true)
    (Ahd:PySem.W.isClsIn K Es=true)
    (Aev:PySem.W.typeIn K (.ref Es)=some (.type "type"))
    (Aew:PySem.W.mroIn K Es (.type "ValueError")=some true)
    (Aex:PySem.W.excIn K Dh vE vN=true)
    (Aey:PySem.W.findIn K (.ref Dh) "__getattribute__" = some (some (.builtin "BaseException.__getattribute__")))
    (Aez:PySem.W.findIn K (.ref Dh) "__getattr__" = some none)
    (Ae0:PySem.W.findIn K (.ref Dh) "__class__" = some (some (.builtin "object.__class__")))
    (Ae1:PySem.W.mroIn K Dh (.type "object")=some true)
    (Ae2:PySem.W.mroIn K Dh (.type "BaseException")=some true)
    (Ae3:PySem.W.isClsIn K Dh=true)
    (Aci:PySem.W.typeIn K (.ref Dh)=some (.type "type"))
    (Acj:PySem.W.mroIn K Dh (.type "ValueError")=some true)
    (Ahe:PySem.W.excIn K Et vE vN=true)
    (Ahf:PySem.W.findIn K (.ref Et) "__getattribute__" = some (some (.builtin "BaseException.__getattribute__")))
    (Ahg:PySem.W.findIn K (.ref Et) "__getattr__" = some none)
    (Ahh:PySem.W.findIn K (.ref Et) "__class__" = some (some (.builtin "object.__class__")))
    (Ahi:PySem.W.mroIn K Et (.type "object")=some true)
    (Ahj:PySem.W.mroIn K Et (.type "BaseException")=some true)
    (Ahk:PySem.W.isClsIn K Et=true)
    (Ae4:PySem.W.typeIn K (.ref Et)=some (.type "type"))
    (Ae5:PySem.W.mroIn K Et (.type "ValueError")=some true)
    (Ack:PySem.W.excIn K Aj vE vN=true)
    (Acl:PySem.W.findIn K (.ref Aj) "__getattribute__" = some (some (.builtin "BaseException.__getattribute__")))
    (Acm:PySem.W.findIn K (.ref Aj) "__getattr__" = some none)
    (Acn:PySem.W.findIn K (.ref Aj) "__class__" = some (some (.builtin "object.__class__")))
    (Aco:PySem.W.mroIn K Aj (.type "object")=some true)
    (Acp:PySem.W.mroIn K Aj (.type "BaseException")=some true)
    (Acq:PySem.W.isClsIn K Aj=true)
    (Aaw:PySem.W.typeIn K (.ref Aj)=some (.type "type"))
    (Aax:PySem.W.mroIn K Aj (.type "ValueError")=some true)
    (G8:PySem.W.mroIn K Aj (.ref BZ)=some true)
    (J2:PySem.W.mroIn K Aj (.ref Ay)=some false)
    (JP:PySem.W.mroIn K Aj (.ref Es)=some false)
    (J3:PySem.W.mroIn K Aj (.ref Dh)=some false)
    (JQ:PySem.W.mroIn K Aj (.ref Et)=some false)
    (Em:PySem.W.mroIn K Aj (.ref Aj)=some true)
    (HX:PySem.W.mroIn K Aj (.ref Bj)=some false)
    (Ahl:PySem.W.excIn K Bj vE vN=true)
    (Ahm:PySem.W.findIn K (.ref Bj) "__getattribute__" = some (some (.builtin "BaseException.__getattribute__")))
    (Ahn:PySem.W.findIn K (.ref Bj) "__getattr__" = some none)
    (Aho:PySem.W.findIn K (.ref Bj) "__class__" = some (some (.builtin "object.__class__")))
    (Ahp:PySem.W.mroIn K Bj (.type "object")=some true)
    (Ahq:PySem.W.mroIn K Bj (.type "BaseException")=some true)
    (Ahr:PySem.W.isClsIn K Bj=true)
    (Ae6:PySem.W.typeIn K (.ref Bj)=some (.type "type"))
    (Ae7:PySem.W.mroIn K Bj (.type "ValueError")=some true)
    (HD:PySem.W.mroIn K Bj (.ref BZ)=some true)
    (KR:PySem.W.mroIn K Bj (.ref Ay)=some false)
    (Mz:PySem.W.mroIn K Bj (.ref Es)=some false)
    (KY:PySem.W.mroIn K Bj (.ref Dh)=some false)
    (M3:PySem.W.mroIn K Bj (.ref Et)=some false)
    (HY:PySem.W.mroIn K Bj (.ref Aj)=some false)
    (G9:PySem.W.mroIn K Bj (.ref Bj)=some true)
    (Arz:PySem.W.nsIn K mainGlobals "Piece" = some (some (.ref BP)))
    (Ar0:PySem.W.nsIn K mainGlobals "Named" = some (some (.ref Dl)))
    (Au1:PySem.W.nsIn K mainGlobals "Rows" = some (some (.ref FP)))
    (Ar1:PySem.W.nsIn K mainGlobals "Twill" = some (some (.ref Dm)))
    (Ar2:PySem.W.nsIn K mainGlobals "Satin" = some (some (.ref Dp)))
    (Aoh:PySem.W.nsIn K mainGlobals "Beside" = some (some (.ref Cv)))
    (Ar3:PySem.W.nsIn K mainGlobals "Above" = some (some (.ref Dv)))
    (Aoi:PySem.W.nsIn K mainGlobals "Mirror" = some (some (.ref Cw)))
    (Ar4:PySem.W.nsIn K mainGlobals "Upend" = some (some (.ref Dw)))
    (Au2:PySem.W.nsIn K mainGlobals "Back" = some (some (.ref Gh)))
    (Akp:PySem.W.nsIn K mainGlobals "Quarter" = some (some (.ref BR)))
    (Au3:PySem.W.nsIn K mainGlobals "Tile" = some (some (.ref FQ)))
    (Aoj:PySem.W.nsIn K mainGlobals "Blocks" = some (some (.ref Cr)))
    (Ay5:PySem.W.nsIn K mainGlobals "Lay" = some (some (.ref Je)))
    (Aok:PySem.W.nsIn K mainGlobals "Reader" = some (some (.ref Br)))
    (M5:PySem.W.findIn K (.ref BP) "__init__" = some (some (.ref Ba)))
    (M6:PySem.W.isFn K (.ref Ba)=true)
    (M7:K.lookup Ba=some ⟨AiP,AiN,.func (PySem.W.fnOf "__init__" "Piece.__init__" (Ai DY) (Ah DY) (Ab DY) .none Y0 Y4 Y5 Yz Sv Y6),AiO⟩)
    (M8:PySem.W.codeIn K Sv "Piece.__init__" = true)
    (HR:PySem.W.keepIn K (.ref Ba)=true)
    (Aay:PySem.W.findIn K (.ref BP) "wide" = some (some (.ref Av)))
    (Cy:PySem.W.isFn K (.ref Av)=true)
    (UG:K.lookup Av=some ⟨Ap3,Ap1,.func (PySem.W.fnOf "wide" "Piece.wide" (Ai Hk) (Ah Hk) (Ab Hk) .none AfT AfU AfV AfS Aae AfW),Ap2⟩)
    (UJ:PySem.W.codeIn K Aae "Piece.wide" = true)
    (Ce:PySem.W.keepIn K (.ref Av)=true)
    (Aaz:PySem.W.findIn K (.ref BP) "high" = some (some (.ref Aw)))
    (Cz:PySem.W.isFn K (.ref Aw)=true)
    (UL:K.lookup Aw=some ⟨Ap6,Ap4,.func (PySem.W.fnOf "high" "Piece.high" (Ai Hl) (Ah Hl) (Ab Hl) .none AfY AfZ Aga AfX Aaf Agb),Ap5⟩)
    (UT:PySem.W.codeIn K Aaf "Piece.high" = true)
    (Cg:PySem.W.keepIn K (.ref Aw)=true)
    (Aa0:PySem.W.findIn K (.ref BP) "sign" = some (some (.ref Be)))
    (CG:PySem.W.isFn K (.ref Be)=true)
    (UW:K.lookup Be=some ⟨Ap9,Ap7,.func (PySem.W.fnOf "sign" "Piece.sign" (Ai Ie) (Ah Ie) (Ab Ie) .none Agd Age Agf Agc Aag Agg),Ap8⟩)
    (Va:PySem.W.codeIn K Aag "Piece.sign" = true)
    (Ci:PySem.W.keepIn K (.ref Be)=true)
    (XN:PySem.W.findIn K (.ref BP) "cloth" = some (some (.ref Al)))
    (Cp:PySem.W.isFn K (.ref Al)=true)
    (Te:K.lookup Al=some ⟨Aob,AnZ,.func (PySem.W.fnOf "cloth" "Piece.cloth" (Ai Gv) (Ah Gv) (Ab Gv) .none AdU AdV AdW AdT Xh AdX),Aoa⟩)
    (Tf:PySem.W.codeIn K Xh "Piece.cloth" = true)
    (BL:PySem.W.keepIn K (.ref Al)=true)
    (Aa1:PySem.W.findIn K (.ref BP) "told" = some (some (.ref An)))
    (CJ:PySem.W.isFn K (.ref An)=true)
    (Vb:K.lookup An=some ⟨ApC,ApA,.func (PySem.W.fnOf "told" "Piece.told" (Ai Hm) (Ah Hm) (Ab Hm) .none Agi Agj Agk Agh Aah Agl),ApB⟩)
    (Vc:PySem.W.codeIn K Aah "Piece.told" = true)
    (Cj:PySem.W.keepIn K (.ref An)=true)
    (M9:PySem.W.findIn K (.ref Dl) "__init__" = some (some (.ref Ef)))
    (MF:PySem.W.isFn K (.ref Ef)=true)
    (MJ:K.lookup Ef=some ⟨AiS,AiQ,.func (PySem.W.fnOf "__init__" "Named.__init__" (Ai Ea) (Ah Ea) (Ab Ea) .none Y8 Y9 YB Y7 Sw YC),AiR⟩)
    (MK:PySem.W.codeIn K Sw "Named.__init__" = true)
    (J5:PySem.W.keepIn K (.ref Ef)=true)
    (Pj:PySem.W.findIn K (.ref FP) "__init__" = some (some (.ref Fd)))
    (Pk:PySem.W.isFn K (.ref Fd)=true)
    (Pn:K.lookup Fd=some ⟨AjV,AjT,.func (PySem.W.fnOf "__init__" "Rows.__init__" (Ai DQ) (Ah DQ) (Ab DQ) .none AaX AaY AaZ AaW TJ Aba),AjU⟩)
    (Pq:PySem.W.codeIn K TJ "Rows.__init__" = true)
    (Kq:PySem.W.keepIn K (.ref Fd)=true)
    (MN:PySem.W.findIn K (.ref Dm) "__init__" = some (some (.ref Eg)))
    (MP:PySem.W.isFn K (.ref Eg)=true)
    (MT:K.lookup Eg=some ⟨AiV,AiT,.func (PySem.W.fnOf "__init__" "Twill.__init__" (Ai Dg) (Ah Dg) (Ab Dg) .none YF YG YH YD Sx YJ),AiU⟩)
    (Nb:PySem.W.codeIn K Sx "Twill.__init__" = true)
    (J7:PySem.W.keepIn K (.ref Eg)=true)
    (Nf:PySem.W.findIn K (.ref Dp) "__init__" = some (some (.ref Eh)))
    (Ng:PySem.W.isFn K (.ref Eh)=true)
    (Nh:K.lookup Eh=some ⟨AiY,AiW,.func (PySem.W.fnOf "__init__" "Satin.__init__" (Ai CK) (Ah CK) (Ab CK) .none YL YM YQ YK Sy YS),AiX⟩)
    (Ni:PySem.W.codeIn K Sy "Satin.__init__" = true)
    (J8:PySem.W.keepIn K (.ref Eh)=true)
    (KZ:PySem.W.findIn K (.ref Cv) "__init__" = some (some (.ref Dq)))
    (La:PySem.W.isFn K (.ref Dq)=true)
    (Lb:K.lookup Dq=some ⟨AgF,AgD,.func (PySem.W.fnOf "__init__" "Beside.__init__" (Ai CQ) (Ah CQ) (Ab CQ) .none Xj Xk Xl Xi Rk Xm),AgE⟩)
    (Ld:PySem.W.codeIn K Rk "Beside.__init__" = true)
    (Jh:PySem.W.keepIn K (.ref Dq)=true)
    (Nj:PySem.W.findIn K (.ref Dv) "__init__" = some (some (.ref Ei)))
    (Nk:PySem.W.isFn K (.ref Ei)=true)
    (Nm:K.lookup Ei=some ⟨Ajb,AiZ,.func (PySem.W.fnOf "__init__" "Above.__init__" (Ai Eb) (Ah Eb) (Ab Eb) .none YW YZ Za YT S5 Zb),Aja⟩)
    (Np:PySem.W.codeIn K S5 "Above.__init__" = true)
    (J9:PySem.W.keepIn K (.ref Ei)=true)
    (Le:PySem.W.findIn K (.ref Cw) "__init__" = some (some (.ref Dr)))
    (Lf:PySem.W.isFn K (.ref Dr)=true)
    (Lg:K.lookup Dr=some ⟨AgI,AgG,.func (PySem.W.fnOf "__init__" "Mirror.__init__" (Ai CT) (Ah CT) (Ab CT) .none Xo Xp Xq Xn Rm Xr),AgH⟩)
    (Lh:PySem.W.codeIn K Rm "Mirror.__init__" = true)
    (Ji:PySem.W.keepIn K (.ref Dr)=true)
    (Nq:PySem.W.findIn K (.ref Dw) "__init__" = some (some (.ref Ej)))
    (Nr:PySem.W.isFn K (.ref Ej)=true)
    (Nt:K.lookup Ej=some ⟨Aje,Ajc,.func (PySem.W.fnOf "__init__" "Upend.__init__" (Ai Ec) (Ah Ec) (Ab Ec) .none Zd Ze Zf Zc S6 Zg),Ajd⟩)
    (Nu:PySem.W.codeIn K S6 "Upend.__init__" = true)
    (JB:PySem.W.keepIn K (.ref Ej)=true)
    (Pr:PySem.W.findIn K (.ref Gh) "__init__" = some (some (.ref Fe)))
    (Pu:PySem.W.isFn K (.ref Fe)=true)
    (Px:K.lookup Fe=some ⟨AjY,AjW,.func (PySem.W.fnOf "__init__" "Back.__init__" (Ai Ey) (Ah Ey) (Ab Ey) .none Abd Abe Abf Abb TQ Abg),AjX⟩)
    (Py:PySem.W.codeIn K TQ "Back.__init__" = true)
    (Kr:PySem.W.keepIn K (.ref Fe)=true)
    (JR:PySem.W.findIn K (.ref BR) "__init__" = some (some (.ref CZ)))
    (JS:PySem.W.isFn K (.ref CZ)=true)
    (JT:K.lookup CZ=some ⟨Afn,Afl,.func (PySem.W.fnOf "__init__" "Quarter.__init__" (Ai CW) (Ah CW) (Ab CW) .none VF VG VH VD Qc VJ),Afm⟩)
    (JV:PySem.W.codeIn K Qc "Quarter.__init__" = true)
    (Ib:PySem.W.keepIn K (.ref CZ)=true)
    (Pz:PySem.W.findIn K (.ref FQ) "__init__" = some (some (.ref Ff)))
    (P0:PySem.W.isFn K (.ref Ff)=true)
    (PB:K.lookup Ff=some ⟨Akb,AjZ,.func (PySem.W.fnOf "__init__" "Tile.__init__" (Ai Ez) (Ah Ez) (Ab Ez) .none Abi Abj Abk Abh TV Abl),Aka⟩)
    (PJ:PySem.W.codeIn K TV "Tile.__init__" = true)
    (Ks:PySem.W.keepIn K (.ref Ff)=true)
    (Li:PySem.W.findIn K (.ref Cr) "__init__" = some (some (.ref Dt)))
    (Lj:PySem.W.isFn K (.ref Dt)=true)
    (Lk:K.lookup Dt=some ⟨AgL,AgJ,.func (PySem.W.fnOf "__init__" "Blocks.__init__" (Ai Dj) (Ah Dj) (Ab Dj) .none Xv Xw Xx Xu Rn Xy),AgK⟩)
    (Ln:PySem.W.codeIn K Rn "Blocks.__init__" = true)
    (Jj:PySem.W.keepIn K (.ref Dt)=true)
    (QQ:PySem.W.findIn K (.ref Je) "__init__" = some (some (.ref FT)))
    (QR:PySem.W.isFn K (.ref FT)=true)
    (QS:K.lookup FT=some ⟨AlV,AlT,.func (PySem.W.fnOf "__init__" "Lay.__init__" (Ai FJ) (Ah FJ) (Ab FJ) .none AcH AcI AcJ AcG V0 AcK),AlU⟩)
    (QT:PySem.W.codeIn K V0 "Lay.__init__" = true)
    (Ma:PySem.W.keepIn K (.ref FT)=true)
    (Lp:PySem.W.findIn K (.ref Br) "__init__" = some (some (.ref Du)))
    (Lq:PySem.W.isFn K (.ref Du)=true)
    (Lr:K.lookup Du=some ⟨AgO,AgM,.func (PySem.W.fnOf "__init__" "Reader.__init__" (Ai Dk) (Ah Dk) (Ab Dk) .none X3 X4 X5 Xz Ro X6),AgN⟩)
    (Ls:PySem.W.codeIn K Ro "Reader.__init__" = true)
    (Jk:PySem.W.keepIn K (.ref Du)=true)
    (V6:PySem.W.findIn K (.ref Br) "ended" = some (some (.ref FW)))
    (V7:PySem.W.isFn K (.ref FW)=true)
    (QV:K.lookup FW=some ⟨AlY,AlW,.func (PySem.W.fnOf "ended" "Reader.ended" (Ai FN) (Ah FN) (Ab FN) .none AcM AcN AcO AcL V1 AcP),AlX⟩)
    (QW:PySem.W.codeIn K V1 "Reader.ended" = true)
    (Mg:PySem.W.keepIn K (.ref FW)=true)
    (XQ:PySem.W.findIn K (.ref Br) "took" = some (some (.ref Fg)))
    (XR:PySem.W.isFn K (.ref Fg)=true)
    (Tg:K.lookup Fg=some ⟨Aoe,Aoc,.func (PySem.W.fnOf "took" "Reader.took" (Ai Gw) (Ah Gw) (Ab Gw) .none AdZ Aea Aeb AdY X7 Aec),Aod⟩)
    (Th:PySem.W.codeIn K X7 "Reader.took" = true)
    (Ov:PySem.W.keepIn K (.ref Fg)=true)
    (Ti:PySem.W.findIn K (.ref Br) "stretch" = some (some (.ref BJ)))
    (Tj:PySem.W.isFn K (.ref BJ)=true)
    (Nv:K.lookup BJ=some ⟨Ajh,Ajf,.func (PySem.W.fnOf "stretch" "Reader.stretch" (Ai Ed) (Ah Ed) (Ab Ed) .none Zi Zj Zk Zh S7 Zm),Ajg⟩)
    (Nx:PySem.W.codeIn K S7 "Reader.stretch" = true)
    (JC:PySem.W.keepIn K (.ref BJ)=true)
    (Ub:PySem.W.findIn K (.ref Br) "number" = some (some (.ref Gd)))
    (Uc:PySem.W.isFn K (.ref Gd)=true)
    (PL:K.lookup Gd=some ⟨Ake,Akc,.func (PySem.W.fnOf "number" "Reader.number" (Ai EY) (Ah EY) (Ab EY) .none Abn Abo Abp Abm TX Abq),Akd⟩)
    (PN:PySem.W.codeIn K TX "Reader.number" = true)
    (Ku:PySem.W.keepIn K (.ref Gd)=true)
    (Qe:PySem.W.findIn K (.ref Dl) "wide" = some (some (.ref Av)))
    (Qf:PySem.W.findIn K (.ref Dl) "high" = some (some (.ref Aw)))
    (Qg:PySem.W.findIn K (.ref Dl) "sign" = some (some (.ref Be)))
    (NK:PySem.W.findIn K (.ref Dl) "cloth" = some (some (.ref Al)))
    (Qh:PySem.W.findIn K (.ref Dl) "told" = some (some (.ref An)))
    (RG:PySem.W.findIn K (.ref FP) "wide" = some (some (.ref Av)))
    (RJ:PySem.W.findIn K (.ref FP) "high" = some (some (.ref Aw)))
    (RK:PySem.W.findIn K (.ref FP) "sign" = some (some (.ref Be)))
    (Qi:PySem.W.findIn K (.ref FP) "cloth" = some (some (.ref Al)))
    (RL:PySem.W.findIn K (.ref FP) "told" = some (some (.ref An)))
    (Qj:PySem.W.findIn K (.ref Dm) "wide" = some (some (.ref Av)))
    (Qk:PySem.W.findIn K (.ref Dm) "high" = some (some (.ref Aw)))
    (Ql:PySem.W.findIn K (.ref Dm) "sign" = some (some (.ref Be)))
    (NP:PySem.W.findIn K (.ref Dm) "cloth" = some (some (.ref Al)))
    (Qm:PySem.W.findIn K (.ref Dm) "told" = some (some (.ref An)))
    (Qn:PySem.W.findIn K (.ref Dp) "wide" = some (some (.ref Av)))
    (Qo:PySem.W.findIn K (.ref Dp) "high" = some (some (.ref Aw)))
    (Qp:PySem.W.findIn K (.ref Dp) "sign" = some (some (.ref Be)))
    (NQ:PySem.W.findIn K (.ref Dp) "cloth" = some (some (.ref Al)))
    (Qq:PySem.W.findIn K (.ref Dp) "told" = some (some (.ref An)))
    (NT:PySem.W.findIn K (.ref Cv) "wide" = some (some (.ref Av)))
    (NZ:PySem.W.findIn K (.ref Cv) "high" = some (some (.ref Aw)))
    (Oa:PySem.W.findIn K (.ref Cv) "sign" = some (some (.ref Be)))
    (Lx:PySem.W.findIn K (.ref Cv) "cloth" = some (some (.ref Al)))
    (Ob:PySem.W.findIn K (.ref Cv) "told" = some (some (.ref An)))
    (Qs:PySem.W.findIn K (.ref Dv) "wide" = some (some (.ref Av)))
    (Qt:PySem.W.findIn K (.ref Dv) "high" = some (some (.ref Aw)))
    (Qu:PySem.W.findIn K (.ref Dv) "sign" = some (some (.ref Be)))
    (Od:PySem.W.findIn K (.ref Dv) "cloth" = some (some (.ref Al)))
    (Qv:PySem.W.findIn K (.ref Dv) "told" = some (some (.ref An)))
    (Oe:PySem.W.findIn K (.ref Cw) "wide" = some (some (.ref Av)))
    (Og:PySem.W.findIn K (.ref Cw) "high" = some (some (.ref Aw)))
    (Oh:PySem.W.findIn K (.ref Cw) "sign" = some (some (.ref Be)))
    (Ly:PySem.W.findIn K (.ref Cw) "cloth" = some (some (.ref Al)))
    (Oj:PySem.W.findIn K (.ref Cw) "told" = some (some (.ref An)))
    (Qw:PySem.W.findIn K (.ref Dw) "wide" = some (some (.ref Av)))
    (Qx:PySem.W.findIn K (.ref Dw) "high" = some (some (.ref Aw)))
    (Qy:PySem.W.findIn K (.ref Dw) "sign" = some (some (.ref Be)))
    (Ol:PySem.W.findIn K (.ref Dw) "cloth" = some (some (.ref Al)))
    (Qz:PySem.W.findIn K (.ref Dw) "told" = some (some (.ref An)))
    (RM:PySem.W.findIn K (.ref Gh) "wide" = some (some (.ref Av)))
    (RN:PySem.W.findIn K (.ref Gh) "high" = some (some (.ref Aw)))
    (RP:PySem.W.findIn K (.ref Gh) "sign" = some (some (.ref Be)))
    (Q0:PySem.W.findIn K (.ref Gh) "cloth" = some (some (.ref Al)))
    (RQ:PySem.W.findIn K (.ref Gh) "told" = some (some (.ref An)))
    (Lz:PySem.W.findIn K (.ref BR) "wide" = some (some (.ref Av)))
    (LC:PySem.W.findIn K (.ref BR) "high" = some (some (.ref Aw)))
    (LK:PySem.W.findIn K (.ref BR) "sign" = some (some (.ref Be)))
    (Kh:PySem.W.findIn K (.ref BR) "cloth" = some (some (.ref Al)))
    (LQ:PySem.W.findIn K (.ref BR) "told" = some (some (.ref An)))
    (RT:PySem.W.findIn K (.ref FQ) "wide" = some (some (.ref Av)))
    (RW:PySem.W.findIn K (.ref FQ) "high" = some (some (.ref Aw)))
    (RX:PySem.W.findIn K (.ref FQ) "sign" = some (some (.ref Be)))
    (Q3:PySem.W.findIn K (.ref FQ) "cloth" = some (some (.ref Al)))
    (RZ:PySem.W.findIn K (.ref FQ) "told" = some (some (.ref An)))
    (Om:PySem.W.findIn K (.ref Cr) "wide" = some (some (.ref Av)))
    (Oo:PySem.W.findIn K (.ref Cr) "high" = some (some (.ref Aw)))
    (Oq:PySem.W.findIn K (.ref Cr) "sign" = some (some (.ref Be)))
    (LR:PySem.W.findIn K (.ref Cr) "cloth" = some (some (.ref Al)))
    (Ot:PySem.W.findIn K (.ref Cr) "told" = some (some (.ref An)))
    (Ve:PySem.W.findIn K (.ref Je) "wide" = some (some (.ref Av)))
    (Vf:PySem.W.findIn K (.ref Je) "high" = some (some (.ref Aw)))
    (Vg:PySem.W.findIn K (.ref Je) "sign" = some (some (.ref Be)))
    (Sh:PySem.W.findIn K (.ref Je) "cloth" = some (some (.ref Al)))
    (Vh:PySem.W.findIn K (.ref Je) "told" = some (some (.ref An)))
    (Akq:PySem.W.readsIn K BP (.type "type")=true)
    (Akr:PySem.W.findCls K (.ref BP) (.type "type") "__init__" = some (.val (.ref Ba)))
    (Aks:PySem.W.handedIn (.ref Ba)=true)
    (Akt:PySem.W.specialIn K (.ref BP) "__getattribute__" = some (some (.builtin "type.__getattribute__")))
    (Aku:PySem.W.nsIn K mainGlobals "WORDS" = some (some (.ref Aby)))
    (Akv:K.lookup Aby=some Aof)
    (Akw:Aof.cls=.type "tuple")
    (Akx:Aof.data=.seq Aog Ayy)
    (Aky:Aog.size≤sizeLine)
    (Akz:Vals ((["rows", "twill", "satin", "beside", "above", "mirror", "upend", "back", "quarter", "tile", "blocks", "lay"]:List Str).map V.str) Aog.toList)
    (Ahs:PySem.W.nsIn K mainGlobals "THINGS" = some (some (.ref Vd)))
    (Aht:PyProof.Rows.KTD.tabLook (PyProof.Rows.KTD.datLooks fun b=>K.lookup b) (fun b=>K.lookup b) Vd (([("twill", "nn"),("satin", "nn"),("beside", "pp"),("above", "pp"),("mirror", "p"),("upend", "p"),("back", "p"),("quarter", "p"),("tile", "pnn"),("blocks", "ppp"),("lay", "pp")]:List (Str × Str)).map fun p=>(p.1,PyProof.Rows.KTD.Dat.flat (.str p.2)))=true)
    (Aol:PySem.W.plainGet K BP Str.empty=true)
    (Aom:PySem.W.hasDictIn K BP=true)
    (Aon:PySem.W.plainOver K BP=true)
    (Aoo:PySem.W.findIn K (.ref BP) "__setattr__" = some (some (.builtin "object.__setattr__")))
    (Aop:PySem.W.makesIn K BP=true)
    (Aoq:PySem.W.keepIn K (.ref BP)=true)
    (RD:PySem.W.findIn K (.ref BP) "texts" = some none)
    (O6:PySem.W.findIn K (.ref BP) "writing" = some none)
    (Aor:PySem.W.plainGet K Dl Str.empty=true)
    (Aos:PySem.W.hasDictIn K Dl=true)
    (Aot:PySem.W.plainOver K Dl=true)
    (Aou:PySem.W.findIn K (.ref Dl) "__setattr__" = some (some (.builtin "object.__setattr__")))
    (Aov:PySem.W.makesIn K Dl=true)
    (Aow:PySem.W.keepIn K (.ref Dl)=true)
    (Kc:PySem.W.findIn K (.ref Dl) "texts" = some none)
    (Iz:PySem.W.findIn K (.ref Dl) "writing" = some none)
    (Ar5:PySem.W.plainGet K FP Str.empty=true)
    (Ar6:PySem.W.hasDictIn K FP=true)
    (Ar7:PySem.W.plainOver K FP=true)
    (Ar8:PySem.W.findIn K (.ref FP) "__setattr__" = some (some (.builtin "object.__setattr__")))
    (Ar9:PySem.W.makesIn K FP=true)
    (ArA:PySem.W.keepIn K (.ref FP)=true)
    (Mm:PySem.W.findIn K (.ref FP) "texts" = some none)
    (Jp:PySem.W.findIn K (.ref FP) "writing" = some none)
    (Aox:PySem.W.plainGet K Dm Str.empty=true)
    (Aoy:PySem.W.hasDictIn K Dm=true)
    (Aoz:PySem.W.plainOver K Dm=true)
    (Ao0:PySem.W.findIn K (.ref Dm) "__setattr__" = some (some (.builtin "object.__setattr__")))
    (Ao1:PySem.W.makesIn K Dm=true)
    (Ao2:PySem.W.keepIn K (.ref Dm)=true)
    (Kd:PySem.W.findIn K (.ref Dm) "texts" = some none)
    (IK:PySem.W.findIn K (.ref Dm) "writing" = some none)
    (Ao3:PySem.W.plainGet K Dp Str.empty=true)
    (Ao4:PySem.W.hasDictIn K Dp=true)
    (Ao5:PySem.W.plainOver K Dp=true)
    (Ao6:PySem.W.findIn K (.ref Dp) "__setattr__" = some (some (.builtin "object.__setattr__")))
    (Ao7:PySem.W.makesIn K Dp=true)
    (Ao8:PySem.W.keepIn K (.ref Dp)=true)
    (Ke:PySem.W.findIn K (.ref Dp) "texts" = some none)
    (IV:PySem.W.findIn K (.ref Dp) "writing" = some none)
    (Ak0:PySem.W.plainGet K Cv Str.empty=true)
    (Ak1:PySem.W.hasDictIn K Cv=true)
    (Ak2:PySem.W.plainOver K Cv=true)
    (Ak3:PySem.W.findIn K (.ref Cv) "__setattr__" = some (some (.builtin "object.__setattr__")))
    (Ak4:PySem.W.makesIn K Cv=true)
    (Ak5:PySem.W.keepIn K (.ref Cv)=true)
    (Jq:PySem.W.findIn K (.ref Cv) "texts" = some none)
    (HJ:PySem.W.findIn K (.ref Cv) "writing" = some none)
    (Ao9:PySem.W.plainGet K Dv Str.empty=true)
    (AoA:PySem.W.hasDictIn K Dv=true)
    (AoB:PySem.W.plainOver K Dv=true)
    (AoC:PySem.W.findIn K (.ref Dv) "__setattr__" = some (some (.builtin "object.__setattr__")))
    (AoD:PySem.W.makesIn K Dv=true)
    (AoE:PySem.W.keepIn K (.ref Dv)=true)
    (Kf:PySem.W.findIn K (.ref Dv) "texts" = some none)
    (IW:PySem.W.findIn K (.ref Dv) "writing" = some none)
    (Ak6:PySem.W.plainGet K Cw Str.empty=true)
    (Ak7:PySem.W.hasDictIn K Cw=true)
    (Ak8:PySem.W.plainOver K Cw=true)
    (Ak9:PySem.W.findIn K (.ref Cw) "__setattr__" = some (some (.builtin "object.__setattr__")))
    (AkA:PySem.W.makesIn K Cw=true)
    (AkB:PySem.W.keepIn K (.ref Cw)=true)
    (Jr:PySem.W.findIn K (.ref Cw) "texts" = some none)
    (HN:PySem.W.findIn K (.ref Cw) "writing" = some none)
    (AoF:PySem.W.plainGet K Dw Str.empty=true)
    (AoG:PySem.W.hasDictIn K Dw=true)
    (AoH:PySem.W.plainOver K Dw=true)
    (AoI:PySem.W.findIn K (.ref Dw) "__setattr__" = some (some (.builtin "object.__setattr__")))
    (AoJ:PySem.W.makesIn K Dw=true)
    (AoK:PySem.W.keepIn K (.ref Dw)=true)
    (Kg:PySem.W.findIn K (.ref Dw) "texts" = some none)
    (Ja:PySem.W.findIn K (.ref Dw) "writing" = some none)
    (ArB:PySem.W.plainGet K Gh Str.empty=true)
    (ArC:PySem.W.hasDictIn K Gh=true)
    (ArD:PySem.W.plainOver K Gh=true)
    (ArE:PySem.W.findIn K (.ref Gh) "__setattr__" = some (some (.builtin "object.__setattr__")))
    (ArF:PySem.W.makesIn K Gh=true)
    (ArG:PySem.W.keepIn K (.ref Gh)=true)
    (Mp:PySem.W.findIn K (.ref Gh) "texts" = some none)
    (Js:PySem.W.findIn K (.ref Gh) "writing" = some none)
    (Ahu:PySem.W.plainGet K BR Str.empty=true)
    (Ahv:PySem.W.hasDictIn K BR=true)
    (Ahw:PySem.W.plainOver K BR=true)
    (Ahx:PySem.W.findIn K (.ref BR) "__setattr__" = some (some (.builtin "object.__setattr__")))
    (Ahy:PySem.W.makesIn K BR=true)
    (Ahz:PySem.W.keepIn K (.ref BR)=true)
    (Jb:PySem.W.findIn K (.ref BR) "texts" = some none)
    (Hc:PySem.W.findIn K (.ref BR) "writing" = some none)
    (ArH:PySem.W.plainGet K FQ Str.empty=true)
    (ArI:PySem.W.hasDictIn K FQ=true)
    (ArJ:PySem.W.plainOver K FQ=true)
    (ArK:PySem.W.findIn K (.ref FQ) "__setattr__" = some (some (.builtin "object.__setattr__")))
    (ArL:PySem.W.makesIn K FQ=true)
    (ArM:PySem.W.keepIn K (.ref FQ)=true)
    (Mq:PySem.W.findIn K (.ref FQ) "texts" = some none)
    (Jt:PySem.W.findIn K (.ref FQ) "writing" = some none)
    (AkC:PySem.W.plainGet K Cr Str.empty=true)
    (AkD:PySem.W.hasDictIn K Cr=true)
    (AkE:PySem.W.plainOver K Cr=true)
    (AkF:PySem.W.findIn K (.ref Cr) "__setattr__" = some (some (.builtin "object.__setattr__")))
    (AkG:PySem.W.makesIn K Cr=true)
    (AkH:PySem.W.keepIn K (.ref Cr)=true)
    (Ju:PySem.W.findIn K (.ref Cr) "texts" = some none)
    (HQ:PySem.W.findIn K (.ref Cr) "writing" = some none)
    (Au4:PySem.W.plainGet K Je Str.empty=true)
    (Au5:PySem.W.hasDictIn K Je=true)
    (Au6:PySem.W.plainOver K Je=true)
    (Au7:PySem.W.findIn K (.ref Je) "__setattr__" = some (some (.builtin "object.__setattr__")))
    (Au8:PySem.W.makesIn K Je=true)
    (Au9:PySem.W.keepIn K (.ref Je)=true)
    (O7:PySem.W.findIn K (.ref Je) "texts" = some none)
    (Kl:PySem.W.findIn K (.ref Je) "writing" = some none)
    (AkI:PySem.W.plainGet K Br Str.empty=true)
    (AkJ:PySem.W.hasDictIn K Br=true)
    (AkK:PySem.W.plainOver K Br=true)
    (AkL:PySem.W.findIn K (.ref Br) "__setattr__" = some (some (.builtin "object.__setattr__")))
    (AkM:PySem.W.makesIn K Br=true)
    (AkN:PySem.W.keepIn K (.ref Br)=true)
    (FZ:PySem.W.findIn K (.ref Br) "text" = some none)
    (Cu:PySem.W.findIn K (.ref Br) "place" = some none) :
    ∃ fd:FuncData,(∀(s:Shared) (v:Value),BindsTo s fd ⟨[v],[]⟩ [("script", v)])∧∀ base:Heap,K.In base→base.Ns mainGlobals mg→Aq P w K mg base CX0 35 fa fd ["script"] (AqX K):=by
  have T:Txt K mg ⟨BP,Dl,FP,Dm,Dp,Cv,Dv,Cw,Dw,Gh,BR,FQ,Cr,Je,Br,Vd,Aby,Ba,PySem.W.fnOf "__init__" "Piece.__init__" (Ai DY) (Ah DY) (Ab DY) .none Y0 Y4 Y5 Yz Sv Y6,Av,PySem.W.fnOf "wide" "Piece.wide" (Ai Hk) (Ah Hk) (Ab Hk) .none AfT AfU AfV AfS Aae AfW,Aw,PySem.W.fnOf "high" "Piece.high" (Ai Hl) (Ah Hl) (Ab Hl) .none AfY AfZ Aga AfX Aaf Agb,Be,PySem.W.fnOf "sign" "Piece.sign" (Ai Ie) (Ah Ie) (Ab Ie) .none Agd Age Agf Agc Aag Agg,Al,PySem.W.fnOf "cloth" "Piece.cloth" (Ai Gv) (Ah Gv) (Ab Gv) .none AdU AdV AdW AdT Xh AdX,An,PySem.W.fnOf "told" "Piece.told" (Ai Hm) (Ah Hm) (Ab Hm) .none Agi Agj Agk Agh Aah Agl,Ef,PySem.W.fnOf "__init__" "Named.__init__" (Ai Ea) (Ah Ea) (Ab Ea) .none Y8 Y9 YB Y7 Sw YC,Fd,PySem.W.fnOf "__init__" "Rows.__init__" (Ai DQ) (Ah DQ) (Ab DQ) .none AaX AaY AaZ AaW TJ Aba,Eg,PySem.W.fnOf "__init__" "Twill.__init__" (Ai Dg) (Ah Dg) (Ab Dg) .none YF YG YH YD Sx YJ,Eh,PySem.W.fnOf "__init__" "Satin.__init__" (Ai CK) (Ah CK) (Ab CK) .none YL YM YQ YK Sy YS,Dq,PySem.W.fnOf "__init__" "Beside.__init__" (Ai CQ) (Ah CQ) (Ab CQ) .none Xj Xk Xl Xi Rk Xm,Ei,PySem.W.fnOf "__init__" "Above.__init__" (Ai Eb) (Ah Eb) (Ab Eb) .none YW YZ Za YT S5 Zb,Dr,PySem.W.fnOf "__init__" "Mirror.__init__" (Ai CT) (Ah CT) (Ab CT) .none Xo Xp Xq Xn Rm Xr,Ej,PySem.W.fnOf "__init__" "Upend.__init__" (Ai Ec) (Ah Ec) (Ab Ec) .none Zd Ze Zf Zc S6 Zg,Fe,PySem.W.fnOf "__init__" "Back.__init__" (Ai Ey) (Ah Ey) (Ab Ey) .none Abd Abe Abf Abb TQ Abg,CZ,PySem.W.fnOf "__init__" "Quarter.__init__" (Ai CW) (Ah CW) (Ab CW) .none VF VG VH VD Qc VJ,Ff,PySem.W.fnOf "__init__" "Tile.__init__" (Ai Ez) (Ah Ez) (Ab Ez) .none Abi Abj Abk Abh TV Abl,Dt,PySem.W.fnOf "__init__" "Blocks.__init__" (Ai Dj) (Ah Dj) (Ab Dj) .none Xv Xw Xx Xu Rn Xy,FT,PySem.W.fnOf "__init__" "Lay.__init__" (Ai FJ) (Ah FJ) (Ab FJ) .none AcH AcI AcJ AcG V0 AcK,Du,PySem.W.fnOf "__init__" "Reader.__init__" (Ai Dk) (Ah Dk) (Ab Dk) .none X3 X4 X5 Xz Ro X6,FW,PySem.W.fnOf "ended" "Reader.ended" (Ai FN) (Ah FN) (Ab FN) .none AcM AcN AcO AcL V1 AcP,Fg,PySem.W.fnOf "took" "Reader.took" (Ai Gw) (Ah Gw) (Ab Gw) .none AdZ Aea Aeb AdY X7 Aec,BJ,PySem.W.fnOf "stretch" "Reader.stretch" (Ai Ed) (Ah Ed) (Ab Ed) .none Zi Zj Zk Zh S7 Zm,Gd,PySem.W.fnOf "number" "Reader.number" (Ai EY) (Ah EY) (Ab EY) .none Abn Abo Abp Abm TX Abq,O3,PySem.W.fnOf "is_name" "is_name" (Ai JZ) (Ah JZ) (Ab JZ) .none Anm Ann Ano Anl Ag8 Anp,HS,PySem.W.fnOf "measured" "measured" (Ai JF) (Ah JF) (Ab JF) .none Ala Alb Alc AkZ Ado Ald,Rp,PySem.W.fnOf "back_of" "back_of" (Ai Ka) (Ah Ka) (Ab Ka) .none Anr Ans Ant Anq Ag9 Anu,Jx,PySem.W.fnOf "quarter_of" "quarter_of" (Ai G4) (Ah G4) (Ab G4) .none Afz Af0 Af1 Afy ZX Af2,Gj,PySem.W.fnOf "measured_texts" "measured_texts" (Ai DR) (Ah DR) (Ab DR) .none Yq Yr Ys Yp Ss Yt,Jy,PySem.W.fnOf "check_pick" "check_pick" (Ai Hf) (Ah Hf) (Ab Hf) .none Af4 Af5 Af6 Af3 ZZ Af7,Kw,PySem.W.fnOf "end_signs" "end_signs" (Ai Hw) (Ah Hw) (Ab Hw) .none Aim Ain Aio Ail AbA Aip,G6,PySem.W.fnOf "turned_signs" "turned_signs" (Ai Ew) (Ah Ew) (Ab Ew) .none Ac2 Ac3 Ac4 Ac1 Vx Ac5,GK,PySem.W.fnOf "filled_blocks" "filled_blocks" (Ai DK) (Ah DK) (Ab DK) .none AaD AaE AaF AaC T5 AaG,Ky,PySem.W.fnOf "unit_size" "unit_size" (Ai Ih) (Ah Ih) (Ab Ih) .none Air Ais Ait Aiq AbB Aiu,Yd,PySem.W.fnOf "tiled" "tiled" (Ai R0) (Ah R0) (Ab R0) .none AsV AsW AsX AsU Anv AsY,GP,PySem.W.fnOf "laid_together" "laid_together" (Ai DN) (Ah DN) (Ab DN) .none AaI AaJ AaK AaH T7 AaL,Hx,PySem.W.fnOf "check_owners" "check_owners" (Ai Fy) (Ah Fy) (Ab Fy) .none Ac7 Ac8 Ac9 Ac6 Vy AcA,Io,PySem.W.fnOf "check_piece" "check_piece" (Ai Gm) (Ah Gm) (Ab Gm) .none Adq Ads Adt Adp Xa Adu,GQ,PySem.W.fnOf "places_within" "places_within" (Ai DP) (Ah DP) (Ab DP) .none AaN AaO AaP AaM T9 AaQ,Rq,PySem.W.fnOf "sign_at" "sign_at" (Ai Mh) (Ah Mh) (Ab Mh) .none An1 An2 An3 An0 AgA An4,Fj,PySem.W.fnOf "check_size" "check_size" (Ai Hg) (Ah Hg) (Ab Hg) .none Af9 AfA AfB Af8 Aaa AfC,Fl,PySem.W.fnOf "check_one_size" "check_one_size" (Ai DX) (Ah DX) (Ab DX) .none Yv Yw Yx Yu Su Yy,N5,PySem.W.fnOf "prime_to" "prime_to" (Ai Jd) (Ah Jd) (Ab Jd) .none Alf Alh Ali Ale Adv Alj,Fo,PySem.W.fnOf "written" "written" (Ai Mi) (Ah Mi) (Ab Mi) .none An6 An7 An8 An5 AgB An9,Kz,PySem.W.fnOf "number_of" "number_of" (Ai Ii) (Ah Ii) (Ab Ii) .none Aiz Ai0 Ai1 Aiy AbC Ai2,Hy,PySem.W.fnOf "read_pattern" "read_pattern" (Ai Fz) (Ah Fz) (Ab Fz) .none AcC AcD AcE AcB Vz AcF,J0,PySem.W.fnOf "read_whole" "read_whole" (Ai Hh) (Ah Hh) (Ab Hh) .none AfE AfF AfG AfD Aab AfH,Hz,PySem.W.fnOf "read_node" "read_node" (Ai Ij) (Ah Ij) (Ab Ij) .none Ai4 Ai5 Ai6 Ai3 AbD Ai7,Hn,PySem.W.fnOf "read_things" "read_things" (Ai Gn) (Ah Gn) (Ab Gn) .none Adx Ady Adz Adw Xb Ad0,K1,PySem.W.fnOf "read_runs" "read_runs" (Ai Ik) (Ah Ik) (Ab Ik) .none Ai9 AiA AiB Ai8 AbE AiC,N6,PySem.W.fnOf "read_run" "read_run" (Ai JG) (Ah JG) (Ab JG) .none Alm Aln Alo Alk Ad1 Alp,Ip,PySem.W.fnOf "read_number" "read_number" (Ai Gp) (Ah Gp) (Ab Gp) .none Ad3 Ad4 Ad5 Ad2 Xc Ad6,J1,PySem.W.fnOf "read_comma" "read_comma" (Ai Hi) (Ah Hi) (Ab Hi) .none AfJ AfK AfL AfI Aac AfM,Ho,PySem.W.fnOf "worked_out" "worked_out" (Ai G5) (Ah G5) (Ab G5) .none AfO AfP AfQ AfN Aad AfR,Ir,PySem.W.fnOf "known_cloth" "known_cloth" (Ai Gq) (Ah Gq) (Ab Gq) .none Ad8 Ad9 AdA Ad7 Xd AdB,Iu,PySem.W.fnOf "made_of_one" "made_of_one" (Ai Gr) (Ah Gr) (Ab Gr) .none AdD AdE AdF AdC Xe AdG,Iv,PySem.W.fnOf "made_of_two" "made_of_two" (Ai Gs) (Ah Gs) (Ab Gs) .none AdI AdJ AdK AdH Xf AdL,GR,PySem.W.fnOf "made_of_three" "made_of_three" (Ai Ex) (Ah Ex) (Ab Ex) .none AaS AaT AaU AaR TF AaV,K3,PySem.W.fnOf "_law_plain" "_law_plain" (Ai Il) (Ah Il) (Ab Il) .none AiE AiF AiG AiD AbF AiH,Iw,PySem.W.fnOf "_law_strange" "_law_strange" (Ai Gu) (Ah Gu) (Ab Gu) .none AdN AdO AdP AdM Xg AdQ,Rt,PySem.W.fnOf "_law_odd" "_law_odd" (Ai Mj) (Ah Mj) (Ab Mj) .none AnT AnU AnV AnS AgC AnW,N7,PySem.W.fnOf "_law_deep" "_law_deep" (Ai JH) (Ah JH) (Ab JH) .none Alr Als Alu Alq AdR Alv,N8,PySem.W.fnOf "_law_text" "_law_text" (Ai JK) (Ah JK) (Ab JK) .none Alx Aly Alz Alw AdS Al0,K4,PySem.W.fnOf "_law_right" "_law_right" (Ai Im) (Ah Im) (Ab Im) .none AiJ AiK AiL AiI AbG AiM,AmO,PySem.W.fnOf "law" "law" (Ai Afw) (Ah Afw) (Ab Afw) .none Ayu Ayv Ayw Ayt Auz Ayx,BZ,Ay,Es,Dh,Et,Aj,Bj⟩ :=
  ⟨⟨Ak (st:=JZ) AeR AeS AeT,PySem.W.mg_of X G Akf,(Ak (st:=JZ) AeR AeS AeT).binds (ps:=["text"]) fun _ _ _ _ _ _ us hl=>bl1 (fun _=>rfl) us hl⟩,
   ⟨Ak (st:=JF) AbH AbI AbJ,PySem.W.mg_of X G AgP,(Ak (st:=JF) AbH AbI AbJ).binds (ps:=["cloth"]) fun _ _ _ _ _ _ us hl=>bl1 (fun _=>rfl) us hl⟩,
   ⟨Ak (st:=Ka) AeU AeV AeW,PySem.W.mg_of X G Akg,(Ak (st:=Ka) AeU AeV AeW).binds (ps:=["cloth"]) fun _ _ _ _ _ _ us hl=>bl1 (fun _=>rfl) us hl⟩,
   ⟨Ak (st:=G4) VP VR Wa,PySem.W.mg_of X G AbK,(Ak (st:=G4) VP VR Wa).binds (ps:=["cloth"]) fun _ _ _ _ _ _ us hl=>bl1 (fun _=>rfl) us hl⟩,
   ⟨Ak (st:=DR) OD OJ Pa,PySem.W.mg_of X G TY,(Ak (st:=DR) OD OJ Pa).binds (ps:=["texts", "least", "signs"]) fun _ _ _ _ _ _ us hl=>bl3 (fun _ _ _=>rfl) us hl⟩,
   ⟨Ak (st:=Hf) Wb Wc We,PySem.W.mg_of X G AbL,(Ak (st:=Hf) Wb Wc We).binds (ps:=["text", "ends", "signs"]) fun _ _ _ _ _ _ us hl=>bl3 (fun _ _ _=>rfl) us hl⟩,
   ⟨Ak (st:=Hw) Zn Zo Zq,PySem.W.mg_of X G Aed,(Ak (st:=Hw) Zn Zo Zq).binds (ps:=["cloth", "end"]) fun _ _ _ _ _ _ us hl=>bl2 (fun _ _=>rfl) us hl⟩,
   ⟨Ak (st:=Ew) S8 S9 SJ,PySem.W.mg_of X G X8,(Ak (st:=Ew) S8 S9 SJ).binds (ps:=["signs"]) fun _ _ _ _ _ _ us hl=>bl1 (fun _=>rfl) us hl⟩,
   ⟨Ak (st:=DK) Q8 Q9 QB,PySem.W.mg_of X G V2,(Ak (st:=DK) Q8 Q9 QB).binds (ps:=["profile", "one", "other"]) fun _ _ _ _ _ _ us hl=>bl3 (fun _ _ _=>rfl) us hl⟩,
   ⟨Ak (st:=Ih) Zr Zt Zu,PySem.W.mg_of X G Aee,(Ak (st:=Ih) Zr Zt Zu).binds (ps:=["one", "other"]) fun _ _ _ _ _ _ us hl=>bl2 (fun _ _=>rfl) us hl⟩,
   ⟨Ak (st:=R0) Aml Amm Amn,PySem.W.mg_of X G Arw,(Ak (st:=R0) Aml Amm Amn).binds (ps:=["cloth", "across", "along"]) fun _ _ _ _ _ _ us hl=>bl3 (fun _ _ _=>rfl) us hl⟩,
   ⟨Ak (st:=DN) QC QD QF,PySem.W.mg_of X G V3,(Ak (st:=DN) QC QD QF).binds (ps:=["pieces", "ends", "picks"]) fun _ _ _ _ _ _ us hl=>bl3 (fun _ _ _=>rfl) us hl⟩,
   ⟨Ak (st:=Fy) SM SN SQ,PySem.W.mg_of X G XC,(Ak (st:=Fy) SM SN SQ).binds (ps:=["owners", "pieces"]) fun _ _ _ _ _ _ us hl=>bl2 (fun _ _=>rfl) us hl⟩,
   ⟨Ak (st:=Gm) Um Uo Up,PySem.W.mg_of X G Aai,(Ak (st:=Gm) Um Uo Up).binds (ps:=["piece", "ends", "picks"]) fun _ _ _ _ _ _ us hl=>bl3 (fun _ _ _=>rfl) us hl⟩,
   ⟨Ak (st:=DP) QG QH QJ,PySem.W.mg_of X G V4,(Ak (st:=DP) QG QH QJ).binds (ps:=["owners"]) fun _ _ _ _ _ _ us hl=>bl1 (fun _=>rfl) us hl⟩,
   ⟨Ak (st:=Mh) AeX AeY AeZ,PySem.W.mg_of X G Akh,(Ak (st:=Mh) AeX AeY AeZ).binds (ps:=["pick_owner", "own", "end_owner", "place"]) fun _ _ _ _ _ _ us hl=>bl4 (fun _ _ _ _=>rfl) us hl⟩,
   ⟨Ak (st:=Hg) Wf Wg Wh,PySem.W.mg_of X G AbM,(Ak (st:=Hg) Wf Wg Wh).binds (ps:=["ends", "picks"]) fun _ _ _ _ _ _ us hl=>bl2 (fun _ _=>rfl) us hl⟩,
   ⟨Ak (st:=DX) Pb Pg Ph,PySem.W.mg_of X G Ua,(Ak (st:=DX) Pb Pg Ph).binds (ps:=["one", "other"]) fun _ _ _ _ _ _ us hl=>bl2 (fun _ _=>rfl) us hl⟩,
   ⟨Ak (st:=Jd) AbN AbO AbP,PySem.W.mg_of X G AgQ,(Ak (st:=Jd) AbN AbO AbP).binds (ps:=["size", "step"]) fun _ _ _ _ _ _ us hl=>bl2 (fun _ _=>rfl) us hl⟩,
   ⟨Ak (st:=Mi) l_written Afa Afb,PySem.W.mg_of X G Aki,(Ak (st:=Mi) l_written Afa Afb).binds (ps:=["word", "things"]) fun _ _ _ _ _ _ us hl=>bl2 (fun _ _=>rfl) us hl⟩,
   ⟨Ak (st:=Ii) Zv Zw Zx,PySem.W.mg_of X G Aef,(Ak (st:=Ii) Zv Zw Zx).binds (ps:=["figures"]) fun _ _ _ _ _ _ us hl=>bl1 (fun _=>rfl) us hl⟩,
   ⟨Ak (st:=Fz) SX Tc Td,PySem.W.mg_of X G XD,(Ak (st:=Fz) SX Tc Td).binds (ps:=["text", "known"]) fun _ _ _ _ _ _ us hl=>bl2 (fun _ _=>rfl) us hl⟩,
   ⟨Ak (st:=Hh) Wi Wj Wk,PySem.W.mg_of X G AbQ,(Ak (st:=Hh) Wi Wj Wk).binds (ps:=["text"]) fun _ _ _ _ _ _ us hl=>bl1 (fun _=>rfl) us hl⟩,
   ⟨Ak (st:=Ij) Zy Zz Z0,PySem.W.mg_of X G Aeg,(Ak (st:=Ij) Zy Zz Z0).binds (ps:=["reader", "depth"]) fun _ _ _ _ _ _ us hl=>bl2 (fun _ _=>rfl) us hl⟩,
   ⟨Ak (st:=Gn) Uq Ur Us,PySem.W.mg_of X G Aaj,(Ak (st:=Gn) Uq Ur Us).binds (ps:=["reader", "word", "depth"]) fun _ _ _ _ _ _ us hl=>bl3 (fun _ _ _=>rfl) us hl⟩,
   ⟨Ak (st:=Ik) Z1 Z2 Z3,PySem.W.mg_of X G Aeh,(Ak (st:=Ik) Z1 Z2 Z3).binds (ps:=["reader"]) fun _ _ _ _ _ _ us hl=>bl1 (fun _=>rfl) us hl⟩,
   ⟨Ak (st:=JG) AbR AbS AbT,PySem.W.mg_of X G AgR,(Ak (st:=JG) AbR AbS AbT).binds (ps:=["reader"]) fun _ _ _ _ _ _ us hl=>bl1 (fun _=>rfl) us hl⟩,
   ⟨Ak (st:=Gp) Ut Uu Uv,PySem.W.mg_of X G Aak,(Ak (st:=Gp) Ut Uu Uv).binds (ps:=["reader"]) fun _ _ _ _ _ _ us hl=>bl1 (fun _=>rfl) us hl⟩,
   ⟨Ak (st:=Hi) Wl Wm Wn,PySem.W.mg_of X G AbU,(Ak (st:=Hi) Wl Wm Wn).binds (ps:=["reader"]) fun _ _ _ _ _ _ us hl=>bl1 (fun _=>rfl) us hl⟩,
   ⟨Ak (st:=G5) Wo Wq Wr,PySem.W.mg_of X G AbV,(Ak (st:=G5) Wo Wq Wr).binds (ps:=["node", "known"]) fun _ _ _ _ _ _ us hl=>bl2 (fun _ _=>rfl) us hl⟩,
   ⟨Ak (st:=Gq) Uw Ux Uy,PySem.W.mg_of X G Aal,(Ak (st:=Gq) Uw Ux Uy).binds (ps:=["name", "known"]) fun _ _ _ _ _ _ us hl=>bl2 (fun _ _=>rfl) us hl⟩,
   ⟨Ak (st:=Gr) Uz U0 U3,PySem.W.mg_of X G Aam,(Ak (st:=Gr) Uz U0 U3).binds (ps:=["word", "inner"]) fun _ _ _ _ _ _ us hl=>bl2 (fun _ _=>rfl) us hl⟩,
   ⟨Ak (st:=Gs) U4 U5 U6,PySem.W.mg_of X G Aan,(Ak (st:=Gs) U4 U5 U6).binds (ps:=["word", "one", "other"]) fun _ _ _ _ _ _ us hl=>bl3 (fun _ _ _=>rfl) us hl⟩,
   ⟨Ak (st:=Ex) QK QL QM,PySem.W.mg_of X G V5,(Ak (st:=Ex) QK QL QM).binds (ps:=["word", "things"]) fun _ _ _ _ _ _ us hl=>bl2 (fun _ _=>rfl) us hl⟩,
   ⟨Ak (st:=Il) Z4 Z5 Z6,PySem.W.mg_of X G Aei,(Ak (st:=Il) Z4 Z5 Z6).binds (ps:=["cell"]) fun _ _ _ _ _ _ us hl=>bl1 (fun _=>rfl) us hl⟩,
   ⟨Ak (st:=Gu) U7 U8 U9,PySem.W.mg_of X G Aao,(Ak (st:=Gu) U7 U8 U9).binds (ps:=["cell"]) fun _ _ _ _ _ _ us hl=>bl1 (fun _=>rfl) us hl⟩,
   ⟨Ak (st:=Mj) Afc Afd Afe,PySem.W.mg_of X G Akj,(Ak (st:=Mj) Afc Afd Afe).binds (ps:=["cell"]) fun _ _ _ _ _ _ us hl=>bl1 (fun _=>rfl) us hl⟩,
   ⟨Ak (st:=JH) AbW AbX AbY,PySem.W.mg_of X G AgS,(Ak (st:=JH) AbW AbX AbY).binds (ps:=["many"]) fun _ _ _ _ _ _ us hl=>bl1 (fun _=>rfl) us hl⟩,
   ⟨Ak (st:=JK) AbZ Aca Acb,PySem.W.mg_of X G AgT,(Ak (st:=JK) AbZ Aca Acb).binds (ps:=["cell"]) fun _ _ _ _ _ _ us hl=>bl1 (fun _=>rfl) us hl⟩,
   ⟨Ak (st:=Im) Z7 Z8 Z9,PySem.W.mg_of X G Aej,(Ak (st:=Im) Z7 Z8 Z9).binds (ps:=["cell"]) fun _ _ _ _ _ _ us hl=>bl1 (fun _=>rfl) us hl⟩,
   ⟨Ak (st:=Afw) Avs Avt Avu,PySem.W.mg_of X G Avr,(Ak (st:=Afw) Avs Avt Avu).binds (ps:=["script"]) fun _ _ _ _ _ _ us hl=>bl1 (fun _=>rfl) us hl⟩,
   PySem.W.mg_none_of X G Acd,
   PySem.W.mg_none_of X G Ayz,
   PySem.W.mg_none_of X G Ay0,
   PySem.W.mg_none_of X G Aek,
   PySem.W.mg_none_of X G Ay1,
   PySem.W.mg_none_of X G Ace,
   PySem.W.mg_none_of X G Ay2,
   PySem.W.mg_none_of X G Au0,
   PySem.W.mg_none_of X G Arx,
   PySem.W.mg_none_of X G AgU,
   PySem.W.mg_none_of X G Ay3,
   PySem.W.mg_none_of X G Ary,
   PySem.W.mg_none_of X G Ay4,
   ⟨_,PySem.W.mg_of X G Akk⟩,
   ⟨_,PySem.W.mg_of X G XF⟩,
   ⟨_,PySem.W.mg_of X G XH⟩,
   ⟨_,PySem.W.mg_of X G Akl⟩,
   ⟨_,PySem.W.mg_of X G Ael⟩,
   ⟨_,PySem.W.mg_of X G Aem⟩,
   PySem.W.mg_of X G Acf,
   Agr Aap Aaq Aar Aas Hr Hs Aat Aau Aav XJ XM,
   PySem.W.mg_of X G AgV,
   Agr Aeo Aep Aeq Aer Hr Hs Aes Aet Aeu Acg Ach,
   GZ,
   Fv,
   KJ,
   JN,
   KN,
   HB,
   KQ,
   PySem.W.mg_of X G Akm,
   Agr AgX AgY AgZ Aha Hr Hs Ahb Ahc Ahd Aev Aew,
   PySem.W.mg_of X G AgW,
   Agr Aex Aey Aez Ae0 Hr Hs Ae1 Ae2 Ae3 Aci Acj,
   PySem.W.mg_of X G Akn,
   Agr Ahe Ahf Ahg Ahh Hr Hs Ahi Ahj Ahk Ae4 Ae5,
   PySem.W.mg_of X G Aen,
   Agr Ack Acl Acm Acn Hr Hs Aco Acp Acq Aaw Aax,
   G8,
   J2,
   JP,
   J3,
   JQ,
   Em,
   HX,
   PySem.W.mg_of X G Ako,
   Agr Ahl Ahm Ahn Aho Hr Hs Ahp Ahq Ahr Ae6 Ae7,
   HD,
   KR,
   Mz,
   KY,
   M3,
   HY,
   G9,
   PySem.W.mg_of X G Arz,
   Ra Aol Aom Aon Aoo Aop M5 M6 Aoq,
   RD,
   O6,
   PySem.W.mg_of X G Ar0,
   Ra Aor Aos Aot Aou Aov M9 MF Aow,
   Kc,
   Iz,
   ⟨Qe,Cy,Ce⟩,
   ⟨Qf,Cz,Cg⟩,
   ⟨Qg,CG,Ci⟩,
   ⟨NK,Cp,BL⟩,
   ⟨Qh,CJ,Cj⟩,
   PySem.W.mg_of X G Au1,
   Ra Ar5 Ar6 Ar7 Ar8 Ar9 Pj Pk ArA,
   Mm,
   Jp,
   ⟨RG,Cy,Ce⟩,
   ⟨RJ,Cz,Cg⟩,
   ⟨RK,CG,Ci⟩,
   ⟨Qi,Cp,BL⟩,
   ⟨RL,CJ,Cj⟩,
   PySem.W.mg_of X G Ar1,
   Ra Aox Aoy Aoz Ao0 Ao1 MN MP Ao2,
   Kd,
   IK,
   ⟨Qj,Cy,Ce⟩,
   ⟨Qk,Cz,Cg⟩,
   ⟨Ql,CG,Ci⟩,
   ⟨NP,Cp,BL⟩,
   ⟨Qm,CJ,Cj⟩,
   PySem.W.mg_of X G Ar2,
   Ra Ao3 Ao4 Ao5 Ao6 Ao7 Nf Ng Ao8,
   Ke,
   IV,
   ⟨Qn,Cy,Ce⟩,
   ⟨Qo,Cz,Cg⟩,
   ⟨Qp,CG,Ci⟩,
   ⟨NQ,Cp,BL⟩,
   ⟨Qq,CJ,Cj⟩,
   PySem.W.mg_of X G Aoh,
   Ra Ak0 Ak1 Ak2 Ak3 Ak4 KZ La Ak5,
   Jq,
   HJ,
   ⟨NT,Cy,Ce⟩,
   ⟨NZ,Cz,Cg⟩,
   ⟨Oa,CG,Ci⟩,
   ⟨Lx,Cp,BL⟩,
   ⟨Ob,CJ,Cj⟩,
   PySem.W.mg_of X G Ar3,
   Ra Ao9 AoA AoB AoC AoD Nj Nk AoE,
   Kf,
   IW,
   ⟨Qs,Cy,Ce⟩,
   ⟨Qt,Cz,Cg⟩,
   ⟨Qu,CG,Ci⟩,
   ⟨Od,Cp,BL⟩,
   ⟨Qv,CJ,Cj⟩,
   PySem.W.mg_of X G Aoi,
   Ra Ak6 Ak7 Ak8 Ak9 AkA Le Lf AkB,
   Jr,
   HN,
   ⟨Oe,Cy,Ce⟩,
   ⟨Og,Cz,Cg⟩,
   ⟨Oh,CG,Ci⟩,
   ⟨Ly,Cp,BL⟩,
   ⟨Oj,CJ,Cj⟩,
   PySem.W.mg_of X G Ar4,
   Ra AoF AoG AoH AoI AoJ Nq Nr AoK,
   Kg,
   Ja,
   ⟨Qw,Cy,Ce⟩,
   ⟨Qx,Cz,Cg⟩,
   ⟨Qy,CG,Ci⟩,
   ⟨Ol,Cp,BL⟩,
   ⟨Qz,CJ,Cj⟩,
   PySem.W.mg_of X G Au2,
   Ra ArB ArC ArD ArE ArF Pr Pu ArG,
   Mp,
   Js,
   ⟨RM,Cy,Ce⟩,
   ⟨RN,Cz,Cg⟩,
   ⟨RP,CG,Ci⟩,
   ⟨Q0,Cp,BL⟩,
   ⟨RQ,CJ,Cj⟩,
   PySem.W.mg_of X G Akp,
   Ra Ahu Ahv Ahw Ahx Ahy JR JS Ahz,
   Jb,
   Hc,
   ⟨Lz,Cy,Ce⟩,
   ⟨LC,Cz,Cg⟩,
   ⟨LK,CG,Ci⟩,
   ⟨Kh,Cp,BL⟩,
   ⟨LQ,CJ,Cj⟩,
   PySem.W.mg_of X G Au3,
   Ra ArH ArI ArJ ArK ArL Pz P0 ArM,
   Mq,
   Jt,
   ⟨RT,Cy,Ce⟩,
   ⟨RW,Cz,Cg⟩,
   ⟨RX,CG,Ci⟩,
   ⟨Q3,Cp,BL⟩,
   ⟨RZ,CJ,Cj⟩,
   PySem.W.mg_of X G Aoj,
   Ra AkC AkD AkE AkF AkG Li Lj AkH,
   Ju,
   HQ,
   ⟨Om,Cy,Ce⟩,
   ⟨Oo,Cz,Cg⟩,
   ⟨Oq,CG,Ci⟩,
   ⟨LR,Cp,BL⟩,
   ⟨Ot,CJ,Cj⟩,
   PySem.W.mg_of X G Ay5,
   Ra Au4 Au5 Au6 Au7 Au8 QQ QR Au9,
   O7,
   Kl,
   ⟨Ve,Cy,Ce⟩,
   ⟨Vf,Cz,Cg⟩,
   ⟨Vg,CG,Ci⟩,
   ⟨Sh,Cp,BL⟩,
   ⟨Vh,CJ,Cj⟩,
   PySem.W.mg_of X G Aok,
   Ra AkI AkJ AkK AkL AkM Lp Lq AkN,
   FZ,
   Cu,
   ⟨Akq,Akr,Aks,Akt,HR⟩,
   PySem.W.mg_of X G Aku,
   AyU Akv Akw Akx Aky Akz,
   PySem.W.mg_of X G Ahs,
   A0I Aht,
   ⟨Ak (st:=DY) M7 M8 HR,⟨M5,M6,HR⟩,(Ak (st:=DY) M7 M8 HR).binds (ps:=["self", "texts", "writing"]) fun _ _ _ _ _ _ us hl=>bl3 (fun _ _ _=>rfl) us hl⟩,
   ⟨Ak (st:=Hk) UG UJ Ce,⟨Aay,Cy,Ce⟩,(Ak (st:=Hk) UG UJ Ce).binds (ps:=["self"]) fun _ _ _ _ _ _ us hl=>bl1 (fun _=>rfl) us hl⟩,
   ⟨Ak (st:=Hl) UL UT Cg,⟨Aaz,Cz,Cg⟩,(Ak (st:=Hl) UL UT Cg).binds (ps:=["self"]) fun _ _ _ _ _ _ us hl=>bl1 (fun _=>rfl) us hl⟩,
   ⟨Ak (st:=Ie) UW Va Ci,⟨Aa0,CG,Ci⟩,(Ak (st:=Ie) UW Va Ci).binds (ps:=["self", "x", "y"]) fun _ _ _ _ _ _ us hl=>bl3 (fun _ _ _=>rfl) us hl⟩,
   ⟨Ak (st:=Gv) Te Tf BL,⟨XN,Cp,BL⟩,(Ak (st:=Gv) Te Tf BL).binds (ps:=["self"]) fun _ _ _ _ _ _ us hl=>bl1 (fun _=>rfl) us hl⟩,
   ⟨Ak (st:=Hm) Vb Vc Cj,⟨Aa1,CJ,Cj⟩,(Ak (st:=Hm) Vb Vc Cj).binds (ps:=["self"]) fun _ _ _ _ _ _ us hl=>bl1 (fun _=>rfl) us hl⟩,
   ⟨Ak (st:=Ea) MJ MK J5,⟨M9,MF,J5⟩,(Ak (st:=Ea) MJ MK J5).binds (ps:=["self", "name", "known_cloth"]) fun _ _ _ _ _ _ us hl=>bl3 (fun _ _ _=>rfl) us hl⟩,
   ⟨Ak (st:=DQ) Pn Pq Kq,⟨Pj,Pk,Kq⟩,(Ak (st:=DQ) Pn Pq Kq).binds (ps:=["self", "runs"]) fun _ _ _ _ _ _ us hl=>bl2 (fun _ _=>rfl) us hl⟩,
   ⟨Ak (st:=Dg) MT Nb J7,⟨MN,MP,J7⟩,(Ak (st:=Dg) MT Nb J7).binds (ps:=["self", "over", "under"]) fun _ _ _ _ _ _ us hl=>bl3 (fun _ _ _=>rfl) us hl⟩,
   ⟨Ak (st:=CK) Nh Ni J8,⟨Nf,Ng,J8⟩,(Ak (st:=CK) Nh Ni J8).binds (ps:=["self", "size", "step"]) fun _ _ _ _ _ _ us hl=>bl3 (fun _ _ _=>rfl) us hl⟩,
   ⟨Ak (st:=CQ) Lb Ld Jh,⟨KZ,La,Jh⟩,(Ak (st:=CQ) Lb Ld Jh).binds (ps:=["self", "one", "other"]) fun _ _ _ _ _ _ us hl=>bl3 (fun _ _ _=>rfl) us hl⟩,
   ⟨Ak (st:=Eb) Nm Np J9,⟨Nj,Nk,J9⟩,(Ak (st:=Eb) Nm Np J9).binds (ps:=["self", "one", "other"]) fun _ _ _ _ _ _ us hl=>bl3 (fun _ _ _=>rfl) us hl⟩,
   ⟨Ak (st:=CT) Lg Lh Ji,⟨Le,Lf,Ji⟩,(Ak (st:=CT) Lg Lh Ji).binds (ps:=["self", "inner"]) fun _ _ _ _ _ _ us hl=>bl2 (fun _ _=>rfl) us hl⟩,
   ⟨Ak (st:=Ec) Nt Nu JB,⟨Nq,Nr,JB⟩,(Ak (st:=Ec) Nt Nu JB).binds (ps:=["self", "inner"]) fun _ _ _ _ _ _ us hl=>bl2 (fun _ _=>rfl) us hl⟩,
   ⟨Ak (st:=Ey) Px Py Kr,⟨Pr,Pu,Kr⟩,(Ak (st:=Ey) Px Py Kr).binds (ps:=["self", "inner"]) fun _ _ _ _ _ _ us hl=>bl2 (fun _ _=>rfl) us hl⟩,
   ⟨Ak (st:=CW) JT JV Ib,⟨JR,JS,Ib⟩,(Ak (st:=CW) JT JV Ib).binds (ps:=["self", "inner"]) fun _ _ _ _ _ _ us hl=>bl2 (fun _ _=>rfl) us hl⟩,
   ⟨Ak (st:=Ez) PB PJ Ks,⟨Pz,P0,Ks⟩,(Ak (st:=Ez) PB PJ Ks).binds (ps:=["self", "inner", "across", "along"]) fun _ _ _ _ _ _ us hl=>bl4 (fun _ _ _ _=>rfl) us hl⟩,
   ⟨Ak (st:=Dj) Lk Ln Jj,⟨Li,Lj,Jj⟩,(Ak (st:=Dj) Lk Ln Jj).binds (ps:=["self", "profile", "one", "other"]) fun _ _ _ _ _ _ us hl=>bl4 (fun _ _ _ _=>rfl) us hl⟩,
   ⟨Ak (st:=FJ) QS QT Ma,⟨QQ,QR,Ma⟩,(Ak (st:=FJ) QS QT Ma).binds (ps:=["self", "upper", "lower"]) fun _ _ _ _ _ _ us hl=>bl3 (fun _ _ _=>rfl) us hl⟩,
   ⟨Ak (st:=Dk) Lr Ls Jk,⟨Lp,Lq,Jk⟩,(Ak (st:=Dk) Lr Ls Jk).binds (ps:=["self", "text"]) fun _ _ _ _ _ _ us hl=>bl2 (fun _ _=>rfl) us hl⟩,
   ⟨Ak (st:=FN) QV QW Mg,⟨V6,V7,Mg⟩,(Ak (st:=FN) QV QW Mg).binds (ps:=["self"]) fun _ _ _ _ _ _ us hl=>bl1 (fun _=>rfl) us hl⟩,
   ⟨Ak (st:=Gw) Tg Th Ov,⟨XQ,XR,Ov⟩,(Ak (st:=Gw) Tg Th Ov).binds (ps:=["self", "wanted"]) fun _ _ _ _ _ _ us hl=>bl2 (fun _ _=>rfl) us hl⟩,
   ⟨Ak (st:=Ed) Nv Nx JC,⟨Ti,Tj,JC⟩,(Ak (st:=Ed) Nv Nx JC).binds (ps:=["self", "signs"]) fun _ _ _ _ _ _ us hl=>bl2 (fun _ _=>rfl) us hl⟩,
   ⟨Ak (st:=EY) PL PN Ku,⟨Ub,Uc,Ku⟩,(Ak (st:=EY) PL PN Ku).binds (ps:=["self"]) fun _ _ _ _ _ _ us hl=>bl1 (fun _=>rfl) us hl⟩⟩
  have e:=hfa.symm.trans (PySem.W.mg_of X G Avr)
  cases e
  exact⟨_,fun s v=>.of_eq rfl,fun base _ _=>A1l T⟩
end Mine
open PySem PySem.W PyProof.Rows
def PySem.W.Fast.tw1094880698602731396:=()
def PySem.W.Fast.tw8143212841801171552:=()
def PySem.W.Fast.tw10843946103168084500:=()
def PySem.W.Fast.tw8676731340849244954:=()
def PySem.W.Fast.tw17407252229161617425:=()
def PySem.W.Fast.tw13659800247210858690:=()
def PySem.W.Fast.tw10929373258336828771:=()
def PySem.W.Fast.tw17258366390192769346:=()
def PySem.W.Fast.tw18113470501276732471:=()
def PySem.W.Fast.tw11830866335515900777:=()
def PySem.W.Fast.tw16046439091999877979:=()
def PySem.W.Fast.tw8822343586193972286:=()
def PySem.W.Fast.tw941892664688516750:=()
def PySem.W.Fast.tw2078447081025345331:=()
def PySem.W.Fast.tw8084099301841799520:=()
def PySem.W.Fast.tw9470274086808718370:=()
def PySem.W.Fast.tw10709557943154450745:=()
def PySem.W.Fast.tw5370397755566974056:=()
def PySem.W.Fast.tw7166887588024267024:=()
def PySem.W.Fast.tw5960570288484315512:=()
def PySem.W.Fast.tw9042965767778219006:=()
def PySem.W.Fast.tw3216830463663548520:=()
def PySem.W.Fast.tw12268749840608291724:=()
def PySem.W.Fast.tw9034913177507368255:=()
def PySem.W.Fast.tw9767093149080387833:=()
def PySem.W.Fast.tw15156343062635503502:=()
def PySem.W.Fast.tw13173766638424721602:=()
def PySem.W.Fast.tw13243635868190041566:=()
def PySem.W.Fast.tw2065154822456039268:=()
def PySem.W.Fast.tw12120887076217008248:=()
def PySem.W.Fast.tw12336277707771400547:=()
def PySem.W.Fast.tw2183210219818892120:=()
def PySem.W.Fast.tw2862596978221881023:=()
def PySem.W.Fast.tw6214697285758157765:=()
def PySem.W.Fast.tw12877001005151403498:=()
def PySem.W.Fast.tw1733340421975178183:=()
def PySem.W.Fast.tw14268763279214928856:=()
def PySem.W.Fast.tw12849544826517576128:=()
def PySem.W.Fast.tw17306475131778195219:=()
def PySem.W.Fast.tw2252898020318530004:=()
def PySem.W.Fast.tw3771720050951398748:=()
def PySem.W.Fast.tw3927523599939029533:=()
def PySem.W.Fast.tw923240851748854980:=()
def PySem.W.Fast.tw9682172128900106527:=()
def PySem.W.Fast.tw5048477878937090181:=()
def PySem.W.Fast.tw8927453554499319179:=()
def PySem.W.Fast.tw4231790465904900420:=()
def PySem.W.Fast.tw8868402731481152728:=()
def PySem.W.Fast.tw9115905057663742443:=()
def PySem.W.Fast.tw17208313322406320864:=()
def PySem.W.Fast.tw3332646623512403888:=()
def PySem.W.Fast.tw15012571686041670437:=()
def PySem.W.Fast.tw11004563744238170119:=()
def PySem.W.Fast.tw16262799642540901328:=()
def PySem.W.Fast.tw11595923876075381111:=()
def PySem.W.Fast.tw14356119087335447862:=()
def PySem.W.Fast.tw14959567723552675697:=()
def PySem.W.Fast.tw2806979036983552857:=()
def PySem.W.Fast.tw10320045429379548785:=()
def PySem.W.Fast.tw12295604141490502678:=()
def PySem.W.Fast.tw9821112229863907097:=()
def PySem.W.Fast.tw7708641178705665316:=()
def PySem.W.Fast.tw14098371882608798458:=()
def PySem.W.Fast.tw16437688057350895332:=()
def PySem.W.Fast.tw11510085795716653916:=()
def PySem.W.Fast.tw4922479882149791043:=()
def PySem.W.Fast.tw1926286708005517473:=()
def PySem.W.Fast.tw8457945155073314942:=()
def PySem.W.Fast.tw12894752412776053600:=()
def PySem.W.Fast.tw4186269237353467666:=()
def PySem.W.Fast.tw12029860279308140902:=()
def PySem.W.Fast.tw13442939444687289834:=()
def PySem.W.Fast.tw459362473991577649:=()
def PySem.W.Fast.tw15741920185573938177:=()
def PySem.W.Fast.tw12318829148584459806:=()
def PySem.W.Fast.tw10766345806532899766:=()
def PySem.W.Fast.tw16617144868866090531:=()
def PySem.W.Fast.tw14349228905046485217:=()
def PySem.W.Fast.tw11564447808602572458:=()
def PySem.W.Fast.tw17808034745834646075:=()
def PySem.W.Fast.tw7732728770791860106:=()
def PySem.W.Fast.tw14630956946082598678:=()
def PySem.W.Fast.tw13049185008005510284:=()
def PySem.W.Fast.tw11951192767884366987:=()
def PySem.W.Fast.tw13920528063537691376:=()
def PySem.W.Fast.tw16018655323871436394:=()
def PySem.W.Fast.tw8107350081489400557:=()
def PySem.W.Fast.tw13468028344734193056:=()
def PySem.W.Fast.tw3175016836821043292:=()
def PySem.W.Fast.tw9769696590174475516:=()
def PySem.W.Fast.tw5670159095628707641:=()
def PySem.W.Fast.tw7171406443104254107:=()
def PySem.W.Fast.tw12839387756373186877:=()
def PySem.W.Fast.tw11235365042394051910:=()
def PySem.W.Fast.tw15759042194019058973:=()
def PySem.W.Fast.tw9769578886471765561:=()
def PySem.W.Fast.tw13563722400056184578:=()
def PySem.W.Fast.tw8175141254786662658:=()
def PySem.W.Fast.tw697267389518049558:=()
def PySem.W.Fast.tw18108591401818134129:=()
def PySem.W.Fast.tw1015228023655155389:=()
def PySem.W.Fast.tw13450277667415602165:=()
def PySem.W.Fast.tw9504926486614216534:=()
def PySem.W.Fast.tw1745508815135605119:=()
def PySem.W.Fast.tw6637689642766946695:=()
def PySem.W.Fast.tw17235600354832558233:=()
def PySem.W.Fast.tw4587297232641449373:=()
def PySem.W.Fast.tw2691601042231000221:=()
def PySem.W.Fast.tw14940189558917140160:=()
def PySem.W.Fast.tw13420050227620325328:=()
def PySem.W.Fast.tw9959152308424645720:=()
def PySem.W.Fast.tw11833215276243307033:=()
def PySem.W.Fast.tw13684462027477539984:=()
def PySem.W.Fast.tw8560783560988055025:=()
def PySem.W.Fast.tw4429277814054190520:=()
def PySem.W.Fast.tw16206975088495339176:=()
def PySem.W.Fast.tw7093792526972339543:=()
def PySem.W.Fast.tw18241064135084245226:=()
def PySem.W.Fast.tw8473152598100334565:=()
def PySem.W.Fast.tw12903492317310378528:=()
def PySem.W.Fast.tw9865664480322605144:=()
def PySem.W.Fast.tw11437913678117183933:=()
def PySem.W.Fast.tw16327744361665725289:=()
def PySem.W.Fast.tw6957874532724868446:=()
def PySem.W.Fast.tw4641913435871753763:=()
def PySem.W.Fast.tw15294523928462006529:=()
def PySem.W.Fast.tw2574072622352305940:=()
def PySem.W.Fast.tw18016594560892521795:=()
def PySem.W.Fast.tw8178673592558883782:=()
def PySem.W.Fast.tw13733417438238885488:=()
def PySem.W.Fast.tw15177049655442638464:=()
def PySem.W.Fast.tw17775251222665866183:=()
def PySem.W.Fast.tw928877999266264985:=()
def PySem.W.Fast.tw10176944777252322536:=()
def PySem.W.Fast.tw18233021838045670767:=()
def PySem.W.Fast.tw9600810877209537028:=()
def PySem.W.Fast.tw2970976622464560265:=()
def PySem.W.Fast.tw18279940247691023533:=()
def PySem.W.Fast.tw1064635695697188045:=()
def PySem.W.Fast.tw5641317919993165849:=()
def PySem.W.Fast.tw11002464439043729066:=()
def PySem.W.Fast.tw16824103770810393662:=()
def PySem.W.Fast.tw5006055303344425939:=()
def PySem.W.Fast.tw998190320831629043:=()
def PySem.W.Fast.tw6856481641671557159:=()
def PySem.W.Fast.tw14900823429982831293:=()
def PySem.W.Fast.tw14590186269551287052:=()
def PySem.W.Fast.tw10535180325130939385:=()
def PySem.W.Fast.tw13011253252781262741:=()
def PySem.W.Fast.tw938941844408667721:=()
def PySem.W.Fast.tw1033489813330124709:=()
def PySem.W.Fast.tw17959371274364809053:=()
def PySem.W.Fast.tw5736061650500050914:=()
def PySem.W.Fast.tw3941255947113175396:=()
def PySem.W.Fast.tw497264006603788423:=()
def PySem.W.Fast.tw6536329352162046287:=()
def PySem.W.Fast.tw3954310935534134639:=()
def PySem.W.Fast.tw373010605944870679:=()
def PySem.W.Fast.tw3095506759586865328:=()
def PySem.W.Fast.tw16747573643819518800:=()
def PySem.W.Fast.tw11223426603334039596:=()
def PySem.W.Fast.tw763297984734413908:=()
def PySem.W.Fast.tw16263661503998597202:=()
def PySem.W.Fast.tw2121350163386713876:=()
def PySem.W.Fast.tw9887316452888764180:=()
def PySem.W.Fast.tw3914590159227415419:=()
def PySem.W.Fast.tw6992328574410432517:=()
def PySem.W.Fast.tw5677519449743567210:=()
def PySem.W.Fast.tw15550794264471386040:=()
def PySem.W.Fast.tw17816957139558267890:=()
def PySem.W.Fast.tw14776413820900784191:=()
def PySem.W.Fast.tw13327749564937045077:=()
def PySem.W.Fast.tw9099455832444907030:=()
def PySem.W.Fast.tw15465053999523389630:=()
def PySem.W.Fast.tw1611842173500846354:=()
def PySem.W.Fast.tw17570296839510701637:=()
def PySem.W.Fast.tw4170520494643451476:=()
def PySem.W.Fast.tw9331256262437374290:=()
def PySem.W.Fast.tw17735303692858769328:=()
def PySem.W.Fast.tw15735497052700377661:=()
def PySem.W.Fast.tw8304813636541533254:=()
def PySem.W.Fast.tw18130011878624816645:=()
def PySem.W.Fast.tw12487170368551636621:=()
def PySem.W.Fast.tw17833988636815746040:=()
def PySem.W.Fast.tw9571331428212224706:=()
def PySem.W.Fast.tw10904703187602673348:=()
def PySem.W.Fast.tw1975079285580709694:=()
def PySem.W.Fast.tw5901763417608590257:=()
def PySem.W.Fast.tw274747180643326860:=()
def PySem.W.Fast.tw3702034825022447360:=()
def PySem.W.Fast.tw5344850315423786880:=()
def PySem.W.Fast.tw9691375990801346873:=()
def PySem.W.Fast.tw6067764888216945355:=()
def PySem.W.Fast.tw15513433905450501872:=()
def PySem.W.Fast.tw15310502329354103158:=()
def PySem.W.Fast.tw8342058387473901391:=()
def PySem.W.Fast.tw14174833165962569757:=()
def PySem.W.Fast.tw11252727809562601424:=()
def PySem.W.Fast.tw247210304315895521:=()
def PySem.W.Fast.tw16527514667580036434:=()
def PySem.W.Fast.tw16566351693385776660:=()
def PySem.W.Fast.tw2113534688476796912:=()
def PySem.W.Fast.tw7935202524495429520:=()
def PySem.W.Fast.tw13816689093052055476:=()
def PySem.W.Fast.tw994726277689998899:=()
def PySem.W.Fast.tw2846480210879554348:=()
def PySem.W.Fast.tw960682278615459655:=()
def PySem.W.Fast.tw8908984084420216438:=()
def PySem.W.Fast.tw15074059916554324009:=()
set_option maxRecDepth 100000 in
set_option maxHeartbeats 0 in
theorem PySem.Challenge.cw_heddle_k58_texts_that_are_no_patterns_holds : PySem.Challenge.rw_heddle_k58_texts_that_are_no_patterns.Holds := by
 w_on;o_law;k_head;(case hw=>w_witness2)
 k_fill
 refine L2.AwE (l:=PySem.Challenge.rw_heddle_k58_texts_that_are_no_patterns) (n:=63) (k:=35) (x := "script") (CX:=L2.CX0) (sp:=Mine.AqX) rfl (by decide) rfl ⟨rfl,by decide,by decide⟩ (fun w h Y=>PySem.W.kIn_of Y) ?F ?S ?C
 case F =>
  intro w mg fa h KX G hmg
  refine' Mine.A1m KX G hmg ?Akf ?AeR ?AeS ?AeT ?AgP ?AbH ?AbI ?AbJ ?Akg ?AeU ?AeV ?AeW ?AbK ?VP ?VR ?Wa ?TY ?OD ?OJ ?Pa ?AbL ?Wb ?Wc ?We ?Aed ?Zn ?Zo ?Zq ?X8 ?S8 ?S9 ?SJ ?V2 ?Q8 ?Q9 ?QB ?Aee ?Zr ?Zt ?Zu ?Arw ?Aml ?Amm ?Amn ?V3 ?QC ?QD ?QF ?XC ?SM ?SN ?SQ ?Aai ?Um ?Uo ?Up ?V4 ?QG ?QH ?QJ ?Akh ?AeX ?AeY ?AeZ ?AbM ?Wf ?Wg ?Wh ?Ua ?Pb ?Pg ?Ph ?AgQ ?AbN ?AbO ?AbP ?Aki ?l_written ?Afa ?Afb ?Aef ?Zv ?Zw ?Zx ?XD ?SX ?Tc ?Td ?AbQ ?Wi ?Wj ?Wk ?Aeg ?Zy ?Zz ?Z0 ?Aaj ?Uq ?Ur ?Us ?Aeh ?Z1 ?Z2 ?Z3 ?AgR ?AbR ?AbS ?AbT ?Aak ?Ut ?Uu ?Uv ?AbU ?Wl ?Wm ?Wn ?AbV ?Wo ?Wq ?Wr ?Aal ?Uw ?Ux ?Uy ?Aam ?Uz ?U0 ?U3 ?Aan ?U4 ?U5 ?U6 ?V5 ?QK ?QL ?QM ?Aei ?Z4 ?Z5 ?Z6 ?Aao ?U7 ?U8 ?U9 ?Akj ?Afc ?Afd ?Afe ?AgS ?AbW ?AbX ?AbY ?AgT ?AbZ ?Aca ?Acb ?Aej ?Z7 ?Z8 ?Z9 ?Avr ?Avs ?Avt ?Avu ?Acd ?Ayz ?Ay0 ?Aek ?Ay1 ?Ace ?Ay2 ?Au0 ?Arx ?AgU ?Ay3 ?Ary ?Ay4 ?Akk ?XF ?XH ?Akl ?Ael ?Aem ?Acf ?AgV ?Akm ?AgW ?Akn ?Aen ?Ako ?Aap ?Aaq ?Aar ?Aas ?Hr ?Hs ?Aat ?Aau ?Aav ?XJ ?XM ?Aeo ?Aep ?Aeq ?Aer ?Aes ?Aet ?Aeu ?Acg ?Ach ?GZ ?Fv ?KJ ?JN ?KN ?HB ?KQ ?AgX ?AgY ?AgZ ?Aha ?Ahb ?Ahc ?Ahd ?Aev ?Aew ?Aex ?Aey ?Aez ?Ae0 ?Ae1 ?Ae2 ?Ae3 ?Aci ?Acj ?Ahe ?Ahf ?Ahg ?Ahh ?Ahi ?Ahj ?Ahk ?Ae4 ?Ae5 ?Ack ?Acl ?Acm ?Acn ?Aco ?Acp ?Acq ?Aaw ?Aax ?G8 ?J2 ?JP ?J3 ?JQ ?Em ?HX ?Ahl ?Ahm ?Ahn ?Aho ?Ahp ?Ahq ?Ahr ?Ae6 ?Ae7 ?HD ?KR ?Mz ?KY ?M3 ?HY ?G9 ?Arz ?Ar0 ?Au1 ?Ar1 ?Ar2 ?Aoh ?Ar3 ?Aoi ?Ar4 ?Au2 ?Akp ?Au3 ?Aoj ?Ay5 ?Aok ?M5 ?M6 ?M7 ?M8 ?HR ?Aay ?Cy ?UG ?UJ ?Ce ?Aaz ?Cz ?UL ?UT ?Cg ?Aa0 ?CG ?UW ?Va ?Ci ?XN ?Cp ?Te ?Tf ?BL ?Aa1 ?CJ ?Vb ?Vc ?Cj ?M9 ?MF ?MJ ?MK ?J5 ?Pj ?Pk ?Pn ?Pq ?Kq ?MN ?MP ?MT ?Nb ?J7 ?Nf ?Ng ?Nh ?Ni ?J8 ?KZ ?La ?Lb ?Ld ?Jh ?Nj ?Nk ?Nm ?Np ?J9 ?Le ?Lf ?Lg ?Lh ?Ji ?Nq ?Nr ?Nt ?Nu ?JB ?Pr ?Pu ?Px ?Py ?Kr ?JR ?JS ?JT ?JV ?Ib ?Pz ?P0 ?PB ?PJ ?Ks ?Li ?Lj ?Lk ?Ln ?Jj ?QQ ?QR ?QS ?QT ?Ma ?Lp ?Lq ?Lr ?Ls ?Jk ?V6 ?V7 ?QV ?QW ?Mg ?XQ ?XR ?Tg ?Th ?Ov ?Ti ?Tj ?Nv ?Nx ?JC ?Ub ?Uc ?PL ?PN ?Ku ?Qe ?Qf ?Qg ?NK ?Qh ?RG ?RJ ?RK ?Qi ?RL ?Qj ?Qk ?Ql ?NP ?Qm ?Qn ?Qo ?Qp ?NQ ?Qq ?NT ?NZ ?Oa ?Lx ?Ob ?Qs ?Qt ?Qu ?Od ?Qv ?Oe ?Og ?Oh ?Ly ?Oj ?Qw ?Qx ?Qy ?Ol ?Qz ?RM ?RN ?RP ?Q0 ?RQ ?Lz ?LC ?LK ?Kh ?LQ ?RT ?RW ?RX ?Q3 ?RZ ?Om ?Oo ?Oq ?LR ?Ot ?Ve ?Vf ?Vg ?Sh ?Vh ?Akq ?Akr ?Aks ?Akt ?Aku ?Akv ?Akw ?Akx ?Aky ?Akz ?Ahs ?Aht ?Aol ?Aom ?Aon ?Aoo ?Aop ?Aoq ?RD ?O6 ?Aor ?Aos ?Aot ?Aou ?Aov ?Aow ?Kc ?Iz ?Ar5 ?Ar6 ?Ar7 ?Ar8 ?Ar9 ?ArA ?Mm ?Jp ?Aox ?Aoy ?Aoz ?Ao0 ?Ao1 ?Ao2 ?Kd ?IK ?Ao3 ?Ao4 ?Ao5 ?Ao6 ?Ao7 ?Ao8 ?Ke ?IV ?Ak0 ?Ak1 ?Ak2 ?Ak3 ?Ak4 ?Ak5 ?Jq ?HJ ?Ao9 ?AoA ?AoB ?AoC ?AoD ?AoE ?Kf ?IW ?Ak6 ?Ak7 ?Ak8 ?Ak9 ?AkA ?AkB ?Jr ?HN ?AoF ?AoG ?AoH ?AoI ?AoJ ?AoK ?Kg ?Ja ?ArB ?ArC ?ArD ?ArE ?ArF ?ArG ?Mp ?Js ?Ahu ?Ahv ?Ahw ?Ahx ?Ahy ?Ahz ?Jb ?Hc ?ArH ?ArI ?ArJ ?ArK ?ArL ?ArM ?Mq ?Jt ?AkC ?AkD ?AkE ?AkF ?AkG ?AkH ?Ju ?HQ ?Au4 ?Au5 ?Au6 ?Au7 ?Au8 ?Au9 ?O7 ?Kl ?AkI ?AkJ ?AkK ?AkL ?AkM ?AkN ?FZ ?Cu
  (case Akf=>k_is)
  (case AeR=>k_is)
  (case AeS=>k_is)
  (case AeT=>k_is)
  (case AgP=>k_is)
  (case AbH=>k_is)
  (case AbI=>k_is)
  (case AbJ=>k_is)
  (case Akg=>k_is)
  (case AeU=>k_is)
  (case AeV=>k_is)
  (case AeW=>k_is)
  (case AbK=>k_is)
  (case VP=>k_is)
  (case VR=>k_is)
  (case Wa=>k_is)
  (case TY=>k_is)
  (case OD=>k_is)
  (case OJ=>k_is)
  (case Pa=>k_is)
  (case AbL=>k_is)
  (case Wb=>k_is)
  (case Wc=>k_is)
  (case We=>k_is)
  (case Aed=>k_is)
  (case Zn=>k_is)
  (case Zo=>k_is)
  (case Zq=>k_is)
  (case X8=>k_is)
  (case S8=>k_is)
  (case S9=>k_is)
  (case SJ=>k_is)
  (case V2=>k_is)
  (case Q8=>k_is)
  (case Q9=>k_is)
  (case QB=>k_is)
  (case Aee=>k_is)
  (case Zr=>k_is)
  (case Zt=>k_is)
  (case Zu=>k_is)
  (case Arw=>k_is)
  (case Aml=>k_is)
  (case Amm=>k_is)
  (case Amn=>k_is)
  (case V3=>k_is)
  (case QC=>k_is)
  (case QD=>k_is)
  (case QF=>k_is)
  (case XC=>k_is)
  (case SM=>k_is)
  (case SN=>k_is)
  (case SQ=>k_is)
  (case Aai=>k_is)
  (case Um=>k_is)
  (case Uo=>k_is)
  (case Up=>k_is)
  (case V4=>k_is)
  (case QG=>k_is)
  (case QH=>k_is)
  (case QJ=>k_is)
  (case Akh=>k_is)
  (case AeX=>k_is)
  (case AeY=>k_is)
  (case AeZ=>k_is)
  (case AbM=>k_is)
  (case Wf=>k_is)
  (case Wg=>k_is)
  (case Wh=>k_is)
  (case Ua=>k_is)
  (case Pb=>k_is)
  (case Pg=>k_is)
  (case Ph=>k_is)
  (case AgQ=>k_is)
  (case AbN=>k_is)
  (case AbO=>k_is)
  (case AbP=>k_is)
  (case Aki=>k_is)
  (case l_written=>k_is)
  (case Afa=>k_is)
  (case Afb=>k_is)
  (case Aef=>k_is)
  (case Zv=>k_is)
  (case Zw=>k_is)
  (case Zx=>k_is)
  (case XD=>k_is)
  (case SX=>k_is)
  (case Tc=>k_is)
  (case Td=>k_is)
  (case AbQ=>k_is)
  (case Wi=>k_is)
  (case Wj=>k_is)
  (case Wk=>k_is)
  (case Aeg=>k_is)
  (case Zy=>k_is)
  (case Zz=>k_is)
  (case Z0=>k_is)
  (case Aaj=>k_is)
  (case Uq=>k_is)
  (case Ur=>k_is)
  (case Us=>k_is)
  (case Aeh=>k_is)
  (case Z1=>k_is)
  (case Z2=>k_is)
  (case Z3=>k_is)
  (case AgR=>k_is)
  (case AbR=>k_is)
  (case AbS=>k_is)
  (case AbT=>k_is)
  (case Aak=>k_is)
  (case Ut=>k_is)
  (case Uu=>k_is)
  (case Uv=>k_is)
  (case AbU=>k_is)
  (case Wl=>k_is)
  (case Wm=>k_is)
  (case Wn=>k_is)
  (case AbV=>k_is)
  (case Wo=>k_is)
  (case Wq=>k_is)
  (case Wr=>k_is)
  (case Aal=>k_is)
  (case Uw=>k_is)
  (case Ux=>k_is)
  (case Uy=>k_is)
  (case Aam=>k_is)
  (case Uz=>k_is)
  (case U0=>k_is)
  (case U3=>k_is)
  (case Aan=>k_is)
  (case U4=>k_is)
  (case U5=>k_is)
  (case U6=>k_is)
  (case V5=>k_is)
  (case QK=>k_is)
  (case QL=>k_is)
  (case QM=>k_is)
  (case Aei=>k_is)
  (case Z4=>k_is)
  (case Z5=>k_is)
  (case Z6=>k_is)
  (case Aao=>k_is)
  (case U7=>k_is)
  (case U8=>k_is)
  (case U9=>k_is)
  (case Akj=>k_is)
  (case Afc=>k_is)
  (case Afd=>k_is)
  (case Afe=>k_is)
  (case AgS=>k_is)
  (case AbW=>k_is)
  (case AbX=>k_is)
  (case AbY=>k_is)
  (case AgT=>k_is)
  (case AbZ=>k_is)
  (case Aca=>k_is)
  (case Acb=>k_is)
  (case Aej=>k_is)
  (case Z7=>k_is)
  (case Z8=>k_is)
  (case Z9=>k_is)
  (case Avr=>k_is)
  (case Avs=>k_is)
  (case Avt=>k_is)
  (case Avu=>k_is)
  (case Acd=>k_is)
  (case Ayz=>k_is)
  (case Ay0=>k_is)
  (case Aek=>k_is)
  (case Ay1=>k_is)
  (case Ace=>k_is)
  (case Ay2=>k_is)
  (case Au0=>k_is)
  (case Arx=>k_is)
  (case AgU=>k_is)
  (case Ay3=>k_is)
  (case Ary=>k_is)
  (case Ay4=>k_is)
  (case Akk=>k_is)
  (case XF=>k_is)
  (case XH=>k_is)
  (case Akl=>k_is)
  (case Ael=>k_is)
  (case Aem=>k_is)
  (case Acf=>k_is)
  (case AgV=>k_is)
  (case Akm=>k_is)
  (case AgW=>k_is)
  (case Akn=>k_is)
  (case Aen=>k_is)
  (case Ako=>k_is)
  (case Aap=>k_exc)
  (case Aaq=>k_is)
  (case Aar=>k_is)
  (case Aas=>k_is)
  (case Hr=>k_is)
  (case Hs=>k_is)
  (case Aat=>k_is)
  (case Aau=>k_is)
  (case Aav=>k_is)
  (case XJ=>k_is)
  (case XM=>k_is)
  (case Aeo=>k_exc)
  (case Aep=>k_is)
  (case Aeq=>k_is)
  (case Aer=>k_is)
  (case Aes=>k_is)
  (case Aet=>k_is)
  (case Aeu=>k_is)
  (case Acg=>k_is)
  (case Ach=>k_is)
  (case GZ=>k_is)
  (case Fv=>k_is)
  (case KJ=>k_is)
  (case JN=>k_is)
  (case KN=>k_is)
  (case HB=>k_is)
  (case KQ=>k_is)
  (case AgX=>k_exc)
  (case AgY=>k_is)
  (case AgZ=>k_is)
  (case Aha=>k_is)
  (case Ahb=>k_is)
  (case Ahc=>k_is)
  (case Ahd=>k_is)
  (case Aev=>k_is)
  (case Aew=>k_is)
  (case Aex=>k_exc)
  (case Aey=>k_is)
  (case Aez=>k_is)
  (case Ae0=>k_is)
  (case Ae1=>k_is)
  (case Ae2=>k_is)
  (case Ae3=>k_is)
  (case Aci=>k_is)
  (case Acj=>k_is)
  (case Ahe=>k_exc)
  (case Ahf=>k_is)
  (case Ahg=>k_is)
  (case Ahh=>k_is)
  (case Ahi=>k_is)
  (case Ahj=>k_is)
  (case Ahk=>k_is)
  (case Ae4=>k_is)
  (case Ae5=>k_is)
  (case Ack=>k_exc)
  (case Acl=>k_is)
  (case Acm=>k_is)
  (case Acn=>k_is)
  (case Aco=>k_is)
  (case Acp=>k_is)
  (case Acq=>k_is)
  (case Aaw=>k_is)
  (case Aax=>k_is)
  (case G8=>k_is)
  (case J2=>k_is)
  (case JP=>k_is)
  (case J3=>k_is)
  (case JQ=>k_is)
  (case Em=>k_is)
  (case HX=>k_is)
  (case Ahl=>k_exc)
  (case Ahm=>k_is)
  (case Ahn=>k_is)
  (case Aho=>k_is)
  (case Ahp=>k_is)
  (case Ahq=>k_is)
  (case Ahr=>k_is)
  (case Ae6=>k_is)
  (case Ae7=>k_is)
  (case HD=>k_is)
  (case KR=>k_is)
  (case Mz=>k_is)
  (case KY=>k_is)
  (case M3=>k_is)
  (case HY=>k_is)
  (case G9=>k_is)
  (case Arz=>k_is)
  (case Ar0=>k_is)
  (case Au1=>k_is)
  (case Ar1=>k_is)
  (case Ar2=>k_is)
  (case Aoh=>k_is)
  (case Ar3=>k_is)
  (case Aoi=>k_is)
  (case Ar4=>k_is)
  (case Au2=>k_is)
  (case Akp=>k_is)
  (case Au3=>k_is)
  (case Aoj=>k_is)
  (case Ay5=>k_is)
  (case Aok=>k_is)
  (case M5=>k_is)
  (case M6=>k_is)
  (case M7=>k_is)
  (case M8=>k_is)
  (case HR=>k_is)
  (case Aay=>k_is)
  (case Cy=>k_is)
  (case UG=>k_is)
  (case UJ=>k_is)
  (case Ce=>k_is)
  (case Aaz=>k_is)
  (case Cz=>k_is)
  (case UL=>k_is)
  (case UT=>k_is)
  (case Cg=>k_is)
  (case Aa0=>k_is)
  (case CG=>k_is)
  (case UW=>k_is)
  (case Va=>k_is)
  (case Ci=>k_is)
  (case XN=>k_is)
  (case Cp=>k_is)
  (case Te=>k_is)
  (case Tf=>k_is)
  (case BL=>k_is)
  (case Aa1=>k_is)
  (case CJ=>k_is)
  (case Vb=>k_is)
  (case Vc=>k_is)
  (case Cj=>k_is)
  (case M9=>k_is)
  (case MF=>k_is)
  (case MJ=>k_is)
  (case MK=>k_is)
  (case J5=>k_is)
  (case Pj=>k_is)
  (case Pk=>k_is)
  (case Pn=>k_is)
  (case Pq=>k_is)
  (case Kq=>k_is)
  (case MN=>k_is)
  (case MP=>k_is)
  (case MT=>k_is)
  (case Nb=>k_is)
  (case J7=>k_is)
  (case Nf=>k_is)
  (case Ng=>k_is)
  (case Nh=>k_is)
  (case Ni=>k_is)
  (case J8=>k_is)
  (case KZ=>k_is)
  (case La=>k_is)
  (case Lb=>k_is)
  (case Ld=>k_is)
  (case Jh=>k_is)
  (case Nj=>k_is)
  (case Nk=>k_is)
  (case Nm=>k_is)
  (case Np=>k_is)
  (case J9=>k_is)
  (case Le=>k_is)
  (case Lf=>k_is)
  (case Lg=>k_is)
  (case Lh=>k_is)
  (case Ji=>k_is)
  (case Nq=>k_is)
  (case Nr=>k_is)
  (case Nt=>k_is)
  (case Nu=>k_is)
  (case JB=>k_is)
  (case Pr=>k_is)
  (case Pu=>k_is)
  (case Px=>k_is)
  (case Py=>k_is)
  (case Kr=>k_is)
  (case JR=>k_is)
  (case JS=>k_is)
  (case JT=>k_is)
  (case JV=>k_is)
  (case Ib=>k_is)
  (case Pz=>k_is)
  (case P0=>k_is)
  (case PB=>k_is)
  (case PJ=>k_is)
  (case Ks=>k_is)
  (case Li=>k_is)
  (case Lj=>k_is)
  (case Lk=>k_is)
  (case Ln=>k_is)
  (case Jj=>k_is)
  (case QQ=>k_is)
  (case QR=>k_is)
  (case QS=>k_is)
  (case QT=>k_is)
  (case Ma=>k_is)
  (case Lp=>k_is)
  (case Lq=>k_is)
  (case Lr=>k_is)
  (case Ls=>k_is)
  (case Jk=>k_is)
  (case V6=>k_is)
  (case V7=>k_is)
  (case QV=>k_is)
  (case QW=>k_is)
  (case Mg=>k_is)
  (case XQ=>k_is)
  (case XR=>k_is)
  (case Tg=>k_is)
  (case Th=>k_is)
  (case Ov=>k_is)
  (case Ti=>k_is)
  (case Tj=>k_is)
  (case Nv=>k_is)
  (case Nx=>k_is)
  (case JC=>k_is)
  (case Ub=>k_is)
  (case Uc=>k_is)
  (case PL=>k_is)
  (case PN=>k_is)
  (case Ku=>k_is)
  (case Qe=>k_is)
  (case Qf=>k_is)
  (case Qg=>k_is)
  (case NK=>k_is)
  (case Qh=>k_is)
  (case RG=>k_is)
  (case RJ=>k_is)
  (case RK=>k_is)
  (case Qi=>k_is)
  (case RL=>k_is)
  (case Qj=>k_is)
  (case Qk=>k_is)
  (case Ql=>k_is)
  (case NP=>k_is)
  (case Qm=>k_is)
  (case Qn=>k_is)
  (case Qo=>k_is)
  (case Qp=>k_is)
  (case NQ=>k_is)
  (case Qq=>k_is)
  (case NT=>k_is)
  (case NZ=>k_is)
  (case Oa=>k_is)
  (case Lx=>k_is)
  (case Ob=>k_is)
  (case Qs=>k_is)
  (case Qt=>k_is)
  (case Qu=>k_is)
  (case Od=>k_is)
  (case Qv=>k_is)
  (case Oe=>k_is)
  (case Og=>k_is)
  (case Oh=>k_is)
  (case Ly=>k_is)
  (case Oj=>k_is)
  (case Qw=>k_is)
  (case Qx=>k_is)
  (case Qy=>k_is)
  (case Ol=>k_is)
  (case Qz=>k_is)
  (case RM=>k_is)
  (case RN=>k_is)
  (case RP=>k_is)
  (case Q0=>k_is)
  (case RQ=>k_is)
  (case Lz=>k_is)
  (case LC=>k_is)
  (case LK=>k_is)
  (case Kh=>k_is)
  (case LQ=>k_is)
  (case RT=>k_is)
  (case RW=>k_is)
  (case RX=>k_is)
  (case Q3=>k_is)
  (case RZ=>k_is)
  (case Om=>k_is)
  (case Oo=>k_is)
  (case Oq=>k_is)
  (case LR=>k_is)
  (case Ot=>k_is)
  (case Ve=>k_is)
  (case Vf=>k_is)
  (case Vg=>k_is)
  (case Sh=>k_is)
  (case Vh=>k_is)
  (case Akq=>k_is)
  (case Akr=>k_is)
  (case Aks=>exact rfl)
  (case Akt=>k_is)
  (case Aku=>k_is)
  (case Akv=>k_is)
  (case Akw=>exact rfl)
  (case Akx=>exact rfl)
  (case Aky=>exact(by decide))
  (case Akz=>exact(.cons ⟨_,rfl⟩ (.cons ⟨_,rfl⟩ (.cons ⟨_,rfl⟩ (.cons ⟨_,rfl⟩ (.cons ⟨_,rfl⟩ (.cons ⟨_,rfl⟩ (.cons ⟨_,rfl⟩ (.cons ⟨_,rfl⟩ (.cons ⟨_,rfl⟩ (.cons ⟨_,rfl⟩ (.cons ⟨_,rfl⟩ (.cons ⟨_,rfl⟩ .nil)))))))))))))
  (case Ahs=>k_is)
  (case Aht=>kernel_rfl)
  (case Aol=>k_is)
  (case Aom=>k_is)
  (case Aon=>k_is)
  (case Aoo=>k_is)
  (case Aop=>k_is)
  (case Aoq=>k_is)
  (case RD=>k_is)
  (case O6=>k_is)
  (case Aor=>k_is)
  (case Aos=>k_is)
  (case Aot=>k_is)
  (case Aou=>k_is)
  (case Aov=>k_is)
  (case Aow=>k_is)
  (case Kc=>k_is)
  (case Iz=>k_is)
  (case Ar5=>k_is)
  (case Ar6=>k_is)
  (case Ar7=>k_is)
  (case Ar8=>k_is)
  (case Ar9=>k_is)
  (case ArA=>k_is)
  (case Mm=>k_is)
  (case Jp=>k_is)
  (case Aox=>k_is)
  (case Aoy=>k_is)
  (case Aoz=>k_is)
  (case Ao0=>k_is)
  (case Ao1=>k_is)
  (case Ao2=>k_is)
  (case Kd=>k_is)
  (case IK=>k_is)
  (case Ao3=>k_is)
  (case Ao4=>k_is)
  (case Ao5=>k_is)
  (case Ao6=>k_is)
  (case Ao7=>k_is)
  (case Ao8=>k_is)
  (case Ke=>k_is)
  (case IV=>k_is)
  (case Ak0=>k_is)
  (case Ak1=>k_is)
  (case Ak2=>k_is)
  (case Ak3=>k_is)
  (case Ak4=>k_is)
  (case Ak5=>k_is)
  (case Jq=>k_is)
  (case HJ=>k_is)
  (case Ao9=>k_is)
  (case AoA=>k_is)
  (case AoB=>k_is)
  (case AoC=>k_is)
  (case AoD=>k_is)
  (case AoE=>k_is)
  (case Kf=>k_is)
  (case IW=>k_is)
  (case Ak6=>k_is)
  (case Ak7=>k_is)
  (case Ak8=>k_is)
  (case Ak9=>k_is)
  (case AkA=>k_is)
  (case AkB=>k_is)
  (case Jr=>k_is)
  (case HN=>k_is)
  (case AoF=>k_is)
  (case AoG=>k_is)
  (case AoH=>k_is)
  (case AoI=>k_is)
  (case AoJ=>k_is)
  (case AoK=>k_is)
  (case Kg=>k_is)
  (case Ja=>k_is)
  (case ArB=>k_is)
  (case ArC=>k_is)
  (case ArD=>k_is)
  (case ArE=>k_is)
  (case ArF=>k_is)
  (case ArG=>k_is)
  (case Mp=>k_is)
  (case Js=>k_is)
  (case Ahu=>k_is)
  (case Ahv=>k_is)
  (case Ahw=>k_is)
  (case Ahx=>k_is)
  (case Ahy=>k_is)
  (case Ahz=>k_is)
  (case Jb=>k_is)
  (case Hc=>k_is)
  (case ArH=>k_is)
  (case ArI=>k_is)
  (case ArJ=>k_is)
  (case ArK=>k_is)
  (case ArL=>k_is)
  (case ArM=>k_is)
  (case Mq=>k_is)
  (case Jt=>k_is)
  (case AkC=>k_is)
  (case AkD=>k_is)
  (case AkE=>k_is)
  (case AkF=>k_is)
  (case AkG=>k_is)
  (case AkH=>k_is)
  (case Ju=>k_is)
  (case HQ=>k_is)
  (case Au4=>k_is)
  (case Au5=>k_is)
  (case Au6=>k_is)
  (case Au7=>k_is)
  (case Au8=>k_is)
  (case Au9=>k_is)
  (case O7=>k_is)
  (case Kl=>k_is)
  (case AkI=>k_is)
  (case AkJ=>k_is)
  (case AkK=>k_is)
  (case AkL=>k_is)
  (case AkM=>k_is)
  (case AkN=>k_is)
  (case FZ=>k_is)
  (case Cu=>k_is)
 case S=>exact fun K H a ns hl hO hS=>Mine.AqY hl hS
 case C=>exact fun _ _ _ _ z=>z
