import PyProof.Rows.All
import Wide.All
import OpenK.AllK
import Wide.FinOn
import Lean
import PyProof.EqAt
import PyProof.EqKinds
import PyProof.TupleCall
import PyProof.StrBlockL
import PyProof.EnumMake
import PyProof.CollectIter
import PyProof.JoinWalk
import PyProof.StrOps
import PyProof.StrLawsIdx
import PyProof.StrLawsIn
import PyProof.ListRange
import PyProof.Rows.Range3
import PyProof.Rows.SumAny
import KE.KIntText
import KE.LcSums
import OpenK.KCls
import KE.KTabLook
import PyProof.LongRange
import PyProof.StrOps2
import PyProof.FitsBits
import PyProof.Rows.ZipGen
import PyProof.NeKinds
import PyProof.Draws
import KE.KRevIter
import PyProof.ConsumeWalk
import KE.KUnpack
import PyProof.Rows.SeqMore
import PySem.Challenge.RW_heddle_k57_patterns_of_one_word
set_option Elab.async false
set_option linter.all false
set_option maxRecDepth 100000
namespace Zz
def Arp:=@List.length_append
def Arq:=@List.length_map
def Ars:=@List.length_cons
def Art:=@Nat.le_refl
def Aru:=@List.getElem?_eq_getElem
def Arv:=@List.length_nil
def Arw:=@Nat.ne_of_lt
def Arx:=@List.map_cons
def Ary:=@Nat.lt_of_lt_of_le
def Arz:=@List.map_append
def Ar0:=@List.size_toArray
def Ar1:=@List.length_take
def Ar2:=@Bool.false_ne_true
def Ar3:=@List.mem_cons
def Ar4:=@List.not_mem_nil
def Ar5:=@List.take_add_one
def Ar6:=@List.getElem?_map
def Ar7:=@Int.toNat_natCast
def Ar8:=@Nat.lt_irrefl
def Ar9:=@Nat.zero_le
def ArA:=@List.mem_append_right
def ArB:=@List.flatten_cons
def ArC:=@Nat.le_trans
def ArD:=@List.mem_cons_self
def ArE:=@List.mem_of_getElem?
def ArF:=@List.mem_cons_of_mem
def ArG:=@List.getElem_mem
def ArH:=@List.length_range
def ArI:=@List.take_length
def ArJ:=@List.replicate_succ
def ArK:=@List.lookup_cons
def ArL:=@List.length_replicate
def ArM:=@List.length_drop
def ArN:=@List.getD_eq_getElem?_getD
def ArO:=@Nat.min_self
def ArP:=@Bool.and_eq_true
def ArQ:=@List.append_assoc
def ArR:=@List.length_reverse
def ArS:=@List.take_of_length_le
def ArT:=@List.map_nil
def ArU:=@List.getElem?_eq_none
def ArV:=@Nat.mul_comm
def ArW:=@Nat.le_of_eq
def ArX:=@List.length_singleton
def ArY:=@Nat.ne_of_gt
def ArZ:=@Nat.le_succ
def Asa:=@Nat.mul_le_mul
def Asb:=@Int.natCast_mul
def Asc:=@List.map_id
def Asd:=@Int.zero_add
def Ase:=@List.filterMap_cons
def Asf:=@Nat.lt_succ_self
def Asg:=@List.append_nil
def Ash:=@List.of_mem_zip
def Asi:=@List.range_succ
def Asj:=@Nat.mul_pos
def Asl:=@List.length_zip
def Asm:=@List.getElem?_append_right
def Asn:=@List.getElem?_append_left
def Aso:=@List.map_map
def Asp:=@Nat.min_eq_left
def Asq:=@List.takeWhile_cons
def Asr:=@List.mem_append_left
def Ass:=@Bool.eq_iff_iff
def Ast:=@List.sum_cons
def Asu:=@List.ext_getElem?
def Asv:=@Nat.mul_zero
def Asw:=@List.getElem?_cons_succ
def Asx:=@Nat.lt_succ_of_lt
def Asy:=@List.getElem_append_left
def Asz:=@List.length_zipWith
def As0:=@List.flatten_nil
def As1:=@Nat.le_of_lt
def As2:=@List.all_cons
def As3:=@List.foldl_cons
def As4:=@Nat.succ_mul
def As5:=@List.nil_append
def As6:=@List.forIn_cons
def As7:=@List.tail_cons
def As8:=@List.getElem?_reverse
def As9:=@List.filter_cons
def AsA:=@List.all_eq_true
def AsB:=@List.getElem?_range
def AsC:=@List.getElem_replicate
def AsD:=@List.getElem_append_right
def AsE:=@List.cons_append
def AsF:=@Nat.sub_self
def AsG:=@List.flatMap_def
def AsH:=@List.getElem?_drop
def AsI:=@Nat.mod_eq_of_lt
def AsJ:=@List.flatMap_cons
def AsK:=@List.dropWhile_suffix
def AsL:=@List.dropWhile_cons
def AsM:=@List.eq_nil_of_length_eq_zero
end Zz
open Zz
namespace L2
open PySem PySem.Spec PyProof.Rows
abbrev Key:=Sum Int Str
def Am7:Key→Value→Bool
 | .inl k,v=>Value.isInt k v
 | .inr x,v=>Value.isStrOf x v
def Ap1 (w:World):Key→Int
 | .inl k=>hashInt k
 | .inr x=>hashStr w x
theorem HQ:∀{k:Key} {v:Value},Am7 k v=true→(∃ i t,k=Sum.inl i∧v=Value.int i t)∨(∃ x t,k=Sum.inr x∧v=Value.str x t)
 | .inl i,v,h=>by
  obtain⟨t,e⟩:=Value.isInt_shape (k:=i) (v:=v) h
  exact .inl ⟨i,t,rfl,e⟩
 | .inr x,v,h=>by
  obtain⟨t,e⟩:=Value.isStrOf_shape (x:=x) (v:=v) h
  exact .inr ⟨x,t,rfl,e⟩
theorem AmQ(a b:Int):decide ((Sum.inl a:Key)=Sum.inl b)=(a == b):=by
 by_cases e:a=b
 ·subst e;simp
 ·have h:¬(Sum.inl a:Key)=Sum.inl b:=fun q=>e (Sum.inl.inj q)
  rw[decide_eq_false h]
  exact(beq_eq_false_iff_ne.mpr e).symm
theorem AmR(a b:Str):decide ((Sum.inr a:Key)=Sum.inr b)=decide (a=b):=by
 by_cases e:a=b
 ·subst e;simp
 ·have h:¬(Sum.inr a:Key)=Sum.inr b:=fun q=>e (Sum.inr.inj q)
  rw[decide_eq_false h,decide_eq_false e]
theorem AmS(a:Int)(b:Str):decide ((Sum.inl a:Key)=Sum.inr b)=false:=decide_eq_false (fun q=>nomatch q)
theorem AmT(a:Str)(b:Int):decide ((Sum.inr a:Key)=Sum.inl b)=false:=decide_eq_false (fun q=>nomatch q)
def AdS (prog:Program)(w:World):PySem.KeyKind prog w Key where
 is:=Am7
 hash:=Ap1 w
 inj:=fun v a b ha hb=>by
  rcases HQ ha with ⟨i,t,rfl,rfl⟩ | ⟨x,t,rfl,rfl⟩
  ·rcases HQ hb with ⟨j,u,rfl,e⟩ | ⟨y,u,rfl,e⟩
   ·injection e with e1 _;rw[e1]
   ·exact nomatch e
  ·rcases HQ hb with ⟨j,u,rfl,e⟩ | ⟨y,u,rfl,e⟩
   ·exact nomatch e
   ·injection e with e1 _;rw[e1]
 byValue:=fun k v h=>by
  rcases HQ h with ⟨i,t,rfl,rfl⟩ | ⟨x,t,rfl,rfl⟩ <;> rfl
 pyHash:=fun hv h=>by
  rcases HQ hv with ⟨i,t,rfl,rfl⟩ | ⟨x,t,rfl,rfl⟩
  ·exact wpAny_pyHash_int h
  ·exact wpAny_pyHash_str h
 eqBool:=fun hu hv h=>by
  rcases HQ hu with ⟨i,t,rfl,rfl⟩ | ⟨x,t,rfl,rfl⟩
  ·rcases HQ hv with ⟨j,u,rfl,rfl⟩ | ⟨y,u,rfl,rfl⟩
   ·rw[AmQ] at h;exact wpAny_eqBool_int h
   ·rw[AmS] at h;exact SeqAt.EqAt.int_str i t y u _ _ _ _ h
  ·rcases HQ hv with ⟨j,u,rfl,rfl⟩ | ⟨y,u,rfl,rfl⟩
   ·rw[AmT] at h;exact SeqAt.EqAt.str_int x t j u _ _ _ _ h
   ·rw[AmR] at h;exact wpAny_eqBool_str h
 «strs»:=fun k x t v h=>by
  rcases HQ h with ⟨i,u,rfl,e⟩ | ⟨y,u,rfl,e⟩
  ·exact nomatch e
  ·injection e with e1 _
   subst e1
   cases v <;> rfl
open PySem PySem.Spec PyProof.Rows
inductive V where
 | non | bl (b:Bool) | int (i:Int) | str (x:Str) | byt (b:Array UInt8) | flt (b:UInt64) | ref (a:Addr) | ty (n:String)
 deriving DecidableEq
def RelV:V→Value→Prop
 | .non,u=>u=Value.none
 | .bl b,u=>u=Value.bool b
 | .int i,u=>∃ t,u=Value.int i t
 | .str x,u=>∃ t,u=Value.str x t
 | .byt b,u=>∃ t,u=Value.bytes b t
 | .flt b,u=>∃ t,u=Value.float b t
 | .ref a,u=>u=Value.ref a
 | .ty n,u=>u=Value.type n
abbrev Vals:List V→List Value→Prop:=Paired RelV
theorem Vals.length{xs:List V}{us:List Value}(r:Vals xs us):xs.length=us.length:=Paired.length r
theorem Vals.get:∀{xs:List V} {us:List Value} {i:Nat} {x:V},Vals xs us→xs[i]?=some x→∃ u,us[i]?=some u∧RelV x u
 | _,_,_,_,.nil,e=>by simp at e
 | _,_,0,_,.cons r _,e=>by simp at e;subst e;exact⟨_,rfl,r⟩
 | _,_,i+1,x,.cons _ t,e=>by
  obtain⟨u,h1,h2⟩:=Vals.get (i:=i) (x:=x) t (by simpa using e)
  exact⟨u,by simpa using h1,h2⟩
theorem Vals.append:∀{xs ys:List V} {us ws:List Value},Vals xs us→Vals ys ws→Vals (xs++ys) (us++ws)
 | _,_,_,_,.nil,s=>s
 | _,_,_,_,.cons r t,s=>.cons r (Vals.append t s)
theorem Vals.take:∀{xs:List V} {us:List Value} (n:Nat),Vals xs us→Vals (xs.take n) (us.take n)
 | _,_,0,_=>.nil
 | _,_,_+1,.nil=>.nil
 | _,_,n+1,.cons r t=>.cons r (Vals.take n t)
theorem Vals.drop:∀{xs:List V} {us:List Value} (n:Nat),Vals xs us→Vals (xs.drop n) (us.drop n)
 | _,_,0,r=>r
 | _,_,_+1,.nil=>.nil
 | _,_,n+1,.cons _ t=>Vals.drop n t
def AcX:Option V→Option Value→Prop
 | some v,some u=>RelV v u
 | none,none=>True
 | _,_=>False
def KV {κ:Type}:List (κ × V)→List (κ × Value)→Prop:=Paired fun(p:κ × V) (q:κ × Value)=>p.1=q.1∧RelV p.2 q.2
def kV:Key→V
 | .inl i=>.int i
 | .inr x=>.str x
inductive HO where
 | lst (xs:List V)
 | tup (xs:List V)
 | dK (kvs:List (Key × V)) | dT (kvs:List (List Key × V))
 | set (S:Int→Bool) (n:Nat)
 | ins (C dx:Addr) (fs:List (Str × V))
 | own (x:Addr)
 | xd (fs:List (Str × V))
 | met (f x:Addr)
 | rng (lo hi:Int)
 | frz (o:Obj) (u:HO)
 | tbl (ps:Array Value)
 | ext (φ:Heap→Prop)
abbrev Hp:=Addr→Option HO
def upd (H:Hp)(a:Addr)(o:HO):Hp:=fun b=>if b=a then some o else H b
theorem Ad{H:Hp}{a:Addr}{o:HO}:upd H a o a=some o:=by unfold upd;rw[if_pos rfl]
theorem Ba{H:Hp}{a b:Addr}{o:HO}(h:b≠a):upd H a o b=H b:=by unfold upd;rw[if_neg h]
theorem Lf{H:Hp}{a:Addr}{o u:HO}:upd (upd H a o) a u=upd H a u:=by
 funext b;unfold upd;split <;> rfl
theorem Bu{H:Hp}{a b:Addr}{o:HO}(h:H a=some o)(h':H b=none):a≠b:=by
 intro e;subst e;rw[h] at h';cases h'
section
variable (P:Program) (w:World)
def Mq (H:Hp)(h:Heap)(a:Addr):HO→Prop
 | .lst xs=>xs.length≤sizeLine∧∃(its:List Value) (n:Nat),Vals xs its∧h.get? a=some { cls:=.type "list", data:=.seq its.toArray n }
 | .tup xs=>xs.length≤sizeLine∧∃ its:List Value,Vals xs its∧IsTup h a its.toArray
 | .dK kvs=>kvs.length≤sizeLine∧(a == sysModules)=false∧∃ vs,KV kvs vs∧h.DictOf (AdS P w) a vs
 | .dT kvs=>kvs.length≤sizeLine∧(a == sysModules)=false∧∃ xs:List (List Key × Addr × Value),
   Paired (fun(p:List Key × V) (q:List Key × Addr × Value)=>p.1=q.1∧H q.2.1=some (.tup (p.1.map kV))∧RelV p.2 q.2.2) kvs xs ∧
   ∃ o es ep,h.get? a=some o∧o.ExactDict∧o.data=.dict es ep∧es.toList=xs.map (entryOfKey (tupleKind (AdS P w)))∧(xs.map (·.1)).Nodup
 | .set S n=>h.SetOf (intKind P w) a S n
 | .ins C dx fs=>H dx=some (.own a)∧fs.length≤1000∧dx≠a∧h.get? a=some (PySem.W.instObj C dx) ∧
   ∃ mA,h.Ns1 dx mA∧(∀ f,AcX (fs.lookup f) (mA f))∧PySem.Within mA (fs.map (·.1))
 | .own _=>∃ o,h.get? a=some o
 | .xd fs=>∃ mA,h.Ns1 a mA∧∀ f,AcX (fs.lookup f) (mA f)
 | .rng lo hi=>∃ t u v,h.get? a=some { cls:=.type "range", data:=.fields #[.int lo t,.int hi u,.int 1 v] }
 | .frz o u=>h.get? a=some o∧Mq H h a u
 | .tbl ps=>h.get? a=some { cls:=.none,data:=.fields ps }
 | .met f x=>h.get? a=some (PySem.W.methodObj (.ref f) (.ref x))
 | .ext φ=>φ h∧(∃ o,h.get? a=some o)∧∀ h1 h2:Heap,φ h1→(∀ o,h1.get? a=some o→h2.get? a=some o)→φ h2
def HOk (H:Hp)(h:Heap):Prop:=∀ a o,H a=some o→Mq P w H h a o
end
section
variable {P:Program}{w:World}{H H':Hp}{h h':Heap}{a:Addr}{o:HO}
theorem Mq.lt(x:Mq P w H h a o):a<h.objs.size:=by
 cases o with
 | lst xs=>obtain⟨_,_,_,_,e⟩:=x;exact Heap.lt_size e
 | tup xs=>obtain⟨_,_,_,p⟩:=x;exact p.lt
 | dK kvs=>obtain⟨_,_,_,_,o,_,_,e,_⟩:=x;exact Heap.lt_size e
 | dT kvs=>obtain⟨_,_,_,_,o,_,_,e,_⟩:=x;exact Heap.lt_size e
 | set S n=>obtain⟨o,_,_,_,e,_⟩:=x;exact Heap.lt_size e
 | ins C dx fs=>obtain⟨_,_,_,e,_⟩:=x;exact Heap.lt_size e
 | own y=>obtain⟨_,e⟩:=x;exact Heap.lt_size e
 | xd fs=>obtain⟨_,⟨_,_,_,e,_⟩,_⟩:=x;exact Heap.lt_size e
 | rng lo hi=>obtain⟨_,_,_,e⟩:=x;exact Heap.lt_size e
 | frz ob u=>obtain⟨e,_⟩:=x;exact Heap.lt_size e
 | tbl ps=>exact Heap.lt_size (show h.get? a=some _ from x)
 | met f y=>exact Heap.lt_size (show h.get? a=some _ from x)
 | ext φ=>obtain⟨_,⟨_,e⟩,_⟩:=x;exact Heap.lt_size e
theorem Paired.Aol{α β:Type}{F G:α→β→Prop}:∀{l₁:List α} {l₂:List β},Paired F l₁ l₂→(∀ a b,F a b→G a b)→Paired G l₁ l₂
 | _,_,.nil,_=>.nil
 | _,_,.cons r t,f=>.cons (f _ _ r) (Paired.Aol t f)
theorem Mq.stay(x:Mq P w H h a o)(k:∀ b u,(b=a∨H b=some (.own a))→h.get? b=some u→h'.get? b=some u)
  (ho:∀ b,H b=some (.own a)→H' b=some (.own a)) (ht:∀ b xs,H b=some (.tup xs)→H' b=some (.tup xs)):Mq P w H' h' a o:=by
 induction o with
 | lst xs=>obtain⟨z,its,n,r,e⟩:=x;exact⟨z,its,n,r,k _ _ (.inl rfl) e⟩
 | tup xs=>obtain⟨z,its,r,ob,e,c⟩:=x;exact⟨z,its,r,ob,k _ _ (.inl rfl) e,c⟩
 | dK kvs=>obtain⟨z,y,vs,r,ob,es,ep,e,c⟩:=x;exact⟨z,y,vs,r,ob,es,ep,k _ _ (.inl rfl) e,c⟩
 | dT kvs =>
  obtain⟨z,y,xs,r,ob,es,ep,e,c⟩:=x
  exact⟨z,y,xs,Paired.Aol r fun p q z=>⟨z.1,ht _ _ z.2.1,z.2.2⟩,ob,es,ep,k _ _ (.inl rfl) e,c⟩
 | set S n=>obtain⟨ob,es,ep,t,e,c⟩:=x;exact⟨ob,es,ep,t,k _ _ (.inl rfl) e,c⟩
 | ins C dx fs =>
  obtain⟨d,z,ne,e,mA,⟨od,es,ep,e2,c⟩,r⟩:=x
  exact⟨ho _ d,z,ne,k _ _ (.inl rfl) e,mA,⟨od,es,ep,k _ _ (.inr d) e2,c⟩,r⟩
 | own y=>obtain⟨ob,e⟩:=x;exact⟨ob,k _ _ (.inl rfl) e⟩
 | xd fs=>obtain⟨mA,⟨od,es,ep,e,c⟩,r⟩:=x;exact⟨mA,⟨od,es,ep,k _ _ (.inl rfl) e,c⟩,r⟩
 | rng lo hi=>obtain⟨t,u,v,e⟩:=x;exact⟨t,u,v,k _ _ (.inl rfl) e⟩
 | frz ob u ih=>obtain⟨e,q⟩:=x;exact⟨k _ _ (.inl rfl) e,ih q⟩
 | tbl ps =>
  have e:h.get? a=some { cls:=.none,data:=.fields ps }:=x
  show h'.get? a=some { cls:=.none,data:=.fields ps }
  exact k a _ (.inl rfl) e
 | met f y =>
  have e:h.get? a=some (PySem.W.methodObj (.ref f) (.ref y)):=x
  show h'.get? a=some (PySem.W.methodObj (.ref f) (.ref y))
  exact k a _ (.inl rfl) e
 | ext φ=>obtain⟨p,⟨o,e⟩,st⟩:=x;exact⟨st _ _ p fun o q=>k _ _ (.inl rfl) q,⟨o,k _ _ (.inl rfl) e⟩,st⟩
theorem HOk.lt(x:HOk P w H h)(e:H a=some o):a<h.objs.size:=(x a o e).lt
theorem HOk.fresh(x:HOk P w H h)(e:h.objs.size≤a):H a=none:=by
 cases q:H a with
 | none=>rfl
 | some u=>exact absurd (Ary (x.lt q) e) (Ar8 _)
theorem HOk.kept(x:HOk P w H h)(k:∀ b u,h.get? b=some u→h'.get? b=some u):HOk P w H h':=fun a o e =>
 (x a o e).stay (fun b u _ q=>k b u q) (fun _ q=>q) fun _ _ q=>q
theorem HOk.laid(x:HOk P w H h)(k:∀ b u,h.get? b=some u→h'.get? b=some u)(hp:h.objs.size≤a)(new:Mq P w (upd H a o) h' a o):HOk P w (upd H a o) h':=fun b u e=>by
 have hn:=x.fresh hp
 by_cases hb:b=a
 ·subst hb;rw[Ad] at e;cases e;exact new
 ·rw[Ba hb] at e
  exact(x b u e).stay (fun c v _ q=>k c v q) (fun c q=>by rw[Ba (Bu q hn)];exact q) fun c xs q=>by rw[Ba (Bu q hn)];exact q
end
def Rd (H:Hp)(a:Addr)(u:HO):Prop:=H a=some u∨∃ o,H a=some (.frz o u)
theorem Rd.ok{P:Program}{w:World}{H:Hp}{h:Heap}{a:Addr}{u:HO}(r:Rd H a u)(x:HOk P w H h):Mq P w H h a u:=by
 rcases r with r | ⟨o,r⟩
 ·exact x a u r
 ·obtain⟨_,q⟩:=x a _ r
  exact q
def Mut:Option HO→Prop
 | some (.lst _)=>True
 | some (.dK _)=>True
 | some (.dT _)=>True
 | some (.set _ _)=>True
 | some (.ins _ _ _)=>True
 | some (.ext _)=>True
 | _=>False
section
variable {P:Program}{w:World}{H:Hp}{h h':Heap}{x e:Addr}{o':HO}
theorem HOk.write(ok:HOk P w H h)(mu:Mut (H x))(he:e=x∨H e=some (.own x))(k:∀ b u,b≠e→h.get? b=some u→h'.get? b=some u)(heo:∃ u,h'.get? e=some u)
  (new:Mq P w (upd H x o') h' x o'):HOk P w (upd H x o') h':=fun b u q=>by
 have Aom:∀ c y,H c=some (.own y)→c≠x:=fun c y r z=>by subst z;rw[r] at mu;exact mu
 have Ap2:∀ c xs,H c=some (.tup xs)→c≠x:=fun c xs r z=>by subst z;rw[r] at mu;exact mu
 by_cases hb:b=x
 ·subst hb;rw[Ad] at q;cases q;exact new
 ·rw[Ba hb] at q
  by_cases hbe:b=e
  ·have q':H b=some (.own x):=by
    rcases he with z | z
    ·exact absurd (hbe.trans z) hb
    ·rw[hbe];exact z
   rw[q] at q';cases q'
   obtain⟨v,hv⟩:=heo
   exact⟨v,by rw[hbe];exact hv⟩
  ·refine(ok b u q).stay (fun c v hc r=>k c v ?_ r) (fun c r=>by rw[Ba (Aom c b r)];exact r) fun c xs r=>by rw[Ba (Ap2 c xs r)];exact r
   rcases hc with rfl | hc
   ·exact hbe
   ·rintro rfl
    rcases he with z | z
    ·exact Aom c b hc z
    ·rw[hc] at z;cases z;exact hb rfl
end
structure Un (fs ex:List Addr) (H H':Hp) (h h':Heap):Prop where
 keep:∀ b o,h.get? b=some o→H b=none→b∉fs→b∉ex→h'.get? b=some o
 slot:∀ b o,h.get? b=some o→H b=none→b∈fs→b∉ex→∃ sl,h'.get? b=some { o with slots:=sl }
 free:∀ b o,h.get? b=some o→H b=none→b∉ex→H' b=none
 there:∀ b o,h.get? b=some o→b∉ex→∃ o',h'.get? b=some o'
 tups:∀ b xs,H b=some (.tup xs)→H' b=some (.tup xs)
 Ri:∀ b o u,H b=some (.frz o u)→H' b=some (.frz o u)
 S9:∀ b ps,H b=some (.tbl ps)→∃ more,H' b=some (.tbl (ps++more))
section
variable {fs fs' ex ex':List Addr}{H H1 H2:Hp}{h h1 h2 h':Heap}{a x e:Addr}{o:HO}
theorem Un.any(u:Un fs ex H H1 h h1){b:Addr}{ob:Obj}(q:h.get? b=some ob)(n:H b=none)(hx:b∉ex):∃ sl,h1.get? b=some { ob with slots:=sl }:=by
 by_cases hb:b∈fs
 ·exact u.slot b ob q n hb hx
 ·exact⟨ob.slots,u.keep b ob q n hb hx⟩
theorem Un.kept(k:∀ b u,h.get? b=some u→h'.get? b=some u):Un fs ex H H h h' :=
 ⟨fun b ob q _ _ _=>k b ob q,fun b ob q _ _ _=>⟨ob.slots,k b ob q⟩,fun _ _ _ n _=>n,fun b ob q _=>⟨ob,k b ob q⟩,fun _ _ q=>q,fun _ _ _ q=>q,fun _ ps q=>⟨#[],by rw[q];simp⟩⟩
theorem Un.refl:Un fs ex H H h h:=Un.kept fun _ _ q=>q
theorem Un.laid(k:∀ b u,h.get? b=some u→h'.get? b=some u)(hp:h.objs.size≤a)(hn:H a=none):Un fs ex H (upd H a o) h h' where
 keep:=fun b u q _ _ _=>k b u q
 slot:=fun b u q _ _ _=>⟨u.slots,k b u q⟩
 free:=fun b u q n _=>by rw[Ba (Arw (Ary (Heap.lt_size q) hp))];exact n
 there:=fun b u q _=>⟨u,k b u q⟩
 tups:=fun b xs q=>by rw[Ba (Bu q hn)];exact q
 Ri:=fun b u xs q=>by rw[Ba (Bu q hn)];exact q
 S9:=fun b ps q=>⟨#[],by rw[Ba (Bu q hn),q];simp⟩
theorem Un.write(mu:Mut (H x))(he:e=x∨H e=some (.own x))(k:∀ b u,b≠e→h.get? b=some u→h'.get? b=some u)(heo:∃ u,h'.get? e=some u):Un fs ex H (upd H x o) h h':=by
 have hx:∀ b,H b=none→b≠x:=fun b n z=>by subst z;rw[n] at mu;exact mu
 have hb:∀ b,H b=none→b≠e:=fun b n z=>by
  subst z
  rcases he with r | r
  ·exact hx b n r
  ·rw[n] at r;cases r
 have hm:∀ b u,H b=some u→¬Mut (some u)→b≠x:=fun b u q nm z=>by subst z;rw[q] at mu;exact nm mu
 refine⟨fun b u q n _ _=>k b u (hb b n) q,fun b u q n _ _=>⟨u.slots,k b u (hb b n) q⟩,fun b u q n _=>by rw[Ba (hx b n)];exact n,fun b u q _=>?_,
  fun b xs q=>by rw[Ba (hm b _ q fun z=>z)];exact q,fun b u xs q=>by rw[Ba (hm b _ q fun z=>z)];exact q,fun b ps q=>⟨#[],by rw[Ba (hm b _ q fun z=>z),q];simp⟩⟩
 by_cases hbe:b=e
 ·subst hbe;exact heo
 ·exact⟨u,k b u hbe q⟩
end
def trk (h:Heap)(H:Hp):List Addr:=(List.range h.objs.size).filter fun a=>(H a).isSome
def AdT (h:Heap)(H:Hp):Heap:=PySem.W.hideAll h (trk h H)
theorem Aih(h:Heap)(H:Hp):(AdT h H).objs.size=h.objs.size:=PySem.W.hideAll_size _ _
theorem Aju{h:Heap}{H:Hp}{b:Addr}{o:Obj}(e:h.get? b=some o)(n:H b=none):(AdT h H).get? b=some o :=
 PySem.W.hideAll_get _ e fun hm=>by
  have q:(H b).isSome=true:=(List.mem_filter.mp hm).2
  rw[n] at q;simp at q
theorem Aly{h:Heap}{H:Hp}{b:Addr}{o:Obj}(e:(AdT h H).get? b=some o):h.get? b=some o∧H b=none:=by
 have e':h.get? b=some o:=PySem.W.of_hideAll (trk h H) e
 refine⟨e',?_⟩
 cases q:H b with
 | none=>rfl
 | some x =>
  have hm:b∈trk h H:=List.mem_filter.mpr ⟨List.mem_range.mpr (Heap.lt_size e'),by simp[q]⟩
  have z:(AdT h H).get? b=none:=PySem.W.hideAll_none (trk h H) hm
  rw[z] at e;cases e
def Alz (g h:Heap)(L:Addr):List (Addr × Obj):=(List.range h.objs.size).filterMap fun a=>if a=L∨(g.get? a).isSome=true then none else (h.get? a).map fun o=>(a,o)
def rest(g h:Heap)(L d:Addr):List (Addr × Obj):=(Alz g h L).filter fun p=>decide (p.1≠d)
open PySem PySem.Spec PyProof.Rows
structure Mod (K:PySem.W.Frag) (mg:Str→Option Value) (base:Heap):Prop where
 kin:K.In base
 glob:base.Ns mainGlobals mg
 blt:∃ mb,base.Ns builtinsNs mb∧∀ x:Str,x ≠ "__name__" → mb x=bootBuiltins x
 nolimit:base.NoLimit
structure Cx where
 prog:Program
 w:World
 K:PySem.W.Frag
 mg:Str→Option Value
 base:Heap
 A:Around
 N:List Str
 s₀:Shared
 H₀:Hp
 env:Env
 outer:List Env
 stack:List Env
 ex:List Addr
 fn:Str→Bool
 calm:Bool
 pn:List (Addr × Obj)
 xe:Value→Shared→Prop
def frs (l:List Env):List Addr:=l.filterMap (·.frame)
abbrev Cx.fs (X:Cx):List Addr:=frs X.outer
def Vis (sc:Scope)(x:Str):Prop:=sc.names.lookup x=some .local∨sc.names.lookup x=some .cell∨sc.names.lookup x=some .free
def Loc (sc:Scope)(x:Str):Prop:=sc.names.lookup x=some .local∨sc.names.lookup x=some .cell
def Look(env:Env)(h:Heap)(m:Str→Option Value)(x:Str)(u:Value):Prop :=
 (env.kindOf x=some .local∧m x=some u)∨((env.kindOf x=some .cell∨env.kindOf x=some .free)∧∃ c,env.cells.lookup x=some c∧h.IsCell c (some u))
structure Cx.Ok (X:Cx):Prop where
 mod:Mod X.K X.mg X.base
 kind:X.env.scope.kind=.function
 glob:X.env.globals=mainGlobals
 blt:X.env.builtins=builtinsNs
 above:X.s₀.heap.objs.size≤X.env.locals
 inj:∀ x y c,X.env.cells.lookup x=some c→X.env.cells.lookup y=some c→x=y
 has:∀ x,(X.env.kindOf x=some .cell∨X.env.kindOf x=some .free)→∃ c,X.env.cells.lookup x=some c
 cab:∀ x c,X.fn x=true→X.env.cells.lookup x=some c→X.s₀.heap.objs.size≤c
 hd:X.calm=true→X.A.handled=none
 frames:X.A.frames=some X.stack
 stk:X.stack=X.outer∨(X.stack=X.env::X.outer∧X.env.frame=some X.env.locals)
 exf:∀ b∈X.ex,b≠X.env.locals∧∀ x c,X.env.cells.lookup x=some c→c≠b
 bs:∀ b o,X.base.get? b=some o→X.s₀.heap.get? b=some o∧X.H₀ b=none
 bsz:X.base.objs.size≤X.s₀.heap.objs.size
 AaU:∀ b o,X.base.get? b=some o→b∉X.ex
 Z9:∀ b∈X.ex,b∉X.fs
 VG:X.s₀.heap.FunFrames X.base X.outer
 frf:∀ b∈X.fs,X.H₀ b=none
structure Inv (X:Cx) (pins:List (Addr × Obj)) (σ:List (Option V)) (H:Hp) (s:Shared):Prop where
 ok:X.Ok
 os:s.os=X.s₀.os
 bare:AllBare s.gens
 base:Un X.fs X.ex X.H₀ H X.s₀.heap s.heap
 loc:∃ m,s.heap.Ns X.env.locals m∧∀(i:Nat) (x:Str) (v:V),X.N[i]?=some x→σ[i]?=some (some v)→Vis X.env.scope x→∃ u,RelV v u∧Look X.env s.heap m x u
 cell:∀ x c,X.env.cells.lookup x=some c→∃ v,s.heap.IsCell c v
 free:H X.env.locals=none
 Q7:∀ x c,X.env.cells.lookup x=some c→H c=none
 pin:∀ p∈X.pn++pins,s.heap.get? p.1=some p.2∧H p.1=none∧p.1≠X.env.locals∧p.1∉X.fs∧∀ v,p.2.data≠.cell v
 hok:HOk X.prog X.w H s.heap
 len:σ.length=X.N.length
section
variable {X:Cx}{pins:List (Addr × Obj)}{σ:List (Option V)}{H H':Hp}{s:Shared}{h':Heap}
theorem Cx.Ok.Ap3(ok:X.Ok){b:Addr}{o:Obj}(e:X.base.get? b=some o):b∉X.fs:=fun hb=>by
 have:=(ok.VG.mem hb).1
 rw[e] at this;cases this
theorem Inv.bs(I:Inv X pins σ H s):∀ b o,X.base.get? b=some o→s.heap.get? b=some o∧H b=none:=fun b o e =>
 ⟨I.base.keep b o (I.ok.bs b o e).1 (I.ok.bs b o e).2 (I.ok.Ap3 e) (I.ok.AaU b o e),I.base.free b o (I.ok.bs b o e).1 (I.ok.bs b o e).2 (I.ok.AaU b o e)⟩
theorem Inv.bk(I:Inv X pins σ H s):∀ b o,X.base.get? b=some o→s.heap.get? b=some o:=fun b o e=>(I.bs b o e).1
theorem Inv.mod(I:Inv X pins σ H s):Mod X.K X.mg X.base:=I.ok.mod
theorem Inv.kIn(I:Inv X pins σ H s):X.K.In s.heap:=I.ok.mod.kin.keeps I.bk
theorem Inv.lt(I:Inv X pins σ H s):X.env.locals<s.heap.objs.size:=let ⟨_,hn,_⟩:=I.loc;hn.lt
theorem Inv.sz(I:Inv X pins σ H s):X.s₀.heap.objs.size≤s.heap.objs.size:=ArC I.ok.above (As1 I.lt)
theorem Inv.Ap4(I:Inv X pins σ H s){a:Addr}(h:s.heap.objs.size≤a):a∉X.fs:=fun hb=>by
 obtain⟨_,o,ho,_⟩:=I.ok.VG.mem hb
 exact absurd (Ary (Heap.lt_size ho) (ArC I.sz h)) (Ar8 _)
theorem Inv.cne(I:Inv X pins σ H s):∀ x c,X.env.cells.lookup x=some c→c≠X.env.locals:=fun x c e z=>by
 obtain⟨v,o,ho,hd⟩:=I.cell x c e
 obtain⟨m,⟨o',es,ep,ho',hd',_⟩,_⟩:=I.loc
 rw[z,ho'] at ho;cases ho;rw[hd'] at hd;cases hd
theorem Inv.VG(I:Inv X pins σ H s):s.heap.FunFrames X.base X.outer:=by
 have all:∀(l:List Env),(∀ b∈frs l,b∈X.fs)→X.s₀.heap.FunFrames X.base l→s.heap.FunFrames X.base l:=by
  intro l
  induction l with
  | nil=>intro _ _;trivial
  | cons env r ih =>
   intro hs hl
   obtain⟨hk,⟨L,o,hf,hn,ho,hd⟩,hr⟩:=hl
   have hL:L∈X.fs:=hs L (by unfold frs;rw[Ase,hf];exact ArD)
   obtain⟨sl,e⟩:=I.base.slot L o ho (I.ok.frf L hL) hL fun z=>I.ok.Z9 L z hL
   exact⟨hk,⟨L,_,hf,hn,e,hd⟩,ih (fun b hb=>hs b (by unfold frs;rw[Ase,hf];exact ArF _ hb)) hr⟩
 exact all X.outer (fun _ hb=>hb) I.ok.VG
theorem Inv.stack(I:Inv X pins σ H s):s.heap.FunFrames X.base X.stack:=by
 rcases I.ok.stk with e | ⟨e,hf⟩
 ·rw[e];exact I.VG
 ·rw[e]
  obtain⟨m,hn,_⟩:=I.loc
  refine .cons (by rw[I.ok.kind];decide) hf hn ?_ I.VG
  exact Heap.get?_none_of_le (ArC I.ok.bsz I.ok.above)
theorem Inv.ZC(I:Inv X pins σ H s):∀ b∈frs X.stack,b∈X.env.locals::X.fs:=fun b hb=>by
 rcases I.ok.stk with e | ⟨e,hf⟩
 ·rw[e] at hb;exact ArF _ hb
 ·rw[e] at hb
  unfold frs at hb
  rw[Ase,hf] at hb
  exact hb
theorem Inv.Xa(I:Inv X pins σ H s):∀ b∈frs X.stack,H b=none:=fun b hb=>by
 rcases List.mem_cons.mp (I.ZC b hb) with e | hb
 ·rw[e];exact I.free
 ·obtain⟨_,o,ho,_⟩:=I.ok.VG.mem hb
  exact I.base.free b o ho (I.ok.frf b hb) fun z=>I.ok.Z9 b z hb
theorem Inv.step{g':Array GenState}{t':Nat}{d':Drawn}{ch:List Addr}(I:Inv X pins σ H s)
  (hch:∀ b∈ch,(b∈X.ex∨X.s₀.heap.objs.size≤b)∧b≠X.env.locals∧(∀ x c,X.env.cells.lookup x=some c→c≠b)∧∀ p∈X.pn++pins,p.1≠b)
  (keep:∀ b o,b≠X.env.locals→b∉X.fs→b∉ch→s.heap.get? b=some o→H b=none→h'.get? b=some o)
  (slot:∀ b o,b≠X.env.locals→b∈X.fs→b∉ch→s.heap.get? b=some o→H b=none→∃ sl,h'.get? b=some { o with slots:=sl }) (free:∀ b o,b∉ch→s.heap.get? b=some o→H b=none→H' b=none)
  (there:∀ b o,b∉ch→s.heap.get? b=some o→∃ o',h'.get? b=some o')
  (tups:∀ b xs,H b=some (.tup xs)→H' b=some (.tup xs)) (Ri:∀ b o u,H b=some (.frz o u)→H' b=some (.frz o u)) (S9:∀ b ps,H b=some (.tbl ps)→∃ more,H' b=some (.tbl (ps++more)))
  (ns:∀ m,s.heap.Ns X.env.locals m→h'.Ns X.env.locals m) (hok:HOk X.prog X.w H' h') (hg:AllBare g') :
  Inv X pins σ H' { s with heap:=h',gens:=g',drawn:=d',toks:=t' }:=by
 have neL:∀ b o,X.s₀.heap.get? b=some o→b≠X.env.locals:=fun b o e=>Arw (Ary (Heap.lt_size e) I.ok.above)
 have neC:∀ b o,X.s₀.heap.get? b=some o→b∉X.ex→b∉ch:=fun b o e hx hb=>by
  rcases(hch b hb).1 with z | z
  ·exact hx z
  ·exact absurd (Ary (Heap.lt_size e) z) (Ar8 _)
 have cellK:∀ x c,X.env.cells.lookup x=some c→∀ v,s.heap.IsCell c v→h'.IsCell c v:=fun x c e v ⟨o,ho,hd⟩=>by
  have nch:c∉ch:=fun z=>(hch c z).2.2.1 x c e rfl
  by_cases hc:c∈X.fs
  ·obtain⟨sl,q⟩:=slot c o (I.cne x c e) hc nch ho (I.Q7 x c e)
   exact⟨_,q,hd⟩
  ·exact⟨o,keep c o (I.cne x c e) hc nch ho (I.Q7 x c e),hd⟩
 refine⟨I.ok,I.os,hg,⟨fun b o e n hb hx=>?_,fun b o e n hb hx=>?_,fun b o e n hx=>?_,fun b o e hx=>?_,fun b xs e=>tups b xs (I.base.tups b xs e),fun b o xs e=>Ri b o xs (I.base.Ri b o xs e),fun b ps e=>?_⟩,?_,fun x c e=>?_,?_,fun x c e=>?_,fun p hp=>?_,hok,I.len⟩
 ·exact keep b o (neL b o e) hb (neC b o e hx) (I.base.keep b o e n hb hx) (I.base.free b o e n hx)
 ·obtain⟨sl,e1⟩:=I.base.slot b o e n hb hx
  obtain⟨sl',e2⟩:=slot b _ (neL b o e) hb (neC b o e hx) e1 (I.base.free b o e n hx)
  exact⟨sl',e2⟩
 ·obtain⟨o',e1⟩:=I.base.there b o e hx
  exact free b o' (neC b o e hx) e1 (I.base.free b o e n hx)
 ·obtain⟨o',e1⟩:=I.base.there b o e hx
  exact there b o' (neC b o e hx) e1
 ·obtain⟨m1,e1⟩:=I.base.S9 b ps e
  obtain⟨m2,e2⟩:=S9 b _ e1
  exact⟨m1++m2,by rw[e2,Array.append_assoc]⟩
 ·obtain⟨m,hn,hl⟩:=I.loc
  refine⟨m,ns m hn,fun i x v e1 e2 e3=>?_⟩
  obtain⟨u,r,l⟩:=hl i x v e1 e2 e3
  refine⟨u,r,?_⟩
  rcases l with l | ⟨k,c,e,z⟩
  ·exact .inl l
  ·exact .inr ⟨k,c,e,cellK x c e _ z⟩
 ·obtain⟨v,z⟩:=I.cell x c e
  exact⟨v,cellK x c e v z⟩
 ·obtain⟨m,⟨o,_,_,ho,_⟩,_⟩:=I.loc
  exact free _ o (fun z=>(hch _ z).2.1 rfl) ho I.free
 ·obtain⟨v,o,ho,hd⟩:=I.cell x c e
  exact free c o (fun z=>(hch c z).2.2.1 x c e rfl) ho (I.Q7 x c e)
 ·obtain⟨e,n,ne,nf,d⟩:=I.pin p hp
  have nch:p.1∉ch:=fun z=>(hch p.1 z).2.2.2 p hp rfl
  exact⟨keep p.1 p.2 ne nf nch e n,free p.1 p.2 nch e n,ne,nf,d⟩
theorem Inv.un{t':Nat}(I:Inv X pins σ H s)(u:Un X.fs [] H H' s.heap h')(hok:HOk X.prog X.w H' h'):Inv X pins σ H' { s with heap:=h',toks:=t' }:=by
 obtain⟨m,⟨o,es,ep,ho,r⟩,_⟩:=id I.loc
 obtain⟨sl,hL⟩:=u.any ho I.free (by simp)
 exact I.step (g':=s.gens) (d':=s.drawn) (ch:=[]) (fun _ z=>nomatch z) (fun b o _ hb _ e n=>u.keep b o e n hb (by simp)) (fun b o _ hb _ e n=>u.slot b o e n hb (by simp)) (fun b o _ e n=>u.free b o e n (by simp)) (fun b o _ e=>u.there b o e (by simp)) u.tups u.Ri u.S9 (fun m' hm=>by
  obtain⟨o',es',ep',ho',r'⟩:=hm
  rw[ho] at ho';cases ho'
  exact⟨_,es',ep',hL,r'⟩) hok I.bare
theorem Inv.call{g':Array GenState}{t':Nat}{d':Drawn}{ch:List Addr}(I:Inv X pins σ H s)(u:Un (frs X.stack) ch H H' s.heap h')(hok:HOk X.prog X.w H' h')(hg:AllBare g')
  (hch:∀ b∈ch,(b∈X.ex∨X.s₀.heap.objs.size≤b)∧b≠X.env.locals∧(∀ x c,X.env.cells.lookup x=some c→c≠b)∧∀ p∈X.pn++pins,p.1≠b) :
  Inv X pins σ H' { s with heap:=h',gens:=g',drawn:=d',toks:=t' }:=by
 obtain⟨m,⟨o,es,ep,ho,r⟩,_⟩:=id I.loc
 obtain⟨sl,hL⟩:=u.any ho I.free fun z=>(hch _ z).2.1 rfl
 exact I.step (ch:=ch) hch (fun b o hL hb hc e n=>u.keep b o e n (fun z=>(List.mem_cons.mp (I.ZC b z)).elim hL hb) hc) (fun b o _ _ hc e n=>u.any e n hc) (fun b o hc e n=>u.free b o e n hc) (fun b o hc e=>u.there b o e hc) u.tups u.Ri u.S9 (fun m' hm=>by
  obtain⟨o',es',ep',ho',r'⟩:=hm
  rw[ho] at ho';cases ho'
  exact⟨_,es',ep',hL,r'⟩) hok hg
theorem Inv.turned{t':Nat}{it:Addr}(I:Inv X pins σ H s)(k:∀ b o,b≠it→s.heap.get? b=some o→h'.get? b=some o)(hn:H it=none)(hL:it≠X.env.locals)
  (h1:it∈X.ex∨X.s₀.heap.objs.size≤it) (h2:∀ x c,X.env.cells.lookup x=some c→c≠it) (h3:∀ p∈X.pn++pins,p.1≠it):Inv X pins σ H { s with heap:=h',toks:=t' }:=by
 have nit:∀ b u,H b=some u→b≠it:=fun b u e z=>by rw[z,hn] at e;cases e
 refine I.step (g':=s.gens) (d':=s.drawn) (ch:=[it]) (fun b hb=>?_) (fun b o _ _ hc e _=>k b o (fun z=>hc (by simp[z])) e) (fun b o _ _ hc e _=>⟨o.slots,k b o (fun z=>hc (by simp[z])) e⟩) (fun _ _ _ _ n=>n)
  (fun b o hc e=>⟨o,k b o (fun z=>hc (by simp[z])) e⟩) (fun _ _ e=>e) (fun _ _ _ e=>e) (fun b ps e=>⟨#[],by rw[e];simp⟩) (fun m hm=>?_) (fun b u e=>?_) I.bare
 ·have e:b=it:=by simpa using hb
  subst e
  exact⟨h1,hL,h2,h3⟩
 ·obtain⟨o,es,ep,ho,r⟩:=hm
  exact⟨o,es,ep,k _ o (Ne.symm hL) ho,r⟩
 ·refine(I.hok b u e).stay (fun c v hc q=>k c v ?_ q) (fun _ q=>q) fun _ _ q=>q
  rcases hc with z | z
  ·rw[z];exact nit b u e
  ·exact nit c _ z
theorem Inv.tok(I:Inv X pins σ H s)(t:Nat):Inv X pins σ H { s with toks:=t }:=I.un (h':=s.heap) (t':=t) Un.refl I.hok
theorem Inv.kept{t':Nat}(I:Inv X pins σ H s)(k:∀ b u,s.heap.get? b=some u→h'.get? b=some u):Inv X pins σ H { s with heap:=h',toks:=t' }:=I.un (Un.kept k) (I.hok.kept k)
theorem Inv.laid{a:Addr}{o:HO}{t':Nat}(I:Inv X pins σ H s)(k:∀ b u,s.heap.get? b=some u→h'.get? b=some u)(hp:s.heap.objs.size≤a)(new:Mq X.prog X.w (upd H a o) h' a o) :
  Inv X pins σ (upd H a o) { s with heap:=h',toks:=t' }:=I.un (Un.laid k hp (I.hok.fresh hp)) (I.hok.laid k hp new)
theorem Inv.write{x e:Addr}{o:HO}{t':Nat}(I:Inv X pins σ H s)(mu:Mut (H x))(he:e=x∨H e=some (.own x))(k:∀ b u,b≠e→s.heap.get? b=some u→h'.get? b=some u)(heo:∃ u,h'.get? e=some u)
  (new:Mq X.prog X.w (upd H x o) h' x o):Inv X pins σ (upd H x o) { s with heap:=h',toks:=t' }:=I.un (Un.write mu he k heo) (I.hok.write mu he k heo new)
theorem Inv.JX{Am8:List (Addr × Obj)}(I:Inv X pins σ H s)(h:∀ p∈Am8,s.heap.get? p.1=some p.2∧H p.1=none∧p.1≠X.env.locals∧p.1∉X.fs∧∀ v,p.2.data≠.cell v):Inv X Am8 σ H s :=
 ⟨I.ok,I.os,I.bare,I.base,I.loc,I.cell,I.free,I.Q7,fun p hp=>(List.mem_append.mp hp).elim (fun z=>I.pin p (Asr _ z)) (h p),I.hok,I.len⟩
theorem Afc{N:List Str}(hN:N.Nodup){i j:Nat}{x:Str}(a:N[i]?=some x)(b:N[j]?=some x):i=j:=by
 obtain⟨h1,e1⟩:=List.getElem?_eq_some_iff.mp a
 obtain⟨h2,e2⟩:=List.getElem?_eq_some_iff.mp b
 exact(List.getElem_inj hN).mp (e1.trans e2.symm)
theorem Xb{M:Model}{A:Around}{E:Value→Shared→Prop}{i:Nat}{x:Str}{v:V}{u:Value}{Q:Unit→Shared→Prop}(I:Inv X pins σ H s)(hN:X.N.Nodup)(hi:X.N[i]?=some x)(hx:Loc X.env.scope x)(r:RelV v u)
  (h:∀ s',Inv X pins (σ.set i (some v)) H s'→(∃ a,Heap.SameBut a s.heap s'.heap∧(a=X.env.locals∨X.env.cells.lookup x=some a))→Q () s') (hf:X.fn x=true∨X.env.scope.names.lookup x=some .local:=by first | exact .inl rfl | exact .inr rfl | assumption):wpAny M A (storeName X.env x u) Q E s:=by
 obtain⟨m,hn,hl⟩:=id I.loc
 have hcls:(X.env.scope.kind == .class || (X.env.scope.kind == .module && X.env.locals != X.env.globals))=false:=by rw[I.ok.kind];rfl
 have hiσ:i<σ.length:=by rw[I.len];exact(List.getElem?_eq_some_iff.mp hi).1
 have cne:=I.cne
 have tracked:∀{a:Addr} {h':Heap},(∃ o,s.heap.get? a=some o∧H a=none)→Heap.SameBut a s.heap h'→HOk X.prog X.w H h':=fun {a h'} ha hs b ob e=>by
  obtain⟨_,_,hfree⟩:=ha
  refine(I.hok b ob e).stay (fun c w' hc q=>(hs.2 c ?_).trans q) (fun _ q=>q) fun _ _ q=>q
  rintro rfl
  rcases hc with rfl | hc
  ·rw[hfree] at e;cases e
  ·rw[hfree] at hc;cases hc
 rcases hx with hk | hk
 ·refine wpAny_storeName_local hk hn (fun h' hn' hs=>?_) hcls
  obtain⟨oL,_,_,hoL,_⟩:=id hn
  refine h _ ⟨I.ok,I.os,I.bare,⟨fun b o e n hb hx=>?_,fun b o e n hb hx=>?_,I.base.free,fun b o e hx=>?_,I.base.tups,I.base.Ri,I.base.S9⟩,⟨_,hn',fun j y v' e1 e2 e3=>?_⟩,fun y c e=>?_,I.free,I.Q7,fun p hp=>?_,tracked ⟨oL,hoL,I.free⟩ hs,by simpa using I.len⟩ ⟨_,hs,.inl rfl⟩
  ·exact(hs.2 b (Arw (Ary (Heap.lt_size e) I.ok.above))).trans (I.base.keep b o e n hb hx)
  ·obtain⟨sl,e1⟩:=I.base.slot b o e n hb hx
   exact⟨sl,(hs.2 b (Arw (Ary (Heap.lt_size e) I.ok.above))).trans e1⟩
  ·obtain⟨o',e1⟩:=I.base.there b o e hx
   exact⟨o',(hs.2 b (Arw (Ary (Heap.lt_size e) I.ok.above))).trans e1⟩
  ·by_cases hj:j=i
   ·subst hj
    rw[hi] at e1;cases e1
    rw[List.getElem?_set_self hiσ] at e2
    cases e2
    exact⟨u,r,.inl ⟨hk,by simp⟩⟩
   ·rw[List.getElem?_set_ne (Ne.symm hj)] at e2
    obtain⟨u',r',q⟩:=hl j y v' e1 e2 e3
    refine⟨u',r',?_⟩
    rcases q with ⟨k,e⟩ | ⟨k,c,e,z⟩
    ·refine .inl ⟨k,?_⟩
     have:y≠x:=fun e=>hj (Afc hN e1 (e▸hi))
     simp[this,e]
    ·exact .inr ⟨k,c,e,z.sameBut hs (cne y c e)⟩
  ·obtain⟨w',z⟩:=I.cell y c e
   exact⟨w',z.sameBut hs (cne y c e)⟩
  ·obtain⟨e,n,ne,nf,d⟩:=I.pin p hp
   exact⟨(hs.2 p.1 ne).trans e,n,ne,nf,d⟩
 ·have hfn:X.fn x=true:=by
   rcases hf with z | z
   ·exact z
   ·rw[z] at hk;cases hk
  obtain⟨c,hc⟩:=I.ok.has x (.inl hk)
  obtain⟨w',z⟩:=I.cell x c hc
  refine wpAny_storeName_cell I.ok.kind hk hc z (fun h' hc' hs=>?_)
  obtain⟨oc,hoc,Ap5⟩:=id z
  refine h { s with heap:=h' } ⟨I.ok,I.os,I.bare,⟨fun b o e n hb hx=>?_,fun b o e n hb hx=>?_,I.base.free,fun b o e hx=>?_,I.base.tups,I.base.Ri,I.base.S9⟩,⟨m,hn.sameBut hs (Ne.symm (cne x c hc)),fun j y v' e1 e2 e3=>?_⟩,fun y c' e=>?_,I.free,I.Q7,fun p hp=>?_,tracked ⟨oc,hoc,I.Q7 x c hc⟩ hs,by simpa using I.len⟩ ⟨c,hs,.inr hc⟩
  ·exact(hs.2 b (Arw (Ary (Heap.lt_size e) (I.ok.cab x c hfn hc)))).trans (I.base.keep b o e n hb hx)
  ·obtain⟨sl,e1⟩:=I.base.slot b o e n hb hx
   exact⟨sl,(hs.2 b (Arw (Ary (Heap.lt_size e) (I.ok.cab x c hfn hc)))).trans e1⟩
  ·obtain⟨o',e1⟩:=I.base.there b o e hx
   exact⟨o',(hs.2 b (Arw (Ary (Heap.lt_size e) (I.ok.cab x c hfn hc)))).trans e1⟩
  ·by_cases hj:j=i
   ·subst hj
    rw[hi] at e1;cases e1
    rw[List.getElem?_set_self hiσ] at e2
    cases e2
    exact⟨u,r,.inr ⟨.inl hk,c,hc,hc'⟩⟩
   ·rw[List.getElem?_set_ne (Ne.symm hj)] at e2
    obtain⟨u',r',q⟩:=hl j y v' e1 e2 e3
    refine⟨u',r',?_⟩
    rcases q with q | ⟨k,c',e,z'⟩
    ·exact .inl q
    ·refine .inr ⟨k,c',e,z'.sameBut hs ?_⟩
     rintro rfl
     exact hj (Afc hN e1 (I.ok.inj _ _ _ e hc▸hi))
  ·by_cases hcc:c'=c
   ·subst hcc;exact⟨_,hc'⟩
   ·obtain⟨w2,z2⟩:=I.cell y c' e
    exact⟨w2,z2.sameBut hs hcc⟩
  ·obtain⟨e,n,ne,nf,d⟩:=I.pin p hp
   refine⟨(hs.2 p.1 ?_).trans e,n,ne,nf,d⟩
   intro q
   rw[q,hoc] at e
   have q':oc=p.2:=Option.some.inj e
   exact d w' (by rw[← q'];exact Ap5)
theorem AbG{M:Model}{A:Around}{E:Value→Shared→Prop}{i:Nat}{x:Str}{v:V}{u:Value}{Q:Unit→Shared→Prop}(I:Inv X pins σ H s)(hN:X.N.Nodup)(hi:X.N[i]?=some x)(hx:Loc X.env.scope x)(r:RelV v u)
  (h:∀ s',Inv X pins (σ.set i (some v)) H s'→Q () s') (hf:X.fn x=true∨X.env.scope.names.lookup x=some .local:=by first | exact .inl rfl | exact .inr rfl | assumption):wpAny M A (storeName X.env x u) Q E s :=
 Xb I hN hi hx r (fun s' I' _=>h s' I') hf
theorem Inv.call'{s':Shared}{ch:List Addr}(I:Inv X pins σ H s)(ho:s'.os=s.os)(u:Un (frs X.stack) ch H H' s.heap s'.heap)(hok:HOk X.prog X.w H' s'.heap)(hg:AllBare s'.gens)
  (hch:∀ b∈ch,(b∈X.ex∨X.s₀.heap.objs.size≤b)∧b≠X.env.locals∧(∀ x c,X.env.cells.lookup x=some c→c≠b)∧∀ p∈X.pn++pins,p.1≠b):Inv X pins σ H' s':=by
 obtain⟨h',g',d',t',o'⟩:=s'
 have e:o'=s.os:=ho
 subst e
 exact I.call (g':=g') (t':=t') (d':=d') u hok hg hch
end
abbrev XK:=Value→Option Addr→Hp→Prop
abbrev St:=List (Option V)
abbrev VK:=V→Hp→Prop
abbrev TE:=St→Hp→VK→Prop
abbrev TT:=St→Hp→(Bool→Hp→Prop)→Prop
abbrev TA:=St→Hp→(List V→Hp→Prop)→Prop
structure Ends where
 nx:St→Hp→Prop
 rt:VK
 bk:St→Hp→Prop:=fun _ _=>False
 ct:St→Hp→Prop:=fun _ _=>False
abbrev TS:=Ends→St→Hp→Prop
def EP (X:Cx)(pins:List (Addr × Obj))(σ:St)(Q:VK)(u:Value)(s':Shared):Prop:=∃ v H',Inv X pins σ H' s'∧RelV v u∧Q v H'
def TP (X:Cx)(pins:List (Addr × Obj))(σ:St)(Q:Bool→Hp→Prop)(b:Bool)(s':Shared):Prop:=∃ H',Inv X pins σ H' s'∧Q b H'
def AP (X:Cx)(pins:List (Addr × Obj))(σ:St)(Q:List V→Hp→Prop)(us:List Value)(s':Shared):Prop:=∃ vs H',Inv X pins σ H' s'∧Vals vs us∧Q vs H'
def SP (X:Cx)(pins:List (Addr × Obj))(D:Ends)(f:Flow)(s':Shared):Prop :=
 match f with
 | .next=>∃ σ' H',Inv X pins σ' H' s'∧D.nx σ' H'
 | .brk=>∃ σ' H',Inv X pins σ' H' s'∧D.bk σ' H'
 | .cont=>∃ σ' H',Inv X pins σ' H' s'∧D.ct σ' H'
 | .ret u=>∃ v σ' H',Inv X pins σ' H' s'∧RelV v u∧D.rt v H'
def PE (X:Cx)(e:Expr)(t:TE):Prop :=
 ∀(pins:List (Addr × Obj)) (s:Shared) (σ:St) (H:Hp) (Q:VK),Inv X pins σ H s→t σ H Q→wpAny (model X.prog X.w) X.A (eval e X.env) (EP X pins σ Q) X.xe s
def PT (X:Cx)(e:Expr)(t:TT):Prop :=
 ∀(pins:List (Addr × Obj)) (s:Shared) (σ:St) (H:Hp) (Q:Bool→Hp→Prop),Inv X pins σ H s→t σ H Q→wpAny (model X.prog X.w) X.A (isTrue e X.env (eval e X.env)) (TP X pins σ Q) X.xe s
def PW (X:Cx)(e:Expr)(t:TT):Prop :=
 ∀(whole:Sem Value) (pins:List (Addr × Obj)) (s:Shared) (σ:St) (H:Hp) (Q:Bool→Hp→Prop),Inv X pins σ H s→t σ H Q→wpAny (model X.prog X.w) X.A (isTrue e X.env whole) (TP X pins σ Q) X.xe s
theorem PW.pt{X:Cx}{e:Expr}{t:TT}(h:PW X e t):PT X e t:=h _
def PA (X:Cx)(es:List Expr)(t:TA):Prop :=
 ∀(pos:Pos) (pins:List (Addr × Obj)) (s:Shared) (σ:St) (H:Hp) (Q:List V→Hp→Prop),Inv X pins σ H s→t σ H Q→wpAny (model X.prog X.w) X.A (spliced (backTo pos (starEach es X.env))) (AP X pins σ Q) X.xe s
def PS (X:Cx)(st:Stmt)(t:TS):Prop :=
 ∀(pins:List (Addr × Obj)) (s:Shared) (σ:St) (H:Hp) (D:Ends),Inv X pins σ H s→t D σ H→wpAny (model X.prog X.w) X.A (exec st X.env) (SP X pins D) X.xe s
def PSs (X:Cx)(st:List Stmt)(t:TS):Prop :=
 ∀(pins:List (Addr × Obj)) (s:Shared) (σ:St) (H:Hp) (D:Ends),Inv X pins σ H s→t D σ H→wpAny (model X.prog X.w) X.A (execs st X.env) (SP X pins D) X.xe s
theorem thn{α:Type}{t:Sem α}{Q Q':α→Shared→Prop}{M:Model}{A:Around}{E:Value→Shared→Prop}{s:Shared}(h:wpAny M A t Q E s)(hQ:∀ a s,Q a s→Q' a s):wpAny M A t Q' E s:=wpAny_mono h hQ fun _ _ x=>x
open PySem PySem.Spec PyProof.Rows
section
variable {X:Cx}
def Aon (i:Nat):TE:=fun σ H Q=>∃ v,σ[i]?=some (some v)∧Q v H
def tC (v:V):TE:=fun _ H Q=>Q v H
theorem AmU{i:Nat}{x:Str}{pos:Pos}(hN:X.N[i]?=some x)(hv:Vis X.env.scope x)(hd:(x == ("__debug__" : Str))=false:=by decide) (hcd:(x == ("__classdict__" : Str))=false:=by decide):PE X (.Name x pos) (Aon i):=by
 intro pins s σ H Q I h
 obtain⟨v,e,h⟩:=h
 obtain⟨m,hn,hl⟩:=I.loc
 obtain⟨u,r,l⟩:=hl i x v hN e hv
 have fin:EP X pins σ Q u s:=⟨v,H,I,r,h⟩
 rcases l with ⟨hk,hm⟩ | ⟨hk,c,hc,hcell⟩
 ·exact wpAny_Name (wpAny_loadName_local I.ok.kind hk hn hm fin) hd
 ·rcases hk with hk | hk
  ·exact wpAny_Name (wpAny_loadName_cell I.ok.kind hk hc hcell fin) hd
  ·exact wpAny_Name (wpAny_loadName_free I.ok.kind hk hc hcell fin hcd) hd
theorem Ak{i j pos}:PE X (.Constant (.int i) j pos) (tC (.int i)):=fun _ _ _ H _ I h=>wpAny_Constant_int ⟨.int i,H,I.tok _,⟨_,rfl⟩,h⟩
theorem Adz{b j pos}:PE X (.Constant (.bool b) j pos) (tC (.bl b)):=fun _ _ _ H _ I h=>Constant_bool ⟨.bl b,H,I,rfl,h⟩
theorem Py{j pos}:PE X (.Constant .none j pos) (tC .non):=fun _ _ _ H _ I h=>Constant_none ⟨.non,H,I,rfl,h⟩
theorem Ag{x j pos}:PE X (.Constant (.str x) j pos) (tC (.str x)):=fun _ _ _ H _ I h=>Calls.Constant_str ⟨.str x,H,I.tok _,⟨_,rfl⟩,h⟩
def Gl (X:Cx)(x:Str):Prop:=X.env.kindOf x=some .globalImplicit
theorem Xc{E:Value→Shared→Prop}{pins:List (Addr × Obj)}{s:Shared}{σ:St}{H:Hp}{x:Str}{u:Value}{pos:Pos}{Q:Value→Shared→Prop}(I:Inv X pins σ H s)(hg:Gl X x)(hm:X.mg x=some u)(h:Q u s)
  (hd:(x == ("__debug__" : Str))=false:=by decide):wpAny (model X.prog X.w) X.A (eval (.Name x pos) X.env) Q E s :=
 Calls.Name_function_global I.ok.kind hg (Calls.loadGlobal_global (by rw[I.ok.glob];exact I.mod.glob.keeps I.bk) hm h) hd
theorem Pz{E:Value→Shared→Prop}{pins:List (Addr × Obj)}{s:Shared}{σ:St}{H:Hp}{x:Str}{u:Value}{pos:Pos}{Q:Value→Shared→Prop}(I:Inv X pins σ H s)(hg:Gl X x)(hm:X.mg x=none)(hv:bootBuiltins x=some u)(h:Q u s)
  (hn:x ≠ "__name__" := by decide) (hd:(x == ("__debug__" : Str))=false:=by decide):wpAny (model X.prog X.w) X.A (eval (.Name x pos) X.env) Q E s:=by
 obtain⟨mb,h1,h2⟩:=I.mod.blt
 exact Calls.Name_function_global I.ok.kind hg (Calls.loadGlobal_builtin (by rw[I.ok.glob];exact I.mod.glob.keeps I.bk) hm (by rw[I.ok.blt];exact h1.keeps I.bk) ((h2 x hn).trans hv) h) hd
theorem Cv{x:Str}{v:V}{u:Value}{pos:Pos}(hg:Gl X x)(hm:X.mg x=some u)(r:RelV v u)(hd:(x == ("__debug__" : Str))=false:=by decide):PE X (.Name x pos) (tC v) :=
 fun _ _ _ H _ I h=>Xc I hg hm ⟨v,H,I,r,h⟩ hd
theorem Ahu{x:Str}{v:V}{u:Value}{pos:Pos}(hg:Gl X x)(hm:X.mg x=none)(hv:bootBuiltins x=some u)(r:RelV v u)(hn:x ≠ "__name__" := by decide) (hd:(x == ("__debug__" : Str))=false:=by decide):PE X (.Name x pos) (tC v) :=
 fun _ _ _ H _ I h=>Pz I hg hm hv ⟨v,H,I,r,h⟩ hn hd
def t2I (ta tb:TE)(k:Int→Int→Hp→Prop):St→Hp→Prop:=fun σ H=>ta σ H fun x H1=>tb σ H1 fun y H2=>∃ i j,x=.int i∧y=.int j∧k i j H2
def AqF (ta tb:TE):TE:=fun σ H Q=>t2I ta tb (fun i j H2=>Q (.int (i+j)) H2) σ H
def AqG (ta tb:TE):TE:=fun σ H Q=>t2I ta tb (fun i j H2=>Q (.int (i-j)) H2) σ H
def AqH (ta tb:TE):TE:=fun σ H Q=>t2I ta tb (fun i j H2=>(-(2 ^ 64)<i∧i<2 ^ 64)∧Q (.int (i*j)) H2) σ H
variable {a b:Expr}{ta tb:TE}{pos:Pos}
def PC (X:Cx)(op:CmpOp)(a b:Expr)(t:TE):Prop :=
 ∀(pins:List (Addr × Obj)) (s:Shared) (σ:St) (H:Hp) (Q:VK),Inv X pins σ H s→t σ H Q →
  wpAny (model X.prog X.w) X.A (eval a X.env) (fun v s₁=>wpAny (model X.prog X.w) X.A (eval b X.env) (fun u s₂=>wpAny (model X.prog X.w) X.A (compareOp op v u) (EP X pins σ Q) X.xe s₂) X.xe s₁) X.xe s
theorem Ajv(b:Expr){op:CmpOp}(h:op≠.In)(h2:op≠.NotIn):behindInMarks op b=false:=by
 have e1:(op == CmpOp.In)=false:=by cases op <;> first | rfl | exact absurd rfl h
 have e2:(op == CmpOp.NotIn)=false:=by cases op <;> first | rfl | exact absurd rfl h2
 cases b <;> simp[behindInMarks,e1,e2]
def Aii (p:Int→Int→Bool)(ta tb:TE):TE:=fun σ H Q=>t2I ta tb (fun i j H2=>Q (.bl (p i j)) H2) σ H
abbrev tLt:TE→TE→TE:=Aii fun i j=>decide (i<j)
abbrev tLe:TE→TE→TE:=Aii fun i j=>decide (i≤j)
abbrev tGt:TE→TE→TE:=Aii fun i j=>decide (j<i)
abbrev tGe:TE→TE→TE:=Aii fun i j=>decide (j≤i)
abbrev AqI:TE→TE→TE:=Aii fun i j=>decide (i=j)
abbrev AqJ:TE→TE→TE:=Aii fun i j=>!decide (i=j)
def AqK (ta:TE):TE:=fun σ H Q=>ta σ H fun x H1=>Q (.bl (decide (x=.non))) H1
def Aqv (ta:TE):TE:=fun σ H Q=>ta σ H fun x H1=>Q (.bl (!decide (x=.non))) H1
def tB (t:TE):TT:=fun σ H Q=>t σ H fun x H1=>∃ c,x=.bl c∧Q c H1
theorem AmV{op:CmpOp}{t:TE}(h:PC X op a b t)(h1:behindInMarks op b=false:=by first | exact Ajv _ (by decide) (by decide) | rfl):PT X (.Compare a [op] [b] pos) (tB t):=by
 intro pins s σ H Q I hw
 refine wpAny_isTrue_Compare1 (thn (h pins s σ H _ I hw) fun v s1 h1=>thn h1 fun u s2 h2=>thn h2 fun c s3 ⟨x,H1,I1,r1,q1⟩=>?_) h1
 obtain⟨d,rfl,q⟩:=q1
 cases r1
 exact wpAny_truthy_bool ⟨H1,I1,q⟩
theorem N7{e:Expr}{t:TE}(h:PE X e t)(he:∀ whole,isTrue e X.env whole=(do let v ← whole;standAt e.pos;holding [v] (truthy v)):=by intro _;rfl):PT X e (tB t):=by
 intro pins s σ H Q I hw
 refine isTrue_plain (thn (h pins s σ H _ I hw) fun v s1 ⟨x,H1,I1,r1,q1⟩=>?_) (he _)
 obtain⟨d,rfl,q⟩:=q1
 cases r1
 exact wpAny_truthy_bool ⟨H1,I1,q⟩
variable {tA tB':TT}{rest:List Expr}
def Ap6 (t u:TT):TT:=fun σ H Q=>t σ H fun c H1=>if c=true then u σ H1 Q else Q false H1
def tOr (t u:TT):TT:=fun σ H Q=>t σ H fun c H1=>if c=true then Q true H1 else u σ H1 Q
def Ap7 (t:TT):TT:=fun σ H Q=>t σ H fun c H1=>Q (!c) H1
theorem pw_and1(ha:PT X a tA):PW X (.BoolOp .And [a] pos) tA:=by
 intro wh pins s σ H Q I h
 refine isTrue_and (thn (ha pins s σ H Q I h) fun c s1 e=>?_)
 cases c with
 | true=>exact isTrue_and_nil e
 | false=>exact e
theorem pw_or1(ha:PT X a tA):PW X (.BoolOp .Or [a] pos) tA:=by
 intro wh pins s σ H Q I h
 refine isTrue_or (thn (ha pins s σ H Q I h) fun c s1 e=>?_)
 cases c with
 | false=>exact isTrue_or_nil e
 | true=>exact e
theorem pw_and(ha:PT X a tA)(hb:PW X (.BoolOp .And (b::rest) pos) tB'):PW X (.BoolOp .And (a::b::rest) pos) (Ap6 tA tB'):=by
 intro wh pins s σ H Q I h
 refine isTrue_and (thn (ha pins s σ H _ I h) fun c s1 ⟨H1,I1,q1⟩=>?_)
 cases c with
 | true=>exact hb wh pins s1 σ H1 Q I1 q1
 | false=>exact⟨H1,I1,q1⟩
theorem pw_or(ha:PT X a tA)(hb:PW X (.BoolOp .Or (b::rest) pos) tB'):PW X (.BoolOp .Or (a::b::rest) pos) (tOr tA tB'):=by
 intro wh pins s σ H Q I h
 refine isTrue_or (thn (ha pins s σ H _ I h) fun c s1 ⟨H1,I1,q1⟩=>?_)
 cases c with
 | true=>exact⟨H1,I1,q1⟩
 | false=>exact hb wh pins s1 σ H1 Q I1 q1
theorem QR(ha:PT X a tA):PT X (.UnaryOp .Not a pos) (Ap7 tA):=by
 intro pins s σ H Q I h
 exact isTrue_not (ha pins s σ H (fun c H1=>Q (!c) H1) I h)
def Aoo (ta tb:TE):TE:=fun σ H Q=>ta σ H fun x H1=>∃ c,x=.bl c∧if c=true then tb σ H1 Q else Q (.bl false) H1
def AqL (ta tb:TE):TE:=fun σ H Q=>ta σ H fun x H1=>∃ c,x=.bl c∧if c=true then Q (.bl true) H1 else tb σ H1 Q
def Aop (ta:TE):TE:=fun σ H Q=>ta σ H fun x H1=>∃ c,x=.bl c∧Q (.bl (!c)) H1
theorem Agq{op}{t:TE}(h:PE X a t):PE X (.BoolOp op [a] pos) t:=fun pins s σ H Q I hw=>BoolOp_one (h pins s σ H Q I hw)
theorem Agr(ha:PE X a ta)(hb:PE X (.BoolOp .And (b::rest) pos) tb):PE X (.BoolOp .And (a::b::rest) pos) (Aoo ta tb):=by
 intro pins s σ H Q I h
 refine BoolOp_and (thn (ha pins s σ H _ I h) fun v s1 ⟨x,H1,I1,r1,q1⟩=>?_)
 obtain⟨c,rfl,q1⟩:=q1
 cases r1
 refine wpAny_truthy_bool ?_
 cases c with
 | true=>exact hb pins s1 σ H1 Q I1 q1
 | false=>exact⟨.bl false,H1,I1,rfl,q1⟩
theorem AmW(ha:PE X a ta):PE X (.UnaryOp .Not a pos) (Aop ta):=by
 intro pins s σ H Q I h
 refine UnaryOp_ (thn (ha pins s σ H _ I h) fun v s1 ⟨x,H1,I1,r1,q1⟩=>?_)
 obtain⟨c,rfl,q1⟩:=q1
 cases r1
 exact not_of (wpAny_truthy_bool ⟨.bl (!c),H1,I1,rfl,q1⟩)
def tIf (t:TT)(ta tb:TE):TE:=fun σ H Q=>t σ H fun c H1=>if c=true then ta σ H1 Q else tb σ H1 Q
theorem Ov{c:Expr}(hc:PT X c tA)(ha:PE X a ta)(hb:PE X b tb):PE X (.IfExp c a b pos) (tIf tA ta tb):=by
 intro pins s σ H Q I h
 refine wpAny_IfExp (thn (hc pins s σ H _ I h) fun d s1 ⟨H1,I1,q1⟩=>?_)
 cases d with
 | true=>exact ha pins s1 σ H1 Q I1 q1
 | false=>exact hb pins s1 σ H1 Q I1 q1
end
open PySem PySem.Spec PyProof.Rows
def SqL (K:PySem.W.Frag)(H:Hp)(a:Addr)(xs:List V):Prop :=
 Rd H a (.lst xs) ∨
  ∃(o:Obj) (its:Array Value) (n:Nat),K.lookup a=some o∧o.cls=.type "list" ∧ o.dict=none∧o.data=.seq its n∧its.size≤sizeLine∧Vals xs its.toList
def SqT (K:PySem.W.Frag)(H:Hp)(a:Addr)(xs:List V):Prop :=
 Rd H a (.tup xs) ∨
  ∃(o:Obj) (its:Array Value) (n:Nat),K.lookup a=some o∧o.cls=.type "tuple" ∧ o.data=.seq its n∧its.size≤sizeLine∧Vals xs its.toList
def Ap8:Value→Option V
 | .none=>some .non
 | .bool b=>some (.bl b)
 | .int i _=>some (.int i)
 | .str x _=>some (.str x)
 | .bytes b _=>some (.byt b)
 | .float b _=>some (.flt b)
 | .ref a=>some (.ref a)
 | .type n=>some (.ty n)
 | _=>none
theorem RelV.abs{x:V}{u:Value}(r:RelV x u):Ap8 u=some x:=by
 cases x with
 | non=>cases r;rfl
 | bl _=>cases r;rfl
 | int _=>obtain⟨t,rfl⟩:=r;rfl
 | str _=>obtain⟨t,rfl⟩:=r;rfl
 | byt _=>obtain⟨t,rfl⟩:=r;rfl
 | flt _=>obtain⟨t,rfl⟩:=r;rfl
 | ref _=>cases r;rfl
 | ty _=>cases r;rfl
theorem RelV.inj{x y:V}{u:Value}(r:RelV x u)(q:RelV y u):x=y:=Option.some.inj (r.abs.symm.trans q.abs)
theorem Vals.inj:∀{xs ys:List V} {us:List Value},Vals xs us→Vals ys us→xs=ys
 | _,_,_,.nil,.nil=>rfl
 | _,_,_,.cons r t,.cons r' t'=>by rw[r.inj r',Vals.inj t t']
section
variable {X:Cx}{pins:List (Addr × Obj)}{σ:St}{H:Hp}{s:Shared}{a:Addr}{xs ys:List V}
theorem SqL.of{K:PySem.W.Frag}(h:H a=some (.lst xs)):SqL K H a xs:=.inl (.inl h)
theorem SqT.of{K:PySem.W.Frag}(h:H a=some (.tup xs)):SqT K H a xs:=.inl (.inl h)
theorem Inv.list(I:Inv X pins σ H s)(h:SqL X.K H a xs):∃ its:List Value,Vals xs its∧PlainL s.heap a its.toArray∧xs.length≤sizeLine:=by
 rcases h with h | ⟨o,its,n,hk,hc,hd,hs,hz,r⟩
 ·obtain⟨z,its,n,r,e⟩:=h.ok I.hok
  exact⟨its,r,⟨_,n,e,rfl,rfl,rfl⟩,z⟩
 ·refine⟨its.toList,r,⟨o,n,I.kIn a o hk,hc,hd,by simpa using hs⟩,?_⟩
  have e:=r.length
  simp only [Array.length_toList] at e
  omega
theorem Inv.tuple(I:Inv X pins σ H s)(h:SqT X.K H a xs):∃ its:List Value,Vals xs its∧IsTup s.heap a its.toArray∧xs.length≤sizeLine:=by
 rcases h with h | ⟨o,its,n,hk,hc,hs,hz,r⟩
 ·obtain⟨z,its,r,p⟩:=h.ok I.hok
  exact⟨its,r,p,z⟩
 ·refine⟨its.toList,r,⟨o,I.kIn a o hk,hc,n,by simpa using hs⟩,?_⟩
  have e:=r.length
  simp only [Array.length_toList] at e
  omega
theorem Inv.R0(I:Inv X pins σ H s)(h:SqL X.K H a xs)(h':SqL X.K H a ys):xs=ys:=by
 obtain⟨its,r,⟨o,n,e,_,_,d⟩,_⟩:=I.list h
 obtain⟨its',r',⟨o',n',e',_,_,d'⟩,_⟩:=I.list h'
 rw[e] at e';cases e'
 rw[d] at d'
 injection d' with d1 _
 have:its=its':=by simpa using congrArg Array.toList d1
 subst this
 exact r.inj r'
end
abbrev Cx.wish (X:Cx) (E:Value→Shared→Prop):Cx:={ X with xe:=E }
abbrev Cx.nox (X:Cx):Cx:=X.wish fun _ _=>False
theorem Cx.Ok.wish{X:Cx}(ok:X.Ok)(E:Value→Shared→Prop):(X.wish E).Ok :=
 ⟨ok.mod,ok.kind,ok.glob,ok.blt,ok.above,ok.inj,ok.has,ok.cab,ok.hd,ok.frames,ok.stk,ok.exf,ok.bs,ok.bsz,ok.AaU,ok.Z9,ok.VG,ok.frf⟩
theorem Cx.Ok.Ow{X:Cx}{E:Value→Shared→Prop}(ok:(X.wish E).Ok):X.Ok :=
 ⟨ok.mod,ok.kind,ok.glob,ok.blt,ok.above,ok.inj,ok.has,ok.cab,ok.hd,ok.frames,ok.stk,ok.exf,ok.bs,ok.bsz,ok.AaU,ok.Z9,ok.VG,ok.frf⟩
section
variable {X:Cx}{pins:List (Addr × Obj)}{σ:St}{H:Hp}{s:Shared}{E:Value→Shared→Prop}
theorem Inv.wish(I:Inv X pins σ H s)(E:Value→Shared→Prop):Inv (X.wish E) pins σ H s:=⟨I.ok.wish E,I.os,I.bare,I.base,I.loc,I.cell,I.free,I.Q7,I.pin,I.hok,I.len⟩
theorem Inv.Ow(I:Inv (X.wish E) pins σ H s):Inv X pins σ H s:=⟨I.ok.Ow,I.os,I.bare,I.base,I.loc,I.cell,I.free,I.Q7,I.pin,I.hok,I.len⟩
theorem SP.Ow{D:Ends}{f:Flow}{s':Shared}(h:SP (X.wish E) pins D f s'):SP X pins D f s':=by
 cases f with
 | next=>obtain⟨σ',H',I,q⟩:=h;exact⟨σ',H',I.Ow,q⟩
 | brk=>obtain⟨σ',H',I,q⟩:=h;exact⟨σ',H',I.Ow,q⟩
 | cont=>obtain⟨σ',H',I,q⟩:=h;exact⟨σ',H',I.Ow,q⟩
 | ret u=>obtain⟨v,σ',H',I,r,q⟩:=h;exact⟨v,σ',H',I.Ow,r,q⟩
theorem PE.nox{e:Expr}{t:TE}(h:PE X.nox e t):PE X e t:=fun pins s σ H Q I hw =>
 wpAny_mono (h pins s σ H Q (I.wish _) hw) (fun _ _ ⟨v,H',I',r,q⟩=>⟨v,H',I'.Ow,r,q⟩) fun _ _ z=>False.elim z
theorem PSs.nox{st:List Stmt}{t:TS}(h:PSs X.nox st t):PSs X st t:=fun pins s σ H D I hw =>
 wpAny_mono (h pins s σ H D (I.wish _) hw) (fun _ _ q=>q.Ow) fun _ _ z=>False.elim z
end
section
variable {X:Cx}{st:Stmt}{rest:List Stmt}{t u:TS}{e:Expr}{te:TE}{pos:Pos}
def Aoq:TS:=fun D σ H=>D.nx σ H
def Ap9 (t u:TS):TS:=fun D σ H=>t { D with nx:=u D } σ H
theorem Aw:PSs X [] Aoq:=fun _ _ σ H _ I h=>wpAny_execs_nil ⟨σ,H,I,h⟩
theorem Ac(h1:PS X st t)(h2:PSs X rest u):PSs X (st::rest) (Ap9 t u):=by
 intro pins s σ H D I h
 refine wpAny_execs_cons (thn (h1 pins s σ H { D with nx:=u D } I h) fun f s1 q=>?_)
 cases f with
 | next =>
  obtain⟨σ',H',I',q⟩:=q
  exact h2 pins s1 σ' H' D I' q
 | ret v=>exact q
 | brk=>exact q
 | cont=>exact q
theorem Ae(h1:PS X st t):PSs X [st] t:=by
 intro pins s σ H D I h
 refine wpAny_execs_cons (thn (h1 pins s σ H D I h) fun f s1 q=>?_)
 cases f with
 | next=>exact wpAny_execs_nil q
 | ret v=>exact q
 | brk=>exact q
 | cont=>exact q
def ApA:TS:=fun D σ H=>D.bk σ H
def Aqw:TS:=fun D σ H=>D.ct σ H
theorem Inv.quiet{pins:List (Addr × Obj)}{σ:St}{H:Hp}{s:Shared}(I:Inv X pins σ H s):interactive X.env=false:=by simp[interactive,I.ok.kind]
def Aor (te:TE):TS:=fun D σ H=>te σ H fun _ H1=>D.nx σ H1
theorem BJ(he:PE X e te)(hs:swapsWith e none pos.line X.env=pure false:=by rfl):PS X (.Expr e pos) (Aor te):=by
 intro pins s σ H D I h
 exact wpAny_Expr_any (thn (he pins s σ H _ I h) fun v s1 ⟨x,H1,I1,r1,q1⟩=>⟨σ,H1,I1,q1⟩) I.quiet hs
def ApB (te:TE):TS:=fun D σ H=>te σ H D.rt
theorem Bb(he:PE X e te):PS X (.Return (some e) pos) (ApB te):=by
 intro pins s σ H D I h
 exact wpAny_Return_some (thn (he pins s σ H _ I h) fun v s1 ⟨x,H1,I1,r1,q1⟩=>⟨x,σ,H1,I1,r1,q1⟩)
def Aqx:TS:=fun D _ H=>D.rt .non H
def ApC (c:TT)(t u:TS):TS:=fun D σ H=>c σ H fun b H1=>if b=true then t D σ H1 else u D σ H1
theorem BK{c:Expr}{a b:List Stmt}{tc:TT}(hc:PT X c tc)(ha:PSs X a t)(hb:PSs X b u):PS X (.If c a b pos) (ApC tc t u):=by
 intro pins s σ H D I h
 refine wpAny_If (thn (hc pins s σ H _ I h) fun d s1 ⟨H1,I1,q1⟩=>?_)
 cases d with
 | true=>exact ha pins s1 σ H1 D I1 q1
 | false=>exact hb pins s1 σ H1 D I1 q1
def AmX:TS:=fun _ _ _=>False
theorem Mt:PS X st AmX:=fun _ _ _ _ _ _ h=>h.elim
end
abbrev TG:=V→St→Hp→(St→Hp→Prop)→Prop
abbrev TGs:=List V→St→Hp→(St→Hp→Prop)→Prop
def PG (X:Cx)(target:Expr)(t:TG):Prop :=
 ∀(pins:List (Addr × Obj)) (s:Shared) (σ:St) (H:Hp) (v:V) (u:Value) (Q:St→Hp→Prop),Inv X pins σ H s→RelV v u→t v σ H Q →
  wpAny (model X.prog X.w) X.A (assign target X.env u) (fun _ s'=>∃ σ' H',Inv X pins σ' H' s'∧Q σ' H') X.xe s
def PGs (X:Cx)(ts:List Expr)(t:TGs):Prop :=
 ∀(pins:List (Addr × Obj)) (s:Shared) (σ:St) (H:Hp) (vs:List V) (us:List Value) (Q:St→Hp→Prop),Inv X pins σ H s→Vals vs us→t vs σ H Q →
  wpAny (model X.prog X.w) X.A (assignInOrder ((assignEach ts X.env).map (·.2)) us) (fun _ s'=>∃ σ' H',Inv X pins σ' H' s'∧Q σ' H') X.xe s
abbrev AmY:=V→V→V→Hp→(Hp→Prop)→Prop
def ApD (X:Cx)(t:AmY):Prop :=
 ∀(pins:List (Addr × Obj)) (s:Shared) (σ:St) (H:Hp) (o i v:V) (ov iv u:Value) (Q:Hp→Prop),Inv X pins σ H s→RelV o ov→RelV i iv→RelV v u→t o i v H Q →
  wpAny (model X.prog X.w) X.A (setItem ov iv u) (fun _ s'=>∃ H',Inv X pins σ H' s'∧Q H') X.xe s
abbrev TIp:=V→V→Hp→VK→Prop
def PIp (X:Cx)(op:Operator)(t:TIp):Prop :=
 ∀(pins:List (Addr × Obj)) (s:Shared) (σ:St) (H:Hp) (x y:V) (v u:Value) (Q:VK),Inv X pins σ H s→RelV x v→RelV y u→t x y H Q →
  wpAny (model X.prog X.w) X.A (inplaceOp op v u) (EP X pins σ Q) X.xe s
section
variable {X:Cx}{pos:Pos}
def R1 (i:Nat):TG:=fun v σ H Q=>Q (σ.set i (some v)) H
theorem Dq{i:Nat}{x:Str}(hN:X.N.Nodup)(hi:X.N[i]?=some x)(hx:Loc X.env.scope x)(hf:X.fn x=true∨X.env.scope.names.lookup x=some .local:=by first | exact .inl rfl | exact .inr rfl | assumption):PG X (.Name x pos) (R1 i):=by
 intro pins s σ H v u Q I r h
 exact wpAny_assign_Name (AbG I hN hi hx r (fun s' I'=>⟨_,H,I',h⟩) hf)
def Aos:TGs:=fun vs σ H Q=>vs=[]∧Q σ H
def Ajw (t:TG)(u:TGs):TGs:=fun vs σ H Q=>∃ v r,vs=v::r∧t v σ H fun σ' H'=>u r σ' H' Q
theorem Xd:PGs X [] Aos:=by
 intro pins s σ H vs us Q I r h
 obtain⟨e,h⟩:=h
 subst e
 cases r
 exact assignInOrder_nil ⟨σ,H,I,h⟩
theorem J1{e:Expr}{es:List Expr}{t:TG}{u:TGs}(h1:PG X e t)(h2:PGs X es u)
  (hs:(assignEach (e::es) X.env).map (·.2)=assign e X.env::(assignEach es X.env).map (·.2):=by rfl):PGs X (e::es) (Ajw t u):=by
 intro pins s σ H vs us Q I r h
 obtain⟨v,vr,e1,h⟩:=h
 subst e1
 cases r with
 | cons r rr =>
  rw[hs]
  refine assignInOrder_cons (thn (h1 pins s σ H _ _ _ I r h) fun _ s1 ⟨σ1,H1,I1,q1⟩=>?_)
  exact h2 pins s1 σ1 H1 _ _ Q I1 rr q1
def Aot (K:PySem.W.Frag)(n:Nat)(t:TGs):TG:=fun v σ H Q=>∃ a xs,v=.ref a∧SqT K H a xs∧xs.length=n∧t xs σ H Q
theorem ZD{es:List Expr}{k:Nat}{t:TGs}{n:Nat}(hc:X.calm=true)(h:PGs X es t)
  (hn:(assignEach es X.env).length=n:=by rfl) (hst:(assignEach es X.env).findIdx? (·.1)=none:=by rfl):PG X (.Tuple es k pos) (Aot X.K n t):=by
 intro pins s σ H v u Q I r hw
 obtain⟨a,xs,e1,hq,hl,hw⟩:=hw
 subst e1
 cases r
 obtain⟨its,rv,ht,hz⟩:=I.tuple hq
 refine assign_Tuple_tuple (I.ok.hd hc) ht (by simp[hn,← hl,rv.length]) hst fun h' hx=>?_
 have I1:Inv X pins σ H { s with heap:=h' }:=I.kept (t':=s.toks) fun b o e=>hx b o (Arw (Heap.lt_size e)) e
 exact h pins _ σ H xs _ Q I1 (by simpa using rv) hw
def AqM (to ti:TE)(t:AmY):TG:=fun v σ H Q=>to σ H fun o H1=>ti σ H1 fun i H2=>t o i v H2 fun H3=>Q σ H3
def Ags (te:TE)(g:TG):TS:=fun D σ H=>te σ H fun x H1=>g x σ H1 D.nx
theorem AmZ{tg e:Expr}{te:TE}{g:TG}(he:PE X e te)(hg:PG X tg g)(hs:swapsWithSole [tg] e pos.line X.env=pure false:=by rfl)(hw:swappedStores [tg] e X.env=pure none:=by rfl)
  (h1:(assignEach [tg] X.env).map (·.2)=[assign tg X.env]:=by rfl):PS X (.Assign [tg] e pos) (Ags te g):=by
 intro pins s σ H D I h
 refine wpAny_Assign_stores (thn (he pins s σ H _ I h) fun v s1 ⟨x,H1,I1,r1,q1⟩=>?_) hs hw
 rw[h1]
 exact thn (hg pins s1 σ H1 x v _ I1 r1 q1) fun _ s2 q=>q
theorem BP{i:Nat}{x:Str}{e:Expr}{te:TE}{pos':Pos}(hN:X.N.Nodup)(hi:X.N[i]?=some x)(hx:Loc X.env.scope x)(he:PE X e te)(hs:swapsWith e (some (.Name x pos')) pos.line X.env=pure false:=by rfl)(hf:X.fn x=true∨X.env.scope.names.lookup x=some .local:=by first | exact .inl rfl | exact .inr rfl | assumption) :
  PS X (.Assign [.Name x pos'] e pos) (Ags te (R1 i)):=by
 intro pins s σ H D I h
 refine wpAny_Assign_Name (thn (he pins s σ H _ I h) fun v s1 ⟨y,H1,I1,r1,q1⟩=>?_) hs
 exact AbG I1 hN hi hx r1 (fun s2 I2=>⟨_,H1,I2,q1⟩) hf
def AqN (i j:Nat)(ta:TA):TS:=fun D σ H=>ta σ H fun vs H1=>∃ v w,vs=[v,w]∧D.nx ((σ.set i (some v)).set j (some w)) H1
def AqO (i:Nat)(te:TE)(ti:TIp):TS:=fun D σ H=>∃ x,σ[i]?=some (some x)∧te σ H fun y H1=>ti x y H1 fun z H2=>D.nx (σ.set i (some z)) H2
def Aqy (to ti te:TE)(ApE:V→V→Hp→VK→Prop)(tip:TIp)(ApF:AmY):TS:=fun D σ H=>to σ H fun o H1=>ti σ H1 fun i H2=>ApE o i H2 fun x H3=>te σ H3 fun y H4=>tip x y H4 fun z H5=>ApF o i z H5 fun H6=>D.nx σ H6
def ApG (X:Cx)(t:V→V→Hp→VK→Prop):Prop :=
 ∀(pins:List (Addr × Obj)) (s:Shared) (σ:St) (H:Hp) (o i:V) (ov iv:Value) (Q:VK),Inv X pins σ H s→RelV o ov→RelV i iv→t o i H Q →
  wpAny (model X.prog X.w) X.A (getItem ov iv) (EP X pins σ Q) X.xe s
def ipI (f:Int→Int→Int):TIp:=fun x y H Q=>∃ i j,x=.int i∧y=.int j∧Q (.int (f i j)) H
end
section
variable {X:Cx}{pos:Pos}
def Ana (c:TT)(tb:TS):TS:=fun D σ H=>∃ W:Nat→St→Hp→Prop,(∃ m,W m σ H)∧∀ m σ H,W m σ H →
 c σ H fun b H1=>if b=true then ∃ N:St→Hp→Prop,(∀ σ' H',N σ' H'→∃ m',m'<m∧W m' σ' H')∧tb { D with nx:=N,ct:=N,bk:=D.nx } σ H1 else D.nx σ H1
theorem Afd{c:Expr}{body:List Stmt}{tc:TT}{tb:TS}(hp:PassesOwn (model X.prog X.w) X.A X.env X.xe)(hc:PT X c tc)(hb:PSs X body tb):PS X (.While c body [] pos) (Ana tc tb):=by
 intro pins s σ H D I h
 obtain⟨W,⟨m0,w0⟩,turn⟩:=h
 refine wpAny_While (codeAny_whileLoop (fun n s'=>∃ σ' H',Inv X pins σ' H' s'∧W n σ' H') ?_ m0 ⟨σ,H,I,w0⟩)
 rintro n s1 ⟨σ1,H1,I1,w1⟩
 refine wpAny_passesOwn hp (thn (hc pins s1 σ1 H1 _ I1 (turn n σ1 H1 w1)) fun b s2 ⟨H2,I2,q2⟩=>?_)
 cases b with
 | true =>
  obtain⟨N,hN,q2⟩:=q2
  rw[if_pos rfl]
  refine wpAny_passesOwn hp (thn (hb pins s2 σ1 H2 _ I2 q2) fun f s3 q3=>?_)
  cases f with
  | next =>
   obtain⟨σ3,H3,I3,n3⟩:=q3
   obtain⟨m',hm,w3⟩:=hN σ3 H3 n3
   exact⟨m',hm,σ3,H3,I3,w3⟩
  | cont =>
   obtain⟨σ3,H3,I3,n3⟩:=q3
   obtain⟨m',hm,w3⟩:=hN σ3 H3 n3
   exact⟨m',hm,σ3,H3,I3,w3⟩
  | brk=>exact q3
  | ret v=>exact q3
 | false =>
  rw[if_neg Ar2]
  exact wpAny_execs_nil ⟨σ1,H2,I2,q2⟩
end
structure It where
 go:Nat→Hp→Prop
 yld:Nat→Hp→V→Hp→Prop
 stop:Nat→Hp→Prop
def Ou (X:Cx)(pins:List (Addr × Obj))(H:Hp)(b:Addr):Prop :=
 H b=none∧b≠X.env.locals∧b∉X.fs∧(b∈X.ex∨X.s₀.heap.objs.size≤b)∧(∀ x c,X.env.cells.lookup x=some c→c≠b)∧∀ p∈X.pn++pins,p.1≠b
theorem Inv.Agt{X:Cx}{pins:List (Addr × Obj)}{σ:St}{H H':Hp}{s:Shared}{b:Addr}(I:Inv X pins σ H s)(hb:s.heap.objs.size≤b)(hn:H' b=none):Ou X pins H' b:=by
 refine⟨hn,ArY (Ary I.lt hb),I.Ap4 hb,.inr (ArC I.sz hb),fun x c e z=>?_,fun p hp z=>?_⟩
 ·obtain⟨v,q⟩:=I.cell x c e
  exact absurd (Ary q.lt (by rw[z];exact hb)) (Ar8 _)
 ·exact absurd (Ary (Heap.lt_size (I.pin p hp).1) (by rw[z];exact hb)) (Ar8 _)
structure Turn (P:Program) (w:World) (K:PySem.W.Frag) (tg:Expr) (J:It) (fp:List Addr) (it:Addr) (tn:Nat→Heap→Prop):Prop where
 mem:it∈fp
 obj:∀ i h,tn i h→∀ b∈fp,∃ o,h.get? b=some o∧∀ v,o.data≠.cell v
 keep:∀ i h h',tn i h→(∀ b∈fp,∀ o,h.get? b=some o→h'.get? b=some o)→tn i h'
 item:∀(X:Cx),X.prog=P→X.w=w→X.K=K→X.calm=true→∀(i:Nat) (pins:List (Addr × Obj)) (s:Shared) (σ:St) (H:Hp) (E:Value→Shared→Prop),Inv X pins σ H s→(∀ b∈fp,Ou X pins H b)→tn i s.heap→J.go i H →
  wpAny (model P w) X.A (pyNext (.ref it)) (fun r s1=>∃ u,r=some u ∧
   wpAny (model P w) X.A (letOwnedTupleGo tg (.ref it) u) (fun _ s2=>∃ x H',Inv X pins σ H' s2∧RelV x u∧J.yld i H x H'∧tn (i+1) s2.heap∧∀ b∈fp,H' b=none) E s1) E s
 done:∀(X:Cx),X.prog=P→X.w=w→X.K=K→X.calm=true→∀(i:Nat) (pins:List (Addr × Obj)) (s:Shared) (σ:St) (H:Hp) (E:Value→Shared→Prop),Inv X pins σ H s→(∀ b∈fp,Ou X pins H b)→tn i s.heap→J.stop i H →
  wpAny (model P w) X.A (pyNext (.ref it)) (fun r s1=>r=none∧Inv X pins σ H s1) E s
 self:∀(A:Around) (i:Nat) (s:Shared) (Q:Value→Shared→Prop) (E:Value→Shared→Prop),tn i s.heap→Q (.ref it) s→wpAny (model P w) A (pyIter (.ref it)) Q E s
abbrev TI:=St→Hp→(It→Hp→Prop)→Prop
def PIE (X:Cx)(pins:List (Addr × Obj))(σ:St)(tg:Expr)(R:It→Hp→Prop)(itv:Value)(s2:Shared):Prop :=
 ∃(it:Addr) (fp:List Addr) (tn:Nat→Heap→Prop) (J:It) (H':Hp),itv=.ref it∧Inv X pins σ H' s2∧Turn X.prog X.w X.K tg J fp it tn∧tn 0 s2.heap∧(∀ b∈fp,Ou X pins H' b)∧R J H'
def PI (X:Cx)(tg iter:Expr)(wi:TI):Prop :=
 ∀(pins:List (Addr × Obj)) (s:Shared) (σ:St) (H:Hp) (R:It→Hp→Prop),Inv X pins σ H s→wi σ H R →
  wpAny (model X.prog X.w) X.A (eval iter X.env) (fun v s1=>wpAny (model X.prog X.w) X.A (pyIter v) (PIE X pins σ tg R) X.xe s1) X.xe s
theorem Afe{M:Model}{A:Around}{E:Value→Shared→Prop}{s:Shared}{tg:Expr}{it:Addr}{u:Value}{o:Obj}{n:String}{vs:Array Value}{Q:Unit→Shared→Prop}(ho:s.heap.get? it=some o)(hc:o.cls=.type n)(hd:o.data=.fields vs)
    (hn:["enumerate", "zip", "dict_itemiterator", "dict_reverseitemiterator", "odict_iterator", "itertools.zip_longest", "itertools.pairwise"].contains n=false) (hQ:Q () s):wpAny M A (letOwnedTupleGo tg (.ref it) u) Q E s:=by
  unfold letOwnedTupleGo
  cases tg <;> first
    | exact wpAny_pure hQ
    | (cases u <;> first
        | exact wpAny_pure hQ
        | (refine wpAny_bind (wpAny_load ho ?_)
           rw[hc,hd]
           show wpAny M A (if (["enumerate", "zip", "dict_itemiterator", "dict_reverseitemiterator", "odict_iterator", "itertools.zip_longest", "itertools.pairwise"].contains n && vs[0]? == some (rawInt _))=true then _ else _) Q E s
           rw[if_neg (by intro h;rw[hn,Bool.false_and] at h;cases h)]
           exact wpAny_pure hQ))
def Itl (K:PySem.W.Frag)(a:Addr):It :=
 ⟨fun i H=>∃ xs x,SqL K H a xs∧xs[i]?=some x,fun i H x H'=>H'=H∧∀ xs,SqL K H a xs→xs[i]?=some x,fun i H=>∃ xs,SqL K H a xs∧xs.length≤i⟩
def Itt (K:PySem.W.Frag)(a:Addr):It :=
 ⟨fun i H=>∃ xs x,SqT K H a xs∧xs[i]?=some x,fun i H x H'=>H'=H∧∀ xs,SqT K H a xs→xs[i]?=some x,fun i H=>∃ xs,SqT K H a xs∧xs.length≤i⟩
def Itr (lo:Int)(n:Nat):It:=⟨fun i _=>i<n,fun i H x H'=>H'=H∧x=.int (lo+i),fun i _=>n≤i⟩
theorem Aij{P:Program}{w:World}{K:PySem.W.Frag}{tg:Expr}(a it:Addr):Turn P w K tg (Itl K a) [it] it (fun i h=>h.IsListIter it a i) where
 mem:=by simp
 obj:=fun i h st b hb=>by
  have e:b=it:=by simpa using hb
  subst e
  obtain⟨o,e,c,d⟩:=st
  exact⟨o,e,fun v z=>by rw[d] at z;cases z⟩
 keep:=fun i h h' st k=>st.at fun o e=>k it (by simp) o e
 item:=by
  intro X hP hw hK hc i pins s σ H E I hf st hg
  subst hP hw hK
  obtain⟨xs,x,hq,hx⟩:=hg
  obtain⟨its,rv,p,hz⟩:=I.list hq
  obtain⟨u,hu,ru⟩:=rv.get hx
  obtain⟨f0,f1,f2,f3,f4,f5⟩:=hf it (by simp)
  refine wpAny_pyNext_list_item st p.isList (x:=u) (by simpa using hu) fun h' st' sb=>?_
  have I1:Inv X pins σ H { s with heap:=h' }:=I.turned (t':=s.toks) (fun b o hb e=>(sb.2 b hb).trans e) f0 f1 f3 f4 f5
  obtain⟨o,e,c,d⟩:=id st'
  exact⟨u,rfl,Afe (s:={ s with heap:=h' }) e c d (by decide) ⟨x,H,I1,ru,⟨rfl,fun ys hy=>by rw[I.R0 hy hq];exact hx⟩,st',fun b hb=>(hf b hb).1⟩⟩
 done:=by
  intro X hP hw hK hc i pins s σ H E I hf st hg
  subst hP hw hK
  obtain⟨xs,hq,hx⟩:=hg
  obtain⟨its,rv,p,hz⟩:=I.list hq
  obtain⟨f0,f1,f2,f3,f4,f5⟩:=hf it (by simp)
  have hl:=rv.length
  exact wpAny_pyNext_list_end (I.ok.hd hc) st p.isList (by simp;omega) fun h' eb=>⟨rfl,I.turned (t':=s.toks) (fun b o hb e=>eb b o hb e) f0 f1 f3 f4 f5⟩
 self:=fun _ _ _ _ _ st h=>wpAny_pyIter_listiter st h
theorem Agu{P:Program}{w:World}{K:PySem.W.Frag}{tg:Expr}(it:Addr)(lo:Int)(n:Nat):Turn P w K tg (Itr lo n) [it] it (fun i h=>IsRangeIter h it (lo+(i:Nat)*1) ((n:Int)-(i:Nat)) 1) where
 mem:=by simp
 obj:=fun i h st b hb=>by
  have e:b=it:=by simpa using hb
  subst e
  exact⟨_,st,fun v z=>by
   have z':Data.fields _=Data.cell v:=z
   cases z'⟩
 keep:=fun i h h' st k=>k it (by simp) _ st
 item:=by
  intro X hP hw hK hc i pins s σ H E I hf st hg
  subst hP hw hK
  obtain⟨f0,f1,f2,f3,f4,f5⟩:=hf it (by simp)
  have W:=Walks.range (prog:=X.prog) (w:=X.w) (I.ok.hd hc) it lo 1 n
  refine W.item i s _ _ hg st fun v h' tk hv st' kk=>?_
  obtain⟨t,rfl⟩:=hv
  have I1:Inv X pins σ H { s with heap:=h',toks:=tk }:=I.turned (fun b o hb e=>kk b o (by simpa using hb) e) f0 f1 f3 f4 f5
  refine⟨_,rfl,Afe (s:={ s with heap:=h',toks:=tk }) (n := "range_iterator") st' rfl rfl (by decide) ⟨.int (lo+i),H,I1,⟨t,?_⟩,⟨rfl,rfl⟩,st',fun b hb=>(hf b hb).1⟩⟩
  rw[Int.mul_one]
 done:=by
  intro X hP hw hK hc i pins s σ H E I hf st hg
  subst hP hw hK
  obtain⟨f0,f1,f2,f3,f4,f5⟩:=hf it (by simp)
  exact wpAny_pyNext_range_end (I.ok.hd hc) st (by have:n≤i:=hg;omega) fun h' eb=>⟨rfl,I.turned (t':=s.toks) (fun b o hb e=>eb b o hb e) f0 f1 f3 f4 f5⟩
 self:=fun _ _ _ _ _ st h=>wpAny_pyIter_rangeiter st h
open PySem PySem.Spec PyProof.Rows
section
variable {X:Cx}{tg:Expr}
def Am9 (K:PySem.W.Frag)(tl:TE):TI:=fun σ H R=>tl σ H fun x H1=>∃ a,x=.ref a∧(∃ xs,SqL K H1 a xs)∧R (Itl K a) H1
def AqP (K:PySem.W.Frag)(tl:TE):TI:=fun σ H R=>tl σ H fun x H1=>∃ a,x=.ref a∧(∃ xs,SqT K H1 a xs)∧R (Itt K a) H1
theorem Al0{l:Expr}{tl:TE}(hl:PE X l tl):PI X tg l (Am9 X.K tl):=by
 intro pins s σ H R I h
 refine thn (hl pins s σ H _ I h) fun v s1 ⟨x,H1,I1,r1,q1⟩=>?_
 obtain⟨a,e,⟨xs,hq⟩,q⟩:=q1
 subst e
 cases r1
 obtain⟨its,rv,p,hz⟩:=I1.list hq
 refine wpAny_pyIter_list p.isList ?_
 refine⟨s1.heap.objs.size,[s1.heap.objs.size],_,_,H1,rfl,I1.kept (t':=s1.toks) fun b o e=>Heap.get?_push_of_some _ e,Aij a _,⟨_,Heap.get?_push_size _ rfl,rfl,rfl⟩,fun b hb=>?_,q⟩
 have e:b=s1.heap.objs.size:=by simpa using hb
 subst e
 exact I1.Agt (Art _) (I1.hok.fresh (Art _))
theorem Afg{pins:List (Addr × Obj)}{σ:St}{H:Hp}{s:Shared}{R:It→Hp→Prop}{E:Value→Shared→Prop}{lo hi:Int}{t u v:Tok}{tk:Nat}(I:Inv X pins σ H s)(h1 : -(2 ^ 62)≤lo)(h2:lo<2 ^ 62)(h3 : -(2 ^ 62)≤hi)(h4:hi<2 ^ 62)
  (q:R (Itr lo (hi-lo).toNat) H):wpAny (model X.prog X.w) X.A (pyIter (.ref s.heap.objs.size)) (PIE X pins σ tg R) E { s with heap:=s.heap.push { cls:=.type "range", data:=.fields #[.int lo t,.int hi u,.int 1 v] },toks:=tk }:=by
 refine wpAny_pyIter_range (IsRange.new ..) (small_one h1 h2 h3 h4) ?_
 have I1:Inv X pins σ H { s with heap:=s.heap.push { cls:=.type "range", data:=.fields #[.int lo t,.int hi u,.int 1 v] },toks:=tk }:=I.kept fun b o e=>Heap.get?_push_of_some _ e
 refine⟨(s.heap.push { cls:=.type "range", data:=.fields #[.int lo t,.int hi u,.int 1 v] }).objs.size,[(s.heap.push { cls:=.type "range", data:=.fields #[.int lo t,.int hi u,.int 1 v] }).objs.size],_,_,H,rfl,
  I1.kept (t':=tk) fun b o e=>Heap.get?_push_of_some _ e,Agu _ lo (hi-lo).toNat,?_,fun b hb=>?_,q⟩
 ·have e1:lo+((0:Nat):Int)*1=lo:=by simp
  have e2:(((hi-lo).toNat:Nat):Int)-((0:Nat):Int)=Builtin.Range.rangeSize lo hi 1:=by rw[rangeSize_one];split <;> omega
  show IsRangeIter _ _ (lo+((0:Nat):Int)*1) ((((hi-lo).toNat:Nat):Int)-((0:Nat):Int)) 1
  rw[e1,e2]
  exact Heap.get?_push_size _ rfl
 ·have e:b=(s.heap.push { cls:=.type "range", data:=.fields #[.int lo t,.int hi u,.int 1 v] }).objs.size:=by simpa using hb
  subst e
  exact I1.Agt (Art _) (I1.hok.fresh (Art _))
def Aou (ta:TA):TI:=fun σ H R=>ta σ H fun vs H1=>∃ j:Int,vs=[.int j] ∧ -(2 ^ 62)≤j∧j<2 ^ 62∧R (Itr 0 j.toNat) H1
def Aov (ta:TA):TI:=fun σ H R=>ta σ H fun vs H1=>∃ i j:Int,vs=[.int i,.int j]∧(-(2 ^ 62)≤i∧i<2 ^ 62 ∧ -(2 ^ 62)≤j∧j<2 ^ 62)∧R (Itr i (j-i).toNat) H1
theorem Iu{a:Expr}{ta:TA}{p pos:Pos}(hg:Gl X "range") (hm:X.mg "range" = none) (ha:PA X [a] ta) (hs:starEach [a] X.env=[(false,eval a X.env)]:=by rfl):PI X tg (.Call (.Name "range" p) [a] [] pos) (Aou ta):=by
 intro pins s σ H R I h
 refine Call_ (Pz I hg hm boot_range (PyProof.Rows.callWith_type1 (thn (ha pos pins s σ H _ I h) fun us s1 ⟨vs,H1,I1,r1,q1⟩=>?_) hs rfl))
 obtain⟨j,e,q1,q2,q⟩:=q1
 subst e
 cases r1 with
 | cons r rr =>
  cases rr
  obtain⟨t,rfl⟩:=r
  exact call_range_1 (Afg I1 (by omega) (by omega) q1 q2 (by simpa using q))
theorem Aik{a b:Expr}{ta:TA}{p pos:Pos}(hg:Gl X "range") (hm:X.mg "range" = none) (ha:PA X [a,b] ta) (hs:starEach [a,b] X.env=[(false,eval a X.env),(false,eval b X.env)]:=by rfl) (hs2:starEach [b] X.env=[(false,eval b X.env)]:=by rfl) :
  PI X tg (.Call (.Name "range" p) [a,b] [] pos) (Aov ta):=by
 intro pins s σ H R I h
 refine Call_ (Pz I hg hm boot_range (PyProof.Rows.callWith_type1 (thn (ha pos pins s σ H _ I h) fun us s1 ⟨vs,H1,I1,r1,q1⟩=>?_) (by rw[hs,hs2]) (by rw[hs2];rfl)))
 obtain⟨i,j,e,⟨q1,q2,q3,q4⟩,q⟩:=q1
 subst e
 cases r1 with
 | cons r rr =>
  cases rr with
  | cons r' rr =>
   cases rr
   obtain⟨t,rfl⟩:=r
   obtain⟨t',rfl⟩:=r'
   exact call_range_2 (Afg I1 q1 q2 q3 q4 q)
def ApH (wi:TI)(g:TG)(tb:TS):TS:=fun D σ H=>wi σ H fun J H1=>∃ W:Nat→Nat→St→Hp→Prop,(∃ m,W 0 m σ H1)∧∀ i m σ H,W i m σ H →
 (J.stop i H∧D.nx σ H)∨(J.go i H∧∃ N:St→Hp→Prop,(∀ σ' H',N σ' H'→∃ m',m'<m∧W (i+1) m' σ' H')∧∀ x H',J.yld i H x H'→g x σ H' fun σ2 H2=>tb { D with nx:=N,ct:=N,bk:=D.nx } σ2 H2)
def VH (fp:List Addr)(h:Heap):List (Addr × Obj):=fp.filterMap fun b=>(h.get? b).map fun o=>(b,o)
theorem Ie{fp:List Addr}{h:Heap}{b:Addr}{o:Obj}(hb:b∈fp)(e:h.get? b=some o):(b,o)∈VH fp h:=List.mem_filterMap.mpr ⟨b,hb,by rw[e];rfl⟩
theorem Ail{fp:List Addr}{h:Heap}{p:Addr × Obj}(hp:p∈VH fp h):p.1∈fp∧h.get? p.1=some p.2:=by
 obtain⟨b,hb,e⟩:=List.mem_filterMap.mp hp
 cases q:h.get? b with
 | none=>rw[q] at e;cases e
 | some o =>
  rw[q] at e
  have e':(b,o)=p:=Option.some.inj e
  subst e'
  exact⟨hb,q⟩
theorem Inv.pinned{pins:List (Addr × Obj)}{σ:St}{H:Hp}{s:Shared}{fp:List Addr}(I:Inv X pins σ H s)(hf:∀ b∈fp,Ou X pins H b)(ho:∀ b∈fp,∃ o,s.heap.get? b=some o∧∀ v,o.data≠.cell v):Inv X (pins++VH fp s.heap) σ H s :=
 I.JX fun p hp=>(List.mem_append.mp hp).elim (fun z=>I.pin p (ArA _ z)) fun z=>by
  obtain⟨hb,e⟩:=Ail z
  obtain⟨f0,f1,f2,_⟩:=hf p.1 hb
  obtain⟨o,e',d⟩:=ho p.1 hb
  rw[e] at e';cases e'
  exact⟨e,f0,f1,f2,d⟩
theorem Inv.AbH{pins pl:List (Addr × Obj)}{σ:St}{H:Hp}{s:Shared}(I:Inv X (pins++pl) σ H s):Inv X pins σ H s:=I.JX fun p hp=>I.pin p (ArA _ (Asr _ hp))
theorem JW{iter:Expr}{body:List Stmt}{wi:TI}{g:TG}{tb:TS}{pos:Pos}(hp:PassesOwn (model X.prog X.w) X.A X.env X.xe)(hc:X.calm=true)(hi:PI X tg iter wi)(hg:PG X tg g)(hb:PSs X body tb)
  (hs:∀ x,foldedSetIterable iter X.env x=pure x:=by intro _;rfl):PS X (.For tg iter body [] pos) (ApH wi g tb):=by
 intro pins s σ H D I h
 refine wpAny_For (thn (hi pins s σ H _ I h) fun v s1 h1=>thn h1 fun itv s2 h2=>?_) hs
 obtain⟨it,fp,tn,J,H2,e,I2,T,st2,f2,W,⟨m0,w0⟩,turn⟩:=h2
 subst e
 have stat:∀{H':Hp},(∀ b∈fp,H' b=none)→∀ b∈fp,Ou X pins H' b:=fun hn b hb=>⟨hn b hb,(f2 b hb).2⟩
 refine codeAny_forLoop_any (fun n s'=>∃ i σ' H',Inv X pins σ' H' s'∧tn i s'.heap∧(∀ b∈fp,H' b=none)∧W i n σ' H') ?_ m0 ⟨0,σ,H2,I2,st2,fun b hb=>(f2 b hb).1,w0⟩
 rintro n s3 ⟨i,σ3,H3,I3,st3,fr3,w3⟩
 rcases turn i n σ3 H3 w3 with ⟨stop,qn⟩ | ⟨go,N,hN,step⟩
 ·refine wpAny_passesOwn hp (thn (T.done X rfl rfl rfl hc i pins s3 σ3 H3 X.xe I3 (stat fr3) st3 stop) fun r s4 ⟨hr,I4⟩=>?_)
  subst hr
  exact wpAny_execs_nil ⟨σ3,H3,I4,qn⟩
 ·refine wpAny_passesOwn hp (thn (T.item X rfl rfl rfl hc i pins s3 σ3 H3 X.xe I3 (stat fr3) st3 go) fun r s4 ⟨u,hr,h4⟩=>?_)
  subst hr
  refine wpAny_passesOwn hp (thn h4 fun _ s5 ⟨x,H5,I5,r5,y5,st5,fr5⟩=>?_)
  have I5':=I5.pinned (stat fr5) (T.obj _ _ st5)
  refine wpAny_passesOwn hp (thn (hg _ s5 σ3 H5 x u _ I5' r5 (step x H5 y5)) fun _ s6 ⟨σ6,H6,I6,q6⟩=>?_)
  refine wpAny_passesOwn hp (thn (hb _ s6 σ6 H6 _ I6 q6) fun f s7 q7=>?_)
  have again:∀{σ7:St} {H7:Hp},Inv X (pins++VH fp s5.heap) σ7 H7 s7→N σ7 H7→∃ m,m<n∧∃ i σ' H',Inv X pins σ' H' s7∧tn i s7.heap∧(∀ b∈fp,H' b=none)∧W i m σ' H':=fun {σ7 H7} I7 n7=>by
   obtain⟨m',hm,w7⟩:=hN σ7 H7 n7
   refine⟨m',hm,i+1,σ7,H7,I7.AbH,T.keep _ _ _ st5 fun b hb o e=>(I7.pin (b,o) (ArA _ (ArA _ (Ie hb e)))).1,fun b hb=>?_,w7⟩
   obtain⟨o,e,d⟩:=T.obj _ _ st5 b hb
   exact(I7.pin (b,o) (ArA _ (ArA _ (Ie hb e)))).2.1
  cases f with
  | next=>obtain⟨σ7,H7,I7,n7⟩:=q7;exact again I7 n7
  | cont=>obtain⟨σ7,H7,I7,n7⟩:=q7;exact again I7 n7
  | brk=>obtain⟨σ7,H7,I7,q7⟩:=q7;exact⟨σ7,H7,I7.AbH,q7⟩
  | ret v=>obtain⟨x7,σ7,H7,I7,r7,q7⟩:=q7;exact⟨x7,σ7,H7,I7.AbH,r7,q7⟩
end
theorem Q8{K:PySem.W.Frag}{a:Addr}{xs:List V}{g:TG}{tb:TS}{D:Ends}{σ:St}{H:Hp}(Pv:Nat→St→Hp→Prop)(h0:Pv 0 σ H)(hl:∀ i σ H,i≤xs.length→Pv i σ H→SqL K H a xs)
  (hs:∀ i x σ H,xs[i]?=some x→Pv i σ H→g x σ H fun σ2 H2=>tb { D with nx:=Pv (i+1),ct:=Pv (i+1),bk:=D.nx } σ2 H2) (hd:∀ σ H,Pv xs.length σ H→D.nx σ H) :
  ∃ W:Nat→Nat→St→Hp→Prop,(∃ m,W 0 m σ H)∧∀ i m σ H,W i m σ H →
   ((Itl K a).stop i H∧D.nx σ H)∨((Itl K a).go i H∧∃ N:St→Hp→Prop,(∀ σ' H',N σ' H'→∃ m',m'<m∧W (i+1) m' σ' H')∧∀ x H',(Itl K a).yld i H x H'→g x σ H' fun σ2 H2=>tb { D with nx:=N,ct:=N,bk:=D.nx } σ2 H2):=by
 refine⟨fun i m σ H=>m=xs.length-i∧i≤xs.length∧Pv i σ H,⟨xs.length,by simp,Ar9 _,h0⟩,?_⟩
 rintro i m σ H ⟨rfl,hi,p⟩
 have q:=hl i σ H hi p
 by_cases hlt:i<xs.length
 ·refine .inr ⟨⟨xs,xs[i],q,by simp[hlt]⟩,Pv (i+1),fun σ' H' p'=>⟨xs.length-(i+1),by omega,rfl,hlt,p'⟩,fun x H' y=>?_⟩
  obtain⟨e,y⟩:=y
  subst e
  exact hs i x σ _ (y xs q) p
 ·have e:i=xs.length:=by omega
  subst e
  exact .inl ⟨⟨xs,q,Art _⟩,hd σ H p⟩
theorem Xe{lo:Int}{n:Nat}{g:TG}{tb:TS}{D:Ends}{σ:St}{H:Hp}(Pv:Nat→St→Hp→Prop)(h0:Pv 0 σ H)
  (hs:∀ i σ H,i<n→Pv i σ H→g (.int (lo+i)) σ H fun σ2 H2=>tb { D with nx:=Pv (i+1),ct:=Pv (i+1),bk:=D.nx } σ2 H2) (hd:∀ σ H,Pv n σ H→D.nx σ H) :
  ∃ W:Nat→Nat→St→Hp→Prop,(∃ m,W 0 m σ H)∧∀ i m σ H,W i m σ H →
   ((Itr lo n).stop i H∧D.nx σ H)∨((Itr lo n).go i H∧∃ N:St→Hp→Prop,(∀ σ' H',N σ' H'→∃ m',m'<m∧W (i+1) m' σ' H')∧∀ x H',(Itr lo n).yld i H x H'→g x σ H' fun σ2 H2=>tb { D with nx:=N,ct:=N,bk:=D.nx } σ2 H2):=by
 refine⟨fun i m σ H=>m=n-i∧i≤n∧Pv i σ H,⟨n,by simp,Ar9 _,h0⟩,?_⟩
 rintro i m σ H ⟨rfl,hi,p⟩
 by_cases hlt:i<n
 ·refine .inr ⟨hlt,Pv (i+1),fun σ' H' p'=>⟨n-(i+1),by omega,rfl,hlt,p'⟩,fun x H' y=>?_⟩
  obtain⟨e,y⟩:=y
  subst e y
  exact hs i σ _ hlt p
 ·have e:i=n:=by omega
  subst e
  exact .inl ⟨Art _,hd σ H p⟩
open PySem PySem.Spec PyProof.Rows
abbrev R2:=V→V→Hp→VK→Prop
def OpR (X:Cx)(f:Value→Value→Sem Value)(r:R2):Prop :=
 ∀(pins:List (Addr × Obj)) (s:Shared) (σ:St) (H:Hp) (x y:V) (v u:Value) (Q:VK),Inv X pins σ H s→RelV x v→RelV y u→r x y H Q →
  wpAny (model X.prog X.w) X.A (f v u) (EP X pins σ Q) X.xe s
def UnR (X:Cx)(f:Value→Sem Value)(r:V→Hp→VK→Prop):Prop :=
 ∀(pins:List (Addr × Obj)) (s:Shared) (σ:St) (H:Hp) (x:V) (v:Value) (Q:VK),Inv X pins σ H s→RelV x v→r x H Q →
  wpAny (model X.prog X.w) X.A (f v) (EP X pins σ Q) X.xe s
def R3 (X:Cx)(f:Value)(r:List V→Hp→VK→Prop):Prop :=
 ∀(pins:List (Addr × Obj)) (s:Shared) (σ:St) (H:Hp) (xs:List V) (us:List Value) (Q:VK),Inv X pins σ H s→Vals xs us→r xs H Q →
  wpAny (model X.prog X.w) X.A (call f us) (EP X pins σ Q) X.xe s
def ApI (X:Cx)(r:V→Hp→(Bool→Hp→Prop)→Prop):Prop :=
 ∀(pins:List (Addr × Obj)) (s:Shared) (σ:St) (H:Hp) (x:V) (v:Value) (Q:Bool→Hp→Prop),Inv X pins σ H s→RelV x v→r x H Q →
  wpAny (model X.prog X.w) X.A (truthy v) (TP X pins σ Q) X.xe s
def tOp (r:R2)(ta tb:TE):TE:=fun σ H Q=>ta σ H fun x H1=>tb σ H1 fun y H2=>r x y H2 Q
def tUn (r:V→Hp→VK→Prop)(ta:TE):TE:=fun σ H Q=>ta σ H fun x H1=>r x H1 Q
def rI (C:Int→Int→Prop)(g:Int→Int→V):R2:=fun x y H Q=>∃ i j,x=.int i∧y=.int j∧C i j∧Q (g i j) H
def rI0 (g:Int→Int→V):R2:=fun x y H Q=>∃ i j,x=.int i∧y=.int j∧Q (g i j) H
def rU (g:Int→V):V→Hp→VK→Prop:=fun x H Q=>∃ i,x=.int i∧Q (g i) H
section
variable {X:Cx}{a b c:Expr}{ta tb tc:TE}{pos:Pos}
theorem Anb(ha:PE X a ta)(hb:PE X b tb){pins:List (Addr × Obj)}{s:Shared}{σ:St}{H:Hp}{R:V→V→Hp→Prop}(I:Inv X pins σ H s)
  (h:ta σ H fun x H1=>tb σ H1 fun y H2=>R x y H2) {Q:Value→Shared→Prop} {f:Value→Value→Sem Value}
  (hf:∀ v u s2 x y H2,Inv X pins σ H2 s2→RelV x v→RelV y u→R x y H2→wpAny (model X.prog X.w) X.A (f v u) Q X.xe s2) :
  wpAny (model X.prog X.w) X.A (eval a X.env) (fun v s₁=>wpAny (model X.prog X.w) X.A (eval b X.env) (fun u s₂=>wpAny (model X.prog X.w) X.A (f v u) Q X.xe s₂) X.xe s₁) X.xe s:=by
 refine thn (ha pins s σ H _ I h) fun v s1 ⟨x,H1,I1,r1,q1⟩=>?_
 refine thn (hb pins s1 σ H1 _ I1 q1) fun u s2 ⟨y,H2,I2,r2,q2⟩=>?_
 exact hf v u s2 x y H2 I2 r1 r2 q2
theorem Bv{op:Operator}{r:R2}(ho:OpR X (binaryOp op) r)(ha:PE X a ta)(hb:PE X b tb):PE X (.BinOp a op b pos) (tOp r ta tb):=by
 intro pins s σ H Q I h
 exact wpAny_BinOp (Anb ha hb I h fun v u s2 x y H2 I2 rx ry q=>ho pins s2 σ H2 x y v u Q I2 rx ry q)
theorem opI{f:Value→Value→Sem Value}{C:Int→Int→Prop}{g:Int→Int→Int}
  (rule:∀(i j:Int) (t u:Tok) (s:Shared) (Q:Value→Shared→Prop) (E:Value→Shared→Prop),C i j→Q (.int (g i j) s.toks) { s with toks:=s.toks+1 }→wpAny (model X.prog X.w) X.A (f (.int i t) (.int j u)) Q E s) :
  OpR X f (rI C fun i j=>.int (g i j)):=by
 intro pins s σ H x y v u Q I rx ry h
 obtain⟨i,j,rfl,rfl,hc,q⟩:=h
 obtain⟨t,rfl⟩:=rx
 obtain⟨t',rfl⟩:=ry
 exact rule i j t t' s _ _ hc ⟨.int (g i j),H,I.tok _,⟨_,rfl⟩,q⟩
theorem Aow{f:Value→Value→Sem Value}{g:Int→Int→Int}
  (rule:∀(i j:Int) (t u:Tok) (s:Shared) (Q:Value→Shared→Prop) (E:Value→Shared→Prop),Q (.int (g i j) s.toks) { s with toks:=s.toks+1 }→wpAny (model X.prog X.w) X.A (f (.int i t) (.int j u)) Q E s) :
  OpR X f (rI0 fun i j=>.int (g i j)):=by
 intro pins s σ H x y v u Q I rx ry h
 obtain⟨i,j,rfl,rfl,q⟩:=h
 obtain⟨t,rfl⟩:=rx
 obtain⟨t',rfl⟩:=ry
 exact rule i j t t' s _ _ ⟨.int (g i j),H,I.tok _,⟨_,rfl⟩,q⟩
theorem Anc{f:Value→Value→Sem Value}{g:Int→Int→Bool}
  (rule:∀(i j:Int) (t u:Tok) (s:Shared) (Q:Value→Shared→Prop) (E:Value→Shared→Prop),Q (.bool (g i j)) s→wpAny (model X.prog X.w) X.A (f (.int i t) (.int j u)) Q E s) :
  OpR X f (rI0 fun i j=>.bl (g i j)):=by
 intro pins s σ H x y v u Q I rx ry h
 obtain⟨i,j,rfl,rfl,q⟩:=h
 obtain⟨t,rfl⟩:=rx
 obtain⟨t',rfl⟩:=ry
 exact rule i j t t' s _ _ ⟨.bl (g i j),H,I,rfl,q⟩
def ApJ (i j:Int):Prop:=0<j∧j<1073741824
def Aqz (i j:Int):Prop:=j≠0∧j.natAbs<1073741824
def AqQ (i j:Int):Prop:=0≤j∧j≤1000000∧i.natAbs<2 ^ 64
def Ane (i j:Int):Prop:=(-(2 ^ 64)<i∧i<2 ^ 64)∨(-(2 ^ 64)<j∧j<2 ^ 64)
theorem Ane.ok{i j:Int}(h:Ane i j):IntMulOk i j:=by
 rcases h with ⟨h1,h2⟩ | ⟨h1,h2⟩
 ·exact .of_left (intBits_le_64 h1 h2)
 ·exact .of_right (intBits_le_64 h1 h2)
theorem U3:OpR X (binaryOp .Add) (rI0 fun i j=>.int (i+j)):=Aow fun _ _ _ _ _ _ _ q=>add_int q
theorem AdU:OpR X (binaryOp .Sub) (rI0 fun i j=>.int (i-j)):=Aow fun _ _ _ _ _ _ _ q=>sub_int q
theorem VJ:OpR X (binaryOp .Mult) (rI Ane fun i j=>.int (i*j)):=opI fun _ _ _ _ _ _ _ hc q=>mul_int q hc.ok
theorem AdV:OpR X (binaryOp .FloorDiv) (rI ApJ fun i j=>.int (i / j)):=opI fun i j _ _ _ _ _ hc q=>by
 have h1:(0:Int)<j:=hc.1
 have h2:j<1073741824:=hc.2
 exact floordiv_int (by omega) (by rw[Int.fdiv_eq_ediv_of_nonneg i (by omega)];exact q) (.inl (PyProof.noPylong_small (by omega)))
theorem R4:OpR X (binaryOp .Mod) (rI (fun _ j=>0<j) fun i j=>.int (i%j)):=opI fun i j _ _ _ _ _ hc q=>by
 have h1:(0:Int)<j:=hc
 exact mod_int' (by omega) (by rw[Int.fmod_eq_emod_of_nonneg i (by omega)];exact q)
end
def Aox:V→V→Bool
 | .non,.non=>true | .non,.int _=>true | .int _,.non=>true | .non,.bl _=>true | .bl _,.non=>true | .non,.str _=>true | .str _,.non=>true
 | .int _,.int _=>true | .bl _,.bl _=>true | .str _,.str _=>true | .byt _,.byt _=>true
 | .int _,.str _=>true | .str _,.int _=>true | .bl _,.str _=>true | .str _,.bl _=>true
 | _,_=>false
def rEq:R2:=fun x y H Q=>Aox x y=true∧Q (.bl (decide (x=y))) H
def rNe:R2:=fun x y H Q=>Aox x y=true∧Q (.bl (!decide (x=y))) H
theorem Ahv{i j:Int}:decide (V.int i=V.int j)=(i == j):=by
 rw[Ass]
 simp
theorem Ajx{i j:Bool}:decide (V.bl i=V.bl j)=(i == j):=by
 rw[Ass]
 simp
theorem Ahw{i j:Str}:decide (V.str i=V.str j)=(i == j):=by
 rw[Ass]
 simp
theorem Ahx{i j:Array UInt8}:decide (V.byt i=V.byt j)=(i.toList == j.toList):=by
 rw[Ass]
 cases i
 cases j
 simp
section
variable {X:Cx}{a b c:Expr}{ta tb tc:TE}{pos:Pos}
theorem Dw{pins:List (Addr × Obj)}{σ:St}{H:Hp}{s:Shared}{Q:VK}{k k':Bool}(I:Inv X pins σ H s)(q:Q (.bl k) H)(e:k=k'):EP X pins σ Q (.bool k') s:=by
 subst e
 exact⟨.bl k,H,I,rfl,q⟩
theorem Eh:OpR X (compareOp .Eq) rEq:=by
 intro pins s σ H x y v u Q I rx ry h
 obtain⟨hs,q⟩:=h
 cases x with
 | non =>
  cases rx
  cases y with
  | non=>cases ry;exact PySem.EqNone.eq_none_none (Dw I q (by simp))
  | bl j=>cases ry;exact PySem.EqNone.eq_none_bool (Dw I q (by simp))
  | int j=>obtain⟨t',rfl⟩:=ry;exact PySem.EqNone.eq_none_int (Dw I q (by simp))
  | str j=>obtain⟨t',rfl⟩:=ry;exact PySem.EqNone.eq_none_str (Dw I q (by simp))
  | _=>exact absurd (show false=true from hs) Ar2
 | bl i =>
  cases rx
  cases y with
  | non=>cases ry;exact PySem.EqNone.eq_bool_none (Dw I q (by simp))
  | bl j=>cases ry;exact eq_bool (Dw I q Ajx)
  | str j=>obtain⟨t',rfl⟩:=ry;exact PySem.EqMixed.eq_bool_str (Dw I q (by simp))
  | _=>exact absurd (show false=true from hs) Ar2
 | int i =>
  obtain⟨t,rfl⟩:=rx
  cases y with
  | non=>cases ry;exact PySem.EqNone.eq_int_none (Dw I q (by simp))
  | int j=>obtain⟨t',rfl⟩:=ry;exact eq_int (Dw I q Ahv)
  | str j=>obtain⟨t',rfl⟩:=ry;exact PySem.EqMixed.eq_int_str (Dw I q (by simp))
  | _=>exact absurd (show false=true from hs) Ar2
 | str i =>
  obtain⟨t,rfl⟩:=rx
  cases y with
  | non=>cases ry;exact PySem.EqNone.eq_str_none (Dw I q (by simp))
  | bl j=>cases ry;exact PySem.EqMixed.eq_str_bool (Dw I q (by simp))
  | int j=>obtain⟨t',rfl⟩:=ry;exact PySem.EqMixed.eq_str_int (Dw I q (by simp))
  | str j=>obtain⟨t',rfl⟩:=ry;exact eq_str (Dw I q Ahw)
  | _=>exact absurd (show false=true from hs) Ar2
 | byt i =>
  obtain⟨t,rfl⟩:=rx
  cases y with
  | byt j=>obtain⟨t',rfl⟩:=ry;exact PySem.W.eq_bytes (Dw I q Ahx)
  | _=>exact absurd (show false=true from hs) Ar2
 | _=>cases y <;> exact absurd (show false=true from hs) Ar2
theorem Ui:OpR X (compareOp .NotEq) rNe:=by
 intro pins s σ H x y v u Q I rx ry h
 obtain⟨hs,q⟩:=h
 cases x with
 | non =>
  cases rx
  cases y with
  | non=>cases ry;exact PySem.EqNone.ne_none_none (Dw I q (by simp))
  | bl j=>cases ry;exact PySem.EqNone.ne_none_bool (Dw I q (by simp))
  | int j=>obtain⟨t',rfl⟩:=ry;exact PySem.EqNone.ne_none_int (Dw I q (by simp))
  | str j=>obtain⟨t',rfl⟩:=ry;exact PySem.EqNone.ne_none_str (Dw I q (by simp))
  | _=>exact absurd (show false=true from hs) Ar2
 | bl i =>
  cases rx
  cases y with
  | non=>cases ry;exact PySem.EqNone.ne_bool_none (Dw I q (by simp))
  | bl j=>cases ry;exact ne_bool (Dw I q (congrArg not Ajx))
  | str j=>obtain⟨t',rfl⟩:=ry;exact PySem.EqMixed.ne_bool_str (Dw I q (by simp))
  | _=>exact absurd (show false=true from hs) Ar2
 | int i =>
  obtain⟨t,rfl⟩:=rx
  cases y with
  | non=>cases ry;exact PySem.EqNone.ne_int_none (Dw I q (by simp))
  | int j=>obtain⟨t',rfl⟩:=ry;exact ne_int (Dw I q (congrArg not Ahv))
  | str j=>obtain⟨t',rfl⟩:=ry;exact PySem.EqMixed.ne_int_str (Dw I q (by simp))
  | _=>exact absurd (show false=true from hs) Ar2
 | str i =>
  obtain⟨t,rfl⟩:=rx
  cases y with
  | non=>cases ry;exact PySem.EqNone.ne_str_none (Dw I q (by simp))
  | bl j=>cases ry;exact PySem.EqMixed.ne_str_bool (Dw I q (by simp))
  | int j=>obtain⟨t',rfl⟩:=ry;exact PySem.EqMixed.ne_str_int (Dw I q (by simp))
  | str j=>obtain⟨t',rfl⟩:=ry;exact ne_str (Dw I q (congrArg not Ahw))
  | _=>exact absurd (show false=true from hs) Ar2
 | byt i =>
  obtain⟨t,rfl⟩:=rx
  cases y with
  | byt j=>obtain⟨t',rfl⟩:=ry;exact PySem.W.ne_bytes (Dw I q (congrArg not Ahx))
  | _=>exact absurd (show false=true from hs) Ar2
 | _=>cases y <;> exact absurd (show false=true from hs) Ar2
theorem R5:OpR X (compareOp .Lt) (rI0 fun i j=>.bl (decide (i<j))):=Anc fun _ _ _ _ _ _ _ q=>lt_int q
theorem Q9:OpR X (compareOp .Gt) (rI0 fun i j=>.bl (decide (j<i))):=Anc fun _ _ _ _ _ _ _ q=>gt_int q
theorem AmA:OpR X (compareOp .GtE) (rI0 fun i j=>.bl (decide (j≤i))):=Anc fun _ _ _ _ _ _ _ q=>ge_int q
theorem Ad0:OpR X (compareOp .In) (fun x y H Q=>∃ i j,x=.str i∧y=.str j∧Q (.bl (!(Builtin.Str.occurrences j i 0 j.length 1).isEmpty)) H):=by
 intro pins s σ H x y v u Q I rx ry h
 obtain⟨i,j,rfl,rfl,q⟩:=h
 obtain⟨t,rfl⟩:=rx
 obtain⟨t',rfl⟩:=ry
 exact in_str (Dw I q rfl)
theorem Agv:OpR X (compareOp .Is) (fun x y H Q=>y=.non∧Q (.bl (decide (x=.non))) H):=by
 intro pins s σ H x y v u Q I rx ry h
 obtain⟨rfl,q⟩:=h
 cases ry
 refine is_none_gen (Dw I q ?_)
 cases x <;> first
  | (cases rx;rfl)
  | (obtain⟨t,rfl⟩:=rx;rfl)
theorem Y9:OpR X (compareOp .NotIn) (fun x y H Q=>∃ i j,x=.str i∧y=.str j∧Q (.bl (!(!(Builtin.Str.occurrences j i 0 j.length 1).isEmpty))) H):=by
 intro pins s σ H x y v u Q I rx ry h
 obtain⟨i,j,rfl,rfl,q⟩:=h
 obtain⟨t,rfl⟩:=rx
 obtain⟨t',rfl⟩:=ry
 exact notIn_str (Dw I q rfl)
def isObj:HO→Bool
 | .lst _=>true
 | .ins _ _ _=>true
 | _=>false
theorem Ax(b:Expr){op:CmpOp}(h:op≠.In:=by decide)(h2:op≠.NotIn:=by decide):behindInMarks op b=false:=by
 have e1:(op == CmpOp.In)=false:=by cases op <;> first | rfl | exact absurd rfl h
 have e2:(op == CmpOp.NotIn)=false:=by cases op <;> first | rfl | exact absurd rfl h2
 cases b <;> simp[behindInMarks,e1,e2]
theorem Lg{op:CmpOp}{r:R2}(ho:OpR X (compareOp op) r)(ha:PE X a ta)(hb:PE X b tb)(hm:behindInMarks op b=false):PE X (.Compare a [op] [b] pos) (tOp r ta tb):=by
 intro pins s σ H Q I h
 exact wpAny_Compare1 (Anb ha hb I h fun v u s2 x y H2 I2 rx ry q=>ho pins s2 σ H2 x y v u Q I2 rx ry q) hm
def Aoy (t:TE):TT:=fun σ H Q=>t σ H fun x H'=>∃ k,x=.bl k∧Q k H'
theorem Ao{op:CmpOp}{r:R2}(ho:OpR X (compareOp op) r)(ha:PE X a ta)(hb:PE X b tb)(hm:behindInMarks op b=false):PT X (.Compare a [op] [b] pos) (Aoy (tOp r ta tb)):=by
 intro pins s σ H Q I h
 refine wpAny_isTrue_Compare1 (thn (ha pins s σ H _ I h) fun v s1 ⟨x,H1,I1,r1,q1⟩=>thn (hb pins s1 σ H1 _ I1 q1) fun u s2 ⟨y,H2,I2,r2,q2⟩ =>
  thn (ho pins s2 σ H2 x y v u _ I2 r1 r2 q2) fun c s3 ⟨z,H3,I3,r3,k,e,q3⟩=>?_) hm
 subst e
 cases r3
 exact wpAny_truthy_bool ⟨H3,I3,q3⟩
def ApK (r r':R2)(ta tb tc:TE):TE:=fun σ H Q=>ta σ H fun x H1=>tb σ H1 fun y H2=>r x y H2 fun z H3=>∃ k,z=.bl k ∧
 (if k=true then tc σ H3 fun w' H4=>r' y w' H4 Q else Q (.bl false) H3)
def Anf (K:PySem.W.Frag)(x:V)(H:Hp)(k:Bool):Prop :=
 match x with
 | .non=>k=false
 | .bl b=>k=b
 | .int i=>k=(i != 0)
 | .str y=>y.length≤sizeLine∧k=((y.length:Int) != 0)
 | .byt y=>y.size≤sizeLine∧k=((y.size:Int) != 0)
 | .ref p=>(∃ xs,SqL K H p xs∧k=!xs.isEmpty)∨(∃ xs,SqT K H p xs∧k=!xs.isEmpty)∨∃ kvs,H p=some (.dK kvs)∧k=!kvs.isEmpty
 | _=>False
theorem Agw{κ:Type}{kvs:List (κ × V)}{vs:List (κ × Value)}(r:KV kvs vs):(!vs.isEmpty)=!kvs.isEmpty:=by
 cases r <;> rfl
theorem AbI{xs:List V}{its:List Value}(r:Vals xs its):(!its.toArray.isEmpty)=!xs.isEmpty:=by
 cases r <;> simp
theorem ZF:(sizeLine:Nat)<2 ^ 63:=by rw[sizeLine_eq];decide
theorem Ang:ApI X (fun x H Q=>∃ k,Anf X.K x H k∧Q k H):=by
 intro pins s σ H x v Q I rx h
 obtain⟨k,e,q⟩:=h
 have hl:=ZF
 have hs:sizeLine=16777216:=sizeLine_eq
 cases x with
 | non =>
  cases rx
  have e':k=false:=e
  subst e'
  exact truthy_none ⟨H,I,q⟩
 | bl b =>
  cases rx
  have e':k=b:=e
  subst e'
  exact wpAny_truthy_bool ⟨H,I,q⟩
 | int i =>
  obtain⟨t,rfl⟩:=rx
  have e':k=(i != 0):=e
  subst e'
  exact PySem.P.truthy_int ⟨H,I,q⟩
 | str y =>
  obtain⟨t,rfl⟩:=rx
  obtain⟨hy,e'⟩:y.length≤sizeLine∧k=((y.length:Int) != 0):=e
  subst e'
  exact PySem.P.truthy_str (by omega) ⟨H,I.tok _,q⟩
 | byt y =>
  obtain⟨t,rfl⟩:=rx
  obtain⟨hy,e'⟩:y.size≤sizeLine∧k=((y.size:Int) != 0):=e
  subst e'
  exact PySem.W.truthy_bytes (by omega) ⟨H,I.tok _,q⟩
 | ref p =>
  cases rx
  have e':(∃ xs,SqL X.K H p xs∧k=!xs.isEmpty)∨(∃ xs,SqT X.K H p xs∧k=!xs.isEmpty)∨∃ kvs,H p=some (.dK kvs)∧k=!kvs.isEmpty:=e
  rcases e' with ⟨xs,hx,e'⟩ | ⟨xs,hx,e'⟩ | ⟨kvs,hx,e'⟩
  ·subst e'
   obtain⟨its,r,pl,hz⟩:=I.list hx
   have hlen:=r.length
   exact wpAny_truthy_list pl.isList (by simp only [Ar0];omega) ⟨H,I.tok _,by rw[AbI r];exact q⟩
  ·subst e'
   obtain⟨its,r,pl,hz⟩:=I.tuple hx
   have hlen:=r.length
   exact truthy_tuple pl (by simp only [Ar0];omega) ⟨H,I.tok _,by rw[AbI r];exact q⟩
  ·subst e'
   obtain⟨hz,hS,vs,r,m⟩:kvs.length≤sizeLine∧(p == sysModules)=false∧∃ vs,KV kvs vs∧s.heap.DictOf (AdS X.prog X.w) p vs:=I.hok p _ hx
   have hlen:kvs.length=vs.length:=Paired.length r
   exact wpAny_truthy_dict hS m (by omega) ⟨H,I.tok _,by rw[Agw r];exact q⟩
 | _=>exact(show False from e).elim
theorem Ajy(ha:PE X a ta)(he:∀ whole,isTrue a X.env whole=(do let v ← whole;standAt a.pos;holding [v] (truthy v))) :
  PT X a (fun σ H Q=>ta σ H fun x H'=>∃ k,Anf X.K x H' k∧Q k H'):=by
 intro pins s σ H Q I h
 exact isTrue_plain (thn (ha pins s σ H _ I h) fun v s1 ⟨x,H1,I1,r1,q1⟩=>Ang pins s1 σ H1 x v Q I1 r1 q1) (he _)
theorem Bh:OpR X (binaryOp .Add) (fun x y H Q=>∃ i j,x=.str i∧y=.str j∧i.length+j.length≤sizeLine∧Q (.str (i++j)) H):=by
 intro pins s σ H x y v u Q I rx ry h
 obtain⟨i,j,rfl,rfl,hz,q⟩:=h
 obtain⟨t,rfl⟩:=rx
 obtain⟨t',rfl⟩:=ry
 exact add_str (fun t' tk=>⟨.str (i++j),H,I.tok _,⟨_,rfl⟩,q⟩) hz
def Aoz (b:Expr):Prop:=∀ o i,subscripted b false o i=operate [o,i] (getItem o i)
theorem vals1{x:V}{us:List Value}(r:Vals [x] us):∃ u,us=[u]∧RelV x u:=by
 cases r with
 | cons r1 r2=>cases r2;exact⟨_,rfl,r1⟩
theorem Aim:R3 X (.type "int") (fun xs H Q=>(∃ i,xs=[.int i]∧Q (.int i) H)∨∃ k,xs=[.bl k]∧Q (.int (if k then 1 else 0)) H):=by
 intro pins s σ H xs us Q I r h
 rcases h with ⟨i,rfl,q⟩ | ⟨k,rfl,q⟩
 ·obtain⟨u,rfl,t,rfl⟩:=vals1 r
  exact call_int_int ⟨.int i,H,I,⟨_,rfl⟩,q⟩
 ·obtain⟨u,rfl,r1⟩:=vals1 r
  cases r1
  exact call_int_bool ⟨.int (if k then 1 else 0),H,I.tok _,⟨_,rfl⟩,q⟩
theorem HR:R3 X (.type "str") (fun xs H Q=>∃ i,xs=[.int i]∧i.natAbs.log2<1920∧Q (.str (toString i)) H):=by
 intro pins s σ H xs us Q I r h
 obtain⟨i,rfl,hz,q⟩:=h
 obtain⟨u,rfl,t,rfl⟩:=vals1 r
 exact PySem.P.str_of_int hz ⟨.str _,H,I.tok _,⟨_,rfl⟩,q⟩
def AqR (K:PySem.W.Frag)(x:V)(H:Hp)(n:Nat):Prop :=
 match x with
 | .str y=>y.length≤sizeLine∧n=y.length
 | .byt y=>y.size≤sizeLine∧n=y.size
 | .ref p=>(∃ xs,SqL K H p xs∧n=xs.length)∨∃ xs,SqT K H p xs∧n=xs.length
 | _=>False
end
open PySem PySem.Spec PyProof.Rows
structure Agx (h:Heap) (x dx C:Addr) (mA:Str→Option Value):Prop where
 obj:h.get? x=some (PySem.W.instObj C dx)
 ns:h.Ns1 dx mA
 ne:dx≠x
theorem Ain{h:Heap}{dx:Addr}{mA:Str→Option Value}(n:h.Ns1 dx mA):∃ od,h.get? dx=some od∧∀ name,PySem.W.lookIn name od=some (mA name):=by
 obtain⟨o,es,ep,ho,hd,hk,_,hm⟩:=n
 refine⟨o,ho,fun name=>?_⟩
 have e:=hm name
 unfold nsFind findBy at e
 rw[← Array.find?_toList] at e
 unfold PySem.W.lookIn
 rw[hd]
 dsimp only
 split
 ·rename_i y q
  rw[q] at e
  exact congrArg some e
 ·rename_i q
  rw[q] at e
  have a:es.toList.any (·.refKey)=false:=by
   rw[List.any_eq_false]
   intro y hy
   obtain⟨z,t,hkey⟩:=hk y (Array.mem_toList_iff.mp hy)
   simp[DictEntry.refKey,hkey]
  have a':¬es.toList.any (·.refKey)=true:=by rw[a];exact Ar2
  rw[if_neg a']
  exact congrArg some e
theorem Agx.look{h:Heap}{x dx C:Addr}{mA:Str→Option Value}(I:Agx h x dx C mA):∃ od,PySem.W.InstAt h x (PySem.W.instObj C dx) C (some od)∧∀ name,PySem.W.lookIn name od=some (mA name) :=
 let ⟨od,ho,hl⟩:=Ain I.ns
 ⟨od,⟨I.obj,rfl,rfl,ho⟩,hl⟩
section
variable {prog:Program}{w:World}{A:Around}{E:Value→Shared→Prop}{s:Shared}{K:PySem.W.Frag}{x dx C f:Addr}{mA:Str→Option Value}{name:Str}{v:Value}
theorem get_map{expr:Bool}{Q:Value→Shared→Prop}(X:K.In s.heap)(I:Agx s.heap x dx C mA)(hg:PySem.W.plainGet K C name=true)(hh:PySem.W.hasDictIn K C=true)
  (ha:PySem.W.findIn K (.ref C) name=some none) (hv:mA name=some v) (hv':PySem.W.handedIn v=true) (h:Q v { s with toks:=s.toks+1 }) :
  wpAny (model prog w) A (getAttr (.ref x) name expr) Q E s:=by
 obtain⟨od,J,hl⟩:=I.look
 exact PySem.W.get_value X J (PySem.W.plainGet_of hg).1 (PySem.W.findObj_own hh ha rfl (by rw[hl,hv])) hv' h
theorem Ajz{pl:Sem Bool}{Q:Value × List Value→Shared→Prop}(X:K.In s.heap)(I:Agx s.heap x dx C mA)(hg:PySem.W.plainGet K C name=true)
  (hf:PySem.W.findIn K (.ref C) name=some (some (.ref f))) (ht:PySem.W.isFn K (.ref f)=true) (hv:mA name=none) (h:Q (.ref f,[.ref x]) s) :
  wpAny (model prog w) A (getMethod (.ref x) name pl) Q E s:=by
 obtain⟨od,J,hl⟩:=I.look
 exact PySem.W.method_fn X J (PySem.W.plainGet_of hg).1 (PySem.W.plainGet_of hg).2 hf (beq_iff_eq.mp ht) (by show(PySem.W.lookIn name od).map (·.isSome)=some false;rw[hl,hv];rfl) h
theorem Al1{ns:List Str}{Q:Unit→Shared→Prop}(X:K.In s.heap)(I:Agx s.heap x dx C mA)
  (hs:PySem.W.findIn K (.ref C) "__setattr__" = some (some (.builtin "object.__setattr__"))) (hp:PySem.W.plainOver K C=true) (ht:PySem.W.takerIn K C name=some none) (hh:PySem.W.hasDictIn K C=true)
  (hw:PySem.Within mA ns) (hsz:ns.length≤sizeLine)
  (h:∀ h',Agx h' x dx C (fun y=>if y=name then some v else mA y)→Heap.SameBut dx s.heap h'→Q () { s with heap:=h',toks:=s.toks+2 }) :
  wpAny (model prog w) A (setAttr (.ref x) name v) Q E s:=by
 obtain⟨od,J,hl⟩:=I.look
 refine PySem.W.set_plain X J hs (PySem.W.osa_open (s:={ s with toks:=s.toks+1 }) (r:=none) X J hp ht fun b=>?_)
 obtain⟨cd,hc,hd'⟩:=PySem.W.any_some hh
 have hx:s.heap.get? x=some ⟨.ref C,some dx,.plain,#[]⟩:=I.obj
 refine wpAny_bind (wpAny_pure (wpAny_bind (wpAny_bind (wpAny_loadPart hx (wpAny_bind (PySem.W.Looks.here (s:={ s with toks:=s.toks+1 }) (PySem.W.looks_clsIn X hc) ?_))))))
 rw[hd']
 refine wpAny_pure (a:=some dx) (wpAny_bind (wpAny_pure (wpAny_bind ?_)))
 refine wpAny_nsSet1 (s:={ s with toks:=s.toks+1 }) I.ns fun h' hn2 hs2=>?_
 obtain⟨oD,esD,epD,hoD,hdD,hcD⟩:=hn2.count (PySem.Within.cons name v hw)
 refine wpAny_bind (wpAny_lookBehind hoD (by rw[hdD];exact pastItsLine_dict (ArC hcD (by rw[Ars];omega))) ?_)
 exact wpAny_pure (h _ ⟨(hs2.2 _ (Ne.symm I.ne)).trans I.obj,hn2,I.ne⟩ hs2)
theorem Aj0{R:Result→Shared→Prop}{vs:List Value}{kw:List (Str × Value)}(X:K.In s.heap)(hm:PySem.W.makesIn K C=true)
  (hi:PySem.W.findIn K (.ref C) "__init__" = some (some (.ref f))) (hf:PySem.W.typeIn K (.ref f)=some (.type "function"))
  (h:codeAny (model prog w) (A.under (.builtin "type.__call__" ⟨.ref C::vs,kw⟩)) (.call (.ref f) ⟨.ref (s.heap.objs.size+1)::vs,kw⟩) (PySem.W.InitBack (s.heap.objs.size+1) R)
   { s with heap:=(s.heap.push PySem.W.emptyDict).push (PySem.W.instObj C s.heap.objs.size) }) :
  codeAny (model prog w) A (.call (.ref C) ⟨vs,kw⟩) R s:=by
 obtain⟨hh,g,d,t,os⟩:=s
 exact PySem.W.make_core (PySem.W.makes_of X hm) (PySem.W.looks_findIn X hi) (fun self=>PySem.W.bind_fn X self hf) (.inl rfl) h
end
def U4 (f:Str)(v:V):List (Str × V)→List (Str × V)
 | []=>[(f,v)]
 | (g,x)::r=>if g=f then (g,v)::r else (g,x)::U4 f v r
theorem AaI(f g:Str)(v:V):∀ fs:List (Str × V),(U4 f v fs).lookup g=if g=f then some v else fs.lookup g
 | []=>by
  show List.lookup g [(f,v)]=_
  by_cases h:g=f
  ·have hb:(g == f)=true:=beq_iff_eq.mpr h
   simp only [List.lookup,hb,if_pos h]
  ·have hb:(g == f)=false:=beq_eq_false_iff_ne.mpr h
   simp only [List.lookup,hb,if_neg h]
 | (k,x)::r=>by
  have ih:=AaI f g v r
  rw[show U4 f v ((k,x)::r)=(if k=f then (k,v)::r else (k,x)::U4 f v r) from rfl]
  by_cases hk:k=f
  ·rw[if_pos hk]
   by_cases h:g=k
   ·have hb:(g == k)=true:=beq_iff_eq.mpr h
    simp only [List.lookup,hb,if_pos (h.trans hk)]
   ·have hb:(g == k)=false:=beq_eq_false_iff_ne.mpr h
    simp only [List.lookup,hb,if_neg (fun e:g=f=>h (e.trans hk.symm))]
  ·rw[if_neg hk]
   by_cases h:g=k
   ·have hb:(g == k)=true:=beq_iff_eq.mpr h
    simp only [List.lookup,hb,if_neg (fun e:g=f=>hk (h.symm.trans e))]
   ·have hb:(g == k)=false:=beq_eq_false_iff_ne.mpr h
    simp only [List.lookup,hb]
    exact ih
theorem ZG(f:Str)(v:V):∀ fs:List (Str × V),f∈(U4 f v fs).map (·.1)∧∀ g,g∈fs.map (·.1)→g∈(U4 f v fs).map (·.1)
 | []=>⟨by simp[U4],fun g h=>by simp at h⟩
 | (k,x)::r=>by
  obtain⟨i1,i2⟩:=ZG f v r
  rw[show U4 f v ((k,x)::r)=(if k=f then (k,v)::r else (k,x)::U4 f v r) from rfl]
  by_cases hk:k=f
  ·rw[if_pos hk]
   subst hk
   exact⟨by simp,fun g h=>by simpa using h⟩
  ·rw[if_neg hk]
   refine⟨?_,fun g h=>?_⟩
   ·rw[Arx]
    exact ArF _ i1
   ·rw[Arx] at h ⊢
    rcases List.mem_cons.mp h with e | e
    ·exact List.mem_cons.mpr (.inl e)
    ·exact ArF _ (i2 g e)
theorem AaJ(f:Str)(v:V):∀ fs:List (Str × V),(U4 f v fs).length≤fs.length+1
 | []=>by simp[U4]
 | (k,x)::r=>by
  have ih:=AaJ f v r
  rw[show U4 f v ((k,x)::r)=(if k=f then (k,v)::r else (k,x)::U4 f v r) from rfl]
  by_cases hk:k=f
  ·rw[if_pos hk,Ars,Ars];omega
  ·rw[if_neg hk,Ars,Ars];omega
theorem AcX.some_of{v:V}{o:Option Value}(r:AcX (some v) o):∃ u,o=some u∧RelV v u:=by
 cases o with
 | none=>exact(show False from r).elim
 | some u=>exact⟨u,rfl,r⟩
theorem AcX.none_of{o:Option Value}(r:AcX none o):o=none:=by
 cases o with
 | none=>rfl
 | some u=>exact(show False from r).elim
theorem Aio{v:V}{u:Value}(r:RelV v u):PySem.W.handedIn u=true:=by
 cases v with
 | non=>cases (show u=Value.none from r);rfl
 | bl b=>cases (show u=Value.bool b from r);rfl
 | int i=>obtain⟨t,e⟩:=(show ∃ t,u=Value.int i t from r);cases e;rfl
 | str x=>obtain⟨t,e⟩:=(show ∃ t,u=Value.str x t from r);cases e;rfl
 | byt b=>obtain⟨t,e⟩:=(show ∃ t,u=Value.bytes b t from r);cases e;rfl
 | flt b=>obtain⟨t,e⟩:=(show ∃ t,u=Value.float b t from r);cases e;rfl
 | ref a=>cases (show u=Value.ref a from r);rfl
 | ty n=>cases (show u=Value.type n from r);rfl
section
variable {P:Program}{w:World}{H H':Hp}{h h':Heap}{a C dx:Addr}{fs fs':List (Str × V)}
theorem Abq(hok:HOk P w H h)(e:H a=some (.ins C dx fs)):∃ mA,Agx h a dx C mA∧(∀ f,AcX (fs.lookup f) (mA f))∧PySem.Within mA (fs.map (·.1))∧fs.length≤1000∧H dx=some (.own a):=by
 obtain⟨d,z,ne,ob,mA,n,r,q⟩:=(show Mq P w H h a (.ins C dx fs) from hok a _ e)
 exact⟨mA,⟨ob,n,ne⟩,r,q,z,d⟩
end
structure Cls (K:PySem.W.Frag) (C:Addr):Prop where
 pg:PySem.W.plainGet K C Str.empty=true
 hd:PySem.W.hasDictIn K C=true
 po:PySem.W.plainOver K C=true
 sa:PySem.W.findIn K (.ref C) "__setattr__" = some (some (.builtin "object.__setattr__"))
theorem Cls.get{K:PySem.W.Frag}{C:Addr}(c:Cls K C)(f:Str):PySem.W.plainGet K C f=true:=c.pg
def CT (K:PySem.W.Frag)(C:Addr)(f:Str):Prop:=PySem.W.findIn K (.ref C) f=some none
theorem CT.taker{K:PySem.W.Frag}{C:Addr}{f:Str}(n:CT K C f):PySem.W.takerIn K C f=some none:=by
 unfold PySem.W.takerIn
 rw[show PySem.W.findIn K (.ref C) f=some none from n]
 rfl
structure Con (K:PySem.W.Frag) (C:Addr) (f:Str) (v:V) (u:Value):Prop where
 at_:PySem.W.findIn K (.ref C) f=some (some u)
 rel:RelV v u
 get:PySem.W.specialIn K u "__get__" = some none
 cp:PySem.W.copiedNames.contains f=false
structure Meth (K:PySem.W.Frag) (C:Addr) (m:Str) (f:Addr):Prop where
 at_:PySem.W.findIn K (.ref C) m=some (some (.ref f))
 fn:PySem.W.isFn K (.ref f)=true
 kp:PySem.W.keepIn K (.ref f)=true
section
variable {X:Cx}{pins:List (Addr × Obj)}{σ:St}{H:Hp}{s:Shared}{a C dx:Addr}{fs:List (Str × V)}{f:Str}{v:V}{A:Around}{E:Value→Shared→Prop}
theorem AbJ{b:Bool}{Q:Value→Shared→Prop}(I:Inv X pins σ H s)(e:H a=some (.ins C dx fs))(c:Cls X.K C)(n:CT X.K C f)(l:fs.lookup f=some v)
  (h:∀ u s',Inv X pins σ H s'→RelV v u→Q u s'):wpAny (model X.prog X.w) A (getAttr (.ref a) f b) Q E s:=by
 obtain⟨mA,O,r,_,_,_⟩:=Abq I.hok e
 obtain⟨u,hu,ru⟩:=AcX.some_of (v:=v) (o:=mA f) (by rw[← l];exact r f)
 exact get_map I.kIn O (c.get f) c.hd n hu (Aio ru) (h u _ (I.tok _) ru)
theorem XR{m:Str}{g:Addr}{pl:Sem Bool}{Q:Value × List Value→Shared→Prop}(I:Inv X pins σ H s)(e:H a=some (.ins C dx fs))(c:Cls X.K C)(k:Meth X.K C m g)(l:fs.lookup m=none)
  (h:Q (.ref g,[.ref a]) s):wpAny (model X.prog X.w) A (getMethod (.ref a) m pl) Q E s:=by
 obtain⟨mA,O,r,_,_,_⟩:=Abq I.hok e
 have hn:mA m=none:=AcX.none_of (by rw[← l];exact r m)
 exact Ajz I.kIn O (c.get m) k.at_ k.fn hn h
theorem AbK{y:V}{u:Value}{Q:Unit→Shared→Prop}(I:Inv X pins σ H s)(e:H a=some (.ins C dx fs))(c:Cls X.K C)(n:CT X.K C f)(hl:fs.length<1000)(ry:RelV y u)
  (h:∀ s',Inv X pins σ (upd H a (.ins C dx (U4 f y fs))) s'→Q () s'):wpAny (model X.prog X.w) A (setAttr (.ref a) f u) Q E s:=by
 obtain⟨mA,O,r,wi,_,ho⟩:=Abq I.hok e
 have hz:(fs.map (·.1)).length≤sizeLine:=by rw[Arq,sizeLine_eq];omega
 refine Al1 I.kIn O c.sa c.po n.taker c.hd wi hz fun h' O' sb=>h _ ?_
 have hd:∃ o,h'.get? dx=some o:=let ⟨o,_,_,e',_⟩:=O'.ns;⟨o,e'⟩
 refine I.write (x:=a) (e:=dx) (by rw[e];exact True.intro) (.inr ho) (fun b q hb z=>(sb.2 b hb).trans z) hd ?_
 refine⟨by rw[Ba O.ne];exact ho,?_,O.ne,O'.obj,_,O'.ns,fun g=>?_,fun g hg=>?_⟩
 ·have:=AaJ f y fs;omega
 ·show AcX ((U4 f y fs).lookup g) (if g=f then some u else mA g)
  rw[AaI]
  by_cases q:g=f
  ·rw[if_pos q,if_pos q];exact ry
  ·rw[if_neg q,if_neg q];exact r g
 ·by_cases q:g=f
  ·rw[q];exact(ZG f y fs).1
  ·refine(ZG f y fs).2 g (wi g fun z=>hg ?_)
   show(if g=f then some u else mA g)=none
   rw[if_neg q];exact z
theorem Inv.made(I:Inv X pins σ H s):Inv X pins σ (upd (upd H s.heap.objs.size (.own (s.heap.objs.size+1))) (s.heap.objs.size+1) (.ins C s.heap.objs.size []))
  { s with heap:=(s.heap.push PySem.W.emptyDict).push (PySem.W.instObj C s.heap.objs.size) }:=by
 have e1:(s.heap.push PySem.W.emptyDict).get? s.heap.objs.size=some PySem.W.emptyDict:=Heap.get?_push_size s.heap rfl
 have e2:((s.heap.push PySem.W.emptyDict).push (PySem.W.instObj C s.heap.objs.size)).get? (s.heap.objs.size+1)=some (PySem.W.instObj C s.heap.objs.size):=by
  have:=Heap.get?_push_size (s.heap.push PySem.W.emptyDict) (o:=PySem.W.instObj C s.heap.objs.size) rfl
  rwa [Heap.size_push] at this
 have e3:(s.heap.push PySem.W.emptyDict).Ns s.heap.objs.size (fun _=>none):=⟨PySem.W.emptyDict,#[],_,e1,rfl,(fun e he=>absurd he (by simp)),fun _=>rfl⟩
 have I1:=I.laid (a:=s.heap.objs.size) (o:=.own (s.heap.objs.size+1)) (h':=s.heap.push PySem.W.emptyDict) (t':=s.toks) (fun b u q=>Heap.get?_push_of_some _ q) (Art _) ⟨_,e1⟩
 refine I1.laid (a:=s.heap.objs.size+1) (o:=.ins C s.heap.objs.size []) (t':=s.toks) (fun b u q=>Heap.get?_push_of_some _ q) (ArW (Heap.size_push _ _)) ?_
 have ne:s.heap.objs.size≠s.heap.objs.size+1:=Arw (Asf _)
 refine⟨by rw[Ba ne,Ad],Ar9 _,ne,e2,fun _=>none,(Heap.Ns1.of_empty e3).at fun o q=>Heap.get?_push_of_some _ q,fun _=>True.intro,fun y hy=>absurd rfl hy⟩
theorem Al2{prog:Program}{w:World}{env:Env}{e:Expr}{f:Str}{pos:Pos}{s:Shared}{Q:Value→Shared→Prop}(hb:attributeBase e f env (eval e env)=eval e env)
  (h:wpAny (model prog w) A (eval e env) (fun o s₁=>wpAny (model prog w) A (getAttr o f true) Q E s₁) E s):wpAny (model prog w) A (eval (.Attribute e f pos) env) Q E s :=
 Attribute_any_ h (by rw[arm_eval_Attribute,hb])
end
def Ao0 (K:PySem.W.Frag)(ta:TE)(f:Str):TE:=fun σ H Q=>ta σ H fun x H1=>∃ a C dx fs v,x=.ref a∧H1 a=some (.ins C dx fs)∧Cls K C∧CT K C f∧fs.lookup f=some v∧Q v H1
def AqS (K:PySem.W.Frag)(ta:TE)(f:Str):TE:=fun σ H Q=>ta σ H fun x H1=>∃ a C dx fs v u,x=.ref a∧H1 a=some (.ins C dx fs)∧Cls K C∧Con K C f v u∧fs.lookup f=none∧Q v H1
def Ao1 (K:PySem.W.Frag)(ta tv:TE)(f:Str):TS:=fun D σ H=>tv σ H fun y H1=>ta σ H1 fun x H2=>∃ a C dx fs,x=.ref a∧H2 a=some (.ins C dx fs)∧Cls K C∧CT K C f∧fs.length<1000 ∧
 D.nx σ (upd H2 a (.ins C dx (U4 f y fs)))
def Anh (X:Cx)(op:Operator)(rd:V→V→Hp→VK→Prop):Prop :=
 ∀(pins:List (Addr × Obj)) (s:Shared) (σ:St) (H:Hp) (x y:V) (u v:Value) (Q:VK),Inv X pins σ H s→RelV x u→RelV y v→rd x y H Q→wpAny (model X.prog X.w) X.A (inplaceOp op u v) (EP X pins σ Q) X.xe s
def Ahy (K:PySem.W.Frag)(ta tv:TE)(rd:V→V→Hp→VK→Prop)(f:Str):TS:=fun D σ H=>ta σ H fun x H1=>∃ a C dx fs v,x=.ref a∧H1 a=some (.ins C dx fs)∧Cls K C∧CT K C f∧fs.lookup f=some v ∧
 tv σ H1 fun y H2=>rd v y H2 fun z H3=>∃ dx' fs',H3 a=some (.ins C dx' fs')∧fs'.length<1000∧D.nx σ (upd H3 a (.ins C dx' (U4 f z fs')))
section
variable {X:Cx}{o e value:Expr}{f:Str}{pos pos' tpos:Pos}{ta tv:TE}
theorem Ani(he:PE X e ta)(hb:attributeBase e f X.env (eval e X.env)=eval e X.env):PE X (.Attribute e f pos) (Ao0 X.K ta f):=by
 intro pins s σ H Q I h
 refine Al2 hb (thn (he pins s σ H _ I h) fun u s1 ⟨x,H1,I1,rx,a,C,dx,fs,v,ex,ea,c,n,l,q⟩=>?_)
 subst ex
 obtain rfl:u=Value.ref a:=rx
 exact AbJ I1 ea c n l fun u' s2 I2 ru=>⟨v,H1,I2,ru,q⟩
theorem Anj(ha:PE X o ta)(hv:PE X value tv)(hs:swapsWith value (some (.Attribute o f pos')) pos.line X.env=pure false):PS X (.Assign [.Attribute o f pos'] value pos) (Ao1 X.K ta tv f):=by
 intro pins s σ H D I h
 refine plainObj_wpAny_Assign_Attribute (thn (hv pins s σ H _ I h) fun u s1 ⟨y,H1,I1,ry,q⟩=>thn (ha pins s1 σ H1 _ I1 q) fun ov s2 ⟨x,H2,I2,rx,a,C,dx,fs,ex,ea,c,n,l,q2⟩=>?_) hs
 subst ex
 obtain rfl:ov=Value.ref a:=rx
 exact AbK I2 ea c n l ry fun s3 I3=>⟨σ,_,I3,q2⟩
theorem Aip{op:Operator}{rd:V→V→Hp→VK→Prop}(ha:PE X o ta)(hv:PE X value tv)(hop:Anh X op rd):PS X (.AugAssign (.Attribute o f tpos) op value pos) (Ahy X.K ta tv rd f):=by
 intro pins s σ H D I h
 refine wpAny_AugAssign_AttributeAny (thn (ha pins s σ H _ I h) fun ov s1 ⟨x,H1,I1,rx,a,C,dx,fs,v,ex,ea,c,n,l,q⟩=>?_)
 subst ex
 obtain rfl:ov=Value.ref a:=rx
 refine AbJ I1 ea c n l fun u s2 I2 ru=>thn (hv pins s2 σ H1 _ I2 q) fun w3 s3 ⟨y,H2,I3,ry,q3⟩=>thn (hop pins s3 σ H2 v y u w3 _ I3 ru ry q3) fun w4 s4 ⟨z,H3,I4,rz,dx',fs',ea',l',q4⟩=>?_
 exact AbK I4 ea' c n l' rz fun s5 I5=>⟨σ,_,I5,q4⟩
def ApL:V→V→Hp→VK→Prop:=fun x y H Q=>∃ i j,x=.int i∧y=.int j∧Q (.int (i+j)) H
def AqT:V→V→Hp→VK→Prop:=fun x y H Q=>∃ i j,x=.int i∧y=.int j∧Q (.int (i-j)) H
theorem Ank:Anh X .Add ApL:=by
 rintro pins s σ H x y u v Q I rx ry ⟨i,j,rfl,rfl,q⟩
 obtain⟨t,rfl⟩:=(show ∃ t,u=Value.int i t from rx)
 obtain⟨t',rfl⟩:=(show ∃ t',v=Value.int j t' from ry)
 exact PyProof.Rows.iadd_int ⟨.int (i+j),H,I.tok _,⟨_,rfl⟩,q⟩
end
section
variable {X:Cx}{pins:List (Addr × Obj)}{σ:St}{H:Hp}{s:Shared}{A:Around}{E:Value→Shared→Prop}{Q:Value→Shared→Prop}{c:Value}{b:Bool}
inductive YB (K:PySem.W.Frag) (H:Hp):V→Value→Prop where
 | non:YB K H .non (.type "NoneType")
 | bl (x:Bool):YB K H (.bl x) (.type "bool")
 | int (i:Int):YB K H (.int i) (.type "int")
 | str (x:Str):YB K H (.str x) (.type "str")
 | flt (x:UInt64):YB K H (.flt x) (.type "float")
 | lst {a:Addr} {xs:List V} (e:H a=some (.lst xs)):YB K H (.ref a) (.type "list")
 | frz {a:Addr} {o:Obj} {xs:List V} (e:H a=some (.frz o (.lst xs))):YB K H (.ref a) (.type "list")
 | tup {a:Addr} {xs:List V} (e:H a=some (.tup xs)):YB K H (.ref a) (.type "tuple")
 | dK {a:Addr} {kvs:List (Key × V)} (e:H a=some (.dK kvs)):YB K H (.ref a) (.type "dict")
 | dT {a:Addr} {kvs:List (List Key × V)} (e:H a=some (.dT kvs)):YB K H (.ref a) (.type "dict")
 | ins {a C dx:Addr} {fs:List (Str × V)} (e:H a=some (.ins C dx fs)) (cl:Cls K C) (ha:PySem.W.findIn K (.ref C) "__class__" = some (some (.builtin "object.__class__")))
   (hn:PySem.W.specialIn K (.builtin "object.__class__") "__get__" = some (some (.builtin "getset_descriptor.__get__"))) (htk:PySem.W.takesIn K (.builtin "object.__class__")=some true)
   (hm:PySem.W.mroIn K C (.type "object")=some true):YB K H (.ref a) (.ref C)
theorem Ad1{x:V}{u t:Value}(I:Inv X pins σ H s)(rx:RelV x u)(ty:YB X.K H x t)(e:PySem.W.kitOne X.K t c=some b)(h:∀ tk,Q (.bool b) { s with toks:=tk }) :
  wpAny (model X.prog X.w) A (call (.builtin "isinstance") [u,c]) Q E s:=by
 cases ty with
 | non=>cases (show u=Value.none from rx);exact PySem.W.kia_one PySem.W.kitx_none I.kIn True.intro e (fun z=>nomatch z) h
 | bl y=>cases (show u=Value.bool y from rx);exact PySem.W.kia_one PySem.W.kitx_bool I.kIn True.intro e (fun z=>nomatch z) h
 | int i=>obtain⟨t,q⟩:=(show ∃ t,u=Value.int i t from rx);cases q;exact PySem.W.kia_one PySem.W.kitx_int I.kIn True.intro e (fun z=>nomatch z) h
 | str y=>obtain⟨t,q⟩:=(show ∃ t,u=Value.str y t from rx);cases q;exact PySem.W.kia_one PySem.W.kitx_str I.kIn True.intro e (fun z=>nomatch z) h
 | flt y=>obtain⟨t,q⟩:=(show ∃ t,u=Value.float y t from rx);cases q;exact PySem.W.kia_one PySem.W.kitx_float I.kIn True.intro e (fun z=>nomatch z) h
 | @lst a xs ea =>
  cases (show u=Value.ref a from rx)
  obtain⟨_,_,n,_,h1⟩:=(show Mq X.prog X.w H s.heap a (.lst xs) from I.hok a _ ea)
  exact PySem.W.kia_one PySem.W.kitx_list I.kIn ⟨_,h1,rfl⟩ e (fun z=>nomatch z) h
 | @frz a ob xs ea =>
  cases (show u=Value.ref a from rx)
  obtain⟨_,_,_,n,_,h1⟩:=(show Mq X.prog X.w H s.heap a (.frz ob (.lst xs)) from I.hok a _ ea)
  exact PySem.W.kia_one PySem.W.kitx_list I.kIn ⟨_,h1,rfl⟩ e (fun z=>nomatch z) h
 | @tup a xs ea =>
  cases (show u=Value.ref a from rx)
  obtain⟨_,_,_,p⟩:=(show Mq X.prog X.w H s.heap a (.tup xs) from I.hok a _ ea)
  obtain⟨o,h1,h2,_⟩:=p
  exact PySem.W.kia_one PySem.W.kitx_tuple I.kIn ⟨o,h1,h2⟩ e (fun z=>nomatch z) h
 | @dK a kvs ea =>
  cases (show u=Value.ref a from rx)
  obtain⟨_,_,vs,_,p⟩:=(show Mq X.prog X.w H s.heap a (.dK kvs) from I.hok a _ ea)
  obtain⟨o,es,ep,h1,h2,_⟩:=p
  exact PySem.W.kia_one PySem.W.kitx_dict I.kIn ⟨o,h1,h2.1⟩ e (fun z=>nomatch z) h
 | @dT a kvs ea =>
  cases (show u=Value.ref a from rx)
  obtain⟨_,_,xs,_,o,es,ep,h1,h2,_⟩:=(show Mq X.prog X.w H s.heap a (.dT kvs) from I.hok a _ ea)
  exact PySem.W.kia_one PySem.W.kitx_dict I.kIn ⟨o,h1,h2.1⟩ e (fun z=>nomatch z) h
 | @ins a C dx fs ea cl ha hn htk hm =>
  cases (show u=Value.ref a from rx)
  obtain⟨mA,O,_⟩:=Abq I.hok ea
  obtain⟨od,J,_⟩:=O.look
  exact PySem.W.kia_one (PySem.W.kitx_own (cl.get _) cl.hd ha hn htk hm) I.kIn J e (fun z=>nomatch z) h
end
open PySem PySem.Spec PyProof.Rows
structure Mu (k:Nat) (A:Around):Prop where
 hd:A.handled=none
 dp:A.depth+3*k+5<recursionLimit
 un:A.units+16*k+200<cLine
theorem Mu.mono{j k:Nat}{A:Around}(r:Mu k A)(h:j≤k):Mu j A:=⟨r.hd,by have:=r.dp;omega,by have:=r.un;omega⟩
theorem Mu.deeper{k:Nat}{A:Around}(r:Mu (k+1) A)(env:Env):Mu k (A.deeper env) :=
 ⟨r.hd,by have:=r.dp;show A.depth+1+3*k+5<_;omega,by have:=r.un;show A.units+3+16*k+200<_;omega⟩
theorem Agy{A:Around}{C:Addr}{us:List Value}{kw:List (Str × Value)}:(A.under (.builtin "type.__call__" ⟨.ref C::us,kw⟩)).depth=A.depth+1:=by
 first | rfl | simp[Around.under,Code.weight,Code.isCreation,Code.isGuard,Code.isCaller,Code.frames,Code.isFrame,guardIds]
theorem Agz{A:Around}{C:Addr}{us:List Value}{kw:List (Str × Value)}:(A.under (.builtin "type.__call__" ⟨.ref C::us,kw⟩)).units=A.units+1:=by
 first | rfl | simp[Around.under,Code.cUnits,Code.frames,Code.isFrame]
theorem Mu.make{k:Nat}{A:Around}(r:Mu (k+1) A)(C:Addr)(us:List Value)(kw:List (Str × Value)):Mu k (A.under (.builtin "type.__call__" ⟨.ref C::us,kw⟩)) :=
 ⟨r.hd,by have:=r.dp;rw[Agy];omega,by have:=r.un;rw[Agz];omega⟩
theorem Mu.depth{k:Nat}{A:Around}(r:Mu k A):A.depth<recursionLimit:=by have:=r.dp;omega
theorem Mu.Anl{k:Nat}{A:Around}(r:Mu k A):A.units<cLine:=by have:=r.un;omega
def Ao2:TA:=fun _ H Q=>Q [] H
def Ao3 (ta:TE)(tr:TA):TA:=fun σ H Q=>ta σ H fun x H1=>tr σ H1 fun xs H2=>Q (x::xs) H2
section
variable {X:Cx}{e:Expr}{es:List Expr}{te:TE}{t:TA}{pos:Pos}
theorem Ab:PA X [] Ao2:=fun _ _ _ _ H Q I h=>Calls.spliced_nil ⟨[],H,I,.nil,h⟩
theorem Aa(ha:PE X e te)(hr:PA X es t)(hs:starEach (e::es) X.env=(false,eval e X.env)::starEach es X.env:=by rfl):PA X (e::es) (Ao3 te t):=by
 intro pos pins s σ H Q I h
 rw[hs]
 show wpAny _ _ (spliced ((false,eval e X.env)::backTo pos (starEach es X.env))) _ _ s
 refine Calls.spliced_cons (thn (ha pins s σ H _ I h) fun u s1 ⟨x,H1,I1,r1,q1⟩=>?_)
 exact thn (hr pos pins s1 σ H1 _ I1 q1) fun us s2 ⟨xs,H2,I2,r2,q2⟩=>⟨x::xs,H2,I2,.cons r1 r2,q2⟩
def ApM (t:TA):TE:=fun σ H Q=>t σ H fun xs H1=>xs.length≤sizeLine∧∀ p,H1 p=none→Q (.ref p) (upd H1 p (.tup xs))
def ApN (t:TA):TE:=fun σ H Q=>t σ H fun xs H1=>xs.length≤sizeLine∧∀ p,H1 p=none→Q (.ref p) (upd H1 p (.lst xs))
theorem Tr{x1}(h:PA X es t):PE X (.Tuple es x1 pos) (ApM t):=by
 intro pins s σ H Q I hq
 refine wpAny_Tuple_spliced (thn (h pos pins s σ H _ I hq) fun us s1 ⟨xs,H1,I1,r,z,q⟩=>⟨by rw[← r.length];exact z,?_⟩)
 have hf:H1 s1.heap.objs.size=none:=I1.hok.fresh (Art _)
 refine⟨.ref s1.heap.objs.size,upd H1 s1.heap.objs.size (.tup xs),I1.laid (t':=s1.toks) (fun b u e=>Heap.get?_push_of_some _ e) (Art _) ?_,rfl,q _ hf⟩
 exact⟨z,us,r,⟨_,Heap.get?_push_size _ rfl,rfl,_,rfl⟩⟩
theorem Ez(h:PA X es t):PE X (.List es pos) (ApN t):=by
 intro pins s σ H Q I hq
 refine wpAny_List_spliced (thn (h pos pins s σ H _ I hq) fun us s1 ⟨xs,H1,I1,r,z,q⟩=>⟨by rw[← r.length];exact z,?_⟩)
 have hf:H1 s1.heap.objs.size=none:=I1.hok.fresh (Art _)
 refine⟨.ref s1.heap.objs.size,upd H1 s1.heap.objs.size (.lst xs),I1.laid (t':=s1.toks) (fun b u e=>Heap.get?_push_of_some _ e) (Art _) ?_,rfl,q _ hf⟩
 exact⟨z,us,0,r,Heap.get?_push_size _ rfl⟩
end
abbrev Sp:=List V→Hp→VK→XK→Prop
abbrev CXT:=List Env→Hp→Shared→XK→Value→Shared→Prop
structure Ag0 (P:Program) (w:World) (K:PySem.W.Frag) (mg:Str→Option Value) (base:Heap) (A:Around) (outer:List Env) (s:Shared) (H:Hp):Prop where
 frames:A.frames=some outer
 mod:Mod K mg base
 bs:∀ b o,base.get? b=some o→s.heap.get? b=some o∧H b=none
 bsz:base.objs.size≤s.heap.objs.size
 VG:s.heap.FunFrames base outer
 frf:∀ b∈frs outer,H b=none
 hok:HOk P w H s.heap
 bare:AllBare s.gens
def CE (outer:List Env)(P:Program)(w:World)(H:Hp)(s:Shared)(Q:VK)(u:Value)(s':Shared):Prop :=
 ∃ v H',s'.os=s.os∧AllBare s'.gens∧Un (frs outer) [] H H' s.heap s'.heap∧HOk P w H' s'.heap∧RelV v u∧Q v H'
def CR (CX:CXT)(outer:List Env)(P:Program)(w:World)(H:Hp)(s:Shared)(Q:VK)(E:XK)(r:Result)(s':Shared):Prop :=
 match r with
 | .ok (.ret u)=>CE outer P w H s Q u s'
 | .ok _=>False
 | .error e=>CX outer H s E e s'
structure Aj (P:Program) (w:World) (K:PySem.W.Frag) (mg:Str→Option Value) (base:Heap) (CX:CXT) (k:Nat) (f:Addr) (fd:FuncData) (ps:List Str) (sp:Sp):Prop where
 len:∀ vs H Q E,sp vs H Q E→vs.length=ps.length
 run:∀(A:Around) (outer:List Env) (s:Shared) (H:Hp) (args:Args) (us:List Value) (vs:List V) (Q:VK) (E:XK),Mu k A→Ag0 P w K mg base A outer s H→BindsTo s fd args (ps.zip us)→Vals vs us→sp vs H Q E →
  codeAny (model P w) A (.call (.ref f) args) (CR CX outer P w H s Q E) s
theorem Aj.mono{P:Program}{w:World}{K:PySem.W.Frag}{mg:Str→Option Value}{base:Heap}{CX:CXT}{j k:Nat}{f:Addr}{fd:FuncData}{ps:List Str}{sp:Sp}(F:Aj P w K mg base CX j f fd ps sp)(h:j≤k) :
  Aj P w K mg base CX k f fd ps sp:=⟨F.len,fun A outer s H args us vs Q E hr=>F.run A outer s H args us vs Q E (hr.mono h)⟩
theorem Ag0.make{P:Program}{w:World}{K:PySem.W.Frag}{mg:Str→Option Value}{base:Heap}{A:Around}{outer:List Env}{s:Shared}{H:Hp}(e:Ag0 P w K mg base A outer s H)(C:Addr)(us:List Value)(kw:List (Str × Value)) :
  Ag0 P w K mg base (A.under (.builtin "type.__call__" ⟨.ref C::us,kw⟩)) outer s H:=⟨by first | exact e.frames | (simpa [Around.under,Code.envs,Code.isFrame,pushEnvs] using e.frames),e.mod,e.bs,e.bsz,e.VG,e.frf,e.hok,e.bare⟩
section
variable {X:Cx}{pins:List (Addr × Obj)}{σ:St}{H:Hp}{s s':Shared}
theorem Inv.env0(I:Inv X pins σ H s):Ag0 X.prog X.w X.K X.mg X.base X.A X.stack s H :=
 ⟨I.ok.frames,I.ok.mod,I.bs,ArC I.ok.bsz I.sz,I.stack,I.Xa,I.hok,I.bare⟩
theorem Inv.after{Q:VK}{u:Value}(I:Inv X pins σ H s)(h:CE X.stack X.prog X.w H s Q u s'):EP X pins σ Q u s':=by
 obtain⟨v,H',os,bare,un,hok,r,q⟩:=h
 obtain⟨hh,g,d,t,os'⟩:=s'
 obtain rfl:os'=s.os:=os
 exact⟨v,H',I.call (h':=hh) (g':=g) (d':=d) (t':=t) (ch:=[]) un hok bare (fun b z=>absurd z (by simp)),r,q⟩
end
def AmB (sp:Sp)(dvs:List V)(E:XK)(t:TA):TE:=fun σ H Q=>t σ H fun vs H1=>sp (vs++dvs) H1 Q E
def AmC (C:Addr)(m:Str)(sp:Sp)(dvs:List V)(E:XK)(ta:TE)(t:TA):TE:=fun σ H Q=>ta σ H fun x H1=>∃ a dx fs,x=.ref a∧H1 a=some (.ins C dx fs)∧fs.lookup m=none ∧
 t σ H1 fun vs H2=>sp (x::(vs++dvs)) H2 Q E
def Ao4 (C:Addr)(sp:Sp)(dvs:List V)(E:XK)(t:TA):TE:=fun σ H Q=>t σ H fun vs H1=>∀ x dx,H1 x=none→H1 dx=none→dx≠x →
 sp (.ref x::(vs++dvs)) (upd (upd H1 dx (.own x)) x (.ins C dx [])) (fun v H2=>v=.non∧Q (.ref x) H2) E
def Binds(K:PySem.W.Frag)(fd:FuncData)(ps:List Str)(ds:List Value):Prop :=
 ∀(s:Shared) (us:List Value),K.In s.heap→(us++ds).length=ps.length→BindsTo s fd ⟨us,[]⟩ (ps.zip (us++ds))
theorem Binds.all{K:PySem.W.Frag}{fd:FuncData}{ps:List Str}(h:∀ us:List Value,us.length=ps.length→bindArgs fd ⟨us,[]⟩=pure (ps.zip us)):Binds K fd ps []:=fun s us _ hl=>by
 rw[Asg] at hl ⊢
 exact .of_eq (h us hl)
def Passes(CX:CXT)(X:Cx)(E:XK):Prop:=∀(pins:List (Addr × Obj)) (σ:St) (H:Hp) (s:Shared) (e:Value) (s':Shared),Inv X pins σ H s→CX X.stack H s E e s'→X.xe e s'
section
variable {X:Cx}{CX:CXT}{k:Nat}{f C:Addr}{fd:FuncData}{ps:List Str}{sp:Sp}{dvs:List V}{ds:List Value}{E:XK}{x m:Str}{p pos apos:Pos}{e o:Expr}{es:List Expr}{ta:TE}{t:TA}
theorem AbL{pins:List (Addr × Obj)}{σ:St}{H:Hp}{s:Shared}{Q:VK}{us:List Value}{vs:List V}(F:Aj X.prog X.w X.K X.mg X.base CX k f fd ps sp)(hr:Mu k X.A)(hb:Binds X.K fd ps ds)(hd:Vals dvs ds)(hx:Passes CX X E)
  (I:Inv X pins σ H s) (r:Vals vs us) (h:sp (vs++dvs) H Q E):wpAny (model X.prog X.w) X.A (call (.ref f) us) (EP X pins σ Q) X.xe s:=by
 have r2:Vals (vs++dvs) (us++ds):=r.append hd
 have hl:(us++ds).length=ps.length:=by rw[← r2.length];exact F.len _ _ _ _ h
 refine wpAny_call (codeAny_mono (F.run X.A X.stack s H ⟨us,[]⟩ (us++ds) (vs++dvs) Q E hr I.env0 (hb s us I.kIn hl) r2 h) fun r s' hq=>?_)
 cases r with
 | error e=>exact hx pins σ H s e s' I hq
 | ok fl =>
  cases fl with
  | ret u=>exact I.after hq
  | next=>exact False.elim hq
  | brk=>exact False.elim hq
  | cont=>exact False.elim hq
theorem Aq(F:Aj X.prog X.w X.K X.mg X.base CX k f fd ps sp)(hr:Mu k X.A)(hg:Gl X x)(hm:X.mg x=some (.ref f))(hk:PySem.W.keepIn X.K (.ref f)=true)(hb:Binds X.K fd ps ds)(hd:Vals dvs ds)(hx:Passes CX X E)
  (ha:PA X (e::es) t) (hdb:(x == ("__debug__" : Str))=false:=by decide) (he:starEach (e::es) X.env=(false,eval e X.env)::starEach es X.env:=by rfl) (hpl:(backTo pos (starEach es X.env)).any (·.1)=false:=by rfl) :
  PE X (.Call (.Name x p) (e::es) [] pos) (AmB sp dvs E t):=by
 intro pins s σ H Q I h
 refine wpAny_Call_Name_kw (Xc I hg hm ?_ hdb)
 refine PySem.W.callWith_K (h₀:=X.base) I.ok.mod.kin hk (thn (ha pos pins s σ H _ I h) fun us s1 ⟨vs,H1,I1,r,q⟩=>⟨I1.kIn,?_⟩) he hpl
 exact AbL F hr hb hd hx I1 r q
theorem Fv{pl:Sem Bool}(he:PE X o ta)(c:Cls X.K C)(hm:Meth X.K C m f)(F:Aj X.prog X.w X.K X.mg X.base CX k f fd ps sp)(hr:Mu k X.A)(hb:Binds X.K fd ps ds)(hd:Vals dvs ds)(hx:Passes CX X E)(ha:PA X (e::es) t)
  (hst:starEach (e::es) X.env=(false,eval e X.env)::starEach es X.env:=by rfl) (hpl:(backTo pos (starEach es X.env)).any (·.1)=false:=by rfl)
  (ht:eval (.Call (.Attribute o m apos) (e::es) [] pos) X.env=(do
   let ov ← eval o X.env
   standAt apos.atName
   let (f,first) ← holding [ov] (getMethod ov m pl)
   callWith pos f first (backTo pos (starEach (e::es) X.env)) (backToKw pos (keywordEach [] X.env))):=by rfl) :
  PE X (.Call (.Attribute o m apos) (e::es) [] pos) (AmC C m sp dvs E ta t):=by
 intro pins s σ H Q I h
 refine PySem.W.methodCall_KW (pl:=pl) (thn (he pins s σ H _ I h) fun u s1 ⟨x,H1,I1,rx,a,dx,fs,ex,ea,l,q⟩=>?_) ht
 subst ex
 obtain rfl:u=Value.ref a:=rx
 refine XR I1 ea c hm l ?_
 refine PySem.W.callWith_K (first:=[.ref a]) (h₀:=X.base) I.ok.mod.kin hm.kp (thn (ha pos pins s1 σ H1 _ I1 q) fun us s2 ⟨vs,H2,I2,r,q2⟩=>⟨I2.kIn,?_⟩) hst hpl
 exact AbL (us:=.ref a::us) (vs:=.ref a::vs) F hr hb hd hx I2 (.cons rfl r) q2
theorem AbM{pl:Sem Bool}(he:PE X o ta)(c:Cls X.K C)(hm:Meth X.K C m f)(F:Aj X.prog X.w X.K X.mg X.base CX k f fd ps sp)(hr:Mu k X.A)(hb:Binds X.K fd ps ds)(hd:Vals dvs ds)(hx:Passes CX X E)
  (ht:eval (.Call (.Attribute o m apos) [] [] pos) X.env=(do
   let ov ← eval o X.env
   standAt apos.atName
   let (f,first) ← holding [ov] (getMethod ov m pl)
   callWith pos f first (backTo pos (starEach [] X.env)) (backToKw pos (keywordEach [] X.env))):=by rfl) :
  PE X (.Call (.Attribute o m apos) [] [] pos) (AmC C m sp dvs E ta Ao2):=by
 intro pins s σ H Q I h
 refine PySem.W.methodCall_KW (pl:=pl) (thn (he pins s σ H _ I h) fun u s1 ⟨x,H1,I1,rx,a,dx,fs,ex,ea,l,q⟩=>?_) ht
 subst ex
 obtain rfl:u=Value.ref a:=rx
 refine XR I1 ea c hm l ?_
 exact PySem.W.callWith_K0 (first:=[.ref a]) I1.kIn hm.kp (AbL (us:=[.ref a]) (vs:=[.ref a]) F hr hb hd hx I1 (.cons rfl .nil) q)
structure Mk (K:PySem.W.Frag) (C f:Addr):Prop where
 makes:PySem.W.makesIn K C=true
 init:PySem.W.findIn K (.ref C) "__init__" = some (some (.ref f))
 fn:PySem.W.isFn K (.ref f)=true
 kp:PySem.W.keepIn K (.ref C)=true
theorem Aj1{pins:List (Addr × Obj)}{σ:St}{H:Hp}{s:Shared}{Q:VK}{us:List Value}{vs:List V}(M:Mk X.K C f)(F:Aj X.prog X.w X.K X.mg X.base CX k f fd ps sp)(hr:Mu (k+1) X.A)(hb:Binds X.K fd ps ds)(hd:Vals dvs ds)
  (hx:Passes CX X E) (I:Inv X pins σ H s) (r:Vals vs us)
  (h:∀ x dx,H x=none→H dx=none→dx≠x→sp (.ref x::(vs++dvs)) (upd (upd H dx (.own x)) x (.ins C dx [])) (fun v H2=>v=.non∧Q (.ref x) H2) E) :
  wpAny (model X.prog X.w) X.A (call (.ref C) us) (EP X pins σ Q) X.xe s:=by
 have hq:=h (s.heap.objs.size+1) s.heap.objs.size (I.hok.fresh (ArZ _)) (I.hok.fresh (Art _)) (Arw (Asf _))
 have I2:=Inv.made (C:=C) I
 have r2:Vals (V.ref (s.heap.objs.size+1)::(vs++dvs)) (Value.ref (s.heap.objs.size+1)::(us++ds)):=.cons rfl (r.append hd)
 have hl:(Value.ref (s.heap.objs.size+1)::us++ds).length=ps.length:=by
  have e:=r2.length
  rw[F.len _ _ _ _ hq] at e
  exact e.symm
 refine wpAny_call (Aj0 (f:=f) I.kIn M.makes M.init (beq_iff_eq.mp M.fn) (codeAny_mono (F.run _ X.stack _ _ ⟨Value.ref (s.heap.objs.size+1)::us,[]⟩ (Value.ref (s.heap.objs.size+1)::(us++ds)) _ _ E (hr.make C us [])
  (I2.env0.make C us []) (hb _ (Value.ref (s.heap.objs.size+1)::us) I2.kIn hl) r2 hq) fun r s' hq'=>?_))
 cases r with
 | error e=>exact hx pins σ _ _ e s' I2 hq'
 | ok fl =>
  cases fl with
  | ret u =>
   obtain⟨v,H',I3,rv,ev,q3⟩:=I2.after hq'
   subst ev
   exact⟨rv,⟨V.ref (s.heap.objs.size+1),H',I3,rfl,q3⟩⟩
  | next=>exact False.elim hq'
  | brk=>exact False.elim hq'
  | cont=>exact False.elim hq'
theorem JZ(M:Mk X.K C f)(F:Aj X.prog X.w X.K X.mg X.base CX k f fd ps sp)(hr:Mu (k+1) X.A)(hg:Gl X x)(hm:X.mg x=some (.ref C))(hb:Binds X.K fd ps ds)(hd:Vals dvs ds)(hx:Passes CX X E)
  (ha:PA X (e::es) t) (hdb:(x == ("__debug__" : Str))=false:=by decide) (he:starEach (e::es) X.env=(false,eval e X.env)::starEach es X.env:=by rfl) (hpl:(backTo pos (starEach es X.env)).any (·.1)=false:=by rfl) :
  PE X (.Call (.Name x p) (e::es) [] pos) (Ao4 C sp dvs E t):=by
 intro pins s σ H Q I h
 refine wpAny_Call_Name_kw (Xc I hg hm ?_ hdb)
 refine PySem.W.callWith_K (h₀:=X.base) I.ok.mod.kin M.kp (thn (ha pos pins s σ H _ I h) fun us s1 ⟨vs,H1,I1,r,q⟩=>⟨I1.kIn,?_⟩) he hpl
 exact Aj1 M F hr hb hd hx I1 r q
end
def PK (X:Cx)(kws:List Keyword)(t:TA):Prop :=
 ∀(pos:Pos) (pins:List (Addr × Obj)) (s:Shared) (σ:St) (H:Hp) (Q:List V→Hp→Prop),Inv X pins σ H s→t σ H Q→wpAny (model X.prog X.w) X.A (evalAll ((backToKw pos (keywordEach kws X.env)).map (·.2))) (AP X pins σ Q) X.xe s
section
variable {X:Cx}{CX:CXT}{k:Nat}{f C:Addr}{fd:FuncData}{ps ks:List Str}{sp:Sp}{E:XK}{x m:Str}{p pos apos AqU:Pos}{e o:Expr}{es:List Expr}{kws:List Keyword}{te ta:TE}{t tk:TA}{nm:Option Str}
structure ApO (K:PySem.W.Frag) (fd:FuncData) (ps ks:List Str) (g:List Value→List Value→List Value) (gV:List V→List V→List V):Prop where
 to:∀(s:Shared) (us ws:List Value),K.In s.heap→(g us ws).length=ps.length→BindsTo s fd ⟨us,ks.zip ws⟩ (ps.zip (g us ws))
 rel:∀{vs:List V} {us:List Value} {zs:List V} {ws:List Value},Vals vs us→Vals zs ws→Vals (gV vs zs) (g us ws)
def ApP (sp:Sp)(gV:List V→List V→List V)(E:XK)(t tk:TA):TE:=fun σ H Q=>t σ H fun vs H1=>tk σ H1 fun zs H2=>sp (gV vs zs) H2 Q E
variable {g:List Value→List Value→List Value}{gV:List V→List V→List V}
end
structure Ay (N P:List Str) (sc:Scope):Prop where
 kind:sc.kind=.function
 co:sc.isCoroutine=false
 gen:sc.isGenerator=false
 nd:N.Nodup
 pre:N.take P.length=P
 par:∀ x∈P,sc.names.lookup x=some .local∨sc.names.lookup x=some .cell
 Anm:∀ y∈sc.names,y.2≠.free
theorem Ad2{kindOf:Str→Option NameKind}{x:Str}:∀{binds:List (Str × Value)} {m:Str→Option Value},(∀ v,(x,v)∉binds)→bindL kindOf binds m x=m x
 | [],_,_=>rfl
 | (n,v)::r,m,h=>by
  unfold bindL
  rw[Ad2 fun w hw=>h w (ArF _ hw)]
  split
  ·have:x≠n:=by rintro rfl;exact h v ArD
   simp[this]
  ·rfl
theorem Ad3{kindOf:Str→Option NameKind}{x:Str}:∀{binds:List (Str × Value)} {m:Str→Option Value},(∀ v,(x,v)∉binds)→bindC kindOf binds m x=m x
 | [],_,_=>rfl
 | (n,v)::r,m,h=>by
  unfold bindC
  rw[Ad3 fun w hw=>h w (ArF _ hw)]
  split
  ·rfl
  ·have:x≠n:=by rintro rfl;exact h v ArD
   simp[this]
theorem Ad4{kindOf:Str→Option NameKind}{x:Str}{v:Value}:∀{P:List Str} {vs:List Value} {i:Nat} {m:Str→Option Value},P.Nodup→P[i]?=some x→vs[i]?=some v→kindOf x=some .local →
  bindL kindOf (P.zip vs) m x=some v
 | [],_,_,_,_,h,_,_=>by simp at h
 | _::_,[],_,_,_,_,h,_=>by simp at h
 | p::P,w::vs,0,m,nd,h1,h2,hk=>by
  simp at h1 h2;subst h1;subst h2
  show bindL kindOf ((p,w)::P.zip vs) m p=_
  unfold bindL
  rw[Ad2 fun v hv=>(List.nodup_cons.mp nd).1 (Ash hv).1,if_pos hk]
  simp
 | p::P,w::vs,i+1,m,nd,h1,h2,hk=>by
  show bindL kindOf ((p,w)::P.zip vs) m x=_
  unfold bindL
  exact Ad4 (i:=i) (List.nodup_cons.mp nd).2 (by simpa using h1) (by simpa using h2) hk
theorem Ad5{kindOf:Str→Option NameKind}{x:Str}{v:Value}:∀{P:List Str} {vs:List Value} {i:Nat} {m:Str→Option Value},P.Nodup→P[i]?=some x→vs[i]?=some v→kindOf x≠some .local →
  bindC kindOf (P.zip vs) m x=some v
 | [],_,_,_,_,h,_,_=>by simp at h
 | _::_,[],_,_,_,_,h,_=>by simp at h
 | p::P,w::vs,0,m,nd,h1,h2,hk=>by
  simp at h1 h2;subst h1;subst h2
  show bindC kindOf ((p,w)::P.zip vs) m p=_
  unfold bindC
  rw[Ad3 fun v hv=>(List.nodup_cons.mp nd).1 (Ash hv).1,if_neg hk]
  simp
 | p::P,w::vs,i+1,m,nd,h1,h2,hk=>by
  show bindC kindOf ((p,w)::P.zip vs) m x=_
  unfold bindC
  exact Ad5 (i:=i) (List.nodup_cons.mp nd).2 (by simpa using h1) (by simpa using h2) hk
def start(N:List Str)(vs:List V):St:=vs.map some++List.replicate (N.length-vs.length) none
def AdW (CX:CXT)(P:Program)(w:World)(K:PySem.W.Frag)(mg:Str→Option Value)(base:Heap)(N:List Str)(qual:Str)(scope:Scope)(f:Addr)(cd:Value)(A:Around)(outer:List Env)(s:Shared)(H:Hp)(E:XK):Cx where
 prog:=P
 w:=w
 K:=K
 mg:=mg
 base:=base
 A:=A.deeper (envOfC qual scope s.heap.objs.size f cd)
 N:=N
 s₀:=s
 H₀:=H
 env:=envOfC qual scope s.heap.objs.size f cd
 outer:=outer
 stack:=envOfC qual scope s.heap.objs.size f cd::outer
 ex:=[]
 calm:=true
 fn:=fun _=>true
 pn:=[]
 xe:=fun e s'=>wpAny (model P w) (A.deeper (envOfC qual scope s.heap.objs.size f cd)) (leaving (envOfC qual scope s.heap.objs.size f cd) e) (fun _ s''=>CX outer H s E e s'') (fun e' s''=>CX outer H s E e' s'') s'
theorem Afh{sc:Scope}{n:Nat}{x:Str}(h:sc.names.lookup x=some .cell):∃ c,(cellsFrom n sc.names []).lookup x=some c:=by
 have q:=PySem.W.cellsFrom_some sc.names n [] (.inl h)
 exact Option.isSome_iff_exists.mp q
theorem Aiq{CX:CXT}{P:Program}{w:World}{K:PySem.W.Frag}{mg:Str→Option Value}{base:Heap}{N ps:List Str}{qual:Str}{scope:Scope}{f:Addr}{cd:Value}{A:Around}{outer:List Env}{s s1:Shared}{H:Hp}{E:XK}{us:List Value}{vs:List V}
  (S:Ay N ps scope) (hd:A.handled=none) (e0:Ag0 P w K mg base A outer s H) (hl:vs.length=ps.length) (r:Vals vs us)
  (x:InCallC s s.heap.objs.size (bindL (envOfC qual scope s.heap.objs.size f cd).kindOf (ps.zip us) fun _=>none) (cellsFrom (s.heap.objs.size+1) scope.names []) (bindC (envOfC qual scope s.heap.objs.size f cd).kindOf (ps.zip us) fun _=>none) s1) :
  Inv (AdW CX P w K mg base N qual scope f cd A outer s H E) [] (start N vs) H s1:=by
 have hpl:ps.length≤N.length:=by have:=congrArg List.length S.pre;rw[Ar1] at this;omega
 obtain⟨h1,tk,rfl,hk⟩:=x.done
 have noA:∀ b:Addr,b∉(AdW CX P w K mg base N qual scope f cd A outer s H E).ex:=fun b z=>absurd (show b∈([]:List Addr) from z) (by simp)
 refine⟨⟨e0.mod,S.kind,rfl,rfl,Art _,fun y z c h1 h2=>?_,fun y hy=>?_,fun y c _ h=>?_,fun _=>hd,Around.frames_deeper e0.frames,.inr ⟨rfl,rfl⟩,fun b z=>absurd z (noA b),e0.bs,e0.bsz,fun b _ _=>noA b,fun b z=>absurd z (noA b),e0.VG,e0.frf⟩,
  rfl,e0.bare,Un.kept hk,⟨_,x.toInCall.ns,fun i y v h1 h2 h3=>?_⟩,fun y c h=>⟨_,x.cell y c h⟩,e0.hok.fresh (Art _),fun y c h=>?_,fun p hp=>absurd (show p∈([]:List (Addr × Obj)) from hp) (by simp),e0.hok.kept hk,?_⟩
 ·exact name_of_addr x.apart (PySem.mem_of_lookup h1) (PySem.mem_of_lookup h2)
 ·have hy:scope.names.lookup y=some .cell∨scope.names.lookup y=some .free:=hy
  rcases hy with hy | hy
  ·exact Afh hy
  ·exact absurd rfl (S.Anm _ (PySem.mem_of_lookup hy))
 ·exact As1 (x.above y c (PySem.mem_of_lookup h))
 ·have hi:i<vs.length:=by
   unfold start at h2
   by_cases hi:i<vs.length
   ·exact hi
   ·rw[Asm (by simpa using hi)] at h2
    rw[List.getElem?_replicate] at h2
    split at h2 <;> cases h2
  have ha:vs[i]?=some v:=by
   unfold start at h2
   rw[Asn (by simpa using hi),Ar6] at h2
   cases e:vs[i]? with
   | none=>rw[e] at h2;cases h2
   | some a=>rw[e] at h2;cases h2;rfl
  obtain⟨u,hu,rv⟩:=r.get ha
  have hp:ps[i]?=some y:=by
   rw[← S.pre,List.getElem?_take_of_lt (by omega)];exact h1
  have ndP:ps.Nodup:=by rw[← S.pre];exact S.nd.sublist (List.take_sublist _ _)
  refine⟨u,rv,?_⟩
  rcases S.par y (ArE hp) with k | k
  ·exact .inl ⟨k,Ad4 ndP hp hu k⟩
  ·obtain⟨c,e⟩:=Afh (n:=s.heap.objs.size+1) k
   refine .inr ⟨.inl k,c,e,?_⟩
   have q:=x.cell y c e
   rw[Ad5 ndP hp hu (by show scope.names.lookup y≠_;rw[k];decide)] at q
   exact q
 ·exact e0.hok.fresh (As1 (x.above y c (PySem.mem_of_lookup h)))
 ·unfold start
  show _=N.length
  rw[Arp,Arq,ArL]
  omega
theorem AmD{CX:CXT}{P:Program}{w:World}{K:PySem.W.Frag}{mg:Str→Option Value}{base:Heap}{k:Nat}{f:Addr}{name qual:Str}{params:Arguments}{body:List Stmt}{scope:Scope}{dV kV doc pm cdv ct oc:Value}{an od:Option Addr}
  {osl:Array (Option Value)}{N ps:List Str}{sp:Sp} (lk:K.lookup f=some ⟨oc,od,.func (PySem.W.fnOf name qual params body scope dV kV doc pm an cdv ct),osl⟩) (hcd:PySem.W.codeIn K cdv qual=true) (S:Ay N ps scope)
  (len:∀ vs H Q E,sp vs H Q E→vs.length=ps.length)
  (hbody:∀(A:Around) (outer:List Env) (s:Shared) (H:Hp) (vs:List V) (Q:VK) (E:XK),Mu k (A.deeper (envOfC qual scope s.heap.objs.size f cdv))→sp vs H Q E →
   ∃ t,PSs (AdW CX P w K mg base N qual scope f cdv A outer s H E) body t∧t { nx:=fun _ H'=>Q .non H',rt:=Q } (start N vs) H) :
  Aj P w K mg base CX (k+1) f (PySem.W.fnOf name qual params body scope dV kV doc pm an cdv ct) ps sp:=by
 refine⟨len,fun A outer s H args us vs Q E hr e0 hb r hsp=>?_⟩
 have hl:=len _ _ _ _ hsp
 have KX:K.In s.heap:=e0.mod.kin.keeps fun b o e=>(e0.bs b o e).1
 have lim:s.heap.NoLimit:=e0.mod.nolimit.keeps fun b o e=>(e0.bs b o e).1
 have hkind:∀ y∈ps.zip us,scope.names.lookup y.1=some .local∨(scope.names.lookup y.1=some .cell∧((cellsFrom (s.heap.objs.size+1) scope.names []).lookup y.1).isSome=true):=fun⟨n,v⟩ hy=>by
  rcases S.par n (Ash hy).1 with q | q
  ·exact .inl q
  ·exact .inr ⟨q,PySem.W.cellsFrom_some _ _ _ (.inl q)⟩
 refine codeAny_call_function hr.depth (KX _ _ lk) rfl S.co S.gen rfl (PySem.W.codeRec_of KX hcd) (hb _ _ _ _ ?_)
 refine wpAny_newFunctionEnv_cells S.kind hkind fun env he s1 x=>?_
 subst he
 refine⟨lim.keeps x.toInCall.keep,codeAny_func ?_⟩
 obtain⟨t,ht,hq⟩:=hbody A outer s H vs Q E (hr.deeper _) hsp
 have I:Inv (AdW CX P w K mg base N qual scope f cdv A outer s H E) [] (start N vs) H s1:=Aiq S hr.hd e0 hl r x
 refine wpAny_mono (ht [] s1 (start N vs) H _ I hq) (fun fl s' hs=>?_) fun e s' hs=>hs
 have fin:∀{σ':St} {H':Hp} {v:V} {u:Value},Inv (AdW CX P w K mg base N qual scope f cdv A outer s H E) [] σ' H' s'→RelV v u→Q v H'→CE outer P w H s Q u s' :=
  fun {σ' H' v u} J rv q=>⟨v,H',J.os,J.bare,J.base,J.hok,rv,q⟩
 cases fl with
 | ret u =>
  obtain⟨v,σ',H',J,rv,q⟩:=hs
  exact fin J rv q
 | next =>
  obtain⟨σ',H',J,q⟩:=hs
  exact fin (v:=V.non) (u:=Value.none) J rfl q
 | brk =>
  obtain⟨_,_,_,q⟩:=hs
  exact False.elim q
 | cont =>
  obtain⟨_,_,_,q⟩:=hs
  exact False.elim q
open PySem PySem.Spec PyProof.Rows
section
variable {X:Cx}{x:Str}{p pos:Pos}{e:Expr}{es:List Expr}{t:TA}{id T:String}{r:List V→Hp→VK→Prop}
def tCB (r:List V→Hp→VK→Prop)(t:TA):TE:=fun σ H Q=>t σ H fun vs H1=>r vs H1 Q
theorem Bq(hc:R3 X (.builtin id) r)(hg:Gl X x)(hm:X.mg x=none)(hv:bootBuiltins x=some (.builtin id))(ha:PA X (e::es) t)(hn:x ≠ "__name__" := by decide) (hdb:(x == ("__debug__" : Str))=false:=by decide)
  (he:starEach (e::es) X.env=(false,eval e X.env)::starEach es X.env:=by rfl) (hpl:(backTo pos (starEach es X.env)).any (·.1)=false:=by rfl):PE X (.Call (.Name x p) (e::es) [] pos) (tCB r t):=by
 intro pins s σ H Q I h
 refine wpAny_Call_Name_kw (Pz I hg hm hv ?_ hn hdb)
 exact PyProof.Rows.callWith_builtin1 (thn (ha pos pins s σ H _ I h) fun us s1 ⟨vs,H1,I1,r1,q1⟩=>hc pins s1 σ H1 vs us Q I1 r1 q1) he hpl
theorem Ex(hc:R3 X (.type T) r)(hg:Gl X x)(hm:X.mg x=none)(hv:bootBuiltins x=some (.type T))(ha:PA X (e::es) t)(hn:x ≠ "__name__" := by decide) (hdb:(x == ("__debug__" : Str))=false:=by decide)
  (he:starEach (e::es) X.env=(false,eval e X.env)::starEach es X.env:=by rfl) (hpl:(backTo pos (starEach es X.env)).any (·.1)=false:=by rfl):PE X (.Call (.Name x p) (e::es) [] pos) (tCB r t):=by
 intro pins s σ H Q I h
 refine wpAny_Call_Name_kw (Pz I hg hm hv ?_ hn hdb)
 exact PyProof.Rows.callWith_type1 (thn (ha pos pins s σ H _ I h) fun us s1 ⟨vs,H1,I1,r1,q1⟩=>hc pins s1 σ H1 vs us Q I1 r1 q1) he hpl
end
end L2
namespace HT
open PySem PyProof.Rows
def lexLt:List Int→List Int→Bool
 | [],[]=>false
 | [],_::_=>true
 | _::_,[]=>false
 | x::xs,y::ys=>if x=y then lexLt xs ys else decide (x<y)
section
open PySem.SeqAt
open PySem.AutoSeq1 (wpAny_loadPart')
open PySem.MeetsSeq PySem.MeetsSeq2 PySem.MeetsSeq3
end
section
variable {prog:Program}{w:World}{A:Around}{E:Value→Shared→Prop}{s:Shared}
def sIx (n d:Nat):Option Int→Nat
 | none=>d
 | some v=>if v<0 then (v+(n:Int)).toNat else min v.toNat n
theorem Afi(n d:Nat):sIx n d none=d:=rfl
theorem YC(n d k:Nat):sIx n d (some (k:Int))=min k n:=by
 show(if (k:Int)<0 then ((k:Int)+(n:Int)).toNat else min (k:Int).toNat n)=min k n
 rw[if_neg (by omega),Ar7]
theorem Ann(n d:Nat)(hd:d≤n)(o:Option Int):sIx n d o≤n:=by
 cases o with
 | none=>exact hd
 | some v =>
  show(if v<0 then (v+(n:Int)).toNat else min v.toNat n)≤n
  by_cases hv:v<0
  ·rw[if_pos hv];omega
  ·rw[if_neg hv];exact Nat.min_le_right _ _
end
end HT
namespace L2
open PySem PySem.Spec PyProof.Rows
abbrev TO:=St→Hp→(Option Int→Hp→Prop)→Prop
def PO (X:Cx)(e:Option Expr)(t:TO):Prop :=
 ∀(pins:List (Addr × Obj)) (s:Shared) (σ:St) (H:Hp) (Q:Option Int→Hp→Prop),Inv X pins σ H s→t σ H Q →
  wpAny (model X.prog X.w) X.A (evalPart e X.env) (fun u s'=>∃ o H',Inv X pins σ H' s'∧IsPart u o∧Q o H') X.xe s
def Al3:TO:=fun _ H Q=>Q none H
def Ao5 (t:TE):TO:=fun σ H Q=>t σ H fun x H1=>∃ i,x=.int i∧Q (some i) H1
theorem intsAre_of{ns:List Int}:∀{us:List Value},Vals (ns.map V.int) us→IntsAre us ns:=by
 induction ns with
 | nil=>intro us r;rw[ArT] at r;cases r;exact .nil
 | cons n ns ih =>
  intro us r
  rw[Arx] at r
  cases r with
  | cons r1 r2 =>
   obtain⟨t,e⟩:=r1
   subst e
   exact .cons n t (ih r2)
section
variable {X:Cx}{e:Expr}{te:TE}{lo hi:Option Expr}{tl th:TO}{pos p2:Pos}
theorem Rj:PO X none Al3:=by
 intro pins s σ H Q I h
 rw[evalPart_none]
 exact wpAny_pure ⟨none,H,I,.none,h⟩
theorem Lh(h:PE X e te):PO X (some e) (Ao5 te):=by
 intro pins s σ H Q I hw
 rw[evalPart_some]
 refine thn (h pins s σ H _ I hw) fun u s1 ⟨x,H1,I1,r1,q1⟩=>?_
 obtain⟨i,rfl,q⟩:=q1
 obtain⟨t,rfl⟩:=r1
 exact⟨some i,H1,I1,.int i t,q⟩
def SlR (X:Cx)(r:V→Option Int→Option Int→Hp→VK→Prop):Prop :=
 ∀(pins:List (Addr × Obj)) (s:Shared) (σ:St) (H:Hp) (x:V) (v vl vu:Value) (lo hi:Option Int) (sl:Addr) (Q:VK),Inv X pins σ H s→RelV x v→s.heap.IsSliceOf sl vl vu .none→IsPart vl lo→IsPart vu hi→r x lo hi H Q →
  ∃ T id,typeLookup (.type T) "__getitem__" = pure (some (.builtin id))∧s.TypeIs v T∧wpAny (model X.prog X.w) X.A (getItem v (.ref sl)) (EP X pins σ Q) X.xe s
def tSl (r:V→Option Int→Option Int→Hp→VK→Prop)(te:TE)(tl th:TO):TE:=fun σ H Q=>te σ H fun x H1=>tl σ H1 fun l H2=>th σ H2 fun u H3=>r x l u H3 Q
theorem Ku{r:V→Option Int→Option Int→Hp→VK→Prop}(hr:SlR X r)(he:PE X e te)(hl:PO X lo tl)(hu:PO X hi th):PE X (.Subscript e (.Slice lo hi none p2) pos) (tSl r te tl th):=by
 intro pins s σ H Q I h
 refine Subscript_ (thn (he pins s σ H _ I h) fun v s1 ⟨x,H1,I1,r1,q1⟩=>?_)
 refine wpAny_Slice (thn (hl pins s1 σ H1 _ I1 q1) fun vl s2 ⟨l,H2,I2,pl,q2⟩=>thn (hu pins s2 σ H2 _ I2 q2) fun vu s3 ⟨u,H3,I3,pu,q3⟩=>?_)
 rw[evalPart_none]
 refine wpAny_pure ?_
 have I4:Inv X pins σ H3 { s3 with heap:=s3.heap.push { cls:=.type "slice", data:=.fields #[vl,vu,.none] } }:=I3.kept (t':=s3.toks) fun b ob q=>Heap.get?_push_of_some _ q
 obtain⟨T,id,hT,ht,hg⟩:=hr pins { s3 with heap:=s3.heap.push { cls:=.type "slice", data:=.fields #[vl,vu,.none] } } σ H3 x v vl vu l u s3.heap.objs.size Q I4 r1 (Heap.IsSliceOf.new ..) pl pu q3
 show wpAny (model X.prog X.w) X.A (subscriptTail e (.Slice lo hi none p2) v (.ref s3.heap.objs.size)) (EP X pins σ Q) X.xe { s3 with heap:=s3.heap.push { cls:=.type "slice", data:=.fields #[vl,vu,.none] } }
 exact tail_any (ops:=[.ref s3.heap.objs.size,v]) ht hT hg (by with_unfolding_all rfl)
def AcY (xs:List V)(lo hi:Option Int):List V:=(xs.drop (HT.sIx xs.length 0 lo)).take (HT.sIx xs.length xs.length hi-HT.sIx xs.length 0 lo)
theorem Afj(xs:List V)(lo hi:Option Int):(AcY xs lo hi).length≤xs.length:=by
 unfold AcY
 rw[Ar1,ArM]
 omega
def AqV (K:PySem.W.Frag):V→Option Int→Option Int→Hp→VK→Prop:=fun x lo hi H Q=>∃ a xs,x=.ref a∧SqT K H a xs ∧
 ¬(HT.sIx xs.length 0 lo=0∧HT.sIx xs.length xs.length hi=xs.length)∧∀ p,H p=none→Q (.ref p) (upd H p (.tup (AcY xs lo hi)))
def AqW (K:PySem.W.Frag):R2:=fun x y H Q=>∃ a b ns ms,x=.ref a∧y=.ref b∧SqT K H a (ns.map V.int)∧SqT K H b (ms.map V.int)∧Q (.bl (HT.lexLt ns ms)) H
def Aq0 (K:PySem.W.Frag):R2:=fun x y H Q=>∃ a b xs ys,x=.ref a∧y=.ref b∧SqT K H a xs∧SqT K H b ys∧xs≠[]∧xs.length+ys.length≤sizeLine ∧
 (ys=[]→Q (.ref a) H)∧(ys≠[]→∀ p,H p=none→Q (.ref p) (upd H p (.tup (xs++ys))))
end
open PySem PySem.Spec PyProof.Rows
def ixN (n:Nat)(i:Int):Option Nat:=if 0≤i then (if i<n then some i.toNat else none) else if -(n:Int)≤i then some (i+n).toNat else none
def atI {α:Type}(xs:List α)(i:Int):Option α:=(ixN xs.length i).bind fun j=>xs[j]?
theorem Al4{n:Nat}{i:Int}{j:Nat}(h:ixN n i=some j):seqIndex? i n=some j∧j<n ∧ -(n:Int)≤i∧i<n:=by
 unfold ixN at h
 by_cases h0:0≤i
 ·rw[if_pos h0] at h
  by_cases h1:i<n
  ·rw[if_pos h1] at h
   have e:i.toNat=j:=Option.some.inj h
   exact⟨by rw[seqIndex_of h0 h1,e],by omega,by omega,h1⟩
  ·rw[if_neg h1] at h;cases h
 ·rw[if_neg h0] at h
  by_cases h1 : -(n:Int)≤i
  ·rw[if_pos h1] at h
   have e:(i+n).toNat=j:=Option.some.inj h
   exact⟨by rw[seqIndex_neg (by omega) h1,e],by omega,h1,by omega⟩
  ·rw[if_neg h1] at h;cases h
theorem AdX{α:Type}{xs:List α}{i:Int}{v:α}(h:atI xs i=some v):∃ j,seqIndex? i xs.length=some j∧xs[j]?=some v∧j<xs.length ∧ -(xs.length:Int)≤i∧i<xs.length:=by
 unfold atI at h
 cases e:ixN xs.length i with
 | none=>rw[e] at h;cases h
 | some j =>
  rw[e] at h
  obtain⟨h1,h2,h3,h4⟩:=Al4 e
  exact⟨j,h1,h,h2,h3,h4⟩
theorem Ahz{α:Type}{xs:List α}{j:Nat}{v:α}(h:xs[j]?=some v):atI xs (j:Int)=some v:=by
 have hj:j<xs.length:=(List.getElem?_eq_some_iff.mp h).1
 have e:ixN xs.length (j:Int)=some j:=by
  unfold ixN
  rw[if_pos (by omega),if_pos (by omega)];simp
 unfold atI;rw[e];exact h
def Al5 (b:Expr):Prop:=∀ o i,subscripted b false o i=operate [o,i] (getItem o i)
def IxR (X:Cx)(r:R2):Prop :=
 ∀(value slice:Expr) (pins:List (Addr × Obj)) (s:Shared) (σ:St) (H:Hp) (x y:V) (v u:Value) (Q:VK),Inv X pins σ H s→RelV x v→RelV y u→r x y H Q →
  subscripted slice false v u=operate [v,u] (getItem v u)→wpAny (model X.prog X.w) X.A (subscriptTail value slice v u) (EP X pins σ Q) X.xe s
def MtR (X:Cx)(id:String)(r:V→List V→Hp→VK→Prop):Prop :=
 ∀(pins:List (Addr × Obj)) (s:Shared) (σ:St) (H:Hp) (x:V) (xs:List V) (v:Value) (us:List Value) (Q:VK),Inv X pins σ H s→RelV x v→Vals xs us→r x xs H Q →
  wpAny (model X.prog X.w) X.A (call (.builtin id) (v::us)) (EP X pins σ Q) X.xe s
section
variable {X:Cx}{a b:Expr}{ta tb:TE}{pos:Pos}
theorem BL{r:R2}(hr:IxR X r)(ha:PE X a ta)(hb:PE X b tb)(hs:Al5 b):PE X (.Subscript a b pos) (tOp r ta tb):=by
 intro pins s σ H Q I h
 exact Subscript_ (Anb ha hb I h fun v u s2 x y H2 I2 rx ry q=>hr a b pins s2 σ H2 x y v u Q I2 rx ry q (hs _ _))
def Ano (K:PySem.W.Frag):R2:=fun x y H Q=>∃ p xs i v,x=.ref p∧y=.int i∧SqL K H p xs∧atI xs i=some v∧Q v H
def Anp (K:PySem.W.Frag):R2:=fun x y H Q=>∃ p xs i v,x=.ref p∧y=.int i∧SqT K H p xs∧atI xs i=some v∧Q v H
def Ao6:R2:=fun x y H Q=>∃ z i c,x=.str z∧y=.int i∧z.length≤sizeLine∧atI z.cps.toList i=some c∧Q (.str ⟨#[c]⟩) H
theorem Al6:IxR X (Ano X.K):=by
 intro value slice pins s σ H x y v u Q I rx ry h hs
 obtain⟨p,xs,i,z,rfl,rfl,hq,he,q⟩:=h
 cases rx
 obtain⟨t,rfl⟩:=ry
 obtain⟨its,r,pl,hz⟩:=I.list hq
 obtain⟨j,h1,h2,h3,h4,h5⟩:=AdX he
 obtain⟨w,ew,rw'⟩:=r.get h2
 have hl:=r.length
 have hn:=ZF
 have fin:EP X pins σ Q w s:=⟨z,H,I,rw',q⟩
 by_cases h0:0≤i
 ·have hj:i.toNat=j:=by
   rw[seqIndex_of h0 h5] at h1
   exact Option.some.inj h1
  exact item_listR pl.isList h0 (by omega) (by rw[hj];simpa using ew) fin hs
 ·have hj:(i+(its.toArray.size:Int)).toNat=j:=by
   rw[seqIndex_neg (by omega) h4] at h1
   rw[Ar0,← hl]
   exact Option.some.inj h1
  exact subscriptTail_builtinR (x:=w) pl.isList.typeIs slot_list_getitem.lookup
   (wpAny_getItem_list_neg (Q:=fun r s'=>r=w∧EP X pins σ Q r s') pl.isList (by omega) (by rw[Ar0] <;> omega) (by omega) (by rw[hj];simpa using ew) ⟨rfl,fin⟩) hs
theorem Anq:IxR X (Anp X.K):=by
 intro value slice pins s σ H x y v u Q I rx ry h hs
 obtain⟨p,xs,i,z,rfl,rfl,hq,he,q⟩:=h
 cases rx
 obtain⟨t,rfl⟩:=ry
 obtain⟨its,r,pl,hz⟩:=I.tuple hq
 obtain⟨j,h1,h2,h3,h4,h5⟩:=AdX he
 obtain⟨w,ew,rw'⟩:=r.get h2
 have hl:=r.length
 have hn:=ZF
 have fin:EP X pins σ Q w s:=⟨z,H,I,rw',q⟩
 exact subscriptTail_builtinR (x:=w) pl.typeIs slot_tuple_getitem.lookup
  (getItem_tuple (j:=j) (Q:=fun r s'=>r=w∧EP X pins σ Q r s') pl (by omega) (by omega) (by rw[Ar0,← hl];exact h1) (by simpa using ew) ⟨rfl,fin⟩) hs
theorem ZJ:IxR X Ao6:=by
 intro value slice pins s σ H x y v u Q I rx ry h hs
 obtain⟨z,i,c,rfl,rfl,hz,he,q⟩:=h
 obtain⟨t,rfl⟩:=rx
 obtain⟨t',rfl⟩:=ry
 obtain⟨j,h1,h2,h3,h4,h5⟩:=AdX he
 have hl:z.cps.toList.length=z.length:=by simp[Str.length]
 rw[hl] at h1 h4 h5
 have hn:=ZF
 exact tail_any (typeIs_str s z t) slot_str_getitem.lookup (getItem_str (c:=c) (by
  have e1:decide (i < -(2 ^ 63:Int))=false:=decide_eq_false (by omega)
  have e2:decide (i ≥ 2 ^ 63)=false:=decide_eq_false (by omega)
  rw[e1,e2,Bool.or_false]) (by rw[h1];simpa using h2) ⟨.str ⟨#[c]⟩,H,I.tok _,⟨_,rfl⟩,q⟩) hs
def rIx (K:PySem.W.Frag):R2:=fun x y H Q=>Ano K x y H Q∨Anp K x y H Q∨Ao6 x y H Q
def Aq1:V→V→V→Hp→(Hp→Prop)→Prop:=fun o i v H Q=>∃ p xs k j,o=.ref p∧i=.int k∧H p=some (.lst xs)∧ixN xs.length k=some j∧Q (upd H p (.lst (xs.set j v)))
theorem AdY(lo hi:Option Int)(n:Nat):(sliceBounds lo hi none n).1=((HT.sIx n 0 lo:Nat):Int)∧(sliceBounds lo hi none n).2.1=((HT.sIx n n hi:Nat):Int)∧(sliceBounds lo hi none n).2.2=1:=by
 refine⟨?_,?_,rfl⟩
 ·cases lo with
  | none=>simp[sliceBounds,HT.sIx]
  | some i =>
   simp only [sliceBounds,HT.sIx,Option.getD_none,show(1:Int)>0 by decide,if_true]
   by_cases h:i<0
   ·simp only [h,if_true] <;> omega
   ·simp only [h,if_false] <;> omega
 ·cases hi with
  | none=>simp[sliceBounds,HT.sIx]
  | some i =>
   simp only [sliceBounds,HT.sIx,Option.getD_none,show(1:Int)>0 by decide,if_true]
   by_cases h:i<0
   ·simp only [h,if_true] <;> omega
   ·simp only [h,if_false] <;> omega
theorem AcZ(its:List Value)(lo hi:Option Int):slicePick its.toArray lo hi none=((its.drop (HT.sIx its.length 0 lo)).take (HT.sIx its.length its.length hi-HT.sIx its.length 0 lo)).toArray:=by
 obtain⟨h1,h2,h3⟩:=AdY lo hi its.toArray.size
 unfold slicePick
 rw[h1,h2,h3]
 simp only [sliceRange_one,pick_run,Ar0] <;> rfl
def Ao7 (K:PySem.W.Frag):V→Option Int→Option Int→Hp→VK→Prop:=fun x lo hi H Q=>∃ a xs,x=.ref a∧SqL K H a xs∧∀ p,H p=none→Q (.ref p) (upd H p (.lst (AcY xs lo hi)))
theorem Al7:SlR X (Ao7 X.K):=by
 intro pins s σ H x v vl vu lo hi sl Q I rx hs pl pu h
 obtain⟨a,xs,rfl,hx,q⟩:=h
 cases rx
 obtain⟨its,r,ht,hz⟩:=I.list hx
 have hlen:=r.length
 refine⟨"list", _,slot_list_getitem.lookup,ht.isList.typeIs,?_⟩
 refine wpAny_getItem_list_slice ht.isList hs pl pu .none (by simp) ?_ (by rw[Ar0] <;> omega)
 rw[AcZ,← hlen]
 refine⟨.ref s.heap.objs.size,_,I.laid (t':=s.toks) (o:=.lst (AcY xs lo hi)) (fun b ob q=>Heap.get?_push_of_some _ q) (Art _) ?_,rfl,q _ (I.hok.fresh (Art _))⟩
 exact⟨ArC (Afj xs lo hi) hz,_,0,(r.drop (HT.sIx xs.length 0 lo)).take (HT.sIx xs.length xs.length hi-HT.sIx xs.length 0 lo),Heap.get?_push_size _ rfl⟩
def QB:V→Bool
 | .non=>true
 | .bl _=>true
 | .int _=>true
 | .str _=>true
 | _=>false
def eqV:V→V→Bool
 | .non,.non=>true
 | .bl a,.bl b=>a == b
 | .bl a,.int b=>(if a then 1 else 0) == b
 | .int a,.bl b=>a == (if b then 1 else 0)
 | .int a,.int b=>a == b
 | .str a,.str b=>a == b
 | _,_=>false
theorem AdZ{A:Around}{s:Shared}{y x:V}{u v:Value}(ry:RelV y u)(rx:RelV x v)(fy:QB y=true)(fx:QB x=true):SeqAt.EqAt A s u v (eqV y x):=by
 cases y with
 | non =>
  cases ry
  cases x with
  | non=>cases rx;exact SeqAt.EqAt.same _
  | bl b=>cases rx;exact SeqAt.EqAt.none_bool b
  | int b=>obtain⟨t,rfl⟩:=rx;exact SeqAt.EqAt.none_int b t
  | str b=>obtain⟨t,rfl⟩:=rx;exact SeqAt.EqAt.none_str b t
  | _=>exact absurd (show false=true from fx) Ar2
 | bl a =>
  cases ry
  cases x with
  | non=>cases rx;exact SeqAt.EqAt.bool_none a
  | bl b=>cases rx;exact SeqAt.EqAt.bool_bool a b
  | int b=>obtain⟨t,rfl⟩:=rx;exact SeqAt.EqAt.bool_int a b t
  | str b=>obtain⟨t,rfl⟩:=rx;exact SeqAt.EqAt.bool_str a b t
  | _=>exact absurd (show false=true from fx) Ar2
 | int a =>
  obtain⟨t',rfl⟩:=ry
  cases x with
  | non=>cases rx;exact SeqAt.EqAt.int_none a t'
  | bl b=>cases rx;exact SeqAt.EqAt.int_bool a t' b
  | int b=>obtain⟨t,rfl⟩:=rx;exact SeqAt.EqAt.int_int a t' b t
  | str b=>obtain⟨t,rfl⟩:=rx;exact SeqAt.EqAt.int_str a t' b t
  | _=>exact absurd (show false=true from fx) Ar2
 | str a =>
  obtain⟨t',rfl⟩:=ry
  cases x with
  | non=>cases rx;exact SeqAt.EqAt.str_none a t'
  | bl b=>cases rx;exact SeqAt.EqAt.str_bool a t' b
  | int b=>obtain⟨t,rfl⟩:=rx;exact SeqAt.EqAt.str_int a t' b t
  | str b=>obtain⟨t,rfl⟩:=rx;exact SeqAt.EqAt.str_str a t' b t
  | _=>exact absurd (show false=true from fx) Ar2
 | _=>exact absurd (show false=true from fy) Ar2
def eqU (x:V)(u:Value):Bool:=match u with
 | .none=>eqV .non x
 | .bool b=>eqV (.bl b) x
 | .int i _=>eqV (.int i) x
 | .str z _=>eqV (.str z) x
 | _=>false
theorem Aj2{x y:V}{u:Value}(r:RelV y u)(f:QB y=true):eqU x u=eqV y x:=by
 cases y with
 | non=>cases r;rfl
 | bl b=>cases r;rfl
 | int i=>obtain⟨t,rfl⟩:=r;rfl
 | str z=>obtain⟨t,rfl⟩:=r;rfl
 | _=>exact absurd (show false=true from f) Ar2
theorem YD{x:V}:∀{xs:List V} {us:List Value},Vals xs us→xs.all QB=true→us.any (eqU x)=xs.any fun y=>eqV y x
 | _,_,.nil,_=>rfl
 | y::xs,u::us,.cons r t,f=>by
  rw[As2,ArP] at f
  rw[List.any_cons,List.any_cons,Aj2 r f.1,YD t f.2]
theorem VL{A:Around}{s:Shared}{x:V}{v:Value}(rx:RelV x v)(fx:QB x=true):∀{xs:List V} {us:List Value},Vals xs us→xs.all QB=true→∀ u∈us,SeqAt.EqAt A s u v (eqU x u)
 | _,_,.nil,_=>fun u hu=>by cases hu
 | y::xs,u::us,.cons r t,f=>fun u' hu=>by
  rw[As2,ArP] at f
  rcases List.mem_cons.mp hu with rfl | hu
  ·rw[Aj2 r f.1];exact AdZ r rx f.1 fx
  ·exact VL rx fx t f.2 u' hu
def inV (x:V)(xs:List V):Bool:=xs.any fun y=>eqV y x
def rIn (K:PySem.W.Frag)(neg:Bool):R2:=fun x y H Q=>∃ p xs,y=.ref p∧(SqL K H p xs∨SqT K H p xs)∧QB x=true∧xs.all QB=true∧Q (.bl (if neg then !inV x xs else inV x xs)) H
theorem Air:OpR X (compareOp .In) (rIn X.K false):=by
 intro pins s σ H x y v u Q I rx ry h
 obtain⟨p,xs,rfl,hq,fx,fs,q⟩:=h
 cases ry
 rcases hq with hq | hq
 ·obtain⟨its,r,pl,hz⟩:=I.list hq
  refine SeqAt.in_listAt (eqU x) pl.isList (fun w hw=>VL rx fx r fs w (by simpa using hw)) ⟨.bl _,H,I,rfl,?_⟩
  rw[show its.toArray.any (eqU x)=its.any (eqU x) by simp,YD r fs]
  exact q
 ·obtain⟨its,r,pl,hz⟩:=I.tuple hq
  refine SeqAt.in_tupleAt (eqU x) pl (fun w hw=>VL rx fx r fs w (by simpa using hw)) ⟨.bl _,H,I,rfl,?_⟩
  rw[show its.toArray.any (eqU x)=its.any (eqU x) by simp,YD r fs]
  exact q
theorem Aea:OpR X (compareOp .NotIn) (rIn X.K true):=by
 intro pins s σ H x y v u Q I rx ry h
 obtain⟨p,xs,rfl,hq,fx,fs,q⟩:=h
 cases ry
 rcases hq with hq | hq
 ·obtain⟨its,r,pl,hz⟩:=I.list hq
  refine SeqAt.notIn_listAt (eqU x) pl.isList (fun w hw=>VL rx fx r fs w (by simpa using hw)) ⟨.bl _,H,I,rfl,?_⟩
  rw[show its.toArray.any (eqU x)=its.any (eqU x) by simp,YD r fs]
  exact q
 ·obtain⟨its,r,pl,hz⟩:=I.tuple hq
  refine SeqAt.notIn_tupleAt (eqU x) pl (fun w hw=>VL rx fx r fs w (by simpa using hw)) ⟨.bl _,H,I,rfl,?_⟩
  rw[show its.toArray.any (eqU x)=its.any (eqU x) by simp,YD r fs]
  exact q
theorem Aeb:R3 X (.builtin "len") (fun xs H Q=>∃ p ys,xs=[.ref p]∧(SqL X.K H p ys∨SqT X.K H p ys)∧Q (.int ys.length) H):=by
 intro pins s σ H xs us Q I r h
 obtain⟨p,ys,rfl,hq,q⟩:=h
 obtain⟨u,rfl,rx⟩:=vals1 r
 cases rx
 have hn:=ZF
 rcases hq with hq | hq
 ·obtain⟨its,r',pl,hz⟩:=I.list hq
  have hlen:=r'.length
  exact Calls.call_len_list pl.isList (by simp only [Ar0] <;> omega) ⟨.int ys.length,H,I.tok _,⟨s.toks+1,by rw[Ar0,hlen]⟩,q⟩
 ·obtain⟨its,r',pl,hz⟩:=I.tuple hq
  have hlen:=r'.length
  exact len_tuple pl (by simp only [Ar0] <;> omega) ⟨.int ys.length,H,I.tok _,⟨s.toks+1,by rw[Ar0,hlen]⟩,q⟩
theorem Ca:R3 X (.builtin "len") (fun xs H Q=>∃ z,xs=[.str z]∧z.length≤sizeLine∧Q (.int z.length) H):=by
 intro pins s σ H xs us Q I r h
 obtain⟨z,rfl,hz,q⟩:=h
 obtain⟨u,rfl,t,rfl⟩:=vals1 r
 have hn:=ZF
 exact len_str (by omega) ⟨.int z.length,H,I.tok _,⟨_,rfl⟩,q⟩
theorem Aec:R3 X (.type "list") (fun xs H Q=>∃ p ys,xs=[.ref p]∧(SqL X.K H p ys∨SqT X.K H p ys)∧∀ l,H l=none→Q (.ref l) (upd H l (.lst ys))):=by
 intro pins s σ H xs us Q I r h
 obtain⟨p,ys,rfl,hq,q⟩:=h
 obtain⟨u,rfl,rx⟩:=vals1 r
 cases rx
 have fin:∀(its:List Value),Vals ys its→ys.length≤sizeLine→∀(h':Heap) (c':Nat),(∀ b o',s.heap.get? b=some o'→h'.get? b=some o') →
   h'.get? s.heap.objs.size=some { cls:=.type "list", dict:=none,data:=.seq its.toArray c',slots:=#[] }→EP X pins σ Q (.ref s.heap.objs.size) { s with heap:=h' }:=fun its r' hz h' c' kp e =>
  ⟨.ref s.heap.objs.size,_,I.laid (t':=s.toks) kp (Art _) (show Mq X.prog X.w _ h' _ (.lst ys) from⟨hz,its,c',r',e⟩),rfl,q _ (I.hok.fresh (Art _))⟩
 rcases hq with hq | hq
 ·obtain⟨its,r',pl,hz⟩:=I.list hq
  have hlen:=r'.length
  obtain⟨o,ho,hc,n,hd⟩:=pl.isList
  exact call_list_seq p (.inl rfl) ho hc hd (fun h' c' kp e=>fin its r' hz h' c' kp e) (by simp only [Ar0] <;> omega)
 ·obtain⟨its,r',pl,hz⟩:=I.tuple hq
  have hlen:=r'.length
  obtain⟨o,ho,hc,n,hd⟩:=pl
  exact call_list_seq p (.inr rfl) ho hc hd (fun h' c' kp e=>fin its r' hz h' c' kp e) (by simp only [Ar0] <;> omega)
def tyV (K:PySem.W.Frag)(T:String)(x:V)(H:Hp):Prop:=match x with
 | .str _=>T = "str"
 | .int _=>T = "int"
 | .ref p=>(T = "list" ∧ ∃ xs,SqL K H p xs)∨(T = "tuple" ∧ ∃ o,K.lookup p=some o∧o.cls=.type "tuple" ∧ o.dict=none) ∨
   (T = "dict" ∧ ((∃ kvs,H p=some (.dK kvs))∨∃ kvs,H p=some (.dT kvs)))∨(T = "set" ∧ ∃ S n,H p=some (.set S n))
 | _=>False
theorem Anr{pins:List (Addr × Obj)}{σ:St}{H:Hp}{s:Shared}{T:String}{x:V}{v:Value}(I:Inv X pins σ H s)(r:RelV x v)(ty:tyV X.K T x H) :
  s.TypeIs v T∧∀ a,v=.ref a→∃ ob,s.heap.get? a=some ob∧ob.dict=none:=by
 cases x with
 | str z =>
  obtain⟨t,rfl⟩:=r
  cases (show T = "str" from ty)
  exact⟨typeIs_str s z t,fun _ e=>nomatch e⟩
 | int i =>
  obtain⟨t,rfl⟩:=r
  cases (show T = "int" from ty)
  exact⟨typeIs_int s i t,fun _ e=>nomatch e⟩
 | ref p =>
  cases r
  rcases ty with ⟨rfl,xs,hq⟩ | ⟨rfl,o,hk,hc,hd⟩ | ⟨rfl,hk⟩ | ⟨rfl,S,n,hk⟩
  ·obtain⟨its,_,pl,_⟩:=I.list hq
   refine⟨pl.isList.typeIs,fun a e=>?_⟩
   cases e
   obtain⟨o,n,e,c,hd,_⟩:=pl
   exact⟨o,e,hd⟩
  ·refine⟨⟨o,I.kIn p o hk,hc⟩,fun a e=>?_⟩
   cases e
   exact⟨o,I.kIn _ o hk,hd⟩
  ·have z:∃ o,s.heap.get? p=some o∧o.ExactDict:=by
    rcases hk with ⟨kvs,hk⟩ | ⟨kvs,hk⟩
    ·obtain⟨_,_,_,_,o,_,_,e,ex,_⟩:=I.hok p _ hk
     exact⟨o,e,ex⟩
    ·obtain⟨_,_,_,_,o,_,_,e,ex,_⟩:=I.hok p _ hk
     exact⟨o,e,ex⟩
   obtain⟨o,e,ex⟩:=z
   refine⟨⟨o,e,ex.1⟩,fun a e2=>?_⟩
   cases e2
   exact⟨o,e,ex.2.1⟩
  ·obtain⟨o,_,_,_,e,ex,_⟩:=I.hok p _ hk
   refine⟨⟨o,e,ex.1⟩,fun a e2=>?_⟩
   cases e2
   exact⟨o,e,ex.2.1⟩
 | _=>exact False.elim ty
def AqX (K:PySem.W.Frag)(T:String)(r:V→List V→Hp→VK→Prop)(to:TE):TE:=fun σ H Q=>to σ H fun x H1=>tyV K T x H1∧r x [] H1 Q
def tBM (K:PySem.W.Frag)(T:String)(r:V→List V→Hp→VK→Prop)(to:TE)(t:TA):TE:=fun σ H Q=>to σ H fun x H1=>tyV K T x H1∧t σ H1 fun xs H2=>r x xs H2 Q
variable {o e:Expr}{es:List Expr}{to:TE}{t:TA}{name:Str}{apos cpos:Pos}{T id:String}{r:V→List V→Hp→VK→Prop}
theorem Ao8(pa:PlainAttrs T)(slot:Slot T name id)(hty:typeOf (.builtin id)=pure (.type "method_descriptor")) (hm:MtR X id r) (ho:PE X o to) (ha:PA X (e::es) t)
  (hbase:attributeBase o name X.env (eval o X.env)=eval o X.env:=by rfl)
  (hfew:((backTo cpos (starEach (e::es) X.env)).all (fun x=>!x.1) && (backToKw cpos (keywordEach [] X.env)).all (fun x=>x.1.isSome)
   && decide ((e::es).length+([]:List Keyword).length+(if ([]:List Keyword).isEmpty then 0 else 1)<30))=true:=by rfl)
  (hline:(apos.endLine == cpos.line)=true:=by rfl) (hs:starEach (e::es) X.env=(false,eval e X.env)::starEach es X.env:=by rfl) (hplain:(backTo cpos (starEach es X.env)).any (·.1)=false:=by rfl) :
  PE X (.Call (.Attribute o name apos) (e::es) [] cpos) (tBM X.K T r to t):=by
 intro pins s σ H Q I h
 refine wpAny_Call_method_late hbase hfew hline rfl (thn (ho pins s σ H _ I h) fun v s1 ⟨x,H1,I1,r1,ty,q1⟩=>?_)
 obtain⟨h1,h2⟩:=Anr I1 r1 ty
 refine⟨T,id,pa,slot,hty,h1,h2,?_⟩
 have hA:=ha cpos pins s1 σ H1 _ I1 q1
 rw[hs] at hA ⊢
 refine Calls.callWith_builtin (by show(false || (backTo cpos (starEach es X.env)).any (·.1))=false;rw[hplain] <;> rfl) (Calls.evalArgs_plain ?_)
 exact thn hA fun us s2 ⟨vs,H2,I2,r2,q2⟩=>hm pins s2 σ H2 x vs v us Q I2 r1 r2 q2
end
open PySem PySem.Spec PyProof.Rows
def MtM (X:Cx)(id:String)(r:V→List V→Hp→VK→Prop):Prop :=
 ∀(pins:List (Addr × Obj)) (s:Shared) (σ:St) (H:Hp) (x:V) (xs:List V) (v:Value) (us:List Value) (Q:VK),Inv X pins σ H s→RelV x v→Vals xs us→r x xs H Q →
  wpAny (model X.prog X.w) X.A (call (.builtin id) (v::us)) (EP X pins σ Q) X.xe s
theorem Vals.one:∀{x:V} {us:List Value},Vals [x] us→∃ u,us=[u]∧RelV x u
 | _,_,.cons r .nil=>⟨_,rfl,r⟩
theorem Vals.two:∀{x y:V} {us:List Value},Vals [x,y] us→∃ u v,us=[u,v]∧RelV x u∧RelV y v
 | _,_,_,.cons r (.cons q .nil)=>⟨_,_,rfl,r,q⟩
theorem Vals.rep{xs:List V}{us:List Value}(h:Vals xs us):∀ k:Nat,Vals (List.replicate k xs).flatten (List.replicate k us).flatten
 | 0=>.nil
 | k+1=>by
  rw[ArJ,ArJ,ArB,ArB]
  exact Vals.append h (Vals.rep h k)
theorem foldl_rep(its:List Value):∀(k:Nat) (acc:List Value),
  List.foldl (fun x1 x2=>x1++x2) acc.toArray (List.replicate k its.toArray)=(acc++(List.replicate k its).flatten).toArray
 | 0,acc=>by simp
 | k+1,acc=>by
  have e:acc.toArray++its.toArray=(acc++its).toArray:=by simp
  have e2:(acc++its)++(List.replicate k its).flatten=acc++(List.replicate (k+1) its).flatten:=by
   rw[ArJ,ArB,ArQ]
  rw[← e2,← foldl_rep its k (acc++its),← e,ArJ,As3]
section
variable {X:Cx}{pins:List (Addr × Obj)}{σ:St}{H:Hp}{s:Shared}{l b:Addr}{xs ys zs:List V}
theorem Inv.ApQ{its its':List Value}{n:Nat}{f:Array Value→Array Value}{t':Nat}(I:Inv X pins σ H s)(hH:H l=some (.lst xs))
  (e:s.heap.get? l=some { cls:=.type "list", data:=.seq its.toArray n }) (hf:f its.toArray=its'.toArray) (hv:Vals ys its') (hz:ys.length≤sizeLine) :
  Inv X pins σ (upd H l (.lst ys)) { s with heap:=s.heap.update l (Obj.mapSeq f),toks:=t' }:=by
 have q:=PySem.IsL.update e f
 rw[hf] at q
 refine I.write (x:=l) (e:=l) (by rw[hH];exact trivial) (.inl rfl) (fun b' u hb hu=>(Heap.get?_update_other s.heap (Obj.mapSeq f) (Ne.symm hb)).trans hu) ⟨_,q⟩ ?_
 exact⟨hz,its',_,hv,q⟩
theorem Inv.Ao9{its:List Value}{t':Nat}(I:Inv X pins σ H s)(hv:Vals ys its)(hz:ys.length≤sizeLine) :
  Inv X pins σ (upd H s.heap.objs.size (.lst ys)) { s with heap:=s.heap.push { cls:=.type "list", data:=.seq its.toArray },toks:=t' } :=
 I.laid (fun _ _ q=>Heap.get?_push_of_some _ q) (Art _) ⟨hz,its,0,hv,Heap.get?_push_size _ rfl⟩
theorem Inv.fresh(I:Inv X pins σ H s):H s.heap.objs.size=none:=I.hok.fresh (Art _)
theorem Inv.Al8(I:Inv X pins σ H s)(hH:H l=some (.lst xs)):xs.length≤sizeLine∧∃(its:List Value) (n:Nat),Vals xs its∧xs.length=its.length∧s.heap.get? l=some { cls:=.type "list", data:=.seq its.toArray n }:=by
 obtain⟨z,its,n,r,e⟩:=I.hok l _ hH
 exact⟨z,its,n,r,r.length,e⟩
theorem Aj3{n:Nat}(h:n≤sizeLine):Builtin.List.listTooLong n=false:=by
 unfold Builtin.List.listTooLong
 exact decide_eq_false (by omega)
end
section
variable {X:Cx}
def Al9:V→List V→Hp→VK→Prop:=fun x vs H Q=>∃ l xs y,x=.ref l∧vs=[y]∧H l=some (.lst xs)∧xs.length<sizeLine∧Q .non (upd H l (.lst (xs++[y])))
theorem NK:MtM X "list.append" Al9:=by
 intro pins s σ H x vs v us Q I rx rv h
 obtain⟨l,xs,y,rfl,rfl,hH,hz,q⟩:=h
 cases rx
 obtain⟨u,rfl,ru⟩:=rv.one
 obtain⟨z,its,n,r,hl,e⟩:=I.Al8 hH
 refine call_meets F.slot_list_append ⟨_,e,rfl⟩ F.entry_list_append (F.args_list_append_2 _ _) (PySem.list_append l its.toArray n u (by rw[Ar0];omega)) ⟨e,?_⟩
 refine⟨.non,_,I.ApQ (its':=its++[u]) hH e (by simp) (r.append (.cons ru .nil)) ?_,rfl,q⟩
 rw[Arp,ArX]
 omega
def Apw:V→List V→Hp→VK→Prop:=fun x vs H Q=>∃ l b xs zs,x=.ref l∧vs=[.ref b]∧H l=some (.lst xs)∧H b=some (.lst zs)∧xs.length+zs.length≤sizeLine∧Q .non (upd H l (.lst (xs++zs)))
def AqY:V→List V→Hp→VK→Prop:=fun x vs H Q=>∃ l xs y,x=.ref l∧vs=[]∧H l=some (.lst xs)∧xs[xs.length-1]?=some y∧Q y (upd H l (.lst xs.dropLast))
def ApR:V→List V→Hp→VK→Prop:=fun x vs H Q=>∃ l xs i k y,x=.ref l∧vs=[.int i]∧H l=some (.lst xs) ∧ -(2 ^ 63)≤i∧i<2 ^ 63∧seqIndex? i xs.length=some k∧xs[k]?=some y∧Q y (upd H l (.lst (xs.eraseIdx k)))
def AoA:V→List V→Hp→VK→Prop:=fun x vs H Q=>∃ l xs,x=.ref l∧vs=[]∧H l=some (.lst xs)∧Q .non (upd H l (.lst xs.reverse))
def ApS:V→List V→Hp→VK→Prop:=fun x vs H Q=>∃ l xs,x=.ref l∧vs=[]∧H l=some (.lst xs)∧Q .non (upd H l (.lst []))
def ApT:R2:=fun x y H Q=>∃ l b xs zs,x=.ref l∧y=.ref b∧H l=some (.lst xs)∧H b=some (.lst zs)∧xs.length+zs.length≤sizeLine∧∀ p,H p=none→Q (.ref p) (upd H p (.lst (xs++zs)))
theorem Aj4:OpR X (binaryOp .Add) ApT:=by
 intro pins s σ H x y v u Q I rx ry h
 obtain⟨l,b,xs,zs,rfl,rfl,hH,hB,hz,q⟩:=h
 cases rx
 cases ry
 obtain⟨z,its,n,r,hl,e⟩:=I.Al8 hH
 obtain⟨z2,its2,n2,r2,hl2,e2⟩:=I.Al8 hB
 refine PySem.P.add_list e e2 ?_ (by rw[Ar0,Ar0];omega)
 have ea:its.toArray++its2.toArray=(its++its2).toArray:=by simp
 rw[ea]
 exact⟨.ref _,_,I.Ao9 (t':=s.toks) (r.append r2) (by rw[Arp];omega),rfl,q _ I.fresh⟩
def ApU:R2:=fun x y H Q=>∃ l k xs,x=.ref l∧y=.int k∧H l=some (.lst xs) ∧ -(2 ^ 63)≤k∧k<2 ^ 63∧xs.length*k.toNat≤sizeLine ∧
 ∀ p,H p=none→Q (.ref p) (upd H p (.lst (List.replicate k.toNat xs).flatten))
theorem len_rep{α:Type}(xs:List α)(k:Nat):(List.replicate k xs).flatten.length=k*xs.length:=by
 induction k with
 | zero=>simp
 | succ k ih=>rw[ArJ,ArB,Arp,ih,As4,Nat.add_comm]
theorem AbN:OpR X (binaryOp .Mult) ApU:=by
 intro pins s σ H x y v u Q I rx ry h
 obtain⟨l,k,xs,rfl,rfl,hH,h1,h2,hz,q⟩:=h
 cases rx
 obtain⟨t,rfl⟩:=ry
 obtain⟨z,its,n,r,hl,e⟩:=I.Al8 hH
 have hlen:its.toArray.size*k.toNat≤sizeLine:=by rw[Ar0,← hl];exact hz
 have ApV:¬its.toArray.size*k.toNat>(2 ^ 63-1) / 8:=by
  have:(sizeLine:Nat)≤(2 ^ 63-1) / 8:=by decide
  omega
 have hfit:¬(!Builtin.List.listFitsIndex k)=true:=by
  rw[fitsIndex_both h1 h2]
  exact Ar2
 have AoB:¬Builtin.List.listTooLong (its.toArray.size*k.toNat)=true:=by
  rw[Aj3 hlen]
  exact Ar2
 have hnew:List.foldl (fun x1 x2=>x1++x2) #[] (List.replicate (if its.toArray.isEmpty=true then 0 else k.toNat) its.toArray)=(List.replicate k.toNat its).flatten.toArray:=by
  have f0:∀ m:Nat,List.foldl (fun x1 x2=>x1++x2) #[] (List.replicate m its.toArray)=(List.replicate m its).flatten.toArray:=fun m=>by
   have:=foldl_rep its m []
   rw[As5] at this
   exact this
  rw[f0]
  cases its with
  | nil=>simp
  | cons a r'=>rw[if_neg (by simp)]
 refine wpAny_binaryOp_repeat_ref (T := "list") (U := "int") (by decide) ⟨_,e,rfl⟩ (fun s'=>typeIs_int s' k t) noFill_list_mul F.fills_int_mul F.slot_int_rmul repeat_list F.slot_int_index.lookup
  (call_meets F.slot_int_rmul (typeIs_int s k t) F.entry_int_rmul (F.args_int_rmul_2 _ _) (int___rmul___int_list k t l its.toArray n)
   ⟨e,rfl,⟨_,e,rfl⟩,call_meets F.slot_list_mul ⟨_,e,rfl⟩ F.entry_list_mul (F.args_list_mul_2 _ _) (AutoListH.list___mul___list_int_3 l its.toArray n k t hfit ApV AoB) ⟨e,?_⟩⟩)
 rw[hnew]
 exact⟨.ref _,_,I.Ao9 (t':=s.toks) (r.rep k.toNat) (by rw[len_rep,ArV];exact hz),rfl,q _ I.fresh⟩
end
section
variable {prog:Program}{w:World}{A:Around}{E:Value→Shared→Prop}{s:Shared}
end
section
variable {X:Cx}
end
end L2
namespace Att
open PySem PySem.W PySem.Calls PyProof.Rows
theorem AaV{P:Params}{h:Heap}:∀(ns:List Int) (vs:List Value),WellAll P h vs (ns.map WData.int)→IntsAre vs ns:=by
 intro ns
 induction ns with
 | nil =>
  intro vs w
  rw[ArT] at w
  cases w
  exact .nil
 | cons n ns ih =>
  intro vs w
  rw[Arx] at w
  cases w with
  | cons a b =>
   cases a
   exact .cons _ _ (ih _ b)
theorem Ais{l:OpenLaw}{n:Nat}(hn:l.most=some n){P:Params}{h:Heap}{args:List WData}{vals:List Value}
  (hpre:l.row.toRowW.claim.pre args=true) (hwl:WellAll P h vals args) :
  ∃ a vs ns,vals=[Value.ref a]∧args=[WData.list (ns.map WData.int)]∧h.get? a=some { cls:=.type "list", data:=.seq vs.toArray }∧IntsAre vs ns∧ns.length≤n:=by
 have hsh:WShape.hasAll [] args [.list .int]=true:=(pre_splitW hpre).1
 have hc:l.pre.holds [] { args:=args }=true:=(pre_splitW hpre).2
 obtain⟨d,r,rfl,h1,h2⟩:=hasAllW_cons hsh
 obtain rfl:=hasAllW_nil h2
 obtain⟨xs,rfl,h3⟩:=hasW_list h1
 obtain⟨ns,rfl⟩:=items_int h3
 have hlen:ns.length≤n:=by
  unfold OpenLaw.pre at hc
  have h4:(WTm.not (.lt (.lit (.int (n:Int))) (.len (.arg 0)))).holds [] { args:=[.list (ns.map .int)] }=true:=by
   have h4:=(holds_andW hc).1
   rw[hn] at h4
   exact h4
  have h5:=condW_of h4 (w_not (w_lt w_lit (w_len_list (w_arg rfl))))
  rw[Arq] at h5
  refine Nat.le_of_not_lt fun q=>?_
  have q':(n:Int)<((ns.length:Nat):Int):=by omega
  first
   | (rw[decide_eq_true q'] at h5;exact absurd h5 (by decide))
   | (simp at h5;omega)
 cases hwl with
 | cons w1 w2 =>
  cases w2
  cases w1 with
  | list ho hall=>exact⟨_,_,ns,rfl,rfl,ho,AaV ns _ hall,hlen⟩
theorem Ait(l:OpenLaw)(args:List WData):l.row.toRowW.claim.post args (.bool true) args=true :=
 postW_of (r:=l.row.toRowW) (X:=(true == true))
  (show WShape.has [] (.bool true) .bool=true by first | rfl | decide | simp[WShape.has,WShape.arms,WShape.armsAll])
  (show(WTm.eq .res (.lit (.bool true))).value [] { args:=args,res:=some (.bool true),after:=args }=some (.bool (true == true)) from w_eq_bool (w_res rfl) w_lit) rfl
theorem Afk{l:OpenLaw}{n:Nat}{q:Program}{loose:List Str}{XP:(Str→Option Value)→Heap→Prop}{YP:World→Heap→Prop}{d:DefRec}
  (hn:l.most=some n) (hdf:d.params.defaults=[])
  (call:∀(w:World) (s₀ s₁:Shared) (mg mb:Str→Option Value) (fa:Addr) (o:Obj) (pm cd doc:Value) (a:Addr) (vs:List Value) (ns:List Int),
   Ground q loose [] XP w s₀ mg mb s₁.heap→YP w s₁.heap →
   s₁.heap.get? fa=some o→o.data=.func (docDef d.name d.params d.body d.scope pm cd doc)→s₁.heap.CodeRec cd d.name→mg d.name=some (.ref fa) →
   s₁.heap.get? a=some { cls:=.type "list", data:=.seq vs.toArray }→IntsAre vs ns→ns.length≤n→s₁.gens=#[] →
   codeAny (model l.prog w) callerA (.call (.ref fa) ⟨[.ref a],[]⟩) (fun r s'=>r=.ok (.ret (.bool true))∧OldK s₁.heap s'.heap∧s'.os=s₁.os∧AllBare s'.gens) s₁) :
  WalkO q loose XP YP l.row.toRowW d [] (fun f vs=>PySem.call f vs):=by
 intro w s₀ s₁ mg mb G Y fa o pm cd doc dV kV ho hd hcd hD hmg hg args vals as hpre hlay hrd hwl hlo
 obtain rfl:dV=.none:=Dflts.none hD hdf
 obtain rfl:kV=.none:=Dflts.noKw hD
 obtain⟨a,vs,ns,rfl,rfl,hobj,hints,hlen⟩:=Ais hn hpre hwl
 refine enter_call (codeAny_mono (call w s₀ s₁ mg mb fa o pm cd doc a vs ns G Y ho (fd_plain hd) hcd hmg hobj hints hlen hg) fun r s' hq=>?_)
 obtain⟨rfl,h2,h3,h4⟩:=hq
 exact⟨.inl ⟨.bool true,.bool true,[],rfl,fun _=>rfl,.bool true,Ait l _,fun _=>⟨List.Pairwise.nil,fun _ hm=>(nomatch hm)⟩⟩,h2,h3,h4⟩
section
variable {prog:Program}{w:World}{A:Around}{E:Value→Shared→Prop}{s:Shared}{K:Frag}
def ApW (h:Heap):Heap:={ h with objs:=#[] }
def ledger(h:Heap)(L d:Addr):List (Addr × Obj):=(List.range h.objs.size).filterMap fun a=>if a=L∨a=d then none else (h.get? a).map fun o=>(a,o)
end
end Att
namespace L2
open PySem PySem.Spec PyProof.Rows
theorem Ad6:∀{vs:List Value} {ns:List Int},IntsAre vs ns→Vals (ns.map V.int) vs
 | _,_,.nil=>.nil
 | _,_,.cons n t h=>.cons ⟨t,rfl⟩ (Ad6 h)
def Only(H:Hp):Prop:=∀ b,H b=none∨∃ o xs,H b=some (.frz o (.lst xs))
theorem Aj5{P:Program}{w:World}{K:PySem.W.Frag}{mg mb:Str→Option Value}{CX:CXT}{k:Nat}{fa a:Addr}{fd:FuncData}{x:Str}{sp:Sp}{s₁:Shared}{vs:List Value}{ns:List Int}
  (KX:K.In s₁.heap) (hns:s₁.heap.Ns mainGlobals mg) (hb:s₁.heap.Ns builtinsNs mb) (hbb:∀ x:Str,x ≠ "__name__" → mb x=bootBuiltins x) (hlim:s₁.heap.NoLimit) (hg:s₁.gens=#[])
  (ha:s₁.heap.get? a=some { cls:=.type "list", data:=.seq vs.toArray }) (hi:IntsAre vs ns) (hl:ns.length≤sizeLine) (hr:Mu k callerA)
  (F:∀ base:Heap,K.In base→base.Ns mainGlobals mg→Aj P w K mg base CX k fa fd [x] sp) (hbind:∀(s:Shared) (u:Value),BindsTo s fd ⟨[u],[]⟩ [(x,u)])
  (hsp:∀ H:Hp,Only H→SqL K H a (ns.map V.int)→sp [.ref a] H (fun v _=>v=.bl true) fun _ _ _=>False)
  (hCX:∀ H e s',CX [] H s₁ (fun _ _ _=>False) e s'→False) :
  codeAny (model P w) callerA (.call (.ref fa) ⟨[.ref a],[]⟩) (fun r s'=>r=.ok (.ret (.bool true))∧OldK s₁.heap s'.heap∧s'.os=s₁.os∧AllBare s'.gens) s₁:=by
 have rv:=Ad6 hi
 have lenV:=hi.length
 have core:∀ H:Hp,Only H→SqL K H a (ns.map V.int)→HOk P w H s₁.heap→(∀ b,H b≠none→b=a)→(H a≠none→K.lookup a=none) →
   codeAny (model P w) callerA (.call (.ref fa) ⟨[.ref a],[]⟩) (fun r s'=>r=.ok (.ret (.bool true))∧OldK s₁.heap s'.heap∧s'.os=s₁.os∧AllBare s'.gens) s₁:=by
  intro H hO hS hok hA hK
  have Ah0:∀{b:Addr} {o:Obj},s₁.heap.get? b=some o→H b=none→(AdT s₁.heap H).get? b=some o:=fun e n=>Aju e n
  have noA:∀{b:Addr} {o:Obj} {es:Array DictEntry} {ep:Nat},s₁.heap.get? b=some o→o.data=.dict es ep→H b=none:=fun {b o es ep} e d=>by
   cases q:H b with
   | none=>rfl
   | some u =>
    have e':b=a:=hA b (by rw[q];simp)
    subst e'
    rw[ha] at e;cases e
    have d':Data.seq vs.toArray _=Data.dict es ep:=d
    cases d'
  have nsK:∀{b:Addr} {m:Str→Option Value},s₁.heap.Ns b m→(AdT s₁.heap H).Ns b m:=fun {b m} ⟨o,es,ep,e,d,r⟩=>⟨o,es,ep,Ah0 e (noA e d),d,r⟩
  have hKb:K.In (AdT s₁.heap H):=fun b o e=>Ah0 (KX b o e) (by
   cases q:H b with
   | none=>rfl
   | some u =>
    have e':b=a:=hA b (by rw[q];simp)
    subst e'
    rw[hK (by rw[q];simp)] at e;cases e)
  have hM:Mod K mg (AdT s₁.heap H):=⟨hKb,nsK hns,⟨mb,nsK hb,hbb⟩,let ⟨mc,h1,h2⟩:=hlim;⟨mc,nsK h1,h2⟩⟩
  have e0:Ag0 P w K mg (AdT s₁.heap H) callerA [] s₁ H:=⟨rfl,hM,fun b o e=>Aly e,ArW (Aih _ _),trivial,fun b hb=>absurd (show b∈([]:List Addr) from hb) (by simp),hok,.of_eq hg⟩
  refine codeAny_mono ((F _ hKb (nsK hns)).run callerA [] s₁ H ⟨[.ref a],[]⟩ [.ref a] [.ref a] _ _ hr e0 (hbind s₁ (.ref a)) (.cons rfl .nil) (hsp H hO hS)) fun r s' h=>?_
  cases r with
  | error e=>exact(hCX H e s' h).elim
  | ok fl =>
   cases fl with
   | next=>exact False.elim h
   | brk=>exact False.elim h
   | cont=>exact False.elim h
   | ret u =>
    obtain⟨v,H',os,bare,un,hok',r',q⟩:=h
    have q':v=.bl true:=q
    subst q'
    obtain rfl:u=Value.bool true:=r'
    refine⟨rfl,OldK.of_keep fun b o e=>?_,os,bare⟩
    cases q:H b with
    | none=>exact un.keep b o e q (by intro z;exact absurd (show b∈([]:List Addr) from z) (by simp)) (by simp)
    | some u =>
     rcases hO b with z | ⟨ob,xs,z⟩
     ·rw[q] at z;cases z
     ·have z2:=un.Ri b ob _ z
      obtain⟨e1,_⟩:=hok b _ z
      obtain⟨e2,_⟩:=hok' b _ z2
      rw[e] at e1;cases e1
      exact e2
 cases hk:K.lookup a with
 | some o =>
  have e:=KX a o hk
  rw[ha] at e
  cases e
  refine core (fun _=>none) (fun _=>.inl rfl) (.inr ⟨_,vs.toArray,_,hk,rfl,rfl,rfl,by rw[Ar0,lenV];exact hl,by simpa using rv⟩) (fun b u z=>by have z':(none:Option HO)=some u:=z;cases z') (fun b z=>absurd rfl z) fun z=>absurd rfl z
 | none =>
  refine core (fun b=>if b=a then some (.frz { cls:=.type "list", data:=.seq vs.toArray } (.lst (ns.map V.int))) else none) (fun b=>?_) (.inl (.inr ⟨{ cls:=.type "list", data:=.seq vs.toArray },if_pos rfl⟩)) (fun b u z=>?_) (fun b z=>?_) fun _=>hk
  ·by_cases hb:b=a
   ·exact .inr ⟨_,_,if_pos hb⟩
   ·exact .inl (if_neg hb)
  ·by_cases hb:b=a
   ·have z':=(if_pos hb).symm.trans z
    cases z'
    subst hb
    exact⟨ha,by rw[Arq];exact hl,vs,_,rv,ha⟩
   ·have z':=(if_neg hb).symm.trans z
    cases z'
  ·by_cases hb:b=a
   ·exact hb
   ·exact absurd (if_neg hb) z
open PySem PySem.Spec PyProof.Rows
abbrev KOf {K:PySem.W.Frag} {h:Heap} (_:K.In h):PySem.W.Frag:=K
theorem AlA{l:PySem.W.OpenLaw}{n k:Nat}{q:Program}{loose:List Str}{XP:(Str→Option Value)→Heap→Prop}{YP:World→Heap→Prop}{d:DefRec}{K:Params→PySem.W.Frag}{CX:World→CXT}{sp:World→Sp}{x:Str}
  (hn:l.most=some n) (hn2:n≤sizeLine) (hdf:d.params.defaults=[]) (hr:Mu k callerA)
  (hY:∀(w:World) (h:Heap),YP w h→(K w.params).In h)
  (F:∀(w:World) (mg:Str→Option Value) (fa:Addr) (h:Heap),(K w.params).In h→h.Ns mainGlobals mg→mg d.name=some (.ref fa) →
   ∃ fd:FuncData,(∀(s:Shared) (u:Value),BindsTo s fd ⟨[u],[]⟩ [(x,u)]) ∧
    ∀ base:Heap,(K w.params).In base→base.Ns mainGlobals mg→Aj l.prog w (K w.params) mg base (CX w) k fa fd [x] (sp w))
  (hsp:∀(w:World) (H:Hp) (a:Addr) (ns:List Int),ns.length≤n→Only H→SqL (K w.params) H a (ns.map V.int)→sp w [.ref a] H (fun v _=>v=.bl true) fun _ _ _=>False)
  (hCX:∀(w:World) (H:Hp) (s:Shared) (e:Value) (s':Shared),CX w [] H s (fun _ _ _=>False) e s'→False) :
  PySem.W.WalkO q loose XP YP l.row.toRowW d [] (fun f vs=>PySem.call f vs):=by
 refine Att.Afk hn hdf fun w s₀ s₁ mg mb fa o pm cd doc a vs ns G Y ho hd hcd hmg hobj hints hlen hg=>?_
 have KX:=hY w _ Y
 obtain⟨fd,hb,hF⟩:=F w mg fa _ KX G.T.g hmg
 exact Aj5 KX G.T.g G.T.b G.T.builtins G.T.nolimit hg hobj hints (ArC hlen hn2) hr hF hb (fun H hO hS=>hsp w H a ns hlen hO hS) fun H e s'=>hCX w H s₁ e s'
theorem Aj6{l:PySem.W.OpenLaw}{n k:Nat}{q:Program}{loose:List Str}{XP:(Str→Option Value)→Heap→Prop}{YP:World→Heap→Prop}{d:DefRec}{K:Params→PySem.W.Frag}{CX:CXT}{sp:PySem.W.Frag→Sp}{x:Str}
  (hn:l.most=some n) (hn2:n≤sizeLine) (hdf:d.params.defaults=[]) (hr:Mu k callerA)
  (hY:∀(w:World) (h:Heap),YP w h→(K w.params).In h)
  (F:∀(w:World) (mg:Str→Option Value) (fa:Addr) (h:Heap),(K w.params).In h→h.Ns mainGlobals mg→mg d.name=some (.ref fa) →
   ∃ fd:FuncData,(∀(s:Shared) (u:Value),BindsTo s fd ⟨[u],[]⟩ [(x,u)]) ∧
    ∀ base:Heap,(K w.params).In base→base.Ns mainGlobals mg→Aj l.prog w (K w.params) mg base CX k fa fd [x] (sp (K w.params)))
  (hsp:∀(K:PySem.W.Frag) (H:Hp) (a:Addr) (ns:List Int),ns.length≤n→Only H→SqL K H a (ns.map V.int)→sp K [.ref a] H (fun v _=>v=.bl true) fun _ _ _=>False)
  (hCX:∀(H:Hp) (s:Shared) (e:Value) (s':Shared),CX [] H s (fun _ _ _=>False) e s'→False) :
  PySem.W.WalkO q loose XP YP l.row.toRowW d [] (fun f vs=>PySem.call f vs) :=
 AlA (K:=K) (CX:=fun _=>CX) (sp:=fun w=>sp (K w.params)) hn hn2 hdf hr hY F (fun w H a ns h1 h2 h3=>hsp (K w.params) H a ns h1 h2 h3) fun _ H s e s'=>hCX H s e s'
open PySem PySem.Spec PyProof.Rows
def inClass(s:Stmt)(j:Nat):Stmt:=match s with
 | .ClassDef _ _ _ body _ _ _ _ _ _ _=>body.getD j (.Pass ⟨0,0,0,0⟩)
 | _=>.Pass ⟨0,0,0,0⟩
def SM (s:Stmt):Arguments:=match s with
 | .FunctionDef _ a _ _ _ _ _ _ _ _=>a
 | _=>{ posonlyargs:=[],args:=[],vararg:=none,kwonlyargs:=[],kw_defaults:=[],kwarg:=none,defaults:=[] }
def Qw (s:Stmt):List Stmt:=match s with
 | .FunctionDef _ _ b _ _ _ _ _ _ _=>b
 | _=>[]
def Af (s:Stmt):Scope:=match s with
 | .FunctionDef _ _ _ _ _ _ sc _ _ _=>sc
 | _=>{ kind:=.function,names:=[],isGenerator:=false,isCoroutine:=false }
abbrev CX0:CXT:=fun _ _ _ _ _ _=>False
abbrev E0:XK:=fun _ _ _=>False
theorem An{X:Cx}:Passes CX0 X E0:=fun _ _ _ _ _ _ _ h=>h.elim
structure Fun (K:PySem.W.Frag) (x qual:Str) (st:Stmt) (f:Addr) (fd:FuncData):Prop where
 ex:∃(oc:Value) (od:Option Addr) (kV doc pm:Value) (an:Option Addr) (cdv ct:Value) (osl:Array (Option Value)),
  fd=PySem.W.fnOf x qual (SM st) (Qw st) (Af st) .none kV doc pm an cdv ct∧K.lookup f=some ⟨oc,od,.func fd,osl⟩∧PySem.W.codeIn K cdv qual=true
 kp:PySem.W.keepIn K (.ref f)=true
section
variable {P:Program}{w:World}{K:PySem.W.Frag}{mg:Str→Option Value}{base:Heap}
theorem Fun.ok{x qual:Str}{st:Stmt}{f:Addr}{fd:FuncData}{N ps:List Str}{k:Nat}{sp:Sp}(F:Fun K x qual st f fd)(S:Ay N ps (Af st))(len:∀ vs H Q E,sp vs H Q E→vs.length=ps.length)
  (hbody:∀(cdv:Value) (A:Around) (outer:List Env) (s:Shared) (H:Hp) (vs:List V) (Q:VK) (E:XK),Mu k (A.deeper (envOfC qual (Af st) s.heap.objs.size f cdv))→sp vs H Q E →
   ∃ t,PSs (AdW CX0 P w K mg base N qual (Af st) f cdv A outer s H E).nox (Qw st) t∧t { nx:=fun _ H'=>Q .non H',rt:=Q } (start N vs) H):Aj P w K mg base CX0 (k+1) f fd ps sp:=by
 obtain⟨oc,od,kV,doc,pm,an,cdv,ct,osl,rfl,lk,hcd⟩:=F.ex
 refine AmD lk hcd S len fun A outer s H vs Q E hr hsp=>?_
 obtain⟨t,h,q⟩:=hbody cdv A outer s H vs Q E hr hsp
 exact⟨t,h.nox,q⟩
theorem Fun.binds{x qual:Str}{st:Stmt}{f:Addr}{fd:FuncData}{ps:List Str}(F:Fun K x qual st f fd)
  (h:∀(kV doc pm:Value) (an:Option Addr) (cdv ct:Value) (us:List Value),us.length=ps.length→bindArgs (PySem.W.fnOf x qual (SM st) (Qw st) (Af st) .none kV doc pm an cdv ct) ⟨us,[]⟩=pure (ps.zip us)):Binds K fd ps []:=by
 obtain⟨oc,od,kV,doc,pm,an,cdv,ct,osl,rfl,lk,hcd⟩:=F.ex
 exact .all (h kV doc pm an cdv ct)
theorem Aed{x qual:Str}{st:Stmt}{f:Addr}{oc:Value}{od an:Option Addr}{osl:Array (Option Value)}{kV doc pm cdv ct:Value}(l:K.lookup f=some ⟨oc,od,.func (PySem.W.fnOf x qual (SM st) (Qw st) (Af st) .none kV doc pm an cdv ct),osl⟩)
  (c:PySem.W.codeIn K cdv qual=true) (k:PySem.W.keepIn K (.ref f)=true):Fun K x qual st f (PySem.W.fnOf x qual (SM st) (Qw st) (Af st) .none kV doc pm an cdv ct):=⟨⟨oc,od,kV,doc,pm,an,cdv,ct,osl,rfl,l,c⟩,k⟩
end
section
variable {X:Cx}
theorem pv(i:Nat){x:Str}{pos:Pos}(hN:X.N[i]?=some x:=by rfl)(hv:Vis X.env.scope x:=by first | exact Or.inl rfl | exact Or.inr (Or.inl rfl) | exact Or.inr (Or.inr rfl))(hd:(x == ("__debug__" : Str))=false:=by decide)
  (hcd:(x == ("__classdict__" : Str))=false:=by decide):PE X (.Name x pos) (Aon i):=AmU hN hv hd hcd
end
theorem Rk{A B:Prop}(h:B):if false=true then A else B:=by
 rw[if_neg Ar2]
 exact h
theorem Px{A B:Prop}(h:A):if true=true then A else B:=by
 rw[if_pos rfl]
 exact h
theorem Uj{c A B:Prop}[Decidable c](hc:c)(h:B):if (!decide c)=true then A else B:=by
 rw[decide_eq_true hc]
 exact Rk h
def Bg (H H':Hp):Prop:=∀ b o,H b=some o→H' b=some o
theorem Bg.refl(H:Hp):Bg H H:=fun _ _ h=>h
theorem Bg.trans{H H1 H2:Hp}(a:Bg H H1)(b:Bg H1 H2):Bg H H2:=fun c o h=>b c o (a c o h)
theorem Bg.free{H H':Hp}(e:Bg H H'){l:Addr}(h:H' l=Option.none):H l=Option.none:=by
 cases q:H l with
 | none=>rfl
 | some o =>
  rw[e l o q] at h
  cases h
theorem Bg.seq{K:PySem.W.Frag}{H H':Hp}{a:Addr}{xs:List V}(e:Bg H H')(h:SqL K H a xs):SqL K H' a xs:=by
 rcases h with (h | ⟨o,h⟩) | h
 ·exact .inl (.inl (e _ _ h))
 ·exact .inl (.inr ⟨o,e _ _ h⟩)
 ·exact .inr h
open PySem PySem.Spec PyProof.Rows
theorem R6{scope:Scope}{env:Env}(h:∀ y∈scope.names,y.2=.free→∃ c,env.cells.lookup y.1=some c) :
  ∃ cl,closureFor scope env=pure cl∧(∀ x c,cl.lookup x=some c→env.cells.lookup x=some c∧(x,NameKind.free)∈scope.names) ∧
   ∀ x,(x,NameKind.free)∈scope.names→cl.lookup x=env.cells.lookup x:=by
 have key:∀(l:List (Str × NameKind)) (cs:List (Str × Addr)),(∀ y∈l,y.2=.free→∃ c,env.cells.lookup y.1=some c) →
   ∃ cl,(forIn l cs (fun(x:Str × NameKind) (cs:List (Str × Addr))=>do
     if x.2 == .free then
      let c ← cellOf env x.1
      pure (ForInStep.yield ((x.1,c)::cs))
     else pure (ForInStep.yield cs)):Sem (List (Str × Addr)))=pure cl ∧
    (∀ x c,cl.lookup x=some c→(env.cells.lookup x=some c∧(x,NameKind.free)∈l)∨cs.lookup x=some c) ∧
    ∀ x,((x,NameKind.free)∈l→cl.lookup x=env.cells.lookup x)∧((cs.lookup x=env.cells.lookup x)→cl.lookup x=env.cells.lookup x):=by
  intro l
  induction l with
  | nil=>intro cs _;exact⟨cs,rfl,fun x c e=>.inr e,fun x=>⟨fun z=>absurd z (by simp),fun z=>z⟩⟩
  | cons y r ih =>
   intro cs hl
   obtain⟨n,k⟩:=y
   by_cases hk:k=.free
   ·subst hk
    obtain⟨c,hc⟩:=hl (n,.free) ArD rfl
    obtain⟨cl,e1,e2,e3⟩:=ih ((n,c)::cs) fun y hy=>hl y (ArF _ hy)
    refine⟨cl,?_,fun x d e=>?_,fun x=>⟨fun z=>?_,fun z=>?_⟩⟩
    ·rw[As6]
     simp only [beq_self_eq_true,if_true,cellOf,hc]
     exact e1
    ·rcases e2 x d e with ⟨z1,z2⟩ | z
     ·exact .inl ⟨z1,ArF _ z2⟩
     ·rw[ArK] at z
      by_cases hx:x == n
      ·rw[hx] at z
       have hx':x=n:=by simpa using hx
       subst hx'
       refine .inl ⟨?_,ArD⟩
       rw[hc];exact z
      ·have hx':(x == n)=false:=by simpa using hx
       rw[hx'] at z
       exact .inr z
    ·rcases List.mem_cons.mp z with z | z
     ·injection z with z1 _
      subst z1
      refine(e3 x).2 ?_
      rw[ArK,hc]
      simp
     ·exact(e3 x).1 z
    ·by_cases hx:x=n
     ·subst hx
      refine(e3 x).2 ?_
      rw[ArK,hc]
      simp
     ·refine(e3 x).2 ?_
      rw[ArK]
      have hx':(x == n)=false:=by simpa using hx
      rw[hx']
      exact z
   ·obtain⟨cl,e1,e2,e3⟩:=ih cs fun y hy=>hl y (ArF _ hy)
    have hb:(k == NameKind.free)=false:=by simpa using hk
    refine⟨cl,?_,fun x d e=>?_,fun x=>⟨fun z=>?_,(e3 x).2⟩⟩
    ·rw[As6]
     simp only [hb,Bool.false_eq_true,if_false]
     exact e1
    ·rcases e2 x d e with ⟨z1,z2⟩ | z
     ·exact .inl ⟨z1,ArF _ z2⟩
     ·exact .inr z
    ·rcases List.mem_cons.mp z with z | z
     ·injection z with _ z2
      exact absurd z2.symm hk
     ·exact(e3 x).1 z
 obtain⟨cl,e1,e2,e3⟩:=key scope.names [] h
 refine⟨cl,?_,fun x c e=>?_,fun x z=>(e3 x).1 z⟩
 ·unfold closureFor
  have:=e1
  simpa using this
 ·rcases e2 x c e with z | z
  ·exact z
  ·simp at z
theorem DG{env:Env}(hk:env.scope.kind=.function):∀{names:List (Str × NameKind)} {x:Str} {k:NameKind},names.lookup x=some k→k≠.free →
  (names.map fun(n,k)=>if (k == NameKind.free && env.scope.kind == .function && env.kindOf n == some .cell) then (n,NameKind.cell) else (n,k)).lookup x=some k
 | [],_,_,h,_=>by simp at h
 | (n,k')::r,x,k,h,hf=>by
  have ih:=@DG env hk r x k
  show List.lookup x ((if (k' == NameKind.free && env.scope.kind == .function && env.kindOf n == some .cell)=true then (n,NameKind.cell) else (n,k'))::_)=_
  cases hx:x == n with
  | true =>
   simp only [ArK,hx] at h
   cases h
   have:(k' == NameKind.free)=false:=by simpa using hf
   simp[ArK,hx,this]
  | false =>
   simp only [ArK,hx] at h
   by_cases hc:(k' == NameKind.free && env.scope.kind == .function && env.kindOf n == some .cell)=true
   ·rw[if_pos hc];simp only [ArK,hx];exact ih h hf
   ·rw[if_neg hc];simp only [ArK,hx];exact ih h hf
theorem Io{env:Env}(hk:env.scope.kind=.function):∀{names:List (Str × NameKind)} {x:Str},names.lookup x=some .free→env.kindOf x=some .cell →
  (names.map fun(n,k)=>if (k == NameKind.free && env.scope.kind == .function && env.kindOf n == some .cell) then (n,NameKind.cell) else (n,k)).lookup x=some .cell
 | [],_,h,_=>by simp at h
 | (n,k')::r,x,h,hc=>by
  have ih:=@Io env hk r x
  show List.lookup x ((if (k' == NameKind.free && env.scope.kind == .function && env.kindOf n == some .cell)=true then (n,NameKind.cell) else (n,k'))::_)=_
  cases hx:x == n with
  | true =>
   simp only [ArK,hx] at h
   cases h
   have hxn:x=n:=by simpa using hx
   subst hxn
   simp[ArK,hk,hc]
  | false =>
   simp only [ArK,hx] at h
   by_cases hd:(k' == NameKind.free && env.scope.kind == .function && env.kindOf n == some .cell)=true
   ·rw[if_pos hd];simp only [ArK,hx];exact ih h hc
   ·rw[if_neg hd];simp only [ArK,hx];exact ih h hc
def Js (X:Cx)(Nc:List Str)(scope:Scope)(cl:List (Str × Addr))(C:Addr)(fp:List Addr)(s:Shared)(H:Hp):Cx where
 prog:=X.prog
 w:=X.w
 K:=X.K
 mg:=X.mg
 base:=X.base
 A:=X.A
 N:=Nc
 s₀:=s
 H₀:=H
 env:=compEnvC scope cl C X.env
 outer:=X.stack
 stack:=X.stack
 ex:=fp
 fn:=fun _=>false
 calm:=X.calm
 pn:=[]
 xe:=fun _ _=>False
def Ig (σ:St)(Bp:List Nat):St:=Bp.map fun j=>(σ[j]?).join
structure DK (X:Cx) (x:Str) (Nc:List Str) (Bp:List Nat) (scope:Scope):Prop where
 kind:scope.kind=.function
 cell:∀ y∈scope.names,y.2≠.cell
 names:∀ y∈scope.names,y.2=.local→scope.names.lookup y.1=some .local
 fr:∀ y∈scope.names,y.2=.free→X.env.scope.names.lookup y.1=some .cell∧scope.names.lookup y.1=some .free
 loc:scope.names.lookup x=some .local
 len:Nc.length=Bp.length+1
 hd:Nc[0]?=some x
 nd:Nc.Nodup
 cap:∀ k j,Bp[k]?=some j→∃ y,Nc[k+1]?=some y∧X.N[j]?=some y∧scope.names.lookup y=some .free
theorem Rm{prog:Program}{w:World}{A:Around}{R:Result→Shared→Prop}{s:Shared}{elt target iter:Expr}{ifs:List Expr}{scope:Scope}{pos:Pos}{it acc:Value}{env:Env}(I:Nat→Shared→Prop)
  (turn:∀ n s,I n s→wpAny (model prog w) A (pyNext it) (fun r s₁=>match r with
   | none=>R (.ok .next) s₁
   | some v=>wpAny (model prog w) A (letOwnedTupleGo target it v) (fun _ s1'=>wpAny (model prog w) A (assign target env v) (fun _ s₂ =>
     wpAny (model prog w) A (forIn ifs true fun c r=>if r=true then do let ok ← isTrue c env (eval c env);pure (ForInStep.yield ok) else pure (ForInStep.yield r)) (fun ok s₃ =>
      if ok=true then wpAny (model prog w) A (eval elt env) (fun x s₄ =>
       wpAny (model prog w) A (call (.builtin "list.append") [acc,x]) (fun _ s₅=>∃ m,m<n∧I m s₅) (notedBy (model prog w) A env fun e s'=>R (.error e) s') s₄) (notedBy (model prog w) A env fun e s'=>R (.error e) s') s₃
      else ∃ m,m<n∧I m s₃) (notedBy (model prog w) A env fun e s'=>R (.error e) s') s₂) (notedBy (model prog w) A env fun e s'=>R (.error e) s') s1') (notedBy (model prog w) A env fun e s'=>R (.error e) s') s₁) (notedBy (model prog w) A env fun e s'=>R (.error e) s') s)
  (n:Nat) (h:I n s) :
  codeAny (model prog w) A (.compLoop (.ListComp elt [⟨target,iter,ifs,0⟩] scope pos) 0 it acc env) R s:=by
 refine codeAny_loop rfl I (fun n s hI=>?_) n h
 show wpAny _ A ((compTurn (.ListComp elt [⟨target,iter,ifs,0⟩] scope pos) 0 it acc env).onRaise (fun x=>do noteFrame x env;theTreesLotGoes x)) _ _ s
 refine wpAny_noted ?_
 rw[compTurn_list]
 refine wpAny_bind (wpAny_standAt (wpAny_bind (wpAny_mono (turn n s hI) (fun r s₁ h₁=>?_) fun _ _ h'=>h')))
 cases r with
 | none=>exact wpAny_pure h₁
 | some v =>
  refine wpAny_bind (wpAny_mono h₁ (fun _ s1' h₁=>?_) fun _ _ h'=>h')
  refine wpAny_bind (wpAny_mono h₁ (fun _ s₂ h₂=>wpAny_bind (wpAny_mono h₂ (fun ok s₃ h₃=>?_) fun _ _ h'=>h')) fun _ _ h'=>h')
  cases ok with
  | false=>exact wpAny_pure ⟨rfl,h₃⟩
  | true =>
   exact wpAny_bind (wpAny_bind (wpAny_mono h₃ (fun x s₄ h₄=>wpAny_bind (wpAny_mono h₄ (fun _ s₅ h₅=>wpAny_pure (wpAny_pure ⟨rfl,h₅⟩)) fun _ _ h'=>h')) fun _ _ h'=>h'))
def Aee:TT:=fun _ H Q=>Q true H
inductive PIf (X:Cx):List Expr→TT→Prop where
 | nil:PIf X [] Aee
 | one {c:Expr} {t:TT} (h:PT X c t):PIf X [c] t
theorem PIf.run{X:Cx}{ifs:List Expr}{t:TT}(h:PIf X ifs t){pins:List (Addr × Obj)}{s:Shared}{σ:St}{H:Hp}{Q:Bool→Hp→Prop}(I:Inv X pins σ H s)(ht:t σ H Q) :
  wpAny (model X.prog X.w) X.A (forIn ifs true fun c r=>if r=true then do let ok ← isTrue c X.env (eval c X.env);pure (ForInStep.yield ok) else pure (ForInStep.yield r)) (TP X pins σ Q) X.xe s:=by
 cases h with
 | nil=>exact wpAny_tests_nil ⟨H,I,ht⟩
 | one h=>exact wpAny_tests_one (h pins s σ H Q I ht)
def VM (Bp:List Nat)(tc:TT)(te:TE)(J:It)(σ:St)(H:Hp)(Q:VK):Prop :=
 ∃ W:Nat→Nat→List V→Hp→Prop,(∃ m,W 0 m [] H)∧∀ i m ys H,W i m ys H →
  (J.stop i H∧ys.length≤sizeLine∧∀ p,H p=none→Q (.ref p) (upd H p (.lst ys))) ∨
  (J.go i H∧ys.length<sizeLine∧∀ x H',J.yld i H x H'→tc (some x::Ig σ Bp) H' fun b H2 =>
   if b=true then te (some x::Ig σ Bp) H2 fun y H3=>∃ m',m'<m∧W (i+1) m' (ys++[y]) H3 else ∃ m',m'<m∧W (i+1) m' ys H2)
def Ah1 (wi:TI)(Bp:List Nat)(tc:TT)(te:TE):TE:=fun σ H Q=>wi σ H fun J H1=>VM Bp tc te J σ H1 Q
section
variable {X:Cx}{pins:List (Addr × Obj)}{σ:St}{H:Hp}{s:Shared}
theorem Un.track{fs ex:List Addr}{H H':Hp}{h h':Heap}{a:Addr}{o:HO}(u:Un fs ex H H' h h')(ha:h.objs.size≤a)(hn:H' a=none):Un fs ex H (upd H' a o) h h' where
 keep:=u.keep
 slot:=u.slot
 free:=fun b ob q n hx=>by rw[Ba (Arw (Ary (Heap.lt_size q) ha))];exact u.free b ob q n hx
 there:=u.there
 tups:=fun b xs q=>by rw[Ba (Bu (u.tups b xs q) hn)];exact u.tups b xs q
 Ri:=fun b ob xs q=>by rw[Ba (Bu (u.Ri b ob xs q) hn)];exact u.Ri b ob xs q
 S9:=fun b ps q=>by
  obtain⟨m,e⟩:=u.S9 b ps q
  exact⟨m,by rw[Ba (Bu e hn)];exact e⟩
theorem HOk.track{P:Program}{w:World}{H:Hp}{h:Heap}{a:Addr}{o:HO}(x:HOk P w H h)(hn:H a=none)(new:Mq P w (upd H a o) h a o):HOk P w (upd H a o) h:=fun b u e=>by
 by_cases hb:b=a
 ·subst hb;rw[Ad] at e;cases e;exact new
 ·rw[Ba hb] at e
  exact(x b u e).stay (fun c v _ q=>q) (fun c q=>by rw[Ba (Bu q hn)];exact q) fun c xs q=>by rw[Ba (Bu q hn)];exact q
theorem AlB{x:Str}{Nc:List Str}{Bp:List Nat}{scope:Scope}{cl:List (Str × Addr)}{C:Addr}{fp:List Addr}(I:Inv X pins σ H s)(O:DK X x Nc Bp scope)
  (hcl:∀ x c,cl.lookup x=some c→X.env.cells.lookup x=some c∧(x,NameKind.free)∈scope.names) (SJ:∀ x,(x,NameKind.free)∈scope.names→cl.lookup x=X.env.cells.lookup x)
  (hC:s.heap.objs.size≤C) (hfp:∀ b∈fp,Ou X pins H b) (hfo:∀ b∈fp,b<s.heap.objs.size):(Js X Nc scope cl C fp s H).Ok where
 mod:=I.ok.mod
 kind:=O.kind
 glob:=I.ok.glob
 blt:=I.ok.blt
 above:=hC
 inj:=fun a b c e1 e2=>I.ok.inj a b c (hcl a c e1).1 (hcl b c e2).1
 has:=fun y hy=>by
  have mem:(y,NameKind.free)∈scope.names:=by
   have hy':((relabel scope X.env).names.lookup y=some .cell)∨((relabel scope X.env).names.lookup y=some .free):=hy
   have hm:∃ k,(y,k)∈(relabel scope X.env).names∧(k=.cell∨k=.free):=by
    rcases hy' with h | h
    ·exact⟨_,PySem.mem_of_lookup h,.inl rfl⟩
    ·exact⟨_,PySem.mem_of_lookup h,.inr rfl⟩
   obtain⟨k,hm,hk⟩:=hm
   obtain⟨⟨n,k'⟩,hm',e⟩:=List.mem_map.mp hm
   dsimp only at e
   by_cases hc:(k' == NameKind.free && X.env.scope.kind == .function && X.env.kindOf n == some .cell)=true
   ·rw[if_pos hc] at e
    injection e with e1 _
    subst e1
    have:k'=.free:=by
     have:=(ArP _ _▸(ArP _ _▸hc).1).1
     simpa using this
    subst this
    exact hm'
   ·rw[if_neg hc] at e
    injection e with e1 e2
    subst e1 e2
    rcases hk with hk | hk
    ·subst hk;exact absurd rfl (O.cell _ hm')
    ·subst hk;exact hm'
  obtain⟨c,e⟩:=I.ok.has y (.inl (O.fr _ mem rfl).1)
  exact⟨c,(SJ y mem).trans e⟩
 cab:=fun _ _ z=>nomatch z
 hd:=I.ok.hd
 frames:=I.ok.frames
 stk:=.inl rfl
 exf:=fun b hb=>⟨Arw (Ary (hfo b hb) hC),fun y c e=>(hfp b hb).2.2.2.2.1 y c (hcl y c e).1⟩
 bs:=I.bs
 bsz:=ArC I.ok.bsz I.sz
 AaU:=fun b o e hb=>by
  rcases(hfp b hb).2.2.2.1 with z | z
  ·exact I.ok.AaU b o e z
  ·exact absurd (Ary (Heap.lt_size e) (ArC I.ok.bsz z)) (Ar8 _)
 Z9:=fun b hb z=>by
  rcases List.mem_cons.mp (I.ZC b z) with e | e
  ·exact(hfp b hb).2.1 e
  ·exact(hfp b hb).2.2.1 e
 VG:=I.stack
 frf:=I.Xa
end
open PySem PySem.Spec PyProof.Rows
section
variable {X:Cx}{pins:List (Addr × Obj)}{σ:St}{H:Hp}{s:Shared}
theorem AbO(σ:St)(Bp:List Nat):(Ig σ Bp).length=Bp.length:=by unfold Ig;rw[Arq]
theorem AbP{σ:St}{Bp:List Nat}{k:Nat}{v:V}(e:(Ig σ Bp)[k]?=some (some v)):∃ j,Bp[k]?=some j∧σ[j]?=some (some v):=by
 unfold Ig at e
 rw[Ar6] at e
 cases hk:Bp[k]? with
 | none=>rw[hk] at e;cases e
 | some j =>
  rw[hk] at e
  have e':(σ[j]?).join=some v:=Option.some.inj e
  refine⟨j,rfl,?_⟩
  cases hj:σ[j]? with
  | none=>rw[hj] at e';cases e'
  | some o=>rw[hj] at e';rw[show o=some v from e']
theorem Un.but{fs ex:List Addr}{H H':Hp}{h h1 h2:Heap}{C:Addr}(u:Un fs ex H H' h h1)(hs:Heap.SameBut C h1 h2)(hC:h.objs.size≤C):Un fs ex H H' h h2 where
 keep:=fun b o q n hb hx=>(hs.2 b (Arw (Ary (Heap.lt_size q) hC))).trans (u.keep b o q n hb hx)
 slot:=fun b o q n hb hx=>by
  obtain⟨sl,e⟩:=u.slot b o q n hb hx
  exact⟨sl,(hs.2 b (Arw (Ary (Heap.lt_size q) hC))).trans e⟩
 free:=u.free
 there:=fun b o q hx=>by
  obtain⟨o',e⟩:=u.there b o q hx
  exact⟨o',(hs.2 b (Arw (Ary (Heap.lt_size q) hC))).trans e⟩
 tups:=u.tups
 Ri:=u.Ri
 S9:=u.S9
theorem AbQ{x:Str}{Nc:List Str}{Bp:List Nat}{scope:Scope}{cl:List (Str × Addr)}{C:Addr}{fp:List Addr}{h':Heap}{tk:Nat}{m0:Str→Option Value}(I:Inv X pins σ H s)(O:DK X x Nc Bp scope)
  (hcl:∀ x c,cl.lookup x=some c→X.env.cells.lookup x=some c∧(x,NameKind.free)∈scope.names) (SJ:∀ x,(x,NameKind.free)∈scope.names→cl.lookup x=X.env.cells.lookup x)
  (hC:s.heap.objs.size≤C) (hfp:∀ b∈fp,Ou X pins H b) (hfo:∀ b∈fp,b<s.heap.objs.size)
  (old:∀ b o,s.heap.get? b=some o→h'.get? b=some o) (hns:h'.Ns C m0) :
  Inv (Js X Nc scope cl C fp s H) [] (none::Ig σ Bp) H { s with heap:=h',toks:=tk } where
 ok:=AlB I O hcl SJ hC hfp hfo
 os:=rfl
 bare:=I.bare
 base:=Un.kept old
 loc:=by
  refine⟨m0,hns,fun i y v hN hσ hv=>?_⟩
  cases i with
  | zero=>simp at hσ
  | succ k =>
   rw[Asw] at hσ
   obtain⟨j,hj,hs⟩:=AbP hσ
   obtain⟨z,hz1,hz2,hz3⟩:=O.cap k j hj
   have hN':Nc[k+1]?=some y:=hN
   rw[hz1] at hN'
   cases hN'
   have mem:(y,NameKind.free)∈scope.names:=PySem.mem_of_lookup hz3
   have hk:=(O.fr _ mem rfl).1
   obtain⟨m,hn,hl⟩:=I.loc
   obtain⟨u,r,l⟩:=hl j y v hz2 hs (.inr (.inl hk))
   refine⟨u,r,?_⟩
   rcases l with ⟨k',_⟩ | ⟨_,c,hc,z⟩
   ·have k'':X.env.scope.names.lookup y=some .local:=k'
    rw[hk] at k'';cases k''
   ·obtain⟨o,ho,hd⟩:=z
    exact .inr ⟨.inl (Io I.ok.kind hz3 hk),c,(SJ y mem).trans hc,o,old _ _ ho,hd⟩
 cell:=fun y c e=>by
  obtain⟨v,o,ho,hd⟩:=I.cell y c (hcl y c e).1
  exact⟨v,o,old _ _ ho,hd⟩
 free:=I.hok.fresh hC
 Q7:=fun y c e=>I.Q7 y c (hcl y c e).1
 pin:=fun p hp=>absurd (show p∈([]:List (Addr × Obj)) from hp) (by simp)
 hok:=I.hok.kept old
 len:=by
  show(none::Ig σ Bp).length=Nc.length
  rw[Ars,AbO,O.len]
abbrev Ks (us:List Value) (n:Nat):Obj:={ cls:=.type "list", data:=.seq us.toArray n }
theorem Dy{X:Cx}{sc0 scope:Scope}(h:X.env.scope=sc0)(hd:∀ y∈scope.names,y.2=.free→sc0.names.lookup y.1=some .cell∧scope.names.lookup y.1=some .free) :
  ∀ y∈scope.names,y.2=.free→X.env.scope.names.lookup y.1=some .cell∧scope.names.lookup y.1=some .free:=by
 rw[h]
 exact hd
theorem AbR{x:Str}{px:Pos}{Nc:List Str}{Bp:List Nat}{scope:Scope}{cl:List (Str × Addr)}{iter elt:Expr}{ifs:List Expr}{pos:Pos}{tc:TT}{te:TE}{Q:VK}{it:Addr}{fp:List Addr}{tn:Nat→Heap→Prop}{J:It}
  {RR:Value→Addr→Result→Shared→Prop}{E:Value→Shared→Prop}
  (O:DK X x Nc Bp scope) (hc:X.calm=true)
  (hcl:∀ x c,cl.lookup x=some c→X.env.cells.lookup x=some c∧(x,NameKind.free)∈scope.names) (SJ:∀ x,(x,NameKind.free)∈scope.names→cl.lookup x=X.env.cells.lookup x)
  (hte:∀ C fp s H,PE (Js X Nc scope cl C fp s H) elt te) (htc:∀ C fp s H,PIf (Js X Nc scope cl C fp s H) ifs tc)
  (I:Inv X pins σ H s) (T:Turn X.prog X.w X.K (.Name x px) J fp it tn) (st:tn 0 s.heap) (hfp:∀ b∈fp,Ou X pins H b) (h:VM Bp tc te J σ H Q)
  (hRR:∀(D C:Addr) (s':Shared) (m:Str→Option Value),s'.heap.Ns C m→(∀ h',Heap.SameBut C s'.heap h'→∃ H',Inv X pins σ H' { s' with heap:=h' }∧H' C=none∧Q (.ref D) H') →
   s.heap.objs.size≤C→RR (.ref D) C (.ok .next) s') :
  wpAny (model X.prog X.w) X.A (newList []) (fun acc s₃=>wpAny (model X.prog X.w) X.A (newFunctionEnv scope X.env.globals cl [] X.env.qual none .none (some X.env)) (fun cenv s₄ =>
   codeAny (model X.prog X.w) X.A (.compStart (.ListComp elt [⟨.Name x px,iter,ifs,0⟩] scope pos) 0 (.ref it) acc { cenv with scope:=relabel scope X.env }) (RR acc cenv.locals) s₄) E s₃) E s:=by
 refine wpAny_newObj_type (wpAny_newFunctionEnv O.cell (by intro y hy;simp at hy) (fun h₁ hns₁ hsb₁=>?_) O.kind)
 dsimp only at hns₁ hsb₁ ⊢
 generalize hH2:s.heap.push { cls:=.type "list", dict:=none,data:=.seq ([]:List Value).toArray }=H2 at hns₁ hsb₁ ⊢
 have hC:H2.objs.size=s.heap.objs.size+1:=by rw[← hH2,Heap.size_push]
 have hCle:s.heap.objs.size≤H2.objs.size:=by rw[hC];exact ArZ _
 have hDC:s.heap.objs.size≠H2.objs.size:=by rw[hC];exact Arw (Asf _)
 have below:∀ b,b<s.heap.objs.size→b≠H2.objs.size∧b≠s.heap.objs.size:=fun b hb=>⟨by rw[hC];exact Arw (Asx hb),Arw hb⟩
 have old:∀ b o,s.heap.get? b=some o→h₁.get? b=some o:=fun b o e=>hsb₁.extBut b o (below b (Heap.lt_size e)).1 (Heap.get?_push_of_some _ (hH2▸Heap.get?_push_of_some _ e))
 have hacc:h₁.get? s.heap.objs.size=some (Ks [] 0):=hsb₁.extBut _ _ hDC (Heap.get?_push_of_some _ (hH2▸Heap.get?_push_size _ rfl))
 have hfo:∀ b∈fp,b<s.heap.objs.size:=fun b hb=>by
  obtain⟨o,e,_⟩:=T.obj _ _ st b hb
  exact Heap.lt_size e
 have st1:tn 0 h₁:=T.keep _ _ _ st fun b _ o e=>old b o e
 generalize hDD:s.heap.objs.size=D at *
 generalize hCC:H2.objs.size=C at *
 have Afl:D≤C:=hCle
 let Y:Cx:=Js X Nc scope cl C fp s H
 have I0:Inv Y [] (none::Ig σ Bp) H { s with heap:=h₁,toks:=s.toks+([]:List (Str × Value)).length }:=AbQ I O hcl SJ (by rw[hDD];exact hCle) hfp (fun b hb=>by rw[hDD];exact hfo b hb) old hns₁
 have AbS:H D=none:=by rw[← hDD];exact I.hok.fresh (Art _)
 have U5:D≠C:=hDC
 have Dfs:D∉Y.fs:=fun z=>by
  have:=I.stack.mem (show D∈frs X.stack from z)
  obtain⟨_,o,e,_⟩:=this
  have:=Heap.lt_size e
  rw[hDD] at this
  exact Ar8 _ this
 have AbT:∀ y c,Y.env.cells.lookup y=some c→c≠D:=fun y c e z=>by
  obtain⟨v,q⟩:=I.cell y c (hcl y c e).1
  have:=q.lt
  rw[z,hDD] at this
  exact Ar8 _ this
 have Dfp:∀ b∈fp,b≠D:=fun b hb=>Arw (hfo b hb)
 have fpY:∀{H':Hp},(∀ b∈fp,H' b=none)→∀ b∈fp,Ou Y [] H' b:=fun hn b hb =>
  ⟨hn b hb,Arw (Ary (hfo b hb) Afl),fun z=>I0.ok.Z9 b hb z,.inl hb,fun y c e=>(I0.ok.exf b hb).2 y c e,fun p hp=>absurd (show p∈([]:List (Addr × Obj)) from hp) (by simp)⟩
 obtain⟨W,⟨m0,w0⟩,turn⟩:=h
 have loop:∀ s₃:Shared,s₃={ s with heap:=h₁,toks:=s.toks+([]:List (Str × Value)).length } →
   codeAny (model X.prog X.w) X.A (.compLoop (.ListComp elt [⟨.Name x px,iter,ifs,0⟩] scope pos) 0 (.ref it) (.ref D) (compEnvC scope cl C X.env)) (RR (.ref D) C) s₃:=by
  rintro s₃ rfl
  refine Rm (fun n s'=>∃(i:Nat) (o:Option V) (H':Hp) (ys:List V) (us:List Value) (k:Nat),Inv Y [] (o::Ig σ Bp) H' s'∧tn i s'.heap∧(∀ b∈fp,H' b=none)∧s'.heap.get? D=some (Ks us k)∧H' D=none∧Vals ys us∧W i n ys H')
   ?_ m0 ⟨0,none,H,[],[],0,I0,st1,fun b hb=>(hfp b hb).1,hacc,AbS,.nil,w0⟩
  rintro n s3 ⟨i,o3,H3,ys,us,k,I3,st3,fr3,hD3,nD3,rv,w3⟩
  have fpP:∀{H':Hp} {ob:Obj},(∀ b∈fp,H' b=none)→∀ b∈fp,Ou Y [(D,ob)] H' b:=fun hn b hb=>by
   obtain⟨g0,g1,g2,g3,g4,_⟩:=fpY hn b hb
   refine⟨g0,g1,g2,g3,g4,fun p hp=>?_⟩
   have e:p=(D,_):=List.mem_singleton.mp (show p∈[(D,_)] from hp)
   rw[e]
   exact Ne.symm (Dfp b hb)
  have IP:Inv Y [(D,Ks us k)] (o3::Ig σ Bp) H3 s3:=I3.JX fun p hp=>by
   have e:p=(D,Ks us k):=List.mem_singleton.mp hp
   subst e
   exact⟨hD3,nD3,U5,Dfs,fun v z=>by cases z⟩
  have XS:∀{σ':St} {H':Hp} {s':Shared} {pl:List (Addr × Obj)},Inv Y ([(D,Ks us k)]++pl) σ' H' s'→s'.heap.get? D=some (Ks us k)∧H' D=none:=fun I'=>by
   have z:=I'.pin (D,Ks us k) (ArA _ (Asr _ ArD))
   exact⟨z.1,z.2.1⟩
  rcases turn i n ys H3 w3 with ⟨stop,hlen,fin⟩ | ⟨go,hlen,step⟩
  ·
   refine wpAny_mono (T.done Y rfl rfl rfl hc i _ s3 _ H3 (fun _ _=>False) IP (fpP fr3) st3 stop) (fun r s4 hr=>?_) fun _ _ z=>z.elim
   obtain⟨hr,I4⟩:=hr
   subst hr
   obtain⟨gD,nD⟩:=XS (pl:=[]) (by simpa using I4)
   obtain⟨m,hn,_⟩:=I4.loc
   refine hRR D C s4 m hn (fun h' hs'=>⟨upd H3 D (.lst ys),?_,(Ba (Ne.symm U5)).trans I4.free,fin D nD⟩) hCle
   have nt:∀ b ob,H3 b=some ob→b≠C:=fun b ob e z=>by
    have:=I4.free
    rw[z] at e
    rw[show H3 C=none from this] at e
    cases e
   have u1:Un (frs X.stack) fp H H3 s.heap h':=Un.but I4.base hs' (show s.heap.objs.size≤C by rw[hDD];exact hCle)
   have ok1:HOk X.prog X.w H3 h':=fun b ob e=>(I4.hok b ob e).stay (fun c v hc q=>(hs'.2 c (by
    rcases hc with z | z
    ·rw[z];exact nt b ob e
    ·exact nt c _ z)).trans q) (fun _ q=>q) fun _ _ q=>q
   have gD':h'.get? D=some (Ks us k):=(hs'.2 D U5).trans gD
   exact I.call' (s':={ s4 with heap:=h' }) (ch:=fp) I4.os (u1.track (ArW hDD) nD) (ok1.track nD ⟨hlen,us,k,rv,gD'⟩) I4.bare fun b hb=>by
    obtain⟨_,g1,_,g3,g4,g5⟩:=hfp b hb
    exact⟨g3,g1,g4,g5⟩
  ·
   refine wpAny_mono (T.item Y rfl rfl rfl hc i _ s3 _ H3 (fun _ _=>False) IP (fpP fr3) st3 go) (fun r s4 hr=>?_) fun _ _ z=>z.elim
   obtain⟨u0,hr,h4⟩:=hr
   subst hr
   refine wpAny_mono h4 (fun _ s5 h5=>?_) fun _ _ z=>z.elim
   obtain⟨x5,H5,I5,r5,y5,st5,fr5⟩:=h5
   have I5':=I5.pinned (fpP fr5) (T.obj _ _ st5)
   have tgt:PG Y (.Name x px) (R1 0):=Dq (i:=0) O.nd O.hd (.inl (DG I.ok.kind O.loc (by intro z;cases z))) (.inr (DG I.ok.kind O.loc (by intro z;cases z)))
   refine wpAny_mono (tgt _ s5 _ H5 x5 u0 (fun σ2 H2=>σ2=some x5::Ig σ Bp∧H2=H5) I5' r5 ⟨rfl,rfl⟩) (fun _ s6 h6=>?_) fun _ _ z=>z.elim
   obtain⟨_,_,I6,rfl,rfl⟩:=h6
   refine wpAny_mono ((htc C fp s H).run I6 (step x5 _ y5)) (fun b s7 h7=>?_) fun _ _ z=>z.elim
   obtain⟨H7,I7,q7⟩:=h7
   have VN:∀{σ':St} {H':Hp} {s':Shared},Inv Y ([(D,Ks us k)]++VH fp s5.heap) σ' H' s'→tn (i+1) s'.heap∧∀ b∈fp,H' b=none:=fun I' =>
    ⟨T.keep _ _ _ st5 fun b hb o e=>(I'.pin (b,o) (ArA _ (ArA _ (Ie hb e)))).1,fun b hb=>by
     obtain⟨o,e,d⟩:=T.obj _ _ st5 b hb
     exact(I'.pin (b,o) (ArA _ (ArA _ (Ie hb e)))).2.1⟩
   cases b with
   | false =>
    rw[if_neg Ar2] at q7
    rw[if_neg Ar2]
    obtain⟨m',hm,w7⟩:=q7
    obtain⟨gD,nD⟩:=XS I7
    obtain⟨k1,k2⟩:=VN I7
    exact⟨m',hm,i+1,some x5,H7,ys,us,k,I7.JX (fun p hp=>nomatch hp),k1,k2,gD,nD,rv,w7⟩
   | true =>
    rw[if_pos rfl] at q7
    rw[if_pos rfl]
    refine wpAny_mono (hte C fp s H _ s7 _ H7 _ I7 q7) (fun u8 s8 h8=>?_) fun _ _ z=>z.elim
    obtain⟨y8,H8,I8,r8,m',hm,w8⟩:=h8
    obtain⟨gD,nD⟩:=XS I8
    obtain⟨k1,k2⟩:=VN I8
    refine call_meets F.slot_list_append ⟨_,gD,rfl⟩ F.entry_list_append (F.args_list_append_2 _ _) (PySem.list_append D us.toArray k u8 (by rw[Ar0,← rv.length];omega)) ⟨gD,?_⟩
    have q:=PySem.IsL.update gD (·.push u8)
    have e1:us.toArray.push u8=(us++[u8]).toArray:=by simp
    rw[e1] at q
    have I8':Inv Y [] (some x5::Ig σ Bp) H8 s8:=I8.JX (fun p hp=>nomatch hp)
    have I9:Inv Y [] (some x5::Ig σ Bp) H8 { s8 with heap:=s8.heap.update D (Obj.mapSeq (·.push u8)),toks:=s8.toks } :=
     I8'.turned (it:=D) (fun b o hb e=>(Heap.get?_update_other s8.heap (Obj.mapSeq (·.push u8)) (Ne.symm hb)).trans e) nD U5 (.inr (ArW hDD)) AbT (fun p hp=>nomatch hp)
    refine⟨m',hm,i+1,some x5,H8,ys++[y8],us++[u8],_,I9,T.keep _ _ _ k1 fun b hb o e=>(Heap.get?_update_other s8.heap (Obj.mapSeq (·.push u8)) (Ne.symm (Dfp b hb))).trans e,k2,q,nD,rv.append (.cons r8 .nil),w8⟩
 exact codeAny_compStart_list (loop _ rfl) (T.self X.A 0 _ _ _ st1 (loop _ rfl))
theorem Gq{x:Str}{px pos:Pos}{Nc:List Str}{Bp:List Nat}{scope:Scope}{iter elt:Expr}{ifs:List Expr}{wi:TI}{tc:TT}{te:TE}(O:DK X x Nc Bp scope)(hc:X.calm=true)(hi:PI X (.Name x px) iter wi)
  (htc:∀ cl C fp s H,PIf (Js X Nc scope cl C fp s H) ifs tc) (hte:∀ cl C fp s H,PE (Js X Nc scope cl C fp s H) elt te) (hs:∀ x,foldedSetIterable iter X.env x=pure x:=by intro _;rfl) :
  PE X (.ListComp elt [⟨.Name x px,iter,ifs,0⟩] scope pos) (Ah1 wi Bp tc te):=by
 intro pins s σ H Q I h
 rw[eval_ListComp]
 obtain⟨cl,e1,e2,e3⟩:=R6 (scope:=scope) (env:=X.env) fun y hy hf=>I.ok.has y.1 (.inl (O.fr y hy hf).1)
 refine wpAny_comprehension_free (use:=none) rfl hs e1 O.kind O.names (thn (hi pins s σ H _ I h) fun v s1 h1=>thn h1 fun itv s2 h2=>?_)
 obtain⟨it,fp,tn,J,H2,e,I2,T,st2,f2,w2⟩:=h2
 subst e
 refine AbR (RR:=fun acc C=>compPost (model X.prog X.w) X.A X.xe none (EP X pins σ Q) acc C) O hc e2 e3 (hte cl) (htc cl) I2 T st2 f2 w2 ?_
 intro D C s' m hn hq hC
 refine⟨m,hn,fun h' hs'=>?_⟩
 obtain⟨H',I',_,q⟩:=hq h' hs'
 exact⟨.ref D,H',I',rfl,q⟩
theorem YF{i:Nat}{y x:Str}{px py pos spos:Pos}{Nc:List Str}{Bp:List Nat}{scope:Scope}{iter elt:Expr}{ifs:List Expr}{wi:TI}{tc:TT}{te:TE}(O:DK X x Nc Bp scope)(hc:X.calm=true)
  (hN:X.N.Nodup) (hy:X.N[i]?=some y) (hx:X.env.scope.names.lookup y=some .local) (hi:PI X (.Name x px) iter wi)
  (htc:∀ cl C fp s H,PIf (Js X Nc scope cl C fp s H) ifs tc) (hte:∀ cl C fp s H,PE (Js X Nc scope cl C fp s H) elt te)
  (hsw:swapsWith (.ListComp elt [⟨.Name x px,iter,ifs,0⟩] scope pos) (some (.Name y py)) spos.line X.env=pure true) (hs:∀ x,foldedSetIterable iter X.env x=pure x:=by intro _;rfl) :
  PS X (.Assign [.Name y py] (.ListComp elt [⟨.Name x px,iter,ifs,0⟩] scope pos) spos) (Ags (Ah1 wi Bp tc te) (R1 i)):=by
 intro pins s σ H Dn I h
 rw[exec_Assign_Name_used _ _ _ _ hsw]
 refine wpAny_bind (wpAny_standAt (wpAny_bind ?_))
 obtain⟨cl,e1,e2,e3⟩:=R6 (scope:=scope) (env:=X.env) fun y hy hf=>I.ok.has y.1 (.inl (O.fr y hy hf).1)
 show wpAny _ X.A (do let _ ← comprehension (.ListComp elt [⟨.Name x px,iter,ifs,0⟩] scope pos) scope X.env _ (newList []) false (eval iter X.env) (some (assign (.Name y py) X.env))) _ _ s
 refine wpAny_bind (wpAny_mono (wpAny_comprehension_free (use:=some (assign (.Name y py) X.env)) (Q:=fun _ s'=>SP X pins Dn .next s') rfl hs e1 O.kind O.names
  (thn (hi pins s σ H _ I h) fun v s1 h1=>thn h1 fun itv s2 h2=>?_)) (fun _ s' hq=>wpAny_pure (wpAny_pure hq)) fun _ _ e=>e)
 obtain⟨it,fp,tn,J,H2,e,I2,T,st2,f2,w2⟩:=h2
 subst e
 refine AbR (RR:=fun acc C=>compPost (model X.prog X.w) X.A X.xe (some (assign (.Name y py) X.env)) (fun _ s'=>SP X pins Dn .next s') acc C) O hc e2 e3 (hte cl) (htc cl) I2 T st2 f2 w2 ?_
 intro D C s' m hn hq hC
 show wpAny _ X.A (assign (.Name y py) X.env (.ref D)) _ _ _
 obtain⟨H',I',nC,q⟩:=hq s'.heap (.refl ..)
 have I'':Inv X pins σ H' s':=I'
 have CL:C≠X.env.locals:=ArY (Ary I2.lt hC)
 have AaK:∀ y c,X.env.cells.lookup y=some c→c≠C:=fun y c e z=>by
  obtain⟨v,q⟩:=I2.cell y c e
  have:=Ary q.lt hC
  rw[z] at this
  exact Ar8 _ this
 refine wpAny_assign_Name (Xb I'' hN hy (.inl hx) (show RelV (.ref D) (.ref D) from rfl) (fun s3 I3 hsb=>?_) (.inr hx))
 obtain⟨a,hsb,ha⟩:=hsb
 have aC:C≠a:=by
  rcases ha with z | z
  ·rw[z];exact CL
  ·exact Ne.symm (AaK _ _ z)
 refine⟨m,hn.sameBut hsb aC,fun h4 hs4=>?_⟩
 refine⟨_,H',I3.turned (it:=C) (t':=s3.toks) (fun b o hb e=>(hs4.2 b hb).trans e) nC CL (.inr (ArC I2.sz hC)) AaK (fun p hp z=>?_),q⟩
 ·have:=Ary (Heap.lt_size (I2.pin p hp).1) hC
  rw[z] at this
  exact Ar8 _ this
end
open PySem PySem.Spec PyProof.Rows
def Its (x:Str):It:=⟨fun i _=>i<x.cps.size,fun i H v H'=>H'=H∧∃ c,x.cps[i]?=some c∧v=.str ⟨#[c]⟩,fun i _=>x.cps.size≤i⟩
theorem Aiu{P:Program}{w:World}{K:PySem.W.Frag}{tg:Expr}(it:Addr)(x:Str)(t:Tok):Turn P w K tg (Its x) [it] it (fun i h=>i≤x.cps.size∧h.IsStrIter it "str_ascii_iterator" x t i) where
 mem:=by simp
 obj:=fun i h st b hb=>by
  have e:b=it:=by simpa using hb
  subst e
  obtain⟨_,o,e,c,d⟩:=st
  exact⟨o,e,fun v z=>by rw[d] at z;cases z⟩
 keep:=fun i h h' st k=>by
  obtain⟨hl,o,e,c,d⟩:=st
  exact⟨hl,o,k it (by simp) o e,c,d⟩
 item:=by
  intro X hP hw hK hc i pins s σ H E I hf st hg
  subst hP hw hK
  obtain⟨hl,st⟩:=st
  have hg:i<x.cps.size:=hg
  obtain⟨f0,f1,f2,f3,f4,f5⟩:=hf it (by simp)
  have hx:x.cps[i]?=some x.cps[i]:=by simp[hg]
  refine wpAny_pyNext_ascii_item st hx fun h' st' sb=>?_
  have I1:Inv X pins σ H { s with heap:=h',toks:=s.toks+1 }:=I.turned (fun b o hb e=>(sb.2 b hb).trans e) f0 f1 f3 f4 f5
  obtain⟨o,e,c,d⟩:=id st'
  exact⟨_,rfl,Afe (s:={ s with heap:=h',toks:=s.toks+1 }) e c d (by decide) ⟨.str ⟨#[x.cps[i]]⟩,H,I1,⟨_,rfl⟩,⟨rfl,_,hx,rfl⟩,⟨hg,st'⟩,fun b hb=>(hf b hb).1⟩⟩
 done:=by
  intro X hP hw hK hc i pins s σ H E I hf st hg
  subst hP hw hK
  obtain⟨hl,st⟩:=st
  have hg:x.cps.size≤i:=hg
  obtain⟨f0,f1,f2,f3,f4,f5⟩:=hf it (by simp)
  exact wpAny_pyNext_ascii_end (I.ok.hd hc) st (by simp;omega) fun h' eb=>⟨rfl,I.turned (t':=s.toks) (fun b o hb e=>eb b o hb e) f0 f1 f3 f4 f5⟩
 self:=fun _ _ _ _ _ st h=>wpAny_pyIter_striter_ascii st.2 h
theorem Aiv{P:Program}{w:World}{K:PySem.W.Frag}{tg:Expr}(it:Addr)(x:Str)(t:Tok):Turn P w K tg (Its x) [it] it (fun i h=>i≤x.cps.size∧h.IsStrIter it "str_iterator" x t i) where
 mem:=by simp
 obj:=fun i h st b hb=>by
  have e:b=it:=by simpa using hb
  subst e
  obtain⟨_,o,e,c,d⟩:=st
  exact⟨o,e,fun v z=>by rw[d] at z;cases z⟩
 keep:=fun i h h' st k=>by
  obtain⟨hl,o,e,c,d⟩:=st
  exact⟨hl,o,k it (by simp) o e,c,d⟩
 item:=by
  intro X hP hw hK hc i pins s σ H E I hf st hg
  subst hP hw hK
  obtain⟨hl,st⟩:=st
  have hg:i<x.cps.size:=hg
  obtain⟨f0,f1,f2,f3,f4,f5⟩:=hf it (by simp)
  have hx:x.cps[i]?=some x.cps[i]:=by simp[hg]
  refine wpAny_pyNext_wide_item st hx fun h' st' sb=>?_
  have I1:Inv X pins σ H { s with heap:=h',toks:=s.toks+1 }:=I.turned (fun b o hb e=>(sb.2 b hb).trans e) f0 f1 f3 f4 f5
  obtain⟨o,e,c,d⟩:=id st'
  exact⟨_,rfl,Afe (s:={ s with heap:=h',toks:=s.toks+1 }) e c d (by decide) ⟨.str ⟨#[x.cps[i]]⟩,H,I1,⟨_,rfl⟩,⟨rfl,_,hx,rfl⟩,⟨hg,st'⟩,fun b hb=>(hf b hb).1⟩⟩
 done:=by
  intro X hP hw hK hc i pins s σ H E I hf st hg
  subst hP hw hK
  obtain⟨hl,st⟩:=st
  have hg:x.cps.size≤i:=hg
  obtain⟨f0,f1,f2,f3,f4,f5⟩:=hf it (by simp)
  exact wpAny_pyNext_wide_end (I.ok.hd hc) st (by simp;omega) fun h' eb=>⟨rfl,I.turned (t':=s.toks) (fun b o hb e=>eb b o hb e) f0 f1 f3 f4 f5⟩
 self:=fun _ _ _ _ _ st h=>wpAny_pyIter_striter_wide st.2 h
section
variable {X:Cx}{tg:Expr}
def ApX (tl:TE):TI:=fun σ H R=>tl σ H fun x H1=>∃ z,x=.str z∧R (Its z) H1
theorem U6{l:Expr}{tl:TE}(hl:PE X l tl):PI X tg l (ApX tl):=by
 intro pins s σ H R I h
 refine thn (hl pins s σ H _ I h) fun v s1 ⟨x,H1,I1,r1,q1⟩=>?_
 obtain⟨z,e,q⟩:=q1
 subst e
 obtain⟨t,rfl⟩:=r1
 have fpn:∀ b∈[s1.heap.objs.size],Ou X pins H1 b:=fun b hb=>by
  have e:b=s1.heap.objs.size:=by simpa using hb
  subst e
  exact I1.Agt (Art _) (I1.hok.fresh (Art _))
 cases ha:z.cps.all (·<128)
 ·refine wpAny_pyIter_wide ha ?_
  exact⟨s1.heap.objs.size,[s1.heap.objs.size],_,_,H1,rfl,I1.kept (t':=s1.toks) fun b o e=>Heap.get?_push_of_some _ e,Aiv _ z t,⟨Ar9 _,_,Heap.get?_push_size _ rfl,rfl,rfl⟩,fpn,q⟩
 ·refine wpAny_pyIter_ascii ha ?_
  exact⟨s1.heap.objs.size,[s1.heap.objs.size],_,_,H1,rfl,I1.kept (t':=s1.toks) fun b o e=>Heap.get?_push_of_some _ e,Aiu _ z t,⟨Ar9 _,_,Heap.get?_push_size _ rfl,rfl,rfl⟩,fpn,q⟩
end
theorem Aef{z:Str}{g:TG}{tb:TS}{D:Ends}{σ:St}{H:Hp}(Pv:Nat→St→Hp→Prop)(h0:Pv 0 σ H)
  (hs:∀ i c σ H,z.cps[i]?=some c→Pv i σ H→g (.str ⟨#[c]⟩) σ H fun σ2 H2=>tb { D with nx:=Pv (i+1),ct:=Pv (i+1),bk:=D.nx } σ2 H2) (hd:∀ σ H,Pv z.cps.size σ H→D.nx σ H) :
  ∃ W:Nat→Nat→St→Hp→Prop,(∃ m,W 0 m σ H)∧∀ i m σ H,W i m σ H →
   ((Its z).stop i H∧D.nx σ H)∨((Its z).go i H∧∃ N:St→Hp→Prop,(∀ σ' H',N σ' H'→∃ m',m'<m∧W (i+1) m' σ' H')∧∀ x H',(Its z).yld i H x H'→g x σ H' fun σ2 H2=>tb { D with nx:=N,ct:=N,bk:=D.nx } σ2 H2):=by
 refine⟨fun i m σ H=>m=z.cps.size-i∧i≤z.cps.size∧Pv i σ H,⟨z.cps.size,by simp,Ar9 _,h0⟩,?_⟩
 rintro i m σ H ⟨rfl,hi,p⟩
 by_cases hlt:i<z.cps.size
 ·refine .inr ⟨hlt,Pv (i+1),fun σ' H' p'=>⟨z.cps.size-(i+1),by omega,rfl,hlt,p'⟩,fun x H' y=>?_⟩
  obtain⟨e,c,hc,rfl⟩:=y
  subst e
  exact hs i c σ _ hc p
 ·have e:i=z.cps.size:=by omega
  subst e
  exact .inl ⟨Art _,hd σ H p⟩
def CN (n:Nat)(Pv:Nat→List V→Hp→Prop)(i:Nat)(ys:List V)(H:Hp):Prop:=∃ m',m'<n-i∧m'=n-(i+1)∧i+1≤n∧Pv (i+1) ys H
theorem CN.of{n:Nat}{Pv:Nat→List V→Hp→Prop}{i:Nat}{ys:List V}{H:Hp}(h:i<n)(p:Pv (i+1) ys H):CN n Pv i ys H:=⟨n-(i+1),by omega,rfl,h,p⟩
def Fq (n:Nat)(Pv:Nat→List V→Hp→Prop)(tc:TT)(te:TE)(σ:St)(i:Nat)(ys:List V)(H:Hp):Prop :=
 tc σ H fun b H2=>if b=true then te σ H2 fun y H3=>CN n Pv i (ys++[y]) H3 else CN n Pv i ys H2
theorem Fq.no{n:Nat}{Pv:Nat→List V→Hp→Prop}{te:TE}{σ:St}{i:Nat}{ys:List V}{H:Hp}(h:te σ H fun y H3=>CN n Pv i (ys++[y]) H3):Fq n Pv Aee te σ i ys H:=by
 unfold Fq Aee
 exact Px h
theorem Iv{K:PySem.W.Frag}{a:Addr}{xs:List V}{Bp:List Nat}{tc:TT}{te:TE}{σ:St}{H:Hp}{Q:VK}(Pv:Nat→List V→Hp→Prop)(h0:Pv 0 [] H)(hl:∀ i ys H,i≤xs.length→Pv i ys H→SqL K H a xs∧ys.length≤i)
  (hz:xs.length≤sizeLine) (hs:∀ i x ys H,i<xs.length→xs[i]?=some x→Pv i ys H→Fq xs.length Pv tc te (some x::Ig σ Bp) i ys H)
  (hd:∀ ys H p,Pv xs.length ys H→H p=none→Q (.ref p) (upd H p (.lst ys))):VM Bp tc te (Itl K a) σ H Q:=by
 refine⟨fun i m ys H=>m=xs.length-i∧i≤xs.length∧Pv i ys H,⟨xs.length,by simp,Ar9 _,h0⟩,?_⟩
 rintro i m ys H ⟨rfl,hi,p⟩
 obtain⟨q,hy⟩:=hl i ys H hi p
 by_cases hlt:i<xs.length
 ·refine .inr ⟨⟨xs,xs[i],q,by simp[hlt]⟩,by omega,fun x H' y=>?_⟩
  obtain⟨e,y⟩:=y
  subst e
  exact hs i x ys _ hlt (y xs q) p
 ·have e:i=xs.length:=by omega
  subst e
  exact .inl ⟨⟨xs,q,Art _⟩,by omega,fun p' hp=>hd ys H p' p hp⟩
theorem Kv{lo:Int}{n:Nat}{Bp:List Nat}{tc:TT}{te:TE}{σ:St}{H:Hp}{Q:VK}(Pv:Nat→List V→Hp→Prop)(h0:Pv 0 [] H)(hl:∀ i ys H,i≤n→Pv i ys H→ys.length≤i)
  (hz:n≤sizeLine) (hs:∀ i ys H,i<n→Pv i ys H→Fq n Pv tc te (some (.int (lo+i))::Ig σ Bp) i ys H)
  (hd:∀ ys H p,Pv n ys H→H p=none→Q (.ref p) (upd H p (.lst ys))):VM Bp tc te (Itr lo n) σ H Q:=by
 refine⟨fun i m ys H=>m=n-i∧i≤n∧Pv i ys H,⟨n,by simp,Ar9 _,h0⟩,?_⟩
 rintro i m ys H ⟨rfl,hi,p⟩
 have hy:=hl i ys H hi p
 by_cases hlt:i<n
 ·refine .inr ⟨hlt,by omega,fun x H' y=>?_⟩
  obtain⟨e,y⟩:=y
  subst e y
  exact hs i ys _ hlt p
 ·have e:i=n:=by omega
  subst e
  exact .inl ⟨Art _,by omega,fun p' hp=>hd ys H p' p hp⟩
theorem Uk{z:Str}{Bp:List Nat}{tc:TT}{te:TE}{σ:St}{H:Hp}{Q:VK}(Pv:Nat→List V→Hp→Prop)(h0:Pv 0 [] H)(hl:∀ i ys H,i≤z.cps.size→Pv i ys H→ys.length≤i)
  (hz:z.cps.size≤sizeLine) (hs:∀ i c ys H,i<z.cps.size→z.cps[i]?=some c→Pv i ys H→Fq z.cps.size Pv tc te (some (.str ⟨#[c]⟩)::Ig σ Bp) i ys H)
  (hd:∀ ys H p,Pv z.cps.size ys H→H p=none→Q (.ref p) (upd H p (.lst ys))):VM Bp tc te (Its z) σ H Q:=by
 refine⟨fun i m ys H=>m=z.cps.size-i∧i≤z.cps.size∧Pv i ys H,⟨z.cps.size,by simp,Ar9 _,h0⟩,?_⟩
 rintro i m ys H ⟨rfl,hi,p⟩
 have hy:=hl i ys H hi p
 by_cases hlt:i<z.cps.size
 ·refine .inr ⟨hlt,by omega,fun x H' y=>?_⟩
  obtain⟨e,c,hc,rfl⟩:=y
  subst e
  exact hs i c ys _ hlt hc p
 ·have e:i=z.cps.size:=by omega
  subst e
  exact .inl ⟨Art _,by omega,fun p' hp=>hd ys H p' p hp⟩
theorem Ag1{ys:List Str}:∀{us:List Value},Vals (ys.map V.str) us→StrsAre us ys:=by
 induction ys with
 | nil=>intro us r;rw[ArT] at r;cases r;exact .nil
 | cons n ns ih =>
  intro us r
  rw[Arx] at r
  cases r with
  | cons r1 r2 =>
   obtain⟨t,e⟩:=r1
   subst e
   exact .cons n t (ih r2)
def rJoin(K:PySem.W.Frag):V→List V→Hp→VK→Prop:=fun x vs H Q=>∃ z a ys,x=.str z∧vs=[.ref a]∧SqL K H a (ys.map V.str)∧(ys.map (·.length)).sum+ys.length*z.length≤16777216∧Q (.str (Txt.join z ys)) H
section
variable {X:Cx}
theorem AlC:MtR X "str.join" (rJoin X.K):=by
 intro pins s σ H x vs v us Q I rx rv h
 obtain⟨z,a,ys,rfl,rfl,hq,hz,q⟩:=h
 obtain⟨t,rfl⟩:=rx
 obtain⟨u,rfl,ru⟩:=rv.one
 cases ru
 obtain⟨its,r,pl,hl⟩:=I.list hq
 exact join_list pl.isList (Ag1 (by simpa using r)) hz fun t' k=>⟨.str _,H,I.tok _,⟨_,rfl⟩,q⟩
def AoC (K:PySem.W.Frag):List V→Hp→VK→Prop:=fun vs H Q=>∃ x t b,YB K H x t ∧
 ((∃ n,vs=[x,.ty n]∧PySem.W.kitOne K t (.type n)=some b)∨(∃ a,vs=[x,.ref a]∧PySem.W.kitOne K t (.ref a)=some b))∧Q (.bl b) H
theorem Aj7:R3 X (.builtin "isinstance") (AoC X.K):=by
 intro pins s σ H xs us Q I rv h
 obtain⟨x,t,b,ty,hv,q⟩:=h
 rcases hv with ⟨n,rfl,e⟩ | ⟨a,rfl,e⟩
 ·obtain⟨u1,u2,rfl,r1,r2⟩:=rv.two
  cases r2
  exact Ad1 I r1 ty e fun tk=>⟨.bl b,H,I.tok _,rfl,q⟩
 ·obtain⟨u1,u2,rfl,r1,r2⟩:=rv.two
  cases r2
  exact Ad1 I r1 ty e fun tk=>⟨.bl b,H,I.tok _,rfl,q⟩
def eqL:List V→List V→Bool
 | [],[]=>true
 | x::xs,y::ys=>eqV x y && eqL xs ys
 | _,_=>false
theorem AbU{x:V}(h:QB x=true):eqV x x=true:=by
 cases x with
 | non=>rfl
 | bl b=>simp[eqV]
 | int i=>simp[eqV]
 | str z=>simp[eqV]
 | _=>exact absurd (show false=true from h) Ar2
theorem Afm:∀{xs:List V},xs.all QB=true→eqL xs xs=true
 | [],_=>rfl
 | x::xs,h=>by
  rw[As2,ArP] at h
  rw[eqL,AbU h.1,Afm h.2]
  rfl
theorem Ah2:∀{xs ys:List V},xs.length≠ys.length→eqL xs ys=false
 | [],[],h=>absurd rfl h
 | [],_::_,_=>rfl
 | _::_,[],_=>rfl
 | x::xs,y::ys,h=>by
  rw[eqL,Ah2 (xs:=xs) (ys:=ys) (fun z=>h (by rw[Ars,Ars,z])),Bool.and_false]
theorem Ad7:∀{xs ys:List V},xs.length=ys.length→(List.range xs.length).all (fun j=>eqV (xs.getD j .non) (ys.getD j .non))=eqL xs ys
 | [],[],_=>rfl
 | [],_::_,h=>by simp at h
 | _::_,[],h=>by simp at h
 | x::xs,y::ys,h=>by
  have h':xs.length=ys.length:=by simpa using h
  rw[Ars,List.range_succ_eq_map,As2,List.all_map]
  rw[eqL,← Ad7 h']
  rfl
def AoD (K:PySem.W.Frag):R2:=fun x y H Q=>∃ p q xs ys,x=.ref p∧y=.ref q∧SqL K H p xs∧SqL K H q ys∧xs.all QB=true∧ys.all QB=true∧Q (.bl (eqL xs ys)) H
theorem Ans(hu:X.A.units<cLine):OpR X (compareOp .Eq) (AoD X.K):=by
 intro pins s σ H x y v u Q I rx ry h
 obtain⟨p,q,xs,ys,rfl,rfl,hx,hy,fx,fy,k⟩:=h
 cases rx
 cases ry
 obtain⟨its,r,pl,hz⟩:=I.list hx
 obtain⟨its2,r2,pl2,hz2⟩:=I.list hy
 have l1:=r.length
 have l2:=r2.length
 by_cases hl:xs.length=ys.length
 ·refine SeqAt.eq_listAt (e:=fun j=>eqV (xs.getD j .non) (ys.getD j .non)) pl.isList pl2.isList (by simp only [Ar0];omega) hu (fun j h1 h2=>?_) ?_
  ·have j1:j<xs.length:=by simp only [Ar0] at h1;omega
   have j2:j<ys.length:=by omega
   obtain⟨w1,e1,q1⟩:=r.get (i:=j) (x:=xs[j]) (by simp[j1])
   obtain⟨w2,e2,q2⟩:=r2.get (i:=j) (x:=ys[j]) (by simp[j2])
   have g1:its.toArray[j]=w1:=by
    have:its.toArray[j]?=some w1:=by simpa using e1
    exact Option.some.inj ((Array.getElem?_eq_getElem h1).symm.trans this)
   have g2:its2.toArray[j]=w2:=by
    have:its2.toArray[j]?=some w2:=by simpa using e2
    exact Option.some.inj ((Array.getElem?_eq_getElem h2).symm.trans this)
   rw[g1,g2]
   have d1:xs.getD j .non=xs[j]:=by simp[List.getD,j1]
   have d2:ys.getD j .non=ys[j]:=by simp[List.getD,j2]
   show SeqAt.EqAt _ _ _ _ (eqV (xs.getD j .non) (ys.getD j .non))
   rw[d1,d2]
   exact AdZ q1 q2 (List.all_eq_true.mp fx _ (ArG j1)) (List.all_eq_true.mp fy _ (ArG j2))
  ·refine⟨.bl (eqL xs ys),H,I,?_,k⟩
   show Value.bool _=Value.bool _
   rw[Ar0,← l1,Ad7 hl]
 ·refine SeqAt.eq_list_lengthsAt pl.isList pl2.isList (by simp only [Ar0,bne_iff_ne];omega) hu ?_
  exact⟨.bl (eqL xs ys),H,I,by rw[Ah2 hl];rfl,k⟩
end
open PySem
def tx (l:List Nat):Str:=⟨l.toArray⟩
theorem Ah(l:List Nat):(tx l).length=l.length:=by simp[tx,Str.length]
theorem Ka(l:List Nat):(tx l).cps.size=l.length:=by simp[tx]
theorem Kc(l:List Nat):(tx l).cps.toList=l:=by simp[tx]
theorem U7(l:List Nat)(i:Nat):(tx l).cps[i]?=l[i]?:=by simp[tx]
theorem AmE(z:Str):tx z.cps.toList=z:=by cases z;simp[tx]
theorem Dj(a b:List Nat):tx a++tx b=tx (a++b):=by
 show Str.append (tx a) (tx b)=_
 simp[tx,Str.append]
theorem R7{a b:List Nat}(h:tx a=tx b):a=b:=by
 have:=congrArg (fun z:Str=>z.cps.toList) h
 simpa [tx] using this
theorem Tt(c:Nat):(⟨#[c]⟩:Str)=tx [c]:=rfl
theorem Ad8:∀(ys:List (List Nat)) (acc:Array Nat),(ys.map tx).foldl (fun acc p=>acc++(tx []).cps++p.cps) acc=acc++ys.flatten.toArray
 | [],acc=>by simp
 | y::ys,acc=>by
  rw[Arx,As3,Ad8 ys]
  simp[tx]
theorem Nq:∀(ys:List (List Nat)),Txt.join (tx []) (ys.map tx)=tx ys.flatten
 | []=>by simp[Txt.join,Builtin.Str.glued,tx,Str.empty]
 | y::ys=>by
  show Str.mk _=_
  simp only [Arx,List.drop_one,As7,List.headD_cons]
  rw[Ad8]
  simp[tx]
theorem YG{α:Type}(f:α→Nat):∀(l:List α),(l.map fun c=>[f c]).flatten=l.map f
 | []=>rfl
 | a::l=>by rw[Arx,ArB,YG f l];rfl
theorem AlD{α:Type}(f:α→Nat):∀(l:List α),(((l.map fun c=>[f c]).map tx).map (·.length)).sum=l.length
 | []=>rfl
 | a::l=>by
  rw[Arx,Arx,Arx,Ast,AlD f l,Ah,Ars]
  show 1+l.length=l.length+1
  omega
end L2
namespace PySem
open Sem (wp)
open Builtin Builtin.Str Builtin.Int
namespace RV
theorem ZK:Manifest.owners.lookup (String.ofList ['d','e','s','r','e','v','e','r'].reverse)=some Manifest.sig_reversed:=by kernel_rfl
theorem mro_reversed:mroOf (.type "reversed")=pure [.type "reversed", .type "object"]:=by rw[mroOf_type];kernel_rfl
theorem lookup_reversed_new:typeLookup (.type "reversed") "__new__" = pure (some (.builtin "reversed.__new__")):=by rw[typeLookup_type,builtinLookup_eq_fast];kernel_rfl
theorem Aiw:Slot "reversed" "__init__" "object.__init__" :=
 .of (owner := "object") (n := "__init__") (by rw[typeLookup_type,builtinLookup_eq_fast];kernel_rfl) (by decide +kernel) (by decide +kernel) (by decide +kernel)
  (by first | exact .inl (by decide +kernel) | exact .inr (by decide +kernel)) (by rw[isSubtype_type];kernel_rfl)
theorem AaW:TypeCalled "reversed" "reversed.__new__" "object.__init__" :=
 ⟨by decide +kernel,by decide +kernel,⟨_,_,mro_reversed⟩,madeBy_type mro_reversed lookup_reversed_new (by decide +kernel),by decide +kernel,by rw[isSubtype_type];kernel_rfl,Aiw⟩
theorem Ag2(a:Value):checkTypeCall "reversed" ⟨[a],[]⟩=pure ():=by kernel_rfl
theorem Aix(a:Value):checkBuiltinCall "reversed.__new__" ⟨[.type "reversed", a],[]⟩=pure ():=by kernel_rfl
theorem Aiy:entryFor table "reversed.__new__" = some Builtin.«reversed.__new__»:=entryFor_of_tree (by kernel_rfl)
theorem sub_self:isSubtype (.type "reversed") (.type "reversed")=pure true:=by rw[isSubtype_type];kernel_rfl
theorem Aiz:typeLookup (.type "str") "__reversed__" = pure none:=by rw[typeLookup_type,builtinLookup_eq_fast];kernel_rfl
theorem Ag3:isSubtype (.type "str") (.type "dict")=pure false:=by rw[isSubtype_type];kernel_rfl
theorem slot_next:Slot "reversed" "__next__" "reversed.__next__" :=
 .of (owner := "reversed") (n := "__next__") (by rw[typeLookup_type,builtinLookup_eq_fast];kernel_rfl) (by decide +kernel) (by decide +kernel) (by decide +kernel)
  (by first | exact .inl (by decide +kernel) | exact .inr (by decide +kernel)) (by rw[isSubtype_type];kernel_rfl)
theorem entry_next:entryFor table "reversed.__next__" = some Builtin.«reversed.__next__»:=entryFor_of_tree (by kernel_rfl)
theorem AaL(a:Value):argsOk "reversed.__next__" ⟨[a],[]⟩:=by
 unfold argsOk;rw[signature?_of (id := "reversed.__next__") (n:=['_','_','t','x','e','n','_','_']) (o:=['d','e','s','r','e','v','e','r']) (by kernel_rfl) ZK];kernel_rfl
theorem Ad9:Slot "reversed" "__iter__" "reversed.__iter__" :=
 .of (owner := "reversed") (n := "__iter__") (by rw[typeLookup_type,builtinLookup_eq_fast];kernel_rfl) (by decide +kernel) (by decide +kernel) (by decide +kernel)
  (by first | exact .inl (by decide +kernel) | exact .inr (by decide +kernel)) (by rw[isSubtype_type];kernel_rfl)
theorem Ag4:entryFor table "reversed.__iter__" = some Builtin.«dict_keyiterator.__iter__» :=
 entryFor_alias (id' := "dict_keyiterator.__iter__") (by kernel_rfl) (by first | rfl | decide +kernel | (unfold String.splitOn;simp +decide [String.splitOnAux])) (by decide +kernel) (by kernel_rfl)
theorem Afn(a:Value):argsOk "reversed.__iter__" ⟨[a],[]⟩:=by
 unfold argsOk;rw[signature?_of (id := "reversed.__iter__") (n:=['_','_','r','e','t','i','_','_']) (o:=['d','e','s','r','e','v','e','r']) (by kernel_rfl) ZK];kernel_rfl
theorem ZL:Slot "reversed" "__length_hint__" "reversed.__length_hint__" :=
 .of (owner := "reversed") (n := "__length_hint__") (by rw[typeLookup_type,builtinLookup_eq_fast];kernel_rfl) (by decide +kernel) (by decide +kernel) (by decide +kernel)
  (by first | exact .inl (by decide +kernel) | exact .inr (by decide +kernel)) (by rw[isSubtype_type];kernel_rfl)
theorem Ag5:entryFor table "reversed.__length_hint__" = some Builtin.«reversed.__length_hint__»:=entryFor_of_tree (by kernel_rfl)
theorem Afo(a:Value):argsOk "reversed.__length_hint__" ⟨[a],[]⟩:=by
 unfold argsOk;rw[signature?_of (id := "reversed.__length_hint__") (n:=['_','_','t','n','i','h','_','h','t','g','n','e','l','_','_']) (o:=['d','e','s','r','e','v','e','r']) (by kernel_rfl) ZK];kernel_rfl
theorem AmF:typeLookup (.type "reversed") "__len__" = pure none:=by rw[typeLookup_type,builtinLookup_eq_fast];kernel_rfl
theorem hint:typeLookup (.type "reversed") "__length_hint__" = pure (some (.builtin "reversed.__length_hint__")):=by rw[typeLookup_type,builtinLookup_eq_fast];kernel_rfl
end RV
def AbV (x:Str)(t:Tok)(i:Int):Obj:={ cls:=.type "reversed", data:=.fields #[.str x t,rawInt i] }
set_option maxHeartbeats 1000000 in
theorem AbW(x:Str)(t:Tok)(hx:¬(x.length:Int) ≥ 2 ^ 63) :
  Meets (Builtin.«reversed.__new__» ⟨[.type "reversed", .str x t],[]⟩) (fun _ R s =>
   R (.ok (.ret (.ref s.heap.objs.size))) { s with heap:=s.heap.push (AbV x t ((x.length:Int)-1)),toks:=s.toks+1+1 }) :=
 .of_wp fun prog w A R s h=>by
  obtain⟨hp,g,d,tk,os⟩:=s
  have hsub:=RV.sub_self
  have h1:=RV.Aiz
  have h2:=RV.Ag3
  have h3:=F.slot_str_getitem.lookup
  wp_walk using (PySem.P.len_str hx)
  exact⟨_,rfl,h⟩
def Heap.Ef(h:Heap)(a:Addr)(x:Str)(t:Tok)(i:Int):Prop:=∃ o,h.get? a=some o∧o.cls=.type "reversed" ∧ o.data=.fields #[.str x t,rawInt i]
theorem Heap.Ef.typeIs{s:Shared}{a:Addr}{x:Str}{t:Tok}{i:Int}(y:s.heap.Ef a x t i):s.TypeIs (.ref a) "reversed" := let ⟨o,ho,hc,_⟩:=y;⟨o,ho,hc⟩
theorem Heap.Ef.at{h h':Heap}{a:Addr}{x:Str}{t:Tok}{i:Int}(y:h.Ef a x t i)(e:∀ o,h.get? a=some o→h'.get? a=some o):h'.Ef a x t i:=let ⟨o,ho,r⟩:=y;⟨o,e _ ho,r⟩
section
variable {prog:Program}{w:World}{A:Around}{E:Value→Shared→Prop}{s:Shared}
theorem Ox{x:Str}{t:Tok}{Q:Value→Shared→Prop}(hx:¬(x.length:Int) ≥ 2 ^ 63)
  (h:Q (.ref s.heap.objs.size) { s with heap:=s.heap.push (AbV x t ((x.length:Int)-1)),toks:=s.toks+1+1 }):wpAny (model prog w) A (call (.type "reversed") [.str x t]) Q E s :=
 callType_new RV.AaW (by decide) (RV.Ag2 _) (RV.Aix _) (fun obj=>F.args_object_init_2 obj _) RV.Aiy (AbW x t hx) ⟨⟨_,Heap.get?_push_size _ rfl,rfl⟩,h⟩
theorem QC{it:Addr}{x:Str}{t:Tok}{i:Int}{Q:Value→Shared→Prop}(hit:s.heap.Ef it x t i)(h:Q (.ref it) s):wpAny (model prog w) A (pyIter (.ref it)) Q E s:=by
 refine wpAny_pyIter_slot hit.typeIs RV.Ad9 (wpAny_call_entry RV.Ad9 hit.typeIs RV.Ag4 ?_ (RV.Afn _))
 show wpAny _ _ (ret (.ref it)) _ _ s
 exact wpAny_pure ⟨_,rfl, "reversed", _,hit.typeIs,RV.slot_next.lookup,h⟩
theorem P0{it:Addr}{x:Str}{t:Tok}{i c:Nat}{Q:Option Value→Shared→Prop}(hit:s.heap.Ef it x t (i:Int))(hx:x.cps[i]?=some c)(hb:¬(x.length:Int) ≥ 2 ^ 63)
  (hQ:∀ h' u tk,h'.Ef it x t ((i:Int)-1)→Heap.SameBut it s.heap h'→Q (some (.str ⟨#[c]⟩ u)) { s with heap:=h',toks:=tk }):wpAny (model prog w) A (pyNext (.ref it)) Q E s:=by
 obtain⟨o,ho,hc,hd⟩:=id hit
 have hi:i<x.length:=(Array.getElem?_eq_some_iff.mp hx).1
 unfold pyNext
 refine wpAny_bind (wpAny_attempt (wpAny_callSpecial?_slot (name:=Str.ofString "__next__") hit.typeIs RV.slot_next
  (wpAny_call_entry RV.slot_next hit.typeIs RV.entry_next ?_ (RV.AaL _))))
 unfold Builtin.«reversed.__next__»
 refine wpAny_bind (wpAny_of_eq (a:=(Value.ref it,[])) rfl ?_)
 try dsimp only
 refine wpAny_bind (wpAny_field ho hd (x:=.str x t) rfl ?_)
 show wpAny _ _ (field (.ref it) 1 >>= _) _ _ s
 refine wpAny_bind (wpAny_field ho hd (x:=rawInt (i:Int)) rfl ?_)
 show wpAny _ _ (if (i:Int)<0 then _ else _) _ _ s
 rw[if_neg (by omega)]
 refine wpAny_bind (wpAny_specialOf (typeIs_str s x t) F.slot_str_getitem.lookup ?_)
 rw[if_neg (by decide)]
 refine wpAny_bind (wpAny_mkInt ?_)
 have e1:seqIndex? (i:Int) x.length=some i:=by
  have:=PySem.StrLaws.seqIndex_nonneg (i:=(i:Int)) (n:=x.length) (by omega) (by omega)
  simpa using this
 refine wpAny_bind (wpAny_attempt (PySem.P.getItem_str (c:=c) (by
  have e1:decide ((i:Int) < -(2 ^ 63:Int))=false:=decide_eq_false (by omega)
  have e2:decide ((i:Int) ≥ 2 ^ 63)=false:=decide_eq_false (by omega)
  rw[e1,e2];rfl) (by rw[e1];exact hx) ?_))
 show wpAny _ _ (field (.ref it) 1 >>= _) _ _ _
 refine wpAny_bind (wpAny_field (s:={ s with toks:=s.toks+1+1 }) ho hd (x:=rawInt (i:Int)) rfl ?_)
 show wpAny _ _ (setField (.ref it) 1 (rawInt ((i:Int)-1)) >>= _) _ _ _
 refine wpAny_bind (wpAny_setField (s:={ s with toks:=s.toks+1+1 }) ho hd (by simp) ?_)
 refine wpAny_pure ⟨_,rfl,wpAny_pure (hQ _ _ _ ?_ (Heap.SameBut.update ..))⟩
 exact⟨_,Heap.get?_update_self _ ho (Obj.isFreed_of_fields (Obj.data_mapFields hd _)),(Obj.cls_mapFields ..).trans hc,by
  rw[Obj.data_mapFields hd];simp⟩
theorem QS{it:Addr}{x:Str}{t:Tok}{Q:Option Value→Shared→Prop}(hh:A.handled=none)(hit:s.heap.Ef it x t (-1))
  (hQ:∀ h',Heap.ExtBut it s.heap h'→(∃ o,h'.get? it=some o)→Q none { s with heap:=h' }):wpAny (model prog w) A (pyNext (.ref it)) Q E s:=by
 obtain⟨o,ho,hc,hd⟩:=id hit
 unfold pyNext
 refine wpAny_bind (wpAny_attempt (wpAny_callSpecial?_slot (name:=Str.ofString "__next__") hit.typeIs RV.slot_next
  (wpAny_call_entry RV.slot_next hit.typeIs RV.entry_next ?_ (RV.AaL _))))
 unfold Builtin.«reversed.__next__»
 refine wpAny_bind (wpAny_of_eq (a:=(Value.ref it,[])) rfl ?_)
 try dsimp only
 refine wpAny_bind (wpAny_field ho hd (x:=.str x t) rfl ?_)
 show wpAny _ _ (field (.ref it) 1 >>= _) _ _ s
 refine wpAny_bind (wpAny_field ho hd (x:=rawInt (-1)) rfl ?_)
 show wpAny _ _ (if (-1:Int)<0 then _ else _) _ _ s
 rw[if_pos (by decide)]
 refine wpAny_bind (wpAny_rule ?_)
 refine wpAny_bind ?_
 show wpAny _ _ (setField (.ref it) 1 (rawInt (-1)) >>= fun _=>setField (.ref it) 0 .none) _ _ _
 refine wpAny_bind (wpAny_setField ho hd (by simp) ?_)
 have ho2:=Heap.get?_update_self (Obj.mapFields fun vs=>vs.set! 1 (rawInt (-1))) ho (Obj.isFreed_of_fields (Obj.data_mapFields hd _))
 have hd2:=Obj.data_mapFields hd fun vs=>vs.set! 1 (rawInt (-1))
 refine wpAny_setField (s:={ s with heap:=s.heap.update it (Obj.mapFields fun vs=>vs.set! 1 (rawInt (-1))) }) ho2 hd2 (by simp) ?_
 have hd3:=Obj.data_mapFields hd2 fun vs=>vs.set! 0 Value.none
 have ho3:=Heap.get?_update_self (Obj.mapFields fun vs=>vs.set! 0 Value.none) ho2 (Obj.isFreed_of_fields hd3)
 refine wpAny_bind ?_
 show wpAny _ _ (newExc (.type "StopIteration") [] >>= _) _ _ _
 refine wpAny_bind ?_
 simp only [newExc,newTuple]
 refine wpAny_bind (wpAny_newObj_type ?_ (by size_fits))
 refine wpAny_bind (m:=firstArgMember _ _) (wpAny_of_eq (a:=Value.none) (by first | rfl | (simp only [firstArgMember];rfl)) ?_)
 refine wpAny_newObj_type ?_ (by size_fits)
 simp only [raiseNew]
 refine wpAny_bind (wpAny_handled ?_)
 first | rw[show A.in1.handled=none from hh] | rw[hh]
 refine wpAny_bind (wpAny_pure (wpAny_throw ?_))
 refine wpAny_bind (wpAny_isInstance (T := "StopIteration") (b:=true) ⟨_,Heap.get?_push_size _ rfl,rfl⟩ isSubtype_stop ?_)
 refine wpAny_pure (hQ _ ((((Heap.SameBut.update ..).extBut.trans (Heap.SameBut.update ..).extBut).push _).push _) ⟨_,Heap.get?_push_of_some _ (Heap.get?_push_of_some _ ho3)⟩)
theorem Walks.AbV(hh:A.handled=none)(I:Addr)(x:Str)(t:Tok)(hb:¬(x.length:Int) ≥ 2 ^ 63) :
  Walks prog w A I [I] [I] x.cps.size (fun i v=>∃ c u,x.cps[x.cps.size-1-i]?=some c∧v=.str ⟨#[c]⟩ u) (fun i h=>i≤x.cps.size∧h.Ef I x t ((x.cps.size:Int)-1-(i:Int))) where
 sub:=fun _ hb=>hb
 frame:=fun _ _ _ st hk=>⟨st.1,st.2.at fun o e=>hk I (by simp) o e⟩
 item:=fun i s Q E hi st hQ=>by
  have e:(x.cps.size:Int)-1-(i:Int)=((x.cps.size-1-i:Nat):Int):=by omega
  have hit:=st.2
  rw[e] at hit
  have hx:x.cps[x.cps.size-1-i]?=some (x.cps[x.cps.size-1-i]'(by omega)):=Array.getElem?_eq_getElem (by omega)
  refine P0 hit hx hb fun h' u tk hit' hs'=>?_
  have e2:((x.cps.size-1-i:Nat):Int)-1=(x.cps.size:Int)-1-((i+1:Nat):Int):=by omega
  rw[e2] at hit'
  exact hQ _ h' tk ⟨_,_,hx,rfl⟩ ⟨hi,hit'⟩ fun b o hb eo=>hs'.extBut b o (fun h=>hb (by simp[h])) eo
 done:=fun s Q E st hQ=>by
  have e:(x.cps.size:Int)-1-(x.cps.size:Int) = -1:=by omega
  have hit:=st.2
  rw[e] at hit
  exact QS hh hit fun h' he' _=>hQ h' s.toks fun b o hb eo=>he' b o (fun h=>hb (by simp[h])) eo
 self:=fun _ _ _ _ st hQ=>QC st.2 hQ
theorem VP{it:Addr}{x:Str}{t:Tok}{Q:Value→Shared→Prop}(hb:¬(x.length:Int) ≥ 2 ^ 63)(hit:s.heap.Ef it x t ((x.length:Int)-1))
  (h:∀ u tk,s.toks≤tk→Q (.int x.length u) { s with toks:=tk }):wpAny (model prog w) A (call (.builtin "reversed.__length_hint__") [.ref it]) Q E s:=by
 obtain⟨o,ho,hc,hd⟩:=id hit
 refine wpAny_call_entry RV.ZL hit.typeIs RV.Ag5 ?_ (RV.Afo _)
 unfold Builtin.«reversed.__length_hint__»
 refine wpAny_bind (wpAny_of_eq (a:=Value.ref it) rfl ?_)
 refine wpAny_bind (wpAny_field ho hd (x:=.str x t) rfl ?_)
 rw[if_neg (show ¬((Value.str x t == Value.none)=true) from Ar2)]
 refine wpAny_bind (PySem.P.len_str hb ?_)
 refine wpAny_bind (m:=asInt? (.int x.length (s.toks+1))) (wpAny_pure ?_)
 dsimp only
 show wpAny _ _ (field (.ref it) 1 >>= _) _ _ _
 refine wpAny_bind (wpAny_field (s:={ s with toks:=s.toks+1+1 }) ho hd (x:=rawInt ((x.length:Int)-1)) rfl ?_)
 show wpAny _ _ (if (x.length:Int)<(x.length:Int)-1+1 then _ else retInt ((x.length:Int)-1+1)) _ _ _
 rw[if_neg (by omega),show(x.length:Int)-1+1=x.length by omega]
 unfold retInt
 refine wpAny_bind (wpAny_mkInt (wpAny_pure ⟨_,rfl,h _ _ ?_⟩))
 show s.toks≤s.toks+1+1+1
 omega
theorem Qx{R:Result→Shared→Prop}{I:Addr}{x:Str}{t:Tok}(hh:A.handled=none)(hb:x.length≤sizeLine)(S:Addr)(hSI:S≠I)(res:Value) :
  ∀(k i:Nat) (s:Shared) (acc:Array Value) (c:Nat),x.cps.size-i=k→i≤x.cps.size→s.heap.Ef I x t ((x.cps.size:Int)-1-(i:Int)) →
  s.heap.get? S=some { cls:=.type "list", dict:=none,data:=.seq acc c,slots:=#[] }→ItemsOf (fun i v=>∃ c u,x.cps[x.cps.size-1-i]?=some c∧v=.str ⟨#[c]⟩ u) acc i →
  (∀ h' tk acc' c',(∀ b o,b≠S→b≠I→s.heap.get? b=some o→h'.get? b=some o)→(∃ o,h'.get? I=some o)→h'.get? S=some { cls:=.type "list", dict:=none,data:=.seq acc' c',slots:=#[] } →
   ItemsOf (fun i v=>∃ c u,x.cps[x.cps.size-1-i]?=some c∧v=.str ⟨#[c]⟩ u) acc' x.cps.size→R (.ok (.ret res)) { s with heap:=h',toks:=tk }) →
  codeAny (model prog w) A (.builtin "list.extend.loop" ⟨[.ref S,.ref I,res],[]⟩) R s:=by
 have hl:sizeLine=16777216:=sizeLine_eq
 have hb':¬(x.length:Int) ≥ 2 ^ 63:=by omega
 have hn:x.cps.size≤sizeLine:=hb
 intro k
 induction k with
 | zero =>
  intro i s acc c hk hi hst hS hacc hR
  have hin:i=x.cps.size:=by omega
  subst hin
  refine codeAny_builtin F.entry_extend_loop ?_
  rw[Around.under_plainId F.plain_extend_loop _]
  show wpAny _ A.in1 (pyNext (.ref I) >>= _) _ _ s
  have e:(x.cps.size:Int)-1-(x.cps.size:Int) = -1:=by omega
  rw[e] at hst
  refine wpAny_bind (QS (by exact hh) hst fun h' he' ho'=>?_)
  exact wpAny_pure (hR h' s.toks acc c (fun b o _ hI q=>he' b o hI q) ho' (he' S _ hSI hS) hacc)
 | succ k ih =>
  intro i s acc c hk hi hst hS hacc hR
  have hlt:i<x.cps.size:=by omega
  refine codeAny_builtin F.entry_extend_loop ?_
  rw[Around.under_plainId F.plain_extend_loop _]
  show wpAny _ A.in1 (pyNext (.ref I) >>= _) _ _ s
  have e:(x.cps.size:Int)-1-(i:Int)=((x.cps.size-1-i:Nat):Int):=by omega
  rw[e] at hst
  have hx:x.cps[x.cps.size-1-i]?=some (x.cps[x.cps.size-1-i]'(by omega)):=Array.getElem?_eq_getElem (by omega)
  refine wpAny_bind (P0 hst hx hb' fun h' u tk hit' hs'=>?_)
  have e2:((x.cps.size-1-i:Nat):Int)-1=(x.cps.size:Int)-1-((i+1:Nat):Int):=by omega
  rw[e2] at hit'
  have hS':h'.get? S=some { cls:=.type "list", dict:=none,data:=.seq acc c,slots:=#[] }:=(hs'.2 S hSI).trans hS
  show wpAny _ A.in1 (updateSeq S (·.push _) >>= _) _ _ _
  refine wpAny_bind ?_
  refine wpAny_updateSeq (s:={ s with heap:=h',toks:=tk }) hS' rfl (wpAny_pure ⟨plainId_quiet F.plain_extend_loop _,ih (i+1) _ (acc.push _) _ (by omega) hlt (hit'.at fun o q=>(Heap.get?_update_other _ _ hSI).trans q) (Heap.get?_update_self _ hS' rfl) (hacc.push ⟨_,u,hx,rfl⟩) fun h2 tk2 acc' c' kp ho2 hS2 hacc'=>?_⟩)
   (by rw[hacc.1];omega) (by show(acc.push _).size≤sizeLine+1;rw[Array.size_push,hacc.1];omega)
  exact hR h2 tk2 acc' c' (fun b o hbS hbI q=>kp b o hbS hbI ((Heap.get?_update_other _ _ (Ne.symm hbS)).trans ((hs'.2 b hbI).trans q))) ho2 hS2 hacc'
theorem Aeg{I:Addr}{x:Str}{t:Tok}{Q:List Value→Shared→Prop}(hh:A.handled=none)(hb:x.length≤sizeLine)(hit:s.heap.Ef I x t ((x.length:Int)-1))
  (hQ:∀ h' tk acc,(∀ b o,b≠I→s.heap.get? b=some o→h'.get? b=some o)→(∃ o,h'.get? I=some o)→ItemsOf (fun i v=>∃ c u,x.cps[x.cps.size-1-i]?=some c∧v=.str ⟨#[c]⟩ u) acc x.cps.size→Q acc.toList { s with heap:=h',toks:=tk }) :
  wpAny (model prog w) A (collect (.ref I)) Q E s:=by
 have hl:sizeLine=16777216:=sizeLine_eq
 have hb':¬(x.length:Int) ≥ 2 ^ 63:=by omega
 have hn:x.cps.size≤sizeLine:=hb
 have W:=(Walks.AbV (prog:=prog) (w:=w) (A:=A.in1) hh I x t hb').toS
 have hst:(fun(i:Nat) (s:Shared)=>i≤x.cps.size∧s.heap.Ef I x t ((x.cps.size:Int)-1-(i:Int))) 0 s:=⟨Ar9 _,by
  have e:(x.cps.size:Int)-1-((0:Nat):Int)=(x.length:Int)-1:=by show(x.cps.size:Int)-1-((0:Nat):Int)=(x.cps.size:Int)-1;omega
  rw[e];exact hit⟩
 have hI:I<s.heap.objs.size:=by
  obtain⟨o,ho,_⟩:=hit
  exact Heap.lt_size ho
 have hSf:s.heap.objs.size∉[I]:=fun hm=>by
  have:=List.mem_singleton.mp hm
  rw[this] at hI
  exact Ar8 _ hI
 have hSI:s.heap.objs.size≠I:=fun e=>hSf (by rw[e];simp)
 unfold collect
 refine wpAny_bind (wpAny_runValue (codeAny_builtin F.entry_proto_collect ?_))
 rw[Around.under_plainId F.plain_proto_collect _]
 show wpAny _ A.in1 (newList [] >>= fun l=>again (.builtin "list.__iadd__" ⟨[l,.ref I],[]⟩)) _ _ s
 refine wpAny_bind (wpAny_newObj_type ?_)
 refine wpAny_pure ⟨plainId_quiet F.plain_list_iadd _,codeAny_builtin F.entry_list_iadd ?_⟩
 rw[Around.under_plainId F.plain_list_iadd _]
 have hit1:(s.heap.push { cls:=.type "list", data:=.seq ([]:List Value).toArray }).Ef I x t ((x.length:Int)-1):=hit.at fun o e=>Heap.get?_push_of_some _ e
 have hst₁:=W.frame 0 s (s.heap.push { cls:=.type "list", data:=.seq ([]:List Value).toArray }) s.toks hst (Art _) fun b _ o e=>Heap.get?_push_of_some _ e
 have hS₁:(s.heap.push { cls:=.type "list", data:=.seq ([]:List Value).toArray }).get? s.heap.objs.size=some { cls:=.type "list", data:=.seq ([]:List Value).toArray }:=Heap.get?_push_size _ rfl
 have h1:Builtin.List.listSameRef (.ref s.heap.objs.size) (.ref I)=false:=by simp[Builtin.List.listSameRef,hSI]
 have hT1:({ s with heap:=s.heap.push { cls:=.type "list", data:=.seq ([]:List Value).toArray } }:Shared).TypeIs (.ref I) "reversed" := Heap.Ef.typeIs (s:={ s with heap:=s.heap.push { cls:=.type "list", data:=.seq ([]:List Value).toArray } }) hit1
 show wpAny _ A.in1 (Builtin.List.listExtendWith (.ref s.heap.objs.size) (.ref I) (.ref s.heap.objs.size)) _ _ _
 unfold Builtin.List.listExtendWith
 refine wpAny_bind (wpAny_typeOf hT1 ?_)
 rw[if_neg (by rw[h1];decide)]
 refine wpAny_bind (W.self 0 _ _ _ hst₁ ?_)
 refine wpAny_bind (wpAny_holding ?_)
 unfold Builtin.List.listLengthHint
 refine wpAny_bind (wpAny_specialOf hT1 RV.AmF ?_)
 show wpAny _ A.in1 (specialOf (Value.ref I) (Str.ofString "__length_hint__") >>= _) _ _ _
 refine wpAny_bind (wpAny_specialOf hT1 RV.hint ?_)
 (generalize hid:("reversed.__length_hint__" : String)=id0;(fail_if_success (clear hid id0));wp_delta;rw[show splitId id0=some ("reversed", "__length_hint__") from by subst hid;decide +kernel];subst hid)
 refine wpAny_bind (wpAny_isInstance (b:=true) hT1 (by rw[isSubtype_type];kernel_rfl) ?_)
 show wpAny _ A.in1 (rule "list.length-hint.hint" >>= _) _ _ _
 refine wpAny_bind (wpAny_rule ?_)
 refine wpAny_bind (wpAny_of_eq (RV.ZL.bind _) ?_)
 dsimp only
 refine wpAny_bind (wpAny_attempt (VP (s:={ s with heap:=s.heap.push { cls:=.type "list", data:=.seq ([]:List Value).toArray } }) hb' hit1 fun u tk htk=>?_))
 have hk0:∃ k:Int,k=(x.length:Int):=⟨_,rfl⟩
 obtain⟨k,hk⟩:=hk0
 rw[← hk]
 dsimp only
 refine wpAny_bind (m:=asInt? (.int k u)) (wpAny_pure ?_)
 dsimp only
 have f1:Builtin.List.listFitsIndex k=true:=by
  unfold Builtin.List.listFitsIndex
  simp
  omega
 have f2:Builtin.List.listTooLong k.toNat=false:=by
  unfold Builtin.List.listTooLong
  exact decide_eq_false (by omega)
 rw[if_neg (by rw[f1];decide),if_neg (by omega),if_neg (by rw[f2];decide)]
 refine wpAny_pure ?_
 have e00:(x.cps.size:Int)-1-((0:Nat):Int)=(x.length:Int)-1:=by show(x.cps.size:Int)-1-((0:Nat):Int)=(x.cps.size:Int)-1;omega
 have old:∀ b o,s.heap.get? b=some o→(s.heap.push { cls:=.type "list", data:=.seq ([]:List Value).toArray }).get? b=some o:=fun b o e=>Heap.get?_push_of_some _ e
 have neS:∀ b o,s.heap.get? b=some o→b≠s.heap.objs.size:=fun b o e=>Arw (Heap.lt_size e)
 by_cases h0:x.length=0
 ·have e0:(k != 0)=false:=by rw[hk,h0];rfl
  rw[e0,if_neg (by decide)]
  have st0:(s.heap.push { cls:=.type "list", data:=.seq ([]:List Value).toArray }).Ef I x t ((x.cps.size:Int)-1-((0:Nat):Int)):=by rw[e00];exact hit1
  refine wpAny_pure ⟨plainId_quiet F.plain_extend_loop _,?_⟩
  refine Qx (A:=A) hh hb _ hSI _ _ 0 { s with heap:=s.heap.push { cls:=.type "list", data:=.seq ([]:List Value).toArray },toks:=tk } #[] _ rfl (Ar9 _) st0 hS₁ (ItemsOf.nil _) fun h' tk' acc' c' kp ho' hS' hacc=>?_
  show wpAny _ A (load s.heap.objs.size >>= _) _ _ _
  refine wpAny_bind (wpAny_load (s:={ s with heap:=h',toks:=tk' }) hS' ?_)
  exact wpAny_pure (hQ h' tk' acc' (fun b o hbI q=>kp b o (neS b o q) hbI (old b o q)) ho' hacc)
 ·have e0:(k != 0)=true:=by simp;omega
  rw[e0,if_pos (by decide)]
  refine wpAny_bind (wpAny_rule ?_)
  refine wpAny_bind ?_
  show wpAny _ A.in1 (updateSeq s.heap.objs.size (·.push .none) >>= fun _=>updateSeq s.heap.objs.size (·.pop)) _ _ _
  refine wpAny_bind (wpAny_updateSeq hS₁ rfl ?_)
  have hS₂:=Heap.get?_update_self (Obj.mapSeq (·.push Value.none)) hS₁ rfl
  refine wpAny_updateSeq hS₂ rfl ?_
  have hS₃:=Heap.get?_update_self (Obj.mapSeq (·.pop)) hS₂ rfl
  have oth:∀ b o,b≠s.heap.objs.size→(s.heap.push { cls:=.type "list", data:=.seq ([]:List Value).toArray }).get? b=some o →
    (((s.heap.push { cls:=.type "list", data:=.seq ([]:List Value).toArray }).update s.heap.objs.size (Obj.mapSeq (·.push Value.none))).update s.heap.objs.size (Obj.mapSeq (·.pop))).get? b=some o :=
   fun b o hb e=>(Heap.get?_update_other _ _ (Ne.symm hb)).trans ((Heap.get?_update_other _ _ (Ne.symm hb)).trans e)
  have st0:(((s.heap.push { cls:=.type "list", data:=.seq ([]:List Value).toArray }).update s.heap.objs.size (Obj.mapSeq (·.push Value.none))).update s.heap.objs.size (Obj.mapSeq (·.pop))).Ef I x t ((x.cps.size:Int)-1-((0:Nat):Int)):=by
   rw[e00];exact hit1.at fun o q=>oth I o (Ne.symm hSI) q
  refine wpAny_pure ⟨plainId_quiet F.plain_extend_loop _,?_⟩
  refine Qx (A:=A) hh hb _ hSI _ _ 0
   { s with heap:=((s.heap.push { cls:=.type "list", data:=.seq ([]:List Value).toArray }).update s.heap.objs.size (Obj.mapSeq (·.push Value.none))).update s.heap.objs.size (Obj.mapSeq (·.pop)),toks:=tk } #[] _ rfl (Ar9 _) st0 hS₃ (ItemsOf.nil _) fun h' tk' acc' c' kp ho' hS' hacc=>?_
  show wpAny _ A (load s.heap.objs.size >>= _) _ _ _
  refine wpAny_bind (wpAny_load (s:={ s with heap:=h',toks:=tk' }) hS' ?_)
  exact wpAny_pure (hQ h' tk' acc' (fun b o hbI q=>kp b o (neS b o q) hbI (oth b o (neS b o q) (old b o q))) ho' hacc)
theorem Ai0{I:Addr}{sep x:Str}{t u:Tok}{Q:Value→Shared→Prop}(hh:A.handled=none)(hb:x.length≤1000)(hs:sep.length≤16)(hit:s.heap.Ef I x t ((x.length:Int)-1))
  (h:∀ h' t' k,(∀ b o,b≠I→s.heap.get? b=some o→h'.get? b=some o)→(∃ o,h'.get? I=some o)→Q (.str (Txt.join sep (x.cps.toList.reverse.map fun c=>⟨#[c]⟩)) t') { s with heap:=h',toks:=k }) :
  wpAny (model prog w) A (call (.builtin "str.join") [.str sep u,.ref I]) Q E s:=by
 have hl:sizeLine=16777216:=sizeLine_eq
 refine wpAny_call (codeAny_call_builtin F.slot_str_join.plain F.entry_str_join (F.slot_str_join.check _ _ _ _ _ _ _ _ (typeIs_str _ _ _) (F.args_str_join_2 _ _) ?_))
 rw[join_tree_other]
 refine wpAny_bind (wpAny_typeOf hit.typeIs ?_)
 show wpAny _ A.in1 ((pyIter (.ref I)).tryCatch _ >>= fun it=>collect it >>= fun items=>joinTail sep items) _ _ s
 refine wpAny_bind (wpAny_tryCatch (QC hit ?_))
 refine wpAny_bind (Aeg (by exact hh) (by omega) hit fun h' tk' acc hm ho' hacc=>?_)
 obtain⟨l,hl'⟩:=exists_strValues acc.toList fun v hv=>by
  obtain⟨j,hj,rfl⟩:=Array.mem_iff_getElem.mp (Array.mem_toList_iff.mp hv)
  obtain⟨c,u,_,e⟩:=hacc.2 j _ (Array.getElem?_eq_getElem hj)
  exact⟨_,u,e⟩
 rw[← hl']
 have key:l.map (·.1)=x.cps.toList.reverse.map fun c=>(⟨#[c]⟩:Str):=by
  have hlen:l.length=x.cps.size:=by
   have:=congrArg List.length hl'
   simp only [strValues,Arq,Array.length_toList,hacc.1] at this
   exact this
  apply Asu
  intro j
  rw[Ar6,Ar6]
  by_cases hj:j<x.cps.size
  ·have hj':j<acc.size:=by rw[hacc.1];exact hj
   obtain⟨c,u,e1,e2⟩:=hacc.2 j _ (Array.getElem?_eq_getElem hj')
   have g:(strValues l)[j]?=some (.str ⟨#[c]⟩ u):=by
    rw[hl',← e2]
    simp[hj']
   have g2:l[j]?=some (⟨#[c]⟩,u):=by
    unfold strValues at g
    rw[Ar6] at g
    cases hlj:l[j]? with
    | none=>rw[hlj] at g;cases g
    | some p =>
     rw[hlj] at g
     obtain⟨p1,p2⟩:=p
     have g':Value.str p1 p2=Value.str ⟨#[c]⟩ u:=Option.some.inj g
     injection g' with a b
     rw[a,b]
   rw[g2,As8 (by simpa using hj)]
   simp only [Array.length_toList,Array.getElem?_toList,e1]
   rfl
  ·rw[ArU (by omega),ArU (by simp;omega)]
   rfl
 have hok:JoinOk sep (l.map (·.1))=true:=by
  rw[key]
  unfold JoinOk
  rw[StrLaws.joinTotal]
  have e1:((x.cps.toList.reverse.map fun c=>(⟨#[c]⟩:Str)).map (·.length)).sum=x.cps.size:=by
   have:∀(l:List Nat),((l.map fun c=>(⟨#[c]⟩:Str)).map (·.length)).sum=l.length:=by
    intro l
    induction l with
    | nil=>rfl
    | cons a r ih=>simp only [Arx,Ast,Ars,ih];show 1+_=_;omega
   rw[this]
   simp
  rw[e1]
  simp only [Arq,ArR,Array.length_toList]
  have hx:x.cps.size≤1000:=hb
  have hm:x.cps.size*sep.length≤1000*16:=Asa hx hs
  unfold tooLong
  rw[decide_eq_false (by omega)]
  rfl
 have AlE:=hok
 unfold JoinOk at AlE
 rw[Bool.not_eq_true'] at AlE
 have g:Gives (joinTail sep (strValues l)) (joinMade sep l):=by
  have g0:=gives_joinTail sep l AlE
  cases l with
  | nil=>exact g0
  | cons p r=>cases r with
   | nil=>exact g0
   | cons q r'=>exact g0
 refine g prog w A (wants Q E) _ (post_join l ⟨joinFit_length AlE,fun t' k=>?_⟩)
 rw[key]
 exact h h' t' k hm ho'
end
end PySem
namespace L2
open PySem PySem.Spec PyProof.Rows
def Ant (p:Addr)(x:Str):HO:=.ext fun h=>∃ t,h.Ef p x t ((x.length:Int)-1)
def AoE (p:Addr):HO:=.ext fun h=>∃ o,h.get? p=some o
section
variable {X:Cx}
theorem AaM:R3 X (.type "reversed") (fun xs H Q=>∃ z,xs=[.str z]∧z.length≤sizeLine∧∀ p,H p=none→Q (.ref p) (upd H p (Ant p z))):=by
 intro pins s σ H xs us Q I rv h
 obtain⟨z,rfl,hz,q⟩:=h
 obtain⟨u,rfl,ru⟩:=rv.one
 obtain⟨t,rfl⟩:=ru
 have hl:sizeLine=16777216:=sizeLine_eq
 refine Ox (by omega) ?_
 have hg:(s.heap.push (AbV z t ((z.length:Int)-1))).get? s.heap.objs.size=some (AbV z t ((z.length:Int)-1)):=Heap.get?_push_size _ rfl
 refine⟨.ref s.heap.objs.size,_,I.laid (o:=Ant s.heap.objs.size z) (fun b o e=>Heap.get?_push_of_some _ e) (Art _) ?_,rfl,q _ (I.hok.fresh (Art _))⟩
 exact⟨⟨t,_,hg,rfl,rfl⟩,⟨_,hg⟩,fun h1 h2 y k=>by
  obtain⟨t',y⟩:=y
  exact⟨t',y.at k⟩⟩
theorem AbX(hc:X.calm=true:=by rfl):MtR X "str.join" (fun x vs H Q=>∃ z y p,x=.str z∧vs=[.ref p]∧H p=some (Ant p y)∧z.length≤16∧y.length≤1000 ∧
  Q (.str (Txt.join z (y.cps.toList.reverse.map fun c=>⟨#[c]⟩))) (upd H p (AoE p))):=by
 intro pins s σ H x vs v us Q I rx rv h
 obtain⟨z,y,p,rfl,rfl,hp,hz,hy,q⟩:=h
 obtain⟨t,rfl⟩:=rx
 obtain⟨u,rfl,ru⟩:=rv.one
 cases ru
 obtain⟨⟨t',hit⟩,⟨o,ho⟩,_⟩:=I.hok p _ hp
 refine Ai0 (I.ok.hd hc) hy hz hit fun h' t2 k kp hp'=>?_
 refine⟨.str _,_,I.write (t':=k) (x:=p) (e:=p) (o:=AoE p) (by rw[hp];exact trivial) (.inl rfl) (fun b u hb e=>kp b u hb e) hp' ?_,⟨_,rfl⟩,q⟩
 exact⟨hp',hp',fun h1 h2 y k=>by
  obtain⟨o,y⟩:=y
  exact⟨o,k o y⟩⟩
end
open PySem PySem.Spec PyProof.Rows
theorem DN{c A B:Prop}[Decidable c](h:¬c)(k:B):if decide c=true then A else B:=by rw[decide_eq_false h];exact Rk k
theorem GF{c A B:Prop}[Decidable c](h:c)(k:A):if decide c=true then A else B:=by rw[decide_eq_true h];exact Px k
theorem Afp{c A B:Prop}[Decidable c](h:¬c)(k:A):if (!decide c)=true then A else B:=by rw[decide_eq_false h];exact Px k
theorem ApY{b:Bool}{A B:Prop}(h1:b=true→A)(h2:b=false→B):if b=true then A else B:=by
 cases b with
 | true=>exact Px (h1 rfl)
 | false=>exact Rk (h2 rfl)
theorem Ey{c A B:Prop}[Decidable c](h1:c→A)(h2:¬c→B):if decide c=true then A else B:=by
 by_cases h:c
 ·exact GF h (h1 h)
 ·exact DN h (h2 h)
theorem Bg.upd{H:Hp}{p:Addr}{o:HO}(h:H p=none):Bg H (L2.upd H p o):=fun b o' e=>by rw[Ba (Bu e h)];exact e
theorem Bg.new{H H1:Hp}{p:Addr}{o:HO}(e:Bg H H1)(h:H1 p=none):Bg H (L2.upd H1 p o):=e.trans (.upd h)
theorem Bg.over{H H1:Hp}{p:Addr}{o:HO}(e:Bg H H1)(h:H p=none):Bg H (L2.upd H1 p o):=fun b o' q=>by rw[Ba (Bu q h)];exact e b o' q
theorem CW:bootBuiltins "len" = some (.builtin "len"):=by decide +kernel
theorem Tu:bootBuiltins "isinstance" = some (.builtin "isinstance"):=by decide +kernel
theorem Aj8:bootBuiltins "any" = some (.builtin "any"):=by decide +kernel
theorem Anu:bootBuiltins "all" = some (.builtin "all"):=by decide +kernel
theorem U8:bootBuiltins "list" = some (.type "list"):=by decide +kernel
theorem VR:bootBuiltins "str" = some (.type "str"):=by decide +kernel
theorem Aj9:bootBuiltins "int" = some (.type "int"):=by decide +kernel
theorem AjA:bootBuiltins "tuple" = some (.type "tuple"):=by decide +kernel
theorem QD:bootBuiltins "reversed" = some (.type "reversed"):=by decide +kernel
theorem Aeh:bootBuiltins "enumerate" = some (.type "enumerate"):=by decide +kernel
theorem AjB:bootBuiltins "zip" = some (.type "zip"):=by decide +kernel
structure Df (K:PySem.W.Frag) (mg:Str→Option Value) (x:Str) (st:Stmt) (ps:List Str) (f:Addr) (fd:FuncData):Prop where
 F:Fun K x x st f fd
 m:mg x=some (.ref f)
 b:Binds K fd ps []
def vS (cl:List (List Nat)):List V:=cl.map fun t=>V.str (tx t)
def vI (ns:List Int):List V:=ns.map V.int
theorem Bj(cl:List (List Nat)):(vS cl).length=cl.length:=by unfold vS;rw[Arq]
theorem Kw(ns:List Int):(vI ns).length=ns.length:=by unfold vI;rw[Arq]
theorem Aei{cl:List (List Nat)}{i:Nat}{t:List Nat}(h:cl[i]?=some t):(vS cl)[i]?=some (.str (tx t)):=by unfold vS;rw[Ar6,h];rfl
theorem ZM{ns:List Int}{i:Nat}{n:Int}(h:ns[i]?=some n):(vI ns)[i]?=some (.int n):=by unfold vI;rw[Ar6,h];rfl
theorem Mr{cl:List (List Nat)}{i:Nat}{v:V}(h:(vS cl)[i]?=some v):∃ t,cl[i]?=some t∧v=.str (tx t):=by
 unfold vS at h
 rw[Ar6] at h
 cases e:cl[i]? with
 | none=>rw[e] at h;cases h
 | some t=>rw[e] at h;exact⟨t,rfl,(Option.some.inj h).symm⟩
theorem Anv{ns:List Int}{i:Nat}{v:V}(h:(vI ns)[i]?=some v):∃ t,ns[i]?=some t∧v=.int t:=by
 unfold vI at h
 rw[Ar6] at h
 cases e:ns[i]? with
 | none=>rw[e] at h;cases h
 | some t=>rw[e] at h;exact⟨t,rfl,(Option.some.inj h).symm⟩
theorem Aej(cl:List (List Nat)):(vS cl).all QB=true:=by unfold vS;rw[List.all_map];exact List.all_eq_true.mpr fun _ _=>rfl
theorem R8(cl:List (List Nat)):vS cl=(cl.map tx).map V.str:=by unfold vS;rw[Aso];rfl
theorem Ag6(ns:List Int)(n:Int):vI ns++[.int n]=vI (ns++[n]):=by unfold vI;rw[Arz];rfl
theorem Ei(cl:List (List Nat))(t:List Nat):vS cl++[.str (tx t)]=vS (cl++[t]):=by unfold vS;rw[Arz];rfl
theorem CZ{α:Type}{xs:List α}{i:Int}{v:α}(h0:0≤i)(h:xs[i.toNat]?=some v):atI xs i=some v:=by
 have e:i=(i.toNat:Int):=by omega
 rw[e]
 exact Ahz h
open PySem PySem.Spec PyProof.Rows
section
variable {X:Cx}{K:PySem.W.Frag}{tg:Expr}
theorem Bo(hK:X.K=K:=by rfl):IxR X (Ano K):=by subst hK;exact Al6
theorem Gr(hK:X.K=K:=by rfl):IxR X (Anp K):=by subst hK;exact Anq
theorem Ag7(hK:X.K=K:=by rfl):OpR X (compareOp .In) (rIn K false):=by subst hK;exact Air
theorem Ada(hK:X.K=K:=by rfl):OpR X (compareOp .NotIn) (rIn K true):=by subst hK;exact Aea
theorem AlF(hu:X.A.units<cLine)(hK:X.K=K:=by rfl):OpR X (compareOp .Eq) (AoD K):=by subst hK;exact Ans hu
theorem Bx(hK:X.K=K:=by rfl):R3 X (.builtin "len") (fun xs H Q=>∃ p ys,xs=[.ref p]∧(SqL K H p ys∨SqT K H p ys)∧Q (.int ys.length) H):=by subst hK;exact Aeb
theorem Qy(hK:X.K=K:=by rfl):R3 X (.type "list") (fun xs H Q=>∃ p ys,xs=[.ref p]∧(SqL K H p ys∨SqT K H p ys)∧∀ l,H l=none→Q (.ref l) (upd H l (.lst ys))):=by subst hK;exact Aec
theorem ZP(hK:X.K=K:=by rfl):R3 X (.builtin "isinstance") (AoC K):=by subst hK;exact Aj7
theorem Ky(hK:X.K=K:=by rfl):MtR X "str.join" (rJoin K):=by subst hK;exact AlC
theorem AbY(hK:X.K=K:=by rfl):SlR X (Ao7 K):=by subst hK;exact Al7
theorem Ej{l:Expr}{tl:TE}(hl:PE X l tl)(hK:X.K=K:=by rfl):PI X tg l (Am9 K tl):=by subst hK;exact Al0 hl
theorem PB{a:Expr}{ta:TE}(ha:PE X a ta)(he:∀ whole,isTrue a X.env whole=(do let v ← whole;standAt a.pos;holding [v] (truthy v)))(hK:X.K=K:=by rfl) :
  PT X a (fun σ H Q=>ta σ H fun x H'=>∃ k,Anf K x H' k∧Q k H'):=by subst hK;exact Ajy ha he
variable {o e:Expr}{es:List Expr}{to:TE}{t:TA}{name:Str}{apos cpos:Pos}{T id:String}{r:V→List V→Hp→VK→Prop}
theorem Gs(pa:PlainAttrs T)(slot:Slot T name id)(hty:typeOf (.builtin id)=pure (.type "method_descriptor")) (hm:MtR X id r) (ho:PE X o to) (ha:PA X (e::es) t)
  (hbase:attributeBase o name X.env (eval o X.env)=eval o X.env:=by rfl)
  (hfew:((backTo cpos (starEach (e::es) X.env)).all (fun x=>!x.1) && (backToKw cpos (keywordEach [] X.env)).all (fun x=>x.1.isSome)
   && decide ((e::es).length+([]:List Keyword).length+(if ([]:List Keyword).isEmpty then 0 else 1)<30))=true:=by rfl)
  (hline:(apos.endLine == cpos.line)=true:=by rfl) (hs:starEach (e::es) X.env=(false,eval e X.env)::starEach es X.env:=by rfl) (hplain:(backTo cpos (starEach es X.env)).any (·.1)=false:=by rfl) (hK:X.K=K:=by rfl) :
  PE X (.Call (.Attribute o name apos) (e::es) [] cpos) (tBM K T r to t):=by
 subst hK
 exact Ao8 pa slot hty hm ho ha hbase hfew hline hs hplain
end
open PySem PySem.Spec PyProof.Rows
abbrev exO (C t:Addr) (tb:Value):Obj:={ cls:=.ref C,data:=.fields #[.ref t,tb,.none,.none,.bool false,.none] }
structure Fx (B:Heap) (l:List Env) (e C t:Addr) (fl:Value) (h:Heap):Prop where
 st:B.StaysIn h
 ne:B.get? e=none
 fr:h.FunFrames B l
 ob:∃(T:Addr) (oT:Obj) (ts:Array Value),h.get? e=some (exO C t (.ref T))∧B.get? T=none∧T≠e∧h.get? T=some oT∧oT.data=.fields ts∧ts[3]?=some fl
theorem Fx.outer{B:Heap}{env:Env}{l:List Env}{e C t:Addr}{fl:Value}{h:Heap}(x:Fx B (env::l) e C t fl h):Fx B l e C t fl h:=⟨x.st,x.ne,x.fr.2.2,x.ob⟩
section
variable {M:Model}{A:Around}{E:Value→Shared→Prop}{s:Shared}{B:Heap}{env:Env}{l:List Env}{e C t L:Addr}
theorem Aek{fl:Value}{Q:Unit→Shared→Prop}(x:Fx B l e C t fl s.heap)(k:∀ h',Fx B l e C t .none h'→s.heap.UpToSlots h'→Q () { s with heap:=h' }):wpAny M A (setFlight (.ref e) none) Q E s:=by
 obtain⟨st,ne,fr,T,oT,ts,hE,hBT,hTe,hT,hdT,h3⟩:=x
 have h3s:3<ts.size:=(Array.getElem?_eq_some_iff.mp h3).1
 unfold setFlight
 refine wpAny_bind (wpAny_field hE rfl (x:=.ref T) rfl ?_)
 rw[if_pos (show(Value.ref T != Value.none)=true by simp)]
 refine wpAny_setField hT hdT h3s (k _ ?_ ?_)
 all_goals
  have oth:∀ b,b≠T→(s.heap.update T (Obj.mapFields (·.setIfInBounds 3 ((none:Option Addr).elim Value.none fun f=>rawInt f)))).get? b=s.heap.get? b:=fun b hb=>Heap.get?_update_other _ _ (Ne.symm hb)
  have AbZ:∀ b o,s.heap.get? b=some o→(∀ vs,o.data≠.fields vs)→b≠T:=fun b o hb hn q=>by
   rw[q,hT] at hb
   cases hb
   exact hn ts hdT
 ·refine⟨fun b o hb=>(oth b fun q=>by rw[q,hBT] at hb;cases hb).trans (st b o hb),ne,fr.of_keeps fun b o hb hn=>⟨o,(oth b (AbZ b o hb hn)).trans hb,rfl⟩,T,_,_,(oth e (Ne.symm hTe)).trans hE,hBT,hTe,
   Heap.get?_update_self _ hT (Obj.isFreed_of_fields (Obj.data_mapFields hdT _)),Obj.data_mapFields hdT _,?_⟩
  simp[h3s]
 ·exact fun b o hb hn=>⟨o.slots,(oth b (AbZ b o hb hn)).trans hb⟩
theorem Afq{tb:Value}{had:Bool}{Q:Unit→Shared→Prop}(hfr:A.frames=some (env::l))(hf:env.frame=some L)(st:B.StaysIn s.heap)(ne:B.get? e=none)(fr:s.heap.FunFrames B (env::l))
  (hE:s.heap.get? e=some (exO C t tb)) (k:∀ h',Fx B (env::l) e C t (rawInt L) h'→s.heap.UpToSlots h'→Q () { s with heap:=h' }) :
  wpAny M A (do let a ← frameOf env;let pl ← entryPlaceOf L had;let b ← EntryCells.newEntry tb a .none (rawInt L) .none pl;setField (.ref e) 1 b) Q E s:=by
 have eF:e∉(env::l).filterMap (·.frame):=fun hm=>by
  obtain⟨_,o,ho,hn⟩:=fr.mem hm
  rw[hE] at ho
  cases ho
  exact hn _ rfl
 refine wpAny_bind (wpAny_frameOf_fun hfr fr hf fun h1 so=>wpAny_bind (wpAny_entryPlaceOf fun pl hpl=>?_))
 unfold EntryCells.newEntry newFields
 refine wpAny_bind (wpAny_newObj_type ?_ (hpl.sizeOk5 _ _ _ _ _))
 have E1:h1.get? e=some (exO C t tb):=(so.2.1 e eF).trans hE
 have st1:B.StaysIn h1:=fun b o hb=>(so.2.1 b fun hm=>by rw[(fr.mem hm).1] at hb;cases hb).trans (st b o hb)
 have TE:h1.objs.size≠e:=ArY (Heap.lt_size E1)
 generalize hN:({ cls:=.type "traceback", dict:=none,data:=.fields ([tb,.ref L,.none,rawInt L,.none]++(if pl.isEmpty then List.replicate 6 Value.none else pl)).toArray }:Obj)=nT
 have E2:(h1.push nT).get? e=some (exO C t tb):=Heap.get?_push_of_some nT E1
 refine wpAny_setField (s:={ s with heap:=h1.push nT }) E2 rfl (by show 1<6;decide) (k _ ?_ ?_)
 all_goals
  have kp:∀ b o,b≠e→h1.get? b=some o→((h1.push nT).update e (Obj.mapFields (·.setIfInBounds 1 (Value.ref h1.objs.size)))).get? b=some o:=fun b o hb q =>
   (Heap.get?_update_other _ _ (Ne.symm hb)).trans (Heap.get?_push_of_some nT q)
  have AbZ:∀ b o,s.heap.get? b=some o→(∀ vs,o.data≠.fields vs)→b≠e:=fun b o hb hn q=>by
   rw[q,hE] at hb
   cases hb
   exact hn _ rfl
 ·have freed:nT.isFreed=false:=by rw[← hN];rfl
  refine⟨fun b o hb=>kp b o (fun q=>by rw[q,ne] at hb;cases hb) (st1 b o hb),ne,fr.of_keeps fun b o hb hn=>?_,h1.objs.size,nT,_,Heap.get?_update_self _ E2 rfl,st1.fresh,TE,
   (Heap.get?_update_other _ _ (Ne.symm TE)).trans (Heap.get?_push_size h1 freed),by rw[← hN],by simp⟩
  obtain⟨sl,q⟩:=so.2.2 b o hb
  exact⟨_,kp b _ (AbZ b o hb hn) q,rfl⟩
 ·intro b o hb hn
  obtain⟨sl,q⟩:=so.2.2 b o hb
  exact⟨sl,kp b _ (AbZ b o hb hn) q⟩
theorem AjC{Q:Unit→Shared→Prop}(hfr:A.frames=some (env::l))(hf:env.frame=some L)(st:B.StaysIn s.heap)(ne:B.get? e=none)(fr:s.heap.FunFrames B (env::l))
  (hE:s.heap.get? e=some (exO C t .none)) (k:∀ h',Fx B (env::l) e C t (rawInt L) h'→s.heap.UpToSlots h'→Q () { s with heap:=h' }):wpAny M A (noteFrame (.ref e) env) Q E s:=by
 unfold noteFrame
 simp only [hf]
 refine wpAny_bind (wpAny_field hE rfl (x:=.none) rfl ?_)
 rw[if_neg (by decide)]
 exact Afq hfr hf st ne fr hE k
theorem AlG{Q:Unit→Shared→Prop}(hfr:A.frames=some (env::l))(hf:env.frame=some L)(x:Fx B (env::l) e C t .none s.heap)
  (k:∀ h',Fx B (env::l) e C t (rawInt L) h'→s.heap.UpToSlots h'→Q () { s with heap:=h' }):wpAny M A (noteFrame (.ref e) env) Q E s:=by
 obtain⟨st,ne,fr,T,oT,ts,hE,hBT,hTe,hT,hdT,h3⟩:=x
 unfold noteFrame
 simp only [hf]
 refine wpAny_bind (wpAny_field hE rfl (x:=.ref T) rfl ?_)
 rw[if_pos (show(Value.ref T != Value.none)=true by simp)]
 refine wpAny_bind (wpAny_field hT hdT h3 ?_)
 rw[if_neg (show ¬((Value.none == rawInt L)=true) by simp[rawInt])]
 refine wpAny_bind (wpAny_setField hT hdT (Array.getElem?_eq_some_iff.mp h3).1 ?_)
 have oth:∀ b,b≠T→(s.heap.update T (Obj.mapFields (·.setIfInBounds 3 Value.none))).get? b=s.heap.get? b:=fun b hb=>Heap.get?_update_other _ _ (Ne.symm hb)
 have AbZ:∀ b o,s.heap.get? b=some o→(∀ vs,o.data≠.fields vs)→b≠T:=fun b o hb hn q=>by
  rw[q,hT] at hb
  cases hb
  exact hn ts hdT
 exact Afq (s:={ s with heap:=s.heap.update T (Obj.mapFields (·.setIfInBounds 3 Value.none)) }) hfr hf (fun b o hb=>(oth b fun q=>by rw[q,hBT] at hb;cases hb).trans (st b o hb)) ne
  (fr.of_keeps fun b o hb hn=>⟨o,(oth b (AbZ b o hb hn)).trans hb,rfl⟩) ((oth e (Ne.symm hTe)).trans hE)
  fun h' y u=>k h' y fun b o hb hn=>u b o ((oth b (AbZ b o hb hn)).trans hb) hn
end
open PySem PySem.Spec PyProof.Rows
section
variable {M:Model}{A:Around}{E:Value→Shared→Prop}{s:Shared}{B:Heap}{env:Env}{l:List Env}{e C t L:Addr}
theorem AdA{fl:Value}{f:Option Addr}{Q:Unit→Shared→Prop}(x:Fx B l e C t fl s.heap)(k:∀ h',Fx B l e C t (f.elim Value.none fun f=>rawInt f) h'→s.heap.UpToSlots h'→Q () { s with heap:=h' }):wpAny M A (setFlight (.ref e) f) Q E s:=by
 obtain⟨st,ne,fr,T,oT,ts,hE,hBT,hTe,hT,hdT,h3⟩:=x
 have h3s:3<ts.size:=(Array.getElem?_eq_some_iff.mp h3).1
 unfold setFlight
 refine wpAny_bind (wpAny_field hE rfl (x:=.ref T) rfl ?_)
 rw[if_pos (show(Value.ref T != Value.none)=true by simp)]
 refine wpAny_setField hT hdT h3s (k _ ?_ ?_)
 all_goals
  have oth:∀ b,b≠T→(s.heap.update T (Obj.mapFields (·.setIfInBounds 3 (f.elim Value.none fun f=>rawInt f)))).get? b=s.heap.get? b:=fun b hb=>Heap.get?_update_other _ _ (Ne.symm hb)
  have AbZ:∀ b o,s.heap.get? b=some o→(∀ vs,o.data≠.fields vs)→b≠T:=fun b o hb hn q=>by
   rw[q,hT] at hb
   cases hb
   exact hn ts hdT
 ·refine⟨fun b o hb=>(oth b fun q=>by rw[q,hBT] at hb;cases hb).trans (st b o hb),ne,fr.of_keeps fun b o hb hn=>⟨o,(oth b (AbZ b o hb hn)).trans hb,rfl⟩,T,_,_,(oth e (Ne.symm hTe)).trans hE,hBT,hTe,
   Heap.get?_update_self _ hT (Obj.isFreed_of_fields (Obj.data_mapFields hdT _)),Obj.data_mapFields hdT _,?_⟩
  simp[h3s]
 ·exact fun b o hb hn=>⟨o.slots,(oth b (AbZ b o hb hn)).trans hb⟩
theorem AjD{Q:Unit→Shared→Prop}(hf:env.frame=some L)(x:Fx B l e C t (rawInt L) s.heap)(k:Q () s):wpAny M A (noteFrame (.ref e) env) Q E s:=by
 obtain⟨st,ne,fr,T,oT,ts,hE,hBT,hTe,hT,hdT,h3⟩:=x
 unfold noteFrame
 simp only [hf]
 refine wpAny_bind (wpAny_field hE rfl (x:=.ref T) rfl ?_)
 rw[if_pos (show(Value.ref T != Value.none)=true by simp)]
 refine wpAny_bind (wpAny_field hT hdT h3 ?_)
 rw[if_pos (show((rawInt L == rawInt L)=true) by simp)]
 exact wpAny_pure k
end
structure Bk (P:Program) (w:World) (outer:List Env) (H:Hp) (h:Heap) (H':Hp) (B h':Heap):Prop where
 ok:HOk P w H' B
 keep:∀ b o,h.get? b=some o→H b=none→b∉frs outer→B.get? b=some o
 slot:∀ b o,h.get? b=some o→b∈frs outer→∃ sl,h'.get? b=some { o with slots:=sl }
 free:∀ b o,h.get? b=some o→H b=none→H' b=none
 there:∀ b o,h.get? b=some o→b∉frs outer→∃ o',B.get? b=some o'
 tups:∀ b xs,H b=some (.tup xs)→H' b=some (.tup xs)
 Ri:∀ b o u,H b=some (.frz o u)→H' b=some (.frz o u)
 S9:∀ b ps,H b=some (.tbl ps)→∃ more,H' b=some (.tbl (ps++more))
theorem Bk.slots{P:Program}{w:World}{outer:List Env}{H H':Hp}{h B h1 h2:Heap}(k:Bk P w outer H h H' B h1)(fr:h1.FunFrames B outer)(u:h1.UpToSlots h2):Bk P w outer H h H' B h2 :=
 ⟨k.ok,k.keep,fun b o q hb=>by
  obtain⟨sl,e⟩:=k.slot b o q hb
  obtain⟨_,o2,e2,n2⟩:=fr.mem hb
  rw[e] at e2
  cases e2
  obtain⟨sl2,e3⟩:=u b _ e n2
  exact⟨sl2,e3⟩,k.free,k.there,k.tups,k.Ri,k.S9⟩
def CX1 (P:Program)(w:World):CXT:=fun outer H s E e s'=>∃ ea C t H' B,e=.ref ea∧Fx B outer ea C t .none s'.heap∧s'.os=s.os∧AllBare s'.gens∧Bk P w outer H s.heap H' B s'.heap∧E (.ref C) none H'
inductive Fly (B:Heap) (l:List Env) (L ea C t:Addr) (h:Heap):Prop where
 | new (st:B.StaysIn h) (ne:B.get? ea=none) (fr:h.FunFrames B l) (ob:h.get? ea=some (exO C t .none))
 | came (x:Fx B l ea C t .none h)
 | seen (x:Fx B l ea C t (rawInt L) h)
theorem Fly.fr{B:Heap}{l:List Env}{L ea C t:Addr}{h:Heap}(x:Fly B l L ea C t h):h.FunFrames B l:=by
 cases x with
 | new st ne fr ob=>exact fr
 | came x=>exact x.fr
 | seen x=>exact x.fr
def FlX (X:Cx)(E:XK):Value→Shared→Prop:=fun e s'=>∃ ea C t H' B,e=.ref ea∧Fly B X.stack X.env.locals ea C t s'.heap∧s'.os=X.s₀.os∧AllBare s'.gens∧Bk X.prog X.w X.outer X.H₀ X.s₀.heap H' B s'.heap∧E (.ref C) none H'
structure Body (X:Cx):Prop where
 stack:X.stack=X.env::X.outer
 frame:X.env.frame=some X.env.locals
 ex:X.ex=[]
section
variable {X:Cx}{pins:List (Addr × Obj)}{σ:St}{H:Hp}{s s':Shared}{E:XK}{e:Value}
theorem Inv.Ai1(I:Inv X pins σ H s){b:Addr}{o:Obj}(q:X.s₀.heap.get? b=some o)(hb:b∉X.fs):b∉frs X.stack:=fun hm=>by
 rcases List.mem_cons.mp (I.ZC b hm) with z | z
 ·rw[z] at q
  exact absurd (Ary (Heap.lt_size q) I.ok.above) (Ar8 _)
 ·exact hb z
theorem AoF(hB:Body X)(I:Inv X pins σ H s)(c:CX1 X.prog X.w X.stack H s E e s'):FlX X E e s':=by
 obtain⟨ea,C,t,H',B,rfl,fx,os,bare,bk,q⟩:=c
 have nx:∀ b:Addr,b∉X.ex:=fun b z=>by rw[hB.ex] at z;exact nomatch z
 have fsS:∀ b,b∈X.fs→b∈frs X.stack:=fun b hb=>by
  rw[hB.stack];unfold frs;rw[Ase,hB.frame];exact ArF _ hb
 refine⟨ea,C,t,H',B,rfl,.came fx,os.trans I.os,bare,⟨bk.ok,fun b o e n hb=>?_,fun b o e hb=>?_,fun b o e n=>?_,fun b o e hb=>?_,fun b xs e=>bk.tups b xs (I.base.tups b xs e),fun b o u e=>bk.Ri b o u (I.base.Ri b o u e),fun b ps e=>?_⟩,q⟩
 ·exact bk.keep b o (I.base.keep b o e n hb (nx b)) (I.base.free b o e n (nx b)) (I.Ai1 e hb)
 ·obtain⟨sl,e1⟩:=I.base.slot b o e (I.ok.frf b hb) hb (nx b)
  obtain⟨sl2,e2⟩:=bk.slot b _ e1 (fsS b hb)
  exact⟨sl2,e2⟩
 ·obtain⟨o',e1⟩:=I.base.there b o e (nx b)
  exact bk.free b o' e1 (I.base.free b o e n (nx b))
 ·obtain⟨o',e1⟩:=I.base.there b o e (nx b)
  exact bk.there b o' e1 (I.Ai1 e hb)
 ·obtain⟨m1,e1⟩:=I.base.S9 b ps e
  obtain⟨m2,e2⟩:=bk.S9 b _ e1
  exact⟨m1++m2,by rw[e2,Array.append_assoc]⟩
theorem AoG{h':Heap}{ea C:Addr}{vs:List Value}(hB:Body X)(I:Inv X pins σ H s)(hx:Heap.MadeExcOf s.heap h' ea (.ref C) vs)(q:E (.ref C) none H):FlX X E (.ref ea) { s with heap:=h' }:=by
 obtain⟨t,ht,_,_⟩:=hx.there
 have nx:∀ b:Addr,b∉X.ex:=fun b z=>by rw[hB.ex] at z;exact nomatch z
 have nfr:∀ b u,H b=some u→b∉frs X.stack:=fun b u e hm=>by rw[I.Xa b hm] at e;cases e
 refine⟨ea,C,t,H,PySem.W.hideAll s.heap (frs X.stack),rfl,.new (fun b o e=>hx.keeps b o (PySem.W.of_hideAll _ e)) ?_ ?_ ht,I.os,I.bare,⟨fun b u e=>?_,fun b o e n hb=>?_,fun b o e hb=>?_,fun b o e n=>I.base.free b o e n (nx b),fun b o e hb=>?_,I.base.tups,I.base.Ri,I.base.S9⟩,q⟩
 ·cases z:(PySem.W.hideAll s.heap (frs X.stack)).get? ea with
  | none=>rfl
  | some o =>
   have:=PySem.W.of_hideAll _ z
   rw[hx.new] at this
   cases this
 ·exact(PySem.W.funFrames_hide I.stack fun env he a ha=>List.mem_filterMap.mpr ⟨env,he,ha⟩).of_keeps fun b o hb _=>⟨o,hx.keeps b o hb,rfl⟩
 ·refine(I.hok b u e).stay (fun c v hc z=>PySem.W.hideAll_get _ z ?_) (fun _ z=>z) fun _ _ z=>z
  rcases hc with z | z
  ·rw[z];exact nfr b u e
  ·exact nfr c _ z
 ·exact PySem.W.hideAll_get _ (I.base.keep b o e n hb (nx b)) (I.Ai1 e hb)
 ·obtain⟨sl,e1⟩:=I.base.slot b o e (I.ok.frf b hb) hb (nx b)
  exact⟨sl,hx.keeps _ _ e1⟩
 ·obtain⟨o',e1⟩:=I.base.there b o e (nx b)
  exact⟨o',PySem.W.hideAll_get _ e1 (I.Ai1 e hb)⟩
theorem Ah3{M:Model}{Q:Unit→Shared→Prop}{E':Value→Shared→Prop}{B:Heap}{ea C t:Addr}(hB:Body X)(hfr:X.A.frames=some X.stack)(x:Fly B X.stack X.env.locals ea C t s.heap)
  (k:∀ h',Fx B X.stack ea C t (rawInt X.env.locals) h'→s.heap.UpToSlots h'→Q () { s with heap:=h' }):wpAny M X.A (noteFrame (.ref ea) X.env) Q E' s:=by
 rw[hB.stack] at x hfr k
 cases x with
 | new st ne fr ob=>exact AjC hfr hB.frame st ne fr ob k
 | came x=>exact AlG hfr hB.frame x k
 | seen x=>exact AjD hB.frame x (k s.heap x (.refl _))
theorem Abr(hB:Body X){B h:Heap}(x:h.FunFrames B X.stack):h.FunFrames B X.outer:=by
 rw[hB.stack] at x
 exact x.2.2
theorem leaveX{M:Model}{E':Value→Shared→Prop}(hB:Body X)(hfr:X.A.frames=some X.stack)(c:FlX X E e s):wpAny M X.A (leaving X.env e) (fun _ s''=>CX1 X.prog X.w X.outer X.H₀ X.s₀ E e s'') E' s:=by
 obtain⟨ea,C,t,H',B,rfl,fx,os,bare,bk,q⟩:=c
 unfold leaving
 refine wpAny_bind (Ah3 hB hfr fx fun h1 x1 u1=>Aek (s:={ s with heap:=h1 }) x1 fun h2 x2 u2=>?_)
 have x3:=x2
 rw[hB.stack] at x3
 exact⟨ea,C,t,H',B,rfl,x3.outer,os,bare,bk.slots (Abr hB fx.fr) (u1.trans u2),q⟩
theorem AoH(hB:Body X)(hfr:X.A.frames=some X.stack):PassesOwn (model X.prog X.w) X.A X.env (FlX X E):=by
 rintro e s ⟨ea,C,t,H',B,rfl,fx,os,bare,bk,q⟩
 unfold notedBy
 refine Ah3 hB hfr fx fun h1 x1 u1=>?_
 obtain⟨T,oT,ts,hE,_⟩:=x1.ob
 unfold cameBackBy
 refine wpAny_bind (wpAny_field (s:={ s with heap:=h1 }) hE rfl (x:=.ref T) rfl ?_)
 rw[if_neg (by simp)]
 refine AdA (s:={ s with heap:=h1 }) (f:=X.env.frame) x1 fun h2 x2 u2=>?_
 rw[hB.frame] at x2
 exact⟨ea,C,t,H',B,rfl,.seen x2,os,bare,bk.slots (Abr hB fx.fr) (u1.trans u2),q⟩
end
open PySem PySem.Spec PyProof.Rows
def Ael (K:PySem.W.Frag)(C:Addr):List Value:=match K.lookup C with
 | some ⟨_,_,.cls cd,_⟩=>cd.mro
 | _=>[]
theorem Aem{K:PySem.W.Frag}{h:Heap}{C:Addr}{bmB:List Value}{nid:String}(X:K.In h)(q:PySem.W.excIn K C bmB nid=true) :
  ∃ bm N nm qn bs hdct sn sub ab col dd k0 k1 k2 k3 k5 mN,Ael K C=.ref C::bm∧h.get? C=some (excClassObj nm qn C N bs bm hdct sn sub ab col dd k0 k1 k2 k3 k5 nid)∧h.Ns N mN∧mN "__init__" = none∧OwnTail h bmB bm:=by
 unfold PySem.W.excIn at q
 split at q
 next dd cd sl ho =>
  split at q
  next C' bm k0 k1 k2 k3 n k5 hm hs =>
   have hM:Ael K C=cd.mro:=by unfold Ael;rw[ho]
   simp only [ArP,beq_iff_eq,Bool.not_eq_true'] at q
   obtain⟨⟨⟨⟨⟨q1,q2⟩,hdel⟩,ht⟩,hok⟩,hni⟩:=q
   subst q1 q2
   have hsl:sl=#[k0,k1,k2,k3,some (.builtin n),k5]:=by rw[← hs]
   rw[hm] at hM
   cases cd
   dsimp only at hm hdel hok hni
   subst hm hdel hsl
   exact⟨bm,_,_,_,_,_,_,_,_,_,dd,k0,k1,k2,k3,k5,_,hM,X _ _ ho,.of_isNs (PySem.W.isNs_of_in X hok),PySem.W.nsMap_none_of_in X hok hni,PySem.W.tail_of_in X ht⟩
  next=>cases q
 next=>cases q
def Anw (C:Addr)(E:XK)(t:TA):TS:=fun _ σ H=>t σ H fun vs H1=>vs.length≤sizeLine∧E (.ref C) none H1
section
variable {X:Cx}{x:Str}{C:Addr}{bmB bmN:List Value}{B Bn nid ApZ iid Aqa:String}{E:XK}{e:Expr}{es:List Expr}{t:TA}{np cpos pos:Pos}
theorem Du(hB:Body X)(hc:X.calm=true)(hw:∀ e s',FlX X E e s'→X.xe e s')(Fn:ExcBaseFacts Bn nid iid bmN)(hn:bmB.contains (.type Bn)=true)(FB:ExcBaseFacts B ApZ Aqa bmB)(q:PySem.W.excIn X.K C bmB nid=true)(hg:Gl X x)(hm:X.mg x=some (.ref C))(ha:PA X.nox (e::es) t)
  (hd:(x == ("__debug__" : Str))=false:=by decide) (he:starEach (e::es) X.env=(false,eval e X.env)::starEach es X.env:=by rfl) (hpl:(backTo cpos (starEach es X.env)).any (·.1)=false:=by rfl) :
  PS X (.Raise (some (.Call (.Name x np) (e::es) [] cpos)) none pos) (Anw C E t):=by
 intro pins s σ H D I h
 obtain⟨bm,N,nm,qn,bs,hdct,sn,sub,ab,col,dd,k0,k1,k2,k3,k5,mN,_,hC,hN,hni,T⟩:=Aem I.ok.mod.kin q
 refine wpAny_Raise_call_subU (N:=N) (C:=C) (k5:=k5) (k3:=k3) (k2:=k2) (k1:=k1) (k0:=k0) (dd:=dd) (col:=col) (ab:=ab) (sub:=sub) (sn:=sn) (hdct:=hdct) (bs:=bs) (q:=qn) (nm:=nm) (newId:=nid) Fn hn FB (mN:=mN) (T.hasType FB.hasBase) (I.ok.hd hc) (by rw[he];show(false || (backTo cpos (starEach es X.env)).any (·.1))=false;rw[hpl];rfl) hni (Xc I hg hm ⟨rfl,?_⟩ hd)
 have h1:=ha cpos pins s σ H _ (I.wish _) h
 rw[he] at h1 ⊢
 refine Calls.evalArgs_plain (wpAny_mono h1 (fun us s2 z=>?_) fun _ _ z=>z.elim)
 obtain⟨vs,H1,I1,r,hl,hE⟩:=z
 have I2:Inv X pins σ H1 s2:=I1.Ow
 exact⟨rfl,by rw[← r.length];exact hl,I2.bk _ _ hC,hN.keeps I2.bk,T.keeps I2.bk,fun h' ea hx=>hw _ _ (AoG hB I2 hx hE)⟩
end
abbrev cx1 (P:Program) (w:World) (K:PySem.W.Frag) (mg:Str→Option Value) (base:Heap) (N:List Str) (qual:Str) (scope:Scope) (f:Addr) (cd:Value) (A:Around) (outer:List Env) (s:Shared) (H:Hp) (E:XK):Cx :=
 (AdW (CX1 P w) P w K mg base N qual scope f cd A outer s H E).wish (FlX (AdW (CX1 P w) P w K mg base N qual scope f cd A outer s H E) E)
section
variable {P:Program}{w:World}{K:PySem.W.Frag}{mg:Str→Option Value}{base:Heap}
theorem Jr{N:List Str}{qual:Str}{scope:Scope}{f:Addr}{cd:Value}{A:Around}{outer:List Env}{s:Shared}{H:Hp}{E:XK}:Body (cx1 P w K mg base N qual scope f cd A outer s H E):=⟨rfl,rfl,rfl⟩
theorem Fun.okX{x qual:Str}{st:Stmt}{f:Addr}{fd:FuncData}{N ps:List Str}{k:Nat}{sp:Sp}(F:Fun K x qual st f fd)(S:Ay N ps (Af st))(len:∀ vs H Q E,sp vs H Q E→vs.length=ps.length)
  (hbody:∀(cdv:Value) (A:Around) (outer:List Env) (s:Shared) (H:Hp) (vs:List V) (Q:VK) (E:XK),Mu k (A.deeper (envOfC qual (Af st) s.heap.objs.size f cdv))→sp vs H Q E →
   ∃ t,PSs (cx1 P w K mg base N qual (Af st) f cdv A outer s H E) (Qw st) t∧t { nx:=fun _ H'=>Q .non H',rt:=Q } (start N vs) H):Aj P w K mg base (CX1 P w) (k+1) f fd ps sp:=by
 obtain⟨oc,od,kV,doc,pm,an,cdv,ct,osl,rfl,lk,hcd⟩:=F.ex
 refine AmD lk hcd S len fun A outer s H vs Q E hr hsp=>?_
 obtain⟨t,h,q⟩:=hbody cdv A outer s H vs Q E hr hsp
 refine⟨t,fun pins s1 σ H1 D I h1=>?_,q⟩
 exact wpAny_mono (h pins s1 σ H1 D (I.wish _) h1) (fun _ _ z=>z.Ow) fun e s' z=>leaveX (X:=AdW (CX1 P w) P w K mg base N qual (Af st) f cdv A outer s H E) ⟨rfl,rfl,rfl⟩ I.ok.frames z
theorem Gv{N:List Str}{qual:Str}{scope:Scope}{f:Addr}{cd:Value}{A:Around}{outer:List Env}{s:Shared}{H:Hp}{E:XK} :
  Passes (CX1 P w) (cx1 P w K mg base N qual scope f cd A outer s H E) E:=fun _ _ _ _ _ _ I c=>AoF ⟨rfl,rfl,rfl⟩ I.Ow c
end
theorem PS.nox{X:Cx}{st:Stmt}{t:TS}(h:PS X.nox st t):PS X st t:=fun pins s σ H D I hw =>
 wpAny_mono (h pins s σ H D (I.wish _) hw) (fun _ _ q=>q.Ow) fun _ _ z=>False.elim z
def PEX (X:Cx)(e:Expr)(t:XK→TE):Prop:=∀(pins:List (Addr × Obj)) (s:Shared) (σ:St) (H:Hp) (Q:VK) (E:XK),Inv X pins σ H s→t E σ H Q →
 wpAny (model X.prog X.w) X.A (eval e X.env) (EP X pins σ Q) (fun ex s'=>∃ H1 s1,Inv X pins σ H1 s1∧CX1 X.prog X.w X.stack H1 s1 E ex s') s
section
variable {X:Cx}{k:Nat}{f C:Addr}{fd:FuncData}{ps:List Str}{sp:Sp}{dvs:List V}{ds:List Value}{x m:Str}{p pos apos:Pos}{e o:Expr}{es:List Expr}{ta:TE}{t:TA}
theorem AlH{pins:List (Addr × Obj)}{σ:St}{H:Hp}{s:Shared}{Q:VK}{E:XK}{us:List Value}{vs:List V}(F:Aj X.prog X.w X.K X.mg X.base (CX1 X.prog X.w) k f fd ps sp)(hr:Mu k X.A)(hb:Binds X.K fd ps ds)(hd:Vals dvs ds)
  (I:Inv X pins σ H s) (r:Vals vs us) (h:sp (vs++dvs) H Q E):wpAny (model X.prog X.w) X.A (call (.ref f) us) (EP X pins σ Q) (fun ex s'=>∃ H1 s1,Inv X pins σ H1 s1∧CX1 X.prog X.w X.stack H1 s1 E ex s') s:=by
 have r2:Vals (vs++dvs) (us++ds):=r.append hd
 have hl:(us++ds).length=ps.length:=(r2.length.symm).trans (F.len _ _ _ _ h)
 refine wpAny_call (codeAny_mono (F.run X.A X.stack s H ⟨us,[]⟩ (us++ds) (vs++dvs) Q E hr I.env0 (hb s us I.kIn hl) r2 h) fun rs s' hq=>?_)
 match rs,hq with
 | .error e,hq=>exact⟨H,s,I,hq⟩
 | .ok (.ret u),hq=>exact I.after hq
 | .ok .next,hq=>exact False.elim hq
 | .ok .brk,hq=>exact False.elim hq
 | .ok .cont,hq=>exact False.elim hq
theorem AjE(F:Aj X.prog X.w X.K X.mg X.base (CX1 X.prog X.w) k f fd ps sp)(hr:Mu k X.A)(hg:Gl X x)(hm:X.mg x=some (.ref f))(hk:PySem.W.keepIn X.K (.ref f)=true)(hb:Binds X.K fd ps ds)(hd:Vals dvs ds)
  (ha:PA X.nox (e::es) t) (hdb:(x == ("__debug__" : Str))=false:=by decide) (he:starEach (e::es) X.env=(false,eval e X.env)::starEach es X.env:=by rfl) (hpl:(backTo pos (starEach es X.env)).any (·.1)=false:=by rfl) :
  PEX X (.Call (.Name x p) (e::es) [] pos) fun E=>AmB sp dvs E t:=by
 intro pins s σ H Q E I h
 refine wpAny_Call_Name_kw (Xc I hg hm ?_ hdb)
 refine PySem.W.callWith_K (h₀:=X.base) I.ok.mod.kin hk (wpAny_mono (ha pos pins s σ H _ (I.wish _) h) (fun us s1 ⟨vs,H1,I1,r,q⟩=>⟨I1.kIn,?_⟩) fun _ _ z=>z.elim) he hpl
 exact AlH F hr hb hd (I1.Ow) r q
end
open PySem PySem.Spec PyProof.Rows
def exH (C a:Addr):HO:=.ext fun h=>∃ t tb,h.get? a=some (exO C t tb)
theorem Mq.get{P:Program}{w:World}{H:Hp}{h:Heap}{a:Addr}{o:HO}(x:Mq P w H h a o):∃ u,h.get? a=some u:=by
 induction o with
 | lst xs=>obtain⟨_,_,_,_,e⟩:=x;exact⟨_,e⟩
 | tup xs=>obtain⟨_,_,_,_,e,_⟩:=x;exact⟨_,e⟩
 | dK kvs=>obtain⟨_,_,_,_,_,_,_,e,_⟩:=x;exact⟨_,e⟩
 | dT kvs=>obtain⟨_,_,_,_,_,_,_,e,_⟩:=x;exact⟨_,e⟩
 | set S n=>obtain⟨_,_,_,_,e,_⟩:=x;exact⟨_,e⟩
 | ins C dx fs=>obtain⟨_,_,_,e,_⟩:=x;exact⟨_,e⟩
 | own y=>obtain⟨_,e⟩:=x;exact⟨_,e⟩
 | xd fs=>obtain⟨_,⟨_,_,_,e,_⟩,_⟩:=x;exact⟨_,e⟩
 | rng lo hi=>obtain⟨_,_,_,e⟩:=x;exact⟨_,e⟩
 | frz ob u ih=>obtain⟨e,_⟩:=x;exact⟨_,e⟩
 | tbl ps=>exact⟨_,x⟩
 | met f y=>exact⟨_,x⟩
 | ext φ=>exact x.2.1
section
variable {X:Cx}{pins:List (Addr × Obj)}{σ:St}{H H':Hp}{s s':Shared}{B h2:Heap}{ea C t:Addr}{fl:Value}
theorem Bk.none{P:Program}{w:World}{outer:List Env}{h h':Heap}(k:Bk P w outer H h H' B h')(ne:B.get? ea=Option.none):H' ea=Option.none:=by
 cases q:H' ea with
 | none=>rfl
 | some o =>
  obtain⟨u,e⟩:=(k.ok ea o q).get
  rw[ne] at e
  cases e
theorem Ah4(I:Inv X pins σ H s)(os:s'.os=s.os)(bare:AllBare s'.gens)(bk:Bk X.prog X.w X.stack H s.heap H' B h2)(fx:Fx B X.stack ea C t fl h2) :
  Inv X pins σ (upd H' ea (exH C ea)) { s' with heap:=h2 }:=by
 have hn:=bk.none fx.ne
 obtain⟨T,oT,ts,hE,_⟩:=fx.ob
 have ne:∀ b o,s.heap.get? b=some o→b≠ea:=fun b o e z=>by
  by_cases hb:b∈frs X.stack
  ·obtain⟨_,o2,e2,n2⟩:=fx.fr.mem hb
   rw[z,hE] at e2
   cases e2
   exact n2 _ rfl
  ·obtain⟨o',e1⟩:=bk.there b o e hb
   rw[z,fx.ne] at e1
   cases e1
 have nt:∀ b u,H' b=some u→b≠ea:=fun b u e z=>by
  rw[z,hn] at e
  cases e
 obtain⟨hh,g,d,tk,os'⟩:=s'
 obtain rfl:os'=s.os:=os
 refine I.call (s:=s) (h':=h2) (g':=g) (d':=d) (t':=tk) (ch:=[]) ⟨fun b o e n hb _=>fx.st _ _ (bk.keep b o e n hb),fun b o e n hb _=>bk.slot b o e hb,fun b o e n _=>?_,fun b o e _=>?_,fun b xs e=>?_,fun b o u e=>?_,fun b ps e=>?_⟩ (fun b u e=>?_) bare (fun b z=>nomatch z)
 ·rw[Ba (ne b o e)]
  exact bk.free b o e n
 ·by_cases hb:b∈frs X.stack
  ·obtain⟨sl,e1⟩:=bk.slot b o e hb
   exact⟨_,e1⟩
  ·obtain⟨o',e1⟩:=bk.there b o e hb
   exact⟨o',fx.st _ _ e1⟩
 ·have e1:=bk.tups b xs e
  rw[Ba (nt _ _ e1)]
  exact e1
 ·have e1:=bk.Ri b o u e
  rw[Ba (nt _ _ e1)]
  exact e1
 ·obtain⟨m1,e1⟩:=bk.S9 b ps e
  exact⟨m1,by rw[Ba (nt _ _ e1)];exact e1⟩
 ·by_cases hb:b=ea
  ·subst hb
   rw[Ad] at e
   cases e
   exact⟨⟨t,_,hE⟩,⟨_,hE⟩,fun h1 h3 ⟨t',tb',q⟩ k=>⟨t',tb',k _ q⟩⟩
  ·rw[Ba hb] at e
   refine(bk.ok b u e).stay (fun c v _ q=>fx.st _ _ q) (fun c q=>?_) fun c xs q=>?_
   ·rw[Ba (nt _ _ q)];exact q
   ·rw[Ba (nt _ _ q)];exact q
abbrev Cx.hdl (X:Cx) (e:Addr):Cx:={ X with A:=X.A.mark (some (.ref e)),calm:=false,xe:=fun _ _=>False }
theorem Inv.hdl(I:Inv X pins σ H s)(e:Addr):Inv (X.hdl e) pins σ H s :=
 ⟨⟨I.ok.mod,I.ok.kind,I.ok.glob,I.ok.blt,I.ok.above,I.ok.inj,I.ok.has,I.ok.cab,(fun z=>nomatch z),I.ok.frames,I.ok.stk,I.ok.exf,I.ok.bs,I.ok.bsz,I.ok.AaU,I.ok.Z9,I.ok.VG,I.ok.frf⟩,I.os,I.bare,I.base,I.loc,I.cell,I.free,I.Q7,I.pin,I.hok,I.len⟩
theorem Inv.Ah5{e:Addr}(hd:X.calm=true→X.A.handled=none)(I:Inv (X.hdl e) pins σ H s):Inv X pins σ H s :=
 ⟨⟨I.ok.mod,I.ok.kind,I.ok.glob,I.ok.blt,I.ok.above,I.ok.inj,I.ok.has,I.ok.cab,hd,I.ok.frames,I.ok.stk,I.ok.exf,I.ok.bs,I.ok.bsz,I.ok.AaU,I.ok.Z9,I.ok.VG,I.ok.frf⟩,I.os,I.bare,I.base,I.loc,I.cell,I.free,I.Q7,I.pin,I.hok,I.len⟩
end
open PySem PySem.Spec PyProof.Rows
section
variable {M:Model}{A:Around}{E:Value→Shared→Prop}{h:Heap}{g:Array GenState}{d:Drawn}{t:Nat}{os:OsState}
theorem Afr{K:PySem.W.Frag}{C D e:Addr}{bC bD:List Value}{nC nD:String}{oe:Obj}{Q:Bool→Shared→Prop}(X:K.In h)(qC:PySem.W.excIn K C bC nC=true)(qD:PySem.W.excIn K D bD nD=true)
  (hb:bD.contains (.type "BaseException")=true) (he:h.get? e=some oe) (hc:oe.cls=.ref C) (hq:Q ((Ael K C).contains (.ref D)) ⟨h,g,d,t,os⟩):wpAny M A (excMatches (.ref e) (.ref D)) Q E ⟨h,g,d,t,os⟩:=by
 obtain⟨bm1,_,_,_,_,_,_,_,_,_,_,_,_,_,_,_,_,e1,hC,_,_,T1⟩:=Aem X qC
 obtain⟨bm2,_,_,_,_,_,_,_,_,_,_,_,_,_,_,_,_,_,hD,_,_,T2⟩:=Aem X qD
 have hcB:(Value.ref D::bm2).contains (.type "BaseException")=true:=by rw[List.contains_cons,T2.hasType hb,Bool.or_true]
 have f:=tc_notTuple
 rw[e1] at hq
 unfold excMatches
 repeat (first | (with_reducible refine wpAny_loadPart_at he ?_;rw[hc]) | with_reducible refine wpAny_loadPart_at hD ?_ | (with_reducible refine wpAny_isSubtype_exc hD ?_;rw[hcB]) | with_reducible refine wpAny_isSubtype_exc hC ?_ | wp_step)
 all_goals (revert hq;cases (Value.ref C::bm1).contains (Value.ref D) <;> intro hq)
 all_goals (repeat (first | exact hq | wp_step))
end
abbrev WX (X:Cx) (pins:List (Addr × Obj)) (σ:St) (E:XK):Value→Shared→Prop:=fun ex s'=>∃ H1 s1,Inv X pins σ H1 s1∧CX1 X.prog X.w X.stack H1 s1 E ex s'
def PSX (X:Cx)(st:Stmt)(t:XK→TS):Prop:=∀(pins:List (Addr × Obj)) (s:Shared) (σ:St) (H:Hp) (D:Ends) (E:XK),Inv X pins σ H s→t E D σ H→wpAny (model X.prog X.w) X.A (exec st X.env) (SP X pins D) (WX X pins σ E) s
def Anx (X:Cx)(st:List Stmt)(t:XK→TS):Prop:=∀(pins:List (Addr × Obj)) (s:Shared) (σ:St) (H:Hp) (D:Ends) (E:XK),Inv X pins σ H s→t E D σ H→wpAny (model X.prog X.w) X.A (execs st X.env) (SP X pins D) (WX X pins σ E) s
section
variable {X:Cx}{e:Expr}{t u:XK→TS}{te:XK→TE}{pos:Pos}{st:Stmt}
theorem AjF(h:PSX X st t):Anx X [st] t:=by
 intro pins s σ H D E I h1
 refine wpAny_execs_cons (thn (h pins s σ H D E I h1) fun f s1 q=>?_)
 match f,q with
 | .next,q=>exact wpAny_execs_nil q
 | .brk,q=>exact q
 | .cont,q=>exact q
 | .ret u,q=>exact q
theorem AlI{i:Nat}{x:Str}{pos':Pos}(hN:X.N.Nodup)(hi:X.N[i]?=some x)(hx:Loc X.env.scope x)(he:PEX X e te)(hs:swapsWith e (some (.Name x pos')) pos.line X.env=pure false:=by rfl)
  (hf:X.fn x=true∨X.env.scope.names.lookup x=some .local:=by first | exact .inl rfl | exact .inr rfl | assumption):PSX X (.Assign [.Name x pos'] e pos) fun E=>Ags (te E) (R1 i):=by
 intro pins s σ H D E I h
 refine wpAny_Assign_Name (thn (he pins s σ H _ E I h) fun v s1 ⟨y,H1,I1,r1,q1⟩=>?_) hs
 exact AbG I1 hN hi hx r1 (fun s2 I2=>⟨_,H1,I2,q1⟩) hf
abbrev Ends.un (D:Ends) (j:Nat):Ends:={ nx:=fun σ H=>D.nx (σ.set j none) H,rt:=D.rt,bk:=fun σ H=>D.bk (σ.set j none) H,ct:=fun σ H=>D.ct (σ.set j none) H }
def Sub (K:PySem.W.Frag)(C D:Addr):Prop:=(∃ bm nid,PySem.W.excIn K C bm nid=true)∧(Ael K C).contains (.ref D)=true
def AqZ (K:PySem.W.Frag)(Ch:Addr)(j:Nat)(t:XK→TS)(ts:TS):TS:=fun D σ H=>t (fun c _ H'=>∃ C,c=.ref C∧Sub K C Ch∧∀ ea,H' ea=none→ts (D.un j) (σ.set j (some (.ref ea))) (upd H' ea (exH C ea))) D σ H
end
open PySem PySem.Spec PyProof.Rows
structure ExC (K:PySem.W.Frag) (C:Addr):Prop where
 ga:PySem.W.findIn K (.ref C) "__getattribute__" = some (some (.builtin "BaseException.__getattribute__"))
 gt:PySem.W.findIn K (.ref C) "__getattr__" = some none
 cl:PySem.W.findIn K (.ref C) "__class__" = some (some (.builtin "object.__class__"))
 gc:PySem.W.specialIn K (.builtin "object.__class__") "__get__" = some (some (.builtin "getset_descriptor.__get__"))
 tk:PySem.W.takesIn K (.builtin "object.__class__")=some true
 ob:PySem.W.mroIn K C (.type "object")=some true
 be:PySem.W.mroIn K C (.type "BaseException")=some true
 is:(PySem.W.clsIn K C).isSome=true
section
variable {prog:Program}{w:World}{A:Around}{E:Value→Shared→Prop}{s:Shared}{K:PySem.W.Frag}{x C t:Addr}{tb:Value}
end
def Ara (K:PySem.W.Frag):List V→Hp→VK→Prop:=fun vs H Q=>∃ a C b,H a=some (exH C a)∧ExC K C ∧
 ((∃ n,vs=[.ref a,.ty n]∧PySem.W.kitOne K (.ref C) (.type n)=some b)∨(∃ D,vs=[.ref a,.ref D]∧PySem.W.kitOne K (.ref C) (.ref D)=some b))∧Q (.bl b) H
section
variable {X:Cx}{K:PySem.W.Frag}
variable {CX:CXT}{k:Nat}{ps:List Str}{sp:Addr→Sp}{E:XK}{m:Str}{pos apos:Pos}{o:Expr}{ta:TE}
def Aqb (K:PySem.W.Frag)(m:Str)(sp:Addr→Sp)(E:XK)(ta:TE):TE:=fun σ H Q=>ta σ H fun x H1=>∃ a C,x=.ref a∧H1 a=some (exH C a)∧sp C [x] H1 Q E
end
open PySem PySem.Spec PyProof.Rows
abbrev vE:List Value:=[.type "ValueError", .type "Exception", .type "BaseException", .type "object"]
abbrev vN:String := "ValueError.__new__"
structure Exn (K:PySem.W.Frag) (C:Addr):Prop where
 q:PySem.W.excIn K C vE vN=true
 c:ExC K C
 ty:PySem.W.typeIn K (.ref C)=some (.type "type")
 ve:PySem.W.mroIn K C (.type "ValueError")=some true
theorem Aen{K:PySem.W.Frag}{C:Addr}(q:PySem.W.excIn K C vE vN=true)(ga:PySem.W.findIn K (.ref C) "__getattribute__" = some (some (.builtin "BaseException.__getattribute__"))) (gt:PySem.W.findIn K (.ref C) "__getattr__" = some none)
  (cl:PySem.W.findIn K (.ref C) "__class__" = some (some (.builtin "object.__class__"))) (gc:PySem.W.specialIn K (.builtin "object.__class__") "__get__" = some (some (.builtin "getset_descriptor.__get__"))) (tk:PySem.W.takesIn K (.builtin "object.__class__")=some true)
  (ob:PySem.W.mroIn K C (.type "object")=some true) (be:PySem.W.mroIn K C (.type "BaseException")=some true) (is:PySem.W.isClsIn K C=true) (ty:PySem.W.typeIn K (.ref C)=some (.type "type")) (ve:PySem.W.mroIn K C (.type "ValueError")=some true):Exn K C :=
 ⟨q,⟨ga,gt,cl,gc,tk,ob,be,is⟩,ty,ve⟩
theorem Afs:vE.contains (.type "BaseException")=true:=by decide
theorem GJ:vE.contains (.type "ValueError")=true:=by decide
section
variable {X:Cx}{CX:CXT}{k:Nat}{C f:Addr}{fd:FuncData}{ps:List Str}{sp:Sp}{E:XK}{m:Str}{pos apos:Pos}{o:Expr}{ta:TE}
def Aqc (C:Addr)(sp:Sp)(E:XK)(ta:TE):TE:=fun σ H Q=>ta σ H fun x H1=>∃ a,x=.ref a∧H1 a=some (exH C a)∧sp [x] H1 Q E
end
def Ed (s:Stmt):List Stmt:=match s with
 | .ClassDef _ _ _ b _ _ _ _ _ _ _=>b
 | _=>[]
structure Mf (K:PySem.W.Frag) (x q:Str) (st:Stmt) (ps:List Str) (C f:Addr) (fd:FuncData):Prop where
 F:Fun K x q st f fd
 m:Meth K C x f
 b:Binds K fd ps []
open PySem PySem.Spec PyProof.Rows
section
variable {X:Cx}{t:XK→TS}{pos:Pos}
def Aq2 (K:PySem.W.Frag)(Ch:Addr)(t:XK→TS)(ts:TS):TS:=fun D σ H=>t (fun c _ H'=>∃ C,c=.ref C∧Sub K C Ch∧∀ ea,H' ea=none→ts D σ (upd H' ea (exH C ea))) D σ H
end
open PySem PySem.Spec PyProof.Rows
theorem Exn.has{K:PySem.W.Frag}{C D:Addr}{b:Bool}(r:PySem.W.mroIn K C (.ref D)=some b):(Ael K C).contains (.ref D)=b:=by
 obtain⟨cd,h1,h2⟩:=Option.bind_eq_some_iff.mp r
 unfold PySem.W.clsIn at h1
 unfold Ael
 split at h1
 next c d cd' sl ho =>
  cases h1
  rw[ho]
  dsimp only
  split at h2
  ·cases h2
  ·exact Option.some.inj h2
 ·cases h1
section
variable {X:Cx}{t:XK→TS}{pos:Pos}
def pick(K:PySem.W.Frag)(C:Addr):List (Addr × TS)→TS
 | []=>fun _ _ _=>False
 | (Ch,ts)::l=>fun D σ H=>((Ael K C).contains (.ref Ch)=true∧ts D σ H)∨((Ael K C).contains (.ref Ch)=false∧pick K C l D σ H)
def AoI (K:PySem.W.Frag)(l:List (Addr × TS))(t:XK→TS):TS:=fun D σ H=>t (fun c _ H'=>∃ C,c=.ref C∧(∃ bm nid,PySem.W.excIn K C bm nid=true)∧∀ ea,H' ea=none→pick K C l D σ (upd H' ea (exH C ea))) D σ H
inductive HL (X:Cx):List ExceptHandler→List (Addr × TS)→Prop
 | nil:HL X [] []
 | cons {suite:List Stmt} {b₀:Stmt} {ts:TS} {x:Str} {Ch:Addr} {bmB:List Value} {nid:String} {np hpos:Pos} {hs:List ExceptHandler} {l:List (Addr × TS)}
   (hg:Gl X x) (hm:X.mg x=some (.ref Ch)) (hq:PySem.W.excIn X.K Ch bmB nid=true) (hbs:bmB.contains (.type "BaseException")=true) (hs':∀ ea,PSs (X.hdl ea) (b₀::suite) ts) (hd:(x == ("__debug__" : Str))=false) (r:HL X hs l) :
   HL X (.ExceptHandler (some (.Name x np)) none (b₀::suite) hpos::hs) ((Ch,ts)::l)
theorem AlJ{body:List Stmt}{h₀:ExceptHandler}{hs:List ExceptHandler}{l:List (Addr × TS)}(hB:Body X)(hc:X.calm=true)(hb:Anx X body t)(L:HL X (h₀::hs) l) :
  PS X (.Try body (h₀::hs) [] [] pos) (AoI X.K l t):=by
 intro pins s σ H D I h
 refine wpAny_Try_except (wpAny_mono (hb pins s σ H D _ I h) (fun f s1 q=>?_) fun ex s1 z=>?_)
 ·match f,q with
  | .next,q=>exact wpAny_execs_nil q
  | .brk,q=>exact q
  | .cont,q=>exact q
  | .ret u,q=>exact q
 ·obtain⟨H1,s0,I0,ea,C,t0,H',B,rfl,fx,os,bare,bk,C',eC,⟨bC,nC,qC⟩,ht⟩:=z
  obtain rfl:C=C':=by cases eC;rfl
  refine Ah3 hB I.ok.frames (.came fx) fun h1 x1 u1=>Aek (s:={ s1 with heap:=h1 }) x1 fun h2 x2 u2=>?_
  have bk2:=(bk.slots fx.fr u1).slots x1.fr u2
  have I2:Inv X pins σ (upd H' ea (exH C ea)) { s1 with heap:=h2 }:=Ah4 I0 os bare bk2 x2
  replace ht:=ht ea (bk.none fx.ne)
  generalize hhs:h₀::hs=all at L ⊢
  clear hhs h
  induction L with
  | nil=>exact ht.elim
  | cons hg hm hq hbs hs' hd r ih =>
   refine wpAny_handleBy_cons (codeAny_handlers_test (Xc (X:=X.hdl ea) (I2.hdl ea) hg hm ?_ hd)) (by intro q;cases q)
   obtain⟨T,oT,tt,hE,_⟩:=id x2.ob
   refine Afr I2.kIn qC hq hbs hE rfl ?_
   rcases ht with ⟨sub,ht⟩ | ⟨sub,ht⟩
   ·rw[sub]
    refine codeAny_handlers_suite ?_
    refine Aek (s:={ s1 with heap:=h2 }) x2 fun h3 x3 u3=>?_
    have I3:Inv X pins σ (upd H' ea (exH C ea)) { s1 with heap:=h3 }:=Ah4 I0 os bare (bk2.slots x2.fr u3) x3
    refine wpAny_mono (hs' ea pins _ _ _ _ (I3.hdl ea) ht) (fun f s5 q=>?_) fun _ _ z=>z.elim
    match f,q with
    | .next,⟨σ',H5,J,q⟩=>exact⟨σ',H5,J.Ah5 I.ok.hd,q⟩
    | .brk,⟨σ',H5,J,q⟩=>exact⟨σ',H5,J.Ah5 I.ok.hd,q⟩
    | .cont,⟨σ',H5,J,q⟩=>exact⟨σ',H5,J.Ah5 I.ok.hd,q⟩
    | .ret u,⟨v,σ',H5,J,r,q⟩=>exact⟨v,σ',H5,J.Ah5 I.ok.hd,r,q⟩
   ·rw[sub]
    exact ih ht
end
open PySem PySem.Spec PyProof.Rows
open Builtin Builtin.Str
def AaX (u:List Nat)(lo hi:Option Int):List Nat:=(u.drop (HT.sIx u.length 0 lo)).take (HT.sIx u.length u.length hi-HT.sIx u.length 0 lo)
theorem Anz(a b:Nat):sliceRange (a:Int) (b:Int) 1=(List.range (b-a)).map fun k=>a+k:=by
 unfold sliceRange
 simp only [show(1:Int)>0 by decide,if_true]
 by_cases h:(a:Int)<(b:Int)
 ·rw[if_pos h,Int.ediv_one,show(b:Int)-(a:Int)+1-1=((b-a:Nat):Int) by omega,Ar7]
  exact List.map_congr_left fun k _=>by omega
 ·rw[if_neg h,show b-a=0 by omega]
  rfl
theorem Xf(n d:Nat)(i:Int):max 0 (min (if i<0 then i+(n:Int) else i) (n:Int))=(HT.sIx n d (some i):Int):=by
 show _=(((if i<0 then (i+(n:Int)).toNat else min i.toNat n):Nat):Int)
 by_cases h:i<0
 ·rw[if_pos h,if_pos h];omega
 ·rw[if_neg h,if_neg h];omega
theorem idx_eq(n:Nat)(lo hi:Option Int):strSliceIndices lo hi 1 n=(List.range (HT.sIx n n hi-HT.sIx n 0 lo)).map fun k=>HT.sIx n 0 lo+k:=by
 rw[← Anz]
 cases lo with
 | none =>
  cases hi with
  | none=>rfl
  | some j=>rw[← Xf];rfl
 | some i =>
  cases hi with
  | none=>rw[← Xf n 0 i];rfl
  | some j=>rw[← Xf n 0 i,← Xf n n j];rfl
theorem AjG(u:List Nat)(lo hi:Option Int):Txt.slice (tx u) lo hi=tx (AaX u lo hi):=by
 unfold Txt.slice AaX
 rw[Ah,idx_eq]
 have hle:HT.sIx u.length u.length hi≤u.length:=HT.Ann _ _ (Art _) _
 have key:∀(a k:Nat),a+k≤u.length→((List.range k).map fun j=>a+j).filterMap (fun i=>(tx u).cps[i]?)=(u.drop a).take k:=by
  intro a k
  induction k with
  | zero=>intro _;simp
  | succ k ih =>
   intro h
   rw[Asi,Arz,List.filterMap_append,ih (by omega)]
   have:a+k<u.length:=by omega
   simp only [Arx,ArT,Ase,List.filterMap_nil,U7,Aru this]
   rw[List.take_succ,AsH,Aru this]
   rfl
 split
 next h =>
  simp only [Arq,ArH,ArP,beq_iff_eq] at h
  have h2:=h.2
  have:HT.sIx u.length 0 lo=0∨u.length=0:=by omega
  rcases this with e | e
  ·rw[e,List.drop_zero,ArS (by omega)]
  ·rw[AsM e];simp
 next h =>
  by_cases hlt:HT.sIx u.length 0 lo≤HT.sIx u.length u.length hi
  ·show(Str.mk _)=_
   rw[key _ _ (by omega)]
   rfl
  ·have e:HT.sIx u.length u.length hi-HT.sIx u.length 0 lo=0:=by omega
   rw[e]
   simp[tx]
theorem Ag8{u:List Nat}{k:Nat}(h:k≤u.length):AaX u none (some (k:Int))=u.take k:=by
 unfold AaX
 rw[HT.Afi,HT.YC,List.drop_zero,Asp h,Nat.sub_zero]
section
variable {X:Cx}
theorem Wa:SlR X (fun x lo hi H Q=>∃ u:List Nat,x=.str (tx u)∧u.length≤sizeLine∧Q (.str (tx (AaX u lo hi))) H):=by
 intro pins s σ H x v vl vu lo hi sl Q I rx hs pl pu h
 obtain⟨u,rfl,hz,q⟩:=h
 obtain⟨t,rfl⟩:=rx
 rw[← AjG] at q
 refine⟨"str", _,F.slot_str_getitem.lookup,typeIs_str _ _ _,?_⟩
 have hsz:(tx u).length≤sizeLine:=by rw[Ah];exact hz
 obtain⟨os,hos,hcs,hds⟩:=id hs
 have fin:∀(l u':Option (Int × Tok)),s.heap.IsSlice sl l u' none→Q (.str (Txt.slice (tx u) (l.map (·.1)) (u'.map (·.1)))) H→wpAny (model X.prog X.w) X.A (getItem (.str (tx u) t) (.ref sl)) (EP X pins σ Q) X.xe s:=fun l u' z q' =>
  wpAny_getItem_str_slice z rfl (post_val_or_str ⟨ArC (Txt.slice_le (tx u) _ _) hsz,fun t' k=>⟨.str _,H,I.tok _,⟨t',rfl⟩,q'⟩⟩)
 cases pl with
 | none=>cases pu with
  | none=>exact fin none none ⟨os,hos,hcs,hds⟩ q
  | int j tj=>exact fin none (some (j,tj)) ⟨os,hos,hcs,hds⟩ q
 | int i ti=>cases pu with
  | none=>exact fin (some (i,ti)) none ⟨os,hos,hcs,hds⟩ q
  | int j tj=>exact fin (some (i,ti)) (some (j,tj)) ⟨os,hos,hcs,hds⟩ q
end
open PySem PySem.Spec PyProof.Rows
theorem Aca:∀(xs:List V) (us:List Value),xs.length=us.length→(∀(i:Nat) x u,xs[i]?=some x→us[i]?=some u→RelV x u)→Vals xs us
 | [],[],_,_=>.nil
 | [],_::_,h,_=>by simp at h
 | _::_,[],h,_=>by simp at h
 | x::xs,u::us,h,p=>.cons (p 0 x u rfl rfl) (Aca xs us (by simpa using h) fun i y v e1 e2=>p (i+1) y v e1 e2)
def Arb (p:Addr)(a b c:Int):HO:=.ext fun h=>∃ t u v,IsRange h p a b c t u v
def AoJ (a c:Int)(n:Nat):List Int:=(List.range n).map fun(i:Nat)=>a+(i:Int)*c
section
variable {X:Cx}{K:PySem.W.Frag}
theorem Ai2:R3 X (.type "int") (fun xs H Q=>∃ z n,xs=[.str z]∧PySem.intText? z=some n∧z.length≤640∧Q (.int n) H):=by
 intro pins s σ H xs us Q I rv h
 obtain⟨z,n,rfl,hn,hl,q⟩:=h
 obtain⟨u,rfl,t,rfl⟩:=rv.one
 exact PySem.W.KIN.call_text hn hl ⟨.int n,H,I.tok _,⟨_,rfl⟩,q⟩
end
open PySem PySem.Spec PyProof.Rows
section
variable {X:Cx}{K:PySem.W.Frag}{o e value:Expr}{f:Str}{pos pos' tpos:Pos}{ta tv:TE}{st:Stmt}{t:TS}
theorem Ke(he:PE X e ta)(hb:attributeBase e f X.env (eval e X.env)=eval e X.env)(hK:X.K=K:=by rfl):PE X (.Attribute e f pos) (Ao0 K ta f):=by subst hK;exact Ani he hb
theorem YH(ha:PE X o ta)(hv:PE X value tv)(hs:swapsWith value (some (.Attribute o f pos')) pos.line X.env=pure false:=by rfl)(hK:X.K=K:=by rfl):PS X (.Assign [.Attribute o f pos'] value pos) (Ao1 K ta tv f):=by subst hK;exact Anj ha hv hs
theorem Ag9{op:Operator}{rd:V→V→Hp→VK→Prop}(ha:PE X o ta)(hv:PE X value tv)(hop:Anh X op rd)(hK:X.K=K:=by rfl):PS X (.AugAssign (.Attribute o f tpos) op value pos) (Ahy K ta tv rd f):=by subst hK;exact Aip ha hv hop
theorem AmG(h:X.A.frames=some X.stack→PS X st t):PS X st t:=fun pins s σ H D I hw=>h I.ok.frames pins s σ H D I hw
end
structure Own (K:PySem.W.Frag) (C f:Addr):Prop where
 c:Cls K C
 m:Mk K C f
theorem An0{K:PySem.W.Frag}{C f:Addr}(h1:PySem.W.plainGet K C Str.empty=true)(h2:PySem.W.hasDictIn K C=true)(h3:PySem.W.plainOver K C=true)(h4:PySem.W.findIn K (.ref C) "__setattr__" = some (some (.builtin "object.__setattr__")))
  (h5:PySem.W.makesIn K C=true) (h6:PySem.W.findIn K (.ref C) "__init__" = some (some (.ref f))) (h7:PySem.W.isFn K (.ref f)=true) (h8:PySem.W.keepIn K (.ref C)=true):Own K C f:=⟨⟨h1,h2,h3,h4⟩,⟨h5,h6,h7,h8⟩⟩
open PySem PySem.Spec PyProof.Rows
structure AoK (K:PySem.W.Frag) (C:Addr) (m:Str) (f:Addr):Prop where
 rd:PySem.W.readsIn K C (.type "type")=true
 fi:PySem.W.findCls K (.ref C) (.type "type") m=some (.val (.ref f))
 ha:PySem.W.handedIn (.ref f)=true
 sp:PySem.W.specialIn K (.ref C) "__getattribute__" = some (some (.builtin "type.__getattribute__"))
 kp:PySem.W.keepIn K (.ref f)=true
def AoL (C:Addr)(sp:Sp)(dvs:List V)(E:XK)(ta:TE)(t:TA):TE:=fun σ H Q=>ta σ H fun x H1=>x=.ref C∧t σ H1 fun vs H2=>sp (vs++dvs) H2 Q E
section
variable {X:Cx}{CX:CXT}{k:Nat}{f C:Addr}{fd:FuncData}{ps:List Str}{sp:Sp}{dvs:List V}{ds:List Value}{E:XK}{m:Str}{pos apos:Pos}{e o:Expr}{es:List Expr}{ta:TE}{t:TA}
theorem Li{pl:Sem Bool}(he:PE X o ta)(M:AoK X.K C m f)(F:Aj X.prog X.w X.K X.mg X.base CX k f fd ps sp)(hr:Mu k X.A)(hb:Binds X.K fd ps ds)(hd:Vals dvs ds)(hx:Passes CX X E)(ha:PA X (e::es) t)
  (hst:starEach (e::es) X.env=(false,eval e X.env)::starEach es X.env:=by rfl) (hpl:(backTo pos (starEach es X.env)).any (·.1)=false:=by rfl)
  (ht:eval (.Call (.Attribute o m apos) (e::es) [] pos) X.env=(do
   let ov ← eval o X.env
   standAt apos.atName
   let (f,first) ← holding [ov] (getMethod ov m pl)
   callWith pos f first (backTo pos (starEach (e::es) X.env)) (backToKw pos (keywordEach [] X.env))):=by rfl) :
  PE X (.Call (.Attribute o m apos) (e::es) [] pos) (AoL C sp dvs E ta t):=by
 intro pins s σ H Q I h
 refine PySem.W.methodCall_KW (pl:=pl) (thn (he pins s σ H _ I h) fun u s1 ⟨x,H1,I1,rx,ex,q⟩=>?_) ht
 subst ex
 obtain rfl:u=Value.ref C:=rx
 refine PySem.W.method_cls I1.kIn M.sp (PySem.W.cls_value I1.kIn M.rd M.fi M.ha ?_)
 refine PySem.W.callWith_K (first:=[]) (h₀:=X.base) I.ok.mod.kin M.kp (thn (ha pos pins _ σ H1 _ (I1.tok (s1.toks+1)) q) fun us s2 ⟨vs,H2,I2,r,q2⟩=>⟨I2.kIn,?_⟩) hst hpl
 exact AbL (us:=us) (vs:=vs) F hr hb hd hx I2 r q2
end
open PySem PySem.Spec PyProof.Rows
section
variable {κ:Type} [DecidableEq κ]
def Ai3 (kvs:List (κ × V))(k:κ):Option V:=(kvs.find? fun kv=>decide (kv.1=k)).map (·.2)
def putK(kvs:List (κ × V))(k:κ)(v:V):List (κ × V) :=
 if (kvs.any fun kv=>decide (kv.1=k))=true then kvs.map (fun kv=>if kv.1=k then (kv.1,v) else kv) else kvs++[(k,v)]
def AjH (kvs:List (κ × V))(k:κ):List (κ × V):=kvs.filter fun kv=>decide (kv.1≠k)
end
abbrev KT (H:Hp):List (List Key × V)→List (List Key × Addr × Value)→Prop:=Paired fun p q=>p.1=q.1∧H q.2.1=some (.tup (p.1.map kV))∧RelV p.2 q.2.2
section
variable {P:Program}{w:World}{H:Hp}{h:Heap}{a:Addr}
end
def Ai4 (H:Hp)(a:Addr)(y:V)(r:Option V):Prop :=
 (∃ kvs k,Rd H a (.dK kvs)∧y=kV k∧r=Ai3 kvs k)∨∃ kvs k b,Rd H a (.dT kvs)∧y=.ref b∧H b=some (.tup (k.map kV))∧r=Ai3 kvs k
def AoM (H:Hp)(a:Addr)(y v:V)(H':Hp):Prop :=
 (∃ kvs k,H a=some (.dK kvs)∧y=kV k∧kvs.length<sizeLine∧H'=upd H a (.dK (putK kvs k v))) ∨
 ∃ kvs k b,H a=some (.dT kvs)∧y=.ref b∧H b=some (.tup (k.map kV))∧kvs.length<sizeLine∧H'=upd H a (.dT (putK kvs k v))
section
variable {X:Cx}{pins:List (Addr × Obj)}{σ:St}{H:Hp}{s:Shared}{a:Addr}{y v:V}{u r:Value}{o:Option V}{A:Around}{E:Value→Shared→Prop}
end
section
variable {X:Cx}{pins:List (Addr × Obj)}{σ:St}{H:Hp}{s:Shared}{a:Addr}{kvs:List (Key × V)}{k:Key}{u:Value}{A:Around}{E:Value→Shared→Prop}
end
def AoN (i:Expr):Prop:=∀ ov iv,subscripted i false ov iv=operate [ov,iv] (getItem ov iv)
theorem AlK{prog:Program}{w:World}{A:Around}{E:Value→Shared→Prop}{s:Shared}{env:Env}{value slice:Expr}{pos:Pos}{T id:String}{Q:Value→Shared→Prop}
  (hl:typeLookup (.type T) "__getitem__" = pure (some (.builtin id))) (hs:AoN slice)
  (h:wpAny (model prog w) A (eval value env) (fun o s₁=>wpAny (model prog w) A (eval slice env) (fun i s₂=>s₂.TypeIs o T∧wpAny (model prog w) A (getItem o i) Q E s₂) E s₁) E s) :
  wpAny (model prog w) A (eval (.Subscript value slice pos) env) Q E s:=by
 refine Subscript_ (wpAny_mono h (fun o s₁ h₁=>wpAny_mono h₁ (fun i s₂ h₂=>?_) fun _ _ x=>x) fun _ _ x=>x)
 obtain⟨hT,h₂⟩:=h₂
 unfold subscriptTail
 refine wpAny_bind ?_
 rw[getitemInPython_of_ne hT.not_modules]
 refine wpAny_bind (wpAny_specialOf hT hl ?_)
 have fin:wpAny (model prog w) A (subscripted slice false o i) (fun r s₃=>wpAny (model prog w) A (letTemporaryGo value o r >>= fun _=>pure r) Q E s₃) E s₂:=by
  rw[hs o i]
  exact wpAny_operating (wpAny_mono h₂ (fun r s₃ h₃=>wpAny_bind (wpAny_letTemporaryGo (wpAny_pure h₃))) fun _ _ x=>x)
 first
  | exact wpAny_pure (wpAny_bind fin)
  | exact wpAny_bind (wpAny_pure (wpAny_bind fin))
  | exact wpAny_bind fin
def Aq3 (td ty:TE):TE:=fun σ H Q=>td σ H fun x H1=>ty σ H1 fun y H2=>∃ a v,x=.ref a∧Ai4 H2 a y (some v)∧Q v H2
def Arc (ty td:TE):TE:=fun σ H Q=>ty σ H fun y H1=>td σ H1 fun x H2=>∃ a o,x=.ref a∧Ai4 H2 a y o∧Q (.bl o.isSome) H2
def Apx (ty td:TE):TE:=fun σ H Q=>ty σ H fun y H1=>td σ H1 fun x H2=>∃ a o,x=.ref a∧Ai4 H2 a y o∧Q (.bl (!o.isSome)) H2
def Aq4 (td ty tv:TE):TS:=fun D σ H=>tv σ H fun v H1=>td σ H1 fun x H2=>ty σ H2 fun y H3=>∃ a H4,x=.ref a∧AoM H3 a y v H4∧D.nx σ H4
def Aq5 (td ty tv:TE)(rd:V→V→Hp→VK→Prop):TS:=fun D σ H=>td σ H fun x H1=>ty σ H1 fun y H2=>∃ a v,x=.ref a∧Ai4 H2 a y (some v) ∧
 tv σ H2 fun y2 H3=>rd v y2 H3 fun z H4=>∃ H5,AoM H4 a y z H5∧D.nx σ H5
def Aq6 (td ty:TE):TS:=fun D σ H=>td σ H fun x H1=>ty σ H1 fun y H2=>∃ a kvs k,x=.ref a∧H2 a=some (.dK kvs)∧y=kV k∧(Ai3 kvs k).isSome=true∧D.nx σ (upd H2 a (.dK (AjH kvs k)))
section
variable {X:Cx}{o i e value:Expr}{pos pos' tpos:Pos}{td ty tv:TE}
end
def Aqd:TE:=fun _ H Q=>∀ p,H p=none→Q (.ref p) (upd H p (.dK []))
def Aqe:TE:=fun _ H Q=>∀ p,H p=none→Q (.ref p) (upd H p (.dT []))
section
variable {X:Cx}{pos:Pos}
end
def AgA:List (TE × TE)→St→Hp→(List (V × V)→Hp→Prop)→Prop
 | [],_,H,Q=>Q [] H
 | (tk,tv)::r,σ,H,Q=>tk σ H fun x H1=>tv σ H1 fun y H2=>AgA r σ H2 fun ps H3=>Q ((x,y)::ps) H3
abbrev VV:List (V × V)→List (Value × Value)→Prop:=Paired fun p q=>RelV p.1 q.1∧RelV p.2 q.2
def PPs (X:Cx)(pos:Pos)(keys:List (Option Expr))(values:List Expr)(trs:List (TE × TE)):Prop :=
 ∀(pins:List (Addr × Obj)) (s:Shared) (σ:St) (H:Hp) (Q:List (V × V)→Hp→Prop),Inv X pins σ H s→AgA trs σ H Q →
  wpAny (model X.prog X.w) X.A (evalPairs (pairTrees keys values X.env pos)) (fun vs s'=>∃ ps H',Inv X pins σ H' s'∧VV ps vs∧Q ps H') X.xe s
def An1 (kvs more:List (Key × V)):List (Key × V):=more.foldl (fun acc kv=>putK acc kv.1 kv.2) kvs
def Aq7 (trs:List (TE × TE)):TE:=fun σ H Q=>∀ p,H p=none→AgA trs σ (upd H p (.dK [])) fun ps H2=>H2 p=some (.dK [])∧∃ kvs:List (Key × V),ps=kvs.map (fun kv=>(kV kv.1,kv.2))∧kvs.length≤15∧Q (.ref p) (upd H2 p (.dK (An1 [] kvs)))
structure M1 (X:Cx) (o:Expr) (m:Str) (apos:Pos) (e:Expr) (cpos:Pos):Prop where
 base:attributeBase o m X.env (eval o X.env)=eval o X.env
 few:((backTo cpos (starEach [e] X.env)).all (fun x=>!x.1) && (backToKw cpos (keywordEach [] X.env)).all (fun x=>x.1.isSome)
  && decide (([e]:List Expr).length+([]:List Keyword).length+(if ([]:List Keyword).isEmpty then 0 else 1)<30))=true
 line:(apos.endLine == cpos.line)=true
 trees:backTo cpos (starEach [e] X.env)=[(false,eval e X.env)]
structure M2 (X:Cx) (o:Expr) (m:Str) (apos:Pos) (e f:Expr) (cpos:Pos):Prop where
 base:attributeBase o m X.env (eval o X.env)=eval o X.env
 few:((backTo cpos (starEach [e,f] X.env)).all (fun x=>!x.1) && (backToKw cpos (keywordEach [] X.env)).all (fun x=>x.1.isSome)
  && decide (([e,f]:List Expr).length+([]:List Keyword).length+(if ([]:List Keyword).isEmpty then 0 else 1)<30))=true
 line:(apos.endLine == cpos.line)=true
 trees:backTo cpos (starEach [e,f] X.env)=[(false,eval e X.env),(false,eval f X.env)]
def IsD (H:Hp)(a:Addr):Prop:=(∃ kvs,Rd H a (.dK kvs))∨∃ kvs,Rd H a (.dT kvs)
section
variable {X:Cx}{pins:List (Addr × Obj)}{σ:St}{H:Hp}{s:Shared}{a:Addr}{y d:V}{u r:Value}{o:Option V}{A:Around}{E:Value→Shared→Prop}
end
def Aqf (td ty:TE):TE:=fun σ H Q=>td σ H fun x H1=>∃ a,x=.ref a∧IsD H1 a∧ty σ H1 fun y H2=>∃ o,Ai4 H2 a y o∧Q (o.getD .non) H2
def Aqg (td ty tx:TE):TE:=fun σ H Q=>td σ H fun x H1=>∃ a,x=.ref a∧IsD H1 a∧ty σ H1 fun y H2=>tx σ H2 fun z H3=>∃ o,Ai4 H3 a y o∧Q (o.getD z) H3
def Aqh (td ty:TE):TE:=fun σ H Q=>td σ H fun x H1=>∃ a,x=.ref a∧IsD H1 a∧ty σ H1 fun y H2=>∃ kvs k v,H2 a=some (.dK kvs)∧y=kV k∧Ai3 kvs k=some v∧Q v (upd H2 a (.dK (AjH kvs k)))
def Aqi (td ty tx:TE):TE:=fun σ H Q=>td σ H fun x H1=>∃ a,x=.ref a∧IsD H1 a∧ty σ H1 fun y H2=>tx σ H2 fun z H3=>∃ kvs k,H3 a=some (.dK kvs)∧y=kV k ∧
 (∀ v,Ai3 kvs k=some v→Q v (upd H3 a (.dK (AjH kvs k))))∧(Ai3 kvs k=none→Q z H3)
section
variable {X:Cx}{o e f:Expr}{apos cpos:Pos}{td ty tx:TE}
end
section
variable {X:Cx}{pins:List (Addr × Obj)}{σ:St}{H:Hp}{s:Shared}{a:Addr}{kvs:List (Key × V)}{A:Around}{E:Value→Shared→Prop}
end
section
variable {X:Cx}{pins:List (Addr × Obj)}{σ:St}{H:Hp}{s:Shared}{a:Addr}{y:V}{u:Value}{A:Around}{E:Value→Shared→Prop}
end
open PySem PySem.Spec PyProof.Rows
section
variable {X:Cx}
end
section
variable {κ:Type} [DecidableEq κ]
end
open PySem PySem.Spec PySem.Calls PyProof.Rows PyProof.Rows.KTD
def Top (K:PySem.W.Frag)(a:Addr)(D:List (Str × Str)):Prop:=∀ h:Heap,K.In h→TextTab h a (D.map fun p=>(p.1,Dat.flat (.str p.2)))
theorem An2{K:PySem.W.Frag}{a:Addr}{D:List (Str × Str)}(hl:tabLook (datLooks fun b=>K.lookup b) (fun b=>K.lookup b) a (D.map fun p=>(p.1,Dat.flat (.str p.2)))=true):Top K a D:=fun h X=>text_of_look (fun b o e=>X b o e) hl
def lk (D:List (Str × Str))(k:Str):Option Str:=(D.find? fun p=>decide (p.1=k)).map (·.2)
theorem AdB(k:Str):∀ D:List (Str × Str),inKeys k (D.map fun p=>(p.1,Dat.flat (.str p.2)))=(lk D k).isSome
 | []=>rfl
 | p::D=>by
  have ih:=AdB k D
  unfold lk at ih ⊢
  rw[Arx,List.find?_cons]
  by_cases c:p.1=k
  ·simp[inKeys,c]
  ·have c':¬k=p.1:=fun z=>c z.symm
   simp[inKeys,c,c']
   simpa using ih
theorem AmH{k v:Str}:∀{D:List (Str × Str)},lk D k=some v→∃ d,datumAt k (D.map fun p=>(p.1,Dat.flat (.str p.2)))=some d∧d=Dat.flat (.str v)
 | [],h=>by simp[lk] at h
 | p::D,h=>by
  unfold lk at h
  rw[List.find?_cons] at h
  by_cases c:p.1=k
  ·simp[c] at h
   subst h
   exact⟨_,by simp[datumAt,c],rfl⟩
  ·have c':¬k=p.1:=fun z=>c z.symm
   simp only [c,decide_false] at h
   obtain⟨d,e1,e2⟩:=AmH (D:=D) h
   exact⟨d,by simp[datumAt,c',e1],e2⟩
def Ai5 (a:Addr)(D:List (Str × Str))(ty td:TE):TE:=fun σ H Q=>ty σ H fun y H1=>td σ H1 fun x H2=>∃ k,y=.str k∧x=.ref a∧Q (.bl (!(lk D k).isSome)) H2
def AlL (a:Addr)(D:List (Str × Str))(td ty:TE):TE:=fun σ H Q=>td σ H fun x H1=>ty σ H1 fun y H2=>∃ k v,y=.str k∧x=.ref a∧lk D k=some v∧Q (.str v) H2
section
variable {X:Cx}{o i:Expr}{pos:Pos}{td ty:TE}{a:Addr}{D:List (Str × Str)}
theorem Afu(T:Top X.K a D)(hi:PE X i ty)(ho:PE X o td):PC X .NotIn i o (Ai5 a D ty td):=by
 intro pins s σ H Q I h
 refine thn (hi pins s σ H _ I h) fun iv s1 ⟨y,H1,I1,ry,q1⟩=>thn (ho pins s1 σ H1 _ I1 q1) fun u s2 ⟨x,H2,I2,rx,k,ey,ex,q2⟩=>?_
 subst ey ex
 obtain⟨tk,rfl⟩:=ry
 obtain rfl:u=Value.ref a:=rx
 refine notin_text (h₀:=s2.heap) ⟨T s2.heap I2.kIn,fun b o e=>e⟩ ?_
 rw[AdB]
 exact⟨.bl _,H2,I2.tok _,rfl,q2⟩
theorem Afv{A:Around}{E:Value→Shared→Prop}{s:Shared}{pins:List (Addr × Obj)}{σ:St}{H:Hp}{k v:Str}{tk:Tok}{Q:Value→Shared→Prop}(T:Top X.K a D)(I:Inv X pins σ H s)(e:lk D k=some v)(h:∀ t s',Inv X pins σ H s'→Q (.str v t) s') :
  wpAny (model X.prog X.w) A (getItem (.ref a) (.str k tk)) Q E s:=by
 have T':Here s.heap s.heap a (D.map fun p=>(p.1,Dat.flat (.str p.2))):=⟨T s.heap I.kIn,fun b o e=>e⟩
 unfold getItem
 try with_reducible refine wpAny_holding ?_
 refine wpAny_bind (wpAny_sequenceKey T'.typeIs (by decide) ?_)
 refine wpAny_bind (wpAny_callSpecial?_slot (name:=Str.ofString "__getitem__") T'.typeIs PySem.F.slot_dict_getitem
  (wpAny_call_entry PySem.F.slot_dict_getitem T'.typeIs PySem.F.entry_dict_getitem ?_ (args_dict_getitem _ _)))
 show wpAny _ _ (dictGet a (.str k tk) >>= _) _ _ s
 obtain⟨d,hd,ed⟩:=AmH e
 refine wpAny_bind (dictGet_text T' (fun d' v' ha hv=>wpAny_pure ⟨v',rfl,wpAny_pure ?_⟩) fun hn=>by rw[hd] at hn;cases hn)
 rw[hd] at ha
 cases ha
 subst ed
 exact Opened.of (P:=fun x=>Q x _) (opened_str fun t=>h t _ (I.tok _)) v' hv
theorem Ai6(T:Top X.K a D)(ho:PE X o td)(hi:PE X i ty)(hs:AoN i):PE X (.Subscript o i pos) (AlL a D td ty):=by
 intro pins s σ H Q I h
 refine AlK PySem.F.slot_dict_getitem.lookup hs (thn (ho pins s σ H _ I h) fun u s1 ⟨x,H1,I1,rx,q1⟩=>thn (hi pins s1 σ H1 _ I1 q1) fun iv s2 ⟨y,H2,I2,ry,k,v,ey,ex,el,q2⟩=>?_)
 subst ex ey
 obtain rfl:u=Value.ref a:=rx
 obtain⟨tk,rfl⟩:=ry
 have T':Here s2.heap s2.heap a (D.map fun p=>(p.1,Dat.flat (.str p.2))):=⟨T s2.heap I2.kIn,fun b o e=>e⟩
 exact⟨T'.typeIs,Afv T I2 el fun t s3 I3=>⟨.str v,H2,I3,⟨t,rfl⟩,q2⟩⟩
end
open PySem PySem.Spec PyProof.Rows
def Aq8 (K:PySem.W.Frag)(no:Bool):R2:=fun x y H Q=>∃(z:Str) (q:Addr) (ys:List Str),x=.str z∧y=.ref q∧SqT K H q (ys.map V.str)∧Q (.bl (no != ys.any (· == z))) H
section
variable {X:Cx}{K:PySem.W.Frag}
end
def AoO (K:PySem.W.Frag)(a:Addr)(ys:List Str):Prop:=∀ H:Hp,SqT K H a (ys.map V.str)
theorem AlM{K:PySem.W.Frag}{a:Addr}{o:Obj}{its:Array Value}{n:Nat}{ys:List Str}(e:K.lookup a=some o)(c:o.cls=.type "tuple") (d:o.data=.seq its n) (z:its.size≤sizeLine) (r:Vals (ys.map V.str) its.toList):AoO K a ys:=fun _=>.inr ⟨o,its,n,e,c,d,z,r⟩
open PySem PySem.Spec PyProof.Rows
structure Isa (K:PySem.W.Frag) (C:Addr):Prop where
 ha:PySem.W.findIn K (.ref C) "__class__" = some (some (.builtin "object.__class__"))
 hn:PySem.W.specialIn K (.builtin "object.__class__") "__get__" = some (some (.builtin "getset_descriptor.__get__"))
 htk:PySem.W.takesIn K (.builtin "object.__class__")=some true
 hm:PySem.W.mroIn K C (.type "object")=some true
theorem Isa.ty{K:PySem.W.Frag}{C a dx:Addr}{fs:List (Str × V)}{H:Hp}(h:Isa K C)(cl:Cls K C)(e:H a=some (.ins C dx fs)):YB K H (.ref a) (.ref C):=.ins e cl h.ha h.hn h.htk h.hm
open PySem PySem.Spec PyProof.Rows
structure DfH (K:PySem.W.Frag) (x:Str) (st:Stmt) (f:Addr) (fd:FuncData):Prop where
 a:PySem.W.nsIn K mainGlobals x=some (some (.ref f))
 F:Fun K x x st f fd
structure MfH (K:PySem.W.Frag) (x q:Str) (st:Stmt) (C f:Addr) (fd:FuncData):Prop where
 m:PySem.W.findIn K (.ref C) x=some (some (.ref f))
 g:PySem.W.isFn K (.ref f)=true
 F:Fun K x q st f fd
structure ClH (K:PySem.W.Frag) (x:Str) (C:Addr):Prop where
 n:PySem.W.nsIn K mainGlobals x=some (some (.ref C))
 o1:PySem.W.plainGet K C Str.empty=true
 o2:PySem.W.hasDictIn K C=true
 o3:PySem.W.plainOver K C=true
 o4:PySem.W.findIn K (.ref C) "__setattr__" = some (some (.builtin "object.__setattr__"))
 o5:PySem.W.makesIn K C=true
 o8:PySem.W.keepIn K (.ref C)=true
structure IsH (K:PySem.W.Frag) (C B:Addr):Prop where
 v1:PySem.W.findIn K (.ref C) "__class__" = some (some (.builtin "object.__class__"))
 v4:PySem.W.mroIn K C (.type "object")=some true
structure ExH (K:PySem.W.Frag) (x:Str) (C:Addr):Prop where
 n:PySem.W.nsIn K mainGlobals x=some (some (.ref C))
 y2:PySem.W.findIn K (.ref C) "__getattribute__" = some (some (.builtin "BaseException.__getattribute__"))
 y3:PySem.W.findIn K (.ref C) "__getattr__" = some none
 y4:PySem.W.findIn K (.ref C) "__class__" = some (some (.builtin "object.__class__"))
 y7:PySem.W.mroIn K C (.type "object")=some true
 y8:PySem.W.mroIn K C (.type "BaseException")=some true
 y9:PySem.W.isClsIn K C=true
 y10:PySem.W.typeIn K (.ref C)=some (.type "type")
 y11:PySem.W.mroIn K C (.type "ValueError")=some true
section
variable {K:PySem.W.Frag}{mg:Str→Option Value}{h:Heap}
theorem DfH.df{x:Str}{st:Stmt}{f:Addr}{fd:FuncData}{ps:List Str}(D:DfH K x st f fd)(X:K.In h)(G:h.Ns mainGlobals mg)
  (hb:∀ kV dc pm an cd ct us,us.length=ps.length→bindArgs (PySem.W.fnOf x x (SM st) (Qw st) (Af st) .none kV dc pm an cd ct) ⟨us,[]⟩=pure (ps.zip us)):Df K mg x st ps f fd:=⟨D.F,PySem.W.mg_of X G D.a,D.F.binds hb⟩
theorem MfH.meth{x q:Str}{st:Stmt}{C f:Addr}{fd:FuncData}(D:MfH K x q st C f fd):Meth K C x f:=⟨D.m,D.g,D.F.2⟩
theorem MfH.mf{x q:Str}{st:Stmt}{C f:Addr}{fd:FuncData}{ps:List Str}(D:MfH K x q st C f fd)
  (hb:∀ kV dc pm an cd ct us,us.length=ps.length→bindArgs (PySem.W.fnOf x q (SM st) (Qw st) (Af st) .none kV dc pm an cd ct) ⟨us,[]⟩=pure (ps.zip us)):Mf K x q st ps C f fd:=⟨D.F,D.meth,D.F.binds hb⟩
theorem ClH.own{x q:Str}{st:Stmt}{C f:Addr}{fd:FuncData}(D:ClH K x C)(I:MfH K "__init__" q st C f fd):Own K C f:=An0 D.o1 D.o2 D.o3 D.o4 D.o5 I.m I.g D.o8
theorem MfH.inh{x q:Str}{st:Stmt}{C B f:Addr}{fd:FuncData}(D:MfH K x q st B f fd)(m:PySem.W.findIn K (.ref C) x=some (some (.ref f))):Meth K C x f:=⟨m,D.g,D.F.2⟩
end
open PySem PySem.Spec PyProof.Rows
section
variable {X:Cx}{tg:Expr}
def Aqj (ta:TA):TI:=fun σ H R=>ta σ H fun vs H1=>∃ i j:Int,vs=[.int i,.int j]∧R (Itr i (j-i).toNat) H1
end
section
variable {X:Cx}
theorem Afw(l:List Nat):∀(k:Nat) (acc:List Nat),List.foldl (fun x1 x2=>x1++x2) acc.toArray (List.replicate k l.toArray)=(acc++(List.replicate k l).flatten).toArray
 | 0,acc=>by simp
 | k+1,acc=>by
  have e:acc.toArray++l.toArray=(acc++l).toArray:=by simp
  have e2:(acc++l)++(List.replicate k l).flatten=acc++(List.replicate (k+1) l).flatten:=by
   rw[ArJ,ArB,ArQ]
  rw[← e2,← Afw l k (acc++l),← e,ArJ,As3]
def AoP:R2:=fun x y H Q=>∃ u n,x=.str (tx u)∧y=.int n∧0≤n∧n≤1000000∧u.length*n.toNat≤sizeLine∧Q (.str (tx (List.replicate n.toNat u).flatten)) H
theorem Xg:OpR X (binaryOp .Mult) AoP:=by
 intro pins s σ H x y v z Q I rx ry h
 obtain⟨u,n,rfl,rfl,h0,h1,h2,q⟩:=h
 obtain⟨t,rfl⟩:=rx
 obtain⟨t',rfl⟩:=ry
 have hsz:sizeLine=16777216:=sizeLine_eq
 have hlen:(tx u).length=u.length:=Ah u
 refine P.mul_str ?_ (fun c1 c2=>?_) (fun c1 c2=>?_) ?_
 ·rw[decide_eq_false (by omega),decide_eq_false (by omega)]
  rfl
 ·rw[hlen]
  have hn:0<n:=by omega
  have hm:(u.length:Int)*n≤16777216:=by
   have e:n=(n.toNat:Int):=by omega
   rw[e,← Asb]
   omega
  have:(u.length:Int)≤(2 ^ 63-1) / n:=(Int.le_ediv_iff_mul_le hn).mpr (by omega)
  omega
 ·rw[hlen]
  exact decide_eq_false (by omega)
 ·split
  ·next c =>
   have e:n=0:=by omega
   rw[e] at q
   exact⟨by decide,.str (tx []),H,I.tok _,⟨_,rfl⟩,q⟩
  ·split
   ·next c =>
    have e:tx (List.replicate n.toNat u).flatten=tx u:=by
     simp only [Bool.or_eq_true,beq_iff_eq] at c
     rcases c with c | c
     ·rw[c];simp
     ·rw[hlen] at c
      rw[AsM c]
      simp
    rw[e] at q
    exact⟨.str (tx u),H,I,⟨_,rfl⟩,q⟩
   ·have hf:(⟨(List.replicate n.toNat (tx u).cps).foldl (·++·) #[]⟩:Str)=tx (List.replicate n.toNat u).flatten:=by
     have:=Afw u n.toNat []
     simp only [As5] at this
     exact congrArg Str.mk this
    rw[hf]
    refine⟨?_,.str (tx (List.replicate n.toNat u).flatten),H,I.tok _,⟨_,rfl⟩,q⟩
    rw[Ah,len_rep,ArV]
    exact h2
def Aqk:V→List V→Hp→VK→Prop:=fun x vs H Q=>∃ u c,x=.str (tx u)∧vs=[.str ⟨#[c]⟩]∧Q (.int (u.count c:Nat)) H
end
open PySem PySem.Spec PyProof.Rows
section
variable {X:Cx}{K:PySem.W.Frag}
def Aq9 (K:PySem.W.Frag):List V→Hp→VK→Prop:=fun vs H Q=>∃(a C p:Addr) (Ds:List Addr) (b:Bool),vs=[.ref a,.ref p]∧H a=some (exH C a)∧ExC K C∧H p=some (.tup (Ds.map V.ref))∧PySem.W.kitAny K (.ref C) (Ds.map Value.ref)=some b∧Q (.bl b) H
end
open PySem PySem.Spec PyProof.Rows
theorem Inv.Xh{X:Cx}{pins:List (Addr × Obj)}{σ:St}{H:Hp}{s:Shared}{h':Heap}{t':Nat}{its:List Addr}(I:Inv X pins σ H s)
  (k:∀ b o,b∉its→s.heap.get? b=some o→h'.get? b=some o) (hf:∀ b∈its,Ou X pins H b):Inv X pins σ H { s with heap:=h',toks:=t' }:=by
 have nit:∀ b u,H b=some u→b∉its:=fun b u e z=>by
  have:=(hf b z).1
  rw[this] at e
  cases e
 have nL:X.env.locals∉its:=fun z=>(hf _ z).2.1 rfl
 refine I.step (g':=s.gens) (d':=s.drawn) (ch:=its) (fun b hb=>?_) (fun b o _ _ hc e _=>k b o hc e) (fun b o _ _ hc e _=>⟨o.slots,k b o hc e⟩) (fun _ _ _ _ n=>n)
  (fun b o hc e=>⟨o,k b o hc e⟩) (fun _ _ e=>e) (fun _ _ _ e=>e) (fun b ps e=>⟨#[],by rw[e];simp⟩) (fun m hm=>?_) (fun b u e=>?_) I.bare
 ·obtain⟨_,h2,_,h4,h5,h6⟩:=hf b hb
  exact⟨h4,h2,h5,h6⟩
 ·obtain⟨o,es,ep,ho,r⟩:=hm
  exact⟨o,es,ep,k _ o nL ho,r⟩
 ·refine(I.hok b u e).stay (fun c v hc q=>k c v ?_ q) (fun _ q=>q) fun _ _ q=>q
  rcases hc with z | z
  ·rw[z];exact nit b u e
  ·exact nit c _ z
def Itz (K:PySem.W.Frag)(a b:Addr):It where
 go:=fun i H=>∃ xs ys x y,SqL K H a xs∧SqL K H b ys∧xs[i]?=some x∧ys[i]?=some y
 yld:=fun i H x H'=>∃ T,x=.ref T∧H T=none∧∀ xs ys u v,SqL K H a xs→SqL K H b ys→xs[i]?=some u→ys[i]?=some v→H'=upd H T (.tup [u,v])
 stop:=fun i H=>∃ xs ys,SqL K H a xs∧SqL K H b ys∧(xs.length≤i∨ys.length≤i)
def AoQ (z TI TO i1 i2 a b:Addr)(i:Nat)(h:Heap):Prop:=IsZip h z TI TO .none∧IsPair h TI (.ref i1) (.ref i2)∧(∃ p q,IsPair h TO p q)∧h.IsListIter i1 a i∧h.IsListIter i2 b i
theorem AjI{P:Program}{w:World}{K:PySem.W.Frag}{es:List Expr}{kx:Nat}{tp:Pos}{z TI TO i1 i2 a b:Addr}(D:ZipApart z TI TO i1 i2 a b) :
  Turn P w K (.Tuple es kx tp) (Itz K a b) [z,TI,TO,i1,i2] z (AoQ z TI TO i1 i2 a b) where
 mem:=by simp
 obj:=fun i h st c hc=>by
  obtain⟨s1,s2,⟨p,q,s3⟩,s4,s5⟩:=st
  simp only [Ar3,Ar4,or_false] at hc
  rcases hc with e | e | e | e | e
  ·subst e;exact⟨_,s1,fun v z=>by cases (show Data.fields _=Data.cell v from z)⟩
  ·subst e;exact⟨_,s2,fun v z=>by cases (show Data.seq _ _=Data.cell v from z)⟩
  ·subst e;exact⟨_,s3,fun v z=>by cases (show Data.seq _ _=Data.cell v from z)⟩
  ·subst e;obtain⟨o,e,_,d⟩:=s4;exact⟨o,e,fun v z=>by rw[d] at z;cases z⟩
  ·subst e;obtain⟨o,e,_,d⟩:=s5;exact⟨o,e,fun v z=>by rw[d] at z;cases z⟩
 keep:=fun i h h' st k=>by
  obtain⟨s1,s2,⟨p,q,s3⟩,s4,s5⟩:=st
  exact⟨k _ (by simp) _ s1,k _ (by simp) _ s2,⟨p,q,k _ (by simp) _ s3⟩,s4.at fun o e=>k _ (by simp) o e,s5.at fun o e=>k _ (by simp) o e⟩
 item:=by
  intro X hP hw hK hc i pins s σ H E I hf st hg
  subst hP hw hK
  obtain⟨xs,ys,x,y,hq1,hq2,hx,hy⟩:=hg
  obtain⟨AaY,rv1,p1,_⟩:=I.list hq1
  obtain⟨its2,rv2,p2,_⟩:=I.list hq2
  obtain⟨u,hu,ru⟩:=rv1.get hx
  obtain⟨v,hv,rw'⟩:=rv2.get hy
  obtain⟨s1,s2,⟨p,q,s3⟩,s4,s5⟩:=st
  refine wpAny_pyNext_zip_item D s1 s2 s3 s4 s5 p1.isList p2.isList (x:=u) (y:=v) (by simpa using hu) (by simpa using hv) fun h1 z1 t1 j1 j2 hT hsz kk=>?_
  refine⟨_,rfl,wpAny_letOwnedTupleGo_zip z1 fun h2 z2 sb=>?_⟩
  have zl:z<s.heap.objs.size:=Heap.lt_size s1
  have TIl:TI<s.heap.objs.size:=Heap.lt_size s2
  have TOl:TO<s.heap.objs.size:=Heap.lt_size s3
  have i1l:i1<s.heap.objs.size:=by obtain⟨_,e,_⟩:=s4;exact Heap.lt_size e
  have i2l:i2<s.heap.objs.size:=by obtain⟨_,e,_⟩:=s5;exact Heap.lt_size e
  have up:∀ c o,c≠z→h1.get? c=some o→h2.get? c=some o:=fun c o c1 e=>(sb.2 c c1).trans e
  have hTn:H s.heap.objs.size=none:=I.hok.fresh (Art _)
  have I1:Inv X pins σ (upd H s.heap.objs.size (.tup [x,y])) { s with heap:=s.heap.push { cls:=.type "tuple", data:=.seq #[u,v] },toks:=s.toks } :=
   I.laid (fun c o e=>Heap.get?_push_of_some _ e) (Art _) ⟨by show 2≤sizeLine;decide,[u,v],.cons ru (.cons rw' .nil),⟨_,Heap.get?_push_size _ rfl,rfl,_,rfl⟩⟩
  have fp2:∀ c∈[z,TI,TO,i1,i2],Ou X pins (upd H s.heap.objs.size (.tup [x,y])) c:=fun c hc=>by
   obtain⟨f0,f⟩:=hf c hc
   refine⟨?_,f⟩
   have lt:c<s.heap.objs.size:=by
    simp only [Ar3,Ar4,or_false] at hc
    rcases hc with e | e | e | e | e <;> subst e <;> assumption
   rw[Ba (Arw lt)]
   exact f0
  have I2:Inv X pins σ (upd H s.heap.objs.size (.tup [x,y])) { s with heap:=h2 }:=by
   refine Inv.Xh (s:={ s with heap:=s.heap.push { cls:=.type "tuple", data:=.seq #[u,v] },toks:=s.toks }) (h':=h2) (t':=s.toks) (its:=[z,TI,TO,i1,i2]) I1 (fun c o hc e=>?_) fp2
   simp only [Ar3,Ar4,or_false,not_or] at hc
   refine up c o hc.1 ?_
   by_cases hcs:c=s.heap.objs.size
   ·subst hcs
    have e':(s.heap.push { cls:=.type "tuple", data:=.seq #[u,v] }).get? s.heap.objs.size=some { cls:=.type "tuple", data:=.seq #[u,v] }:=Heap.get?_push_size _ rfl
    rw[e'] at e
    cases e
    exact hT
   ·have e':s.heap.get? c=some o:=by
     rw[← e]
     exact(Heap.get?_push_ne _ _ _ hcs).symm
    exact kk c o hc.1 hc.2.2.1 hc.2.2.2.1 hc.2.2.2.2 e'
  refine⟨.ref s.heap.objs.size,_,I2,rfl,⟨s.heap.objs.size,rfl,hTn,fun xs' ys' u' v' a1 a2 a3 a4=>?_⟩,⟨z2,up _ _ D.TIz (kk _ _ D.TIz D.TITO D.TIi1 D.TIi2 s2),⟨u,v,up _ _ D.TOz t1⟩,j1.at fun o e=>up _ o D.i1z e,j2.at fun o e=>up _ o D.i2z e⟩,fun c hc=>(fp2 c hc).1⟩
  rw[I.R0 a1 hq1,hx] at a3
  rw[I.R0 a2 hq2,hy] at a4
  cases a3
  cases a4
  rfl
 done:=by
  intro X hP hw hK hc i pins s σ H E I hf st hg
  subst hP hw hK
  obtain⟨xs,ys,hq1,hq2,hend⟩:=hg
  obtain⟨AaY,rv1,p1,_⟩:=I.list hq1
  obtain⟨its2,rv2,p2,_⟩:=I.list hq2
  have l1:=rv1.length
  have l2:=rv2.length
  obtain⟨s1,s2,⟨p,q,s3⟩,s4,s5⟩:=st
  refine wpAny_pyNext_zip_end (I.ok.hd hc) D s1 s2 s3 s4 s5 p1.isList p2.isList ?_ fun h' kk=>⟨rfl,I.Xh (t':=s.toks) (its:=[z,TI,TO,i1,i2]) (fun c o hc e=>?_) hf⟩
  ·rcases hend with e | e
   ·exact .inl (by simp;omega)
   ·exact .inr (by simp;omega)
  ·simp only [Ar3,Ar4,or_false,not_or] at hc
   exact kk c o hc.1 hc.2.2.1 hc.2.2.2.1 hc.2.2.2.2 e
 self:=fun _ _ _ _ _ st h=>wpAny_pyIter_zip st.1 h
section
variable {X:Cx}{es:List Expr}{kx:Nat}{tp:Pos}
def Aql (K:PySem.W.Frag)(ta:TA):TI:=fun σ H R=>ta σ H fun vs H1=>∃ a b,vs=[.ref a,.ref b]∧(∃ xs,SqL K H1 a xs)∧(∃ ys,SqL K H1 b ys)∧R (Itz K a b) H1
theorem AjJ{K:PySem.W.Frag}{a b:Expr}{ta:TA}{p pos:Pos}(hg:Gl X "zip") (hm:X.mg "zip" = none) (ha:PA X [a,b] ta) (hK:X.K=K:=by rfl) (hs:starEach [a,b] X.env=[(false,eval a X.env),(false,eval b X.env)]:=by rfl) (hs2:starEach [b] X.env=[(false,eval b X.env)]:=by rfl) :
  PI X (.Tuple es kx tp) (.Call (.Name "zip" p) [a,b] [] pos) (Aql K ta):=by
 subst hK
 intro pins s σ H R I h
 refine Call_ (Pz I hg hm AjB (PyProof.Rows.callWith_type1 (thn (ha pos pins s σ H _ I h) fun us s1 ⟨vs,H1,I1,r1,q1⟩=>?_) (by rw[hs,hs2]) (by rw[hs2];rfl)))
 obtain⟨a,b,e,⟨xs,hq1⟩,⟨ys,hq2⟩,q⟩:=q1
 subst e
 cases r1 with
 | cons r rr =>
  cases rr with
  | cons r' rr =>
   cases rr
   cases r
   cases r'
   obtain⟨AaY,rv1,p1,_⟩:=I1.list hq1
   obtain⟨its2,rv2,p2,_⟩:=I1.list hq2
   obtain⟨o1,e1,_⟩:=id p1.isList
   obtain⟨o2,e2,_⟩:=id p2.isList
   refine call_zip_2 p1.isList p2.isList fun h' hz hTI hTO j1 j2 hsz kk=>wpAny_pyIter_zip hz ?_
   refine⟨_,[s1.heap.objs.size+4,s1.heap.objs.size+2,s1.heap.objs.size+3,s1.heap.objs.size,s1.heap.objs.size+1],_,_,H1,rfl,I1.kept (t':=s1.toks) kk,AjI (zipApart_new (Heap.lt_size e1) (Heap.lt_size e2)),
    ⟨hz,hTI,⟨_,_,hTO⟩,j1,j2⟩,fun c hc=>?_,q⟩
   have le:s1.heap.objs.size≤c:=by
    simp only [Ar3,Ar4,or_false] at hc
    rcases hc with e | e | e | e | e <;> subst e <;> omega
   exact I1.Agt le (I1.hok.fresh le)
theorem Ah6{K:PySem.W.Frag}{a b:Addr}{xs ys:List V}{g:TG}{tb:TS}{D:Ends}{σ:St}{H:Hp}{n:Nat}(hn:n=min xs.length ys.length)(Pv:Nat→St→Hp→Prop)(h0:Pv 0 σ H)(hl:∀ i σ H,Pv i σ H→SqL K H a xs∧SqL K H b ys)
  (hs:∀ i x y σ H T,xs[i]?=some x→ys[i]?=some y→Pv i σ H→H T=none→g (.ref T) σ (upd H T (.tup [x,y])) fun σ2 H2=>tb { D with nx:=Pv (i+1),ct:=Pv (i+1),bk:=D.nx } σ2 H2) (hd:∀ σ H,Pv n σ H→D.nx σ H) :
  ∃ W:Nat→Nat→St→Hp→Prop,(∃ m,W 0 m σ H)∧∀ i m σ H,W i m σ H →
   ((Itz K a b).stop i H∧D.nx σ H)∨((Itz K a b).go i H∧∃ N:St→Hp→Prop,(∀ σ' H',N σ' H'→∃ m',m'<m∧W (i+1) m' σ' H')∧∀ x H',(Itz K a b).yld i H x H'→g x σ H' fun σ2 H2=>tb { D with nx:=N,ct:=N,bk:=D.nx } σ2 H2):=by
 refine⟨fun i m σ H=>m=n-i∧i≤n∧Pv i σ H,⟨n,by simp,Ar9 _,h0⟩,?_⟩
 rintro i m σ H ⟨rfl,hi,p⟩
 obtain⟨q1,q2⟩:=hl i σ H p
 by_cases hlt:i<n
 ·have x1:i<xs.length:=by omega
  have y1:i<ys.length:=by omega
  refine .inr ⟨⟨xs,ys,xs[i],ys[i],q1,q2,Aru x1,Aru y1⟩,Pv (i+1),fun σ' H' p'=>⟨n-(i+1),by omega,rfl,hlt,p'⟩,fun x H' y=>?_⟩
  obtain⟨T,rfl,hT,y⟩:=y
  have e:=y xs ys _ _ q1 q2 (Aru x1) (Aru y1)
  subst e
  exact hs i _ _ σ H T (Aru x1) (Aru y1) p hT
 ·have e:i=n:=by omega
  subst e
  exact .inl ⟨⟨xs,ys,q1,q2,by omega⟩,hd σ H p⟩
end
open PySem PySem.Spec PyProof.Rows
section
variable {X:Cx}{K:PySem.W.Frag}
def Ard (K:PySem.W.Frag):R2:=fun x y H Q=>∃ p q xs ys,x=.ref p∧y=.ref q∧SqL K H p xs∧SqL K H q ys∧xs.all QB=true∧ys.all QB=true∧Q (.bl (!eqL xs ys)) H
end
open PySem PySem.Spec PyProof.Rows
theorem Mu.Afx{k:Nat}{A:Around}(r:Mu k A):A.units+100<cLine:=by have:=r.un;omega
def AoR (K:PySem.W.Frag)(H:Hp)(p q:Addr):Prop:=∃ as bs:List Addr,SqL K H p (as.map V.ref)∧SqL K H q (bs.map V.ref)∧as.length=bs.length ∧
 ∀(i:Nat) (a b:Addr),as[i]?=some a→bs[i]?=some b→∃ xs:List V,xs.all QB=true∧SqL K H a xs∧SqL K H b xs
section
variable {X:Cx}{K:PySem.W.Frag}
def AqA (K:PySem.W.Frag):R2:=fun x y H Q=>∃ p q,x=.ref p∧y=.ref q∧AoR K H p q∧Q (.bl false) H
def AqB (K:PySem.W.Frag):R2:=fun x y H Q=>∃ p q,x=.ref p∧y=.ref q∧AoR K H p q∧Q (.bl true) H
end
open PySem PySem.Spec PyProof.Rows
def Are (K:PySem.W.Frag):R2:=fun x y H Q=>∃(p q:Addr) (as:List Addr) (ks:List Int),x=.ref p∧y=.ref q∧SqL K H q (as.map V.ref)∧SqT K H p (vI ks) ∧
 (∀ a∈as,∃ js:List Int,SqT K H a (vI js))∧(∃ a∈as,SqT K H a (vI ks))∧Q (.bl true) H
section
variable {X:Cx}{K:PySem.W.Frag}
end
open PySem PySem.Spec PyProof.Rows
section
variable {prog:Program}{w:World}{A:Around}{E:Value→Shared→Prop}{s:Shared}
theorem AjK(hh:A.handled=none)(it:Addr)(x:Str)(t:Tok):Draws prog w A it [it] x.cps.size (fun i v=>∃ c u,x.cps[i]?=some c∧v=.str ⟨#[c]⟩ u) (fun i h=>h.IsStrIter it (strIterType x) x t i):=by
 unfold strIterType
 split
 ·exact Draws.strAscii hh it x t
 ·exact Draws.strWide hh it x t
structure ZQ (z TI TO i1 i2:Addr):Prop where
 TIz:TI≠z
 TOz:TO≠z
 i1z:i1≠z
 i2z:i2≠z
 TITO:TI≠TO
 TIi1:TI≠i1
 TIi2:TI≠i2
 TOi1:TO≠i1
 TOi2:TO≠i2
 i12:i1≠i2
theorem Ai7{z TI TO i1 i2:Addr}{fp1 fp2:List Addr}{n1 n2 k:Nat}{P1 P2:Nat→Value→Prop}{S1 S2:Nat→Heap→Prop}{a b:Value}{Q:Value→Shared→Prop}(D:ZQ z TI TO i1 i2)
  (D1:∀ A':Around,A'.handled=none→Draws prog w A' i1 fp1 n1 P1 S1) (D2:∀ A':Around,A'.handled=none→Draws prog w A' i2 fp2 n2 P2 S2) (hh:A.handled=none)
  (f1:∀ c∈fp1,c≠z∧c≠TO∧c≠i2) (f2:∀ c∈fp2,c≠z∧c≠TO∧c≠i1)
  (hz:IsZip s.heap z TI TO .none) (hTI:IsPair s.heap TI (.ref i1) (.ref i2)) (hTO:IsPair s.heap TO a b) (h1:S1 k s.heap) (h2:S2 k s.heap) (lt1:k<n1) (lt2:k<n2)
  (hQ:∀ x y h' tk,P1 k x→P2 k y→IsZip h' z TI TO (rawInt s.heap.objs.size)→IsPair h' TO x y→S1 (k+1) h'→S2 (k+1) h'→IsPair h' s.heap.objs.size x y→h'.objs.size=s.heap.objs.size+1 →
   (∀ c o,c≠z→c≠TO→c≠i1→c≠i2→s.heap.get? c=some o→h'.get? c=some o)→Q (.ref s.heap.objs.size) { s with heap:=h',toks:=tk }) :
  wpAny (model prog w) A (Builtin.«zip.__next__» ⟨[.ref z],[]⟩) (fun fin s'=>∃ v,fin=.done (.ret v)∧Q v s') E s:=by
 show wpAny _ _ (field (.ref z) 2 >>= _) _ _ _
 refine wpAny_bind (wpAny_field hz rfl (x:=.bool false) rfl ?_)
 show wpAny _ _ (field (.ref z) 3 >>= _) _ _ _
 refine wpAny_bind (wpAny_field hz rfl (x:=.ref TI) rfl ?_)
 refine wpAny_bind (wpAny_seqItems hTI rfl ?_)
 show wpAny _ _ (Builtin.SmallTypes.ownedTupleIsFree (.ref z) >>= _) _ _ _
 refine wpAny_bind ?_
 unfold Builtin.SmallTypes.ownedTupleIsFree
 refine wpAny_bind (wpAny_field hz rfl (x:=.none) rfl (wpAny_pure ?_))
 simp only [if_true]
 refine wpAny_bind (wpAny_rule ?_)
 refine wpAny_bind (wpAny_field hz rfl (x:=.ref TO) rfl ?_)
 refine wpAny_bind (wpAny_setField_rec hz (by simp) fun h₁ hz₁ hs₁=>?_)
 replace hz₁:IsZip h₁ z TI TO .ellipsis:=hz₁
 refine wpAny_bind ?_
 simp only [List.zipIdx_cons,List.zipIdx_nil,As6,List.forIn_nil]
 refine wpAny_bind (wpAny_bind (wpAny_onRaise ?_))
 show wpAny _ _ (Builtin.SmallTypes.nextOf (.ref i1) >>= _) _ _ _
 refine wpAny_bind ((D1 _ hh).item k _ _ _ lt1 ((D1 A hh).frame _ _ _ h1 fun c hc o e=>hs₁.extBut _ _ (f1 c hc).1 e) fun x h₂ tk₂ px h1₂ hs₂=>wpAny_pure ?_)
 have hs₂:Heap.SameBut i1 h₁ h₂:=hs₂
 have hTO₂:IsPair h₂ TO a b:=hs₂.extBut _ _ D.TOi1 (hs₁.extBut _ _ D.TOz hTO)
 refine wpAny_bind (wpAny_seqItems hTO₂ rfl ?_)
 refine wpAny_bind (wpAny_updateSeq_pair hTO₂ fun h₃ hTO₃ hs₃=>?_)
 have hs₃:Heap.SameBut TO h₂ h₃:=hs₃
 replace hTO₃:IsPair h₃ TO x b:=hTO₃
 refine wpAny_bind (wpAny_letGo (wpAny_pure ?_))
 refine wpAny_bind (wpAny_bind (wpAny_onRaise ?_))
 show wpAny _ _ (Builtin.SmallTypes.nextOf (.ref i2) >>= _) _ _ _
 refine wpAny_bind ((D2 _ hh).item k _ _ _ lt2 ((D2 A hh).frame _ _ _ h2 fun c hc o e=>hs₃.extBut _ _ (f2 c hc).2.1 (hs₂.extBut _ _ (f2 c hc).2.2 (hs₁.extBut _ _ (f2 c hc).1 e))) fun y h₄ tk₄ py h2₄ hs₄=>wpAny_pure ?_)
 have hs₄:Heap.SameBut i2 h₃ h₄:=hs₄
 have hTO₄:IsPair h₄ TO x b:=hs₄.extBut _ _ D.TOi2 hTO₃
 refine wpAny_bind (wpAny_seqItems hTO₄ rfl ?_)
 refine wpAny_bind (wpAny_updateSeq_pair hTO₄ fun h₅ hTO₅ hs₅=>?_)
 have hs₅:Heap.SameBut TO h₄ h₅:=hs₅
 replace hTO₅:IsPair h₅ TO x y:=hTO₅
 refine wpAny_bind (wpAny_letGo (wpAny_pure (wpAny_pure ?_)))
 refine wpAny_bind (wpAny_seqItems hTO₅ rfl ?_)
 refine wpAny_bind (wpAny_newTuple ?_)
 have hsz:h₅.objs.size=s.heap.objs.size:=by rw[hs₅.1,hs₄.1,hs₃.1,hs₂.1,hs₁.1]
 have hz₅:IsZip h₅ z TI TO .ellipsis:=hs₅.extBut _ _ D.TOz.symm (hs₄.extBut _ _ D.i2z.symm (hs₃.extBut _ _ D.TOz.symm (hs₂.extBut _ _ D.i1z.symm hz₁)))
 have hk₅:∀ c o,c≠z→c≠TO→c≠i1→c≠i2→s.heap.get? c=some o→h₅.get? c=some o:=fun c o c1 c2 c3 c4 e =>
  hs₅.extBut _ _ c2 (hs₄.extBut _ _ c4 (hs₃.extBut _ _ c2 (hs₂.extBut _ _ c3 (hs₁.extBut _ _ c1 e))))
 have h1₅:S1 (k+1) h₅:=(D1 A hh).frame _ _ _ h1₂ fun c hc o e=>hs₅.extBut _ _ (f1 c hc).2.1 (hs₄.extBut _ _ (f1 c hc).2.2 (hs₃.extBut _ _ (f1 c hc).2.1 e))
 have h2₅:S2 (k+1) h₅:=(D2 A hh).frame _ _ _ h2₄ fun c hc o e=>hs₅.extBut _ _ (f2 c hc).2.1 e
 have hzlt:z<h₅.objs.size:=Heap.lt_size hz₅
 show wpAny _ _ (Builtin.SmallTypes.ownedTupleHandOut (.ref z) (.ref h₅.objs.size) >>= _) _ _ _
 refine wpAny_bind ?_
 unfold Builtin.SmallTypes.ownedTupleHandOut
 have hz₆:IsZip (h₅.push { cls:=.type "tuple", data:=.seq #[x,y] }) z TI TO .ellipsis:=Heap.get?_push_of_some _ hz₅
 refine wpAny_bind (wpAny_setField_rec hz₆ (by simp) fun h₇ hz₇ hs₇=>?_)
 replace hz₇:IsZip h₇ z TI TO (rawInt h₅.objs.size):=hz₇
 refine wpAny_setField_rec hz₇ (by simp) fun h₈ hz₈ hs₈=>?_
 replace hz₈:IsZip h₈ z TI TO (rawInt h₅.objs.size):=hz₈
 have up:∀ c o,c≠z→h₅.get? c=some o→h₈.get? c=some o:=fun c o c1 e=>hs₈.extBut _ _ c1 (hs₇.extBut _ _ c1 (Heap.get?_push_of_some _ e))
 have hT₈:IsPair h₈ h₅.objs.size x y:=hs₈.extBut _ _ (ArY hzlt) (hs₇.extBut _ _ (ArY hzlt) (Heap.get?_push_size _ rfl))
 have hz8:h₈.objs.size=h₅.objs.size+1:=by rw[hs₈.1,hs₇.1,Heap.size_push]
 rw[hsz] at hz₈ hT₈ hz8
 refine wpAny_pure ⟨_,rfl,?_⟩
 show Q (.ref h₅.objs.size) _
 rw[hsz]
 exact hQ x y h₈ tk₄ px py hz₈ (up _ _ D.TOz hTO₅) ((D1 A hh).frame _ _ _ h1₅ fun c hc o e=>up _ o (f1 c hc).1 e) ((D2 A hh).frame _ _ _ h2₅ fun c hc o e=>up _ o (f2 c hc).1 e) hT₈ hz8 fun c o c1 c2 c3 c4 e=>up c o c1 (hk₅ c o c1 c2 c3 c4 e)
theorem AjL{z TI TO i1 i2:Addr}{fp1 fp2:List Addr}{n1 n2 k:Nat}{P1 P2:Nat→Value→Prop}{S1 S2:Nat→Heap→Prop}{a b:Value}{Q:Fin→Shared→Prop}(D:ZQ z TI TO i1 i2)
  (D1:∀ A':Around,A'.handled=none→Draws prog w A' i1 fp1 n1 P1 S1) (D2:∀ A':Around,A'.handled=none→Draws prog w A' i2 fp2 n2 P2 S2) (hh:A.handled=none)
  (f1:∀ c∈fp1,c≠z∧c≠TO∧c≠i2) (f2:∀ c∈fp2,c≠z∧c≠TO∧c≠i1)
  (hz:IsZip s.heap z TI TO .none) (hTI:IsPair s.heap TI (.ref i1) (.ref i2)) (hTO:IsPair s.heap TO a b) (h1:S1 k s.heap) (h2:S2 k s.heap) (hend:k=n1∨(k<n1∧k=n2))
  (hE:∀ h' e tk,(∀ c o,c≠z→c≠TO→c≠i1→c≠i2→s.heap.get? c=some o→h'.get? c=some o)→(∃ o,h'.get? e=some o∧o.cls=.type "StopIteration")→E (.ref e) { s with heap:=h',toks:=tk }) :
  wpAny (model prog w) A (Builtin.«zip.__next__» ⟨[.ref z],[]⟩) Q E s:=by
 show wpAny _ _ (field (.ref z) 2 >>= _) _ _ _
 refine wpAny_bind (wpAny_field hz rfl (x:=.bool false) rfl ?_)
 show wpAny _ _ (field (.ref z) 3 >>= _) _ _ _
 refine wpAny_bind (wpAny_field hz rfl (x:=.ref TI) rfl ?_)
 refine wpAny_bind (wpAny_seqItems hTI rfl ?_)
 show wpAny _ _ (Builtin.SmallTypes.ownedTupleIsFree (.ref z) >>= _) _ _ _
 refine wpAny_bind ?_
 unfold Builtin.SmallTypes.ownedTupleIsFree
 refine wpAny_bind (wpAny_field hz rfl (x:=.none) rfl (wpAny_pure ?_))
 simp only [if_true]
 refine wpAny_bind (wpAny_rule ?_)
 refine wpAny_bind (wpAny_field hz rfl (x:=.ref TO) rfl ?_)
 refine wpAny_bind (wpAny_setField_rec hz (by simp) fun h₁ hz₁ hs₁=>?_)
 replace hz₁:IsZip h₁ z TI TO .ellipsis:=hz₁
 refine wpAny_bind ?_
 simp only [List.zipIdx_cons,List.zipIdx_nil,As6,List.forIn_nil]
 refine wpAny_bind (wpAny_bind (wpAny_onRaise ?_))
 show wpAny _ _ (Builtin.SmallTypes.nextOf (.ref i1) >>= _) _ _ _
 have g1:S1 k h₁:=(D1 A hh).frame _ _ _ h1 fun c hc o e=>hs₁.extBut _ _ (f1 c hc).1 e
 rcases hend with hk | ⟨lt1,hk⟩
 ·subst hk
  refine wpAny_bind ((D1 _ hh).done _ _ _ g1 fun h₂ e hs₂ he=>?_)
  have hs₂:Heap.ExtBut i1 h₁ h₂:=hs₂
  obtain⟨oe,hoe,hce⟩:=he
  have hz₂:IsZip h₂ z TI TO .ellipsis:=hs₂ _ _ D.i1z.symm hz₁
  have hez:e≠z:=fun x=>by subst x;rw[hz₂] at hoe;cases hoe;simp at hce
  refine wpAny_setField_rec hz₂ (by simp) fun h₃ _ hs₃=>hE h₃ e _ (fun c o c1 _ c3 _ x=>hs₃.extBut _ _ c1 (hs₂ _ _ c3 (hs₁.extBut _ _ c1 x))) ⟨oe,hs₃.extBut _ _ hez hoe,hce⟩
 ·refine wpAny_bind ((D1 _ hh).item k _ _ _ lt1 g1 fun x h₂ tk₂ px h1₂ hs₂=>wpAny_pure ?_)
  have hs₂:Heap.SameBut i1 h₁ h₂:=hs₂
  have hTO₂:IsPair h₂ TO a b:=hs₂.extBut _ _ D.TOi1 (hs₁.extBut _ _ D.TOz hTO)
  refine wpAny_bind (wpAny_seqItems hTO₂ rfl ?_)
  refine wpAny_bind (wpAny_updateSeq_pair hTO₂ fun h₃ hTO₃ hs₃=>?_)
  have hs₃:Heap.SameBut TO h₂ h₃:=hs₃
  refine wpAny_bind (wpAny_letGo (wpAny_pure ?_))
  refine wpAny_bind (wpAny_bind (wpAny_onRaise ?_))
  show wpAny _ _ (Builtin.SmallTypes.nextOf (.ref i2) >>= _) _ _ _
  subst hk
  refine wpAny_bind ((D2 _ hh).done _ _ _ ((D2 A hh).frame _ _ _ h2 fun c hc o e=>hs₃.extBut _ _ (f2 c hc).2.1 (hs₂.extBut _ _ (f2 c hc).2.2 (hs₁.extBut _ _ (f2 c hc).1 e))) fun h₄ e hs₄ he=>?_)
  have hs₄:Heap.ExtBut i2 h₃ h₄:=hs₄
  obtain⟨oe,hoe,hce⟩:=he
  have hz₄:IsZip h₄ z TI TO .ellipsis:=hs₄ _ _ D.i2z.symm (hs₃.extBut _ _ D.TOz.symm (hs₂.extBut _ _ D.i1z.symm hz₁))
  have hez:e≠z:=fun x=>by subst x;rw[hz₄] at hoe;cases hoe;simp at hce
  refine wpAny_setField_rec hz₄ (by simp) fun h₅ _ hs₅=>hE h₅ e _ (fun c o c1 c2 c3 c4 x=>hs₅.extBut _ _ c1 (hs₄ _ _ c4 (hs₃.extBut _ _ c2 (hs₂.extBut _ _ c3 (hs₁.extBut _ _ c1 x))))) ⟨oe,hs₅.extBut _ _ hez hoe,hce⟩
theorem AgB{z TI TO i1 i2:Addr}{fp1 fp2:List Addr}{n1 n2 k:Nat}{P1 P2:Nat→Value→Prop}{S1 S2:Nat→Heap→Prop}{a b:Value}{Q:Option Value→Shared→Prop}(D:ZQ z TI TO i1 i2)
  (D1:∀ A':Around,A'.handled=none→Draws prog w A' i1 fp1 n1 P1 S1) (D2:∀ A':Around,A'.handled=none→Draws prog w A' i2 fp2 n2 P2 S2) (hh:A.handled=none)
  (f1:∀ c∈fp1,c≠z∧c≠TO∧c≠i2) (f2:∀ c∈fp2,c≠z∧c≠TO∧c≠i1)
  (hz:IsZip s.heap z TI TO .none) (hTI:IsPair s.heap TI (.ref i1) (.ref i2)) (hTO:IsPair s.heap TO a b) (h1:S1 k s.heap) (h2:S2 k s.heap) (lt1:k<n1) (lt2:k<n2)
  (hQ:∀ x y h' tk,P1 k x→P2 k y→IsZip h' z TI TO (rawInt s.heap.objs.size)→IsPair h' TO x y→S1 (k+1) h'→S2 (k+1) h'→IsPair h' s.heap.objs.size x y→h'.objs.size=s.heap.objs.size+1 →
   (∀ c o,c≠z→c≠TO→c≠i1→c≠i2→s.heap.get? c=some o→h'.get? c=some o)→Q (some (.ref s.heap.objs.size)) { s with heap:=h',toks:=tk }) :
  wpAny (model prog w) A (pyNext (.ref z)) Q E s:=by
 have hT:s.TypeIs (.ref z) "zip" := ⟨_,hz,rfl⟩
 unfold pyNext
 exact wpAny_bind (wpAny_attempt (wpAny_callSpecial?_slot (name:=Str.ofString "__next__") hT F.slot_zip_next
  (wpAny_call_entry F.slot_zip_next hT F.entry_zip_next
   (Ai7 D D1 D2 hh f1 f2 hz hTI hTO h1 h2 lt1 lt2 fun x y h' tk a1 a2 a3 a4 a5 a6 a7 a8 a9=>wpAny_pure (hQ x y h' tk a1 a2 a3 a4 a5 a6 a7 a8 a9)) (F.args_zip_next_1 _))))
theorem Ai8{z TI TO i1 i2:Addr}{fp1 fp2:List Addr}{n1 n2 k:Nat}{P1 P2:Nat→Value→Prop}{S1 S2:Nat→Heap→Prop}{a b:Value}{Q:Option Value→Shared→Prop}(D:ZQ z TI TO i1 i2)
  (D1:∀ A':Around,A'.handled=none→Draws prog w A' i1 fp1 n1 P1 S1) (D2:∀ A':Around,A'.handled=none→Draws prog w A' i2 fp2 n2 P2 S2) (hh:A.handled=none)
  (f1:∀ c∈fp1,c≠z∧c≠TO∧c≠i2) (f2:∀ c∈fp2,c≠z∧c≠TO∧c≠i1)
  (hz:IsZip s.heap z TI TO .none) (hTI:IsPair s.heap TI (.ref i1) (.ref i2)) (hTO:IsPair s.heap TO a b) (h1:S1 k s.heap) (h2:S2 k s.heap) (hend:k=n1∨(k<n1∧k=n2))
  (hQ:∀ h' tk,(∀ c o,c≠z→c≠TO→c≠i1→c≠i2→s.heap.get? c=some o→h'.get? c=some o)→Q none { s with heap:=h',toks:=tk }):wpAny (model prog w) A (pyNext (.ref z)) Q E s:=by
 have hT:s.TypeIs (.ref z) "zip" := ⟨_,hz,rfl⟩
 unfold pyNext
 refine wpAny_bind (wpAny_attempt (wpAny_callSpecial?_slot (name:=Str.ofString "__next__") hT F.slot_zip_next
  (wpAny_call_entry F.slot_zip_next hT F.entry_zip_next (AjL D D1 D2 hh f1 f2 hz hTI hTO h1 h2 hend fun h' e tk hk he=>?_) (F.args_zip_next_1 _))))
 obtain⟨o,ho,hc⟩:=he
 refine wpAny_bind (wpAny_isInstance (T := "StopIteration") (b:=true) ⟨o,ho,hc⟩ isSubtype_stop ?_)
 exact wpAny_pure (hQ _ _ hk)
abbrev XC (x:Str) (t:Tok):Obj:={ cls:=.type (strIterType x),data:=.fields #[.str x t,.int 0 0] }
abbrev Ah7 (l:Addr):Obj:={ cls:=.type "list_iterator", data:=.fields #[.ref l,.int 0 0] }
abbrev Ul (h:Heap) (o1 o2:Obj):Heap:=((((h.push o1).push o2).push { cls:=.type "tuple", data:=.seq #[.ref h.objs.size,.ref (h.push o1).objs.size] }).push { cls:=.type "tuple", data:=.seq #[.none,.none] }).push
 { cls:=.type "zip", data:=.fields #[.none,.bool false,.bool false,.ref ((h.push o1).push o2).objs.size,.ref (((h.push o1).push o2).push { cls:=.type "tuple", data:=.seq #[.ref h.objs.size,.ref (h.push o1).objs.size] }).objs.size] }
abbrev AdC (h:Heap) (o1 o2:Obj):Addr:=((((h.push o1).push o2).push { cls:=.type "tuple", data:=.seq #[.ref h.objs.size,.ref (h.push o1).objs.size] }).push { cls:=.type "tuple", data:=.seq #[.none,.none] }).objs.size
set_option maxHeartbeats 4000000 in
theorem Afy(l1:Addr)(xs:Array Value)(x:Str)(t:Tok) :
  Meets (Builtin.«zip.__new__» ⟨[.type "zip", .ref l1,.str x t],[]⟩) (fun _ R s=>s.heap.IsList l1 xs∧R (.ok (.ret (.ref (AdC s.heap (Ah7 l1) (XC x t))))) { s with heap:=Ul s.heap (Ah7 l1) (XC x t) }) :=
 .of_wp fun prog w A R s h=>by
  obtain⟨hp,g,d,tk,os⟩:=s;obtain⟨hl1,h⟩:=h
  have hsub:=sub_zip
  have hL1:Heap.IsList (Shared.heap ⟨hp,g,d,tk,os⟩) l1 xs:=hl1
  wp_walk using wpAny_pyIter_list hL1,wpAny_pyIter_strU
  exact⟨_,rfl,h⟩
set_option maxHeartbeats 4000000 in
theorem Afz(y:Str)(u:Tok)(x:Str)(t:Tok) :
  Meets (Builtin.«zip.__new__» ⟨[.type "zip", .str y u,.str x t],[]⟩) (fun _ R s=>R (.ok (.ret (.ref (AdC s.heap (XC y u) (XC x t))))) { s with heap:=Ul s.heap (XC y u) (XC x t) }) :=
 .of_wp fun prog w A R s h=>by
  obtain⟨hp,g,d,tk,os⟩:=s
  have hsub:=sub_zip
  wp_walk using wpAny_pyIter_strU
  exact⟨_,rfl,h⟩
end
open PySem PySem.Spec PyProof.Rows
inductive Src where
 | l (a:Addr)
 | s (z:Str)
def AoS:Src→V
 | .l a=>.ref a
 | .s z=>.str z
def Acb (K:PySem.W.Frag)(H:Hp):Src→Prop
 | .l a=>∃ xs,SqL K H a xs
 | .s _=>True
def Wb (K:PySem.W.Frag)(H:Hp):Src→Nat→V→Prop
 | .l a,i,v=>∃ xs,SqL K H a xs∧xs[i]?=some v
 | .s z,i,v=>∃ c,z.cps[i]?=some c∧v=.str ⟨#[c]⟩
def AgC (K:PySem.W.Frag)(H:Hp):Src→Nat→Prop
 | .l a,i=>∃ xs,SqL K H a xs∧xs.length=i
 | .s z,i=>z.cps.size=i
def YJ (it:Addr)(t:Tok):Src→Nat→Heap→Prop
 | .l a,i,h=>h.IsListIter it a i
 | .s z,i,h=>h.IsStrIter it (strIterType z) z t i
def AjM (it:Addr):Src→List Addr
 | .l a=>[it,a]
 | .s _=>[it]
def AqC (t:Tok):Src→Obj
 | .l a=>Ah7 a
 | .s z=>XC z t
theorem Acd{X:Cx}{pins:List (Addr × Obj)}{σ:St}{H:Hp}{s:Shared}(I:Inv X pins σ H s){S:Src}{i:Nat}{u v:V}(h1:Wb X.K H S i u)(h2:Wb X.K H S i v):u=v:=by
 cases S with
 | l a =>
  obtain⟨xs,q1,e1⟩:=h1
  obtain⟨ys,q2,e2⟩:=h2
  rw[I.R0 q2 q1,e1] at e2
  exact Option.some.inj e2
 | s z =>
  obtain⟨c,e1,rfl⟩:=h1
  obtain⟨d,e2,rfl⟩:=h2
  rw[e1] at e2
  cases e2
  rfl
theorem Xi{X:Cx}{pins:List (Addr × Obj)}{σ:St}{H:Hp}{s:Shared}(I:Inv X pins σ H s){it:Addr}{t:Tok}{S:Src}{i:Nat}(st:YJ it t S i s.heap)(ok:Acb X.K H S)(ap:∀ a,S=.l a→a≠it) :
  ∃(n:Nat) (Pd:Nat→Value→Prop) (Sd:Nat→Heap→Prop),(∀ A':Around,A'.handled=none→Draws X.prog X.w A' it (AjM it S) n Pd Sd)∧Sd i s.heap∧(∀ h',Sd (i+1) h'→YJ it t S (i+1) h') ∧
   (∀ v,Wb X.K H S i v→i<n∧∀ u,Pd i u→RelV v u)∧(AgC X.K H S i→i=n):=by
 cases S with
 | l a =>
  obtain⟨xs,q⟩:=ok
  obtain⟨its,rv,p1,_⟩:=I.list q
  have len:=rv.length
  refine⟨_,_,_,fun A' hh=>Draws.list hh it a (ap a rfl) its.toArray,⟨st,p1.isList⟩,fun h' z=>z.1,fun v hv=>?_,fun he=>?_⟩
  ·obtain⟨ys,q2,e⟩:=hv
   rw[I.R0 q2 q] at e
   obtain⟨u,hu,r⟩:=rv.get e
   refine⟨by have:=(List.getElem?_eq_some_iff.mp hu).1;simpa using this,fun u' hu'=>?_⟩
   have:its[i]?=some u':=by simpa using hu'
   rw[hu] at this
   cases this
   exact r
  ·obtain⟨ys,q2,e⟩:=he
   rw[I.R0 q2 q] at e
   simp only [Ar0]
   omega
 | s z =>
  refine⟨_,_,_,fun A' hh=>AjK hh it z t,st,fun h' z=>z,fun v hv=>?_,fun he=>he.symm⟩
  obtain⟨c,e,rfl⟩:=hv
  refine⟨by rw[Array.getElem?_eq_some_iff] at e;exact e.1,fun u ⟨d,tk,e2,hu⟩=>?_⟩
  rw[e] at e2
  cases e2
  exact⟨tk,hu⟩
def AlN (K:PySem.W.Frag)(S1 S2:Src):It where
 go:=fun i H=>(∃ u,Wb K H S1 i u)∧∃ v,Wb K H S2 i v
 yld:=fun i H x H'=>∃ T,x=.ref T∧H T=none∧∀ u v,Wb K H S1 i u→Wb K H S2 i v→H'=upd H T (.tup [u,v])
 stop:=fun i H=>Acb K H S1∧Acb K H S2∧(AgC K H S1 i∨((∃ u,Wb K H S1 i u)∧AgC K H S2 i))
theorem Af0{K:PySem.W.Frag}{H:Hp}{S:Src}{i:Nat}{u:V}(h:Wb K H S i u):Acb K H S:=by
 cases S with
 | l a=>obtain⟨xs,q,_⟩:=h;exact⟨xs,q⟩
 | s z=>trivial
def An3 (z TI TO i1 i2:Addr)(t1 t2:Tok)(S1 S2:Src)(i:Nat)(h:Heap):Prop:=IsZip h z TI TO .none∧IsPair h TI (.ref i1) (.ref i2)∧(∃ p q,IsPair h TO p q)∧YJ i1 t1 S1 i h∧YJ i2 t2 S2 i h
theorem YK{it:Addr}{t:Tok}{S:Src}{i:Nat}{h h':Heap}(st:YJ it t S i h)(k:∀ o,h.get? it=some o→h'.get? it=some o):YJ it t S i h':=by
 cases S with
 | l a=>exact Heap.IsListIter.at st k
 | s z=>obtain⟨o,e,c⟩:=st;exact⟨o,k o e,c⟩
theorem Xj{it:Addr}{t:Tok}{S:Src}{i:Nat}{h:Heap}(st:YJ it t S i h):∃ o,h.get? it=some o∧∀ v,o.data≠.cell v:=by
 cases S with
 | l a=>obtain⟨o,e,_,d⟩:=st;exact⟨o,e,fun v z=>by rw[d] at z;cases z⟩
 | s z=>obtain⟨o,e,_,d⟩:=st;exact⟨o,e,fun v z=>by rw[d] at z;cases z⟩
theorem Ai9{P:Program}{w:World}{K:PySem.W.Frag}{es:List Expr}{kx:Nat}{tp:Pos}{z TI TO i1 i2:Addr}{t1 t2:Tok}{S1 S2:Src}(D:ZQ z TI TO i1 i2)
  (a1:∀ a,S1=.l a→a≠z∧a≠TO∧a≠i1∧a≠i2) (a2:∀ a,S2=.l a→a≠z∧a≠TO∧a≠i1∧a≠i2) :
  Turn P w K (.Tuple es kx tp) (AlN K S1 S2) [z,TI,TO,i1,i2] z (An3 z TI TO i1 i2 t1 t2 S1 S2):=by
 have f1:∀ c∈AjM i1 S1,c≠z∧c≠TO∧c≠i2:=fun c hc=>by
  cases S1 with
  | l a =>
   rcases List.mem_cons.mp hc with e | e
   ·subst e;exact⟨D.i1z,D.TOi1.symm,D.i12⟩
   ·rw[List.mem_singleton.mp e];exact⟨(a1 a rfl).1,(a1 a rfl).2.1,(a1 a rfl).2.2.2⟩
  | s x=>rw[List.mem_singleton.mp hc];exact⟨D.i1z,D.TOi1.symm,D.i12⟩
 have f2:∀ c∈AjM i2 S2,c≠z∧c≠TO∧c≠i1:=fun c hc=>by
  cases S2 with
  | l a =>
   rcases List.mem_cons.mp hc with e | e
   ·subst e;exact⟨D.i2z,D.TOi2.symm,D.i12.symm⟩
   ·rw[List.mem_singleton.mp e];exact⟨(a2 a rfl).1,(a2 a rfl).2.1,(a2 a rfl).2.2.1⟩
  | s x=>rw[List.mem_singleton.mp hc];exact⟨D.i2z,D.TOi2.symm,D.i12.symm⟩
 exact {
  mem:=by simp
  obj:=fun i h st c hc=>by
   obtain⟨s1,s2,⟨p,q,s3⟩,s4,s5⟩:=st
   simp only [Ar3,Ar4,or_false] at hc
   rcases hc with e | e | e | e | e
   ·subst e;exact⟨_,s1,fun v z=>by cases (show Data.fields _=Data.cell v from z)⟩
   ·subst e;exact⟨_,s2,fun v z=>by cases (show Data.seq _ _=Data.cell v from z)⟩
   ·subst e;exact⟨_,s3,fun v z=>by cases (show Data.seq _ _=Data.cell v from z)⟩
   ·subst e;exact Xj s4
   ·subst e;exact Xj s5
  keep:=fun i h h' st k=>by
   obtain⟨s1,s2,⟨p,q,s3⟩,s4,s5⟩:=st
   exact⟨k _ (by simp) _ s1,k _ (by simp) _ s2,⟨p,q,k _ (by simp) _ s3⟩,YK s4 fun o e=>k _ (by simp) o e,YK s5 fun o e=>k _ (by simp) o e⟩
  item:=by
   intro X hP hw hK hc i pins s σ H E I hf st hg
   subst hP hw hK
   obtain⟨⟨x,hx⟩,y,hy⟩:=hg
   obtain⟨s1,s2,⟨p,q,s3⟩,s4,s5⟩:=st
   obtain⟨n1,P1,Q1,D1,g1,e1,v1,_⟩:=Xi I s4 (Af0 hx) (fun a e=>(a1 a e).2.2.1)
   obtain⟨n2,P2,Q2,D2,g2,e2,v2,_⟩:=Xi I s5 (Af0 hy) (fun a e=>(a2 a e).2.2.2)
   obtain⟨l1,r1⟩:=v1 x hx
   obtain⟨l2,r2⟩:=v2 y hy
   refine AgB D D1 D2 (I.ok.hd hc) f1 f2 s1 s2 s3 g1 g2 l1 l2 fun u v h1 tk pu pv z1 w1 j1 j2 hT hsz kk=>?_
   have ru:=r1 u pu
   have rw':=r2 v pv
   refine⟨_,rfl,wpAny_letOwnedTupleGo_zip z1 fun h2 z2 sb=>?_⟩
   have sb:Heap.SameBut z h1 h2:=sb
   have zl:z<s.heap.objs.size:=Heap.lt_size s1
   have TIl:TI<s.heap.objs.size:=Heap.lt_size s2
   have TOl:TO<s.heap.objs.size:=Heap.lt_size s3
   have i1l:i1<s.heap.objs.size:=by obtain⟨_,e,_⟩:=Xj s4;exact Heap.lt_size e
   have i2l:i2<s.heap.objs.size:=by obtain⟨_,e,_⟩:=Xj s5;exact Heap.lt_size e
   have up:∀ c o,c≠z→h1.get? c=some o→h2.get? c=some o:=fun c o c1 e=>(sb.2 c c1).trans e
   have hTn:H s.heap.objs.size=none:=I.hok.fresh (Art _)
   have I1:Inv X pins σ (upd H s.heap.objs.size (.tup [x,y])) { s with heap:=s.heap.push { cls:=.type "tuple", data:=.seq #[u,v] },toks:=tk } :=
    I.laid (fun c o e=>Heap.get?_push_of_some _ e) (Art _) ⟨by show 2≤sizeLine;decide,[u,v],.cons ru (.cons rw' .nil),⟨_,Heap.get?_push_size _ rfl,rfl,_,rfl⟩⟩
   have fp2:∀ c∈[z,TI,TO,i1,i2],Ou X pins (upd H s.heap.objs.size (.tup [x,y])) c:=fun c hc=>by
    obtain⟨f0,f⟩:=hf c hc
    refine⟨?_,f⟩
    have lt:c<s.heap.objs.size:=by
     simp only [Ar3,Ar4,or_false] at hc
     rcases hc with e | e | e | e | e <;> subst e <;> assumption
    rw[Ba (Arw lt)]
    exact f0
   have I2:Inv X pins σ (upd H s.heap.objs.size (.tup [x,y])) { s with heap:=h2,toks:=tk }:=by
    refine Inv.Xh (s:={ s with heap:=s.heap.push { cls:=.type "tuple", data:=.seq #[u,v] },toks:=tk }) (h':=h2) (t':=tk) (its:=[z,TI,TO,i1,i2]) I1 (fun c o hc e=>?_) fp2
    simp only [Ar3,Ar4,or_false,not_or] at hc
    refine up c o hc.1 ?_
    by_cases hcs:c=s.heap.objs.size
    ·subst hcs
     have e':(s.heap.push { cls:=.type "tuple", data:=.seq #[u,v] }).get? s.heap.objs.size=some { cls:=.type "tuple", data:=.seq #[u,v] }:=Heap.get?_push_size _ rfl
     rw[e'] at e
     cases e
     exact hT
    ·have e':s.heap.get? c=some o:=by
      rw[← e]
      exact(Heap.get?_push_ne _ _ _ hcs).symm
     exact kk c o hc.1 hc.2.2.1 hc.2.2.2.1 hc.2.2.2.2 e'
   refine⟨.ref s.heap.objs.size,_,I2,rfl,⟨s.heap.objs.size,rfl,hTn,fun u' v' q1 q2=>?_⟩,⟨z2,up _ _ D.TIz (kk _ _ D.TIz D.TITO D.TIi1 D.TIi2 s2),⟨u,v,up _ _ D.TOz w1⟩,YK (e1 _ j1) fun o e=>up _ o D.i1z e,YK (e2 _ j2) fun o e=>up _ o D.i2z e⟩,fun c hc=>(fp2 c hc).1⟩
   rw[Acd I q1 hx,Acd I q2 hy]
  done:=by
   intro X hP hw hK hc i pins s σ H E I hf st hg
   subst hP hw hK
   obtain⟨o1,o2,hend⟩:=hg
   obtain⟨s1,s2,⟨p,q,s3⟩,s4,s5⟩:=st
   obtain⟨n1,P1,Q1,D1,g1,e1,v1,d1⟩:=Xi I s4 o1 (fun a e=>(a1 a e).2.2.1)
   obtain⟨n2,P2,Q2,D2,g2,e2,v2,d2⟩:=Xi I s5 o2 (fun a e=>(a2 a e).2.2.2)
   have he:i=n1∨(i<n1∧i=n2):=by
    rcases hend with h | ⟨⟨u,hu⟩,h⟩
    ·exact .inl (d1 h)
    ·exact .inr ⟨(v1 u hu).1,d2 h⟩
   refine Ai8 D D1 D2 (I.ok.hd hc) f1 f2 s1 s2 s3 g1 g2 he fun h' tk kk=>⟨rfl,I.Xh (t':=tk) (its:=[z,TI,TO,i1,i2]) (fun c o hc e=>?_) hf⟩
   simp only [Ar3,Ar4,or_false,not_or] at hc
   exact kk c o hc.1 hc.2.2.1 hc.2.2.2.1 hc.2.2.2.2 e
  self:=fun _ _ _ _ _ st h=>wpAny_pyIter_zip st.1 h }
theorem Af1{h:Heap}{o1 o2:Obj}(e1:o1.isFreed=false)(e2:o2.isFreed=false):AdC h o1 o2=h.objs.size+4∧IsZip (Ul h o1 o2) (h.objs.size+4) (h.objs.size+2) (h.objs.size+3) .none ∧
  IsPair (Ul h o1 o2) (h.objs.size+2) (.ref h.objs.size) (.ref (h.objs.size+1))∧IsPair (Ul h o1 o2) (h.objs.size+3) .none .none∧(Ul h o1 o2).get? h.objs.size=some o1∧(Ul h o1 o2).get? (h.objs.size+1)=some o2 ∧
  ∀ c o,h.get? c=some o→(Ul h o1 o2).get? c=some o:=by
 have z1:(h.push o1).objs.size=h.objs.size+1:=Heap.size_push ..
 have z2:((h.push o1).push o2).objs.size=h.objs.size+2:=by rw[Heap.size_push,z1]
 have z3:(((h.push o1).push o2).push { cls:=.type "tuple", data:=.seq #[.ref h.objs.size,.ref (h.push o1).objs.size] }).objs.size=h.objs.size+3:=by rw[Heap.size_push,z2]
 have z4:AdC h o1 o2=h.objs.size+4:=by unfold AdC;rw[Heap.size_push,z3]
 have g5:(Ul h o1 o2).get? (AdC h o1 o2)=some _:=Heap.get?_push_size _ rfl
 have g4:(Ul h o1 o2).get? (((h.push o1).push o2).push { cls:=.type "tuple", data:=.seq #[.ref h.objs.size,.ref (h.push o1).objs.size] }).objs.size=some _:=Heap.get?_push_of_some _ (Heap.get?_push_size _ rfl)
 have g3:(Ul h o1 o2).get? ((h.push o1).push o2).objs.size=some _:=Heap.get?_push_of_some _ (Heap.get?_push_of_some _ (Heap.get?_push_size _ rfl))
 have g2:(Ul h o1 o2).get? (h.push o1).objs.size=some o2:=Heap.get?_push_of_some _ (Heap.get?_push_of_some _ (Heap.get?_push_of_some _ (Heap.get?_push_size _ e2)))
 have g1:(Ul h o1 o2).get? h.objs.size=some o1:=Heap.get?_push_of_some _ (Heap.get?_push_of_some _ (Heap.get?_push_of_some _ (Heap.get?_push_of_some _ (Heap.get?_push_size _ e1))))
 refine⟨z4,?_,?_,?_,g1,?_,fun c o x=>Heap.get?_push_of_some _ (Heap.get?_push_of_some _ (Heap.get?_push_of_some _ (Heap.get?_push_of_some _ (Heap.get?_push_of_some _ x))))⟩
 ·rw[z4,z2,z3] at g5;exact g5
 ·rw[z2,z1] at g3;exact g3
 ·rw[z3] at g4;exact g4
 ·rw[z1] at g2;exact g2
theorem ane{a b:Nat}(h:a≠b):@Ne Addr a b:=h
theorem lne{a n:Nat}(h:a<n)(k:Nat):@Ne Addr a (n+k):=fun z=>by have z:a=n+k:=z;omega
theorem AgD(n:Nat):ZQ (n+4) (n+2) (n+3) n (n+1) where
 TIz:=ane (by omega)
 TOz:=ane (by omega)
 i1z:=ane (by omega)
 i2z:=ane (by omega)
 TITO:=ane (by omega)
 TIi1:=ane (by omega)
 TIi2:=ane (by omega)
 TOi1:=ane (by omega)
 TOi2:=ane (by omega)
 i12:=ane (by omega)
section
variable {X:Cx}{es:List Expr}{kx:Nat}{tp:Pos}
def zOk:Src→Src→Prop
 | .s _,.l _=>False
 | _,_=>True
def AoT (K:PySem.W.Frag)(ta:TA):TI:=fun σ H R=>ta σ H fun vs H1=>∃ S1 S2,vs=[AoS S1,AoS S2]∧zOk S1 S2∧Acb K H1 S1∧Acb K H1 S2∧R (AlN K S1 S2) H1
theorem Ah8{K:PySem.W.Frag}{a b:Expr}{ta:TA}{p pos:Pos}(hg:Gl X "zip") (hm:X.mg "zip" = none) (ha:PA X [a,b] ta) (hK:X.K=K:=by rfl) (hs:starEach [a,b] X.env=[(false,eval a X.env),(false,eval b X.env)]:=by rfl) (hs2:starEach [b] X.env=[(false,eval b X.env)]:=by rfl) :
  PI X (.Tuple es kx tp) (.Call (.Name "zip" p) [a,b] [] pos) (AoT K ta):=by
 subst hK
 intro pins s σ H R I h
 refine Call_ (Pz I hg hm AjB (PyProof.Rows.callWith_type1 (thn (ha pos pins s σ H _ I h) fun us s1 ⟨vs,H1,I1,r1,q1⟩=>?_) (by rw[hs,hs2]) (by rw[hs2];rfl)))
 obtain⟨S1,S2,e,hz,o1,o2,q⟩:=q1
 subst e
 obtain⟨u1,u2,rfl,ru1,ru2⟩:=r1.two
 have fin:∀(t1 t2:Tok) (h':Heap) (tk:Nat),IsZip h' (s1.heap.objs.size+4) (s1.heap.objs.size+2) (s1.heap.objs.size+3) .none→IsPair h' (s1.heap.objs.size+2) (.ref s1.heap.objs.size) (.ref (s1.heap.objs.size+1))→IsPair h' (s1.heap.objs.size+3) .none .none →
   YJ s1.heap.objs.size t1 S1 0 h'→YJ (s1.heap.objs.size+1) t2 S2 0 h'→(∀ c o,s1.heap.get? c=some o→h'.get? c=some o) →
   wpAny (model X.prog X.w) X.A (pyIter (.ref (s1.heap.objs.size+4))) (PIE X pins σ (.Tuple es kx tp) R) X.xe { s1 with heap:=h',toks:=tk }:=fun t1 t2 h' tk hzz hTI hTO j1 j2 kk=>by
  refine wpAny_pyIter_zip hzz ?_
  have lt:∀ S:Src,Acb X.K H1 S→∀ a,S=.l a→a<s1.heap.objs.size:=fun S ok a e=>by
   subst e
   obtain⟨xs,q⟩:=ok
   obtain⟨its,_,p1,_⟩:=I1.list q
   obtain⟨o,e,_⟩:=p1.isList
   exact Heap.lt_size e
  refine⟨_,[s1.heap.objs.size+4,s1.heap.objs.size+2,s1.heap.objs.size+3,s1.heap.objs.size,s1.heap.objs.size+1],_,_,H1,rfl,I1.kept (t':=tk) kk,Ai9 (t1:=t1) (t2:=t2) (AgD _) (fun a e=>?_) (fun a e=>?_),
   ⟨hzz,hTI,⟨_,_,hTO⟩,j1,j2⟩,fun c hc=>?_,q⟩
  ·have:=lt S1 o1 a e;exact⟨lne this 4,lne this 3,lne this 0,lne this 1⟩
  ·have:=lt S2 o2 a e;exact⟨lne this 4,lne this 3,lne this 0,lne this 1⟩
  ·have le:s1.heap.objs.size≤c:=by
    simp only [Ar3,Ar4,or_false] at hc
    rcases hc with e | e | e | e | e <;> subst e <;> omega
   exact I1.Agt le (I1.hok.fresh le)
 cases S1 with
 | l a =>
  cases ru1
  obtain⟨xs,hq1⟩:=id o1
  obtain⟨AaY,rv1,p1,_⟩:=I1.list hq1
  cases S2 with
  | l b =>
   cases ru2
   obtain⟨ys,hq2⟩:=id o2
   obtain⟨its2,rv2,p2,_⟩:=I1.list hq2
   refine call_zip_2 p1.isList p2.isList fun h' hzz hTI hTO j1 j2 hsz kk=>fin 0 0 h' s1.toks hzz hTI hTO j1 j2 kk
  | s x =>
   obtain⟨t,rfl⟩:=ru2
   refine callType_new F.called_zip (by decide) (F.typeCall_zip_2 _ _) (F.newCall_zip_2 _ _) (fun obj=>F.args_object_init_3 obj _ _) F.entry_zip_new (Afy a AaY.toArray x t) ⟨p1.isList,?_⟩
   obtain⟨z4,g5,g3,g4,g1,g2,kk⟩:=Af1 (h:=s1.heap) (o1:=Ah7 a) (o2:=XC x t) rfl rfl
   show _∧_
   rw[z4]
   exact⟨⟨_,g5,rfl⟩,fin 0 t _ s1.toks g5 g3 g4 ⟨_,g1,rfl,rfl⟩ ⟨_,g2,rfl,rfl⟩ kk⟩
 | s y =>
  obtain⟨t1,rfl⟩:=ru1
  cases S2 with
  | l b=>exact hz.elim
  | s x =>
   obtain⟨t,rfl⟩:=ru2
   refine callType_new F.called_zip (by decide) (F.typeCall_zip_2 _ _) (F.newCall_zip_2 _ _) (fun obj=>F.args_object_init_3 obj _ _) F.entry_zip_new (Afz y t1 x t) ?_
   obtain⟨z4,g5,g3,g4,g1,g2,kk⟩:=Af1 (h:=s1.heap) (o1:=XC y t1) (o2:=XC x t) rfl rfl
   show _∧_
   rw[z4]
   exact⟨⟨_,g5,rfl⟩,fin t1 t _ s1.toks g5 g3 g4 ⟨_,g1,rfl,rfl⟩ ⟨_,g2,rfl,rfl⟩ kk⟩
end
open PySem PySem.Spec PyProof.Rows
theorem AiA:typeLookup (.type "list_reverseiterator") "__len__" = pure none:=by
 rw[typeLookup_type,builtinLookup_eq_fast];kernel_rfl
theorem AjN:typeLookup (.type "list_reverseiterator") "__length_hint__" = pure (some (.builtin "list_reverseiterator.__length_hint__")):=by
 rw[typeLookup_type,builtinLookup_eq_fast];kernel_rfl
section
variable {prog:Program}{w:World}{A:Around}{E:Value→Shared→Prop}{s:Shared}{R:Result→Shared→Prop}{it:Addr}{fp wr:List Addr}{G:Array GenState→Array GenState→Prop}{n:Nat}{P:Nat→Value→Prop}{St:Nat→Shared→Prop}
theorem AgE(V:WalksS prog w A.in1 it fp wr G n P St)(ty:∀ i s,St i s→s.TypeIs (.ref it) "list_reverseiterator") (M:Addr) (res:Value) (c:Nat) (st0:St 0 s) (nf:M∉fp) (mi:it∈fp) (hM:s.heap.get? M=some { cls:=.type "list", data:=.seq #[] c })
  (fin:∀ s' acc c',Moved (M::wr) G s s'→s'.heap.get? M=some { cls:=.type "list", dict:=none,data:=.seq acc c',slots:=#[] }→ItemsOf P acc n→R (.ok (.ret res)) s') (hn:n≤sizeLine) :
  wpAny (model prog w) A.in1 (Builtin.List.listExtendWith (.ref M) (.ref it) res)
   (fun f s'=>match f with | .done d=>R (.ok d) s' | .again k=>k.quiet=true∧codeAny (model prog w) A k R s') (fun e s'=>R (.error e) s') s:=by
 have ne:M≠it:=fun e=>nf (e▸mi)
 have q1:Builtin.List.listSameRef (.ref M) (.ref it)=false:=by simp[Builtin.List.listSameRef,ne]
 unfold Builtin.List.listExtendWith
 refine wpAny_bind (wpAny_typeOf (ty 0 _ st0) ?_)
 rw[if_neg (by rw[q1];decide)]
 refine wpAny_bind (V.self 0 _ _ _ st0 ?_);refine wpAny_bind (wpAny_holding ?_)
 unfold Builtin.List.listLengthHint
 refine wpAny_bind (wpAny_specialOf (ty 0 _ st0) AiA ?_)
 show wpAny _ A.in1 (specialOf (Value.ref it) (Str.ofString "__length_hint__") >>= _) _ _ _
 refine wpAny_bind (wpAny_specialOf (ty 0 _ st0) AjN ?_)
 generalize hid:("list_reverseiterator.__length_hint__" : String)=name
 wp_delta
 rw[show splitId name=some ("list_reverseiterator", "__length_hint__") from by subst hid;decide +kernel]
 subst hid
 refine wpAny_bind (wpAny_isInstance (b:=true) (ty 0 _ st0) (by rw[isSubtype_type];kernel_rfl) ?_);refine wpAny_pure ?_
 rw[if_neg (by decide)]
 refine wpAny_pure ⟨plainId_quiet F.plain_extend_loop _,codeAny_extend_loopS V hn _ nf _ n 0 _ _ _ rfl (Ar9 _) st0 hM (ItemsOf.nil P) fun s' acc c' mv hM' ha=>?_⟩
 exact fin s' acc c' mv hM' ha
theorem AjO(V:WalksS prog w A.in1 it fp wr G n P St)(ty:∀ i s,St i s→s.TypeIs (.ref it) "list_reverseiterator") (M:Addr) (st0:St 0 s) (nf:M∉fp) (mi:it∈fp) (hM:s.heap.get? M=some { cls:=.type "list", data:=.seq #[] })
  (fin:∀ s' acc c',Moved (M::wr) G s s'→s'.heap.get? M=some { cls:=.type "list", dict:=none,data:=.seq acc c',slots:=#[] }→ItemsOf P acc n→R (.ok (.ret .none)) s') (hn:n≤sizeLine) :
  wpAny (model prog w) A.in1 (Builtin.«list.__init__» ⟨[.ref M,.ref it],[]⟩)
   (fun f s'=>match f with | .done d=>R (.ok d) s' | .again k=>k.quiet=true∧codeAny (model prog w) A k R s') (fun e s'=>R (.error e) s') s:=by
 show wpAny _ A.in1 (do let old ← Builtin.List.listItems (.ref M);Builtin.List.listUpdate (.ref M) (fun _=>#[]);letGo old.toList.reverse;Builtin.List.listExtendWith (.ref M) (.ref it) .none) _ _ s
 refine wpAny_bind ?_;unfold Builtin.List.listItems
 refine wpAny_bind (wpAny_seqItems hM rfl (wpAny_pure ?_))
 show wpAny _ A.in1 (updateSeq M (fun _=>#[]) >>= fun _=>letGo (#[]:Array Value).toList.reverse >>= fun _=>Builtin.List.listExtendWith (.ref M) (.ref it) .none) _ _ s
 refine wpAny_bind (wpAny_updateSeq hM rfl ?_)
 have hM2:=Heap.get?_update_self (Obj.mapSeq (fun _=>(#[]:Array Value))) hM rfl
 have off:∀ b o,b≠M→s.heap.get? b=some o→(s.heap.update M (Obj.mapSeq (fun _=>(#[]:Array Value)))).get? b=some o:=fun b o nb e=>(Heap.get?_update_other _ _ (Ne.symm nb)).trans e
 refine wpAny_bind (wpAny_letGo ?_)
 refine AgE V ty M .none _ (V.frame 0 s _ s.toks st0 (Art _) fun b hb o e=>off b o (fun z=>nf (z▸hb)) e) nf mi hM2 (fun s' acc c' mv hM' ha=>?_) hn
 exact fin s' acc c' (Moved.trans V.gtrans ((Moved.refl V.grefl).then_heap (Art _) fun b o hb e=>off b o (fun z=>hb (z▸ArD)) e) mv) hM' ha
theorem AjP{Q:Value→Shared→Prop}(V:WalksS prog w A.in1.in1 it fp wr G n P St)(ty:∀ i s,St i s→s.TypeIs (.ref it) "list_reverseiterator") (st0:St 0 s) (below:∀ b∈fp,b<s.heap.objs.size) (mi:it∈fp)
  (fin:∀ s' acc c',Moved (s.heap.objs.size::wr) G { s with heap:=s.heap.push { cls:=.type "list", data:=.seq #[] } } s' →
   s'.heap.get? s.heap.objs.size=some { cls:=.type "list", dict:=none,data:=.seq acc c',slots:=#[] }→ItemsOf P acc n→Q (.ref s.heap.objs.size) s') (hn:n≤sizeLine) :
  wpAny (model prog w) A (call (.type "list") [.ref it]) Q E s:=by
 have nf:s.heap.objs.size∉fp:=fun z=>Ar8 _ (below _ z)
 refine callType_codes (Q₁:=fun ob s1=>ob=.ref s.heap.objs.size∧s1={ s with heap:=s.heap.push { cls:=.type "list", data:=.seq #[] } }) F.called_list (F.typeCall_list_1 _) F.entry_list_init (code_list_new _ ⟨rfl,rfl⟩) fun ob s1 h1=>?_
 obtain⟨rfl,rfl⟩:=h1
 have hM:(s.heap.push { cls:=.type "list", data:=.seq #[] }).get? s.heap.objs.size=some { cls:=.type "list", data:=.seq #[] }:=Heap.get?_push_size _ rfl
 refine⟨⟨_,hM,rfl⟩,F.args_list_init_2 _ _,AjO V ty _ (V.frame 0 s _ s.toks st0 (Art _) fun b _ o e=>Heap.get?_push_of_some _ e) nf mi hM (fun s' acc c' mv hM' ha=>?_) hn⟩
 exact⟨rfl,fin s' acc c' mv hM' ha⟩
end
section
variable {X:Cx}{K:PySem.W.Frag}{p1 p2 pos1 pos2:Pos}{e:Expr}{te:TE}
def AjQ (K:PySem.W.Frag)(te:TE):TE:=fun σ H Q=>te σ H fun x H1=>∃ a ys,x=.ref a∧SqL K H1 a ys∧ys.length≤1000∧∀ l,H1 l=none→Q (.ref l) (upd H1 l (.lst ys.reverse))
theorem Ace(hg1:Gl X "list") (hm1:X.mg "list" = none) (hg2:Gl X "reversed") (hm2:X.mg "reversed" = none) (he:PE X e te) (hK:X.K=K:=by rfl) (hc:X.calm=true:=by rfl)
  (hs2:starEach [e] X.env=(false,eval e X.env)::starEach [] X.env:=by rfl)
  (hs1:starEach [.Call (.Name "reversed" p2) [e] [] pos2] X.env=(false,eval (.Call (.Name "reversed" p2) [e] [] pos2) X.env)::starEach [] X.env:=by rfl)
  (hq1:(backTo pos1 (starEach [] X.env)).any (·.1)=false:=by rfl) (hq2:(backTo pos2 (starEach [] X.env)).any (·.1)=false:=by rfl) :
  PE X (.Call (.Name "list" p1) [.Call (.Name "reversed" p2) [e] [] pos2] [] pos1) (AjQ K te):=by
 subst hK
 intro pins s σ H Q I h
 have hsz:sizeLine=16777216:=sizeLine_eq
 refine wpAny_Call_Name_kw (Pz I hg1 hm1 U8 ?_)
 refine PyProof.Rows.callWith_type1 ?_ hs1 hq1
 rw[hs1]
 show wpAny _ _ (spliced ((false,eval (.Call (.Name "reversed" p2) [e] [] pos2) X.env)::backTo pos1 (starEach [] X.env))) _ _ s
 refine Calls.spliced_cons ?_
 refine wpAny_Call_Name_kw (Pz I hg2 hm2 QD ?_)
 refine PyProof.Rows.callWith_type1 ?_ hs2 hq2
 rw[hs2]
 show wpAny _ _ (spliced ((false,eval e X.env)::backTo pos2 (starEach [] X.env))) _ _ s
 refine Calls.spliced_cons (thn (he pins s σ H _ I h) fun u s1 ⟨x,H1,I1,r1,a,ys,ex,hq,hy,q⟩=>?_)
 subst ex
 cases r1
 refine Calls.spliced_nil ?_
 obtain⟨its,r,pl,hz⟩:=I1.list hq
 have hl:=r.length
 refine call_reversed_list pl.isList ?_
 refine Calls.spliced_nil ?_
 obtain⟨h1,g1,d1,k1,o1⟩:=s1
 have hit:(h1.push (revObj a ((its.toArray.size:Int)-1))).IsRevIter h1.objs.size a ((its.toArray.size:Int)-1-((0:Nat):Int)):=⟨_,Heap.get?_push_size _ rfl,rfl,by show Data.fields _=Data.fields _;rw[show(its.toArray.size:Int)-1-((0:Nat):Int)=(its.toArray.size:Int)-1 by omega]⟩
 have hli:(h1.push (revObj a ((its.toArray.size:Int)-1))).IsList a its.toArray:=pl.isList.push _
 obtain⟨oa,hoa,_⟩:=pl.isList
 have hlt:a<h1.objs.size:=Heap.lt_size hoa
 have hh:X.A.in1.in1.handled=none:=by simp[I.ok.hd hc]
 have ps:(h1.push (revObj a ((its.toArray.size:Int)-1))).objs.size=h1.objs.size+1:=Heap.size_push _ _
 refine AjP (Walks.toS (Walks.listRev hh h1.objs.size a (Arw hlt) its.toArray)) (fun i s x=>x.2.1.typeIs) ⟨Ar9 _,hit,hli⟩ (fun b hb=>?_) (by simp) (fun s' acc c' mv hM ha=>?_) (by rw[Ar0];omega)
 ·show b<(h1.push (revObj a ((its.toArray.size:Int)-1))).objs.size
  rw[ps]
  rcases List.mem_cons.mp hb with e | e
  ·rw[e];exact Asf _
  ·rw[List.mem_singleton.mp e];exact Asx hlt
 ·have vs:Vals ys.reverse acc.toList:=by
   refine Aca _ _ (by rw[ArR,hl];have:=ha.1;simpa using this.symm) fun i x u e1 e2=>?_
   have hi:i<ys.length:=by
    have:=(List.getElem?_eq_some_iff.mp e1).1
    rwa [ArR] at this
   have e3:=ha.2 i u (by rw[← Array.getElem?_toList];exact e2)
   rw[As8 hi] at e1
   obtain⟨v,hv,rv'⟩:=r.get e1
   rw[Ar0,← hl] at e3
   have e4:its[ys.length-1-i]?=some u:=by simpa using e3
   rw[hv] at e4
   cases e4
   exact rv'
  rw[Moved.eq_with mv]
  have hM':s'.heap.get? (h1.objs.size+1)=some { cls:=.type "list", dict:=none,data:=.seq acc c',slots:=#[] }:=by
   have:=hM
   dsimp only at this
   rw[ps] at this
   exact this
  show EP X pins σ Q (Value.ref (h1.push (revObj a ((its.toArray.size:Int)-1))).objs.size) _
  rw[ps]
  refine⟨.ref (h1.objs.size+1),_,I1.laid (t':=s'.toks) (o:=.lst ys.reverse) (h':=s'.heap) (fun b o e=>?_) (ArZ _) ?_,rfl,q _ (I1.hok.fresh (ArZ _))⟩
  ·have hb:=Heap.lt_size e
   refine mv.heap b o ?_ (Heap.get?_push_of_some _ (Heap.get?_push_of_some _ e))
   show b∉[(h1.push (revObj a ((its.toArray.size:Int)-1))).objs.size,h1.objs.size]
   rw[ps]
   have hb2:b<h1.objs.size:=hb
   simp only [Ar3,Ar4,or_false,not_or]
   exact⟨Arw (Asx hb2),Arw hb2⟩
  ·exact⟨by rw[ArR];exact hz,acc.toList,c',vs,by simpa using hM'⟩
end
open PySem PySem.Spec PyProof.Rows
def Itv (K:PySem.W.Frag)(a:Addr)(n:Nat):It :=
 ⟨fun i H=>∃ xs x,SqL K H a xs∧xs.length=n∧i<n∧xs.reverse[i]?=some x,fun i H x H'=>H'=H∧∀ xs,SqL K H a xs→xs.reverse[i]?=some x,fun i H=>n=i⟩
theorem AjR{X:Cx}{scope:Scope}(hd:∀ y∈scope.names,y.2≠.free):∀ y∈scope.names,y.2=.free→X.env.scope.names.lookup y.1=some .cell∧scope.names.lookup y.1=some .free:=fun y hy e=>absurd e (hd y hy)
section
variable {X:Cx}{tg:Expr}
def AqD (K:PySem.W.Frag)(ta:TA):TI:=fun σ H R=>ta σ H fun vs H1=>∃ a xs,vs=[.ref a]∧SqL K H1 a xs∧R (Itv K a xs.length) H1
end
end L2
namespace PySem
open Sem (wp)
open Builtin Builtin.Str Builtin.Int
open PySem.Spec PyProof.Rows
section
variable {prog:Program}{w:World}{A:Around}{E:Value→Shared→Prop}{s:Shared}{R:Result→Shared→Prop}
abbrev RvP (x:Str):Nat→Value→Prop:=fun i v=>∃ c u,x.cps[x.cps.size-1-i]?=some c∧v=.str ⟨#[c]⟩ u
theorem AgF{M I:Addr}{x:Str}{t:Tok}{c:Nat}(hh:A.handled=none)(hb:x.length≤sizeLine)(hit1:s.heap.Ef I x t ((x.length:Int)-1))(hSI:M≠I)(hS₁:s.heap.get? M=some { cls:=.type "list", data:=.seq #[] c }) (res:Value)
  (fin:∀ h' tk acc c',(∀ b o,b≠M→b≠I→s.heap.get? b=some o→h'.get? b=some o)→h'.get? M=some { cls:=.type "list", dict:=none,data:=.seq acc c',slots:=#[] }→ItemsOf (RvP x) acc x.cps.size→R (.ok (.ret res)) { s with heap:=h',toks:=tk }) :
  wpAny (model prog w) A.in1 (Builtin.List.listExtendWith (.ref M) (.ref I) res)
   (fun f s'=>match f with | .done d=>R (.ok d) s' | .again k=>k.quiet=true∧codeAny (model prog w) A k R s') (fun e s'=>R (.error e) s') s:=by
 have hl:sizeLine=16777216:=sizeLine_eq
 have hb':¬(x.length:Int) ≥ 2 ^ 63:=by omega
 have h1:Builtin.List.listSameRef (.ref M) (.ref I)=false:=by simp[Builtin.List.listSameRef,hSI]
 have hT1:s.TypeIs (.ref I) "reversed" := hit1.typeIs
 unfold Builtin.List.listExtendWith
 refine wpAny_bind (wpAny_typeOf hT1 ?_)
 rw[if_neg (by rw[h1];decide)]
 refine wpAny_bind (QC hit1 ?_)
 refine wpAny_bind (wpAny_holding ?_)
 unfold Builtin.List.listLengthHint
 refine wpAny_bind (wpAny_specialOf hT1 RV.AmF ?_)
 show wpAny _ A.in1 (specialOf (Value.ref I) (Str.ofString "__length_hint__") >>= _) _ _ _
 refine wpAny_bind (wpAny_specialOf hT1 RV.hint ?_)
 (generalize hid:("reversed.__length_hint__" : String)=id0;(fail_if_success (clear hid id0));wp_delta;rw[show splitId id0=some ("reversed", "__length_hint__") from by subst hid;decide +kernel];subst hid)
 refine wpAny_bind (wpAny_isInstance (b:=true) hT1 (by rw[isSubtype_type];kernel_rfl) ?_)
 show wpAny _ A.in1 (rule "list.length-hint.hint" >>= _) _ _ _
 refine wpAny_bind (wpAny_rule ?_)
 refine wpAny_bind (wpAny_of_eq (RV.ZL.bind _) ?_)
 dsimp only
 refine wpAny_bind (wpAny_attempt (VP hb' hit1 fun u tk htk=>?_))
 have hk0:∃ k:Int,k=(x.length:Int):=⟨_,rfl⟩
 obtain⟨k,hk⟩:=hk0
 rw[← hk]
 dsimp only
 refine wpAny_bind (m:=asInt? (.int k u)) (wpAny_pure ?_)
 dsimp only
 have f1:Builtin.List.listFitsIndex k=true:=by
  unfold Builtin.List.listFitsIndex
  simp
  omega
 have f2:Builtin.List.listTooLong k.toNat=false:=by
  unfold Builtin.List.listTooLong
  exact decide_eq_false (by omega)
 rw[if_neg (by rw[f1];decide),if_neg (by omega),if_neg (by rw[f2];decide)]
 refine wpAny_pure ?_
 have e00:(x.cps.size:Int)-1-((0:Nat):Int)=(x.length:Int)-1:=by show(x.cps.size:Int)-1-((0:Nat):Int)=(x.cps.size:Int)-1;omega
 by_cases h0:x.length=0
 ·have e0:(k != 0)=false:=by rw[hk,h0];rfl
  rw[e0,if_neg (by decide)]
  have st0:s.heap.Ef I x t ((x.cps.size:Int)-1-((0:Nat):Int)):=by rw[e00];exact hit1
  refine wpAny_pure ⟨plainId_quiet F.plain_extend_loop _,?_⟩
  refine Qx (A:=A) hh hb _ hSI _ _ 0 { s with toks:=tk } #[] _ rfl (Ar9 _) st0 hS₁ (ItemsOf.nil _) fun h' tk' acc' c' kp ho' hS' hacc=>?_
  exact fin h' tk' acc' c' (fun b o hM hI q=>kp b o hM hI q) hS' hacc
 ·have e0:(k != 0)=true:=by simp;omega
  rw[e0,if_pos (by decide)]
  refine wpAny_bind (wpAny_rule ?_)
  refine wpAny_bind ?_
  show wpAny _ A.in1 (updateSeq M (·.push .none) >>= fun _=>updateSeq M (·.pop)) _ _ _
  refine wpAny_bind (wpAny_updateSeq hS₁ rfl ?_)
  have hS₂:=Heap.get?_update_self (Obj.mapSeq (·.push Value.none)) hS₁ rfl
  refine wpAny_updateSeq hS₂ rfl ?_
  have hS₃:=Heap.get?_update_self (Obj.mapSeq (·.pop)) hS₂ rfl
  have oth:∀ b o,b≠M→s.heap.get? b=some o→((s.heap.update M (Obj.mapSeq (·.push Value.none))).update M (Obj.mapSeq (·.pop))).get? b=some o :=
   fun b o hb e=>(Heap.get?_update_other _ _ (Ne.symm hb)).trans ((Heap.get?_update_other _ _ (Ne.symm hb)).trans e)
  have st0:((s.heap.update M (Obj.mapSeq (·.push Value.none))).update M (Obj.mapSeq (·.pop))).Ef I x t ((x.cps.size:Int)-1-((0:Nat):Int)):=by
   rw[e00];exact hit1.at fun o q=>oth I o (Ne.symm hSI) q
  refine wpAny_pure ⟨plainId_quiet F.plain_extend_loop _,?_⟩
  refine Qx (A:=A) hh hb _ hSI _ _ 0
   { s with heap:=(s.heap.update M (Obj.mapSeq (·.push Value.none))).update M (Obj.mapSeq (·.pop)),toks:=tk } #[] _ rfl (Ar9 _) st0 hS₃ (ItemsOf.nil _) fun h' tk' acc' c' kp ho' hS' hacc=>?_
  exact fin h' tk' acc' c' (fun b o hM hI q=>kp b o hM hI (oth b o hM q)) hS' hacc
theorem AjS{I:Addr}{x:Str}{t:Tok}{Q:Value→Shared→Prop}(hh:A.handled=none)(hb:x.length≤sizeLine)(hit:s.heap.Ef I x t ((x.length:Int)-1))
  (fin:∀ h' tk acc c',(∀ b o,b≠I→s.heap.get? b=some o→h'.get? b=some o)→h'.get? s.heap.objs.size=some { cls:=.type "list", dict:=none,data:=.seq acc c',slots:=#[] }→ItemsOf (RvP x) acc x.cps.size→Q (.ref s.heap.objs.size) { s with heap:=h',toks:=tk }) :
  wpAny (model prog w) A (call (.type "list") [.ref I]) Q E s:=by
 have hlt:I<s.heap.objs.size:=by
  obtain⟨o,ho,_⟩:=hit
  exact Heap.lt_size ho
 refine callType_codes (Q₁:=fun ob s1=>ob=.ref s.heap.objs.size∧s1={ s with heap:=s.heap.push { cls:=.type "list", data:=.seq #[] } }) F.called_list (F.typeCall_list_1 _) F.entry_list_init (code_list_new _ ⟨rfl,rfl⟩) fun ob s1 h1=>?_
 obtain⟨rfl,rfl⟩:=h1
 have hM:(s.heap.push { cls:=.type "list", data:=.seq #[] }).get? s.heap.objs.size=some { cls:=.type "list", data:=.seq #[] }:=Heap.get?_push_size _ rfl
 refine⟨⟨_,hM,rfl⟩,F.args_list_init_2 _ _,?_⟩
 show wpAny _ A.in1.in1 (do let old ← Builtin.List.listItems (.ref s.heap.objs.size);Builtin.List.listUpdate (.ref s.heap.objs.size) (fun _=>#[]);letGo old.toList.reverse;Builtin.List.listExtendWith (.ref s.heap.objs.size) (.ref I) .none) _ _ _
 refine wpAny_bind ?_;unfold Builtin.List.listItems
 refine wpAny_bind (wpAny_seqItems hM rfl (wpAny_pure ?_))
 show wpAny _ A.in1.in1 (updateSeq s.heap.objs.size (fun _=>#[]) >>= fun _=>letGo (#[]:Array Value).toList.reverse >>= fun _=>Builtin.List.listExtendWith (.ref s.heap.objs.size) (.ref I) .none) _ _ _
 refine wpAny_bind (wpAny_updateSeq hM rfl ?_)
 have hM2:=Heap.get?_update_self (Obj.mapSeq (fun _=>(#[]:Array Value))) hM rfl
 have ne:s.heap.objs.size≠I:=ArY hlt
 have off:∀ b o,b≠s.heap.objs.size→s.heap.get? b=some o→((s.heap.push { cls:=.type "list", data:=.seq #[] }).update s.heap.objs.size (Obj.mapSeq (fun _=>(#[]:Array Value)))).get? b=some o:=fun b o nb e=>(Heap.get?_update_other _ _ (Ne.symm nb)).trans (Heap.get?_push_of_some _ e)
 refine wpAny_bind (wpAny_letGo ?_)
 refine AgF (A:=A.in1) (s:={ s with heap:=(s.heap.push { cls:=.type "list", data:=.seq #[] }).update s.heap.objs.size (Obj.mapSeq (fun _=>(#[]:Array Value))) }) (by exact hh) hb (hit.at fun o e=>off I o (Ne.symm ne) e) ne hM2 .none fun h' tk acc c' kp hS' hacc=>?_
 exact⟨rfl,fin h' tk acc c' (fun b o hI e=>kp b o (Arw (Heap.lt_size e)) hI (off b o (Arw (Heap.lt_size e)) e)) hS' hacc⟩
end
end PySem
namespace L2
open PySem PySem.Spec PyProof.Rows
section
variable {X:Cx}{K:PySem.W.Frag}{p1 p2 pos1 pos2:Pos}{e:Expr}{te:TE}
def AiB (te:TE):TE:=fun σ H Q=>te σ H fun x H1=>∃ z:Str,x=.str z∧z.length≤1000∧∀ l,H1 l=none→Q (.ref l) (upd H1 l (.lst (z.cps.toList.reverse.map fun c=>V.str ⟨#[c]⟩)))
theorem Af2(hg1:Gl X "list") (hm1:X.mg "list" = none) (hg2:Gl X "reversed") (hm2:X.mg "reversed" = none) (he:PE X e te) (hc:X.calm=true:=by rfl)
  (hs2:starEach [e] X.env=(false,eval e X.env)::starEach [] X.env:=by rfl)
  (hs1:starEach [.Call (.Name "reversed" p2) [e] [] pos2] X.env=(false,eval (.Call (.Name "reversed" p2) [e] [] pos2) X.env)::starEach [] X.env:=by rfl)
  (hq1:(backTo pos1 (starEach [] X.env)).any (·.1)=false:=by rfl) (hq2:(backTo pos2 (starEach [] X.env)).any (·.1)=false:=by rfl) :
  PE X (.Call (.Name "list" p1) [.Call (.Name "reversed" p2) [e] [] pos2] [] pos1) (AiB te):=by
 intro pins s σ H Q I h
 have hsz:sizeLine=16777216:=sizeLine_eq
 refine wpAny_Call_Name_kw (Pz I hg1 hm1 U8 ?_)
 refine PyProof.Rows.callWith_type1 ?_ hs1 hq1
 rw[hs1]
 show wpAny _ _ (spliced ((false,eval (.Call (.Name "reversed" p2) [e] [] pos2) X.env)::backTo pos1 (starEach [] X.env))) _ _ s
 refine Calls.spliced_cons ?_
 refine wpAny_Call_Name_kw (Pz I hg2 hm2 QD ?_)
 refine PyProof.Rows.callWith_type1 ?_ hs2 hq2
 rw[hs2]
 show wpAny _ _ (spliced ((false,eval e X.env)::backTo pos2 (starEach [] X.env))) _ _ s
 refine Calls.spliced_cons (thn (he pins s σ H _ I h) fun u s1 ⟨x,H1,I1,r1,z,ex,hz,q⟩=>?_)
 subst ex
 obtain⟨tk,rfl⟩:=r1
 refine Calls.spliced_nil ?_
 refine Ox (by omega) ?_
 refine Calls.spliced_nil ?_
 obtain⟨h1,g1,d1,k1,o1⟩:=s1
 have hit:(h1.push (AbV z tk ((z.length:Int)-1))).Ef h1.objs.size z tk ((z.length:Int)-1):=⟨_,Heap.get?_push_size _ rfl,rfl,rfl⟩
 have hh:X.A.handled=none:=I.ok.hd hc
 have ps:(h1.push (AbV z tk ((z.length:Int)-1))).objs.size=h1.objs.size+1:=Heap.size_push _ _
 refine AjS (by simp[hh]) (by omega) hit fun h' tk' acc c' kp hM ha=>?_
 have vs:Vals (z.cps.toList.reverse.map fun c=>V.str ⟨#[c]⟩) acc.toList:=by
  refine Aca _ _ (by rw[Arq,ArR,Array.length_toList];have:=ha.1;simpa using this.symm) fun i x u e1 e2=>?_
  obtain⟨c,u',hc',rfl⟩:=ha.2 i u (by rw[← Array.getElem?_toList];exact e2)
  have hi:i<z.cps.size:=by
   have:=(List.getElem?_eq_some_iff.mp e1).1
   rw[Arq,ArR,Array.length_toList] at this
   exact this
  rw[Ar6,As8 (by rw[Array.length_toList];exact hi),Array.length_toList,Array.getElem?_toList,hc'] at e1
  cases e1
  exact⟨_,rfl⟩
 have hM':h'.get? (h1.objs.size+1)=some { cls:=.type "list", dict:=none,data:=.seq acc c',slots:=#[] }:=by
  have:=hM
  dsimp only at this
  rw[ps] at this
  exact this
 show EP X pins σ Q (Value.ref (h1.push (AbV z tk ((z.length:Int)-1))).objs.size) _
 rw[ps]
 refine⟨.ref (h1.objs.size+1),_,I1.laid (t':=tk') (o:=.lst (z.cps.toList.reverse.map fun c=>V.str ⟨#[c]⟩)) (h':=h') (fun b o e=>?_) (ArZ _) ?_,rfl,q _ (I1.hok.fresh (ArZ _))⟩
 ·have hb:=Heap.lt_size e
  have hb2:b<h1.objs.size:=hb
  exact kp b o (Arw hb2) (Heap.get?_push_of_some _ e)
 ·exact⟨by rw[Arq,ArR,Array.length_toList];show z.length≤_;omega,acc.toList,c',vs,by simpa using hM'⟩
end
def An4 (z:Str):It:=⟨fun i _=>i<z.cps.size,fun i H x H'=>H'=H∧∃ c,z.cps[z.cps.size-1-i]?=some c∧x=.str ⟨#[c]⟩,fun i _=>z.cps.size=i⟩
theorem AiC{P:Program}{w:World}{K:PySem.W.Frag}{tg:Expr}(z:Str)(tk:Tok)(it:Addr)(hz:z.length≤sizeLine):Turn P w K tg (An4 z) [it] it (fun i h=>h.Ef it z tk ((z.cps.size:Int)-1-(i:Int))) where
 mem:=by simp
 obj:=fun i h st b hb=>by
  have e:b=it:=by simpa using hb
  subst e
  obtain⟨o,e,c,d⟩:=st
  exact⟨o,e,fun v z=>by rw[d] at z;cases z⟩
 keep:=fun i h h' st k=>st.at fun o e=>k it (by simp) o e
 item:=by
  intro X hP hw hK hc i pins s σ H E I hf st hg
  subst hP hw hK
  have hl:sizeLine=16777216:=sizeLine_eq
  have hi:i<z.cps.size:=hg
  have hb':¬(z.length:Int) ≥ 2 ^ 63:=by omega
  obtain⟨f0,f1,f2,f3,f4,f5⟩:=hf it (by simp)
  have st2:s.heap.Ef it z tk ((z.cps.size-1-i:Nat):Int):=by rw[show((z.cps.size-1-i:Nat):Int)=(z.cps.size:Int)-1-(i:Int) by omega];exact st
  have hx:z.cps[z.cps.size-1-i]?=some (z.cps[z.cps.size-1-i]'(by omega)):=Array.getElem?_eq_getElem (by omega)
  refine P0 st2 hx hb' fun h' u tk' st' sb=>?_
  have I1:Inv X pins σ H { s with heap:=h',toks:=tk' }:=I.turned (t':=tk') (fun b o hb e=>(sb.2 b hb).trans e) f0 f1 f3 f4 f5
  obtain⟨o,e,c,d⟩:=id st'
  refine⟨_,rfl,Afe (s:={ s with heap:=h',toks:=tk' }) e c d (by decide) ⟨.str _,H,I1,⟨u,rfl⟩,⟨rfl,_,hx,rfl⟩,?_,fun b hb=>(hf b hb).1⟩⟩
  show h'.Ef it z tk ((z.cps.size:Int)-1-((i+1:Nat):Int))
  rw[show(z.cps.size:Int)-1-((i+1:Nat):Int)=((z.cps.size-1-i:Nat):Int)-1 by omega]
  exact st'
 done:=by
  intro X hP hw hK hc i pins s σ H E I hf st hg
  subst hP hw hK
  have e:z.cps.size=i:=hg
  subst e
  obtain⟨f0,f1,f2,f3,f4,f5⟩:=hf it (by simp)
  have st2:s.heap.Ef it z tk (-1):=by rw[show(-1:Int)=(z.cps.size:Int)-1-(z.cps.size:Int) by omega];exact st
  exact QS (I.ok.hd hc) st2 fun h' eb _=>⟨rfl,I.turned (t':=s.toks) (fun b o hb e=>eb b o hb e) f0 f1 f3 f4 f5⟩
 self:=fun _ _ _ _ _ st h=>QC st h
section
variable {X:Cx}{tg:Expr}
def AoU (ta:TA):TI:=fun σ H R=>ta σ H fun vs H1=>∃ z:Str,vs=[.str z]∧z.length≤sizeLine∧R (An4 z) H1
theorem AlO{a:Expr}{ta:TA}{p pos:Pos}(hg:Gl X "reversed") (hm:X.mg "reversed" = none) (ha:PA X [a] ta) (hs:starEach [a] X.env=[(false,eval a X.env)]:=by rfl) :
  PI X tg (.Call (.Name "reversed" p) [a] [] pos) (AoU ta):=by
 intro pins s σ H R I h
 refine Call_ (Pz I hg hm QD (PyProof.Rows.callWith_type1 (thn (ha pos pins s σ H _ I h) fun us s1 ⟨vs,H1,I1,r1,q1⟩=>?_) hs rfl))
 obtain⟨z,e,hz,q⟩:=q1
 subst e
 have hl:sizeLine=16777216:=sizeLine_eq
 cases r1 with
 | cons r rr =>
  cases rr
  obtain⟨tk,rfl⟩:=r
  refine Ox (by omega) ?_
  have st0:(s1.heap.push (AbV z tk ((z.length:Int)-1))).Ef s1.heap.objs.size z tk ((z.cps.size:Int)-1-((0:Nat):Int)) :=
   ⟨_,Heap.get?_push_size _ rfl,rfl,by show Data.fields _=Data.fields _;rw[show(z.cps.size:Int)-1-((0:Nat):Int)=(z.length:Int)-1 by show(z.cps.size:Int)-1-((0:Nat):Int)=(z.cps.size:Int)-1;omega]⟩
  refine QC (s:={ s1 with heap:=s1.heap.push (AbV z tk ((z.length:Int)-1)),toks:=s1.toks+1+1 }) st0 ?_
  refine⟨s1.heap.objs.size,[s1.heap.objs.size],_,_,H1,rfl,I1.kept (t':=s1.toks+1+1) fun b o e=>Heap.get?_push_of_some _ e,AiC z tk _ hz,st0,fun b hb=>?_,q⟩
  have e:b=s1.heap.objs.size:=by simpa using hb
  subst e
  exact I1.Agt (Art _) (I1.hok.fresh (Art _))
theorem AiD{z:Str}{Bp:List Nat}{tc:TT}{te:TE}{σ:St}{H:Hp}{Q:VK}(Pv:Nat→List V→Hp→Prop)(h0:Pv 0 [] H)(hl:∀ i ys H,i≤z.cps.size→Pv i ys H→ys.length≤i)
  (hz:z.cps.size≤sizeLine) (hs:∀ i c ys H,i<z.cps.size→z.cps[z.cps.size-1-i]?=some c→Pv i ys H→Fq z.cps.size Pv tc te (some (.str ⟨#[c]⟩)::Ig σ Bp) i ys H)
  (hd:∀ ys H p,Pv z.cps.size ys H→H p=none→Q (.ref p) (upd H p (.lst ys))):VM Bp tc te (An4 z) σ H Q:=by
 refine⟨fun i m ys H=>m=z.cps.size-i∧i≤z.cps.size∧Pv i ys H,⟨z.cps.size,by simp,Ar9 _,h0⟩,?_⟩
 rintro i m ys H ⟨rfl,hi,p⟩
 have hy:=hl i ys H hi p
 by_cases hlt:i<z.cps.size
 ·refine .inr ⟨hlt,by omega,fun x H' y=>?_⟩
  obtain⟨e,c,hc,rfl⟩:=y
  subst e
  exact hs i c ys _ hlt hc p
 ·have e:i=z.cps.size:=by omega
  subst e
  exact .inl ⟨rfl,by omega,fun p' hp=>hd ys H p' p hp⟩
end
open PySem PySem.Spec PyProof.Rows
theorem Acf{acc:List (Str × Addr)}:∀{names:List (Str × NameKind)} {n:Nat} {h:Heap},names.filter (fun y=>y.2 == .cell)=[]→cellsFrom n names acc=acc∧pushCells h names=h
 | [],_,_,_=>⟨rfl,rfl⟩
 | (a,k)::r,n,h,e=>by
  cases hk:k == NameKind.cell with
  | true=>simp[As9,hk] at e
  | false =>
   have e':r.filter (fun y=>y.2 == .cell)=[]:=by simpa [As9,hk] using e
   unfold cellsFrom pushCells
   rw[hk]
   exact Acf e'
theorem AdD{x:Str}{acc:List (Str × Addr)}:∀{names:List (Str × NameKind)} {n:Nat} {h:Heap},names.filter (fun y=>y.2 == .cell)=[(x,.cell)] →
  cellsFrom n names acc=(x,n)::acc∧pushCells h names=h.push { cls:=.type "cell", data:=.cell none }
 | [],_,_,e=>by simp at e
 | (a,k)::r,n,h,e=>by
  cases hk:k == NameKind.cell with
  | true =>
   have e':(a,k)::r.filter (fun y=>y.2 == .cell)=[(x,.cell)]:=by simpa [As9,hk] using e
   injection e' with e1 e2
   cases e1
   have:=Acf (acc:=(x,n)::acc) (n:=n+1) (h:=h.push { cls:=.type "cell", data:=.cell none }) e2
   unfold cellsFrom pushCells
   rw[if_pos hk,if_pos hk]
   exact this
  | false =>
   have e':r.filter (fun y=>y.2 == .cell)=[(x,.cell)]:=by simpa [As9,hk] using e
   have:=AdD (acc:=acc) (n:=n) (h:=h) e'
   unfold cellsFrom pushCells
   rw[hk]
   exact this
abbrev Ah9:Obj:={ cls:=.type "dict", data:=.dict #[] }
abbrev AmI:Obj:={ cls:=.type "cell", data:=.cell none }
theorem Af3{M:Model}{A:Around}{E:Value→Shared→Prop}{s:Shared}{x:Str}{scope:Scope}{globals:Addr}{cl:List (Str × Addr)}{qual:Str}{env:Env}{Q:Env→Shared→Prop}
  (hone:scope.names.filter (fun y=>y.2 == .cell)=[(x,.cell)])
  (hQ:Q { scope,locals:=s.heap.objs.size,globals,cells:=(x,s.heap.objs.size+1)::cl,qual,func:=none,code:=env.code,frame:=env.frame,builtins:=env.builtins } { s with heap:=(s.heap.push Ah9).push AmI }) :
  wpAny M A (newFunctionEnv scope globals cl [] qual none .none (some env)) Q E s:=by
 simp only [newFunctionEnv,Option.isSome_some,if_true]
 refine wpAny_bind (wpAny_alloc ?_)
 refine wpAny_bind (wpAny_layCells _ (fun name kind cells=>by cases hkc:kind == NameKind.cell <;> simp[hkc]) _ _ _ _ ?_)
 have e1:=fun(n:Nat) (h:Heap)=>AdD (acc:=cl) (n:=n) (h:=h) hone
 rw[(e1 _ s.heap).1,(e1 0 _).2]
 rw[show({ s with heap:=s.heap.push Ah9 }:Shared).heap.objs.size=s.heap.objs.size+1 from Heap.size_push ..]
 exact wpAny_bind (by rw[List.forIn_nil];exact wpAny_pure (wpAny_pure hQ))
def SN (X:Cx)(x:Str)(Nc:List Str)(scope:Scope)(cs:List (Str × Addr))(C:Addr)(fp:List Addr)(s:Shared)(H:Hp):Cx where
 prog:=X.prog
 w:=X.w
 K:=X.K
 mg:=X.mg
 base:=X.base
 A:=X.A
 N:=Nc
 s₀:=s
 H₀:=H
 env:=compEnvC scope cs C X.env
 outer:=X.stack
 stack:=X.stack
 ex:=fp
 fn:=fun y=>y == x
 calm:=X.calm
 pn:=[]
 xe:=fun _ _=>False
structure U9 (X:Cx) (x:Str) (Nc:List Str) (Bp:List Nat) (scope:Scope):Prop where
 kind:scope.kind=.function
 one:scope.names.filter (fun y=>y.2 == .cell)=[(x,.cell)]
 names:∀ y∈scope.names,y.2=.local→scope.names.lookup y.1=some .local
 fr:∀ y∈scope.names,y.2=.free→X.env.scope.names.lookup y.1=some .cell∧scope.names.lookup y.1=some .free
 loc:scope.names.lookup x=some .cell
 len:Nc.length=Bp.length+1
 hd:Nc[0]?=some x
 nd:Nc.Nodup
 cap:∀ k j,Bp[k]?=some j→∃ y,Nc[k+1]?=some y∧X.N[j]?=some y∧scope.names.lookup y=some .free
theorem U9.cell{X:Cx}{x:Str}{Nc:List Str}{Bp:List Nat}{scope:Scope}(O:U9 X x Nc Bp scope){y:Str}(h:(y,NameKind.cell)∈scope.names):y=x:=by
 have:(y,NameKind.cell)∈scope.names.filter (fun y=>y.2 == .cell):=List.mem_filter.mpr ⟨h,rfl⟩
 rw[O.one] at this
 have:=List.mem_singleton.mp this
 injection this
section
variable {X:Cx}{pins:List (Addr × Obj)}{σ:St}{H:Hp}{s:Shared}
theorem UG{x y:Str}{c0 c:Addr}{cl:List (Str × Addr)}(h:List.lookup y ((x,c0)::cl)=some c):(y=x∧c=c0)∨(y≠x∧cl.lookup y=some c):=by
 rw[ArK] at h
 cases hb:y == x with
 | true=>rw[hb] at h;cases h;exact .inl ⟨beq_iff_eq.mp hb,rfl⟩
 | false=>rw[hb] at h;exact .inr ⟨by simpa using hb,h⟩
theorem AjT{x:Str}{c0:Addr}{cl:List (Str × Addr)}:List.lookup x ((x,c0)::cl)=some c0:=by simp[ArK]
theorem Af4{x y:Str}{c0:Addr}{cl:List (Str × Addr)}(h:y≠x):List.lookup y ((x,c0)::cl)=cl.lookup y:=by
 have:(y == x)=false:=by simpa using h
 simp[ArK,this]
theorem AjU{x:Str}{Nc:List Str}{Bp:List Nat}{scope:Scope}{cl:List (Str × Addr)}{C c0:Addr}{fp:List Addr}(I:Inv X pins σ H s)(O:U9 X x Nc Bp scope)
  (hcl:∀ x c,cl.lookup x=some c→X.env.cells.lookup x=some c∧(x,NameKind.free)∈scope.names) (SJ:∀ x,(x,NameKind.free)∈scope.names→cl.lookup x=X.env.cells.lookup x)
  (hC:s.heap.objs.size≤C) (hc0:s.heap.objs.size≤c0) (hfp:∀ b∈fp,Ou X pins H b) (hfo:∀ b∈fp,b<s.heap.objs.size):(SN X x Nc scope ((x,c0)::cl) C fp s H).Ok where
 mod:=I.ok.mod
 kind:=O.kind
 glob:=I.ok.glob
 blt:=I.ok.blt
 above:=hC
 inj:=fun a b c e1 e2=>by
  have no:∀{y},cl.lookup y=some c0→False:=fun {y} e=>by
   obtain⟨v,q⟩:=I.cell y c0 (hcl y c0 e).1
   exact Ar8 _ (Ary q.lt hc0)
  rcases UG e1 with ⟨a1,a2⟩ | ⟨a1,a2⟩ <;> rcases UG e2 with ⟨b1,b2⟩ | ⟨b1,b2⟩
  ·rw[a1,b1]
  ·subst a2;exact(no b2).elim
  ·subst b2;exact(no a2).elim
  ·exact I.ok.inj a b c (hcl a c a2).1 (hcl b c b2).1
 has:=fun y hy=>by
  by_cases hyx:y=x
  ·exact⟨c0,by rw[hyx];exact AjT⟩
  have mem:(y,NameKind.free)∈scope.names:=by
   have hy':((relabel scope X.env).names.lookup y=some .cell)∨((relabel scope X.env).names.lookup y=some .free):=hy
   have hm:∃ k,(y,k)∈(relabel scope X.env).names∧(k=.cell∨k=.free):=by
    rcases hy' with h | h
    ·exact⟨_,PySem.mem_of_lookup h,.inl rfl⟩
    ·exact⟨_,PySem.mem_of_lookup h,.inr rfl⟩
   obtain⟨k,hm,hk⟩:=hm
   obtain⟨⟨n,k'⟩,hm',e⟩:=List.mem_map.mp hm
   dsimp only at e
   by_cases hc:(k' == NameKind.free && X.env.scope.kind == .function && X.env.kindOf n == some .cell)=true
   ·rw[if_pos hc] at e
    injection e with e1 _
    subst e1
    have:k'=.free:=by
     have:=(ArP _ _▸(ArP _ _▸hc).1).1
     simpa using this
    subst this
    exact hm'
   ·rw[if_neg hc] at e
    injection e with e1 e2
    subst e1 e2
    rcases hk with hk | hk
    ·subst hk;exact absurd (O.cell hm') hyx
    ·subst hk;exact hm'
  obtain⟨c,e⟩:=I.ok.has y (.inl (O.fr _ mem rfl).1)
  exact⟨c,(Af4 hyx).trans ((SJ y mem).trans e)⟩
 cab:=fun y c z e=>by
  have:y=x:=beq_iff_eq.mp z
  rcases UG e with ⟨_,a2⟩ | ⟨a1,_⟩
  ·rw[a2];exact hc0
  ·exact absurd this a1
 hd:=I.ok.hd
 frames:=I.ok.frames
 stk:=.inl rfl
 exf:=fun b hb=>⟨Arw (Ary (hfo b hb) hC),fun y c e=>by
  rcases UG e with ⟨_,a2⟩ | ⟨_,a2⟩
  ·rw[a2];exact ArY (Ary (hfo b hb) hc0)
  ·exact(hfp b hb).2.2.2.2.1 y c (hcl y c a2).1⟩
 bs:=I.bs
 bsz:=ArC I.ok.bsz I.sz
 AaU:=fun b o e hb=>by
  rcases(hfp b hb).2.2.2.1 with z | z
  ·exact I.ok.AaU b o e z
  ·exact absurd (Ary (Heap.lt_size e) (ArC I.ok.bsz z)) (Ar8 _)
 Z9:=fun b hb z=>by
  rcases List.mem_cons.mp (I.ZC b z) with e | e
  ·exact(hfp b hb).2.1 e
  ·exact(hfp b hb).2.2.1 e
 VG:=I.stack
 frf:=I.Xa
theorem Af5{x:Str}{Nc:List Str}{Bp:List Nat}{scope:Scope}{cl:List (Str × Addr)}{C c0:Addr}{fp:List Addr}{h':Heap}{tk:Nat}{m0:Str→Option Value}(I:Inv X pins σ H s)(O:U9 X x Nc Bp scope)
  (hcl:∀ x c,cl.lookup x=some c→X.env.cells.lookup x=some c∧(x,NameKind.free)∈scope.names) (SJ:∀ x,(x,NameKind.free)∈scope.names→cl.lookup x=X.env.cells.lookup x)
  (hC:s.heap.objs.size≤C) (hc0:s.heap.objs.size≤c0) (hfp:∀ b∈fp,Ou X pins H b) (hfo:∀ b∈fp,b<s.heap.objs.size)
  (old:∀ b o,s.heap.get? b=some o→h'.get? b=some o) (hns:h'.Ns C m0) (hce:h'.IsCell c0 none) :
  Inv (SN X x Nc scope ((x,c0)::cl) C fp s H) [] (none::Ig σ Bp) H { s with heap:=h',toks:=tk } where
 ok:=AjU I O hcl SJ hC hc0 hfp hfo
 os:=rfl
 bare:=I.bare
 base:=Un.kept old
 loc:=by
  refine⟨m0,hns,fun i y v hN hσ hv=>?_⟩
  cases i with
  | zero=>simp at hσ
  | succ k =>
   rw[Asw] at hσ
   obtain⟨j,hj,hs⟩:=AbP hσ
   obtain⟨z,hz1,hz2,hz3⟩:=O.cap k j hj
   have hN':Nc[k+1]?=some y:=hN
   rw[hz1] at hN'
   cases hN'
   have mem:(y,NameKind.free)∈scope.names:=PySem.mem_of_lookup hz3
   have hyx:y≠x:=fun e=>by rw[e,O.loc] at hz3;cases hz3
   have hk:=(O.fr _ mem rfl).1
   obtain⟨m,hn,hl⟩:=I.loc
   obtain⟨u,r,l⟩:=hl j y v hz2 hs (.inr (.inl hk))
   refine⟨u,r,?_⟩
   rcases l with ⟨k',_⟩ | ⟨_,c,hc,z⟩
   ·have k'':X.env.scope.names.lookup y=some .local:=k'
    rw[hk] at k'';cases k''
   ·obtain⟨o,ho,hd⟩:=z
    exact .inr ⟨.inl (Io I.ok.kind hz3 hk),c,(Af4 hyx).trans ((SJ y mem).trans hc),o,old _ _ ho,hd⟩
 cell:=fun y c e=>by
  rcases UG e with ⟨_,a2⟩ | ⟨_,a2⟩
  ·rw[a2];exact⟨none,hce⟩
  ·obtain⟨v,o,ho,hd⟩:=I.cell y c (hcl y c a2).1
   exact⟨v,o,old _ _ ho,hd⟩
 free:=I.hok.fresh hC
 Q7:=fun y c e=>by
  rcases UG e with ⟨_,a2⟩ | ⟨_,a2⟩
  ·rw[a2];exact I.hok.fresh hc0
  ·exact I.Q7 y c (hcl y c a2).1
 pin:=fun p hp=>absurd (show p∈([]:List (Addr × Obj)) from hp) (by simp)
 hok:=I.hok.kept old
 len:=by
  show(none::Ig σ Bp).length=Nc.length
  rw[Ars,AbO,O.len]
theorem Af6{x:Str}{px:Pos}{Nc:List Str}{Bp:List Nat}{scope:Scope}{cl:List (Str × Addr)}{iter elt:Expr}{ifs:List Expr}{pos:Pos}{tc:TT}{te:TE}{Q:VK}{it:Addr}{fp:List Addr}{tn:Nat→Heap→Prop}{J:It}
  {RR:Value→Addr→Result→Shared→Prop}{E:Value→Shared→Prop}
  (O:U9 X x Nc Bp scope) (hc:X.calm=true)
  (hcl:∀ x c,cl.lookup x=some c→X.env.cells.lookup x=some c∧(x,NameKind.free)∈scope.names) (SJ:∀ x,(x,NameKind.free)∈scope.names→cl.lookup x=X.env.cells.lookup x)
  (hte:∀ cs C fp s H,PE (SN X x Nc scope cs C fp s H) elt te) (htc:∀ cs C fp s H,PIf (SN X x Nc scope cs C fp s H) ifs tc)
  (I:Inv X pins σ H s) (T:Turn X.prog X.w X.K (.Name x px) J fp it tn) (st:tn 0 s.heap) (hfp:∀ b∈fp,Ou X pins H b) (h:VM Bp tc te J σ H Q)
  (hRR:∀(D C:Addr) (s':Shared) (m:Str→Option Value),s'.heap.Ns C m→(∀ h',Heap.SameBut C s'.heap h'→∃ H',Inv X pins σ H' { s' with heap:=h' }∧H' C=none∧Q (.ref D) H') →
   s.heap.objs.size≤C→RR (.ref D) C (.ok .next) s') :
  wpAny (model X.prog X.w) X.A (newList []) (fun acc s₃=>wpAny (model X.prog X.w) X.A (newFunctionEnv scope X.env.globals cl [] X.env.qual none .none (some X.env)) (fun cenv s₄ =>
   codeAny (model X.prog X.w) X.A (.compStart (.ListComp elt [⟨.Name x px,iter,ifs,0⟩] scope pos) 0 (.ref it) acc { cenv with scope:=relabel scope X.env }) (RR acc cenv.locals) s₄) E s₃) E s:=by
 refine wpAny_newObj_type (Af3 O.one ?_)
 dsimp only
 generalize hH2:s.heap.push { cls:=.type "list", dict:=none,data:=.seq ([]:List Value).toArray }=H2 at ⊢
 have hC:H2.objs.size=s.heap.objs.size+1:=by rw[← hH2,Heap.size_push]
 have hCle:s.heap.objs.size≤H2.objs.size:=by rw[hC];exact ArZ _
 have hc0:s.heap.objs.size≤H2.objs.size+1:=Nat.le_succ_of_le hCle
 have hDC:s.heap.objs.size≠H2.objs.size:=by rw[hC];exact Arw (Asf _)
 generalize hh1:(H2.push Ah9).push AmI=h₁ at ⊢
 have old:∀ b o,s.heap.get? b=some o→h₁.get? b=some o:=fun b o e=>by rw[← hh1];exact Heap.get?_push_of_some _ (Heap.get?_push_of_some _ (hH2▸Heap.get?_push_of_some _ e))
 have hacc:h₁.get? s.heap.objs.size=some (Ks [] 0):=by rw[← hh1];exact Heap.get?_push_of_some _ (Heap.get?_push_of_some _ (hH2▸Heap.get?_push_size _ rfl))
 have hns₁:h₁.Ns H2.objs.size (fun _=>none):=by rw[← hh1];exact(Heap.Ns.new H2 (.type "dict")).keeps fun b o e=>Heap.get?_push_of_some _ e
 have hce:h₁.IsCell (H2.objs.size+1) none:=by
  rw[← hh1,show H2.objs.size+1=(H2.push Ah9).objs.size from(Heap.size_push ..).symm]
  exact⟨_,Heap.get?_push_size _ rfl,rfl⟩
 have hfo:∀ b∈fp,b<s.heap.objs.size:=fun b hb=>by
  obtain⟨o,e,_⟩:=T.obj _ _ st b hb
  exact Heap.lt_size e
 have st1:tn 0 h₁:=T.keep _ _ _ st fun b _ o e=>old b o e
 generalize hDD:s.heap.objs.size=D at *
 generalize hCC:H2.objs.size=C at *
 have Afl:D≤C:=hCle
 let Y:Cx:=SN X x Nc scope ((x,C+1)::cl) C fp s H
 have I0:Inv Y [] (none::Ig σ Bp) H { s with heap:=h₁ }:=Af5 (tk:=s.toks) I O hcl SJ (by rw[hDD];exact hCle) (by rw[hDD];exact hc0) hfp (fun b hb=>by rw[hDD];exact hfo b hb) old hns₁ hce
 have AbS:H D=none:=by rw[← hDD];exact I.hok.fresh (Art _)
 have U5:D≠C:=hDC
 have Dfs:D∉Y.fs:=fun z=>by
  have:=I.stack.mem (show D∈frs X.stack from z)
  obtain⟨_,o,e,_⟩:=this
  have:=Heap.lt_size e
  rw[hDD] at this
  exact Ar8 _ this
 have AbT:∀ y c,Y.env.cells.lookup y=some c→c≠D:=fun y c e z=>by
  rcases UG e with ⟨_,a2⟩ | ⟨_,a2⟩
  ·exact absurd (z.symm.trans a2) (Arw (Nat.lt_succ_of_le Afl))
  obtain⟨v,q⟩:=I.cell y c (hcl y c a2).1
  have:=q.lt
  rw[z,hDD] at this
  exact Ar8 _ this
 have Dfp:∀ b∈fp,b≠D:=fun b hb=>Arw (hfo b hb)
 have fpY:∀{H':Hp},(∀ b∈fp,H' b=none)→∀ b∈fp,Ou Y [] H' b:=fun hn b hb =>
  ⟨hn b hb,Arw (Ary (hfo b hb) Afl),fun z=>I0.ok.Z9 b hb z,.inl hb,fun y c e=>(I0.ok.exf b hb).2 y c e,fun p hp=>absurd (show p∈([]:List (Addr × Obj)) from hp) (by simp)⟩
 obtain⟨W,⟨m0,w0⟩,turn⟩:=h
 have loop:∀ s₃:Shared,s₃={ s with heap:=h₁ } →
   codeAny (model X.prog X.w) X.A (.compLoop (.ListComp elt [⟨.Name x px,iter,ifs,0⟩] scope pos) 0 (.ref it) (.ref D) (compEnvC scope ((x,C+1)::cl) C X.env)) (RR (.ref D) C) s₃:=by
  rintro s₃ rfl
  refine Rm (fun n s'=>∃(i:Nat) (o:Option V) (H':Hp) (ys:List V) (us:List Value) (k:Nat),Inv Y [] (o::Ig σ Bp) H' s'∧tn i s'.heap∧(∀ b∈fp,H' b=none)∧s'.heap.get? D=some (Ks us k)∧H' D=none∧Vals ys us∧W i n ys H')
   ?_ m0 ⟨0,none,H,[],[],0,I0,st1,fun b hb=>(hfp b hb).1,hacc,AbS,.nil,w0⟩
  rintro n s3 ⟨i,o3,H3,ys,us,k,I3,st3,fr3,hD3,nD3,rv,w3⟩
  have fpP:∀{H':Hp} {ob:Obj},(∀ b∈fp,H' b=none)→∀ b∈fp,Ou Y [(D,ob)] H' b:=fun hn b hb=>by
   obtain⟨g0,g1,g2,g3,g4,_⟩:=fpY hn b hb
   refine⟨g0,g1,g2,g3,g4,fun p hp=>?_⟩
   have e:p=(D,_):=List.mem_singleton.mp (show p∈[(D,_)] from hp)
   rw[e]
   exact Ne.symm (Dfp b hb)
  have IP:Inv Y [(D,Ks us k)] (o3::Ig σ Bp) H3 s3:=I3.JX fun p hp=>by
   have e:p=(D,Ks us k):=List.mem_singleton.mp hp
   subst e
   exact⟨hD3,nD3,U5,Dfs,fun v z=>by cases z⟩
  have XS:∀{σ':St} {H':Hp} {s':Shared} {pl:List (Addr × Obj)},Inv Y ([(D,Ks us k)]++pl) σ' H' s'→s'.heap.get? D=some (Ks us k)∧H' D=none:=fun I'=>by
   have z:=I'.pin (D,Ks us k) (ArA _ (Asr _ ArD))
   exact⟨z.1,z.2.1⟩
  rcases turn i n ys H3 w3 with ⟨stop,hlen,fin⟩ | ⟨go,hlen,step⟩
  ·
   refine wpAny_mono (T.done Y rfl rfl rfl hc i _ s3 _ H3 (fun _ _=>False) IP (fpP fr3) st3 stop) (fun r s4 hr=>?_) fun _ _ z=>z.elim
   obtain⟨hr,I4⟩:=hr
   subst hr
   obtain⟨gD,nD⟩:=XS (pl:=[]) (by simpa using I4)
   obtain⟨m,hn,_⟩:=I4.loc
   refine hRR D C s4 m hn (fun h' hs'=>⟨upd H3 D (.lst ys),?_,(Ba (Ne.symm U5)).trans I4.free,fin D nD⟩) hCle
   have nt:∀ b ob,H3 b=some ob→b≠C:=fun b ob e z=>by
    have:=I4.free
    rw[z] at e
    rw[show H3 C=none from this] at e
    cases e
   have u1:Un (frs X.stack) fp H H3 s.heap h':=Un.but I4.base hs' (show s.heap.objs.size≤C by rw[hDD];exact hCle)
   have ok1:HOk X.prog X.w H3 h':=fun b ob e=>(I4.hok b ob e).stay (fun c v hc q=>(hs'.2 c (by
    rcases hc with z | z
    ·rw[z];exact nt b ob e
    ·exact nt c _ z)).trans q) (fun _ q=>q) fun _ _ q=>q
   have gD':h'.get? D=some (Ks us k):=(hs'.2 D U5).trans gD
   exact I.call' (s':={ s4 with heap:=h' }) (ch:=fp) I4.os (u1.track (ArW hDD) nD) (ok1.track nD ⟨hlen,us,k,rv,gD'⟩) I4.bare fun b hb=>by
    obtain⟨_,g1,_,g3,g4,g5⟩:=hfp b hb
    exact⟨g3,g1,g4,g5⟩
  ·
   refine wpAny_mono (T.item Y rfl rfl rfl hc i _ s3 _ H3 (fun _ _=>False) IP (fpP fr3) st3 go) (fun r s4 hr=>?_) fun _ _ z=>z.elim
   obtain⟨u0,hr,h4⟩:=hr
   subst hr
   refine wpAny_mono h4 (fun _ s5 h5=>?_) fun _ _ z=>z.elim
   obtain⟨x5,H5,I5,r5,y5,st5,fr5⟩:=h5
   have I5':=I5.pinned (fpP fr5) (T.obj _ _ st5)
   have tgt:PG Y (.Name x px) (R1 0):=Dq (i:=0) O.nd O.hd (.inr (DG I.ok.kind O.loc (by intro z;cases z))) (.inl (beq_self_eq_true x))
   refine wpAny_mono (tgt _ s5 _ H5 x5 u0 (fun σ2 H2=>σ2=some x5::Ig σ Bp∧H2=H5) I5' r5 ⟨rfl,rfl⟩) (fun _ s6 h6=>?_) fun _ _ z=>z.elim
   obtain⟨_,_,I6,rfl,rfl⟩:=h6
   refine wpAny_mono ((htc _ C fp s H).run I6 (step x5 _ y5)) (fun b s7 h7=>?_) fun _ _ z=>z.elim
   obtain⟨H7,I7,q7⟩:=h7
   have VN:∀{σ':St} {H':Hp} {s':Shared},Inv Y ([(D,Ks us k)]++VH fp s5.heap) σ' H' s'→tn (i+1) s'.heap∧∀ b∈fp,H' b=none:=fun I' =>
    ⟨T.keep _ _ _ st5 fun b hb o e=>(I'.pin (b,o) (ArA _ (ArA _ (Ie hb e)))).1,fun b hb=>by
     obtain⟨o,e,d⟩:=T.obj _ _ st5 b hb
     exact(I'.pin (b,o) (ArA _ (ArA _ (Ie hb e)))).2.1⟩
   cases b with
   | false =>
    rw[if_neg Ar2] at q7
    rw[if_neg Ar2]
    obtain⟨m',hm,w7⟩:=q7
    obtain⟨gD,nD⟩:=XS I7
    obtain⟨k1,k2⟩:=VN I7
    exact⟨m',hm,i+1,some x5,H7,ys,us,k,I7.JX (fun p hp=>nomatch hp),k1,k2,gD,nD,rv,w7⟩
   | true =>
    rw[if_pos rfl] at q7
    rw[if_pos rfl]
    refine wpAny_mono (hte _ C fp s H _ s7 _ H7 _ I7 q7) (fun u8 s8 h8=>?_) fun _ _ z=>z.elim
    obtain⟨y8,H8,I8,r8,m',hm,w8⟩:=h8
    obtain⟨gD,nD⟩:=XS I8
    obtain⟨k1,k2⟩:=VN I8
    refine call_meets F.slot_list_append ⟨_,gD,rfl⟩ F.entry_list_append (F.args_list_append_2 _ _) (PySem.list_append D us.toArray k u8 (by rw[Ar0,← rv.length];omega)) ⟨gD,?_⟩
    have q:=PySem.IsL.update gD (·.push u8)
    have e1:us.toArray.push u8=(us++[u8]).toArray:=by simp
    rw[e1] at q
    have I8':Inv Y [] (some x5::Ig σ Bp) H8 s8:=I8.JX (fun p hp=>nomatch hp)
    have I9:Inv Y [] (some x5::Ig σ Bp) H8 { s8 with heap:=s8.heap.update D (Obj.mapSeq (·.push u8)),toks:=s8.toks } :=
     I8'.turned (it:=D) (fun b o hb e=>(Heap.get?_update_other s8.heap (Obj.mapSeq (·.push u8)) (Ne.symm hb)).trans e) nD U5 (.inr (ArW hDD)) AbT (fun p hp=>nomatch hp)
    refine⟨m',hm,i+1,some x5,H8,ys++[y8],us++[u8],_,I9,T.keep _ _ _ k1 fun b hb o e=>(Heap.get?_update_other s8.heap (Obj.mapSeq (·.push u8)) (Ne.symm (Dfp b hb))).trans e,k2,q,nD,rv.append (.cons r8 .nil),w8⟩
 exact codeAny_compStart_list (loop _ rfl) (T.self X.A 0 _ _ _ st1 (loop _ rfl))
theorem AjV{x:Str}{px pos:Pos}{Nc:List Str}{Bp:List Nat}{scope:Scope}{iter elt:Expr}{ifs:List Expr}{wi:TI}{tc:TT}{te:TE}(O:U9 X x Nc Bp scope)(hc:X.calm=true)(hi:PI X (.Name x px) iter wi)
  (htc:∀ cl C fp s H,PIf (SN X x Nc scope cl C fp s H) ifs tc) (hte:∀ cl C fp s H,PE (SN X x Nc scope cl C fp s H) elt te) (hs:∀ x,foldedSetIterable iter X.env x=pure x:=by intro _;rfl) :
  PE X (.ListComp elt [⟨.Name x px,iter,ifs,0⟩] scope pos) (Ah1 wi Bp tc te):=by
 intro pins s σ H Q I h
 rw[eval_ListComp]
 obtain⟨cl,e1,e2,e3⟩:=R6 (scope:=scope) (env:=X.env) fun y hy hf=>I.ok.has y.1 (.inl (O.fr y hy hf).1)
 refine wpAny_comprehension_free (use:=none) rfl hs e1 O.kind O.names (thn (hi pins s σ H _ I h) fun v s1 h1=>thn h1 fun itv s2 h2=>?_)
 obtain⟨it,fp,tn,J,H2,e,I2,T,st2,f2,w2⟩:=h2
 subst e
 refine Af6 (RR:=fun acc C=>compPost (model X.prog X.w) X.A X.xe none (EP X pins σ Q) acc C) O hc e2 e3 hte htc I2 T st2 f2 w2 ?_
 intro D C s' m hn hq hC
 refine⟨m,hn,fun h' hs'=>?_⟩
 obtain⟨H',I',_,q⟩:=hq h' hs'
 exact⟨.ref D,H',I',rfl,q⟩
def Aqm (scope sc:Scope):Scope:={ scope with names:=scope.names.map fun(n,k)=>if (k == .free && sc.kind == .function && sc.names.lookup n == some .cell) then (n,.cell) else (n,k) }
theorem AjW{X:Cx}{sc0 sc1 scope:Scope}{x:Str}{Nc:List Str}{cs:List (Str × Addr)}{C:Addr}{fp:List Addr}{s:Shared}{H:Hp}(h:X.env.scope=sc0)(hd:∀ y∈scope.names,y.2=.free→(Aqm sc1 sc0).names.lookup y.1=some .cell∧scope.names.lookup y.1=some .free) :
  ∀ y∈scope.names,y.2=.free→(SN X x Nc sc1 cs C fp s H).env.scope.names.lookup y.1=some .cell∧scope.names.lookup y.1=some .free:=by
 subst h
 exact hd
end
end L2
namespace Mine
open PySem L2
def Aqn (a b:Int):List Int:=if a<b then AoJ (a+1) 1 (b-a).toNat else AoJ (a-1) (-1) (a-b).toNat
def Arf (z:Int):Int:=if z<0 then -z else z
def go (a:Int):List Int→List Int
 | []=>[]
 | b::r=>Aqn a b++go b r
def Arh:List Int→List Int
 | []=>[]
 | s::r=>s::go s r
def lst (a:Int):List Int→Int
 | []=>a
 | b::r=>lst b r
def dec (n:Nat):List Nat:=(Str.ofString (toString (n:Int))).cps.toList
theorem Wc(n:Nat):Str.ofString (toString (n:Int))=tx (dec n):=(AmE _).symm
def AmJ (n:Nat):Bool:=(dec n).all (fun c=>decide (48≤c∧c≤57)) && decide (1≤(dec n).length∧(dec n).length≤2) && decide (¬((dec n).length=2∧(dec n)[0]?=some 48)) && decide (PySem.NumText.digitsVal (dec n)=n)
theorem An5:∀ n,n<100→AmJ n=true:=by decide +kernel
structure Dec (n:Nat):Prop where
 dg:∀ c∈dec n,48≤c∧c≤57
 l1:1≤(dec n).length
 l2:(dec n).length≤2
 z:¬((dec n).length=2∧(dec n)[0]?=some 48)
 v:PySem.NumText.digitsVal (dec n)=n
theorem dec_is{n:Nat}(h:n<100):Dec n:=by
 have:=An5 n h
 unfold AmJ at this
 simp only [ArP,decide_eq_true_eq,AsA] at this
 obtain⟨⟨⟨h1,h2⟩,h3⟩,h4⟩:=this
 exact⟨h1,h2.1,h2.2,h3,h4⟩
def tails:List Nat→List Nat
 | []=>[]
 | n::r=>45::(dec n++tails r)
def AqE:List Nat→List Nat
 | []=>[]
 | n::r=>dec n++tails r
def Stop(rest:List Nat):Prop:=∀ c,rest[0]?=some c→¬(48≤c∧c≤57)∧c≠45
inductive Nd where
 | nam (w:List Nat)
 | num (n:Nat)
 | run (r:List Nat)
 | node (w:List Nat) (ts:List Nd)
namespace Pat
def sk (l:List Nat):List Nat:=l.dropWhile fun c=>decide (c=32)
def letter(c:Nat):Bool:=decide (97≤c∧c≤122)
def Kz (c:Nat):Bool:=decide (48≤c∧c≤57)
def knot(c:Nat):Bool:=decide (c=35∨c=46)
def one (c:Nat):List Nat→Option (List Nat)
 | []=>none
 | a::l=>if a=c then some l else none
def Acg (f:List Nat):Bool:=decide ((1≤f.length∧f.length≤2)∧¬(f.length=2∧f[0]?=some 48))
def num (l:List Nat):Option (Nat × List Nat) :=
 if Acg (l.takeWhile Kz)=true then some (PySem.NumText.digitsVal (l.takeWhile Kz),sk (l.dropWhile Kz)) else none
def comma(l:List Nat):Option (List Nat):=(one 44 l).map sk
def run (l:List Nat):Option (List Nat × List Nat) :=
 if l.takeWhile knot=[] then none else some (l.takeWhile knot,sk (l.dropWhile knot))
def Gm:Nat→List Nat→Option (List (List Nat) × List Nat)
 | 0,_=>none
 | k+1,l=>match one 44 l with
  | none=>some ([],l)
  | some l1=>match run (sk l1) with
   | none=>none
   | some (r,l2)=>(Gm k l2).map fun p=>(r::p.1,p.2)
def runs(l:List Nat):Option (List (List Nat) × List Nat) :=
 match run l with
 | none=>none
 | some (r,l1)=>match Gm (l1.length+1) l1 with
  | none=>none
  | some (rs,l2)=>if (r::rs).length>40 then none else some (r::rs,l2)
def wants(w:List Nat):Option (List Nat) :=
 if w=[116,119,105,108,108]∨w=[115,97,116,105,110] then some [110,110]
 else if w=[98,101,115,105,100,101]∨w=[97,98,111,118,101]∨w=[108,97,121] then some [112,112]
 else if w=[109,105,114,114,111,114]∨w=[117,112,101,110,100]∨w=[98,97,99,107]∨w=[113,117,97,114,116,101,114] then some [112]
 else if w=[116,105,108,101] then some [112,110,110]
 else if w=[98,108,111,99,107,115] then some [112,112,112]
 else none
def QF:List Nat:=[114,111,119,115]
def isWord(w:List Nat):Bool:=decide (w=QF) || (wants w).isSome
def isName(w:List Nat):Bool:=decide (1≤w.length∧w.length≤20) && w.all letter && !isWord w
def args(sub:List Nat→Option (Nd × List Nat)):Bool→List Nat→List Nat→Option (List Nd × List Nat)
 | _,[],l=>some ([],l)
 | fst,k::ks,l =>
  match (if fst=true then some l else comma l) with
  | none=>none
  | some l1=>match (if k=112 then sub l1 else (num l1).map fun p=>(Nd.num p.1,p.2)) with
   | none=>none
   | some (a,l2)=>(args sub false ks l2).map fun p=>(a::p.1,p.2)
def things(sub:List Nat→Option (Nd × List Nat))(w l:List Nat):Option (List Nd × List Nat) :=
 if w=QF then (runs l).map fun p=>(p.1.map Nd.run,p.2)
 else match wants w with
  | none=>none
  | some ks=>args sub true ks l
def node:Nat→List Nat→Option (Nd × List Nat)
 | 0,_=>none
 | d+1,l =>
  match one 40 (sk (l.dropWhile letter)) with
  | none=>if isName (l.takeWhile letter)=true then some (.nam (l.takeWhile letter),sk (l.dropWhile letter)) else none
  | some l1=>match things (node d) (l.takeWhile letter) (sk l1) with
   | none=>none
   | some (ts,l2)=>match one 41 l2 with
    | none=>none
    | some l3=>some (.node (l.takeWhile letter) ts,sk l3)
def whole(l:List Nat):Option Nd :=
 match node 12 (sk l) with
 | some (n,[])=>some n
 | _=>none
end Pat
def Sg (c:Nat):Prop:=c=35∨c=46
structure Cl (cl:List (List Nat)) (m n:Nat):Prop where
 hn:cl.length=n
 hm:∀ t∈cl,t.length=m
 sg:∀ t∈cl,∀ c∈t,Sg c
 m1:1≤m
 m40:m≤40
 n1:1≤n
 n40:n≤40
def flip(c:Nat):Nat:=if c=35 then 46 else 35
theorem AhA(c:Nat):Sg (flip c):=by unfold flip Sg;split <;> simp
def back(cl:List (List Nat)):List (List Nat):=cl.map fun t=>t.reverse.map flip
def col (cl:List (List Nat))(e:Nat):List Nat:=cl.map fun t=>t.getD e 0
def YL (cl:List (List Nat))(m:Nat):List (List Nat):=(List.range m).map fun e=>(col cl e).map flip
theorem Cl.back{cl:List (List Nat)}{m n:Nat}(h:Cl cl m n):Cl (back cl) m n where
 hn:=by unfold Mine.back;rw[Arq];exact h.hn
 hm:=fun t ht=>by
  obtain⟨s,hs,rfl⟩:=List.mem_map.mp ht
  simp[h.hm s hs]
 sg:=fun t ht c hc=>by
  obtain⟨s,hs,rfl⟩:=List.mem_map.mp ht
  obtain⟨d,_,rfl⟩:=List.mem_map.mp hc
  exact AhA d
 m1:=h.m1
 m40:=h.m40
 n1:=h.n1
 n40:=h.n40
theorem Cl.YL{cl:List (List Nat)}{m n:Nat}(h:Cl cl m n):Cl (YL cl m) n m where
 hn:=by unfold Mine.YL;simp
 hm:=fun t ht=>by
  obtain⟨e,_,rfl⟩:=List.mem_map.mp ht
  simp[col,h.hn]
 sg:=fun t ht c hc=>by
  obtain⟨e,_,rfl⟩:=List.mem_map.mp ht
  obtain⟨d,_,rfl⟩:=List.mem_map.mp hc
  exact AhA d
 m1:=h.n1
 m40:=h.n40
 n1:=h.m1
 n40:=h.m40
def sgn (cl:List (List Nat))(m n:Nat)(x y:Int):Nat:=(cl.getD (y%(n:Int)).toNat []).getD (x%(m:Int)).toNat 0
def wid (cl:List (List Nat))(ac:Nat):List (List Nat):=cl.map fun t=>(List.replicate ac t).flatten
def til (cl:List (List Nat))(ac al:Nat):List (List Nat):=(List.replicate al (wid cl ac)).flatten
theorem SQ{α:Type}(l:List α):∀ k,((List.replicate k l).flatten).length=k*l.length
 | 0=>by simp
 | k+1=>by rw[ArJ,ArB,Arp,SQ l k,Nat.add_mul,Nat.one_mul];omega
theorem UJ{α:Type}{l:List α}{x:α}:∀{k},x∈(List.replicate k l).flatten→x∈l
 | 0,h=>by simp at h
 | k+1,h=>by
  rw[ArJ,ArB] at h
  rcases List.mem_append.mp h with h | h
  ·exact h
  ·exact UJ h
theorem AhB{α:Type}(l:List α):∀(k i:Nat),i<k*l.length→((List.replicate k l).flatten)[i]?=l[i%l.length]?
 | 0,i,h=>by simp at h
 | k+1,i,h=>by
  rw[ArJ,ArB]
  by_cases hi:i<l.length
  ·rw[Asn hi,AsI hi]
  ·rw[Nat.add_mul,Nat.one_mul] at h
   rw[Asm (by omega),AhB l k (i-l.length) (by omega)]
   congr 1
   exact(Nat.mod_eq_sub_mod (by omega)).symm
theorem Cl.til{cl:List (List Nat)}{m n ac al:Nat}(h:Cl cl m n)(h1:1≤ac)(h2:1≤al)(h3:ac*m≤40)(h4:al*n≤40):Cl (til cl ac al) (ac*m) (al*n) where
 hn:=by unfold Mine.til;rw[SQ];unfold wid;rw[Arq,h.hn]
 hm:=fun t ht=>by
  obtain⟨s,hs,rfl⟩:=List.mem_map.mp (UJ ht)
  rw[SQ,h.hm s hs]
 sg:=fun t ht c hc=>by
  obtain⟨s,hs,rfl⟩:=List.mem_map.mp (UJ ht)
  exact h.sg s hs c (UJ hc)
 m1:=Asj h1 h.m1
 m40:=h3
 n1:=Asj h2 h.n1
 n40:=h4
def plc (os:List Int)(k:Nat):Nat:=(os.take k).count (os.getD k 0)
theorem XX{os:List Int}{k:Nat}(h:k<os.length)(z:Int):(os.take (k+1)).count z=(os.take k).count z+if os.getD k 0=z then 1 else 0:=by
 rw[Ar5,List.count_append,Aru h]
 have e:os.getD k 0=os[k]:=by simp[List.getD,h]
 rw[e]
 simp only [Option.toList_some,List.count_cons,List.count_nil,beq_iff_eq]
 simp
theorem count_le{os:List Int}(k:Nat)(z:Int):(os.take k).count z≤os.count z:=List.Sublist.count_le _ (List.take_sublist _ _)
theorem AgG{os:List Int}{k:Nat}(h:k<os.length):plc os k<os.count (os.getD k 0):=by
 have h1:=XX h (os.getD k 0)
 rw[if_pos rfl] at h1
 have h2:=count_le (os:=os) (k+1) (os.getD k 0)
 unfold plc
 omega
def YM (o e:Int)(own:List Nat)(p:Nat):Nat:=if o=e then own.getD p 0 else if e<o then 35 else 46
def Jt (ps:List (List (List Nat)))(es:List Int)(o:Int)(b:Nat):List Nat:=(List.range es.length).map fun k=>YM o (es.getD k 0) ((ps.getD o.toNat []).getD b []) (plc es k)
def lay (ps:List (List (List Nat)))(es os:List Int):List (List Nat):=(List.range os.length).map fun j=>Jt ps es (os.getD j 0) (plc os j)
theorem R9(ps:List (List (List Nat)))(es:List Int)(o:Int)(b:Nat):(Jt ps es o b).length=es.length:=by unfold Jt;rw[Arq,ArH]
theorem Yb{ps:List (List (List Nat))}{es:List Int}{o:Int}{b k:Nat}(h:k<es.length):(Jt ps es o b)[k]?=some (YM o (es.getD k 0) ((ps.getD o.toNat []).getD b []) (plc es k)):=by
 unfold Jt
 rw[Ar6,AsB h]
 rfl
theorem Aeo(ps:List (List (List Nat)))(es os:List Int):(lay ps es os).length=os.length:=by unfold lay;rw[Arq,ArH]
theorem AhC{ps:List (List (List Nat))}{es os:List Int}{j:Nat}(h:j<os.length):(lay ps es os)[j]?=some (Jt ps es (os.getD j 0) (plc os j)):=by
 unfold lay
 rw[Ar6,AsB h]
 rfl
structure AgH (ps:List (List (List Nat))) (es os:List Int):Prop where
 e:∀ z∈es,0≤z∧z<(ps.length:Int)
 o:∀ z∈os,0≤z∧z<(ps.length:Int)
 hn:∀ i,i<ps.length→(ps.getD i []).length=os.count (i:Int)
 hm:∀ i,i<ps.length→∀ t∈ps.getD i [],t.length=es.count (i:Int)∧∀ c∈t,Sg c
 e1:1≤es.length
 e40:es.length≤40
 o1:1≤os.length
 o40:os.length≤40
theorem getD_mem{os:List Int}{k:Nat}(h:k<os.length):os.getD k 0∈os:=by
 have e:os.getD k 0=os[k]:=by simp[List.getD,h]
 rw[e]
 exact ArG h
theorem AgH.own{ps:List (List (List Nat))}{es os:List Int}(C:AgH ps es os){j:Nat}(h:j<os.length):(os.getD j 0).toNat<ps.length∧plc os j<(ps.getD (os.getD j 0).toNat []).length:=by
 have h1:=C.o _ (getD_mem h)
 have h2:(os.getD j 0).toNat<ps.length:=by omega
 refine⟨h2,?_⟩
 rw[C.hn _ h2,show(((os.getD j 0).toNat:Nat):Int)=os.getD j 0 by omega]
 exact AgG h
theorem AgH.row{ps:List (List (List Nat))}{es os:List Int}(C:AgH ps es os){i b:Nat}(h:i<ps.length)(hb:b<(ps.getD i []).length):((ps.getD i []).getD b []).length=es.count (i:Int):=by
 have e:(ps.getD i []).getD b []=(ps.getD i [])[b]:=by rw[ArN,Aru hb];rfl
 rw[e]
 exact(C.hm i h _ (ArG hb)).1
structure Own (es:List Int) (z:Int) (i:Nat) (ms:List Nat):Prop where
 len:ms.length=(es.take i).count z
 lt:∀ m∈ms,m<i
 at':∀ a m,ms[a]?=some m→es.getD m 0=z∧(es.take m).count z=a
def Rs (ks:List Int):Prop:=(∀(i:Nat) (a b:Int),ks[i]?=some a→ks[i+1]?=some b→a<b)∧∀ k∈ks,0≤k∧k<40
structure Ft (th:List Int) (tss:List (List Int)) (tr:List Int):Prop where
 m1:1≤th.length
 m40:th.length≤40
 t1:1≤tss.length
 t40:tss.length≤40
 n1:1≤tr.length
 n40:tr.length≤40
 hth:∀ v∈th,0≤v∧v<40
 hti:∀ ks∈tss,Rs ks
 htr:∀ v∈tr,0≤v∧v<tss.length
def shd (th ks:List Int):List Nat:=th.map fun s=>if s∈ks then 35 else 46
def wv (th:List Int)(tss:List (List Int))(tr:List Int):List (List Nat):=tr.map fun v=>shd th (tss.getD v.toNat [])
section
variable {α β:Type} [DecidableEq α] [DecidableEq β]
def unl (l:List α):List α:=l.foldl (fun f x=>if x∈f then f else f++[x]) []
def ix (l:List α)(x:α):Nat:=@List.idxOf α instBEqOfDecidableEq x l
def num (l:List α):List Nat:=l.map fun x=>ix (unl l) x
end
theorem Iw{α β:Type}{f:α→List β}{h:Nat}:∀ xs:List α,(∀ x∈xs,(f x).length=h)→(xs.flatMap f).length=xs.length*h
 | [],_=>by simp
 | x::xs,k=>by
  rw[AsJ,Arp,k x ArD,Iw xs fun y hy=>k y (ArF _ hy),Ars,As4]
  omega
theorem YQ{α β:Type}{f:α→List β}{h:Nat}:∀(xs:List α),(∀ x∈xs,(f x).length=h)→∀ i s,s<h→(xs.flatMap f)[i*h+s]?=xs[i]?.bind fun x=>(f x)[s]?
 | [],_,i,s,hs=>by simp
 | x::xs,k,0,s,hs=>by
  rw[AsJ,Nat.zero_mul,Nat.zero_add,Asn (by rw[k x ArD];exact hs)]
  rfl
 | x::xs,k,i+1,s,hs=>by
  have kx:=k x ArD
  rw[AsJ,Asm (by rw[kx,As4];omega),kx,show(i+1)*h+s-h=i*h+s by rw[As4];omega,
   YQ xs (fun y hy=>k y (ArF _ hy)) i s hs,Asw]
def bw (bs:List Nat)(F:Nat)(ws:List Nat):List Nat:=bs.flatMap fun b=>ws.map fun x=>b*F+x
def fil (pr one other:List (List Nat)):List (List Nat):=pr.flatMap fun u=>(one.zip other).map fun q=>u.flatMap fun c=>if c=35 then q.1 else q.2
section
variable {pr one other:List (List Nat)}{m n w h:Nat} (C:Cl pr m n) (C1:Cl one w h) (C2:Cl other w h)
include C C1 C2
theorem Aep:(fil pr one other).length=n*h:=by
 unfold fil
 rw[Iw (h:=h) pr fun x _=>by rw[Arq,Asl,C1.hn,C2.hn,ArO],C.hn]
theorem Ach{u a b:List Nat}(ha:a∈one)(hb:b∈other):(u.flatMap fun c=>if c=35 then a else b).length=u.length*w:=Iw u fun x _=>by split;exact C1.hm a ha;exact C2.hm b hb
theorem An6(hm:m*w≤40)(hn:n*h≤40):Cl (fil pr one other) (m*w) (n*h):=by
 have key:∀ r∈fil pr one other,∃ u∈pr,∃ a∈one,∃ b∈other,r=u.flatMap fun c=>if c=35 then a else b:=fun r hr=>by
  unfold fil at hr
  obtain⟨u,hu,hr⟩:=List.mem_flatMap.mp hr
  obtain⟨⟨a,b⟩,hq,rfl⟩:=List.mem_map.mp hr
  have z:=Ash hq
  exact⟨u,hu,a,z.1,b,z.2,rfl⟩
 refine⟨Aep C C1 C2,fun r hr=>?_,fun r hr c hc=>?_,Asj C.m1 C1.m1,hm,Asj C.n1 C1.n1,hn⟩
 ·obtain⟨u,hu,a,ha,b,hb,rfl⟩:=key r hr
  rw[Ach C C1 C2 ha hb,C.hm u hu]
 ·obtain⟨u,hu,a,ha,b,hb,rfl⟩:=key r hr
  obtain⟨d,hd,hc⟩:=List.mem_flatMap.mp hc
  split at hc
  ·exact C1.sg a ha c hc
  ·exact C2.sg b hb c hc
end
def twW:List Nat:=[116,119,105,108,108]
def saW:List Nat:=[115,97,116,105,110]
def beW:List Nat:=[98,101,115,105,100,101]
def abW:List Nat:=[97,98,111,118,101]
def miW:List Nat:=[109,105,114,114,111,114]
def upW:List Nat:=[117,112,101,110,100]
def baW:List Nat:=[98,97,99,107]
def quW:List Nat:=[113,117,97,114,116,101,114]
def tiW:List Nat:=[116,105,108,101]
def blW:List Nat:=[98,108,111,99,107,115]
def laW:List Nat:=[108,97,121]
def twl (m n:Nat)(y x:Nat):Nat:=if (x+(m+n)-y)%(m+n)<m then 35 else 46
def twT (m n y:Nat):List Nat:=(List.range (m+n)).map (twl m n y)
def Aci (m n:Nat):List Nat:=List.replicate m 35++List.replicate n 46
theorem Af7{m n:Nat}:(Aci m n).length=m+n:=by unfold Aci;rw[Arp,ArL,ArL]
theorem AhD{m n i:Nat}(h:i<(Aci m n).length):(Aci m n)[i]=if i<m then 35 else 46:=by
 unfold Aci at h ⊢
 by_cases c:i<m
 ·rw[if_pos c,Asy (by rw[ArL];exact c),AsC]
 ·rw[if_neg c,AsD (by rw[ArL];omega),AsC]
theorem An7{m n y:Nat}(hy:y<m+n):(Aci m n).drop (m+n-y)++(Aci m n).take (m+n-y)=twT m n y:=by
 have fl:=@Af7 m n
 apply List.ext_getElem
 ·unfold twT
  rw[Arp,ArM,Ar1,fl,Arq,ArH]
  omega
 ·intro x h1 h2
  have hx:x<m+n:=by
   unfold twT at h2
   rw[Arq,ArH] at h2
   exact h2
  have hd:((Aci m n).drop (m+n-y)).length=y:=by rw[ArM,fl];omega
  have e2:(twT m n y)[x]=twl m n y x:=by simp only [twT,List.getElem_map,List.getElem_range]
  rw[e2]
  unfold twl
  by_cases c:x<y
  ·rw[Asy (by rw[hd];exact c),List.getElem_drop,AhD,show m+n-y+x=x+(m+n)-y by omega,AsI (show x+(m+n)-y<m+n by omega)]
  ·rw[AsD (by rw[hd];omega),List.getElem_take,AhD,hd]
   have e:(x+(m+n)-y)%(m+n)=x-y:=by
    rw[show x+(m+n)-y=(x-y)+(m+n) by omega,Nat.add_mod_right]
    exact AsI (by omega)
   rw[e]
theorem rep1(n c:Nat):(List.replicate n [c]).flatten=List.replicate n c:=by
 induction n with
 | zero=>rfl
 | succ n ih=>rw[ArJ,ArB,ih,ArJ];rfl
def stT (s o:Nat):List Nat:=(List.range s).map fun x=>if x=o then 35 else 46
theorem An8{s o:Nat}(ho:o<s):List.replicate o 46++[35]++List.replicate (s-1-o) 46=stT s o:=by
 apply List.ext_getElem
 ·unfold stT
  simp only [Arp,ArL,Ars,Arv,Arq,ArH]
  omega
 ·intro x h1 h2
  have e2:(stT s o)[x]=if x=o then 35 else 46:=by simp only [stT,List.getElem_map,List.getElem_range]
  rw[e2]
  by_cases c:x<o
  ·rw[if_neg (by omega),Asy (by simp only [Arp,ArL,Ars,Arv];omega),Asy (by rw[ArL];exact c),AsC]
  ·by_cases c2:x=o
   ·subst c2
    rw[if_pos rfl,Asy (by simp only [Arp,ArL,Ars,Arv];omega),AsD (by rw[ArL];omega)]
    simp
   ·rw[if_neg c2,AsD (by simp only [Arp,ArL,Ars,Arv];omega),AsC]
def saT (s p y:Nat):List Nat:=stT s (y*p%s)
def Aeq (m n i:Nat):List Bool:=(List.range i).map fun j=>decide (m%(2+j)=0) && decide (n%(2+j)=0)
def cop (m n k:Nat):Bool:=(Aeq m n (k-1)).any id
theorem AjX{m n i:Nat}:(Aeq m n i).length=i:=by unfold Aeq;rw[Arq,ArH]
theorem AiE{m n i:Nat}:Aeq m n (i+1)=Aeq m n i++[decide (m%(2+i)=0) && decide (n%(2+i)=0)]:=by
 unfold Aeq
 rw[Asi,Arz]
 rfl
def Pri (s p:Nat):Prop:=1≤p∧p<s∧cop s p p=false
instance (s p:Nat):Decidable (Pri s p):=inferInstanceAs (Decidable (_∧_∧_))
inductive Rf where
 | nop
 | big
 | unk
inductive Res where
 | ok (rows:List (List Nat))
 | no (f:Rf)
def wdt (x:List (List Nat)):Nat:=(x.headD []).length
def AdE (rs:List (List Nat)):Res:=if (rs.map fun r=>decide (¬r.length=wdt rs)).any id=true then .no .nop else if 40<wdt rs∨40<rs.length then .no .big else .ok rs
def Yc (a b:Nat):Res:=if a<1∨b<1 then .no .nop else if 40<a+b then .no .big else .ok ((List.range (a+b)).map (twT a b))
def Yd (m n:Nat):Res:=if ¬Pri m n then .no .nop else if 40<m then .no .big else .ok ((List.range m).map (saT m n))
def UL (x y:List (List Nat)):Res:=if ¬x.length=y.length then .no .nop else if 40<wdt x+wdt y∨40<x.length then .no .big else .ok (List.zipWith (·++·) x y)
def Ye (x y:List (List Nat)):Res:=if ¬wdt x=wdt y then .no .nop else if 40<wdt x∨40<x.length+y.length then .no .big else .ok (x++y)
def AgI (z:List Nat)(x:List (List Nat)):Res:=if z=miW then .ok (x.map List.reverse) else if z=upW then .ok x.reverse else if z=baW then .ok (back x) else .ok (YL x (wdt x))
def Acj (x:List (List Nat))(a b:Nat):Res:=if a<1∨b<1 then .no .nop else if 40<wdt x*a∨40<x.length*b then .no .big else .ok (til x a b)
def UT (p x y:List (List Nat)):Res:=if ¬wdt x=wdt y∨¬x.length=y.length then .no .nop else if 40<wdt p*wdt x∨40<p.length*x.length then .no .big else .ok (fil p x y)
def Ms (k:Nat):List Int:=(List.replicate k [(0:Int),1]).flatten
def AgJ (x y:List (List Nat)):Res:=if ¬wdt x=wdt y∨¬x.length=y.length then .no .nop else if 40<2*wdt x∨40<2*x.length then .no .big else .ok (lay [x,y] (Ms (wdt x)) (Ms x.length))
inductive Arg where
 | num (n:Nat)
 | run (r:List Nat)
 | cl (x:List (List Nat)) (z:List Nat)
def runOf:Arg→List Nat
 | .run r=>r
 | _=>[]
def made(z:List Nat)(as:List Arg):Res :=
 if z=Pat.QF then AdE (as.map runOf) else
 match as with
 | [.num a,.num b]=>if z=twW then Yc a b else Yd a b
 | [.cl x _]=>AgI z x
 | [.cl x _,.cl y _]=>if z=beW then UL x y else if z=abW then Ye x y else AgJ x y
 | [.cl x _,.num a,.num b]=>Acj x a b
 | [.cl x _,.cl y _,.cl w _]=>UT x y w
 | _=>.no .nop
def cj:List (List Nat)→List Nat
 | []=>[]
 | y::ys=>y++(ys.map fun y=>[44]++y).flatten
def wrA:Arg→List Nat
 | .num n=>dec n
 | .run r=>r
 | .cl _ z=>z
def wz (z:List Nat)(ys:List (List Nat)):List Nat:=z++(40::(cj ys++[41]))
def wr:Nat→Nd→List Nat
 | _,.nam z=>z
 | _,.num n=>dec n
 | _,.run r=>r
 | 0,.node _ _=>[]
 | d+1,.node z ts=>wz z (ts.map (wr d))
def arg (sub:Nd→Res)(wrt:Nd→List Nat):Nd→Rf ⊕ Arg
 | .num n=>.inr (.num n)
 | .run r=>.inr (.run r)
 | .nam z=>match sub (.nam z) with
  | .ok x=>.inr (.cl x (wrt (.nam z)))
  | .no f=>.inl f
 | .node z ts=>match sub (.node z ts) with
  | .ok x=>.inr (.cl x (wrt (.node z ts)))
  | .no f=>.inl f
def args(sub:Nd→Res)(wrt:Nd→List Nat):List Nd→Rf ⊕ List Arg
 | []=>.inr []
 | x::ts=>match arg sub wrt x with
  | .inl f=>.inl f
  | .inr a=>match args sub wrt ts with
   | .inl f=>.inl f
   | .inr as=>.inr (a::as)
abbrev Kns:=List (List Nat × List (List Nat))
def known(kn:Kns)(z:List Nat):Res:=match kn.find? fun p=>decide (p.1=z) with
 | some p=>.ok p.2
 | none=>.no .unk
def out (kn:Kns):Nat→Nd→Res
 | _,.nam z=>known kn z
 | d+1,.node z ts=>match args (out kn d) (wr d) ts with
  | .inl f=>.no f
  | .inr as=>made z as
 | _,_=>.no .nop
theorem Aer{kn:Kns}{d:Nat}{z:List Nat}:out kn d (.nam z)=known kn z:=by cases d <;> rfl
theorem Ack{d:Nat}{z:List Nat}:wr d (.nam z)=z:=by cases d <;> rfl
theorem AgK{d n:Nat}:wr d (.num n)=dec n:=by cases d <;> rfl
theorem AgL{d:Nat}{r:List Nat}:wr d (.run r)=r:=by cases d <;> rfl
theorem AhE{kn:Kns}{d:Nat}:∀{ts:List Nd} {as:List Arg},args (out kn d) (wr d) ts=.inr as→as.map wrA=ts.map (wr d)
 | [],as,h=>by cases h;rfl
 | x::ts,as,h=>by
  unfold args at h
  have hx:∀ a,arg (out kn d) (wr d) x=.inr a→wrA a=wr d x:=fun a ha=>by
   cases x with
   | num n=>cases ha;exact AgK.symm
   | run r=>cases ha;exact AgL.symm
   | nam z =>
    unfold arg at ha
    dsimp only at ha
    cases e:out kn d (.nam z) with
    | ok x=>rw[e] at ha;cases ha;rfl
    | no f=>rw[e] at ha;cases ha
   | node z ts =>
    unfold arg at ha
    dsimp only at ha
    cases e:out kn d (.node z ts) with
    | ok x=>rw[e] at ha;cases ha;rfl
    | no f=>rw[e] at ha;cases ha
  cases e:arg (out kn d) (wr d) x with
  | inl f=>rw[e] at h;cases h
  | inr a =>
   rw[e] at h
   dsimp only at h
   cases e2:args (out kn d) (wr d) ts with
   | inl f=>rw[e2] at h;cases h
   | inr as' =>
    rw[e2] at h
    cases h
    rw[Arx,Arx,hx a e,AhE e2]
theorem Acl{sub:Nd→Res}{wrt:Nd→List Nat}:∀{ts:List Nd} {as:List Arg},args sub wrt ts=.inr as→as.length=ts.length
 | [],as,h=>by cases h;rfl
 | x::ts,as,h=>by
  unfold args at h
  cases e:arg sub wrt x with
  | inl f=>rw[e] at h;cases h
  | inr a =>
   rw[e] at h
   dsimp only at h
   cases e2:args sub wrt ts with
   | inl f=>rw[e2] at h;cases h
   | inr as'=>rw[e2] at h;cases h;rw[Ars,Ars,Acl e2]
theorem AdF{sub:Nd→Res}{wrt:Nd→List Nat}{x:Nd}:∀{ts:List Nd} {as:List Arg},args sub wrt ts=.inr as→args sub wrt (ts++[x])=match arg sub wrt x with
  | .inl f=>.inl f
  | .inr a=>.inr (as++[a])
 | [],as,h=>by
  cases h
  rw[As5]
  unfold args
  cases arg sub wrt x with
  | inl f=>rfl
  | inr a=>rfl
 | y::ts,as,h=>by
  unfold args at h
  rw[AsE]
  conv=>lhs;unfold args
  cases e:arg sub wrt y with
  | inl f=>rw[e] at h;cases h
  | inr a =>
   rw[e] at h
   dsimp only at h ⊢
   cases e2:args sub wrt ts with
   | inl f=>rw[e2] at h;cases h
   | inr as' =>
    rw[e2] at h
    cases h
    rw[AdF e2]
    cases arg sub wrt x with
    | inl f=>rfl
    | inr b=>rfl
theorem AhF{sub:Nd→Res}{wrt:Nd→List Nat}{f:Rf}:∀{ts us:List Nd},args sub wrt ts=.inl f→args sub wrt (ts++us)=.inl f
 | [],us,h=>by cases h
 | y::ts,us,h=>by
  unfold args at h
  rw[AsE]
  unfold args
  cases e:arg sub wrt y with
  | inl f=>rw[e] at h;exact h
  | inr a =>
   rw[e] at h
   dsimp only at h ⊢
   cases e2:args sub wrt ts with
   | inl f=>rw[e2] at h;rw[AhF e2];exact h
   | inr as'=>rw[e2] at h;cases h
inductive Wd:Nat→Nd→Prop
 | nam {d:Nat} {z:List Nat}:Pat.isName z=true→Wd (d+1) (.nam z)
 | rows {d:Nat} {rs:List (List Nat)}:rs≠[]→rs.length≤40→(∀ r∈rs,r≠[]∧∀ c∈r,Sg c)→Wd (d+1) (.node Pat.QF (rs.map Nd.run))
 | nums {d:Nat} {z:List Nat} {a b:Nat}:z=twW∨z=saW→a<100→b<100→Wd (d+1) (.node z [.num a,.num b])
 | one {d:Nat} {z:List Nat} {x:Nd}:z=miW∨z=upW∨z=baW∨z=quW→Wd d x→Wd (d+1) (.node z [x])
 | two {d:Nat} {z:List Nat} {x y:Nd}:z=beW∨z=abW∨z=laW→Wd d x→Wd d y→Wd (d+1) (.node z [x,y])
 | tile {d:Nat} {x:Nd} {a b:Nat}:Wd d x→a<100→b<100→Wd (d+1) (.node tiW [x,.num a,.num b])
 | blk {d:Nat} {x y w:Nd}:Wd d x→Wd d y→Wd d w→Wd (d+1) (.node blW [x,y,w])
theorem Pat.We(l:List Nat):(Pat.sk l).length≤l.length:=(AsK _).length_le
theorem Pat.AgM(p:Nat→Bool)(l:List Nat):(l.takeWhile p).length+(l.dropWhile p).length=l.length:=by
 have:=congrArg List.length (List.takeWhile_append_dropWhile (p:=p) (l:=l))
 rw[Arp] at this
 exact this
theorem Pat.Abs{c:Nat}{l l':List Nat}(h:Pat.one c l=some l'):l'.length+1=l.length:=by
 cases l with
 | nil=>cases h
 | cons a l =>
  unfold Pat.one at h
  dsimp only at h
  by_cases e:a=c
  ·rw[if_pos e] at h;cases h;rfl
  ·rw[if_neg e] at h;cases h
theorem AgN{p:Nat→Bool}:∀{l:List Nat} {c:Nat},c∈l.takeWhile p→p c=true
 | [],c,h=>by simp at h
 | a::l,c,h=>by
  rw[Asq] at h
  split at h
  next e =>
   rcases List.mem_cons.mp h with rfl | h
   ·exact e
   ·exact AgN h
  ·simp at h
theorem AlP{f:List Nat}(h:Pat.Acg f=true)(hf:∀ c∈f,Pat.Kz c=true):NumText.digitsVal f<100∧(dec (NumText.digitsVal f)).length≤f.length:=by
 unfold Pat.Acg at h
 have h:=of_decide_eq_true h
 have dig:∀ c,Pat.Kz c=true→48≤c∧c≤57:=fun c hc=>of_decide_eq_true hc
 rcases f with _ | ⟨a,_ | ⟨b,_ | ⟨c,f⟩⟩⟩
 ·simp at h
 ·have ha:=dig a (hf a (by simp))
  have e:a=48∨a=49∨a=50∨a=51∨a=52∨a=53∨a=54∨a=55∨a=56∨a=57:=by omega
  rcases e with rfl | rfl | rfl | rfl | rfl | rfl | rfl | rfl | rfl | rfl <;> decide +kernel
 ·have ha:=dig a (hf a (by simp))
  have hb:=dig b (hf b (by simp))
  have e:a=48∨a=49∨a=50∨a=51∨a=52∨a=53∨a=54∨a=55∨a=56∨a=57:=by omega
  have e2:b=48∨b=49∨b=50∨b=51∨b=52∨b=53∨b=54∨b=55∨b=56∨b=57:=by omega
  have key:∀ x∈List.range 58,∀ y∈List.range 58,48≤x→48≤y→NumText.digitsVal [x,y]<100∧(dec (NumText.digitsVal [x,y])).length≤2:=by decide +kernel
  exact key a (List.mem_range.mpr (by omega)) b (List.mem_range.mpr (by omega)) (by omega) (by omega)
 ·simp at h
theorem Pat.An9{l l':List Nat}{n:Nat}(h:Pat.num l=some (n,l')):n<100∧(dec n).length+l'.length≤l.length:=by
 unfold Pat.num at h
 split at h
 next e =>
  cases h
  have g:=AlP e fun c hc=>AgN hc
  have:=Pat.We (l.dropWhile Pat.Kz)
  have:=Pat.AgM Pat.Kz l
  exact⟨g.1,by omega⟩
 ·cases h
theorem Pat.AiF{l l':List Nat}(h:Pat.comma l=some l'):l'.length+1≤l.length:=by
 unfold Pat.comma at h
 cases e:Pat.one 44 l with
 | none=>rw[e] at h;cases h
 | some l1 =>
  rw[e] at h
  cases h
  have:=Pat.Abs e
  have:=Pat.We l1
  omega
theorem Pat.AjY{l r l':List Nat}(h:Pat.run l=some (r,l')):r≠[]∧(∀ c∈r,Sg c)∧r.length+l'.length≤l.length:=by
 unfold Pat.run at h
 split at h
 ·cases h
 next e =>
  cases h
  have:=Pat.We (l.dropWhile Pat.knot)
  have:=Pat.AgM Pat.knot l
  exact⟨e,fun c hc=>of_decide_eq_true (p:=c=35∨c=46) (AgN hc),by omega⟩
theorem Pat.AhG:∀{k:Nat} {l l':List Nat} {rs:List (List Nat)},Pat.Gm k l=some (rs,l')→(∀ r∈rs,r≠[]∧∀ c∈r,Sg c)∧((rs.map fun y=>[44]++y).flatten).length+l'.length≤l.length
 | 0,l,l',rs,h=>by cases h
 | k+1,l,l',rs,h=>by
  unfold Pat.Gm at h
  cases e:Pat.one 44 l with
  | none=>rw[e] at h;cases h;exact⟨fun r hr=>by simp at hr,by simp⟩
  | some l1 =>
   rw[e] at h
   dsimp only at h
   cases e2:Pat.run (Pat.sk l1) with
   | none=>rw[e2] at h;cases h
   | some q =>
    obtain⟨r,l2⟩:=q
    rw[e2] at h
    dsimp only at h
    cases e3:Pat.Gm k l2 with
    | none=>rw[e3] at h;cases h
    | some q =>
     obtain⟨rs',l3⟩:=q
     rw[e3] at h
     cases h
     have g1:=Pat.Abs e
     have g2:=Pat.AjY e2
     have g3:=Pat.AhG e3
     have g4:=Pat.We l1
     refine⟨fun s hs=>?_,?_⟩
     ·rcases List.mem_cons.mp hs with rfl | hs
      ·exact⟨g2.1,g2.2.1⟩
      ·exact g3.1 s hs
     ·rw[Arx,ArB,Arp,Arp,ArX]
      have:=g3.2
      have:=g2.2.2
      dsimp only
      omega
theorem Pat.Aes{l l':List Nat}{rs:List (List Nat)}(h:Pat.runs l=some (rs,l')):rs≠[]∧rs.length≤40∧(∀ r∈rs,r≠[]∧∀ c∈r,Sg c)∧(cj rs).length+l'.length≤l.length:=by
 unfold Pat.runs at h
 cases e:Pat.run l with
 | none=>rw[e] at h;cases h
 | some q =>
  obtain⟨r,l1⟩:=q
  rw[e] at h
  dsimp only at h
  cases e2:Pat.Gm (l1.length+1) l1 with
  | none=>rw[e2] at h;cases h
  | some q =>
   obtain⟨rs',l2⟩:=q
   rw[e2] at h
   dsimp only at h
   split at h
   ·cases h
   next c =>
    cases h
    have g1:=Pat.AjY e
    have g2:=Pat.AhG e2
    refine⟨by simp,by omega,fun s hs=>?_,?_⟩
    ·rcases List.mem_cons.mp hs with rfl | hs
     ·exact⟨g1.1,g1.2.1⟩
     ·exact g2.1 s hs
    ·unfold cj
     rw[Arp]
     have:=g1.2.2
     have:=g2.2
     omega
def Rdg (d:Nat)(l:List Nat)(x:Nd)(l':List Nat):Prop:=(wr d x).length+l'.length≤l.length
def Kds (d:Nat):List Nat→List Nd→Prop
 | [],[]=>True
 | k::ks,x::ts=>(if k=112 then Wd d x else ∃ n,x=Nd.num n∧n<100)∧Kds d ks ts
 | _,_=>False
theorem AhH{d:Nat}(ih:∀{l l':List Nat} {x:Nd},Pat.node d l=some (x,l')→Wd d x∧Rdg d l x l'):∀{ks l l':List Nat} {ts:List Nd} {fst:Bool},Pat.args (Pat.node d) fst ks l=some (ts,l') →
  Kds d ks ts∧(if fst=true then (cj (ts.map (wr d))).length else ((ts.map (wr d)).map fun y=>[44]++y).flatten.length)+l'.length≤l.length
 | [],l,l',ts,fst,h=>by
  unfold Pat.args at h
  cases h
  refine⟨trivial,?_⟩
  cases fst <;> simp[cj]
 | k::ks,l,l',ts,fst,h=>by
  unfold Pat.args at h
  cases e:(if fst=true then some l else Pat.comma l) with
  | none=>rw[e] at h;cases h
  | some l1 =>
   rw[e] at h
   dsimp only at h
   cases e2:(if k=112 then Pat.node d l1 else (Pat.num l1).map fun p=>(Nd.num p.1,p.2)) with
   | none=>rw[e2] at h;cases h
   | some q =>
    obtain⟨a,l2⟩:=q
    rw[e2] at h
    dsimp only at h
    cases e3:Pat.args (Pat.node d) false ks l2 with
    | none=>rw[e3] at h;cases h
    | some q =>
     obtain⟨ts',l3⟩:=q
     rw[e3] at h
     cases h
     have g3:=AhH ih e3
     have g2:(if k=112 then Wd d a else ∃ n,a=Nd.num n∧n<100)∧(wr d a).length+l2.length≤l1.length:=by
      by_cases c:k=112
      ·rw[if_pos c] at e2
       rw[if_pos c]
       exact ih e2
      ·rw[if_neg c] at e2
       rw[if_neg c]
       cases e4:Pat.num l1 with
       | none=>rw[e4] at e2;cases e2
       | some q =>
        obtain⟨n,l4⟩:=q
        rw[e4] at e2
        cases e2
        have g:=Pat.An9 e4
        exact⟨⟨n,rfl,g.1⟩,by rw[AgK];exact g.2⟩
     refine⟨⟨g2.1,g3.1⟩,?_⟩
     have g3:=g3.2
     rw[if_neg (fun z=>nomatch z)] at g3
     cases fst with
     | true =>
      cases e
      rw[if_pos rfl,Arx]
      unfold cj
      rw[Arp]
      dsimp only
      omega
     | false =>
      rw[if_neg (fun z=>nomatch z)] at e ⊢
      have:=Pat.AiF e
      rw[Arx,Arx,ArB,Arp,Arp,ArX]
      dsimp only
      omega
theorem Kds.nil{d:Nat}{ts:List Nd}(h:Kds d [] ts):ts=[]:=by
 cases ts with
 | nil=>rfl
 | cons _ _=>exact h.elim
theorem Kds.cons{d k:Nat}{ks:List Nat}{ts:List Nd}(h:Kds d (k::ks) ts):∃ x ts',ts=x::ts'∧(if k=112 then Wd d x else ∃ n,x=Nd.num n∧n<100)∧Kds d ks ts':=by
 cases ts with
 | nil=>exact h.elim
 | cons x ts'=>exact⟨x,ts',rfl,h.1,h.2⟩
theorem AhI:∀{d:Nat} {l l':List Nat} {x:Nd},Pat.node d l=some (x,l')→Wd d x∧Rdg d l x l'
 | 0,l,l',x,h=>by cases h
 | d+1,l,l',x,h=>by
  unfold Pat.node at h
  have t1:=Pat.AgM Pat.letter l
  have t2:=Pat.We (l.dropWhile Pat.letter)
  cases e:Pat.one 40 (Pat.sk (l.dropWhile Pat.letter)) with
  | none =>
   rw[e] at h
   dsimp only at h
   split at h
   next c =>
    cases h
    exact⟨.nam c,by unfold Rdg;rw[Ack];omega⟩
   ·cases h
  | some l1 =>
   rw[e] at h
   dsimp only at h
   have o1:=Pat.Abs e
   have s1:=Pat.We l1
   generalize hz:l.takeWhile Pat.letter=z at h t1
   cases e2:Pat.things (Pat.node d) z (Pat.sk l1) with
   | none=>rw[e2] at h;cases h
   | some q =>
    obtain⟨ts,l2⟩:=q
    rw[e2] at h
    dsimp only at h
    cases e3:Pat.one 41 l2 with
    | none=>rw[e3] at h;cases h
    | some l3 =>
     rw[e3] at h
     cases h
     have o3:=Pat.Abs e3
     have s3:=Pat.We l3
     have main:Wd (d+1) (.node z ts)∧(cj (ts.map (wr d))).length+l2.length≤(Pat.sk l1).length:=by
      unfold Pat.things at e2
      by_cases c:z=Pat.QF
      ·rw[if_pos c] at e2
       cases e4:Pat.runs (Pat.sk l1) with
       | none=>rw[e4] at e2;cases e2
       | some q =>
        obtain⟨rs,l4⟩:=q
        rw[e4] at e2
        cases e2
        have g:=Pat.Aes e4
        refine⟨by rw[c];exact .rows g.1 g.2.1 g.2.2.1,?_⟩
        rw[Aso,show(wr d∘Nd.run)=id from funext fun r=>AgL,Asc]
        exact g.2.2.2
      ·rw[if_neg c] at e2
       cases e4:Pat.wants z with
       | none=>rw[e4] at e2;cases e2
       | some ks =>
        rw[e4] at e2
        dsimp only at e2
        have g:=AhH (fun h=>AhI h) e2
        rw[if_pos rfl] at g
        refine⟨?_,g.2⟩
        have K:=g.1
        unfold Pat.wants at e4
        split at e4
        next w =>
         cases e4
         obtain⟨a,t1,rfl,p1,K⟩:=K.cons
         obtain⟨b,t2,rfl,p2,K⟩:=K.cons
         cases K.nil
         obtain⟨a,rfl,ha⟩:=p1
         obtain⟨b,rfl,hb⟩:=p2
         exact .nums w ha hb
        split at e4
        next w =>
         cases e4
         obtain⟨a,t1,rfl,p1,K⟩:=K.cons
         obtain⟨b,t2,rfl,p2,K⟩:=K.cons
         cases K.nil
         exact .two w p1 p2
        split at e4
        next w =>
         cases e4
         obtain⟨a,t1,rfl,p1,K⟩:=K.cons
         cases K.nil
         exact .one w p1
        split at e4
        next w =>
         cases e4
         obtain⟨a,t1,rfl,p1,K⟩:=K.cons
         obtain⟨b,t2,rfl,p2,K⟩:=K.cons
         obtain⟨c,t3,rfl,p3,K⟩:=K.cons
         cases K.nil
         obtain⟨b,rfl,hb⟩:=p2
         obtain⟨c,rfl,hc⟩:=p3
         rw[w]
         exact .tile p1 hb hc
        split at e4
        next w =>
         cases e4
         obtain⟨a,t1,rfl,p1,K⟩:=K.cons
         obtain⟨b,t2,rfl,p2,K⟩:=K.cons
         obtain⟨c,t3,rfl,p3,K⟩:=K.cons
         cases K.nil
         rw[w]
         exact .blk p1 p2 p3
        ·cases e4
     exact⟨main.1,by unfold Rdg wr wz;rw[Arp,Ars,Arp,ArX];have:=main.2;omega⟩
theorem Af8{l:List Nat}{x:Nd}(h:Pat.whole l=some x):Wd 12 x∧(wr 12 x).length≤l.length:=by
 unfold Pat.whole at h
 cases e:Pat.node 12 (Pat.sk l) with
 | none=>rw[e] at h;cases h
 | some q =>
  obtain⟨n,l'⟩:=q
  rw[e] at h
  cases l' with
  | nil =>
   cases h
   have g:=AhI e
   refine⟨g.1,?_⟩
   have:=g.2
   unfold Rdg at this
   have:=Pat.We l
   omega
  | cons _ _=>cases h
theorem Cl.wdt{x:List (List Nat)}{m n:Nat}(C:Cl x m n):wdt x=m:=by
 cases x with
 | nil=>have:=C.hn;have:=C.n1;simp at *;omega
 | cons r x=>exact C.hm r ArD
theorem Cl.same{x:List (List Nat)}{m n:Nat}(C:Cl x m n):Cl x (Mine.wdt x) x.length:=by rw[C.wdt,C.hn];exact C
def Clo (x:List (List Nat)):Prop:=Cl x (wdt x) x.length
theorem Cl.clo{x:List (List Nat)}{m n:Nat}(C:Cl x m n):Clo x:=C.same
theorem AjZ{p:Prop}[Decidable p]:Sg (if p then 35 else 46):=by split;exact .inl rfl;exact .inr rfl
theorem Aka{a b:Nat}(h1:1≤a)(h3:a+b≤40):Cl ((List.range (a+b)).map (twT a b)) (a+b) (a+b) where
 hn:=by rw[Arq,ArH]
 hm:=fun t ht=>by
  obtain⟨y,_,rfl⟩:=List.mem_map.mp ht
  unfold twT
  rw[Arq,ArH]
 sg:=fun t ht c hc=>by
  obtain⟨y,_,rfl⟩:=List.mem_map.mp ht
  obtain⟨x,_,rfl⟩:=List.mem_map.mp hc
  exact AjZ
 m1:=by omega
 m40:=h3
 n1:=by omega
 n40:=h3
theorem Akb{m n:Nat}(h1:1≤m)(h3:m≤40):Cl ((List.range m).map (saT m n)) m m where
 hn:=by rw[Arq,ArH]
 hm:=fun t ht=>by
  obtain⟨y,_,rfl⟩:=List.mem_map.mp ht
  unfold saT stT
  rw[Arq,ArH]
 sg:=fun t ht c hc=>by
  obtain⟨y,_,rfl⟩:=List.mem_map.mp ht
  obtain⟨x,_,rfl⟩:=List.mem_map.mp hc
  exact AjZ
 m1:=h1
 m40:=h3
 n1:=h1
 n40:=h3
theorem Acm:∀{x y:List (List Nat)} {r:List Nat},r∈List.zipWith (·++·) x y→∃ a∈x,∃ b∈y,r=a++b
 | [],_,r,h=>by simp at h
 | _::_,[],r,h=>by simp at h
 | a::x,b::y,r,h=>by
  rw[List.zipWith_cons_cons] at h
  rcases List.mem_cons.mp h with rfl | h
  ·exact⟨a,ArD,b,ArD,rfl⟩
  ·obtain⟨a',ha,b',hb,e⟩:=Acm h
   exact⟨a',ArF _ ha,b',ArF _ hb,e⟩
theorem AiG{x y:List (List Nat)}{m n m':Nat}(C:Cl x m n)(D:Cl y m' n)(h:m+m'≤40):Cl (List.zipWith (·++·) x y) (m+m') n where
 hn:=by rw[Asz,C.hn,D.hn,ArO]
 hm:=fun t ht=>by
  obtain⟨a,ha,b,hb,rfl⟩:=Acm ht
  rw[Arp,C.hm a ha,D.hm b hb]
 sg:=fun t ht c hc=>by
  obtain⟨a,ha,b,hb,rfl⟩:=Acm ht
  rcases List.mem_append.mp hc with hc | hc
  ·exact C.sg a ha c hc
  ·exact D.sg b hb c hc
 m1:=by have:=C.m1;omega
 m40:=h
 n1:=C.n1
 n40:=C.n40
theorem Akc{x y:List (List Nat)}{m n n':Nat}(C:Cl x m n)(D:Cl y m n')(h:n+n'≤40):Cl (x++y) m (n+n') where
 hn:=by rw[Arp,C.hn,D.hn]
 hm:=fun t ht=>by
  rcases List.mem_append.mp ht with ht | ht
  ·exact C.hm t ht
  ·exact D.hm t ht
 sg:=fun t ht c hc=>by
  rcases List.mem_append.mp ht with ht | ht
  ·exact C.sg t ht c hc
  ·exact D.sg t ht c hc
 m1:=C.m1
 m40:=C.m40
 n1:=by have:=C.n1;omega
 n40:=h
theorem ZR{x:List (List Nat)}{m n:Nat}(C:Cl x m n):Cl (x.map List.reverse) m n where
 hn:=by rw[Arq,C.hn]
 hm:=fun t ht=>by
  obtain⟨a,ha,rfl⟩:=List.mem_map.mp ht
  rw[ArR,C.hm a ha]
 sg:=fun t ht c hc=>by
  obtain⟨a,ha,rfl⟩:=List.mem_map.mp ht
  exact C.sg a ha c (List.mem_reverse.mp hc)
 m1:=C.m1
 m40:=C.m40
 n1:=C.n1
 n40:=C.n40
theorem Acn{x:List (List Nat)}{m n:Nat}(C:Cl x m n):Cl x.reverse m n where
 hn:=by rw[ArR,C.hn]
 hm:=fun t ht=>C.hm t (List.mem_reverse.mp ht)
 sg:=fun t ht c hc=>C.sg t (List.mem_reverse.mp ht) c hc
 m1:=C.m1
 m40:=C.m40
 n1:=C.n1
 n40:=C.n40
theorem K1(k:Nat):(Ms k).length=2*k:=by unfold Ms;rw[SQ];simp;omega
theorem UW(k:Nat)(i:Int):(Ms k).count i=if i=0∨i=1 then k else 0:=by
 unfold Ms
 induction k with
 | zero=>simp
 | succ k ih =>
  rw[ArJ,ArB,List.count_append,ih]
  by_cases h0:i=0
  ·subst h0;simp;omega
  ·by_cases h1:i=1
   ·subst h1;simp;omega
   ·rw[if_neg (by omega),if_neg (by omega)]
    simp[List.count_cons,Ne.symm h0,Ne.symm h1]
theorem Af9{k:Nat}{i:Int}(h:i∈Ms k):0≤i∧i<2:=by
 have:=UJ h
 simp at this
 omega
theorem Akd{x y:List (List Nat)}{m n:Nat}(C:Cl x m n)(D:Cl y m n)(hm:2*m≤40)(hn:2*n≤40):AgH [x,y] (Ms m) (Ms n) where
 e:=fun z hz=>by have:=Af9 hz;exact⟨this.1,by show z<2;exact this.2⟩
 o:=fun z hz=>by have:=Af9 hz;exact⟨this.1,by show z<2;exact this.2⟩
 hn:=fun i hi=>by
  have:i=0∨i=1:=by simp only [Ars,Arv] at hi;omega
  rcases this with rfl | rfl
  ·rw[UW,if_pos (by decide)];exact C.hn
  ·rw[UW,if_pos (by decide)];exact D.hn
 hm:=fun i hi t ht=>by
  have:i=0∨i=1:=by simp only [Ars,Arv] at hi;omega
  rcases this with rfl | rfl
  ·rw[UW,if_pos (by decide)];exact⟨C.hm t ht,C.sg t ht⟩
  ·rw[UW,if_pos (by decide)];exact⟨D.hm t ht,D.sg t ht⟩
 e1:=by have:=C.m1;rw[K1];omega
 e40:=by rw[K1];exact hm
 o1:=by have:=C.n1;rw[K1];omega
 o40:=by rw[K1];exact hn
theorem AnA{ps:List (List (List Nat))}{es os:List Int}(C:AgH ps es os):Cl (lay ps es os) es.length os.length where
 hn:=Aeo ps es os
 hm:=fun t ht=>by
  obtain⟨j,_,rfl⟩:=List.mem_map.mp ht
  exact R9 ..
 sg:=fun t ht c hc=>by
  obtain⟨j,hj,rfl⟩:=List.mem_map.mp ht
  have hj:=List.mem_range.mp hj
  obtain⟨k,hk,rfl⟩:=List.mem_map.mp hc
  have hk:=List.mem_range.mp hk
  unfold YM
  split
  next e =>
   obtain⟨o1,o2⟩:=C.own hj
   have e9:(ps.getD (os.getD j 0).toNat []).getD (plc os j) []=(ps.getD (os.getD j 0).toNat [])[plc os j]:=by rw[ArN,Aru o2];rfl
   have M:=C.hm _ o1 _ (ArG o2)
   rw[e9]
   have oz:=C.o _ (getD_mem hj)
   have lt:=AgG hk
   rw[← e,show os.getD j 0=(((os.getD j 0).toNat:Nat):Int) by omega,← M.1] at lt
   have e8:((ps.getD (os.getD j 0).toNat [])[plc os j]).getD (plc es k) 0=((ps.getD (os.getD j 0).toNat [])[plc os j])[plc es k]:=by rw[ArN,Aru lt];rfl
   rw[e8]
   exact M.2 _ (ArG lt)
  ·exact AjZ
 m1:=C.e1
 m40:=C.e40
 n1:=C.o1
 n40:=C.o40
theorem Ake{sub:Nd→Res}{wrt:Nd→List Nat}{d:Nat}{x:Nd}(h:Wd d x):arg sub wrt x=match sub x with
  | .ok r=>.inr (.cl r (wrt x))
  | .no f=>.inl f:=by
 cases h <;> rfl
theorem AiH{kn:Kns}{z:List Nat}{r:List (List Nat)}(hk:∀ p∈kn,Clo p.2)(h:known kn z=.ok r):Clo r:=by
 unfold known at h
 cases e:kn.find? fun p=>decide (p.1=z) with
 | none=>rw[e] at h;cases h
 | some p=>rw[e] at h;cases h;exact hk p (List.mem_of_find?_eq_some e)
theorem Abt{z:List Nat}{x r:List (List Nat)}(C:Clo x)(h:AgI z x=.ok r):Clo r:=by
 unfold AgI at h
 split at h
 ·cases h;exact(ZR C).clo
 split at h
 ·cases h;exact(Acn C).clo
 split at h
 ·cases h;exact(Cl.back C).clo
 ·cases h;exact(Cl.YL C).clo
theorem AgO{x y r:List (List Nat)}(C:Clo x)(D:Clo y)(h:UL x y=.ok r):Clo r:=by
 unfold UL at h
 split at h
 ·cases h
 next e =>
  split at h
  ·cases h
  next e2 =>
   cases h
   have e:=Decidable.of_not_not e
   unfold Clo at D
   rw[← e] at D
   exact(AiG C D (by omega)).clo
theorem AiI{x y r:List (List Nat)}(C:Clo x)(D:Clo y)(h:Ye x y=.ok r):Clo r:=by
 unfold Ye at h
 split at h
 ·cases h
 next e =>
  split at h
  ·cases h
  next e2 =>
   cases h
   have e:=Decidable.of_not_not e
   unfold Clo at D
   rw[← e] at D
   exact(Akc C D (by omega)).clo
theorem AlQ{x y r:List (List Nat)}(C:Clo x)(D:Clo y)(h:AgJ x y=.ok r):Clo r:=by
 unfold AgJ at h
 split at h
 ·cases h
 next e =>
  split at h
  ·cases h
  next e2 =>
   cases h
   have e1:wdt x=wdt y:=Decidable.of_not_not fun z=>e (.inl z)
   have e3:x.length=y.length:=Decidable.of_not_not fun z=>e (.inr z)
   unfold Clo at D
   rw[← e1,← e3] at D
   exact(AnA (Akd C D (by omega) (by omega))).clo
theorem Akf{x r:List (List Nat)}{a b:Nat}(C:Clo x)(h:Acj x a b=.ok r):Clo r:=by
 unfold Acj at h
 split at h
 ·cases h
 next e =>
  split at h
  ·cases h
  next e2 =>
   cases h
   exact(Cl.til C (by omega) (by omega) (by rw[ArV];omega) (by rw[ArV];omega)).clo
theorem AgP{p x y r:List (List Nat)}(B:Clo p)(C:Clo x)(D:Clo y)(h:UT p x y=.ok r):Clo r:=by
 unfold UT at h
 split at h
 ·cases h
 next e =>
  split at h
  ·cases h
  next e2 =>
   cases h
   have e1:wdt x=wdt y:=Decidable.of_not_not fun z=>e (.inl z)
   have e3:x.length=y.length:=Decidable.of_not_not fun z=>e (.inr z)
   unfold Clo at D
   rw[← e1,← e3] at D
   exact(An6 B C D (by omega) (by omega)).clo
theorem Akg{rs r:List (List Nat)}(h1:rs≠[])(h2:∀ r∈rs,r≠[]∧∀ c∈r,Sg c)(h:AdE rs=.ok r):Clo r:=by
 unfold AdE at h
 split at h
 ·cases h
 next e =>
  split at h
  ·cases h
  next e2 =>
   cases h
   have w:∀ u∈rs,u.length=wdt rs:=fun u hu=>Decidable.of_not_not fun z=>e (by
    rw[List.any_map]
    exact List.any_eq_true.mpr ⟨u,hu,decide_eq_true z⟩)
   refine⟨rfl,w,fun u hu=>(h2 u hu).2,?_,by omega,List.length_pos_iff.mpr h1,by omega⟩
   cases rs with
   | nil=>exact absurd rfl h1
   | cons u r=>exact List.length_pos_iff.mpr (h2 u ArD).1
theorem AiJ{a b:Nat}{r:List (List Nat)}(h:Yc a b=.ok r):Clo r:=by
 unfold Yc at h
 split at h
 ·cases h
 next e =>
  split at h
  ·cases h
  ·cases h;exact(Aka (by omega) (by omega)).clo
theorem AiK{a b:Nat}{r:List (List Nat)}(h:Yd a b=.ok r):Clo r:=by
 unfold Yd at h
 split at h
 ·cases h
 next e =>
  have e:=Decidable.of_not_not e
  split at h
  ·cases h
  ·cases h;exact(Akb (by have:=e.1;have:=e.2.1;omega) (by omega)).clo
theorem AdG{sub:Nd→Res}{wrt:Nd→List Nat}:∀ rs:List (List Nat),args sub wrt (rs.map Nd.run)=.inr (rs.map Arg.run)
 | []=>rfl
 | r::rs=>by
  rw[Arx]
  unfold args
  rw[AdG rs]
  rfl
theorem AdH(rs:List (List Nat)):(rs.map Arg.run).map runOf=rs:=by rw[Aso];exact Asc _
inductive Fit:List Nat→List Arg→Prop
 | rows {rs:List (List Nat)}:rs≠[]→rs.length≤40→(∀ r∈rs,r≠[]∧∀ c∈r,Sg c)→Fit Pat.QF (rs.map Arg.run)
 | nums {z:List Nat} {a b:Nat}:z=twW∨z=saW→a<100→b<100→Fit z [.num a,.num b]
 | one {z v:List Nat} {x:List (List Nat)}:z=miW∨z=upW∨z=baW∨z=quW→Clo x→Fit z [.cl x v]
 | two {z v u:List Nat} {x y:List (List Nat)}:z=beW∨z=abW∨z=laW→Clo x→Clo y→Fit z [.cl x v,.cl y u]
 | tile {v:List Nat} {x:List (List Nat)} {a b:Nat}:Clo x→a<100→b<100→Fit tiW [.cl x v,.num a,.num b]
 | blk {v u s:List Nat} {x y w:List (List Nat)}:Clo x→Clo y→Clo w→Fit blW [.cl x v,.cl y u,.cl w s]
theorem Akh{z:List Nat}{as:List Arg}{r:List (List Nat)}(F:Fit z as)(h:made z as=.ok r):Clo r:=by
 cases F with
 | rows h1 h2 h3 =>
  unfold made at h
  rw[if_pos rfl,AdH] at h
  exact Akg h1 h3 h
 | nums w ha hb =>
  rcases w with rfl | rfl
  ·exact AiJ h
  ·exact AiK h
 | one w C =>
  rcases w with rfl | rfl | rfl | rfl
  ·exact Abt (z:=miW) C h
  ·exact Abt (z:=upW) C h
  ·exact Abt (z:=baW) C h
  ·exact Abt (z:=quW) C h
 | two w C D =>
  rcases w with rfl | rfl | rfl
  ·exact AgO C D h
  ·exact AiI C D h
  ·exact AlQ C D h
 | tile C ha hb=>exact Akf C h
 | blk B C D=>exact AgP B C D h
theorem Aki{kn:Kns}{d:Nat}(ih:∀{x:Nd} {r:List (List Nat)},Wd d x→out kn d x=.ok r→Clo r){z:List Nat}{ts:List Nd}{as:List Arg}(W:Wd (d+1) (.node z ts))(h:args (out kn d) (wr d) ts=.inr as):Fit z as:=by
 have sub:∀{x:Nd} {a:Arg},Wd d x→arg (out kn d) (wr d) x=.inr a→∃ r,a=.cl r (wr d x)∧Clo r:=fun {x a} W h=>by
  rw[Ake W] at h
  cases e:out kn d x with
  | no f=>rw[e] at h;cases h
  | ok r=>rw[e] at h;cases h;exact⟨r,rfl,ih W e⟩
 have inv:∀{x:Nd} {ts:List Nd} {as:List Arg},args (out kn d) (wr d) (x::ts)=.inr as→∃ a as',as=a::as'∧arg (out kn d) (wr d) x=.inr a∧args (out kn d) (wr d) ts=.inr as':=fun {x ts as} h=>by
  unfold args at h
  cases e:arg (out kn d) (wr d) x with
  | inl f=>rw[e] at h;cases h
  | inr a =>
   rw[e] at h
   dsimp only at h
   cases e2:args (out kn d) (wr d) ts with
   | inl f=>rw[e2] at h;cases h
   | inr as'=>rw[e2] at h;cases h;exact⟨a,as',rfl,rfl,rfl⟩
 have nil:∀{as:List Arg},args (out kn d) (wr d) []=.inr as→as=[]:=fun h=>by cases h;rfl
 cases W with
 | rows h1 h2 h3 =>
  rw[AdG] at h
  cases h
  exact .rows h1 h2 h3
 | nums w ha hb =>
  obtain⟨a,_,rfl,e1,h⟩:=inv h
  obtain⟨b,_,rfl,e2,h⟩:=inv h
  cases nil h
  cases e1
  cases e2
  exact .nums w ha hb
 | one w X =>
  obtain⟨a,_,rfl,e1,h⟩:=inv h
  cases nil h
  obtain⟨r,rfl,C⟩:=sub X e1
  exact .one w C
 | two w X Y =>
  obtain⟨a,_,rfl,e1,h⟩:=inv h
  obtain⟨b,_,rfl,e2,h⟩:=inv h
  cases nil h
  obtain⟨r,rfl,C⟩:=sub X e1
  obtain⟨r2,rfl,D⟩:=sub Y e2
  exact .two w C D
 | tile X ha hb =>
  obtain⟨a,_,rfl,e1,h⟩:=inv h
  obtain⟨b,_,rfl,e2,h⟩:=inv h
  obtain⟨c,_,rfl,e3,h⟩:=inv h
  cases nil h
  cases e2
  cases e3
  obtain⟨r,rfl,C⟩:=sub X e1
  exact .tile C ha hb
 | blk X Y Z =>
  obtain⟨a,_,rfl,e1,h⟩:=inv h
  obtain⟨b,_,rfl,e2,h⟩:=inv h
  obtain⟨c,_,rfl,e3,h⟩:=inv h
  cases nil h
  obtain⟨r,rfl,C⟩:=sub X e1
  obtain⟨r2,rfl,D⟩:=sub Y e2
  obtain⟨r3,rfl,F⟩:=sub Z e3
  exact .blk C D F
theorem Aet{kn:Kns}(hk:∀ p∈kn,Clo p.2):∀{d:Nat} {x:Nd} {r:List (List Nat)},Wd d x→out kn d x=.ok r→Clo r
 | 0,x,r,W,h=>by cases W
 | d+1,.nam z,r,W,h=>AiH hk h
 | d+1,.num n,r,W,h=>by cases W
 | d+1,.run n,r,W,h=>by cases W
 | d+1,.node z ts,r,W,h=>by
  unfold out at h
  cases e:args (out kn d) (wr d) ts with
  | inl f=>rw[e] at h;cases h
  | inr as =>
   rw[e] at h
   exact Akh (Aki (Aet hk) W e) h
theorem AhJ:∀{xs:List (List Nat)} {y:List Nat},y∈xs→y.length≤((xs.map fun y=>[44]++y).flatten).length
 | [],y,h=>by simp at h
 | a::xs,y,h=>by
  rw[Arx,ArB,Arp,Arp]
  rcases List.mem_cons.mp h with rfl | h
  ·omega
  ·have:=AhJ h;omega
theorem AmK:∀{ys:List (List Nat)} {y:List Nat},y∈ys→y.length≤(cj ys).length
 | [],y,h=>by simp at h
 | x::xs,y,h=>by
  unfold cj
  rw[Arp]
  rcases List.mem_cons.mp h with rfl | h
  ·omega
  ·have:=AhJ h
   omega
theorem AlR{d:Nat}{z:List Nat}{ts:List Nd}{x:Nd}(h:x∈ts):(wr d x).length≤(wr (d+1) (.node z ts)).length:=by
 have:=AmK (List.mem_map.mpr ⟨x,h,rfl⟩:wr d x∈ts.map (wr d))
 show _≤(wz z (ts.map (wr d))).length
 unfold wz
 rw[Arp,Ars,Arp]
 omega
def rdp (kn:Kns)(u:List Nat):Res × List Nat:=match Pat.whole u with
 | none=>(.no .nop,[])
 | some x=>(out kn 12 x,wr 12 x)
def Pat.good(c:Nat):Prop:=Pat.letter c=true∨Pat.Kz c=true∨c=35∨c=46∨c=44∨c=40∨c=41∨c=32
def Bt (l l':List Nat):Prop:=∃ p,l=p++l'∧∀ c∈p,Pat.good c
def bl (g:Nat):List Nat:=List.replicate g 32
mutual
inductive Wt:Nd→List Nat→Prop
 | num {n g:Nat}:Wt (.num n) (dec n++bl g)
 | run {r:List Nat} {g:Nat}:Wt (.run r) (r++bl g)
 | nam {z:List Nat} {g:Nat}:Wt (.nam z) (z++bl g)
 | node {z:List Nat} {ts:List Nd} {us:List Nat} {g1 g2 g3:Nat}:WtL ts us→Wt (.node z ts) (z++(bl g1++(40::(bl g2++(us++(41::bl g3))))))
inductive WtL:List Nd→List Nat→Prop
 | one {x:Nd} {u:List Nat}:Wt x u→WtL [x] u
 | cons {x:Nd} {u us:List Nat} {xs:List Nd} {g:Nat}:Wt x u→WtL xs us→WtL (x::xs) (u++(44::(bl g++us)))
end
def Stp (l:List Nat):Prop:=l=[]∨∃ c l',l=c::l'∧(c=44∨c=41)
theorem ZS{p:Nat→Bool}:∀{a b:List Nat},(∀ c∈a,p c=true)→(b=[]∨∃ c b',b=c::b'∧p c=false)→(a++b).takeWhile p=a∧(a++b).dropWhile p=b
 | [],b,_,hb=>by
  rcases hb with rfl | ⟨c,b',rfl,h⟩
  ·exact⟨rfl,rfl⟩
  ·rw[As5,Asq,AsL,h]
   exact⟨rfl,rfl⟩
 | c::a,b,ha,hb=>by
  have ih:=ZS (p:=p) (a:=a) (fun d hd=>ha d (ArF _ hd)) hb
  rw[AsE,Asq,AsL,ha c ArD]
  exact⟨by rw[if_pos rfl,ih.1],by rw[if_pos rfl,ih.2]⟩
theorem AnB{g c:Nat}(h:c∈bl g):c=32:=(List.mem_replicate.mp h).2
theorem XD{g:Nat}{l:List Nat}(h:l=[]∨∃ c b',l=c::b'∧¬c=32):Pat.sk (bl g++l)=l:=by
 unfold Pat.sk
 refine(ZS (fun c hc=>decide_eq_true (AnB hc)) ?_).2
 rcases h with h | ⟨c,b',e,h⟩
 ·exact .inl h
 ·exact .inr ⟨c,b',e,decide_eq_false h⟩
theorem Stp.nb{l:List Nat}(h:Stp l):l=[]∨∃ c b',l=c::b'∧¬c=32:=by
 rcases h with h | ⟨c,l',e,h⟩
 ·exact .inl h
 ·exact .inr ⟨c,l',e,by omega⟩
theorem Stp.no{p:Nat→Bool}(h1:p 32=false)(h2:p 44=false)(h3:p 41=false){g:Nat}{l:List Nat}(h:Stp l):bl g++l=[]∨∃ c b',bl g++l=c::b'∧p c=false:=by
 cases g with
 | zero =>
  rcases h with h | ⟨c,l',e,h⟩
  ·exact .inl (by rw[h];rfl)
  ·exact .inr ⟨c,l',by rw[e];rfl,by rcases h with rfl | rfl <;> assumption⟩
 | succ g=>exact .inr ⟨32,bl g++l,rfl,h1⟩
theorem AhK:∀ n∈List.range 100,Pat.Acg (dec n)=true∧NumText.digitsVal (dec n)=n∧(∀ c∈dec n,Pat.Kz c=true)∧dec n≠[]:=by decide +kernel
theorem AnC{n g:Nat}{l:List Nat}(hn:n<100)(h:Stp l):Pat.num (dec n++bl g++l)=some (n,l):=by
 obtain⟨d1,d2,d3,d4⟩:=AhK n (List.mem_range.mpr hn)
 have t:=ZS (p:=Pat.Kz) d3 (h.no (g:=g) (by decide) (by decide) (by decide))
 unfold Pat.num
 rw[ArQ,t.1,t.2,if_pos d1,d2,XD h.nb]
theorem Akj{r:List Nat}{g:Nat}{l:List Nat}(h1:r≠[])(h2:∀ c∈r,Sg c)(h:Stp l):Pat.run (r++bl g++l)=some (r,l):=by
 have t:=ZS (p:=Pat.knot) (a:=r) (fun c hc=>decide_eq_true (h2 c hc)) (h.no (g:=g) (by decide) (by decide) (by decide))
 unfold Pat.run
 rw[ArQ,t.1,t.2,if_neg h1,XD h.nb]
def Nb (l:List Nat):Prop:=∃ c b',l=c::b'∧¬c=32
theorem Nb.app{l l':List Nat}(h:Nb l):Nb (l++l'):=by
 obtain⟨c,b,rfl,h⟩:=h
 exact⟨c,b++l',rfl,h⟩
theorem AhL{p:Nat→Bool}(h0:p 32=false){z:List Nat}(h1:z≠[])(h2:∀ c∈z,p c=true):Nb z:=by
 cases z with
 | nil=>exact absurd rfl h1
 | cons c z =>
  refine⟨c,z,rfl,fun e=>?_⟩
  have:=h2 c ArD
  rw[e,h0] at this
  cases this
theorem Yg{z:List Nat}(h:Pat.isName z=true):z≠[]∧∀ c∈z,Pat.letter c=true:=by
 unfold Pat.isName at h
 simp only [ArP,decide_eq_true_eq] at h
 refine⟨fun e=>by rw[e] at h;simp at h,fun c hc=>List.all_eq_true.mp h.1.2 c hc⟩
theorem Aco{d:Nat}{z:List Nat}{ts:List Nd}(h:Wd (d+1) (.node z ts)):z≠[]∧∀ c∈z,Pat.letter c=true:=by
 cases h with
 | rows _ _ _=>decide
 | nums w _ _=>rcases w with rfl | rfl <;> decide
 | one w _=>rcases w with rfl | rfl | rfl | rfl <;> decide
 | two w _ _=>rcases w with rfl | rfl | rfl <;> decide
 | tile _ _ _=>decide
 | blk _ _ _=>decide
theorem AmL{d:Nat}{x:Nd}{u:List Nat}(W:Wd d x)(h:Wt x u):Nb u:=by
 cases h with
 | num=>cases W
 | run=>cases W
 | nam =>
  cases W with
  | nam h=>exact(AhL (p:=Pat.letter) (by decide) (Yg h).1 (Yg h).2).app
 | node hl =>
  cases d with
  | zero=>cases W
  | succ d=>exact(AhL (p:=Pat.letter) (by decide) (Aco W).1 (Aco W).2).app
def Kd (d k:Nat)(x:Nd):Prop:=if k=112 then Wd d x else ∃ n,x=Nd.num n∧n<100
theorem AmM{d k:Nat}{x:Nd}{u:List Nat}(W:Kd d k x)(h:Wt x u):Nb u:=by
 unfold Kd at W
 split at W
 ·exact AmL W h
 ·obtain⟨n,rfl,hn⟩:=W
  cases h with
  | num =>
   obtain⟨_,_,d3,d4⟩:=AhK n (List.mem_range.mpr hn)
   exact(AhL (p:=Pat.Kz) (by decide) d4 d3).app
theorem Akk{d:Nat}{ks:List Nat}{ts:List Nd}{us:List Nat}(W:Kds d ks ts)(h:WtL ts us):Nb us:=by
 cases h with
 | one h =>
  cases ks with
  | nil=>exact W.elim
  | cons k ks=>exact AmM W.1 h
 | cons h hs =>
  cases ks with
  | nil=>exact W.elim
  | cons k ks=>exact(AmM W.1 h).app
theorem AgQ{sub:List Nat→Option (Nd × List Nat)}{k:Nat}{ks l:List Nat}:Pat.args sub false (k::ks) (44::l)=Pat.args sub true (k::ks) (Pat.sk l):=by
 unfold Pat.args
 rfl
theorem AdI{sub:List Nat→Option (Nd × List Nat)}{k:Nat}{ks l l2:List Nat}{x:Nd}(h:(if k=112 then sub l else (Pat.num l).map fun p=>(Nd.num p.1,p.2))=some (x,l2)):Pat.args sub true (k::ks) l=(Pat.args sub false ks l2).map fun p=>(x::p.1,p.2):=by
 conv=>lhs;unfold Pat.args
 rw[if_pos rfl]
 dsimp only
 rw[h]
theorem AhM{d:Nat}(ih:∀{x:Nd} {u l:List Nat},Wd d x→Wt x u→Stp l→Pat.node d (u++l)=some (x,l)):∀{ts:List Nd} {ks us l:List Nat},Kds d ks ts→WtL ts us→Stp l→Pat.args (Pat.node d) true ks (us++l)=some (ts,l)
 | [],ks,us,l,W,h,hl=>by cases h
 | x::ts,[],us,l,W,h,hl=>W.elim
 | x::ts,k::ks,us,l,W,h,hl=>by
  have thing:∀{u l:List Nat},Wt x u→Stp l→(if k=112 then Pat.node d (u++l) else (Pat.num (u++l)).map fun p=>(Nd.num p.1,p.2))=some (x,l):=fun {u l} hu hl=>by
   have w:=W.1
   by_cases c:k=112
   ·rw[if_pos c] at w
    rw[if_pos c]
    exact ih w hu hl
   ·rw[if_neg c] at w
    rw[if_neg c]
    obtain⟨n,rfl,hn⟩:=w
    cases hu with
    | num=>rw[AnC hn hl];rfl
  cases h with
  | one hu =>
   have e:ks=[]:=by
    cases ks with
    | nil=>rfl
    | cons k2 ks=>exact W.2.elim
   subst e
   rw[AdI (thing hu hl)]
   unfold Pat.args
   rfl
  | cons hu hs =>
   rename_i u us g
   cases ks with
   | nil =>
    exfalso
    cases ts with
    | nil=>cases hs
    | cons y ts=>exact W.2
   | cons k2 ks =>
    rw[ArQ,AsE,AdI (thing hu (.inr ⟨44,(bl g++us)++l,rfl,.inl rfl⟩)),AgQ]
    have nb:=(Akk W.2 hs).app (l':=l)
    rw[ArQ,XD (.inr nb),AhM ih W.2 hs hl]
    rfl
theorem AhN{rs:List (List Nat)}{us:List Nat}(W:∀ r∈rs,r≠[]∧∀ c∈r,Sg c)(h:WtL (rs.map Nd.run) us):Nb us:=by
 cases rs with
 | nil=>cases h
 | cons r rs =>
  have k:=AhL (p:=Pat.knot) (by decide) (W r (by simp)).1 (fun c hc=>decide_eq_true ((W r (by simp)).2 c hc))
  generalize hts:(r::rs).map Nd.run=ts at h
  rw[Arx] at hts
  cases h with
  | one h =>
   have e:=(List.cons.inj hts).1
   subst e
   cases h with | run=>exact k.app
  | cons h _ =>
   have e:=(List.cons.inj hts).1
   subst e
   cases h with | run=>exact k.app.app
theorem AhO:∀{rs:List (List Nat)} {us l:List Nat} {k:Nat},(∀ r∈rs,r≠[]∧∀ c∈r,Sg c)→WtL (rs.map Nd.run) us→(∃ l',l=41::l')→us.length<k→∃ r rs',rs=r::rs'∧∃ l1,Pat.run (us++l)=some (r,l1)∧l1.length<us.length+l.length∧∀ k',l1.length<k'+l.length→Pat.Gm k' l1=some (rs',l)
 | [],us,l,k,_,h,hl,hk=>by cases h
 | r::rs,us,l,k,W,h,hl,hk=>by
  have w:=W r ArD
  generalize hts:(r::rs).map Nd.run=ts at h
  cases h with
  | one hu =>
   rename_i x
   have e:rs=[]:=by
    rw[Arx] at hts
    have:=(List.cons.inj hts).2
    exact List.map_eq_nil_iff.mp this
   subst e
   cases hts
   cases hu with
   | run =>
    rename_i g
    refine⟨r,[],rfl,l,Akj w.1 w.2 (.inr (by obtain⟨l',e⟩:=hl;exact⟨41,l',e,.inr rfl⟩)),?_,fun k' hk'=>?_⟩
    ·have:=List.length_pos_iff.mpr w.1
     rw[Arp]
     omega
    ·cases k' with
     | zero=>omega
     | succ k' =>
      unfold Pat.Gm
      obtain⟨l',e⟩:=hl
      rw[e]
      rfl
  | cons hu hs =>
   rename_i x u us xs g
   rw[Arx] at hts
   obtain⟨e1,e2⟩:=List.cons.inj hts
   subst e1
   subst e2
   cases hu with
   | run =>
    rename_i g0
    refine⟨r,rs,rfl,44::(bl g++us)++l,?_,?_,fun k' hk'=>?_⟩
    ·rw[ArQ]
     exact Akj w.1 w.2 (.inr ⟨44,(bl g++us)++l,rfl,.inl rfl⟩)
    ·have:=List.length_pos_iff.mpr w.1
     simp only [Arp,Ars]
     omega
    ·cases k' with
     | zero =>
      simp only [Arp,Ars] at hk'
      omega
     | succ k' =>
      obtain⟨r2,rs2,e,l1,e1,e2,e3⟩:=AhO (k:=us.length+1) (fun r hr=>W r (ArF _ hr)) hs hl (by omega)
      unfold Pat.Gm
      have o:Pat.one 44 (44::(bl g++us)++l)=some ((bl g++us)++l):=rfl
      rw[o]
      dsimp only
      have nb:Nb us:=AhN (fun r hr=>W r (ArF _ hr)) hs
      rw[ArQ,XD (.inr nb.app),e1]
      dsimp only
      rw[e3 k' (by simp only [Arp,Ars] at hk';omega)]
      rw[e]
      rfl
theorem AlS{rs:List (List Nat)}{us l:List Nat}(h0:rs.length≤40)(W:∀ r∈rs,r≠[]∧∀ c∈r,Sg c)(h:WtL (rs.map Nd.run) us):Pat.runs (us++41::l)=some (rs,41::l):=by
 obtain⟨r,rs',rfl,l1,e1,e2,e3⟩:=AhO (k:=us.length+1) W h ⟨l,rfl⟩ (by omega)
 unfold Pat.runs
 rw[e1]
 dsimp only
 rw[e3 (l1.length+1) (by omega)]
 dsimp only
 rw[if_neg (by omega)]
theorem AhP:∀{d:Nat} {x:Nd} {u l:List Nat},Wd d x→Wt x u→Stp l→Pat.node d (u++l)=some (x,l)
 | 0,x,u,l,W,h,hl=>by cases W
 | d+1,x,u,l,W,h,hl=>by
  cases h with
  | num=>cases W
  | run=>cases W
  | nam =>
   rename_i z g
   cases W with
   | nam hz =>
    have t:=ZS (p:=Pat.letter) (Yg hz).2 (hl.no (g:=g) (by decide) (by decide) (by decide))
    unfold Pat.node
    rw[ArQ,t.1,t.2,XD hl.nb]
    have o:Pat.one 40 l=none:=by
     rcases hl with rfl | ⟨c,l',rfl,hc⟩
     ·rfl
     ·show(if c=40 then some l' else none)=none
      rw[if_neg (by omega)]
    rw[o]
    dsimp only
    rw[if_pos hz]
  | node hs =>
   rename_i z ts us g1 g2 g3
   have wl:=Aco W
   have eu:z++(bl g1++(40::(bl g2++(us++(41::bl g3)))))++l=z++(bl g1++(40::(bl g2++(us++(41::(bl g3++l)))))):=by simp
   rw[eu]
   have t:=ZS (p:=Pat.letter) (b:=bl g1++(40::(bl g2++(us++(41::(bl g3++l)))))) wl.2 (by
    cases g1 with
    | zero=>exact .inr ⟨40,_,rfl,by decide⟩
    | succ g=>exact .inr ⟨32,_,rfl,by decide⟩)
   unfold Pat.node
   rw[t.1,t.2,XD (.inr ⟨40,_,rfl,by decide⟩)]
   have o:Pat.one 40 (40::(bl g2++(us++(41::(bl g3++l)))))=some (bl g2++(us++(41::(bl g3++l)))):=rfl
   rw[o]
   dsimp only
   have main:Pat.things (Pat.node d) z (Pat.sk (bl g2++(us++(41::(bl g3++l)))))=some (ts,41::(bl g3++l)):=by
    have st:Stp (41::(bl g3++l)):=.inr ⟨41,_,rfl,.inr rfl⟩
    have fin:∀{ks:List Nat},¬z=Pat.QF→Pat.wants z=some ks→Kds d ks ts→Pat.things (Pat.node d) z (Pat.sk (bl g2++(us++(41::(bl g3++l)))))=some (ts,41::(bl g3++l)):=fun {ks} hz hk K=>by
     rw[XD (.inr ((Akk K hs).app))]
     unfold Pat.things
     rw[if_neg hz,hk]
     exact AhM (fun w h hl=>AhP w h hl) K hs st
    cases W with
    | rows h1 h2 h3 =>
     rename_i rs
     have rr:=AlS (l:=bl g3++l) h2 h3 hs
     have nb:Nb us:=AhN h3 hs
     rw[XD (.inr nb.app)]
     unfold Pat.things
     rw[if_pos rfl,rr]
     rfl
    | nums w ha hb =>
     exact fin (ks:=[110,110]) (by rcases w with rfl | rfl <;> decide) (by rcases w with rfl | rfl <;> decide) ⟨⟨_,rfl,ha⟩,⟨_,rfl,hb⟩,trivial⟩
    | one w h=>exact fin (ks:=[112]) (by rcases w with rfl | rfl | rfl | rfl <;> decide) (by rcases w with rfl | rfl | rfl | rfl <;> decide) ⟨h,trivial⟩
    | two w h1 h2=>exact fin (ks:=[112,112]) (by rcases w with rfl | rfl | rfl <;> decide) (by rcases w with rfl | rfl | rfl <;> decide) ⟨h1,h2,trivial⟩
    | tile h ha hb=>exact fin (ks:=[112,110,110]) (by decide) (by decide) ⟨h,⟨_,rfl,ha⟩,⟨_,rfl,hb⟩,trivial⟩
    | blk h1 h2 h3=>exact fin (ks:=[112,112,112]) (by decide) (by decide) ⟨h1,h2,h3,trivial⟩
   rw[main]
   dsimp only
   have o2:Pat.one 41 (41::(bl g3++l))=some (bl g3++l):=rfl
   rw[o2]
   dsimp only
   rw[XD hl.nb]
theorem Akl{x:Nd}{u:List Nat}{g:Nat}(W:Wd 12 x)(h:Wt x u):Pat.whole (bl g++u)=some x:=by
 unfold Pat.whole
 rw[XD (.inr (AmL W h))]
 have:=AhP (l:=[]) W h (.inl rfl)
 rw[Asg] at this
 rw[this]
theorem AhQ{d:Nat}:∀{ts:List Nd},ts≠[]→(∀ x∈ts,Wt x (wr d x))→WtL ts (cj (ts.map (wr d)))
 | [],h,_=>absurd rfl h
 | [x],_,h=>by
  have:cj ([x].map (wr d))=wr d x:=by simp[cj]
  rw[this]
  exact .one (h x (by simp))
 | x::y::ts,_,h=>by
  have e:cj ((x::y::ts).map (wr d))=wr d x++(44::(bl 0++cj ((y::ts).map (wr d)))):=by simp[cj,bl]
  rw[e]
  exact .cons (h x (by simp)) (AhQ (by simp) fun z hz=>h z (ArF _ hz))
theorem Aeu{d n:Nat}:Wt (.num n) (wr d (.num n)):=by
 rw[AgK]
 have:=Wt.num (n:=n) (g:=0)
 rw[show dec n++bl 0=dec n from Asg _] at this
 exact this
theorem AnD{d:Nat}{r:List Nat}:Wt (.run r) (wr d (.run r)):=by
 rw[AgL]
 have:=Wt.run (r:=r) (g:=0)
 rw[show r++bl 0=r from Asg _] at this
 exact this
theorem AnE{d:Nat}{z:List Nat}:Wt (.nam z) (wr d (.nam z)):=by
 rw[Ack]
 have:=Wt.nam (z:=z) (g:=0)
 rw[show z++bl 0=z from Asg _] at this
 exact this
theorem Xk{d:Nat}{z:List Nat}{ts:List Nd}(h0:ts≠[])(h:∀ x∈ts,Wt x (wr d x)):Wt (.node z ts) (wr (d+1) (.node z ts)):=by
 have:=Wt.node (z:=z) (g1:=0) (g2:=0) (g3:=0) (AhQ h0 h)
 have e:z++(bl 0++(40::(bl 0++(cj (ts.map (wr d))++(41::bl 0)))))=wr (d+1) (.node z ts):=by
  show _=wz z (ts.map (wr d))
  unfold wz
  simp[bl]
 rw[e] at this
 exact this
theorem AaN:∀{d:Nat} {x:Nd},Wd d x→Wt x (wr d x)
 | 0,x,W=>by cases W
 | d+1,x,W=>by
  cases W with
  | nam h=>exact AnE
  | rows h1 h2 h3 =>
   refine Xk (fun e=>h1 (List.map_eq_nil_iff.mp e)) fun x hx=>?_
   obtain⟨r,_,rfl⟩:=List.mem_map.mp hx
   exact AnD
  | nums w ha hb =>
   refine Xk (by simp) fun x hx=>?_
   rcases List.mem_cons.mp hx with rfl | hx
   ·exact Aeu
   ·rw[List.mem_singleton.mp hx];exact Aeu
  | one w h =>
   refine Xk (by simp) fun x hx=>?_
   rw[List.mem_singleton.mp hx]
   exact AaN h
  | two w h1 h2 =>
   refine Xk (by simp) fun x hx=>?_
   rcases List.mem_cons.mp hx with rfl | hx
   ·exact AaN h1
   ·rw[List.mem_singleton.mp hx];exact AaN h2
  | tile h ha hb =>
   refine Xk (by simp) fun x hx=>?_
   rcases List.mem_cons.mp hx with rfl | hx
   ·exact AaN h
   ·rcases List.mem_cons.mp hx with rfl | hx
    ·exact Aeu
    ·rw[List.mem_singleton.mp hx];exact Aeu
  | blk h1 h2 h3 =>
   refine Xk (by simp) fun x hx=>?_
   rcases List.mem_cons.mp hx with rfl | hx
   ·exact AaN h1
   ·rcases List.mem_cons.mp hx with rfl | hx
    ·exact AaN h2
    ·rw[List.mem_singleton.mp hx];exact AaN h3
theorem AnF{kn:Kns}{x:Nd}{u:List Nat}{g:Nat}(W:Wd 12 x)(h:Wt x u):rdp kn (bl g++u)=(out kn 12 x,wr 12 x):=by
 unfold rdp
 rw[Akl W h]
theorem AnG{kn:Kns}{x:Nd}(W:Wd 12 x):rdp kn (wr 12 x)=(out kn 12 x,wr 12 x):=AnF (g:=0) W (AaN W)
end Mine
namespace L2
open PySem PySem.Spec PyProof.Rows
section
variable {X:Cx}{CX CX':CXT}{k k':Nat}{f f' C C':Addr}{fd fd':FuncData}{ps ps':List Str}{sp sp':Sp}{E:XK}{m:Str}{pos apos:Pos}{o:Expr}{ta:TE}
def Aqo (C C':Addr)(m:Str)(sp sp':Sp)(E:XK)(ta:TE):TE:=fun σ H Q=>ta σ H fun x H1=>∃ a dx fs,x=.ref a∧fs.lookup m=none ∧
 ((H1 a=some (.ins C dx fs)∧sp [x] H1 Q E)∨(H1 a=some (.ins C' dx fs)∧sp' [x] H1 Q E))
end
open PySem PySem.Spec PyProof.Rows
section
variable {X:Cx}{CX:CXT}{k:Nat}{f:Addr}{fd:FuncData}{ps:List Str}{sp:Sp}{E:XK}{m:Str}{pos apos:Pos}{o e:Expr}{es:List Expr}{ta:TE}{t:TA}{dvs:List V}{ds:List Value}
def AnH (K:PySem.W.Frag)(m:Str)(f:Addr)(sp:Sp)(E:XK)(ta:TE):TE:=fun σ H Q=>ta σ H fun x H1=>∃ a dx fs C,x=.ref a∧H1 a=some (.ins C dx fs)∧fs.lookup m=none∧Cls K C∧Meth K C m f∧sp [x] H1 Q E
theorem Bl{pl:Sem Bool}{K:PySem.W.Frag}(hK:K=X.K)(he:PE X o ta)(F:Aj X.prog X.w X.K X.mg X.base CX k f fd ps sp)(hr:Mu k X.A)(hb:Binds X.K fd ps [])(hx:Passes CX X E)
  (ht:eval (.Call (.Attribute o m apos) [] [] pos) X.env=(do
   let ov ← eval o X.env
   standAt apos.atName
   let (f,first) ← holding [ov] (getMethod ov m pl)
   callWith pos f first (backTo pos (starEach [] X.env)) (backToKw pos (keywordEach [] X.env))):=by rfl) :
  PE X (.Call (.Attribute o m apos) [] [] pos) (AnH K m f sp E ta):=by
 subst hK
 intro pins s σ H Q I h
 refine PySem.W.methodCall_KW (pl:=pl) (thn (he pins s σ H _ I h) fun u s1 ⟨x,H1,I1,rx,a,dx,fs,C,ex,ea,l,c,hm,q⟩=>?_) ht
 subst ex
 obtain rfl:u=Value.ref a:=rx
 refine XR I1 ea c hm l ?_
 exact PySem.W.callWith_K0 (first:=[.ref a]) I1.kIn hm.kp (AbL (us:=[.ref a]) (vs:=[.ref a]) F hr hb .nil hx I1 (.cons rfl .nil) (by simpa using q))
def Apy (K:PySem.W.Frag)(m:Str)(f:Addr)(sp:Sp)(E:XK)(ta:TE)(t:TA):TE:=fun σ H Q=>ta σ H fun x H1=>∃ a dx fs C,x=.ref a∧H1 a=some (.ins C dx fs)∧fs.lookup m=none∧Cls K C∧Meth K C m f∧t σ H1 fun vs H2=>sp (x::vs) H2 Q E
end
open PySem PySem.Spec PyProof.Rows
def vB (bs:List Bool):List V:=bs.map V.bl
theorem AgR(bs:List Bool):(vB bs).length=bs.length:=by unfold vB;rw[Arq]
theorem AgS(bs:List Bool)(b:Bool):vB bs++[.bl b]=vB (bs++[b]):=by unfold vB;rw[Arz];rfl
theorem Acp{bs:List Bool}:∀{us:List Value},Vals (bs.map V.bl) us→us=bs.map Value.bool:=by
 induction bs with
 | nil=>intro us r;rw[ArT] at r;cases r;rfl
 | cons n ns ih =>
  intro us r
  rw[Arx] at r
  cases r with
  | cons r1 r2 =>
   cases r1
   rw[ih r2]
   rfl
theorem any_range(bs:List Bool):(List.range bs.length).any (fun i=>bs.getD i false)=bs.any id:=by
 rw[Ass,List.any_eq_true,List.any_eq_true]
 constructor
 ·rintro⟨i,hi,h⟩
  have hl:=List.mem_range.mp hi
  refine⟨bs[i],ArG hl,?_⟩
  rw[ArN,Aru hl] at h
  exact h
 ·rintro⟨b,hb,h⟩
  obtain⟨i,hi,e⟩:=List.getElem_of_mem hb
  refine⟨i,List.mem_range.mpr hi,?_⟩
  rw[ArN,Aru hi,e]
  exact h
section
variable {X:Cx}{K:PySem.W.Frag}
theorem AdJ(hK:X.K=K:=by rfl)(hc:X.calm=true:=by rfl):R3 X (.builtin "any") (fun xs H Q=>∃ a bs,xs=[.ref a]∧SqL K H a (vB bs)∧Q (.bl (bs.any id)) H):=by
 subst hK
 intro pins s σ H xs us Q I rv h
 obtain⟨a,bs,rfl,hq,q⟩:=h
 obtain⟨u,rfl,ru⟩:=rv.one
 cases ru
 obtain⟨its,r,pl,hl⟩:=I.list hq
 have ei:=Acp (bs:=bs) r
 subst ei
 obtain⟨o,eo,_⟩:=id pl.isList
 have alt:=Heap.lt_size eo
 refine call_any_walk (wpAny_pyIter_list pl.isList ?_)
 refine⟨_,_,_,_,_,_,fun i=>bs.getD i false,rfl,Walks.list (A:=X.A.in1) (I.ok.hd hc) _ a (Arw alt) (bs.map Value.bool).toArray,⟨⟨_,Heap.get?_push_size _ rfl,rfl,rfl⟩,pl.isList.push _⟩,?_,fun h' tk hk=>?_⟩
 ·intro i v s' Q' E' hP hQ
  have hv:(bs.map Value.bool)[i]?=some v:=by simpa using hP
  rw[Ar6] at hv
  cases e:bs[i]? with
  | none=>rw[e] at hv;cases hv
  | some b =>
   rw[e] at hv
   cases hv
   have eb:bs.getD i false=b:=by rw[ArN,e];rfl
   have hQ':Q' (bs.getD i false) s':=hQ
   rw[eb] at hQ'
   exact wpAny_truthy_bool hQ'
 ·have e1:(List.range ((bs.map Value.bool).toArray).size).any (fun i=>bs.getD i false)=bs.any id:=by
   rw[Ar0,Arq]
   exact any_range bs
  rw[e1]
  refine⟨.bl (bs.any id),H,I.kept (t':=tk) (fun b ob e=>hk b ob ?_ (Heap.get?_push_of_some _ e)),rfl,q⟩
  have lt:=Heap.lt_size e
  intro hm
  rw[List.mem_singleton.mp hm] at lt
  exact Ar8 _ lt
end
open PySem PySem.Spec PyProof.Rows
theorem all_range(bs:List Bool):(List.range bs.length).all (fun i=>bs.getD i false)=bs.all id:=by
 rw[Ass,AsA,AsA]
 constructor
 ·rintro h b hb
  obtain⟨i,hi,e⟩:=List.getElem_of_mem hb
  have:=h i (List.mem_range.mpr hi)
  rw[ArN,Aru hi,e] at this
  exact this
 ·rintro h i hi
  have hl:=List.mem_range.mp hi
  rw[ArN,Aru hl]
  exact h _ (ArG hl)
section
variable {X:Cx}{K:PySem.W.Frag}
theorem AiL(hK:X.K=K:=by rfl)(hc:X.calm=true:=by rfl):R3 X (.builtin "all") (fun xs H Q=>∃ a bs,xs=[.ref a]∧SqL K H a (vB bs)∧Q (.bl (bs.all id)) H):=by
 subst hK
 intro pins s σ H xs us Q I rv h
 obtain⟨a,bs,rfl,hq,q⟩:=h
 obtain⟨u,rfl,ru⟩:=rv.one
 cases ru
 obtain⟨its,r,pl,hl⟩:=I.list hq
 have ei:=Acp (bs:=bs) r
 subst ei
 obtain⟨o,eo,_⟩:=id pl.isList
 have alt:=Heap.lt_size eo
 refine call_all_walk (wpAny_pyIter_list pl.isList ?_)
 refine⟨_,_,_,_,_,_,fun i=>bs.getD i false,rfl,Walks.list (A:=X.A.in1) (I.ok.hd hc) _ a (Arw alt) (bs.map Value.bool).toArray,⟨⟨_,Heap.get?_push_size _ rfl,rfl,rfl⟩,pl.isList.push _⟩,?_,fun h' tk hk=>?_⟩
 ·intro i v s' Q' E' hP hQ
  have hv:(bs.map Value.bool)[i]?=some v:=by simpa using hP
  rw[Ar6] at hv
  cases e:bs[i]? with
  | none=>rw[e] at hv;cases hv
  | some b =>
   rw[e] at hv
   cases hv
   have eb:bs.getD i false=b:=by rw[ArN,e];rfl
   have hQ':Q' (bs.getD i false) s':=hQ
   rw[eb] at hQ'
   exact wpAny_truthy_bool hQ'
 ·have e1:(List.range ((bs.map Value.bool).toArray).size).all (fun i=>bs.getD i false)=bs.all id:=by
   rw[Ar0,Arq]
   exact all_range bs
  rw[e1]
  refine⟨.bl (bs.all id),H,I.kept (t':=tk) (fun b ob e=>hk b ob ?_ (Heap.get?_push_of_some _ e)),rfl,q⟩
  have lt:=Heap.lt_size e
  intro hm
  rw[List.mem_singleton.mp hm] at lt
  exact Ar8 _ lt
end
open PySem PySem.Spec PyProof.Rows
def Ari (K:PySem.W.Frag)(n:Nat)(t:TGs):TG:=fun v σ H Q=>∃ a xs,v=.ref a∧SqL K H a xs∧xs.length=n∧t xs σ H Q
section
variable {X:Cx}{K:PySem.W.Frag}{pos:Pos}
end
open PySem PySem.Spec PyProof.Rows
structure Va (X:Cx) (x x':Str) (Nc:List Str) (Bp:List Nat) (scope:Scope):Prop where
 kind:scope.kind=.function
 cell:∀ y∈scope.names,y.2≠.cell
 names:∀ y∈scope.names,y.2=.local→scope.names.lookup y.1=some .local
 fr:∀ y∈scope.names,y.2=.free→X.env.scope.names.lookup y.1=some .cell∧scope.names.lookup y.1=some .free
 loc:scope.names.lookup x=some .local
 AoV:scope.names.lookup x'=some .local
 len:Nc.length=Bp.length+2
 hd:Nc[0]?=some x
 hd2:Nc[1]?=some x'
 nd:Nc.Nodup
 cap:∀ k j,Bp[k]?=some j→∃ y,Nc[k+2]?=some y∧X.N[j]?=some y∧scope.names.lookup y=some .free
def Aev (K:PySem.W.Frag)(Bp:List Nat)(tc:TT)(te:TE)(J:It)(σ:St)(H:Hp)(Q:VK):Prop :=
 ∃ W:Nat→Nat→List V→Hp→Prop,(∃ m,W 0 m [] H)∧∀ i m ys H,W i m ys H →
  (J.stop i H∧ys.length≤sizeLine∧∀ p,H p=none→Q (.ref p) (upd H p (.lst ys))) ∨
  (J.go i H∧ys.length<sizeLine∧∀ x H',J.yld i H x H'→∃ a u v,x=.ref a∧SqT K H' a [u,v]∧tc (some u::some v::Ig σ Bp) H' fun b H2 =>
   if b=true then te (some u::some v::Ig σ Bp) H2 fun y H3=>∃ m',m'<m∧W (i+1) m' (ys++[y]) H3 else ∃ m',m'<m∧W (i+1) m' ys H2)
def Akm (K:PySem.W.Frag)(wi:TI)(Bp:List Nat)(tc:TT)(te:TE):TE:=fun σ H Q=>wi σ H fun J H1=>Aev K Bp tc te J σ H1 Q
section
variable {X:Cx}{pins:List (Addr × Obj)}{σ:St}{H:Hp}{s:Shared}
theorem Akn{x x':Str}{Nc:List Str}{Bp:List Nat}{scope:Scope}{cl:List (Str × Addr)}{C:Addr}{fp:List Addr}(I:Inv X pins σ H s)(O:Va X x x' Nc Bp scope)
  (hcl:∀ x c,cl.lookup x=some c→X.env.cells.lookup x=some c∧(x,NameKind.free)∈scope.names) (SJ:∀ x,(x,NameKind.free)∈scope.names→cl.lookup x=X.env.cells.lookup x)
  (hC:s.heap.objs.size≤C) (hfp:∀ b∈fp,Ou X pins H b) (hfo:∀ b∈fp,b<s.heap.objs.size):(Js X Nc scope cl C fp s H).Ok where
 mod:=I.ok.mod
 kind:=O.kind
 glob:=I.ok.glob
 blt:=I.ok.blt
 above:=hC
 inj:=fun a b c e1 e2=>I.ok.inj a b c (hcl a c e1).1 (hcl b c e2).1
 has:=fun y hy=>by
  have mem:(y,NameKind.free)∈scope.names:=by
   have hy':((relabel scope X.env).names.lookup y=some .cell)∨((relabel scope X.env).names.lookup y=some .free):=hy
   have hm:∃ k,(y,k)∈(relabel scope X.env).names∧(k=.cell∨k=.free):=by
    rcases hy' with h | h
    ·exact⟨_,PySem.mem_of_lookup h,.inl rfl⟩
    ·exact⟨_,PySem.mem_of_lookup h,.inr rfl⟩
   obtain⟨k,hm,hk⟩:=hm
   obtain⟨⟨n,k'⟩,hm',e⟩:=List.mem_map.mp hm
   dsimp only at e
   by_cases hc:(k' == NameKind.free && X.env.scope.kind == .function && X.env.kindOf n == some .cell)=true
   ·rw[if_pos hc] at e
    injection e with e1 _
    subst e1
    have:k'=.free:=by
     have:=(ArP _ _▸(ArP _ _▸hc).1).1
     simpa using this
    subst this
    exact hm'
   ·rw[if_neg hc] at e
    injection e with e1 e2
    subst e1 e2
    rcases hk with hk | hk
    ·subst hk;exact absurd rfl (O.cell _ hm')
    ·subst hk;exact hm'
  obtain⟨c,e⟩:=I.ok.has y (.inl (O.fr _ mem rfl).1)
  exact⟨c,(SJ y mem).trans e⟩
 cab:=fun _ _ z=>nomatch z
 hd:=I.ok.hd
 frames:=I.ok.frames
 stk:=.inl rfl
 exf:=fun b hb=>⟨Arw (Ary (hfo b hb) hC),fun y c e=>(hfp b hb).2.2.2.2.1 y c (hcl y c e).1⟩
 bs:=I.bs
 bsz:=ArC I.ok.bsz I.sz
 AaU:=fun b o e hb=>by
  rcases(hfp b hb).2.2.2.1 with z | z
  ·exact I.ok.AaU b o e z
  ·exact absurd (Ary (Heap.lt_size e) (ArC I.ok.bsz z)) (Ar8 _)
 Z9:=fun b hb z=>by
  rcases List.mem_cons.mp (I.ZC b z) with e | e
  ·exact(hfp b hb).2.1 e
  ·exact(hfp b hb).2.2.1 e
 VG:=I.stack
 frf:=I.Xa
theorem AfA{x x':Str}{Nc:List Str}{Bp:List Nat}{scope:Scope}{cl:List (Str × Addr)}{C:Addr}{fp:List Addr}{h':Heap}{tk:Nat}{m0:Str→Option Value}(I:Inv X pins σ H s)(O:Va X x x' Nc Bp scope)
  (hcl:∀ x c,cl.lookup x=some c→X.env.cells.lookup x=some c∧(x,NameKind.free)∈scope.names) (SJ:∀ x,(x,NameKind.free)∈scope.names→cl.lookup x=X.env.cells.lookup x)
  (hC:s.heap.objs.size≤C) (hfp:∀ b∈fp,Ou X pins H b) (hfo:∀ b∈fp,b<s.heap.objs.size)
  (old:∀ b o,s.heap.get? b=some o→h'.get? b=some o) (hns:h'.Ns C m0) :
  Inv (Js X Nc scope cl C fp s H) [] (none::none::Ig σ Bp) H { s with heap:=h',toks:=tk } where
 ok:=Akn I O hcl SJ hC hfp hfo
 os:=rfl
 bare:=I.bare
 base:=Un.kept old
 loc:=by
  refine⟨m0,hns,fun i y v hN hσ hv=>?_⟩
  match i with
  | 0=>simp at hσ
  | 1=>simp at hσ
  | k+2 =>
   rw[Asw,Asw] at hσ
   obtain⟨j,hj,hs⟩:=AbP hσ
   obtain⟨z,hz1,hz2,hz3⟩:=O.cap k j hj
   have hN':Nc[k+2]?=some y:=hN
   rw[hz1] at hN'
   cases hN'
   have mem:(y,NameKind.free)∈scope.names:=PySem.mem_of_lookup hz3
   have hk:=(O.fr _ mem rfl).1
   obtain⟨m,hn,hl⟩:=I.loc
   obtain⟨u,r,l⟩:=hl j y v hz2 hs (.inr (.inl hk))
   refine⟨u,r,?_⟩
   rcases l with ⟨k',_⟩ | ⟨_,c,hc,z⟩
   ·have k'':X.env.scope.names.lookup y=some .local:=k'
    rw[hk] at k'';cases k''
   ·obtain⟨o,ho,hd⟩:=z
    exact .inr ⟨.inl (Io I.ok.kind hz3 hk),c,(SJ y mem).trans hc,o,old _ _ ho,hd⟩
 cell:=fun y c e=>by
  obtain⟨v,o,ho,hd⟩:=I.cell y c (hcl y c e).1
  exact⟨v,o,old _ _ ho,hd⟩
 free:=I.hok.fresh hC
 Q7:=fun y c e=>I.Q7 y c (hcl y c e).1
 pin:=fun p hp=>absurd (show p∈([]:List (Addr × Obj)) from hp) (by simp)
 hok:=I.hok.kept old
 len:=by
  show(none::none::Ig σ Bp).length=Nc.length
  rw[Ars,Ars,AbO,O.len]
theorem AfB{x x':Str}{px px' tp:Pos}{kx:Nat}{Nc:List Str}{Bp:List Nat}{scope:Scope}{cl:List (Str × Addr)}{iter elt:Expr}{ifs:List Expr}{pos:Pos}{tc:TT}{te:TE}{Q:VK}{it:Addr}{fp:List Addr}{tn:Nat→Heap→Prop}{J:It}
  {RR:Value→Addr→Result→Shared→Prop}{E:Value→Shared→Prop}
  (O:Va X x x' Nc Bp scope) (hc:X.calm=true)
  (hcl:∀ x c,cl.lookup x=some c→X.env.cells.lookup x=some c∧(x,NameKind.free)∈scope.names) (SJ:∀ x,(x,NameKind.free)∈scope.names→cl.lookup x=X.env.cells.lookup x)
  (hte:∀ C fp s H,PE (Js X Nc scope cl C fp s H) elt te) (htc:∀ C fp s H,PIf (Js X Nc scope cl C fp s H) ifs tc)
  (I:Inv X pins σ H s) (T:Turn X.prog X.w X.K (.Tuple [.Name x px,.Name x' px'] kx tp) J fp it tn) (st:tn 0 s.heap) (hfp:∀ b∈fp,Ou X pins H b) (h:Aev X.K Bp tc te J σ H Q)
  (hRR:∀(D C:Addr) (s':Shared) (m:Str→Option Value),s'.heap.Ns C m→(∀ h',Heap.SameBut C s'.heap h'→∃ H',Inv X pins σ H' { s' with heap:=h' }∧H' C=none∧Q (.ref D) H') →
   s.heap.objs.size≤C→RR (.ref D) C (.ok .next) s') :
  wpAny (model X.prog X.w) X.A (newList []) (fun acc s₃=>wpAny (model X.prog X.w) X.A (newFunctionEnv scope X.env.globals cl [] X.env.qual none .none (some X.env)) (fun cenv s₄ =>
   codeAny (model X.prog X.w) X.A (.compStart (.ListComp elt [⟨(.Tuple [.Name x px,.Name x' px'] kx tp),iter,ifs,0⟩] scope pos) 0 (.ref it) acc { cenv with scope:=relabel scope X.env }) (RR acc cenv.locals) s₄) E s₃) E s:=by
 refine wpAny_newObj_type (wpAny_newFunctionEnv O.cell (by intro y hy;simp at hy) (fun h₁ hns₁ hsb₁=>?_) O.kind)
 dsimp only at hns₁ hsb₁ ⊢
 generalize hH2:s.heap.push { cls:=.type "list", dict:=none,data:=.seq ([]:List Value).toArray }=H2 at hns₁ hsb₁ ⊢
 have hC:H2.objs.size=s.heap.objs.size+1:=by rw[← hH2,Heap.size_push]
 have hCle:s.heap.objs.size≤H2.objs.size:=by rw[hC];exact ArZ _
 have hDC:s.heap.objs.size≠H2.objs.size:=by rw[hC];exact Arw (Asf _)
 have below:∀ b,b<s.heap.objs.size→b≠H2.objs.size∧b≠s.heap.objs.size:=fun b hb=>⟨by rw[hC];exact Arw (Asx hb),Arw hb⟩
 have old:∀ b o,s.heap.get? b=some o→h₁.get? b=some o:=fun b o e=>hsb₁.extBut b o (below b (Heap.lt_size e)).1 (Heap.get?_push_of_some _ (hH2▸Heap.get?_push_of_some _ e))
 have hacc:h₁.get? s.heap.objs.size=some (Ks [] 0):=hsb₁.extBut _ _ hDC (Heap.get?_push_of_some _ (hH2▸Heap.get?_push_size _ rfl))
 have hfo:∀ b∈fp,b<s.heap.objs.size:=fun b hb=>by
  obtain⟨o,e,_⟩:=T.obj _ _ st b hb
  exact Heap.lt_size e
 have st1:tn 0 h₁:=T.keep _ _ _ st fun b _ o e=>old b o e
 generalize hDD:s.heap.objs.size=D at *
 generalize hCC:H2.objs.size=C at *
 have Afl:D≤C:=hCle
 let Y:Cx:=Js X Nc scope cl C fp s H
 have I0:Inv Y [] (none::none::Ig σ Bp) H { s with heap:=h₁,toks:=s.toks+([]:List (Str × Value)).length }:=AfA I O hcl SJ (by rw[hDD];exact hCle) hfp (fun b hb=>by rw[hDD];exact hfo b hb) old hns₁
 have AbS:H D=none:=by rw[← hDD];exact I.hok.fresh (Art _)
 have U5:D≠C:=hDC
 have Dfs:D∉Y.fs:=fun z=>by
  have:=I.stack.mem (show D∈frs X.stack from z)
  obtain⟨_,o,e,_⟩:=this
  have:=Heap.lt_size e
  rw[hDD] at this
  exact Ar8 _ this
 have AbT:∀ y c,Y.env.cells.lookup y=some c→c≠D:=fun y c e z=>by
  obtain⟨v,q⟩:=I.cell y c (hcl y c e).1
  have:=q.lt
  rw[z,hDD] at this
  exact Ar8 _ this
 have Dfp:∀ b∈fp,b≠D:=fun b hb=>Arw (hfo b hb)
 have fpY:∀{H':Hp},(∀ b∈fp,H' b=none)→∀ b∈fp,Ou Y [] H' b:=fun hn b hb =>
  ⟨hn b hb,Arw (Ary (hfo b hb) Afl),fun z=>I0.ok.Z9 b hb z,.inl hb,fun y c e=>(I0.ok.exf b hb).2 y c e,fun p hp=>absurd (show p∈([]:List (Addr × Obj)) from hp) (by simp)⟩
 obtain⟨W,⟨m0,w0⟩,turn⟩:=h
 have loop:∀ s₃:Shared,s₃={ s with heap:=h₁,toks:=s.toks+([]:List (Str × Value)).length } →
   codeAny (model X.prog X.w) X.A (.compLoop (.ListComp elt [⟨(.Tuple [.Name x px,.Name x' px'] kx tp),iter,ifs,0⟩] scope pos) 0 (.ref it) (.ref D) (compEnvC scope cl C X.env)) (RR (.ref D) C) s₃:=by
  rintro s₃ rfl
  refine Rm (fun n s'=>∃(i:Nat) (o o':Option V) (H':Hp) (ys:List V) (us:List Value) (k:Nat),Inv Y [] (o::o'::Ig σ Bp) H' s'∧tn i s'.heap∧(∀ b∈fp,H' b=none)∧s'.heap.get? D=some (Ks us k)∧H' D=none∧Vals ys us∧W i n ys H')
   ?_ m0 ⟨0,none,none,H,[],[],0,I0,st1,fun b hb=>(hfp b hb).1,hacc,AbS,.nil,w0⟩
  rintro n s3 ⟨i,o3,o3',H3,ys,us,k,I3,st3,fr3,hD3,nD3,rv,w3⟩
  have fpP:∀{H':Hp} {ob:Obj},(∀ b∈fp,H' b=none)→∀ b∈fp,Ou Y [(D,ob)] H' b:=fun hn b hb=>by
   obtain⟨g0,g1,g2,g3,g4,_⟩:=fpY hn b hb
   refine⟨g0,g1,g2,g3,g4,fun p hp=>?_⟩
   have e:p=(D,_):=List.mem_singleton.mp (show p∈[(D,_)] from hp)
   rw[e]
   exact Ne.symm (Dfp b hb)
  have IP:Inv Y [(D,Ks us k)] (o3::o3'::Ig σ Bp) H3 s3:=I3.JX fun p hp=>by
   have e:p=(D,Ks us k):=List.mem_singleton.mp hp
   subst e
   exact⟨hD3,nD3,U5,Dfs,fun v z=>by cases z⟩
  have XS:∀{σ':St} {H':Hp} {s':Shared} {pl:List (Addr × Obj)},Inv Y ([(D,Ks us k)]++pl) σ' H' s'→s'.heap.get? D=some (Ks us k)∧H' D=none:=fun I'=>by
   have z:=I'.pin (D,Ks us k) (ArA _ (Asr _ ArD))
   exact⟨z.1,z.2.1⟩
  rcases turn i n ys H3 w3 with ⟨stop,hlen,fin⟩ | ⟨go,hlen,step⟩
  ·
   refine wpAny_mono (T.done Y rfl rfl rfl hc i _ s3 _ H3 (fun _ _=>False) IP (fpP fr3) st3 stop) (fun r s4 hr=>?_) fun _ _ z=>z.elim
   obtain⟨hr,I4⟩:=hr
   subst hr
   obtain⟨gD,nD⟩:=XS (pl:=[]) (by simpa using I4)
   obtain⟨m,hn,_⟩:=I4.loc
   refine hRR D C s4 m hn (fun h' hs'=>⟨upd H3 D (.lst ys),?_,(Ba (Ne.symm U5)).trans I4.free,fin D nD⟩) hCle
   have nt:∀ b ob,H3 b=some ob→b≠C:=fun b ob e z=>by
    have:=I4.free
    rw[z] at e
    rw[show H3 C=none from this] at e
    cases e
   have u1:Un (frs X.stack) fp H H3 s.heap h':=Un.but I4.base hs' (show s.heap.objs.size≤C by rw[hDD];exact hCle)
   have ok1:HOk X.prog X.w H3 h':=fun b ob e=>(I4.hok b ob e).stay (fun c v hc q=>(hs'.2 c (by
    rcases hc with z | z
    ·rw[z];exact nt b ob e
    ·exact nt c _ z)).trans q) (fun _ q=>q) fun _ _ q=>q
   have gD':h'.get? D=some (Ks us k):=(hs'.2 D U5).trans gD
   exact I.call' (s':={ s4 with heap:=h' }) (ch:=fp) I4.os (u1.track (ArW hDD) nD) (ok1.track nD ⟨hlen,us,k,rv,gD'⟩) I4.bare fun b hb=>by
    obtain⟨_,g1,_,g3,g4,g5⟩:=hfp b hb
    exact⟨g3,g1,g4,g5⟩
  ·
   refine wpAny_mono (T.item Y rfl rfl rfl hc i _ s3 _ H3 (fun _ _=>False) IP (fpP fr3) st3 go) (fun r s4 hr=>?_) fun _ _ z=>z.elim
   obtain⟨u0,hr,h4⟩:=hr
   subst hr
   refine wpAny_mono h4 (fun _ s5 h5=>?_) fun _ _ z=>z.elim
   obtain⟨x5,H5,I5,r5,y5,st5,fr5⟩:=h5
   have I5':=I5.pinned (fpP fr5) (T.obj _ _ st5)
   have n1:PG Y (.Name x px) (R1 0):=Dq (i:=0) O.nd O.hd (.inl (DG I.ok.kind O.loc (by intro z;cases z))) (.inr (DG I.ok.kind O.loc (by intro z;cases z)))
   have n2:PG Y (.Name x' px') (R1 1):=Dq (i:=1) O.nd O.hd2 (.inl (DG I.ok.kind O.AoV (by intro z;cases z))) (.inr (DG I.ok.kind O.AoV (by intro z;cases z)))
   have tgt:PG Y (.Tuple [.Name x px,.Name x' px'] kx tp) (Aot Y.K 2 (Ajw (R1 0) (Ajw (R1 1) Aos))):=ZD hc (J1 n1 (J1 n2 Xd))
   obtain⟨aT,uT,vT,rfl,hT,stepT⟩:=step x5 _ y5
   refine wpAny_mono (tgt _ s5 _ H5 (.ref aT) u0 (fun σ2 H2=>σ2=some uT::some vT::Ig σ Bp∧H2=H5) I5' r5 ⟨aT,[uT,vT],rfl,hT,rfl,uT,[vT],rfl,vT,[],rfl,rfl,rfl,rfl⟩) (fun _ s6 h6=>?_) fun _ _ z=>z.elim
   obtain⟨_,_,I6,rfl,rfl⟩:=h6
   refine wpAny_mono ((htc C fp s H).run I6 stepT) (fun b s7 h7=>?_) fun _ _ z=>z.elim
   obtain⟨H7,I7,q7⟩:=h7
   have VN:∀{σ':St} {H':Hp} {s':Shared},Inv Y ([(D,Ks us k)]++VH fp s5.heap) σ' H' s'→tn (i+1) s'.heap∧∀ b∈fp,H' b=none:=fun I' =>
    ⟨T.keep _ _ _ st5 fun b hb o e=>(I'.pin (b,o) (ArA _ (ArA _ (Ie hb e)))).1,fun b hb=>by
     obtain⟨o,e,d⟩:=T.obj _ _ st5 b hb
     exact(I'.pin (b,o) (ArA _ (ArA _ (Ie hb e)))).2.1⟩
   cases b with
   | false =>
    rw[if_neg Ar2] at q7
    rw[if_neg Ar2]
    obtain⟨m',hm,w7⟩:=q7
    obtain⟨gD,nD⟩:=XS I7
    obtain⟨k1,k2⟩:=VN I7
    exact⟨m',hm,i+1,some uT,some vT,H7,ys,us,k,I7.JX (fun p hp=>nomatch hp),k1,k2,gD,nD,rv,w7⟩
   | true =>
    rw[if_pos rfl] at q7
    rw[if_pos rfl]
    refine wpAny_mono (hte C fp s H _ s7 _ H7 _ I7 q7) (fun u8 s8 h8=>?_) fun _ _ z=>z.elim
    obtain⟨y8,H8,I8,r8,m',hm,w8⟩:=h8
    obtain⟨gD,nD⟩:=XS I8
    obtain⟨k1,k2⟩:=VN I8
    refine call_meets F.slot_list_append ⟨_,gD,rfl⟩ F.entry_list_append (F.args_list_append_2 _ _) (PySem.list_append D us.toArray k u8 (by rw[Ar0,← rv.length];omega)) ⟨gD,?_⟩
    have q:=PySem.IsL.update gD (·.push u8)
    have e1:us.toArray.push u8=(us++[u8]).toArray:=by simp
    rw[e1] at q
    have I8':Inv Y [] (some uT::some vT::Ig σ Bp) H8 s8:=I8.JX (fun p hp=>nomatch hp)
    have I9:Inv Y [] (some uT::some vT::Ig σ Bp) H8 { s8 with heap:=s8.heap.update D (Obj.mapSeq (·.push u8)),toks:=s8.toks } :=
     I8'.turned (it:=D) (fun b o hb e=>(Heap.get?_update_other s8.heap (Obj.mapSeq (·.push u8)) (Ne.symm hb)).trans e) nD U5 (.inr (ArW hDD)) AbT (fun p hp=>nomatch hp)
    refine⟨m',hm,i+1,some uT,some vT,H8,ys++[y8],us++[u8],_,I9,T.keep _ _ _ k1 fun b hb o e=>(Heap.get?_update_other s8.heap (Obj.mapSeq (·.push u8)) (Ne.symm (Dfp b hb))).trans e,k2,q,nD,rv.append (.cons r8 .nil),w8⟩
 exact codeAny_compStart_list (loop _ rfl) (T.self X.A 0 _ _ _ st1 (loop _ rfl))
theorem Ako{i:Nat}{y x x':Str}{px px' tp py pos spos:Pos}{kx:Nat}{Nc:List Str}{Bp:List Nat}{scope:Scope}{iter elt:Expr}{ifs:List Expr}{wi:TI}{tc:TT}{te:TE}(O:Va X x x' Nc Bp scope)(hc:X.calm=true)
  (hN:X.N.Nodup) (hy:X.N[i]?=some y) (hx:X.env.scope.names.lookup y=some .local) (hi:PI X (.Tuple [.Name x px,.Name x' px'] kx tp) iter wi)
  (htc:∀ cl C fp s H,PIf (Js X Nc scope cl C fp s H) ifs tc) (hte:∀ cl C fp s H,PE (Js X Nc scope cl C fp s H) elt te)
  (hsw:swapsWith (.ListComp elt [⟨(.Tuple [.Name x px,.Name x' px'] kx tp),iter,ifs,0⟩] scope pos) (some (.Name y py)) spos.line X.env=pure true) (hs:∀ x,foldedSetIterable iter X.env x=pure x:=by intro _;rfl) :
  PS X (.Assign [.Name y py] (.ListComp elt [⟨(.Tuple [.Name x px,.Name x' px'] kx tp),iter,ifs,0⟩] scope pos) spos) (Ags (Akm X.K wi Bp tc te) (R1 i)):=by
 intro pins s σ H Dn I h
 rw[exec_Assign_Name_used _ _ _ _ hsw]
 refine wpAny_bind (wpAny_standAt (wpAny_bind ?_))
 obtain⟨cl,e1,e2,e3⟩:=R6 (scope:=scope) (env:=X.env) fun y hy hf=>I.ok.has y.1 (.inl (O.fr y hy hf).1)
 show wpAny _ X.A (do let _ ← comprehension (.ListComp elt [⟨(.Tuple [.Name x px,.Name x' px'] kx tp),iter,ifs,0⟩] scope pos) scope X.env _ (newList []) false (eval iter X.env) (some (assign (.Name y py) X.env))) _ _ s
 refine wpAny_bind (wpAny_mono (wpAny_comprehension_free (use:=some (assign (.Name y py) X.env)) (Q:=fun _ s'=>SP X pins Dn .next s') rfl hs e1 O.kind O.names
  (thn (hi pins s σ H _ I h) fun v s1 h1=>thn h1 fun itv s2 h2=>?_)) (fun _ s' hq=>wpAny_pure (wpAny_pure hq)) fun _ _ e=>e)
 obtain⟨it,fp,tn,J,H2,e,I2,T,st2,f2,w2⟩:=h2
 subst e
 refine AfB (RR:=fun acc C=>compPost (model X.prog X.w) X.A X.xe (some (assign (.Name y py) X.env)) (fun _ s'=>SP X pins Dn .next s') acc C) O hc e2 e3 (hte cl) (htc cl) I2 T st2 f2 w2 ?_
 intro D C s' m hn hq hC
 show wpAny _ X.A (assign (.Name y py) X.env (.ref D)) _ _ _
 obtain⟨H',I',nC,q⟩:=hq s'.heap (.refl ..)
 have I'':Inv X pins σ H' s':=I'
 have CL:C≠X.env.locals:=ArY (Ary I2.lt hC)
 have AaK:∀ y c,X.env.cells.lookup y=some c→c≠C:=fun y c e z=>by
  obtain⟨v,q⟩:=I2.cell y c e
  have:=Ary q.lt hC
  rw[z] at this
  exact Ar8 _ this
 refine wpAny_assign_Name (Xb I'' hN hy (.inl hx) (show RelV (.ref D) (.ref D) from rfl) (fun s3 I3 hsb=>?_) (.inr hx))
 obtain⟨a,hsb,ha⟩:=hsb
 have aC:C≠a:=by
  rcases ha with z | z
  ·rw[z];exact CL
  ·exact Ne.symm (AaK _ _ z)
 refine⟨m,hn.sameBut hsb aC,fun h4 hs4=>?_⟩
 refine⟨_,H',I3.turned (it:=C) (t':=s3.toks) (fun b o hb e=>(hs4.2 b hb).trans e) nC CL (.inr (ArC I2.sz hC)) AaK (fun p hp z=>?_),q⟩
 ·have:=Ary (Heap.lt_size (I2.pin p hp).1) hC
  rw[z] at this
  exact Ar8 _ this
theorem AdK{K:PySem.W.Frag}{i:Nat}{y x x':Str}{px px' tp py pos spos:Pos}{kx:Nat}{Nc:List Str}{Bp:List Nat}{scope:Scope}{iter elt:Expr}{ifs:List Expr}{wi:TI}{tc:TT}{te:TE}(O:Va X x x' Nc Bp scope)(hc:X.calm=true)
  (hN:X.N.Nodup) (hy:X.N[i]?=some y) (hx:X.env.scope.names.lookup y=some .local) (hi:PI X (.Tuple [.Name x px,.Name x' px'] kx tp) iter wi)
  (htc:∀ cl C fp s H,PIf (Js X Nc scope cl C fp s H) ifs tc) (hte:∀ cl C fp s H,PE (Js X Nc scope cl C fp s H) elt te)
  (hsw:swapsWith (.ListComp elt [⟨(.Tuple [.Name x px,.Name x' px'] kx tp),iter,ifs,0⟩] scope pos) (some (.Name y py)) spos.line X.env=pure true) (hs:∀ x,foldedSetIterable iter X.env x=pure x:=by intro _;rfl) (hK:X.K=K:=by rfl) :
  PS X (.Assign [.Name y py] (.ListComp elt [⟨(.Tuple [.Name x px,.Name x' px'] kx tp),iter,ifs,0⟩] scope pos) spos) (Ags (Akm K wi Bp tc te) (R1 i)):=by
 subst hK
 exact Ako O hc hN hy hx hi htc hte hsw hs
theorem AfC{K:PySem.W.Frag}{S1 S2:Src}{n:Nat}{Bp:List Nat}{tc:TT}{te:TE}{σ:St}{H:Hp}{Q:VK}(f g:Nat→V)(Pv:Nat→List V→Hp→Prop)(h0:Pv 0 [] H)(hl:∀ i ys H,i≤n→Pv i ys H→ys.length≤i)
  (hz:n≤sizeLine) (h1:∀ i ys H,i<n→Pv i ys H→Wb K H S1 i (f i)) (h2:∀ i ys H,i<n→Pv i ys H→Wb K H S2 i (g i)) (hst:∀ ys H,Pv n ys H→(AlN K S1 S2).stop n H)
  (hs:∀ i ys H T,i<n→Pv i ys H→H T=none→Fq n Pv tc te (some (f i)::some (g i)::Ig σ Bp) i ys (upd H T (.tup [f i,g i])))
  (hd:∀ ys H p,Pv n ys H→H p=none→Q (.ref p) (upd H p (.lst ys))):Aev K Bp tc te (AlN K S1 S2) σ H Q:=by
 refine⟨fun i m ys H=>m=n-i∧i≤n∧Pv i ys H,⟨n,by simp,Ar9 _,h0⟩,?_⟩
 rintro i m ys H ⟨rfl,hi,p⟩
 have hy:=hl i ys H hi p
 by_cases hlt:i<n
 ·refine .inr ⟨⟨⟨_,h1 i ys H hlt p⟩,_,h2 i ys H hlt p⟩,by omega,fun x H' y=>?_⟩
  obtain⟨T,rfl,hT,e⟩:=y
  have e:=e _ _ (h1 i ys H hlt p) (h2 i ys H hlt p)
  subst e
  exact⟨T,f i,g i,rfl,SqT.of Ad,hs i ys H T hlt p hT⟩
 ·have e:i=n:=by omega
  subst e
  exact .inl ⟨hst ys H p,by omega,fun p' hp=>hd ys H p' p hp⟩
end
open PySem PySem.Spec PyProof.Rows
section
variable {X:Cx}
def AlT (K:PySem.W.Frag):V→List V→Hp→VK→Prop:=fun x vs H Q=>∃ a ns k,x=.ref a∧vs=[.int k]∧SqL K H a (vI ns)∧Q (.int (ns.count k:Nat)) H
theorem ZV{K:PySem.W.Frag}(hK:X.K=K:=by rfl):MtR X "list.count" (AlT K):=by
 subst hK
 intro pins s σ H x vs v us Q I rx rv h
 obtain⟨a,ns,k,rfl,rfl,hx,q⟩:=h
 cases rx
 obtain⟨u,rfl,ru⟩:=rv.one
 obtain⟨t,rfl⟩:=ru
 obtain⟨its,r,ht,hz⟩:=I.list hx
 refine PyProof.Rows.count_list_ints (ns:=ns) ht.isList (intsAre_of r) ?_
 exact⟨.int _,H,I.tok _,⟨_,rfl⟩,q⟩
end
def Ite (K:PySem.W.Frag)(a:Addr):It where
 go:=fun i H=>∃ xs x,SqL K H a xs∧xs[i]?=some x
 yld:=fun i H x H'=>∃ T,x=.ref T∧H T=none∧∀ xs u,SqL K H a xs→xs[i]?=some u→H'=upd H T (.tup [.int (i:Int),u])
 stop:=fun i H=>∃ xs,SqL K H a xs∧xs.length=i
def Aqp (e it a:Addr)(i:Nat)(h:Heap):Prop:=(∃ old,IsEnum h e it i old)∧h.IsListIter it a i
theorem AiM{P:Program}{w:World}{K:PySem.W.Frag}{es:List Expr}{kx:Nat}{tp:Pos}{e it a:Addr}(hei:e≠it)(hae:a≠e)(hai:a≠it) :
  Turn P w K (.Tuple es kx tp) (Ite K a) [e,it] e (Aqp e it a) where
 mem:=by simp
 obj:=fun i h st c hc=>by
  obtain⟨⟨old,s1⟩,s2⟩:=st
  simp only [Ar3,Ar4,or_false] at hc
  rcases hc with z | z
  ·subst z;exact⟨_,s1,fun v z=>by cases (show Data.fields _=Data.cell v from z)⟩
  ·subst z;obtain⟨o,e,_,d⟩:=s2;exact⟨o,e,fun v z=>by rw[d] at z;cases z⟩
 keep:=fun i h h' st k=>by
  obtain⟨⟨old,s1⟩,s2⟩:=st
  exact⟨⟨old,k _ (by simp) _ s1⟩,s2.at fun o e=>k _ (by simp) o e⟩
 item:=by
  intro X hP hw hK hc i pins s σ H E I hf st hg
  subst hP hw hK
  obtain⟨xs,x,hq1,hx⟩:=hg
  obtain⟨AaY,rv1,p1,_⟩:=I.list hq1
  obtain⟨u,hu,ru⟩:=rv1.get hx
  obtain⟨⟨old,s1⟩,s4⟩:=st
  have hlt:i<AaY.toArray.size:=by have:=(List.getElem?_eq_some_iff.mp hu).1;simpa using this
  have hh:X.A.in1.handled=none:=I.ok.hd hc
  refine wpAny_pyNext_enum_itemD (Draws.list hh it a hai AaY.toArray) s1 ⟨s4,p1.isList⟩ hlt hei (fun z=>?_) fun u' h1 tk hu' ho hst hT hsz kk=>?_
  ·simp only [Ar3,Ar4,or_false] at z
   rcases z with z | z
   ·exact hei z
   ·exact hae z.symm
  have hu2:AaY[i]?=some u':=by simpa using hu'
  rw[hu] at hu2
  cases hu2
  refine⟨_,rfl,wpAny_letOwnedTupleGo_enum ho fun h2 he2 sb=>?_⟩
  have sb:Heap.SameBut e h1 h2:=sb
  have el:e<s.heap.objs.size:=Heap.lt_size s1
  have il:it<s.heap.objs.size:=by obtain⟨_,e,_⟩:=s4;exact Heap.lt_size e
  have up:∀ c o,c≠e→h1.get? c=some o→h2.get? c=some o:=fun c o c1 z=>(sb.2 c c1).trans z
  have hTn:H s.heap.objs.size=none:=I.hok.fresh (Art _)
  have I1:Inv X pins σ (upd H s.heap.objs.size (.tup [.int (i:Int),x])) { s with heap:=s.heap.push { cls:=.type "tuple", data:=.seq #[.int i tk,u] },toks:=tk+1 } :=
   I.laid (fun c o e=>Heap.get?_push_of_some _ e) (Art _) ⟨by show 2≤sizeLine;decide,[.int i tk,u],.cons ⟨tk,rfl⟩ (.cons ru .nil),⟨_,Heap.get?_push_size _ rfl,rfl,_,rfl⟩⟩
  have fp2:∀ c∈[e,it],Ou X pins (upd H s.heap.objs.size (.tup [.int (i:Int),x])) c:=fun c hc=>by
   obtain⟨f0,f⟩:=hf c hc
   refine⟨?_,f⟩
   have lt:c<s.heap.objs.size:=by
    simp only [Ar3,Ar4,or_false] at hc
    rcases hc with e | e <;> subst e <;> assumption
   rw[Ba (Arw lt)]
   exact f0
  have I2:Inv X pins σ (upd H s.heap.objs.size (.tup [.int (i:Int),x])) { s with heap:=h2,toks:=tk+1 }:=by
   refine Inv.Xh (s:={ s with heap:=s.heap.push { cls:=.type "tuple", data:=.seq #[.int i tk,u] },toks:=tk+1 }) (h':=h2) (t':=tk+1) (its:=[e,it]) I1 (fun c o hc z=>?_) fp2
   simp only [Ar3,Ar4,or_false,not_or] at hc
   refine up c o hc.1 ?_
   by_cases hcs:c=s.heap.objs.size
   ·subst hcs
    have e':(s.heap.push { cls:=.type "tuple", data:=.seq #[.int i tk,u] }).get? s.heap.objs.size=some { cls:=.type "tuple", data:=.seq #[.int i tk,u] }:=Heap.get?_push_size _ rfl
    rw[e'] at z
    cases z
    exact hT
   ·have e':s.heap.get? c=some o:=by
     rw[← z]
     exact(Heap.get?_push_ne _ _ _ hcs).symm
    exact kk c o hc.1 hc.2 e'
  refine⟨.ref s.heap.objs.size,_,I2,rfl,⟨s.heap.objs.size,rfl,hTn,fun xs' u' a1 a3=>?_⟩,⟨⟨u,by simpa using he2⟩,hst.1.at fun o z=>up _ o hei.symm z⟩,fun c hc=>(fp2 c hc).1⟩
  rw[I.R0 a1 hq1,hx] at a3
  cases a3
  rfl
 done:=by
  intro X hP hw hK hc i pins s σ H E I hf st hg
  subst hP hw hK
  obtain⟨xs,hq1,hend⟩:=hg
  obtain⟨AaY,rv1,p1,_⟩:=I.list hq1
  have l1:=rv1.length
  obtain⟨⟨old,s1⟩,s4⟩:=st
  have hh:X.A.in1.handled=none:=I.ok.hd hc
  have en:i=AaY.toArray.size:=by simp;omega
  subst en
  refine wpAny_pyNext_enum_endD (Draws.list hh it a hai AaY.toArray) s1 ⟨s4,p1.isList⟩ fun h' kk=>⟨rfl,I.Xh (t':=s.toks) (its:=[e,it]) (fun c o hc z=>?_) hf⟩
  simp only [Ar3,Ar4,or_false,not_or] at hc
  exact kk c o hc.2 z
 self:=fun _ _ _ _ _ st h=>by obtain⟨⟨old,s1⟩,_⟩:=st;exact wpAny_pyIter_enum s1 h
section
variable {X:Cx}{es:List Expr}{kx:Nat}{tp:Pos}
def AoW (K:PySem.W.Frag)(ta:TA):TI:=fun σ H R=>ta σ H fun vs H1=>∃ a,vs=[.ref a]∧(∃ xs,SqL K H1 a xs)∧R (Ite K a) H1
theorem AlU{K:PySem.W.Frag}{a:Expr}{ta:TA}{p pos:Pos}(hg:Gl X "enumerate") (hm:X.mg "enumerate" = none) (ha:PA X [a] ta) (hK:X.K=K:=by rfl) (hs:starEach [a] X.env=[(false,eval a X.env)]:=by rfl) :
  PI X (.Tuple es kx tp) (.Call (.Name "enumerate" p) [a] [] pos) (AoW K ta):=by
 subst hK
 intro pins s σ H R I h
 refine Call_ (Pz I hg hm Aeh (PyProof.Rows.callWith_type1 (thn (ha pos pins s σ H _ I h) fun us s1 ⟨vs,H1,I1,r1,q1⟩=>?_) hs rfl))
 obtain⟨a,e,⟨xs,hq1⟩,q⟩:=q1
 subst e
 cases r1 with
 | cons r rr =>
  cases rr
  cases r
  obtain⟨AaY,rv1,p1,_⟩:=I1.list hq1
  obtain⟨o1,e1,_⟩:=id p1.isList
  have la:a<s1.heap.objs.size:=Heap.lt_size e1
  refine call_enumerate_list p1.isList fun h' he hi hsz kk=>wpAny_pyIter_enum he ?_
  refine⟨_,[s1.heap.objs.size+1,s1.heap.objs.size],_,_,H1,rfl,I1.kept (t':=s1.toks) kk,AiM (lne (Asf _) 0).symm (lne la 1) (lne la 0),⟨⟨_,he⟩,hi⟩,fun c hc=>?_,q⟩
  have le:s1.heap.objs.size≤c:=by
   simp only [Ar3,Ar4,or_false] at hc
   rcases hc with e | e <;> subst e <;> omega
  exact I1.Agt le (I1.hok.fresh le)
theorem Akp{K:PySem.W.Frag}{a:Addr}{xs:List V}{g:TG}{tb:TS}{D:Ends}{σ:St}{H:Hp}(Pv:Nat→St→Hp→Prop)(h0:Pv 0 σ H)(hl:∀ i σ H,Pv i σ H→SqL K H a xs)
  (hs:∀ i x σ H T,xs[i]?=some x→Pv i σ H→H T=none→g (.ref T) σ (upd H T (.tup [.int (i:Int),x])) fun σ2 H2=>tb { D with nx:=Pv (i+1),ct:=Pv (i+1),bk:=D.nx } σ2 H2) (hd:∀ σ H,Pv xs.length σ H→D.nx σ H) :
  ∃ W:Nat→Nat→St→Hp→Prop,(∃ m,W 0 m σ H)∧∀ i m σ H,W i m σ H →
   ((Ite K a).stop i H∧D.nx σ H)∨((Ite K a).go i H∧∃ N:St→Hp→Prop,(∀ σ' H',N σ' H'→∃ m',m'<m∧W (i+1) m' σ' H')∧∀ x H',(Ite K a).yld i H x H'→g x σ H' fun σ2 H2=>tb { D with nx:=N,ct:=N,bk:=D.nx } σ2 H2):=by
 refine⟨fun i m σ H=>m=xs.length-i∧i≤xs.length∧Pv i σ H,⟨xs.length,by simp,Ar9 _,h0⟩,?_⟩
 rintro i m σ H ⟨rfl,hi,p⟩
 have q1:=hl i σ H p
 by_cases hlt:i<xs.length
 ·refine .inr ⟨⟨xs,xs[i],q1,Aru hlt⟩,Pv (i+1),fun σ' H' p'=>⟨xs.length-(i+1),by omega,rfl,hlt,p'⟩,fun x H' y=>?_⟩
  obtain⟨T,rfl,hT,y⟩:=y
  have e:=y xs _ q1 (Aru hlt)
  subst e
  exact hs i _ σ H T (Aru hlt) p hT
 ·have e:i=xs.length:=by omega
  subst e
  exact .inl ⟨⟨xs,q1,rfl⟩,hd σ H p⟩
end
open PySem PySem.Spec PyProof.Rows
inductive Adb (K:PySem.W.Frag) (H:Hp):Nat→V→V→Prop where
 | flat {n:Nat} {x:V} (h:QB x=true):Adb K H n x x
 | lst {n:Nat} {p q:Addr} {xs ys:List V} (hp:SqL K H p xs) (hq:SqL K H q ys) (hl:xs.length=ys.length) (hi:∀(i:Nat) (x y:V),xs[i]?=some x→ys[i]?=some y→Adb K H n x y):Adb K H (n+1) (.ref p) (.ref q)
 | tup {n:Nat} {p q:Addr} {xs ys:List V} (hp:SqT K H p xs) (hq:SqT K H q ys) (hl:xs.length=ys.length) (hi:∀(i:Nat) (x y:V),xs[i]?=some x→ys[i]?=some y→Adb K H n x y):Adb K H (n+1) (.ref p) (.ref q)
section
variable {X:Cx}{K:PySem.W.Frag}
theorem Um{xs:List V}{us:List Value}(r:Vals xs us){j:Nat}(h:j<us.toArray.size):∃ x,xs[j]?=some x∧RelV x us.toArray[j]:=by
 have l:=r.length
 simp only [Ar0] at h
 obtain⟨u,e,q⟩:=r.get (i:=j) (x:=xs[j]) (by simp[show j<xs.length by omega])
 refine⟨xs[j],by simp[show j<xs.length by omega],?_⟩
 have:us.toArray[j]=u:=by
  have h2:us.toArray[j]?=some u:=by simpa using e
  exact Option.some.inj ((Array.getElem?_eq_getElem (by simpa using h)).symm.trans h2)
 rw[this]
 exact q
theorem Akq{pins:List (Addr × Obj)}{σ:St}{H:Hp}{s:Shared}(I:Inv X pins σ H s){n:Nat}{x y:V}(S:Adb X.K H n x y):∀{A:Around} {u v:Value},RelV x u→RelV y v→A.units+n<cLine→SeqAt.EqAt A s u v true:=by
 induction S with
 | flat h =>
  intro A u v r1 r2 hu
  have:=AdZ (A:=A) (s:=s) r1 r2 h h
  rw[AbU h] at this
  exact this
 | lst hp hq hl hi ih =>
  intro A u v r1 r2 hu
  rename_i n p q xs ys
  cases r1
  cases r2
  by_cases e:p=q
  ·subst e;exact SeqAt.EqAt.same _
  ·refine SeqAt.EqAt.of_refs e ?_
   obtain⟨its,r,pl,hz⟩:=I.list hp
   obtain⟨its2,r2,pl2,hz2⟩:=I.list hq
   have l1:=r.length
   have l2:=r2.length
   have key:=SeqAt.RcAt.lists (A:=A) (s:=s) (e:=fun _=>true) pl.isList pl2.isList (by simp only [Ar0];omega) (by omega) (fun j h1 h2=>?_)
   ·have e1:(List.range its.toArray.size).all (fun _=>true)=true:=by simp
    rw[e1] at key
    exact key
   ·obtain⟨x,ex,qx⟩:=Um r h1
    obtain⟨y,ey,qy⟩:=Um r2 h2
    exact ih j x y ex ey qx qy (by show A.units+1+n<cLine;omega)
 | tup hp hq hl hi ih =>
  intro A u v r1 r2 hu
  rename_i n p q xs ys
  cases r1
  cases r2
  by_cases e:p=q
  ·subst e;exact SeqAt.EqAt.same _
  ·refine SeqAt.EqAt.of_refs e ?_
   obtain⟨its,r,pl,hz⟩:=I.tuple hp
   obtain⟨its2,r2,pl2,hz2⟩:=I.tuple hq
   have l1:=r.length
   have l2:=r2.length
   have key:=SeqAt.RcAt.tuples (A:=A) (s:=s) (e:=fun _=>true) pl pl2 (by omega) (fun j h1 h2=>?_)
   ·have e1:((List.range (min its.toArray.size its2.toArray.size)).all (fun _=>true) && its.toArray.size == its2.toArray.size)=true:=by
     have e2:its.length=its2.length:=by omega
     simp[e2]
    rw[e1] at key
    exact key
   ·obtain⟨x,ex,qx⟩:=Um r h1
    obtain⟨y,ey,qy⟩:=Um r2 h2
    exact ih j x y ex ey qx qy (by show A.units+1+n<cLine;omega)
def AoX (K:PySem.W.Frag)(H:Hp)(p q:Addr):Prop:=∃ xs ys:List V,SqL K H p xs∧SqL K H q ys∧xs.length=ys.length∧∀(i:Nat) (x y:V),xs[i]?=some x→ys[i]?=some y→Adb K H 50 x y
def Aqq (K:PySem.W.Frag):R2:=fun x y H Q=>∃ p q,x=.ref p∧y=.ref q∧AoX K H p q∧Q (.bl true) H
theorem AnI(hu:X.A.units+100<cLine)(hK:X.K=K:=by rfl):OpR X (compareOp .Eq) (Aqq K):=by
 subst hK
 intro pins s σ H x y v u Q I rx ry h
 obtain⟨p,q,rfl,rfl,⟨xs,ys,hx,hy,hl,hi⟩,k⟩:=h
 cases rx
 cases ry
 obtain⟨its,r,pl,hz⟩:=I.list hx
 obtain⟨its2,r2,pl2,hz2⟩:=I.list hy
 have l1:=r.length
 have l2:=r2.length
 refine SeqAt.eq_listAt (e:=fun _=>true) pl.isList pl2.isList (by simp only [Ar0];omega) (by omega) (fun j h1 h2=>?_) ?_
 ·obtain⟨x,ex,qx⟩:=Um r h1
  obtain⟨y,ey,qy⟩:=Um r2 h2
  exact Akq I (hi j x y ex ey) qx qy (by show X.A.units+1+50<cLine;omega)
 refine⟨.bl true,H,I,?_,k⟩
 show Value.bool _=Value.bool _
 simp
def Arj (K:PySem.W.Frag):R2:=fun x y H Q=>∃ p q,x=.ref p∧y=.ref q∧AoX K H p q∧Q (.bl false) H
end
open PySem PySem.Spec PyProof.Rows
section
variable {X:Cx}{K:PySem.W.Frag}{k:Nat}{f C:Addr}{fd:FuncData}{ps:List Str}{sp:Sp}{dvs:List V}{ds:List Value}{x m:Str}{p pos apos:Pos}{e o:Expr}{es:List Expr}{ta:TE}{t:TA}
def Ark (K:PySem.W.Frag):R2:=fun x y H Q=>∃ p q xs,x=.ref p∧y=.ref q∧SqL K H p xs∧SqL K H q []∧Q (.bl (!xs.isEmpty)) H
def Arl (K:PySem.W.Frag):R2:=fun x y H Q=>∃ p q xs,x=.ref p∧y=.ref q∧SqL K H p xs∧SqL K H q []∧Q (.bl xs.isEmpty) H
end
open PySem PySem.Spec PyProof.Rows
def YX (X:Cx)(fp:List Addr)(C:Addr)(s:Shared)(H:Hp)(E:XK):Value→Shared→Prop:=fun e s' =>
 ∃(H1:Hp) (s1:Shared) (m:Str→Option Value),Un (frs X.stack) fp H H1 s.heap s1.heap∧s1.os=s.os∧s1.heap.Ns C m∧H1 C=none∧CX1 X.prog X.w X.stack H1 s1 E e s'
abbrev Xl (X:Cx) (Nc:List Str) (scope:Scope) (cl:List (Str × Addr)) (C:Addr) (fp:List Addr) (s:Shared) (H:Hp) (E:XK):Cx:=(Js X Nc scope cl C fp s H).wish (YX X fp C s H E)
theorem AoY{X:Cx}{Nc:List Str}{scope:Scope}{cl:List (Str × Addr)}{C:Addr}{fp:List Addr}{s:Shared}{H:Hp}{E:XK}:Passes (CX1 X.prog X.w) (Xl X Nc scope cl C fp s H E) E:=fun pins σ H1 s1 e s' I c=>by
 obtain⟨m,hn,_⟩:=I.loc
 exact⟨H1,s1,m,I.base,I.os,hn,I.free,c⟩
def Aft (X:Cx)(E:XK)(C:Addr)(e:Value)(s':Shared):Prop :=
 (∃ m,s'.heap.Ns C m)∧∀ h',Heap.SameBut C s'.heap h'→∃ ea Cc t H' B,e=.ref ea∧Fx B X.stack ea Cc t (rawInt X.env.locals) h'∧s'.os=X.s₀.os∧AllBare s'.gens∧Bk X.prog X.w X.outer X.H₀ X.s₀.heap H' B h'∧E (.ref Cc) none H'
theorem AaZ{e:Value}{env env':Env}(h:env.frame=env'.frame):noteFrame e env=noteFrame e env':=by
 unfold noteFrame PySem.frameOf
 rw[h]
theorem XF{h h' base:Heap}:∀{l:List Env},(∀ b∈frs l,h'.get? b=h.get? b)→h.FunFrames base l→h'.FunFrames base l
 | [],_,_=>trivial
 | env::r,k,⟨hk,⟨L,o,hf,hn,ho,hd⟩,hr⟩=>by
  have m:∀ b∈frs r,b∈frs (env::r):=fun b hb=>by unfold frs;rw[Ase,hf];exact ArF _ hb
  have mL:L∈frs (env::r):=by unfold frs;rw[Ase,hf];exact ArD
  exact⟨hk,⟨L,o,hf,hn,(k L mL).trans ho,hd⟩,XF (fun b hb=>k b (m b hb)) hr⟩
section
variable {X:Cx}{pins:List (Addr × Obj)}{σ:St}{H:Hp}{s s':Shared}{E:XK}{e:Value}{C:Addr}{fp:List Addr}
theorem Aqr{M:Model}{R:Shared→Prop}{E':Value→Shared→Prop}{cenv:Env}(hB:Body X)(I:Inv X pins σ H s)(hfp:∀ b∈fp,Ou X pins H b)(hC:s.heap.objs.size≤C)(hf:cenv.frame=X.env.frame)
  (c:YX X fp C s H E e s') (k:∀ s'',Aft X E C e s''→R s''):wpAny M X.A (noteFrame e cenv) (fun _ s''=>R s'') E' s':=by
 obtain⟨H1,s1,m,un,os1,hns,nC,ea,Cc,t,H',B,rfl,fx,os,bare,bk,q⟩:=c
 have nx:∀ b:Addr,b∉X.ex:=fun b z=>by rw[hB.ex] at z;exact nomatch z
 have fsS:∀ b,b∈X.fs→b∈frs X.stack:=fun b hb=>by
  rw[hB.stack];unfold frs;rw[Ase,hB.frame];exact ArF _ hb
 have stk:∀ b,b∈frs X.stack→∃ o,s.heap.get? b=some o:=fun b hb=>by
  obtain⟨_,o,e,_⟩:=I.stack.mem hb
  exact⟨o,e⟩
 have CS:C∉frs X.stack:=fun z=>by
  obtain⟨o,e⟩:=stk C z
  exact absurd (Heap.lt_size e) (Nat.not_lt.mpr hC)
 have old:∀ b o,s.heap.get? b=some o→b≠C:=fun b o e z=>absurd (Heap.lt_size e) (Nat.not_lt.mpr (z▸hC))
 have nfp:∀ b o,X.s₀.heap.get? b=some o→b∉fp:=fun b o e z=>by
  rcases(hfp b z).2.2.2.1 with y | y
  ·exact nx b y
  ·exact absurd (Heap.lt_size e) (Nat.not_lt.mpr y)
 obtain⟨oC,es,ep,hoC,dC,sk,nf⟩:=hns
 have hBC:B.get? C=some oC:=bk.keep C oC hoC nC CS
 have AoZ:H' C=none:=bk.free C oC hoC nC
 have B'C:(PySem.W.hideAll B [C]).get? C=none:=PySem.W.hideAll_none _ ArD
 have AnJ:∀ b o,B.get? b=some o→b≠C→(PySem.W.hideAll B [C]).get? b=some o:=fun b o e z=>PySem.W.hideAll_get _ e fun y=>z (List.mem_singleton.mp y)
 have stays:(PySem.W.hideAll B [C]).StaysIn B:=fun b o e=>PySem.W.of_hideAll _ e
 have fx':Fx (PySem.W.hideAll B [C]) X.stack ea Cc t .none s'.heap:=by
  obtain⟨st,ne,fr,T,oT,ts,hE,hBT,hTe,hT,hdT,h3⟩:=fx
  exact⟨fun b o e=>st b o (stays b o e),PySem.W.fresh_of_stays stays ne,PySem.W.funFrames_base stays fr,T,oT,ts,hE,PySem.W.fresh_of_stays stays hBT,hTe,hT,hdT,h3⟩
 have bkX:Bk X.prog X.w X.outer X.H₀ X.s₀.heap H' (PySem.W.hideAll B [C]) s'.heap:=by
  refine⟨fun b u e=>?_,fun b o e n hb=>?_,fun b o e hb=>?_,fun b o e n=>?_,fun b o e hb=>?_,fun b xs e=>bk.tups b xs (un.tups b xs (I.base.tups b xs e)),fun b o u e=>bk.Ri b o u (un.Ri b o u (I.base.Ri b o u e)),fun b ps e=>?_⟩
  ·refine(bk.ok b u e).stay (fun c v hc z=>AnJ c v z fun y=>?_) (fun _ z=>z) fun _ _ z=>z
   rcases hc with x | x
   ·rw[← x,y,AoZ] at e;cases e
   ·rw[y,AoZ] at x;cases x
  ·have e1:=I.base.keep b o e n hb (nx b)
   have n1:=I.base.free b o e n (nx b)
   have bfr:=I.Ai1 e hb
   exact AnJ b o (bk.keep b o (un.keep b o e1 n1 bfr (nfp b o e)) (un.free b o e1 n1 (nfp b o e)) bfr) (old b o e1)
  ·obtain⟨sl,e1⟩:=I.base.slot b o e (I.ok.frf b hb) hb (nx b)
   obtain⟨sl2,e2⟩:=un.slot b _ e1 (I.Xa b (fsS b hb)) (fsS b hb) (nfp b o e)
   obtain⟨sl3,e3⟩:=bk.slot b _ e2 (fsS b hb)
   exact⟨sl3,e3⟩
  ·obtain⟨o',e1⟩:=I.base.there b o e (nx b)
   obtain⟨o2,e2⟩:=un.there b o' e1 (nfp b o e)
   exact bk.free b o2 e2 (un.free b o' e1 (I.base.free b o e n (nx b)) (nfp b o e))
  ·obtain⟨o',e1⟩:=I.base.there b o e (nx b)
   obtain⟨o2,e2⟩:=un.there b o' e1 (nfp b o e)
   obtain⟨o3,e3⟩:=bk.there b o2 e2 (I.Ai1 e hb)
   exact⟨o3,AnJ b o3 e3 (old b o' e1)⟩
  ·obtain⟨m1,e1⟩:=I.base.S9 b ps e
   obtain⟨m2,e2⟩:=un.S9 b _ e1
   obtain⟨m3,e3⟩:=bk.S9 b _ e2
   exact⟨m1++m2++m3,by rw[e3,Array.append_assoc,Array.append_assoc,Array.append_assoc]⟩
 rw[AaZ hf]
 refine Ah3 hB I.ok.frames (.came fx') fun h1 x1 u1=>k _ ?_
 obtain⟨sl,hC1⟩:=u1 C oC (fx.st C oC hBC) (fun vs z=>by rw[dC] at z;cases z)
 refine⟨⟨m,_,es,ep,hC1,dC,sk,nf⟩,fun h' sb=>?_⟩
 have bk1:=bkX.slots (Abr hB fx'.fr) u1
 obtain⟨st,ne,fr,T,oT,ts,hE,hBT,hTe,hT,hdT,h3⟩:=x1
 have TC:T≠C:=fun z=>by rw[z,hC1] at hT;cases hT;rw[dC] at hdT;cases hdT
 have EC:ea≠C:=fun z=>by rw[z,hC1] at hE;have:=congrArg Obj.data (Option.some.inj hE);dsimp only at this;rw[dC] at this;cases this
 refine⟨ea,Cc,t,H',_,rfl,⟨fun b o e=>(sb.2 b fun z=>by rw[z,B'C] at e;cases e).trans (st b o e),ne,XF (fun b hb=>sb.2 b fun z=>CS (z▸hb)) fr,T,oT,ts,(sb.2 ea EC).trans hE,hBT,hTe,(sb.2 T TC).trans hT,hdT,h3⟩,os.trans (os1.trans I.os),bare,
  ⟨bk1.ok,bk1.keep,fun b o e hb=>?_,bk1.free,bk1.there,bk1.tups,bk1.Ri,bk1.S9⟩,q⟩
 obtain⟨sl2,e2⟩:=bk1.slot b o e hb
 exact⟨sl2,(sb.2 b fun z=>CS (z▸fsS b hb)).trans e2⟩
end
def Aoj (M:Model)(A:Around)(E:Value→Shared→Prop)(Q:Value→Shared→Prop)(acc:Value)(C:Addr)(f:Option Addr)(r:Result)(s':Shared):Prop :=
 match r with
 | .ok _=>∃ m,s'.heap.Ns C m∧∀ h',Heap.SameBut C s'.heap h'→Q acc { s' with heap:=h' }
 | .error x=>∃ m,s'.heap.Ns C m∧∀ h',Heap.SameBut C s'.heap h'→∀ cenv:Env,cenv.locals=C→cenv.frame=f→wpAny M A (passOn "comprehension.variables-let-go" x cenv:Sem Value) (fun _ _=>False) E { s' with heap:=h' }
section
variable {X:Cx}{pins:List (Addr × Obj)}{σ:St}{H:Hp}{s:Shared}
end
open PySem PySem.Spec PyProof.Rows
section
variable {X:Cx}{pins:List (Addr × Obj)}{σ:St}{H:Hp}{s:Shared}
theorem AfD{x:Str}{px:Pos}{Nc:List Str}{Bp:List Nat}{scope:Scope}{cl:List (Str × Addr)}{iter elt:Expr}{ifs:List Expr}{pos:Pos}{tc:TT}{te:TE}{Q:VK}{it:Addr}{fp:List Addr}{tn:Nat→Heap→Prop}{J:It}
  {RR:Value→Addr→Option Addr→Result→Shared→Prop}{E:Value→Shared→Prop}{E':XK} (hB:Body X)
  (O:DK X x Nc Bp scope) (hc:X.calm=true)
  (hcl:∀ x c,cl.lookup x=some c→X.env.cells.lookup x=some c∧(x,NameKind.free)∈scope.names) (SJ:∀ x,(x,NameKind.free)∈scope.names→cl.lookup x=X.env.cells.lookup x)
  (hte:∀ C fp s H,PE (Xl X Nc scope cl C fp s H E') elt te) (htc:∀ C fp s H,PIf (Xl X Nc scope cl C fp s H E') ifs tc)
  (I:Inv X pins σ H s) (T:Turn X.prog X.w X.K (.Name x px) J fp it tn) (st:tn 0 s.heap) (hfp:∀ b∈fp,Ou X pins H b) (h:VM Bp tc te J σ H Q)
  (hRR:∀(D C:Addr) (s':Shared) (m:Str→Option Value),s'.heap.Ns C m→(∀ h',Heap.SameBut C s'.heap h'→∃ H',Inv X pins σ H' { s' with heap:=h' }∧H' C=none∧Q (.ref D) H') →
   s.heap.objs.size≤C→RR (.ref D) C X.env.frame (.ok .next) s')
  (hRE:∀(D C:Addr) (e:Value) (s':Shared),Aft X E' C e s'→RR (.ref D) C X.env.frame (.error e) s') :
  wpAny (model X.prog X.w) X.A (newList []) (fun acc s₃=>wpAny (model X.prog X.w) X.A (newFunctionEnv scope X.env.globals cl [] X.env.qual none .none (some X.env)) (fun cenv s₄ =>
   codeAny (model X.prog X.w) X.A (.compStart (.ListComp elt [⟨.Name x px,iter,ifs,0⟩] scope pos) 0 (.ref it) acc { cenv with scope:=relabel scope X.env }) (RR acc cenv.locals cenv.frame) s₄) E s₃) E s:=by
 refine wpAny_newObj_type (wpAny_newFunctionEnv O.cell (by intro y hy;simp at hy) (fun h₁ hns₁ hsb₁=>?_) O.kind)
 dsimp only at hns₁ hsb₁ ⊢
 generalize hH2:s.heap.push { cls:=.type "list", dict:=none,data:=.seq ([]:List Value).toArray }=H2 at hns₁ hsb₁ ⊢
 have hC:H2.objs.size=s.heap.objs.size+1:=by rw[← hH2,Heap.size_push]
 have hCle:s.heap.objs.size≤H2.objs.size:=by rw[hC];exact ArZ _
 have hDC:s.heap.objs.size≠H2.objs.size:=by rw[hC];exact Arw (Asf _)
 have below:∀ b,b<s.heap.objs.size→b≠H2.objs.size∧b≠s.heap.objs.size:=fun b hb=>⟨by rw[hC];exact Arw (Asx hb),Arw hb⟩
 have old:∀ b o,s.heap.get? b=some o→h₁.get? b=some o:=fun b o e=>hsb₁.extBut b o (below b (Heap.lt_size e)).1 (Heap.get?_push_of_some _ (hH2▸Heap.get?_push_of_some _ e))
 have hacc:h₁.get? s.heap.objs.size=some (Ks [] 0):=hsb₁.extBut _ _ hDC (Heap.get?_push_of_some _ (hH2▸Heap.get?_push_size _ rfl))
 have hfo:∀ b∈fp,b<s.heap.objs.size:=fun b hb=>by
  obtain⟨o,e,_⟩:=T.obj _ _ st b hb
  exact Heap.lt_size e
 have st1:tn 0 h₁:=T.keep _ _ _ st fun b _ o e=>old b o e
 generalize hDD:s.heap.objs.size=D at *
 generalize hCC:H2.objs.size=C at *
 have Afl:D≤C:=hCle
 let Y:Cx:=Xl X Nc scope cl C fp s H E'
 have I0:Inv Y [] (none::Ig σ Bp) H { s with heap:=h₁,toks:=s.toks+([]:List (Str × Value)).length }:=(AbQ I O hcl SJ (by rw[hDD];exact hCle) hfp (fun b hb=>by rw[hDD];exact hfo b hb) old hns₁).wish _
 have AbS:H D=none:=by rw[← hDD];exact I.hok.fresh (Art _)
 have U5:D≠C:=hDC
 have Dfs:D∉Y.fs:=fun z=>by
  have:=I.stack.mem (show D∈frs X.stack from z)
  obtain⟨_,o,e,_⟩:=this
  have:=Heap.lt_size e
  rw[hDD] at this
  exact Ar8 _ this
 have AbT:∀ y c,Y.env.cells.lookup y=some c→c≠D:=fun y c e z=>by
  obtain⟨v,q⟩:=I.cell y c (hcl y c e).1
  have:=q.lt
  rw[z,hDD] at this
  exact Ar8 _ this
 have Dfp:∀ b∈fp,b≠D:=fun b hb=>Arw (hfo b hb)
 have fpY:∀{H':Hp},(∀ b∈fp,H' b=none)→∀ b∈fp,Ou Y [] H' b:=fun hn b hb =>
  ⟨hn b hb,Arw (Ary (hfo b hb) Afl),fun z=>I0.ok.Z9 b hb z,.inl hb,fun y c e=>(I0.ok.exf b hb).2 y c e,fun p hp=>absurd (show p∈([]:List (Addr × Obj)) from hp) (by simp)⟩
 obtain⟨W,⟨m0,w0⟩,turn⟩:=h
 have loop:∀ s₃:Shared,s₃={ s with heap:=h₁,toks:=s.toks+([]:List (Str × Value)).length } →
   codeAny (model X.prog X.w) X.A (.compLoop (.ListComp elt [⟨.Name x px,iter,ifs,0⟩] scope pos) 0 (.ref it) (.ref D) (compEnvC scope cl C X.env)) (RR (.ref D) C X.env.frame) s₃:=by
  rintro s₃ rfl
  have err:∀ e s',YX X fp C s H E' e s'→notedBy (model X.prog X.w) X.A (compEnvC scope cl C X.env) (fun e s''=>RR (.ref D) C X.env.frame (.error e) s'') e s':=fun e s' c =>
   Aqr hB I hfp (by rw[hDD];exact hCle) rfl c fun s'' q=>hRE D C e s'' q
  refine Rm (fun n s'=>∃(i:Nat) (o:Option V) (H':Hp) (ys:List V) (us:List Value) (k:Nat),Inv Y [] (o::Ig σ Bp) H' s'∧tn i s'.heap∧(∀ b∈fp,H' b=none)∧s'.heap.get? D=some (Ks us k)∧H' D=none∧Vals ys us∧W i n ys H')
   ?_ m0 ⟨0,none,H,[],[],0,I0,st1,fun b hb=>(hfp b hb).1,hacc,AbS,.nil,w0⟩
  rintro n s3 ⟨i,o3,H3,ys,us,k,I3,st3,fr3,hD3,nD3,rv,w3⟩
  have fpP:∀{H':Hp} {ob:Obj},(∀ b∈fp,H' b=none)→∀ b∈fp,Ou Y [(D,ob)] H' b:=fun hn b hb=>by
   obtain⟨g0,g1,g2,g3,g4,_⟩:=fpY hn b hb
   refine⟨g0,g1,g2,g3,g4,fun p hp=>?_⟩
   have e:p=(D,_):=List.mem_singleton.mp (show p∈[(D,_)] from hp)
   rw[e]
   exact Ne.symm (Dfp b hb)
  have IP:Inv Y [(D,Ks us k)] (o3::Ig σ Bp) H3 s3:=I3.JX fun p hp=>by
   have e:p=(D,Ks us k):=List.mem_singleton.mp hp
   subst e
   exact⟨hD3,nD3,U5,Dfs,fun v z=>by cases z⟩
  have XS:∀{σ':St} {H':Hp} {s':Shared} {pl:List (Addr × Obj)},Inv Y ([(D,Ks us k)]++pl) σ' H' s'→s'.heap.get? D=some (Ks us k)∧H' D=none:=fun I'=>by
   have z:=I'.pin (D,Ks us k) (ArA _ (Asr _ ArD))
   exact⟨z.1,z.2.1⟩
  rcases turn i n ys H3 w3 with ⟨stop,hlen,fin⟩ | ⟨go,hlen,step⟩
  ·
   refine wpAny_mono (T.done Y rfl rfl rfl hc i _ s3 _ H3 (fun _ _=>False) IP (fpP fr3) st3 stop) (fun r s4 hr=>?_) fun _ _ z=>z.elim
   obtain⟨hr,I4⟩:=hr
   subst hr
   obtain⟨gD,nD⟩:=XS (pl:=[]) (by simpa using I4)
   obtain⟨m,hn,_⟩:=I4.loc
   refine hRR D C s4 m hn (fun h' hs'=>⟨upd H3 D (.lst ys),?_,(Ba (Ne.symm U5)).trans I4.free,fin D nD⟩) hCle
   have nt:∀ b ob,H3 b=some ob→b≠C:=fun b ob e z=>by
    have:=I4.free
    rw[z] at e
    rw[show H3 C=none from this] at e
    cases e
   have u1:Un (frs X.stack) fp H H3 s.heap h':=Un.but I4.base hs' (show s.heap.objs.size≤C by rw[hDD];exact hCle)
   have ok1:HOk X.prog X.w H3 h':=fun b ob e=>(I4.hok b ob e).stay (fun c v hc q=>(hs'.2 c (by
    rcases hc with z | z
    ·rw[z];exact nt b ob e
    ·exact nt c _ z)).trans q) (fun _ q=>q) fun _ _ q=>q
   have gD':h'.get? D=some (Ks us k):=(hs'.2 D U5).trans gD
   exact I.call' (s':={ s4 with heap:=h' }) (ch:=fp) I4.os (u1.track (ArW hDD) nD) (ok1.track nD ⟨hlen,us,k,rv,gD'⟩) I4.bare fun b hb=>by
    obtain⟨_,g1,_,g3,g4,g5⟩:=hfp b hb
    exact⟨g3,g1,g4,g5⟩
  ·
   refine wpAny_mono (T.item Y rfl rfl rfl hc i _ s3 _ H3 (fun _ _=>False) IP (fpP fr3) st3 go) (fun r s4 hr=>?_) fun _ _ z=>z.elim
   obtain⟨u0,hr,h4⟩:=hr
   subst hr
   refine wpAny_mono h4 (fun _ s5 h5=>?_) fun _ _ z=>z.elim
   obtain⟨x5,H5,I5,r5,y5,st5,fr5⟩:=h5
   have I5':=I5.pinned (fpP fr5) (T.obj _ _ st5)
   have tgt:PG Y (.Name x px) (R1 0):=Dq (i:=0) O.nd O.hd (.inl (DG I.ok.kind O.loc (by intro z;cases z))) (.inr (DG I.ok.kind O.loc (by intro z;cases z)))
   refine wpAny_mono (tgt _ s5 _ H5 x5 u0 (fun σ2 H2=>σ2=some x5::Ig σ Bp∧H2=H5) I5' r5 ⟨rfl,rfl⟩) (fun _ s6 h6=>?_) err
   obtain⟨_,_,I6,rfl,rfl⟩:=h6
   refine wpAny_mono ((htc C fp s H).run I6 (step x5 _ y5)) (fun b s7 h7=>?_) err
   obtain⟨H7,I7,q7⟩:=h7
   have VN:∀{σ':St} {H':Hp} {s':Shared},Inv Y ([(D,Ks us k)]++VH fp s5.heap) σ' H' s'→tn (i+1) s'.heap∧∀ b∈fp,H' b=none:=fun I' =>
    ⟨T.keep _ _ _ st5 fun b hb o e=>(I'.pin (b,o) (ArA _ (ArA _ (Ie hb e)))).1,fun b hb=>by
     obtain⟨o,e,d⟩:=T.obj _ _ st5 b hb
     exact(I'.pin (b,o) (ArA _ (ArA _ (Ie hb e)))).2.1⟩
   cases b with
   | false =>
    rw[if_neg Ar2] at q7
    rw[if_neg Ar2]
    obtain⟨m',hm,w7⟩:=q7
    obtain⟨gD,nD⟩:=XS I7
    obtain⟨k1,k2⟩:=VN I7
    exact⟨m',hm,i+1,some x5,H7,ys,us,k,I7.JX (fun p hp=>nomatch hp),k1,k2,gD,nD,rv,w7⟩
   | true =>
    rw[if_pos rfl] at q7
    rw[if_pos rfl]
    refine wpAny_mono (hte C fp s H _ s7 _ H7 _ I7 q7) (fun u8 s8 h8=>?_) err
    obtain⟨y8,H8,I8,r8,m',hm,w8⟩:=h8
    obtain⟨gD,nD⟩:=XS I8
    obtain⟨k1,k2⟩:=VN I8
    refine call_meets F.slot_list_append ⟨_,gD,rfl⟩ F.entry_list_append (F.args_list_append_2 _ _) (PySem.list_append D us.toArray k u8 (by rw[Ar0,← rv.length];omega)) ⟨gD,?_⟩
    have q:=PySem.IsL.update gD (·.push u8)
    have e1:us.toArray.push u8=(us++[u8]).toArray:=by simp
    rw[e1] at q
    have I8':Inv Y [] (some x5::Ig σ Bp) H8 s8:=I8.JX (fun p hp=>nomatch hp)
    have I9:Inv Y [] (some x5::Ig σ Bp) H8 { s8 with heap:=s8.heap.update D (Obj.mapSeq (·.push u8)),toks:=s8.toks } :=
     I8'.turned (it:=D) (fun b o hb e=>(Heap.get?_update_other s8.heap (Obj.mapSeq (·.push u8)) (Ne.symm hb)).trans e) nD U5 (.inr (ArW hDD)) AbT (fun p hp=>nomatch hp)
    refine⟨m',hm,i+1,some x5,H8,ys++[y8],us++[u8],_,I9,T.keep _ _ _ k1 fun b hb o e=>(Heap.get?_update_other s8.heap (Obj.mapSeq (·.push u8)) (Ne.symm (Dfp b hb))).trans e,k2,q,nD,rv.append (.cons r8 .nil),w8⟩
 exact codeAny_compStart_list (loop _ rfl) (T.self X.A 0 _ _ _ st1 (loop _ rfl))
end
def AdL (M:Model)(A:Around)(E:Value→Shared→Prop)(u:Value→Sem Unit)(Q:Value→Shared→Prop)(acc:Value)(C:Addr)(f:Option Addr)(r:Result)(s':Shared):Prop :=
 match r with
 | .ok _=>wpAny M A (u acc) (fun _ s''=>∃ m,s''.heap.Ns C m∧∀ h',Heap.SameBut C s''.heap h'→Q .none { s'' with heap:=h' }) E s'
 | .error x=>∃ m,s'.heap.Ns C m∧∀ h',Heap.SameBut C s'.heap h'→∀ cenv:Env,cenv.locals=C→cenv.frame=f→wpAny M A (passOn "comprehension.variables-let-go" x cenv:Sem Value) (fun _ _=>False) E { s' with heap:=h' }
theorem AgT{M:Model}{A:Around}{E:Value→Shared→Prop}{s:Shared}{env:Env}{e:Expr}{scope:Scope}{pos:Pos}{newAcc first:Sem Value}{g:Comprehension}{gs:List Comprehension}{cl:List (Str × Addr)}{u:Value→Sem Unit}{Q:Value→Shared→Prop}
  (hcl:clausesOf e=g::gs) (hs:∀ x,foldedSetIterable g.iter env x=pure x) (hclos:closureFor scope env=pure cl)
  (hkind:scope.kind=.function) (hnames:∀ x∈scope.names,x.2=.local→scope.names.lookup x.1=some .local)
  (h:wpAny M A first (fun x s₁=>wpAny M A (pyIter x) (fun it s₂=>wpAny M A newAcc (fun acc s₃ =>
   wpAny M A (newFunctionEnv scope env.globals cl [] env.qual none .none (some env)) (fun cenv s₄ =>
    codeAny M A (.compStart e 0 it acc { cenv with scope:=relabel scope env }) (AdL M A E u Q acc cenv.locals cenv.frame) s₄) E s₃) E s₂) E s₁) E s) :
  wpAny M A (comprehension e scope env pos newAcc false first (some u)) Q E s:=by
 unfold comprehension
 rw[hclos,hcl]
 refine wpAny_bind (wpAny_mono h (fun x s₁ h₁=>wpAny_bind (wpAny_standAt (wpAny_bind (wpAny_of_eq (hs x) (wpAny_bind (wpAny_holding (wpAny_mono h₁ (fun it s₂ h₂ =>
  wpAny_standIf (wpAny_bind (wpAny_mono h₂ (fun acc s₃ h₃=>wpAny_bind (wpAny_pure (wpAny_bind (wpAny_mono h₃ (fun cenv s₄ h₄=>?_) fun _ _ h'=>h')))) fun _ _ h'=>h')))
   fun _ _ h'=>h'))))))) fun _ _ h'=>h')
 dsimp only
 have hv:∀ x∈(scope.names.filter fun x=>(x.2 == .local || x.2 == .cell) && x.1 != (".0" : Str)).reverse,x.2=.local →
   Env.kindOf { cenv with scope:=relabel scope env } x.1=some .local:=fun x hx hl=>lookup_relabel_local (hnames x (List.mem_filter.mp (List.mem_reverse.mp hx)).1 hl)
 have hv':∀ x∈(scope.names.filter fun x=>(x.2 == .local || x.2 == .cell) && x.1 != (".0" : Str)).reverse.drop 1++(scope.names.filter fun x=>(x.2 == .local || x.2 == .cell) && x.1 != (".0" : Str)).reverse.take 1,
   x.2=.local→Env.kindOf { cenv with scope:=relabel scope env } x.1=some .local:=fun x hx hl=>(List.mem_append.mp hx).elim (fun h1=>hv x (List.mem_of_mem_drop h1) hl) (fun h1=>hv x (List.mem_of_mem_take h1) hl)
 refine wpAny_holding (wpAny_bind (wpAny_attempt (wpAny_holding (wpAny_run (codeAny_mono h₄ fun r s' hr=>?_)))))
 cases r with
 | ok f =>
  refine wpAny_bind (wpAny_rule (wpAny_bind (wpAny_holding (wpAny_mono hr (fun _ s'' hr'=>?_) fun _ _ h'=>h'))))
  obtain⟨m,hn,hr'⟩:=hr'
  exact wpAny_bind (wpAny_comp_letGo (cenv:={ cenv with scope:=relabel scope env }) hkind _ s'' m hv' hn fun h' m' _ hs'=>wpAny_pure (hr' h' hs'))
 | error x =>
  obtain⟨m,hn,hr⟩:=hr
  exact wpAny_bind (wpAny_holding (wpAny_comp_letGo (cenv:={ cenv with scope:=relabel scope env }) hkind _ s' m hv hn fun h' m' _ hs'=>wpAny_mono (hr h' hs' _ rfl rfl) (fun _ _ f=>f.elim) fun _ _ y=>y))
section
variable {X:Cx}{pins:List (Addr × Obj)}{σ:St}{H:Hp}{s:Shared}
theorem Akr{E':XK}{i:Nat}{y x:Str}{px py pos spos:Pos}{Nc:List Str}{Bp:List Nat}{scope:Scope}{iter elt:Expr}{ifs:List Expr}{wi:TI}{tc:TT}{te:TE}(hB:Body X)(hw:∀ e s',FlX X E' e s'→X.xe e s')(O:DK X x Nc Bp scope)(hc:X.calm=true)
  (hN:X.N.Nodup) (hy:X.N[i]?=some y) (hx:X.env.scope.names.lookup y=some .local) (hi:PI X (.Name x px) iter wi)
  (htc:∀ cl C fp s H,PIf (Xl X Nc scope cl C fp s H E') ifs tc) (hte:∀ cl C fp s H,PE (Xl X Nc scope cl C fp s H E') elt te)
  (hsw:swapsWith (.ListComp elt [⟨.Name x px,iter,ifs,0⟩] scope pos) (some (.Name y py)) spos.line X.env=pure true) (hs:∀ x,foldedSetIterable iter X.env x=pure x:=by intro _;rfl) :
  PS X (.Assign [.Name y py] (.ListComp elt [⟨.Name x px,iter,ifs,0⟩] scope pos) spos) (Ags (Ah1 wi Bp tc te) (R1 i)):=by
 intro pins s σ H Dn I h
 rw[exec_Assign_Name_used _ _ _ _ hsw]
 refine wpAny_bind (wpAny_standAt (wpAny_bind ?_))
 obtain⟨cl,e1,e2,e3⟩:=R6 (scope:=scope) (env:=X.env) fun y hy hf=>I.ok.has y.1 (.inl (O.fr y hy hf).1)
 show wpAny _ X.A (do let _ ← comprehension (.ListComp elt [⟨.Name x px,iter,ifs,0⟩] scope pos) scope X.env _ (newList []) false (eval iter X.env) (some (assign (.Name y py) X.env))) _ _ s
 refine wpAny_bind (wpAny_mono (AgT (u:=assign (.Name y py) X.env) (Q:=fun _ s'=>SP X pins Dn .next s') rfl hs e1 O.kind O.names
  (thn (hi pins s σ H _ I h) fun v s1 h1=>thn h1 fun itv s2 h2=>?_)) (fun _ s' hq=>wpAny_pure (wpAny_pure hq)) fun _ _ e=>e)
 obtain⟨it,fp,tn,J,H2,e,I2,T,st2,f2,w2⟩:=h2
 subst e
 refine AfD (RR:=fun acc C f=>AdL (model X.prog X.w) X.A X.xe (assign (.Name y py) X.env) (fun _ s'=>SP X pins Dn .next s') acc C f) hB O hc e2 e3 (hte cl) (htc cl) I2 T st2 f2 w2 ?_ ?_
 ·intro D C s' m hn hq hC
  show wpAny _ X.A (assign (.Name y py) X.env (.ref D)) _ _ _
  obtain⟨H',I',nC,q⟩:=hq s'.heap (.refl ..)
  have I'':Inv X pins σ H' s':=I'
  have CL:C≠X.env.locals:=ArY (Ary I2.lt hC)
  have AaK:∀ y c,X.env.cells.lookup y=some c→c≠C:=fun y c e z=>by
   obtain⟨v,q⟩:=I2.cell y c e
   have:=Ary q.lt hC
   rw[z] at this
   exact Ar8 _ this
  refine wpAny_assign_Name (Xb I'' hN hy (.inl hx) (show RelV (.ref D) (.ref D) from rfl) (fun s3 I3 hsb=>?_) (.inr hx))
  obtain⟨a,hsb,ha⟩:=hsb
  have aC:C≠a:=by
   rcases ha with z | z
   ·rw[z];exact CL
   ·exact Ne.symm (AaK _ _ z)
  refine⟨m,hn.sameBut hsb aC,fun h4 hs4=>?_⟩
  refine⟨_,H',I3.turned (it:=C) (t':=s3.toks) (fun b o hb e=>(hs4.2 b hb).trans e) nC CL (.inr (ArC I2.sz hC)) AaK (fun p hp z=>?_),q⟩
  ·have:=Ary (Heap.lt_size (I2.pin p hp).1) hC
   rw[z] at this
   exact Ar8 _ this
 ·intro D C e s' ⟨⟨m,hn⟩,hq⟩
  refine⟨m,hn,fun h' hs' cenv _ hf=>?_⟩
  obtain⟨ea,Cc,t,H',B,rfl,fx,os,bare,bk,q⟩:=hq h' hs'
  unfold PySem.passOn
  obtain⟨T',oT,ts,hE,_⟩:=fx.ob
  refine wpAny_bind (wpAny_field (s:={ s' with heap:=h' }) hE rfl (x:=.ref T') rfl ?_)
  rw[if_neg (by simp)]
  refine wpAny_bind (AdA (s:={ s' with heap:=h' }) (f:=cenv.frame) fx fun h2 x2 u2=>?_)
  rw[hf,hB.frame] at x2
  refine wpAny_throw (hw _ _ ⟨ea,Cc,t,H',B,rfl,.seen x2,os,bare,bk.slots (Abr hB fx.fr) u2,q⟩)
end
open PySem PySem.Spec PyProof.Rows
section
variable {X:Cx}{K:PySem.W.Frag}
def Apa (K:PySem.W.Frag):R2:=fun x y H Q=>∃(p q:Addr) (js ks:List Int),x=.ref p∧y=.ref q∧SqT K H p (vI js)∧SqT K H q (vI ks)∧Q (.bl (!decide (js=ks))) H
theorem AlV(hu:X.A.units+100<cLine)(hK:X.K=K:=by rfl):OpR X (compareOp .NotEq) (Apa K):=by
 subst hK
 intro pins s σ H x y v u Q I rx ry h
 obtain⟨p,q,js,ks,rfl,rfl,hx,hy,k⟩:=h
 cases rx
 cases ry
 obtain⟨its,r,pl,hz⟩:=I.tuple hx
 obtain⟨its2,r2,pl2,hz2⟩:=I.tuple hy
 have l1:=r.length
 have l2:=r2.length
 unfold vI at l1 l2
 rw[Arq] at l1 l2
 refine SeqAt.RcNeAt.tuples (e:=fun j=>decide (js[j]?=ks[j]?)) pl pl2 (by omega) (fun j h1 h2=>?_) _ _ _ _ ?_
 ·simp only [Ar0] at h1 h2
  have j1:j<js.length:=by omega
  have j2:j<ks.length:=by omega
  obtain⟨w1,e1,q1⟩:=r.get (i:=j) (x:=V.int js[j]) (by simp[vI,j1])
  obtain⟨w2,e2,q2⟩:=r2.get (i:=j) (x:=V.int ks[j]) (by simp[vI,j2])
  have g1:its.toArray[j]=w1:=by
   have:its.toArray[j]?=some w1:=by simpa using e1
   exact Option.some.inj ((Array.getElem?_eq_getElem (by simpa using h1)).symm.trans this)
  have g2:its2.toArray[j]=w2:=by
   have:its2.toArray[j]?=some w2:=by simpa using e2
   exact Option.some.inj ((Array.getElem?_eq_getElem (by simpa using h2)).symm.trans this)
  rw[g1,g2]
  have:=AdZ (A:=X.A.in1) (s:=s) q1 q2 rfl rfl
  have e3:eqV (V.int js[j]) (V.int ks[j])=decide (js[j]?=ks[j]?):=by
   rw[Aru j1,Aru j2]
   show(js[j] == ks[j])=_
   by_cases h:js[j]=ks[j] <;> simp[h]
  rw[e3] at this
  exact this
 refine⟨.bl (!decide (js=ks)),H,I,?_,k⟩
 show Value.bool _=Value.bool _
 congr 1
 simp only [Ar0]
 rw[← l1,← l2]
 by_cases h:js=ks
 ·subst h
  simp
 ·rw[decide_eq_false h]
  by_cases hl:js.length=ks.length
  ·have:¬((List.range (min js.length ks.length)).all (fun j=>decide (js[j]?=ks[j]?))=true):=fun z=>h (by
    rw[AsA] at z
    refine Asu fun j=>?_
    by_cases hj:j<js.length
    ·exact of_decide_eq_true (z j (List.mem_range.mpr (by omega)))
    ·rw[ArU (by omega),ArU (by omega)])
   rw[Bool.eq_false_iff.mpr this,Bool.false_and]
  ·have:(js.length == ks.length)=false:=by simp[hl]
   rw[this,Bool.and_false]
end
end L2
set_option maxHeartbeats 4000000
namespace Mine
open PySem L2
def top (i:Nat):Stmt:=PySem.Challenge.pw_heddle_k57_patterns_of_one_word.main.body.getD i (.Pass ⟨0,0,0,0⟩)
abbrev Xm:Stmt:=top 12
theorem AgU:Ay ["text"] ["text"] (Af Xm):=⟨rfl,rfl,rfl,by decide +kernel,rfl,by decide +kernel,by decide +kernel⟩
abbrev Yh:Stmt:=top 15
theorem AfE:Ay ["cloth"] ["cloth"] (Af Yh):=⟨rfl,rfl,rfl,by decide +kernel,rfl,by decide +kernel,by decide +kernel⟩
abbrev Xn:Stmt:=top 16
theorem AgV:Ay ["cloth"] ["cloth"] (Af Xn):=⟨rfl,rfl,rfl,by decide +kernel,rfl,by decide +kernel,by decide +kernel⟩
abbrev Rn:Stmt:=top 17
theorem XH:Ay ["cloth", "size"] ["cloth"] (Af Rn):=⟨rfl,rfl,rfl,by decide +kernel,rfl,by decide +kernel,by decide +kernel⟩
abbrev PJ:Stmt:=top 18
theorem Oz:Ay ["texts", "least", "signs", "ends", "text"] ["texts", "least", "signs"] (Af PJ):=⟨rfl,rfl,rfl,by decide +kernel,rfl,by decide +kernel,by decide +kernel⟩
abbrev Vb:Stmt:=top 19
theorem XJ:Ay ["text", "ends", "signs", "sign"] ["text", "ends", "signs"] (Af Vb):=⟨rfl,rfl,rfl,by decide +kernel,rfl,by decide +kernel,by decide +kernel⟩
abbrev SX:Stmt:=top 20
theorem Aew:Ay ["cloth", "end"] ["cloth", "end"] (Af SX):=⟨rfl,rfl,rfl,by decide +kernel,rfl,by decide +kernel,by decide +kernel⟩
abbrev O1:Stmt:=top 21
theorem Aba:Ay ["signs"] ["signs"] (Af O1):=⟨rfl,rfl,rfl,by decide +kernel,rfl,by decide +kernel,by decide +kernel⟩
abbrev Nr:Stmt:=top 23
theorem Fb:Ay ["profile", "one", "other", "size", "unit", "cloth", "text", "of_one", "of_other"] ["profile", "one", "other"] (Af Nr):=⟨rfl,rfl,rfl,by decide +kernel,rfl,by decide +kernel,by decide +kernel⟩
abbrev Wf:Stmt:=top 24
theorem YS:Ay ["one", "other", "size"] ["one", "other"] (Af Wf):=⟨rfl,rfl,rfl,by decide +kernel,rfl,by decide +kernel,by decide +kernel⟩
abbrev Abu:Stmt:=top 26
theorem AfF:Ay ["cloth", "across", "along", "size"] ["cloth", "across", "along"] (Af Abu):=⟨rfl,rfl,rfl,by decide +kernel,rfl,by decide +kernel,by decide +kernel⟩
abbrev Nt:Stmt:=top 28
theorem Dm:Ay ["pieces", "ends", "picks", "number", "piece", "end_places", "pick_places", "cloth", "owner", "place", "own", "signs"] ["pieces", "ends", "picks"] (Af Nt):=⟨rfl,rfl,rfl,by decide +kernel,rfl,by decide +kernel,by decide +kernel⟩
abbrev RB:Stmt:=top 29
theorem V5:Ay ["owners", "pieces", "owner"] ["owners", "pieces"] (Af RB):=⟨rfl,rfl,rfl,by decide +kernel,rfl,by decide +kernel,by decide +kernel⟩
abbrev Tv:Stmt:=top 30
theorem RC:Ay ["piece", "ends", "picks", "text", "sign"] ["piece", "ends", "picks"] (Af Tv):=⟨rfl,rfl,rfl,by decide +kernel,rfl,by decide +kernel,by decide +kernel⟩
abbrev Nu:Stmt:=top 31
theorem ZW:Ay ["owners"] ["owners"] (Af Nu):=⟨rfl,rfl,rfl,by decide +kernel,rfl,by decide +kernel,by decide +kernel⟩
abbrev ZX:Stmt:=top 32
theorem AgW:Ay ["pick_owner", "own", "end_owner", "place"] ["pick_owner", "own", "end_owner", "place"] (Af ZX):=⟨rfl,rfl,rfl,by decide +kernel,rfl,by decide +kernel,by decide +kernel⟩
abbrev Vc:Stmt:=top 48
theorem Adc:Ay ["ends", "picks"] ["ends", "picks"] (Af Vc):=⟨rfl,rfl,rfl,by decide +kernel,rfl,by decide +kernel,by decide +kernel⟩
abbrev PL:Stmt:=top 49
theorem YT:Ay ["one", "other"] ["one", "other"] (Af PL):=⟨rfl,rfl,rfl,by decide +kernel,rfl,by decide +kernel,by decide +kernel⟩
abbrev Vd:Stmt:=top 50
theorem AfG:Ay ["size", "step"] ["size", "step"] (Af Vd):=⟨rfl,rfl,rfl,by decide +kernel,rfl,by decide +kernel,by decide +kernel⟩
abbrev ZZ:Stmt:=top 51
theorem AgX:Ay ["word", "things"] ["word", "things"] (Af ZZ):=⟨rfl,rfl,rfl,by decide +kernel,rfl,by decide +kernel,by decide +kernel⟩
abbrev Wg:Stmt:=top 55
theorem Aex:Ay ["figures"] ["figures"] (Af Wg):=⟨rfl,rfl,rfl,by decide +kernel,rfl,by decide +kernel,by decide +kernel⟩
abbrev RD:Stmt:=top 60
theorem Abb:Ay ["text", "known"] ["text", "known"] (Af RD):=⟨rfl,rfl,rfl,by decide +kernel,rfl,by decide +kernel,by decide +kernel⟩
abbrev Ve:Stmt:=top 61
theorem Tw:Ay ["text", "reader", "node"] ["text"] (Af Ve):=⟨rfl,rfl,rfl,by decide +kernel,rfl,by decide +kernel,by decide +kernel⟩
abbrev Wh:Stmt:=top 62
theorem Lj:Ay ["reader", "depth", "word", "things"] ["reader", "depth"] (Af Wh):=⟨rfl,rfl,rfl,by decide +kernel,rfl,by decide +kernel,by decide +kernel⟩
abbrev Tz:Stmt:=top 63
theorem RG:Ay ["reader", "word", "depth", "things", "kind"] ["reader", "word", "depth"] (Af Tz):=⟨rfl,rfl,rfl,by decide +kernel,rfl,by decide +kernel,by decide +kernel⟩
abbrev Wi:Stmt:=top 64
theorem YW:Ay ["reader", "runs"] ["reader"] (Af Wi):=⟨rfl,rfl,rfl,by decide +kernel,rfl,by decide +kernel,by decide +kernel⟩
abbrev Yi:Stmt:=top 65
theorem AaO:Ay ["reader", "run"] ["reader"] (Af Yi):=⟨rfl,rfl,rfl,by decide +kernel,rfl,by decide +kernel,by decide +kernel⟩
abbrev T3:Stmt:=top 66
theorem Wj:Ay ["reader", "number"] ["reader"] (Af T3):=⟨rfl,rfl,rfl,by decide +kernel,rfl,by decide +kernel,by decide +kernel⟩
abbrev Vf:Stmt:=top 67
theorem Ade:Ay ["reader"] ["reader"] (Af Vf):=⟨rfl,rfl,rfl,by decide +kernel,rfl,by decide +kernel,by decide +kernel⟩
abbrev Ro:Stmt:=top 68
theorem XM:Ay ["node", "known", "things"] ["node", "known"] (Af Ro):=⟨rfl,rfl,rfl,by decide +kernel,rfl,by decide +kernel,by decide +kernel⟩
abbrev T4:Stmt:=top 69
theorem RJ:Ay ["name", "known", "one", "cloth"] ["name", "known"] (Af T4):=⟨rfl,rfl,rfl,by decide +kernel,rfl,by decide +kernel,by decide +kernel⟩
abbrev T5:Stmt:=top 70
theorem Acq:Ay ["word", "inner"] ["word", "inner"] (Af T5):=⟨rfl,rfl,rfl,by decide +kernel,rfl,by decide +kernel,by decide +kernel⟩
abbrev T7:Stmt:=top 71
theorem Acr:Ay ["word", "one", "other"] ["word", "one", "other"] (Af T7):=⟨rfl,rfl,rfl,by decide +kernel,rfl,by decide +kernel,by decide +kernel⟩
abbrev QT:Stmt:=top 72
theorem Aaa:Ay ["word", "things"] ["word", "things"] (Af QT):=⟨rfl,rfl,rfl,by decide +kernel,rfl,by decide +kernel,by decide +kernel⟩
abbrev Acs:Stmt:=top 74
theorem AiN:Ay ["script", "k"] ["script", "k"] (Af Acs):=⟨rfl,rfl,rfl,by decide +kernel,rfl,by decide +kernel,by decide +kernel⟩
abbrev Yj:Stmt:=top 75
theorem K3:Ay ["number", "ends", "picks", "rows", "j", "signs", "k"] ["number", "ends", "picks"] (Af Yj):=⟨rfl,rfl,rfl,by decide +kernel,rfl,by decide +kernel,by decide +kernel⟩
abbrev Wk:Stmt:=top 76
theorem YZ:Ay ["cell", "at"] ["cell"] (Af Wk):=⟨rfl,rfl,rfl,by decide +kernel,rfl,by decide +kernel,by decide +kernel⟩
abbrev Wl:Stmt:=top 77
theorem Aey:Ay ["sign"] ["sign"] (Af Wl):=⟨rfl,rfl,rfl,by decide +kernel,rfl,by decide +kernel,by decide +kernel⟩
abbrev Ju:Stmt:=top 78
theorem Adf:Ay ["word", "rows"] ["word", "rows"] (Af Ju):=⟨rfl,rfl,rfl,by decide +kernel,rfl,by decide +kernel,by decide +kernel⟩
abbrev Rp:Stmt:=top 79
theorem Qz:Ay ["profile", "one", "other", "rows", "texts", "j"] ["profile", "one", "other"] (Af Rp):=⟨rfl,rfl,rfl,by decide +kernel,rfl,by decide +kernel,by decide +kernel⟩
abbrev RK:Stmt:=top 80
theorem Wm:Ay ["one", "other", "rows", "j"] ["one", "other"] (Af RK):=⟨rfl,rfl,rfl,by decide +kernel,rfl,by decide +kernel,by decide +kernel⟩
abbrev Uo:Stmt:=top 81
theorem Yk:Ay ["word", "one", "other", "a", "b", "wide", "high"] ["word", "one", "other", "a", "b"] (Af Uo):=⟨rfl,rfl,rfl,by decide +kernel,rfl,by decide +kernel,by decide +kernel⟩
abbrev Yl:Stmt:=top 82
theorem AfH:Ay ["word", "names", "a", "b"] ["word", "names", "a", "b"] (Af Yl):=⟨rfl,rfl,rfl,by decide +kernel,rfl,by decide +kernel,by decide +kernel⟩
abbrev T9:Stmt:=top 83
theorem Iz:Ay ["text", "known", "refused", "piece"] ["text", "known"] (Af T9):=⟨rfl,rfl,rfl,by decide +kernel,rfl,by decide +kernel,by decide +kernel⟩
abbrev Wn:Stmt:=top 84
theorem Fw:Ay ["cell", "known", "word", "a", "b", "names", "text", "due", "refused", "piece", "found"] ["cell", "known"] (Af Wn):=⟨rfl,rfl,rfl,by decide +kernel,rfl,by decide +kernel,by decide +kernel⟩
abbrev Wo:Stmt:=top 85
theorem RL:Ay ["script", "number", "cell", "sizes", "names", "first", "second", "known"] ["script"] (Af Wo):=⟨rfl,rfl,rfl,by decide +kernel,rfl,by decide +kernel,by decide +kernel⟩
abbrev PN:Stmt:=(Ed (top 34)).getD 0 (.Pass ⟨0,0,0,0⟩)
theorem Za:Ay ["self", "texts", "writing"] ["self", "texts", "writing"] (Af PN):=⟨rfl,rfl,rfl,by decide +kernel,rfl,by decide +kernel,by decide +kernel⟩
abbrev Vg:Stmt:=(Ed (top 34)).getD 1 (.Pass ⟨0,0,0,0⟩)
theorem Adg:Ay ["self"] ["self"] (Af Vg):=⟨rfl,rfl,rfl,by decide +kernel,rfl,by decide +kernel,by decide +kernel⟩
abbrev Vh:Stmt:=(Ed (top 34)).getD 2 (.Pass ⟨0,0,0,0⟩)
theorem Adh:Ay ["self"] ["self"] (Af Vh):=⟨rfl,rfl,rfl,by decide +kernel,rfl,by decide +kernel,by decide +kernel⟩
abbrev Zb:Stmt:=(Ed (top 34)).getD 3 (.Pass ⟨0,0,0,0⟩)
abbrev TF:Stmt:=(Ed (top 34)).getD 4 (.Pass ⟨0,0,0,0⟩)
theorem Acu:Ay ["self"] ["self"] (Af TF):=⟨rfl,rfl,rfl,by decide +kernel,rfl,by decide +kernel,by decide +kernel⟩
abbrev Vi:Stmt:=(Ed (top 34)).getD 5 (.Pass ⟨0,0,0,0⟩)
theorem Adi:Ay ["self"] ["self"] (Af Vi):=⟨rfl,rfl,rfl,by decide +kernel,rfl,by decide +kernel,by decide +kernel⟩
abbrev PQ:Stmt:=(Ed (top 35)).getD 0 (.Pass ⟨0,0,0,0⟩)
theorem Zc:Ay ["self", "name", "known_cloth"] ["self", "name", "known_cloth"] (Af PQ):=⟨rfl,rfl,rfl,by decide +kernel,rfl,by decide +kernel,by decide +kernel⟩
abbrev Nv:Stmt:=(Ed (top 36)).getD 0 (.Pass ⟨0,0,0,0⟩)
theorem Aab:Ay ["self", "runs"] ["self", "runs"] (Af Nv):=⟨rfl,rfl,rfl,by decide +kernel,rfl,by decide +kernel,by decide +kernel⟩
abbrev Lk:Stmt:=(Ed (top 37)).getD 0 (.Pass ⟨0,0,0,0⟩)
theorem Kf:Ay ["self", "over", "under", "size", "first", "texts"] ["self", "over", "under"] (Af Lk):=⟨rfl,rfl,rfl,by decide +kernel,rfl,by decide +kernel,by decide +kernel⟩
abbrev IK:Stmt:=(Ed (top 38)).getD 0 (.Pass ⟨0,0,0,0⟩)
theorem O2:Ay ["self", "size", "step", "overs", "texts"] ["self", "size", "step"] (Af IK):=⟨rfl,rfl,rfl,by decide +kernel,rfl,by decide +kernel,by decide +kernel⟩
abbrev Kg:Stmt:=(Ed (top 39)).getD 0 (.Pass ⟨0,0,0,0⟩)
theorem RM:Ay ["self", "one", "other", "texts"] ["self", "one", "other"] (Af Kg):=⟨rfl,rfl,rfl,by decide +kernel,rfl,by decide +kernel,by decide +kernel⟩
abbrev PX:Stmt:=(Ed (top 40)).getD 0 (.Pass ⟨0,0,0,0⟩)
theorem Zd:Ay ["self", "one", "other"] ["self", "one", "other"] (Af PX):=⟨rfl,rfl,rfl,by decide +kernel,rfl,by decide +kernel,by decide +kernel⟩
abbrev Kh:Stmt:=(Ed (top 41)).getD 0 (.Pass ⟨0,0,0,0⟩)
theorem RN:Ay ["self", "inner", "texts"] ["self", "inner"] (Af Kh):=⟨rfl,rfl,rfl,by decide +kernel,rfl,by decide +kernel,by decide +kernel⟩
abbrev Qa:Stmt:=(Ed (top 42)).getD 0 (.Pass ⟨0,0,0,0⟩)
theorem Ze:Ay ["self", "inner"] ["self", "inner"] (Af Qa):=⟨rfl,rfl,rfl,by decide +kernel,rfl,by decide +kernel,by decide +kernel⟩
abbrev QV:Stmt:=(Ed (top 43)).getD 0 (.Pass ⟨0,0,0,0⟩)
theorem Aac:Ay ["self", "inner"] ["self", "inner"] (Af QV):=⟨rfl,rfl,rfl,by decide +kernel,rfl,by decide +kernel,by decide +kernel⟩
abbrev N8:Stmt:=(Ed (top 44)).getD 0 (.Pass ⟨0,0,0,0⟩)
theorem X5:Ay ["self", "inner"] ["self", "inner"] (Af N8):=⟨rfl,rfl,rfl,by decide +kernel,rfl,by decide +kernel,by decide +kernel⟩
abbrev QW:Stmt:=(Ed (top 45)).getD 0 (.Pass ⟨0,0,0,0⟩)
theorem Up:Ay ["self", "inner", "across", "along", "texts"] ["self", "inner", "across", "along"] (Af QW):=⟨rfl,rfl,rfl,by decide +kernel,rfl,by decide +kernel,by decide +kernel⟩
abbrev O3:Stmt:=(Ed (top 46)).getD 0 (.Pass ⟨0,0,0,0⟩)
theorem RP:Ay ["self", "profile", "one", "other", "texts"] ["self", "profile", "one", "other"] (Af O3):=⟨rfl,rfl,rfl,by decide +kernel,rfl,by decide +kernel,by decide +kernel⟩
abbrev RQ:Stmt:=(Ed (top 47)).getD 0 (.Pass ⟨0,0,0,0⟩)
theorem V6:Ay ["self", "upper", "lower", "texts"] ["self", "upper", "lower"] (Af RQ):=⟨rfl,rfl,rfl,by decide +kernel,rfl,by decide +kernel,by decide +kernel⟩
abbrev O4:Stmt:=(Ed (top 54)).getD 0 (.Pass ⟨0,0,0,0⟩)
theorem Ym:Ay ["self", "text"] ["self", "text"] (Af O4):=⟨rfl,rfl,rfl,by decide +kernel,rfl,by decide +kernel,by decide +kernel⟩
abbrev RT:Stmt:=(Ed (top 54)).getD 1 (.Pass ⟨0,0,0,0⟩)
theorem Abd:Ay ["self"] ["self"] (Af RT):=⟨rfl,rfl,rfl,by decide +kernel,rfl,by decide +kernel,by decide +kernel⟩
abbrev TJ:Stmt:=(Ed (top 54)).getD 2 (.Pass ⟨0,0,0,0⟩)
theorem Wq:Ay ["self", "wanted", "behind"] ["self", "wanted"] (Af TJ):=⟨rfl,rfl,rfl,by decide +kernel,rfl,by decide +kernel,by decide +kernel⟩
abbrev Qc:Stmt:=(Ed (top 54)).getD 3 (.Pass ⟨0,0,0,0⟩)
theorem Tc:Ay ["self", "signs", "begin"] ["self", "signs"] (Af Qc):=⟨rfl,rfl,rfl,by decide +kernel,rfl,by decide +kernel,by decide +kernel⟩
abbrev QX:Stmt:=(Ed (top 54)).getD 4 (.Pass ⟨0,0,0,0⟩)
theorem Aad:Ay ["self"] ["self"] (Af QX):=⟨rfl,rfl,rfl,by decide +kernel,rfl,by decide +kernel,by decide +kernel⟩
set_option genInjectivity false in
structure Adr where
 Bc:Addr
 De:Addr
 DW:Addr
 Dg:Addr
 Dh:Addr
 Cr:Addr
 Dk:Addr
 Cu:Addr
 Dl:Addr
 Eg:Addr
 BW:Addr
 DX:Addr
 Cj:Addr
 Hl:Addr
 BV:Addr
 QG:Addr
 Vj:Addr
 Bd:Addr
 Bs:FuncData
 Ar:Addr
 Fy:FuncData
 Av:Addr
 Fz:FuncData
 Bf:Addr
 Rq:FuncData
 Ai:Addr
 Cm:FuncData
 Al:Addr
 Cw:FuncData
 Fd:Addr
 Gw:FuncData
 Gh:Addr
 Hm:FuncData
 Fe:Addr
 Gx:FuncData
 Ff:Addr
 Gy:FuncData
 Ek:Addr
 FZ:FuncData
 Fg:Addr
 Gz:FuncData
 El:Addr
 Ga:FuncData
 Fi:Addr
 G3:FuncData
 Gi:Addr
 Hn:FuncData
 DY:Addr
 Fj:FuncData
 Gj:Addr
 Ho:FuncData
 Em:Addr
 Gb:FuncData
 GK:Addr
 IV:FuncData
 En:Addr
 Gd:FuncData
 GP:Addr
 GQ:FuncData
 FJ:Addr
 FN:FuncData
 Ce:Addr
 Cg:FuncData
 Hq:Addr
 Hr:FuncData
 Qd:Addr
 Qe:FuncData
 Ih:Addr
 Ii:FuncData
 Ru:Addr
 Rv:FuncData
 Ln:Addr
 Lp:FuncData
 G4:Addr
 G5:FuncData
 Lq:Addr
 Lr:FuncData
 NP:Addr
 NQ:FuncData
 GR:Addr
 GX:FuncData
 Hs:Addr
 Ht:FuncData
 NT:Addr
 NZ:FuncData
 Xo:Addr
 Xp:FuncData
 Hu:Addr
 Hv:FuncData
 IW:Addr
 Ja:FuncData
 J9:Addr
 JB:FuncData
 Hw:Addr
 Hx:FuncData
 Rw:Addr
 Rx:FuncData
 Eo:Addr
 Ep:FuncData
 Fl:Addr
 Fo:FuncData
 Qf:Addr
 Qg:FuncData
 Ea:Addr
 Eb:FuncData
 Oa:Addr
 Ob:FuncData
 Jb:Addr
 Jc:FuncData
 Ls:Addr
 Lw:FuncData
 HS:Addr
 HW:FuncData
 Ij:Addr
 Ik:FuncData
 Od:Addr
 Oe:FuncData
 Qh:Addr
 Qi:FuncData
 JC:Addr
 JD:FuncData
 Lx:Addr
 Ly:FuncData
 HX:Addr
 HY:FuncData
 JF:Addr
 JG:FuncData
 JH:Addr
 JK:FuncData
 JL:Addr
 JM:FuncData
 Hy:Addr
 Hz:FuncData
 Uq:Addr
 Ur:FuncData
 Qj:Addr
 Qk:FuncData
 Og:Addr
 Oh:FuncData
 Oj:Addr
 Ol:FuncData
 Lz:Addr
 LC:FuncData
 LK:Addr
 LQ:FuncData
 Ql:Addr
 Qm:FuncData
 Ry:Addr
 Rz:FuncData
 Qn:Addr
 Qo:FuncData
 JN:Addr
 JP:FuncData
 Om:Addr
 Oo:FuncData
 Acv:Addr
 AmN:FuncData
 DR:Addr
 BR:Addr
 Bm:Addr
 Dd:Addr
structure Txt (K:PySem.W.Frag) (mg:Str→Option Value) (t:Adr):Prop where
 Vk:Df K mg "is_name" Xm ["text"] t.Qd t.Qe
 measured:Df K mg "measured" Yh ["cloth"] t.Ih t.Ii
 Abv:Df K mg "back_of" Xn ["cloth"] t.Ru t.Rv
 Vl:Df K mg "quarter_of" Rn ["cloth"] t.Ln t.Lp
 O5:Df K mg "measured_texts" PJ ["texts", "least", "signs"] t.G4 t.G5
 Vm:Df K mg "check_pick" Vb ["text", "ends", "signs"] t.Lq t.Lr
 Xq:Df K mg "end_signs" SX ["cloth", "end"] t.NP t.NQ
 Jv:Df K mg "turned_signs" O1 ["signs"] t.GR t.GX
 Q0:Df K mg "filled_blocks" Nr ["profile", "one", "other"] t.Hs t.Ht
 Xr:Df K mg "unit_size" Wf ["one", "other"] t.NT t.NZ
 AhR:Df K mg "tiled" Abu ["cloth", "across", "along"] t.Xo t.Xp
 Q3:Df K mg "laid_together" Nt ["pieces", "ends", "picks"] t.Hu t.Hv
 Jw:Df K mg "check_owners" RB ["owners", "pieces"] t.IW t.Ja
 Td:Df K mg "check_piece" Tv ["piece", "ends", "picks"] t.J9 t.JB
 Il:Df K mg "places_within" Nu ["owners"] t.Hw t.Hx
 Abw:Df K mg "sign_at" ZX ["pick_owner", "own", "end_owner", "place"] t.Rw t.Rx
 Di:Df K mg "check_size" Vc ["ends", "picks"] t.Eo t.Ep
 GZ:Df K mg "check_one_size" PL ["one", "other"] t.Fl t.Fo
 Zf:Df K mg "prime_to" Vd ["size", "step"] t.Qf t.Qg
 written:Df K mg "written" ZZ ["word", "things"] t.Ea t.Eb
 Xu:Df K mg "number_of" Wg ["figures"] t.Oa t.Ob
 Rr:Df K mg "read_pattern" RD ["text", "known"] t.Jb t.Jc
 Vn:Df K mg "read_whole" Ve ["text"] t.Ls t.Lw
 Oq:Df K mg "read_node" Wh ["reader", "depth"] t.HS t.HW
 K4:Df K mg "read_things" Tz ["reader", "word", "depth"] t.Ij t.Ik
 Xv:Df K mg "read_runs" Wi ["reader"] t.Od t.Oe
 RW:Df K mg "read_run" Yi ["reader"] t.Qh t.Qi
 Te:Df K mg "read_number" T3 ["reader"] t.JC t.JD
 Vo:Df K mg "read_comma" Vf ["reader"] t.Lx t.Ly
 NB:Df K mg "worked_out" Ro ["node", "known"] t.HX t.HY
 Tf:Df K mg "known_cloth" T4 ["name", "known"] t.JF t.JG
 Tg:Df K mg "made_of_one" T5 ["word", "inner"] t.JH t.JK
 Th:Df K mg "made_of_two" T7 ["word", "one", "other"] t.JL t.JM
 Q4:Df K mg "made_of_three" QT ["word", "things"] t.Hy t.Hz
 TQ:Df K mg "_law_at" Acs ["script", "k"] t.Uq t.Ur
 RX:Df K mg "_law_rows" Yj ["number", "ends", "picks"] t.Qj t.Qk
 Xw:Df K mg "_law_names" Wk ["cell"] t.Og t.Oh
 Qp:Df K mg "_law_other" Wl ["sign"] t.Oj t.Ol
 Vp:Df K mg "_law_turned" Ju ["word", "rows"] t.Lz t.LC
 Vq:Df K mg "_law_filled" Rp ["profile", "one", "other"] t.LK t.LQ
 Zg:Df K mg "_law_laid" RK ["one", "other"] t.Ql t.Qm
 Abx:Df K mg "_law_due" Uo ["word", "one", "other", "a", "b"] t.Ry t.Rz
 Zh:Df K mg "_law_text" Yl ["word", "names", "a", "b"] t.Qn t.Qo
 Ti:Df K mg "_law_reading" T9 ["text", "known"] t.JN t.JP
 Xx:Df K mg "_law_right" Wn ["cell", "known"] t.Om t.Oo
 law:Df K mg "law" Wo ["script"] t.Acv t.AmN
 AlW:mg "ValueError" = none
 Apb:mg "all" = none
 AmO:mg "any" = none
 AfI:mg "enumerate" = none
 AmP:mg "int" = none
 Vr:mg "isinstance" = none
 Ec:mg "len" = none
 Wr:mg "list" = none
 Nx:mg "range" = none
 Qq:mg "reversed" = none
 AaP:mg "str" = none
 AlX:mg "tuple" = none
 AhS:mg "zip" = none
 Aae:∃ tk,mg "LETTERS" = some (.str "abcdefghijklmnopqrstuvwxyz" tk)
 Acw:∃ tk,mg "MOST_LETTERS" = some (.int 20 tk)
 Er:∃ tk,mg "MOST_STRANDS" = some (.int 40 tk)
 AiO:∃ tk,mg "FIGURES" = some (.str "0123456789" tk)
 AaQ:∃ tk,mg "MOST_DEEP" = some (.int 12 tk)
 AfJ:∃ tk,mg "MOST_RUNS" = some (.int 40 tk)
 AlY:mg "WeaveError" = some (.ref t.DR)
 AlZ:Exn K t.DR
 Vs:mg "TooLarge" = some (.ref t.BR)
 RZ:Exn K t.BR
 Hj:PySem.W.mroIn K t.BR (.ref t.DR)=some true
 Gn:PySem.W.mroIn K t.BR (.ref t.BR)=some true
 FQ:PySem.W.mroIn K t.BR (.ref t.Bm)=some false
 Jx:PySem.W.mroIn K t.BR (.ref t.Dd)=some false
 Ck:mg "NoPattern" = some (.ref t.Bm)
 Cd:Exn K t.Bm
 Gu:PySem.W.mroIn K t.Bm (.ref t.DR)=some true
 Ia:PySem.W.mroIn K t.Bm (.ref t.BR)=some false
 EY:PySem.W.mroIn K t.Bm (.ref t.Bm)=some true
 Ip:PySem.W.mroIn K t.Bm (.ref t.Dd)=some false
 AiP:mg "Unknown" = some (.ref t.Dd)
 AiQ:Exn K t.Dd
 Ib:PySem.W.mroIn K t.Dd (.ref t.DR)=some true
 Jy:PySem.W.mroIn K t.Dd (.ref t.BR)=some false
 Ir:PySem.W.mroIn K t.Dd (.ref t.Bm)=some false
 Kl:PySem.W.mroIn K t.Dd (.ref t.Dd)=some true
 Km:mg "Piece" = some (.ref t.Bc)
 Apz:L2.Own K t.Bc t.Bd
 O6:CT K t.Bc "texts"
 LR:CT K t.Bc "writing"
 Ama:mg "Named" = some (.ref t.De)
 Aez:L2.Own K t.De t.Fd
 Jd:CT K t.De "texts"
 G6:CT K t.De "writing"
 Aks:Isa K t.De
 Ws:PySem.W.kitOne K (.ref t.De) (.ref t.Bc)=some true
 Mv:Meth K t.De "wide" t.Ar
 Mw:Meth K t.De "high" t.Av
 Mx:Meth K t.De "sign" t.Bf
 K5:Meth K t.De "cloth" t.Ai
 My:Meth K t.De "told" t.Al
 AnK:mg "Rows" = some (.ref t.DW)
 AgY:L2.Own K t.DW t.Gh
 JQ:CT K t.DW "texts"
 HB:CT K t.DW "writing"
 Amb:Isa K t.DW
 Zi:PySem.W.kitOne K (.ref t.DW) (.ref t.Bc)=some true
 O7:Meth K t.DW "wide" t.Ar
 O8:Meth K t.DW "high" t.Av
 O9:Meth K t.DW "sign" t.Bf
 Mz:Meth K t.DW "cloth" t.Ai
 OD:Meth K t.DW "told" t.Al
 Amc:mg "Twill" = some (.ref t.Dg)
 Ae0:L2.Own K t.Dg t.Fe
 Je:CT K t.Dg "texts"
 G7:CT K t.Dg "writing"
 Akt:Isa K t.Dg
 Wu:PySem.W.kitOne K (.ref t.Dg) (.ref t.Bc)=some true
 M3:Meth K t.Dg "wide" t.Ar
 M4:Meth K t.Dg "high" t.Av
 M5:Meth K t.Dg "sign" t.Bf
 K6:Meth K t.Dg "cloth" t.Ai
 M6:Meth K t.Dg "told" t.Al
 Amd:mg "Satin" = some (.ref t.Dh)
 Ae1:L2.Own K t.Dh t.Ff
 Jf:CT K t.Dh "texts"
 G8:CT K t.Dh "writing"
 Aku:Isa K t.Dh
 Wv:PySem.W.kitOne K (.ref t.Dh) (.ref t.Bc)=some true
 M7:Meth K t.Dh "wide" t.Ar
 M8:Meth K t.Dh "high" t.Av
 M9:Meth K t.Dh "sign" t.Bf
 K7:Meth K t.Dh "cloth" t.Ai
 MF:Meth K t.Dh "told" t.Al
 Akv:mg "Beside" = some (.ref t.Cr)
 Acx:L2.Own K t.Cr t.Ek
 HD:CT K t.Cr "texts"
 Ge:CT K t.Cr "writing"
 AiR:Isa K t.Cr
 Us:PySem.W.kitOne K (.ref t.Cr) (.ref t.Bc)=some true
 K8:Meth K t.Cr "wide" t.Ar
 K9:Meth K t.Cr "high" t.Av
 KC:Meth K t.Cr "sign" t.Bf
 J2:Meth K t.Cr "cloth" t.Ai
 KD:Meth K t.Cr "told" t.Al
 Ame:mg "Above" = some (.ref t.Dk)
 Ae2:L2.Own K t.Dk t.Fg
 Jg:CT K t.Dk "texts"
 G9:CT K t.Dk "writing"
 Akw:Isa K t.Dk
 Ww:PySem.W.kitOne K (.ref t.Dk) (.ref t.Bc)=some true
 MJ:Meth K t.Dk "wide" t.Ar
 MK:Meth K t.Dk "high" t.Av
 MN:Meth K t.Dk "sign" t.Bf
 KH:Meth K t.Dk "cloth" t.Ai
 MP:Meth K t.Dk "told" t.Al
 Akx:mg "Mirror" = some (.ref t.Cu)
 Acy:L2.Own K t.Cu t.El
 HF:CT K t.Cu "texts"
 Gf:CT K t.Cu "writing"
 AiS:Isa K t.Cu
 Ut:PySem.W.kitOne K (.ref t.Cu) (.ref t.Bc)=some true
 KJ:Meth K t.Cu "wide" t.Ar
 KN:Meth K t.Cu "high" t.Av
 KQ:Meth K t.Cu "sign" t.Bf
 J3:Meth K t.Cu "cloth" t.Ai
 KR:Meth K t.Cu "told" t.Al
 Amf:mg "Upend" = some (.ref t.Dl)
 Ae3:L2.Own K t.Dl t.Fi
 Jh:CT K t.Dl "texts"
 GC:CT K t.Dl "writing"
 Aky:Isa K t.Dl
 Wy:PySem.W.kitOne K (.ref t.Dl) (.ref t.Bc)=some true
 MT:Meth K t.Dl "wide" t.Ar
 Nf:Meth K t.Dl "high" t.Av
 Ng:Meth K t.Dl "sign" t.Bf
 KY:Meth K t.Dl "cloth" t.Ai
 Nh:Meth K t.Dl "told" t.Al
 AnL:mg "Back" = some (.ref t.Eg)
 AgZ:L2.Own K t.Eg t.Gi
 JR:CT K t.Eg "texts"
 HH:CT K t.Eg "writing"
 Amg:Isa K t.Eg
 Zj:PySem.W.kitOne K (.ref t.Eg) (.ref t.Bc)=some true
 OJ:Meth K t.Eg "wide" t.Ar
 Pa:Meth K t.Eg "high" t.Av
 Pb:Meth K t.Eg "sign" t.Bf
 Ni:Meth K t.Eg "cloth" t.Ai
 Pg:Meth K t.Eg "told" t.Al
 AiT:mg "Quarter" = some (.ref t.BW)
 Aaf:L2.Own K t.BW t.DY
 GD:CT K t.BW "texts"
 Fp:CT K t.BW "writing"
 Aha:Isa K t.BW
 Sh:PySem.W.kitOne K (.ref t.BW) (.ref t.Bc)=some true
 J4:Meth K t.BW "wide" t.Ar
 J5:Meth K t.BW "high" t.Av
 J6:Meth K t.BW "sign" t.Bf
 Ji:Meth K t.BW "cloth" t.Ai
 J7:Meth K t.BW "told" t.Al
 AnM:mg "Tile" = some (.ref t.DX)
 Ahb:L2.Own K t.DX t.Gj
 JS:CT K t.DX "texts"
 HJ:CT K t.DX "writing"
 Amh:Isa K t.DX
 Zk:PySem.W.kitOne K (.ref t.DX) (.ref t.Bc)=some true
 Ph:Meth K t.DX "wide" t.Ar
 Pj:Meth K t.DX "high" t.Av
 Pk:Meth K t.DX "sign" t.Bf
 Nj:Meth K t.DX "cloth" t.Ai
 Pn:Meth K t.DX "told" t.Al
 Akz:mg "Blocks" = some (.ref t.Cj)
 Acz:L2.Own K t.Cj t.Em
 HN:CT K t.Cj "texts"
 Gg:CT K t.Cj "writing"
 AiU:Isa K t.Cj
 Uu:PySem.W.kitOne K (.ref t.Cj) (.ref t.Bc)=some true
 KZ:Meth K t.Cj "wide" t.Ar
 La:Meth K t.Cj "high" t.Av
 Lb:Meth K t.Cj "sign" t.Bf
 J8:Meth K t.Cj "cloth" t.Ai
 Ld:Meth K t.Cj "told" t.Al
 Apc:mg "Lay" = some (.ref t.Hl)
 Ak0:L2.Own K t.Hl t.GK
 Ma:CT K t.Hl "texts"
 Jj:CT K t.Hl "writing"
 AnN:Isa K t.Hl
 Ac0:PySem.W.kitOne K (.ref t.Hl) (.ref t.Bc)=some true
 QH:Meth K t.Hl "wide" t.Ar
 QJ:Meth K t.Hl "high" t.Av
 QK:Meth K t.Hl "sign" t.Bf
 Pq:Meth K t.Hl "cloth" t.Ai
 QL:Meth K t.Hl "told" t.Al
 Ak1:mg "Reader" = some (.ref t.BV)
 By:L2.Own K t.BV t.En
 DP:CT K t.BV "text"
 Ci:CT K t.BV "place"
 Jk:AoK K t.Bc "__init__" t.Bd
 Ami:mg "WORDS" = some (.ref t.Vj)
 Amj:AoO K t.Vj (["rows", "twill", "satin", "beside", "above", "mirror", "upend", "back", "quarter", "tile", "blocks", "lay"]:List Str)
 AfK:mg "THINGS" = some (.ref t.QG)
 AfL:Top K t.QG ([("twill", "nn"),("satin", "nn"),("beside", "pp"),("above", "pp"),("mirror", "p"),("upend", "p"),("back", "p"),("quarter", "p"),("tile", "pnn"),("blocks", "ppp"),("lay", "pp")]:List (Str × Str))
 BX:Mf K "__init__" "Piece.__init__" PN ["self", "texts", "writing"] t.Bc t.Bd t.Bs
 Es:Mf K "wide" "Piece.wide" Vg ["self"] t.Bc t.Ar t.Fy
 Et:Mf K "high" "Piece.high" Vh ["self"] t.Bc t.Av t.Fz
 Amk:Mf K "sign" "Piece.sign" Zb ["self", "x", "y"] t.Bc t.Bf t.Rq
 Cp:Mf K "cloth" "Piece.cloth" TF ["self"] t.Bc t.Ai t.Cm
 Cz:Mf K "told" "Piece.told" Vi ["self"] t.Bc t.Al t.Cw
 Uv:Mf K "__init__" "Named.__init__" PQ ["self", "name", "known_cloth"] t.De t.Fd t.Gw
 V7:Mf K "__init__" "Rows.__init__" Nv ["self", "runs"] t.DW t.Gh t.Hm
 Uw:Mf K "__init__" "Twill.__init__" Lk ["self", "over", "under"] t.Dg t.Fe t.Gx
 Ux:Mf K "__init__" "Satin.__init__" IK ["self", "size", "step"] t.Dh t.Ff t.Gy
 Tj:Mf K "__init__" "Beside.__init__" Kg ["self", "one", "other"] t.Cr t.Ek t.FZ
 Uy:Mf K "__init__" "Above.__init__" PX ["self", "one", "other"] t.Dk t.Fg t.Gz
 Tn:Mf K "__init__" "Mirror.__init__" Kh ["self", "inner"] t.Cu t.El t.Ga
 Uz:Mf K "__init__" "Upend.__init__" Qa ["self", "inner"] t.Dl t.Fi t.G3
 V8:Mf K "__init__" "Back.__init__" QV ["self", "inner"] t.Eg t.Gi t.Hn
 Sq:Mf K "__init__" "Quarter.__init__" N8 ["self", "inner"] t.BW t.DY t.Fj
 V9:Mf K "__init__" "Tile.__init__" QW ["self", "inner", "across", "along"] t.DX t.Gj t.Ho
 Tp:Mf K "__init__" "Blocks.__init__" O3 ["self", "profile", "one", "other"] t.Cj t.Em t.Gb
 Wz:Mf K "__init__" "Lay.__init__" RQ ["self", "upper", "lower"] t.Hl t.GK t.IV
 Tq:Mf K "__init__" "Reader.__init__" O4 ["self", "text"] t.BV t.En t.Gd
 Le:Mf K "ended" "Reader.ended" RT ["self"] t.BV t.GP t.GQ
 Dp:Mf K "took" "Reader.took" TJ ["self", "wanted"] t.BV t.FJ t.FN
 Am:Mf K "stretch" "Reader.stretch" Qc ["self", "signs"] t.BV t.Ce t.Cg
 QZ:Mf K "number" "Reader.number" QX ["self"] t.BV t.Hq t.Hr
theorem bl1{fd:FuncData}{ps:List Str}(h:∀ a0:Value,bindArgs fd ⟨[a0],[]⟩=pure (ps.zip [a0]))(us:List Value)(hl:us.length=1):bindArgs fd ⟨us,[]⟩=pure (ps.zip us):=by
 rcases us with _ | ⟨a0,us⟩
 ·cases hl
 rcases us with _ | ⟨b,us⟩
 ·exact h a0
 ·cases hl
theorem bl2{fd:FuncData}{ps:List Str}(h:∀ a0 a1:Value,bindArgs fd ⟨[a0,a1],[]⟩=pure (ps.zip [a0,a1]))(us:List Value)(hl:us.length=2):bindArgs fd ⟨us,[]⟩=pure (ps.zip us):=by
 rcases us with _ | ⟨a0,us⟩
 ·cases hl
 rcases us with _ | ⟨a1,us⟩
 ·cases hl
 rcases us with _ | ⟨b,us⟩
 ·exact h a0 a1
 ·cases hl
theorem bl3{fd:FuncData}{ps:List Str}(h:∀ a0 a1 a2:Value,bindArgs fd ⟨[a0,a1,a2],[]⟩=pure (ps.zip [a0,a1,a2]))(us:List Value)(hl:us.length=3):bindArgs fd ⟨us,[]⟩=pure (ps.zip us):=by
 rcases us with _ | ⟨a0,us⟩
 ·cases hl
 rcases us with _ | ⟨a1,us⟩
 ·cases hl
 rcases us with _ | ⟨a2,us⟩
 ·cases hl
 rcases us with _ | ⟨b,us⟩
 ·exact h a0 a1 a2
 ·cases hl
theorem bl4{fd:FuncData}{ps:List Str}(h:∀ a0 a1 a2 a3:Value,bindArgs fd ⟨[a0,a1,a2,a3],[]⟩=pure (ps.zip [a0,a1,a2,a3]))(us:List Value)(hl:us.length=4):bindArgs fd ⟨us,[]⟩=pure (ps.zip us):=by
 rcases us with _ | ⟨a0,us⟩
 ·cases hl
 rcases us with _ | ⟨a1,us⟩
 ·cases hl
 rcases us with _ | ⟨a2,us⟩
 ·cases hl
 rcases us with _ | ⟨a3,us⟩
 ·cases hl
 rcases us with _ | ⟨b,us⟩
 ·exact h a0 a1 a2 a3
 ·cases hl
theorem bl5{fd:FuncData}{ps:List Str}(h:∀ a0 a1 a2 a3 a4:Value,bindArgs fd ⟨[a0,a1,a2,a3,a4],[]⟩=pure (ps.zip [a0,a1,a2,a3,a4]))(us:List Value)(hl:us.length=5):bindArgs fd ⟨us,[]⟩=pure (ps.zip us):=by
 rcases us with _ | ⟨a0,us⟩
 ·cases hl
 rcases us with _ | ⟨a1,us⟩
 ·cases hl
 rcases us with _ | ⟨a2,us⟩
 ·cases hl
 rcases us with _ | ⟨a3,us⟩
 ·cases hl
 rcases us with _ | ⟨a4,us⟩
 ·cases hl
 rcases us with _ | ⟨b,us⟩
 ·exact h a0 a1 a2 a3 a4
 ·cases hl
section
variable {P:Program}{w:World}{K:PySem.W.Frag}{mg:Str→Option Value}{base:Heap}{t:Adr}
def Aok (z:Str):Sp:=fun vs H Q _=>∃ v,vs=[v]∧Q (.str z) H
end
seal PE PT PW PA PS PSs PC PG PGs ApD PIp ApG PIE PI PO PEX PSX Anx
section
variable {P:Program}{w:World}{K:PySem.W.Frag}{mg:Str→Option Value}{base:Heap}{t:Adr}
def rf (u:List Nat)(p:Nat):List (Str × V):=[("text", .str (tx u)),("place", .int (p:Int))]
def Rd (t:Adr)(H:Hp)(r dx:Addr)(u:List Nat)(p:Nat):Prop:=H r=some (.ins t.BV dx (rf u p))∧p≤u.length∧u.length≤1000000
theorem Zm(u:List Nat)(p:Nat):(rf u p).lookup ("text" : Str)=some (V.str (tx u)):=rfl
theorem QM(u:List Nat)(p:Nat):(rf u p).lookup ("place" : Str)=some (V.int (p:Int)):=rfl
theorem AnO(u:List Nat)(p q:Nat):U4 "place" (.int (q:Int)) (rf u p)=rf u q:=rfl
theorem big{n:Nat}(h:n≤1000000):n≤sizeLine:=ArC h (by decide)
def Ak2 (t:Adr):Sp:=fun vs H Q _=>∃ r dx u p,vs=[.ref r]∧Rd t H r dx u p∧Q (.bl (decide (p=u.length))) H
theorem VB(T:Txt K mg t):Aj P w K mg base CX0 1 t.GP t.GQ ["self"] (Ak2 t):=by
 refine T.Le.F.ok Abd (fun vs H Q E h=>?_) (fun cdv A outer s H vs Q E hr h=>?_)
 ·obtain⟨r,dx,u,p,rfl,_⟩:=h
  rfl
 ·obtain⟨r,dx,u,p,rfl,⟨hr1,hp,hu⟩,k⟩:=h
  refine⟨_,(Ae (Bb (Lg Eh (Ke (K:=K) (pv 0) rfl) (Bq Ca rfl T.Ec CW (Aa (Ke (K:=K) (pv 0) rfl) Ab)) (Ax _)))),?_⟩
  refine⟨_,rfl,_,_,_,_,_,rfl,hr1,T.By.c,T.Ci,QM u p,?_⟩
  refine⟨_,rfl,_,_,_,_,_,rfl,hr1,T.By.c,T.DP,Zm u p,?_⟩
  refine⟨_,rfl,(by rw[Ah];exact big hu),rfl,?_⟩
  have e:decide (V.int (p:Int)=V.int ((tx u).length:Int))=decide (p=u.length):=by
   rw[Ah]
   apply decide_eq_decide.mpr
   constructor
   ·intro z;injection z with z;omega
   ·intro z;rw[z]
  rw[e]
  exact k
def Aml (t:Adr):Sp:=fun vs H Q _=>∃ r dx u p v,vs=[.ref r,.str (tx v)]∧Rd t H r dx u p∧v.length≤100 ∧
 ((u.drop p).take v.length=v→Q (.bl true) (upd H r (.ins t.BV dx (rf u (p+v.length)))))∧((u.drop p).take v.length≠v→Q (.bl false) H)
theorem AhT{u:List Nat}{p n:Nat}(h:p≤u.length):AaX u (some (p:Int)) (some ((p:Int)+(n:Int)))=(u.drop p).take n:=by
 unfold AaX
 rw[show((p:Int)+(n:Int))=((p+n:Nat):Int) by omega,HT.YC,HT.YC,Asp h]
 by_cases h2:p+n≤u.length
 ·rw[Asp h2,Nat.add_sub_cancel_left]
 ·rw[Nat.min_eq_right (by omega),ArS (by rw[ArM];omega),ArS (by rw[ArM];omega)]
theorem Pr(T:Txt K mg t):Aj P w K mg base CX0 1 t.FJ t.FN ["self", "wanted"] (Aml t):=by
 refine T.Dp.F.ok Wq (fun vs H Q E h=>?_) (fun cdv A outer s H vs Q E hr h=>?_)
 ·obtain⟨r,dx,u,p,v,rfl,_⟩:=h
  rfl
 ·obtain⟨r,dx,u,p,v,rfl,⟨hr1,hp,hu⟩,hv,k1,k2⟩:=h
  refine⟨_,(Ac (BP (i:=2) Wq.nd rfl (Or.inl rfl) (Bv U3 (Ke (K:=K) (pv 0) rfl) (Bq Ca rfl T.Ec CW (Aa (pv 1) Ab))))
   (Ac (BK (Ao Ui (Ku Wa (Ke (K:=K) (pv 0) rfl) (Lh (Ke (K:=K) (pv 0) rfl)) (Lh (pv 2))) (pv 1) (Ax _))
    (Ae (Bb Adz))
    Aw)
   (Ac (YH (K:=K) (pv 0) (pv 2))
   (Ae (Bb Adz))))),?_⟩
  refine⟨_,rfl,_,_,_,_,_,rfl,hr1,T.By.c,T.Ci,QM u p,_,rfl,_,rfl,(by rw[Ah];exact big (by omega)),_,_,rfl,rfl,?_⟩
  rw[Ah]
  refine⟨_,rfl,_,_,_,_,_,rfl,hr1,T.By.c,T.DP,Zm u p,?_⟩
  refine⟨_,rfl,_,_,_,_,_,rfl,hr1,T.By.c,T.Ci,QM u p,_,rfl,_,rfl,_,rfl,u,rfl,big hu,_,rfl,rfl,_,rfl,?_⟩
  rw[AhT hp]
  by_cases hc:(u.drop p).take v.length=v
  ·refine Uj (by rw[hc]) ?_
   refine⟨_,rfl,_,rfl,_,_,_,_,rfl,hr1,T.By.c,T.Ci,(by show 2<1000;decide),?_⟩
   show Q (.bl true) (upd H r (.ins t.BV dx (U4 ("place" : Str) (.int ((p:Int)+(v.length:Int))) (rf u p))))
   rw[show((p:Int)+(v.length:Int))=((p+v.length:Nat):Int) by omega,AnO]
   exact k1 hc
  ·refine Afp (fun z=>hc (by injection z with z;exact R7 z)) ?_
   exact k2 hc
def dg (c:Nat):Bool:=decide (48≤c∧c≤57)
def Arm (l:List Nat):List Nat:=l.takeWhile dg
def Ak3 (v:List Nat):V:=if (1≤v.length∧v.length≤2)∧¬(v.length=2∧v[0]?=some 48) then .int ((PySem.NumText.digitsVal v:Nat):Int) else .non
theorem Ak4{H:Hp}{r:Addr}{o:HO}(h:H r=some o):upd H r o=H:=by
 funext b
 unfold upd
 split
 next e=>rw[e,h]
 next=>rfl
theorem z48(c:Nat):(V.str ⟨#[c]⟩:V)=V.str "0" ↔ c=48:=by
 have e:(("0" : Str))=tx [48]:=by decide +kernel
 rw[e]
 exact⟨fun z=>by injection z with z;exact(List.cons.inj (R7 (a:=[c]) (b:=[48]) z)).1,fun z=>by rw[z];rfl⟩
def Ak5:Sp:=fun vs H Q _=>∃ v:List Nat,vs=[.str (tx v)]∧(∀ c∈v,48≤c∧c≤57)∧v.length≤1000000∧Q (Ak3 v) H
theorem Ae4(T:Txt K mg t):Aj P w K mg base CX0 1 t.Oa t.Ob ["figures"] Ak5:=by
 refine T.Xu.F.ok Aex (fun vs H Q E h=>?_) (fun cdv A outer s H vs Q E hr h=>?_)
 ·obtain⟨v,rfl,_⟩:=h
  rfl
 ·obtain⟨v,rfl,hd,hl,k⟩:=h
  have sz:(tx v).length≤sizeLine:=by rw[Ah];exact big hl
  refine⟨_,(Ac (BK (PW.pt (pw_or (Ao R5 (Bq Ca rfl T.Ec CW (Aa (pv 0) Ab)) Ak (Ax _)) (pw_or1 (Ao Q9 (Bq Ca rfl T.Ec CW (Aa (pv 0) Ab)) Ak (Ax _)))))
    (Ae (Bb Py))
    Aw)
   (Ac (BK (PW.pt (pw_and (Ao Eh (Bq Ca rfl T.Ec CW (Aa (pv 0) Ab)) Ak (Ax _)) (pw_and1 (Ao Eh (BL ZJ (pv 0) Ak (fun _ _=>rfl)) Ag (Ax _)))))
    (Ae (Bb Py))
    Aw)
   (Ae (Bb (Ex Ai2 rfl T.AmP Aj9 (Aa (pv 0) Ab)))))),?_⟩
  unfold Ak3 at k
  refine⟨_,rfl,_,rfl,sz,_,_,rfl,rfl,_,rfl,?_⟩
  rw[Ah]
  refine Ey (fun c1=>?_) (fun c1=>?_)
  ·refine Px ?_
   rw[if_neg (by omega)] at k
   exact k
  ·refine⟨_,rfl,_,rfl,sz,_,_,rfl,rfl,_,rfl,?_⟩
   rw[Ah]
   refine Ey (fun c2=>?_) (fun c2=>?_)
   ·rw[if_neg (by omega)] at k
    exact k
   ·refine⟨_,rfl,_,rfl,sz,rfl,_,rfl,?_⟩
    rw[Ah]
    have fin:¬(v.length=2∧v[0]?=some 48)→∃ z n,[V.str (tx v)]=[V.str z]∧PySem.intText? z=some n∧z.length≤640∧Q (.int n) H:=fun c3=>by
     rw[if_pos ⟨by omega,c3⟩] at k
     refine⟨tx v,_,rfl,PySem.intText_digits (x:=tx v) (by rw[Kc];exact hd) (by rw[Kc];intro z;rw[z] at c1;simp at c1) (by rw[Ah];omega),by rw[Ah];omega,?_⟩
     rw[Kc]
     exact k
    refine Ey (fun c3=>?_) (fun c3=>?_)
    ·have l2:v.length=2:=by injection c3 with c3;omega
     have h0:0<v.length:=by omega
     refine⟨_,rfl,_,_,v[0],rfl,rfl,sz,CZ (by decide) (by rw[Kc];exact Aru h0),rfl,_,rfl,?_⟩
     refine Ey (fun c4=>?_) (fun c4=>?_)
     ·rw[if_neg (fun z=>z.2 ⟨l2,by rw[Aru h0,(z48 _).mp c4]⟩)] at k
      exact k
     ·exact⟨_,rfl,fin fun z=>c4 ((z48 _).mpr (by have:=z.2;rw[Aru h0] at this;exact Option.some.inj this))⟩
    ·exact Rk ⟨_,rfl,fin fun z=>c3 (by rw[z.1];rfl)⟩
theorem Hk(u:List Nat)(p:Nat):(rf u p).lookup ("ended" : Str)=none∧(rf u p).lookup ("took" : Str)=none∧(rf u p).lookup ("number" : Str)=none∧(rf u p).lookup ("stretch" : Str)=none:=⟨rfl,rfl,rfl,rfl⟩
def Ap0:Sp:=fun vs H Q _=>∃(C r dx:Addr) (u:List Nat),vs=[.ref r,.str (tx u)]∧H r=some (.ins C dx [])∧Q .non (upd H r (.ins C dx (rf u 0)))
theorem Yn(T:Txt K mg t):Aj P w K mg base CX0 1 t.En t.Gd ["self", "text"] (fun vs H Q E=>∃(r dx:Addr) (u:List Nat),vs=[.ref r,.str (tx u)]∧H r=some (.ins t.BV dx [])∧Q .non (upd H r (.ins t.BV dx (rf u 0)))):=by
 refine T.Tq.F.ok Ym (fun vs H Q E h=>?_) (fun cdv A outer s H vs Q E hr h=>?_)
 ·obtain⟨r,dx,u,rfl,_⟩:=h
  rfl
 ·obtain⟨r,dx,u,rfl,h1,k⟩:=h
  refine⟨_,(Ac (YH (K:=K) (pv 0) (pv 1))
   (Ae (YH (K:=K) (pv 0) Ak))),?_⟩
  refine⟨_,rfl,_,rfl,_,_,_,_,rfl,h1,T.By.c,T.DP,(by decide),?_⟩
  refine⟨_,rfl,_,_,_,_,rfl,Ad,T.By.c,T.Ci,(by show 1<1000;decide),?_⟩
  rw[Lf]
  exact k
def stp (sg l:List Nat):List Nat:=l.takeWhile fun c=>decide (c∈sg)
theorem Ak6{sg:List Nat}:∀(l:List Nat) (n:Nat),n≤l.length→(∀ c∈l.take n,c∈sg)→(∀ c,l[n]?=some c→c∉sg)→stp sg l=l.take n
 | [],n,h,_,_=>by simp[stp]
 | c::l,0,_,_,h2=>by
  unfold stp
  rw[Asq,if_neg (by rw[decide_eq_true_eq];exact h2 c rfl)]
  rfl
 | c::l,n+1,h,h1,h2=>by
  have hc:c∈sg:=h1 c (by simp)
  have:=Ak6 (sg:=sg) l n (by simpa using h) (fun d hd=>h1 d (by rw[List.take_succ_cons];exact ArF _ hd)) (fun d hd=>h2 d (by simpa using hd))
  unfold stp at this ⊢
  rw[Asq,if_pos (decide_eq_true hc),this,List.take_succ_cons]
theorem AhU(sg:List Nat):∀(l:List Nat),(∀ c∈stp sg l,c∈sg)∧(stp sg l).length≤l.length
 | []=>⟨fun c hc=>(by cases hc),Art _⟩
 | a::l=>by
  have ih:=AhU sg l
  unfold stp at ih ⊢
  rw[Asq]
  by_cases h:a∈sg
  ·rw[if_pos (decide_eq_true h)]
   refine⟨fun c hc=>?_,by simp only [Ars];omega⟩
   rcases List.mem_cons.mp hc with e | e
   ·rw[e];exact h
   ·exact ih.1 c e
  ·rw[if_neg (by rw[decide_eq_true_eq];exact h)]
   exact⟨fun c hc=>(by cases hc),Ar9 _⟩
theorem AfM(sg:List Nat)(c:Nat):(!(Builtin.Str.occurrences (tx sg) ⟨#[c]⟩ 0 (tx sg).length 1).isEmpty)=decide (c∈sg):=by
 rw[StrLaws.found_one,Kc]
def Ahc (t:Adr):Sp:=fun vs H Q _=>∃ r dx u p sg,vs=[.ref r,.str (tx sg)]∧Rd t H r dx u p∧sg.length≤1000∧Q (.str (tx (stp sg (u.drop p)))) (upd H r (.ins t.BV dx (rf u (p+(stp sg (u.drop p)).length))))
theorem Dz(T:Txt K mg t):Aj P w K mg base CX0 2 t.Ce t.Cg ["self", "signs"] (Ahc t):=by
 have Ss:Aj P w K mg base CX0 1 t.GP t.GQ _ _:=VB T
 refine T.Am.F.ok Tc (fun vs H Q E h=>?_) (fun cdv A outer s H vs Q E hr h=>?_)
 ·obtain⟨r,dx,u,p,sg,rfl,_⟩:=h
  rfl
 ·obtain⟨r,dx,u,p,sg,rfl,⟨hr1,hp,hu⟩,hsg,k⟩:=h
  refine⟨_,(Ac (BP (i:=2) Tc.nd rfl (Or.inl rfl) (Ke (K:=K) (pv 0) rfl))
   (Ac (Afd PassesOwn.never (PW.pt (pw_and (QR (N7 (AbM (pv 0) T.By.c T.Le.m (Ss.mono (by decide)) hr T.Le.b .nil An))) (pw_and1 (Ao Ad0 (BL ZJ (Ke (K:=K) (pv 0) rfl) (Ke (K:=K) (pv 0) rfl) (fun _ _=>rfl)) (pv 1) rfl))))
    (Ae (Ag9 (K:=K) (pv 0) Ak Ank)))
   (Ae (Bb (Ku Wa (Ke (K:=K) (pv 0) rfl) (Lh (pv 2)) (Lh (Ke (K:=K) (pv 0) rfl))))))),?_⟩
  refine⟨_,rfl,_,_,_,_,_,rfl,hr1,T.By.c,T.Ci,QM u p,?_⟩
  refine⟨fun m σ H2=>∃ n,σ=[some (.ref r),some (.str (tx sg)),some (.int (p:Int))]∧H2=upd H r (.ins t.BV dx (rf u (p+n)))∧p+n≤u.length∧(∀ c∈(u.drop p).take n,c∈sg)∧m=u.length-(p+n),
   ⟨_,0,rfl,(Ak4 hr1).symm,hp,(fun c hc=>by simp at hc),rfl⟩,?_⟩
  rintro m σ H2 ⟨n,rfl,rfl,hn,ha,rfl⟩
  have hS:(upd H r (.ins t.BV dx (rf u (p+n)))) r=some (.ins t.BV dx (rf u (p+n))):=Ad
  have done:(∀ c,(u.drop p)[n]?=some c→c∉sg)→(u.drop p).take n=stp sg (u.drop p):=fun hs=>(Ak6 _ n (by rw[ArM];omega) ha hs).symm
  have ln:((u.drop p).take n).length=n:=by rw[Ar1,ArM];omega
  have e3:AaX u (some (p:Int)) (some ((p+n:Nat):Int))=(u.drop p).take n:=by rw[Int.natCast_add];exact AhT hp
  have fin:(u.drop p).take n=stp sg (u.drop p)→Q (.str (tx (AaX u (some (p:Int)) (some ((p+n:Nat):Int))))) (upd H r (.ins t.BV dx (rf u (p+n)))):=fun e2=>by
   have e1:(stp sg (u.drop p)).length=n:=by rw[← e2,ln]
   rw[e3,e2];rw[e1] at k;exact k
  refine⟨_,rfl,r,dx,rf u (p+n),rfl,hS,(Hk u _).1,r,dx,u,p+n,rfl,⟨hS,hn,hu⟩,_,rfl,?_⟩
  by_cases c1:p+n=u.length
  ·rw[decide_eq_true c1]
   refine Rk ?_
   refine Rk ?_
   exact⟨_,rfl,_,_,_,_,_,rfl,hS,T.By.c,T.DP,Zm u _,_,rfl,_,rfl,_,rfl,_,_,_,_,_,rfl,hS,T.By.c,T.Ci,QM u _,_,rfl,u,rfl,big hu,
    fin (done fun c hc=>by rw[ArU (by rw[ArM];omega)] at hc;cases hc)⟩
  ·rw[decide_eq_false c1]
   refine Px ?_
   have hlt:p+n<u.length:=by omega
   refine⟨_,rfl,_,_,_,_,_,rfl,hS,T.By.c,T.DP,Zm u _,_,rfl,_,_,_,_,_,rfl,hS,T.By.c,T.Ci,QM u _,_,_,u[p+n],rfl,rfl,(by rw[Ah];exact big hu),
    CZ (by omega) (by rw[Ar7,Kc];exact Aru hlt),_,rfl,_,_,rfl,rfl,_,rfl,?_⟩
   rw[AfM]
   refine Ey (fun c2=>?_) (fun c2=>?_)
   ·refine⟨_,fun σ' H' h=>h,?_⟩
    refine⟨_,rfl,_,_,_,_,_,rfl,hS,T.By.c,T.Ci,QM u _,_,_,rfl,rfl,dx,rf u (p+n),hS,(by show 2<1000;decide),?_⟩
    refine⟨u.length-(p+(n+1)),by omega,n+1,rfl,?_,by omega,fun c hc=>?_,rfl⟩
    ·rw[Lf]
     rfl
    ·rw[Ar5,AsH,Aru hlt] at hc
     rcases List.mem_append.mp hc with h | h
     ·exact ha c h
     ·rw[show c=u[p+n] by simpa using h]
      exact c2
   ·exact⟨_,rfl,_,_,_,_,_,rfl,hS,T.By.c,T.DP,Zm u _,_,rfl,_,rfl,_,rfl,_,_,_,_,_,rfl,hS,T.By.c,T.Ci,QM u _,_,rfl,u,rfl,big hu,
     fin (done fun c hc=>by rw[AsH,Aru hlt] at hc;cases hc;exact c2)⟩
def AfN:List Nat:=[48,49,50,51,52,53,54,55,56,57]
theorem AnP:(("0123456789" : Str))=tx AfN:=by decide +kernel
theorem AfO{c:Nat}:c∈AfN↔48≤c∧c≤57:=by
 unfold AfN
 simp only [Ar3,Ar4,or_false]
 omega
def AiV (t:Adr):Sp:=fun vs H Q _=>∃ r dx u p,vs=[.ref r]∧Rd t H r dx u p∧Q (Ak3 (stp AfN (u.drop p))) (upd H r (.ins t.BV dx (rf u (p+(stp AfN (u.drop p)).length))))
theorem Aag(T:Txt K mg t):Aj P w K mg base CX0 3 t.Hq t.Hr ["self"] (AiV t):=by
 have Be:Aj P w K mg base CX0 2 t.Ce t.Cg _ _:=Dz T
 have AfP:Aj P w K mg base CX0 1 t.Oa t.Ob _ _:=Ae4 T
 refine T.QZ.F.ok Aad (fun vs H Q E h=>?_) (fun cdv A outer s H vs Q E hr h=>?_)
 ·obtain⟨r,dx,u,p,rfl,_⟩:=h
  rfl
 ·obtain⟨r,dx,u,p,rfl,hR,k⟩:=h
  refine⟨_,(Ae (Bb (Aq (AfP.mono (by decide)) hr rfl T.Xu.m T.Xu.F.kp T.Xu.b .nil An (Aa (Fv (pv 0) T.By.c T.Am.m (Be.mono (by decide)) hr T.Am.b .nil An (Aa (Cv (v:=.str "0123456789") rfl T.AiO.choose_spec ⟨_,rfl⟩) Ab)) Ab)))),?_⟩
  have hf:=AhU AfN (u.drop p)
  refine⟨_,rfl,r,dx,rf u p,rfl,hR.1,(Hk u p).2.2.2,r,dx,u,p,AfN,(by rw[AnP];rfl),hR,(by decide),?_⟩
  exact⟨_,rfl,fun c hc=>AfO.mp (hf.1 c hc),by have:=hR.2.2;have:=hf.2;rw[ArM] at this;omega,k⟩
def FT (r:Addr)(H H':Hp):Prop:=∀ b o,b≠r→H b=some o→H' b=some o
theorem FT.trans{r:Addr}{H H1 H2:Hp}(a:FT r H H1)(b:FT r H1 H2):FT r H H2:=fun c o n e=>b c o n (a c o n e)
theorem FT.upd{r:Addr}{H:Hp}{o:HO}:FT r H (L2.upd H r o):=fun b o' n e=>by rw[Ba n];exact e
def Mg (t:Adr)(H:Hp)(r dx:Addr)(u:List Nat)(p:Nat):Hp:=upd H r (.ins t.BV dx (rf u p))
theorem W0{H:Hp}{r dx:Addr}{u:List Nat}{p q:Nat}(h:Rd t H r dx u p)(hq:q≤u.length):Rd t (Mg t H r dx u q) r dx u q:=⟨Ad,hq,h.2.2⟩
theorem AhV(f:Nat→Bool):∀ l:List Nat,l.drop (l.takeWhile f).length=l.dropWhile f
 | []=>rfl
 | a::l=>by
  rw[Asq,AsL]
  by_cases h:f a=true
  ·rw[if_pos h,if_pos h,Ars,List.drop_succ_cons]
   exact AhV f l
  ·rw[if_neg h,if_neg h]
   rfl
theorem Su{sg:List Nat}{f:Nat→Bool}(h:∀ c,decide (c∈sg)=f c)(l:List Nat):stp sg l=l.takeWhile f:=by
 unfold stp
 rw[show(fun c=>decide (c∈sg))=f from funext h]
theorem AnQ(c:Nat):decide (c∈AfN)=Pat.Kz c:=decide_eq_decide.mpr AfO
theorem AaR(c:Nat):decide (c∈[32])=decide (c=32):=decide_eq_decide.mpr List.mem_singleton
theorem W2:((" " : Str))=tx [32]:=by decide +kernel
theorem behind{u:List Nat}{p:Nat}(f:Nat→Bool)(hp:p≤u.length):u.drop (p+((u.drop p).takeWhile f).length)=(u.drop p).dropWhile f∧p+((u.drop p).takeWhile f).length≤u.length:=by
 refine⟨by rw[← List.drop_drop,AhV],?_⟩
 have h:=(List.takeWhile_prefix f (l:=u.drop p)).length_le
 rw[ArM] at h
 omega
theorem AdM{f:List Nat}:Pat.Acg f=true↔((1≤f.length∧f.length≤2)∧¬(f.length=2∧f[0]?=some 48)):=by unfold Pat.Acg;exact decide_eq_true_iff
def Amm (t:Adr):Sp:=fun vs H Q E=>∃ r dx u p,vs=[.ref r]∧Rd t H r dx u p ∧
 (∀ n l p',Pat.num (u.drop p)=some (n,l)→p≤p'→p'≤u.length→u.drop p'=l→Q (.int ((n:Nat):Int)) (Mg t H r dx u p'))∧(Pat.num (u.drop p)=none→∀ H',FT r H H'→E (.ref t.Bm) none H')
theorem Abe(T:Txt K mg t):Aj P w K mg base (CX1 P w) 4 t.JC t.JD ["reader"] (Amm t):=by
 have Abf:Aj P w K mg base CX0 3 t.Hq t.Hr _ _:=Aag T
 have Be:Aj P w K mg base CX0 2 t.Ce t.Cg _ _:=Dz T
 refine T.Te.F.okX Wj (fun vs H Q E h=>?_) (fun cdv A outer s H vs Q E hr h=>?_)
 ·obtain⟨r,dx,u,p,rfl,_⟩:=h
  rfl
 ·obtain⟨r,dx,u,p,rfl,hR,k1,k2⟩:=h
  refine⟨_,(Ac (BP (i:=1) Wj.nd rfl (Or.inl rfl) (AbM (pv 0) T.By.c T.QZ.m (Abf.mono (by decide)) hr T.QZ.b .nil An))
   (Ac (BK (Ao Agv (pv 1) Py (Ax _))
    (Ae (Du Jr rfl (fun _ _ z=>z) PySem.F.excBase_ValueError GJ PySem.F.excBase_ValueError T.Cd.q rfl T.Ck (Aa Ag Ab)))
    Aw)
   (Ac (BJ (Fv (pv 0) T.By.c T.Am.m (Be.mono (by decide)) hr T.Am.b .nil An (Aa Ag Ab)))
   (Ae (Bb (pv 1)))))),?_⟩
  refine⟨_,rfl,r,dx,rf u p,rfl,hR.1,(Hk u p).2.2.1,r,dx,u,p,rfl,hR,?_⟩
  show ∃ _,_
  rw[Su AnQ]
  have b1:=behind Pat.Kz hR.2.1
  unfold Pat.num at k1 k2
  by_cases c:Pat.Acg ((u.drop p).takeWhile Pat.Kz)=true
  ·rw[if_pos c] at k1
   rw[show Ak3 ((u.drop p).takeWhile Pat.Kz)=.int ((PySem.NumText.digitsVal ((u.drop p).takeWhile Pat.Kz):Nat):Int) from if_pos (AdM.mp c)]
   refine⟨_,rfl,rfl,_,rfl,?_⟩
   refine DN (fun z=>nomatch z) ?_
   have hR2:=W0 hR b1.2
   refine⟨_,rfl,r,dx,rf u _,rfl,hR2.1,(Hk u _).2.2.2,r,dx,u,_,[32],(by rw[W2];rfl),hR2,(by decide),?_⟩
   rw[Su AaR,Lf]
   have b2:=behind (fun c=>decide (c=32)) b1.2
   show ∃ _,_
   refine⟨_,rfl,?_⟩
   exact k1 _ _ _ rfl (by omega) b2.2 (by rw[b2.1,b1.1];rfl)
  ·rw[if_neg c] at k2
   rw[show Ak3 ((u.drop p).takeWhile Pat.Kz)=.non from if_neg fun z=>c (AdM.mpr z)]
   refine⟨_,rfl,rfl,_,rfl,?_⟩
   refine GF rfl ?_
   exact⟨by decide,k2 rfl _ FT.upd⟩
theorem U0:(("," : Str))=tx [44]:=by decide +kernel
theorem Zn{c a:Nat}{v:List Nat}:Pat.one c (a::v)=if a=c then some v else none:=rfl
theorem W3{u:List Nat}{p c:Nat}:(u.drop p).take [c].length=[c]↔∃ l,Pat.one c (u.drop p)=some l:=by
 cases e:u.drop p with
 | nil=>exact⟨fun z=>by simp at z,fun⟨l,z⟩=>by simp[Pat.one] at z⟩
 | cons a v =>
  constructor
  ·intro z
   have h:a=c:=by simpa using z
   exact⟨v,by rw[Zn,if_pos h]⟩
  ·rintro⟨l,z⟩
   rw[Zn] at z
   by_cases h:a=c
   ·rw[h];rfl
   ·rw[if_neg h] at z;cases z
theorem Zo{u l:List Nat}{p c:Nat}(h:Pat.one c (u.drop p)=some l):u.drop (p+[c].length)=l∧p+[c].length≤u.length:=by
 cases e:u.drop p with
 | nil=>rw[e] at h;simp[Pat.one] at h
 | cons a v =>
  rw[e] at h
  rw[Zn] at h
  by_cases ha:a=c
  ·rw[if_pos ha] at h
   have hl:=congrArg List.length e
   rw[ArM,Ars] at hl
   refine⟨?_,by simp only [Ars,Arv];omega⟩
   rw[← List.drop_drop,e]
   exact Option.some.inj h
  ·rw[if_neg ha] at h;cases h
theorem Zq{u:List Nat}{p c:Nat}(h:(u.drop p).take [c].length≠[c]):Pat.one c (u.drop p)=none:=by
 cases e:Pat.one c (u.drop p) with
 | none=>rfl
 | some l=>exact absurd (W3.mpr ⟨l,e⟩) h
def AiW (t:Adr):Sp:=fun vs H Q E=>∃ r dx u p,vs=[.ref r]∧Rd t H r dx u p ∧
 (∀ l p',Pat.comma (u.drop p)=some l→p≤p'→p'≤u.length→u.drop p'=l→Q .non (Mg t H r dx u p'))∧(Pat.comma (u.drop p)=none→∀ H',FT r H H'→E (.ref t.Bm) none H')
theorem Ac1(T:Txt K mg t):Aj P w K mg base (CX1 P w) 3 t.Lx t.Ly ["reader"] (AiW t):=by
 have FP:Aj P w K mg base CX0 1 t.FJ t.FN _ _:=Pr T
 have Be:Aj P w K mg base CX0 2 t.Ce t.Cg _ _:=Dz T
 refine T.Vo.F.okX Ade (fun vs H Q E h=>?_) (fun cdv A outer s H vs Q E hr h=>?_)
 ·obtain⟨r,dx,u,p,rfl,_⟩:=h
  rfl
 ·obtain⟨r,dx,u,p,rfl,hR,k1,k2⟩:=h
  refine⟨_,(Ac (BK (QR (N7 (Fv (pv 0) T.By.c T.Dp.m (FP.mono (by decide)) hr T.Dp.b .nil An (Aa Ag Ab))))
    (Ae (Du Jr rfl (fun _ _ z=>z) PySem.F.excBase_ValueError GJ PySem.F.excBase_ValueError T.Cd.q rfl T.Ck (Aa Ag Ab)))
    Aw)
   (Ae (BJ (Fv (pv 0) T.By.c T.Am.m (Be.mono (by decide)) hr T.Am.b .nil An (Aa Ag Ab))))),?_⟩
  unfold Pat.comma at k1 k2
  refine⟨_,rfl,r,dx,rf u p,rfl,hR.1,(Hk u p).2.1,r,dx,u,p,[44],(by rw[U0];rfl),hR,(by decide),fun Ak7=>?_,fun hno=>?_⟩
  ·obtain⟨l,e⟩:=W3.mp Ak7
   have d:=Zo e
   have hR2:=W0 hR d.2
   refine⟨_,rfl,?_⟩
   refine Rk ?_
   refine⟨_,rfl,r,dx,rf u _,rfl,hR2.1,(Hk u _).2.2.2,r,dx,u,_,[32],(by rw[W2];rfl),hR2,(by decide),?_⟩
   rw[Su AaR,Lf]
   have b2:=behind (fun c=>decide (c=32)) d.2
   rw[e] at k1
   exact k1 _ _ rfl (by omega) b2.2 (by rw[b2.1,d.1];rfl)
  ·refine⟨_,rfl,?_⟩
   refine Px ?_
   exact⟨by decide,k2 (by rw[Zq hno];rfl) _ (fun b o _ e=>e)⟩
theorem Amn:(("#." : Str))=tx [35,46]:=by decide +kernel
theorem Amo(c:Nat):decide (c∈[35,46])=Pat.knot c:=decide_eq_decide.mpr (by simp only [Ar3,Ar4,or_false])
def Amp (t:Adr):Sp:=fun vs H Q E=>∃ r dx u p,vs=[.ref r]∧Rd t H r dx u p ∧
 (∀ z l p',Pat.run (u.drop p)=some (z,l)→p<p'→p'≤u.length→u.drop p'=l→Q (.str (tx z)) (Mg t H r dx u p'))∧(Pat.run (u.drop p)=none→∀ H',FT r H H'→E (.ref t.Bm) none H')
theorem Ae5(T:Txt K mg t):Aj P w K mg base (CX1 P w) 3 t.Qh t.Qi ["reader"] (Amp t):=by
 have Be:Aj P w K mg base CX0 2 t.Ce t.Cg _ _:=Dz T
 refine T.RW.F.okX AaO (fun vs H Q E h=>?_) (fun cdv A outer s H vs Q E hr h=>?_)
 ·obtain⟨r,dx,u,p,rfl,_⟩:=h
  rfl
 ·obtain⟨r,dx,u,p,rfl,hR,k1,k2⟩:=h
  refine⟨_,(Ac (BP (i:=1) AaO.nd rfl (Or.inl rfl) (Fv (pv 0) T.By.c T.Am.m (Be.mono (by decide)) hr T.Am.b .nil An (Aa Ag Ab)))
   (Ac (BK (Ao Eh (pv 1) Ag (Ax _))
    (Ae (Du Jr rfl (fun _ _ z=>z) PySem.F.excBase_ValueError GJ PySem.F.excBase_ValueError T.Cd.q rfl T.Ck (Aa Ag Ab)))
    Aw)
   (Ac (BJ (Fv (pv 0) T.By.c T.Am.m (Be.mono (by decide)) hr T.Am.b .nil An (Aa Ag Ab)))
   (Ae (Bb (pv 1)))))),?_⟩
  unfold Pat.run at k1 k2
  have b1:=behind Pat.knot hR.2.1
  refine⟨_,rfl,r,dx,rf u p,rfl,hR.1,(Hk u p).2.2.2,r,dx,u,p,[35,46],(by rw[Amn];rfl),hR,(by decide),?_⟩
  rw[Su Amo]
  refine⟨_,rfl,rfl,_,rfl,?_⟩
  by_cases c:(u.drop p).takeWhile Pat.knot=[]
  ·rw[if_pos c] at k2
   refine GF (by rw[c];decide +kernel) ?_
   exact⟨by decide,k2 rfl _ FT.upd⟩
  ·rw[if_neg c] at k1
   have hR2:=W0 hR b1.2
   refine DN (fun z=>c ?_) ?_
   ·have e:(("" : Str))=tx []:=by decide +kernel
    rw[e] at z
    injection z with z
    exact R7 z
   refine⟨_,rfl,r,dx,rf u _,rfl,hR2.1,(Hk u _).2.2.2,r,dx,u,_,[32],(by rw[W2];rfl),hR2,(by decide),?_⟩
   rw[Su AaR,Lf]
   have b2:=behind (fun c=>decide (c=32)) b1.2
   have l0:0<((u.drop p).takeWhile Pat.knot).length:=List.length_pos_iff.mpr c
   refine⟨_,rfl,?_⟩
   exact k1 _ _ _ rfl (by omega) b2.2 (by rw[b2.1,b1.1];rfl)
theorem Ak8(l:List Nat):(Pat.sk l).length≤l.length:=(AsK _).length_le
theorem Ak9{c:Nat}{l l1:List Nat}(h:Pat.one c l=some l1):l1.length<l.length:=by
 cases l with
 | nil=>simp[Pat.one] at h
 | cons a v =>
  rw[Zn] at h
  by_cases ha:a=c
  ·rw[if_pos ha] at h
   rw[← Option.some.inj h,Ars]
   omega
  ·rw[if_neg ha] at h;cases h
theorem AkA{l z l2:List Nat}(h:Pat.run l=some (z,l2)):l2.length≤l.length:=by
 unfold Pat.run at h
 split at h
 ·cases h
 ·injection h with h
  injection h with _ h
  rw[← h]
  exact ArC (Ak8 _) (AsK _).length_le
theorem AdN:∀(k k':Nat) (l:List Nat),l.length<k→l.length<k'→Pat.Gm k l=Pat.Gm k' l
 | 0,_,_,h,_=>by omega
 | _+1,0,_,_,h=>by omega
 | k+1,k'+1,l,h1,h2=>by
  unfold Pat.Gm
  cases e:Pat.one 44 l with
  | none=>rfl
  | some l1 =>
   cases e2:Pat.run (Pat.sk l1) with
   | none=>simp only [e2]
   | some q =>
    obtain⟨z,l2⟩:=q
    have a:=Ak9 e
    have b:=AkA e2
    have c:=Ak8 l1
    simp only [e2]
    rw[AdN k k' l2 (by omega) (by omega)]
def more(l:List Nat):Option (List (List Nat) × List Nat):=Pat.Gm (l.length+1) l
theorem AkB{l:List Nat}(h:Pat.one 44 l=none):more l=some ([],l):=by
 unfold more Pat.Gm
 rw[h]
theorem AkC{l l1:List Nat}(h:Pat.one 44 l=some l1)(h2:Pat.run (Pat.sk l1)=none):more l=none:=by
 unfold more Pat.Gm
 rw[h]
 simp only [h2]
theorem AiX{l l1 z l2:List Nat}(h:Pat.one 44 l=some l1)(h2:Pat.run (Pat.sk l1)=some (z,l2)):more l=(more l2).map fun p=>(z::p.1,p.2):=by
 have a:=Ak9 h
 have b:=AkA h2
 have c:=Ak8 l1
 unfold more
 rw[AdN (l2.length+1) l.length l2 (by omega) (by omega)]
 conv=>lhs;unfold Pat.Gm
 rw[h]
 simp only [h2]
def XN (done:List (List Nat))(l:List Nat):Option (List (List Nat) × List Nat):=match more l with
 | none=>none
 | some (rs,l2)=>if (done++rs).length>40 then none else some (done++rs,l2)
theorem Aes{l z l1:List Nat}(h:Pat.run l=some (z,l1)):Pat.runs l=XN [z] l1:=by
 unfold Pat.runs XN more
 rw[h]
 rfl
theorem AkD{done:List (List Nat)}{l l1 z l2:List Nat}(h:Pat.one 44 l=some l1)(h2:Pat.run (Pat.sk l1)=some (z,l2)):XN done l=XN (done++[z]) l2:=by
 unfold XN
 rw[AiX h h2]
 cases more l2 with
 | none=>rfl
 | some q =>
  obtain⟨rs,l3⟩:=q
  simp only [Option.map_some,ArQ,List.singleton_append]
def AkE (t:Adr):Sp:=fun vs H Q E=>∃ r dx u p,vs=[.ref r]∧Rd t H r dx u p ∧
 (∀ zs l p' q,Pat.runs (u.drop p)=some (zs,l)→p≤p'→p'≤u.length→u.drop p'=l→H q=none→q≠r→Q (.ref q) (upd (Mg t H r dx u p') q (.lst (vS zs))))∧(Pat.runs (u.drop p)=none→∀ H',FT r H H'→E (.ref t.Bm) none H')
theorem swp{H:Hp}{r dx q:Addr}{u:List Nat}{p1 p2:Nat}{o:HO}(h:q≠r):upd (upd (Mg t H r dx u p1) q o) r (.ins t.BV dx (rf u p2))=upd (Mg t H r dx u p2) q o:=by
 funext b
 show upd (upd (upd H r _) q _) r _ b=upd (upd H r _) q _ b
 by_cases e1:b=r
 ·rw[e1,Ad,Ba h.symm,Ad]
 ·by_cases e2:b=q
  ·rw[e2,Ba h,Ad,Ad]
  ·rw[Ba e1,Ba e2,Ba e1,Ba e2,Ba e1]
theorem Adj(T:Txt K mg t):Aj P w K mg base (CX1 P w) 4 t.Od t.Oe ["reader"] (AkE t):=by
 have FP:Aj P w K mg base CX0 1 t.FJ t.FN _ _:=Pr T
 have Be:Aj P w K mg base CX0 2 t.Ce t.Cg _ _:=Dz T
 have Ac2:Aj P w K mg base (CX1 P w) 3 t.Qh t.Qi _ _:=Ae5 T
 refine T.Xv.F.okX YW (fun vs H Q E h=>?_) (fun cdv A outer s H vs Q E hr h=>?_)
 ·obtain⟨r,dx,u,p,rfl,_⟩:=h
  rfl
 ·obtain⟨r,dx,u,p,rfl,hR,k1,k2⟩:=h
  refine⟨_,(Ac (BP (i:=1) YW.nd rfl (Or.inl rfl) (Ez (Aa (Aq (Ac2.mono (by decide)) hr rfl T.RW.m T.RW.F.kp T.RW.b .nil Gv (Aa (pv 0) Ab)) Ab)))
   (Ac (AmG fun hfr=>(Afd (AoH Jr hfr) (N7 (Fv (pv 0) T.By.c T.Dp.m (FP.mono (by decide)) hr T.Dp.b .nil An (Aa Ag Ab)))
    (Ac (BJ (Fv (pv 0) T.By.c T.Am.m (Be.mono (by decide)) hr T.Am.b .nil An (Aa Ag Ab)))
    (Ae (BJ (Gs (K:=K) PySem.F.plainAttrs_list PySem.F.slot_list_append PySem.F.type_list_append NK (pv 1) (Aa (Aq (Ac2.mono (by decide)) hr rfl T.RW.m T.RW.F.kp T.RW.b .nil Gv (Aa (pv 0) Ab)) Ab)))))))
   (Ac (BK (Ao Q9 (Bq (Bx (K:=K)) rfl T.Ec CW (Aa (pv 1) Ab)) (Cv (v:=.int 40) rfl T.AfJ.choose_spec ⟨_,rfl⟩) (Ax _))
    (Ae (Du Jr rfl (fun _ _ z=>z) PySem.F.excBase_ValueError GJ PySem.F.excBase_ValueError T.Cd.q rfl T.Ck (Aa Ag Ab)))
    Aw)
   (Ae (Bb (pv 1)))))),?_⟩
  refine⟨_,rfl,r,dx,u,p,rfl,hR,fun z l p1 hz hp1 hl1 hd1=>?_,fun hz H' sb=>k2 (by unfold Pat.runs;rw[hz]) H' sb⟩
  rw[Aes hz] at k1 k2
  refine⟨(by show 1≤sizeLine;decide),fun q hq=>?_⟩
  have nqr:q≠r:=fun z=>by rw[z,show Mg t H r dx u p1 r=some _ from Ad] at hq;cases hq
  rw[show Mg t H r dx u p1 q=H q from Ba nqr] at hq
  have hH:∀ p9 o,(upd (Mg t H r dx u p9) q o) r=some (.ins t.BV dx (rf u p9)):=fun p9 o=>by rw[Ba nqr.symm];exact Ad
  have sbq:∀ p9 o,FT r H (upd (Mg t H r dx u p9) q o):=fun p9 o b o' hb e=>by rw[Ba (Bu e hq)];show(upd H r _) b=_;rw[Ba hb];exact e
  have AnR:=hR.2.2
  refine⟨fun m σ H2=>∃ done p2,σ=[some (.ref r),some (.ref q)]∧H2=upd (Mg t H r dx u p2) q (.lst (vS done))∧XN [z] l=XN done (u.drop p2)∧p≤p2∧p2≤u.length∧done.length≤p2∧m=u.length-p2,
   ⟨_,[z],p1,rfl,rfl,by rw[hd1],by omega,hl1,by simp only [Ars,Arv];omega,rfl⟩,?_⟩
  rintro m σ H2 ⟨done,p2,rfl,rfl,hf,hp2,hl2,hdl,rfl⟩
  refine⟨_,rfl,r,dx,rf u p2,rfl,hH _ _,(Hk u _).2.1,r,dx,u,p2,[44],(by rw[U0];rfl),⟨hH _ _,hl2,AnR⟩,(by decide),fun Ak7=>?_,fun hno=>?_⟩
  ·obtain⟨l1,e1⟩:=W3.mp Ak7
   have d:=Zo e1
   rw[swp nqr]
   refine⟨_,rfl,?_⟩
   refine Px ?_
   refine⟨_,fun σ' H' h=>h,?_⟩
   refine⟨_,rfl,r,dx,rf u _,rfl,hH _ _,(Hk u _).2.2.2,r,dx,u,_,[32],(by rw[W2];rfl),⟨hH _ _,d.2,AnR⟩,(by decide),?_⟩
   rw[Su AaR,swp nqr]
   have b2:=behind (fun c=>decide (c=32)) d.2
   rw[d.1] at b2
   rw[d.1]
   obtain⟨p3,e3⟩:∃ p3,p3=p2+[44].length+(l1.takeWhile fun c=>decide (c=32)).length:=⟨_,rfl⟩
   rw[← e3] at b2
   have d3:u.drop p3=Pat.sk l1:=b2.1
   have p23:p2<p3:=by rw[e3];simp only [Ars,Arv];omega
   rw[← e3]
   refine⟨_,rfl,.inl ⟨rfl,_,SqL.of Ad⟩,_,rfl,r,dx,u,p3,rfl,⟨hH _ _,b2.2,AnR⟩,fun z2 l2 p4 hz2 hp4 hl4 hd4=>?_,fun hz2 H' sb=>?_⟩
   ·rw[d3] at hz2
    rw[show ∀ p8 p9 o,Mg t (upd (Mg t H r dx u p8) q o) r dx u p9=upd (Mg t H r dx u p9) q o from fun _ _ _=>swp nqr]
    refine⟨_,_,_,rfl,rfl,Ad,(by rw[Bj];exact Ary (show done.length<1000001 by omega) (by decide)),?_⟩
    rw[Lf,Ei]
    exact⟨u.length-p4,by omega,done++[z2],p4,rfl,rfl,by rw[hf,AkD e1 hz2,hd4],by omega,hl4,by rw[Arp,ArX];omega,rfl⟩
   ·rw[d3] at hz2
    refine k2 (by rw[hf];unfold XN;rw[AkC e1 hz2]) H' (fun b o hb e=>sb b o hb (sbq _ _ b o hb e))
  ·have e1:=Zq hno
   refine⟨_,rfl,?_⟩
   refine Rk ?_
   have hf2:XN done (u.drop p2)=if (done++[]).length>40 then none else some (done++[],u.drop p2):=by unfold XN;rw[AkB e1]
   rw[Asg] at hf2
   refine⟨_,rfl,_,_,rfl,.inl (SqL.of Ad),_,_,rfl,rfl,_,rfl,?_⟩
   rw[Bj]
   refine Ey (fun c1=>?_) (fun c1=>?_)
   ·exact⟨by decide,k2 (by rw[hf,hf2,if_pos (by omega)]) _ (sbq _ _)⟩
   ·refine⟨_,rfl,?_⟩
    exact k1 done _ p2 q (by rw[hf,hf2,if_neg (by omega)]) hp2 hl2 rfl hq nqr
def Ny:List (List Nat):=[[114,111,119,115],[116,119,105,108,108],[115,97,116,105,110],[98,101,115,105,100,101],[97,98,111,118,101],[109,105,114,114,111,114],[117,112,101,110,100],[98,97,99,107],[113,117,97,114,116,101,114],[116,105,108,101],[98,108,111,99,107,115],[108,97,121]]
theorem AkF:(["rows", "twill", "satin", "beside", "above", "mirror", "upend", "back", "quarter", "tile", "blocks", "lay"]:List Str)=Ny.map tx:=by decide +kernel
theorem AiY(u:List Nat):Pat.isWord u=decide (u∈Ny):=by
 by_cases h:u∈Ny
 ·rw[decide_eq_true h]
  simp only [Ny,Ar3,Ar4,or_false] at h
  rcases h with rfl | rfl | rfl | rfl | rfl | rfl | rfl | rfl | rfl | rfl | rfl | rfl <;> decide
 ·rw[decide_eq_false h]
  simp only [Ny,Ar3,Ar4,or_false,not_or] at h
  obtain⟨h1,h2,h3,h4,h5,h6,h7,h8,h9,h10,h11,h12⟩:=h
  unfold Pat.isWord Pat.wants Pat.QF
  rw[decide_eq_false h1,if_neg (fun z=>z.elim h2 h3),if_neg (fun z=>z.elim h4 fun z=>z.elim h5 h12),if_neg (fun z=>z.elim h6 fun z=>z.elim h7 fun z=>z.elim h8 h9),if_neg h10,if_neg h11]
  rfl
def Amq:List Nat:=[97,98,99,100,101,102,103,104,105,106,107,108,109,110,111,112,113,114,115,116,117,118,119,120,121,122]
theorem AkG:(("abcdefghijklmnopqrstuvwxyz" : Str))=tx Amq:=by decide +kernel
theorem AkH(c:Nat):decide (c∈Amq)=Pat.letter c:=decide_eq_decide.mpr (by
 unfold Amq
 simp only [Ar3,Ar4,or_false]
 omega)
theorem in_words(u:List Nat):∀ ls:List (List Nat),inV (V.str (tx u)) ((ls.map tx).map V.str)=decide (u∈ls)
 | []=>rfl
 | a::ls=>by
  have ih:=in_words u ls
  unfold inV at ih ⊢
  rw[Arx,Arx,List.any_cons,ih]
  by_cases h:u=a
  ·rw[h,decide_eq_true (ArD)]
   have:eqV (V.str (tx a)) (V.str (tx a))=true:=AbU rfl
   rw[this,Bool.true_or]
  ·have e1:(eqV (V.str (tx a)) (V.str (tx u))=false)∧(eqV (V.str (tx u)) (V.str (tx a))=false):=⟨beq_eq_false_iff_ne.mpr fun z=>h (R7 z).symm,beq_eq_false_iff_ne.mpr fun z=>h (R7 z)⟩
   first | rw[e1.1] | rw[e1.2]
   rw[Bool.false_or]
   exact decide_eq_decide.mpr ⟨fun z=>ArF _ z,fun z=>(List.mem_cons.mp z).elim (fun z=>absurd z h) id⟩
def AiZ:Sp:=fun vs H Q _=>∃ u,vs=[.str (tx u)]∧u.length≤1000000∧∀ H',Bg H H'→Q (.bl (Pat.isName u)) H'
theorem Ac3(T:Txt K mg t):Aj P w K mg base CX0 1 t.Qd t.Qe ["text"] AiZ:=by
 refine T.Vk.F.ok AgU (fun vs H Q E h=>?_) (fun cdv A outer s H vs Q E hr h=>?_)
 ·obtain⟨u,rfl,_⟩:=h
  rfl
 ·obtain⟨u,rfl,hu,k⟩:=h
  refine⟨_,(Ac (BK (PW.pt (pw_or (Ao R5 (Bq Ca rfl T.Ec CW (Aa (pv 0) Ab)) Ak (Ax _)) (pw_or1 (Ao Q9 (Bq Ca rfl T.Ec CW (Aa (pv 0) Ab)) (Cv (v:=.int 20) rfl T.Acw.choose_spec ⟨_,rfl⟩) (Ax _)))))
    (Ae (Bb Adz))
    Aw)
   (Ae (Bb (Agr (Lg (Ada (K:=K)) (pv 0) (Cv (v:=.ref t.Vj) rfl T.Ami rfl) rfl) (Agq (Bq (AiL (K:=K)) rfl T.Apb Anu (Aa (Gq (DK.mk (Bp:=[]) (Nc:=["sign"]) rfl (by decide +kernel) (by decide +kernel) (Dy (sc0:=Af Xm) rfl (by decide +kernel)) rfl rfl rfl (by decide +kernel) (fun _ _ h=>by simp at h)) rfl (U6 (pv 0)) (fun _ _ _ _ _=>.nil) (fun _ _ _ _ _=>(Lg Ad0 (pv 0) (Cv (v:=.str "abcdefghijklmnopqrstuvwxyz") rfl T.Aae.choose_spec ⟨_,rfl⟩) rfl))) Ab))))))),?_⟩
  have zl:(tx u).length≤sizeLine:=by rw[Ah];exact big hu
  refine⟨_,rfl,_,rfl,zl,_,_,rfl,rfl,_,rfl,?_⟩
  rw[Ah]
  unfold Pat.isName at k
  refine Ey (fun c1=>?_) (fun c1=>?_)
  ·refine Px ?_
   rw[decide_eq_false (show ¬(1≤u.length∧u.length≤20) by omega)] at k
   exact k _ (.refl _)
  ·refine⟨_,rfl,_,rfl,zl,_,_,rfl,rfl,_,rfl,?_⟩
   rw[Ah]
   refine Ey (fun c2=>?_) (fun c2=>?_)
   ·rw[decide_eq_false (show ¬(1≤u.length∧u.length≤20) by omega)] at k
    exact k _ (.refl _)
   ·rw[decide_eq_true (show 1≤u.length∧u.length≤20 by omega),Bool.true_and,AiY] at k
    refine⟨_,rfl,_,_,rfl,.inr (T.Amj H),rfl,(by decide),_,rfl,?_⟩
    rw[AkF,in_words]
    show if (!decide (u∈Ny))=true then _ else _
    by_cases cw:u∈Ny
    ·rw[decide_eq_true cw] at k ⊢
     refine Rk ?_
     rw[Bool.not_true,Bool.and_false] at k
     exact k _ (.refl _)
    ·rw[decide_eq_false cw] at k ⊢
     refine Px ?_
     rw[Bool.not_false,Bool.and_true] at k
     refine⟨_,rfl,_,rfl,?_⟩
     refine Uk (z:=tx u) (fun i ys H2=>H2=H∧ys=vB ((u.take i).map Pat.letter)) ⟨rfl,rfl⟩ ?_ ?_ ?_ ?_
     ·rintro i ys H2 hi ⟨rfl,rfl⟩
      rw[AgR,Arq,Ar1]
      exact Nat.min_le_left _ _
     ·exact zl
     ·rintro i c ys H2 hi hc ⟨rfl,rfl⟩
      refine Fq.no ?_
      have hu':u[i]?=some c:=by
       rw[← Kc u,Array.getElem?_toList]
       exact hc
      refine⟨_,rfl,_,_,rfl,rfl,?_⟩
      rw[AkG,AfM,AkH]
      exact CN.of hi ⟨rfl,by rw[AgS,Ar5,hu',Arz];rfl⟩
     ·rintro ys H2 q ⟨rfl,rfl⟩ hq
      refine⟨_,_,rfl,SqL.of Ad,?_⟩
      have e9:(((u.take (tx u).cps.size).map Pat.letter).all id)=u.all Pat.letter:=by
       rw[show(tx u).cps.size=u.length from Ah u,ArI,List.all_map]
       rfl
      rw[e9]
      exact k _ (.upd hq)
inductive AtN (H:Hp):Nd→V→Prop
 | num {n:Nat}:AtN H (.num n) (.int (n:Int))
 | run {r:List Nat}:AtN H (.run r) (.str (tx r))
 | nam {z:List Nat} {a:Addr}:H a=some (.tup [.str (tx z),.non])→AtN H (.nam z) (.ref a)
 | node {z:List Nat} {ts:List Nd} {a q:Addr} {vs:List V}:H a=some (.tup [.str (tx z),.ref q])→H q=some (.lst vs)→vs.length=ts.length→(∀(i:Nat) (x:Nd) (v:V),ts[i]?=some x→vs[i]?=some v→AtN H x v)→AtN H (.node z ts) (.ref a)
theorem AtN.mono{H H':Hp}(s:∀ b o,H b=some o→H' b=some o){x:Nd}{v:V}(h:AtN H x v):AtN H' x v:=by
 induction h with
 | num=>exact .num
 | run=>exact .run
 | nam h=>exact .nam (s _ _ h)
 | node h1 h2 h3 _ ih=>exact .node (s _ _ h1) (s _ _ h2) h3 ih
def nw (H H':Hp):Hp:=fun b=>match H b with
 | none=>H' b
 | some _=>none
theorem XQ{H H':Hp}{b:Addr}(h:H b=none):nw H H' b=H' b:=by unfold nw;rw[h]
theorem AaS{H H':Hp}{b:Addr}{o:HO}(h:nw H H' b=some o):H b=none∧H' b=some o:=by
 unfold nw at h
 cases e:H b with
 | none=>rw[e] at h;exact⟨rfl,h⟩
 | some o'=>rw[e] at h;cases h
theorem Aby{A H2 H3:Hp}{r:Addr}(hr:A r≠none)(s:FT r H2 H3):∀ b o,nw A H2 b=some o→nw A H3 b=some o:=fun b o h=>by
 have g:=AaS h
 rw[XQ g.1]
 exact s b o (fun z=>hr (by rw[← z];exact g.1)) g.2
theorem AfQ{A B H3:Hp}(h:∀ b,B b=none→A b=none):∀ b o,nw B H3 b=some o→nw A H3 b=some o:=fun b o g=>by
 have g:=AaS g
 rw[XQ (h b g.1)]
 exact g.2
theorem AkI{A H:Hp}{q:Addr}{o:HO}(h:A q≠none):nw A (upd H q o)=nw A H:=by
 funext b
 unfold nw
 cases e:A b with
 | none =>
  show upd H q o b=H b
  exact Ba fun z=>h (by rw[← z];exact e)
 | some o'=>rfl
def Adk (H:Hp)(ts:List Nd)(vs:List V):Prop:=vs.length=ts.length∧∀(i:Nat) (x:Nd) (v:V),ts[i]?=some x→vs[i]?=some v→AtN H x v
theorem Adk.snoc{H:Hp}{ts:List Nd}{vs:List V}{x:Nd}{v:V}(h:Adk H ts vs)(hx:AtN H x v):Adk H (ts++[x]) (vs++[v]):=by
 refine⟨by rw[Arp,Arp,h.1];rfl,fun i y w g1 g2=>?_⟩
 by_cases c:i<ts.length
 ·rw[Asn c] at g1
  rw[Asn (by rw[h.1];exact c)] at g2
  exact h.2 i y w g1 g2
 ·have e:i=ts.length:=by
   have:=(List.getElem?_eq_some_iff.mp g1).1
   rw[Arp,ArX] at this
   omega
  subst e
  rw[Asm (Art _),AsF] at g1
  rw[Asm (by rw[h.1];exact Art _),h.1,AsF] at g2
  cases g1
  cases g2
  exact hx
theorem Adk.mono{H H':Hp}(s:∀ b o,H b=some o→H' b=some o){ts:List Nd}{vs:List V}(h:Adk H ts vs):Adk H' ts vs:=⟨h.1,fun i x v g1 g2=>(h.2 i x v g1 g2).mono s⟩
theorem args_nil{sub:List Nat→Option (Nd × List Nat)}{b:Bool}{l:List Nat}:Pat.args sub b [] l=some ([],l):=by unfold Pat.args;rfl
def Ahd (sub:List Nat→Option (Nd × List Nat))(done:List Nd)(ks l:List Nat):Option (List Nd × List Nat):=(Pat.args sub done.isEmpty ks l).map fun p=>(done++p.1,p.2)
theorem AkJ{sub:List Nat→Option (Nd × List Nat)}{done:List Nd}{l:List Nat}:Ahd sub done [] l=some (done,l):=by unfold Ahd;rw[args_nil];simp
def Zr (t:Adr)(d:Nat):Sp:=fun vs H Q E=>∃ r dx u p dep,vs=[.ref r,.int ((dep:Nat):Int)]∧dep+d=13∧Rd t H r dx u p ∧
 (∀ x l p' v H',Pat.node d (u.drop p)=some (x,l)→p≤p'→u.drop p'=l→FT r H H'→Rd t H' r dx u p'→AtN (nw H H') x v→Q v H')∧(Pat.node d (u.drop p)=none→∀ H',FT r H H'→E (.ref t.Bm) none H')
def Ac4 (t:Adr)(d:Nat):Sp:=fun vs H Q E=>∃ r dx u p dep z,vs=[.ref r,.str (tx z),.int ((dep:Nat):Int)]∧dep+d=13∧Rd t H r dx u p ∧
 (∀ ts l p' q vs' H',Pat.things (Pat.node d) z (u.drop p)=some (ts,l)→p≤p'→u.drop p'=l→FT r H H'→Rd t H' r dx u p'→H q=none→H' q=some (.lst vs')→Adk (nw H H') ts vs'→Q (.ref q) H')∧(Pat.things (Pat.node d) z (u.drop p)=none→∀ H',FT r H H'→E (.ref t.Bm) none H')
theorem AfR(z:List Nat):lk [("twill", "nn"),("satin", "nn"),("beside", "pp"),("above", "pp"),("mirror", "p"),("upend", "p"),("back", "p"),("quarter", "p"),("tile", "pnn"),("blocks", "ppp"),("lay", "pp")] (tx z)=(Pat.wants z).map tx:=by
 by_cases h:z∈Ny.tail
 ·simp only [Ny,As7,Ar3,Ar4,or_false] at h
  rcases h with rfl | rfl | rfl | rfl | rfl | rfl | rfl | rfl | rfl | rfl | rfl <;> decide +kernel
 ·have hn:lk [("twill", "nn"),("satin", "nn"),("beside", "pp"),("above", "pp"),("mirror", "p"),("upend", "p"),("back", "p"),("quarter", "p"),("tile", "pnn"),("blocks", "ppp"),("lay", "pp")] (tx z)=none:=by
   unfold lk
   rw[Option.map_eq_none_iff,List.find?_eq_none]
   intro q hq
   rw[decide_eq_true_eq]
   intro e
   have hm:tx z∈Ny.tail.map tx:=by
    rw[← e]
    have:∀ q∈([("twill", "nn"),("satin", "nn"),("beside", "pp"),("above", "pp"),("mirror", "p"),("upend", "p"),("back", "p"),("quarter", "p"),("tile", "pnn"),("blocks", "ppp"),("lay", "pp")]:List (Str × Str)),q.1∈Ny.tail.map tx:=by decide +kernel
    exact this q hq
   obtain⟨y,hy,ey⟩:=List.mem_map.mp hm
   exact h (R7 ey▸hy)
  rw[hn]
  simp only [Ny,As7,Ar3,Ar4,or_false,not_or] at h
  obtain⟨h2,h3,h4,h5,h6,h7,h8,h9,h10,h11,h12⟩:=h
  unfold Pat.wants
  rw[if_neg (fun z=>z.elim h2 h3),if_neg (fun z=>z.elim h4 fun z=>z.elim h5 h12),if_neg (fun z=>z.elim h6 fun z=>z.elim h7 fun z=>z.elim h8 h9),if_neg h10,if_neg h11]
  rfl
theorem Abz:(("rows" : Str))=tx Pat.QF:=by decide +kernel
theorem Aja{z ks:List Nat}(h:Pat.wants z=some ks):ks.length≤3:=by
 unfold Pat.wants at h
 split at h
 ·cases h;decide
 ·split at h
  ·cases h;decide
  ·split at h
   ·cases h;decide
   ·split at h
    ·cases h;decide
    ·split at h
     ·cases h;decide
     ·cases h
theorem Xy{H:Hp}{r dx:Addr}{u:List Nat}{p:Nat}(_:Rd t H r dx u p)(p4:Nat):FT r H (Mg t H r dx u p4):=FT.upd
def thing(sub:List Nat→Option (Nd × List Nat))(c:Nat)(l:List Nat):Option (Nd × List Nat):=if c=112 then sub l else (Pat.num l).map fun p=>(Nd.num p.1,p.2)
theorem Ajb{sub:List Nat→Option (Nd × List Nat)}{done:List Nd}{c:Nat}{ks l:List Nat}:Ahd sub done (c::ks) l=match (if done.isEmpty=true then some l else Pat.comma l) with
  | none=>none
  | some l1=>match thing sub c l1 with
   | none=>none
   | some (a,l2)=>Ahd sub (done++[a]) ks l2:=by
 unfold Ahd thing
 conv=>lhs;unfold Pat.args
 cases (if done.isEmpty=true then some l else Pat.comma l) with
 | none=>rfl
 | some l1 =>
  dsimp only
  cases (if c=112 then sub l1 else (Pat.num l1).map fun p=>(Nd.num p.1,p.2)) with
  | none=>rfl
  | some q =>
   obtain⟨a,l2⟩:=q
   dsimp only
   rw[show(done++[a]).isEmpty=false by cases done <;> rfl,Option.map_map]
   congr 1
   funext p
   simp
theorem Abg{d k:Nat}(hk:4≤k)(T:Txt K mg t)(W4:Aj P w K mg base (CX1 P w) k t.HS t.HW ["reader", "depth"] (Zr t d)):Aj P w K mg base (CX1 P w) (k+1) t.Ij t.Ik ["reader", "word", "depth"] (Ac4 t d):=by
 have Adl:Aj P w K mg base (CX1 P w) 4 t.JC t.JD _ _:=Abe T
 have Ae6:Aj P w K mg base (CX1 P w) 3 t.Lx t.Ly _ _:=Ac1 T
 have AfS:Aj P w K mg base (CX1 P w) 4 t.Od t.Oe _ _:=Adj T
 refine T.K4.F.okX RG (fun vs H Q E h=>?_) (fun cdv A outer s H vs Q E hr h=>?_)
 ·obtain⟨r,dx,u,p,dep,z,rfl,_⟩:=h
  rfl
 ·obtain⟨r,dx,u,p,dep,z,rfl,AnS,hR,k1,k2⟩:=h
  refine⟨_,(Ac (BK (Ao Eh (pv 1) Ag (Ax _))
    (Ae (Bb (Aq (AfS.mono (by omega)) hr rfl T.Xv.m T.Xv.F.kp T.Xv.b .nil Gv (Aa (pv 0) Ab))))
    Aw)
   (Ac (BK (AmV (Afu T.AfL (pv 1) (Cv (v:=.ref t.QG) rfl T.AfK rfl)))
    (Ae (Du Jr rfl (fun _ _ z=>z) PySem.F.excBase_ValueError GJ PySem.F.excBase_ValueError T.Cd.q rfl T.Ck (Aa Ag Ab)))
    Aw)
   (Ac (BP (i:=3) RG.nd rfl (Or.inl rfl) (Ez Ab))
   (Ac (AmG fun hfr=>(JW (AoH Jr hfr) rfl (U6 (Ai6 T.AfL (Cv (v:=.ref t.QG) rfl T.AfK rfl) (pv 1) (fun _ _=>rfl))) (Dq (i:=4) RG.nd rfl (Or.inl rfl))
    (Ac (BK (PB (K:=K) (pv 3) (fun _=>rfl))
     (Ae (BJ (Aq (Ae6.mono (by omega)) hr rfl T.Vo.m T.Vo.F.kp T.Vo.b .nil Gv (Aa (pv 0) Ab))))
     Aw)
    (Ae (BJ (Gs (K:=K) PySem.F.plainAttrs_list PySem.F.slot_list_append PySem.F.type_list_append NK (pv 3) (Aa (Ov (Ao Eh (pv 4) Ag (Ax _)) (Aq (W4.mono (by omega)) hr rfl T.Oq.m T.Oq.F.kp T.Oq.b .nil Gv (Aa (pv 0) (Aa (pv 2) Ab))) (Aq (Adl.mono (by omega)) hr rfl T.Te.m T.Te.F.kp T.Te.b .nil Gv (Aa (pv 0) Ab))) Ab)))))))
   (Ae (Bb (pv 3))))))),?_⟩
  refine⟨_,rfl,rfl,_,rfl,?_⟩
  unfold Pat.things at k1 k2
  by_cases c:z=Pat.QF
  ·refine GF (by rw[c,Abz]) ?_
   rw[if_pos c] at k1 k2
   refine⟨_,rfl,r,dx,u,p,rfl,hR,fun zs l p' q hz hp hp' hd hq nqr=>?_,fun hz H' sb=>k2 (by rw[hz];rfl) H' sb⟩
   have hn:nw H (upd (Mg t H r dx u p') q (.lst (vS zs)))=nw H (upd (Mg t H r dx u p') q (.lst (vS zs))):=rfl
   refine k1 (zs.map Nd.run) l p' q (vS zs) _ (by rw[hz];rfl) hp hd (fun b o hb e=>by rw[Ba (Bu e hq)];show(upd H r _) b=_;rw[Ba hb];exact e) ⟨by rw[Ba nqr.symm];exact Ad,hp',hR.2.2⟩ hq Ad ⟨by rw[Bj,Arq],fun i x v g1 g2=>?_⟩
   rw[Ar6] at g1
   unfold vS at g2
   rw[Ar6] at g2
   cases e:zs[i]? with
   | none=>rw[e] at g1;cases g1
   | some y =>
    rw[e] at g1 g2
    cases g1
    cases g2
    exact .run
  ·refine DN (fun y=>c ?_) ?_
   ·rw[Abz] at y
    injection y with y
    exact R7 y
   rw[if_neg c] at k1 k2
   refine⟨_,rfl,tx z,rfl,rfl,_,rfl,?_⟩
   rw[AfR]
   cases ew:Pat.wants z with
   | none =>
    rw[ew] at k2
    refine Px ?_
    exact⟨by decide,k2 rfl _ (fun b o _ e=>e)⟩
   | some ks =>
    rw[ew] at k1 k2
    dsimp only at k1 k2
    refine Rk ?_
    refine⟨(by decide),fun q hq=>?_⟩
    have nqr:q≠r:=fun z=>by rw[z,hR.1] at hq;cases hq
    have hlk:lk [("twill", "nn"),("satin", "nn"),("beside", "pp"),("above", "pp"),("mirror", "p"),("upend", "p"),("back", "p"),("quarter", "p"),("tile", "pnn"),("blocks", "ppp"),("lay", "pp")] (tx z)=some (tx ks):=by rw[AfR,ew];rfl
    have hq0:(upd H q (.lst [])) q≠none:=by rw[Ad];exact fun z=>nomatch z
    have hr0:(upd H q (.lst [])) r≠none:=by rw[Ba nqr.symm,hR.1];exact fun z=>nomatch z
    have sk0:∀ b o,H b=some o→(upd H q (.lst [])) b=some o:=fun b o e=>by rw[Ba (Bu e hq)];exact e
    refine⟨_,rfl,tx z,_,rfl,rfl,hlk,_,rfl,?_⟩
    have ksl:=Aja ew
    have Aqs:(tx ks).cps.size=ks.length:=Ah ks
    refine Aef (z:=tx ks) (fun i σ H2=>∃ v done vs p2,σ=[some (.ref r),some (.str (tx z)),some (.int (dep:Int)),some (.ref q),v]∧FT r H H2∧(∀ b,H2 b=none→(upd H q (.lst [])) b=none)∧Rd t H2 r dx u p2∧H2 q=some (.lst vs)∧Adk (nw (upd H q (.lst [])) H2) done vs∧done.length=i∧p≤p2∧Pat.args (Pat.node d) true ks (u.drop p)=Ahd (Pat.node d) done (ks.drop i) (u.drop p2)) ⟨none,[],[],p,rfl,(fun b o _ e=>sk0 b o e),(fun b e=>e),⟨by rw[Ba nqr.symm];exact hR.1,hR.2⟩,Ad,⟨rfl,fun i x v g=>by simp at g⟩,rfl,Art _,?_⟩ ?_ ?_
    ·unfold Ahd
     simp
    ·rintro i c' σ H2 hc ⟨v,done,vs,p2,rfl,sb2,AnT,hR2,hq2,hN2,hl2,hp2,hA⟩
     have hci:ks[i]?=some c':=by
      rw[← Kc ks,Array.getElem?_toList]
      exact hc
     have hik:i<ks.length:=(List.getElem?_eq_some_iff.mp hci).1
     have hdk:ks.drop i=c'::ks.drop (i+1):=by
      rw[List.drop_eq_getElem_cons hik,(List.getElem?_eq_some_iff.mp hci).2]
     rw[hdk,Ajb] at hA
     have hvl:=hN2.1
     refine⟨_,rfl,!vs.isEmpty,.inl ⟨vs,SqL.of hq2,rfl⟩,?_⟩
     by_cases ce:done=[]
     case' pos =>
      have ve:vs=[]:=List.length_eq_zero_iff.mp (by rw[hvl,ce];rfl)
      rw[if_pos (by rw[ce];rfl)] at hA
      rw[show(!vs.isEmpty)=false by rw[ve];rfl]
      refine Rk ?_
      obtain⟨p3,ep3⟩:∃ p3,p3=p2:=⟨_,rfl⟩
      rw[← ep3] at hR2 hp2 hA
      have hR3:=hR2
      have sb3:=sb2
      have AkK:=AnT
      have hq3:=hq2
      have hN3:=hN2
      have hA3:=hA
      have hp3:=hp2
     case' neg =>
      have ve:vs.isEmpty=false:=by
       cases vs with
       | nil=>exact absurd (List.length_eq_zero_iff.mp hvl.symm) ce
       | cons _ _=>rfl
      rw[if_neg (by cases done with | nil=>exact absurd rfl ce | cons _ _=>exact fun z=>nomatch z)] at hA
      rw[ve]
      refine Px ?_
      refine⟨_,rfl,r,dx,u,p2,rfl,hR2,fun l p3 hz hp hpl hd=>?_,fun hz H' sb=>k2 (by rw[hA,hz]) H' (sb2.trans sb)⟩
      have hR3:=W0 hR2 hpl
      have s23:FT r H2 (Mg t H2 r dx u p3):=FT.upd
      have sb3:=sb2.trans s23
      have AkK:∀ b,Mg t H2 r dx u p3 b=none→(upd H q (.lst [])) b=none:=fun b e=>AnT b (by
       have nb:b≠r:=fun z=>by rw[z,show Mg t H2 r dx u p3 r=some _ from Ad] at e;cases e
       rw[show Mg t H2 r dx u p3 b=H2 b from Ba nb] at e
       exact e)
      have hq3:=s23 _ _ nqr hq2
      have hN3:=hN2.mono (Aby hr0 s23)
      rw[hz,← hd] at hA
      have hA3:=hA
      have hp3:p≤p3:=ArC hp2 hp
      generalize Mg t H2 r dx u p3=H3 at hR3 sb3 AkK hq3 hN3 ⊢
     all_goals
      have small:vs.length<sizeLine:=Ary (show vs.length<1000 by omega) (by decide)
      refine⟨_,rfl,.inl ⟨rfl,_,SqL.of hq3⟩,_,rfl,rfl,_,rfl,?_⟩
      unfold thing at hA3
      dsimp only at hA3
      by_cases cp:c'=112
      ·rw[if_pos cp] at hA3
       refine GF (by rw[cp];decide +kernel) ?_
       refine⟨_,rfl,_,rfl,r,dx,u,p3,dep,rfl,AnS,hR3,fun x l p4 v4 H4 hz4 hp4 hd4 sb4 hR4 hN4=>?_,fun hz4 H' sb=>k2 (by rw[hA3,hz4]) H' (sb3.trans sb)⟩
       have hq4:=sb4 _ _ nqr hq3
       refine⟨_,_,_,rfl,rfl,hq4,small,?_⟩
       refine⟨_,done++[x],vs++[v4],p4,rfl,?_,?_,?_,Ad,?_,by rw[Arp,hl2];rfl,by omega,by rw[hA3,hz4,hd4]⟩
       ·intro b o hb e
        rw[Ba (Bu e hq)]
        exact sb4 b o hb (sb3 b o hb e)
       ·intro b e
        have nb:b≠q:=fun z=>by rw[z,Ad] at e;cases e
        rw[Ba nb] at e
        refine AkK b (Option.eq_none_iff_forall_ne_some.mpr fun o e3=>?_)
        by_cases hb:b=r
        ·rw[hb,hR4.1] at e;cases e
        ·rw[sb4 b o hb e3] at e;cases e
       ·exact⟨by rw[Ba nqr.symm];exact hR4.1,hR4.2⟩
       ·rw[AkI hq0]
        exact(hN3.mono (Aby hr0 sb4)).snoc (hN4.mono (AfQ AkK))
      ·rw[if_neg cp] at hA3
       refine DN (fun y=>cp ?_) ?_
       ·have e:(("p" : Str))=tx [112]:=by decide +kernel
        rw[e] at y
        injection y with y
        exact(List.cons.inj (R7 (a:=[c']) (b:=[112]) y)).1
       refine⟨_,rfl,r,dx,u,p3,rfl,hR3,fun n l p4 hz4 hp4 hl4 hd4=>?_,fun hz4 H' sb=>k2 (by rw[hA3,hz4];rfl) H' (sb3.trans sb)⟩
       have hR4:=W0 hR3 hl4
       have sb4:=Xy hR3 p4
       have hq4:=sb4 _ _ nqr hq3
       refine⟨_,_,_,rfl,rfl,hq4,small,?_⟩
       refine⟨_,done++[Nd.num n],vs++[.int (n:Int)],p4,rfl,?_,?_,?_,Ad,?_,by rw[Arp,hl2];rfl,by omega,by rw[hA3,hz4,hd4];rfl⟩
       ·intro b o hb e
        rw[Ba (Bu e hq)]
        exact sb4 b o hb (sb3 b o hb e)
       ·intro b e
        have nb:b≠q:=fun z=>by rw[z,Ad] at e;cases e
        rw[Ba nb] at e
        refine AkK b (Option.eq_none_iff_forall_ne_some.mpr fun o e3=>?_)
        by_cases hb:b=r
        ·rw[hb] at e;rw[hR4.1] at e;cases e
        ·rw[sb4 b o hb e3] at e;cases e
       ·exact⟨by rw[Ba nqr.symm];exact hR4.1,hR4.2⟩
       ·rw[AkI hq0]
        exact(hN3.mono (Aby hr0 sb4)).snoc .num
    ·rintro σ H2 ⟨v,done,vs,p2,rfl,sb2,AnT,hR2,hq2,hN2,hl2,hp2,hA⟩
     rw[Aqs,List.drop_length,AkJ] at hA
     refine⟨_,rfl,?_⟩
     exact k1 done _ p2 q vs H2 hA hp2 rfl sb2 hR2 hq hq2 (hN2.mono (AfQ (fun b e=>by
      by_cases eb:b=q
      ·rw[eb,Ad] at e;cases e
      ·rw[Ba eb] at e;exact e)))
theorem W5:(("(" : Str))=tx [40]:=by decide +kernel
theorem Xz:((")" : Str))=tx [41]:=by decide +kernel
theorem Ajc(d:Nat)(l:List Nat):Pat.node (d+1) l=match Pat.one 40 (Pat.sk (l.dropWhile Pat.letter)) with
  | none=>if Pat.isName (l.takeWhile Pat.letter)=true then some (.nam (l.takeWhile Pat.letter),Pat.sk (l.dropWhile Pat.letter)) else none
  | some l1=>match Pat.things (Pat.node d) (l.takeWhile Pat.letter) (Pat.sk l1) with
   | none=>none
   | some (ts,l2)=>match Pat.one 41 l2 with
    | none=>none
    | some l3=>some (.node (l.takeWhile Pat.letter) ts,Pat.sk l3):=by
 (conv=>lhs;unfold Pat.node) <;> rfl
theorem Adm{d k:Nat}(hk:2≤k)(T:Txt K mg t)(TV:Aj P w K mg base (CX1 P w) k t.Ij t.Ik ["reader", "word", "depth"] (Ac4 t d)):Aj P w K mg base (CX1 P w) (k+1) t.HS t.HW ["reader", "depth"] (Zr t (d+1)):=by
 have FP:Aj P w K mg base CX0 1 t.FJ t.FN _ _:=Pr T
 have Be:Aj P w K mg base CX0 2 t.Ce t.Cg _ _:=Dz T
 have Aah:Aj P w K mg base CX0 1 t.Qd t.Qe _ _:=Ac3 T
 refine T.Oq.F.okX Lj (fun vs H Q E h=>?_) (fun cdv A outer s H vs Q E hr h=>?_)
 ·obtain⟨r,dx,u,p,dep,rfl,_⟩:=h
  rfl
 ·obtain⟨r,dx,u,p,dep,rfl,AnS,hR,k1,k2⟩:=h
  refine⟨_,(Ac (BK (Ao Q9 (pv 1) (Cv (v:=.int 12) rfl T.AaQ.choose_spec ⟨_,rfl⟩) (Ax _))
    (Ae (Du Jr rfl (fun _ _ z=>z) PySem.F.excBase_ValueError GJ PySem.F.excBase_ValueError T.Cd.q rfl T.Ck (Aa Ag Ab)))
    Aw)
   (Ac (BP (i:=2) Lj.nd rfl (Or.inl rfl) (Fv (pv 0) T.By.c T.Am.m (Be.mono (by omega)) hr T.Am.b .nil An (Aa (Cv (v:=.str "abcdefghijklmnopqrstuvwxyz") rfl T.Aae.choose_spec ⟨_,rfl⟩) Ab)))
   (Ac (BJ (Fv (pv 0) T.By.c T.Am.m (Be.mono (by omega)) hr T.Am.b .nil An (Aa Ag Ab)))
   (Ac (BK (QR (N7 (Fv (pv 0) T.By.c T.Dp.m (FP.mono (by omega)) hr T.Dp.b .nil An (Aa Ag Ab))))
    (Ac (BK (QR (N7 (Aq (Aah.mono (by omega)) hr rfl T.Vk.m T.Vk.F.kp T.Vk.b .nil An (Aa (pv 2) Ab))))
     (Ae (Du Jr rfl (fun _ _ z=>z) PySem.F.excBase_ValueError GJ PySem.F.excBase_ValueError T.Cd.q rfl T.Ck (Aa Ag Ab)))
     Aw)
    (Ae (Bb (Tr (Aa (pv 2) (Aa Py Ab))))))
    Aw)
   (Ac (BJ (Fv (pv 0) T.By.c T.Am.m (Be.mono (by omega)) hr T.Am.b .nil An (Aa Ag Ab)))
   (Ac (BP (i:=3) Lj.nd rfl (Or.inl rfl) (Aq (TV.mono (by omega)) hr rfl T.K4.m T.K4.F.kp T.K4.b .nil Gv (Aa (pv 0) (Aa (pv 2) (Aa (Bv U3 (pv 1) Ak) Ab)))))
   (Ac (BK (QR (N7 (Fv (pv 0) T.By.c T.Dp.m (FP.mono (by omega)) hr T.Dp.b .nil An (Aa Ag Ab))))
    (Ae (Du Jr rfl (fun _ _ z=>z) PySem.F.excBase_ValueError GJ PySem.F.excBase_ValueError T.Cd.q rfl T.Ck (Aa Ag Ab)))
    Aw)
   (Ac (BJ (Fv (pv 0) T.By.c T.Am.m (Be.mono (by omega)) hr T.Am.b .nil An (Aa Ag Ab)))
   (Ae (Bb (Tr (Aa (pv 2) (Aa (pv 3) Ab))))))))))))),?_⟩
  rw[Ajc] at k1 k2
  refine⟨_,rfl,_,_,rfl,rfl,_,rfl,?_⟩
  refine DN (by omega) ?_
  have b1:=behind Pat.letter hR.2.1
  obtain⟨p1,e1⟩:∃ p1,p1=p+((u.drop p).takeWhile Pat.letter).length:=⟨_,rfl⟩
  rw[← e1] at b1
  have b2:=behind (fun c=>decide (c=32)) b1.2
  obtain⟨p2,e2⟩:∃ p2,p2=p1+((u.drop p1).takeWhile fun c=>decide (c=32)).length:=⟨_,rfl⟩
  rw[← e2] at b2
  have d2:u.drop p2=Pat.sk ((u.drop p).dropWhile Pat.letter):=by rw[b2.1,b1.1];rfl
  rw[← d2] at k1 k2
  have hR1:=W0 hR b1.2
  have hR2:=W0 hR b2.2
  have hz:((u.drop p).takeWhile Pat.letter).length≤1000000:=by have:=hR.2.2;omega
  refine⟨_,rfl,r,dx,rf u p,rfl,hR.1,(Hk u p).2.2.2,r,dx,u,p,Amq,(by rw[AkG];rfl),hR,(by decide),?_⟩
  rw[Su AkH,← e1]
  refine⟨_,rfl,r,dx,rf u _,rfl,hR1.1,(Hk u _).2.2.2,r,dx,u,_,[32],(by rw[W2];rfl),hR1,(by decide),?_⟩
  rw[Su AaR,Lf,← e2]
  generalize hzz:(u.drop p).takeWhile Pat.letter=z at k1 k2 hz ⊢
  refine⟨_,rfl,r,dx,rf u _,rfl,hR2.1,(Hk u _).2.1,r,dx,u,_,[40],(by rw[W5];rfl),hR2,(by decide),fun Ak7=>?_,fun hno=>?_⟩
  ·obtain⟨l1,el⟩:=W3.mp Ak7
   have d:=Zo el
   rw[el] at k1 k2
   dsimp only at k1 k2
   have b3:=behind (fun c=>decide (c=32)) d.2
   obtain⟨p3,e3⟩:∃ p3,p3=p2+[40].length+((u.drop (p2+[40].length)).takeWhile fun c=>decide (c=32)).length:=⟨_,rfl⟩
   rw[← e3] at b3
   have d3:u.drop p3=Pat.sk l1:=by rw[b3.1,d.1];rfl
   rw[← d3] at k1 k2
   have hRa:=W0 hR d.2
   have hR3:=W0 hR b3.2
   rw[Lf]
   refine⟨_,rfl,?_⟩
   refine Rk ?_
   refine⟨_,rfl,r,dx,rf u _,rfl,hRa.1,(Hk u _).2.2.2,r,dx,u,_,[32],(by rw[W2];rfl),hRa,(by decide),?_⟩
   rw[Su AaR,Lf,← e3]
   refine⟨_,rfl,_,rfl,_,rfl,_,_,rfl,rfl,r,dx,u,p3,dep+1,z,rfl,by omega,hR3,fun ts l p4 q vs' H4 hz4 hp4 hd4 sb4 hR4 hqn hq4 hN4=>?_,fun hz4 H' sb=>k2 (by rw[hz4]) H' ((Xy hR p3).trans sb)⟩
   rw[hz4] at k1 k2
   dsimp only at k1 k2
   have sH4:FT r H H4:=(Xy hR p3).trans sb4
   refine⟨_,rfl,r,dx,rf u p4,rfl,hR4.1,(Hk u _).2.1,r,dx,u,p4,[41],(by rw[Xz];rfl),hR4,(by decide),fun Apd=>?_,fun Ape=>?_⟩
   ·obtain⟨l5,el5⟩:=W3.mp Apd
    have d5:=Zo el5
    rw[hd4] at el5
    rw[el5] at k1
    dsimp only at k1
    have b6:=behind (fun c=>decide (c=32)) d5.2
    obtain⟨p6,e6⟩:∃ p6,p6=p4+[41].length+((u.drop (p4+[41].length)).takeWhile fun c=>decide (c=32)).length:=⟨_,rfl⟩
    rw[← e6] at b6
    have hR5:=W0 hR4 d5.2
    refine⟨_,rfl,?_⟩
    refine Rk ?_
    refine⟨_,rfl,r,dx,rf u _,rfl,hR5.1,(Hk u _).2.2.2,r,dx,u,_,[32],(by rw[W2];rfl),hR5,(by decide),?_⟩
    rw[Su AaR,Lf,← e6]
    have s6:=Xy hR4 p6
    have hR6:=W0 hR4 b6.2
    have hqn:Mg t H r dx u p3 q=none:=hqn
    have hN4:Adk (nw (Mg t H r dx u p3) H4) ts vs':=hN4
    have nqr:q≠r:=fun y=>by rw[y,hR3.1] at hqn;cases hqn
    have hqH:H q=none:=by rw[show Mg t H r dx u p3 q=H q from Ba nqr] at hqn;exact hqn
    have hN6:Adk (nw H (Mg t H4 r dx u p6)) ts vs':=(hN4.mono (Aby (by rw[hR3.1];exact fun y=>nomatch y) s6)).mono (AfQ fun b e=>by
     by_cases eb:b=r
     ·rw[eb,hR3.1] at e;cases e
     ·rw[show Mg t H r dx u p3 b=H b from Ba eb] at e;exact e)
    have sH6:=sH4.trans s6
    have hq6:=s6 _ _ nqr hq4
    have heq:upd H4 r (.ins t.BV dx (rf u p6))=Mg t H4 r dx u p6:=rfl
    rw[heq]
    generalize Mg t H4 r dx u p6=H6 at hR6 hN6 sH6 hq6 ⊢
    refine⟨_,rfl,_,rfl,(by show 2≤sizeLine;decide),fun a ha=>?_⟩
    have nar:a≠r:=fun y=>by rw[y,hR6.1] at ha;cases ha
    have naq:a≠q:=fun y=>by rw[y,hq6] at ha;cases ha
    have haH:H a=none:=by
     cases e:H a with
     | none=>rfl
     | some o=>rw[sH6 a o nar e] at ha;cases ha
    refine k1 (.node z ts) _ p6 (.ref a) _ rfl (by omega) (by rw[b6.1,d5.1];rfl) (fun b o hb e=>by rw[Ba (Bu (sH6 b o hb e) ha)];exact sH6 b o hb e) ⟨by rw[Ba nar.symm];exact hR6.1,hR6.2⟩ (.node (q:=q) (vs:=vs') ?_ ?_ hN6.1 (fun i x v g1 g2=>(hN6.2 i x v g1 g2).mono fun b o e=>?_))
    ·rw[XQ haH];exact Ad
    ·rw[XQ hqH,Ba naq.symm];exact hq6
    ·have g:=AaS e
     rw[XQ g.1,Ba (Bu g.2 ha)]
     exact g.2
   ·rw[hd4] at Ape
    have e9:=Zq (u:=u) (p:=p4) (c:=41) (by rw[hd4];exact Ape)
    rw[hd4] at e9
    rw[e9] at k2
    refine⟨_,rfl,?_⟩
    refine Px ?_
    exact⟨by decide,k2 rfl _ sH4⟩
  ·rw[Zq hno] at k1 k2
   dsimp only at k1 k2
   refine⟨_,rfl,?_⟩
   refine Px ?_
   refine⟨_,rfl,z,rfl,hz,fun H1 s1=>?_⟩
   refine⟨_,rfl,?_⟩
   cases cn:Pat.isName z with
   | true =>
    rw[cn,if_pos rfl] at k1
    refine Rk ?_
    refine⟨_,rfl,(by show 2≤sizeLine;decide),fun a ha=>?_⟩
    have sH:FT r H H1:=(Xy hR p2).trans fun b o _ e=>s1 b o e
    have hr1:H1 r=some (.ins t.BV dx (rf u p2)):=s1 _ _ hR2.1
    have nar:a≠r:=fun y=>by rw[y,hr1] at ha;cases ha
    have haH:H a=none:=by
     cases e:H a with
     | none=>rfl
     | some o=>rw[sH a o nar e] at ha;cases ha
    refine k1 (.nam z) _ p2 (.ref a) _ rfl (by omega) rfl (fun b o hb e=>by rw[Ba (Bu (sH b o hb e) ha)];exact sH b o hb e) ⟨by rw[Ba nar.symm];exact hr1,b2.2,hR.2.2⟩ (.nam ?_)
    rw[XQ haH]
    exact Ad
   | false =>
    rw[cn] at k2
    refine Px ?_
    exact⟨by decide,k2 (if_neg (fun y=>nomatch y)) _ ((Xy hR p2).trans fun b o _ e=>s1 b o e)⟩
theorem Apf{k:Nat}{CX:CXT}{f:Addr}{fd:FuncData}{ps:List Str}:Aj P w K mg base CX k f fd ps (fun _ _ _ _=>False):=⟨fun _ _ _ _ h=>h.elim,fun _ _ _ _ _ _ _ _ _ _ _ _ _ h=>h.elim⟩
theorem Ac5{k:Nat}(hk:2≤k)(T:Txt K mg t):Aj P w K mg base (CX1 P w) (k+1) t.HS t.HW ["reader", "depth"] (Zr t 0):=by
 have FP:Aj P w K mg base CX0 1 t.FJ t.FN _ _:=Pr T
 have Be:Aj P w K mg base CX0 2 t.Ce t.Cg _ _:=Dz T
 have Aah:Aj P w K mg base CX0 1 t.Qd t.Qe _ _:=Ac3 T
 have TV:Aj P w K mg base (CX1 P w) 1 t.Ij t.Ik ["reader", "word", "depth"] _:=Apf
 refine T.Oq.F.okX Lj (fun vs H Q E h=>?_) (fun cdv A outer s H vs Q E hr h=>?_)
 ·obtain⟨r,dx,u,p,dep,rfl,_⟩:=h
  rfl
 ·obtain⟨r,dx,u,p,dep,rfl,AnS,hR,k1,k2⟩:=h
  refine⟨_,(Ac (BK (Ao Q9 (pv 1) (Cv (v:=.int 12) rfl T.AaQ.choose_spec ⟨_,rfl⟩) (Ax _))
    (Ae (Du Jr rfl (fun _ _ z=>z) PySem.F.excBase_ValueError GJ PySem.F.excBase_ValueError T.Cd.q rfl T.Ck (Aa Ag Ab)))
    Aw)
   (Ac (BP (i:=2) Lj.nd rfl (Or.inl rfl) (Fv (pv 0) T.By.c T.Am.m (Be.mono (by omega)) hr T.Am.b .nil An (Aa (Cv (v:=.str "abcdefghijklmnopqrstuvwxyz") rfl T.Aae.choose_spec ⟨_,rfl⟩) Ab)))
   (Ac (BJ (Fv (pv 0) T.By.c T.Am.m (Be.mono (by omega)) hr T.Am.b .nil An (Aa Ag Ab)))
   (Ac (BK (QR (N7 (Fv (pv 0) T.By.c T.Dp.m (FP.mono (by omega)) hr T.Dp.b .nil An (Aa Ag Ab))))
    (Ac (BK (QR (N7 (Aq (Aah.mono (by omega)) hr rfl T.Vk.m T.Vk.F.kp T.Vk.b .nil An (Aa (pv 2) Ab))))
     (Ae (Du Jr rfl (fun _ _ z=>z) PySem.F.excBase_ValueError GJ PySem.F.excBase_ValueError T.Cd.q rfl T.Ck (Aa Ag Ab)))
     Aw)
    (Ae (Bb (Tr (Aa (pv 2) (Aa Py Ab))))))
    Aw)
   (Ac (BJ (Fv (pv 0) T.By.c T.Am.m (Be.mono (by omega)) hr T.Am.b .nil An (Aa Ag Ab)))
   (Ac (BP (i:=3) Lj.nd rfl (Or.inl rfl) (Aq (TV.mono (by omega)) hr rfl T.K4.m T.K4.F.kp T.K4.b .nil Gv (Aa (pv 0) (Aa (pv 2) (Aa (Bv U3 (pv 1) Ak) Ab)))))
   (Ac (BK (QR (N7 (Fv (pv 0) T.By.c T.Dp.m (FP.mono (by omega)) hr T.Dp.b .nil An (Aa Ag Ab))))
    (Ae (Du Jr rfl (fun _ _ z=>z) PySem.F.excBase_ValueError GJ PySem.F.excBase_ValueError T.Cd.q rfl T.Ck (Aa Ag Ab)))
    Aw)
   (Ac (BJ (Fv (pv 0) T.By.c T.Am.m (Be.mono (by omega)) hr T.Am.b .nil An (Aa Ag Ab)))
   (Ae (Bb (Tr (Aa (pv 2) (Aa (pv 3) Ab))))))))))))),?_⟩
  refine⟨_,rfl,_,_,rfl,rfl,_,rfl,?_⟩
  refine GF (by omega) ?_
  exact⟨by decide,k2 rfl _ (fun b o _ e=>e)⟩
theorem AdO(T:Txt K mg t):∀ d,Aj P w K mg base (CX1 P w) (2*d+5) t.HS t.HW ["reader", "depth"] (Zr t d)
 | 0=>Ac5 (k:=4) (by decide) T
 | d+1=>Adm (k:=2*d+6) (by omega) T (Abg (k:=2*d+5) (by omega) T (AdO T d))
def Ajd (t:Adr):Sp:=fun vs H Q E=>∃ u,vs=[.str (tx u)]∧u.length≤1000000 ∧
 (∀ x v H',Pat.whole u=some x→Bg H H'→AtN (nw H H') x v→Q v H')∧(Pat.whole u=none→∀ H',Bg H H'→E (.ref t.Bm) none H')
theorem Ac6(T:Txt K mg t):Aj P w K mg base (CX1 P w) 30 t.Ls t.Lw ["text"] (Ajd t):=by
 have W4:Aj P w K mg base (CX1 P w) 29 t.HS t.HW _ _:=AdO T 12
 have Ss:Aj P w K mg base CX0 1 t.GP t.GQ _ _:=VB T
 have Be:Aj P w K mg base CX0 2 t.Ce t.Cg _ _:=Dz T
 have Zt:Aj P w K mg base CX0 1 t.En t.Gd _ _:=Yn T
 refine T.Vn.F.okX Tw (fun vs H Q E h=>?_) (fun cdv A outer s H vs Q E hr h=>?_)
 ·obtain⟨u,rfl,_⟩:=h
  rfl
 ·obtain⟨u,rfl,hu,k1,k2⟩:=h
  refine⟨_,(Ac (BP (i:=1) Tw.nd rfl (Or.inl rfl) (JZ T.By.m (Zt.mono (by decide)) hr rfl T.Ak1 T.Tq.b .nil An (Aa (pv 0) Ab)))
   (Ac (BJ (Fv (pv 1) T.By.c T.Am.m (Be.mono (by decide)) hr T.Am.b .nil An (Aa Ag Ab)))
   (Ac (BP (i:=2) Tw.nd rfl (Or.inl rfl) (Aq (W4.mono (by decide)) hr rfl T.Oq.m T.Oq.F.kp T.Oq.b .nil Gv (Aa (pv 1) (Aa Ak Ab))))
   (Ac (BK (QR (N7 (AbM (pv 1) T.By.c T.Le.m (Ss.mono (by decide)) hr T.Le.b .nil An)))
    (Ae (Du Jr rfl (fun _ _ z=>z) PySem.F.excBase_ValueError GJ PySem.F.excBase_ValueError T.Cd.q rfl T.Ck (Aa Ag Ab)))
    Aw)
   (Ae (Bb (pv 2))))))),?_⟩
  refine⟨_,rfl,fun r dx hr1 hdx hne=>⟨r,dx,u,rfl,Ad,?_⟩⟩
  rw[Lf]
  refine⟨rfl,?_⟩
  have hR0:Rd t (Mg t (upd H dx (.own r)) r dx u 0) r dx u 0:=⟨Ad,Ar9 _,hu⟩
  have b1:=behind (u:=u) (p:=0) (fun c=>decide (c=32)) (Ar9 _)
  refine⟨_,rfl,r,dx,rf u 0,rfl,hR0.1,(Hk u _).2.2.2,r,dx,u,0,[32],(by rw[W2];rfl),hR0,(by decide),?_⟩
  rw[Su AaR,Lf]
  obtain⟨p1,e1⟩:∃ p1,p1=0+((u.drop 0).takeWhile fun c=>decide (c=32)).length:=⟨_,rfl⟩
  rw[← e1] at b1 ⊢
  have hR1:Rd t (Mg t (upd H dx (.own r)) r dx u p1) r dx u p1:=⟨Ad,b1.2,hu⟩
  have d1:u.drop p1=Pat.sk u:=b1.1
  unfold Pat.whole at k1 k2
  rw[← d1] at k1 k2
  have sH:∀ H',FT r (Mg t (upd H dx (.own r)) r dx u p1) H'→Bg H H':=fun H' sb b o e=>by
   have n1:=Bu e hr1
   refine sb b o n1 ?_
   show(upd (upd H dx _) r _) b=_
   rw[Ba n1,Ba (Bu e hdx)]
   exact e
  refine⟨_,rfl,r,dx,u,p1,1,rfl,rfl,hR1,fun x l p4 v H4 hz4 hp4 hd4 sb4 hR4 hN4=>?_,fun hz4 H' sb=>k2 (by rw[hz4]) H' (sH H' sb)⟩
  have hN4:AtN (nw (Mg t (upd H dx (.own r)) r dx u p1) H4) x v:=hN4
  rw[hz4] at k1 k2
  refine⟨_,rfl,r,dx,rf u p4,rfl,hR4.1,(Hk u _).1,r,dx,u,p4,rfl,hR4,?_⟩
  refine⟨_,rfl,?_⟩
  by_cases c:p4=u.length
  ·rw[decide_eq_true c]
   refine Rk ?_
   have el:l=[]:=by rw[← hd4,c,List.drop_length]
   refine⟨_,rfl,k1 x v H4 (by rw[el]) (sH H4 sb4) (hN4.mono (AfQ fun b e=>?_))⟩
   by_cases e1:b=r
   ·rw[e1];exact hr1
   ·by_cases e2:b=dx
    ·rw[e2];exact hdx
    ·have e:(upd (upd H dx (.own r)) r (.ins t.BV dx (rf u p1))) b=none:=e
     rw[Ba e1,Ba e2] at e
     exact e
  ·rw[decide_eq_false c]
   refine Px ?_
   have el:l≠[]:=fun y=>by
    rw[y] at hd4
    have:=congrArg List.length hd4
    rw[ArM] at this
    have:=hR4.2.1
    simp only [Arv] at *
    omega
   refine⟨by decide,k2 ?_ _ (sH H4 sb4)⟩
   cases l with
   | nil=>exact absurd rfl el
   | cons _ _=>rfl
end
theorem AfT(z:List Nat):∀(ys:List (List Nat)) (acc:Array Nat),(ys.map tx).foldl (fun acc p=>acc++(tx z).cps++p.cps) acc=acc++((ys.map fun y=>z++y).flatten).toArray
 | [],acc=>by simp
 | y::ys,acc=>by
  rw[Arx,As3,AfT z ys]
  simp[tx]
theorem AkL(z y:List Nat)(ys:List (List Nat)):Txt.join (tx z) ((y::ys).map tx)=tx (y++(ys.map fun y=>z++y).flatten):=by
 show Str.mk _=_
 simp only [Arx,List.drop_one,As7,List.headD_cons]
 rw[AfT]
 simp[tx]
section
variable {P:Program}{w:World}{K:PySem.W.Frag}{mg:Str→Option Value}{base:Heap}{t:Adr}
def pf (l:Addr)(z:Str):List (Str × V):=[("texts", .ref l),("writing", .str z)]
def AkM (K:PySem.W.Frag):Sp:=fun vs H Q _=>∃(C r dx a:Addr) (ts:List (List Nat)) (z:Str),vs=[.ref r,.ref a,.str z]∧H r=some (.ins C dx [])∧Cls K C∧CT K C "texts" ∧ CT K C "writing" ∧ SqL K H a (vS ts) ∧
 ∀ l,H l=none→Q .non (upd (upd H l (.lst (vS ts))) r (.ins C dx (pf l z)))
theorem BZ(T:Txt K mg t):Aj P w K mg base CX0 1 t.Bd t.Bs ["self", "texts", "writing"] (AkM K):=by
 refine T.BX.F.ok Za (fun vs H Q E h=>?_) (fun cdv A outer s H vs Q E hr h=>?_)
 ·obtain⟨C,r,dx,a,ts,z,rfl,_⟩:=h
  rfl
 ·obtain⟨C,r,dx,a,ts,z,rfl,h1,hc,hn1,hn2,hS,k⟩:=h
  refine⟨_,(Ac (YH (K:=K) (pv 0) (Ex (Qy (K:=K)) rfl T.Wr U8 (Aa (pv 1) Ab)))
   (Ae (YH (K:=K) (pv 0) (pv 2)))),?_⟩
  refine⟨_,rfl,_,_,rfl,.inl hS,fun l hl=>?_⟩
  have nlr:r≠l:=Bu h1 hl
  have h1':(upd H l (.lst (vS ts))) r=some (.ins C dx []):=by rw[Ba nlr];exact h1
  refine⟨_,rfl,_,_,_,_,rfl,h1',hc,hn1,(by decide),?_⟩
  refine⟨_,rfl,_,rfl,_,_,_,_,rfl,Ad,hc,hn2,(by show 1<1000;decide),?_⟩
  rw[Lf]
  exact k l hl
def pcs (t:Adr):List Addr:=[t.De,t.DW,t.Dg,t.Dh,t.Cr,t.Dk,t.Cu,t.Dl,t.Eg,t.BW,t.DX,t.Cj,t.Hl]
structure PcC (K:PySem.W.Frag) (t:Adr) (C:Addr):Prop where
 c:Cls K C
 n1:CT K C "texts"
 n2:CT K C "writing"
 wide:Meth K C "wide" t.Ar
 high:Meth K C "high" t.Av
 sign:Meth K C "sign" t.Bf
 Apg:Meth K C "cloth" t.Ai
 told:Meth K C "told" t.Al
theorem pcC(T:Txt K mg t){C:Addr}(h:C∈pcs t):PcC K t C:=by
 simp only [pcs,Ar3,Ar4,or_false] at h
 rcases h with rfl | rfl | rfl | rfl | rfl | rfl | rfl | rfl | rfl | rfl | rfl | rfl | rfl
 ·exact⟨T.Aez.c,T.Jd,T.G6,T.Mv,T.Mw,T.Mx,T.K5,T.My⟩
 ·exact⟨T.AgY.c,T.JQ,T.HB,T.O7,T.O8,T.O9,T.Mz,T.OD⟩
 ·exact⟨T.Ae0.c,T.Je,T.G7,T.M3,T.M4,T.M5,T.K6,T.M6⟩
 ·exact⟨T.Ae1.c,T.Jf,T.G8,T.M7,T.M8,T.M9,T.K7,T.MF⟩
 ·exact⟨T.Acx.c,T.HD,T.Ge,T.K8,T.K9,T.KC,T.J2,T.KD⟩
 ·exact⟨T.Ae2.c,T.Jg,T.G9,T.MJ,T.MK,T.MN,T.KH,T.MP⟩
 ·exact⟨T.Acy.c,T.HF,T.Gf,T.KJ,T.KN,T.KQ,T.J3,T.KR⟩
 ·exact⟨T.Ae3.c,T.Jh,T.GC,T.MT,T.Nf,T.Ng,T.KY,T.Nh⟩
 ·exact⟨T.AgZ.c,T.JR,T.HH,T.OJ,T.Pa,T.Pb,T.Ni,T.Pg⟩
 ·exact⟨T.Aaf.c,T.GD,T.Fp,T.J4,T.J5,T.J6,T.Ji,T.J7⟩
 ·exact⟨T.Ahb.c,T.JS,T.HJ,T.Ph,T.Pj,T.Pk,T.Nj,T.Pn⟩
 ·exact⟨T.Acz.c,T.HN,T.Gg,T.KZ,T.La,T.Lb,T.J8,T.Ld⟩
 ·exact⟨T.Ak0.c,T.Ma,T.Jj,T.QH,T.QJ,T.QK,T.Pq,T.QL⟩
def Pc (t:Adr)(H:Hp)(p:Addr)(x:List (List Nat))(z:List Nat):Prop:=∃ C dx l,C∈pcs t∧H p=some (.ins C dx (pf l (tx z)))∧H l=some (.lst (vS x))
theorem Pc.mono{H H':Hp}{p:Addr}{x:List (List Nat)}{z:List Nat}(h:Pc t H p x z)(s:∀ b o,H b=some o→H' b=some o):Pc t H' p x z:=by
 obtain⟨C,dx,l,hC,h1,h2⟩:=h
 exact⟨C,dx,l,hC,s _ _ h1,s _ _ h2⟩
theorem Ac7(l:Addr)(z:Str):(pf l z).lookup ("texts" : Str)=some (V.ref l):=rfl
theorem Ahe(l:Addr)(z:Str):(pf l z).lookup ("writing" : Str)=some (V.str z):=rfl
theorem Ab0(l:Addr)(z:Str):(pf l z).lookup ("wide" : Str)=none∧(pf l z).lookup ("high" : Str)=none∧(pf l z).lookup ("sign" : Str)=none∧(pf l z).lookup ("cloth" : Str)=none∧(pf l z).lookup ("told" : Str)=none:=⟨rfl,rfl,rfl,rfl,rfl⟩
theorem Ot{cl:List (List Nat)}{i:Nat}{x:List Nat}(h:cl[i]?=some x):atI (vS cl) (i:Int)=some (.str (tx x)):=CZ (by omega) (by rw[Ar7];unfold vS;rw[Ar6,h];rfl)
theorem Cl.at{x:List (List Nat)}{m n i:Nat}(C:Cl x m n)(h:i<n):∃ u,x[i]?=some u∧u.length=m:=by
 have hi:i<x.length:=by rw[C.hn];exact h
 exact⟨x[i],Aru hi,C.hm _ (ArG hi)⟩
def AhW (t:Adr):Sp:=fun vs H Q _=>∃ p x z m n,vs=[.ref p]∧Pc t H p x z∧Cl x m n∧Q (.int ((m:Nat):Int)) H
theorem Nk(T:Txt K mg t):Aj P w K mg base CX0 1 t.Ar t.Fy ["self"] (AhW t):=by
 refine T.Es.F.ok Adg (fun vs H Q E h=>?_) (fun cdv A outer s H vs Q E hr h=>?_)
 ·obtain⟨p,x,z,m,n,rfl,_⟩:=h
  rfl
 ·obtain⟨p,x,z,m,n,rfl,⟨C,dx,l,hC,hp,hl⟩,D,k⟩:=h
  have C:=pcC T hC
  obtain⟨u,hu,hul⟩:=D.at D.n1
  have:=D.m40
  refine⟨_,(Ae (Bb (Bq Ca rfl T.Ec CW (Aa (BL (Bo (K:=K)) (Ke (K:=K) (pv 0) rfl) Ak (fun _ _=>rfl)) Ab)))),?_⟩
  refine⟨_,rfl,_,_,_,_,_,rfl,hp,C.c,C.n1,Ac7 _ _,_,_,_,_,rfl,rfl,SqL.of hl,Ot (i:=0) hu,_,rfl,(by rw[Ah,hul];exact big (by omega)),?_⟩
  rw[Ah,hul]
  exact k
def AhX (t:Adr):Sp:=fun vs H Q _=>∃ p x z m n,vs=[.ref p]∧Pc t H p x z∧Cl x m n∧Q (.int ((n:Nat):Int)) H
theorem Nm(T:Txt K mg t):Aj P w K mg base CX0 1 t.Av t.Fz ["self"] (AhX t):=by
 refine T.Et.F.ok Adh (fun vs H Q E h=>?_) (fun cdv A outer s H vs Q E hr h=>?_)
 ·obtain⟨p,x,z,m,n,rfl,_⟩:=h
  rfl
 ·obtain⟨p,x,z,m,n,rfl,⟨C,dx,l,hC,hp,hl⟩,D,k⟩:=h
  have C:=pcC T hC
  refine⟨_,(Ae (Bb (Bq (Bx (K:=K)) rfl T.Ec CW (Aa (Ke (K:=K) (pv 0) rfl) Ab)))),?_⟩
  refine⟨_,rfl,_,_,_,_,_,rfl,hp,C.c,C.n1,Ac7 _ _,_,_,rfl,.inl (SqL.of hl),?_⟩
  rw[Bj,D.hn]
  exact k
def AfU (t:Adr):Sp:=fun vs H Q _=>∃ p x z,vs=[.ref p]∧Pc t H p x z∧∀ l,H l=none→Q (.ref l) (upd H l (.lst (vS x)))
theorem Dv(T:Txt K mg t):Aj P w K mg base CX0 1 t.Ai t.Cm ["self"] (AfU t):=by
 refine T.Cp.F.ok Acu (fun vs H Q E h=>?_) (fun cdv A outer s H vs Q E hr h=>?_)
 ·obtain⟨p,x,z,rfl,_⟩:=h
  rfl
 ·obtain⟨p,x,z,rfl,⟨C,dx,l,hC,hp,hl⟩,k⟩:=h
  have C:=pcC T hC
  refine⟨_,(Ae (Bb (Ex (Qy (K:=K)) rfl T.Wr U8 (Aa (Ke (K:=K) (pv 0) rfl) Ab)))),?_⟩
  exact⟨_,rfl,_,_,_,_,_,rfl,hp,C.c,C.n1,Ac7 _ _,_,_,rfl,.inl (SqL.of hl),fun q hq=>k q hq⟩
def AhY (t:Adr):Sp:=fun vs H Q _=>∃ p x z,vs=[.ref p]∧Pc t H p x z∧Q (.str (tx z)) H
theorem DQ(T:Txt K mg t):Aj P w K mg base CX0 1 t.Al t.Cw ["self"] (AhY t):=by
 refine T.Cz.F.ok Adi (fun vs H Q E h=>?_) (fun cdv A outer s H vs Q E hr h=>?_)
 ·obtain⟨p,x,z,rfl,_⟩:=h
  rfl
 ·obtain⟨p,x,z,rfl,⟨C,dx,l,hC,hp,hl⟩,k⟩:=h
  have C:=pcC T hC
  refine⟨_,(Ae (Bb (Ke (K:=K) (pv 0) rfl))),?_⟩
  exact⟨_,rfl,_,_,_,_,_,rfl,hp,C.c,C.n2,Ahe _ _,k⟩
def AkN (t:Adr):Sp:=fun vs H Q E=>∃ m n:Nat,vs=[.int (m:Int),.int (n:Int)]∧(m≤40∧n≤40→Q .non H)∧(40<m∨40<n→∀ H',Bg H H'→E (.ref t.BR) none H')
theorem Jl(T:Txt K mg t):Aj P w K mg base (CX1 P w) 2 t.Eo t.Ep ["ends", "picks"] (AkN t):=by
 refine T.Di.F.okX Adc (fun vs H Q E h=>?_) (fun cdv A outer s H vs Q E hr h=>?_)
 ·obtain⟨m,n,rfl,_⟩:=h
  rfl
 ·obtain⟨m,n,rfl,k1,k2⟩:=h
  refine⟨_,(Ae (BK (PW.pt (pw_or (Ao Q9 (pv 0) (Cv (v:=.int 40) rfl T.Er.choose_spec ⟨_,rfl⟩) (Ax _)) (pw_or1 (Ao Q9 (pv 1) (Cv (v:=.int 40) rfl T.Er.choose_spec ⟨_,rfl⟩) (Ax _)))))
    (Ae (Du Jr rfl (fun _ _ z=>z) PySem.F.excBase_ValueError GJ PySem.F.excBase_ValueError T.RZ.q rfl T.Vs (Aa Ag Ab)))
    Aw)),?_⟩
  refine⟨_,rfl,_,_,rfl,rfl,_,rfl,?_⟩
  refine Ey (fun c1=>?_) (fun c1=>?_)
  ·refine Px ?_
   exact⟨by decide,k2 (.inl (by omega)) _ (.refl _)⟩
  ·refine⟨_,rfl,_,_,rfl,rfl,_,rfl,?_⟩
   refine Ey (fun c2=>?_) (fun c2=>?_)
   ·exact⟨by decide,k2 (.inr (by omega)) _ (.refl _)⟩
   ·exact k1 (by omega)
theorem Aph(m i:Nat):decide (V.int ((m:Int)%(2+(i:Int)))=V.int 0)=decide (m%(2+i)=0):=by
 apply decide_eq_decide.mpr
 have e:(m:Int)%(2+(i:Int))=((m%(2+i):Nat):Int):=by
  rw[Int.natCast_emod]
  rfl
 rw[e]
 exact⟨fun z=>by injection z with z;omega,fun z=>by rw[z];rfl⟩
def AkO:Sp:=fun vs H Q _=>∃ m n:Nat,vs=[.int (m:Int),.int (n:Int)]∧m≤100∧1≤n∧n≤100∧∀ H',Bg H H'→Q (.bl (!cop m n n)) H'
theorem AfV(T:Txt K mg t):Aj P w K mg base CX0 2 t.Qf t.Qg ["size", "step"] AkO:=by
 refine T.Zf.F.ok AfG (fun vs H Q E h=>?_) (fun cdv A outer s H vs Q E hr h=>?_)
 ·obtain⟨m,n,rfl,_⟩:=h
  rfl
 ·obtain⟨m,n,rfl,hm,hn1,hn,k⟩:=h
  refine⟨_,(Ae (Bb (AmW (Bq (AdJ (K:=K)) rfl T.AmO Aj8 (Aa (Gq (DK.mk (Bp:=[0,1]) (Nc:=["k", "size", "step"]) rfl (by decide +kernel) (by decide +kernel) (Dy (sc0:=Af Vd) rfl (by decide +kernel)) rfl rfl rfl (by decide +kernel) (fun k j h=>match k,h with | 0,h=>by obtain rfl:=Option.some.inj h;exact⟨_,rfl,rfl,rfl⟩ | 1,h=>by obtain rfl:=Option.some.inj h;exact⟨_,rfl,rfl,rfl⟩ | _+2,h=>by simp at h)) rfl (Aik rfl T.Nx (Aa Ak (Aa (Bv U3 (pv 1) Ak) Ab))) (fun _ _ _ _ _=>.nil) (fun _ _ _ _ _=>(Agr (Lg Eh (Bv R4 (pv 1) (pv 0)) Ak (Ax _)) (Agq (Lg Eh (Bv R4 (pv 2) (pv 0)) Ak (Ax _)))))) Ab))))),?_⟩
  refine⟨_,rfl,_,_,rfl,rfl,_,_,rfl,⟨by decide,by decide,by omega,by omega⟩,?_⟩
  rw[show((n:Int)+1-2).toNat=n-1 by omega]
  refine Kv (lo:=2) (n:=n-1) (fun i ys H2=>H2=H∧ys=vB (Aeq m n i)) ⟨rfl,rfl⟩ ?_ ?_ ?_ ?_
  ·rintro i ys H2 hi ⟨rfl,rfl⟩
   rw[AgR,AjX]
   exact Art _
  ·exact big (by omega)
  ·rintro i ys H2 hi ⟨rfl,rfl⟩
   refine Fq.no ?_
   refine⟨_,rfl,_,rfl,_,_,rfl,rfl,(by show(0:Int)<2+(i:Int);omega),rfl,_,rfl,?_⟩
   rw[Aph]
   have fin:CN (n-1) (fun i ys H3=>H3=H2∧ys=vB (Aeq m n i)) i (vB (Aeq m n i)++[.bl (decide (m%(2+i)=0) && decide (n%(2+i)=0))]) H2:=CN.of hi ⟨rfl,by rw[AgS,AiE]⟩
   refine Ey (fun c1=>?_) (fun c1=>?_)
   ·refine⟨_,rfl,_,rfl,_,_,rfl,rfl,(by show(0:Int)<2+(i:Int);omega),rfl,?_⟩
    rw[Aph]
    rw[decide_eq_true c1,Bool.true_and] at fin
    exact fin
   ·rw[decide_eq_false c1,Bool.false_and] at fin
    exact fin
  ·rintro ys H2 q ⟨rfl,rfl⟩ hq
   refine⟨_,_,rfl,SqL.of Ad,_,rfl,?_⟩
   exact k _ (.upd hq)
theorem AnU:∀(ys:List (List Nat)),((ys.map tx).map (·.length)).sum+ys.length≤(cj ys).length+1
 | []=>by simp[cj]
 | y::ys=>by
  have h:∀ ys:List (List Nat),((ys.map tx).map (·.length)).sum+ys.length=((ys.map fun y=>[44]++y).flatten).length:=fun ys=>by
   induction ys with
   | nil=>rfl
   | cons x ys ih =>
    rw[Arx,Arx,Ast,Arx,ArB,Arp,Arp,← ih,Ah,Ars,ArX]
    omega
  have:=h ys
  unfold cj
  rw[Arx,Arx,Ast,Arp,Ah,Ars,← this]
  omega
theorem Yo(z:List Nat)(ys:List (List Nat)):(wz z ys).length=z.length+(cj ys).length+2:=by
 unfold wz
 rw[Arp,Ars,Arp,ArX]
 omega
def Ahf (K:PySem.W.Frag):Sp:=fun vs H Q _=>∃(a:Addr) (ws:List Nat) (ys:List (List Nat)),vs=[.str (tx ws),.ref a]∧SqL K H a (vS ys)∧ys≠[]∧(wz ws ys).length≤1000000∧Q (.str (tx (wz ws ys))) H
theorem Gk(T:Txt K mg t):Aj P w K mg base CX0 1 t.Ea t.Eb ["word", "things"] (Ahf K):=by
 refine T.written.F.ok AgX (fun vs H Q E h=>?_) (fun cdv A outer s H vs Q E hr h=>?_)
 ·obtain⟨a,ws,ys,rfl,_⟩:=h
  rfl
 ·obtain⟨a,ws,ys,rfl,hS,hne,hw,k⟩:=h
  refine⟨_,(Ae (Bb (Bv Bh (Bv Bh (Bv Bh (pv 0) Ag) (Gs (K:=K) PySem.F.plainAttrs_str PySem.F.slot_str_join PySem.F.type_str_join (Ky (K:=K)) Ag (Aa (pv 1) Ab))) Ag))),?_⟩
  have e1:(("," : Str)).length=1:=by decide +kernel
  have cl:=AnU ys
  rw[Yo] at hw
  refine⟨_,rfl,_,_,rfl,rfl,(by rw[W5,Ah,Ah];exact big (by simp only [Ars,Arv];omega)),rfl,_,rfl,_,_,ys.map tx,rfl,rfl,(by rw[← R8];exact hS),?_,?_⟩
  ·rw[e1,Arq,Nat.mul_one]
   have:sizeLine=16777216:=sizeLine_eq
   omega
  ·have ej:Txt.join (tx [44]) (ys.map tx)=tx (cj ys):=by
    cases ys with
    | nil=>exact absurd rfl hne
    | cons y ys=>exact AkL [44] y ys
   rw[W5,U0,Xz,ej,Dj]
   refine⟨_,_,rfl,rfl,(by rw[Ah,Ah];exact big (by simp only [Arp,Ars,Arv];omega)),?_⟩
   rw[Dj]
   refine⟨_,_,rfl,rfl,(by rw[Ah,Ah];exact big (by simp only [Arp,Ars,Arv];omega)),?_⟩
   rw[Dj,show(ws++[40]++cj ys)++[41]=wz ws ys by unfold wz;simp]
   exact k
theorem z0(i:Nat):(0+(i:Int)).toNat=i:=by omega
theorem AfW(K:PySem.W.Frag)(n:String):PySem.W.kitOne K (.type n) (.type n)=some true:=if_pos (beq_self_eq_true _)
theorem AfX{c d:Nat}:(V.str ⟨#[c]⟩:V)=V.str ⟨#[d]⟩↔c=d :=
 ⟨fun z=>by injection z with z;exact(List.cons.inj (R7 (a:=[c]) (b:=[d]) z)).1,fun z=>by rw[z]⟩
theorem e35:(V.str ⟨#[35]⟩:V)=V.str "#" := congrArg V.str (by decide +kernel)
theorem e46:(V.str ⟨#[46]⟩:V)=V.str "." := congrArg V.str (by decide +kernel)
theorem CG{n:Nat}(h:n≤40):n≤sizeLine:=ArC h (by decide)
theorem occ{c:Nat}(h:Sg c):(!(!(Builtin.Str.occurrences "#." ⟨#[c]⟩ 0 (Str.length "#.") 1).isEmpty))=false:=by
 rcases h with h | h <;> subst h <;> decide +kernel
def Adn:Sp:=fun vs H Q _=>∃(t:List Nat),vs=[.str (tx t),.int (t.length:Int),.str "#."]∧(∀ c∈t,Sg c)∧t.length≤40∧Q .non H
theorem Ado(T:Txt K mg t):Aj P w K mg base CX0 1 t.Lq t.Lr ["text", "ends", "signs"] Adn:=by
 refine T.Vm.F.ok XJ (fun vs H Q E h=>?_) (fun cdv A outer s H vs Q E hr h=>?_)
 ·obtain⟨t,rfl,_⟩:=h
  rfl
 ·obtain⟨t,rfl,hsg,hl,k⟩:=h
  refine⟨_,(Ac (BK (Ao Ui (Bq Ca rfl T.Ec CW (Aa (pv 0) Ab)) (pv 1) (Ax _))
    (Ae Mt)
    Aw)
   (Ae (JW PassesOwn.never rfl (U6 (pv 0)) (Dq (i:=3) XJ.nd rfl (Or.inl rfl))
    (Ae (BK (Ao Y9 (pv 3) (pv 2) rfl)
     (Ae Mt)
     Aw))))),?_⟩
  refine⟨_,rfl,_,rfl,(by rw[Ah];exact CG hl),_,rfl,rfl,_,rfl,?_⟩
  refine Uj (by rw[Ah]) ?_
  refine⟨_,rfl,_,rfl,Aef (z:=tx t) (fun i σ H2=>∃ v,σ=[some (.str (tx t)),some (.int (t.length:Int)),some (.str "#."),v]∧H2=H) ⟨none,rfl,rfl⟩ ?_ ?_⟩
  ·rintro i c σ H2 hc ⟨v,rfl,rfl⟩
   rw[U7] at hc
   refine⟨_,rfl,_,rfl,_,_,rfl,rfl,_,rfl,?_⟩
   rw[occ (hsg c (ArE hc))]
   exact Rk ⟨_,rfl,rfl⟩
  ·rintro σ H2 ⟨v,rfl,rfl⟩
   exact k
def Zu (K:PySem.W.Frag):Sp:=fun vs H Q _=>∃(a:Addr) (cl:List (List Nat)) (m n:Nat),vs=[.ref a,.int 1,.str "#."]∧SqL K H a (vS cl)∧Cl cl m n∧∀ p,H p=none→Q (.ref p) (upd H p (.tup [.int (m:Int),.int (n:Int)]))
theorem Zv(T:Txt K mg t):Aj P w K mg base CX0 2 t.G4 t.G5 ["texts", "least", "signs"] (Zu K):=by
 have Ae7:Aj P w K mg base CX0 1 t.Lq t.Lr _ _:=Ado T
 refine T.O5.F.ok Oz (fun vs H Q E h=>?_) (fun cdv A outer s H vs Q E hr h=>?_)
 ·obtain⟨a,cl,m,n,rfl,_⟩:=h
  rfl
 ·obtain⟨a,cl,m,n,rfl,hS,C,k⟩:=h
  have hlen:(vS cl).length=n:=by rw[Bj,C.hn]
  have h0:0<cl.length:=by rw[C.hn];exact C.n1
  have hm0:=C.hm cl[0] (ArG h0)
  have c1:=C.n1
  have c2:=C.n40
  have c3:=C.m1
  have c4:=C.m40
  refine⟨_,(Ac (BK (PW.pt (pw_or (Ao R5 (Bq (Bx (K:=K)) rfl T.Ec CW (Aa (pv 0) Ab)) (pv 1) (Ax _)) (pw_or1 (Ao Q9 (Bq (Bx (K:=K)) rfl T.Ec CW (Aa (pv 0) Ab)) (Cv (v:=.int 40) rfl T.Er.choose_spec ⟨_,rfl⟩) (Ax _)))))
    (Ae Mt)
    Aw)
   (Ac (BP (i:=3) Oz.nd rfl (Or.inl rfl) (Bq Ca rfl T.Ec CW (Aa (BL (Bo (K:=K)) (pv 0) Ak (fun _ _=>rfl)) Ab)))
   (Ac (BK (PW.pt (pw_or (Ao R5 (pv 3) (pv 1) (Ax _)) (pw_or1 (Ao Q9 (pv 3) (Cv (v:=.int 40) rfl T.Er.choose_spec ⟨_,rfl⟩) (Ax _)))))
    (Ae Mt)
    Aw)
   (Ac (JW PassesOwn.never rfl (Ej (K:=K) (pv 0)) (Dq (i:=4) Oz.nd rfl (Or.inl rfl))
    (Ae (BJ (Aq (Ae7.mono (by decide)) hr rfl T.Vm.m T.Vm.F.kp T.Vm.b .nil An (Aa (pv 4) (Aa (pv 3) (Aa (pv 2) Ab)))))))
   (Ae (Bb (Tr (Aa (pv 3) (Aa (Bq (Bx (K:=K)) rfl T.Ec CW (Aa (pv 0) Ab)) Ab))))))))),?_⟩
  refine⟨_,rfl,_,_,rfl,.inl hS,_,rfl,_,_,rfl,rfl,_,rfl,?_⟩
  refine DN (by rw[hlen];omega) ?_
  refine⟨_,rfl,_,_,rfl,.inl hS,_,_,rfl,rfl,_,rfl,?_⟩
  refine DN (by rw[hlen];omega) ?_
  refine⟨_,rfl,_,_,_,_,rfl,rfl,hS,CZ (by decide) (Aei (Aru h0)),_,rfl,(by rw[Ah,hm0];exact CG c4),?_⟩
  rw[Ah,hm0]
  refine⟨_,rfl,_,rfl,_,_,rfl,rfl,_,rfl,?_⟩
  refine DN (by omega) ?_
  refine⟨_,rfl,_,_,rfl,rfl,_,rfl,?_⟩
  refine DN (by omega) ?_
  refine⟨_,rfl,_,rfl,⟨_,hS⟩,Q8 (K:=K) (a:=a) (xs:=vS cl) (fun i σ H2=>∃ v,σ=[some (.ref a),some (.int 1),some (.str "#."),some (.int (m:Int)),v]∧H2=H) ⟨none,rfl,rfl⟩ (fun i σ H2 _ ⟨_,_,e⟩=>e▸hS) ?_ ?_⟩
  ·rintro i x σ H2 hx ⟨v,rfl,rfl⟩
   obtain⟨t,ht,rfl⟩:=Mr hx
   have htm:=ArE ht
   refine⟨_,rfl,_,rfl,_,rfl,t,?_,C.sg t htm,?_,⟨_,rfl,rfl⟩⟩
   ·rw[C.hm t htm];rfl
   ·rw[C.hm t htm];exact c4
  ·rintro σ H2 ⟨v,rfl,rfl⟩
   refine⟨_,rfl,_,rfl,_,_,rfl,.inl hS,(by show 2≤sizeLine;decide),fun p hp=>?_⟩
   rw[hlen]
   exact k p hp
def AfY (K:PySem.W.Frag):Sp:=fun vs H Q _=>∃(a:Addr) (cl:List (List Nat)) (m n:Nat),vs=[.ref a]∧SqL K H a (vS cl)∧Cl cl m n∧∀ p,H p=none→Q (.ref p) (upd H p (.tup [.int (m:Int),.int (n:Int)]))
theorem QQ(T:Txt K mg t):Aj P w K mg base CX0 3 t.Ih t.Ii ["cloth"] (AfY K):=by
 have Aai:Aj P w K mg base CX0 2 t.G4 t.G5 _ _:=Zv T
 refine T.measured.F.ok AfE (fun vs H Q E h=>?_) (fun cdv A outer s H vs Q E hr h=>?_)
 ·obtain⟨a,cl,m,n,rfl,_⟩:=h
  rfl
 ·obtain⟨a,cl,m,n,rfl,hS,C,k⟩:=h
  exact⟨_,(Ae (Bb (Aq (Aai.mono (by decide)) hr rfl T.O5.m T.O5.F.kp T.O5.b .nil An (Aa (pv 0) (Aa Ak (Aa Ag Ab)))))),_,rfl,a,cl,m,n,rfl,hS,C,k⟩
def Ae8 (K:PySem.W.Frag):Sp:=fun vs H Q _=>∃(a:Addr) (cl:List (List Nat)) (m n e:Nat),vs=[.ref a,.int (e:Int)]∧SqL K H a (vS cl)∧Cl cl m n∧e<m∧∀ H',Bg H H'→Q (.str (tx (col cl e))) H'
theorem Ae9(T:Txt K mg t):Aj P w K mg base CX0 1 t.NP t.NQ ["cloth", "end"] (Ae8 K):=by
 refine T.Xq.F.ok Aew (fun vs H Q E h=>?_) (fun cdv A outer s H vs Q E hr h=>?_)
 ·obtain⟨a,cl,m,n,e,rfl,_⟩:=h
  rfl
 ·obtain⟨a,cl,m,n,e,rfl,hS,C,he,k⟩:=h
  have c2:=C.n40
  have c4:=C.m40
  refine⟨_,(Ae (Bb (Gs (K:=K) PySem.F.plainAttrs_str PySem.F.slot_str_join PySem.F.type_str_join (Ky (K:=K)) Ag (Aa (Gq (DK.mk (Bp:=[1]) (Nc:=["text", "end"]) rfl (by decide +kernel) (by decide +kernel) (Dy (sc0:=Af SX) rfl (by decide +kernel)) rfl rfl rfl (by decide +kernel) (fun k j h=>match k,h with | 0,h=>by obtain rfl:=Option.some.inj h;exact⟨_,rfl,rfl,rfl⟩ | _+1,h=>by simp at h)) rfl (Ej (K:=K) (pv 0)) (fun _ _ _ _ _=>.nil) (fun _ _ _ _ _=>(BL ZJ (pv 0) (pv 1) (fun _ _=>rfl)))) Ab)))),?_⟩
  refine⟨rfl,_,rfl,_,rfl,⟨_,hS⟩,Iv (K:=K) (a:=a) (xs:=vS cl) (fun i ys H2=>H2=H∧ys=vS ((cl.take i).map fun t=>[t.getD e 0])) ⟨rfl,rfl⟩ ?_ ?_ ?_ ?_⟩
  ·rintro i ys H2 hi ⟨rfl,rfl⟩
   refine⟨hS,?_⟩
   rw[Bj,Arq,Ar1]
   omega
  ·rw[Bj,C.hn];exact CG c2
  ·rintro i x ys H2 hi hx ⟨rfl,rfl⟩
   obtain⟨t,ht,rfl⟩:=Mr hx
   have htm:=ArE ht
   have htl:=C.hm t htm
   have hel:e<t.length:=by omega
   refine Fq.no ?_
   refine⟨_,rfl,_,rfl,_,_,t[e],rfl,rfl,(by rw[Ah,htl];exact CG c4),(by rw[Kc];exact Ahz (Aru hel)),?_⟩
   refine CN.of hi ⟨rfl,?_⟩
   rw[Tt,Ei,Ar5,ht,Arz]
   simp[List.getD,hel]
  ·rintro ys H2 p ⟨rfl,rfl⟩ hp
   rw[Bj,ArI]
   refine⟨_,_,((cl.map fun t=>[t.getD e 0]).map tx),rfl,rfl,SqL.of (by rw[Ad,R8]),?_,?_⟩
   ·have e1:=AlD (fun t:List Nat=>t.getD e 0) cl
    rw[e1,Arq,Arq,C.hn]
    have:n*(Str.length "")=0:=by rw[show Str.length "" = 0 from by decide +kernel];omega
    omega
   ·rw[show(("" : Str))=tx [] from by decide +kernel,Nq]
    have e2:(cl.map fun t=>[t.getD e 0]).flatten=col cl e:=YG (fun t:List Nat=>t.getD e 0) cl
    rw[e2]
    exact k _ (.upd hp)
def Aje:Sp:=fun vs H Q _=>∃(t:List Nat),vs=[.str (tx t)]∧t.length≤40∧∀ H',Bg H H'→Q (.str (tx (t.map flip))) H'
theorem VD(T:Txt K mg t):Aj P w K mg base CX0 1 t.GR t.GX ["signs"] Aje:=by
 refine T.Jv.F.ok Aba (fun vs H Q E h=>?_) (fun cdv A outer s H vs Q E hr h=>?_)
 ·obtain⟨t,rfl,_⟩:=h
  rfl
 ·obtain⟨t,rfl,hl,k⟩:=h
  refine⟨_,(Ae (Bb (Gs (K:=K) PySem.F.plainAttrs_str PySem.F.slot_str_join PySem.F.type_str_join (Ky (K:=K)) Ag (Aa (Gq (DK.mk (Bp:=[]) (Nc:=["sign"]) rfl (by decide +kernel) (by decide +kernel) (Dy (sc0:=Af O1) rfl (by decide +kernel)) rfl rfl rfl (by decide +kernel) (fun _ _ h=>by simp at h)) rfl (U6 (pv 0)) (fun _ _ _ _ _=>.nil) (fun _ _ _ _ _=>(Ov (Ao Eh (pv 0) Ag (Ax _)) Ag Ag))) Ab)))),?_⟩
  refine⟨rfl,_,rfl,_,rfl,Uk (z:=tx t) (fun i ys H2=>H2=H∧ys=vS ((t.take i).map fun c=>[flip c])) ⟨rfl,rfl⟩ ?_ ?_ ?_ ?_⟩
  ·rintro i ys H2 hi ⟨rfl,rfl⟩
   rw[Bj,Arq,Ar1]
   omega
  ·rw[Ka];exact CG hl
  ·rintro i c ys H2 hi hc ⟨rfl,rfl⟩
   rw[U7] at hc
   refine Fq.no ?_
   have fin:∀ d,d=flip c→CN (tx t).cps.size (fun i ys H2'=>H2'=H2∧ys=vS ((t.take i).map fun c=>[flip c])) i (vS ((t.take i).map fun c=>[flip c])++[.str (tx [d])]) H2:=fun d hd=>by
    subst hd
    refine CN.of hi ⟨rfl,?_⟩
    rw[Ei,Ar5,hc,Arz]
    rfl
   refine⟨_,rfl,rfl,_,rfl,?_⟩
   refine Ey (fun h=>?_) (fun h=>?_)
   ·have e:c=35:=by
     rw[← e35] at h
     injection h with h
     exact List.cons.inj (R7 h) |>.1
    have:=fin 46 (by rw[e];rfl)
    rw[← Tt,e46] at this
    exact this
   ·have e:c≠35:=fun z=>h (by rw[z];exact e35)
    have:=fin 35 (by unfold flip;rw[if_neg e])
    rw[← Tt,e35] at this
    exact this
  ·rintro ys H2 p ⟨rfl,rfl⟩ hp
   rw[Ka,ArI]
   refine⟨_,_,((t.map fun c=>[flip c]).map tx),rfl,rfl,SqL.of (by rw[Ad,R8]),?_,?_⟩
   ·have e1:=AlD flip t
    rw[e1,Arq,Arq]
    have:t.length*(Str.length "")=0:=by rw[show Str.length "" = 0 from by decide +kernel];omega
    omega
   ·rw[show(("" : Str))=tx [] from by decide +kernel,Nq]
    have e2:=YG flip t
    rw[e2]
    exact k _ (.upd hp)
def Amr (K:PySem.W.Frag):Sp:=fun vs H Q _=>∃(a:Addr) (cl:List (List Nat)) (m n:Nat),vs=[.ref a]∧SqL K H a (vS cl)∧Cl cl m n∧∀ l H',Bg H H'→H l=none→H' l=some (.lst (vS (back cl)))→Q (.ref l) H'
theorem Ahg(T:Txt K mg t):Aj P w K mg base CX0 4 t.Ru t.Rv ["cloth"] (Amr K):=by
 have Im:Aj P w K mg base CX0 3 t.Ih t.Ii _ _:=QQ T
 have Sv:Aj P w K mg base CX0 1 t.GR t.GX _ _:=VD T
 refine T.Abv.F.ok AgV (fun vs H Q E h=>?_) (fun cdv A outer s H vs Q E hr h=>?_)
 ·obtain⟨a,cl,m,n,rfl,_⟩:=h
  rfl
 ·obtain⟨a,cl,m,n,rfl,hS,C,k⟩:=h
  have c2:=C.n40
  have c4:=C.m40
  refine⟨_,(Ac (BJ (Aq (Im.mono (by decide)) hr rfl T.measured.m T.measured.F.kp T.measured.b .nil An (Aa (pv 0) Ab)))
   (Ae (Bb (Gq (DK.mk (Bp:=[]) (Nc:=["text"]) rfl (by decide +kernel) (by decide +kernel) (Dy (sc0:=Af Xn) rfl (by decide +kernel)) rfl rfl rfl (by decide +kernel) (fun _ _ h=>by simp at h)) rfl (Ej (K:=K) (pv 0)) (fun _ _ _ _ _=>.nil) (fun _ _ _ _ _=>(Aq (Sv.mono (by decide)) hr rfl T.Jv.m T.Jv.F.kp T.Jv.b .nil An (Aa (Gs (K:=K) PySem.F.plainAttrs_str PySem.F.slot_str_join PySem.F.type_str_join AbX Ag (Aa (Ex AaM rfl T.Qq QD (Aa (pv 0) Ab)) Ab)) Ab))))))),?_⟩
  refine⟨_,rfl,a,cl,m,n,rfl,hS,C,fun p hp=>?_⟩
  have s1:Bg H (upd H p (.tup [.int (m:Int),.int (n:Int)])):=.upd hp
  refine⟨_,rfl,_,rfl,⟨_,s1.seq hS⟩,Iv (K:=K) (a:=a) (xs:=vS cl) (fun i ys H2=>Bg H H2∧ys=vS ((cl.take i).map fun t=>t.reverse.map flip)) ⟨s1,rfl⟩ ?_ ?_ ?_ ?_⟩
  ·rintro i ys H2 hi ⟨s2,rfl⟩
   refine⟨s2.seq hS,?_⟩
   rw[Bj,Arq,Ar1]
   omega
  ·rw[Bj,C.hn];exact CG c2
  ·rintro i x ys H2 hi hx ⟨s2,rfl⟩
   obtain⟨t,ht,rfl⟩:=Mr hx
   have htm:=ArE ht
   have htl:=C.hm t htm
   refine Fq.no ?_
   refine⟨rfl,_,rfl,_,rfl,(by rw[Ah,htl];exact CG c4),fun q hq=>?_⟩
   refine⟨_,_,q,rfl,rfl,Ad,(by decide +kernel),(by rw[Ah];omega),?_⟩
   rw[Kc,show(("" : Str))=tx [] from by decide +kernel,show(t.reverse.map fun c=>(⟨#[c]⟩:Str))=(t.reverse.map fun c=>[c]).map tx by rw[Aso];rfl,Nq]
   have e2:(t.reverse.map fun c=>[c]).flatten=t.reverse:=(YG id t.reverse).trans (Asc _)
   rw[e2]
   refine⟨t.reverse,rfl,(by rw[ArR];omega),fun H3 s3=>?_⟩
   refine CN.of hi ⟨((s2.new hq).over (s2.free hq)).trans s3,?_⟩
   rw[Ei,Ar5,ht,Arz]
   rfl
  ·rintro ys H2 p2 ⟨s2,rfl⟩ hp2
   rw[Bj,ArI]
   exact k p2 _ (s2.new hp2) (s2.free hp2) Ad
def Ahh (K:PySem.W.Frag):Sp:=fun vs H Q _=>∃(a:Addr) (cl:List (List Nat)) (m n:Nat),vs=[.ref a]∧SqL K H a (vS cl)∧Cl cl m n∧∀ l H',Bg H H'→H l=none→H' l=some (.lst (vS (YL cl m)))→Q (.ref l) H'
theorem Adp(T:Txt K mg t):Aj P w K mg base CX0 4 t.Ln t.Lp ["cloth"] (Ahh K):=by
 have Im:Aj P w K mg base CX0 3 t.Ih t.Ii _ _:=QQ T
 have Sv:Aj P w K mg base CX0 1 t.GR t.GX _ _:=VD T
 have AfZ:Aj P w K mg base CX0 1 t.NP t.NQ _ _:=Ae9 T
 refine T.Vl.F.ok XH (fun vs H Q E h=>?_) (fun cdv A outer s H vs Q E hr h=>?_)
 ·obtain⟨a,cl,m,n,rfl,_⟩:=h
  rfl
 ·obtain⟨a,cl,m,n,rfl,hS,C,k⟩:=h
  have c2:=C.n40
  have c4:=C.m40
  refine⟨_,(Ac (BP (i:=1) XH.nd rfl (Or.inl rfl) (Aq (Im.mono (by decide)) hr rfl T.measured.m T.measured.F.kp T.measured.b .nil An (Aa (pv 0) Ab)))
   (Ae (Bb (Gq (DK.mk (Bp:=[0]) (Nc:=["end", "cloth"]) rfl (by decide +kernel) (by decide +kernel) (Dy (sc0:=Af Rn) rfl (by decide +kernel)) rfl rfl rfl (by decide +kernel) (fun k j h=>match k,h with | 0,h=>by obtain rfl:=Option.some.inj h;exact⟨_,rfl,rfl,rfl⟩ | _+1,h=>by simp at h)) rfl (Iu rfl T.Nx (Aa (BL (Gr (K:=K)) (pv 1) Ak (fun _ _=>rfl)) Ab)) (fun _ _ _ _ _=>.nil) (fun _ _ _ _ _=>(Aq (Sv.mono (by decide)) hr rfl T.Jv.m T.Jv.F.kp T.Jv.b .nil An (Aa (Aq (AfZ.mono (by decide)) hr rfl T.Xq.m T.Xq.F.kp T.Xq.b .nil An (Aa (pv 1) (Aa (pv 0) Ab))) Ab))))))),?_⟩
  refine⟨_,rfl,a,cl,m,n,rfl,hS,C,fun p hp=>?_⟩
  have s1:Bg H (upd H p (.tup [.int (m:Int),.int (n:Int)])):=.upd hp
  refine⟨_,rfl,_,_,_,_,rfl,rfl,SqT.of Ad,CZ (by decide) rfl,(m:Int),rfl,(by omega),(by omega),?_⟩
  rw[Ar7]
  refine Kv (lo:=0) (n:=m) (fun i ys H2=>Bg H H2∧ys=vS ((List.range i).map fun e=>(col cl e).map flip)) ⟨s1,rfl⟩ ?_ ?_ ?_ ?_
  ·rintro i ys H2 hi ⟨s2,rfl⟩
   rw[Bj,Arq,ArH]
   omega
  ·exact CG c4
  ·rintro i ys H2 hi ⟨s2,rfl⟩
   refine Fq.no ?_
   refine⟨_,rfl,_,rfl,a,cl,m,n,i,(by rw[Asd];rfl),s2.seq hS,C,hi,fun H3 s3=>?_⟩
   refine⟨col cl i,rfl,(by unfold col;rw[Arq,C.hn];omega),fun H4 s4=>?_⟩
   refine CN.of hi ⟨(s2.trans s3).trans s4,?_⟩
   rw[Ei,Asi,Arz]
   rfl
  ·rintro ys H2 p2 ⟨s2,rfl⟩ hp2
   exact k p2 _ (s2.new hp2) (s2.free hp2) Ad
def AkP (K:PySem.W.Frag)(t:Adr):Sp:=fun vs H Q E=>∃(a:Addr) (cl:List (List Nat)) (m n:Nat) (ac al:Int),vs=[.ref a,.int ac,.int al]∧SqL K H a (vS cl)∧Cl cl m n∧1≤ac∧1≤al ∧
 (((m:Int)*ac≤40∧(n:Int)*al≤40)→∀ l H',Bg H H'→H l=none→H' l=some (.lst (vS (til cl ac.toNat al.toNat)))→Q (.ref l) H')∧(¬((m:Int)*ac≤40∧(n:Int)*al≤40)→∀ H',Bg H H'→E (.ref t.BR) none H')
theorem AdP{m:Nat}{z:Int}(hm:1≤m)(hz:1≤z)(h:(m:Int)*z≤40):z≤40:=by
 have:1*z≤(m:Int)*z:=Int.mul_le_mul_of_nonneg_right (by omega) (by omega)
 omega
theorem Ac8{m:Nat}{z:Int}(hz:1≤z)(h:(m:Int)*z≤40):z.toNat*m≤40:=by
 have e:z=(z.toNat:Int):=by omega
 rw[e,← Asb] at h
 rw[ArV]
 omega
theorem Ahi(cl:List (List Nat)):∀ k:Nat,(List.replicate k (vS cl)).flatten=vS ((List.replicate k cl).flatten)
 | 0=>rfl
 | k+1=>by
  rw[ArJ,ArB,Ahi cl k,ArJ,ArB]
  unfold vS
  rw[Arz]
theorem AkQ(T:Txt K mg t):Aj P w K mg base (CX1 P w) 4 t.Xo t.Xp ["cloth", "across", "along"] (AkP K t):=by
 have Im:Aj P w K mg base CX0 3 t.Ih t.Ii _ _:=QQ T
 refine T.AhR.F.okX AfF (fun vs H Q E h=>?_) (fun cdv A outer s H vs Q E hr h=>?_)
 ·obtain⟨a,cl,m,n,ac,al,rfl,_⟩:=h
  rfl
 ·obtain⟨a,cl,m,n,ac,al,rfl,hS,C,h1,h2,k1,k2⟩:=h
  have hsz:sizeLine=16777216:=sizeLine_eq
  have c1:=C.n1
  have c2:=C.n40
  have c3:=C.m1
  have c4:=C.m40
  refine⟨_,(Ac (BP (i:=3) AfF.nd rfl (Or.inl rfl) (Aq (Im.mono (by decide)) hr rfl T.measured.m T.measured.F.kp T.measured.b .nil An (Aa (pv 0) Ab)))
   (Ac (BK (PW.pt (pw_or (Ao Q9 (Bv VJ (BL (Gr (K:=K)) (pv 3) Ak (fun _ _=>rfl)) (pv 1)) (Cv (v:=.int 40) rfl T.Er.choose_spec ⟨_,rfl⟩) (Ax _)) (pw_or1 (Ao Q9 (Bv VJ (BL (Gr (K:=K)) (pv 3) Ak (fun _ _=>rfl)) (pv 2)) (Cv (v:=.int 40) rfl T.Er.choose_spec ⟨_,rfl⟩) (Ax _)))))
    (Ae (Du Jr rfl (fun _ _ z=>z) PySem.F.excBase_ValueError GJ PySem.F.excBase_ValueError T.RZ.q rfl T.Vs (Aa Ag Ab)))
    Aw)
   (Ae (Bb (Bv AbN (PE.nox (Gq (DK.mk (Bp:=[1]) (Nc:=["text", "across"]) rfl (by decide +kernel) (by decide +kernel) (Dy (sc0:=Af Abu) rfl (by decide +kernel)) rfl rfl rfl (by decide +kernel) (fun k j h=>match k,h with | 0,h=>by obtain rfl:=Option.some.inj h;exact⟨_,rfl,rfl,rfl⟩ | _+1,h=>by simp at h)) rfl (Ej (K:=K) (pv 0)) (fun _ _ _ _ _=>.nil) (fun _ _ _ _ _=>(Bv Xg (pv 0) (pv 1))))) (pv 2)))))),?_⟩
  refine⟨_,rfl,a,cl,m,n,rfl,hS,C,fun p hp=>?_⟩
  have s1:Bg H (upd H p (.tup [.int (m:Int),.int (n:Int)])):=.upd hp
  have gp:SqT K (upd H p (.tup [.int (m:Int),.int (n:Int)])) p [.int (m:Int),.int (n:Int)]:=SqT.of Ad
  refine⟨_,rfl,_,_,_,_,rfl,rfl,gp,CZ (by decide) rfl,_,rfl,_,_,rfl,rfl,.inl ⟨by omega,by omega⟩,_,_,rfl,rfl,_,rfl,?_⟩
  refine Ey (fun g1=>?_) (fun g1=>?_)
  ·exact Px ⟨by decide,k2 (fun z=>by omega) _ s1⟩
  refine⟨_,rfl,_,_,_,_,rfl,rfl,gp,CZ (by decide) rfl,_,rfl,_,_,rfl,rfl,.inl ⟨by omega,by omega⟩,_,_,rfl,rfl,_,rfl,?_⟩
  refine Ey (fun g2=>?_) (fun g2=>?_)
  ·exact⟨by decide,k2 (fun z=>by omega) _ s1⟩
  have b1:(m:Int)*ac≤40:=by omega
  have b2:(n:Int)*al≤40:=by omega
  have a40:=AdP c3 h1 b1
  have l40:=AdP c1 h2 b2
  have d1:=Ac8 h1 b1
  have d2:=Ac8 h2 b2
  refine⟨_,rfl,_,rfl,⟨_,s1.seq hS⟩,Iv (K:=K) (a:=a) (xs:=vS cl) (fun i ys H2=>H2=upd H p (.tup [.int (m:Int),.int (n:Int)])∧ys=vS (wid (cl.take i) ac.toNat)) ⟨rfl,rfl⟩ ?_ ?_ ?_ ?_⟩
  ·rintro i ys H2 hi ⟨rfl,rfl⟩
   refine⟨s1.seq hS,?_⟩
   unfold wid
   rw[Bj,Arq,Ar1]
   omega
  ·rw[Bj,C.hn];exact CG c2
  ·rintro i x ys H2 hi hx ⟨rfl,rfl⟩
   obtain⟨t,ht,rfl⟩:=Mr hx
   have htl:=C.hm t (ArE ht)
   refine Fq.no ?_
   refine⟨_,rfl,_,rfl,t,ac,rfl,rfl,by omega,by omega,(by rw[htl,ArV];omega),?_⟩
   refine CN.of hi ⟨rfl,?_⟩
   unfold wid
   rw[Ei,Ar5,ht,Arz]
   rfl
  ·rintro ys H2 q ⟨rfl,rfl⟩ hq
   rw[Bj,ArI]
   refine⟨_,rfl,_,_,_,rfl,rfl,Ad,by omega,by omega,?_,fun l hl=>?_⟩
   ·rw[Bj]
    unfold wid
    rw[Arq,C.hn,ArV]
    omega
   ·rw[Ahi]
    exact k1 ⟨b1,b2⟩ l _ ((s1.new hq).new hl) ((s1.new hq).free hl) Ad
def Ams (K:PySem.W.Frag):Sp:=fun vs H Q _=>∃(b c:Addr) (cb cc:List (List Nat)) (w h:Nat),vs=[.ref b,.ref c]∧SqL K H b (vS cb)∧SqL K H c (vS cc)∧Cl cb w h∧Cl cc w h ∧
 ∀ p H',Bg H H'→H' p=some (.tup [.int (w:Int),.int (h:Int)])→Q (.ref p) H'
theorem AeA(T:Txt K mg t):Aj P w K mg base CX0 4 t.NT t.NZ ["one", "other"] (Ams K):=by
 have Im:Aj P w K mg base CX0 3 t.Ih t.Ii _ _:=QQ T
 refine T.Xr.F.ok YS (fun vs H Q E h=>?_) (fun cdv A outer s H vs Q E hr h=>?_)
 ·obtain⟨b,c,cb,cc,w,h,rfl,_⟩:=h
  rfl
 ·obtain⟨b,c,cb,cc,w,h,rfl,hB,hC,C,C',k⟩:=h
  refine⟨_,(Ac (BP (i:=2) YS.nd rfl (Or.inl rfl) (Aq (Im.mono (by decide)) hr rfl T.measured.m T.measured.F.kp T.measured.b .nil An (Aa (pv 0) Ab)))
   (Ac (BK (Ao (AlV (K:=K) (hr.Afx)) (Aq (Im.mono (by decide)) hr rfl T.measured.m T.measured.F.kp T.measured.b .nil An (Aa (pv 1) Ab)) (pv 2) (Ax _))
    (Ae Mt)
    Aw)
   (Ae (Bb (pv 2))))),?_⟩
  refine⟨_,rfl,b,cb,w,h,rfl,hB,C,fun p np=>?_⟩
  have s1:Bg H (upd H p (.tup [.int (w:Int),.int (h:Int)])):=.upd np
  have hp1:(upd H p (.tup [.int (w:Int),.int (h:Int)])) p=some (.tup (vI [(w:Int),(h:Int)])):=Ad
  generalize upd H p (.tup [.int (w:Int),.int (h:Int)])=H1 at s1 hp1 ⊢
  refine⟨_,rfl,c,cc,w,h,rfl,s1.seq hC,C',fun p' np'=>?_⟩
  have s2:Bg H1 (upd H1 p' (.tup [.int (w:Int),.int (h:Int)])):=.upd np'
  have hp2:(upd H1 p' (.tup [.int (w:Int),.int (h:Int)])) p'=some (.tup (vI [(w:Int),(h:Int)])):=Ad
  generalize upd H1 p' (.tup [.int (w:Int),.int (h:Int)])=H2 at s2 hp2 ⊢
  refine⟨_,rfl,p',p,_,_,rfl,rfl,SqT.of hp2,SqT.of (s2 _ _ hp1),_,rfl,?_⟩
  refine Uj rfl ?_
  exact⟨_,rfl,k p _ (s1.trans s2) (s2 _ _ hp1)⟩
def rowOf(u a b:List Nat):List Nat:=u.flatMap fun c=>if c=35 then a else b
theorem Aga(pr one other:List (List Nat))(u:List Nat):fil (pr++[u]) one other=fil pr one other++(one.zip other).map fun q=>rowOf u q.1 q.2:=by
 unfold fil rowOf
 rw[List.flatMap_append,List.flatMap_singleton]
def Ajf (K:PySem.W.Frag)(t:Adr):Sp:=fun vs H Q E=>∃(a b c:Addr) (pr one other:List (List Nat)) (m n w h:Nat),vs=[.ref a,.ref b,.ref c]∧SqL K H a (vS pr)∧SqL K H b (vS one)∧SqL K H c (vS other)∧Cl pr m n∧Cl one w h∧Cl other w h ∧
 (m*w≤40∧n*h≤40→∀ l H',Bg H H'→H l=none→H' l=some (.lst (vS (fil pr one other)))→Q (.ref l) H')∧(40<m*w∨40<n*h→∀ H',Bg H H'→E (.ref t.BR) none H')
theorem Aaj(T:Txt K mg t):Aj P w K mg base (CX1 P w) 5 t.Hs t.Ht ["profile", "one", "other"] (Ajf K t):=by
 have Im:Aj P w K mg base CX0 3 t.Ih t.Ii _ _:=QQ T
 have Agb:Aj P w K mg base CX0 4 t.NT t.NZ _ _:=AeA T
 refine T.Q0.F.okX Fb (fun vs H Q E h=>?_) (fun cdv A outer s H vs Q E hr h=>?_)
 ·obtain⟨a,b,c,pr,one,other,m,n,w,h,rfl,_⟩:=h
  rfl
 ·obtain⟨a,b,c,pr,one,other,m,n,w,h,rfl,hA,hB,hC,C,C1,C2,k1,k2⟩:=h
  have hsz:sizeLine=16777216:=sizeLine_eq
  have m1:=C.m1
  have m40:=C.m40
  have n40:=C.n40
  have w40:=C1.m40
  have h40:=C1.n40
  refine⟨_,(Ac (BP (i:=3) Fb.nd rfl (Or.inl rfl) (Aq (Im.mono (by decide)) hr rfl T.measured.m T.measured.F.kp T.measured.b .nil An (Aa (pv 0) Ab)))
   (Ac (BP (i:=4) Fb.nd rfl (Or.inl rfl) (Aq (Agb.mono (by decide)) hr rfl T.Xr.m T.Xr.F.kp T.Xr.b .nil An (Aa (pv 1) (Aa (pv 2) Ab))))
   (Ac (BK (PW.pt (pw_or (Ao Q9 (Bv VJ (BL (Gr (K:=K)) (pv 3) Ak (fun _ _=>rfl)) (BL (Gr (K:=K)) (pv 4) Ak (fun _ _=>rfl))) (Cv (v:=.int 40) rfl T.Er.choose_spec ⟨_,rfl⟩) (Ax _)) (pw_or1 (Ao Q9 (Bv VJ (BL (Gr (K:=K)) (pv 3) Ak (fun _ _=>rfl)) (BL (Gr (K:=K)) (pv 4) Ak (fun _ _=>rfl))) (Cv (v:=.int 40) rfl T.Er.choose_spec ⟨_,rfl⟩) (Ax _)))))
    (Ae (Du Jr rfl (fun _ _ z=>z) PySem.F.excBase_ValueError GJ PySem.F.excBase_ValueError T.RZ.q rfl T.Vs (Aa Ag Ab)))
    Aw)
   (Ac (BP (i:=5) Fb.nd rfl (Or.inl rfl) (Ez Ab))
   (Ac (PS.nox (JW PassesOwn.never rfl (Ej (K:=K) (pv 0)) (Dq (i:=6) Fb.nd rfl (Or.inl rfl))
    (Ae (JW PassesOwn.never rfl (AjJ (K:=K) rfl T.AhS (Aa (pv 1) (Aa (pv 2) Ab))) (ZD rfl (J1 (Dq (i:=7) Fb.nd rfl (Or.inr rfl)) (J1 (Dq (i:=8) Fb.nd rfl (Or.inr rfl)) Xd)))
     (Ae (BJ (Gs (K:=K) PySem.F.plainAttrs_list PySem.F.slot_list_append PySem.F.type_list_append NK (pv 5) (Aa (Gs (K:=K) PySem.F.plainAttrs_str PySem.F.slot_str_join PySem.F.type_str_join (Ky (K:=K)) Ag (Aa (Gq (DK.mk (Bp:=[7,8]) (Nc:=["sign", "of_one", "of_other"]) rfl (by decide +kernel) (by decide +kernel) (Dy (sc0:=Af Nr) rfl (by decide +kernel)) rfl rfl rfl (by decide +kernel) (fun k j h=>match k,h with | 0,h=>by obtain rfl:=Option.some.inj h;exact⟨_,rfl,rfl,rfl⟩ | 1,h=>by obtain rfl:=Option.some.inj h;exact⟨_,rfl,rfl,rfl⟩ | _+2,h=>by simp at h)) rfl (U6 (pv 6)) (fun _ _ _ _ _=>.nil) (fun _ _ _ _ _=>(Ov (Ao Eh (pv 0) Ag (Ax _)) (pv 1) (pv 2)))) Ab)) Ab))))))))
   (Ae (Bb (pv 5)))))))),?_⟩
  refine⟨_,rfl,a,pr,m,n,rfl,hA,C,fun p np=>?_⟩
  have s1:Bg H (upd H p (.tup [.int (m:Int),.int (n:Int)])):=.upd np
  have hp1:(upd H p (.tup [.int (m:Int),.int (n:Int)])) p=some (.tup [.int (m:Int),.int (n:Int)]):=Ad
  generalize upd H p (.tup [.int (m:Int),.int (n:Int)])=H1 at s1 hp1 ⊢
  refine⟨_,rfl,_,rfl,b,c,one,other,w,h,rfl,s1.seq hB,s1.seq hC,C1,C2,fun p2 H2 s2 hp2=>?_⟩
  have u2:=s1.trans s2
  have Api:=s2 _ _ hp1
  refine⟨_,rfl,_,_,_,_,rfl,rfl,SqT.of Api,CZ (by decide) rfl,_,rfl,_,_,_,_,rfl,rfl,SqT.of hp2,CZ (by decide) rfl,_,_,rfl,rfl,.inl ⟨by omega,by omega⟩,_,_,rfl,rfl,_,rfl,?_⟩
  have em:(m:Int)*(w:Int)=((m*w:Nat):Int):=by rw[Asb]
  have en:(n:Int)*(h:Int)=((n*h:Nat):Int):=by rw[Asb]
  rw[em]
  refine Ey (fun g1=>?_) (fun g1=>?_)
  ·exact Px ⟨by decide,k2 (.inl (by omega)) _ u2⟩
  refine⟨_,rfl,_,_,_,_,rfl,rfl,SqT.of Api,CZ (by decide) rfl,_,rfl,_,_,_,_,rfl,rfl,SqT.of hp2,CZ (by decide) rfl,_,_,rfl,rfl,.inl ⟨by omega,by omega⟩,_,_,rfl,rfl,_,rfl,?_⟩
  rw[en]
  refine Ey (fun g2=>?_) (fun g2=>?_)
  ·exact⟨by decide,k2 (.inr (by omega)) _ u2⟩
  have hm:m*w≤40:=by omega
  have hn:n*h≤40:=by omega
  have k:=k1 ⟨hm,hn⟩
  refine⟨Ar9 _,fun q nq=>?_⟩
  have s3:Bg H2 (upd H2 q (.lst [])):=.upd nq
  have hq3:(upd H2 q (.lst [])) q=some (.lst (vS [])):=Ad
  generalize upd H2 q (.lst [])=H3 at s3 hq3 ⊢
  have u3:=u2.trans s3
  have nqH:H q=none:=u2.free nq
  refine⟨_,rfl,_,rfl,⟨_,u3.seq hA⟩,Q8 (K:=K) (a:=a) (xs:=vS pr) (fun i σ H4=>∃(v6 v7 v8:Option V),σ=[some (.ref a),some (.ref b),some (.ref c),some (.ref p),some (.ref p2),some (.ref q),v6,v7,v8]∧Bg H H4∧H4 q=some (.lst (vS (fil (pr.take i) one other))))
   ⟨none,none,none,rfl,u3,hq3⟩ (fun i σ H4 _ ⟨_,_,_,_,s4,_⟩=>s4.seq hA) ?_ ?_⟩
  ·rintro i xv σ H4 hx ⟨v6,v7,v8,rfl,s4,hq4⟩
   obtain⟨u,hu,rfl⟩:=Mr hx
   have lu:=C.hm u (ArE hu)
   have il:i<n:=by rw[← C.hn];exact(List.getElem?_eq_some_iff.mp hu).1
   have et:pr.take (i+1)=pr.take i++[u]:=by rw[Ar5,hu];rfl
   have Arn:(fil (pr.take i) one other).length≤40:=by
    unfold fil
    rw[Iw (h:=h) _ fun x _=>by rw[Arq,Asl,C1.hn,C2.hn,ArO],Ar1,C.hn,Asp (by omega)]
    exact ArC (Nat.mul_le_mul_right h (As1 il)) hn
   have lz:(one.zip other).length=h:=by rw[Asl,C1.hn,C2.hn,ArO]
   refine⟨_,rfl,_,rfl,b,c,rfl,⟨_,s4.seq hB⟩,⟨_,s4.seq hC⟩,Ah6 (K:=K) (a:=b) (b:=c) (xs:=vS one) (ys:=vS other) (n:=h) (by rw[Bj,Bj,C1.hn,C2.hn,ArO]) (fun j σ H5=>∃(v7 v8:Option V),σ=[some (.ref a),some (.ref b),some (.ref c),some (.ref p),some (.ref p2),some (.ref q),some (.str (tx u)),v7,v8]∧Bg H H5∧H5 q=some (.lst (vS (fil (pr.take i) one other++((one.zip other).take j).map fun q=>rowOf u q.1 q.2))))
    ⟨_,_,rfl,s4,by rw[List.take_zero,ArT,Asg];exact hq4⟩ (fun j σ H5 ⟨_,_,_,s5,_⟩=>⟨s5.seq hB,s5.seq hC⟩) ?_ ?_⟩
   ·rintro j xo yo σ H5 TT hxo hyo ⟨v7',v8',rfl,s5,hq5⟩ nT
    obtain⟨ao,hao,rfl⟩:=Mr hxo
    obtain⟨bo,hbo,rfl⟩:=Mr hyo
    have la:=C1.hm ao (ArE hao)
    have lb:=C2.hm bo (ArE hbo)
    have jl:j<h:=by rw[← C1.hn];exact(List.getElem?_eq_some_iff.mp hao).1
    have zj:(one.zip other)[j]?=some (ao,bo):=List.getElem?_zip_eq_some.mpr ⟨hao,hbo⟩
    have s6:Bg H (upd H5 TT (.tup [.str (tx ao),.str (tx bo)])):=s5.new nT
    have hq6:=(Bg.upd nT (o:=.tup [.str (tx ao),.str (tx bo)])) _ _ hq5
    refine⟨_,_,rfl,SqT.of Ad,rfl,_,_,rfl,_,_,rfl,rfl,?_⟩
    generalize upd H5 TT (.tup [.str (tx ao),.str (tx bo)])=H6 at s6 hq6 ⊢
    refine⟨_,rfl,.inl ⟨rfl,_,SqL.of hq6⟩,rfl,_,rfl,_,rfl,Uk (z:=tx u) (fun e ys H7=>H7=H6∧ys=vS ((u.take e).map fun c=>if c=35 then ao else bo)) ⟨rfl,rfl⟩ ?_ ?_ ?_ ?_⟩
    ·rintro e ys H7 he ⟨rfl,rfl⟩
     rw[Bj,Arq,Ar1]
     omega
    ·rw[Ka,lu];exact CG m40
    ·rintro e cc ys H7 he hcc ⟨rfl,rfl⟩
     rw[U7] at hcc
     refine Fq.no ?_
     refine⟨_,rfl,rfl,_,rfl,?_⟩
     have hh:("#" : Str)=⟨#[35]⟩:=by decide +kernel
     rw[hh]
     refine Ey (fun z=>?_) (fun z=>?_)
     ·refine⟨_,rfl,CN.of he ⟨rfl,?_⟩⟩
      rw[Ei,Ar5,hcc,Arz]
      show _=vS (_++[if cc=35 then ao else bo])
      rw[if_pos (AfX.mp z)]
     ·refine⟨_,rfl,CN.of he ⟨rfl,?_⟩⟩
      rw[Ei,Ar5,hcc,Arz]
      show _=vS (_++[if cc=35 then ao else bo])
      rw[if_neg fun y=>z (AfX.mpr y)]
    ·rintro ys H7 p7 ⟨rfl,rfl⟩ np7
     rw[Ka,ArI]
     have s7:Bg H (upd H7 p7 (.lst (vS (u.map fun c=>if c=35 then ao else bo)))):=s6.new np7
     have hq7:=(Bg.upd np7 (o:=.lst (vS (u.map fun c=>if c=35 then ao else bo)))) _ _ hq6
     have hp7:(upd H7 p7 (.lst (vS (u.map fun c=>if c=35 then ao else bo)))) p7=some (.lst (vS (u.map fun c=>if c=35 then ao else bo))):=Ad
     generalize upd H7 p7 (.lst (vS (u.map fun c=>if c=35 then ao else bo)))=H8 at s7 hq7 hp7 ⊢
     have ef:(u.map fun c=>if c=35 then ao else bo).flatten=rowOf u ao bo:=by unfold rowOf;rw[AsG]
     have lr:(rowOf u ao bo).length=m*w:=by
      unfold rowOf
      rw[Iw (h:=w) u fun x _=>by split;exact la;exact lb,lu]
     refine⟨_,_,((u.map fun c=>if c=35 then ao else bo).map tx),rfl,rfl,SqL.of (by rw[hp7,R8]),?_,?_⟩
     ·have:∀ l:List (List Nat),((l.map tx).map (·.length)).sum=l.flatten.length:=fun l=>by
       induction l with
       | nil=>rfl
       | cons x l ih=>rw[Arx,Arx,Ast,ih,ArB,Arp,Ah]
      rw[this,ef,lr]
      have:(((u.map fun c=>if c=35 then ao else bo).map tx).length)*(Str.length "")=0:=by rw[show Str.length "" = 0 from by decide +kernel];omega
      omega
     ·rw[show(("" : Str))=tx [] from by decide +kernel,Nq,ef]
      refine⟨_,_,_,rfl,rfl,hq7,(by rw[Bj,Arp,Arq,Ar1];omega),?_⟩
      rw[Ei]
      refine⟨_,_,rfl,s7.over nqH,?_⟩
      rw[Ad,ArQ,Ar5,zj,Arz]
      rfl
   ·rintro σ H5 ⟨v7',v8',rfl,s5,hq5⟩
    rw[ArS (l:=one.zip other) (i:=h) (by omega)] at hq5
    exact⟨_,_,_,rfl,s5,by rw[et,Aga];exact hq5⟩
  ·rintro σ H4 ⟨v6,v7,v8,rfl,s4,hq4⟩
   rw[Bj,ArI] at hq4
   exact⟨_,rfl,k q H4 s4 nqH hq4⟩
theorem Amt{ns:List Int}{k:Nat}(h:k≤ns.length):AcY (vI ns) none (some (0+(k:Int)))=vI (ns.take k):=by
 unfold AcY
 rw[Asd,HT.Afi,HT.YC,List.drop_zero,Kw,Asp h,Nat.sub_zero]
 unfold vI
 rw[List.map_take]
theorem Apj{ns:List Int}{k:Nat}(h:k<ns.length):atI (vI ns) (0+(k:Int))=some (.int (ns.getD k 0)):=by
 refine CZ (by omega) ?_
 rw[z0]
 have e:ns.getD k 0=ns[k]:=by simp[List.getD,h]
 rw[e]
 exact ZM (Aru h)
def Pcs (K:PySem.W.Frag)(H:Hp)(as:List Addr)(ps:List (List (List Nat))):Prop:=as.length=ps.length∧∀ i a,as[i]?=some a→SqL K H a (vS (ps.getD i []))
theorem AnV{as:List Addr}{z:Int}(h0:0≤z)(h:z.toNat<as.length):atI (as.map V.ref) z=some (.ref as[z.toNat]):=CZ h0 (by rw[Ar6,Aru h];rfl)
def Ahj (K:PySem.W.Frag):Sp:=fun vs H Q _=>∃(a:Addr) (os:List Int) (n:Int),vs=[.ref a,.int n]∧SqL K H a (vI os)∧1≤os.length∧os.length≤40∧(∀ z∈os,0≤z∧z<n)∧Q .non H
theorem Abh(T:Txt K mg t):Aj P w K mg base CX0 1 t.IW t.Ja ["owners", "pieces"] (Ahj K):=by
 refine T.Jw.F.ok V5 (fun vs H Q E h=>?_) (fun cdv A outer s H vs Q E hr h=>?_)
 ·obtain⟨a,os,n,rfl,_⟩:=h
  rfl
 ·obtain⟨a,os,n,rfl,hS,o1,o40,hz,k⟩:=h
  refine⟨_,(Ac (BK (PW.pt (pw_or (Ao R5 (Bq (Bx (K:=K)) rfl T.Ec CW (Aa (pv 0) Ab)) Ak (Ax _)) (pw_or1 (Ao Q9 (Bq (Bx (K:=K)) rfl T.Ec CW (Aa (pv 0) Ab)) (Cv (v:=.int 40) rfl T.Er.choose_spec ⟨_,rfl⟩) (Ax _)))))
    (Ae Mt)
    Aw)
   (Ae (JW PassesOwn.never rfl (Ej (K:=K) (pv 0)) (Dq (i:=2) V5.nd rfl (Or.inl rfl))
    (Ae (BK (PW.pt (pw_or (Ao R5 (pv 2) Ak (Ax _)) (pw_or1 (Ao AmA (pv 2) (pv 1) (Ax _)))))
     (Ae Mt)
     Aw))))),?_⟩
  refine⟨_,rfl,_,_,rfl,.inl hS,_,_,rfl,rfl,_,rfl,?_⟩
  refine DN (by rw[Kw];omega) ?_
  refine⟨_,rfl,_,_,rfl,.inl hS,_,_,rfl,rfl,_,rfl,?_⟩
  refine DN (by rw[Kw];omega) ?_
  refine⟨_,rfl,_,rfl,⟨_,hS⟩,Q8 (K:=K) (a:=a) (xs:=vI os) (fun i σ H2=>∃ v,σ=[some (.ref a),some (.int n),v]∧H2=H) ⟨none,rfl,rfl⟩ (fun i σ H2 _ ⟨_,_,e⟩=>e▸hS) ?_ ?_⟩
  ·rintro i x σ H2 hx ⟨v,rfl,rfl⟩
   obtain⟨z,hz2,rfl⟩:=Anv hx
   have hb:=hz z (ArE hz2)
   refine⟨_,rfl,_,_,rfl,rfl,_,rfl,?_⟩
   refine DN (by omega) ?_
   refine⟨_,rfl,_,rfl,_,_,rfl,rfl,_,rfl,?_⟩
   refine DN (by omega) ?_
   exact⟨_,rfl,rfl⟩
  ·rintro σ H2 ⟨v,rfl,rfl⟩
   exact k
def Ajg (K:PySem.W.Frag):Sp:=fun vs H Q _=>∃(a:Addr) (cl:List (List Nat)) (m n:Nat),vs=[.ref a,.int (m:Int),.int (n:Int)]∧SqL K H a (vS cl)∧cl.length=n∧m≤40∧(∀ t∈cl,t.length=m∧∀ c∈t,Sg c)∧Q .non H
theorem Ac9(T:Txt K mg t):Aj P w K mg base CX0 1 t.J9 t.JB ["piece", "ends", "picks"] (Ajg K):=by
 refine T.Td.F.ok RC (fun vs H Q E h=>?_) (fun cdv A outer s H vs Q E hr h=>?_)
 ·obtain⟨a,cl,m,n,rfl,_⟩:=h
  rfl
 ·obtain⟨a,cl,m,n,rfl,hS,hn,hm,hc,k⟩:=h
  refine⟨_,(Ac (BK (Ao Ui (Bq (Bx (K:=K)) rfl T.Ec CW (Aa (pv 0) Ab)) (pv 2) (Ax _))
    (Ae Mt)
    Aw)
   (Ae (JW PassesOwn.never rfl (Ej (K:=K) (pv 0)) (Dq (i:=3) RC.nd rfl (Or.inl rfl))
    (Ac (BK (Ao Ui (Bq Ca rfl T.Ec CW (Aa (pv 3) Ab)) (pv 1) (Ax _))
     (Ae Mt)
     Aw)
    (Ae (JW PassesOwn.never rfl (U6 (pv 3)) (Dq (i:=4) RC.nd rfl (Or.inl rfl))
     (Ae (BK (Ao Y9 (pv 4) Ag rfl)
      (Ae Mt)
      Aw)))))))),?_⟩
  refine⟨_,rfl,_,_,rfl,.inl hS,_,rfl,rfl,_,rfl,?_⟩
  refine Uj (by rw[Bj,hn]) ?_
  refine⟨_,rfl,_,rfl,⟨_,hS⟩,Q8 (K:=K) (a:=a) (xs:=vS cl) (fun i σ H2=>∃ v v2,σ=[some (.ref a),some (.int (m:Int)),some (.int (n:Int)),v,v2]∧H2=H) ⟨none,none,rfl,rfl⟩ (fun i σ H2 _ ⟨_,_,_,e⟩=>e▸hS) ?_ ?_⟩
  ·rintro i x σ H2 hx ⟨v,v2,rfl,rfl⟩
   obtain⟨u,hu,rfl⟩:=Mr hx
   obtain⟨u1,u2⟩:=hc u (ArE hu)
   refine⟨_,rfl,_,rfl,(by rw[Ah,u1];exact CG hm),_,rfl,rfl,_,rfl,?_⟩
   refine Uj (by rw[Ah,u1]) ?_
   refine⟨_,rfl,_,rfl,Aef (z:=tx u) (fun i σ H3=>∃ v2,σ=[some (.ref a),some (.int (m:Int)),some (.int (n:Int)),some (.str (tx u)),v2]∧H3=H2) ⟨_,rfl,rfl⟩ ?_ ?_⟩
   ·rintro i c σ H3 hc ⟨v2,rfl,rfl⟩
    rw[U7] at hc
    refine⟨_,rfl,_,_,rfl,rfl,_,rfl,?_⟩
    rw[occ (u2 c (ArE hc))]
    exact Rk ⟨_,rfl,rfl⟩
   ·rintro σ H3 ⟨v2,rfl,rfl⟩
    exact⟨_,_,rfl,rfl⟩
  ·rintro σ H2 ⟨v,v2,rfl,rfl⟩
   exact k
def Adq (os:List Int)(i:Nat):List Int:=(List.range i).map fun k=>(plc os k:Int)
theorem Agc(os:List Int)(i:Nat):(Adq os i).length=i:=by unfold Adq;rw[Arq,ArH]
theorem Ajh(os:List Int)(i:Nat):Adq os (i+1)=Adq os i++[(plc os i:Int)]:=by unfold Adq;rw[Asi,Arz];rfl
theorem Agd{os:List Int}{i k:Nat}(h:k<i):(Adq os i)[k]?=some (plc os k:Int):=by unfold Adq;rw[Ar6,AsB h];rfl
def Aji (K:PySem.W.Frag):Sp:=fun vs H Q _=>∃(a:Addr) (os:List Int),vs=[.ref a]∧SqL K H a (vI os)∧os.length≤40∧∀ l H',Bg H H'→H l=none→H' l=some (.lst (vI (Adq os os.length)))→Q (.ref l) H'
theorem Aak(T:Txt K mg t):Aj P w K mg base CX0 1 t.Hw t.Hx ["owners"] (Aji K):=by
 refine T.Il.F.ok ZW (fun vs H Q E h=>?_) (fun cdv A outer s H vs Q E hr h=>?_)
 ·obtain⟨a,os,rfl,_⟩:=h
  rfl
 ·obtain⟨a,os,rfl,hS,o40,k⟩:=h
  refine⟨_,(Ae (Bb (Gq (DK.mk (Bp:=[0]) (Nc:=["k", "owners"]) rfl (by decide +kernel) (by decide +kernel) (Dy (sc0:=Af Nu) rfl (by decide +kernel)) rfl rfl rfl (by decide +kernel) (fun k j h=>match k,h with | 0,h=>by obtain rfl:=Option.some.inj h;exact⟨_,rfl,rfl,rfl⟩ | _+1,h=>by simp at h)) rfl (Iu rfl T.Nx (Aa (Bq (Bx (K:=K)) rfl T.Ec CW (Aa (pv 0) Ab)) Ab)) (fun _ _ _ _ _=>.nil) (fun _ _ _ _ _=>(Gs (K:=K) PySem.F.plainAttrs_list PySem.F.slot_list_count PySem.F.type_list_count (ZV (K:=K)) (Ku (AbY (K:=K)) (pv 1) Rj (Lh (pv 0))) (Aa (BL (Bo (K:=K)) (pv 1) (pv 0) (fun _ _=>rfl)) Ab)))))),?_⟩
  refine⟨_,rfl,_,_,rfl,.inl hS,_,rfl,(by omega),(by rw[Kw];omega),?_⟩
  rw[Ar7,Kw]
  refine Kv (lo:=0) (n:=os.length) (fun i ys H2=>Bg H H2∧ys=vI (Adq os i)) ⟨.refl _,rfl⟩ ?_ ?_ ?_ ?_
  ·rintro i ys H2 hi ⟨s2,rfl⟩
   rw[Kw,Agc]
   exact Art _
  ·exact CG o40
  ·rintro i ys H2 hi ⟨s2,rfl⟩
   refine Fq.no ?_
   refine⟨_,rfl,_,rfl,_,rfl,_,_,rfl,s2.seq hS,fun p hp=>?_⟩
   rw[Amt (by omega)]
   have s3:Bg H (upd H2 p (.lst (vI (os.take i)))):=s2.new hp
   refine⟨.inl ⟨rfl,_,SqL.of Ad⟩,_,rfl,_,rfl,_,_,_,_,rfl,rfl,s3.seq hS,Apj hi,_,_,_,rfl,rfl,SqL.of Ad,?_⟩
   refine CN.of hi ⟨s3,?_⟩
   rw[Ajh,Ag6]
   rfl
  ·rintro ys H2 l ⟨s2,rfl⟩ hl
   exact k l _ (s2.new hl) (s2.free hl) Ad
def Ajj:Sp:=fun vs H Q _=>∃(o e:Int) (own:List Nat) (p:Nat),vs=[.int o,.str (tx own),.int e,.int (p:Int)]∧(o=e→p<own.length)∧own.length≤40∧Q (.str ⟨#[YM o e own p]⟩) H
theorem AnW{u:List Nat}{i:Nat}(h:i<u.length):atI (tx u).cps.toList (i:Int)=some (u.getD i 0):=by
 refine CZ (by omega) ?_
 rw[Ar7]
 show u.toArray.toList[i]?=_
 simp[List.getD,h]
theorem Ahk(T:Txt K mg t):Aj P w K mg base CX0 1 t.Rw t.Rx ["pick_owner", "own", "end_owner", "place"] Ajj:=by
 refine T.Abw.F.ok AgW (fun vs H Q E h=>?_) (fun cdv A outer s H vs Q E hr h=>?_)
 ·obtain⟨o,e,own,p,rfl,_⟩:=h
  rfl
 ·obtain⟨o,e,own,p,rfl,hp,h40,k⟩:=h
  refine⟨_,(Ac (BK (Ao Eh (pv 0) (pv 2) (Ax _))
    (Ae (Bb (BL ZJ (pv 1) (pv 3) (fun _ _=>rfl))))
    Aw)
   (Ae (Bb (Ov (Ao R5 (pv 2) (pv 0) (Ax _)) Ag Ag)))),?_⟩
  unfold YM at k
  refine⟨_,rfl,_,rfl,rfl,_,rfl,?_⟩
  refine Ey (fun h=>?_) (fun h=>?_)
  ·have h:o=e:=by injection h
   rw[if_pos h] at k
   exact⟨_,rfl,_,rfl,_,_,_,rfl,rfl,(by rw[Ah];exact CG h40),AnW (hp h),k⟩
  ·have h:¬o=e:=fun z=>h (by rw[z])
   rw[if_neg h] at k
   refine⟨_,rfl,_,rfl,_,_,rfl,rfl,_,rfl,?_⟩
   refine Ey (fun h2=>?_) (fun h2=>?_)
   ·rw[if_pos h2,e35] at k
    exact k
   ·rw[if_neg h2,e46] at k
    exact k
def Amu (K:PySem.W.Frag):Sp:=fun vs H Q _=>∃(p pe po:Addr) (as:List Addr) (ps:List (List (List Nat))) (es os:List Int),vs=[.ref p,.ref pe,.ref po]∧SqL K H p (as.map V.ref)∧Pcs K H as ps∧SqL K H pe (vI es)∧SqL K H po (vI os)∧AgH ps es os ∧
 ∀ l H',Bg H H'→H l=none→H' l=some (.lst (vS (lay ps es os)))→Q (.ref l) H'
theorem Aal(T:Txt K mg t):Aj P w K mg base CX0 2 t.Hu t.Hv ["pieces", "ends", "picks"] (Amu K):=by
 have W6:Aj P w K mg base CX0 1 t.IW t.Ja _ _:=Abh T
 have Ads:Aj P w K mg base CX0 1 t.J9 t.JB _ _:=Ac9 T
 have VF:Aj P w K mg base CX0 1 t.Hw t.Hx _ _:=Aak T
 have Ajk:Aj P w K mg base CX0 1 t.Rw t.Rx _ _:=Ahk T
 refine T.Q3.F.ok Dm (fun vs H Q E h=>?_) (fun cdv A outer s H vs Q E hr h=>?_)
 ·obtain⟨p,pe,po,as,ps,es,os,rfl,_⟩:=h
  rfl
 ·obtain⟨p,pe,po,as,ps,es,os,rfl,hP,hA,hE,hO,C,k⟩:=h
  have hsz:sizeLine=16777216:=sizeLine_eq
  have al:=hA.1
  have ce1:=C.e1
  have Amv:=C.e40
  have co1:=C.o1
  have Apk:=C.o40
  have ml:(as.map V.ref).length=ps.length:=by rw[Arq,al]
  refine⟨_,(Ac (BJ (Aq (W6.mono (by decide)) hr rfl T.Jw.m T.Jw.F.kp T.Jw.b .nil An (Aa (pv 1) (Aa (Bq (Bx (K:=K)) rfl T.Ec CW (Aa (pv 0) Ab)) Ab))))
   (Ac (BJ (Aq (W6.mono (by decide)) hr rfl T.Jw.m T.Jw.F.kp T.Jw.b .nil An (Aa (pv 2) (Aa (Bq (Bx (K:=K)) rfl T.Ec CW (Aa (pv 0) Ab)) Ab))))
   (Ac (JW PassesOwn.never rfl (AlU (K:=K) rfl T.AfI (Aa (pv 0) Ab)) (ZD rfl (J1 (Dq (i:=3) Dm.nd rfl (Or.inl rfl)) (J1 (Dq (i:=4) Dm.nd rfl (Or.inl rfl)) Xd)))
    (Ae (BJ (Aq (Ads.mono (by decide)) hr rfl T.Td.m T.Td.F.kp T.Td.b .nil An (Aa (pv 4) (Aa (Gs (K:=K) PySem.F.plainAttrs_list PySem.F.slot_list_count PySem.F.type_list_count (ZV (K:=K)) (pv 1) (Aa (pv 3) Ab)) (Aa (Gs (K:=K) PySem.F.plainAttrs_list PySem.F.slot_list_count PySem.F.type_list_count (ZV (K:=K)) (pv 2) (Aa (pv 3) Ab)) Ab)))))))
   (Ac (BP (i:=5) Dm.nd rfl (Or.inl rfl) (Aq (VF.mono (by decide)) hr rfl T.Il.m T.Il.F.kp T.Il.b .nil An (Aa (pv 1) Ab)))
   (Ac (BP (i:=6) Dm.nd rfl (Or.inl rfl) (Aq (VF.mono (by decide)) hr rfl T.Il.m T.Il.F.kp T.Il.b .nil An (Aa (pv 2) Ab)))
   (Ac (BP (i:=7) Dm.nd rfl (Or.inl rfl) (Ez Ab))
   (Ac (JW PassesOwn.never rfl (AjJ (K:=K) rfl T.AhS (Aa (pv 2) (Aa (pv 6) Ab))) (ZD rfl (J1 (Dq (i:=8) Dm.nd rfl (Or.inr rfl)) (J1 (Dq (i:=9) Dm.nd rfl (Or.inl rfl)) Xd)))
    (Ac (BP (i:=10) Dm.nd rfl (Or.inr rfl) (BL (Bo (K:=K)) (BL (Bo (K:=K)) (pv 0) (pv 8) (fun _ _=>rfl)) (pv 9) (fun _ _=>rfl)))
    (Ac (AdK (K:=K) (i:=11) (Va.mk (Bp:=[8,10]) (Nc:=["end_owner", "k", "owner", "own"]) rfl (by decide +kernel) (by decide +kernel) (Dy (sc0:=Af Nt) rfl (by decide +kernel)) rfl rfl rfl rfl rfl (by decide +kernel) (fun k j h=>match k,h with | 0,h=>by obtain rfl:=Option.some.inj h;exact⟨_,rfl,rfl,rfl⟩ | 1,h=>by obtain rfl:=Option.some.inj h;exact⟨_,rfl,rfl,rfl⟩ | _+2,h=>by simp at h)) rfl Dm.nd rfl rfl (Ah8 (K:=K) rfl T.AhS (Aa (pv 1) (Aa (pv 5) Ab))) (fun _ _ _ _ _=>.nil) (fun _ _ _ _ _=>(Aq (Ajk.mono (by decide)) hr rfl T.Abw.m T.Abw.F.kp T.Abw.b .nil An (Aa (pv 2) (Aa (pv 3) (Aa (pv 0) (Aa (pv 1) Ab)))))) rfl)
    (Ae (BJ (Gs (K:=K) PySem.F.plainAttrs_list PySem.F.slot_list_append PySem.F.type_list_append NK (pv 7) (Aa (Gs (K:=K) PySem.F.plainAttrs_str PySem.F.slot_str_join PySem.F.type_str_join (Ky (K:=K)) Ag (Aa (pv 11) Ab)) Ab)))))))
   (Ae (Bb (pv 7)))))))))),?_⟩
  refine⟨_,rfl,_,rfl,_,_,rfl,.inl hP,pe,es,_,rfl,hE,ce1,Amv,(by rw[ml];exact C.e),?_⟩
  refine⟨_,rfl,_,rfl,_,_,rfl,.inl hP,po,os,_,rfl,hO,co1,Apk,(by rw[ml];exact C.o),?_⟩
  refine⟨_,rfl,_,rfl,⟨_,hP⟩,Akp (K:=K) (a:=p) (xs:=as.map V.ref) (fun i σ H2=>∃ v1 v2,σ=[some (.ref p),some (.ref pe),some (.ref po),v1,v2,none,none,none,none,none,none,none]∧Bg H H2) ⟨none,none,rfl,.refl _⟩ (fun i σ H2 ⟨_,_,_,s2⟩=>s2.seq hP) ?_ ?_⟩
  ·rintro i x σ H2 T2 hx ⟨v1,v2,rfl,s2⟩ nT
   obtain⟨a,ha,rfl⟩:∃ a,as[i]?=some a∧x=.ref a:=by
    rw[Ar6] at hx
    cases e:as[i]? with
    | none=>rw[e] at hx;cases hx
    | some b=>rw[e] at hx;cases hx;exact⟨b,rfl,rfl⟩
   have hi:i<ps.length:=by rw[← al];exact(List.getElem?_eq_some_iff.mp ha).1
   have s3:Bg H (upd H2 T2 (.tup [.int (i:Int),.ref a])):=s2.new nT
   refine⟨_,_,rfl,SqT.of Ad,rfl,_,_,rfl,_,_,rfl,rfl,?_⟩
   refine⟨_,rfl,_,rfl,.inl ⟨rfl,_,s3.seq hE⟩,_,rfl,_,_,_,rfl,rfl,s3.seq hE,?_⟩
   refine⟨_,rfl,.inl ⟨rfl,_,s3.seq hO⟩,_,rfl,_,_,_,rfl,rfl,s3.seq hO,?_⟩
   refine⟨a,ps.getD i [],es.count (i:Int),os.count (i:Int),rfl,s3.seq (hA.2 i a ha),C.hn i hi,ArC (List.count_le_length ..) Amv,C.hm i hi,?_⟩
   exact⟨_,_,rfl,s3⟩
  ·rintro σ H2 ⟨v1,v2,rfl,s2⟩
   refine⟨_,rfl,pe,es,rfl,s2.seq hE,Amv,fun l1 H3 s3 nl1 hl1=>?_⟩
   have u3:=s2.trans s3
   refine⟨_,rfl,po,os,rfl,u3.seq hO,Apk,fun l2 H4 s4 nl2 hl2=>?_⟩
   have u4:=u3.trans s4
   refine⟨Ar9 _,fun q hq=>?_⟩
   have nq:H q=none:=u4.free hq
   have u5:Bg H (upd H4 q (.lst [])):=u4.new hq
   have w5:Bg H4 (upd H4 q (.lst [])):=.upd hq
   refine⟨_,rfl,_,rfl,_,_,rfl,⟨_,u5.seq hO⟩,⟨_,SqL.of (w5 _ _ hl2)⟩,Ah6 (K:=K) (n:=os.length) (xs:=vI os) (ys:=vI (Adq os os.length)) (by rw[Kw,Kw,Agc,ArO])
    (fun j σ H6=>∃(v3 v4 v5 v6:Option V),σ=[some (.ref p),some (.ref pe),some (.ref po),v1,v2,some (.ref l1),some (.ref l2),some (.ref q),v3,v4,v5,v6]∧Bg H H6∧Bg H4 H6∧H6 q=some (.lst (vS ((lay ps es os).take j))))
    ⟨none,none,none,none,rfl,u5,w5,Ad⟩ (fun j σ H6 ⟨_,_,_,_,_,u6,w6,_⟩=>⟨u6.seq hO,SqL.of (w6 _ _ hl2)⟩) ?_ ?_⟩
   ·rintro j x y σ H6 T6 hx hy ⟨v3,v4,v5,v6,rfl,u6,w6,hq6⟩ nT
    have hj:j<os.length:=by
     have:=(List.getElem?_eq_some_iff.mp hx).1
     rwa [Kw] at this
    have ex:x=.int (os.getD j 0):=by
     have e:os.getD j 0=os[j]:=by simp[List.getD,hj]
     rw[e]
     exact Option.some.inj (hx.symm.trans (ZM (Aru hj)))
    have ey:y=.int (plc os j:Int):=Option.some.inj (hy.symm.trans (ZM (Agd hj)))
    subst ex
    subst ey
    obtain⟨o,eo⟩:∃ o,o=os.getD j 0:=⟨_,rfl⟩
    obtain⟨b,eb⟩:∃ b,b=plc os j:=⟨_,rfl⟩
    obtain⟨o1,o2⟩:=C.own hj
    have oz:=C.o _ (getD_mem hj)
    rw[← eo,← eb] at o2
    rw[← eo] at o1 oz
    rw[← eo,← eb]
    have hq7:(upd H6 T6 (.tup [.int o,.int (b:Int)])) q=some (.lst (vS ((lay ps es os).take j))):=(Bg.upd nT) _ _ hq6
    have u7:Bg H (upd H6 T6 (.tup [.int o,.int (b:Int)])):=u6.new nT
    have w7:Bg H4 (upd H6 T6 (.tup [.int o,.int (b:Int)])):=w6.new nT
    have hT7:(upd H6 T6 (.tup [.int o,.int (b:Int)])) T6=some (.tup [.int o,.int (b:Int)]):=Ad
    generalize upd H6 T6 (.tup [.int o,.int (b:Int)])=H7 at hq7 u7 w7 hT7 ⊢
    refine⟨_,_,rfl,SqT.of hT7,rfl,_,_,rfl,_,_,rfl,rfl,?_⟩
    have lo:o.toNat<as.length:=by rw[al];exact o1
    have sa:=u7.seq (hA.2 _ _ (Aru lo))
    have Apl:((ps.getD o.toNat []).getD b []).length≤40:=by
     rw[C.row o1 o2]
     exact ArC (List.count_le_length ..) Amv
    have ab:atI (vS (ps.getD o.toNat [])) (b:Int)=some (.str (tx ((ps.getD o.toNat []).getD b []))):=by
     refine CZ (by omega) ?_
     rw[Ar7]
     have e:(ps.getD o.toNat []).getD b []=(ps.getD o.toNat [])[b]:=by rw[ArN,Aru o2];rfl
     rw[e]
     exact Aei (Aru o2)
    refine⟨_,rfl,_,rfl,_,_,_,_,rfl,rfl,u7.seq hP,AnV oz.1 lo,_,rfl,_,_,_,_,rfl,rfl,sa,ab,?_⟩
    refine⟨_,rfl,_,rfl,.l pe,.l l1,rfl,trivial,⟨_,u7.seq hE⟩,⟨_,SqL.of (w7 _ _ (s4 _ _ hl1))⟩,?_⟩
    refine AfC (n:=es.length) (fun i=>.int (es.getD i 0)) (fun i=>.int (plc es i:Int)) (fun i ys H8=>Bg H7 H8∧ys=vS (((Jt ps es o b).take i).map fun d=>[d])) ⟨.refl _,rfl⟩ ?_ ?_ ?_ ?_ ?_ ?_ ?_
    ·rintro i ys H8 hi ⟨s8,rfl⟩
     rw[Bj,Arq,Ar1]
     omega
    ·omega
    ·rintro i ys H8 hi ⟨s8,_⟩
     have e:es.getD i 0=es[i]:=by simp[List.getD,hi]
     exact⟨_,(u7.trans s8).seq hE,by rw[e];exact ZM (Aru hi)⟩
    ·rintro i ys H8 hi ⟨s8,_⟩
     exact⟨_,SqL.of ((w7.trans s8) _ _ (s4 _ _ hl1)),ZM (Agd hi)⟩
    ·rintro ys H8 ⟨s8,_⟩
     exact⟨⟨_,(u7.trans s8).seq hE⟩,⟨_,SqL.of ((w7.trans s8) _ _ (s4 _ _ hl1))⟩,.inl ⟨_,(u7.trans s8).seq hE,by rw[Kw]⟩⟩
    ·rintro i ys H8 T8 hi ⟨s8,rfl⟩ nT8
     refine Fq.no ?_
     refine⟨_,rfl,_,rfl,_,rfl,_,rfl,o,es.getD i 0,(ps.getD o.toNat []).getD b [],plc es i,rfl,fun h=>?_,Apl,?_⟩
     ·rw[C.row o1 o2,show((o.toNat:Nat):Int)=o by omega,h]
      exact AgG hi
     ·refine CN.of hi ⟨s8.new nT8,?_⟩
      rw[Ar5,Yb hi,Tt,Ei,Arz]
      rfl
    ·rintro ys H8 l8 ⟨s8,rfl⟩ nl8
     have e0:(Jt ps es o b).take es.length=Jt ps es o b:=ArS (by rw[R9];exact Art _)
     rw[e0]
     have u8:=(u7.trans s8).new (o:=.lst (vS ((Jt ps es o b).map fun d=>[d]))) nl8
     have w8:=(w7.trans s8).new (o:=.lst (vS ((Jt ps es o b).map fun d=>[d]))) nl8
     have hq8:=(s8.new (o:=.lst (vS ((Jt ps es o b).map fun d=>[d]))) nl8) _ _ hq7
     refine⟨_,rfl,.inl ⟨rfl,_,SqL.of hq8⟩,rfl,_,rfl,_,_,(((Jt ps es o b).map fun d=>[d]).map tx),rfl,rfl,SqL.of (by rw[Ad,R8]),?_,?_⟩
     ·have e1:=AlD (fun d:Nat=>d) (Jt ps es o b)
      rw[e1,Arq,Arq,R9]
      have:es.length*(Str.length "")=0:=by rw[show Str.length "" = 0 from by decide +kernel];omega
      omega
     ·rw[show(("" : Str))=tx [] from by decide +kernel,Nq]
      have e2:((Jt ps es o b).map fun d=>[d]).flatten=Jt ps es o b:=(YG (fun d:Nat=>d) (Jt ps es o b)).trans (Asc _)
      rw[e2]
      refine⟨_,_,_,rfl,rfl,hq8,(by rw[Bj,Ar1];omega),?_⟩
      refine⟨_,_,_,_,rfl,u8.over nq,w8.over hq,?_⟩
      rw[Ad,Ei,Ar5,AhC hj,← eo,← eb]
      rfl
   ·rintro σ H6 ⟨v3,v4,v5,v6,rfl,u6,w6,hq6⟩
    have e0:(lay ps es os).take os.length=lay ps es os:=ArS (by rw[Aeo];exact Art _)
    rw[e0] at hq6
    exact⟨_,rfl,k q H6 u6 nq hq6⟩
def rfa (t:Adr):Rf→Addr
 | .nop=>t.Bm
 | .big=>t.BR
 | .unk=>t.Dd
def Oi (t:Adr)(C dx r:Addr)(H:Hp)(Q:VK)(E:XK)(R:Res)(z:List Nat):Prop:=match R with
 | .ok x=>∀ l H',FT r H H'→H l=none→H' l=some (.lst (vS x))→H' r=some (.ins C dx (pf l (tx z)))→Q .non H'
 | .no f=>∀ H',FT r H H'→E (.ref (rfa t f)) none H'
theorem Jm{r:Addr}{H H':Hp}(s:Bg H H'):FT r H H':=fun b o _ e=>s b o e
theorem Oi.fin{C dx r l:Addr}{H H3:Hp}{Q:VK}{E:XK}{x:List (List Nat)}{z:List Nat}(k:Oi t C dx r H Q E (.ok x) z)(sb:Bg H H3)(h1:H r=some (.ins C dx []))(hl:H3 l=none):Q .non (upd (upd H3 l (.lst (vS x))) r (.ins C dx (pf l (tx z)))):=by
 have hr:H3 r=some (.ins C dx []):=sb _ _ h1
 have nlr:l≠r:=fun y=>by rw[y,hr] at hl;cases hl
 have hlH:H l=none:=by
  cases e:H l with
  | none=>rfl
  | some o=>rw[sb _ _ e] at hl;cases hl
 refine k l _ (fun b o hb e=>?_) hlH (by rw[Ba nlr];exact Ad) Ad
 rw[Ba hb,Ba (Bu (sb b o e) hl)]
 exact sb b o e
def AkR (K:PySem.W.Frag)(t:Adr):Sp:=fun vs H Q E=>∃(r dx a:Addr) (x:List (List Nat)) (z:List Nat),vs=[.ref r,.str (tx z),.ref a]∧H r=some (.ins t.De dx [])∧SqL K H a (vS x)∧Oi t t.De dx r H Q E (.ok x) z
theorem Zw(T:Txt K mg t):Aj P w K mg base CX0 3 t.Fd t.Gw ["self", "name", "known_cloth"] (AkR K t):=by
 have Az:Aj P w K mg base CX0 1 t.Bd t.Bs _ _:=BZ T
 refine T.Uv.F.ok Zc (fun vs H Q E h=>?_) (fun cdv A outer s H vs Q E hr h=>?_)
 ·obtain⟨r,dx,a,x,z,rfl,_⟩:=h
  rfl
 ·obtain⟨r,dx,a,x,z,rfl,h1,hS,k⟩:=h
  refine⟨_,(Ae (BJ (Li (Cv (v:=.ref t.Bc) rfl T.Km rfl) T.Jk (Az.mono (by decide)) hr T.BX.b .nil An (Aa (pv 0) (Aa (pv 2) (Aa (pv 1) Ab)))))),?_⟩
  refine⟨rfl,_,rfl,_,rfl,_,rfl,t.De,r,dx,a,x,_,rfl,h1,T.Aez.c,T.Jd,T.G6,hS,fun l hl=>?_⟩
  exact k.fin (.refl _) h1 hl
def Amw (K:PySem.W.Frag)(t:Adr):Sp:=fun vs H Q E=>∃(r dx a:Addr) (rs:List (List Nat)),vs=[.ref r,.ref a]∧H r=some (.ins t.DW dx [])∧SqL K H a (vS rs)∧rs≠[]∧rs.length≤40∧(wz Pat.QF rs).length≤1000000∧Oi t t.DW dx r H Q E (AdE rs) (wz Pat.QF rs)
theorem Zx(T:Txt K mg t):Aj P w K mg base (CX1 P w) 3 t.Gh t.Hm ["self", "runs"] (Amw K t):=by
 have Eu:Aj P w K mg base (CX1 P w) 2 t.Eo t.Ep _ _:=Jl T
 have Dc:Aj P w K mg base CX0 1 t.Ea t.Eb _ _:=Gk T
 have Az:Aj P w K mg base CX0 1 t.Bd t.Bs _ _:=BZ T
 refine T.V7.F.okX Aab (fun vs H Q E h=>?_) (fun cdv A outer s H vs Q E hr h=>?_)
 ·obtain⟨r,dx,a,rs,rfl,_⟩:=h
  rfl
 ·obtain⟨r,dx,a,rs,rfl,h1,hS,hne,Aqt,hw,k⟩:=h
  refine⟨_,(Ac (BK (N7 (Bq (AdJ (K:=K)) rfl T.AmO Aj8 (Aa (PE.nox (Gq (DK.mk (Bp:=[1]) (Nc:=["run", "runs"]) rfl (by decide +kernel) (by decide +kernel) (Dy (sc0:=Af Nv) rfl (by decide +kernel)) rfl rfl rfl (by decide +kernel) (fun k j h=>match k,h with | 0,h=>by obtain rfl:=Option.some.inj h;exact⟨_,rfl,rfl,rfl⟩ | _+1,h=>by simp at h)) rfl (Ej (K:=K) (pv 1)) (fun _ _ _ _ _=>.nil) (fun _ _ _ _ _=>(Lg Ui (Bq Ca rfl T.Ec CW (Aa (pv 0) Ab)) (Bq Ca rfl T.Ec CW (Aa (BL (Bo (K:=K)) (pv 1) Ak (fun _ _=>rfl)) Ab)) (Ax _))))) Ab)))
    (Ae (Du Jr rfl (fun _ _ z=>z) PySem.F.excBase_ValueError GJ PySem.F.excBase_ValueError T.Cd.q rfl T.Ck (Aa Ag Ab)))
    Aw)
   (Ac (BJ (Aq (Eu.mono (by decide)) hr rfl T.Di.m T.Di.F.kp T.Di.b .nil Gv (Aa (Bq Ca rfl T.Ec CW (Aa (BL (Bo (K:=K)) (pv 1) Ak (fun _ _=>rfl)) Ab)) (Aa (Bq (Bx (K:=K)) rfl T.Ec CW (Aa (pv 1) Ab)) Ab))))
   (Ae (BJ (Li (Cv (v:=.ref t.Bc) rfl T.Km rfl) T.Jk (Az.mono (by decide)) hr T.BX.b .nil An (Aa (pv 0) (Aa (pv 1) (Aa (Aq (Dc.mono (by decide)) hr rfl T.written.m T.written.F.kp T.written.b .nil An (Aa Ag (Aa (pv 1) Ab))) Ab)))))))),?_⟩
  have hb:∀ u∈rs,u.length≤1000000:=fun u hu=>by
   have:=AmK hu
   rw[Yo] at hw
   omega
  obtain⟨u0,hu0,e0⟩:∃ u0,rs[0]?=some u0∧u0.length=wdt rs:=by
   cases rs with
   | nil=>exact absurd rfl hne
   | cons u rs=>exact⟨u,rfl,rfl⟩
  have b0:=hb u0 (ArE hu0)
  refine⟨_,rfl,_,rfl,⟨_,hS⟩,Iv (K:=K) (a:=a) (xs:=vS rs) (fun i ys H2=>H2=H∧ys=vB ((rs.take i).map fun r=>decide (¬r.length=wdt rs))) ⟨rfl,rfl⟩ ?_ ?_ ?_ ?_⟩
  ·rintro i ys H2 hi ⟨rfl,rfl⟩
   refine⟨hS,?_⟩
   rw[AgR,Arq,Ar1]
   omega
  ·rw[Bj];exact CG Aqt
  ·rintro i x ys H2 hi hx ⟨rfl,rfl⟩
   obtain⟨u,hu,rfl⟩:=Mr hx
   have bu:=hb u (ArE hu)
   refine Fq.no ?_
   refine⟨_,rfl,_,rfl,(by rw[Ah];exact big bu),_,rfl,_,_,_,_,rfl,rfl,hS,Ot (i:=0) hu0,_,rfl,(by rw[Ah];exact big b0),rfl,?_⟩
   rw[show(!decide (V.int ((tx u).length:Int)=V.int ((tx u0).length:Int)))=decide (¬u.length=wdt rs) by
    rw[Ah,Ah,e0,← decide_not]
    exact decide_eq_decide.mpr ⟨fun z y=>z (by rw[y]),fun z y=>z (by injection y with y;omega)⟩]
   exact CN.of hi ⟨rfl,by rw[AgS,Ar5,hu,Arz];rfl⟩
  ·rintro ys H2 q ⟨rfl,rfl⟩ hq
   rw[Bj,ArI]
   refine⟨_,_,rfl,SqL.of Ad,_,rfl,?_⟩
   have s3:Bg H2 (upd H2 q (.lst (vB (rs.map fun r=>decide (¬r.length=wdt rs))))):=.upd hq
   generalize upd H2 q (.lst (vB (rs.map fun r=>decide (¬r.length=wdt rs))))=H3 at s3 ⊢
   unfold AdE at k
   refine ApY (fun c=>?_) (fun c=>?_)
   ·rw[if_pos c] at k
    exact⟨by decide,k _ (Jm s3)⟩
   ·rw[if_neg (by rw[c];exact fun z=>nomatch z)] at k
    refine⟨_,rfl,_,_,_,_,rfl,rfl,s3.seq hS,Ot (i:=0) hu0,_,rfl,(by rw[Ah];exact big b0),_,rfl,_,_,rfl,.inl (s3.seq hS),wdt rs,rs.length,(by rw[Ah,e0,Bj];rfl),fun c2=>?_,fun c2 H' s'=>?_⟩
    ·rw[if_neg (by omega)] at k
     refine⟨rfl,_,rfl,_,rfl,_,rfl,a,Pat.QF,rs,(by rw[Abz];rfl),s3.seq hS,hne,hw,?_⟩
     refine⟨t.DW,r,dx,a,rs,_,rfl,s3 _ _ h1,T.AgY.c,T.JQ,T.HB,s3.seq hS,fun l hl=>?_⟩
     exact k.fin s3 h1 hl
    ·rw[if_pos (by omega)] at k
     exact k _ (Jm (s3.trans s'))
theorem lg{m:Nat}(h:m<100):((m:Int)).natAbs.log2<1920:=by
 rw[Int.natAbs_natCast]
 exact Nat.lt_of_le_of_lt (Nat.log2_le_self m) (by omega)
theorem Age:(("#" : Str))=tx [35]:=by decide +kernel
theorem AeB:(("." : Str))=tx [46]:=by decide +kernel
theorem AeC:(("twill" : Str))=tx twW:=by decide +kernel
theorem AeD:(("satin" : Str))=tx saW:=by decide +kernel
theorem Agf{u:List Nat}{k:Nat}(h:k≤u.length):AaX u (some (k:Int)) none=u.drop k:=by
 unfold AaX
 rw[HT.YC,Asp h]
 exact ArS (by rw[ArM];exact Art _)
theorem AkS{z x y:List Nat}(hz:z.length≤100)(hx:x.length≤100)(hy:y.length≤100):(wz z [x,y]).length≤1000000:=by
 rw[Yo]
 unfold cj
 rw[Arp,Arx,ArT,ArB,As0,Arp,Arp,Arv,ArX]
 omega
def AkT (K:PySem.W.Frag)(t:Adr):Sp:=fun vs H Q E=>∃(r dx:Addr) (m n:Nat),vs=[.ref r,.int (m:Int),.int (n:Int)]∧H r=some (.ins t.Dg dx [])∧m<100∧n<100∧Oi t t.Dg dx r H Q E (Yc m n) (wz twW [dec m,dec n])
theorem Yp(T:Txt K mg t):Aj P w K mg base (CX1 P w) 3 t.Fe t.Gx ["self", "over", "under"] (AkT K t):=by
 have Eu:Aj P w K mg base (CX1 P w) 2 t.Eo t.Ep _ _:=Jl T
 have Dc:Aj P w K mg base CX0 1 t.Ea t.Eb _ _:=Gk T
 have Az:Aj P w K mg base CX0 1 t.Bd t.Bs _ _:=BZ T
 refine T.Uw.F.okX Kf (fun vs H Q E h=>?_) (fun cdv A outer s H vs Q E hr h=>?_)
 ·obtain⟨r,dx,m,n,rfl,_⟩:=h
  rfl
 ·obtain⟨r,dx,m,n,rfl,h1,hm,hn,k0⟩:=h
  refine⟨_,(Ac (BK (PW.pt (pw_or (Ao R5 (pv 1) Ak (Ax _)) (pw_or1 (Ao R5 (pv 2) Ak (Ax _)))))
    (Ae (Du Jr rfl (fun _ _ z=>z) PySem.F.excBase_ValueError GJ PySem.F.excBase_ValueError T.Cd.q rfl T.Ck (Aa Ag Ab)))
    Aw)
   (Ac (BP (i:=3) Kf.nd rfl (Or.inr rfl) (Bv U3 (pv 1) (pv 2)))
   (Ac (BJ (Aq (Eu.mono (by decide)) hr rfl T.Di.m T.Di.F.kp T.Di.b .nil Gv (Aa (pv 3) (Aa (pv 3) Ab))))
   (Ac (BP (i:=4) Kf.nd rfl (Or.inr rfl) (Bv Bh (Bv Xg Ag (pv 1)) (Bv Xg Ag (pv 2))))
   (Ac (PS.nox (YF (i:=5) (DK.mk (Bp:=[3,4]) (Nc:=["y", "size", "first"]) rfl (by decide +kernel) (by decide +kernel) (Dy (sc0:=Af Lk) rfl (by decide +kernel)) rfl rfl rfl (by decide +kernel) (fun k j h=>match k,h with | 0,h=>by obtain rfl:=Option.some.inj h;exact⟨_,rfl,rfl,rfl⟩ | 1,h=>by obtain rfl:=Option.some.inj h;exact⟨_,rfl,rfl,rfl⟩ | _+2,h=>by simp at h)) rfl Kf.nd rfl rfl (Iu rfl T.Nx (Aa (pv 3) Ab)) (fun _ _ _ _ _=>.nil) (fun _ _ _ _ _=>(Bv Bh (Ku Wa (pv 2) (Lh (Bv AdU (pv 1) (pv 0))) Rj) (Ku Wa (pv 2) Rj (Lh (Bv AdU (pv 1) (pv 0)))))) rfl))
   (Ae (BJ (Li (Cv (v:=.ref t.Bc) rfl T.Km rfl) T.Jk (Az.mono (by decide)) hr T.BX.b .nil An (Aa (pv 0) (Aa (pv 5) (Aa (Aq (Dc.mono (by decide)) hr rfl T.written.m T.written.F.kp T.written.b .nil An (Aa Ag (Aa (Ez (Aa (Ex HR rfl T.AaP VR (Aa (pv 1) Ab)) (Aa (Ex HR rfl T.AaP VR (Aa (pv 2) Ab)) Ab))) Ab))) Ab))))))))))),?_⟩
  have k2:(m=0∨n=0)→∀ H',FT r H H'→E (.ref t.Bm) none H':=fun g=>by
   unfold Yc at k0
   rw[if_pos (by omega)] at k0
   exact k0
  have k3:1≤m→1≤n→40<m+n→∀ H',FT r H H'→E (.ref t.BR) none H':=fun g1 g2 g3=>by
   unfold Yc at k0
   rw[if_neg (by omega),if_pos g3] at k0
   exact k0
  refine⟨_,rfl,_,_,rfl,rfl,_,rfl,?_⟩
  refine Ey (fun c1=>?_) (fun c1=>?_)
  ·refine Px ?_
   exact⟨by decide,k2 (.inl (by omega)) _ (fun b o _ e=>e)⟩
  ·refine⟨_,rfl,_,_,rfl,rfl,_,rfl,?_⟩
   refine Ey (fun c2=>?_) (fun c2=>?_)
   ·exact⟨by decide,k2 (.inr (by omega)) _ (fun b o _ e=>e)⟩
   ·refine⟨_,rfl,_,rfl,_,_,rfl,rfl,?_⟩
    refine⟨_,rfl,_,rfl,m+n,m+n,rfl,fun c3=>?_,fun c3 H' s'=>k3 (by omega) (by omega) (by omega) _ (fun b o _ e=>s' b o e)⟩
    refine⟨_,rfl,[35],(m:Int),(by rw[Age]),rfl,(by omega),(by omega),(big (by simp only [Ars,Arv];omega)),?_⟩
    refine⟨_,rfl,[46],(n:Int),(by rw[AeB]),rfl,(by omega),(by omega),(big (by simp only [Ars,Arv];omega)),?_⟩
    rw[Ar7,Ar7,rep1,rep1]
    refine⟨_,_,rfl,rfl,(by rw[Ah,Ah];exact big (by rw[ArL,ArL];omega)),?_⟩
    rw[Dj,show List.replicate m 35++List.replicate n 46=Aci m n from rfl]
    obtain⟨N,hN⟩:∃ N,N=m+n:=⟨_,rfl⟩
    refine⟨_,rfl,_,rfl,(by show -(2 ^ 62)≤(m:Int)+(n:Int);omega),(by show(m:Int)+(n:Int)<2 ^ 62;omega),?_⟩
    rw[show((m:Int)+(n:Int)).toNat=m+n by omega]
    refine Kv (lo:=0) (n:=m+n) (fun i ys H2=>H2=H∧ys=vS ((List.range i).map (twT m n))) ⟨rfl,rfl⟩ ?_ ?_ ?_ ?_
    ·rintro i ys H2 hi ⟨rfl,rfl⟩
     rw[Bj,Arq,ArH]
     exact Art _
    ·exact big (by omega)
    ·rintro i ys H2 hi ⟨rfl,rfl⟩
     refine Fq.no ?_
     have fl:=@Af7 m n
     refine⟨_,rfl,_,rfl,_,rfl,_,_,rfl,rfl,_,rfl,Aci m n,rfl,big (by omega),?_⟩
     rw[show(m:Int)+(n:Int)-(0+(i:Int))=((m+n-i:Nat):Int) by omega,Agf (by omega)]
     refine⟨_,rfl,_,rfl,_,rfl,_,_,rfl,rfl,_,rfl,Aci m n,rfl,big (by omega),?_⟩
     rw[show(m:Int)+(n:Int)-(0+(i:Int))=((m+n-i:Nat):Int) by omega,Ag8 (by omega)]
     refine⟨_,_,rfl,rfl,(by rw[Ah,Ah];exact big (by rw[ArM,Ar1];omega)),?_⟩
     rw[Dj,An7 hi]
     exact(CN.of hi ⟨rfl,by rw[Asi,Arz];exact Ei _ _⟩:CN (m+n) (fun i ys H3=>H3=H2∧ys=vS ((List.range i).map (twT m n))) i (vS ((List.range i).map (twT m n))++[.str (tx (twT m n i))]) H2)
    ·rintro ys H2 q ⟨rfl,rfl⟩ hq
     have hqr:r≠q:=Bu h1 hq
     refine⟨rfl,_,rfl,_,rfl,_,rfl,_,rfl,lg hm,_,rfl,_,rfl,lg hn,(by show 2≤sizeLine;decide),fun p hp=>?_⟩
     rw[Wc m,Wc n]
     have d1:=(dec_is hm).l2
     have d2:=(dec_is hn).l2
     have npq:q≠p:=fun z=>by rw[← z,Ad] at hp;cases hp
     have s1:Bg H2 (upd H2 q (.lst (vS ((List.range (m+n)).map (twT m n))))):=.upd hq
     have hq1:(upd H2 q (.lst (vS ((List.range (m+n)).map (twT m n))))) q=some (.lst (vS ((List.range (m+n)).map (twT m n)))):=Ad
     generalize upd H2 q (.lst (vS ((List.range (m+n)).map (twT m n))))=H3 at s1 hq1 hp ⊢
     have s2:Bg H3 (upd H3 p (.lst [.str (tx (dec m)),.str (tx (dec n))])):=.upd hp
     have hp2:(upd H3 p (.lst [.str (tx (dec m)),.str (tx (dec n))])) p=some (.lst (vS [dec m,dec n])):=Ad
     generalize upd H3 p (.lst [.str (tx (dec m)),.str (tx (dec n))])=H4 at s2 hp2 ⊢
     refine⟨p,twW,[dec m,dec n],(by rw[AeC];rfl),SqL.of hp2,(by simp),AkS (by decide) (by omega) (by omega),?_⟩
     refine⟨t.Dg,r,dx,q,(List.range (m+n)).map (twT m n),_,rfl,s2 _ _ (s1 _ _ h1),T.Ae0.c,T.Je,T.G7,SqL.of (s2 _ _ hq1),fun l hl=>?_⟩
     unfold Yc at k0
     rw[if_neg (by omega),if_neg (by omega)] at k0
     exact k0.fin (s1.trans s2) h1 hl
def AkU (K:PySem.W.Frag)(t:Adr):Sp:=fun vs H Q E=>∃(r dx:Addr) (m n:Nat),vs=[.ref r,.int (m:Int),.int (n:Int)]∧H r=some (.ins t.Dh dx [])∧m<100∧n<100∧Oi t t.Dh dx r H Q E (Yd m n) (wz saW [dec m,dec n])
theorem Yq(T:Txt K mg t):Aj P w K mg base (CX1 P w) 3 t.Ff t.Gy ["self", "size", "step"] (AkU K t):=by
 have Eu:Aj P w K mg base (CX1 P w) 2 t.Eo t.Ep _ _:=Jl T
 have Ahl:Aj P w K mg base CX0 2 t.Qf t.Qg _ _:=AfV T
 have Dc:Aj P w K mg base CX0 1 t.Ea t.Eb _ _:=Gk T
 have Az:Aj P w K mg base CX0 1 t.Bd t.Bs _ _:=BZ T
 refine T.Ux.F.okX O2 (fun vs H Q E h=>?_) (fun cdv A outer s H vs Q E hr h=>?_)
 ·obtain⟨r,dx,m,n,rfl,_⟩:=h
  rfl
 ·obtain⟨r,dx,m,n,rfl,h1,hm,hn,k0⟩:=h
  refine⟨_,(Ac (BK (PW.pt (pw_or (Ao R5 (pv 2) Ak (Ax _)) (pw_or (Ao AmA (pv 2) (pv 1) (Ax _)) (pw_or1 (QR (N7 (Aq (Ahl.mono (by decide)) hr rfl T.Zf.m T.Zf.F.kp T.Zf.b .nil An (Aa (pv 1) (Aa (pv 2) Ab)))))))))
    (Ae (Du Jr rfl (fun _ _ z=>z) PySem.F.excBase_ValueError GJ PySem.F.excBase_ValueError T.Cd.q rfl T.Ck (Aa Ag Ab)))
    Aw)
   (Ac (BJ (Aq (Eu.mono (by decide)) hr rfl T.Di.m T.Di.F.kp T.Di.b .nil Gv (Aa (pv 1) (Aa (pv 1) Ab))))
   (Ac (PS.nox (YF (i:=3) (DK.mk (Bp:=[1,2]) (Nc:=["y", "size", "step"]) rfl (by decide +kernel) (by decide +kernel) (Dy (sc0:=Af IK) rfl (by decide +kernel)) rfl rfl rfl (by decide +kernel) (fun k j h=>match k,h with | 0,h=>by obtain rfl:=Option.some.inj h;exact⟨_,rfl,rfl,rfl⟩ | 1,h=>by obtain rfl:=Option.some.inj h;exact⟨_,rfl,rfl,rfl⟩ | _+2,h=>by simp at h)) rfl O2.nd rfl rfl (Iu rfl T.Nx (Aa (pv 1) Ab)) (fun _ _ _ _ _=>.nil) (fun _ _ _ _ _=>(Bv R4 (Bv VJ (pv 0) (pv 2)) (pv 1))) rfl))
   (Ac (PS.nox (YF (i:=4) (DK.mk (Bp:=[1]) (Nc:=["over", "size"]) rfl (by decide +kernel) (by decide +kernel) (Dy (sc0:=Af IK) rfl (by decide +kernel)) rfl rfl rfl (by decide +kernel) (fun k j h=>match k,h with | 0,h=>by obtain rfl:=Option.some.inj h;exact⟨_,rfl,rfl,rfl⟩ | _+1,h=>by simp at h)) rfl O2.nd rfl rfl (Ej (K:=K) (pv 3)) (fun _ _ _ _ _=>.nil) (fun _ _ _ _ _=>(Bv Bh (Bv Bh (Bv Xg Ag (pv 0)) Ag) (Bv Xg Ag (Bv AdU (Bv AdU (pv 1) Ak) (pv 0))))) rfl))
   (Ae (BJ (Li (Cv (v:=.ref t.Bc) rfl T.Km rfl) T.Jk (Az.mono (by decide)) hr T.BX.b .nil An (Aa (pv 0) (Aa (pv 4) (Aa (Aq (Dc.mono (by decide)) hr rfl T.written.m T.written.F.kp T.written.b .nil An (Aa Ag (Aa (Ez (Aa (Ex HR rfl T.AaP VR (Aa (pv 1) Ab)) (Aa (Ex HR rfl T.AaP VR (Aa (pv 2) Ab)) Ab))) Ab))) Ab)))))))))),?_⟩
  have k2:¬Pri m n→∀ H',FT r H H'→E (.ref t.Bm) none H':=fun g=>by
   unfold Yd at k0
   rw[if_pos g] at k0
   exact k0
  have k3:Pri m n→40<m→∀ H',FT r H H'→E (.ref t.BR) none H':=fun g1 g3=>by
   unfold Yd at k0
   rw[if_neg (fun z=>z g1),if_pos g3] at k0
   exact k0
  refine⟨_,rfl,_,_,rfl,rfl,_,rfl,?_⟩
  refine Ey (fun c1=>?_) (fun c1=>?_)
  ·refine Px ?_
   exact⟨by decide,k2 (fun z=>by have:=z.1;omega) _ (fun b o _ e=>e)⟩
  ·refine⟨_,rfl,_,rfl,_,_,rfl,rfl,_,rfl,?_⟩
   refine Ey (fun c2=>?_) (fun c2=>?_)
   ·exact⟨by decide,k2 (fun z=>by have:=z.2.1;omega) _ (fun b o _ e=>e)⟩
   ·refine⟨_,rfl,_,rfl,m,n,rfl,by omega,by omega,by omega,fun H1 s1=>?_⟩
    refine⟨_,rfl,?_⟩
    cases c3:cop m n n with
    | true =>
     refine Px ?_
     exact⟨by decide,k2 (fun z=>by have:=z.2.2;rw[c3] at this;cases this) _ (fun b o _ e=>s1 b o e)⟩
    | false =>
     refine Rk ?_
     have pr:Pri m n:=⟨by omega,by omega,c3⟩
     refine⟨_,rfl,_,rfl,m,m,rfl,fun c4=>?_,fun c4 H' s'=>k3 pr (by omega) _ (fun b o _ e=>s' b o (s1 b o e))⟩
     have h1':=s1 _ _ h1
     have m0:0<m:=by omega
     refine⟨_,rfl,_,rfl,(by omega),(by omega),?_⟩
     rw[Ar7]
     refine Kv (lo:=0) (n:=m) (fun i ys H2=>H2=H1∧ys=vI ((List.range i).map fun y=>((y*n%m:Nat):Int))) ⟨rfl,rfl⟩ ?_ ?_ ?_ ?_
     ·rintro i ys H2 hi ⟨rfl,rfl⟩
      rw[Kw,Arq,ArH]
      exact Art _
     ·exact big (by omega)
     ·rintro i ys H2 hi ⟨rfl,rfl⟩
      refine Fq.no ?_
      refine⟨_,rfl,_,rfl,_,_,rfl,rfl,(.inr ⟨by omega,by omega⟩),_,rfl,_,_,rfl,rfl,(by omega),?_⟩
      show CN _ _ _ (_++[V.int ((0+(i:Int))*(n:Int)%(m:Int))]) _
      rw[show(0+(i:Int))*(n:Int)%(m:Int)=((i*n%m:Nat):Int) by rw[Asd,← Asb,← Int.natCast_emod]]
      exact(CN.of hi ⟨rfl,by rw[Asi,Arz];exact Ag6 _ _⟩:CN m (fun i ys H3=>H3=H2∧ys=vI ((List.range i).map fun y=>((y*n%m:Nat):Int))) i (vI ((List.range i).map fun y=>((y*n%m:Nat):Int))++[.int ((i*n%m:Nat):Int)]) H2)
     ·rintro ys H2 q ⟨rfl,rfl⟩ hq
      have hqr:r≠q:=Bu h1' hq
      have e3:(upd H2 q (.lst (vI ((List.range m).map fun y=>((y*n%m:Nat):Int))))) q=some (.lst (vI ((List.range m).map fun y=>((y*n%m:Nat):Int)))):=Ad
      have s3:Bg H2 (upd H2 q (.lst (vI ((List.range m).map fun y=>((y*n%m:Nat):Int))))):=.upd hq
      generalize upd H2 q (.lst (vI ((List.range m).map fun y=>((y*n%m:Nat):Int))))=H3 at e3 s3 ⊢
      have h3:=s3 _ _ h1'
      refine⟨_,rfl,_,rfl,⟨_,SqL.of e3⟩,?_⟩
      refine Iv (K:=K) (a:=q) (xs:=vI ((List.range m).map fun y=>((y*n%m:Nat):Int))) (fun i ys H4=>H4=H3∧ys=vS ((List.range i).map (saT m n))) ⟨rfl,rfl⟩ ?_ ?_ ?_ ?_
      ·rintro i ys H4 hi ⟨rfl,rfl⟩
       refine⟨SqL.of e3,?_⟩
       rw[Bj,Arq,ArH]
       exact Art _
      ·rw[Kw,Arq,ArH]
       exact big (by omega)
      ·rintro i x ys H4 hi hx ⟨rfl,rfl⟩
       rw[Kw,Arq,ArH] at hi
       have ex:x=.int ((i*n%m:Nat):Int):=by
        unfold vI at hx
        rw[Ar6,Ar6,AsB hi] at hx
        exact(Option.some.inj hx).symm
       have lo:i*n%m<m:=Nat.mod_lt _ m0
       obtain⟨o,eo⟩:∃ o,o=i*n%m:=⟨_,rfl⟩
       rw[ex]
       rw[← eo] at lo ⊢
       refine Fq.no ?_
       refine⟨_,rfl,[46],(o:Int),(by rw[AeB]),rfl,(by omega),(by omega),(big (by simp only [Ars,Arv];omega)),?_⟩
       rw[Ar7,rep1,Age]
       refine⟨_,_,rfl,rfl,(by rw[Ah,Ah];exact big (by rw[ArL];simp only [Ars,Arv];omega)),?_⟩
       rw[Dj]
       refine⟨_,rfl,_,_,rfl,rfl,_,rfl,_,_,rfl,rfl,[46],((m-1-o:Nat):Int),(by rw[AeB]),?_,(by omega),(by omega),(big (by simp only [Ars,Arv];omega)),?_⟩
       ·show V.int ((m:Int)-1-(o:Int))=_
        rw[show(m:Int)-1-(o:Int)=((m-1-o:Nat):Int) by omega]
       rw[Ar7,rep1]
       refine⟨_,_,rfl,rfl,(by rw[Ah,Ah];exact big (by rw[Arp,ArL,ArL];simp only [Ars,Arv];omega)),?_⟩
       rw[Dj,An8 lo]
       rw[Kw,Arq,ArH]
       exact(CN.of hi ⟨rfl,by rw[Asi,Arz,eo];exact Ei _ _⟩:CN m (fun i ys H5=>H5=H4∧ys=vS ((List.range i).map (saT m n))) i (vS ((List.range i).map (saT m n))++[.str (tx (stT m o))]) H4)
      ·rintro ys H4 q2 ⟨rfl,rfl⟩ hq2
       rw[Kw,Arq,ArH]
       have Aro:r≠q2:=Bu h3 hq2
       refine⟨rfl,_,rfl,_,rfl,_,rfl,_,rfl,lg hm,_,rfl,_,rfl,lg hn,(by show 2≤sizeLine;decide),fun p hp=>?_⟩
       rw[Wc m,Wc n]
       have d1:=(dec_is hm).l2
       have d2:=(dec_is hn).l2
       have s4:Bg H4 (upd H4 q2 (.lst (vS ((List.range m).map (saT m n))))):=.upd hq2
       have hq4:(upd H4 q2 (.lst (vS ((List.range m).map (saT m n))))) q2=some (.lst (vS ((List.range m).map (saT m n)))):=Ad
       generalize upd H4 q2 (.lst (vS ((List.range m).map (saT m n))))=H5 at s4 hq4 hp ⊢
       have s5:Bg H5 (upd H5 p (.lst [.str (tx (dec m)),.str (tx (dec n))])):=.upd hp
       have hp5:(upd H5 p (.lst [.str (tx (dec m)),.str (tx (dec n))])) p=some (.lst (vS [dec m,dec n])):=Ad
       generalize upd H5 p (.lst [.str (tx (dec m)),.str (tx (dec n))])=H6 at s5 hp5 ⊢
       have u6:=((s1.trans s3).trans s4).trans s5
       refine⟨p,saW,[dec m,dec n],(by rw[AeD];rfl),SqL.of hp5,(by simp),AkS (by decide) (by omega) (by omega),?_⟩
       refine⟨t.Dh,r,dx,q2,(List.range m).map (saT m n),_,rfl,u6 _ _ h1,T.Ae1.c,T.Jf,T.G8,SqL.of (s5 _ _ hq4),fun l hl=>?_⟩
       unfold Yd at k0
       rw[if_neg (fun z=>z pr),if_neg (by omega)] at k0
       exact k0.fin u6 h1 hl
theorem Q5(T:Txt K mg t){H:Hp}{p:Addr}{x:List (List Nat)}{z:List Nat}{Q:VK}{E:XK}(hp:Pc t H p x z){m n:Nat}(C:Cl x m n)(k:Q (.int ((m:Nat):Int)) H):∃ a dx fs C,(V.ref p)=.ref a∧H a=some (.ins C dx fs)∧fs.lookup ("wide" : Str)=none∧Cls K C∧Meth K C "wide" t.Ar∧AhW t [.ref p] H Q E:=by
 obtain⟨D,dx,l,hC,h1,h2⟩:=id hp
 exact⟨p,dx,_,D,rfl,h1,(Ab0 _ _).1,(pcC T hC).c,(pcC T hC).wide,p,x,z,m,n,rfl,hp,C,k⟩
theorem Q6(T:Txt K mg t){H:Hp}{p:Addr}{x:List (List Nat)}{z:List Nat}{Q:VK}{E:XK}(hp:Pc t H p x z){m n:Nat}(C:Cl x m n)(k:Q (.int ((n:Nat):Int)) H):∃ a dx fs C,(V.ref p)=.ref a∧H a=some (.ins C dx fs)∧fs.lookup ("high" : Str)=none∧Cls K C∧Meth K C "high" t.Av∧AhX t [.ref p] H Q E:=by
 obtain⟨D,dx,l,hC,h1,h2⟩:=id hp
 exact⟨p,dx,_,D,rfl,h1,(Ab0 _ _).2.1,(pcC T hC).c,(pcC T hC).high,p,x,z,m,n,rfl,hp,C,k⟩
theorem Hh(T:Txt K mg t){H:Hp}{p:Addr}{x:List (List Nat)}{z:List Nat}{Q:VK}{E:XK}(hp:Pc t H p x z)(k:∀ l,H l=none→Q (.ref l) (upd H l (.lst (vS x)))):∃ a dx fs C,(V.ref p)=.ref a∧H a=some (.ins C dx fs)∧fs.lookup ("cloth" : Str)=none∧Cls K C∧Meth K C "cloth" t.Ai∧AfU t [.ref p] H Q E:=by
 obtain⟨D,dx,l,hC,h1,h2⟩:=id hp
 exact⟨p,dx,_,D,rfl,h1,(Ab0 _ _).2.2.2.1,(pcC T hC).c,(pcC T hC).Apg,p,x,z,rfl,hp,k⟩
theorem Jz(T:Txt K mg t){H:Hp}{p:Addr}{x:List (List Nat)}{z:List Nat}{Q:VK}{E:XK}(hp:Pc t H p x z)(k:Q (.str (tx z)) H):∃ a dx fs C,(V.ref p)=.ref a∧H a=some (.ins C dx fs)∧fs.lookup ("told" : Str)=none∧Cls K C∧Meth K C "told" t.Al∧AhY t [.ref p] H Q E:=by
 obtain⟨D,dx,l,hC,h1,h2⟩:=id hp
 exact⟨p,dx,_,D,rfl,h1,(Ab0 _ _).2.2.2.2,(pcC T hC).c,(pcC T hC).told,p,x,z,rfl,hp,k⟩
theorem Ab1:(("beside" : Str))=tx beW:=by decide +kernel
theorem Ab2:(("above" : Str))=tx abW:=by decide +kernel
theorem Ab3:(("mirror" : Str))=tx miW:=by decide +kernel
theorem Ab4:(("upend" : Str))=tx upW:=by decide +kernel
theorem Ab5:(("back" : Str))=tx baW:=by decide +kernel
theorem AhZ:(("quarter" : Str))=tx quW:=by decide +kernel
theorem Zy:(("tile" : Str))=tx tiW:=by decide +kernel
theorem Ab6:(("blocks" : Str))=tx blW:=by decide +kernel
theorem AeE:(("lay" : Str))=tx laW:=by decide +kernel
def Amx (t:Adr):Sp:=fun vs H Q E=>∃(p q:Addr) (x y:List (List Nat)) (zx zy:List Nat) (m n m' n':Nat),vs=[.ref p,.ref q]∧Pc t H p x zx∧Pc t H q y zy∧Cl x m n∧Cl y m' n'∧(m=m'∧n=n'→Q .non H)∧(¬(m=m'∧n=n')→E (.ref t.Bm) none H)
theorem Sw(T:Txt K mg t):Aj P w K mg base (CX1 P w) 2 t.Fl t.Fo ["one", "other"] (Amx t):=by
 have Dr:Aj P w K mg base CX0 1 t.Ar t.Fy _ _:=Nk T
 have Dt:Aj P w K mg base CX0 1 t.Av t.Fz _ _:=Nm T
 have Br:Aj P w K mg base CX0 1 t.Ai t.Cm _ _:=Dv T
 have Bw:Aj P w K mg base CX0 1 t.Al t.Cw _ _:=DQ T
 refine T.GZ.F.okX YT (fun vs H Q E h=>?_) (fun cdv A outer s H vs Q E hr h=>?_)
 ·obtain⟨p,q,x,y,zx,zy,m,n,m',n',rfl,_⟩:=h
  rfl
 ·obtain⟨p,q,x,y,zx,zy,m,n,m',n',rfl,hp,hq,C,D,k1,k2⟩:=h
  refine⟨_,(Ae (BK (PW.pt (pw_or (Ao Ui (Bl (K:=K) rfl (pv 0) (Dr.mono (by decide)) hr T.Es.b An) (Bl (K:=K) rfl (pv 1) (Dr.mono (by decide)) hr T.Es.b An) (Ax _)) (pw_or1 (Ao Ui (Bl (K:=K) rfl (pv 0) (Dt.mono (by decide)) hr T.Et.b An) (Bl (K:=K) rfl (pv 1) (Dt.mono (by decide)) hr T.Et.b An) (Ax _)))))
    (Ae (Du Jr rfl (fun _ _ z=>z) PySem.F.excBase_ValueError GJ PySem.F.excBase_ValueError T.Cd.q rfl T.Ck (Aa Ag Ab)))
    Aw)),?_⟩
  refine⟨_,rfl,Q5 T hp C ?_⟩
  refine⟨_,rfl,Q5 T hq D ?_⟩
  refine⟨rfl,_,rfl,?_⟩
  by_cases c1:m=m'
  ·refine Uj (by rw[c1]) ?_
   refine⟨_,rfl,Q6 T hp C ?_⟩
   refine⟨_,rfl,Q6 T hq D ?_⟩
   refine⟨rfl,_,rfl,?_⟩
   by_cases c2:n=n'
   ·refine Uj (by rw[c2]) ?_
    exact k1 ⟨c1,c2⟩
   ·refine Afp (fun z=>c2 (by injection z with z;omega)) ?_
    exact⟨by decide,k2 (fun z=>c2 z.2)⟩
  ·refine Afp (fun z=>c1 (by injection z with z;omega)) ?_
   exact Px ⟨by decide,k2 (fun z=>c1 z.1)⟩
def Ahm (K:PySem.W.Frag)(t:Adr)(C:Addr)(mk:List (List Nat)→List (List Nat)→Res)(wd:List Nat):Sp:=fun vs H Q E=>∃(r dx p q:Addr) (x y:List (List Nat)) (zx zy:List Nat),vs=[.ref r,.ref p,.ref q]∧H r=some (.ins C dx [])∧Pc t H p x zx∧Pc t H q y zy∧Clo x∧Clo y∧(wz wd [zx,zy]).length≤1000000∧Oi t C dx r H Q E (mk x y) (wz wd [zx,zy])
theorem X6(T:Txt K mg t):Aj P w K mg base (CX1 P w) 3 t.Ek t.FZ ["self", "one", "other"] (Ahm K t t.Cr UL beW):=by
 have Dr:Aj P w K mg base CX0 1 t.Ar t.Fy _ _:=Nk T
 have Dt:Aj P w K mg base CX0 1 t.Av t.Fz _ _:=Nm T
 have Br:Aj P w K mg base CX0 1 t.Ai t.Cm _ _:=Dv T
 have Bw:Aj P w K mg base CX0 1 t.Al t.Cw _ _:=DQ T
 have Dc:Aj P w K mg base CX0 1 t.Ea t.Eb _ _:=Gk T
 have Az:Aj P w K mg base CX0 1 t.Bd t.Bs _ _:=BZ T
 have Eu:Aj P w K mg base (CX1 P w) 2 t.Eo t.Ep _ _:=Jl T
 refine T.Tj.F.okX RM (fun vs H Q E h=>?_) (fun cdv A outer s H vs Q E hr h=>?_)
 ·obtain⟨r,dx,p,q,x,y,zx,zy,rfl,_⟩:=h
  rfl
 ·obtain⟨r,dx,p,q,x,y,zx,zy,rfl,h1,hp,hq,C,D,hw,k⟩:=h
  refine⟨_,(Ac (BK (Ao Ui (Bl (K:=K) rfl (pv 1) (Dt.mono (by decide)) hr T.Et.b An) (Bl (K:=K) rfl (pv 2) (Dt.mono (by decide)) hr T.Et.b An) (Ax _))
    (Ae (Du Jr rfl (fun _ _ z=>z) PySem.F.excBase_ValueError GJ PySem.F.excBase_ValueError T.Cd.q rfl T.Ck (Aa Ag Ab)))
    Aw)
   (Ac (BJ (Aq (Eu.mono (by decide)) hr rfl T.Di.m T.Di.F.kp T.Di.b .nil Gv (Aa (Bv U3 (Bl (K:=K) rfl (pv 1) (Dr.mono (by decide)) hr T.Es.b An) (Bl (K:=K) rfl (pv 2) (Dr.mono (by decide)) hr T.Es.b An)) (Aa (Bl (K:=K) rfl (pv 1) (Dt.mono (by decide)) hr T.Et.b An) Ab))))
   (Ac (PS.nox (AdK (K:=K) (i:=3) (Va.mk (Bp:=[]) (Nc:=["left", "right"]) rfl (by decide +kernel) (by decide +kernel) (Dy (sc0:=Af Kg) rfl (by decide +kernel)) rfl rfl rfl rfl rfl (by decide +kernel) (fun _ _ h=>by simp at h)) rfl RM.nd rfl rfl (Ah8 (K:=K) rfl T.AhS (Aa (Bl (K:=K) rfl (pv 1) (Br.mono (by decide)) hr T.Cp.b An) (Aa (Bl (K:=K) rfl (pv 2) (Br.mono (by decide)) hr T.Cp.b An) Ab))) (fun _ _ _ _ _=>.nil) (fun _ _ _ _ _=>(Bv Bh (pv 0) (pv 1))) rfl))
   (Ae (BJ (Li (Cv (v:=.ref t.Bc) rfl T.Km rfl) T.Jk (Az.mono (by decide)) hr T.BX.b .nil An (Aa (pv 0) (Aa (pv 3) (Aa (Aq (Dc.mono (by decide)) hr rfl T.written.m T.written.F.kp T.written.b .nil An (Aa Ag (Aa (Ez (Aa (Bl (K:=K) rfl (pv 1) (Bw.mono (by decide)) hr T.Cz.b An) (Aa (Bl (K:=K) rfl (pv 2) (Bw.mono (by decide)) hr T.Cz.b An) Ab))) Ab))) Ab))))))))),?_⟩
  have x40:=C.n40
  have Rt:=C.m40
  have AnX:=D.m40
  unfold UL at k
  refine⟨_,rfl,Q6 T hp C ?_⟩
  refine⟨_,rfl,Q6 T hq D ?_⟩
  refine⟨rfl,_,rfl,?_⟩
  by_cases c1:x.length=y.length
  case neg =>
   rw[if_pos c1] at k
   refine Afp (fun z=>c1 (by injection z with z;omega)) ?_
   exact⟨by decide,k _ (Jm (.refl _))⟩
  rw[if_neg (fun z=>z c1)] at k
  refine Uj (by rw[c1]) ?_
  refine⟨_,rfl,Q5 T hp C ?_⟩
  refine⟨_,rfl,Q5 T hq D ?_⟩
  refine⟨_,_,rfl,rfl,?_⟩
  refine⟨_,rfl,Q6 T hp C ?_⟩
  refine⟨wdt x+wdt y,x.length,rfl,fun c2=>?_,fun c2 H' s'=>?_⟩
  case' refine_2 =>
   rw[if_pos c2] at k
   exact k _ (Jm s')
  rw[if_neg (by omega)] at k
  refine⟨_,rfl,Hh T hp fun l1 nl1=>?_⟩
  have s1:Bg H (upd H l1 (.lst (vS x))):=.upd nl1
  have hl1:(upd H l1 (.lst (vS x))) l1=some (.lst (vS x)):=Ad
  generalize upd H l1 (.lst (vS x))=H1 at s1 hl1 ⊢
  refine⟨_,rfl,Hh T (hq.mono s1) fun l2 nl2=>?_⟩
  have s2:Bg H1 (upd H1 l2 (.lst (vS y))):=.upd nl2
  have hl2:(upd H1 l2 (.lst (vS y))) l2=some (.lst (vS y)):=Ad
  generalize upd H1 l2 (.lst (vS y))=H2 at s2 hl2 ⊢
  have hl1:=s2 _ _ hl1
  refine⟨.l l1,.l l2,rfl,trivial,⟨_,SqL.of hl1⟩,⟨_,SqL.of hl2⟩,?_⟩
  have zl:(List.zipWith (·++·) x y).length=x.length:=by rw[Asz,← c1,ArO]
  refine AfC (n:=x.length) (fun i=>.str (tx (x.getD i []))) (fun i=>.str (tx (y.getD i []))) (fun i ys H8=>Bg H2 H8∧ys=vS ((List.zipWith (·++·) x y).take i)) ⟨.refl _,rfl⟩ ?_ ?_ ?_ ?_ ?_ ?_ ?_
  ·rintro i ys H8 hi ⟨s8,rfl⟩
   rw[Bj,Ar1]
   omega
  ·exact CG x40
  ·rintro i ys H8 hi ⟨s8,_⟩
   have e:x.getD i []=x[i]:=by simp[List.getD,hi]
   exact⟨_,SqL.of (s8 _ _ hl1),by rw[e];exact Aei (Aru hi)⟩
  ·rintro i ys H8 hi ⟨s8,_⟩
   have hi2:i<y.length:=by omega
   have e:y.getD i []=y[i]:=by simp[List.getD,hi2]
   exact⟨_,SqL.of (s8 _ _ hl2),by rw[e];exact Aei (Aru hi2)⟩
  ·rintro ys H8 ⟨s8,_⟩
   exact⟨⟨_,SqL.of (s8 _ _ hl1)⟩,⟨_,SqL.of (s8 _ _ hl2)⟩,.inl ⟨_,SqL.of (s8 _ _ hl1),by rw[Bj]⟩⟩
  ·rintro i ys H8 T8 hi ⟨s8,rfl⟩ nT8
   have hi2:i<y.length:=by omega
   have e1:x.getD i []=x[i]:=by simp[List.getD,hi]
   have e2:y.getD i []=y[i]:=by simp[List.getD,hi2]
   have w1:=C.hm _ (ArG hi)
   have w2:=D.hm _ (ArG hi2)
   refine Fq.no ?_
   rw[e1,e2]
   refine⟨_,rfl,_,rfl,_,_,rfl,rfl,(by rw[Ah,Ah,w1,w2];exact big (by omega)),?_⟩
   rw[Dj]
   refine CN.of hi ⟨s8.new nT8,?_⟩
   rw[Ei,Ar5,List.getElem?_zipWith,Aru hi,Aru hi2]
   rfl
  ·rintro ys H8 l8 ⟨s8,rfl⟩ nl8
   rw[ArS (by rw[zl];exact Art _)]
   have u8:=((s1.trans s2).trans s8).new (o:=.lst (vS (List.zipWith (·++·) x y))) nl8
   have hl8:(upd H8 l8 (.lst (vS (List.zipWith (·++·) x y)))) l8=some (.lst (vS (List.zipWith (·++·) x y))):=Ad
   generalize upd H8 l8 (.lst (vS (List.zipWith (·++·) x y)))=H9 at u8 hl8 ⊢
   refine⟨rfl,_,rfl,_,rfl,_,rfl,Jz T (hp.mono u8) ?_⟩
   refine⟨_,rfl,Jz T (hq.mono u8) ?_⟩
   refine⟨(by show 2≤sizeLine;decide),fun p9 np9=>?_⟩
   have v9:Bg H9 (upd H9 p9 (.lst (vS [zx,zy]))):=.upd np9
   have hp9:(upd H9 p9 (.lst (vS [zx,zy]))) p9=some (.lst (vS [zx,zy])):=Ad
   rw[show(upd H9 p9 (.lst [V.str (tx zx),V.str (tx zy)]))=upd H9 p9 (.lst (vS [zx,zy])) from rfl]
   generalize upd H9 p9 (.lst (vS [zx,zy]))=Ha at v9 hp9 ⊢
   refine⟨p9,beW,[zx,zy],(by rw[Ab1];rfl),SqL.of hp9,(by simp),hw,?_⟩
   refine⟨t.Cr,r,dx,l8,_,_,rfl,(u8.trans v9) _ _ h1,T.Acx.c,T.HD,T.Ge,SqL.of (v9 _ _ hl8),fun l hl=>?_⟩
   exact k.fin (u8.trans v9) h1 hl
theorem Yr(T:Txt K mg t):Aj P w K mg base (CX1 P w) 3 t.Fg t.Gz ["self", "one", "other"] (Ahm K t t.Dk Ye abW):=by
 have Dr:Aj P w K mg base CX0 1 t.Ar t.Fy _ _:=Nk T
 have Dt:Aj P w K mg base CX0 1 t.Av t.Fz _ _:=Nm T
 have Br:Aj P w K mg base CX0 1 t.Ai t.Cm _ _:=Dv T
 have Bw:Aj P w K mg base CX0 1 t.Al t.Cw _ _:=DQ T
 have Dc:Aj P w K mg base CX0 1 t.Ea t.Eb _ _:=Gk T
 have Az:Aj P w K mg base CX0 1 t.Bd t.Bs _ _:=BZ T
 have Eu:Aj P w K mg base (CX1 P w) 2 t.Eo t.Ep _ _:=Jl T
 refine T.Uy.F.okX Zd (fun vs H Q E h=>?_) (fun cdv A outer s H vs Q E hr h=>?_)
 ·obtain⟨r,dx,p,q,x,y,zx,zy,rfl,_⟩:=h
  rfl
 ·obtain⟨r,dx,p,q,x,y,zx,zy,rfl,h1,hp,hq,C,D,hw,k⟩:=h
  refine⟨_,(Ac (BK (Ao Ui (Bl (K:=K) rfl (pv 1) (Dr.mono (by decide)) hr T.Es.b An) (Bl (K:=K) rfl (pv 2) (Dr.mono (by decide)) hr T.Es.b An) (Ax _))
    (Ae (Du Jr rfl (fun _ _ z=>z) PySem.F.excBase_ValueError GJ PySem.F.excBase_ValueError T.Cd.q rfl T.Ck (Aa Ag Ab)))
    Aw)
   (Ac (BJ (Aq (Eu.mono (by decide)) hr rfl T.Di.m T.Di.F.kp T.Di.b .nil Gv (Aa (Bl (K:=K) rfl (pv 1) (Dr.mono (by decide)) hr T.Es.b An) (Aa (Bv U3 (Bl (K:=K) rfl (pv 1) (Dt.mono (by decide)) hr T.Et.b An) (Bl (K:=K) rfl (pv 2) (Dt.mono (by decide)) hr T.Et.b An)) Ab))))
   (Ae (BJ (Li (Cv (v:=.ref t.Bc) rfl T.Km rfl) T.Jk (Az.mono (by decide)) hr T.BX.b .nil An (Aa (pv 0) (Aa (Bv Aj4 (Bl (K:=K) rfl (pv 1) (Br.mono (by decide)) hr T.Cp.b An) (Bl (K:=K) rfl (pv 2) (Br.mono (by decide)) hr T.Cp.b An)) (Aa (Aq (Dc.mono (by decide)) hr rfl T.written.m T.written.F.kp T.written.b .nil An (Aa Ag (Aa (Ez (Aa (Bl (K:=K) rfl (pv 1) (Bw.mono (by decide)) hr T.Cz.b An) (Aa (Bl (K:=K) rfl (pv 2) (Bw.mono (by decide)) hr T.Cz.b An) Ab))) Ab))) Ab)))))))),?_⟩
  have x40:=C.n40
  have y40:=D.n40
  unfold Ye at k
  refine⟨_,rfl,Q5 T hp C ?_⟩
  refine⟨_,rfl,Q5 T hq D ?_⟩
  refine⟨rfl,_,rfl,?_⟩
  by_cases c1:wdt x=wdt y
  case neg =>
   rw[if_pos c1] at k
   refine Afp (fun z=>c1 (by injection z with z;omega)) ?_
   exact⟨by decide,k _ (Jm (.refl _))⟩
  rw[if_neg (fun z=>z c1)] at k
  refine Uj (by rw[c1]) ?_
  refine⟨_,rfl,Q5 T hp C ?_⟩
  refine⟨_,rfl,Q6 T hp C ?_⟩
  refine⟨_,rfl,Q6 T hq D ?_⟩
  refine⟨_,_,rfl,rfl,?_⟩
  refine⟨wdt x,x.length+y.length,rfl,fun c2=>?_,fun c2 H' s'=>?_⟩
  case' refine_2 =>
   rw[if_pos c2] at k
   exact k _ (Jm s')
  rw[if_neg (by omega)] at k
  refine⟨rfl,_,rfl,_,rfl,Hh T hp fun l1 nl1=>?_⟩
  have s1:Bg H (upd H l1 (.lst (vS x))):=.upd nl1
  have hl1:(upd H l1 (.lst (vS x))) l1=some (.lst (vS x)):=Ad
  generalize upd H l1 (.lst (vS x))=H1 at s1 hl1 ⊢
  refine⟨_,rfl,Hh T (hq.mono s1) fun l2 nl2=>?_⟩
  have s2:Bg H1 (upd H1 l2 (.lst (vS y))):=.upd nl2
  have hl2:(upd H1 l2 (.lst (vS y))) l2=some (.lst (vS y)):=Ad
  generalize upd H1 l2 (.lst (vS y))=H2 at s2 hl2 ⊢
  have hl1:=s2 _ _ hl1
  refine⟨_,_,_,_,rfl,rfl,hl1,hl2,(by rw[Bj,Bj];exact big (by omega)),fun l8 nl8=>?_⟩
  rw[show vS x++vS y=vS (x++y) by unfold vS;rw[Arz]]
  have u8:=(s1.trans s2).new (o:=.lst (vS (x++y))) nl8
  have hl8:(upd H2 l8 (.lst (vS (x++y)))) l8=some (.lst (vS (x++y))):=Ad
  generalize upd H2 l8 (.lst (vS (x++y)))=H9 at u8 hl8 ⊢
  refine⟨_,rfl,Jz T (hp.mono u8) ?_⟩
  refine⟨_,rfl,Jz T (hq.mono u8) ?_⟩
  refine⟨(by show 2≤sizeLine;decide),fun p9 np9=>?_⟩
  have v9:Bg H9 (upd H9 p9 (.lst (vS [zx,zy]))):=.upd np9
  have hp9:(upd H9 p9 (.lst (vS [zx,zy]))) p9=some (.lst (vS [zx,zy])):=Ad
  rw[show(upd H9 p9 (.lst [V.str (tx zx),V.str (tx zy)]))=upd H9 p9 (.lst (vS [zx,zy])) from rfl]
  generalize upd H9 p9 (.lst (vS [zx,zy]))=Ha at v9 hp9 ⊢
  refine⟨p9,abW,[zx,zy],(by rw[Ab2];rfl),SqL.of hp9,(by simp),hw,?_⟩
  refine⟨t.Dk,r,dx,l8,_,_,rfl,(u8.trans v9) _ _ h1,T.Ae2.c,T.Jg,T.G9,SqL.of (v9 _ _ hl8),fun l hl=>?_⟩
  exact k.fin (u8.trans v9) h1 hl
def AeF (K:PySem.W.Frag)(t:Adr)(C:Addr)(wd:List Nat)(mk:List (List Nat)→List (List Nat)):Sp:=fun vs H Q E=>∃(r dx p:Addr) (x:List (List Nat)) (zx:List Nat),vs=[.ref r,.ref p]∧H r=some (.ins C dx [])∧Pc t H p x zx∧Clo x∧(wz wd [zx]).length≤1000000∧Oi t C dx r H Q E (.ok (mk x)) (wz wd [zx])
theorem Ys(T:Txt K mg t):Aj P w K mg base CX0 3 t.El t.Ga ["self", "inner"] (AeF K t t.Cu miW (List.map List.reverse)):=by
 have Br:Aj P w K mg base CX0 1 t.Ai t.Cm _ _:=Dv T
 have Bw:Aj P w K mg base CX0 1 t.Al t.Cw _ _:=DQ T
 have Dc:Aj P w K mg base CX0 1 t.Ea t.Eb _ _:=Gk T
 have Az:Aj P w K mg base CX0 1 t.Bd t.Bs _ _:=BZ T
 refine T.Tn.F.ok RN (fun vs H Q E h=>?_) (fun cdv A outer s H vs Q E hr h=>?_)
 ·obtain⟨r,dx,p,x,zx,rfl,_⟩:=h
  rfl
 ·obtain⟨r,dx,p,x,zx,rfl,h1,hp,C,hw,k⟩:=h
  refine⟨_,(Ac (YF (i:=2) (DK.mk (Bp:=[]) (Nc:=["text"]) rfl (by decide +kernel) (by decide +kernel) (Dy (sc0:=Af Kh) rfl (by decide +kernel)) rfl rfl rfl (by decide +kernel) (fun _ _ h=>by simp at h)) rfl RN.nd rfl rfl (Ej (K:=K) (Bl (K:=K) rfl (pv 1) (Br.mono (by decide)) hr T.Cp.b An)) (fun _ _ _ _ _=>.nil) (fun _ _ _ _ _=>(Gs (K:=K) PySem.F.plainAttrs_str PySem.F.slot_str_join PySem.F.type_str_join AbX Ag (Aa (Ex AaM rfl T.Qq QD (Aa (pv 0) Ab)) Ab))) rfl)
   (Ae (BJ (Li (Cv (v:=.ref t.Bc) rfl T.Km rfl) T.Jk (Az.mono (by decide)) hr T.BX.b .nil An (Aa (pv 0) (Aa (pv 2) (Aa (Aq (Dc.mono (by decide)) hr rfl T.written.m T.written.F.kp T.written.b .nil An (Aa Ag (Aa (Ez (Aa (Bl (K:=K) rfl (pv 1) (Bw.mono (by decide)) hr T.Cz.b An) Ab)) Ab))) Ab))))))),?_⟩
  have x40:=C.n40
  have Rt:=C.m40
  refine⟨_,rfl,Hh T hp fun l1 nl1=>?_⟩
  have s1:Bg H (upd H l1 (.lst (vS x))):=.upd nl1
  have hl1:(upd H l1 (.lst (vS x))) l1=some (.lst (vS x)):=Ad
  generalize upd H l1 (.lst (vS x))=H1 at s1 hl1 ⊢
  refine⟨_,rfl,⟨_,SqL.of hl1⟩,Iv (K:=K) (a:=l1) (xs:=vS x) (fun i ys H2=>Bg H1 H2∧ys=vS ((x.take i).map List.reverse)) ⟨.refl _,rfl⟩ ?_ ?_ ?_ ?_⟩
  ·rintro i ys H2 hi ⟨s2,rfl⟩
   refine⟨SqL.of (s2 _ _ hl1),?_⟩
   rw[Bj,Arq,Ar1]
   omega
  ·rw[Bj];exact CG x40
  ·rintro i xv ys H2 hi hx ⟨s2,rfl⟩
   obtain⟨u,hu,rfl⟩:=Mr hx
   have hul:=C.hm u (ArE hu)
   refine Fq.no ?_
   refine⟨rfl,_,rfl,_,rfl,(by rw[Ah,hul];exact CG Rt),fun q hq=>?_⟩
   refine⟨_,_,q,rfl,rfl,Ad,(by decide +kernel),(by rw[Ah];omega),?_⟩
   rw[Kc,show(("" : Str))=tx [] from by decide +kernel,show(u.reverse.map fun c=>(⟨#[c]⟩:Str))=(u.reverse.map fun c=>[c]).map tx by rw[Aso];rfl,Nq]
   have e2:(u.reverse.map fun c=>[c]).flatten=u.reverse:=(YG id u.reverse).trans (Asc _)
   rw[e2]
   refine CN.of hi ⟨(s2.new hq).over (s2.free hq),?_⟩
   rw[Ei,Ar5,hu,Arz]
   rfl
  rintro ys H2 l8 ⟨s2,rfl⟩ nl8
  rw[Bj,ArI]
  have u8:=(s1.trans s2).new (o:=.lst (vS (x.map List.reverse))) nl8
  have hl8:(upd H2 l8 (.lst (vS (x.map List.reverse)))) l8=some (.lst (vS (x.map List.reverse))):=Ad
  generalize upd H2 l8 (.lst (vS (x.map List.reverse)))=H9 at u8 hl8 ⊢
  refine⟨rfl,_,rfl,_,rfl,?_⟩
  refine⟨_,rfl,Jz T (hp.mono u8) ?_⟩
  refine⟨(by show 1≤sizeLine;decide),fun p9 np9=>?_⟩
  have v9:Bg H9 (upd H9 p9 (.lst (vS [zx]))):=.upd np9
  have hp9:(upd H9 p9 (.lst (vS [zx]))) p9=some (.lst (vS [zx])):=Ad
  rw[show(upd H9 p9 (.lst [V.str (tx zx)]))=upd H9 p9 (.lst (vS [zx])) from rfl]
  generalize upd H9 p9 (.lst (vS [zx]))=Ha at v9 hp9 ⊢
  refine⟨p9,miW,[zx],(by rw[Ab3];rfl),SqL.of hp9,(by simp),hw,?_⟩
  refine⟨t.Cu,r,dx,l8,_,_,rfl,(u8.trans v9) _ _ h1,T.Acy.c,T.HF,T.Gf,SqL.of (v9 _ _ hl8),fun l hl=>?_⟩
  exact k.fin (u8.trans v9) h1 hl
theorem Zz(T:Txt K mg t):Aj P w K mg base CX0 3 t.Fi t.G3 ["self", "inner"] (AeF K t t.Dl upW List.reverse):=by
 have Br:Aj P w K mg base CX0 1 t.Ai t.Cm _ _:=Dv T
 have Bw:Aj P w K mg base CX0 1 t.Al t.Cw _ _:=DQ T
 have Dc:Aj P w K mg base CX0 1 t.Ea t.Eb _ _:=Gk T
 have Az:Aj P w K mg base CX0 1 t.Bd t.Bs _ _:=BZ T
 refine T.Uz.F.ok Ze (fun vs H Q E h=>?_) (fun cdv A outer s H vs Q E hr h=>?_)
 ·obtain⟨r,dx,p,x,zx,rfl,_⟩:=h
  rfl
 ·obtain⟨r,dx,p,x,zx,rfl,h1,hp,C,hw,k⟩:=h
  refine⟨_,(Ae (BJ (Li (Cv (v:=.ref t.Bc) rfl T.Km rfl) T.Jk (Az.mono (by decide)) hr T.BX.b .nil An (Aa (pv 0) (Aa (Ace (K:=K) rfl T.Wr rfl T.Qq (Bl (K:=K) rfl (pv 1) (Br.mono (by decide)) hr T.Cp.b An)) (Aa (Aq (Dc.mono (by decide)) hr rfl T.written.m T.written.F.kp T.written.b .nil An (Aa Ag (Aa (Ez (Aa (Bl (K:=K) rfl (pv 1) (Bw.mono (by decide)) hr T.Cz.b An) Ab)) Ab))) Ab)))))),?_⟩
  have x40:=C.n40
  have Rt:=C.m40
  refine⟨rfl,_,rfl,_,rfl,Hh T hp fun l1 nl1=>?_⟩
  have s1:Bg H (upd H l1 (.lst (vS x))):=.upd nl1
  have hl1:(upd H l1 (.lst (vS x))) l1=some (.lst (vS x)):=Ad
  generalize upd H l1 (.lst (vS x))=H1 at s1 hl1 ⊢
  refine⟨l1,vS x,rfl,SqL.of hl1,(by rw[Bj];omega),fun l8 nl8=>?_⟩
  rw[show(vS x).reverse=vS x.reverse by unfold vS;rw[List.map_reverse]]
  have u8:=s1.new (o:=.lst (vS x.reverse)) nl8
  have hl8:(upd H1 l8 (.lst (vS x.reverse))) l8=some (.lst (vS x.reverse)):=Ad
  generalize upd H1 l8 (.lst (vS x.reverse))=H9 at u8 hl8 ⊢
  refine⟨_,rfl,Jz T (hp.mono u8) ?_⟩
  refine⟨(by show 1≤sizeLine;decide),fun p9 np9=>?_⟩
  have v9:Bg H9 (upd H9 p9 (.lst (vS [zx]))):=.upd np9
  have hp9:(upd H9 p9 (.lst (vS [zx]))) p9=some (.lst (vS [zx])):=Ad
  rw[show(upd H9 p9 (.lst [V.str (tx zx)]))=upd H9 p9 (.lst (vS [zx])) from rfl]
  generalize upd H9 p9 (.lst (vS [zx]))=Ha at v9 hp9 ⊢
  refine⟨p9,upW,[zx],(by rw[Ab4];rfl),SqL.of hp9,(by simp),hw,?_⟩
  refine⟨t.Dl,r,dx,l8,_,_,rfl,(u8.trans v9) _ _ h1,T.Ae3.c,T.Jh,T.GC,SqL.of (v9 _ _ hl8),fun l hl=>?_⟩
  exact k.fin (u8.trans v9) h1 hl
theorem Aam(T:Txt K mg t):Aj P w K mg base CX0 6 t.Gi t.Hn ["self", "inner"] (AeF K t t.Eg baW back):=by
 have Br:Aj P w K mg base CX0 1 t.Ai t.Cm _ _:=Dv T
 have Bw:Aj P w K mg base CX0 1 t.Al t.Cw _ _:=DQ T
 have Dc:Aj P w K mg base CX0 1 t.Ea t.Eb _ _:=Gk T
 have Az:Aj P w K mg base CX0 1 t.Bd t.Bs _ _:=BZ T
 have Ajl:Aj P w K mg base CX0 4 t.Ru t.Rv _ _:=Ahg T
 refine T.V8.F.ok Aac (fun vs H Q E h=>?_) (fun cdv A outer s H vs Q E hr h=>?_)
 ·obtain⟨r,dx,p,x,zx,rfl,_⟩:=h
  rfl
 ·obtain⟨r,dx,p,x,zx,rfl,h1,hp,C,hw,k⟩:=h
  refine⟨_,(Ae (BJ (Li (Cv (v:=.ref t.Bc) rfl T.Km rfl) T.Jk (Az.mono (by decide)) hr T.BX.b .nil An (Aa (pv 0) (Aa (Aq (Ajl.mono (by decide)) hr rfl T.Abv.m T.Abv.F.kp T.Abv.b .nil An (Aa (Bl (K:=K) rfl (pv 1) (Br.mono (by decide)) hr T.Cp.b An) Ab)) (Aa (Aq (Dc.mono (by decide)) hr rfl T.written.m T.written.F.kp T.written.b .nil An (Aa Ag (Aa (Ez (Aa (Bl (K:=K) rfl (pv 1) (Bw.mono (by decide)) hr T.Cz.b An) Ab)) Ab))) Ab)))))),?_⟩
  have x40:=C.n40
  have Rt:=C.m40
  refine⟨rfl,_,rfl,_,rfl,Hh T hp fun l1 nl1=>?_⟩
  have s1:Bg H (upd H l1 (.lst (vS x))):=.upd nl1
  have hl1:(upd H l1 (.lst (vS x))) l1=some (.lst (vS x)):=Ad
  generalize upd H l1 (.lst (vS x))=H1 at s1 hl1 ⊢
  refine⟨l1,x,wdt x,x.length,rfl,SqL.of hl1,C,fun l8 H9 s9 nl8 hl8=>?_⟩
  have u8:=s1.trans s9
  refine⟨_,rfl,Jz T (hp.mono u8) ?_⟩
  refine⟨(by show 1≤sizeLine;decide),fun p9 np9=>?_⟩
  have v9:Bg H9 (upd H9 p9 (.lst (vS [zx]))):=.upd np9
  have hp9:(upd H9 p9 (.lst (vS [zx]))) p9=some (.lst (vS [zx])):=Ad
  rw[show(upd H9 p9 (.lst [V.str (tx zx)]))=upd H9 p9 (.lst (vS [zx])) from rfl]
  generalize upd H9 p9 (.lst (vS [zx]))=Ha at v9 hp9 ⊢
  refine⟨p9,baW,[zx],(by rw[Ab5];rfl),SqL.of hp9,(by simp),hw,?_⟩
  refine⟨t.Eg,r,dx,l8,_,_,rfl,(u8.trans v9) _ _ h1,T.AgZ.c,T.JR,T.HH,SqL.of (v9 _ _ hl8),fun l hl=>?_⟩
  exact k.fin (u8.trans v9) h1 hl
theorem X7(T:Txt K mg t):Aj P w K mg base CX0 6 t.DY t.Fj ["self", "inner"] (AeF K t t.BW quW (fun x=>YL x (wdt x))):=by
 have Br:Aj P w K mg base CX0 1 t.Ai t.Cm _ _:=Dv T
 have Bw:Aj P w K mg base CX0 1 t.Al t.Cw _ _:=DQ T
 have Dc:Aj P w K mg base CX0 1 t.Ea t.Eb _ _:=Gk T
 have Az:Aj P w K mg base CX0 1 t.Bd t.Bs _ _:=BZ T
 have AeG:Aj P w K mg base CX0 4 t.Ln t.Lp _ _:=Adp T
 refine T.Sq.F.ok X5 (fun vs H Q E h=>?_) (fun cdv A outer s H vs Q E hr h=>?_)
 ·obtain⟨r,dx,p,x,zx,rfl,_⟩:=h
  rfl
 ·obtain⟨r,dx,p,x,zx,rfl,h1,hp,C,hw,k⟩:=h
  refine⟨_,(Ae (BJ (Li (Cv (v:=.ref t.Bc) rfl T.Km rfl) T.Jk (Az.mono (by decide)) hr T.BX.b .nil An (Aa (pv 0) (Aa (Aq (AeG.mono (by decide)) hr rfl T.Vl.m T.Vl.F.kp T.Vl.b .nil An (Aa (Bl (K:=K) rfl (pv 1) (Br.mono (by decide)) hr T.Cp.b An) Ab)) (Aa (Aq (Dc.mono (by decide)) hr rfl T.written.m T.written.F.kp T.written.b .nil An (Aa Ag (Aa (Ez (Aa (Bl (K:=K) rfl (pv 1) (Bw.mono (by decide)) hr T.Cz.b An) Ab)) Ab))) Ab)))))),?_⟩
  have x40:=C.n40
  have Rt:=C.m40
  refine⟨rfl,_,rfl,_,rfl,Hh T hp fun l1 nl1=>?_⟩
  have s1:Bg H (upd H l1 (.lst (vS x))):=.upd nl1
  have hl1:(upd H l1 (.lst (vS x))) l1=some (.lst (vS x)):=Ad
  generalize upd H l1 (.lst (vS x))=H1 at s1 hl1 ⊢
  refine⟨l1,x,wdt x,x.length,rfl,SqL.of hl1,C,fun l8 H9 s9 nl8 hl8=>?_⟩
  have u8:=s1.trans s9
  refine⟨_,rfl,Jz T (hp.mono u8) ?_⟩
  refine⟨(by show 1≤sizeLine;decide),fun p9 np9=>?_⟩
  have v9:Bg H9 (upd H9 p9 (.lst (vS [zx]))):=.upd np9
  have hp9:(upd H9 p9 (.lst (vS [zx]))) p9=some (.lst (vS [zx])):=Ad
  rw[show(upd H9 p9 (.lst [V.str (tx zx)]))=upd H9 p9 (.lst (vS [zx])) from rfl]
  generalize upd H9 p9 (.lst (vS [zx]))=Ha at v9 hp9 ⊢
  refine⟨p9,quW,[zx],(by rw[AhZ];rfl),SqL.of hp9,(by simp),hw,?_⟩
  refine⟨t.BW,r,dx,l8,_,_,rfl,(u8.trans v9) _ _ h1,T.Aaf.c,T.GD,T.Fp,SqL.of (v9 _ _ hl8),fun l hl=>?_⟩
  exact k.fin (u8.trans v9) h1 hl
def Amy (K:PySem.W.Frag)(t:Adr):Sp:=fun vs H Q E=>∃(r dx p:Addr) (x:List (List Nat)) (zx:List Nat) (a b:Nat),vs=[.ref r,.ref p,.int (a:Int),.int (b:Int)]∧H r=some (.ins t.DX dx [])∧Pc t H p x zx∧Clo x∧a<100∧b<100∧(wz tiW [zx,dec a,dec b]).length≤1000000∧Oi t t.DX dx r H Q E (Acj x a b) (wz tiW [zx,dec a,dec b])
theorem Z0(T:Txt K mg t):Aj P w K mg base (CX1 P w) 6 t.Gj t.Ho ["self", "inner", "across", "along"] (Amy K t):=by
 have Br:Aj P w K mg base CX0 1 t.Ai t.Cm _ _:=Dv T
 have Bw:Aj P w K mg base CX0 1 t.Al t.Cw _ _:=DQ T
 have Dc:Aj P w K mg base CX0 1 t.Ea t.Eb _ _:=Gk T
 have Az:Aj P w K mg base CX0 1 t.Bd t.Bs _ _:=BZ T
 have Amz:Aj P w K mg base (CX1 P w) 4 t.Xo t.Xp _ _:=AkQ T
 refine T.V9.F.okX Up (fun vs H Q E h=>?_) (fun cdv A outer s H vs Q E hr h=>?_)
 ·obtain⟨r,dx,p,x,zx,a,b,rfl,_⟩:=h
  rfl
 ·obtain⟨r,dx,p,x,zx,a,b,rfl,h1,hp,C,ha,hb,hw,k⟩:=h
  refine⟨_,(Ac (BK (PW.pt (pw_or (Ao R5 (pv 2) Ak (Ax _)) (pw_or1 (Ao R5 (pv 3) Ak (Ax _)))))
    (Ae (Du Jr rfl (fun _ _ z=>z) PySem.F.excBase_ValueError GJ PySem.F.excBase_ValueError T.Cd.q rfl T.Ck (Aa Ag Ab)))
    Aw)
   (Ac (BP (i:=4) Up.nd rfl (Or.inl rfl) (Aq (Amz.mono (by decide)) hr rfl T.AhR.m T.AhR.F.kp T.AhR.b .nil Gv (Aa (Bl (K:=K) rfl (pv 1) (Br.mono (by decide)) hr T.Cp.b An) (Aa (pv 2) (Aa (pv 3) Ab)))))
   (Ae (BJ (Li (Cv (v:=.ref t.Bc) rfl T.Km rfl) T.Jk (Az.mono (by decide)) hr T.BX.b .nil An (Aa (pv 0) (Aa (pv 4) (Aa (Aq (Dc.mono (by decide)) hr rfl T.written.m T.written.F.kp T.written.b .nil An (Aa Ag (Aa (Ez (Aa (Bl (K:=K) rfl (pv 1) (Bw.mono (by decide)) hr T.Cz.b An) (Aa (Ex HR rfl T.AaP VR (Aa (pv 2) Ab)) (Aa (Ex HR rfl T.AaP VR (Aa (pv 3) Ab)) Ab)))) Ab))) Ab)))))))),?_⟩
  unfold Acj at k
  have fin:(a<1∨b<1)→∀ H',FT r H H'→E (.ref t.Bm) none H':=fun g=>by
   rw[if_pos g] at k
   exact k
  refine⟨_,rfl,_,_,rfl,rfl,_,rfl,?_⟩
  refine Ey (fun c1=>?_) (fun c1=>?_)
  ·exact Px ⟨by decide,fin (.inl (by omega)) _ (Jm (.refl _))⟩
  refine⟨_,rfl,_,_,rfl,rfl,_,rfl,?_⟩
  refine Ey (fun c2=>?_) (fun c2=>?_)
  ·exact⟨by decide,fin (.inr (by omega)) _ (Jm (.refl _))⟩
  rw[if_neg (by omega)] at k
  refine⟨_,rfl,Hh T hp fun l1 nl1=>?_⟩
  have s1:Bg H (upd H l1 (.lst (vS x))):=.upd nl1
  have hl1:(upd H l1 (.lst (vS x))) l1=some (.lst (vS x)):=Ad
  generalize upd H l1 (.lst (vS x))=H1 at s1 hl1 ⊢
  have e1:((wdt x:Nat):Int)*(a:Int)=((wdt x*a:Nat):Int):=by rw[Asb]
  have e2:((x.length:Nat):Int)*(b:Int)=((x.length*b:Nat):Int):=by rw[Asb]
  refine⟨_,rfl,_,rfl,l1,x,wdt x,x.length,(a:Int),(b:Int),rfl,SqL.of hl1,C,(by omega),(by omega),fun c3 l8 H9 s9 nl8 hl8=>?_,fun c3 H' s'=>?_⟩
  case' refine_2 =>
   rw[e1,e2] at c3
   rw[if_pos (by omega)] at k
   exact k _ (Jm (s1.trans s'))
  rw[e1,e2] at c3
  rw[if_neg (by omega)] at k
  rw[Ar7,Ar7] at hl8
  have u8:=s1.trans s9
  refine⟨rfl,_,rfl,_,rfl,_,rfl,Jz T (hp.mono u8) ?_⟩
  refine⟨_,rfl,_,rfl,lg ha,_,rfl,_,rfl,lg hb,?_⟩
  rw[Wc a,Wc b]
  refine⟨(by show 3≤sizeLine;decide),fun p9 np9=>?_⟩
  have v9:Bg H9 (upd H9 p9 (.lst (vS [zx,dec a,dec b]))):=.upd np9
  have hp9:(upd H9 p9 (.lst (vS [zx,dec a,dec b]))) p9=some (.lst (vS [zx,dec a,dec b])):=Ad
  rw[show(upd H9 p9 (.lst [V.str (tx zx),V.str (tx (dec a)),V.str (tx (dec b))]))=upd H9 p9 (.lst (vS [zx,dec a,dec b])) from rfl]
  generalize upd H9 p9 (.lst (vS [zx,dec a,dec b]))=Ha at v9 hp9 ⊢
  refine⟨p9,tiW,[zx,dec a,dec b],(by rw[Zy];rfl),SqL.of hp9,(by simp),hw,?_⟩
  refine⟨t.DX,r,dx,l8,_,_,rfl,(u8.trans v9) _ _ h1,T.Ahb.c,T.JS,T.HJ,SqL.of (v9 _ _ hl8),fun l hl=>?_⟩
  exact k.fin (u8.trans v9) h1 hl
def AnY (K:PySem.W.Frag)(t:Adr):Sp:=fun vs H Q E=>∃(r dx o p q:Addr) (v x y:List (List Nat)) (zv zx zy:List Nat),vs=[.ref r,.ref o,.ref p,.ref q]∧H r=some (.ins t.Cj dx [])∧Pc t H o v zv∧Pc t H p x zx∧Pc t H q y zy∧Clo v∧Clo x∧Clo y∧(wz blW [zv,zx,zy]).length≤1000000∧Oi t t.Cj dx r H Q E (UT v x y) (wz blW [zv,zx,zy])
theorem X8(T:Txt K mg t):Aj P w K mg base (CX1 P w) 7 t.Em t.Gb ["self", "profile", "one", "other"] (AnY K t):=by
 have Br:Aj P w K mg base CX0 1 t.Ai t.Cm _ _:=Dv T
 have Bw:Aj P w K mg base CX0 1 t.Al t.Cw _ _:=DQ T
 have Dc:Aj P w K mg base CX0 1 t.Ea t.Eb _ _:=Gk T
 have Az:Aj P w K mg base CX0 1 t.Bd t.Bs _ _:=BZ T
 have Abi:Aj P w K mg base (CX1 P w) 5 t.Hs t.Ht _ _:=Aaj T
 have Qs:Aj P w K mg base (CX1 P w) 2 t.Fl t.Fo _ _:=Sw T
 refine T.Tp.F.okX RP (fun vs H Q E h=>?_) (fun cdv A outer s H vs Q E hr h=>?_)
 ·obtain⟨r,dx,o,p,q,v,x,y,zv,zx,zy,rfl,_⟩:=h
  rfl
 ·obtain⟨r,dx,o,p,q,v,x,y,zv,zx,zy,rfl,h1,ho,hp,hq,B,C,D,hw,k⟩:=h
  refine⟨_,(Ac (BJ (Aq (Qs.mono (by decide)) hr rfl T.GZ.m T.GZ.F.kp T.GZ.b .nil Gv (Aa (pv 2) (Aa (pv 3) Ab))))
   (Ac (BP (i:=4) RP.nd rfl (Or.inl rfl) (Aq (Abi.mono (by decide)) hr rfl T.Q0.m T.Q0.F.kp T.Q0.b .nil Gv (Aa (Bl (K:=K) rfl (pv 1) (Br.mono (by decide)) hr T.Cp.b An) (Aa (Bl (K:=K) rfl (pv 2) (Br.mono (by decide)) hr T.Cp.b An) (Aa (Bl (K:=K) rfl (pv 3) (Br.mono (by decide)) hr T.Cp.b An) Ab)))))
   (Ae (BJ (Li (Cv (v:=.ref t.Bc) rfl T.Km rfl) T.Jk (Az.mono (by decide)) hr T.BX.b .nil An (Aa (pv 0) (Aa (pv 4) (Aa (Aq (Dc.mono (by decide)) hr rfl T.written.m T.written.F.kp T.written.b .nil An (Aa Ag (Aa (Ez (Aa (Bl (K:=K) rfl (pv 1) (Bw.mono (by decide)) hr T.Cz.b An) (Aa (Bl (K:=K) rfl (pv 2) (Bw.mono (by decide)) hr T.Cz.b An) (Aa (Bl (K:=K) rfl (pv 3) (Bw.mono (by decide)) hr T.Cz.b An) Ab)))) Ab))) Ab)))))))),?_⟩
  unfold UT at k
  refine⟨_,rfl,_,rfl,p,q,x,y,zx,zy,wdt x,x.length,wdt y,y.length,rfl,hp,hq,C,D,fun c1=>?_,fun c1=>?_⟩
  case' refine_2 =>
   rw[if_pos (by omega)] at k
   exact k _ (Jm (.refl _))
  rw[if_neg (by omega)] at k
  refine⟨_,rfl,Hh T ho fun l1 nl1=>?_⟩
  have s1:Bg H (upd H l1 (.lst (vS v))):=.upd nl1
  have hl1:(upd H l1 (.lst (vS v))) l1=some (.lst (vS v)):=Ad
  generalize upd H l1 (.lst (vS v))=H1 at s1 hl1 ⊢
  refine⟨_,rfl,Hh T (hp.mono s1) fun l2 nl2=>?_⟩
  have s2:Bg H1 (upd H1 l2 (.lst (vS x))):=.upd nl2
  have hl2:(upd H1 l2 (.lst (vS x))) l2=some (.lst (vS x)):=Ad
  generalize upd H1 l2 (.lst (vS x))=H2 at s2 hl2 ⊢
  refine⟨_,rfl,Hh T (hq.mono (s1.trans s2)) fun l3 nl3=>?_⟩
  have s3:Bg H2 (upd H2 l3 (.lst (vS y))):=.upd nl3
  have hl3:(upd H2 l3 (.lst (vS y))) l3=some (.lst (vS y)):=Ad
  generalize upd H2 l3 (.lst (vS y))=H3 at s3 hl3 ⊢
  have u3:=(s1.trans s2).trans s3
  have D':Cl y (wdt x) x.length:=by rw[c1.1,c1.2];exact D
  refine⟨l1,l2,l3,v,x,y,wdt v,v.length,wdt x,x.length,rfl,SqL.of (s3 _ _ (s2 _ _ hl1)),SqL.of (s3 _ _ hl2),SqL.of hl3,B,C,D',fun c3 l8 H9 s9 nl8 hl8=>?_,fun c3 H' s'=>?_⟩
  case' refine_2 =>
   rw[if_pos (by omega)] at k
   exact k _ (Jm (u3.trans s'))
  rw[if_neg (by omega)] at k
  have u8:=u3.trans s9
  refine⟨rfl,_,rfl,_,rfl,_,rfl,Jz T (ho.mono u8) ?_⟩
  refine⟨_,rfl,Jz T (hp.mono u8) ?_⟩
  refine⟨_,rfl,Jz T (hq.mono u8) ?_⟩
  refine⟨(by show 3≤sizeLine;decide),fun p9 np9=>?_⟩
  have v9:Bg H9 (upd H9 p9 (.lst (vS [zv,zx,zy]))):=.upd np9
  have hp9:(upd H9 p9 (.lst (vS [zv,zx,zy]))) p9=some (.lst (vS [zv,zx,zy])):=Ad
  rw[show(upd H9 p9 (.lst [V.str (tx zv),V.str (tx zx),V.str (tx zy)]))=upd H9 p9 (.lst (vS [zv,zx,zy])) from rfl]
  generalize upd H9 p9 (.lst (vS [zv,zx,zy]))=Ha at v9 hp9 ⊢
  refine⟨p9,blW,[zv,zx,zy],(by rw[Ab6];rfl),SqL.of hp9,(by simp),hw,?_⟩
  refine⟨t.Cj,r,dx,l8,_,_,rfl,(u8.trans v9) _ _ h1,T.Acz.c,T.HN,T.Gg,SqL.of (v9 _ _ hl8),fun l hl=>?_⟩
  exact k.fin (u8.trans v9) h1 hl
theorem AkV(k:Nat):(List.replicate k [V.int 0,V.int 1]).flatten=vI (Ms k):=by
 unfold Ms
 induction k with
 | zero=>rfl
 | succ k ih =>
  rw[ArJ,ArB,ih,ArJ,ArB]
  rfl
theorem Aan(T:Txt K mg t):Aj P w K mg base (CX1 P w) 4 t.GK t.IV ["self", "upper", "lower"] (Ahm K t t.Hl AgJ laW):=by
 have Dr:Aj P w K mg base CX0 1 t.Ar t.Fy _ _:=Nk T
 have Dt:Aj P w K mg base CX0 1 t.Av t.Fz _ _:=Nm T
 have Br:Aj P w K mg base CX0 1 t.Ai t.Cm _ _:=Dv T
 have Bw:Aj P w K mg base CX0 1 t.Al t.Cw _ _:=DQ T
 have Dc:Aj P w K mg base CX0 1 t.Ea t.Eb _ _:=Gk T
 have Az:Aj P w K mg base CX0 1 t.Bd t.Bs _ _:=BZ T
 have Eu:Aj P w K mg base (CX1 P w) 2 t.Eo t.Ep _ _:=Jl T
 have Qs:Aj P w K mg base (CX1 P w) 2 t.Fl t.Fo _ _:=Sw T
 have Abj:Aj P w K mg base CX0 2 t.Hu t.Hv _ _:=Aal T
 refine T.Wz.F.okX V6 (fun vs H Q E h=>?_) (fun cdv A outer s H vs Q E hr h=>?_)
 ·obtain⟨r,dx,p,q,x,y,zx,zy,rfl,_⟩:=h
  rfl
 ·obtain⟨r,dx,p,q,x,y,zx,zy,rfl,h1,hp,hq,C,D,hw,k⟩:=h
  refine⟨_,(Ac (BJ (Aq (Qs.mono (by decide)) hr rfl T.GZ.m T.GZ.F.kp T.GZ.b .nil Gv (Aa (pv 1) (Aa (pv 2) Ab))))
   (Ac (BJ (Aq (Eu.mono (by decide)) hr rfl T.Di.m T.Di.F.kp T.Di.b .nil Gv (Aa (Bv VJ Ak (Bl (K:=K) rfl (pv 1) (Dr.mono (by decide)) hr T.Es.b An)) (Aa (Bv VJ Ak (Bl (K:=K) rfl (pv 1) (Dt.mono (by decide)) hr T.Et.b An)) Ab))))
   (Ac (BP (i:=3) V6.nd rfl (Or.inl rfl) (Aq (Abj.mono (by decide)) hr rfl T.Q3.m T.Q3.F.kp T.Q3.b .nil An (Aa (Ez (Aa (Bl (K:=K) rfl (pv 1) (Br.mono (by decide)) hr T.Cp.b An) (Aa (Bl (K:=K) rfl (pv 2) (Br.mono (by decide)) hr T.Cp.b An) Ab))) (Aa (Bv AbN (Ez (Aa Ak (Aa Ak Ab))) (Bl (K:=K) rfl (pv 1) (Dr.mono (by decide)) hr T.Es.b An)) (Aa (Bv AbN (Ez (Aa Ak (Aa Ak Ab))) (Bl (K:=K) rfl (pv 1) (Dt.mono (by decide)) hr T.Et.b An)) Ab)))))
   (Ae (BJ (Li (Cv (v:=.ref t.Bc) rfl T.Km rfl) T.Jk (Az.mono (by decide)) hr T.BX.b .nil An (Aa (pv 0) (Aa (pv 3) (Aa (Aq (Dc.mono (by decide)) hr rfl T.written.m T.written.F.kp T.written.b .nil An (Aa Ag (Aa (Ez (Aa (Bl (K:=K) rfl (pv 1) (Bw.mono (by decide)) hr T.Cz.b An) (Aa (Bl (K:=K) rfl (pv 2) (Bw.mono (by decide)) hr T.Cz.b An) Ab))) Ab))) Ab))))))))),?_⟩
  unfold AgJ at k
  have hsz:sizeLine=16777216:=sizeLine_eq
  refine⟨_,rfl,_,rfl,p,q,x,y,zx,zy,wdt x,x.length,wdt y,y.length,rfl,hp,hq,C,D,fun c1=>?_,fun c1=>?_⟩
  case' refine_2 =>
   rw[if_pos (by omega)] at k
   exact k _ (Jm (.refl _))
  rw[if_neg (by omega)] at k
  have Rt:=C.m40
  have x40:=C.n40
  refine⟨_,rfl,Q5 T hp C ?_⟩
  refine⟨_,_,rfl,rfl,.inl ⟨by decide,by decide⟩,?_⟩
  refine⟨_,rfl,Q6 T hp C ?_⟩
  refine⟨_,_,rfl,rfl,.inl ⟨by decide,by decide⟩,?_⟩
  refine⟨2*wdt x,2*x.length,(by rw[Asb,Asb];rfl),fun c2=>?_,fun c2 H' s'=>?_⟩
  case' refine_2 =>
   rw[if_pos c2] at k
   exact k _ (Jm s')
  rw[if_neg (by omega)] at k
  refine⟨_,rfl,Hh T hp fun l1 nl1=>?_⟩
  have s1:Bg H (upd H l1 (.lst (vS x))):=.upd nl1
  have hl1:(upd H l1 (.lst (vS x))) l1=some (.lst (vS x)):=Ad
  generalize upd H l1 (.lst (vS x))=H1 at s1 hl1 ⊢
  refine⟨_,rfl,Hh T (hq.mono s1) fun l2 nl2=>?_⟩
  have s2:Bg H1 (upd H1 l2 (.lst (vS y))):=.upd nl2
  have hl2:(upd H1 l2 (.lst (vS y))) l2=some (.lst (vS y)):=Ad
  generalize upd H1 l2 (.lst (vS y))=H2 at s2 hl2 ⊢
  refine⟨(by show 2≤sizeLine;decide),fun l3 nl3=>?_⟩
  have s3:Bg H2 (upd H2 l3 (.lst [V.ref l1,V.ref l2])):=.upd nl3
  have hl3:(upd H2 l3 (.lst [V.ref l1,V.ref l2])) l3=some (.lst [V.ref l1,V.ref l2]):=Ad
  generalize upd H2 l3 (.lst [V.ref l1,V.ref l2])=H3 at s3 hl3 ⊢
  refine⟨(by show 2≤sizeLine;decide),fun l4 nl4=>?_⟩
  have s4:Bg H3 (upd H3 l4 (.lst [V.int 0,V.int 1])):=.upd nl4
  have hl4:(upd H3 l4 (.lst [V.int 0,V.int 1])) l4=some (.lst [V.int 0,V.int 1]):=Ad
  generalize upd H3 l4 (.lst [V.int 0,V.int 1])=H4 at s4 hl4 ⊢
  have u4:=((s1.trans s2).trans s3).trans s4
  refine⟨_,rfl,Q5 T (hp.mono u4) C ?_⟩
  refine⟨_,_,_,rfl,rfl,hl4,(by omega),(by omega),(by rw[Ar7];show 2*_≤_;omega),fun l5 nl5=>?_⟩
  rw[Ar7,AkV]
  have s5:Bg H4 (upd H4 l5 (.lst (vI (Ms (wdt x))))):=.upd nl5
  have hl5:(upd H4 l5 (.lst (vI (Ms (wdt x))))) l5=some (.lst (vI (Ms (wdt x)))):=Ad
  generalize upd H4 l5 (.lst (vI (Ms (wdt x))))=H5 at s5 hl5 ⊢
  refine⟨(by show 2≤sizeLine;decide),fun l6 nl6=>?_⟩
  have s6:Bg H5 (upd H5 l6 (.lst [V.int 0,V.int 1])):=.upd nl6
  have hl6:(upd H5 l6 (.lst [V.int 0,V.int 1])) l6=some (.lst [V.int 0,V.int 1]):=Ad
  generalize upd H5 l6 (.lst [V.int 0,V.int 1])=H6 at s6 hl6 ⊢
  have u6:=(u4.trans s5).trans s6
  refine⟨_,rfl,Q6 T (hp.mono u6) C ?_⟩
  refine⟨_,_,_,rfl,rfl,hl6,(by omega),(by omega),(by rw[Ar7];show 2*_≤_;omega),fun l7 nl7=>?_⟩
  rw[Ar7,AkV]
  have s7:Bg H6 (upd H6 l7 (.lst (vI (Ms x.length)))):=.upd nl7
  have hl7:(upd H6 l7 (.lst (vI (Ms x.length)))) l7=some (.lst (vI (Ms x.length))):=Ad
  generalize upd H6 l7 (.lst (vI (Ms x.length)))=H7 at s7 hl7 ⊢
  have u7:=u6.trans s7
  have w3:Bg H3 H7:=((s4.trans s5).trans s6).trans s7
  have D':Cl y (wdt x) x.length:=by rw[c1.1,c1.2];exact D
  refine⟨l3,l5,l7,[l1,l2],[x,y],Ms (wdt x),Ms x.length,rfl,SqL.of (w3 _ _ hl3),⟨rfl,fun i a hi=>?_⟩,SqL.of ((s6.trans s7) _ _ hl5),SqL.of hl7,Akd C D' c2.1 c2.2,fun l8 H9 s9 nl8 hl8=>?_⟩
  ·rcases i with _ | _ | i
   ·cases hi
    exact SqL.of (w3 _ _ (s3 _ _ (s2 _ _ hl1)))
   ·cases hi
    exact SqL.of (w3 _ _ (s3 _ _ hl2))
   ·simp at hi
  have u8:=u7.trans s9
  refine⟨rfl,_,rfl,_,rfl,_,rfl,Jz T (hp.mono u8) ?_⟩
  refine⟨_,rfl,Jz T (hq.mono u8) ?_⟩
  refine⟨(by show 2≤sizeLine;decide),fun p9 np9=>?_⟩
  have v9:Bg H9 (upd H9 p9 (.lst (vS [zx,zy]))):=.upd np9
  have hp9:(upd H9 p9 (.lst (vS [zx,zy]))) p9=some (.lst (vS [zx,zy])):=Ad
  rw[show(upd H9 p9 (.lst [V.str (tx zx),V.str (tx zy)]))=upd H9 p9 (.lst (vS [zx,zy])) from rfl]
  generalize upd H9 p9 (.lst (vS [zx,zy]))=Ha at v9 hp9 ⊢
  refine⟨p9,laW,[zx,zy],(by rw[AeE];rfl),SqL.of hp9,(by simp),hw,?_⟩
  refine⟨t.Hl,r,dx,l8,_,_,rfl,(u8.trans v9) _ _ h1,T.Ak0.c,T.Ma,T.Jj,SqL.of (v9 _ _ hl8),fun l hl=>?_⟩
  exact k.fin (u8.trans v9) h1 hl
def Oc (t:Adr)(H:Hp)(Q:VK)(E:XK)(R:Res)(z:List Nat):Prop:=match R with
 | .ok x=>∀ p H',Bg H H'→Pc t (nw H H') p x z→Q (.ref p) H'
 | .no f=>∀ H',Bg H H'→E (.ref (rfa t f)) none H'
theorem AdQ{r dx C:Addr}{H H':Hp}(h1:H r=none)(h2:H dx=none)(s:FT r (upd (upd H dx (.own r)) r (.ins C dx [])) H'):Bg H H':=fun b o e=>by
 have n1:=Bu e h1
 refine s b o n1 ?_
 rw[Ba n1,Ba (Bu e h2)]
 exact e
theorem Aia{H H1 H2:Hp}(s:Bg H H1):∀ b o,nw H1 H2 b=some o→nw H H2 b=some o:=AfQ fun b e=>by
 cases e2:H b with
 | none=>rfl
 | some o=>rw[s _ _ e2] at e;cases e
theorem Oc.same{H H1:Hp}{Q:VK}{E:XK}{R:Res}{z:List Nat}(k:Oc t H Q E R z)(s:Bg H H1):Oc t H1 Q E R z:=by
 cases R with
 | ok x=>exact fun p H' s' hp=>k p H' (s.trans s') (hp.mono (Aia s))
 | no f=>exact fun H' s'=>k H' (s.trans s')
theorem Oc.make{C r dx:Addr}{H:Hp}{Q:VK}{E:XK}{R:Res}{z:List Nat}(k:Oc t H Q E R z)(hC:C∈pcs t)(h1:H r=none)(h2:H dx=none):Oi t C dx r (upd (upd H dx (.own r)) r (.ins C dx [])) (fun v H2=>v=.non∧Q (.ref r) H2) E R z:=by
 cases R with
 | ok x =>
  intro l H' sb hl hl' hr'
  have nl:H l=none:=by
   by_cases e1:l=r
   ·rw[e1];exact h1
   ·rw[Ba e1] at hl
    by_cases e2:l=dx
    ·rw[e2];exact h2
    ·rw[Ba e2] at hl;exact hl
  exact⟨rfl,k r H' (AdQ h1 h2 sb) ⟨C,dx,l,hC,by rw[XQ h1];exact hr',by rw[XQ nl];exact hl'⟩⟩
 | no f=>exact fun H' sb=>k H' (AdQ h1 h2 sb)
inductive AtA (t:Adr) (H:Hp):Arg→V→Prop
 | num {n:Nat}:AtA t H (.num n) (.int (n:Int))
 | run {r:List Nat}:AtA t H (.run r) (.str (tx r))
 | cl {x:List (List Nat)} {z:List Nat} {p:Addr}:Pc t H p x z→AtA t H (.cl x z) (.ref p)
theorem AtA.mono{H H':Hp}(s:∀ b o,H b=some o→H' b=some o){x:Arg}{v:V}(h:AtA t H x v):AtA t H' x v:=by
 cases h with
 | num=>exact .num
 | run=>exact .run
 | cl h=>exact .cl (h.mono s)
theorem Gp{r dx C:Addr}{H:Hp}(h1:H r=none)(h2:H dx=none):Bg H (upd (upd H dx (.own r)) r (.ins C dx [])):=fun b o e=>by
 rw[Ba (Bu e h1),Ba (Bu e h2)]
 exact e
theorem Mh:t.De∈pcs t∧t.DW∈pcs t∧t.Dg∈pcs t∧t.Dh∈pcs t∧t.Cr∈pcs t∧t.Dk∈pcs t∧t.Cu∈pcs t∧t.Dl∈pcs t∧t.Eg∈pcs t∧t.BW∈pcs t∧t.DX∈pcs t∧t.Cj∈pcs t∧t.Hl∈pcs t:=by
 simp[pcs]
def Apm (t:Adr):Sp:=fun vs H Q _=>∃(z zx:List Nat) (x:List (List Nat)) (p:Addr) (E:XK),vs=[.str (tx z),.ref p]∧(z=miW∨z=upW∨z=baW∨z=quW)∧Pc t H p x zx∧Clo x∧(wz z [zx]).length≤1000000∧Oc t H Q E (AgI z x) (wz z [zx])
theorem Np{a b:List Nat}(h:¬a=b):¬(V.str (tx a):V)=V.str (tx b):=fun z=>h (by injection z with z;exact R7 z)
theorem AcA(T:Txt K mg t):Aj P w K mg base CX0 8 t.JH t.JK ["word", "inner"] (Apm t):=by
 have Z1:Aj P w K mg base CX0 3 t.El t.Ga _ _:=Ys T
 have Aao:Aj P w K mg base CX0 3 t.Fi t.G3 _ _:=Zz T
 have Abk:Aj P w K mg base CX0 6 t.Gi t.Hn _ _:=Aam T
 have Yt:Aj P w K mg base CX0 6 t.DY t.Fj _ _:=X7 T
 refine T.Tg.F.ok Acq (fun vs H Q E h=>?_) (fun cdv A outer s H vs Q E hr h=>?_)
 ·obtain⟨z,zx,x,p,E',rfl,_⟩:=h
  rfl
 ·obtain⟨z,zx,x,p,E',rfl,hz,hp,C,hw,k⟩:=h
  refine⟨_,(Ac (BK (Ao Eh (pv 0) Ag (Ax _))
    (Ae (Bb (JZ T.Acy.m (Z1.mono (by decide)) hr rfl T.Akx T.Tn.b .nil An (Aa (pv 1) Ab))))
    Aw)
   (Ac (BK (Ao Eh (pv 0) Ag (Ax _))
    (Ae (Bb (JZ T.Ae3.m (Aao.mono (by decide)) hr rfl T.Amf T.Uz.b .nil An (Aa (pv 1) Ab))))
    Aw)
   (Ac (BK (Ao Eh (pv 0) Ag (Ax _))
    (Ae (Bb (JZ T.AgZ.m (Abk.mono (by decide)) hr rfl T.AnL T.V8.b .nil An (Aa (pv 1) Ab))))
    Aw)
   (Ae (Bb (JZ T.Aaf.m (Yt.mono (by decide)) hr rfl T.AiT T.Sq.b .nil An (Aa (pv 1) Ab))))))),?_⟩
  refine⟨_,rfl,rfl,_,rfl,?_⟩
  rw[Ab3]
  by_cases c1:z=miW
  ·subst c1
   refine GF rfl ?_
   exact⟨_,rfl,fun r dx hr1 hdx hne=>⟨r,dx,p,x,zx,rfl,Ad,hp.mono (Gp hr1 hdx),C,hw,Oc.make k Mh.2.2.2.2.2.2.1 hr1 hdx⟩⟩
  refine DN (Np c1) ?_
  refine⟨_,rfl,rfl,_,rfl,?_⟩
  rw[Ab4]
  by_cases c2:z=upW
  ·subst c2
   refine GF rfl ?_
   exact⟨_,rfl,fun r dx hr1 hdx hne=>⟨r,dx,p,x,zx,rfl,Ad,hp.mono (Gp hr1 hdx),C,hw,Oc.make k Mh.2.2.2.2.2.2.2.1 hr1 hdx⟩⟩
  refine DN (Np c2) ?_
  refine⟨_,rfl,rfl,_,rfl,?_⟩
  rw[Ab5]
  by_cases c3:z=baW
  ·subst c3
   refine GF rfl ?_
   exact⟨_,rfl,fun r dx hr1 hdx hne=>⟨r,dx,p,x,zx,rfl,Ad,hp.mono (Gp hr1 hdx),C,hw,Oc.make k Mh.2.2.2.2.2.2.2.2.1 hr1 hdx⟩⟩
  refine DN (Np c3) ?_
  have c4:z=quW:=by
   rcases hz with h | h | h | h
   ·exact absurd h c1
   ·exact absurd h c2
   ·exact absurd h c3
   ·exact h
  subst c4
  exact⟨_,rfl,fun r dx hr1 hdx hne=>⟨r,dx,p,x,zx,rfl,Ad,hp.mono (Gp hr1 hdx),C,hw,Oc.make k Mh.2.2.2.2.2.2.2.2.2.1 hr1 hdx⟩⟩
def Apn (t:Adr):Sp:=fun vs H Q E=>∃(z:List Nat) (a b:Arg) (va vb:V),vs=[.str (tx z),va,vb]∧¬z=Pat.QF∧Fit z [a,b]∧AtA t H a va∧AtA t H b vb∧(wz z [wrA a,wrA b]).length≤1000000∧Oc t H Q E (made z [a,b]) (wz z [wrA a,wrA b])
theorem Abl(T:Txt K mg t):Aj P w K mg base (CX1 P w) 6 t.JL t.JM ["word", "one", "other"] (Apn t):=by
 have Aap:Aj P w K mg base (CX1 P w) 3 t.Fe t.Gx _ _:=Yp T
 have Aaq:Aj P w K mg base (CX1 P w) 3 t.Ff t.Gy _ _:=Yq T
 have Z2:Aj P w K mg base (CX1 P w) 3 t.Ek t.FZ _ _:=X6 T
 have Aar:Aj P w K mg base (CX1 P w) 3 t.Fg t.Gz _ _:=Yr T
 have AcB:Aj P w K mg base (CX1 P w) 4 t.GK t.IV _ _:=Aan T
 refine T.Th.F.okX Acr (fun vs H Q E h=>?_) (fun cdv A outer s H vs Q E hr h=>?_)
 ·obtain⟨z,a,b,va,vb,rfl,_⟩:=h
  rfl
 ·obtain⟨z,a,b,va,vb,rfl,hz0,F,ha,hb,hw,k⟩:=h
  refine⟨_,(Ac (BK (Ao Eh (pv 0) Ag (Ax _))
    (Ae (Bb (JZ T.Ae0.m (Aap.mono (by decide)) hr rfl T.Amc T.Uw.b .nil Gv (Aa (pv 1) (Aa (pv 2) Ab)))))
    Aw)
   (Ac (BK (Ao Eh (pv 0) Ag (Ax _))
    (Ae (Bb (JZ T.Ae1.m (Aaq.mono (by decide)) hr rfl T.Amd T.Ux.b .nil Gv (Aa (pv 1) (Aa (pv 2) Ab)))))
    Aw)
   (Ac (BK (Ao Eh (pv 0) Ag (Ax _))
    (Ae (Bb (JZ T.Acx.m (Z2.mono (by decide)) hr rfl T.Akv T.Tj.b .nil Gv (Aa (pv 1) (Aa (pv 2) Ab)))))
    Aw)
   (Ac (BK (Ao Eh (pv 0) Ag (Ax _))
    (Ae (Bb (JZ T.Ae2.m (Aar.mono (by decide)) hr rfl T.Ame T.Uy.b .nil Gv (Aa (pv 1) (Aa (pv 2) Ab)))))
    Aw)
   (Ae (Bb (JZ T.Ak0.m (AcB.mono (by decide)) hr rfl T.Apc T.Wz.b .nil Gv (Aa (pv 1) (Aa (pv 2) Ab))))))))),?_⟩
  have both:(∃ m n,(z=twW∨z=saW)∧a=.num m∧b=.num n∧m<100∧n<100)∨∃ x zx y zy,(z=beW∨z=abW∨z=laW)∧a=.cl x zx∧b=.cl y zy∧Clo x∧Clo y:=by
   generalize has:[a,b]=as at F
   cases F with
   | rows h1 h2 h3=>exact absurd rfl hz0
   | nums w h1 h2=>cases has;exact .inl ⟨_,_,w,rfl,rfl,h1,h2⟩
   | one w h1=>cases has
   | two w h1 h2=>cases has;exact .inr ⟨_,_,_,_,w,rfl,rfl,h1,h2⟩
   | tile h1 h2 h3=>cases has
   | blk h1 h2 h3=>cases has
  rcases both with ⟨m,n,w,rfl,rfl,hm,hn⟩ | ⟨x,zx,y,zy,w,rfl,rfl,C,D⟩
  ·cases ha
   cases hb
   refine⟨_,rfl,rfl,_,rfl,?_⟩
   rw[AeC]
   by_cases c1:z=twW
   ·subst c1
    refine GF rfl ?_
    exact⟨_,rfl,_,rfl,fun r dx hr1 hdx hne=>⟨r,dx,m,n,rfl,Ad,hm,hn,Oc.make k Mh.2.2.1 hr1 hdx⟩⟩
   have c2:z=saW:=w.resolve_left c1
   subst c2
   refine DN (Np c1) ?_
   refine⟨_,rfl,rfl,_,rfl,?_⟩
   rw[AeD]
   refine GF rfl ?_
   exact⟨_,rfl,_,rfl,fun r dx hr1 hdx hne=>⟨r,dx,m,n,rfl,Ad,hm,hn,Oc.make k Mh.2.2.2.1 hr1 hdx⟩⟩
  ·obtain _ | _ | hp:=ha
   obtain _ | _ | hq:=hb
   have d1:¬z=twW:=by rcases w with rfl | rfl | rfl <;> decide
   have d2:¬z=saW:=by rcases w with rfl | rfl | rfl <;> decide
   refine⟨_,rfl,rfl,_,rfl,?_⟩
   rw[AeC]
   refine DN (Np d1) ?_
   refine⟨_,rfl,rfl,_,rfl,?_⟩
   rw[AeD]
   refine DN (Np d2) ?_
   refine⟨_,rfl,rfl,_,rfl,?_⟩
   rw[Ab1]
   by_cases c1:z=beW
   ·subst c1
    refine GF rfl ?_
    exact⟨_,rfl,_,rfl,fun r dx hr1 hdx hne=>⟨r,dx,_,_,x,y,zx,zy,rfl,Ad,hp.mono (Gp hr1 hdx),hq.mono (Gp hr1 hdx),C,D,hw,Oc.make k Mh.2.2.2.2.1 hr1 hdx⟩⟩
   refine DN (Np c1) ?_
   refine⟨_,rfl,rfl,_,rfl,?_⟩
   rw[Ab2]
   by_cases c2:z=abW
   ·subst c2
    refine GF rfl ?_
    exact⟨_,rfl,_,rfl,fun r dx hr1 hdx hne=>⟨r,dx,_,_,x,y,zx,zy,rfl,Ad,hp.mono (Gp hr1 hdx),hq.mono (Gp hr1 hdx),C,D,hw,Oc.make k Mh.2.2.2.2.2.1 hr1 hdx⟩⟩
   refine DN (Np c2) ?_
   have c3:z=laW:=(w.resolve_left c1).resolve_left c2
   subst c3
   exact⟨_,rfl,_,rfl,fun r dx hr1 hdx hne=>⟨r,dx,_,_,x,y,zx,zy,rfl,Ad,hp.mono (Gp hr1 hdx),hq.mono (Gp hr1 hdx),C,D,hw,Oc.make k Mh.2.2.2.2.2.2.2.2.2.2.2.2 hr1 hdx⟩⟩
def Apo (K:PySem.W.Frag)(t:Adr):Sp:=fun vs H Q E=>∃(z:List Nat) (a b c:Arg) (va vb vc:V) (l:Addr),vs=[.str (tx z),.ref l]∧SqL K H l [va,vb,vc]∧¬z=Pat.QF∧Fit z [a,b,c]∧AtA t H a va∧AtA t H b vb∧AtA t H c vc∧(wz z [wrA a,wrA b,wrA c]).length≤1000000∧Oc t H Q E (made z [a,b,c]) (wz z [wrA a,wrA b,wrA c])
theorem Z3(T:Txt K mg t):Aj P w K mg base (CX1 P w) 9 t.Hy t.Hz ["word", "things"] (Apo K t):=by
 have Abm:Aj P w K mg base (CX1 P w) 6 t.Gj t.Ho _ _:=Z0 T
 have Z4:Aj P w K mg base (CX1 P w) 7 t.Em t.Gb _ _:=X8 T
 refine T.Q4.F.okX Aaa (fun vs H Q E h=>?_) (fun cdv A outer s H vs Q E hr h=>?_)
 ·obtain⟨z,a,b,c,va,vb,vc,l,rfl,_⟩:=h
  rfl
 ·obtain⟨z,a,b,c,va,vb,vc,l,rfl,hl,hz0,F,ha,hb,hc,hw,k⟩:=h
  refine⟨_,(Ac (BK (Ao Eh (pv 0) Ag (Ax _))
    (Ae (Bb (JZ T.Ahb.m (Abm.mono (by decide)) hr rfl T.AnM T.V9.b .nil Gv (Aa (BL (Bo (K:=K)) (pv 1) Ak (fun _ _=>rfl)) (Aa (BL (Bo (K:=K)) (pv 1) Ak (fun _ _=>rfl)) (Aa (BL (Bo (K:=K)) (pv 1) Ak (fun _ _=>rfl)) Ab))))))
    Aw)
   (Ae (Bb (JZ T.Acz.m (Z4.mono (by decide)) hr rfl T.Akz T.Tp.b .nil Gv (Aa (BL (Bo (K:=K)) (pv 1) Ak (fun _ _=>rfl)) (Aa (BL (Bo (K:=K)) (pv 1) Ak (fun _ _=>rfl)) (Aa (BL (Bo (K:=K)) (pv 1) Ak (fun _ _=>rfl)) Ab))))))),?_⟩
  have a0:atI [va,vb,vc] 0=some va:=CZ (by decide) rfl
  have a1:atI [va,vb,vc] 1=some vb:=CZ (by decide) rfl
  have a2:atI [va,vb,vc] 2=some vc:=CZ (by decide) rfl
  have both:(∃ x zx m n,z=tiW∧a=.cl x zx∧b=.num m∧c=.num n∧Clo x∧m<100∧n<100)∨∃ v zv x zx y zy,z=blW∧a=.cl v zv∧b=.cl x zx∧c=.cl y zy∧Clo v∧Clo x∧Clo y:=by
   generalize has:[a,b,c]=as at F
   cases F with
   | rows h1 h2 h3=>exact absurd rfl hz0
   | nums w h1 h2=>cases has
   | one w h1=>cases has
   | two w h1 h2=>cases has
   | tile h1 h2 h3=>cases has;exact .inl ⟨_,_,_,_,rfl,rfl,rfl,rfl,h1,h2,h3⟩
   | blk h1 h2 h3=>cases has;exact .inr ⟨_,_,_,_,_,_,rfl,rfl,rfl,rfl,h1,h2,h3⟩
  refine⟨_,rfl,rfl,_,rfl,?_⟩
  rw[Zy]
  rcases both with ⟨x,zx,m,n,rfl,rfl,rfl,rfl,C,hm,hn⟩ | ⟨v,zv,x,zx,y,zy,rfl,rfl,rfl,rfl,B,C,D⟩
  ·obtain _ | _ | hp:=ha
   cases hb
   cases hc
   refine GF rfl ?_
   exact⟨_,rfl,_,_,_,_,rfl,rfl,hl,a0,_,rfl,_,_,_,_,rfl,rfl,hl,a1,_,rfl,_,_,_,_,rfl,rfl,hl,a2,fun r dx hr1 hdx hne=>⟨r,dx,_,x,zx,m,n,rfl,Ad,hp.mono (Gp hr1 hdx),C,hm,hn,hw,Oc.make k Mh.2.2.2.2.2.2.2.2.2.2.1 hr1 hdx⟩⟩
  ·obtain _ | _ | ho:=ha
   obtain _ | _ | hp:=hb
   obtain _ | _ | hq:=hc
   refine DN (Np (by decide)) ?_
   exact⟨_,rfl,_,_,_,_,rfl,rfl,hl,a0,_,rfl,_,_,_,_,rfl,rfl,hl,a1,_,rfl,_,_,_,_,rfl,rfl,hl,a2,fun r dx hr1 hdx hne=>⟨r,dx,_,_,_,v,x,y,zv,zx,zy,rfl,Ad,ho.mono (Gp hr1 hdx),hp.mono (Gp hr1 hdx),hq.mono (Gp hr1 hdx),B,C,D,hw,Oc.make k Mh.2.2.2.2.2.2.2.2.2.2.2.1 hr1 hdx⟩⟩
def Kn (H:Hp)(kp:Addr)(kn:Kns):Prop:=∃ as:List Addr,H kp=some (.lst (as.map V.ref))∧as.length=kn.length∧∀(i:Nat) (a:Addr) (p:List Nat × List (List Nat)),as[i]?=some a→kn[i]?=some p→∃ q,H a=some (.tup [.str (tx p.1),.ref q])∧H q=some (.lst (vS p.2))
theorem Kn.same{H H':Hp}{kp:Addr}{kn:Kns}(h:Kn H kp kn)(s:Bg H H'):Kn H' kp kn:=by
 obtain⟨as,h1,h2,h3⟩:=h
 refine⟨as,s _ _ h1,h2,fun i a p g1 g2=>?_⟩
 obtain⟨q,e1,e2⟩:=h3 i a p g1 g2
 exact⟨q,s _ _ e1,s _ _ e2⟩
def AkW (t:Adr):Sp:=fun vs H Q E=>∃(z:List Nat) (kp:Addr) (kn:Kns),vs=[.str (tx z),.ref kp]∧Kn H kp kn∧(∀ x q,known kn z=.ok x→H q=some (.lst (vS x))→Q (.ref q) H)∧(known kn z=.no .unk→E (.ref t.Dd) none H)
theorem Abn(T:Txt K mg t):Aj P w K mg base (CX1 P w) 1 t.JF t.JG ["name", "known"] (AkW t):=by
 refine T.Tf.F.okX RJ (fun vs H Q E h=>?_) (fun cdv A outer s H vs Q E hr h=>?_)
 ·obtain⟨z,kp,kn,rfl,_⟩:=h
  rfl
 ·obtain⟨z,kp,kn,rfl,⟨as,h1,h2,h3⟩,k1,k2⟩:=h
  refine⟨_,(Ac (PS.nox (JW PassesOwn.never rfl (Ej (K:=K) (pv 1)) (ZD rfl (J1 (Dq (i:=2) RJ.nd rfl (Or.inl rfl)) (J1 (Dq (i:=3) RJ.nd rfl (Or.inl rfl)) Xd)))
    (Ae (BK (Ao Eh (pv 2) (pv 0) (Ax _))
     (Ae (Bb (pv 3)))
     Aw))))
   (Ae (Du Jr rfl (fun _ _ z=>z) PySem.F.excBase_ValueError GJ PySem.F.excBase_ValueError T.AiQ.q rfl T.AiP (Aa Ag Ab)))),?_⟩
  refine⟨_,rfl,_,rfl,⟨_,SqL.of h1⟩,Q8 (K:=K) (a:=kp) (xs:=as.map V.ref) (fun i σ H2=>∃ v1 v2,σ=[some (.str (tx z)),some (.ref kp),v1,v2]∧H2=H∧∀ p∈kn.take i,¬p.1=z) ⟨none,none,rfl,rfl,fun p hp=>by simp at hp⟩ (fun i σ H2 _ ⟨_,_,_,e,_⟩=>by rw[e];exact SqL.of h1) ?_ ?_⟩
  ·rintro i xv σ H2 hx ⟨v1,v2,rfl,rfl,no⟩
   rw[Ar6] at hx
   cases ea:as[i]? with
   | none=>rw[ea] at hx;cases hx
   | some a =>
    rw[ea] at hx
    cases hx
    have hi:i<kn.length:=by rw[← h2];exact(List.getElem?_eq_some_iff.mp ea).1
    have ep:=Aru hi
    obtain⟨q,e1,e2⟩:=h3 i a _ ea ep
    refine⟨a,_,rfl,SqT.of e1,rfl,_,_,rfl,_,_,rfl,rfl,?_⟩
    refine⟨_,rfl,_,rfl,rfl,_,rfl,?_⟩
    by_cases c:kn[i].1=z
    ·refine GF (by rw[c]) ?_
     refine⟨_,rfl,k1 kn[i].2 q ?_ e2⟩
     unfold known
     have:kn.find? (fun p=>decide (p.1=z))=some kn[i]:=by
      rw[List.find?_eq_some_iff_getElem]
      refine⟨by simpa using c,i,hi,rfl,fun j hj=>?_⟩
      have:=no kn[j] (List.mem_iff_getElem?.mpr ⟨j,by rw[List.getElem?_take_of_lt hj];exact Aru (by omega)⟩)
      simpa using this
     rw[this]
    ·refine DN (Np c) ?_
     refine⟨_,_,rfl,rfl,fun p hp=>?_⟩
     rw[Ar5,ep] at hp
     rcases List.mem_append.mp hp with hp | hp
     ·exact no p hp
     ·rw[Option.toList_some,List.mem_singleton] at hp
      rw[hp]
      exact c
  ·rintro σ H2 ⟨v1,v2,rfl,rfl,no⟩
   rw[Arq,h2,ArI] at no
   refine⟨by decide,k2 ?_⟩
   unfold known
   have:kn.find? (fun p=>decide (p.1=z))=none:=List.find?_eq_none.mpr fun p hp=>by simpa using no p hp
   rw[this]
def AkX (t:Adr)(d:Nat):Sp:=fun vs H Q E=>∃(x:Nd) (v:V) (kp:Addr) (kn:Kns),vs=[v,.ref kp]∧Wd d x∧AtN H x v∧(wr d x).length≤1000000∧Kn H kp kn∧(∀ p∈kn,Clo p.2)∧Oc t H Q E (out kn d x) (wr d x)
def Agg (t:Adr)(H:Hp)(as:List Arg)(vs:List V):Prop:=vs.length=as.length∧∀(i:Nat) (a:Arg) (v:V),as[i]?=some a→vs[i]?=some v→AtA t H a v
theorem Agg.snoc{H:Hp}{ts:List Arg}{vs:List V}{x:Arg}{v:V}(h:Agg t H ts vs)(hx:AtA t H x v):Agg t H (ts++[x]) (vs++[v]):=by
 refine⟨by rw[Arp,Arp,h.1];rfl,fun i y w g1 g2=>?_⟩
 by_cases c:i<ts.length
 ·rw[Asn c] at g1
  rw[Asn (by rw[h.1];exact c)] at g2
  exact h.2 i y w g1 g2
 ·have e:i=ts.length:=by
   have:=(List.getElem?_eq_some_iff.mp g1).1
   rw[Arp,ArX] at this
   omega
  subst e
  rw[Asm (Art _),AsF] at g1
  rw[Asm (by rw[h.1];exact Art _),h.1,AsF] at g2
  cases g1
  cases g2
  exact hx
theorem Agg.mono{H H':Hp}(s:∀ b o,H b=some o→H' b=some o){ts:List Arg}{vs:List V}(h:Agg t H ts vs):Agg t H' ts vs:=⟨h.1,fun i x v g1 g2=>(h.2 i x v g1 g2).mono s⟩
theorem Aib{H H1 H2:Hp}(s:Bg H1 H2):∀ b o,nw H H1 b=some o→nw H H2 b=some o:=fun b o h=>by
 have g:=AaS h
 rw[XQ g.1]
 exact s _ _ g.2
theorem Agh{kn:Kns}{d:Nat}{z:List Nat}{ts:List Nd}:out kn (d+1) (.node z ts)=match args (out kn d) (wr d) ts with
  | .inl f=>.no f
  | .inr as=>made z as:=rfl
theorem Am0{d:Nat}{z:List Nat}{ts:List Nd}(h:Wd (d+1) (.node z ts)):1≤ts.length∧ts.length≤40∧(¬z=Pat.QF→ts.length≤3):=by
 cases h with
 | rows h1 h2 h3=>rw[Arq];exact⟨List.length_pos_iff.mpr h1,h2,fun c=>absurd rfl c⟩
 | nums w _ _=>exact⟨by simp,by simp,by simp⟩
 | one w _=>exact⟨by simp,by simp,by simp⟩
 | two w _ _=>exact⟨by simp,by simp,by simp⟩
 | tile _ _ _=>exact⟨by simp,by simp,by simp⟩
 | blk _ _ _=>exact⟨by simp,by simp,by simp⟩
theorem AkY{d:Nat}{z:List Nat}{ts:List Nd}(h:Wd (d+1) (.node z ts)){i:Nat}{x:Nd}(hx:ts[i]?=some x):(∃ n,x=.num n)∨(∃ r,x=.run r)∨Wd d x:=by
 cases h with
 | rows h1 h2 h3 =>
  rw[Ar6] at hx
  cases e:(_:List (List Nat))[i]? with
  | none=>rw[e] at hx;cases hx
  | some r=>rw[e] at hx;cases hx;exact .inr (.inl ⟨r,rfl⟩)
 | nums w _ _ =>
  rcases List.mem_cons.mp (ArE hx) with rfl | h
  ·exact .inl ⟨_,rfl⟩
  ·exact .inl ⟨_,List.mem_singleton.mp h⟩
 | one w h1=>rw[List.mem_singleton.mp (ArE hx)];exact .inr (.inr h1)
 | two w h1 h2 =>
  rcases List.mem_cons.mp (ArE hx) with rfl | h
  ·exact .inr (.inr h1)
  ·rw[List.mem_singleton.mp h];exact .inr (.inr h2)
 | tile h1 _ _ =>
  rcases List.mem_cons.mp (ArE hx) with rfl | h
  ·exact .inr (.inr h1)
  ·rcases List.mem_cons.mp h with rfl | h
   ·exact .inl ⟨_,rfl⟩
   ·exact .inl ⟨_,List.mem_singleton.mp h⟩
 | blk h1 h2 h3 =>
  rcases List.mem_cons.mp (ArE hx) with rfl | h
  ·exact .inr (.inr h1)
  ·rcases List.mem_cons.mp h with rfl | h
   ·exact .inr (.inr h2)
   ·rw[List.mem_singleton.mp h];exact .inr (.inr h3)
theorem AcC{d k:Nat}(hk:8≤k)(T:Txt K mg t)(Vt:Aj P w K mg base (CX1 P w) (k+1) t.HX t.HY ["node", "known"] (AkX t d)):Aj P w K mg base (CX1 P w) (k+2) t.HX t.HY ["node", "known"] (AkX t (d+1)):=by
 have Adt:Aj P w K mg base CX0 8 t.JH t.JK _ _:=AcA T
 have Adu:Aj P w K mg base (CX1 P w) 6 t.JL t.JM _ _:=Abl T
 have Abo:Aj P w K mg base (CX1 P w) 9 t.Hy t.Hz _ _:=Z3 T
 have Adv:Aj P w K mg base (CX1 P w) 1 t.JF t.JG _ _:=Abn T
 have Aas:Aj P w K mg base CX0 3 t.Fd t.Gw _ _:=Zw T
 have Abp:Aj P w K mg base (CX1 P w) 3 t.Gh t.Hm _ _:=Zx T
 refine T.NB.F.okX XM (fun vs H Q E h=>?_) (fun cdv A outer s H vs Q E hr h=>?_)
 ·obtain⟨x,v,kp,kn,rfl,_⟩:=h
  rfl
 ·obtain⟨x,v,kp,kn,rfl,W,hv,hw,hK,hC,k0⟩:=h
  refine⟨_,(Ac (BK (Ao Agv (BL (Gr (K:=K)) (pv 0) Ak (fun _ _=>rfl)) Py (Ax _))
    (Ae (Bb (JZ T.Aez.m (Aas.mono (by omega)) hr rfl T.Ama T.Uv.b .nil An (Aa (BL (Gr (K:=K)) (pv 0) Ak (fun _ _=>rfl)) (Aa (Aq (Adv.mono (by omega)) hr rfl T.Tf.m T.Tf.F.kp T.Tf.b .nil Gv (Aa (BL (Gr (K:=K)) (pv 0) Ak (fun _ _=>rfl)) (Aa (pv 1) Ab))) Ab)))))
    Aw)
   (Ac (Akr (i:=2) (E':=E) Jr (fun _ _ z=>z) (DK.mk (Bp:=[1]) (Nc:=["thing", "known"]) rfl (by decide +kernel) (by decide +kernel) (Dy (sc0:=Af Ro) rfl (by decide +kernel)) rfl rfl rfl (by decide +kernel) (fun k j h=>match k,h with | 0,h=>by obtain rfl:=Option.some.inj h;exact⟨_,rfl,rfl,rfl⟩ | _+1,h=>by simp at h)) rfl XM.nd rfl rfl (Ej (K:=K) (BL (Gr (K:=K)) (pv 0) Ak (fun _ _=>rfl))) (fun _ _ _ _ _=>.nil) (fun _ _ _ _ _=>(Ov (N7 (Bq (ZP (K:=K)) rfl T.Vr Tu (Aa (pv 0) (Aa (Ahu (v:=.ty "tuple") rfl T.AlX AjA rfl) Ab)))) (Aq (Vt.mono (by omega)) hr rfl T.NB.m T.NB.F.kp T.NB.b .nil AoY (Aa (pv 0) (Aa (pv 1) Ab))) (pv 0))) rfl)
   (Ac (BK (Ao Eh (BL (Gr (K:=K)) (pv 0) Ak (fun _ _=>rfl)) Ag (Ax _))
    (Ae (Bb (JZ T.AgY.m (Abp.mono (by omega)) hr rfl T.AnK T.V7.b .nil Gv (Aa (pv 2) Ab))))
    Aw)
   (Ac (BK (Ao Eh (Bq (Bx (K:=K)) rfl T.Ec CW (Aa (pv 2) Ab)) Ak (Ax _))
    (Ae (Bb (Aq (Adt.mono (by omega)) hr rfl T.Tg.m T.Tg.F.kp T.Tg.b .nil An (Aa (BL (Gr (K:=K)) (pv 0) Ak (fun _ _=>rfl)) (Aa (BL (Bo (K:=K)) (pv 2) Ak (fun _ _=>rfl)) Ab)))))
    Aw)
   (Ac (BK (Ao Eh (Bq (Bx (K:=K)) rfl T.Ec CW (Aa (pv 2) Ab)) Ak (Ax _))
    (Ae (Bb (Aq (Abo.mono (by omega)) hr rfl T.Q4.m T.Q4.F.kp T.Q4.b .nil Gv (Aa (BL (Gr (K:=K)) (pv 0) Ak (fun _ _=>rfl)) (Aa (pv 2) Ab)))))
    Aw)
   (Ae (Bb (Aq (Adu.mono (by omega)) hr rfl T.Th.m T.Th.F.kp T.Th.b .nil Gv (Aa (BL (Gr (K:=K)) (pv 0) Ak (fun _ _=>rfl)) (Aa (BL (Bo (K:=K)) (pv 2) Ak (fun _ _=>rfl)) (Aa (BL (Bo (K:=K)) (pv 2) Ak (fun _ _=>rfl)) Ab))))))))))),?_⟩
  cases hv with
  | num=>cases W
  | run=>cases W
  | nam ha =>
   rename_i z a
   have a0:atI [V.str (tx z),V.non] 0=some (.str (tx z)):=CZ (by decide) rfl
   have a1:atI [V.str (tx z),V.non] 1=some .non:=CZ (by decide) rfl
   rw[Aer,Ack] at k0
   refine⟨_,rfl,_,_,_,_,rfl,rfl,SqT.of ha,a1,rfl,_,rfl,?_⟩
   refine GF rfl ?_
   refine⟨_,rfl,_,_,_,_,rfl,rfl,SqT.of ha,a0,_,rfl,_,_,_,_,rfl,rfl,SqT.of ha,a0,_,rfl,z,kp,kn,rfl,hK,fun xx q e hq=>?_,fun e=>?_⟩
   ·rw[e] at k0
    exact fun r dx hr1 hdx hne=>⟨r,dx,q,xx,z,rfl,Ad,SqL.of (Gp hr1 hdx _ _ hq),Oc.make k0 Mh.1 hr1 hdx⟩
   ·rw[e] at k0
    exact k0 _ (.refl _)
  | node ha hq hl hN =>
   rename_i z ts a q vs
   have wl:=Am0 W
   have a0:atI [V.str (tx z),V.ref q] 0=some (.str (tx z)):=CZ (by decide) rfl
   have a1:atI [V.str (tx z),V.ref q] 1=some (.ref q):=CZ (by decide) rfl
   refine⟨_,rfl,_,_,_,_,rfl,rfl,SqT.of ha,a1,rfl,_,rfl,?_⟩
   refine DN (fun z=>nomatch z) ?_
   refine⟨_,rfl,_,_,_,_,rfl,rfl,SqT.of ha,a1,_,rfl,⟨_,SqL.of hq⟩,?_⟩
   refine Iv (K:=K) (a:=q) (xs:=vs) (fun i ys H2=>Bg H H2∧∃ as,args (out kn d) (wr d) (ts.take i)=.inr as∧Agg t (nw H H2) as ys) ⟨.refl _,[],rfl,rfl,fun i a v g=>by simp at g⟩ ?_ ?_ ?_ ?_
   ·rintro i ys H2 hi ⟨s2,as,ea,hA⟩
    refine⟨SqL.of (s2 _ _ hq),?_⟩
    rw[hA.1,Acl ea,Ar1]
    exact Nat.min_le_left _ _
   ·rw[hl]
    exact CG wl.2.1
   ·rintro i xv ys H2 hi hx ⟨s2,as,ea,hA⟩
    refine Fq.no ?_
    have hit:i<ts.length:=by rw[← hl];exact hi
    have ex:=Aru hit
    have et:ts.take (i+1)=ts.take i++[ts[i]]:=by rw[Ar5,ex];rfl
    have hxv:=hN i _ xv ex hx
    have hpart:=AlR (d:=d) (z:=z) (ArG hit)
    generalize ts[i]=x at ex et hxv hpart
    have sn:=AdF (x:=x) ea
    rw[← et] at sn
    rcases AkY W ex with ⟨n,rfl⟩ | ⟨r,rfl⟩ | Wx
    ·cases hxv
     refine⟨_,rfl,_,_,false,.int _,.inl ⟨_,rfl,rfl⟩,_,rfl,?_⟩
     refine Rk ?_
     refine⟨_,rfl,?_⟩
     exact CN.of hi ⟨s2,_,sn,hA.snoc .num⟩
    ·cases hxv
     refine⟨_,rfl,_,_,false,.str _,.inl ⟨_,rfl,rfl⟩,_,rfl,?_⟩
     refine Rk ?_
     refine⟨_,rfl,?_⟩
     exact CN.of hi ⟨s2,_,sn,hA.snoc .run⟩
    ·rw[Ake Wx] at sn
     obtain⟨ra,ro,rfl,hro⟩:∃ ra ro,xv=.ref ra∧H2 ra=some (.tup ro):=by
      cases hxv with
      | num=>cases Wx
      | run=>cases Wx
      | nam h=>exact⟨_,_,rfl,s2 _ _ h⟩
      | node h _ _ _=>exact⟨_,_,rfl,s2 _ _ h⟩
     refine⟨_,rfl,_,_,true,.tup hro,.inl ⟨_,rfl,AfW K "tuple"⟩,_,rfl,?_⟩
     refine Px ?_
     refine⟨_,rfl,_,rfl,x,.ref ra,kp,kn,rfl,Wx,hxv.mono s2,by omega,hK.same s2,hC,?_⟩
     cases eo:out kn d x with
     | ok r =>
      rw[eo] at sn
      intro p H3 s3 hp
      have u3:=s2.trans s3
      exact CN.of hi ⟨u3,_,sn,(hA.mono (Aib s3)).snoc (.cl (hp.mono (Aia s2)))⟩
     | no f =>
      rw[eo] at sn
      intro H3 s3
      have en:args (out kn d) (wr d) ts=.inl f:=by
       have:=AhF (us:=ts.drop (i+1)) sn
       rw[List.take_append_drop] at this
       exact this
      rw[Agh,en] at k0
      exact k0 H3 (s2.trans s3)
   ·rintro ys H2 l ⟨s2,as,ea,hA⟩ hlN
    rw[hl,ArI] at ea
    have F:=Aki (fun W e=>Aet hC W e) W ea
    have ew:=AhE ea
    rw[Agh,ea] at k0
    have ewr:wr (d+1) (.node z ts)=wz z (as.map wrA):=by rw[ew];rfl
    rw[ewr] at k0 hw
    dsimp only at k0
    have al:=Acl ea
    have u3:Bg H (upd H2 l (.lst ys)):=s2.new hlN
    have hl3:(upd H2 l (.lst ys)) l=some (.lst ys):=Ad
    have hA3:Agg t (upd H2 l (.lst ys)) as ys:=(hA.mono (Aib (.upd hlN))).mono (fun b o e=>(AaS e).2)
    have k3:=k0.same u3
    generalize upd H2 l (.lst ys)=H3 at u3 hl3 hA3 k3 ⊢
    have ha3:=u3 _ _ ha
    refine⟨_,rfl,_,_,_,_,rfl,rfl,SqT.of ha3,a0,rfl,_,rfl,?_⟩
    rw[Abz]
    by_cases c:z=Pat.QF
    ·refine GF (by rw[c]) ?_
     obtain⟨rs,rfl,r1,r2,r3⟩:∃ rs,as=rs.map Arg.run∧rs≠[]∧rs.length≤40∧∀ r∈rs,r≠[]∧∀ c∈r,Sg c:=by
      cases F with
      | rows h1 h2 h3=>exact⟨_,rfl,h1,h2,h3⟩
      | nums w _ _=>rcases w with rfl | rfl <;> exact absurd c (by decide)
      | one w _=>rcases w with rfl | rfl | rfl | rfl <;> exact absurd c (by decide)
      | two w _ _=>rcases w with rfl | rfl | rfl <;> exact absurd c (by decide)
      | tile _ _ _=>exact absurd c (by decide)
      | blk _ _ _=>exact absurd c (by decide)
     have ey:ys=vS rs:=by
      apply Asu
      intro i
      unfold vS
      rw[Ar6]
      cases e1:rs[i]? with
      | none =>
       have h1:=List.getElem?_eq_none_iff.mp e1
       have h2:=hA3.1
       rw[Arq] at h2
       exact ArU (by omega)
      | some r =>
       have h1:=(List.getElem?_eq_some_iff.mp e1).1
       have h2:=hA3.1
       rw[Arq] at h2
       have hy:i<ys.length:=by omega
       have:=hA3.2 i (.run r) ys[i] (by rw[Ar6,e1];rfl) (Aru hy)
       rw[Aru hy]
       generalize ys[i]=yv at this ⊢
       cases this
       rfl
     have Apq:(rs.map Arg.run).map wrA=rs:=by rw[Aso];exact Asc _
     have em:made z (rs.map Arg.run)=AdE rs:=by unfold made;rw[if_pos c,AdH]
     rw[Apq,c] at hw
     rw[em,Apq,c] at k3
     refine⟨_,rfl,fun r dx hr1 hdx hne=>⟨r,dx,l,rs,rfl,Ad,SqL.of (by rw[← ey];exact Gp hr1 hdx _ _ hl3),r1,r2,hw,Oc.make k3 Mh.2.1 hr1 hdx⟩⟩
    refine DN (Np c) ?_
    have l3:=wl.2.2 c
    rw[← al,← hA3.1] at l3
    have l1:1≤ys.length:=by rw[hA3.1,al];exact wl.1
    refine⟨_,rfl,_,_,rfl,.inl (SqL.of hl3),rfl,_,rfl,?_⟩
    obtain⟨hlen,hat⟩:=hA3
    rcases ys with _ | ⟨v1,_ | ⟨v2,_ | ⟨v3,_ | ⟨v4,ys⟩⟩⟩⟩
    ·simp at l1
    ·obtain⟨b1,rfl⟩:∃ b1,as=[b1]:=List.length_eq_one_iff.mp hlen.symm
     refine GF rfl ?_
     have g1:=hat 0 b1 v1 rfl rfl
     have c0:atI [v1] 0=some v1:=CZ (by decide) rfl
     obtain⟨x,zx,ww,rfl,Cx⟩:∃ x zx,(z=miW∨z=upW∨z=baW∨z=quW)∧b1=.cl x zx∧Clo x:=by
      generalize has:[b1]=as at F
      cases F with
      | rows h1 h2 h3=>exact absurd rfl c
      | nums w h1 h2=>cases has
      | one w h1=>cases has;exact⟨_,_,w,rfl,h1⟩
      | two w h1 h2=>cases has
      | tile h1 h2 h3=>cases has
      | blk h1 h2 h3=>cases has
     obtain _ | _ | hp:=g1
     have em:made z [.cl x zx]=AgI z x:=by unfold made;rw[if_neg c]
     rw[em] at k3
     exact⟨_,rfl,_,_,_,_,rfl,rfl,SqT.of ha3,a0,_,rfl,_,_,_,_,rfl,rfl,SqL.of hl3,c0,z,zx,x,_,E,rfl,ww,hp,Cx,hw,k3⟩
    ·obtain⟨b1,b2,rfl⟩:∃ b1 b2,as=[b1,b2]:=by
      rcases as with _ | ⟨b1,_ | ⟨b2,_ | ⟨b3,as⟩⟩⟩
      ·simp at hlen
      ·simp at hlen
      ·exact⟨b1,b2,rfl⟩
      ·simp at hlen
     refine DN (by show ¬(V.int 2:V)=V.int 1;decide) ?_
     refine⟨_,rfl,_,_,rfl,.inl (SqL.of hl3),rfl,_,rfl,?_⟩
     refine DN (by show ¬(V.int 2:V)=V.int 3;decide) ?_
     have c0:atI [v1,v2] 0=some v1:=CZ (by decide) rfl
     have c1:atI [v1,v2] 1=some v2:=CZ (by decide) rfl
     exact⟨_,rfl,_,_,_,_,rfl,rfl,SqT.of ha3,a0,_,rfl,_,_,_,_,rfl,rfl,SqL.of hl3,c0,_,rfl,_,_,_,_,rfl,rfl,SqL.of hl3,c1,z,b1,b2,v1,v2,rfl,c,F,hat 0 b1 v1 rfl rfl,hat 1 b2 v2 rfl rfl,hw,k3⟩
    ·obtain⟨b1,b2,b3,rfl⟩:∃ b1 b2 b3,as=[b1,b2,b3]:=by
      rcases as with _ | ⟨b1,_ | ⟨b2,_ | ⟨b3,_ | ⟨b4,as⟩⟩⟩⟩
      ·simp at hlen
      ·simp at hlen
      ·simp at hlen
      ·exact⟨b1,b2,b3,rfl⟩
      ·simp at hlen
     refine DN (by show ¬(V.int 3:V)=V.int 1;decide) ?_
     refine⟨_,rfl,_,_,rfl,.inl (SqL.of hl3),rfl,_,rfl,?_⟩
     refine GF rfl ?_
     exact⟨_,rfl,_,_,_,_,rfl,rfl,SqT.of ha3,a0,_,rfl,z,b1,b2,b3,v1,v2,v3,l,rfl,SqL.of hl3,c,F,hat 0 b1 v1 rfl rfl,hat 1 b2 v2 rfl rfl,hat 2 b3 v3 rfl rfl,hw,k3⟩
    ·simp at l3
theorem AdR(T:Txt K mg t):∀ d,Aj P w K mg base (CX1 P w) (d+9) t.HX t.HY ["node", "known"] (AkX t d)
 | 0=>⟨fun _ _ _ _ h=>(by obtain⟨x,v,kp,kn,_,W,_⟩:=h;cases W),fun _ _ _ _ _ _ _ _ _ _ _ _ _ h=>(by obtain⟨x,v,kp,kn,_,W,_⟩:=h;cases W)⟩
 | d+1=>AcC (k:=d+8) (by omega) T (AdR T d)
def Am1 (t:Adr):Sp:=fun vs H Q E=>∃(u:List Nat) (kp:Addr) (kn:Kns),vs=[.str (tx u),.ref kp]∧u.length≤1000000∧Kn H kp kn∧(∀ p∈kn,Clo p.2)∧Oc t H Q E (rdp kn u).1 (rdp kn u).2
theorem Aat(T:Txt K mg t):Aj P w K mg base (CX1 P w) 31 t.Jb t.Jc ["text", "known"] (Am1 t):=by
 have Vt:Aj P w K mg base (CX1 P w) 21 t.HX t.HY _ _:=AdR T 12
 have AeH:Aj P w K mg base (CX1 P w) 30 t.Ls t.Lw _ _:=Ac6 T
 refine T.Rr.F.okX Abb (fun vs H Q E h=>?_) (fun cdv A outer s H vs Q E hr h=>?_)
 ·obtain⟨u,kp,kn,rfl,_⟩:=h
  rfl
 ·obtain⟨u,kp,kn,rfl,hu,hK,hC,k⟩:=h
  refine⟨_,(Ae (Bb (Aq (Vt.mono (by decide)) hr rfl T.NB.m T.NB.F.kp T.NB.b .nil Gv (Aa (Aq (AeH.mono (by decide)) hr rfl T.Vn.m T.Vn.F.kp T.Vn.b .nil Gv (Aa (pv 0) Ab)) (Aa (pv 1) Ab))))),?_⟩
  unfold rdp at k
  refine⟨_,rfl,u,rfl,hu,fun x v H1 e s1 hN=>?_,fun e H1 s1=>?_⟩
  ·rw[e] at k
   have W:=Af8 e
   exact⟨_,rfl,x,v,kp,kn,rfl,W.1,hN.mono (fun b o e=>(AaS e).2),by omega,hK.same s1,hC,k.same s1⟩
  ·rw[e] at k
   exact k H1 s1
theorem Jo{i:Nat}{v v':V}{σ σ':St}{H:Hp}{Kt:St→Hp→Prop}(ev:v=v')(h:σ.set i (some v')=σ')(k:Kt σ' H):R1 i v σ H Kt:=by subst ev;subst h;exact k
def AkZ:Sp:=fun vs H Q _=>∃(z:Int) (m n:Nat),vs=[.int z,.int (m:Int),.int (n:Int)]∧1≤m∧m≤40∧1≤n∧n≤40∧∀ l x H',Bg H H'→H l=none→H' l=some (.lst (vS x))→Cl x m n→Q (.ref l) H'
theorem Ajm{z:Int}:∃ c,atI ((tx [46,35]).cps.toList) (z%2)=some c∧Sg c:=by
 have h:z%2=0∨z%2=1:=by omega
 rw[Kc]
 rcases h with h | h
 ·exact⟨46,by rw[h];exact CZ (by decide) rfl,.inr rfl⟩
 ·exact⟨35,by rw[h];exact CZ (by decide) rfl,.inl rfl⟩
theorem Agi(T:Txt K mg t):Aj P w K mg base CX0 1 t.Qj t.Qk ["number", "ends", "picks"] AkZ:=by
 refine T.RX.F.ok K3 (fun vs H Q E h=>?_) (fun cdv A outer s H vs Q E hr h=>?_)
 ·obtain⟨z,m,n,rfl,_⟩:=h
  rfl
 ·obtain⟨z,m,n,rfl,m1,m40,n1,n40,k⟩:=h
  refine⟨_,(Ac (BP (i:=3) K3.nd rfl (Or.inl rfl) (Ez Ab))
   (Ac (JW PassesOwn.never rfl (Iu rfl T.Nx (Aa (pv 2) Ab)) (Dq (i:=4) K3.nd rfl (Or.inl rfl))
    (Ac (BP (i:=5) K3.nd rfl (Or.inl rfl) Ag)
    (Ac (JW PassesOwn.never rfl (Iu rfl T.Nx (Aa (pv 1) Ab)) (Dq (i:=6) K3.nd rfl (Or.inl rfl))
     (Ac (BP (i:=5) K3.nd rfl (Or.inl rfl) (Bv Bh (pv 5) (BL ZJ Ag (Bv R4 (pv 0) Ak) (fun _ _=>rfl))))
     (Ae (BP (i:=0) K3.nd rfl (Or.inl rfl) (Bv AdV (pv 0) Ak)))))
    (Ae (BJ (Gs (K:=K) PySem.F.plainAttrs_list PySem.F.slot_list_append PySem.F.type_list_append NK (pv 3) (Aa (pv 5) Ab)))))))
   (Ae (Bb (pv 3))))),?_⟩
  have hsz:sizeLine=16777216:=sizeLine_eq
  have e0:(Str.ofString ".#")=tx [46,35]:=by decide +kernel
  refine⟨Ar9 _,fun q nq=>?_⟩
  have s1:Bg H (upd H q (.lst [])):=.upd nq
  have hq1:(upd H q (.lst [])) q=some (.lst (vS [])):=Ad
  generalize upd H q (.lst [])=H1 at s1 hq1 ⊢
  refine⟨_,rfl,_,rfl,(by omega),(by omega),?_⟩
  rw[Ar7]
  refine Xe (lo:=0) (n:=n) (fun i σ H2=>∃(y:Int) (v4 v5 v6:Option V) (x:List (List Nat)),σ=[some (.int y),some (.int (m:Int)),some (.int (n:Int)),some (.ref q),v4,v5,v6]∧Bg H H2∧H2 q=some (.lst (vS x))∧x.length=i∧∀ r∈x,r.length=m∧∀ c∈r,Sg c) ⟨z,none,none,none,[],rfl,s1,hq1,rfl,fun r h=>by simp at h⟩ ?_ ?_
  ·rintro i σ H2 hi ⟨y,v4,v5,v6,x,rfl,s2,hq2,hx,hr2⟩
   refine⟨_,rfl,_,rfl,(by omega),(by omega),?_⟩
   rw[Ar7]
   refine Xe (lo:=0) (n:=m) (fun j σ H3=>∃(y:Int) (v6:Option V) (u:List Nat),σ=[some (.int y),some (.int (m:Int)),some (.int (n:Int)),some (.ref q),some (.int (0+(i:Int))),some (.str (tx u)),v6]∧H3=H2∧u.length=j∧∀ c∈u,Sg c) ⟨y,_,[],by rw[show(("" : Str))=tx [] from by decide +kernel] <;> rfl,rfl,rfl,fun c h=>by simp at h⟩ ?_ ?_
   ·rintro j σ H3 hj ⟨y,v6,u,rfl,rfl,hu,hs⟩
    obtain⟨c,hc,sc⟩:=Ajm (z:=y)
    rw[e0]
    refine⟨_,rfl,_,rfl,_,_,rfl,rfl,(by show(0:Int)<2;decide),_,_,c,rfl,rfl,(by rw[Ah];exact big (by decide)),hc,?_⟩
    refine⟨_,_,rfl,rfl,(by rw[Tt,Ah,Ah];exact big (by simp only [Ars,Arv];omega)),?_⟩
    rw[Tt,Dj]
    refine⟨_,rfl,_,_,rfl,rfl,⟨by decide,by decide⟩,?_⟩
    refine⟨_,_,u++[c],rfl,rfl,by rw[Arp,hu];rfl,fun d hd=>?_⟩
    rcases List.mem_append.mp hd with hd | hd
    ·exact hs d hd
    ·rw[List.mem_singleton.mp hd];exact sc
   ·rintro σ H3 ⟨y,v6,u,rfl,rfl,hu,hs⟩
    refine⟨_,rfl,.inl ⟨rfl,_,SqL.of hq2⟩,_,rfl,_,_,_,rfl,rfl,hq2,(by rw[Bj];omega),?_⟩
    rw[Ei]
    refine⟨y,_,_,_,x++[u],rfl,s2.over (by
     cases e:H q with
     | none=>rfl
     | some o=>exact absurd (nq.symm.trans e) (fun z=>nomatch z)),Ad,by rw[Arp,hx];rfl,fun r hr=>?_⟩
    rcases List.mem_append.mp hr with hr | hr
    ·exact hr2 r hr
    ·rw[List.mem_singleton.mp hr];exact⟨hu,hs⟩
  ·rintro σ H2 ⟨y,v4,v5,v6,x,rfl,s2,hq2,hx,hr2⟩
   exact⟨_,rfl,k q x H2 s2 nq hq2 ⟨hx,fun r hr=>(hr2 r hr).1,fun r hr=>(hr2 r hr).2,m1,m40,n1,n40⟩⟩
def Ajn:Sp:=fun vs H Q _=>∃ c,vs=[.str ⟨#[c]⟩]∧Q (.str (tx [flip c])) H
theorem AeI(T:Txt K mg t):Aj P w K mg base CX0 1 t.Oj t.Ol ["sign"] Ajn:=by
 refine T.Qp.F.ok Aey (fun vs H Q E h=>?_) (fun cdv A outer s H vs Q E hr h=>?_)
 ·obtain⟨c,rfl,_⟩:=h
  rfl
 ·obtain⟨c,rfl,k⟩:=h
  refine⟨_,(Ac (BK (Ao Eh (pv 0) Ag (Ax _))
    (Ae (Bb Ag))
    Aw)
   (Ae (Bb Ag))),?_⟩
  refine⟨_,rfl,rfl,_,rfl,?_⟩
  refine Ey (fun h=>?_) (fun h=>?_)
  ·have e:c=35:=AfX.mp (h.trans e35.symm)
   rw[e] at k
   rw[show(("." : Str))=tx [46] from by decide +kernel]
   exact k
  ·have e:¬c=35:=fun z=>h (by rw[z];exact e35)
   rw[show flip c=35 by unfold flip;rw[if_neg e]] at k
   rw[show(("#" : Str))=tx [35] from by decide +kernel]
   exact k
def Ala (K:PySem.W.Frag):Sp:=fun vs H Q _=>∃(z:List Nat) (a:Addr) (x:List (List Nat)),vs=[.str (tx z),.ref a]∧(z=miW∨z=upW∨z=baW∨z=quW)∧SqL K H a (vS x)∧Clo x∧∀ l y H',Bg H H'→H l=none→H' l=some (.lst (vS y))→AgI z x=.ok y→Q (.ref l) H'
theorem X3:∀ l:List (List Nat),((l.map tx).map (·.length)).sum=l.flatten.length:=fun l=>by
 induction l with
 | nil=>rfl
 | cons x l ih=>rw[Arx,Arx,Ast,ih,ArB,Arp,Ah]
theorem Ab7:(Str.length "")=0:=by decide +kernel
theorem AcD:(("" : Str))=tx []:=by decide +kernel
theorem Adw(T:Txt K mg t):Aj P w K mg base CX0 2 t.Lz t.LC ["word", "rows"] (Ala K):=by
 have AaT:Aj P w K mg base CX0 1 t.Oj t.Ol _ _:=AeI T
 refine T.Vp.F.ok Adf (fun vs H Q E h=>?_) (fun cdv A outer s H vs Q E hr h=>?_)
 ·obtain⟨z,a,x,rfl,_⟩:=h
  rfl
 ·obtain⟨z,a,x,rfl,hz,hS,C,k⟩:=h
  refine⟨_,(Ac (BK (Ao Eh (pv 0) Ag (Ax _))
    (Ae (Bb (Ace (K:=K) rfl T.Wr rfl T.Qq (pv 1))))
    Aw)
   (Ac (BK (Ao Eh (pv 0) Ag (Ax _))
    (Ae (Bb (Gq (DK.mk (Bp:=[]) (Nc:=["row"]) rfl (by decide +kernel) (by decide +kernel) (Dy (sc0:=Af Ju) rfl (by decide +kernel)) rfl rfl rfl (by decide +kernel) (fun _ _ h=>by simp at h)) rfl (Ej (K:=K) (pv 1)) (fun _ _ _ _ _=>.nil) (fun _ _ _ _ _=>(Gs (K:=K) PySem.F.plainAttrs_str PySem.F.slot_str_join PySem.F.type_str_join (Ky (K:=K)) Ag (Aa (Af2 rfl T.Wr rfl T.Qq (pv 0)) Ab))))))
    Aw)
   (Ac (BK (Ao Eh (pv 0) Ag (Ax _))
    (Ae (Bb (Gq (DK.mk (Bp:=[]) (Nc:=["row"]) rfl (by decide +kernel) (by decide +kernel) (Dy (sc0:=Af Ju) rfl (by decide +kernel)) rfl rfl rfl (by decide +kernel) (fun _ _ h=>by simp at h)) rfl (Ej (K:=K) (pv 1)) (fun _ _ _ _ _=>.nil) (fun _ _ _ _ _=>(Gs (K:=K) PySem.F.plainAttrs_str PySem.F.slot_str_join PySem.F.type_str_join (Ky (K:=K)) Ag (Aa (Gq (DK.mk (Bp:=[]) (Nc:=["sign"]) rfl (by decide +kernel) (by decide +kernel) (AjR (by decide +kernel)) rfl rfl rfl (by decide +kernel) (fun _ _ h=>by simp at h)) rfl (AlO rfl T.Qq (Aa (pv 0) Ab)) (fun _ _ _ _ _=>.nil) (fun _ _ _ _ _=>(Aq (AaT.mono (by decide)) hr rfl T.Qp.m T.Qp.F.kp T.Qp.b .nil An (Aa (pv 0) Ab)))) Ab))))))
    Aw)
   (Ae (Bb (AjV (U9.mk (Bp:=[1]) (Nc:=["k", "rows"]) rfl rfl (by decide +kernel) (Dy (sc0:=Af Ju) rfl (by decide +kernel)) rfl rfl rfl (by decide +kernel) (fun k j h=>match k,h with | 0,h=>by obtain rfl:=Option.some.inj h;exact⟨_,rfl,rfl,rfl⟩ | _+1,h=>by simp at h)) rfl (Iu rfl T.Nx (Aa (Bq Ca rfl T.Ec CW (Aa (BL (Bo (K:=K)) (pv 1) Ak (fun _ _=>rfl)) Ab)) Ab)) (fun _ _ _ _ _=>.nil) (fun _ _ _ _ _=>(Gs (K:=K) PySem.F.plainAttrs_str PySem.F.slot_str_join PySem.F.type_str_join (Ky (K:=K)) Ag (Aa (Gq (DK.mk (Bp:=[0]) (Nc:=["row", "k"]) rfl (by decide +kernel) (by decide +kernel) (AjW (sc0:=Af Ju) rfl (by decide +kernel)) rfl rfl rfl (by decide +kernel) (fun k j h=>match k,h with | 0,h=>by obtain rfl:=Option.some.inj h;exact⟨_,rfl,rfl,rfl⟩ | _+1,h=>by simp at h)) rfl (Ej (K:=K) (pv 1)) (fun _ _ _ _ _=>.nil) (fun _ _ _ _ _=>(Aq (AaT.mono (by decide)) hr rfl T.Qp.m T.Qp.F.kp T.Qp.b .nil An (Aa (BL ZJ (pv 0) (pv 1) (fun _ _=>rfl)) Ab)))) Ab))))))))),?_⟩
  have hsz:sizeLine=16777216:=sizeLine_eq
  have x40:=C.n40
  have Rt:=C.m40
  refine⟨_,rfl,rfl,_,rfl,?_⟩
  rw[Ab4]
  by_cases c1:z=upW
  ·subst c1
   refine GF rfl ?_
   refine⟨_,rfl,a,vS x,rfl,hS,(by rw[Bj];omega),fun l nl=>?_⟩
   rw[show(vS x).reverse=vS x.reverse by unfold vS;rw[List.map_reverse]]
   exact k l x.reverse _ (.upd nl) nl Ad rfl
  refine DN (Np c1) ?_
  refine⟨_,rfl,rfl,_,rfl,?_⟩
  rw[Ab3]
  by_cases c2:z=miW
  ·subst c2
   refine GF rfl ?_
   refine⟨_,rfl,_,rfl,⟨_,hS⟩,Iv (K:=K) (a:=a) (xs:=vS x) (fun i ys H2=>Bg H H2∧ys=vS ((x.take i).map List.reverse)) ⟨.refl _,rfl⟩ ?_ ?_ ?_ ?_⟩
   ·rintro i ys H2 hi ⟨s2,rfl⟩
    refine⟨s2.seq hS,?_⟩
    rw[Bj,Arq,Ar1]
    omega
   ·rw[Bj];exact CG x40
   ·rintro i xv ys H2 hi hx ⟨s2,rfl⟩
    obtain⟨u,hu,rfl⟩:=Mr hx
    have hul:=C.hm u (ArE hu)
    refine Fq.no ?_
    refine⟨rfl,_,rfl,_,rfl,(by rw[Ah,hul];omega),fun q hq=>?_⟩
    have el:((tx u).cps.toList.reverse.map fun c=>V.str ⟨#[c]⟩)=vS (u.reverse.map fun c=>[c]):=by
     rw[Kc]
     unfold vS
     rw[Aso]
     rfl
    rw[el]
    have s3:=s2.new (o:=.lst (vS (u.reverse.map fun c=>[c]))) hq
    have h3:(upd H2 q (.lst (vS (u.reverse.map fun c=>[c])))) q=some (.lst (vS (u.reverse.map fun c=>[c]))):=Ad
    generalize upd H2 q (.lst (vS (u.reverse.map fun c=>[c])))=H3 at s3 h3 ⊢
    have e2:(u.reverse.map fun c=>[c]).flatten=u.reverse:=(YG id u.reverse).trans (Asc _)
    refine⟨_,_,((u.reverse.map fun c=>[c]).map tx),rfl,rfl,SqL.of (by rw[h3,R8]),(by rw[X3,e2,ArR,Ab7,hul,Asv];omega),?_⟩
    rw[AcD,Nq,e2]
    refine CN.of hi ⟨s3,?_⟩
    rw[Ei,Ar5,hu,Arz]
    rfl
   ·rintro ys H2 l ⟨s2,rfl⟩ nl
    rw[Bj,ArI]
    exact k l _ _ (s2.new nl) (s2.free nl) Ad rfl
  refine DN (Np c2) ?_
  refine⟨_,rfl,rfl,_,rfl,?_⟩
  rw[Ab5]
  by_cases c3:z=baW
  ·subst c3
   refine GF rfl ?_
   refine⟨_,rfl,_,rfl,⟨_,hS⟩,Iv (K:=K) (a:=a) (xs:=vS x) (fun i ys H2=>Bg H H2∧ys=vS (back (x.take i))) ⟨.refl _,rfl⟩ ?_ ?_ ?_ ?_⟩
   ·rintro i ys H2 hi ⟨s2,rfl⟩
    refine⟨s2.seq hS,?_⟩
    unfold back
    rw[Bj,Arq,Ar1]
    omega
   ·rw[Bj];exact CG x40
   ·rintro i xv ys H2 hi hx ⟨s2,rfl⟩
    obtain⟨u,hu,rfl⟩:=Mr hx
    have hul:=C.hm u (ArE hu)
    refine Fq.no ?_
    refine⟨rfl,_,rfl,_,rfl,(by rw[Ah,hul];exact CG Rt),?_⟩
    refine AiD (z:=tx u) (fun j ys H3=>H3=H2∧ys=vS (((u.reverse.take j).map flip).map fun c=>[c])) ⟨rfl,rfl⟩ ?_ ?_ ?_ ?_
    ·rintro j ys H3 hj ⟨rfl,rfl⟩
     rw[Bj,Arq,Arq,Ar1]
     omega
    ·rw[Ka,hul];exact CG Rt
    ·rintro j c ys H3 hj hc ⟨rfl,rfl⟩
     refine Fq.no ?_
     rw[Ka] at hj hc
     rw[U7] at hc
     refine⟨_,rfl,c,rfl,?_⟩
     rw[Ka]
     refine CN.of hj ⟨rfl,?_⟩
     rw[Ei,Ar5,As8 hj,hc,Arz,Arz]
     rfl
    ·rintro ys H3 l ⟨rfl,rfl⟩ nl
     rw[Ka,ArS (by rw[ArR];exact Art _)]
     have s3:=s2.new (o:=.lst (vS ((u.reverse.map flip).map fun c=>[c]))) nl
     have h3:(upd H3 l (.lst (vS ((u.reverse.map flip).map fun c=>[c])))) l=some (.lst (vS ((u.reverse.map flip).map fun c=>[c]))):=Ad
     generalize upd H3 l (.lst (vS ((u.reverse.map flip).map fun c=>[c])))=H4 at s3 h3 ⊢
     have e2:((u.reverse.map flip).map fun c=>[c]).flatten=u.reverse.map flip:=(YG id (u.reverse.map flip)).trans (Asc _)
     refine⟨_,_,(((u.reverse.map flip).map fun c=>[c]).map tx),rfl,rfl,SqL.of (by rw[h3,R8]),(by rw[X3,e2,Arq,ArR,Ab7,hul,Asv];omega),?_⟩
     rw[AcD,Nq,e2]
     refine CN.of hi ⟨s3,?_⟩
     unfold back
     rw[Ei,Ar5,hu,Arz]
     rfl
   ·rintro ys H2 l ⟨s2,rfl⟩ nl
    rw[Bj,ArI]
    exact k l _ _ (s2.new nl) (s2.free nl) Ad rfl
  refine DN (Np c3) ?_
  have c4:z=quW:=by
   rcases hz with h | h | h | h
   ·exact absurd h c2
   ·exact absurd h c1
   ·exact absurd h c3
   ·exact h
  subst c4
  obtain⟨u0,hu0,AnZ⟩:=C.at C.n1
  refine⟨_,rfl,_,_,_,_,rfl,rfl,hS,Ot (i:=0) hu0,_,rfl,(by rw[Ah,AnZ];exact CG Rt),_,rfl,(by omega),(by rw[Ah,AnZ];omega),?_⟩
  rw[Ah,AnZ,Ar7]
  refine Kv (lo:=0) (n:=wdt x) (fun i ys H2=>Bg H H2∧ys=vS ((List.range i).map fun e=>(col x e).map flip)) ⟨.refl _,rfl⟩ ?_ ?_ ?_ ?_
  ·rintro i ys H2 hi ⟨s2,rfl⟩
   rw[Bj,Arq,ArH]
   exact Art _
  ·exact CG Rt
  ·rintro i ys H2 hi ⟨s2,rfl⟩
   refine Fq.no ?_
   have cl:(col x i).length=x.length:=by unfold col;rw[Arq]
   refine⟨rfl,_,rfl,_,rfl,⟨_,s2.seq hS⟩,Iv (K:=K) (a:=a) (xs:=vS x) (fun j ys H3=>H3=H2∧ys=vS ((((col x i).take j).map flip).map fun c=>[c])) ⟨rfl,rfl⟩ ?_ ?_ ?_ ?_⟩
   ·rintro j ys H3 hj ⟨rfl,rfl⟩
    refine⟨s2.seq hS,?_⟩
    rw[Bj,Arq,Arq,Ar1]
    omega
   ·rw[Bj];exact CG x40
   ·rintro j xv ys H3 hj hx ⟨rfl,rfl⟩
    obtain⟨u,hu,rfl⟩:=Mr hx
    have hul:=C.hm u (ArE hu)
    have hiu:i<u.length:=by rw[hul];exact hi
    refine Fq.no ?_
    refine⟨_,rfl,_,rfl,_,_,u[i],rfl,rfl,(by rw[Ah,hul];exact CG Rt),CZ (by omega) (by rw[z0,Kc];exact Aru hiu),u[i],rfl,?_⟩
    refine CN.of hj ⟨rfl,?_⟩
    have ec:(col x i)[j]?=some u[i]:=by
     unfold col
     rw[Ar6,hu]
     show some (u.getD i 0)=_
     rw[ArN,Aru hiu]
     rfl
    rw[Ei,Ar5,ec,Arz,Arz]
    rfl
   ·rintro ys H3 l ⟨rfl,rfl⟩ nl
    rw[Bj,ArS (by rw[cl];exact Art _)]
    have s3:=s2.new (o:=.lst (vS (((col x i).map flip).map fun c=>[c]))) nl
    have h3:(upd H3 l (.lst (vS (((col x i).map flip).map fun c=>[c])))) l=some (.lst (vS (((col x i).map flip).map fun c=>[c]))):=Ad
    generalize upd H3 l (.lst (vS (((col x i).map flip).map fun c=>[c])))=H4 at s3 h3 ⊢
    have e2:(((col x i).map flip).map fun c=>[c]).flatten=(col x i).map flip:=(YG id ((col x i).map flip)).trans (Asc _)
    refine⟨_,_,((((col x i).map flip).map fun c=>[c]).map tx),rfl,rfl,SqL.of (by rw[h3,R8]),(by rw[X3,e2,Arq,cl,Ab7,Asv];omega),?_⟩
    rw[AcD,Nq,e2]
    refine CN.of hi ⟨s3,?_⟩
    rw[Ei,Asi,Arz]
    rfl
  ·rintro ys H2 l ⟨s2,rfl⟩ nl
   exact k l _ _ (s2.new nl) (s2.free nl) Ad rfl
end
def ldA (u:List Nat):List Nat:=u.flatMap fun c=>[c,46]
def ldB (u:List Nat):List Nat:=u.flatMap fun c=>[35,c]
def ld2 (x y:List (List Nat)):List (List Nat):=(x.zip y).flatMap fun q=>[ldA q.1,ldB q.2]
theorem W7{k i:Nat}(h:i<2*k):(Ms k).getD i 0=((i%2:Nat):Int):=by
 unfold Ms
 rw[ArN,AhB [(0:Int),1] k i (by simp;omega)]
 have:i%2=0∨i%2=1:=by omega
 rcases this with e | e <;> simp[e]
theorem Agj{k:Nat}:∀{i:Nat},i≤2*k→((Ms k).take i).count 0=(i+1) / 2∧((Ms k).take i).count 1=i / 2
 | 0,_=>by simp
 | i+1,h=>by
  have ih:=Agj (k:=k) (i:=i) (by omega)
  have hl:i<(Ms k).length:=by rw[K1];omega
  rw[XX hl,XX hl,ih.1,ih.2,W7 (by omega)]
  have:i%2=0∨i%2=1:=by omega
  rcases this with e | e
  ·rw[e]
   simp
   omega
  ·rw[e]
   simp
   omega
theorem AeJ{k i:Nat}(h:i<2*k):plc (Ms k) i=i / 2:=by
 unfold plc
 rw[W7 h]
 have:=Agj (k:=k) (i:=i) (by omega)
 have e:i%2=0∨i%2=1:=by omega
 rcases e with e | e
 ·rw[e]
  show((Ms k).take i).count 0=_
  rw[this.1]
  omega
 ·rw[e]
  exact this.2
theorem Am2{u:List Nat}{k:Nat}(h:k<2*u.length):(ldA u)[k]?=some (if k%2=0 then u.getD (k / 2) 0 else 46):=by
 unfold ldA
 have e:=YQ (h:=2) (f:=fun c:Nat=>[c,46]) u (fun x _=>rfl) (k / 2) (k%2) (by omega)
 rw[show k / 2*2+k%2=k by omega] at e
 rw[e]
 have hk:k / 2<u.length:=by omega
 rw[Aru hk]
 show[u[k / 2],46][k%2]?=_
 have e2:u.getD (k / 2) 0=u[k / 2]:=by rw[ArN,Aru hk];rfl
 rw[e2]
 have:k%2=0∨k%2=1:=by omega
 rcases this with e3 | e3 <;> rw[e3] <;> rfl
theorem Am3{u:List Nat}{k:Nat}(h:k<2*u.length):(ldB u)[k]?=some (if k%2=0 then 35 else u.getD (k / 2) 0):=by
 unfold ldB
 have e:=YQ (h:=2) (f:=fun c:Nat=>[35,c]) u (fun x _=>rfl) (k / 2) (k%2) (by omega)
 rw[show k / 2*2+k%2=k by omega] at e
 rw[e]
 have hk:k / 2<u.length:=by omega
 rw[Aru hk]
 show[35,u[k / 2]][k%2]?=_
 have e2:u.getD (k / 2) 0=u[k / 2]:=by rw[ArN,Aru hk];rfl
 rw[e2]
 have:k%2=0∨k%2=1:=by omega
 rcases this with e3 | e3 <;> rw[e3] <;> rfl
theorem Ab8(u:List Nat):(ldA u).length=2*u.length:=by unfold ldA;rw[Iw (h:=2) u fun x _=>rfl];omega
theorem Ab9(u:List Nat):(ldB u).length=2*u.length:=by unfold ldB;rw[Iw (h:=2) u fun x _=>rfl];omega
theorem Am4{x y:List (List Nat)}{m n:Nat}(C:Cl x m n)(D:Cl y m n):lay [x,y] (Ms m) (Ms n)=ld2 x y:=by
 have zl:(x.zip y).length=n:=by rw[Asl,C.hn,D.hn,ArO]
 have l2:(ld2 x y).length=2*n:=by
  unfold ld2
  rw[Iw (h:=2) _ fun q _=>rfl,zl]
  omega
 apply Asu
 intro j
 by_cases hj:j<2*n
 ·have hjo:j<(Ms n).length:=by rw[K1];exact hj
  rw[AhC hjo,W7 hj,AeJ hj]
  have hx:j / 2<x.length:=by rw[C.hn];omega
  have hy:j / 2<y.length:=by rw[D.hn];omega
  have e:=YQ (h:=2) (f:=fun q:List Nat × List Nat=>[ldA q.1,ldB q.2]) (x.zip y) (fun q _=>rfl) (j / 2) (j%2) (by omega)
  rw[show j / 2*2+j%2=j by omega] at e
  show _=(ld2 x y)[j]?
  unfold ld2
  rw[e]
  have ez:(x.zip y)[j / 2]?=some (x[j / 2],y[j / 2]):=List.getElem?_zip_eq_some.mpr ⟨Aru hx,Aru hy⟩
  rw[ez]
  show _=[ldA x[j / 2],ldB y[j / 2]][j%2]?
  have wx:=C.hm _ (ArG hx)
  have wy:=D.hm _ (ArG hy)
  have ex:x.getD (j / 2) []=x[j / 2]:=by rw[ArN,Aru hx];rfl
  have ey:y.getD (j / 2) []=y[j / 2]:=by rw[ArN,Aru hy];rfl
  have par:j%2=0∨j%2=1:=by omega
  rcases par with e3 | e3
  ·rw[e3]
   show some (Jt [x,y] (Ms m) 0 (j / 2))=some (ldA x[j / 2])
   congr 1
   apply Asu
   intro k
   by_cases hk:k<2*m
   ·rw[Yb (by rw[K1];exact hk),Am2 (by rw[wx];exact hk),W7 hk,AeJ hk]
    show some (YM 0 ((k%2:Nat):Int) (x.getD (j / 2) []) (k / 2))=_
    rw[ex]
    unfold YM
    have pk:k%2=0∨k%2=1:=by omega
    rcases pk with e4 | e4
    ·rw[e4];rfl
    ·rw[e4];rfl
   ·rw[ArU (by rw[R9,K1];omega),ArU (by rw[Ab8,wx];omega)]
  ·rw[e3]
   show some (Jt [x,y] (Ms m) 1 (j / 2))=some (ldB y[j / 2])
   congr 1
   apply Asu
   intro k
   by_cases hk:k<2*m
   ·rw[Yb (by rw[K1];exact hk),Am3 (by rw[wy];exact hk),W7 hk,AeJ hk]
    show some (YM 1 ((k%2:Nat):Int) (y.getD (j / 2) []) (k / 2))=_
    rw[ey]
    unfold YM
    have pk:k%2=0∨k%2=1:=by omega
    rcases pk with e4 | e4
    ·rw[e4];rfl
    ·rw[e4];rfl
   ·rw[ArU (by rw[R9,K1];omega),ArU (by rw[Ab9,wy];omega)]
 ·rw[ArU (by rw[Aeo,K1];omega),ArU (by rw[l2];omega)]
section
variable {P:Program}{w:World}{K:PySem.W.Frag}{mg:Str→Option Value}{base:Heap}{t:Adr}
def Alb (K:PySem.W.Frag):Sp:=fun vs H Q _=>∃(a b c:Addr) (v x y:List (List Nat)),vs=[.ref a,.ref b,.ref c]∧SqL K H a (vS v)∧SqL K H b (vS x)∧SqL K H c (vS y)∧Clo v∧Clo x∧Cl y (wdt x) x.length∧∀ l H',Bg H H'→H l=none→H' l=some (.lst (vS (fil v x y)))→Q (.ref l) H'
theorem Aoa{p:Prop}[Decidable p]{u v:V}:atI [u,v] (if decide p=true then (1:Int) else 0)=some (if p then v else u):=by
 by_cases h:p
 ·rw[decide_eq_true h,if_pos rfl,if_pos h];exact CZ (by decide) rfl
 ·rw[decide_eq_false h,if_neg (fun z=>nomatch z),if_neg h];exact CZ (by decide) rfl
theorem Adx(T:Txt K mg t):Aj P w K mg base CX0 1 t.LK t.LQ ["profile", "one", "other"] (Alb K):=by
 refine T.Vq.F.ok Qz (fun vs H Q E h=>?_) (fun cdv A outer s H vs Q E hr h=>?_)
 ·obtain⟨a,b,c,v,x,y,rfl,_⟩:=h
  rfl
 ·obtain⟨a,b,c,v,x,y,rfl,hA,hB,hC,VC,C,D,k⟩:=h
  refine⟨_,(Ac (BP (i:=3) Qz.nd rfl (Or.inl rfl) (Ez Ab))
   (Ac (JW PassesOwn.never rfl (Ej (K:=K) (pv 0)) (Dq (i:=4) Qz.nd rfl (Or.inl rfl))
    (Ae (JW PassesOwn.never rfl (Iu rfl T.Nx (Aa (Bq (Bx (K:=K)) rfl T.Ec CW (Aa (pv 1) Ab)) Ab)) (Dq (i:=5) Qz.nd rfl (Or.inr rfl))
     (Ae (BJ (Gs (K:=K) PySem.F.plainAttrs_list PySem.F.slot_list_append PySem.F.type_list_append NK (pv 3) (Aa (Gs (K:=K) PySem.F.plainAttrs_str PySem.F.slot_str_join PySem.F.type_str_join (Ky (K:=K)) Ag (Aa (Gq (DK.mk (Bp:=[1,2,5]) (Nc:=["sign", "one", "other", "j"]) rfl (by decide +kernel) (by decide +kernel) (Dy (sc0:=Af Rp) rfl (by decide +kernel)) rfl rfl rfl (by decide +kernel) (fun k j h=>match k,h with | 0,h=>by obtain rfl:=Option.some.inj h;exact⟨_,rfl,rfl,rfl⟩ | 1,h=>by obtain rfl:=Option.some.inj h;exact⟨_,rfl,rfl,rfl⟩ | 2,h=>by obtain rfl:=Option.some.inj h;exact⟨_,rfl,rfl,rfl⟩ | _+3,h=>by simp at h)) rfl (U6 (pv 4)) (fun _ _ _ _ _=>.nil) (fun _ _ _ _ _=>(BL (Bo (K:=K)) (Ez (Aa (BL (Bo (K:=K)) (pv 2) (pv 3) (fun _ _=>rfl)) (Aa (BL (Bo (K:=K)) (pv 1) (pv 3) (fun _ _=>rfl)) Ab))) (Ex Aim rfl T.AmP Aj9 (Aa (Lg Eh (pv 0) Ag (Ax _)) Ab)) (fun _ _=>rfl)))) Ab)) Ab)))))))
   (Ae (Bb (pv 3))))),?_⟩
  have hsz:sizeLine=16777216:=sizeLine_eq
  have v40:=VC.n40
  have Aps:=VC.m40
  have x40:=C.n40
  have Rt:=C.m40
  have zl:(x.zip y).length=x.length:=by rw[Asl,D.hn,ArO]
  have eh:("#" : Str)=⟨#[35]⟩:=by decide +kernel
  refine⟨Ar9 _,fun q nq=>?_⟩
  have s1:Bg H (upd H q (.lst [])):=.upd nq
  have hq1:(upd H q (.lst [])) q=some (.lst (vS [])):=Ad
  generalize upd H q (.lst [])=H1 at s1 hq1 ⊢
  refine⟨_,rfl,_,rfl,⟨_,s1.seq hA⟩,Q8 (K:=K) (a:=a) (xs:=vS v) (fun i σ H2=>∃(v4 v5:Option V),σ=[some (.ref a),some (.ref b),some (.ref c),some (.ref q),v4,v5]∧Bg H H2∧H2 q=some (.lst (vS (fil (v.take i) x y)))) ⟨none,none,rfl,s1,hq1⟩ (fun i σ H2 _ ⟨_,_,_,s2,_⟩=>s2.seq hA) ?_ ?_⟩
  ·rintro i xv σ H2 hx ⟨v4,v5,rfl,s2,hq2⟩
   obtain⟨u,hu,rfl⟩:=Mr hx
   have hul:=VC.hm u (ArE hu)
   have hi:i<v.length:=(List.getElem?_eq_some_iff.mp hu).1
   have et:v.take (i+1)=v.take i++[u]:=by rw[Ar5,hu];rfl
   have lf:(fil (v.take i) x y).length≤1600:=by
    unfold fil
    rw[Iw (h:=x.length) _ fun x _=>by rw[Arq,zl],Ar1,Asp (by omega)]
    have:i*x.length≤40*40:=Asa (by omega) x40
    omega
   refine⟨_,rfl,_,_,rfl,.inl (s2.seq hB),_,rfl,(by omega),(by rw[Bj];omega),?_⟩
   rw[Bj,Ar7]
   refine Xe (lo:=0) (n:=x.length) (fun j σ H3=>∃(v5:Option V),σ=[some (.ref a),some (.ref b),some (.ref c),some (.ref q),some (.str (tx u)),v5]∧Bg H H3∧H3 q=some (.lst (vS (fil (v.take i) x y++((x.zip y).take j).map fun q=>rowOf u q.1 q.2)))) ⟨_,rfl,s2,by rw[List.take_zero,ArT,Asg];exact hq2⟩ ?_ ?_
   ·rintro j σ H3 hj ⟨v5,rfl,s3,hq3⟩
    have hjy:j<y.length:=by rw[D.hn];exact hj
    have ex:=Aru hj
    have ey:=Aru hjy
    have wx:=C.hm _ (ArG hj)
    have wy:=D.hm _ (ArG hjy)
    have ez:(x.zip y)[j]?=some (x[j],y[j]):=List.getElem?_zip_eq_some.mpr ⟨ex,ey⟩
    generalize x[j]=xr at ex wx ez
    generalize y[j]=yr at ey wy ez
    refine⟨_,rfl,.inl ⟨rfl,_,SqL.of hq3⟩,rfl,_,rfl,_,rfl,Uk (z:=tx u) (fun e ys H4=>Bg H3 H4∧ys=vS ((u.take e).map fun c=>if c=35 then xr else yr)) ⟨.refl _,rfl⟩ ?_ ?_ ?_ ?_⟩
    ·rintro e ys H4 he ⟨s4,rfl⟩
     rw[Bj,Arq,Ar1]
     omega
    ·rw[Ka,hul];exact CG Aps
    ·rintro e cc ys H4 he hcc ⟨s4,rfl⟩
     rw[U7] at hcc
     refine Fq.no ?_
     have u4:=s3.trans s4
     refine⟨_,rfl,_,rfl,_,_,_,_,rfl,rfl,u4.seq hC,(by rw[Asd];exact Ot ey),_,rfl,_,rfl,_,_,_,_,rfl,rfl,u4.seq hB,(by rw[Asd];exact Ot ex),(by show 2≤sizeLine;decide),fun p np=>?_⟩
     have s5:=s4.new (o:=.lst [.str (tx yr),.str (tx xr)]) np
     have h5:(upd H4 p (.lst [.str (tx yr),.str (tx xr)])) p=some (.lst [.str (tx yr),.str (tx xr)]):=Ad
     generalize upd H4 p (.lst [.str (tx yr),.str (tx xr)])=H5 at s5 h5 ⊢
     refine⟨_,rfl,rfl,.inr ⟨_,rfl,?_⟩⟩
     refine⟨p,_,_,_,rfl,rfl,SqL.of h5,Aoa,?_⟩
     rw[eh]
     rw[show(if (V.str ⟨#[cc]⟩:V)=V.str ⟨#[35]⟩ then V.str (tx xr) else V.str (tx yr))=V.str (tx (if cc=35 then xr else yr)) by
      by_cases h:cc=35
      ·rw[if_pos (AfX.mpr h),if_pos h]
      ·rw[if_neg (fun z=>h (AfX.mp z)),if_neg h]]
     refine CN.of he ⟨s5,?_⟩
     rw[Ei,Ar5,hcc,Arz]
     rfl
    ·rintro ys H4 p ⟨s4,rfl⟩ np
     rw[Ka,ArI]
     have s5:Bg H3 (upd H4 p (.lst (vS (u.map fun c=>if c=35 then xr else yr)))):=s4.new np
     have h5:(upd H4 p (.lst (vS (u.map fun c=>if c=35 then xr else yr)))) p=some (.lst (vS (u.map fun c=>if c=35 then xr else yr))):=Ad
     generalize upd H4 p (.lst (vS (u.map fun c=>if c=35 then xr else yr)))=H5 at s5 h5 ⊢
     have ef:(u.map fun c=>if c=35 then xr else yr).flatten=rowOf u xr yr:=by unfold rowOf;rw[AsG]
     have lr:(rowOf u xr yr).length≤1600:=by
      unfold rowOf
      rw[Iw (h:=wdt x) u fun x _=>by split;exact wx;exact wy,hul]
      have:wdt v*wdt x≤40*40:=Asa Aps Rt
      omega
     refine⟨_,_,((u.map fun c=>if c=35 then xr else yr).map tx),rfl,rfl,SqL.of (by rw[h5,R8]),(by rw[X3,ef,Ab7,Asv];omega),?_⟩
     rw[AcD,Nq,ef]
     refine⟨_,_,_,rfl,rfl,s5 _ _ hq3,(by rw[Bj,Arp,Arq,Ar1];omega),?_⟩
     rw[Ei]
     refine⟨_,rfl,(s3.trans s5).over nq,?_⟩
     rw[Ad,ArQ,Ar5,ez,Arz]
     rfl
   ·rintro σ H3 ⟨v5,rfl,s3,hq3⟩
    rw[ArS (l:=x.zip y) (i:=x.length) (by rw[zl];exact Art _)] at hq3
    exact⟨_,_,rfl,s3,by rw[et,Aga];exact hq3⟩
  ·rintro σ H2 ⟨v4,v5,rfl,s2,hq2⟩
   rw[Bj,ArI] at hq2
   exact⟨_,rfl,k q H2 s2 nq hq2⟩
def Alc (K:PySem.W.Frag):Sp:=fun vs H Q _=>∃(a b:Addr) (x y:List (List Nat)),vs=[.ref a,.ref b]∧SqL K H a (vS x)∧SqL K H b (vS y)∧Clo x∧Cl y (wdt x) x.length∧∀ l H',Bg H H'→H l=none→H' l=some (.lst (vS (ld2 x y)))→Q (.ref l) H'
theorem Agk(T:Txt K mg t):Aj P w K mg base CX0 1 t.Ql t.Qm ["one", "other"] (Alc K):=by
 refine T.Zg.F.ok Wm (fun vs H Q E h=>?_) (fun cdv A outer s H vs Q E hr h=>?_)
 ·obtain⟨a,b,x,y,rfl,_⟩:=h
  rfl
 ·obtain⟨a,b,x,y,rfl,hA,hB,C,D,k⟩:=h
  refine⟨_,(Ac (BP (i:=2) Wm.nd rfl (Or.inl rfl) (Ez Ab))
   (Ac (JW PassesOwn.never rfl (Iu rfl T.Nx (Aa (Bq (Bx (K:=K)) rfl T.Ec CW (Aa (pv 0) Ab)) Ab)) (Dq (i:=3) Wm.nd rfl (Or.inl rfl))
    (Ac (BJ (Gs (K:=K) PySem.F.plainAttrs_list PySem.F.slot_list_append PySem.F.type_list_append NK (pv 2) (Aa (Gs (K:=K) PySem.F.plainAttrs_str PySem.F.slot_str_join PySem.F.type_str_join (Ky (K:=K)) Ag (Aa (Gq (DK.mk (Bp:=[]) (Nc:=["sign"]) rfl (by decide +kernel) (by decide +kernel) (Dy (sc0:=Af RK) rfl (by decide +kernel)) rfl rfl rfl (by decide +kernel) (fun _ _ h=>by simp at h)) rfl (U6 (BL (Bo (K:=K)) (pv 0) (pv 3) (fun _ _=>rfl))) (fun _ _ _ _ _=>.nil) (fun _ _ _ _ _=>(Bv Bh (pv 0) Ag))) Ab)) Ab)))
    (Ae (BJ (Gs (K:=K) PySem.F.plainAttrs_list PySem.F.slot_list_append PySem.F.type_list_append NK (pv 2) (Aa (Gs (K:=K) PySem.F.plainAttrs_str PySem.F.slot_str_join PySem.F.type_str_join (Ky (K:=K)) Ag (Aa (Gq (DK.mk (Bp:=[]) (Nc:=["sign"]) rfl (by decide +kernel) (by decide +kernel) (Dy (sc0:=Af RK) rfl (by decide +kernel)) rfl rfl rfl (by decide +kernel) (fun _ _ h=>by simp at h)) rfl (U6 (BL (Bo (K:=K)) (pv 1) (pv 3) (fun _ _=>rfl))) (fun _ _ _ _ _=>.nil) (fun _ _ _ _ _=>(Bv Bh Ag (pv 0)))) Ab)) Ab))))))
   (Ae (Bb (pv 2))))),?_⟩
  rw[AcD]
  have hsz:sizeLine=16777216:=sizeLine_eq
  have x40:=C.n40
  have Rt:=C.m40
  have zl:(x.zip y).length=x.length:=by rw[Asl,D.hn,ArO]
  refine⟨Ar9 _,fun q nq=>?_⟩
  have s1:Bg H (upd H q (.lst [])):=.upd nq
  have hq1:(upd H q (.lst [])) q=some (.lst (vS [])):=Ad
  generalize upd H q (.lst [])=H1 at s1 hq1 ⊢
  refine⟨_,rfl,_,_,rfl,.inl (s1.seq hA),_,rfl,(by omega),(by rw[Bj];omega),?_⟩
  rw[Bj,Ar7]
  refine Xe (lo:=0) (n:=x.length) (fun j σ H3=>∃(v5:Option V),σ=[some (.ref a),some (.ref b),some (.ref q),v5]∧Bg H H3∧H3 q=some (.lst (vS (((x.zip y).take j).flatMap fun q=>[ldA q.1,ldB q.2])))) ⟨none,rfl,s1,hq1⟩ ?_ ?_
  ·rintro j σ H3 hj ⟨v5,rfl,s3,hq3⟩
   have hjy:j<y.length:=by rw[D.hn];exact hj
   have ex:=Aru hj
   have ey:=Aru hjy
   have wx:=C.hm _ (ArG hj)
   have wy:=D.hm _ (ArG hjy)
   have ez:(x.zip y)[j]?=some (x[j],y[j]):=List.getElem?_zip_eq_some.mpr ⟨ex,ey⟩
   generalize x[j]=xr at ex wx ez
   generalize y[j]=yr at ey wy ez
   have lz:(((x.zip y).take j).flatMap fun q=>[ldA q.1,ldB q.2]).length≤80:=by
    rw[Iw (h:=2) _ fun q _=>rfl,Ar1]
    omega
   generalize ew:(((x.zip y).take j).flatMap fun q=>[ldA q.1,ldB q.2])=w0 at hq3 lz
   have en:((x.zip y).take (j+1)).flatMap (fun q=>[ldA q.1,ldB q.2])=w0++[ldA xr,ldB yr]:=by
    rw[Ar5,ez,List.flatMap_append,ew]
    rfl
   refine⟨_,rfl,.inl ⟨rfl,_,SqL.of hq3⟩,rfl,_,rfl,_,rfl,_,_,_,_,rfl,rfl,s3.seq hA,(by rw[Asd];exact Ot ex),_,rfl,Uk (z:=tx xr) (fun e ys H4=>H4=H3∧ys=vS ((xr.take e).map fun c=>[c,46])) ⟨rfl,rfl⟩ ?_ ?_ ?_ ?_⟩
   ·rintro e ys H4 he ⟨rfl,rfl⟩
    rw[Bj,Arq,Ar1]
    omega
   ·rw[Ka,wx];exact CG Rt
   ·rintro e cc ys H4 he hcc ⟨rfl,rfl⟩
    rw[U7] at hcc
    refine Fq.no ?_
    rw[show(("." : Str))=tx [46] from by decide +kernel]
    refine⟨_,rfl,_,_,rfl,rfl,(by rw[Tt,Ah,Ah];exact big (by show 2≤1000000;decide)),?_⟩
    rw[Tt,Dj]
    refine CN.of he ⟨rfl,?_⟩
    rw[Ei,Ar5,hcc,Arz]
    rfl
   ·rintro ys H4 p ⟨rfl,rfl⟩ np
    rw[Ka,ArI]
    have s5:Bg H4 (upd H4 p (.lst (vS (xr.map fun c=>[c,46])))):=.upd np
    have h5:(upd H4 p (.lst (vS (xr.map fun c=>[c,46])))) p=some (.lst (vS (xr.map fun c=>[c,46]))):=Ad
    generalize upd H4 p (.lst (vS (xr.map fun c=>[c,46])))=H5 at s5 h5 ⊢
    have ef:(xr.map fun c=>[c,46]).flatten=ldA xr:=by unfold ldA;rw[AsG]
    have la:=Ab8 xr
    refine⟨_,_,((xr.map fun c=>[c,46]).map tx),rfl,rfl,SqL.of (by rw[h5,R8]),(by rw[X3,ef,Ah,Arv,Asv];omega),?_⟩
    rw[Nq,ef]
    refine⟨_,_,_,rfl,rfl,s5 _ _ hq3,(by rw[Bj];omega),?_⟩
    rw[Ei]
    have s6:Bg H (upd H5 q (.lst (vS (w0++[ldA xr])))):=(s3.trans s5).over nq
    have hq6:(upd H5 q (.lst (vS (w0++[ldA xr])))) q=some (.lst (vS (w0++[ldA xr]))):=Ad
    generalize upd H5 q (.lst (vS (w0++[ldA xr])))=H6 at s6 hq6 ⊢
    refine⟨_,rfl,.inl ⟨rfl,_,SqL.of hq6⟩,rfl,_,rfl,_,rfl,_,_,_,_,rfl,rfl,s6.seq hB,(by rw[Asd];exact Ot ey),_,rfl,Uk (z:=tx yr) (fun e ys H7=>H7=H6∧ys=vS ((yr.take e).map fun c=>[35,c])) ⟨rfl,rfl⟩ ?_ ?_ ?_ ?_⟩
    ·rintro e ys H7 he ⟨rfl,rfl⟩
     rw[Bj,Arq,Ar1]
     omega
    ·rw[Ka,wy];exact CG Rt
    ·rintro e cc ys H7 he hcc ⟨rfl,rfl⟩
     rw[U7] at hcc
     refine Fq.no ?_
     rw[show(("#" : Str))=tx [35] from by decide +kernel]
     refine⟨_,rfl,_,_,rfl,rfl,(by rw[Tt,Ah,Ah];exact big (by show 2≤1000000;decide)),?_⟩
     rw[Tt,Dj]
     refine CN.of he ⟨rfl,?_⟩
     rw[Ei,Ar5,hcc,Arz]
     rfl
    ·rintro ys H7 p7 ⟨rfl,rfl⟩ np7
     rw[Ka,ArI]
     have s8:Bg H7 (upd H7 p7 (.lst (vS (yr.map fun c=>[35,c])))):=.upd np7
     have h8:(upd H7 p7 (.lst (vS (yr.map fun c=>[35,c])))) p7=some (.lst (vS (yr.map fun c=>[35,c]))):=Ad
     generalize upd H7 p7 (.lst (vS (yr.map fun c=>[35,c])))=H8 at s8 h8 ⊢
     have eg:(yr.map fun c=>[35,c]).flatten=ldB yr:=by unfold ldB;rw[AsG]
     have lb:=Ab9 yr
     refine⟨_,_,((yr.map fun c=>[35,c]).map tx),rfl,rfl,SqL.of (by rw[h8,R8]),(by rw[X3,eg,Ah,Arv,Asv];omega),?_⟩
     rw[Nq,eg]
     refine⟨_,_,_,rfl,rfl,s8 _ _ hq6,(by rw[Bj,Arp];exact Ary (show w0.length+1<1000 by omega) (by decide)),?_⟩
     rw[Ei]
     refine⟨_,rfl,(s6.trans s8).over nq,?_⟩
     rw[Ad,en,ArQ]
     rfl
  ·rintro σ H3 ⟨v5,rfl,s3,hq3⟩
   rw[ArS (by rw[zl];exact Art _)] at hq3
   exact⟨_,rfl,k q H3 s3 nq hq3⟩
end
namespace K57
def s2 (s:String):List Nat:=(Str.ofString s).cps.toList
theorem st(s:String):Str.ofString s=tx (s2 s):=(AmE _).symm
def nmT (at' c:Nat):List Nat:=(s2 "ooooo").take at'++[c]++(s2 "oooo").drop at'
theorem Apt:∀ i∈List.range 5,Pat.isName (nmT i 116)=true∧Pat.isName (nmT i 119)=true∧nmT i 116≠nmT i 119∧(nmT i 116).length=5∧(nmT i 119).length=5:=by decide +kernel
def w9:List (List Nat):=[tiW,beW,abW,blW,laW,miW,upW,baW,quW]
def due (z:List Nat)(x y:List (List Nat))(a b:Nat):Option (List (List Nat)) :=
 if z=tiW then (if a<1∨b<1 then none else some (til x a b))
 else if z=beW then (if x.length=y.length then some (List.zipWith (·++·) x y) else none)
 else if z=abW then (if wdt x=wdt y then some (x++y) else none)
 else if z=blW then (if wdt x=wdt y∧x.length=y.length then some (fil x x y) else none)
 else if z=laW then (if wdt x=wdt y∧x.length=y.length then some (ld2 x y) else none)
 else match AgI z x with
  | .ok v=>some v
  | .no _=>none
def nd (z n0 n1:List Nat)(a b:Nat):Nd :=
 if z=tiW then .node z [.nam n0,.num a,.num b]
 else if z=beW∨z=abW∨z=laW then .node z [.nam n0,.nam n1]
 else if z=blW then .node z [.nam n0,.nam n0,.nam n1]
 else .node z [.nam n0]
theorem Apu{z n0 n1:List Nat}{a b:Nat}(hz:z∈w9)(h0:Pat.isName n0=true)(h1:Pat.isName n1=true)(ha:a<100)(hb:b<100):Wd 12 (nd z n0 n1 a b):=by
 simp only [w9,Ar3,Ar4,or_false] at hz
 rcases hz with rfl | rfl | rfl | rfl | rfl | rfl | rfl | rfl | rfl
 ·exact .tile (.nam h0) ha hb
 ·exact .two (.inl rfl) (.nam h0) (.nam h1)
 ·exact .two (.inr (.inl rfl)) (.nam h0) (.nam h1)
 ·exact .blk (.nam h0) (.nam h0) (.nam h1)
 ·exact .two (.inr (.inr rfl)) (.nam h0) (.nam h1)
 ·exact .one (.inl rfl) (.nam h0)
 ·exact .one (.inr (.inl rfl)) (.nam h0)
 ·exact .one (.inr (.inr (.inl rfl))) (.nam h0)
 ·exact .one (.inr (.inr (.inr rfl))) (.nam h0)
def resOf:Option (List (List Nat))→Res
 | none=>.no .nop
 | some v=>if 40<v.length∨40<wdt v then .no .big else .ok v
theorem Aau{v:List (List Nat)}{m:Nat}(h1:1≤v.length)(h:∀ r∈v,r.length=m):wdt v=m:=by
 cases v with
 | nil=>simp at h1
 | cons r v=>exact h r ArD
theorem Aob{v:List (List Nat)}(C:Clo v):resOf (some v)=.ok v:=by
 unfold resOf
 have:=C.n40
 have:=C.m40
 dsimp only
 rw[if_neg (by omega)]
theorem Aoc{n0 n1 z:List Nat}{x y:List (List Nat)}{a b:Nat}(hz:z∈w9)(hn:n0≠n1)(C:Clo x)(D:Clo y):out [(n0,x),(n1,y)] 12 (nd z n0 n1 a b)=resOf (due z x y a b):=by
 have k0:∀ d,out [(n0,x),(n1,y)] d (.nam n0)=.ok x:=fun d=>by
  rw[Aer]
  unfold known
  rw[List.find?_cons_of_pos (by simp)]
 have k1:∀ d,out [(n0,x),(n1,y)] d (.nam n1)=.ok y:=fun d=>by
  rw[Aer]
  unfold known
  rw[List.find?_cons_of_neg (by simpa using hn),List.find?_cons_of_pos (by simp)]
 have a0:∀{d:Nat},arg (out [(n0,x),(n1,y)] d) (wr d) (.nam n0)=.inr (.cl x n0):=fun {d}=>by
  show(match out [(n0,x),(n1,y)] d (.nam n0) with | .ok r=>_ | .no f=>_)=_
  rw[k0,Ack]
 have a1:∀{d:Nat},arg (out [(n0,x),(n1,y)] d) (wr d) (.nam n1)=.inr (.cl y n1):=fun {d}=>by
  show(match out [(n0,x),(n1,y)] d (.nam n1) with | .ok r=>_ | .no f=>_)=_
  rw[k1,Ack]
 have one:∀ z,out [(n0,x),(n1,y)] 12 (.node z [.nam n0])=made z [.cl x n0]:=fun z=>by
  show(match args (out _ 11) (wr 11) [.nam n0] with | .inl f=>_ | .inr as=>_)=_
  unfold args
  rw[a0]
  rfl
 have two:∀ z,out [(n0,x),(n1,y)] 12 (.node z [.nam n0,.nam n1])=made z [.cl x n0,.cl y n1]:=fun z=>by
  show(match args (out _ 11) (wr 11) [.nam n0,.nam n1] with | .inl f=>_ | .inr as=>_)=_
  unfold args
  rw[a0]
  dsimp only
  unfold args
  rw[a1]
  rfl
 have thr:∀ z,out [(n0,x),(n1,y)] 12 (.node z [.nam n0,.nam n0,.nam n1])=made z [.cl x n0,.cl x n0,.cl y n1]:=fun z=>by
  show(match args (out _ 11) (wr 11) [.nam n0,.nam n0,.nam n1] with | .inl f=>_ | .inr as=>_)=_
  unfold args
  rw[a0]
  dsimp only
  unfold args
  rw[a0]
  dsimp only
  unfold args
  rw[a1]
  rfl
 have Aqu:∀ z,out [(n0,x),(n1,y)] 12 (.node z [.nam n0,.num a,.num b])=made z [.cl x n0,.num a,.num b]:=fun z=>by
  show(match args (out _ 11) (wr 11) [.nam n0,.num a,.num b] with | .inl f=>_ | .inr as=>_)=_
  unfold args
  rw[a0]
  rfl
 have ones:∀ v,Clo v→(Res.ok v)=resOf (some v):=fun v h=>(Aob h).symm
 simp only [w9,Ar3,Ar4,or_false] at hz
 rcases hz with rfl | rfl | rfl | rfl | rfl | rfl | rfl | rfl | rfl
 ·show out _ 12 (.node tiW [.nam n0,.num a,.num b])=resOf (if a<1∨b<1 then none else some (til x a b))
  rw[Aqu]
  show Acj x a b=_
  unfold Acj
  by_cases h:a<1∨b<1
  ·rw[if_pos h,if_pos h];rfl
  ·rw[if_neg h,if_neg h]
   have l1:(til x a b).length=x.length*b:=by unfold til;rw[SQ];unfold wid;rw[Arq,ArV]
   have l2:wdt (til x a b)=wdt x*a:=Aau (by rw[l1];exact Asj C.n1 (by omega)) fun r hr=>by
    obtain⟨s,hs,rfl⟩:=List.mem_map.mp (UJ hr)
    rw[SQ,C.hm s hs,ArV]
   unfold resOf
   dsimp only
   rw[l1,l2]
   by_cases g:40<wdt x*a∨40<x.length*b
   ·rw[if_pos g,if_pos g.symm]
   ·rw[if_neg g,if_neg (fun z=>g z.symm)]
 ·show out _ 12 (.node beW [.nam n0,.nam n1])=resOf (if x.length=y.length then some (List.zipWith (·++·) x y) else none)
  rw[two]
  show UL x y=_
  unfold UL
  by_cases h:x.length=y.length
  ·rw[if_neg (fun z=>z h),if_pos h]
   have l1:(List.zipWith (·++·) x y).length=x.length:=by rw[Asz,← h,ArO]
   have l2:wdt (List.zipWith (·++·) x y)=wdt x+wdt y:=Aau (by rw[l1];exact C.n1) fun r hr=>by
    obtain⟨a,ha,b,hb,rfl⟩:=Acm hr
    rw[Arp,C.hm a ha,D.hm b hb]
   unfold resOf
   dsimp only
   rw[l1,l2]
   by_cases g:40<wdt x+wdt y∨40<x.length
   ·rw[if_pos g,if_pos g.symm]
   ·rw[if_neg g,if_neg (fun z=>g z.symm)]
  ·rw[if_pos h,if_neg h];rfl
 ·show out _ 12 (.node abW [.nam n0,.nam n1])=resOf (if wdt x=wdt y then some (x++y) else none)
  rw[two]
  show Ye x y=_
  unfold Ye
  by_cases h:wdt x=wdt y
  ·rw[if_neg (fun z=>z h),if_pos h]
   have l2:wdt (x++y)=wdt x:=Aau (by rw[Arp];have:=C.n1;omega) fun r hr=>by
    rcases List.mem_append.mp hr with hr | hr
    ·exact C.hm r hr
    ·rw[h];exact D.hm r hr
   unfold resOf
   dsimp only
   rw[l2,Arp]
   by_cases g:40<wdt x∨40<x.length+y.length
   ·rw[if_pos g,if_pos g.symm]
   ·rw[if_neg g,if_neg (fun z=>g z.symm)]
  ·rw[if_pos h,if_neg h];rfl
 ·show out _ 12 (.node blW [.nam n0,.nam n0,.nam n1])=resOf (if wdt x=wdt y∧x.length=y.length then some (fil x x y) else none)
  rw[thr]
  show UT x x y=_
  unfold UT
  by_cases h:wdt x=wdt y∧x.length=y.length
  ·rw[if_neg (by omega),if_pos h]
   have D':Cl y (wdt x) x.length:=by rw[h.1,h.2];exact D
   have l1:(fil x x y).length=x.length*x.length:=Aep C C D'
   have l2:wdt (fil x x y)=wdt x*wdt x:=Aau (by rw[l1];exact Asj C.n1 C.n1) fun r hr=>by
    unfold fil at hr
    obtain⟨u,hu,hr⟩:=List.mem_flatMap.mp hr
    obtain⟨⟨a,b⟩,hq,rfl⟩:=List.mem_map.mp hr
    have z:=Ash hq
    rw[Ach C C D' z.1 z.2,C.hm u hu]
   unfold resOf
   dsimp only
   rw[l1,l2]
   by_cases g:40<wdt x*wdt x∨40<x.length*x.length
   ·rw[if_pos g,if_pos g.symm]
   ·rw[if_neg g,if_neg (fun z=>g z.symm)]
  ·rw[if_pos (by omega),if_neg h];rfl
 ·show out _ 12 (.node laW [.nam n0,.nam n1])=resOf (if wdt x=wdt y∧x.length=y.length then some (ld2 x y) else none)
  rw[two]
  show AgJ x y=_
  unfold AgJ
  by_cases h:wdt x=wdt y∧x.length=y.length
  ·rw[if_neg (by omega),if_pos h]
   have D':Cl y (wdt x) x.length:=by rw[h.1,h.2];exact D
   rw[Am4 C D']
   have zl:(x.zip y).length=x.length:=by rw[Asl,D'.hn,ArO]
   have l1:(ld2 x y).length=2*x.length:=by unfold ld2;rw[Iw (h:=2) _ fun q _=>rfl,zl];omega
   have l2:wdt (ld2 x y)=2*wdt x:=Aau (by rw[l1];have:=C.n1;omega) fun r hr=>by
    unfold ld2 at hr
    obtain⟨⟨a,b⟩,hq,hr⟩:=List.mem_flatMap.mp hr
    have z:=Ash hq
    rcases List.mem_cons.mp hr with rfl | hr
    ·rw[Ab8,C.hm a z.1]
    ·rw[List.mem_singleton.mp hr,Ab9,D'.hm b z.2]
   unfold resOf
   dsimp only
   rw[l1,l2]
   by_cases g:40<2*wdt x∨40<2*x.length
   ·rw[if_pos g,if_pos g.symm]
   ·rw[if_neg g,if_neg (fun z=>g z.symm)]
  ·rw[if_pos (by omega),if_neg h];rfl
 ·show out _ 12 (.node miW [.nam n0])=_
  rw[one]
  exact ones _ (ZR C).clo
 ·show out _ 12 (.node upW [.nam n0])=_
  rw[one]
  exact ones _ (Acn C).clo
 ·show out _ 12 (.node baW [.nam n0])=_
  rw[one]
  exact ones _ (Cl.back C).clo
 ·show out _ 12 (.node quW [.nam n0])=_
  rw[one]
  exact ones _ (Cl.YL C).clo
theorem Am5{z:List Nat}{x y v:List (List Nat)}{a b:Nat}(hz:z∈w9)(C:Clo x)(D:Clo y)(ha:a<9)(hb:b<9)(h:due z x y a b=some v):1≤v.length∧v.length≤1600∧∃ u,v[0]?=some u∧u.length=wdt v∧wdt v≤1600:=by
 have x1:=C.n1
 have x40:=C.n40
 have Rt:=C.m40
 have y40:=D.n40
 have AnX:=D.m40
 have fin:∀{v:List (List Nat)} {m n:Nat},v.length=n→(∀ r∈v,r.length=m)→1≤n→n≤1600→m≤1600→1≤v.length∧v.length≤1600∧∃ u,v[0]?=some u∧u.length=wdt v∧wdt v≤1600:=fun {v m n} e1 e2 h1 h2 h3=>by
  have w:=Aau (by omega) e2
  cases v with
  | nil=>simp at e1;omega
  | cons r v=>exact⟨by omega,by omega,r,rfl,by rw[w];exact e2 r ArD,by omega⟩
 have clo:∀{v:List (List Nat)},Clo v→1≤v.length∧v.length≤1600∧∃ u,v[0]?=some u∧u.length=wdt v∧wdt v≤1600:=fun {v} c=>fin rfl c.hm c.n1 (by have:=c.n40;omega) (by have:=c.m40;omega)
 simp only [w9,Ar3,Ar4,or_false] at hz
 rcases hz with rfl | rfl | rfl | rfl | rfl | rfl | rfl | rfl | rfl
 ·have h:(if a<1∨b<1 then none else some (til x a b))=some v:=h
  split at h
  ·cases h
  ·cases h
   have m1:x.length*b≤40*9:=Asa x40 (by omega)
   have m2:wdt x*a≤40*9:=Asa Rt (by omega)
   exact fin (m:=wdt x*a) (n:=x.length*b) (by unfold til;rw[SQ];unfold wid;rw[Arq,ArV]) (fun r hr=>by
    obtain⟨s,hs,rfl⟩:=List.mem_map.mp (UJ hr)
    rw[SQ,C.hm s hs,ArV]) (Asj x1 (by omega)) (by omega) (by omega)
 ·have h:(if x.length=y.length then some (List.zipWith (·++·) x y) else none)=some v:=h
  split at h
  next e =>
   cases h
   exact fin (m:=wdt x+wdt y) (n:=x.length) (by rw[Asz,← e,ArO]) (fun r hr=>by
    obtain⟨a,ha,b,hb,rfl⟩:=Acm hr
    rw[Arp,C.hm a ha,D.hm b hb]) x1 (by omega) (by omega)
  ·cases h
 ·have h:(if wdt x=wdt y then some (x++y) else none)=some v:=h
  split at h
  next e =>
   cases h
   exact fin (m:=wdt x) (n:=x.length+y.length) (by rw[Arp]) (fun r hr=>by
    rcases List.mem_append.mp hr with hr | hr
    ·exact C.hm r hr
    ·rw[e];exact D.hm r hr) (by omega) (by omega) (by omega)
  ·cases h
 ·have h:(if wdt x=wdt y∧x.length=y.length then some (fil x x y) else none)=some v:=h
  split at h
  next e =>
   cases h
   have D':Cl y (wdt x) x.length:=by rw[e.1,e.2];exact D
   have m1:x.length*x.length≤40*40:=Asa x40 x40
   have m2:wdt x*wdt x≤40*40:=Asa Rt Rt
   exact fin (m:=wdt x*wdt x) (n:=x.length*x.length) (Aep C C D') (fun r hr=>by
    unfold fil at hr
    obtain⟨u,hu,hr⟩:=List.mem_flatMap.mp hr
    obtain⟨⟨a,b⟩,hq,rfl⟩:=List.mem_map.mp hr
    have z:=Ash hq
    rw[Ach C C D' z.1 z.2,C.hm u hu]) (Asj x1 x1) (by omega) (by omega)
  ·cases h
 ·have h:(if wdt x=wdt y∧x.length=y.length then some (ld2 x y) else none)=some v:=h
  split at h
  next e =>
   cases h
   have D':Cl y (wdt x) x.length:=by rw[e.1,e.2];exact D
   have zl:(x.zip y).length=x.length:=by rw[Asl,D'.hn,ArO]
   exact fin (m:=2*wdt x) (n:=2*x.length) (by unfold ld2;rw[Iw (h:=2) _ fun q _=>rfl,zl];omega) (fun r hr=>by
    unfold ld2 at hr
    obtain⟨⟨a,b⟩,hq,hr⟩:=List.mem_flatMap.mp hr
    have z:=Ash hq
    rcases List.mem_cons.mp hr with rfl | hr
    ·rw[Ab8,C.hm a z.1]
    ·rw[List.mem_singleton.mp hr,Ab9,D'.hm b z.2]) (by omega) (by omega) (by omega)
  ·cases h
 ·cases h;exact clo (ZR C).clo
 ·cases h;exact clo (Acn C).clo
 ·cases h;exact clo (Cl.back C).clo
 ·cases h;exact clo (Cl.YL C).clo
end K57
open K57 (s2 st nmT w9 due nd resOf)
section
variable {P:Program}{w:World}{K:PySem.W.Frag}{mg:Str→Option Value}{base:Heap}{t:Adr}
def Apv (K:PySem.W.Frag):Sp:=fun vs H Q _=>∃(a:Addr) (ns:List Int) (i:Int),vs=[.ref a,.int i]∧SqL K H a (vI ns)∧0≤i∧∀ c:Int,Q (.int c) H
theorem Ajo(T:Txt K mg t):Aj P w K mg base CX0 1 t.Uq t.Ur ["script", "k"] (Apv K):=by
 refine T.TQ.F.ok AiN (fun vs H Q E h=>?_) (fun cdv A outer s H vs Q E hr h=>?_)
 ·obtain⟨a,ns,i,rfl,_⟩:=h
  rfl
 ·obtain⟨a,ns,i,rfl,hS,hi,k⟩:=h
  refine⟨_,(Ac (BK (Ao R5 (pv 1) (Bq (Bx (K:=K)) rfl T.Ec CW (Aa (pv 0) Ab)) (Ax _))
    (Ae (Bb (BL (Bo (K:=K)) (pv 0) (pv 1) (fun _ _=>rfl))))
    Aw)
   (Ae (Bb Ak))),?_⟩
  refine⟨_,rfl,_,rfl,_,_,rfl,.inl hS,_,_,rfl,rfl,_,rfl,?_⟩
  refine Ey (fun h1=>?_) (fun h1=>?_)
  ·rw[Kw] at h1
   have hlt:i.toNat<ns.length:=by omega
   exact⟨_,rfl,_,rfl,_,_,_,_,rfl,rfl,hS,CZ hi (ZM (Aru hlt)),k _⟩
  ·exact k 0
def Ajp:Sp:=fun vs H Q _=>∃ c:Int,vs=[.int c]∧∀ i l H',i<5→Bg H H'→H l=none→H' l=some (.lst (vS [nmT i 116,nmT i 119]))→Q (.ref l) H'
theorem AeK(T:Txt K mg t):Aj P w K mg base CX0 1 t.Og t.Oh ["cell"] Ajp:=by
 refine T.Xw.F.ok YZ (fun vs H Q E h=>?_) (fun cdv A outer s H vs Q E hr h=>?_)
 ·obtain⟨c,rfl,_⟩:=h
  rfl
 ·obtain⟨c,rfl,k⟩:=h
  refine⟨_,(Ac (BP (i:=1) YZ.nd rfl (Or.inl rfl) (Bv R4 (pv 0) Ak))
   (Ae (Bb (Ez (Aa (Bv Bh (Bv Bh (Ku Wa Ag Rj (Lh (pv 1))) Ag) (Ku Wa Ag (Lh (pv 1)) Rj)) (Aa (Bv Bh (Bv Bh (Ku Wa Ag Rj (Lh (pv 1))) Ag) (Ku Wa Ag (Lh (pv 1)) Rj)) Ab)))))),?_⟩
  obtain⟨i,ei,hi⟩:∃ i:Nat,c%5=(i:Int)∧i<5:=⟨(c%5).toNat,by omega,by omega⟩
  have l5:(s2 "ooooo").length=5∧(s2 "oooo").length=4∧s2 "t" = [116]∧s2 "w" = [119]:=by decide +kernel
  obtain⟨l5,l4,et,ew⟩:=l5
  refine⟨_,rfl,_,_,rfl,rfl,(by show(0:Int)<5;decide),?_⟩
  refine Jo (v':=.int (i:Int)) (congrArg V.int ei) rfl ?_
  rw[st "ooooo", st "oooo", st "t", st "w", et,ew]
  have c4:AaX (s2 "oooo") (some (i:Int)) none=(s2 "oooo").drop i:=Agf (by omega)
  refine⟨_,rfl,_,rfl,_,rfl,big (by omega),?_⟩
  rw[Ag8 (by omega)]
  refine⟨_,_,rfl,rfl,(by rw[Ah,Ah,Ar1];exact big (by simp only [Ars,Arv];omega)),?_⟩
  rw[Dj]
  refine⟨_,rfl,_,rfl,_,rfl,big (by omega),?_⟩
  rw[c4]
  refine⟨_,_,rfl,rfl,(by rw[Ah,Ah,Arp,Ar1,ArM];exact big (by simp only [Ars,Arv];omega)),?_⟩
  rw[Dj]
  refine⟨_,rfl,_,rfl,_,rfl,big (by omega),?_⟩
  rw[Ag8 (by omega)]
  refine⟨_,_,rfl,rfl,(by rw[Ah,Ah,Ar1];exact big (by simp only [Ars,Arv];omega)),?_⟩
  rw[Dj]
  refine⟨_,rfl,_,rfl,_,rfl,big (by omega),?_⟩
  rw[c4]
  refine⟨_,_,rfl,rfl,(by rw[Ah,Ah,Arp,Ar1,ArM];exact big (by simp only [Ars,Arv];omega)),?_⟩
  rw[Dj]
  exact⟨(by show 2≤sizeLine;decide),fun l nl=>k i l _ hi (.upd nl) nl Ad⟩
def Am6 (K:PySem.W.Frag):Sp:=fun vs H Q _=>∃(z:List Nat) (o p:Addr) (x y:List (List Nat)) (a b:Nat),vs=[.str (tx z),.ref o,.ref p,.int (a:Int),.int (b:Int)]∧z∈w9∧H o=some (.lst (vS x))∧H p=some (.lst (vS y))∧Clo x∧Clo y∧a<9∧b<9 ∧
 (due z x y a b=none→∀ H',Bg H H'→Q .non H')∧(∀ v,due z x y a b=some v→∀ l H',Bg H H'→H' l=some (.lst (vS v))→Q (.ref l) H')
theorem Ahn(T:Txt K mg t):Aj P w K mg base CX0 3 t.Ry t.Rz ["word", "one", "other", "a", "b"] (Am6 K):=by
 have AeL:Aj P w K mg base CX0 2 t.Lz t.LC _ _:=Adw T
 have AeM:Aj P w K mg base CX0 1 t.LK t.LQ _ _:=Adx T
 have Aho:Aj P w K mg base CX0 1 t.Ql t.Qm _ _:=Agk T
 refine T.Abx.F.ok Yk (fun vs H Q E h=>?_) (fun cdv A outer s H vs Q E hr h=>?_)
 ·obtain⟨z,o,p,x,y,a,b,rfl,_⟩:=h
  rfl
 ·obtain⟨z,o,p,x,y,a,b,rfl,hz,hO',hP',C,D,ha,hb,k0,k1⟩:=h
  have hO:SqL K H o (vS x):=SqL.of hO'
  have hP:SqL K H p (vS y):=SqL.of hP'
  refine⟨_,(Ac (BP (i:=5) Yk.nd rfl (Or.inl rfl) (Lg Eh (Bq Ca rfl T.Ec CW (Aa (BL (Bo (K:=K)) (pv 1) Ak (fun _ _=>rfl)) Ab)) (Bq Ca rfl T.Ec CW (Aa (BL (Bo (K:=K)) (pv 2) Ak (fun _ _=>rfl)) Ab)) (Ax _)))
   (Ac (BP (i:=6) Yk.nd rfl (Or.inl rfl) (Lg Eh (Bq (Bx (K:=K)) rfl T.Ec CW (Aa (pv 1) Ab)) (Bq (Bx (K:=K)) rfl T.Ec CW (Aa (pv 2) Ab)) (Ax _)))
   (Ac (BK (Ao Eh (pv 0) Ag (Ax _))
    (Ac (BK (PW.pt (pw_or (Ao R5 (pv 3) Ak (Ax _)) (pw_or1 (Ao R5 (pv 4) Ak (Ax _)))))
     (Ae (Bb Py))
     Aw)
    (Ae (Bb (Bv AbN (Gq (DK.mk (Bp:=[3]) (Nc:=["row", "a"]) rfl (by decide +kernel) (by decide +kernel) (Dy (sc0:=Af Uo) rfl (by decide +kernel)) rfl rfl rfl (by decide +kernel) (fun k j h=>match k,h with | 0,h=>by obtain rfl:=Option.some.inj h;exact⟨_,rfl,rfl,rfl⟩ | _+1,h=>by simp at h)) rfl (Ej (K:=K) (pv 1)) (fun _ _ _ _ _=>.nil) (fun _ _ _ _ _=>(Bv Xg (pv 0) (pv 1)))) (pv 4)))))
    Aw)
   (Ac (BK (Ao Eh (pv 0) Ag (Ax _))
    (Ae (Bb (Ov (PB (K:=K) (pv 6) (fun _=>rfl)) (Gq (DK.mk (Bp:=[1,2]) (Nc:=["j", "one", "other"]) rfl (by decide +kernel) (by decide +kernel) (Dy (sc0:=Af Uo) rfl (by decide +kernel)) rfl rfl rfl (by decide +kernel) (fun k j h=>match k,h with | 0,h=>by obtain rfl:=Option.some.inj h;exact⟨_,rfl,rfl,rfl⟩ | 1,h=>by obtain rfl:=Option.some.inj h;exact⟨_,rfl,rfl,rfl⟩ | _+2,h=>by simp at h)) rfl (Iu rfl T.Nx (Aa (Bq (Bx (K:=K)) rfl T.Ec CW (Aa (pv 1) Ab)) Ab)) (fun _ _ _ _ _=>.nil) (fun _ _ _ _ _=>(Bv Bh (BL (Bo (K:=K)) (pv 1) (pv 0) (fun _ _=>rfl)) (BL (Bo (K:=K)) (pv 2) (pv 0) (fun _ _=>rfl))))) Py)))
    Aw)
   (Ac (BK (Ao Eh (pv 0) Ag (Ax _))
    (Ae (Bb (Ov (PB (K:=K) (pv 5) (fun _=>rfl)) (Bv Aj4 (pv 1) (pv 2)) Py)))
    Aw)
   (Ac (BK (Ao Eh (pv 0) Ag (Ax _))
    (Ae (Bb (Ov (PW.pt (pw_and (PB (K:=K) (pv 5) (fun _=>rfl)) (pw_and1 (PB (K:=K) (pv 6) (fun _=>rfl))))) (Aq (AeM.mono (by decide)) hr rfl T.Vq.m T.Vq.F.kp T.Vq.b .nil An (Aa (pv 1) (Aa (pv 1) (Aa (pv 2) Ab)))) Py)))
    Aw)
   (Ac (BK (Ao Eh (pv 0) Ag (Ax _))
    (Ae (Bb (Ov (PW.pt (pw_and (PB (K:=K) (pv 5) (fun _=>rfl)) (pw_and1 (PB (K:=K) (pv 6) (fun _=>rfl))))) (Aq (Aho.mono (by decide)) hr rfl T.Zg.m T.Zg.F.kp T.Zg.b .nil An (Aa (pv 1) (Aa (pv 2) Ab))) Py)))
    Aw)
   (Ae (Bb (Aq (AeL.mono (by decide)) hr rfl T.Vp.m T.Vp.F.kp T.Vp.b .nil An (Aa (pv 0) (Aa (pv 1) Ab)))))))))))),?_⟩
  have hsz:sizeLine=16777216:=sizeLine_eq
  have x40:=C.n40
  have Rt:=C.m40
  have y40:=D.n40
  have AnX:=D.m40
  obtain⟨u0,hu0,lu0⟩:=C.at C.n1
  obtain⟨v0,hv0,lv0⟩:=D.at D.n1
  refine⟨_,rfl,_,_,_,_,rfl,rfl,hO,Ot (i:=0) hu0,_,rfl,(by rw[Ah,lu0];exact CG Rt),_,rfl,_,_,_,_,rfl,rfl,hP,Ot (i:=0) hv0,_,rfl,(by rw[Ah,lv0];exact CG AnX),rfl,?_⟩
  have ew:decide (V.int ((tx u0).length:Int)=V.int ((tx v0).length:Int))=decide (wdt x=wdt y):=by
   rw[Ah,Ah,lu0,lv0]
   exact decide_eq_decide.mpr ⟨fun z=>by injection z with z;omega,fun z=>by rw[z]⟩
  refine Jo (v':=.bl (decide (wdt x=wdt y))) (congrArg V.bl ew) rfl ?_
  refine⟨_,rfl,_,_,rfl,.inl hO,_,rfl,_,_,rfl,.inl hP,rfl,?_⟩
  have eh:decide (V.int ((vS x).length:Int)=V.int ((vS y).length:Int))=decide (x.length=y.length):=by
   rw[Bj,Bj]
   exact decide_eq_decide.mpr ⟨fun z=>by injection z with z;omega,fun z=>by rw[z]⟩
  refine Jo (v':=.bl (decide (x.length=y.length))) (congrArg V.bl eh) rfl ?_
  refine⟨_,rfl,rfl,_,rfl,?_⟩
  rw[Zy]
  by_cases c1:z=tiW
  ·subst c1
   refine GF rfl ?_
   have ed:due tiW x y a b=if a<1∨b<1 then none else some (til x a b):=rfl
   refine⟨_,rfl,_,_,rfl,rfl,_,rfl,?_⟩
   refine Ey (fun d1=>?_) (fun d1=>?_)
   ·exact Px (k0 (by rw[ed,if_pos (by omega)]) _ (.refl _))
   refine⟨_,rfl,_,_,rfl,rfl,_,rfl,?_⟩
   refine Ey (fun d2=>?_) (fun d2=>?_)
   ·exact k0 (by rw[ed,if_pos (by omega)]) _ (.refl _)
   rw[if_neg (by omega)] at ed
   refine⟨_,rfl,_,rfl,⟨_,hO⟩,Iv (K:=K) (a:=o) (xs:=vS x) (fun i ys H2=>H2=H∧ys=vS (wid (x.take i) a)) ⟨rfl,rfl⟩ ?_ ?_ ?_ ?_⟩
   ·rintro i ys H2 hi ⟨rfl,rfl⟩
    refine⟨hO,?_⟩
    unfold wid
    rw[Bj,Arq,Ar1]
    omega
   ·rw[Bj];exact CG x40
   ·rintro i xv ys H2 hi hx ⟨rfl,rfl⟩
    obtain⟨u,hu,rfl⟩:=Mr hx
    have hul:=C.hm u (ArE hu)
    refine Fq.no ?_
    have bd:u.length*a≤40*9:=by rw[hul];exact Asa Rt (by omega)
    refine⟨_,rfl,_,rfl,u,(a:Int),rfl,rfl,by omega,by omega,(by rw[Ar7];omega),?_⟩
    rw[Ar7]
    refine CN.of hi ⟨rfl,?_⟩
    unfold wid
    rw[Ei,Ar5,hu,Arz]
    rfl
   ·rintro ys H2 q ⟨rfl,rfl⟩ hq
    rw[Bj,ArI]
    have bd:x.length*b≤40*9:=Asa x40 (by omega)
    refine⟨_,rfl,_,_,_,rfl,rfl,Ad,by omega,by omega,?_,fun l hl=>?_⟩
    ·rw[Bj,Ar7]
     unfold wid
     rw[Arq]
     omega
    ·rw[Ahi,Ar7]
     exact k1 _ ed l _ ((Bg.upd hq).new hl) Ad
  refine DN (Np c1) ?_
  refine⟨_,rfl,rfl,_,rfl,?_⟩
  rw[Ab1]
  by_cases c2:z=beW
  ·subst c2
   refine GF rfl ?_
   have ed:due beW x y a b=if x.length=y.length then some (List.zipWith (·++·) x y) else none:=rfl
   refine⟨_,rfl,_,rfl,?_⟩
   refine Ey (fun d1=>?_) (fun d1=>?_)
   ·rw[if_pos d1] at ed
    have zl:(List.zipWith (·++·) x y).length=x.length:=by rw[Asz,← d1,ArO]
    refine⟨_,rfl,_,_,rfl,.inl hO,_,rfl,(by omega),(by rw[Bj];omega),?_⟩
    rw[Bj,Ar7]
    refine Kv (lo:=0) (n:=x.length) (fun i ys H2=>H2=H∧ys=vS ((List.zipWith (·++·) x y).take i)) ⟨rfl,rfl⟩ ?_ ?_ ?_ ?_
    ·rintro i ys H2 hi ⟨rfl,rfl⟩
     rw[Bj,Ar1]
     omega
    ·exact CG x40
    ·rintro i ys H2 hi ⟨rfl,rfl⟩
     have hi2:i<y.length:=by omega
     have w1:=C.hm _ (ArG hi)
     have w2:=D.hm _ (ArG hi2)
     refine Fq.no ?_
     refine⟨_,rfl,_,rfl,_,_,_,_,rfl,rfl,hO,(by rw[Asd];exact Ot (Aru hi)),_,rfl,_,rfl,_,_,_,_,rfl,rfl,hP,(by rw[Asd];exact Ot (Aru hi2)),_,_,rfl,rfl,(by rw[Ah,Ah,w1,w2];exact big (by omega)),?_⟩
     rw[Dj]
     refine CN.of hi ⟨rfl,?_⟩
     rw[Ei,Ar5,List.getElem?_zipWith,Aru hi,Aru hi2]
     rfl
    ·rintro ys H2 l ⟨rfl,rfl⟩ nl
     rw[ArS (by rw[zl];exact Art _)]
     exact k1 _ ed l _ (.upd nl) Ad
   ·rw[if_neg d1] at ed
    exact k0 ed _ (.refl _)
  refine DN (Np c2) ?_
  refine⟨_,rfl,rfl,_,rfl,?_⟩
  rw[Ab2]
  by_cases c3:z=abW
  ·subst c3
   refine GF rfl ?_
   have ed:due abW x y a b=if wdt x=wdt y then some (x++y) else none:=rfl
   refine⟨_,rfl,_,rfl,?_⟩
   refine Ey (fun d1=>?_) (fun d1=>?_)
   ·rw[if_pos d1] at ed
    refine⟨_,rfl,_,rfl,o,p,_,_,rfl,rfl,hO',hP',(by rw[Bj,Bj];exact big (by omega)),fun l nl=>?_⟩
    rw[show vS x++vS y=vS (x++y) by unfold vS;rw[Arz]]
    exact k1 _ ed l _ (.upd nl) Ad
   ·rw[if_neg d1] at ed
    exact k0 ed _ (.refl _)
  refine DN (Np c3) ?_
  refine⟨_,rfl,rfl,_,rfl,?_⟩
  rw[Ab6]
  by_cases c4:z=blW
  ·subst c4
   refine GF rfl ?_
   have ed:due blW x y a b=if wdt x=wdt y∧x.length=y.length then some (fil x x y) else none:=rfl
   refine⟨_,rfl,_,rfl,?_⟩
   refine Ey (fun d1=>?_) (fun d1=>?_)
   ·refine⟨_,rfl,_,rfl,?_⟩
    refine Ey (fun d2=>?_) (fun d2=>?_)
    ·rw[if_pos ⟨d1,d2⟩] at ed
     have D':Cl y (wdt x) x.length:=by rw[d1,d2];exact D
     exact⟨_,rfl,_,rfl,_,rfl,o,o,p,x,x,y,rfl,hO,hO,hP,C,C,D',fun l H' s' _ hl=>k1 _ ed l H' s' hl⟩
    ·rw[if_neg (fun z=>d2 z.2)] at ed
     exact k0 ed _ (.refl _)
   ·rw[if_neg (fun z=>d1 z.1)] at ed
    exact Rk (k0 ed _ (.refl _))
  refine DN (Np c4) ?_
  refine⟨_,rfl,rfl,_,rfl,?_⟩
  rw[AeE]
  by_cases c5:z=laW
  ·subst c5
   refine GF rfl ?_
   have ed:due laW x y a b=if wdt x=wdt y∧x.length=y.length then some (ld2 x y) else none:=rfl
   refine⟨_,rfl,_,rfl,?_⟩
   refine Ey (fun d1=>?_) (fun d1=>?_)
   ·refine⟨_,rfl,_,rfl,?_⟩
    refine Ey (fun d2=>?_) (fun d2=>?_)
    ·rw[if_pos ⟨d1,d2⟩] at ed
     have D':Cl y (wdt x) x.length:=by rw[d1,d2];exact D
     exact⟨_,rfl,_,rfl,o,p,x,y,rfl,hO,hP,C,D',fun l H' s' _ hl=>k1 _ ed l H' s' hl⟩
    ·rw[if_neg (fun z=>d2 z.2)] at ed
     exact k0 ed _ (.refl _)
   ·rw[if_neg (fun z=>d1 z.1)] at ed
    exact Rk (k0 ed _ (.refl _))
  refine DN (Np c5) ?_
  have hz4:z=miW∨z=upW∨z=baW∨z=quW:=by
   simp only [w9,Ar3,Ar4,or_false] at hz
   rcases hz with h | h | h | h | h | h
   ·exact absurd h c1
   ·exact absurd h c2
   ·exact absurd h c3
   ·exact absurd h c4
   ·exact absurd h c5
   ·exact h
  refine⟨_,rfl,_,rfl,z,o,x,rfl,hz4,hO,C,fun l v H' s' _ hl e=>?_⟩
  refine k1 v ?_ l H' s' hl
  unfold K57.due
  rw[if_neg c1,if_neg c2,if_neg c3,if_neg c4,if_neg c5,e]
end
open K57 (s2 st nmT w9 due nd resOf)
section
variable {P:Program}{w:World}{K:PySem.W.Frag}{mg:Str→Option Value}{base:Heap}{t:Adr}
def Ald (K:PySem.W.Frag):Sp:=fun vs H Q _=>∃(z n0 n1:List Nat) (l:Addr) (a b:Nat),vs=[.str (tx z),.ref l,.int (a:Int),.int (b:Int)]∧z∈w9∧SqL K H l (vS [n0,n1])∧n0.length=5∧n1.length=5∧a<9∧b<9∧∀ H',Bg H H'→Q (.str (tx (wr 12 (nd z n0 n1 a b)))) H'
theorem Ale{z:List Nat}(h:z∈w9):z.length≤7:=by
 have:∀ z∈w9,z.length≤7:=by decide
 exact this z h
theorem Agl(T:Txt K mg t):Aj P w K mg base CX0 1 t.Qn t.Qo ["word", "names", "a", "b"] (Ald K):=by
 refine T.Zh.F.ok AfH (fun vs H Q E h=>?_) (fun cdv A outer s H vs Q E hr h=>?_)
 ·obtain⟨z,n0,n1,l,a,b,rfl,_⟩:=h
  rfl
 ·obtain⟨z,n0,n1,l,a,b,rfl,hz,hL,l0,l1,ha,hb,k⟩:=h
  refine⟨_,(Ac (BK (Ao Eh (pv 0) Ag (Ax _))
    (Ae (Bb (Bv Bh (Bv Bh (Bv Bh (Bv Bh (Bv Bh (Bv Bh (Bv Bh (pv 0) Ag) (BL (Bo (K:=K)) (pv 1) Ak (fun _ _=>rfl))) Ag) (Ex HR rfl T.AaP VR (Aa (pv 2) Ab))) Ag) (Ex HR rfl T.AaP VR (Aa (pv 3) Ab))) Ag)))
    Aw)
   (Ac (BK (Ao (Ag7 (K:=K)) (pv 0) (Ez (Aa Ag (Aa Ag (Aa Ag Ab)))) rfl)
    (Ae (Bb (Bv Bh (Bv Bh (Bv Bh (Bv Bh (Bv Bh (pv 0) Ag) (BL (Bo (K:=K)) (pv 1) Ak (fun _ _=>rfl))) Ag) (BL (Bo (K:=K)) (pv 1) Ak (fun _ _=>rfl))) Ag)))
    Aw)
   (Ac (BK (Ao Eh (pv 0) Ag (Ax _))
    (Ae (Bb (Bv Bh (Bv Bh (Bv Bh (Bv Bh (Bv Bh (Bv Bh (Bv Bh (pv 0) Ag) (BL (Bo (K:=K)) (pv 1) Ak (fun _ _=>rfl))) Ag) (BL (Bo (K:=K)) (pv 1) Ak (fun _ _=>rfl))) Ag) (BL (Bo (K:=K)) (pv 1) Ak (fun _ _=>rfl))) Ag)))
    Aw)
   (Ae (Bb (Bv Bh (Bv Bh (Bv Bh (pv 0) Ag) (BL (Bo (K:=K)) (pv 1) Ak (fun _ _=>rfl))) Ag)))))),?_⟩
  have zl:=Ale hz
  have pa:=(dec_is (show a<100 by omega)).l2
  have pb:=(dec_is (show b<100 by omega)).l2
  have v0:atI (vS [n0,n1]) 0=some (.str (tx n0)):=Ot (i:=0) rfl
  have v1:atI (vS [n0,n1]) 1=some (.str (tx n1)):=Ot (i:=1) rfl
  refine⟨_,rfl,rfl,_,rfl,?_⟩
  rw[Zy]
  by_cases c1:z=tiW
  ·subst c1
   refine GF rfl ?_
   rw[W5,U0,Xz]
   refine⟨_,rfl,_,_,rfl,rfl,(by rw[Ah,Ah];exact big (by simp only [Ars,Arv];omega)),?_⟩
   rw[Dj]
   refine⟨_,rfl,_,_,_,_,rfl,rfl,hL,v0,_,_,rfl,rfl,(by rw[Ah,Ah,Arp];exact big (by simp only [Ars,Arv];omega)),?_⟩
   rw[Dj]
   refine⟨_,_,rfl,rfl,(by rw[Ah,Ah,Arp,Arp];exact big (by simp only [Ars,Arv];omega)),?_⟩
   rw[Dj]
   refine⟨_,rfl,_,rfl,lg (show a<100 by omega),?_⟩
   rw[Wc a]
   refine⟨_,_,rfl,rfl,(by rw[Ah,Ah];(try simp only [Arp]);exact big (by simp only [Ars,Arv];omega)),?_⟩
   rw[Dj]
   refine⟨_,_,rfl,rfl,(by rw[Ah,Ah];(try simp only [Arp]);exact big (by simp only [Ars,Arv];omega)),?_⟩
   rw[Dj]
   refine⟨_,rfl,_,rfl,lg (show b<100 by omega),?_⟩
   rw[Wc b]
   refine⟨_,_,rfl,rfl,(by rw[Ah,Ah];(try simp only [Arp]);exact big (by simp only [Ars,Arv];omega)),?_⟩
   rw[Dj]
   refine⟨_,_,rfl,rfl,(by rw[Ah,Ah];(try simp only [Arp]);exact big (by simp only [Ars,Arv];omega)),?_⟩
   rw[Dj]
   have e:tiW++[40]++n0++[44]++dec a++[44]++dec b++[41]=wr 12 (nd tiW n0 n1 a b):=by
    show _=wz tiW [n0,dec a,dec b]
    unfold wz cj
    simp
   rw[e]
   exact k _ (.refl _)
  refine DN (Np c1) ?_
  refine⟨_,rfl,(by show 3≤sizeLine;decide),fun p np=>?_⟩
  have sp:Bg H (upd H p (.lst [.str "beside", .str "above", .str "lay"])):=.upd np
  have hp:(upd H p (.lst [.str "beside", .str "above", .str "lay"])) p=some (.lst [.str "beside", .str "above", .str "lay"]):=Ad
  generalize upd H p (.lst [.str "beside", .str "above", .str "lay"])=H1 at sp hp ⊢
  have hL':=sp.seq hL
  have ein:inV (V.str (tx z)) [.str "beside", .str "above", .str "lay"]=decide (z=beW∨z=abW∨z=laW):=by
   have:∀ z∈w9,inV (V.str (tx z)) [.str "beside", .str "above", .str "lay"]=decide (z=beW∨z=abW∨z=laW):=by
    simp only [w9,Ar3,Ar4,or_false]
    rintro z (rfl | rfl | rfl | rfl | rfl | rfl | rfl | rfl | rfl) <;> decide +kernel
   exact this z hz
  refine⟨p,_,rfl,.inl (SqL.of hp),rfl,rfl,_,rfl,?_⟩
  rw[if_neg (fun z=>nomatch z),ein]
  rw[W5,U0,Xz]
  refine Ey (fun c2=>?_) (fun c2=>?_)
  ·skip
   refine⟨_,rfl,_,_,rfl,rfl,(by rw[Ah,Ah];(try simp only [Arp]);exact big (by simp only [Ars,Arv];omega)),?_⟩
   rw[Dj]
   refine⟨_,rfl,_,_,_,_,rfl,rfl,hL',v0,_,_,rfl,rfl,(by rw[Ah,Ah];(try simp only [Arp]);exact big (by simp only [Ars,Arv];omega)),?_⟩
   rw[Dj]
   refine⟨_,_,rfl,rfl,(by rw[Ah,Ah];(try simp only [Arp]);exact big (by simp only [Ars,Arv];omega)),?_⟩
   rw[Dj]
   refine⟨_,rfl,_,_,_,_,rfl,rfl,hL',v1,_,_,rfl,rfl,(by rw[Ah,Ah];(try simp only [Arp]);exact big (by simp only [Ars,Arv];omega)),?_⟩
   rw[Dj]
   refine⟨_,_,rfl,rfl,(by rw[Ah,Ah];(try simp only [Arp]);exact big (by simp only [Ars,Arv];omega)),?_⟩
   rw[Dj]
   have e:z++[40]++n0++[44]++n1++[41]=wr 12 (nd z n0 n1 a b):=by
    unfold K57.nd
    rw[if_neg c1,if_pos c2]
    show _=wz z [n0,n1]
    unfold wz cj
    simp
   rw[e]
   exact k _ sp
  refine⟨_,rfl,rfl,_,rfl,?_⟩
  rw[Ab6]
  by_cases c3:z=blW
  ·refine GF (by rw[c3]) ?_
   refine⟨_,rfl,_,_,rfl,rfl,(by rw[Ah,Ah];(try simp only [Arp]);exact big (by simp only [Ars,Arv];omega)),?_⟩
   rw[Dj]
   refine⟨_,rfl,_,_,_,_,rfl,rfl,hL',v0,_,_,rfl,rfl,(by rw[Ah,Ah];(try simp only [Arp]);exact big (by simp only [Ars,Arv];omega)),?_⟩
   rw[Dj]
   refine⟨_,_,rfl,rfl,(by rw[Ah,Ah];(try simp only [Arp]);exact big (by simp only [Ars,Arv];omega)),?_⟩
   rw[Dj]
   refine⟨_,rfl,_,_,_,_,rfl,rfl,hL',v0,_,_,rfl,rfl,(by rw[Ah,Ah];(try simp only [Arp]);exact big (by simp only [Ars,Arv];omega)),?_⟩
   rw[Dj]
   refine⟨_,_,rfl,rfl,(by rw[Ah,Ah];(try simp only [Arp]);exact big (by simp only [Ars,Arv];omega)),?_⟩
   rw[Dj]
   refine⟨_,rfl,_,_,_,_,rfl,rfl,hL',v1,_,_,rfl,rfl,(by rw[Ah,Ah];(try simp only [Arp]);exact big (by simp only [Ars,Arv];omega)),?_⟩
   rw[Dj]
   refine⟨_,_,rfl,rfl,(by rw[Ah,Ah];(try simp only [Arp]);exact big (by simp only [Ars,Arv];omega)),?_⟩
   rw[Dj]
   have e:z++[40]++n0++[44]++n0++[44]++n1++[41]=wr 12 (nd z n0 n1 a b):=by
    unfold K57.nd
    rw[if_neg c1,if_neg c2,if_pos c3]
    show _=wz z [n0,n0,n1]
    unfold wz cj
    simp
   rw[e]
   exact k _ sp
  ·refine DN (Np c3) ?_
   refine⟨_,rfl,_,_,rfl,rfl,(by rw[Ah,Ah];(try simp only [Arp]);exact big (by simp only [Ars,Arv];omega)),?_⟩
   rw[Dj]
   refine⟨_,rfl,_,_,_,_,rfl,rfl,hL',v0,_,_,rfl,rfl,(by rw[Ah,Ah];(try simp only [Arp]);exact big (by simp only [Ars,Arv];omega)),?_⟩
   rw[Dj]
   refine⟨_,_,rfl,rfl,(by rw[Ah,Ah];(try simp only [Arp]);exact big (by simp only [Ars,Arv];omega)),?_⟩
   rw[Dj]
   have e:z++[40]++n0++[41]=wr 12 (nd z n0 n1 a b):=by
    unfold K57.nd
    rw[if_neg c1,if_neg c2,if_neg c3]
    show _=wz z [n0]
    unfold wz cj
    simp
   rw[e]
   exact k _ sp
theorem Alf(T:Txt K mg t){C:Addr}(h:C∈pcs t):Isa K C∧PySem.W.kitOne K (.ref C) (.ref t.Bc)=some true:=by
 simp only [pcs,Ar3,Ar4,or_false] at h
 rcases h with rfl | rfl | rfl | rfl | rfl | rfl | rfl | rfl | rfl | rfl | rfl | rfl | rfl
 ·exact⟨T.Aks,T.Ws⟩
 ·exact⟨T.Amb,T.Zi⟩
 ·exact⟨T.Akt,T.Wu⟩
 ·exact⟨T.Aku,T.Wv⟩
 ·exact⟨T.AiR,T.Us⟩
 ·exact⟨T.Akw,T.Ww⟩
 ·exact⟨T.AiS,T.Ut⟩
 ·exact⟨T.Aky,T.Wy⟩
 ·exact⟨T.Amg,T.Zj⟩
 ·exact⟨T.Aha,T.Sh⟩
 ·exact⟨T.Amh,T.Zk⟩
 ·exact⟨T.AiU,T.Uu⟩
 ·exact⟨T.AnN,T.Ac0⟩
def Rdo (t:Adr)(H:Hp)(Q:VK)(R:Res)(z:List Nat):Prop:=match R with
 | .ok x=>∀ p q H',Bg H H'→Pc t (nw H H') p x z→H' q=some (.tup [.str "", .ref p])→Q (.ref q) H'
 | .no .nop=>∀ q H',Bg H H'→H' q=some (.tup [.str "NoPattern", .non])→Q (.ref q) H'
 | .no .big=>∀ q H',Bg H H'→H' q=some (.tup [.str "TooLarge", .non])→Q (.ref q) H'
 | .no .unk=>False
def Alh (t:Adr):Sp:=fun vs H Q _=>∃(u:List Nat) (kp:Addr) (kn:Kns),vs=[.str (tx u),.ref kp]∧u.length≤1000000∧Kn H kp kn∧(∀ p∈kn,Clo p.2)∧Rdo t H Q (rdp kn u).1 (rdp kn u).2
theorem AcE(T:Txt K mg t):Aj P w K mg base CX0 32 t.JN t.JP ["text", "known"] (Alh t):=by
 have AcF:Aj P w K mg base (CX1 P w) 31 t.Jb t.Jc _ _:=Aat T
 refine T.Ti.F.ok Iz (fun vs H Q E h=>?_) (fun cdv A outer s H vs Q E hr h=>?_)
 ·obtain⟨u,kp,kn,rfl,_⟩:=h
  rfl
 ·obtain⟨u,kp,kn,rfl,hu,hK,hC,k⟩:=h
  refine⟨_,(Ac (BP (i:=2) Iz.nd rfl (Or.inl rfl) Ag)
   (Ac (BP (i:=3) Iz.nd rfl (Or.inl rfl) Py)
   (Ac (AlJ ⟨rfl,rfl,rfl⟩ rfl (AjF (AlI (i:=3) Iz.nd rfl (Or.inl rfl) (AjE (AcF.mono (by decide)) hr rfl T.Rr.m T.Rr.F.kp T.Rr.b .nil (Aa (pv 0) (Aa (pv 1) Ab))))) (.cons rfl T.Ck T.Cd.q Afs (fun _=>(Ae (BP (i:=2) Iz.nd rfl (Or.inl rfl) Ag))) (by decide) (.cons rfl T.Vs T.RZ.q Afs (fun _=>(Ae (BP (i:=2) Iz.nd rfl (Or.inl rfl) Ag))) (by decide) .nil)))
   (Ae (Bb (Tr (Aa (pv 2) (Aa (pv 3) Ab)))))))),?_⟩
  refine⟨_,rfl,_,rfl,u,kp,kn,rfl,hu,hK,hC,?_⟩
  generalize (rdp kn u).1=R at k ⊢
  generalize (rdp kn u).2=z at k ⊢
  cases R with
  | ok x =>
   intro p H1 s1 hp
   refine Jo rfl rfl ?_
   refine⟨_,rfl,_,rfl,(by show 2≤sizeLine;decide),fun q nq=>?_⟩
   refine k p q _ (s1.new nq) (hp.mono fun b o e=>?_) Ad
   have g:=AaS e
   rw[XQ g.1,Ba (Bu g.2 nq)]
   exact g.2
  | no f =>
   intro H1 s1
   cases f with
   | unk=>exact k.elim
   | nop =>
    refine⟨t.Bm,rfl,⟨_,_,T.Cd.q⟩,fun ea nea=>.inl ⟨Exn.has T.EY,?_⟩⟩
    refine Jo rfl rfl ?_
    refine⟨_,rfl,_,rfl,(by show 2≤sizeLine;decide),fun q nq=>?_⟩
    exact k q _ ((s1.new nea).new nq) Ad
   | big =>
    refine⟨t.BR,rfl,⟨_,_,T.RZ.q⟩,fun ea nea=>.inr ⟨Exn.has T.FQ,.inl ⟨Exn.has T.Gn,?_⟩⟩⟩
    refine Jo rfl rfl ?_
    refine⟨_,rfl,_,rfl,(by show 2≤sizeLine;decide),fun q nq=>?_⟩
    exact k q _ ((s1.new nea).new nq) Ad
theorem kn2{n0 n1:List Nat}{x y:List (List Nat)}(C:Clo x)(D:Clo y):∀ p∈[(n0,x),(n1,y)],Clo p.2:=fun p hp=>by
 rcases List.mem_cons.mp hp with rfl | hp
 ·exact C
 ·rw[List.mem_singleton.mp hp];exact D
def Ajq (t:Adr):Sp:=fun vs H Q _=>∃(c:Int) (kp:Addr) (n0 n1:List Nat) (x y:List (List Nat)),vs=[.int c,.ref kp]∧Kn H kp [(n0,x),(n1,y)]∧Pat.isName n0=true∧Pat.isName n1=true∧n0.length=5∧n1.length=5∧n0≠n1∧Clo x∧Clo y∧∀ H',Bg H H'→Q (.bl true) H'
theorem AeN(T:Txt K mg t):Aj P w K mg base CX0 34 t.Om t.Oo ["cell", "known"] (Ajq t):=by
 have Ahp:Aj P w K mg base CX0 1 t.Qn t.Qo _ _:=Agl T
 have Ajr:Aj P w K mg base CX0 3 t.Ry t.Rz _ _:=Ahn T
 have Ady:Aj P w K mg base CX0 32 t.JN t.JP _ _:=AcE T
 have Dr:Aj P w K mg base CX0 1 t.Ar t.Fy _ _:=Nk T
 have Dt:Aj P w K mg base CX0 1 t.Av t.Fz _ _:=Nm T
 have Br:Aj P w K mg base CX0 1 t.Ai t.Cm _ _:=Dv T
 have Bw:Aj P w K mg base CX0 1 t.Al t.Cw _ _:=DQ T
 refine T.Xx.F.ok Fw (fun vs H Q E h=>?_) (fun cdv A outer s H vs Q E hr h=>?_)
 ·obtain⟨c,kp,n0,n1,x,y,rfl,_⟩:=h
  rfl
 ·obtain⟨c,kp,n0,n1,x,y,rfl,hK,i0,i1,l0,l1,hne,C,D,k⟩:=h
  refine⟨_,(Ac (BP (i:=2) Fw.nd rfl (Or.inl rfl) (BL (Bo (K:=K)) (Ez (Aa Ag (Aa Ag (Aa Ag (Aa Ag (Aa Ag (Aa Ag (Aa Ag (Aa Ag (Aa Ag Ab)))))))))) (Bv R4 (pv 0) Ak) (fun _ _=>rfl)))
   (Ac (BP (i:=3) Fw.nd rfl (Or.inl rfl) (Bv R4 (Bv AdV (pv 0) Ak) Ak))
   (Ac (BP (i:=4) Fw.nd rfl (Or.inl rfl) (Bv R4 (Bv AdV (pv 0) Ak) Ak))
   (Ac (BP (i:=5) Fw.nd rfl (Or.inl rfl) (Ez (Aa (BL (Gr (K:=K)) (BL (Bo (K:=K)) (pv 1) Ak (fun _ _=>rfl)) Ak (fun _ _=>rfl)) (Aa (BL (Gr (K:=K)) (BL (Bo (K:=K)) (pv 1) Ak (fun _ _=>rfl)) Ak (fun _ _=>rfl)) Ab))))
   (Ac (BP (i:=6) Fw.nd rfl (Or.inl rfl) (Aq (Ahp.mono (by decide)) hr rfl T.Zh.m T.Zh.F.kp T.Zh.b .nil An (Aa (pv 2) (Aa (pv 5) (Aa (pv 3) (Aa (pv 4) Ab))))))
   (Ac (BP (i:=7) Fw.nd rfl (Or.inl rfl) (Aq (Ajr.mono (by decide)) hr rfl T.Abx.m T.Abx.F.kp T.Abx.b .nil An (Aa (pv 2) (Aa (BL (Gr (K:=K)) (BL (Bo (K:=K)) (pv 1) Ak (fun _ _=>rfl)) Ak (fun _ _=>rfl)) (Aa (BL (Gr (K:=K)) (BL (Bo (K:=K)) (pv 1) Ak (fun _ _=>rfl)) Ak (fun _ _=>rfl)) (Aa (pv 3) (Aa (pv 4) Ab)))))))
   (Ac (AmZ (Aq (Ady.mono (by decide)) hr rfl T.Ti.m T.Ti.F.kp T.Ti.b .nil An (Aa (pv 6) (Aa (pv 1) Ab))) (ZD rfl (J1 (Dq (i:=8) Fw.nd rfl (Or.inl rfl)) (J1 (Dq (i:=9) Fw.nd rfl (Or.inl rfl)) Xd))))
   (Ac (BK (Ao Agv (pv 7) Py (Ax _))
    (Ae (Bb (Lg Eh (pv 8) Ag (Ax _))))
    Aw)
   (Ac (BK (PW.pt (pw_or (Ao Q9 (Bq (Bx (K:=K)) rfl T.Ec CW (Aa (pv 7) Ab)) Ak (Ax _)) (pw_or1 (Ao Q9 (Bq Ca rfl T.Ec CW (Aa (BL (Bo (K:=K)) (pv 7) Ak (fun _ _=>rfl)) Ab)) Ak (Ax _)))))
    (Ae (Bb (Lg Eh (pv 8) Ag (Ax _))))
    Aw)
   (Ac (BK (PW.pt (pw_or (Ao Ui (pv 8) Ag (Ax _)) (pw_or1 (QR (N7 (Bq (ZP (K:=K)) rfl T.Vr Tu (Aa (pv 9) (Aa (Cv (v:=.ref t.Bc) rfl T.Km rfl) Ab))))))))
    (Ae (Bb Adz))
    Aw)
   (Ac (BK (PW.pt (pw_or (Ao Ui (Bl (K:=K) rfl (pv 9) (Dr.mono (by decide)) hr T.Es.b An) (Bq Ca rfl T.Ec CW (Aa (BL (Bo (K:=K)) (pv 7) Ak (fun _ _=>rfl)) Ab)) (Ax _)) (pw_or (Ao Ui (Bl (K:=K) rfl (pv 9) (Dt.mono (by decide)) hr T.Et.b An) (Bq (Bx (K:=K)) rfl T.Ec CW (Aa (pv 7) Ab)) (Ax _)) (pw_or1 (Ao Ui (Bl (K:=K) rfl (pv 9) (Bw.mono (by decide)) hr T.Cz.b An) (pv 6) (Ax _))))))
    (Ae (Bb Adz))
    Aw)
   (Ac (BP (i:=10) Fw.nd rfl (Or.inl rfl) (Bl (K:=K) rfl (pv 9) (Br.mono (by decide)) hr T.Cp.b An))
   (Ae (Bb (Agr (Bq (ZP (K:=K)) rfl T.Vr Tu (Aa (pv 10) (Aa (Ahu (v:=.ty "list") rfl T.Wr U8 rfl) Ab))) (Agq (Lg (AlF (K:=K) (hr.Anl)) (pv 10) (pv 7) (Ax _)))))))))))))))))),?_⟩
  obtain⟨i,ei,hi⟩:∃ i:Nat,c%9=(i:Int)∧i<w9.length:=⟨(c%9).toNat,by omega,by show _<9;omega⟩
  obtain⟨a,ea,ha⟩:∃ a:Nat,c / 9%9=(a:Int)∧a<9:=⟨(c / 9%9).toNat,by omega,by omega⟩
  obtain⟨b,eb,hb⟩:∃ b:Nat,c / 81%9=(b:Int)∧b<9:=⟨(c / 81%9).toNat,by omega,by omega⟩
  have hz:=ArG hi
  refine⟨(by show 9≤sizeLine;decide),fun p1 np1=>?_⟩
  have ew9:[V.str "tile", V.str "beside", V.str "above", V.str "blocks", V.str "lay", V.str "mirror", V.str "upend", V.str "back", V.str "quarter"]=vS w9:=by
   rw[Zy,Ab1,Ab2,Ab6,AeE,Ab3,Ab4,Ab5,AhZ]
   rfl
  rw[ew9]
  have s1:Bg H (upd H p1 (.lst (vS w9))):=.upd np1
  have h1:(upd H p1 (.lst (vS w9))) p1=some (.lst (vS w9)):=Ad
  generalize upd H p1 (.lst (vS w9))=H1 at s1 h1 ⊢
  refine⟨_,rfl,_,_,rfl,rfl,(by show(0:Int)<9;decide),_,_,_,.str (tx w9[i]),rfl,rfl,SqL.of h1,(by rw[ei];exact Ot (Aru hi)),?_⟩
  generalize w9[i]=z at hz
  refine Jo rfl rfl ?_
  refine⟨_,rfl,_,_,rfl,rfl,⟨by decide,by decide⟩,_,_,rfl,rfl,(by show(0:Int)<9;decide),?_⟩
  refine Jo (v':=.int (a:Int)) (congrArg V.int ea) rfl ?_
  refine⟨_,rfl,_,_,rfl,rfl,⟨by decide,by decide⟩,_,_,rfl,rfl,(by show(0:Int)<9;decide),?_⟩
  refine Jo (v':=.int (b:Int)) (congrArg V.int eb) rfl ?_
  have hK1:=hK.same s1
  obtain⟨as,g1,g2,g3⟩:=id hK1
  rcases as with _ | ⟨t0,_ | ⟨t1,_ | ⟨t2,as⟩⟩⟩
  ·simp at g2
  ·simp at g2
  ·obtain⟨q0,f0,f1⟩:=g3 0 t0 (n0,x) rfl rfl
   obtain⟨q1,f2,f3⟩:=g3 1 t1 (n1,y) rfl rfl
   have a0:atI [V.ref t0,V.ref t1] 0=some (.ref t0):=CZ (by decide) rfl
   have a1:atI [V.ref t0,V.ref t1] 1=some (.ref t1):=CZ (by decide) rfl
   have b0:atI [V.str (tx n0),V.ref q0] 0=some (.str (tx n0)):=CZ (by decide) rfl
   have b1:atI [V.str (tx n0),V.ref q0] 1=some (.ref q0):=CZ (by decide) rfl
   have d0:atI [V.str (tx n1),V.ref q1] 0=some (.str (tx n1)):=CZ (by decide) rfl
   have d1:atI [V.str (tx n1),V.ref q1] 1=some (.ref q1):=CZ (by decide) rfl
   refine⟨_,rfl,_,_,_,_,rfl,rfl,SqL.of g1,a0,_,_,_,_,rfl,rfl,SqT.of f0,b0,_,rfl,_,_,_,_,rfl,rfl,SqL.of g1,a1,_,_,_,_,rfl,rfl,SqT.of f2,d0,(by show 2≤sizeLine;decide),fun p2 np2=>?_⟩
   have s2':Bg H1 (upd H1 p2 (.lst (vS [n0,n1]))):=.upd np2
   have h2:(upd H1 p2 (.lst (vS [n0,n1]))) p2=some (.lst (vS [n0,n1])):=Ad
   rw[show(upd H1 p2 (.lst [V.str (tx n0),V.str (tx n1)]))=upd H1 p2 (.lst (vS [n0,n1])) from rfl]
   generalize upd H1 p2 (.lst (vS [n0,n1]))=H2 at s2' h2 ⊢
   have u2:=s1.trans s2'
   refine Jo rfl rfl ?_
   refine⟨_,rfl,_,rfl,_,rfl,_,rfl,z,n0,n1,p2,a,b,rfl,hz,SqL.of h2,l0,l1,ha,hb,fun H3 s3=>?_⟩
   refine Jo rfl rfl ?_
   have u3:=u2.trans s3
   have g1:=(s2'.trans s3) _ _ g1
   have f0:=(s2'.trans s3) _ _ f0
   have f1:=(s2'.trans s3) _ _ f1
   have f2:=(s2'.trans s3) _ _ f2
   have f3:=(s2'.trans s3) _ _ f3
   have W:=K57.Apu (a:=a) (b:=b) hz i0 i1 (by omega) (by omega)
   have er:=AnG (kn:=[(n0,x),(n1,y)]) W
   rw[K57.Aoc hz hne C D] at er
   have wl:(wr 12 (nd z n0 n1 a b)).length≤1000000:=by
    have pa:=(dec_is (show a<100 by omega)).l2
    have pb:=(dec_is (show b<100 by omega)).l2
    have zl:=Ale hz
    unfold K57.nd
    split
    ·show(wz z [n0,dec a,dec b]).length≤_
     rw[Yo]
     simp only [cj,Arp,Arx,ArT,ArB,As0,Ars,Arv]
     omega
    ·split
     ·show(wz z [n0,n1]).length≤_
      rw[Yo]
      simp only [cj,Arp,Arx,ArT,ArB,As0,Ars,Arv]
      omega
     ·split
      ·show(wz z [n0,n0,n1]).length≤_
       rw[Yo]
       simp only [cj,Arp,Arx,ArT,ArB,As0,Ars,Arv]
       omega
      ·show(wz z [n0]).length≤_
       rw[Yo]
       simp only [cj,Arp,Arx,ArT,ArB,As0,Ars,Arv]
       omega
   generalize wr 12 (nd z n0 n1 a b)=u at er wl
   refine⟨_,rfl,_,rfl,_,_,_,_,rfl,rfl,SqL.of g1,a0,_,_,_,_,rfl,rfl,SqT.of f0,b1,_,rfl,_,_,_,_,rfl,rfl,SqL.of g1,a1,_,_,_,_,rfl,rfl,SqT.of f2,d1,_,rfl,_,rfl,z,q0,q1,x,y,a,b,rfl,hz,f1,f3,C,D,ha,hb,fun e H4 s4=>?_,fun v e l H4 s4 hl=>?_⟩
   ·refine Jo rfl rfl ?_
    have u4:=u3.trans s4
    refine⟨_,rfl,_,rfl,u,kp,[(n0,x),(n1,y)],rfl,wl,hK.same u4,kn2 C D,?_⟩
    rw[er,e]
    intro q H5 s5 hq
    refine⟨_,_,rfl,SqT.of hq,rfl,_,_,rfl,_,_,rfl,rfl,?_⟩
    refine⟨_,rfl,rfl,_,rfl,?_⟩
    refine GF rfl ?_
    refine⟨_,rfl,rfl,?_⟩
    rw[decide_eq_true rfl]
    exact k _ (u4.trans s5)
   ·refine Jo rfl rfl ?_
    have u4:=u3.trans s4
    obtain⟨v1,vb,u0,hu0,lu0,wb⟩:=K57.Am5 hz C D ha hb e
    refine⟨_,rfl,_,rfl,u,kp,[(n0,x),(n1,y)],rfl,wl,hK.same u4,kn2 C D,?_⟩
    rw[er,e]
    dsimp only
    unfold K57.resOf
    dsimp only
    by_cases g:40<v.length∨40<wdt v
    ·rw[if_pos g]
     intro q H5 s5 hq
     have hl5:=s5 _ _ hl
     refine⟨_,_,rfl,SqT.of hq,rfl,_,_,rfl,_,_,rfl,rfl,?_⟩
     refine⟨_,rfl,rfl,_,rfl,?_⟩
     refine DN (fun z=>nomatch z) ?_
     refine⟨_,rfl,_,_,rfl,.inl (SqL.of hl5),_,_,rfl,rfl,_,rfl,?_⟩
     rw[Bj]
     refine Ey (fun d1=>?_) (fun d1=>?_)
     ·refine Px ?_
      refine⟨_,rfl,rfl,?_⟩
      rw[decide_eq_true rfl]
      exact k _ (u4.trans s5)
     ·refine⟨_,rfl,_,_,_,_,rfl,rfl,SqL.of hl5,Ot (i:=0) hu0,_,rfl,(by rw[Ah];exact big (by omega)),_,_,rfl,rfl,_,rfl,?_⟩
      rw[Ah,lu0]
      refine GF (by omega) ?_
      refine⟨_,rfl,rfl,?_⟩
      rw[decide_eq_true rfl]
      exact k _ (u4.trans s5)
    ·rw[if_neg g]
     intro p q H5 s5 hp hq
     have hl5:=s5 _ _ hl
     have hp5:Pc t H5 p v u:=hp.mono fun b o e=>(AaS e).2
     have CV:Clo v:=by
      have:(rdp [(n0,x),(n1,y)] u).1=.ok v:=by
       rw[er,e]
       unfold K57.resOf
       dsimp only
       rw[if_neg g]
      unfold rdp at this
      cases e9:Pat.whole u with
      | none=>rw[e9] at this;cases this
      | some nn=>rw[e9] at this;exact Aet (kn2 C D) (Af8 e9).1 this
     obtain⟨CC,dx,l9,hCC,h9,h10⟩:=id hp5
     refine⟨_,_,rfl,SqT.of hq,rfl,_,_,rfl,_,_,rfl,rfl,?_⟩
     refine⟨_,rfl,rfl,_,rfl,?_⟩
     refine DN (fun z=>nomatch z) ?_
     refine⟨_,rfl,_,_,rfl,.inl (SqL.of hl5),_,_,rfl,rfl,_,rfl,?_⟩
     rw[Bj]
     refine DN (by omega) ?_
     refine⟨_,rfl,_,_,_,_,rfl,rfl,SqL.of hl5,Ot (i:=0) hu0,_,rfl,(by rw[Ah];exact big (by omega)),_,_,rfl,rfl,_,rfl,?_⟩
     rw[Ah,lu0]
     refine DN (by omega) ?_
     refine⟨_,rfl,rfl,_,rfl,?_⟩
     refine Uj rfl ?_
     refine⟨_,rfl,_,_,true,(Alf T hCC).1.ty (pcC T hCC).c h9,.inr ⟨_,rfl,(Alf T hCC).2⟩,_,rfl,?_⟩
     refine Rk ?_
     refine⟨_,rfl,Q5 T hp5 CV ?_⟩
     refine⟨_,rfl,_,_,_,_,rfl,rfl,SqL.of hl5,Ot (i:=0) hu0,_,rfl,(by rw[Ah];exact big (by omega)),rfl,_,rfl,?_⟩
     refine Uj (by rw[Ah,lu0]) ?_
     refine⟨_,rfl,Q6 T hp5 CV ?_⟩
     refine⟨_,rfl,_,_,rfl,.inl (SqL.of hl5),rfl,_,rfl,?_⟩
     refine Uj (by rw[Bj]) ?_
     refine⟨_,rfl,Jz T hp5 ?_⟩
     refine⟨_,rfl,rfl,_,rfl,?_⟩
     refine Uj rfl ?_
     refine⟨_,rfl,Hh T hp5 fun l2 hl2=>?_⟩
     have s6:=Bg.upd (o:=.lst (vS v)) hl2
     have e6:(upd H5 l2 (.lst (vS v))) l2=some (.lst (vS v)):=Ad
     generalize upd H5 l2 (.lst (vS v))=H6 at s6 e6 ⊢
     refine Jo rfl rfl ?_
     refine⟨_,rfl,_,_,true,.lst e6,.inl ⟨_,rfl,AfW _ _⟩,_,rfl,?_⟩
     refine Px ?_
     have eqv:eqL (vS v) (vS v)=true:=Afm (Aej _)
     refine⟨_,rfl,_,rfl,_,_,_,_,rfl,rfl,SqL.of e6,SqL.of (s6 _ _ hl5),Aej _,Aej _,?_⟩
     rw[eqv]
     exact k _ ((u4.trans s5).trans s6)
  ·simp at g2
end
end Mine
namespace L2
open PySem PySem.Spec PyProof.Rows
section
variable {X:Cx}
theorem Ali:OpR X (binaryOp .FloorDiv) (rI (fun _ j=>0<j∧j.natAbs.log2<9000) fun i j=>.int (i / j)):=opI fun i j _ _ _ _ _ hc q=>by
 have h1:(0:Int)<j:=hc.1
 exact floordiv_int (by omega) (by rw[Int.fdiv_eq_ediv_of_nonneg i (by omega)];exact q) (.inl (PyProof.noPylong_of_log2 hc.2))
end
end L2
namespace Mine
open PySem L2
open K57 (s2 st nmT w9 due nd resOf)
section
variable {P:Program}{w:World}{K:PySem.W.Frag}{mg:Str→Option Value}{base:Heap}{t:Adr}
theorem Alj{G:Prop}{R:Addr→Hp→Prop}(C:Addr→Hp→Prop)(main:(∀ l H,C l H→R l H)→G)(rest:∀ l H,C l H→R l H):G:=main rest
def AeO (K:PySem.W.Frag):Sp:=fun vs H Q _=>∃(a:Addr) (ns:List Int),vs=[.ref a]∧SqL K H a (vI ns)∧ns.length≤63∧∀ H',Q (.bl true) H'
theorem AeP{K:PySem.W.Frag}{H:Hp}{a:Addr}{ns:List Int}(hl:ns.length≤63)(hS:SqL K H a (ns.map V.int)):AeO K [.ref a] H (fun v _=>v=.bl true) fun _ _ _=>False:=⟨a,ns,rfl,hS,hl,fun _=>rfl⟩
theorem Aod(T:Txt K mg t):Aj P w K mg base CX0 36 t.Acv t.AmN ["script"] (AeO K):=by
 have Agm:Aj P w K mg base CX0 34 t.Om t.Oo _ _:=AeN T
 have AcG:Aj P w K mg base CX0 1 t.Uq t.Ur _ _:=Ajo T
 have Agn:Aj P w K mg base CX0 1 t.Og t.Oh _ _:=AeK T
 have AcH:Aj P w K mg base CX0 1 t.Qj t.Qk _ _:=Agi T
 refine T.law.F.ok RL (fun vs H Q E h=>?_) (fun cdv A outer s H vs Q E hr h=>?_)
 ·obtain⟨a,ns,rfl,_⟩:=h
  rfl
 ·obtain⟨a,sc,rfl,hS,hl,k⟩:=h
  refine⟨_,(Ac (BP (i:=1) RL.nd rfl (Or.inl rfl) Ak)
   (Ac (JW PassesOwn.never rfl (Ej (K:=K) (pv 0)) (Dq (i:=2) RL.nd rfl (Or.inl rfl))
    (Ae (BP (i:=1) RL.nd rfl (Or.inl rfl) (Bv R4 (Bv U3 (Bv VJ (pv 1) Ak) (pv 2)) Ak))))
   (Ac (YF (i:=3) (DK.mk (Bp:=[0]) (Nc:=["k", "script"]) rfl (by decide +kernel) (by decide +kernel) (Dy (sc0:=Af Wo) rfl (by decide +kernel)) rfl rfl rfl (by decide +kernel) (fun k j h=>match k,h with | 0,h=>by obtain rfl:=Option.some.inj h;exact⟨_,rfl,rfl,rfl⟩ | _+1,h=>by simp at h)) rfl RL.nd rfl rfl (Iu rfl T.Nx (Aa Ak Ab)) (fun _ _ _ _ _=>.nil) (fun _ _ _ _ _=>(Bv U3 Ak (Bv R4 (Aq (AcG.mono (by decide)) hr rfl T.TQ.m T.TQ.F.kp T.TQ.b .nil An (Aa (pv 1) (Aa (pv 0) Ab))) Ak))) rfl)
   (Ac (BK (Ao Q9 (Bv R4 (Aq (AcG.mono (by decide)) hr rfl T.TQ.m T.TQ.F.kp T.TQ.b .nil An (Aa (pv 0) (Aa Ak Ab))) Ak) Ak (Ax _))
    (Ae (BP (i:=3) RL.nd rfl (Or.inl rfl) (Bv AbN (Ku (AbY (K:=K)) (pv 3) Rj (Lh Ak)) Ak)))
    Aw)
   (Ac (BP (i:=4) RL.nd rfl (Or.inl rfl) (Aq (Agn.mono (by decide)) hr rfl T.Xw.m T.Xw.F.kp T.Xw.b .nil An (Aa (Aq (AcG.mono (by decide)) hr rfl T.TQ.m T.TQ.F.kp T.TQ.b .nil An (Aa (pv 0) (Aa Ak Ab))) Ab)))
   (Ac (BP (i:=5) RL.nd rfl (Or.inl rfl) (Aq (AcH.mono (by decide)) hr rfl T.RX.m T.RX.F.kp T.RX.b .nil An (Aa (pv 1) (Aa (BL (Bo (K:=K)) (pv 3) Ak (fun _ _=>rfl)) (Aa (BL (Bo (K:=K)) (pv 3) Ak (fun _ _=>rfl)) Ab)))))
   (Ac (BP (i:=6) RL.nd rfl (Or.inl rfl) (Aq (AcH.mono (by decide)) hr rfl T.RX.m T.RX.F.kp T.RX.b .nil An (Aa (Bv Ali (pv 1) Ak) (Aa (BL (Bo (K:=K)) (pv 3) Ak (fun _ _=>rfl)) (Aa (BL (Bo (K:=K)) (pv 3) Ak (fun _ _=>rfl)) Ab)))))
   (Ac (BP (i:=7) RL.nd rfl (Or.inl rfl) (Ez (Aa (Tr (Aa (BL (Bo (K:=K)) (pv 4) Ak (fun _ _=>rfl)) (Aa (Ex (Qy (K:=K)) rfl T.Wr U8 (Aa (pv 5) Ab)) Ab))) (Aa (Tr (Aa (BL (Bo (K:=K)) (pv 4) Ak (fun _ _=>rfl)) (Aa (Ex (Qy (K:=K)) rfl T.Wr U8 (Aa (pv 6) Ab)) Ab))) Ab))))
   (Ac (JW PassesOwn.never rfl (Ej (K:=K) (Ku (AbY (K:=K)) (pv 0) Rj (Lh Ak))) (Dq (i:=2) RL.nd rfl (Or.inl rfl))
    (Ae (BK (QR (N7 (Aq (Agm.mono (by decide)) hr rfl T.Xx.m T.Xx.F.kp T.Xx.b .nil An (Aa (pv 2) (Aa (pv 7) Ab)))))
     (Ae (Bb Adz))
     Aw)))
   (Ae (Bb (Lg (AnI (K:=K) (hr.Afx)) (pv 7) (Ez (Aa (Tr (Aa (BL (Bo (K:=K)) (pv 4) Ak (fun _ _=>rfl)) (Aa (pv 5) Ab))) (Aa (Tr (Aa (BL (Bo (K:=K)) (pv 4) Ak (fun _ _=>rfl)) (Aa (pv 6) Ab))) Ab))) (Ax _))))))))))))),?_⟩
  have hsz:sizeLine=16777216:=sizeLine_eq
  refine⟨_,rfl,_,rfl,⟨_,hS⟩,Q8 (K:=K) (a:=a) (xs:=vI sc) (fun i σ H2=>∃(z:Int) (v:Option V),σ=[some (.ref a),some (.int z),v,none,none,none,none,none]∧H2=H) ⟨0,none,rfl,rfl⟩ (fun i σ H2 _ ⟨_,_,_,e⟩=>by rw[e];exact hS) ?_ ?_⟩
  ·rintro i x σ H2 hx ⟨z,v,rfl,rfl⟩
   obtain⟨c,rfl⟩:∃ c,x=.int c:=by
    unfold vI at hx
    rw[Ar6] at hx
    obtain⟨z,_,rfl⟩:=Option.map_eq_some_iff.mp hx
    exact⟨z,rfl⟩
   refine⟨_,rfl,_,_,rfl,rfl,(.inr ⟨by decide,by decide⟩),_,rfl,_,_,rfl,rfl,_,_,rfl,rfl,(by show(0:Int)<4722366482869645213696;decide),?_⟩
   exact⟨_,_,rfl,rfl⟩
  ·rintro σ H2 ⟨z,v,rfl,rfl⟩
   refine⟨_,rfl,(by decide),(by decide),?_⟩
   rw[show(4:Int).toNat=4 from rfl]
   refine Kv (lo:=0) (n:=4) (fun i ys H3=>H3=H2∧∃ ms:List Nat,ys=vI (ms.map Int.ofNat)∧ms.length=i∧∀ m∈ms,1≤m∧m≤6) ⟨rfl,[],rfl,rfl,fun m h=>by simp at h⟩ ?_ ?_ ?_ ?_
   ·rintro i ys H3 hi ⟨rfl,ms,rfl,hm,_⟩
    rw[Kw,Arq,hm]
    exact Art _
   ·decide
   ·rintro i ys H3 hi ⟨rfl,ms,rfl,hm,hb⟩
    refine Fq.no ?_
    refine⟨_,rfl,_,rfl,a,sc,_,rfl,hS,(by omega),fun c=>?_⟩
    obtain⟨m,em,hm6⟩:∃ m:Nat,c%6=(m:Int)∧m<6:=⟨(c%6).toNat,by omega,by omega⟩
    refine⟨_,_,rfl,rfl,(by show(0:Int)<6;decide),_,_,rfl,rfl,?_⟩
    rw[em]
    refine CN.of hi ⟨rfl,ms++[1+m],?_,by rw[Arp,hm];rfl,fun n hn=>?_⟩
    ·rw[Arz]
     show _++[V.int (1+(m:Int))]=vI (_++[((1+m:Nat):Int)])
     rw[show(1:Int)+(m:Int)=((1+m:Nat):Int) by omega]
     exact Ag6 _ _
    ·rcases List.mem_append.mp hn with hn | hn
     ·exact hb n hn
     ·rw[List.mem_singleton.mp hn];omega
   ·rintro ys H3 l0 ⟨rfl,ms,rfl,hm,hb⟩ nl0
    obtain⟨m0,m1,m2,m3,rfl⟩:∃ m0 m1 m2 m3,ms=[m0,m1,m2,m3]:=by
     rcases ms with _ | ⟨m0,_ | ⟨m1,_ | ⟨m2,_ | ⟨m3,_ | ⟨m4,ms⟩⟩⟩⟩⟩
     ·simp at hm
     ·simp at hm
     ·simp at hm
     ·simp at hm
     ·exact⟨_,_,_,_,rfl⟩
     ·simp at hm
    have b0:=hb m0 (by simp)
    have b1:=hb m1 (by simp)
    have b2:=hb m2 (by simp)
    have b3:=hb m3 (by simp)
    have s1:Bg H3 (upd H3 l0 (.lst (vI ([m0,m1,m2,m3].map Int.ofNat)))):=.upd nl0
    have h1:(upd H3 l0 (.lst (vI ([m0,m1,m2,m3].map Int.ofNat)))) l0=some (.lst (vI ([m0,m1,m2,m3].map Int.ofNat))):=Ad
    generalize upd H3 l0 (.lst (vI ([m0,m1,m2,m3].map Int.ofNat)))=H1 at s1 h1 ⊢
    refine Jo (σ':=[some (.ref a),some (.int z),v,some (.ref l0),none,none,none,none]) rfl rfl ?_
    refine⟨_,rfl,a,sc,4,rfl,s1.seq hS,(by decide),fun c=>?_⟩
    refine⟨_,_,rfl,rfl,(by show(0:Int)<3;decide),_,_,rfl,rfl,_,rfl,?_⟩
    apply Alj (fun l H2=>Bg H3 H2∧∃ m0 m1 m2 m3:Nat,H2 l=some (.lst [.int (m0:Int),.int (m1:Int),.int (m2:Int),.int (m3:Int)])∧(1≤m0∧m0≤6)∧(1≤m1∧m1≤6)∧(1≤m2∧m2≤6)∧(1≤m3∧m3≤6))
    ·intro rest
     refine Ey (fun c1=>?tt) (fun c1=>?ff)
     case ff =>
      obtain⟨l',e⟩:∃ l',l'=l0:=⟨_,rfl⟩
      obtain⟨H',e2⟩:∃ H',H'=H1:=⟨_,rfl⟩
      rw[← e,← e2]
      rw[← e,← e2] at h1
      rw[← e2] at s1
      exact rest l' H' ⟨s1,m0,m1,m2,m3,h1,b0,b1,b2,b3⟩
     case tt =>
      refine⟨_,rfl,_,rfl,_,_,rfl,SqL.of h1,fun q nq=>?_⟩
      have ec:AcY (vI ([m0,m1,m2,m3].map Int.ofNat)) none (some 2)=[.int (m0:Int),.int (m1:Int)]:=by
       rfl
      rw[ec]
      have s2':Bg H1 (upd H1 q (.lst [.int (m0:Int),.int (m1:Int)])):=.upd nq
      have h2:(upd H1 q (.lst [.int (m0:Int),.int (m1:Int)])) q=some (.lst [.int (m0:Int),.int (m1:Int)]):=Ad
      generalize upd H1 q (.lst [.int (m0:Int),.int (m1:Int)])=H2 at s2' h2 ⊢
      refine⟨_,_,_,rfl,rfl,h2,(by decide),(by decide),(by show 2*2≤sizeLine;decide),fun q2 nq2=>?_⟩
      have s3:Bg H2 (upd H2 q2 (.lst [.int (m0:Int),.int (m1:Int),.int (m0:Int),.int (m1:Int)])):=.upd nq2
      have h3:(upd H2 q2 (.lst [.int (m0:Int),.int (m1:Int),.int (m0:Int),.int (m1:Int)])) q2=some (.lst [.int (m0:Int),.int (m1:Int),.int (m0:Int),.int (m1:Int)]):=Ad
      rw[show(List.replicate (2:Int).toNat [V.int (m0:Int),V.int (m1:Int)]).flatten=[.int (m0:Int),.int (m1:Int),.int (m0:Int),.int (m1:Int)] from rfl]
      generalize upd H2 q2 (.lst [.int (m0:Int),.int (m1:Int),.int (m0:Int),.int (m1:Int)])=H4 at s3 h3 ⊢
      refine Jo (σ':=[some (.ref a),some (.int z),v,some (.ref q2),none,none,none,none]) rfl rfl ?_
      exact rest q2 H4 ⟨(s1.trans s2').trans s3,m0,m1,m0,m1,h3,b0,b1,b0,b1⟩
    ·rintro l H2 ⟨s2',m0,m1,m2,m3,hl2,b0,b1,b2,b3⟩
     refine⟨_,rfl,a,sc,5,rfl,s2'.seq hS,(by decide),fun c5=>?_⟩
     refine⟨c5,rfl,fun ix ln H4 hix s4 nln hln=>?_⟩
     have u4:=s2'.trans s4
     obtain⟨i0,i1,hne,l5,l5'⟩:=K57.Apt ix (List.mem_range.mpr hix)
     generalize nmT ix 116=n0 at hln i0 hne l5
     generalize nmT ix 119=n1 at hln i1 hne l5'
     have hl4:=s4 _ _ hl2
     refine Jo (σ':=[some (.ref a),some (.int z),v,some (.ref l),some (.ref ln),none,none,none]) rfl rfl ?_
     have a0:atI [V.int (m0:Int),.int (m1:Int),.int (m2:Int),.int (m3:Int)] 0=some (.int (m0:Int)):=CZ (by decide) rfl
     have a1:atI [V.int (m0:Int),.int (m1:Int),.int (m2:Int),.int (m3:Int)] 1=some (.int (m1:Int)):=CZ (by decide) rfl
     have a2:atI [V.int (m0:Int),.int (m1:Int),.int (m2:Int),.int (m3:Int)] 2=some (.int (m2:Int)):=CZ (by decide) rfl
     have a3:atI [V.int (m0:Int),.int (m1:Int),.int (m2:Int),.int (m3:Int)] 3=some (.int (m3:Int)):=CZ (by decide) rfl
     refine⟨_,rfl,_,rfl,_,_,_,_,rfl,rfl,SqL.of hl4,a0,_,rfl,_,_,_,_,rfl,rfl,SqL.of hl4,a1,z,m0,m1,rfl,b0.1,by omega,b1.1,by omega,fun lf x H5 s5 nlf hlf Cx=>?_⟩
     refine Jo (σ':=[some (.ref a),some (.int z),v,some (.ref l),some (.ref ln),some (.ref lf),none,none]) rfl rfl ?_
     have hl5:=s5 _ _ hl4
     refine⟨_,rfl,_,_,rfl,rfl,⟨by decide,by decide +kernel⟩,?_⟩
     refine⟨_,rfl,_,_,_,_,rfl,rfl,SqL.of hl5,a2,_,rfl,_,_,_,_,rfl,rfl,SqL.of hl5,a3,_,m2,m3,rfl,b2.1,by omega,b3.1,by omega,fun ls y H6 s6 nls hls Cy=>?_⟩
     refine Jo (σ':=[some (.ref a),some (.int z),v,some (.ref l),some (.ref ln),some (.ref lf),some (.ref ls),none]) rfl rfl ?_
     have Cx:=Cx.clo
     have Cy:=Cy.clo
     have hlf:=s6 _ _ hlf
     have Aoe:=s6 _ _ (s5 _ _ hln)
     have u6:=(u4.trans s5).trans s6
     have v0:atI (vS [n0,n1]) 0=some (.str (tx n0)):=Ot (i:=0) rfl
     have v1:atI (vS [n0,n1]) 1=some (.str (tx n1)):=Ot (i:=1) rfl
     refine⟨_,rfl,_,_,_,_,rfl,rfl,SqL.of Aoe,v0,_,rfl,_,_,rfl,.inl (SqL.of hlf),fun c1 nc1=>?_⟩
     have t1:Bg H6 (upd H6 c1 (.lst (vS x))):=.upd nc1
     have hc1:(upd H6 c1 (.lst (vS x))) c1=some (.lst (vS x)):=Ad
     generalize upd H6 c1 (.lst (vS x))=H7 at t1 hc1 ⊢
     refine⟨(by show 2≤sizeLine;decide),fun p1 np1=>?_⟩
     have t2:Bg H7 (upd H7 p1 (.tup [.str (tx n0),.ref c1])):=.upd np1
     have hp1:(upd H7 p1 (.tup [.str (tx n0),.ref c1])) p1=some (.tup [.str (tx n0),.ref c1]):=Ad
     generalize upd H7 p1 (.tup [.str (tx n0),.ref c1])=H8 at t2 hp1 ⊢
     refine⟨_,rfl,_,_,_,_,rfl,rfl,SqL.of (t2 _ _ (t1 _ _ Aoe)),v1,_,rfl,_,_,rfl,.inl (SqL.of (t2 _ _ (t1 _ _ hls))),fun c2 nc2=>?_⟩
     have t3:Bg H8 (upd H8 c2 (.lst (vS y))):=.upd nc2
     have hc2:(upd H8 c2 (.lst (vS y))) c2=some (.lst (vS y)):=Ad
     generalize upd H8 c2 (.lst (vS y))=H9 at t3 hc2 ⊢
     refine⟨(by show 2≤sizeLine;decide),fun p2 np2=>?_⟩
     have t4:Bg H9 (upd H9 p2 (.tup [.str (tx n1),.ref c2])):=.upd np2
     have hp2:(upd H9 p2 (.tup [.str (tx n1),.ref c2])) p2=some (.tup [.str (tx n1),.ref c2]):=Ad
     generalize upd H9 p2 (.tup [.str (tx n1),.ref c2])=Ha at t4 hp2 ⊢
     refine⟨(by show 2≤sizeLine;decide),fun kp nkp=>?_⟩
     have t5:Bg Ha (upd Ha kp (.lst [.ref p1,.ref p2])):=.upd nkp
     have hkp:(upd Ha kp (.lst [.ref p1,.ref p2])) kp=some (.lst [.ref p1,.ref p2]):=Ad
     generalize upd Ha kp (.lst [.ref p1,.ref p2])=Hb at t5 hkp ⊢
     refine Jo (σ':=[some (.ref a),some (.int z),v,some (.ref l),some (.ref ln),some (.ref lf),some (.ref ls),some (.ref kp)]) rfl rfl ?_
     have w6:Bg H6 Hb:=((((t1.trans t2).trans t3).trans t4).trans t5)
     have ub:=u6.trans w6
     have f1:Hb p1=some (.tup [.str (tx n0),.ref c1]):=t5 _ _ (t4 _ _ (t3 _ _ hp1))
     have f2:Hb c1=some (.lst (vS x)):=t5 _ _ (t4 _ _ (t3 _ _ (t2 _ _ hc1)))
     have f3:Hb p2=some (.tup [.str (tx n1),.ref c2]):=t5 _ _ hp2
     have f4:Hb c2=some (.lst (vS y)):=t5 _ _ (t4 _ _ hc2)
     have hK:Kn Hb kp [(n0,x),(n1,y)]:=by
      refine⟨[p1,p2],hkp,rfl,fun i a p g1 g2=>?_⟩
      rcases i with _ | _ | i
      ·cases g1
       cases g2
       exact⟨c1,f1,f2⟩
      ·cases g1
       cases g2
       exact⟨c2,f3,f4⟩
      ·simp at g1
     have gf:Hb lf=some (.lst (vS x)):=w6 _ _ hlf
     have gs:Hb ls=some (.lst (vS y)):=w6 _ _ hls
     have gn:Hb ln=some (.lst (vS [n0,n1])):=w6 _ _ Aoe
     refine⟨_,rfl,_,rfl,_,_,rfl,ub.seq hS,fun q nq=>?_⟩
     obtain⟨zs,ez⟩:∃ zs:List Int,AcY (vI sc) none (some 10)=vI zs:=by
      unfold AcY vI
      exact⟨_,by rw[← List.map_drop,← List.map_take]⟩
     rw[ez]
     have e1:(upd Hb q (.lst (vI zs))) q=some (.lst (vI zs)):=Ad
     have t6:Bg Hb (upd Hb q (.lst (vI zs))):=.upd nq
     generalize upd Hb q (.lst (vI zs))=Hc at e1 t6 ⊢
     refine⟨_,rfl,⟨_,SqL.of e1⟩,Q8 (K:=K) (a:=q) (xs:=vI zs) (fun i σ H2=>∃ v,σ=[some (.ref a),some (.int z),v,some (.ref l),some (.ref ln),some (.ref lf),some (.ref ls),some (.ref kp)]∧Bg Hc H2) ⟨v,rfl,.refl _⟩ ?_ ?_ ?_⟩
     ·rintro i σ H2 hi ⟨v,rfl,s2⟩
      exact SqL.of (s2 _ _ e1)
     ·rintro i x' σ H2 hx ⟨v,rfl,s2⟩
      obtain⟨zz,rfl⟩:∃ z,x'=.int z:=by
       unfold vI at hx
       rw[Ar6] at hx
       obtain⟨z,_,rfl⟩:=Option.map_eq_some_iff.mp hx
       exact⟨z,rfl⟩
      refine⟨_,rfl,_,rfl,zz,kp,n0,n1,x,y,rfl,hK.same (t6.trans s2),i0,i1,l5,l5',hne,Cx,Cy,fun Hd sd=>?_⟩
      refine⟨_,rfl,?_⟩
      refine Rk ?_
      exact⟨_,rfl,s2.trans sd⟩
     ·rintro σ H2 ⟨v,rfl,s2⟩
      have u7:=t6.trans s2
      refine⟨_,rfl,?_⟩
      refine⟨_,rfl,_,_,_,_,rfl,rfl,SqL.of (u7 _ _ gn),v0,_,rfl,(by show 2≤sizeLine;decide),fun r1 nr1=>?_⟩
      have t7:Bg H2 (upd H2 r1 (.tup [.str (tx n0),.ref lf])):=.upd nr1
      have hr1:(upd H2 r1 (.tup [.str (tx n0),.ref lf])) r1=some (.tup [.str (tx n0),.ref lf]):=Ad
      generalize upd H2 r1 (.tup [.str (tx n0),.ref lf])=He at t7 hr1 ⊢
      refine⟨_,rfl,_,_,_,_,rfl,rfl,SqL.of ((u7.trans t7) _ _ gn),v1,_,rfl,(by show 2≤sizeLine;decide),fun r2 nr2=>?_⟩
      have t8:Bg He (upd He r2 (.tup [.str (tx n1),.ref ls])):=.upd nr2
      have hr2:(upd He r2 (.tup [.str (tx n1),.ref ls])) r2=some (.tup [.str (tx n1),.ref ls]):=Ad
      generalize upd He r2 (.tup [.str (tx n1),.ref ls])=Hf at t8 hr2 ⊢
      refine⟨(by show 2≤sizeLine;decide),fun r3 nr3=>?_⟩
      have t9:Bg Hf (upd Hf r3 (.lst [.ref r1,.ref r2])):=.upd nr3
      have hr3:(upd Hf r3 (.lst [.ref r1,.ref r2])) r3=some (.lst [.ref r1,.ref r2]):=Ad
      generalize upd Hf r3 (.lst [.ref r1,.ref r2])=Hg at t9 hr3 ⊢
      have u9:=((u7.trans t7).trans t8).trans t9
      have flat:∀{u:List (List Nat)} {i:Nat} {xx yy:V},(vS u)[i]?=some xx→(vS u)[i]?=some yy→Adb K Hg 48 xx yy:=fun {u i xx yy} g1 g2=>by
       rw[g1] at g2
       cases g2
       obtain⟨w,_,rfl⟩:=Mr g1
       exact .flat rfl
      have sl:∀{p q:Addr} {u:List (List Nat)},Hg p=some (.lst (vS u))→Hg q=some (.lst (vS u))→Adb K Hg 49 (.ref p) (.ref q):=fun h1 h2=>.lst (SqL.of h1) (SqL.of h2) rfl fun i xx yy g1 g2=>flat g1 g2
      have st2:∀{p q c d:Addr} {nn:List Nat} {u:List (List Nat)},Hg p=some (.tup [.str (tx nn),.ref c])→Hg q=some (.tup [.str (tx nn),.ref d])→Hg c=some (.lst (vS u))→Hg d=some (.lst (vS u))→Adb K Hg 50 (.ref p) (.ref q):=fun h1 h2 h3 h4=>.tup (SqT.of h1) (SqT.of h2) rfl fun i xx yy g1 g2=>by
       rcases i with _ | _ | i
       ·cases g1
        cases g2
        exact .flat rfl
       ·cases g1
        cases g2
        exact sl h3 h4
       ·simp at g1
      refine⟨kp,r3,rfl,rfl,⟨_,_,SqL.of (u9 _ _ hkp),SqL.of hr3,rfl,fun i xx yy g1 g2=>?_⟩,k _⟩
      rcases i with _ | _ | i
      ·cases g1
       cases g2
       exact st2 (u9 _ _ f1) (t9 _ _ (t8 _ _ hr1)) (u9 _ _ f2) (u9 _ _ gf)
      ·cases g1
       cases g2
       exact st2 (u9 _ _ f3) (t9 _ _ hr2) (u9 _ _ f4) (u9 _ _ gs)
      ·simp at g1
end
theorem Aof{P:Program}{w:World}{K:PySem.W.Frag}{h:Heap}{mg:Str→Option Value}{fa:Addr}{Bc:Addr}
    {De:Addr}
    {DW:Addr}
    {Dg:Addr}
    {Dh:Addr}
    {Cr:Addr}
    {Dk:Addr}
    {Cu:Addr}
    {Dl:Addr}
    {Eg:Addr}
    {BW:Addr}
    {DX:Addr}
    {Cj:Addr}
    {Hl:Addr}
    {BV:Addr}
    {DR:Addr}
    {BR:Addr}
    {Bm:Addr}
    {Dd:Addr}
    {Qd:Addr}{Qe:FuncData}
    {Ih:Addr}{Ii:FuncData}
    {Ru:Addr}{Rv:FuncData}
    {Ln:Addr}{Lp:FuncData}
    {G4:Addr}{G5:FuncData}
    {Lq:Addr}{Lr:FuncData}
    {NP:Addr}{NQ:FuncData}
    {GR:Addr}{GX:FuncData}
    {Hs:Addr}{Ht:FuncData}
    {NT:Addr}{NZ:FuncData}
    {Xo:Addr}{Xp:FuncData}
    {Hu:Addr}{Hv:FuncData}
    {IW:Addr}{Ja:FuncData}
    {J9:Addr}{JB:FuncData}
    {Hw:Addr}{Hx:FuncData}
    {Rw:Addr}{Rx:FuncData}
    {Eo:Addr}{Ep:FuncData}
    {Fl:Addr}{Fo:FuncData}
    {Qf:Addr}{Qg:FuncData}
    {Ea:Addr}{Eb:FuncData}
    {Oa:Addr}{Ob:FuncData}
    {Jb:Addr}{Jc:FuncData}
    {Ls:Addr}{Lw:FuncData}
    {HS:Addr}{HW:FuncData}
    {Ij:Addr}{Ik:FuncData}
    {Od:Addr}{Oe:FuncData}
    {Qh:Addr}{Qi:FuncData}
    {JC:Addr}{JD:FuncData}
    {Lx:Addr}{Ly:FuncData}
    {HX:Addr}{HY:FuncData}
    {JF:Addr}{JG:FuncData}
    {JH:Addr}{JK:FuncData}
    {JL:Addr}{JM:FuncData}
    {Hy:Addr}{Hz:FuncData}
    {Uq:Addr}{Ur:FuncData}
    {Qj:Addr}{Qk:FuncData}
    {Og:Addr}{Oh:FuncData}
    {Oj:Addr}{Ol:FuncData}
    {Lz:Addr}{LC:FuncData}
    {LK:Addr}{LQ:FuncData}
    {Ql:Addr}{Qm:FuncData}
    {Ry:Addr}{Rz:FuncData}
    {Qn:Addr}{Qo:FuncData}
    {JN:Addr}{JP:FuncData}
    {Om:Addr}{Oo:FuncData}
    {Acv:Addr}{Aog Alk:Option Addr}{Aoh:Array (Option Value)}{Aoi Alm Aln Alo Ahq Alp:Value}
    {Ajs:Tok}
    {AcI:Tok}
    {AcJ:Tok}
    {Ajt:Tok}
    {Ago:Tok}
    {Agp:Tok}
    {Bd:Addr}{Bs:FuncData}
    {Ar:Addr}{Fy:FuncData}
    {Av:Addr}{Fz:FuncData}
    {Bf:Addr}{Rq:FuncData}
    {Ai:Addr}{Cm:FuncData}
    {Al:Addr}{Cw:FuncData}
    {Fd:Addr}{Gw:FuncData}
    {Gh:Addr}{Hm:FuncData}
    {Fe:Addr}{Gx:FuncData}
    {Ff:Addr}{Gy:FuncData}
    {Ek:Addr}{FZ:FuncData}
    {Fg:Addr}{Gz:FuncData}
    {El:Addr}{Ga:FuncData}
    {Fi:Addr}{G3:FuncData}
    {Gi:Addr}{Hn:FuncData}
    {DY:Addr}{Fj:FuncData}
    {Gj:Addr}{Ho:FuncData}
    {Em:Addr}{Gb:FuncData}
    {GK:Addr}{IV:FuncData}
    {En:Addr}{Gd:FuncData}
    {GP:Addr}{GQ:FuncData}
    {FJ:Addr}{FN:FuncData}
    {Ce:Addr}{Cg:FuncData}
    {Hq:Addr}{Hr:FuncData}
    {Vj:Addr}{AcK:Obj}{AcL:Array Value}{Alq:Nat}
    {QG:Addr}
    (X:K.In h) (G:h.Ns mainGlobals mg) (hfa:mg "law" = some (.ref fa))
    (AbA:ClH K "Piece" Bc)
    (AbB:ClH K "Named" De)
    (AeQ:ClH K "Rows" DW)
    (AbC:ClH K "Twill" Dg)
    (AbD:ClH K "Satin" Dh)
    (Z5:ClH K "Beside" Cr)
    (AbE:ClH K "Above" Dk)
    (Z6:ClH K "Mirror" Cu)
    (AbF:ClH K "Upend" Dl)
    (AeR:ClH K "Back" Eg)
    (X4:ClH K "Quarter" BW)
    (AeS:ClH K "Tile" DX)
    (Z7:ClH K "Blocks" Cj)
    (Aic:ClH K "Lay" Hl)
    (Z8:ClH K "Reader" BV)
    (Ew:ExH K "WeaveError" DR)
    (TX:PySem.W.excIn K DR vE vN=true)
    (JT:PySem.W.specialIn K (.builtin "object.__class__") "__get__" = some (some (.builtin "getset_descriptor.__get__")))
    (JV:PySem.W.takesIn K (.builtin "object.__class__")=some true)
    (Hi:ExH K "TooLarge" BR)
    (W8:PySem.W.excIn K BR vE vN=true)
    (Hj:PySem.W.mroIn K BR (.ref DR)=some true)
    (Gn:PySem.W.mroIn K BR (.ref BR)=some true)
    (FQ:PySem.W.mroIn K BR (.ref Bm)=some false)
    (Jx:PySem.W.mroIn K BR (.ref Dd)=some false)
    (FW:ExH K "NoPattern" Bm)
    (Vu:PySem.W.excIn K Bm vE vN=true)
    (Gu:PySem.W.mroIn K Bm (.ref DR)=some true)
    (Ia:PySem.W.mroIn K Bm (.ref BR)=some false)
    (EY:PySem.W.mroIn K Bm (.ref Bm)=some true)
    (Ip:PySem.W.mroIn K Bm (.ref Dd)=some false)
    (Jp:ExH K "Unknown" Dd)
    (Yu:PySem.W.excIn K Dd vE vN=true)
    (Ib:PySem.W.mroIn K Dd (.ref DR)=some true)
    (Jy:PySem.W.mroIn K Dd (.ref BR)=some false)
    (Ir:PySem.W.mroIn K Dd (.ref Bm)=some false)
    (Kl:PySem.W.mroIn K Dd (.ref Dd)=some true)
    (Aav:DfH K "is_name" Xm Qd Qe)
    (Yv:DfH K "measured" Yh Ih Ii)
    (Aaw:DfH K "back_of" Xn Ru Rv)
    (Vv:DfH K "quarter_of" Rn Ln Lp)
    (Qt:DfH K "measured_texts" PJ G4 G5)
    (Vw:DfH K "check_pick" Vb Lq Lr)
    (W9:DfH K "end_signs" SX NP NQ)
    (Sx:DfH K "turned_signs" O1 GR GX)
    (Ra:DfH K "filled_blocks" Nr Hs Ht)
    (WD:DfH K "unit_size" Wf NT NZ)
    (AeT:DfH K "tiled" Abu Xo Xp)
    (Rb:DfH K "laid_together" Nt Hu Hv)
    (Sy:DfH K "check_owners" RB IW Ja)
    (TY:DfH K "check_piece" Tv J9 JB)
    (Rc:DfH K "places_within" Nu Hw Hx)
    (Aax:DfH K "sign_at" ZX Rw Rx)
    (Vx:DfH K "check_size" Vc Eo Ep)
    (Qu:DfH K "check_one_size" PL Fl Fo)
    (Yw:DfH K "prime_to" Vd Qf Qg)
    (Aay:DfH K "written" ZZ Ea Eb)
    (WK:DfH K "number_of" Wg Oa Ob)
    (S5:DfH K "read_pattern" RD Jb Jc)
    (Vy:DfH K "read_whole" Ve Ls Lw)
    (WL:DfH K "read_node" Wh HS HW)
    (Ua:DfH K "read_things" Tz Ij Ik)
    (WM:DfH K "read_runs" Wi Od Oe)
    (Yx:DfH K "read_run" Yi Qh Qi)
    (Ub:DfH K "read_number" T3 JC JD)
    (Vz:DfH K "read_comma" Vf Lx Ly)
    (V0:DfH K "worked_out" Ro HX HY)
    (Uc:DfH K "known_cloth" T4 JF JG)
    (Ud:DfH K "made_of_one" T5 JH JK)
    (Ue:DfH K "made_of_two" T7 JL JM)
    (Rg:DfH K "made_of_three" QT Hy Hz)
    (AcM:DfH K "_law_at" Acs Uq Ur)
    (Yy:DfH K "_law_rows" Yj Qj Qk)
    (WN:DfH K "_law_names" Wk Og Oh)
    (WQ:DfH K "_law_other" Wl Oj Ol)
    (V1:DfH K "_law_turned" Ju Lz LC)
    (V2:DfH K "_law_filled" Rp LK LQ)
    (Yz:DfH K "_law_laid" RK Ql Qm)
    (Aaz:DfH K "_law_due" Uo Ry Rz)
    (Y0:DfH K "_law_text" Yl Qn Qo)
    (Ug:DfH K "_law_reading" T9 JN JP)
    (WR:DfH K "_law_right" Wn Om Oo)
    (Aid:PySem.W.nsIn K mainGlobals "law" = some (some (.ref Acv)))
    (Aie:K.lookup Acv=some ⟨Aoi,Aog,.func (PySem.W.fnOf "law" "law" (SM Wo) (Qw Wo) (Af Wo) .none Alm Aln Alo Alk Ahq Alp),Aoh⟩)
    (Aif:PySem.W.codeIn K Ahq "law" = true)
    (Aig:PySem.W.keepIn K (.ref Acv)=true)
    (V3:PySem.W.nsIn K mainGlobals "ValueError" = some none)
    (Alr:PySem.W.nsIn K mainGlobals "all" = some none)
    (Als:PySem.W.nsIn K mainGlobals "any" = some none)
    (WT:PySem.W.nsIn K mainGlobals "enumerate" = some none)
    (Alu:PySem.W.nsIn K mainGlobals "int" = some none)
    (V4:PySem.W.nsIn K mainGlobals "isinstance" = some none)
    (Alv:PySem.W.nsIn K mainGlobals "len" = some none)
    (Ahr:PySem.W.nsIn K mainGlobals "list" = some none)
    (AeU:PySem.W.nsIn K mainGlobals "range" = some none)
    (Y4:PySem.W.nsIn K mainGlobals "reversed" = some none)
    (Alw:PySem.W.nsIn K mainGlobals "str" = some none)
    (AeV:PySem.W.nsIn K mainGlobals "tuple" = some none)
    (Alx:PySem.W.nsIn K mainGlobals "zip" = some none)
    (Aa0:PySem.W.nsIn K mainGlobals "LETTERS" = some (some (.str "abcdefghijklmnopqrstuvwxyz" Ajs)))
    (S6:PySem.W.nsIn K mainGlobals "MOST_LETTERS" = some (some (.int 20 AcI)))
    (S7:PySem.W.nsIn K mainGlobals "MOST_STRANDS" = some (some (.int 40 AcJ)))
    (Aa1:PySem.W.nsIn K mainGlobals "FIGURES" = some (some (.str "0123456789" Ajt)))
    (WW:PySem.W.nsIn K mainGlobals "MOST_DEEP" = some (some (.int 12 Ago)))
    (WY:PySem.W.nsIn K mainGlobals "MOST_RUNS" = some (some (.int 40 Agp)))
    (Jq:MfH K "__init__" "Piece.__init__" PN Bc Bd Bs)
    (CJ:MfH K "wide" "Piece.wide" Vg Bc Ar Fy)
    (CK:MfH K "high" "Piece.high" Vh Bc Av Fz)
    (CP:MfH K "sign" "Piece.sign" Zb Bc Bf Rq)
    (Cq:MfH K "cloth" "Piece.cloth" TF Bc Ai Cm)
    (CQ:MfH K "told" "Piece.told" Vi Bc Al Cw)
    (Mi:MfH K "__init__" "Named.__init__" PQ De Fd Gw)
    (Nz:MfH K "__init__" "Rows.__init__" Nv DW Gh Hm)
    (Mj:MfH K "__init__" "Twill.__init__" Lk Dg Fe Gx)
    (Ml:MfH K "__init__" "Satin.__init__" IK Dh Ff Gy)
    (Ko:MfH K "__init__" "Beside.__init__" Kg Cr Ek FZ)
    (Mm:MfH K "__init__" "Above.__init__" PX Dk Fg Gz)
    (Kp:MfH K "__init__" "Mirror.__init__" Kh Cu El Ga)
    (Mp:MfH K "__init__" "Upend.__init__" Qa Dl Fi G3)
    (N5:MfH K "__init__" "Back.__init__" QV Eg Gi Hn)
    (J0:MfH K "__init__" "Quarter.__init__" N8 BW DY Fj)
    (N6:MfH K "__init__" "Tile.__init__" QW DX Gj Ho)
    (Kq:MfH K "__init__" "Blocks.__init__" O3 Cj Em Gb)
    (Pu:MfH K "__init__" "Lay.__init__" RQ Hl GK IV)
    (Kr:MfH K "__init__" "Reader.__init__" O4 BV En Gd)
    (S8:MfH K "ended" "Reader.ended" RT BV GP GQ)
    (Uh:MfH K "took" "Reader.took" TJ BV FJ FN)
    (Qv:MfH K "stretch" "Reader.stretch" Qc BV Ce Cg)
    (Rh:MfH K "number" "Reader.number" QX BV Hq Hr)
    (Mv:PySem.W.findIn K (.ref De) "wide" = some (some (.ref Ar)))
    (Mw:PySem.W.findIn K (.ref De) "high" = some (some (.ref Av)))
    (Mx:PySem.W.findIn K (.ref De) "sign" = some (some (.ref Bf)))
    (K5:PySem.W.findIn K (.ref De) "cloth" = some (some (.ref Ai)))
    (My:PySem.W.findIn K (.ref De) "told" = some (some (.ref Al)))
    (O7:PySem.W.findIn K (.ref DW) "wide" = some (some (.ref Ar)))
    (O8:PySem.W.findIn K (.ref DW) "high" = some (some (.ref Av)))
    (O9:PySem.W.findIn K (.ref DW) "sign" = some (some (.ref Bf)))
    (Mz:PySem.W.findIn K (.ref DW) "cloth" = some (some (.ref Ai)))
    (OD:PySem.W.findIn K (.ref DW) "told" = some (some (.ref Al)))
    (M3:PySem.W.findIn K (.ref Dg) "wide" = some (some (.ref Ar)))
    (M4:PySem.W.findIn K (.ref Dg) "high" = some (some (.ref Av)))
    (M5:PySem.W.findIn K (.ref Dg) "sign" = some (some (.ref Bf)))
    (K6:PySem.W.findIn K (.ref Dg) "cloth" = some (some (.ref Ai)))
    (M6:PySem.W.findIn K (.ref Dg) "told" = some (some (.ref Al)))
    (M7:PySem.W.findIn K (.ref Dh) "wide" = some (some (.ref Ar)))
    (M8:PySem.W.findIn K (.ref Dh) "high" = some (some (.ref Av)))
    (M9:PySem.W.findIn K (.ref Dh) "sign" = some (some (.ref Bf)))
    (K7:PySem.W.findIn K (.ref Dh) "cloth" = some (some (.ref Ai)))
    (MF:PySem.W.findIn K (.ref Dh) "told" = some (some (.ref Al)))
    (K8:PySem.W.findIn K (.ref Cr) "wide" = some (some (.ref Ar)))
    (K9:PySem.W.findIn K (.ref Cr) "high" = some (some (.ref Av)))
    (KC:PySem.W.findIn K (.ref Cr) "sign" = some (some (.ref Bf)))
    (J2:PySem.W.findIn K (.ref Cr) "cloth" = some (some (.ref Ai)))
    (KD:PySem.W.findIn K (.ref Cr) "told" = some (some (.ref Al)))
    (MJ:PySem.W.findIn K (.ref Dk) "wide" = some (some (.ref Ar)))
    (MK:PySem.W.findIn K (.ref Dk) "high" = some (some (.ref Av)))
    (MN:PySem.W.findIn K (.ref Dk) "sign" = some (some (.ref Bf)))
    (KH:PySem.W.findIn K (.ref Dk) "cloth" = some (some (.ref Ai)))
    (MP:PySem.W.findIn K (.ref Dk) "told" = some (some (.ref Al)))
    (KJ:PySem.W.findIn K (.ref Cu) "wide" = some (some (.ref Ar)))
    (KN:PySem.W.findIn K (.ref Cu) "high" = some (some (.ref Av)))
    (KQ:PySem.W.findIn K (.ref Cu) "sign" = some (some (.ref Bf)))
    (J3:PySem.W.findIn K (.ref Cu) "cloth" = some (some (.ref Ai)))
    (KR:PySem.W.findIn K (.ref Cu) "told" = some (some (.ref Al)))
    (MT:PySem.W.findIn K (.ref Dl) "wide" = some (some (.ref Ar)))
    (Nf:PySem.W.findIn K (.ref Dl) "high" = some (some (.ref Av)))
    (Ng:PySem.W.findIn K (.ref Dl) "sign" = some (some (.ref Bf)))
    (KY:PySem.W.findIn K (.ref Dl) "cloth" = some (some (.ref Ai)))
    (Nh:PySem.W.findIn K (.ref Dl) "told" = some (some (.ref Al)))
    (OJ:PySem.W.findIn K (.ref Eg) "wide" = some (some (.ref Ar)))
    (Pa:PySem.W.findIn K (.ref Eg) "high" = some (some (.ref Av)))
    (Pb:PySem.W.findIn K (.ref Eg) "sign" = some (some (.ref Bf)))
    (Ni:PySem.W.findIn K (.ref Eg) "cloth" = some (some (.ref Ai)))
    (Pg:PySem.W.findIn K (.ref Eg) "told" = some (some (.ref Al)))
    (J4:PySem.W.findIn K (.ref BW) "wide" = some (some (.ref Ar)))
    (J5:PySem.W.findIn K (.ref BW) "high" = some (some (.ref Av)))
    (J6:PySem.W.findIn K (.ref BW) "sign" = some (some (.ref Bf)))
    (Ji:PySem.W.findIn K (.ref BW) "cloth" = some (some (.ref Ai)))
    (J7:PySem.W.findIn K (.ref BW) "told" = some (some (.ref Al)))
    (Ph:PySem.W.findIn K (.ref DX) "wide" = some (some (.ref Ar)))
    (Pj:PySem.W.findIn K (.ref DX) "high" = some (some (.ref Av)))
    (Pk:PySem.W.findIn K (.ref DX) "sign" = some (some (.ref Bf)))
    (Nj:PySem.W.findIn K (.ref DX) "cloth" = some (some (.ref Ai)))
    (Pn:PySem.W.findIn K (.ref DX) "told" = some (some (.ref Al)))
    (KZ:PySem.W.findIn K (.ref Cj) "wide" = some (some (.ref Ar)))
    (La:PySem.W.findIn K (.ref Cj) "high" = some (some (.ref Av)))
    (Lb:PySem.W.findIn K (.ref Cj) "sign" = some (some (.ref Bf)))
    (J8:PySem.W.findIn K (.ref Cj) "cloth" = some (some (.ref Ai)))
    (Ld:PySem.W.findIn K (.ref Cj) "told" = some (some (.ref Al)))
    (QH:PySem.W.findIn K (.ref Hl) "wide" = some (some (.ref Ar)))
    (QJ:PySem.W.findIn K (.ref Hl) "high" = some (some (.ref Av)))
    (QK:PySem.W.findIn K (.ref Hl) "sign" = some (some (.ref Bf)))
    (Pq:PySem.W.findIn K (.ref Hl) "cloth" = some (some (.ref Ai)))
    (QL:PySem.W.findIn K (.ref Hl) "told" = some (some (.ref Al)))
    (Aa2:PySem.W.readsIn K Bc (.type "type")=true)
    (Aa3:PySem.W.findCls K (.ref Bc) (.type "type") "__init__" = some (.val (.ref Bd)))
    (Aa4:PySem.W.handedIn (.ref Bd)=true)
    (Aa5:PySem.W.specialIn K (.ref Bc) "__getattribute__" = some (some (.builtin "type.__getattribute__")))
    (Aa6:PySem.W.nsIn K mainGlobals "WORDS" = some (some (.ref Vj)))
    (Aa7:K.lookup Vj=some AcK)
    (Aa8:AcK.cls=.type "tuple")
    (Aa9:AcK.data=.seq AcL Alq)
    (AaA:AcL.size≤sizeLine)
    (AaB:Vals ((["rows", "twill", "satin", "beside", "above", "mirror", "upend", "back", "quarter", "tile", "blocks", "lay"]:List Str).map V.str) AcL.toList)
    (Y5:PySem.W.nsIn K mainGlobals "THINGS" = some (some (.ref QG)))
    (Y6:PyProof.Rows.KTD.tabLook (PyProof.Rows.KTD.datLooks fun b=>K.lookup b) (fun b=>K.lookup b) QG (([("twill", "nn"),("satin", "nn"),("beside", "pp"),("above", "pp"),("mirror", "p"),("upend", "p"),("back", "p"),("quarter", "p"),("tile", "pnn"),("blocks", "ppp"),("lay", "pp")]:List (Str × Str)).map fun p=>(p.1,PyProof.Rows.KTD.Dat.flat (.str p.2)))=true)
    (O6:PySem.W.findIn K (.ref Bc) "texts" = some none)
    (LR:PySem.W.findIn K (.ref Bc) "writing" = some none)
    (Jd:PySem.W.findIn K (.ref De) "texts" = some none)
    (G6:PySem.W.findIn K (.ref De) "writing" = some none)
    (JQ:PySem.W.findIn K (.ref DW) "texts" = some none)
    (HB:PySem.W.findIn K (.ref DW) "writing" = some none)
    (Je:PySem.W.findIn K (.ref Dg) "texts" = some none)
    (G7:PySem.W.findIn K (.ref Dg) "writing" = some none)
    (Jf:PySem.W.findIn K (.ref Dh) "texts" = some none)
    (G8:PySem.W.findIn K (.ref Dh) "writing" = some none)
    (HD:PySem.W.findIn K (.ref Cr) "texts" = some none)
    (Ge:PySem.W.findIn K (.ref Cr) "writing" = some none)
    (Jg:PySem.W.findIn K (.ref Dk) "texts" = some none)
    (G9:PySem.W.findIn K (.ref Dk) "writing" = some none)
    (HF:PySem.W.findIn K (.ref Cu) "texts" = some none)
    (Gf:PySem.W.findIn K (.ref Cu) "writing" = some none)
    (Jh:PySem.W.findIn K (.ref Dl) "texts" = some none)
    (GC:PySem.W.findIn K (.ref Dl) "writing" = some none)
    (JR:PySem.W.findIn K (.ref Eg) "texts" = some none)
    (HH:PySem.W.findIn K (.ref Eg) "writing" = some none)
    (GD:PySem.W.findIn K (.ref BW) "texts" = some none)
    (Fp:PySem.W.findIn K (.ref BW) "writing" = some none)
    (JS:PySem.W.findIn K (.ref DX) "texts" = some none)
    (HJ:PySem.W.findIn K (.ref DX) "writing" = some none)
    (HN:PySem.W.findIn K (.ref Cj) "texts" = some none)
    (Gg:PySem.W.findIn K (.ref Cj) "writing" = some none)
    (Ma:PySem.W.findIn K (.ref Hl) "texts" = some none)
    (Jj:PySem.W.findIn K (.ref Hl) "writing" = some none)
    (DP:PySem.W.findIn K (.ref BV) "text" = some none)
    (Ci:PySem.W.findIn K (.ref BV) "place" = some none)
    (v2:PySem.W.specialIn K (.builtin "object.__class__") "__get__" = some (some (.builtin "getset_descriptor.__get__")))
    (v3:PySem.W.takesIn K (.builtin "object.__class__")=some true)
    (AcN:PySem.W.findIn K (.ref De) "__class__" = some (some (.builtin "object.__class__")))
    (AcO:PySem.W.mroIn K De (.type "object")=some true)
    (Ws:PySem.W.kitOne K (.ref De) (.ref Bc)=some true)
    (AeW:PySem.W.findIn K (.ref DW) "__class__" = some (some (.builtin "object.__class__")))
    (AeX:PySem.W.mroIn K DW (.type "object")=some true)
    (Zi:PySem.W.kitOne K (.ref DW) (.ref Bc)=some true)
    (AcP:PySem.W.findIn K (.ref Dg) "__class__" = some (some (.builtin "object.__class__")))
    (AcQ:PySem.W.mroIn K Dg (.type "object")=some true)
    (Wu:PySem.W.kitOne K (.ref Dg) (.ref Bc)=some true)
    (AcR:PySem.W.findIn K (.ref Dh) "__class__" = some (some (.builtin "object.__class__")))
    (AcS:PySem.W.mroIn K Dh (.type "object")=some true)
    (Wv:PySem.W.kitOne K (.ref Dh) (.ref Bc)=some true)
    (AaC:PySem.W.findIn K (.ref Cr) "__class__" = some (some (.builtin "object.__class__")))
    (AaD:PySem.W.mroIn K Cr (.type "object")=some true)
    (Us:PySem.W.kitOne K (.ref Cr) (.ref Bc)=some true)
    (AcT:PySem.W.findIn K (.ref Dk) "__class__" = some (some (.builtin "object.__class__")))
    (AcU:PySem.W.mroIn K Dk (.type "object")=some true)
    (Ww:PySem.W.kitOne K (.ref Dk) (.ref Bc)=some true)
    (AaE:PySem.W.findIn K (.ref Cu) "__class__" = some (some (.builtin "object.__class__")))
    (AaF:PySem.W.mroIn K Cu (.type "object")=some true)
    (Ut:PySem.W.kitOne K (.ref Cu) (.ref Bc)=some true)
    (AcV:PySem.W.findIn K (.ref Dl) "__class__" = some (some (.builtin "object.__class__")))
    (AcW:PySem.W.mroIn K Dl (.type "object")=some true)
    (Wy:PySem.W.kitOne K (.ref Dl) (.ref Bc)=some true)
    (AeY:PySem.W.findIn K (.ref Eg) "__class__" = some (some (.builtin "object.__class__")))
    (AeZ:PySem.W.mroIn K Eg (.type "object")=some true)
    (Zj:PySem.W.kitOne K (.ref Eg) (.ref Bc)=some true)
    (Y7:PySem.W.findIn K (.ref BW) "__class__" = some (some (.builtin "object.__class__")))
    (Y8:PySem.W.mroIn K BW (.type "object")=some true)
    (Sh:PySem.W.kitOne K (.ref BW) (.ref Bc)=some true)
    (Afa:PySem.W.findIn K (.ref DX) "__class__" = some (some (.builtin "object.__class__")))
    (Afb:PySem.W.mroIn K DX (.type "object")=some true)
    (Zk:PySem.W.kitOne K (.ref DX) (.ref Bc)=some true)
    (AaG:PySem.W.findIn K (.ref Cj) "__class__" = some (some (.builtin "object.__class__")))
    (AaH:PySem.W.mroIn K Cj (.type "object")=some true)
    (Uu:PySem.W.kitOne K (.ref Cj) (.ref Bc)=some true)
    (Ahs:PySem.W.findIn K (.ref Hl) "__class__" = some (some (.builtin "object.__class__")))
    (Aht:PySem.W.mroIn K Hl (.type "object")=some true)
    (Ac0:PySem.W.kitOne K (.ref Hl) (.ref Bc)=some true) :
    ∃ fd:FuncData,(∀(s:Shared) (v:Value),BindsTo s fd ⟨[v],[]⟩ [("script", v)])∧∀ base:Heap,K.In base→base.Ns mainGlobals mg→Aj P w K mg base CX0 36 fa fd ["script"] (AeO K):=by
  have T:Txt K mg ⟨Bc,De,DW,Dg,Dh,Cr,Dk,Cu,Dl,Eg,BW,DX,Cj,Hl,BV,QG,Vj,Bd,Bs,Ar,Fy,Av,Fz,Bf,Rq,Ai,Cm,Al,Cw,Fd,Gw,Gh,Hm,Fe,Gx,Ff,Gy,Ek,FZ,Fg,Gz,El,Ga,Fi,G3,Gi,Hn,DY,Fj,Gj,Ho,Em,Gb,GK,IV,En,Gd,GP,GQ,FJ,FN,Ce,Cg,Hq,Hr,Qd,Qe,Ih,Ii,Ru,Rv,Ln,Lp,G4,G5,Lq,Lr,NP,NQ,GR,GX,Hs,Ht,NT,NZ,Xo,Xp,Hu,Hv,IW,Ja,J9,JB,Hw,Hx,Rw,Rx,Eo,Ep,Fl,Fo,Qf,Qg,Ea,Eb,Oa,Ob,Jb,Jc,Ls,Lw,HS,HW,Ij,Ik,Od,Oe,Qh,Qi,JC,JD,Lx,Ly,HX,HY,JF,JG,JH,JK,JL,JM,Hy,Hz,Uq,Ur,Qj,Qk,Og,Oh,Oj,Ol,Lz,LC,LK,LQ,Ql,Qm,Ry,Rz,Qn,Qo,JN,JP,Om,Oo,Acv,PySem.W.fnOf "law" "law" (SM Wo) (Qw Wo) (Af Wo) .none Alm Aln Alo Alk Ahq Alp,DR,BR,Bm,Dd⟩ :=
  ⟨Aav.df X G fun _ _ _ _ _ _ us hl=>bl1 (fun _=>rfl) us hl,
   Yv.df X G fun _ _ _ _ _ _ us hl=>bl1 (fun _=>rfl) us hl,
   Aaw.df X G fun _ _ _ _ _ _ us hl=>bl1 (fun _=>rfl) us hl,
   Vv.df X G fun _ _ _ _ _ _ us hl=>bl1 (fun _=>rfl) us hl,
   Qt.df X G fun _ _ _ _ _ _ us hl=>bl3 (fun _ _ _=>rfl) us hl,
   Vw.df X G fun _ _ _ _ _ _ us hl=>bl3 (fun _ _ _=>rfl) us hl,
   W9.df X G fun _ _ _ _ _ _ us hl=>bl2 (fun _ _=>rfl) us hl,
   Sx.df X G fun _ _ _ _ _ _ us hl=>bl1 (fun _=>rfl) us hl,
   Ra.df X G fun _ _ _ _ _ _ us hl=>bl3 (fun _ _ _=>rfl) us hl,
   WD.df X G fun _ _ _ _ _ _ us hl=>bl2 (fun _ _=>rfl) us hl,
   AeT.df X G fun _ _ _ _ _ _ us hl=>bl3 (fun _ _ _=>rfl) us hl,
   Rb.df X G fun _ _ _ _ _ _ us hl=>bl3 (fun _ _ _=>rfl) us hl,
   Sy.df X G fun _ _ _ _ _ _ us hl=>bl2 (fun _ _=>rfl) us hl,
   TY.df X G fun _ _ _ _ _ _ us hl=>bl3 (fun _ _ _=>rfl) us hl,
   Rc.df X G fun _ _ _ _ _ _ us hl=>bl1 (fun _=>rfl) us hl,
   Aax.df X G fun _ _ _ _ _ _ us hl=>bl4 (fun _ _ _ _=>rfl) us hl,
   Vx.df X G fun _ _ _ _ _ _ us hl=>bl2 (fun _ _=>rfl) us hl,
   Qu.df X G fun _ _ _ _ _ _ us hl=>bl2 (fun _ _=>rfl) us hl,
   Yw.df X G fun _ _ _ _ _ _ us hl=>bl2 (fun _ _=>rfl) us hl,
   Aay.df X G fun _ _ _ _ _ _ us hl=>bl2 (fun _ _=>rfl) us hl,
   WK.df X G fun _ _ _ _ _ _ us hl=>bl1 (fun _=>rfl) us hl,
   S5.df X G fun _ _ _ _ _ _ us hl=>bl2 (fun _ _=>rfl) us hl,
   Vy.df X G fun _ _ _ _ _ _ us hl=>bl1 (fun _=>rfl) us hl,
   WL.df X G fun _ _ _ _ _ _ us hl=>bl2 (fun _ _=>rfl) us hl,
   Ua.df X G fun _ _ _ _ _ _ us hl=>bl3 (fun _ _ _=>rfl) us hl,
   WM.df X G fun _ _ _ _ _ _ us hl=>bl1 (fun _=>rfl) us hl,
   Yx.df X G fun _ _ _ _ _ _ us hl=>bl1 (fun _=>rfl) us hl,
   Ub.df X G fun _ _ _ _ _ _ us hl=>bl1 (fun _=>rfl) us hl,
   Vz.df X G fun _ _ _ _ _ _ us hl=>bl1 (fun _=>rfl) us hl,
   V0.df X G fun _ _ _ _ _ _ us hl=>bl2 (fun _ _=>rfl) us hl,
   Uc.df X G fun _ _ _ _ _ _ us hl=>bl2 (fun _ _=>rfl) us hl,
   Ud.df X G fun _ _ _ _ _ _ us hl=>bl2 (fun _ _=>rfl) us hl,
   Ue.df X G fun _ _ _ _ _ _ us hl=>bl3 (fun _ _ _=>rfl) us hl,
   Rg.df X G fun _ _ _ _ _ _ us hl=>bl2 (fun _ _=>rfl) us hl,
   AcM.df X G fun _ _ _ _ _ _ us hl=>bl2 (fun _ _=>rfl) us hl,
   Yy.df X G fun _ _ _ _ _ _ us hl=>bl3 (fun _ _ _=>rfl) us hl,
   WN.df X G fun _ _ _ _ _ _ us hl=>bl1 (fun _=>rfl) us hl,
   WQ.df X G fun _ _ _ _ _ _ us hl=>bl1 (fun _=>rfl) us hl,
   V1.df X G fun _ _ _ _ _ _ us hl=>bl2 (fun _ _=>rfl) us hl,
   V2.df X G fun _ _ _ _ _ _ us hl=>bl3 (fun _ _ _=>rfl) us hl,
   Yz.df X G fun _ _ _ _ _ _ us hl=>bl2 (fun _ _=>rfl) us hl,
   Aaz.df X G fun _ _ _ _ _ _ us hl=>bl5 (fun _ _ _ _ _=>rfl) us hl,
   Y0.df X G fun _ _ _ _ _ _ us hl=>bl4 (fun _ _ _ _=>rfl) us hl,
   Ug.df X G fun _ _ _ _ _ _ us hl=>bl2 (fun _ _=>rfl) us hl,
   WR.df X G fun _ _ _ _ _ _ us hl=>bl2 (fun _ _=>rfl) us hl,
   ⟨Aed (st:=Wo) Aie Aif Aig,PySem.W.mg_of X G Aid,(Aed (st:=Wo) Aie Aif Aig).binds (ps:=["script"]) fun _ _ _ _ _ _ us hl=>bl1 (fun _=>rfl) us hl⟩,
   PySem.W.mg_none_of X G V3,
   PySem.W.mg_none_of X G Alr,
   PySem.W.mg_none_of X G Als,
   PySem.W.mg_none_of X G WT,
   PySem.W.mg_none_of X G Alu,
   PySem.W.mg_none_of X G V4,
   PySem.W.mg_none_of X G Alv,
   PySem.W.mg_none_of X G Ahr,
   PySem.W.mg_none_of X G AeU,
   PySem.W.mg_none_of X G Y4,
   PySem.W.mg_none_of X G Alw,
   PySem.W.mg_none_of X G AeV,
   PySem.W.mg_none_of X G Alx,
   ⟨_,PySem.W.mg_of X G Aa0⟩,
   ⟨_,PySem.W.mg_of X G S6⟩,
   ⟨_,PySem.W.mg_of X G S7⟩,
   ⟨_,PySem.W.mg_of X G Aa1⟩,
   ⟨_,PySem.W.mg_of X G WW⟩,
   ⟨_,PySem.W.mg_of X G WY⟩,
   PySem.W.mg_of X G Ew.n,
   Aen TX Ew.y2 Ew.y3 Ew.y4 JT JV Ew.y7 Ew.y8 Ew.y9 Ew.y10 Ew.y11,
   PySem.W.mg_of X G Hi.n,
   Aen W8 Hi.y2 Hi.y3 Hi.y4 JT JV Hi.y7 Hi.y8 Hi.y9 Hi.y10 Hi.y11,
   Hj,
   Gn,
   FQ,
   Jx,
   PySem.W.mg_of X G FW.n,
   Aen Vu FW.y2 FW.y3 FW.y4 JT JV FW.y7 FW.y8 FW.y9 FW.y10 FW.y11,
   Gu,
   Ia,
   EY,
   Ip,
   PySem.W.mg_of X G Jp.n,
   Aen Yu Jp.y2 Jp.y3 Jp.y4 JT JV Jp.y7 Jp.y8 Jp.y9 Jp.y10 Jp.y11,
   Ib,
   Jy,
   Ir,
   Kl,
   PySem.W.mg_of X G AbA.n,
   AbA.own Jq,
   O6,
   LR,
   PySem.W.mg_of X G AbB.n,
   AbB.own Mi,
   Jd,
   G6,
   ⟨AcN,v2,v3,AcO⟩,
   Ws,
   CJ.inh Mv,
   CK.inh Mw,
   CP.inh Mx,
   Cq.inh K5,
   CQ.inh My,
   PySem.W.mg_of X G AeQ.n,
   AeQ.own Nz,
   JQ,
   HB,
   ⟨AeW,v2,v3,AeX⟩,
   Zi,
   CJ.inh O7,
   CK.inh O8,
   CP.inh O9,
   Cq.inh Mz,
   CQ.inh OD,
   PySem.W.mg_of X G AbC.n,
   AbC.own Mj,
   Je,
   G7,
   ⟨AcP,v2,v3,AcQ⟩,
   Wu,
   CJ.inh M3,
   CK.inh M4,
   CP.inh M5,
   Cq.inh K6,
   CQ.inh M6,
   PySem.W.mg_of X G AbD.n,
   AbD.own Ml,
   Jf,
   G8,
   ⟨AcR,v2,v3,AcS⟩,
   Wv,
   CJ.inh M7,
   CK.inh M8,
   CP.inh M9,
   Cq.inh K7,
   CQ.inh MF,
   PySem.W.mg_of X G Z5.n,
   Z5.own Ko,
   HD,
   Ge,
   ⟨AaC,v2,v3,AaD⟩,
   Us,
   CJ.inh K8,
   CK.inh K9,
   CP.inh KC,
   Cq.inh J2,
   CQ.inh KD,
   PySem.W.mg_of X G AbE.n,
   AbE.own Mm,
   Jg,
   G9,
   ⟨AcT,v2,v3,AcU⟩,
   Ww,
   CJ.inh MJ,
   CK.inh MK,
   CP.inh MN,
   Cq.inh KH,
   CQ.inh MP,
   PySem.W.mg_of X G Z6.n,
   Z6.own Kp,
   HF,
   Gf,
   ⟨AaE,v2,v3,AaF⟩,
   Ut,
   CJ.inh KJ,
   CK.inh KN,
   CP.inh KQ,
   Cq.inh J3,
   CQ.inh KR,
   PySem.W.mg_of X G AbF.n,
   AbF.own Mp,
   Jh,
   GC,
   ⟨AcV,v2,v3,AcW⟩,
   Wy,
   CJ.inh MT,
   CK.inh Nf,
   CP.inh Ng,
   Cq.inh KY,
   CQ.inh Nh,
   PySem.W.mg_of X G AeR.n,
   AeR.own N5,
   JR,
   HH,
   ⟨AeY,v2,v3,AeZ⟩,
   Zj,
   CJ.inh OJ,
   CK.inh Pa,
   CP.inh Pb,
   Cq.inh Ni,
   CQ.inh Pg,
   PySem.W.mg_of X G X4.n,
   X4.own J0,
   GD,
   Fp,
   ⟨Y7,v2,v3,Y8⟩,
   Sh,
   CJ.inh J4,
   CK.inh J5,
   CP.inh J6,
   Cq.inh Ji,
   CQ.inh J7,
   PySem.W.mg_of X G AeS.n,
   AeS.own N6,
   JS,
   HJ,
   ⟨Afa,v2,v3,Afb⟩,
   Zk,
   CJ.inh Ph,
   CK.inh Pj,
   CP.inh Pk,
   Cq.inh Nj,
   CQ.inh Pn,
   PySem.W.mg_of X G Z7.n,
   Z7.own Kq,
   HN,
   Gg,
   ⟨AaG,v2,v3,AaH⟩,
   Uu,
   CJ.inh KZ,
   CK.inh La,
   CP.inh Lb,
   Cq.inh J8,
   CQ.inh Ld,
   PySem.W.mg_of X G Aic.n,
   Aic.own Pu,
   Ma,
   Jj,
   ⟨Ahs,v2,v3,Aht⟩,
   Ac0,
   CJ.inh QH,
   CK.inh QJ,
   CP.inh QK,
   Cq.inh Pq,
   CQ.inh QL,
   PySem.W.mg_of X G Z8.n,
   Z8.own Kr,
   DP,
   Ci,
   ⟨Aa2,Aa3,Aa4,Aa5,Jq.F.2⟩,
   PySem.W.mg_of X G Aa6,
   AlM Aa7 Aa8 Aa9 AaA AaB,
   PySem.W.mg_of X G Y5,
   An2 Y6,
   Jq.mf fun _ _ _ _ _ _ us hl=>bl3 (fun _ _ _=>rfl) us hl,
   CJ.mf fun _ _ _ _ _ _ us hl=>bl1 (fun _=>rfl) us hl,
   CK.mf fun _ _ _ _ _ _ us hl=>bl1 (fun _=>rfl) us hl,
   CP.mf fun _ _ _ _ _ _ us hl=>bl3 (fun _ _ _=>rfl) us hl,
   Cq.mf fun _ _ _ _ _ _ us hl=>bl1 (fun _=>rfl) us hl,
   CQ.mf fun _ _ _ _ _ _ us hl=>bl1 (fun _=>rfl) us hl,
   Mi.mf fun _ _ _ _ _ _ us hl=>bl3 (fun _ _ _=>rfl) us hl,
   Nz.mf fun _ _ _ _ _ _ us hl=>bl2 (fun _ _=>rfl) us hl,
   Mj.mf fun _ _ _ _ _ _ us hl=>bl3 (fun _ _ _=>rfl) us hl,
   Ml.mf fun _ _ _ _ _ _ us hl=>bl3 (fun _ _ _=>rfl) us hl,
   Ko.mf fun _ _ _ _ _ _ us hl=>bl3 (fun _ _ _=>rfl) us hl,
   Mm.mf fun _ _ _ _ _ _ us hl=>bl3 (fun _ _ _=>rfl) us hl,
   Kp.mf fun _ _ _ _ _ _ us hl=>bl2 (fun _ _=>rfl) us hl,
   Mp.mf fun _ _ _ _ _ _ us hl=>bl2 (fun _ _=>rfl) us hl,
   N5.mf fun _ _ _ _ _ _ us hl=>bl2 (fun _ _=>rfl) us hl,
   J0.mf fun _ _ _ _ _ _ us hl=>bl2 (fun _ _=>rfl) us hl,
   N6.mf fun _ _ _ _ _ _ us hl=>bl4 (fun _ _ _ _=>rfl) us hl,
   Kq.mf fun _ _ _ _ _ _ us hl=>bl4 (fun _ _ _ _=>rfl) us hl,
   Pu.mf fun _ _ _ _ _ _ us hl=>bl3 (fun _ _ _=>rfl) us hl,
   Kr.mf fun _ _ _ _ _ _ us hl=>bl2 (fun _ _=>rfl) us hl,
   S8.mf fun _ _ _ _ _ _ us hl=>bl1 (fun _=>rfl) us hl,
   Uh.mf fun _ _ _ _ _ _ us hl=>bl2 (fun _ _=>rfl) us hl,
   Qv.mf fun _ _ _ _ _ _ us hl=>bl2 (fun _ _=>rfl) us hl,
   Rh.mf fun _ _ _ _ _ _ us hl=>bl1 (fun _=>rfl) us hl⟩
  have e:=hfa.symm.trans (PySem.W.mg_of X G Aid)
  cases e
  exact⟨_,fun s v=>.of_eq rfl,fun base _ _=>Aod T⟩
end Mine
open PySem PySem.W PyProof.Rows
def PySem.W.Fast.tw15035097514197985654:=()
def PySem.W.Fast.tw293271567039803001:=()
def PySem.W.Fast.tw6094448665580264216:=()
def PySem.W.Fast.tw16586935788270321990:=()
def PySem.W.Fast.tw13311862060475253048:=()
def PySem.W.Fast.tw753982682201100403:=()
def PySem.W.Fast.tw11187084198033872272:=()
def PySem.W.Fast.tw7311554666019125441:=()
def PySem.W.Fast.tw16444758833186386448:=()
def PySem.W.Fast.tw16513682796689119813:=()
def PySem.W.Fast.tw9773007599484542235:=()
def PySem.W.Fast.tw18386662876662343721:=()
def PySem.W.Fast.tw10527112485621823772:=()
def PySem.W.Fast.tw16849291494768004972:=()
def PySem.W.Fast.tw14535674717746977105:=()
def PySem.W.Fast.tw100480133332510546:=()
def PySem.W.Fast.tw3485449056105273904:=()
def PySem.W.Fast.tw15722883073661223659:=()
def PySem.W.Fast.tw2162081868218311242:=()
def PySem.W.Fast.tw4567002139192035394:=()
def PySem.W.Fast.tw10382728416387856858:=()
def PySem.W.Fast.tw4236382313381736284:=()
def PySem.W.Fast.tw8207675844435994186:=()
def PySem.W.Fast.tw2569284616791643502:=()
def PySem.W.Fast.tw6663123803246900381:=()
def PySem.W.Fast.tw16808770119584372779:=()
def PySem.W.Fast.tw13023156861882765420:=()
def PySem.W.Fast.tw12528221502091855248:=()
def PySem.W.Fast.tw8450139807948234108:=()
def PySem.W.Fast.tw15720608285612519062:=()
def PySem.W.Fast.tw11991789905467160794:=()
def PySem.W.Fast.tw7740470257111256257:=()
def PySem.W.Fast.tw2820121653792555002:=()
def PySem.W.Fast.tw16900645900134792733:=()
def PySem.W.Fast.tw10264004426563122615:=()
def PySem.W.Fast.tw6899693962662255304:=()
def PySem.W.Fast.tw12290224577781247509:=()
def PySem.W.Fast.tw1440433520368478330:=()
def PySem.W.Fast.tw2222159280932642034:=()
def PySem.W.Fast.tw9491464971447622257:=()
def PySem.W.Fast.tw12125836710221802374:=()
def PySem.W.Fast.tw9005974675304513022:=()
def PySem.W.Fast.tw7429686409455706815:=()
def PySem.W.Fast.tw4959566045146700086:=()
def PySem.W.Fast.tw11501411573297791165:=()
def PySem.W.Fast.tw442991546865574135:=()
def PySem.W.Fast.tw9755370194673664921:=()
def PySem.W.Fast.tw12504673848317567414:=()
def PySem.W.Fast.tw2602784142063747450:=()
def PySem.W.Fast.tw9818196665372746809:=()
def PySem.W.Fast.tw15385938710155901138:=()
def PySem.W.Fast.tw3427779238546018722:=()
def PySem.W.Fast.tw3395369569925551703:=()
def PySem.W.Fast.tw4649974207755545813:=()
def PySem.W.Fast.tw378754396086936962:=()
def PySem.W.Fast.tw11366650485325620485:=()
def PySem.W.Fast.tw8087199553100374212:=()
def PySem.W.Fast.tw1738858400197385235:=()
def PySem.W.Fast.tw11735748465277136245:=()
def PySem.W.Fast.tw17350241698400151499:=()
def PySem.W.Fast.tw8209345225878981395:=()
def PySem.W.Fast.tw1379803705891398884:=()
def PySem.W.Fast.tw7051120978163924235:=()
def PySem.W.Fast.tw18077975500512422614:=()
def PySem.W.Fast.tw13533790730627720792:=()
def PySem.W.Fast.tw11340132797236918806:=()
def PySem.W.Fast.tw10358629032063166462:=()
def PySem.W.Fast.tw11819963638778554373:=()
def PySem.W.Fast.tw12839863808679694561:=()
def PySem.W.Fast.tw3880925836063613571:=()
def PySem.W.Fast.tw5785992789364717532:=()
def PySem.W.Fast.tw11127701139138719058:=()
def PySem.W.Fast.tw7633902289809904288:=()
def PySem.W.Fast.tw17198054736449635572:=()
def PySem.W.Fast.tw373178497439013576:=()
def PySem.W.Fast.tw11866472946272944979:=()
def PySem.W.Fast.tw1146064688310466339:=()
def PySem.W.Fast.tw5105077137905090620:=()
def PySem.W.Fast.tw14922927247629793092:=()
def PySem.W.Fast.tw3304746471732790017:=()
def PySem.W.Fast.tw3667244445166492995:=()
def PySem.W.Fast.tw18377756885004192841:=()
def PySem.W.Fast.tw10756570109064994600:=()
def PySem.W.Fast.tw14180360073917991908:=()
def PySem.W.Fast.tw18131384166362701422:=()
def PySem.W.Fast.tw1532083998460081817:=()
def PySem.W.Fast.tw15375493760368452450:=()
def PySem.W.Fast.tw12782017204418329416:=()
def PySem.W.Fast.tw8752803235769731983:=()
def PySem.W.Fast.tw7024589492454850066:=()
def PySem.W.Fast.tw4613478650048728318:=()
def PySem.W.Fast.tw1399262122549152094:=()
def PySem.W.Fast.tw2214745606092915947:=()
def PySem.W.Fast.tw9273090031678810857:=()
def PySem.W.Fast.tw9191427195613728159:=()
def PySem.W.Fast.tw11645848154986208788:=()
def PySem.W.Fast.tw14011004946206886335:=()
def PySem.W.Fast.tw3707608999250948075:=()
def PySem.W.Fast.tw2727165921344515408:=()
def PySem.W.Fast.tw6947124769246344016:=()
def PySem.W.Fast.tw3921204606180923876:=()
def PySem.W.Fast.tw2022785601157274387:=()
def PySem.W.Fast.tw2501174198921657119:=()
def PySem.W.Fast.tw6422512948158703079:=()
def PySem.W.Fast.tw8284921544407466404:=()
def PySem.W.Fast.tw3680547443362837085:=()
def PySem.W.Fast.tw8502487265979234901:=()
def PySem.W.Fast.tw12241641271931411083:=()
def PySem.W.Fast.tw11443133344258373183:=()
def PySem.W.Fast.tw12964092746624718143:=()
def PySem.W.Fast.tw4146051992076653042:=()
def PySem.W.Fast.tw13152067191365618050:=()
def PySem.W.Fast.tw4400229111500436730:=()
def PySem.W.Fast.tw5611946589945281547:=()
def PySem.W.Fast.tw4957019776873029570:=()
def PySem.W.Fast.tw7600846227417651859:=()
def PySem.W.Fast.tw6089292095167609754:=()
def PySem.W.Fast.tw10566801241812261642:=()
def PySem.W.Fast.tw2414771010819998245:=()
def PySem.W.Fast.tw5885030996165975496:=()
def PySem.W.Fast.tw970710273023113623:=()
def PySem.W.Fast.tw14170600998308880018:=()
def PySem.W.Fast.tw4760055376624101626:=()
def PySem.W.Fast.tw5542833014623021599:=()
def PySem.W.Fast.tw14289003975700096283:=()
def PySem.W.Fast.tw2133482415881441532:=()
def PySem.W.Fast.tw13473897895479710465:=()
def PySem.W.Fast.tw7017030197536253987:=()
def PySem.W.Fast.tw6997400610061051462:=()
def PySem.W.Fast.tw7393113688739551457:=()
def PySem.W.Fast.tw2209948402742639764:=()
def PySem.W.Fast.tw9463504073260958434:=()
def PySem.W.Fast.tw11070534591385839666:=()
def PySem.W.Fast.tw15668016496118390293:=()
def PySem.W.Fast.tw4767637117203573131:=()
def PySem.W.Fast.tw9731955943192372938:=()
def PySem.W.Fast.tw2776360316312828173:=()
def PySem.W.Fast.tw17866748438178814966:=()
def PySem.W.Fast.tw13991076803076281595:=()
def PySem.W.Fast.tw6413090530832086991:=()
def PySem.W.Fast.tw9678423425367741103:=()
def PySem.W.Fast.tw13317420588774233611:=()
def PySem.W.Fast.tw8988103039536538120:=()
def PySem.W.Fast.tw8956173921688387868:=()
def PySem.W.Fast.tw11803416856510348465:=()
def PySem.W.Fast.tw1183326916052439697:=()
def PySem.W.Fast.tw814549338378683317:=()
def PySem.W.Fast.tw5866527083150309151:=()
def PySem.W.Fast.tw13321515342929839342:=()
def PySem.W.Fast.tw6386067109190348587:=()
def PySem.W.Fast.tw8393558763393553735:=()
def PySem.W.Fast.tw7943702162752410239:=()
def PySem.W.Fast.tw8015846510113661808:=()
def PySem.W.Fast.tw17384940675053935478:=()
def PySem.W.Fast.tw235821577731766613:=()
def PySem.W.Fast.tw4832800851258622024:=()
def PySem.W.Fast.tw16878462992475682149:=()
def PySem.W.Fast.tw5977488056102321899:=()
def PySem.W.Fast.tw16982713108310587923:=()
def PySem.W.Fast.tw6386960001664929433:=()
def PySem.W.Fast.tw2496627743428886700:=()
def PySem.W.Fast.tw11644752804851691583:=()
def PySem.W.Fast.tw15381905966547628235:=()
def PySem.W.Fast.tw14541463786692284445:=()
def PySem.W.Fast.tw107011755251235408:=()
def PySem.W.Fast.tw7017580973445427479:=()
def PySem.W.Fast.tw1870122576302776706:=()
def PySem.W.Fast.tw8410185583457754587:=()
def PySem.W.Fast.tw16180871617407267688:=()
def PySem.W.Fast.tw17125017785027090690:=()
def PySem.W.Fast.tw6784784389692821565:=()
def PySem.W.Fast.tw13190883028272045621:=()
def PySem.W.Fast.tw66730356318441990:=()
def PySem.W.Fast.tw16010469901311551072:=()
def PySem.W.Fast.tw548331642526873158:=()
def PySem.W.Fast.tw9452110766276412169:=()
def PySem.W.Fast.tw6559234520940469367:=()
def PySem.W.Fast.tw7905199845248621128:=()
def PySem.W.Fast.tw9757453916725256602:=()
def PySem.W.Fast.tw11332478927053071552:=()
def PySem.W.Fast.tw14046000053996499869:=()
def PySem.W.Fast.tw1830167385919719303:=()
def PySem.W.Fast.tw11692693499891722980:=()
def PySem.W.Fast.tw16351510515378765212:=()
def PySem.W.Fast.tw12334794157687900320:=()
def PySem.W.Fast.tw14448059451863443511:=()
def PySem.W.Fast.tw8412285586203129862:=()
def PySem.W.Fast.tw11784613884449920864:=()
def PySem.W.Fast.tw2381967704303808930:=()
def PySem.W.Fast.tw1646913659708902047:=()
def PySem.W.Fast.tw5784149207293184276:=()
def PySem.W.Fast.tw11183297481057844688:=()
def PySem.W.Fast.tw9567159319336572535:=()
def PySem.W.Fast.tw1417221243796685551:=()
def PySem.W.Fast.tw10390464505361307738:=()
def PySem.W.Fast.tw11643098538391296912:=()
def PySem.W.Fast.tw15900132439673075510:=()
def PySem.W.Fast.tw16569163617665260572:=()
def PySem.W.Fast.tw15159790043852169939:=()
def PySem.W.Fast.tw3187741112913659246:=()
def PySem.W.Fast.tw10679513673723473074:=()
def PySem.W.Fast.tw2010248968477165874:=()
def PySem.W.Fast.tw7827073565434139371:=()
def PySem.W.Fast.tw6153168789787772505:=()
def PySem.W.Fast.tw14112640360939958114:=()
def PySem.W.Fast.tw9025601250677602180:=()
def PySem.W.Fast.tw8865514167797798957:=()
def PySem.W.Fast.tw759385829474888895:=()
def PySem.W.Fast.tw7418713296288221570:=()
def PySem.W.Fast.tw9177238141145659203:=()
def PySem.W.Fast.tw16906796321957946208:=()
def PySem.W.Fast.tw16242661909087196486:=()
def PySem.W.Fast.tw2758371650969457762:=()
def PySem.W.Fast.tw9117440715914942146:=()
def PySem.W.Fast.tw17427389174907755942:=()
def PySem.W.Fast.tw17778066342884032593:=()
def PySem.W.Fast.tw14825395948524624935:=()
def PySem.W.Fast.tw16994910630417760984:=()
def PySem.W.Fast.tw16869014945587418244:=()
def PySem.W.Fast.tw7412871621839965019:=()
set_option maxRecDepth 100000 in
set_option maxHeartbeats 0 in
theorem PySem.Challenge.cw_heddle_k57_patterns_of_one_word_holds : PySem.Challenge.rw_heddle_k57_patterns_of_one_word.Holds := by
 w_on;o_law;k_head;(case hw=>w_witness2)
 k_fill
 refine L2.Aj6 (l:=PySem.Challenge.rw_heddle_k57_patterns_of_one_word) (n:=63) (k:=36) (x := "script") (CX:=L2.CX0) (sp:=Mine.AeO) rfl (by decide) rfl ⟨rfl,by decide,by decide⟩ (fun w h Y=>PySem.W.kIn_of Y) ?F ?S ?C
 case F =>
  intro w mg fa h KX G hmg
  refine' Mine.Aof KX G hmg ?AbA ?AbB ?AeQ ?AbC ?AbD ?Z5 ?AbE ?Z6 ?AbF ?AeR ?X4 ?AeS ?Z7 ?Aic ?Z8 ?Ew ?TX ?JT ?JV ?Hi ?W8 ?Hj ?Gn ?FQ ?Jx ?FW ?Vu ?Gu ?Ia ?EY ?Ip ?Jp ?Yu ?Ib ?Jy ?Ir ?Kl ?Aav ?Yv ?Aaw ?Vv ?Qt ?Vw ?W9 ?Sx ?Ra ?WD ?AeT ?Rb ?Sy ?TY ?Rc ?Aax ?Vx ?Qu ?Yw ?Aay ?WK ?S5 ?Vy ?WL ?Ua ?WM ?Yx ?Ub ?Vz ?V0 ?Uc ?Ud ?Ue ?Rg ?AcM ?Yy ?WN ?WQ ?V1 ?V2 ?Yz ?Aaz ?Y0 ?Ug ?WR ?Aid ?Aie ?Aif ?Aig ?V3 ?Alr ?Als ?WT ?Alu ?V4 ?Alv ?Ahr ?AeU ?Y4 ?Alw ?AeV ?Alx ?Aa0 ?S6 ?S7 ?Aa1 ?WW ?WY ?Jq ?CJ ?CK ?CP ?Cq ?CQ ?Mi ?Nz ?Mj ?Ml ?Ko ?Mm ?Kp ?Mp ?N5 ?J0 ?N6 ?Kq ?Pu ?Kr ?S8 ?Uh ?Qv ?Rh ?Mv ?Mw ?Mx ?K5 ?My ?O7 ?O8 ?O9 ?Mz ?OD ?M3 ?M4 ?M5 ?K6 ?M6 ?M7 ?M8 ?M9 ?K7 ?MF ?K8 ?K9 ?KC ?J2 ?KD ?MJ ?MK ?MN ?KH ?MP ?KJ ?KN ?KQ ?J3 ?KR ?MT ?Nf ?Ng ?KY ?Nh ?OJ ?Pa ?Pb ?Ni ?Pg ?J4 ?J5 ?J6 ?Ji ?J7 ?Ph ?Pj ?Pk ?Nj ?Pn ?KZ ?La ?Lb ?J8 ?Ld ?QH ?QJ ?QK ?Pq ?QL ?Aa2 ?Aa3 ?Aa4 ?Aa5 ?Aa6 ?Aa7 ?Aa8 ?Aa9 ?AaA ?AaB ?Y5 ?Y6 ?O6 ?LR ?Jd ?G6 ?JQ ?HB ?Je ?G7 ?Jf ?G8 ?HD ?Ge ?Jg ?G9 ?HF ?Gf ?Jh ?GC ?JR ?HH ?GD ?Fp ?JS ?HJ ?HN ?Gg ?Ma ?Jj ?DP ?Ci ?v2 ?v3 ?AcN ?AcO ?Ws ?AeW ?AeX ?Zi ?AcP ?AcQ ?Wu ?AcR ?AcS ?Wv ?AaC ?AaD ?Us ?AcT ?AcU ?Ww ?AaE ?AaF ?Ut ?AcV ?AcW ?Wy ?AeY ?AeZ ?Zj ?Y7 ?Y8 ?Sh ?Afa ?Afb ?Zk ?AaG ?AaH ?Uu ?Ahs ?Aht ?Ac0
  (case AbA | AbB | AeQ | AbC | AbD | Z5 | AbE | Z6 | AbF | AeR | X4 | AeS | Z7 | Aic | Z8=>constructor <;> k_is)
  (case Ew | Hi | FW | Jp=>constructor  <;> k_is)
  (case TX | W8 | Vu | Yu=>k_exc)
  (case JT | JV | Hj | Gn | FQ | Jx | Gu | Ia | EY | Ip | Ib | Jy | Ir | Kl | Aid | Aie | Aif | Aig | V3 | Alr | Als | WT | Alu | V4 | Alv | Ahr | AeU | Y4 | Alw | AeV | Alx | Aa0 | S6 | S7 | Aa1 | WW | WY | Mv | Mw | Mx | K5 | My | O7 | O8 | O9 | Mz | OD | M3 | M4 | M5 | K6 | M6 | M7 | M8 | M9 | K7 | MF | K8 | K9 | KC | J2 | KD | MJ | MK | MN | KH | MP | KJ | KN | KQ | J3 | KR | MT | Nf | Ng | KY | Nh | OJ | Pa | Pb | Ni | Pg | J4 | J5 | J6 | Ji | J7 | Ph | Pj | Pk | Nj | Pn | KZ | La | Lb | J8 | Ld | QH | QJ | QK | Pq | QL | Aa2 | Aa3 | Aa5 | Aa6 | Aa7 | Y5 | O6 | LR | Jd | G6 | JQ | HB | Je | G7 | Jf | G8 | HD | Ge | Jg | G9 | HF | Gf | Jh | GC | JR | HH | GD | Fp | JS | HJ | HN | Gg | Ma | Jj | DP | Ci | v2 | v3 | AcN | AcO | AeW | AeX | AcP | AcQ | AcR | AcS | AaC | AaD | AcT | AcU | AaE | AaF | AcV | AcW | AeY | AeZ | Y7 | Y8 | Afa | Afb | AaG | AaH | Ahs | Aht=>k_is)
  (case Aav | Yv | Aaw | Vv | Qt | Vw | W9 | Sx | Ra | WD | AeT | Rb | Sy | TY | Rc | Aax | Vx | Qu | Yw | Aay | WK | S5 | Vy | WL | Ua | WM | Yx | Ub | Vz | V0 | Uc | Ud | Ue | Rg | AcM | Yy | WN | WQ | V1 | V2 | Yz | Aaz | Y0 | Ug | WR=>constructor <;> first | (apply L2.Aed <;> k_is) | k_is)
  (case Jq | CJ | CK | CP | Cq | CQ | Mi | Nz | Mj | Ml | Ko | Mm | Kp | Mp | N5 | J0 | N6 | Kq | Pu | Kr | S8 | Uh | Qv | Rh=>constructor  <;> first | (apply L2.Aed <;> k_is) | k_is)
  (case Aa4 | Aa8 | Aa9=>exact rfl)
  (case AaA=>exact(by decide))
  (case AaB=>exact(.cons ⟨_,rfl⟩ (.cons ⟨_,rfl⟩ (.cons ⟨_,rfl⟩ (.cons ⟨_,rfl⟩ (.cons ⟨_,rfl⟩ (.cons ⟨_,rfl⟩ (.cons ⟨_,rfl⟩ (.cons ⟨_,rfl⟩ (.cons ⟨_,rfl⟩ (.cons ⟨_,rfl⟩ (.cons ⟨_,rfl⟩ (.cons ⟨_,rfl⟩ .nil)))))))))))))
  (case Y6 | Ws | Zi | Wu | Wv | Us | Ww | Ut | Wy | Zj | Sh | Zk | Uu | Ac0=>kernel_rfl)
 case S=>exact fun K H a ns hl hO hS=>Mine.AeP hl hS
 case C=>exact fun _ _ _ _ z=>z
