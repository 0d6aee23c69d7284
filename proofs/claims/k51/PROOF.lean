import PyProof.Rows.All
import Wide.FinOn
import KE.KNestM
import OpenK.KOwn
import KE.KItem
import KE.IntText
import KE.KTabLook
import KE.KFromBytes
import KE.KIntText
import KE.KTab
import KE.KIsAll
import KE.KLam
import KE.KRevIter
import KE.KDictOf
import KE.KxBytes
import OpenK.KRaise
import Lean
import PyProof.EqAt
import PyProof.EqKinds
import PyProof.TupleCall
import PyProof.StrBlockL
import PyProof.EnumMake
import PyProof.CollectIter
import PyProof.JoinWalk
import PyProof.StrOps
import PyProof.StrLawsIdx
import PyProof.StrLawsIn
import PyProof.ListRange
import PyProof.Rows.Range3
import PyProof.Rows.SumAny
import KE.LcSums
import OpenK.KCls
import PyProof.LongRange
import PyProof.StrOps2
import PyProof.FitsBits
import PyProof.NeKinds
import PyProof.Rows.SortRev
import PyProof.Rows.SortWalk
import PyProof.Rows.CallKwBuiltin
import PyProof.Rows.MinMaxN
import PyProof.Rows.ZipGen
import PyProof.Draws
import PyProof.DictUpdate
import PyProof.Rows.SeqMore
import KE.KItemsList
import PyProof.PureStr
import PyProof.Rows.SetFrom
import PyProof.CollectWalk
import PyProof.DictWalks
import PyProof.ConsumeWalk
import KE.KUnpack
import PySem.Challenge.RW_heddle_k51_whole_made_drafts
set_option Elab.async false
set_option linter.all false
set_option maxRecDepth 100000
namespace Zz
def AkD:=@List.getElem?_eq_getElem
def AkE:=@List.length_map
def AkF:=@Nat.le_refl
def AkG:=@List.length_append
def AkH:=@List.getD_eq_getElem?_getD
def AkI:=@List.mem_of_getElem?
def AkJ:=@Int.toNat_natCast
def AkK:=@Nat.ne_of_lt
def AkL:=@List.map_append
def AkM:=@List.getElem?_map
def AkN:=@List.getElem_mem
def AkO:=@List.size_toArray
def AkP:=@Nat.zero_le
def AkQ:=@List.map_cons
def AkR:=@List.getElem?_append_left
def AkS:=@List.mem_cons_self
def AkT:=@Nat.lt_of_lt_of_le
def AkU:=@List.length_take
def AkV:=@List.length_range
def AkW:=@Bool.false_ne_true
def AkX:=@List.mem_cons_of_mem
def AkY:=@List.getElem?_append_right
def AkZ:=@Nat.le_trans
def Ala:=@List.length_cons
def Alb:=@List.lookup_cons
def Alc:=@List.getElem?_eq_none
def Ald:=@List.mem_append_right
def Ale:=@List.take_add_one
def Alf:=@Nat.lt_irrefl
def Alh:=@List.getElem_of_mem
def Ali:=@List.length_singleton
def Alj:=@Nat.ne_of_gt
def Alk:=@Int.zero_add
def Alm:=@Nat.lt_succ_of_lt
def Aln:=@List.mem_cons
def Alo:=@List.not_mem_nil
def Alp:=@Nat.sub_self
def Alq:=@List.take_length
def Alr:=@Int.emod_nonneg
def Als:=@Int.emod_lt_of_pos
def Alu:=@Nat.lt_succ_self
def Alv:=@List.append_assoc
def Alw:=@Nat.le_succ
def Alx:=@List.range_succ
def Aly:=@List.take_of_length_le
def Alz:=@List.length_reverse
def Al0:=@List.reverse_cons
def Al1:=@List.map_nil
def Al2:=@Bool.and_eq_true
def Al3:=@List.getElem?_range
def Al4:=@Nat.le_of_eq
def Al5:=@List.append_nil
def Al6:=@List.length_drop
def Al7:=@Nat.le_of_lt
def Al8:=@List.mem_append_left
def Al9:=@List.length_set
def AlA:=@List.any_cons
def AlB:=@List.ext_getElem?
def AlC:=@List.find?_cons
def AlD:=@List.getElem?_of_mem
def AlE:=@List.filter_cons_of_neg
def AlF:=@List.filter_cons_of_pos
def AlG:=@List.length_filter_le
def AlH:=@List.getElem?_set_self
def AlI:=@List.getElem?_set_ne
def AlJ:=@Bool.eq_iff_iff
def AlK:=@Nat.min_eq_left
def AlL:=@List.pairwise_lt_range
def AlM:=@List.mem_append
def AlN:=@List.filter_append
def AlO:=@List.nodup_iff_pairwise_ne
def AlP:=@List.filterMap_cons
def AlQ:=@List.getElem?_take_of_lt
def AlR:=@List.all_cons
def AlS:=@List.forIn_cons
def AlT:=@Bool.false_eq_true
def AlU:=@List.getElem?_drop
def AlV:=@List.drop_zero
def AlW:=@Nat.lt_trans
def AlX:=@List.take_append_drop
def AlY:=@List.getElem_toArray
def AlZ:=@List.mem_map
def Ama:=@List.mem_filter
def Amb:=@Nat.not_lt_zero
def Amc:=@List.getElem_inj
def Amd:=@List.getElem?_cons_succ
def Ame:=@List.map_congr_left
def Amf:=@Option.isSome_map
def Amg:=@List.length_eraseIdx
def Amh:=@List.pairwise_iff_getElem
def Ami:=@List.all_eq_true
def Amj:=@List.length_pos_of_mem
def Amk:=@List.length_erase_of_mem
def Aml:=@List.mem_of_mem_eraseIdx
def Amm:=@List.pairwise_map
def Amn:=@List.eraseIdx_eq_take_drop_succ
def Amo:=@List.mem_eraseIdx_iff_getElem?
end Zz
open Zz
namespace L2
open PySem PySem.Spec PyProof.Rows
abbrev Key:=Sum Int Str
def U4:Key→Value→Bool
 | .inl k,v=>Value.isInt k v
 | .inr x,v=>Value.isStrOf x v
def AiA (w:World):Key→Int
 | .inl k=>hashInt k
 | .inr x=>hashStr w x
theorem DG:∀{k:Key} {v:Value},U4 k v=true→(∃ i t,k=Sum.inl i∧v=Value.int i t)∨(∃ x t,k=Sum.inr x∧v=Value.str x t)
 | .inl i,v,h=>by
  obtain⟨t,e⟩:=Value.isInt_shape (k:=i) (v:=v) h
  exact .inl ⟨i,t,rfl,e⟩
 | .inr x,v,h=>by
  obtain⟨t,e⟩:=Value.isStrOf_shape (x:=x) (v:=v) h
  exact .inr ⟨x,t,rfl,e⟩
theorem AaJ(i:Int)(t:Tok):U4 (.inl i) (.int i t)=true:=by simp[U4,Value.isInt]
theorem AaK(x:Str)(t:Tok):U4 (.inr x) (.str x t)=true:=by simp[U4,Value.isStrOf]
theorem Afc(a b:Int):decide ((Sum.inl a:Key)=Sum.inl b)=(a == b):=by
 by_cases e:a=b
 ·subst e;simp
 ·have h:¬(Sum.inl a:Key)=Sum.inl b:=fun q=>e (Sum.inl.inj q)
  rw[decide_eq_false h]
  exact(beq_eq_false_iff_ne.mpr e).symm
theorem Afd(a b:Str):decide ((Sum.inr a:Key)=Sum.inr b)=decide (a=b):=by
 by_cases e:a=b
 ·subst e;simp
 ·have h:¬(Sum.inr a:Key)=Sum.inr b:=fun q=>e (Sum.inr.inj q)
  rw[decide_eq_false h,decide_eq_false e]
theorem Afe(a:Int)(b:Str):decide ((Sum.inl a:Key)=Sum.inr b)=false:=decide_eq_false (fun q=>nomatch q)
theorem Afg(a:Str)(b:Int):decide ((Sum.inr a:Key)=Sum.inl b)=false:=decide_eq_false (fun q=>nomatch q)
def Dv (prog:Program)(w:World):PySem.KeyKind prog w Key where
 is:=U4
 hash:=AiA w
 inj:=fun v a b ha hb=>by
  rcases DG ha with ⟨i,t,rfl,rfl⟩ | ⟨x,t,rfl,rfl⟩
  ·rcases DG hb with ⟨j,u,rfl,e⟩ | ⟨y,u,rfl,e⟩
   ·injection e with e1 _;rw[e1]
   ·exact nomatch e
  ·rcases DG hb with ⟨j,u,rfl,e⟩ | ⟨y,u,rfl,e⟩
   ·exact nomatch e
   ·injection e with e1 _;rw[e1]
 byValue:=fun k v h=>by
  rcases DG h with ⟨i,t,rfl,rfl⟩ | ⟨x,t,rfl,rfl⟩ <;> rfl
 pyHash:=fun hv h=>by
  rcases DG hv with ⟨i,t,rfl,rfl⟩ | ⟨x,t,rfl,rfl⟩
  ·exact wpAny_pyHash_int h
  ·exact wpAny_pyHash_str h
 eqBool:=fun hu hv h=>by
  rcases DG hu with ⟨i,t,rfl,rfl⟩ | ⟨x,t,rfl,rfl⟩
  ·rcases DG hv with ⟨j,u,rfl,rfl⟩ | ⟨y,u,rfl,rfl⟩
   ·rw[Afc] at h;exact wpAny_eqBool_int h
   ·rw[Afe] at h;exact SeqAt.EqAt.int_str i t y u _ _ _ _ h
  ·rcases DG hv with ⟨j,u,rfl,rfl⟩ | ⟨y,u,rfl,rfl⟩
   ·rw[Afg] at h;exact SeqAt.EqAt.str_int x t j u _ _ _ _ h
   ·rw[Afd] at h;exact wpAny_eqBool_str h
 «strs»:=fun k x t v h=>by
  rcases DG h with ⟨i,u,rfl,e⟩ | ⟨y,u,rfl,e⟩
  ·exact nomatch e
  ·injection e with e1 _
   subst e1
   cases v <;> rfl
theorem Xh(prog:Program)(w:World)(i:Int)(t:Tok):(Dv prog w).is (.inl i) (.int i t)=true:=AaJ i t
theorem Xi(prog:Program)(w:World)(x:Str)(t:Tok):(Dv prog w).is (.inr x) (.str x t)=true:=AaK x t
open PySem PySem.Spec PyProof.Rows
inductive V where
 | non | bl (b:Bool) | int (i:Int) | str (x:Str) | byt (b:Array UInt8) | flt (b:UInt64) | ref (a:Addr) | ty (n:String)
 deriving DecidableEq
def RelV:V→Value→Prop
 | .non,u=>u=Value.none
 | .bl b,u=>u=Value.bool b
 | .int i,u=>∃ t,u=Value.int i t
 | .str x,u=>∃ t,u=Value.str x t
 | .byt b,u=>∃ t,u=Value.bytes b t
 | .flt b,u=>∃ t,u=Value.float b t
 | .ref a,u=>u=Value.ref a
 | .ty n,u=>u=Value.type n
abbrev Vals:List V→List Value→Prop:=Paired RelV
theorem Vals.length{xs:List V}{us:List Value}(r:Vals xs us):xs.length=us.length:=Paired.length r
theorem Vals.get:∀{xs:List V} {us:List Value} {i:Nat} {x:V},Vals xs us→xs[i]?=some x→∃ u,us[i]?=some u∧RelV x u
 | _,_,_,_,.nil,e=>by simp at e
 | _,_,0,_,.cons r _,e=>by simp at e;subst e;exact⟨_,rfl,r⟩
 | _,_,i+1,x,.cons _ t,e=>by
  obtain⟨u,h1,h2⟩:=Vals.get (i:=i) (x:=x) t (by simpa using e)
  exact⟨u,by simpa using h1,h2⟩
theorem Vals.set{x:V}{u:Value}(r:RelV x u):∀{xs:List V} {us:List Value} (i:Nat),Vals xs us→Vals (xs.set i x) (us.set i u)
 | _,_,_,.nil=>.nil
 | _,_,0,.cons _ t=>.cons r t
 | _,_,i+1,.cons q t=>.cons q (Vals.set r i t)
theorem Vals.append:∀{xs ys:List V} {us ws:List Value},Vals xs us→Vals ys ws→Vals (xs++ys) (us++ws)
 | _,_,_,_,.nil,s=>s
 | _,_,_,_,.cons r t,s=>.cons r (Vals.append t s)
theorem Vals.take:∀{xs:List V} {us:List Value} (n:Nat),Vals xs us→Vals (xs.take n) (us.take n)
 | _,_,0,_=>.nil
 | _,_,_+1,.nil=>.nil
 | _,_,n+1,.cons r t=>.cons r (Vals.take n t)
theorem Vals.drop:∀{xs:List V} {us:List Value} (n:Nat),Vals xs us→Vals (xs.drop n) (us.drop n)
 | _,_,0,r=>r
 | _,_,_+1,.nil=>.nil
 | _,_,n+1,.cons _ t=>Vals.drop n t
def Nr:Option V→Option Value→Prop
 | some v,some u=>RelV v u
 | none,none=>True
 | _,_=>False
def KV {κ:Type}:List (κ × V)→List (κ × Value)→Prop:=Paired fun(p:κ × V) (q:κ × Value)=>p.1=q.1∧RelV p.2 q.2
def kV:Key→V
 | .inl i=>.int i
 | .inr x=>.str x
inductive HO where
 | lst (xs:List V)
 | tup (xs:List V)
 | dK (kvs:List (Key × V)) | dT (kvs:List (List Key × V))
 | set (S:Int→Bool) (n:Nat)
 | ins (C dx:Addr) (fs:List (Str × V))
 | own (x:Addr)
 | xd (fs:List (Str × V))
 | met (f x:Addr)
 | rng (lo hi:Int)
 | frz (o:Obj) (u:HO)
 | tbl (ps:Array Value)
 | ext (φ:Heap→Prop)
abbrev Hp:=Addr→Option HO
def upd (H:Hp)(a:Addr)(o:HO):Hp:=fun b=>if b=a then some o else H b
theorem Ae{H:Hp}{a:Addr}{o:HO}:upd H a o a=some o:=by unfold upd;rw[if_pos rfl]
theorem Ax{H:Hp}{a b:Addr}{o:HO}(h:b≠a):upd H a o b=H b:=by unfold upd;rw[if_neg h]
theorem AgO{H:Hp}{a b:Addr}{o u:HO}(h:H a=some o)(h':H b=some u)(d:o≠u):a≠b:=by
 intro e;subst e;rw[h] at h';exact d (Option.some.inj h')
theorem BK{H:Hp}{a b:Addr}{o:HO}(h:H a=some o)(h':H b=none):a≠b:=by
 intro e;subst e;rw[h] at h';cases h'
section
variable (P:Program) (w:World)
def Ea (H:Hp)(h:Heap)(a:Addr):HO→Prop
 | .lst xs=>xs.length≤sizeLine∧∃(its:List Value) (n:Nat),Vals xs its∧h.get? a=some { cls:=.type "list", data:=.seq its.toArray n }
 | .tup xs=>xs.length≤sizeLine∧∃ its:List Value,Vals xs its∧IsTup h a its.toArray
 | .dK kvs=>kvs.length≤sizeLine∧(a == sysModules)=false∧∃ vs,KV kvs vs∧h.DictOf (Dv P w) a vs
 | .dT kvs=>kvs.length≤sizeLine∧(a == sysModules)=false∧∃ xs:List (List Key × Addr × Value),
   Paired (fun(p:List Key × V) (q:List Key × Addr × Value)=>p.1=q.1∧H q.2.1=some (.tup (p.1.map kV))∧RelV p.2 q.2.2) kvs xs ∧
   ∃ o es ep,h.get? a=some o∧o.ExactDict∧o.data=.dict es ep∧es.toList=xs.map (entryOfKey (tupleKind (Dv P w)))∧(xs.map (·.1)).Nodup
 | .set S n=>h.SetOf (intKind P w) a S n
 | .ins C dx fs=>H dx=some (.own a)∧fs.length≤1000∧dx≠a∧h.get? a=some (PySem.W.instObj C dx) ∧
   ∃ mA,h.Ns1 dx mA∧(∀ f,Nr (fs.lookup f) (mA f))∧PySem.Within mA (fs.map (·.1))
 | .own _=>∃ o,h.get? a=some o
 | .xd fs=>∃ mA,h.Ns1 a mA∧∀ f,Nr (fs.lookup f) (mA f)
 | .rng lo hi=>∃ t u v,h.get? a=some { cls:=.type "range", data:=.fields #[.int lo t,.int hi u,.int 1 v] }
 | .frz o u=>h.get? a=some o∧Ea H h a u
 | .tbl ps=>h.get? a=some { cls:=.none,data:=.fields ps }
 | .met f x=>h.get? a=some (PySem.W.methodObj (.ref f) (.ref x))
 | .ext φ=>φ h∧(∃ o,h.get? a=some o)∧∀ h1 h2:Heap,φ h1→(∀ o,h1.get? a=some o→h2.get? a=some o)→φ h2
def HOk (H:Hp)(h:Heap):Prop:=∀ a o,H a=some o→Ea P w H h a o
end
section
variable {P:Program}{w:World}{H H':Hp}{h h':Heap}{a:Addr}{o:HO}
theorem Ea.lt(x:Ea P w H h a o):a<h.objs.size:=by
 cases o with
 | lst xs=>obtain⟨_,_,_,_,e⟩:=x;exact Heap.lt_size e
 | tup xs=>obtain⟨_,_,_,p⟩:=x;exact p.lt
 | dK kvs=>obtain⟨_,_,_,_,o,_,_,e,_⟩:=x;exact Heap.lt_size e
 | dT kvs=>obtain⟨_,_,_,_,o,_,_,e,_⟩:=x;exact Heap.lt_size e
 | set S n=>obtain⟨o,_,_,_,e,_⟩:=x;exact Heap.lt_size e
 | ins C dx fs=>obtain⟨_,_,_,e,_⟩:=x;exact Heap.lt_size e
 | own y=>obtain⟨_,e⟩:=x;exact Heap.lt_size e
 | xd fs=>obtain⟨_,⟨_,_,_,e,_⟩,_⟩:=x;exact Heap.lt_size e
 | rng lo hi=>obtain⟨_,_,_,e⟩:=x;exact Heap.lt_size e
 | frz ob u=>obtain⟨e,_⟩:=x;exact Heap.lt_size e
 | tbl ps=>exact Heap.lt_size (show h.get? a=some _ from x)
 | met f y=>exact Heap.lt_size (show h.get? a=some _ from x)
 | ext φ=>obtain⟨_,⟨_,e⟩,_⟩:=x;exact Heap.lt_size e
theorem Paired.Afh{α β:Type}{F G:α→β→Prop}:∀{l₁:List α} {l₂:List β},Paired F l₁ l₂→(∀ a b,F a b→G a b)→Paired G l₁ l₂
 | _,_,.nil,_=>.nil
 | _,_,.cons r t,f=>.cons (f _ _ r) (Paired.Afh t f)
theorem Ea.stay(x:Ea P w H h a o)(k:∀ b u,(b=a∨H b=some (.own a))→h.get? b=some u→h'.get? b=some u)
  (ho:∀ b,H b=some (.own a)→H' b=some (.own a)) (ht:∀ b xs,H b=some (.tup xs)→H' b=some (.tup xs)):Ea P w H' h' a o:=by
 induction o with
 | lst xs=>obtain⟨z,its,n,r,e⟩:=x;exact⟨z,its,n,r,k _ _ (.inl rfl) e⟩
 | tup xs=>obtain⟨z,its,r,ob,e,c⟩:=x;exact⟨z,its,r,ob,k _ _ (.inl rfl) e,c⟩
 | dK kvs=>obtain⟨z,y,vs,r,ob,es,ep,e,c⟩:=x;exact⟨z,y,vs,r,ob,es,ep,k _ _ (.inl rfl) e,c⟩
 | dT kvs =>
  obtain⟨z,y,xs,r,ob,es,ep,e,c⟩:=x
  exact⟨z,y,xs,Paired.Afh r fun p q z=>⟨z.1,ht _ _ z.2.1,z.2.2⟩,ob,es,ep,k _ _ (.inl rfl) e,c⟩
 | set S n=>obtain⟨ob,es,ep,t,e,c⟩:=x;exact⟨ob,es,ep,t,k _ _ (.inl rfl) e,c⟩
 | ins C dx fs =>
  obtain⟨d,z,ne,e,mA,⟨od,es,ep,e2,c⟩,r⟩:=x
  exact⟨ho _ d,z,ne,k _ _ (.inl rfl) e,mA,⟨od,es,ep,k _ _ (.inr d) e2,c⟩,r⟩
 | own y=>obtain⟨ob,e⟩:=x;exact⟨ob,k _ _ (.inl rfl) e⟩
 | xd fs=>obtain⟨mA,⟨od,es,ep,e,c⟩,r⟩:=x;exact⟨mA,⟨od,es,ep,k _ _ (.inl rfl) e,c⟩,r⟩
 | rng lo hi=>obtain⟨t,u,v,e⟩:=x;exact⟨t,u,v,k _ _ (.inl rfl) e⟩
 | frz ob u ih=>obtain⟨e,q⟩:=x;exact⟨k _ _ (.inl rfl) e,ih q⟩
 | tbl ps =>
  have e:h.get? a=some { cls:=.none,data:=.fields ps }:=x
  show h'.get? a=some { cls:=.none,data:=.fields ps }
  exact k a _ (.inl rfl) e
 | met f y =>
  have e:h.get? a=some (PySem.W.methodObj (.ref f) (.ref y)):=x
  show h'.get? a=some (PySem.W.methodObj (.ref f) (.ref y))
  exact k a _ (.inl rfl) e
 | ext φ=>obtain⟨p,⟨o,e⟩,st⟩:=x;exact⟨st _ _ p fun o q=>k _ _ (.inl rfl) q,⟨o,k _ _ (.inl rfl) e⟩,st⟩
theorem HOk.lt(x:HOk P w H h)(e:H a=some o):a<h.objs.size:=(x a o e).lt
theorem HOk.fresh(x:HOk P w H h)(e:h.objs.size≤a):H a=none:=by
 cases q:H a with
 | none=>rfl
 | some u=>exact absurd (AkT (x.lt q) e) (Alf _)
theorem HOk.kept(x:HOk P w H h)(k:∀ b u,h.get? b=some u→h'.get? b=some u):HOk P w H h':=fun a o e =>
 (x a o e).stay (fun b u _ q=>k b u q) (fun _ q=>q) fun _ _ q=>q
theorem HOk.laid(x:HOk P w H h)(k:∀ b u,h.get? b=some u→h'.get? b=some u)(hp:h.objs.size≤a)(new:Ea P w (upd H a o) h' a o):HOk P w (upd H a o) h':=fun b u e=>by
 have hn:=x.fresh hp
 by_cases hb:b=a
 ·subst hb;rw[Ae] at e;cases e;exact new
 ·rw[Ax hb] at e
  exact(x b u e).stay (fun c v _ q=>k c v q) (fun c q=>by rw[Ax (BK q hn)];exact q) fun c xs q=>by rw[Ax (BK q hn)];exact q
end
def Rd (H:Hp)(a:Addr)(u:HO):Prop:=H a=some u∨∃ o,H a=some (.frz o u)
theorem Rd.ok{P:Program}{w:World}{H:Hp}{h:Heap}{a:Addr}{u:HO}(r:Rd H a u)(x:HOk P w H h):Ea P w H h a u:=by
 rcases r with r | ⟨o,r⟩
 ·exact x a u r
 ·obtain⟨_,q⟩:=x a _ r
  exact q
def Mut:Option HO→Prop
 | some (.lst _)=>True
 | some (.dK _)=>True
 | some (.dT _)=>True
 | some (.set _ _)=>True
 | some (.ins _ _ _)=>True
 | some (.ext _)=>True
 | _=>False
section
variable {P:Program}{w:World}{H:Hp}{h h':Heap}{x e:Addr}{o':HO}
theorem HOk.write(ok:HOk P w H h)(mu:Mut (H x))(he:e=x∨H e=some (.own x))(k:∀ b u,b≠e→h.get? b=some u→h'.get? b=some u)(heo:∃ u,h'.get? e=some u)
  (new:Ea P w (upd H x o') h' x o'):HOk P w (upd H x o') h':=fun b u q=>by
 have AgP:∀ c y,H c=some (.own y)→c≠x:=fun c y r z=>by subst z;rw[r] at mu;exact mu
 have AiB:∀ c xs,H c=some (.tup xs)→c≠x:=fun c xs r z=>by subst z;rw[r] at mu;exact mu
 by_cases hb:b=x
 ·subst hb;rw[Ae] at q;cases q;exact new
 ·rw[Ax hb] at q
  by_cases hbe:b=e
  ·have q':H b=some (.own x):=by
    rcases he with z | z
    ·exact absurd (hbe.trans z) hb
    ·rw[hbe];exact z
   rw[q] at q';cases q'
   obtain⟨v,hv⟩:=heo
   exact⟨v,by rw[hbe];exact hv⟩
  ·refine(ok b u q).stay (fun c v hc r=>k c v ?_ r) (fun c r=>by rw[Ax (AgP c b r)];exact r) fun c xs r=>by rw[Ax (AiB c xs r)];exact r
   rcases hc with rfl | hc
   ·exact hbe
   ·rintro rfl
    rcases he with z | z
    ·exact AgP c b hc z
    ·rw[hc] at z;cases z;exact hb rfl
end
structure Un (fs ex:List Addr) (H H':Hp) (h h':Heap):Prop where
 keep:∀ b o,h.get? b=some o→H b=none→b∉fs→b∉ex→h'.get? b=some o
 slot:∀ b o,h.get? b=some o→H b=none→b∈fs→b∉ex→∃ sl,h'.get? b=some { o with slots:=sl }
 free:∀ b o,h.get? b=some o→H b=none→b∉ex→H' b=none
 there:∀ b o,h.get? b=some o→b∉ex→∃ o',h'.get? b=some o'
 tups:∀ b xs,H b=some (.tup xs)→H' b=some (.tup xs)
 Nt:∀ b o u,H b=some (.frz o u)→H' b=some (.frz o u)
 Qh:∀ b ps,H b=some (.tbl ps)→∃ more,H' b=some (.tbl (ps++more))
section
variable {fs fs' ex ex':List Addr}{H H1 H2:Hp}{h h1 h2 h':Heap}{a x e:Addr}{o:HO}
theorem Un.any(u:Un fs ex H H1 h h1){b:Addr}{ob:Obj}(q:h.get? b=some ob)(n:H b=none)(hx:b∉ex):∃ sl,h1.get? b=some { ob with slots:=sl }:=by
 by_cases hb:b∈fs
 ·exact u.slot b ob q n hb hx
 ·exact⟨ob.slots,u.keep b ob q n hb hx⟩
theorem Un.kept(k:∀ b u,h.get? b=some u→h'.get? b=some u):Un fs ex H H h h' :=
 ⟨fun b ob q _ _ _=>k b ob q,fun b ob q _ _ _=>⟨ob.slots,k b ob q⟩,fun _ _ _ n _=>n,fun b ob q _=>⟨ob,k b ob q⟩,fun _ _ q=>q,fun _ _ _ q=>q,fun _ ps q=>⟨#[],by rw[q];simp⟩⟩
theorem Un.refl:Un fs ex H H h h:=Un.kept fun _ _ q=>q
theorem Un.laid(k:∀ b u,h.get? b=some u→h'.get? b=some u)(hp:h.objs.size≤a)(hn:H a=none):Un fs ex H (upd H a o) h h' where
 keep:=fun b u q _ _ _=>k b u q
 slot:=fun b u q _ _ _=>⟨u.slots,k b u q⟩
 free:=fun b u q n _=>by rw[Ax (AkK (AkT (Heap.lt_size q) hp))];exact n
 there:=fun b u q _=>⟨u,k b u q⟩
 tups:=fun b xs q=>by rw[Ax (BK q hn)];exact q
 Nt:=fun b u xs q=>by rw[Ax (BK q hn)];exact q
 Qh:=fun b ps q=>⟨#[],by rw[Ax (BK q hn),q];simp⟩
theorem Un.write(mu:Mut (H x))(he:e=x∨H e=some (.own x))(k:∀ b u,b≠e→h.get? b=some u→h'.get? b=some u)(heo:∃ u,h'.get? e=some u):Un fs ex H (upd H x o) h h':=by
 have hx:∀ b,H b=none→b≠x:=fun b n z=>by subst z;rw[n] at mu;exact mu
 have hb:∀ b,H b=none→b≠e:=fun b n z=>by
  subst z
  rcases he with r | r
  ·exact hx b n r
  ·rw[n] at r;cases r
 have hm:∀ b u,H b=some u→¬Mut (some u)→b≠x:=fun b u q nm z=>by subst z;rw[q] at mu;exact nm mu
 refine⟨fun b u q n _ _=>k b u (hb b n) q,fun b u q n _ _=>⟨u.slots,k b u (hb b n) q⟩,fun b u q n _=>by rw[Ax (hx b n)];exact n,fun b u q _=>?_,
  fun b xs q=>by rw[Ax (hm b _ q fun z=>z)];exact q,fun b u xs q=>by rw[Ax (hm b _ q fun z=>z)];exact q,fun b ps q=>⟨#[],by rw[Ax (hm b _ q fun z=>z),q];simp⟩⟩
 by_cases hbe:b=e
 ·subst hbe;exact heo
 ·exact⟨u,k b u hbe q⟩
end
def trk (h:Heap)(H:Hp):List Addr:=(List.range h.objs.size).filter fun a=>(H a).isSome
def Vt (h:Heap)(H:Hp):Heap:=PySem.W.hideAll h (trk h H)
theorem AaL(h:Heap)(H:Hp):(Vt h H).objs.size=h.objs.size:=PySem.W.hideAll_size _ _
theorem AbE{h:Heap}{H:Hp}{b:Addr}{o:Obj}(e:h.get? b=some o)(n:H b=none):(Vt h H).get? b=some o :=
 PySem.W.hideAll_get _ e fun hm=>by
  have q:(H b).isSome=true:=(List.mem_filter.mp hm).2
  rw[n] at q;simp at q
theorem Adt{h:Heap}{H:Hp}{b:Addr}{o:Obj}(e:(Vt h H).get? b=some o):h.get? b=some o∧H b=none:=by
 have e':h.get? b=some o:=PySem.W.of_hideAll (trk h H) e
 refine⟨e',?_⟩
 cases q:H b with
 | none=>rfl
 | some x =>
  have hm:b∈trk h H:=List.mem_filter.mpr ⟨List.mem_range.mpr (Heap.lt_size e'),by simp[q]⟩
  have z:(Vt h H).get? b=none:=PySem.W.hideAll_none (trk h H) hm
  rw[z] at e;cases e
def Adu (g h:Heap)(L:Addr):List (Addr × Obj):=(List.range h.objs.size).filterMap fun a=>if a=L∨(g.get? a).isSome=true then none else (h.get? a).map fun o=>(a,o)
def rest(g h:Heap)(L d:Addr):List (Addr × Obj):=(Adu g h L).filter fun p=>decide (p.1≠d)
open PySem PySem.Spec PyProof.Rows
structure Mod (K:PySem.W.Frag) (mg:Str→Option Value) (base:Heap):Prop where
 kin:K.In base
 glob:base.Ns mainGlobals mg
 blt:∃ mb,base.Ns builtinsNs mb∧∀ x:Str,x ≠ "__name__" → mb x=bootBuiltins x
 nolimit:base.NoLimit
structure Cx where
 prog:Program
 w:World
 K:PySem.W.Frag
 mg:Str→Option Value
 base:Heap
 A:Around
 N:List Str
 s₀:Shared
 H₀:Hp
 env:Env
 outer:List Env
 stack:List Env
 ex:List Addr
 fn:Str→Bool
 calm:Bool
 pn:List (Addr × Obj)
 xe:Value→Shared→Prop
def frs (l:List Env):List Addr:=l.filterMap (·.frame)
abbrev Cx.fs (X:Cx):List Addr:=frs X.outer
def Vis (sc:Scope)(x:Str):Prop:=sc.names.lookup x=some .local∨sc.names.lookup x=some .cell∨sc.names.lookup x=some .free
def Loc (sc:Scope)(x:Str):Prop:=sc.names.lookup x=some .local∨sc.names.lookup x=some .cell
def Look(env:Env)(h:Heap)(m:Str→Option Value)(x:Str)(u:Value):Prop :=
 (env.kindOf x=some .local∧m x=some u)∨((env.kindOf x=some .cell∨env.kindOf x=some .free)∧∃ c,env.cells.lookup x=some c∧h.IsCell c (some u))
structure Cx.Ok (X:Cx):Prop where
 mod:Mod X.K X.mg X.base
 kind:X.env.scope.kind=.function
 glob:X.env.globals=mainGlobals
 blt:X.env.builtins=builtinsNs
 above:X.s₀.heap.objs.size≤X.env.locals
 inj:∀ x y c,X.env.cells.lookup x=some c→X.env.cells.lookup y=some c→x=y
 has:∀ x,(X.env.kindOf x=some .cell∨X.env.kindOf x=some .free)→∃ c,X.env.cells.lookup x=some c
 cab:∀ x c,X.fn x=true→X.env.cells.lookup x=some c→X.s₀.heap.objs.size≤c
 hd:X.calm=true→X.A.handled=none
 frames:X.A.frames=some X.stack
 stk:X.stack=X.outer∨(X.stack=X.env::X.outer∧X.env.frame=some X.env.locals)
 exf:∀ b∈X.ex,b≠X.env.locals∧∀ x c,X.env.cells.lookup x=some c→c≠b
 bs:∀ b o,X.base.get? b=some o→X.s₀.heap.get? b=some o∧X.H₀ b=none
 bsz:X.base.objs.size≤X.s₀.heap.objs.size
 Xj:∀ b o,X.base.get? b=some o→b∉X.ex
 Xk:∀ b∈X.ex,b∉X.fs
 Oe:X.s₀.heap.FunFrames X.base X.outer
 frf:∀ b∈X.fs,X.H₀ b=none
structure Inv (X:Cx) (pins:List (Addr × Obj)) (σ:List (Option V)) (H:Hp) (s:Shared):Prop where
 ok:X.Ok
 os:s.os=X.s₀.os
 bare:AllBare s.gens
 base:Un X.fs X.ex X.H₀ H X.s₀.heap s.heap
 loc:∃ m,s.heap.Ns X.env.locals m∧∀(i:Nat) (x:Str) (v:V),X.N[i]?=some x→σ[i]?=some (some v)→Vis X.env.scope x→∃ u,RelV v u∧Look X.env s.heap m x u
 cell:∀ x c,X.env.cells.lookup x=some c→∃ v,s.heap.IsCell c v
 free:H X.env.locals=none
 IK:∀ x c,X.env.cells.lookup x=some c→H c=none
 pin:∀ p∈X.pn++pins,s.heap.get? p.1=some p.2∧H p.1=none∧p.1≠X.env.locals∧p.1∉X.fs∧∀ v,p.2.data≠.cell v
 hok:HOk X.prog X.w H s.heap
 len:σ.length=X.N.length
section
variable {X:Cx}{pins:List (Addr × Obj)}{σ:List (Option V)}{H H':Hp}{s:Shared}{h':Heap}
theorem Cx.Ok.AiC(ok:X.Ok){b:Addr}{o:Obj}(e:X.base.get? b=some o):b∉X.fs:=fun hb=>by
 have:=(ok.Oe.mem hb).1
 rw[e] at this;cases this
theorem Inv.bs(I:Inv X pins σ H s):∀ b o,X.base.get? b=some o→s.heap.get? b=some o∧H b=none:=fun b o e =>
 ⟨I.base.keep b o (I.ok.bs b o e).1 (I.ok.bs b o e).2 (I.ok.AiC e) (I.ok.Xj b o e),I.base.free b o (I.ok.bs b o e).1 (I.ok.bs b o e).2 (I.ok.Xj b o e)⟩
theorem Inv.bk(I:Inv X pins σ H s):∀ b o,X.base.get? b=some o→s.heap.get? b=some o:=fun b o e=>(I.bs b o e).1
theorem Inv.mod(I:Inv X pins σ H s):Mod X.K X.mg X.base:=I.ok.mod
theorem Inv.kIn(I:Inv X pins σ H s):X.K.In s.heap:=I.ok.mod.kin.keeps I.bk
theorem Inv.lt(I:Inv X pins σ H s):X.env.locals<s.heap.objs.size:=let ⟨_,hn,_⟩:=I.loc;hn.lt
theorem Inv.sz(I:Inv X pins σ H s):X.s₀.heap.objs.size≤s.heap.objs.size:=AkZ I.ok.above (Al7 I.lt)
theorem Inv.AiD(I:Inv X pins σ H s){a:Addr}(h:s.heap.objs.size≤a):a∉X.fs:=fun hb=>by
 obtain⟨_,o,ho,_⟩:=I.ok.Oe.mem hb
 exact absurd (AkT (Heap.lt_size ho) (AkZ I.sz h)) (Alf _)
theorem Inv.cne(I:Inv X pins σ H s):∀ x c,X.env.cells.lookup x=some c→c≠X.env.locals:=fun x c e z=>by
 obtain⟨v,o,ho,hd⟩:=I.cell x c e
 obtain⟨m,⟨o',es,ep,ho',hd',_⟩,_⟩:=I.loc
 rw[z,ho'] at ho;cases ho;rw[hd'] at hd;cases hd
theorem Inv.Oe(I:Inv X pins σ H s):s.heap.FunFrames X.base X.outer:=by
 have all:∀(l:List Env),(∀ b∈frs l,b∈X.fs)→X.s₀.heap.FunFrames X.base l→s.heap.FunFrames X.base l:=by
  intro l
  induction l with
  | nil=>intro _ _;trivial
  | cons env r ih =>
   intro hs hl
   obtain⟨hk,⟨L,o,hf,hn,ho,hd⟩,hr⟩:=hl
   have hL:L∈X.fs:=hs L (by unfold frs;rw[AlP,hf];exact AkS)
   obtain⟨sl,e⟩:=I.base.slot L o ho (I.ok.frf L hL) hL fun z=>I.ok.Xk L z hL
   exact⟨hk,⟨L,_,hf,hn,e,hd⟩,ih (fun b hb=>hs b (by unfold frs;rw[AlP,hf];exact AkX _ hb)) hr⟩
 exact all X.outer (fun _ hb=>hb) I.ok.Oe
theorem Inv.stack(I:Inv X pins σ H s):s.heap.FunFrames X.base X.stack:=by
 rcases I.ok.stk with e | ⟨e,hf⟩
 ·rw[e];exact I.Oe
 ·rw[e]
  obtain⟨m,hn,_⟩:=I.loc
  refine .cons (by rw[I.ok.kind];decide) hf hn ?_ I.Oe
  exact Heap.get?_none_of_le (AkZ I.ok.bsz I.ok.above)
theorem Inv.Vu(I:Inv X pins σ H s):∀ b∈frs X.stack,b∈X.env.locals::X.fs:=fun b hb=>by
 rcases I.ok.stk with e | ⟨e,hf⟩
 ·rw[e] at hb;exact AkX _ hb
 ·rw[e] at hb
  unfold frs at hb
  rw[AlP,hf] at hb
  exact hb
theorem Inv.Vv(I:Inv X pins σ H s):∀ b∈frs X.stack,H b=none:=fun b hb=>by
 rcases List.mem_cons.mp (I.Vu b hb) with e | hb
 ·rw[e];exact I.free
 ·obtain⟨_,o,ho,_⟩:=I.ok.Oe.mem hb
  exact I.base.free b o ho (I.ok.frf b hb) fun z=>I.ok.Xk b z hb
theorem Inv.step{g':Array GenState}{t':Nat}{d':Drawn}{ch:List Addr}(I:Inv X pins σ H s)
  (hch:∀ b∈ch,(b∈X.ex∨X.s₀.heap.objs.size≤b)∧b≠X.env.locals∧(∀ x c,X.env.cells.lookup x=some c→c≠b)∧∀ p∈X.pn++pins,p.1≠b)
  (keep:∀ b o,b≠X.env.locals→b∉X.fs→b∉ch→s.heap.get? b=some o→H b=none→h'.get? b=some o)
  (slot:∀ b o,b≠X.env.locals→b∈X.fs→b∉ch→s.heap.get? b=some o→H b=none→∃ sl,h'.get? b=some { o with slots:=sl }) (free:∀ b o,b∉ch→s.heap.get? b=some o→H b=none→H' b=none)
  (there:∀ b o,b∉ch→s.heap.get? b=some o→∃ o',h'.get? b=some o')
  (tups:∀ b xs,H b=some (.tup xs)→H' b=some (.tup xs)) (Nt:∀ b o u,H b=some (.frz o u)→H' b=some (.frz o u)) (Qh:∀ b ps,H b=some (.tbl ps)→∃ more,H' b=some (.tbl (ps++more)))
  (ns:∀ m,s.heap.Ns X.env.locals m→h'.Ns X.env.locals m) (hok:HOk X.prog X.w H' h') (hg:AllBare g') :
  Inv X pins σ H' { s with heap:=h',gens:=g',drawn:=d',toks:=t' }:=by
 have neL:∀ b o,X.s₀.heap.get? b=some o→b≠X.env.locals:=fun b o e=>AkK (AkT (Heap.lt_size e) I.ok.above)
 have neC:∀ b o,X.s₀.heap.get? b=some o→b∉X.ex→b∉ch:=fun b o e hx hb=>by
  rcases(hch b hb).1 with z | z
  ·exact hx z
  ·exact absurd (AkT (Heap.lt_size e) z) (Alf _)
 have cellK:∀ x c,X.env.cells.lookup x=some c→∀ v,s.heap.IsCell c v→h'.IsCell c v:=fun x c e v ⟨o,ho,hd⟩=>by
  have nch:c∉ch:=fun z=>(hch c z).2.2.1 x c e rfl
  by_cases hc:c∈X.fs
  ·obtain⟨sl,q⟩:=slot c o (I.cne x c e) hc nch ho (I.IK x c e)
   exact⟨_,q,hd⟩
  ·exact⟨o,keep c o (I.cne x c e) hc nch ho (I.IK x c e),hd⟩
 refine⟨I.ok,I.os,hg,⟨fun b o e n hb hx=>?_,fun b o e n hb hx=>?_,fun b o e n hx=>?_,fun b o e hx=>?_,fun b xs e=>tups b xs (I.base.tups b xs e),fun b o xs e=>Nt b o xs (I.base.Nt b o xs e),fun b ps e=>?_⟩,?_,fun x c e=>?_,?_,fun x c e=>?_,fun p hp=>?_,hok,I.len⟩
 ·exact keep b o (neL b o e) hb (neC b o e hx) (I.base.keep b o e n hb hx) (I.base.free b o e n hx)
 ·obtain⟨sl,e1⟩:=I.base.slot b o e n hb hx
  obtain⟨sl',e2⟩:=slot b _ (neL b o e) hb (neC b o e hx) e1 (I.base.free b o e n hx)
  exact⟨sl',e2⟩
 ·obtain⟨o',e1⟩:=I.base.there b o e hx
  exact free b o' (neC b o e hx) e1 (I.base.free b o e n hx)
 ·obtain⟨o',e1⟩:=I.base.there b o e hx
  exact there b o' (neC b o e hx) e1
 ·obtain⟨m1,e1⟩:=I.base.Qh b ps e
  obtain⟨m2,e2⟩:=Qh b _ e1
  exact⟨m1++m2,by rw[e2,Array.append_assoc]⟩
 ·obtain⟨m,hn,hl⟩:=I.loc
  refine⟨m,ns m hn,fun i x v e1 e2 e3=>?_⟩
  obtain⟨u,r,l⟩:=hl i x v e1 e2 e3
  refine⟨u,r,?_⟩
  rcases l with l | ⟨k,c,e,z⟩
  ·exact .inl l
  ·exact .inr ⟨k,c,e,cellK x c e _ z⟩
 ·obtain⟨v,z⟩:=I.cell x c e
  exact⟨v,cellK x c e v z⟩
 ·obtain⟨m,⟨o,_,_,ho,_⟩,_⟩:=I.loc
  exact free _ o (fun z=>(hch _ z).2.1 rfl) ho I.free
 ·obtain⟨v,o,ho,hd⟩:=I.cell x c e
  exact free c o (fun z=>(hch c z).2.2.1 x c e rfl) ho (I.IK x c e)
 ·obtain⟨e,n,ne,nf,d⟩:=I.pin p hp
  have nch:p.1∉ch:=fun z=>(hch p.1 z).2.2.2 p hp rfl
  exact⟨keep p.1 p.2 ne nf nch e n,free p.1 p.2 nch e n,ne,nf,d⟩
theorem Inv.un{t':Nat}(I:Inv X pins σ H s)(u:Un X.fs [] H H' s.heap h')(hok:HOk X.prog X.w H' h'):Inv X pins σ H' { s with heap:=h',toks:=t' }:=by
 obtain⟨m,⟨o,es,ep,ho,r⟩,_⟩:=id I.loc
 obtain⟨sl,hL⟩:=u.any ho I.free (by simp)
 exact I.step (g':=s.gens) (d':=s.drawn) (ch:=[]) (fun _ z=>nomatch z) (fun b o _ hb _ e n=>u.keep b o e n hb (by simp)) (fun b o _ hb _ e n=>u.slot b o e n hb (by simp)) (fun b o _ e n=>u.free b o e n (by simp)) (fun b o _ e=>u.there b o e (by simp)) u.tups u.Nt u.Qh (fun m' hm=>by
  obtain⟨o',es',ep',ho',r'⟩:=hm
  rw[ho] at ho';cases ho'
  exact⟨_,es',ep',hL,r'⟩) hok I.bare
theorem Inv.call{g':Array GenState}{t':Nat}{d':Drawn}{ch:List Addr}(I:Inv X pins σ H s)(u:Un (frs X.stack) ch H H' s.heap h')(hok:HOk X.prog X.w H' h')(hg:AllBare g')
  (hch:∀ b∈ch,(b∈X.ex∨X.s₀.heap.objs.size≤b)∧b≠X.env.locals∧(∀ x c,X.env.cells.lookup x=some c→c≠b)∧∀ p∈X.pn++pins,p.1≠b) :
  Inv X pins σ H' { s with heap:=h',gens:=g',drawn:=d',toks:=t' }:=by
 obtain⟨m,⟨o,es,ep,ho,r⟩,_⟩:=id I.loc
 obtain⟨sl,hL⟩:=u.any ho I.free fun z=>(hch _ z).2.1 rfl
 exact I.step (ch:=ch) hch (fun b o hL hb hc e n=>u.keep b o e n (fun z=>(List.mem_cons.mp (I.Vu b z)).elim hL hb) hc) (fun b o _ _ hc e n=>u.any e n hc) (fun b o hc e n=>u.free b o e n hc) (fun b o hc e=>u.there b o e hc) u.tups u.Nt u.Qh (fun m' hm=>by
  obtain⟨o',es',ep',ho',r'⟩:=hm
  rw[ho] at ho';cases ho'
  exact⟨_,es',ep',hL,r'⟩) hok hg
theorem Inv.turned{t':Nat}{it:Addr}(I:Inv X pins σ H s)(k:∀ b o,b≠it→s.heap.get? b=some o→h'.get? b=some o)(hn:H it=none)(hL:it≠X.env.locals)
  (h1:it∈X.ex∨X.s₀.heap.objs.size≤it) (h2:∀ x c,X.env.cells.lookup x=some c→c≠it) (h3:∀ p∈X.pn++pins,p.1≠it):Inv X pins σ H { s with heap:=h',toks:=t' }:=by
 have nit:∀ b u,H b=some u→b≠it:=fun b u e z=>by rw[z,hn] at e;cases e
 refine I.step (g':=s.gens) (d':=s.drawn) (ch:=[it]) (fun b hb=>?_) (fun b o _ _ hc e _=>k b o (fun z=>hc (by simp[z])) e) (fun b o _ _ hc e _=>⟨o.slots,k b o (fun z=>hc (by simp[z])) e⟩) (fun _ _ _ _ n=>n)
  (fun b o hc e=>⟨o,k b o (fun z=>hc (by simp[z])) e⟩) (fun _ _ e=>e) (fun _ _ _ e=>e) (fun b ps e=>⟨#[],by rw[e];simp⟩) (fun m hm=>?_) (fun b u e=>?_) I.bare
 ·have e:b=it:=by simpa using hb
  subst e
  exact⟨h1,hL,h2,h3⟩
 ·obtain⟨o,es,ep,ho,r⟩:=hm
  exact⟨o,es,ep,k _ o (Ne.symm hL) ho,r⟩
 ·refine(I.hok b u e).stay (fun c v hc q=>k c v ?_ q) (fun _ q=>q) fun _ _ q=>q
  rcases hc with z | z
  ·rw[z];exact nit b u e
  ·exact nit c _ z
theorem Inv.tok(I:Inv X pins σ H s)(t:Nat):Inv X pins σ H { s with toks:=t }:=I.un (h':=s.heap) (t':=t) Un.refl I.hok
theorem Inv.kept{t':Nat}(I:Inv X pins σ H s)(k:∀ b u,s.heap.get? b=some u→h'.get? b=some u):Inv X pins σ H { s with heap:=h',toks:=t' }:=I.un (Un.kept k) (I.hok.kept k)
theorem Inv.laid{a:Addr}{o:HO}{t':Nat}(I:Inv X pins σ H s)(k:∀ b u,s.heap.get? b=some u→h'.get? b=some u)(hp:s.heap.objs.size≤a)(new:Ea X.prog X.w (upd H a o) h' a o) :
  Inv X pins σ (upd H a o) { s with heap:=h',toks:=t' }:=I.un (Un.laid k hp (I.hok.fresh hp)) (I.hok.laid k hp new)
theorem Inv.write{x e:Addr}{o:HO}{t':Nat}(I:Inv X pins σ H s)(mu:Mut (H x))(he:e=x∨H e=some (.own x))(k:∀ b u,b≠e→s.heap.get? b=some u→h'.get? b=some u)(heo:∃ u,h'.get? e=some u)
  (new:Ea X.prog X.w (upd H x o) h' x o):Inv X pins σ (upd H x o) { s with heap:=h',toks:=t' }:=I.un (Un.write mu he k heo) (I.hok.write mu he k heo new)
theorem Inv.IV{Ae8:List (Addr × Obj)}(I:Inv X pins σ H s)(h:∀ p∈Ae8,s.heap.get? p.1=some p.2∧H p.1=none∧p.1≠X.env.locals∧p.1∉X.fs∧∀ v,p.2.data≠.cell v):Inv X Ae8 σ H s :=
 ⟨I.ok,I.os,I.bare,I.base,I.loc,I.cell,I.free,I.IK,fun p hp=>(List.mem_append.mp hp).elim (fun z=>I.pin p (Al8 _ z)) (h p),I.hok,I.len⟩
theorem Xl{N:List Str}(hN:N.Nodup){i j:Nat}{x:Str}(a:N[i]?=some x)(b:N[j]?=some x):i=j:=by
 obtain⟨h1,e1⟩:=List.getElem?_eq_some_iff.mp a
 obtain⟨h2,e2⟩:=List.getElem?_eq_some_iff.mp b
 exact(Amc hN).mp (e1.trans e2.symm)
theorem U5{M:Model}{A:Around}{E:Value→Shared→Prop}{i:Nat}{x:Str}{v:V}{u:Value}{Q:Unit→Shared→Prop}(I:Inv X pins σ H s)(hN:X.N.Nodup)(hi:X.N[i]?=some x)(hx:Loc X.env.scope x)(r:RelV v u)
  (h:∀ s',Inv X pins (σ.set i (some v)) H s'→(∃ a,Heap.SameBut a s.heap s'.heap∧(a=X.env.locals∨X.env.cells.lookup x=some a))→Q () s') (hf:X.fn x=true∨X.env.scope.names.lookup x=some .local:=by first | exact .inl rfl | exact .inr rfl | assumption):wpAny M A (storeName X.env x u) Q E s:=by
 obtain⟨m,hn,hl⟩:=id I.loc
 have hcls:(X.env.scope.kind == .class || (X.env.scope.kind == .module && X.env.locals != X.env.globals))=false:=by rw[I.ok.kind];rfl
 have hiσ:i<σ.length:=by rw[I.len];exact(List.getElem?_eq_some_iff.mp hi).1
 have cne:=I.cne
 have tracked:∀{a:Addr} {h':Heap},(∃ o,s.heap.get? a=some o∧H a=none)→Heap.SameBut a s.heap h'→HOk X.prog X.w H h':=fun {a h'} ha hs b ob e=>by
  obtain⟨_,_,hfree⟩:=ha
  refine(I.hok b ob e).stay (fun c w' hc q=>(hs.2 c ?_).trans q) (fun _ q=>q) fun _ _ q=>q
  rintro rfl
  rcases hc with rfl | hc
  ·rw[hfree] at e;cases e
  ·rw[hfree] at hc;cases hc
 rcases hx with hk | hk
 ·refine wpAny_storeName_local hk hn (fun h' hn' hs=>?_) hcls
  obtain⟨oL,_,_,hoL,_⟩:=id hn
  refine h _ ⟨I.ok,I.os,I.bare,⟨fun b o e n hb hx=>?_,fun b o e n hb hx=>?_,I.base.free,fun b o e hx=>?_,I.base.tups,I.base.Nt,I.base.Qh⟩,⟨_,hn',fun j y v' e1 e2 e3=>?_⟩,fun y c e=>?_,I.free,I.IK,fun p hp=>?_,tracked ⟨oL,hoL,I.free⟩ hs,by simpa using I.len⟩ ⟨_,hs,.inl rfl⟩
  ·exact(hs.2 b (AkK (AkT (Heap.lt_size e) I.ok.above))).trans (I.base.keep b o e n hb hx)
  ·obtain⟨sl,e1⟩:=I.base.slot b o e n hb hx
   exact⟨sl,(hs.2 b (AkK (AkT (Heap.lt_size e) I.ok.above))).trans e1⟩
  ·obtain⟨o',e1⟩:=I.base.there b o e hx
   exact⟨o',(hs.2 b (AkK (AkT (Heap.lt_size e) I.ok.above))).trans e1⟩
  ·by_cases hj:j=i
   ·subst hj
    rw[hi] at e1;cases e1
    rw[AlH hiσ] at e2
    cases e2
    exact⟨u,r,.inl ⟨hk,by simp⟩⟩
   ·rw[AlI (Ne.symm hj)] at e2
    obtain⟨u',r',q⟩:=hl j y v' e1 e2 e3
    refine⟨u',r',?_⟩
    rcases q with ⟨k,e⟩ | ⟨k,c,e,z⟩
    ·refine .inl ⟨k,?_⟩
     have:y≠x:=fun e=>hj (Xl hN e1 (e▸hi))
     simp[this,e]
    ·exact .inr ⟨k,c,e,z.sameBut hs (cne y c e)⟩
  ·obtain⟨w',z⟩:=I.cell y c e
   exact⟨w',z.sameBut hs (cne y c e)⟩
  ·obtain⟨e,n,ne,nf,d⟩:=I.pin p hp
   exact⟨(hs.2 p.1 ne).trans e,n,ne,nf,d⟩
 ·have hfn:X.fn x=true:=by
   rcases hf with z | z
   ·exact z
   ·rw[z] at hk;cases hk
  obtain⟨c,hc⟩:=I.ok.has x (.inl hk)
  obtain⟨w',z⟩:=I.cell x c hc
  refine wpAny_storeName_cell I.ok.kind hk hc z (fun h' hc' hs=>?_)
  obtain⟨oc,hoc,AiE⟩:=id z
  refine h { s with heap:=h' } ⟨I.ok,I.os,I.bare,⟨fun b o e n hb hx=>?_,fun b o e n hb hx=>?_,I.base.free,fun b o e hx=>?_,I.base.tups,I.base.Nt,I.base.Qh⟩,⟨m,hn.sameBut hs (Ne.symm (cne x c hc)),fun j y v' e1 e2 e3=>?_⟩,fun y c' e=>?_,I.free,I.IK,fun p hp=>?_,tracked ⟨oc,hoc,I.IK x c hc⟩ hs,by simpa using I.len⟩ ⟨c,hs,.inr hc⟩
  ·exact(hs.2 b (AkK (AkT (Heap.lt_size e) (I.ok.cab x c hfn hc)))).trans (I.base.keep b o e n hb hx)
  ·obtain⟨sl,e1⟩:=I.base.slot b o e n hb hx
   exact⟨sl,(hs.2 b (AkK (AkT (Heap.lt_size e) (I.ok.cab x c hfn hc)))).trans e1⟩
  ·obtain⟨o',e1⟩:=I.base.there b o e hx
   exact⟨o',(hs.2 b (AkK (AkT (Heap.lt_size e) (I.ok.cab x c hfn hc)))).trans e1⟩
  ·by_cases hj:j=i
   ·subst hj
    rw[hi] at e1;cases e1
    rw[AlH hiσ] at e2
    cases e2
    exact⟨u,r,.inr ⟨.inl hk,c,hc,hc'⟩⟩
   ·rw[AlI (Ne.symm hj)] at e2
    obtain⟨u',r',q⟩:=hl j y v' e1 e2 e3
    refine⟨u',r',?_⟩
    rcases q with q | ⟨k,c',e,z'⟩
    ·exact .inl q
    ·refine .inr ⟨k,c',e,z'.sameBut hs ?_⟩
     rintro rfl
     exact hj (Xl hN e1 (I.ok.inj _ _ _ e hc▸hi))
  ·by_cases hcc:c'=c
   ·subst hcc;exact⟨_,hc'⟩
   ·obtain⟨w2,z2⟩:=I.cell y c' e
    exact⟨w2,z2.sameBut hs hcc⟩
  ·obtain⟨e,n,ne,nf,d⟩:=I.pin p hp
   refine⟨(hs.2 p.1 ?_).trans e,n,ne,nf,d⟩
   intro q
   rw[q,hoc] at e
   have q':oc=p.2:=Option.some.inj e
   exact d w' (by rw[← q'];exact AiE)
theorem RD{M:Model}{A:Around}{E:Value→Shared→Prop}{i:Nat}{x:Str}{v:V}{u:Value}{Q:Unit→Shared→Prop}(I:Inv X pins σ H s)(hN:X.N.Nodup)(hi:X.N[i]?=some x)(hx:Loc X.env.scope x)(r:RelV v u)
  (h:∀ s',Inv X pins (σ.set i (some v)) H s'→Q () s') (hf:X.fn x=true∨X.env.scope.names.lookup x=some .local:=by first | exact .inl rfl | exact .inr rfl | assumption):wpAny M A (storeName X.env x u) Q E s :=
 U5 I hN hi hx r (fun s' I' _=>h s' I') hf
theorem Inv.call'{s':Shared}{ch:List Addr}(I:Inv X pins σ H s)(ho:s'.os=s.os)(u:Un (frs X.stack) ch H H' s.heap s'.heap)(hok:HOk X.prog X.w H' s'.heap)(hg:AllBare s'.gens)
  (hch:∀ b∈ch,(b∈X.ex∨X.s₀.heap.objs.size≤b)∧b≠X.env.locals∧(∀ x c,X.env.cells.lookup x=some c→c≠b)∧∀ p∈X.pn++pins,p.1≠b):Inv X pins σ H' s':=by
 obtain⟨h',g',d',t',o'⟩:=s'
 have e:o'=s.os:=ho
 subst e
 exact I.call (g':=g') (t':=t') (d':=d') u hok hg hch
end
abbrev XK:=Value→Option Addr→Hp→Prop
abbrev St:=List (Option V)
abbrev VK:=V→Hp→Prop
abbrev TE:=St→Hp→VK→Prop
abbrev TT:=St→Hp→(Bool→Hp→Prop)→Prop
abbrev TA:=St→Hp→(List V→Hp→Prop)→Prop
structure Ends where
 nx:St→Hp→Prop
 rt:VK
 bk:St→Hp→Prop:=fun _ _=>False
 ct:St→Hp→Prop:=fun _ _=>False
abbrev TS:=Ends→St→Hp→Prop
def EP (X:Cx)(pins:List (Addr × Obj))(σ:St)(Q:VK)(u:Value)(s':Shared):Prop:=∃ v H',Inv X pins σ H' s'∧RelV v u∧Q v H'
def TP (X:Cx)(pins:List (Addr × Obj))(σ:St)(Q:Bool→Hp→Prop)(b:Bool)(s':Shared):Prop:=∃ H',Inv X pins σ H' s'∧Q b H'
def AP (X:Cx)(pins:List (Addr × Obj))(σ:St)(Q:List V→Hp→Prop)(us:List Value)(s':Shared):Prop:=∃ vs H',Inv X pins σ H' s'∧Vals vs us∧Q vs H'
def SP (X:Cx)(pins:List (Addr × Obj))(D:Ends)(f:Flow)(s':Shared):Prop :=
 match f with
 | .next=>∃ σ' H',Inv X pins σ' H' s'∧D.nx σ' H'
 | .brk=>∃ σ' H',Inv X pins σ' H' s'∧D.bk σ' H'
 | .cont=>∃ σ' H',Inv X pins σ' H' s'∧D.ct σ' H'
 | .ret u=>∃ v σ' H',Inv X pins σ' H' s'∧RelV v u∧D.rt v H'
def PE (X:Cx)(e:Expr)(t:TE):Prop :=
 ∀(pins:List (Addr × Obj)) (s:Shared) (σ:St) (H:Hp) (Q:VK),Inv X pins σ H s→t σ H Q→wpAny (model X.prog X.w) X.A (eval e X.env) (EP X pins σ Q) X.xe s
def PT (X:Cx)(e:Expr)(t:TT):Prop :=
 ∀(pins:List (Addr × Obj)) (s:Shared) (σ:St) (H:Hp) (Q:Bool→Hp→Prop),Inv X pins σ H s→t σ H Q→wpAny (model X.prog X.w) X.A (isTrue e X.env (eval e X.env)) (TP X pins σ Q) X.xe s
def PW (X:Cx)(e:Expr)(t:TT):Prop :=
 ∀(whole:Sem Value) (pins:List (Addr × Obj)) (s:Shared) (σ:St) (H:Hp) (Q:Bool→Hp→Prop),Inv X pins σ H s→t σ H Q→wpAny (model X.prog X.w) X.A (isTrue e X.env whole) (TP X pins σ Q) X.xe s
theorem PW.pt{X:Cx}{e:Expr}{t:TT}(h:PW X e t):PT X e t:=h _
def PA (X:Cx)(es:List Expr)(t:TA):Prop :=
 ∀(pos:Pos) (pins:List (Addr × Obj)) (s:Shared) (σ:St) (H:Hp) (Q:List V→Hp→Prop),Inv X pins σ H s→t σ H Q→wpAny (model X.prog X.w) X.A (spliced (backTo pos (starEach es X.env))) (AP X pins σ Q) X.xe s
def PS (X:Cx)(st:Stmt)(t:TS):Prop :=
 ∀(pins:List (Addr × Obj)) (s:Shared) (σ:St) (H:Hp) (D:Ends),Inv X pins σ H s→t D σ H→wpAny (model X.prog X.w) X.A (exec st X.env) (SP X pins D) X.xe s
def PSs (X:Cx)(st:List Stmt)(t:TS):Prop :=
 ∀(pins:List (Addr × Obj)) (s:Shared) (σ:St) (H:Hp) (D:Ends),Inv X pins σ H s→t D σ H→wpAny (model X.prog X.w) X.A (execs st X.env) (SP X pins D) X.xe s
theorem thn{α:Type}{t:Sem α}{Q Q':α→Shared→Prop}{M:Model}{A:Around}{E:Value→Shared→Prop}{s:Shared}(h:wpAny M A t Q E s)(hQ:∀ a s,Q a s→Q' a s):wpAny M A t Q' E s:=wpAny_mono h hQ fun _ _ x=>x
open PySem PySem.Spec PyProof.Rows
section
variable {X:Cx}
def AgQ (i:Nat):TE:=fun σ H Q=>∃ v,σ[i]?=some (some v)∧Q v H
def tC (v:V):TE:=fun _ H Q=>Q v H
theorem Afi{i:Nat}{x:Str}{pos:Pos}(hN:X.N[i]?=some x)(hv:Vis X.env.scope x)(hd:(x == ("__debug__" : Str))=false:=by decide) (hcd:(x == ("__classdict__" : Str))=false:=by decide):PE X (.Name x pos) (AgQ i):=by
 intro pins s σ H Q I h
 obtain⟨v,e,h⟩:=h
 obtain⟨m,hn,hl⟩:=I.loc
 obtain⟨u,r,l⟩:=hl i x v hN e hv
 have fin:EP X pins σ Q u s:=⟨v,H,I,r,h⟩
 rcases l with ⟨hk,hm⟩ | ⟨hk,c,hc,hcell⟩
 ·exact wpAny_Name (wpAny_loadName_local I.ok.kind hk hn hm fin) hd
 ·rcases hk with hk | hk
  ·exact wpAny_Name (wpAny_loadName_cell I.ok.kind hk hc hcell fin) hd
  ·exact wpAny_Name (wpAny_loadName_free I.ok.kind hk hc hcell fin hcd) hd
theorem Af{i j pos}:PE X (.Constant (.int i) j pos) (tC (.int i)):=fun _ _ _ H _ I h=>wpAny_Constant_int ⟨.int i,H,I.tok _,⟨_,rfl⟩,h⟩
theorem Cy{b j pos}:PE X (.Constant (.bool b) j pos) (tC (.bl b)):=fun _ _ _ H _ I h=>Constant_bool ⟨.bl b,H,I,rfl,h⟩
theorem Fz{j pos}:PE X (.Constant .none j pos) (tC .non):=fun _ _ _ H _ I h=>Constant_none ⟨.non,H,I,rfl,h⟩
theorem Bg{x j pos}:PE X (.Constant (.str x) j pos) (tC (.str x)):=fun _ _ _ H _ I h=>Calls.Constant_str ⟨.str x,H,I.tok _,⟨_,rfl⟩,h⟩
def Gl (X:Cx)(x:Str):Prop:=X.env.kindOf x=some .globalImplicit
theorem Vw{E:Value→Shared→Prop}{pins:List (Addr × Obj)}{s:Shared}{σ:St}{H:Hp}{x:Str}{u:Value}{pos:Pos}{Q:Value→Shared→Prop}(I:Inv X pins σ H s)(hg:Gl X x)(hm:X.mg x=some u)(h:Q u s)
  (hd:(x == ("__debug__" : Str))=false:=by decide):wpAny (model X.prog X.w) X.A (eval (.Name x pos) X.env) Q E s :=
 Calls.Name_function_global I.ok.kind hg (Calls.loadGlobal_global (by rw[I.ok.glob];exact I.mod.glob.keeps I.bk) hm h) hd
theorem HR{E:Value→Shared→Prop}{pins:List (Addr × Obj)}{s:Shared}{σ:St}{H:Hp}{x:Str}{u:Value}{pos:Pos}{Q:Value→Shared→Prop}(I:Inv X pins σ H s)(hg:Gl X x)(hm:X.mg x=none)(hv:bootBuiltins x=some u)(h:Q u s)
  (hn:x ≠ "__name__" := by decide) (hd:(x == ("__debug__" : Str))=false:=by decide):wpAny (model X.prog X.w) X.A (eval (.Name x pos) X.env) Q E s:=by
 obtain⟨mb,h1,h2⟩:=I.mod.blt
 exact Calls.Name_function_global I.ok.kind hg (Calls.loadGlobal_builtin (by rw[I.ok.glob];exact I.mod.glob.keeps I.bk) hm (by rw[I.ok.blt];exact h1.keeps I.bk) ((h2 x hn).trans hv) h) hd
theorem Ei{x:Str}{v:V}{u:Value}{pos:Pos}(hg:Gl X x)(hm:X.mg x=some u)(r:RelV v u)(hd:(x == ("__debug__" : Str))=false:=by decide):PE X (.Name x pos) (tC v) :=
 fun _ _ _ H _ I h=>Vw I hg hm ⟨v,H,I,r,h⟩ hd
theorem FW{x:Str}{v:V}{u:Value}{pos:Pos}(hg:Gl X x)(hm:X.mg x=none)(hv:bootBuiltins x=some u)(r:RelV v u)(hn:x ≠ "__name__" := by decide) (hd:(x == ("__debug__" : Str))=false:=by decide):PE X (.Name x pos) (tC v) :=
 fun _ _ _ H _ I h=>HR I hg hm hv ⟨v,H,I,r,h⟩ hn hd
def t2I (ta tb:TE)(k:Int→Int→Hp→Prop):St→Hp→Prop:=fun σ H=>ta σ H fun x H1=>tb σ H1 fun y H2=>∃ i j,x=.int i∧y=.int j∧k i j H2
def AjU (ta tb:TE):TE:=fun σ H Q=>t2I ta tb (fun i j H2=>Q (.int (i+j)) H2) σ H
def AjV (ta tb:TE):TE:=fun σ H Q=>t2I ta tb (fun i j H2=>Q (.int (i-j)) H2) σ H
def AjW (ta tb:TE):TE:=fun σ H Q=>t2I ta tb (fun i j H2=>(-(2 ^ 64)<i∧i<2 ^ 64)∧Q (.int (i*j)) H2) σ H
variable {a b:Expr}{ta tb:TE}{pos:Pos}
def PC (X:Cx)(op:CmpOp)(a b:Expr)(t:TE):Prop :=
 ∀(pins:List (Addr × Obj)) (s:Shared) (σ:St) (H:Hp) (Q:VK),Inv X pins σ H s→t σ H Q →
  wpAny (model X.prog X.w) X.A (eval a X.env) (fun v s₁=>wpAny (model X.prog X.w) X.A (eval b X.env) (fun u s₂=>wpAny (model X.prog X.w) X.A (compareOp op v u) (EP X pins σ Q) X.xe s₂) X.xe s₁) X.xe s
theorem AbF(b:Expr){op:CmpOp}(h:op≠.In)(h2:op≠.NotIn):behindInMarks op b=false:=by
 have e1:(op == CmpOp.In)=false:=by cases op <;> first | rfl | exact absurd rfl h
 have e2:(op == CmpOp.NotIn)=false:=by cases op <;> first | rfl | exact absurd rfl h2
 cases b <;> simp[behindInMarks,e1,e2]
def AaM (p:Int→Int→Bool)(ta tb:TE):TE:=fun σ H Q=>t2I ta tb (fun i j H2=>Q (.bl (p i j)) H2) σ H
abbrev tLt:TE→TE→TE:=AaM fun i j=>decide (i<j)
abbrev tLe:TE→TE→TE:=AaM fun i j=>decide (i≤j)
abbrev tGt:TE→TE→TE:=AaM fun i j=>decide (j<i)
abbrev tGe:TE→TE→TE:=AaM fun i j=>decide (j≤i)
abbrev AjX:TE→TE→TE:=AaM fun i j=>decide (i=j)
abbrev AjY:TE→TE→TE:=AaM fun i j=>!decide (i=j)
def AjZ (ta:TE):TE:=fun σ H Q=>ta σ H fun x H1=>Q (.bl (decide (x=.non))) H1
def Aj8 (ta:TE):TE:=fun σ H Q=>ta σ H fun x H1=>Q (.bl (!decide (x=.non))) H1
def tB (t:TE):TT:=fun σ H Q=>t σ H fun x H1=>∃ c,x=.bl c∧Q c H1
theorem Qi{op:CmpOp}{t:TE}(h:PC X op a b t)(h1:behindInMarks op b=false:=by first | exact AbF _ (by decide) (by decide) | rfl):PT X (.Compare a [op] [b] pos) (tB t):=by
 intro pins s σ H Q I hw
 refine wpAny_isTrue_Compare1 (thn (h pins s σ H _ I hw) fun v s1 h1=>thn h1 fun u s2 h2=>thn h2 fun c s3 ⟨x,H1,I1,r1,q1⟩=>?_) h1
 obtain⟨d,rfl,q⟩:=q1
 cases r1
 exact wpAny_truthy_bool ⟨H1,I1,q⟩
theorem De{e:Expr}{t:TE}(h:PE X e t)(he:∀ whole,isTrue e X.env whole=(do let v ← whole;standAt e.pos;holding [v] (truthy v)):=by intro _;rfl):PT X e (tB t):=by
 intro pins s σ H Q I hw
 refine isTrue_plain (thn (h pins s σ H _ I hw) fun v s1 ⟨x,H1,I1,r1,q1⟩=>?_) (he _)
 obtain⟨d,rfl,q⟩:=q1
 cases r1
 exact wpAny_truthy_bool ⟨H1,I1,q⟩
variable {tA tB':TT}{rest:List Expr}
def AiF (t u:TT):TT:=fun σ H Q=>t σ H fun c H1=>if c=true then u σ H1 Q else Q false H1
def tOr (t u:TT):TT:=fun σ H Q=>t σ H fun c H1=>if c=true then Q true H1 else u σ H1 Q
def AiG (t:TT):TT:=fun σ H Q=>t σ H fun c H1=>Q (!c) H1
theorem pw_and1(ha:PT X a tA):PW X (.BoolOp .And [a] pos) tA:=by
 intro wh pins s σ H Q I h
 refine isTrue_and (thn (ha pins s σ H Q I h) fun c s1 e=>?_)
 cases c with
 | true=>exact isTrue_and_nil e
 | false=>exact e
theorem pw_or1(ha:PT X a tA):PW X (.BoolOp .Or [a] pos) tA:=by
 intro wh pins s σ H Q I h
 refine isTrue_or (thn (ha pins s σ H Q I h) fun c s1 e=>?_)
 cases c with
 | false=>exact isTrue_or_nil e
 | true=>exact e
theorem pw_and(ha:PT X a tA)(hb:PW X (.BoolOp .And (b::rest) pos) tB'):PW X (.BoolOp .And (a::b::rest) pos) (AiF tA tB'):=by
 intro wh pins s σ H Q I h
 refine isTrue_and (thn (ha pins s σ H _ I h) fun c s1 ⟨H1,I1,q1⟩=>?_)
 cases c with
 | true=>exact hb wh pins s1 σ H1 Q I1 q1
 | false=>exact⟨H1,I1,q1⟩
theorem pw_or(ha:PT X a tA)(hb:PW X (.BoolOp .Or (b::rest) pos) tB'):PW X (.BoolOp .Or (a::b::rest) pos) (tOr tA tB'):=by
 intro wh pins s σ H Q I h
 refine isTrue_or (thn (ha pins s σ H _ I h) fun c s1 ⟨H1,I1,q1⟩=>?_)
 cases c with
 | true=>exact⟨H1,I1,q1⟩
 | false=>exact hb wh pins s1 σ H1 Q I1 q1
theorem Cw(ha:PT X a tA):PT X (.UnaryOp .Not a pos) (AiG tA):=by
 intro pins s σ H Q I h
 exact isTrue_not (ha pins s σ H (fun c H1=>Q (!c) H1) I h)
def AgR (ta tb:TE):TE:=fun σ H Q=>ta σ H fun x H1=>∃ c,x=.bl c∧if c=true then tb σ H1 Q else Q (.bl false) H1
def Aka (ta tb:TE):TE:=fun σ H Q=>ta σ H fun x H1=>∃ c,x=.bl c∧if c=true then Q (.bl true) H1 else tb σ H1 Q
def AgS (ta:TE):TE:=fun σ H Q=>ta σ H fun x H1=>∃ c,x=.bl c∧Q (.bl (!c)) H1
theorem YW{op}{t:TE}(h:PE X a t):PE X (.BoolOp op [a] pos) t:=fun pins s σ H Q I hw=>BoolOp_one (h pins s σ H Q I hw)
theorem YX(ha:PE X a ta)(hb:PE X (.BoolOp .And (b::rest) pos) tb):PE X (.BoolOp .And (a::b::rest) pos) (AgR ta tb):=by
 intro pins s σ H Q I h
 refine BoolOp_and (thn (ha pins s σ H _ I h) fun v s1 ⟨x,H1,I1,r1,q1⟩=>?_)
 obtain⟨c,rfl,q1⟩:=q1
 cases r1
 refine wpAny_truthy_bool ?_
 cases c with
 | true=>exact hb pins s1 σ H1 Q I1 q1
 | false=>exact⟨.bl false,H1,I1,rfl,q1⟩
theorem AbG(ha:PE X a ta):PE X (.UnaryOp .Not a pos) (AgS ta):=by
 intro pins s σ H Q I h
 refine UnaryOp_ (thn (ha pins s σ H _ I h) fun v s1 ⟨x,H1,I1,r1,q1⟩=>?_)
 obtain⟨c,rfl,q1⟩:=q1
 cases r1
 exact not_of (wpAny_truthy_bool ⟨.bl (!c),H1,I1,rfl,q1⟩)
def tIf (t:TT)(ta tb:TE):TE:=fun σ H Q=>t σ H fun c H1=>if c=true then ta σ H1 Q else tb σ H1 Q
theorem RG{c:Expr}(hc:PT X c tA)(ha:PE X a ta)(hb:PE X b tb):PE X (.IfExp c a b pos) (tIf tA ta tb):=by
 intro pins s σ H Q I h
 refine wpAny_IfExp (thn (hc pins s σ H _ I h) fun d s1 ⟨H1,I1,q1⟩=>?_)
 cases d with
 | true=>exact ha pins s1 σ H1 Q I1 q1
 | false=>exact hb pins s1 σ H1 Q I1 q1
end
open PySem PySem.Spec PyProof.Rows
def SqL (K:PySem.W.Frag)(H:Hp)(a:Addr)(xs:List V):Prop :=
 Rd H a (.lst xs) ∨
  ∃(o:Obj) (its:Array Value) (n:Nat),K.lookup a=some o∧o.cls=.type "list" ∧ o.dict=none∧o.data=.seq its n∧its.size≤sizeLine∧Vals xs its.toList
def SqT (K:PySem.W.Frag)(H:Hp)(a:Addr)(xs:List V):Prop :=
 Rd H a (.tup xs) ∨
  ∃(o:Obj) (its:Array Value) (n:Nat),K.lookup a=some o∧o.cls=.type "tuple" ∧ o.data=.seq its n∧its.size≤sizeLine∧Vals xs its.toList
def AiH:Value→Option V
 | .none=>some .non
 | .bool b=>some (.bl b)
 | .int i _=>some (.int i)
 | .str x _=>some (.str x)
 | .bytes b _=>some (.byt b)
 | .float b _=>some (.flt b)
 | .ref a=>some (.ref a)
 | .type n=>some (.ty n)
 | _=>none
theorem RelV.abs{x:V}{u:Value}(r:RelV x u):AiH u=some x:=by
 cases x with
 | non=>cases r;rfl
 | bl _=>cases r;rfl
 | int _=>obtain⟨t,rfl⟩:=r;rfl
 | str _=>obtain⟨t,rfl⟩:=r;rfl
 | byt _=>obtain⟨t,rfl⟩:=r;rfl
 | flt _=>obtain⟨t,rfl⟩:=r;rfl
 | ref _=>cases r;rfl
 | ty _=>cases r;rfl
theorem RelV.inj{x y:V}{u:Value}(r:RelV x u)(q:RelV y u):x=y:=Option.some.inj (r.abs.symm.trans q.abs)
theorem Vals.inj:∀{xs ys:List V} {us:List Value},Vals xs us→Vals ys us→xs=ys
 | _,_,_,.nil,.nil=>rfl
 | _,_,_,.cons r t,.cons r' t'=>by rw[r.inj r',Vals.inj t t']
section
variable {X:Cx}{pins:List (Addr × Obj)}{σ:St}{H:Hp}{s:Shared}{a:Addr}{xs ys:List V}
theorem SqL.of{K:PySem.W.Frag}(h:H a=some (.lst xs)):SqL K H a xs:=.inl (.inl h)
theorem SqT.of{K:PySem.W.Frag}(h:H a=some (.tup xs)):SqT K H a xs:=.inl (.inl h)
theorem Inv.list(I:Inv X pins σ H s)(h:SqL X.K H a xs):∃ its:List Value,Vals xs its∧PlainL s.heap a its.toArray∧xs.length≤sizeLine:=by
 rcases h with h | ⟨o,its,n,hk,hc,hd,hs,hz,r⟩
 ·obtain⟨z,its,n,r,e⟩:=h.ok I.hok
  exact⟨its,r,⟨_,n,e,rfl,rfl,rfl⟩,z⟩
 ·refine⟨its.toList,r,⟨o,n,I.kIn a o hk,hc,hd,by simpa using hs⟩,?_⟩
  have e:=r.length
  simp only [Array.length_toList] at e
  omega
theorem Inv.tuple(I:Inv X pins σ H s)(h:SqT X.K H a xs):∃ its:List Value,Vals xs its∧IsTup s.heap a its.toArray∧xs.length≤sizeLine:=by
 rcases h with h | ⟨o,its,n,hk,hc,hs,hz,r⟩
 ·obtain⟨z,its,r,p⟩:=h.ok I.hok
  exact⟨its,r,p,z⟩
 ·refine⟨its.toList,r,⟨o,I.kIn a o hk,hc,n,by simpa using hs⟩,?_⟩
  have e:=r.length
  simp only [Array.length_toList] at e
  omega
theorem Inv.Og(I:Inv X pins σ H s)(h:SqL X.K H a xs)(h':SqL X.K H a ys):xs=ys:=by
 obtain⟨its,r,⟨o,n,e,_,_,d⟩,_⟩:=I.list h
 obtain⟨its',r',⟨o',n',e',_,_,d'⟩,_⟩:=I.list h'
 rw[e] at e';cases e'
 rw[d] at d'
 injection d' with d1 _
 have:its=its':=by simpa using congrArg Array.toList d1
 subst this
 exact r.inj r'
end
abbrev Cx.wish (X:Cx) (E:Value→Shared→Prop):Cx:={ X with xe:=E }
abbrev Cx.nox (X:Cx):Cx:=X.wish fun _ _=>False
theorem Cx.Ok.wish{X:Cx}(ok:X.Ok)(E:Value→Shared→Prop):(X.wish E).Ok :=
 ⟨ok.mod,ok.kind,ok.glob,ok.blt,ok.above,ok.inj,ok.has,ok.cab,ok.hd,ok.frames,ok.stk,ok.exf,ok.bs,ok.bsz,ok.Xj,ok.Xk,ok.Oe,ok.frf⟩
theorem Cx.Ok.KZ{X:Cx}{E:Value→Shared→Prop}(ok:(X.wish E).Ok):X.Ok :=
 ⟨ok.mod,ok.kind,ok.glob,ok.blt,ok.above,ok.inj,ok.has,ok.cab,ok.hd,ok.frames,ok.stk,ok.exf,ok.bs,ok.bsz,ok.Xj,ok.Xk,ok.Oe,ok.frf⟩
section
variable {X:Cx}{pins:List (Addr × Obj)}{σ:St}{H:Hp}{s:Shared}{E:Value→Shared→Prop}
theorem Inv.wish(I:Inv X pins σ H s)(E:Value→Shared→Prop):Inv (X.wish E) pins σ H s:=⟨I.ok.wish E,I.os,I.bare,I.base,I.loc,I.cell,I.free,I.IK,I.pin,I.hok,I.len⟩
theorem Inv.KZ(I:Inv (X.wish E) pins σ H s):Inv X pins σ H s:=⟨I.ok.KZ,I.os,I.bare,I.base,I.loc,I.cell,I.free,I.IK,I.pin,I.hok,I.len⟩
theorem SP.KZ{D:Ends}{f:Flow}{s':Shared}(h:SP (X.wish E) pins D f s'):SP X pins D f s':=by
 cases f with
 | next=>obtain⟨σ',H',I,q⟩:=h;exact⟨σ',H',I.KZ,q⟩
 | brk=>obtain⟨σ',H',I,q⟩:=h;exact⟨σ',H',I.KZ,q⟩
 | cont=>obtain⟨σ',H',I,q⟩:=h;exact⟨σ',H',I.KZ,q⟩
 | ret u=>obtain⟨v,σ',H',I,r,q⟩:=h;exact⟨v,σ',H',I.KZ,r,q⟩
theorem PSs.nox{st:List Stmt}{t:TS}(h:PSs X.nox st t):PSs X st t:=fun pins s σ H D I hw =>
 wpAny_mono (h pins s σ H D (I.wish _) hw) (fun _ _ q=>q.KZ) fun _ _ z=>False.elim z
end
section
variable {X:Cx}{st:Stmt}{rest:List Stmt}{t u:TS}{e:Expr}{te:TE}{pos:Pos}
def AgT:TS:=fun D σ H=>D.nx σ H
def AgU (t u:TS):TS:=fun D σ H=>t { D with nx:=u D } σ H
theorem Aq:PSs X [] AgT:=fun _ _ σ H _ I h=>wpAny_execs_nil ⟨σ,H,I,h⟩
theorem Ab(h1:PS X st t)(h2:PSs X rest u):PSs X (st::rest) (AgU t u):=by
 intro pins s σ H D I h
 refine wpAny_execs_cons (thn (h1 pins s σ H { D with nx:=u D } I h) fun f s1 q=>?_)
 cases f with
 | next =>
  obtain⟨σ',H',I',q⟩:=q
  exact h2 pins s1 σ' H' D I' q
 | ret v=>exact q
 | brk=>exact q
 | cont=>exact q
theorem Ad(h1:PS X st t):PSs X [st] t:=by
 intro pins s σ H D I h
 refine wpAny_execs_cons (thn (h1 pins s σ H D I h) fun f s1 q=>?_)
 cases f with
 | next=>exact wpAny_execs_nil q
 | ret v=>exact q
 | brk=>exact q
 | cont=>exact q
def AiI:TS:=fun D σ H=>D.bk σ H
def AgV:TS:=fun D σ H=>D.ct σ H
theorem Xm:PS X (.Continue pos) AgV:=fun _ _ σ H _ I h=>wpAny_Continue ⟨σ,H,I,h⟩
theorem Inv.quiet{pins:List (Addr × Obj)}{σ:St}{H:Hp}{s:Shared}(I:Inv X pins σ H s):interactive X.env=false:=by simp[interactive,I.ok.kind]
def AgW (te:TE):TS:=fun D σ H=>te σ H fun _ H1=>D.nx σ H1
theorem Br(he:PE X e te)(hs:swapsWith e none pos.line X.env=pure false:=by rfl):PS X (.Expr e pos) (AgW te):=by
 intro pins s σ H D I h
 exact wpAny_Expr_any (thn (he pins s σ H _ I h) fun v s1 ⟨x,H1,I1,r1,q1⟩=>⟨σ,H1,I1,q1⟩) I.quiet hs
def AiJ (te:TE):TS:=fun D σ H=>te σ H D.rt
theorem Aw(he:PE X e te):PS X (.Return (some e) pos) (AiJ te):=by
 intro pins s σ H D I h
 exact wpAny_Return_some (thn (he pins s σ H _ I h) fun v s1 ⟨x,H1,I1,r1,q1⟩=>⟨x,σ,H1,I1,r1,q1⟩)
def Aj9:TS:=fun D _ H=>D.rt .non H
def AiK (c:TT)(t u:TS):TS:=fun D σ H=>c σ H fun b H1=>if b=true then t D σ H1 else u D σ H1
theorem Bh{c:Expr}{a b:List Stmt}{tc:TT}(hc:PT X c tc)(ha:PSs X a t)(hb:PSs X b u):PS X (.If c a b pos) (AiK tc t u):=by
 intro pins s σ H D I h
 refine wpAny_If (thn (hc pins s σ H _ I h) fun d s1 ⟨H1,I1,q1⟩=>?_)
 cases d with
 | true=>exact ha pins s1 σ H1 D I1 q1
 | false=>exact hb pins s1 σ H1 D I1 q1
def Afj:TS:=fun _ _ _=>False
theorem Cq:PS X st Afj:=fun _ _ _ _ _ _ h=>h.elim
end
abbrev TG:=V→St→Hp→(St→Hp→Prop)→Prop
abbrev TGs:=List V→St→Hp→(St→Hp→Prop)→Prop
def PG (X:Cx)(target:Expr)(t:TG):Prop :=
 ∀(pins:List (Addr × Obj)) (s:Shared) (σ:St) (H:Hp) (v:V) (u:Value) (Q:St→Hp→Prop),Inv X pins σ H s→RelV v u→t v σ H Q →
  wpAny (model X.prog X.w) X.A (assign target X.env u) (fun _ s'=>∃ σ' H',Inv X pins σ' H' s'∧Q σ' H') X.xe s
def PGs (X:Cx)(ts:List Expr)(t:TGs):Prop :=
 ∀(pins:List (Addr × Obj)) (s:Shared) (σ:St) (H:Hp) (vs:List V) (us:List Value) (Q:St→Hp→Prop),Inv X pins σ H s→Vals vs us→t vs σ H Q →
  wpAny (model X.prog X.w) X.A (assignInOrder ((assignEach ts X.env).map (·.2)) us) (fun _ s'=>∃ σ' H',Inv X pins σ' H' s'∧Q σ' H') X.xe s
abbrev Adv:=V→V→V→Hp→(Hp→Prop)→Prop
def AgX (X:Cx)(t:Adv):Prop :=
 ∀(pins:List (Addr × Obj)) (s:Shared) (σ:St) (H:Hp) (o i v:V) (ov iv u:Value) (Q:Hp→Prop),Inv X pins σ H s→RelV o ov→RelV i iv→RelV v u→t o i v H Q →
  wpAny (model X.prog X.w) X.A (setItem ov iv u) (fun _ s'=>∃ H',Inv X pins σ H' s'∧Q H') X.xe s
abbrev TIp:=V→V→Hp→VK→Prop
def PIp (X:Cx)(op:Operator)(t:TIp):Prop :=
 ∀(pins:List (Addr × Obj)) (s:Shared) (σ:St) (H:Hp) (x y:V) (v u:Value) (Q:VK),Inv X pins σ H s→RelV x v→RelV y u→t x y H Q →
  wpAny (model X.prog X.w) X.A (inplaceOp op v u) (EP X pins σ Q) X.xe s
section
variable {X:Cx}{pos:Pos}
def M5 (i:Nat):TG:=fun v σ H Q=>Q (σ.set i (some v)) H
theorem Ba{i:Nat}{x:Str}(hN:X.N.Nodup)(hi:X.N[i]?=some x)(hx:Loc X.env.scope x)(hf:X.fn x=true∨X.env.scope.names.lookup x=some .local:=by first | exact .inl rfl | exact .inr rfl | assumption):PG X (.Name x pos) (M5 i):=by
 intro pins s σ H v u Q I r h
 exact wpAny_assign_Name (RD I hN hi hx r (fun s' I'=>⟨_,H,I',h⟩) hf)
def AgY:TGs:=fun vs σ H Q=>vs=[]∧Q σ H
def AbH (t:TG)(u:TGs):TGs:=fun vs σ H Q=>∃ v r,vs=v::r∧t v σ H fun σ' H'=>u r σ' H' Q
theorem Vx:PGs X [] AgY:=by
 intro pins s σ H vs us Q I r h
 obtain⟨e,h⟩:=h
 subst e
 cases r
 exact assignInOrder_nil ⟨σ,H,I,h⟩
theorem J1{e:Expr}{es:List Expr}{t:TG}{u:TGs}(h1:PG X e t)(h2:PGs X es u)
  (hs:(assignEach (e::es) X.env).map (·.2)=assign e X.env::(assignEach es X.env).map (·.2):=by rfl):PGs X (e::es) (AbH t u):=by
 intro pins s σ H vs us Q I r h
 obtain⟨v,vr,e1,h⟩:=h
 subst e1
 cases r with
 | cons r rr =>
  rw[hs]
  refine assignInOrder_cons (thn (h1 pins s σ H _ _ _ I r h) fun _ s1 ⟨σ1,H1,I1,q1⟩=>?_)
  exact h2 pins s1 σ1 H1 _ _ Q I1 rr q1
def AgZ (K:PySem.W.Frag)(n:Nat)(t:TGs):TG:=fun v σ H Q=>∃ a xs,v=.ref a∧SqT K H a xs∧xs.length=n∧t xs σ H Q
theorem YZ{es:List Expr}{k:Nat}{t:TGs}{n:Nat}(hc:X.calm=true)(h:PGs X es t)
  (hn:(assignEach es X.env).length=n:=by rfl) (hst:(assignEach es X.env).findIdx? (·.1)=none:=by rfl):PG X (.Tuple es k pos) (AgZ X.K n t):=by
 intro pins s σ H v u Q I r hw
 obtain⟨a,xs,e1,hq,hl,hw⟩:=hw
 subst e1
 cases r
 obtain⟨its,rv,ht,hz⟩:=I.tuple hq
 refine assign_Tuple_tuple (I.ok.hd hc) ht (by simp[hn,← hl,rv.length]) hst fun h' hx=>?_
 have I1:Inv X pins σ H { s with heap:=h' }:=I.kept (t':=s.toks) fun b o e=>hx b o (AkK (Heap.lt_size e)) e
 exact h pins _ σ H xs _ Q I1 (by simpa using rv) hw
def AiL (to ti:TE)(t:Adv):TG:=fun v σ H Q=>to σ H fun o H1=>ti σ H1 fun i H2=>t o i v H2 fun H3=>Q σ H3
theorem Za{o i:Expr}{to ti:TE}{t:Adv}(ho:PE X o to)(hi:PE X i ti)(hs:AgX X t)
  (ha:∀ v,assign (.Subscript o i pos) X.env v=(do
   let ov ← holding [v] (eval o X.env)
   let iv ← holding [v,ov] (eval i X.env)
   standAt pos
   holding [v,ov,iv] (setItem ov iv v)
   release [v,ov,iv] []):=by intro _;rfl):PG X (.Subscript o i pos) (AiL to ti t):=by
 intro pins s σ H v u Q I r h
 rw[ha]
 refine wpAny_bind (wpAny_holding (thn (ho pins s σ H _ I h) fun ov s1 ⟨x,H1,I1,r1,q1⟩=>?_))
 refine wpAny_bind (wpAny_holding (thn (hi pins s1 σ H1 _ I1 q1) fun iv s2 ⟨y,H2,I2,r2,q2⟩=>?_))
 refine wpAny_bind (wpAny_standAt (wpAny_bind (wpAny_holding (thn (hs pins s2 σ H2 x y v ov iv u _ I2 r1 r2 r q2) fun _ s3 ⟨H3,I3,q3⟩=>?_))))
 exact wpAny_release ⟨σ,H3,I3,q3⟩
def Adw (te:TE)(g:TG):TS:=fun D σ H=>te σ H fun x H1=>g x σ H1 D.nx
theorem Vy{tg e:Expr}{te:TE}{g:TG}(he:PE X e te)(hg:PG X tg g)(hs:swapsWithSole [tg] e pos.line X.env=pure false:=by rfl)(hw:swappedStores [tg] e X.env=pure none:=by rfl)
  (h1:(assignEach [tg] X.env).map (·.2)=[assign tg X.env]:=by rfl):PS X (.Assign [tg] e pos) (Adw te g):=by
 intro pins s σ H D I h
 refine wpAny_Assign_stores (thn (he pins s σ H _ I h) fun v s1 ⟨x,H1,I1,r1,q1⟩=>?_) hs hw
 rw[h1]
 exact thn (hg pins s1 σ H1 x v _ I1 r1 q1) fun _ s2 q=>q
theorem Al{i:Nat}{x:Str}{e:Expr}{te:TE}{pos':Pos}(hN:X.N.Nodup)(hi:X.N[i]?=some x)(hx:Loc X.env.scope x)(he:PE X e te)(hs:swapsWith e (some (.Name x pos')) pos.line X.env=pure false:=by rfl)(hf:X.fn x=true∨X.env.scope.names.lookup x=some .local:=by first | exact .inl rfl | exact .inr rfl | assumption) :
  PS X (.Assign [.Name x pos'] e pos) (Adw te (M5 i)):=by
 intro pins s σ H D I h
 refine wpAny_Assign_Name (thn (he pins s σ H _ I h) fun v s1 ⟨y,H1,I1,r1,q1⟩=>?_) hs
 exact RD I1 hN hi hx r1 (fun s2 I2=>⟨_,H1,I2,q1⟩) hf
def Akb (i j:Nat)(ta:TA):TS:=fun D σ H=>ta σ H fun vs H1=>∃ v w,vs=[v,w]∧D.nx ((σ.set i (some v)).set j (some w)) H1
def AiM (i:Nat)(te:TE)(ti:TIp):TS:=fun D σ H=>∃ x,σ[i]?=some (some x)∧te σ H fun y H1=>ti x y H1 fun z H2=>D.nx (σ.set i (some z)) H2
theorem AbI{i:Nat}{x:Str}{e:Expr}{te:TE}{op:Operator}{ti:TIp}{pos':Pos}(hN:X.N.Nodup)(hi:X.N[i]?=some x)(hx:Loc X.env.scope x)(he:PE X e te)(ho:PIp X op ti)(hf:X.fn x=true∨X.env.scope.names.lookup x=some .local:=by first | exact .inl rfl | exact .inr rfl | assumption) :
  PS X (.AugAssign (.Name x pos') op e pos) (AiM i te ti):=by
 intro pins s σ H D I h
 obtain⟨v,e1,h⟩:=h
 obtain⟨m,hn,hl⟩:=I.loc
 have vis:Vis X.env.scope x:=by rcases hx with k | k;exact .inl k;exact .inr (.inl k)
 obtain⟨u,r,l⟩:=hl i x v hi e1 vis
 refine wpAny_AugAssign_Name ?_
 have go:wpAny (model X.prog X.w) X.A (eval e X.env) (fun w s₂=>wpAny (model X.prog X.w) X.A (inplaceOp op u w) (fun r s₃=>wpAny (model X.prog X.w) X.A (storeName X.env x r) (fun _=>SP X pins D .next) X.xe s₃) X.xe s₂) X.xe s:=by
  refine thn (he pins s σ H _ I h) fun w s1 ⟨y,H1,I1,r1,q1⟩=>?_
  refine thn (ho pins s1 σ H1 v y u w _ I1 r r1 q1) fun z s2 ⟨zv,H2,I2,r2,q2⟩=>?_
  exact RD I2 hN hi hx r2 (fun s3 I3=>⟨_,H2,I3,q2⟩) hf
 rcases l with ⟨hk,hm⟩ | ⟨hk,c,hc,hcell⟩
 ·exact wpAny_loadName_local I.ok.kind hk hn hm go
 ·rcases hk with hk | hk
  ·exact wpAny_loadName_cell I.ok.kind hk hc hcell go
  ·rcases hx with k | k
   ·have:X.env.scope.names.lookup x=some .free:=hk
    rw[k] at this;cases this
   ·have:X.env.scope.names.lookup x=some .free:=hk
    rw[k] at this;cases this
def AjA (to ti te:TE)(AiN:V→V→Hp→VK→Prop)(tip:TIp)(AiO:Adv):TS:=fun D σ H=>to σ H fun o H1=>ti σ H1 fun i H2=>AiN o i H2 fun x H3=>te σ H3 fun y H4=>tip x y H4 fun z H5=>AiO o i z H5 fun H6=>D.nx σ H6
def Akc (X:Cx)(t:V→V→Hp→VK→Prop):Prop :=
 ∀(pins:List (Addr × Obj)) (s:Shared) (σ:St) (H:Hp) (o i:V) (ov iv:Value) (Q:VK),Inv X pins σ H s→RelV o ov→RelV i iv→t o i H Q →
  wpAny (model X.prog X.w) X.A (getItem ov iv) (EP X pins σ Q) X.xe s
def ipI (f:Int→Int→Int):TIp:=fun x y H Q=>∃ i j,x=.int i∧y=.int j∧Q (.int (f i j)) H
theorem AbJ:PIp X .Add (ipI fun i j=>i+j):=by
 intro pins s σ H x y v u Q I r1 r2 h
 obtain⟨i,j,e1,e2,q⟩:=h
 subst e1;subst e2
 obtain⟨t,rfl⟩:=r1
 obtain⟨t',rfl⟩:=r2
 exact iadd_int ⟨.int _,H,I.tok _,⟨_,rfl⟩,q⟩
end
section
variable {X:Cx}{pos:Pos}
def Afk (c:TT)(tb:TS):TS:=fun D σ H=>∃ W:Nat→St→Hp→Prop,(∃ m,W m σ H)∧∀ m σ H,W m σ H →
 c σ H fun b H1=>if b=true then ∃ N:St→Hp→Prop,(∀ σ' H',N σ' H'→∃ m',m'<m∧W m' σ' H')∧tb { D with nx:=N,ct:=N,bk:=D.nx } σ H1 else D.nx σ H1
theorem RJ{c:Expr}{body:List Stmt}{tc:TT}{tb:TS}(hp:PassesOwn (model X.prog X.w) X.A X.env X.xe)(hc:PT X c tc)(hb:PSs X body tb):PS X (.While c body [] pos) (Afk tc tb):=by
 intro pins s σ H D I h
 obtain⟨W,⟨m0,w0⟩,turn⟩:=h
 refine wpAny_While (codeAny_whileLoop (fun n s'=>∃ σ' H',Inv X pins σ' H' s'∧W n σ' H') ?_ m0 ⟨σ,H,I,w0⟩)
 rintro n s1 ⟨σ1,H1,I1,w1⟩
 refine wpAny_passesOwn hp (thn (hc pins s1 σ1 H1 _ I1 (turn n σ1 H1 w1)) fun b s2 ⟨H2,I2,q2⟩=>?_)
 cases b with
 | true =>
  obtain⟨N,hN,q2⟩:=q2
  rw[if_pos rfl]
  refine wpAny_passesOwn hp (thn (hb pins s2 σ1 H2 _ I2 q2) fun f s3 q3=>?_)
  cases f with
  | next =>
   obtain⟨σ3,H3,I3,n3⟩:=q3
   obtain⟨m',hm,w3⟩:=hN σ3 H3 n3
   exact⟨m',hm,σ3,H3,I3,w3⟩
  | cont =>
   obtain⟨σ3,H3,I3,n3⟩:=q3
   obtain⟨m',hm,w3⟩:=hN σ3 H3 n3
   exact⟨m',hm,σ3,H3,I3,w3⟩
  | brk=>exact q3
  | ret v=>exact q3
 | false =>
  rw[if_neg AkW]
  exact wpAny_execs_nil ⟨σ1,H2,I2,q2⟩
end
structure It where
 go:Nat→Hp→Prop
 yld:Nat→Hp→V→Hp→Prop
 stop:Nat→Hp→Prop
def JW (X:Cx)(pins:List (Addr × Obj))(H:Hp)(b:Addr):Prop :=
 H b=none∧b≠X.env.locals∧b∉X.fs∧(b∈X.ex∨X.s₀.heap.objs.size≤b)∧(∀ x c,X.env.cells.lookup x=some c→c≠b)∧∀ p∈X.pn++pins,p.1≠b
theorem Inv.Adx{X:Cx}{pins:List (Addr × Obj)}{σ:St}{H H':Hp}{s:Shared}{b:Addr}(I:Inv X pins σ H s)(hb:s.heap.objs.size≤b)(hn:H' b=none):JW X pins H' b:=by
 refine⟨hn,Alj (AkT I.lt hb),I.AiD hb,.inr (AkZ I.sz hb),fun x c e z=>?_,fun p hp z=>?_⟩
 ·obtain⟨v,q⟩:=I.cell x c e
  exact absurd (AkT q.lt (by rw[z];exact hb)) (Alf _)
 ·exact absurd (AkT (Heap.lt_size (I.pin p hp).1) (by rw[z];exact hb)) (Alf _)
structure Turn (P:Program) (w:World) (K:PySem.W.Frag) (tg:Expr) (J:It) (fp:List Addr) (it:Addr) (tn:Nat→Heap→Prop):Prop where
 mem:it∈fp
 obj:∀ i h,tn i h→∀ b∈fp,∃ o,h.get? b=some o∧∀ v,o.data≠.cell v
 keep:∀ i h h',tn i h→(∀ b∈fp,∀ o,h.get? b=some o→h'.get? b=some o)→tn i h'
 item:∀(X:Cx),X.prog=P→X.w=w→X.K=K→X.calm=true→∀(i:Nat) (pins:List (Addr × Obj)) (s:Shared) (σ:St) (H:Hp) (E:Value→Shared→Prop),Inv X pins σ H s→(∀ b∈fp,JW X pins H b)→tn i s.heap→J.go i H →
  wpAny (model P w) X.A (pyNext (.ref it)) (fun r s1=>∃ u,r=some u ∧
   wpAny (model P w) X.A (letOwnedTupleGo tg (.ref it) u) (fun _ s2=>∃ x H',Inv X pins σ H' s2∧RelV x u∧J.yld i H x H'∧tn (i+1) s2.heap∧∀ b∈fp,H' b=none) E s1) E s
 done:∀(X:Cx),X.prog=P→X.w=w→X.K=K→X.calm=true→∀(i:Nat) (pins:List (Addr × Obj)) (s:Shared) (σ:St) (H:Hp) (E:Value→Shared→Prop),Inv X pins σ H s→(∀ b∈fp,JW X pins H b)→tn i s.heap→J.stop i H →
  wpAny (model P w) X.A (pyNext (.ref it)) (fun r s1=>r=none∧Inv X pins σ H s1) E s
 self:∀(A:Around) (i:Nat) (s:Shared) (Q:Value→Shared→Prop) (E:Value→Shared→Prop),tn i s.heap→Q (.ref it) s→wpAny (model P w) A (pyIter (.ref it)) Q E s
abbrev TI:=St→Hp→(It→Hp→Prop)→Prop
def PIE (X:Cx)(pins:List (Addr × Obj))(σ:St)(tg:Expr)(R:It→Hp→Prop)(itv:Value)(s2:Shared):Prop :=
 ∃(it:Addr) (fp:List Addr) (tn:Nat→Heap→Prop) (J:It) (H':Hp),itv=.ref it∧Inv X pins σ H' s2∧Turn X.prog X.w X.K tg J fp it tn∧tn 0 s2.heap∧(∀ b∈fp,JW X pins H' b)∧R J H'
def PI (X:Cx)(tg iter:Expr)(wi:TI):Prop :=
 ∀(pins:List (Addr × Obj)) (s:Shared) (σ:St) (H:Hp) (R:It→Hp→Prop),Inv X pins σ H s→wi σ H R →
  wpAny (model X.prog X.w) X.A (eval iter X.env) (fun v s1=>wpAny (model X.prog X.w) X.A (pyIter v) (PIE X pins σ tg R) X.xe s1) X.xe s
theorem Aab{M:Model}{A:Around}{E:Value→Shared→Prop}{s:Shared}{tg:Expr}{it:Addr}{u:Value}{o:Obj}{n:String}{vs:Array Value}{Q:Unit→Shared→Prop}(ho:s.heap.get? it=some o)(hc:o.cls=.type n)(hd:o.data=.fields vs)
    (hn:["enumerate", "zip", "dict_itemiterator", "dict_reverseitemiterator", "odict_iterator", "itertools.zip_longest", "itertools.pairwise"].contains n=false) (hQ:Q () s):wpAny M A (letOwnedTupleGo tg (.ref it) u) Q E s:=by
  unfold letOwnedTupleGo
  cases tg <;> first
    | exact wpAny_pure hQ
    | (cases u <;> first
        | exact wpAny_pure hQ
        | (refine wpAny_bind (wpAny_load ho ?_)
           rw[hc,hd]
           show wpAny M A (if (["enumerate", "zip", "dict_itemiterator", "dict_reverseitemiterator", "odict_iterator", "itertools.zip_longest", "itertools.pairwise"].contains n && vs[0]? == some (rawInt _))=true then _ else _) Q E s
           rw[if_neg (by intro h;rw[hn,Bool.false_and] at h;cases h)]
           exact wpAny_pure hQ))
def Itl (K:PySem.W.Frag)(a:Addr):It :=
 ⟨fun i H=>∃ xs x,SqL K H a xs∧xs[i]?=some x,fun i H x H'=>H'=H∧∀ xs,SqL K H a xs→xs[i]?=some x,fun i H=>∃ xs,SqL K H a xs∧xs.length≤i⟩
def Itt (K:PySem.W.Frag)(a:Addr):It :=
 ⟨fun i H=>∃ xs x,SqT K H a xs∧xs[i]?=some x,fun i H x H'=>H'=H∧∀ xs,SqT K H a xs→xs[i]?=some x,fun i H=>∃ xs,SqT K H a xs∧xs.length≤i⟩
def Itr (lo:Int)(n:Nat):It:=⟨fun i _=>i<n,fun i H x H'=>H'=H∧x=.int (lo+i),fun i _=>n≤i⟩
theorem AaN{P:Program}{w:World}{K:PySem.W.Frag}{tg:Expr}(a it:Addr):Turn P w K tg (Itl K a) [it] it (fun i h=>h.IsListIter it a i) where
 mem:=by simp
 obj:=fun i h st b hb=>by
  have e:b=it:=by simpa using hb
  subst e
  obtain⟨o,e,c,d⟩:=st
  exact⟨o,e,fun v z=>by rw[d] at z;cases z⟩
 keep:=fun i h h' st k=>st.at fun o e=>k it (by simp) o e
 item:=by
  intro X hP hw hK hc i pins s σ H E I hf st hg
  subst hP hw hK
  obtain⟨xs,x,hq,hx⟩:=hg
  obtain⟨its,rv,p,hz⟩:=I.list hq
  obtain⟨u,hu,ru⟩:=rv.get hx
  obtain⟨f0,f1,f2,f3,f4,f5⟩:=hf it (by simp)
  refine wpAny_pyNext_list_item st p.isList (x:=u) (by simpa using hu) fun h' st' sb=>?_
  have I1:Inv X pins σ H { s with heap:=h' }:=I.turned (t':=s.toks) (fun b o hb e=>(sb.2 b hb).trans e) f0 f1 f3 f4 f5
  obtain⟨o,e,c,d⟩:=id st'
  exact⟨u,rfl,Aab (s:={ s with heap:=h' }) e c d (by decide) ⟨x,H,I1,ru,⟨rfl,fun ys hy=>by rw[I.Og hy hq];exact hx⟩,st',fun b hb=>(hf b hb).1⟩⟩
 done:=by
  intro X hP hw hK hc i pins s σ H E I hf st hg
  subst hP hw hK
  obtain⟨xs,hq,hx⟩:=hg
  obtain⟨its,rv,p,hz⟩:=I.list hq
  obtain⟨f0,f1,f2,f3,f4,f5⟩:=hf it (by simp)
  have hl:=rv.length
  exact wpAny_pyNext_list_end (I.ok.hd hc) st p.isList (by simp;omega) fun h' eb=>⟨rfl,I.turned (t':=s.toks) (fun b o hb e=>eb b o hb e) f0 f1 f3 f4 f5⟩
 self:=fun _ _ _ _ _ st h=>wpAny_pyIter_listiter st h
theorem Zb{P:Program}{w:World}{K:PySem.W.Frag}{tg:Expr}(it:Addr)(lo:Int)(n:Nat):Turn P w K tg (Itr lo n) [it] it (fun i h=>IsRangeIter h it (lo+(i:Nat)*1) ((n:Int)-(i:Nat)) 1) where
 mem:=by simp
 obj:=fun i h st b hb=>by
  have e:b=it:=by simpa using hb
  subst e
  exact⟨_,st,fun v z=>by
   have z':Data.fields _=Data.cell v:=z
   cases z'⟩
 keep:=fun i h h' st k=>k it (by simp) _ st
 item:=by
  intro X hP hw hK hc i pins s σ H E I hf st hg
  subst hP hw hK
  obtain⟨f0,f1,f2,f3,f4,f5⟩:=hf it (by simp)
  have W:=Walks.range (prog:=X.prog) (w:=X.w) (I.ok.hd hc) it lo 1 n
  refine W.item i s _ _ hg st fun v h' tk hv st' kk=>?_
  obtain⟨t,rfl⟩:=hv
  have I1:Inv X pins σ H { s with heap:=h',toks:=tk }:=I.turned (fun b o hb e=>kk b o (by simpa using hb) e) f0 f1 f3 f4 f5
  refine⟨_,rfl,Aab (s:={ s with heap:=h',toks:=tk }) (n := "range_iterator") st' rfl rfl (by decide) ⟨.int (lo+i),H,I1,⟨t,?_⟩,⟨rfl,rfl⟩,st',fun b hb=>(hf b hb).1⟩⟩
  rw[Int.mul_one]
 done:=by
  intro X hP hw hK hc i pins s σ H E I hf st hg
  subst hP hw hK
  obtain⟨f0,f1,f2,f3,f4,f5⟩:=hf it (by simp)
  exact wpAny_pyNext_range_end (I.ok.hd hc) st (by have:n≤i:=hg;omega) fun h' eb=>⟨rfl,I.turned (t':=s.toks) (fun b o hb e=>eb b o hb e) f0 f1 f3 f4 f5⟩
 self:=fun _ _ _ _ _ st h=>wpAny_pyIter_rangeiter st h
open PySem PySem.Spec PyProof.Rows
section
variable {X:Cx}{tg:Expr}
def Ae9 (K:PySem.W.Frag)(tl:TE):TI:=fun σ H R=>tl σ H fun x H1=>∃ a,x=.ref a∧(∃ xs,SqL K H1 a xs)∧R (Itl K a) H1
def Akd (K:PySem.W.Frag)(tl:TE):TI:=fun σ H R=>tl σ H fun x H1=>∃ a,x=.ref a∧(∃ xs,SqT K H1 a xs)∧R (Itt K a) H1
theorem Ady{l:Expr}{tl:TE}(hl:PE X l tl):PI X tg l (Ae9 X.K tl):=by
 intro pins s σ H R I h
 refine thn (hl pins s σ H _ I h) fun v s1 ⟨x,H1,I1,r1,q1⟩=>?_
 obtain⟨a,e,⟨xs,hq⟩,q⟩:=q1
 subst e
 cases r1
 obtain⟨its,rv,p,hz⟩:=I1.list hq
 refine wpAny_pyIter_list p.isList ?_
 refine⟨s1.heap.objs.size,[s1.heap.objs.size],_,_,H1,rfl,I1.kept (t':=s1.toks) fun b o e=>Heap.get?_push_of_some _ e,AaN a _,⟨_,Heap.get?_push_size _ rfl,rfl,rfl⟩,fun b hb=>?_,q⟩
 have e:b=s1.heap.objs.size:=by simpa using hb
 subst e
 exact I1.Adx (AkF _) (I1.hok.fresh (AkF _))
theorem AbK{pins:List (Addr × Obj)}{σ:St}{H:Hp}{s:Shared}{R:It→Hp→Prop}{E:Value→Shared→Prop}{lo hi:Int}{t u v:Tok}{tk:Nat}(I:Inv X pins σ H s)(h1 : -(2 ^ 62)≤lo)(h2:lo<2 ^ 62)(h3 : -(2 ^ 62)≤hi)(h4:hi<2 ^ 62)
  (q:R (Itr lo (hi-lo).toNat) H):wpAny (model X.prog X.w) X.A (pyIter (.ref s.heap.objs.size)) (PIE X pins σ tg R) E { s with heap:=s.heap.push { cls:=.type "range", data:=.fields #[.int lo t,.int hi u,.int 1 v] },toks:=tk }:=by
 refine wpAny_pyIter_range (IsRange.new ..) (small_one h1 h2 h3 h4) ?_
 have I1:Inv X pins σ H { s with heap:=s.heap.push { cls:=.type "range", data:=.fields #[.int lo t,.int hi u,.int 1 v] },toks:=tk }:=I.kept fun b o e=>Heap.get?_push_of_some _ e
 refine⟨(s.heap.push { cls:=.type "range", data:=.fields #[.int lo t,.int hi u,.int 1 v] }).objs.size,[(s.heap.push { cls:=.type "range", data:=.fields #[.int lo t,.int hi u,.int 1 v] }).objs.size],_,_,H,rfl,
  I1.kept (t':=tk) fun b o e=>Heap.get?_push_of_some _ e,Zb _ lo (hi-lo).toNat,?_,fun b hb=>?_,q⟩
 ·have e1:lo+((0:Nat):Int)*1=lo:=by simp
  have e2:(((hi-lo).toNat:Nat):Int)-((0:Nat):Int)=Builtin.Range.rangeSize lo hi 1:=by rw[rangeSize_one];split <;> omega
  show IsRangeIter _ _ (lo+((0:Nat):Int)*1) ((((hi-lo).toNat:Nat):Int)-((0:Nat):Int)) 1
  rw[e1,e2]
  exact Heap.get?_push_size _ rfl
 ·have e:b=(s.heap.push { cls:=.type "range", data:=.fields #[.int lo t,.int hi u,.int 1 v] }).objs.size:=by simpa using hb
  subst e
  exact I1.Adx (AkF _) (I1.hok.fresh (AkF _))
def Aha (ta:TA):TI:=fun σ H R=>ta σ H fun vs H1=>∃ j:Int,vs=[.int j] ∧ -(2 ^ 62)≤j∧j<2 ^ 62∧R (Itr 0 j.toNat) H1
def AjB (ta:TA):TI:=fun σ H R=>ta σ H fun vs H1=>∃ i j:Int,vs=[.int i,.int j]∧(-(2 ^ 62)≤i∧i<2 ^ 62 ∧ -(2 ^ 62)≤j∧j<2 ^ 62)∧R (Itr i (j-i).toNat) H1
theorem Be{a:Expr}{ta:TA}{p pos:Pos}(hg:Gl X "range") (hm:X.mg "range" = none) (ha:PA X [a] ta) (hs:starEach [a] X.env=[(false,eval a X.env)]:=by rfl):PI X tg (.Call (.Name "range" p) [a] [] pos) (Aha ta):=by
 intro pins s σ H R I h
 refine Call_ (HR I hg hm boot_range (PyProof.Rows.callWith_type1 (thn (ha pos pins s σ H _ I h) fun us s1 ⟨vs,H1,I1,r1,q1⟩=>?_) hs rfl))
 obtain⟨j,e,q1,q2,q⟩:=q1
 subst e
 cases r1 with
 | cons r rr =>
  cases rr
  obtain⟨t,rfl⟩:=r
  exact call_range_1 (AbK I1 (by omega) (by omega) q1 q2 (by simpa using q))
def AiP (wi:TI)(g:TG)(tb:TS):TS:=fun D σ H=>wi σ H fun J H1=>∃ W:Nat→Nat→St→Hp→Prop,(∃ m,W 0 m σ H1)∧∀ i m σ H,W i m σ H →
 (J.stop i H∧D.nx σ H)∨(J.go i H∧∃ N:St→Hp→Prop,(∀ σ' H',N σ' H'→∃ m',m'<m∧W (i+1) m' σ' H')∧∀ x H',J.yld i H x H'→g x σ H' fun σ2 H2=>tb { D with nx:=N,ct:=N,bk:=D.nx } σ2 H2)
def Qj (fp:List Addr)(h:Heap):List (Addr × Obj):=fp.filterMap fun b=>(h.get? b).map fun o=>(b,o)
theorem G8{fp:List Addr}{h:Heap}{b:Addr}{o:Obj}(hb:b∈fp)(e:h.get? b=some o):(b,o)∈Qj fp h:=List.mem_filterMap.mpr ⟨b,hb,by rw[e];rfl⟩
theorem AaO{fp:List Addr}{h:Heap}{p:Addr × Obj}(hp:p∈Qj fp h):p.1∈fp∧h.get? p.1=some p.2:=by
 obtain⟨b,hb,e⟩:=List.mem_filterMap.mp hp
 cases q:h.get? b with
 | none=>rw[q] at e;cases e
 | some o =>
  rw[q] at e
  have e':(b,o)=p:=Option.some.inj e
  subst e'
  exact⟨hb,q⟩
theorem Inv.pinned{pins:List (Addr × Obj)}{σ:St}{H:Hp}{s:Shared}{fp:List Addr}(I:Inv X pins σ H s)(hf:∀ b∈fp,JW X pins H b)(ho:∀ b∈fp,∃ o,s.heap.get? b=some o∧∀ v,o.data≠.cell v):Inv X (pins++Qj fp s.heap) σ H s :=
 I.IV fun p hp=>(List.mem_append.mp hp).elim (fun z=>I.pin p (Ald _ z)) fun z=>by
  obtain⟨hb,e⟩:=AaO z
  obtain⟨f0,f1,f2,_⟩:=hf p.1 hb
  obtain⟨o,e',d⟩:=ho p.1 hb
  rw[e] at e';cases e'
  exact⟨e,f0,f1,f2,d⟩
theorem Inv.RK{pins pl:List (Addr × Obj)}{σ:St}{H:Hp}{s:Shared}(I:Inv X (pins++pl) σ H s):Inv X pins σ H s:=I.IV fun p hp=>I.pin p (Ald _ (Al8 _ hp))
theorem Bo{iter:Expr}{body:List Stmt}{wi:TI}{g:TG}{tb:TS}{pos:Pos}(hp:PassesOwn (model X.prog X.w) X.A X.env X.xe)(hc:X.calm=true)(hi:PI X tg iter wi)(hg:PG X tg g)(hb:PSs X body tb)
  (hs:∀ x,foldedSetIterable iter X.env x=pure x:=by intro _;rfl):PS X (.For tg iter body [] pos) (AiP wi g tb):=by
 intro pins s σ H D I h
 refine wpAny_For (thn (hi pins s σ H _ I h) fun v s1 h1=>thn h1 fun itv s2 h2=>?_) hs
 obtain⟨it,fp,tn,J,H2,e,I2,T,st2,f2,W,⟨m0,w0⟩,turn⟩:=h2
 subst e
 have stat:∀{H':Hp},(∀ b∈fp,H' b=none)→∀ b∈fp,JW X pins H' b:=fun hn b hb=>⟨hn b hb,(f2 b hb).2⟩
 refine codeAny_forLoop_any (fun n s'=>∃ i σ' H',Inv X pins σ' H' s'∧tn i s'.heap∧(∀ b∈fp,H' b=none)∧W i n σ' H') ?_ m0 ⟨0,σ,H2,I2,st2,fun b hb=>(f2 b hb).1,w0⟩
 rintro n s3 ⟨i,σ3,H3,I3,st3,fr3,w3⟩
 rcases turn i n σ3 H3 w3 with ⟨stop,qn⟩ | ⟨go,N,hN,step⟩
 ·refine wpAny_passesOwn hp (thn (T.done X rfl rfl rfl hc i pins s3 σ3 H3 X.xe I3 (stat fr3) st3 stop) fun r s4 ⟨hr,I4⟩=>?_)
  subst hr
  exact wpAny_execs_nil ⟨σ3,H3,I4,qn⟩
 ·refine wpAny_passesOwn hp (thn (T.item X rfl rfl rfl hc i pins s3 σ3 H3 X.xe I3 (stat fr3) st3 go) fun r s4 ⟨u,hr,h4⟩=>?_)
  subst hr
  refine wpAny_passesOwn hp (thn h4 fun _ s5 ⟨x,H5,I5,r5,y5,st5,fr5⟩=>?_)
  have I5':=I5.pinned (stat fr5) (T.obj _ _ st5)
  refine wpAny_passesOwn hp (thn (hg _ s5 σ3 H5 x u _ I5' r5 (step x H5 y5)) fun _ s6 ⟨σ6,H6,I6,q6⟩=>?_)
  refine wpAny_passesOwn hp (thn (hb _ s6 σ6 H6 _ I6 q6) fun f s7 q7=>?_)
  have again:∀{σ7:St} {H7:Hp},Inv X (pins++Qj fp s5.heap) σ7 H7 s7→N σ7 H7→∃ m,m<n∧∃ i σ' H',Inv X pins σ' H' s7∧tn i s7.heap∧(∀ b∈fp,H' b=none)∧W i m σ' H':=fun {σ7 H7} I7 n7=>by
   obtain⟨m',hm,w7⟩:=hN σ7 H7 n7
   refine⟨m',hm,i+1,σ7,H7,I7.RK,T.keep _ _ _ st5 fun b hb o e=>(I7.pin (b,o) (Ald _ (Ald _ (G8 hb e)))).1,fun b hb=>?_,w7⟩
   obtain⟨o,e,d⟩:=T.obj _ _ st5 b hb
   exact(I7.pin (b,o) (Ald _ (Ald _ (G8 hb e)))).2.1
  cases f with
  | next=>obtain⟨σ7,H7,I7,n7⟩:=q7;exact again I7 n7
  | cont=>obtain⟨σ7,H7,I7,n7⟩:=q7;exact again I7 n7
  | brk=>obtain⟨σ7,H7,I7,q7⟩:=q7;exact⟨σ7,H7,I7.RK,q7⟩
  | ret v=>obtain⟨x7,σ7,H7,I7,r7,q7⟩:=q7;exact⟨x7,σ7,H7,I7.RK,r7,q7⟩
end
theorem Cr{K:PySem.W.Frag}{a:Addr}{xs:List V}{g:TG}{tb:TS}{D:Ends}{σ:St}{H:Hp}(Pv:Nat→St→Hp→Prop)(h0:Pv 0 σ H)(hl:∀ i σ H,i≤xs.length→Pv i σ H→SqL K H a xs)
  (hs:∀ i x σ H,xs[i]?=some x→Pv i σ H→g x σ H fun σ2 H2=>tb { D with nx:=Pv (i+1),ct:=Pv (i+1),bk:=D.nx } σ2 H2) (hd:∀ σ H,Pv xs.length σ H→D.nx σ H) :
  ∃ W:Nat→Nat→St→Hp→Prop,(∃ m,W 0 m σ H)∧∀ i m σ H,W i m σ H →
   ((Itl K a).stop i H∧D.nx σ H)∨((Itl K a).go i H∧∃ N:St→Hp→Prop,(∀ σ' H',N σ' H'→∃ m',m'<m∧W (i+1) m' σ' H')∧∀ x H',(Itl K a).yld i H x H'→g x σ H' fun σ2 H2=>tb { D with nx:=N,ct:=N,bk:=D.nx } σ2 H2):=by
 refine⟨fun i m σ H=>m=xs.length-i∧i≤xs.length∧Pv i σ H,⟨xs.length,by simp,AkP _,h0⟩,?_⟩
 rintro i m σ H ⟨rfl,hi,p⟩
 have q:=hl i σ H hi p
 by_cases hlt:i<xs.length
 ·refine .inr ⟨⟨xs,xs[i],q,by simp[hlt]⟩,Pv (i+1),fun σ' H' p'=>⟨xs.length-(i+1),by omega,rfl,hlt,p'⟩,fun x H' y=>?_⟩
  obtain⟨e,y⟩:=y
  subst e
  exact hs i x σ _ (y xs q) p
 ·have e:i=xs.length:=by omega
  subst e
  exact .inl ⟨⟨xs,q,AkF _⟩,hd σ H p⟩
theorem Bp{lo:Int}{n:Nat}{g:TG}{tb:TS}{D:Ends}{σ:St}{H:Hp}(Pv:Nat→St→Hp→Prop)(h0:Pv 0 σ H)
  (hs:∀ i σ H,i<n→Pv i σ H→g (.int (lo+i)) σ H fun σ2 H2=>tb { D with nx:=Pv (i+1),ct:=Pv (i+1),bk:=D.nx } σ2 H2) (hd:∀ σ H,Pv n σ H→D.nx σ H) :
  ∃ W:Nat→Nat→St→Hp→Prop,(∃ m,W 0 m σ H)∧∀ i m σ H,W i m σ H →
   ((Itr lo n).stop i H∧D.nx σ H)∨((Itr lo n).go i H∧∃ N:St→Hp→Prop,(∀ σ' H',N σ' H'→∃ m',m'<m∧W (i+1) m' σ' H')∧∀ x H',(Itr lo n).yld i H x H'→g x σ H' fun σ2 H2=>tb { D with nx:=N,ct:=N,bk:=D.nx } σ2 H2):=by
 refine⟨fun i m σ H=>m=n-i∧i≤n∧Pv i σ H,⟨n,by simp,AkP _,h0⟩,?_⟩
 rintro i m σ H ⟨rfl,hi,p⟩
 by_cases hlt:i<n
 ·refine .inr ⟨hlt,Pv (i+1),fun σ' H' p'=>⟨n-(i+1),by omega,rfl,hlt,p'⟩,fun x H' y=>?_⟩
  obtain⟨e,y⟩:=y
  subst e y
  exact hs i σ _ hlt p
 ·have e:i=n:=by omega
  subst e
  exact .inl ⟨AkF _,hd σ H p⟩
open PySem PySem.Spec PyProof.Rows
abbrev R2:=V→V→Hp→VK→Prop
def OpR (X:Cx)(f:Value→Value→Sem Value)(r:R2):Prop :=
 ∀(pins:List (Addr × Obj)) (s:Shared) (σ:St) (H:Hp) (x y:V) (v u:Value) (Q:VK),Inv X pins σ H s→RelV x v→RelV y u→r x y H Q →
  wpAny (model X.prog X.w) X.A (f v u) (EP X pins σ Q) X.xe s
def UnR (X:Cx)(f:Value→Sem Value)(r:V→Hp→VK→Prop):Prop :=
 ∀(pins:List (Addr × Obj)) (s:Shared) (σ:St) (H:Hp) (x:V) (v:Value) (Q:VK),Inv X pins σ H s→RelV x v→r x H Q →
  wpAny (model X.prog X.w) X.A (f v) (EP X pins σ Q) X.xe s
def HD (X:Cx)(f:Value)(r:List V→Hp→VK→Prop):Prop :=
 ∀(pins:List (Addr × Obj)) (s:Shared) (σ:St) (H:Hp) (xs:List V) (us:List Value) (Q:VK),Inv X pins σ H s→Vals xs us→r xs H Q →
  wpAny (model X.prog X.w) X.A (call f us) (EP X pins σ Q) X.xe s
def Ake (X:Cx)(r:V→Hp→(Bool→Hp→Prop)→Prop):Prop :=
 ∀(pins:List (Addr × Obj)) (s:Shared) (σ:St) (H:Hp) (x:V) (v:Value) (Q:Bool→Hp→Prop),Inv X pins σ H s→RelV x v→r x H Q →
  wpAny (model X.prog X.w) X.A (truthy v) (TP X pins σ Q) X.xe s
def tOp (r:R2)(ta tb:TE):TE:=fun σ H Q=>ta σ H fun x H1=>tb σ H1 fun y H2=>r x y H2 Q
def tUn (r:V→Hp→VK→Prop)(ta:TE):TE:=fun σ H Q=>ta σ H fun x H1=>r x H1 Q
def rI (C:Int→Int→Prop)(g:Int→Int→V):R2:=fun x y H Q=>∃ i j,x=.int i∧y=.int j∧C i j∧Q (g i j) H
def rI0 (g:Int→Int→V):R2:=fun x y H Q=>∃ i j,x=.int i∧y=.int j∧Q (g i j) H
def rU (g:Int→V):V→Hp→VK→Prop:=fun x H Q=>∃ i,x=.int i∧Q (g i) H
section
variable {X:Cx}{a b c:Expr}{ta tb tc:TE}{pos:Pos}
theorem Afl(ha:PE X a ta)(hb:PE X b tb){pins:List (Addr × Obj)}{s:Shared}{σ:St}{H:Hp}{R:V→V→Hp→Prop}(I:Inv X pins σ H s)
  (h:ta σ H fun x H1=>tb σ H1 fun y H2=>R x y H2) {Q:Value→Shared→Prop} {f:Value→Value→Sem Value}
  (hf:∀ v u s2 x y H2,Inv X pins σ H2 s2→RelV x v→RelV y u→R x y H2→wpAny (model X.prog X.w) X.A (f v u) Q X.xe s2) :
  wpAny (model X.prog X.w) X.A (eval a X.env) (fun v s₁=>wpAny (model X.prog X.w) X.A (eval b X.env) (fun u s₂=>wpAny (model X.prog X.w) X.A (f v u) Q X.xe s₂) X.xe s₁) X.xe s:=by
 refine thn (ha pins s σ H _ I h) fun v s1 ⟨x,H1,I1,r1,q1⟩=>?_
 refine thn (hb pins s1 σ H1 _ I1 q1) fun u s2 ⟨y,H2,I2,r2,q2⟩=>?_
 exact hf v u s2 x y H2 I2 r1 r2 q2
theorem Az{op:Operator}{r:R2}(ho:OpR X (binaryOp op) r)(ha:PE X a ta)(hb:PE X b tb):PE X (.BinOp a op b pos) (tOp r ta tb):=by
 intro pins s σ H Q I h
 exact wpAny_BinOp (Afl ha hb I h fun v u s2 x y H2 I2 rx ry q=>ho pins s2 σ H2 x y v u Q I2 rx ry q)
theorem Xn{op:UnaryOp}{r:V→Hp→VK→Prop}(ho:UnR X (unaryOp op) r)(ha:PE X a ta):PE X (.UnaryOp op a pos) (tUn r ta):=by
 intro pins s σ H Q I h
 exact UnaryOp_ (thn (ha pins s σ H _ I h) fun v s1 ⟨x,H1,I1,r1,q1⟩=>ho pins s1 σ H1 x v Q I1 r1 q1)
theorem opI{f:Value→Value→Sem Value}{C:Int→Int→Prop}{g:Int→Int→Int}
  (rule:∀(i j:Int) (t u:Tok) (s:Shared) (Q:Value→Shared→Prop) (E:Value→Shared→Prop),C i j→Q (.int (g i j) s.toks) { s with toks:=s.toks+1 }→wpAny (model X.prog X.w) X.A (f (.int i t) (.int j u)) Q E s) :
  OpR X f (rI C fun i j=>.int (g i j)):=by
 intro pins s σ H x y v u Q I rx ry h
 obtain⟨i,j,rfl,rfl,hc,q⟩:=h
 obtain⟨t,rfl⟩:=rx
 obtain⟨t',rfl⟩:=ry
 exact rule i j t t' s _ _ hc ⟨.int (g i j),H,I.tok _,⟨_,rfl⟩,q⟩
theorem Ahb{f:Value→Value→Sem Value}{g:Int→Int→Int}
  (rule:∀(i j:Int) (t u:Tok) (s:Shared) (Q:Value→Shared→Prop) (E:Value→Shared→Prop),Q (.int (g i j) s.toks) { s with toks:=s.toks+1 }→wpAny (model X.prog X.w) X.A (f (.int i t) (.int j u)) Q E s) :
  OpR X f (rI0 fun i j=>.int (g i j)):=by
 intro pins s σ H x y v u Q I rx ry h
 obtain⟨i,j,rfl,rfl,q⟩:=h
 obtain⟨t,rfl⟩:=rx
 obtain⟨t',rfl⟩:=ry
 exact rule i j t t' s _ _ ⟨.int (g i j),H,I.tok _,⟨_,rfl⟩,q⟩
theorem Adz{f:Value→Value→Sem Value}{g:Int→Int→Bool}
  (rule:∀(i j:Int) (t u:Tok) (s:Shared) (Q:Value→Shared→Prop) (E:Value→Shared→Prop),Q (.bool (g i j)) s→wpAny (model X.prog X.w) X.A (f (.int i t) (.int j u)) Q E s) :
  OpR X f (rI0 fun i j=>.bl (g i j)):=by
 intro pins s σ H x y v u Q I rx ry h
 obtain⟨i,j,rfl,rfl,q⟩:=h
 obtain⟨t,rfl⟩:=rx
 obtain⟨t',rfl⟩:=ry
 exact rule i j t t' s _ _ ⟨.bl (g i j),H,I,rfl,q⟩
def AiQ (i j:Int):Prop:=0<j∧j<1073741824
def AjC (i j:Int):Prop:=j≠0∧j.natAbs<1073741824
def Akf (i j:Int):Prop:=0≤j∧j≤1000000∧i.natAbs<2 ^ 64
def Afm (i j:Int):Prop:=(-(2 ^ 64)<i∧i<2 ^ 64)∨(-(2 ^ 64)<j∧j<2 ^ 64)
theorem Afm.ok{i j:Int}(h:Afm i j):IntMulOk i j:=by
 rcases h with ⟨h1,h2⟩ | ⟨h1,h2⟩
 ·exact .of_left (intBits_le_64 h1 h2)
 ·exact .of_right (intBits_le_64 h1 h2)
theorem Cj:OpR X (binaryOp .Add) (rI0 fun i j=>.int (i+j)):=Ahb fun _ _ _ _ _ _ _ q=>add_int q
theorem Vz:OpR X (binaryOp .Sub) (rI0 fun i j=>.int (i-j)):=Ahb fun _ _ _ _ _ _ _ q=>sub_int q
theorem HS:OpR X (binaryOp .Mult) (rI Afm fun i j=>.int (i*j)):=opI fun _ _ _ _ _ _ _ hc q=>mul_int q hc.ok
theorem Hd:OpR X (binaryOp .FloorDiv) (rI AiQ fun i j=>.int (i / j)):=opI fun i j _ _ _ _ _ hc q=>by
 have h1:(0:Int)<j:=hc.1
 have h2:j<1073741824:=hc.2
 exact floordiv_int (by omega) (by rw[Int.fdiv_eq_ediv_of_nonneg i (by omega)];exact q) (.inl (PyProof.noPylong_small (by omega)))
theorem CJ:OpR X (binaryOp .Mod) (rI (fun _ j=>0<j) fun i j=>.int (i%j)):=opI fun i j _ _ _ _ _ hc q=>by
 have h1:(0:Int)<j:=hc
 exact mod_int' (by omega) (by rw[Int.fmod_eq_emod_of_nonneg i (by omega)];exact q)
theorem unI{f:Value→Sem Value}{g:Int→Int}
  (rule:∀(i:Int) (t:Tok) (s:Shared) (Q:Value→Shared→Prop) (E:Value→Shared→Prop),Q (.int (g i) s.toks) { s with toks:=s.toks+1 }→wpAny (model X.prog X.w) X.A (f (.int i t)) Q E s) :
  UnR X f (rU fun i=>.int (g i)):=by
 intro pins s σ H x v Q I rx h
 obtain⟨i,rfl,q⟩:=h
 obtain⟨t,rfl⟩:=rx
 exact rule i t s _ _ ⟨.int (g i),H,I.tok _,⟨_,rfl⟩,q⟩
theorem RL:UnR X (unaryOp .USub) (rU fun i=>.int (-i)):=unI fun _ _ _ _ _ q=>neg_int q
end
def Afn:V→V→Bool
 | .non,.non=>true | .non,.int _=>true | .int _,.non=>true | .non,.bl _=>true | .bl _,.non=>true | .non,.str _=>true | .str _,.non=>true
 | .int _,.int _=>true | .bl _,.bl _=>true | .str _,.str _=>true | .byt _,.byt _=>true
 | .int _,.str _=>true | .str _,.int _=>true | .bl _,.str _=>true | .str _,.bl _=>true
 | _,_=>false
def rEq:R2:=fun x y H Q=>Afn x y=true∧Q (.bl (decide (x=y))) H
def rNe:R2:=fun x y H Q=>Afn x y=true∧Q (.bl (!decide (x=y))) H
theorem Aac{i j:Int}:decide (V.int i=V.int j)=(i == j):=by
 rw[AlJ]
 simp
theorem AbL{i j:Bool}:decide (V.bl i=V.bl j)=(i == j):=by
 rw[AlJ]
 simp
theorem Aad{i j:Str}:decide (V.str i=V.str j)=(i == j):=by
 rw[AlJ]
 simp
theorem Aae{i j:Array UInt8}:decide (V.byt i=V.byt j)=(i.toList == j.toList):=by
 rw[AlJ]
 cases i
 cases j
 simp
section
variable {X:Cx}{a b c:Expr}{ta tb tc:TE}{pos:Pos}
theorem Cg{pins:List (Addr × Obj)}{σ:St}{H:Hp}{s:Shared}{Q:VK}{k k':Bool}(I:Inv X pins σ H s)(q:Q (.bl k) H)(e:k=k'):EP X pins σ Q (.bool k') s:=by
 subst e
 exact⟨.bl k,H,I,rfl,q⟩
theorem Cz:OpR X (compareOp .Eq) rEq:=by
 intro pins s σ H x y v u Q I rx ry h
 obtain⟨hs,q⟩:=h
 cases x with
 | non =>
  cases rx
  cases y with
  | non=>cases ry;exact PySem.EqNone.eq_none_none (Cg I q (by simp))
  | bl j=>cases ry;exact PySem.EqNone.eq_none_bool (Cg I q (by simp))
  | int j=>obtain⟨t',rfl⟩:=ry;exact PySem.EqNone.eq_none_int (Cg I q (by simp))
  | str j=>obtain⟨t',rfl⟩:=ry;exact PySem.EqNone.eq_none_str (Cg I q (by simp))
  | _=>exact absurd (show false=true from hs) AkW
 | bl i =>
  cases rx
  cases y with
  | non=>cases ry;exact PySem.EqNone.eq_bool_none (Cg I q (by simp))
  | bl j=>cases ry;exact eq_bool (Cg I q AbL)
  | str j=>obtain⟨t',rfl⟩:=ry;exact PySem.EqMixed.eq_bool_str (Cg I q (by simp))
  | _=>exact absurd (show false=true from hs) AkW
 | int i =>
  obtain⟨t,rfl⟩:=rx
  cases y with
  | non=>cases ry;exact PySem.EqNone.eq_int_none (Cg I q (by simp))
  | int j=>obtain⟨t',rfl⟩:=ry;exact eq_int (Cg I q Aac)
  | str j=>obtain⟨t',rfl⟩:=ry;exact PySem.EqMixed.eq_int_str (Cg I q (by simp))
  | _=>exact absurd (show false=true from hs) AkW
 | str i =>
  obtain⟨t,rfl⟩:=rx
  cases y with
  | non=>cases ry;exact PySem.EqNone.eq_str_none (Cg I q (by simp))
  | bl j=>cases ry;exact PySem.EqMixed.eq_str_bool (Cg I q (by simp))
  | int j=>obtain⟨t',rfl⟩:=ry;exact PySem.EqMixed.eq_str_int (Cg I q (by simp))
  | str j=>obtain⟨t',rfl⟩:=ry;exact eq_str (Cg I q Aad)
  | _=>exact absurd (show false=true from hs) AkW
 | byt i =>
  obtain⟨t,rfl⟩:=rx
  cases y with
  | byt j=>obtain⟨t',rfl⟩:=ry;exact PySem.W.eq_bytes (Cg I q Aae)
  | _=>exact absurd (show false=true from hs) AkW
 | _=>cases y <;> exact absurd (show false=true from hs) AkW
theorem Dd:OpR X (compareOp .NotEq) rNe:=by
 intro pins s σ H x y v u Q I rx ry h
 obtain⟨hs,q⟩:=h
 cases x with
 | non =>
  cases rx
  cases y with
  | non=>cases ry;exact PySem.EqNone.ne_none_none (Cg I q (by simp))
  | bl j=>cases ry;exact PySem.EqNone.ne_none_bool (Cg I q (by simp))
  | int j=>obtain⟨t',rfl⟩:=ry;exact PySem.EqNone.ne_none_int (Cg I q (by simp))
  | str j=>obtain⟨t',rfl⟩:=ry;exact PySem.EqNone.ne_none_str (Cg I q (by simp))
  | _=>exact absurd (show false=true from hs) AkW
 | bl i =>
  cases rx
  cases y with
  | non=>cases ry;exact PySem.EqNone.ne_bool_none (Cg I q (by simp))
  | bl j=>cases ry;exact ne_bool (Cg I q (congrArg not AbL))
  | str j=>obtain⟨t',rfl⟩:=ry;exact PySem.EqMixed.ne_bool_str (Cg I q (by simp))
  | _=>exact absurd (show false=true from hs) AkW
 | int i =>
  obtain⟨t,rfl⟩:=rx
  cases y with
  | non=>cases ry;exact PySem.EqNone.ne_int_none (Cg I q (by simp))
  | int j=>obtain⟨t',rfl⟩:=ry;exact ne_int (Cg I q (congrArg not Aac))
  | str j=>obtain⟨t',rfl⟩:=ry;exact PySem.EqMixed.ne_int_str (Cg I q (by simp))
  | _=>exact absurd (show false=true from hs) AkW
 | str i =>
  obtain⟨t,rfl⟩:=rx
  cases y with
  | non=>cases ry;exact PySem.EqNone.ne_str_none (Cg I q (by simp))
  | bl j=>cases ry;exact PySem.EqMixed.ne_str_bool (Cg I q (by simp))
  | int j=>obtain⟨t',rfl⟩:=ry;exact PySem.EqMixed.ne_str_int (Cg I q (by simp))
  | str j=>obtain⟨t',rfl⟩:=ry;exact ne_str (Cg I q (congrArg not Aad))
  | _=>exact absurd (show false=true from hs) AkW
 | byt i =>
  obtain⟨t,rfl⟩:=rx
  cases y with
  | byt j=>obtain⟨t',rfl⟩:=ry;exact PySem.W.ne_bytes (Cg I q (congrArg not Aae))
  | _=>exact absurd (show false=true from hs) AkW
 | _=>cases y <;> exact absurd (show false=true from hs) AkW
theorem Em:OpR X (compareOp .Lt) (rI0 fun i j=>.bl (decide (i<j))):=Adz fun _ _ _ _ _ _ _ q=>lt_int q
theorem U6:OpR X (compareOp .LtE) (rI0 fun i j=>.bl (decide (i≤j))):=Adz fun _ _ _ _ _ _ _ q=>le_int q
theorem M6:OpR X (compareOp .Gt) (rI0 fun i j=>.bl (decide (j<i))):=Adz fun _ _ _ _ _ _ _ q=>gt_int q
theorem AbM:OpR X (compareOp .GtE) (rI0 fun i j=>.bl (decide (j≤i))):=Adz fun _ _ _ _ _ _ _ q=>ge_int q
theorem Zc:OpR X (compareOp .Is) (fun x y H Q=>y=.non∧Q (.bl (decide (x=.non))) H):=by
 intro pins s σ H x y v u Q I rx ry h
 obtain⟨rfl,q⟩:=h
 cases ry
 refine is_none_gen (Cg I q ?_)
 cases x <;> first
  | (cases rx;rfl)
  | (obtain⟨t,rfl⟩:=rx;rfl)
theorem Rw:OpR X (compareOp .IsNot) (fun x y H Q=>y=.non∧Q (.bl (!decide (x=.non))) H):=by
 intro pins s σ H x y v u Q I rx ry h
 obtain⟨rfl,q⟩:=h
 cases ry
 refine isnot_none_gen (Cg I q ?_)
 cases x <;> first
  | (cases rx;rfl)
  | (obtain⟨t,rfl⟩:=rx;rfl)
theorem Gk:OpR X (compareOp .NotIn) (fun x y H Q=>∃ i j,x=.str i∧y=.str j∧Q (.bl (!(!(Builtin.Str.occurrences j i 0 j.length 1).isEmpty))) H):=by
 intro pins s σ H x y v u Q I rx ry h
 obtain⟨i,j,rfl,rfl,q⟩:=h
 obtain⟨t,rfl⟩:=rx
 obtain⟨t',rfl⟩:=ry
 exact notIn_str (Cg I q rfl)
def isObj:HO→Bool
 | .lst _=>true
 | .ins _ _ _=>true
 | _=>false
theorem Am(b:Expr){op:CmpOp}(h:op≠.In:=by decide)(h2:op≠.NotIn:=by decide):behindInMarks op b=false:=by
 have e1:(op == CmpOp.In)=false:=by cases op <;> first | rfl | exact absurd rfl h
 have e2:(op == CmpOp.NotIn)=false:=by cases op <;> first | rfl | exact absurd rfl h2
 cases b <;> simp[behindInMarks,e1,e2]
theorem Gm{op:CmpOp}{r:R2}(ho:OpR X (compareOp op) r)(ha:PE X a ta)(hb:PE X b tb)(hm:behindInMarks op b=false):PE X (.Compare a [op] [b] pos) (tOp r ta tb):=by
 intro pins s σ H Q I h
 exact wpAny_Compare1 (Afl ha hb I h fun v u s2 x y H2 I2 rx ry q=>ho pins s2 σ H2 x y v u Q I2 rx ry q) hm
def AeA (t:TE):TT:=fun σ H Q=>t σ H fun x H'=>∃ k,x=.bl k∧Q k H'
theorem Ag{op:CmpOp}{r:R2}(ho:OpR X (compareOp op) r)(ha:PE X a ta)(hb:PE X b tb)(hm:behindInMarks op b=false):PT X (.Compare a [op] [b] pos) (AeA (tOp r ta tb)):=by
 intro pins s σ H Q I h
 refine wpAny_isTrue_Compare1 (thn (ha pins s σ H _ I h) fun v s1 ⟨x,H1,I1,r1,q1⟩=>thn (hb pins s1 σ H1 _ I1 q1) fun u s2 ⟨y,H2,I2,r2,q2⟩ =>
  thn (ho pins s2 σ H2 x y v u _ I2 r1 r2 q2) fun c s3 ⟨z,H3,I3,r3,k,e,q3⟩=>?_) hm
 subst e
 cases r3
 exact wpAny_truthy_bool ⟨H3,I3,q3⟩
def Afo (r r':R2)(ta tb tc:TE):TE:=fun σ H Q=>ta σ H fun x H1=>tb σ H1 fun y H2=>r x y H2 fun z H3=>∃ k,z=.bl k ∧
 (if k=true then tc σ H3 fun w' H4=>r' y w' H4 Q else Q (.bl false) H3)
theorem J2{op op':CmpOp}{r r':R2}(ho:OpR X (compareOp op) r)(ho':OpR X (compareOp op') r')(ha:PE X a ta)(hb:PE X b tb)(hc:PE X c tc)
  (hm:lastMarks [op,op'] [b,c]=false:=by with_unfolding_all rfl):PT X (.Compare a [op,op'] [b,c] pos) (AeA (Afo r r' ta tb tc)):=by
 intro pins s σ H Q I h
 refine isTrue_chain (thn (ha pins s σ H _ I h) fun v s1 ⟨x,H1,I1,r1,q1⟩=>test_link (thn (hb pins s1 σ H1 _ I1 q1) fun u s2 ⟨y,H2,I2,r2,q2⟩ =>
  thn (ho pins s2 σ H2 x y v u _ I2 r1 r2 q2) fun d s3 ⟨z,H3,I3,r3,k,e,q3⟩=>?_)) hm
 subst e
 cases r3
 refine wpAny_truthy_bool ?_
 cases k with
 | false =>
  obtain⟨k',e',q'⟩:=q3
  cases e'
  exact ite_ff ⟨H3,I3,q'⟩
 | true =>
  refine ite_tt (test_last (thn (hc pins s3 σ H3 _ I3 q3) fun w' s4 ⟨z',H4,I4,r4,q4⟩=>thn (ho' pins s4 σ H4 y z' u w' _ I4 r2 r4 q4) fun d' s5 ⟨z2,H5,I5,r5,k2,e2,q5⟩=>?_))
  subst e2
  cases r5
  exact wpAny_truthy_bool ⟨H5,I5,q5⟩
def Akg (K:PySem.W.Frag)(x:V)(H:Hp)(k:Bool):Prop :=
 match x with
 | .non=>k=false
 | .bl b=>k=b
 | .int i=>k=(i != 0)
 | .str y=>y.length≤sizeLine∧k=((y.length:Int) != 0)
 | .byt y=>y.size≤sizeLine∧k=((y.size:Int) != 0)
 | .ref p=>(∃ xs,SqL K H p xs∧k=!xs.isEmpty)∨(∃ xs,SqT K H p xs∧k=!xs.isEmpty)∨∃ kvs,H p=some (.dK kvs)∧k=!kvs.isEmpty
 | _=>False
theorem Qk:(sizeLine:Nat)<2 ^ 63:=by rw[sizeLine_eq];decide
theorem Cp:OpR X (binaryOp .Add) (fun x y H Q=>∃ i j,x=.str i∧y=.str j∧i.length+j.length≤sizeLine∧Q (.str (i++j)) H):=by
 intro pins s σ H x y v u Q I rx ry h
 obtain⟨i,j,rfl,rfl,hz,q⟩:=h
 obtain⟨t,rfl⟩:=rx
 obtain⟨t',rfl⟩:=ry
 exact add_str (fun t' tk=>⟨.str (i++j),H,I.tok _,⟨_,rfl⟩,q⟩) hz
def Ahc (b:Expr):Prop:=∀ o i,subscripted b false o i=operate [o,i] (getItem o i)
theorem vals1{x:V}{us:List Value}(r:Vals [x] us):∃ u,us=[u]∧RelV x u:=by
 cases r with
 | cons r1 r2=>cases r2;exact⟨_,rfl,r1⟩
theorem Ql:HD X (.type "int") (fun xs H Q=>(∃ i,xs=[.int i]∧Q (.int i) H)∨∃ k,xs=[.bl k]∧Q (.int (if k then 1 else 0)) H):=by
 intro pins s σ H xs us Q I r h
 rcases h with ⟨i,rfl,q⟩ | ⟨k,rfl,q⟩
 ·obtain⟨u,rfl,t,rfl⟩:=vals1 r
  exact call_int_int ⟨.int i,H,I,⟨_,rfl⟩,q⟩
 ·obtain⟨u,rfl,r1⟩:=vals1 r
  cases r1
  exact call_int_bool ⟨.int (if k then 1 else 0),H,I.tok _,⟨_,rfl⟩,q⟩
def Akh (K:PySem.W.Frag)(x:V)(H:Hp)(n:Nat):Prop :=
 match x with
 | .str y=>y.length≤sizeLine∧n=y.length
 | .byt y=>y.size≤sizeLine∧n=y.size
 | .ref p=>(∃ xs,SqL K H p xs∧n=xs.length)∨∃ xs,SqT K H p xs∧n=xs.length
 | _=>False
end
open PySem PySem.Spec PyProof.Rows
structure AaP (h:Heap) (x dx C:Addr) (mA:Str→Option Value):Prop where
 obj:h.get? x=some (PySem.W.instObj C dx)
 ns:h.Ns1 dx mA
 ne:dx≠x
theorem AaQ{h:Heap}{dx:Addr}{mA:Str→Option Value}(n:h.Ns1 dx mA):∃ od,h.get? dx=some od∧∀ name,PySem.W.lookIn name od=some (mA name):=by
 obtain⟨o,es,ep,ho,hd,hk,_,hm⟩:=n
 refine⟨o,ho,fun name=>?_⟩
 have e:=hm name
 unfold nsFind findBy at e
 rw[← Array.find?_toList] at e
 unfold PySem.W.lookIn
 rw[hd]
 dsimp only
 split
 ·rename_i y q
  rw[q] at e
  exact congrArg some e
 ·rename_i q
  rw[q] at e
  have a:es.toList.any (·.refKey)=false:=by
   rw[List.any_eq_false]
   intro y hy
   obtain⟨z,t,hkey⟩:=hk y (Array.mem_toList_iff.mp hy)
   simp[DictEntry.refKey,hkey]
  have a':¬es.toList.any (·.refKey)=true:=by rw[a];exact AkW
  rw[if_neg a']
  exact congrArg some e
theorem AaP.look{h:Heap}{x dx C:Addr}{mA:Str→Option Value}(I:AaP h x dx C mA):∃ od,PySem.W.InstAt h x (PySem.W.instObj C dx) C (some od)∧∀ name,PySem.W.lookIn name od=some (mA name) :=
 let ⟨od,ho,hl⟩:=AaQ I.ns
 ⟨od,⟨I.obj,rfl,rfl,ho⟩,hl⟩
section
variable {prog:Program}{w:World}{A:Around}{E:Value→Shared→Prop}{s:Shared}{K:PySem.W.Frag}{x dx C f:Addr}{mA:Str→Option Value}{name:Str}{v:Value}
theorem get_map{expr:Bool}{Q:Value→Shared→Prop}(X:K.In s.heap)(I:AaP s.heap x dx C mA)(hg:PySem.W.plainGet K C name=true)(hh:PySem.W.hasDictIn K C=true)
  (ha:PySem.W.findIn K (.ref C) name=some none) (hv:mA name=some v) (hv':PySem.W.handedIn v=true) (h:Q v { s with toks:=s.toks+1 }) :
  wpAny (model prog w) A (getAttr (.ref x) name expr) Q E s:=by
 obtain⟨od,J,hl⟩:=I.look
 exact PySem.W.get_value X J (PySem.W.plainGet_of hg).1 (PySem.W.findObj_own hh ha rfl (by rw[hl,hv])) hv' h
theorem Ad0{ns:List Str}{Q:Unit→Shared→Prop}(X:K.In s.heap)(I:AaP s.heap x dx C mA)
  (hs:PySem.W.findIn K (.ref C) "__setattr__" = some (some (.builtin "object.__setattr__"))) (hp:PySem.W.plainOver K C=true) (ht:PySem.W.takerIn K C name=some none) (hh:PySem.W.hasDictIn K C=true)
  (hw:PySem.Within mA ns) (hsz:ns.length≤sizeLine)
  (h:∀ h',AaP h' x dx C (fun y=>if y=name then some v else mA y)→Heap.SameBut dx s.heap h'→Q () { s with heap:=h',toks:=s.toks+2 }) :
  wpAny (model prog w) A (setAttr (.ref x) name v) Q E s:=by
 obtain⟨od,J,hl⟩:=I.look
 refine PySem.W.set_plain X J hs (PySem.W.osa_open (s:={ s with toks:=s.toks+1 }) (r:=none) X J hp ht fun b=>?_)
 obtain⟨cd,hc,hd'⟩:=PySem.W.any_some hh
 have hx:s.heap.get? x=some ⟨.ref C,some dx,.plain,#[]⟩:=I.obj
 refine wpAny_bind (wpAny_pure (wpAny_bind (wpAny_bind (wpAny_loadPart hx (wpAny_bind (PySem.W.Looks.here (s:={ s with toks:=s.toks+1 }) (PySem.W.looks_clsIn X hc) ?_))))))
 rw[hd']
 refine wpAny_pure (a:=some dx) (wpAny_bind (wpAny_pure (wpAny_bind ?_)))
 refine wpAny_nsSet1 (s:={ s with toks:=s.toks+1 }) I.ns fun h' hn2 hs2=>?_
 obtain⟨oD,esD,epD,hoD,hdD,hcD⟩:=hn2.count (PySem.Within.cons name v hw)
 refine wpAny_bind (wpAny_lookBehind hoD (by rw[hdD];exact pastItsLine_dict (AkZ hcD (by rw[Ala];omega))) ?_)
 exact wpAny_pure (h _ ⟨(hs2.2 _ (Ne.symm I.ne)).trans I.obj,hn2,I.ne⟩ hs2)
theorem AbN{R:Result→Shared→Prop}{vs:List Value}{kw:List (Str × Value)}(X:K.In s.heap)(hm:PySem.W.makesIn K C=true)
  (hi:PySem.W.findIn K (.ref C) "__init__" = some (some (.ref f))) (hf:PySem.W.typeIn K (.ref f)=some (.type "function"))
  (h:codeAny (model prog w) (A.under (.builtin "type.__call__" ⟨.ref C::vs,kw⟩)) (.call (.ref f) ⟨.ref (s.heap.objs.size+1)::vs,kw⟩) (PySem.W.InitBack (s.heap.objs.size+1) R)
   { s with heap:=(s.heap.push PySem.W.emptyDict).push (PySem.W.instObj C s.heap.objs.size) }) :
  codeAny (model prog w) A (.call (.ref C) ⟨vs,kw⟩) R s:=by
 obtain⟨hh,g,d,t,os⟩:=s
 exact PySem.W.make_core (PySem.W.makes_of X hm) (PySem.W.looks_findIn X hi) (fun self=>PySem.W.bind_fn X self hf) (.inl rfl) h
end
def JX (f:Str)(v:V):List (Str × V)→List (Str × V)
 | []=>[(f,v)]
 | (g,x)::r=>if g=f then (g,v)::r else (g,x)::JX f v r
theorem QK(f g:Str)(v:V):∀ fs:List (Str × V),(JX f v fs).lookup g=if g=f then some v else fs.lookup g
 | []=>by
  show List.lookup g [(f,v)]=_
  by_cases h:g=f
  ·have hb:(g == f)=true:=beq_iff_eq.mpr h
   simp only [List.lookup,hb,if_pos h]
  ·have hb:(g == f)=false:=beq_eq_false_iff_ne.mpr h
   simp only [List.lookup,hb,if_neg h]
 | (k,x)::r=>by
  have ih:=QK f g v r
  rw[show JX f v ((k,x)::r)=(if k=f then (k,v)::r else (k,x)::JX f v r) from rfl]
  by_cases hk:k=f
  ·rw[if_pos hk]
   by_cases h:g=k
   ·have hb:(g == k)=true:=beq_iff_eq.mpr h
    simp only [List.lookup,hb,if_pos (h.trans hk)]
   ·have hb:(g == k)=false:=beq_eq_false_iff_ne.mpr h
    simp only [List.lookup,hb,if_neg (fun e:g=f=>h (e.trans hk.symm))]
  ·rw[if_neg hk]
   by_cases h:g=k
   ·have hb:(g == k)=true:=beq_iff_eq.mpr h
    simp only [List.lookup,hb,if_neg (fun e:g=f=>hk (h.symm.trans e))]
   ·have hb:(g == k)=false:=beq_eq_false_iff_ne.mpr h
    simp only [List.lookup,hb]
    exact ih
theorem Qm(f:Str)(v:V):∀ fs:List (Str × V),f∈(JX f v fs).map (·.1)∧∀ g,g∈fs.map (·.1)→g∈(JX f v fs).map (·.1)
 | []=>⟨by simp[JX],fun g h=>by simp at h⟩
 | (k,x)::r=>by
  obtain⟨i1,i2⟩:=Qm f v r
  rw[show JX f v ((k,x)::r)=(if k=f then (k,v)::r else (k,x)::JX f v r) from rfl]
  by_cases hk:k=f
  ·rw[if_pos hk]
   subst hk
   exact⟨by simp,fun g h=>by simpa using h⟩
  ·rw[if_neg hk]
   refine⟨?_,fun g h=>?_⟩
   ·rw[AkQ]
    exact AkX _ i1
   ·rw[AkQ] at h ⊢
    rcases List.mem_cons.mp h with e | e
    ·exact List.mem_cons.mpr (.inl e)
    ·exact AkX _ (i2 g e)
theorem QL(f:Str)(v:V):∀ fs:List (Str × V),(JX f v fs).length≤fs.length+1
 | []=>by simp[JX]
 | (k,x)::r=>by
  have ih:=QL f v r
  rw[show JX f v ((k,x)::r)=(if k=f then (k,v)::r else (k,x)::JX f v r) from rfl]
  by_cases hk:k=f
  ·rw[if_pos hk,Ala,Ala];omega
  ·rw[if_neg hk,Ala,Ala];omega
theorem Nr.some_of{v:V}{o:Option Value}(r:Nr (some v) o):∃ u,o=some u∧RelV v u:=by
 cases o with
 | none=>exact(show False from r).elim
 | some u=>exact⟨u,rfl,r⟩
theorem AaR{v:V}{u:Value}(r:RelV v u):PySem.W.handedIn u=true:=by
 cases v with
 | non=>cases (show u=Value.none from r);rfl
 | bl b=>cases (show u=Value.bool b from r);rfl
 | int i=>obtain⟨t,e⟩:=(show ∃ t,u=Value.int i t from r);cases e;rfl
 | str x=>obtain⟨t,e⟩:=(show ∃ t,u=Value.str x t from r);cases e;rfl
 | byt b=>obtain⟨t,e⟩:=(show ∃ t,u=Value.bytes b t from r);cases e;rfl
 | flt b=>obtain⟨t,e⟩:=(show ∃ t,u=Value.float b t from r);cases e;rfl
 | ref a=>cases (show u=Value.ref a from r);rfl
 | ty n=>cases (show u=Value.type n from r);rfl
section
variable {P:Program}{w:World}{H H':Hp}{h h':Heap}{a C dx:Addr}{fs fs':List (Str × V)}
theorem V0(hok:HOk P w H h)(e:H a=some (.ins C dx fs)):∃ mA,AaP h a dx C mA∧(∀ f,Nr (fs.lookup f) (mA f))∧PySem.Within mA (fs.map (·.1))∧fs.length≤1000∧H dx=some (.own a):=by
 obtain⟨d,z,ne,ob,mA,n,r,q⟩:=(show Ea P w H h a (.ins C dx fs) from hok a _ e)
 exact⟨mA,⟨ob,n,ne⟩,r,q,z,d⟩
end
structure Cls (K:PySem.W.Frag) (C:Addr):Prop where
 pg:PySem.W.plainGet K C Str.empty=true
 hd:PySem.W.hasDictIn K C=true
 po:PySem.W.plainOver K C=true
 sa:PySem.W.findIn K (.ref C) "__setattr__" = some (some (.builtin "object.__setattr__"))
theorem Cls.get{K:PySem.W.Frag}{C:Addr}(c:Cls K C)(f:Str):PySem.W.plainGet K C f=true:=c.pg
def HW (K:PySem.W.Frag)(C:Addr)(f:Str):Prop:=PySem.W.findIn K (.ref C) f=some none
theorem HW.taker{K:PySem.W.Frag}{C:Addr}{f:Str}(n:HW K C f):PySem.W.takerIn K C f=some none:=by
 unfold PySem.W.takerIn
 rw[show PySem.W.findIn K (.ref C) f=some none from n]
 rfl
structure Con (K:PySem.W.Frag) (C:Addr) (f:Str) (v:V) (u:Value):Prop where
 at_:PySem.W.findIn K (.ref C) f=some (some u)
 rel:RelV v u
 get:PySem.W.specialIn K u "__get__" = some none
 cp:PySem.W.copiedNames.contains f=false
structure Meth (K:PySem.W.Frag) (C:Addr) (m:Str) (f:Addr):Prop where
 at_:PySem.W.findIn K (.ref C) m=some (some (.ref f))
 fn:PySem.W.isFn K (.ref f)=true
 kp:PySem.W.keepIn K (.ref f)=true
section
variable {X:Cx}{pins:List (Addr × Obj)}{σ:St}{H:Hp}{s:Shared}{a C dx:Addr}{fs:List (Str × V)}{f:Str}{v:V}{A:Around}{E:Value→Shared→Prop}
theorem Zd{b:Bool}{Q:Value→Shared→Prop}(I:Inv X pins σ H s)(e:H a=some (.ins C dx fs))(c:Cls X.K C)(n:HW X.K C f)(l:fs.lookup f=some v)
  (h:∀ u s',Inv X pins σ H s'→RelV v u→Q u s'):wpAny (model X.prog X.w) A (getAttr (.ref a) f b) Q E s:=by
 obtain⟨mA,O,r,_,_,_⟩:=V0 I.hok e
 obtain⟨u,hu,ru⟩:=Nr.some_of (v:=v) (o:=mA f) (by rw[← l];exact r f)
 exact get_map I.kIn O (c.get f) c.hd n hu (AaR ru) (h u _ (I.tok _) ru)
theorem Ze{y:V}{u:Value}{Q:Unit→Shared→Prop}(I:Inv X pins σ H s)(e:H a=some (.ins C dx fs))(c:Cls X.K C)(n:HW X.K C f)(hl:fs.length<1000)(ry:RelV y u)
  (h:∀ s',Inv X pins σ (upd H a (.ins C dx (JX f y fs))) s'→Q () s'):wpAny (model X.prog X.w) A (setAttr (.ref a) f u) Q E s:=by
 obtain⟨mA,O,r,wi,_,ho⟩:=V0 I.hok e
 have hz:(fs.map (·.1)).length≤sizeLine:=by rw[AkE,sizeLine_eq];omega
 refine Ad0 I.kIn O c.sa c.po n.taker c.hd wi hz fun h' O' sb=>h _ ?_
 have hd:∃ o,h'.get? dx=some o:=let ⟨o,_,_,e',_⟩:=O'.ns;⟨o,e'⟩
 refine I.write (x:=a) (e:=dx) (by rw[e];exact True.intro) (.inr ho) (fun b q hb z=>(sb.2 b hb).trans z) hd ?_
 refine⟨by rw[Ax O.ne];exact ho,?_,O.ne,O'.obj,_,O'.ns,fun g=>?_,fun g hg=>?_⟩
 ·have:=QL f y fs;omega
 ·show Nr ((JX f y fs).lookup g) (if g=f then some u else mA g)
  rw[QK]
  by_cases q:g=f
  ·rw[if_pos q,if_pos q];exact ry
  ·rw[if_neg q,if_neg q];exact r g
 ·by_cases q:g=f
  ·rw[q];exact(Qm f y fs).1
  ·refine(Qm f y fs).2 g (wi g fun z=>hg ?_)
   show(if g=f then some u else mA g)=none
   rw[if_neg q];exact z
theorem Inv.made(I:Inv X pins σ H s):Inv X pins σ (upd (upd H s.heap.objs.size (.own (s.heap.objs.size+1))) (s.heap.objs.size+1) (.ins C s.heap.objs.size []))
  { s with heap:=(s.heap.push PySem.W.emptyDict).push (PySem.W.instObj C s.heap.objs.size) }:=by
 have e1:(s.heap.push PySem.W.emptyDict).get? s.heap.objs.size=some PySem.W.emptyDict:=Heap.get?_push_size s.heap rfl
 have e2:((s.heap.push PySem.W.emptyDict).push (PySem.W.instObj C s.heap.objs.size)).get? (s.heap.objs.size+1)=some (PySem.W.instObj C s.heap.objs.size):=by
  have:=Heap.get?_push_size (s.heap.push PySem.W.emptyDict) (o:=PySem.W.instObj C s.heap.objs.size) rfl
  rwa [Heap.size_push] at this
 have e3:(s.heap.push PySem.W.emptyDict).Ns s.heap.objs.size (fun _=>none):=⟨PySem.W.emptyDict,#[],_,e1,rfl,(fun e he=>absurd he (by simp)),fun _=>rfl⟩
 have I1:=I.laid (a:=s.heap.objs.size) (o:=.own (s.heap.objs.size+1)) (h':=s.heap.push PySem.W.emptyDict) (t':=s.toks) (fun b u q=>Heap.get?_push_of_some _ q) (AkF _) ⟨_,e1⟩
 refine I1.laid (a:=s.heap.objs.size+1) (o:=.ins C s.heap.objs.size []) (t':=s.toks) (fun b u q=>Heap.get?_push_of_some _ q) (Al4 (Heap.size_push _ _)) ?_
 have ne:s.heap.objs.size≠s.heap.objs.size+1:=AkK (Alu _)
 refine⟨by rw[Ax ne,Ae],AkP _,ne,e2,fun _=>none,(Heap.Ns1.of_empty e3).at fun o q=>Heap.get?_push_of_some _ q,fun _=>True.intro,fun y hy=>absurd rfl hy⟩
theorem Ad1{prog:Program}{w:World}{env:Env}{e:Expr}{f:Str}{pos:Pos}{s:Shared}{Q:Value→Shared→Prop}(hb:attributeBase e f env (eval e env)=eval e env)
  (h:wpAny (model prog w) A (eval e env) (fun o s₁=>wpAny (model prog w) A (getAttr o f true) Q E s₁) E s):wpAny (model prog w) A (eval (.Attribute e f pos) env) Q E s :=
 Attribute_any_ h (by rw[arm_eval_Attribute,hb])
end
def Ahe (K:PySem.W.Frag)(ta:TE)(f:Str):TE:=fun σ H Q=>ta σ H fun x H1=>∃ a C dx fs v,x=.ref a∧H1 a=some (.ins C dx fs)∧Cls K C∧HW K C f∧fs.lookup f=some v∧Q v H1
def Aki (K:PySem.W.Frag)(ta:TE)(f:Str):TE:=fun σ H Q=>ta σ H fun x H1=>∃ a C dx fs v u,x=.ref a∧H1 a=some (.ins C dx fs)∧Cls K C∧Con K C f v u∧fs.lookup f=none∧Q v H1
def Ahf (K:PySem.W.Frag)(ta tv:TE)(f:Str):TS:=fun D σ H=>tv σ H fun y H1=>ta σ H1 fun x H2=>∃ a C dx fs,x=.ref a∧H2 a=some (.ins C dx fs)∧Cls K C∧HW K C f∧fs.length<1000 ∧
 D.nx σ (upd H2 a (.ins C dx (JX f y fs)))
def Akj (X:Cx)(op:Operator)(rd:V→V→Hp→VK→Prop):Prop :=
 ∀(pins:List (Addr × Obj)) (s:Shared) (σ:St) (H:Hp) (x y:V) (u v:Value) (Q:VK),Inv X pins σ H s→RelV x u→RelV y v→rd x y H Q→wpAny (model X.prog X.w) X.A (inplaceOp op u v) (EP X pins σ Q) X.xe s
def Ai4 (K:PySem.W.Frag)(ta tv:TE)(rd:V→V→Hp→VK→Prop)(f:Str):TS:=fun D σ H=>ta σ H fun x H1=>∃ a C dx fs v,x=.ref a∧H1 a=some (.ins C dx fs)∧Cls K C∧HW K C f∧fs.lookup f=some v ∧
 tv σ H1 fun y H2=>rd v y H2 fun z H3=>∃ dx' fs',H3 a=some (.ins C dx' fs')∧fs'.length<1000∧D.nx σ (upd H3 a (.ins C dx' (JX f z fs')))
section
variable {X:Cx}{o e value:Expr}{f:Str}{pos pos' tpos:Pos}{ta tv:TE}
theorem Afp(he:PE X e ta)(hb:attributeBase e f X.env (eval e X.env)=eval e X.env):PE X (.Attribute e f pos) (Ahe X.K ta f):=by
 intro pins s σ H Q I h
 refine Ad1 hb (thn (he pins s σ H _ I h) fun u s1 ⟨x,H1,I1,rx,a,C,dx,fs,v,ex,ea,c,n,l,q⟩=>?_)
 subst ex
 obtain rfl:u=Value.ref a:=rx
 exact Zd I1 ea c n l fun u' s2 I2 ru=>⟨v,H1,I2,ru,q⟩
theorem Afq(ha:PE X o ta)(hv:PE X value tv)(hs:swapsWith value (some (.Attribute o f pos')) pos.line X.env=pure false):PS X (.Assign [.Attribute o f pos'] value pos) (Ahf X.K ta tv f):=by
 intro pins s σ H D I h
 refine plainObj_wpAny_Assign_Attribute (thn (hv pins s σ H _ I h) fun u s1 ⟨y,H1,I1,ry,q⟩=>thn (ha pins s1 σ H1 _ I1 q) fun ov s2 ⟨x,H2,I2,rx,a,C,dx,fs,ex,ea,c,n,l,q2⟩=>?_) hs
 subst ex
 obtain rfl:ov=Value.ref a:=rx
 exact Ze I2 ea c n l ry fun s3 I3=>⟨σ,_,I3,q2⟩
def Akk:V→V→Hp→VK→Prop:=fun x y H Q=>∃ i j,x=.int i∧y=.int j∧Q (.int (i+j)) H
def Akl:V→V→Hp→VK→Prop:=fun x y H Q=>∃ i j,x=.int i∧y=.int j∧Q (.int (i-j)) H
end
section
variable {X:Cx}{pins:List (Addr × Obj)}{σ:St}{H:Hp}{s:Shared}{A:Around}{E:Value→Shared→Prop}{Q:Value→Shared→Prop}{c:Value}{b:Bool}
inductive Oh (K:PySem.W.Frag) (H:Hp):V→Value→Prop where
 | non:Oh K H .non (.type "NoneType")
 | bl (x:Bool):Oh K H (.bl x) (.type "bool")
 | int (i:Int):Oh K H (.int i) (.type "int")
 | str (x:Str):Oh K H (.str x) (.type "str")
 | flt (x:UInt64):Oh K H (.flt x) (.type "float")
 | lst {a:Addr} {xs:List V} (e:H a=some (.lst xs)):Oh K H (.ref a) (.type "list")
 | frz {a:Addr} {o:Obj} {xs:List V} (e:H a=some (.frz o (.lst xs))):Oh K H (.ref a) (.type "list")
 | tup {a:Addr} {xs:List V} (e:H a=some (.tup xs)):Oh K H (.ref a) (.type "tuple")
 | dK {a:Addr} {kvs:List (Key × V)} (e:H a=some (.dK kvs)):Oh K H (.ref a) (.type "dict")
 | dT {a:Addr} {kvs:List (List Key × V)} (e:H a=some (.dT kvs)):Oh K H (.ref a) (.type "dict")
 | ins {a C dx:Addr} {fs:List (Str × V)} (e:H a=some (.ins C dx fs)) (cl:Cls K C) (ha:PySem.W.findIn K (.ref C) "__class__" = some (some (.builtin "object.__class__")))
   (hn:PySem.W.specialIn K (.builtin "object.__class__") "__get__" = some (some (.builtin "getset_descriptor.__get__"))) (htk:PySem.W.takesIn K (.builtin "object.__class__")=some true)
   (hm:PySem.W.mroIn K C (.type "object")=some true):Oh K H (.ref a) (.ref C)
theorem U7{x:V}{u t:Value}(I:Inv X pins σ H s)(rx:RelV x u)(ty:Oh X.K H x t)(e:PySem.W.kitOne X.K t c=some b)(h:∀ tk,Q (.bool b) { s with toks:=tk }) :
  wpAny (model X.prog X.w) A (call (.builtin "isinstance") [u,c]) Q E s:=by
 cases ty with
 | non=>cases (show u=Value.none from rx);exact PySem.W.kia_one PySem.W.kitx_none I.kIn True.intro e (fun z=>nomatch z) h
 | bl y=>cases (show u=Value.bool y from rx);exact PySem.W.kia_one PySem.W.kitx_bool I.kIn True.intro e (fun z=>nomatch z) h
 | int i=>obtain⟨t,q⟩:=(show ∃ t,u=Value.int i t from rx);cases q;exact PySem.W.kia_one PySem.W.kitx_int I.kIn True.intro e (fun z=>nomatch z) h
 | str y=>obtain⟨t,q⟩:=(show ∃ t,u=Value.str y t from rx);cases q;exact PySem.W.kia_one PySem.W.kitx_str I.kIn True.intro e (fun z=>nomatch z) h
 | flt y=>obtain⟨t,q⟩:=(show ∃ t,u=Value.float y t from rx);cases q;exact PySem.W.kia_one PySem.W.kitx_float I.kIn True.intro e (fun z=>nomatch z) h
 | @lst a xs ea =>
  cases (show u=Value.ref a from rx)
  obtain⟨_,_,n,_,h1⟩:=(show Ea X.prog X.w H s.heap a (.lst xs) from I.hok a _ ea)
  exact PySem.W.kia_one PySem.W.kitx_list I.kIn ⟨_,h1,rfl⟩ e (fun z=>nomatch z) h
 | @frz a ob xs ea =>
  cases (show u=Value.ref a from rx)
  obtain⟨_,_,_,n,_,h1⟩:=(show Ea X.prog X.w H s.heap a (.frz ob (.lst xs)) from I.hok a _ ea)
  exact PySem.W.kia_one PySem.W.kitx_list I.kIn ⟨_,h1,rfl⟩ e (fun z=>nomatch z) h
 | @tup a xs ea =>
  cases (show u=Value.ref a from rx)
  obtain⟨_,_,_,p⟩:=(show Ea X.prog X.w H s.heap a (.tup xs) from I.hok a _ ea)
  obtain⟨o,h1,h2,_⟩:=p
  exact PySem.W.kia_one PySem.W.kitx_tuple I.kIn ⟨o,h1,h2⟩ e (fun z=>nomatch z) h
 | @dK a kvs ea =>
  cases (show u=Value.ref a from rx)
  obtain⟨_,_,vs,_,p⟩:=(show Ea X.prog X.w H s.heap a (.dK kvs) from I.hok a _ ea)
  obtain⟨o,es,ep,h1,h2,_⟩:=p
  exact PySem.W.kia_one PySem.W.kitx_dict I.kIn ⟨o,h1,h2.1⟩ e (fun z=>nomatch z) h
 | @dT a kvs ea =>
  cases (show u=Value.ref a from rx)
  obtain⟨_,_,xs,_,o,es,ep,h1,h2,_⟩:=(show Ea X.prog X.w H s.heap a (.dT kvs) from I.hok a _ ea)
  exact PySem.W.kia_one PySem.W.kitx_dict I.kIn ⟨o,h1,h2.1⟩ e (fun z=>nomatch z) h
 | @ins a C dx fs ea cl ha hn htk hm =>
  cases (show u=Value.ref a from rx)
  obtain⟨mA,O,_⟩:=V0 I.hok ea
  obtain⟨od,J,_⟩:=O.look
  exact PySem.W.kia_one (PySem.W.kitx_own (cl.get _) cl.hd ha hn htk hm) I.kIn J e (fun z=>nomatch z) h
end
open PySem PySem.Spec PyProof.Rows
structure G6 (k:Nat) (A:Around):Prop where
 hd:A.handled=none
 dp:A.depth+3*k+5<recursionLimit
 un:A.units+16*k+200<cLine
theorem G6.mono{j k:Nat}{A:Around}(r:G6 k A)(h:j≤k):G6 j A:=⟨r.hd,by have:=r.dp;omega,by have:=r.un;omega⟩
theorem G6.deeper{k:Nat}{A:Around}(r:G6 (k+1) A)(env:Env):G6 k (A.deeper env) :=
 ⟨r.hd,by have:=r.dp;show A.depth+1+3*k+5<_;omega,by have:=r.un;show A.units+3+16*k+200<_;omega⟩
theorem Zf{A:Around}{C:Addr}{us:List Value}{kw:List (Str × Value)}:(A.under (.builtin "type.__call__" ⟨.ref C::us,kw⟩)).depth=A.depth+1:=by
 first | rfl | simp[Around.under,Code.weight,Code.isCreation,Code.isGuard,Code.isCaller,Code.frames,Code.isFrame,guardIds]
theorem Zg{A:Around}{C:Addr}{us:List Value}{kw:List (Str × Value)}:(A.under (.builtin "type.__call__" ⟨.ref C::us,kw⟩)).units=A.units+1:=by
 first | rfl | simp[Around.under,Code.cUnits,Code.frames,Code.isFrame]
theorem G6.make{k:Nat}{A:Around}(r:G6 (k+1) A)(C:Addr)(us:List Value)(kw:List (Str × Value)):G6 k (A.under (.builtin "type.__call__" ⟨.ref C::us,kw⟩)) :=
 ⟨r.hd,by have:=r.dp;rw[Zf];omega,by have:=r.un;rw[Zg];omega⟩
theorem G6.depth{k:Nat}{A:Around}(r:G6 k A):A.depth<recursionLimit:=by have:=r.dp;omega
theorem G6.units{k:Nat}{A:Around}(r:G6 k A):A.units+64<cLine:=by have:=r.un;omega
theorem G6.RM{k:Nat}{A:Around}(r:G6 k A):A.units<cLine:=by have:=r.un;omega
def AiR:TA:=fun _ H Q=>Q [] H
def Ahg (ta:TE)(tr:TA):TA:=fun σ H Q=>ta σ H fun x H1=>tr σ H1 fun xs H2=>Q (x::xs) H2
section
variable {X:Cx}{e:Expr}{es:List Expr}{te:TE}{t:TA}{pos:Pos}
theorem Ac:PA X [] AiR:=fun _ _ _ _ H Q I h=>Calls.spliced_nil ⟨[],H,I,.nil,h⟩
theorem Aa(ha:PE X e te)(hr:PA X es t)(hs:starEach (e::es) X.env=(false,eval e X.env)::starEach es X.env:=by rfl):PA X (e::es) (Ahg te t):=by
 intro pos pins s σ H Q I h
 rw[hs]
 show wpAny _ _ (spliced ((false,eval e X.env)::backTo pos (starEach es X.env))) _ _ s
 refine Calls.spliced_cons (thn (ha pins s σ H _ I h) fun u s1 ⟨x,H1,I1,r1,q1⟩=>?_)
 exact thn (hr pos pins s1 σ H1 _ I1 q1) fun us s2 ⟨xs,H2,I2,r2,q2⟩=>⟨x::xs,H2,I2,.cons r1 r2,q2⟩
def AiS (t:TA):TE:=fun σ H Q=>t σ H fun xs H1=>xs.length≤sizeLine∧∀ p,H1 p=none→Q (.ref p) (upd H1 p (.tup xs))
def AiT (t:TA):TE:=fun σ H Q=>t σ H fun xs H1=>xs.length≤sizeLine∧∀ p,H1 p=none→Q (.ref p) (upd H1 p (.lst xs))
theorem Gn{x1}(h:PA X es t):PE X (.Tuple es x1 pos) (AiS t):=by
 intro pins s σ H Q I hq
 refine wpAny_Tuple_spliced (thn (h pos pins s σ H _ I hq) fun us s1 ⟨xs,H1,I1,r,z,q⟩=>⟨by rw[← r.length];exact z,?_⟩)
 have hf:H1 s1.heap.objs.size=none:=I1.hok.fresh (AkF _)
 refine⟨.ref s1.heap.objs.size,upd H1 s1.heap.objs.size (.tup xs),I1.laid (t':=s1.toks) (fun b u e=>Heap.get?_push_of_some _ e) (AkF _) ?_,rfl,q _ hf⟩
 exact⟨z,us,r,⟨_,Heap.get?_push_size _ rfl,rfl,_,rfl⟩⟩
theorem CW(h:PA X es t):PE X (.List es pos) (AiT t):=by
 intro pins s σ H Q I hq
 refine wpAny_List_spliced (thn (h pos pins s σ H _ I hq) fun us s1 ⟨xs,H1,I1,r,z,q⟩=>⟨by rw[← r.length];exact z,?_⟩)
 have hf:H1 s1.heap.objs.size=none:=I1.hok.fresh (AkF _)
 refine⟨.ref s1.heap.objs.size,upd H1 s1.heap.objs.size (.lst xs),I1.laid (t':=s1.toks) (fun b u e=>Heap.get?_push_of_some _ e) (AkF _) ?_,rfl,q _ hf⟩
 exact⟨z,us,0,r,Heap.get?_push_size _ rfl⟩
end
abbrev Sp:=List V→Hp→VK→XK→Prop
abbrev CXT:=List Env→Hp→Shared→XK→Value→Shared→Prop
structure Zh (P:Program) (w:World) (K:PySem.W.Frag) (mg:Str→Option Value) (base:Heap) (A:Around) (outer:List Env) (s:Shared) (H:Hp):Prop where
 frames:A.frames=some outer
 mod:Mod K mg base
 bs:∀ b o,base.get? b=some o→s.heap.get? b=some o∧H b=none
 bsz:base.objs.size≤s.heap.objs.size
 Oe:s.heap.FunFrames base outer
 frf:∀ b∈frs outer,H b=none
 hok:HOk P w H s.heap
 bare:AllBare s.gens
def CE (outer:List Env)(P:Program)(w:World)(H:Hp)(s:Shared)(Q:VK)(u:Value)(s':Shared):Prop :=
 ∃ v H',s'.os=s.os∧AllBare s'.gens∧Un (frs outer) [] H H' s.heap s'.heap∧HOk P w H' s'.heap∧RelV v u∧Q v H'
def CR (CX:CXT)(outer:List Env)(P:Program)(w:World)(H:Hp)(s:Shared)(Q:VK)(E:XK)(r:Result)(s':Shared):Prop :=
 match r with
 | .ok (.ret u)=>CE outer P w H s Q u s'
 | .ok _=>False
 | .error e=>CX outer H s E e s'
structure BP (P:Program) (w:World) (K:PySem.W.Frag) (mg:Str→Option Value) (base:Heap) (CX:CXT) (k:Nat) (f:Addr) (fd:FuncData) (ps:List Str) (sp:Sp):Prop where
 len:∀ vs H Q E,sp vs H Q E→vs.length=ps.length
 run:∀(A:Around) (outer:List Env) (s:Shared) (H:Hp) (args:Args) (us:List Value) (vs:List V) (Q:VK) (E:XK),G6 k A→Zh P w K mg base A outer s H→BindsTo s fd args (ps.zip us)→Vals vs us→sp vs H Q E →
  codeAny (model P w) A (.call (.ref f) args) (CR CX outer P w H s Q E) s
theorem BP.mono{P:Program}{w:World}{K:PySem.W.Frag}{mg:Str→Option Value}{base:Heap}{CX:CXT}{j k:Nat}{f:Addr}{fd:FuncData}{ps:List Str}{sp:Sp}(F:BP P w K mg base CX j f fd ps sp)(h:j≤k) :
  BP P w K mg base CX k f fd ps sp:=⟨F.len,fun A outer s H args us vs Q E hr=>F.run A outer s H args us vs Q E (hr.mono h)⟩
theorem Zh.make{P:Program}{w:World}{K:PySem.W.Frag}{mg:Str→Option Value}{base:Heap}{A:Around}{outer:List Env}{s:Shared}{H:Hp}(e:Zh P w K mg base A outer s H)(C:Addr)(us:List Value)(kw:List (Str × Value)) :
  Zh P w K mg base (A.under (.builtin "type.__call__" ⟨.ref C::us,kw⟩)) outer s H:=⟨by first | exact e.frames | (simpa [Around.under,Code.envs,Code.isFrame,pushEnvs] using e.frames),e.mod,e.bs,e.bsz,e.Oe,e.frf,e.hok,e.bare⟩
section
variable {X:Cx}{pins:List (Addr × Obj)}{σ:St}{H:Hp}{s s':Shared}
theorem Inv.env0(I:Inv X pins σ H s):Zh X.prog X.w X.K X.mg X.base X.A X.stack s H :=
 ⟨I.ok.frames,I.ok.mod,I.bs,AkZ I.ok.bsz I.sz,I.stack,I.Vv,I.hok,I.bare⟩
theorem Inv.after{Q:VK}{u:Value}(I:Inv X pins σ H s)(h:CE X.stack X.prog X.w H s Q u s'):EP X pins σ Q u s':=by
 obtain⟨v,H',os,bare,un,hok,r,q⟩:=h
 obtain⟨hh,g,d,t,os'⟩:=s'
 obtain rfl:os'=s.os:=os
 exact⟨v,H',I.call (h':=hh) (g':=g) (d':=d) (t':=t) (ch:=[]) un hok bare (fun b z=>absurd z (by simp)),r,q⟩
end
def Ahh (sp:Sp)(dvs:List V)(E:XK)(t:TA):TE:=fun σ H Q=>t σ H fun vs H1=>sp (vs++dvs) H1 Q E
def AjD (C:Addr)(m:Str)(sp:Sp)(dvs:List V)(E:XK)(ta:TE)(t:TA):TE:=fun σ H Q=>ta σ H fun x H1=>∃ a dx fs,x=.ref a∧H1 a=some (.ins C dx fs)∧fs.lookup m=none ∧
 t σ H1 fun vs H2=>sp (x::(vs++dvs)) H2 Q E
def Ahi (C:Addr)(sp:Sp)(dvs:List V)(E:XK)(t:TA):TE:=fun σ H Q=>t σ H fun vs H1=>∀ x dx,H1 x=none→H1 dx=none→dx≠x →
 sp (.ref x::(vs++dvs)) (upd (upd H1 dx (.own x)) x (.ins C dx [])) (fun v H2=>v=.non∧Q (.ref x) H2) E
def Binds(K:PySem.W.Frag)(fd:FuncData)(ps:List Str)(ds:List Value):Prop :=
 ∀(s:Shared) (us:List Value),K.In s.heap→(us++ds).length=ps.length→BindsTo s fd ⟨us,[]⟩ (ps.zip (us++ds))
theorem Binds.all{K:PySem.W.Frag}{fd:FuncData}{ps:List Str}(h:∀ us:List Value,us.length=ps.length→bindArgs fd ⟨us,[]⟩=pure (ps.zip us)):Binds K fd ps []:=fun s us _ hl=>by
 rw[Al5] at hl ⊢
 exact .of_eq (h us hl)
def Passes(CX:CXT)(X:Cx)(E:XK):Prop:=∀(pins:List (Addr × Obj)) (σ:St) (H:Hp) (s:Shared) (e:Value) (s':Shared),Inv X pins σ H s→CX X.stack H s E e s'→X.xe e s'
section
variable {X:Cx}{CX:CXT}{k:Nat}{f C:Addr}{fd:FuncData}{ps:List Str}{sp:Sp}{dvs:List V}{ds:List Value}{E:XK}{x m:Str}{p pos apos:Pos}{e o:Expr}{es:List Expr}{ta:TE}{t:TA}
theorem Afr{pins:List (Addr × Obj)}{σ:St}{H:Hp}{s:Shared}{Q:VK}{us:List Value}{vs:List V}(F:BP X.prog X.w X.K X.mg X.base CX k f fd ps sp)(hr:G6 k X.A)(hb:Binds X.K fd ps ds)(hd:Vals dvs ds)(hx:Passes CX X E)
  (I:Inv X pins σ H s) (r:Vals vs us) (h:sp (vs++dvs) H Q E):wpAny (model X.prog X.w) X.A (call (.ref f) us) (EP X pins σ Q) X.xe s:=by
 have r2:Vals (vs++dvs) (us++ds):=r.append hd
 have hl:(us++ds).length=ps.length:=by rw[← r2.length];exact F.len _ _ _ _ h
 refine wpAny_call (codeAny_mono (F.run X.A X.stack s H ⟨us,[]⟩ (us++ds) (vs++dvs) Q E hr I.env0 (hb s us I.kIn hl) r2 h) fun r s' hq=>?_)
 cases r with
 | error e=>exact hx pins σ H s e s' I hq
 | ok fl =>
  cases fl with
  | ret u=>exact I.after hq
  | next=>exact False.elim hq
  | brk=>exact False.elim hq
  | cont=>exact False.elim hq
theorem Av(F:BP X.prog X.w X.K X.mg X.base CX k f fd ps sp)(hr:G6 k X.A)(hg:Gl X x)(hm:X.mg x=some (.ref f))(hk:PySem.W.keepIn X.K (.ref f)=true)(hb:Binds X.K fd ps ds)(hd:Vals dvs ds)(hx:Passes CX X E)
  (ha:PA X (e::es) t) (hdb:(x == ("__debug__" : Str))=false:=by decide) (he:starEach (e::es) X.env=(false,eval e X.env)::starEach es X.env:=by rfl) (hpl:(backTo pos (starEach es X.env)).any (·.1)=false:=by rfl) :
  PE X (.Call (.Name x p) (e::es) [] pos) (Ahh sp dvs E t):=by
 intro pins s σ H Q I h
 refine wpAny_Call_Name_kw (Vw I hg hm ?_ hdb)
 refine PySem.W.callWith_K (h₀:=X.base) I.ok.mod.kin hk (thn (ha pos pins s σ H _ I h) fun us s1 ⟨vs,H1,I1,r,q⟩=>⟨I1.kIn,?_⟩) he hpl
 exact Afr F hr hb hd hx I1 r q
structure Mk (K:PySem.W.Frag) (C f:Addr):Prop where
 makes:PySem.W.makesIn K C=true
 init:PySem.W.findIn K (.ref C) "__init__" = some (some (.ref f))
 fn:PySem.W.isFn K (.ref f)=true
 kp:PySem.W.keepIn K (.ref C)=true
theorem AbO{pins:List (Addr × Obj)}{σ:St}{H:Hp}{s:Shared}{Q:VK}{us:List Value}{vs:List V}(M:Mk X.K C f)(F:BP X.prog X.w X.K X.mg X.base CX k f fd ps sp)(hr:G6 (k+1) X.A)(hb:Binds X.K fd ps ds)(hd:Vals dvs ds)
  (hx:Passes CX X E) (I:Inv X pins σ H s) (r:Vals vs us)
  (h:∀ x dx,H x=none→H dx=none→dx≠x→sp (.ref x::(vs++dvs)) (upd (upd H dx (.own x)) x (.ins C dx [])) (fun v H2=>v=.non∧Q (.ref x) H2) E) :
  wpAny (model X.prog X.w) X.A (call (.ref C) us) (EP X pins σ Q) X.xe s:=by
 have hq:=h (s.heap.objs.size+1) s.heap.objs.size (I.hok.fresh (Alw _)) (I.hok.fresh (AkF _)) (AkK (Alu _))
 have I2:=Inv.made (C:=C) I
 have r2:Vals (V.ref (s.heap.objs.size+1)::(vs++dvs)) (Value.ref (s.heap.objs.size+1)::(us++ds)):=.cons rfl (r.append hd)
 have hl:(Value.ref (s.heap.objs.size+1)::us++ds).length=ps.length:=by
  have e:=r2.length
  rw[F.len _ _ _ _ hq] at e
  exact e.symm
 refine wpAny_call (AbN (f:=f) I.kIn M.makes M.init (beq_iff_eq.mp M.fn) (codeAny_mono (F.run _ X.stack _ _ ⟨Value.ref (s.heap.objs.size+1)::us,[]⟩ (Value.ref (s.heap.objs.size+1)::(us++ds)) _ _ E (hr.make C us [])
  (I2.env0.make C us []) (hb _ (Value.ref (s.heap.objs.size+1)::us) I2.kIn hl) r2 hq) fun r s' hq'=>?_))
 cases r with
 | error e=>exact hx pins σ _ _ e s' I2 hq'
 | ok fl =>
  cases fl with
  | ret u =>
   obtain⟨v,H',I3,rv,ev,q3⟩:=I2.after hq'
   subst ev
   exact⟨rv,⟨V.ref (s.heap.objs.size+1),H',I3,rfl,q3⟩⟩
  | next=>exact False.elim hq'
  | brk=>exact False.elim hq'
  | cont=>exact False.elim hq'
theorem Ad2(M:Mk X.K C f)(F:BP X.prog X.w X.K X.mg X.base CX k f fd ps sp)(hr:G6 (k+1) X.A)(hg:Gl X x)(hm:X.mg x=some (.ref C))(hb:Binds X.K fd ps ds)(hd:Vals dvs ds)(hx:Passes CX X E)
  (ha:PA X (e::es) t) (hdb:(x == ("__debug__" : Str))=false:=by decide) (he:starEach (e::es) X.env=(false,eval e X.env)::starEach es X.env:=by rfl) (hpl:(backTo pos (starEach es X.env)).any (·.1)=false:=by rfl) :
  PE X (.Call (.Name x p) (e::es) [] pos) (Ahi C sp dvs E t):=by
 intro pins s σ H Q I h
 refine wpAny_Call_Name_kw (Vw I hg hm ?_ hdb)
 refine PySem.W.callWith_K (h₀:=X.base) I.ok.mod.kin M.kp (thn (ha pos pins s σ H _ I h) fun us s1 ⟨vs,H1,I1,r,q⟩=>⟨I1.kIn,?_⟩) he hpl
 exact AbO M F hr hb hd hx I1 r q
end
def PK (X:Cx)(kws:List Keyword)(t:TA):Prop :=
 ∀(pos:Pos) (pins:List (Addr × Obj)) (s:Shared) (σ:St) (H:Hp) (Q:List V→Hp→Prop),Inv X pins σ H s→t σ H Q→wpAny (model X.prog X.w) X.A (evalAll ((backToKw pos (keywordEach kws X.env)).map (·.2))) (AP X pins σ Q) X.xe s
section
variable {X:Cx}{CX:CXT}{k:Nat}{f C:Addr}{fd:FuncData}{ps ks:List Str}{sp:Sp}{E:XK}{x m:Str}{p pos apos Akm:Pos}{e o:Expr}{es:List Expr}{kws:List Keyword}{te ta:TE}{t tk:TA}{nm:Option Str}
structure AiU (K:PySem.W.Frag) (fd:FuncData) (ps ks:List Str) (g:List Value→List Value→List Value) (gV:List V→List V→List V):Prop where
 to:∀(s:Shared) (us ws:List Value),K.In s.heap→(g us ws).length=ps.length→BindsTo s fd ⟨us,ks.zip ws⟩ (ps.zip (g us ws))
 rel:∀{vs:List V} {us:List Value} {zs:List V} {ws:List Value},Vals vs us→Vals zs ws→Vals (gV vs zs) (g us ws)
def AiV (sp:Sp)(gV:List V→List V→List V)(E:XK)(t tk:TA):TE:=fun σ H Q=>t σ H fun vs H1=>tk σ H1 fun zs H2=>sp (gV vs zs) H2 Q E
variable {g:List Value→List Value→List Value}{gV:List V→List V→List V}
end
structure Bd (N P:List Str) (sc:Scope):Prop where
 kind:sc.kind=.function
 co:sc.isCoroutine=false
 gen:sc.isGenerator=false
 nd:N.Nodup
 pre:N.take P.length=P
 par:∀ x∈P,sc.names.lookup x=some .local∨sc.names.lookup x=some .cell
 Afs:∀ y∈sc.names,y.2≠.free
theorem U8{kindOf:Str→Option NameKind}{x:Str}:∀{binds:List (Str × Value)} {m:Str→Option Value},(∀ v,(x,v)∉binds)→bindL kindOf binds m x=m x
 | [],_,_=>rfl
 | (n,v)::r,m,h=>by
  unfold bindL
  rw[U8 fun w hw=>h w (AkX _ hw)]
  split
  ·have:x≠n:=by rintro rfl;exact h v AkS
   simp[this]
  ·rfl
theorem U9{kindOf:Str→Option NameKind}{x:Str}:∀{binds:List (Str × Value)} {m:Str→Option Value},(∀ v,(x,v)∉binds)→bindC kindOf binds m x=m x
 | [],_,_=>rfl
 | (n,v)::r,m,h=>by
  unfold bindC
  rw[U9 fun w hw=>h w (AkX _ hw)]
  split
  ·rfl
  ·have:x≠n:=by rintro rfl;exact h v AkS
   simp[this]
theorem UG{kindOf:Str→Option NameKind}{x:Str}{v:Value}:∀{P:List Str} {vs:List Value} {i:Nat} {m:Str→Option Value},P.Nodup→P[i]?=some x→vs[i]?=some v→kindOf x=some .local →
  bindL kindOf (P.zip vs) m x=some v
 | [],_,_,_,_,h,_,_=>by simp at h
 | _::_,[],_,_,_,_,h,_=>by simp at h
 | p::P,w::vs,0,m,nd,h1,h2,hk=>by
  simp at h1 h2;subst h1;subst h2
  show bindL kindOf ((p,w)::P.zip vs) m p=_
  unfold bindL
  rw[U8 fun v hv=>(List.nodup_cons.mp nd).1 (List.of_mem_zip hv).1,if_pos hk]
  simp
 | p::P,w::vs,i+1,m,nd,h1,h2,hk=>by
  show bindL kindOf ((p,w)::P.zip vs) m x=_
  unfold bindL
  exact UG (i:=i) (List.nodup_cons.mp nd).2 (by simpa using h1) (by simpa using h2) hk
theorem UJ{kindOf:Str→Option NameKind}{x:Str}{v:Value}:∀{P:List Str} {vs:List Value} {i:Nat} {m:Str→Option Value},P.Nodup→P[i]?=some x→vs[i]?=some v→kindOf x≠some .local →
  bindC kindOf (P.zip vs) m x=some v
 | [],_,_,_,_,h,_,_=>by simp at h
 | _::_,[],_,_,_,_,h,_=>by simp at h
 | p::P,w::vs,0,m,nd,h1,h2,hk=>by
  simp at h1 h2;subst h1;subst h2
  show bindC kindOf ((p,w)::P.zip vs) m p=_
  unfold bindC
  rw[U9 fun v hv=>(List.nodup_cons.mp nd).1 (List.of_mem_zip hv).1,if_neg hk]
  simp
 | p::P,w::vs,i+1,m,nd,h1,h2,hk=>by
  show bindC kindOf ((p,w)::P.zip vs) m x=_
  unfold bindC
  exact UJ (i:=i) (List.nodup_cons.mp nd).2 (by simpa using h1) (by simpa using h2) hk
def start(N:List Str)(vs:List V):St:=vs.map some++List.replicate (N.length-vs.length) none
def Xo (CX:CXT)(P:Program)(w:World)(K:PySem.W.Frag)(mg:Str→Option Value)(base:Heap)(N:List Str)(qual:Str)(scope:Scope)(f:Addr)(cd:Value)(A:Around)(outer:List Env)(s:Shared)(H:Hp)(E:XK):Cx where
 prog:=P
 w:=w
 K:=K
 mg:=mg
 base:=base
 A:=A.deeper (envOfC qual scope s.heap.objs.size f cd)
 N:=N
 s₀:=s
 H₀:=H
 env:=envOfC qual scope s.heap.objs.size f cd
 outer:=outer
 stack:=envOfC qual scope s.heap.objs.size f cd::outer
 ex:=[]
 calm:=true
 fn:=fun _=>true
 pn:=[]
 xe:=fun e s'=>wpAny (model P w) (A.deeper (envOfC qual scope s.heap.objs.size f cd)) (leaving (envOfC qual scope s.heap.objs.size f cd) e) (fun _ s''=>CX outer H s E e s'') (fun e' s''=>CX outer H s E e' s'') s'
theorem Xp{sc:Scope}{n:Nat}{x:Str}(h:sc.names.lookup x=some .cell):∃ c,(cellsFrom n sc.names []).lookup x=some c:=by
 have q:=PySem.W.cellsFrom_some sc.names n [] (.inl h)
 exact Option.isSome_iff_exists.mp q
theorem AaS{CX:CXT}{P:Program}{w:World}{K:PySem.W.Frag}{mg:Str→Option Value}{base:Heap}{N ps:List Str}{qual:Str}{scope:Scope}{f:Addr}{cd:Value}{A:Around}{outer:List Env}{s s1:Shared}{H:Hp}{E:XK}{us:List Value}{vs:List V}
  (S:Bd N ps scope) (hd:A.handled=none) (e0:Zh P w K mg base A outer s H) (hl:vs.length=ps.length) (r:Vals vs us)
  (x:InCallC s s.heap.objs.size (bindL (envOfC qual scope s.heap.objs.size f cd).kindOf (ps.zip us) fun _=>none) (cellsFrom (s.heap.objs.size+1) scope.names []) (bindC (envOfC qual scope s.heap.objs.size f cd).kindOf (ps.zip us) fun _=>none) s1) :
  Inv (Xo CX P w K mg base N qual scope f cd A outer s H E) [] (start N vs) H s1:=by
 have hpl:ps.length≤N.length:=by have:=congrArg List.length S.pre;rw[AkU] at this;omega
 obtain⟨h1,tk,rfl,hk⟩:=x.done
 have noA:∀ b:Addr,b∉(Xo CX P w K mg base N qual scope f cd A outer s H E).ex:=fun b z=>absurd (show b∈([]:List Addr) from z) (by simp)
 refine⟨⟨e0.mod,S.kind,rfl,rfl,AkF _,fun y z c h1 h2=>?_,fun y hy=>?_,fun y c _ h=>?_,fun _=>hd,Around.frames_deeper e0.frames,.inr ⟨rfl,rfl⟩,fun b z=>absurd z (noA b),e0.bs,e0.bsz,fun b _ _=>noA b,fun b z=>absurd z (noA b),e0.Oe,e0.frf⟩,
  rfl,e0.bare,Un.kept hk,⟨_,x.toInCall.ns,fun i y v h1 h2 h3=>?_⟩,fun y c h=>⟨_,x.cell y c h⟩,e0.hok.fresh (AkF _),fun y c h=>?_,fun p hp=>absurd (show p∈([]:List (Addr × Obj)) from hp) (by simp),e0.hok.kept hk,?_⟩
 ·exact name_of_addr x.apart (PySem.mem_of_lookup h1) (PySem.mem_of_lookup h2)
 ·have hy:scope.names.lookup y=some .cell∨scope.names.lookup y=some .free:=hy
  rcases hy with hy | hy
  ·exact Xp hy
  ·exact absurd rfl (S.Afs _ (PySem.mem_of_lookup hy))
 ·exact Al7 (x.above y c (PySem.mem_of_lookup h))
 ·have hi:i<vs.length:=by
   unfold start at h2
   by_cases hi:i<vs.length
   ·exact hi
   ·rw[AkY (by simpa using hi)] at h2
    rw[List.getElem?_replicate] at h2
    split at h2 <;> cases h2
  have ha:vs[i]?=some v:=by
   unfold start at h2
   rw[AkR (by simpa using hi),AkM] at h2
   cases e:vs[i]? with
   | none=>rw[e] at h2;cases h2
   | some a=>rw[e] at h2;cases h2;rfl
  obtain⟨u,hu,rv⟩:=r.get ha
  have hp:ps[i]?=some y:=by
   rw[← S.pre,AlQ (by omega)];exact h1
  have ndP:ps.Nodup:=by rw[← S.pre];exact S.nd.sublist (List.take_sublist _ _)
  refine⟨u,rv,?_⟩
  rcases S.par y (AkI hp) with k | k
  ·exact .inl ⟨k,UG ndP hp hu k⟩
  ·obtain⟨c,e⟩:=Xp (n:=s.heap.objs.size+1) k
   refine .inr ⟨.inl k,c,e,?_⟩
   have q:=x.cell y c e
   rw[UJ ndP hp hu (by show scope.names.lookup y≠_;rw[k];decide)] at q
   exact q
 ·exact e0.hok.fresh (Al7 (x.above y c (PySem.mem_of_lookup h)))
 ·unfold start
  show _=N.length
  rw[AkG,AkE,List.length_replicate]
  omega
theorem Ahj{CX:CXT}{P:Program}{w:World}{K:PySem.W.Frag}{mg:Str→Option Value}{base:Heap}{k:Nat}{f:Addr}{name qual:Str}{params:Arguments}{body:List Stmt}{scope:Scope}{dV kV doc pm cdv ct oc:Value}{an od:Option Addr}
  {osl:Array (Option Value)}{N ps:List Str}{sp:Sp} (lk:K.lookup f=some ⟨oc,od,.func (PySem.W.fnOf name qual params body scope dV kV doc pm an cdv ct),osl⟩) (hcd:PySem.W.codeIn K cdv qual=true) (S:Bd N ps scope)
  (len:∀ vs H Q E,sp vs H Q E→vs.length=ps.length)
  (hbody:∀(A:Around) (outer:List Env) (s:Shared) (H:Hp) (vs:List V) (Q:VK) (E:XK),G6 k (A.deeper (envOfC qual scope s.heap.objs.size f cdv))→sp vs H Q E →
   ∃ t,PSs (Xo CX P w K mg base N qual scope f cdv A outer s H E) body t∧t { nx:=fun _ H'=>Q .non H',rt:=Q } (start N vs) H) :
  BP P w K mg base CX (k+1) f (PySem.W.fnOf name qual params body scope dV kV doc pm an cdv ct) ps sp:=by
 refine⟨len,fun A outer s H args us vs Q E hr e0 hb r hsp=>?_⟩
 have hl:=len _ _ _ _ hsp
 have KX:K.In s.heap:=e0.mod.kin.keeps fun b o e=>(e0.bs b o e).1
 have lim:s.heap.NoLimit:=e0.mod.nolimit.keeps fun b o e=>(e0.bs b o e).1
 have hkind:∀ y∈ps.zip us,scope.names.lookup y.1=some .local∨(scope.names.lookup y.1=some .cell∧((cellsFrom (s.heap.objs.size+1) scope.names []).lookup y.1).isSome=true):=fun⟨n,v⟩ hy=>by
  rcases S.par n (List.of_mem_zip hy).1 with q | q
  ·exact .inl q
  ·exact .inr ⟨q,PySem.W.cellsFrom_some _ _ _ (.inl q)⟩
 refine codeAny_call_function hr.depth (KX _ _ lk) rfl S.co S.gen rfl (PySem.W.codeRec_of KX hcd) (hb _ _ _ _ ?_)
 refine wpAny_newFunctionEnv_cells S.kind hkind fun env he s1 x=>?_
 subst he
 refine⟨lim.keeps x.toInCall.keep,codeAny_func ?_⟩
 obtain⟨t,ht,hq⟩:=hbody A outer s H vs Q E (hr.deeper _) hsp
 have I:Inv (Xo CX P w K mg base N qual scope f cdv A outer s H E) [] (start N vs) H s1:=AaS S hr.hd e0 hl r x
 refine wpAny_mono (ht [] s1 (start N vs) H _ I hq) (fun fl s' hs=>?_) fun e s' hs=>hs
 have fin:∀{σ':St} {H':Hp} {v:V} {u:Value},Inv (Xo CX P w K mg base N qual scope f cdv A outer s H E) [] σ' H' s'→RelV v u→Q v H'→CE outer P w H s Q u s' :=
  fun {σ' H' v u} J rv q=>⟨v,H',J.os,J.bare,J.base,J.hok,rv,q⟩
 cases fl with
 | ret u =>
  obtain⟨v,σ',H',J,rv,q⟩:=hs
  exact fin J rv q
 | next =>
  obtain⟨σ',H',J,q⟩:=hs
  exact fin (v:=V.non) (u:=Value.none) J rfl q
 | brk =>
  obtain⟨_,_,_,q⟩:=hs
  exact False.elim q
 | cont =>
  obtain⟨_,_,_,q⟩:=hs
  exact False.elim q
open PySem PySem.Spec PyProof.Rows
section
variable {X:Cx}{x:Str}{p pos:Pos}{e:Expr}{es:List Expr}{t:TA}{id T:String}{r:List V→Hp→VK→Prop}
def tCB (r:List V→Hp→VK→Prop)(t:TA):TE:=fun σ H Q=>t σ H fun vs H1=>r vs H1 Q
theorem Ah(hc:HD X (.builtin id) r)(hg:Gl X x)(hm:X.mg x=none)(hv:bootBuiltins x=some (.builtin id))(ha:PA X (e::es) t)(hn:x ≠ "__name__" := by decide) (hdb:(x == ("__debug__" : Str))=false:=by decide)
  (he:starEach (e::es) X.env=(false,eval e X.env)::starEach es X.env:=by rfl) (hpl:(backTo pos (starEach es X.env)).any (·.1)=false:=by rfl):PE X (.Call (.Name x p) (e::es) [] pos) (tCB r t):=by
 intro pins s σ H Q I h
 refine wpAny_Call_Name_kw (HR I hg hm hv ?_ hn hdb)
 exact PyProof.Rows.callWith_builtin1 (thn (ha pos pins s σ H _ I h) fun us s1 ⟨vs,H1,I1,r1,q1⟩=>hc pins s1 σ H1 vs us Q I1 r1 q1) he hpl
theorem Ep(hc:HD X (.type T) r)(hg:Gl X x)(hm:X.mg x=none)(hv:bootBuiltins x=some (.type T))(ha:PA X (e::es) t)(hn:x ≠ "__name__" := by decide) (hdb:(x == ("__debug__" : Str))=false:=by decide)
  (he:starEach (e::es) X.env=(false,eval e X.env)::starEach es X.env:=by rfl) (hpl:(backTo pos (starEach es X.env)).any (·.1)=false:=by rfl):PE X (.Call (.Name x p) (e::es) [] pos) (tCB r t):=by
 intro pins s σ H Q I h
 refine wpAny_Call_Name_kw (HR I hg hm hv ?_ hn hdb)
 exact PyProof.Rows.callWith_type1 (thn (ha pos pins s σ H _ I h) fun us s1 ⟨vs,H1,I1,r1,q1⟩=>hc pins s1 σ H1 vs us Q I1 r1 q1) he hpl
end
end L2
namespace HT
open PySem PyProof.Rows
def lexLt:List Int→List Int→Bool
 | [],[]=>false
 | [],_::_=>true
 | _::_,[]=>false
 | x::xs,y::ys=>if x=y then lexLt xs ys else decide (x<y)
section
open PySem.SeqAt
open PySem.AutoSeq1 (wpAny_loadPart')
open PySem.MeetsSeq PySem.MeetsSeq2 PySem.MeetsSeq3
end
section
variable {prog:Program}{w:World}{A:Around}{E:Value→Shared→Prop}{s:Shared}
def sIx (n d:Nat):Option Int→Nat
 | none=>d
 | some v=>if v<0 then (v+(n:Int)).toNat else min v.toNat n
theorem RN(n d:Nat):sIx n d none=d:=rfl
theorem Oi(n d k:Nat):sIx n d (some (k:Int))=min k n:=by
 show(if (k:Int)<0 then ((k:Int)+(n:Int)).toNat else min (k:Int).toNat n)=min k n
 rw[if_neg (by omega),AkJ]
theorem Aft(n d:Nat)(hd:d≤n)(o:Option Int):sIx n d o≤n:=by
 cases o with
 | none=>exact hd
 | some v =>
  show(if v<0 then (v+(n:Int)).toNat else min v.toNat n)≤n
  by_cases hv:v<0
  ·rw[if_pos hv];omega
  ·rw[if_neg hv];exact Nat.min_le_right _ _
end
end HT
namespace L2
open PySem PySem.Spec PyProof.Rows
abbrev TO:=St→Hp→(Option Int→Hp→Prop)→Prop
def PO (X:Cx)(e:Option Expr)(t:TO):Prop :=
 ∀(pins:List (Addr × Obj)) (s:Shared) (σ:St) (H:Hp) (Q:Option Int→Hp→Prop),Inv X pins σ H s→t σ H Q →
  wpAny (model X.prog X.w) X.A (evalPart e X.env) (fun u s'=>∃ o H',Inv X pins σ H' s'∧IsPart u o∧Q o H') X.xe s
def Ad3:TO:=fun _ H Q=>Q none H
def Ahk (t:TE):TO:=fun σ H Q=>t σ H fun x H1=>∃ i,x=.int i∧Q (some i) H1
theorem intsAre_of{ns:List Int}:∀{us:List Value},Vals (ns.map V.int) us→IntsAre us ns:=by
 induction ns with
 | nil=>intro us r;rw[Al1] at r;cases r;exact .nil
 | cons n ns ih =>
  intro us r
  rw[AkQ] at r
  cases r with
  | cons r1 r2 =>
   obtain⟨t,e⟩:=r1
   subst e
   exact .cons n t (ih r2)
section
variable {X:Cx}{e:Expr}{te:TE}{lo hi:Option Expr}{tl th:TO}{pos p2:Pos}
theorem LQ:PO X none Ad3:=by
 intro pins s σ H Q I h
 rw[evalPart_none]
 exact wpAny_pure ⟨none,H,I,.none,h⟩
theorem LR(h:PE X e te):PO X (some e) (Ahk te):=by
 intro pins s σ H Q I hw
 rw[evalPart_some]
 refine thn (h pins s σ H _ I hw) fun u s1 ⟨x,H1,I1,r1,q1⟩=>?_
 obtain⟨i,rfl,q⟩:=q1
 obtain⟨t,rfl⟩:=r1
 exact⟨some i,H1,I1,.int i t,q⟩
def SlR (X:Cx)(r:V→Option Int→Option Int→Hp→VK→Prop):Prop :=
 ∀(pins:List (Addr × Obj)) (s:Shared) (σ:St) (H:Hp) (x:V) (v vl vu:Value) (lo hi:Option Int) (sl:Addr) (Q:VK),Inv X pins σ H s→RelV x v→s.heap.IsSliceOf sl vl vu .none→IsPart vl lo→IsPart vu hi→r x lo hi H Q →
  ∃ T id,typeLookup (.type T) "__getitem__" = pure (some (.builtin id))∧s.TypeIs v T∧wpAny (model X.prog X.w) X.A (getItem v (.ref sl)) (EP X pins σ Q) X.xe s
def tSl (r:V→Option Int→Option Int→Hp→VK→Prop)(te:TE)(tl th:TO):TE:=fun σ H Q=>te σ H fun x H1=>tl σ H1 fun l H2=>th σ H2 fun u H3=>r x l u H3 Q
theorem J3{r:V→Option Int→Option Int→Hp→VK→Prop}(hr:SlR X r)(he:PE X e te)(hl:PO X lo tl)(hu:PO X hi th):PE X (.Subscript e (.Slice lo hi none p2) pos) (tSl r te tl th):=by
 intro pins s σ H Q I h
 refine Subscript_ (thn (he pins s σ H _ I h) fun v s1 ⟨x,H1,I1,r1,q1⟩=>?_)
 refine wpAny_Slice (thn (hl pins s1 σ H1 _ I1 q1) fun vl s2 ⟨l,H2,I2,pl,q2⟩=>thn (hu pins s2 σ H2 _ I2 q2) fun vu s3 ⟨u,H3,I3,pu,q3⟩=>?_)
 rw[evalPart_none]
 refine wpAny_pure ?_
 have I4:Inv X pins σ H3 { s3 with heap:=s3.heap.push { cls:=.type "slice", data:=.fields #[vl,vu,.none] } }:=I3.kept (t':=s3.toks) fun b ob q=>Heap.get?_push_of_some _ q
 obtain⟨T,id,hT,ht,hg⟩:=hr pins { s3 with heap:=s3.heap.push { cls:=.type "slice", data:=.fields #[vl,vu,.none] } } σ H3 x v vl vu l u s3.heap.objs.size Q I4 r1 (Heap.IsSliceOf.new ..) pl pu q3
 show wpAny (model X.prog X.w) X.A (subscriptTail e (.Slice lo hi none p2) v (.ref s3.heap.objs.size)) (EP X pins σ Q) X.xe { s3 with heap:=s3.heap.push { cls:=.type "slice", data:=.fields #[vl,vu,.none] } }
 exact tail_any (ops:=[.ref s3.heap.objs.size,v]) ht hT hg (by with_unfolding_all rfl)
def V1 (xs:List V)(lo hi:Option Int):List V:=(xs.drop (HT.sIx xs.length 0 lo)).take (HT.sIx xs.length xs.length hi-HT.sIx xs.length 0 lo)
theorem Xq(xs:List V)(lo hi:Option Int):(V1 xs lo hi).length≤xs.length:=by
 unfold V1
 rw[AkU,Al6]
 omega
def Akn (K:PySem.W.Frag):V→Option Int→Option Int→Hp→VK→Prop:=fun x lo hi H Q=>∃ a xs,x=.ref a∧SqT K H a xs ∧
 ¬(HT.sIx xs.length 0 lo=0∧HT.sIx xs.length xs.length hi=xs.length)∧∀ p,H p=none→Q (.ref p) (upd H p (.tup (V1 xs lo hi)))
def Ako (K:PySem.W.Frag):R2:=fun x y H Q=>∃ a b ns ms,x=.ref a∧y=.ref b∧SqT K H a (ns.map V.int)∧SqT K H b (ms.map V.int)∧Q (.bl (HT.lexLt ns ms)) H
def AjE (K:PySem.W.Frag):R2:=fun x y H Q=>∃ a b xs ys,x=.ref a∧y=.ref b∧SqT K H a xs∧SqT K H b ys∧xs≠[]∧xs.length+ys.length≤sizeLine ∧
 (ys=[]→Q (.ref a) H)∧(ys≠[]→∀ p,H p=none→Q (.ref p) (upd H p (.tup (xs++ys))))
end
open PySem PySem.Spec PyProof.Rows
def ixN (n:Nat)(i:Int):Option Nat:=if 0≤i then (if i<n then some i.toNat else none) else if -(n:Int)≤i then some (i+n).toNat else none
def atI {α:Type}(xs:List α)(i:Int):Option α:=(ixN xs.length i).bind fun j=>xs[j]?
theorem Aaf{n:Nat}{i:Int}{j:Nat}(h:ixN n i=some j):seqIndex? i n=some j∧j<n ∧ -(n:Int)≤i∧i<n:=by
 unfold ixN at h
 by_cases h0:0≤i
 ·rw[if_pos h0] at h
  by_cases h1:i<n
  ·rw[if_pos h1] at h
   have e:i.toNat=j:=Option.some.inj h
   exact⟨by rw[seqIndex_of h0 h1,e],by omega,by omega,h1⟩
  ·rw[if_neg h1] at h;cases h
 ·rw[if_neg h0] at h
  by_cases h1 : -(n:Int)≤i
  ·rw[if_pos h1] at h
   have e:(i+n).toNat=j:=Option.some.inj h
   exact⟨by rw[seqIndex_neg (by omega) h1,e],by omega,h1,by omega⟩
  ·rw[if_neg h1] at h;cases h
theorem V2{α:Type}{xs:List α}{i:Int}{v:α}(h:atI xs i=some v):∃ j,seqIndex? i xs.length=some j∧xs[j]?=some v∧j<xs.length ∧ -(xs.length:Int)≤i∧i<xs.length:=by
 unfold atI at h
 cases e:ixN xs.length i with
 | none=>rw[e] at h;cases h
 | some j =>
  rw[e] at h
  obtain⟨h1,h2,h3,h4⟩:=Aaf e
  exact⟨j,h1,h,h2,h3,h4⟩
theorem V3{α:Type}{xs:List α}{j:Nat}{v:α}(h:xs[j]?=some v):atI xs (j:Int)=some v:=by
 have hj:j<xs.length:=(List.getElem?_eq_some_iff.mp h).1
 have e:ixN xs.length (j:Int)=some j:=by
  unfold ixN
  rw[if_pos (by omega),if_pos (by omega)];simp
 unfold atI;rw[e];exact h
def Ad4 (b:Expr):Prop:=∀ o i,subscripted b false o i=operate [o,i] (getItem o i)
def IxR (X:Cx)(r:R2):Prop :=
 ∀(value slice:Expr) (pins:List (Addr × Obj)) (s:Shared) (σ:St) (H:Hp) (x y:V) (v u:Value) (Q:VK),Inv X pins σ H s→RelV x v→RelV y u→r x y H Q →
  subscripted slice false v u=operate [v,u] (getItem v u)→wpAny (model X.prog X.w) X.A (subscriptTail value slice v u) (EP X pins σ Q) X.xe s
def MtR (X:Cx)(id:String)(r:V→List V→Hp→VK→Prop):Prop :=
 ∀(pins:List (Addr × Obj)) (s:Shared) (σ:St) (H:Hp) (x:V) (xs:List V) (v:Value) (us:List Value) (Q:VK),Inv X pins σ H s→RelV x v→Vals xs us→r x xs H Q →
  wpAny (model X.prog X.w) X.A (call (.builtin id) (v::us)) (EP X pins σ Q) X.xe s
section
variable {X:Cx}{a b:Expr}{ta tb:TE}{pos:Pos}
theorem Ai{r:R2}(hr:IxR X r)(ha:PE X a ta)(hb:PE X b tb)(hs:Ad4 b):PE X (.Subscript a b pos) (tOp r ta tb):=by
 intro pins s σ H Q I h
 exact Subscript_ (Afl ha hb I h fun v u s2 x y H2 I2 rx ry q=>hr a b pins s2 σ H2 x y v u Q I2 rx ry q (hs _ _))
def Afu (K:PySem.W.Frag):R2:=fun x y H Q=>∃ p xs i v,x=.ref p∧y=.int i∧SqL K H p xs∧atI xs i=some v∧Q v H
def Afv (K:PySem.W.Frag):R2:=fun x y H Q=>∃ p xs i v,x=.ref p∧y=.int i∧SqT K H p xs∧atI xs i=some v∧Q v H
def Ahl:R2:=fun x y H Q=>∃ z i c,x=.str z∧y=.int i∧z.length≤sizeLine∧atI z.cps.toList i=some c∧Q (.str ⟨#[c]⟩) H
theorem Ad5:IxR X (Afu X.K):=by
 intro value slice pins s σ H x y v u Q I rx ry h hs
 obtain⟨p,xs,i,z,rfl,rfl,hq,he,q⟩:=h
 cases rx
 obtain⟨t,rfl⟩:=ry
 obtain⟨its,r,pl,hz⟩:=I.list hq
 obtain⟨j,h1,h2,h3,h4,h5⟩:=V2 he
 obtain⟨w,ew,rw'⟩:=r.get h2
 have hl:=r.length
 have hn:=Qk
 have fin:EP X pins σ Q w s:=⟨z,H,I,rw',q⟩
 by_cases h0:0≤i
 ·have hj:i.toNat=j:=by
   rw[seqIndex_of h0 h5] at h1
   exact Option.some.inj h1
  exact item_listR pl.isList h0 (by omega) (by rw[hj];simpa using ew) fin hs
 ·have hj:(i+(its.toArray.size:Int)).toNat=j:=by
   rw[seqIndex_neg (by omega) h4] at h1
   rw[AkO,← hl]
   exact Option.some.inj h1
  exact subscriptTail_builtinR (x:=w) pl.isList.typeIs slot_list_getitem.lookup
   (wpAny_getItem_list_neg (Q:=fun r s'=>r=w∧EP X pins σ Q r s') pl.isList (by omega) (by rw[AkO] <;> omega) (by omega) (by rw[hj];simpa using ew) ⟨rfl,fin⟩) hs
theorem Afw:IxR X (Afv X.K):=by
 intro value slice pins s σ H x y v u Q I rx ry h hs
 obtain⟨p,xs,i,z,rfl,rfl,hq,he,q⟩:=h
 cases rx
 obtain⟨t,rfl⟩:=ry
 obtain⟨its,r,pl,hz⟩:=I.tuple hq
 obtain⟨j,h1,h2,h3,h4,h5⟩:=V2 he
 obtain⟨w,ew,rw'⟩:=r.get h2
 have hl:=r.length
 have hn:=Qk
 have fin:EP X pins σ Q w s:=⟨z,H,I,rw',q⟩
 exact subscriptTail_builtinR (x:=w) pl.typeIs slot_tuple_getitem.lookup
  (getItem_tuple (j:=j) (Q:=fun r s'=>r=w∧EP X pins σ Q r s') pl (by omega) (by omega) (by rw[AkO,← hl];exact h1) (by simpa using ew) ⟨rfl,fin⟩) hs
theorem Bu:IxR X Ahl:=by
 intro value slice pins s σ H x y v u Q I rx ry h hs
 obtain⟨z,i,c,rfl,rfl,hz,he,q⟩:=h
 obtain⟨t,rfl⟩:=rx
 obtain⟨t',rfl⟩:=ry
 obtain⟨j,h1,h2,h3,h4,h5⟩:=V2 he
 have hl:z.cps.toList.length=z.length:=by simp[Str.length]
 rw[hl] at h1 h4 h5
 have hn:=Qk
 exact tail_any (typeIs_str s z t) slot_str_getitem.lookup (getItem_str (c:=c) (by
  have e1:decide (i < -(2 ^ 63:Int))=false:=decide_eq_false (by omega)
  have e2:decide (i ≥ 2 ^ 63)=false:=decide_eq_false (by omega)
  rw[e1,e2,Bool.or_false]) (by rw[h1];simpa using h2) ⟨.str ⟨#[c]⟩,H,I.tok _,⟨_,rfl⟩,q⟩) hs
def rIx (K:PySem.W.Frag):R2:=fun x y H Q=>Afu K x y H Q∨Afv K x y H Q∨Ahl x y H Q
theorem Zi(its:List Value)(n j:Nat)(u:Value):Obj.mapSeq (·.setIfInBounds j u) { cls:=.type "list", data:=.seq its.toArray n }={ cls:=.type "list", data:=.seq (its.set j u).toArray n }:=by
 simp[Obj.mapSeq]
theorem Inv.lst{pins:List (Addr × Obj)}{σ:St}{H:Hp}{s:Shared}{p:Addr}{xs:List V}(I:Inv X pins σ H s)(h:H p=some (.lst xs)) :
  ∃(its:List Value) (n:Nat),Vals xs its∧s.heap.get? p=some { cls:=.type "list", data:=.seq its.toArray n }∧xs.length≤sizeLine:=by
 obtain⟨z,its,n,r,e⟩:=I.hok p _ h
 exact⟨its,n,r,e,z⟩
theorem Inv.Afx{pins:List (Addr × Obj)}{σ:St}{H:Hp}{s:Shared}{p:Addr}{xs ys:List V}{its its':List Value}{n n':Nat}{f:Obj→Obj}(I:Inv X pins σ H s)(h:H p=some (.lst xs))
  (ho:s.heap.get? p=some { cls:=.type "list", data:=.seq its.toArray n }) (hf:f { cls:=.type "list", data:=.seq its.toArray n }={ cls:=.type "list", data:=.seq its'.toArray n' }) (r:Vals ys its') (hz:ys.length≤sizeLine) (t:Nat) :
  Inv X pins σ (upd H p (.lst ys)) { s with heap:=s.heap.update p f,toks:=t }:=by
 have e:(s.heap.update p f).get? p=some { cls:=.type "list", data:=.seq its'.toArray n' }:=by
  rw[Heap.get?_update_self f ho (by rw[hf] <;> rfl),hf]
 refine I.write (x:=p) (e:=p) (by rw[h];trivial) (.inl rfl) (fun b u hb q=>(Heap.get?_update_other _ _ (Ne.symm hb)).trans q) ⟨_,e⟩ ?_
 exact⟨hz,its',n',r,e⟩
def Ahm:V→V→V→Hp→(Hp→Prop)→Prop:=fun o i v H Q=>∃ p xs k j,o=.ref p∧i=.int k∧H p=some (.lst xs)∧ixN xs.length k=some j∧Q (upd H p (.lst (xs.set j v)))
theorem set_list:AgX X Ahm:=by
 intro pins s σ H o i v ov iv u Q I ro ri rv h
 obtain⟨p,xs,k,j,rfl,rfl,hp,hj,q⟩:=h
 cases ro
 obtain⟨t,rfl⟩:=ri
 obtain⟨its,n,r,ho,hz⟩:=I.lst hp
 obtain⟨h1,h2,h3,h4⟩:=Aaf hj
 have hl:=r.length
 have hn:=Qk
 have I':Inv X pins σ (upd H p (.lst (xs.set j v))) { s with heap:=s.heap.update p (Obj.mapSeq (·.setIfInBounds j u)) } :=
  I.Afx hp ho (Zi its n j u) (r.set rv j) (by rw[Al9];exact hz) s.toks
 by_cases h0:0≤k
 ·have hk:k.toNat=j:=by
   rw[seqIndex_of h0 h4] at h1
   exact Option.some.inj h1
  exact PySem.W.ki_setAt ho h0 (by omega) (by rw[AkO,← hl];exact h4) (by rw[hk];exact⟨_,I',q⟩)
 ·have hk:(k+(its.toArray.size:Int)).toNat=j:=by
   rw[seqIndex_neg (by omega) h3] at h1
   rw[AkO,← hl]
   exact Option.some.inj h1
  exact PySem.W.ki_setBack ho (by omega) (by rw[AkO,← hl];exact h3) (by omega) (by rw[hk];exact⟨_,I',q⟩)
theorem V4(lo hi:Option Int)(n:Nat):(sliceBounds lo hi none n).1=((HT.sIx n 0 lo:Nat):Int)∧(sliceBounds lo hi none n).2.1=((HT.sIx n n hi:Nat):Int)∧(sliceBounds lo hi none n).2.2=1:=by
 refine⟨?_,?_,rfl⟩
 ·cases lo with
  | none=>simp[sliceBounds,HT.sIx]
  | some i =>
   simp only [sliceBounds,HT.sIx,Option.getD_none,show(1:Int)>0 by decide,if_true]
   by_cases h:i<0
   ·simp only [h,if_true] <;> omega
   ·simp only [h,if_false] <;> omega
 ·cases hi with
  | none=>simp[sliceBounds,HT.sIx]
  | some i =>
   simp only [sliceBounds,HT.sIx,Option.getD_none,show(1:Int)>0 by decide,if_true]
   by_cases h:i<0
   ·simp only [h,if_true] <;> omega
   ·simp only [h,if_false] <;> omega
theorem Uo(its:List Value)(lo hi:Option Int):slicePick its.toArray lo hi none=((its.drop (HT.sIx its.length 0 lo)).take (HT.sIx its.length its.length hi-HT.sIx its.length 0 lo)).toArray:=by
 obtain⟨h1,h2,h3⟩:=V4 lo hi its.toArray.size
 unfold slicePick
 rw[h1,h2,h3]
 simp only [sliceRange_one,pick_run,AkO] <;> rfl
def Ahn (K:PySem.W.Frag):V→Option Int→Option Int→Hp→VK→Prop:=fun x lo hi H Q=>∃ a xs,x=.ref a∧SqL K H a xs∧∀ p,H p=none→Q (.ref p) (upd H p (.lst (V1 xs lo hi)))
theorem Ad6:SlR X (Ahn X.K):=by
 intro pins s σ H x v vl vu lo hi sl Q I rx hs pl pu h
 obtain⟨a,xs,rfl,hx,q⟩:=h
 cases rx
 obtain⟨its,r,ht,hz⟩:=I.list hx
 have hlen:=r.length
 refine⟨"list", _,slot_list_getitem.lookup,ht.isList.typeIs,?_⟩
 refine wpAny_getItem_list_slice ht.isList hs pl pu .none (by simp) ?_ (by rw[AkO] <;> omega)
 rw[Uo,← hlen]
 refine⟨.ref s.heap.objs.size,_,I.laid (t':=s.toks) (o:=.lst (V1 xs lo hi)) (fun b ob q=>Heap.get?_push_of_some _ q) (AkF _) ?_,rfl,q _ (I.hok.fresh (AkF _))⟩
 exact⟨AkZ (Xq xs lo hi) hz,_,0,(r.drop (HT.sIx xs.length 0 lo)).take (HT.sIx xs.length xs.length hi-HT.sIx xs.length 0 lo),Heap.get?_push_size _ rfl⟩
def Eg:V→Bool
 | .non=>true
 | .bl _=>true
 | .int _=>true
 | .str _=>true
 | _=>false
def eqV:V→V→Bool
 | .non,.non=>true
 | .bl a,.bl b=>a == b
 | .bl a,.int b=>(if a then 1 else 0) == b
 | .int a,.bl b=>a == (if b then 1 else 0)
 | .int a,.int b=>a == b
 | .str a,.str b=>a == b
 | _,_=>false
theorem V5{A:Around}{s:Shared}{y x:V}{u v:Value}(ry:RelV y u)(rx:RelV x v)(fy:Eg y=true)(fx:Eg x=true):SeqAt.EqAt A s u v (eqV y x):=by
 cases y with
 | non =>
  cases ry
  cases x with
  | non=>cases rx;exact SeqAt.EqAt.same _
  | bl b=>cases rx;exact SeqAt.EqAt.none_bool b
  | int b=>obtain⟨t,rfl⟩:=rx;exact SeqAt.EqAt.none_int b t
  | str b=>obtain⟨t,rfl⟩:=rx;exact SeqAt.EqAt.none_str b t
  | _=>exact absurd (show false=true from fx) AkW
 | bl a =>
  cases ry
  cases x with
  | non=>cases rx;exact SeqAt.EqAt.bool_none a
  | bl b=>cases rx;exact SeqAt.EqAt.bool_bool a b
  | int b=>obtain⟨t,rfl⟩:=rx;exact SeqAt.EqAt.bool_int a b t
  | str b=>obtain⟨t,rfl⟩:=rx;exact SeqAt.EqAt.bool_str a b t
  | _=>exact absurd (show false=true from fx) AkW
 | int a =>
  obtain⟨t',rfl⟩:=ry
  cases x with
  | non=>cases rx;exact SeqAt.EqAt.int_none a t'
  | bl b=>cases rx;exact SeqAt.EqAt.int_bool a t' b
  | int b=>obtain⟨t,rfl⟩:=rx;exact SeqAt.EqAt.int_int a t' b t
  | str b=>obtain⟨t,rfl⟩:=rx;exact SeqAt.EqAt.int_str a t' b t
  | _=>exact absurd (show false=true from fx) AkW
 | str a =>
  obtain⟨t',rfl⟩:=ry
  cases x with
  | non=>cases rx;exact SeqAt.EqAt.str_none a t'
  | bl b=>cases rx;exact SeqAt.EqAt.str_bool a t' b
  | int b=>obtain⟨t,rfl⟩:=rx;exact SeqAt.EqAt.str_int a t' b t
  | str b=>obtain⟨t,rfl⟩:=rx;exact SeqAt.EqAt.str_str a t' b t
  | _=>exact absurd (show false=true from fx) AkW
 | _=>exact absurd (show false=true from fy) AkW
def eqU (x:V)(u:Value):Bool:=match u with
 | .none=>eqV .non x
 | .bool b=>eqV (.bl b) x
 | .int i _=>eqV (.int i) x
 | .str z _=>eqV (.str z) x
 | _=>false
theorem AbP{x y:V}{u:Value}(r:RelV y u)(f:Eg y=true):eqU x u=eqV y x:=by
 cases y with
 | non=>cases r;rfl
 | bl b=>cases r;rfl
 | int i=>obtain⟨t,rfl⟩:=r;rfl
 | str z=>obtain⟨t,rfl⟩:=r;rfl
 | _=>exact absurd (show false=true from f) AkW
theorem Oj{x:V}:∀{xs:List V} {us:List Value},Vals xs us→xs.all Eg=true→us.any (eqU x)=xs.any fun y=>eqV y x
 | _,_,.nil,_=>rfl
 | y::xs,u::us,.cons r t,f=>by
  rw[AlR,Al2] at f
  rw[AlA,AlA,AbP r f.1,Oj t f.2]
theorem La{A:Around}{s:Shared}{x:V}{v:Value}(rx:RelV x v)(fx:Eg x=true):∀{xs:List V} {us:List Value},Vals xs us→xs.all Eg=true→∀ u∈us,SeqAt.EqAt A s u v (eqU x u)
 | _,_,.nil,_=>fun u hu=>by cases hu
 | y::xs,u::us,.cons r t,f=>fun u' hu=>by
  rw[AlR,Al2] at f
  rcases List.mem_cons.mp hu with rfl | hu
  ·rw[AbP r f.1];exact V5 r rx f.1 fx
  ·exact La rx fx t f.2 u' hu
def inV (x:V)(xs:List V):Bool:=xs.any fun y=>eqV y x
def rIn (K:PySem.W.Frag)(neg:Bool):R2:=fun x y H Q=>∃ p xs,y=.ref p∧(SqL K H p xs∨SqT K H p xs)∧Eg x=true∧xs.all Eg=true∧Q (.bl (if neg then !inV x xs else inV x xs)) H
theorem AaT:OpR X (compareOp .In) (rIn X.K false):=by
 intro pins s σ H x y v u Q I rx ry h
 obtain⟨p,xs,rfl,hq,fx,fs,q⟩:=h
 cases ry
 rcases hq with hq | hq
 ·obtain⟨its,r,pl,hz⟩:=I.list hq
  refine SeqAt.in_listAt (eqU x) pl.isList (fun w hw=>La rx fx r fs w (by simpa using hw)) ⟨.bl _,H,I,rfl,?_⟩
  rw[show its.toArray.any (eqU x)=its.any (eqU x) by simp,Oj r fs]
  exact q
 ·obtain⟨its,r,pl,hz⟩:=I.tuple hq
  refine SeqAt.in_tupleAt (eqU x) pl (fun w hw=>La rx fx r fs w (by simpa using hw)) ⟨.bl _,H,I,rfl,?_⟩
  rw[show its.toArray.any (eqU x)=its.any (eqU x) by simp,Oj r fs]
  exact q
theorem V6:OpR X (compareOp .NotIn) (rIn X.K true):=by
 intro pins s σ H x y v u Q I rx ry h
 obtain⟨p,xs,rfl,hq,fx,fs,q⟩:=h
 cases ry
 rcases hq with hq | hq
 ·obtain⟨its,r,pl,hz⟩:=I.list hq
  refine SeqAt.notIn_listAt (eqU x) pl.isList (fun w hw=>La rx fx r fs w (by simpa using hw)) ⟨.bl _,H,I,rfl,?_⟩
  rw[show its.toArray.any (eqU x)=its.any (eqU x) by simp,Oj r fs]
  exact q
 ·obtain⟨its,r,pl,hz⟩:=I.tuple hq
  refine SeqAt.notIn_tupleAt (eqU x) pl (fun w hw=>La rx fx r fs w (by simpa using hw)) ⟨.bl _,H,I,rfl,?_⟩
  rw[show its.toArray.any (eqU x)=its.any (eqU x) by simp,Oj r fs]
  exact q
theorem V7:HD X (.builtin "len") (fun xs H Q=>∃ p ys,xs=[.ref p]∧(SqL X.K H p ys∨SqT X.K H p ys)∧Q (.int ys.length) H):=by
 intro pins s σ H xs us Q I r h
 obtain⟨p,ys,rfl,hq,q⟩:=h
 obtain⟨u,rfl,rx⟩:=vals1 r
 cases rx
 have hn:=Qk
 rcases hq with hq | hq
 ·obtain⟨its,r',pl,hz⟩:=I.list hq
  have hlen:=r'.length
  exact Calls.call_len_list pl.isList (by simp only [AkO] <;> omega) ⟨.int ys.length,H,I.tok _,⟨s.toks+1,by rw[AkO,hlen]⟩,q⟩
 ·obtain⟨its,r',pl,hz⟩:=I.tuple hq
  have hlen:=r'.length
  exact len_tuple pl (by simp only [AkO] <;> omega) ⟨.int ys.length,H,I.tok _,⟨s.toks+1,by rw[AkO,hlen]⟩,q⟩
theorem Ay:HD X (.builtin "len") (fun xs H Q=>∃ z,xs=[.str z]∧z.length≤sizeLine∧Q (.int z.length) H):=by
 intro pins s σ H xs us Q I r h
 obtain⟨z,rfl,hz,q⟩:=h
 obtain⟨u,rfl,t,rfl⟩:=vals1 r
 have hn:=Qk
 exact len_str (by omega) ⟨.int z.length,H,I.tok _,⟨_,rfl⟩,q⟩
theorem V8:HD X (.type "list") (fun xs H Q=>∃ p ys,xs=[.ref p]∧(SqL X.K H p ys∨SqT X.K H p ys)∧∀ l,H l=none→Q (.ref l) (upd H l (.lst ys))):=by
 intro pins s σ H xs us Q I r h
 obtain⟨p,ys,rfl,hq,q⟩:=h
 obtain⟨u,rfl,rx⟩:=vals1 r
 cases rx
 have fin:∀(its:List Value),Vals ys its→ys.length≤sizeLine→∀(h':Heap) (c':Nat),(∀ b o',s.heap.get? b=some o'→h'.get? b=some o') →
   h'.get? s.heap.objs.size=some { cls:=.type "list", dict:=none,data:=.seq its.toArray c',slots:=#[] }→EP X pins σ Q (.ref s.heap.objs.size) { s with heap:=h' }:=fun its r' hz h' c' kp e =>
  ⟨.ref s.heap.objs.size,_,I.laid (t':=s.toks) kp (AkF _) (show Ea X.prog X.w _ h' _ (.lst ys) from⟨hz,its,c',r',e⟩),rfl,q _ (I.hok.fresh (AkF _))⟩
 rcases hq with hq | hq
 ·obtain⟨its,r',pl,hz⟩:=I.list hq
  have hlen:=r'.length
  obtain⟨o,ho,hc,n,hd⟩:=pl.isList
  exact call_list_seq p (.inl rfl) ho hc hd (fun h' c' kp e=>fin its r' hz h' c' kp e) (by simp only [AkO] <;> omega)
 ·obtain⟨its,r',pl,hz⟩:=I.tuple hq
  have hlen:=r'.length
  obtain⟨o,ho,hc,n,hd⟩:=pl
  exact call_list_seq p (.inr rfl) ho hc hd (fun h' c' kp e=>fin its r' hz h' c' kp e) (by simp only [AkO] <;> omega)
def tyV (K:PySem.W.Frag)(T:String)(x:V)(H:Hp):Prop:=match x with
 | .str _=>T = "str"
 | .int _=>T = "int"
 | .ref p=>(T = "list" ∧ ∃ xs,SqL K H p xs)∨(T = "tuple" ∧ ∃ o,K.lookup p=some o∧o.cls=.type "tuple" ∧ o.dict=none) ∨
   (T = "dict" ∧ ((∃ kvs,H p=some (.dK kvs))∨∃ kvs,H p=some (.dT kvs)))∨(T = "set" ∧ ∃ S n,H p=some (.set S n))
 | _=>False
theorem Afy{pins:List (Addr × Obj)}{σ:St}{H:Hp}{s:Shared}{T:String}{x:V}{v:Value}(I:Inv X pins σ H s)(r:RelV x v)(ty:tyV X.K T x H) :
  s.TypeIs v T∧∀ a,v=.ref a→∃ ob,s.heap.get? a=some ob∧ob.dict=none:=by
 cases x with
 | str z =>
  obtain⟨t,rfl⟩:=r
  cases (show T = "str" from ty)
  exact⟨typeIs_str s z t,fun _ e=>nomatch e⟩
 | int i =>
  obtain⟨t,rfl⟩:=r
  cases (show T = "int" from ty)
  exact⟨typeIs_int s i t,fun _ e=>nomatch e⟩
 | ref p =>
  cases r
  rcases ty with ⟨rfl,xs,hq⟩ | ⟨rfl,o,hk,hc,hd⟩ | ⟨rfl,hk⟩ | ⟨rfl,S,n,hk⟩
  ·obtain⟨its,_,pl,_⟩:=I.list hq
   refine⟨pl.isList.typeIs,fun a e=>?_⟩
   cases e
   obtain⟨o,n,e,c,hd,_⟩:=pl
   exact⟨o,e,hd⟩
  ·refine⟨⟨o,I.kIn p o hk,hc⟩,fun a e=>?_⟩
   cases e
   exact⟨o,I.kIn _ o hk,hd⟩
  ·have z:∃ o,s.heap.get? p=some o∧o.ExactDict:=by
    rcases hk with ⟨kvs,hk⟩ | ⟨kvs,hk⟩
    ·obtain⟨_,_,_,_,o,_,_,e,ex,_⟩:=I.hok p _ hk
     exact⟨o,e,ex⟩
    ·obtain⟨_,_,_,_,o,_,_,e,ex,_⟩:=I.hok p _ hk
     exact⟨o,e,ex⟩
   obtain⟨o,e,ex⟩:=z
   refine⟨⟨o,e,ex.1⟩,fun a e2=>?_⟩
   cases e2
   exact⟨o,e,ex.2.1⟩
  ·obtain⟨o,_,_,_,e,ex,_⟩:=I.hok p _ hk
   refine⟨⟨o,e,ex.1⟩,fun a e2=>?_⟩
   cases e2
   exact⟨o,e,ex.2.1⟩
 | _=>exact False.elim ty
def Akp (K:PySem.W.Frag)(T:String)(r:V→List V→Hp→VK→Prop)(to:TE):TE:=fun σ H Q=>to σ H fun x H1=>tyV K T x H1∧r x [] H1 Q
def tBM (K:PySem.W.Frag)(T:String)(r:V→List V→Hp→VK→Prop)(to:TE)(t:TA):TE:=fun σ H Q=>to σ H fun x H1=>tyV K T x H1∧t σ H1 fun xs H2=>r x xs H2 Q
variable {o e:Expr}{es:List Expr}{to:TE}{t:TA}{name:Str}{apos cpos:Pos}{T id:String}{r:V→List V→Hp→VK→Prop}
theorem Aho(pa:PlainAttrs T)(slot:Slot T name id)(hty:typeOf (.builtin id)=pure (.type "method_descriptor")) (hm:MtR X id r) (ho:PE X o to) (ha:PA X (e::es) t)
  (hbase:attributeBase o name X.env (eval o X.env)=eval o X.env:=by rfl)
  (hfew:((backTo cpos (starEach (e::es) X.env)).all (fun x=>!x.1) && (backToKw cpos (keywordEach [] X.env)).all (fun x=>x.1.isSome)
   && decide ((e::es).length+([]:List Keyword).length+(if ([]:List Keyword).isEmpty then 0 else 1)<30))=true:=by rfl)
  (hline:(apos.endLine == cpos.line)=true:=by rfl) (hs:starEach (e::es) X.env=(false,eval e X.env)::starEach es X.env:=by rfl) (hplain:(backTo cpos (starEach es X.env)).any (·.1)=false:=by rfl) :
  PE X (.Call (.Attribute o name apos) (e::es) [] cpos) (tBM X.K T r to t):=by
 intro pins s σ H Q I h
 refine wpAny_Call_method_late hbase hfew hline rfl (thn (ho pins s σ H _ I h) fun v s1 ⟨x,H1,I1,r1,ty,q1⟩=>?_)
 obtain⟨h1,h2⟩:=Afy I1 r1 ty
 refine⟨T,id,pa,slot,hty,h1,h2,?_⟩
 have hA:=ha cpos pins s1 σ H1 _ I1 q1
 rw[hs] at hA ⊢
 refine Calls.callWith_builtin (by show(false || (backTo cpos (starEach es X.env)).any (·.1))=false;rw[hplain] <;> rfl) (Calls.evalArgs_plain ?_)
 exact thn hA fun us s2 ⟨vs,H2,I2,r2,q2⟩=>hm pins s2 σ H2 x vs v us Q I2 r1 r2 q2
end
open PySem PySem.Spec PyProof.Rows
def MtM (X:Cx)(id:String)(r:V→List V→Hp→VK→Prop):Prop :=
 ∀(pins:List (Addr × Obj)) (s:Shared) (σ:St) (H:Hp) (x:V) (xs:List V) (v:Value) (us:List Value) (Q:VK),Inv X pins σ H s→RelV x v→Vals xs us→r x xs H Q →
  wpAny (model X.prog X.w) X.A (call (.builtin id) (v::us)) (EP X pins σ Q) X.xe s
theorem Vals.one:∀{x:V} {us:List Value},Vals [x] us→∃ u,us=[u]∧RelV x u
 | _,_,.cons r .nil=>⟨_,rfl,r⟩
theorem Vals.two:∀{x y:V} {us:List Value},Vals [x,y] us→∃ u v,us=[u,v]∧RelV x u∧RelV y v
 | _,_,_,.cons r (.cons q .nil)=>⟨_,_,rfl,r,q⟩
theorem Vals.eraseIdx:∀{xs:List V} {us:List Value} (i:Nat),Vals xs us→Vals (xs.eraseIdx i) (us.eraseIdx i)
 | _,_,_,.nil=>.nil
 | _,_,0,.cons _ t=>t
 | _,_,i+1,.cons r t=>.cons r (Vals.eraseIdx i t)
theorem UL{α:Type}:∀(l:List α) (i:Nat),(l.eraseIdx i).length≤l.length
 | [],_=>AkF _
 | _::_,0=>Alw _
 | _::r,i+1=>Nat.succ_le_succ (UL r i)
section
variable {X:Cx}{pins:List (Addr × Obj)}{σ:St}{H:Hp}{s:Shared}{l b:Addr}{xs ys zs:List V}
theorem Inv.Ahp{its its':List Value}{n:Nat}{f:Array Value→Array Value}{t':Nat}(I:Inv X pins σ H s)(hH:H l=some (.lst xs))
  (e:s.heap.get? l=some { cls:=.type "list", data:=.seq its.toArray n }) (hf:f its.toArray=its'.toArray) (hv:Vals ys its') (hz:ys.length≤sizeLine) :
  Inv X pins σ (upd H l (.lst ys)) { s with heap:=s.heap.update l (Obj.mapSeq f),toks:=t' }:=by
 have q:=PySem.IsL.update e f
 rw[hf] at q
 refine I.write (x:=l) (e:=l) (by rw[hH];exact trivial) (.inl rfl) (fun b' u hb hu=>(Heap.get?_update_other s.heap (Obj.mapSeq f) (Ne.symm hb)).trans hu) ⟨_,q⟩ ?_
 exact⟨hz,its',_,hv,q⟩
theorem Inv.AiW{its:List Value}{t':Nat}(I:Inv X pins σ H s)(hv:Vals ys its)(hz:ys.length≤sizeLine) :
  Inv X pins σ (upd H s.heap.objs.size (.lst ys)) { s with heap:=s.heap.push { cls:=.type "list", data:=.seq its.toArray },toks:=t' } :=
 I.laid (fun _ _ q=>Heap.get?_push_of_some _ q) (AkF _) ⟨hz,its,0,hv,Heap.get?_push_size _ rfl⟩
theorem Inv.fresh(I:Inv X pins σ H s):H s.heap.objs.size=none:=I.hok.fresh (AkF _)
theorem Inv.AbQ(I:Inv X pins σ H s)(hH:H l=some (.lst xs)):xs.length≤sizeLine∧∃(its:List Value) (n:Nat),Vals xs its∧xs.length=its.length∧s.heap.get? l=some { cls:=.type "list", data:=.seq its.toArray n }:=by
 obtain⟨z,its,n,r,e⟩:=I.hok l _ hH
 exact⟨z,its,n,r,r.length,e⟩
end
section
variable {X:Cx}
def Ad7:V→List V→Hp→VK→Prop:=fun x vs H Q=>∃ l xs y,x=.ref l∧vs=[y]∧H l=some (.lst xs)∧xs.length<sizeLine∧Q .non (upd H l (.lst (xs++[y])))
theorem BL:MtM X "list.append" Ad7:=by
 intro pins s σ H x vs v us Q I rx rv h
 obtain⟨l,xs,y,rfl,rfl,hH,hz,q⟩:=h
 cases rx
 obtain⟨u,rfl,ru⟩:=rv.one
 obtain⟨z,its,n,r,hl,e⟩:=I.AbQ hH
 refine call_meets F.slot_list_append ⟨_,e,rfl⟩ F.entry_list_append (F.args_list_append_2 _ _) (PySem.list_append l its.toArray n u (by rw[AkO];omega)) ⟨e,?_⟩
 refine⟨.non,_,I.Ahp (its':=its++[u]) hH e (by simp) (r.append (.cons ru .nil)) ?_,rfl,q⟩
 rw[AkG,Ali]
 omega
def Ai5:V→List V→Hp→VK→Prop:=fun x vs H Q=>∃ l b xs zs,x=.ref l∧vs=[.ref b]∧H l=some (.lst xs)∧H b=some (.lst zs)∧xs.length+zs.length≤sizeLine∧Q .non (upd H l (.lst (xs++zs)))
def Akq:V→List V→Hp→VK→Prop:=fun x vs H Q=>∃ l xs y,x=.ref l∧vs=[]∧H l=some (.lst xs)∧xs[xs.length-1]?=some y∧Q y (upd H l (.lst xs.dropLast))
def AiX:V→List V→Hp→VK→Prop:=fun x vs H Q=>∃ l xs i k y,x=.ref l∧vs=[.int i]∧H l=some (.lst xs) ∧ -(2 ^ 63)≤i∧i<2 ^ 63∧seqIndex? i xs.length=some k∧xs[k]?=some y∧Q y (upd H l (.lst (xs.eraseIdx k)))
def Ahq:V→List V→Hp→VK→Prop:=fun x vs H Q=>∃ l xs,x=.ref l∧vs=[]∧H l=some (.lst xs)∧Q .non (upd H l (.lst xs.reverse))
def AiY:V→List V→Hp→VK→Prop:=fun x vs H Q=>∃ l xs,x=.ref l∧vs=[]∧H l=some (.lst xs)∧Q .non (upd H l (.lst []))
def AiZ:R2:=fun x y H Q=>∃ l b xs zs,x=.ref l∧y=.ref b∧H l=some (.lst xs)∧H b=some (.lst zs)∧xs.length+zs.length≤sizeLine∧∀ p,H p=none→Q (.ref p) (upd H p (.lst (xs++zs)))
theorem V9:OpR X (binaryOp .Add) AiZ:=by
 intro pins s σ H x y v u Q I rx ry h
 obtain⟨l,b,xs,zs,rfl,rfl,hH,hB,hz,q⟩:=h
 cases rx
 cases ry
 obtain⟨z,its,n,r,hl,e⟩:=I.AbQ hH
 obtain⟨z2,its2,n2,r2,hl2,e2⟩:=I.AbQ hB
 refine PySem.P.add_list e e2 ?_ (by rw[AkO,AkO];omega)
 have ea:its.toArray++its2.toArray=(its++its2).toArray:=by simp
 rw[ea]
 exact⟨.ref _,_,I.AiW (t':=s.toks) (r.append r2) (by rw[AkG];omega),rfl,q _ I.fresh⟩
def Akr:R2:=fun x y H Q=>∃ l k xs,x=.ref l∧y=.int k∧H l=some (.lst xs) ∧ -(2 ^ 63)≤k∧k<2 ^ 63∧xs.length*k.toNat≤sizeLine ∧
 ∀ p,H p=none→Q (.ref p) (upd H p (.lst (List.replicate k.toNat xs).flatten))
end
section
variable {prog:Program}{w:World}{A:Around}{E:Value→Shared→Prop}{s:Shared}
end
section
variable {X:Cx}
end
end L2
namespace Att
open PySem PySem.W PySem.Calls PyProof.Rows
theorem Rr{P:Params}{h:Heap}:∀(ns:List Int) (vs:List Value),WellAll P h vs (ns.map WData.int)→IntsAre vs ns:=by
 intro ns
 induction ns with
 | nil =>
  intro vs w
  rw[Al1] at w
  cases w
  exact .nil
 | cons n ns ih =>
  intro vs w
  rw[AkQ] at w
  cases w with
  | cons a b =>
   cases a
   exact .cons _ _ (ih _ b)
theorem AaU{l:OpenLaw}{n:Nat}(hn:l.most=some n){P:Params}{h:Heap}{args:List WData}{vals:List Value}
  (hpre:l.row.toRowW.claim.pre args=true) (hwl:WellAll P h vals args) :
  ∃ a vs ns,vals=[Value.ref a]∧args=[WData.list (ns.map WData.int)]∧h.get? a=some { cls:=.type "list", data:=.seq vs.toArray }∧IntsAre vs ns∧ns.length≤n:=by
 have hsh:WShape.hasAll [] args [.list .int]=true:=(pre_splitW hpre).1
 have hc:l.pre.holds [] { args:=args }=true:=(pre_splitW hpre).2
 obtain⟨d,r,rfl,h1,h2⟩:=hasAllW_cons hsh
 obtain rfl:=hasAllW_nil h2
 obtain⟨xs,rfl,h3⟩:=hasW_list h1
 obtain⟨ns,rfl⟩:=items_int h3
 have hlen:ns.length≤n:=by
  unfold OpenLaw.pre at hc
  have h4:(WTm.not (.lt (.lit (.int (n:Int))) (.len (.arg 0)))).holds [] { args:=[.list (ns.map .int)] }=true:=by
   have h4:=(holds_andW hc).1
   rw[hn] at h4
   exact h4
  have h5:=condW_of h4 (w_not (w_lt w_lit (w_len_list (w_arg rfl))))
  rw[AkE] at h5
  refine Nat.le_of_not_lt fun q=>?_
  have q':(n:Int)<((ns.length:Nat):Int):=by omega
  first
   | (rw[decide_eq_true q'] at h5;exact absurd h5 (by decide))
   | (simp at h5;omega)
 cases hwl with
 | cons w1 w2 =>
  cases w2
  cases w1 with
  | list ho hall=>exact⟨_,_,ns,rfl,rfl,ho,Rr ns _ hall,hlen⟩
theorem AaV(l:OpenLaw)(args:List WData):l.row.toRowW.claim.post args (.bool true) args=true :=
 postW_of (r:=l.row.toRowW) (X:=(true == true))
  (show WShape.has [] (.bool true) .bool=true by first | rfl | decide | simp[WShape.has,WShape.arms,WShape.armsAll])
  (show(WTm.eq .res (.lit (.bool true))).value [] { args:=args,res:=some (.bool true),after:=args }=some (.bool (true == true)) from w_eq_bool (w_res rfl) w_lit) rfl
theorem Xr{l:OpenLaw}{n:Nat}{q:Program}{loose:List Str}{XP:(Str→Option Value)→Heap→Prop}{YP:World→Heap→Prop}{d:DefRec}
  (hn:l.most=some n) (hdf:d.params.defaults=[])
  (call:∀(w:World) (s₀ s₁:Shared) (mg mb:Str→Option Value) (fa:Addr) (o:Obj) (pm cd doc:Value) (a:Addr) (vs:List Value) (ns:List Int),
   Ground q loose [] XP w s₀ mg mb s₁.heap→YP w s₁.heap →
   s₁.heap.get? fa=some o→o.data=.func (docDef d.name d.params d.body d.scope pm cd doc)→s₁.heap.CodeRec cd d.name→mg d.name=some (.ref fa) →
   s₁.heap.get? a=some { cls:=.type "list", data:=.seq vs.toArray }→IntsAre vs ns→ns.length≤n→s₁.gens=#[] →
   codeAny (model l.prog w) callerA (.call (.ref fa) ⟨[.ref a],[]⟩) (fun r s'=>r=.ok (.ret (.bool true))∧OldK s₁.heap s'.heap∧s'.os=s₁.os∧AllBare s'.gens) s₁) :
  WalkO q loose XP YP l.row.toRowW d [] (fun f vs=>PySem.call f vs):=by
 intro w s₀ s₁ mg mb G Y fa o pm cd doc dV kV ho hd hcd hD hmg hg args vals as hpre hlay hrd hwl hlo
 obtain rfl:dV=.none:=Dflts.none hD hdf
 obtain rfl:kV=.none:=Dflts.noKw hD
 obtain⟨a,vs,ns,rfl,rfl,hobj,hints,hlen⟩:=AaU hn hpre hwl
 refine enter_call (codeAny_mono (call w s₀ s₁ mg mb fa o pm cd doc a vs ns G Y ho (fd_plain hd) hcd hmg hobj hints hlen hg) fun r s' hq=>?_)
 obtain⟨rfl,h2,h3,h4⟩:=hq
 exact⟨.inl ⟨.bool true,.bool true,[],rfl,fun _=>rfl,.bool true,AaV l _,fun _=>⟨List.Pairwise.nil,fun _ hm=>(nomatch hm)⟩⟩,h2,h3,h4⟩
section
variable {prog:Program}{w:World}{A:Around}{E:Value→Shared→Prop}{s:Shared}{K:Frag}
def Aja (h:Heap):Heap:={ h with objs:=#[] }
def ledger(h:Heap)(L d:Addr):List (Addr × Obj):=(List.range h.objs.size).filterMap fun a=>if a=L∨a=d then none else (h.get? a).map fun o=>(a,o)
end
end Att
namespace L2
open PySem PySem.Spec PyProof.Rows
theorem Qn:∀{vs:List Value} {ns:List Int},IntsAre vs ns→Vals (ns.map V.int) vs
 | _,_,.nil=>.nil
 | _,_,.cons n t h=>.cons ⟨t,rfl⟩ (Qn h)
def Only(H:Hp):Prop:=∀ b,H b=none∨∃ o xs,H b=some (.frz o (.lst xs))
theorem AbR{P:Program}{w:World}{K:PySem.W.Frag}{mg mb:Str→Option Value}{CX:CXT}{k:Nat}{fa a:Addr}{fd:FuncData}{x:Str}{sp:Sp}{s₁:Shared}{vs:List Value}{ns:List Int}
  (KX:K.In s₁.heap) (hns:s₁.heap.Ns mainGlobals mg) (hb:s₁.heap.Ns builtinsNs mb) (hbb:∀ x:Str,x ≠ "__name__" → mb x=bootBuiltins x) (hlim:s₁.heap.NoLimit) (hg:s₁.gens=#[])
  (ha:s₁.heap.get? a=some { cls:=.type "list", data:=.seq vs.toArray }) (hi:IntsAre vs ns) (hl:ns.length≤sizeLine) (hr:G6 k callerA)
  (F:∀ base:Heap,K.In base→base.Ns mainGlobals mg→BP P w K mg base CX k fa fd [x] sp) (hbind:∀(s:Shared) (u:Value),BindsTo s fd ⟨[u],[]⟩ [(x,u)])
  (hsp:∀ H:Hp,Only H→SqL K H a (ns.map V.int)→sp [.ref a] H (fun v _=>v=.bl true) fun _ _ _=>False)
  (hCX:∀ H e s',CX [] H s₁ (fun _ _ _=>False) e s'→False) :
  codeAny (model P w) callerA (.call (.ref fa) ⟨[.ref a],[]⟩) (fun r s'=>r=.ok (.ret (.bool true))∧OldK s₁.heap s'.heap∧s'.os=s₁.os∧AllBare s'.gens) s₁:=by
 have rv:=Qn hi
 have lenV:=hi.length
 have core:∀ H:Hp,Only H→SqL K H a (ns.map V.int)→HOk P w H s₁.heap→(∀ b,H b≠none→b=a)→(H a≠none→K.lookup a=none) →
   codeAny (model P w) callerA (.call (.ref fa) ⟨[.ref a],[]⟩) (fun r s'=>r=.ok (.ret (.bool true))∧OldK s₁.heap s'.heap∧s'.os=s₁.os∧AllBare s'.gens) s₁:=by
  intro H hO hS hok hA hK
  have Aag:∀{b:Addr} {o:Obj},s₁.heap.get? b=some o→H b=none→(Vt s₁.heap H).get? b=some o:=fun e n=>AbE e n
  have noA:∀{b:Addr} {o:Obj} {es:Array DictEntry} {ep:Nat},s₁.heap.get? b=some o→o.data=.dict es ep→H b=none:=fun {b o es ep} e d=>by
   cases q:H b with
   | none=>rfl
   | some u =>
    have e':b=a:=hA b (by rw[q];simp)
    subst e'
    rw[ha] at e;cases e
    have d':Data.seq vs.toArray _=Data.dict es ep:=d
    cases d'
  have nsK:∀{b:Addr} {m:Str→Option Value},s₁.heap.Ns b m→(Vt s₁.heap H).Ns b m:=fun {b m} ⟨o,es,ep,e,d,r⟩=>⟨o,es,ep,Aag e (noA e d),d,r⟩
  have hKb:K.In (Vt s₁.heap H):=fun b o e=>Aag (KX b o e) (by
   cases q:H b with
   | none=>rfl
   | some u =>
    have e':b=a:=hA b (by rw[q];simp)
    subst e'
    rw[hK (by rw[q];simp)] at e;cases e)
  have hM:Mod K mg (Vt s₁.heap H):=⟨hKb,nsK hns,⟨mb,nsK hb,hbb⟩,let ⟨mc,h1,h2⟩:=hlim;⟨mc,nsK h1,h2⟩⟩
  have e0:Zh P w K mg (Vt s₁.heap H) callerA [] s₁ H:=⟨rfl,hM,fun b o e=>Adt e,Al4 (AaL _ _),trivial,fun b hb=>absurd (show b∈([]:List Addr) from hb) (by simp),hok,.of_eq hg⟩
  refine codeAny_mono ((F _ hKb (nsK hns)).run callerA [] s₁ H ⟨[.ref a],[]⟩ [.ref a] [.ref a] _ _ hr e0 (hbind s₁ (.ref a)) (.cons rfl .nil) (hsp H hO hS)) fun r s' h=>?_
  cases r with
  | error e=>exact(hCX H e s' h).elim
  | ok fl =>
   cases fl with
   | next=>exact False.elim h
   | brk=>exact False.elim h
   | cont=>exact False.elim h
   | ret u =>
    obtain⟨v,H',os,bare,un,hok',r',q⟩:=h
    have q':v=.bl true:=q
    subst q'
    obtain rfl:u=Value.bool true:=r'
    refine⟨rfl,OldK.of_keep fun b o e=>?_,os,bare⟩
    cases q:H b with
    | none=>exact un.keep b o e q (by intro z;exact absurd (show b∈([]:List Addr) from z) (by simp)) (by simp)
    | some u =>
     rcases hO b with z | ⟨ob,xs,z⟩
     ·rw[q] at z;cases z
     ·have z2:=un.Nt b ob _ z
      obtain⟨e1,_⟩:=hok b _ z
      obtain⟨e2,_⟩:=hok' b _ z2
      rw[e] at e1;cases e1
      exact e2
 cases hk:K.lookup a with
 | some o =>
  have e:=KX a o hk
  rw[ha] at e
  cases e
  refine core (fun _=>none) (fun _=>.inl rfl) (.inr ⟨_,vs.toArray,_,hk,rfl,rfl,rfl,by rw[AkO,lenV];exact hl,by simpa using rv⟩) (fun b u z=>by have z':(none:Option HO)=some u:=z;cases z') (fun b z=>absurd rfl z) fun z=>absurd rfl z
 | none =>
  refine core (fun b=>if b=a then some (.frz { cls:=.type "list", data:=.seq vs.toArray } (.lst (ns.map V.int))) else none) (fun b=>?_) (.inl (.inr ⟨{ cls:=.type "list", data:=.seq vs.toArray },if_pos rfl⟩)) (fun b u z=>?_) (fun b z=>?_) fun _=>hk
  ·by_cases hb:b=a
   ·exact .inr ⟨_,_,if_pos hb⟩
   ·exact .inl (if_neg hb)
  ·by_cases hb:b=a
   ·have z':=(if_pos hb).symm.trans z
    cases z'
    subst hb
    exact⟨ha,by rw[AkE];exact hl,vs,_,rv,ha⟩
   ·have z':=(if_neg hb).symm.trans z
    cases z'
  ·by_cases hb:b=a
   ·exact hb
   ·exact absurd (if_neg hb) z
open PySem PySem.Spec PyProof.Rows
abbrev KOf {K:PySem.W.Frag} {h:Heap} (_:K.In h):PySem.W.Frag:=K
theorem Ad8{l:PySem.W.OpenLaw}{n k:Nat}{q:Program}{loose:List Str}{XP:(Str→Option Value)→Heap→Prop}{YP:World→Heap→Prop}{d:DefRec}{K:Params→PySem.W.Frag}{CX:World→CXT}{sp:World→Sp}{x:Str}
  (hn:l.most=some n) (hn2:n≤sizeLine) (hdf:d.params.defaults=[]) (hr:G6 k callerA)
  (hY:∀(w:World) (h:Heap),YP w h→(K w.params).In h)
  (F:∀(w:World) (mg:Str→Option Value) (fa:Addr) (h:Heap),(K w.params).In h→h.Ns mainGlobals mg→mg d.name=some (.ref fa) →
   ∃ fd:FuncData,(∀(s:Shared) (u:Value),BindsTo s fd ⟨[u],[]⟩ [(x,u)]) ∧
    ∀ base:Heap,(K w.params).In base→base.Ns mainGlobals mg→BP l.prog w (K w.params) mg base (CX w) k fa fd [x] (sp w))
  (hsp:∀(w:World) (H:Hp) (a:Addr) (ns:List Int),ns.length≤n→Only H→SqL (K w.params) H a (ns.map V.int)→sp w [.ref a] H (fun v _=>v=.bl true) fun _ _ _=>False)
  (hCX:∀(w:World) (H:Hp) (s:Shared) (e:Value) (s':Shared),CX w [] H s (fun _ _ _=>False) e s'→False) :
  PySem.W.WalkO q loose XP YP l.row.toRowW d [] (fun f vs=>PySem.call f vs):=by
 refine Att.Xr hn hdf fun w s₀ s₁ mg mb fa o pm cd doc a vs ns G Y ho hd hcd hmg hobj hints hlen hg=>?_
 have KX:=hY w _ Y
 obtain⟨fd,hb,hF⟩:=F w mg fa _ KX G.T.g hmg
 exact AbR KX G.T.g G.T.b G.T.builtins G.T.nolimit hg hobj hints (AkZ hlen hn2) hr hF hb (fun H hO hS=>hsp w H a ns hlen hO hS) fun H e s'=>hCX w H s₁ e s'
theorem AbS{l:PySem.W.OpenLaw}{n k:Nat}{q:Program}{loose:List Str}{XP:(Str→Option Value)→Heap→Prop}{YP:World→Heap→Prop}{d:DefRec}{K:Params→PySem.W.Frag}{CX:CXT}{sp:PySem.W.Frag→Sp}{x:Str}
  (hn:l.most=some n) (hn2:n≤sizeLine) (hdf:d.params.defaults=[]) (hr:G6 k callerA)
  (hY:∀(w:World) (h:Heap),YP w h→(K w.params).In h)
  (F:∀(w:World) (mg:Str→Option Value) (fa:Addr) (h:Heap),(K w.params).In h→h.Ns mainGlobals mg→mg d.name=some (.ref fa) →
   ∃ fd:FuncData,(∀(s:Shared) (u:Value),BindsTo s fd ⟨[u],[]⟩ [(x,u)]) ∧
    ∀ base:Heap,(K w.params).In base→base.Ns mainGlobals mg→BP l.prog w (K w.params) mg base CX k fa fd [x] (sp (K w.params)))
  (hsp:∀(K:PySem.W.Frag) (H:Hp) (a:Addr) (ns:List Int),ns.length≤n→Only H→SqL K H a (ns.map V.int)→sp K [.ref a] H (fun v _=>v=.bl true) fun _ _ _=>False)
  (hCX:∀(H:Hp) (s:Shared) (e:Value) (s':Shared),CX [] H s (fun _ _ _=>False) e s'→False) :
  PySem.W.WalkO q loose XP YP l.row.toRowW d [] (fun f vs=>PySem.call f vs) :=
 Ad8 (K:=K) (CX:=fun _=>CX) (sp:=fun w=>sp (K w.params)) hn hn2 hdf hr hY F (fun w H a ns h1 h2 h3=>hsp (K w.params) H a ns h1 h2 h3) fun _ H s e s'=>hCX H s e s'
open PySem PySem.Spec PyProof.Rows
def inClass(s:Stmt)(j:Nat):Stmt:=match s with
 | .ClassDef _ _ _ body _ _ _ _ _ _ _=>body.getD j (.Pass ⟨0,0,0,0⟩)
 | _=>.Pass ⟨0,0,0,0⟩
def JZ (s:Stmt):Arguments:=match s with
 | .FunctionDef _ a _ _ _ _ _ _ _ _=>a
 | _=>{ posonlyargs:=[],args:=[],vararg:=none,kwonlyargs:=[],kw_defaults:=[],kwarg:=none,defaults:=[] }
def IW (s:Stmt):List Stmt:=match s with
 | .FunctionDef _ _ b _ _ _ _ _ _ _=>b
 | _=>[]
def Aj (s:Stmt):Scope:=match s with
 | .FunctionDef _ _ _ _ _ _ sc _ _ _=>sc
 | _=>{ kind:=.function,names:=[],isGenerator:=false,isCoroutine:=false }
abbrev CX0:CXT:=fun _ _ _ _ _ _=>False
abbrev E0:XK:=fun _ _ _=>False
theorem Bj{X:Cx}:Passes CX0 X E0:=fun _ _ _ _ _ _ _ h=>h.elim
structure Fun (K:PySem.W.Frag) (x qual:Str) (st:Stmt) (f:Addr) (fd:FuncData):Prop where
 ex:∃(oc:Value) (od:Option Addr) (kV doc pm:Value) (an:Option Addr) (cdv ct:Value) (osl:Array (Option Value)),
  fd=PySem.W.fnOf x qual (JZ st) (IW st) (Aj st) .none kV doc pm an cdv ct∧K.lookup f=some ⟨oc,od,.func fd,osl⟩∧PySem.W.codeIn K cdv qual=true
 kp:PySem.W.keepIn K (.ref f)=true
section
variable {P:Program}{w:World}{K:PySem.W.Frag}{mg:Str→Option Value}{base:Heap}
theorem Fun.ok{x qual:Str}{st:Stmt}{f:Addr}{fd:FuncData}{N ps:List Str}{k:Nat}{sp:Sp}(F:Fun K x qual st f fd)(S:Bd N ps (Aj st))(len:∀ vs H Q E,sp vs H Q E→vs.length=ps.length)
  (hbody:∀(cdv:Value) (A:Around) (outer:List Env) (s:Shared) (H:Hp) (vs:List V) (Q:VK) (E:XK),G6 k (A.deeper (envOfC qual (Aj st) s.heap.objs.size f cdv))→sp vs H Q E →
   ∃ t,PSs (Xo CX0 P w K mg base N qual (Aj st) f cdv A outer s H E).nox (IW st) t∧t { nx:=fun _ H'=>Q .non H',rt:=Q } (start N vs) H):BP P w K mg base CX0 (k+1) f fd ps sp:=by
 obtain⟨oc,od,kV,doc,pm,an,cdv,ct,osl,rfl,lk,hcd⟩:=F.ex
 refine Ahj lk hcd S len fun A outer s H vs Q E hr hsp=>?_
 obtain⟨t,h,q⟩:=hbody cdv A outer s H vs Q E hr hsp
 exact⟨t,h.nox,q⟩
theorem Fun.binds{x qual:Str}{st:Stmt}{f:Addr}{fd:FuncData}{ps:List Str}(F:Fun K x qual st f fd)
  (h:∀(kV doc pm:Value) (an:Option Addr) (cdv ct:Value) (us:List Value),us.length=ps.length→bindArgs (PySem.W.fnOf x qual (JZ st) (IW st) (Aj st) .none kV doc pm an cdv ct) ⟨us,[]⟩=pure (ps.zip us)):Binds K fd ps []:=by
 obtain⟨oc,od,kV,doc,pm,an,cdv,ct,osl,rfl,lk,hcd⟩:=F.ex
 exact .all (h kV doc pm an cdv ct)
theorem AbT{x qual:Str}{st:Stmt}{f:Addr}{oc:Value}{od an:Option Addr}{osl:Array (Option Value)}{kV doc pm cdv ct:Value}(l:K.lookup f=some ⟨oc,od,.func (PySem.W.fnOf x qual (JZ st) (IW st) (Aj st) .none kV doc pm an cdv ct),osl⟩)
  (c:PySem.W.codeIn K cdv qual=true) (k:PySem.W.keepIn K (.ref f)=true):Fun K x qual st f (PySem.W.fnOf x qual (JZ st) (IW st) (Aj st) .none kV doc pm an cdv ct):=⟨⟨oc,od,kV,doc,pm,an,cdv,ct,osl,rfl,l,c⟩,k⟩
end
theorem HX{A:Around}{k:Nat}(hr:G6 k A):A.units+1<cLine:=Nat.lt_of_le_of_lt (Nat.add_le_add_left (by decide:1≤64) _) hr.units
theorem AaW{n:Nat}(h:n≤1000):n<sizeLine:=Nat.lt_of_le_of_lt h (by decide)
section
variable {X:Cx}
theorem pv(i:Nat){x:Str}{pos:Pos}(hN:X.N[i]?=some x:=by rfl)(hv:Vis X.env.scope x:=by first | exact Or.inl rfl | exact Or.inr (Or.inl rfl) | exact Or.inr (Or.inr rfl))(hd:(x == ("__debug__" : Str))=false:=by decide)
  (hcd:(x == ("__classdict__" : Str))=false:=by decide):PE X (.Name x pos) (AgQ i):=Afi hN hv hd hcd
end
theorem Ci{A B:Prop}(h:B):if false=true then A else B:=by
 rw[if_neg AkW]
 exact h
theorem Jm{A B:Prop}(h:A):if true=true then A else B:=by
 rw[if_pos rfl]
 exact h
theorem CQ{c A B:Prop}[Decidable c](hc:c)(h:B):if (!decide c)=true then A else B:=by
 rw[decide_eq_true hc]
 exact Ci h
def Ar (H H':Hp):Prop:=∀ b o,H b=some o→H' b=some o
theorem Ar.refl(H:Hp):Ar H H:=fun _ _ h=>h
theorem Ar.trans{H H1 H2:Hp}(a:Ar H H1)(b:Ar H1 H2):Ar H H2:=fun c o h=>b c o (a c o h)
theorem Ar.free{H H':Hp}(e:Ar H H'){l:Addr}(h:H' l=Option.none):H l=Option.none:=by
 cases q:H l with
 | none=>rfl
 | some o =>
  rw[e l o q] at h
  cases h
theorem Ar.seq{K:PySem.W.Frag}{H H':Hp}{a:Addr}{xs:List V}(e:Ar H H')(h:SqL K H a xs):SqL K H' a xs:=by
 rcases h with (h | ⟨o,h⟩) | h
 ·exact .inl (.inl (e _ _ h))
 ·exact .inl (.inr ⟨o,e _ _ h⟩)
 ·exact .inr h
open PySem PySem.Spec PyProof.Rows
theorem Nu{scope:Scope}{env:Env}(h:∀ y∈scope.names,y.2=.free→∃ c,env.cells.lookup y.1=some c) :
  ∃ cl,closureFor scope env=pure cl∧(∀ x c,cl.lookup x=some c→env.cells.lookup x=some c∧(x,NameKind.free)∈scope.names) ∧
   ∀ x,(x,NameKind.free)∈scope.names→cl.lookup x=env.cells.lookup x:=by
 have key:∀(l:List (Str × NameKind)) (cs:List (Str × Addr)),(∀ y∈l,y.2=.free→∃ c,env.cells.lookup y.1=some c) →
   ∃ cl,(forIn l cs (fun(x:Str × NameKind) (cs:List (Str × Addr))=>do
     if x.2 == .free then
      let c ← cellOf env x.1
      pure (ForInStep.yield ((x.1,c)::cs))
     else pure (ForInStep.yield cs)):Sem (List (Str × Addr)))=pure cl ∧
    (∀ x c,cl.lookup x=some c→(env.cells.lookup x=some c∧(x,NameKind.free)∈l)∨cs.lookup x=some c) ∧
    ∀ x,((x,NameKind.free)∈l→cl.lookup x=env.cells.lookup x)∧((cs.lookup x=env.cells.lookup x)→cl.lookup x=env.cells.lookup x):=by
  intro l
  induction l with
  | nil=>intro cs _;exact⟨cs,rfl,fun x c e=>.inr e,fun x=>⟨fun z=>absurd z (by simp),fun z=>z⟩⟩
  | cons y r ih =>
   intro cs hl
   obtain⟨n,k⟩:=y
   by_cases hk:k=.free
   ·subst hk
    obtain⟨c,hc⟩:=hl (n,.free) AkS rfl
    obtain⟨cl,e1,e2,e3⟩:=ih ((n,c)::cs) fun y hy=>hl y (AkX _ hy)
    refine⟨cl,?_,fun x d e=>?_,fun x=>⟨fun z=>?_,fun z=>?_⟩⟩
    ·rw[AlS]
     simp only [beq_self_eq_true,if_true,cellOf,hc]
     exact e1
    ·rcases e2 x d e with ⟨z1,z2⟩ | z
     ·exact .inl ⟨z1,AkX _ z2⟩
     ·rw[Alb] at z
      by_cases hx:x == n
      ·rw[hx] at z
       have hx':x=n:=by simpa using hx
       subst hx'
       refine .inl ⟨?_,AkS⟩
       rw[hc];exact z
      ·have hx':(x == n)=false:=by simpa using hx
       rw[hx'] at z
       exact .inr z
    ·rcases List.mem_cons.mp z with z | z
     ·injection z with z1 _
      subst z1
      refine(e3 x).2 ?_
      rw[Alb,hc]
      simp
     ·exact(e3 x).1 z
    ·by_cases hx:x=n
     ·subst hx
      refine(e3 x).2 ?_
      rw[Alb,hc]
      simp
     ·refine(e3 x).2 ?_
      rw[Alb]
      have hx':(x == n)=false:=by simpa using hx
      rw[hx']
      exact z
   ·obtain⟨cl,e1,e2,e3⟩:=ih cs fun y hy=>hl y (AkX _ hy)
    have hb:(k == NameKind.free)=false:=by simpa using hk
    refine⟨cl,?_,fun x d e=>?_,fun x=>⟨fun z=>?_,(e3 x).2⟩⟩
    ·rw[AlS]
     simp only [hb,AlT,if_false]
     exact e1
    ·rcases e2 x d e with ⟨z1,z2⟩ | z
     ·exact .inl ⟨z1,AkX _ z2⟩
     ·exact .inr z
    ·rcases List.mem_cons.mp z with z | z
     ·injection z with _ z2
      exact absurd z2.symm hk
     ·exact(e3 x).1 z
 obtain⟨cl,e1,e2,e3⟩:=key scope.names [] h
 refine⟨cl,?_,fun x c e=>?_,fun x z=>(e3 x).1 z⟩
 ·unfold closureFor
  have:=e1
  simpa using this
 ·rcases e2 x c e with z | z
  ·exact z
  ·simp at z
theorem Dm{env:Env}(hk:env.scope.kind=.function):∀{names:List (Str × NameKind)} {x:Str} {k:NameKind},names.lookup x=some k→k≠.free →
  (names.map fun(n,k)=>if (k == NameKind.free && env.scope.kind == .function && env.kindOf n == some .cell) then (n,NameKind.cell) else (n,k)).lookup x=some k
 | [],_,_,h,_=>by simp at h
 | (n,k')::r,x,k,h,hf=>by
  have ih:=@Dm env hk r x k
  show List.lookup x ((if (k' == NameKind.free && env.scope.kind == .function && env.kindOf n == some .cell)=true then (n,NameKind.cell) else (n,k'))::_)=_
  cases hx:x == n with
  | true =>
   simp only [Alb,hx] at h
   cases h
   have:(k' == NameKind.free)=false:=by simpa using hf
   simp[Alb,hx,this]
  | false =>
   simp only [Alb,hx] at h
   by_cases hc:(k' == NameKind.free && env.scope.kind == .function && env.kindOf n == some .cell)=true
   ·rw[if_pos hc];simp only [Alb,hx];exact ih h hf
   ·rw[if_neg hc];simp only [Alb,hx];exact ih h hf
theorem FJ{env:Env}(hk:env.scope.kind=.function):∀{names:List (Str × NameKind)} {x:Str},names.lookup x=some .free→env.kindOf x=some .cell →
  (names.map fun(n,k)=>if (k == NameKind.free && env.scope.kind == .function && env.kindOf n == some .cell) then (n,NameKind.cell) else (n,k)).lookup x=some .cell
 | [],_,h,_=>by simp at h
 | (n,k')::r,x,h,hc=>by
  have ih:=@FJ env hk r x
  show List.lookup x ((if (k' == NameKind.free && env.scope.kind == .function && env.kindOf n == some .cell)=true then (n,NameKind.cell) else (n,k'))::_)=_
  cases hx:x == n with
  | true =>
   simp only [Alb,hx] at h
   cases h
   have hxn:x=n:=by simpa using hx
   subst hxn
   simp[Alb,hk,hc]
  | false =>
   simp only [Alb,hx] at h
   by_cases hd:(k' == NameKind.free && env.scope.kind == .function && env.kindOf n == some .cell)=true
   ·rw[if_pos hd];simp only [Alb,hx];exact ih h hc
   ·rw[if_neg hd];simp only [Alb,hx];exact ih h hc
def Et (X:Cx)(Nc:List Str)(scope:Scope)(cl:List (Str × Addr))(C:Addr)(fp:List Addr)(s:Shared)(H:Hp):Cx where
 prog:=X.prog
 w:=X.w
 K:=X.K
 mg:=X.mg
 base:=X.base
 A:=X.A
 N:=Nc
 s₀:=s
 H₀:=H
 env:=compEnvC scope cl C X.env
 outer:=X.stack
 stack:=X.stack
 ex:=fp
 fn:=fun _=>false
 calm:=X.calm
 pn:=[]
 xe:=fun _ _=>False
def G9 (σ:St)(By:List Nat):St:=By.map fun j=>(σ[j]?).join
structure Eb (X:Cx) (x:Str) (Nc:List Str) (By:List Nat) (scope:Scope):Prop where
 kind:scope.kind=.function
 cell:∀ y∈scope.names,y.2≠.cell
 names:∀ y∈scope.names,y.2=.local→scope.names.lookup y.1=some .local
 fr:∀ y∈scope.names,y.2=.free→X.env.scope.names.lookup y.1=some .cell∧scope.names.lookup y.1=some .free
 loc:scope.names.lookup x=some .local
 len:Nc.length=By.length+1
 hd:Nc[0]?=some x
 nd:Nc.Nodup
 cap:∀ k j,By[k]?=some j→∃ y,Nc[k+1]?=some y∧X.N[j]?=some y∧scope.names.lookup y=some .free
theorem Ol{prog:Program}{w:World}{A:Around}{R:Result→Shared→Prop}{s:Shared}{elt target iter:Expr}{ifs:List Expr}{scope:Scope}{pos:Pos}{it acc:Value}{env:Env}(I:Nat→Shared→Prop)
  (turn:∀ n s,I n s→wpAny (model prog w) A (pyNext it) (fun r s₁=>match r with
   | none=>R (.ok .next) s₁
   | some v=>wpAny (model prog w) A (letOwnedTupleGo target it v) (fun _ s1'=>wpAny (model prog w) A (assign target env v) (fun _ s₂ =>
     wpAny (model prog w) A (forIn ifs true fun c r=>if r=true then do let ok ← isTrue c env (eval c env);pure (ForInStep.yield ok) else pure (ForInStep.yield r)) (fun ok s₃ =>
      if ok=true then wpAny (model prog w) A (eval elt env) (fun x s₄ =>
       wpAny (model prog w) A (call (.builtin "list.append") [acc,x]) (fun _ s₅=>∃ m,m<n∧I m s₅) (notedBy (model prog w) A env fun e s'=>R (.error e) s') s₄) (notedBy (model prog w) A env fun e s'=>R (.error e) s') s₃
      else ∃ m,m<n∧I m s₃) (notedBy (model prog w) A env fun e s'=>R (.error e) s') s₂) (notedBy (model prog w) A env fun e s'=>R (.error e) s') s1') (notedBy (model prog w) A env fun e s'=>R (.error e) s') s₁) (notedBy (model prog w) A env fun e s'=>R (.error e) s') s)
  (n:Nat) (h:I n s) :
  codeAny (model prog w) A (.compLoop (.ListComp elt [⟨target,iter,ifs,0⟩] scope pos) 0 it acc env) R s:=by
 refine codeAny_loop rfl I (fun n s hI=>?_) n h
 show wpAny _ A ((compTurn (.ListComp elt [⟨target,iter,ifs,0⟩] scope pos) 0 it acc env).onRaise (fun x=>do noteFrame x env;theTreesLotGoes x)) _ _ s
 refine wpAny_noted ?_
 rw[compTurn_list]
 refine wpAny_bind (wpAny_standAt (wpAny_bind (wpAny_mono (turn n s hI) (fun r s₁ h₁=>?_) fun _ _ h'=>h')))
 cases r with
 | none=>exact wpAny_pure h₁
 | some v =>
  refine wpAny_bind (wpAny_mono h₁ (fun _ s1' h₁=>?_) fun _ _ h'=>h')
  refine wpAny_bind (wpAny_mono h₁ (fun _ s₂ h₂=>wpAny_bind (wpAny_mono h₂ (fun ok s₃ h₃=>?_) fun _ _ h'=>h')) fun _ _ h'=>h')
  cases ok with
  | false=>exact wpAny_pure ⟨rfl,h₃⟩
  | true =>
   exact wpAny_bind (wpAny_bind (wpAny_mono h₃ (fun x s₄ h₄=>wpAny_bind (wpAny_mono h₄ (fun _ s₅ h₅=>wpAny_pure (wpAny_pure ⟨rfl,h₅⟩)) fun _ _ h'=>h')) fun _ _ h'=>h'))
def VB:TT:=fun _ H Q=>Q true H
inductive PIf (X:Cx):List Expr→TT→Prop where
 | nil:PIf X [] VB
 | one {c:Expr} {t:TT} (h:PT X c t):PIf X [c] t
theorem PIf.run{X:Cx}{ifs:List Expr}{t:TT}(h:PIf X ifs t){pins:List (Addr × Obj)}{s:Shared}{σ:St}{H:Hp}{Q:Bool→Hp→Prop}(I:Inv X pins σ H s)(ht:t σ H Q) :
  wpAny (model X.prog X.w) X.A (forIn ifs true fun c r=>if r=true then do let ok ← isTrue c X.env (eval c X.env);pure (ForInStep.yield ok) else pure (ForInStep.yield r)) (TP X pins σ Q) X.xe s:=by
 cases h with
 | nil=>exact wpAny_tests_nil ⟨H,I,ht⟩
 | one h=>exact wpAny_tests_one (h pins s σ H Q I ht)
def VD (By:List Nat)(tc:TT)(te:TE)(J:It)(σ:St)(H:Hp)(Q:VK):Prop :=
 ∃ W:Nat→Nat→List V→Hp→Prop,(∃ m,W 0 m [] H)∧∀ i m ys H,W i m ys H →
  (J.stop i H∧ys.length≤sizeLine∧∀ p,H p=none→Q (.ref p) (upd H p (.lst ys))) ∨
  (J.go i H∧ys.length<sizeLine∧∀ x H',J.yld i H x H'→tc (some x::G9 σ By) H' fun b H2 =>
   if b=true then te (some x::G9 σ By) H2 fun y H3=>∃ m',m'<m∧W (i+1) m' (ys++[y]) H3 else ∃ m',m'<m∧W (i+1) m' ys H2)
def AeB (wi:TI)(By:List Nat)(tc:TT)(te:TE):TE:=fun σ H Q=>wi σ H fun J H1=>VD By tc te J σ H1 Q
section
variable {X:Cx}{pins:List (Addr × Obj)}{σ:St}{H:Hp}{s:Shared}
theorem Un.track{fs ex:List Addr}{H H':Hp}{h h':Heap}{a:Addr}{o:HO}(u:Un fs ex H H' h h')(ha:h.objs.size≤a)(hn:H' a=none):Un fs ex H (upd H' a o) h h' where
 keep:=u.keep
 slot:=u.slot
 free:=fun b ob q n hx=>by rw[Ax (AkK (AkT (Heap.lt_size q) ha))];exact u.free b ob q n hx
 there:=u.there
 tups:=fun b xs q=>by rw[Ax (BK (u.tups b xs q) hn)];exact u.tups b xs q
 Nt:=fun b ob xs q=>by rw[Ax (BK (u.Nt b ob xs q) hn)];exact u.Nt b ob xs q
 Qh:=fun b ps q=>by
  obtain⟨m,e⟩:=u.Qh b ps q
  exact⟨m,by rw[Ax (BK e hn)];exact e⟩
theorem HOk.track{P:Program}{w:World}{H:Hp}{h:Heap}{a:Addr}{o:HO}(x:HOk P w H h)(hn:H a=none)(new:Ea P w (upd H a o) h a o):HOk P w (upd H a o) h:=fun b u e=>by
 by_cases hb:b=a
 ·subst hb;rw[Ae] at e;cases e;exact new
 ·rw[Ax hb] at e
  exact(x b u e).stay (fun c v _ q=>q) (fun c q=>by rw[Ax (BK q hn)];exact q) fun c xs q=>by rw[Ax (BK q hn)];exact q
theorem Ad9{x:Str}{Nc:List Str}{By:List Nat}{scope:Scope}{cl:List (Str × Addr)}{C:Addr}{fp:List Addr}(I:Inv X pins σ H s)(O:Eb X x Nc By scope)
  (hcl:∀ x c,cl.lookup x=some c→X.env.cells.lookup x=some c∧(x,NameKind.free)∈scope.names) (Qo:∀ x,(x,NameKind.free)∈scope.names→cl.lookup x=X.env.cells.lookup x)
  (hC:s.heap.objs.size≤C) (hfp:∀ b∈fp,JW X pins H b) (hfo:∀ b∈fp,b<s.heap.objs.size):(Et X Nc scope cl C fp s H).Ok where
 mod:=I.ok.mod
 kind:=O.kind
 glob:=I.ok.glob
 blt:=I.ok.blt
 above:=hC
 inj:=fun a b c e1 e2=>I.ok.inj a b c (hcl a c e1).1 (hcl b c e2).1
 has:=fun y hy=>by
  have mem:(y,NameKind.free)∈scope.names:=by
   have hy':((relabel scope X.env).names.lookup y=some .cell)∨((relabel scope X.env).names.lookup y=some .free):=hy
   have hm:∃ k,(y,k)∈(relabel scope X.env).names∧(k=.cell∨k=.free):=by
    rcases hy' with h | h
    ·exact⟨_,PySem.mem_of_lookup h,.inl rfl⟩
    ·exact⟨_,PySem.mem_of_lookup h,.inr rfl⟩
   obtain⟨k,hm,hk⟩:=hm
   obtain⟨⟨n,k'⟩,hm',e⟩:=List.mem_map.mp hm
   dsimp only at e
   by_cases hc:(k' == NameKind.free && X.env.scope.kind == .function && X.env.kindOf n == some .cell)=true
   ·rw[if_pos hc] at e
    injection e with e1 _
    subst e1
    have:k'=.free:=by
     have:=(Al2 _ _▸(Al2 _ _▸hc).1).1
     simpa using this
    subst this
    exact hm'
   ·rw[if_neg hc] at e
    injection e with e1 e2
    subst e1 e2
    rcases hk with hk | hk
    ·subst hk;exact absurd rfl (O.cell _ hm')
    ·subst hk;exact hm'
  obtain⟨c,e⟩:=I.ok.has y (.inl (O.fr _ mem rfl).1)
  exact⟨c,(Qo y mem).trans e⟩
 cab:=fun _ _ z=>nomatch z
 hd:=I.ok.hd
 frames:=I.ok.frames
 stk:=.inl rfl
 exf:=fun b hb=>⟨AkK (AkT (hfo b hb) hC),fun y c e=>(hfp b hb).2.2.2.2.1 y c (hcl y c e).1⟩
 bs:=I.bs
 bsz:=AkZ I.ok.bsz I.sz
 Xj:=fun b o e hb=>by
  rcases(hfp b hb).2.2.2.1 with z | z
  ·exact I.ok.Xj b o e z
  ·exact absurd (AkT (Heap.lt_size e) (AkZ I.ok.bsz z)) (Alf _)
 Xk:=fun b hb z=>by
  rcases List.mem_cons.mp (I.Vu b z) with e | e
  ·exact(hfp b hb).2.1 e
  ·exact(hfp b hb).2.2.1 e
 Oe:=I.stack
 frf:=I.Vv
end
open PySem PySem.Spec PyProof.Rows
section
variable {X:Cx}{pins:List (Addr × Obj)}{σ:St}{H:Hp}{s:Shared}
theorem Xu(σ:St)(By:List Nat):(G9 σ By).length=By.length:=by unfold G9;rw[AkE]
theorem Xw{σ:St}{By:List Nat}{k:Nat}{v:V}(e:(G9 σ By)[k]?=some (some v)):∃ j,By[k]?=some j∧σ[j]?=some (some v):=by
 unfold G9 at e
 rw[AkM] at e
 cases hk:By[k]? with
 | none=>rw[hk] at e;cases e
 | some j =>
  rw[hk] at e
  have e':(σ[j]?).join=some v:=Option.some.inj e
  refine⟨j,rfl,?_⟩
  cases hj:σ[j]? with
  | none=>rw[hj] at e';cases e'
  | some o=>rw[hj] at e';rw[show o=some v from e']
theorem Un.but{fs ex:List Addr}{H H':Hp}{h h1 h2:Heap}{C:Addr}(u:Un fs ex H H' h h1)(hs:Heap.SameBut C h1 h2)(hC:h.objs.size≤C):Un fs ex H H' h h2 where
 keep:=fun b o q n hb hx=>(hs.2 b (AkK (AkT (Heap.lt_size q) hC))).trans (u.keep b o q n hb hx)
 slot:=fun b o q n hb hx=>by
  obtain⟨sl,e⟩:=u.slot b o q n hb hx
  exact⟨sl,(hs.2 b (AkK (AkT (Heap.lt_size q) hC))).trans e⟩
 free:=u.free
 there:=fun b o q hx=>by
  obtain⟨o',e⟩:=u.there b o q hx
  exact⟨o',(hs.2 b (AkK (AkT (Heap.lt_size q) hC))).trans e⟩
 tups:=u.tups
 Nt:=u.Nt
 Qh:=u.Qh
theorem Zj{x:Str}{Nc:List Str}{By:List Nat}{scope:Scope}{cl:List (Str × Addr)}{C:Addr}{fp:List Addr}{h':Heap}{tk:Nat}{m0:Str→Option Value}(I:Inv X pins σ H s)(O:Eb X x Nc By scope)
  (hcl:∀ x c,cl.lookup x=some c→X.env.cells.lookup x=some c∧(x,NameKind.free)∈scope.names) (Qo:∀ x,(x,NameKind.free)∈scope.names→cl.lookup x=X.env.cells.lookup x)
  (hC:s.heap.objs.size≤C) (hfp:∀ b∈fp,JW X pins H b) (hfo:∀ b∈fp,b<s.heap.objs.size)
  (old:∀ b o,s.heap.get? b=some o→h'.get? b=some o) (hns:h'.Ns C m0) :
  Inv (Et X Nc scope cl C fp s H) [] (none::G9 σ By) H { s with heap:=h',toks:=tk } where
 ok:=Ad9 I O hcl Qo hC hfp hfo
 os:=rfl
 bare:=I.bare
 base:=Un.kept old
 loc:=by
  refine⟨m0,hns,fun i y v hN hσ hv=>?_⟩
  cases i with
  | zero=>simp at hσ
  | succ k =>
   rw[Amd] at hσ
   obtain⟨j,hj,hs⟩:=Xw hσ
   obtain⟨z,hz1,hz2,hz3⟩:=O.cap k j hj
   have hN':Nc[k+1]?=some y:=hN
   rw[hz1] at hN'
   cases hN'
   have mem:(y,NameKind.free)∈scope.names:=PySem.mem_of_lookup hz3
   have hk:=(O.fr _ mem rfl).1
   obtain⟨m,hn,hl⟩:=I.loc
   obtain⟨u,r,l⟩:=hl j y v hz2 hs (.inr (.inl hk))
   refine⟨u,r,?_⟩
   rcases l with ⟨k',_⟩ | ⟨_,c,hc,z⟩
   ·have k'':X.env.scope.names.lookup y=some .local:=k'
    rw[hk] at k'';cases k''
   ·obtain⟨o,ho,hd⟩:=z
    exact .inr ⟨.inl (FJ I.ok.kind hz3 hk),c,(Qo y mem).trans hc,o,old _ _ ho,hd⟩
 cell:=fun y c e=>by
  obtain⟨v,o,ho,hd⟩:=I.cell y c (hcl y c e).1
  exact⟨v,o,old _ _ ho,hd⟩
 free:=I.hok.fresh hC
 IK:=fun y c e=>I.IK y c (hcl y c e).1
 pin:=fun p hp=>absurd (show p∈([]:List (Addr × Obj)) from hp) (by simp)
 hok:=I.hok.kept old
 len:=by
  show(none::G9 σ By).length=Nc.length
  rw[Ala,Xu,O.len]
abbrev KR (us:List Value) (n:Nat):Obj:={ cls:=.type "list", data:=.seq us.toArray n }
theorem Dy{X:Cx}{sc0 scope:Scope}(h:X.env.scope=sc0)(hd:∀ y∈scope.names,y.2=.free→sc0.names.lookup y.1=some .cell∧scope.names.lookup y.1=some .free) :
  ∀ y∈scope.names,y.2=.free→X.env.scope.names.lookup y.1=some .cell∧scope.names.lookup y.1=some .free:=by
 rw[h]
 exact hd
theorem RP{x:Str}{px:Pos}{Nc:List Str}{By:List Nat}{scope:Scope}{cl:List (Str × Addr)}{iter elt:Expr}{ifs:List Expr}{pos:Pos}{tc:TT}{te:TE}{Q:VK}{it:Addr}{fp:List Addr}{tn:Nat→Heap→Prop}{J:It}
  {RR:Value→Addr→Result→Shared→Prop}{E:Value→Shared→Prop}
  (O:Eb X x Nc By scope) (hc:X.calm=true)
  (hcl:∀ x c,cl.lookup x=some c→X.env.cells.lookup x=some c∧(x,NameKind.free)∈scope.names) (Qo:∀ x,(x,NameKind.free)∈scope.names→cl.lookup x=X.env.cells.lookup x)
  (hte:∀ C fp s H,PE (Et X Nc scope cl C fp s H) elt te) (htc:∀ C fp s H,PIf (Et X Nc scope cl C fp s H) ifs tc)
  (I:Inv X pins σ H s) (T:Turn X.prog X.w X.K (.Name x px) J fp it tn) (st:tn 0 s.heap) (hfp:∀ b∈fp,JW X pins H b) (h:VD By tc te J σ H Q)
  (hRR:∀(D C:Addr) (s':Shared) (m:Str→Option Value),s'.heap.Ns C m→(∀ h',Heap.SameBut C s'.heap h'→∃ H',Inv X pins σ H' { s' with heap:=h' }∧H' C=none∧Q (.ref D) H') →
   s.heap.objs.size≤C→RR (.ref D) C (.ok .next) s') :
  wpAny (model X.prog X.w) X.A (newList []) (fun acc s₃=>wpAny (model X.prog X.w) X.A (newFunctionEnv scope X.env.globals cl [] X.env.qual none .none (some X.env)) (fun cenv s₄ =>
   codeAny (model X.prog X.w) X.A (.compStart (.ListComp elt [⟨.Name x px,iter,ifs,0⟩] scope pos) 0 (.ref it) acc { cenv with scope:=relabel scope X.env }) (RR acc cenv.locals) s₄) E s₃) E s:=by
 refine wpAny_newObj_type (wpAny_newFunctionEnv O.cell (by intro y hy;simp at hy) (fun h₁ hns₁ hsb₁=>?_) O.kind)
 dsimp only at hns₁ hsb₁ ⊢
 generalize hH2:s.heap.push { cls:=.type "list", dict:=none,data:=.seq ([]:List Value).toArray }=H2 at hns₁ hsb₁ ⊢
 have hC:H2.objs.size=s.heap.objs.size+1:=by rw[← hH2,Heap.size_push]
 have hCle:s.heap.objs.size≤H2.objs.size:=by rw[hC];exact Alw _
 have hDC:s.heap.objs.size≠H2.objs.size:=by rw[hC];exact AkK (Alu _)
 have below:∀ b,b<s.heap.objs.size→b≠H2.objs.size∧b≠s.heap.objs.size:=fun b hb=>⟨by rw[hC];exact AkK (Alm hb),AkK hb⟩
 have old:∀ b o,s.heap.get? b=some o→h₁.get? b=some o:=fun b o e=>hsb₁.extBut b o (below b (Heap.lt_size e)).1 (Heap.get?_push_of_some _ (hH2▸Heap.get?_push_of_some _ e))
 have hacc:h₁.get? s.heap.objs.size=some (KR [] 0):=hsb₁.extBut _ _ hDC (Heap.get?_push_of_some _ (hH2▸Heap.get?_push_size _ rfl))
 have hfo:∀ b∈fp,b<s.heap.objs.size:=fun b hb=>by
  obtain⟨o,e,_⟩:=T.obj _ _ st b hb
  exact Heap.lt_size e
 have st1:tn 0 h₁:=T.keep _ _ _ st fun b _ o e=>old b o e
 generalize hDD:s.heap.objs.size=D at *
 generalize hCC:H2.objs.size=C at *
 have Afz:D≤C:=hCle
 let Y:Cx:=Et X Nc scope cl C fp s H
 have I0:Inv Y [] (none::G9 σ By) H { s with heap:=h₁,toks:=s.toks+([]:List (Str × Value)).length }:=Zj I O hcl Qo (by rw[hDD];exact hCle) hfp (fun b hb=>by rw[hDD];exact hfo b hb) old hns₁
 have AbU:H D=none:=by rw[← hDD];exact I.hok.fresh (AkF _)
 have VF:D≠C:=hDC
 have Dfs:D∉Y.fs:=fun z=>by
  have:=I.stack.mem (show D∈frs X.stack from z)
  obtain⟨_,o,e,_⟩:=this
  have:=Heap.lt_size e
  rw[hDD] at this
  exact Alf _ this
 have AbV:∀ y c,Y.env.cells.lookup y=some c→c≠D:=fun y c e z=>by
  obtain⟨v,q⟩:=I.cell y c (hcl y c e).1
  have:=q.lt
  rw[z,hDD] at this
  exact Alf _ this
 have Dfp:∀ b∈fp,b≠D:=fun b hb=>AkK (hfo b hb)
 have fpY:∀{H':Hp},(∀ b∈fp,H' b=none)→∀ b∈fp,JW Y [] H' b:=fun hn b hb =>
  ⟨hn b hb,AkK (AkT (hfo b hb) Afz),fun z=>I0.ok.Xk b hb z,.inl hb,fun y c e=>(I0.ok.exf b hb).2 y c e,fun p hp=>absurd (show p∈([]:List (Addr × Obj)) from hp) (by simp)⟩
 obtain⟨W,⟨m0,w0⟩,turn⟩:=h
 have loop:∀ s₃:Shared,s₃={ s with heap:=h₁,toks:=s.toks+([]:List (Str × Value)).length } →
   codeAny (model X.prog X.w) X.A (.compLoop (.ListComp elt [⟨.Name x px,iter,ifs,0⟩] scope pos) 0 (.ref it) (.ref D) (compEnvC scope cl C X.env)) (RR (.ref D) C) s₃:=by
  rintro s₃ rfl
  refine Ol (fun n s'=>∃(i:Nat) (o:Option V) (H':Hp) (ys:List V) (us:List Value) (k:Nat),Inv Y [] (o::G9 σ By) H' s'∧tn i s'.heap∧(∀ b∈fp,H' b=none)∧s'.heap.get? D=some (KR us k)∧H' D=none∧Vals ys us∧W i n ys H')
   ?_ m0 ⟨0,none,H,[],[],0,I0,st1,fun b hb=>(hfp b hb).1,hacc,AbU,.nil,w0⟩
  rintro n s3 ⟨i,o3,H3,ys,us,k,I3,st3,fr3,hD3,nD3,rv,w3⟩
  have fpP:∀{H':Hp} {ob:Obj},(∀ b∈fp,H' b=none)→∀ b∈fp,JW Y [(D,ob)] H' b:=fun hn b hb=>by
   obtain⟨g0,g1,g2,g3,g4,_⟩:=fpY hn b hb
   refine⟨g0,g1,g2,g3,g4,fun p hp=>?_⟩
   have e:p=(D,_):=List.mem_singleton.mp (show p∈[(D,_)] from hp)
   rw[e]
   exact Ne.symm (Dfp b hb)
  have IP:Inv Y [(D,KR us k)] (o3::G9 σ By) H3 s3:=I3.IV fun p hp=>by
   have e:p=(D,KR us k):=List.mem_singleton.mp hp
   subst e
   exact⟨hD3,nD3,VF,Dfs,fun v z=>by cases z⟩
  have Zk:∀{σ':St} {H':Hp} {s':Shared} {pl:List (Addr × Obj)},Inv Y ([(D,KR us k)]++pl) σ' H' s'→s'.heap.get? D=some (KR us k)∧H' D=none:=fun I'=>by
   have z:=I'.pin (D,KR us k) (Ald _ (Al8 _ AkS))
   exact⟨z.1,z.2.1⟩
  rcases turn i n ys H3 w3 with ⟨stop,hlen,fin⟩ | ⟨go,hlen,step⟩
  ·
   refine wpAny_mono (T.done Y rfl rfl rfl hc i _ s3 _ H3 (fun _ _=>False) IP (fpP fr3) st3 stop) (fun r s4 hr=>?_) fun _ _ z=>z.elim
   obtain⟨hr,I4⟩:=hr
   subst hr
   obtain⟨gD,nD⟩:=Zk (pl:=[]) (by simpa using I4)
   obtain⟨m,hn,_⟩:=I4.loc
   refine hRR D C s4 m hn (fun h' hs'=>⟨upd H3 D (.lst ys),?_,(Ax (Ne.symm VF)).trans I4.free,fin D nD⟩) hCle
   have nt:∀ b ob,H3 b=some ob→b≠C:=fun b ob e z=>by
    have:=I4.free
    rw[z] at e
    rw[show H3 C=none from this] at e
    cases e
   have u1:Un (frs X.stack) fp H H3 s.heap h':=Un.but I4.base hs' (show s.heap.objs.size≤C by rw[hDD];exact hCle)
   have ok1:HOk X.prog X.w H3 h':=fun b ob e=>(I4.hok b ob e).stay (fun c v hc q=>(hs'.2 c (by
    rcases hc with z | z
    ·rw[z];exact nt b ob e
    ·exact nt c _ z)).trans q) (fun _ q=>q) fun _ _ q=>q
   have gD':h'.get? D=some (KR us k):=(hs'.2 D VF).trans gD
   exact I.call' (s':={ s4 with heap:=h' }) (ch:=fp) I4.os (u1.track (Al4 hDD) nD) (ok1.track nD ⟨hlen,us,k,rv,gD'⟩) I4.bare fun b hb=>by
    obtain⟨_,g1,_,g3,g4,g5⟩:=hfp b hb
    exact⟨g3,g1,g4,g5⟩
  ·
   refine wpAny_mono (T.item Y rfl rfl rfl hc i _ s3 _ H3 (fun _ _=>False) IP (fpP fr3) st3 go) (fun r s4 hr=>?_) fun _ _ z=>z.elim
   obtain⟨u0,hr,h4⟩:=hr
   subst hr
   refine wpAny_mono h4 (fun _ s5 h5=>?_) fun _ _ z=>z.elim
   obtain⟨x5,H5,I5,r5,y5,st5,fr5⟩:=h5
   have I5':=I5.pinned (fpP fr5) (T.obj _ _ st5)
   have tgt:PG Y (.Name x px) (M5 0):=Ba (i:=0) O.nd O.hd (.inl (Dm I.ok.kind O.loc (by intro z;cases z))) (.inr (Dm I.ok.kind O.loc (by intro z;cases z)))
   refine wpAny_mono (tgt _ s5 _ H5 x5 u0 (fun σ2 H2=>σ2=some x5::G9 σ By∧H2=H5) I5' r5 ⟨rfl,rfl⟩) (fun _ s6 h6=>?_) fun _ _ z=>z.elim
   obtain⟨_,_,I6,rfl,rfl⟩:=h6
   refine wpAny_mono ((htc C fp s H).run I6 (step x5 _ y5)) (fun b s7 h7=>?_) fun _ _ z=>z.elim
   obtain⟨H7,I7,q7⟩:=h7
   have Xx:∀{σ':St} {H':Hp} {s':Shared},Inv Y ([(D,KR us k)]++Qj fp s5.heap) σ' H' s'→tn (i+1) s'.heap∧∀ b∈fp,H' b=none:=fun I' =>
    ⟨T.keep _ _ _ st5 fun b hb o e=>(I'.pin (b,o) (Ald _ (Ald _ (G8 hb e)))).1,fun b hb=>by
     obtain⟨o,e,d⟩:=T.obj _ _ st5 b hb
     exact(I'.pin (b,o) (Ald _ (Ald _ (G8 hb e)))).2.1⟩
   cases b with
   | false =>
    rw[if_neg AkW] at q7
    rw[if_neg AkW]
    obtain⟨m',hm,w7⟩:=q7
    obtain⟨gD,nD⟩:=Zk I7
    obtain⟨k1,k2⟩:=Xx I7
    exact⟨m',hm,i+1,some x5,H7,ys,us,k,I7.IV (fun p hp=>nomatch hp),k1,k2,gD,nD,rv,w7⟩
   | true =>
    rw[if_pos rfl] at q7
    rw[if_pos rfl]
    refine wpAny_mono (hte C fp s H _ s7 _ H7 _ I7 q7) (fun u8 s8 h8=>?_) fun _ _ z=>z.elim
    obtain⟨y8,H8,I8,r8,m',hm,w8⟩:=h8
    obtain⟨gD,nD⟩:=Zk I8
    obtain⟨k1,k2⟩:=Xx I8
    refine call_meets F.slot_list_append ⟨_,gD,rfl⟩ F.entry_list_append (F.args_list_append_2 _ _) (PySem.list_append D us.toArray k u8 (by rw[AkO,← rv.length];omega)) ⟨gD,?_⟩
    have q:=PySem.IsL.update gD (·.push u8)
    have e1:us.toArray.push u8=(us++[u8]).toArray:=by simp
    rw[e1] at q
    have I8':Inv Y [] (some x5::G9 σ By) H8 s8:=I8.IV (fun p hp=>nomatch hp)
    have I9:Inv Y [] (some x5::G9 σ By) H8 { s8 with heap:=s8.heap.update D (Obj.mapSeq (·.push u8)),toks:=s8.toks } :=
     I8'.turned (it:=D) (fun b o hb e=>(Heap.get?_update_other s8.heap (Obj.mapSeq (·.push u8)) (Ne.symm hb)).trans e) nD VF (.inr (Al4 hDD)) AbV (fun p hp=>nomatch hp)
    refine⟨m',hm,i+1,some x5,H8,ys++[y8],us++[u8],_,I9,T.keep _ _ _ k1 fun b hb o e=>(Heap.get?_update_other s8.heap (Obj.mapSeq (·.push u8)) (Ne.symm (Dfp b hb))).trans e,k2,q,nD,rv.append (.cons r8 .nil),w8⟩
 exact codeAny_compStart_list (loop _ rfl) (T.self X.A 0 _ _ _ st1 (loop _ rfl))
theorem Gp{x:Str}{px pos:Pos}{Nc:List Str}{By:List Nat}{scope:Scope}{iter elt:Expr}{ifs:List Expr}{wi:TI}{tc:TT}{te:TE}(O:Eb X x Nc By scope)(hc:X.calm=true)(hi:PI X (.Name x px) iter wi)
  (htc:∀ cl C fp s H,PIf (Et X Nc scope cl C fp s H) ifs tc) (hte:∀ cl C fp s H,PE (Et X Nc scope cl C fp s H) elt te) (hs:∀ x,foldedSetIterable iter X.env x=pure x:=by intro _;rfl) :
  PE X (.ListComp elt [⟨.Name x px,iter,ifs,0⟩] scope pos) (AeB wi By tc te):=by
 intro pins s σ H Q I h
 rw[eval_ListComp]
 obtain⟨cl,e1,e2,e3⟩:=Nu (scope:=scope) (env:=X.env) fun y hy hf=>I.ok.has y.1 (.inl (O.fr y hy hf).1)
 refine wpAny_comprehension_free (use:=none) rfl hs e1 O.kind O.names (thn (hi pins s σ H _ I h) fun v s1 h1=>thn h1 fun itv s2 h2=>?_)
 obtain⟨it,fp,tn,J,H2,e,I2,T,st2,f2,w2⟩:=h2
 subst e
 refine RP (RR:=fun acc C=>compPost (model X.prog X.w) X.A X.xe none (EP X pins σ Q) acc C) O hc e2 e3 (hte cl) (htc cl) I2 T st2 f2 w2 ?_
 intro D C s' m hn hq hC
 refine⟨m,hn,fun h' hs'=>?_⟩
 obtain⟨H',I',_,q⟩:=hq h' hs'
 exact⟨.ref D,H',I',rfl,q⟩
theorem Rx{i:Nat}{y x:Str}{px py pos spos:Pos}{Nc:List Str}{By:List Nat}{scope:Scope}{iter elt:Expr}{ifs:List Expr}{wi:TI}{tc:TT}{te:TE}(O:Eb X x Nc By scope)(hc:X.calm=true)
  (hN:X.N.Nodup) (hy:X.N[i]?=some y) (hx:X.env.scope.names.lookup y=some .local) (hi:PI X (.Name x px) iter wi)
  (htc:∀ cl C fp s H,PIf (Et X Nc scope cl C fp s H) ifs tc) (hte:∀ cl C fp s H,PE (Et X Nc scope cl C fp s H) elt te)
  (hsw:swapsWith (.ListComp elt [⟨.Name x px,iter,ifs,0⟩] scope pos) (some (.Name y py)) spos.line X.env=pure true) (hs:∀ x,foldedSetIterable iter X.env x=pure x:=by intro _;rfl) :
  PS X (.Assign [.Name y py] (.ListComp elt [⟨.Name x px,iter,ifs,0⟩] scope pos) spos) (Adw (AeB wi By tc te) (M5 i)):=by
 intro pins s σ H Dn I h
 rw[exec_Assign_Name_used _ _ _ _ hsw]
 refine wpAny_bind (wpAny_standAt (wpAny_bind ?_))
 obtain⟨cl,e1,e2,e3⟩:=Nu (scope:=scope) (env:=X.env) fun y hy hf=>I.ok.has y.1 (.inl (O.fr y hy hf).1)
 show wpAny _ X.A (do let _ ← comprehension (.ListComp elt [⟨.Name x px,iter,ifs,0⟩] scope pos) scope X.env _ (newList []) false (eval iter X.env) (some (assign (.Name y py) X.env))) _ _ s
 refine wpAny_bind (wpAny_mono (wpAny_comprehension_free (use:=some (assign (.Name y py) X.env)) (Q:=fun _ s'=>SP X pins Dn .next s') rfl hs e1 O.kind O.names
  (thn (hi pins s σ H _ I h) fun v s1 h1=>thn h1 fun itv s2 h2=>?_)) (fun _ s' hq=>wpAny_pure (wpAny_pure hq)) fun _ _ e=>e)
 obtain⟨it,fp,tn,J,H2,e,I2,T,st2,f2,w2⟩:=h2
 subst e
 refine RP (RR:=fun acc C=>compPost (model X.prog X.w) X.A X.xe (some (assign (.Name y py) X.env)) (fun _ s'=>SP X pins Dn .next s') acc C) O hc e2 e3 (hte cl) (htc cl) I2 T st2 f2 w2 ?_
 intro D C s' m hn hq hC
 show wpAny _ X.A (assign (.Name y py) X.env (.ref D)) _ _ _
 obtain⟨H',I',nC,q⟩:=hq s'.heap (.refl ..)
 have I'':Inv X pins σ H' s':=I'
 have CL:C≠X.env.locals:=Alj (AkT I2.lt hC)
 have AeC:∀ y c,X.env.cells.lookup y=some c→c≠C:=fun y c e z=>by
  obtain⟨v,q⟩:=I2.cell y c e
  have:=AkT q.lt hC
  rw[z] at this
  exact Alf _ this
 refine wpAny_assign_Name (U5 I'' hN hy (.inl hx) (show RelV (.ref D) (.ref D) from rfl) (fun s3 I3 hsb=>?_) (.inr hx))
 obtain⟨a,hsb,ha⟩:=hsb
 have aC:C≠a:=by
  rcases ha with z | z
  ·rw[z];exact CL
  ·exact Ne.symm (AeC _ _ z)
 refine⟨m,hn.sameBut hsb aC,fun h4 hs4=>?_⟩
 refine⟨_,H',I3.turned (it:=C) (t':=s3.toks) (fun b o hb e=>(hs4.2 b hb).trans e) nC CL (.inr (AkZ I2.sz hC)) AeC (fun p hp z=>?_),q⟩
 ·have:=AkT (Heap.lt_size (I2.pin p hp).1) hC
  rw[z] at this
  exact Alf _ this
end
open PySem PySem.Spec PyProof.Rows
def Its (x:Str):It:=⟨fun i _=>i<x.cps.size,fun i H v H'=>H'=H∧∃ c,x.cps[i]?=some c∧v=.str ⟨#[c]⟩,fun i _=>x.cps.size≤i⟩
theorem AaX{P:Program}{w:World}{K:PySem.W.Frag}{tg:Expr}(it:Addr)(x:Str)(t:Tok):Turn P w K tg (Its x) [it] it (fun i h=>i≤x.cps.size∧h.IsStrIter it "str_ascii_iterator" x t i) where
 mem:=by simp
 obj:=fun i h st b hb=>by
  have e:b=it:=by simpa using hb
  subst e
  obtain⟨_,o,e,c,d⟩:=st
  exact⟨o,e,fun v z=>by rw[d] at z;cases z⟩
 keep:=fun i h h' st k=>by
  obtain⟨hl,o,e,c,d⟩:=st
  exact⟨hl,o,k it (by simp) o e,c,d⟩
 item:=by
  intro X hP hw hK hc i pins s σ H E I hf st hg
  subst hP hw hK
  obtain⟨hl,st⟩:=st
  have hg:i<x.cps.size:=hg
  obtain⟨f0,f1,f2,f3,f4,f5⟩:=hf it (by simp)
  have hx:x.cps[i]?=some x.cps[i]:=by simp[hg]
  refine wpAny_pyNext_ascii_item st hx fun h' st' sb=>?_
  have I1:Inv X pins σ H { s with heap:=h',toks:=s.toks+1 }:=I.turned (fun b o hb e=>(sb.2 b hb).trans e) f0 f1 f3 f4 f5
  obtain⟨o,e,c,d⟩:=id st'
  exact⟨_,rfl,Aab (s:={ s with heap:=h',toks:=s.toks+1 }) e c d (by decide) ⟨.str ⟨#[x.cps[i]]⟩,H,I1,⟨_,rfl⟩,⟨rfl,_,hx,rfl⟩,⟨hg,st'⟩,fun b hb=>(hf b hb).1⟩⟩
 done:=by
  intro X hP hw hK hc i pins s σ H E I hf st hg
  subst hP hw hK
  obtain⟨hl,st⟩:=st
  have hg:x.cps.size≤i:=hg
  obtain⟨f0,f1,f2,f3,f4,f5⟩:=hf it (by simp)
  exact wpAny_pyNext_ascii_end (I.ok.hd hc) st (by simp;omega) fun h' eb=>⟨rfl,I.turned (t':=s.toks) (fun b o hb e=>eb b o hb e) f0 f1 f3 f4 f5⟩
 self:=fun _ _ _ _ _ st h=>wpAny_pyIter_striter_ascii st.2 h
theorem AaY{P:Program}{w:World}{K:PySem.W.Frag}{tg:Expr}(it:Addr)(x:Str)(t:Tok):Turn P w K tg (Its x) [it] it (fun i h=>i≤x.cps.size∧h.IsStrIter it "str_iterator" x t i) where
 mem:=by simp
 obj:=fun i h st b hb=>by
  have e:b=it:=by simpa using hb
  subst e
  obtain⟨_,o,e,c,d⟩:=st
  exact⟨o,e,fun v z=>by rw[d] at z;cases z⟩
 keep:=fun i h h' st k=>by
  obtain⟨hl,o,e,c,d⟩:=st
  exact⟨hl,o,k it (by simp) o e,c,d⟩
 item:=by
  intro X hP hw hK hc i pins s σ H E I hf st hg
  subst hP hw hK
  obtain⟨hl,st⟩:=st
  have hg:i<x.cps.size:=hg
  obtain⟨f0,f1,f2,f3,f4,f5⟩:=hf it (by simp)
  have hx:x.cps[i]?=some x.cps[i]:=by simp[hg]
  refine wpAny_pyNext_wide_item st hx fun h' st' sb=>?_
  have I1:Inv X pins σ H { s with heap:=h',toks:=s.toks+1 }:=I.turned (fun b o hb e=>(sb.2 b hb).trans e) f0 f1 f3 f4 f5
  obtain⟨o,e,c,d⟩:=id st'
  exact⟨_,rfl,Aab (s:={ s with heap:=h',toks:=s.toks+1 }) e c d (by decide) ⟨.str ⟨#[x.cps[i]]⟩,H,I1,⟨_,rfl⟩,⟨rfl,_,hx,rfl⟩,⟨hg,st'⟩,fun b hb=>(hf b hb).1⟩⟩
 done:=by
  intro X hP hw hK hc i pins s σ H E I hf st hg
  subst hP hw hK
  obtain⟨hl,st⟩:=st
  have hg:x.cps.size≤i:=hg
  obtain⟨f0,f1,f2,f3,f4,f5⟩:=hf it (by simp)
  exact wpAny_pyNext_wide_end (I.ok.hd hc) st (by simp;omega) fun h' eb=>⟨rfl,I.turned (t':=s.toks) (fun b o hb e=>eb b o hb e) f0 f1 f3 f4 f5⟩
 self:=fun _ _ _ _ _ st h=>wpAny_pyIter_striter_wide st.2 h
section
variable {X:Cx}{tg:Expr}
def Ajb (tl:TE):TI:=fun σ H R=>tl σ H fun x H1=>∃ z,x=.str z∧R (Its z) H1
theorem RQ{l:Expr}{tl:TE}(hl:PE X l tl):PI X tg l (Ajb tl):=by
 intro pins s σ H R I h
 refine thn (hl pins s σ H _ I h) fun v s1 ⟨x,H1,I1,r1,q1⟩=>?_
 obtain⟨z,e,q⟩:=q1
 subst e
 obtain⟨t,rfl⟩:=r1
 have fpn:∀ b∈[s1.heap.objs.size],JW X pins H1 b:=fun b hb=>by
  have e:b=s1.heap.objs.size:=by simpa using hb
  subst e
  exact I1.Adx (AkF _) (I1.hok.fresh (AkF _))
 cases ha:z.cps.all (·<128)
 ·refine wpAny_pyIter_wide ha ?_
  exact⟨s1.heap.objs.size,[s1.heap.objs.size],_,_,H1,rfl,I1.kept (t':=s1.toks) fun b o e=>Heap.get?_push_of_some _ e,AaY _ z t,⟨AkP _,_,Heap.get?_push_size _ rfl,rfl,rfl⟩,fpn,q⟩
 ·refine wpAny_pyIter_ascii ha ?_
  exact⟨s1.heap.objs.size,[s1.heap.objs.size],_,_,H1,rfl,I1.kept (t':=s1.toks) fun b o e=>Heap.get?_push_of_some _ e,AaX _ z t,⟨AkP _,_,Heap.get?_push_size _ rfl,rfl,rfl⟩,fpn,q⟩
end
theorem Om{z:Str}{g:TG}{tb:TS}{D:Ends}{σ:St}{H:Hp}(Pv:Nat→St→Hp→Prop)(h0:Pv 0 σ H)
  (hs:∀ i c σ H,z.cps[i]?=some c→Pv i σ H→g (.str ⟨#[c]⟩) σ H fun σ2 H2=>tb { D with nx:=Pv (i+1),ct:=Pv (i+1),bk:=D.nx } σ2 H2) (hd:∀ σ H,Pv z.cps.size σ H→D.nx σ H) :
  ∃ W:Nat→Nat→St→Hp→Prop,(∃ m,W 0 m σ H)∧∀ i m σ H,W i m σ H →
   ((Its z).stop i H∧D.nx σ H)∨((Its z).go i H∧∃ N:St→Hp→Prop,(∀ σ' H',N σ' H'→∃ m',m'<m∧W (i+1) m' σ' H')∧∀ x H',(Its z).yld i H x H'→g x σ H' fun σ2 H2=>tb { D with nx:=N,ct:=N,bk:=D.nx } σ2 H2):=by
 refine⟨fun i m σ H=>m=z.cps.size-i∧i≤z.cps.size∧Pv i σ H,⟨z.cps.size,by simp,AkP _,h0⟩,?_⟩
 rintro i m σ H ⟨rfl,hi,p⟩
 by_cases hlt:i<z.cps.size
 ·refine .inr ⟨hlt,Pv (i+1),fun σ' H' p'=>⟨z.cps.size-(i+1),by omega,rfl,hlt,p'⟩,fun x H' y=>?_⟩
  obtain⟨e,c,hc,rfl⟩:=y
  subst e
  exact hs i c σ _ hc p
 ·have e:i=z.cps.size:=by omega
  subst e
  exact .inl ⟨AkF _,hd σ H p⟩
def CN (n:Nat)(Pv:Nat→List V→Hp→Prop)(i:Nat)(ys:List V)(H:Hp):Prop:=∃ m',m'<n-i∧m'=n-(i+1)∧i+1≤n∧Pv (i+1) ys H
theorem CN.of{n:Nat}{Pv:Nat→List V→Hp→Prop}{i:Nat}{ys:List V}{H:Hp}(h:i<n)(p:Pv (i+1) ys H):CN n Pv i ys H:=⟨n-(i+1),by omega,rfl,h,p⟩
def Gh (n:Nat)(Pv:Nat→List V→Hp→Prop)(tc:TT)(te:TE)(σ:St)(i:Nat)(ys:List V)(H:Hp):Prop :=
 tc σ H fun b H2=>if b=true then te σ H2 fun y H3=>CN n Pv i (ys++[y]) H3 else CN n Pv i ys H2
theorem Gh.no{n:Nat}{Pv:Nat→List V→Hp→Prop}{te:TE}{σ:St}{i:Nat}{ys:List V}{H:Hp}(h:te σ H fun y H3=>CN n Pv i (ys++[y]) H3):Gh n Pv VB te σ i ys H:=by
 unfold Gh VB
 exact Jm h
theorem GC{K:PySem.W.Frag}{a:Addr}{xs:List V}{By:List Nat}{tc:TT}{te:TE}{σ:St}{H:Hp}{Q:VK}(Pv:Nat→List V→Hp→Prop)(h0:Pv 0 [] H)(hl:∀ i ys H,i≤xs.length→Pv i ys H→SqL K H a xs∧ys.length≤i)
  (hz:xs.length≤sizeLine) (hs:∀ i x ys H,i<xs.length→xs[i]?=some x→Pv i ys H→Gh xs.length Pv tc te (some x::G9 σ By) i ys H)
  (hd:∀ ys H p,Pv xs.length ys H→H p=none→Q (.ref p) (upd H p (.lst ys))):VD By tc te (Itl K a) σ H Q:=by
 refine⟨fun i m ys H=>m=xs.length-i∧i≤xs.length∧Pv i ys H,⟨xs.length,by simp,AkP _,h0⟩,?_⟩
 rintro i m ys H ⟨rfl,hi,p⟩
 obtain⟨q,hy⟩:=hl i ys H hi p
 by_cases hlt:i<xs.length
 ·refine .inr ⟨⟨xs,xs[i],q,by simp[hlt]⟩,by omega,fun x H' y=>?_⟩
  obtain⟨e,y⟩:=y
  subst e
  exact hs i x ys _ hlt (y xs q) p
 ·have e:i=xs.length:=by omega
  subst e
  exact .inl ⟨⟨xs,q,AkF _⟩,by omega,fun p' hp=>hd ys H p' p hp⟩
theorem EY{lo:Int}{n:Nat}{By:List Nat}{tc:TT}{te:TE}{σ:St}{H:Hp}{Q:VK}(Pv:Nat→List V→Hp→Prop)(h0:Pv 0 [] H)(hl:∀ i ys H,i≤n→Pv i ys H→ys.length≤i)
  (hz:n≤sizeLine) (hs:∀ i ys H,i<n→Pv i ys H→Gh n Pv tc te (some (.int (lo+i))::G9 σ By) i ys H)
  (hd:∀ ys H p,Pv n ys H→H p=none→Q (.ref p) (upd H p (.lst ys))):VD By tc te (Itr lo n) σ H Q:=by
 refine⟨fun i m ys H=>m=n-i∧i≤n∧Pv i ys H,⟨n,by simp,AkP _,h0⟩,?_⟩
 rintro i m ys H ⟨rfl,hi,p⟩
 have hy:=hl i ys H hi p
 by_cases hlt:i<n
 ·refine .inr ⟨hlt,by omega,fun x H' y=>?_⟩
  obtain⟨e,y⟩:=y
  subst e y
  exact hs i ys _ hlt p
 ·have e:i=n:=by omega
  subst e
  exact .inl ⟨AkF _,by omega,fun p' hp=>hd ys H p' p hp⟩
theorem Zm{ys:List Str}:∀{us:List Value},Vals (ys.map V.str) us→StrsAre us ys:=by
 induction ys with
 | nil=>intro us r;rw[Al1] at r;cases r;exact .nil
 | cons n ns ih =>
  intro us r
  rw[AkQ] at r
  cases r with
  | cons r1 r2 =>
   obtain⟨t,e⟩:=r1
   subst e
   exact .cons n t (ih r2)
def rJoin(K:PySem.W.Frag):V→List V→Hp→VK→Prop:=fun x vs H Q=>∃ z a ys,x=.str z∧vs=[.ref a]∧SqL K H a (ys.map V.str)∧(ys.map (·.length)).sum+ys.length*z.length≤16777216∧Q (.str (Txt.join z ys)) H
section
variable {X:Cx}
theorem AdA:MtR X "str.join" (rJoin X.K):=by
 intro pins s σ H x vs v us Q I rx rv h
 obtain⟨z,a,ys,rfl,rfl,hq,hz,q⟩:=h
 obtain⟨t,rfl⟩:=rx
 obtain⟨u,rfl,ru⟩:=rv.one
 cases ru
 obtain⟨its,r,pl,hl⟩:=I.list hq
 exact join_list pl.isList (Zm (by simpa using r)) hz fun t' k=>⟨.str _,H,I.tok _,⟨_,rfl⟩,q⟩
def Ahr (K:PySem.W.Frag):List V→Hp→VK→Prop:=fun vs H Q=>∃ x t b,Oh K H x t ∧
 ((∃ n,vs=[x,.ty n]∧PySem.W.kitOne K t (.type n)=some b)∨(∃ a,vs=[x,.ref a]∧PySem.W.kitOne K t (.ref a)=some b))∧Q (.bl b) H
theorem AbW:HD X (.builtin "isinstance") (Ahr X.K):=by
 intro pins s σ H xs us Q I rv h
 obtain⟨x,t,b,ty,hv,q⟩:=h
 rcases hv with ⟨n,rfl,e⟩ | ⟨a,rfl,e⟩
 ·obtain⟨u1,u2,rfl,r1,r2⟩:=rv.two
  cases r2
  exact U7 I r1 ty e fun tk=>⟨.bl b,H,I.tok _,rfl,q⟩
 ·obtain⟨u1,u2,rfl,r1,r2⟩:=rv.two
  cases r2
  exact U7 I r1 ty e fun tk=>⟨.bl b,H,I.tok _,rfl,q⟩
def eqL:List V→List V→Bool
 | [],[]=>true
 | x::xs,y::ys=>eqV x y && eqL xs ys
 | _,_=>false
theorem Oo{x:V}(h:Eg x=true):eqV x x=true:=by
 cases x with
 | non=>rfl
 | bl b=>simp[eqV]
 | int i=>simp[eqV]
 | str z=>simp[eqV]
 | _=>exact absurd (show false=true from h) AkW
theorem Oq:∀{xs:List V},xs.all Eg=true→eqL xs xs=true
 | [],_=>rfl
 | x::xs,h=>by
  rw[AlR,Al2] at h
  rw[eqL,Oo h.1,Oq h.2]
  rfl
theorem VG:∀{xs ys:List V},xs.length≠ys.length→eqL xs ys=false
 | [],[],h=>absurd rfl h
 | [],_::_,_=>rfl
 | _::_,[],_=>rfl
 | x::xs,y::ys,h=>by
  rw[eqL,VG (xs:=xs) (ys:=ys) (fun z=>h (by rw[Ala,Ala,z])),Bool.and_false]
theorem Qp:∀{xs ys:List V},xs.length=ys.length→(List.range xs.length).all (fun j=>eqV (xs.getD j .non) (ys.getD j .non))=eqL xs ys
 | [],[],_=>rfl
 | [],_::_,h=>by simp at h
 | _::_,[],h=>by simp at h
 | x::xs,y::ys,h=>by
  have h':xs.length=ys.length:=by simpa using h
  rw[Ala,List.range_succ_eq_map,AlR,List.all_map]
  rw[eqL,← Qp h']
  rfl
def Ajc (K:PySem.W.Frag):R2:=fun x y H Q=>∃ p q xs ys,x=.ref p∧y=.ref q∧SqL K H p xs∧SqL K H q ys∧xs.all Eg=true∧ys.all Eg=true∧Q (.bl (eqL xs ys)) H
theorem Af0(hu:X.A.units<cLine):OpR X (compareOp .Eq) (Ajc X.K):=by
 intro pins s σ H x y v u Q I rx ry h
 obtain⟨p,q,xs,ys,rfl,rfl,hx,hy,fx,fy,k⟩:=h
 cases rx
 cases ry
 obtain⟨its,r,pl,hz⟩:=I.list hx
 obtain⟨its2,r2,pl2,hz2⟩:=I.list hy
 have l1:=r.length
 have l2:=r2.length
 by_cases hl:xs.length=ys.length
 ·refine SeqAt.eq_listAt (e:=fun j=>eqV (xs.getD j .non) (ys.getD j .non)) pl.isList pl2.isList (by simp only [AkO];omega) hu (fun j h1 h2=>?_) ?_
  ·have j1:j<xs.length:=by simp only [AkO] at h1;omega
   have j2:j<ys.length:=by omega
   obtain⟨w1,e1,q1⟩:=r.get (i:=j) (x:=xs[j]) (by simp[j1])
   obtain⟨w2,e2,q2⟩:=r2.get (i:=j) (x:=ys[j]) (by simp[j2])
   have g1:its.toArray[j]=w1:=by
    have:its.toArray[j]?=some w1:=by simpa using e1
    exact Option.some.inj ((Array.getElem?_eq_getElem h1).symm.trans this)
   have g2:its2.toArray[j]=w2:=by
    have:its2.toArray[j]?=some w2:=by simpa using e2
    exact Option.some.inj ((Array.getElem?_eq_getElem h2).symm.trans this)
   rw[g1,g2]
   have d1:xs.getD j .non=xs[j]:=by simp[List.getD,j1]
   have d2:ys.getD j .non=ys[j]:=by simp[List.getD,j2]
   show SeqAt.EqAt _ _ _ _ (eqV (xs.getD j .non) (ys.getD j .non))
   rw[d1,d2]
   exact V5 q1 q2 (List.all_eq_true.mp fx _ (AkN j1)) (List.all_eq_true.mp fy _ (AkN j2))
  ·refine⟨.bl (eqL xs ys),H,I,?_,k⟩
   show Value.bool _=Value.bool _
   rw[AkO,← l1,Qp hl]
 ·refine SeqAt.eq_list_lengthsAt pl.isList pl2.isList (by simp only [AkO,bne_iff_ne];omega) hu ?_
  exact⟨.bl (eqL xs ys),H,I,by rw[VG hl];rfl,k⟩
end
open PySem
def tx (l:List Nat):Str:=⟨l.toArray⟩
theorem An(l:List Nat):(tx l).length=l.length:=by simp[tx,Str.length]
theorem Aah(l:List Nat):(tx l).cps.size=l.length:=by simp[tx]
theorem VH(l:List Nat):(tx l).cps.toList=l:=by simp[tx]
theorem Nv(l:List Nat)(i:Nat):(tx l).cps[i]?=l[i]?:=by simp[tx]
theorem GD(a b:List Nat):tx a++tx b=tx (a++b):=by
 show Str.append (tx a) (tx b)=_
 simp[tx,Str.append]
theorem VJ{a b:List Nat}(h:tx a=tx b):a=b:=by
 have:=congrArg (fun z:Str=>z.cps.toList) h
 simpa [tx] using this
theorem DP(c:Nat):(⟨#[c]⟩:Str)=tx [c]:=rfl
theorem UT:∀(ys:List (List Nat)) (acc:Array Nat),(ys.map tx).foldl (fun acc p=>acc++(tx []).cps++p.cps) acc=acc++ys.flatten.toArray
 | [],acc=>by simp
 | y::ys,acc=>by
  rw[AkQ,List.foldl_cons,UT ys]
  simp[tx]
theorem Ma:∀(ys:List (List Nat)),Txt.join (tx []) (ys.map tx)=tx ys.flatten
 | []=>by simp[Txt.join,Builtin.Str.glued,tx,Str.empty]
 | y::ys=>by
  show Str.mk _=_
  simp only [AkQ,List.drop_one,List.tail_cons,List.headD_cons]
  rw[UT]
  simp[tx]
theorem UW{α:Type}(f:α→Nat):∀(l:List α),(l.map fun c=>[f c]).flatten=l.map f
 | []=>rfl
 | a::l=>by rw[AkQ,List.flatten_cons,UW f l];rfl
theorem AaZ{α:Type}(f:α→Nat):∀(l:List α),(((l.map fun c=>[f c]).map tx).map (·.length)).sum=l.length
 | []=>rfl
 | a::l=>by
  rw[AkQ,AkQ,AkQ,List.sum_cons,AaZ f l,An,Ala]
  show 1+l.length=l.length+1
  omega
end L2
namespace PySem
open Sem (wp)
open Builtin Builtin.Str Builtin.Int
namespace RV
end RV
def Aks (x:Str)(t:Tok)(i:Int):Obj:={ cls:=.type "reversed", data:=.fields #[.str x t,rawInt i] }
def Heap.Af1(h:Heap)(a:Addr)(x:Str)(t:Tok)(i:Int):Prop:=∃ o,h.get? a=some o∧o.cls=.type "reversed" ∧ o.data=.fields #[.str x t,rawInt i]
section
variable {prog:Program}{w:World}{A:Around}{E:Value→Shared→Prop}{s:Shared}
end
end PySem
namespace L2
open PySem PySem.Spec PyProof.Rows
def Akt (p:Addr)(x:Str):HO:=.ext fun h=>∃ t,h.Af1 p x t ((x.length:Int)-1)
def Aku (p:Addr):HO:=.ext fun h=>∃ o,h.get? p=some o
section
variable {X:Cx}
end
open PySem PySem.Spec PyProof.Rows
theorem Cv{c A B:Prop}[Decidable c](h:¬c)(k:B):if decide c=true then A else B:=by rw[decide_eq_false h];exact Ci k
theorem Gi{c A B:Prop}[Decidable c](h:c)(k:A):if decide c=true then A else B:=by rw[decide_eq_true h];exact Jm k
theorem HY{c A B:Prop}[Decidable c](h:¬c)(k:A):if (!decide c)=true then A else B:=by rw[decide_eq_false h];exact Jm k
theorem Ajd{b:Bool}{A B:Prop}(h1:b=true→A)(h2:b=false→B):if b=true then A else B:=by
 cases b with
 | true=>exact Jm (h1 rfl)
 | false=>exact Ci (h2 rfl)
theorem Dg{c A B:Prop}[Decidable c](h1:c→A)(h2:¬c→B):if decide c=true then A else B:=by
 by_cases h:c
 ·exact Gi h (h1 h)
 ·exact Cv h (h2 h)
theorem Ar.upd{H:Hp}{p:Addr}{o:HO}(h:H p=none):Ar H (L2.upd H p o):=fun b o' e=>by rw[Ax (BK e h)];exact e
theorem Ar.new{H H1:Hp}{p:Addr}{o:HO}(e:Ar H H1)(h:H1 p=none):Ar H (L2.upd H1 p o):=e.trans (.upd h)
theorem Ar.over{H H1:Hp}{p:Addr}{o:HO}(e:Ar H H1)(h:H p=none):Ar H (L2.upd H1 p o):=fun b o' q=>by rw[Ax (BK q h)];exact e b o' q
theorem Bc:bootBuiltins "len" = some (.builtin "len"):=by decide +kernel
theorem BV:bootBuiltins "isinstance" = some (.builtin "isinstance"):=by decide +kernel
theorem Af2:bootBuiltins "min" = some (.builtin "min"):=by decide +kernel
theorem AbX:bootBuiltins "max" = some (.builtin "max"):=by decide +kernel
theorem Aba:bootBuiltins "sorted" = some (.builtin "sorted"):=by decide +kernel
theorem Af3:bootBuiltins "all" = some (.builtin "all"):=by decide +kernel
theorem Fo:bootBuiltins "list" = some (.type "list"):=by decide +kernel
theorem AbY:bootBuiltins "str" = some (.type "str"):=by decide +kernel
theorem VL:bootBuiltins "int" = some (.type "int"):=by decide +kernel
theorem RT:bootBuiltins "tuple" = some (.type "tuple"):=by decide +kernel
theorem Xy:bootBuiltins "reversed" = some (.type "reversed"):=by decide +kernel
theorem VM:bootBuiltins "enumerate" = some (.type "enumerate"):=by decide +kernel
theorem Af4:bootBuiltins "zip" = some (.type "zip"):=by decide +kernel
theorem AdB:bootBuiltins "bool" = some (.type "bool"):=by decide +kernel
theorem AbZ:bootBuiltins "range" = some (.type "range"):=by decide +kernel
theorem Af5:bootBuiltins "set" = some (.type "set"):=by decide +kernel
structure Df (K:PySem.W.Frag) (mg:Str→Option Value) (x:Str) (st:Stmt) (ps:List Str) (f:Addr) (fd:FuncData):Prop where
 F:Fun K x x st f fd
 m:mg x=some (.ref f)
 b:Binds K fd ps []
def vS (cl:List (List Nat)):List V:=cl.map fun t=>V.str (tx t)
def vI (ns:List Int):List V:=ns.map V.int
theorem Bq(cl:List (List Nat)):(vS cl).length=cl.length:=by unfold vS;rw[AkE]
theorem Bx(ns:List Int):(vI ns).length=ns.length:=by unfold vI;rw[AkE]
theorem Gq{cl:List (List Nat)}{i:Nat}{t:List Nat}(h:cl[i]?=some t):(vS cl)[i]?=some (.str (tx t)):=by unfold vS;rw[AkM,h];rfl
theorem Hv{ns:List Int}{i:Nat}{n:Int}(h:ns[i]?=some n):(vI ns)[i]?=some (.int n):=by unfold vI;rw[AkM,h];rfl
theorem Hw{cl:List (List Nat)}{i:Nat}{v:V}(h:(vS cl)[i]?=some v):∃ t,cl[i]?=some t∧v=.str (tx t):=by
 unfold vS at h
 rw[AkM] at h
 cases e:cl[i]? with
 | none=>rw[e] at h;cases h
 | some t=>rw[e] at h;exact⟨t,rfl,(Option.some.inj h).symm⟩
theorem Ia{ns:List Int}{i:Nat}{v:V}(h:(vI ns)[i]?=some v):∃ t,ns[i]?=some t∧v=.int t:=by
 unfold vI at h
 rw[AkM] at h
 cases e:ns[i]? with
 | none=>rw[e] at h;cases h
 | some t=>rw[e] at h;exact⟨t,rfl,(Option.some.inj h).symm⟩
theorem Fp(ns:List Int):(vI ns).all Eg=true:=by unfold vI;rw[List.all_map];exact List.all_eq_true.mpr fun _ _=>rfl
theorem Ka(cl:List (List Nat)):(vS cl).all Eg=true:=by unfold vS;rw[List.all_map];exact List.all_eq_true.mpr fun _ _=>rfl
theorem Kc(cl:List (List Nat)):vS cl=(cl.map tx).map V.str:=by unfold vS;rw[List.map_map];rfl
theorem Af6(ns:List Int)(j:Nat)(n:Int):(vI ns).set j (.int n)=vI (ns.set j n):=by unfold vI;rw[List.map_set]
theorem GF(ns:List Int)(n:Int):vI ns++[.int n]=vI (ns++[n]):=by unfold vI;rw[AkL];rfl
theorem Eu(cl:List (List Nat))(t:List Nat):vS cl++[.str (tx t)]=vS (cl++[t]):=by unfold vS;rw[AkL];rfl
theorem Bb{α:Type}{xs:List α}{i:Int}{v:α}(h0:0≤i)(h:xs[i.toNat]?=some v):atI xs i=some v:=by
 have e:i=(i.toNat:Int):=by omega
 rw[e]
 exact V3 h
theorem RW{n:Nat}{i:Int}(h0:0≤i)(h:i<n):ixN n i=some i.toNat:=by unfold ixN;rw[if_pos h0,if_pos h]
open PySem PySem.Spec PyProof.Rows
section
variable {X:Cx}{K:PySem.W.Frag}{tg:Expr}
theorem Ao(hK:X.K=K:=by rfl):IxR X (Afu K):=by subst hK;exact Ad5
theorem Bl(hK:X.K=K:=by rfl):IxR X (Afv K):=by subst hK;exact Afw
theorem Nx(hK:X.K=K:=by rfl):OpR X (compareOp .In) (rIn K false):=by subst hK;exact AaT
theorem Hf(hK:X.K=K:=by rfl):OpR X (compareOp .NotIn) (rIn K true):=by subst hK;exact V6
theorem Ak(hK:X.K=K:=by rfl):HD X (.builtin "len") (fun xs H Q=>∃ p ys,xs=[.ref p]∧(SqL K H p ys∨SqT K H p ys)∧Q (.int ys.length) H):=by subst hK;exact V7
theorem FQ(hK:X.K=K:=by rfl):HD X (.type "list") (fun xs H Q=>∃ p ys,xs=[.ref p]∧(SqL K H p ys∨SqT K H p ys)∧∀ l,H l=none→Q (.ref l) (upd H l (.lst ys))):=by subst hK;exact V8
theorem Dk(hK:X.K=K:=by rfl):HD X (.builtin "isinstance") (Ahr K):=by subst hK;exact AbW
theorem J4(hK:X.K=K:=by rfl):MtR X "str.join" (rJoin K):=by subst hK;exact AdA
theorem Xz(hK:X.K=K:=by rfl):SlR X (Ahn K):=by subst hK;exact Ad6
theorem BR{l:Expr}{tl:TE}(hl:PE X l tl)(hK:X.K=K:=by rfl):PI X tg l (Ae9 K tl):=by subst hK;exact Ady hl
variable {o e:Expr}{es:List Expr}{to:TE}{t:TA}{name:Str}{apos cpos:Pos}{T id:String}{r:V→List V→Hp→VK→Prop}
theorem Ca(pa:PlainAttrs T)(slot:Slot T name id)(hty:typeOf (.builtin id)=pure (.type "method_descriptor")) (hm:MtR X id r) (ho:PE X o to) (ha:PA X (e::es) t)
  (hbase:attributeBase o name X.env (eval o X.env)=eval o X.env:=by rfl)
  (hfew:((backTo cpos (starEach (e::es) X.env)).all (fun x=>!x.1) && (backToKw cpos (keywordEach [] X.env)).all (fun x=>x.1.isSome)
   && decide ((e::es).length+([]:List Keyword).length+(if ([]:List Keyword).isEmpty then 0 else 1)<30))=true:=by rfl)
  (hline:(apos.endLine == cpos.line)=true:=by rfl) (hs:starEach (e::es) X.env=(false,eval e X.env)::starEach es X.env:=by rfl) (hplain:(backTo cpos (starEach es X.env)).any (·.1)=false:=by rfl) (hK:X.K=K:=by rfl) :
  PE X (.Call (.Attribute o name apos) (e::es) [] cpos) (tBM K T r to t):=by
 subst hK
 exact Aho pa slot hty hm ho ha hbase hfew hline hs hplain
end
open PySem PySem.Spec PyProof.Rows
abbrev exO (C t:Addr) (tb:Value):Obj:={ cls:=.ref C,data:=.fields #[.ref t,tb,.none,.none,.bool false,.none] }
structure Fx (B:Heap) (l:List Env) (e C t:Addr) (fl:Value) (h:Heap):Prop where
 st:B.StaysIn h
 ne:B.get? e=none
 fr:h.FunFrames B l
 ob:∃(T:Addr) (oT:Obj) (ts:Array Value),h.get? e=some (exO C t (.ref T))∧B.get? T=none∧T≠e∧h.get? T=some oT∧oT.data=.fields ts∧ts[3]?=some fl
section
variable {M:Model}{A:Around}{E:Value→Shared→Prop}{s:Shared}{B:Heap}{env:Env}{l:List Env}{e C t L:Addr}
end
open PySem PySem.Spec PyProof.Rows
section
variable {M:Model}{A:Around}{E:Value→Shared→Prop}{s:Shared}{B:Heap}{env:Env}{l:List Env}{e C t L:Addr}
end
structure Bk (P:Program) (w:World) (outer:List Env) (H:Hp) (h:Heap) (H':Hp) (B h':Heap):Prop where
 ok:HOk P w H' B
 keep:∀ b o,h.get? b=some o→H b=none→b∉frs outer→B.get? b=some o
 slot:∀ b o,h.get? b=some o→b∈frs outer→∃ sl,h'.get? b=some { o with slots:=sl }
 free:∀ b o,h.get? b=some o→H b=none→H' b=none
 there:∀ b o,h.get? b=some o→b∉frs outer→∃ o',B.get? b=some o'
 tups:∀ b xs,H b=some (.tup xs)→H' b=some (.tup xs)
 Nt:∀ b o u,H b=some (.frz o u)→H' b=some (.frz o u)
 Qh:∀ b ps,H b=some (.tbl ps)→∃ more,H' b=some (.tbl (ps++more))
def CX1 (P:Program)(w:World):CXT:=fun outer H s E e s'=>∃ ea C t H' B,e=.ref ea∧Fx B outer ea C t .none s'.heap∧s'.os=s.os∧AllBare s'.gens∧Bk P w outer H s.heap H' B s'.heap∧E (.ref C) none H'
inductive Fly (B:Heap) (l:List Env) (L ea C t:Addr) (h:Heap):Prop where
 | new (st:B.StaysIn h) (ne:B.get? ea=none) (fr:h.FunFrames B l) (ob:h.get? ea=some (exO C t .none))
 | came (x:Fx B l ea C t .none h)
 | seen (x:Fx B l ea C t (rawInt L) h)
def FlX (X:Cx)(E:XK):Value→Shared→Prop:=fun e s'=>∃ ea C t H' B,e=.ref ea∧Fly B X.stack X.env.locals ea C t s'.heap∧s'.os=X.s₀.os∧AllBare s'.gens∧Bk X.prog X.w X.outer X.H₀ X.s₀.heap H' B s'.heap∧E (.ref C) none H'
structure Body (X:Cx):Prop where
 stack:X.stack=X.env::X.outer
 frame:X.env.frame=some X.env.locals
 ex:X.ex=[]
section
variable {X:Cx}{pins:List (Addr × Obj)}{σ:St}{H:Hp}{s s':Shared}{E:XK}{e:Value}
end
open PySem PySem.Spec PyProof.Rows
def Aje (K:PySem.W.Frag)(C:Addr):List Value:=match K.lookup C with
 | some ⟨_,_,.cls cd,_⟩=>cd.mro
 | _=>[]
def Ajf (C:Addr)(E:XK)(t:TA):TS:=fun _ σ H=>t σ H fun vs H1=>vs.length≤sizeLine∧E (.ref C) none H1
section
variable {X:Cx}{x:Str}{C:Addr}{bmB bmN:List Value}{B Bn nid Akv iid Akw:String}{E:XK}{e:Expr}{es:List Expr}{t:TA}{np cpos pos:Pos}
end
abbrev cx1 (P:Program) (w:World) (K:PySem.W.Frag) (mg:Str→Option Value) (base:Heap) (N:List Str) (qual:Str) (scope:Scope) (f:Addr) (cd:Value) (A:Around) (outer:List Env) (s:Shared) (H:Hp) (E:XK):Cx :=
 (Xo (CX1 P w) P w K mg base N qual scope f cd A outer s H E).wish (FlX (Xo (CX1 P w) P w K mg base N qual scope f cd A outer s H E) E)
section
variable {P:Program}{w:World}{K:PySem.W.Frag}{mg:Str→Option Value}{base:Heap}
end
def PEX (X:Cx)(e:Expr)(t:XK→TE):Prop:=∀(pins:List (Addr × Obj)) (s:Shared) (σ:St) (H:Hp) (Q:VK) (E:XK),Inv X pins σ H s→t E σ H Q →
 wpAny (model X.prog X.w) X.A (eval e X.env) (EP X pins σ Q) (fun ex s'=>∃ H1 s1,Inv X pins σ H1 s1∧CX1 X.prog X.w X.stack H1 s1 E ex s') s
section
variable {X:Cx}{k:Nat}{f C:Addr}{fd:FuncData}{ps:List Str}{sp:Sp}{dvs:List V}{ds:List Value}{x m:Str}{p pos apos:Pos}{e o:Expr}{es:List Expr}{ta:TE}{t:TA}
end
open PySem PySem.Spec PyProof.Rows
def exH (C a:Addr):HO:=.ext fun h=>∃ t tb,h.get? a=some (exO C t tb)
section
variable {X:Cx}{pins:List (Addr × Obj)}{σ:St}{H H':Hp}{s s':Shared}{B h2:Heap}{ea C t:Addr}{fl:Value}
abbrev Cx.hdl (X:Cx) (e:Addr):Cx:={ X with A:=X.A.mark (some (.ref e)),calm:=false,xe:=fun _ _=>False }
end
open PySem PySem.Spec PyProof.Rows
section
variable {M:Model}{A:Around}{E:Value→Shared→Prop}{h:Heap}{g:Array GenState}{d:Drawn}{t:Nat}{os:OsState}
end
abbrev WX (X:Cx) (pins:List (Addr × Obj)) (σ:St) (E:XK):Value→Shared→Prop:=fun ex s'=>∃ H1 s1,Inv X pins σ H1 s1∧CX1 X.prog X.w X.stack H1 s1 E ex s'
def PSX (X:Cx)(st:Stmt)(t:XK→TS):Prop:=∀(pins:List (Addr × Obj)) (s:Shared) (σ:St) (H:Hp) (D:Ends) (E:XK),Inv X pins σ H s→t E D σ H→wpAny (model X.prog X.w) X.A (exec st X.env) (SP X pins D) (WX X pins σ E) s
def Akx (X:Cx)(st:List Stmt)(t:XK→TS):Prop:=∀(pins:List (Addr × Obj)) (s:Shared) (σ:St) (H:Hp) (D:Ends) (E:XK),Inv X pins σ H s→t E D σ H→wpAny (model X.prog X.w) X.A (execs st X.env) (SP X pins D) (WX X pins σ E) s
section
variable {X:Cx}{e:Expr}{t u:XK→TS}{te:XK→TE}{pos:Pos}{st:Stmt}
abbrev Ends.un (D:Ends) (j:Nat):Ends:={ nx:=fun σ H=>D.nx (σ.set j none) H,rt:=D.rt,bk:=fun σ H=>D.bk (σ.set j none) H,ct:=fun σ H=>D.ct (σ.set j none) H }
def Sub (K:PySem.W.Frag)(C D:Addr):Prop:=(∃ bm nid,PySem.W.excIn K C bm nid=true)∧(Aje K C).contains (.ref D)=true
def Aky (K:PySem.W.Frag)(Ch:Addr)(j:Nat)(t:XK→TS)(ts:TS):TS:=fun D σ H=>t (fun c _ H'=>∃ C,c=.ref C∧Sub K C Ch∧∀ ea,H' ea=none→ts (D.un j) (σ.set j (some (.ref ea))) (upd H' ea (exH C ea))) D σ H
end
open PySem PySem.Spec PyProof.Rows
structure ExC (K:PySem.W.Frag) (C:Addr):Prop where
 ga:PySem.W.findIn K (.ref C) "__getattribute__" = some (some (.builtin "BaseException.__getattribute__"))
 gt:PySem.W.findIn K (.ref C) "__getattr__" = some none
 cl:PySem.W.findIn K (.ref C) "__class__" = some (some (.builtin "object.__class__"))
 gc:PySem.W.specialIn K (.builtin "object.__class__") "__get__" = some (some (.builtin "getset_descriptor.__get__"))
 tk:PySem.W.takesIn K (.builtin "object.__class__")=some true
 ob:PySem.W.mroIn K C (.type "object")=some true
 be:PySem.W.mroIn K C (.type "BaseException")=some true
 is:(PySem.W.clsIn K C).isSome=true
section
variable {prog:Program}{w:World}{A:Around}{E:Value→Shared→Prop}{s:Shared}{K:PySem.W.Frag}{x C t:Addr}{tb:Value}
end
def Akz (K:PySem.W.Frag):List V→Hp→VK→Prop:=fun vs H Q=>∃ a C b,H a=some (exH C a)∧ExC K C ∧
 ((∃ n,vs=[.ref a,.ty n]∧PySem.W.kitOne K (.ref C) (.type n)=some b)∨(∃ D,vs=[.ref a,.ref D]∧PySem.W.kitOne K (.ref C) (.ref D)=some b))∧Q (.bl b) H
section
variable {X:Cx}{K:PySem.W.Frag}
variable {CX:CXT}{k:Nat}{ps:List Str}{sp:Addr→Sp}{E:XK}{m:Str}{pos apos:Pos}{o:Expr}{ta:TE}
def Ajg (K:PySem.W.Frag)(m:Str)(sp:Addr→Sp)(E:XK)(ta:TE):TE:=fun σ H Q=>ta σ H fun x H1=>∃ a C,x=.ref a∧H1 a=some (exH C a)∧sp C [x] H1 Q E
end
open PySem PySem.Spec PyProof.Rows
abbrev vE:List Value:=[.type "ValueError", .type "Exception", .type "BaseException", .type "object"]
abbrev vN:String := "ValueError.__new__"
structure Exn (K:PySem.W.Frag) (C:Addr):Prop where
 q:PySem.W.excIn K C vE vN=true
 c:ExC K C
 ty:PySem.W.typeIn K (.ref C)=some (.type "type")
 ve:PySem.W.mroIn K C (.type "ValueError")=some true
theorem Af7{K:PySem.W.Frag}{C:Addr}(q:PySem.W.excIn K C vE vN=true)(ga:PySem.W.findIn K (.ref C) "__getattribute__" = some (some (.builtin "BaseException.__getattribute__"))) (gt:PySem.W.findIn K (.ref C) "__getattr__" = some none)
  (cl:PySem.W.findIn K (.ref C) "__class__" = some (some (.builtin "object.__class__"))) (gc:PySem.W.specialIn K (.builtin "object.__class__") "__get__" = some (some (.builtin "getset_descriptor.__get__"))) (tk:PySem.W.takesIn K (.builtin "object.__class__")=some true)
  (ob:PySem.W.mroIn K C (.type "object")=some true) (be:PySem.W.mroIn K C (.type "BaseException")=some true) (is:PySem.W.isClsIn K C=true) (ty:PySem.W.typeIn K (.ref C)=some (.type "type")) (ve:PySem.W.mroIn K C (.type "ValueError")=some true):Exn K C :=
 ⟨q,⟨ga,gt,cl,gc,tk,ob,be,is⟩,ty,ve⟩
section
variable {X:Cx}{CX:CXT}{k:Nat}{C f:Addr}{fd:FuncData}{ps:List Str}{sp:Sp}{E:XK}{m:Str}{pos apos:Pos}{o:Expr}{ta:TE}
def Ajh (C:Addr)(sp:Sp)(E:XK)(ta:TE):TE:=fun σ H Q=>ta σ H fun x H1=>∃ a,x=.ref a∧H1 a=some (exH C a)∧sp [x] H1 Q E
end
def AdC (s:Stmt):List Stmt:=match s with
 | .ClassDef _ _ _ b _ _ _ _ _ _ _=>b
 | _=>[]
structure Mf (K:PySem.W.Frag) (x q:Str) (st:Stmt) (ps:List Str) (C f:Addr) (fd:FuncData):Prop where
 F:Fun K x q st f fd
 m:Meth K C x f
 b:Binds K fd ps []
theorem Af8(K:PySem.W.Frag):PySem.W.kitOne K (.type "int") (.type "bool")=some false:=by
 unfold PySem.W.kitOne PySem.W.kitCls PySem.W.subIn
 rw[if_neg (by simp)]
 show(if _ then _ else _)=_
 rw[if_pos (by decide +kernel)]
 show Option.map (fun x=>x.contains (Value.type "bool")) (fastBuiltinMro "int")=some false
 decide +kernel
open PySem PySem.Spec PyProof.Rows
open Builtin Builtin.Str
def VN (u:List Nat)(lo hi:Option Int):List Nat:=(u.drop (HT.sIx u.length 0 lo)).take (HT.sIx u.length u.length hi-HT.sIx u.length 0 lo)
theorem Af9(a b:Nat):sliceRange (a:Int) (b:Int) 1=(List.range (b-a)).map fun k=>a+k:=by
 unfold sliceRange
 simp only [show(1:Int)>0 by decide,if_true]
 by_cases h:(a:Int)<(b:Int)
 ·rw[if_pos h,Int.ediv_one,show(b:Int)-(a:Int)+1-1=((b-a:Nat):Int) by omega,AkJ]
  exact Ame fun k _=>by omega
 ·rw[if_neg h,show b-a=0 by omega]
  rfl
theorem Mg(n d:Nat)(i:Int):max 0 (min (if i<0 then i+(n:Int) else i) (n:Int))=(HT.sIx n d (some i):Int):=by
 show _=(((if i<0 then (i+(n:Int)).toNat else min i.toNat n):Nat):Int)
 by_cases h:i<0
 ·rw[if_pos h,if_pos h];omega
 ·rw[if_neg h,if_neg h];omega
theorem idx_eq(n:Nat)(lo hi:Option Int):strSliceIndices lo hi 1 n=(List.range (HT.sIx n n hi-HT.sIx n 0 lo)).map fun k=>HT.sIx n 0 lo+k:=by
 rw[← Af9]
 cases lo with
 | none =>
  cases hi with
  | none=>rfl
  | some j=>rw[← Mg];rfl
 | some i =>
  cases hi with
  | none=>rw[← Mg n 0 i];rfl
  | some j=>rw[← Mg n 0 i,← Mg n n j];rfl
theorem Aca(u:List Nat)(lo hi:Option Int):Txt.slice (tx u) lo hi=tx (VN u lo hi):=by
 unfold Txt.slice VN
 rw[An,idx_eq]
 have hle:HT.sIx u.length u.length hi≤u.length:=HT.Aft _ _ (AkF _) _
 have key:∀(a k:Nat),a+k≤u.length→((List.range k).map fun j=>a+j).filterMap (fun i=>(tx u).cps[i]?)=(u.drop a).take k:=by
  intro a k
  induction k with
  | zero=>intro _;simp
  | succ k ih =>
   intro h
   rw[Alx,AkL,List.filterMap_append,ih (by omega)]
   have:a+k<u.length:=by omega
   simp only [AkQ,Al1,AlP,List.filterMap_nil,Nv,AkD this]
   rw[List.take_succ,AlU,AkD this]
   rfl
 split
 next h =>
  simp only [AkE,AkV,Al2,beq_iff_eq] at h
  have h2:=h.2
  have:HT.sIx u.length 0 lo=0∨u.length=0:=by omega
  rcases this with e | e
  ·rw[e,AlV,Aly (by omega)]
  ·rw[List.eq_nil_of_length_eq_zero e];simp
 next h =>
  by_cases hlt:HT.sIx u.length 0 lo≤HT.sIx u.length u.length hi
  ·show(Str.mk _)=_
   rw[key _ _ (by omega)]
   rfl
  ·have e:HT.sIx u.length u.length hi-HT.sIx u.length 0 lo=0:=by omega
   rw[e]
   simp[tx]
theorem Zn{u:List Nat}{k:Nat}(h:k≤u.length):VN u none (some (k:Int))=u.take k:=by
 unfold VN
 rw[HT.RN,HT.Oi,AlV,AlK h,Nat.sub_zero]
section
variable {X:Cx}
theorem VP:SlR X (fun x lo hi H Q=>∃ u:List Nat,x=.str (tx u)∧u.length≤sizeLine∧Q (.str (tx (VN u lo hi))) H):=by
 intro pins s σ H x v vl vu lo hi sl Q I rx hs pl pu h
 obtain⟨u,rfl,hz,q⟩:=h
 obtain⟨t,rfl⟩:=rx
 rw[← Aca] at q
 refine⟨"str", _,F.slot_str_getitem.lookup,typeIs_str _ _ _,?_⟩
 have hsz:(tx u).length≤sizeLine:=by rw[An];exact hz
 obtain⟨os,hos,hcs,hds⟩:=id hs
 have fin:∀(l u':Option (Int × Tok)),s.heap.IsSlice sl l u' none→Q (.str (Txt.slice (tx u) (l.map (·.1)) (u'.map (·.1)))) H→wpAny (model X.prog X.w) X.A (getItem (.str (tx u) t) (.ref sl)) (EP X pins σ Q) X.xe s:=fun l u' z q' =>
  wpAny_getItem_str_slice z rfl (post_val_or_str ⟨AkZ (Txt.slice_le (tx u) _ _) hsz,fun t' k=>⟨.str _,H,I.tok _,⟨t',rfl⟩,q'⟩⟩)
 cases pl with
 | none=>cases pu with
  | none=>exact fin none none ⟨os,hos,hcs,hds⟩ q
  | int j tj=>exact fin none (some (j,tj)) ⟨os,hos,hcs,hds⟩ q
 | int i ti=>cases pu with
  | none=>exact fin (some (i,ti)) none ⟨os,hos,hcs,hds⟩ q
  | int j tj=>exact fin (some (i,ti)) (some (j,tj)) ⟨os,hos,hcs,hds⟩ q
end
open PySem PySem.Spec PyProof.Rows
theorem RX:∀(xs:List V) (us:List Value),xs.length=us.length→(∀(i:Nat) x u,xs[i]?=some x→us[i]?=some u→RelV x u)→Vals xs us
 | [],[],_,_=>.nil
 | [],_::_,h,_=>by simp at h
 | _::_,[],h,_=>by simp at h
 | x::xs,u::us,h,p=>.cons (p 0 x u rfl rfl) (RX xs us (by simpa using h) fun i y v e1 e2=>p (i+1) y v e1 e2)
def Zo (p:Addr)(a b c:Int):HO:=.ext fun h=>∃ t u v,IsRange h p a b c t u v
def Zq (a c:Int)(n:Nat):List Int:=(List.range n).map fun(i:Nat)=>a+(i:Int)*c
section
variable {X:Cx}{K:PySem.W.Frag}
theorem Acb{pins:List (Addr × Obj)}{σ:St}{H:Hp}{s:Shared}{a b c:Int}{t u v:Tok}{Q:VK}{tk:Nat}(I:Inv X pins σ H s)(q:∀ p,H p=none→Q (.ref p) (upd H p (Zo p a b c))) :
  EP X pins σ Q (.ref s.heap.objs.size) { s with heap:=s.heap.push { cls:=.type "range", data:=.fields #[.int a t,.int b u,.int c v] },toks:=tk }:=by
 have hg:(s.heap.push { cls:=.type "range", data:=.fields #[.int a t,.int b u,.int c v] }).get? s.heap.objs.size=some { cls:=.type "range", data:=.fields #[.int a t,.int b u,.int c v] }:=Heap.get?_push_size _ rfl
 refine⟨.ref s.heap.objs.size,_,I.laid (o:=Zo s.heap.objs.size a b c) (fun b o e=>Heap.get?_push_of_some _ e) (AkF _) ?_,rfl,q _ (I.hok.fresh (AkF _))⟩
 exact⟨⟨t,u,v,hg⟩,⟨_,hg⟩,fun h1 h2 y k=>by
  obtain⟨t',u',v',y⟩:=y
  exact⟨t',u',v',k _ y⟩⟩
theorem Zr(hc:X.calm=true:=by rfl):HD X (.type "list") (fun xs H Q=>∃(p:Addr) (a b c:Int) (n:Nat),xs=[.ref p]∧H p=some (Zo p a b c)∧Builtin.Range.small a b c=true∧Builtin.Range.rangeSize a b c=n∧n≤1000 ∧
  ∀ l,H l=none→Q (.ref l) (upd H l (.lst (vI (Zq a c n))))):=by
 intro pins s σ H xs us Q I rv h
 obtain⟨p,a,b,c,n,rfl,hp,hs,hn,hz,q⟩:=h
 obtain⟨u,rfl,ru⟩:=rv.one
 cases ru
 obtain⟨⟨t,u,v,hr⟩,_,_⟩:=I.hok p _ hp
 refine call_list_range (I.ok.hd hc) hr hs hn (AkZ hz (by decide)) fun h' tk acc c' hk hl hi=>?_
 refine⟨.ref s.heap.objs.size,_,I.laid (t':=tk) (o:=.lst (vI (Zq a c n))) hk (AkF _) ?_,rfl,q _ (I.hok.fresh (AkF _))⟩
 have hlen:(vI (Zq a c n)).length=n:=by rw[Bx];unfold Zq;rw[AkE,AkV]
 refine⟨by rw[hlen];exact Al7 (AaW hz),acc.toList,c',?_,hl⟩
 refine RX _ _ (by rw[hlen,Array.length_toList,hi.1]) fun i x u e1 e2=>?_
 obtain⟨z,hz1,rfl⟩:=Ia e1
 obtain⟨t',rfl⟩:=hi.2 i u (by rw[← Array.getElem?_toList];exact e2)
 have hin:i<n:=by
  have:=(List.getElem?_eq_some_iff.mp e1).1
  rwa [hlen] at this
 unfold Zq at hz1
 rw[AkM,Al3 hin] at hz1
 cases hz1
 exact⟨t',rfl⟩
end
open PySem PySem.Spec PyProof.Rows
section
variable {X:Cx}{K:PySem.W.Frag}{o e value:Expr}{f:Str}{pos pos' tpos:Pos}{ta tv:TE}{st:Stmt}{t:TS}
theorem Fq(he:PE X e ta)(hb:attributeBase e f X.env (eval e X.env)=eval e X.env)(hK:X.K=K:=by rfl):PE X (.Attribute e f pos) (Ahe K ta f):=by subst hK;exact Afp he hb
theorem VR(ha:PE X o ta)(hv:PE X value tv)(hs:swapsWith value (some (.Attribute o f pos')) pos.line X.env=pure false:=by rfl)(hK:X.K=K:=by rfl):PS X (.Assign [.Attribute o f pos'] value pos) (Ahf K ta tv f):=by subst hK;exact Afq ha hv hs
end
structure Own (K:PySem.W.Frag) (C f:Addr):Prop where
 c:Cls K C
 m:Mk K C f
theorem AfA{K:PySem.W.Frag}{C f:Addr}(h1:PySem.W.plainGet K C Str.empty=true)(h2:PySem.W.hasDictIn K C=true)(h3:PySem.W.plainOver K C=true)(h4:PySem.W.findIn K (.ref C) "__setattr__" = some (some (.builtin "object.__setattr__")))
  (h5:PySem.W.makesIn K C=true) (h6:PySem.W.findIn K (.ref C) "__init__" = some (some (.ref f))) (h7:PySem.W.isFn K (.ref f)=true) (h8:PySem.W.keepIn K (.ref C)=true):Own K C f:=⟨⟨h1,h2,h3,h4⟩,⟨h5,h6,h7,h8⟩⟩
open PySem PySem.Spec PyProof.Rows
structure Ak0 (K:PySem.W.Frag) (C:Addr) (m:Str) (f:Addr):Prop where
 rd:PySem.W.readsIn K C (.type "type")=true
 fi:PySem.W.findCls K (.ref C) (.type "type") m=some (.val (.ref f))
 ha:PySem.W.handedIn (.ref f)=true
 sp:PySem.W.specialIn K (.ref C) "__getattribute__" = some (some (.builtin "type.__getattribute__"))
 kp:PySem.W.keepIn K (.ref f)=true
def AjF (C:Addr)(sp:Sp)(dvs:List V)(E:XK)(ta:TE)(t:TA):TE:=fun σ H Q=>ta σ H fun x H1=>x=.ref C∧t σ H1 fun vs H2=>sp (vs++dvs) H2 Q E
section
variable {X:Cx}{CX:CXT}{k:Nat}{f C:Addr}{fd:FuncData}{ps:List Str}{sp:Sp}{dvs:List V}{ds:List Value}{E:XK}{m:Str}{pos apos:Pos}{e o:Expr}{es:List Expr}{ta:TE}{t:TA}
end
open PySem PySem.Spec PyProof.Rows
section
variable {κ:Type} [DecidableEq κ]
def Gr (kvs:List (κ × V))(k:κ):Option V:=(kvs.find? fun kv=>decide (kv.1=k)).map (·.2)
def putK(kvs:List (κ × V))(k:κ)(v:V):List (κ × V) :=
 if (kvs.any fun kv=>decide (kv.1=k))=true then kvs.map (fun kv=>if kv.1=k then (kv.1,v) else kv) else kvs++[(k,v)]
def Acd (kvs:List (κ × V))(k:κ):List (κ × V):=kvs.filter fun kv=>decide (kv.1≠k)
theorem RZ{k:κ}:Gr ([]:List (κ × V)) k=none:=rfl
theorem J5{p:κ × V}{r:List (κ × V)}{k:κ}(e:p.1=k):Gr (p::r) k=some p.2:=by simp[Gr,AlC,e]
theorem Ho{p:κ × V}{r:List (κ × V)}{k:κ}(e:¬p.1=k):Gr (p::r) k=Gr r k:=by simp[Gr,AlC,e]
theorem Sh(k:κ):∀ kvs:List (κ × V),(kvs.any fun kv=>decide (kv.1=k))=(Gr kvs k).isSome
 | []=>rfl
 | p::r=>by
  rw[AlA]
  by_cases e:p.1=k
  ·simp only [J5 e,decide_eq_true e,Bool.true_or,Option.isSome_some]
  ·rw[Ho e,decide_eq_false e,Bool.false_or];exact Sh k r
theorem Lb(kvs:List (κ × V))(k:κ)(v:V):(putK kvs k v).length≤kvs.length+1:=by
 unfold putK
 split
 ·rw[AkE];omega
 ·rw[AkG,Ala,List.length_nil];omega
theorem Sq{kvs:List (κ × V)}{k:κ}(v:V)(h:Gr kvs k=none):putK kvs k v=kvs++[(k,v)]:=by
 unfold putK
 rw[Sh,h]
 exact if_neg (by decide)
theorem Nr.J6{o:Option V}{u:Option Value}(r:Nr o u):o.isSome=u.isSome:=by
 cases o with
 | none=>cases u with
  | none=>rfl
  | some _=>exact(show False from r).elim
 | some _=>cases u with
  | none=>exact(show False from r).elim
  | some _=>rfl
theorem Nr.getD{o:Option V}{u:Option Value}{d:V}{d':Value}(r:Nr o u)(rd:RelV d d'):RelV (o.getD d) (u.getD d'):=by
 cases o with
 | none=>cases u with
  | none=>exact rd
  | some _=>exact(show False from r).elim
 | some _=>cases u with
  | none=>exact(show False from r).elim
  | some _=>exact r
theorem KV.val{kvs:List (κ × V)}{vs:List (κ × Value)}(r:KV kvs vs)(k:κ):Nr (Gr kvs k) (valueAt vs k):=by
 unfold KV at r
 induction r with
 | nil=>exact True.intro
 | @cons p q ps qs h t ih =>
  obtain⟨h1,h2⟩:=h
  by_cases e:p.1=k
  ·have e':q.1=k:=h1.symm.trans e
   have b:valueAt (q::qs) k=some q.2:=by simp[valueAt,AlC,e']
   rw[J5 e,b];exact h2
  ·have e':¬q.1=k:=fun z=>e (h1.trans z)
   have b:valueAt (q::qs) k=valueAt qs k:=by simp[valueAt,AlC,e']
   rw[Ho e,b];exact ih
theorem KV.any{kvs:List (κ × V)}{vs:List (κ × Value)}(r:KV kvs vs)(k:κ):(kvs.any fun kv=>decide (kv.1=k))=vs.any fun kv=>decide (kv.1=k):=by
 unfold KV at r
 induction r with
 | nil=>rfl
 | cons h t ih=>rw[AlA,AlA,ih,h.1]
theorem KV.repl{kvs:List (κ × V)}{vs:List (κ × Value)}(r:KV kvs vs)(k:κ){y:V}{u:Value}(ry:RelV y u) :
  KV (kvs.map fun kv=>if kv.1=k then (kv.1,y) else kv) (vs.map fun kv=>if kv.1=k then (kv.1,u) else kv):=by
 unfold KV at r ⊢
 induction r with
 | nil=>exact .nil
 | @cons p q ps qs h t ih =>
  rw[AkQ,AkQ]
  refine .cons ?_ ih
  obtain⟨h1,h2⟩:=h
  by_cases e:p.1=k
  ·rw[if_pos e,if_pos (h1.symm.trans e)];exact⟨h1,ry⟩
  ·rw[if_neg e,if_neg (fun z=>e (h1.trans z))];exact⟨h1,h2⟩
theorem KV.put{kvs:List (κ × V)}{vs:List (κ × Value)}(r:KV kvs vs)(k:κ){y:V}{u:Value}(ry:RelV y u):KV (putK kvs k y) (stored vs k u):=by
 unfold putK stored
 rw[r.any k]
 by_cases e:(vs.any fun kv=>decide (kv.1=k))=true
 ·rw[if_pos e,if_pos e];exact r.repl k ry
 ·rw[if_neg e,if_neg e];exact Paired.snoc r ⟨rfl,ry⟩
theorem KV.length{kvs:List (κ × V)}{vs:List (κ × Value)}(r:KV kvs vs):kvs.length=vs.length:=Paired.length r
end
theorem Ss{P:Program}{w:World}{k:Key}{u:Value}(r:RelV (kV k) u):(Dv P w).is k u=true:=by
 cases k with
 | inl i=>obtain⟨t,e⟩:=(show ∃ t,u=Value.int i t from r);subst e;exact Xh P w i t
 | inr x=>obtain⟨t,e⟩:=(show ∃ t,u=Value.str x t from r);subst e;exact Xi P w x t
theorem Va{P:Program}{w:World}:∀{ks:List Key} {us:List Value},Vals (ks.map kV) us→ItemsAre (Dv P w) ks us
 | [],_,r=>by rw[Al1] at r;cases r;exact .nil
 | k::ks,_,r=>by
  rw[AkQ] at r
  cases r with
  | cons h t=>exact .cons (Ss h) (Va t)
abbrev KT (H:Hp):List (List Key × V)→List (List Key × Addr × Value)→Prop:=Paired fun p q=>p.1=q.1∧H q.2.1=some (.tup (p.1.map kV))∧RelV p.2 q.2.2
theorem KT.val{H:Hp}{kvs:List (List Key × V)}{xs:List (List Key × Addr × Value)}(r:KT H kvs xs)(k:List Key):Nr (Gr kvs k) ((atKey xs k).map (·.2)):=by
 induction r with
 | nil=>exact True.intro
 | @cons p q ps qs h t ih =>
  obtain⟨h1,_,h2⟩:=h
  by_cases e:p.1=k
  ·have e':q.1=k:=h1.symm.trans e
   have b:atKey (q::qs) k=some q.2:=by simp[atKey,AlC,e']
   rw[J5 e,b];exact h2
  ·have e':¬q.1=k:=fun z=>e (h1.trans z)
   have b:atKey (q::qs) k=atKey qs k:=by simp[atKey,AlC,e']
   rw[Ho e,b];exact ih
theorem KT.repl{H:Hp}{kvs:List (List Key × V)}{xs:List (List Key × Addr × Value)}(r:KT H kvs xs)(k:List Key){y:V}{u:Value}(ry:RelV y u) :
  KT H (kvs.map fun kv=>if kv.1=k then (kv.1,y) else kv) (xs.map (putAt k u)):=by
 induction r with
 | nil=>exact .nil
 | @cons p q ps qs h t ih =>
  rw[AkQ,AkQ]
  refine .cons ?_ ih
  obtain⟨h1,h2,h3⟩:=h
  unfold putAt
  by_cases e:p.1=k
  ·rw[if_pos e,if_pos (h1.symm.trans e)];exact⟨h1,h2,ry⟩
  ·rw[if_neg e,if_neg (fun z=>e (h1.trans z))];exact⟨h1,h2,h3⟩
theorem KT.put{H:Hp}{kvs:List (List Key × V)}{xs:List (List Key × Addr × Value)}(r:KT H kvs xs)(k:List Key){b:Addr}{y:V}{u:Value}(hb:H b=some (.tup (k.map kV)))(ry:RelV y u) :
  KT H (putK kvs k y) (storedH xs k b u):=by
 have e:(kvs.any fun kv=>decide (kv.1=k))=(atKey xs k).isSome:=by
  rw[Sh,(r.val k).J6,Amf]
 unfold putK storedH
 rw[e]
 by_cases q:(atKey xs k).isSome=true
 ·rw[if_pos q,if_pos q];exact r.repl k ry
 ·rw[if_neg q,if_neg q];exact Paired.snoc r ⟨rfl,hb,ry⟩
theorem KT.keeps{H H':Hp}{kvs:List (List Key × V)}{xs:List (List Key × Addr × Value)}(r:KT H kvs xs)(ht:∀ b ys,H b=some (.tup ys)→H' b=some (.tup ys)):KT H' kvs xs :=
 Paired.Afh r fun _ _ z=>⟨z.1,ht _ _ z.2.1,z.2.2⟩
section
variable {P:Program}{w:World}{H:Hp}{h:Heap}{a:Addr}
theorem AeD{u:HO}(ok:HOk P w H h)(e:Rd H a u):Ea P w H h a u:=e.ok ok
theorem QM{kvs:List (Key × V)}(ok:HOk P w H h)(e:Rd H a (.dK kvs)):kvs.length≤sizeLine∧(a == sysModules)=false∧∃ vs,KV kvs vs∧h.DictOf (Dv P w) a vs :=
 show Ea P w H h a (.dK kvs) from AeD ok e
theorem Aai{kvs:List (Key × V)}(ok:HOk P w H h)(e:H a=some (.dK kvs)):kvs.length≤sizeLine∧(a == sysModules)=false∧∃ vs,KV kvs vs∧h.DictOf (Dv P w) a vs:=QM ok (.inl e)
theorem Qq{ks:List Key}(ok:HOk P w H h)(e:H a=some (.tup (ks.map kV))):(tupleKind (Dv P w)).is h ks a:=by
 obtain⟨_,its,r,o,h1,h2,n,h3⟩:=(show Ea P w H h a (.tup (ks.map kV)) from ok a _ e)
 exact⟨o,its.toArray,n,h1,h2,h3,by simpa using Va r⟩
theorem Su{kvs:List (List Key × V)}(ok:HOk P w H h)(e:Rd H a (.dT kvs)):kvs.length≤sizeLine∧(a == sysModules)=false ∧
  ∃ xs,KT H kvs xs∧h.DictOfH (tupleKind (Dv P w)) a xs:=by
 obtain⟨z,y,xs,r,o,es,ep,h1,h2,h3,h4,h5⟩:=(show Ea P w H h a (.dT kvs) from AeD ok e)
 refine⟨z,y,xs,r,o,es,ep,h1,h2,h3,h4,fun x hx=>?_,h5⟩
 have all:∀{l:List (List Key × V)} {m:List (List Key × Addr × Value)},KT H l m→∀ x∈m,(tupleKind (Dv P w)).is h x.1 x.2.1:=by
  intro l m q
  induction q with
  | nil=>intro x hx;exact nomatch hx
  | @cons p q ps qs hq t ih =>
   intro x hx
   rcases List.mem_cons.mp hx with e | hx
   ·subst e
    exact Qq ok (by rw[← hq.1];exact hq.2.1)
   ·exact ih x hx
 exact all r x hx
theorem Ahs{kvs:List (List Key × V)}(ok:HOk P w H h)(e:H a=some (.dT kvs)):kvs.length≤sizeLine∧(a == sysModules)=false ∧
  ∃ xs,KT H kvs xs∧h.DictOfH (tupleKind (Dv P w)) a xs:=Su ok (.inl e)
end
def Hq (H:Hp)(a:Addr)(y:V)(r:Option V):Prop :=
 (∃ kvs k,Rd H a (.dK kvs)∧y=kV k∧r=Gr kvs k)∨∃ kvs k b,Rd H a (.dT kvs)∧y=.ref b∧H b=some (.tup (k.map kV))∧r=Gr kvs k
def X4 (H:Hp)(a:Addr)(y v:V)(H':Hp):Prop :=
 (∃ kvs k,H a=some (.dK kvs)∧y=kV k∧kvs.length<sizeLine∧H'=upd H a (.dK (putK kvs k v))) ∨
 ∃ kvs k b,H a=some (.dT kvs)∧y=.ref b∧H b=some (.tup (k.map kV))∧kvs.length<sizeLine∧H'=upd H a (.dT (putK kvs k v))
theorem Hq.k{H:Hp}{a:Addr}{kvs:List (Key × V)}{k:Key}(e:H a=some (.dK kvs)):Hq H a (kV k) (Gr kvs k):=.inl ⟨kvs,k,.inl e,rfl,rfl⟩
theorem X4.k{H:Hp}{a:Addr}{kvs:List (Key × V)}{k:Key}{v:V}(e:H a=some (.dK kvs))(hl:kvs.length<sizeLine):X4 H a (kV k) v (upd H a (.dK (putK kvs k v))):=.inl ⟨kvs,k,e,rfl,hl,rfl⟩
section
variable {X:Cx}{pins:List (Addr × Obj)}{σ:St}{H:Hp}{s:Shared}{a:Addr}{y v:V}{u r:Value}{o:Option V}{A:Around}{E:Value→Shared→Prop}
theorem Inv.big(I:Inv X pins σ H s):sysModules<s.heap.objs.size:=by
 have h:mainGlobals<s.heap.objs.size:=(I.mod.glob.keeps I.bk).lt
 exact AlW (by decide) h
theorem Abb{Q:Value→Shared→Prop}(hu:A.units+1<cLine)(I:Inv X pins σ H s)(g:Hq H a y (some v))(ry:RelV y u)(h:∀ w' s',Inv X pins σ H s'→RelV v w'→Q w' s') :
  wpAny (model X.prog X.w) A (getItem (.ref a) u) Q E s:=by
 rcases g with ⟨kvs,k,e,ey,l⟩ | ⟨kvs,k,b,e,ey,eb,l⟩
 ·subst ey
  obtain⟨z,hd,vs,rel,dd⟩:=QM I.hok e
  obtain⟨w',hw,rw'⟩:=Nr.some_of (v:=v) (o:=valueAt vs k) (by rw[l];exact rel.val k)
  exact wpAny_getItem_of (Ss ry) dd.mapOf hw (h w' _ (I.tok _) rw')
 ·subst ey
  cases (show u=Value.ref b from ry)
  obtain⟨z,hd,xs,rel,dd⟩:=Su I.hok e
  obtain⟨w',hw,rw'⟩:=Nr.some_of (v:=v) (o:=(atKey xs k).map (·.2)) (by rw[l];exact rel.val k)
  obtain⟨p,hp,hp2⟩:=Option.map_eq_some_iff.mp hw
  refine wpAny_getItem_heap (tupleKind_room_in1 hu) (Qq I.hok eb) dd hp ?_
  rw[hp2]
  exact h w' _ (I.tok _) rw'
theorem Aji{Q:Value→Shared→Prop}(hu:A.units+1<cLine)(I:Inv X pins σ H s)(g:Hq H a y o)(ry:RelV y u)(h:∀ s',Inv X pins σ H s'→Q (.bool o.isSome) s') :
  wpAny (model X.prog X.w) A (compareOp .In u (.ref a)) Q E s:=by
 rcases g with ⟨kvs,k,e,ey,l⟩ | ⟨kvs,k,b,e,ey,eb,l⟩
 ·subst ey
  obtain⟨z,hd,vs,rel,dd⟩:=QM I.hok e
  refine wpAny_in_of (Ss ry) hd dd.mapOf ?_
  rw[← (rel.val k).J6,← l]
  exact h _ (I.tok _)
 ·subst ey
  cases (show u=Value.ref b from ry)
  obtain⟨z,hd,xs,rel,dd⟩:=Su I.hok e
  refine wpAny_in_heap (tupleKind_room_in1 hu) (Qq I.hok eb) hd dd ?_
  have q:=(rel.val k).J6
  rw[Amf] at q
  rw[← q,← l]
  exact h _ (I.tok _)
theorem AdD{Q:Value→Shared→Prop}(hu:A.units+1<cLine)(I:Inv X pins σ H s)(g:Hq H a y o)(ry:RelV y u)(h:∀ s',Inv X pins σ H s'→Q (.bool (!o.isSome)) s') :
  wpAny (model X.prog X.w) A (compareOp .NotIn u (.ref a)) Q E s:=by
 rcases g with ⟨kvs,k,e,ey,l⟩ | ⟨kvs,k,b,e,ey,eb,l⟩
 ·subst ey
  obtain⟨z,hd,vs,rel,dd⟩:=QM I.hok e
  refine wpAny_notIn_of (Ss ry) hd dd.mapOf ?_
  rw[← (rel.val k).J6,← l]
  exact h _ (I.tok _)
 ·subst ey
  cases (show u=Value.ref b from ry)
  obtain⟨z,hd,xs,rel,dd⟩:=Su I.hok e
  refine wpAny_notIn_heap (tupleKind_room_in1 hu) (Qq I.hok eb) hd dd ?_
  have q:=(rel.val k).J6
  rw[Amf] at q
  rw[← q,← l]
  exact h _ (I.tok _)
theorem Ry{h':Heap}{t':Nat}{ob:HO}(I:Inv X pins σ H s)(mu:Mut (H a))(hs:Heap.SameBut a s.heap h')(he:∃ q,h'.get? a=some q)(new:Ea X.prog X.w (upd H a ob) h' a ob) :
  Inv X pins σ (upd H a ob) { s with heap:=h',toks:=t' } :=
 I.write (x:=a) (e:=a) mu (.inl rfl) (fun b q hb z=>(hs.2 b hb).trans z) he new
theorem Zt{P:Program}{w:World}{H':Hp}{h':Heap}{kvs:List (Key × V)}{vs:List (Key × Value)}(z:kvs.length≤sizeLine)(hd:(a == sysModules)=false)(rel:KV kvs vs)(dd:h'.DictOf (Dv P w) a vs) :
  Ea P w H' h' a (.dK kvs):=⟨z,hd,vs,rel,dd⟩
theorem Abd{H':Hp}{Q:Unit→Shared→Prop}(hu:A.units+1<cLine)(I:Inv X pins σ H s)(g:X4 H a y v H')(ry:RelV y u)(rv:RelV v r)(h:∀ s',Inv X pins σ H' s'→Q () s') :
  wpAny (model X.prog X.w) A (setItem (.ref a) u r) Q E s:=by
 rcases g with ⟨kvs,k,e,ey,l,eH⟩ | ⟨kvs,k,b,e,ey,eb,l,eH⟩
 ·subst ey eH
  obtain⟨z,hd,vs,rel,dd⟩:=Aai I.hok e
  have hz:vs.length≤sizeLine:=by rw[← rel.length];exact z
  have hl:(putK kvs k v).length≤sizeLine:=by have:=Lb kvs k v;omega
  refine wpAny_setItem_pairs (hsz:=hz) (Ss ry) dd fun h' dd' hs=>h _ ?_
  have he:∃ q,h'.get? a=some q:=let ⟨q,_,_,hq,_⟩:=dd';⟨q,hq⟩
  exact Ry I (by rw[e];exact True.intro) hs he (Zt hl hd (rel.put k rv) dd')
 ·subst ey eH
  cases (show u=Value.ref b from ry)
  obtain⟨z,hd,xs,rel,dd⟩:=Ahs I.hok e
  have hz:xs.length≤sizeLine:=by rw[← Paired.length rel];exact z
  have hl:(putK kvs k v).length≤sizeLine:=by have:=Lb kvs k v;omega
  refine wpAny_setItem_heap (hsz:=hz) (tupleKind_room_in1 hu) (Qq I.hok eb) dd fun h' dd' hs=>h _ ?_
  obtain⟨q,es,ep,hq,h2,h3,h4,_,h5⟩:=dd'
  refine Ry I (by rw[e];exact True.intro) hs ⟨q,hq⟩ ⟨hl,hd,_,(rel.put k eb rv).keeps fun c ys ec=>?_,q,es,ep,hq,h2,h3,h4,h5⟩
  rw[Ax (AgO ec e (fun z=>nomatch z))]
  exact ec
end
section
variable {X:Cx}{pins:List (Addr × Obj)}{σ:St}{H:Hp}{s:Shared}{a:Addr}{kvs:List (Key × V)}{k:Key}{u:Value}{A:Around}{E:Value→Shared→Prop}
theorem Aht{Q:Value→Shared→Prop}(I:Inv X pins σ H s)(e:Rd H a (.dK kvs))(h:∀ t s',Inv X pins σ H s'→Q (.int kvs.length t) s'):wpAny (model X.prog X.w) A (call (.builtin "len") [.ref a]) Q E s:=by
 obtain⟨z,hd,vs,rel,dd⟩:=QM I.hok e
 refine call_len_dict hd dd (by rw[← rel.length];rw[sizeLine_eq] at z;omega) ?_
 rw[← rel.length]
 exact h _ _ (I.tok _)
end
def Ahu (i:Expr):Prop:=∀ ov iv,subscripted i false ov iv=operate [ov,iv] (getItem ov iv)
theorem AdE{prog:Program}{w:World}{A:Around}{E:Value→Shared→Prop}{s:Shared}{env:Env}{value slice:Expr}{pos:Pos}{T id:String}{Q:Value→Shared→Prop}
  (hl:typeLookup (.type T) "__getitem__" = pure (some (.builtin id))) (hs:Ahu slice)
  (h:wpAny (model prog w) A (eval value env) (fun o s₁=>wpAny (model prog w) A (eval slice env) (fun i s₂=>s₂.TypeIs o T∧wpAny (model prog w) A (getItem o i) Q E s₂) E s₁) E s) :
  wpAny (model prog w) A (eval (.Subscript value slice pos) env) Q E s:=by
 refine Subscript_ (wpAny_mono h (fun o s₁ h₁=>wpAny_mono h₁ (fun i s₂ h₂=>?_) fun _ _ x=>x) fun _ _ x=>x)
 obtain⟨hT,h₂⟩:=h₂
 unfold subscriptTail
 refine wpAny_bind ?_
 rw[getitemInPython_of_ne hT.not_modules]
 refine wpAny_bind (wpAny_specialOf hT hl ?_)
 have fin:wpAny (model prog w) A (subscripted slice false o i) (fun r s₃=>wpAny (model prog w) A (letTemporaryGo value o r >>= fun _=>pure r) Q E s₃) E s₂:=by
  rw[hs o i]
  exact wpAny_operating (wpAny_mono h₂ (fun r s₃ h₃=>wpAny_bind (wpAny_letTemporaryGo (wpAny_pure h₃))) fun _ _ x=>x)
 first
  | exact wpAny_pure (wpAny_bind fin)
  | exact wpAny_bind (wpAny_pure (wpAny_bind fin))
  | exact wpAny_bind fin
theorem X5{X:Cx}{pins:List (Addr × Obj)}{σ:St}{H:Hp}{s:Shared}{a:Addr}{y:V}{o:Option V}(I:Inv X pins σ H s)(g:Hq H a y o):s.TypeIs (.ref a) "dict" := by
 rcases g with ⟨kvs,k,e,_,_⟩ | ⟨kvs,k,b,e,_,_,_⟩
 ·obtain⟨_,_,vs,_,dd⟩:=QM I.hok e
  exact dd.typeIs
 ·obtain⟨_,_,xs,_,dd⟩:=Su I.hok e
  exact dd.typeIs
def Ahv (td ty:TE):TE:=fun σ H Q=>td σ H fun x H1=>ty σ H1 fun y H2=>∃ a v,x=.ref a∧Hq H2 a y (some v)∧Q v H2
def Ajj (ty td:TE):TE:=fun σ H Q=>ty σ H fun y H1=>td σ H1 fun x H2=>∃ a o,x=.ref a∧Hq H2 a y o∧Q (.bl o.isSome) H2
def AdF (ty td:TE):TE:=fun σ H Q=>ty σ H fun y H1=>td σ H1 fun x H2=>∃ a o,x=.ref a∧Hq H2 a y o∧Q (.bl (!o.isSome)) H2
def Ahw (td ty tv:TE):TS:=fun D σ H=>tv σ H fun v H1=>td σ H1 fun x H2=>ty σ H2 fun y H3=>∃ a H4,x=.ref a∧X4 H3 a y v H4∧D.nx σ H4
def AjG (td ty tv:TE)(rd:V→V→Hp→VK→Prop):TS:=fun D σ H=>td σ H fun x H1=>ty σ H1 fun y H2=>∃ a v,x=.ref a∧Hq H2 a y (some v) ∧
 tv σ H2 fun y2 H3=>rd v y2 H3 fun z H4=>∃ H5,X4 H4 a y z H5∧D.nx σ H5
def AjH (td ty:TE):TS:=fun D σ H=>td σ H fun x H1=>ty σ H1 fun y H2=>∃ a kvs k,x=.ref a∧H2 a=some (.dK kvs)∧y=kV k∧(Gr kvs k).isSome=true∧D.nx σ (upd H2 a (.dK (Acd kvs k)))
section
variable {X:Cx}{o i e value:Expr}{pos pos' tpos:Pos}{td ty tv:TE}
theorem Rz(hu:X.A.units+1<cLine)(ho:PE X o td)(hi:PE X i ty)(hs:Ahu i):PE X (.Subscript o i pos) (Ahv td ty):=by
 intro pins s σ H Q I h
 refine AdE PySem.F.slot_dict_getitem.lookup hs (thn (ho pins s σ H _ I h) fun u s1 ⟨x,H1,I1,rx,q1⟩=>thn (hi pins s1 σ H1 _ I1 q1) fun iv s2 ⟨y,H2,I2,ry,a,v,ex,g,q2⟩=>?_)
 subst ex
 obtain rfl:u=Value.ref a:=rx
 exact⟨X5 I2 g,Abb hu I2 g ry fun w' s3 I3 rw'=>⟨v,H2,I3,rw',q2⟩⟩
theorem Ace(hu:X.A.units+1<cLine)(hi:PE X i ty)(ho:PE X o td):PC X .In i o (Ajj ty td):=by
 intro pins s σ H Q I h
 refine thn (hi pins s σ H _ I h) fun iv s1 ⟨y,H1,I1,ry,q1⟩=>thn (ho pins s1 σ H1 _ I1 q1) fun u s2 ⟨x,H2,I2,rx,a,ov,ex,g,q2⟩=>?_
 subst ex
 obtain rfl:u=Value.ref a:=rx
 exact Aji hu I2 g ry fun s3 I3=>⟨.bl ov.isSome,H2,I3,rfl,q2⟩
theorem Mh(hu:X.A.units+1<cLine)(hi:PE X i ty)(ho:PE X o td):PC X .NotIn i o (AdF ty td):=by
 intro pins s σ H Q I h
 refine thn (hi pins s σ H _ I h) fun iv s1 ⟨y,H1,I1,ry,q1⟩=>thn (ho pins s1 σ H1 _ I1 q1) fun u s2 ⟨x,H2,I2,rx,a,ov,ex,g,q2⟩=>?_
 subst ex
 obtain rfl:u=Value.ref a:=rx
 exact AdD hu I2 g ry fun s3 I3=>⟨.bl (!ov.isSome),H2,I3,rfl,q2⟩
theorem Wa(hu:X.A.units+1<cLine)(ho:PE X o td)(hi:PE X i ty)(hv:PE X value tv)(hs:swapsWith value (some (.Subscript o i pos')) pos.line X.env=pure false) :
  PS X (.Assign [.Subscript o i pos'] value pos) (Ahw td ty tv):=by
 intro pins s σ H D I h
 refine wpAny_Assign_Subscript (thn (hv pins s σ H _ I h) fun r s1 ⟨v,H1,I1,rv,q1⟩=>thn (ho pins s1 σ H1 _ I1 q1) fun u s2 ⟨x,H2,I2,rx,q2⟩=>thn (hi pins s2 σ H2 _ I2 q2) fun iv s3 ⟨y,H3,I3,ry,a,H4,ex,g,q3⟩=>?_) hs
 subst ex
 obtain rfl:u=Value.ref a:=rx
 exact Abd hu I3 g ry rv fun s4 I4=>⟨σ,H4,I4,q3⟩
end
theorem X6{P:Program}{w:World}{H:Hp}(h:Heap)(hb:sysModules<h.objs.size):Ea P w H (h.push { cls:=.type "dict", data:=.dict #[] }) h.objs.size (.dK []) :=
 ⟨AkP _,beq_eq_false_iff_ne.mpr (Ne.symm (AkK hb)),[],.nil,Heap.DictOf.new h⟩
def AfB:TE:=fun _ H Q=>∀ p,H p=none→Q (.ref p) (upd H p (.dK []))
def Ajk:TE:=fun _ H Q=>∀ p,H p=none→Q (.ref p) (upd H p (.dT []))
section
variable {X:Cx}{pos:Pos}
theorem Acf:PE X (.Dict [] [] pos) AfB:=fun pins s σ H Q I h =>
 wpAny_Dict_empty ⟨.ref s.heap.objs.size,_,I.laid (a:=s.heap.objs.size) (o:=.dK []) (t':=s.toks) (fun _ _ q=>Heap.get?_push_of_some _ q) (AkF _) (X6 s.heap I.big),rfl,h _ (I.hok.fresh (AkF _))⟩
end
def Zu:List (TE × TE)→St→Hp→(List (V × V)→Hp→Prop)→Prop
 | [],_,H,Q=>Q [] H
 | (tk,tv)::r,σ,H,Q=>tk σ H fun x H1=>tv σ H1 fun y H2=>Zu r σ H2 fun ps H3=>Q ((x,y)::ps) H3
abbrev VV:List (V × V)→List (Value × Value)→Prop:=Paired fun p q=>RelV p.1 q.1∧RelV p.2 q.2
def PPs (X:Cx)(pos:Pos)(keys:List (Option Expr))(values:List Expr)(trs:List (TE × TE)):Prop :=
 ∀(pins:List (Addr × Obj)) (s:Shared) (σ:St) (H:Hp) (Q:List (V × V)→Hp→Prop),Inv X pins σ H s→Zu trs σ H Q →
  wpAny (model X.prog X.w) X.A (evalPairs (pairTrees keys values X.env pos)) (fun vs s'=>∃ ps H',Inv X pins σ H' s'∧VV ps vs∧Q ps H') X.xe s
theorem Wb{X:Cx}{pos:Pos}:PPs X pos [] [] []:=fun pins s σ H Q I h=>pairTrees_nil_walk ⟨[],H,I,.nil,h⟩
theorem Sv{X:Cx}{pos:Pos}{k v:Expr}{ks:List (Option Expr)}{vs:List Expr}{tk tv:TE}{trs:List (TE × TE)}(hk:PE X k tk)(hv:PE X v tv)(hr:PPs X pos ks vs trs) :
  PPs X pos (some k::ks) (v::vs) ((tk,tv)::trs):=fun pins s σ H Q I h =>
 pairTrees_cons_walk (thn (hk pins s σ H _ I h) fun u s1 ⟨x,H1,I1,rx,q1⟩=>thn (hv pins s1 σ H1 _ I1 q1) fun w2 s2 ⟨y,H2,I2,ry,q2⟩ =>
  thn (hr pins s2 σ H2 _ I2 q2) fun ws s3 ⟨ps,H3,I3,rel,q3⟩=>⟨(x,y)::ps,H3,I3,.cons ⟨rx,ry⟩ rel,q3⟩)
def Ew (kvs more:List (Key × V)):List (Key × V):=more.foldl (fun acc kv=>putK acc kv.1 kv.2) kvs
theorem KV.merge:∀{more:List (Key × V)} {rs:List (Key × Value)} {kvs:List (Key × V)} {vs:List (Key × Value)},KV more rs→KV kvs vs→KV (Ew kvs more) (merged vs rs):=by
 intro more rs kvs vs r
 unfold KV at r
 induction r generalizing kvs vs with
 | nil=>intro q;exact q
 | @cons p q ps qs h t ih =>
  intro r0
  have e:KV (putK kvs p.1 p.2) (stored vs q.1 q.2):=by
   have:=r0.put p.1 h.2
   rw[← h.1];exact this
  exact ih e
theorem M7:∀(more kvs:List (Key × V)),(Ew kvs more).length≤kvs.length+more.length
 | [],kvs=>by show kvs.length≤kvs.length+0;omega
 | p::r,kvs=>by
  have h1:=M7 r (putK kvs p.1 p.2)
  have h2:=Lb kvs p.1 p.2
  show(Ew (putK kvs p.1 p.2) r).length≤_
  rw[Ala];omega
theorem Sw{P:Program}{w:World}:∀{kvs:List (Key × V)} {ws:List (Value × Value)},VV (kvs.map fun kv=>(kV kv.1,kv.2)) ws→∃ rs,Carries (Dv P w) ws rs∧KV kvs rs
 | [],_,r=>by rw[Al1] at r;cases r;exact⟨[],True.intro,.nil⟩
 | p::kvs,_,r=>by
  rw[AkQ] at r
  cases r with
  | @cons a b as bs h t =>
   obtain⟨rs,c,q⟩:=Sw (P:=P) (w:=w) t
   obtain⟨b1,b2⟩:=b
   exact⟨(p.1,b2)::rs,⟨Ss h.1,rfl,c⟩,.cons ⟨rfl,h.2⟩ q⟩
def Ahx (trs:List (TE × TE)):TE:=fun σ H Q=>∀ p,H p=none→Zu trs σ (upd H p (.dK [])) fun ps H2=>H2 p=some (.dK [])∧∃ kvs:List (Key × V),ps=kvs.map (fun kv=>(kV kv.1,kv.2))∧kvs.length≤15∧Q (.ref p) (upd H2 p (.dK (Ew [] kvs)))
theorem Wc{X:Cx}{pos:Pos}{keys:List (Option Expr)}{values:List Expr}{trs:List (TE × TE)}(h:PPs X pos keys values trs)(hall:keys.all (·.isSome)=true)(hl:keys.length=values.length)(h0:keys≠[])
  (h15:keys.length≤15):PE X (.Dict keys values pos) (Ahx trs):=by
 intro pins s σ H Q I q
 have hn:=I.hok.fresh (AkF s.heap.objs.size)
 have I1:=I.laid (a:=s.heap.objs.size) (o:=.dK []) (h':=s.heap.push { cls:=.type "dict", data:=.dict #[] }) (t':=s.toks) (fun _ _ q=>Heap.get?_push_of_some _ q) (AkF _) (X6 s.heap I.big)
 refine wpAny_Dict_walk (knd:=Dv X.prog X.w) hall hl h0 h15 (thn (h pins _ σ _ _ I1 (q _ hn)) fun ws s2 ⟨ps,H2,I2,rel,e,kvs,ep,lk,q2⟩=>?_)
 subst ep
 obtain⟨rs,c,rk⟩:=Sw (P:=X.prog) (w:=X.w) rel
 obtain⟨z,hd,vs0,r0,dd⟩:=Aai I2.hok e
 cases r0
 refine⟨rs,c,dd,fun h' dd' hs=>⟨.ref s.heap.objs.size,_,?_,rfl,q2⟩⟩
 have hz:(Ew [] kvs).length≤sizeLine:=by
  have h1:=M7 kvs []
  rw[List.length_nil] at h1
  rw[sizeLine_eq];omega
 have he:∃ q,h'.get? s.heap.objs.size=some q:=let ⟨q,_,_,hq,_⟩:=dd';⟨q,hq⟩
 exact Ry I2 (by rw[e];exact True.intro) hs he (Zt hz hd (rk.merge .nil) dd')
structure M1 (X:Cx) (o:Expr) (m:Str) (apos:Pos) (e:Expr) (cpos:Pos):Prop where
 base:attributeBase o m X.env (eval o X.env)=eval o X.env
 few:((backTo cpos (starEach [e] X.env)).all (fun x=>!x.1) && (backToKw cpos (keywordEach [] X.env)).all (fun x=>x.1.isSome)
  && decide (([e]:List Expr).length+([]:List Keyword).length+(if ([]:List Keyword).isEmpty then 0 else 1)<30))=true
 line:(apos.endLine == cpos.line)=true
 trees:backTo cpos (starEach [e] X.env)=[(false,eval e X.env)]
structure M2 (X:Cx) (o:Expr) (m:Str) (apos:Pos) (e f:Expr) (cpos:Pos):Prop where
 base:attributeBase o m X.env (eval o X.env)=eval o X.env
 few:((backTo cpos (starEach [e,f] X.env)).all (fun x=>!x.1) && (backToKw cpos (keywordEach [] X.env)).all (fun x=>x.1.isSome)
  && decide (([e,f]:List Expr).length+([]:List Keyword).length+(if ([]:List Keyword).isEmpty then 0 else 1)<30))=true
 line:(apos.endLine == cpos.line)=true
 trees:backTo cpos (starEach [e,f] X.env)=[(false,eval e X.env),(false,eval f X.env)]
def IsD (H:Hp)(a:Addr):Prop:=(∃ kvs,Rd H a (.dK kvs))∨∃ kvs,Rd H a (.dT kvs)
theorem Acg{X:Cx}{pins:List (Addr × Obj)}{σ:St}{H:Hp}{s:Shared}{a:Addr}(I:Inv X pins σ H s)(d:IsD H a) :
  s.TypeIs (.ref a) "dict" ∧ (∀ b,Value.ref a=.ref b→∃ ob,s.heap.get? b=some ob∧ob.dict=none)∧(a == sysModules)=false:=by
 rcases d with ⟨kvs,e⟩ | ⟨kvs,e⟩
 ·obtain⟨_,hd,vs,_,dd⟩:=QM I.hok e
  refine⟨dd.typeIs,fun b q=>?_,hd⟩
  cases q
  obtain⟨ob,_,_,h1,h2,_⟩:=dd
  exact⟨ob,h1,h2.2.1⟩
 ·obtain⟨_,hd,xs,_,dd⟩:=Su I.hok e
  refine⟨dd.typeIs,fun b q=>?_,hd⟩
  cases q
  obtain⟨ob,_,_,h1,h2,_⟩:=dd
  exact⟨ob,h1,h2.2.1⟩
section
variable {X:Cx}{pins:List (Addr × Obj)}{σ:St}{H:Hp}{s:Shared}{a:Addr}{y d:V}{u r:Value}{o:Option V}{A:Around}{E:Value→Shared→Prop}
theorem AfC{Q:Value→Shared→Prop}(hu:A.units+1<cLine)(I:Inv X pins σ H s)(g:Hq H a y o)(ry:RelV y u)(h:∀ w' s',Inv X pins σ H s'→RelV (o.getD .non) w'→Q w' s') :
  wpAny (model X.prog X.w) A (call (.builtin "dict.get") [.ref a,u]) Q E s:=by
 rcases g with ⟨kvs,k,e,ey,l⟩ | ⟨kvs,k,b,e,ey,eb,l⟩
 ·subst ey
  obtain⟨z,hd,vs,rel,dd⟩:=QM I.hok e
  refine call_meetsIn PySem.F.slot_dict_get dd.typeIs PySem.F.entry_dict_get (PySem.F.args_dict_get_2 _ _) (meets_dict_get (Dv X.prog X.w) a (Ss ry) hd) ⟨_,dd.mapOf,h _ _ (I.tok _) ?_⟩
  rw[l]
  exact(rel.val k).getD rfl
 ·subst ey
  cases (show u=Value.ref b from ry)
  obtain⟨z,hd,xs,rel,dd⟩:=Su I.hok e
  refine call_meetsIn PySem.F.slot_dict_get dd.typeIs PySem.F.entry_dict_get (PySem.F.args_dict_get_2 _ _) (meetsH_dict_get (tupleKind (Dv X.prog X.w)) a b hd) ⟨tupleKind_room_in1 hu,k,xs,Qq I.hok eb,dd,h _ _ (I.tok _) ?_⟩
  rw[l]
  exact(rel.val k).getD rfl
end
def AfD (td ty:TE):TE:=fun σ H Q=>td σ H fun x H1=>∃ a,x=.ref a∧IsD H1 a∧ty σ H1 fun y H2=>∃ o,Hq H2 a y o∧Q (o.getD .non) H2
def Ajl (td ty tx:TE):TE:=fun σ H Q=>td σ H fun x H1=>∃ a,x=.ref a∧IsD H1 a∧ty σ H1 fun y H2=>tx σ H2 fun z H3=>∃ o,Hq H3 a y o∧Q (o.getD z) H3
def Ajm (td ty:TE):TE:=fun σ H Q=>td σ H fun x H1=>∃ a,x=.ref a∧IsD H1 a∧ty σ H1 fun y H2=>∃ kvs k v,H2 a=some (.dK kvs)∧y=kV k∧Gr kvs k=some v∧Q v (upd H2 a (.dK (Acd kvs k)))
def Ajn (td ty tx:TE):TE:=fun σ H Q=>td σ H fun x H1=>∃ a,x=.ref a∧IsD H1 a∧ty σ H1 fun y H2=>tx σ H2 fun z H3=>∃ kvs k,H3 a=some (.dK kvs)∧y=kV k ∧
 (∀ v,Gr kvs k=some v→Q v (upd H3 a (.dK (Acd kvs k))))∧(Gr kvs k=none→Q z H3)
section
variable {X:Cx}{o e f:Expr}{apos cpos:Pos}{td ty tx:TE}
theorem X7(hu:X.A.units+1<cLine)(ho:PE X o td)(he:PE X e ty)(m:M1 X o "get" apos e cpos):PE X (.Call (.Attribute o "get" apos) [e] [] cpos) (AfD td ty):=by
 intro pins s σ H Q I h
 refine wpAny_Call_method m.base m.few m.line PySem.F.plainAttrs_dict PySem.F.slot_dict_get PySem.F.type_dict_get (thn (ho pins s σ H _ I h) fun u s1 ⟨x,H1,I1,rx,a,ex,d,q1⟩=>?_)
 subst ex
 obtain rfl:u=Value.ref a:=rx
 obtain⟨t1,t2,_⟩:=Acg I1 d
 refine⟨t1,t2,?_⟩
 rw[m.trees]
 refine Calls.callWith_builtin rfl (Calls.evalArgs_plain (Calls.spliced_cons (thn (he pins s1 σ H1 _ I1 q1) fun iv s2 ⟨y,H2,I2,ry,ov,g,q2⟩=>Calls.spliced_nil ?_)))
 exact AfC hu I2 g ry fun w' s3 I3 rw'=>⟨_,H2,I3,rw',q2⟩
end
section
variable {X:Cx}{pins:List (Addr × Obj)}{σ:St}{H:Hp}{s:Shared}{a:Addr}{kvs:List (Key × V)}{A:Around}{E:Value→Shared→Prop}
end
section
variable {X:Cx}{pins:List (Addr × Obj)}{σ:St}{H:Hp}{s:Shared}{a:Addr}{y:V}{u:Value}{A:Around}{E:Value→Shared→Prop}
end
open PySem PySem.Spec PyProof.Rows
section
variable {X:Cx}
theorem Abe:HD X (.builtin "len") (fun xs H Q=>∃ a kvs,xs=[V.ref a]∧H a=some (.dK kvs)∧Q (.int kvs.length) H):=by
 intro pins s σ H xs us Q I r h
 obtain⟨a,kvs,rfl,ha,q⟩:=h
 obtain⟨u,rfl,ru⟩:=vals1 r
 cases ru
 exact Aht I (.inl ha) fun t s' I'=>⟨.int kvs.length,H,I',⟨t,rfl⟩,q⟩
end
section
variable {κ:Type} [DecidableEq κ]
end
open PySem PySem.Spec PySem.Calls PyProof.Rows PyProof.Rows.KTD
def Top (K:PySem.W.Frag)(a:Addr)(D:List (Str × Str)):Prop:=∀ h:Heap,K.In h→TextTab h a (D.map fun p=>(p.1,Dat.flat (.str p.2)))
theorem Ajo{K:PySem.W.Frag}{a:Addr}{D:List (Str × Str)}(hl:tabLook (datLooks fun b=>K.lookup b) (fun b=>K.lookup b) a (D.map fun p=>(p.1,Dat.flat (.str p.2)))=true):Top K a D:=fun h X=>text_of_look (fun b o e=>X b o e) hl
def lk (D:List (Str × Str))(k:Str):Option Str:=(D.find? fun p=>decide (p.1=k)).map (·.2)
def AgG (a:Addr)(D:List (Str × Str))(ty td:TE):TE:=fun σ H Q=>ty σ H fun y H1=>td σ H1 fun x H2=>∃ k,y=.str k∧x=.ref a∧Q (.bl (!(lk D k).isSome)) H2
def Ai6 (a:Addr)(D:List (Str × Str))(td ty:TE):TE:=fun σ H Q=>td σ H fun x H1=>ty σ H1 fun y H2=>∃ k v,y=.str k∧x=.ref a∧lk D k=some v∧Q (.str v) H2
section
variable {X:Cx}{o i:Expr}{pos:Pos}{td ty:TE}{a:Addr}{D:List (Str × Str)}
end
open PySem PySem.Spec PyProof.Rows
def AjI (K:PySem.W.Frag)(no:Bool):R2:=fun x y H Q=>∃(z:Str) (q:Addr) (ys:List Str),x=.str z∧y=.ref q∧SqT K H q (ys.map V.str)∧Q (.bl (no != ys.any (· == z))) H
section
variable {X:Cx}{K:PySem.W.Frag}
end
def Ajp (K:PySem.W.Frag)(a:Addr)(ys:List Str):Prop:=∀ H:Hp,SqT K H a (ys.map V.str)
theorem Ai7{K:PySem.W.Frag}{a:Addr}{o:Obj}{its:Array Value}{n:Nat}{ys:List Str}(e:K.lookup a=some o)(c:o.cls=.type "tuple") (d:o.data=.seq its n) (z:its.size≤sizeLine) (r:Vals (ys.map V.str) its.toList):Ajp K a ys:=fun _=>.inr ⟨o,its,n,e,c,d,z,r⟩
open PySem PySem.Spec PyProof.Rows
structure Isa (K:PySem.W.Frag) (C:Addr):Prop where
 ha:PySem.W.findIn K (.ref C) "__class__" = some (some (.builtin "object.__class__"))
 hn:PySem.W.specialIn K (.builtin "object.__class__") "__get__" = some (some (.builtin "getset_descriptor.__get__"))
 htk:PySem.W.takesIn K (.builtin "object.__class__")=some true
 hm:PySem.W.mroIn K C (.type "object")=some true
theorem Isa.ty{K:PySem.W.Frag}{C a dx:Addr}{fs:List (Str × V)}{H:Hp}(h:Isa K C)(cl:Cls K C)(e:H a=some (.ins C dx fs)):Oh K H (.ref a) (.ref C):=.ins e cl h.ha h.hn h.htk h.hm
open PySem PySem.Spec PyProof.Rows
structure DfH (K:PySem.W.Frag) (x:Str) (st:Stmt) (f:Addr) (fd:FuncData):Prop where
 a:PySem.W.nsIn K mainGlobals x=some (some (.ref f))
 F:Fun K x x st f fd
structure MfH (K:PySem.W.Frag) (x q:Str) (st:Stmt) (C f:Addr) (fd:FuncData):Prop where
 m:PySem.W.findIn K (.ref C) x=some (some (.ref f))
 g:PySem.W.isFn K (.ref f)=true
 F:Fun K x q st f fd
structure ClH (K:PySem.W.Frag) (x:Str) (C:Addr):Prop where
 n:PySem.W.nsIn K mainGlobals x=some (some (.ref C))
 o1:PySem.W.plainGet K C Str.empty=true
 o2:PySem.W.hasDictIn K C=true
 o3:PySem.W.plainOver K C=true
 o4:PySem.W.findIn K (.ref C) "__setattr__" = some (some (.builtin "object.__setattr__"))
 o5:PySem.W.makesIn K C=true
 o8:PySem.W.keepIn K (.ref C)=true
structure IsH (K:PySem.W.Frag) (C B:Addr):Prop where
 v1:PySem.W.findIn K (.ref C) "__class__" = some (some (.builtin "object.__class__"))
 v4:PySem.W.mroIn K C (.type "object")=some true
structure ExH (K:PySem.W.Frag) (x:Str) (C:Addr):Prop where
 n:PySem.W.nsIn K mainGlobals x=some (some (.ref C))
 y2:PySem.W.findIn K (.ref C) "__getattribute__" = some (some (.builtin "BaseException.__getattribute__"))
 y3:PySem.W.findIn K (.ref C) "__getattr__" = some none
 y4:PySem.W.findIn K (.ref C) "__class__" = some (some (.builtin "object.__class__"))
 y7:PySem.W.mroIn K C (.type "object")=some true
 y8:PySem.W.mroIn K C (.type "BaseException")=some true
 y9:PySem.W.isClsIn K C=true
 y10:PySem.W.typeIn K (.ref C)=some (.type "type")
 y11:PySem.W.mroIn K C (.type "ValueError")=some true
section
variable {K:PySem.W.Frag}{mg:Str→Option Value}{h:Heap}
theorem DfH.df{x:Str}{st:Stmt}{f:Addr}{fd:FuncData}{ps:List Str}(D:DfH K x st f fd)(X:K.In h)(G:h.Ns mainGlobals mg)
  (hb:∀ kV dc pm an cd ct us,us.length=ps.length→bindArgs (PySem.W.fnOf x x (JZ st) (IW st) (Aj st) .none kV dc pm an cd ct) ⟨us,[]⟩=pure (ps.zip us)):Df K mg x st ps f fd:=⟨D.F,PySem.W.mg_of X G D.a,D.F.binds hb⟩
theorem MfH.meth{x q:Str}{st:Stmt}{C f:Addr}{fd:FuncData}(D:MfH K x q st C f fd):Meth K C x f:=⟨D.m,D.g,D.F.2⟩
theorem MfH.mf{x q:Str}{st:Stmt}{C f:Addr}{fd:FuncData}{ps:List Str}(D:MfH K x q st C f fd)
  (hb:∀ kV dc pm an cd ct us,us.length=ps.length→bindArgs (PySem.W.fnOf x q (JZ st) (IW st) (Aj st) .none kV dc pm an cd ct) ⟨us,[]⟩=pure (ps.zip us)):Mf K x q st ps C f fd:=⟨D.F,D.meth,D.F.binds hb⟩
structure DfA (K:PySem.W.Frag) (mg:Str→Option Value) (x y:Str) (st:Stmt) (ps:List Str) (f:Addr) (fd:FuncData):Prop where
 F:Fun K y y st f fd
 m:mg x=some (.ref f)
 b:Binds K fd ps []
theorem DfA.of{x y:Str}{st:Stmt}{f:Addr}{fd:FuncData}{ps:List Str}(a:PySem.W.nsIn K mainGlobals x=some (some (.ref f)))(F:Fun K y y st f fd)(X:K.In h)(G:h.Ns mainGlobals mg)
  (hb:∀ kV dc pm an cd ct us,us.length=ps.length→bindArgs (PySem.W.fnOf y y (JZ st) (IW st) (Aj st) .none kV dc pm an cd ct) ⟨us,[]⟩=pure (ps.zip us)):DfA K mg x y st ps f fd:=⟨F,PySem.W.mg_of X G a,F.binds hb⟩
theorem sc9{N P:List Str}{sc:Scope}(h:sc.kind=.function∧sc.isCoroutine=false∧sc.isGenerator=false∧N.take P.length=P:=by exact⟨rfl,rfl,rfl,rfl⟩)
  (g:N.Nodup∧(∀ x∈P,sc.names.lookup x=some .local∨sc.names.lookup x=some .cell)∧∀ y∈sc.names,y.2≠.free:=by decide +kernel):Bd N P sc:=⟨h.1,h.2.1,h.2.2.1,g.1,h.2.2.2,g.2.1,g.2.2⟩
end
open PySem PySem.Spec PyProof.Rows
section
variable {X:Cx}{tg:Expr}
def Ajq (ta:TA):TI:=fun σ H R=>ta σ H fun vs H1=>∃ i j:Int,vs=[.int i,.int j]∧R (Itr i (j-i).toNat) H1
end
section
variable {X:Cx}
def AjJ:R2:=fun x y H Q=>∃ u n,x=.str (tx u)∧y=.int n∧0≤n∧n≤1000000∧u.length*n.toNat≤sizeLine∧Q (.str (tx (List.replicate n.toNat u).flatten)) H
def Ajr:V→List V→Hp→VK→Prop:=fun x vs H Q=>∃ u c,x=.str (tx u)∧vs=[.str ⟨#[c]⟩]∧Q (.int (u.count c:Nat)) H
end
open PySem PySem.Spec PyProof.Rows
section
variable {X:Cx}{K:PySem.W.Frag}
def AjK (K:PySem.W.Frag):List V→Hp→VK→Prop:=fun vs H Q=>∃(a C p:Addr) (Ds:List Addr) (b:Bool),vs=[.ref a,.ref p]∧H a=some (exH C a)∧ExC K C∧H p=some (.tup (Ds.map V.ref))∧PySem.W.kitAny K (.ref C) (Ds.map Value.ref)=some b∧Q (.bl b) H
end
open PySem PySem.Spec PyProof.Rows
section
variable {X:Cx}{K:PySem.W.Frag}
def Ajs (K:PySem.W.Frag):R2:=fun x y H Q=>∃ p q xs ys,x=.ref p∧y=.ref q∧SqL K H p xs∧SqL K H q ys∧xs.all Eg=true∧ys.all Eg=true∧Q (.bl (!eqL xs ys)) H
theorem R0(hu:X.A.units<cLine)(hK:X.K=K:=by rfl):OpR X (compareOp .NotEq) (Ajs K):=by
 subst hK
 intro pins s σ H x y v u Q I rx ry h
 obtain⟨p,q,xs,ys,rfl,rfl,hx,hy,fx,fy,k⟩:=h
 cases rx
 cases ry
 obtain⟨its,r,pl,hz⟩:=I.list hx
 obtain⟨its2,r2,pl2,hz2⟩:=I.list hy
 have l1:=r.length
 have l2:=r2.length
 by_cases hl:xs.length=ys.length
 ·refine SeqAt.RcNeAt.lists (e:=fun j=>eqV (xs.getD j .non) (ys.getD j .non)) pl.isList pl2.isList (by simp only [AkO];omega) hu (fun j h1 h2=>?_) _ _ _ _ ?_
  ·have j1:j<xs.length:=by simp only [AkO] at h1;omega
   have j2:j<ys.length:=by omega
   obtain⟨w1,e1,q1⟩:=r.get (i:=j) (x:=xs[j]) (by simp[j1])
   obtain⟨w2,e2,q2⟩:=r2.get (i:=j) (x:=ys[j]) (by simp[j2])
   have g1:its.toArray[j]=w1:=by
    have:its.toArray[j]?=some w1:=by simpa using e1
    exact Option.some.inj ((Array.getElem?_eq_getElem h1).symm.trans this)
   have g2:its2.toArray[j]=w2:=by
    have:its2.toArray[j]?=some w2:=by simpa using e2
    exact Option.some.inj ((Array.getElem?_eq_getElem h2).symm.trans this)
   rw[g1,g2]
   have d1:xs.getD j .non=xs[j]:=by simp[List.getD,j1]
   have d2:ys.getD j .non=ys[j]:=by simp[List.getD,j2]
   show SeqAt.EqAt _ _ _ _ (eqV (xs.getD j .non) (ys.getD j .non))
   rw[d1,d2]
   exact V5 q1 q2 (List.all_eq_true.mp fx _ (AkN j1)) (List.all_eq_true.mp fy _ (AkN j2))
  ·refine⟨.bl (!eqL xs ys),H,I,?_,k⟩
   show Value.bool _=Value.bool _
   rw[AkO,← l1,Qp hl]
 ·refine SeqAt.RcNeAt.lists_lengths pl.isList pl2.isList (by simp only [AkO,bne_iff_ne];omega) hu _ _ _ _ ?_
  exact⟨.bl (!eqL xs ys),H,I,by rw[VG hl];rfl,k⟩
end
open PySem PySem.Spec PyProof.Rows
theorem G6.Ach{k:Nat}{A:Around}(r:G6 k A):A.units+100<cLine:=by have:=r.un;omega
def Ahy (K:PySem.W.Frag)(H:Hp)(p q:Addr):Prop:=∃ as bs:List Addr,SqL K H p (as.map V.ref)∧SqL K H q (bs.map V.ref)∧as.length=bs.length ∧
 ∀(i:Nat) (a b:Addr),as[i]?=some a→bs[i]?=some b→∃ xs:List V,xs.all Eg=true∧SqL K H a xs∧SqL K H b xs
section
variable {X:Cx}{K:PySem.W.Frag}
def AjL (K:PySem.W.Frag):R2:=fun x y H Q=>∃ p q,x=.ref p∧y=.ref q∧Ahy K H p q∧Q (.bl false) H
def AjM (K:PySem.W.Frag):R2:=fun x y H Q=>∃ p q,x=.ref p∧y=.ref q∧Ahy K H p q∧Q (.bl true) H
theorem Wd(z:Int):∀ ks:List Int,inV (.int z) (vI ks)=decide (z∈ks)
 | []=>by simp[inV,vI]
 | k::ks=>by
  have ih:=Wd z ks
  unfold inV vI at ih ⊢
  rw[AkQ,AlA,ih]
  by_cases h:k=z
  ·subst h
   have:eqV (V.int k) (V.int k)=true:=Oo rfl
   rw[this]
   simp
  ·have:eqV (V.int k) (V.int z)=false:=by simp[eqV,h]
   rw[this,Bool.false_or]
   exact decide_eq_decide.mpr (by simp[Ne.symm h])
end
open PySem PySem.Spec PyProof.Rows
section
variable {X:Cx}{K:PySem.W.Frag}
def Ajt (K:PySem.W.Frag)(tl:TE):TE:=fun σ H Q=>tl σ H fun x H1=>∃ a ns,x=.ref a∧SqL K H1 a (vI ns)∧ns.length<64∧∀ l ns',ns'.Perm ns→ns'.Pairwise (· ≥ ·)→H1 l=none→Q (.ref l) (upd H1 l (.lst (vI ns')))
theorem Vb(hK:X.K=K:=by rfl)(hc:X.calm=true:=by rfl):HD X (.builtin "max") (fun xs H Q=>∃ a ns,xs=[.ref a]∧SqL K H a (vI ns)∧0<ns.length∧∀ M:Int,M∈ns→(∀ z∈ns,z≤M)→Q (.int M) H):=by
 subst hK
 intro pins s σ H xs us Q I rv h
 obtain⟨a,ns,rfl,hq,h0,q⟩:=h
 obtain⟨u,rfl,ru⟩:=rv.one
 cases ru
 obtain⟨its,r,pl,hl⟩:=I.list hq
 have hi:IntsAre its ns:=intsAre_of r
 obtain⟨xs,hx⟩:=hi.allInts.items
 have hns:ns=xs.toList.map (·.1):=by rw[← hi.numsOf,← nums_intItems,← hx]
 have hsz:0<xs.size:=by rw[hns,AkE,Array.length_toList] at h0;exact h0
 have hL:s.heap.IsList a (intItems xs):=by rw[← hx];exact pl.isList
 refine max_intList (I.ok.hd hc) hL hsz fun v h' tk hv hk=>?_
 obtain⟨t,rfl⟩:=intItems_at hv
 obtain⟨h1,h2⟩:=argBest_gt (numAt xs) (xs.size-1)
 refine⟨.int _,H,I.kept hk,⟨t,rfl⟩,q _ ?_ fun z hz=>?_⟩
 ·rw[hns,numAt_eq];exact getD_mem (by rw[AkE,Array.length_toList];omega)
 ·rw[hns] at hz
  obtain⟨j,hj,rfl⟩:=mem_getD hz
  rw[AkE,Array.length_toList] at hj
  rw[← numAt_eq];exact h2 j (by omega)
end
open PySem PySem.Spec PyProof.Rows
section
variable {prog:Program}{w:World}{A:Around}{E:Value→Shared→Prop}{s:Shared}{l:Addr}{xs:Array (Int × Tok)}
theorem We{Q:Value→Shared→Prop}(hh:A.handled=none)(hl:s.heap.IsTuple l (intItems xs))(hne:0<xs.size)
  (h:∀ v h' tk,(intItems xs)[argBest (fun i j=>decide (numAt xs i<numAt xs j)) (xs.size-1)]?=some v→(∀ b o,s.heap.get? b=some o→h'.get? b=some o)→Q v { s with heap:=h',toks:=tk }) :
  wpAny (model prog w) A (call (.builtin "min") [.ref l]) Q E s:=by
 have hlt:l<s.heap.objs.size:=by obtain⟨_,e,_⟩:=hl;exact Heap.lt_size e
 refine call_min_walk (wpAny_pyIter_tuple hl ?_)
 refine⟨_,[_,l],[_],_,_,_,_,rfl,Walks.tuple (A:=A.in1) hh _ l (AkK hlt) (intItems xs),⟨⟨_,Heap.get?_push_size _ rfl,rfl,rfl⟩,hl.push _⟩,fun c hc=>?_,by simpa [intItems] using hne,CmpOf.ints_lt (numAt xs) (fun _ _=>intItems_at),fun v h' tk hP hk=>?_⟩
 ·show c<(s.heap.push _).objs.size
  rw[Heap.size_push]
  rcases List.mem_cons.mp hc with rfl | hc
  ·exact Alu _
  ·rcases List.mem_cons.mp hc with rfl | hc
   ·exact Alm hlt
   ·cases hc
 ·refine h v h' tk (by simpa [intItems] using hP) fun c o e=>?_
  refine hk c o (fun hm=>?_) (Heap.get?_push_of_some _ e)
  rcases List.mem_cons.mp hm with e1 | hm
  ·have:=Heap.lt_size e;rw[e1] at this;exact Alf _ this
  ·cases hm
end
section
variable {X:Cx}{K:PySem.W.Frag}
theorem Abf(hK:X.K=K:=by rfl)(hc:X.calm=true:=by rfl):HD X (.builtin "min") (fun xs H Q=>∃ a ns,xs=[.ref a]∧SqT K H a (vI ns)∧0<ns.length∧∀ M:Int,M∈ns→(∀ z∈ns,M≤z)→Q (.int M) H):=by
 subst hK
 intro pins s σ H xs us Q I rv h
 obtain⟨a,ns,rfl,hq,h0,q⟩:=h
 obtain⟨u,rfl,ru⟩:=rv.one
 cases ru
 obtain⟨its,r,pl,hl⟩:=I.tuple hq
 have hi:IntsAre its ns:=intsAre_of r
 obtain⟨xs,hx⟩:=hi.allInts.items
 have hns:ns=xs.toList.map (·.1):=by rw[← hi.numsOf,← nums_intItems,← hx]
 have hsz:0<xs.size:=by rw[hns,AkE,Array.length_toList] at h0;exact h0
 have hL:s.heap.IsTuple a (intItems xs):=by rw[← hx];obtain⟨o,e1,e2,n,e3⟩:=pl;exact⟨o,e1,e2,n,e3⟩
 refine We (I.ok.hd hc) hL hsz fun v h' tk hv hk=>?_
 obtain⟨t,rfl⟩:=intItems_at hv
 obtain⟨h1,h2⟩:=argBest_lt (numAt xs) (xs.size-1)
 refine⟨.int _,H,I.kept hk,⟨t,rfl⟩,q _ ?_ fun z hz=>?_⟩
 ·rw[hns,numAt_eq];exact getD_mem (by rw[AkE,Array.length_toList];omega)
 ·rw[hns] at hz
  obtain⟨j,hj,rfl⟩:=mem_getD hz
  rw[AkE,Array.length_toList] at hj
  rw[← numAt_eq];exact h2 j (by omega)
end
open PySem PySem.Spec PyProof.Rows
theorem Inv.Aaj{X:Cx}{pins:List (Addr × Obj)}{σ:St}{H:Hp}{s:Shared}{h':Heap}{t':Nat}{its:List Addr}(I:Inv X pins σ H s)
  (k:∀ b o,b∉its→s.heap.get? b=some o→h'.get? b=some o) (hf:∀ b∈its,JW X pins H b):Inv X pins σ H { s with heap:=h',toks:=t' }:=by
 have nit:∀ b u,H b=some u→b∉its:=fun b u e z=>by
  have:=(hf b z).1
  rw[this] at e
  cases e
 have nL:X.env.locals∉its:=fun z=>(hf _ z).2.1 rfl
 refine I.step (g':=s.gens) (d':=s.drawn) (ch:=its) (fun b hb=>?_) (fun b o _ _ hc e _=>k b o hc e) (fun b o _ _ hc e _=>⟨o.slots,k b o hc e⟩) (fun _ _ _ _ n=>n)
  (fun b o hc e=>⟨o,k b o hc e⟩) (fun _ _ e=>e) (fun _ _ _ e=>e) (fun b ps e=>⟨#[],by rw[e];simp⟩) (fun m hm=>?_) (fun b u e=>?_) I.bare
 ·obtain⟨_,h2,_,h4,h5,h6⟩:=hf b hb
  exact⟨h4,h2,h5,h6⟩
 ·obtain⟨o,es,ep,ho,r⟩:=hm
  exact⟨o,es,ep,k _ o nL ho,r⟩
 ·refine(I.hok b u e).stay (fun c v hc q=>k c v ?_ q) (fun _ q=>q) fun _ _ q=>q
  rcases hc with z | z
  ·rw[z];exact nit b u e
  ·exact nit c _ z
def Itz (K:PySem.W.Frag)(a b:Addr):It where
 go:=fun i H=>∃ xs ys x y,SqL K H a xs∧SqL K H b ys∧xs[i]?=some x∧ys[i]?=some y
 yld:=fun i H x H'=>∃ T,x=.ref T∧H T=none∧∀ xs ys u v,SqL K H a xs→SqL K H b ys→xs[i]?=some u→ys[i]?=some v→H'=upd H T (.tup [u,v])
 stop:=fun i H=>∃ xs ys,SqL K H a xs∧SqL K H b ys∧(xs.length≤i∨ys.length≤i)
def AjN (z TI TO i1 i2 a b:Addr)(i:Nat)(h:Heap):Prop:=IsZip h z TI TO .none∧IsPair h TI (.ref i1) (.ref i2)∧(∃ p q,IsPair h TO p q)∧h.IsListIter i1 a i∧h.IsListIter i2 b i
section
variable {X:Cx}{es:List Expr}{kx:Nat}{tp:Pos}
def Ak1 (K:PySem.W.Frag)(ta:TA):TI:=fun σ H R=>ta σ H fun vs H1=>∃ a b,vs=[.ref a,.ref b]∧(∃ xs,SqL K H1 a xs)∧(∃ ys,SqL K H1 b ys)∧R (Itz K a b) H1
end
open PySem PySem.Spec PyProof.Rows
def Ak2 (K:PySem.W.Frag):R2:=fun x y H Q=>∃(p q:Addr) (as:List Addr) (ks:List Int),x=.ref p∧y=.ref q∧SqL K H q (as.map V.ref)∧SqT K H p (vI ks) ∧
 (∀ a∈as,∃ js:List Int,SqT K H a (vI js))∧(∃ a∈as,SqT K H a (vI ks))∧Q (.bl true) H
section
variable {X:Cx}{K:PySem.W.Frag}
end
open PySem PySem.Spec PyProof.Rows
section
variable {prog:Program}{w:World}{A:Around}{E:Value→Shared→Prop}{s:Shared}
theorem X8(hh:A.handled=none)(it:Addr)(x:Str)(t:Tok):Draws prog w A it [it] x.cps.size (fun i v=>∃ c u,x.cps[i]?=some c∧v=.str ⟨#[c]⟩ u) (fun i h=>h.IsStrIter it (strIterType x) x t i):=by
 unfold strIterType
 split
 ·exact Draws.strAscii hh it x t
 ·exact Draws.strWide hh it x t
structure Qs (z TI TO i1 i2:Addr):Prop where
 TIz:TI≠z
 TOz:TO≠z
 i1z:i1≠z
 i2z:i2≠z
 TITO:TI≠TO
 TIi1:TI≠i1
 TIi2:TI≠i2
 TOi1:TO≠i1
 TOi2:TO≠i2
 i12:i1≠i2
theorem Abg{z TI TO i1 i2:Addr}{fp1 fp2:List Addr}{n1 n2 k:Nat}{P1 P2:Nat→Value→Prop}{S1 S2:Nat→Heap→Prop}{a b:Value}{Q:Value→Shared→Prop}(D:Qs z TI TO i1 i2)
  (D1:∀ A':Around,A'.handled=none→Draws prog w A' i1 fp1 n1 P1 S1) (D2:∀ A':Around,A'.handled=none→Draws prog w A' i2 fp2 n2 P2 S2) (hh:A.handled=none)
  (f1:∀ c∈fp1,c≠z∧c≠TO∧c≠i2) (f2:∀ c∈fp2,c≠z∧c≠TO∧c≠i1)
  (hz:IsZip s.heap z TI TO .none) (hTI:IsPair s.heap TI (.ref i1) (.ref i2)) (hTO:IsPair s.heap TO a b) (h1:S1 k s.heap) (h2:S2 k s.heap) (lt1:k<n1) (lt2:k<n2)
  (hQ:∀ x y h' tk,P1 k x→P2 k y→IsZip h' z TI TO (rawInt s.heap.objs.size)→IsPair h' TO x y→S1 (k+1) h'→S2 (k+1) h'→IsPair h' s.heap.objs.size x y→h'.objs.size=s.heap.objs.size+1 →
   (∀ c o,c≠z→c≠TO→c≠i1→c≠i2→s.heap.get? c=some o→h'.get? c=some o)→Q (.ref s.heap.objs.size) { s with heap:=h',toks:=tk }) :
  wpAny (model prog w) A (Builtin.«zip.__next__» ⟨[.ref z],[]⟩) (fun fin s'=>∃ v,fin=.done (.ret v)∧Q v s') E s:=by
 show wpAny _ _ (field (.ref z) 2 >>= _) _ _ _
 refine wpAny_bind (wpAny_field hz rfl (x:=.bool false) rfl ?_)
 show wpAny _ _ (field (.ref z) 3 >>= _) _ _ _
 refine wpAny_bind (wpAny_field hz rfl (x:=.ref TI) rfl ?_)
 refine wpAny_bind (wpAny_seqItems hTI rfl ?_)
 show wpAny _ _ (Builtin.SmallTypes.ownedTupleIsFree (.ref z) >>= _) _ _ _
 refine wpAny_bind ?_
 unfold Builtin.SmallTypes.ownedTupleIsFree
 refine wpAny_bind (wpAny_field hz rfl (x:=.none) rfl (wpAny_pure ?_))
 simp only [if_true]
 refine wpAny_bind (wpAny_rule ?_)
 refine wpAny_bind (wpAny_field hz rfl (x:=.ref TO) rfl ?_)
 refine wpAny_bind (wpAny_setField_rec hz (by simp) fun h₁ hz₁ hs₁=>?_)
 replace hz₁:IsZip h₁ z TI TO .ellipsis:=hz₁
 refine wpAny_bind ?_
 simp only [List.zipIdx_cons,List.zipIdx_nil,AlS,List.forIn_nil]
 refine wpAny_bind (wpAny_bind (wpAny_onRaise ?_))
 show wpAny _ _ (Builtin.SmallTypes.nextOf (.ref i1) >>= _) _ _ _
 refine wpAny_bind ((D1 _ hh).item k _ _ _ lt1 ((D1 A hh).frame _ _ _ h1 fun c hc o e=>hs₁.extBut _ _ (f1 c hc).1 e) fun x h₂ tk₂ px h1₂ hs₂=>wpAny_pure ?_)
 have hs₂:Heap.SameBut i1 h₁ h₂:=hs₂
 have hTO₂:IsPair h₂ TO a b:=hs₂.extBut _ _ D.TOi1 (hs₁.extBut _ _ D.TOz hTO)
 refine wpAny_bind (wpAny_seqItems hTO₂ rfl ?_)
 refine wpAny_bind (wpAny_updateSeq_pair hTO₂ fun h₃ hTO₃ hs₃=>?_)
 have hs₃:Heap.SameBut TO h₂ h₃:=hs₃
 replace hTO₃:IsPair h₃ TO x b:=hTO₃
 refine wpAny_bind (wpAny_letGo (wpAny_pure ?_))
 refine wpAny_bind (wpAny_bind (wpAny_onRaise ?_))
 show wpAny _ _ (Builtin.SmallTypes.nextOf (.ref i2) >>= _) _ _ _
 refine wpAny_bind ((D2 _ hh).item k _ _ _ lt2 ((D2 A hh).frame _ _ _ h2 fun c hc o e=>hs₃.extBut _ _ (f2 c hc).2.1 (hs₂.extBut _ _ (f2 c hc).2.2 (hs₁.extBut _ _ (f2 c hc).1 e))) fun y h₄ tk₄ py h2₄ hs₄=>wpAny_pure ?_)
 have hs₄:Heap.SameBut i2 h₃ h₄:=hs₄
 have hTO₄:IsPair h₄ TO x b:=hs₄.extBut _ _ D.TOi2 hTO₃
 refine wpAny_bind (wpAny_seqItems hTO₄ rfl ?_)
 refine wpAny_bind (wpAny_updateSeq_pair hTO₄ fun h₅ hTO₅ hs₅=>?_)
 have hs₅:Heap.SameBut TO h₄ h₅:=hs₅
 replace hTO₅:IsPair h₅ TO x y:=hTO₅
 refine wpAny_bind (wpAny_letGo (wpAny_pure (wpAny_pure ?_)))
 refine wpAny_bind (wpAny_seqItems hTO₅ rfl ?_)
 refine wpAny_bind (wpAny_newTuple ?_)
 have hsz:h₅.objs.size=s.heap.objs.size:=by rw[hs₅.1,hs₄.1,hs₃.1,hs₂.1,hs₁.1]
 have hz₅:IsZip h₅ z TI TO .ellipsis:=hs₅.extBut _ _ D.TOz.symm (hs₄.extBut _ _ D.i2z.symm (hs₃.extBut _ _ D.TOz.symm (hs₂.extBut _ _ D.i1z.symm hz₁)))
 have hk₅:∀ c o,c≠z→c≠TO→c≠i1→c≠i2→s.heap.get? c=some o→h₅.get? c=some o:=fun c o c1 c2 c3 c4 e =>
  hs₅.extBut _ _ c2 (hs₄.extBut _ _ c4 (hs₃.extBut _ _ c2 (hs₂.extBut _ _ c3 (hs₁.extBut _ _ c1 e))))
 have h1₅:S1 (k+1) h₅:=(D1 A hh).frame _ _ _ h1₂ fun c hc o e=>hs₅.extBut _ _ (f1 c hc).2.1 (hs₄.extBut _ _ (f1 c hc).2.2 (hs₃.extBut _ _ (f1 c hc).2.1 e))
 have h2₅:S2 (k+1) h₅:=(D2 A hh).frame _ _ _ h2₄ fun c hc o e=>hs₅.extBut _ _ (f2 c hc).2.1 e
 have hzlt:z<h₅.objs.size:=Heap.lt_size hz₅
 show wpAny _ _ (Builtin.SmallTypes.ownedTupleHandOut (.ref z) (.ref h₅.objs.size) >>= _) _ _ _
 refine wpAny_bind ?_
 unfold Builtin.SmallTypes.ownedTupleHandOut
 have hz₆:IsZip (h₅.push { cls:=.type "tuple", data:=.seq #[x,y] }) z TI TO .ellipsis:=Heap.get?_push_of_some _ hz₅
 refine wpAny_bind (wpAny_setField_rec hz₆ (by simp) fun h₇ hz₇ hs₇=>?_)
 replace hz₇:IsZip h₇ z TI TO (rawInt h₅.objs.size):=hz₇
 refine wpAny_setField_rec hz₇ (by simp) fun h₈ hz₈ hs₈=>?_
 replace hz₈:IsZip h₈ z TI TO (rawInt h₅.objs.size):=hz₈
 have up:∀ c o,c≠z→h₅.get? c=some o→h₈.get? c=some o:=fun c o c1 e=>hs₈.extBut _ _ c1 (hs₇.extBut _ _ c1 (Heap.get?_push_of_some _ e))
 have hT₈:IsPair h₈ h₅.objs.size x y:=hs₈.extBut _ _ (Alj hzlt) (hs₇.extBut _ _ (Alj hzlt) (Heap.get?_push_size _ rfl))
 have hz8:h₈.objs.size=h₅.objs.size+1:=by rw[hs₈.1,hs₇.1,Heap.size_push]
 rw[hsz] at hz₈ hT₈ hz8
 refine wpAny_pure ⟨_,rfl,?_⟩
 show Q (.ref h₅.objs.size) _
 rw[hsz]
 exact hQ x y h₈ tk₄ px py hz₈ (up _ _ D.TOz hTO₅) ((D1 A hh).frame _ _ _ h1₅ fun c hc o e=>up _ o (f1 c hc).1 e) ((D2 A hh).frame _ _ _ h2₅ fun c hc o e=>up _ o (f2 c hc).1 e) hT₈ hz8 fun c o c1 c2 c3 c4 e=>up c o c1 (hk₅ c o c1 c2 c3 c4 e)
theorem Aci{z TI TO i1 i2:Addr}{fp1 fp2:List Addr}{n1 n2 k:Nat}{P1 P2:Nat→Value→Prop}{S1 S2:Nat→Heap→Prop}{a b:Value}{Q:Fin→Shared→Prop}(D:Qs z TI TO i1 i2)
  (D1:∀ A':Around,A'.handled=none→Draws prog w A' i1 fp1 n1 P1 S1) (D2:∀ A':Around,A'.handled=none→Draws prog w A' i2 fp2 n2 P2 S2) (hh:A.handled=none)
  (f1:∀ c∈fp1,c≠z∧c≠TO∧c≠i2) (f2:∀ c∈fp2,c≠z∧c≠TO∧c≠i1)
  (hz:IsZip s.heap z TI TO .none) (hTI:IsPair s.heap TI (.ref i1) (.ref i2)) (hTO:IsPair s.heap TO a b) (h1:S1 k s.heap) (h2:S2 k s.heap) (hend:k=n1∨(k<n1∧k=n2))
  (hE:∀ h' e tk,(∀ c o,c≠z→c≠TO→c≠i1→c≠i2→s.heap.get? c=some o→h'.get? c=some o)→(∃ o,h'.get? e=some o∧o.cls=.type "StopIteration")→E (.ref e) { s with heap:=h',toks:=tk }) :
  wpAny (model prog w) A (Builtin.«zip.__next__» ⟨[.ref z],[]⟩) Q E s:=by
 show wpAny _ _ (field (.ref z) 2 >>= _) _ _ _
 refine wpAny_bind (wpAny_field hz rfl (x:=.bool false) rfl ?_)
 show wpAny _ _ (field (.ref z) 3 >>= _) _ _ _
 refine wpAny_bind (wpAny_field hz rfl (x:=.ref TI) rfl ?_)
 refine wpAny_bind (wpAny_seqItems hTI rfl ?_)
 show wpAny _ _ (Builtin.SmallTypes.ownedTupleIsFree (.ref z) >>= _) _ _ _
 refine wpAny_bind ?_
 unfold Builtin.SmallTypes.ownedTupleIsFree
 refine wpAny_bind (wpAny_field hz rfl (x:=.none) rfl (wpAny_pure ?_))
 simp only [if_true]
 refine wpAny_bind (wpAny_rule ?_)
 refine wpAny_bind (wpAny_field hz rfl (x:=.ref TO) rfl ?_)
 refine wpAny_bind (wpAny_setField_rec hz (by simp) fun h₁ hz₁ hs₁=>?_)
 replace hz₁:IsZip h₁ z TI TO .ellipsis:=hz₁
 refine wpAny_bind ?_
 simp only [List.zipIdx_cons,List.zipIdx_nil,AlS,List.forIn_nil]
 refine wpAny_bind (wpAny_bind (wpAny_onRaise ?_))
 show wpAny _ _ (Builtin.SmallTypes.nextOf (.ref i1) >>= _) _ _ _
 have g1:S1 k h₁:=(D1 A hh).frame _ _ _ h1 fun c hc o e=>hs₁.extBut _ _ (f1 c hc).1 e
 rcases hend with hk | ⟨lt1,hk⟩
 ·subst hk
  refine wpAny_bind ((D1 _ hh).done _ _ _ g1 fun h₂ e hs₂ he=>?_)
  have hs₂:Heap.ExtBut i1 h₁ h₂:=hs₂
  obtain⟨oe,hoe,hce⟩:=he
  have hz₂:IsZip h₂ z TI TO .ellipsis:=hs₂ _ _ D.i1z.symm hz₁
  have hez:e≠z:=fun x=>by subst x;rw[hz₂] at hoe;cases hoe;simp at hce
  refine wpAny_setField_rec hz₂ (by simp) fun h₃ _ hs₃=>hE h₃ e _ (fun c o c1 _ c3 _ x=>hs₃.extBut _ _ c1 (hs₂ _ _ c3 (hs₁.extBut _ _ c1 x))) ⟨oe,hs₃.extBut _ _ hez hoe,hce⟩
 ·refine wpAny_bind ((D1 _ hh).item k _ _ _ lt1 g1 fun x h₂ tk₂ px h1₂ hs₂=>wpAny_pure ?_)
  have hs₂:Heap.SameBut i1 h₁ h₂:=hs₂
  have hTO₂:IsPair h₂ TO a b:=hs₂.extBut _ _ D.TOi1 (hs₁.extBut _ _ D.TOz hTO)
  refine wpAny_bind (wpAny_seqItems hTO₂ rfl ?_)
  refine wpAny_bind (wpAny_updateSeq_pair hTO₂ fun h₃ hTO₃ hs₃=>?_)
  have hs₃:Heap.SameBut TO h₂ h₃:=hs₃
  refine wpAny_bind (wpAny_letGo (wpAny_pure ?_))
  refine wpAny_bind (wpAny_bind (wpAny_onRaise ?_))
  show wpAny _ _ (Builtin.SmallTypes.nextOf (.ref i2) >>= _) _ _ _
  subst hk
  refine wpAny_bind ((D2 _ hh).done _ _ _ ((D2 A hh).frame _ _ _ h2 fun c hc o e=>hs₃.extBut _ _ (f2 c hc).2.1 (hs₂.extBut _ _ (f2 c hc).2.2 (hs₁.extBut _ _ (f2 c hc).1 e))) fun h₄ e hs₄ he=>?_)
  have hs₄:Heap.ExtBut i2 h₃ h₄:=hs₄
  obtain⟨oe,hoe,hce⟩:=he
  have hz₄:IsZip h₄ z TI TO .ellipsis:=hs₄ _ _ D.i2z.symm (hs₃.extBut _ _ D.TOz.symm (hs₂.extBut _ _ D.i1z.symm hz₁))
  have hez:e≠z:=fun x=>by subst x;rw[hz₄] at hoe;cases hoe;simp at hce
  refine wpAny_setField_rec hz₄ (by simp) fun h₅ _ hs₅=>hE h₅ e _ (fun c o c1 c2 c3 c4 x=>hs₅.extBut _ _ c1 (hs₄ _ _ c4 (hs₃.extBut _ _ c2 (hs₂.extBut _ _ c3 (hs₁.extBut _ _ c1 x))))) ⟨oe,hs₅.extBut _ _ hez hoe,hce⟩
theorem Zv{z TI TO i1 i2:Addr}{fp1 fp2:List Addr}{n1 n2 k:Nat}{P1 P2:Nat→Value→Prop}{S1 S2:Nat→Heap→Prop}{a b:Value}{Q:Option Value→Shared→Prop}(D:Qs z TI TO i1 i2)
  (D1:∀ A':Around,A'.handled=none→Draws prog w A' i1 fp1 n1 P1 S1) (D2:∀ A':Around,A'.handled=none→Draws prog w A' i2 fp2 n2 P2 S2) (hh:A.handled=none)
  (f1:∀ c∈fp1,c≠z∧c≠TO∧c≠i2) (f2:∀ c∈fp2,c≠z∧c≠TO∧c≠i1)
  (hz:IsZip s.heap z TI TO .none) (hTI:IsPair s.heap TI (.ref i1) (.ref i2)) (hTO:IsPair s.heap TO a b) (h1:S1 k s.heap) (h2:S2 k s.heap) (lt1:k<n1) (lt2:k<n2)
  (hQ:∀ x y h' tk,P1 k x→P2 k y→IsZip h' z TI TO (rawInt s.heap.objs.size)→IsPair h' TO x y→S1 (k+1) h'→S2 (k+1) h'→IsPair h' s.heap.objs.size x y→h'.objs.size=s.heap.objs.size+1 →
   (∀ c o,c≠z→c≠TO→c≠i1→c≠i2→s.heap.get? c=some o→h'.get? c=some o)→Q (some (.ref s.heap.objs.size)) { s with heap:=h',toks:=tk }) :
  wpAny (model prog w) A (pyNext (.ref z)) Q E s:=by
 have hT:s.TypeIs (.ref z) "zip" := ⟨_,hz,rfl⟩
 unfold pyNext
 exact wpAny_bind (wpAny_attempt (wpAny_callSpecial?_slot (name:=Str.ofString "__next__") hT F.slot_zip_next
  (wpAny_call_entry F.slot_zip_next hT F.entry_zip_next
   (Abg D D1 D2 hh f1 f2 hz hTI hTO h1 h2 lt1 lt2 fun x y h' tk a1 a2 a3 a4 a5 a6 a7 a8 a9=>wpAny_pure (hQ x y h' tk a1 a2 a3 a4 a5 a6 a7 a8 a9)) (F.args_zip_next_1 _))))
theorem Abh{z TI TO i1 i2:Addr}{fp1 fp2:List Addr}{n1 n2 k:Nat}{P1 P2:Nat→Value→Prop}{S1 S2:Nat→Heap→Prop}{a b:Value}{Q:Option Value→Shared→Prop}(D:Qs z TI TO i1 i2)
  (D1:∀ A':Around,A'.handled=none→Draws prog w A' i1 fp1 n1 P1 S1) (D2:∀ A':Around,A'.handled=none→Draws prog w A' i2 fp2 n2 P2 S2) (hh:A.handled=none)
  (f1:∀ c∈fp1,c≠z∧c≠TO∧c≠i2) (f2:∀ c∈fp2,c≠z∧c≠TO∧c≠i1)
  (hz:IsZip s.heap z TI TO .none) (hTI:IsPair s.heap TI (.ref i1) (.ref i2)) (hTO:IsPair s.heap TO a b) (h1:S1 k s.heap) (h2:S2 k s.heap) (hend:k=n1∨(k<n1∧k=n2))
  (hQ:∀ h' tk,(∀ c o,c≠z→c≠TO→c≠i1→c≠i2→s.heap.get? c=some o→h'.get? c=some o)→Q none { s with heap:=h',toks:=tk }):wpAny (model prog w) A (pyNext (.ref z)) Q E s:=by
 have hT:s.TypeIs (.ref z) "zip" := ⟨_,hz,rfl⟩
 unfold pyNext
 refine wpAny_bind (wpAny_attempt (wpAny_callSpecial?_slot (name:=Str.ofString "__next__") hT F.slot_zip_next
  (wpAny_call_entry F.slot_zip_next hT F.entry_zip_next (Aci D D1 D2 hh f1 f2 hz hTI hTO h1 h2 hend fun h' e tk hk he=>?_) (F.args_zip_next_1 _))))
 obtain⟨o,ho,hc⟩:=he
 refine wpAny_bind (wpAny_isInstance (T := "StopIteration") (b:=true) ⟨o,ho,hc⟩ isSubtype_stop ?_)
 exact wpAny_pure (hQ _ _ hk)
abbrev M8 (x:Str) (t:Tok):Obj:={ cls:=.type (strIterType x),data:=.fields #[.str x t,.int 0 0] }
abbrev Aak (l:Addr):Obj:={ cls:=.type "list_iterator", data:=.fields #[.ref l,.int 0 0] }
abbrev J7 (h:Heap) (o1 o2:Obj):Heap:=((((h.push o1).push o2).push { cls:=.type "tuple", data:=.seq #[.ref h.objs.size,.ref (h.push o1).objs.size] }).push { cls:=.type "tuple", data:=.seq #[.none,.none] }).push
 { cls:=.type "zip", data:=.fields #[.none,.bool false,.bool false,.ref ((h.push o1).push o2).objs.size,.ref (((h.push o1).push o2).push { cls:=.type "tuple", data:=.seq #[.ref h.objs.size,.ref (h.push o1).objs.size] }).objs.size] }
abbrev Vc (h:Heap) (o1 o2:Obj):Addr:=((((h.push o1).push o2).push { cls:=.type "tuple", data:=.seq #[.ref h.objs.size,.ref (h.push o1).objs.size] }).push { cls:=.type "tuple", data:=.seq #[.none,.none] }).objs.size
set_option maxHeartbeats 4000000 in
theorem XC(l1:Addr)(xs:Array Value)(x:Str)(t:Tok) :
  Meets (Builtin.«zip.__new__» ⟨[.type "zip", .ref l1,.str x t],[]⟩) (fun _ R s=>s.heap.IsList l1 xs∧R (.ok (.ret (.ref (Vc s.heap (Aak l1) (M8 x t))))) { s with heap:=J7 s.heap (Aak l1) (M8 x t) }) :=
 .of_wp fun prog w A R s h=>by
  obtain⟨hp,g,d,tk,os⟩:=s;obtain⟨hl1,h⟩:=h
  have hsub:=sub_zip
  have hL1:Heap.IsList (Shared.heap ⟨hp,g,d,tk,os⟩) l1 xs:=hl1
  wp_walk using wpAny_pyIter_list hL1,wpAny_pyIter_strU
  exact⟨_,rfl,h⟩
set_option maxHeartbeats 4000000 in
theorem XD(y:Str)(u:Tok)(x:Str)(t:Tok) :
  Meets (Builtin.«zip.__new__» ⟨[.type "zip", .str y u,.str x t],[]⟩) (fun _ R s=>R (.ok (.ret (.ref (Vc s.heap (M8 y u) (M8 x t))))) { s with heap:=J7 s.heap (M8 y u) (M8 x t) }) :=
 .of_wp fun prog w A R s h=>by
  obtain⟨hp,g,d,tk,os⟩:=s
  have hsub:=sub_zip
  wp_walk using wpAny_pyIter_strU
  exact⟨_,rfl,h⟩
end
open PySem PySem.Spec PyProof.Rows
inductive Src where
 | l (a:Addr)
 | s (z:Str)
def Ahz:Src→V
 | .l a=>.ref a
 | .s z=>.str z
def Sx (K:PySem.W.Frag)(H:Hp):Src→Prop
 | .l a=>∃ xs,SqL K H a xs
 | .s _=>True
def J8 (K:PySem.W.Frag)(H:Hp):Src→Nat→V→Prop
 | .l a,i,v=>∃ xs,SqL K H a xs∧xs[i]?=some v
 | .s z,i,v=>∃ c,z.cps[i]?=some c∧v=.str ⟨#[c]⟩
def Wf (K:PySem.W.Frag)(H:Hp):Src→Nat→Prop
 | .l a,i=>∃ xs,SqL K H a xs∧xs.length=i
 | .s z,i=>z.cps.size=i
def Ot (it:Addr)(t:Tok):Src→Nat→Heap→Prop
 | .l a,i,h=>h.IsListIter it a i
 | .s z,i,h=>h.IsStrIter it (strIterType z) z t i
def Acj (it:Addr):Src→List Addr
 | .l a=>[it,a]
 | .s _=>[it]
def AjO (t:Tok):Src→Obj
 | .l a=>Aak a
 | .s z=>M8 z t
theorem Sy{X:Cx}{pins:List (Addr × Obj)}{σ:St}{H:Hp}{s:Shared}(I:Inv X pins σ H s){S:Src}{i:Nat}{u v:V}(h1:J8 X.K H S i u)(h2:J8 X.K H S i v):u=v:=by
 cases S with
 | l a =>
  obtain⟨xs,q1,e1⟩:=h1
  obtain⟨ys,q2,e2⟩:=h2
  rw[I.Og q2 q1,e1] at e2
  exact Option.some.inj e2
 | s z =>
  obtain⟨c,e1,rfl⟩:=h1
  obtain⟨d,e2,rfl⟩:=h2
  rw[e1] at e2
  cases e2
  rfl
theorem Mi{X:Cx}{pins:List (Addr × Obj)}{σ:St}{H:Hp}{s:Shared}(I:Inv X pins σ H s){it:Addr}{t:Tok}{S:Src}{i:Nat}(st:Ot it t S i s.heap)(ok:Sx X.K H S)(ap:∀ a,S=.l a→a≠it) :
  ∃(n:Nat) (Pd:Nat→Value→Prop) (Sd:Nat→Heap→Prop),(∀ A':Around,A'.handled=none→Draws X.prog X.w A' it (Acj it S) n Pd Sd)∧Sd i s.heap∧(∀ h',Sd (i+1) h'→Ot it t S (i+1) h') ∧
   (∀ v,J8 X.K H S i v→i<n∧∀ u,Pd i u→RelV v u)∧(Wf X.K H S i→i=n):=by
 cases S with
 | l a =>
  obtain⟨xs,q⟩:=ok
  obtain⟨its,rv,p1,_⟩:=I.list q
  have len:=rv.length
  refine⟨_,_,_,fun A' hh=>Draws.list hh it a (ap a rfl) its.toArray,⟨st,p1.isList⟩,fun h' z=>z.1,fun v hv=>?_,fun he=>?_⟩
  ·obtain⟨ys,q2,e⟩:=hv
   rw[I.Og q2 q] at e
   obtain⟨u,hu,r⟩:=rv.get e
   refine⟨by have:=(List.getElem?_eq_some_iff.mp hu).1;simpa using this,fun u' hu'=>?_⟩
   have:its[i]?=some u':=by simpa using hu'
   rw[hu] at this
   cases this
   exact r
  ·obtain⟨ys,q2,e⟩:=he
   rw[I.Og q2 q] at e
   simp only [AkO]
   omega
 | s z =>
  refine⟨_,_,_,fun A' hh=>X8 hh it z t,st,fun h' z=>z,fun v hv=>?_,fun he=>he.symm⟩
  obtain⟨c,e,rfl⟩:=hv
  refine⟨by rw[Array.getElem?_eq_some_iff] at e;exact e.1,fun u ⟨d,tk,e2,hu⟩=>?_⟩
  rw[e] at e2
  cases e2
  exact⟨tk,hu⟩
def AdG (K:PySem.W.Frag)(S1 S2:Src):It where
 go:=fun i H=>(∃ u,J8 K H S1 i u)∧∃ v,J8 K H S2 i v
 yld:=fun i H x H'=>∃ T,x=.ref T∧H T=none∧∀ u v,J8 K H S1 i u→J8 K H S2 i v→H'=upd H T (.tup [u,v])
 stop:=fun i H=>Sx K H S1∧Sx K H S2∧(Wf K H S1 i∨((∃ u,J8 K H S1 i u)∧Wf K H S2 i))
theorem XF{K:PySem.W.Frag}{H:Hp}{S:Src}{i:Nat}{u:V}(h:J8 K H S i u):Sx K H S:=by
 cases S with
 | l a=>obtain⟨xs,q,_⟩:=h;exact⟨xs,q⟩
 | s z=>trivial
def AfE (z TI TO i1 i2:Addr)(t1 t2:Tok)(S1 S2:Src)(i:Nat)(h:Heap):Prop:=IsZip h z TI TO .none∧IsPair h TI (.ref i1) (.ref i2)∧(∃ p q,IsPair h TO p q)∧Ot i1 t1 S1 i h∧Ot i2 t2 S2 i h
theorem Ou{it:Addr}{t:Tok}{S:Src}{i:Nat}{h h':Heap}(st:Ot it t S i h)(k:∀ o,h.get? it=some o→h'.get? it=some o):Ot it t S i h':=by
 cases S with
 | l a=>exact Heap.IsListIter.at st k
 | s z=>obtain⟨o,e,c⟩:=st;exact⟨o,k o e,c⟩
theorem Mj{it:Addr}{t:Tok}{S:Src}{i:Nat}{h:Heap}(st:Ot it t S i h):∃ o,h.get? it=some o∧∀ v,o.data≠.cell v:=by
 cases S with
 | l a=>obtain⟨o,e,_,d⟩:=st;exact⟨o,e,fun v z=>by rw[d] at z;cases z⟩
 | s z=>obtain⟨o,e,_,d⟩:=st;exact⟨o,e,fun v z=>by rw[d] at z;cases z⟩
theorem Abi{P:Program}{w:World}{K:PySem.W.Frag}{es:List Expr}{kx:Nat}{tp:Pos}{z TI TO i1 i2:Addr}{t1 t2:Tok}{S1 S2:Src}(D:Qs z TI TO i1 i2)
  (a1:∀ a,S1=.l a→a≠z∧a≠TO∧a≠i1∧a≠i2) (a2:∀ a,S2=.l a→a≠z∧a≠TO∧a≠i1∧a≠i2) :
  Turn P w K (.Tuple es kx tp) (AdG K S1 S2) [z,TI,TO,i1,i2] z (AfE z TI TO i1 i2 t1 t2 S1 S2):=by
 have f1:∀ c∈Acj i1 S1,c≠z∧c≠TO∧c≠i2:=fun c hc=>by
  cases S1 with
  | l a =>
   rcases List.mem_cons.mp hc with e | e
   ·subst e;exact⟨D.i1z,D.TOi1.symm,D.i12⟩
   ·rw[List.mem_singleton.mp e];exact⟨(a1 a rfl).1,(a1 a rfl).2.1,(a1 a rfl).2.2.2⟩
  | s x=>rw[List.mem_singleton.mp hc];exact⟨D.i1z,D.TOi1.symm,D.i12⟩
 have f2:∀ c∈Acj i2 S2,c≠z∧c≠TO∧c≠i1:=fun c hc=>by
  cases S2 with
  | l a =>
   rcases List.mem_cons.mp hc with e | e
   ·subst e;exact⟨D.i2z,D.TOi2.symm,D.i12.symm⟩
   ·rw[List.mem_singleton.mp e];exact⟨(a2 a rfl).1,(a2 a rfl).2.1,(a2 a rfl).2.2.1⟩
  | s x=>rw[List.mem_singleton.mp hc];exact⟨D.i2z,D.TOi2.symm,D.i12.symm⟩
 exact {
  mem:=by simp
  obj:=fun i h st c hc=>by
   obtain⟨s1,s2,⟨p,q,s3⟩,s4,s5⟩:=st
   simp only [Aln,Alo,or_false] at hc
   rcases hc with e | e | e | e | e
   ·subst e;exact⟨_,s1,fun v z=>by cases (show Data.fields _=Data.cell v from z)⟩
   ·subst e;exact⟨_,s2,fun v z=>by cases (show Data.seq _ _=Data.cell v from z)⟩
   ·subst e;exact⟨_,s3,fun v z=>by cases (show Data.seq _ _=Data.cell v from z)⟩
   ·subst e;exact Mj s4
   ·subst e;exact Mj s5
  keep:=fun i h h' st k=>by
   obtain⟨s1,s2,⟨p,q,s3⟩,s4,s5⟩:=st
   exact⟨k _ (by simp) _ s1,k _ (by simp) _ s2,⟨p,q,k _ (by simp) _ s3⟩,Ou s4 fun o e=>k _ (by simp) o e,Ou s5 fun o e=>k _ (by simp) o e⟩
  item:=by
   intro X hP hw hK hc i pins s σ H E I hf st hg
   subst hP hw hK
   obtain⟨⟨x,hx⟩,y,hy⟩:=hg
   obtain⟨s1,s2,⟨p,q,s3⟩,s4,s5⟩:=st
   obtain⟨n1,P1,Q1,D1,g1,e1,v1,_⟩:=Mi I s4 (XF hx) (fun a e=>(a1 a e).2.2.1)
   obtain⟨n2,P2,Q2,D2,g2,e2,v2,_⟩:=Mi I s5 (XF hy) (fun a e=>(a2 a e).2.2.2)
   obtain⟨l1,r1⟩:=v1 x hx
   obtain⟨l2,r2⟩:=v2 y hy
   refine Zv D D1 D2 (I.ok.hd hc) f1 f2 s1 s2 s3 g1 g2 l1 l2 fun u v h1 tk pu pv z1 w1 j1 j2 hT hsz kk=>?_
   have ru:=r1 u pu
   have rw':=r2 v pv
   refine⟨_,rfl,wpAny_letOwnedTupleGo_zip z1 fun h2 z2 sb=>?_⟩
   have sb:Heap.SameBut z h1 h2:=sb
   have zl:z<s.heap.objs.size:=Heap.lt_size s1
   have TIl:TI<s.heap.objs.size:=Heap.lt_size s2
   have TOl:TO<s.heap.objs.size:=Heap.lt_size s3
   have i1l:i1<s.heap.objs.size:=by obtain⟨_,e,_⟩:=Mj s4;exact Heap.lt_size e
   have i2l:i2<s.heap.objs.size:=by obtain⟨_,e,_⟩:=Mj s5;exact Heap.lt_size e
   have up:∀ c o,c≠z→h1.get? c=some o→h2.get? c=some o:=fun c o c1 e=>(sb.2 c c1).trans e
   have hTn:H s.heap.objs.size=none:=I.hok.fresh (AkF _)
   have I1:Inv X pins σ (upd H s.heap.objs.size (.tup [x,y])) { s with heap:=s.heap.push { cls:=.type "tuple", data:=.seq #[u,v] },toks:=tk } :=
    I.laid (fun c o e=>Heap.get?_push_of_some _ e) (AkF _) ⟨by show 2≤sizeLine;decide,[u,v],.cons ru (.cons rw' .nil),⟨_,Heap.get?_push_size _ rfl,rfl,_,rfl⟩⟩
   have fp2:∀ c∈[z,TI,TO,i1,i2],JW X pins (upd H s.heap.objs.size (.tup [x,y])) c:=fun c hc=>by
    obtain⟨f0,f⟩:=hf c hc
    refine⟨?_,f⟩
    have lt:c<s.heap.objs.size:=by
     simp only [Aln,Alo,or_false] at hc
     rcases hc with e | e | e | e | e <;> subst e <;> assumption
    rw[Ax (AkK lt)]
    exact f0
   have I2:Inv X pins σ (upd H s.heap.objs.size (.tup [x,y])) { s with heap:=h2,toks:=tk }:=by
    refine Inv.Aaj (s:={ s with heap:=s.heap.push { cls:=.type "tuple", data:=.seq #[u,v] },toks:=tk }) (h':=h2) (t':=tk) (its:=[z,TI,TO,i1,i2]) I1 (fun c o hc e=>?_) fp2
    simp only [Aln,Alo,or_false,not_or] at hc
    refine up c o hc.1 ?_
    by_cases hcs:c=s.heap.objs.size
    ·subst hcs
     have e':(s.heap.push { cls:=.type "tuple", data:=.seq #[u,v] }).get? s.heap.objs.size=some { cls:=.type "tuple", data:=.seq #[u,v] }:=Heap.get?_push_size _ rfl
     rw[e'] at e
     cases e
     exact hT
    ·have e':s.heap.get? c=some o:=by
      rw[← e]
      exact(Heap.get?_push_ne _ _ _ hcs).symm
     exact kk c o hc.1 hc.2.2.1 hc.2.2.2.1 hc.2.2.2.2 e'
   refine⟨.ref s.heap.objs.size,_,I2,rfl,⟨s.heap.objs.size,rfl,hTn,fun u' v' q1 q2=>?_⟩,⟨z2,up _ _ D.TIz (kk _ _ D.TIz D.TITO D.TIi1 D.TIi2 s2),⟨u,v,up _ _ D.TOz w1⟩,Ou (e1 _ j1) fun o e=>up _ o D.i1z e,Ou (e2 _ j2) fun o e=>up _ o D.i2z e⟩,fun c hc=>(fp2 c hc).1⟩
   rw[Sy I q1 hx,Sy I q2 hy]
  done:=by
   intro X hP hw hK hc i pins s σ H E I hf st hg
   subst hP hw hK
   obtain⟨o1,o2,hend⟩:=hg
   obtain⟨s1,s2,⟨p,q,s3⟩,s4,s5⟩:=st
   obtain⟨n1,P1,Q1,D1,g1,e1,v1,d1⟩:=Mi I s4 o1 (fun a e=>(a1 a e).2.2.1)
   obtain⟨n2,P2,Q2,D2,g2,e2,v2,d2⟩:=Mi I s5 o2 (fun a e=>(a2 a e).2.2.2)
   have he:i=n1∨(i<n1∧i=n2):=by
    rcases hend with h | ⟨⟨u,hu⟩,h⟩
    ·exact .inl (d1 h)
    ·exact .inr ⟨(v1 u hu).1,d2 h⟩
   refine Abh D D1 D2 (I.ok.hd hc) f1 f2 s1 s2 s3 g1 g2 he fun h' tk kk=>⟨rfl,I.Aaj (t':=tk) (its:=[z,TI,TO,i1,i2]) (fun c o hc e=>?_) hf⟩
   simp only [Aln,Alo,or_false,not_or] at hc
   exact kk c o hc.1 hc.2.2.1 hc.2.2.2.1 hc.2.2.2.2 e
  self:=fun _ _ _ _ _ st h=>wpAny_pyIter_zip st.1 h }
theorem XH{h:Heap}{o1 o2:Obj}(e1:o1.isFreed=false)(e2:o2.isFreed=false):Vc h o1 o2=h.objs.size+4∧IsZip (J7 h o1 o2) (h.objs.size+4) (h.objs.size+2) (h.objs.size+3) .none ∧
  IsPair (J7 h o1 o2) (h.objs.size+2) (.ref h.objs.size) (.ref (h.objs.size+1))∧IsPair (J7 h o1 o2) (h.objs.size+3) .none .none∧(J7 h o1 o2).get? h.objs.size=some o1∧(J7 h o1 o2).get? (h.objs.size+1)=some o2 ∧
  ∀ c o,h.get? c=some o→(J7 h o1 o2).get? c=some o:=by
 have z1:(h.push o1).objs.size=h.objs.size+1:=Heap.size_push ..
 have z2:((h.push o1).push o2).objs.size=h.objs.size+2:=by rw[Heap.size_push,z1]
 have z3:(((h.push o1).push o2).push { cls:=.type "tuple", data:=.seq #[.ref h.objs.size,.ref (h.push o1).objs.size] }).objs.size=h.objs.size+3:=by rw[Heap.size_push,z2]
 have z4:Vc h o1 o2=h.objs.size+4:=by unfold Vc;rw[Heap.size_push,z3]
 have g5:(J7 h o1 o2).get? (Vc h o1 o2)=some _:=Heap.get?_push_size _ rfl
 have g4:(J7 h o1 o2).get? (((h.push o1).push o2).push { cls:=.type "tuple", data:=.seq #[.ref h.objs.size,.ref (h.push o1).objs.size] }).objs.size=some _:=Heap.get?_push_of_some _ (Heap.get?_push_size _ rfl)
 have g3:(J7 h o1 o2).get? ((h.push o1).push o2).objs.size=some _:=Heap.get?_push_of_some _ (Heap.get?_push_of_some _ (Heap.get?_push_size _ rfl))
 have g2:(J7 h o1 o2).get? (h.push o1).objs.size=some o2:=Heap.get?_push_of_some _ (Heap.get?_push_of_some _ (Heap.get?_push_of_some _ (Heap.get?_push_size _ e2)))
 have g1:(J7 h o1 o2).get? h.objs.size=some o1:=Heap.get?_push_of_some _ (Heap.get?_push_of_some _ (Heap.get?_push_of_some _ (Heap.get?_push_of_some _ (Heap.get?_push_size _ e1))))
 refine⟨z4,?_,?_,?_,g1,?_,fun c o x=>Heap.get?_push_of_some _ (Heap.get?_push_of_some _ (Heap.get?_push_of_some _ (Heap.get?_push_of_some _ (Heap.get?_push_of_some _ x))))⟩
 ·rw[z4,z2,z3] at g5;exact g5
 ·rw[z2,z1] at g3;exact g3
 ·rw[z3] at g4;exact g4
 ·rw[z1] at g2;exact g2
theorem ane{a b:Nat}(h:a≠b):@Ne Addr a b:=h
theorem lne{a n:Nat}(h:a<n)(k:Nat):@Ne Addr a (n+k):=fun z=>by have z:a=n+k:=z;omega
theorem Zw(n:Nat):Qs (n+4) (n+2) (n+3) n (n+1) where
 TIz:=ane (by omega)
 TOz:=ane (by omega)
 i1z:=ane (by omega)
 i2z:=ane (by omega)
 TITO:=ane (by omega)
 TIi1:=ane (by omega)
 TIi2:=ane (by omega)
 TOi1:=ane (by omega)
 TOi2:=ane (by omega)
 i12:=ane (by omega)
section
variable {X:Cx}{es:List Expr}{kx:Nat}{tp:Pos}
def zOk:Src→Src→Prop
 | .s _,.l _=>False
 | _,_=>True
def Ah0 (K:PySem.W.Frag)(ta:TA):TI:=fun σ H R=>ta σ H fun vs H1=>∃ S1 S2,vs=[Ahz S1,Ahz S2]∧zOk S1 S2∧Sx K H1 S1∧Sx K H1 S2∧R (AdG K S1 S2) H1
theorem Wg{K:PySem.W.Frag}{a b:Expr}{ta:TA}{p pos:Pos}(hg:Gl X "zip") (hm:X.mg "zip" = none) (ha:PA X [a,b] ta) (hK:X.K=K:=by rfl) (hs:starEach [a,b] X.env=[(false,eval a X.env),(false,eval b X.env)]:=by rfl) (hs2:starEach [b] X.env=[(false,eval b X.env)]:=by rfl) :
  PI X (.Tuple es kx tp) (.Call (.Name "zip" p) [a,b] [] pos) (Ah0 K ta):=by
 subst hK
 intro pins s σ H R I h
 refine Call_ (HR I hg hm Af4 (PyProof.Rows.callWith_type1 (thn (ha pos pins s σ H _ I h) fun us s1 ⟨vs,H1,I1,r1,q1⟩=>?_) (by rw[hs,hs2]) (by rw[hs2];rfl)))
 obtain⟨S1,S2,e,hz,o1,o2,q⟩:=q1
 subst e
 obtain⟨u1,u2,rfl,ru1,ru2⟩:=r1.two
 have fin:∀(t1 t2:Tok) (h':Heap) (tk:Nat),IsZip h' (s1.heap.objs.size+4) (s1.heap.objs.size+2) (s1.heap.objs.size+3) .none→IsPair h' (s1.heap.objs.size+2) (.ref s1.heap.objs.size) (.ref (s1.heap.objs.size+1))→IsPair h' (s1.heap.objs.size+3) .none .none →
   Ot s1.heap.objs.size t1 S1 0 h'→Ot (s1.heap.objs.size+1) t2 S2 0 h'→(∀ c o,s1.heap.get? c=some o→h'.get? c=some o) →
   wpAny (model X.prog X.w) X.A (pyIter (.ref (s1.heap.objs.size+4))) (PIE X pins σ (.Tuple es kx tp) R) X.xe { s1 with heap:=h',toks:=tk }:=fun t1 t2 h' tk hzz hTI hTO j1 j2 kk=>by
  refine wpAny_pyIter_zip hzz ?_
  have lt:∀ S:Src,Sx X.K H1 S→∀ a,S=.l a→a<s1.heap.objs.size:=fun S ok a e=>by
   subst e
   obtain⟨xs,q⟩:=ok
   obtain⟨its,_,p1,_⟩:=I1.list q
   obtain⟨o,e,_⟩:=p1.isList
   exact Heap.lt_size e
  refine⟨_,[s1.heap.objs.size+4,s1.heap.objs.size+2,s1.heap.objs.size+3,s1.heap.objs.size,s1.heap.objs.size+1],_,_,H1,rfl,I1.kept (t':=tk) kk,Abi (t1:=t1) (t2:=t2) (Zw _) (fun a e=>?_) (fun a e=>?_),
   ⟨hzz,hTI,⟨_,_,hTO⟩,j1,j2⟩,fun c hc=>?_,q⟩
  ·have:=lt S1 o1 a e;exact⟨lne this 4,lne this 3,lne this 0,lne this 1⟩
  ·have:=lt S2 o2 a e;exact⟨lne this 4,lne this 3,lne this 0,lne this 1⟩
  ·have le:s1.heap.objs.size≤c:=by
    simp only [Aln,Alo,or_false] at hc
    rcases hc with e | e | e | e | e <;> subst e <;> omega
   exact I1.Adx le (I1.hok.fresh le)
 cases S1 with
 | l a =>
  cases ru1
  obtain⟨xs,hq1⟩:=id o1
  obtain⟨Aju,rv1,p1,_⟩:=I1.list hq1
  cases S2 with
  | l b =>
   cases ru2
   obtain⟨ys,hq2⟩:=id o2
   obtain⟨its2,rv2,p2,_⟩:=I1.list hq2
   refine call_zip_2 p1.isList p2.isList fun h' hzz hTI hTO j1 j2 hsz kk=>fin 0 0 h' s1.toks hzz hTI hTO j1 j2 kk
  | s x =>
   obtain⟨t,rfl⟩:=ru2
   refine callType_new F.called_zip (by decide) (F.typeCall_zip_2 _ _) (F.newCall_zip_2 _ _) (fun obj=>F.args_object_init_3 obj _ _) F.entry_zip_new (XC a Aju.toArray x t) ⟨p1.isList,?_⟩
   obtain⟨z4,g5,g3,g4,g1,g2,kk⟩:=XH (h:=s1.heap) (o1:=Aak a) (o2:=M8 x t) rfl rfl
   show _∧_
   rw[z4]
   exact⟨⟨_,g5,rfl⟩,fin 0 t _ s1.toks g5 g3 g4 ⟨_,g1,rfl,rfl⟩ ⟨_,g2,rfl,rfl⟩ kk⟩
 | s y =>
  obtain⟨t1,rfl⟩:=ru1
  cases S2 with
  | l b=>exact hz.elim
  | s x =>
   obtain⟨t,rfl⟩:=ru2
   refine callType_new F.called_zip (by decide) (F.typeCall_zip_2 _ _) (F.newCall_zip_2 _ _) (fun obj=>F.args_object_init_3 obj _ _) F.entry_zip_new (XD y t1 x t) ?_
   obtain⟨z4,g5,g3,g4,g1,g2,kk⟩:=XH (h:=s1.heap) (o1:=M8 y t1) (o2:=M8 x t) rfl rfl
   show _∧_
   rw[z4]
   exact⟨⟨_,g5,rfl⟩,fin t1 t _ s1.toks g5 g3 g4 ⟨_,g1,rfl,rfl⟩ ⟨_,g2,rfl,rfl⟩ kk⟩
end
open PySem PySem.Spec PyProof.Rows
structure Ja (X:Cx) (x x':Str) (Nc:List Str) (By:List Nat) (scope:Scope):Prop where
 kind:scope.kind=.function
 cell:∀ y∈scope.names,y.2≠.cell
 names:∀ y∈scope.names,y.2=.local→scope.names.lookup y.1=some .local
 fr:∀ y∈scope.names,y.2=.free→X.env.scope.names.lookup y.1=some .cell∧scope.names.lookup y.1=some .free
 loc:scope.names.lookup x=some .local
 Ah1:scope.names.lookup x'=some .local
 len:Nc.length=By.length+2
 hd:Nc[0]?=some x
 hd2:Nc[1]?=some x'
 nd:Nc.Nodup
 cap:∀ k j,By[k]?=some j→∃ y,Nc[k+2]?=some y∧X.N[j]?=some y∧scope.names.lookup y=some .free
def Wh (K:PySem.W.Frag)(By:List Nat)(tc:TT)(te:TE)(J:It)(σ:St)(H:Hp)(Q:VK):Prop :=
 ∃ W:Nat→Nat→List V→Hp→Prop,(∃ m,W 0 m [] H)∧∀ i m ys H,W i m ys H →
  (J.stop i H∧ys.length≤sizeLine∧∀ p,H p=none→Q (.ref p) (upd H p (.lst ys))) ∨
  (J.go i H∧ys.length<sizeLine∧∀ x H',J.yld i H x H'→∃ a u v,x=.ref a∧SqT K H' a [u,v]∧tc (some u::some v::G9 σ By) H' fun b H2 =>
   if b=true then te (some u::some v::G9 σ By) H2 fun y H3=>∃ m',m'<m∧W (i+1) m' (ys++[y]) H3 else ∃ m',m'<m∧W (i+1) m' ys H2)
def Ack (K:PySem.W.Frag)(wi:TI)(By:List Nat)(tc:TT)(te:TE):TE:=fun σ H Q=>wi σ H fun J H1=>Wh K By tc te J σ H1 Q
section
variable {X:Cx}{pins:List (Addr × Obj)}{σ:St}{H:Hp}{s:Shared}
theorem Acl{x x':Str}{Nc:List Str}{By:List Nat}{scope:Scope}{cl:List (Str × Addr)}{C:Addr}{fp:List Addr}(I:Inv X pins σ H s)(O:Ja X x x' Nc By scope)
  (hcl:∀ x c,cl.lookup x=some c→X.env.cells.lookup x=some c∧(x,NameKind.free)∈scope.names) (Qo:∀ x,(x,NameKind.free)∈scope.names→cl.lookup x=X.env.cells.lookup x)
  (hC:s.heap.objs.size≤C) (hfp:∀ b∈fp,JW X pins H b) (hfo:∀ b∈fp,b<s.heap.objs.size):(Et X Nc scope cl C fp s H).Ok where
 mod:=I.ok.mod
 kind:=O.kind
 glob:=I.ok.glob
 blt:=I.ok.blt
 above:=hC
 inj:=fun a b c e1 e2=>I.ok.inj a b c (hcl a c e1).1 (hcl b c e2).1
 has:=fun y hy=>by
  have mem:(y,NameKind.free)∈scope.names:=by
   have hy':((relabel scope X.env).names.lookup y=some .cell)∨((relabel scope X.env).names.lookup y=some .free):=hy
   have hm:∃ k,(y,k)∈(relabel scope X.env).names∧(k=.cell∨k=.free):=by
    rcases hy' with h | h
    ·exact⟨_,PySem.mem_of_lookup h,.inl rfl⟩
    ·exact⟨_,PySem.mem_of_lookup h,.inr rfl⟩
   obtain⟨k,hm,hk⟩:=hm
   obtain⟨⟨n,k'⟩,hm',e⟩:=List.mem_map.mp hm
   dsimp only at e
   by_cases hc:(k' == NameKind.free && X.env.scope.kind == .function && X.env.kindOf n == some .cell)=true
   ·rw[if_pos hc] at e
    injection e with e1 _
    subst e1
    have:k'=.free:=by
     have:=(Al2 _ _▸(Al2 _ _▸hc).1).1
     simpa using this
    subst this
    exact hm'
   ·rw[if_neg hc] at e
    injection e with e1 e2
    subst e1 e2
    rcases hk with hk | hk
    ·subst hk;exact absurd rfl (O.cell _ hm')
    ·subst hk;exact hm'
  obtain⟨c,e⟩:=I.ok.has y (.inl (O.fr _ mem rfl).1)
  exact⟨c,(Qo y mem).trans e⟩
 cab:=fun _ _ z=>nomatch z
 hd:=I.ok.hd
 frames:=I.ok.frames
 stk:=.inl rfl
 exf:=fun b hb=>⟨AkK (AkT (hfo b hb) hC),fun y c e=>(hfp b hb).2.2.2.2.1 y c (hcl y c e).1⟩
 bs:=I.bs
 bsz:=AkZ I.ok.bsz I.sz
 Xj:=fun b o e hb=>by
  rcases(hfp b hb).2.2.2.1 with z | z
  ·exact I.ok.Xj b o e z
  ·exact absurd (AkT (Heap.lt_size e) (AkZ I.ok.bsz z)) (Alf _)
 Xk:=fun b hb z=>by
  rcases List.mem_cons.mp (I.Vu b z) with e | e
  ·exact(hfp b hb).2.1 e
  ·exact(hfp b hb).2.2.1 e
 Oe:=I.stack
 frf:=I.Vv
theorem XJ{x x':Str}{Nc:List Str}{By:List Nat}{scope:Scope}{cl:List (Str × Addr)}{C:Addr}{fp:List Addr}{h':Heap}{tk:Nat}{m0:Str→Option Value}(I:Inv X pins σ H s)(O:Ja X x x' Nc By scope)
  (hcl:∀ x c,cl.lookup x=some c→X.env.cells.lookup x=some c∧(x,NameKind.free)∈scope.names) (Qo:∀ x,(x,NameKind.free)∈scope.names→cl.lookup x=X.env.cells.lookup x)
  (hC:s.heap.objs.size≤C) (hfp:∀ b∈fp,JW X pins H b) (hfo:∀ b∈fp,b<s.heap.objs.size)
  (old:∀ b o,s.heap.get? b=some o→h'.get? b=some o) (hns:h'.Ns C m0) :
  Inv (Et X Nc scope cl C fp s H) [] (none::none::G9 σ By) H { s with heap:=h',toks:=tk } where
 ok:=Acl I O hcl Qo hC hfp hfo
 os:=rfl
 bare:=I.bare
 base:=Un.kept old
 loc:=by
  refine⟨m0,hns,fun i y v hN hσ hv=>?_⟩
  match i with
  | 0=>simp at hσ
  | 1=>simp at hσ
  | k+2 =>
   rw[Amd,Amd] at hσ
   obtain⟨j,hj,hs⟩:=Xw hσ
   obtain⟨z,hz1,hz2,hz3⟩:=O.cap k j hj
   have hN':Nc[k+2]?=some y:=hN
   rw[hz1] at hN'
   cases hN'
   have mem:(y,NameKind.free)∈scope.names:=PySem.mem_of_lookup hz3
   have hk:=(O.fr _ mem rfl).1
   obtain⟨m,hn,hl⟩:=I.loc
   obtain⟨u,r,l⟩:=hl j y v hz2 hs (.inr (.inl hk))
   refine⟨u,r,?_⟩
   rcases l with ⟨k',_⟩ | ⟨_,c,hc,z⟩
   ·have k'':X.env.scope.names.lookup y=some .local:=k'
    rw[hk] at k'';cases k''
   ·obtain⟨o,ho,hd⟩:=z
    exact .inr ⟨.inl (FJ I.ok.kind hz3 hk),c,(Qo y mem).trans hc,o,old _ _ ho,hd⟩
 cell:=fun y c e=>by
  obtain⟨v,o,ho,hd⟩:=I.cell y c (hcl y c e).1
  exact⟨v,o,old _ _ ho,hd⟩
 free:=I.hok.fresh hC
 IK:=fun y c e=>I.IK y c (hcl y c e).1
 pin:=fun p hp=>absurd (show p∈([]:List (Addr × Obj)) from hp) (by simp)
 hok:=I.hok.kept old
 len:=by
  show(none::none::G9 σ By).length=Nc.length
  rw[Ala,Ala,Xu,O.len]
theorem XM{x x':Str}{px px' tp:Pos}{kx:Nat}{Nc:List Str}{By:List Nat}{scope:Scope}{cl:List (Str × Addr)}{iter elt:Expr}{ifs:List Expr}{pos:Pos}{tc:TT}{te:TE}{Q:VK}{it:Addr}{fp:List Addr}{tn:Nat→Heap→Prop}{J:It}
  {RR:Value→Addr→Result→Shared→Prop}{E:Value→Shared→Prop}
  (O:Ja X x x' Nc By scope) (hc:X.calm=true)
  (hcl:∀ x c,cl.lookup x=some c→X.env.cells.lookup x=some c∧(x,NameKind.free)∈scope.names) (Qo:∀ x,(x,NameKind.free)∈scope.names→cl.lookup x=X.env.cells.lookup x)
  (hte:∀ C fp s H,PE (Et X Nc scope cl C fp s H) elt te) (htc:∀ C fp s H,PIf (Et X Nc scope cl C fp s H) ifs tc)
  (I:Inv X pins σ H s) (T:Turn X.prog X.w X.K (.Tuple [.Name x px,.Name x' px'] kx tp) J fp it tn) (st:tn 0 s.heap) (hfp:∀ b∈fp,JW X pins H b) (h:Wh X.K By tc te J σ H Q)
  (hRR:∀(D C:Addr) (s':Shared) (m:Str→Option Value),s'.heap.Ns C m→(∀ h',Heap.SameBut C s'.heap h'→∃ H',Inv X pins σ H' { s' with heap:=h' }∧H' C=none∧Q (.ref D) H') →
   s.heap.objs.size≤C→RR (.ref D) C (.ok .next) s') :
  wpAny (model X.prog X.w) X.A (newList []) (fun acc s₃=>wpAny (model X.prog X.w) X.A (newFunctionEnv scope X.env.globals cl [] X.env.qual none .none (some X.env)) (fun cenv s₄ =>
   codeAny (model X.prog X.w) X.A (.compStart (.ListComp elt [⟨(.Tuple [.Name x px,.Name x' px'] kx tp),iter,ifs,0⟩] scope pos) 0 (.ref it) acc { cenv with scope:=relabel scope X.env }) (RR acc cenv.locals) s₄) E s₃) E s:=by
 refine wpAny_newObj_type (wpAny_newFunctionEnv O.cell (by intro y hy;simp at hy) (fun h₁ hns₁ hsb₁=>?_) O.kind)
 dsimp only at hns₁ hsb₁ ⊢
 generalize hH2:s.heap.push { cls:=.type "list", dict:=none,data:=.seq ([]:List Value).toArray }=H2 at hns₁ hsb₁ ⊢
 have hC:H2.objs.size=s.heap.objs.size+1:=by rw[← hH2,Heap.size_push]
 have hCle:s.heap.objs.size≤H2.objs.size:=by rw[hC];exact Alw _
 have hDC:s.heap.objs.size≠H2.objs.size:=by rw[hC];exact AkK (Alu _)
 have below:∀ b,b<s.heap.objs.size→b≠H2.objs.size∧b≠s.heap.objs.size:=fun b hb=>⟨by rw[hC];exact AkK (Alm hb),AkK hb⟩
 have old:∀ b o,s.heap.get? b=some o→h₁.get? b=some o:=fun b o e=>hsb₁.extBut b o (below b (Heap.lt_size e)).1 (Heap.get?_push_of_some _ (hH2▸Heap.get?_push_of_some _ e))
 have hacc:h₁.get? s.heap.objs.size=some (KR [] 0):=hsb₁.extBut _ _ hDC (Heap.get?_push_of_some _ (hH2▸Heap.get?_push_size _ rfl))
 have hfo:∀ b∈fp,b<s.heap.objs.size:=fun b hb=>by
  obtain⟨o,e,_⟩:=T.obj _ _ st b hb
  exact Heap.lt_size e
 have st1:tn 0 h₁:=T.keep _ _ _ st fun b _ o e=>old b o e
 generalize hDD:s.heap.objs.size=D at *
 generalize hCC:H2.objs.size=C at *
 have Afz:D≤C:=hCle
 let Y:Cx:=Et X Nc scope cl C fp s H
 have I0:Inv Y [] (none::none::G9 σ By) H { s with heap:=h₁,toks:=s.toks+([]:List (Str × Value)).length }:=XJ I O hcl Qo (by rw[hDD];exact hCle) hfp (fun b hb=>by rw[hDD];exact hfo b hb) old hns₁
 have AbU:H D=none:=by rw[← hDD];exact I.hok.fresh (AkF _)
 have VF:D≠C:=hDC
 have Dfs:D∉Y.fs:=fun z=>by
  have:=I.stack.mem (show D∈frs X.stack from z)
  obtain⟨_,o,e,_⟩:=this
  have:=Heap.lt_size e
  rw[hDD] at this
  exact Alf _ this
 have AbV:∀ y c,Y.env.cells.lookup y=some c→c≠D:=fun y c e z=>by
  obtain⟨v,q⟩:=I.cell y c (hcl y c e).1
  have:=q.lt
  rw[z,hDD] at this
  exact Alf _ this
 have Dfp:∀ b∈fp,b≠D:=fun b hb=>AkK (hfo b hb)
 have fpY:∀{H':Hp},(∀ b∈fp,H' b=none)→∀ b∈fp,JW Y [] H' b:=fun hn b hb =>
  ⟨hn b hb,AkK (AkT (hfo b hb) Afz),fun z=>I0.ok.Xk b hb z,.inl hb,fun y c e=>(I0.ok.exf b hb).2 y c e,fun p hp=>absurd (show p∈([]:List (Addr × Obj)) from hp) (by simp)⟩
 obtain⟨W,⟨m0,w0⟩,turn⟩:=h
 have loop:∀ s₃:Shared,s₃={ s with heap:=h₁,toks:=s.toks+([]:List (Str × Value)).length } →
   codeAny (model X.prog X.w) X.A (.compLoop (.ListComp elt [⟨(.Tuple [.Name x px,.Name x' px'] kx tp),iter,ifs,0⟩] scope pos) 0 (.ref it) (.ref D) (compEnvC scope cl C X.env)) (RR (.ref D) C) s₃:=by
  rintro s₃ rfl
  refine Ol (fun n s'=>∃(i:Nat) (o o':Option V) (H':Hp) (ys:List V) (us:List Value) (k:Nat),Inv Y [] (o::o'::G9 σ By) H' s'∧tn i s'.heap∧(∀ b∈fp,H' b=none)∧s'.heap.get? D=some (KR us k)∧H' D=none∧Vals ys us∧W i n ys H')
   ?_ m0 ⟨0,none,none,H,[],[],0,I0,st1,fun b hb=>(hfp b hb).1,hacc,AbU,.nil,w0⟩
  rintro n s3 ⟨i,o3,o3',H3,ys,us,k,I3,st3,fr3,hD3,nD3,rv,w3⟩
  have fpP:∀{H':Hp} {ob:Obj},(∀ b∈fp,H' b=none)→∀ b∈fp,JW Y [(D,ob)] H' b:=fun hn b hb=>by
   obtain⟨g0,g1,g2,g3,g4,_⟩:=fpY hn b hb
   refine⟨g0,g1,g2,g3,g4,fun p hp=>?_⟩
   have e:p=(D,_):=List.mem_singleton.mp (show p∈[(D,_)] from hp)
   rw[e]
   exact Ne.symm (Dfp b hb)
  have IP:Inv Y [(D,KR us k)] (o3::o3'::G9 σ By) H3 s3:=I3.IV fun p hp=>by
   have e:p=(D,KR us k):=List.mem_singleton.mp hp
   subst e
   exact⟨hD3,nD3,VF,Dfs,fun v z=>by cases z⟩
  have Zk:∀{σ':St} {H':Hp} {s':Shared} {pl:List (Addr × Obj)},Inv Y ([(D,KR us k)]++pl) σ' H' s'→s'.heap.get? D=some (KR us k)∧H' D=none:=fun I'=>by
   have z:=I'.pin (D,KR us k) (Ald _ (Al8 _ AkS))
   exact⟨z.1,z.2.1⟩
  rcases turn i n ys H3 w3 with ⟨stop,hlen,fin⟩ | ⟨go,hlen,step⟩
  ·
   refine wpAny_mono (T.done Y rfl rfl rfl hc i _ s3 _ H3 (fun _ _=>False) IP (fpP fr3) st3 stop) (fun r s4 hr=>?_) fun _ _ z=>z.elim
   obtain⟨hr,I4⟩:=hr
   subst hr
   obtain⟨gD,nD⟩:=Zk (pl:=[]) (by simpa using I4)
   obtain⟨m,hn,_⟩:=I4.loc
   refine hRR D C s4 m hn (fun h' hs'=>⟨upd H3 D (.lst ys),?_,(Ax (Ne.symm VF)).trans I4.free,fin D nD⟩) hCle
   have nt:∀ b ob,H3 b=some ob→b≠C:=fun b ob e z=>by
    have:=I4.free
    rw[z] at e
    rw[show H3 C=none from this] at e
    cases e
   have u1:Un (frs X.stack) fp H H3 s.heap h':=Un.but I4.base hs' (show s.heap.objs.size≤C by rw[hDD];exact hCle)
   have ok1:HOk X.prog X.w H3 h':=fun b ob e=>(I4.hok b ob e).stay (fun c v hc q=>(hs'.2 c (by
    rcases hc with z | z
    ·rw[z];exact nt b ob e
    ·exact nt c _ z)).trans q) (fun _ q=>q) fun _ _ q=>q
   have gD':h'.get? D=some (KR us k):=(hs'.2 D VF).trans gD
   exact I.call' (s':={ s4 with heap:=h' }) (ch:=fp) I4.os (u1.track (Al4 hDD) nD) (ok1.track nD ⟨hlen,us,k,rv,gD'⟩) I4.bare fun b hb=>by
    obtain⟨_,g1,_,g3,g4,g5⟩:=hfp b hb
    exact⟨g3,g1,g4,g5⟩
  ·
   refine wpAny_mono (T.item Y rfl rfl rfl hc i _ s3 _ H3 (fun _ _=>False) IP (fpP fr3) st3 go) (fun r s4 hr=>?_) fun _ _ z=>z.elim
   obtain⟨u0,hr,h4⟩:=hr
   subst hr
   refine wpAny_mono h4 (fun _ s5 h5=>?_) fun _ _ z=>z.elim
   obtain⟨x5,H5,I5,r5,y5,st5,fr5⟩:=h5
   have I5':=I5.pinned (fpP fr5) (T.obj _ _ st5)
   have n1:PG Y (.Name x px) (M5 0):=Ba (i:=0) O.nd O.hd (.inl (Dm I.ok.kind O.loc (by intro z;cases z))) (.inr (Dm I.ok.kind O.loc (by intro z;cases z)))
   have n2:PG Y (.Name x' px') (M5 1):=Ba (i:=1) O.nd O.hd2 (.inl (Dm I.ok.kind O.Ah1 (by intro z;cases z))) (.inr (Dm I.ok.kind O.Ah1 (by intro z;cases z)))
   have tgt:PG Y (.Tuple [.Name x px,.Name x' px'] kx tp) (AgZ Y.K 2 (AbH (M5 0) (AbH (M5 1) AgY))):=YZ hc (J1 n1 (J1 n2 Vx))
   obtain⟨aT,uT,vT,rfl,hT,stepT⟩:=step x5 _ y5
   refine wpAny_mono (tgt _ s5 _ H5 (.ref aT) u0 (fun σ2 H2=>σ2=some uT::some vT::G9 σ By∧H2=H5) I5' r5 ⟨aT,[uT,vT],rfl,hT,rfl,uT,[vT],rfl,vT,[],rfl,rfl,rfl,rfl⟩) (fun _ s6 h6=>?_) fun _ _ z=>z.elim
   obtain⟨_,_,I6,rfl,rfl⟩:=h6
   refine wpAny_mono ((htc C fp s H).run I6 stepT) (fun b s7 h7=>?_) fun _ _ z=>z.elim
   obtain⟨H7,I7,q7⟩:=h7
   have Xx:∀{σ':St} {H':Hp} {s':Shared},Inv Y ([(D,KR us k)]++Qj fp s5.heap) σ' H' s'→tn (i+1) s'.heap∧∀ b∈fp,H' b=none:=fun I' =>
    ⟨T.keep _ _ _ st5 fun b hb o e=>(I'.pin (b,o) (Ald _ (Ald _ (G8 hb e)))).1,fun b hb=>by
     obtain⟨o,e,d⟩:=T.obj _ _ st5 b hb
     exact(I'.pin (b,o) (Ald _ (Ald _ (G8 hb e)))).2.1⟩
   cases b with
   | false =>
    rw[if_neg AkW] at q7
    rw[if_neg AkW]
    obtain⟨m',hm,w7⟩:=q7
    obtain⟨gD,nD⟩:=Zk I7
    obtain⟨k1,k2⟩:=Xx I7
    exact⟨m',hm,i+1,some uT,some vT,H7,ys,us,k,I7.IV (fun p hp=>nomatch hp),k1,k2,gD,nD,rv,w7⟩
   | true =>
    rw[if_pos rfl] at q7
    rw[if_pos rfl]
    refine wpAny_mono (hte C fp s H _ s7 _ H7 _ I7 q7) (fun u8 s8 h8=>?_) fun _ _ z=>z.elim
    obtain⟨y8,H8,I8,r8,m',hm,w8⟩:=h8
    obtain⟨gD,nD⟩:=Zk I8
    obtain⟨k1,k2⟩:=Xx I8
    refine call_meets F.slot_list_append ⟨_,gD,rfl⟩ F.entry_list_append (F.args_list_append_2 _ _) (PySem.list_append D us.toArray k u8 (by rw[AkO,← rv.length];omega)) ⟨gD,?_⟩
    have q:=PySem.IsL.update gD (·.push u8)
    have e1:us.toArray.push u8=(us++[u8]).toArray:=by simp
    rw[e1] at q
    have I8':Inv Y [] (some uT::some vT::G9 σ By) H8 s8:=I8.IV (fun p hp=>nomatch hp)
    have I9:Inv Y [] (some uT::some vT::G9 σ By) H8 { s8 with heap:=s8.heap.update D (Obj.mapSeq (·.push u8)),toks:=s8.toks } :=
     I8'.turned (it:=D) (fun b o hb e=>(Heap.get?_update_other s8.heap (Obj.mapSeq (·.push u8)) (Ne.symm hb)).trans e) nD VF (.inr (Al4 hDD)) AbV (fun p hp=>nomatch hp)
    refine⟨m',hm,i+1,some uT,some vT,H8,ys++[y8],us++[u8],_,I9,T.keep _ _ _ k1 fun b hb o e=>(Heap.get?_update_other s8.heap (Obj.mapSeq (·.push u8)) (Ne.symm (Dfp b hb))).trans e,k2,q,nD,rv.append (.cons r8 .nil),w8⟩
 exact codeAny_compStart_list (loop _ rfl) (T.self X.A 0 _ _ _ st1 (loop _ rfl))
theorem Acm{x x':Str}{px px' tp pos:Pos}{kx:Nat}{Nc:List Str}{By:List Nat}{scope:Scope}{iter elt:Expr}{ifs:List Expr}{wi:TI}{tc:TT}{te:TE}(O:Ja X x x' Nc By scope)(hc:X.calm=true)(hi:PI X (.Tuple [.Name x px,.Name x' px'] kx tp) iter wi)
  (htc:∀ cl C fp s H,PIf (Et X Nc scope cl C fp s H) ifs tc) (hte:∀ cl C fp s H,PE (Et X Nc scope cl C fp s H) elt te) (hs:∀ x,foldedSetIterable iter X.env x=pure x:=by intro _;rfl) :
  PE X (.ListComp elt [⟨(.Tuple [.Name x px,.Name x' px'] kx tp),iter,ifs,0⟩] scope pos) (Ack X.K wi By tc te):=by
 intro pins s σ H Q I h
 rw[eval_ListComp]
 obtain⟨cl,e1,e2,e3⟩:=Nu (scope:=scope) (env:=X.env) fun y hy hf=>I.ok.has y.1 (.inl (O.fr y hy hf).1)
 refine wpAny_comprehension_free (use:=none) rfl hs e1 O.kind O.names (thn (hi pins s σ H _ I h) fun v s1 h1=>thn h1 fun itv s2 h2=>?_)
 obtain⟨it,fp,tn,J,H2,e,I2,T,st2,f2,w2⟩:=h2
 subst e
 refine XM (RR:=fun acc C=>compPost (model X.prog X.w) X.A X.xe none (EP X pins σ Q) acc C) O hc e2 e3 (hte cl) (htc cl) I2 T st2 f2 w2 ?_
 intro D C s' m hn hq hC
 refine⟨m,hn,fun h' hs'=>?_⟩
 obtain⟨H',I',_,q⟩:=hq h' hs'
 exact⟨.ref D,H',I',rfl,q⟩
theorem Qt{K:PySem.W.Frag}{x x':Str}{px px' tp pos:Pos}{kx:Nat}{Nc:List Str}{By:List Nat}{scope:Scope}{iter elt:Expr}{ifs:List Expr}{wi:TI}{tc:TT}{te:TE}(O:Ja X x x' Nc By scope)(hc:X.calm=true)(hi:PI X (.Tuple [.Name x px,.Name x' px'] kx tp) iter wi)
  (htc:∀ cl C fp s H,PIf (Et X Nc scope cl C fp s H) ifs tc) (hte:∀ cl C fp s H,PE (Et X Nc scope cl C fp s H) elt te) (hs:∀ x,foldedSetIterable iter X.env x=pure x:=by intro _;rfl) (hK:X.K=K:=by rfl) :
  PE X (.ListComp elt [⟨(.Tuple [.Name x px,.Name x' px'] kx tp),iter,ifs,0⟩] scope pos) (Ack K wi By tc te):=by
 subst hK
 exact Acm O hc hi htc hte hs
theorem S5{K:PySem.W.Frag}{S1 S2:Src}{n:Nat}{By:List Nat}{tc:TT}{te:TE}{σ:St}{H:Hp}{Q:VK}(f g:Nat→V)(Pv:Nat→List V→Hp→Prop)(h0:Pv 0 [] H)(hl:∀ i ys H,i≤n→Pv i ys H→ys.length≤i)
  (hz:n≤sizeLine) (h1:∀ i ys H,i<n→Pv i ys H→J8 K H S1 i (f i)) (h2:∀ i ys H,i<n→Pv i ys H→J8 K H S2 i (g i)) (hst:∀ ys H,Pv n ys H→(AdG K S1 S2).stop n H)
  (hs:∀ i ys H T,i<n→Pv i ys H→H T=none→Gh n Pv tc te (some (f i)::some (g i)::G9 σ By) i ys (upd H T (.tup [f i,g i])))
  (hd:∀ ys H p,Pv n ys H→H p=none→Q (.ref p) (upd H p (.lst ys))):Wh K By tc te (AdG K S1 S2) σ H Q:=by
 refine⟨fun i m ys H=>m=n-i∧i≤n∧Pv i ys H,⟨n,by simp,AkP _,h0⟩,?_⟩
 rintro i m ys H ⟨rfl,hi,p⟩
 have hy:=hl i ys H hi p
 by_cases hlt:i<n
 ·refine .inr ⟨⟨⟨_,h1 i ys H hlt p⟩,_,h2 i ys H hlt p⟩,by omega,fun x H' y=>?_⟩
  obtain⟨T,rfl,hT,e⟩:=y
  have e:=e _ _ (h1 i ys H hlt p) (h2 i ys H hlt p)
  subst e
  exact⟨T,f i,g i,rfl,SqT.of Ae,hs i ys H T hlt p hT⟩
 ·have e:i=n:=by omega
  subst e
  exact .inl ⟨hst ys H p,by omega,fun p' hp=>hd ys H p' p hp⟩
theorem Wi{K:PySem.W.Frag}{H:Hp}{u:List Nat}{i:Nat}(h:i<u.length):J8 K H (.s (tx u)) i (.str ⟨#[u.getD i 0]⟩) :=
 ⟨u.getD i 0,by rw[Nv,AkD h];simp[List.getD,h],rfl⟩
theorem AdH{K:PySem.W.Frag}{H:Hp}(u:List Nat):Wf K H (.s (tx u)) u.length:=by
 have:=An u
 unfold Str.length at this
 exact this
theorem Aal{K:PySem.W.Frag}{H:Hp}{a:Addr}{xs:List V}{i:Nat}(q:SqL K H a xs)(h:i<xs.length):J8 K H (.l a) i (xs.getD i .non) :=
 ⟨xs,q,by rw[AkD h];simp[List.getD,h]⟩
end
open PySem PySem.Spec PyProof.Rows
theorem Abj:typeLookup (.type "list_reverseiterator") "__len__" = pure none:=by
 rw[typeLookup_type,builtinLookup_eq_fast];kernel_rfl
theorem Acn:typeLookup (.type "list_reverseiterator") "__length_hint__" = pure (some (.builtin "list_reverseiterator.__length_hint__")):=by
 rw[typeLookup_type,builtinLookup_eq_fast];kernel_rfl
section
variable {prog:Program}{w:World}{A:Around}{E:Value→Shared→Prop}{s:Shared}{R:Result→Shared→Prop}{it:Addr}{fp wr:List Addr}{G:Array GenState→Array GenState→Prop}{n:Nat}{P:Nat→Value→Prop}{St:Nat→Shared→Prop}
theorem Zx(V:WalksS prog w A.in1 it fp wr G n P St)(ty:∀ i s,St i s→s.TypeIs (.ref it) "list_reverseiterator") (M:Addr) (res:Value) (c:Nat) (st0:St 0 s) (nf:M∉fp) (mi:it∈fp) (hM:s.heap.get? M=some { cls:=.type "list", data:=.seq #[] c })
  (fin:∀ s' acc c',Moved (M::wr) G s s'→s'.heap.get? M=some { cls:=.type "list", dict:=none,data:=.seq acc c',slots:=#[] }→ItemsOf P acc n→R (.ok (.ret res)) s') (hn:n≤sizeLine) :
  wpAny (model prog w) A.in1 (Builtin.List.listExtendWith (.ref M) (.ref it) res)
   (fun f s'=>match f with | .done d=>R (.ok d) s' | .again k=>k.quiet=true∧codeAny (model prog w) A k R s') (fun e s'=>R (.error e) s') s:=by
 have ne:M≠it:=fun e=>nf (e▸mi)
 have q1:Builtin.List.listSameRef (.ref M) (.ref it)=false:=by simp[Builtin.List.listSameRef,ne]
 unfold Builtin.List.listExtendWith
 refine wpAny_bind (wpAny_typeOf (ty 0 _ st0) ?_)
 rw[if_neg (by rw[q1];decide)]
 refine wpAny_bind (V.self 0 _ _ _ st0 ?_);refine wpAny_bind (wpAny_holding ?_)
 unfold Builtin.List.listLengthHint
 refine wpAny_bind (wpAny_specialOf (ty 0 _ st0) Abj ?_)
 show wpAny _ A.in1 (specialOf (Value.ref it) (Str.ofString "__length_hint__") >>= _) _ _ _
 refine wpAny_bind (wpAny_specialOf (ty 0 _ st0) Acn ?_)
 generalize hid:("list_reverseiterator.__length_hint__" : String)=name
 wp_delta
 rw[show splitId name=some ("list_reverseiterator", "__length_hint__") from by subst hid;decide +kernel]
 subst hid
 refine wpAny_bind (wpAny_isInstance (b:=true) (ty 0 _ st0) (by rw[isSubtype_type];kernel_rfl) ?_);refine wpAny_pure ?_
 rw[if_neg (by decide)]
 refine wpAny_pure ⟨plainId_quiet F.plain_extend_loop _,codeAny_extend_loopS V hn _ nf _ n 0 _ _ _ rfl (AkP _) st0 hM (ItemsOf.nil P) fun s' acc c' mv hM' ha=>?_⟩
 exact fin s' acc c' mv hM' ha
theorem Aco(V:WalksS prog w A.in1 it fp wr G n P St)(ty:∀ i s,St i s→s.TypeIs (.ref it) "list_reverseiterator") (M:Addr) (st0:St 0 s) (nf:M∉fp) (mi:it∈fp) (hM:s.heap.get? M=some { cls:=.type "list", data:=.seq #[] })
  (fin:∀ s' acc c',Moved (M::wr) G s s'→s'.heap.get? M=some { cls:=.type "list", dict:=none,data:=.seq acc c',slots:=#[] }→ItemsOf P acc n→R (.ok (.ret .none)) s') (hn:n≤sizeLine) :
  wpAny (model prog w) A.in1 (Builtin.«list.__init__» ⟨[.ref M,.ref it],[]⟩)
   (fun f s'=>match f with | .done d=>R (.ok d) s' | .again k=>k.quiet=true∧codeAny (model prog w) A k R s') (fun e s'=>R (.error e) s') s:=by
 show wpAny _ A.in1 (do let old ← Builtin.List.listItems (.ref M);Builtin.List.listUpdate (.ref M) (fun _=>#[]);letGo old.toList.reverse;Builtin.List.listExtendWith (.ref M) (.ref it) .none) _ _ s
 refine wpAny_bind ?_;unfold Builtin.List.listItems
 refine wpAny_bind (wpAny_seqItems hM rfl (wpAny_pure ?_))
 show wpAny _ A.in1 (updateSeq M (fun _=>#[]) >>= fun _=>letGo (#[]:Array Value).toList.reverse >>= fun _=>Builtin.List.listExtendWith (.ref M) (.ref it) .none) _ _ s
 refine wpAny_bind (wpAny_updateSeq hM rfl ?_)
 have hM2:=Heap.get?_update_self (Obj.mapSeq (fun _=>(#[]:Array Value))) hM rfl
 have off:∀ b o,b≠M→s.heap.get? b=some o→(s.heap.update M (Obj.mapSeq (fun _=>(#[]:Array Value)))).get? b=some o:=fun b o nb e=>(Heap.get?_update_other _ _ (Ne.symm nb)).trans e
 refine wpAny_bind (wpAny_letGo ?_)
 refine Zx V ty M .none _ (V.frame 0 s _ s.toks st0 (AkF _) fun b hb o e=>off b o (fun z=>nf (z▸hb)) e) nf mi hM2 (fun s' acc c' mv hM' ha=>?_) hn
 exact fin s' acc c' (Moved.trans V.gtrans ((Moved.refl V.grefl).then_heap (AkF _) fun b o hb e=>off b o (fun z=>hb (z▸AkS)) e) mv) hM' ha
theorem Acp{Q:Value→Shared→Prop}(V:WalksS prog w A.in1.in1 it fp wr G n P St)(ty:∀ i s,St i s→s.TypeIs (.ref it) "list_reverseiterator") (st0:St 0 s) (below:∀ b∈fp,b<s.heap.objs.size) (mi:it∈fp)
  (fin:∀ s' acc c',Moved (s.heap.objs.size::wr) G { s with heap:=s.heap.push { cls:=.type "list", data:=.seq #[] } } s' →
   s'.heap.get? s.heap.objs.size=some { cls:=.type "list", dict:=none,data:=.seq acc c',slots:=#[] }→ItemsOf P acc n→Q (.ref s.heap.objs.size) s') (hn:n≤sizeLine) :
  wpAny (model prog w) A (call (.type "list") [.ref it]) Q E s:=by
 have nf:s.heap.objs.size∉fp:=fun z=>Alf _ (below _ z)
 refine callType_codes (Q₁:=fun ob s1=>ob=.ref s.heap.objs.size∧s1={ s with heap:=s.heap.push { cls:=.type "list", data:=.seq #[] } }) F.called_list (F.typeCall_list_1 _) F.entry_list_init (code_list_new _ ⟨rfl,rfl⟩) fun ob s1 h1=>?_
 obtain⟨rfl,rfl⟩:=h1
 have hM:(s.heap.push { cls:=.type "list", data:=.seq #[] }).get? s.heap.objs.size=some { cls:=.type "list", data:=.seq #[] }:=Heap.get?_push_size _ rfl
 refine⟨⟨_,hM,rfl⟩,F.args_list_init_2 _ _,Aco V ty _ (V.frame 0 s _ s.toks st0 (AkF _) fun b _ o e=>Heap.get?_push_of_some _ e) nf mi hM (fun s' acc c' mv hM' ha=>?_) hn⟩
 exact⟨rfl,fin s' acc c' mv hM' ha⟩
end
section
variable {X:Cx}{K:PySem.W.Frag}{p1 p2 pos1 pos2:Pos}{e:Expr}{te:TE}
def Acq (K:PySem.W.Frag)(te:TE):TE:=fun σ H Q=>te σ H fun x H1=>∃ a ys,x=.ref a∧SqL K H1 a ys∧ys.length≤1000∧∀ l,H1 l=none→Q (.ref l) (upd H1 l (.lst ys.reverse))
theorem S6(hg1:Gl X "list") (hm1:X.mg "list" = none) (hg2:Gl X "reversed") (hm2:X.mg "reversed" = none) (he:PE X e te) (hK:X.K=K:=by rfl) (hc:X.calm=true:=by rfl)
  (hs2:starEach [e] X.env=(false,eval e X.env)::starEach [] X.env:=by rfl)
  (hs1:starEach [.Call (.Name "reversed" p2) [e] [] pos2] X.env=(false,eval (.Call (.Name "reversed" p2) [e] [] pos2) X.env)::starEach [] X.env:=by rfl)
  (hq1:(backTo pos1 (starEach [] X.env)).any (·.1)=false:=by rfl) (hq2:(backTo pos2 (starEach [] X.env)).any (·.1)=false:=by rfl) :
  PE X (.Call (.Name "list" p1) [.Call (.Name "reversed" p2) [e] [] pos2] [] pos1) (Acq K te):=by
 subst hK
 intro pins s σ H Q I h
 have hsz:sizeLine=16777216:=sizeLine_eq
 refine wpAny_Call_Name_kw (HR I hg1 hm1 Fo ?_)
 refine PyProof.Rows.callWith_type1 ?_ hs1 hq1
 rw[hs1]
 show wpAny _ _ (spliced ((false,eval (.Call (.Name "reversed" p2) [e] [] pos2) X.env)::backTo pos1 (starEach [] X.env))) _ _ s
 refine Calls.spliced_cons ?_
 refine wpAny_Call_Name_kw (HR I hg2 hm2 Xy ?_)
 refine PyProof.Rows.callWith_type1 ?_ hs2 hq2
 rw[hs2]
 show wpAny _ _ (spliced ((false,eval e X.env)::backTo pos2 (starEach [] X.env))) _ _ s
 refine Calls.spliced_cons (thn (he pins s σ H _ I h) fun u s1 ⟨x,H1,I1,r1,a,ys,ex,hq,hy,q⟩=>?_)
 subst ex
 cases r1
 refine Calls.spliced_nil ?_
 obtain⟨its,r,pl,hz⟩:=I1.list hq
 have hl:=r.length
 refine call_reversed_list pl.isList ?_
 refine Calls.spliced_nil ?_
 obtain⟨h1,g1,d1,k1,o1⟩:=s1
 have hit:(h1.push (revObj a ((its.toArray.size:Int)-1))).IsRevIter h1.objs.size a ((its.toArray.size:Int)-1-((0:Nat):Int)):=⟨_,Heap.get?_push_size _ rfl,rfl,by show Data.fields _=Data.fields _;rw[show(its.toArray.size:Int)-1-((0:Nat):Int)=(its.toArray.size:Int)-1 by omega]⟩
 have hli:(h1.push (revObj a ((its.toArray.size:Int)-1))).IsList a its.toArray:=pl.isList.push _
 obtain⟨oa,hoa,_⟩:=pl.isList
 have hlt:a<h1.objs.size:=Heap.lt_size hoa
 have hh:X.A.in1.in1.handled=none:=by simp[I.ok.hd hc]
 have ps:(h1.push (revObj a ((its.toArray.size:Int)-1))).objs.size=h1.objs.size+1:=Heap.size_push _ _
 refine Acp (Walks.toS (Walks.listRev hh h1.objs.size a (AkK hlt) its.toArray)) (fun i s x=>x.2.1.typeIs) ⟨AkP _,hit,hli⟩ (fun b hb=>?_) (by simp) (fun s' acc c' mv hM ha=>?_) (by rw[AkO];omega)
 ·show b<(h1.push (revObj a ((its.toArray.size:Int)-1))).objs.size
  rw[ps]
  rcases List.mem_cons.mp hb with e | e
  ·rw[e];exact Alu _
  ·rw[List.mem_singleton.mp e];exact Alm hlt
 ·have vs:Vals ys.reverse acc.toList:=by
   refine RX _ _ (by rw[Alz,hl];have:=ha.1;simpa using this.symm) fun i x u e1 e2=>?_
   have hi:i<ys.length:=by
    have:=(List.getElem?_eq_some_iff.mp e1).1
    rwa [Alz] at this
   have e3:=ha.2 i u (by rw[← Array.getElem?_toList];exact e2)
   rw[List.getElem?_reverse hi] at e1
   obtain⟨v,hv,rv'⟩:=r.get e1
   rw[AkO,← hl] at e3
   have e4:its[ys.length-1-i]?=some u:=by simpa using e3
   rw[hv] at e4
   cases e4
   exact rv'
  rw[Moved.eq_with mv]
  have hM':s'.heap.get? (h1.objs.size+1)=some { cls:=.type "list", dict:=none,data:=.seq acc c',slots:=#[] }:=by
   have:=hM
   dsimp only at this
   rw[ps] at this
   exact this
  show EP X pins σ Q (Value.ref (h1.push (revObj a ((its.toArray.size:Int)-1))).objs.size) _
  rw[ps]
  refine⟨.ref (h1.objs.size+1),_,I1.laid (t':=s'.toks) (o:=.lst ys.reverse) (h':=s'.heap) (fun b o e=>?_) (Alw _) ?_,rfl,q _ (I1.hok.fresh (Alw _))⟩
  ·have hb:=Heap.lt_size e
   refine mv.heap b o ?_ (Heap.get?_push_of_some _ (Heap.get?_push_of_some _ e))
   show b∉[(h1.push (revObj a ((its.toArray.size:Int)-1))).objs.size,h1.objs.size]
   rw[ps]
   have hb2:b<h1.objs.size:=hb
   simp only [Aln,Alo,or_false,not_or]
   exact⟨AkK (Alm hb2),AkK hb2⟩
  ·exact⟨by rw[Alz];exact hz,acc.toList,c',vs,by simpa using hM'⟩
end
open PySem PySem.Spec PyProof.Rows
def Ah2 (td ty:TE):TE:=fun σ H Q=>td σ H fun x H1=>∃ a,x=.ref a∧IsD H1 a∧ty σ H1 fun y H2=>∃ b kvs more,y=.ref b∧a≠b∧H2 a=some (.dK kvs)∧H2 b=some (.dK more)∧kvs.length+more.length≤sizeLine∧Q .non (upd H2 a (.dK (Ew kvs more)))
section
variable {X:Cx}{o e:Expr}{apos cpos:Pos}{td ty:TE}
theorem AdI(ho:PE X o td)(he:PE X e ty)(m:M1 X o "update" apos e cpos):PE X (.Call (.Attribute o "update" apos) [e] [] cpos) (Ah2 td ty):=by
 intro pins s σ H Q I h
 refine wpAny_Call_method m.base m.few m.line PySem.F.plainAttrs_dict PySem.F.slot_dict_update PySem.F.type_dict_update (thn (ho pins s σ H _ I h) fun u s1 ⟨x,H1,I1,rx,a,ex,d,q1⟩=>?_)
 subst ex
 obtain rfl:u=Value.ref a:=rx
 obtain⟨t1,t2,_⟩:=Acg I1 d
 refine⟨t1,t2,?_⟩
 rw[m.trees]
 refine Calls.callWith_builtin rfl (Calls.evalArgs_plain (Calls.spliced_cons (thn (he pins s1 σ H1 _ I1 q1) fun iv s2 ⟨y,H2,I2,ry,b,kvs,more,ey,hab,e1,e2,hz,q2⟩=>Calls.spliced_nil ?_)))
 subst ey
 obtain rfl:iv=Value.ref b:=ry
 obtain⟨z,hd,vs,rel,dd⟩:=Aai I2.hok e1
 obtain⟨z',hd',vs',AfF,dd'⟩:=Aai I2.hok e2
 refine call_meetsIn PySem.F.slot_dict_update dd.typeIs PySem.F.entry_dict_update (PySem.F.args_dict_update_2 _ _) (meets_dict_update (Dv X.prog X.w) a b hab hd') ⟨vs,vs',dd,dd',by rw[← rel.length,← AfF.length];exact hz,fun h' d1 d2 hs=>?_⟩
 have rm:=KV.merge AfF rel
 have hl:(Ew kvs more).length≤sizeLine:=by
  rw[rm.length]
  refine AkZ (merged_length_le vs vs') ?_
  rw[← rel.length,← AfF.length]
  exact hz
 exact⟨.non,_,Ry (t':=s2.toks) I2 (by rw[e1];exact True.intro) hs (let ⟨q,_,_,hq,_⟩:=d1;⟨q,hq⟩) (Zt hl hd rm d1),rfl,q2⟩
end
open PySem PySem.Spec PyProof.Rows
section
variable {X:Cx}
def Ai8 (K:PySem.W.Frag):V→List V→Hp→VK→Prop:=fun x vs H Q=>∃ a ns k,x=.ref a∧vs=[.int k]∧SqL K H a (vI ns)∧Q (.int (ns.count k:Nat)) H
end
def Ite (K:PySem.W.Frag)(a:Addr):It where
 go:=fun i H=>∃ xs x,SqL K H a xs∧xs[i]?=some x
 yld:=fun i H x H'=>∃ T,x=.ref T∧H T=none∧∀ xs u,SqL K H a xs→xs[i]?=some u→H'=upd H T (.tup [.int (i:Int),u])
 stop:=fun i H=>∃ xs,SqL K H a xs∧xs.length=i
def Ak3 (e it a:Addr)(i:Nat)(h:Heap):Prop:=(∃ old,IsEnum h e it i old)∧h.IsListIter it a i
section
variable {X:Cx}{es:List Expr}{kx:Nat}{tp:Pos}
def AjP (K:PySem.W.Frag)(ta:TA):TI:=fun σ H R=>ta σ H fun vs H1=>∃ a,vs=[.ref a]∧(∃ xs,SqL K H1 a xs)∧R (Ite K a) H1
end
open PySem PySem.Spec PyProof.Rows
theorem XN{a b T:Nat}(h:a<b)(hT:b≤T):T≠a:=by omega
abbrev EnX (h:Heap) (e it:Addr) (i:Int) (T0:Addr) (f:Bool) (old:Value):Prop :=
 h.get? e=some { cls:=.type "enumerate", dict:=none,data:=.fields #[rawInt T0,.bool f,.ref it,rawInt i,.none,old],slots:=#[] }
theorem Zy:typeLookup (.type "enumerate") "__len__" = pure none:=by rw[typeLookup_type,builtinLookup_eq_fast];kernel_rfl
theorem XQ:typeLookup (.type "enumerate") "__length_hint__" = pure none:=by rw[typeLookup_type,builtinLookup_eq_fast];kernel_rfl
section
variable {prog:Program}{w:World}{A:Around}{E:Value→Shared→Prop}{s:Shared}
theorem Uq{e it T0:Addr}{fp:List Addr}{n i:Nat}{P:Nat→Value→Prop}{St:Nat→Heap→Prop}{f:Bool}{old:Value}{o0:Obj}{Q:Option Value→Shared→Prop}
  (D:Draws prog w A.in1 it fp n P St) (he:EnX s.heap e it i T0 f old) (h0:s.heap.get? T0=some o0) (h0e:T0≠e) (h0i:T0≠it) (hst:St i s.heap) (hlt:i<n) (hne:e≠it) (hef:e∉fp)
  (hQ:∀ x h' tk,P i x→EnX h' e it ((i:Int)+1) T0 true old→St (i+1) h' →
   h'.get? s.heap.objs.size=some { cls:=.type "tuple", data:=.seq #[.int i tk,x] }→h'.objs.size=s.heap.objs.size+1 →
   (∀ b o,b≠e→b≠it→s.heap.get? b=some o→h'.get? b=some o)→Q (some (.ref s.heap.objs.size)) { s with heap:=h',toks:=tk+1 }) :
  wpAny (model prog w) A (pyNext (.ref e)) Q E s:=by
 have hT:s.TypeIs (.ref e) "enumerate" := ⟨_,he,rfl⟩
 unfold pyNext
 refine wpAny_bind (wpAny_attempt (wpAny_callSpecial?_slot (name:=Str.ofString "__next__") hT F.slot_enumerate_next
  (wpAny_call_entry F.slot_enumerate_next hT F.entry_enumerate_next ?_ (F.args_enumerate_next_1 _))))
 clear hT
 obtain⟨hp,g,d,tk₀,os⟩:=s
 show wpAny _ _ (field (.ref e) 2 >>= _) _ _ _
 refine wpAny_bind (wpAny_field he rfl (x:=.ref it) rfl ?_)
 refine wpAny_bind (D.item i _ _ _ hlt hst fun x h₁ tk hPx hit₁ hs₁=>?_)
 replace hs₁:Heap.SameBut it hp h₁:=hs₁
 have he₁:EnX h₁ e it i T0 f old:=(hs₁.2 e hne).trans he
 show wpAny _ _ (field (.ref e) 3 >>= _) _ _ ⟨h₁,g,d,tk,os⟩
 refine wpAny_bind (wpAny_field he₁ rfl (x:=rawInt i) rfl ?_)
 show wpAny _ _ (field (.ref e) 4 >>= _) _ _ ⟨h₁,g,d,tk,os⟩
 refine wpAny_bind (wpAny_field he₁ rfl (x:=.none) rfl ?_)
 show wpAny _ _ (mkInt i >>= _) _ _ ⟨h₁,g,d,tk,os⟩
 refine wpAny_bind (wpAny_mkInt ?_)
 show wpAny _ _ (setField (.ref e) 3 (rawInt ((i:Int)+1)) >>= _) _ _ ⟨h₁,g,d,tk+1,os⟩
 refine wpAny_bind (wpAny_setField_rec he₁ (by simp) fun h₂ he₂ hs₂=>?_)
 replace hs₂:Heap.SameBut e h₁ h₂:=hs₂
 replace he₂:EnX h₂ e it ((i:Int)+1) T0 f old:=he₂
 show wpAny _ _ (setField (.ref e) 4 .none >>= _) _ _ ⟨h₂,g,d,tk+1,os⟩
 refine wpAny_bind (wpAny_setField_rec he₂ (by simp) fun h₃ he₃ hs₃=>?_)
 replace hs₃:Heap.SameBut e h₂ h₃:=hs₃
 replace he₃:EnX h₃ e it ((i:Int)+1) T0 f old:=he₃
 show wpAny _ _ (newTuple [.int i tk,x] >>= _) _ _ ⟨h₃,g,d,tk+1,os⟩
 refine wpAny_bind (wpAny_newTuple ?_)
 have he₄:EnX (h₃.push { cls:=.type "tuple", data:=.seq #[.int i tk,x] }) e it ((i:Int)+1) T0 f old:=Heap.get?_push_of_some _ he₃
 generalize hh₄:h₃.push { cls:=.type "tuple", data:=.seq #[.int i tk,x] }=h₄ at he₄
 have hsz:h₃.objs.size=hp.objs.size:=by rw[hs₃.1,hs₂.1,hs₁.1]
 have hel:e<hp.objs.size:=Heap.lt_size he
 have ht₄:h₄.get? hp.objs.size=some { cls:=.type "tuple", data:=.seq #[.int i tk,x] }:=by rw[← hh₄,← hsz];exact Heap.get?_push_size _ rfl
 have hz₄:h₄.objs.size=hp.objs.size+1:=by rw[← hh₄,Heap.size_push,hsz]
 have hk₄:∀ b o,b≠e→b≠it→hp.get? b=some o→h₄.get? b=some o:=fun b o hbe hbi hb=>by
  rw[← hh₄];exact Heap.get?_push_of_some _ (hs₃.extBut b o hbe (hs₂.extBut b o hbe (hs₁.extBut b o hbi hb)))
 have hit₄:St (i+1) h₄:=D.frame _ _ _ hit₁ fun b hb o y=>by
  have hbe:b≠e:=fun q=>hef (q▸hb)
  rw[← hh₄];exact Heap.get?_push_of_some _ (hs₃.extBut b o hbe (hs₂.extBut b o hbe y))
 have ha₄:h₄.get? T0=some o0:=hk₄ T0 o0 h0e h0i h0
 show wpAny _ _ (Builtin.SmallTypes.ownedTupleIsFree (.ref e) >>= _) _ _ ⟨h₄,g,d,tk+1,os⟩
 rw[hsz]
 clear hh₄ he₃ hs₃ he₂ hs₂ he₁ hs₁ hit₁ hsz h₃ h₂ h₁
 have fin:∀ h₅:Heap,EnX h₅ e it ((i:Int)+1) T0 true old→Heap.SameBut e h₄ h₅→Q (some (.ref hp.objs.size)) ⟨h₅,g,d,tk+1,os⟩:=fun h₅ he₅ hs₅ =>
  hQ x h₅ tk hPx he₅ (D.frame _ _ _ hit₄ fun b hb o y=>hs₅.extBut b o (fun q=>hef (q▸hb)) y) (hs₅.extBut _ _ (Alj hel) ht₄) (by show h₅.objs.size=hp.objs.size+1;rw[hs₅.1,hz₄])
   fun b o hbe hbi hb=>hs₅.extBut b o hbe (hk₄ b o hbe hbi hb)
 refine wpAny_bind ?_
 unfold Builtin.SmallTypes.ownedTupleIsFree
 refine wpAny_bind (wpAny_field he₄ rfl (x:=rawInt T0) rfl ?_)
 show wpAny _ _ (loadIfAlive ((T0:Int).toNat) >>= _) _ _ _
 rw[AkJ]
 refine wpAny_bind (PySem.W.kdx_alive ha₄ ?_)
 simp only [Option.isNone_some,AlT,if_false]
 refine wpAny_bind (wpAny_field he₄ rfl (x:=.bool f) rfl ?_)
 cases f with
 | true =>
  rw[if_neg (show ¬((Value.bool true != Value.bool true)=true) from AkW)]
  refine wpAny_pure ?_
  simp only [AlT,if_false]
  exact wpAny_pure ⟨_,rfl,wpAny_pure (fin h₄ he₄ (Heap.SameBut.refl _ _))⟩
 | false =>
  rw[if_pos (show(Value.bool false != Value.bool true)=true from rfl)]
  refine wpAny_bind (wpAny_setField_rec he₄ (by simp) fun h₅ he₅ hs₅=>?_)
  replace hs₅:Heap.SameBut e h₄ h₅:=hs₅
  replace he₅:EnX h₅ e it ((i:Int)+1) T0 true old:=he₅
  refine wpAny_pure ?_
  simp only [AlT,if_false]
  exact wpAny_pure ⟨_,rfl,wpAny_pure (fin h₅ he₅ hs₅)⟩
theorem Wj{e it T0:Addr}{fp:List Addr}{n:Nat}{P:Nat→Value→Prop}{St:Nat→Heap→Prop}{i:Int}{f:Bool}{old:Value}{Q:Option Value→Shared→Prop}
  (D:Draws prog w A.in1 it fp n P St) (he:EnX s.heap e it i T0 f old) (hst:St n s.heap)
  (hQ:∀ h',Heap.ExtBut it s.heap h'→Q none { s with heap:=h' }):wpAny (model prog w) A (pyNext (.ref e)) Q E s:=by
 have hT:s.TypeIs (.ref e) "enumerate" := ⟨_,he,rfl⟩
 unfold pyNext
 refine wpAny_bind (wpAny_attempt (wpAny_callSpecial?_slot (name:=Str.ofString "__next__") hT F.slot_enumerate_next
  (wpAny_call_entry F.slot_enumerate_next hT F.entry_enumerate_next ?_ (F.args_enumerate_next_1 _))))
 show wpAny _ _ (field (.ref e) 2 >>= _) _ _ _
 refine wpAny_bind (wpAny_field he rfl (x:=.ref it) rfl ?_)
 refine wpAny_bind (D.done _ _ _ hst fun h' x he' hx'=>?_)
 obtain⟨o,ho,hc⟩:=hx'
 refine wpAny_bind (wpAny_isInstance (T := "StopIteration") (b:=true) ⟨o,ho,hc⟩ isSubtype_stop ?_)
 exact wpAny_pure (hQ _ he')
structure EL (P:Nat→Value→Prop) (St:Nat→Heap→Prop) (e it M B:Addr) (s0:Shared) (i:Nat) (Ts:List Addr) (s:Shared):Prop where
 st:St i s.heap
 en:(i=0∧IsEnum s.heap e it 0 .none)∨∃ T0 f old,EnX s.heap e it i T0 f old∧Ts[0]?=some T0
 acc:∃ c,s.heap.get? M=some { cls:=.type "list", dict:=none,data:=.seq (Ts.map Value.ref).toArray c,slots:=#[] }
 len:Ts.length=i
 tup:∀(j:Nat) (T:Addr),Ts[j]?=some T→B≤T∧T<s.heap.objs.size∧∃ t x,P j x∧s.heap.get? T=some { cls:=.type "tuple", data:=.seq #[.int (j:Int) t,x] }
 nd:Ts.Nodup
 big:B≤s.heap.objs.size
 old:∀ b o,b≠e→b≠it→b≠M→s0.heap.get? b=some o→s.heap.get? b=some o
 rest:∃ h tk,s={ s0 with heap:=h,toks:=tk }
theorem Abk{e it M B:Addr}{fp:List Addr}{n:Nat}{P:Nat→Value→Prop}{St:Nat→Heap→Prop}{s0:Shared}{R:Result→Shared→Prop}{res:Value}
    (D:Draws prog w A.in1.in1 it fp n P St) (hn:n≤sizeLine) (hne:e≠it) (hef:e∉fp) (hMf:M∉fp) (hMe:M≠e) (hMi:M≠it) (be:e<B) (bi:it<B) (bM:M<B)
 :
    ∀(k i:Nat) (s:Shared) (Ts:List Addr),n-i=k→i≤n→EL P St e it M B s0 i Ts s →
    (∀ Ts s h',EL P St e it M B s0 n Ts s→Heap.ExtBut it s.heap h'→R (.ok (.ret res)) { s with heap:=h' }) →
    codeAny (model prog w) A (.builtin "list.extend.loop" ⟨[.ref M,.ref e,res],[]⟩) R s:=by
  intro k
  induction k with
  | zero =>
    intro i s Ts hk hi L hR
    have hin:i=n:=by omega
    subst hin
    refine codeAny_builtin F.entry_extend_loop ?_
    rw[Around.under_plainId F.plain_extend_loop _]
    show wpAny _ A.in1 (pyNext (.ref e) >>= _) _ _ s
    refine wpAny_bind ?_
    rcases L.en with ⟨h0,en⟩ | ⟨T0,f,old,en,_⟩
    · exact wpAny_pyNext_enum_endD D en L.st fun h' he=>wpAny_pure (hR Ts s h' L he)
    · exact Wj D en L.st fun h' he=>wpAny_pure (hR Ts s h' L he)
  | succ k ih =>
    intro i s Ts hk hi L hR
    have hlt:i<n:=by omega
    refine codeAny_builtin F.entry_extend_loop ?_
    rw[Around.under_plainId F.plain_extend_loop _]
    show wpAny _ A.in1 (pyNext (.ref e) >>= _) _ _ s
    obtain⟨c,hM⟩:=L.acc
    have step:∀ x h' tk T0 f old,P i x→EnX h' e it ((i:Int)+1) T0 f old→(Ts++[s.heap.objs.size])[0]?=some T0→St (i+1) h' →
        h'.get? s.heap.objs.size=some { cls:=.type "tuple", data:=.seq #[.int i tk,x] }→h'.objs.size=s.heap.objs.size+1 →
        (∀ b o,b≠e→b≠it→s.heap.get? b=some o→h'.get? b=some o) →
        wpAny (model prog w) A.in1 (updateSeq M (·.push (.ref s.heap.objs.size)) >>= fun _=>again (.builtin "list.extend.loop" ⟨[.ref M,.ref e,res],[]⟩))
          (fun f s'=>match f with | .done d=>R (.ok d) s' | .again k=>k.quiet=true∧codeAny (model prog w) A k R s') (fun e s'=>R (.error e) s') { s with heap:=h',toks:=tk+1 }:=by
      intro x h' tk T0 f old hP en hT0 st hT hsz kk
      have hM':h'.get? M=some { cls:=.type "list", dict:=none,data:=.seq (Ts.map Value.ref).toArray c,slots:=#[] }:=kk M _ hMe hMi hM
      refine wpAny_bind ?_
      refine wpAny_updateSeq hM' rfl (wpAny_pure ⟨plainId_quiet F.plain_extend_loop _,ih (i+1) _ (Ts++[s.heap.objs.size]) (by omega) hlt ?_ hR⟩) ?_ ?_
      · have oth:∀ b o,b≠M→h'.get? b=some o→(h'.update M (Obj.mapSeq (·.push (.ref s.heap.objs.size)))).get? b=some o:=fun b o hb y=>(Heap.get?_update_other _ _ (Ne.symm hb)).trans y
        have TM:∀ T,B≤T→T≠M∧T≠e∧T≠it:=fun T h=>⟨XN bM h,XN be h,XN bi h⟩
        have bs:B≤s.heap.objs.size:=L.big
        have hMU:=Heap.get?_update_self (Obj.mapSeq (·.push (.ref s.heap.objs.size))) hM' rfl
        refine⟨D.frame _ _ _ st fun b hb o y=>oth b o (fun z=>hMf (z▸hb)) y,.inr ⟨T0,f,old,?_,hT0⟩,⟨c+1,hMU.trans ?_⟩,by rw[AkG,L.len];rfl,fun j T hj=>?_,?_,?_,fun b o b1 b2 b3 y=>oth b o b3 (kk b o b1 b2 (L.old b o b1 b2 b3 y)),?_⟩
        · have:=oth e _ (Ne.symm hMe) en
          rw[show((i+1:Nat):Int)=(i:Int)+1 by omega]
          exact this
        · show some _=some _
          congr 1
          simp[Obj.mapSeq]
        · have szU:(h'.update M (Obj.mapSeq (·.push (.ref s.heap.objs.size)))).objs.size=s.heap.objs.size+1:=by rw[Heap.size_update,hsz]
          by_cases hji:j<Ts.length
          · rw[AkR hji] at hj
            obtain⟨b1,b2,t,x',q1,q2⟩:=L.tup j T hj
            obtain⟨n1,n2,n3⟩:=TM T b1
            exact⟨b1,by show T<(h'.update M _).objs.size;rw[szU];exact Alm b2,t,x',q1,oth T _ n1 (kk T _ n2 n3 q2)⟩
          · have hj2:=(List.getElem?_eq_some_iff.mp hj).1
            rw[AkG,Ali] at hj2
            have ej:j=Ts.length:=by omega
            rw[ej,AkY (AkF _),Alp] at hj
            cases hj
            obtain⟨n1,n2,n3⟩:=TM s.heap.objs.size bs
            refine⟨bs,by show s.heap.objs.size<(h'.update M _).objs.size;rw[szU];omega,tk,x,by rw[ej,L.len];exact hP,?_⟩
            rw[ej,L.len]
            exact oth _ _ n1 hT
        · refine List.nodup_append.mpr ⟨L.nd,by simp,fun a ha b hb=>?_⟩
          rw[List.mem_singleton.mp hb]
          obtain⟨j,hj⟩:=AlD ha
          exact AkK (L.tup j a hj).2.1
        · show B≤(h'.update M _).objs.size
          rw[Heap.size_update,hsz];exact Nat.le_succ_of_le bs
        · obtain⟨h,tk',e⟩:=L.rest
          exact⟨_,_,by rw[e]⟩
      · rw[AkO,AkE,L.len];omega
      · show((Ts.map Value.ref).toArray.push _).size≤sizeLine+1
        rw[Array.size_push,AkO,AkE,L.len];omega
    refine wpAny_bind ?_
    rcases L.en with ⟨h0,en⟩ | ⟨T0,f,old,en,ht⟩
    · subst h0
      have e0:Ts=[]:=List.length_eq_zero_iff.mp L.len
      refine wpAny_pyNext_enum_itemD (i:=0) D en L.st hlt hne hef fun x h' tk hP ho hst hT hsz kk=>?_
      exact step x h' tk _ false x hP ho (by rw[e0];rfl) hst hT hsz kk
    · obtain⟨b1,b2,t,x0,q1,q2⟩:=L.tup 0 T0 ht
      refine Uq D en q2 (XN be b1) (XN bi b1) L.st hlt hne hef fun x h' tk hP ho hst hT hsz kk=>?_
      exact step x h' tk T0 true old hP ho (by rw[AkR (List.getElem?_eq_some_iff.mp ht).1];exact ht) hst hT hsz kk
end
section
variable {prog:Program}{w:World}{A:Around}{E:Value→Shared→Prop}{s:Shared}{R:Result→Shared→Prop}
theorem Abl{e it M B:Addr}{fp:List Addr}{n:Nat}{P:Nat→Value→Prop}{St:Nat→Heap→Prop}
  (D:Draws prog w A.in1.in1 it fp n P St) (hn:n≤sizeLine) (hne:e≠it) (hef:e∉fp) (hMf:M∉fp) (hMe:M≠e) (hMi:M≠it) (be:e<B) (bi:it<B) (bM:M<B) (hB:B≤s.heap.objs.size)
  (st0:St 0 s.heap) (en:IsEnum s.heap e it 0 .none) (hM:s.heap.get? M=some { cls:=.type "list", data:=.seq #[] })
  (fin:∀ Ts s' h',EL P St e it M B s n Ts s'→Heap.ExtBut it s'.heap h'→R (.ok (.ret .none)) { s' with heap:=h' }) :
  wpAny (model prog w) A.in1 (Builtin.«list.__init__» ⟨[.ref M,.ref e],[]⟩)
   (fun f s'=>match f with | .done d=>R (.ok d) s' | .again k=>k.quiet=true∧codeAny (model prog w) A k R s') (fun e s'=>R (.error e) s') s:=by
 show wpAny _ A.in1 (do let old ← Builtin.List.listItems (.ref M);Builtin.List.listUpdate (.ref M) (fun _=>#[]);letGo old.toList.reverse;Builtin.List.listExtendWith (.ref M) (.ref e) .none) _ _ s
 refine wpAny_bind ?_;unfold Builtin.List.listItems
 refine wpAny_bind (wpAny_seqItems hM rfl (wpAny_pure ?_))
 show wpAny _ A.in1 (updateSeq M (fun _=>#[]) >>= fun _=>letGo (#[]:Array Value).toList.reverse >>= fun _=>Builtin.List.listExtendWith (.ref M) (.ref e) .none) _ _ s
 refine wpAny_bind (wpAny_updateSeq hM rfl ?_)
 have hM2:=Heap.get?_update_self (Obj.mapSeq (fun _=>(#[]:Array Value))) hM rfl
 have off:∀ b o,b≠M→s.heap.get? b=some o→(s.heap.update M (Obj.mapSeq (fun _=>(#[]:Array Value)))).get? b=some o:=fun b o nb e=>(Heap.get?_update_other _ _ (Ne.symm nb)).trans e
 refine wpAny_bind (wpAny_letGo ?_)
 have q1:Builtin.List.listSameRef (.ref M) (.ref e)=false:=by simp[Builtin.List.listSameRef,hMe]
 have en2:IsEnum (s.heap.update M (Obj.mapSeq (fun _=>(#[]:Array Value)))) e it 0 .none:=off _ _ (Ne.symm hMe) en
 generalize hh2:s.heap.update M (Obj.mapSeq (fun _=>(#[]:Array Value)))=h2 at hM2 off en2 ⊢
 have sz2:h2.objs.size=s.heap.objs.size:=by rw[← hh2,Heap.size_update]
 have ty:Shared.TypeIs { s with heap:=h2 } (.ref e) "enumerate" := ⟨_,en2,rfl⟩
 unfold Builtin.List.listExtendWith
 refine wpAny_bind (wpAny_typeOf ty ?_)
 rw[if_neg (by rw[q1];decide)]
 refine wpAny_bind (wpAny_pyIter_enum en2 ?_)
 refine wpAny_bind (wpAny_holding ?_)
 unfold Builtin.List.listLengthHint
 refine wpAny_bind (wpAny_specialOf ty Zy ?_)
 show wpAny _ A.in1 (specialOf (Value.ref e) (Str.ofString "__length_hint__") >>= _) _ _ _
 refine wpAny_bind (wpAny_specialOf ty XQ ?_)
 refine wpAny_pure ?_
 show wpAny _ A.in1 (rule "list.extend.makes-room" >>= fun _=>Builtin.List.listTouch (.ref M) >>= fun _ =>
  again (.builtin "list.extend.loop" ⟨[.ref M,.ref e,.none],[]⟩)) _ _ _
 refine wpAny_bind (wpAny_rule ?_)
 refine wpAny_bind ?_
 show wpAny _ A.in1 (updateSeq M (·.push .none) >>= fun _=>updateSeq M (·.pop)) _ _ _
 refine wpAny_bind (wpAny_updateSeq hM2 rfl ?_)
 have hM3:=Heap.get?_update_self (Obj.mapSeq (·.push Value.none)) hM2 rfl
 refine wpAny_updateSeq hM3 rfl ?_
 have hM4:=Heap.get?_update_self (Obj.mapSeq (·.pop)) hM3 rfl
 have oth:∀ b o,b≠M→h2.get? b=some o→((h2.update M (Obj.mapSeq (·.push Value.none))).update M (Obj.mapSeq (·.pop))).get? b=some o :=
  fun b o hb e=>(Heap.get?_update_other _ _ (Ne.symm hb)).trans ((Heap.get?_update_other _ _ (Ne.symm hb)).trans e)
 refine wpAny_pure ⟨plainId_quiet F.plain_extend_loop _,Abk (s0:=s) D hn hne hef hMf hMe hMi be bi bM n 0 _ [] rfl (AkP _) ?_ fin⟩
 refine⟨D.frame _ _ _ st0 fun b hb o y=>?_,.inl ⟨rfl,oth _ _ (Ne.symm hMe) en2⟩,⟨_,hM4⟩,rfl,fun j T h=>by simp at h,List.Pairwise.nil,?_,fun b o b1 b2 b3 y=>oth b o b3 (off b o b3 y),⟨_,_,rfl⟩⟩
 ·have:b≠M:=fun z=>hMf (z▸hb)
  exact oth b o this (off b o this y)
 ·show B≤((h2.update M _).update M _).objs.size
  rw[Heap.size_update,Heap.size_update,sz2]
  exact hB
theorem Abm{Q:Value→Shared→Prop}{e it:Addr}{fp:List Addr}{n:Nat}{P:Nat→Value→Prop}{St:Nat→Heap→Prop}
  (D:Draws prog w A.in1.in1.in1 it fp n P St) (hn:n≤sizeLine) (hne:e≠it) (hef:e∉fp) (below:∀ b∈fp,b<s.heap.objs.size) (be:e<s.heap.objs.size) (bi:it<s.heap.objs.size)
  (st0:St 0 s.heap) (en:IsEnum s.heap e it 0 .none)
  (fin:∀ Ts s' h',EL P St e it s.heap.objs.size (s.heap.objs.size+1) { s with heap:=s.heap.push { cls:=.type "list", data:=.seq #[] } } n Ts s'→Heap.ExtBut it s'.heap h'→Q (.ref s.heap.objs.size) { s' with heap:=h' }) :
  wpAny (model prog w) A (call (.type "list") [.ref e]) Q E s:=by
 have nf:s.heap.objs.size∉fp:=fun z=>Alf _ (below _ z)
 refine callType_codes (Q₁:=fun ob s1=>ob=.ref s.heap.objs.size∧s1={ s with heap:=s.heap.push { cls:=.type "list", data:=.seq #[] } }) F.called_list (F.typeCall_list_1 _) F.entry_list_init (code_list_new _ ⟨rfl,rfl⟩) fun ob s1 h1=>?_
 obtain⟨rfl,rfl⟩:=h1
 have hM:(s.heap.push { cls:=.type "list", data:=.seq #[] }).get? s.heap.objs.size=some { cls:=.type "list", data:=.seq #[] }:=Heap.get?_push_size _ rfl
 refine⟨⟨_,hM,rfl⟩,F.args_list_init_2 _ _,Abl (M:=s.heap.objs.size) (B:=s.heap.objs.size+1) D hn hne hef nf (Alj be) (Alj bi) (Alm be) (Alm bi) (Alu _) (by show _≤(s.heap.push _).objs.size;rw[Heap.size_push];exact AkF _)
  (D.frame _ _ _ st0 fun b _ o y=>Heap.get?_push_of_some _ y) (Heap.get?_push_of_some _ en) hM (fun Ts s' h' L he=>⟨rfl,fin Ts s' h' L he⟩)⟩
end
theorem Zz{P:Program}{w:World}{fs ex:List Addr}{H:Hp}{h h':Heap}{g:Nat→V}:∀(Ts:List Addr),Ts.Nodup→(∀ T∈Ts,h.objs.size≤T)→(∀ b o,h.get? b=some o→h'.get? b=some o)→HOk P w H h→HOk P w H h' →
  (∀(j:Nat) (T:Addr),Ts[j]?=some T→∃ us,Vals [.int (j:Int),g j] us∧h'.IsTuple T us.toArray) →
  ∃ H',Ar H H'∧Un fs ex H H' h h'∧HOk P w H' h'∧(∀(j:Nat) (T:Addr),Ts[j]?=some T→H' T=some (.tup [.int (j:Int),g j]))∧∀ b,b∉Ts→H' b=H b:=by
 intro Ts nd big keep ok0 ok tup
 have key:∀ k,k≤Ts.length→∃ H',Ar H H'∧Un fs ex H H' h h'∧HOk P w H' h'∧(∀(j:Nat) (T:Addr),j<k→Ts[j]?=some T→H' T=some (.tup [.int (j:Int),g j]))∧∀ b,b∉Ts.take k→H' b=H b:=by
  intro k
  induction k with
  | zero=>intro _;exact⟨H,.refl _,Un.kept keep,ok,fun j T h=>by omega,fun b _=>rfl⟩
  | succ k ih =>
   intro hk
   obtain⟨H1,s1,u1,o1,t1,n1⟩:=ih (by omega)
   have hg:Ts[k]?=some Ts[k]:=AkD (by omega)
   have hb:=big _ (AkN (show k<Ts.length by omega))
   have nk:Ts[k]∉Ts.take k:=fun z=>by
    obtain⟨i,hi,e⟩:=Alh z
    rw[AkU] at hi
    rw[List.getElem_take] at e
    have:=(List.pairwise_iff_getElem.mp nd) i k (by omega) (by omega) (by omega)
    exact this e
   have hn:H1 Ts[k]=none:=by rw[n1 _ nk];exact ok0.fresh hb
   obtain⟨us,vs,it⟩:=tup k _ hg
   refine⟨upd H1 Ts[k] (.tup [.int (k:Int),g k]),s1.new hn,u1.track hb hn,o1.track hn ⟨by show 2≤sizeLine;decide,us,vs,it⟩,fun j T hj e=>?_,fun b hb=>?_⟩
   ·by_cases hjk:j=k
    ·subst hjk
     rw[hg] at e
     cases e
     exact Ae
    ·have q:=t1 j T (by omega) e
     rw[Ax (BK q hn)]
     exact q
   ·rw[Ale,hg] at hb
    have h1:b∉Ts.take k:=fun z=>hb (Al8 _ z)
    have h2:b≠Ts[k]:=fun z=>hb (Ald _ (by rw[z];simp))
    rw[Ax h2,n1 b h1]
 obtain⟨H',s,u,o,t,n⟩:=key Ts.length (AkF _)
 refine⟨H',s,u,o,fun j T e=>t j T (List.getElem?_eq_some_iff.mp e).1 e,fun b hb=>n b ?_⟩
 rw[Alq]
 exact hb
theorem S8:∀ l:List Addr,Vals (l.map V.ref) (l.map Value.ref)
 | []=>.nil
 | a::l=>.cons rfl (S8 l)
section
variable {X:Cx}{p1 p2 pos1 pos2:Pos}{e:Expr}{te:TE}
def Abn (te:TE):TE:=fun σ H Q=>te σ H fun x H1=>∃ z:Str,x=.str z∧z.cps.size≤1000∧∀(l:Addr) (Ts:List Addr) (H':Hp),Ar H1 H'→H1 l=none→H' l=some (.lst (Ts.map V.ref))→Ts.length=z.cps.size →
 (∀(j:Nat) (T:Addr) (c:Nat),Ts[j]?=some T→z.cps[j]?=some c→H' T=some (.tup [.int (j:Int),.str ⟨#[c]⟩]))→Q (.ref l) H'
theorem XR(hg1:Gl X "list") (hm1:X.mg "list" = none) (hg2:Gl X "enumerate") (hm2:X.mg "enumerate" = none) (he:PE X e te) (hc:X.calm=true:=by rfl)
  (hs2:starEach [e] X.env=(false,eval e X.env)::starEach [] X.env:=by rfl)
  (hs1:starEach [.Call (.Name "enumerate" p2) [e] [] pos2] X.env=(false,eval (.Call (.Name "enumerate" p2) [e] [] pos2) X.env)::starEach [] X.env:=by rfl)
  (hq1:(backTo pos1 (starEach [] X.env)).any (·.1)=false:=by rfl) (hq2:(backTo pos2 (starEach [] X.env)).any (·.1)=false:=by rfl) :
  PE X (.Call (.Name "list" p1) [.Call (.Name "enumerate" p2) [e] [] pos2] [] pos1) (Abn te):=by
 intro pins s σ H Q I h
 have hsz:sizeLine=16777216:=sizeLine_eq
 refine wpAny_Call_Name_kw (HR I hg1 hm1 Fo ?_)
 refine PyProof.Rows.callWith_type1 ?_ hs1 hq1
 rw[hs1]
 show wpAny _ _ (spliced ((false,eval (.Call (.Name "enumerate" p2) [e] [] pos2) X.env)::backTo pos1 (starEach [] X.env))) _ _ s
 refine Calls.spliced_cons ?_
 refine wpAny_Call_Name_kw (HR I hg2 hm2 VM ?_)
 refine PyProof.Rows.callWith_type1 ?_ hs2 hq2
 rw[hs2]
 show wpAny _ _ (spliced ((false,eval e X.env)::backTo pos2 (starEach [] X.env))) _ _ s
 refine Calls.spliced_cons (thn (he pins s σ H _ I h) fun u s1 ⟨x,H1,I1,r1,z,ex,hz,q⟩=>?_)
 subst ex
 obtain⟨t,rfl⟩:=r1
 refine Calls.spliced_nil ?_
 refine call_enumerate_str fun h1 en hit hsz1 kk=>?_
 refine Calls.spliced_nil ?_
 have hh:X.A.in1.in1.in1.handled=none:=by simp[I.ok.hd hc]
 have D:=X8 (prog:=X.prog) (w:=X.w) hh s1.heap.objs.size z t
 refine Abm (s:={ s1 with heap:=h1 }) D (by omega) (Nat.succ_ne_self _) (by simp) (fun b hb=>?_) (by show _<h1.objs.size;omega) (by show _<h1.objs.size;omega) hit en fun Ts s' h' L ext=>?_
 ·rw[List.mem_singleton.mp hb];show _<h1.objs.size;omega
 have L1:h1.objs.size=s1.heap.objs.size+2:=hsz1
 have old:∀ b o,s1.heap.get? b=some o→h'.get? b=some o:=fun b o y=>by
  have hb:b<s1.heap.objs.size:=Heap.lt_size y
  have y1:=kk b o y
  have b1:b<h1.objs.size:=Heap.lt_size y1
  exact ext b o (AkK hb) (L.old b o (AkK (Alm hb)) (AkK hb) (AkK b1) (Heap.get?_push_of_some _ y1))
 obtain⟨c,hM⟩:=L.acc
 have hM:s'.heap.get? h1.objs.size=some { cls:=.type "list", dict:=none,data:=.seq (Ts.map Value.ref).toArray c,slots:=#[] }:=hM
 have hM':=ext _ _ (show h1.objs.size≠s1.heap.objs.size by omega) hM
 have tl:∀ T∈Ts,h1.objs.size<T:=fun T hT=>by
  obtain⟨j,hj⟩:=AlD hT
  have:=(L.tup j T hj).1
  have e:h1.objs.size+1≤T:=this
  omega
 have sgn:∀(j:Nat) (T:Addr),Ts[j]?=some T→∃ us,Vals [.int (j:Int),.str ⟨#[z.cps.getD j 0]⟩] us∧h'.IsTuple T us.toArray:=fun j T hj=>by
  obtain⟨_,_,tk,x,⟨c,u,hcz,rfl⟩,ht⟩:=L.tup j T hj
  have nT:=tl T (AkI hj)
  refine⟨[.int (j:Int) tk,.str ⟨#[c]⟩ u],.cons ⟨tk,rfl⟩ (.cons ⟨u,?_⟩ .nil),⟨_,ext T _ (Alj (AlW (by show s1.heap.objs.size<h1.objs.size;omega) nT)) ht,rfl,_,rfl⟩⟩
  rw[show z.cps.getD j 0=c by rw[Array.getD_eq_getD_getElem?,hcz];rfl]
 obtain⟨H',sm,un,ok,tt,nn⟩:=Zz (P:=X.prog) (w:=X.w) (fs:=X.fs) (ex:=[]) (H:=H1) (h:=s1.heap) (h':=h') (g:=fun j=>.str ⟨#[z.cps.getD j 0]⟩) Ts L.nd (fun T hT=>by have:=tl T hT;omega) old I1.hok (I1.hok.kept old) sgn
 have hMn:h1.objs.size∉Ts:=fun z=>Alf _ (tl _ z)
 have hn:H' h1.objs.size=none:=by rw[nn _ hMn];exact I1.hok.fresh (by omega)
 have vs:Vals (Ts.map V.ref) (Ts.map Value.ref):=S8 Ts
 have ts:(Ts.map V.ref).length≤sizeLine:=by rw[AkE,L.len];omega
 obtain⟨hx,tkx,es⟩:=L.rest
 rw[es]
 refine⟨.ref h1.objs.size,upd H' h1.objs.size (.lst (Ts.map V.ref)),I1.un (t':=tkx) (un.track (by omega) hn) (ok.track hn ⟨ts,_,c,vs,hM'⟩),rfl,?_⟩
 refine q h1.objs.size Ts _ (sm.new hn) (I1.hok.fresh (by omega)) Ae L.len fun j T c hj hc=>?_
 have:=tt j T hj
 rw[Ax (BK this hn),this]
 rw[show z.cps.getD j 0=c by rw[Array.getD_eq_getD_getElem?,hc];rfl]
end
open PySem PySem.Spec PyProof.Rows
inductive Z0 (K:PySem.W.Frag) (H:Hp):Nat→V→V→Prop where
 | flat {n:Nat} {x:V} (h:Eg x=true):Z0 K H n x x
 | lst {n:Nat} {p q:Addr} {xs ys:List V} (hp:SqL K H p xs) (hq:SqL K H q ys) (hl:xs.length=ys.length) (hi:∀(i:Nat) (x y:V),xs[i]?=some x→ys[i]?=some y→Z0 K H n x y):Z0 K H (n+1) (.ref p) (.ref q)
 | tup {n:Nat} {p q:Addr} {xs ys:List V} (hp:SqT K H p xs) (hq:SqT K H q ys) (hl:xs.length=ys.length) (hi:∀(i:Nat) (x y:V),xs[i]?=some x→ys[i]?=some y→Z0 K H n x y):Z0 K H (n+1) (.ref p) (.ref q)
section
variable {X:Cx}{K:PySem.W.Frag}
theorem J9{xs:List V}{us:List Value}(r:Vals xs us){j:Nat}(h:j<us.toArray.size):∃ x,xs[j]?=some x∧RelV x us.toArray[j]:=by
 have l:=r.length
 simp only [AkO] at h
 obtain⟨u,e,q⟩:=r.get (i:=j) (x:=xs[j]) (by simp[show j<xs.length by omega])
 refine⟨xs[j],by simp[show j<xs.length by omega],?_⟩
 have:us.toArray[j]=u:=by
  have h2:us.toArray[j]?=some u:=by simpa using e
  exact Option.some.inj ((Array.getElem?_eq_getElem (by simpa using h)).symm.trans h2)
 rw[this]
 exact q
theorem Acr{pins:List (Addr × Obj)}{σ:St}{H:Hp}{s:Shared}(I:Inv X pins σ H s){n:Nat}{x y:V}(S:Z0 X.K H n x y):∀{A:Around} {u v:Value},RelV x u→RelV y v→A.units+n<cLine→SeqAt.EqAt A s u v true:=by
 induction S with
 | flat h =>
  intro A u v r1 r2 hu
  have:=V5 (A:=A) (s:=s) r1 r2 h h
  rw[Oo h] at this
  exact this
 | lst hp hq hl hi ih =>
  intro A u v r1 r2 hu
  rename_i n p q xs ys
  cases r1
  cases r2
  by_cases e:p=q
  ·subst e;exact SeqAt.EqAt.same _
  ·refine SeqAt.EqAt.of_refs e ?_
   obtain⟨its,r,pl,hz⟩:=I.list hp
   obtain⟨its2,r2,pl2,hz2⟩:=I.list hq
   have l1:=r.length
   have l2:=r2.length
   have key:=SeqAt.RcAt.lists (A:=A) (s:=s) (e:=fun _=>true) pl.isList pl2.isList (by simp only [AkO];omega) (by omega) (fun j h1 h2=>?_)
   ·have e1:(List.range its.toArray.size).all (fun _=>true)=true:=by simp
    rw[e1] at key
    exact key
   ·obtain⟨x,ex,qx⟩:=J9 r h1
    obtain⟨y,ey,qy⟩:=J9 r2 h2
    exact ih j x y ex ey qx qy (by show A.units+1+n<cLine;omega)
 | tup hp hq hl hi ih =>
  intro A u v r1 r2 hu
  rename_i n p q xs ys
  cases r1
  cases r2
  by_cases e:p=q
  ·subst e;exact SeqAt.EqAt.same _
  ·refine SeqAt.EqAt.of_refs e ?_
   obtain⟨its,r,pl,hz⟩:=I.tuple hp
   obtain⟨its2,r2,pl2,hz2⟩:=I.tuple hq
   have l1:=r.length
   have l2:=r2.length
   have key:=SeqAt.RcAt.tuples (A:=A) (s:=s) (e:=fun _=>true) pl pl2 (by omega) (fun j h1 h2=>?_)
   ·have e1:((List.range (min its.toArray.size its2.toArray.size)).all (fun _=>true) && its.toArray.size == its2.toArray.size)=true:=by
     have e2:its.length=its2.length:=by omega
     simp[e2]
    rw[e1] at key
    exact key
   ·obtain⟨x,ex,qx⟩:=J9 r h1
    obtain⟨y,ey,qy⟩:=J9 r2 h2
    exact ih j x y ex ey qx qy (by show A.units+1+n<cLine;omega)
def Ah3 (K:PySem.W.Frag)(H:Hp)(p q:Addr):Prop:=∃ xs ys:List V,SqL K H p xs∧SqL K H q ys∧xs.length=ys.length∧∀(i:Nat) (x y:V),xs[i]?=some x→ys[i]?=some y→Z0 K H 50 x y
def Ak4 (K:PySem.W.Frag):R2:=fun x y H Q=>∃ p q,x=.ref p∧y=.ref q∧Ah3 K H p q∧Q (.bl true) H
def Ak5 (K:PySem.W.Frag):R2:=fun x y H Q=>∃ p q,x=.ref p∧y=.ref q∧Ah3 K H p q∧Q (.bl false) H
end
open PySem PySem.Spec PyProof.Rows
section
variable {X:Cx}{K:PySem.W.Frag}
def Ajv (K:PySem.W.Frag):R2:=fun x y H Q=>∃ p q xs,x=.ref p∧y=.ref q∧SqT K H p xs∧SqT K H q xs∧(∀ x∈xs,Eg x=true)∧Q (.bl false) H
theorem AfG(hu:X.A.units+100<cLine)(hK:X.K=K:=by rfl):OpR X (compareOp .NotEq) (Ajv K):=by
 subst hK
 intro pins s σ H x y v u Q I rx ry h
 obtain⟨p,q,xs,rfl,rfl,hx,hy,hf,k⟩:=h
 cases rx
 cases ry
 obtain⟨its,r,pl,hz⟩:=I.tuple hx
 obtain⟨its2,r2,pl2,hz2⟩:=I.tuple hy
 have l1:=r.length
 have l2:=r2.length
 refine SeqAt.RcNeAt.tuples (e:=fun _=>true) pl pl2 (by omega) (fun j h1 h2=>?_) _ _ _ _ ?_
 ·obtain⟨x,ex,qx⟩:=J9 r h1
  obtain⟨y,ey,qy⟩:=J9 r2 h2
  rw[ex] at ey
  cases ey
  exact Acr (n:=50) I (.flat (hf x (AkI ex))) qx qy (by show X.A.units+1+50<cLine;omega)
 refine⟨.bl false,H,I,?_,k⟩
 show Value.bool _=Value.bool _
 have:its.length=its2.length:=by omega
 simp[this]
end
open PySem PySem.Spec PyProof.Rows
section
variable {X:Cx}{K:PySem.W.Frag}
def Ajw:V→List V→Hp→VK→Prop:=fun x vs H Q=>∃(z y:Str) (i:Nat) (rest:List Nat),x=.str z∧vs=[.str y]∧Builtin.Str.occurrences z y 0 z.length 1=i::rest∧Q (.int (i:Int)) H
def Ak6 (K:PySem.W.Frag):R2:=fun x y H Q=>∃ p q xs,x=.ref p∧y=.ref q∧SqT K H p xs∧SqT K H q xs∧(∀ x∈xs,Eg x=true)∧Q (.bl true) H
end
open PySem PySem.Spec PyProof.Rows
namespace SetW
theorem SJ:Slot "set_iterator" "__next__" "set_iterator.__next__" := .of (owner := "set_iterator") (n := "__next__") (by rw[typeLookup_type,builtinLookup_eq_fast];kernel_rfl) (by decide +kernel) (by decide +kernel) (by decide +kernel) (by first | exact .inl (by decide +kernel) | exact .inr (by decide +kernel)) (by rw[isSubtype_type];kernel_rfl)
theorem AeE:Slot "set_iterator" "__iter__" "set_iterator.__iter__" := .of (owner := "set_iterator") (n := "__iter__") (by rw[typeLookup_type,builtinLookup_eq_fast];kernel_rfl) (by decide +kernel) (by decide +kernel) (by decide +kernel) (by first | exact .inl (by decide +kernel) | exact .inr (by decide +kernel)) (by rw[isSubtype_type];kernel_rfl)
theorem AeF:entryFor table "set_iterator.__next__" = some Builtin.«set_iterator.__next__»:=entryFor_of_fast (by kernel_rfl)
theorem Ah4:entryFor table "set_iterator.__iter__" = some Builtin.«dict_keyiterator.__iter__»:=entryFor_alias (id' := "dict_keyiterator.__iter__") (by kernel_rfl) rfl (by decide +kernel) (by kernel_rfl)
theorem Ah5:entryFor table "set.__iter__" = some Builtin.«frozenset.__iter__»:=entryFor_alias (id' := "frozenset.__iter__") (by kernel_rfl) rfl (by decide +kernel) (by kernel_rfl)
theorem AeG(a:Value):argsOk "set_iterator.__next__" ⟨[a],[]⟩:=by unfold argsOk;kernel_rfl
theorem Ah6(a:Value):argsOk "set_iterator.__iter__" ⟨[a],[]⟩:=by unfold argsOk;kernel_rfl
theorem AfH:typeLookup (.type "set") "__len__" = pure (some (.builtin "set.__len__")):=by rw[typeLookup_type,builtinLookup_eq_fast];kernel_rfl
end SetW
open PySem PySem.Spec PyProof.Rows
namespace SetW
theorem Aam{α:Type}(next:Nat→Nat):∀(fuel k:Nat) (left:List α) (out:Array α),left.length≤fuel→(pickOrder.go next fuel k left out).toList.Perm (out.toList++left)
 | 0,k,left,out,h=>by
  have:left=[]:=List.length_eq_zero_iff.mp (by omega)
  subst this
  simp[pickOrder.go]
 | fuel+1,k,left,out,h=>by
  unfold pickOrder.go
  by_cases e:left=[]
  ·subst e
   simp
  ·have l0:0<left.length:=List.length_pos_iff.mpr e
   have l1:next k%left.length<left.length:=Nat.mod_lt _ l0
   rw[AkD l1]
   dsimp only
   refine(Aam next fuel (k+1) _ _ (by rw[Amg,if_pos l1];omega)).trans ?_
   rw[Array.toList_push,Alv]
   refine List.Perm.append_left _ ?_
   rw[Amn]
   have e2:left=left.take (next k%left.length)++left[next k%left.length]::left.drop (next k%left.length+1):=by
    rw[List.getElem_cons_drop,AlX]
   exact(List.perm_middle (a:=left[next k%left.length]) (l₁:=left.take (next k%left.length)) (l₂:=left.drop (next k%left.length+1))).symm.trans (.of_eq e2.symm)
theorem Abo{α:Type}(next:Nat→Nat)(xs:Array α):(pickOrder next xs).toList.Perm xs.toList:=by
 have:=Aam next xs.size 0 xs.toList #[] (by simp)
 simpa [pickOrder] using this
def Qu (xs:Array Nat):Prop:=∀ i k,i<k→k<xs.size→xs.getD i 0<xs.getD k 0
theorem SM(xs:Array Nat)(j:Nat)(hR:Qu xs):∀(fuel lo hi:Nat),lo≤hi→hi≤xs.size→hi-lo≤fuel→(∀ i,i<lo→xs.getD i 0<j)→(∀ i,hi≤i→i<xs.size→j≤xs.getD i 0) →
  SetTable.below.go xs j fuel lo hi≤xs.size∧(∀ i,i<SetTable.below.go xs j fuel lo hi→xs.getD i 0<j)∧(∀ i,SetTable.below.go xs j fuel lo hi≤i→i<xs.size→j≤xs.getD i 0)
 | 0,lo,hi,h1,h2,h3,h4,h5=>by
  have:lo=hi:=by omega
  subst this
  unfold SetTable.below.go
  exact⟨h2,h4,h5⟩
 | fuel+1,lo,hi,h1,h2,h3,h4,h5=>by
  unfold SetTable.below.go
  by_cases c:lo<hi
  ·rw[if_pos c]
   have hm:(lo+hi) / 2<xs.size:=by omega
   have e:xs.getD ((lo+hi) / 2) j=xs.getD ((lo+hi) / 2) 0:=by simp[Array.getD,hm]
   dsimp only
   by_cases c2:xs.getD ((lo+hi) / 2) j<j
   ·rw[if_pos c2]
    refine SM xs j hR fuel _ hi (by omega) h2 (by omega) (fun i hi'=>?_) h5
    rw[e] at c2
    by_cases c3:i=(lo+hi) / 2
    ·rw[c3];exact c2
    ·have:=hR i ((lo+hi) / 2) (by omega) hm
     omega
   ·rw[if_neg c2]
    refine SM xs j hR fuel lo _ (by omega) (by omega) (by omega) h4 (fun i hi' hs=>?_)
    rw[e] at c2
    by_cases c3:i=(lo+hi) / 2
    ·rw[c3];omega
    ·have:=hR ((lo+hi) / 2) i (by omega) hs
     omega
  ·rw[if_neg c]
   have:lo=hi:=by omega
   subst this
   exact⟨h2,h4,h5⟩
theorem SN{xs:Array Nat}(hR:Qu xs)(j:Nat):SetTable.below xs j≤xs.size∧(∀ i,i<SetTable.below xs j→xs.getD i 0<j)∧(∀ i,SetTable.below xs j≤i→i<xs.size→j≤xs.getD i 0) :=
 SM xs j hR xs.size 0 xs.size (AkP _) (AkF _) (by omega) (fun i h=>by omega) (fun i h1 h2=>by omega)
theorem Z1{xs:Array Nat}(hR:Qu xs):SetTable.below xs 0=0:=by
 obtain⟨h1,h2,h3⟩:=SN hR 0
 by_cases c:SetTable.below xs 0=0
 ·exact c
 ·have:=h2 0 (by omega);omega
theorem Z2{xs:Array Nat}(hR:Qu xs){i:Nat}(hi:i<xs.size):SetTable.below xs (xs.getD i 0+1)=i+1:=by
 obtain⟨h1,h2,h3⟩:=SN hR (xs.getD i 0+1)
 rcases Nat.lt_trichotomy (SetTable.below xs (xs.getD i 0+1)) (i+1) with c | c | c
 ·have:=h3 i (by omega) hi;omega
 ·exact c
 ·have a:=h2 (i+1) c
  have:=hR i (i+1) (by omega) (by omega)
  omega
structure Wk (w:World) (o:Obj) (es:Array (Int × Value)) (ep:Nat) (t:SetTable):Prop where
 ex:o.ExactSet
 d:o.data=.set es ep t
 f:t.fits es.size=true
 ok:w.params.followText "set-order" = true∨es.size=0∨(t.led=true∧(t.plain=true→Qu t.place))
theorem Wk.rise{w:World}{o:Obj}{es:Array (Int × Value)}{ep:Nat}{t:SetTable}(W:Wk w o es ep t)(hb:w.params.followText "set-order" = false) (hp:t.plain=true∨es.size≤1):Qu t.place:=by
 have hf:t.place.size=es.size:=by
  have:=W.f
  unfold SetTable.fits at this
  simp at this
  exact this.1
 rcases W.ok with e | e | ⟨_,e⟩
 ·rw[hb] at e;cases e
 ·intro i k h1 h2;omega
 ·rcases hp with hp | hp
  ·exact e hp
  ·intro i k h1 h2;omega
def Md (w:World)(a:Addr)(es:Array (Int × Value))(ep:Nat)(t:SetTable)(h:Heap)(T:Addr)(xl:List (Int × Value))(i:Nat)(f:Value):Prop :=
 (∃ slot:Nat,f=.int slot 0∧((w.params.followText "set-order" = true∧xl=(pickOrder (w.params.setOrder a ep) es).toList)∨(w.params.followText "set-order" = false∧(t.plain=true∨es.size≤1)∧xl=es.toList∧SetTable.below t.place slot=i))) ∨
 (∃ pm:List Nat,f=.ref T∧h.get? T=some (seqObj "tuple" (pm.map fun k:Nat=>rawInt (k:Int)).toArray 0)∧pm.Perm (List.range es.size)∧xl=pm.map fun k=>es.toList.getD k (0,.none))
theorem Md.perm{w:World}{a T:Addr}{es:Array (Int × Value)}{ep i:Nat}{t:SetTable}{h:Heap}{xl:List (Int × Value)}{f:Value}(m:Md w a es ep t h T xl i f):xl.Perm es.toList:=by
 rcases m with ⟨_,_,⟨_,e⟩ | ⟨_,_,e,_⟩⟩ | ⟨pm,_,_,hp,e⟩
 ·rw[e];exact Abo _ _
 ·rw[e]
 ·rw[e]
  refine(hp.map _).trans (.of_eq ?_)
  refine AlB fun k=>?_
  rw[AkM]
  by_cases c:k<es.size
  ·rw[Al3 c]
   simp[List.getD,c]
  ·rw[Alc (by simp;omega),Alc (by simp;omega)]
   rfl
theorem Md.len{w:World}{a T:Addr}{es:Array (Int × Value)}{ep i:Nat}{t:SetTable}{h:Heap}{xl:List (Int × Value)}{f:Value}(m:Md w a es ep t h T xl i f):xl.length=es.size:=by
 rw[m.perm.length_eq,Array.length_toList]
def StI (w:World)(I a T:Addr)(o:Obj)(es:Array (Int × Value))(ep:Nat)(t:SetTable)(xl:List (Int × Value))(i:Nat)(h:Heap):Prop :=
 ∃ f oi,h.get? I=some oi∧oi.cls=.type "set_iterator" ∧ oi.data=.fields #[f,.int i 0,.ref a,.int es.size 0,.int ep 0]∧Md w a es ep t h T xl i f∧h.get? a=some o
section
variable {prog:Program}{w:World}{A:Around}{E:Value→Shared→Prop}{s:Shared}{a T:Addr}{o:Obj}{es:Array (Int × Value)}{ep:Nat}{t:SetTable}{xl:List (Int × Value)}
theorem StI.typeIs{I:Addr}{i:Nat}(x:StI w I a T o es ep t xl i s.heap):s.TypeIs (.ref I) "set_iterator" := let ⟨_,oi,ho,hc,_⟩:=x;⟨oi,ho,hc⟩
theorem typ(W:Wk w o es ep t)(ho:s.heap.get? a=some o):s.TypeIs (.ref a) "set" := ⟨o,ho,W.ex.1⟩
theorem Qv{Q:Bool→Shared→Prop}(h:Q (w.params.followText "set-order") s):wpAny (model prog w) A setsByText Q E s:=by
 unfold setsByText
 exact wpAny_bind (wpAny_askSetting (wpAny_pure h))
theorem Acs(W:Wk w o es ep t)(ho:s.heap.get? a=some o){Q:Bool→Shared→Prop}(h:Q (!w.params.followText "set-order" && (!t.plain && decide (es.size>1))) s):wpAny (model prog w) A (setDrawn a) Q E s:=by
 unfold setDrawn
 exact wpAny_bind (wpAny_setState_of ho W.d W.f (wpAny_bind (Qv (wpAny_pure h))))
theorem XS(W:Wk w o es ep t)(ho:s.heap.get? a=some o){Q:Nat→Shared→Prop}(h:Q ep s):wpAny (model prog w) A (setEpoch a) Q E s:=by
 unfold setEpoch
 exact wpAny_bind (wpAny_setState_of ho W.d W.f (wpAny_pure h))
theorem Wl(W:Wk w o es ep t)(ho:s.heap.get? a=some o){Q:Array (Int × Value)→Shared→Prop}(h:Q es s):wpAny (model prog w) A (setEntries a) Q E s:=by
 unfold setEntries
 exact wpAny_bind (wpAny_setState_of ho W.d W.f (wpAny_pure h))
theorem Abp{M:Model}{n:Nat}(hn:0<n){Q:Nat→Shared→Prop}(h:∀ i d,i<n→Q i { s with drawn:=d }):wpAny M A (choose .order n) Q E s:=fun Γ p _=>by
 show Sem.wp M Γ (.choose .order n .pure) _ _ p s
 rw[Sem.wp_choose]
 exact⟨by omega,h _ _ (Nat.mod_lt _ hn)⟩
theorem XX{α:Type}{M:Model}:∀(n:Nat) (l:List α) {s:Shared} {Q:List α→Shared→Prop},l.length≤n→(∀ l' d,l'.Perm l→Q l' { s with drawn:=d })→wpAny M A (drawOrder n l) Q E s
 | 0,l,s,Q,hl,h=>by
  have:l=[]:=List.length_eq_zero_iff.mp (by omega)
  subst this
  unfold drawOrder
  exact wpAny_pure (h [] s.drawn (.refl _))
 | n+1,[],s,Q,hl,h=>by
  unfold drawOrder
  exact wpAny_pure (h [] s.drawn (.refl _))
 | n+1,x::l,s,Q,hl,h=>by
  unfold drawOrder
  refine wpAny_bind (Abp (by simp) fun i d hi=>?_)
  rw[AkD hi]
  dsimp only
  refine wpAny_bind (XX n ((x::l).eraseIdx i) (by rw[Amg,if_pos hi];omega) fun l' d' hp=>wpAny_pure (h _ d' ?_))
  refine(hp.cons _).trans ?_
  rw[Amn]
  have e2:(x::l)=(x::l).take i++(x::l)[i]::(x::l).drop (i+1):=by rw[List.getElem_cons_drop,AlX]
  exact(List.perm_middle (a:=(x::l)[i]) (l₁:=(x::l).take i) (l₂:=(x::l).drop (i+1))).symm.trans (.of_eq e2.symm)
theorem AfI(W:Wk w o es ep t)(ho:s.heap.get? a=some o)(hz:es.size≤sizeLine){Q:Value→Shared→Prop}
  (hQ:∀(h':Heap) d I T xl,I≠a→T≠I→s.heap.objs.size≤I→(T=a∨s.heap.objs.size≤T)→(∀ b o,s.heap.get? b=some o→h'.get? b=some o)→StI w I a T o es ep t xl 0 h'→Q (.ref I) { s with heap:=h',drawn:=d }):wpAny (model prog w) A (pyIter (.ref a)) Q E s:=by
 have hT:=typ W ho
 have ha:a<s.heap.objs.size:=Heap.lt_size ho
 refine wpAny_pyIter_slot hT F.slot_set_iter (wpAny_call_entry F.slot_set_iter hT Ah5 ?_ (F.args_set_iter_1 _))
 unfold Builtin.«frozenset.__iter__»
 refine wpAny_bind (m:=Builtin.Frozenset.slot0 "__iter__" ⟨[.ref a],[]⟩) (wpAny_of_eq (a:=a) rfl ?_)
 refine wpAny_bind (wpAny_bind (Wl W ho (wpAny_pure ?_)))
 refine wpAny_bind (Acs W ho ?_)
 dsimp only
 by_cases c:(!w.params.followText "set-order" && (!t.plain && decide (es.size>1)))=true
 ·rw[if_pos c]
  refine wpAny_bind (XX es.size (List.range es.size) (by simp) fun pm d hp=>?_)
  have hl:pm.length=es.size:=by rw[hp.length_eq,AkV]
  unfold newTuple
  refine wpAny_bind (wpAny_newObj_type ?_ (by show(List.map _ pm).toArray.size≤_+1;rw[AkO,AkE,hl];have:=sizeLine_eq;omega))
  have k1:∀ b ob,s.heap.get? b=some ob→(s.heap.push { cls:=.type "tuple", data:=.seq (pm.map fun k:Nat=>rawInt (k:Int)).toArray }).get? b=some ob:=fun b ob e=>Heap.get?_push_of_some _ e
  refine wpAny_bind (XS W (k1 _ _ ho) (wpAny_bind (wpAny_newObj_type (wpAny_pure ⟨_,rfl, "set_iterator", _,⟨_,Heap.get?_push_size _ rfl,rfl⟩,SJ.lookup,?_⟩))))
  refine hQ _ d _ s.heap.objs.size (pm.map fun k=>es.toList.getD k (0,.none)) ?_ ?_ ?_ (.inr (AkF _)) (fun b ob e=>Heap.get?_push_of_some _ (k1 _ _ e)) ?_
  ·show(s.heap.push _).objs.size≠a
   rw[Heap.size_push];exact Alj (Alm ha)
  ·show s.heap.objs.size≠(s.heap.push _).objs.size
   rw[Heap.size_push];exact AkK (Alu _)
  ·show s.heap.objs.size≤(s.heap.push _).objs.size
   rw[Heap.size_push];exact Alw _
  ·exact⟨.ref s.heap.objs.size,_,Heap.get?_push_size _ rfl,rfl,rfl,.inr ⟨pm,rfl,Heap.get?_push_of_some _ (Heap.get?_push_size _ rfl),hp,rfl⟩,Heap.get?_push_of_some _ (k1 _ _ ho)⟩
 ·rw[if_neg c]
  refine wpAny_bind (wpAny_pure (wpAny_bind (XS W ho (wpAny_bind (wpAny_newObj_type (wpAny_pure ⟨_,rfl, "set_iterator", _,⟨_,Heap.get?_push_size _ rfl,rfl⟩,SJ.lookup,?_⟩))))))
  have k:∀ b ob,s.heap.get? b=some ob→(s.heap.push { cls:=.type "set_iterator", data:=.fields [rawInt 0,rawInt 0,.ref a,rawInt es.size,rawInt ep].toArray }).get? b=some ob:=fun b ob e=>Heap.get?_push_of_some _ e
  refine hQ _ s.drawn s.heap.objs.size a (if w.params.followText "set-order" = true then (pickOrder (w.params.setOrder a ep) es).toList else es.toList) (Alj ha) (AkK ha) (AkF _) (.inl rfl) k ?_
  refine⟨rawInt 0,_,Heap.get?_push_size _ rfl,rfl,rfl,.inl ⟨0,rfl,?_⟩,k _ _ ho⟩
  by_cases hb:w.params.followText "set-order" = true
  ·exact .inl ⟨hb,by rw[if_pos hb]⟩
  ·have hb':w.params.followText "set-order" = false:=by simpa using hb
   rw[hb'] at c
   have hpl:t.plain=true∨es.size≤1:=by
    by_cases z:t.plain=true
    ·exact .inl z
    ·have z':t.plain=false:=by simpa using z
     rw[z'] at c
     simp at c
     exact .inr c
   exact .inr ⟨hb',hpl,by rw[if_neg hb],Z1 (W.rise hb' hpl)⟩
theorem Aan(W:Wk w o es ep t)(ho:s.heap.get? a=some o){slot i:Nat}
  (hm:(w.params.followText "set-order" = true∧xl=(pickOrder (w.params.setOrder a ep) es).toList)∨(w.params.followText "set-order" = false∧(t.plain=true∨es.size≤1)∧xl=es.toList∧SetTable.below t.place slot=i)) {Q:Option (Value × Nat)→Shared→Prop}
  (h:∀ next,(i<es.size→(w.params.followText "set-order" = true∧xl=(pickOrder (w.params.setOrder a ep) es).toList)∨(w.params.followText "set-order" = false∧(t.plain=true∨es.size≤1)∧xl=es.toList∧SetTable.below t.place next=i+1)) →
   Q ((xl[i]?).map fun e=>(e.2,next)) s):wpAny (model prog w) A (setNext a slot i ep) Q E s:=by
 unfold setNext
 refine wpAny_bind (wpAny_setState_of ho W.d W.f (wpAny_bind (Qv ?_)))
 dsimp only
 rcases hm with ⟨hb,hx⟩ | ⟨hb,hp,hx,hs⟩
 ·rw[hb,if_pos rfl,if_neg (by simp)]
  unfold setWalk
  refine wpAny_bind (wpAny_bind (wpAny_setState_of ho W.d W.f (wpAny_bind (Qv ?_))))
  rw[hb,if_pos rfl]
  refine wpAny_bind (wpAny_askSetting (wpAny_pure (wpAny_pure ?_)))
  have:=h slot fun _=>.inl ⟨hb,hx⟩
  rw[hx,Array.getElem?_toList] at this
  exact this
 ·rw[hb,if_neg (by decide)]
  have hR:=W.rise hb hp
  have hf:t.place.size=es.size:=by
   have:=W.f
   unfold SetTable.fits at this
   simp at this
   exact this.1
  have nd:(!t.plain && decide (es.size>1))=false:=by
   rcases hp with e | e
   ·rw[e];simp
   ·rw[decide_eq_false (by omega)];simp
  have nl:(!t.led && !es.isEmpty)=false:=by
   rcases W.ok with e | e | ⟨e,_⟩
   ·rw[hb] at e;cases e
   ·simp[Array.isEmpty,e]
   ·rw[e];simp
  split
  ·rename_i hd
   have hd':(!t.plain && decide (es.size>1))=true:=hd
   rw[nd] at hd'
   cases hd'
  ·refine wpAny_bind ?_
   show wpAny _ _ (if (!t.led && !es.isEmpty)=true then unsupported "set:maker-not-led" else pure ()) _ _ _
   rw[nl,if_neg (by decide)]
   refine wpAny_pure (wpAny_pure ?_)
   rw[hs]
   by_cases hi:i<es.size
   ·have:=h (t.place[i]'(by omega)+1) fun _=>.inr ⟨hb,hp,hx,by
     have:=Z2 hR (i:=i) (by omega)
     rwa [show t.place.getD i 0=t.place[i]'(by omega) by simp[Array.getD,show i<t.place.size by omega]] at this⟩
    rw[hx,Array.getElem?_toList,Array.getElem?_eq_getElem hi] at this
    rw[Array.getElem?_eq_getElem hi,Array.getElem?_eq_getElem (show i<t.place.size by omega)]
    exact this
   ·have:=h 0 fun z=>absurd z hi
    rw[hx,Array.getElem?_toList,Array.getElem?_eq_none (by omega)] at this
    rw[Array.getElem?_eq_none (by omega)]
    exact this
theorem AdJ(W:Wk w o es ep t){I:Addr}{i:Nat}{x:Int × Value}{Q:Option Value→Shared→Prop}(hne:a≠I)(hnT:T≠I)(st:StI w I a T o es ep t xl i s.heap)(hx:xl[i]?=some x)
  (hQ:∀ h',StI w I a T o es ep t xl (i+1) h'→(∀ b o,b≠I→s.heap.get? b=some o→h'.get? b=some o)→Q (some x.2) { s with heap:=h' }):wpAny (model prog w) A (pyNext (.ref I)) Q E s:=by
 have hT:=st.typeIs
 obtain⟨f,oi,hoi,hci,hdi,hm,ho⟩:=st
 have hi:i<es.size:=by rw[← hm.len];exact(List.getElem?_eq_some_iff.mp hx).1
 unfold pyNext
 refine wpAny_bind (wpAny_attempt (wpAny_callSpecial?_slot (name:=Str.ofString "__next__") hT SJ (wpAny_call_entry SJ hT AeF ?_ (AeG _))))
 unfold Builtin.«set_iterator.__next__»
 refine wpAny_bind (m:=slotArgs "__next__" 0 ⟨[.ref I],[]⟩) (wpAny_of_eq (a:=(Value.ref I,[])) rfl ?_)
 refine wpAny_bind (wpAny_fieldsOf hoi hdi ?_)
 dsimp only
 refine wpAny_bind (Wl W ho ?_)
 rw[if_neg (by simp)]
 rcases hm with ⟨slot,rfl,hm⟩ | ⟨pm,rfl,hT2,hp,hxl⟩
 ·simp only [AkJ]
  refine wpAny_bind (Aan W ho hm fun next hn=>?_)
  rw[hx]
  dsimp only [Option.map]
  refine wpAny_bind (wpAny_setField hoi hdi (by simp) ?_)
  have ho1:=Heap.get?_update_self (Obj.mapFields (·.setIfInBounds 0 (rawInt (next:Int)))) hoi (Obj.isFreed_of_fields (Obj.data_mapFields hdi _))
  have hd1:=Obj.data_mapFields hdi (·.setIfInBounds 0 (rawInt (next:Int)))
  refine wpAny_bind (wpAny_setField ho1 hd1 (by simp) (wpAny_pure ⟨_,rfl,wpAny_pure (hQ _ ⟨.int next 0,_,Heap.get?_update_self _ ho1 (Obj.isFreed_of_fields (Obj.data_mapFields hd1 _)),?_,?_,.inl ⟨next,rfl,hn hi⟩,?_⟩ fun b o' hb e=>?_)⟩))
  ·exact(Obj.cls_mapFields ..).trans ((Obj.cls_mapFields ..).trans hci)
  ·rw[Obj.data_mapFields hd1];simp[rawInt]
  ·exact(Heap.get?_update_other _ _ (Ne.symm hne)).trans ((Heap.get?_update_other _ _ (Ne.symm hne)).trans ho)
  ·exact(Heap.get?_update_other _ _ (Ne.symm hb)).trans ((Heap.get?_update_other _ _ (Ne.symm hb)).trans e)
 ·have hpi:i<pm.length:=by rw[hp.length_eq,AkV];exact hi
  have hk:pm[i]<es.size:=by
   have:=hp.mem_iff.mp (AkN hpi)
   simpa using this
  have e1:es[pm[i]]?=some x:=by
   rw[hxl,AkM,AkD hpi] at hx
   have:=Option.some.inj hx
   rw[Array.getElem?_eq_getElem hk]
   simp[List.getD,hk] at this
   rw[this]
  simp only [AkJ]
  refine wpAny_bind (wpAny_seqItems hT2 rfl ?_)
  dsimp only
  rw[show((pm.map fun k:Nat=>rawInt (k:Int)).toArray)[i]?=some (.int (pm[i]:Int) 0) by simp[hpi,rawInt]]
  dsimp only
  unfold setNextDrawn
  refine wpAny_bind (wpAny_bind (wpAny_setState_of ho W.d W.f ?_))
  dsimp only
  rw[if_neg (by simp)]
  simp only [AkJ]
  rw[e1]
  refine wpAny_pure (wpAny_bind (wpAny_setField hoi hdi (by simp) (wpAny_pure ⟨_,rfl,wpAny_pure (hQ _ ⟨.ref T,_,Heap.get?_update_self _ hoi (Obj.isFreed_of_fields (Obj.data_mapFields hdi _)),?_,?_,.inr ⟨pm,rfl,?_,hp,hxl⟩,?_⟩ fun b o' hb e=>?_)⟩)))
  ·exact(Obj.cls_mapFields ..).trans hci
  ·rw[Obj.data_mapFields hdi];simp[rawInt]
  ·exact(Heap.get?_update_other _ _ (Ne.symm hnT)).trans hT2
  ·exact(Heap.get?_update_other _ _ (Ne.symm hne)).trans ho
  ·exact(Heap.get?_update_other _ _ (Ne.symm hb)).trans e
theorem stops(hh:A.handled=none){Q:Option Value→Shared→Prop}(hQ:∀ h',(∀ b o,s.heap.get? b=some o→h'.get? b=some o)→Q none { s with heap:=h' }) :
  wpAny (model prog w) A.in1 (do raiseNew (← newExc (.type "StopIteration") []):Sem Fin) (fun fin s'=>∃ v,fin=Fin.done (Flow.ret v)∧wpAny (model prog w) A (pure (some v)) Q E s')
   (fun e s'=>wpAny (model prog w) A (do if ← isInstance e (.type "StopIteration") then pure none else throw e) Q E s') s:=by
 refine wpAny_bind ?_
 simp only [newExc,newTuple]
 refine wpAny_bind (wpAny_newObj_type (wpAny_bind (m:=firstArgMember _ _) (wpAny_of_eq (a:=Value.none) (by first | rfl | (simp only [firstArgMember];rfl)) (wpAny_newObj_type ?_ (by size_fits)))) (by size_fits))
 simp only [raiseNew]
 refine wpAny_bind (wpAny_handled ?_)
 rw[show A.in1.handled=none from hh]
 refine wpAny_bind (wpAny_pure (wpAny_throw ?_))
 refine wpAny_bind (wpAny_isInstance (T := "StopIteration") (b:=true) ⟨_,Heap.get?_push_size _ rfl,rfl⟩ isSubtype_stop (wpAny_pure (hQ _ fun b o' e=>?_)))
 exact Heap.get?_push_of_some _ (Heap.get?_push_of_some _ e)
theorem AfJ(W:Wk w o es ep t){I:Addr}{Q:Option Value→Shared→Prop}(hh:A.handled=none)(st:StI w I a T o es ep t xl es.size s.heap)
  (hQ:∀ h',(∀ b o,b≠I→s.heap.get? b=some o→h'.get? b=some o)→Q none { s with heap:=h' }):wpAny (model prog w) A (pyNext (.ref I)) Q E s:=by
 have hT:=st.typeIs
 obtain⟨f,oi,hoi,hci,hdi,hm,ho⟩:=st
 have hx:xl[es.size]?=none:=Alc (by rw[hm.len];exact AkF _)
 unfold pyNext
 refine wpAny_bind (wpAny_attempt (wpAny_callSpecial?_slot (name:=Str.ofString "__next__") hT SJ (wpAny_call_entry SJ hT AeF ?_ (AeG _))))
 unfold Builtin.«set_iterator.__next__»
 refine wpAny_bind (m:=slotArgs "__next__" 0 ⟨[.ref I],[]⟩) (wpAny_of_eq (a:=(Value.ref I,[])) rfl ?_)
 refine wpAny_bind (wpAny_fieldsOf hoi hdi ?_)
 dsimp only
 refine wpAny_bind (Wl W ho ?_)
 rw[if_neg (by simp)]
 rcases hm with ⟨slot,rfl,hm⟩ | ⟨pm,rfl,hT2,hp,hxl⟩
 ·simp only [AkJ]
  refine wpAny_bind (Aan W ho hm fun next hn=>?_)
  rw[hx]
  dsimp only [Option.map]
  refine wpAny_bind (wpAny_setField hoi hdi (by simp) (stops hh fun h' k=>hQ h' fun b o' hb e=>k _ _ ?_))
  exact(Heap.get?_update_other _ _ (Ne.symm hb)).trans e
 ·simp only [AkJ]
  refine wpAny_bind (wpAny_seqItems hT2 rfl ?_)
  dsimp only
  rw[show((pm.map fun k:Nat=>rawInt (k:Int)).toArray)[es.size]?=none by
   rw[List.getElem?_toArray]
   exact Alc (by rw[AkE,hp.length_eq,AkV];exact AkF _)]
  dsimp only
  refine wpAny_bind (wpAny_setField hoi hdi (by simp) ?_)
  have ho1:=Heap.get?_update_self (Obj.mapFields (·.setIfInBounds 0 (rawInt 0))) hoi (Obj.isFreed_of_fields (Obj.data_mapFields hdi _))
  have hd1:=Obj.data_mapFields hdi (·.setIfInBounds 0 (rawInt 0))
  refine wpAny_bind (wpAny_setField ho1 hd1 (by simp) (stops hh fun h' k=>hQ h' fun b o' hb e=>k _ _ ?_))
  exact(Heap.get?_update_other _ _ (Ne.symm hb)).trans ((Heap.get?_update_other _ _ (Ne.symm hb)).trans e)
theorem AdK{I:Addr}{i:Nat}{Q:Value→Shared→Prop}(st:StI w I a T o es ep t xl i s.heap)(h:Q (.ref I) s):wpAny (model prog w) A (pyIter (.ref I)) Q E s:=by
 have hT:=st.typeIs
 refine wpAny_pyIter_slot hT AeE (wpAny_call_entry AeE hT Ah4 ?_ (Ah6 _))
 show wpAny _ _ (ret (.ref I)) _ _ s
 exact wpAny_pure ⟨_,rfl, "set_iterator", _,hT,SJ.lookup,h⟩
theorem walks(W:Wk w o es ep t)(hh:A.handled=none){I:Addr}(hne:a≠I)(hnT:T≠I):Walks prog w A I [I,a,T] [I] es.size (fun i v=>∃ x,xl[i]?=some x∧v=x.2) (StI w I a T o es ep t xl) where
 sub:=fun b hb=>by rw[List.mem_singleton.mp hb];exact AkS
 frame:=fun i h h' ⟨f,oi,h1,h2,h3,hm,h4⟩ hk=>⟨f,oi,hk I (by simp) _ h1,h2,h3,by
  rcases hm with m | ⟨pm,m1,m2,m3⟩
  ·exact .inl m
  ·exact .inr ⟨pm,m1,hk T (by simp) _ m2,m3⟩,hk a (by simp) _ h4⟩
 item:=fun i s Q E hi st hQ=>by
  obtain⟨x,hx⟩:∃ x,xl[i]?=some x:=⟨_,AkD (by
   obtain⟨_,_,_,_,_,hm,_⟩:=id st
   rw[hm.len];exact hi)⟩
  exact AdJ W hne hnT st hx fun h' st' hk=>hQ _ h' s.toks ⟨x,hx,rfl⟩ st' fun b o hb e=>hk b o (fun z=>hb (by simp[z])) e
 done:=fun s Q E st hQ=>AfJ W hh st fun h' hk=>hQ h' s.toks fun b o hb e=>hk b o (fun z=>hb (by simp[z])) e
 self:=fun i s Q E st hQ=>AdK st hQ
end
end SetW
open PySem PySem.Spec PyProof.Rows
namespace SetW
section
variable {prog:Program}{w:World}{A:Around}{E:Value→Shared→Prop}{s:Shared}{a:Addr}{o:Obj}{es:Array (Int × Value)}{ep:Nat}{t:SetTable}
theorem AfK:isSubtype (.type "set") (.type "set")=pure true:=by rw[isSubtype_type];kernel_rfl
theorem AdL(W:Wk w o es ep t)(ho:s.heap.get? a=some o)(hh:A.handled=none)(hn:es.size≤sizeLine){Q:List Value→Shared→Prop}
  (hQ:∀(xl:List (Int × Value)) s',xl.Perm es.toList→(∀ b o,s.heap.get? b=some o→s'.heap.get? b=some o)→s'.gens=s.gens→s'.os=s.os→s.heap.objs.size≤s'.heap.objs.size→Q (xl.map (·.2)) s'):wpAny (model prog w) A (collect (.ref a)) Q E s:=by
 have ha:a<s.heap.objs.size:=Heap.lt_size ho
 unfold collect
 refine wpAny_bind (wpAny_runValue (codeAny_builtin F.entry_proto_collect ?_))
 rw[Around.under_plainId F.plain_proto_collect _]
 show wpAny _ A.in1 (newList [] >>= fun l=>again (.builtin "list.__iadd__" ⟨[l,.ref a],[]⟩)) _ _ s
 refine wpAny_bind (wpAny_newObj_type (wpAny_pure ⟨plainId_quiet F.plain_list_iadd _,codeAny_builtin F.entry_list_iadd ?_⟩))
 rw[Around.under_plainId F.plain_list_iadd _]
 obtain⟨h1,eh1⟩:∃ h1,h1=s.heap.push { cls:=.type "list", data:=.seq ([]:List Value).toArray }:=⟨_,rfl⟩
 have hS1:h1.get? s.heap.objs.size=some { cls:=.type "list", data:=.seq ([]:List Value).toArray }:=by rw[eh1];exact Heap.get?_push_size _ rfl
 have k1:∀ b o,s.heap.get? b=some o→h1.get? b=some o:=fun b o e=>by rw[eh1];exact Heap.get?_push_of_some _ e
 have z1:h1.objs.size=s.heap.objs.size+1:=by rw[eh1,Heap.size_push]
 show wpAny _ A.in1 (Builtin.List.listExtendWith (.ref s.heap.objs.size) (.ref a) (.ref s.heap.objs.size)) _ _ { s with heap:=s.heap.push { cls:=.type "list", data:=.seq ([]:List Value).toArray } }
 rw[← eh1]
 unfold Builtin.List.listExtendWith
 have ho1:=k1 _ _ ho
 refine wpAny_bind (wpAny_typeOf (typ (s:={ s with heap:=h1 }) W ho1) ?_)
 have e1:Builtin.List.listSameRef (.ref s.heap.objs.size) (.ref a)=false:=by
  have:s.heap.objs.size≠a:=Alj ha
  simp[Builtin.List.listSameRef,this]
 rw[if_neg (by rw[e1];decide)]
 refine wpAny_bind (AfI (s:={ s with heap:=h1 }) W ho1 hn ?_)
 intro h2 d I T xl nIa nTI sI sT k2 st2
 have hxp:xl.Perm es.toList:=by
  obtain⟨_,_,_,_,_,hm,_⟩:=st2
  exact hm.perm
 have sI':s.heap.objs.size<I:=AkT (by rw[z1];exact Alu _) sI
 show wpAny _ A.in1 _ _ _ { s with heap:=h2,drawn:=d }
 refine wpAny_bind (wpAny_holding ?_)
 unfold Builtin.List.listLengthHint
 have ho2:=k2 _ _ ho1
 refine wpAny_bind (wpAny_specialOf (typ (s:={ s with heap:=h2,drawn:=d }) W ho2) AfH ?_)
 generalize hid:("set.__len__" : String)=ln0
 wp_delta
 rw[show splitId ln0=some ("set", "__len__") by subst hid;decide +kernel]
 subst hid
 refine wpAny_bind (wpAny_isInstance (b:=true) (typ (s:={ s with heap:=h2,drawn:=d }) W ho2) AfK ?_)
 rw[if_neg (by decide)]
 split
 case isFalse hn1=>exact absurd (by decide +kernel) hn1
 refine wpAny_bind (wpAny_typeOf (typ (s:={ s with heap:=h2,drawn:=d }) W ho2) (wpAny_pure ?_))
 rw[if_pos (by decide +kernel)]
 refine wpAny_bind (wpAny_rule (wpAny_bind ?_))
 have hS2:=k2 _ _ hS1
 show wpAny _ A.in1 (updateSeq s.heap.objs.size (·.push .none) >>= fun _=>updateSeq s.heap.objs.size (·.pop)) _ _ _
 refine wpAny_bind (wpAny_updateSeq hS2 rfl ?_)
 have hS3:=Heap.get?_update_self (Obj.mapSeq (·.push Value.none)) hS2 rfl
 refine wpAny_updateSeq hS3 rfl ?_
 have hS4:=Heap.get?_update_self (Obj.mapSeq (·.pop)) hS3 rfl
 obtain⟨h4,eh4⟩:∃ h4,h4=(h2.update s.heap.objs.size (Obj.mapSeq (·.push Value.none))).update s.heap.objs.size (Obj.mapSeq (·.pop)):=⟨_,rfl⟩
 have k4:∀ b o,b≠s.heap.objs.size→h2.get? b=some o→h4.get? b=some o:=fun b o hb e=>by rw[eh4];exact(Heap.get?_update_other _ _ (Ne.symm hb)).trans ((Heap.get?_update_other _ _ (Ne.symm hb)).trans e)
 have nT:T≠s.heap.objs.size:=by
  rcases sT with e | e
  ·rw[e];exact AkK ha
  ·exact Alj (AkT (by rw[z1];exact Alu _) e)
 have WK:=walks (prog:=prog) (T:=T) (xl:=xl) (A:=A.in1) W hh nIa.symm nTI
 have st4:StI w I a T o es ep t xl 0 h4:=WK.frame 0 h2 h4 st2 fun b hb ob e=>k4 b ob (by
  simp only [Aln,Alo,or_false] at hb
  rcases hb with e | e | e
  ·rw[e];exact Alj sI'
  ·rw[e];exact AkK ha
  ·rw[e];exact nT) e
 show wpAny _ A.in1 (again (.builtin "list.extend.loop" ⟨[.ref s.heap.objs.size,.ref I,.ref s.heap.objs.size],[]⟩)) _ _ { s with heap:=(h2.update s.heap.objs.size (Obj.mapSeq (·.push Value.none))).update s.heap.objs.size (Obj.mapSeq (·.pop)),drawn:=d }
 rw[← eh4]
 rw[← eh4] at hS4
 refine wpAny_pure ⟨plainId_quiet F.plain_extend_loop _,codeAny_extend_loopS (WK.toS) hn s.heap.objs.size ?_ _ es.size 0 _ _ _ rfl (AkP _) st4 hS4 (ItemsOf.nil _) fun s' acc' c' hm hS' hacc=>?_⟩
 ·simp only [Aln,Alo,or_false,not_or]
  exact⟨AkK sI',Alj ha,nT.symm⟩
 show wpAny _ A (load s.heap.objs.size >>= _) _ _ s'
 refine wpAny_bind (wpAny_load hS' (wpAny_pure ?_))
 have Acu:xl.length=es.size:=by rw[hxp.length_eq,Array.length_toList]
 have ea:acc'.toList=xl.map (·.2):=by
  refine AlB fun i=>?_
  rw[AkM,Array.getElem?_toList]
  by_cases hi:i<es.size
  ·have hi2:i<acc'.size:=by rw[hacc.1];exact hi
   obtain⟨x,g1,g2⟩:=hacc.2 i acc'[i] (Array.getElem?_eq_getElem hi2)
   rw[g1,Array.getElem?_eq_getElem hi2,g2]
   rfl
  ·rw[Array.getElem?_eq_none (by rw[hacc.1];omega),Alc (by rw[Acu];omega)]
   rfl
 rw[ea]
 refine hQ xl s' hxp (fun b ob e=>hm.heap b ob ?_ (k4 _ _ (AkK (Heap.lt_size e)) (k2 _ _ (k1 _ _ e)))) hm.gens hm.os (Al7 (Heap.lt_size hS'))
 have:=Heap.lt_size e
 simp only [Aln,Alo,or_false,not_or]
 exact⟨AkK this,AkK (AlW this sI')⟩
theorem Z3(W:Wk w o es ep t)(ho:s.heap.get? a=some o)(hh:A.handled=none)(h64:es.size<64){key:Int × Value→Int}(hI:∀ e∈es.toList,∃ tk,e.2=.int (key e) tk){Q:Value→Shared→Prop}
  (hQ:∀(h':Heap) d (tk l e:Nat) (out:Array Value) (ns':List Int),(∀ b o,s.heap.get? b=some o→h'.get? b=some o)→s.heap.objs.size≤l→h'.get? l=some (seqObj "list" out e)→IntsAre out.toList ns'→ns'.Perm (es.toList.map key)→ns'.Pairwise (·≤·) →
   Q (.ref l) { s with heap:=h',drawn:=d,toks:=tk }):wpAny (model prog w) A (call (.builtin "sorted") [.ref a]) Q E s:=by
 refine Calls.call_function_entry kind_sorted plain_sorted entry_sorted (args_sorted1 _) ?_
 unfold Builtin.«sorted»
 refine wpAny_bind (m:=checkCount "sorted" 1 1 _) (wpAny_pure (wpAny_bind (AdL (A:=A.in1) W ho hh (by rw[sizeLine_eq];omega) fun xl s' hxp k hg hos hz=>?_)))
 obtain⟨h',g',d',tk',os'⟩:=s'
 dsimp only at k hg hos hz
 subst hg hos
 have Acu:xl.length=es.size:=by rw[hxp.length_eq,Array.length_toList]
 have hI2:∀ l:List (Int × Value),(∀ e∈l,∃ tk,e.2=.int (key e) tk)→IntsAre (l.map (·.2)) (l.map key):=by
  intro l
  induction l with
  | nil=>intro _;exact .nil
  | cons e l ih =>
   intro h
   obtain⟨tk,hk⟩:=h e AkS
   rw[AkQ,AkQ,hk]
   exact .cons _ _ (ih fun x hx=>h x (AkX _ hx))
 have hIx:=hI2 xl fun e he=>hI e (hxp.mem_iff.mp he)
 have hoL:(h'.push (seqObj "list" (xl.map (·.2)).toArray 0)).get? h'.objs.size=some (seqObj "list" (xl.map (·.2)).toArray 0):=Heap.get?_push_size _ rfl
 refine wpAny_bind (wpAny_newList (hsz:=by rw[AkE,Acu,sizeLine_eq];omega) ?_)
 show wpAny _ _ _ _ _ { s with heap:=h'.push (seqObj "list" (xl.map (·.2)).toArray 0),drawn:=d',toks:=tk' }
 refine wpAny_bind (wpAny_holding (wpAny_call_entry slot_list_sort ⟨_,hoL,rfl⟩ entry_list_sort (list_sort_tree hoL hIx (by rw[AkE,Acu];exact h64) fun out ns' a1 a2 a3=>⟨_,rfl,wpAny_pure ⟨_,rfl,?_⟩⟩) (args_list_sort _)))
 obtain⟨e,he⟩:=sortedHeap_at (out:=out) hoL
 refine hQ _ d' tk' h'.objs.size e out ns' (fun b ob eb=>?_) ?_ he a1 (a2.trans (hxp.map _)) a3
 ·have lb:=Heap.lt_size (k _ _ eb)
  rw[sortedHeap_old (AkK lb) (by rw[size_push'];exact Alm lb)]
  exact Heap.get?_push_of_some _ (k _ _ eb)
 ·exact hz
end
end SetW
open PySem PySem.Spec PyProof.Rows
namespace SetW
theorem SQ{xs:Array Nat}:Qu xs↔xs.toList.Pairwise (·<·):=by
 rw[Amh]
 constructor
 ·intro h i j hi hj hij
  have:=h i j hij (by simpa using hj)
  have hi':i<xs.size:=by simpa using hi
  have hj':j<xs.size:=by simpa using hj
  simpa [Array.getD,hi',hj'] using this
 ·intro h i k hik hk
  have:=h i k (by simp;omega) (by simpa using hk) hik
  have hi':i<xs.size:=by omega
  simpa [Array.getD,hi',hk] using this
theorem Acv{xs:Array Nat}{j:Nat}(hR:Qu xs)(hn:xs[SetTable.below xs j]?≠some j):Qu (SetTable.insertAt xs (SetTable.below xs j) j):=by
 obtain⟨h1,h2,h3⟩:=SN hR j
 have hP:=SQ.mp hR
 rw[SQ]
 generalize SetTable.below xs j=p at h1 h2 h3 hn
 have e:(SetTable.insertAt xs p j).toList=xs.toList.take p++j::xs.toList.drop p:=by
  unfold SetTable.insertAt
  simp[Array.toList_extract,Aly]
 rw[e]
 have g:∀ i,i<xs.size→xs.getD i 0=xs.toList.getD i 0:=fun i hi=>by simp[Array.getD,List.getD,hi]
 have lo:∀ y∈xs.toList.take p,y<j:=fun y hy=>by
  obtain⟨i,hi,rfl⟩:=List.mem_take_iff_getElem.mp hy
  have hi':i<p∧i<xs.size:=by simpa using (Nat.lt_min.mp hi)
  have:=h2 i hi'.1
  simpa [Array.getD,hi'.2] using this
 have hi:∀ y∈xs.toList.drop p,j<y:=fun y hy=>by
  obtain⟨i,hi,rfl⟩:=List.mem_drop_iff_getElem.mp hy
  have hi':i+p<xs.size:=by simpa using hi
  have a:=h3 (i+p) (by omega) hi'
  have b:xs.getD (i+p) 0=xs[i+p]:=by simp[Array.getD,hi']
  rw[b] at a
  have ne:xs[i+p]≠j:=fun z=>by
   by_cases c:i=0
   ·subst c
    apply hn
    rw[Array.getElem?_eq_getElem (by omega)]
    simp at z
    rw[z]
   ·have c1:=h3 p (AkF _) (by omega)
    have c2:=hR p (i+p) (by omega) hi'
    rw[b,z] at c2
    omega
  have:(xs.toList)[i+p]'(by simpa using hi')=xs[i+p]:=by simp
  simp only [Nat.add_comm] at *
  omega
 rw[List.pairwise_append]
 refine⟨hP.sublist (List.take_sublist _ _),?_,fun a ha b hb=>?_⟩
 ·rw[List.pairwise_cons]
  exact⟨hi,hP.sublist (List.drop_sublist _ _)⟩
 ·rcases List.mem_cons.mp hb with e | hb
  ·rw[e];exact lo a ha
  ·exact AlW (lo a ha) (hi b hb)
theorem Ny(t:SetTable)(g:Nat→Int)(h:Int):∀(fuel:Nat) (p:SetTable.Probe) (j:Nat) (dm:Option Nat),(∀ d,p.dummy=some d→t.slot d=.dummy)→SetTable.probe.go t g h fuel p=some (.empty j dm)→t.slot j=.empty∧∀ d,dm=some d→t.slot d=.dummy
 | 0,p,j,dm,hd,e=>by simp[SetTable.probe.go] at e
 | fuel+1,p,j,dm,hd,e=>by
  have adv:∀ q:SetTable.Probe,(t.advance q).dummy=q.dummy:=fun q=>by
   unfold SetTable.advance
   split <;> rfl
  unfold SetTable.probe.go at e
  split at e
  ·rename_i hs
   injection e with e
   injection e with e1 e2
   subst e1 e2
   exact⟨hs,hd⟩
  ·rename_i hs
   refine Ny t g h fuel _ j dm (fun d hd'=>?_) e
   rw[adv] at hd'
   have:p.j=d:=by simpa using hd'
   rw[← this];exact hs
  ·split at e
   ·cases e
   ·exact Ny t g h fuel _ j dm (fun d hd'=>hd d (by rwa [adv] at hd')) e
theorem Abq{t:SetTable}{h:Int}{j:Nat}{b:Bool}(e:t.freeSlot h=some (j,b)):t.place[SetTable.below t.place j]?≠some j:=by
 have nl:t.slot j=.empty∨t.slot j=.dummy:=by
  unfold SetTable.freeSlot at e
  split at e
  ·rename_i j' dm hp
   unfold SetTable.probe at hp
   obtain⟨a,b'⟩:=Ny t _ h _ _ j' dm (fun d hd=>by simp[SetTable.probeStart] at hd) hp
   injection e with e
   injection e with e1 e2
   cases dm with
   | none=>exact .inl (by rw[← e1];exact a)
   | some d=>exact .inr (by rw[← e1];exact b' d rfl)
  ·cases e
 intro z
 unfold SetTable.slot at nl
 dsimp only at nl
 rw[if_pos (by rw[z];simp)] at nl
 rcases nl with nl | nl <;> cases nl
def TOk (t t':SetTable):Prop:=t'.led=t.led∧((t.plain=true→Qu t.place)→t'.plain=true→Qu t'.place)
theorem SX(t:SetTable)(n:Nat):TOk t (t.standIn n):=⟨rfl,fun _ h=>by cases h⟩
theorem Ah7{t t':SetTable}(h:TOk t t')(n:Nat):TOk t (t'.orStandIn n):=by
 unfold SetTable.orStandIn
 by_cases c:t'.fits n=true
 ·rw[if_pos c];exact h
 ·rw[if_neg c];exact⟨h.1,fun _ z=>by cases z⟩
theorem AfL(t:SetTable)(es:Array (Int × Value))(h:Int)(x:Value):TOk t (layNew t es h x).2.1:=by
 unfold layNew
 split
 ·rename_i slot wd e
  exact Ah7 (t:=t) (t':=(t.put slot).1) ⟨rfl,fun hr hp=>Acv (hr hp) (Abq e)⟩ _
 ·exact SX _ _
theorem AdM{mask finger moves:Nat}{led plain:Bool}{hs:Array Int}{t':SetTable}{order:Array Nat}(e:SetTable.laid mask finger moves led plain hs=some (t',order)):t'.led=led∧t'.plain=plain∧Qu t'.place:=by
 unfold SetTable.laid at e
 cases ho:SetTable.layClean mask hs with
 | none=>rw[ho] at e;cases e
 | some owner =>
  rw[ho] at e
  have e':some (_,_)=some (t',order):=e
  injection e' with e'
  injection e' with e1 e2
  subst e1
  refine⟨rfl,rfl,?_⟩
  rw[SQ]
  dsimp only
  refine List.Pairwise.map (R:=fun a b:Nat × Nat=>a.1<b.1) _ (fun a b h=>h) ?_
  refine List.Pairwise.filterMap (R:=(·<·)) _ (fun a a' haa b hb b' hb'=>?_) AlL
  cases h1:owner.getD a none with
  | none=>rw[h1] at hb;cases hb
  | some u =>
   cases h2:owner.getD a' none with
   | none=>rw[h2] at hb';cases hb'
   | some u' =>
    rw[h1] at hb;rw[h2] at hb'
    cases hb;cases hb'
    exact haa
theorem Acw(t:SetTable)(es:Array (Int × Value))(n:Nat):TOk t (relayAll t es n).2.1:=by
 unfold relayAll
 split
 ·rename_i t' order e
  unfold SetTable.relaid at e
  obtain⟨a,b,c⟩:=AdM e
  dsimp only
  split
  ·exact⟨a,fun _ _=>c⟩
  ·exact SX _ _
 ·exact SX _ _
section
variable {prog:Program}{w:World}{A:Around}{E:Value→Shared→Prop}{s:Shared}{a:Addr}
def ky (e:Int × Value):Int:=match e.2 with | .int i _=>i | _=>0
structure IS (w:World) (o:Obj) (es:Array (Int × Value)) (ep:Nat) (t:SetTable):Prop where
 ex:o.ExactSet
 d:o.data=.set es ep t
 f:t.fits es.size=true
 ok:w.params.followText "set-order" = true∨(t.led=true∧(t.plain=true→Qu t.place))
 el:∀ e∈es.toList,(∃ k tk,e=(hashInt k,.int k tk))
 nd:(es.toList.map ky).Nodup
theorem IS.elems{o:Obj}{es:Array (Int × Value)}{ep:Nat}{t:SetTable}(h:IS w o es ep t):ElemsOf (intKind prog w) es.toList:=fun e he=>by
 obtain⟨k,tk,rfl⟩:=h.el e he
 exact⟨⟨k,intKind_is _ _ _ _,rfl⟩,rfl⟩
theorem IS.wk{o:Obj}{es:Array (Int × Value)}{ep:Nat}{t:SetTable}(h:IS w o es ep t):Wk w o es ep t:=⟨h.ex,h.d,h.f,h.ok.elim .inl fun z=>.inr (.inr z)⟩
theorem AeH{gv:Bool}(g:Sem Unit)(hg:g=match gv with | true=>rule "set.scan.the-table-gave-way" | false=>pure ()) {Q:Unit→Shared→Prop} (h:Q () s):wpAny (model prog w) A g Q E s:=by
 subst hg
 cases gv
 ·exact wpAny_pure h
 ·exact wpAny_rule h
theorem Aao{o:Obj}{es es':Array (Int × Value)}{ep:Nat}{t t':SetTable}(ho:s.heap.get? a=some o)(hd:o.data=.set es ep t):(s.heap.update a (Obj.putSet es' t')).get? a=some { o with data:=.set es' (ep+1) t' }:=by
 have:=Heap.get?_update_self (Obj.putSet es' t') ho (by rw[putSet_of es' t' hd];rfl)
 rw[putSet_of es' t' hd] at this
 exact this
theorem IS.to{o:Obj}{es es1:Array (Int × Value)}{ep:Nat}{t t1:SetTable}{v:Int}{tk:Tok}(h:IS w o es ep t)(hv:v∉es.toList.map ky)(hp:es1.toList.Perm (es.push (hashInt v,.int v tk)).toList)(hf:t1.fits es1.size=true)(hto:TOk t t1)(ep':Nat) :
  IS w { o with data:=.set es1 ep' t1 } es1 ep' t1:=by
 rw[Array.toList_push] at hp
 refine⟨h.ex,rfl,hf,h.ok.imp id fun z=>⟨by rw[hto.1];exact z.1,hto.2 z.2⟩,fun e he=>?_,?_⟩
 ·rcases List.mem_append.mp (hp.mem_iff.mp he) with he | he
  ·exact h.el e he
  ·rw[List.mem_singleton.mp he];exact⟨v,tk,rfl⟩
 ·refine(hp.map ky).nodup_iff.mpr ?_
  rw[AkL,List.nodup_append]
  refine⟨h.nd,by simp,fun x hx y hy e=>?_⟩
  have:y=v:=by simpa [ky] using hy
  rw[e,this] at hx
  exact hv hx
theorem AfM{o:Obj}{es:Array (Int × Value)}{ep:Nat}{t:SetTable}(h:IS w o es ep t)(ho:s.heap.get? a=some o){v:Int}{tk:Tok}(hb:es.size+1<scanBound){Q:Bool→Shared→Prop}
  (hQ:∀ h' o' es' ep' t' b,Heap.SameBut a s.heap h'→h'.get? a=some o'→IS w o' es' ep' t'→(∀ z,z∈es'.toList.map ky↔z∈es.toList.map ky∨z=v)→es'.size≤es.size+1→Q b { s with heap:=h' }) :
  wpAny (model prog w) A (setAddHashed a (.int v tk) (hashInt v)) Q E s:=by
 have hel:ElemsOf (intKind prog w) es.toList:=h.elems
 have hkey:(intKind prog w).is v (.int v tk)=true:=intKind_is _ _ _ _
 unfold setAddHashed setAddHashedIn
 refine wpAny_holding (wpAny_bind (wpAny_setState_of ho h.d h.f ?_))
 dsimp only
 rw[byScan_of (knd:=intKind prog w) rfl (Nat.lt_of_succ_lt hb) hel,if_pos rfl]
 unfold setAddByScan
 refine wpAny_bind (wpAny_bind (wpAny_rule (wpAny_bind (wpAny_setScan_of (knd:=intKind prog w) hkey ho h.d h.f hel ?_))))
 have mem:∀ e∈es.toList,((intKind prog w).is v e.2=true↔ky e=v):=fun e he=>by
  obtain⟨k,tk',rfl⟩:=h.el e he
  show Value.isInt v (.int k tk')=true↔k=v
  constructor
  ·intro z
   obtain⟨_,q⟩:=Value.isInt_shape z
   cases q
   rfl
  ·intro z
   rw[← z]
   exact intKind_is prog w k tk'
 cases hr:List.findIdx? (fun e=>(intKind prog w).is v e.2) es.toList with
 | some j =>
  dsimp only
  obtain⟨hj,hpj,_⟩:=List.findIdx?_eq_some_iff_getElem.mp hr
  refine wpAny_pure (wpAny_pure ?_)
  have hv:v∈es.toList.map ky:=List.mem_map.mpr ⟨_,AkN hj,(mem _ (AkN hj)).mp hpj⟩
  have:=hQ s.heap o es ep t false (Heap.SameBut.refl a s.heap) ho h (fun z=>⟨.inl,fun q=>q.elim id fun e=>e▸hv⟩) (Alw _)
  exact this
 | none =>
  dsimp only
  have hv:v∉es.toList.map ky:=fun q=>by
   obtain⟨e,he,hk⟩:=List.mem_map.mp q
   have:=List.findIdx?_eq_none_iff.mp hr e he
   rw[(mem e he).mpr hk] at this
   cases this
  have hperm:=layNew_perm t es (hashInt v) (.int v tk)
  have hfits:=layNew_fits t es (hashInt v) (.int v tk)
  have hto:=AfL t es (hashInt v) (.int v tk)
  generalize layNew t es (hashInt v) (.int v tk)=Ly at hperm hfits hto ⊢
  obtain⟨es1,t1,wd,gv⟩:=Ly
  dsimp only at hperm hfits hto ⊢
  refine wpAny_bind (AeH (gv:=gv) _ rfl ?_)
  have mm:∀ z,z∈es1.toList.map ky↔z∈es.toList.map ky∨z=v:=fun z=>by
   rw[(hperm.map ky).mem_iff,Array.toList_push,AkL,AlM]
   simp[ky]
  have sz:es1.size=es.size+1:=by rw[← Array.length_toList,hperm.length_eq,Array.toList_push,AkG,Array.length_toList];rfl
  have hb1:es1.size<scanBound:=by rw[sz];exact hb
  have g1:=Aao (es':=es1) (t':=t1) ho h.d
  have I1:=h.to hv hperm hfits hto (ep+1)
  have b1:=Heap.SameBut.update s.heap a (Obj.putSet es1 t1)
  split
  all_goals
   refine wpAny_bind (wpAny_of_eq (a:=true) rfl ?_)
   simp only [↓reduceIte]
   refine wpAny_bind (wpAny_storeSet_of ho h.d ?_ (fits_of_scanBound hb1))
   split
   ·have rp:=relayAll_perm t1 es1 (SetTable.grown es1.size)
    have rf:=relayAll_fits t1 es1 (SetTable.grown es1.size)
    have rt:=Acw t1 es1 (SetTable.grown es1.size)
    generalize relayAll t1 es1 (SetTable.grown es1.size)=Rl at rp rf rt ⊢
    obtain⟨es2,t2,gv2⟩:=Rl
    dsimp only at rp rf rt ⊢
    have sz2:es2.size=es1.size:=by rw[← Array.length_toList,rp.length_eq,Array.length_toList]
    refine wpAny_bind (AeH (gv:=gv2) _ rfl (wpAny_bind (wpAny_storeSet_of g1 rfl (wpAny_pure (wpAny_pure ?_)) (fits_of_scanBound (by rw[sz2];exact hb1)))))
    refine hQ _ _ es2 (ep+1+1) t2 true (b1.trans (Heap.SameBut.update _ a _)) (Aao (s:={ s with heap:=s.heap.update a (Obj.putSet es1 t1) }) g1 rfl) ?_ (fun z=>by rw[(rp.map ky).mem_iff];exact mm z) (by rw[sz2,sz];exact AkF _)
    exact⟨I1.ex,rfl,rf,I1.ok.imp id fun z=>⟨by rw[rt.1];exact z.1,rt.2 z.2⟩,fun e he=>I1.el e (rp.mem_iff.mp he),(rp.map ky).nodup_iff.mpr I1.nd⟩
   ·exact wpAny_pure (wpAny_pure (hQ _ _ es1 (ep+1) t1 true b1 g1 I1 mm (by rw[sz];exact AkF _)))
end
end SetW
open PySem PySem.Spec PyProof.Rows
namespace SetW
section
variable {prog:Program}{w:World}{A:Around}{E:Value→Shared→Prop}{s:Shared}
theorem IS.fresh:IS w { cls:=.type "set", dict:=none,data:=.set #[] 0 (.fresh 0 0 (!w.params.followText "set-order")) } #[] 0 (.fresh 0 0 (!w.params.followText "set-order")):=by
 refine⟨⟨rfl,rfl,rfl⟩,rfl,rfl,?_,fun e he=>by simp at he,by simp⟩
 by_cases h:w.params.followText "set-order" = true
 ·exact .inl h
 ·refine .inr ⟨by simpa [SetTable.fresh] using h,fun _ i k h1 h2=>?_⟩
  simp[SetTable.fresh] at h2
theorem AdN{I:Addr}{fp wr:List Addr}{G:Array GenState→Array GenState→Prop}{n:Nat}{P:Nat→Value→Prop}{St:Nat→Shared→Prop}{R:Result→Shared→Prop}(W:WalksS prog w A.in1 I fp wr G n P St)(S:Addr)(hSf:S∉fp)
  (val:Nat→Int) (hval:∀ i v,P i v→∃ tk,v=.int (val i) tk) (hb:n+1<scanBound):∀(k i:Nat) (s:Shared) (o:Obj) (es:Array (Int × Value)) (ep:Nat) (t:SetTable),n-i=k→i≤n→St i s→s.heap.get? S=some o→IS w o es ep t→es.size≤i →
   (∀ z,z∈es.toList.map ky↔∃ j,j<i∧val j=z) →
   (∀ s' o' es' ep' t',Moved (S::wr) G s s'→s'.heap.get? S=some o'→IS w o' es' ep' t'→es'.size≤n→(∀ z,z∈es'.toList.map ky↔∃ j,j<n∧val j=z)→R (.ok (.ret .none)) s') →
   codeAny (model prog w) A (.builtin "set.update.loop" ⟨[.ref S,.ref I],[]⟩) R s:=by
 have hSw:S∉wr:=fun h=>hSf (W.sub _ h)
 have hsub:∀ b∈wr,b∈S::wr:=fun b hb=>AkX _ hb
 intro k
 induction k with
 | zero =>
  intro i s o es ep t hk hi hst ho hS hz hm hR
  obtain rfl:i=n:=by omega
  refine codeAny_builtin PyProof.Rows.F.entry_set_update_loop ?_
  rw[Around.under_plainId PyProof.Rows.F.plain_set_update_loop _]
  show wpAny _ A.in1 (pyNext (.ref I) >>= _) _ _ s
  refine wpAny_bind (W.done s _ _ hst fun s' mv=>?_)
  show wpAny _ A.in1 (ret Value.none) _ _ s'
  exact wpAny_pure (hR s' o es ep t (mv.mono hsub) (mv.heap S _ hSw ho) hS hz hm)
 | succ k ih =>
  intro i s o es ep t hk hi hst ho hS hz hm hR
  have hlt:i<n:=by omega
  refine codeAny_builtin PyProof.Rows.F.entry_set_update_loop ?_
  rw[Around.under_plainId PyProof.Rows.F.plain_set_update_loop _]
  show wpAny _ A.in1 (pyNext (.ref I) >>= _) _ _ s
  refine wpAny_bind (W.item i s _ _ hlt hst fun v s' hP hst' mv=>?_)
  obtain⟨tk,rfl⟩:=hval i v hP
  show wpAny _ A.in1 (holding [Value.int (val i) tk] (setAdd S (.int (val i) tk)) >>= _) _ _ s'
  refine wpAny_bind (wpAny_holding ?_)
  unfold setAdd
  refine wpAny_holding (wpAny_bind ((intKind prog w).pyHash (k:=val i) (intKind_is _ _ _ _) ?_))
  refine AfM (s:={ s' with toks:=s'.toks+1 }) hS (mv.heap S _ hSw ho) (by omega) fun h' o' es' ep' t' b sb ho' hS' hm' hz'=>?_
  refine wpAny_pure ⟨plainId_quiet PyProof.Rows.F.plain_set_update_loop _,ih (i+1) _ o' es' ep' t' (by omega) hlt (W.frame _ s' _ _ hst' (Alw _) fun b hb ob e=>?_) ho' hS' (by omega) (fun z=>?_) fun s'' o2 es2 ep2 t2 mv2 ho2 hS2 hz2 hm2=>?_⟩
  ·rw[sb.2 b (fun h:b=S=>hSf (by rw[← h];exact hb))];exact e
  ·rw[hm' z,hm z]
   constructor
   ·rintro(⟨j,hj,e⟩ | e)
    ·exact⟨j,by omega,e⟩
    ·exact⟨i,by omega,e.symm⟩
   ·rintro⟨j,hj,e⟩
    by_cases c:j=i
    ·exact .inr (by rw[← e,c])
    ·exact .inl ⟨j,by omega,e⟩
  ·refine hR s'' o2 es2 ep2 t2 (Moved.trans W.gtrans ((mv.mono hsub).then_heap (Alw _) fun b ob hb e=>?_) mv2) ho2 hS2 hz2 hm2
   rw[sb.2 b (fun h:b=S=>hb (by rw[h];exact AkS))];exact e
end
end SetW
open PySem PySem.Spec PyProof.Rows
namespace SetW
section
variable {prog:Program}{w:World}{A:Around}{E:Value→Shared→Prop}{s:Shared}
def frs (w:World):Obj:={ cls:=.type "set", dict:=none,data:=.set #[] 0 (.fresh 0 0 (!w.params.followText "set-order")) }
theorem AfN(v:Value){Q₁:Value→Shared→Prop}(h:Q₁ (.ref s.heap.objs.size) { s with heap:=s.heap.push (frs w) }):codeAny (model prog w) A (.call (.builtin "set.__new__") ⟨[.type "set", v],[]⟩) (wants Q₁ E) s:=by
 refine codeAny_of_tree ?_
 show wpAny _ A.in1 (do checkBuiltinCall "set.__new__" ⟨[.type "set", v],[]⟩;again (.builtin "set.__new__" ⟨[.type "set", v],[]⟩)) _ _ s
 refine wpAny_bind (wpAny_of_eq (PySem.F.newCall_set_1 v) (wpAny_pure ⟨plainId_quiet PySem.F.plain_set_new _,codeAny_builtin PySem.F.entry_set_new ?_⟩))
 rw[Around.under_plainId PySem.F.plain_set_new _]
 unfold Builtin.«set.__new__» Builtin.Frozenset.newClass
 have hsub:=sub_set_self
 obtain⟨hp,g,d,tk,os⟩:=s
 dsimp only
 wp_walk
 refine wpAny_askSetting (wpAny_pure ?_)
 dsimp only
 simp only [newObj]
 exact wpAny_bind (wpAny_alloc (wpAny_pure (wpAny_pure h)))
set_option maxHeartbeats 4000000 in
theorem AdO{l:Addr}{items:Array Value}{ns:List Int}{Q:Value→Shared→Prop}(hh:A.handled=none)(hl:s.heap.IsList l items)(hi:IntsAre items.toList ns)(hb:items.size+1<scanBound)
  (h:∀(h':Heap) (tk:Nat) o es ep t,h'.get? s.heap.objs.size=some o→IS w o es ep t→es.size≤items.size→(∀ z,z∈es.toList.map ky↔∃ j,j<items.size∧ns.getD j 0=z) →
   (∀ b o,s.heap.get? b=some o→h'.get? b=some o)→Q (.ref s.heap.objs.size) { s with heap:=h',toks:=tk }):wpAny (model prog w) A (call (.type "set") [.ref l]) Q E s:=by
 obtain⟨c,tl,hmro⟩:=PySem.F.called_set.mro
 have hmade:=PySem.F.called_set.made
 have hsub:=PySem.F.called_set.sub
 refine wpAny_call (codeAny_of_tree ?_)
 show wpAny _ _ (callAny (.type "set") _) _ _ _
 refine wpAny_pure ⟨Code.quiet_builtin _ (by decide +kernel),codeAny_builtin PySem.F.entry_type_call ?_⟩
 rw[Around.under_plain (weight_type_call_type "set" [.ref l] []) rfl]
 have h1:=PySem.F.called_set.notType
 have h2:=PySem.F.called_set.canCreate
 have hct:=PySem.F.typeCall_set_1 (.ref l)
 repeat (any_goals (first | assumption | wp_step))
 refine codeAny_mono (AfN (.ref l) (E:=E) (Q₁:=fun obj s₁=>obj=.ref s.heap.objs.size∧s₁={ s with heap:=s.heap.push (frs w) }) ⟨rfl,rfl⟩) fun r s₁ hr=>?_
 cases r with
 | error e=>exact hr
 | ok fl =>
  cases fl with
  | ret obj =>
   obtain⟨rfl,rfl⟩:=hr
   have hS:(s.heap.push (frs w)).get? s.heap.objs.size=some (frs w):=Heap.get?_push_size _ rfl
   have hT:Shared.TypeIs { s with heap:=s.heap.push (frs w) } (.ref s.heap.objs.size) "set" := ⟨_,hS,rfl⟩
   have hli:=PySem.F.called_set.init.lookup
   have hbi:=PySem.F.called_set.init.bind (.ref s.heap.objs.size)
   repeat (any_goals (first | assumption | wp_step))
   refine codeAny_mono (codeAny_call_builtin (R:=wants (fun r s₂=>r=.none∧∃ h' tk o es ep t,s₂={ s with heap:=h',toks:=tk }∧h'.get? s.heap.objs.size=some o∧IS w o es ep t∧es.size≤items.size∧(∀ z,z∈es.toList.map ky↔∃ j,j<items.size∧ns.getD j 0=z) ∧
     (∀ b o,s.heap.get? b=some o→h'.get? b=some o)) E) PySem.F.called_set.init.plain PySem.F.entry_set_init (check_set_init_1 hT ?_)) fun r₂ s₂ hr₂=>?_
   ·obtain⟨ol,hol,hcl,nl,hdl⟩:=hl
    obtain⟨ocls,odict,odata,oslots⟩:=ol
    simp only at hcl hdl
    subst hcl hdl
    have hlS:l<s.heap.objs.size:=Heap.lt_size hol
    obtain⟨h1,eh1⟩:∃ h1,h1=s.heap.push (frs w):=⟨_,rfl⟩
    have z1:h1.objs.size=s.heap.objs.size+1:=by rw[eh1,Heap.size_push]
    have k1:∀ b ob,s.heap.get? b=some ob→h1.get? b=some ob:=fun b ob e=>by rw[eh1];exact Heap.get?_push_of_some _ e
    rw[← eh1] at hS hT ⊢
    have hol':=k1 _ _ hol
    have hl1:h1.IsList l items:=⟨_,hol',rfl,nl,rfl⟩
    have hsls:=PySem.F.sub_list_set
    have hslf:=PySem.F.sub_list_frozenset
    have hne:(Value.type "list" == Value.type "dict")=false:=by decide
    have hS':h1.get? s.heap.objs.size=some { cls:=.type "set", dict:=none,data:=.set #[] 0 (.fresh 0 0 (!w.params.followText "set-order")) }:=hS
    unfold Builtin.«set.__init__» noKeywords Builtin.Frozenset.updateFrom
    generalize hPI:pyIter=PI
    wp_walk
    subst hPI
    refine wpAny_pyIter_list hl1 ?_
    obtain⟨h2,eh2⟩:∃ h2,h2=h1.push { cls:=.type "list_iterator", data:=.fields #[.ref l,.int 0 0] }:=⟨_,rfl⟩
    show wpAny _ _ _ _ _ { s with heap:=h1.push { cls:=.type "list_iterator", data:=.fields #[.ref l,.int 0 0] } }
    rw[← eh2]
    have k2:∀ b ob,h1.get? b=some ob→h2.get? b=some ob:=fun b ob e=>by rw[eh2];exact Heap.get?_push_of_some _ e
    have hit2:h2.IsListIter h1.objs.size l 0:=by rw[eh2];exact⟨_,Heap.get?_push_size _ rfl,rfl,rfl⟩
    have hl2:h2.IsList l items:=⟨_,k2 _ _ hol',rfl,nl,rfl⟩
    refine wpAny_bind (wpAny_runValue ?_)
    have hh3:A.in1.in1.in1.handled=none:=by simp[hh]
    have hneI:l≠h1.objs.size:=by rw[z1];exact AkK (Alm hlS)
    have hSf:s.heap.objs.size∉[h1.objs.size,l]:=by
     simp only [Aln,Alo,or_false,not_or]
     exact⟨by rw[z1];exact AkK (Alu _),Alj hlS⟩
    have hval:∀(i:Nat) (v:Value),items[i]?=some v→∃ tk,v=.int ((fun i=>ns.getD i 0) i) tk:=fun i v hv=>IntsAre.int_at hi i v (by rw[Array.getElem?_toList];exact hv)
    refine AdN ((Walks.list hh3 h1.objs.size l hneI items).toS) s.heap.objs.size hSf (fun i=>ns.getD i 0) hval hb (items.size-0) 0 _ _ #[] 0 _ (by omega) (AkP _) ⟨hit2,hl2⟩ (k2 _ _ hS') IS.fresh (AkP _) (fun z=>by simp) fun s' o es ep t mv ho hI hz hm=>?_
    obtain⟨h',g',d',tk',os'⟩:=s'
    have eg:g'=s.gens:=mv.gens
    have ed:d'=s.drawn:=mv.drawn
    have eo:os'=s.os:=mv.os
    subst eg ed eo
    show wpAny _ _ _ _ _ _
    refine wpAny_pure ?_
    show wpAny _ _ (ret Value.none) _ _ _
    refine wpAny_pure ⟨rfl,h',tk',o,es,ep,t,rfl,ho,hI,hz,hm,fun b ob e=>?_⟩
    have lb:=Heap.lt_size e
    refine mv.heap b ob ?_ (k2 _ _ (k1 _ _ e))
    simp only [Aln,Alo,or_false,not_or]
    exact⟨AkK lb,by rw[z1];exact AkK (Alm lb)⟩
   ·cases r₂ with
    | error e=>exact hr₂
    | ok fl₂ =>
     cases fl₂ with
     | ret r =>
      obtain⟨rfl,h',tk,o,es,ep,t,rfl,a1,a2,a3,a4,a5⟩:=hr₂
      repeat (any_goals (first | assumption | wp_step))
      exact h _ _ o es ep t a1 a2 a3 a4 a5
     | _=>exact hr₂.elim
  | _=>exact hr.elim
end
end SetW
open PySem PySem.Spec PyProof.Rows
section
variable {X:Cx}{K:PySem.W.Frag}{p1 p2 pos1 pos2:Pos}{e:Expr}{te:TE}
theorem Inv.drew{X:Cx}{pins:List (Addr × Obj)}{σ:St}{H:Hp}{s:Shared}{d:Drawn}(I:Inv X pins σ H s):Inv X pins σ H { s with drawn:=d }:=⟨I.ok,I.os,I.bare,I.base,I.loc,I.cell,I.free,I.IK,I.pin,I.hok,I.len⟩
def Acx (K:PySem.W.Frag)(te:TE):TE:=fun σ H Q=>te σ H fun x H1=>∃ a ns,x=.ref a∧SqL K H1 a (vI ns)∧ns.length≤4000∧(∀ ds:List Int,ds.Nodup→(∀ z∈ds,z∈ns)→ds.length<64) ∧
 ∀ l ns',(∀ z,z∈ns'↔z∈ns)→ns'.Pairwise (·<·)→H1 l=none→Q (.ref l) (upd H1 l (.lst (vI ns')))
theorem Yb:∀{l:List Int},l.Pairwise (·≤·)→l.Nodup→l.Pairwise (·<·):=fun h n=>(h.and n).imp fun {a b} ⟨h1,h2⟩=>by omega
theorem Tc(hg1:Gl X "sorted") (hm1:X.mg "sorted" = none) (hg2:Gl X "set") (hm2:X.mg "set" = none) (he:PE X e te) (hK:X.K=K:=by rfl) (hc:X.calm=true:=by rfl)
  (hs2:starEach [e] X.env=(false,eval e X.env)::starEach [] X.env:=by rfl)
  (hs1:starEach [.Call (.Name "set" p2) [e] [] pos2] X.env=(false,eval (.Call (.Name "set" p2) [e] [] pos2) X.env)::starEach [] X.env:=by rfl)
  (hq1:(backTo pos1 (starEach [] X.env)).any (·.1)=false:=by rfl) (hq2:(backTo pos2 (starEach [] X.env)).any (·.1)=false:=by rfl) :
  PE X (.Call (.Name "sorted" p1) [.Call (.Name "set" p2) [e] [] pos2] [] pos1) (Acx K te):=by
 subst hK
 intro pins s σ H Q I h
 have hsz:sizeLine=16777216:=sizeLine_eq
 refine wpAny_Call_Name_kw (HR I hg1 hm1 Aba ?_ (by decide) (by decide))
 refine PyProof.Rows.callWith_builtin1 ?_ hs1 hq1
 rw[hs1]
 show wpAny _ _ (spliced ((false,eval (.Call (.Name "set" p2) [e] [] pos2) X.env)::backTo pos1 (starEach [] X.env))) _ _ s
 refine Calls.spliced_cons ?_
 refine wpAny_Call_Name_kw (HR I hg2 hm2 Af5 ?_ (by decide) (by decide))
 refine PyProof.Rows.callWith_type1 ?_ hs2 hq2
 rw[hs2]
 show wpAny _ _ (spliced ((false,eval e X.env)::backTo pos2 (starEach [] X.env))) _ _ s
 refine Calls.spliced_cons (thn (he pins s σ H _ I h) fun u s1 ⟨x,H1,I1,r1,a,ns,ex,hq,h4,h64,q⟩=>?_)
 subst ex
 cases r1
 refine Calls.spliced_nil ?_
 obtain⟨its,r,pl,hz⟩:=I1.list hq
 have hi:IntsAre its ns:=intsAre_of r
 have hlen:its.length=ns.length:=hi.length
 refine SetW.AdO (items:=its.toArray) (I.ok.hd hc) pl.isList hi (by rw[AkO,hlen];show _+1<4096;omega) fun h' tk o es ep t go gi gz gm gk=>?_
 refine Calls.spliced_nil ?_
 have mem:∀ z,z∈es.toList.map SetW.ky↔z∈ns:=fun z=>by
  rw[gm z,AkO,hlen]
  constructor
  ·rintro⟨j,hj,e⟩
   rw[← e,AkH,AkD hj]
   exact AkN hj
  ·intro hz
   obtain⟨j,hj,e⟩:=Alh hz
   exact⟨j,hj,by rw[AkH,AkD hj];exact e⟩
 have e64:es.size<64:=by
  have:=h64 _ gi.nd fun z hz=>(mem z).mp hz
  rwa [AkE,Array.length_toList] at this
 refine SetW.Z3 (s:={ s1 with heap:=h',toks:=tk }) (key:=SetW.ky) gi.wk go (I.ok.hd hc) e64 (fun e he=>?_) fun h2 d tk2 l ep2 out ns' k2 hl2 hg2 hi2 hp2 hr2=>?_
 ·obtain⟨k,tk',rfl⟩:=gi.el e he
  exact⟨tk',rfl⟩
 ·have hns:ns'.Nodup:=hp2.nodup_iff.mpr gi.nd
  have hl1:s1.heap.objs.size≤l:=Al7 (AkT (Heap.lt_size go) hl2)
  refine⟨.ref l,_,(I1.laid (t':=tk2) (h':=h2) (a:=l) (o:=.lst (vI ns')) (fun b u e=>k2 _ _ (gk _ _ e)) hl1 ?_).drew,rfl,q l ns' (fun z=>by rw[hp2.mem_iff];exact mem z) (Yb hr2 hns) (I1.hok.fresh hl1)⟩
  have:ns'.length<64:=by rw[hp2.length_eq,AkE,Array.length_toList];exact e64
  refine⟨by rw[Bx];omega,out.toList,ep2,Qn hi2,?_⟩
  rw[hg2]
end
open PySem PySem.Spec PyProof.Rows
section
variable {X:Cx}
def Aap (z:Str):Value→Bool
 | .str a _=>a.cps.toList == z.cps.toList
 | _=>false
theorem Td{zs:List Str}{us:List Value}(r:Vals (zs.map V.str) us){j:Nat}{u:Value}(h:us[j]?=some u):∃ k t,zs[j]?=some k∧u=.str k t:=by
 have hj:=(List.getElem?_eq_some_iff.mp h).1
 have l:=r.length
 rw[AkE] at l
 have hk:j<zs.length:=by omega
 obtain⟨u',e,q⟩:=r.get (i:=j) (x:=.str zs[j]) (by rw[AkM,AkD hk];rfl)
 rw[h] at e
 cases e
 obtain⟨t,rfl⟩:=q
 exact⟨zs[j],t,AkD hk,rfl⟩
def Ah8:V→List V→Hp→VK→Prop:=fun x vs H Q=>∃(l:Addr) (zs:List Str) (z:Str) (j:Nat),x=.ref l∧vs=[.str z]∧H l=some (.lst (zs.map V.str))∧zs[j]?=some z∧(∀ i,i<j→zs[i]?≠some z)∧zs.length≤1000∧Q (.int (j:Int)) H
theorem Wm:MtR X "list.index" Ah8:=by
 intro pins s σ H x vs v us Q I rx rv h
 obtain⟨l,zs,z,j,rfl,rfl,hH,hj,hno,hz,q⟩:=h
 cases rx
 obtain⟨u,rfl,ru⟩:=rv.one
 obtain⟨t,rfl⟩:=ru
 obtain⟨zz,its,n,r,hl,e⟩:=I.AbQ hH
 have lr:=r.length
 rw[AkE] at lr
 have jl:j<its.length:=by have:=(List.getElem?_eq_some_iff.mp hj).1;omega
 have ja:j<its.toArray.size:=by rw[AkO];exact jl
 have hit:Aap z its.toArray[j]=true:=by
  obtain⟨k',t',e1,e2⟩:=Td r (AkD jl)
  rw[hj] at e1
  cases e1
  rw[AlY,e2]
  exact beq_self_eq_true z.cps.toList
 have hn:∀ m (hm:m<its.toArray.size),m<j→Aap z its.toArray[m]=false:=fun m hm hmj=>by
  have ml:m<its.length:=by rw[AkO] at hm;exact hm
  obtain⟨k',t',e1,e2⟩:=Td r (AkD ml)
  have:=hno m hmj
  rw[AlY,e2]
  show(k'.cps.toList == z.cps.toList)=false
  rw[beq_eq_false_iff_ne]
  intro ez
  have ek:k'=z:=by
   cases k';cases z
   exact congrArg Str.mk (Array.toList_inj.mp ez)
  rw[ek] at e1
  exact this e1
 have he:∀ y,y∈its.toArray→MeetsSeq.EqGives y (.str z t) (Aap z y):=fun y hy=>by
  have hy:y∈its:=by simpa using hy
  obtain⟨m,hm,em⟩:=Alh hy
  obtain⟨k',t',e1,e2⟩:=Td r (AkD hm)
  rw[← em,e2]
  exact SeqRoads2.EqGives.str k' z t' t
 refine call_meets F.slot_list_index ⟨_,e,rfl⟩ F.entry_list_index (F.args_list_index_2 _ _)
  (MeetsSeq.list_index l its.toArray n (.str z t) (Aap z) he j ja (by omega) hit hn) ⟨e,?_⟩
 exact⟨.int _,H,I.tok _,⟨_,rfl⟩,q⟩
end
open PySem PySem.Spec PyProof.Rows
inductive Z4 (K:PySem.W.Frag) (H:Hp):V→V→Bool→Prop
 | tup {a b:Addr} {xs ys:List V}:SqT K H a xs→SqT K H b ys→xs.all Eg=true→ys.all Eg=true→Z4 K H (.ref a) (.ref b) (eqL xs ys)
 | lst {a b:Addr} {xs ys:List V}:SqL K H a xs→SqL K H b ys→xs.all Eg=true→ys.all Eg=true→Z4 K H (.ref a) (.ref b) (eqL xs ys)
 | flat {x y:V}:Eg x=true→Eg y=true→Z4 K H x y (eqV x y)
section
variable {X:Cx}{K:PySem.W.Frag}{pins:List (Addr × Obj)}{σ:St}{H:Hp}{s:Shared}
def Ak7 (K:PySem.W.Frag)(no:Bool):R2:=fun x y H Q=>∃(q:Addr) (xs:List V),y=.ref q∧SqL K H q xs ∧
 (((∀(i:Nat) (z:V),xs[i]?=some z→∃ b,Z4 K H z x b)∧(∃(i:Nat) (z:V),xs[i]?=some z∧Z4 K H z x true)∧Q (.bl (!no)) H)∨((∀(i:Nat) (z:V),xs[i]?=some z→Z4 K H z x false)∧Q (.bl no) H))
def AjQ (K:PySem.W.Frag):V→List V→Hp→VK→Prop:=fun x vs H Q=>∃(l:Addr) (xs:List V) (v:V) (j:Nat),x=.ref l∧vs=[v]∧H l=some (.lst xs)∧j<xs.length∧xs.length≤1000 ∧
 (∀(i:Nat) (z:V),xs[i]?=some z→∃ b,Z4 K H z v b∧(i<j→b=false)∧(i=j→b=true))∧Q (.int (j:Int)) H
end
open PySem PySem.Spec PyProof.Rows
abbrev ZX (h:Heap) (z TI TO T0:Addr) (f:Bool):Prop :=
 h.get? z=some { cls:=.type "zip", dict:=none,data:=.fields #[rawInt T0,.bool f,.bool false,.ref TI,.ref TO],slots:=#[] }
section
variable {prog:Program}{w:World}{A:Around}{E:Value→Shared→Prop}{s:Shared}
structure ZL (P1 P2:Nat→Value→Prop) (S1 S2:Nat→Heap→Prop) (z TI TO i1 i2 M B:Addr) (s0:Shared) (i:Nat) (Ts:List Addr) (s:Shared):Prop where
 st1:S1 i s.heap
 st2:S2 i s.heap
 zp:(i=0∧IsZip s.heap z TI TO .none∧∃ a b,IsPair s.heap TO a b)∨∃ T0 f,ZX s.heap z TI TO T0 f∧Ts[0]?=some T0
 ti:IsPair s.heap TI (.ref i1) (.ref i2)
 acc:∃ c,s.heap.get? M=some { cls:=.type "list", dict:=none,data:=.seq (Ts.map Value.ref).toArray c,slots:=#[] }
 len:Ts.length=i
 tup:∀(j:Nat) (T:Addr),Ts[j]?=some T→B≤T∧T<s.heap.objs.size∧∃ x y,P1 j x∧P2 j y∧s.heap.get? T=some { cls:=.type "tuple", data:=.seq #[x,y] }
 nd:Ts.Nodup
 big:B≤s.heap.objs.size
 old:∀ b o,b≠z→b≠TO→b≠i1→b≠i2→b≠M→s0.heap.get? b=some o→s.heap.get? b=some o
 rest:∃ h tk,s={ s0 with heap:=h,toks:=tk }
end
section
variable {prog:Program}{w:World}{A:Around}{E:Value→Shared→Prop}{s:Shared}{R:Result→Shared→Prop}
end
section
variable {X:Cx}{K:PySem.W.Frag}{a b:Expr}{ta:TA}{p1 p2 pos1 pos2:Pos}
def Ah9 (K:PySem.W.Frag)(ta:TA):TE:=fun σ H Q=>ta σ H fun vs H1=>∃(x y:Addr) (xs ys:List V),vs=[.ref x,.ref y]∧SqL K H1 x xs∧SqL K H1 y ys∧xs.length=ys.length∧xs.length≤1000∧∀(l:Addr) (Ts:List Addr) (H':Hp),Ar H1 H'→H1 l=none→H' l=some (.lst (Ts.map V.ref))→Ts.length=xs.length →
 (∀(j:Nat) (T:Addr) (u v:V),Ts[j]?=some T→xs[j]?=some u→ys[j]?=some v→H' T=some (.tup [u,v]))→Q (.ref l) H'
end
open PySem PySem.Spec PyProof.Rows
section
variable {X:Cx}{K:PySem.W.Frag}
def AjR (K:PySem.W.Frag):R2:=fun x y H Q=>∃(p q:Addr) (js ks:List Int),x=.ref p∧y=.ref q∧SqT K H p (vI js)∧SqT K H q (vI ks)∧Q (.bl (!decide (js=ks))) H
end
open PySem PySem.Spec PyProof.Rows
section
variable {X:Cx}{K:PySem.W.Frag}{k:Nat}{f C:Addr}{fd:FuncData}{ps:List Str}{sp:Sp}{dvs:List V}{ds:List Value}{x m:Str}{p pos apos:Pos}{e o:Expr}{es:List Expr}{ta:TE}{t:TA}
def Ak8 (K:PySem.W.Frag):R2:=fun x y H Q=>∃ p q xs,x=.ref p∧y=.ref q∧SqL K H p xs∧SqL K H q []∧Q (.bl (!xs.isEmpty)) H
def Ajx (K:PySem.W.Frag):R2:=fun x y H Q=>∃ p q xs,x=.ref p∧y=.ref q∧SqL K H p xs∧SqL K H q []∧Q (.bl xs.isEmpty) H
theorem AfO(hu:X.A.units<cLine)(hK:X.K=K:=by rfl):OpR X (compareOp .Eq) (Ajx K):=by
 subst hK
 intro pins s σ H x y v u Q I rx ry h
 obtain⟨p,q,xs,rfl,rfl,hx,hy,k⟩:=h
 cases xs with
 | nil=>exact Af0 hu pins s σ H (.ref p) (.ref q) v u Q I rx ry ⟨p,q,[],[],rfl,rfl,hx,hy,rfl,rfl,k⟩
 | cons a xs =>
  cases rx
  cases ry
  obtain⟨its,r,pl,hz⟩:=I.list hx
  obtain⟨its2,r2,pl2,hz2⟩:=I.list hy
  have l1:=r.length
  have l2:=r2.length
  simp only [Ala,List.length_nil] at l1 l2
  refine SeqAt.eq_list_lengthsAt pl.isList pl2.isList (by simp only [AkO,bne_iff_ne];omega) hu ?_
  exact⟨.bl false,H,I,rfl,k⟩
end
open PySem PySem.Spec PyProof.Rows
def vB (bs:List Bool):List V:=bs.map V.bl
theorem Z5{bs:List Bool}:∀{us:List Value},Vals (bs.map V.bl) us→us=bs.map Value.bool:=by
 induction bs with
 | nil=>intro us r;rw[Al1] at r;cases r;rfl
 | cons n ns ih =>
  intro us r
  rw[AkQ] at r
  cases r with
  | cons r1 r2 =>
   cases r1
   rw[ih r2]
   rfl
section
variable {X:Cx}{K:PySem.W.Frag}
end
open PySem PySem.Spec PyProof.Rows
theorem all_range(bs:List Bool):(List.range bs.length).all (fun i=>bs.getD i false)=bs.all id:=by
 rw[AlJ,Ami,Ami]
 constructor
 ·rintro h b hb
  obtain⟨i,hi,e⟩:=Alh hb
  have:=h i (List.mem_range.mpr hi)
  rw[AkH,AkD hi,e] at this
  exact this
 ·rintro h i hi
  have hl:=List.mem_range.mp hi
  rw[AkH,AkD hl]
  exact h _ (AkN hl)
section
variable {X:Cx}{K:PySem.W.Frag}
theorem Abr(hK:X.K=K:=by rfl)(hc:X.calm=true:=by rfl):HD X (.builtin "all") (fun xs H Q=>∃ a bs,xs=[.ref a]∧SqL K H a (vB bs)∧Q (.bl (bs.all id)) H):=by
 subst hK
 intro pins s σ H xs us Q I rv h
 obtain⟨a,bs,rfl,hq,q⟩:=h
 obtain⟨u,rfl,ru⟩:=rv.one
 cases ru
 obtain⟨its,r,pl,hl⟩:=I.list hq
 have ei:=Z5 (bs:=bs) r
 subst ei
 obtain⟨o,eo,_⟩:=id pl.isList
 have alt:=Heap.lt_size eo
 refine call_all_walk (wpAny_pyIter_list pl.isList ?_)
 refine⟨_,_,_,_,_,_,fun i=>bs.getD i false,rfl,Walks.list (A:=X.A.in1) (I.ok.hd hc) _ a (AkK alt) (bs.map Value.bool).toArray,⟨⟨_,Heap.get?_push_size _ rfl,rfl,rfl⟩,pl.isList.push _⟩,?_,fun h' tk hk=>?_⟩
 ·intro i v s' Q' E' hP hQ
  have hv:(bs.map Value.bool)[i]?=some v:=by simpa using hP
  rw[AkM] at hv
  cases e:bs[i]? with
  | none=>rw[e] at hv;cases hv
  | some b =>
   rw[e] at hv
   cases hv
   have eb:bs.getD i false=b:=by rw[AkH,e];rfl
   have hQ':Q' (bs.getD i false) s':=hQ
   rw[eb] at hQ'
   exact wpAny_truthy_bool hQ'
 ·have e1:(List.range ((bs.map Value.bool).toArray).size).all (fun i=>bs.getD i false)=bs.all id:=by
   rw[AkO,AkE]
   exact all_range bs
  rw[e1]
  refine⟨.bl (bs.all id),H,I.kept (t':=tk) (fun b ob e=>hk b ob ?_ (Heap.get?_push_of_some _ e)),rfl,q⟩
  have lt:=Heap.lt_size e
  intro hm
  rw[List.mem_singleton.mp hm] at lt
  exact Alf _ lt
theorem Abs:HD X (.type "range") (fun xs H Q=>∃ b,xs=[.int b]∧∀ p,H p=none→Q (.ref p) (upd H p (Zo p 0 b 1))):=by
 intro pins s σ H xs us Q I rv h
 obtain⟨b,rfl,q⟩:=h
 obtain⟨u1,rfl,r1⟩:=rv.one
 obtain⟨t,rfl⟩:=r1
 exact call_range_1 (Acb I q)
end
theorem AdP{n:Nat}(h:n≤1000):Builtin.Range.rangeSize 0 (n:Int) 1=(n:Int)∧Builtin.Range.small 0 (n:Int) 1=true∧Zq 0 1 n=(List.range n).map fun(i:Nat)=>((i:Nat):Int):=by
 have rs:Builtin.Range.rangeSize 0 (n:Int) 1=(n:Int):=by
  unfold Builtin.Range.rangeSize
  rw[if_pos (by decide)]
  by_cases h:(0:Int)<(n:Int)
  ·rw[if_pos h,Int.ediv_one]
   omega
  ·rw[if_neg h]
   omega
 refine⟨rs,?_,?_⟩
 ·have fits:∀{z:Int},-1000000≤z→z≤1000000→Builtin.Range.rangeFitsLong z=true:=fun {z} h1 h2=>by
   unfold Builtin.Range.rangeFitsLong
   simp only [Al2,decide_eq_true_eq]
   omega
  unfold Builtin.Range.small
  rw[rs,fits (by omega) (by omega),fits (by omega) (by omega),fits (by omega) (by omega),fits (by omega) (by omega)]
  simp only [show(1:Int)>0 by decide,if_true,Bool.true_and,Bool.or_eq_true]
  exact .inr trivial
 ·unfold Zq
  refine Ame fun i _=>?_
  omega
open PySem PySem.Spec PyProof.Rows
section
variable {X:Cx}
def isNum(z:Int):Value→Bool
 | .int a _=>a == z
 | _=>false
theorem Te{ks:List Int}{us:List Value}(r:Vals (vI ks) us){j:Nat}{u:Value}(h:us[j]?=some u):∃ k t,ks[j]?=some k∧u=.int k t:=by
 have hj:=(List.getElem?_eq_some_iff.mp h).1
 have l:=r.length
 rw[Bx] at l
 have hk:j<ks.length:=by omega
 obtain⟨u',e,q⟩:=r.get (i:=j) (x:=.int ks[j]) (Hv (AkD hk))
 rw[h] at e
 cases e
 obtain⟨t,rfl⟩:=q
 exact⟨ks[j],t,AkD hk,rfl⟩
theorem Acy(ks:List Int)(j:Nat):(vI ks).eraseIdx j=vI (ks.eraseIdx j):=by
 unfold vI
 induction ks generalizing j with
 | nil=>rfl
 | cons a ks ih =>
  cases j with
  | zero=>rfl
  | succ j=>exact congrArg (_::·) (ih j)
def AdQ:V→List V→Hp→VK→Prop:=fun x vs H Q=>∃ l ks z j,x=.ref l∧vs=[.int z]∧H l=some (.lst (vI ks))∧ks[j]?=some z∧(∀ i,i<j→ks[i]?≠some z)∧ks.length≤1000∧Q .non (upd H l (.lst (vI (ks.eraseIdx j))))
theorem Vd:MtM X "list.remove" AdQ:=by
 intro pins s σ H x vs v us Q I rx rv h
 obtain⟨l,ks,z,j,rfl,rfl,hH,hj,hno,hz,q⟩:=h
 cases rx
 obtain⟨u,rfl,ru⟩:=rv.one
 obtain⟨t,rfl⟩:=ru
 obtain⟨zz,its,n,r,hl,e⟩:=I.AbQ hH
 have hsz:sizeLine=16777216:=sizeLine_eq
 have lr:=r.length
 rw[Bx] at lr
 have jl:j<its.length:=by have:=(List.getElem?_eq_some_iff.mp hj).1;omega
 have ja:j<its.toArray.size:=by rw[AkO];exact jl
 have hit:isNum z its.toArray[j]=true:=by
  obtain⟨k',t',e1,e2⟩:=Te r (AkD jl)
  rw[hj] at e1
  cases e1
  rw[AlY,e2]
  exact beq_self_eq_true z
 have hn:∀ m (hm:m<its.toArray.size),m<j→isNum z its.toArray[m]=false:=fun m hm hmj=>by
  have ml:m<its.length:=by rw[AkO] at hm;exact hm
  obtain⟨k',t',e1,e2⟩:=Te r (AkD ml)
  have:=hno m hmj
  rw[AlY,e2]
  show(k' == z)=false
  rw[beq_eq_false_iff_ne]
  intro ez
  rw[ez] at e1
  exact this e1
 have he:∀ y,y∈its.toArray→MeetsSeq.EqGives y (.int z t) (isNum z y):=fun y hy=>by
  have hy:y∈its:=by simpa using hy
  obtain⟨m,hm,em⟩:=Alh hy
  obtain⟨k',t',e1,e2⟩:=Te r (AkD hm)
  rw[← em,e2]
  exact MeetsSeq.EqGives.int k' z t' t
 refine call_meets F.slot_list_remove ⟨_,e,rfl⟩ F.entry_list_remove (F.args_list_remove_2 _ _)
  (MeetsSeq.list_remove l its.toArray n (.int z t) (isNum z) he j ja hit hn (by rw[AkO];omega)) ⟨e,?_⟩
 refine⟨.non,_,I.Ahp (its':=its.eraseIdx j) (ys:=(vI ks).eraseIdx j) hH e ?_ (r.eraseIdx j) ?_,rfl,?_⟩
 ·show its.toArray.eraseIdxIfInBounds j=(its.eraseIdx j).toArray
  rw[List.eraseIdxIfInBounds_toArray]
 ·have:=UL (vI ks) j
  rw[Bx] at this
  omega
 ·rw[Acy];exact q
end
open PySem PySem.Spec PyProof.Rows
def Ak9 (K:PySem.W.Frag)(n:Nat)(t:TGs):TG:=fun v σ H Q=>∃ a xs,v=.ref a∧SqL K H a xs∧xs.length=n∧t xs σ H Q
section
variable {X:Cx}{K:PySem.W.Frag}{pos:Pos}
end
end L2
namespace Mine
open PySem L2
def Sg (c:Nat):Prop:=c=35∨c=46
structure Cl (cl:List (List Nat)) (m n:Nat):Prop where
 hn:cl.length=n
 hm:∀ t∈cl,t.length=m
 sg:∀ t∈cl,∀ c∈t,Sg c
 m1:1≤m
 m40:m≤40
 n1:1≤n
 n40:n≤40
def flip(c:Nat):Nat:=if c=35 then 46 else 35
def back(cl:List (List Nat)):List (List Nat):=cl.map fun t=>t.reverse.map flip
def col (cl:List (List Nat))(e:Nat):List Nat:=cl.map fun t=>t.getD e 0
def AjS (cl:List (List Nat))(m:Nat):List (List Nat):=(List.range m).map fun e=>(col cl e).map flip
def sgn (cl:List (List Nat))(m n:Nat)(x y:Int):Nat:=(cl.getD (y%(n:Int)).toNat []).getD (x%(m:Int)).toNat 0
def met (st ln c s:Int):Int:=ln / c+(if (s-st)%c<ln%c then 1 else 0)
def AfP (f:Nat→Int):Nat→Int
 | 0=>0
 | k+1=>AfP f k+f k
def AfQ (g:Nat→Int)(st:Int)(c:Nat):Nat→Int
 | 0=>0
 | n+1=>AfQ g st c n+g ((st+(n:Int))%(c:Int)).toNat
def isH (cl:List (List Nat))(p e:Nat):Int:=if (cl.getD p []).getD e 0=35 then 1 else 0
def AfR (cl:List (List Nat))(m:Nat)(left wide:Int)(p:Nat):Int:=AfP (fun e=>if (cl.getD p []).getD e 0=35 then met left wide (m:Int) (e:Int) else 0) m
def overs(cl:List (List Nat))(m n:Nat)(left first wide high:Int):Int:=AfP (fun p=>AfR cl m left wide p*met first high (n:Int) (p:Int)) n
def cnt (cl:List (List Nat))(m n:Nat)(left first:Int)(wide high:Nat):Int:=AfQ (fun p=>AfQ (isH cl p) left m wide) first n high
def Ajy (cl:List (List Nat))(m:Nat):List Int:=((List.range m).map fun e=>(((col cl e).count 35:Nat):Int))++cl.map fun t=>((t.count 46:Nat):Int)
def Rs (ks:List Int):Prop:=(∀(i:Nat) (a b:Int),ks[i]?=some a→ks[i+1]?=some b→a<b)∧∀ k∈ks,0≤k∧k<40
structure Ft (th:List Int) (tss:List (List Int)) (tr:List Int):Prop where
 m1:1≤th.length
 m40:th.length≤40
 t1:1≤tss.length
 t40:tss.length≤40
 n1:1≤tr.length
 n40:tr.length≤40
 hth:∀ v∈th,0≤v∧v<40
 hti:∀ ks∈tss,Rs ks
 htr:∀ v∈tr,0≤v∧v<tss.length
def shd (th ks:List Int):List Nat:=th.map fun s=>if s∈ks then 35 else 46
def wv (th:List Int)(tss:List (List Int))(tr:List Int):List (List Nat):=tr.map fun v=>shd th (tss.getD v.toNat [])
theorem AdR(th ks:List Int):(shd th ks).length=th.length:=by unfold shd;rw[AkE]
theorem AfS(th:List Int)(tss:List (List Int))(tr:List Int):(wv th tss tr).length=tr.length:=by unfold wv;rw[AkE]
theorem AdS{tss:List (List Int)}{v:Int}(h:0≤v∧v<tss.length):tss[v.toNat]?=some (tss.getD v.toNat []):=by
 have:v.toNat<tss.length:=by omega
 rw[AkH,AkD this]
 rfl
section
variable {α β:Type} [DecidableEq α] [DecidableEq β]
theorem snoc_ind{γ:Type}{P:List γ→Prop}(h0:P [])(h1:∀ l x,P l→P (l++[x])):∀ l,P l:=by
 intro l
 have k:∀ r:List γ,P r.reverse:=by
  intro r
  induction r with
  | nil=>exact h0
  | cons a r ih=>rw[Al0];exact h1 _ _ ih
 have:=k l.reverse
 rwa [List.reverse_reverse] at this
def unl (l:List α):List α:=l.foldl (fun f x=>if x∈f then f else f++[x]) []
theorem Hr(l:List α)(x:α):unl (l++[x])=if x∈unl l then unl l else unl l++[x]:=by
 unfold unl
 rw[List.foldl_append]
 rfl
theorem HF(x:α):∀ l:List α,x∈unl l↔x∈l:=by
 refine snoc_ind (by simp[unl]) fun l y ih=>?_
 rw[Hr]
 split
 ·rename_i h
  rw[ih,AlM,List.mem_singleton]
  refine⟨.inl,fun z=>z.elim id fun z=>?_⟩
  rw[z];rw[z] at ih;exact ih.mp h
 ·rw[AlM,AlM,ih]
theorem Abt:∀ l:List α,(unl l).Nodup:=by
 refine snoc_ind (by simp[unl]) fun l y ih=>?_
 rw[Hr]
 split
 ·exact ih
 ·rename_i h
  rw[List.nodup_append]
  exact⟨ih,by simp,fun a ha b hb e=>h (by rw[← List.mem_singleton.mp hb,← e];exact ha)⟩
theorem AdT(l:List α):∀ r,∃ s,unl (l++r)=unl l++s:=by
 refine snoc_ind ⟨[],by simp⟩ fun r y ⟨s,hs⟩=>?_
 rw[← Alv,Hr,hs]
 split
 ·exact⟨s,rfl⟩
 ·exact⟨s++[y],by rw[Alv]⟩
theorem Qw:∀ l:List α,(unl l).length≤l.length:=by
 refine snoc_ind (by simp[unl]) fun l y ih=>?_
 rw[Hr,AkG]
 split
 ·omega
 ·rw[AkG]
  show _+1≤_+1
  omega
theorem AdU{l:List α}(h:l≠[]):0<(unl l).length:=by
 cases l with
 | nil=>exact absurd rfl h
 | cons a r=>exact Amj ((HF a _).mpr AkS)
def ix (l:List α)(x:α):Nat:=@List.idxOf α instBEqOfDecidableEq x l
def num (l:List α):List Nat:=l.map fun x=>ix (unl l) x
theorem FZ(l:List α):(num l).length=l.length:=by unfold num;rw[AkE]
theorem AfT{l:List α}{i:Nat}{x:α}(h:l[i]?=some x):(num l)[i]?=some (ix (unl l) x):=by unfold num;rw[AkM,h];rfl
theorem AfU{l:List α}{x:α}(h:x∈l):ix (unl l) x<(unl l).length:=List.idxOf_lt_length_iff.mpr ((HF x l).mpr h)
theorem Wn{l:List α}{z:Nat}(h:z∈num l):z<(unl l).length:=by
 obtain⟨x,hx,rfl⟩:=List.mem_map.mp h
 exact AfU hx
theorem AdV{l:List α}{j:Nat}(h:j<(unl l).length):j∈num l:=by
 refine List.mem_map.mpr ⟨(unl l)[j],(HF _ l).mp (AkN h),?_⟩
 exact(Abt l).idxOf_getElem j h
theorem Aaq{l:List α}{x:α}(h:x∈l):ix l x<l.length:=List.idxOf_lt_length_iff.mpr h
theorem AeI{l:List α}{x:α}(h:x∈l):l[ix l x]?=some x:=by
 rw[AkD (Aaq h)]
 exact congrArg some (List.getElem_idxOf (Aaq h))
theorem AeJ{x:α}:∀{l:List α} {i:Nat},i<ix l x→l[i]?≠some x
 | [],i,h=>by simp
 | a::l,i,h=>by
  unfold ix at h
  rw[List.idxOf_cons] at h
  by_cases e:a=x
  ·subst e
   simp at h
  ·have:(a == x)=false:=by simp[e]
   rw[this] at h
   cases i with
   | zero=>exact fun z=>e (Option.some.inj z)
   | succ i=>exact AeJ (l:=l) (i:=i) (Nat.lt_of_succ_lt_succ h)
theorem AdW{l:List α}{M:Nat}(h:M∈num l)(hm:∀ z∈num l,z≤M):M+1=(unl l).length:=by
 have h1:=Wn h
 have h2:(unl l).length-1∈num l:=AdV (by omega)
 have:=hm _ h2
 omega
theorem AdX{l r:List α}{x:α}(h:x∈l):ix (unl (l++r)) x=ix (unl l) x:=by
 obtain⟨s,hs⟩:=AdT l r
 unfold ix
 rw[hs,List.idxOf_append,if_pos ((HF x l).mpr h)]
theorem Acz(l:List α)(x:α):num (l++[x])=num l++[ix (unl (l++[x])) x]:=by
 unfold num
 rw[AkL]
 congr 1
 refine Ame fun y hy=>AdX hy
end
def bw (bs:List Nat)(F:Nat)(ws:List Nat):List Nat:=bs.flatMap fun b=>ws.map fun x=>b*F+x
def fil (pr one other:List (List Nat)):List (List Nat):=pr.flatMap fun u=>(one.zip other).map fun q=>u.flatMap fun c=>if c=35 then q.1 else q.2
section
variable {pr one other:List (List Nat)}{m n w h:Nat} (C:Cl pr m n) (C1:Cl one w h) (C2:Cl other w h)
include C C1 C2
end
def cols(cl:List (List Nat))(m:Nat):List (List Nat):=(List.range m).map (col cl)
def AeK (one other:List (List Nat))(w:Nat):List (List Nat × List Nat):=(List.range w).map fun e=>(col one e,col other e)
theorem Ib(cl:List (List Nat))(m:Nat):(cols cl m).length=m:=by unfold cols;rw[AkE,AkV]
theorem Aar{cl:List (List Nat)}{m e:Nat}(h:e<m):(cols cl m)[e]?=some (col cl e):=by
 unfold cols
 rw[AkM,Al3 h]
 rfl
theorem Ac0{cl:List (List Nat)}{p:Nat}{u:List Nat}(h:cl[p]?=some u)(e:Nat):(col cl e)[p]?=some (u.getD e 0):=by
 unfold col
 rw[AkM,h]
 rfl
def nts (l:List Nat):List Int:=l.map fun(z:Nat)=>(z:Int)
theorem Hg(l:List Nat):(nts l).length=l.length:=by unfold nts;rw[AkE]
theorem Z6{l:List Nat}{i z:Nat}(h:l[i]?=some z):(nts l)[i]?=some (z:Int):=by unfold nts;rw[AkM,h];rfl
theorem AfV{l:List Nat}{i:Nat}{z:Int}(h:(nts l)[i]?=some z):∃ y:Nat,l[i]?=some y∧z=(y:Int):=by
 unfold nts at h
 rw[AkM] at h
 obtain⟨y,hy,rfl⟩:=Option.map_eq_some_iff.mp h
 exact⟨y,hy,rfl⟩
theorem Ov{l:List Nat}{z:Int}:z∈nts l↔∃ y∈l,z=(y:Int):=by
 unfold nts
 rw[AlZ]
 exact⟨fun⟨y,hy,e⟩=>⟨y,hy,e.symm⟩,fun⟨y,hy,e⟩=>⟨y,hy,e.symm⟩⟩
section
variable {pr one other:List (List Nat)}{m n w h:Nat} (C:Cl pr m n) (C1:Cl one w h) (C2:Cl other w h)
def thN (pr one other:List (List Nat))(m w:Nat):List Nat:=bw (num (cols pr m)) (unl (AeK one other w)).length (num (AeK one other w))
def trN (pr one other:List (List Nat)):List Nat:=bw (num pr) (unl (one.zip other)).length (num (one.zip other))
include C C1 C2
end
section
variable {α β:Type} [DecidableEq α] [DecidableEq β]
theorem Wo{l:List α}{i j:Nat}(h:(num l)[i]?=some j):l[i]?=(unl l)[j]?∧j<(unl l).length:=by
 have hi:i<l.length:=by have:=(List.getElem?_eq_some_iff.mp h).1;rwa [FZ] at this
 have hx:=AkD hi
 have:=AfT hx
 rw[h] at this
 have e:=Option.some.inj this
 have hm:l[i]∈unl l:=(HF _ _).mpr (AkN hi)
 rw[hx,e]
 exact⟨(AeI hm).symm,Aaq hm⟩
end
theorem Yc{cl:List (List Nat)}{m n:Nat}(C:Cl cl m n){tss:List (List Int)}(hl:tss.length=(unl cl).length)
  (ht:∀(j:Nat) (u:List Nat) (ks:List Int),(unl cl)[j]?=some u→tss[j]?=some ks→∀ z:Int,z∈ks↔∃ e:Nat,(nts (num (cols cl m)))[e]?=some z∧u[e]?=some 35) :
  wv (nts (num (cols cl m))) tss (nts (num cl))=cl:=by
 unfold wv
 refine AlB fun p=>?_
 rw[AkM]
 by_cases hp:p<cl.length
 case neg =>
  rw[Alc (by rw[Hg,FZ];omega),Alc (by omega)]
  rfl
 have lp:p<(num cl).length:=by rw[FZ];exact hp
 have hv:=AkD lp
 generalize (num cl)[p]=v at hv
 obtain⟨hu,vb'⟩:=Wo hv
 have vb:v<tss.length:=by rw[hl];exact vb'
 have hcl:=AkD hp
 generalize cl[p]=u at hcl
 rw[Z6 hv]
 have e1:tss.getD (v:Int).toNat []=tss[v]:=by
  rw[AkJ,AkH,AkD vb]
  rfl
 show some (shd _ (tss.getD (v:Int).toNat []))=_
 rw[e1,hcl]
 rw[hcl] at hu
 have hz:=ht v u _ hu.symm (AkD vb)
 have mu:=AkI hcl
 have lu:=C.hm u mu
 congr 1
 unfold shd
 refine AlB fun e=>?_
 rw[AkM]
 by_cases he:e<m
 case neg =>
  rw[Alc (by rw[Hg,FZ,Ib];omega),Alc (by omega)]
  rfl
 have le:e<(num (cols cl m)).length:=by rw[FZ,Ib];exact he
 have hs:=AkD le
 generalize (num (cols cl m))[e]=x at hs
 rw[Z6 hs]
 have hc:=AkD (show e<u.length by omega)
 have sg:=C.sg u mu _ (AkN (show e<u.length by omega))
 rw[hc]
 show some (if ((x:Nat):Int)∈tss[v] then 35 else 46)=some u[e]
 congr 1
 by_cases q:u[e]=35
 ·rw[if_pos,q]
  exact(hz _).mpr ⟨e,Z6 hs,by rw[hc,q]⟩
 ·have q2:u[e]=46:=by
   rcases sg with z | z
   ·exact absurd z q
   ·exact z
  rw[if_neg,q2]
  intro h
  obtain⟨e',h1,h2⟩:=(hz _).mp h
  obtain⟨y,hy,ey⟩:=AfV h1
  have yx:y=x:=by omega
  rw[yx] at hy
  have le':e'<m:=by have:=(List.getElem?_eq_some_iff.mp hy).1;rwa [FZ,Ib] at this
  have k1:=(Wo hs).1
  have k2:=(Wo hy).1
  rw[Aar he] at k1
  rw[Aar le',← k1] at k2
  have k3:=Option.some.inj k2
  have c1:=Ac0 hcl e
  have c2:=Ac0 hcl e'
  rw[k3,c1] at c2
  have c3:=Option.some.inj c2
  rw[AkH,AkH,h2,hc] at c3
  exact q c3
def shown(u wa:List Nat)(c:Nat):List Nat:=(List.range u.length).map fun k=>if u.getD k 0=35 then wa.getD k 0 else c
theorem Ve(u wa:List Nat)(c:Nat):(shown u wa c).length=u.length:=by unfold shown;rw[AkE,AkV]
theorem Vf{u wa:List Nat}{c k:Nat}(h:k<u.length):(shown u wa c).getD k 0=if u.getD k 0=35 then wa.getD k 0 else c:=by
 unfold shown
 simp[List.getD,h]
def Ow (cl:List (List Nat))(wa we:List Nat):List (List Nat):=(List.range cl.length).map fun j=>shown (cl.getD j []) wa (we.getD j 0)
theorem Ox(cl:List (List Nat))(wa we:List Nat):(Ow cl wa we).length=cl.length:=by unfold Ow;rw[AkE,AkV]
theorem Ac1{cl:List (List Nat)}{wa we:List Nat}{j:Nat}(h:j<cl.length):(Ow cl wa we)[j]?=some (shown (cl.getD j []) wa (we.getD j 0)):=by
 unfold Ow
 rw[AkM,Al3 h]
 rfl
def Co (c:Nat):Prop:=97≤c∧c≤102
def hs (x e p:Nat):Nat:=if e=x then (if p=x then 63 else 35) else if p=x then 46 else 33
def Fy (u wa:List Nat)(c:Nat):List Nat:=(List.range u.length).map fun k=>hs (u.getD k 0) (wa.getD k 0) c
theorem Ml(u wa:List Nat)(c:Nat):(Fy u wa c).length=u.length:=by unfold Fy;rw[AkE,AkV]
theorem Tf{u wa:List Nat}{c k:Nat}(h:k<u.length):(Fy u wa c)[k]?=some (hs (u.getD k 0) (wa.getD k 0) c):=by
 unfold Fy
 rw[AkM,Al3 h]
 rfl
theorem Vg{u wa:List Nat}{c k:Nat}(h:k<u.length):(Fy u wa c).getD k 0=hs (u.getD k 0) (wa.getD k 0) c:=by
 rw[AkH,Tf h]
 rfl
def DR (cl:List (List Nat))(wa we:List Nat):List (List Nat):=(List.range cl.length).map fun j=>Fy (cl.getD j []) wa (we.getD j 0)
theorem JB(cl:List (List Nat))(wa we:List Nat):(DR cl wa we).length=cl.length:=by unfold DR;rw[AkE,AkV]
theorem Tg{cl:List (List Nat)}{wa we:List Nat}{j:Nat}(h:j<cl.length):(DR cl wa we)[j]?=some (Fy (cl.getD j []) wa (we.getD j 0)):=by
 unfold DR
 rw[AkM,Al3 h]
 rfl
theorem AhA{x e p:Nat}:hs x e p=33↔e≠x∧p≠x:=by
 unfold hs
 split <;> split <;> simp_all
structure Pic (cl:List (List Nat)) (m n:Nat):Prop where
 hn:cl.length=n
 hm:∀ t∈cl,t.length=m
 co:∀ t∈cl,∀ c∈t,Co c
 m1:1≤m
 m40:m≤40
 n1:1≤n
 n40:n≤40
end Mine
namespace Mine
def crs (pic:List (List Nat))(m v w:Nat):Nat:=if v<m then (pic.getD (w-m) []).getD v 0 else (pic.getD (v-m) []).getD w 0
def Bip (m v w:Nat):Prop:=(v<m∧m≤w)∨(m≤v∧w<m)
theorem Bip.symm{m v w:Nat}(h:Bip m v w):Bip m w v:=by unfold Bip at *;omega
theorem Aas{pic:List (List Nat)}{m v w:Nat}(h:Bip m v w):crs pic m v w=crs pic m w v:=by
 unfold crs
 rcases h with ⟨h1,h2⟩ | ⟨h1,h2⟩
 ·rw[if_pos h1,if_neg (by omega)]
 ·rw[if_neg (by omega),if_pos h2]
def nbr (m v j:Nat):Nat:=if v<m then m+j else j
def deg (m n v:Nat):Nat:=if v<m then n else m
theorem AdY{m n v j:Nat}(hj:j<deg m n v):Bip m v (nbr m v j)∧nbr m v j<m+n:=by
 unfold deg at hj
 unfold Bip nbr
 split at hj <;> split <;> omega
theorem AfW{m n v w:Nat}(h:Bip m v w)(hw:w<m+n):∃ j,j<deg m n v∧nbr m v j=w:=by
 unfold Bip at h
 unfold deg nbr
 by_cases hv:v<m
 ·exact⟨w-m,by rw[if_pos hv];omega,by rw[if_pos hv];omega⟩
 ·exact⟨w,by rw[if_neg hv];omega,by rw[if_neg hv]⟩
theorem Fd{g:List (Nat × Nat)}{v c:Nat}(h:g.lookup v=some c):(v,c)∈g:=by
 induction g with
 | nil=>simp at h
 | cons p g ih =>
  rw[Alb] at h
  cases e:v == p.1 with
  | true =>
   rw[e] at h
   cases h
   have:v=p.1:=by simpa using e
   rw[this]
   exact AkS
  | false =>
   rw[e] at h
   exact AkX _ (ih h)
theorem Gs{g:List (Nat × Nat)}{v c:Nat}(nd:(g.map (·.1)).Nodup)(h:(v,c)∈g):g.lookup v=some c:=by
 induction g with
 | nil=>cases h
 | cons p g ih =>
  rw[AkQ,List.nodup_cons] at nd
  rcases List.mem_cons.mp h with e | h'
  ·rw[← e,Alb];simp
  ·have:v≠p.1:=fun z=>nd.1 (by rw[← z];exact List.mem_map.mpr ⟨_,h',rfl⟩)
   rw[Alb]
   have e:(v == p.1)=false:=by simpa using this
   rw[e]
   exact ih nd.2 h'
theorem Vh{g:List (Nat × Nat)}{v:Nat}(h:g.lookup v=none):v∉g.map (·.1):=by
 intro z
 obtain⟨p,hp,e⟩:=List.mem_map.mp z
 induction g with
 | nil=>cases hp
 | cons q g ih =>
  rw[Alb] at h
  cases e2:v == q.1 with
  | true=>rw[e2] at h;cases h
  | false =>
   rw[e2] at h
   rcases List.mem_cons.mp hp with e3 | hp'
   ·subst e3
    rw[e] at e2
    simp at e2
   ·exact ih h (List.mem_map.mpr ⟨p,hp',e⟩) hp'
theorem Ie{g h:List (Nat × Nat)}{v:Nat}:(g++h).lookup v=(g.lookup v).or (h.lookup v):=by
 induction g with
 | nil=>simp
 | cons p g ih =>
  rw[List.cons_append,Alb,Alb]
  cases v == p.1 with
  | true=>rfl
  | false=>exact ih
theorem Gj{g h:List (Nat × Nat)}{v c:Nat}(e:g.lookup v=some c):(g++h).lookup v=some c:=by rw[Ie,e];rfl
structure Fit (pic:List (List Nat)) (m n:Nat) (told:List Nat) (O:Nat→Nat):Prop where
 cr:∀ v w,v<m+n→w<m+n→Bip m v w→O v=crs pic m v w∨O w=crs pic m v w
 td:∀ v,v<m+n→told.getD v 0=63∨told.getD v 0=O v
 co:∀ v,v<m+n→97≤O v∧O v≤102
structure Bor (pic:List (List Nat)) (m n:Nat) (told:List Nat) (b:List (Nat × Nat)):Prop where
 nd:(b.map (·.1)).Nodup
 lt:∀ p∈b,p.1<m+n
 co:∀ p∈b,97≤p.2∧p.2≤102
 td:∀ p∈b,told.getD p.1 0=63∨told.getD p.1 0=p.2
 cl:∀ p∈b,∀ w,w<m+n→Bip m p.1 w→crs pic m p.1 w=p.2∨b.lookup w=some (crs pic m p.1 w)
structure Ch (pic:List (List Nat)) (m n:Nat) (told:List Nat) (b:List (Nat × Nat)) (O:Nat→Nat) (s0 c0:Nat) (g:List (Nat × Nat)) (ps:List (Nat × Option Nat)):Prop where
 keys:ps.map (·.1)=g.map (·.1)
 nd:(g.map (·.1)).Nodup
 lt:∀ p∈g,p.1<m+n
 co:∀ p∈g,97≤p.2∧p.2≤102
 fst:g[0]?=some (s0,c0)
 td:∀ p∈g,p.1≠s0→told.getD p.1 0=63∨told.getD p.1 0=p.2
 nb:∀ p∈g,b.lookup p.1=none
 ah:∀(i k c:Nat),ps[i]?=some (k,some c)→∃(j:Nat) (c':Option Nat),j<i∧ps[j]?=some (c,c')
 ag:O s0=c0→∀ p∈g,p.2=O p.1
theorem Z7:∀(N:Nat) (l:List Nat),l.Nodup→(∀ x∈l,x<N)→l.length≤N
 | 0,l,_,h=>by
  cases l with
  | nil=>exact AkF _
  | cons a l=>exact absurd (h a AkS) (by omega)
 | N+1,l,nd,h=>by
  have ih:=Z7 N (l.filter (· != N)) (nd.sublist List.filter_sublist) fun x hx=>by
   obtain⟨h1,h2⟩:=List.mem_filter.mp hx
   have:=h x h1
   have:x≠N:=by simpa using h2
   omega
  have:l.length≤(l.filter (· != N)).length+1:=by
   clear ih h
   induction l with
   | nil=>simp
   | cons a l ih =>
    rw[List.nodup_cons] at nd
    by_cases e:a=N
    ·have:l.filter (· != N)=l:=List.filter_eq_self.mpr fun x hx=>by
      have:x≠N:=fun z=>nd.1 (by rw[e,← z];exact hx)
      simpa using this
     rw[AlE (by simp[e]),this]
     exact AkF _
    ·rw[AlF (by simpa using e),Ala,Ala]
     have:=ih nd.2
     omega
  omega
section
variable {pic:List (List Nat)}{m n:Nat}{told:List Nat}{b g:List (Nat × Nat)}{O:Nat→Nat}{s0 c0:Nat}{ps:List (Nat × Option Nat)}
def Mt (pic:List (List Nat))(m:Nat)(b g:List (Nat × Nat))(v c j:Nat):Prop:=∀ i,i<j→crs pic m v (nbr m v i)=c∨b.lookup (nbr m v i)=some (crs pic m v (nbr m v i))∨g.lookup (nbr m v i)=some (crs pic m v (nbr m v i))
theorem Mt.grow{v c j:Nat}(h:Mt pic m b g v c j)(x:List (Nat × Nat)):Mt pic m b (g++x) v c j:=fun i hi=>by
 rcases h i hi with z | z | z
 ·exact .inl z
 ·exact .inr (.inl z)
 ·exact .inr (.inr (Gj z))
theorem Mt.succ{v c j:Nat}(h:Mt pic m b g v c j)(x:crs pic m v (nbr m v j)=c∨b.lookup (nbr m v j)=some (crs pic m v (nbr m v j))∨g.lookup (nbr m v j)=some (crs pic m v (nbr m v j))):Mt pic m b g v c (j+1):=fun i hi=>by
 by_cases e:i<j
 ·exact h i e
 ·have:i=j:=by omega
  subst this
  exact x
theorem Ch.bor(C:Ch pic m n told b O s0 c0 g ps)(B:Bor pic m n told b)(t0:told.getD s0 0=63∨told.getD s0 0=c0)(all:∀(i v c:Nat),g[i]?=some (v,c)→Mt pic m b g v c (deg m n v)):Bor pic m n told (b++g) where
 nd:=by
  rw[AkL]
  refine List.nodup_append.mpr ⟨B.nd,C.nd,fun x hx y hy z=>?_⟩
  obtain⟨p,hp,e1⟩:=List.mem_map.mp hx
  obtain⟨q,hq,e2⟩:=List.mem_map.mp hy
  have h1:=C.nb q hq
  rw[e2,← z,← e1] at h1
  rw[Gs B.nd (show(p.1,p.2)∈b from hp)] at h1
  cases h1
 lt:=fun p hp=>(List.mem_append.mp hp).elim (B.lt p) (C.lt p)
 co:=fun p hp=>(List.mem_append.mp hp).elim (B.co p) (C.co p)
 td:=fun p hp=>by
  rcases List.mem_append.mp hp with h | h
  ·exact B.td p h
  ·by_cases e:p.1=s0
   ·have:p.2=c0:=by
     have h0:=AkI C.fst
     have l1:=Gs C.nd h0
     have l2:=Gs C.nd (show(p.1,p.2)∈g from h)
     rw[e,l1] at l2
     exact(Option.some.inj l2).symm
    rw[e,this]
    exact t0
   ·exact C.td p h e
 cl:=fun p hp w hw hb=>by
  rcases List.mem_append.mp hp with h | h
  ·rcases B.cl p h w hw hb with z | z
   ·exact .inl z
   ·exact .inr (Gj z)
  ·obtain⟨i,hi⟩:=AlD h
   obtain⟨j,hj,ej⟩:=AfW hb hw
   rcases all i p.1 p.2 hi j hj with z | z | z
   ·rw[ej] at z;exact .inl z
   ·rw[ej] at z;exact .inr (Gj z)
   ·rw[ej] at z
    refine .inr ?_
    rw[Ie]
    cases e:b.lookup w with
    | none=>exact z
    | some d =>
     have:=C.nb _ (Fd z)
     rw[e] at this
     cases this
end
end Mine
namespace Mine
structure Cn (pic:List (List Nat)) (m n:Nat) (told:List Nat) (b:List (Nat × Nat)) (s0 c0:Nat) (g:List (Nat × Nat)) (ps:List (Nat × Option Nat)):Prop where
 keys:ps.map (·.1)=g.map (·.1)
 nd:(g.map (·.1)).Nodup
 lt:∀ p∈g,p.1<m+n
 co:∀ p∈g,97≤p.2∧p.2≤102
 fst:g[0]?=some (s0,c0)
 td:∀ p∈g,p.1≠s0→told.getD p.1 0=63∨told.getD p.1 0=p.2
 nb:∀ p∈g,b.lookup p.1=none
 ah:∀(i k c:Nat),ps[i]?=some (k,some c)→∃(j:Nat) (c':Option Nat),j<i∧ps[j]?=some (c,c')
 ag:∀ O,Fit pic m n told O→O s0=c0→∀ p∈g,p.2=O p.1
 ed:∀ w u,(w,some u)∈ps→Bip m u w∧g.lookup w=some (crs pic m u w)∧∃ cu,g.lookup u=some cu∧crs pic m u w≠cu
 rt:∀ w,(w,none)∈ps→w=s0
section
variable {pic:List (List Nat)}{m n:Nat}{told:List Nat}{b g:List (Nat × Nat)}{s0 c0:Nat}{ps:List (Nat × Option Nat)}
theorem Cn.len(C:Cn pic m n told b s0 c0 g ps):g.length≤m+n:=by
 have:=Z7 (m+n) (g.map (·.1)) C.nd fun x hx=>by
  obtain⟨p,hp,rfl⟩:=List.mem_map.mp hx
  exact C.lt p hp
 rwa [AkE] at this
theorem Cn.AdZ(C:Cn pic m n told b s0 c0 g ps):ps.length=g.length:=by
 have:=congrArg List.length C.keys
 rwa [AkE,AkE] at this
theorem Cn.start(hs:s0<m+n)(hc:97≤c0∧c0≤102)(hb:b.lookup s0=none):Cn pic m n told b s0 c0 [(s0,c0)] [(s0,none)] where
 keys:=rfl
 nd:=by simp
 lt:=fun p hp=>by rw[List.mem_singleton.mp hp];exact hs
 co:=fun p hp=>by rw[List.mem_singleton.mp hp];exact hc
 fst:=rfl
 td:=fun p hp h=>absurd (by rw[List.mem_singleton.mp hp]) h
 nb:=fun p hp=>by rw[List.mem_singleton.mp hp];exact hb
 ah:=fun i k c h=>by
  cases i with
  | zero=>cases h
  | succ i=>simp at h
 ag:=fun O _ e p hp=>by rw[List.mem_singleton.mp hp];exact e.symm
 ed:=fun w u h=>by simp at h
 rt:=fun w h=>by simpa using h
theorem Cn.ask(C:Cn pic m n told b s0 c0 g ps){O:Nat→Nat}(F:Fit pic m n told O)(e:O s0=c0){v c w:Nat}(hv:(v,c)∈g)(hw:w<m+n)(hb:Bip m v w)(ne:crs pic m v w≠c):O w=crs pic m v w:=by
 have h1:=C.ag O F e _ hv
 have h2:=C.lt _ hv
 rcases F.cr v w h2 hw hb with z | z
 ·exact absurd (z.symm.trans h1.symm) ne
 ·exact z
theorem Cn.no1(C:Cn pic m n told b s0 c0 g ps){v c w d:Nat}(hv:(v,c)∈g)(hw:w<m+n)(hb:Bip m v w)(ne:crs pic m v w≠c)(hd:g.lookup w=some d)(nd:d≠crs pic m v w):∀ O,Fit pic m n told O→O s0≠c0 :=
 fun O F e=>nd ((C.ag O F e _ (Fd hd)).trans (C.ask F e hv hw hb ne))
theorem Cn.no2(C:Cn pic m n told b s0 c0 g ps){v c w:Nat}(hv:(v,c)∈g)(hw:w<m+n)(hb:Bip m v w)(ne:crs pic m v w≠c)(t1:told.getD w 0≠63)(t2:told.getD w 0≠crs pic m v w):∀ O,Fit pic m n told O→O s0≠c0:=by
 intro O F e
 rcases F.td w hw with z | z
 ·exact t1 z
 ·exact t2 (z.trans (C.ask F e hv hw hb ne))
theorem Cn.step(C:Cn pic m n told b s0 c0 g ps)(B:Bor pic m n told b){i v c w:Nat}(hi:g[i]?=some (v,c))(hw:w<m+n)(hb:Bip m v w)(ne:crs pic m v w≠c)(hcr:97≤crs pic m v w∧crs pic m v w≤102)
  (nb:b.lookup w≠some (crs pic m v w)) (ng:g.lookup w=none) (t:told.getD w 0=63∨told.getD w 0=crs pic m v w):Cn pic m n told b s0 c0 (g++[(w,crs pic m v w)]) (ps++[(w,some v)]):=by
 have hv:=AkI hi
 have bw:b.lookup w=none:=by
  cases e:b.lookup w with
  | none=>rfl
  | some d =>
   exfalso
   rcases B.cl _ (Fd e) v (C.lt _ hv) hb.symm with z | z
   ·exact nb (by rw[e,Aas hb,z])
   ·rw[C.nb _ hv] at z;cases z
 have nw:=Vh ng
 have AfX:(g++[(w,crs pic m v w)]).lookup w=some (crs pic m v w):=by rw[Ie,ng];simp
 refine⟨?_,?_,fun p hp=>?_,fun p hp=>?_,?_,fun p hp h=>?_,fun p hp=>?_,fun j k d h=>?_,fun O F e p hp=>?_,fun w' u' h=>?_,fun w' h=>?_⟩
 ·rw[AkL,AkL,C.keys];rfl
 ·rw[AkL]
  refine List.nodup_append.mpr ⟨C.nd,by simp,fun a ha b hb z=>nw ?_⟩
  rw[List.mem_singleton.mp hb] at z
  have z:a=w:=z
  rw[← z]
  exact ha
 ·rcases List.mem_append.mp hp with h | h
  ·exact C.lt p h
  ·rw[List.mem_singleton.mp h];exact hw
 ·rcases List.mem_append.mp hp with h | h
  ·exact C.co p h
  ·rw[List.mem_singleton.mp h];exact hcr
 ·rw[AkR (List.getElem?_eq_some_iff.mp C.fst).1];exact C.fst
 ·rcases List.mem_append.mp hp with h' | h'
  ·exact C.td p h' h
  ·rw[List.mem_singleton.mp h'];exact t
 ·rcases List.mem_append.mp hp with h | h
  ·exact C.nb p h
  ·rw[List.mem_singleton.mp h];exact bw
 ·by_cases hj:j<ps.length
  ·rw[AkR hj] at h
   obtain⟨j',c',h1,h2⟩:=C.ah j k d h
   exact⟨j',c',h1,by rw[AkR (by omega)];exact h2⟩
  ·have hj2:=(List.getElem?_eq_some_iff.mp h).1
   rw[AkG,Ali] at hj2
   have ej:j=ps.length:=by omega
   rw[ej,AkY (AkF _),Alp] at h
   cases h
   have il:i<ps.length:=by rw[C.AdZ];exact(List.getElem?_eq_some_iff.mp hi).1
   have e2:(ps.map (·.1))[i]?=some v:=by rw[C.keys,AkM,hi];rfl
   rw[AkM] at e2
   obtain⟨q,hq,eq⟩:=Option.map_eq_some_iff.mp e2
   refine⟨i,q.2,by omega,?_⟩
   rw[AkR il,hq,← eq]
 ·rcases List.mem_append.mp hp with h | h
  ·exact C.ag O F e p h
  ·rw[List.mem_singleton.mp h];exact(C.ask F e hv hw hb ne).symm
 ·rcases List.mem_append.mp h with h | h
  ·obtain⟨a1,a2,cu,a3,a4⟩:=C.ed w' u' h
   exact⟨a1,Gj a2,cu,Gj a3,a4⟩
  ·have e:=List.mem_singleton.mp h
   injection e with e1 e2
   injection e2 with e2
   subst e1 e2
   exact⟨hb,AfX,c,Gj (Gs C.nd hv),ne⟩
 ·rcases List.mem_append.mp h with h | h
  ·exact C.rt w' h
  ·have e:=List.mem_singleton.mp h
   injection e with e1 e2
   cases e2
theorem Cn.bor(C:Cn pic m n told b s0 c0 g ps)(B:Bor pic m n told b)(t0:told.getD s0 0=63∨told.getD s0 0=c0)(all:∀(i v c:Nat),g[i]?=some (v,c)→Mt pic m b g v c (deg m n v)):Bor pic m n told (b++g):=by
 have C':Ch pic m n told b (fun _=>c0+1) s0 c0 g ps:=⟨C.keys,C.nd,C.lt,C.co,C.fst,C.td,C.nb,C.ah,fun e=>by omega⟩
 exact C'.bor B t0 all
def runs(pic:List (List Nat))(m:Nat):Nat→List Nat→Prop
 | _,[]=>True
 | _,[_]=>True
 | x,a::b::r=>Bip m a b∧crs pic m a b≠x∧runs pic m (crs pic m a b) (b::r)
def fin (pic:List (List Nat))(m:Nat):Nat→List Nat→Nat
 | x,[]=>x
 | x,[_]=>x
 | _,a::b::r=>fin pic m (crs pic m a b) (b::r)
theorem R1{a:Nat}{B:List Nat}:∀{A:List Nat} {x:Nat},fin pic m x (A++a::B)=fin pic m (fin pic m x (A++[a])) (a::B)
 | [],x=>rfl
 | [c],x=>by
  show fin pic m (crs pic m c a) (a::B)=fin pic m (fin pic m (crs pic m c a) [a]) (a::B)
  rfl
 | c::d::A,x=>by
  show fin pic m (crs pic m c d) (d::A++a::B)=fin pic m (fin pic m (crs pic m c d) (d::A++[a])) (a::B)
  exact R1 (A:=d::A)
theorem Oz{a:Nat}{B:List Nat}:∀{A:List Nat} {x:Nat},runs pic m x (A++a::B)↔runs pic m x (A++[a])∧runs pic m (fin pic m x (A++[a])) (a::B)
 | [],x=>⟨fun h=>⟨trivial,h⟩,fun h=>h.2⟩
 | [c],x=>by
  show(Bip m c a∧crs pic m c a≠x∧runs pic m (crs pic m c a) (a::B))↔(Bip m c a∧crs pic m c a≠x∧True)∧runs pic m (crs pic m c a) (a::B)
  exact⟨fun⟨h1,h2,h3⟩=>⟨⟨h1,h2,trivial⟩,h3⟩,fun⟨⟨h1,h2,_⟩,h3⟩=>⟨h1,h2,h3⟩⟩
 | c::d::A,x=>by
  have ih:=Oz (a:=a) (B:=B) (A:=d::A) (x:=crs pic m c d)
  show(Bip m c d∧crs pic m c d≠x∧runs pic m (crs pic m c d) (d::A++a::B))↔(Bip m c d∧crs pic m c d≠x∧runs pic m (crs pic m c d) (d::A++[a]))∧runs pic m (fin pic m (crs pic m c d) (d::A++[a])) (a::B)
  rw[ih]
  exact⟨fun⟨h1,h2,h3,h4⟩=>⟨⟨h1,h2,h3⟩,h4⟩,fun⟨⟨h1,h2,h3⟩,h4⟩=>⟨h1,h2,h3,h4⟩⟩
def UpC (ps:List (Nat × Option Nat)):List Nat→Prop
 | []=>True
 | [_]=>True
 | a::b::r=>(b,some a)∈ps∧UpC ps (b::r)
def Dw (ps:List (Nat × Option Nat)):List Nat→Prop
 | []=>True
 | [_]=>True
 | a::b::r=>(a,some b)∈ps∧Dw ps (b::r)
theorem Dw.snoc{a b:Nat}:∀{A:List Nat},Dw ps (A++[a])→(a,some b)∈ps→Dw ps (A++[a]++[b])
 | [],_,h=>⟨h,trivial⟩
 | [c],d,h=>⟨d.1,h,trivial⟩
 | c::e::A,d,h=>⟨d.1,Dw.snoc (A:=e::A) d.2 h⟩
theorem UpC.snoc{a b:Nat}:∀{A:List Nat},UpC ps (A++[a])→(b,some a)∈ps→UpC ps (A++[a]++[b])
 | [],_,h=>⟨h,trivial⟩
 | [c],d,h=>⟨d.1,h,trivial⟩
 | c::e::A,d,h=>⟨d.1,UpC.snoc (A:=e::A) d.2 h⟩
theorem Dw.rev:∀{A:List Nat},Dw ps A→UpC ps A.reverse
 | [],_=>trivial
 | [c],_=>trivial
 | c::e::A,d=>by
  have ih:=Dw.rev (A:=e::A) d.2
  rw[Al0,Al0]
  rw[Al0] at ih
  exact UpC.snoc ih d.1
theorem O1(C:Cn pic m n told b s0 c0 g ps):∀{A:List Nat} {u cu:Nat},g.lookup u=some cu→UpC ps (u::A)→runs pic m cu (u::A)∧∀ l,(u::A).getLast?=some l→g.lookup l=some (fin pic m cu (u::A))
 | [],u,cu,h,_=>⟨trivial,fun l hl=>by
  have hl:u=l:=by simpa using hl
  rw[← hl]
  exact h⟩
 | v::A,u,cu,h,d=>by
  obtain⟨bp,lv,cu',h',ne⟩:=C.ed v u d.1
  rw[h] at h'
  cases h'
  obtain⟨r1,r2⟩:=O1 C (A:=A) lv d.2
  exact⟨⟨bp,ne,r1⟩,fun l hl=>r2 l (by rw[List.getLast?_cons_cons] at hl;exact hl)⟩
theorem Aat(C:Cn pic m n told b s0 c0 g ps):∀{A:List Nat} {u cu x:Nat},g.lookup u=some cu→x≠cu→Dw ps (u::A)→runs pic m x (u::A)∧∀ l cl,(u::A).getLast?=some l→g.lookup l=some cl→fin pic m x (u::A)≠cl
 | [],u,cu,x,h,hx,_=>⟨trivial,fun l cl hl e=>by
  have hl:u=l:=by simpa using hl
  rw[← hl,h] at e
  cases e
  exact hx⟩
 | v::A,u,cu,x,h,hx,d=>by
  obtain⟨bp,lu,cv,hv,ne⟩:=C.ed u v d.1
  rw[h] at lu
  have ec:cu=crs pic m v u:=Option.some.inj lu
  have es:crs pic m u v=cu:=by rw[ec];exact(Aas bp).symm
  obtain⟨r1,r2⟩:=Aat C (A:=A) (x:=crs pic m u v) hv (by rw[es,ec];exact ne) d.2
  exact⟨⟨bp.symm,by rw[es];exact hx.symm,r1⟩,fun l cl hl e=>r2 l cl (by rw[List.getLast?_cons_cons] at hl;exact hl) e⟩
structure Rgt (pic:List (List Nat)) (m n:Nat) (told:List Nat) (s0 c0:Nat) (L:List Nat):Prop where
 two:2≤L.length
 le:L.length≤6*(m+n)+1
 lt:∀ v∈L,v<m+n
 fst:L[0]?=some s0
 run:runs pic m c0 L
 lst:∀ l,L.getLast?=some l→(l=s0∧fin pic m c0 L≠c0)∨(told.getD l 0≠63∧told.getD l 0≠fin pic m c0 L)
theorem Rgt.back(C:Cn pic m n told b s0 c0 g ps){A B:List Nat}{v w c d:Nat}(hA:UpC ps (A++[v]))(a0:(A++[v])[0]?=some s0)(hB:Dw ps (w::B))(b0:(w::B).getLast?=some s0)(hv:g.lookup v=some c)(hw:g.lookup w=some d)
  (bp:Bip m v w) (ne:crs pic m v w≠c) (nd:d≠crs pic m v w) (lA:(A++[v]).length≤m+n) (lB:(w::B).length≤m+n) (ltA:∀ x∈A++[v],x<m+n) (ltB:∀ x∈w::B,x<m+n) :
  Rgt pic m n told s0 c0 ((A++[v])++(w::B)):=by
 have l0:g.lookup s0=some c0:=Gs C.nd (AkI C.fst)
 have hup:runs pic m c0 (A++[v])∧∀ l,(A++[v]).getLast?=some l→g.lookup l=some (fin pic m c0 (A++[v])):=by
  cases A with
  | nil =>
   have e:v=s0:=by simpa using a0
   exact O1 C (A:=[]) (u:=v) (by rw[e];exact l0) hA
  | cons a A =>
   have e:a=s0:=by simpa using a0
   exact O1 C (A:=A++[v]) (u:=a) (by rw[e];exact l0) hA
 have fv:fin pic m c0 (A++[v])=c:=by
  have:=hup.2 v (by simp)
  rw[hv] at this
  exact(Option.some.inj this).symm
 obtain⟨r1,r2⟩:=Aat C (x:=crs pic m v w) hw nd.symm hB
 have eq:(A++[v])++(w::B)=A++v::(w::B):=by simp
 have er:runs pic m c0 (A++v::(w::B)):=Oz.mpr ⟨hup.1,by rw[fv];exact⟨bp,ne,r1⟩⟩
 have ef:fin pic m c0 (A++v::(w::B))=fin pic m (crs pic m v w) (w::B):=by rw[R1];rfl
 refine⟨by rw[AkG,AkG,Ala,Ala];omega,by rw[AkG];omega,fun x hx=>?_,?_,by rw[eq];exact er,fun l hl=>.inl ?_⟩
 ·rcases List.mem_append.mp hx with h | h
  ·exact ltA x h
  ·exact ltB x h
 ·rw[AkR (by rw[AkG,Ali];omega)]
  exact a0
 ·have hl2:l=s0:=by
   rw[List.getLast?_append,b0] at hl
   simpa using hl.symm
  refine⟨hl2,?_⟩
  rw[eq,ef]
  exact r2 s0 c0 b0 l0
theorem Rgt.AhB(C:Cn pic m n told b s0 c0 g ps){A:List Nat}{v w c:Nat}(hA:UpC ps (A++[v]))(a0:(A++[v])[0]?=some s0)(hv:g.lookup v=some c)
  (bp:Bip m v w) (ne:crs pic m v w≠c) (t1:told.getD w 0≠63) (t2:told.getD w 0≠crs pic m v w) (lA:(A++[v]).length≤m+n) (ltA:∀ x∈A++[v],x<m+n) (hw:w<m+n) :
  Rgt pic m n told s0 c0 ((A++[v])++[w]):=by
 have l0:g.lookup s0=some c0:=Gs C.nd (AkI C.fst)
 have hup:runs pic m c0 (A++[v])∧∀ l,(A++[v]).getLast?=some l→g.lookup l=some (fin pic m c0 (A++[v])):=by
  cases A with
  | nil =>
   have e:v=s0:=by simpa using a0
   exact O1 C (A:=[]) (u:=v) (by rw[e];exact l0) hA
  | cons a A =>
   have e:a=s0:=by simpa using a0
   exact O1 C (A:=A++[v]) (u:=a) (by rw[e];exact l0) hA
 have fv:fin pic m c0 (A++[v])=c:=by
  have:=hup.2 v (by simp)
  rw[hv] at this
  exact(Option.some.inj this).symm
 have eq:(A++[v])++[w]=A++v::[w]:=by simp
 have er:runs pic m c0 (A++v::[w]):=Oz.mpr ⟨hup.1,by rw[fv];exact⟨bp,ne,trivial⟩⟩
 have ef:fin pic m c0 (A++v::[w])=crs pic m v w:=by rw[R1];rfl
 refine⟨by rw[AkG,AkG];simp,by rw[AkG,Ali];omega,fun x hx=>?_,?_,by rw[eq];exact er,fun l hl=>.inr ?_⟩
 ·rcases List.mem_append.mp hx with h | h
  ·exact ltA x h
  ·rw[List.mem_singleton.mp h];exact hw
 ·rw[AkR (by rw[AkG,Ali];omega)]
  exact a0
 ·have:l=w:=by
   rw[List.getLast?_append] at hl
   simpa using hl.symm
  rw[this,eq,ef]
  exact⟨t1,t2⟩
theorem Aea{x:Nat}{L:List Nat}(h:runs pic m x L){k a b:Nat}(ha:L[k]?=some a)(hb:L[k+1]?=some b) :
  Bip m a b∧crs pic m a b≠fin pic m x (L.take (k+1))∧fin pic m x (L.take (k+2))=crs pic m a b:=by
 obtain⟨h1,e1⟩:=List.getElem?_eq_some_iff.mp ha
 obtain⟨h2,e2⟩:=List.getElem?_eq_some_iff.mp hb
 have d:L=L.take k++a::b::L.drop (k+2):=by
  conv=>lhs;rw[← AlX k L]
  congr 1
  rw[List.drop_eq_getElem_cons h1,List.drop_eq_getElem_cons h2,e1,e2]
 have t1:L.take (k+1)=L.take k++[a]:=by rw[Ale,ha];rfl
 have t2:L.take (k+2)=L.take k++a::[b]:=by rw[Ale,t1,hb];simp
 rw[d] at h
 have h3:=(Oz.mp h).2
 refine⟨h3.1,?_,?_⟩
 ·rw[t1];exact h3.2.1
 ·rw[t2,R1];rfl
def Lx (pic:List (List Nat))(m n:Nat)(told:List Nat)(b:List (Nat × Nat)):Prop:=∀ O,Fit pic m n told O→∀ s c,b.lookup s=some c→(∀ v,v<s→∀ d,b.lookup v=some d→O v=d)→c≤O s
theorem Lx.step(C:Cn pic m n told b s0 c0 g ps)(X:Lx pic m n told b)(before:∀ v,v<s0→b.lookup v≠none)(first:∀ O,Fit pic m n told O→c0≤O s0):Lx pic m n told (b++g):=by
 intro O F s c hs hv
 rw[Ie] at hs
 cases e:b.lookup s with
 | some d =>
  rw[e] at hs
  have:d=c:=by simpa using hs
  subst this
  exact X O F s d e fun v hv1 d' hd'=>hv v hv1 d' (Gj hd')
 | none =>
  rw[e] at hs
  have hg:g.lookup s=some c:=by simpa using hs
  have l0:g.lookup s0=some c0:=Gs C.nd (AkI C.fst)
  by_cases es:s=s0
  ·subst es
   rw[l0] at hg
   cases hg
   exact first O F
  ·have lt:s0<s:=by
    rcases Nat.lt_trichotomy s s0 with h | h | h
    ·exact absurd e (before s h)
    ·exact absurd h es
    ·exact h
   have nb0:=C.nb _ (AkI C.fst)
   have:O s0=c0:=hv s0 lt c0 (by rw[Ie,nb0];simpa using l0)
   have:=C.ag O F this _ (Fd hg)
   exact Al4 this
end
def wid (cl:List (List Nat))(ac:Nat):List (List Nat):=cl.map fun t=>(List.replicate ac t).flatten
def til (cl:List (List Nat))(ac al:Nat):List (List Nat):=(List.replicate al (wid cl ac)).flatten
def Sq3 (c:Nat):Prop:=c=35∨c=46∨c=63
structure Hc (cl:List (List Nat)) (m n:Nat):Prop where
 hn:cl.length=n
 hm:∀ t∈cl,t.length=m
 sg:∀ t∈cl,∀ c∈t,Sq3 c
 m2:2≤m
 m40:m≤40
 n2:2≤n
 n40:n≤40
def sg2 (cl:List (List Nat))(p e:Nat):Nat:=(cl.getD p []).getD e 0
def Up (N:Int)(ks:List Int):Prop:=(∀(i:Nat) (a b:Int),ks[i]?=some a→ks[i+1]?=some b→a<b)∧∀ k∈ks,0≤k∧k<N
def Ai9 (N:Int)(ks:List Int):Prop:=ks≠[]∧Up N ks
def Kd (cl:List (List Nat))(m e:Nat)(k:Nat):List Int:=((List.range k).filter fun p=>decide (sg2 cl p e≠46)).map fun p=>(m:Int)+((p:Nat):Int)
def lowP(t:List Nat)(k:Nat):List Int:=((List.range k).filter fun e=>decide (t.getD e 0≠35)).map fun e=>((e:Nat):Int)
def lows(cl:List (List Nat))(m:Nat):List (List Int):=((List.range m).map fun e=>Kd cl m e cl.length)++cl.map fun t=>lowP t m
theorem JC(cl:List (List Nat))(m:Nat):(lows cl m).length=m+cl.length:=by
 unfold lows
 rw[AkG,AkE,AkE,AkV]
theorem O2{cl:List (List Nat)}{m e:Nat}(h:e<m):(lows cl m)[e]?=some (Kd cl m e cl.length):=by
 unfold lows
 rw[AkR (by rw[AkE,AkV];exact h),AkM,Al3 h]
 rfl
theorem Mm{cl:List (List Nat)}{m p:Nat}(h:p<cl.length):(lows cl m)[m+p]?=some (lowP cl[p] m):=by
 unfold lows
 rw[AkY (by rw[AkE,AkV];omega),AkE,AkV,Nat.add_sub_cancel_left,AkM,AkD h]
 rfl
theorem Yd{cl:List (List Nat)}{m e k:Nat}{x:Int}:x∈Kd cl m e k↔∃ p,p<k∧sg2 cl p e≠46∧x=(m:Int)+(p:Int):=by
 unfold Kd
 simp only [AlZ,Ama,List.mem_range,decide_eq_true_eq]
 constructor
 ·rintro⟨p,⟨h1,h2⟩,h3⟩;exact⟨p,h1,h2,h3.symm⟩
 ·rintro⟨p,h1,h2,h3⟩;exact⟨p,⟨h1,h2⟩,h3.symm⟩
theorem Ye{t:List Nat}{k:Nat}{x:Int}:x∈lowP t k↔∃ e,e<k∧t.getD e 0≠35∧x=(e:Int):=by
 unfold lowP
 simp only [AlZ,Ama,List.mem_range,decide_eq_true_eq]
 constructor
 ·rintro⟨p,⟨h1,h2⟩,h3⟩;exact⟨p,h1,h2,h3.symm⟩
 ·rintro⟨p,h1,h2,h3⟩;exact⟨p,⟨h1,h2⟩,h3.symm⟩
theorem Abu(cl:List (List Nat))(m e k:Nat):Kd cl m e (k+1)=if sg2 cl k e≠46 then Kd cl m e k++[(m:Int)+(k:Int)] else Kd cl m e k:=by
 unfold Kd
 rw[Alx,AlN,AkL]
 by_cases h:sg2 cl k e≠46
 ·rw[if_pos h,AlF (by exact decide_eq_true h)];rfl
 ·rw[if_neg h,AlE (by rw[decide_eq_false h];decide)];simp
theorem Abv(t:List Nat)(k:Nat):lowP t (k+1)=if t.getD k 0≠35 then lowP t k++[(k:Int)] else lowP t k:=by
 unfold lowP
 rw[Alx,AlN,AkL]
 by_cases h:t.getD k 0≠35
 ·rw[if_pos h,AlF (by exact decide_eq_true h)];rfl
 ·rw[if_neg h,AlE (by rw[decide_eq_false h];decide)];simp
theorem Yg(cl:List (List Nat))(m e k:Nat):(Kd cl m e k).length≤k:=by
 unfold Kd
 rw[AkE]
 exact AkZ (AlG _ _) (by rw[AkV];exact AkF _)
theorem Yh(t:List Nat)(k:Nat):(lowP t k).length≤k:=by
 unfold lowP
 rw[AkE]
 exact AkZ (AlG _ _) (by rw[AkV];exact AkF _)
def AjT (cl:List (List Nat))(m n:Nat)(ks:List Int):Prop:=∀(s:Nat) (l:List Int),s<m+n→(s:Int)∉ks→(lows cl m)[s]?=some l→∀ r∈l,r∉ks
def CutAt(cl:List (List Nat))(m:Nat)(ks:List Int)(p e:Nat):Prop:=((e:Int)∈ks→((m:Int)+(p:Int))∉ks→sg2 cl p e=35)∧(((m:Int)+(p:Int))∈ks→(e:Int)∉ks→sg2 cl p e=46)
inductive Wy (tss:List (List Int)) (s:Nat):Nat→Nat→Prop where
 | nil:Wy tss s 0 s
 | snoc {v w L:Nat} (h:Wy tss s L v) (e:(w:Int)∈tss.getD v []):Wy tss s (L+1) w
theorem Wy.last{tss:List (List Int)}{s L w:Nat}(h:Wy tss s (L+1) w):∃ v,Wy tss s L v∧(w:Int)∈tss.getD v []:=by
 cases h with
 | snoc h e=>exact⟨_,h,e⟩
theorem Wy.first{tss:List (List Int)}{s w:Nat}(h:Wy tss s 0 w):w=s:=by
 cases h
 rfl
structure Bf (tss:List (List Int)) (s:Nat) (ps:List (Nat × Option Nat)) (dp:List Nat):Prop where
 len:dp.length=ps.length
 st:ps[0]?=some (s,none)∧dp[0]?=some 0
 nd:∀(i j v:Nat) (a b:Option Nat),ps[i]?=some (v,a)→ps[j]?=some (v,b)→i=j
 lt:∀(v:Nat) (a:Option Nat),(v,a)∈ps→v<tss.length
 par:∀(i v:Nat) (a:Option Nat),0<i→ps[i]?=some (v,a)→∃(j u:Nat) (b:Option Nat) (d:Nat),a=some u∧j<i∧ps[j]?=some (u,b)∧dp[j]?=some d∧dp[i]?=some (d+1)∧(v:Int)∈tss.getD u []
 mono:∀(i j a b:Nat),i≤j→dp[i]?=some a→dp[j]?=some b→a≤b
theorem Bf.one{tss:List (List Int)}{s:Nat}(h:s<tss.length):Bf tss s [(s,none)] [0]:=by
 refine⟨rfl,⟨rfl,rfl⟩,fun i j v a b h1 h2=>?_,fun v a h1=>?_,fun i v a h0 h1=>?_,fun i j a b _ h1 h2=>?_⟩
 ·have g1:=(List.getElem?_eq_some_iff.mp h1).1
  have g2:=(List.getElem?_eq_some_iff.mp h2).1
  simp at g1 g2
  omega
 ·have:(v,a)=(s,none):=by simpa using h1
  cases this
  exact h
 ·have g1:=(List.getElem?_eq_some_iff.mp h1).1
  simp at g1
  omega
 ·have g1:=(List.getElem?_eq_some_iff.mp h1).1
  have g2:=(List.getElem?_eq_some_iff.mp h2).1
  simp at g1 g2
  subst g1
  subst g2
  rw[h1] at h2
  cases h2
  exact AkF _
theorem HH{α:Type}{l:List α}{x y:α}{i:Nat}(h:(l++[x])[i]?=some y):(i<l.length∧l[i]?=some y)∨(i=l.length∧y=x):=by
 by_cases hi:i<l.length
 ·rw[AkR hi] at h
  exact .inl ⟨hi,h⟩
 ·have hlt:=(List.getElem?_eq_some_iff.mp h).1
  rw[AkG] at hlt
  have hlt:i<l.length+1:=hlt
  have e:i=l.length:=by omega
  subst e
  rw[AkY (AkF _),Alp] at h
  cases h
  exact .inr ⟨rfl,rfl⟩
theorem Hy{α:Type}{l:List α}{x y:α}{i:Nat}(h:l[i]?=some y):(l++[x])[i]?=some y:=by
 rw[AkR (List.getElem?_eq_some_iff.mp h).1]
 exact h
theorem Th{α:Type}(l:List α)(x:α):(l++[x])[l.length]?=some x:=by
 rw[AkY (AkF _),Alp]
 rfl
theorem Bf.add{tss:List (List Int)}{s:Nat}{ps:List (Nat × Option Nat)}{dp:List Nat}(B:Bf tss s ps dp){pl u v d:Nat}{b:Option Nat}(hp:ps[pl]?=some (u,b))(hd:dp[pl]?=some d)(near:∀ j x:Nat,dp[j]?=some x→x≤d+1)
  (he:(v:Int)∈tss.getD u []) (hv:v<tss.length) (new:∀(i:Nat) (a:Option Nat),ps[i]?≠some (v,a)):Bf tss s (ps++[(v,some u)]) (dp++[d+1]):=by
 have pl1:=(List.getElem?_eq_some_iff.mp hp).1
 refine⟨by rw[AkG,AkG,B.len];rfl,⟨Hy B.st.1,Hy B.st.2⟩,fun i j w a c h1 h2=>?_,fun w a h1=>?_,fun i w a h0 h1=>?_,fun i j a c hij h1 h2=>?_⟩
 ·rcases HH h1 with ⟨i1,g1⟩ | ⟨i1,g1⟩ <;> rcases HH h2 with ⟨j1,g2⟩ | ⟨j1,g2⟩
  ·exact B.nd i j w a c g1 g2
  ·cases g2;exact absurd g1 (new i a)
  ·cases g1;exact absurd g2 (new j c)
  ·omega
 ·rcases List.mem_append.mp h1 with h | h
  ·exact B.lt w a h
  ·have:(w,a)=(v,some u):=by simpa using h
   cases this
   exact hv
 ·rcases HH h1 with ⟨i1,g1⟩ | ⟨i1,g1⟩
  ·obtain⟨j,x,c,e,q1,q2,q3,q4,q5,q6⟩:=B.par i w a h0 g1
   exact⟨j,x,c,e,q1,q2,Hy q3,Hy q4,Hy q5,q6⟩
  ·cases g1
   refine⟨pl,u,b,d,rfl,by omega,Hy hp,Hy hd,?_,he⟩
   rw[i1,← B.len]
   exact Th _ _
 ·rcases HH h1 with ⟨i1,g1⟩ | ⟨i1,g1⟩ <;> rcases HH h2 with ⟨j1,g2⟩ | ⟨j1,g2⟩
  ·exact B.mono i j a c hij g1 g2
  ·rw[g2];exact near i a g1
  ·omega
  ·rw[g1,g2];exact AkF _
def Dn (tss:List (List Int))(ps:List (Nat × Option Nat))(dp:List Nat)(pl:Nat):Prop :=
 ∀(i u:Nat) (b:Option Nat) (a:Nat),i<pl→ps[i]?=some (u,b)→dp[i]?=some a→∀ w:Nat,(w:Int)∈tss.getD u []→∃(j:Nat) (c:Option Nat) (x:Nat),ps[j]?=some (w,c)∧dp[j]?=some x∧x≤a+1
theorem Dn.zero{tss:List (List Int)}{ps:List (Nat × Option Nat)}{dp:List Nat}:Dn tss ps dp 0:=fun i u b a h=>absurd h (Amb _)
theorem Dn.app{tss:List (List Int)}{ps:List (Nat × Option Nat)}{dp:List Nat}{pl:Nat}(D:Dn tss ps dp pl)(hl:dp.length=ps.length)(hp:pl≤ps.length)(q:Nat × Option Nat)(e:Nat):Dn tss (ps++[q]) (dp++[e]) pl:=fun i u b a hi h1 h2 w hw=>by
 rcases HH h1 with ⟨_,g1⟩ | ⟨i1,_⟩
 ·rcases HH h2 with ⟨_,g2⟩ | ⟨i2,_⟩
  ·obtain⟨j,c,x,q1,q2,q3⟩:=D i u b a hi g1 g2 w hw
   exact⟨j,c,x,Hy q1,Hy q2,q3⟩
  ·omega
 ·omega
theorem Bf.sound{tss:List (List Int)}{s:Nat}{ps:List (Nat × Option Nat)}{dp:List Nat}(B:Bf tss s ps dp):∀(j v:Nat) (c:Option Nat) (x:Nat),ps[j]?=some (v,c)→dp[j]?=some x→Wy tss s x v∧x≤j:=by
 intro j
 induction j using Nat.strongRecOn with
 | ind j ih =>
  intro v c x h1 h2
  by_cases h0:j=0
  ·subst h0
   rw[B.st.1] at h1
   rw[B.st.2] at h2
   cases h1
   cases h2
   exact⟨.nil,AkF _⟩
  ·obtain⟨i,u,b,d,e1,hi,e3,e4,e5,e6⟩:=B.par j v c (by omega) h1
   rw[e5] at h2
   cases h2
   obtain⟨w1,w2⟩:=ih i hi u b d e3 e4
   exact⟨.snoc w1 e6,by omega⟩
theorem Bf.reach{tss:List (List Int)}{s:Nat}{ps:List (Nat × Option Nat)}{dp:List Nat}(B:Bf tss s ps dp)(D:Dn tss ps dp ps.length):∀(L v:Nat),Wy tss s L v→∃(j:Nat) (c:Option Nat) (x:Nat),ps[j]?=some (v,c)∧dp[j]?=some x∧x≤L:=by
 intro L
 induction L with
 | zero =>
  intro v h
  rw[h.first]
  exact⟨0,none,0,B.st.1,B.st.2,AkF _⟩
 | succ L ih =>
  intro v h
  obtain⟨u,hu,e⟩:=h.last
  obtain⟨j,c,x,h1,h2,h3⟩:=ih u hu
  obtain⟨k,c',y,g1,g2,g3⟩:=D j u c x (List.getElem?_eq_some_iff.mp h1).1 h1 h2 v e
  exact⟨k,c',y,g1,g2,by omega⟩
theorem Yi:∀(N:Nat) (l:List Nat),l.Nodup→(∀ v∈l,v<N)→l.length≤N:=by
 intro N
 induction N with
 | zero =>
  intro l _ h
  cases l with
  | nil=>simp
  | cons a l=>exact absurd (h a AkS) (Amb _)
 | succ N ih =>
  intro l nd h
  by_cases m:N∈l
  ·have h1:=ih (l.erase N) (nd.erase N) fun v hv=>by
    have h2:=h v (List.mem_of_mem_erase hv)
    have h3:v≠N:=fun e=>by
     rw[e] at hv
     exact(List.Nodup.not_mem_erase nd) hv
    omega
   rw[Amk m] at h1
   omega
  ·have h1:=ih l nd fun v hv=>by
    have h2:=h v hv
    have h3:v≠N:=fun e=>m (e▸hv)
    omega
   omega
theorem Bf.small{tss:List (List Int)}{s:Nat}{ps:List (Nat × Option Nat)}{dp:List Nat}(B:Bf tss s ps dp):ps.length≤tss.length:=by
 have h:=Yi tss.length (ps.map (·.1)) ?_ ?_
 ·rwa [AkE] at h
 ·rw[AlO,Amh]
  intro i j hi hj hij e
  rw[AkE] at hi hj
  simp only [List.getElem_map] at e
  have g1:ps[i]?=some (ps[i].1,ps[i].2):=AkD hi
  have g2:ps[j]?=some (ps[i].1,ps[j].2):=by rw[e];exact AkD hj
  have:=B.nd i j _ _ _ g1 g2
  omega
 ·intro v hv
  obtain⟨p,hp,rfl⟩:=List.mem_map.mp hv
  exact B.lt p.1 p.2 hp
def Pth (tss:List (List Int))(l:List Nat):Prop:=∀(i a b:Nat),l[i]?=some a→l[i+1]?=some b→(b:Int)∈tss.getD a []
structure NS (N:Nat) (ws:List Nat):Prop where
 ne:ws≠[]
 up:ws.Pairwise (·<·)
 lt:∀ v∈ws,v<N
def cI (ws:List Nat):List Int:=ws.map fun v=>((v:Nat):Int)
theorem Wq{ws:List Nat}{v:Nat}:(v:Int)∈cI ws↔v∈ws:=by
 unfold cI
 rw[AlZ]
 constructor
 ·rintro⟨u,hu,e⟩
  have:u=v:=by omega
  rw[← this];exact hu
 ·exact fun h=>⟨v,h,rfl⟩
theorem Nz(ws:List Nat):(cI ws).length=ws.length:=by unfold cI;rw[AkE]
theorem NS.nodup{N:Nat}{ws:List Nat}(h:NS N ws):ws.Nodup:=by
 rw[AlO]
 exact h.up.imp fun {a b} h=>AkK h
theorem Qx:∀(l ws:List Nat),l.Nodup→(∀ v∈l,v∈ws)→l.length≤ws.length
 | [],ws,_,_=>AkP _
 | a::l,ws,nd,h=>by
  obtain⟨na,nl⟩:=List.nodup_cons.mp nd
  have ha:=h a AkS
  have:=Qx l (ws.erase a) nl fun v hv=>by
   refine(List.mem_erase_of_ne (fun(e:v=a)=>na (by rw[← e];exact hv))).mpr (h v (AkX _ hv))
  rw[Amk ha] at this
  have:0<ws.length:=Amj ha
  rw[Ala]
  omega
theorem NS.len{N:Nat}{ws:List Nat}(h:NS N ws):ws.length≤N:=Yi N ws h.nodup h.lt
def Aeb (tss:List (List Int))(ws:List Nat)(v:Nat):List Int:=(tss.getD v []).filter fun z=>decide (z∈cI ws)
def Ac2 (tss:List (List Int))(ws us:List Nat):List (List Int):=(List.range tss.length).map fun v=>if v∈us then Aeb tss ws v else []
def nar (tss:List (List Int))(ws:List Nat):List (List Int):=Ac2 tss ws ws
theorem O3(tss:List (List Int))(ws us:List Nat):(Ac2 tss ws us).length=tss.length:=by unfold Ac2;rw[AkE,AkV]
theorem Yj{tss:List (List Int)}{ws us:List Nat}{v:Nat}(h:v<tss.length):(Ac2 tss ws us)[v]?=some (if v∈us then Aeb tss ws v else []):=by
 unfold Ac2
 rw[AkM,Al3 h]
 rfl
theorem Wr{tss:List (List Int)}{ws:List Nat}{v:Nat}{z:Int}:z∈(nar tss ws).getD v []↔v∈ws∧z∈cI ws∧z∈tss.getD v []:=by
 by_cases h:v<tss.length
 ·rw[AkH,nar,Yj h,Option.getD_some]
  by_cases hv:v∈ws
  ·rw[if_pos hv,Aeb,Ama,decide_eq_true_iff]
   exact⟨fun z=>⟨hv,z.2,z.1⟩,fun z=>⟨z.2.2,z.2.1⟩⟩
  ·rw[if_neg hv]
   exact⟨fun z=>(by cases z),fun z=>absurd z.1 hv⟩
 ·rw[AkH,Alc (by rw[nar,O3];omega),AkH,Alc (by omega:tss.length≤v)]
  exact⟨fun z=>(by cases z),fun z=>(by cases z.2.2)⟩
theorem AhC{tss:List (List Int)}{ws:List Nat}{s:Nat}(hs:s∈ws):∀{L v:Nat},Wy (nar tss ws) s L v→v∈ws
 | _,_,.nil=>hs
 | _,_,.snoc _ e=>Wq.mp (Wr.mp e).2.1
theorem Bf.keys{tss:List (List Int)}{s:Nat}{ps:List (Nat × Option Nat)}{dp:List Nat}(B:Bf tss s ps dp):(ps.map (·.1)).Nodup:=by
 rw[AlO,Amh]
 intro i j hi hj hij e
 rw[AkE] at hi hj
 simp only [List.getElem_map] at e
 have g1:ps[i]?=some (ps[i].1,ps[i].2):=AkD hi
 have g2:ps[j]?=some (ps[i].1,ps[j].2):=by rw[e];exact AkD hj
 have:=B.nd i j _ _ _ g1 g2
 omega
theorem Ti{ps:List (Nat × Option Nat)}{v:Nat}(h:v∈ps.map (·.1)):∃(j:Nat) (c:Option Nat),ps[j]?=some (v,c):=by
 obtain⟨p,hp,rfl⟩:=List.mem_map.mp h
 obtain⟨j,hj,e⟩:=Alh hp
 exact⟨j,p.2,by rw[AkD hj,e]⟩
theorem Bf.sub{tss:List (List Int)}{ws:List Nat}{s:Nat}{ps:List (Nat × Option Nat)}{dp:List Nat}(B:Bf (nar tss ws) s ps dp)(hs:s∈ws):∀ v∈ps.map (·.1),v∈ws:=fun v hv=>by
 obtain⟨j,c,g⟩:=Ti hv
 have hj:j<dp.length:=by rw[B.len];exact(List.getElem?_eq_some_iff.mp g).1
 exact AhC hs (B.sound j v c dp[j] g (AkD hj)).1
theorem Bf.full{tss:List (List Int)}{ws:List Nat}{s:Nat}{ps:List (Nat × Option Nat)}{dp:List Nat}(B:Bf (nar tss ws) s ps dp)(hs:s∈ws)(h:ws.length≤ps.length):∀ v∈ws,∃(j:Nat) (c:Option Nat),ps[j]?=some (v,c):=fun v hv=>by
 by_cases hin:v∈ps.map (·.1)
 ·exact Ti hin
 ·have:=Qx _ (ws.erase v) B.keys fun u hu=>(List.mem_erase_of_ne (fun(e:u=v)=>hin (by rw[← e];exact hu))).mpr (B.sub hs u hu)
  rw[AkE,Amk hv] at this
  have:0<ws.length:=Amj hv
  omega
theorem Bf.miss{tss:List (List Int)}{ws:List Nat}{s N:Nat}{ps:List (Nat × Option Nat)}{dp:List Nat}(hw:NS N ws)(h:ps.length<ws.length):∃ v∈ws,v∉ps.map (·.1):=by
 refine Classical.byContradiction fun hc=>?_
 have:=Qx ws (ps.map (·.1)) hw.nodup fun v hv=>Classical.byContradiction fun hn=>hc ⟨v,hv,hn⟩
 rw[AkE] at this
 omega
def Ac3 (tss:List (List Int))(ws:List Nat):Prop:=∀ u∈ws,∀ v∈ws,∃ L,Wy (nar tss ws) u L v
structure Lf (tss:List (List Int)) (ws fs:List Nat):Prop where
 ne:fs≠[]
 len:fs.length<ws.length
 sub:∀ v∈fs,v∈ws
 up:fs.Pairwise (·<·)
 off:∀ o∈ws,o∉fs→∀ v∈fs,(v:Int)∉tss.getD o []
theorem filter_lt{ws:List Nat}{p:Nat→Bool}{s:Nat}(hs:s∈ws)(hp:p s=false):(ws.filter p).length<ws.length:=by
 have h1:=AlG p ws
 refine Nat.lt_of_le_of_ne h1 fun e=>?_
 have:=List.length_filter_eq_length_iff.mp e s hs
 rw[hp] at this
 cases this
theorem Bf.lift{tss:List (List Int)}{ws:List Nat}{s N:Nat}{ps:List (Nat × Option Nat)}{dp:List Nat}(B:Bf (nar tss ws) s ps dp)(D:Dn (nar tss ws) ps dp ps.length)(hw:NS N ws)(hs:s∈ws)(h:ps.length<ws.length) :
  ¬Ac3 tss ws∧Lf tss ws (ws.filter fun v=>decide (v∉ps.map (·.1))):=by
 obtain⟨v,hv,hn⟩:=Bf.miss (tss:=tss) (s:=s) (dp:=dp) hw h
 have s0:s∈ps.map (·.1):=List.mem_map.mpr ⟨(s,none),AkI B.st.1,rfl⟩
 refine⟨fun hc=>?_,fun e=>?_,filter_lt hs (by simp only [decide_eq_false_iff_not,Classical.not_not];exact s0),fun u hu=>(List.mem_filter.mp hu).1,hw.up.filter _,fun o ho hno u hu e=>?_⟩
 ·obtain⟨L,hL⟩:=hc s hs v hv
  obtain⟨j,c,x,g,_⟩:=B.reach D L v hL
  exact hn (List.mem_map.mpr ⟨(v,c),AkI g,rfl⟩)
 ·have:v∈ws.filter fun v=>decide (v∉ps.map (·.1)):=List.mem_filter.mpr ⟨hv,decide_eq_true hn⟩
  rw[e] at this
  cases this
 ·obtain⟨hu1,hu2⟩:=List.mem_filter.mp hu
  have hu2:=of_decide_eq_true hu2
  have ho2:o∈ps.map (·.1):=Classical.byContradiction fun hn=>hno (List.mem_filter.mpr ⟨ho,decide_eq_true hn⟩)
  obtain⟨j,c,g⟩:=Ti ho2
  have hj:j<dp.length:=by rw[B.len];exact(List.getElem?_eq_some_iff.mp g).1
  obtain⟨w1,_⟩:=B.sound j o c dp[j] g (AkD hj)
  obtain⟨j',c',x',g',_⟩:=B.reach D _ u (.snoc w1 (Wr.mpr ⟨ho,Wq.mpr hu1,e⟩))
  exact hu2 (List.mem_map.mpr ⟨(u,c'),AkI g',rfl⟩)
structure Rd (tss:List (List Int)) (ws found:List Nat):Prop where
 fst:found[0]?=ws[0]?
 ins:∀ v∈found,v∈ws
 all:∀ v∈ws,v∈found
 len:found.length≤ws.length*ws.length
 one:ws.length=1→found=ws
 nxt:1<ws.length→∀ i a b:Nat,found[i]?=some a→found[(i+1)%found.length]?=some b→(b:Int)∈tss.getD a []
structure Wk (tss:List (List Int)) (ws:List Nat) (f i:Nat) (as bs:List Nat) (c:Nat):Prop where
 e:as=bs++[c]
 fst:as[0]?=some f
 ins:∀ v∈as,v∈ws
 has:∀ v∈ws.take (i+1),v∈as
 pth:Pth (nar tss ws) as
 len:as.length≤1+i*(ws.length-1)
 lst:(i=0∧as=[f])∨(0<i∧c≠f)
inductive Rc (E:Nat→Nat→Prop) (s:Nat):Nat→Prop where
 | nil:Rc E s s
 | snoc {v w:Nat} (h:Rc E s v) (e:E v w):Rc E s w
theorem Rc.trans{E:Nat→Nat→Prop}{a b c:Nat}(h1:Rc E a b)(h2:Rc E b c):Rc E a c:=by
 induction h2 with
 | nil=>exact h1
 | snoc _ e ih=>exact .snoc ih e
theorem Rc.mono{E F:Nat→Nat→Prop}(h:∀ u v,E u v→F u v){a b:Nat}(r:Rc E a b):Rc F a b:=by
 induction r with
 | nil=>exact .nil
 | snoc _ e ih=>exact .snoc ih (h _ _ e)
def SC (N:Nat)(E:Nat→Nat→Prop):Prop:=∀ u v:Nat,u<N→v<N→Rc E u v
def del (E:Nat→Nat→Prop)(a b:Nat):Nat→Nat→Prop:=fun u v=>E u v∧¬(u=a∧v=b)
theorem Jb{N:Nat}{E F:Nat→Nat→Prop}(h:∀ u v,E u v→F u v)(s:SC N E):SC N F:=fun u v hu hv=>(s u v hu hv).mono h
theorem Ac4{N:Nat}{E:Nat→Nat→Prop}{a b:Nat}(s:SC N E)(r:Rc (del E a b) a b):SC N (del E a b):=fun u v hu hv=>by
 have key:∀{x:Nat},Rc E u x→Rc (del E a b) u x:=fun {x} h=>by
  induction h with
  | nil=>exact .nil
  | @snoc y z _ e ih =>
   by_cases q:y=a∧z=b
   ·rw[q.2]
    rw[q.1] at ih
    exact ih.trans r
   ·exact .snoc ih ⟨e,q⟩
 exact key (s u v hu hv)
theorem Ac5{m n:Nat}{E:Nat→Nat→Prop}(hm:2≤m)(hn:2≤n)(full:∀ e p:Nat,e<m→p<n→E e (m+p)∨E (m+p) e)(s:SC (m+n) E){e p:Nat}(he:e<m)(hp:p<n)
  (no:¬Rc (del E (m+p) e) (m+p) e):SC (m+n) (del E e (m+p)):=by
 refine Ac4 s (Classical.byContradiction fun hT=>?_)
 obtain⟨u,eu⟩:∃ u,u=m+p:=⟨_,rfl⟩
 rw[← eu] at no hT
 have lS:∀{x y:Nat},Rc (del E u e) u x→E x y→Rc (del E u e) u y∨(x=u∧y=e):=fun {x y} h g=>by
  by_cases q:x=u∧y=e
  ·exact .inr q
  ·exact .inl (.snoc h ⟨g,q⟩)
 have lT:∀{x y:Nat},Rc (del E e u) e x→E x y→Rc (del E e u) e y∨(x=e∧y=u):=fun {x y} h g=>by
  by_cases q:x=e∧y=u
  ·exact .inr q
  ·exact .inl (.snoc h ⟨g,q⟩)
 have both:∀{x:Nat},x<m+n→Rc (del E u e) u x→Rc (del E e u) e x→False:=fun {x} hx h1 h2=>by
  have key:∀{y:Nat},Rc E x y→Rc (del E u e) u y∧Rc (del E e u) e y:=fun {y} h=>by
   induction h with
   | nil=>exact⟨h1,h2⟩
   | @snoc y z _ g ih =>
    obtain⟨i1,i2⟩:=ih
    refine⟨?_,?_⟩
    ·rcases lS i1 g with q | q
     ·exact q
     ·rw[q.1] at i2;exact absurd i2 hT
    ·rcases lT i2 g with q | q
     ·exact q
     ·rw[q.1] at i1;exact absurd i1 no
  exact hT (key (s x u hx (by omega))).2
 have all:∀{y:Nat},y<m+n→Rc (del E u e) u y∨Rc (del E e u) e y:=fun {y} hy=>by
  have key:∀{y:Nat},Rc E u y→Rc (del E u e) u y∨Rc (del E e u) e y:=fun {y} h=>by
   induction h with
   | nil=>exact .inl .nil
   | @snoc y z _ g ih =>
    rcases ih with i | i
    ·rcases lS i g with q | q
     ·exact .inl q
     ·rw[q.2];exact .inr .nil
    ·rcases lT i g with q | q
     ·exact .inr q
     ·rw[q.2];exact .inl .nil
  exact key (s u y (by omega) hy)
 obtain⟨e',he',hee⟩:∃ e',e'<m∧e'≠e:=by
  by_cases h:e=0
  ·exact⟨1,by omega,by omega⟩
  ·exact⟨0,by omega,by omega⟩
 obtain⟨p',hp',hpp⟩:∃ p',p'<n∧p'≠p:=by
  by_cases h:p=0
  ·exact⟨1,by omega,by omega⟩
  ·exact⟨0,by omega,by omega⟩
 have Se:Rc (del E u e) u e':=by
  rcases all (y:=e') (by omega) with h | h
  ·exact h
  ·rcases full e' p he' hp with g | g
   ·rw[← eu] at g
    rcases lT h g with q | q
    ·exact absurd q hT
    ·exact absurd q.1 hee
   ·rw[← eu] at g
    rcases lS .nil g with q | q
    ·exact q
    ·exact absurd q.2 hee
 have Tp:Rc (del E e u) e (m+p'):=by
  rcases all (y:=m+p') (by omega) with h | h
  ·rcases full e p' he hp' with g | g
   ·rcases lT .nil g with q | q
    ·exact q
    ·omega
   ·rcases lS h g with q | q
    ·exact absurd q no
    ·omega
  ·exact h
 rcases full e' p' he' hp' with g | g
 ·rcases lS Se g with q | q
  ·exact both (by omega) q Tp
  ·omega
 ·rcases lT Tp g with q | q
  ·exact both (by omega) Se q
  ·omega
def Ed (m n:Nat)(sg:Nat→Nat→Nat)(u v:Nat):Prop:=(∃ p,p<n∧u<m∧v=m+p∧sg p u≠46)∨(∃ p,p<n∧v<m∧u=m+p∧sg p v≠35)
def mix (a b:Nat→Nat→Nat)(i j:Nat):Nat→Nat→Nat:=fun p e=>if p<i∨(p=i∧e<j) then a p e else b p e
theorem Ed.mono{m n:Nat}{a b:Nat→Nat→Nat}(h:∀ p e,p<n→e<m→(a p e≠46→b p e≠46)∧(a p e≠35→b p e≠35)){u v:Nat}(g:Ed m n a u v):Ed m n b u v:=by
 rcases g with ⟨p,h1,h2,h3,h4⟩ | ⟨p,h1,h2,h3,h4⟩
 ·exact .inl ⟨p,h1,h2,h3,(h p u h1 h2).1 h4⟩
 ·exact .inr ⟨p,h1,h2,h3,(h p v h1 h2).2 h4⟩
theorem Ed.full{m n:Nat}(a:Nat→Nat→Nat){e p:Nat}(he:e<m)(hp:p<n):Ed m n a e (m+p)∨Ed m n a (m+p) e:=by
 by_cases h:a p e=46
 ·exact .inr (.inr ⟨p,hp,he,rfl,by rw[h];decide⟩)
 ·exact .inl (.inl ⟨p,hp,he,rfl,h⟩)
structure Fnd (m n:Nat) (h f:Nat→Nat→Nat):Prop where
 sg:∀ p e,p<n→e<m→f p e=35∨f p e=46
 eq:∀ p e,p<n→e<m→h p e≠63→f p e=h p e
 at':∀ p e,p<n→e<m→h p e=63→(f p e=35↔Rc (del (Ed m n (mix f h p e)) (m+p) e) (m+p) e)
 sc:SC (m+n) (Ed m n f)
theorem JD{m n:Nat}{a b:Nat→Nat→Nat}(h:∀ p e,p<n→e<m→a p e=b p e){x y u v:Nat}(r:Rc (del (Ed m n a) x y) u v):Rc (del (Ed m n b) x y) u v :=
 r.mono fun _ _ g=>⟨Ed.mono (fun p e hp he=>by rw[h p e hp he];exact⟨fun z=>z,fun z=>z⟩) g.1,g.2⟩
def Ld (a:Nat→Nat→Nat)(i j c:Nat):Nat→Nat→Nat:=fun p e=>if p=i∧e=j then c else a p e
theorem Ga(a:Nat→Nat→Nat)(i j c:Nat):Ld a i j c i j=c:=if_pos ⟨rfl,rfl⟩
theorem DW{a:Nat→Nat→Nat}{i j c p e:Nat}(h:¬(p=i∧e=j)):Ld a i j c p e=a p e:=if_neg h
structure Prc (m n:Nat) (h f:Nat→Nat→Nat) (i j:Nat):Prop where
 sg:∀ p e,p<n→e<m→(p<i∨(p=i∧e<j))→f p e=35∨f p e=46
 eq:∀ p e,p<n→e<m→(p<i∨(p=i∧e<j))→h p e≠63→f p e=h p e
 at':∀ p e,p<n→e<m→(p<i∨(p=i∧e<j))→h p e=63→(f p e=35↔Rc (del (Ed m n (mix f h p e)) (m+p) e) (m+p) e)
 sc:SC (m+n) (Ed m n (mix f h i j))
theorem Ed.congr{m n:Nat}{a b:Nat→Nat→Nat}(h:∀ p e,p<n→e<m→a p e=b p e){u v:Nat}:Ed m n a u v↔Ed m n b u v :=
 ⟨Ed.mono fun p e hp he=>(by rw[h p e hp he];exact⟨fun z=>z,fun z=>z⟩),Ed.mono fun p e hp he=>(by rw[h p e hp he];exact⟨fun z=>z,fun z=>z⟩)⟩
theorem Aec{f h:Nat→Nat→Nat}{i j c p e:Nat}(hb:p<i∨(p=i∧e≤j))(p' e':Nat):mix (Ld f i j c) h p e p' e'=mix f h p e p' e':=by
 unfold mix
 by_cases q:p'<p∨(p'=p∧e'<e)
 ·rw[if_pos q,if_pos q]
  exact DW (by omega)
 ·rw[if_neg q,if_neg q]
theorem Tj(f h:Nat→Nat→Nat)(i j c p e:Nat):mix (Ld f i j c) h i (j+1) p e=Ld (mix f h i j) i j c p e:=by
 by_cases q:p=i∧e=j
 ·obtain⟨rfl,rfl⟩:=q
  rw[Ga]
  unfold mix
  rw[if_pos (.inr ⟨rfl,by omega⟩),Ga]
 ·rw[DW q]
  unfold mix
  by_cases r:p<i∨(p=i∧e<j)
  ·rw[if_pos r,if_pos (by omega),DW q]
  ·rw[if_neg r,if_neg (by omega)]
theorem Tn(f h:Nat→Nat→Nat)(i j:Nat):mix f h i j i j=h i j:=if_neg (by omega)
theorem AhD{m n:Nat}{a:Nat→Nat→Nat}{i j:Nat}(hi:i<n)(hj:j<m)(h:a i j=63)(u v:Nat):Ed m n (Ld a i j 35) u v↔del (Ed m n a) (m+i) j u v:=by
 constructor
 ·intro g
  refine⟨g.mono fun p e hp he=>?_,fun c=>?_⟩
  ·by_cases q:p=i∧e=j
   ·rw[q.1,q.2,h];exact⟨fun _=>by decide,fun _=>by decide⟩
   ·rw[DW q];exact⟨fun z=>z,fun z=>z⟩
  ·rcases g with ⟨p,h1,h2,h3,h4⟩ | ⟨p,h1,h2,h3,h4⟩
   ·omega
   ·have e1:p=i:=by omega
    rw[e1,c.2,Ga] at h4
    exact h4 rfl
 ·rintro⟨g,c⟩
  rcases g with ⟨p,h1,h2,h3,h4⟩ | ⟨p,h1,h2,h3,h4⟩
  ·refine .inl ⟨p,h1,h2,h3,?_⟩
   by_cases q:p=i∧u=j
   ·rw[q.1,q.2,Ga];decide
   ·rw[DW q];exact h4
  ·refine .inr ⟨p,h1,h2,h3,?_⟩
   rw[DW fun q=>c ⟨by omega,q.2⟩]
   exact h4
theorem AhE{m n:Nat}{a:Nat→Nat→Nat}{i j:Nat}(hi:i<n)(hj:j<m)(h:a i j=63)(u v:Nat):Ed m n (Ld a i j 46) u v↔del (Ed m n a) j (m+i) u v:=by
 constructor
 ·intro g
  refine⟨g.mono fun p e hp he=>?_,fun c=>?_⟩
  ·by_cases q:p=i∧e=j
   ·rw[q.1,q.2,h];exact⟨fun _=>by decide,fun _=>by decide⟩
   ·rw[DW q];exact⟨fun z=>z,fun z=>z⟩
  ·rcases g with ⟨p,h1,h2,h3,h4⟩ | ⟨p,h1,h2,h3,h4⟩
   ·have e1:p=i:=by omega
    rw[e1,c.1,Ga] at h4
    exact h4 rfl
   ·omega
 ·rintro⟨g,c⟩
  rcases g with ⟨p,h1,h2,h3,h4⟩ | ⟨p,h1,h2,h3,h4⟩
  ·refine .inl ⟨p,h1,h2,h3,?_⟩
   rw[DW fun q=>c ⟨q.2,by omega⟩]
   exact h4
  ·refine .inr ⟨p,h1,h2,h3,?_⟩
   by_cases q:p=i∧v=j
   ·rw[q.1,q.2,Ga];decide
   ·rw[DW q];exact h4
theorem Prc.step{m n:Nat}{h f:Nat→Nat→Nat}{i j c:Nat}(P:Prc m n h f i j)(hi:i<n)(hj:j<m)(hc:c=35∨c=46)(he:h i j≠63→c=h i j)
  (ha:h i j=63→(c=35↔Rc (del (Ed m n (mix f h i j)) (m+i) j) (m+i) j)) (hs:SC (m+n) (Ed m n (Ld (mix f h i j) i j c))):Prc m n h (Ld f i j c) i (j+1):=by
 have old:∀{p e:Nat},(p<i∨(p=i∧e<j+1))→¬(p=i∧e=j)→p<i∨(p=i∧e<j):=fun {p e} h1 h2=>by omega
 refine⟨fun p e hp hee b=>?_,fun p e hp hee b q=>?_,fun p e hp hee b q=>?_,Jb (fun u v g=>(Ed.congr fun p e _ _=>(Tj f h i j c p e).symm).mp g) hs⟩
 ·by_cases z:p=i∧e=j
  ·rw[z.1,z.2,Ga];exact hc
  ·rw[DW z];exact P.sg p e hp hee (old b z)
 ·by_cases z:p=i∧e=j
  ·rw[z.1,z.2,Ga];rw[z.1,z.2] at q;exact he q
  ·rw[DW z];exact P.eq p e hp hee (old b z) q
 ·have cg:∀ p' e',p'<n→e'<m→mix (Ld f i j c) h p e p' e'=mix f h p e p' e':=fun p' e' _ _=>Aec (by omega) p' e'
  have r:Rc (del (Ed m n (mix (Ld f i j c) h p e)) (m+p) e) (m+p) e↔Rc (del (Ed m n (mix f h p e)) (m+p) e) (m+p) e:=⟨JD cg,JD fun p' e' h1 h2=>(cg p' e' h1 h2).symm⟩
  rw[r]
  by_cases z:p=i∧e=j
  ·obtain⟨rfl,rfl⟩:=z
   rw[Ga]
   exact ha q
  ·rw[DW z]
   exact P.at' p e hp hee (old b z) q
theorem Prc.row{m n:Nat}{h f:Nat→Nat→Nat}{i:Nat}(P:Prc m n h f i m):Prc m n h f (i+1) 0:=by
 refine⟨fun p e hp he b=>P.sg p e hp he (by omega),fun p e hp he b=>P.eq p e hp he (by omega),fun p e hp he b=>P.at' p e hp he (by omega),Jb (fun u v g=>(Ed.congr fun p e _ he=>?_).mp g) P.sc⟩
 unfold mix
 by_cases q:p<i∨(p=i∧e<m)
 ·rw[if_pos q,if_pos (by omega)]
 ·rw[if_neg q,if_neg (by omega)]
theorem Prc.start{m n:Nat}{h:Nat→Nat→Nat}(s:SC (m+n) (Ed m n h))(f:Nat→Nat→Nat):Prc m n h f 0 0:=by
 refine⟨fun p e _ _ b=>absurd b (by omega),fun p e _ _ b=>absurd b (by omega),fun p e _ _ b=>absurd b (by omega),Jb (fun u v g=>(Ed.congr fun p e _ _=>?_).mp g) s⟩
 unfold mix
 rw[if_neg (by omega)]
theorem Prc.done{m n:Nat}{h f:Nat→Nat→Nat}(P:Prc m n h f n 0):Fnd m n h f:=by
 refine⟨fun p e hp he=>P.sg p e hp he (.inl hp),fun p e hp he=>P.eq p e hp he (.inl hp),fun p e hp he=>P.at' p e hp he (.inl hp),Jb (fun u v g=>(Ed.congr fun p e hp _=>?_).mp g) P.sc⟩
 unfold mix
 rw[if_pos (.inl hp)]
theorem Ig{f f' h:Nat→Nat→Nat}{i j:Nat}(hf:∀ p e,(p<i∨(p=i∧e<j))→f p e=f' p e)(p e:Nat):mix f h i j p e=mix f' h i j p e:=by
 unfold mix
 by_cases q:p<i∨(p=i∧e<j)
 ·rw[if_pos q,if_pos q];exact hf p e q
 ·rw[if_neg q,if_neg q]
theorem Prc.Qy{m n:Nat}{h f f':Nat→Nat→Nat}{i j:Nat}(P:Prc m n h f i j)(hf:∀ p e,(p<i∨(p=i∧e<j))→f p e=f' p e):Prc m n h f' i j:=by
 refine⟨fun p e hp he b=>by rw[← hf p e b];exact P.sg p e hp he b,fun p e hp he b q=>by rw[← hf p e b];exact P.eq p e hp he b q,fun p e hp he b q=>?_,Jb (fun u v g=>(Ed.congr fun p e _ _=>Ig hf p e).mp g) P.sc⟩
 have cg:∀ p' e',p'<n→e'<m→mix f h p e p' e'=mix f' h p e p' e':=fun p' e' _ _=>Ig (fun a c hb=>hf a c (by omega)) p' e'
 rw[← hf p e b,P.at' p e hp he b q]
 exact⟨JD cg,JD fun p' e' h1 h2=>(cg p' e' h1 h2).symm⟩
def cur (cf:List (List Nat))(us:List Nat):Nat→Nat→Nat:=sg2 (cf++[us])
theorem R3{cf:List (List Nat)}{us:List Nat}{p:Nat}(h:p<cf.length)(e:Nat):cur cf us p e=(cf.getD p []).getD e 0:=by
 have e1:(cf++[us]).getD p []=cf.getD p []:=by rw[AkH,AkR h,← AkH]
 unfold cur sg2
 rw[e1]
theorem Aau{cf:List (List Nat)}{us:List Nat}(e:Nat):cur cf us cf.length e=us.getD e 0:=by
 have e1:(cf++[us]).getD cf.length []=us:=by
  rw[AkH,AkY (AkF _),Alp]
  rfl
 unfold cur sg2
 rw[e1]
theorem Mp{cf:List (List Nat)}{us:List Nat}{c:Nat}(p e:Nat)(b:p<cf.length∨(p=cf.length∧e<us.length+1)):Ld (cur cf us) cf.length us.length c p e=cur cf (us++[c]) p e:=by
 rcases b with b | ⟨rfl,b⟩
 ·rw[DW (by omega),R3 b,R3 b]
 ·rw[Aau]
  by_cases q:e=us.length
  ·subst q
   rw[Ga,AkH,AkY (AkF _),Alp]
   rfl
  ·rw[DW (by omega),Aau,AkH,AkH,AkR (by omega)]
theorem R7{cf:List (List Nat)}{us:List Nat}(vs:List Nat)(p e:Nat)(b:p<cf.length+1):cur cf us p e=cur (cf++[us]) vs p e:=by
 rw[R3 (cf:=cf++[us]) (by rw[AkG];exact b)]
 rfl
def plR (h f:Nat→Nat→Nat)(p j:Nat):List (Nat × Nat):=((List.range j).filter fun e=>decide (h p e=63∧f p e=46)).map fun e=>(p,e)
def plS (h f:Nat→Nat→Nat)(m:Nat):Nat→List (Nat × Nat)
 | 0=>[]
 | i+1=>plS h f m i++plR h f i m
theorem Tq(h f:Nat→Nat→Nat)(p j:Nat):plR h f p (j+1)=plR h f p j++(if h p j=63∧f p j=46 then [(p,j)] else []):=by
 unfold plR
 rw[Alx,AlN,AkL]
 by_cases q:h p j=63∧f p j=46
 ·rw[if_pos q,AlF (by exact decide_eq_true q)];rfl
 ·rw[if_neg q,AlE (by rw[decide_eq_false q];simp)];rfl
theorem O4{h f f':Nat→Nat→Nat}{p:Nat}:∀{j:Nat},(∀ e,e<j→f p e=f' p e)→plR h f p j=plR h f' p j
 | 0,_=>rfl
 | j+1,hf=>by rw[Tq,Tq,O4 fun e he=>hf e (by omega),hf j (by omega)]
theorem O5{h f f':Nat→Nat→Nat}{m:Nat}:∀{i:Nat},(∀ p e,p<i→e<m→f p e=f' p e)→plS h f m i=plS h f' m i
 | 0,_=>rfl
 | i+1,hf=>by
  show plS h f m i++plR h f i m=plS h f' m i++plR h f' i m
  rw[O5 fun p e hp he=>hf p e (by omega) he,O4 fun e he=>hf i e (by omega) he]
def AkA (m n:Nat)(h c:Nat→Nat→Nat):Prop:=∀ p e,p<n→e<m→h p e=63∨h p e=c p e
def Cl2 (m n:Nat)(c:Nat→Nat→Nat):Prop:=∀ p e,p<n→e<m→c p e=35∨c p e=46
def Jn (m n:Nat)(f:Nat→Nat→Nat)(a b:Nat):Prop:=∀ g:Nat→Nat→Nat,(∀ p e,p<b→e<a→g p e=f p e) →
 (∀ e,e<a→Rc (Ed m n g) 0 e∧Rc (Ed m n g) e 0)∧∀ p,p<b→Rc (Ed m n g) 0 (m+p)∧Rc (Ed m n g) (m+p) 0
def rot (x m e:Nat):Nat:=if e+x<m then e+x else e+x-m
def unr (x m e:Nat):Nat:=if x≤e then e-x else e+m-x
def trn (cl:List (List Nat))(x y:Nat):List (List Nat):=(cl.drop y++cl.take y).map fun t=>t.drop x++t.take x
end Mine
set_option maxHeartbeats 4000000
namespace Mine
open PySem L2
def top (i:Nat):Stmt:=PySem.Challenge.pw_heddle_k51_whole_made_drafts.main.body.getD i (.Pass ⟨0,0,0,0⟩)
abbrev Tr:Stmt:=top 7
theorem Yk:Bd ["cloth"] ["cloth"] (Aj Tr):=sc9
abbrev JF:Stmt:=top 8
theorem CT:Bd ["texts", "least", "signs", "ends", "text"] ["texts", "least", "signs"] (Aj JF):=sc9
abbrev O6:Stmt:=top 9
theorem Hi:Bd ["text", "ends", "signs", "sign"] ["text", "ends", "signs"] (Aj O6):=sc9
abbrev Le:Stmt:=top 10
theorem Ws:Bd ["cloth", "end"] ["cloth", "end"] (Aj Le):=sc9
abbrev Lg:Stmt:=top 13
theorem O7:Bd ["picture", "warp", "weft", "size"] ["picture", "warp", "weft"] (Aj Lg):=sc9
abbrev Ih:Stmt:=top 14
theorem FN:Bd ["picture", "ends", "text"] ["picture"] (Aj Ih):=sc9
abbrev K4:Stmt:=top 15
theorem Fw:Bd ["text", "count", "signs", "sign"] ["text", "count", "signs"] (Aj K4):=sc9
abbrev Lh:Stmt:=top 16
theorem Wt:Bd ["text", "warp", "colour"] ["text", "warp", "colour"] (Aj Lh):=sc9
abbrev QQ:Stmt:=top 17
theorem Wu:Bd ["seen", "end_colour", "pick_colour"] ["seen", "end_colour", "pick_colour"] (Aj QQ):=sc9
abbrev Er:Stmt:=top 21
theorem Dp:Bd ["cloth", "size", "ends", "unlike_ends", "unlike_picks", "threading", "treading"] ["cloth"] (Aj Er):=sc9
abbrev K5:Stmt:=top 22
theorem GJ:Bd ["threading", "ties", "shaft", "tie"] ["threading", "ties"] (Aj K5):=sc9
abbrev M9:Stmt:=top 23
theorem Tt:Bd ["count"] ["count"] (Aj M9):=sc9
abbrev MF:Stmt:=top 24
theorem Tu:Bd ["shaft"] ["shaft"] (Aj MF):=sc9
abbrev QR:Stmt:=top 25
theorem O8:Bd ["tie", "k"] ["tie"] (Aj QR):=sc9
abbrev JG:Stmt:=top 26
theorem Jc:Bd ["treading", "treadles", "treadle"] ["treading", "treadles"] (Aj JG):=sc9
abbrev Jo:Stmt:=top 27
theorem Tv:Bd ["threading", "text"] ["threading", "text"] (Aj Jo):=sc9
abbrev Yl:Stmt:=top 28
theorem Qz:Bd ["things", "found", "thing"] ["things"] (Aj Yl):=sc9
abbrev Gb:Stmt:=top 30
theorem Ec:Bd ["texts", "ends", "lower", "end", "text"] ["texts"] (Aj Gb):=sc9
abbrev QS:Stmt:=top 31
theorem Ej:Bd ["lower", "start", "ahead", "found", "place", "one", "other"] ["lower", "start"] (Aj QS):=sc9
abbrev Ym:Stmt:=top 32
theorem Vi:Bd ["ahead", "goal", "way"] ["ahead", "goal"] (Aj Ym):=sc9
abbrev Ke:Stmt:=top 33
theorem Jp:Bd ["lower", "strands", "start", "ahead"] ["lower", "strands"] (Aj Ke):=sc9
abbrev K6:Stmt:=top 35
theorem Q0:Bd ["half"] ["half"] (Aj K6):=sc9
abbrev JH:Stmt:=top 37
theorem Bw:Bd ["half", "size", "lower", "cut", "rows", "forced", "pick", "signs", "end", "sign", "strands"] ["half"] (Aj JH):=sc9
abbrev Tw:Stmt:=top 38
theorem Vj:Bd ["lower", "end", "pick", "ahead"] ["lower", "end", "pick"] (Aj Tw):=sc9
abbrev Gu:Stmt:=top 40
theorem BX:Bd ["picture", "warp", "weft", "size", "told", "seen_along", "borne", "strand", "chains", "threads"] ["picture", "warp", "weft"] (Aj Gu):=sc9
abbrev Ii:Stmt:=top 41
theorem En:Bd ["picture", "ends", "seen_along", "end", "text"] ["picture"] (Aj Ii):=sc9
abbrev K7:Stmt:=top 42
theorem Dl:Bd ["seen_along", "told", "borne", "strand", "chains", "colours", "colour", "given", "chain"] ["seen_along", "told", "borne", "strand"] (Aj K7):=sc9
abbrev O9:Stmt:=top 43
theorem Dh:Bd ["seen_along", "told", "borne", "given", "strand", "ahead", "found", "place", "one", "other", "seen"] ["seen_along", "told", "borne", "given", "strand"] (Aj O9):=sc9
abbrev OD:Stmt:=top 45
theorem Jq:Bd ["picture", "warp", "weft", "threads", "finished"] ["picture", "warp", "weft"] (Aj OD):=sc9
abbrev MJ:Stmt:=top 47
theorem Dq:Bd ["script", "many", "found", "step", "k"] ["script", "many"] (Aj MJ):=sc9
abbrev Tz:Stmt:=top 48
theorem Fe:Bd ["numbers", "wide", "high", "rows", "j", "row", "k", "at"] ["numbers", "wide", "high"] (Aj Tz):=sc9
abbrev Jr:Stmt:=top 49
theorem Li:Bd ["numbers", "first", "count", "span", "letters"] ["numbers", "first", "count", "span"] (Aj Jr):=sc9
abbrev QT:Stmt:=top 50
theorem Ek:Bd ["given", "warp", "weft", "rows", "j", "row", "k"] ["given", "warp", "weft"] (Aj QT):=sc9
abbrev MK:Stmt:=top 51
theorem Ck:Bd ["numbers", "wide", "high", "span", "warp", "weft", "rows", "made", "j", "row", "k", "number", "sign"] ["numbers", "wide", "high", "span", "warp", "weft"] (Aj MK):=sc9
abbrev T3:Stmt:=top 52
theorem Eh:Bd ["threads", "numbers", "first", "way", "span", "row", "k", "number", "sign"] ["threads", "numbers", "first", "way", "span"] (Aj T3):=sc9
abbrev Ij:Stmt:=top 53
theorem M4:Bd ["found"] ["found"] (Aj Ij):=sc9
abbrev T4:Stmt:=top 54
theorem Yn:Bd ["picture", "wide", "one", "other"] ["picture", "wide", "one", "other"] (Aj T4):=sc9
abbrev Jd:Stmt:=top 55
theorem BZ:Bd ["picture", "told", "strand", "colour", "chain", "wide", "one", "bears", "k", "seen", "last"] ["picture", "told", "strand", "colour", "chain"] (Aj Jd):=sc9
abbrev JK:Stmt:=top 56
theorem DK:Bd ["picture", "told", "found", "due", "k", "pair"] ["picture", "told", "found"] (Aj JK):=sc9
abbrev T5:Stmt:=top 57
theorem Hs:Bd ["picture", "told", "warp", "weft", "both", "k", "j"] ["picture", "told", "warp", "weft"] (Aj T5):=sc9
abbrev OJ:Stmt:=top 58
theorem DQ:Bd ["picture", "warp", "weft", "rows", "j", "row", "k", "at"] ["picture", "warp", "weft"] (Aj OJ):=sc9
abbrev Js:Stmt:=top 59
theorem CK:Bd ["half", "forth", "wide", "size", "seen", "turn", "j", "k", "sign"] ["half", "forth"] (Aj Js):=sc9
abbrev Pa:Stmt:=top 60
theorem Ur:Bd ["half"] ["half"] (Aj Pa):=sc9
abbrev Pb:Stmt:=top 61
theorem Di:Bd ["half", "strands", "wide", "size", "last", "strand", "j", "k"] ["half", "strands"] (Aj Pb):=sc9
abbrev JL:Stmt:=top 62
theorem Je:Bd ["row", "count", "most", "number"] ["row", "count", "most"] (Aj JL):=sc9
abbrev Pg:Stmt:=top 63
theorem Hj:Bd ["things", "met", "found", "thing"] ["things"] (Aj Pg):=sc9
abbrev Lj:Stmt:=top 64
theorem CZ:Bd ["draft", "wide", "high", "tie", "rows", "treadle", "row", "shaft"] ["draft", "wide", "high"] (Aj Lj):=sc9
abbrev Lk:Stmt:=top 65
theorem Kf:Bd ["draft", "rows", "columns", "k"] ["draft", "rows"] (Aj Lk):=sc9
abbrev G7:Stmt:=top 66
theorem BJ:Bd ["half", "rows", "number", "wide", "places", "j", "k", "row"] ["half", "rows", "number"] (Aj G7):=sc9
abbrev AeL:Stmt:=top 67
theorem Ex:Bd ["script", "numbers", "most", "wide", "high", "span", "warp", "weft", "picture", "handed", "found", "threads", "half", "rows"] ["script"] (Aj AeL):=sc9
abbrev GK:Stmt:=(AdC (top 20)).getD 0 (.Pass ⟨0,0,0,0⟩)
theorem Ph:Bd ["self", "threading", "ties", "treading"] ["self", "threading", "ties", "treading"] (Aj GK):=sc9
set_option genInjectivity false in
structure Adr where
 {El:Addr}
 {GP:Addr}
 {JM:FuncData}
 {T6:Addr}
 {T7:FuncData}
 {GQ:Addr}
 {GR:FuncData}
 {Kg:Addr}
 {Kh:FuncData}
 {QV:Addr}
 {QW:FuncData}
 {QX:Addr}
 {QZ:FuncData}
 {Ik:Addr}
 {Il:FuncData}
 {Hz:Addr}
 {HB:FuncData}
 {Ra:Addr}
 {Rb:FuncData}
 {Rf:Addr}
 {Rh:FuncData}
 {MN:Addr}
 {MP:FuncData}
 {K8:Addr}
 {K9:FuncData}
 {MT:Addr}
 {Nb:FuncData}
 {Nf:Addr}
 {Ng:FuncData}
 {Ri:Addr}
 {Rj:FuncData}
 {JN:Addr}
 {JP:FuncData}
 {Nh:Addr}
 {Ni:FuncData}
 {Yo:Addr}
 {Yp:FuncData}
 {KC:Addr}
 {KD:FuncData}
 {Rm:Addr}
 {Rn:FuncData}
 {Yq:Addr}
 {Yr:FuncData}
 {Pj:Addr}
 {Pk:FuncData}
 {KH:Addr}
 {KJ:FuncData}
 {JQ:Addr}
 {JR:FuncData}
 {Ys:Addr}
 {Yt:FuncData}
 {Gv:Addr}
 {Gw:FuncData}
 {Ln:Addr}
 {Lp:FuncData}
 {KN:Addr}
 {KQ:FuncData}
 {Pn:Addr}
 {Pq:FuncData}
 {Kl:Addr}
 {Km:FuncData}
 {Jt:Addr}
 {Ju:FuncData}
 {T8:Addr}
 {T9:FuncData}
 {Jv:Addr}
 {Jw:FuncData}
 {Ro:Addr}
 {Rp:FuncData}
 {Jx:Addr}
 {Jy:FuncData}
 {N8:Addr}
 {NB:FuncData}
 {Im:Addr}
 {Io:FuncData}
 {TF:Addr}
 {TJ:FuncData}
 {Jf:Addr}
 {Jg:FuncData}
 {GX:Addr}
 {GZ:FuncData}
 {NK:Addr}
 {NP:FuncData}
 {Ko:Addr}
 {Kq:FuncData}
 {Nj:Addr}
 {Nk:FuncData}
 {Pu:Addr}
 {Px:FuncData}
 {Kr:Addr}
 {Ks:FuncData}
 {JS:Addr}
 {JT:FuncData}
 {Py:Addr}
 {Pz:FuncData}
 {Ip:Addr}
 {Ir:FuncData}
 {Lq:Addr}
 {Lr:FuncData}
 {Ey:Addr}
 {Ez:FuncData}
 {AeM:Addr}
 {Ac6:FuncData}
 {Ku:Addr}
 {Q3:Addr}
 {Q4:Addr}
 {NQ:Addr}
structure Txt (K:PySem.W.Frag) (mg:Str→Option Value) (t:Adr):Prop where
 measured:Df K mg "measured" Tr ["cloth"] t.T6 t.T7
 CP:Df K mg "measured_texts" JF ["texts", "least", "signs"] t.GQ t.GR
 Fg:Df K mg "check_pick" O6 ["text", "ends", "signs"] t.Kg t.Kh
 Mq:Df K mg "end_signs" Le ["cloth", "end"] t.QV t.QW
 Mr:Df K mg "free_half" Lg ["picture", "warp", "weft"] t.QX t.QZ
 BW:Df K mg "measured_picture" Ih ["picture"] t.Ik t.Il
 Bt:Df K mg "check_threads" K4 ["text", "count", "signs"] t.Hz t.HB
 Ms:Df K mg "free_pick" Lh ["text", "warp", "colour"] t.Ra t.Rb
 Mu:Df K mg "free_sign" QQ ["seen", "end_colour", "pick_colour"] t.Rf t.Rh
 Jh:Df K mg "least_draft" Er ["cloth"] t.MN t.MP
 Hk:Df K mg "check_setting" K5 ["threading", "ties"] t.K8 t.K9
 Dj:Df K mg "check_count" M9 ["count"] t.MT t.Nb
 Fi:Df K mg "check_shaft" MF ["shaft"] t.Nf t.Ng
 Mv:Df K mg "check_tie" QR ["tie"] t.Ri t.Rj
 Gx:Df K mg "check_treading" JG ["treading", "treadles"] t.JN t.JP
 Ji:Df K mg "shafts_over" Jo ["threading", "text"] t.Nh t.Ni
 unlike:Df K mg "unlike" Yl ["things"] t.Yo t.Yp
 Hl:Df K mg "lower_strands" Gb ["texts"] t.KC t.KD
 Ha:Df K mg "ways_from" QS ["lower", "start"] t.Rm t.Rn
 Jz:Df K mg "way_to" Ym ["ahead", "goal"] t.Yq t.Yr
 Kv:Df K mg "upper_part" Ke ["lower", "strands"] t.Pj t.Pk
 Hm:Df K mg "measured_half" K6 ["half"] t.KH t.KJ
 Gy:Df K mg "finished_cloth" JH ["half"] t.JQ t.JR
 settle:Df K mg "settle" Tw ["lower", "end", "pick"] t.Ys t.Yt
 Dc:Df K mg "first_colouring" Gu ["picture", "warp", "weft"] t.Gv t.Gw
 HJ:Df K mg "crossings_of" Ii ["picture"] t.Ln t.Lp
 Hn:Df K mg "settle_strand" K7 ["seen_along", "told", "borne", "strand"] t.KN t.KQ
 Kw:Df K mg "chain_from" O9 ["seen_along", "told", "borne", "given", "strand"] t.Pn t.Pq
 Ky:Df K mg "made_draft" OD ["picture", "warp", "weft"] t.Kl t.Km
 Jj:Df K mg "_law_numbers" MJ ["script", "many"] t.Jt t.Ju
 P0:Df K mg "_law_bits" Tz ["numbers", "wide", "high"] t.T8 t.T9
 Fj:Df K mg "_law_threads" Jr ["numbers", "first", "count", "span"] t.Jv t.Jw
 Mw:Df K mg "_law_shows" QT ["given", "warp", "weft"] t.Ro t.Rp
 Jk:Df K mg "_law_picture" MK ["numbers", "wide", "high", "span", "warp", "weft"] t.Jx t.Jy
 Iu:Df K mg "_law_told" T3 ["threads", "numbers", "first", "way", "span"] t.N8 t.NB
 Bv:Df K mg "_law_whole_number" Ij ["found"] t.Im t.Io
 PB:Df K mg "_law_seen" T4 ["picture", "wide", "one", "other"] t.TF t.TJ
 Ge:Df K mg "_law_chain_right" Jd ["picture", "told", "strand", "colour", "chain"] t.Jf t.Jg
 Gz:Df K mg "_law_none_right" JK ["picture", "told", "found"] t.GX t.GZ
 PJ:Df K mg "_law_fits" T5 ["picture", "told", "warp", "weft"] t.NK t.NP
 Kz:Df K mg "_law_halved" OJ ["picture", "warp", "weft"] t.Ko t.Kq
 Fl:Df K mg "_law_reached" Js ["half", "forth"] t.Nj t.Nk
 Gf:Df K mg "_law_joined" Pa ["half"] t.Pu t.Px
 K1:Df K mg "_law_is_cut" Pb ["half", "strands"] t.Kr t.Ks
 Cm:Df K mg "_law_numbers_in" JL ["row", "count", "most"] t.JS t.JT
 Gg:Df K mg "_law_firsts" Pg ["things"] t.Py t.Pz
 HN:Df K mg "_law_cloth_of" Lj ["draft", "wide", "high"] t.Ip t.Ir
 Mx:Df K mg "_law_least" Lk ["draft", "rows"] t.Lq t.Lr
 DX:Df K mg "_law_first_finishing" G7 ["half", "rows", "number"] t.Ey t.Ez
 law:Df K mg "law" AeL ["script"] t.AeM t.Ac6
 AhF:mg "all" = none
 AfY:mg "bool" = none
 Yu:mg "enumerate" = none
 Aav:mg "int" = none
 Cd:mg "isinstance" = none
 Bm:mg "len" = none
 G3:mg "list" = none
 AeN:mg "max" = none
 AhG:mg "min" = none
 Bs:mg "range" = none
 TQ:mg "reversed" = none
 AeO:mg "set" = none
 Yv:mg "sorted" = none
 AeP:mg "str" = none
 Ww:mg "tuple" = none
 Ac7:mg "zip" = none
 Dt:∃ tk,mg "MOST_STRANDS" = some (.int 40 tk)
 HQ:∃ tk,mg "COLOURS" = some (.str "abcdef" tk)
 Us:∃ tk,mg "MOST_SHAFTS" = some (.int 40 tk)
 Aed:mg "WeaveError" = some (.ref t.Ku)
 Aee:PySem.W.isClsIn K t.Ku=true
 Aef:PySem.W.typeIn K (.ref t.Ku)=some (.type "type")
 AgH:mg "NoCloth" = some (.ref t.Q3)
 AgI:PySem.W.isClsIn K t.Q3=true
 AgJ:PySem.W.typeIn K (.ref t.Q3)=some (.type "type")
 AgK:mg "NoDraft" = some (.ref t.Q4)
 AgL:PySem.W.isClsIn K t.Q4=true
 AgM:PySem.W.typeIn K (.ref t.Q4)=some (.type "type")
 AfZ:mg "NoColour" = some (.ref t.NQ)
 Aga:PySem.W.isClsIn K t.NQ=true
 Agb:PySem.W.typeIn K (.ref t.NQ)=some (.type "type")
 Aaw:mg "Draft" = some (.ref t.El)
 Dz:L2.Own K t.El t.GP
 Du:HW K t.El "threading"
 Es:HW K t.El "ties"
 DN:HW K t.El "treading"
 Ac8:Isa K t.El
 JV:Mf K "__init__" "Draft.__init__" GK ["self", "threading", "ties", "treading"] t.El t.GP t.JM
theorem bl1{fd:FuncData}{ps:List Str}(h:∀ a0:Value,bindArgs fd ⟨[a0],[]⟩=pure (ps.zip [a0]))(us:List Value)(hl:us.length=1):bindArgs fd ⟨us,[]⟩=pure (ps.zip us):=by
 rcases us with _ | ⟨a0,us⟩
 ·cases hl
 rcases us with _ | ⟨b,us⟩
 ·exact h a0
 ·cases hl
theorem bl2{fd:FuncData}{ps:List Str}(h:∀ a0 a1:Value,bindArgs fd ⟨[a0,a1],[]⟩=pure (ps.zip [a0,a1]))(us:List Value)(hl:us.length=2):bindArgs fd ⟨us,[]⟩=pure (ps.zip us):=by
 rcases us with _ | ⟨a0,us⟩
 ·cases hl
 rcases us with _ | ⟨a1,us⟩
 ·cases hl
 rcases us with _ | ⟨b,us⟩
 ·exact h a0 a1
 ·cases hl
theorem bl3{fd:FuncData}{ps:List Str}(h:∀ a0 a1 a2:Value,bindArgs fd ⟨[a0,a1,a2],[]⟩=pure (ps.zip [a0,a1,a2]))(us:List Value)(hl:us.length=3):bindArgs fd ⟨us,[]⟩=pure (ps.zip us):=by
 rcases us with _ | ⟨a0,us⟩
 ·cases hl
 rcases us with _ | ⟨a1,us⟩
 ·cases hl
 rcases us with _ | ⟨a2,us⟩
 ·cases hl
 rcases us with _ | ⟨b,us⟩
 ·exact h a0 a1 a2
 ·cases hl
theorem bl4{fd:FuncData}{ps:List Str}(h:∀ a0 a1 a2 a3:Value,bindArgs fd ⟨[a0,a1,a2,a3],[]⟩=pure (ps.zip [a0,a1,a2,a3]))(us:List Value)(hl:us.length=4):bindArgs fd ⟨us,[]⟩=pure (ps.zip us):=by
 rcases us with _ | ⟨a0,us⟩
 ·cases hl
 rcases us with _ | ⟨a1,us⟩
 ·cases hl
 rcases us with _ | ⟨a2,us⟩
 ·cases hl
 rcases us with _ | ⟨a3,us⟩
 ·cases hl
 rcases us with _ | ⟨b,us⟩
 ·exact h a0 a1 a2 a3
 ·cases hl
theorem bl5{fd:FuncData}{ps:List Str}(h:∀ a0 a1 a2 a3 a4:Value,bindArgs fd ⟨[a0,a1,a2,a3,a4],[]⟩=pure (ps.zip [a0,a1,a2,a3,a4]))(us:List Value)(hl:us.length=5):bindArgs fd ⟨us,[]⟩=pure (ps.zip us):=by
 rcases us with _ | ⟨a0,us⟩
 ·cases hl
 rcases us with _ | ⟨a1,us⟩
 ·cases hl
 rcases us with _ | ⟨a2,us⟩
 ·cases hl
 rcases us with _ | ⟨a3,us⟩
 ·cases hl
 rcases us with _ | ⟨a4,us⟩
 ·cases hl
 rcases us with _ | ⟨b,us⟩
 ·exact h a0 a1 a2 a3 a4
 ·cases hl
theorem bl6{fd:FuncData}{ps:List Str}(h:∀ a0 a1 a2 a3 a4 a5:Value,bindArgs fd ⟨[a0,a1,a2,a3,a4,a5],[]⟩=pure (ps.zip [a0,a1,a2,a3,a4,a5]))(us:List Value)(hl:us.length=6):bindArgs fd ⟨us,[]⟩=pure (ps.zip us):=by
 rcases us with _ | ⟨a0,us⟩
 ·cases hl
 rcases us with _ | ⟨a1,us⟩
 ·cases hl
 rcases us with _ | ⟨a2,us⟩
 ·cases hl
 rcases us with _ | ⟨a3,us⟩
 ·cases hl
 rcases us with _ | ⟨a4,us⟩
 ·cases hl
 rcases us with _ | ⟨a5,us⟩
 ·cases hl
 rcases us with _ | ⟨b,us⟩
 ·exact h a0 a1 a2 a3 a4 a5
 ·cases hl
section
variable {P:Program}{w:World}{K:PySem.W.Frag}{mg:Str→Option Value}{base:Heap}{t:Adr}
def AgN (z:Str):Sp:=fun vs H Q _=>∃ v,vs=[v]∧Q (.str z) H
end
section
variable {P:Program}{w:World}{K:PySem.W.Frag}{mg:Str→Option Value}{base:Heap}{t:Adr}
theorem z0(i:Nat):(0+(i:Int)).toNat=i:=by omega
theorem Eo(K:PySem.W.Frag)(n:String):PySem.W.kitOne K (.type n) (.type n)=some true:=if_pos (beq_self_eq_true _)
theorem CV{c d:Nat}:(V.str ⟨#[c]⟩:V)=V.str ⟨#[d]⟩↔c=d :=
 ⟨fun z=>by injection z with z;exact(List.cons.inj (VJ (a:=[c]) (b:=[d]) z)).1,fun z=>by rw[z]⟩
theorem e35:(V.str ⟨#[35]⟩:V)=V.str "#" := congrArg V.str (by decide +kernel)
theorem e46:(V.str ⟨#[46]⟩:V)=V.str "." := congrArg V.str (by decide +kernel)
theorem Ce{n:Nat}(h:n≤40):n≤sizeLine:=AkZ h (by decide)
theorem occ{c:Nat}(h:Sg c):(!(!(Builtin.Str.occurrences "#." ⟨#[c]⟩ 0 (Str.length "#.") 1).isEmpty))=false:=by
 rcases h with h | h <;> subst h <;> decide +kernel
def Ut:Sp:=fun vs H Q _=>∃(t:List Nat),vs=[.str (tx t),.int (t.length:Int),.str "#."]∧(∀ c∈t,Sg c)∧t.length≤40∧Q .non H
theorem Uu(T:Txt K mg t):BP P w K mg base CX0 1 t.Kg t.Kh ["text", "ends", "signs"] Ut:=by
 refine T.Fg.F.ok Hi (fun vs H Q E h=>?_) (fun cdv A outer s H vs Q E hr h=>?_)
 ·obtain⟨t,rfl,_⟩:=h
  rfl
 ·obtain⟨t,rfl,hsg,hl,k⟩:=h
  refine⟨_,(Ab (Bh (Ag Dd (Ah Ay rfl T.Bm Bc (Aa (pv 0) Ac)) (pv 1) (Am _))
    (Ad Cq)
    Aq)
   (Ad (Bo PassesOwn.never rfl (RQ (pv 0)) (Ba (i:=3) Hi.nd rfl (Or.inl rfl))
    (Ad (Bh (Ag Gk (pv 3) (pv 2) rfl)
     (Ad Cq)
     Aq))))),?_⟩
  refine⟨_,rfl,_,rfl,(by rw[An];exact Ce hl),_,rfl,rfl,_,rfl,?_⟩
  refine CQ (by rw[An]) ?_
  refine⟨_,rfl,_,rfl,Om (z:=tx t) (fun i σ H2=>∃ v,σ=[some (.str (tx t)),some (.int (t.length:Int)),some (.str "#."),v]∧H2=H) ⟨none,rfl,rfl⟩ ?_ ?_⟩
  ·rintro i c σ H2 hc ⟨v,rfl,rfl⟩
   rw[Nv] at hc
   refine⟨_,rfl,_,rfl,_,_,rfl,rfl,_,rfl,?_⟩
   rw[occ (hsg c (AkI hc))]
   exact Ci ⟨_,rfl,rfl⟩
  ·rintro σ H2 ⟨v,rfl,rfl⟩
   exact k
def PL (K:PySem.W.Frag):Sp:=fun vs H Q _=>∃(a:Addr) (cl:List (List Nat)) (m n:Nat),vs=[.ref a,.int 1,.str "#."]∧SqL K H a (vS cl)∧Cl cl m n∧∀ p,H p=none→Q (.ref p) (upd H p (.tup [.int (m:Int),.int (n:Int)]))
theorem PN(T:Txt K mg t):BP P w K mg base CX0 2 t.GQ t.GR ["texts", "least", "signs"] (PL K):=by
 refine T.CP.F.ok CT (fun vs H Q E h=>?_) (fun cdv A outer s H vs Q E hr h=>?_)
 ·obtain⟨a,cl,m,n,rfl,_⟩:=h
  rfl
 ·obtain⟨a,cl,m,n,rfl,hS,C,k⟩:=h
  have hlen:(vS cl).length=n:=by rw[Bq,C.hn]
  have h0:0<cl.length:=by rw[C.hn];exact C.n1
  have hm0:=C.hm cl[0] (AkN h0)
  have c1:=C.n1
  have c2:=C.n40
  have c3:=C.m1
  have c4:=C.m40
  refine⟨_,(Ab (Bh (PW.pt (pw_or (Ag Em (Ah (Ak (K:=K)) rfl T.Bm Bc (Aa (pv 0) Ac)) (pv 1) (Am _)) (pw_or1 (Ag M6 (Ah (Ak (K:=K)) rfl T.Bm Bc (Aa (pv 0) Ac)) (Ei (v:=.int 40) rfl T.Dt.choose_spec ⟨_,rfl⟩) (Am _)))))
    (Ad Cq)
    Aq)
   (Ab (Al (i:=3) CT.nd rfl (Or.inl rfl) (Ah Ay rfl T.Bm Bc (Aa (Ai (Ao (K:=K)) (pv 0) Af (fun _ _=>rfl)) Ac)))
   (Ab (Bh (PW.pt (pw_or (Ag Em (pv 3) (pv 1) (Am _)) (pw_or1 (Ag M6 (pv 3) (Ei (v:=.int 40) rfl T.Dt.choose_spec ⟨_,rfl⟩) (Am _)))))
    (Ad Cq)
    Aq)
   (Ab (Bo PassesOwn.never rfl (BR (K:=K) (pv 0)) (Ba (i:=4) CT.nd rfl (Or.inl rfl))
    (Ad (Br (Av ((Uu T).mono (by decide)) hr rfl T.Fg.m T.Fg.F.kp T.Fg.b .nil Bj (Aa (pv 4) (Aa (pv 3) (Aa (pv 2) Ac)))))))
   (Ad (Aw (Gn (Aa (pv 3) (Aa (Ah (Ak (K:=K)) rfl T.Bm Bc (Aa (pv 0) Ac)) Ac))))))))),?_⟩
  refine⟨_,rfl,_,_,rfl,.inl hS,_,rfl,_,_,rfl,rfl,_,rfl,?_⟩
  refine Cv (by rw[hlen];omega) ?_
  refine⟨_,rfl,_,_,rfl,.inl hS,_,_,rfl,rfl,_,rfl,?_⟩
  refine Cv (by rw[hlen];omega) ?_
  refine⟨_,rfl,_,_,_,_,rfl,rfl,hS,Bb (by decide) (Gq (AkD h0)),_,rfl,(by rw[An,hm0];exact Ce c4),?_⟩
  rw[An,hm0]
  refine⟨_,rfl,_,rfl,_,_,rfl,rfl,_,rfl,?_⟩
  refine Cv (by omega) ?_
  refine⟨_,rfl,_,_,rfl,rfl,_,rfl,?_⟩
  refine Cv (by omega) ?_
  refine⟨_,rfl,_,rfl,⟨_,hS⟩,Cr (K:=K) (a:=a) (xs:=vS cl) (fun i σ H2=>∃ v,σ=[some (.ref a),some (.int 1),some (.str "#."),some (.int (m:Int)),v]∧H2=H) ⟨none,rfl,rfl⟩ (fun i σ H2 _ ⟨_,_,e⟩=>e▸hS) ?_ ?_⟩
  ·rintro i x σ H2 hx ⟨v,rfl,rfl⟩
   obtain⟨t,ht,rfl⟩:=Hw hx
   have htm:=AkI ht
   refine⟨_,rfl,_,rfl,_,rfl,t,?_,C.sg t htm,?_,⟨_,rfl,rfl⟩⟩
   ·rw[C.hm t htm];rfl
   ·rw[C.hm t htm];exact c4
  ·rintro σ H2 ⟨v,rfl,rfl⟩
   refine⟨_,rfl,_,rfl,_,_,rfl,.inl hS,(by show 2≤sizeLine;decide),fun p hp=>?_⟩
   rw[hlen]
   exact k p hp
def Yw (K:PySem.W.Frag):Sp:=fun vs H Q _=>∃(a:Addr) (cl:List (List Nat)) (m n:Nat),vs=[.ref a]∧SqL K H a (vS cl)∧Cl cl m n∧∀ p,H p=none→Q (.ref p) (upd H p (.tup [.int (m:Int),.int (n:Int)]))
theorem Yx(T:Txt K mg t):BP P w K mg base CX0 3 t.T6 t.T7 ["cloth"] (Yw K):=by
 refine T.measured.F.ok Yk (fun vs H Q E h=>?_) (fun cdv A outer s H vs Q E hr h=>?_)
 ·obtain⟨a,cl,m,n,rfl,_⟩:=h
  rfl
 ·obtain⟨a,cl,m,n,rfl,hS,C,k⟩:=h
  exact⟨_,(Ad (Aw (Av ((PN T).mono (by decide)) hr rfl T.CP.m T.CP.F.kp T.CP.b .nil Bj (Aa (pv 0) (Aa Af (Aa Bg Ac)))))),_,rfl,a,cl,m,n,rfl,hS,C,k⟩
def Wx (K:PySem.W.Frag):Sp:=fun vs H Q _=>∃(a:Addr) (cl:List (List Nat)) (m n e:Nat),vs=[.ref a,.int (e:Int)]∧SqL K H a (vS cl)∧Cl cl m n∧e<m∧∀ H',Ar H H'→Q (.str (tx (col cl e))) H'
theorem Wz(T:Txt K mg t):BP P w K mg base CX0 1 t.QV t.QW ["cloth", "end"] (Wx K):=by
 refine T.Mq.F.ok Ws (fun vs H Q E h=>?_) (fun cdv A outer s H vs Q E hr h=>?_)
 ·obtain⟨a,cl,m,n,e,rfl,_⟩:=h
  rfl
 ·obtain⟨a,cl,m,n,e,rfl,hS,C,he,k⟩:=h
  have c2:=C.n40
  have c4:=C.m40
  refine⟨_,(Ad (Aw (Ca (K:=K) PySem.F.plainAttrs_str PySem.F.slot_str_join PySem.F.type_str_join (J4 (K:=K)) Bg (Aa (Gp (Eb.mk (By:=[1]) (Nc:=["text", "end"]) rfl (by decide +kernel) (by decide +kernel) (Dy (sc0:=Aj Le) rfl (by decide +kernel)) rfl rfl rfl (by decide +kernel) (fun k j h=>match k,h with | 0,h=>by obtain rfl:=Option.some.inj h;exact⟨_,rfl,rfl,rfl⟩ | _+1,h=>by simp at h)) rfl (BR (K:=K) (pv 0)) (fun _ _ _ _ _=>.nil) (fun _ _ _ _ _=>(Ai Bu (pv 0) (pv 1) (fun _ _=>rfl)))) Ac)))),?_⟩
  refine⟨rfl,_,rfl,_,rfl,⟨_,hS⟩,GC (K:=K) (a:=a) (xs:=vS cl) (fun i ys H2=>H2=H∧ys=vS ((cl.take i).map fun t=>[t.getD e 0])) ⟨rfl,rfl⟩ ?_ ?_ ?_ ?_⟩
  ·rintro i ys H2 hi ⟨rfl,rfl⟩
   refine⟨hS,?_⟩
   rw[Bq,AkE,AkU]
   omega
  ·rw[Bq,C.hn];exact Ce c2
  ·rintro i x ys H2 hi hx ⟨rfl,rfl⟩
   obtain⟨t,ht,rfl⟩:=Hw hx
   have htm:=AkI ht
   have htl:=C.hm t htm
   have hel:e<t.length:=by omega
   refine Gh.no ?_
   refine⟨_,rfl,_,rfl,_,_,t[e],rfl,rfl,(by rw[An,htl];exact Ce c4),(by rw[VH];exact V3 (AkD hel)),?_⟩
   refine CN.of hi ⟨rfl,?_⟩
   rw[DP,Eu,Ale,ht,AkL]
   simp[List.getD,hel]
  ·rintro ys H2 p ⟨rfl,rfl⟩ hp
   rw[Bq,Alq]
   refine⟨_,_,((cl.map fun t=>[t.getD e 0]).map tx),rfl,rfl,SqL.of (by rw[Ae,Kc]),?_,?_⟩
   ·have e1:=AaZ (fun t:List Nat=>t.getD e 0) cl
    rw[e1,AkE,AkE,C.hn]
    have:n*(Str.length "")=0:=by rw[show Str.length "" = 0 from by decide +kernel];omega
    omega
   ·rw[show(("" : Str))=tx [] from by decide +kernel,Ma]
    have e2:(cl.map fun t=>[t.getD e 0]).flatten=col cl e:=UW (fun t:List Nat=>t.getD e 0) cl
    rw[e2]
    exact k _ (.upd hp)
theorem AhH{c:Nat}(h:Co c):(!(!(Builtin.Str.occurrences "abcdef" ⟨#[c]⟩ 0 (Str.length "abcdef") 1).isEmpty))=false:=by
 obtain⟨h1,h2⟩:=h
 have:c=97∨c=98∨c=99∨c=100∨c=101∨c=102:=by omega
 rcases this with h | h | h | h | h | h <;> subst h <;> decide +kernel
def Yy:Sp:=fun vs H Q _=>∃(u:List Nat),vs=[.str (tx u),.int (u.length:Int),.str "abcdef"]∧(∀ c∈u,Co c)∧u.length≤40∧Q .non H
theorem Hb(T:Txt K mg t):BP P w K mg base CX0 1 t.Hz t.HB ["text", "count", "signs"] Yy:=by
 refine T.Bt.F.ok Fw (fun vs H Q E h=>?_) (fun cdv A outer s H vs Q E hr h=>?_)
 ·obtain⟨t,rfl,_⟩:=h
  rfl
 ·obtain⟨t,rfl,hsg,hl,k⟩:=h
  refine⟨_,(Ab (Bh (Ag Dd (Ah Ay rfl T.Bm Bc (Aa (pv 0) Ac)) (pv 1) (Am _))
    (Ad Cq)
    Aq)
   (Ad (Bo PassesOwn.never rfl (RQ (pv 0)) (Ba (i:=3) Fw.nd rfl (Or.inl rfl))
    (Ad (Bh (Ag Gk (pv 3) (pv 2) rfl)
     (Ad Cq)
     Aq))))),?_⟩
  refine⟨_,rfl,_,rfl,(by rw[An];exact Ce hl),_,rfl,rfl,_,rfl,?_⟩
  refine CQ (by rw[An]) ?_
  refine⟨_,rfl,_,rfl,Om (z:=tx t) (fun i σ H2=>∃ v,σ=[some (.str (tx t)),some (.int (t.length:Int)),some (.str "abcdef"),v]∧H2=H) ⟨none,rfl,rfl⟩ ?_ ?_⟩
  ·rintro i c σ H2 hc ⟨v,rfl,rfl⟩
   rw[Nv] at hc
   refine⟨_,rfl,_,rfl,_,_,rfl,rfl,_,rfl,?_⟩
   rw[AhH (hsg c (AkI hc))]
   exact Ci ⟨_,rfl,rfl⟩
  ·rintro σ H2 ⟨v,rfl,rfl⟩
   exact k
theorem Ac9{G R:Prop}(main:(Unit→R)→G)(rest:R):G:=main fun _=>rest
theorem PQ{G:Prop}{R:Nat→Prop}(C:Nat→Prop)(main:(∀ m,C m→R m)→G)(rest:∀ m,C m→R m):G:=main rest
theorem AcA{G:Prop}{R:Int→Prop}(main:(∀ z,R z)→G)(rest:∀ z,R z):G:=main rest
theorem Agc(c:Int){z:Int}(hz:0<z){y:Nat}(hz2:z≤(y:Int)):∃ m:Nat,1+c%z=(m:Int)∧1≤m∧m≤y:=by
 have h1:=Alr c (show z≠0 by omega)
 have h2:=Als c hz
 exact⟨(1+c%z).toNat,by omega,by omega,by omega⟩
def Num (ks:List Int)(m:Nat):Prop:=ks.length=m∧∀ k∈ks,0≤k∧k<1000000
theorem Num.at{ks:List Int}{m:Nat}(h:Num ks m){i:Int}(h0:0≤i)(hi:i<m):∃ z:Int,atI (vI ks) i=some (.int z)∧0≤z∧z<1000000:=by
 have hlt:i.toNat<ks.length:=by rw[h.1];omega
 exact⟨ks[i.toNat],Bb h0 (Hv (AkD hlt)),h.2 _ (AkN hlt)⟩
theorem Num.mod(z:Int):0≤z%1000000∧z%1000000<1000000:=⟨Alr _ (by decide),Als _ (by decide)⟩
def Aeg (K:PySem.W.Frag):Sp:=fun vs H Q _=>∃(a:Addr) (ns:List Int) (m:Nat),vs=[.ref a,.int (m:Int)]∧SqL K H a (vI ns)∧ns.length≤63∧1≤m∧m≤1000 ∧
 ∀(l:Addr) (ks:List Int) (H':Hp),Ar H H'→H l=none→H' l=some (.lst (vI ks))→Num ks m→Q (.ref l) H'
theorem TV(T:Txt K mg t):BP P w K mg base CX0 1 t.Jt t.Ju ["script", "many"] (Aeg K):=by
 refine T.Jj.F.ok Dq (fun vs H Q E h=>?_) (fun cdv A outer s H vs Q E hr h=>?_)
 ·obtain⟨a,ns,m,rfl,_⟩:=h
  rfl
 ·obtain⟨a,ns,m,rfl,hS,hl,hm,hm2,k⟩:=h
  have hsz:sizeLine=16777216:=sizeLine_eq
  refine⟨_,(Ab (Al (i:=2) Dq.nd rfl (Or.inl rfl) (CW Ac))
   (Ab (Al (i:=3) Dq.nd rfl (Or.inl rfl) Af)
   (Ab (Bh (Ag M6 (Ah (Ak (K:=K)) rfl T.Bm Bc (Aa (pv 0) Ac)) Af (Am _))
    (Ad (Al (i:=3) Dq.nd rfl (Or.inl rfl) (Az Cj Af (Az CJ (Ai (Ao (K:=K)) (pv 0) Af (fun _ _=>rfl)) Af))))
    Aq)
   (Ab (Bo PassesOwn.never rfl (Be rfl T.Bs (Aa (pv 1) Ac)) (Ba (i:=4) Dq.nd rfl (Or.inl rfl))
    (Ab (Al (i:=3) Dq.nd rfl (Or.inl rfl) (Az CJ (Az HS (pv 3) Af) Af))
    (Ad (Br (Ca (K:=K) PySem.F.plainAttrs_list PySem.F.slot_list_append PySem.F.type_list_append BL (pv 2) (Aa (Az CJ (Az Hd (pv 3) Af) Af) Ac))))))
   (Ab (Bo PassesOwn.never rfl (Be rfl T.Bs (Aa (Ah (Ak (K:=K)) rfl T.Bm Bc (Aa (pv 0) Ac)) Ac)) (Ba (i:=4) Dq.nd rfl (Or.inl rfl))
    (Ad (Vy (Az CJ (Az Cj (Ai (Ao (K:=K)) (pv 2) (Az CJ (pv 4) (pv 1)) (fun _ _=>rfl)) (Ai (Ao (K:=K)) (pv 0) (pv 4) (fun _ _=>rfl))) Af) (Za (pv 2) (Az CJ (pv 4) (pv 1)) set_list))))
   (Ad (Aw (pv 2)))))))),?_⟩
  refine⟨AkP _,fun q hq=>?_⟩
  have s1:Ar H (upd H q (.lst [])):=.upd hq
  apply AcA
  ·intro rest
   refine⟨_,rfl,_,_,rfl,.inl (s1.seq hS),_,_,rfl,rfl,_,rfl,?_⟩
   refine Dg (fun h1=>?_) (fun h1=>?_)
   ·have hlt:0<ns.length:=by rw[Bx] at h1;omega
    refine⟨_,rfl,_,_,_,_,rfl,rfl,s1.seq hS,Bb (by decide) (Hv (AkD hlt)),_,_,rfl,rfl,(by show(0:Int)<2147483646;decide),_,_,rfl,rfl,?_⟩
    obtain⟨z,ez⟩:∃ z:Int,z=(1:Int)+(ns[0]'hlt:Int)%(2147483646:Int):=⟨_,rfl⟩
    dsimp only
    rw[← ez]
    exact rest z
   ·exact rest 1
  ·intro z0
   refine⟨_,rfl,_,rfl,(by omega),(by omega),?_⟩
   rw[AkJ]
   refine Bp (lo:=0) (n:=m) (fun i σ H2=>∃(z:Int) (ks:List Int) (v:Option V),σ=[some (.ref a),some (.int (m:Int)),some (.ref q),some (.int z),v]∧Ar H H2∧H2 q=some (.lst (vI ks))∧Num ks i)
    ⟨z0,[],none,rfl,s1,Ae,rfl,fun _ h=>absurd h (by simp)⟩ ?_ ?_
   ·rintro i σ H2 hi ⟨z,ks,v,rfl,s2,hq2,hkl⟩
    refine⟨_,rfl,_,_,rfl,rfl,.inr ⟨by decide,by decide⟩,_,_,rfl,rfl,(by show(0:Int)<2147483647;decide),?_⟩
    refine⟨_,rfl,.inl ⟨rfl,_,SqL.of hq2⟩,_,rfl,_,_,rfl,rfl,⟨by decide,by decide⟩,_,_,rfl,rfl,(by show(0:Int)<1000000;decide),_,_,_,rfl,rfl,hq2,(by rw[Bx,hkl.1];omega),?_⟩
    rw[GF]
    refine⟨_,_,_,rfl,s2.over hq,Ae,by rw[AkG,hkl.1];rfl,fun x hx=>?_⟩
    rcases List.mem_append.mp hx with h | h
    ·exact hkl.2 x h
    ·rw[List.mem_singleton.mp h];exact Num.mod _
   ·rintro σ H2 ⟨z,ks,v,rfl,s2,hq2,hkl⟩
    refine⟨_,rfl,_,_,rfl,.inl (s2.seq hS),_,rfl,(by omega),(by rw[Bx];omega),?_⟩
    rw[AkJ,Bx]
    refine Bp (lo:=0) (n:=ns.length) (fun i σ H2=>∃(ks:List Int) (v:Option V),σ=[some (.ref a),some (.int (m:Int)),some (.ref q),some (.int z),v]∧Ar H H2∧H2 q=some (.lst (vI ks))∧Num ks m)
     ⟨ks,v,rfl,s2,hq2,hkl⟩ ?_ ?_
    ·rintro i σ H3 hi ⟨ks,v,rfl,s3,hq3,hkl⟩
     have hix:(0+(i:Int))%(m:Int)=((i%m:Nat):Int):=by rw[Alk];omega
     have hlt:i%m<ks.length:=by rw[hkl.1];exact Nat.mod_lt _ (by omega)
     have e1:(vI ks)[((0+(i:Int))%(m:Int)).toNat]?=some (.int ks[i%m]):=by
      rw[hix,AkJ]
      exact Hv (AkD hlt)
     have e2:(vI ns)[(0+(i:Int)).toNat]?=some (.int ns[i]):=by
      rw[Alk,AkJ]
      exact Hv (AkD hi)
     have n1:0≤(0+(i:Int))%(m:Int):=by rw[hix];omega
     refine⟨_,rfl,_,rfl,_,rfl,_,_,rfl,rfl,(by show(0:Int)<m;omega),?_⟩
     refine⟨_,_,_,_,rfl,rfl,SqL.of hq3,Bb n1 e1,?_⟩
     refine⟨_,rfl,_,rfl,_,_,_,_,rfl,rfl,s3.seq hS,Bb (by omega) e2,?_⟩
     refine⟨_,_,rfl,rfl,?_⟩
     refine⟨_,_,rfl,rfl,(by show(0:Int)<1000000;decide),?_⟩
     refine⟨_,rfl,_,rfl,_,rfl,_,_,rfl,rfl,(by show(0:Int)<m;omega),?_⟩
     refine⟨_,_,_,_,rfl,rfl,hq3,RW n1 (by rw[Bx,hkl.1,hix];have:=Nat.mod_lt i (show m>0 by omega);omega),?_⟩
     rw[Af6]
     refine⟨_,_,rfl,s3.over hq,Ae,by rw[Al9];exact hkl.1,fun x hx=>?_⟩
     rcases List.mem_or_eq_of_mem_set hx with h | h
     ·exact hkl.2 x h
     ·rw[h];exact Num.mod _
    ·rintro σ H3 ⟨ks,v,rfl,s3,hq3,hkl⟩
     exact⟨_,rfl,k q ks H3 s3 hq hq3 hkl⟩
theorem Agd(z:Int):∃ c:Nat,atI ((".#" : Str)).cps.toList (z%2)=some c∧Sg c:=by
 have h1:=Alr z (show(2:Int)≠0 by decide)
 have h2:=Als z (show(0:Int)<2 by decide)
 have:z%2=0∨z%2=1:=by omega
 rcases this with h | h <;> rw[h]
 ·exact⟨46,by decide +kernel,.inr rfl⟩
 ·exact⟨35,by decide +kernel,.inl rfl⟩
theorem Age{u:List Nat}{c:Nat}(h:∀ d∈u,Sg d)(hc:Sg c):∀ d∈u++[c],Sg d:=fun d hd=>by
 rcases List.mem_append.mp hd with h1 | h1
 ·exact h d h1
 ·rw[List.mem_singleton.mp h1];exact hc
def Aeh (K:PySem.W.Frag):Sp:=fun vs H Q _=>∃(a:Addr) (ks:List Int) (m n:Nat),vs=[.ref a,.int (m:Int),.int (n:Int)]∧SqL K H a (vI ks)∧Num ks 63∧1≤m∧m≤40∧1≤n∧n≤40 ∧
 ∀(l:Addr) (cl:List (List Nat)) (H':Hp),Ar H H'→H l=none→H' l=some (.lst (vS cl))→Cl cl m n→Q (.ref l) H'
theorem Yz(T:Txt K mg t):BP P w K mg base CX0 1 t.T8 t.T9 ["numbers", "wide", "high"] (Aeh K):=by
 refine T.P0.F.ok Fe (fun vs H Q E h=>?_) (fun cdv A outer s H vs Q E hr h=>?_)
 ·obtain⟨a,ks,m,n,rfl,_⟩:=h
  rfl
 ·obtain⟨a,ks,m,n,rfl,hS,hN,m1,m40,n1,n40,k⟩:=h
  have hsz:sizeLine=16777216:=sizeLine_eq
  refine⟨_,(Ab (Al (i:=3) Fe.nd rfl (Or.inl rfl) (CW Ac))
   (Ab (Bo PassesOwn.never rfl (Be rfl T.Bs (Aa (pv 2) Ac)) (Ba (i:=4) Fe.nd rfl (Or.inl rfl))
    (Ab (Al (i:=5) Fe.nd rfl (Or.inl rfl) Bg)
    (Ab (Bo PassesOwn.never rfl (Be rfl T.Bs (Aa (pv 1) Ac)) (Ba (i:=6) Fe.nd rfl (Or.inl rfl))
     (Ab (Al (i:=7) Fe.nd rfl (Or.inl rfl) (Az Cj (Az HS (pv 4) Af) (pv 6)))
     (Ad (Al (i:=5) Fe.nd rfl (Or.inl rfl) (Az Cp (pv 5) (Ai Bu Bg (Az CJ (Az Hd (Ai (Ao (K:=K)) (pv 0) (Az Cj Af (Az CJ (pv 7) Af)) (fun _ _=>rfl)) (Az Cj Af (Az HS Af (Az Hd (pv 7) Af)))) Af) (fun _ _=>rfl)))))))
    (Ad (Br (Ca (K:=K) PySem.F.plainAttrs_list PySem.F.slot_list_append PySem.F.type_list_append BL (pv 3) (Aa (pv 5) Ac)))))))
   (Ad (Aw (pv 3))))),?_⟩
  refine⟨AkP _,fun q hq=>?_⟩
  have s1:Ar H (upd H q (.lst [])):=.upd hq
  refine⟨_,rfl,_,rfl,(by omega),(by omega),?_⟩
  rw[AkJ]
  refine Bp (lo:=0) (n:=n) (fun i σ H2=>∃(cl:List (List Nat)) (v1 v2 v3 v4:Option V),σ=[some (.ref a),some (.int (m:Int)),some (.int (n:Int)),some (.ref q),v1,v2,v3,v4]∧Ar H H2∧H2 q=some (.lst (vS cl))∧cl.length=i∧(∀ t∈cl,t.length=m)∧∀ t∈cl,∀ c∈t,Sg c)
   ⟨[],none,none,none,none,rfl,s1,Ae,rfl,fun _ h=>absurd h (by simp),fun _ h=>absurd h (by simp)⟩ ?_ ?_
  ·rintro i σ H2 hi ⟨cl,v1,v2,v3,v4,rfl,s2,hq2,hcl,hcm,hcs⟩
   refine⟨_,rfl,_,rfl,(by omega),(by omega),?_⟩
   rw[AkJ]
   refine Bp (lo:=0) (n:=m) (fun j σ H3=>∃(u:List Nat) (v3 v4:Option V),σ=[some (.ref a),some (.int (m:Int)),some (.int (n:Int)),some (.ref q),some (.int (0+(i:Int))),some (.str (tx u)),v3,v4]∧H3=H2∧u.length=j∧∀ c∈u,Sg c)
    ⟨[],v3,v4,by rw[show(("" : Str))=tx [] from by decide +kernel];rfl,rfl,rfl,fun _ h=>absurd h (by simp)⟩ ?_ ?_
   ·rintro j σ H3 hj ⟨u,v3,v4,rfl,rfl,hul,hus⟩
    refine⟨_,rfl,_,_,rfl,rfl,.inr ⟨by decide,by decide⟩,_,rfl,_,_,rfl,rfl,?_⟩
    obtain⟨y,ey⟩:∃ y:Int,y=(0+(i:Int))*40+(0+(j:Int)):=⟨_,rfl⟩
    have y0:0≤y:=by omega
    have y1:y<1600:=by omega
    dsimp only
    rw[← ey]
    have b1:=Alr y (show(55:Int)≠0 by decide)
    have b2:=Als y (show(0:Int)<55 by decide)
    obtain⟨z,ez,_⟩:=hN.at (i:=8+y%55) (by omega) (by omega)
    have d0:0≤y / 55:=Int.ediv_nonneg y0 (by decide)
    have d1:y / 55≤1600:=by omega
    obtain⟨c,ec,hc⟩:=Agd (z / (1+2*(y / 55)))
    refine⟨_,rfl,_,rfl,_,rfl,_,_,rfl,rfl,(by show(0:Int)<55;decide),_,_,rfl,rfl,_,_,_,_,rfl,rfl,s2.seq hS,ez,?_⟩
    refine⟨_,rfl,_,_,rfl,rfl,⟨by decide,by decide⟩,_,_,rfl,rfl,.inl ⟨by decide,by decide⟩,_,_,rfl,rfl,_,_,rfl,rfl,⟨by omega,by omega⟩,_,_,rfl,rfl,(by show(0:Int)<2;decide),?_⟩
    refine⟨_,_,_,rfl,rfl,(by decide +kernel),ec,_,_,rfl,rfl,?_,?_⟩
    ·rw[An,DP,An,hul]
     show j+1≤sizeLine
     omega
    ·rw[DP,GD]
     exact⟨_,_,_,rfl,rfl,by rw[AkG,hul];rfl,Age hus hc⟩
   ·rintro σ H3 ⟨u,v3,v4,rfl,rfl,hul,hus⟩
    refine⟨_,rfl,.inl ⟨rfl,_,SqL.of hq2⟩,_,rfl,_,_,_,rfl,rfl,hq2,(by rw[Bq,hcl];omega),?_⟩
    rw[Eu]
    refine⟨_,_,_,_,_,rfl,s2.over hq,Ae,by rw[AkG,hcl];rfl,fun t ht=>?_,fun t ht=>?_⟩
    ·rcases List.mem_append.mp ht with h | h
     ·exact hcm t h
     ·rw[List.mem_singleton.mp h];exact hul
    ·rcases List.mem_append.mp ht with h | h
     ·exact hcs t h
     ·rw[List.mem_singleton.mp h];exact hus
  ·rintro σ H2 ⟨cl,v1,v2,v3,v4,rfl,s2,hq2,hcl,hcm,hcs⟩
   exact⟨_,rfl,k q cl H2 s2 hq hq2 ⟨hcl,hcm,hcs,m1,m40,n1,n40⟩⟩
theorem Z8{z:Int}(h0:0≤z)(h6:z<6):∃ c:Nat,atI (("abcdef" : Str)).cps.toList z=some c∧Co c:=by
 have:z=0∨z=1∨z=2∨z=3∨z=4∨z=5:=by omega
 rcases this with h | h | h | h | h | h <;> subst h
 ·exact⟨97,by decide +kernel,by decide,by decide⟩
 ·exact⟨98,by decide +kernel,by decide,by decide⟩
 ·exact⟨99,by decide +kernel,by decide,by decide⟩
 ·exact⟨100,by decide +kernel,by decide,by decide⟩
 ·exact⟨101,by decide +kernel,by decide,by decide⟩
 ·exact⟨102,by decide +kernel,by decide,by decide⟩
def Z9 (K:PySem.W.Frag):Sp:=fun vs H Q _=>∃(a:Addr) (ks:List Int) (f m s:Nat),vs=[.ref a,.int (f:Int),.int (m:Int),.int (s:Int)]∧SqL K H a (vI ks)∧Num ks 63∧m≤40∧1≤s∧s≤6 ∧
 ∀(u:List Nat) (H':Hp),Ar H H'→u.length=m→(∀ c∈u,Co c)→Q (.str (tx u)) H'
theorem TX(T:Txt K mg t):BP P w K mg base CX0 1 t.Jv t.Jw ["numbers", "first", "count", "span"] (Z9 K):=by
 refine T.Fj.F.ok Li (fun vs H Q E h=>?_) (fun cdv A outer s H vs Q E hr h=>?_)
 ·obtain⟨a,ks,f,m,s,rfl,_⟩:=h
  rfl
 ·obtain⟨a,ks,f,m,s,rfl,hS,hN,hm,hs,hs6,k⟩:=h
  have hsz:sizeLine=16777216:=sizeLine_eq
  refine⟨_,(Ab (Rx (i:=4) (Eb.mk (By:=[0,1,3]) (Nc:=["k", "numbers", "first", "span"]) rfl (by decide +kernel) (by decide +kernel) (Dy (sc0:=Aj Jr) rfl (by decide +kernel)) rfl rfl rfl (by decide +kernel) (fun k j h=>match k,h with | 0,h=>by obtain rfl:=Option.some.inj h;exact⟨_,rfl,rfl,rfl⟩ | 1,h=>by obtain rfl:=Option.some.inj h;exact⟨_,rfl,rfl,rfl⟩ | 2,h=>by obtain rfl:=Option.some.inj h;exact⟨_,rfl,rfl,rfl⟩ | _+3,h=>by simp at h)) rfl Li.nd rfl rfl (Be rfl T.Bs (Aa (pv 2) Ac)) (fun _ _ _ _ _=>.nil) (fun _ _ _ _ _=>(Ai Bu Bg (Az CJ (Az Hd (Ai (Ao (K:=K)) (pv 1) (Az Cj Af (Az CJ (Az Cj (pv 2) (Az HS Af (pv 0))) Af)) (fun _ _=>rfl)) Af) (pv 3)) (fun _ _=>rfl))) rfl)
   (Ad (Aw (Ca (K:=K) PySem.F.plainAttrs_str PySem.F.slot_str_join PySem.F.type_str_join (J4 (K:=K)) Bg (Aa (pv 4) Ac))))),?_⟩
  refine⟨_,rfl,_,rfl,(by omega),(by omega),?_⟩
  rw[AkJ]
  refine EY (lo:=0) (n:=m) (fun i ys H2=>H2=H∧∃ u:List Nat,ys=vS (u.map fun d=>[d])∧u.length=i∧∀ c∈u,Co c) ⟨rfl,[],rfl,rfl,fun _ h=>absurd h (by simp)⟩ ?_ ?_ ?_ ?_
  ·rintro i ys H2 hi ⟨rfl,u,rfl,hu,_⟩
   rw[Bq,AkE,hu]
   exact AkF _
  ·omega
  ·rintro i ys H2 hi ⟨rfl,u,rfl,hu,hus⟩
   obtain⟨y,ey⟩:∃ y:Int,y=(f:Int)+3*(0+(i:Int)):=⟨_,rfl⟩
   have b1:=Alr y (show(55:Int)≠0 by decide)
   have b2:=Als y (show(0:Int)<55 by decide)
   obtain⟨z,ez,_⟩:=hN.at (i:=8+y%55) (by omega) (by omega)
   have b3:=Alr (z / 7) (show(s:Int)≠0 by omega)
   have b4:=Als (z / 7) (show(0:Int)<(s:Int) by omega)
   obtain⟨c,ec,hc⟩:=Z8 b3 (by omega)
   subst ey
   refine Gh.no ?_
   refine⟨_,rfl,_,rfl,_,rfl,_,_,rfl,rfl,.inl ⟨by decide,by decide⟩,_,_,rfl,rfl,_,_,rfl,rfl,(by show(0:Int)<55;decide),_,_,rfl,rfl,_,_,_,_,rfl,rfl,hS,ez,?_⟩
   refine⟨_,_,rfl,rfl,⟨by decide,by decide⟩,_,rfl,_,_,rfl,rfl,(by show(0:Int)<(s:Int);omega),_,_,_,rfl,rfl,(by decide +kernel),ec,?_⟩
   refine CN.of hi ⟨rfl,u++[c],?_,by rw[AkG,hu];rfl,fun d hd=>?_⟩
   ·rw[AkL,DP,Eu]
    rfl
   ·rcases List.mem_append.mp hd with h1 | h1
    ·exact hus d h1
    ·rw[List.mem_singleton.mp h1];exact hc
  ·rintro ys H2 p ⟨rfl,u,rfl,hu,hus⟩ hp
   refine⟨rfl,_,rfl,_,_,((u.map fun d=>[d]).map tx),rfl,rfl,SqL.of (by rw[Ae,Kc]),?_,?_⟩
   ·have e1:=AaZ (fun d:Nat=>d) u
    rw[e1,AkE,AkE,hu]
    have:m*(Str.length "")=0:=by rw[show Str.length "" = 0 from by decide +kernel];omega
    omega
   ·rw[show(("" : Str))=tx [] from by decide +kernel,Ma]
    have e2:(u.map fun d=>[d]).flatten=u:=(UW (fun d:Nat=>d) u).trans (List.map_id _)
    rw[e2]
    exact k _ _ (.upd hp) hu hus
end
def Rct (cl:List (List Nat))(m n:Nat):Prop:=cl.length=n∧∀ t∈cl,t.length=m
theorem Rct.at{cl:List (List Nat)}{m n j:Nat}(R:Rct cl m n)(h:j<n):cl[j]?=some (cl.getD j [])∧(cl.getD j []).length=m∧atI (vS cl) (0+(j:Int))=some (.str (tx (cl.getD j []))):=by
 have hl:j<cl.length:=by rw[R.1];exact h
 have e:cl[j]?=some (cl.getD j []):=by rw[AkD hl];simp[List.getD,hl]
 refine⟨e,R.2 _ (AkI e),Bb (by omega) ?_⟩
 rw[show(0+(j:Int)).toNat=j by omega]
 exact Gq e
theorem G4{u:List Nat}{i:Nat}(h:i<u.length):atI (tx u).cps.toList (0+(i:Int))=some (u.getD i 0):=by
 refine Bb (by omega) ?_
 rw[show(0+(i:Int)).toNat=i by omega]
 show u.toArray.toList[i]?=_
 simp[List.getD,h]
theorem take_one{u:List Nat}{i:Nat}(h:i<u.length):u.take (i+1)=u.take i++[u.getD i 0]:=by
 rw[Ale,AkD h]
 simp[List.getD,h]
theorem Vk{u:List (List Nat)}{i:Nat}(h:i<u.length):u.take (i+1)=u.take i++[u.getD i []]:=by
 rw[Ale,AkD h]
 simp[List.getD,h]
theorem Q5{cl:List (List Nat)}{wa we:List Nat}{j:Nat}(h:j<cl.length):(Ow cl wa we).getD j []=shown (cl.getD j []) wa (we.getD j 0):=by
 rw[AkH,Ac1 h];rfl
theorem NT{cl:List (List Nat)}{wa we:List Nat}{j:Nat}(h:j<cl.length):(DR cl wa we).getD j []=Fy (cl.getD j []) wa (we.getD j 0):=by
 rw[AkH,Tg h];rfl
def flp (u v:List Nat):List Nat:=(List.range u.length).map fun k=>if u.getD k 0=63 then v.getD k 0 else u.getD k 0
def AkB (cl dl:List (List Nat)):List (List Nat):=(List.range cl.length).map fun j=>flp (cl.getD j []) (dl.getD j [])
section
variable {P:Program}{w:World}{K:PySem.W.Frag}{mg:Str→Option Value}{base:Heap}{t:Adr}
theorem e63:(V.str ⟨#[63]⟩:V)=V.str "?" := congrArg V.str (by decide +kernel)
theorem v35:(("#" : Str))=⟨#[35]⟩:=by decide +kernel
theorem v46:(("." : Str))=⟨#[46]⟩:=by decide +kernel
theorem v63:(("?" : Str))=⟨#[63]⟩:=by decide +kernel
def Aei (K:PySem.W.Frag):Sp:=fun vs H Q _=>∃(a:Addr) (cl:List (List Nat)) (m n:Nat),vs=[.ref a]∧SqL K H a (vS cl)∧Pic cl m n∧∀ p,H p=none→Q (.ref p) (upd H p (.tup [.int (m:Int),.int (n:Int)]))
theorem FP(T:Txt K mg t):BP P w K mg base CX0 2 t.Ik t.Il ["picture"] (Aei K):=by
 refine T.BW.F.ok FN (fun vs H Q E h=>?_) (fun cdv A outer s H vs Q E hr h=>?_)
 ·obtain⟨a,cl,m,n,rfl,_⟩:=h
  rfl
 ·obtain⟨a,cl,m,n,rfl,hS,C,k⟩:=h
  have hlen:(vS cl).length=n:=by rw[Bq,C.hn]
  have h0:0<cl.length:=by rw[C.hn];exact C.n1
  have hm0:=C.hm cl[0] (AkN h0)
  have c1:=C.n1
  have c2:=C.n40
  have c3:=C.m1
  have c4:=C.m40
  refine⟨_,(Ab (Bh (PW.pt (pw_or (Ag Em (Ah (Ak (K:=K)) rfl T.Bm Bc (Aa (pv 0) Ac)) Af (Am _)) (pw_or1 (Ag M6 (Ah (Ak (K:=K)) rfl T.Bm Bc (Aa (pv 0) Ac)) (Ei (v:=.int 40) rfl T.Dt.choose_spec ⟨_,rfl⟩) (Am _)))))
    (Ad Cq)
    Aq)
   (Ab (Al (i:=1) FN.nd rfl (Or.inl rfl) (Ah Ay rfl T.Bm Bc (Aa (Ai (Ao (K:=K)) (pv 0) Af (fun _ _=>rfl)) Ac)))
   (Ab (Bh (PW.pt (pw_or (Ag Em (pv 1) Af (Am _)) (pw_or1 (Ag M6 (pv 1) (Ei (v:=.int 40) rfl T.Dt.choose_spec ⟨_,rfl⟩) (Am _)))))
    (Ad Cq)
    Aq)
   (Ab (Bo PassesOwn.never rfl (BR (K:=K) (pv 0)) (Ba (i:=2) FN.nd rfl (Or.inl rfl))
    (Ad (Br (Av ((Hb T).mono (by decide)) hr rfl T.Bt.m T.Bt.F.kp T.Bt.b .nil Bj (Aa (pv 2) (Aa (pv 1) (Aa (Ei (v:=.str "abcdef") rfl T.HQ.choose_spec ⟨_,rfl⟩) Ac)))))))
   (Ad (Aw (Gn (Aa (pv 1) (Aa (Ah (Ak (K:=K)) rfl T.Bm Bc (Aa (pv 0) Ac)) Ac))))))))),?_⟩
  refine⟨_,rfl,_,_,rfl,.inl hS,_,_,rfl,rfl,_,rfl,?_⟩
  refine Cv (by rw[hlen];omega) ?_
  refine⟨_,rfl,_,_,rfl,.inl hS,_,_,rfl,rfl,_,rfl,?_⟩
  refine Cv (by rw[hlen];omega) ?_
  refine⟨_,rfl,_,_,_,_,rfl,rfl,hS,Bb (by decide) (Gq (AkD h0)),_,rfl,(by rw[An,hm0];exact Ce c4),?_⟩
  rw[An,hm0]
  refine⟨_,rfl,_,_,rfl,rfl,_,rfl,?_⟩
  refine Cv (by omega) ?_
  refine⟨_,rfl,_,_,rfl,rfl,_,rfl,?_⟩
  refine Cv (by omega) ?_
  refine⟨_,rfl,_,rfl,⟨_,hS⟩,Cr (K:=K) (a:=a) (xs:=vS cl) (fun i σ H2=>∃ v,σ=[some (.ref a),some (.int (m:Int)),v]∧H2=H) ⟨none,rfl,rfl⟩ (fun i σ H2 _ ⟨_,_,e⟩=>e▸hS) ?_ ?_⟩
  ·rintro i x σ H2 hx ⟨v,rfl,rfl⟩
   obtain⟨t,ht,rfl⟩:=Hw hx
   have htm:=AkI ht
   refine⟨_,rfl,_,rfl,t,?_,C.co t htm,?_,⟨_,rfl,rfl⟩⟩
   ·rw[C.hm t htm];rfl
   ·rw[C.hm t htm];exact c4
  ·rintro σ H2 ⟨v,rfl,rfl⟩
   refine⟨_,rfl,_,rfl,_,_,rfl,.inl hS,(by show 2≤sizeLine;decide),fun p hp=>?_⟩
   rw[hlen]
   exact k p hp
def AcB (K:PySem.W.Frag):Sp:=fun vs H Q _=>∃(a:Addr) (cl:List (List Nat)) (m n:Nat) (wa we:List Nat),vs=[.ref a,.str (tx wa),.str (tx we)]∧SqL K H a (vS cl)∧Rct cl m n∧m≤40∧n≤40∧wa.length=m∧we.length=n ∧
 ∀ l H',Ar H H'→H' l=some (.lst (vS (Ow cl wa we)))→Q (.ref l) H'
theorem W0(T:Txt K mg t):BP P w K mg base CX0 1 t.Ro t.Rp ["given", "warp", "weft"] (AcB K):=by
 refine T.Mw.F.ok Ek (fun vs H Q E h=>?_) (fun cdv A outer s H vs Q E hr h=>?_)
 ·obtain⟨a,cl,m,n,wa,we,rfl,_⟩:=h
  rfl
 ·obtain⟨a,cl,m,n,wa,we,rfl,hS,R,m40,n40,hwa,hwe,k⟩:=h
  have hsz:sizeLine=16777216:=sizeLine_eq
  have hlen:(vS cl).length=n:=by rw[Bq,R.1]
  have sl:∀ u:List Nat,u.length≤40→(tx u).length≤sizeLine:=fun u h=>by rw[An];exact Ce h
  refine⟨_,(Ab (Al (i:=3) Ek.nd rfl (Or.inl rfl) (CW Ac))
   (Ab (Bo PassesOwn.never rfl (Be rfl T.Bs (Aa (Ah (Ak (K:=K)) rfl T.Bm Bc (Aa (pv 0) Ac)) Ac)) (Ba (i:=4) Ek.nd rfl (Or.inl rfl))
    (Ab (Al (i:=5) Ek.nd rfl (Or.inl rfl) Bg)
    (Ab (Bo PassesOwn.never rfl (Be rfl T.Bs (Aa (Ah Ay rfl T.Bm Bc (Aa (pv 1) Ac)) Ac)) (Ba (i:=6) Ek.nd rfl (Or.inl rfl))
     (Ad (Bh (Ag Cz (Ai Bu (Ai (Ao (K:=K)) (pv 0) (pv 4) (fun _ _=>rfl)) (pv 6) (fun _ _=>rfl)) Bg (Am _))
      (Ad (Al (i:=5) Ek.nd rfl (Or.inl rfl) (Az Cp (pv 5) (Ai Bu (pv 1) (pv 6) (fun _ _=>rfl)))))
      (Ad (Al (i:=5) Ek.nd rfl (Or.inl rfl) (Az Cp (pv 5) (Ai Bu (pv 2) (pv 4) (fun _ _=>rfl))))))))
    (Ad (Br (Ca (K:=K) PySem.F.plainAttrs_list PySem.F.slot_list_append PySem.F.type_list_append BL (pv 3) (Aa (pv 5) Ac)))))))
   (Ad (Aw (pv 3))))),?_⟩
  refine⟨AkP _,fun q nq=>?_⟩
  have s1:Ar H (upd H q (.lst [])):=.upd nq
  have hq1:(upd H q (.lst [])) q=some (.lst (vS [])):=Ae
  generalize upd H q (.lst [])=H1 at s1 hq1 ⊢
  refine⟨_,rfl,_,_,rfl,.inl (s1.seq hS),_,rfl,(by omega),(by rw[hlen];omega),?_⟩
  rw[AkJ,hlen]
  refine Bp (lo:=0) (n:=n) (fun i σ H2=>∃(v4 v5 v6:Option V),σ=[some (.ref a),some (.str (tx wa)),some (.str (tx we)),some (.ref q),v4,v5,v6]∧Ar H H2∧H2 q=some (.lst (vS ((Ow cl wa we).take i)))) ⟨none,none,none,rfl,s1,hq1⟩ ?_ ?_
  ·rintro i σ H2 hi ⟨v4,v5,v6,rfl,s2,hq2⟩
   have hic:i<cl.length:=by rw[R.1];exact hi
   obtain⟨ei,li,ai⟩:=R.at hi
   have rl:(shown (cl.getD i []) wa (we.getD i 0)).length=m:=by rw[Ve,li]
   obtain⟨row,ZC⟩:∃ row,row=shown (cl.getD i []) wa (we.getD i 0):=⟨_,rfl⟩
   rw[← ZC] at rl
   refine⟨_,rfl,_,rfl,sl _ (by omega),_,rfl,(by omega),(by rw[An];omega),?_⟩
   rw[An,AkJ,hwa]
   refine Bp (lo:=0) (n:=m) (fun j σ H3=>∃(v6:Option V),σ=[some (.ref a),some (.str (tx wa)),some (.str (tx we)),some (.ref q),some (.int (0+(i:Int))),some (.str (tx (row.take j))),v6]∧H3=H2) ⟨_,by rw[show(("" : Str))=tx [] from by decide +kernel] <;> rfl,rfl⟩ ?_ ?_
   ·rintro j σ H3 hj ⟨v6,rfl,rfl⟩
    have g:row.getD j 0=if (cl.getD i []).getD j 0=35 then wa.getD j 0 else we.getD i 0:=by rw[ZC];exact Vf (by omega)
    have tk:=take_one (u:=row) (i:=j) (by omega)
    refine⟨_,rfl,_,rfl,_,_,_,_,rfl,rfl,s2.seq hS,ai,_,rfl,_,_,_,rfl,rfl,sl _ (by omega),G4 (by omega),rfl,_,rfl,?_⟩
    refine Dg (fun h=>?_) (fun h=>?_)
    ·have h35:(cl.getD i []).getD j 0=35:=CV.mp (h.trans e35.symm)
     rw[if_pos h35] at g
     refine⟨_,rfl,_,rfl,_,rfl,_,_,_,rfl,rfl,sl _ (by omega),G4 (by omega),_,_,rfl,rfl,(by rw[DP,An,An,AkU];show _+1≤sizeLine;omega),?_⟩
     rw[DP,GD,← g,← tk]
     exact⟨_,rfl,rfl⟩
    ·have h35:¬(cl.getD i []).getD j 0=35:=fun z=>h (by rw[z];exact e35)
     rw[if_neg h35] at g
     refine⟨_,rfl,_,rfl,_,rfl,_,_,_,rfl,rfl,sl _ (by omega),G4 (by omega),_,_,rfl,rfl,(by rw[DP,An,An,AkU];show _+1≤sizeLine;omega),?_⟩
     rw[DP,GD,← g,← tk]
     exact⟨_,rfl,rfl⟩
   ·rintro σ H3 ⟨v6,rfl,rfl⟩
    refine⟨_,rfl,.inl ⟨rfl,_,SqL.of hq2⟩,_,rfl,_,_,_,rfl,rfl,hq2,(by rw[Bq,AkU];omega),?_⟩
    rw[Aly (show row.length≤m by omega),Eu]
    refine⟨_,_,_,rfl,s2.over nq,?_⟩
    rw[Ae,Vk (by rw[Ox];exact hic),Q5 hic,ZC]
  ·rintro σ H2 ⟨v4,v5,v6,rfl,s2,hq2⟩
   rw[Aly (by rw[Ox,R.1];exact AkF _)] at hq2
   exact⟨_,rfl,k q H2 s2 hq2⟩
def AcC:Sp:=fun vs H Q _=>∃(x e p:Nat),vs=[.str ⟨#[x]⟩,.str ⟨#[e]⟩,.str ⟨#[p]⟩]∧hs x e p≠33∧Q (.str ⟨#[hs x e p]⟩) H
theorem W3(T:Txt K mg t):BP P w K mg base CX0 1 t.Rf t.Rh ["seen", "end_colour", "pick_colour"] AcC:=by
 refine T.Mu.F.ok Wu (fun vs H Q E h=>?_) (fun cdv A outer s H vs Q E hr h=>?_)
 ·obtain⟨x,e,p,rfl,_⟩:=h
  rfl
 ·obtain⟨x,e,p,rfl,n33,k1⟩:=h
  refine⟨_,(Ab (Bh (Ag Cz (pv 1) (pv 0) (Am _))
    (Ad (Aw (RG (Ag Cz (pv 2) (pv 0) (Am _)) Bg Bg)))
    Aq)
   (Ab (Bh (Ag Dd (pv 2) (pv 0) (Am _))
    (Ad Cq)
    Aq)
   (Ad (Aw Bg)))),?_⟩
  refine⟨_,rfl,_,rfl,rfl,_,rfl,?_⟩
  refine Dg (fun h=>?_) (fun h=>?_)
  ·have h1:e=x:=CV.mp h
   refine⟨_,rfl,_,rfl,rfl,_,rfl,?_⟩
   refine Dg (fun h=>?_) (fun h=>?_)
   ·have h2:p=x:=CV.mp h
    have e63:hs x e p=63:=by unfold hs;rw[if_pos h1,if_pos h2]
    rw[e63] at k1
    rw[v63]
    exact k1
   ·have h2:¬p=x:=fun z=>h (CV.mpr z)
    have e35:hs x e p=35:=by unfold hs;rw[if_pos h1,if_neg h2]
    rw[e35] at k1
    rw[v35]
    exact k1
  ·have h1:¬e=x:=fun z=>h (CV.mpr z)
   refine⟨_,rfl,_,rfl,rfl,_,rfl,?_⟩
   by_cases h2:p=x
   ·refine CQ (by rw[h2]) ?_
    have e46:hs x e p=46:=by unfold hs;rw[if_neg h1,if_pos h2]
    rw[e46] at k1
    rw[v46]
    exact k1
   ·exact absurd (by unfold hs;rw[if_neg h1,if_neg h2]) n33
def AcD:Sp:=fun vs H Q _=>∃(u wa:List Nat) (c:Nat),vs=[.str (tx u),.str (tx wa),.str ⟨#[c]⟩]∧wa.length=u.length∧u.length≤40∧33∉Fy u wa c∧∀ H',Ar H H'→Q (.str (tx (Fy u wa c))) H'
theorem W4(T:Txt K mg t):BP P w K mg base CX0 2 t.Ra t.Rb ["text", "warp", "colour"] AcD:=by
 refine T.Ms.F.ok Wt (fun vs H Q E h=>?_) (fun cdv A outer s H vs Q E hr h=>?_)
 ·obtain⟨u,wa,c,rfl,_⟩:=h
  rfl
 ·obtain⟨u,wa,c,rfl,hw,hl,n33,k1⟩:=h
  have hsz:sizeLine=16777216:=sizeLine_eq
  refine⟨_,(Ad (Aw (Ca (K:=K) PySem.F.plainAttrs_str PySem.F.slot_str_join PySem.F.type_str_join (J4 (K:=K)) Bg (Aa (Qt (K:=K) (Ja.mk (By:=[2]) (Nc:=["seen", "end_colour", "colour"]) rfl (by decide +kernel) (by decide +kernel) (Dy (sc0:=Aj Lh) rfl (by decide +kernel)) rfl rfl rfl rfl rfl (by decide +kernel) (fun k j h=>match k,h with | 0,h=>by obtain rfl:=Option.some.inj h;exact⟨_,rfl,rfl,rfl⟩ | _+1,h=>by simp at h)) rfl (Wg (K:=K) rfl T.Ac7 (Aa (pv 0) (Aa (pv 1) Ac))) (fun _ _ _ _ _=>.nil) (fun _ _ _ _ _=>(Av ((W3 T).mono (by decide)) hr rfl T.Mu.m T.Mu.F.kp T.Mu.b .nil Bj (Aa (pv 0) (Aa (pv 1) (Aa (pv 2) Ac)))))) Ac)))),?_⟩
  refine⟨rfl,_,rfl,_,rfl,.s (tx u),.s (tx wa),rfl,trivial,trivial,trivial,?_⟩
  refine S5 (n:=u.length) (fun i=>.str ⟨#[u.getD i 0]⟩) (fun i=>.str ⟨#[wa.getD i 0]⟩) (fun i ys H2=>Ar H H2∧ys=vS (((Fy u wa c).take i).map fun d=>[d])) ⟨.refl _,rfl⟩ ?_ ?_ ?_ ?_ ?_ ?_ ?_
  ·rintro i ys H2 hi ⟨s2,rfl⟩
   rw[Bq,AkE,AkU]
   omega
  ·omega
  ·rintro i ys H2 hi _
   exact Wi hi
  ·rintro i ys H2 hi _
   exact Wi (by omega)
  ·rintro ys H2 _
   exact⟨trivial,trivial,.inl (AdH u)⟩
  ·rintro i ys H2 T2 hi ⟨s2,rfl⟩ nT
   have s3:Ar H (upd H2 T2 (.tup [.str ⟨#[u.getD i 0]⟩,.str ⟨#[wa.getD i 0]⟩])):=s2.new nT
   have e:(Fy u wa c).take (i+1)=(Fy u wa c).take i++[hs (u.getD i 0) (wa.getD i 0) c]:=by
    rw[Ale,Tf hi]
    rfl
   refine Gh.no ?_
   refine⟨_,rfl,_,rfl,_,rfl,u.getD i 0,wa.getD i 0,c,rfl,fun z=>n33 (AkI (by rw[Tf hi,z])),?_⟩
   refine CN.of hi ⟨s3,?_⟩
   rw[e,AkL,DP,Eu]
   rfl
  ·rintro ys H2 p ⟨s2,rfl⟩ hp
   have e0:(Fy u wa c).take u.length=Fy u wa c:=Aly (by rw[Ml];exact AkF _)
   rw[e0]
   refine⟨_,_,(((Fy u wa c).map fun d=>[d]).map tx),rfl,rfl,SqL.of (by rw[Ae,Kc]),?_,?_⟩
   ·have e1:=AaZ (fun d:Nat=>d) (Fy u wa c)
    rw[e1,AkE,AkE,Ml]
    have:u.length*(Str.length "")=0:=by rw[show Str.length "" = 0 from by decide +kernel];omega
    omega
   ·rw[show(("" : Str))=tx [] from by decide +kernel,Ma]
    have e2:((Fy u wa c).map fun d=>[d]).flatten=Fy u wa c:=(UW (fun d:Nat=>d) (Fy u wa c)).trans (List.map_id _)
    rw[e2]
    exact k1 _ (s2.new hp)
def AcE (K:PySem.W.Frag):Sp:=fun vs H Q _=>∃(a:Addr) (cl:List (List Nat)) (m n:Nat) (wa we:List Nat),vs=[.ref a,.str (tx wa),.str (tx we)]∧SqL K H a (vS cl)∧Pic cl m n∧wa.length=m∧we.length=n∧(∀ c∈wa,Co c)∧(∀ c∈we,Co c) ∧
 (∀ r∈DR cl wa we,33∉r)∧∀ l H',Ar H H'→H' l=some (.lst (vS (DR cl wa we)))→Q (.ref l) H'
theorem W5(T:Txt K mg t):BP P w K mg base CX0 3 t.QX t.QZ ["picture", "warp", "weft"] (AcE K):=by
 refine T.Mr.F.ok O7 (fun vs H Q E h=>?_) (fun cdv A outer s H vs Q E hr h=>?_)
 ·obtain⟨a,cl,m,n,wa,we,rfl,_⟩:=h
  rfl
 ·obtain⟨a,cl,m,n,wa,we,rfl,hS,C,hwa,hwe,ca,ce,n33,k1⟩:=h
  have hsz:sizeLine=16777216:=sizeLine_eq
  have c2:=C.n40
  have c4:=C.m40
  have hcn:=C.hn
  refine⟨_,(Ab (Al (i:=3) O7.nd rfl (Or.inl rfl) (Av ((FP T).mono (by decide)) hr rfl T.BW.m T.BW.F.kp T.BW.b .nil Bj (Aa (pv 0) Ac)))
   (Ab (Br (Av ((Hb T).mono (by decide)) hr rfl T.Bt.m T.Bt.F.kp T.Bt.b .nil Bj (Aa (pv 1) (Aa (Ai (Bl (K:=K)) (pv 3) Af (fun _ _=>rfl)) (Aa (Ei (v:=.str "abcdef") rfl T.HQ.choose_spec ⟨_,rfl⟩) Ac)))))
   (Ab (Br (Av ((Hb T).mono (by decide)) hr rfl T.Bt.m T.Bt.F.kp T.Bt.b .nil Bj (Aa (pv 2) (Aa (Ai (Bl (K:=K)) (pv 3) Af (fun _ _=>rfl)) (Aa (Ei (v:=.str "abcdef") rfl T.HQ.choose_spec ⟨_,rfl⟩) Ac)))))
   (Ad (Aw (Qt (K:=K) (Ja.mk (By:=[1]) (Nc:=["text", "colour", "warp"]) rfl (by decide +kernel) (by decide +kernel) (Dy (sc0:=Aj Lg) rfl (by decide +kernel)) rfl rfl rfl rfl rfl (by decide +kernel) (fun k j h=>match k,h with | 0,h=>by obtain rfl:=Option.some.inj h;exact⟨_,rfl,rfl,rfl⟩ | _+1,h=>by simp at h)) rfl (Wg (K:=K) rfl T.Ac7 (Aa (pv 0) (Aa (pv 2) Ac))) (fun _ _ _ _ _=>.nil) (fun _ _ _ _ _=>(Av ((W4 T).mono (by decide)) hr rfl T.Ms.m T.Ms.F.kp T.Ms.b .nil Bj (Aa (pv 0) (Aa (pv 2) (Aa (pv 1) Ac))))))))))),?_⟩
  refine⟨_,rfl,a,cl,m,n,rfl,hS,C,fun p hp=>?_⟩
  have s1:Ar H (upd H p (.tup [.int (m:Int),.int (n:Int)])):=.upd hp
  generalize hH1:upd H p (.tup [.int (m:Int),.int (n:Int)])=H1 at s1 ⊢
  have hp1:H1 p=some (.tup [.int (m:Int),.int (n:Int)]):=by rw[← hH1];exact Ae
  have gp:SqT K H1 p [.int (m:Int),.int (n:Int)]:=SqT.of hp1
  clear hH1
  refine⟨_,rfl,_,rfl,_,_,_,_,rfl,rfl,gp,Bb (by decide) rfl,wa,(by rw[hwa];rfl),ca,by omega,?_⟩
  refine⟨_,rfl,_,rfl,_,_,_,_,rfl,rfl,gp,Bb (by decide) rfl,we,(by rw[hwe];rfl),ce,by omega,?_⟩
  refine⟨_,rfl,_,rfl,.l a,.s (tx we),rfl,trivial,⟨_,s1.seq hS⟩,trivial,?_⟩
  refine S5 (n:=n) (fun i=>(vS cl).getD i .non) (fun i=>.str ⟨#[we.getD i 0]⟩) (fun i ys H2=>Ar H1 H2∧ys=vS ((DR cl wa we).take i)) ⟨.refl _,rfl⟩ ?_ ?_ ?_ ?_ ?_ ?_ ?_
  ·rintro i ys H2 hi ⟨s2,rfl⟩
   rw[Bq,AkU]
   omega
  ·omega
  ·rintro i ys H2 hi ⟨s2,_⟩
   exact Aal ((s1.trans s2).seq hS) (by rw[Bq];omega)
  ·rintro i ys H2 hi _
   exact Wi (by omega)
  ·rintro ys H2 ⟨s2,_⟩
   exact⟨⟨_,(s1.trans s2).seq hS⟩,trivial,.inl ⟨_,(s1.trans s2).seq hS,by rw[Bq];exact hcn⟩⟩
  ·rintro i ys H2 T2 hi ⟨s2,rfl⟩ nT
   have hic:i<cl.length:=by omega
   have s3:Ar H1 (upd H2 T2 (.tup [(vS cl).getD i .non,.str ⟨#[we.getD i 0]⟩])):=s2.new nT
   have gd:cl.getD i []=cl[i]:=by simp[List.getD,hic]
   have lc:=C.hm _ (AkN hic)
   have ev:(vS cl).getD i .non=.str (tx (cl.getD i [])):=by
    have:=Gq (AkD hic)
    rw[gd,AkH,this]
    rfl
   refine Gh.no ?_
   refine⟨_,rfl,_,rfl,_,rfl,cl.getD i [],wa,we.getD i 0,(by rw[ev];rfl),by rw[gd,lc];exact hwa,by rw[gd,lc];exact c4,n33 _ (AkI (Tg hic)),fun H4 s4=>?_⟩
   refine CN.of hi ⟨s3.trans s4,?_⟩
   rw[Eu,Ale,Tg hic]
   rfl
  ·rintro ys H2 l ⟨s2,rfl⟩ hl
   have e0:(DR cl wa we).take n=DR cl wa we:=Aly (by rw[JB];omega)
   rw[e0]
   exact k1 l _ ((s1.trans s2).new hl) Ae
end
structure SA (H:Hp) (sa:Addr) (rs:List Addr) (tt:List (List Addr)) (pic:List (List Nat)) (m n k:Nat):Prop where
 h:H sa=some (.lst (rs.map V.ref))
 rl:rs.length=k
 tl:tt.length=k
 ne:sa∉rs
 row:∀(v:Nat) (r:Addr) (ts:List Addr),rs[v]?=some r→tt[v]?=some ts→H r=some (.lst (ts.map V.ref))∧ts.length=deg m n v
 tup:∀(v:Nat) (ts:List Addr) (j:Nat) (T:Addr),tt[v]?=some ts→ts[j]?=some T→H T=some (.tup [.int ((nbr m v j:Nat):Int),.str ⟨#[crs pic m v (nbr m v j)]⟩])
theorem SA.same{H H':Hp}{sa:Addr}{rs:List Addr}{tt:List (List Addr)}{pic:List (List Nat)}{m n k:Nat}(S:SA H sa rs tt pic m n k)(s:Ar H H'):SA H' sa rs tt pic m n k :=
 ⟨s _ _ S.h,S.rl,S.tl,S.ne,fun v r ts e1 e2=>⟨s _ _ (S.row v r ts e1 e2).1,(S.row v r ts e1 e2).2⟩,fun v ts j T e1 e2=>s _ _ (S.tup v ts j T e1 e2)⟩
theorem SA.app{H:Hp}{sa r:Addr}{rs ts:List Addr}{tt:List (List Addr)}{pic:List (List Nat)}{m n k:Nat}(S:SA H sa rs tt pic m n k)(hr:H r=some (.lst (ts.map V.ref)))(hl:ts.length=deg m n k)
  (ht:∀(j:Nat) (T:Addr),ts[j]?=some T→H T=some (.tup [.int ((nbr m k j:Nat):Int),.str ⟨#[crs pic m k (nbr m k j)]⟩])) (nr:r≠sa) :
  SA (upd H sa (.lst (rs.map V.ref++[.ref r]))) sa (rs++[r]) (tt++[ts]) pic m n (k+1):=by
 have last:∀{α:Type} {l:List α} {x y:α} {i:Nat},l.length=k→(l++[x])[i]?=some y→(i<k∧l[i]?=some y)∨(i=k∧y=x):=fun {α l x y i} hk e=>by
  by_cases hi:i<l.length
  ·rw[AkR hi] at e
   exact .inl ⟨by omega,e⟩
  ·have hi2:=(List.getElem?_eq_some_iff.mp e).1
   rw[AkG,Ali] at hi2
   have ei:i=l.length:=by omega
   rw[ei,AkY (AkF _),Alp] at e
   cases e
   exact .inr ⟨by omega,rfl⟩
 refine⟨by rw[Ae,AkL];rfl,by rw[AkG,S.rl];rfl,by rw[AkG,S.tl];rfl,fun z=>?_,fun v r' ts' e1 e2=>?_,fun v ts' j T e1 e2=>?_⟩
 ·rcases List.mem_append.mp z with z | z
  ·exact S.ne z
  ·exact nr (List.mem_singleton.mp z).symm
 ·rcases last S.rl e1 with ⟨h1,h2⟩ | ⟨h1,h2⟩ <;> rcases last S.tl e2 with ⟨h3,h4⟩ | ⟨h3,h4⟩
  ·have:=S.row v r' ts' h2 h4
   refine⟨?_,this.2⟩
   have nr':r'≠sa:=fun e=>S.ne (by rw[← e];exact AkI h2)
   rw[Ax nr']
   exact this.1
  ·omega
  ·omega
  ·rw[h2,h4,h1,Ax nr]
   exact⟨hr,hl⟩
 ·have key:H T=some (.tup [.int ((nbr m v j:Nat):Int),.str ⟨#[crs pic m v (nbr m v j)]⟩]):=by
   rcases last S.tl e1 with ⟨h3,h4⟩ | ⟨h3,h4⟩
   ·exact S.tup v ts' j T h4 e2
   ·rw[h4] at e2
    rw[h3]
    exact ht j T e2
  rw[Ax (fun e=>by rw[e,S.h] at key;cases key)]
  exact key
theorem Agf(u:List Nat)(j:Nat):(tx u).cps[j]?=u[j]?:=by
 show u.toArray[j]?=_
 simp
section
variable {P:Program}{w:World}{K:PySem.W.Frag}{mg:Str→Option Value}{base:Heap}{t:Adr}
def AcF (K:PySem.W.Frag):Sp:=fun vs H Q _=>∃(a:Addr) (pic:List (List Nat)) (m n:Nat),vs=[.ref a]∧SqL K H a (vS pic)∧Pic pic m n∧∀(sa:Addr) (rs:List Addr) (tt:List (List Addr)) (H':Hp),Ar H H'→H sa=none→SA H' sa rs tt pic m n (m+n)→Q (.ref sa) H'
theorem Rt(T:Txt K mg t):BP P w K mg base CX0 1 t.Ln t.Lp ["picture"] (AcF K):=by
 refine T.HJ.F.ok En (fun vs H Q E h=>?_) (fun cdv A outer s H vs Q E hr h=>?_)
 ·obtain⟨a,pic,m,n,rfl,_⟩:=h
  rfl
 ·obtain⟨a,pic,m,n,rfl,hS,C,k⟩:=h
  have hsz:sizeLine=16777216:=sizeLine_eq
  have c2:=C.n40
  have c4:=C.m40
  have hlen:(vS pic).length=n:=by rw[Bq,C.hn]
  have h0:0<pic.length:=by rw[C.hn];exact C.n1
  have hm0:=C.hm pic[0] (AkN h0)
  have R:Rct pic m n:=⟨C.hn,C.hm⟩
  have sl:∀ u:List Nat,u.length≤40→(tx u).length≤sizeLine:=fun u h=>by rw[An];exact Ce h
  refine⟨_,(Ab (Al (i:=1) En.nd rfl (Or.inr rfl) (Ah Ay rfl T.Bm Bc (Aa (Ai (Ao (K:=K)) (pv 0) Af (fun _ _=>rfl)) Ac)))
   (Ab (Al (i:=2) En.nd rfl (Or.inl rfl) (CW Ac))
   (Ab (Bo PassesOwn.never rfl (Be rfl T.Bs (Aa (pv 1) Ac)) (Ba (i:=3) En.nd rfl (Or.inr rfl))
    (Ad (Br (Ca (K:=K) PySem.F.plainAttrs_list PySem.F.slot_list_append PySem.F.type_list_append BL (pv 2) (Aa (Gp (Eb.mk (By:=[0,1,3]) (Nc:=["pick", "picture", "ends", "end"]) rfl (by decide +kernel) (by decide +kernel) (Dy (sc0:=Aj Ii) rfl (by decide +kernel)) rfl rfl rfl (by decide +kernel) (fun k j h=>match k,h with | 0,h=>by obtain rfl:=Option.some.inj h;exact⟨_,rfl,rfl,rfl⟩ | 1,h=>by obtain rfl:=Option.some.inj h;exact⟨_,rfl,rfl,rfl⟩ | 2,h=>by obtain rfl:=Option.some.inj h;exact⟨_,rfl,rfl,rfl⟩ | _+3,h=>by simp at h)) rfl (Be rfl T.Bs (Aa (Ah (Ak (K:=K)) rfl T.Bm Bc (Aa (pv 0) Ac)) Ac)) (fun _ _ _ _ _=>.nil) (fun _ _ _ _ _=>(Gn (Aa (Az Cj (pv 2) (pv 0)) (Aa (Ai Bu (Ai (Ao (K:=K)) (pv 1) (pv 0) (fun _ _=>rfl)) (pv 3) (fun _ _=>rfl)) Ac))))) Ac)))))
   (Ab (Bo PassesOwn.never rfl (BR (K:=K) (pv 0)) (Ba (i:=4) En.nd rfl (Or.inl rfl))
    (Ad (Br (Ca (K:=K) PySem.F.plainAttrs_list PySem.F.slot_list_append PySem.F.type_list_append BL (pv 2) (Aa (XR rfl T.G3 rfl T.Yu (pv 4)) Ac)))))
   (Ad (Aw (pv 2))))))),?_⟩
  refine⟨_,rfl,_,_,_,_,rfl,rfl,hS,Bb (by decide) (Gq (AkD h0)),_,rfl,(by rw[An,hm0];exact Ce c4),?_⟩
  rw[An,hm0]
  refine⟨AkP _,fun sa nsa=>?_⟩
  have s1:Ar H (upd H sa (.lst [])):=.upd nsa
  have S1:SA (upd H sa (.lst [])) sa [] [] pic m n 0:=⟨Ae,rfl,rfl,by simp,fun v r ts e=>by simp at e,fun v ts j T e=>by simp at e⟩
  generalize upd H sa (.lst [])=H1 at s1 S1 ⊢
  refine⟨_,rfl,_,rfl,(by omega),(by omega),?_⟩
  rw[AkJ]
  refine Bp (lo:=0) (n:=m) (fun i σ H2=>∃(rs:List Addr) (tt:List (List Addr)) (v3 v4:Option V),σ=[some (.ref a),some (.int (m:Int)),some (.ref sa),v3,v4]∧Ar H H2∧SA H2 sa rs tt pic m n i) ⟨[],[],none,none,rfl,s1,S1⟩ ?_ ?_
  ·rintro i σ H2 hi ⟨rs,tt,v3,v4,rfl,s2,S2⟩
   refine⟨_,rfl,.inl ⟨rfl,_,SqL.of S2.h⟩,_,rfl,_,_,rfl,.inl (s2.seq hS),_,rfl,(by omega),(by rw[hlen];omega),?_⟩
   rw[AkJ,hlen]
   refine EY (lo:=0) (n:=n) (fun j ys H3=>∃ ts:List Addr,Ar H2 H3∧ys=ts.map V.ref∧ts.length=j∧∀(j':Nat) (T:Addr),ts[j']?=some T→H3 T=some (.tup [.int ((nbr m i j':Nat):Int),.str ⟨#[crs pic m i (nbr m i j')]⟩])) ⟨[],.refl _,rfl,rfl,fun j' T h=>by simp at h⟩ ?_ ?_ ?_ ?_
   ·rintro j ys H3 hj ⟨ts,s3,rfl,hts,_⟩
    rw[AkE,hts]
    exact AkF _
   ·exact Ce c2
   ·rintro j ys H3 hj ⟨ts,s3,rfl,hts,tp⟩
    obtain⟨ej,lj,aj⟩:=R.at hj
    refine Gh.no ?_
    refine⟨_,rfl,_,rfl,_,_,rfl,rfl,_,rfl,_,rfl,_,_,_,_,rfl,rfl,(s2.trans s3).seq hS,aj,_,rfl,_,_,_,rfl,rfl,sl _ (by omega),G4 (by omega),(by show 2≤sizeLine;omega),fun T2 nT=>?_⟩
    have e1:nbr m i j=m+j:=by unfold nbr;rw[if_pos hi]
    have e2:crs pic m i (nbr m i j)=(pic.getD j []).getD i 0:=by rw[e1];unfold crs;rw[if_pos hi,show m+j-m=j by omega]
    dsimp only
    rw[show(m:Int)+(0+(j:Int))=((nbr m i j:Nat):Int) by rw[e1];omega,← e2]
    refine CN.of hj ⟨ts++[T2],s3.new nT,by rw[AkL];rfl,by rw[AkG,hts];rfl,fun j' T' h=>?_⟩
    by_cases hj':j'<ts.length
    ·rw[AkR hj'] at h
     have q:=tp j' T' h
     rw[Ax (BK q nT)]
     exact q
    ·have h2:=(List.getElem?_eq_some_iff.mp h).1
     rw[AkG,Ali] at h2
     have ej':j'=ts.length:=by omega
     rw[ej',AkY (AkF _),Alp] at h
     cases h
     rw[ej',hts]
     exact Ae
   ·rintro ys H3 r ⟨ts,s3,rfl,hts,tp⟩ nr
    have s4:Ar H2 (upd H3 r (.lst (ts.map V.ref))):=s3.new nr
    have S4:=S2.same s4
    have rsa:r≠sa:=fun e=>by rw[e] at nr;rw[s3 _ _ S2.h] at nr;cases nr
    refine⟨_,_,_,rfl,rfl,S4.h,(by rw[AkE,S4.rl];omega),?_⟩
    refine⟨rs++[r],tt++[ts],_,_,rfl,(s2.trans s4).over nsa,S4.app Ae (by rw[hts];unfold deg;rw[if_pos hi]) (fun j T e=>?_) rsa⟩
    have q:=tp j T e
    rw[Ax (BK q nr)]
    exact q
  ·rintro σ H2 ⟨rs,tt,v3,v4,rfl,s2,S2⟩
   refine⟨_,rfl,_,rfl,⟨_,s2.seq hS⟩,Cr (K:=K) (a:=a) (xs:=vS pic) (fun i σ H3=>∃(rs:List Addr) (tt:List (List Addr)) (v3 v4:Option V),σ=[some (.ref a),some (.int (m:Int)),some (.ref sa),v3,v4]∧Ar H H3∧SA H3 sa rs tt pic m n (m+i)) ⟨rs,tt,v3,v4,rfl,s2,S2⟩ (fun i σ H3 _ ⟨_,_,_,_,_,e,_⟩=>e.seq hS) ?_ ?_⟩
   ·rintro i x σ H3 hx ⟨rs,tt,v3,v4,rfl,s3,S3⟩
    obtain⟨u,hu,rfl⟩:=Hw hx
    have hul:=C.hm u (AkI hu)
    have hin:i<n:=by have:=(List.getElem?_eq_some_iff.mp hu).1;rw[C.hn] at this;exact this
    have gu:pic.getD i []=u:=by rw[AkH,hu];rfl
    refine⟨_,rfl,.inl ⟨rfl,_,SqL.of S3.h⟩,_,rfl,tx u,rfl,(by show u.toArray.size≤1000;simp;omega),fun r ts H4 s4 nr hr hts tp=>?_⟩
    have htl:ts.length=m:=by rw[hts];show u.toArray.size=m;simp;exact hul
    have S4:=S3.same s4
    have rsa:r≠sa:=fun e=>by rw[e,S3.h] at nr;cases nr
    refine⟨_,_,_,rfl,rfl,S4.h,(by rw[AkE,S4.rl];omega),?_⟩
    refine⟨rs++[r],tt++[ts],_,_,rfl,(s3.trans s4).over nsa,S4.app hr (by rw[htl];unfold deg;rw[if_neg (by omega)]) (fun j T e=>?_) rsa⟩
    have jl:j<u.length:=by have:=(List.getElem?_eq_some_iff.mp e).1;omega
    have q:=tp j T u[j] e (by rw[Agf];exact AkD jl)
    have e1:nbr m (m+i) j=j:=by unfold nbr;rw[if_neg (by omega)]
    have e2:crs pic m (m+i) j=u[j]:=by
     unfold crs
     rw[if_neg (by omega),show m+i-m=i by omega,gu]
     simp[List.getD,jl]
    rw[e1,e2]
    exact q
   ·rintro σ H3 ⟨rs,tt,v3,v4,rfl,s3,S3⟩
    rw[hlen] at S3
    exact⟨_,rfl,k sa rs tt H3 s3 nsa S3⟩
def pvO:Option Nat→V
 | none=>.non
 | some u=>.int (u:Int)
def kvs (ps:List (Nat × Option Nat)):List (Key × V):=ps.map fun p=>(Sum.inl (p.1:Int),pvO p.2)
theorem Y0{v:Nat}:∀{ps:List (Nat × Option Nat)},v∉ps.map (·.1)→Gr (kvs ps) (Sum.inl (v:Int))=none
 | [],_=>RZ
 | p::ps,h=>by
  unfold kvs
  rw[AkQ] at h ⊢
  rw[Ho (fun e=>?_)]
  ·exact Y0 fun z=>h (AkX _ z)
  ·have e:((p.1:Nat):Int)=(v:Int):=Sum.inl.inj e
   have e:p.1=v:=by omega
   exact h (by rw[← e];exact AkS)
theorem Y4{v:Nat}{a:Option Nat}:∀{ps:List (Nat × Option Nat)},(ps.map (·.1)).Nodup→(v,a)∈ps→Gr (kvs ps) (Sum.inl (v:Int))=some (pvO a)
 | [],_,h=>by cases h
 | p::ps,nd,h=>by
  rw[AkQ,List.nodup_cons] at nd
  unfold kvs
  rw[AkQ]
  rcases List.mem_cons.mp h with e | h'
  ·rw[← e]
   exact J5 rfl
  ·rw[Ho (fun z=>nd.1 ?_)]
   ·exact Y4 nd.2 h'
   ·have z:((p.1:Nat):Int)=(v:Int):=Sum.inl.inj z
    have z:p.1=v:=by omega
    rw[z]
    exact List.mem_map.mpr ⟨_,h',rfl⟩
theorem Aej(ps:List (Nat × Option Nat))(v u:Nat)(h:Gr (kvs ps) (Sum.inl (v:Int))=none):putK (kvs ps) (Sum.inl (v:Int)) (.int (u:Int))=kvs (ps++[(v,some u)]):=by
 rw[Sq _ h]
 unfold kvs
 rw[AkL]
 rfl
theorem Aek(ps:List (Nat × Option Nat)):(kvs ps).length=ps.length:=by unfold kvs;rw[AkE]
def Ahd (ps:List (Nat × Option Nat)):Prop:=∀(i k c:Nat),ps[i]?=some (k,some c)→∃(j:Nat) (c':Option Nat),j<i∧ps[j]?=some (c,c')
theorem at_neg{xs:List V}{x:V}(h:xs[xs.length-1]?=some x):atI xs (-1)=some x:=by
 have hl:=(List.getElem?_eq_some_iff.mp h).1
 unfold atI ixN
 have h1:¬(0:Int) ≤ -1:=by decide
 rw[if_neg h1]
 have h2 : -((xs.length:Nat):Int) ≤ -1:=by omega
 rw[if_pos h2]
 show xs[((-1:Int)+((xs.length:Nat):Int)).toNat]?=some x
 rw[show((-1:Int)+((xs.length:Nat):Int)).toNat=xs.length-1 by omega]
 exact h
theorem Agg(bs:List Int)(x:Int):atI (vI (bs++[x])) (-1)=some (.int x):=by
 refine at_neg ?_
 rw[Bx,AkG,Ali,Nat.add_sub_cancel]
 exact Hv (by rw[AkY (AkF _),Alp];rfl)
theorem AcG(ks:List Int):(vI ks).reverse=vI ks.reverse:=by unfold vI;rw[List.map_reverse]
def nI (ws:List Nat):List Int:=ws.map fun v=>((v:Nat):Int)
theorem NZ(ws:List Nat):(nI ws).length=ws.length:=by unfold nI;rw[AkE]
theorem W6(a b:List Nat):nI (a++b)=nI a++nI b:=by unfold nI;rw[AkL]
theorem AcH(a:List Nat):(nI a).reverse=nI a.reverse:=by unfold nI;rw[List.map_reverse]
theorem Aax{ws:List Nat}{i v:Nat}(h:ws[i]?=some v):(vI (nI ws))[i]?=some (.int (v:Int)):=Hv (by unfold nI;rw[AkM,h];rfl)
structure WyC (ps:List (Nat × Option Nat)) (g:Nat) (as:List Nat):Prop where
 dw:Dw ps as
 hd:as[0]?=some g
 lst:∃ r,as.getLast?=some r∧(r,none)∈ps
 len:as.length≤ps.length
 ks:∀ v∈as,v∈ps.map (·.1)
def AcI:Sp:=fun vs H Q _=>∃(d:Addr) (g jg:Nat) (c:Option Nat) (ps:List (Nat × Option Nat)),vs=[.ref d,.int (g:Int)]∧H d=some (.dK (kvs ps))∧(ps.map (·.1)).Nodup∧Ahd ps∧ps.length≤200∧ps[jg]?=some (g,c) ∧
 ∀(l:Addr) (as:List Nat) (H':Hp),Ar H H'→H l=none→H' l=some (.lst (vI (nI as.reverse)))→WyC ps g as→Q (.ref l) H'
theorem Q6(T:Txt K mg t):BP P w K mg base CX0 1 t.Yq t.Yr ["ahead", "goal"] AcI:=by
 refine T.Jz.F.ok Vi (fun vs H Q E h=>?_) (fun cdv A outer s H vs Q E hr h=>?_)
 ·obtain⟨d,g,jg,c,ps,rfl,_⟩:=h
  rfl
 ·obtain⟨d,g,jg,c,ps,rfl,hd,nd,ah,Ael,hg,k⟩:=h
  have hsz:sizeLine=16777216:=sizeLine_eq
  refine⟨_,(Ab (Al (i:=2) Vi.nd rfl (Or.inl rfl) (CW (Aa (pv 1) Ac)))
   (Ab (RJ PassesOwn.never (Ag Rw (Rz (HX hr) (pv 0) (Ai (Ao (K:=K)) (pv 2) (Xn RL Af) (fun _ _=>rfl)) (fun _ _=>rfl)) Fz (Am _))
    (Ad (Br (Ca (K:=K) PySem.F.plainAttrs_list PySem.F.slot_list_append PySem.F.type_list_append BL (pv 2) (Aa (Rz (HX hr) (pv 0) (Ai (Ao (K:=K)) (pv 2) (Xn RL Af) (fun _ _=>rfl)) (fun _ _=>rfl)) Ac)))))
   (Ad (Aw (S6 (K:=K) rfl T.G3 rfl T.TQ (pv 2)))))),?_⟩
  refine⟨_,rfl,(by show 1≤sizeLine;decide),fun l nl=>?_⟩
  have s1:Ar H (upd H l (.lst [.int (g:Int)])):=.upd nl
  have jl:=(List.getElem?_eq_some_iff.mp hg).1
  refine⟨fun m σ H2=>∃(bs:List Nat) (cur:Nat) (c:Option Nat),σ=[some (.ref d),some (.int (g:Int)),some (.ref l)]∧Ar H H2∧H2 l=some (.lst (vI (nI (bs++[cur]))))∧ps[m]?=some (cur,c)∧bs.length+m≤jg∧Dw ps (bs++[cur])∧(bs++[cur])[0]?=some g∧∀ v∈bs++[cur],v∈ps.map (·.1),
   ⟨jg,[],g,c,rfl,s1,Ae,hg,by simp,trivial,rfl,fun v hv=>?_⟩,?_⟩
  ·rw[List.mem_singleton.mp hv];exact List.mem_map.mpr ⟨_,AkI hg,rfl⟩
  rintro m σ H2 ⟨bs,cur,c,rfl,s2,hl2,hm,hb,dw,h0,ks⟩
  have hd2:=s2 _ _ hd
  have dg:Hq H2 d (.int (cur:Int)) (some (pvO c)):=by
   have:=Hq.k (k:=Sum.inl (cur:Int)) hd2
   rw[Y4 nd (AkI hm)] at this
   exact this
  have la:atI (vI (nI (bs++[cur]))) (-1)=some (.int (cur:Int)):=by rw[W6];exact Agg _ _
  refine⟨_,rfl,_,rfl,_,rfl,_,_,_,_,rfl,rfl,SqL.of hl2,la,d,_,rfl,dg,rfl,_,rfl,?_⟩
  cases c with
  | none =>
   refine CQ rfl ?_
   refine⟨_,rfl,_,_,rfl,SqL.of hl2,(by rw[Bx,NZ,AkG,Ali];omega),fun q nq=>?_⟩
   rw[AcG,AcH]
   exact k q (bs++[cur]) _ (s2.new nq) (s2.free nq) Ae ⟨dw,h0,⟨cur,by simp,AkI hm⟩,by rw[AkG,Ali];omega,ks⟩
  | some c =>
   obtain⟨j,c',hj,ej⟩:=ah m cur c hm
   refine HY (by intro z;cases z) ?_
   refine⟨fun σ' H'=>∃(bs:List Nat) (cur:Nat) (c:Option Nat),σ'=[some (.ref d),some (.int (g:Int)),some (.ref l)]∧Ar H H'∧H' l=some (.lst (vI (nI (bs++[cur]))))∧ps[j]?=some (cur,c)∧bs.length+j≤jg∧Dw ps (bs++[cur])∧(bs++[cur])[0]?=some g∧∀ v∈bs++[cur],v∈ps.map (·.1),
    fun σ' H' z=>⟨j,hj,z⟩,?_⟩
   refine⟨_,rfl,.inl ⟨rfl,_,SqL.of hl2⟩,_,rfl,_,rfl,_,rfl,_,_,_,_,rfl,rfl,SqL.of hl2,la,d,_,rfl,dg,_,_,_,rfl,rfl,hl2,(by rw[Bx,NZ,AkG,Ali];omega),?_⟩
   refine⟨bs++[cur],c,c',rfl,s2.over nl,?_,ej,?_,dw.snoc (AkI hm),?_,fun v hv=>?_⟩
   ·rw[Ae]
    show some (HO.lst (vI (nI (bs++[cur]))++[.int (c:Int)]))=_
    rw[GF,W6 (bs++[cur]) [c]]
    rfl
   ·rw[AkG,Ali];omega
   ·rw[AkR (by rw[AkG,Ali];omega)];exact h0
   ·rcases List.mem_append.mp hv with h | h
    ·exact ks v h
    ·rw[List.mem_singleton.mp h];exact List.mem_map.mpr ⟨_,AkI ej,rfl⟩
end
def gK (g:List (Nat × Nat)):List (Key × V):=g.map fun p=>(Sum.inl (p.1:Int),V.str ⟨#[p.2]⟩)
theorem ZD(g:List (Nat × Nat)):(gK g).length=g.length:=by unfold gK;rw[AkE]
theorem TY(v:Nat):∀ g:List (Nat × Nat),Gr (gK g) (Sum.inl (v:Int))=(g.lookup v).map fun c=>V.str ⟨#[c]⟩
 | []=>RZ
 | p::g=>by
  unfold gK
  rw[AkQ,Alb]
  cases e:v == p.1 with
  | true =>
   have:v=p.1:=by simpa using e
   rw[J5 (by show Sum.inl ((p.1:Nat):Int)=Sum.inl ((v:Nat):Int);rw[this])]
   rfl
  | false =>
   have:v≠p.1:=by simpa using e
   rw[Ho (fun z=>this (by have z:((p.1:Nat):Int)=(v:Int):=Sum.inl.inj z;omega))]
   exact TY v g
theorem AcJ(g:List (Nat × Nat))(v c:Nat)(h:g.lookup v=none):putK (gK g) (Sum.inl (v:Int)) (.str ⟨#[c]⟩)=gK (g++[(v,c)]):=by
 rw[Sq _ (by rw[TY,h];rfl)]
 unfold gK
 rw[AkL]
 rfl
theorem W7{g:List (Nat × Nat)}{v:Nat}(h:v∉g.map (·.1)):g.lookup v=none:=by
 cases e:g.lookup v with
 | none=>rfl
 | some c=>exact absurd (List.mem_map.mpr ⟨_,Fd e,rfl⟩) h
theorem Y5:∀(g b:List (Nat × Nat)),((b++g).map (·.1)).Nodup→Ew (gK b) (gK g)=gK (b++g)
 | [],b,_=>by rw[Al5];rfl
 | p::g,b,nd=>by
  have nb:b.lookup p.1=none:=W7 fun z=>by
   rw[AkL] at nd
   exact(List.nodup_append.mp nd).2.2 p.1 z p.1 (by rw[AkQ];exact AkS) rfl
  show Ew (putK (gK b) (Sum.inl (p.1:Int)) (.str ⟨#[p.2]⟩)) (gK g)=_
  rw[AcJ b p.1 p.2 nb,Y5 g (b++[p]) (by rw[Alv];exact nd),Alv]
  rfl
theorem ZF{H:Hp}{d:Addr}{g:List (Nat × Nat)}(h:H d=some (.dK (gK g)))(w x:Nat) :
  ∃ ob:Option V,Hq H d (.int (w:Int)) ob∧Afn (ob.getD .non) (.str ⟨#[x]⟩)=true∧(ob.getD .non=V.str ⟨#[x]⟩↔g.lookup w=some x)∧ob.isSome=(g.lookup w).isSome:=by
 refine⟨_,Hq.k (k:=Sum.inl (w:Int)) h,?_⟩
 rw[TY]
 cases g.lookup w with
 | none=>exact⟨rfl,⟨fun z=>(by cases z),fun z=>(by cases z)⟩,rfl⟩
 | some c =>
  refine⟨rfl,⟨fun z=>congrArg some ?_,fun z=>(by cases z;rfl)⟩,rfl⟩
  have z:(V.str ⟨#[c]⟩:V)=V.str ⟨#[x]⟩:=z
  injection z with z
  exact(List.cons.inj (VJ (a:=[c]) (b:=[x]) z)).1
def Kp (gd:Addr)(H H':Hp):Prop:=∀ b o,b≠gd→H b=some o→H' b=some o
theorem Kp.of{gd:Addr}{H H':Hp}(s:Ar H H'):Kp gd H H':=fun b o _ e=>s b o e
theorem Kp.thn{gd:Addr}{H H1 H2:Hp}(k:Kp gd H H1)(s:Ar H1 H2):Kp gd H H2:=fun b o n e=>s _ _ (k b o n e)
theorem Kp.put{gd:Addr}{H H1:Hp}{x:HO}(k:Kp gd H H1):Kp gd H (upd H1 gd x):=fun b o n e=>by rw[Ax n];exact k b o n e
theorem Kp.over{gd a:Addr}{H H1:Hp}{x:HO}(k:Kp gd H H1)(h:H a=none):Kp gd H (upd H1 a x):=fun b o n e=>by rw[Ax (BK e h)];exact k b o n e
theorem SA.kp{H H':Hp}{sa gd:Addr}{rs:List Addr}{tt:List (List Addr)}{pic:List (List Nat)}{m n k:Nat}{y:List (Key × V)}(S:SA H sa rs tt pic m n k)(s:Kp gd H H')(hg:H gd=some (.dK y)):SA H' sa rs tt pic m n k:=by
 have f:∀ b o,(∀ z,o≠.dK z)→H b=some o→H' b=some o:=fun b o n e=>s b o (fun z=>by rw[z,hg] at e;exact n _ (Option.some.inj e).symm) e
 exact⟨f _ _ (fun z e=>by cases e) S.h,S.rl,S.tl,S.ne,fun v r ts e1 e2=>⟨f _ _ (fun z e=>by cases e) (S.row v r ts e1 e2).1,(S.row v r ts e1 e2).2⟩,fun v ts j T e1 e2=>f _ _ (fun z e=>by cases e) (S.tup v ts j T e1 e2)⟩
def Ls (g:List (Nat × Nat)):List Int:=g.map fun q=>((q.1:Nat):Int)
theorem Vl(g:List (Nat × Nat)):(Ls g).length=g.length:=by unfold Ls;rw[AkE]
theorem Aem{g:List (Nat × Nat)}{i v c:Nat}(h:g[i]?=some (v,c)):atI (vI (Ls g)) (i:Int)=some (.int (v:Int)):=Bb (by omega) (by
 rw[AkJ]
 exact Hv (by unfold Ls;rw[AkM,h];rfl))
theorem Agh{pic:List (List Nat)}{m n v w:Nat}(C:Pic pic m n)(hv:v<m+n)(hw:w<m+n)(h:Bip m v w):97≤crs pic m v w∧crs pic m v w≤102:=by
 have key:∀ i j,i<n→j<m→97≤(pic.getD i []).getD j 0∧(pic.getD i []).getD j 0≤102:=fun i j hi hj=>by
  have hil:i<pic.length:=by rw[C.hn];exact hi
  have e1:pic.getD i []=pic[i]:=by simp[List.getD,hil]
  have l1:=C.hm _ (AkN hil)
  have e2:pic[i].getD j 0=pic[i][j]:=by simp[List.getD,show j<pic[i].length by omega]
  rw[e1,e2]
  exact C.co _ (AkN hil) _ (AkN _)
 unfold crs
 rcases h with ⟨h1,h2⟩ | ⟨h1,h2⟩
 ·rw[if_pos h1];exact key _ _ (by omega) h1
 ·rw[if_neg (by omega)];exact key _ _ (by omega) h2
theorem Lw{G R:Prop}(C:Prop)(main:(C→R)→G)(rest:C→R):G:=main rest
theorem Q7{u:List Nat}{i:Nat}(h:i<u.length):atI (tx u).cps.toList (i:Int)=some (u.getD i 0):=by
 refine Bb (by omega) ?_
 rw[AkJ]
 show u.toArray.toList[i]?=_
 simp[List.getD,h]
theorem Y6{gd l:Addr}{H H4 H7:Hp}{x:HO}(k:Kp gd H H4)(hg:H4 gd=some x)(n:H7 l=none)(s:Ar H4 H7):H l=none:=by
 cases e:H l with
 | none=>rfl
 | some o =>
  by_cases eg:l=gd
  ·rw[eg,s _ _ hg] at n;cases n
  ·rw[s _ _ (k _ _ eg e)] at n;cases n
theorem ZG{pic:List (List Nat)}{m n:Nat}{told:List Nat}{b g:List (Nat × Nat)}{s0 c0:Nat}{ps:List (Nat × Option Nat)}(C:Cn pic m n told b s0 c0 g ps){as1 as2:List Nat}{v w c d:Nat}(W1:WyC ps v as1)(W2:WyC ps w as2)
  (hv:g.lookup v=some c) (hw:g.lookup w=some d) (bp:Bip m v w) (ne:crs pic m v w≠c) (nd:d≠crs pic m v w):Rgt pic m n told s0 c0 (as1.reverse++as2):=by
 have AcK:∀ x,x∈ps.map (·.1)→x<m+n:=fun x hx=>by
  rw[C.keys] at hx
  obtain⟨q,hq,rfl⟩:=List.mem_map.mp hx
  exact C.lt q hq
 have l1:=W1.len
 have l2:=W2.len
 have gl:=C.len
 have pl:=C.AdZ
 obtain⟨r1,e1,m1⟩:=W1.lst
 obtain⟨r2,e2,m2⟩:=W2.lst
 have x1:=C.rt _ m1
 have x2:=C.rt _ m2
 subst x1
 cases as1 with
 | nil=>cases W1.hd
 | cons a A =>
  cases as2 with
  | nil=>cases W2.hd
  | cons a2 B =>
   have h1:a=v:=Option.some.inj W1.hd
   have h2:a2=w:=Option.some.inj W2.hd
   subst h1 h2
   have up:=W1.dw.rev
   rw[Al0] at up ⊢
   refine Rgt.back C up ?_ W2.dw (by rw[e2,x2]) hv hw bp ne nd (by rw[AkG,Alz];simp at l1 ⊢;omega) (by omega) (fun x hx=>AcK x (W1.ks x ?_)) (fun x hx=>AcK x (W2.ks x hx))
   ·rw[← Al0,← List.head?_eq_getElem?,List.head?_reverse];exact e1
   ·rw[← Al0] at hx
    exact List.mem_reverse.mp hx
theorem ZJ{pic:List (List Nat)}{m n:Nat}{told:List Nat}{b g:List (Nat × Nat)}{s0 c0:Nat}{ps:List (Nat × Option Nat)}(C:Cn pic m n told b s0 c0 g ps){as1:List Nat}{v w c:Nat}(W1:WyC ps v as1)
  (hv:g.lookup v=some c) (bp:Bip m v w) (ne:crs pic m v w≠c) (t1:told.getD w 0≠63) (t2:told.getD w 0≠crs pic m v w) (hw:w<m+n):Rgt pic m n told s0 c0 (as1.reverse++[w]):=by
 have AcK:∀ x,x∈ps.map (·.1)→x<m+n:=fun x hx=>by
  rw[C.keys] at hx
  obtain⟨q,hq,rfl⟩:=List.mem_map.mp hx
  exact C.lt q hq
 have l1:=W1.len
 have gl:=C.len
 have pl:=C.AdZ
 obtain⟨r1,e1,m1⟩:=W1.lst
 have x1:=C.rt _ m1
 subst x1
 cases as1 with
 | nil=>cases W1.hd
 | cons a A =>
  have h1:a=v:=Option.some.inj W1.hd
  subst h1
  have up:=W1.dw.rev
  rw[Al0] at up ⊢
  refine Rgt.AhB C up ?_ hv bp ne t1 t2 (by rw[AkG,Alz];simp at l1 ⊢;omega) (fun x hx=>AcK x (W1.ks x ?_)) hw
  ·rw[← Al0,← List.head?_eq_getElem?,List.head?_reverse];exact e1
  ·rw[← Al0] at hx
   exact List.mem_reverse.mp hx
section
variable {P:Program}{w:World}{K:PySem.W.Frag}{mg:Str→Option Value}{base:Heap}{t:Adr}
def AcL:Sp:=fun vs H Q _=>∃(sa bd gd:Addr) (rs:List Addr) (tt:List (List Addr)) (pic:List (List Nat)) (m n:Nat) (told:List Nat) (b:List (Nat × Nat)) (s0 c0:Nat),vs=[.ref sa,.str (tx told),.ref bd,.ref gd,.int (s0:Int)] ∧
 SA H sa rs tt pic m n (m+n)∧Pic pic m n∧told.length=m+n∧H bd=some (.dK (gK b))∧H gd=some (.dK (gK [(s0,c0)]))∧bd≠gd∧Bor pic m n told b∧s0<m+n∧(97≤c0∧c0≤102)∧b.lookup s0=none ∧
 (∀(H':Hp) (g:List (Nat × Nat)) (ps:List (Nat × Option Nat)),Kp gd H H'→H' gd=some (.dK (gK g))→Cn pic m n told b s0 c0 g ps→(∀(i v c:Nat),g[i]?=some (v,c)→Mt pic m b g v c (deg m n v))→Q .non H') ∧
 ((∀ O,Fit pic m n told O→O s0≠c0)→∀(l:Addr) (L:List Nat) (H':Hp),Kp gd H H'→H l=none→H' l=some (.lst (vI (nI L)))→Rgt pic m n told s0 c0 L→Q (.ref l) H')
theorem Uv(T:Txt K mg t):BP P w K mg base CX0 2 t.Pn t.Pq ["seen_along", "told", "borne", "given", "strand"] AcL:=by
 refine T.Kw.F.ok Dh (fun vs H Q E h=>?_) (fun cdv A outer s H vs Q E hr h=>?_)
 ·obtain⟨sa,bd,gd,rs,tt,pic,m,n,told,b,s0,c0,rfl,_⟩:=h
  rfl
 ·obtain⟨sa,bd,gd,rs,tt,pic,m,n,told,b,s0,c0,rfl,S,C,tl,hbd,hgd,bg,B,hs0,hc0,hb0,kN,kL⟩:=h
  have hsz:sizeLine=16777216:=sizeLine_eq
  have c2:=C.n40
  have c4:=C.m40
  refine⟨_,(Ab (Al (i:=5) Dh.nd rfl (Or.inl rfl) (Wc (Sv (pv 4) Fz Wb) rfl rfl (by simp) (by decide)))
   (Ab (Al (i:=6) Dh.nd rfl (Or.inl rfl) (CW (Aa (pv 4) Ac)))
   (Ab (Al (i:=7) Dh.nd rfl (Or.inl rfl) Af)
   (Ab (RJ PassesOwn.never (Ag Em (pv 7) (Ah (Ak (K:=K)) rfl T.Bm Bc (Aa (pv 6) Ac)) (Am _))
    (Ab (Al (i:=8) Dh.nd rfl (Or.inl rfl) (Ai (Ao (K:=K)) (pv 6) (pv 7) (fun _ _=>rfl)))
    (Ab (Bo PassesOwn.never rfl (BR (K:=K) (Ai (Ao (K:=K)) (pv 0) (pv 8) (fun _ _=>rfl))) (YZ rfl (J1 (Ba (i:=9) Dh.nd rfl (Or.inl rfl)) (J1 (Ba (i:=10) Dh.nd rfl (Or.inl rfl)) Vx)))
     (Ab (Bh (PW.pt (pw_or (Ag Cz (pv 10) (Rz (HX hr) (pv 3) (pv 8) (fun _ _=>rfl)) (Am _)) (pw_or (Ag Cz (X7 (HX hr) (pv 2) (pv 9) ⟨rfl,rfl,rfl,rfl⟩) (pv 10) (Am _)) (pw_or1 (Ag Cz (X7 (HX hr) (pv 3) (pv 9) ⟨rfl,rfl,rfl,rfl⟩) (pv 10) (Am _))))))
      (Ad Xm)
      Aq)
     (Ab (Bh (Qi (Ace (HX hr) (pv 9) (pv 3)))
      (Ad (Aw (Az V9 (Av ((Q6 T).mono (by decide)) hr rfl T.Jz.m T.Jz.F.kp T.Jz.b .nil Bj (Aa (pv 5) (Aa (pv 8) Ac))) (S6 (K:=K) rfl T.G3 rfl T.TQ (Av ((Q6 T).mono (by decide)) hr rfl T.Jz.m T.Jz.F.kp T.Jz.b .nil Bj (Aa (pv 5) (Aa (pv 9) Ac)))))))
      Aq)
     (Ab (Bh (PW.pt (pw_and (Ag Dd (Ai Bu (pv 1) (pv 9) (fun _ _=>rfl)) Bg (Am _)) (pw_and1 (Ag Dd (Ai Bu (pv 1) (pv 9) (fun _ _=>rfl)) (pv 10) (Am _)))))
      (Ad (Aw (Az V9 (Av ((Q6 T).mono (by decide)) hr rfl T.Jz.m T.Jz.F.kp T.Jz.b .nil Bj (Aa (pv 5) (Aa (pv 8) Ac))) (CW (Aa (pv 9) Ac)))))
      Aq)
     (Ab (Wa (HX hr) (pv 3) (pv 9) (pv 10) rfl)
     (Ab (Wa (HX hr) (pv 5) (pv 9) (pv 8) rfl)
     (Ad (Br (Ca (K:=K) PySem.F.plainAttrs_list PySem.F.slot_list_append PySem.F.type_list_append BL (pv 6) (Aa (pv 9) Ac))))))))))
    (Ad (AbI (i:=7) Dh.nd rfl (Or.inl rfl) Af AbJ)))))
   (Ad (Aw Fz)))))),?_⟩
  refine fun ad nad=>⟨_,rfl,Ae,[(Sum.inl (s0:Int),.non)],rfl,(by show 1≤15;decide),?_⟩
  have s1:Ar H (upd (upd H ad (.dK [])) ad (.dK (Ew [] [(Sum.inl (s0:Int),.non)]))):=(Ar.upd nad).over nad
  have Agi:(upd (upd H ad (.dK [])) ad (.dK (Ew [] [(Sum.inl (s0:Int),.non)]))) ad=some (.dK (kvs [(s0,none)])):=Ae
  generalize upd (upd H ad (.dK [])) ad (.dK (Ew [] [(Sum.inl (s0:Int),.non)]))=H1 at s1 Agi ⊢
  have AhI:ad≠gd:=fun e=>by rw[e,hgd] at nad;cases nad
  refine⟨_,rfl,(by show 1≤sizeLine;decide),fun fo nfo=>?_⟩
  have Agj:H fo=none:=s1.free nfo
  have AhJ:fo≠ad:=fun e=>by rw[e,Agi] at nfo;cases nfo
  have AhK:fo≠gd:=fun e=>by rw[e,hgd] at Agj;cases Agj
  have s2:Ar H (upd H1 fo (.lst [.int (s0:Int)])):=s1.new nfo
  have AhL:=(Ar.upd (o:=.lst [.int (s0:Int)]) nfo) _ _ Agi
  have AhM:(upd H1 fo (.lst [.int (s0:Int)])) fo=some (.lst (vI (Ls [(s0,c0)]))):=Ae
  have AhN:=s2 _ _ hgd
  generalize upd H1 fo (.lst [.int (s0:Int)])=H2 at s2 AhL AhM AhN ⊢
  refine⟨fun mm σ H3=>∃(p:Nat) (g:List (Nat × Nat)) (ps:List (Nat × Option Nat)) (v8 v9 v10:Option V),σ=[some (.ref sa),some (.str (tx told)),some (.ref bd),some (.ref gd),some (.int (s0:Int)),some (.ref ad),some (.ref fo),some (.int (p:Int)),v8,v9,v10]∧Kp gd H H3∧H3 gd=some (.dK (gK g))∧H3 ad=some (.dK (kvs ps))∧H3 fo=some (.lst (vI (Ls g))) ∧
    Cn pic m n told b s0 c0 g ps∧p≤g.length∧(∀(i v c:Nat),i<p→g[i]?=some (v,c)→Mt pic m b g v c (deg m n v))∧mm=m+n-p,
   ⟨m+n,0,[(s0,c0)],[(s0,none)],none,none,none,rfl,.of s2,AhN,AhL,AhM,Cn.start hs0 hc0 hb0,AkP _,fun i v c h=>(by omega),rfl⟩,?_⟩
  rintro mm σ H3 ⟨p,g,ps,v8,v9,v10,rfl,k3,AcM,Ajz,Agk,Cc,hp,all,rfl⟩
  have gl:=Cc.len
  refine⟨_,rfl,_,rfl,_,_,rfl,.inl (SqL.of Agk),_,_,rfl,rfl,_,rfl,?_⟩
  rw[Bx,Vl]
  refine Dg (fun h=>?_) (fun h=>?_)
  ·have plt:p<g.length:=by omega
   obtain⟨⟨v,c⟩,hv⟩:∃ q,g[p]?=some q:=⟨_,AkD plt⟩
   refine⟨_,fun _ _ z=>z,?_⟩
   refine⟨_,rfl,_,rfl,_,_,_,_,rfl,rfl,SqL.of Agk,Aem hv,?_⟩
   have vN:v<m+n:=Cc.lt _ (AkI hv)
   have S3:=S.kp k3 hgd
   have vr:v<rs.length:=by rw[S3.rl];exact vN
   have vt:v<tt.length:=by rw[S3.tl];exact vN
   have hrow:=S3.row v rs[v] tt[v] (AkD vr) (AkD vt)
   have av:atI (rs.map V.ref) (v:Int)=some (.ref rs[v]):=Bb (by omega) (by rw[AkJ,AkM,AkD vr];rfl)
   refine⟨_,rfl,_,rfl,_,_,_,_,rfl,rfl,SqL.of S3.h,av,_,rfl,⟨_,SqL.of hrow.1⟩,Cr (K:=K) (a:=rs[v]) (xs:=tt[v].map V.ref)
    (fun j σ H4=>∃(g:List (Nat × Nat)) (ps:List (Nat × Option Nat)) (v9 v10:Option V),σ=[some (.ref sa),some (.str (tx told)),some (.ref bd),some (.ref gd),some (.int (s0:Int)),some (.ref ad),some (.ref fo),some (.int (p:Int)),some (.int (v:Int)),v9,v10]∧Kp gd H H4∧H4 gd=some (.dK (gK g))∧H4 ad=some (.dK (kvs ps))∧H4 fo=some (.lst (vI (Ls g))) ∧
     Cn pic m n told b s0 c0 g ps∧g[p]?=some (v,c)∧(∀(i v c:Nat),i<p→g[i]?=some (v,c)→Mt pic m b g v c (deg m n v))∧Mt pic m b g v c j)
    ⟨g,ps,v9,v10,rfl,k3,AcM,Ajz,Agk,Cc,hv,all,fun i hi=>(by omega)⟩ (fun j σ H4 _ ⟨_,_,_,_,_,k4,_⟩=>SqL.of ((S.kp k4 hgd).row v rs[v] tt[v] (AkD vr) (AkD vt)).1) ?_ ?_⟩
   ·rintro j x σ H4 hx ⟨g,ps,v9,v10,rfl,k4,Q8,W8,Abw,Cc,hv,all,mt⟩
    rw[AkM] at hx
    obtain⟨T2,hT2,rfl⟩:=Option.map_eq_some_iff.mp hx
    have S4:=S.kp k4 hgd
    have jd:j<deg m n v:=by rw[← hrow.2];exact(List.getElem?_eq_some_iff.mp hT2).1
    have ht:=S4.tup v tt[v] j T2 (AkD vt) hT2
    obtain⟨bp,wN⟩:=AdY jd
    have ms:=@Mt.succ pic m b g v c j mt
    obtain⟨w,ew⟩:∃ w,w=nbr m v j:=⟨_,rfl⟩
    rw[← ew] at ht bp wN ms
    have co:=Agh C vN wN bp
    have hgo:g.lookup v=some c:=Gs Cc.nd (AkI hv)
    have step:=fun ne nb ng t=>Cn.step (w:=w) Cc B hv wN bp ne co nb ng t
    have no1:=fun(ne:crs pic m v w≠c) (d:Nat) hd nd=>Cc.no1 (AkI hv) wN bp ne (d:=d) hd nd
    have no2:=fun(ne:crs pic m v w≠c) t1 t2=>Cc.no2 (AkI hv) wN bp ne t1 t2
    have AcK:∀ x,x∈ps.map (·.1)→x<m+n:=fun x hx=>by
     rw[Cc.keys] at hx
     obtain⟨q,hq,rfl⟩:=List.mem_map.mp hx
     exact Cc.lt q hq
    have bk:=fun(as1 as2:List Nat) (W1:WyC ps v as1) (W2:WyC ps w as2) (d:Nat) (ne:crs pic m v w≠c) (hd:g.lookup w=some d) (nd:d≠crs pic m v w)=>ZG Cc W1 W2 hgo hd bp ne nd
    have tk:=fun(as1:List Nat) (W1:WyC ps v as1) (ne:crs pic m v w≠c) t1 t2=>ZJ Cc W1 hgo bp ne t1 t2 wN
    obtain⟨x,ex⟩:∃ x,x=crs pic m v w:=⟨_,rfl⟩
    rw[← ex] at ht ms co step no1 no2 bk tk
    have Ua:H4 bd=some (.dK (gK b)):=k4 _ _ bg hbd
    have gl:=Cc.len
    have pl2:=Cc.AdZ
    have nd2:(ps.map (·.1)).Nodup:=by rw[Cc.keys];exact Cc.nd
    have Ael:ps.length≤200:=by omega
    have glt:(gK g).length<sizeLine:=by rw[ZD];omega
    have Aj0:(kvs ps).length<sizeLine:=by rw[Aek];omega
    have flt:(vI (Ls g)).length<sizeLine:=by rw[Bx,Vl];omega
    have plg:p<g.length:=(List.getElem?_eq_some_iff.mp hv).1
    have at1:=Q7 (u:=told) (i:=w) (by omega)
    have slt:(tx told).length≤sizeLine:=by rw[An];omega
    have Aj1:1≤sizeLine:=by omega
    refine⟨_,_,rfl,SqT.of ht,rfl,_,_,rfl,_,_,rfl,rfl,?_⟩
    have dg1:Hq H4 gd (.int (v:Int)) (some (.str ⟨#[c]⟩)):=by
     have:=Hq.k (k:=Sum.inl (v:Int)) Q8
     rw[TY,hgo] at this
     exact this
    obtain⟨ob,dB,sB,iB,_⟩:=ZF Ua w x
    obtain⟨og,dG,sG,iG,jG⟩:=ZF Q8 w x
    refine⟨_,rfl,_,rfl,_,rfl,gd,_,rfl,dg1,rfl,_,rfl,?_⟩
    refine Dg (fun h1=>Jm ?_) (fun h1=>?_)
    ·exact⟨g,ps,_,_,rfl,k4,Q8,W8,Abw,Cc,hv,all,ms (.inl (CV.mp h1))⟩
    have nc:x≠c:=fun z=>h1 (CV.mpr z)
    refine⟨_,rfl,bd,rfl,.inl ⟨_,.inl Ua⟩,_,rfl,_,dB,_,rfl,sB,_,rfl,?_⟩
    refine Dg (fun h2=>Jm ?_) (fun h2=>?_)
    ·exact⟨g,ps,_,_,rfl,k4,Q8,W8,Abw,Cc,hv,all,ms (.inr (.inl (iB.mp h2)))⟩
    refine⟨_,rfl,gd,rfl,.inl ⟨_,.inl Q8⟩,_,rfl,_,dG,_,rfl,sG,_,rfl,?_⟩
    refine Dg (fun h3=>?_) (fun h3=>?_)
    ·exact⟨g,ps,_,_,rfl,k4,Q8,W8,Abw,Cc,hv,all,ms (.inr (.inr (iG.mp h3)))⟩
    have n2:b.lookup w≠some x:=fun z=>h2 (iB.mpr z)
    have n3:g.lookup w≠some x:=fun z=>h3 (iG.mpr z)
    have AhO:∀{i u d:Nat},g[i]?=some (u,d)→∃ q:Option Nat,ps[i]?=some (u,q):=fun {i u d} hi=>by
     have e2:(ps.map (·.1))[i]?=some u:=by rw[Cc.keys,AkM,hi];rfl
     rw[AkM] at e2
     obtain⟨q,hq,eq⟩:=Option.map_eq_some_iff.mp e2
     exact⟨q.2,by rw[hq,← eq]⟩
    obtain⟨pq,hpq⟩:=AhO hv
    refine⟨_,rfl,_,rfl,gd,_,rfl,dG,_,rfl,?_⟩
    rw[jG]
    cases hw:g.lookup w with
    | some d =>
     refine Jm ?_
     have n4:d≠x:=fun z2=>n3 (by rw[hw,z2])
     have nO:=no1 nc d hw n4
     obtain⟨jw,hjw⟩:=AlD (Fd hw)
     obtain⟨qw,hqw⟩:=AhO hjw
     refine⟨_,rfl,_,rfl,ad,v,p,pq,ps,rfl,W8,nd2,Cc.ah,Ael,hpq,fun l1 as1 H5 s5 nl1 hl1 W1=>?_⟩
     refine⟨_,rfl,_,rfl,ad,w,jw,qw,ps,rfl,s5 _ _ W8,nd2,Cc.ah,Ael,hqw,fun l2 as2 H6 s6 nl2 hl2 W2=>?_⟩
     have q1:=W1.len
     have q2:=W2.len
     refine⟨_,_,rfl,SqL.of hl2,(by rw[Bx,NZ,Alz];omega),fun l3 nl3=>?_⟩
     refine⟨_,_,_,_,rfl,rfl,(Ar.upd nl3) _ _ (s6 _ _ hl1),Ae,(by rw[Bx,NZ,Alz,Alz,Bx,NZ,Alz];omega),fun l4 nl4=>?_⟩
     have Agl:H l4=none:=Y6 k4 Q8 nl4 ((s5.trans s6).new nl3)
     refine kL nO l4 (as1.reverse++as2) _ (k4.thn (((s5.trans s6).new nl3).new nl4)) Agl ?_ (bk as1 as2 W1 W2 d nc hw n4)
     rw[Ae,AcG,AcH,List.reverse_reverse,W6]
     unfold vI
     rw[AkL]
    | none =>
     refine Ci ?_
     apply Lw (told.getD w 0=63∨told.getD w 0=x)
     ·intro rest
      refine⟨_,rfl,_,rfl,_,_,_,rfl,rfl,slt,at1,rfl,_,rfl,?_⟩
      by_cases t1:told.getD w 0=63
      ·refine CQ (by rw[t1];exact e63) (Ci ?_)
       exact rest (.inl t1)
      ·refine HY (fun z=>t1 (CV.mp (z.trans e63.symm))) ?_
       refine⟨_,rfl,_,rfl,_,_,_,rfl,rfl,slt,at1,_,rfl,rfl,_,rfl,?_⟩
       by_cases t2:told.getD w 0=x
       ·refine CQ (by rw[t2]) ?_
        exact rest (.inr t2)
       ·refine HY (fun z=>t2 (CV.mp z)) ?_
        have nO:=no2 nc t1 t2
        refine⟨_,rfl,_,rfl,ad,v,p,pq,ps,rfl,W8,nd2,Cc.ah,Ael,hpq,fun l1 as1 H5 s5 nl1 hl1 W1=>?_⟩
        refine⟨_,rfl,Aj1,fun l3 nl3=>?_⟩
        refine⟨_,_,_,_,rfl,rfl,(Ar.upd nl3) _ _ hl1,Ae,?_,fun l4 nl4=>?_⟩
        ·have q1:=W1.len
         rw[Bx,NZ,Alz]
         clear rest
         show as1.length+1≤sizeLine
         omega
        have Agl:H l4=none:=Y6 k4 Q8 nl4 (s5.new nl3)
        refine kL nO l4 (as1.reverse++[w]) _ (k4.thn ((s5.new nl3).new nl4)) Agl ?_ (tk as1 W1 nc t1 t2)
        rw[Ae,W6]
        unfold vI
        rw[AkL]
        rfl
     ·intro tw
      have C':=step nc n2 hw tw
      refine⟨_,rfl,_,rfl,_,rfl,gd,_,rfl,X4.k (k:=Sum.inl (w:Int)) Q8 glt,?_⟩
      rw[AcJ g w x hw]
      have k5:Kp gd H (upd H4 gd (.dK (gK (g++[(w,x)])))):=k4.put
      have AhP:(upd H4 gd (.dK (gK (g++[(w,x)])))) gd=some (.dK (gK (g++[(w,x)]))):=Ae
      have AhQ:(upd H4 gd (.dK (gK (g++[(w,x)])))) ad=some (.dK (kvs ps)):=by rw[Ax AhI];exact W8
      have AhR:(upd H4 gd (.dK (gK (g++[(w,x)])))) fo=some (.lst (vI (Ls g))):=by rw[Ax AhK];exact Abw
      generalize upd H4 gd (.dK (gK (g++[(w,x)])))=H5 at k5 AhP AhQ AhR ⊢
      refine⟨_,rfl,_,rfl,_,rfl,ad,_,rfl,X4.k (k:=Sum.inl (w:Int)) AhQ Aj0,?_⟩
      rw[Aej ps w v (Y0 (by rw[Cc.keys];exact Vh hw))]
      have k6:Kp gd H (upd H5 ad (.dK (kvs (ps++[(w,some v)])))):=k5.over nad
      have AhS:(upd H5 ad (.dK (kvs (ps++[(w,some v)])))) ad=some (.dK (kvs (ps++[(w,some v)]))):=Ae
      have AhT:(upd H5 ad (.dK (kvs (ps++[(w,some v)])))) gd=some (.dK (gK (g++[(w,x)]))):=by rw[Ax AhI.symm];exact AhP
      have Agm:(upd H5 ad (.dK (kvs (ps++[(w,some v)])))) fo=some (.lst (vI (Ls g))):=by rw[Ax AhJ];exact AhR
      generalize upd H5 ad (.dK (kvs (ps++[(w,some v)])))=H6 at k6 AhS AhT Agm ⊢
      refine⟨_,rfl,.inl ⟨rfl,_,SqL.of Agm⟩,_,rfl,_,_,_,rfl,rfl,Agm,flt,?_⟩
      refine⟨g++[(w,x)],ps++[(w,some v)],_,_,rfl,k6.over Agj,by rw[Ax AhK.symm];exact AhT,by rw[Ax AhJ.symm];exact AhS,?_,C',?_,fun i v' c' hi hg'=>?_,?_⟩
      ·rw[Ae,GF]
       unfold Ls
       rw[AkL]
       rfl
      ·rw[AkR plg];exact hv
      ·rw[AkR (by omega)] at hg'
       exact(all i v' c' hi hg').grow _
      ·refine Mt.succ (mt.grow _) (.inr (.inr ?_))
       rw[← ew,← ex,Ie,hw]
       simp
   ·rintro σ H4 ⟨g,ps,v9,v10,rfl,k4,Q8,W8,Abw,Cc,hv,all,mt⟩
    rw[AkE,hrow.2] at mt
    have plg:p<g.length:=(List.getElem?_eq_some_iff.mp hv).1
    have gl:=Cc.len
    refine⟨_,rfl,_,_,rfl,rfl,?_⟩
    refine⟨m+n-(p+1),by omega,p+1,g,ps,_,_,_,rfl,k4,Q8,W8,Abw,Cc,by omega,fun i v' c' hi hg'=>?_,rfl⟩
    by_cases e:i<p
    ·exact all i v' c' e hg'
    ·have e:i=p:=by omega
     subst e
     rw[hv] at hg'
     cases hg'
     exact mt
  ·have e:p=g.length:=by omega
   subst e
   exact kN H3 g ps k3 AcM Cc fun i v c hi=>all i v c (List.getElem?_eq_some_iff.mp hi).1 hi
end
theorem Y7{G:Prop}{R:List Nat→Prop}(C:List Nat→Prop)(main:(∀ u,C u→R u)→G)(rest:∀ u,C u→R u):G:=main rest
theorem AhU:(("abcdef" : Str))=tx [97,98,99,100,101,102]:=by decide +kernel
theorem Agn{c:Nat}(h:97≤c∧c≤102):c∈[97,98,99,100,101,102]:=by
 have:c=97∨c=98∨c=99∨c=100∨c=101∨c=102:=by omega
 rcases this with h | h | h | h | h | h <;> subst h <;> decide
theorem Ago{c:Nat}(h:c∈[97,98,99,100,101,102]):97≤c∧c≤102:=by
 simp only [Aln,Alo,or_false] at h
 omega
theorem Aj2{c:Nat}(h:Co c∨c=63):(!(!(Builtin.Str.occurrences ("abcdef" ++ "?") ⟨#[c]⟩ 0 (Str.length ("abcdef" ++ "?")) 1).isEmpty))=false:=by
 have:c=97∨c=98∨c=99∨c=100∨c=101∨c=102∨c=63:=by
  rcases h with ⟨h1,h2⟩ | h <;> omega
 rcases this with h | h | h | h | h | h | h <;> subst h <;> decide +kernel
def due (told:List Nat)(s:Nat):List Nat:=if told.getD s 0=63 then [97,98,99,100,101,102] else [told.getD s 0]
def Cns (H:Hp)(lc:Addr)(pic:List (List Nat))(m n:Nat)(told:List Nat)(s0:Nat)(cs:List Nat)(k:Nat):Prop:=∃ ts:List Addr,H lc=some (.lst (ts.map V.ref))∧ts.length=k ∧
 ∀(i:Nat) (T:Addr) (c:Nat),ts[i]?=some T→cs[i]?=some c→∃(l:Addr) (L:List Nat),H T=some (.tup [.str ⟨#[c]⟩,.ref l])∧H l=some (.lst (vI (nI L)))∧l≠lc∧Rgt pic m n told s0 c L
theorem Cns.same{H H':Hp}{lc:Addr}{pic:List (List Nat)}{m n:Nat}{told:List Nat}{s0:Nat}{cs:List Nat}{k:Nat}(N:Cns H lc pic m n told s0 cs k)(s:Ar H H'):Cns H' lc pic m n told s0 cs k:=by
 obtain⟨ts,h1,h2,h3⟩:=N
 refine⟨ts,s _ _ h1,h2,fun i T c e1 e2=>?_⟩
 obtain⟨l,L,a1,a2,a3,a4⟩:=h3 i T c e1 e2
 exact⟨l,L,s _ _ a1,s _ _ a2,a3,a4⟩
theorem Cns.app{H:Hp}{lc T l:Addr}{pic:List (List Nat)}{m n:Nat}{told:List Nat}{s0:Nat}{cs:List Nat}{k c:Nat}{L:List Nat}{ts:List Addr}(h1:H lc=some (.lst (ts.map V.ref)))(h2:ts.length=k)
  (h3:∀(i:Nat) (T:Addr) (c:Nat),ts[i]?=some T→cs[i]?=some c→∃(l:Addr) (L:List Nat),H T=some (.tup [.str ⟨#[c]⟩,.ref l])∧H l=some (.lst (vI (nI L)))∧l≠lc∧Rgt pic m n told s0 c L)
  (hc:cs[k]?=some c) (hT:H T=some (.tup [.str ⟨#[c]⟩,.ref l])) (hl:H l=some (.lst (vI (nI L)))) (nl:l≠lc) (R:Rgt pic m n told s0 c L) :
  Cns (upd H lc (.lst (ts.map V.ref++[.ref T]))) lc pic m n told s0 cs (k+1):=by
 refine⟨ts++[T],by rw[Ae,AkL];rfl,by rw[AkG,h2];rfl,fun i T' c' e1 e2=>?_⟩
 have key:∃(l:Addr) (L:List Nat),H T'=some (.tup [.str ⟨#[c']⟩,.ref l])∧H l=some (.lst (vI (nI L)))∧l≠lc∧Rgt pic m n told s0 c' L:=by
  by_cases hi:i<ts.length
  ·rw[AkR hi] at e1
   exact h3 i T' c' e1 e2
  ·have hi2:=(List.getElem?_eq_some_iff.mp e1).1
   rw[AkG,Ali] at hi2
   have ei:i=ts.length:=by omega
   rw[ei,AkY (AkF _),Alp] at e1
   cases e1
   rw[ei,h2,hc] at e2
   cases e2
   exact⟨l,L,hT,hl,nl,R⟩
 obtain⟨l',L',a1,a2,a3,a4⟩:=key
 have nT:T'≠lc:=fun e=>by rw[e,h1] at a1;cases a1
 exact⟨l',L',by rw[Ax nT];exact a1,by rw[Ax a3];exact a2,a3,a4⟩
section
variable {P:Program}{w:World}{K:PySem.W.Frag}{mg:Str→Option Value}{base:Heap}{t:Adr}
def W9:Sp:=fun vs H Q _=>∃(u:List Nat),vs=[.str (tx u),.int (u.length:Int),.str ("abcdef" ++ "?")]∧(∀ c∈u,Co c∨c=63)∧u.length≤40∧Q .non H
theorem Jl(T:Txt K mg t):BP P w K mg base CX0 1 t.Hz t.HB ["text", "count", "signs"] W9:=by
 refine T.Bt.F.ok Fw (fun vs H Q E h=>?_) (fun cdv A outer s H vs Q E hr h=>?_)
 ·obtain⟨t,rfl,_⟩:=h
  rfl
 ·obtain⟨t,rfl,hsg,hl,k⟩:=h
  refine⟨_,(Ab (Bh (Ag Dd (Ah Ay rfl T.Bm Bc (Aa (pv 0) Ac)) (pv 1) (Am _))
    (Ad Cq)
    Aq)
   (Ad (Bo PassesOwn.never rfl (RQ (pv 0)) (Ba (i:=3) Fw.nd rfl (Or.inl rfl))
    (Ad (Bh (Ag Gk (pv 3) (pv 2) rfl)
     (Ad Cq)
     Aq))))),?_⟩
  refine⟨_,rfl,_,rfl,(by rw[An];exact Ce hl),_,rfl,rfl,_,rfl,?_⟩
  refine CQ (by rw[An]) ?_
  refine⟨_,rfl,_,rfl,Om (z:=tx t) (fun i σ H2=>∃ v,σ=[some (.str (tx t)),some (.int (t.length:Int)),some (.str ("abcdef" ++ "?")),v]∧H2=H) ⟨none,rfl,rfl⟩ ?_ ?_⟩
  ·rintro i c σ H2 hc ⟨v,rfl,rfl⟩
   rw[Nv] at hc
   refine⟨_,rfl,_,rfl,_,_,rfl,rfl,_,rfl,?_⟩
   rw[Aj2 (hsg c (AkI hc))]
   exact Ci ⟨_,rfl,rfl⟩
  ·rintro σ H2 ⟨v,rfl,rfl⟩
   exact k
def Abx:Sp:=fun vs H Q _=>∃(sa bd:Addr) (rs:List Addr) (tt:List (List Addr)) (pic:List (List Nat)) (m n:Nat) (told:List Nat) (b:List (Nat × Nat)) (s0:Nat),vs=[.ref sa,.str (tx told),.ref bd,.int (s0:Int)] ∧
 SA H sa rs tt pic m n (m+n)∧Pic pic m n∧told.length=m+n∧(∀ c∈told,Co c∨c=63)∧H bd=some (.dK (gK b))∧Bor pic m n told b∧Lx pic m n told b∧(∀ v,v<s0→b.lookup v≠none)∧s0<m+n∧b.lookup s0=none ∧
 (∀(H':Hp) (b':List (Nat × Nat)),Kp bd H H'→H' bd=some (.dK (gK b'))→Bor pic m n told b'→Lx pic m n told b'→(∀ v,b.lookup v≠none→b'.lookup v≠none)→b'.lookup s0≠none→Q .non H') ∧
 ((∀ O,¬Fit pic m n told O)→∀(lc:Addr) (H':Hp),Ar H H'→Cns H' lc pic m n told s0 (due told s0) (due told s0).length→Q (.ref lc) H')
theorem Q9(T:Txt K mg t):BP P w K mg base CX0 3 t.KN t.KQ ["seen_along", "told", "borne", "strand"] Abx:=by
 refine T.Hn.F.ok Dl (fun vs H Q E h=>?_) (fun cdv A outer s H vs Q E hr h=>?_)
 ·obtain⟨sa,bd,rs,tt,pic,m,n,told,b,s0,rfl,_⟩:=h
  rfl
 ·obtain⟨sa,bd,rs,tt,pic,m,n,told,b,s0,rfl,S,C,tl,tco,hbd,B,X,before,hs0,hb0,k,kL⟩:=h
  have hsz:sizeLine=16777216:=sizeLine_eq
  have c2:=C.n40
  have c4:=C.m40
  have at1:=Q7 (u:=told) (i:=s0) (by omega)
  have slt:(tx told).length≤sizeLine:=by rw[An];omega
  have tm:told.getD s0 0∈told:=by rw[show told.getD s0 0=told[s0]'(by omega) by simp[List.getD,show s0<told.length by omega]];exact AkN _
  have bl:b.length≤m+n:=by
   have:=Z7 (m+n) (b.map (·.1)) B.nd fun x hx=>by
    obtain⟨p,hp,rfl⟩:=List.mem_map.mp hx
    exact B.lt p hp
   rwa [AkE] at this
  refine⟨_,(Ab (Al (i:=4) Dl.nd rfl (Or.inl rfl) (CW Ac))
   (Ab (Al (i:=5) Dl.nd rfl (Or.inl rfl) (RG (Ag Cz (Ai Bu (pv 1) (pv 3) (fun _ _=>rfl)) Bg (Am _)) (Ei (v:=.str "abcdef") rfl T.HQ.choose_spec ⟨_,rfl⟩) (Ai Bu (pv 1) (pv 3) (fun _ _=>rfl))))
   (Ab (Bo PassesOwn.never rfl (RQ (pv 5)) (Ba (i:=6) Dl.nd rfl (Or.inl rfl))
    (Ab (Al (i:=7) Dl.nd rfl (Or.inl rfl) (Wc (Sv (pv 3) (pv 6) Wb) rfl rfl (by simp) (by decide)))
    (Ab (Al (i:=8) Dl.nd rfl (Or.inl rfl) (Av ((Uv T).mono (by decide)) hr rfl T.Kw.m T.Kw.F.kp T.Kw.b .nil Bj (Aa (pv 0) (Aa (pv 1) (Aa (pv 2) (Aa (pv 7) (Aa (pv 3) Ac)))))))
    (Ab (Bh (Ag Zc (pv 8) Fz (Am _))
     (Ab (Br (AdI (pv 2) (pv 7) ⟨rfl,rfl,rfl,rfl⟩))
     (Ad (Aw Fz)))
     Aq)
    (Ad (Br (Ca (K:=K) PySem.F.plainAttrs_list PySem.F.slot_list_append PySem.F.type_list_append BL (pv 4) (Aa (Gn (Aa (pv 6) (Aa (pv 8) Ac))) Ac))))))))
   (Ad (Aw (pv 4)))))),?_⟩
  refine⟨AkP _,fun lc nlc=>?_⟩
  have s1:Ar H (upd H lc (.lst [])):=.upd nlc
  have AhV:(upd H lc (.lst [])) lc=some (.lst ([].map V.ref)):=Ae
  generalize upd H lc (.lst [])=H1 at s1 AhV ⊢
  apply Y7 (fun cs=>cs=due told s0∧cs.length≤6∧(∀ O,Fit pic m n told O→O s0∈cs)∧cs.Pairwise (·<·)∧∀ c∈cs,(97≤c∧c≤102)∧(told.getD s0 0=63∨told.getD s0 0=c))
  ·intro rest
   refine⟨_,rfl,_,rfl,_,_,_,rfl,rfl,slt,at1,rfl,_,rfl,?_⟩
   refine Dg (fun h=>?_) (fun h=>?_)
   ·have t1:told.getD s0 0=63:=CV.mp (h.trans e63.symm)
    obtain⟨cs,ecs⟩:∃ cs,cs=[97,98,99,100,101,102]:=⟨_,rfl⟩
    have key:=rest cs ⟨by unfold due;rw[if_pos t1,ecs],by rw[ecs];decide,fun O F=>by rw[ecs];exact Agn (F.co s0 hs0),by rw[ecs];decide,fun c hc=>⟨by rw[ecs] at hc;exact Ago hc,.inl t1⟩⟩
    show _
    rw[AhU,← ecs]
    exact key
   ·have t1:¬told.getD s0 0=63:=fun z=>h (by rw[z];exact e63)
    obtain⟨cs,ecs⟩:∃ cs,cs=[told.getD s0 0]:=⟨_,rfl⟩
    have key:=rest cs ⟨by unfold due;rw[if_neg t1,ecs],by rw[ecs];show 1≤6;decide,fun O F=>by rw[ecs,(F.td s0 hs0).resolve_left t1];exact List.mem_singleton.mpr rfl,by rw[ecs];exact List.pairwise_singleton _ _,fun c hc=>by
     rw[ecs] at hc
     have e:=List.mem_singleton.mp hc
     exact⟨by rw[e];exact(tco _ tm).resolve_right t1,.inr e.symm⟩⟩
    refine⟨_,rfl,_,rfl,_,_,_,rfl,rfl,slt,at1,?_⟩
    rw[DP,← ecs]
    exact key
  rintro cs ⟨ecs,cl,om,srt,call⟩
  refine⟨_,rfl,_,rfl,Om (z:=tx cs) (fun i σ H2=>∃(v6 v7 v8:Option V),σ=[some (.ref sa),some (.str (tx told)),some (.ref bd),some (.int (s0:Int)),some (.ref lc),some (.str (tx cs)),v6,v7,v8]∧Ar H H2∧Cns H2 lc pic m n told s0 cs i∧∀ O,Fit pic m n told O→∀(j c:Nat),j<i→cs[j]?=some c→O s0≠c) ⟨none,none,none,rfl,s1,⟨[],AhV,rfl,fun i T c e=>by simp at e⟩,fun O F j c h=>(by omega)⟩ ?_ ?_⟩
  ·rintro i c σ H2 hc ⟨v6,v7,v8,rfl,s2,⟨ts,AhW,tsl,tsp⟩,hne⟩
   rw[Nv] at hc
   have il:i<cs.length:=(List.getElem?_eq_some_iff.mp hc).1
   obtain⟨co,tc⟩:=call c (AkI hc)
   refine fun gd ngd=>⟨_,rfl,_,rfl,Ae,[(Sum.inl (s0:Int),.str ⟨#[c]⟩)],rfl,(by show 1≤15;decide),?_⟩
   have s3:Ar H2 (upd (upd H2 gd (.dK [])) gd (.dK (Ew [] [(Sum.inl (s0:Int),.str ⟨#[c]⟩)]))):=(Ar.upd ngd).over ngd
   have AcM:(upd (upd H2 gd (.dK [])) gd (.dK (Ew [] [(Sum.inl (s0:Int),.str ⟨#[c]⟩)]))) gd=some (.dK (gK [(s0,c)])):=Ae
   generalize upd (upd H2 gd (.dK [])) gd (.dK (Ew [] [(Sum.inl (s0:Int),.str ⟨#[c]⟩)]))=H3 at s3 AcM ⊢
   have Agp:=s2 _ _ hbd
   have Agq:bd≠gd:=fun e=>by rw[← e,Agp] at ngd;cases ngd
   have nH:H gd=none:=s2.free ngd
   have AeQ:∀{H4:Hp},Kp gd H3 H4→Ar H2 H4:=fun k4 x o e=>k4 x o (BK e ngd) (s3 _ _ e)
   have keep:∀{H4:Hp},Kp gd H3 H4→Ar H H4:=fun k4=>s2.trans (AeQ k4)
   refine⟨_,rfl,_,rfl,_,rfl,_,rfl,_,rfl,sa,bd,gd,rs,tt,pic,m,n,told,b,s0,c,rfl,S.same (s2.trans s3),C,tl,s3 _ _ Agp,AcM,Agq,B,hs0,co,hb0,fun H4 g ps k4 Q8 Cc all=>?_,fun nO l L H4 k4 nl hl R=>?_⟩
   ·have B4:=Cc.bor B tc all
    have gl:=Cc.len
    have Ua:H4 bd=some (.dK (gK b)):=k4 _ _ Agq (s3 _ _ Agp)
    have first:∀ O,Fit pic m n told O→c≤O s0:=fun O F=>by
     obtain⟨j,hj⟩:=AlD (om O F)
     have ij:i≤j:=by
      rcases Nat.lt_or_ge j i with h | h
      ·exact absurd rfl (hne O F j _ h hj)
      ·exact h
     rcases Nat.lt_or_ge i j with h | h
     ·obtain⟨j1,e1⟩:=List.getElem?_eq_some_iff.mp hj
      obtain⟨i1,e2⟩:=List.getElem?_eq_some_iff.mp hc
      have:=List.pairwise_iff_getElem.mp srt i j i1 j1 h
      rw[e1,e2] at this
      omega
     ·have:j=i:=by omega
      rw[this,hc] at hj
      exact Al4 (Option.some.inj hj)
    refine⟨_,rfl,rfl,_,rfl,?_⟩
    refine Gi rfl ?_
    refine⟨_,rfl,bd,rfl,.inl ⟨_,.inl Ua⟩,_,rfl,gd,_,_,rfl,Agq,Ua,Q8,(by rw[ZD,ZD];omega),?_⟩
    rw[Y5 g b B4.nd]
    refine k _ (b++g) (fun x o ne e=>by rw[Ax ne];exact keep k4 x o e) Ae B4 (X.step Cc before first) (fun v hv=>?_) ?_
    ·cases e:b.lookup v with
     | none=>exact absurd e hv
     | some d=>rw[Gj e];exact fun z=>(by cases z)
    ·rw[Ie,hb0,Gs Cc.nd (AkI Cc.fst)]
     exact fun z=>(by cases z)
   ·have sm:=AeQ k4
    have Agr:=sm _ _ AhW
    have llc:l≠lc:=fun e=>by rw[e,s3 _ _ AhW] at nl;cases nl
    refine⟨_,rfl,rfl,_,rfl,?_⟩
    refine Cv (fun z=>by cases z) ?_
    refine⟨_,rfl,.inl ⟨rfl,_,SqL.of Agr⟩,_,rfl,_,rfl,(by show 2≤sizeLine;omega),fun tp ntp=>?_⟩
    have s5:Ar H4 (upd H4 tp (.tup [.str ⟨#[c]⟩,.ref l])):=.upd ntp
    have ht5:(upd H4 tp (.tup [.str ⟨#[c]⟩,.ref l])) tp=some (.tup [.str ⟨#[c]⟩,.ref l]):=Ae
    generalize upd H4 tp (.tup [.str ⟨#[c]⟩,.ref l])=H5 at s5 ht5 ⊢
    refine⟨_,_,_,rfl,rfl,s5 _ _ Agr,(by rw[AkE];omega),?_⟩
    refine⟨_,_,_,rfl,((keep k4).trans s5).over nlc,Cns.app (s5 _ _ Agr) tsl (fun i T c e1 e2=>?_) hc ht5 (s5 _ _ hl) llc R,fun O F j d hj hd=>?_⟩
    ·obtain⟨l',L',a1,a2,a3,a4⟩:=tsp i T c e1 e2
     exact⟨l',L',s5 _ _ (sm _ _ a1),s5 _ _ (sm _ _ a2),a3,a4⟩
    by_cases e:j<i
    ·exact hne O F j d e hd
    ·have e:j=i:=by omega
     subst e
     rw[hc] at hd
     cases hd
     exact nO O F
  ·rintro σ H2 ⟨v6,v7,v8,rfl,s2,N,hne⟩
   have none:∀ O,¬Fit pic m n told O:=fun O F=>by
    obtain⟨j,hj⟩:=AlD (om O F)
    exact hne O F j _ (by rw[Aah];exact(List.getElem?_eq_some_iff.mp hj).1) hj rfl
   rw[Aah,ecs] at N
   exact⟨_,rfl,kL none lc H2 s2 N⟩
theorem Y8{u:List Nat}{k:Nat}(h:k≤u.length):VN u (some (k:Int)) none=u.drop k:=by
 unfold VN
 have e1:HT.sIx u.length 0 (some (k:Int))=k:=by rw[HT.Oi,AlK h]
 have e2:HT.sIx u.length u.length none=u.length:=rfl
 rw[e1,e2]
 exact Aly (by rw[Al6];omega)
def thr (b:List (Nat × Nat))(k:Nat):List Nat:=(List.range k).map fun v=>(b.lookup v).getD 0
theorem R8(b:List (Nat × Nat))(k:Nat):(thr b k).length=k:=by unfold thr;rw[AkE,AkV]
theorem WD{b:List (Nat × Nat)}{k v:Nat}(h:v<k):(thr b k).getD v 0=(b.lookup v).getD 0:=by
 unfold thr
 simp[List.getD,h]
theorem AcN(b:List (Nat × Nat))(k:Nat):thr b (k+1)=thr b k++[(b.lookup k).getD 0]:=by unfold thr;rw[Alx,AkL];rfl
theorem Zn{u:List Nat}{k:Nat}(h:k≤u.length):VN u none (some (k:Int))=u.take k:=by
 unfold VN
 rw[HT.RN,HT.Oi,AlV,AlK h,Nat.sub_zero]
structure Ru (pic:List (List Nat)) (m n:Nat) (wa we ua ue:List Nat):Prop where
 la:ua.length=m
 le:ue.length=n
 ca:∀ j,j<m→Co (ua.getD j 0)∧(wa.getD j 0=63∨wa.getD j 0=ua.getD j 0)
 ce:∀ i,i<n→Co (ue.getD i 0)∧(we.getD i 0=63∨we.getD i 0=ue.getD i 0)
 cr:∀ i j,i<n→j<m→ua.getD j 0=(pic.getD i []).getD j 0∨ue.getD i 0=(pic.getD i []).getD j 0
theorem Ru.of{pic:List (List Nat)}{m n:Nat}{wa we:List Nat}{b:List (Nat × Nat)}(B:Bor pic m n (wa++we) b)(hwa:wa.length=m)(hwe:we.length=n)(all:∀ v,v<m+n→b.lookup v≠none) :
  Ru pic m n wa we ((thr b (m+n)).take m) ((thr b (m+n)).drop m):=by
 have ga:∀ j,j<m→((thr b (m+n)).take m).getD j 0=(thr b (m+n)).getD j 0:=fun j hj=>by
  rw[AkH,AkH,AlQ hj]
 have ge:∀ i,((thr b (m+n)).drop m).getD i 0=(thr b (m+n)).getD (m+i) 0:=fun i=>by
  rw[AkH,AkH,AlU]
 have val:∀ v,v<m+n→∃ c,b.lookup v=some c∧(thr b (m+n)).getD v 0=c:=fun v hv=>by
  cases e:b.lookup v with
  | none=>exact absurd e (all v hv)
  | some c=>exact⟨c,rfl,by rw[WD hv,e];rfl⟩
 have ta:∀ j,j<m→(wa++we).getD j 0=wa.getD j 0:=fun j hj=>by
  rw[AkH,AkH,AkR (by omega)]
 have te:∀ i,(wa++we).getD (m+i) 0=we.getD i 0:=fun i=>by
  rw[AkH,AkH,AkY (by omega),hwa,show m+i-m=i by omega]
 refine⟨by rw[AkU,R8];omega,by rw[Al6,R8];omega,fun j hj=>?_,fun i hi=>?_,fun i j hi hj=>?_⟩
 ·obtain⟨c,e1,e2⟩:=val j (by omega)
  have q:=B.td _ (Fd e1)
  have q2:(wa++we).getD j 0=63∨(wa++we).getD j 0=c:=q
  rw[ta j hj] at q2
  rw[ga j hj,e2]
  exact⟨B.co _ (Fd e1),q2⟩
 ·obtain⟨c,e1,e2⟩:=val (m+i) (by omega)
  have q2:(wa++we).getD (m+i) 0=63∨(wa++we).getD (m+i) 0=c:=B.td _ (Fd e1)
  rw[te i] at q2
  rw[ge i,e2]
  exact⟨B.co _ (Fd e1),q2⟩
 ·obtain⟨c,e1,e2⟩:=val j (by omega)
  obtain⟨d,e3,e4⟩:=val (m+i) (by omega)
  have cx:crs pic m j (m+i)=(pic.getD i []).getD j 0:=by unfold crs;rw[if_pos hj,show m+i-m=i by omega]
  have q:crs pic m j (m+i)=c∨b.lookup (m+i)=some (crs pic m j (m+i)):=B.cl _ (Fd e1) (m+i) (by omega) (.inl ⟨hj,by omega⟩)
  rw[ga j hj,ge i,e2,e4]
  rcases q with z | z
  ·rw[cx] at z;exact .inl z.symm
  ·rw[cx,e3] at z;exact .inr (Option.some.inj z)
def AcO (K:PySem.W.Frag):Sp:=fun vs H Q _=>∃(a:Addr) (pic:List (List Nat)) (m n:Nat) (wa we:List Nat),vs=[.ref a,.str (tx wa),.str (tx we)]∧SqL K H a (vS pic)∧Pic pic m n∧wa.length=m∧we.length=n∧(∀ c∈wa,Co c∨c=63)∧(∀ c∈we,Co c∨c=63) ∧
 (∀(p:Addr) (H':Hp) (ua ue:List Nat),Ar H H'→H' p=some (.tup [.str "threads", .str (tx ua),.str (tx ue)])→Ru pic m n wa we ua ue→(∀ O,Fit pic m n (wa++we) O→∀ s,s<m+n→(∀ v,v<s→O v=(ua++ue).getD v 0)→(ua++ue).getD s 0≤O s)→Q (.ref p) H') ∧
 ((∀ O,¬Fit pic m n (wa++we) O)→∀(p lc:Addr) (s0:Nat) (H':Hp),Ar H H'→s0<m+n→H' p=some (.tup [.str "none", .int (s0:Int),.ref lc])→Cns H' lc pic m n (wa++we) s0 (due (wa++we) s0) (due (wa++we) s0).length→Q (.ref p) H')
theorem Iv(T:Txt K mg t):BP P w K mg base CX0 4 t.Gv t.Gw ["picture", "warp", "weft"] (AcO K):=by
 refine T.Dc.F.ok BX (fun vs H Q E h=>?_) (fun cdv A outer s H vs Q E hr h=>?_)
 ·obtain⟨a,pic,m,n,wa,we,rfl,_⟩:=h
  rfl
 ·obtain⟨a,pic,m,n,wa,we,rfl,hS,C,hwa,hwe,ca,ce,k,kN⟩:=h
  have hsz:sizeLine=16777216:=sizeLine_eq
  have c2:=C.n40
  have c4:=C.m40
  have tl:(wa++we).length=m+n:=by rw[AkG,hwa,hwe]
  refine⟨_,(Ab (Al (i:=3) BX.nd rfl (Or.inl rfl) (Av ((FP T).mono (by decide)) hr rfl T.BW.m T.BW.F.kp T.BW.b .nil Bj (Aa (pv 0) Ac)))
   (Ab (Br (Av ((Jl T).mono (by decide)) hr rfl T.Bt.m T.Bt.F.kp T.Bt.b .nil Bj (Aa (pv 1) (Aa (Ai (Bl (K:=K)) (pv 3) Af (fun _ _=>rfl)) (Aa (Az Cp (Ei (v:=.str "abcdef") rfl T.HQ.choose_spec ⟨_,rfl⟩) Bg) Ac)))))
   (Ab (Br (Av ((Jl T).mono (by decide)) hr rfl T.Bt.m T.Bt.F.kp T.Bt.b .nil Bj (Aa (pv 2) (Aa (Ai (Bl (K:=K)) (pv 3) Af (fun _ _=>rfl)) (Aa (Az Cp (Ei (v:=.str "abcdef") rfl T.HQ.choose_spec ⟨_,rfl⟩) Bg) Ac)))))
   (Ab (Al (i:=4) BX.nd rfl (Or.inl rfl) (Az Cp (pv 1) (pv 2)))
   (Ab (Al (i:=5) BX.nd rfl (Or.inl rfl) (Av ((Rt T).mono (by decide)) hr rfl T.HJ.m T.HJ.F.kp T.HJ.b .nil Bj (Aa (pv 0) Ac)))
   (Ab (Al (i:=6) BX.nd rfl (Or.inr rfl) Acf)
   (Ab (Bo PassesOwn.never rfl (Be rfl T.Bs (Aa (Ah Ay rfl T.Bm Bc (Aa (pv 4) Ac)) Ac)) (Ba (i:=7) BX.nd rfl (Or.inl rfl))
    (Ad (Bh (Qi (Mh (HX hr) (pv 7) (pv 6)))
     (Ab (Al (i:=8) BX.nd rfl (Or.inl rfl) (Av ((Q9 T).mono (by decide)) hr rfl T.Hn.m T.Hn.F.kp T.Hn.b .nil Bj (Aa (pv 5) (Aa (pv 4) (Aa (pv 6) (Aa (pv 7) Ac))))))
     (Ad (Bh (Ag Rw (pv 8) Fz (Am _))
      (Ad (Aw (Gn (Aa Bg (Aa (pv 7) (Aa (pv 8) Ac))))))
      Aq)))
     Aq)))
   (Ab (Al (i:=9) BX.nd rfl (Or.inl rfl) (Ca (K:=K) PySem.F.plainAttrs_str PySem.F.slot_str_join PySem.F.type_str_join (J4 (K:=K)) Bg (Aa (Gp (Eb.mk (By:=[6]) (Nc:=["strand", "borne"]) rfl (by decide +kernel) (by decide +kernel) (Dy (sc0:=Aj Gu) rfl (by decide +kernel)) rfl rfl rfl (by decide +kernel) (fun k j h=>match k,h with | 0,h=>by obtain rfl:=Option.some.inj h;exact⟨_,rfl,rfl,rfl⟩ | _+1,h=>by simp at h)) rfl (Be rfl T.Bs (Aa (Ah Ay rfl T.Bm Bc (Aa (pv 4) Ac)) Ac)) (fun _ _ _ _ _=>.nil) (fun _ _ _ _ _=>(Rz (HX hr) (pv 1) (pv 0) (fun _ _=>rfl)))) Ac)))
   (Ad (Aw (Gn (Aa Bg (Aa (J3 VP (pv 9) LQ (LR (Ai (Bl (K:=K)) (pv 3) Af (fun _ _=>rfl)))) (Aa (J3 VP (pv 9) (LR (Ai (Bl (K:=K)) (pv 3) Af (fun _ _=>rfl))) LQ) Ac)))))))))))))),?_⟩
  refine⟨_,rfl,a,pic,m,n,rfl,hS,C,fun p hp=>?_⟩
  have s1:Ar H (upd H p (.tup [.int (m:Int),.int (n:Int)])):=.upd hp
  have hp1:(upd H p (.tup [.int (m:Int),.int (n:Int)])) p=some (.tup [.int (m:Int),.int (n:Int)]):=Ae
  generalize upd H p (.tup [.int (m:Int),.int (n:Int)])=H1 at s1 hp1 ⊢
  have l7:Str.length "abcdef" + Str.length "?" ≤ sizeLine:=by rw[show Str.length "abcdef" + Str.length "?" = 7 from by decide +kernel];omega
  refine⟨_,rfl,_,rfl,_,_,_,_,rfl,rfl,SqT.of hp1,Bb (by decide) rfl,_,_,rfl,rfl,l7,wa,(by rw[hwa];rfl),ca,(by omega),?_⟩
  refine⟨_,rfl,_,rfl,_,_,_,_,rfl,rfl,SqT.of hp1,Bb (by decide) rfl,_,_,rfl,rfl,l7,we,(by rw[hwe];rfl),ce,(by omega),?_⟩
  refine⟨_,rfl,_,rfl,_,_,rfl,rfl,(by rw[An,An];omega),?_⟩
  rw[GD]
  refine⟨_,rfl,a,pic,m,n,rfl,s1.seq hS,C,fun sa rs tt H2 s2 nsa S2=>?_⟩
  refine fun bd nbd=>?_
  have s3:Ar H2 (upd H2 bd (.dK [])):=.upd nbd
  have Aen:(upd H2 bd (.dK [])) bd=some (.dK (gK [])):=Ae
  have nbH:H bd=none:=(s1.trans s2).free nbd
  generalize upd H2 bd (.dK [])=H3 at s3 Aen ⊢
  have S3:=S2.same s3
  have u3:=(s1.trans s2).trans s3
  have hp3:=s3 _ _ (s2 _ _ hp1)
  have slt:(tx (wa++we)).length≤sizeLine:=by rw[An];omega
  refine⟨_,rfl,_,rfl,slt,_,rfl,(by omega),(by rw[An];omega),?_⟩
  rw[An,AkJ,tl]
  refine Bp (lo:=0) (n:=m+n) (fun i σ H4=>∃(b:List (Nat × Nat)) (v7 v8 v9:Option V),σ=[some (.ref a),some (.str (tx wa)),some (.str (tx we)),some (.ref p),some (.str (tx (wa++we))),some (.ref sa),some (.ref bd),v7,v8,v9]∧Kp bd H3 H4∧H4 bd=some (.dK (gK b))∧Bor pic m n (wa++we) b∧Lx pic m n (wa++we) b∧∀ v,v<i→b.lookup v≠none)
   ⟨[],none,none,none,rfl,.of (.refl _),Aen,⟨List.Pairwise.nil,fun p h=>absurd h (by simp),fun p h=>absurd h (by simp),fun p h=>absurd h (by simp),fun p h=>absurd h (by simp)⟩,fun O F s c h=>(by simp at h),fun v h=>(by omega)⟩ ?_ ?_
  ·rintro i σ H4 hi ⟨b,v7,v8,v9,rfl,k4,Ua,B,X,all⟩
   obtain⟨ob,dB,_,_,jB⟩:=ZF Ua i 0
   have dB:Hq H4 bd (.int (0+(i:Int))) ob:=by rw[Alk];exact dB
   refine⟨_,rfl,_,rfl,bd,_,rfl,dB,_,rfl,?_⟩
   rw[jB]
   cases e:b.lookup i with
   | none =>
    refine Jm ?_
    refine⟨_,rfl,_,rfl,_,rfl,_,rfl,sa,bd,rs,tt,pic,m,n,wa++we,b,i,(by rw[Alk] <;> rfl),S3.kp k4 Aen,C,tl,(fun c hc=>(List.mem_append.mp hc).elim (ca c) (ce c)),Ua,B,X,all,hi,e,fun H5 b' k5 Aj3 B' X' mono hb'=>?_,fun none lc H5 s5 N=>?_⟩
    ·refine⟨_,rfl,rfl,_,rfl,?_⟩
     refine CQ rfl ?_
     refine⟨b',_,_,_,rfl,fun x o ne ex=>k5 x o ne (k4 x o ne ex),Aj3,B',X',fun v hv=>?_⟩
     by_cases ev:v<i
     ·exact mono v (all v ev)
     ·have ev:v=i:=by omega
      rw[ev];exact hb'
    ·have keep:Ar H H5:=fun x o e=>s5 _ _ (k4 x o (BK e nbH) (u3 _ _ e))
     refine⟨_,rfl,rfl,_,rfl,?_⟩
     refine HY (fun z=>by cases z) ?_
     refine⟨_,rfl,_,rfl,(by show 3≤sizeLine;omega),fun tp ntp=>?_⟩
     rw[Alk]
     exact kN none tp lc i _ (keep.new ntp) hi Ae (N.same (.upd ntp))
   | some c =>
    refine Ci ?_
    refine⟨b,_,_,_,rfl,k4,Ua,B,X,fun v hv=>?_⟩
    by_cases ev:v<i
    ·exact all v ev
    ·have ev:v=i:=by omega
     rw[ev,e];exact fun z=>(by cases z)
  ·rintro σ H4 ⟨b,v7,v8,v9,rfl,k4,Ua,B,X,all⟩
   have keep:Ar H H4:=fun x o e=>k4 x o (BK e nbH) (u3 _ _ e)
   have hp4:H4 p=some (.tup [.int (m:Int),.int (n:Int)]):=k4 _ _ (fun e=>by rw[e,Aen] at hp3;cases hp3) hp3
   refine⟨rfl,_,rfl,_,rfl,slt,_,rfl,(by omega),(by rw[An];omega),?_⟩
   rw[An,AkJ,tl]
   refine EY (lo:=0) (n:=m+n) (fun j ys H5=>H5=H4∧ys=vS ((thr b j).map fun d=>[d])) ⟨rfl,rfl⟩ ?_ ?_ ?_ ?_
   ·rintro j ys H5 hj ⟨rfl,rfl⟩
    rw[Bq,AkE,R8]
    exact AkF _
   ·omega
   ·rintro j ys H5 hj ⟨rfl,rfl⟩
    refine Gh.no ?_
    obtain⟨c,hc⟩:∃ c,b.lookup j=some c:=by
     cases e:b.lookup j with
     | none=>exact absurd e (all j hj)
     | some c=>exact⟨c,rfl⟩
    have dg:Hq H5 bd (.int (0+(j:Int))) (some (.str ⟨#[c]⟩)):=by
     have:=Hq.k (k:=Sum.inl (j:Int)) Ua
     rw[TY,hc] at this
     rw[Alk]
     exact this
    refine⟨_,rfl,_,rfl,bd,_,rfl,dg,?_⟩
    refine CN.of hj ⟨rfl,?_⟩
    rw[AcN,hc,AkL,DP,Eu]
    rfl
   ·rintro ys H5 q ⟨rfl,rfl⟩ hq
    have thl:=R8 b (m+n)
    refine⟨_,_,(((thr b (m+n)).map fun d=>[d]).map tx),rfl,rfl,SqL.of (by rw[Ae,Kc]),?_,?_⟩
    ·have e1:=AaZ (fun d:Nat=>d) (thr b (m+n))
     rw[e1,AkE,AkE,thl]
     have:(m+n)*(Str.length "")=0:=by rw[show Str.length "" = 0 from by decide +kernel];omega
     omega
    ·rw[show(("" : Str))=tx [] from by decide +kernel,Ma]
     have e2:((thr b (m+n)).map fun d=>[d]).flatten=thr b (m+n):=(UW (fun d:Nat=>d) (thr b (m+n))).trans (List.map_id _)
     rw[e2]
     have s6:Ar H (upd H5 q (.lst (vS ((thr b (m+n)).map fun d=>[d])))):=keep.new hq
     have hp6:=(Ar.upd (o:=.lst (vS ((thr b (m+n)).map fun d=>[d]))) hq) _ _ hp4
     generalize upd H5 q (.lst (vS ((thr b (m+n)).map fun d=>[d])))=H6 at s6 hp6 ⊢
     have h40:(thr b (m+n)).length≤sizeLine:=by omega
     refine⟨_,rfl,_,rfl,_,_,_,_,rfl,rfl,SqT.of hp6,Bb (by decide) rfl,_,rfl,thr b (m+n),rfl,h40,_,rfl,_,rfl,_,_,_,_,rfl,rfl,SqT.of hp6,Bb (by decide) rfl,_,rfl,thr b (m+n),rfl,h40,(by show 3≤sizeLine;omega),fun tp ntp=>?_⟩
     rw[Zn (by omega),Y8 (by omega)]
     refine k tp _ _ _ (s6.new ntp) Ae (Ru.of B hwa hwe all) fun O F s hs hv=>?_
     rw[AlX] at hv ⊢
     obtain⟨c,hc⟩:∃ c,b.lookup s=some c:=by
      cases e:b.lookup s with
      | none=>exact absurd e (all s hs)
      | some c=>exact⟨c,rfl⟩
     rw[WD hs,hc]
     refine X O F s c hc fun v hv1 d hd=>?_
     rw[hv v hv1,WD (by omega),hd]
     rfl
end
def putp(u:List Nat)(e d:Nat):List Nat:=u.take e++[d]++u.drop (e+1)
def AkC (cl:List (List Nat))(p e d:Nat):List (List Nat):=cl.take p++[putp (cl.getD p []) e d]++cl.drop (p+1)
def gc (a:List (List Nat))(j k:Nat):Nat:=(a.getD j []).getD k 0
theorem Aeo{u v:List Nat}{m:Nat}(hu:u.length=m)(hv:v.length=m)(h:∀ k,k<m→u.getD k 0=v.getD k 0):u=v:=by
 refine List.ext_getElem (by omega) fun i h1 h2=>?_
 have:=h i (by omega)
 simpa [List.getD,h1,h2] using this
theorem My{u:List Nat}{c:Nat}:c∈u↔∃ k,k<u.length∧u.getD k 0=c:=by
 constructor
 ·intro h
  obtain⟨k,hk,e⟩:=List.mem_iff_getElem.mp h
  exact⟨k,hk,by rw[← e];simp[List.getD,hk]⟩
 ·rintro⟨k,hk,e⟩
  rw[← e,show u.getD k 0=u[k] by simp[List.getD,hk]]
  exact AkN hk
theorem Mz{a:List (List Nat)}{r:List Nat}:r∈a↔∃ j,j<a.length∧a.getD j []=r:=by
 constructor
 ·intro h
  obtain⟨k,hk,e⟩:=List.mem_iff_getElem.mp h
  exact⟨k,hk,by rw[← e];simp[List.getD,hk]⟩
 ·rintro⟨k,hk,e⟩
  rw[← e,show a.getD k []=a[k] by simp[List.getD,hk]]
  exact AkN hk
theorem Rct.row{a:List (List Nat)}{m n j:Nat}(A:Rct a m n)(h:j<n):(a.getD j []).length=m:=(A.at h).2.1
section
variable {cl dl:List (List Nat)}{m n:Nat}{wa we:List Nat}
theorem Cl.rct(C:Cl cl m n):Rct cl m n:=⟨C.hn,C.hm⟩
theorem Pic.rct(C:Pic cl m n):Rct cl m n:=⟨C.hn,C.hm⟩
theorem AcP(R:Rct cl m n):Rct (Ow cl wa we) m n:=⟨by rw[Ox];exact R.1,fun t ht=>by
 obtain⟨j,hj,e⟩:=Mz.mp ht
 rw[Ox] at hj
 rw[← e,Q5 hj,Ve]
 exact R.row (by rw[← R.1];exact hj)⟩
theorem Aep(R:Rct cl m n){j k:Nat}(hj:j<n)(hk:k<m):gc (Ow cl wa we) j k=if gc cl j k=35 then wa.getD k 0 else we.getD j 0:=by
 unfold gc
 rw[Q5 (by rw[R.1];exact hj),Vf (by rw[R.row hj];exact hk)]
theorem Vm(R:Rct cl m n):Rct (DR cl wa we) m n:=⟨by rw[JB];exact R.1,fun t ht=>by
 obtain⟨j,hj,e⟩:=Mz.mp ht
 rw[JB] at hj
 rw[← e,NT hj,Ml]
 exact R.row (by rw[← R.1];exact hj)⟩
theorem Y9(R:Rct cl m n){j k:Nat}(hj:j<n)(hk:k<m):gc (DR cl wa we) j k=hs (gc cl j k) (wa.getD k 0) (we.getD j 0):=by
 unfold gc
 rw[NT (by rw[R.1];exact hj),Vg (by rw[R.row hj];exact hk)]
theorem Aay{Pr:Nat→Prop}(R:Rct cl m n):(∀ t∈cl,∀ c∈t,Pr c)↔∀ j,j<n→∀ k,k<m→Pr (gc cl j k):=by
 constructor
 ·intro h j hj k hk
  have hl:j<cl.length:=by rw[R.1];exact hj
  refine h _ (Mz.mpr ⟨j,hl,rfl⟩) _ (My.mpr ⟨k,?_,rfl⟩)
  rw[R.row hj];exact hk
 ·intro h t ht c hc
  obtain⟨j,hj,e⟩:=Mz.mp ht
  obtain⟨k,hk,e2⟩:=My.mp hc
  have hjn:j<n:=by rw[← R.1];exact hj
  have:k<m:=by rw[← e,R.row hjn] at hk;exact hk
  have z:=h j hjn k this
  unfold gc at z
  rw[e,e2] at z
  exact z
theorem Aaz{u:List Nat}(h:∀ c∈u,Co c){k:Nat}(hk:k<u.length):Co (u.getD k 0):=h _ (My.mpr ⟨k,hk,rfl⟩)
theorem AcQ(C:Cl cl m n)(lwa:wa.length=m)(lwe:we.length=n)(ca:∀ c∈wa,Co c)(ce:∀ c∈we,Co c):Pic (Ow cl wa we) m n:=by
 have R:=AcP (wa:=wa) (we:=we) C.rct
 refine⟨R.1,R.2,(Aay R).mpr fun j hj k hk=>?_,C.m1,C.m40,C.n1,C.n40⟩
 rw[Aep C.rct hj hk]
 split
 ·exact Aaz ca (by omega)
 ·exact Aaz ce (by omega)
def Wv (pc:List (List Nat))(wa we:List Nat)(m n p:Nat):Prop:=∀ j,j<n→j≠p→∀ k,k<m→gc pc j k=wa.getD k 0∨gc pc j k=we.getD j 0
section
variable {pc sg:List (List Nat)}
end
end
theorem CG{i:Nat}{v:V}{σ σ':St}{H:Hp}{Kt:St→Hp→Prop}(h:σ.set i (some v)=σ')(k:Kt σ' H):M5 i v σ H Kt:=by subst h;exact k
section
variable {P:Program}{w:World}{K:PySem.W.Frag}{mg:Str→Option Value}{base:Heap}{t:Adr}
def AcR (K:PySem.W.Frag):Sp:=fun vs H Q _=>∃(a:Addr) (ks:List Int) (m n s:Nat) (wa we:List Nat),vs=[.ref a,.int (m:Int),.int (n:Int),.int (s:Int),.str (tx wa),.str (tx we)]∧SqL K H a (vI ks)∧Num ks 63∧1≤m∧m≤40∧1≤n∧n≤40∧1≤s∧s≤6∧wa.length=m∧we.length=n∧(∀ c∈wa,Co c)∧(∀ c∈we,Co c) ∧
 ∀(l:Addr) (pc:List (List Nat)) (H':Hp),Ar H H'→H l=none→H' l=some (.lst (vS pc))→Pic pc m n→Q (.ref l) H'
theorem Ub(T:Txt K mg t):BP P w K mg base CX0 2 t.Jx t.Jy ["numbers", "wide", "high", "span", "warp", "weft"] (AcR K):=by
 refine T.Jk.F.ok Ck (fun vs H Q E h=>?_) (fun cdv A outer s H vs Q E hr h=>?_)
 ·obtain⟨a,ks,m,n,s,wa,we,rfl,_⟩:=h
  rfl
 ·obtain⟨a,ks,m,n,s,wa,we,rfl,hS,hN,m1,m40,n1,n40,s1,s6,hwa,hwe,ca,ce,k⟩:=h
  have hsz:sizeLine=16777216:=sizeLine_eq
  obtain⟨c3,e3,_⟩:=hN.at (i:=3) (by decide) (by decide)
  refine⟨_,(Ab (Al (i:=6) Ck.nd rfl (Or.inl rfl) (Av ((W0 T).mono (by decide)) hr rfl T.Mw.m T.Mw.F.kp T.Mw.b .nil Bj (Aa (Av ((Yz T).mono (by decide)) hr rfl T.P0.m T.P0.F.kp T.P0.b .nil Bj (Aa (pv 0) (Aa (pv 1) (Aa (pv 2) Ac)))) (Aa (pv 4) (Aa (pv 5) Ac)))))
   (Ab (Al (i:=7) Ck.nd rfl (Or.inl rfl) (CW Ac))
   (Ab (Bo PassesOwn.never rfl (Be rfl T.Bs (Aa (pv 2) Ac)) (Ba (i:=8) Ck.nd rfl (Or.inl rfl))
    (Ab (Al (i:=9) Ck.nd rfl (Or.inl rfl) Bg)
    (Ab (Bo PassesOwn.never rfl (Be rfl T.Bs (Aa (pv 1) Ac)) (Ba (i:=10) Ck.nd rfl (Or.inl rfl))
     (Ab (Al (i:=11) Ck.nd rfl (Or.inl rfl) (Ai (Ao (K:=K)) (pv 0) (Az Cj Af (Az CJ (Az Cj (Az Cj (Az HS Af (pv 10)) (Az HS Af (pv 8))) (Az HS (pv 8) (pv 10))) Af)) (fun _ _=>rfl)))
     (Ab (Al (i:=12) Ck.nd rfl (Or.inl rfl) (Ai Bu (Ai (Ao (K:=K)) (pv 6) (pv 8) (fun _ _=>rfl)) (pv 10) (fun _ _=>rfl)))
     (Ab (Bh (PW.pt (pw_or (Ag Cz (Az CJ (Ai (Ao (K:=K)) (pv 0) Af (fun _ _=>rfl)) Af) Af (Am _)) (pw_or1 (PW.pt (pw_and (Ag Cz (Az CJ (Ai (Ao (K:=K)) (pv 0) Af (fun _ _=>rfl)) Af) Af (Am _)) (pw_and1 (Ag Cz (Az CJ (Az Hd (pv 11) Af) (Az HS (pv 1) (pv 2))) Af (Am _))))))))
      (Ad (Al (i:=12) Ck.nd rfl (Or.inl rfl) (Ai Bu Bg (Az CJ (Az Hd (pv 11) Af) (pv 3)) (fun _ _=>rfl))))
      Aq)
     (Ad (Al (i:=9) Ck.nd rfl (Or.inl rfl) (Az Cp (pv 9) (pv 12))))))))
    (Ad (Br (Ca (K:=K) PySem.F.plainAttrs_list PySem.F.slot_list_append PySem.F.type_list_append BL (pv 7) (Aa (pv 9) Ac)))))))
   (Ad (Aw (pv 7)))))),?_⟩
  refine⟨_,rfl,_,rfl,_,rfl,a,ks,m,n,rfl,hS,hN,m1,m40,n1,n40,fun lg cl H2 s2 nlg hlg C=>?_⟩
  refine⟨_,rfl,_,rfl,lg,cl,m,n,wa,we,rfl,SqL.of hlg,C.rct,m40,n40,hwa,hwe,fun lr H3 s3 hr3=>?_⟩
  have Pc:=AcQ C hwa hwe ca ce
  have R:=Pc.rct
  have u3:=s2.trans s3
  refine⟨AkP _,fun q nq=>?_⟩
  have nqH:=u3.free nq
  have s4:Ar H3 (upd H3 q (.lst [])):=.upd nq
  have hq4:(upd H3 q (.lst [])) q=some (.lst (vS [])):=Ae
  generalize upd H3 q (.lst [])=H4 at s4 hq4 ⊢
  refine⟨_,rfl,_,rfl,(by omega),(by omega),?_⟩
  rw[AkJ]
  refine Bp (lo:=0) (n:=n) (fun i σ H5=>∃(pc:List (List Nat)) (v8 v9 v10 v11 v12:Option V),σ=[some (.ref a),some (.int (m:Int)),some (.int (n:Int)),some (.int (s:Int)),some (.str (tx wa)),some (.str (tx we)),some (.ref lr),some (.ref q),v8,v9,v10,v11,v12]∧Ar H3 H5∧H5 q=some (.lst (vS pc))∧pc.length=i∧(∀ t∈pc,t.length=m)∧∀ t∈pc,∀ c∈t,Co c)
   ⟨[],none,none,none,none,none,rfl,s4,hq4,rfl,fun t h=>absurd h (by simp),fun t h=>absurd h (by simp)⟩ ?_ ?_
  ·rintro i σ H5 hi ⟨pc,v8,v9,v10,v11,v12,rfl,s5,hq5,pl,pm,pco⟩
   have gS:=(u3.trans s5).seq hS
   obtain⟨_,li,ai⟩:=R.at hi
   have sl:(tx ((Ow cl wa we).getD i [])).length≤sizeLine:=by rw[An,li];omega
   refine⟨_,rfl,_,rfl,(by omega),(by omega),?_⟩
   rw[AkJ]
   refine Bp (lo:=0) (n:=m) (fun j σ H6=>∃(r:List Nat) (v10 v11 v12:Option V),σ=[some (.ref a),some (.int (m:Int)),some (.int (n:Int)),some (.int (s:Int)),some (.str (tx wa)),some (.str (tx we)),some (.ref lr),some (.ref q),some (.int (0+(i:Int))),some (.str (tx r)),v10,v11,v12]∧H6=H5∧r.length=j∧∀ c∈r,Co c)
    ⟨[],v10,v11,v12,by rw[show(("" : Str))=tx [] from by decide +kernel];rfl,rfl,rfl,fun c h=>absurd h (by simp)⟩ ?_ ?_
   ·rintro j σ H6 hj ⟨r,v10,v11,v12,rfl,rfl,rl,rco⟩
    obtain⟨y,ey⟩:∃ y:Int,y=5*(0+(j:Int))+11*(0+(i:Int))+(0+(i:Int))*(0+(j:Int)):=⟨_,rfl⟩
    have b1:=Alr y (show(55:Int)≠0 by decide)
    have b2:=Als y (show(0:Int)<55 by decide)
    obtain⟨z,ez,z0,_⟩:=hN.at (i:=8+y%55) (by omega) (by omega)
    subst ey
    have b3:=Alr (z / 5) (show(s:Int)≠0 by omega)
    have b4:=Als (z / 5) (show(0:Int)<(s:Int) by omega)
    obtain⟨cc,ec,hcc⟩:=Z8 b3 (by omega)
    have mn:(0:Int)<(m:Int)*(n:Int):=Int.mul_pos (by omega) (by omega)
    have co0:Co (((Ow cl wa we).getD i []).getD j 0):=(Aay R).mp Pc.co i hi j hj
    refine⟨_,rfl,_,rfl,_,_,rfl,rfl,.inl ⟨by decide,by decide⟩,_,rfl,_,_,rfl,rfl,.inl ⟨by decide,by decide⟩,_,_,rfl,rfl,_,rfl,_,rfl,_,_,rfl,rfl,.inl ⟨by omega,by omega⟩,_,_,rfl,rfl,_,_,rfl,rfl,(by show(0:Int)<55;decide),_,_,rfl,rfl,_,_,_,_,rfl,rfl,gS,ez,?_⟩
    refine⟨_,rfl,_,rfl,_,_,_,_,rfl,rfl,SqL.of (s5 _ _ hr3),ai,_,rfl,_,_,_,rfl,rfl,sl,G4 (by omega),?_⟩
    refine CG (σ':=[some (.ref a),some (.int (m:Int)),some (.int (n:Int)),some (.int (s:Int)),some (.str (tx wa)),some (.str (tx we)),some (.ref lr),some (.ref q),some (.int (0+(i:Int))),some (.str (tx r)),some (.int (0+(j:Int))),some (.int z),some (.str ⟨#[((Ow cl wa we).getD i []).getD j 0]⟩)]) rfl ?_
    apply PQ (fun d=>Co d)
    ·intro rest
     obtain⟨x,ex⟩:∃ x,x=((Ow cl wa we).getD i []).getD j 0:=⟨_,rfl⟩
     rw[← ex] at co0 ⊢
     obtain⟨d,ed⟩:∃ d,d=cc:=⟨_,rfl⟩
     rw[← ed] at ec hcc
     refine⟨_,rfl,_,_,_,_,rfl,rfl,gS,e3,_,_,rfl,rfl,(by show(0:Int)<4;decide),rfl,_,rfl,?_⟩
     refine Dg ?tt ?ff
     case ff =>
      intro h
      refine⟨_,rfl,_,_,_,_,rfl,rfl,gS,e3,_,_,rfl,rfl,(by show(0:Int)<4;decide),rfl,_,rfl,?_⟩
      refine Dg ?t2 ?f2
      case f2 =>
       intro h2
       refine Ci ?_
       exact rest x co0
      case t2 =>
       intro h2
       refine⟨_,rfl,_,_,rfl,rfl,⟨by decide,by decide⟩,_,rfl,_,rfl,_,_,rfl,rfl,.inl ⟨?_,?_⟩,_,_,rfl,rfl,mn,rfl,_,rfl,?_⟩
       ·clear rest;omega
       ·clear rest;omega
       refine Dg (fun h3=>?_) (fun h3=>?_)
       ·refine⟨_,rfl,_,_,rfl,rfl,⟨by decide,by decide⟩,_,rfl,_,_,rfl,rfl,?_,_,_,_,rfl,rfl,(by decide +kernel),ec,?_⟩
        ·clear rest;show(0:Int)<(s:Int);omega
        refine CG (σ':=[some (.ref a),some (.int (m:Int)),some (.int (n:Int)),some (.int (s:Int)),some (.str (tx wa)),some (.str (tx we)),some (.ref lr),some (.ref q),some (.int (0+(i:Int))),some (.str (tx r)),some (.int (0+(j:Int))),some (.int z),some (.str ⟨#[d]⟩)]) rfl ?_
        exact rest d hcc
       ·exact rest x co0
     case tt =>
      intro h
      refine Jm ?_
      refine⟨_,rfl,_,_,rfl,rfl,⟨by decide,by decide⟩,_,rfl,_,_,rfl,rfl,?_,_,_,_,rfl,rfl,(by decide +kernel),ec,?_⟩
      ·clear rest;show(0:Int)<(s:Int);omega
      refine CG (σ':=[some (.ref a),some (.int (m:Int)),some (.int (n:Int)),some (.int (s:Int)),some (.str (tx wa)),some (.str (tx we)),some (.ref lr),some (.ref q),some (.int (0+(i:Int))),some (.str (tx r)),some (.int (0+(j:Int))),some (.int z),some (.str ⟨#[d]⟩)]) rfl ?_
      exact rest d hcc
    rintro d hd
    refine⟨_,rfl,_,rfl,_,_,rfl,rfl,(by rw[DP,An,An];show r.length+1≤sizeLine;omega),?_⟩
    rw[DP,GD]
    refine⟨r++[d],_,_,_,rfl,rfl,by rw[AkG,rl];rfl,fun c hc=>?_⟩
    rcases List.mem_append.mp hc with h | h
    ·exact rco c h
    ·rw[List.mem_singleton.mp h];exact hd
   ·rintro σ H6 ⟨r,v10,v11,v12,rfl,rfl,rl,rco⟩
    refine⟨_,rfl,.inl ⟨rfl,_,SqL.of hq5⟩,_,rfl,_,_,_,rfl,rfl,hq5,(by rw[Bq];omega),?_⟩
    rw[Eu]
    refine⟨pc++[r],_,_,_,_,_,rfl,s5.over nq,Ae,by rw[AkG,pl];rfl,fun t ht=>?_,fun t ht=>?_⟩
    ·rcases List.mem_append.mp ht with h | h
     ·exact pm t h
     ·rw[List.mem_singleton.mp h];exact rl
    ·rcases List.mem_append.mp ht with h | h
     ·exact pco t h
     ·rw[List.mem_singleton.mp h];exact rco
  ·rintro σ H5 ⟨pc,v8,v9,v10,v11,v12,rfl,s5,hq5,pl,pm,pco⟩
   exact⟨_,rfl,k q pc H5 (u3.trans s5) nqH hq5 ⟨pl,pm,pco,m1,m40,n1,n40⟩⟩
def Aeq (K:PySem.W.Frag):Sp:=fun vs H Q _=>∃(a:Addr) (ks:List Int) (u:List Nat) (f s:Nat) (wy:Int),vs=[.str (tx u),.ref a,.int (f:Int),.int wy,.int (s:Int)]∧SqL K H a (vI ks)∧Num ks 63∧u.length≤40∧1≤s∧s≤6∧(∀ c∈u,Co c) ∧
 ∀ r:List Nat,r.length=u.length→(∀ c∈r,Co c∨c=63)→Q (.str (tx r)) H
theorem YB(T:Txt K mg t):BP P w K mg base CX0 1 t.N8 t.NB ["threads", "numbers", "first", "way", "span"] (Aeq K):=by
 refine T.Iu.F.ok Eh (fun vs H Q E h=>?_) (fun cdv A outer s H vs Q E hr h=>?_)
 ·obtain⟨a,ks,u,f,s,wy,rfl,_⟩:=h
  rfl
 ·obtain⟨a,ks,u,f,s,wy,rfl,hS,hN,hu,s1,s6,uco,k⟩:=h
  have hsz:sizeLine=16777216:=sizeLine_eq
  have sl:(tx u).length≤sizeLine:=by rw[An];omega
  refine⟨_,(Ab (Al (i:=5) Eh.nd rfl (Or.inl rfl) Bg)
   (Ab (Bo PassesOwn.never rfl (Be rfl T.Bs (Aa (Ah Ay rfl T.Bm Bc (Aa (pv 0) Ac)) Ac)) (Ba (i:=6) Eh.nd rfl (Or.inl rfl))
    (Ab (Al (i:=7) Eh.nd rfl (Or.inl rfl) (Az Hd (Ai (Ao (K:=K)) (pv 1) (Az Cj Af (Az CJ (Az Cj (pv 2) (Az HS Af (pv 6))) Af)) (fun _ _=>rfl)) Af))
    (Ab (Al (i:=8) Eh.nd rfl (Or.inl rfl) (Ai Bu (pv 0) (pv 6) (fun _ _=>rfl)))
    (Ab (Bh (PW.pt (pw_or (Ag Cz (pv 3) Af (Am _)) (pw_or1 (PW.pt (pw_and (Ag Em (pv 3) Af (Am _)) (pw_and1 (Ag M6 (Az CJ (pv 7) Af) Af (Am _))))))))
     (Ad (Al (i:=8) Eh.nd rfl (Or.inl rfl) Bg))
     Aq)
    (Ab (Bh (PW.pt (pw_and (Ag Cz (pv 3) Af (Am _)) (pw_and1 (Ag Cz (Az CJ (Az Hd (pv 7) Af) Af) Af (Am _)))))
     (Ad (Al (i:=8) Eh.nd rfl (Or.inl rfl) (Ai Bu Bg (Az CJ (Az Hd (pv 7) Af) (pv 4)) (fun _ _=>rfl))))
     Aq)
    (Ad (Al (i:=5) Eh.nd rfl (Or.inl rfl) (Az Cp (pv 5) (pv 8)))))))))
   (Ad (Aw (pv 5))))),?_⟩
  refine⟨_,rfl,_,rfl,sl,_,rfl,(by omega),(by rw[An];omega),?_⟩
  rw[An,AkJ]
  refine Bp (lo:=0) (n:=u.length) (fun i σ H2=>∃(r:List Nat) (v6 v7 v8:Option V),σ=[some (.str (tx u)),some (.ref a),some (.int (f:Int)),some (.int wy),some (.int (s:Int)),some (.str (tx r)),v6,v7,v8]∧H2=H∧r.length=i∧∀ c∈r,Co c∨c=63)
   ⟨[],none,none,none,by rw[show(("" : Str))=tx [] from by decide +kernel];rfl,rfl,rfl,fun c h=>absurd h (by simp)⟩ ?_ ?_
  ·rintro i σ H2 hi ⟨r,v6,v7,v8,rfl,rfl,rl,rp⟩
   obtain⟨y,ey⟩:∃ y:Int,y=(f:Int)+3*(0+(i:Int)):=⟨_,rfl⟩
   have b1:=Alr y (show(55:Int)≠0 by decide)
   have b2:=Als y (show(0:Int)<55 by decide)
   obtain⟨z,ez,_⟩:=hN.at (i:=8+y%55) (by omega) (by omega)
   subst ey
   refine⟨_,rfl,_,rfl,_,rfl,_,_,rfl,rfl,.inl ⟨by decide,by decide⟩,_,_,rfl,rfl,_,_,rfl,rfl,(by show(0:Int)<55;decide),_,_,rfl,rfl,_,_,_,_,rfl,rfl,hS,ez,_,_,rfl,rfl,⟨by decide,by decide⟩,?_⟩
   refine⟨_,rfl,_,rfl,_,_,_,rfl,rfl,sl,G4 hi,?_⟩
   obtain⟨nb,enb⟩:∃ nb:Int,nb=z / 7:=⟨_,rfl⟩
   have b3:=Alr (nb / 24) (show(s:Int)≠0 by omega)
   have b4:=Als (nb / 24) (show(0:Int)<(s:Int) by omega)
   obtain⟨cc,ec,hcc⟩:=Z8 b3 (by omega)
   dsimp only
   rw[← enb]
   refine CG (σ':=[some (.str (tx u)),some (.ref a),some (.int (f:Int)),some (.int wy),some (.int (s:Int)),some (.str (tx r)),some (.int (0+(i:Int))),some (.int nb),some (.str ⟨#[u.getD i 0]⟩)]) rfl ?_
   have ui:Co (u.getD i 0):=uco _ (My.mpr ⟨i,hi,rfl⟩)
   apply PQ (fun d=>Co d∨d=63)
   ·intro rest
    obtain⟨x,ex⟩:∃ x,x=u.getD i 0:=⟨_,rfl⟩
    rw[← ex] at ui ⊢
    refine⟨_,rfl,rfl,_,rfl,?_⟩
    refine Dg ?tt ?ff
    case ff =>
     intro h
     refine⟨_,rfl,_,_,rfl,rfl,_,rfl,?_⟩
     refine Dg ?t2 ?f2
     case f2 =>
      intro h2
      refine Ci ?_
      exact rest x (.inl ui)
     case t2 =>
      intro h2
      refine⟨_,rfl,_,_,rfl,rfl,(by show(0:Int)<3;decide),_,_,rfl,rfl,_,rfl,?_⟩
      refine Dg (fun h3=>?_) (fun h3=>?_)
      ·rw[v63]
       refine CG (σ':=[some (.str (tx u)),some (.ref a),some (.int (f:Int)),some (.int wy),some (.int (s:Int)),some (.str (tx r)),some (.int (0+(i:Int))),some (.int nb),some (.str ⟨#[63]⟩)]) rfl ?_
       exact rest 63 (.inr rfl)
      ·exact rest x (.inl ui)
    case tt =>
     intro h
     refine Jm ?_
     rw[v63]
     refine CG (σ':=[some (.str (tx u)),some (.ref a),some (.int (f:Int)),some (.int wy),some (.int (s:Int)),some (.str (tx r)),some (.int (0+(i:Int))),some (.int nb),some (.str ⟨#[63]⟩)]) rfl ?_
     exact rest 63 (.inr rfl)
   rintro d hd
   apply PQ (fun d=>Co d∨d=63)
   ·intro rest
    obtain⟨x,ex⟩:∃ x,x=d:=⟨_,rfl⟩
    rw[← ex] at hd ⊢
    obtain⟨d2,ed2⟩:∃ d,d=cc:=⟨_,rfl⟩
    rw[← ed2] at ec hcc
    refine⟨_,rfl,rfl,_,rfl,?_⟩
    refine Dg ?t2 ?f2
    case f2 =>
     intro h
     refine Ci ?_
     exact rest x hd
    case t2 =>
     intro h
     refine⟨_,rfl,_,_,rfl,rfl,⟨by decide,by decide⟩,_,_,rfl,rfl,(by show(0:Int)<8;decide),rfl,_,rfl,?_⟩
     refine Dg (fun h3=>?_) (fun h3=>?_)
     ·refine⟨_,rfl,_,_,rfl,rfl,⟨by decide,by decide⟩,_,rfl,_,_,rfl,rfl,?_,_,_,_,rfl,rfl,(by decide +kernel),ec,?_⟩
      ·clear rest;show(0:Int)<(s:Int);omega
      refine CG (σ':=[some (.str (tx u)),some (.ref a),some (.int (f:Int)),some (.int wy),some (.int (s:Int)),some (.str (tx r)),some (.int (0+(i:Int))),some (.int nb),some (.str ⟨#[d2]⟩)]) rfl ?_
      exact rest d2 (.inl hcc)
     ·exact rest x hd
   rintro d hd
   refine⟨_,rfl,_,rfl,_,_,rfl,rfl,(by rw[DP,An,An];show r.length+1≤sizeLine;omega),?_⟩
   rw[DP,GD]
   refine⟨r++[d],_,_,_,rfl,rfl,by rw[AkG,rl];rfl,fun c hc=>?_⟩
   rcases List.mem_append.mp hc with h | h
   ·exact rp c h
   ·rw[List.mem_singleton.mp h];exact hd
  ·rintro σ H2 ⟨r,v6,v7,v8,rfl,rfl,rl,rp⟩
   exact⟨_,rfl,k r rl rp⟩
def AcS:Sp:=fun vs H Q _=>∃ z:Int,vs=[.int z]∧Q (.bl true) H
theorem DY(T:Txt K mg t):BP P w K mg base CX0 1 t.Im t.Io ["found"] AcS:=by
 refine T.Bv.F.ok M4 (fun vs H Q E h=>?_) (fun cdv A outer s H vs Q E hr h=>?_)
 ·obtain⟨z,rfl,_⟩:=h
  rfl
 ·obtain⟨z,rfl,k⟩:=h
  refine⟨_,(Ad (Aw (YX (Ah (Dk (K:=K)) rfl T.Cd BV (Aa (pv 0) (Aa (FW (v:=.ty "int") rfl T.Aav VL rfl) Ac))) (YW (AbG (Ah (Dk (K:=K)) rfl T.Cd BV (Aa (pv 0) (Aa (FW (v:=.ty "bool") rfl T.AfY AdB rfl) Ac)))))))),?_⟩
  refine⟨_,rfl,_,_,true,.int _,.inl ⟨_,rfl,Eo K _⟩,_,rfl,?_⟩
  refine Jm ?_
  exact⟨_,rfl,_,_,false,.int _,.inl ⟨_,rfl,Af8 K⟩,_,rfl,k⟩
def Aer (K:PySem.W.Frag):Sp:=fun vs H Q _=>∃(a:Addr) (pic:List (List Nat)) (m n v w:Nat),vs=[.ref a,.int (m:Int),.int (v:Int),.int (w:Int)]∧SqL K H a (vS pic)∧Pic pic m n∧v<m+n∧w<m+n∧Bip m v w∧Q (.str ⟨#[crs pic m v w]⟩) H
theorem YC(T:Txt K mg t):BP P w K mg base CX0 1 t.TF t.TJ ["picture", "wide", "one", "other"] (Aer K):=by
 refine T.PB.F.ok Yn (fun vs H Q E h=>?_) (fun cdv A outer s H vs Q E hr h=>?_)
 ·obtain⟨a,pic,m,n,v,w,rfl,_⟩:=h
  rfl
 ·obtain⟨a,pic,m,n,v,w,rfl,hS,C,hv,hw,bp,k⟩:=h
  have hsz:sizeLine=16777216:=sizeLine_eq
  have R:=C.rct
  have c4:=C.m40
  have row:∀ i,i<n→atI (vS pic) (((m+i:Nat):Int)-(m:Int))=some (.str (tx (pic.getD i [])))∧(pic.getD i []).length=m:=fun i hi=>by
   obtain⟨_,li,ai⟩:=R.at hi
   rw[show((m+i:Nat):Int)-(m:Int)=0+(i:Int) by omega]
   exact⟨ai,li⟩
  refine⟨_,(Ab (Bh (Ag Cz (Gm Em (pv 2) (pv 1) (Am _)) (Gm Em (pv 3) (pv 1) (Am _)) (Am _))
    (Ad (Aw Bg))
    Aq)
   (Ab (Bh (Ag Em (pv 2) (pv 1) (Am _))
    (Ad (Aw (Ai Bu (Ai (Ao (K:=K)) (pv 0) (Az Vz (pv 3) (pv 1)) (fun _ _=>rfl)) (pv 2) (fun _ _=>rfl))))
    Aq)
   (Ad (Aw (Ai Bu (Ai (Ao (K:=K)) (pv 0) (Az Vz (pv 2) (pv 1)) (fun _ _=>rfl)) (pv 3) (fun _ _=>rfl)))))),?_⟩
  refine⟨_,rfl,_,rfl,_,_,rfl,rfl,_,rfl,_,rfl,_,_,rfl,rfl,rfl,_,rfl,?_⟩
  have ne:¬(V.bl (decide ((v:Int)<(m:Int)))=V.bl (decide ((w:Int)<(m:Int)))):=fun z=>by
   have z:=V.bl.inj z
   rcases bp with ⟨h1,h2⟩ | ⟨h1,h2⟩
   ·rw[decide_eq_true (show(v:Int)<(m:Int) by omega),decide_eq_false (show ¬(w:Int)<(m:Int) by omega)] at z;cases z
   ·rw[decide_eq_false (show ¬(v:Int)<(m:Int) by omega),decide_eq_true (show(w:Int)<(m:Int) by omega)] at z;cases z
  refine Cv ne ?_
  refine⟨_,rfl,_,rfl,_,_,rfl,rfl,_,rfl,?_⟩
  rcases bp with ⟨h1,h2⟩ | ⟨h1,h2⟩
  ·obtain⟨i,rfl⟩:∃ i,w=m+i:=⟨w-m,by omega⟩
   obtain⟨ai,li⟩:=row i (by omega)
   refine Gi (by omega) ?_
   have e:crs pic m v (m+i)=(pic.getD i []).getD v 0:=by unfold crs;rw[if_pos h1,show m+i-m=i by omega]
   rw[e] at k
   exact⟨_,rfl,_,rfl,_,rfl,_,_,rfl,rfl,_,_,_,_,rfl,rfl,hS,ai,_,rfl,_,_,_,rfl,rfl,(by rw[An,li];omega),Q7 (by omega),k⟩
  ·obtain⟨i,rfl⟩:∃ i,v=m+i:=⟨v-m,by omega⟩
   obtain⟨ai,li⟩:=row i (by omega)
   refine Cv (by omega) ?_
   have e:crs pic m (m+i) w=(pic.getD i []).getD w 0:=by unfold crs;rw[if_neg (by omega),show m+i-m=i by omega]
   rw[e] at k
   exact⟨_,rfl,_,rfl,_,rfl,_,_,rfl,rfl,_,_,_,_,rfl,rfl,hS,ai,_,rfl,_,_,_,rfl,rfl,(by rw[An,li];omega),Q7 (by omega),k⟩
theorem Ru.at{pic:List (List Nat)}{m n:Nat}{wa we ua ue:List Nat}(F:Ru pic m n wa we ua ue)(hwa:wa.length=m)(hwe:we.length=n){v:Nat}(hv:v<m+n) :
  Co ((ua++ue).getD v 0)∧((wa++we).getD v 0=63∨(wa++we).getD v 0=(ua++ue).getD v 0):=by
 have hla:=F.la
 by_cases h:v<m
 ·rw[show(ua++ue).getD v 0=ua.getD v 0 by rw[AkH,AkR (by omega),← AkH],show(wa++we).getD v 0=wa.getD v 0 by rw[AkH,AkR (by omega),← AkH]]
  exact F.ca v h
 ·rw[show(ua++ue).getD v 0=ue.getD (v-m) 0 by rw[AkH,AkY (by omega),hla,← AkH],show(wa++we).getD v 0=we.getD (v-m) 0 by rw[AkH,AkY (by omega),hwa,← AkH]]
  exact F.ce (v-m) (by omega)
def Aes (K:PySem.W.Frag):Sp:=fun vs H Q _=>∃(a:Addr) (pic:List (List Nat)) (m n:Nat) (wa we ua ue:List Nat),vs=[.ref a,.str (tx (wa++we)),.str (tx ua),.str (tx ue)]∧SqL K H a (vS pic)∧Pic pic m n∧wa.length=m∧we.length=n∧Ru pic m n wa we ua ue∧Q (.bl true) H
theorem YD(T:Txt K mg t):BP P w K mg base CX0 1 t.NK t.NP ["picture", "told", "warp", "weft"] (Aes K):=by
 refine T.PJ.F.ok Hs (fun vs H Q E h=>?_) (fun cdv A outer s H vs Q E hr h=>?_)
 ·obtain⟨a,pic,m,n,wa,we,ua,ue,rfl,_⟩:=h
  rfl
 ·obtain⟨a,pic,m,n,wa,we,ua,ue,rfl,hS,C,hwa,hwe,F,k⟩:=h
  have hsz:sizeLine=16777216:=sizeLine_eq
  have c2:=C.n40
  have c4:=C.m40
  have R:=C.rct
  have la:=F.la
  have le:=F.le
  have hlen:(vS pic).length=n:=by rw[Bq,C.hn]
  have h0:0<pic.length:=by rw[C.hn];exact C.n1
  have hm0:=C.hm pic[0] (AkN h0)
  have sla:(tx ua).length≤sizeLine:=by rw[An];omega
  have sle:(tx ue).length≤sizeLine:=by rw[An];omega
  have tl:(wa++we).length=m+n:=by rw[AkG,hwa,hwe]
  have bl:(ua++ue).length=m+n:=by rw[AkG,la,le]
  have slt:(tx (wa++we)).length≤sizeLine:=by rw[An];omega
  have slb:(tx (ua++ue)).length≤sizeLine:=by rw[An];omega
  refine⟨_,(Ab (Bh (PW.pt (pw_or (Cw (De (Ah (Dk (K:=K)) rfl T.Cd BV (Aa (pv 2) (Aa (FW (v:=.ty "str") rfl T.AeP AbY rfl) Ac))))) (pw_or1 (Cw (De (Ah (Dk (K:=K)) rfl T.Cd BV (Aa (pv 3) (Aa (FW (v:=.ty "str") rfl T.AeP AbY rfl) Ac))))))))
    (Ad (Aw Cy))
    Aq)
   (Ab (Bh (PW.pt (pw_or (Ag Dd (Ah Ay rfl T.Bm Bc (Aa (pv 2) Ac)) (Ah Ay rfl T.Bm Bc (Aa (Ai (Ao (K:=K)) (pv 0) Af (fun _ _=>rfl)) Ac)) (Am _)) (pw_or1 (Ag Dd (Ah Ay rfl T.Bm Bc (Aa (pv 3) Ac)) (Ah (Ak (K:=K)) rfl T.Bm Bc (Aa (pv 0) Ac)) (Am _)))))
    (Ad (Aw Cy))
    Aq)
   (Ab (Al (i:=4) Hs.nd rfl (Or.inl rfl) (Az Cp (pv 2) (pv 3)))
   (Ab (Bo PassesOwn.never rfl (Be rfl T.Bs (Aa (Ah Ay rfl T.Bm Bc (Aa (pv 4) Ac)) Ac)) (Ba (i:=5) Hs.nd rfl (Or.inl rfl))
    (Ad (Bh (PW.pt (pw_or (Ag Gk (Ai Bu (pv 4) (pv 5) (fun _ _=>rfl)) Bg rfl) (pw_or1 (PW.pt (pw_and (Ag Dd (Ai Bu (pv 1) (pv 5) (fun _ _=>rfl)) Bg (Am _)) (pw_and1 (Ag Dd (Ai Bu (pv 1) (pv 5) (fun _ _=>rfl)) (Ai Bu (pv 4) (pv 5) (fun _ _=>rfl)) (Am _))))))))
     (Ad (Aw Cy))
     Aq)))
   (Ab (Bo PassesOwn.never rfl (Be rfl T.Bs (Aa (Ah Ay rfl T.Bm Bc (Aa (pv 3) Ac)) Ac)) (Ba (i:=6) Hs.nd rfl (Or.inl rfl))
    (Ad (Bo PassesOwn.never rfl (Be rfl T.Bs (Aa (Ah Ay rfl T.Bm Bc (Aa (pv 2) Ac)) Ac)) (Ba (i:=5) Hs.nd rfl (Or.inl rfl))
     (Ad (Bh (PW.pt (pw_and (Ag Dd (Ai Bu (pv 2) (pv 5) (fun _ _=>rfl)) (Ai Bu (Ai (Ao (K:=K)) (pv 0) (pv 6) (fun _ _=>rfl)) (pv 5) (fun _ _=>rfl)) (Am _)) (pw_and1 (Ag Dd (Ai Bu (pv 3) (pv 6) (fun _ _=>rfl)) (Ai Bu (Ai (Ao (K:=K)) (pv 0) (pv 6) (fun _ _=>rfl)) (pv 5) (fun _ _=>rfl)) (Am _)))))
      (Ad (Aw Cy))
      Aq)))))
   (Ad (Aw Cy))))))),?_⟩
  refine⟨_,rfl,_,_,true,.str _,.inl ⟨_,rfl,Eo K _⟩,_,rfl,Ci ?_⟩
  refine⟨_,rfl,_,_,true,.str _,.inl ⟨_,rfl,Eo K _⟩,_,rfl,Ci ?_⟩
  refine⟨_,rfl,_,rfl,sla,_,rfl,_,_,_,_,rfl,rfl,hS,Bb (by decide) (Gq (AkD h0)),_,rfl,(by rw[An,hm0];omega),rfl,_,rfl,?_⟩
  refine CQ (by rw[An,An,hm0,la]) ?_
  refine⟨_,rfl,_,rfl,sle,_,rfl,_,_,rfl,.inl hS,rfl,_,rfl,?_⟩
  refine CQ (by rw[An,hlen,le]) ?_
  refine⟨_,rfl,_,rfl,_,_,rfl,rfl,(by rw[An,An];omega),?_⟩
  rw[GD]
  refine⟨_,rfl,_,rfl,slb,_,rfl,(by omega),(by rw[An];omega),?_⟩
  rw[An,AkJ,bl]
  refine Bp (lo:=0) (n:=m+n) (fun i σ H2=>∃(v5 v6:Option V),σ=[some (.ref a),some (.str (tx (wa++we))),some (.str (tx ua)),some (.str (tx ue)),some (.str (tx (ua++ue))),v5,v6]∧H2=H) ⟨none,none,rfl,rfl⟩ ?_ ?_
  ·rintro i σ H2 hi ⟨v5,v6,rfl,rfl⟩
   obtain⟨co,td⟩:=F.at hwa hwe hi
   refine⟨_,rfl,_,rfl,_,_,_,rfl,rfl,slb,G4 (by omega),_,_,rfl,rfl,_,rfl,?_⟩
   rw[AhH co]
   refine Ci ?_
   refine⟨_,rfl,_,rfl,_,_,_,rfl,rfl,slt,G4 (by omega),rfl,_,rfl,?_⟩
   by_cases t1:(wa++we).getD i 0=63
   ·refine CQ (by rw[t1];exact e63) (Ci ?_)
    exact⟨_,_,rfl,rfl⟩
   ·refine HY (fun z=>t1 (CV.mp (z.trans e63.symm))) ?_
    refine⟨_,rfl,_,rfl,_,_,_,rfl,rfl,slt,G4 (by omega),_,rfl,_,rfl,_,_,_,rfl,rfl,slb,G4 (by omega),rfl,_,rfl,?_⟩
    refine CQ (by rw[td.resolve_left t1]) ?_
    exact⟨_,_,rfl,rfl⟩
  ·rintro σ H2 ⟨v5,v6,rfl,rfl⟩
   refine⟨_,rfl,_,rfl,sle,_,rfl,(by omega),(by rw[An];omega),?_⟩
   rw[An,AkJ,le]
   refine Bp (lo:=0) (n:=n) (fun i σ H3=>∃(v5 v6:Option V),σ=[some (.ref a),some (.str (tx (wa++we))),some (.str (tx ua)),some (.str (tx ue)),some (.str (tx (ua++ue))),v5,v6]∧H3=H2) ⟨_,_,rfl,rfl⟩ ?_ ?_
   ·rintro i σ H3 hi ⟨v5,v6,rfl,rfl⟩
    obtain⟨_,li,ai⟩:=R.at hi
    have slr:(tx (pic.getD i [])).length≤sizeLine:=by rw[An,li];omega
    refine⟨_,rfl,_,rfl,sla,_,rfl,(by omega),(by rw[An];omega),?_⟩
    rw[An,AkJ,la]
    refine Bp (lo:=0) (n:=m) (fun j σ H4=>∃(v5:Option V),σ=[some (.ref a),some (.str (tx (wa++we))),some (.str (tx ua)),some (.str (tx ue)),some (.str (tx (ua++ue))),v5,some (.int (0+(i:Int)))]∧H4=H3) ⟨_,rfl,rfl⟩ ?_ ?_
    ·rintro j σ H4 hj ⟨v5,rfl,rfl⟩
     refine⟨_,rfl,_,rfl,_,_,_,rfl,rfl,sla,G4 (by omega),_,rfl,_,rfl,_,_,_,_,rfl,rfl,hS,ai,_,rfl,_,_,_,rfl,rfl,slr,G4 (by omega),rfl,_,rfl,?_⟩
     by_cases h1:ua.getD j 0=(pic.getD i []).getD j 0
     ·refine CQ (by rw[h1]) (Ci ?_)
      exact⟨_,rfl,rfl⟩
     ·refine HY (fun z=>h1 (CV.mp z)) ?_
      refine⟨_,rfl,_,rfl,_,_,_,rfl,rfl,sle,G4 (by omega),_,rfl,_,rfl,_,_,_,_,rfl,rfl,hS,ai,_,rfl,_,_,_,rfl,rfl,slr,G4 (by omega),rfl,_,rfl,?_⟩
      refine CQ (by rw[(F.cr i j hi hj).resolve_left h1]) ?_
      exact⟨_,rfl,rfl⟩
    ·rintro σ H4 ⟨v5,rfl,rfl⟩
     exact⟨_,_,rfl,rfl⟩
   ·rintro σ H3 ⟨v5,v6,rfl,rfl⟩
    exact k
theorem QB{c A B:Prop}[Decidable c](h:c)(k:B):if (!decide c)=true then A else B:=by rw[decide_eq_true h];exact Ci k
theorem Ags{x:Nat}:¬(V.str ⟨#[x]⟩:V)=V.str "" := fun z=>by
 injection z with z
 have:=congrArg (fun s:Str=>s.cps.size) z
 have e:(("" : Str)).cps.size=0:=by decide +kernel
 rw[e] at this
 simp at this
def Aby (K:PySem.W.Frag):Sp:=fun vs H Q _=>∃(a l:Addr) (pic:List (List Nat)) (m n:Nat) (told:List Nat) (s0 c0:Nat) (L:List Nat),vs=[.ref a,.str (tx told),.int (s0:Int),.str ⟨#[c0]⟩,.ref l]∧SqL K H a (vS pic)∧Pic pic m n∧told.length=m+n∧H l=some (.lst (vI (nI L)))∧Rgt pic m n told s0 c0 L∧Q (.bl true) H
theorem Oa(T:Txt K mg t):BP P w K mg base CX0 2 t.Jf t.Jg ["picture", "told", "strand", "colour", "chain"] (Aby K):=by
 refine T.Ge.F.ok BZ (fun vs H Q E h=>?_) (fun cdv A outer s H vs Q E hr h=>?_)
 ·obtain⟨a,l,pic,m,n,told,s0,c0,L,rfl,_⟩:=h
  rfl
 ·obtain⟨a,l,pic,m,n,told,s0,c0,L,rfl,hS,C,tl,hl,R,k⟩:=h
  have hsz:sizeLine=16777216:=sizeLine_eq
  have c2:=C.n40
  have c4:=C.m40
  have two:=R.two
  have le:=R.le
  have h0:0<pic.length:=by rw[C.hn];exact C.n1
  have hm0:=C.hm pic[0] (AkN h0)
  have slt:(tx told).length≤sizeLine:=by rw[An];omega
  have ll:(vI (nI L)).length=L.length:=by rw[Bx,NZ]
  refine⟨_,(Ab (Al (i:=5) BZ.nd rfl (Or.inl rfl) (Ah Ay rfl T.Bm Bc (Aa (Ai (Ao (K:=K)) (pv 0) Af (fun _ _=>rfl)) Ac)))
   (Ab (Bh (PW.pt (pw_or (Cw (De (Ah (Dk (K:=K)) rfl T.Cd BV (Aa (pv 4) (Aa (FW (v:=.ty "list") rfl T.G3 Fo rfl) Ac))))) (pw_or1 (Cw (J2 U6 U6 Af (Ah (Ak (K:=K)) rfl T.Bm Bc (Aa (pv 4) Ac)) (Az Cj (Az HS Af (Ah Ay rfl T.Bm Bc (Aa (pv 1) Ac))) Af))))))
    (Ad (Aw Cy))
    Aq)
   (Ab (Bo PassesOwn.never rfl (BR (K:=K) (pv 4)) (Ba (i:=6) BZ.nd rfl (Or.inl rfl))
    (Ad (Bh (PW.pt (pw_or (Cw (De (Av ((DY T).mono (by decide)) hr rfl T.Bv.m T.Bv.F.kp T.Bv.b .nil Bj (Aa (pv 6) Ac)))) (pw_or1 (Cw (J2 U6 Em Af (pv 6) (Ah Ay rfl T.Bm Bc (Aa (pv 1) Ac)))))))
     (Ad (Aw Cy))
     Aq)))
   (Ab (Bh (Ag Dd (Ai (Ao (K:=K)) (pv 4) Af (fun _ _=>rfl)) (pv 2) (Am _))
    (Ad (Aw Cy))
    Aq)
   (Ab (Al (i:=7) BZ.nd rfl (Or.inl rfl) (pv 3))
   (Ab (Bo PassesOwn.never rfl (Be rfl T.Bs (Aa (Az Vz (Ah (Ak (K:=K)) rfl T.Bm Bc (Aa (pv 4) Ac)) Af) Ac)) (Ba (i:=8) BZ.nd rfl (Or.inl rfl))
    (Ab (Al (i:=9) BZ.nd rfl (Or.inl rfl) (Av ((YC T).mono (by decide)) hr rfl T.PB.m T.PB.F.kp T.PB.b .nil Bj (Aa (pv 0) (Aa (pv 5) (Aa (Ai (Ao (K:=K)) (pv 4) (pv 8) (fun _ _=>rfl)) (Aa (Ai (Ao (K:=K)) (pv 4) (Az Cj (pv 8) Af) (fun _ _=>rfl)) Ac))))))
    (Ab (Bh (PW.pt (pw_or (Ag Cz (pv 9) Bg (Am _)) (pw_or1 (Ag Cz (pv 9) (pv 7) (Am _)))))
     (Ad (Aw Cy))
     Aq)
    (Ad (Al (i:=7) BZ.nd rfl (Or.inl rfl) (pv 9))))))
   (Ab (Al (i:=10) BZ.nd rfl (Or.inl rfl) (Ai (Ao (K:=K)) (pv 4) (Xn RL Af) (fun _ _=>rfl)))
   (Ab (Bh (PW.pt (pw_and (Ag Cz (pv 10) (pv 2) (Am _)) (pw_and1 (Ag Dd (pv 7) (pv 3) (Am _)))))
    (Ad (Aw Cy))
    Aq)
   (Ad (Aw (YX (Gm Dd (Ai Bu (pv 1) (pv 10) (fun _ _=>rfl)) Bg (Am _)) (YW (Gm Dd (Ai Bu (pv 1) (pv 10) (fun _ _=>rfl)) (pv 7) (Am _)))))))))))))),?_⟩
  refine⟨_,rfl,_,_,_,_,rfl,rfl,hS,Bb (by decide) (Gq (AkD h0)),_,rfl,(by rw[An,hm0];omega),?_⟩
  rw[An,hm0]
  refine⟨_,rfl,_,_,true,.lst hl,.inl ⟨_,rfl,Eo K _⟩,_,rfl,Ci ?_⟩
  refine⟨_,rfl,_,_,rfl,.inl (SqL.of hl),_,_,rfl,rfl,_,rfl,?_⟩
  rw[ll]
  refine Gi (by omega) ?_
  refine⟨_,rfl,_,rfl,slt,_,_,rfl,rfl,.inl ⟨by decide,by decide⟩,_,_,rfl,rfl,_,_,rfl,rfl,_,rfl,?_⟩
  rw[An,tl]
  refine QB (by omega) ?_
  refine⟨_,rfl,_,rfl,⟨_,SqL.of hl⟩,Cr (K:=K) (a:=l) (xs:=vI (nI L)) (fun i σ H2=>∃(v6:Option V),σ=[some (.ref a),some (.str (tx told)),some (.int (s0:Int)),some (.str ⟨#[c0]⟩),some (.ref l),some (.int (m:Int)),v6,none,none,none,none]∧H2=H) ⟨none,rfl,rfl⟩ (fun i σ H2 _ ⟨_,_,e⟩=>e▸SqL.of hl) ?_ ?_⟩
  ·rintro i x σ H2 hx ⟨v6,rfl,rfl⟩
   obtain⟨z,hz,rfl⟩:=Ia hx
   unfold nI at hz
   rw[AkM] at hz
   obtain⟨v,hv,rfl⟩:=Option.map_eq_some_iff.mp hz
   have vl:=R.lt v (AkI hv)
   refine⟨_,rfl,_,rfl,_,rfl,Ci ?_⟩
   refine⟨_,rfl,_,_,rfl,rfl,_,rfl,?_⟩
   refine Gi (by omega) ?_
   refine⟨_,rfl,_,rfl,slt,_,_,rfl,rfl,_,rfl,?_⟩
   refine QB (by rw[An,tl];omega) ?_
   exact⟨_,rfl,rfl⟩
  ·rintro σ H2 ⟨v6,rfl,rfl⟩
   refine⟨_,rfl,_,_,_,_,rfl,rfl,SqL.of hl,Bb (by decide) (Aax R.fst),_,rfl,rfl,_,rfl,?_⟩
   refine CQ rfl ?_
   refine⟨_,rfl,?_⟩
   refine⟨_,rfl,_,_,rfl,.inl (SqL.of hl),_,_,rfl,rfl,_,rfl,(by rw[ll];omega),(by rw[ll];omega),?_⟩
   rw[ll,show((L.length:Int)-1).toNat=L.length-1 by omega]
   refine Bp (lo:=0) (n:=L.length-1) (fun i σ H3=>∃(v6 v8 v9:Option V),σ=[some (.ref a),some (.str (tx told)),some (.int (s0:Int)),some (.str ⟨#[c0]⟩),some (.ref l),some (.int (m:Int)),v6,some (.str ⟨#[fin pic m c0 (L.take (i+1))]⟩),v8,v9,none]∧H3=H2) ⟨v6,none,none,?_,rfl⟩ ?_ ?_
   ·have e:L.take 1=[s0]:=by
     rw[Ale,R.fst];rfl
    show _=_
    rw[e]
    rfl
   ·rintro i σ H3 hi ⟨v6,v8,v9,rfl,rfl⟩
    have ha:L[i]?=some L[i]:=AkD (by omega)
    have hb:L[i+1]?=some L[i+1]:=AkD (by omega)
    obtain⟨bp,ne,fe⟩:=Aea R.run ha hb
    have la:=R.lt _ (AkN (show i<L.length by omega))
    have lb:=R.lt _ (AkN (show i+1<L.length by omega))
    have ia:atI (vI (nI L)) (0+(i:Int))=some (.int ((L[i]:Nat):Int)):=Bb (by omega) (by rw[z0];exact Aax ha)
    have ib:atI (vI (nI L)) (0+(i:Int)+1)=some (.int ((L[i+1]:Nat):Int)):=Bb (by omega) (by rw[show(0+(i:Int)+1).toNat=i+1 by omega];exact Aax hb)
    refine⟨_,rfl,_,rfl,_,rfl,_,rfl,_,_,_,_,rfl,rfl,SqL.of hl,ia,_,rfl,_,rfl,_,_,rfl,rfl,_,_,_,_,rfl,rfl,SqL.of hl,ib,a,pic,m,n,L[i],L[i+1],rfl,hS,C,la,lb,bp,?_⟩
    refine⟨_,rfl,rfl,_,rfl,?_⟩
    refine Cv Ags ?_
    refine⟨_,rfl,_,rfl,rfl,_,rfl,?_⟩
    refine Cv (fun z=>ne (CV.mp z)) ?_
    refine⟨_,rfl,?_⟩
    rw[← fe]
    exact⟨_,_,_,rfl,rfl⟩
   ·rintro σ H3 ⟨v6,v8,v9,rfl,rfl⟩
    rw[show L.length-1+1=L.length by omega,Alq]
    have Aa0:L[L.length-1]?=some L[L.length-1]:=AkD (by omega)
    obtain⟨la,ela⟩:∃ la,la=L[L.length-1]:=⟨_,rfl⟩
    rw[← ela] at Aa0
    have gl:L.getLast?=some la:=by rw[List.getLast?_eq_getElem?];exact Aa0
    have lal:=R.lt la (AkI Aa0)
    have il:atI (vI (nI L)) (-1)=some (.int (la:Int)):=at_neg (by rw[ll];exact Aax Aa0)
    refine⟨_,rfl,_,rfl,_,_,_,_,rfl,rfl,SqL.of hl,il,?_⟩
    have at1:=Q7 (u:=told) (i:=la) (by omega)
    refine⟨_,rfl,_,rfl,rfl,_,rfl,?_⟩
    rcases R.lst la gl with ⟨e1,e2⟩ | ⟨t1,t2⟩
    ·refine Gi (by rw[e1]) ?_
     refine⟨_,rfl,_,rfl,rfl,_,rfl,?_⟩
     refine HY (fun z=>e2 (CV.mp z)) ?_
     exact k
    ·have fin2:(told.getD la 0≠63∧told.getD la 0≠fin pic m c0 L):=⟨t1,t2⟩
     apply Ac9
     ·intro rest
      refine Dg (fun h=>?_) (fun h=>Ci ?_)
      ·refine⟨_,rfl,_,rfl,rfl,_,rfl,?_⟩
       refine Ajd (fun h=>?_) (fun h=>?_)
       ·exact k
       ·exact rest ()
      ·exact rest ()
     ·refine⟨_,rfl,_,rfl,_,_,_,rfl,rfl,slt,at1,rfl,_,rfl,?_⟩
      refine HY (fun z=>t1 (CV.mp (z.trans e63.symm))) ?_
      refine⟨_,rfl,_,rfl,_,_,_,rfl,rfl,slt,at1,_,rfl,rfl,?_⟩
      rw[decide_eq_false (fun z=>t2 (CV.mp z))]
      exact k
def Abz (K:PySem.W.Frag):Sp:=fun vs H Q _=>∃(a p lc:Addr) (pic:List (List Nat)) (m n:Nat) (told:List Nat) (s0:Nat),vs=[.ref a,.str (tx told),.ref p]∧SqL K H a (vS pic)∧Pic pic m n∧told.length=m+n∧s0<m+n∧H p=some (.tup [.str "none", .int (s0:Int),.ref lc])∧Cns H lc pic m n told s0 (due told s0) (due told s0).length∧Q (.bl true) H
theorem PX(T:Txt K mg t):BP P w K mg base CX0 3 t.GX t.GZ ["picture", "told", "found"] (Abz K):=by
 refine T.Gz.F.ok DK (fun vs H Q E h=>?_) (fun cdv A outer s H vs Q E hr h=>?_)
 ·obtain⟨a,p,lc,pic,m,n,told,s0,rfl,_⟩:=h
  rfl
 ·obtain⟨a,p,lc,pic,m,n,told,s0,rfl,hS,C,tl,hs0,hp,N,k⟩:=h
  have hsz:sizeLine=16777216:=sizeLine_eq
  have c2:=C.n40
  have c4:=C.m40
  have slt:(tx told).length≤sizeLine:=by rw[An];omega
  have at1:=Q7 (u:=told) (i:=s0) (by omega)
  have p0:atI [V.str "none", V.int (s0:Int),V.ref lc] 0=some (V.str "none"):=rfl
  have p1:atI [V.str "none", V.int (s0:Int),V.ref lc] 1=some (V.int (s0:Int)):=rfl
  have p2:atI [V.str "none", V.int (s0:Int),V.ref lc] 2=some (V.ref lc):=rfl
  obtain⟨ts,hlc,tsl,tsp⟩:=N
  refine⟨_,(Ab (Bh (PW.pt (pw_or (Cw (De (Ah (Dk (K:=K)) rfl T.Cd BV (Aa (pv 2) (Aa (FW (v:=.ty "tuple") rfl T.Ww RT rfl) Ac))))) (pw_or (Ag Dd (Ah (Ak (K:=K)) rfl T.Bm Bc (Aa (pv 2) Ac)) Af (Am _)) (pw_or1 (Ag Dd (Ai (Bl (K:=K)) (pv 2) Af (fun _ _=>rfl)) Bg (Am _))))))
    (Ad (Aw Cy))
    Aq)
   (Ab (Bh (PW.pt (pw_or (Cw (De (Av ((DY T).mono (by decide)) hr rfl T.Bv.m T.Bv.F.kp T.Bv.b .nil Bj (Aa (Ai (Bl (K:=K)) (pv 2) Af (fun _ _=>rfl)) Ac)))) (pw_or1 (Cw (J2 U6 Em Af (Ai (Bl (K:=K)) (pv 2) Af (fun _ _=>rfl)) (Ah Ay rfl T.Bm Bc (Aa (pv 1) Ac)))))))
    (Ad (Aw Cy))
    Aq)
   (Ab (Al (i:=3) DK.nd rfl (Or.inl rfl) Bg)
   (Ab (Bh (Ag Dd (Ai Bu (pv 1) (Ai (Bl (K:=K)) (pv 2) Af (fun _ _=>rfl)) (fun _ _=>rfl)) Bg (Am _))
    (Ad (Al (i:=3) DK.nd rfl (Or.inl rfl) (Ai Bu (pv 1) (Ai (Bl (K:=K)) (pv 2) Af (fun _ _=>rfl)) (fun _ _=>rfl))))
    Aq)
   (Ab (Bh (PW.pt (pw_or (Cw (De (Ah (Dk (K:=K)) rfl T.Cd BV (Aa (Ai (Bl (K:=K)) (pv 2) Af (fun _ _=>rfl)) (Aa (FW (v:=.ty "list") rfl T.G3 Fo rfl) Ac))))) (pw_or1 (Ag Dd (Ah (Ak (K:=K)) rfl T.Bm Bc (Aa (Ai (Bl (K:=K)) (pv 2) Af (fun _ _=>rfl)) Ac)) (Ah Ay rfl T.Bm Bc (Aa (pv 3) Ac)) (Am _)))))
    (Ad (Aw Cy))
    Aq)
   (Ab (Bo PassesOwn.never rfl (Be rfl T.Bs (Aa (Ah Ay rfl T.Bm Bc (Aa (pv 3) Ac)) Ac)) (Ba (i:=4) DK.nd rfl (Or.inl rfl))
    (Ab (Al (i:=5) DK.nd rfl (Or.inl rfl) (Ai (Ao (K:=K)) (Ai (Bl (K:=K)) (pv 2) Af (fun _ _=>rfl)) (pv 4) (fun _ _=>rfl)))
    (Ab (Bh (PW.pt (pw_or (Cw (De (Ah (Dk (K:=K)) rfl T.Cd BV (Aa (pv 5) (Aa (FW (v:=.ty "tuple") rfl T.Ww RT rfl) Ac))))) (pw_or (Ag Dd (Ah (Ak (K:=K)) rfl T.Bm Bc (Aa (pv 5) Ac)) Af (Am _)) (pw_or1 (Ag Dd (Ai (Bl (K:=K)) (pv 5) Af (fun _ _=>rfl)) (Ai Bu (pv 3) (pv 4) (fun _ _=>rfl)) (Am _))))))
     (Ad (Aw Cy))
     Aq)
    (Ad (Bh (Cw (De (Av ((Oa T).mono (by decide)) hr rfl T.Ge.m T.Ge.F.kp T.Ge.b .nil Bj (Aa (pv 0) (Aa (pv 1) (Aa (Ai (Bl (K:=K)) (pv 2) Af (fun _ _=>rfl)) (Aa (Ai Bu (pv 3) (pv 4) (fun _ _=>rfl)) (Aa (Ai (Bl (K:=K)) (pv 5) Af (fun _ _=>rfl)) Ac))))))))
     (Ad (Aw Cy))
     Aq)))))
   (Ad (Aw Cy)))))))),?_⟩
  refine⟨_,rfl,_,_,true,.tup hp,.inl ⟨_,rfl,Eo K _⟩,_,rfl,Ci ?_⟩
  refine⟨_,rfl,_,_,rfl,.inr (SqT.of hp),rfl,_,rfl,?_⟩
  refine CQ rfl ?_
  refine⟨_,rfl,_,_,_,_,rfl,rfl,SqT.of hp,p0,rfl,_,rfl,?_⟩
  refine CQ rfl ?_
  refine⟨_,rfl,_,_,_,_,rfl,rfl,SqT.of hp,p1,_,rfl,_,rfl,Ci ?_⟩
  refine⟨_,rfl,_,_,_,_,rfl,rfl,SqT.of hp,p1,_,_,rfl,rfl,_,rfl,?_⟩
  refine Gi (by omega) ?_
  refine⟨_,rfl,_,rfl,slt,_,_,rfl,rfl,_,rfl,?_⟩
  refine QB (by rw[An,tl];omega) ?_
  apply Y7 (fun cs=>cs=due told s0)
  ·intro rest
   refine⟨_,rfl,_,rfl,_,_,_,_,rfl,rfl,SqT.of hp,p1,_,_,_,rfl,rfl,slt,at1,rfl,_,rfl,?_⟩
   by_cases t1:told.getD s0 0=63
   ·refine CQ (by rw[t1];exact e63) ?_
    obtain⟨cs,ecs⟩:∃ cs,cs=[97,98,99,100,101,102]:=⟨_,rfl⟩
    have key:=rest cs (by unfold due;rw[if_pos t1,ecs])
    show _
    rw[AhU,← ecs]
    exact key
   ·refine HY (fun z=>t1 (CV.mp (z.trans e63.symm))) ?_
    obtain⟨cs,ecs⟩:∃ cs,cs=[told.getD s0 0]:=⟨_,rfl⟩
    have key:=rest cs (by unfold due;rw[if_neg t1,ecs])
    refine⟨_,rfl,_,rfl,_,_,_,_,rfl,rfl,SqT.of hp,p1,_,_,_,rfl,rfl,slt,at1,?_⟩
    rw[DP,← ecs]
    exact key
  rintro cs ecs
  rw[← ecs] at tsl tsp
  have cl:cs.length≤6:=by rw[ecs];unfold due;split <;> simp
  have slc:(tx cs).length≤sizeLine:=by rw[An];omega
  have tml:(ts.map V.ref).length=cs.length:=by rw[AkE,tsl]
  refine⟨_,rfl,_,_,_,_,rfl,rfl,SqT.of hp,p2,_,_,true,.lst hlc,.inl ⟨_,rfl,Eo K _⟩,_,rfl,Ci ?_⟩
  refine⟨_,rfl,_,_,_,_,rfl,rfl,SqT.of hp,p2,_,_,rfl,.inl (SqL.of hlc),_,rfl,_,rfl,slc,rfl,_,rfl,?_⟩
  refine CQ (by rw[tml,An]) ?_
  refine⟨_,rfl,_,rfl,slc,_,rfl,(by omega),(by rw[An];omega),?_⟩
  rw[An,AkJ]
  refine Bp (lo:=0) (n:=cs.length) (fun i σ H2=>∃(v4 v5:Option V),σ=[some (.ref a),some (.str (tx told)),some (.ref p),some (.str (tx cs)),v4,v5]∧H2=H) ⟨none,none,rfl,rfl⟩ ?_ ?_
  ·rintro i σ H2 hi ⟨v4,v5,rfl,rfl⟩
   have hT:ts[i]?=some ts[i]:=AkD (by omega)
   have hc:cs[i]?=some (cs.getD i 0):=by rw[AkD hi];simp[List.getD,hi]
   obtain⟨l,L,a1,a2,_,Rg⟩:=tsp i _ _ hT hc
   have iT:atI (ts.map V.ref) (0+(i:Int))=some (.ref ts[i]):=Bb (by omega) (by rw[z0,AkM,hT];rfl)
   refine⟨_,rfl,_,_,_,_,rfl,rfl,SqT.of hp,p2,_,rfl,_,_,_,_,rfl,rfl,SqL.of hlc,iT,?_⟩
   refine⟨_,rfl,_,_,true,.tup a1,.inl ⟨_,rfl,Eo K _⟩,_,rfl,Ci ?_⟩
   refine⟨_,rfl,_,_,rfl,.inr (SqT.of a1),rfl,_,rfl,?_⟩
   refine CQ rfl ?_
   refine⟨_,rfl,_,_,_,_,rfl,rfl,SqT.of a1,Bb (by decide) rfl,_,rfl,_,rfl,_,_,_,rfl,rfl,slc,G4 hi,rfl,_,rfl,?_⟩
   refine CQ rfl ?_
   refine⟨_,rfl,_,rfl,_,rfl,_,_,_,_,rfl,rfl,SqT.of hp,p1,_,rfl,_,rfl,_,_,_,rfl,rfl,slc,G4 hi,_,rfl,_,_,_,_,rfl,rfl,SqT.of a1,Bb (by decide) rfl,a,l,pic,m,n,told,s0,cs.getD i 0,L,rfl,hS,C,tl,a2,Rg,_,rfl,Ci ?_⟩
   exact⟨_,_,rfl,rfl⟩
  ·rintro σ H2 ⟨v4,v5,rfl,rfl⟩
   exact k
theorem AhX:(V.str ⟨#[35]⟩:V)=V.str "#" := congrArg V.str (by decide +kernel)
theorem AhY:(V.str ⟨#[46]⟩:V)=V.str "." := congrArg V.str (by decide +kernel)
theorem Ht{n:Nat}(h:n≤40):n≤sizeLine:=AkZ h (by decide)
theorem Aj4{c:Nat}(h:Sq3 c):(!(!(Builtin.Str.occurrences "#.?" ⟨#[c]⟩ 0 (Str.length "#.?") 1).isEmpty))=false:=by
 rcases h with h | h | h <;> subst h <;> decide +kernel
def Uc:Sp:=fun vs H Q _=>∃(t:List Nat),vs=[.str (tx t),.int (t.length:Int),.str "#.?"]∧(∀ c∈t,Sq3 c)∧t.length≤40∧Q .non H
theorem Ud(T:Txt K mg t):BP P w K mg base CX0 1 t.Kg t.Kh ["text", "ends", "signs"] Uc:=by
 refine T.Fg.F.ok Hi (fun vs H Q E h=>?_) (fun cdv A outer s H vs Q E hr h=>?_)
 ·obtain⟨t,rfl,_⟩:=h
  rfl
 ·obtain⟨t,rfl,hsg,hl,k⟩:=h
  refine⟨_,(Ab (Bh (Ag Dd (Ah Ay rfl T.Bm Bc (Aa (pv 0) Ac)) (pv 1) (Am _))
    (Ad Cq)
    Aq)
   (Ad (Bo PassesOwn.never rfl (RQ (pv 0)) (Ba (i:=3) Hi.nd rfl (Or.inl rfl))
    (Ad (Bh (Ag Gk (pv 3) (pv 2) rfl)
     (Ad Cq)
     Aq))))),?_⟩
  refine⟨_,rfl,_,rfl,(by rw[An];exact Ht hl),_,rfl,rfl,_,rfl,?_⟩
  refine CQ (by rw[An]) ?_
  refine⟨_,rfl,_,rfl,Om (z:=tx t) (fun i σ H2=>∃ v,σ=[some (.str (tx t)),some (.int (t.length:Int)),some (.str "#.?"),v]∧H2=H) ⟨none,rfl,rfl⟩ ?_ ?_⟩
  ·rintro i c σ H2 hc ⟨v,rfl,rfl⟩
   rw[Nv] at hc
   refine⟨_,rfl,_,rfl,_,_,rfl,rfl,_,rfl,?_⟩
   rw[Aj4 (hsg c (AkI hc))]
   exact Ci ⟨_,rfl,rfl⟩
  ·rintro σ H2 ⟨v,rfl,rfl⟩
   exact k
def Ob (K:PySem.W.Frag):Sp:=fun vs H Q _=>∃(a:Addr) (cl:List (List Nat)) (m n:Nat),vs=[.ref a,.int 2,.str "#.?"]∧SqL K H a (vS cl)∧Hc cl m n∧∀ p,H p=none→Q (.ref p) (upd H p (.tup [.int (m:Int),.int (n:Int)]))
theorem Oc(T:Txt K mg t):BP P w K mg base CX0 2 t.GQ t.GR ["texts", "least", "signs"] (Ob K):=by
 refine T.CP.F.ok CT (fun vs H Q E h=>?_) (fun cdv A outer s H vs Q E hr h=>?_)
 ·obtain⟨a,cl,m,n,rfl,_⟩:=h
  rfl
 ·obtain⟨a,cl,m,n,rfl,hS,C,k⟩:=h
  have hlen:(vS cl).length=n:=by rw[Bq,C.hn]
  have c1:=C.n2
  have h0:0<cl.length:=by rw[C.hn];omega
  have hm0:=C.hm cl[0] (AkN h0)
  have c2:=C.n40
  have c3:=C.m2
  have c4:=C.m40
  refine⟨_,(Ab (Bh (PW.pt (pw_or (Ag Em (Ah (Ak (K:=K)) rfl T.Bm Bc (Aa (pv 0) Ac)) (pv 1) (Am _)) (pw_or1 (Ag M6 (Ah (Ak (K:=K)) rfl T.Bm Bc (Aa (pv 0) Ac)) (Ei (v:=.int 40) rfl T.Dt.choose_spec ⟨_,rfl⟩) (Am _)))))
    (Ad Cq)
    Aq)
   (Ab (Al (i:=3) CT.nd rfl (Or.inl rfl) (Ah Ay rfl T.Bm Bc (Aa (Ai (Ao (K:=K)) (pv 0) Af (fun _ _=>rfl)) Ac)))
   (Ab (Bh (PW.pt (pw_or (Ag Em (pv 3) (pv 1) (Am _)) (pw_or1 (Ag M6 (pv 3) (Ei (v:=.int 40) rfl T.Dt.choose_spec ⟨_,rfl⟩) (Am _)))))
    (Ad Cq)
    Aq)
   (Ab (Bo PassesOwn.never rfl (BR (K:=K) (pv 0)) (Ba (i:=4) CT.nd rfl (Or.inl rfl))
    (Ad (Br (Av ((Ud T).mono (by decide)) hr rfl T.Fg.m T.Fg.F.kp T.Fg.b .nil Bj (Aa (pv 4) (Aa (pv 3) (Aa (pv 2) Ac)))))))
   (Ad (Aw (Gn (Aa (pv 3) (Aa (Ah (Ak (K:=K)) rfl T.Bm Bc (Aa (pv 0) Ac)) Ac))))))))),?_⟩
  refine⟨_,rfl,_,_,rfl,.inl hS,_,rfl,_,_,rfl,rfl,_,rfl,?_⟩
  refine Cv (by rw[hlen];omega) ?_
  refine⟨_,rfl,_,_,rfl,.inl hS,_,_,rfl,rfl,_,rfl,?_⟩
  refine Cv (by rw[hlen];omega) ?_
  refine⟨_,rfl,_,_,_,_,rfl,rfl,hS,Bb (by decide) (Gq (AkD h0)),_,rfl,(by rw[An,hm0];exact Ht c4),?_⟩
  rw[An,hm0]
  refine⟨_,rfl,_,rfl,_,_,rfl,rfl,_,rfl,?_⟩
  refine Cv (by omega) ?_
  refine⟨_,rfl,_,_,rfl,rfl,_,rfl,?_⟩
  refine Cv (by omega) ?_
  refine⟨_,rfl,_,rfl,⟨_,hS⟩,Cr (K:=K) (a:=a) (xs:=vS cl) (fun i σ H2=>∃ v,σ=[some (.ref a),some (.int 2),some (.str "#.?"),some (.int (m:Int)),v]∧H2=H) ⟨none,rfl,rfl⟩ (fun i σ H2 _ ⟨_,_,e⟩=>e▸hS) ?_ ?_⟩
  ·rintro i x σ H2 hx ⟨v,rfl,rfl⟩
   obtain⟨t,ht,rfl⟩:=Hw hx
   have htm:=AkI ht
   refine⟨_,rfl,_,rfl,_,rfl,t,?_,C.sg t htm,?_,⟨_,rfl,rfl⟩⟩
   ·rw[C.hm t htm];rfl
   ·rw[C.hm t htm];exact c4
  ·rintro σ H2 ⟨v,rfl,rfl⟩
   refine⟨_,rfl,_,rfl,_,_,rfl,.inl hS,(by show 2≤sizeLine;decide),fun p hp=>?_⟩
   rw[hlen]
   exact k p hp
def QC (K:PySem.W.Frag):Sp:=fun vs H Q _=>∃(a:Addr) (cl:List (List Nat)) (m n:Nat),vs=[.ref a]∧SqL K H a (vS cl)∧Hc cl m n∧∀ p,H p=none→Q (.ref p) (upd H p (.tup [.int (m:Int),.int (n:Int)]))
theorem QD(T:Txt K mg t):BP P w K mg base CX0 3 t.KH t.KJ ["half"] (QC K):=by
 refine T.Hm.F.ok Q0 (fun vs H Q E h=>?_) (fun cdv A outer s H vs Q E hr h=>?_)
 ·obtain⟨a,cl,m,n,rfl,_⟩:=h
  rfl
 ·obtain⟨a,cl,m,n,rfl,hS,C,k⟩:=h
  exact⟨_,(Ad (Aw (Av ((Oc T).mono (by decide)) hr rfl T.CP.m T.CP.F.kp T.CP.b .nil Bj (Aa (pv 0) (Aa Af (Aa Bg Ac)))))),_,rfl,a,cl,m,n,rfl,hS,C,k⟩
structure NL (H:Hp) (y:Addr) (rs:List Addr) (tss:List (List Int)):Prop where
 h:H y=some (.lst (rs.map V.ref))
 l:rs.length=tss.length
 r:∀(i:Nat) (a:Addr) (ks:List Int),rs[i]?=some a→tss[i]?=some ks→H a=some (.lst (vI ks))
theorem NL.same{H H':Hp}{y:Addr}{rs:List Addr}{tss:List (List Int)}(N:NL H y rs tss)(s:Ar H H'):NL H' y rs tss:=⟨s _ _ N.h,N.l,fun i a ks h1 h2=>s _ _ (N.r i a ks h1 h2)⟩
theorem NL.at{H:Hp}{y:Addr}{rs:List Addr}{tss:List (List Int)}(N:NL H y rs tss){i:Nat}{a:V}(h:(rs.map V.ref)[i]?=some a):∃ r ks,a=.ref r∧rs[i]?=some r∧tss[i]?=some ks∧H r=some (.lst (vI ks)):=by
 rw[AkM] at h
 cases e:rs[i]? with
 | none=>rw[e] at h;cases h
 | some r =>
  rw[e] at h
  cases h
  have hi:i<tss.length:=by rw[← N.l];exact(List.getElem?_eq_some_iff.mp e).1
  exact⟨r,tss[i],rfl,rfl,AkD hi,N.r i r _ e (AkD hi)⟩
theorem Agt(c:Nat):(!decide ((V.str ⟨#[c]⟩:V)=V.str "."))=decide (c≠46):=by
 by_cases h:c=46
 ·subst h;rw[decide_eq_true AhY];rfl
 ·rw[decide_eq_false (fun z=>h (CV.mp (z.trans AhY.symm))),decide_eq_true h];rfl
theorem Agu(c:Nat):(!decide ((V.str ⟨#[c]⟩:V)=V.str "#"))=decide (c≠35):=by
 by_cases h:c=35
 ·subst h;rw[decide_eq_true AhX];rfl
 ·rw[decide_eq_false (fun z=>h (CV.mp (z.trans AhX.symm))),decide_eq_true h];rfl
theorem NL.grow{H:Hp}{y l:Addr}{rs:List Addr}{tss:List (List Int)}{ks:List Int}(N:NL H y rs tss)(hl:H l=none):NL (upd (upd H l (.lst (vI ks))) y (.lst (rs.map V.ref++[.ref l]))) y (rs++[l]) (tss++[ks]):=by
 have nly:l≠y:=fun e=>by rw[e,N.h] at hl;cases hl
 refine⟨by rw[AkL];exact Ae,by rw[AkG,AkG,N.l];rfl,fun i a ks' h1 h2=>?_⟩
 by_cases hi:i<rs.length
 ·rw[AkR hi] at h1
  rw[AkR (by rw[← N.l];exact hi)] at h2
  have ha:=N.r i a ks' h1 h2
  have nay:a≠y:=fun e=>by
   rw[e,N.h] at ha
   have e2:rs.map V.ref=vI ks':=by injection ha with ha;injection ha
   have h0:0<rs.length:=by omega
   have g1:(rs.map V.ref)[0]?=some (.ref rs[0]):=by rw[AkM,AkD h0];rfl
   rw[e2] at g1
   obtain⟨z,_,e3⟩:=Ia g1
   cases e3
  rw[Ax nay]
  exact(Ar.upd hl) _ _ ha
 ·rw[AkY (by omega)] at h1
  rw[AkY (by rw[← N.l];omega)] at h2
  have hi0:i-rs.length=0:=by
   have:=(List.getElem?_eq_some_iff.mp h1).1
   simp at this
   omega
  rw[hi0] at h1
  rw[show i-tss.length=0 by rw[← N.l];exact hi0] at h2
  have e1:l=a:=by simpa using h1
  have e2:ks=ks':=by simpa using h2
  rw[← e1,← e2,Ax nly]
  exact Ae
theorem Rq{cl:List (List Nat)}{m n p:Nat}(C:Hc cl m n)(hp:p<n):atI (vS cl) (0+(p:Int))=some (.str (tx (cl.getD p [])))∧(cl.getD p []).length=m:=by
 have hl:p<cl.length:=by rw[C.hn];exact hp
 have e:cl.getD p []=cl[p]:=by rw[AkH,AkD hl];rfl
 rw[e]
 exact⟨Bb (by omega) (by rw[z0];exact Gq (AkD hl)),C.hm _ (AkN hl)⟩
theorem Iw{u:List Nat}{e:Nat}(h:e<u.length):atI (tx u).cps.toList (0+(e:Int))=some (u.getD e 0):=Bb (by omega) (by
 rw[z0,VH,AkD h,AkH,AkD h]
 rfl)
theorem NL.isS{H:Hp}{y:Addr}{rs:List Addr}{tss:List (List Int)}(N:NL H y rs tss){r:Addr}(h:r∈rs):H r≠none:=fun e=>by
 obtain⟨i,hi,er⟩:=Alh h
 have ht:i<tss.length:=by rw[← N.l];exact hi
 have:=N.r i r tss[i] (by rw[AkD hi,er]) (AkD ht)
 rw[e] at this
 cases this
def Frs (H:Hp)(rs:List Addr):Prop:=rs.Nodup∧∀ r∈rs,H r=none
theorem Frs.add{H H2:Hp}{y l:Addr}{rs:List Addr}{tss:List (List Int)}(F:Frs H rs)(N:NL H2 y rs tss)(s:Ar H H2)(hl:H2 l=none):Frs H (rs++[l]):=by
 refine⟨List.nodup_append.mpr ⟨F.1,by simp,fun a ha b hb=>?_⟩,fun r hr=>?_⟩
 ·rw[List.mem_singleton.mp hb]
  exact fun e=>N.isS ha (by rw[e];exact hl)
 ·rcases List.mem_append.mp hr with h | h
  ·exact F.2 r h
  ·rw[List.mem_singleton.mp h];exact s.free hl
def AcT (K:PySem.W.Frag):Sp:=fun vs H Q _=>∃(a:Addr) (cl:List (List Nat)) (m n:Nat),vs=[.ref a]∧SqL K H a (vS cl)∧Hc cl m n∧∀(y:Addr) (rs:List Addr) (H':Hp),Ar H H'→NL H' y rs (lows cl m)→Frs H rs→H y=none→Q (.ref y) H'
theorem QF(T:Txt K mg t):BP P w K mg base CX0 1 t.KC t.KD ["texts"] (AcT K):=by
 refine T.Hl.F.ok Ec (fun vs H Q E h=>?_) (fun cdv A outer s H vs Q E hr h=>?_)
 ·obtain⟨a,cl,m,n,rfl,_⟩:=h
  rfl
 ·obtain⟨a,cl,m,n,rfl,hS,C,k⟩:=h
  have hsz:sizeLine=16777216:=sizeLine_eq
  have c1:=C.n2
  have c2:=C.n40
  have c3:=C.m2
  have c4:=C.m40
  have hlen:(vS cl).length=n:=by rw[Bq,C.hn]
  have h0:0<cl.length:=by rw[C.hn];omega
  have hm0:=C.hm cl[0] (AkN h0)
  refine⟨_,(Ab (Al (i:=1) Ec.nd rfl (Or.inr rfl) (Ah Ay rfl T.Bm Bc (Aa (Ai (Ao (K:=K)) (pv 0) Af (fun _ _=>rfl)) Ac)))
   (Ab (Al (i:=2) Ec.nd rfl (Or.inl rfl) (CW Ac))
   (Ab (Bo PassesOwn.never rfl (Be rfl T.Bs (Aa (pv 1) Ac)) (Ba (i:=3) Ec.nd rfl (Or.inr rfl))
    (Ad (Br (Ca (K:=K) PySem.F.plainAttrs_list PySem.F.slot_list_append PySem.F.type_list_append BL (pv 2) (Aa (Gp (Eb.mk (By:=[0,1,3]) (Nc:=["pick", "texts", "ends", "end"]) rfl (by decide +kernel) (by decide +kernel) (Dy (sc0:=Aj Gb) rfl (by decide +kernel)) rfl rfl rfl (by decide +kernel) (fun k j h=>match k,h with | 0,h=>by obtain rfl:=Option.some.inj h;exact⟨_,rfl,rfl,rfl⟩ | 1,h=>by obtain rfl:=Option.some.inj h;exact⟨_,rfl,rfl,rfl⟩ | 2,h=>by obtain rfl:=Option.some.inj h;exact⟨_,rfl,rfl,rfl⟩ | _+3,h=>by simp at h)) rfl (Be rfl T.Bs (Aa (Ah (Ak (K:=K)) rfl T.Bm Bc (Aa (pv 0) Ac)) Ac)) (fun _ _ _ _ _=>.one (Ag Dd (Ai Bu (Ai (Ao (K:=K)) (pv 1) (pv 0) (fun _ _=>rfl)) (pv 3) (fun _ _=>rfl)) Bg (Am _))) (fun _ _ _ _ _=>(Az Cj (pv 2) (pv 0)))) Ac)))))
   (Ab (Bo PassesOwn.never rfl (BR (K:=K) (pv 0)) (Ba (i:=4) Ec.nd rfl (Or.inr rfl))
    (Ad (Br (Ca (K:=K) PySem.F.plainAttrs_list PySem.F.slot_list_append PySem.F.type_list_append BL (pv 2) (Aa (Gp (Eb.mk (By:=[4]) (Nc:=["end", "text"]) rfl (by decide +kernel) (by decide +kernel) (Dy (sc0:=Aj Gb) rfl (by decide +kernel)) rfl rfl rfl (by decide +kernel) (fun k j h=>match k,h with | 0,h=>by obtain rfl:=Option.some.inj h;exact⟨_,rfl,rfl,rfl⟩ | _+1,h=>by simp at h)) rfl (Be rfl T.Bs (Aa (pv 1) Ac)) (fun _ _ _ _ _=>.one (Ag Dd (Ai Bu (pv 1) (pv 0) (fun _ _=>rfl)) Bg (Am _))) (fun _ _ _ _ _=>(pv 0))) Ac)))))
   (Ad (Aw (pv 2))))))),?_⟩
  refine⟨_,rfl,_,_,_,_,rfl,rfl,hS,Bb (by decide) (Gq (AkD h0)),_,rfl,(by rw[An,hm0];exact Ht c4),?_⟩
  rw[An,hm0]
  refine⟨AkP _,fun q hq=>?_⟩
  refine⟨_,rfl,_,rfl,(by omega),(by omega),?_⟩
  rw[AkJ]
  refine Bp (lo:=0) (n:=m) (fun i σ H2=>∃(rs:List Addr) (v1 v2:Option V),σ=[some (.ref a),some (.int (m:Int)),some (.ref q),v1,v2]∧Ar H H2∧NL H2 q rs ((List.range i).map fun e=>Kd cl m e cl.length)∧Frs H rs)
   ⟨[],none,none,rfl,.upd hq,⟨Ae,rfl,fun i a ks h=>by simp at h⟩,⟨List.nodup_nil,fun r h=>(by cases h)⟩⟩ ?_ ?_
  ·rintro i σ H2 hi ⟨rs,v1,v2,rfl,s2,N,F⟩
   refine⟨_,rfl,.inl ⟨rfl,_,SqL.of N.h⟩,_,rfl,_,_,rfl,.inl (s2.seq hS),_,rfl,(by omega),(by rw[hlen];omega),?_⟩
   rw[AkJ,hlen]
   refine EY (lo:=0) (n:=n) (fun j ys H3=>H3=H2∧ys=vI (Kd cl m i j)) ⟨rfl,rfl⟩ ?_ ?_ ?_ ?_
   ·rintro j ys H3 hj ⟨rfl,rfl⟩
    rw[Bx]
    exact Yg cl m i j
   ·exact Ht c2
   ·rintro j ys H3 hj ⟨rfl,rfl⟩
    obtain⟨e1,l1⟩:=Rq C hj
    have e2:=Iw (u:=cl.getD j []) (e:=i) (by rw[l1];exact hi)
    refine⟨_,rfl,_,rfl,_,_,_,_,rfl,rfl,s2.seq hS,e1,_,rfl,_,_,_,rfl,rfl,(by rw[An,l1];exact Ht c4),e2,rfl,_,rfl,?_⟩
    have st:=Abu cl m i j
    rw[Agt]
    refine Dg (fun h=>?_) (fun h=>?_)
    ·refine⟨_,rfl,_,rfl,_,_,rfl,rfl,?_⟩
     refine CN.of hj ⟨rfl,?_⟩
     rw[Alk,st,if_pos (show sg2 cl j i≠46 from h)]
     exact GF _ _
    ·refine CN.of hj ⟨rfl,?_⟩
     rw[st,if_neg (show ¬sg2 cl j i≠46 from h)]
   ·rintro ys H3 l ⟨rfl,rfl⟩ hl
    have hq3:=(Ar.upd (o:=.lst (vI (Kd cl m i n))) hl) _ _ N.h
    refine⟨_,_,_,rfl,rfl,hq3,(by rw[AkE,N.l,AkE,AkV];omega),?_⟩
    refine⟨rs++[l],_,_,rfl,(s2.new hl).over hq,?_,F.add N s2 hl⟩
    rw[Alx,AkL]
    have:=N.grow (ks:=Kd cl m i cl.length) hl
    rw[C.hn] at this ⊢
    exact this
  ·rintro σ H2 ⟨rs,v1,v2,rfl,s2,N,F⟩
   refine⟨_,rfl,_,rfl,⟨_,s2.seq hS⟩,Cr (K:=K) (a:=a) (xs:=vS cl) (fun i σ H3=>∃(rs:List Addr) (v1 v2:Option V),σ=[some (.ref a),some (.int (m:Int)),some (.ref q),v1,v2]∧Ar H H3∧NL H3 q rs (((List.range m).map fun e=>Kd cl m e cl.length)++(cl.take i).map fun t=>lowP t m)∧Frs H rs)
    ⟨rs,v1,v2,rfl,s2,by rw[List.take_zero,Al1,Al5];exact N,F⟩ (fun i σ H3 _ ⟨_,_,_,_,s3,_⟩=>s3.seq hS) ?_ ?_⟩
   ·rintro i x σ H3 hx ⟨rs,v1,v2,rfl,s3,N3,F3⟩
    obtain⟨u,hu,rfl⟩:=Hw hx
    have hil:i<n:=by
     have:=(List.getElem?_eq_some_iff.mp hu).1
     rwa [C.hn] at this
    have lu:=C.hm u (AkI hu)
    refine⟨_,rfl,.inl ⟨rfl,_,SqL.of N3.h⟩,_,rfl,_,rfl,(by omega),(by omega),?_⟩
    rw[AkJ]
    refine EY (lo:=0) (n:=m) (fun j ys H4=>H4=H3∧ys=vI (lowP u j)) ⟨rfl,rfl⟩ ?_ ?_ ?_ ?_
    ·rintro j ys H4 hj ⟨rfl,rfl⟩
     rw[Bx]
     exact Yh u j
    ·exact Ht c4
    ·rintro j ys H4 hj ⟨rfl,rfl⟩
     have e2:=Iw (u:=u) (e:=j) (by rw[lu];exact hj)
     refine⟨_,rfl,_,rfl,_,_,_,rfl,rfl,(by rw[An,lu];exact Ht c4),e2,rfl,_,rfl,?_⟩
     have st:=Abv u j
     rw[Agu]
     refine Dg (fun h=>?_) (fun h=>?_)
     ·refine⟨_,rfl,?_⟩
      refine CN.of hj ⟨rfl,?_⟩
      rw[Alk,st,if_pos h]
      exact GF _ _
     ·refine CN.of hj ⟨rfl,?_⟩
      rw[st,if_neg h]
    ·rintro ys H4 l ⟨rfl,rfl⟩ hl
     have hq4:=(Ar.upd (o:=.lst (vI (lowP u m))) hl) _ _ N3.h
     refine⟨_,_,_,rfl,rfl,hq4,(by rw[AkE,N3.l,AkG,AkE,AkV,AkE,AkU];omega),?_⟩
     refine⟨rs++[l],_,_,rfl,(s3.new hl).over hq,?_,F3.add N3 s3 hl⟩
     rw[Ale,hu,AkL,← Alv]
     exact N3.grow (ks:=lowP u m) hl
   ·rintro σ H3 ⟨rs,v1,v2,rfl,s3,N3,F3⟩
    rw[Bq,Alq] at N3
    exact⟨_,rfl,k q rs H3 s3 N3 F3 hq⟩
def Aet:Option Nat→V
 | none=>.non
 | some u=>.int (u:Int)
def Hu (ps:List (Nat × Option Nat)):List (Key × V):=ps.map fun p=>(Sum.inl (p.1:Int),Aet p.2)
def vF (ps:List (Nat × Option Nat)):List V:=vI (ps.map fun p=>((p.1:Nat):Int))
theorem AcU(ps:List (Nat × Option Nat)):(vF ps).length=ps.length:=by unfold vF;rw[Bx,AkE]
theorem AhZ{ps:List (Nat × Option Nat)}{i v:Nat}{a:Option Nat}(h:ps[i]?=some (v,a)):atI (vF ps) (i:Int)=some (.int (v:Int)):=Bb (by omega) (by
 rw[AkJ]
 exact Hv (by rw[AkM,h];rfl))
theorem Agv(ps:List (Nat × Option Nat))(v:Nat)(a:Option Nat):vF ps++[.int (v:Int)]=vF (ps++[(v,a)]):=by unfold vF;rw[GF,AkL];rfl
theorem M3{v:Nat}:∀{ps:List (Nat × Option Nat)},(∀ a,(v,a)∉ps)→Gr (Hu ps) (Sum.inl (v:Int))=none
 | [],_=>RZ
 | p::ps,h=>by
  unfold Hu
  rw[AkQ,Ho (fun e=>?_)]
  ·exact M3 fun a ha=>h a (AkX _ ha)
  ·have e:((p.1:Nat):Int)=(v:Int):=Sum.inl.inj e
   have e:p.1=v:=by omega
   exact h p.2 (by rw[← e];exact AkS)
theorem Vn{v:Nat}{a:Option Nat}:∀{ps:List (Nat × Option Nat)},(v,a)∈ps→(∀ b,(v,b)∈ps→b=a)→Gr (Hu ps) (Sum.inl (v:Int))=some (Aet a)
 | [],h,_=>by cases h
 | p::ps,h,hu=>by
  unfold Hu
  rw[AkQ]
  by_cases e:p.1=v
  ·have ea:=hu p.2 (by rw[← e];exact AkS)
   rw[J5 (by show Sum.inl ((p.1:Nat):Int)=Sum.inl ((v:Nat):Int);rw[e])]
   show some (Aet p.2)=_
   rw[ea]
  ·rw[Ho (fun z=>e (by have z:((p.1:Nat):Int)=(v:Int):=Sum.inl.inj z;omega))]
   rcases List.mem_cons.mp h with h | h
   ·exact absurd (by rw[← h]) e
   ·exact Vn h fun b hb=>hu b (AkX _ hb)
theorem Bf.val{tss:List (List Int)}{s:Nat}{ps:List (Nat × Option Nat)}{dp:List Nat}(B:Bf tss s ps dp){i v:Nat}{a:Option Nat}(h:ps[i]?=some (v,a)):Gr (Hu ps) (Sum.inl (v:Int))=some (Aet a):=by
 refine Vn (AkI h) fun b hb=>?_
 obtain⟨j,hj,e⟩:=Alh hb
 have g:ps[j]?=some (v,b):=by rw[← e];exact AkD hj
 have:=B.nd i j v a b h g
 subst this
 rw[h] at g
 cases g
 rfl
theorem AcV(ps:List (Nat × Option Nat))(v u:Nat)(h:Gr (Hu ps) (Sum.inl (v:Int))=none):putK (Hu ps) (Sum.inl (v:Int)) (.int (u:Int))=Hu (ps++[(v,some u)]):=by
 rw[Sq _ h]
 unfold Hu
 rw[AkL]
 rfl
theorem YF(ps:List (Nat × Option Nat)):(Hu ps).length=ps.length:=by unfold Hu;rw[AkE]
def Gd (tss:List (List Int)):Prop:=∀ v,∀ z∈tss.getD v [],0≤z∧z<(tss.length:Int)
def Aeu:Sp:=fun vs H Q _=>∃(y:Addr) (rs:List Addr) (tss:List (List Int)) (s0:Nat),vs=[.ref y,.int (s0:Int)]∧NL H y rs tss∧Gd tss∧tss.length≤200∧s0<tss.length ∧
 ∀(d:Addr) (ps:List (Nat × Option Nat)) (dp:List Nat) (H':Hp),Ar H H'→H d=none→H' d=some (.dK (Hu ps))→Bf tss s0 ps dp→Dn tss ps dp ps.length→Q (.ref d) H'
theorem Qa(T:Txt K mg t):BP P w K mg base CX0 1 t.Rm t.Rn ["lower", "start"] Aeu:=by
 refine T.Ha.F.ok Ej (fun vs H Q E h=>?_) (fun cdv A outer s H vs Q E hr h=>?_)
 ·obtain⟨y,rs,tss,s0,rfl,_⟩:=h
  rfl
 ·obtain⟨y,rs,tss,s0,rfl,N,G,Aia,hs0,k⟩:=h
  have hsz:sizeLine=16777216:=sizeLine_eq
  refine⟨_,(Ab (Al (i:=2) Ej.nd rfl (Or.inl rfl) (Wc (Sv (pv 1) Fz Wb) rfl rfl (by simp) (by decide)))
   (Ab (Al (i:=3) Ej.nd rfl (Or.inl rfl) (CW (Aa (pv 1) Ac)))
   (Ab (Al (i:=4) Ej.nd rfl (Or.inl rfl) Af)
   (Ab (RJ PassesOwn.never (Ag Em (pv 4) (Ah (Ak (K:=K)) rfl T.Bm Bc (Aa (pv 3) Ac)) (Am _))
    (Ab (Al (i:=5) Ej.nd rfl (Or.inl rfl) (Ai (Ao (K:=K)) (pv 3) (pv 4) (fun _ _=>rfl)))
    (Ab (Bo PassesOwn.never rfl (BR (K:=K) (Ai (Ao (K:=K)) (pv 0) (pv 5) (fun _ _=>rfl))) (Ba (i:=6) Ej.nd rfl (Or.inl rfl))
     (Ad (Bh (Qi (Mh (HX hr) (pv 6) (pv 2)))
      (Ab (Wa (HX hr) (pv 2) (pv 6) (pv 5) rfl)
      (Ad (Br (Ca (K:=K) PySem.F.plainAttrs_list PySem.F.slot_list_append PySem.F.type_list_append BL (pv 3) (Aa (pv 6) Ac)))))
      Aq)))
    (Ad (AbI (i:=4) Ej.nd rfl (Or.inl rfl) Af AbJ)))))
   (Ad (Aw (pv 2))))))),?_⟩
  refine fun d nd=>⟨_,rfl,Ae,[(Sum.inl (s0:Int),.non)],rfl,(by show 1≤15;decide),?_⟩
  have s1:Ar H (upd (upd H d (.dK [])) d (.dK (Ew [] [(Sum.inl (s0:Int),.non)]))):=(Ar.upd nd).over nd
  have hd1:(upd (upd H d (.dK [])) d (.dK (Ew [] [(Sum.inl (s0:Int),.non)]))) d=some (.dK (Hu [(s0,none)])):=Ae
  generalize upd (upd H d (.dK [])) d (.dK (Ew [] [(Sum.inl (s0:Int),.non)]))=H1 at s1 hd1 ⊢
  refine⟨_,rfl,(by show 1≤sizeLine;decide),fun f nf=>?_⟩
  have nfH:H f=none:=s1.free nf
  have dnf:d≠f:=fun e=>by rw[e,nf] at hd1;cases hd1
  have s2:Ar H (upd H1 f (.lst [.int (s0:Int)])):=s1.new nf
  have hd2:=(Ar.upd (o:=.lst [.int (s0:Int)]) nf) _ _ hd1
  have hf2:(upd H1 f (.lst [.int (s0:Int)])) f=some (.lst (vF [(s0,none)])):=Ae
  generalize upd H1 f (.lst [.int (s0:Int)])=H2 at s2 hd2 hf2 ⊢
  refine⟨fun m σ H3=>∃(pl:Nat) (ps:List (Nat × Option Nat)) (dp:List Nat) (v5 v6:Option V),σ=[some (.ref y),some (.int (s0:Int)),some (.ref d),some (.ref f),some (.int (pl:Int)),v5,v6]∧Ar H H3∧H3 d=some (.dK (Hu ps))∧H3 f=some (.lst (vF ps))∧Bf tss s0 ps dp∧Dn tss ps dp pl∧pl≤ps.length∧(∀ j x a:Nat,dp[j]?=some x→dp[pl]?=some a→x≤a+1)∧m=tss.length-pl,
   ⟨_,0,[(s0,none)],[0],none,none,rfl,s2,hd2,hf2,Bf.one hs0,Dn.zero,AkP _,fun j x a h1 h2=>?_,rfl⟩,?_⟩
  ·have:=(Bf.one hs0).mono
   have g1:=(List.getElem?_eq_some_iff.mp h1).1
   have g0:j=0:=by simpa using g1
   rw[g0] at h1
   rw[h1] at h2
   cases h2
   omega
  rintro m σ H3 ⟨pl,ps,dp,v5,v6,rfl,s3,hd3,hf3,B,D,hpl,near,rfl⟩
  refine⟨_,rfl,_,rfl,_,_,rfl,.inl (SqL.of hf3),_,_,rfl,rfl,_,rfl,?_⟩
  rw[AcU]
  refine Dg (fun h=>?_) (fun h=>?_)
  ·have plt:pl<ps.length:=by omega
   refine⟨_,fun _ _ z=>z,?_⟩
   obtain⟨⟨u,b⟩,hu⟩:∃ q,ps[pl]?=some q:=⟨_,AkD plt⟩
   obtain⟨a0,ha0⟩:∃ a,dp[pl]?=some a:=⟨_,AkD (by rw[B.len];exact plt)⟩
   have uN:u<tss.length:=B.lt u b (AkI hu)
   have urs:u<rs.length:=by rw[N.l];exact uN
   refine⟨_,rfl,_,rfl,_,_,_,_,rfl,rfl,SqL.of hf3,AhZ hu,?_⟩
   have N3:=N.same s3
   have hrow:=N3.r u rs[u] tss[u] (AkD urs) (AkD uN)
   have eg:tss.getD u []=tss[u]:=by rw[AkH,AkD uN];rfl
   have au:atI (rs.map V.ref) (u:Int)=some (.ref rs[u]):=Bb (by omega) (by rw[AkJ,AkM,AkD urs];rfl)
   refine⟨_,rfl,_,rfl,_,_,_,_,rfl,rfl,SqL.of N3.h,au,_,rfl,⟨_,SqL.of hrow⟩,Cr (K:=K) (a:=rs[u]) (xs:=vI tss[u])
    (fun i σ H4=>∃(ps:List (Nat × Option Nat)) (dp:List Nat) (v6:Option V),σ=[some (.ref y),some (.int (s0:Int)),some (.ref d),some (.ref f),some (.int (pl:Int)),some (.int (u:Int)),v6]∧Ar H H4∧H4 d=some (.dK (Hu ps))∧H4 f=some (.lst (vF ps))∧Bf tss s0 ps dp∧Dn tss ps dp pl∧pl<ps.length∧ps[pl]?=some (u,b)∧dp[pl]?=some a0∧(∀ j x:Nat,dp[j]?=some x→x≤a0+1) ∧
     ∀ z∈(tss[u]).take i,∃(j:Nat) (c:Option Nat),ps[j]?=some (z.toNat,c))
    ⟨ps,dp,v6,rfl,s3,hd3,hf3,B,D,plt,hu,ha0,fun j x h1=>near j x a0 h1 ha0,fun z hz=>(by simp at hz)⟩ (fun i σ H4 _ ⟨_,_,_,_,s4,_⟩=>SqL.of ((N.same s4).r u rs[u] tss[u] (AkD urs) (AkD uN))) ?_ ?_⟩
   ·rintro i x σ H4 hx ⟨ps,dp,v6,rfl,s4,hd4,hf4,B,D,plt,hu,ha0,near,hall⟩
    obtain⟨z,hz,rfl⟩:=Ia hx
    have hzm:z∈tss.getD u []:=by rw[eg];exact AkI hz
    obtain⟨z0',z1⟩:=G u z hzm
    obtain⟨v,rfl⟩:∃ v:Nat,z=(v:Int):=⟨z.toNat,by omega⟩
    have step:∀{ps':List (Nat × Option Nat)},(∀(j:Nat) q,ps[j]?=some q→ps'[j]?=some q)→(∃(j:Nat) (c:Option Nat),ps'[j]?=some (v,c))→∀ z∈(tss[u]).take (i+1),∃(j:Nat) (c:Option Nat),ps'[j]?=some (z.toNat,c):=fun {ps'} mono hv z hz'=>by
     rw[Ale,hz] at hz'
     rcases List.mem_append.mp hz' with h | h
     ·obtain⟨j,c,g⟩:=hall z h
      exact⟨j,c,mono j _ g⟩
     ·have e:z=(v:Int):=by simpa using h
      rw[e,AkJ]
      exact hv
    refine⟨_,rfl,_,rfl,d,_,rfl,Hq.k (k:=Sum.inl (v:Int)) hd4,_,rfl,?_⟩
    by_cases hin:∃(j:Nat) (c:Option Nat),ps[j]?=some (v,c)
    ·obtain⟨j,c,g⟩:=hin
     rw[B.val g]
     refine Ci ?_
     exact⟨ps,dp,_,rfl,s4,hd4,hf4,B,D,plt,hu,ha0,near,step (fun _ _ h=>h) ⟨j,c,g⟩⟩
    ·have new:∀(i:Nat) (a:Option Nat),ps[i]?≠some (v,a):=fun i a e=>hin ⟨i,a,e⟩
     have hno:Gr (Hu ps) (Sum.inl (v:Int))=none:=M3 fun a ha=>by
      obtain⟨j,hj,e⟩:=Alh ha
      exact new j a (by rw[← e];exact AkD hj)
     have sm:=B.small
     rw[hno]
     refine Jm ?_
     refine⟨_,rfl,_,rfl,_,rfl,d,_,rfl,X4.k (k:=Sum.inl (v:Int)) hd4 (by rw[YF];omega),?_⟩
     rw[AcV ps v u hno]
     have s5:Ar H (upd H4 d (.dK (Hu (ps++[(v,some u)])))):=s4.over nd
     have hf5:(upd H4 d (.dK (Hu (ps++[(v,some u)])))) f=some (.lst (vF ps)):=by rw[Ax dnf.symm];exact hf4
     have hd5:(upd H4 d (.dK (Hu (ps++[(v,some u)])))) d=some (.dK (Hu (ps++[(v,some u)]))):=Ae
     generalize upd H4 d (.dK (Hu (ps++[(v,some u)])))=H5 at s5 hf5 hd5 ⊢
     refine⟨_,rfl,.inl ⟨rfl,_,SqL.of hf5⟩,_,rfl,_,_,_,rfl,rfl,hf5,(by rw[AcU];omega),?_⟩
     rw[Agv ps v (some u)]
     refine⟨ps++[(v,some u)],dp++[a0+1],_,rfl,s5.over nfH,by rw[Ax dnf];exact hd5,Ae,B.add hu ha0 near hzm (by omega) new,D.app B.len (by omega) _ _,by rw[AkG];omega,Hy hu,Hy ha0,fun j x h1=>?_,step (fun _ _ h=>Hy h) ⟨_,_,Th _ _⟩⟩
     rcases HH h1 with ⟨_,g⟩ | ⟨_,g⟩
     ·exact near j x g
     ·omega
   ·rintro σ H4 ⟨ps,dp,v6,rfl,s4,hd4,hf4,B,D,plt,hu,ha0,AeR,hall⟩
    rw[Bx,Alq] at hall
    have sm:=B.small
    refine⟨_,rfl,_,_,rfl,rfl,?_⟩
    refine⟨tss.length-(pl+1),by omega,pl+1,ps,dp,_,_,rfl,s4,hd4,hf4,B,fun i u' b' a' hi h1 h2 w hw=>?_,by omega,fun j x a h1 h2=>?_,rfl⟩
    ·by_cases e:i<pl
     ·exact D i u' b' a' e h1 h2 w hw
     ·have e:i=pl:=by omega
      subst e
      rw[hu] at h1
      rw[ha0] at h2
      cases h1
      cases h2
      rw[eg] at hw
      obtain⟨j,c,g⟩:=hall _ hw
      rw[AkJ] at g
      have hj:j<dp.length:=by rw[B.len];exact(List.getElem?_eq_some_iff.mp g).1
      exact⟨j,c,dp[j],g,AkD hj,AeR j dp[j] (AkD hj)⟩
    ·have h3:=AeR j x h1
     have h4:=B.mono pl (pl+1) a0 a (by omega) ha0 h2
     omega
  ·have e:pl=ps.length:=by omega
   subst e
   exact⟨_,rfl,k d ps dp H3 s3 nd hd3 B D⟩
theorem Ab0{α:Type}{l:List α}{p:α→Bool}{j:Nat}{z:α}(h:l[j]?=some z):(l.take (j+1)).filter p=(l.take j).filter p++(if p z=true then [z] else []):=by
 rw[Ale,h,AlN]
 congr 1
 show List.filter p [z]=_
 by_cases h:p z=true
 ·rw[if_pos h,AlF h];rfl
 ·rw[if_neg h,AlE h];rfl
theorem Aa1{tss:List (List Int)}{s:Nat}{ps:List (Nat × Option Nat)}{dp:List Nat}(B:Bf tss s ps dp)(v:Nat):(!(Gr (Hu ps) (Sum.inl (v:Int))).isSome)=decide (v∉ps.map (·.1)):=by
 by_cases h:v∈ps.map (·.1)
 ·obtain⟨j,c,g⟩:=Ti h
  rw[B.val g,decide_eq_false (fun z=>z h)]
  rfl
 ·rw[M3 fun a ha=>h (List.mem_map.mpr ⟨(v,a),ha,rfl⟩),decide_eq_true h]
  rfl
theorem ZK{ws:List Nat}{i:Nat}{x:V}(h:(vI (cI ws))[i]?=some x):∃ v,ws[i]?=some v∧x=.int (v:Int):=by
 obtain⟨z,hz,rfl⟩:=Ia h
 unfold cI at hz
 rw[AkM] at hz
 cases e:ws[i]? with
 | none=>rw[e] at hz;cases hz
 | some v=>rw[e] at hz;cases hz;exact⟨v,rfl,rfl⟩
theorem Agw{tss:List (List Int)}{ws:List Nat}(h:∀ v∈ws,v<tss.length):Gd (nar tss ws):=fun v z hz=>by
 obtain⟨_,h1,_⟩:=Wr.mp hz
 obtain⟨u,hu,rfl⟩:=List.mem_map.mp h1
 have:=h u hu
 rw[nar,O3]
 show(0:Int)≤(u:Int)∧(u:Int)<_
 omega
def AcW (K:PySem.W.Frag):Sp:=fun vs H Q _=>∃(y b:Addr) (rs:List Addr) (tss:List (List Int)) (ws:List Nat),vs=[.ref y,.ref b]∧NL H y rs (nar tss ws)∧SqL K H b (vI (cI ws))∧tss.length≤200∧NS tss.length ws ∧
 (Ac3 tss ws→∀ H',Ar H H'→Q .non H')∧(¬Ac3 tss ws→∀(l:Addr) (fs:List Nat) (H':Hp),Ar H H'→H l=none→H' l=some (.lst (vI (cI fs)))→Lf tss ws fs→Q (.ref l) H')
theorem Uw(T:Txt K mg t):BP P w K mg base CX0 2 t.Pj t.Pk ["lower", "strands"] (AcW K):=by
 refine T.Kv.F.ok Jp (fun vs H Q E h=>?_) (fun cdv A outer s H vs Q E hr h=>?_)
 ·obtain⟨y,b,rs,tss,ws,rfl,_⟩:=h
  rfl
 ·obtain⟨y,b,rs,tss,ws,rfl,N,hB,Aia,W,k1,k2⟩:=h
  have hsz:sizeLine=16777216:=sizeLine_eq
  have wl:=W.len
  have nl:(nar tss ws).length=tss.length:=by rw[nar,O3]
  refine⟨_,(Ab (Bo PassesOwn.never rfl (BR (K:=K) (pv 1)) (Ba (i:=2) Jp.nd rfl (Or.inl rfl))
    (Ab (Al (i:=3) Jp.nd rfl (Or.inr rfl) (Av ((Qa T).mono (by decide)) hr rfl T.Ha.m T.Ha.F.kp T.Ha.b .nil Bj (Aa (pv 0) (Aa (pv 2) Ac))))
    (Ad (Bh (Ag Em (Ah Abe rfl T.Bm Bc (Aa (pv 3) Ac)) (Ah (Ak (K:=K)) rfl T.Bm Bc (Aa (pv 1) Ac)) (Am _))
     (Ad (Aw (Gp (Eb.mk (By:=[3]) (Nc:=["strand", "ahead"]) rfl (by decide +kernel) (by decide +kernel) (Dy (sc0:=Aj Ke) rfl (by decide +kernel)) rfl rfl rfl (by decide +kernel) (fun k j h=>match k,h with | 0,h=>by obtain rfl:=Option.some.inj h;exact⟨_,rfl,rfl,rfl⟩ | _+1,h=>by simp at h)) rfl (BR (K:=K) (pv 1)) (fun _ _ _ _ _=>.one (Qi (Mh (HX hr) (pv 0) (pv 1)))) (fun _ _ _ _ _=>(pv 0)))))
     Aq))))
   (Ad (Aw Fz))),?_⟩
  refine⟨_,rfl,_,rfl,⟨_,hB⟩,Cr (K:=K) (a:=b) (xs:=vI (cI ws)) (fun i σ H5=>∃(v2 v3:Option V),σ=[some (.ref y),some (.ref b),v2,v3]∧Ar H H5∧∀ u∈ws.take i,∀ v∈ws,∃ L,Wy (nar tss ws) u L v)
   ⟨none,none,rfl,.refl _,fun u h=>(by simp at h)⟩ (fun i σ H5 _ ⟨_,_,_,s5,_⟩=>s5.seq hB) ?_ ?_⟩
  ·rintro i x σ H5 hx ⟨v2,v3,rfl,s5,hall⟩
   obtain⟨u,hu,rfl⟩:=ZK hx
   have um:=AkI hu
   refine⟨_,rfl,_,rfl,y,rs,nar tss ws,u,rfl,N.same s5,Agw W.lt,by omega,by rw[nl];exact W.lt u um,fun d ps dp H6 s6 nd hd B D=>?_⟩
   have u6:=s5.trans s6
   refine⟨_,rfl,d,_,rfl,hd,_,rfl,_,_,rfl,.inl (u6.seq hB),_,_,rfl,rfl,_,rfl,?_⟩
   rw[YF,Bx,Nz]
   refine Dg (fun h=>?_) (fun h=>?_)
   ·obtain⟨nc,L⟩:=B.lift D W um (by omega)
    refine⟨_,rfl,_,rfl,⟨_,u6.seq hB⟩,GC (K:=K) (a:=b) (xs:=vI (cI ws)) (fun j ys H7=>H7=H6∧ys=vI (cI ((ws.take j).filter fun v=>decide (v∉ps.map (·.1))))) ⟨rfl,rfl⟩ ?_ ?_ ?_ ?_⟩
    ·rintro j ys H7 hj ⟨rfl,rfl⟩
     refine⟨u6.seq hB,?_⟩
     rw[Bx,Nz]
     have:=AlG (fun v=>decide (v∉ps.map (·.1))) (ws.take j)
     rw[AkU] at this
     omega
    ·rw[Bx,Nz];omega
    ·rintro j xw ys H7 hj hxw ⟨rfl,rfl⟩
     obtain⟨v,hv,rfl⟩:=ZK hxw
     refine⟨_,rfl,_,rfl,d,_,rfl,Hq.k (k:=Sum.inl (v:Int)) hd,_,rfl,?_⟩
     rw[Aa1 B]
     have st:=Ab0 (p:=fun v=>decide (v∉ps.map (·.1))) hv
     refine Dg (fun h=>?_) (fun h=>?_)
     ·refine⟨_,rfl,?_⟩
      refine CN.of hj ⟨rfl,?_⟩
      rw[st,if_pos (decide_eq_true h)]
      unfold cI
      rw[AkL]
      exact GF _ _
     ·refine CN.of hj ⟨rfl,?_⟩
      rw[st,decide_eq_false h,if_neg (by simp),Al5]
    ·rintro ys H7 q ⟨rfl,rfl⟩ hq
     rw[Bx,Nz,Alq]
     exact k2 nc q _ _ (u6.new hq) (u6.free hq) Ae L
   ·refine⟨_,_,rfl,u6,fun u' hu' v hv=>?_⟩
    rw[Ale,hu] at hu'
    rcases List.mem_append.mp hu' with h' | h'
    ·exact hall u' h' v hv
    ·have e:u'=u:=by simpa using h'
     subst e
     obtain⟨j,c,g⟩:=B.full um (by omega) v hv
     have hj:j<dp.length:=by rw[B.len];exact(List.getElem?_eq_some_iff.mp g).1
     exact⟨_,(B.sound j v c dp[j] g (AkD hj)).1⟩
  ·rintro σ H5 ⟨v2,v3,rfl,s5,hall⟩
   rw[Bx,Nz,Alq] at hall
   exact k1 hall H5 s5
theorem Agx(ks:List Nat)(v:Nat):vI (cI ks)++[.int (v:Int)]=vI (cI (ks++[v])):=by
 rw[GF]
 unfold cI
 rw[AkL]
 rfl
theorem Ue{tss:List (List Int)}{u v:Nat}{k:List Int}(hu:u<tss.length):(tss.set u k).getD v []=if u=v then k else tss.getD v []:=by
 rw[AkH,List.getElem?_set]
 by_cases h:u=v
 ·subst h
  rw[if_pos rfl,if_pos rfl,if_pos hu]
  rfl
 ·rw[if_neg h,if_neg h,AkH]
theorem Ug{z:Int}:∀{ks:List Int},z∈ks→∃ j:Nat,ks[j]?=some z∧∀ i:Nat,i<j→ks[i]?≠some z
 | a::ks,h=>by
  by_cases e:a=z
  ·exact⟨0,by rw[e];rfl,fun i hi=>absurd hi (Amb _)⟩
  ·rcases List.mem_cons.mp h with h | h
   ·exact absurd h.symm e
   ·obtain⟨j,h1,h2⟩:=Ug h
    refine⟨j+1,h1,fun i hi=>?_⟩
    cases i with
    | zero=>exact fun z=>e (Option.some.inj z)
    | succ i=>exact h2 i (by omega)
theorem Od{ks:List Int}{j:Nat}{z z':Int}(hj:ks[j]?=some z)(h:z'∈ks)(hn:z'≠z):z'∈ks.eraseIdx j:=by
 rw[Amo]
 obtain⟨i,hi,e⟩:=Alh h
 refine⟨i,fun z0=>?_,by rw[AkD hi,e]⟩
 rw[← z0,AkD hi,e] at hj
 exact hn (Option.some.inj hj)
theorem Vo{ks:List Int}{j:Nat}{z:Int}(hj:ks[j]?=some z):(ks.eraseIdx j).length+1=ks.length:=by
 have h:=(List.getElem?_eq_some_iff.mp hj).1
 rw[Amg,if_pos h]
 omega
theorem NL.Aj5{H:Hp}{y:Addr}{rs:List Addr}{tss:List (List Int)}(N:NL H y rs tss){v:Nat}(hv:v<rs.length):rs[v]≠y:=fun e=>by
 have ht:v<tss.length:=by rw[← N.l];exact hv
 have ha:=N.r v rs[v] tss[v] (AkD hv) (AkD ht)
 rw[e,N.h] at ha
 have e2:rs.map V.ref=vI tss[v]:=by injection ha with ha;injection ha
 have g1:(rs.map V.ref)[0]?=some (.ref rs[0]):=by rw[AkM,AkD (by omega)];rfl
 rw[e2] at g1
 obtain⟨z,_,e3⟩:=Ia g1
 cases e3
theorem NL.mut{H:Hp}{y:Addr}{rs:List Addr}{tss:List (List Int)}{ks:List Int}{v:Nat}(N:NL H y rs tss)(nd:rs.Nodup)(hv:v<rs.length):NL (upd H rs[v] (.lst (vI ks))) y rs (tss.set v ks):=by
 refine⟨by rw[Ax (N.Aj5 hv).symm];exact N.h,by rw[Al9];exact N.l,fun i a ks' h1 h2=>?_⟩
 have ht:v<tss.length:=by rw[← N.l];exact hv
 by_cases e:v=i
 ·subst e
  rw[AlH ht] at h2
  rw[AkD hv] at h1
  cases h1
  cases h2
  exact Ae
 ·rw[AlI e] at h2
  have hne:a≠rs[v]:=fun ea=>by
   have hi:=(List.getElem?_eq_some_iff.mp h1).1
   rw[AkD hi] at h1
   have h1:=Option.some.inj h1
   rw[← h1] at ea
   exact e ((Amc nd).mp ea.symm)
  rw[Ax hne]
  exact N.r i a ks' h1 h2
def Frm (rs:List Addr)(H H':Hp):Prop:=∀(b:Addr) (o:HO),b∉rs→H b=some o→H' b=some o
theorem Frm.same{rs:List Addr}{H H1 H2:Hp}(F:Frm rs H H1)(s:Ar H1 H2):Frm rs H H2:=fun b o hb e=>s _ _ (F b o hb e)
theorem Frm.mut{rs:List Addr}{H H1:Hp}{v:Nat}{o:HO}(F:Frm rs H H1)(hv:v<rs.length):Frm rs H (upd H1 rs[v] o):=fun b o' hb e=>by
 rw[Ax fun z=>hb (by rw[z];exact AkN hv)]
 exact F b o' hb e
structure Stl (tss J0:List (List Int)) (e pk:Nat):Prop where
 len:J0.length=tss.length
 sub:∀(u:Nat) (z:Int),z∈J0.getD u []→z∈tss.getD u []
 sh:∀ u:Nat,(J0.getD u []).length≤(tss.getD u []).length
 keep:∀(u:Nat) (z:Int),z∈tss.getD u []→(u=pk∧z=(e:Int))∨(u=e∧z=(pk:Int))∨z∈J0.getD u []
def Rl (tss:List (List Int))(u v:Nat):Prop:=(v:Int)∈tss.getD u []
theorem Vp{ks:List Int}{j:Nat}{z z':Int}(nd:ks.Nodup)(hj:ks[j]?=some z):z'∈ks.eraseIdx j↔z'∈ks∧z'≠z:=by
 refine⟨fun h=>⟨Aml h,fun e=>?_⟩,fun h=>Od hj h.1 h.2⟩
 rw[Amo] at h
 obtain⟨i,hi,g⟩:=h
 rw[e] at g
 obtain⟨i1,g1⟩:=List.getElem?_eq_some_iff.mp g
 obtain⟨j1,g2⟩:=List.getElem?_eq_some_iff.mp hj
 exact hi ((Amc nd).mp (g1.trans g2.symm))
theorem Aa2{tss:List (List Int)}{s:Nat}:∀{L v:Nat},Wy tss s L v→Rc (Rl tss) s v
 | _,_,.nil=>.nil
 | _,_,.snoc h e=>.snoc (Aa2 h) e
theorem AcX{tss:List (List Int)}{s v:Nat}(h:Rc (Rl tss) s v):∃ L,Wy tss s L v:=by
 induction h with
 | nil=>exact⟨0,.nil⟩
 | snoc _ e ih =>
  obtain⟨L,w⟩:=ih
  exact⟨L+1,.snoc w e⟩
def ZM (K:PySem.W.Frag):Sp:=fun vs H Q _=>∃(y:Addr) (rs:List Addr) (tss:List (List Int)) (e pk:Nat),vs=[.ref y,.int (e:Int),.int (pk:Int)]∧NL H y rs tss∧rs.Nodup∧Gd tss∧tss.length≤200∧(∀ u:Nat,(tss.getD u []).length≤200)∧e<tss.length∧pk<tss.length∧e≠pk∧(e:Int)∈tss.getD pk []∧(pk:Int)∈tss.getD e []∧(∀ u:Nat,(tss.getD u []).Nodup) ∧
 ∀(J0:List (List Int)) (H':Hp) (v:V),NL H' y rs J0→Frm rs H H'→Stl tss J0 e pk→(∀ u:Nat,(J0.getD u []).Nodup)→((v=.non∧Rc (del (Rl tss) pk e) pk e∧∀ u v:Nat,Rl J0 u v↔del (Rl tss) pk e u v)∨(∃(l:Addr) (fs:List Nat),v=.ref l∧¬Rc (del (Rl tss) pk e) pk e∧(∀ u v:Nat,Rl J0 u v↔del (Rl tss) e pk u v)∧H' l=some (.lst (vI (cI fs)))∧l∉rs∧H l=none∧fs.Pairwise (·<·)∧∀ u:Nat,u∈fs↔u<tss.length∧¬Rc (del (Rl tss) pk e) pk u))→Q v H'
theorem Ab1(T:Txt K mg t):BP P w K mg base CX0 2 t.Ys t.Yt ["lower", "end", "pick"] (ZM K):=by
 refine T.settle.F.ok Vj (fun vs H Q E h=>?_) (fun cdv A outer s H vs Q E hr h=>?_)
 ·obtain⟨y,rs,tss,e,pk,rfl,_⟩:=h
  rfl
 ·obtain⟨y,rs,tss,e,pk,rfl,N,nd,G,Aia,r200,he,hpk,hne,m1,m2,dn,k⟩:=h
  have hsz:sizeLine=16777216:=sizeLine_eq
  have lrs:=N.l
  have pr:pk<rs.length:=by omega
  have er:e<rs.length:=by omega
  have apk:atI (rs.map V.ref) (pk:Int)=some (.ref rs[pk]):=Bb (by omega) (by rw[AkJ,AkM,AkD pr];rfl)
  have ae:atI (rs.map V.ref) (e:Int)=some (.ref rs[e]):=Bb (by omega) (by rw[AkJ,AkM,AkD er];rfl)
  have rowAt:∀{H':Hp} {ts:List (List Int)} {u:Nat} (hu:u<rs.length),NL H' y rs ts→H' rs[u]=some (.lst (vI (ts.getD u []))):=fun {H' ts u} hu N'=>by
   have ht:u<ts.length:=by rw[← N'.l];exact hu
   have:=N'.r u rs[u] ts[u] (AkD hu) (AkD ht)
   rw[this,AkH,AkD ht]
   rfl
  obtain⟨j,hj,hno⟩:=Ug m1
  have hrow:=rowAt pr N
  have el:=Vo hj
  have rl:=r200 pk
  refine⟨_,(Ab (Br (Ca (K:=K) PySem.F.plainAttrs_list PySem.F.slot_list_remove PySem.F.type_list_remove Vd (Ai (Ao (K:=K)) (pv 0) (pv 2) (fun _ _=>rfl)) (Aa (pv 1) Ac)))
   (Ab (Al (i:=3) Vj.nd rfl (Or.inr rfl) (Av ((Qa T).mono (by decide)) hr rfl T.Ha.m T.Ha.F.kp T.Ha.b .nil Bj (Aa (pv 0) (Aa (pv 2) Ac))))
   (Ab (Bh (Qi (Ace (HX hr) (pv 1) (pv 3)))
    (Ad (Aw Fz))
    Aq)
   (Ab (Br (Ca (K:=K) PySem.F.plainAttrs_list PySem.F.slot_list_append PySem.F.type_list_append BL (Ai (Ao (K:=K)) (pv 0) (pv 2) (fun _ _=>rfl)) (Aa (pv 1) Ac)))
   (Ab (Br (Ca (K:=K) PySem.F.plainAttrs_list PySem.F.slot_list_remove PySem.F.type_list_remove Vd (Ai (Ao (K:=K)) (pv 0) (pv 1) (fun _ _=>rfl)) (Aa (pv 2) Ac)))
   (Ad (Aw (Gp (Eb.mk (By:=[3]) (Nc:=["strand", "ahead"]) rfl (by decide +kernel) (by decide +kernel) (Dy (sc0:=Aj Tw) rfl (by decide +kernel)) rfl rfl rfl (by decide +kernel) (fun k j h=>match k,h with | 0,h=>by obtain rfl:=Option.some.inj h;exact⟨_,rfl,rfl,rfl⟩ | _+1,h=>by simp at h)) rfl (Be rfl T.Bs (Aa (Ah (Ak (K:=K)) rfl T.Bm Bc (Aa (pv 0) Ac)) Ac)) (fun _ _ _ _ _=>.one (Qi (Mh (HX hr) (pv 0) (pv 1)))) (fun _ _ _ _ _=>(pv 0)))))))))),?_⟩
  refine⟨_,rfl,_,rfl,_,_,_,_,rfl,rfl,SqL.of N.h,apk,.inl ⟨rfl,_,SqL.of hrow⟩,_,rfl,rs[pk],tss.getD pk [],(e:Int),j,rfl,rfl,hrow,hj,hno,by omega,?_⟩
  have N1:=N.mut (ks:=(tss.getD pk []).eraseIdx j) nd pr
  have F1:Frm rs H (upd H rs[pk] (.lst (vI ((tss.getD pk []).eraseIdx j)))):=Frm.mut (fun _ _ _ z=>z) pr
  obtain⟨ts1,e1⟩:∃ x,x=tss.set pk ((tss.getD pk []).eraseIdx j):=⟨_,rfl⟩
  have g1:∀ v,ts1.getD v []=if pk=v then (tss.getD pk []).eraseIdx j else tss.getD v []:=fun v=>by rw[e1];exact Ue hpk
  have l1:ts1.length=tss.length:=by rw[e1,Al9]
  rw[← e1] at N1
  generalize upd H rs[pk] (.lst (vI ((tss.getD pk []).eraseIdx j)))=H1 at N1 F1 ⊢
  have S1:Stl tss ts1 e pk:=by
   refine⟨l1,fun u z hz=>?_,fun u=>?_,fun u z hz=>?_⟩
   ·rw[g1] at hz
    by_cases h:pk=u
    ·rw[if_pos h] at hz;rw[← h];exact Aml hz
    ·rw[if_neg h] at hz;exact hz
   ·rw[g1]
    by_cases h:pk=u
    ·rw[if_pos h,← h];omega
    ·rw[if_neg h];exact AkF _
   ·by_cases h:pk=u
    ·subst h
     by_cases hz':z=(e:Int)
     ·exact .inl ⟨rfl,hz'⟩
     ·refine .inr (.inr ?_)
      rw[g1,if_pos rfl]
      exact Od hj hz hz'
    ·refine .inr (.inr ?_)
     rw[g1,if_neg h]
     exact hz
  have X1:∀ u v:Nat,Rl ts1 u v↔del (Rl tss) pk e u v:=fun u v=>by
   unfold Rl del
   rw[g1]
   by_cases h:pk=u
   ·subst h
    rw[if_pos rfl,Vp (dn pk) hj]
    exact⟨fun z=>⟨z.1,fun q=>z.2 (by omega)⟩,fun z=>⟨z.1,fun q=>z.2 ⟨rfl,by omega⟩⟩⟩
   ·rw[if_neg h]
    exact⟨fun z=>⟨z,fun q=>h q.1.symm⟩,fun z=>z.1⟩
  have d1:∀ u:Nat,(ts1.getD u []).Nodup:=fun u=>by
   rw[g1]
   by_cases h:pk=u
   ·rw[if_pos h];exact(dn pk).sublist (List.eraseIdx_sublist ..)
   ·rw[if_neg h];exact dn u
  have rcX:Rc (Rl ts1) pk e↔Rc (del (Rl tss) pk e) pk e:=⟨fun r=>r.mono fun u v g=>(X1 u v).mp g,fun r=>r.mono fun u v g=>(X1 u v).mpr g⟩
  have G1:Gd ts1:=fun u z hz=>by
   have:=G u z (S1.sub u z hz)
   rw[l1]
   exact this
  refine⟨_,rfl,_,rfl,y,rs,ts1,pk,rfl,N1,G1,by omega,by omega,fun d ps dp H2 s2 ndd hd B D=>?_⟩
  have N2:=N1.same s2
  have F2:=F1.same s2
  have Aib:∀{v:Nat} (hv:v<rs.length),d≠rs[v]:=fun {v} hv z=>N1.isS (AkN hv) (by rw[← z];exact ndd)
  refine⟨_,rfl,_,rfl,d,_,rfl,Hq.k (k:=Sum.inl (e:Int)) hd,_,rfl,?_⟩
  cases hval:Gr (Hu ps) (Sum.inl (e:Int)) with
  | some o =>
   refine Jm ?_
   have hin:∃(jj:Nat) (c:Option Nat),ps[jj]?=some (e,c):=Classical.byContradiction fun hn=>by
    have:Gr (Hu ps) (Sum.inl (e:Int))=none:=M3 fun a ha=>by
     obtain⟨j',hj',e'⟩:=Alh ha
     exact hn ⟨j',a,by rw[← e'];exact AkD hj'⟩
    rw[hval] at this
    cases this
   obtain⟨jj,cc,gg⟩:=hin
   have hjj:jj<dp.length:=by rw[B.len];exact(List.getElem?_eq_some_iff.mp gg).1
   exact k ts1 H2 .non N2 F2 S1 d1 (.inl ⟨rfl,rcX.mp (Aa2 (B.sound jj e cc dp[jj] gg (AkD hjj)).1),X1⟩)
  | none =>
   refine Ci ?_
   have AeS:=rowAt pr N2
   have rl1:=S1.sh pk
   refine⟨_,rfl,_,rfl,_,_,_,_,rfl,rfl,SqL.of N2.h,apk,.inl ⟨rfl,_,SqL.of AeS⟩,_,rfl,_,_,_,rfl,rfl,AeS,(by rw[Bx];omega),?_⟩
   rw[GF]
   have N3:=N2.mut (ks:=ts1.getD pk []++[(e:Int)]) nd pr
   have F3:=F2.mut (o:=.lst (vI (ts1.getD pk []++[(e:Int)]))) pr
   have hd3:(upd H2 rs[pk] (.lst (vI (ts1.getD pk []++[(e:Int)])))) d=some (.dK (Hu ps)):=by rw[Ax (Aib pr)];exact hd
   obtain⟨ts2,e2⟩:∃ x,x=ts1.set pk (ts1.getD pk []++[(e:Int)]):=⟨_,rfl⟩
   have g2:∀ v,ts2.getD v []=if pk=v then ts1.getD pk []++[(e:Int)] else ts1.getD v []:=fun v=>by rw[e2];exact Ue (by omega)
   have l2:ts2.length=tss.length:=by rw[e2,Al9];exact l1
   rw[← e2] at N3
   generalize upd H2 rs[pk] (.lst (vI (ts1.getD pk []++[(e:Int)])))=H3 at N3 F3 hd3 ⊢
   have pe:¬pk=e:=fun z=>hne z.symm
   have ge:ts2.getD e []=tss.getD e []:=by rw[g2,if_neg pe,g1,if_neg pe]
   have m3:(pk:Int)∈ts2.getD e []:=by rw[ge];exact m2
   obtain⟨j',hj',hno'⟩:=Ug m3
   have AeT:=rowAt er N3
   have el':=Vo hj'
   have re:=r200 e
   rw[← ge] at re
   refine⟨_,rfl,_,rfl,_,_,_,_,rfl,rfl,SqL.of N3.h,ae,.inl ⟨rfl,_,SqL.of AeT⟩,_,rfl,rs[e],ts2.getD e [],(pk:Int),j',rfl,rfl,AeT,hj',hno',by omega,?_⟩
   have N4:=N3.mut (ks:=(ts2.getD e []).eraseIdx j') nd er
   have F4:=F3.mut (o:=.lst (vI ((ts2.getD e []).eraseIdx j'))) er
   have hd4:(upd H3 rs[e] (.lst (vI ((ts2.getD e []).eraseIdx j')))) d=some (.dK (Hu ps)):=by rw[Ax (Aib er)];exact hd3
   obtain⟨ts3,e3⟩:∃ x,x=ts2.set e ((ts2.getD e []).eraseIdx j'):=⟨_,rfl⟩
   have g3:∀ v,ts3.getD v []=if e=v then (ts2.getD e []).eraseIdx j' else ts2.getD v []:=fun v=>by rw[e3];exact Ue (by omega)
   have l3:ts3.length=tss.length:=by rw[e3,Al9];exact l2
   rw[← e3] at N4
   generalize upd H3 rs[e] (.lst (vI ((ts2.getD e []).eraseIdx j')))=H4 at N4 F4 hd4 ⊢
   have S3:Stl tss ts3 e pk:=by
    refine⟨l3,fun u z hz=>?_,fun u=>?_,fun u z hz=>?_⟩
    ·rw[g3] at hz
     by_cases h:e=u
     ·rw[if_pos h] at hz;rw[← h,← ge];exact Aml hz
     ·rw[if_neg h,g2] at hz
      by_cases h':pk=u
      ·rw[if_pos h'] at hz
       rw[← h']
       rcases List.mem_append.mp hz with q | q
       ·exact S1.sub pk z q
       ·rw[List.mem_singleton.mp q];exact m1
      ·rw[if_neg h'] at hz
       exact S1.sub u z hz
    ·rw[g3]
     by_cases h:e=u
     ·rw[if_pos h,← h,← ge];omega
     ·rw[if_neg h,g2]
      by_cases h':pk=u
      ·rw[if_pos h',← h',AkG,g1,if_pos rfl,Ali]
       omega
      ·rw[if_neg h']
       exact S1.sh u
    ·by_cases h:e=u
     ·subst h
      by_cases hz':z=(pk:Int)
      ·exact .inr (.inl ⟨rfl,hz'⟩)
      ·refine .inr (.inr ?_)
       rw[g3,if_pos rfl]
       exact Od hj' (by rw[ge];exact hz) hz'
     ·rcases S1.keep u z hz with q | q | q
      ·refine .inr (.inr ?_)
       rw[g3,if_neg h,g2,if_pos q.1.symm,q.2]
       exact Ald _ AkS
      ·exact absurd q.1.symm h
      ·refine .inr (.inr ?_)
       rw[g3,if_neg h,g2]
       by_cases h':pk=u
       ·rw[if_pos h',h'];exact Al8 _ q
       ·rw[if_neg h'];exact q
   have noR:¬Rc (del (Rl tss) pk e) pk e:=fun r=>by
    obtain⟨L,w'⟩:=AcX (rcX.mpr r)
    obtain⟨j1,c1,x1,g1',_⟩:=B.reach D L e w'
    rw[B.val g1'] at hval
    cases hval
   have X3:∀ u v:Nat,Rl ts3 u v↔del (Rl tss) e pk u v:=fun u v=>by
    unfold Rl del
    rw[g3]
    by_cases h:e=u
    ·subst h
     rw[if_pos rfl,Vp (by rw[ge];exact dn e) hj',ge]
     exact⟨fun z=>⟨z.1,fun q=>z.2 (by omega)⟩,fun z=>⟨z.1,fun q=>z.2 ⟨rfl,by omega⟩⟩⟩
    ·rw[if_neg h,g2]
     by_cases h':pk=u
     ·subst h'
      rw[if_pos rfl]
      refine⟨fun z=>⟨?_,fun q=>h q.1.symm⟩,fun z=>?_⟩
      ·rcases List.mem_append.mp z with q | q
       ·exact S1.sub pk _ q
       ·rw[List.mem_singleton.mp q];exact m1
      ·by_cases q:v=e
       ·rw[q];exact Ald _ AkS
       ·exact Al8 _ ((X1 pk v).mpr ⟨z.1,fun w'=>q w'.2⟩)
     ·rw[if_neg h',g1,if_neg h']
      exact⟨fun z=>⟨z,fun q=>h q.1.symm⟩,fun z=>z.1⟩
   have d3:∀ u:Nat,(ts3.getD u []).Nodup:=fun u=>by
    rw[g3]
    by_cases h:e=u
    ·rw[if_pos h,ge];exact(dn e).sublist (List.eraseIdx_sublist ..)
    ·rw[if_neg h,g2]
     by_cases h':pk=u
     ·rw[if_pos h']
      refine List.nodup_append.mpr ⟨d1 pk,by simp,fun a ha b hb=>?_⟩
      rw[List.mem_singleton.mp hb]
      intro q
      rw[q] at ha
      exact((X1 pk e).mp ha).2 ⟨rfl,rfl⟩
     ·rw[if_neg h'];exact d1 u
   have lN:(rs.map V.ref).length=tss.length:=by rw[AkE];exact lrs
   refine⟨_,rfl,_,_,rfl,.inl (SqL.of N4.h),_,rfl,(by omega),(by rw[lN];omega),?_⟩
   rw[AkJ,lN]
   have inP:∀ u:Nat,u∈ps.map (·.1)↔Rc (del (Rl tss) pk e) pk u:=fun u=>by
    constructor
    ·intro hu
     obtain⟨jj,cc,gg⟩:=Ti hu
     have hjj:jj<dp.length:=by rw[B.len];exact(List.getElem?_eq_some_iff.mp gg).1
     exact(Aa2 (B.sound jj u cc dp[jj] gg (AkD hjj)).1).mono fun u v g=>(X1 u v).mp g
    ·intro r
     obtain⟨L,w'⟩:=AcX (r.mono fun u v g=>(X1 u v).mpr g)
     obtain⟨j1,c1,x1,g1',_⟩:=B.reach D L u w'
     exact List.mem_map.mpr ⟨(u,c1),AkI g1',rfl⟩
   refine EY (lo:=0) (n:=tss.length) (fun i ys H5=>H5=H4∧ys=vI (cI ((List.range i).filter fun v=>decide (v∉ps.map (·.1))))) ⟨rfl,rfl⟩ ?_ ?_ ?_ ?_
   ·rintro i ys H5 hi ⟨rfl,rfl⟩
    rw[Bx,Nz]
    have:=AlG (fun v=>decide (v∉ps.map (·.1))) (List.range i)
    rwa [AkV] at this
   ·omega
   ·rintro i ys H5 hi ⟨rfl,rfl⟩
    refine⟨_,rfl,_,rfl,d,_,rfl,Hq.k (k:=Sum.inl (0+(i:Int))) hd4,_,rfl,?_⟩
    have st:(List.range (i+1)).filter (fun v=>decide (v∉ps.map (·.1)))=(List.range i).filter (fun v=>decide (v∉ps.map (·.1)))++(if i∉ps.map (·.1) then [i] else []):=by
     rw[Alx,AlN]
     congr 1
     by_cases h:i∉ps.map (·.1)
     ·rw[if_pos h,AlF (p:=fun v=>decide (v∉ps.map (·.1))) (decide_eq_true h)];rfl
     ·rw[if_neg h,AlE (p:=fun v=>decide (v∉ps.map (·.1))) (by rw[decide_eq_false h];simp)];rfl
    rw[show(0:Int)+(i:Int)=(i:Int) by omega,Aa1 B]
    refine Dg (fun h=>?_) (fun h=>?_)
    ·refine⟨_,rfl,?_⟩
     refine CN.of hi ⟨rfl,?_⟩
     rw[st,if_pos h,Agx]
    ·exact CN.of hi ⟨rfl,by rw[st,if_neg h,Al5]⟩
   ·rintro ys H5 q ⟨rfl,rfl⟩ hq
    have s6:=Ar.upd (o:=.lst (vI (cI ((List.range tss.length).filter fun v=>decide (v∉ps.map (·.1)))))) hq
    have qno:q∉rs:=fun z=>N4.isS z hq
    have qH:H q=none:=by
     cases hH:H q with
     | none=>rfl
     | some o=>rw[F4 q o qno hH] at hq;cases hq
    refine k ts3 _ (.ref q) (N4.same s6) (F4.same s6) S3 d3 (.inr ⟨q,_,rfl,noR,X3,Ae,qno,qH,List.Pairwise.filter _ AlL,fun u=>?_⟩)
    rw[Ama,List.mem_range,decide_eq_true_iff,inP]
theorem Uh{cl:List (List Nat)}{m n:Nat}(C:Hc cl m n):Gd (lows cl m):=fun v z hz=>by
 have hn:=C.hn
 have ll:=JC cl m
 by_cases h:v<m+cl.length
 ·by_cases h1:v<m
  ·rw[AkH,O2 h1] at hz
   obtain⟨p,hp,_,e⟩:=Yd.mp hz
   rw[ll,e]
   omega
  ·have e:v=m+(v-m):=by omega
   have hp:v-m<cl.length:=by omega
   rw[e,AkH,Mm hp] at hz
   obtain⟨q,hq,_,e⟩:=Ye.mp hz
   rw[ll,e]
   omega
 ·rw[AkH,Alc (by rw[ll];omega)] at hz
  simp at hz
theorem YG{cl:List (List Nat)}{m n:Nat}(C:Hc cl m n)(u:Nat):((lows cl m).getD u []).length≤200:=by
 have c2:=C.n40
 have c4:=C.m40
 have hn:=C.hn
 by_cases h:u<m+cl.length
 ·by_cases h1:u<m
  ·rw[AkH,O2 h1]
   have:=Yg cl m u cl.length
   show(Kd cl m u cl.length).length≤200
   omega
  ·have e:u=m+(u-m):=by omega
   have hp:u-m<cl.length:=by omega
   rw[e,AkH,Mm hp]
   have:=Yh cl[u-m] m
   show(lowP cl[u-m] m).length≤200
   omega
 ·rw[AkH,Alc (by rw[JC];omega)]
  exact AkP _
theorem Aa3{tss:List (List Int)}(G:Gd tss):nar tss (List.range tss.length)=tss:=by
 refine AlB fun v=>?_
 by_cases h:v<tss.length
 ·rw[nar,Yj h,if_pos (List.mem_range.mpr h),AkD h]
  have eg:tss.getD v []=tss[v]:=by rw[AkH,AkD h];rfl
  rw[Aeb,eg]
  refine congrArg some (List.filter_eq_self.mpr fun z hz=>decide_eq_true ?_)
  have:=G v z (by rw[eg];exact hz)
  have e:z=((z.toNat:Nat):Int):=by omega
  rw[e]
  exact Wq.mpr (List.mem_range.mpr (by omega))
 ·rw[Alc (by rw[nar,O3];omega),Alc (by omega)]
theorem AcY{N:Nat}(h:1≤N):NS N (List.range N):=by
 refine⟨fun e=>?_,AlL,fun v hv=>List.mem_range.mp hv⟩
 have:=congrArg List.length e
 rw[AkV] at this
 simp at this
 omega
theorem Frm.keep{rs:List Addr}{H0 H H':Hp}(F:Frm rs H H')(s:Ar H0 H)(fr:Frs H0 rs):Ar H0 H':=fun b o e=>F b o (fun z=>by rw[fr.2 b z] at e;cases e) (s _ _ e)
theorem NL.out{H:Hp}{y q:Addr}{rs:List Addr}{tss:List (List Int)}{o:HO}(N:NL H y rs tss)(h1:q∉rs)(h2:q≠y):NL (upd H q o) y rs tss :=
 ⟨by rw[Ax h2.symm];exact N.h,N.l,fun i a ks g1 g2=>by rw[Ax fun z=>h1 (by rw[← z];exact AkI g1)];exact N.r i a ks g1 g2⟩
theorem R9{cl:List (List Nat)}{m n:Nat}(C:Hc cl m n)(u v:Nat):Rl (lows cl m) u v↔Ed m n (sg2 cl) u v:=by
 have hn:=C.hn
 unfold Rl
 by_cases h1:u<m
 ·rw[AkH,O2 h1]
  show(v:Int)∈Kd cl m u cl.length↔_
  rw[Yd]
  constructor
  ·rintro⟨p,h2,h3,h4⟩;exact .inl ⟨p,by omega,h1,by omega,h3⟩
  ·rintro(⟨p,h2,h3,h4,h5⟩ | ⟨p,h2,h3,h4,h5⟩)
   ·exact⟨p,by omega,h5,by omega⟩
   ·omega
 ·by_cases h2:u<m+n
  ·obtain⟨p,rfl⟩:∃ p,u=m+p:=⟨u-m,by omega⟩
   have hp:p<cl.length:=by omega
   have e1:cl.getD p []=cl[p]:=by rw[AkH,AkD hp];rfl
   rw[AkH,Mm hp]
   show(v:Int)∈lowP cl[p] m↔_
   rw[Ye]
   constructor
   ·rintro⟨e,h3,h4,h5⟩
    have ev:v=e:=by omega
    subst ev
    exact .inr ⟨p,by omega,h3,rfl,by unfold sg2;rw[e1];exact h4⟩
   ·rintro(⟨p',h3,h4,h5,h6⟩ | ⟨p',h3,h4,h5,h6⟩)
    ·omega
    ·have ep:p'=p:=by omega
     subst ep
     unfold sg2 at h6
     rw[e1] at h6
     exact⟨v,h4,h6,rfl⟩
  ·rw[AkH,Alc (by rw[JC];omega)]
   constructor
   ·intro z;simp at z
   ·rintro(⟨p',h3,h4,h5,h6⟩ | ⟨p',h3,h4,h5,h6⟩) <;> omega
theorem Aa4{cl:List (List Nat)}{m n:Nat}(C:Hc cl m n):Ac3 (lows cl m) (List.range (m+n))↔SC (m+n) (Ed m n (sg2 cl)):=by
 have ll:(lows cl m).length=m+n:=by rw[JC,C.hn]
 have na:nar (lows cl m) (List.range (m+n))=lows cl m:=by rw[← ll];exact Aa3 (Uh C)
 unfold Ac3 SC
 rw[na]
 constructor
 ·intro h u v hu hv
  obtain⟨L,w'⟩:=h u (List.mem_range.mpr hu) v (List.mem_range.mpr hv)
  exact(Aa2 w').mono fun a b g=>(R9 C a b).mp g
 ·intro h u hu v hv
  exact AcX ((h u v (List.mem_range.mp hu) (List.mem_range.mp hv)).mono fun a b g=>(R9 C a b).mpr g)
theorem Aev{cl:List (List Nat)}{m n:Nat}(C:Hc cl m n)(u:Nat):((lows cl m).getD u []).Nodup:=by
 have hn:=C.hn
 by_cases h1:u<m
 ·rw[AkH,O2 h1]
  show(Kd cl m u cl.length).Nodup
  unfold Kd
  rw[AlO,Amm]
  exact(List.Pairwise.filter _ AlL).imp fun {a b} h=>by omega
 ·by_cases h2:u<m+n
  ·obtain⟨p,rfl⟩:∃ p,u=m+p:=⟨u-m,by omega⟩
   have hp:p<cl.length:=by omega
   rw[AkH,Mm hp]
   show(lowP cl[p] m).Nodup
   unfold lowP
   rw[AlO,Amm]
   exact(List.Pairwise.filter _ AlL).imp fun {a b} h=>by omega
  ·rw[AkH,Alc (by rw[JC];omega)]
   exact List.nodup_nil
structure Stt (cl:List (List Nat)) (m n:Nat) (tss:List (List Int)) (f:Nat→Nat→Nat) (i j:Nat):Prop where
 len:tss.length=m+n
 gd:Gd tss
 sh:∀ u:Nat,(tss.getD u []).length≤200
 nd:∀ u:Nat,(tss.getD u []).Nodup
 ed:∀ u v:Nat,Rl tss u v↔Ed m n (mix f (sg2 cl) i j) u v
 pr:Prc m n (sg2 cl) f i j
theorem Stt.plain{cl:List (List Nat)}{m n:Nat}{tss:List (List Int)}{cf:List (List Nat)}{us:List Nat}{i j c:Nat}(S:Stt cl m n tss (cur cf us) i j)(C:Hc cl m n)(ci:cf.length=i)(uj:us.length=j)(hi:i<n)(hj:j<m)(hc:sg2 cl i j=c)(h63:c≠63)(hs:Sq3 c):Stt cl m n tss (cur cf (us++[c])) i (j+1):=by
 subst ci
 subst uj
 have h0:sg2 cl cf.length us.length≠63:=by rw[hc];exact h63
 have same:∀ p e,Ld (mix (cur cf us) (sg2 cl) cf.length us.length) cf.length us.length c p e=mix (cur cf us) (sg2 cl) cf.length us.length p e:=fun p e=>by
  by_cases q:p=cf.length∧e=us.length
  ·rw[q.1,q.2,Ga,Tn,hc]
  ·exact DW q
 have P2:Prc m n (sg2 cl) (Ld (cur cf us) cf.length us.length c) cf.length (us.length+1):=S.pr.step hi hj (by
  rcases hs with h | h | h
  ·exact .inl h
  ·exact .inr h
  ·exact absurd h h63) (fun _=>hc.symm) (fun z=>absurd z h0) (Jb (fun u v g=>(Ed.congr fun p e _ _=>(same p e).symm).mp g) S.pr.sc)
 refine⟨S.len,S.gd,S.sh,S.nd,fun u v=>?_,P2.Qy fun p e b=>Mp p e b⟩
 rw[S.ed,Ed.congr fun p e _ _=>(same p e).symm,Ed.congr fun p e _ _=>(Tj (cur cf us) (sg2 cl) cf.length us.length c p e).symm]
 exact Ed.congr fun p e _ _=>Ig (fun p e b=>Mp p e b) p e
theorem Stt.open'{cl:List (List Nat)}{m n:Nat}{tss J0:List (List Int)}{cf:List (List Nat)}{us:List Nat}{i j c:Nat}(S:Stt cl m n tss (cur cf us) i j)(T:Stl tss J0 j (m+i))(nd':∀ u:Nat,(J0.getD u []).Nodup)(C:Hc cl m n)(ci:cf.length=i)(uj:us.length=j)(hi:i<n)(hj:j<m)(hq:sg2 cl i j=63)
  (h:(c=35∧Rc (del (Rl tss) (m+i) j) (m+i) j∧∀ u v:Nat,Rl J0 u v↔del (Rl tss) (m+i) j u v)∨(c=46∧¬Rc (del (Rl tss) (m+i) j) (m+i) j∧∀ u v:Nat,Rl J0 u v↔del (Rl tss) j (m+i) u v)):Stt cl m n J0 (cur cf (us++[c])) i (j+1):=by
 subst ci
 subst uj
 have m63:mix (cur cf us) (sg2 cl) cf.length us.length cf.length us.length=63:=by rw[Tn];exact hq
 have dl:∀ a b u v,del (Rl tss) a b u v↔del (Ed m n (mix (cur cf us) (sg2 cl) cf.length us.length)) a b u v:=fun a b u v=>by unfold del;rw[S.ed]
 have rcq:Rc (del (Rl tss) (m+cf.length) us.length) (m+cf.length) us.length↔Rc (del (Ed m n (mix (cur cf us) (sg2 cl) cf.length us.length)) (m+cf.length) us.length) (m+cf.length) us.length:=⟨fun r=>r.mono fun u v g=>(dl _ _ u v).mp g,fun r=>r.mono fun u v g=>(dl _ _ u v).mpr g⟩
 have ed':∀ u v:Nat,Rl J0 u v↔Ed m n (Ld (mix (cur cf us) (sg2 cl) cf.length us.length) cf.length us.length c) u v:=fun u v=>by
  rcases h with ⟨rfl,_,h⟩ | ⟨rfl,_,h⟩
  ·rw[h,dl,AhD hi hj m63]
  ·rw[h,dl,AhE hi hj m63]
 have sc':SC (m+n) (Ed m n (Ld (mix (cur cf us) (sg2 cl) cf.length us.length) cf.length us.length c)):=by
  rcases h with ⟨rfl,r,_⟩ | ⟨rfl,r,_⟩
  ·exact Jb (fun u v g=>(AhD hi hj m63 u v).mpr g) (Ac4 S.pr.sc (rcq.mp r))
  ·exact Jb (fun u v g=>(AhE hi hj m63 u v).mpr g) (Ac5 C.m2 C.n2 (fun e p he hp=>Ed.full _ he hp) S.pr.sc hj hi fun z=>r (rcq.mpr z))
 have P2:Prc m n (sg2 cl) (Ld (cur cf us) cf.length us.length c) cf.length (us.length+1):=S.pr.step hi hj (by
  rcases h with ⟨z,_⟩ | ⟨z,_⟩
  ·exact .inl z
  ·exact .inr z) (fun z=>absurd hq z) (fun _=>by
  rcases h with ⟨z,r,_⟩ | ⟨z,r,_⟩
  ·exact⟨fun _=>rcq.mp r,fun _=>z⟩
  ·exact⟨fun q=>(by rw[z] at q;cases q),fun q=>absurd (rcq.mpr q) r⟩) sc'
 refine⟨by rw[T.len,S.len],fun u z hz=>?_,fun u=>AkZ (T.sh u) (S.sh u),nd',fun u v=>?_,P2.Qy fun p e b=>Mp p e b⟩
 ·have:=S.gd u z (T.sub u z hz)
  rw[T.len]
  exact this
 ·rw[ed',Ed.congr fun p e _ _=>(Tj (cur cf us) (sg2 cl) cf.length us.length c p e).symm]
  exact Ed.congr fun p e _ _=>Ig (fun p e b=>Mp p e b) p e
theorem Stt.row{cl:List (List Nat)}{m n:Nat}{tss:List (List Int)}{cf:List (List Nat)}{us:List Nat}{i:Nat}(S:Stt cl m n tss (cur cf us) i m)(ci:cf.length=i):Stt cl m n tss (cur (cf++[us]) []) (i+1) 0:=by
 subst ci
 have hf:∀ p e,(p<cf.length+1∨(p=cf.length+1∧e<0))→cur cf us p e=cur (cf++[us]) [] p e:=fun p e b=>R7 [] p e (by omega)
 refine⟨S.len,S.gd,S.sh,S.nd,fun u v=>?_,S.pr.row.Qy hf⟩
 rw[S.ed]
 refine Iff.trans (Ed.congr fun p e _ he=>?_) (Ed.congr fun p e _ _=>Ig hf p e)
 unfold mix
 by_cases q:p<cf.length∨(p=cf.length∧e<m)
 ·rw[if_pos q,if_pos (by omega)]
 ·rw[if_neg q,if_neg (by omega)]
def QG (m n:Nat)(h f:Nat→Nat→Nat)(p e:Nat)(fs:List Nat):Prop:=fs.Pairwise (·<·)∧∀ u:Nat,u∈fs↔u<m+n∧¬Rc (del (Ed m n (mix f h p e)) (m+p) e) (m+p) u
theorem QG.Qy{m n:Nat}{h f f':Nat→Nat→Nat}{p e:Nat}{fs:List Nat}(hf:∀ p' e',(p'<p∨(p'=p∧e'<e))→f p' e'=f' p' e')(c:QG m n h f p e fs):QG m n h f' p e fs:=by
 refine⟨c.1,fun u=>?_⟩
 have e1:Rc (del (Ed m n (mix f h p e)) (m+p) e) (m+p) u↔Rc (del (Ed m n (mix f' h p e)) (m+p) e) (m+p) u:=⟨JD fun p' e' _ _=>Ig hf p' e',JD fun p' e' _ _=>(Ig hf p' e').symm⟩
 rw[c.2 u,e1]
theorem WL{h f:Nat→Nat→Nat}{m:Nat}:∀{i p e:Nat},(p,e)∈plS h f m i→p<i
 | 0,_,_,g=>by cases g
 | i+1,p,e,g=>by
  rcases List.mem_append.mp g with g | g
  ·have:=WL g;omega
  ·obtain⟨x,_,ex⟩:=List.mem_map.mp g
   have:i=p:=congrArg Prod.fst ex
   omega
theorem AcZ{h f:Nat→Nat→Nat}{m i j p e:Nat}(g:(p,e)∈plS h f m i++plR h f i j):p<i∨(p=i∧e<j):=by
 rcases List.mem_append.mp g with g | g
 ·exact .inl (WL g)
 ·obtain⟨x,hx,ex⟩:=List.mem_map.mp g
  have e1:i=p:=congrArg Prod.fst ex
  have e2:x=e:=congrArg Prod.snd ex
  have:=List.mem_range.mp (List.mem_filter.mp hx).1
  exact .inr ⟨e1.symm,by omega⟩
def FoC (B:List Addr)(Pr:Nat→Nat→List Nat→Prop)(H:Hp)(xs:List Addr)(pls:List (Nat × Nat)):Prop:=xs.length=pls.length∧∀(k:Nat) (a:Addr) (p e:Nat),xs[k]?=some a→pls[k]?=some (p,e)→∃(l:Addr) (fs:List Nat),H a=some (.tup [.int (p:Int),.int (e:Int),.ref l])∧l∉B∧H l=some (.lst (vI (cI fs)))∧Pr p e fs
theorem FoC.mem{B B':List Addr}{Pr Pr':Nat→Nat→List Nat→Prop}{H H':Hp}{xs:List Addr}{pls:List (Nat × Nat)}(F:FoC B Pr H xs pls)(h:∀(a:Addr) (ys:List V),H a=some (.tup ys)→H' a=some (.tup ys))(h2:∀(l:Addr) (ys:List V),l∉B→H l=some (.lst ys)→l∉B'∧H' l=some (.lst ys))(h3:∀ p e fs,(p,e)∈pls→Pr p e fs→Pr' p e fs):FoC B' Pr' H' xs pls :=
 ⟨F.1,fun k a p e g1 g2=>by
  obtain⟨l,fs,x1,x2,x3,x4⟩:=F.2 k a p e g1 g2
  obtain⟨y1,y2⟩:=h2 l _ x2 x3
  exact⟨l,fs,h _ _ x1,y1,y2,h3 p e fs (AkI g2) x4⟩⟩
section
variable {B:List Addr}{Pr Pr':Nat→Nat→List Nat→Prop}{H H':Hp}{xs:List Addr}{pls:List (Nat × Nat)}
theorem FoC.Qy(F:FoC B Pr H xs pls)(h:∀ p e fs,(p,e)∈pls→Pr p e fs→Pr' p e fs):FoC B Pr' H xs pls:=F.mem (fun _ _ g=>g) (fun _ _ g1 g2=>⟨g1,g2⟩) h
theorem FoC.same(F:FoC B Pr H xs pls)(s:Ar H H'):FoC B Pr H' xs pls:=F.mem (fun _ _ g=>s _ _ g) (fun _ _ g1 g2=>⟨g1,s _ _ g2⟩) fun _ _ _ _ g=>g
theorem FoC.upd{q:Addr}{o:HO}{zs:List V}(F:FoC B Pr H xs pls)(hb:q∈B)(h:H q=some (.lst zs)):FoC B Pr (upd H q o) xs pls :=
 F.mem (fun a ys g=>by rw[Ax fun z=>by rw[z,h] at g;cases g];exact g) (fun l ys g1 g2=>⟨g1,by rw[Ax fun z=>g1 (by rw[z];exact hb)];exact g2⟩) fun _ _ _ _ g=>g
theorem FoC.frm{y:Addr}{rs:List Addr}{tss:List (List Int)}(F:FoC B Pr H xs pls)(hb:∀ r∈rs,r∈B)(N:NL H y rs tss)(r:Frm rs H H'):FoC B Pr H' xs pls :=
 F.mem (fun a ys g=>r a _ (fun z=>by
  obtain⟨i,hi,e⟩:=Alh z
  have ht:i<tss.length:=by rw[← N.l];exact hi
  have:=N.r i a tss[i] (by rw[AkD hi,e]) (AkD ht)
  rw[this] at g
  cases g) g) (fun l ys g1 g2=>⟨g1,r l _ (fun z=>g1 (hb l z)) g2⟩) fun _ _ _ _ g=>g
theorem FoC.wide{q:Addr}(F:FoC B Pr H xs pls)(h:H q=none):FoC (q::B) Pr H xs pls :=
 F.mem (fun _ _ g=>g) (fun l ys g1 g2=>⟨fun z=>by
  rcases List.mem_cons.mp z with z | z
  ·rw[z,h] at g2;cases g2
  ·exact g1 z,g2⟩) fun _ _ _ _ g=>g
theorem FoC.narrow{q:Addr}(F:FoC (q::B) Pr H xs pls):FoC B Pr H xs pls:=F.mem (fun _ _ g=>g) (fun l ys g1 g2=>⟨fun z=>g1 (AkX _ z),g2⟩) fun _ _ _ _ g=>g
theorem FoC.bare(F:FoC B Pr H xs pls):FoC [] Pr H xs pls:=F.mem (fun _ _ g=>g) (fun l ys g1 g2=>⟨fun z=>(by cases z),g2⟩) fun _ _ _ _ g=>g
theorem FoC.add(F:FoC B Pr H xs pls){a:Addr}{p e:Nat}{l:Addr}{fs:List Nat}(h:H a=some (.tup [.int (p:Int),.int (e:Int),.ref l]))(hb:l∉B)(hl:H l=some (.lst (vI (cI fs))))(hp:Pr p e fs):FoC B Pr H (xs++[a]) (pls++[(p,e)]):=by
 refine⟨by rw[AkG,AkG,F.1];rfl,fun k b p' e' h1 h2=>?_⟩
 rcases HH h1 with ⟨k1,g1⟩ | ⟨k1,g1⟩
 ·rw[AkR (by rw[← F.1];exact k1)] at h2
  exact F.2 k b p' e' g1 h2
 ·rw[k1,F.1,Th] at h2
  cases h2
  rw[g1]
  exact⟨l,fs,h,hb,hl,hp⟩
end
end
section
variable {P:Program}{w:World}{K:PySem.W.Frag}{mg:Str→Option Value}{base:Heap}{t:Adr}
theorem Aa5(h f:Nat→Nat→Nat)(p j:Nat):(plR h f p j).length≤j:=by
 unfold plR
 rw[AkE]
 have:=AlG (fun e=>decide (h p e=63∧f p e=46)) (List.range j)
 rwa [AkV] at this
theorem Aa6(h f:Nat→Nat→Nat)(m:Nat):∀ i,(plS h f m i).length≤i*m
 | 0=>AkP _
 | i+1=>by
  show(plS h f m i++plR h f i m).length≤_
  rw[AkG,Nat.add_mul]
  have h1:=Aa6 h f m i
  have h2:=Aa5 h f i m
  omega
theorem RB{cf:List (List Nat)}{us:List Nat}{c:Nat}(p e:Nat)(b:p<cf.length∨(p=cf.length∧e<us.length)):cur cf (us++[c]) p e=cur cf us p e:=by
 rw[← Mp p e (by omega),DW (by omega)]
theorem Aew{cf:List (List Nat)}{us:List Nat}{c:Nat}:cur cf (us++[c]) cf.length us.length=c:=by
 rw[← Mp cf.length us.length (.inr ⟨rfl,by omega⟩),Ga]
theorem WM(h:Nat→Nat→Nat)(m:Nat){cf:List (List Nat)}{us:List Nat}{c i j:Nat}(ci:cf.length=i)(uj:us.length=j):plS h (cur cf (us++[c])) m i++plR h (cur cf (us++[c])) i (j+1)=(plS h (cur cf us) m i++plR h (cur cf us) i j)++(if h i j=63∧c=46 then [(i,j)] else []):=by
 subst ci
 subst uj
 rw[Tq,Aew,O5 fun p e hp _=>RB p e (.inl hp),O4 fun e he=>RB cf.length e (.inr ⟨rfl,he⟩),Alv]
theorem Agy(h:Nat→Nat→Nat)(m:Nat){cf:List (List Nat)}{us:List Nat}{i:Nat}(ci:cf.length=i):plS h (cur cf us) m i++plR h (cur cf us) i m=plS h (cur (cf++[us]) []) m (i+1):=by
 subst ci
 show _=plS h (cur (cf++[us]) []) m cf.length++plR h (cur (cf++[us]) []) cf.length m
 rw[O5 fun p e hp _=>R7 [] p e (by omega),O4 fun e _=>R7 [] cf.length e (by omega)]
theorem Aj6:V.str "#" = V.str (tx [35]):=congrArg V.str (by decide +kernel)
theorem Aj7:V.str "." = V.str (tx [46]):=congrArg V.str (by decide +kernel)
theorem Ada(us:List Nat):(((us.map fun c=>[c]).map tx).map (·.length)).sum=us.length:=by
 induction us with
 | nil=>rfl
 | cons a us ih =>
  rw[AkQ,AkQ,AkQ,List.sum_cons,ih,An,Ala]
  show 1+us.length=us.length+1
  omega
theorem Ab2(us:List Nat):(us.map fun c=>[c]).flatten=us:=by
 induction us with
 | nil=>rfl
 | cons a us ih=>show[a]++_=_;rw[ih];rfl
structure Told (H H':Hp) (cl:List (List Nat)) (m n:Nat) (lr lf:Addr) (cf:List (List Nat)) (xs:List Addr):Prop where
 r:H' lr=some (.lst (vS cf))
 f:H' lf=some (.lst (xs.map V.ref))
 nr:H lr=none
 nf:H lf=none
 c:Hc cf m n
 fo:FoC [] (QG m n (sg2 cl) (sg2 cf)) H' xs (plS (sg2 cl) (sg2 cf) m n)
 fin:Fnd m n (sg2 cl) (sg2 cf)
 ne:lr≠lf
def Aex (K:PySem.W.Frag):Sp:=fun vs H Q _=>∃(a:Addr) (cl:List (List Nat)) (m n:Nat),vs=[.ref a]∧SqL K H a (vS cl)∧Hc cl m n ∧
 (¬SC (m+n) (Ed m n (sg2 cl))→∀(p l:Addr) (fs:List Nat) (H':Hp),Ar H H'→H' p=some (.tup [.str "cut", .ref l])→H' l=some (.lst (vI (cI fs)))→Lf (lows cl m) (List.range (m+n)) fs→Q (.ref p) H') ∧
 (SC (m+n) (Ed m n (sg2 cl))→∀(p lr lf:Addr) (cf:List (List Nat)) (xs:List Addr) (H':Hp),Ar H H'→H' p=some (.tup [.str "cloth", .ref lr,.ref lf])→Told H H' cl m n lr lf cf xs→Q (.ref p) H')
theorem Qc(T:Txt K mg t):BP P w K mg base CX0 4 t.JQ t.JR ["half"] (Aex K):=by
 refine T.Gy.F.ok Bw (fun vs H Q E h=>?_) (fun cdv A outer s H vs Q E hr h=>?_)
 ·obtain⟨a,cl,m,n,rfl,_⟩:=h
  rfl
 ·obtain⟨a,cl,m,n,rfl,hS,C,k1,k2⟩:=h
  have hsz:sizeLine=16777216:=sizeLine_eq
  refine⟨_,(Ab (Al (i:=1) Bw.nd rfl (Or.inl rfl) (Av ((QD T).mono (by decide)) hr rfl T.Hm.m T.Hm.F.kp T.Hm.b .nil Bj (Aa (pv 0) Ac)))
   (Ab (Al (i:=2) Bw.nd rfl (Or.inl rfl) (Av ((QF T).mono (by decide)) hr rfl T.Hl.m T.Hl.F.kp T.Hl.b .nil Bj (Aa (pv 0) Ac)))
   (Ab (Al (i:=3) Bw.nd rfl (Or.inl rfl) (Av ((Uw T).mono (by decide)) hr rfl T.Kv.m T.Kv.F.kp T.Kv.b .nil Bj (Aa (pv 2) (Aa (Ep Zr rfl T.G3 Fo (Aa (Ep Abs rfl T.Bs AbZ (Aa (Az Cj (Ai (Bl (K:=K)) (pv 1) Af (fun _ _=>rfl)) (Ai (Bl (K:=K)) (pv 1) Af (fun _ _=>rfl))) Ac)) Ac)) Ac))))
   (Ab (Bh (Ag Rw (pv 3) Fz (Am _))
    (Ad (Aw (Gn (Aa Bg (Aa (pv 3) Ac)))))
    Aq)
   (Ab (Al (i:=4) Bw.nd rfl (Or.inl rfl) (CW Ac))
   (Ab (Al (i:=5) Bw.nd rfl (Or.inl rfl) (CW Ac))
   (Ab (Bo PassesOwn.never rfl (Be rfl T.Bs (Aa (Ai (Bl (K:=K)) (pv 1) Af (fun _ _=>rfl)) Ac)) (Ba (i:=6) Bw.nd rfl (Or.inl rfl))
    (Ab (Al (i:=7) Bw.nd rfl (Or.inl rfl) (CW Ac))
    (Ab (Bo PassesOwn.never rfl (Be rfl T.Bs (Aa (Ai (Bl (K:=K)) (pv 1) Af (fun _ _=>rfl)) Ac)) (Ba (i:=8) Bw.nd rfl (Or.inl rfl))
     (Ab (Al (i:=9) Bw.nd rfl (Or.inl rfl) (Ai Bu (Ai (Ao (K:=K)) (pv 0) (pv 6) (fun _ _=>rfl)) (pv 8) (fun _ _=>rfl)))
     (Ab (Bh (Ag Cz (pv 9) Bg (Am _))
      (Ab (Al (i:=10) Bw.nd rfl (Or.inl rfl) (Av ((Ab1 T).mono (by decide)) hr rfl T.settle.m T.settle.F.kp T.settle.b .nil Bj (Aa (pv 2) (Aa (pv 8) (Aa (Az Cj (Ai (Bl (K:=K)) (pv 1) Af (fun _ _=>rfl)) (pv 6)) Ac)))))
      (Ab (Al (i:=9) Bw.nd rfl (Or.inl rfl) (RG (Ag Zc (pv 10) Fz (Am _)) Bg Bg))
      (Ad (Bh (Ag Rw (pv 10) Fz (Am _))
       (Ad (Br (Ca (K:=K) PySem.F.plainAttrs_list PySem.F.slot_list_append PySem.F.type_list_append BL (pv 5) (Aa (Gn (Aa (pv 6) (Aa (pv 8) (Aa (pv 10) Ac)))) Ac))))
       Aq))))
      Aq)
     (Ad (Br (Ca (K:=K) PySem.F.plainAttrs_list PySem.F.slot_list_append PySem.F.type_list_append BL (pv 7) (Aa (pv 9) Ac)))))))
    (Ad (Br (Ca (K:=K) PySem.F.plainAttrs_list PySem.F.slot_list_append PySem.F.type_list_append BL (pv 4) (Aa (Ca (K:=K) PySem.F.plainAttrs_str PySem.F.slot_str_join PySem.F.type_str_join (J4 (K:=K)) Bg (Aa (pv 7) Ac)) Ac)))))))
   (Ad (Aw (Gn (Aa Bg (Aa (pv 4) (Aa (pv 5) Ac))))))))))))),?_⟩
  refine⟨_,rfl,a,cl,m,n,rfl,hS,C,fun p np=>?_⟩
  have c1:=C.n2
  have c2:=C.n40
  have c3:=C.m2
  have c4:=C.m40
  have ll:(lows cl m).length=m+n:=by rw[JC,C.hn]
  have s1:Ar H (upd H p (.tup [.int (m:Int),.int (n:Int)])):=.upd np
  have hp1:(upd H p (.tup [.int (m:Int),.int (n:Int)])) p=some (.tup [.int (m:Int),.int (n:Int)]):=Ae
  generalize upd H p (.tup [.int (m:Int),.int (n:Int)])=H1 at s1 hp1 ⊢
  have t0:atI [V.int (m:Int),V.int (n:Int)] 0=some (.int (m:Int)):=Bb (by decide) rfl
  have t1:atI [V.int (m:Int),V.int (n:Int)] 1=some (.int (n:Int)):=Bb (by decide) rfl
  refine⟨_,rfl,a,cl,m,n,rfl,s1.seq hS,C,fun y rs H2 s2 N F ny=>?_⟩
  have hp2:=s2 _ _ hp1
  obtain⟨r1,r2,r3⟩:=AdP (n:=m+n) (by omega)
  refine⟨_,rfl,_,rfl,_,_,_,_,rfl,rfl,SqT.of hp2,t0,_,rfl,_,_,_,_,rfl,rfl,SqT.of hp2,t1,_,_,rfl,rfl,?_⟩
  dsimp only
  rw[show(m:Int)+(n:Int)=((m+n:Nat):Int) by omega]
  refine⟨_,rfl,fun r nr=>?_⟩
  refine⟨r,0,((m+n:Nat):Int),1,m+n,rfl,Ae,r2,r1,by omega,fun l nl=>?_⟩
  rw[r3]
  have s3:Ar H2 (upd (upd H2 r (Zo r 0 ((m+n:Nat):Int) 1)) l (.lst (vI ((List.range (m+n)).map fun(i:Nat)=>((i:Nat):Int))))):=(Ar.upd nr).new nl
  have hl3:(upd (upd H2 r (Zo r 0 ((m+n:Nat):Int) 1)) l (.lst (vI ((List.range (m+n)).map fun(i:Nat)=>((i:Nat):Int))))) l=some (.lst (vI (cI (List.range (m+n))))):=Ae
  generalize upd (upd H2 r (Zo r 0 ((m+n:Nat):Int) 1)) l (.lst (vI ((List.range (m+n)).map fun(i:Nat)=>((i:Nat):Int))))=H3 at s3 hl3 ⊢
  refine⟨y,l,rs,lows cl m,List.range (m+n),rfl,by rw[← ll,Aa3 (Uh C)];exact N.same s3,SqL.of hl3,by omega,by rw[ll];exact AcY (by omega),fun hc H4 s4=>?_,fun hc lc fs H4 s4 nlc hlc L=>?_⟩
  rotate_left
  ·refine⟨_,rfl,rfl,_,rfl,?_⟩
   refine HY (fun z=>nomatch z) ?_
   refine⟨_,rfl,(by show 2≤sizeLine;decide),fun q nq=>?_⟩
   exact k1 (fun z=>hc ((Aa4 C).mpr z)) q lc fs _ (((s1.trans s2).trans (s3.trans s4)).new nq) Ae ((Ar.upd nq) _ _ hlc) L
  have hsc:=(Aa4 C).mp hc
  have fin:=k2 hsc
  clear k1 k2
  refine⟨_,rfl,rfl,_,rfl,?_⟩
  refine CQ rfl ?_
  have v4:=s3.trans s4
  have u4:=(s1.trans s2).trans v4
  have N4:=N.same v4
  have hp4:=v4 _ _ hp2
  have FH:Frs H rs:=⟨F.1,fun r hr'=>s1.free (F.2 r hr')⟩
  have pno:p∉rs:=fun z=>by rw[F.2 p z] at hp1;cases hp1
  clear s3 s4 v4 hl3 nl nr r1 r2 r3 N hp2 hc s2 hp1 s1 F
  refine⟨AkP _,fun qr nqr=>?_⟩
  have s5:Ar H4 (upd H4 qr (.lst [])):=.upd nqr
  have Adb:(upd H4 qr (.lst [])) qr=some (.lst (vS [])):=Ae
  have Aic:qr∉rs:=fun z=>N4.isS z nqr
  have qry:qr≠y:=fun z=>by have:=N4.h;rw[← z,nqr] at this;cases this
  have pqr:p≠qr:=fun z=>by rw[z,nqr] at hp4;cases hp4
  have Aid:=u4.free nqr
  generalize upd H4 qr (.lst [])=H5 at s5 Adb ⊢
  have N5:=N4.same s5
  refine⟨AkP _,fun qf nqf=>?_⟩
  have s6:Ar H5 (upd H5 qf (.lst [])):=.upd nqf
  have Agz:(upd H5 qf (.lst [])) qf=some (.lst (([]:List Addr).map V.ref)):=Ae
  have Aie:qf∉rs:=fun z=>N5.isS z nqf
  have qfy:qf≠y:=fun z=>by have:=N5.h;rw[← z,nqf] at this;cases this
  have pqf:p≠qf:=fun z=>by have:=s5 _ _ hp4;rw[z,nqf] at this;cases this
  have Aif:=(u4.trans s5).free nqf
  have qrf:qr≠qf:=fun z=>by rw[z,nqf] at Adb;cases Adb
  generalize upd H5 qf (.lst [])=H6 at s6 Agz ⊢
  have N6:=N5.same s6
  have Aig:=s6 _ _ Adb
  have hp6:=(s5.trans s6) _ _ hp4
  have u6:=u4.trans (s5.trans s6)
  clear s5 s6 Adb N5 N4 hp4 u4 nqr nqf
  have S0:Stt cl m n (lows cl m) (cur [] []) 0 0:=by
   refine⟨ll,Uh C,YG C,Aev C,fun u v=>?_,Prc.start hsc _⟩
   rw[R9 C]
   refine Ed.congr fun p e _ _=>?_
   unfold mix
   rw[if_neg (by omega)]
  refine⟨_,rfl,_,_,_,_,rfl,rfl,SqT.of hp6,t1,_,rfl,(by omega),(by omega),?_⟩
  rw[AkJ]
  refine Bp (lo:=0) (n:=n) (fun i σ H7=>∃(tss:List (List Int)) (cf:List (List Nat)) (xs:List Addr) (v6 v7 v8 v9 v10:Option V),σ=[some (.ref a),some (.ref p),some (.ref y),some .non,some (.ref qr),some (.ref qf),v6,v7,v8,v9,v10]∧Ar H H7∧NL H7 y rs tss∧H7 p=some (.tup [.int (m:Int),.int (n:Int)])∧H7 qr=some (.lst (vS cf))∧cf.length=i∧(∀ t∈cf,t.length=m∧∀ c∈t,Sq3 c)∧H7 qf=some (.lst (xs.map V.ref))∧FoC (qr::qf::rs) (QG m n (sg2 cl) (cur cf [])) H7 xs (plS (sg2 cl) (cur cf []) m i)∧Stt cl m n tss (cur cf []) i 0)
   ⟨lows cl m,[],[],none,none,none,none,none,rfl,u6,N6,hp6,Aig,rfl,fun t h=>(by cases h),Agz,⟨rfl,fun k a p e h=>(by simp at h)⟩,S0⟩ ?_ ?_
  ·clear u6 N6 hp6 Aig Agz S0
   rintro i σ H7 hi ⟨tss,cf,xs,v6,v7,v8,v9,v10,rfl,u7,N7,hp7,Ab3,cfl,cfs,Ab4,fo7,S7⟩
   refine⟨AkP _,fun qs nqs=>?_⟩
   have s8:Ar H7 (upd H7 qs (.lst [])):=.upd nqs
   have Ag0:(upd H7 qs (.lst [])) qs=some (.lst (vS (([]:List Nat).map fun c=>[c]))):=Ae
   have Aey:qs∉rs:=fun z=>N7.isS z nqs
   have qsy:qs≠y:=fun z=>by have:=N7.h;rw[← z,nqs] at this;cases this
   have pqs:p≠qs:=fun z=>by rw[z,nqs] at hp7;cases hp7
   have Ag1:=u7.free nqs
   have qsr:qr≠qs:=fun z=>by rw[z,nqs] at Ab3;cases Ab3
   have qsf:qf≠qs:=fun z=>by rw[z,nqs] at Ab4;cases Ab4
   generalize upd H7 qs (.lst [])=H8 at s8 Ag0 ⊢
   have hp8:=s8 _ _ hp7
   refine⟨_,rfl,_,_,_,_,rfl,rfl,SqT.of hp8,t0,_,rfl,(by omega),(by omega),?_⟩
   rw[AkJ]
   refine Bp (lo:=0) (n:=m) (fun j σ H9=>∃(tss:List (List Int)) (us:List Nat) (xs:List Addr) (v8 v9 v10:Option V),σ=[some (.ref a),some (.ref p),some (.ref y),some .non,some (.ref qr),some (.ref qf),some (.int (0+(i:Int))),some (.ref qs),v8,v9,v10]∧Ar H H9∧NL H9 y rs tss∧H9 p=some (.tup [.int (m:Int),.int (n:Int)])∧H9 qr=some (.lst (vS cf))∧H9 qf=some (.lst (xs.map V.ref))∧FoC (qs::qr::qf::rs) (QG m n (sg2 cl) (cur cf us)) H9 xs (plS (sg2 cl) (cur cf us) m i++plR (sg2 cl) (cur cf us) i j)∧Stt cl m n tss (cur cf us) i j∧H9 qs=some (.lst (vS (us.map fun c=>[c])))∧us.length=j∧∀ c∈us,Sq3 c)
    ⟨tss,[],xs,_,_,_,rfl,u7.trans s8,N7.same s8,hp8,s8 _ _ Ab3,s8 _ _ Ab4,by show FoC (qs::qr::qf::rs) (QG m n (sg2 cl) (cur cf [])) H8 xs (plS (sg2 cl) (cur cf []) m i++[]);rw[Al5];exact(fo7.wide nqs).same s8,S7,Ag0,rfl,fun c h=>(by cases h)⟩ ?_ ?_
   ·clear s8 Ag0 hp8 u7 N7 hp7 Ab3 Ab4 fo7 S7 tss xs v8 v9 v10
    rintro j σ H9 hj ⟨tss,us,xs,v8,v9,v10,rfl,u9,N9,hp9,ZP,Adc,fo9,S9,ZQ,usl,uss⟩
    have Ag2:∀ c:Nat,vS (us.map fun c=>[c])++[.str (tx [c])]=vS ((us++[c]).map fun c=>[c]):=fun c=>by rw[Eu,AkL];rfl
    have foN:∀(c:Nat) {H0:Hp} {ys:List Addr},FoC (qs::qr::qf::rs) (QG m n (sg2 cl) (cur cf us)) H0 ys (plS (sg2 cl) (cur cf us) m i++plR (sg2 cl) (cur cf us) i j)→FoC (qs::qr::qf::rs) (QG m n (sg2 cl) (cur cf (us++[c]))) H0 ys (plS (sg2 cl) (cur cf us) m i++plR (sg2 cl) (cur cf us) i j):=fun c {H0 ys} F=>F.Qy fun p e fs g h=>h.Qy fun p' e' b=>(RB p' e' (by have:=AcZ g;omega)).symm
    have Ag3:∀ c:Nat,(us++[c]).length=j+1:=fun c=>by rw[AkG,usl];rfl
    have usg:∀ c:Nat,Sq3 c→∀ d∈us++[c],Sq3 d:=fun c hc d hd=>by
     rcases List.mem_append.mp hd with h | h
     ·exact uss d h
     ·rw[List.mem_singleton.mp h];exact hc
    have Ag4:(vS (us.map fun c=>[c])).length+1≤sizeLine:=by rw[Bq,AkE];omega
    have Acu:xs.length≤40*40+40:=by
     have h1:=Aa6 (sg2 cl) (cur cf us) m i
     have h2:=Aa5 (sg2 cl) (cur cf us) i j
     have h3:=fo9.1
     have h4:i*m≤40*40:=Nat.mul_le_mul (by omega) (by omega)
     rw[AkG] at h3
     omega
    obtain⟨e1,l1'⟩:=Rq C hi
    have e2:=Iw (u:=cl.getD i []) (e:=j) (by rw[l1'];exact hj)
    have sq:Sq3 (sg2 cl i j):=by
     have hil:i<cl.length:=by rw[C.hn];exact hi
     have e3:cl.getD i []=cl[i]:=by rw[AkH,AkD hil];rfl
     have hm:=C.hm cl[i] (AkN hil)
     unfold sg2
     rw[e3,AkH,AkD (by rw[hm];exact hj)]
     exact C.sg cl[i] (AkN hil) _ (AkN _)
    refine⟨_,rfl,_,rfl,_,_,_,_,rfl,rfl,u9.seq hS,e1,_,rfl,_,_,_,rfl,rfl,(by rw[An,l1'];exact Ht c4),e2,?_⟩
    refine⟨_,rfl,rfl,_,rfl,?_⟩
    by_cases hs:sg2 cl i j=63
    ·have hs':(cl.getD i []).getD j 0=63:=hs
     refine Gi (by rw[hs'];exact e63) ?_
     have m63:mix (cur cf us) (sg2 cl) i j i j=63:=by rw[Tn];exact hs
     have q1:Rl tss (m+i) j:=(S9.ed _ _).mpr (.inr ⟨i,hi,hj,rfl,by rw[m63];decide⟩)
     have q2:Rl tss j (m+i):=(S9.ed _ _).mpr (.inl ⟨i,hi,hj,rfl,by rw[m63];decide⟩)
     have pl:=S9.len
     refine⟨_,rfl,_,rfl,_,rfl,_,_,_,_,rfl,rfl,SqT.of hp9,t0,_,rfl,_,_,rfl,rfl,?_⟩
     dsimp only
     rw[show(m:Int)+(0+(i:Int))=((m+i:Nat):Int) by omega,show(0:Int)+(j:Int)=(j:Int) by omega]
     refine⟨y,rs,tss,j,m+i,rfl,N9,FH.1,S9.gd,by omega,S9.sh,by omega,by omega,by omega,q1,q2,S9.nd,fun J0 H10 v N10 F10 St nd' hv=>?_⟩
     have u10:=F10.keep u9 FH
     have Aih:=F10 _ _ pno hp9
     have AeU:=F10 _ _ Aic ZP
     have Ade:=F10 _ _ Aie Adc
     have Aa7:=F10 _ _ Aey ZQ
     have Aii:=fo9.frm (fun r hr=>AkX _ (AkX _ (AkX _ hr))) N9 F10
     rcases hv with ⟨rfl,r1,r2⟩ | ⟨lv,fs,rfl,r1,r2,hlv,lvr,lvH,fsP,fsM⟩
     ·have S10:=S9.open' (c:=35) St nd' C cfl usl hi hj hs (.inl ⟨rfl,r1,r2⟩)
      refine⟨_,rfl,rfl,_,rfl,?_⟩
      refine Gi rfl ?_
      refine⟨_,rfl,rfl,_,rfl,?_⟩
      refine CQ rfl ?_
      refine⟨_,rfl,.inl ⟨rfl,_,SqL.of Aa7⟩,_,rfl,_,_,_,rfl,rfl,Aa7,Ag4,?_⟩
      rw[Aj6,Ag2]
      exact⟨J0,us++[35],xs,_,_,_,rfl,u10.over Ag1,N10.out Aey qsy,by rw[Ax pqs];exact Aih,by rw[Ax qsr];exact AeU,by rw[Ax qsf];exact Ade,by rw[WM (sg2 cl) m cfl usl,if_neg (by omega),Al5];exact(foN 35 Aii).upd AkS Aa7,S10,Ae,Ag3 _,usg _ (.inl rfl)⟩
     ·have S10:=S9.open' (c:=46) St nd' C cfl usl hi hj hs (.inr ⟨rfl,r1,r2⟩)
      refine⟨_,rfl,rfl,_,rfl,?_⟩
      refine Cv (fun z=>nomatch z) ?_
      refine⟨_,rfl,rfl,_,rfl,?_⟩
      refine HY (fun z=>nomatch z) ?_
      refine⟨_,rfl,.inl ⟨rfl,_,SqL.of Ade⟩,_,rfl,_,rfl,_,rfl,(by show 3≤sizeLine;decide),fun tp ntp=>?_⟩
      have s11:=Ar.upd (o:=.tup [.int (0+(i:Int)),.int (j:Int),.ref lv]) ntp
      have Aij:(upd H10 tp (.tup [.int (0+(i:Int)),.int (j:Int),.ref lv])) tp=some (.tup [.int (i:Int),.int (j:Int),.ref lv]):=by rw[Ae,Alk]
      generalize upd H10 tp (.tup [.int (0+(i:Int)),.int (j:Int),.ref lv])=H11 at s11 Aij ⊢
      have AeV:=s11 _ _ Ade
      refine⟨_,_,_,rfl,rfl,AeV,(by rw[AkE];omega),?_⟩
      have xm:xs.map V.ref++[.ref tp]=(xs++[tp]).map V.ref:=by rw[AkL];rfl
      rw[xm]
      have u12:Ar H (upd H11 qf (.lst ((xs++[tp]).map V.ref))):=(u10.trans s11).over Aif
      have N12:NL (upd H11 qf (.lst ((xs++[tp]).map V.ref))) y rs J0:=(N10.same s11).out Aie qfy
      have Aik:(upd H11 qf (.lst ((xs++[tp]).map V.ref))) p=some (.tup [.int (m:Int),.int (n:Int)]):=by rw[Ax pqf];exact s11 _ _ Aih
      have AeW:(upd H11 qf (.lst ((xs++[tp]).map V.ref))) qr=some (.lst (vS cf)):=by rw[Ax qrf];exact s11 _ _ AeU
      have Aa8:(upd H11 qf (.lst ((xs++[tp]).map V.ref))) qs=some (.lst (vS (us.map fun c=>[c]))):=by rw[Ax qsf.symm];exact s11 _ _ Aa7
      have AeX:(upd H11 qf (.lst ((xs++[tp]).map V.ref))) qf=some (.lst ((xs++[tp]).map V.ref)):=Ae
      have lvB:lv∉qs::qr::qf::rs:=fun z=>by
       rcases List.mem_cons.mp z with z | z
       ·rw[z,ZQ] at lvH;cases lvH
       ·rcases List.mem_cons.mp z with z | z
        ·rw[z,ZP] at lvH;cases lvH
        ·rcases List.mem_cons.mp z with z | z
         ·rw[z,Adc] at lvH;cases lvH
         ·exact lvr z
      have cut:QG m n (sg2 cl) (cur cf (us++[46])) i j fs:=by
       refine QG.Qy (f:=cur cf us) (fun p' e' b=>(RB p' e' (by omega)).symm) ⟨fsP,fun u=>?_⟩
       rw[fsM u,S9.len]
       have e1:Rc (del (Rl tss) (m+i) j) (m+i) u↔Rc (del (Ed m n (mix (cur cf us) (sg2 cl) i j)) (m+i) j) (m+i) u:=⟨fun r=>r.mono fun u v g=>⟨(S9.ed u v).mp g.1,g.2⟩,fun r=>r.mono fun u v g=>⟨(S9.ed u v).mpr g.1,g.2⟩⟩
       rw[e1]
      have Ail:FoC (qs::qr::qf::rs) (QG m n (sg2 cl) (cur cf (us++[46]))) (upd H11 qf (.lst ((xs++[tp]).map V.ref))) (xs++[tp]) ((plS (sg2 cl) (cur cf us) m i++plR (sg2 cl) (cur cf us) i j)++[(i,j)]):=(((foN 46 Aii).same s11).add Aij lvB (s11 _ _ hlv) cut).upd (AkX _ (AkX _ AkS)) AeV
      generalize upd H11 qf (.lst ((xs++[tp]).map V.ref))=H12 at u12 N12 Aik AeW Aa8 AeX Ail ⊢
      refine⟨_,rfl,.inl ⟨rfl,_,SqL.of Aa8⟩,_,rfl,_,_,_,rfl,rfl,Aa8,Ag4,?_⟩
      rw[Aj7,Ag2]
      exact⟨J0,us++[46],xs++[tp],_,_,_,rfl,u12.over Ag1,N12.out Aey qsy,by rw[Ax pqs];exact Aik,by rw[Ax qsr];exact AeW,by rw[Ax qsf];exact AeX,by rw[WM (sg2 cl) m cfl usl,if_pos ⟨hs,rfl⟩];exact Ail.upd AkS Aa8,S10,Ae,Ag3 _,usg _ (.inr (.inl rfl))⟩
    ·have hs':¬(cl.getD i []).getD j 0=63:=hs
     refine Cv (fun z=>hs' (CV.mp (z.trans e63.symm))) ?_
     have S10:=S9.plain (c:=sg2 cl i j) C cfl usl hi hj rfl hs sq
     refine⟨_,rfl,.inl ⟨rfl,_,SqL.of ZQ⟩,_,rfl,_,_,_,rfl,rfl,ZQ,Ag4,?_⟩
     rw[DP,Ag2]
     exact⟨tss,us++[sg2 cl i j],xs,_,_,_,rfl,u9.over Ag1,N9.out Aey qsy,by rw[Ax pqs];exact hp9,by rw[Ax qsr];exact ZP,by rw[Ax qsf];exact Adc,by rw[WM (sg2 cl) m cfl usl,if_neg (fun z=>hs z.1),Al5];exact(foN _ fo9).upd AkS ZQ,S10,Ae,Ag3 _,usg _ sq⟩
   ·rintro σ H9 ⟨tss,us,xs,v8,v9,v10,rfl,u9,N9,hp9,ZP,Adc,fo9,S9,ZQ,usl,uss⟩
    refine⟨_,rfl,.inl ⟨rfl,_,SqL.of ZP⟩,rfl,_,rfl,_,_,(us.map fun c=>[c]).map tx,rfl,rfl,SqL.of (by rw[ZQ,Kc]),?_,?_⟩
    ·rw[Ada,AkE,AkE]
     have:us.length*(Str.length "")=0:=by rw[show Str.length "" = 0 from by decide +kernel];omega
     omega
    rw[show(("" : Str))=tx [] from by decide +kernel,Ma,Ab2]
    refine⟨_,_,_,rfl,rfl,ZP,(by rw[Bq];omega),?_⟩
    rw[Eu]
    have fo9:=(fo9.narrow.Qy (Pr':=QG m n (sg2 cl) (cur (cf++[us]) [])) fun p e fs g h=>h.Qy fun p' e' b=>R7 [] p' e' (by have:=AcZ g;omega))
    rw[Agy (sg2 cl) m cfl] at fo9
    refine⟨tss,cf++[us],xs,_,_,_,_,_,rfl,u9.over Aid,N9.out Aic qry,by rw[Ax pqr];exact hp9,Ae,by rw[AkG,cfl];rfl,fun t ht=>?_,by rw[Ax qrf.symm];exact Adc,fo9.upd AkS ZP,S9.row cfl⟩
    rcases List.mem_append.mp ht with h | h
    ·exact cfs t h
    ·rw[List.mem_singleton.mp h];exact⟨usl,uss⟩
  ·rintro σ H7 ⟨tss,cf,xs,v6,v7,v8,v9,v10,rfl,u7,N7,hp7,Ab3,cfl,cfs,Ab4,fo7,S7⟩
   refine⟨_,rfl,_,rfl,(by show 3≤sizeLine;decide),fun q nq=>?_⟩
   have s8:Ar H7 (upd H7 q (.tup [.str "cloth", .ref qr,.ref qf])):=.upd nq
   have agree:∀ p e,p<n→cur cf [] p e=sg2 cf p e:=fun p e hp=>R3 (by omega) e
   refine fin q qr qf cf xs _ (u7.new nq) Ae ⟨s8 _ _ Ab3,s8 _ _ Ab4,Aid,Aif,⟨cfl,fun t ht=>(cfs t ht).1,fun t ht=>(cfs t ht).2,c3,c4,c1,c2⟩,?_,?_,qrf⟩
   ·rw[← O5 fun p e hp _=>agree p e hp]
    exact(fo7.same s8).bare.Qy fun p e fs g h=>h.Qy fun p' e' b=>agree p' e' (by have:=WL g;omega)
   ·exact(S7.pr.Qy fun p e b=>agree p e (by omega)).done
def Ab5:Sp:=fun vs H Q _=>∃ c:Nat,vs=[.int (c:Int)]∧1≤c∧c≤40∧Q .non H
theorem Iz(T:Txt K mg t):BP P w K mg base CX0 1 t.MT t.Nb ["count"] Ab5:=by
 refine T.Dj.F.ok Tt (fun vs H Q E h=>?_) (fun cdv A outer s H vs Q E hr h=>?_)
 ·obtain⟨c,rfl,_⟩:=h
  rfl
 ·obtain⟨c,rfl,h1,h2,k⟩:=h
  refine⟨_,(Ad (Bh (PW.pt (pw_or (Ag Em (pv 0) Af (Am _)) (pw_or1 (Ag M6 (pv 0) (Ei (v:=.int 40) rfl T.Dt.choose_spec ⟨_,rfl⟩) (Am _)))))
    (Ad Cq)
    Aq)),?_⟩
  refine⟨_,rfl,_,_,rfl,rfl,_,rfl,?_⟩
  refine Cv (by omega) ?_
  refine⟨_,rfl,_,_,rfl,rfl,_,rfl,?_⟩
  exact Cv (by omega) k
def Ab6:Sp:=fun vs H Q _=>∃ v:Int,vs=[.int v]∧0≤v∧v<40∧Q .non H
theorem Lz(T:Txt K mg t):BP P w K mg base CX0 1 t.Nf t.Ng ["shaft"] Ab6:=by
 refine T.Fi.F.ok Tu (fun vs H Q E h=>?_) (fun cdv A outer s H vs Q E hr h=>?_)
 ·obtain⟨v,rfl,_⟩:=h
  rfl
 ·obtain⟨v,rfl,h1,h2,k⟩:=h
  refine⟨_,(Ad (Bh (PW.pt (pw_or (Ag Em (pv 0) Af (Am _)) (pw_or1 (Ag AbM (pv 0) (Ei (v:=.int 40) rfl T.Us.choose_spec ⟨_,rfl⟩) (Am _)))))
    (Ad Cq)
    Aq)),?_⟩
  refine⟨_,rfl,_,_,rfl,rfl,_,rfl,?_⟩
  refine Cv (by omega) ?_
  refine⟨_,rfl,_,_,rfl,rfl,_,rfl,?_⟩
  exact Cv (by omega) k
def Aez:Sp:=fun vs H Q _=>∃(a:Addr) (ks:List Int),vs=[.ref a]∧H a=some (.lst (vI ks))∧Rs ks∧ks.length≤1000∧Q .non H
theorem WN(T:Txt K mg t):BP P w K mg base CX0 2 t.Ri t.Rj ["tie"] Aez:=by
 refine T.Mv.F.ok O8 (fun vs H Q E h=>?_) (fun cdv A outer s H vs Q E hr h=>?_)
 ·obtain⟨a,ks,rfl,_⟩:=h
  rfl
 ·obtain⟨a,ks,rfl,ha,R,hl,k⟩:=h
  refine⟨_,(Ad (Bo PassesOwn.never rfl (Be rfl T.Bs (Aa (Ah (Ak (K:=K)) rfl T.Bm Bc (Aa (pv 0) Ac)) Ac)) (Ba (i:=1) O8.nd rfl (Or.inl rfl))
    (Ab (Br (Av ((Lz T).mono (by decide)) hr rfl T.Fi.m T.Fi.F.kp T.Fi.b .nil Bj (Aa (Ai (Ao (K:=K)) (pv 0) (pv 1) (fun _ _=>rfl)) Ac)))
    (Ad (Bh (PW.pt (pw_and (Ag M6 (pv 1) Af (Am _)) (pw_and1 (Ag U6 (Ai (Ao (K:=K)) (pv 0) (pv 1) (fun _ _=>rfl)) (Ai (Ao (K:=K)) (pv 0) (Az Vz (pv 1) Af) (fun _ _=>rfl)) (Am _)))))
     (Ad Cq)
     Aq))))),?_⟩
  refine⟨_,rfl,_,_,rfl,.inl (SqL.of ha),_,rfl,(by omega),(by rw[Bx];omega),?_⟩
  rw[AkJ,Bx]
  refine Bp (lo:=0) (n:=ks.length) (fun i σ H2=>∃ v,σ=[some (.ref a),v]∧H2=H) ⟨none,rfl,rfl⟩ ?_ ?_
  ·rintro i σ H2 hi ⟨v,rfl,rfl⟩
   have e1:atI (vI ks) (0+(i:Int))=some (.int ks[i]):=Bb (by omega) (by rw[z0];exact Hv (AkD hi))
   have b:=R.2 _ (AkN hi)
   refine⟨_,rfl,_,rfl,_,_,_,_,rfl,rfl,SqL.of ha,e1,_,rfl,b.1,b.2,?_⟩
   refine⟨_,rfl,_,_,rfl,rfl,_,rfl,?_⟩
   by_cases h0:i=0
   ·subst h0
    refine Cv (by omega) ?_
    exact Ci ⟨_,rfl,rfl⟩
   ·have hi1:i-1<ks.length:=by omega
    have e2:atI (vI ks) (0+(i:Int)-1)=some (.int ks[i-1]):=Bb (by omega) (by rw[show(0+(i:Int)-1).toNat=i-1 by omega];exact Hv (AkD hi1))
    have lt:=R.1 (i-1) ks[i-1] ks[i] (AkD hi1) (by rw[show i-1+1=i by omega];exact AkD hi)
    refine Gi (by omega) ?_
    refine⟨_,rfl,_,rfl,_,_,_,_,rfl,rfl,SqL.of ha,e1,_,rfl,_,rfl,_,_,rfl,rfl,_,_,_,_,rfl,rfl,SqL.of ha,e2,_,_,rfl,rfl,_,rfl,?_⟩
    refine Cv (by omega) ?_
    exact⟨_,rfl,rfl⟩
  ·rintro σ H2 ⟨v,rfl,rfl⟩
   exact k
theorem Adf{ks:List Int}(R:Rs ks):ks.length≤1000:=by
 have step:∀(i:Nat) (a:Int),ks[i]?=some a→(i:Int)≤a:=by
  intro i
  induction i with
  | zero=>exact fun a h=>(R.2 a (AkI h)).1
  | succ i ih =>
   intro a h
   have hi:i<ks.length:=by have:=(List.getElem?_eq_some_iff.mp h).1;omega
   have:=ih ks[i] (AkD hi)
   have:=R.1 i ks[i] a (AkD hi) h
   omega
 by_cases h:ks.length=0
 ·omega
 ·have hi:ks.length-1<ks.length:=by omega
  have h1:=step (ks.length-1) _ (AkD hi)
  have h2:=R.2 _ (AkN hi)
  omega
def YH:Sp:=fun vs H Q _=>∃(x y:Addr) (rs:List Addr) (th:List Int) (tss:List (List Int)) (tr:List Int),vs=[.ref x,.ref y]∧H x=some (.lst (vI th))∧NL H y rs tss∧Ft th tss tr∧Q .non H
theorem QH(T:Txt K mg t):BP P w K mg base CX0 3 t.K8 t.K9 ["threading", "ties"] YH:=by
 refine T.Hk.F.ok GJ (fun vs H Q E h=>?_) (fun cdv A outer s H vs Q E hr h=>?_)
 ·obtain⟨x,y,rs,th,tss,tr,rfl,_⟩:=h
  rfl
 ·obtain⟨x,y,rs,th,tss,tr,rfl,hx,N,F,k⟩:=h
  refine⟨_,(Ab (Br (Av ((Iz T).mono (by decide)) hr rfl T.Dj.m T.Dj.F.kp T.Dj.b .nil Bj (Aa (Ah (Ak (K:=K)) rfl T.Bm Bc (Aa (pv 0) Ac)) Ac)))
   (Ab (Br (Av ((Iz T).mono (by decide)) hr rfl T.Dj.m T.Dj.F.kp T.Dj.b .nil Bj (Aa (Ah (Ak (K:=K)) rfl T.Bm Bc (Aa (pv 1) Ac)) Ac)))
   (Ab (Bo PassesOwn.never rfl (BR (K:=K) (pv 0)) (Ba (i:=2) GJ.nd rfl (Or.inl rfl))
    (Ad (Br (Av ((Lz T).mono (by decide)) hr rfl T.Fi.m T.Fi.F.kp T.Fi.b .nil Bj (Aa (pv 2) Ac)))))
   (Ad (Bo PassesOwn.never rfl (BR (K:=K) (pv 1)) (Ba (i:=3) GJ.nd rfl (Or.inl rfl))
    (Ad (Br (Av ((WN T).mono (by decide)) hr rfl T.Mv.m T.Mv.F.kp T.Mv.b .nil Bj (Aa (pv 3) Ac))))))))),?_⟩
  refine⟨_,rfl,_,_,rfl,.inl (SqL.of hx),th.length,(by rw[Bx] <;> rfl),F.m1,F.m40,?_⟩
  refine⟨_,rfl,_,_,rfl,.inl (SqL.of N.h),tss.length,(by rw[AkE,N.l] <;> rfl),F.t1,F.t40,?_⟩
  refine⟨_,rfl,_,rfl,⟨_,SqL.of hx⟩,Cr (K:=K) (a:=x) (xs:=vI th) (fun i σ H2=>∃ v1 v2,σ=[some (.ref x),some (.ref y),v1,v2]∧H2=H) ⟨none,none,rfl,rfl⟩ (fun i σ H2 _ ⟨_,_,_,e⟩=>e▸SqL.of hx) ?_ ?_⟩
  ·rintro i xv σ H2 hxv ⟨v1,v2,rfl,rfl⟩
   obtain⟨z,hz,rfl⟩:=Ia hxv
   have b:=F.hth z (AkI hz)
   exact⟨_,rfl,z,rfl,b.1,b.2,_,_,rfl,rfl⟩
  ·rintro σ H2 ⟨v1,v2,rfl,rfl⟩
   refine⟨_,rfl,_,rfl,⟨_,SqL.of N.h⟩,Cr (K:=K) (a:=y) (xs:=rs.map V.ref) (fun i σ H3=>∃ v1 v2,σ=[some (.ref x),some (.ref y),v1,v2]∧H3=H2) ⟨v1,v2,rfl,rfl⟩ (fun i σ H3 _ ⟨_,_,_,e⟩=>e▸SqL.of N.h) ?_ ?_⟩
   ·rintro i xv σ H3 hxv ⟨v1,v2,rfl,rfl⟩
    obtain⟨r,ks,rfl,_,hks,hr'⟩:=N.at hxv
    have R:=F.hti ks (AkI hks)
    exact⟨_,rfl,r,ks,rfl,hr',R,Adf R,_,_,rfl,rfl⟩
   ·rintro σ H3 ⟨v1,v2,rfl,rfl⟩
    exact k
def WQ:Sp:=fun vs H Q _=>∃(z:Addr) (th:List Int) (tss:List (List Int)) (tr:List Int),vs=[.ref z,.int (tss.length:Int)]∧H z=some (.lst (vI tr))∧Ft th tss tr∧Q .non H
theorem Qd(T:Txt K mg t):BP P w K mg base CX0 2 t.JN t.JP ["treading", "treadles"] WQ:=by
 refine T.Gx.F.ok Jc (fun vs H Q E h=>?_) (fun cdv A outer s H vs Q E hr h=>?_)
 ·obtain⟨z,th,tss,tr,rfl,_⟩:=h
  rfl
 ·obtain⟨z,th,tss,tr,rfl,hz,F,k⟩:=h
  refine⟨_,(Ab (Br (Av ((Iz T).mono (by decide)) hr rfl T.Dj.m T.Dj.F.kp T.Dj.b .nil Bj (Aa (Ah (Ak (K:=K)) rfl T.Bm Bc (Aa (pv 0) Ac)) Ac)))
   (Ad (Bo PassesOwn.never rfl (BR (K:=K) (pv 0)) (Ba (i:=2) Jc.nd rfl (Or.inl rfl))
    (Ad (Bh (PW.pt (pw_or (Ag Em (pv 2) Af (Am _)) (pw_or1 (Ag AbM (pv 2) (pv 1) (Am _)))))
     (Ad Cq)
     Aq))))),?_⟩
  refine⟨_,rfl,_,_,rfl,.inl (SqL.of hz),tr.length,(by rw[Bx] <;> rfl),F.n1,F.n40,?_⟩
  refine⟨_,rfl,_,rfl,⟨_,SqL.of hz⟩,Cr (K:=K) (a:=z) (xs:=vI tr) (fun i σ H2=>∃ v1,σ=[some (.ref z),some (.int (tss.length:Int)),v1]∧H2=H) ⟨none,rfl,rfl⟩ (fun i σ H2 _ ⟨_,_,e⟩=>e▸SqL.of hz) ?_ ?_⟩
  ·rintro i xv σ H2 hxv ⟨v1,rfl,rfl⟩
   obtain⟨v,hv,rfl⟩:=Ia hxv
   have b:=F.htr v (AkI hv)
   refine⟨_,rfl,_,_,rfl,rfl,_,rfl,?_⟩
   refine Cv (by omega) ?_
   refine⟨_,rfl,_,rfl,_,_,rfl,rfl,_,rfl,?_⟩
   refine Cv (by omega) ?_
   exact⟨_,rfl,rfl⟩
  ·rintro σ H2 ⟨v1,rfl,rfl⟩
   exact k
def Aa9 (r:Addr)(H H':Hp):Prop:=∀ b o,b≠r→H b=some o→H' b=some o
def df (a b c:Addr):List (Str × V):=[("threading", .ref a),("ties", .ref b),("treading", .ref c)]
theorem AaA(a b c:Addr):(df a b c).lookup ("threading" : Str)=some (V.ref a):=rfl
theorem YJ(a b c:Addr):(df a b c).lookup ("ties" : Str)=some (V.ref b):=rfl
theorem AaB(a b c:Addr):(df a b c).lookup ("treading" : Str)=some (V.ref c):=rfl
theorem NL.other{H H':Hp}{r C dx y:Addr}{fs:List (Str × V)}{rs:List Addr}{tss:List (List Int)}(N:NL H y rs tss)(b:Aa9 r H H')(hr:H r=some (.ins C dx fs)):NL H' y rs tss :=
 ⟨b _ _ (fun e=>by have:=N.h;rw[e,hr] at this;cases this) N.h,N.l,fun i a ks h1 h2=>b _ _ (fun e=>by have:=N.r i a ks h1 h2;rw[e,hr] at this;cases this) (N.r i a ks h1 h2)⟩
structure IsD (t:Adr) (H:Hp) (d dx a b c:Addr) (qs:List Addr) (th:List Int) (tss:List (List Int)) (tr:List Int):Prop where
 o:H d=some (.ins t.El dx (df a b c))
 ha:H a=some (.lst (vI th))
 hb:NL H b qs tss
 hc:H c=some (.lst (vI tr))
theorem IsD.same{H H':Hp}{d dx a b c:Addr}{qs:List Addr}{th:List Int}{tss:List (List Int)}{tr:List Int}(D:IsD t H d dx a b c qs th tss tr)(s:Ar H H'):IsD t H' d dx a b c qs th tss tr:=⟨s _ _ D.o,s _ _ D.ha,D.hb.same s,s _ _ D.hc⟩
def Adg (t:Adr):Sp:=fun vs H Q _=>∃(r dx x y z:Addr) (rs:List Addr) (th:List Int) (tss:List (List Int)) (tr:List Int),vs=[.ref r,.ref x,.ref y,.ref z]∧H r=some (.ins t.El dx [])∧H x=some (.lst (vI th))∧NL H y rs tss∧H z=some (.lst (vI tr))∧Ft th tss tr ∧
 ∀ a b c qs H',Aa9 r H H'→H a=none→H b=none→H c=none→(∀ q∈qs,H q=none)→IsD t H' r dx a b c qs th tss tr→Q .non H'
theorem Qe(T:Txt K mg t):BP P w K mg base CX0 4 t.GP t.JM ["self", "threading", "ties", "treading"] (Adg t):=by
 refine T.JV.F.ok Ph (fun vs H Q E h=>?_) (fun cdv A outer s H vs Q E hr h=>?_)
 ·obtain⟨r,dx,x,y,z,rs,th,tss,tr,rfl,_⟩:=h
  rfl
 ·obtain⟨r,dx,x,y,z,rs,th,tss,tr,rfl,hr1,hx,N,hz,F,k⟩:=h
  have hsz:sizeLine=16777216:=sizeLine_eq
  refine⟨_,(Ab (Br (Av ((QH T).mono (by decide)) hr rfl T.Hk.m T.Hk.F.kp T.Hk.b .nil Bj (Aa (pv 1) (Aa (pv 2) Ac))))
   (Ab (Br (Av ((Qd T).mono (by decide)) hr rfl T.Gx.m T.Gx.F.kp T.Gx.b .nil Bj (Aa (pv 3) (Aa (Ah (Ak (K:=K)) rfl T.Bm Bc (Aa (pv 2) Ac)) Ac))))
   (Ab (VR (K:=K) (pv 0) (Ep (FQ (K:=K)) rfl T.G3 Fo (Aa (pv 1) Ac)))
   (Ab (VR (K:=K) (pv 0) (Gp (Eb.mk (By:=[]) (Nc:=["tie"]) rfl (by decide +kernel) (by decide +kernel) (Dy (sc0:=Aj GK) rfl (by decide +kernel)) rfl rfl rfl (by decide +kernel) (fun _ _ h=>by simp at h)) rfl (BR (K:=K) (pv 2)) (fun _ _ _ _ _=>.nil) (fun _ _ _ _ _=>(Ep (FQ (K:=K)) rfl T.G3 Fo (Aa (pv 0) Ac)))))
   (Ad (VR (K:=K) (pv 0) (Ep (FQ (K:=K)) rfl T.G3 Fo (Aa (pv 3) Ac)))))))),?_⟩
  refine⟨_,rfl,_,rfl,x,y,rs,th,tss,tr,rfl,hx,N,F,?_⟩
  refine⟨_,rfl,_,rfl,_,_,rfl,.inl (SqL.of N.h),z,th,tss,tr,(by rw[AkE,N.l] <;> rfl),hz,F,?_⟩
  refine⟨_,rfl,_,_,rfl,.inl (SqL.of hx),fun a na=>?_⟩
  have s1:Ar H (upd H a (.lst (vI th))):=.upd na
  have nra:a≠r:=fun e=>by rw[e,hr1] at na;cases na
  refine⟨_,rfl,_,_,_,_,rfl,s1 _ _ hr1,T.Dz.c,T.Du,(by decide),?_⟩
  generalize hH2:upd (upd H a (.lst (vI th))) r (.ins t.El dx (JX "threading" (.ref a) []))=H2
  have b2:Aa9 r H H2:=fun b o nb e=>by rw[← hH2,Ax nb];exact s1 _ _ e
  have hr2:H2 r=some (.ins t.El dx [("threading", .ref a)]):=by rw[← hH2];exact Ae
  have ha2:H2 a=some (.lst (vI th)):=by rw[← hH2,Ax nra];exact Ae
  have fre:∀ q,H2 q=none→H q=none:=fun q hq=>by
   have nq:q≠r:=fun e=>by rw[e,hr2] at hq;cases hq
   cases e:H q with
   | none=>rfl
   | some o=>rw[b2 q o nq e] at hq;cases hq
  clear hH2
  have N2:=N.other b2 hr1
  refine⟨_,rfl,_,rfl,⟨_,SqL.of N2.h⟩,GC (K:=K) (a:=y) (xs:=rs.map V.ref) (fun i ys H3=>Ar H2 H3∧∃ qs:List Addr,ys=qs.map V.ref∧qs.length=i∧(∀ q∈qs,H2 q=none)∧∀(j:Nat) (q:Addr) (ks:List Int),qs[j]?=some q→tss[j]?=some ks→H3 q=some (.lst (vI ks)))
   ⟨.refl _,[],rfl,rfl,fun q hq=>(by cases hq),fun j q ks h=>(by simp at h)⟩ ?_ ?_ ?_ ?_⟩
  ·rintro i ys H3 hi ⟨s3,qs,rfl,hq,_⟩
   exact⟨SqL.of (s3 _ _ N2.h),by rw[AkE];omega⟩
  ·rw[AkE,N.l];have:=F.t40;omega
  ·rintro i xv ys H3 hi hxv ⟨s3,qs,rfl,hq,nq,hqs⟩
   obtain⟨r',ks',rfl,_,hks,hr'⟩:=N2.at hxv
   refine Gh.no ?_
   refine⟨_,rfl,_,_,rfl,.inl (SqL.of (s3 _ _ hr')),fun l nl=>?_⟩
   refine CN.of hi ⟨s3.new nl,qs++[l],by rw[AkL];rfl,by rw[AkG,hq];rfl,fun q h=>?_,fun j q ks h1 h2=>?_⟩
   ·rcases List.mem_append.mp h with h | h
    ·exact nq q h
    ·rw[List.mem_singleton.mp h];exact s3.free nl
   ·by_cases hj:j<qs.length
    ·rw[AkR hj] at h1
     exact(Ar.upd nl) _ _ (hqs j q ks h1 h2)
    ·rw[AkY (by omega)] at h1
     have e0:j=i:=by
      have:=(List.getElem?_eq_some_iff.mp h1).1
      simp at this
      omega
     rw[show j-qs.length=0 by omega] at h1
     have e1:l=q:=by simpa using h1
     rw[e0,hks] at h2
     cases h2
     rw[← e1]
     exact Ae
  ·rintro ys H3 b ⟨s3,qs,rfl,hq,nq,hqs⟩ nb
   rw[AkE,N.l] at hq
   have s4:Ar H2 (upd H3 b (.lst (qs.map V.ref))):=s3.new nb
   have nbr:b≠r:=fun e=>by rw[e,s3 _ _ hr2] at nb;cases nb
   refine⟨_,rfl,_,_,_,_,rfl,s4 _ _ hr2,T.Dz.c,T.Es,(by show 1<1000;decide),?_⟩
   generalize hH5:upd (upd H3 b (.lst (qs.map V.ref))) r (.ins t.El dx (JX "ties" (.ref b) [("threading", .ref a)]))=H5
   have b5:Aa9 r H2 H5:=fun b' o nb e=>by rw[← hH5,Ax nb];exact s4 _ _ e
   have hr5:H5 r=some (.ins t.El dx [("threading", .ref a),("ties", .ref b)]):=by rw[← hH5];exact Ae
   have hb5:H5 b=some (.lst (qs.map V.ref)):=by rw[← hH5,Ax nbr];exact Ae
   have hq5:∀(j:Nat) (q:Addr) (ks:List Int),qs[j]?=some q→tss[j]?=some ks→H5 q=some (.lst (vI ks)):=fun j q ks h1 h2=>by
    have nqr:q≠r:=fun e=>by have:=nq q (AkI h1);rw[e,hr2] at this;cases this
    rw[← hH5,Ax nqr]
    exact(Ar.upd nb) _ _ (hqs j q ks h1 h2)
   clear hH5
   have nzr:z≠r:=fun e=>by rw[e,hr1] at hz;cases hz
   have hz5:H5 z=some (.lst (vI tr)):=b5 _ _ nzr (b2 _ _ nzr hz)
   refine⟨_,rfl,_,_,rfl,.inl (SqL.of hz5),fun c nc=>?_⟩
   have s6:Ar H5 (upd H5 c (.lst (vI tr))):=.upd nc
   have ncr:c≠r:=fun e=>by rw[e,hr5] at nc;cases nc
   refine⟨_,rfl,_,_,_,_,rfl,s6 _ _ hr5,T.Dz.c,T.DN,(by show 2<1000;decide),?_⟩
   have f5:∀ q,H5 q=none→H q=none:=fun q h=>fre q (by
    have nqr:q≠r:=fun e=>by rw[e,hr5] at h;cases h
    cases e:H2 q with
    | none=>rfl
    | some o=>rw[b5 q o nqr e] at h;cases h)
   refine k a b c qs _ (fun b' o nb' e=>by rw[Ax nb'];exact s6 _ _ (b5 _ _ nb' (b2 _ _ nb' e))) na (fre b (s3.free nb)) (f5 c nc) (fun q h=>fre q (nq q h)) ⟨Ae,?_,⟨?_,hq,fun j q ks h1 h2=>?_⟩,?_⟩
   ·rw[Ax nra];exact s6 _ _ (b5 _ _ nra ha2)
   ·rw[Ax nbr];exact s6 _ _ hb5
   ·have nqr:q≠r:=fun e=>by have:=nq q (AkI h1);rw[e,hr2] at this;cases this
    rw[Ax nqr];exact s6 _ _ (hq5 j q ks h1 h2)
   ·rw[Ax ncr];exact Ae
theorem ZR(u:List Nat):∀ f:List (List Nat),inV (.str (tx u)) (vS f)=decide (u∈f)
 | []=>by simp[inV,vS]
 | k::f=>by
  have ih:=ZR u f
  unfold inV vS at ih ⊢
  rw[AkQ,AlA,ih]
  by_cases h:k=u
  ·subst h
   have:eqV (V.str (tx k)) (V.str (tx k))=true:=Oo rfl
   rw[this]
   simp
  ·have:eqV (V.str (tx k)) (V.str (tx u))=false:=by
    show(tx k == tx u)=false
    rw[beq_eq_false_iff_ne]
    exact fun z=>h (VJ z)
   rw[this,Bool.false_or,decide_eq_decide]
   exact⟨AkX _,fun z=>by
    rcases List.mem_cons.mp z with e | e
    ·exact absurd e.symm h
    ·exact e⟩
def Ab7 (K:PySem.W.Frag):Sp:=fun vs H Q _=>∃(a:Addr) (us:List (List Nat)),vs=[.ref a]∧SqL K H a (vS us)∧us.length≤40∧∀ l H',Ar H H'→H l=none→H' l=some (.lst (vS (unl us)))→Q (.ref l) H'
theorem Vq(T:Txt K mg t):BP P w K mg base CX0 1 t.Yo t.Yp ["things"] (Ab7 K):=by
 refine T.unlike.F.ok Qz (fun vs H Q E h=>?_) (fun cdv A outer s H vs Q E hr h=>?_)
 ·obtain⟨a,us,rfl,_⟩:=h
  rfl
 ·obtain⟨a,us,rfl,hS,hl,k⟩:=h
  refine⟨_,(Ab (Al (i:=1) Qz.nd rfl (Or.inl rfl) (CW Ac))
   (Ab (Bo PassesOwn.never rfl (BR (K:=K) (pv 0)) (Ba (i:=2) Qz.nd rfl (Or.inl rfl))
    (Ad (Bh (Ag (Hf (K:=K)) (pv 2) (pv 1) rfl)
     (Ad (Br (Ca (K:=K) PySem.F.plainAttrs_list PySem.F.slot_list_append PySem.F.type_list_append BL (pv 1) (Aa (pv 2) Ac))))
     Aq)))
   (Ad (Aw (pv 1))))),?_⟩
  refine⟨AkP _,fun q nq=>?_⟩
  have s1:Ar H (upd H q (.lst [])):=.upd nq
  refine⟨_,rfl,_,rfl,⟨_,s1.seq hS⟩,?_⟩
  refine Cr (K:=K) (a:=a) (xs:=vS us) (fun i σ H2=>∃(v:Option V),σ=[some (.ref a),some (.ref q),v]∧Ar H H2∧H2 q=some (.lst (vS (unl (us.take i)))))
   ⟨none,rfl,s1,Ae⟩ (fun i σ H2 _ ⟨_,_,s2,_⟩=>s2.seq hS) ?_ ?_
  ·rintro i xv σ H2 hx ⟨v,rfl,s2,h2⟩
   have hil:i<us.length:=by
    have:=(List.getElem?_eq_some_iff.mp hx).1
    rwa [Bq] at this
   obtain⟨u,hu,rfl⟩:=Hw hx
   have et:us.take (i+1)=us.take i++[u]:=by rw[Ale,hu];rfl
   have lf:(unl (us.take i)).length≤i:=AkZ (Qw _) (by rw[AkU];omega)
   refine⟨_,rfl,_,rfl,_,_,rfl,.inl (SqL.of h2),rfl,Ka _,_,rfl,?_⟩
   show if (!inV (.str (tx u)) (vS (unl (us.take i))))=true then _ else _
   rw[ZR]
   by_cases hm:u∈unl (us.take i)
   ·refine CQ hm ?_
    exact⟨_,rfl,s2,by rw[et,Hr,if_pos hm];exact h2⟩
   ·refine HY hm ?_
    refine⟨_,rfl,.inl ⟨rfl,_,SqL.of h2⟩,_,rfl,_,_,_,rfl,rfl,h2,(by rw[Bq];exact Ce (by omega)),?_⟩
    rw[Eu]
    exact⟨_,rfl,s2.over nq,by rw[et,Hr,if_neg hm];exact Ae⟩
  ·rintro σ H2 ⟨v,rfl,s2,h2⟩
   rw[Bq,Alq] at h2
   exact⟨_,rfl,k q H2 s2 nq h2⟩
theorem Vr:∀(m:Nat) (l:List Nat),l.Nodup→(∀ x∈l,x<m)→l.length≤m
 | 0,l,_,h=>by
  cases l with
  | nil=>exact AkF _
  | cons a r=>exact absurd (h a AkS) (by omega)
 | m+1,l,n,h=>by
  have:=Vr m (l.erase m) (n.erase m) fun x hx=>by
   have g:=n.mem_erase_iff.mp hx
   have:=h x g.2
   omega
  have e:=List.length_erase (a:=m) (l:=l)
  split at e <;> omega
theorem AaC{ds:List Int}(n:ds.Nodup)(h:∀ z∈ds,0≤z∧z<40):ds.length<64:=by
 have:=Vr 40 (ds.map Int.toNat) (by
  rw[List.Nodup,Amm]
  refine n.imp_of_mem fun {a b} ha hb ne e=>ne ?_
  have:=h a ha
  have:=h b hb
  omega) fun x hx=>by
   obtain⟨z,hz,rfl⟩:=List.mem_map.mp hx
   have:=h z hz
   omega
 rw[AkE] at this
 omega
def Adh (th:List Int)(u:List Nat)(ks:List Int):Prop:=∀ z:Int,z∈ks↔∃ e:Nat,th[e]?=some z∧u[e]?=some 35
def Ae0:Sp:=fun vs H Q _=>∃(x:Addr) (th:List Int) (u:List Nat),vs=[.ref x,.str (tx u)]∧H x=some (.lst (vI th))∧th.length=u.length∧u.length≤40∧(∀ z∈th,0≤z∧z<40)∧∀ l ks H',Ar H H'→H l=none→H' l=some (.lst (vI ks))→Rs ks→Adh th u ks→Q (.ref l) H'
theorem Ui(T:Txt K mg t):BP P w K mg base CX0 1 t.Nh t.Ni ["threading", "text"] Ae0:=by
 refine T.Ji.F.ok Tv (fun vs H Q E h=>?_) (fun cdv A outer s H vs Q E hr h=>?_)
 ·obtain⟨x,th,u,rfl,_⟩:=h
  rfl
 ·obtain⟨x,th,u,rfl,hx,hlu,h40,hth,k⟩:=h
  have hsz:sizeLine=16777216:=sizeLine_eq
  refine⟨_,(Ad (Aw (Tc (K:=K) rfl T.Yv rfl T.AeO (Qt (K:=K) (Ja.mk (By:=[]) (Nc:=["shaft", "sign"]) rfl (by decide +kernel) (by decide +kernel) (Dy (sc0:=Aj Jo) rfl (by decide +kernel)) rfl rfl rfl rfl rfl (by decide +kernel) (fun _ _ h=>by simp at h)) rfl (Wg (K:=K) rfl T.Ac7 (Aa (pv 0) (Aa (pv 1) Ac))) (fun _ _ _ _ _=>.one (Ag Cz (pv 1) Bg (Am _))) (fun _ _ _ _ _=>(pv 0)))))),?_⟩
  refine⟨_,rfl,_,rfl,.l x,.s (tx u),rfl,trivial,⟨_,SqL.of hx⟩,trivial,?_⟩
  refine S5 (n:=u.length) (fun i=>(vI th).getD i .non) (fun i=>.str ⟨#[u.getD i 0]⟩) (fun i ys H2=>Ar H H2∧∃ ns:List Int,ys=vI ns∧ns.length≤i∧∀ z:Int,z∈ns↔∃ e:Nat,e<i∧th[e]?=some z∧u[e]?=some 35) ⟨.refl _,[],rfl,AkF _,fun z=>⟨fun h=>(by cases h),fun⟨e,h,_⟩=>absurd h (Amb _)⟩⟩ ?_ ?_ ?_ ?_ ?_ ?_ ?_
  ·rintro i ys H2 hi ⟨s2,ns,rfl,hn,_⟩
   rw[Bx]
   exact hn
  ·omega
  ·rintro i ys H2 hi ⟨s2,_⟩
   exact Aal (SqL.of (s2 _ _ hx)) (by rw[Bx];omega)
  ·rintro i ys H2 hi _
   exact Wi hi
  ·rintro ys H2 ⟨s2,_⟩
   exact⟨⟨_,SqL.of (s2 _ _ hx)⟩,trivial,.inl ⟨_,SqL.of (s2 _ _ hx),by rw[Bx];exact hlu⟩⟩
  ·rintro i ys H2 T2 hi ⟨s2,ns,rfl,hn,hm⟩ nT
   have hit:i<th.length:=by omega
   have ev:(vI th).getD i .non=.int th[i]:=by
    rw[AkH,Hv (AkD hit)]
    rfl
   have eu:u.getD i 0=u[i]:=by
    rw[AkH,AkD hi]
    rfl
   rw[ev,eu]
   have s3:Ar H (upd H2 T2 (.tup [.int th[i],.str ⟨#[u[i]]⟩])):=s2.new nT
   unfold Gh
   refine⟨_,rfl,rfl,_,rfl,?_⟩
   have hh:("#" : Str)=⟨#[35]⟩:=by decide +kernel
   rw[hh]
   refine Dg (fun h=>?_) (fun h=>?_)
   ·have h35:u[i]=35:=CV.mp h
    refine⟨_,rfl,?_⟩
    refine CN.of hi ⟨s3,ns++[th[i]],GF _ _,by rw[AkG];show ns.length+1≤i+1;omega,fun z=>?_⟩
    rw[AlM,List.mem_singleton,hm z]
    constructor
    ·rintro(⟨e,h1,h2⟩ | rfl)
     ·exact⟨e,by omega,h2⟩
     ·exact⟨i,by omega,AkD hit,by rw[AkD hi,h35]⟩
    ·rintro⟨e,h1,h2,h3⟩
     by_cases q:e=i
     ·subst q
      rw[AkD hit] at h2
      exact .inr (Option.some.inj h2).symm
     ·exact .inl ⟨e,by omega,h2,h3⟩
   ·refine CN.of hi ⟨s3,ns,rfl,by omega,fun z=>?_⟩
    rw[hm z]
    constructor
    ·rintro⟨e,h1,h2⟩
     exact⟨e,by omega,h2⟩
    ·rintro⟨e,h1,h2,h3⟩
     by_cases q:e=i
     ·subst q
      rw[AkD hi] at h3
      exact absurd (CV.mpr (Option.some.inj h3)) h
     ·exact⟨e,by omega,h2,h3⟩
  ·rintro ys H2 p ⟨s2,ns,rfl,hn,hm⟩ np
   have Aim:∀ z∈ns,z∈th:=fun z hz=>by
    obtain⟨e,_,h2,_⟩:=(hm z).mp hz
    exact AkI h2
   refine⟨_,_,rfl,SqL.of Ae,by omega,fun ds nd hs=>AaC nd fun z hz=>hth z (Aim z (hs z hz)),fun l ks hk hp nl=>?_⟩
   have s3:Ar H (upd H2 p (.lst (vI ns))):=s2.new np
   refine k l ks _ (s3.new nl) (s3.free nl) Ae ⟨fun i a b e1 e2=>?_,fun a ha=>hth a (Aim a ((hk a).mp ha))⟩ fun z=>?_
   ·obtain⟨i1,rfl⟩:=List.getElem?_eq_some_iff.mp e1
    obtain⟨i2,rfl⟩:=List.getElem?_eq_some_iff.mp e2
    exact List.pairwise_iff_getElem.mp hp i (i+1) i1 i2 (by omega)
   ·rw[hk z,hm z]
    exact⟨fun⟨e,_,h⟩=>⟨e,h⟩,fun⟨e,h1,h2⟩=>⟨e,(List.getElem?_eq_some_iff.mp h2).1,h1,h2⟩⟩
theorem WR{f:List (List Nat)}{u:List Nat}(h:u∈f):(f.map tx)[ix f u]?=some (tx u)∧(∀ i,i<ix f u→(f.map tx)[i]?≠some (tx u))∧ix f u<f.length:=by
 refine⟨by rw[AkM,AeI h];rfl,fun i hi z=>?_,Aaq h⟩
 rw[AkM] at z
 obtain⟨y,hy,e⟩:=Option.map_eq_some_iff.mp z
 rw[VJ e] at hy
 exact AeJ hi hy
theorem WT(l:List Nat)(z:Nat):nts l++[(z:Int)]=nts (l++[z]):=by unfold nts;rw[AkL];rfl
def WW {α:Type}[DecidableEq α](l:List α)(i:Nat):List Nat:=(l.take i).map fun x=>ix (unl l) x
theorem YK{α:Type}[DecidableEq α](l:List α):WW l l.length=num l:=by unfold WW num;rw[Alq]
theorem YL{α:Type}[DecidableEq α]{l:List α}{i:Nat}{x:α}(h:l[i]?=some x):WW l (i+1)=WW l i++[ix (unl l) x]:=by
 unfold WW
 rw[Ale,h,AkL]
 rfl
theorem YM{α:Type}[DecidableEq α]{l:List α}{i:Nat}(h:i≤l.length):(WW l i).length=i:=by
 unfold WW
 rw[AkE,AkU]
 omega
theorem AaD{α:Type}[DecidableEq α]{l:List α}{z:Int}(h:z∈nts (num l)):0≤z∧z<((unl l).length:Int):=by
 obtain⟨y,hy,rfl⟩:=Ov.mp h
 have:=Wn hy
 omega
structure Lts (cl:List (List Nat)) (m:Nat) (tss:List (List Int)):Prop where
 l:tss.length=(unl cl).length
 r:∀(j:Nat) (u:List Nat) (ks:List Int),(unl cl)[j]?=some u→tss[j]?=some ks→Rs ks∧Adh (nts (num (cols cl m))) u ks
def Adi (K:PySem.W.Frag)(t:Adr):Sp:=fun vs H Q _=>∃(a:Addr) (cl:List (List Nat)) (m n:Nat),vs=[.ref a]∧SqL K H a (vS cl)∧Cl cl m n ∧
 ∀ d dx a' b' c' qs tss H',Ar H H'→H d=none→Lts cl m tss→Ft (nts (num (cols cl m))) tss (nts (num cl))→IsD t H' d dx a' b' c' qs (nts (num (cols cl m))) tss (nts (num cl))→Q (.ref d) H'
theorem Uj(T:Txt K mg t):BP P w K mg base CX0 6 t.MN t.MP ["cloth"] (Adi K t):=by
 refine T.Jh.F.ok Dp (fun vs H Q E h=>?_) (fun cdv A outer s H vs Q E hr h=>?_)
 ·obtain⟨a,cl,m,n,rfl,_⟩:=h
  rfl
 ·obtain⟨a,cl,m,n,rfl,hS,C,k⟩:=h
  refine⟨_,(Ab (Al (i:=1) Dp.nd rfl (Or.inl rfl) (Av ((Yx T).mono (by decide)) hr rfl T.measured.m T.measured.F.kp T.measured.b .nil Bj (Aa (pv 0) Ac)))
   (Ab (Rx (i:=2) (Eb.mk (By:=[0]) (Nc:=["end", "cloth"]) rfl (by decide +kernel) (by decide +kernel) (Dy (sc0:=Aj Er) rfl (by decide +kernel)) rfl rfl rfl (by decide +kernel) (fun k j h=>match k,h with | 0,h=>by obtain rfl:=Option.some.inj h;exact⟨_,rfl,rfl,rfl⟩ | _+1,h=>by simp at h)) rfl Dp.nd rfl rfl (Be rfl T.Bs (Aa (Ai (Bl (K:=K)) (pv 1) Af (fun _ _=>rfl)) Ac)) (fun _ _ _ _ _=>.nil) (fun _ _ _ _ _=>(Av ((Wz T).mono (by decide)) hr rfl T.Mq.m T.Mq.F.kp T.Mq.b .nil Bj (Aa (pv 1) (Aa (pv 0) Ac)))) rfl)
   (Ab (Al (i:=3) Dp.nd rfl (Or.inr rfl) (Av ((Vq T).mono (by decide)) hr rfl T.unlike.m T.unlike.F.kp T.unlike.b .nil Bj (Aa (pv 2) Ac)))
   (Ab (Al (i:=4) Dp.nd rfl (Or.inr rfl) (Av ((Vq T).mono (by decide)) hr rfl T.unlike.m T.unlike.F.kp T.unlike.b .nil Bj (Aa (pv 0) Ac)))
   (Ab (Al (i:=5) Dp.nd rfl (Or.inr rfl) (Gp (Eb.mk (By:=[3]) (Nc:=["signs", "unlike_ends"]) rfl (by decide +kernel) (by decide +kernel) (Dy (sc0:=Aj Er) rfl (by decide +kernel)) rfl rfl rfl (by decide +kernel) (fun k j h=>match k,h with | 0,h=>by obtain rfl:=Option.some.inj h;exact⟨_,rfl,rfl,rfl⟩ | _+1,h=>by simp at h)) rfl (BR (K:=K) (pv 2)) (fun _ _ _ _ _=>.nil) (fun _ _ _ _ _=>(Ca (K:=K) PySem.F.plainAttrs_list PySem.F.slot_list_index PySem.F.type_list_index Wm (pv 1) (Aa (pv 0) Ac)))))
   (Ab (Rx (i:=6) (Eb.mk (By:=[4]) (Nc:=["text", "unlike_picks"]) rfl (by decide +kernel) (by decide +kernel) (Dy (sc0:=Aj Er) rfl (by decide +kernel)) rfl rfl rfl (by decide +kernel) (fun k j h=>match k,h with | 0,h=>by obtain rfl:=Option.some.inj h;exact⟨_,rfl,rfl,rfl⟩ | _+1,h=>by simp at h)) rfl Dp.nd rfl rfl (BR (K:=K) (pv 0)) (fun _ _ _ _ _=>.nil) (fun _ _ _ _ _=>(Ca (K:=K) PySem.F.plainAttrs_list PySem.F.slot_list_index PySem.F.type_list_index Wm (pv 1) (Aa (pv 0) Ac))) rfl)
   (Ad (Aw (Ad2 T.Dz.m ((Qe T).mono (by decide)) hr rfl T.Aaw T.JV.b .nil Bj (Aa (pv 5) (Aa (Gp (Eb.mk (By:=[5]) (Nc:=["text", "threading"]) rfl (by decide +kernel) (by decide +kernel) (Dy (sc0:=Aj Er) rfl (by decide +kernel)) rfl rfl rfl (by decide +kernel) (fun k j h=>match k,h with | 0,h=>by obtain rfl:=Option.some.inj h;exact⟨_,rfl,rfl,rfl⟩ | _+1,h=>by simp at h)) rfl (BR (K:=K) (pv 4)) (fun _ _ _ _ _=>.nil) (fun _ _ _ _ _=>(Av ((Ui T).mono (by decide)) hr rfl T.Ji.m T.Ji.F.kp T.Ji.b .nil Bj (Aa (pv 1) (Aa (pv 0) Ac))))) (Aa (pv 6) Ac)))))))))))),?_⟩
  refine⟨_,rfl,a,cl,m,n,rfl,hS,C,fun p hp=>?_⟩
  have hsz:sizeLine=16777216:=sizeLine_eq
  have m1:=C.m1
  have m40:=C.m40
  have n1:=C.n1
  have n40:=C.n40
  have hn:=C.hn
  have s1:Ar H (upd H p (.tup [.int (m:Int),.int (n:Int)])):=.upd hp
  refine⟨_,rfl,_,_,_,_,rfl,rfl,SqT.of Ae,Bb (by decide) rfl,(m:Int),rfl,(by omega),(by omega),?_⟩
  rw[AkJ]
  refine EY (lo:=0) (n:=m) (fun i ys H2=>Ar H H2∧ys=vS ((List.range i).map (col cl))) ⟨s1,rfl⟩ ?_ ?_ ?_ ?_
  ·rintro i ys H2 hi ⟨s2,rfl⟩
   rw[Bq,AkE,AkV]
   omega
  ·exact Ce m40
  ·rintro i ys H2 hi ⟨s2,rfl⟩
   refine Gh.no ?_
   refine⟨_,rfl,_,rfl,a,cl,m,n,i,(by rw[Alk];rfl),s2.seq hS,C,hi,fun H3 s3=>?_⟩
   refine CN.of hi ⟨s2.trans s3,?_⟩
   rw[Eu,Alx,AkL]
   rfl
  rintro ys H2 p2 ⟨s2,rfl⟩ np2
  obtain⟨es,hes⟩:∃ es,es=cols cl m:=⟨_,rfl⟩
  have les:es.length=m:=by rw[hes,Ib]
  rw[show(List.range m).map (col cl)=es from hes.symm]
  rw[← hes] at k
  have s3:Ar H (upd H2 p2 (.lst (vS es))):=s2.new np2
  generalize hH3:upd H2 p2 (.lst (vS es))=H3 at s3 ⊢
  have h3:H3 p2=some (.lst (vS es)):=by rw[← hH3];exact Ae
  clear hH3
  refine⟨_,rfl,p2,es,rfl,SqL.of h3,by omega,fun q1 H4 s4 nq1 h4=>?_⟩
  have lf1:=Qw es
  have mf1:∀ u∈es,u∈unl es:=fun u hu=>(HF u es).mpr hu
  have s14:=s3.trans s4
  refine⟨_,rfl,a,cl,rfl,s14.seq hS,by omega,fun q2 H5 s5 nq2 h5=>?_⟩
  have lf2:=Qw cl
  have mf2:∀ u∈cl,u∈unl cl:=fun u hu=>(HF u cl).mpr hu
  have mg2:∀ u∈unl cl,u∈cl:=fun u hu=>(HF u cl).mp hu
  have s15:=s14.trans s5
  have hp2:=s5 _ _ (s4 _ _ h3)
  have hq1:=s5 _ _ h4
  have g1:0<(unl cl).length:=AdU fun z=>by rw[z] at hn;simp at hn;omega
  refine⟨_,rfl,_,rfl,⟨_,SqL.of hp2⟩,GC (K:=K) (a:=p2) (xs:=vS es) (fun i ys H6=>H6=H5∧ys=vI (nts (WW es i))) ⟨rfl,rfl⟩ ?_ ?_ ?_ ?_⟩
  ·rintro i ys H6 hi ⟨rfl,rfl⟩
   rw[Bq] at hi
   exact⟨SqL.of hp2,by rw[Bx,Hg,YM hi];exact AkF _⟩
  ·rw[Bq];omega
  ·rintro i xv ys H6 hi hxv ⟨rfl,rfl⟩
   obtain⟨u,hu,rfl⟩:=Hw hxv
   obtain⟨j1,j2,j3⟩:=WR (mf1 u (AkI hu))
   refine Gh.no ?_
   refine⟨_,rfl,.inl ⟨rfl,_,SqL.of hq1⟩,_,rfl,q1,(unl es).map tx,tx u,_,rfl,rfl,(by rw[← Kc];exact hq1),j1,j2,(by rw[AkE];omega),?_⟩
   refine CN.of hi ⟨rfl,?_⟩
   rw[GF,WT,YL hu]
  rintro ys H6 p3 ⟨rfl,rfl⟩ np3
  rw[Bq,YK]
  obtain⟨th,eth⟩:∃ th,th=nts (num es):=⟨_,rfl⟩
  rw[← eth] at k ⊢
  have lth:th.length=m:=by rw[eth,Hg,FZ,les]
  have hth:∀ z∈th,0≤z∧z<40:=fun z hz=>by rw[eth] at hz;have:=AaD hz;omega
  have s6:Ar H6 (upd H6 p3 (.lst (vI th))):=.upd np3
  generalize hH7:upd H6 p3 (.lst (vI th))=H7 at s6 ⊢
  have h7:H7 p3=some (.lst (vI th)):=by rw[← hH7];exact Ae
  clear hH7
  have s17:=s15.trans s6
  have h5':=s6 _ _ h5
  refine⟨_,rfl,_,rfl,⟨_,s17.seq hS⟩,GC (K:=K) (a:=a) (xs:=vS cl) (fun i ys H8=>H8=H7∧ys=vI (nts (WW cl i))) ⟨rfl,rfl⟩ ?_ ?_ ?_ ?_⟩
  ·rintro i ys H8 hi ⟨rfl,rfl⟩
   rw[Bq] at hi
   exact⟨s17.seq hS,by rw[Bx,Hg,YM hi];exact AkF _⟩
  ·rw[Bq];omega
  ·rintro i xv ys H8 hi hxv ⟨rfl,rfl⟩
   obtain⟨u,hu,rfl⟩:=Hw hxv
   obtain⟨j1,j2,j3⟩:=WR (mf2 u (AkI hu))
   refine Gh.no ?_
   refine⟨_,rfl,.inl ⟨rfl,_,SqL.of h5'⟩,_,rfl,q2,(unl cl).map tx,tx u,_,rfl,rfl,(by rw[← Kc];exact h5'),j1,j2,(by rw[AkE];omega),?_⟩
   refine CN.of hi ⟨rfl,?_⟩
   rw[GF,WT,YL hu]
  rintro ys H8 p4 ⟨rfl,rfl⟩ np4
  rw[Bq,YK]
  obtain⟨tr,etr⟩:∃ tr,tr=nts (num cl):=⟨_,rfl⟩
  rw[← etr] at k ⊢
  have ltr:tr.length=n:=by rw[etr,Hg,FZ,hn]
  have htr:∀ z∈tr,0≤z∧z<((unl cl).length:Int):=fun z hz=>by rw[etr] at hz;exact AaD hz
  have s8:Ar H8 (upd H8 p4 (.lst (vI tr))):=.upd np4
  generalize hH9:upd H8 p4 (.lst (vI tr))=H9 at s8 ⊢
  have h9:H9 p4=some (.lst (vI tr)):=by rw[← hH9];exact Ae
  clear hH9
  have s19:=s17.trans s8
  have h9t:=s8 _ _ h7
  have h9u:=s8 _ _ h5'
  refine⟨_,rfl,_,rfl,_,rfl,⟨_,SqL.of h9u⟩,GC (K:=K) (a:=q2) (xs:=vS (unl cl)) (fun i ys H10=>Ar H9 H10∧∃(rs:List Addr) (tss:List (List Int)),ys=rs.map V.ref∧rs.length=i∧tss.length=i∧(∀ ks∈tss,Rs ks)∧(∀(j:Nat) (u:List Nat) (ks:List Int),(unl cl)[j]?=some u→tss[j]?=some ks→Adh th u ks)∧∀(j:Nat) (r:Addr) (ks:List Int),rs[j]?=some r→tss[j]?=some ks→H10 r=some (.lst (vI ks)))
   ⟨.refl _,[],[],rfl,rfl,rfl,fun _ h=>absurd h (by simp),fun j u ks _ h=>(by simp at h),fun j r ks h=>(by simp at h)⟩ ?_ ?_ ?_ ?_⟩
  ·rintro i ys H10 hi ⟨s10,rs,tss,rfl,e,_⟩
   exact⟨SqL.of (s10 _ _ h9u),by rw[AkE];omega⟩
  ·rw[Bq];omega
  ·rintro i xv ys H10 hi hxv ⟨s10,rs,tss,rfl,e,e2,hR,hT,hrs⟩
   obtain⟨u,hu,rfl⟩:=Hw hxv
   refine Gh.no ?_
   refine⟨_,rfl,_,rfl,p3,th,u,rfl,s10 _ _ h9t,?_,?_,hth,fun l ks H11 s11 nl hl R TO=>?_⟩
   ·rw[C.hm u (mg2 u (AkI hu))];exact lth
   ·rw[C.hm u (mg2 u (AkI hu))];exact m40
   refine CN.of hi ⟨s10.trans s11,rs++[l],tss++[ks],by rw[AkL];rfl,by rw[AkG,e];rfl,by rw[AkG,e2];rfl,fun x hx=>?_,fun j u' x h1 h2=>?_,fun j r x h1 h2=>?_⟩
   ·rcases List.mem_append.mp hx with h | h
    ·exact hR x h
    ·rw[List.mem_singleton.mp h];exact R
   ·by_cases hj:j<tss.length
    ·rw[AkR hj] at h2
     exact hT j u' x h1 h2
    ·have hj2:j=i:=by
      have:=(List.getElem?_eq_some_iff.mp h2).1
      rw[AkG] at this
      simp at this
      omega
     rw[AkY (by omega),hj2,e2,Alp] at h2
     cases h2
     rw[hj2,hu] at h1
     cases h1
     exact TO
   ·by_cases hj:j<rs.length
    ·rw[AkR hj] at h1
     rw[AkR (by omega)] at h2
     exact s11 _ _ (hrs j r x h1 h2)
    ·have hj2:j=i:=by
      have:=(List.getElem?_eq_some_iff.mp h1).1
      rw[AkG] at this
      simp at this
      omega
     subst hj2
     rw[AkY (by omega),e,Alp] at h1
     rw[AkY (by omega),e2,Alp] at h2
     cases h1
     cases h2
     exact hl
  rintro ys H10 p5 ⟨s10,rs,tss,rfl,lrs,Ain,hR,hT,hrs⟩ np5
  rw[Bq] at lrs Ain
  have s11:Ar H9 (upd H10 p5 (.lst (rs.map V.ref))):=s10.new np5
  have sn:Ar H10 (upd H10 p5 (.lst (rs.map V.ref))):=.upd np5
  generalize Aio:upd H10 p5 (.lst (rs.map V.ref))=H11 at s11 sn ⊢
  have h11:H11 p5=some (.lst (rs.map V.ref)):=by rw[← Aio];exact Ae
  clear Aio
  have FT:Ft th tss tr:={ m1:=by omega,m40:=by omega,t1:=by omega,t40:=by omega,n1:=by omega,n40:=by omega,hth:=hth,hti:=hR,htr:=fun v hv=>by have:=htr v hv;omega }
  refine⟨_,rfl,fun x dx nx ndx hne=>?_⟩
  have sz:Ar H11 (upd (upd H11 dx (.own x)) x (.ins t.El dx [])):=(Ar.upd ndx).new (by rw[Ax (fun z=>hne z.symm)];exact nx)
  refine⟨x,dx,p3,p5,p4,rs,th,tss,tr,rfl,Ae,sz _ _ (s11 _ _ h9t),⟨sz _ _ h11,by omega,fun j r ks e1 e2=>sz _ _ (sn _ _ (hrs j r ks e1 e2))⟩,sz _ _ (s11 _ _ h9),?_,fun a' b' c' qs H' sb _ _ _ _ D=>⟨rfl,?_⟩⟩
  ·exact FT
  ·have nx0:H x=none:=by
    cases e:H x with
    | none=>rfl
    | some o=>rw[s11 _ _ (s19 _ _ e)] at nx;cases nx
   refine k x dx a' b' c' qs tss H' (fun b o e=>?_) nx0 ⟨Ain,fun j u ks h1 h2=>⟨hR ks (AkI h2),by rw[← hes,← eth];exact hT j u ks h1 h2⟩⟩ FT D
   have e11:=s11 _ _ (s19 _ _ e)
   exact sb b o (fun z=>by rw[z,nx] at e11;cases e11) (sz _ _ e11)
end
def On (s:List Bool)(v:Nat):Prop:=s[v]?=some true
def Uk (s:List Bool):Nat:=s.count true
def Cls (E:Nat→Nat→Prop)(s:List Bool):Prop:=∀ u v,E u v→On s u→On s v
structure Rnd (E:Nat→Nat→Prop) (N:Nat) (s0 s:List Bool) (D:Nat→Nat→Prop):Prop where
 len:s.length=N
 sub:∀ v,On s0 v→On s v
 snd:∀ v,On s v→Rc E 0 v
 cl:Cls E s0→s=s0
 ok:∀ u v,D u v→E u v→On s0 u→On s v
theorem WY{s:List Bool}{u v:Nat}(hv:v<s.length):On (s.set v true) u↔u=v∨On s u:=by
 unfold On
 by_cases e:v=u
 ·subst e
  rw[AlH hv]
  simp
 ·rw[AlI e]
  constructor
  ·exact fun h=>.inr h
  ·rintro(h | h)
   ·exact absurd h.symm e
   ·exact h
theorem Ag5{s:List Bool}{v:Nat}(h:On s v):s.set v true=s:=by
 unfold On at h
 refine AlB fun i=>?_
 by_cases e:v=i
 ·subst e
  rw[AlH (List.getElem?_eq_some_iff.mp h).1,h]
 ·rw[AlI e]
theorem Rnd.put{E:Nat→Nat→Prop}{N:Nat}{s0 s:List Bool}{D:Nat→Nat→Prop}(R:Rnd E N s0 s D){u v:Nat}(hv:v<N)(hu:On s u)(e:E u v):Rnd E N s0 (s.set v true) (fun a b=>D a b∨(a=u∧b=v)):=by
 have hl:v<s.length:=by rw[R.len];exact hv
 refine⟨by rw[Al9];exact R.len,fun w h=>(WY hl).mpr (.inr (R.sub w h)),fun w h=>?_,fun c=>?_,fun a b d f g=>?_⟩
 ·rcases(WY hl).mp h with h | h
  ·rw[h];exact .snoc (R.snd u hu) e
  ·exact R.snd w h
 ·have e0:=R.cl c
  subst e0
  exact Ag5 (c u v e hu)
 ·rcases d with d | ⟨_,rfl⟩
  ·exact(WY hl).mpr (.inr (R.ok a b d f g))
  ·exact(WY hl).mpr (.inl rfl)
theorem Rnd.skip{E:Nat→Nat→Prop}{N:Nat}{s0 s:List Bool}{D:Nat→Nat→Prop}(R:Rnd E N s0 s D){u v:Nat}(h:¬(On s u∧E u v)):Rnd E N s0 s (fun a b=>D a b∨(a=u∧b=v)) :=
 ⟨R.len,R.sub,R.snd,R.cl,fun a b d f g=>by
  rcases d with d | ⟨rfl,rfl⟩
  ·exact R.ok a b d f g
  ·exact absurd ⟨R.sub a g,f⟩ h⟩
theorem Rnd.weak{E:Nat→Nat→Prop}{N:Nat}{s0 s:List Bool}{D D':Nat→Nat→Prop}(R:Rnd E N s0 s D)(h:∀ a b,E a b→D' a b→D a b):Rnd E N s0 s D' :=
 ⟨R.len,R.sub,R.snd,R.cl,fun a b d f g=>R.ok a b (h a b f d) f g⟩
theorem Ag6:∀(s:List Bool),Uk s≤s.length:=fun s=>List.count_le_length
theorem ZS:∀{s0 s:List Bool},s0.length=s.length→(∀ v,On s0 v→On s v)→(∃ v,On s v∧¬On s0 v)→Uk s0<Uk s
 | [],[],_,_,⟨v,h,_⟩=>by unfold On at h;simp at h
 | [],_::_,h,_,_=>by simp at h
 | _::_,[],h,_,_=>by simp at h
 | a::s0,b::s,hl,sub,⟨v,h1,h2⟩=>by
  have hl':s0.length=s.length:=by simpa using hl
  have Ag7:∀ v,On s0 v→On s v:=fun v h=>sub (v+1) h
  have le:Uk s0≤Uk s:=by
   by_cases q:∃ v,On s v∧¬On s0 v
   ·exact Al7 (ZS hl' Ag7 q)
   ·have:s0=s:=AlB fun i=>by
     by_cases hi:i<s0.length
     ·have hi':i<s.length:=by omega
      rw[AkD hi,AkD hi']
      cases e0:s0[i] <;> cases e1:s[i]
      ·rfl
      ·exact absurd ⟨i,by unfold On;rw[AkD hi',e1],by unfold On;rw[AkD hi,e0];simp⟩ q
      ·have:=Ag7 i (by unfold On;rw[AkD hi,e0])
       unfold On at this
       rw[AkD hi',e1] at this
       simp at this
      ·rfl
     ·rw[Alc (by omega),Alc (by omega)]
    rw[this]
    exact AkF _
  have ab:a=true→b=true:=fun h=>by
   have:=sub 0 (by unfold On;rw[h];rfl)
   unfold On at this
   simpa using this
  unfold Uk at le ⊢
  rw[List.count_cons,List.count_cons]
  cases v with
  | zero =>
   have b1:b=true:=by unfold On at h1;simpa using h1
   have a1:a=false:=by
    cases a with
    | false=>rfl
    | true=>exact absurd (by unfold On;rfl) h2
   rw[b1,a1]
   simp
   omega
  | succ v =>
   have lt:Uk s0<Uk s:=ZS hl' Ag7 ⟨v,h1,h2⟩
   unfold Uk at lt
   cases a with
   | false=>cases b <;> simp <;> omega
   | true=>rw[ab rfl];simp;omega
structure Bet (E:Nat→Nat→Prop) (N:Nat) (s:List Bool) (i:Nat):Prop where
 len:s.length=N
 z:On s 0
 snd:∀ v,On s v→Rc E 0 v
 cn:Cls E s∨i+1≤Uk s
theorem Bet.start{E:Nat→Nat→Prop}{N:Nat}(hN:0<N):Bet E N ((List.range N).map fun x=>decide (x=0)) 0:=by
 have at0:∀ v,On ((List.range N).map fun x=>decide (x=0)) v↔v=0∧v<N:=fun v=>by
  unfold On
  rw[AkM]
  by_cases h:v<N
  ·rw[Al3 h]
   simp
   omega
  ·rw[Alc (by rw[AkV];omega)]
   simp
   omega
 refine⟨by simp,(at0 0).mpr ⟨rfl,hN⟩,fun v h=>?_,.inr ?_⟩
 ·rw[((at0 v).mp h).1];exact .nil
 ·unfold Uk
  refine List.one_le_count_iff.mpr ?_
  exact AkI ((at0 0).mpr ⟨rfl,hN⟩)
theorem Bet.rnd{E:Nat→Nat→Prop}{N:Nat}{s:List Bool}{i:Nat}(B:Bet E N s i):Rnd E N s s (fun _ _=>False):=⟨B.len,fun _ h=>h,B.snd,fun _=>rfl,fun _ _ h=>h.elim⟩
theorem Bet.next{E:Nat→Nat→Prop}{N:Nat}{s0 s:List Bool}{i:Nat}{D:Nat→Nat→Prop}(B:Bet E N s0 i)(R:Rnd E N s0 s D)(h:∀ u v,E u v→D u v):Bet E N s (i+1):=by
 refine⟨R.len,R.sub 0 B.z,R.snd,?_⟩
 by_cases c:Cls E s0
 ·left
  rw[R.cl c]
  exact c
 ·right
  have c2:∃ u v,E u v∧On s0 u∧¬On s0 v:=Classical.byContradiction fun z=>c fun u v e hu=>Classical.byContradiction fun y=>z ⟨u,v,e,hu,y⟩
  obtain⟨u,v,e,hu,hv⟩:=c2
  have lt:=ZS (s0:=s0) (s:=s) (by rw[R.len,B.len]) R.sub ⟨v,R.ok u v (h u v e) e hu,hv⟩
  rcases B.cn with b | b
  ·exact absurd b c
  ·omega
theorem Bet.done{E:Nat→Nat→Prop}{N:Nat}{s:List Bool}(B:Bet E N s N):∀ v,On s v↔Rc E 0 v:=by
 have c:Cls E s:=by
  rcases B.cn with b | b
  ·exact b
  ·have:=Ag6 s
   have:=B.len
   omega
 intro v
 refine⟨B.snd v,fun r=>?_⟩
 induction r with
 | nil=>exact B.z
 | snoc _ e ih=>exact c _ _ e ih
theorem Bet.all{E:Nat→Nat→Prop}{N:Nat}{s:List Bool}(B:Bet E N s N):s.all id=true↔∀ v,v<N→Rc E 0 v:=by
 rw[Ami]
 constructor
 ·intro h v hv
  refine(B.done v).mp ?_
  have hv':v<s.length:=by rw[B.len];exact hv
  have:=h _ (AkN hv')
  unfold On
  rw[AkD hv']
  exact congrArg some this
 ·intro h b hb
  obtain⟨v,hv,rfl⟩:=Alh hb
  have:=(B.done v).mpr (h v (by rw[← B.len];exact hv))
  unfold On at this
  rw[AkD hv] at this
  exact Option.some.inj this
theorem Aip{N:Nat}{E:Nat→Nat→Prop}(h1:∀ v,v<N→Rc E 0 v)(h2:∀ v,v<N→Rc (fun u v=>E v u) 0 v):SC N E:=by
 have rev:∀{a b:Nat},Rc (fun u v=>E v u) a b→Rc E b a:=fun {a b} r=>by
  induction r with
  | nil=>exact .nil
  | snoc _ e ih=>exact(Rc.snoc (E:=E) .nil e).trans ih
 exact fun u v hu hv=>(rev (h2 u hu)).trans (h1 v hv)
theorem AaE{N:Nat}{E:Nat→Nat→Prop}(s:SC N E)(h0:0<N):(∀ v,v<N→Rc E 0 v)∧∀ v,v<N→Rc (fun u v=>E v u) 0 v:=by
 have rev:∀{a b:Nat},Rc E a b→Rc (fun u v=>E v u) b a:=fun {a b} r=>by
  induction r with
  | nil=>exact .nil
  | snoc _ e ih=>exact(Rc.snoc (E:=fun u v=>E v u) .nil e).trans ih
 exact⟨fun v hv=>s 0 v h0 hv,fun v hv=>rev (s v 0 hv h0)⟩
section
variable {P:Program}{w:World}{K:PySem.W.Frag}{mg:Str→Option Value}{base:Heap}{t:Adr}
theorem Aiq{x e p:Nat}(h:hs x e p≠33):Sq3 (hs x e p):=by
 unfold hs at h ⊢
 split
 ·split
  ·exact .inr (.inr rfl)
  ·exact .inl rfl
 ·split
  ·exact .inr (.inl rfl)
  ·rename_i h1 h2
   rw[if_neg h1,if_neg h2] at h
   exact absurd rfl h
theorem YQ{pic:List (List Nat)}{m n:Nat}{wa we ua ue:List Nat}(C:Pic pic m n)(F:Ru pic m n wa we ua ue){j k:Nat}(hj:j<n)(hk:k<m):gc (DR pic ua ue) j k≠33:=by
 rw[Y9 (wa:=ua) (we:=ue) C.rct hj hk]
 intro z
 obtain⟨h1,h2⟩:=AhA.mp z
 rcases F.cr j k hj hk with z | z
 ·exact h1 z
 ·exact h2 z
theorem Air{pic:List (List Nat)}{m n:Nat}{wa we ua ue:List Nat}(C:Pic pic m n)(F:Ru pic m n wa we ua ue):∀ r∈DR pic ua ue,33∉r:=by
 intro r hr z
 have RH:=Vm (wa:=ua) (we:=ue) C.rct
 obtain⟨j,hj,e⟩:=Mz.mp hr
 subst e
 obtain⟨k,hk,ek⟩:=My.mp z
 have hjn:j<n:=by rw[← RH.1];exact hj
 exact YQ C F hjn (by rw[RH.row hjn] at hk;exact hk) ek
theorem Adj{pic:List (List Nat)}{m n:Nat}{wa we ua ue:List Nat}(C:Pic pic m n)(F:Ru pic m n wa we ua ue)(hm:2≤m)(hn:2≤n):Hc (DR pic ua ue) m n:=by
 have RH:=Vm (wa:=ua) (we:=ue) C.rct
 refine⟨RH.1,RH.2,fun r hr c hc=>?_,hm,C.m40,hn,C.n40⟩
 obtain⟨j,hj,e⟩:=Mz.mp hr
 have hjn:j<n:=by rw[← RH.1];exact hj
 subst e
 obtain⟨k,hk,ek⟩:=My.mp hc
 have hkm:k<m:=by rw[RH.row hjn] at hk;exact hk
 have ne:=YQ C F hjn hkm
 have g2:gc (DR pic ua ue) j k=c:=ek
 rw[Y9 (wa:=ua) (we:=ue) C.rct hjn hkm] at g2 ne
 rw[← g2]
 exact Aiq ne
def Adk (pic:List (List Nat))(m n:Nat)(wa we ua ue:List Nat):Prop:=Ru pic m n wa we ua ue∧∀ O,Fit pic m n (wa++we) O→∀ s,s<m+n→(∀ v,v<s→O v=(ua++ue).getD v 0)→(ua++ue).getD s 0≤O s
def Adl (K:PySem.W.Frag)(t:Adr):Sp:=fun vs H Q _=>∃(a:Addr) (pic:List (List Nat)) (m n:Nat) (wa we:List Nat),vs=[.ref a,.str (tx wa),.str (tx we)]∧SqL K H a (vS pic)∧Pic pic m n∧2≤m∧2≤n∧wa.length=m∧we.length=n∧(∀ c∈wa,Co c∨c=63)∧(∀ c∈we,Co c∨c=63) ∧
 ((∀ O,¬Fit pic m n (wa++we) O)→∀(p lc:Addr) (s0:Nat) (H':Hp),Ar H H'→s0<m+n→H' p=some (.tup [.str "none", .int (s0:Int),.ref lc])→Cns H' lc pic m n (wa++we) s0 (due (wa++we) s0) (due (wa++we) s0).length→Q (.ref p) H') ∧
 (∀(ua ue:List Nat),Adk pic m n wa we ua ue→Hc (DR pic ua ue) m n→¬SC (m+n) (Ed m n (sg2 (DR pic ua ue)))→∀(p l:Addr) (fs:List Nat) (H':Hp),Ar H H'→H' p=some (.tup [.str "cut", .str (tx ua),.str (tx ue),.ref l])→H' l=some (.lst (vI (cI fs)))→Lf (lows (DR pic ua ue) m) (List.range (m+n)) fs→Q (.ref p) H') ∧
 (∀(ua ue:List Nat),Adk pic m n wa we ua ue→Hc (DR pic ua ue) m n→∀(cf:List (List Nat)),Cl cf m n→Fnd m n (sg2 (DR pic ua ue)) (sg2 cf)→∀(p d dx a' b' c':Addr) (qs:List Addr) (tss:List (List Int)) (H':Hp),Ar H H'→H' p=some (.tup [.str "draft", .ref d,.str (tx ua),.str (tx ue)])→IsD t H' d dx a' b' c' qs (nts (num (cols cf m))) tss (nts (num cf))→Lts cf m tss→Q (.ref p) H')
theorem Ais{cf:List (List Nat)}{m n:Nat}{h:Nat→Nat→Nat}(C:Hc cf m n)(F:Fnd m n h (sg2 cf)):Cl cf m n:=by
 refine⟨C.hn,C.hm,fun r hr c hc=>?_,by have:=C.m2;omega,C.m40,by have:=C.n2;omega,C.n40⟩
 obtain⟨j,hj,e⟩:=Alh hr
 subst e
 obtain⟨k,hk,e⟩:=Alh hc
 subst e
 have:=F.sg j k (by rw[← C.hn];exact hj) (by rw[← C.hm _ hr];exact hk)
 unfold sg2 at this
 rw[show cf.getD j []=cf[j] by simp[List.getD,hj],show cf[j].getD k 0=cf[j][k] by simp[List.getD,hk]] at this
 exact this
theorem Ux(T:Txt K mg t):BP P w K mg base CX0 7 t.Kl t.Km ["picture", "warp", "weft"] (Adl K t):=by
 refine T.Ky.F.ok Jq (fun vs H Q E h=>?_) (fun cdv A outer s H vs Q E hr h=>?_)
 ·obtain⟨a,pic,m,n,wa,we,rfl,_⟩:=h
  rfl
 ·obtain⟨a,pic,m,n,wa,we,rfl,hS,C,hm,hn,hwa,hwe,ca,ce,k1,k2,k3⟩:=h
  have hsz:sizeLine=16777216:=sizeLine_eq
  refine⟨_,(Ab (Bh (Ag Em (Ah (Abf (K:=K)) rfl T.AhG Af2 (Aa (Av ((FP T).mono (by decide)) hr rfl T.BW.m T.BW.F.kp T.BW.b .nil Bj (Aa (pv 0) Ac)) Ac)) Af (Am _))
    (Ad Cq)
    Aq)
   (Ab (Al (i:=3) Jq.nd rfl (Or.inl rfl) (Av ((Iv T).mono (by decide)) hr rfl T.Dc.m T.Dc.F.kp T.Dc.b .nil Bj (Aa (pv 0) (Aa (pv 1) (Aa (pv 2) Ac)))))
   (Ab (Bh (Ag Cz (Ai (Bl (K:=K)) (pv 3) Af (fun _ _=>rfl)) Bg (Am _))
    (Ad (Aw (pv 3)))
    Aq)
   (Ab (Al (i:=4) Jq.nd rfl (Or.inl rfl) (Av ((Qc T).mono (by decide)) hr rfl T.Gy.m T.Gy.F.kp T.Gy.b .nil Bj (Aa (Av ((W5 T).mono (by decide)) hr rfl T.Mr.m T.Mr.F.kp T.Mr.b .nil Bj (Aa (pv 0) (Aa (Ai (Bl (K:=K)) (pv 3) Af (fun _ _=>rfl)) (Aa (Ai (Bl (K:=K)) (pv 3) Af (fun _ _=>rfl)) Ac)))) Ac)))
   (Ab (Bh (Ag Cz (Ai (Bl (K:=K)) (pv 4) Af (fun _ _=>rfl)) Bg (Am _))
    (Ad (Aw (Gn (Aa Bg (Aa (Ai (Bl (K:=K)) (pv 3) Af (fun _ _=>rfl)) (Aa (Ai (Bl (K:=K)) (pv 3) Af (fun _ _=>rfl)) (Aa (Ai (Bl (K:=K)) (pv 4) Af (fun _ _=>rfl)) Ac)))))))
    Aq)
   (Ad (Aw (Gn (Aa Bg (Aa (Av ((Uj T).mono (by decide)) hr rfl T.Jh.m T.Jh.F.kp T.Jh.b .nil Bj (Aa (Ai (Bl (K:=K)) (pv 4) Af (fun _ _=>rfl)) Ac)) (Aa (Ai (Bl (K:=K)) (pv 3) Af (fun _ _=>rfl)) (Aa (Ai (Bl (K:=K)) (pv 3) Af (fun _ _=>rfl)) Ac)))))))))))),?_⟩
  refine⟨_,rfl,a,pic,m,n,rfl,hS,C,fun p hp=>?_⟩
  have s1:Ar H (upd H p (.tup [.int (m:Int),.int (n:Int)])):=.upd hp
  have hp1:(upd H p (.tup [.int (m:Int),.int (n:Int)])) p=some (.tup (vI [(m:Int),(n:Int)])):=Ae
  generalize upd H p (.tup [.int (m:Int),.int (n:Int)])=H1 at s1 hp1 ⊢
  refine⟨p,[(m:Int),(n:Int)],rfl,SqT.of hp1,(by show 0<2;decide),fun M hM _=>?_⟩
  refine⟨_,_,rfl,rfl,_,rfl,?_⟩
  refine Dg (fun h=>?_) (fun _=>?_)
  ·exfalso
   rcases List.mem_cons.mp hM with e | e
   ·rw[e] at h;omega
   ·rw[List.mem_singleton.mp e] at h;omega
  refine⟨_,rfl,_,rfl,_,rfl,a,pic,m,n,wa,we,rfl,s1.seq hS,C,hwa,hwe,ca,ce,fun q H2 ua ue s2 hq F2 L2=>?_,fun nO q lc s0 H2 s2 h0 hq hc=>?_⟩
  rotate_left
  ·refine⟨_,rfl,_,_,_,_,rfl,rfl,SqT.of hq,Bb (by decide) rfl,rfl,_,rfl,?_⟩
   refine Gi rfl ?_
   exact⟨_,rfl,k1 nO q lc s0 H2 (s1.trans s2) h0 hq hc⟩
  refine⟨_,rfl,_,_,_,_,rfl,rfl,SqT.of hq,Bb (by decide) rfl,rfl,_,rfl,?_⟩
  refine Cv (fun z=>by revert z;decide +kernel) ?_
  have ca2:∀ c∈ua,Co c:=fun c hc=>by
   obtain⟨j,hj,rfl⟩:=Alh hc
   have:=(F2.ca j (by rw[← F2.la];exact hj)).1
   rwa [show ua.getD j 0=ua[j] by simp[List.getD,hj]] at this
  have ce2:∀ c∈ue,Co c:=fun c hc=>by
   obtain⟨j,hj,rfl⟩:=Alh hc
   have:=(F2.ce j (by rw[← F2.le];exact hj)).1
   rwa [show ue.getD j 0=ue[j] by simp[List.getD,hj]] at this
  have u2:=s1.trans s2
  have Hh:=Adj C F2 hm hn
  refine⟨_,rfl,_,rfl,_,_,_,_,rfl,rfl,SqT.of hq,Bb (by decide) rfl,_,rfl,_,_,_,_,rfl,rfl,SqT.of hq,Bb (by decide) rfl,a,pic,m,n,ua,ue,rfl,u2.seq hS,C,F2.la,F2.le,ca2,ce2,Air C F2,fun l H3 s3 hl=>?_⟩
  have u3:=u2.trans s3
  have hq3:=s3 _ _ hq
  refine⟨l,_,m,n,rfl,SqL.of hl,Hh,fun nS p2 lc fs H4 s4 hp4 hl4 Lf4=>?_,fun yS p2 lr lf cf xs H4 s4 hp4 To=>?_⟩
  ·have hq4:=s4 _ _ hq3
   refine⟨_,rfl,_,_,_,_,rfl,rfl,SqT.of hp4,Bb (by decide) rfl,rfl,_,rfl,?_⟩
   refine Gi rfl ?_
   refine⟨_,rfl,_,_,_,_,rfl,rfl,SqT.of hq4,Bb (by decide) rfl,_,rfl,_,_,_,_,rfl,rfl,SqT.of hq4,Bb (by decide) rfl,_,rfl,_,_,_,_,rfl,rfl,SqT.of hp4,Bb (by decide) rfl,(by show 4≤sizeLine;omega),fun tp ntp=>?_⟩
   exact k2 ua ue ⟨F2,L2⟩ Hh nS tp lc fs _ ((u3.trans s4).new ntp) Ae ((Ar.upd ntp) _ _ hl4) Lf4
  ·have hq4:=s4 _ _ hq3
   have Ccf:=Ais To.c To.fin
   refine⟨_,rfl,_,_,_,_,rfl,rfl,SqT.of hp4,Bb (by decide) rfl,rfl,_,rfl,?_⟩
   refine Cv (fun z=>by revert z;decide +kernel) ?_
   refine⟨_,rfl,_,_,_,_,rfl,rfl,SqT.of hp4,Bb (by decide) rfl,lr,cf,m,n,rfl,SqL.of To.r,Ccf,fun d dx a' b' c' qs tss H5 s5 nd Lt Ft5 D=>?_⟩
   have hq5:=s5 _ _ hq4
   refine⟨_,rfl,_,_,_,_,rfl,rfl,SqT.of hq5,Bb (by decide) rfl,_,rfl,_,_,_,_,rfl,rfl,SqT.of hq5,Bb (by decide) rfl,(by show 4≤sizeLine;omega),fun tp ntp=>?_⟩
   exact k3 ua ue ⟨F2,L2⟩ Hh cf Ccf To.fin tp d dx a' b' c' qs tss _ (((u3.trans s4).trans s5).new ntp) Ae (D.same (.upd ntp)) Lt
end
end Mine
set_option maxHeartbeats 800000
namespace Mine
open PySem L2
section
variable {P:Program}{w:World}{K:PySem.W.Frag}{mg:Str→Option Value}{base:Heap}{t:Adr}
def Ab8 (K:PySem.W.Frag):Sp:=fun vs H Q _=>∃(a:Addr) (cl:List (List Nat)) (m n:Nat) (wa we:List Nat),vs=[.ref a,.str (tx wa),.str (tx we)]∧SqL K H a (vS cl)∧Rct cl m n∧m≤40∧n≤40∧wa.length=m∧we.length=n ∧
 ∀ l H',Ar H H'→H' l=some (.lst (vS (DR cl wa we)))→Q (.ref l) H'
theorem Ait(x e p:Nat):atI (("!#.?" : Str)).cps.toList ((if decide ((V.str ⟨#[e]⟩:V)=V.str ⟨#[x]⟩)=true then (1:Int) else 0)+2*(if decide ((V.str ⟨#[p]⟩:V)=V.str ⟨#[x]⟩)=true then (1:Int) else 0))=some (hs x e p):=by
 unfold hs
 have c:(("!#.?" : Str)).cps.toList=[33,35,46,63]:=by decide +kernel
 rw[c]
 by_cases h1:e=x
 ·have a1:decide ((V.str ⟨#[e]⟩:V)=V.str ⟨#[x]⟩)=true:=decide_eq_true (CV.mpr h1)
  rw[a1,if_pos rfl,if_pos h1]
  by_cases h2:p=x
  ·rw[decide_eq_true (CV.mpr h2),if_pos rfl,if_pos h2];rfl
  ·rw[decide_eq_false fun z=>h2 (CV.mp z),if_neg (by decide),if_neg h2];rfl
 ·have a1:decide ((V.str ⟨#[e]⟩:V)=V.str ⟨#[x]⟩)=false:=decide_eq_false fun z=>h1 (CV.mp z)
  rw[a1,if_neg (by decide),if_neg h1]
  by_cases h2:p=x
  ·rw[decide_eq_true (CV.mpr h2),if_pos rfl,if_pos h2];rfl
  ·rw[decide_eq_false fun z=>h2 (CV.mp z),if_neg (by decide),if_neg h2];rfl
theorem Uy(T:Txt K mg t):BP P w K mg base CX0 1 t.Ko t.Kq ["picture", "warp", "weft"] (Ab8 K):=by
 refine T.Kz.F.ok DQ (fun vs H Q E h=>?_) (fun cdv A outer s H vs Q E hr h=>?_)
 ·obtain⟨a,cl,m,n,wa,we,rfl,_⟩:=h
  rfl
 ·obtain⟨a,cl,m,n,wa,we,rfl,hS,R,m40,n40,hwa,hwe,k⟩:=h
  have hsz:sizeLine=16777216:=sizeLine_eq
  have hlen:(vS cl).length=n:=by rw[Bq,R.1]
  have sl:∀ u:List Nat,u.length≤40→(tx u).length≤sizeLine:=fun u h=>by rw[An];exact Ce h
  refine⟨_,(Ab (Al (i:=3) DQ.nd rfl (Or.inl rfl) (CW Ac))
   (Ab (Bo PassesOwn.never rfl (Be rfl T.Bs (Aa (Ah (Ak (K:=K)) rfl T.Bm Bc (Aa (pv 0) Ac)) Ac)) (Ba (i:=4) DQ.nd rfl (Or.inl rfl))
    (Ab (Al (i:=5) DQ.nd rfl (Or.inl rfl) Bg)
    (Ab (Bo PassesOwn.never rfl (Be rfl T.Bs (Aa (Ah Ay rfl T.Bm Bc (Aa (pv 1) Ac)) Ac)) (Ba (i:=6) DQ.nd rfl (Or.inl rfl))
     (Ab (Al (i:=7) DQ.nd rfl (Or.inl rfl) (Ai Bu (Ai (Ao (K:=K)) (pv 0) (pv 4) (fun _ _=>rfl)) (pv 6) (fun _ _=>rfl)))
     (Ad (Al (i:=5) DQ.nd rfl (Or.inl rfl) (Az Cp (pv 5) (Ai Bu Bg (Az Cj (Ep Ql rfl T.Aav VL (Aa (Gm Cz (Ai Bu (pv 1) (pv 6) (fun _ _=>rfl)) (pv 7) (Am _)) Ac)) (Az HS Af (Ep Ql rfl T.Aav VL (Aa (Gm Cz (Ai Bu (pv 2) (pv 4) (fun _ _=>rfl)) (pv 7) (Am _)) Ac)))) (fun _ _=>rfl)))))))
    (Ad (Br (Ca (K:=K) PySem.F.plainAttrs_list PySem.F.slot_list_append PySem.F.type_list_append BL (pv 3) (Aa (pv 5) Ac)))))))
   (Ad (Aw (pv 3))))),?_⟩
  refine⟨AkP _,fun q nq=>?_⟩
  have s1:Ar H (upd H q (.lst [])):=.upd nq
  have hq1:(upd H q (.lst [])) q=some (.lst (vS [])):=Ae
  generalize upd H q (.lst [])=H1 at s1 hq1 ⊢
  refine⟨_,rfl,_,_,rfl,.inl (s1.seq hS),_,rfl,(by omega),(by rw[hlen];omega),?_⟩
  rw[AkJ,hlen]
  refine Bp (lo:=0) (n:=n) (fun i σ H2=>∃(v4 v5 v6 v7:Option V),σ=[some (.ref a),some (.str (tx wa)),some (.str (tx we)),some (.ref q),v4,v5,v6,v7]∧Ar H H2∧H2 q=some (.lst (vS ((DR cl wa we).take i)))) ⟨none,none,none,none,rfl,s1,hq1⟩ ?_ ?_
  ·rintro i σ H2 hi ⟨v4,v5,v6,v7,rfl,s2,hq2⟩
   have hic:i<cl.length:=by rw[R.1];exact hi
   obtain⟨ei,li,ai⟩:=R.at hi
   have rl:(Fy (cl.getD i []) wa (we.getD i 0)).length=m:=by rw[Ml,li]
   obtain⟨row,ZC⟩:∃ row,row=Fy (cl.getD i []) wa (we.getD i 0):=⟨_,rfl⟩
   rw[← ZC] at rl
   refine⟨_,rfl,_,rfl,sl _ (by omega),_,rfl,(by omega),(by rw[An];omega),?_⟩
   rw[An,AkJ,hwa]
   refine Bp (lo:=0) (n:=m) (fun j σ H3=>∃(v6 v7:Option V),σ=[some (.ref a),some (.str (tx wa)),some (.str (tx we)),some (.ref q),some (.int (0+(i:Int))),some (.str (tx (row.take j))),v6,v7]∧H3=H2) ⟨_,_,by rw[show(("" : Str))=tx [] from by decide +kernel] <;> rfl,rfl⟩ ?_ ?_
   ·rintro j σ H3 hj ⟨v6,v7,rfl,rfl⟩
    have g:row.getD j 0=hs ((cl.getD i []).getD j 0) (wa.getD j 0) (we.getD i 0):=by rw[ZC];exact Vg (by omega)
    have tk:=take_one (u:=row) (i:=j) (by omega)
    refine⟨_,rfl,_,rfl,_,_,_,_,rfl,rfl,s2.seq hS,ai,_,rfl,_,_,_,rfl,rfl,sl _ (by omega),G4 (by omega),?_⟩
    refine⟨_,rfl,_,rfl,_,rfl,_,_,_,rfl,rfl,sl _ (by omega),G4 (by omega),_,rfl,rfl,.inr ⟨_,rfl,_,rfl,_,rfl,_,_,_,rfl,rfl,sl _ (by omega),G4 (by omega),_,rfl,rfl,.inr ⟨_,rfl,?_⟩⟩⟩
    refine⟨_,_,rfl,rfl,.inl ⟨by decide,by decide⟩,_,_,rfl,rfl,_,_,_,rfl,rfl,(by decide +kernel),Ait _ _ _,_,_,rfl,rfl,(by rw[DP,An,An,AkU];show _+1≤sizeLine;omega),?_⟩
    rw[show tx (row.take j)++(⟨#[hs ((cl.getD i []).getD j 0) (wa.getD j 0) (we.getD i 0)]⟩:Str)=tx (row.take (j+1)) by rw[DP,GD,← g,← tk]]
    exact⟨_,_,rfl,rfl⟩
   ·rintro σ H3 ⟨v6,v7,rfl,rfl⟩
    refine⟨_,rfl,.inl ⟨rfl,_,SqL.of hq2⟩,_,rfl,_,_,_,rfl,rfl,hq2,(by rw[Bq,AkU];omega),?_⟩
    rw[Aly (show row.length≤m by omega),Eu]
    refine⟨_,_,_,_,rfl,s2.over nq,?_⟩
    rw[Ae,Vk (by rw[JB];exact hic),NT hic,ZC]
  ·rintro σ H2 ⟨v4,v5,v6,v7,rfl,s2,hq2⟩
   rw[Aly (by rw[JB,R.1];exact AkF _)] at hq2
   exact⟨_,rfl,k q H2 s2 hq2⟩
def Ef (m n:Nat)(sg:Nat→Nat→Nat)(f:Bool)(u v:Nat):Prop:=if f=true then Ed m n sg u v else Ed m n sg v u
def DnQ (m n i j u v:Nat):Prop:=∃ p e,(p<i∨(p=i∧e<j))∧p<n∧e<m∧((u=e∧v=m+p)∨(u=m+p∧v=e))
theorem AeY{m n:Nat}{sg:Nat→Nat→Nat}{u v:Nat}(h:Ed m n sg u v):∃ p e,p<n∧e<m∧((u=e∧v=m+p)∨(u=m+p∧v=e)):=by
 rcases h with ⟨p,h1,h2,h3,_⟩ | ⟨p,h1,h2,h3,_⟩
 ·exact⟨p,u,h1,h2,.inl ⟨rfl,h3⟩⟩
 ·exact⟨p,v,h1,h2,.inr ⟨h3,rfl⟩⟩
theorem Aiu{m n:Nat}{sg:Nat→Nat→Nat}{f:Bool}{u v:Nat}(h:Ef m n sg f u v):DnQ m n n 0 u v:=by
 unfold Ef at h
 cases f with
 | true =>
  rw[if_pos rfl] at h
  obtain⟨p,e,h1,h2,h3⟩:=AeY h
  exact⟨p,e,.inl h1,h1,h2,h3⟩
 | false =>
  rw[if_neg (by decide)] at h
  obtain⟨p,e,h1,h2,h3⟩:=AeY h
  exact⟨p,e,.inl h1,h1,h2,h3.symm.imp (fun z=>⟨z.2,z.1⟩) fun z=>⟨z.2,z.1⟩⟩
theorem ZV{m n:Nat}{f:Nat→Nat→Nat}{e p:Nat}(he:e<m)(hp:p<n):Ed m n f e (m+p)↔f p e≠46:=by
 constructor
 ·rintro(⟨p',h1,h2,h3,h4⟩ | ⟨p',h1,h2,h3,h4⟩)
  ·obtain rfl:p=p':=by omega
   exact h4
  ·omega
 ·exact fun h=>.inl ⟨p,hp,he,rfl,h⟩
theorem ZW{m n:Nat}{f:Nat→Nat→Nat}{e p:Nat}(he:e<m)(hp:p<n):Ed m n f (m+p) e↔f p e≠35:=by
 constructor
 ·rintro(⟨p',h1,h2,h3,h4⟩ | ⟨p',h1,h2,h3,h4⟩)
  ·omega
  ·obtain rfl:p=p':=by omega
   exact h4
 ·exact fun h=>.inr ⟨p,hp,he,rfl,h⟩
theorem Aiv{m n:Nat}{g:Nat→Nat→Nat}{f:Bool}{e p:Nat}(he:e<m)(hp:p<n)(sq:Sq3 (g p e)):Ef m n g f e (m+p)↔(g p e=63∨(decide (g p e=35))=f):=by
 unfold Ef
 cases f with
 | true =>
  rw[if_pos rfl,ZV he hp]
  rcases sq with s | s | s <;> rw[s] <;> decide
 | false =>
  rw[if_neg (by decide),ZW he hp]
  rcases sq with s | s | s <;> rw[s] <;> decide
theorem Aiw{m n:Nat}{g:Nat→Nat→Nat}{f:Bool}{e p:Nat}(he:e<m)(hp:p<n)(sq:Sq3 (g p e)):Ef m n g f (m+p) e↔(g p e=63∨(decide (g p e=46))=f):=by
 unfold Ef
 cases f with
 | true =>
  rw[if_pos rfl,ZW he hp]
  rcases sq with s | s | s <;> rw[s] <;> decide
 | false =>
  rw[if_neg (by decide),ZV he hp]
  rcases sq with s | s | s <;> rw[s] <;> decide
theorem Ag8{cl:List (List Nat)}{m n i j:Nat}(C:Hc cl m n)(hi:i<n)(hj:j<m):Sq3 (sg2 cl i j):=by
 have hil:i<cl.length:=by rw[C.hn];exact hi
 have e3:cl.getD i []=cl[i]:=by rw[AkH,AkD hil];rfl
 have hm:=C.hm cl[i] (AkN hil)
 unfold sg2
 rw[e3,AkH,AkD (by rw[hm];exact hj)]
 exact C.sg cl[i] (AkN hil) _ (AkN _)
theorem Adm{b:Bool}{A B:Prop}(ht:b=true→A)(hf:b=false→B):if b=true then A else B:=by cases b with | true=>exact Jm (ht rfl) | false=>exact Ci (hf rfl)
theorem Ab9{G:Prop}{R:List Bool→Hp→Prop}(C:List Bool→Hp→Prop)(main:(∀ u h,C u h→R u h)→G)(rest:∀ u h,C u h→R u h):G:=main rest
theorem AaF{bs:List Bool}{i:Nat}{b:Bool}(h:bs[i]?=some b):(vB bs)[i]?=some (.bl b):=by unfold vB;rw[AkM,h];rfl
theorem Qf(bs:List Bool):(vB bs).length=bs.length:=by unfold vB;rw[AkE]
theorem RC(bs:List Bool)(i:Nat)(b:Bool):(vB bs).set i (.bl b)=vB (bs.set i b):=by unfold vB;rw[List.map_set]
theorem Ae1(a b:List Bool):vB (a++b)=vB a++vB b:=by unfold vB;rw[AkL]
theorem AaG{s:List Bool}{v:Nat}{b:Bool}(h:s[v]?=some b):On s v↔b=true:=by
 unfold On
 rw[h]
 simp
def Ag9 (K:PySem.W.Frag):Sp:=fun vs H Q _=>∃(a:Addr) (cl:List (List Nat)) (m n:Nat) (f:Bool),vs=[.ref a,.bl f]∧SqL K H a (vS cl)∧Hc cl m n∧∀(b:Bool) (H':Hp),Ar H H'→(b=true↔∀ v,v<m+n→Rc (Ef m n (sg2 cl) f) 0 v)→Q (.bl b) H'
theorem LC(T:Txt K mg t):BP P w K mg base CX0 1 t.Nj t.Nk ["half", "forth"] (Ag9 K):=by
 refine T.Fl.F.ok CK (fun vs H Q E h=>?_) (fun cdv A outer s H vs Q E hr h=>?_)
 ·obtain⟨a,cl,m,n,f,rfl,_⟩:=h
  rfl
 ·obtain⟨a,cl,m,n,f,rfl,hS,C,k⟩:=h
  have hsz:sizeLine=16777216:=sizeLine_eq
  have m2:=C.m2
  have m40:=C.m40
  have n2:=C.n2
  have n40:=C.n40
  have hlen:(vS cl).length=n:=by rw[Bq,C.hn]
  have h0:0<cl.length:=by rw[C.hn];omega
  have l0:=C.hm cl[0] (AkN h0)
  refine⟨_,(Ab (Al (i:=2) CK.nd rfl (Or.inl rfl) (Ah Ay rfl T.Bm Bc (Aa (Ai (Ao (K:=K)) (pv 0) Af (fun _ _=>rfl)) Ac)))
   (Ab (Al (i:=3) CK.nd rfl (Or.inl rfl) (Az Cj (pv 2) (Ah (Ak (K:=K)) rfl T.Bm Bc (Aa (pv 0) Ac))))
   (Ab (Rx (i:=4) (Eb.mk (By:=[]) (Nc:=["strand"]) rfl (by decide +kernel) (by decide +kernel) (Dy (sc0:=Aj Js) rfl (by decide +kernel)) rfl rfl rfl (by decide +kernel) (fun _ _ h=>by simp at h)) rfl CK.nd rfl rfl (Be rfl T.Bs (Aa (pv 3) Ac)) (fun _ _ _ _ _=>.nil) (fun _ _ _ _ _=>(Gm Cz (pv 0) Af (Am _))) rfl)
   (Ab (Bo PassesOwn.never rfl (Be rfl T.Bs (Aa (pv 3) Ac)) (Ba (i:=5) CK.nd rfl (Or.inl rfl))
    (Ad (Bo PassesOwn.never rfl (Be rfl T.Bs (Aa (Ah (Ak (K:=K)) rfl T.Bm Bc (Aa (pv 0) Ac)) Ac)) (Ba (i:=6) CK.nd rfl (Or.inl rfl))
     (Ad (Bo PassesOwn.never rfl (Be rfl T.Bs (Aa (pv 2) Ac)) (Ba (i:=7) CK.nd rfl (Or.inl rfl))
      (Ab (Al (i:=8) CK.nd rfl (Or.inl rfl) (Ai Bu (Ai (Ao (K:=K)) (pv 0) (pv 6) (fun _ _=>rfl)) (pv 7) (fun _ _=>rfl)))
      (Ab (Bh (PW.pt (pw_and (De (Ai (Ao (K:=K)) (pv 4) (pv 7) (fun _ _=>rfl))) (pw_and1 (PW.pt (pw_or (Ag Cz (pv 8) Bg (Am _)) (pw_or1 (Ag Cz (Gm Cz (pv 8) Bg (Am _)) (pv 1) (Am _))))))))
       (Ad (Vy Cy (Za (pv 4) (Az Cj (pv 2) (pv 6)) set_list)))
       Aq)
      (Ad (Bh (PW.pt (pw_and (De (Ai (Ao (K:=K)) (pv 4) (Az Cj (pv 2) (pv 6)) (fun _ _=>rfl))) (pw_and1 (PW.pt (pw_or (Ag Cz (pv 8) Bg (Am _)) (pw_or1 (Ag Cz (Gm Cz (pv 8) Bg (Am _)) (pv 1) (Am _))))))))
       (Ad (Vy Cy (Za (pv 4) (pv 7) set_list)))
       Aq)))))))))
   (Ad (Aw (Ah (Abr (K:=K)) rfl T.AhF Af3 (Aa (pv 4) Ac)))))))),?_⟩
  refine⟨_,rfl,_,_,_,_,rfl,rfl,hS,Bb (by decide) (Gq (AkD h0)),_,rfl,(by rw[An,l0];exact Ce m40),?_⟩
  rw[An,l0]
  refine CG (σ':=[some (.ref a),some (.bl f),some (.int (m:Int)),none,none,none,none,none,none]) rfl ?_
  refine⟨_,rfl,_,rfl,_,_,rfl,.inl hS,_,_,rfl,rfl,?_⟩
  rw[hlen]
  dsimp only
  rw[show(m:Int)+(n:Int)=((m+n:Nat):Int) by omega]
  refine CG (σ':=[some (.ref a),some (.bl f),some (.int (m:Int)),some (.int ((m+n:Nat):Int)),none,none,none,none,none]) rfl ?_
  refine⟨_,rfl,_,rfl,(by omega),(by omega),?_⟩
  rw[AkJ]
  refine EY (lo:=0) (n:=m+n) (fun i ys H2=>H2=H∧ys=vB ((List.range i).map fun x=>decide (x=0))) ⟨rfl,rfl⟩ ?_ ?_ ?_ ?_
  ·rintro i ys H2 hi ⟨rfl,rfl⟩
   rw[Qf,AkE,AkV]
   exact AkF _
  ·omega
  ·rintro i ys H2 hi ⟨rfl,rfl⟩
   refine Gh.no ?_
   refine⟨_,rfl,rfl,CN.of hi ⟨rfl,?_⟩⟩
   rw[Alx,AkL,AkQ,Al1,Ae1]
   rw[decide_eq_decide.mpr (show(V.int (0+(i:Int))=V.int 0)↔i=0 from⟨fun z=>by have:=V.int.inj z;omega,fun z=>by rw[z];rfl⟩)]
   rfl
  rintro ys H2 sp ⟨rfl,rfl⟩ nsp
  have s1:Ar H2 (upd H2 sp (.lst (vB ((List.range (m+n)).map fun x=>decide (x=0))))):=.upd nsp
  have g1:(upd H2 sp (.lst (vB ((List.range (m+n)).map fun x=>decide (x=0))))) sp=some (.lst (vB ((List.range (m+n)).map fun x=>decide (x=0)))):=Ae
  have B1:Bet (Ef m n (sg2 cl) f) (m+n) ((List.range (m+n)).map fun x=>decide (x=0)) 0:=Bet.start (by omega)
  generalize (List.range (m+n)).map (fun x=>decide (x=0))=sn0 at s1 g1 B1 ⊢
  generalize upd H2 sp (.lst (vB sn0))=H1 at s1 g1 ⊢
  refine CG (σ':=[some (.ref a),some (.bl f),some (.int (m:Int)),some (.int ((m+n:Nat):Int)),some (.ref sp),none,none,none,none]) rfl ?_
  refine⟨_,rfl,_,rfl,(by omega),(by omega),?_⟩
  rw[AkJ]
  refine Bp (lo:=0) (n:=m+n) (fun i σ H3=>∃(sn:List Bool) (v5 v6 v7 v8:Option V),σ=[some (.ref a),some (.bl f),some (.int (m:Int)),some (.int ((m+n:Nat):Int)),some (.ref sp),v5,v6,v7,v8]∧Ar H2 H3∧H3 sp=some (.lst (vB sn))∧Bet (Ef m n (sg2 cl) f) (m+n) sn i)
   ⟨sn0,none,none,none,none,rfl,s1,g1,B1⟩ ?_ ?_
  ·rintro i σ H3 hi ⟨s0,v5,v6,v7,v8,rfl,s3,g3,B3⟩
   refine⟨_,rfl,_,_,rfl,.inl (s3.seq hS),_,rfl,(by omega),(by rw[hlen];omega),?_⟩
   rw[hlen,AkJ]
   refine Bp (lo:=0) (n:=n) (fun j σ H4=>∃(sn:List Bool) (v6 v7 v8:Option V),σ=[some (.ref a),some (.bl f),some (.int (m:Int)),some (.int ((m+n:Nat):Int)),some (.ref sp),some (.int (0+(i:Int))),v6,v7,v8]∧Ar H2 H4∧H4 sp=some (.lst (vB sn))∧Rnd (Ef m n (sg2 cl) f) (m+n) s0 sn (DnQ m n j 0))
    ⟨s0,v6,v7,v8,rfl,s3,g3,B3.rnd.weak fun a b _ ⟨p,e,h,_⟩=>(by omega)⟩ ?_ ?_
   ·rintro j σ H4 hj ⟨sn4,v6,v7,v8,rfl,s4,g4,R4⟩
    refine⟨_,rfl,_,rfl,(by omega),(by omega),?_⟩
    rw[AkJ]
    refine Bp (lo:=0) (n:=m) (fun k σ H5=>∃(sn:List Bool) (v7 v8:Option V),σ=[some (.ref a),some (.bl f),some (.int (m:Int)),some (.int ((m+n:Nat):Int)),some (.ref sp),some (.int (0+(i:Int))),some (.int (0+(j:Int))),v7,v8]∧Ar H2 H5∧H5 sp=some (.lst (vB sn))∧Rnd (Ef m n (sg2 cl) f) (m+n) s0 sn (DnQ m n j k))
     ⟨sn4,v7,v8,rfl,s4,g4,R4⟩ ?_ ?_
    ·rintro k2 σ H5 hk ⟨sn5,v7,v8,rfl,s5,g5,R5⟩
     obtain⟨e1,l1⟩:=Rq C hj
     have e2:=Iw (u:=cl.getD j []) (e:=k2) (by rw[l1];exact hk)
     refine⟨_,rfl,_,rfl,_,_,_,_,rfl,rfl,s5.seq hS,e1,_,rfl,_,_,_,rfl,rfl,(by rw[An,l1];exact Ce m40),e2,?_⟩
     obtain⟨c,ec⟩:∃ c,c=(cl.getD j []).getD k2 0:=⟨_,rfl⟩
     rw[← ec]
     have sq:Sq3 (sg2 cl j k2):=Ag8 C hj hk
     have ec2:sg2 cl j k2=c:=ec.symm
     have up:=Aiv (f:=f) hk hj sq
     have dn:=Aiw (f:=f) hk hj sq
     rw[ec2] at up dn
     refine CG (σ':=[some (.ref a),some (.bl f),some (.int (m:Int)),some (.int ((m+n:Nat):Int)),some (.ref sp),some (.int (0+(i:Int))),some (.int (0+(j:Int))),some (.int (0+(k2:Int))),some (.str ⟨#[c]⟩)]) rfl ?_
     have gk:∀{sn:List Bool},sn.length=m+n→∃ b:Bool,sn[k2]?=some b∧atI (vB sn) (0+(k2:Int))=some (.bl b):=fun {sn} R=>by
      have:k2<sn.length:=by rw[R];omega
      exact⟨sn[k2],AkD this,Bb (by omega) (by rw[show(0+(k2:Int)).toNat=k2 by omega];exact AaF (AkD this))⟩
     have gj:∀{sn:List Bool},sn.length=m+n→∃ b:Bool,sn[m+j]?=some b∧atI (vB sn) ((m:Int)+(0+(j:Int)))=some (.bl b):=fun {sn} R=>by
      have:m+j<sn.length:=by rw[R];omega
      exact⟨sn[m+j],AkD this,Bb (by omega) (by rw[show((m:Int)+(0+(j:Int))).toNat=m+j by omega];exact AaF (AkD this))⟩
     apply Ab9 (fun sn H'=>Ar H2 H'∧H' sp=some (.lst (vB sn))∧Rnd (Ef m n (sg2 cl) f) (m+n) s0 sn (fun a b=>DnQ m n j k2 a b∨(a=k2∧b=m+j)))
     ·intro rest
      obtain⟨Hx,hx⟩:∃ Hx,Hx=H5:=⟨_,rfl⟩
      obtain⟨sx,hsx⟩:∃ sx,sx=sn5:=⟨_,rfl⟩
      rw[← hx] at s5 g5 ⊢
      rw[← hsx] at g5 R5
      obtain⟨b,eb,ab⟩:=gk R5.len
      refine⟨_,rfl,_,rfl,_,_,_,_,rfl,rfl,SqL.of g5,ab,_,rfl,?_⟩
      refine Adm ?tt ?ff
      case ff =>
       intro zb
       exact Ci (rest sx Hx ⟨s5,g5,R5.skip fun z=>by have:=(AaG eb).mp z.1;rw[zb] at this;cases this⟩)
      case tt =>
       intro zb
       have on:=(AaG eb).mpr zb
       refine⟨_,rfl,rfl,_,rfl,?_⟩
       have d35:decide ((V.str ⟨#[c]⟩:V)=V.str "#")=decide (c=35):=decide_eq_decide.mpr ⟨fun h=>CV.mp (h.trans e35.symm),fun h=>by rw[h];exact e35⟩
       refine Dg (fun h63=>?_) (fun h63=>?_)
       ·refine Jm ?_
        refine⟨_,rfl,_,rfl,_,rfl,_,_,rfl,rfl,sp,_,_,_,rfl,rfl,g5,RW (by omega) (by rw[Qf,R5.len];omega),?_⟩
        rw[show((m:Int)+(0+(j:Int))).toNat=m+j by omega,RC]
        exact rest _ _ ⟨s5.over nsp,Ae,R5.put (by omega) on (up.mpr (.inl (CV.mp (h63.trans e63.symm))))⟩
       ·refine⟨_,rfl,rfl,_,rfl,rfl,_,rfl,?_⟩
        rw[d35]
        refine Dg (fun hf=>?_) (fun hf=>?_)
        ·refine⟨_,rfl,_,rfl,_,rfl,_,_,rfl,rfl,sp,_,_,_,rfl,rfl,g5,RW (by omega) (by rw[Qf,R5.len];omega),?_⟩
         rw[show((m:Int)+(0+(j:Int))).toNat=m+j by omega,RC]
         exact rest _ _ ⟨s5.over nsp,Ae,R5.put (by omega) on (up.mpr (.inr (V.bl.inj hf)))⟩
        ·refine rest sx Hx ⟨s5,g5,R5.skip fun z=>?_⟩
         rcases up.mp z.2 with h | h
         ·exact h63 (by rw[h];exact e63)
         ·exact hf (by rw[h])
     rintro sn6 H6 ⟨s6,g6,R6⟩
     obtain⟨b,eb,ab⟩:=gj R6.len
     refine⟨_,rfl,_,rfl,_,rfl,_,_,rfl,rfl,_,_,_,_,rfl,rfl,SqL.of g6,ab,_,rfl,?_⟩
     have fin:∀{D:Nat→Nat→Prop},(∀ a b,DnQ m n j (k2+1) a b→D a b)→∀ a b,Ef m n (sg2 cl) f a b→DnQ m n j (k2+1) a b→D a b:=fun h a b _ d=>h a b d
     have all:∀ a b,DnQ m n j (k2+1) a b→(DnQ m n j k2 a b∨(a=k2∧b=m+j))∨(a=m+j∧b=k2):=fun a b ⟨p,e,h1,h2,h3,h4⟩=>by
      by_cases q:p=j∧e=k2
      ·rcases h4 with h | h
       ·exact .inl (.inr ⟨by omega,by omega⟩)
       ·exact .inr ⟨by omega,by omega⟩
      ·exact .inl (.inl ⟨p,e,by omega,h2,h3,h4⟩)
     refine Adm (fun zb=>?_) (fun zb=>Ci ?_)
     ·have on:=(AaG eb).mpr zb
      have d46:decide ((V.str ⟨#[c]⟩:V)=V.str ".")=decide (c=46):=decide_eq_decide.mpr ⟨fun h=>CV.mp (h.trans e46.symm),fun h=>by rw[h];exact e46⟩
      refine⟨_,rfl,rfl,_,rfl,?_⟩
      refine Dg (fun h63=>?_) (fun h63=>?_)
      ·refine Jm ?_
       refine⟨_,rfl,_,rfl,sp,_,_,_,rfl,rfl,g6,RW (by omega) (by rw[Qf,R6.len];omega),?_⟩
       rw[show(0+(k2:Int)).toNat=k2 by omega,RC]
       exact⟨_,_,_,rfl,s6.over nsp,Ae,(R6.put (by omega) on (dn.mpr (.inl (CV.mp (h63.trans e63.symm))))).weak (fin all)⟩
      ·refine⟨_,rfl,rfl,_,rfl,rfl,_,rfl,?_⟩
       rw[d46]
       refine Dg (fun hf=>?_) (fun hf=>?_)
       ·refine⟨_,rfl,_,rfl,sp,_,_,_,rfl,rfl,g6,RW (by omega) (by rw[Qf,R6.len];omega),?_⟩
        rw[show(0+(k2:Int)).toNat=k2 by omega,RC]
        exact⟨_,_,_,rfl,s6.over nsp,Ae,(R6.put (by omega) on (dn.mpr (.inr (V.bl.inj hf)))).weak (fin all)⟩
       ·refine⟨sn6,_,_,rfl,s6,g6,(R6.skip (u:=m+j) (v:=k2) fun z=>?_).weak (fin all)⟩
        rcases dn.mp z.2 with h | h
        ·exact h63 (by rw[h];exact e63)
        ·exact hf (by rw[h])
     ·exact⟨sn6,_,_,rfl,s6,g6,(R6.skip fun z=>by have:=(AaG eb).mp z.1;rw[zb] at this;cases this).weak (fin all)⟩
    ·rintro σ H5 ⟨sn5,v7,v8,rfl,s5,g5,R5⟩
     exact⟨sn5,_,_,_,rfl,s5,g5,R5.weak fun a b _ ⟨p,e,h1,h2,h3,h4⟩=>⟨p,e,by omega,h2,h3,h4⟩⟩
   ·rintro σ H4 ⟨sn4,v6,v7,v8,rfl,s4,g4,R4⟩
    exact⟨sn4,_,_,_,_,rfl,s4,g4,B3.next R4 fun u v h=>Aiu h⟩
  ·rintro σ H3 ⟨sn,v5,v6,v7,v8,rfl,s3,g3,B3⟩
   refine⟨_,rfl,sp,sn,rfl,SqL.of g3,?_⟩
   exact k _ H3 s3 B3.all
def Ae2 (K:PySem.W.Frag):Sp:=fun vs H Q _=>∃(a:Addr) (cl:List (List Nat)) (m n:Nat),vs=[.ref a]∧SqL K H a (vS cl)∧Hc cl m n∧∀(b:Bool) (H':Hp),Ar H H'→(b=true↔SC (m+n) (Ed m n (sg2 cl)))→Q (.bl b) H'
theorem Nm(T:Txt K mg t):BP P w K mg base CX0 2 t.Pu t.Px ["half"] (Ae2 K):=by
 refine T.Gf.F.ok Ur (fun vs H Q E h=>?_) (fun cdv A outer s H vs Q E hr h=>?_)
 ·obtain⟨a,cl,m,n,rfl,_⟩:=h
  rfl
 ·obtain⟨a,cl,m,n,rfl,hS,C,k⟩:=h
  have m2:=C.m2
  have f1:∀ u v,Ef m n (sg2 cl) true u v↔Ed m n (sg2 cl) u v:=fun u v=>by unfold Ef;rw[if_pos rfl]
  have f2:∀ u v,Ef m n (sg2 cl) false u v↔Ed m n (sg2 cl) v u:=fun u v=>by unfold Ef;rw[if_neg (by decide)]
  refine⟨_,(Ad (Aw (YX (Av ((LC T).mono (by decide)) hr rfl T.Fl.m T.Fl.F.kp T.Fl.b .nil Bj (Aa (pv 0) (Aa Cy Ac))) (YW (Av ((LC T).mono (by decide)) hr rfl T.Fl.m T.Fl.F.kp T.Fl.b .nil Bj (Aa (pv 0) (Aa Cy Ac))))))),?_⟩
  refine⟨_,rfl,a,cl,m,n,true,rfl,hS,C,fun b1 H1 s1 h1=>?_⟩
  refine⟨_,rfl,?_⟩
  refine Adm (fun z1=>?_) (fun z1=>?_)
  ·refine⟨_,rfl,a,cl,m,n,false,rfl,s1.seq hS,C,fun b2 H2 s2 h2=>?_⟩
   refine k b2 H2 (s1.trans s2) ?_
   rw[h2]
   constructor
   ·exact fun z=>Aip (fun v hv=>(h1.mp z1 v hv).mono fun u v h=>(f1 u v).mp h) fun v hv=>(z v hv).mono fun u v h=>(f2 u v).mp h
   ·exact fun z v hv=>((AaE z (by omega)).2 v hv).mono fun u v h=>(f2 u v).mpr h
  ·refine k false H1 s1 ⟨fun z=>(by cases z),fun z=>?_⟩
   have:b1=true:=h1.mpr fun v hv=>((AaE z (by omega)).1 v hv).mono fun u v h=>(f1 u v).mpr h
   rw[z1] at this
   cases this
theorem AeZ{cl:List (List Nat)}{m n:Nat}{fs:List Nat}(C:Hc cl m n)(L:Lf (lows cl m) (List.range (m+n)) fs){o v:Nat}(ho:o<m+n)(no:o∉fs)(hv:v∈fs):¬Ed m n (sg2 cl) o v:=fun z =>
 L.off o (List.mem_range.mpr ho) no v hv ((R9 C o v).mpr z)
theorem LK{fs:List Nat}{v:Nat}:((v:Int)∈cI fs)↔v∈fs:=Wq
def Adn (K:PySem.W.Frag):Sp:=fun vs H Q _=>∃(a b:Addr) (cl:List (List Nat)) (m n:Nat) (fs:List Nat),vs=[.ref a,.ref b]∧SqL K H a (vS cl)∧Hc cl m n∧H b=some (.lst (vI (cI fs)))∧Lf (lows cl m) (List.range (m+n)) fs∧Q (.bl true) H
theorem pw_nextR{fs:List Nat}(h:fs.Pairwise (·<·)){i a b:Nat}(ha:fs[i]?=some a)(hb:fs[i+1]?=some b):a<b:=by
 obtain⟨h1,e1⟩:=List.getElem?_eq_some_iff.mp ha
 obtain⟨h2,e2⟩:=List.getElem?_eq_some_iff.mp hb
 rw[← e1,← e2]
 exact List.pairwise_iff_getElem.mp h i (i+1) h1 h2 (by omega)
theorem Uz(T:Txt K mg t):BP P w K mg base CX0 2 t.Kr t.Ks ["half", "strands"] (Adn K):=by
 refine T.K1.F.ok Di (fun vs H Q E h=>?_) (fun cdv A outer s H vs Q E hr h=>?_)
 ·obtain⟨a,b,cl,m,n,fs,rfl,_⟩:=h
  rfl
 ·obtain⟨a,b,cl,m,n,fs,rfl,hS,C,hb,L,k⟩:=h
  have hsz:sizeLine=16777216:=sizeLine_eq
  have m2:=C.m2
  have m40:=C.m40
  have n2:=C.n2
  have n40:=C.n40
  have hlen:(vS cl).length=n:=by rw[Bq,C.hn]
  have h0:0<cl.length:=by rw[C.hn];omega
  have l0:=C.hm cl[0] (AkN h0)
  have f0:0<fs.length:=List.length_pos_iff.mpr L.ne
  have f1:fs.length<m+n:=by have:=L.len;rw[AkV] at this;exact this
  have lt:∀ v∈fs,v<m+n:=fun v hv=>List.mem_range.mp (L.sub v hv)
  refine⟨_,(Ab (Al (i:=2) Di.nd rfl (Or.inl rfl) (Ah Ay rfl T.Bm Bc (Aa (Ai (Ao (K:=K)) (pv 0) Af (fun _ _=>rfl)) Ac)))
   (Ab (Al (i:=3) Di.nd rfl (Or.inl rfl) (Az Cj (pv 2) (Ah (Ak (K:=K)) rfl T.Bm Bc (Aa (pv 0) Ac))))
   (Ab (Bh (PW.pt (pw_or (Cw (De (Ah (Dk (K:=K)) rfl T.Cd BV (Aa (pv 1) (Aa (FW (v:=.ty "list") rfl T.G3 Fo rfl) Ac))))) (pw_or1 (Cw (J2 Em Em Af (Ah (Ak (K:=K)) rfl T.Bm Bc (Aa (pv 1) Ac)) (pv 3))))))
    (Ad (Aw Cy))
    Aq)
   (Ab (Al (i:=4) Di.nd rfl (Or.inl rfl) (Xn RL Af))
   (Ab (Bo PassesOwn.never rfl (BR (K:=K) (pv 1)) (Ba (i:=5) Di.nd rfl (Or.inl rfl))
    (Ab (Bh (PW.pt (pw_or (Cw (De (Av ((DY T).mono (by decide)) hr rfl T.Bv.m T.Bv.F.kp T.Bv.b .nil Bj (Aa (pv 5) Ac)))) (pw_or1 (Cw (J2 Em Em (pv 4) (pv 5) (pv 3))))))
     (Ad (Aw Cy))
     Aq)
    (Ad (Al (i:=4) Di.nd rfl (Or.inl rfl) (pv 5)))))
   (Ab (Bo PassesOwn.never rfl (Be rfl T.Bs (Aa (Ah (Ak (K:=K)) rfl T.Bm Bc (Aa (pv 0) Ac)) Ac)) (Ba (i:=6) Di.nd rfl (Or.inl rfl))
    (Ad (Bo PassesOwn.never rfl (Be rfl T.Bs (Aa (pv 2) Ac)) (Ba (i:=7) Di.nd rfl (Or.inl rfl))
     (Ab (Bh (PW.pt (pw_and (Ag (Nx (K:=K)) (pv 7) (pv 1) rfl) (pw_and (Ag (Hf (K:=K)) (Az Cj (pv 2) (pv 6)) (pv 1) rfl) (pw_and1 (Ag Dd (Ai Bu (Ai (Ao (K:=K)) (pv 0) (pv 6) (fun _ _=>rfl)) (pv 7) (fun _ _=>rfl)) Bg (Am _))))))
      (Ad (Aw Cy))
      Aq)
     (Ad (Bh (PW.pt (pw_and (Ag (Hf (K:=K)) (pv 7) (pv 1) rfl) (pw_and (Ag (Nx (K:=K)) (Az Cj (pv 2) (pv 6)) (pv 1) rfl) (pw_and1 (Ag Dd (Ai Bu (Ai (Ao (K:=K)) (pv 0) (pv 6) (fun _ _=>rfl)) (pv 7) (fun _ _=>rfl)) Bg (Am _))))))
      (Ad (Aw Cy))
      Aq))))))
   (Ad (Aw Cy)))))))),?_⟩
  refine⟨_,rfl,_,_,_,_,rfl,rfl,hS,Bb (by decide) (Gq (AkD h0)),_,rfl,(by rw[An,l0];exact Ce m40),?_⟩
  rw[An,l0]
  refine⟨_,rfl,_,rfl,_,_,rfl,.inl hS,_,_,rfl,rfl,?_⟩
  rw[hlen]
  dsimp only
  rw[show(m:Int)+(n:Int)=((m+n:Nat):Int) by omega]
  refine⟨_,rfl,_,_,true,.lst hb,.inl ⟨_,rfl,Eo K _⟩,_,rfl,Ci ?_⟩
  refine⟨_,rfl,_,_,rfl,.inl (SqL.of hb),_,_,rfl,rfl,_,rfl,?_⟩
  rw[Bx,Nz]
  refine Gi (by omega) ?_
  refine⟨_,rfl,_,_,rfl,rfl,_,rfl,?_⟩
  refine QB (by omega) ?_
  refine⟨_,rfl,?_⟩
  refine⟨_,rfl,_,rfl,⟨_,SqL.of hb⟩,Cr (K:=K) (a:=b) (xs:=vI (cI fs)) (fun i σ H5=>∃(z:Int) (v5:Option V),σ=[some (.ref a),some (.ref b),some (.int (m:Int)),some (.int ((m+n:Nat):Int)),some (.int z),v5,none,none]∧H5=H∧∀ v:Nat,fs[i]?=some v→z<(v:Int))
   ⟨-1,none,rfl,rfl,fun v _=>by omega⟩ (fun i σ H5 _ ⟨_,_,_,e,_⟩=>by rw[e];exact SqL.of hb) ?_ ?_⟩
  ·rintro i x σ H5 hx ⟨z,v5,rfl,rfl,hz⟩
   obtain⟨v,hv,rfl⟩:=ZK hx
   have z1:=hz v hv
   have z2:=lt v (AkI hv)
   refine⟨_,rfl,_,rfl,_,rfl,Ci ?_⟩
   refine⟨_,rfl,_,rfl,_,_,rfl,rfl,_,rfl,?_⟩
   refine Gi (by omega) ?_
   refine⟨_,rfl,_,_,rfl,rfl,_,rfl,?_⟩
   refine QB (by omega) ?_
   refine⟨_,rfl,(v:Int),_,rfl,rfl,fun u hu=>?_⟩
   have:=pw_nextR L.up hv hu
   omega
  rintro σ H5 ⟨z,v5,rfl,rfl,_⟩
  refine⟨_,rfl,_,_,rfl,.inl hS,_,rfl,(by omega),(by rw[hlen];omega),?_⟩
  rw[AkJ,hlen]
  refine Bp (lo:=0) (n:=n) (fun i σ H2=>∃(v6 v7:Option V),σ=[some (.ref a),some (.ref b),some (.int (m:Int)),some (.int ((m+n:Nat):Int)),some (.int z),v5,v6,v7]∧H2=H5) ⟨none,none,rfl,rfl⟩ ?_ ?_
  ·rintro i σ H2 hi ⟨v6,v7,rfl,rfl⟩
   refine⟨_,rfl,_,rfl,(by omega),(by omega),?_⟩
   rw[AkJ]
   refine Bp (lo:=0) (n:=m) (fun j σ H3=>∃(v7:Option V),σ=[some (.ref a),some (.ref b),some (.int (m:Int)),some (.int ((m+n:Nat):Int)),some (.int z),v5,some (.int (0+(i:Int))),v7]∧H3=H2) ⟨v7,rfl,rfl⟩ ?_ ?_
   ·rintro j σ H3 hj ⟨v7,rfl,rfl⟩
    obtain⟨e1,l1⟩:=Rq C hi
    have e2:=Iw (u:=cl.getD i []) (e:=j) (by rw[l1];exact hj)
    have t1:∀ x:Int,(if false=true then !inV (V.int x) (vI (cI fs)) else inV (V.int x) (vI (cI fs)))=decide (x∈cI fs):=fun x=>Wd x _
    have t2:∀ x:Int,(if true=true then !inV (V.int x) (vI (cI fs)) else inV (V.int x) (vI (cI fs)))=!decide (x∈cI fs):=fun x=>by rw[if_pos rfl,Wd]
    have x1:(0+(j:Int))=((j:Nat):Int):=by omega
    have x2:((m:Int)+(0+(i:Int)))=((m+i:Nat):Int):=by omega
    have s35:j∈fs→m+i∉fs→(cl.getD i []).getD j 0=35:=fun h1 h2=>Classical.byContradiction fun z=>AeZ C L (by omega) h2 h1 ((ZW hj hi).mpr z)
    have s46:j∉fs→m+i∈fs→(cl.getD i []).getD j 0=46:=fun h1 h2=>Classical.byContradiction fun z=>AeZ C L (by omega) h1 h2 ((ZV hj hi).mpr z)
    refine CG (σ':=[some (.ref a),some (.ref b),some (.int (m:Int)),some (.int ((m+n:Nat):Int)),some (.int z),v5,some (.int (0+(i:Int))),some (.int (0+(j:Int)))]) rfl ?_
    apply Lw True
    ·intro rest
     refine⟨_,rfl,_,rfl,_,_,rfl,.inl (SqL.of hb),rfl,Fp _,_,rfl,?_⟩
     rw[t1,x1]
     by_cases hE:j∈fs
     ·rw[decide_eq_true (LK.mpr hE)]
      refine Jm ?_
      refine⟨_,rfl,_,rfl,_,_,rfl,rfl,_,rfl,_,_,rfl,.inl (SqL.of hb),rfl,Fp _,_,rfl,?_⟩
      rw[t2,x2]
      by_cases hT:m+i∈fs
      ·rw[decide_eq_true (LK.mpr hT)]
       exact Ci (Ci (rest trivial))
      ·rw[decide_eq_false fun z=>hT (LK.mp z)]
       refine Jm ?_
       refine⟨_,rfl,_,rfl,_,_,_,_,rfl,rfl,hS,e1,_,rfl,_,_,_,rfl,rfl,(by rw[An,l1];exact Ce m40),(by rw[← x1];exact e2),rfl,_,rfl,?_⟩
       refine CQ (by rw[s35 hE hT];exact e35) ?_
       exact rest trivial
     ·rw[decide_eq_false fun z=>hE (LK.mp z)]
      exact Ci (Ci (rest trivial))
    intro _
    refine⟨_,rfl,_,rfl,_,_,rfl,.inl (SqL.of hb),rfl,Fp _,_,rfl,?_⟩
    rw[t2]
    by_cases hE:j∈fs
    ·rw[decide_eq_true (LK.mpr hE)]
     exact Ci (Ci ⟨_,rfl,rfl⟩)
    ·rw[decide_eq_false fun z=>hE (LK.mp z)]
     refine Jm ?_
     refine⟨_,rfl,_,rfl,_,_,rfl,rfl,_,rfl,_,_,rfl,.inl (SqL.of hb),rfl,Fp _,_,rfl,?_⟩
     rw[t1,x2]
     by_cases hT:m+i∈fs
     ·rw[decide_eq_true (LK.mpr hT)]
      refine Jm ?_
      refine⟨_,rfl,_,rfl,_,_,_,_,rfl,rfl,hS,e1,_,rfl,_,_,_,rfl,rfl,(by rw[An,l1];exact Ce m40),(by rw[← x1];exact e2),rfl,_,rfl,?_⟩
      refine CQ (by rw[s46 hE hT];exact e46) ?_
      exact⟨_,rfl,rfl⟩
     ·rw[decide_eq_false fun z=>hT (LK.mp z)]
      exact Ci (Ci ⟨_,rfl,rfl⟩)
   ·rintro σ H3 ⟨v7,rfl,rfl⟩
    exact⟨_,_,rfl,rfl⟩
  ·rintro σ H2 ⟨v6,v7,rfl,rfl⟩
   exact k
def Ado (K:PySem.W.Frag):Sp:=fun vs H Q _=>∃(a:Addr) (ks:List Int) (c M:Int),vs=[.ref a,.int c,.int M]∧H a=some (.lst (vI ks))∧(c<0∨c=(ks.length:Int))∧(∀ z∈ks,0≤z∧z<M)∧Q (.bl true) H
theorem G5(T:Txt K mg t):BP P w K mg base CX0 2 t.JS t.JT ["row", "count", "most"] (Ado K):=by
 refine T.Cm.F.ok Je (fun vs H Q E h=>?_) (fun cdv A outer s H vs Q E hr h=>?_)
 ·obtain⟨a,ks,c,M,rfl,_⟩:=h
  rfl
 ·obtain⟨a,ks,c,M,rfl,ha,hc,hz,k⟩:=h
  refine⟨_,(Ab (Bh (PW.pt (pw_or (Cw (De (Ah (Dk (K:=K)) rfl T.Cd BV (Aa (pv 0) (Aa (FW (v:=.ty "list") rfl T.G3 Fo rfl) Ac))))) (pw_or1 (PW.pt (pw_and (Ag AbM (pv 1) Af (Am _)) (pw_and1 (Ag Dd (Ah (Ak (K:=K)) rfl T.Bm Bc (Aa (pv 0) Ac)) (pv 1) (Am _))))))))
    (Ad (Aw Cy))
    Aq)
   (Ab (Bo PassesOwn.never rfl (BR (K:=K) (pv 0)) (Ba (i:=3) Je.nd rfl (Or.inl rfl))
    (Ad (Bh (PW.pt (pw_or (Cw (De (Av ((DY T).mono (by decide)) hr rfl T.Bv.m T.Bv.F.kp T.Bv.b .nil Bj (Aa (pv 3) Ac)))) (pw_or1 (Cw (J2 U6 Em Af (pv 3) (pv 2))))))
     (Ad (Aw Cy))
     Aq)))
   (Ad (Aw Cy)))),?_⟩
  refine⟨_,rfl,_,_,true,.lst ha,.inl ⟨_,rfl,Eo K _⟩,_,rfl,Ci ?_⟩
  have eqc:0≤c→V.int (((vI ks).length:Nat):Int)=V.int c:=fun h0=>by
   rw[Bx]
   rcases hc with h | h
   ·omega
   ·rw[h]
  apply Lw True
  ·intro rest
   refine⟨_,rfl,_,_,rfl,rfl,_,rfl,?_⟩
   refine Dg (fun h0=>?_) (fun h0=>Ci ?_)
   ·refine⟨_,rfl,_,_,rfl,.inl (SqL.of ha),_,rfl,rfl,_,rfl,?_⟩
    refine CQ (eqc h0) ?_
    exact rest trivial
   ·exact rest trivial
  intro _
  refine⟨_,rfl,_,rfl,⟨_,SqL.of ha⟩,Cr (K:=K) (a:=a) (xs:=vI ks) (fun i σ H5=>∃(v3:Option V),σ=[some (.ref a),some (.int c),some (.int M),v3]∧H5=H)
   ⟨none,rfl,rfl⟩ (fun i σ H5 _ ⟨_,_,e⟩=>by rw[e];exact SqL.of ha) ?_ ?_⟩
  ·rintro i x σ H5 hx ⟨v3,rfl,rfl⟩
   obtain⟨z,hv,rfl⟩:=Ia hx
   obtain⟨z1,z2⟩:=hz z (AkI hv)
   refine⟨_,rfl,_,rfl,_,rfl,Ci ?_⟩
   refine⟨_,rfl,_,_,rfl,rfl,_,rfl,?_⟩
   refine Gi (by omega) ?_
   refine⟨_,rfl,_,_,rfl,rfl,_,rfl,?_⟩
   refine QB (by omega) ?_
   exact⟨_,rfl,rfl⟩
  ·rintro σ H5 ⟨v3,rfl,rfl⟩
   exact k
theorem AbA{G:Prop}{R:Hp→Prop}(C:Hp→Prop)(main:(∀ h,C h→R h)→G)(rest:∀ h,C h→R h):G:=main rest
def AbB (K:PySem.W.Frag):Sp:=fun vs H Q _=>∃(a:Addr) (us:List (List Nat)),vs=[.ref a]∧SqL K H a (vS us)∧us.length≤40∧∀(l:Addr) (H':Hp),Ar H H'→H l=none→H' l=some (.lst (vI (nts (num us))))→Q (.ref l) H'
theorem Np(T:Txt K mg t):BP P w K mg base CX0 1 t.Py t.Pz ["things"] (AbB K):=by
 refine T.Gg.F.ok Hj (fun vs H Q E h=>?_) (fun cdv A outer s H vs Q E hr h=>?_)
 ·obtain⟨a,us,rfl,_⟩:=h
  rfl
 ·obtain⟨a,us,rfl,hS,hl,k⟩:=h
  have hsz:sizeLine=16777216:=sizeLine_eq
  refine⟨_,(Ab (Al (i:=1) Hj.nd rfl (Or.inl rfl) (CW Ac))
   (Ab (Al (i:=2) Hj.nd rfl (Or.inl rfl) (CW Ac))
   (Ab (Bo PassesOwn.never rfl (BR (K:=K) (pv 0)) (Ba (i:=3) Hj.nd rfl (Or.inl rfl))
    (Ab (Bh (Ag (Hf (K:=K)) (pv 3) (pv 1) rfl)
     (Ad (Br (Ca (K:=K) PySem.F.plainAttrs_list PySem.F.slot_list_append PySem.F.type_list_append BL (pv 1) (Aa (pv 3) Ac))))
     Aq)
    (Ad (Br (Ca (K:=K) PySem.F.plainAttrs_list PySem.F.slot_list_append PySem.F.type_list_append BL (pv 2) (Aa (Ca (K:=K) PySem.F.plainAttrs_list PySem.F.slot_list_index PySem.F.type_list_index Wm (pv 1) (Aa (pv 3) Ac)) Ac))))))
   (Ad (Aw (pv 2)))))),?_⟩
  refine⟨AkP _,fun q nq=>?_⟩
  have s1:Ar H (upd H q (.lst [])):=.upd nq
  have h1:(upd H q (.lst [])) q=some (.lst (vS (unl ([]:List (List Nat))))):=Ae
  generalize upd H q (.lst [])=H1 at s1 h1 ⊢
  refine⟨AkP _,fun r nr=>?_⟩
  have s2:Ar H1 (upd H1 r (.lst [])):=.upd nr
  have h2:(upd H1 r (.lst [])) r=some (.lst (vI (nts (num ([]:List (List Nat)))))):=Ae
  have rq:r≠q:=fun z=>by rw[z,h1] at nr;cases nr
  have nrH:=s1.free nr
  generalize upd H1 r (.lst [])=H2 at s2 h2 ⊢
  have h1:=s2 _ _ h1
  refine⟨_,rfl,_,rfl,⟨_,(s1.trans s2).seq hS⟩,?_⟩
  refine Cr (K:=K) (a:=a) (xs:=vS us) (fun i σ H3=>∃(v:Option V),σ=[some (.ref a),some (.ref q),some (.ref r),v]∧Ar H H3∧H3 q=some (.lst (vS (unl (us.take i))))∧H3 r=some (.lst (vI (nts (num (us.take i))))))
   ⟨none,rfl,s1.trans s2,h1,h2⟩ (fun i σ H2 _ ⟨_,_,s2,_⟩=>s2.seq hS) ?_ ?_
  ·rintro i xv σ H3 hx ⟨v,rfl,s3,h3,g3⟩
   have hil:i<us.length:=by
    have:=(List.getElem?_eq_some_iff.mp hx).1
    rwa [Bq] at this
   obtain⟨u,hu,rfl⟩:=Hw hx
   have et:us.take (i+1)=us.take i++[u]:=by rw[Ale,hu];rfl
   have lf:(unl (us.take i)).length≤i:=AkZ (Qw _) (by rw[AkU];omega)
   have lf2:(unl (us.take (i+1))).length≤i+1:=AkZ (Qw _) (by rw[AkU];omega)
   have ln:(nts (num (us.take i))).length=i:=by rw[Hg,FZ,AkU];omega
   obtain⟨j1,j2,j3⟩:=WR (show u∈unl (us.take (i+1)) from(HF u _).mpr (by rw[et];simp))
   refine CG (σ':=[some (.ref a),some (.ref q),some (.ref r),some (.str (tx u))]) rfl ?_
   apply AbA (fun H4=>Ar H H4∧H4 q=some (.lst (vS (unl (us.take (i+1)))))∧H4 r=some (.lst (vI (nts (num (us.take i))))))
   ·intro rest
    obtain⟨Hx,hx⟩:∃ Hx,Hx=H3:=⟨_,rfl⟩
    rw[← hx] at s3 h3 g3 ⊢
    refine⟨_,rfl,_,rfl,_,_,rfl,.inl (SqL.of h3),rfl,Ka _,_,rfl,?_⟩
    show if (!inV (.str (tx u)) (vS (unl (us.take i))))=true then _ else _
    rw[ZR]
    by_cases hm:u∈unl (us.take i)
    ·refine CQ hm ?_
     exact rest Hx ⟨s3,by rw[et,Hr,if_pos hm];exact h3,g3⟩
    ·refine HY hm ?_
     refine⟨_,rfl,.inl ⟨rfl,_,SqL.of h3⟩,_,rfl,_,_,_,rfl,rfl,h3,(by rw[Bq];exact Ce (by omega)),?_⟩
     rw[Eu]
     exact rest _ ⟨s3.over nq,by rw[et,Hr,if_neg hm];exact Ae,by rw[Ax rq];exact g3⟩
   rintro H4 ⟨s4,h4,g4⟩
   refine⟨_,rfl,.inl ⟨rfl,_,SqL.of g4⟩,_,rfl,.inl ⟨rfl,_,SqL.of h4⟩,_,rfl,q,(unl (us.take (i+1))).map tx,tx u,_,rfl,rfl,(by rw[← Kc];exact h4),j1,j2,(by rw[AkE];omega),?_⟩
   refine⟨_,_,_,rfl,rfl,g4,(by rw[Bx,ln];omega),?_⟩
   refine⟨_,rfl,s4.over nrH,by rw[Ax rq.symm];exact h4,?_⟩
   rw[Ae,et,Acz,GF,WT]
  ·rintro σ H3 ⟨v,rfl,s3,h3,g3⟩
   rw[Bq,Alq] at g3
   exact⟨_,rfl,k r H3 s3 nrH g3⟩
theorem AaH:∀{a b:List Int},a.Pairwise (·<·)→b.Pairwise (·<·)→(∀ z,z∈a↔z∈b)→a=b
 | [],[],_,_,_=>rfl
 | [],y::b,_,_,h=>absurd ((h y).mpr AkS) (by simp)
 | x::a,[],_,_,h=>absurd ((h x).mp AkS) (by simp)
 | x::a,y::b,ha,hb,h=>by
  have a1:=List.pairwise_cons.mp ha
  have b1:=List.pairwise_cons.mp hb
  have e:x=y:=by
   rcases List.mem_cons.mp ((h x).mp AkS) with e | e
   ·exact e
   ·rcases List.mem_cons.mp ((h y).mpr AkS) with e2 | e2
    ·exact e2.symm
    ·have:=b1.1 x e
     have:=a1.1 y e2
     omega
  subst e
  rw[AaH a1.2 b1.2 fun z=>?_]
  constructor
  ·intro hz
   rcases List.mem_cons.mp ((h z).mp (AkX _ hz)) with e | e
   ·have:=a1.1 z hz;omega
   ·exact e
  ·intro hz
   rcases List.mem_cons.mp ((h z).mpr (AkX _ hz)) with e | e
   ·have:=b1.1 z hz;omega
   ·exact e
theorem Afa{ks:List Int}(R:Rs ks):ks.Pairwise (·<·):=by
 have key:∀(j i:Nat) (a b:Int),i<j→ks[i]?=some a→ks[j]?=some b→a<b:=by
  intro j
  induction j with
  | zero=>intro i a b h;omega
  | succ j ih =>
   intro i a b h ha hb
   by_cases e:i=j
   ·subst e;exact R.1 i a b ha hb
   ·have hj:j<ks.length:=by have:=(List.getElem?_eq_some_iff.mp hb).1;omega
    have h1:=ih i a ks[j] (by omega) ha (AkD hj)
    have h2:=R.1 j ks[j] b (AkD hj) hb
    omega
 exact List.pairwise_iff_getElem.mpr fun i j hi hj h=>key j i _ _ h (AkD hi) (AkD hj)
theorem YS{ks ds:List Int}(R:Rs ks)(n:ds.Nodup)(h:∀ z∈ds,z∈ks):ds.length<64:=AaC n fun z hz=>R.2 z (h z hz)
def ZZ (K:PySem.W.Frag)(t:Adr):Sp:=fun vs H Q _=>∃(d dx a b c:Addr) (qs:List Addr) (tss:List (List Int)) (cf:List (List Nat)) (m n:Nat),vs=[.ref d,.int (m:Int),.int (n:Int)]∧IsD t H d dx a b c qs (nts (num (cols cf m))) tss (nts (num cf))∧Cl cf m n∧Lts cf m tss∧∀(l:Addr) (H':Hp),Ar H H'→H l=none→H' l=some (.lst (vS cf))→Q (.ref l) H'
theorem Rv(T:Txt K mg t):BP P w K mg base CX0 3 t.Ip t.Ir ["draft", "wide", "high"] (ZZ K t):=by
 refine T.HN.F.ok CZ (fun vs H Q E h=>?_) (fun cdv A outer s H vs Q E hr h=>?_)
 ·obtain⟨d,dx,a,b,c,qs,tss,cf,m,n,rfl,_⟩:=h
  rfl
 ·obtain⟨d,dx,a,b,c,qs,tss,cf,m,n,rfl,D,C,Lt,k⟩:=h
  have hsz:sizeLine=16777216:=sizeLine_eq
  have m1:=C.m1
  have m40:=C.m40
  have n1:=C.n1
  have n40:=C.n40
  have hn:=C.hn
  have lth:(nts (num (cols cf m))).length=m:=by rw[Hg,FZ,Ib]
  have ltr:(nts (num cf)).length=n:=by rw[Hg,FZ,hn]
  have ucl:=Qw (cols cf m)
  rw[Ib] at ucl
  have bth:∀ z∈nts (num (cols cf m)),0≤z∧z<(m:Int):=fun z hz=>by
   obtain⟨y,hy,rfl⟩:=Ov.mp hz
   have:=Wn hy
   omega
  have btr:∀ z∈nts (num cf),0≤z∧z<(tss.length:Int):=fun z hz=>by
   obtain⟨y,hy,rfl⟩:=Ov.mp hz
   have:=Wn hy
   rw[Lt.l]
   omega
  have wv1:wv (nts (num (cols cf m))) tss (nts (num cf))=cf:=Yc C Lt.l fun j u ks h1 h2=>(Lt.r j u ks h1 h2).2
  obtain⟨th,eth⟩:∃ th,th=nts (num (cols cf m)):=⟨_,rfl⟩
  obtain⟨tr,etr⟩:∃ tr,tr=nts (num cf):=⟨_,rfl⟩
  rw[← eth] at D lth bth wv1
  rw[← etr] at D ltr btr wv1
  have tie:∀(j:Nat) (ks:List Int),tss[j]?=some ks→Rs ks∧∀ z∈ks,z∈th:=fun j ks hj=>by
   have hjl:j<(unl cf).length:=by rw[← Lt.l];exact(List.getElem?_eq_some_iff.mp hj).1
   obtain⟨r1,r2⟩:=Lt.r j _ ks (AkD hjl) hj
   refine⟨r1,fun z hz=>?_⟩
   obtain⟨e,he,_⟩:=(r2 z).mp hz
   rw[eth]
   exact AkI he
  clear eth etr
  refine⟨_,(Ab (Bh (PW.pt (pw_or (Cw (De (Ah (Dk (K:=K)) rfl T.Cd BV (Aa (pv 0) (Aa (Ei (v:=.ref t.El) rfl T.Aaw rfl) Ac))))) (pw_or1 (Cw (De (Av ((G5 T).mono (by decide)) hr rfl T.Cm.m T.Cm.F.kp T.Cm.b .nil Bj (Aa (Fq (K:=K) (pv 0) rfl) (Aa (pv 1) (Aa (pv 1) Ac)))))))))
    (Ad (Aw Fz))
    Aq)
   (Ab (Bh (PW.pt (pw_or (Cw (De (Ah (Dk (K:=K)) rfl T.Cd BV (Aa (Fq (K:=K) (pv 0) rfl) (Aa (FW (v:=.ty "list") rfl T.G3 Fo rfl) Ac))))) (pw_or1 (Cw (De (Av ((G5 T).mono (by decide)) hr rfl T.Cm.m T.Cm.F.kp T.Cm.b .nil Bj (Aa (Fq (K:=K) (pv 0) rfl) (Aa (pv 2) (Aa (Ah (Ak (K:=K)) rfl T.Bm Bc (Aa (Fq (K:=K) (pv 0) rfl) Ac)) Ac)))))))))
    (Ad (Aw Fz))
    Aq)
   (Ab (Bo PassesOwn.never rfl (BR (K:=K) (Fq (K:=K) (pv 0) rfl)) (Ba (i:=3) CZ.nd rfl (Or.inl rfl))
    (Ad (Bh (PW.pt (pw_or (Cw (De (Av ((G5 T).mono (by decide)) hr rfl T.Cm.m T.Cm.F.kp T.Cm.b .nil Bj (Aa (pv 3) (Aa (Xn RL Af) (Aa (Az Cj (Ah (Vb (K:=K)) rfl T.AeN AbX (Aa (Fq (K:=K) (pv 0) rfl) Ac)) Af) Ac)))))) (pw_or1 (Ag (R0 (K:=K) (hr.RM)) (Tc (K:=K) rfl T.Yv rfl T.AeO (pv 3)) (pv 3) (Am _)))))
     (Ad (Aw Fz))
     Aq)))
   (Ab (Al (i:=4) CZ.nd rfl (Or.inl rfl) (CW Ac))
   (Ab (Bo PassesOwn.never rfl (BR (K:=K) (Fq (K:=K) (pv 0) rfl)) (Ba (i:=5) CZ.nd rfl (Or.inl rfl))
    (Ab (Al (i:=6) CZ.nd rfl (Or.inl rfl) Bg)
    (Ab (Bo PassesOwn.never rfl (BR (K:=K) (Fq (K:=K) (pv 0) rfl)) (Ba (i:=7) CZ.nd rfl (Or.inl rfl))
     (Ad (Al (i:=6) CZ.nd rfl (Or.inl rfl) (Az Cp (pv 6) (Ai Bu Bg (Ep Ql rfl T.Aav VL (Aa (Gm (Nx (K:=K)) (pv 7) (Ai (Ao (K:=K)) (Fq (K:=K) (pv 0) rfl) (pv 5) (fun _ _=>rfl)) rfl) Ac)) (fun _ _=>rfl))))))
    (Ad (Br (Ca (K:=K) PySem.F.plainAttrs_list PySem.F.slot_list_append PySem.F.type_list_append BL (pv 4) (Aa (pv 6) Ac)))))))
   (Ad (Aw (pv 4)))))))),?_⟩
  have fth:∀{H2:Hp},Ar H H2→∃ H3,H3=H2:=fun _=>⟨_,rfl⟩
  refine⟨_,rfl,_,_,true,T.Ac8.ty T.Dz.c D.o,.inr ⟨_,rfl,if_pos (beq_self_eq_true _)⟩,_,rfl,Ci ?_⟩
  refine⟨_,rfl,_,_,_,_,_,rfl,D.o,T.Dz.c,T.Du,AaA a b c,_,rfl,_,rfl,a,th,(m:Int),(m:Int),rfl,D.ha,.inr (by rw[lth]),bth,?_⟩
  refine⟨_,rfl,Ci ?_⟩
  refine⟨_,rfl,_,_,_,_,_,rfl,D.o,T.Dz.c,T.Es,YJ a b c,_,_,true,.lst D.hb.h,.inl ⟨_,rfl,Eo K _⟩,_,rfl,Ci ?_⟩
  refine⟨_,rfl,_,_,_,_,_,rfl,D.o,T.Dz.c,T.DN,AaB a b c,_,rfl,_,rfl,_,_,_,_,_,rfl,D.o,T.Dz.c,T.Es,YJ a b c,_,_,rfl,.inl (SqL.of D.hb.h),c,tr,(n:Int),_,rfl,D.hc,.inr (by rw[ltr]),(fun z hz=>by rw[AkE,D.hb.l];exact btr z hz),?_⟩
  refine⟨_,rfl,Ci ?_⟩
  refine⟨_,rfl,_,_,_,_,_,rfl,D.o,T.Dz.c,T.Es,YJ a b c,_,rfl,⟨_,SqL.of D.hb.h⟩,Cr (K:=K) (a:=b) (xs:=qs.map V.ref) (fun i σ H2=>∃(v3:Option V),σ=[some (.ref d),some (.int (m:Int)),some (.int (n:Int)),v3,none,none,none,none]∧Ar H H2)
   ⟨none,rfl,.refl _⟩ (fun i σ H2 _ ⟨_,_,s2⟩=>SqL.of (D.same s2).hb.h) ?_ ?_⟩
  ·rintro i xv σ H2 hx ⟨v3,rfl,s2⟩
   have D2:=D.same s2
   obtain⟨q,ks,rfl,hq,hks,hqk⟩:=D2.hb.at hx
   obtain⟨Rk,Mk⟩:=tie i ks hks
   refine⟨_,rfl,_,rfl,_,rfl,_,_,_,_,_,rfl,D2.o,T.Dz.c,T.Du,AaA a b c,a,th,rfl,SqL.of D2.ha,(by omega),fun M hM hall=>?_⟩
   refine⟨_,_,rfl,rfl,q,ks,_,_,rfl,hqk,.inl (by decide),(fun z hz=>⟨(Rk.2 z hz).1,by have:=hall z (Mk z hz);omega⟩),?_⟩
   refine⟨_,rfl,Ci ?_⟩
   have hlk:=YS Rk ((Afa Rk).imp fun {a b} h=>by omega) (fun z hz=>hz)
   refine⟨_,rfl,q,ks,rfl,SqL.of hqk,(by omega),(fun ds nd hds=>YS Rk nd hds),fun l ns' hme hpw nl=>?_⟩
   have ens:ns'=ks:=AaH hpw (Afa Rk) hme
   subst ens
   refine⟨_,rfl,_,_,_,_,rfl,rfl,SqL.of Ae,SqL.of ((Ar.upd nl) _ _ hqk),Fp _,Fp _,_,rfl,?_⟩
   have eqq:(!eqL (vI ns') (vI ns'))=false:=by rw[Oq (Fp _)];rfl
   dsimp only
   rw[eqq]
   refine Ci ?_
   exact⟨_,rfl,s2.new nl⟩
  rintro σ H2 ⟨v3,rfl,s2⟩
  have D2:=D.same s2
  refine⟨AkP _,fun q hq=>?_⟩
  have s3:Ar H2 (upd H2 q (.lst [])):=.upd hq
  have h3:(upd H2 q (.lst [])) q=some (.lst (vS (wv th tss ([]:List Int)))):=Ae
  generalize upd H2 q (.lst [])=H3 at s3 h3 ⊢
  have D3:=D2.same s3
  have nqH:=s2.free hq
  refine⟨_,rfl,_,_,_,_,_,rfl,D3.o,T.Dz.c,T.DN,AaB a b c,_,rfl,⟨_,SqL.of D3.hc⟩,?_⟩
  refine Cr (K:=K) (a:=c) (xs:=vI tr) (fun i σ H4=>∃(v5 v6 v7:Option V),σ=[some (.ref d),some (.int (m:Int)),some (.int (n:Int)),v3,some (.ref q),v5,v6,v7]∧Ar H H4∧H4 q=some (.lst (vS (wv th tss (tr.take i)))))
   ⟨none,none,none,rfl,s2.trans s3,h3⟩ (fun i σ H4 _ ⟨_,_,_,_,s4,_⟩=>SqL.of (D.same s4).hc) ?_ ?_
  ·rintro i xv σ H4 hx ⟨v5,v6,v7,rfl,s4,h4⟩
   have hil:i<tr.length:=by
    have:=(List.getElem?_eq_some_iff.mp hx).1
    rwa [Bx] at this
   obtain⟨tv,htv,rfl⟩:=Ia hx
   have bv:=btr tv (AkI htv)
   have D4:=D.same s4
   have hrt:tv.toNat<qs.length:=by rw[D4.hb.l];omega
   have hkt:=D4.hb.r tv.toNat qs[tv.toNat] _ (AkD hrt) (AdS bv)
   refine⟨_,rfl,_,_,_,_,_,rfl,D4.o,T.Dz.c,T.Du,AaA a b c,_,rfl,⟨_,SqL.of D4.ha⟩,?_⟩
   refine Cr (K:=K) (a:=a) (xs:=vI th) (fun j σ H5=>∃(v7:Option V),σ=[some (.ref d),some (.int (m:Int)),some (.int (n:Int)),v3,some (.ref q),some (.int tv),some (.str (tx (shd (th.take j) (tss.getD tv.toNat [])))),v7]∧H5=H4)
    ⟨v7,by rw[show(("" : Str))=tx [] from by decide +kernel];rfl,rfl⟩ (fun j σ H5 _ ⟨_,_,e⟩=>e▸SqL.of D4.ha) ?_ ?_
   ·rintro j xw σ H5 hx2 ⟨v7,rfl,rfl⟩
    have hjl:j<th.length:=by
     have:=(List.getElem?_eq_some_iff.mp hx2).1
     rwa [Bx] at this
    obtain⟨tw,htw,rfl⟩:=Ia hx2
    have stp:∀ dd,dd=(if tw∈tss.getD tv.toNat [] then 35 else 46)→shd (th.take j) (tss.getD tv.toNat [])++[dd]=shd (th.take (j+1)) (tss.getD tv.toNat []):=fun dd hd=>by
     subst hd
     unfold shd
     rw[Ale,htw,AkL]
     rfl
    refine⟨_,rfl,_,rfl,_,rfl,_,_,_,_,_,rfl,D4.o,T.Dz.c,T.Es,YJ a b c,_,rfl,_,_,_,_,rfl,rfl,SqL.of D4.hb.h,Bb bv.1 (by rw[AkM,AkD hrt];rfl),_,_,rfl,.inl (SqL.of hkt),rfl,Fp _,?_⟩
    have tb:(if false=true then !inV (V.int tw) (vI (tss.getD tv.toNat [])) else inV (V.int tw) (vI (tss.getD tv.toNat [])))=decide (tw∈tss.getD tv.toNat []):=Wd tw _
    have at2:atI (".#" : Str).cps.toList (if decide (tw∈tss.getD tv.toNat [])=true then 1 else 0)=some (if tw∈tss.getD tv.toNat [] then 35 else 46):=by
     by_cases hm:tw∈tss.getD tv.toNat []
     ·rw[if_pos (decide_eq_true hm),if_pos hm];decide +kernel
     ·rw[if_neg (by rw[decide_eq_false hm];decide),if_neg hm];decide +kernel
    refine .inr ⟨_,rfl,?_⟩
    rw[tb]
    refine⟨_,_,_,rfl,rfl,(by show 2≤sizeLine;omega),at2,?_⟩
    refine⟨_,_,rfl,rfl,(by rw[An,AdR,AkU];show _+1≤sizeLine;omega),?_⟩
    rw[DP,GD]
    rw[stp _ rfl]
    exact⟨some (.int tw),rfl,rfl⟩
   ·rintro σ H5 ⟨v7,rfl,rfl⟩
    rw[Bx,Alq]
    refine⟨_,rfl,.inl ⟨rfl,_,SqL.of h4⟩,_,rfl,_,_,_,rfl,rfl,h4,(by rw[Bq,AfS,AkU];omega),?_⟩
    rw[Eu]
    refine⟨_,_,_,rfl,s4.over nqH,?_⟩
    rw[Ae]
    unfold wv
    rw[Ale,htv,AkL]
    rfl
  ·rintro σ H4 ⟨v5,v6,v7,rfl,s4,h4⟩
   rw[Bx,Alq,wv1] at h4
   exact⟨_,rfl,k q H4 s4 nqH h4⟩
def AbC (K:PySem.W.Frag)(t:Adr):Sp:=fun vs H Q _=>∃(d dx a b c lr:Addr) (qs:List Addr) (tss:List (List Int)) (cf:List (List Nat)) (m n:Nat),vs=[.ref d,.ref lr]∧IsD t H d dx a b c qs (nts (num (cols cf m))) tss (nts (num cf))∧H lr=some (.lst (vS cf))∧Cl cf m n∧Lts cf m tss∧∀(H':Hp),Ar H H'→Q (.bl true) H'
theorem Xa(T:Txt K mg t):BP P w K mg base CX0 2 t.Lq t.Lr ["draft", "rows"] (AbC K t):=by
 refine T.Mx.F.ok Kf (fun vs H Q E h=>?_) (fun cdv A outer s H vs Q E hr h=>?_)
 ·obtain⟨d,dx,a,b,c,lr,qs,tss,cf,m,n,rfl,_⟩:=h
  rfl
 ·obtain⟨d,dx,a,b,c,lr,qs,tss,cf,m,n,rfl,D,hlr,C,Lt,k⟩:=h
  have hsz:sizeLine=16777216:=sizeLine_eq
  have m1:=C.m1
  have m40:=C.m40
  have n1:=C.n1
  have n40:=C.n40
  have hn:=C.hn
  have h0:0<cf.length:=by omega
  have l0:=C.hm cf[0] (AkN h0)
  refine⟨_,(Ab (Al (i:=2) Kf.nd rfl (Or.inl rfl) (CW Ac))
   (Ab (Bo PassesOwn.never rfl (Be rfl T.Bs (Aa (Ah Ay rfl T.Bm Bc (Aa (Ai (Ao (K:=K)) (pv 1) Af (fun _ _=>rfl)) Ac)) Ac)) (Ba (i:=3) Kf.nd rfl (Or.inr rfl))
    (Ad (Br (Ca (K:=K) PySem.F.plainAttrs_list PySem.F.slot_list_append PySem.F.type_list_append BL (pv 2) (Aa (Ca (K:=K) PySem.F.plainAttrs_str PySem.F.slot_str_join PySem.F.type_str_join (J4 (K:=K)) Bg (Aa (Gp (Eb.mk (By:=[3]) (Nc:=["row", "k"]) rfl (by decide +kernel) (by decide +kernel) (Dy (sc0:=Aj Lk) rfl (by decide +kernel)) rfl rfl rfl (by decide +kernel) (fun k j h=>match k,h with | 0,h=>by obtain rfl:=Option.some.inj h;exact⟨_,rfl,rfl,rfl⟩ | _+1,h=>by simp at h)) rfl (BR (K:=K) (pv 1)) (fun _ _ _ _ _=>.nil) (fun _ _ _ _ _=>(Ai Bu (pv 0) (pv 1) (fun _ _=>rfl)))) Ac)) Ac)))))
   (Ab (Bh (PW.pt (pw_or (Ag (R0 (K:=K) (hr.RM)) (Fq (K:=K) (pv 0) rfl) (Av ((Np T).mono (by decide)) hr rfl T.Gg.m T.Gg.F.kp T.Gg.b .nil Bj (Aa (pv 2) Ac)) (Am _)) (pw_or1 (Ag (R0 (K:=K) (hr.RM)) (Fq (K:=K) (pv 0) rfl) (Av ((Np T).mono (by decide)) hr rfl T.Gg.m T.Gg.F.kp T.Gg.b .nil Bj (Aa (pv 1) Ac)) (Am _)))))
    (Ad (Aw Cy))
    Aq)
   (Ad (Aw (Gm Cz (Ah (Ak (K:=K)) rfl T.Bm Bc (Aa (Fq (K:=K) (pv 0) rfl) Ac)) (Az Cj (Ah (Vb (K:=K)) rfl T.AeN AbX (Aa (Fq (K:=K) (pv 0) rfl) Ac)) Af) (Am _))))))),?_⟩
  refine⟨AkP _,fun q nq=>?_⟩
  have s1:Ar H (upd H q (.lst [])):=.upd nq
  have h1:(upd H q (.lst [])) q=some (.lst (vS ((List.range 0).map (col cf)))):=Ae
  generalize upd H q (.lst [])=H1 at s1 h1 ⊢
  refine⟨_,rfl,_,_,_,_,rfl,rfl,SqL.of (s1 _ _ hlr),Bb (by decide) (Gq (AkD h0)),_,rfl,(by rw[An,l0];omega),_,rfl,(by omega),(by rw[An,l0];omega),?_⟩
  rw[An,l0,AkJ]
  refine Bp (lo:=0) (n:=m) (fun i σ H2=>∃(v3:Option V),σ=[some (.ref d),some (.ref lr),some (.ref q),v3]∧Ar H H2∧H2 q=some (.lst (vS ((List.range i).map (col cf))))) ⟨none,rfl,s1,h1⟩ ?_ ?_
  ·rintro i σ H2 hi ⟨v3,rfl,s2,h2⟩
   have hS2:SqL K H2 lr (vS cf):=SqL.of (s2 _ _ hlr)
   refine⟨_,rfl,.inl ⟨rfl,_,SqL.of h2⟩,rfl,_,rfl,_,rfl,⟨_,hS2⟩,GC (K:=K) (a:=lr) (xs:=vS cf) (fun j ys H3=>H3=H2∧ys=vS ((cf.take j).map fun t=>[t.getD i 0])) ⟨rfl,rfl⟩ ?_ ?_ ?_ ?_⟩
   ·rintro j ys H3 hj ⟨rfl,rfl⟩
    refine⟨hS2,?_⟩
    rw[Bq,AkE,AkU]
    omega
   ·rw[Bq,C.hn];exact Ce n40
   ·rintro j x ys H3 hj hx ⟨rfl,rfl⟩
    obtain⟨u,hu,rfl⟩:=Hw hx
    have htl:=C.hm u (AkI hu)
    have hel:i<u.length:=by omega
    refine Gh.no ?_
    refine⟨_,rfl,_,rfl,_,_,u[i],rfl,rfl,(by rw[An,htl];exact Ce m40),(by rw[VH,Alk];exact V3 (AkD hel)),?_⟩
    refine CN.of hj ⟨rfl,?_⟩
    rw[DP,Eu,Ale,hu,AkL]
    simp[List.getD,hel]
   ·rintro ys H3 p ⟨rfl,rfl⟩ hp
    rw[Bq,Alq]
    have s3:Ar H3 (upd H3 p (.lst (vS (cf.map fun t=>[t.getD i 0])))):=.upd hp
    refine⟨_,_,((cf.map fun t=>[t.getD i 0]).map tx),rfl,rfl,SqL.of (by rw[Ae,Kc]),?_,?_⟩
    ·have e1:=AaZ (fun t:List Nat=>t.getD i 0) cf
     rw[e1,AkE,AkE,C.hn]
     have:n*(Str.length "")=0:=by rw[show Str.length "" = 0 from by decide +kernel];omega
     omega
    rw[show(("" : Str))=tx [] from by decide +kernel,Ma]
    have e2:((cf.map fun t=>[t.getD i 0])).flatten=col cf i:=UW (fun t:List Nat=>t.getD i 0) cf
    rw[e2]
    refine⟨_,_,_,rfl,rfl,s3 _ _ h2,(by rw[Bq,AkE,AkV];omega),?_⟩
    rw[Eu]
    refine⟨_,rfl,(s2.trans s3).over nq,?_⟩
    rw[Ae,Alx,AkL]
    rfl
  rintro σ H2 ⟨v3,rfl,s2,h2⟩
  have D2:=D.same s2
  have ec:(List.range m).map (col cf)=cols cf m:=rfl
  rw[ec] at h2
  refine⟨_,rfl,_,_,_,_,_,rfl,D2.o,T.Dz.c,T.Du,AaA a b c,_,rfl,q,cols cf m,rfl,SqL.of h2,by rw[Ib];exact m40,fun l1 H3 s3 n1' hl1=>?_⟩
  have D3:=D2.same s3
  refine⟨_,_,_,_,rfl,rfl,SqL.of D3.ha,SqL.of hl1,Fp _,Fp _,_,rfl,?_⟩
  have eqq:∀ ns:List Int,(!eqL (vI ns) (vI ns))=false:=fun ns=>by rw[Oq (Fp _)];rfl
  dsimp only
  rw[eqq]
  refine Ci ?_
  refine⟨_,rfl,_,_,_,_,_,rfl,D3.o,T.Dz.c,T.DN,AaB a b c,_,rfl,lr,cf,rfl,SqL.of ((s2.trans s3) _ _ hlr),by rw[hn];exact n40,fun l2 H4 s4 n2' hl2=>?_⟩
  have D4:=D3.same s4
  refine⟨_,_,_,_,rfl,rfl,SqL.of D4.hc,SqL.of hl2,Fp _,Fp _,_,rfl,?_⟩
  dsimp only
  rw[eqq]
  refine Ci ?_
  have ltr:(nts (num cf)).length=n:=by rw[Hg,FZ,hn]
  refine⟨_,rfl,_,_,_,_,_,rfl,D4.o,T.Dz.c,T.Es,YJ a b c,_,_,rfl,.inl (SqL.of D4.hb.h),_,rfl,_,_,_,_,_,rfl,D4.o,T.Dz.c,T.DN,AaB a b c,c,_,rfl,SqL.of D4.hc,(by omega),fun M hM hall=>?_⟩
  refine⟨_,_,rfl,rfl,rfl,?_⟩
  obtain⟨y,hy,rfl⟩:=Ov.mp hM
  have mx:=AdW hy fun z hz=>by have:=hall _ (Ov.mpr ⟨z,hz,rfl⟩);omega
  have el:(((qs.map V.ref).length:Nat):Int)=(y:Int)+1:=by rw[AkE,D4.hb.l,Lt.l,← mx];omega
  rw[el]
  have ed:decide (V.int ((y:Int)+1)=(fun i j=>V.int (i+j)) (y:Int) 1)=true:=decide_eq_true rfl
  rw[ed]
  exact k H4 ((s2.trans s3).trans s4)
def mxl (cf hf:List (List Nat))(j k:Nat):List (List Nat):=cf.take j++[(cf.getD j []).take k++[35]++(hf.getD j []).drop (k+1)]++hf.drop (j+1)
theorem Ae3{cf hf:List (List Nat)}{m n j k p:Nat}(Cc:Hc cf m n)(Ch:Hc hf m n)(hj:j<n)(hk:k<m)(hp:p<n):(mxl cf hf j k).getD p []=if p<j then cf.getD p [] else if p=j then (cf.getD j []).take k++[35]++(hf.getD j []).drop (k+1) else hf.getD p []:=by
 have h1:=Cc.hn
 have h2:=Ch.hn
 unfold mxl
 rw[AkH]
 have lt:(cf.take j).length=j:=by rw[AkU];omega
 by_cases a:p<j
 ·rw[if_pos a,Alv,AkR (by omega),AlQ a,← AkH]
 ·rw[if_neg a]
  by_cases b:p=j
  ·rw[if_pos b,Alv,AkY (by omega),show p-(cf.take j).length=0 by omega]
   rfl
  ·rw[if_neg b,AkY (by rw[AkG,lt];show j+1≤p;omega),AkG,lt,AlU,AkH]
   congr 2
   show j+1+(p-(j+1))=p
   omega
theorem Adp{cf hf:List (List Nat)}{m n j k p e:Nat}(Cc:Hc cf m n)(Ch:Hc hf m n)(hj:j<n)(hk:k<m)(hp:p<n)(he:e<m):sg2 (mxl cf hf j k) p e=if p=j∧e=k then 35 else mix (sg2 cf) (sg2 hf) j k p e:=by
 have rl:∀{cl:List (List Nat)},Hc cl m n→(cl.getD j []).length=m:=fun {cl} C=>by
  have hjl:j<cl.length:=by rw[C.hn];exact hj
  rw[show cl.getD j []=cl[j] by simp[List.getD,hjl]]
  exact C.hm _ (AkN _)
 have lc:=rl Cc
 have lh:=rl Ch
 unfold sg2 mix
 rw[Ae3 Cc Ch hj hk hp]
 by_cases a:p<j
 ·rw[if_pos a,if_neg (by omega),if_pos (.inl a)]
 ·rw[if_neg a]
  by_cases b:p=j
  ·subst b
   rw[if_pos rfl]
   have lt:((cf.getD p []).take k).length=k:=by rw[AkU];omega
   by_cases c:e<k
   ·rw[if_neg (by omega),if_pos (.inr ⟨rfl,c⟩),AkH,Alv,AkR (by omega),AlQ c,← AkH]
   ·by_cases d:e=k
    ·rw[if_pos ⟨rfl,d⟩,AkH,Alv,AkY (by omega),show e-((cf.getD p []).take k).length=0 by omega]
     rfl
    ·rw[if_neg (by omega),if_neg (by omega),AkH,AkY (by rw[AkG,lt];show k+1≤e;omega),AkG,lt,AlU,AkH]
     congr 2
     show k+1+(e-(k+1))=e
     omega
  ·rw[if_neg b,if_neg (by omega),if_neg (by omega)]
theorem AgA{cf hf:List (List Nat)}{m n j k:Nat}(Cc:Hc cf m n)(Ch:Hc hf m n)(hj:j<n)(hk:k<m):Hc (mxl cf hf j k) m n:=by
 have h1:=Cc.hn
 have h2:=Ch.hn
 have rl:∀{cl:List (List Nat)},Hc cl m n→cl.getD j []∈cl:=fun {cl} C=>by
  have hjl:j<cl.length:=by rw[C.hn];exact hj
  rw[show cl.getD j []=cl[j] by simp[List.getD,hjl]]
  exact AkN _
 have mem:∀ u,u∈mxl cf hf j k→u∈cf∨u=(cf.getD j []).take k++[35]++(hf.getD j []).drop (k+1)∨u∈hf:=fun u hu=>by
  unfold mxl at hu
  rcases List.mem_append.mp hu with h | h
  ·rcases List.mem_append.mp h with h | h
   ·exact .inl (List.mem_of_mem_take h)
   ·exact .inr (.inl (List.mem_singleton.mp h))
  ·exact .inr (.inr (List.mem_of_mem_drop h))
 refine⟨?_,fun u hu=>?_,fun u hu c hc=>?_,Cc.m2,Cc.m40,Cc.n2,Cc.n40⟩
 ·unfold mxl
  rw[AkG,AkG,AkU,Al6]
  show min j cf.length+1+_=n
  omega
 ·rcases mem u hu with h | h | h
  ·exact Cc.hm u h
  ·have a:=Cc.hm _ (rl Cc)
   have b:=Ch.hm _ (rl Ch)
   rw[h,AkG,AkG,AkU,Al6]
   show min k _+1+_=m
   omega
  ·exact Ch.hm u h
 ·rcases mem u hu with h | h | h
  ·exact Cc.sg u h c hc
  ·rw[h] at hc
   rcases List.mem_append.mp hc with z | z
   ·rcases List.mem_append.mp z with z | z
    ·exact Cc.sg _ (rl Cc) c (List.mem_of_mem_take z)
    ·rw[List.mem_singleton.mp z];exact .inl rfl
   ·exact Ch.sg _ (rl Ch) c (List.mem_of_mem_drop z)
  ·exact Ch.sg u h c hc
theorem AgB{cf hf:List (List Nat)}{m n j k:Nat}(Cc:Hc cf m n)(Ch:Hc hf m n)(F:Fnd m n (sg2 hf) (sg2 cf))(hj:j<n)(hk:k<m)(h63:sg2 hf j k=63)(h46:sg2 cf j k=46):¬SC (m+n) (Ed m n (sg2 (mxl cf hf j k))):=fun z=>by
 have no:¬Rc (del (Ed m n (mix (sg2 cf) (sg2 hf) j k)) (m+j) k) (m+j) k:=fun y=>by
  have:=(F.at' j k hj hk h63).mpr y
  omega
 refine no ((z (m+j) k (by omega) (by omega)).mono fun u v g=>?_)
 have m63:mix (sg2 cf) (sg2 hf) j k j k=63:=by
  unfold mix
  rw[if_neg (by omega)]
  exact h63
 rcases g with ⟨p,p1,p2,p3,p4⟩ | ⟨p,p1,p2,p3,p4⟩
 ·rw[Adp Cc Ch hj hk p1 p2] at p4
  refine⟨.inl ⟨p,p1,p2,p3,?_⟩,fun y=>by omega⟩
  by_cases q:p=j∧u=k
  ·rw[q.1,q.2,m63];decide
  ·rw[if_neg q] at p4;exact p4
 ·rw[Adp Cc Ch hj hk p1 p2] at p4
  by_cases q:p=j∧v=k
  ·rw[if_pos q] at p4;exact absurd rfl p4
  ·rw[if_neg q] at p4
   exact⟨.inr ⟨p,p1,p2,p3,p4⟩,fun y=>q ⟨by omega,y.2⟩⟩
theorem Ae4{xs:List V}{k:Nat}(h:k≤xs.length):V1 xs none (some (k:Int))=xs.take k:=by
 unfold V1
 rw[HT.RN,HT.Oi,AlV,AlK h,Nat.sub_zero]
theorem AbD{xs:List V}{k:Nat}(h:k≤xs.length):V1 xs (some (k:Int)) none=xs.drop k:=by
 unfold V1
 have e1:HT.sIx xs.length 0 (some (k:Int))=k:=by rw[HT.Oi,AlK h]
 have e2:HT.sIx xs.length xs.length none=xs.length:=rfl
 rw[e1,e2]
 exact Aly (by rw[Al6];omega)
theorem Ae5(cl:List (List Nat))(k:Nat):(vS cl).take k=vS (cl.take k):=by unfold vS;rw[List.map_take]
theorem Ae6(cl:List (List Nat))(k:Nat):(vS cl).drop k=vS (cl.drop k):=by unfold vS;rw[List.map_drop]
theorem AgC(a b:List (List Nat)):vS a++vS b=vS (a++b):=by unfold vS;rw[AkL]
structure Pls (H:Hp) (l:Addr) (hf cf:List (List Nat)) (m n q:Nat):Prop where
 p:∃ ps:List Addr,H l=some (.lst (ps.map V.ref))∧ps.length≤q∧∀ a∈ps,∃ j k:Nat,H a=some (.tup [.int (j:Int),.int (k:Int)])∧j<n∧k<m∧sg2 hf j k=63∧sg2 cf j k=46
theorem Aix{cf:List (List Nat)}{m n:Nat}(C:Cl cf m n)(m2:2≤m)(n2:2≤n):Hc cf m n:=⟨C.hn,C.hm,fun r hr c hc=>(C.sg r hr c hc).elim .inl fun h=>.inr (.inl h),m2,C.m40,n2,C.n40⟩
def Aiy (K:PySem.W.Frag):Sp:=fun vs H Q _=>∃(lh lr:Addr) (hf cf:List (List Nat)) (m n:Nat) (z:Int),vs=[.ref lh,.ref lr,.int z]∧H lh=some (.lst (vS hf))∧H lr=some (.lst (vS cf))∧Hc hf m n∧Cl cf m n∧Fnd m n (sg2 hf) (sg2 cf)∧∀(H':Hp),Ar H H'→Q (.bl true) H'
theorem K3(T:Txt K mg t):BP P w K mg base CX0 3 t.Ey t.Ez ["half", "rows", "number"] (Aiy K):=by
 refine T.DX.F.ok BJ (fun vs H Q E h=>?_) (fun cdv A outer s H vs Q E hr h=>?_)
 ·obtain⟨lh,lr,hf,cf,m,n,z,rfl,_⟩:=h
  rfl
 ·obtain⟨lh,lr,hf,cf,m,n,z,rfl,hlh,hlr,Ch,Cc0,F,k⟩:=h
  have hsz:sizeLine=16777216:=sizeLine_eq
  have m40:=Ch.m40
  have n40:=Ch.n40
  have hn:=Ch.hn
  have Cc:=Aix Cc0 Ch.m2 Ch.n2
  have hn2:=Cc.hn
  have mn:m*n≤1600:=Nat.mul_le_mul m40 n40
  have h0:0<hf.length:=by have:=Ch.n2;omega
  have l0:=Ch.hm hf[0] (AkN h0)
  refine⟨_,(Ab (Al (i:=3) BJ.nd rfl (Or.inl rfl) (Ah Ay rfl T.Bm Bc (Aa (Ai (Ao (K:=K)) (pv 0) Af (fun _ _=>rfl)) Ac)))
   (Ab (Al (i:=4) BJ.nd rfl (Or.inl rfl) (CW Ac))
   (Ab (Bo PassesOwn.never rfl (Be rfl T.Bs (Aa (Ah (Ak (K:=K)) rfl T.Bm Bc (Aa (pv 0) Ac)) Ac)) (Ba (i:=5) BJ.nd rfl (Or.inl rfl))
    (Ad (Bo PassesOwn.never rfl (Be rfl T.Bs (Aa (pv 3) Ac)) (Ba (i:=6) BJ.nd rfl (Or.inl rfl))
     (Ab (Bh (PW.pt (pw_and (Ag Dd (Ai Bu (Ai (Ao (K:=K)) (pv 0) (pv 5) (fun _ _=>rfl)) (pv 6) (fun _ _=>rfl)) Bg (Am _)) (pw_and1 (Ag Dd (Ai Bu (Ai (Ao (K:=K)) (pv 1) (pv 5) (fun _ _=>rfl)) (pv 6) (fun _ _=>rfl)) (Ai Bu (Ai (Ao (K:=K)) (pv 0) (pv 5) (fun _ _=>rfl)) (pv 6) (fun _ _=>rfl)) (Am _)))))
      (Ad (Aw Cy))
      Aq)
     (Ad (Bh (PW.pt (pw_and (Ag Cz (Ai Bu (Ai (Ao (K:=K)) (pv 0) (pv 5) (fun _ _=>rfl)) (pv 6) (fun _ _=>rfl)) Bg (Am _)) (pw_and1 (Ag Cz (Ai Bu (Ai (Ao (K:=K)) (pv 1) (pv 5) (fun _ _=>rfl)) (pv 6) (fun _ _=>rfl)) Bg (Am _)))))
      (Ad (Br (Ca (K:=K) PySem.F.plainAttrs_list PySem.F.slot_list_append PySem.F.type_list_append BL (pv 4) (Aa (Gn (Aa (pv 5) (Aa (pv 6) Ac))) Ac))))
      Aq))))))
   (Ab (Bh (Cw (De (Av ((Nm T).mono (by decide)) hr rfl T.Gf.m T.Gf.F.kp T.Gf.b .nil Bj (Aa (pv 1) Ac))))
    (Ad (Aw Cy))
    Aq)
   (Ab (Bh (Ag (AfO (K:=K) (hr.RM)) (pv 4) (CW Ac) (Am _))
    (Ad (Aw Cy))
    Aq)
   (Ab (Vy (Ai (Ao (K:=K)) (pv 4) (Az CJ (pv 2) (Ah (Ak (K:=K)) rfl T.Bm Bc (Aa (pv 4) Ac))) (fun _ _=>rfl)) (YZ rfl (J1 (Ba (i:=5) BJ.nd rfl (Or.inl rfl)) (J1 (Ba (i:=6) BJ.nd rfl (Or.inl rfl)) Vx))))
   (Ab (Al (i:=7) BJ.nd rfl (Or.inl rfl) (Az Cp (Az Cp (J3 VP (Ai (Ao (K:=K)) (pv 1) (pv 5) (fun _ _=>rfl)) LQ (LR (pv 6))) Bg) (J3 VP (Ai (Ao (K:=K)) (pv 0) (pv 5) (fun _ _=>rfl)) (LR (Az Cj (pv 6) Af)) LQ)))
   (Ad (Aw (AbG (Av ((Nm T).mono (by decide)) hr rfl T.Gf.m T.Gf.F.kp T.Gf.b .nil Bj (Aa (Az V9 (Az V9 (J3 (Xz (K:=K)) (pv 1) LQ (LR (pv 5))) (CW (Aa (pv 7) Ac))) (J3 (Xz (K:=K)) (pv 0) (LR (Az Cj (pv 5) Af)) LQ)) Ac)))))))))))),?_⟩
  refine⟨_,rfl,_,_,_,_,rfl,rfl,SqL.of hlh,Bb (by decide) (Gq (AkD h0)),_,rfl,(by rw[An,l0];omega),?_⟩
  rw[An,l0]
  refine⟨AkP _,fun q nq=>?_⟩
  have s1:Ar H (upd H q (.lst [])):=.upd nq
  have h1:Pls (upd H q (.lst [])) q hf cf m n (m*0):=⟨[],Ae,AkP _,fun a ha=>(by cases ha)⟩
  generalize upd H q (.lst [])=H1 at s1 h1 ⊢
  refine CG (σ':=[some (.ref lh),some (.ref lr),some (.int z),some (.int (m:Int)),some (.ref q),none,none,none]) rfl ?_
  refine⟨_,rfl,_,_,rfl,.inl (SqL.of (s1 _ _ hlh)),_,rfl,(by omega),(by rw[Bq];omega),?_⟩
  rw[Bq,hn,AkJ]
  refine Bp (lo:=0) (n:=n) (fun i σ H2=>∃(v5 v6:Option V),σ=[some (.ref lh),some (.ref lr),some (.int z),some (.int (m:Int)),some (.ref q),v5,v6,none]∧Ar H H2∧Pls H2 q hf cf m n (m*i)) ⟨none,none,rfl,s1,h1⟩ ?_ ?_
  ·rintro i σ H2 hi ⟨v5,v6,rfl,s2,p2⟩
   refine⟨_,rfl,_,rfl,(by omega),(by omega),?_⟩
   rw[AkJ]
   refine Bp (lo:=0) (n:=m) (fun j σ H3=>∃(v6:Option V),σ=[some (.ref lh),some (.ref lr),some (.int z),some (.int (m:Int)),some (.ref q),some (.int (0+(i:Int))),v6,none]∧Ar H H3∧Pls H3 q hf cf m n (m*i+j)) ⟨v6,rfl,s2,p2⟩ ?_ ?_
   ·rintro j σ H3 hj ⟨v6,rfl,s3,p3⟩
    obtain⟨e1,l1⟩:=Rq Ch hi
    obtain⟨f1,g1⟩:=Rq Cc hi
    have e2:=Iw (u:=hf.getD i []) (e:=j) (by rw[l1];exact hj)
    have f2:=Iw (u:=cf.getD i []) (e:=j) (by rw[g1];exact hj)
    have hS:SqL K H3 lh (vS hf):=SqL.of (s3 _ _ hlh)
    have hR:SqL K H3 lr (vS cf):=SqL.of (s3 _ _ hlr)
    obtain⟨x,ex⟩:∃ x,x=sg2 hf i j:=⟨_,rfl⟩
    obtain⟨y,ey⟩:∃ y,y=sg2 cf i j:=⟨_,rfl⟩
    have xy:x≠63→y=x:=fun h=>by rw[ex,ey];exact F.eq i j hi hj (by rw[← ex];exact h)
    change atI _ _=some (sg2 hf i j) at e2
    change atI _ _=some (sg2 cf i j) at f2
    rw[← ex] at e2
    rw[← ey] at f2
    have q63:x=63→V.str ⟨#[x]⟩=V.str "?" := fun h=>by rw[h,v63]
    have n63:x≠63→¬V.str ⟨#[x]⟩=V.str "?" := fun h z=>h (by rw[v63] at z;exact CV.mp z)
    have q46:y=46→V.str ⟨#[y]⟩=V.str "." := fun h=>by rw[h,v46]
    have n46:y≠46→¬V.str ⟨#[y]⟩=V.str "." := fun h z=>h (by rw[v46] at z;exact CV.mp z)
    have bnd:m*i+j<m*n:=by
     have:=Nat.mul_le_mul_left m (show i+1≤n by omega)
     rw[Nat.mul_add,Nat.mul_one] at this
     omega
    refine CG (σ':=[some (.ref lh),some (.ref lr),some (.int z),some (.int (m:Int)),some (.ref q),some (.int (0+(i:Int))),some (.int (0+(j:Int))),none]) rfl ?_
    apply Lw True
    ·intro rest
     refine⟨_,rfl,_,rfl,_,_,_,_,rfl,rfl,hS,e1,_,rfl,_,_,_,rfl,rfl,(by rw[An,l1];exact Ce m40),e2,rfl,_,rfl,?_⟩
     by_cases hx:x=63
     ·refine CQ (q63 hx) ?_
      exact Ci (rest trivial)
     ·refine HY (n63 hx) ?_
      refine⟨_,rfl,_,rfl,_,_,_,_,rfl,rfl,hR,f1,_,rfl,_,_,_,rfl,rfl,(by rw[An,g1];exact Ce m40),f2,_,rfl,_,rfl,_,_,_,_,rfl,rfl,hS,e1,_,rfl,_,_,_,rfl,rfl,(by rw[An,l1];exact Ce m40),e2,rfl,_,rfl,?_⟩
      refine CQ (by rw[xy hx]) ?_
      exact rest trivial
    intro _
    have p3':Pls H3 q hf cf m n (m*i+(j+1)):=by
     obtain⟨ps,a1,a2,a3⟩:=p3
     exact⟨ps,a1,by omega,a3⟩
    refine⟨_,rfl,_,rfl,_,_,_,_,rfl,rfl,hS,e1,_,rfl,_,_,_,rfl,rfl,(by rw[An,l1];exact Ce m40),e2,rfl,_,rfl,?_⟩
    by_cases hx:x=63
    ·refine Gi (q63 hx) ?_
     refine⟨_,rfl,_,rfl,_,_,_,_,rfl,rfl,hR,f1,_,rfl,_,_,_,rfl,rfl,(by rw[An,g1];exact Ce m40),f2,rfl,_,rfl,?_⟩
     by_cases hy:y=46
     ·refine Gi (q46 hy) ?_
      obtain⟨ps,a1,a2,a3⟩:=p3
      refine⟨_,rfl,.inl ⟨rfl,_,SqL.of a1⟩,_,rfl,_,rfl,(by show 2≤sizeLine;omega),fun tp ntp=>?_⟩
      have s4:=Ar.upd (o:=.tup [.int (0+(i:Int)),.int (0+(j:Int))]) ntp
      refine⟨_,_,_,rfl,rfl,s4 _ _ a1,(by rw[AkE];omega),?_⟩
      refine⟨_,rfl,(s3.trans s4).over nq,ps++[tp],?_,?_,fun a ha=>?_⟩
      ·rw[Ae,AkL];rfl
      ·rw[AkG];show _+1≤_;omega
      ·have aq:a≠q:=fun e=>by
        rcases List.mem_append.mp ha with h | h
        ·obtain⟨_,_,b1,_⟩:=a3 a h
         rw[e,a1] at b1
         cases b1
        ·rw[List.mem_singleton.mp h] at e
         rw[e,a1] at ntp
         cases ntp
       rw[Ax aq]
       rcases List.mem_append.mp ha with h | h
       ·obtain⟨j',k',b1,b2⟩:=a3 a h
        exact⟨j',k',s4 _ _ b1,b2⟩
       ·rw[List.mem_singleton.mp h]
        refine⟨i,j,?_,hi,hj,by rw[← ex];exact hx,by rw[← ey];exact hy⟩
        rw[Ae,Alk,Alk]
     ·refine Cv (n46 hy) ?_
      exact⟨_,rfl,s3,p3'⟩
    ·refine Cv (n63 hx) ?_
     exact Ci ⟨_,rfl,s3,p3'⟩
   ·rintro σ H3 ⟨v6,rfl,s3,p3⟩
    exact⟨_,_,rfl,s3,by rw[Nat.mul_add,Nat.mul_one];exact p3⟩
  rintro σ H2 ⟨v5,v6,rfl,s2,p2⟩
  refine⟨_,rfl,lr,cf,m,n,rfl,SqL.of (s2 _ _ hlr),Cc,fun b H3 s3 hb=>?_⟩
  have hb1:=hb.mpr F.sc
  subst hb1
  refine⟨_,rfl,Ci ?_⟩
  obtain⟨ps,a1,a2,a3⟩:=p2
  have u3:=s2.trans s3
  refine⟨_,rfl,AkP _,fun le nle=>?_⟩
  have s4:=Ar.upd (o:=.lst []) nle
  have u4:=u3.trans s4
  refine⟨_,_,_,rfl,rfl,SqL.of ((s3.trans s4) _ _ a1),SqL.of Ae,_,rfl,?_⟩
  have a1':=(s3.trans s4) _ _ a1
  generalize upd H3 le (.lst [])=H4 at s4 u4 a1' ⊢
  by_cases hp:ps=[]
  ·subst hp
   refine Jm ?_
   exact k H4 u4
  have hpl:0<ps.length:=List.length_pos_iff.mpr hp
  have eem:(ps.map V.ref).isEmpty=false:=by cases ps with | nil=>exact absurd rfl hp | cons _ _=>rfl
  dsimp only
  rw[eem]
  refine Ci ?_
  have r0:0≤z%(((ps.map V.ref).length:Nat):Int):=Alr _ (by rw[AkE];omega)
  have r1:z%(((ps.map V.ref).length:Nat):Int)<(((ps.map V.ref).length:Nat):Int):=Als _ (by rw[AkE];omega)
  refine⟨_,rfl,_,rfl,_,rfl,_,_,rfl,.inl (SqL.of a1'),_,_,rfl,rfl,(by rw[AkE];show(0:Int)<_;omega),?_⟩
  obtain⟨r,er⟩:∃ r:Nat,(r:Int)=z%(((ps.map V.ref).length:Nat):Int):=⟨(z%(((ps.map V.ref).length:Nat):Int)).toNat,by omega⟩
  rw[AkE] at r1
  have hrl:r<ps.length:=by rw[AkE] at er;omega
  obtain⟨j,kk,hT,hj,hk,h63,h46⟩:=a3 ps[r] (AkN hrl)
  have hT4:=(s3.trans s4) _ _ hT
  dsimp only
  rw[← er]
  refine⟨_,_,_,_,rfl,rfl,SqL.of a1',Bb (by omega) (by rw[AkJ,AkM,AkD hrl];rfl),_,_,rfl,SqT.of hT4,rfl,_,_,rfl,_,_,rfl,rfl,?_⟩
  refine CG (σ':=[some (.ref lh),some (.ref lr),some (.int z),some (.int (m:Int)),some (.ref q),some (.int (j:Int)),some (.int (kk:Int)),none]) rfl ?_
  obtain⟨e1,l1⟩:=Rq Ch hj
  obtain⟨f1,g1⟩:=Rq Cc hj
  rw[Alk] at e1 f1
  have hS:H4 lh=some (.lst (vS hf)):=u4 _ _ hlh
  have hR:H4 lr=some (.lst (vS cf)):=u4 _ _ hlr
  refine⟨_,rfl,_,rfl,_,_,_,_,rfl,rfl,SqL.of hR,f1,_,rfl,_,rfl,_,rfl,(by omega),?_⟩
  rw[Zn (by omega)]
  refine⟨_,_,rfl,rfl,(by rw[An,AkU];show _+1≤sizeLine;omega),?_⟩
  rw[show(("#" : Str))=tx [35] from by decide +kernel,GD]
  refine⟨_,rfl,_,rfl,_,_,_,_,rfl,rfl,SqL.of hS,e1,_,rfl,_,_,rfl,rfl,_,rfl,_,rfl,(by omega),?_⟩
  rw[show(kk:Int)+1=((kk+1:Nat):Int) by omega,Y8 (by omega)]
  refine⟨_,_,rfl,rfl,(by rw[An,An,AkG,AkU,Al6];show _+1+_≤sizeLine;omega),?_⟩
  rw[GD]
  have HM:=AgA Cc Ch hj hk
  have NM:=AgB Cc Ch F hj hk h63 h46
  obtain⟨M,hM⟩:∃ M,M=mxl cf hf j kk:=⟨_,rfl⟩
  rw[← hM] at HM NM
  unfold mxl at hM
  obtain⟨row,hrow⟩:∃ row,row=(cf.getD j []).take kk++[35]++(hf.getD j []).drop (kk+1):=⟨_,rfl⟩
  rw[← hrow] at hM ⊢
  refine CG (σ':=[some (.ref lh),some (.ref lr),some (.int z),some (.int (m:Int)),some (.ref q),some (.int (j:Int)),some (.int (kk:Int)),some (.str (tx row))]) rfl ?_
  refine⟨_,rfl,_,rfl,_,rfl,_,_,rfl,SqL.of hR,fun l1 n1=>?_⟩
  rw[Ae4 (by rw[Bq];omega),Ae5]
  have t1:=Ar.upd (o:=.lst (vS (cf.take j))) n1
  refine⟨_,rfl,(by show 1≤sizeLine;decide),fun l2 n2=>?_⟩
  have t2:=t1.new (o:=.lst [.str (tx row)]) n2
  refine⟨_,_,_,_,rfl,rfl,(Ar.upd n2) _ _ Ae,Ae,(by rw[Bq,AkU];show _+1≤sizeLine;omega),fun l3 n3=>?_⟩
  rw[Eu]
  have t3:=t2.new (o:=.lst (vS (cf.take j++[row]))) n3
  refine⟨_,rfl,_,rfl,_,_,rfl,rfl,_,rfl,_,_,rfl,SqL.of (t3 _ _ hS),fun l4 n4=>?_⟩
  rw[show(j:Int)+1=((j+1:Nat):Int) by omega,AbD (by rw[Bq];omega),Ae6]
  have t4:=t3.new (o:=.lst (vS (hf.drop (j+1)))) n4
  refine⟨_,_,_,_,rfl,rfl,(Ar.upd n4) _ _ Ae,Ae,(by rw[Bq,Bq,AkG,AkU,Al6];show _+1+_≤sizeLine;omega),fun l5 n5=>?_⟩
  rw[AgC,← hM]
  have t5:=t4.new (o:=.lst (vS M)) n5
  refine⟨l5,M,m,n,rfl,SqL.of Ae,HM,fun b H6 s6 hb=>?_⟩
  have b0:b=false:=by
   cases b with
   | false=>rfl
   | true=>exact absurd (hb.mp rfl) NM
  subst b0
  exact⟨_,rfl,k H6 ((u4.trans t5).trans s6)⟩
end
theorem AgD{i:Nat}{v:V}{σ σ':St}{H:Hp}{b:TS}{D:Ends}(h:σ.set i (some v)=σ')(k:b D σ' H):AgU (Adw (tC v) (M5 i)) b D σ H:=by subst h;exact k
theorem AaI(c:Int){z:Int}(hz:0<z){y:Nat}(hz2:z+1≤(y:Int)):∃ m:Nat,2+c%z=(m:Int)∧2≤m∧m≤y:=by
 have h1:=Alr c (show z≠0 by omega)
 have h2:=Als c hz
 exact⟨(2+c%z).toNat,by omega,by omega,by omega⟩
section
variable {pic:List (List Nat)}{m n:Nat}{wa we ua ue T:List Nat}
theorem Xb(F:Ru pic m n wa we ua ue)(hwa:wa.length=m)(hwe:we.length=n):Fit pic m n (wa++we) (fun v=>(ua++ue).getD v 0):=by
 have ga:∀ j,j<m→(ua++ue).getD j 0=ua.getD j 0:=fun j hj=>by
  have:=F.la
  rw[AkH,AkR (by omega),← AkH]
 have ge:∀ i,(ua++ue).getD (m+i) 0=ue.getD i 0:=fun i=>by
  have:=F.la
  rw[AkH,AkY (by omega),F.la,show m+i-m=i by omega,← AkH]
 refine⟨fun v w hv hw hb=>?_,fun v hv=>(F.at hwa hwe hv).2,fun v hv=>(F.at hwa hwe hv).1⟩
 unfold crs
 rcases hb with ⟨h1,h2⟩ | ⟨h1,h2⟩
 ·obtain⟨i,rfl⟩:∃ i,w=m+i:=⟨w-m,by omega⟩
  rw[if_pos h1,show m+i-m=i by omega]
  show(ua++ue).getD v 0=_∨(ua++ue).getD (m+i) 0=_
  rw[ga v h1,ge i]
  exact F.cr i v (by omega) h1
 ·obtain⟨i,rfl⟩:∃ i,v=m+i:=⟨v-m,by omega⟩
  rw[if_neg (by omega),show m+i-m=i by omega]
  show(ua++ue).getD (m+i) 0=_∨(ua++ue).getD w 0=_
  rw[ga w h2,ge i]
  exact(F.cr i w (by omega) h2).symm
theorem Ae7{va ve:List Nat}(A:Adk pic m n wa we ua ue)(B:Adk pic m n wa we va ve)(hwa:wa.length=m)(hwe:we.length=n):va=ua∧ve=ue:=by
 have Fa:=Xb A.1 hwa hwe
 have Fb:=Xb B.1 hwa hwe
 have la:(ua++ue).length=m+n:=by rw[AkG,A.1.la,A.1.le]
 have lb:(va++ve).length=m+n:=by rw[AkG,B.1.la,B.1.le]
 have key:∀ v,v<m+n→(va++ve).getD v 0=(ua++ue).getD v 0:=by
  intro v
  induction v using Nat.strongRecOn with
  | _ v ih =>
   intro hv
   have a:=A.2 _ Fb v hv fun u hu=>ih u hu (by omega)
   have b:=B.2 _ Fa v hv fun u hu=>(ih u hu (by omega)).symm
   have a:(ua++ue).getD v 0≤(va++ve).getD v 0:=a
   have b:(va++ve).getD v 0≤(ua++ue).getD v 0:=b
   omega
 have:=Aeo lb la key
 exact List.append_inj this (by rw[A.1.la,B.1.la])
end
theorem Vs{G:Prop}{R:Addr→Hp→Prop}(C:Addr→Hp→Prop)(main:(∀ x h,C x h→R x h)→G)(rest:∀ x h,C x h→R x h):G:=main rest
section
variable {P:Program}{w:World}{K:PySem.W.Frag}{mg:Str→Option Value}{base:Heap}{t:Adr}
def Adq (H:Hp)(p:Addr)(m n:Nat)(pc:List (List Nat))(ua ue:List Nat):Prop:=∃(l:Addr) (fs:List Nat),H p=some (.tup [.str "cut", .str (tx ua),.str (tx ue),.ref l])∧H l=some (.lst (vI (cI fs)))∧Lf (lows (DR pc ua ue) m) (List.range (m+n)) fs
def Ads (t:Adr)(H:Hp)(p:Addr)(m n:Nat)(pc:List (List Nat))(ua ue:List Nat):Prop:=∃(cf:List (List Nat)) (d dx a b c:Addr) (qs:List Addr) (tss:List (List Int)),Cl cf m n∧Fnd m n (sg2 (DR pc ua ue)) (sg2 cf)∧H p=some (.tup [.str "draft", .ref d,.str (tx ua),.str (tx ue)])∧IsD t H d dx a b c qs (nts (num (cols cf m))) tss (nts (num cf))∧Lts cf m tss
theorem Adq.same{H H':Hp}{p:Addr}{m n:Nat}{pc:List (List Nat)}{ua ue:List Nat}(C:Adq H p m n pc ua ue)(s:Ar H H'):Adq H' p m n pc ua ue:=by
 obtain⟨l,fs,h1,h2,h3⟩:=C
 exact⟨l,fs,s _ _ h1,s _ _ h2,h3⟩
theorem Ads.same{H H':Hp}{p:Addr}{m n:Nat}{pc:List (List Nat)}{ua ue:List Nat}(C:Ads t H p m n pc ua ue)(s:Ar H H'):Ads t H' p m n pc ua ue:=by
 obtain⟨cf,d,dx,a,b,c,qs,tss,h1,h2,h3,h4,h5⟩:=C
 exact⟨cf,d,dx,a,b,c,qs,tss,h1,h2,s _ _ h3,h4.same s,h5⟩
def Xc (K:PySem.W.Frag):Sp:=fun vs H Q _=>∃(a:Addr) (ns:List Int),vs=[.ref a]∧SqL K H a (vI ns)∧ns.length≤63∧∀ H',Q (.bl true) H'
theorem Xd{K:PySem.W.Frag}{H:Hp}{a:Addr}{ns:List Int}(hl:ns.length≤63)(hS:SqL K H a (ns.map V.int)):Xc K [.ref a] H (fun v _=>v=.bl true) fun _ _ _=>False:=⟨a,ns,rfl,hS,hl,fun _=>rfl⟩
theorem AgE(T:Txt K mg t):BP P w K mg base CX0 8 t.AeM t.Ac6 ["script"] (Xc K):=by
 have U0:BP P w K mg base CX0 1 t.Jt t.Ju _ _:=TV T
 have Nq:BP P w K mg base CX0 1 t.Jv t.Jw _ _:=TX T
 have U3:BP P w K mg base CX0 2 t.Jx t.Jy _ _:=Ub T
 have Ul:BP P w K mg base CX0 1 t.N8 t.NB _ _:=YB T
 have Aaa:BP P w K mg base CX0 1 t.NK t.NP _ _:=YD T
 have QJ:BP P w K mg base CX0 3 t.GX t.GZ _ _:=PX T
 have Qg:BP P w K mg base CX0 4 t.Gv t.Gw _ _:=Iv T
 have Xe:BP P w K mg base CX0 7 t.Kl t.Km _ _:=Ux T
 have Xf:BP P w K mg base CX0 1 t.Ko t.Kq _ _:=Uy T
 have Xg:BP P w K mg base CX0 2 t.Kr t.Ks _ _:=Uz T
 have Um:BP P w K mg base CX0 3 t.Ip t.Ir _ _:=Rv T
 have YT:BP P w K mg base CX0 2 t.Lq t.Lr _ _:=Xa T
 have KY:BP P w K mg base CX0 3 t.Ey t.Ez _ _:=K3 T
 refine T.law.F.ok Ex (fun vs H Q E h=>?_) (fun cdv A outer s H vs Q E hr h=>?_)
 ·obtain⟨a,ns,rfl,_⟩:=h
  rfl
 ·obtain⟨a,ns,rfl,hS,hl,k⟩:=h
  have hsz:sizeLine=16777216:=sizeLine_eq
  refine⟨_,(Ab (Al (i:=1) Ex.nd rfl (Or.inl rfl) (Av (U0.mono (by decide)) hr rfl T.Jj.m T.Jj.F.kp T.Jj.b .nil Bj (Aa (pv 0) (Aa Af Ac))))
   (Ab (Al (i:=2) Ex.nd rfl (Or.inl rfl) Af)
   (Ab (Bh (Ag Cz (Az CJ (Az Hd (Ai (Ao (K:=K)) (pv 1) Af (fun _ _=>rfl)) Af) Af) Af (Am _))
    (Ad (Al (i:=2) Ex.nd rfl (Or.inl rfl) Af))
    Aq)
   (Ab (Al (i:=3) Ex.nd rfl (Or.inl rfl) (Az Cj Af (Az CJ (Ai (Ao (K:=K)) (pv 1) Af (fun _ _=>rfl)) (pv 2))))
   (Ab (Al (i:=4) Ex.nd rfl (Or.inl rfl) (Az Cj Af (Az CJ (Ai (Ao (K:=K)) (pv 1) Af (fun _ _=>rfl)) (pv 2))))
   (Ab (Al (i:=5) Ex.nd rfl (Or.inl rfl) (Az Cj Af (Az CJ (Ai (Ao (K:=K)) (pv 1) Af (fun _ _=>rfl)) Af)))
   (Ab (Al (i:=6) Ex.nd rfl (Or.inl rfl) (Av (Nq.mono (by decide)) hr rfl T.Fj.m T.Fj.F.kp T.Fj.b .nil Bj (Aa (pv 1) (Aa Af (Aa (pv 3) (Aa (pv 5) Ac))))))
   (Ab (Al (i:=7) Ex.nd rfl (Or.inl rfl) (Av (Nq.mono (by decide)) hr rfl T.Fj.m T.Fj.F.kp T.Fj.b .nil Bj (Aa (pv 1) (Aa Af (Aa (pv 4) (Aa (pv 5) Ac))))))
   (Ab (Al (i:=8) Ex.nd rfl (Or.inl rfl) (Av (U3.mono (by decide)) hr rfl T.Jk.m T.Jk.F.kp T.Jk.b .nil Bj (Aa (pv 1) (Aa (pv 3) (Aa (pv 4) (Aa (pv 5) (Aa (pv 6) (Aa (pv 7) Ac))))))))
   (Ab (Al (i:=6) Ex.nd rfl (Or.inl rfl) (Av (Ul.mono (by decide)) hr rfl T.Iu.m T.Iu.F.kp T.Iu.b .nil Bj (Aa (pv 6) (Aa (pv 1) (Aa Af (Aa (Az CJ (Ai (Ao (K:=K)) (pv 1) Af (fun _ _=>rfl)) Af) (Aa (pv 5) Ac)))))))
   (Ab (Al (i:=7) Ex.nd rfl (Or.inl rfl) (Av (Ul.mono (by decide)) hr rfl T.Iu.m T.Iu.F.kp T.Iu.b .nil Bj (Aa (pv 7) (Aa (pv 1) (Aa Af (Aa (Az CJ (Ai (Ao (K:=K)) (pv 1) Af (fun _ _=>rfl)) Af) (Aa (pv 5) Ac)))))))
   (Ab (Al (i:=9) Ex.nd rfl (Or.inl rfl) (Ep (FQ (K:=K)) rfl T.G3 Fo (Aa (pv 8) Ac)))
   (Ab (Al (i:=10) Ex.nd rfl (Or.inl rfl) (Av (Xe.mono (by decide)) hr rfl T.Ky.m T.Ky.F.kp T.Ky.b .nil Bj (Aa (pv 9) (Aa (pv 6) (Aa (pv 7) Ac)))))
   (Ab (Bh (PW.pt (pw_or (Ag (R0 (K:=K) (hr.RM)) (pv 9) (pv 8) (Am _)) (pw_or (Cw (De (Ah (Dk (K:=K)) rfl T.Cd BV (Aa (pv 10) (Aa (FW (v:=.ty "tuple") rfl T.Ww RT rfl) Ac))))) (pw_or1 (Ag Em (Ah (Ak (K:=K)) rfl T.Bm Bc (Aa (pv 10) Ac)) Af (Am _))))))
    (Ad (Aw Cy))
    Aq)
   (Ab (Bh (Ag Cz (Ai (Bl (K:=K)) (pv 10) Af (fun _ _=>rfl)) Bg (Am _))
    (Ad (Aw (Av (QJ.mono (by decide)) hr rfl T.Gz.m T.Gz.F.kp T.Gz.b .nil Bj (Aa (pv 8) (Aa (Az Cp (pv 6) (pv 7)) (Aa (pv 10) Ac))))))
    Aq)
   (Ab (Bh (PW.pt (pw_or (Ag Dd (Ah (Ak (K:=K)) rfl T.Bm Bc (Aa (pv 10) Ac)) Af (Am _)) (pw_or1 (PW.pt (pw_and (Ag Dd (Ai (Bl (K:=K)) (pv 10) Af (fun _ _=>rfl)) Bg (Am _)) (pw_and1 (Ag Dd (Ai (Bl (K:=K)) (pv 10) Af (fun _ _=>rfl)) Bg (Am _))))))))
    (Ad (Aw Cy))
    Aq)
   (Ab (Al (i:=11) Ex.nd rfl (Or.inl rfl) (CW (Aa (Ai (Bl (K:=K)) (pv 10) Af (fun _ _=>rfl)) (Aa (Ai (Bl (K:=K)) (pv 10) Af (fun _ _=>rfl)) Ac))))
   (Ab (Bh (Ag Cz (Ai (Bl (K:=K)) (pv 10) Af (fun _ _=>rfl)) Bg (Am _))
    (Ad (Al (i:=11) Ex.nd rfl (Or.inl rfl) (CW (Aa (Ai (Bl (K:=K)) (pv 10) Af (fun _ _=>rfl)) (Aa (Ai (Bl (K:=K)) (pv 10) Af (fun _ _=>rfl)) Ac)))))
    Aq)
   (Ab (Bh (Cw (De (Av (Aaa.mono (by decide)) hr rfl T.PJ.m T.PJ.F.kp T.PJ.b .nil Bj (Aa (pv 8) (Aa (Az Cp (pv 6) (pv 7)) (Aa (Ai (Ao (K:=K)) (pv 11) Af (fun _ _=>rfl)) (Aa (Ai (Ao (K:=K)) (pv 11) Af (fun _ _=>rfl)) Ac)))))))
    (Ad (Aw Cy))
    Aq)
   (Ab (Bh (Ag (AfG (K:=K) (hr.Ach)) (Av (Qg.mono (by decide)) hr rfl T.Dc.m T.Dc.F.kp T.Dc.b .nil Bj (Aa (Ep (FQ (K:=K)) rfl T.G3 Fo (Aa (pv 8) Ac)) (Aa (pv 6) (Aa (pv 7) Ac)))) (Gn (Aa Bg (Aa (Ai (Ao (K:=K)) (pv 11) Af (fun _ _=>rfl)) (Aa (Ai (Ao (K:=K)) (pv 11) Af (fun _ _=>rfl)) Ac)))) (Am _))
    (Ad (Aw Cy))
    Aq)
   (Ab (Al (i:=12) Ex.nd rfl (Or.inl rfl) (Av (Xf.mono (by decide)) hr rfl T.Kz.m T.Kz.F.kp T.Kz.b .nil Bj (Aa (pv 8) (Aa (Ai (Ao (K:=K)) (pv 11) Af (fun _ _=>rfl)) (Aa (Ai (Ao (K:=K)) (pv 11) Af (fun _ _=>rfl)) Ac)))))
   (Ab (Bh (Ag Cz (Ai (Bl (K:=K)) (pv 10) Af (fun _ _=>rfl)) Bg (Am _))
    (Ad (Aw (Av (Xg.mono (by decide)) hr rfl T.K1.m T.K1.F.kp T.K1.b .nil Bj (Aa (pv 12) (Aa (Ai (Bl (K:=K)) (pv 10) Af (fun _ _=>rfl)) Ac)))))
    Aq)
   (Ab (Al (i:=13) Ex.nd rfl (Or.inl rfl) (Av (Um.mono (by decide)) hr rfl T.HN.m T.HN.F.kp T.HN.b .nil Bj (Aa (Ai (Bl (K:=K)) (pv 10) Af (fun _ _=>rfl)) (Aa (pv 3) (Aa (pv 4) Ac)))))
   (Ab (Bh (PW.pt (pw_or (Ag Zc (pv 13) Fz (Am _)) (pw_or1 (Cw (De (Av (YT.mono (by decide)) hr rfl T.Mx.m T.Mx.F.kp T.Mx.b .nil Bj (Aa (Ai (Bl (K:=K)) (pv 10) Af (fun _ _=>rfl)) (Aa (pv 13) Ac))))))))
    (Ad (Aw Cy))
    Aq)
   (Ad (Aw (Av (KY.mono (by decide)) hr rfl T.DX.m T.DX.F.kp T.DX.b .nil Bj (Aa (pv 12) (Aa (pv 13) (Aa (Ai (Ao (K:=K)) (pv 1) Af (fun _ _=>rfl)) Ac)))))))))))))))))))))))))))))),?_⟩
  refine⟨_,rfl,a,ns,63,rfl,hS,hl,by decide,by decide,fun ln ks H1 s1 nln hln hN=>?_⟩
  obtain⟨c0,e0,_⟩:=hN.at (i:=0) (by decide) (by decide)
  obtain⟨c1,e1,_⟩:=hN.at (i:=1) (by decide) (by decide)
  obtain⟨c2,e2,_⟩:=hN.at (i:=2) (by decide) (by decide)
  obtain⟨c4,e4,_⟩:=hN.at (i:=4) (by decide) (by decide)
  obtain⟨c5,e5,_⟩:=hN.at (i:=5) (by decide) (by decide)
  have gn:SqL K H1 ln (vI ks):=SqL.of hln
  obtain⟨sp,esp,sp1,sp6⟩:=Agc c0 (z:=6) (by decide) (y:=6) (by decide)
  refine CG (σ':=[some (.ref a),some (.ref ln),none,none,none,none,none,none,none,none,none,none,none,none]) rfl ?_
  refine AgD (σ':=[some (.ref a),some (.ref ln),some (.int 4),none,none,none,none,none,none,none,none,none,none,none]) rfl ?_
  apply PQ (fun q=>1≤q∧q≤39)
  ·intro rest
   refine⟨_,rfl,_,_,_,_,rfl,rfl,gn,e4,_,_,rfl,rfl,⟨by decide,by decide⟩,_,_,rfl,rfl,(by show(0:Int)<8;decide),rfl,_,rfl,?_⟩
   refine Dg (fun _=>?_) (fun _=>?_)
   ·obtain⟨q,eq⟩:∃ q:Nat,q=7:=⟨_,rfl⟩
    refine CG (σ':=[some (.ref a),some (.ref ln),some (.int (q:Int)),none,none,none,none,none,none,none,none,none,none,none]) (by rw[eq];rfl) ?_
    exact rest q ⟨by rw[eq];decide,by rw[eq];decide⟩
   ·exact rest 4 ⟨by decide,by decide⟩
  rintro q ⟨q1,q40⟩
  obtain⟨m,em,m2,m40⟩:=AaI c1 (z:=(q:Int)) (by omega) (y:=40) (by omega)
  obtain⟨n,en,n2,n40⟩:=AaI c2 (z:=(q:Int)) (by omega) (y:=40) (by omega)
  refine⟨_,rfl,_,_,_,_,rfl,rfl,gn,e1,_,rfl,_,_,rfl,rfl,(by omega),_,_,rfl,rfl,?_⟩
  dsimp only
  rw[em]
  refine⟨_,rfl,_,_,_,_,rfl,rfl,gn,e2,_,rfl,_,_,rfl,rfl,(by omega),_,_,rfl,rfl,?_⟩
  dsimp only
  rw[en]
  refine⟨_,rfl,_,_,_,_,rfl,rfl,gn,e0,_,_,rfl,rfl,(by show(0:Int)<6;decide),_,_,rfl,rfl,?_⟩
  dsimp only
  rw[esp]
  refine⟨_,rfl,_,rfl,_,rfl,ln,ks,0,m,sp,rfl,gn,hN,m40,sp1,sp6,fun wa H2 s2 hwl hwa=>?_⟩
  refine⟨_,rfl,_,rfl,_,rfl,ln,ks,1,n,sp,rfl,s2.seq gn,hN,n40,sp1,sp6,fun we H3 s3 hel hwe=>?_⟩
  have g3:=s3.seq (s2.seq gn)
  refine⟨_,rfl,_,rfl,_,rfl,_,rfl,_,rfl,_,rfl,ln,ks,m,n,sp,wa,we,rfl,g3,hN,(by omega),m40,(by omega),n40,sp1,sp6,hwl,hel,hwa,hwe,fun lp pc H4 s4 nlp hp4 Pc=>?_⟩
  have g4:=s4.seq g3
  refine CG (σ':=[some (.ref a),some (.ref ln),some (.int (q:Int)),some (.int (m:Int)),some (.int (n:Int)),some (.int (sp:Int)),some (.str (tx wa)),some (.str (tx we)),some (.ref lp),none,none,none,none,none]) rfl ?_
  refine⟨_,rfl,_,rfl,_,rfl,_,_,_,_,rfl,rfl,g4,e4,_,_,rfl,rfl,(by show(0:Int)<4;decide),_,rfl,ln,ks,wa,2,sp,_,rfl,g4,hN,by omega,sp1,sp6,hwa,fun ra ra1 Aiz=>?_⟩
  refine⟨_,rfl,_,rfl,_,rfl,_,_,_,_,rfl,rfl,g4,e4,_,_,rfl,rfl,(by show(0:Int)<4;decide),_,rfl,ln,ks,we,4,sp,_,rfl,g4,hN,by omega,sp1,sp6,hwe,fun re re1 Ai0=>?_⟩
  have lra:ra.length=m:=by omega
  have lre:re.length=n:=by omega
  refine CG (σ':=[some (.ref a),some (.ref ln),some (.int (q:Int)),some (.int (m:Int)),some (.int (n:Int)),some (.int (sp:Int)),some (.str (tx ra)),some (.str (tx re)),some (.ref lp),none,none,none,none,none]) rfl ?_
  refine⟨_,rfl,_,_,rfl,.inl (SqL.of hp4),fun lh nh=>?_⟩
  have s5:Ar H4 (upd H4 lh (.lst (vS pc))):=.upd nh
  have hh5:(upd H4 lh (.lst (vS pc))) lh=some (.lst (vS pc)):=Ae
  generalize upd H4 lh (.lst (vS pc))=H5 at s5 hh5 ⊢
  have hp5:=s5 _ _ hp4
  have g5:=s5.seq g4
  have eqq:(!eqL (vS pc) (vS pc))=false:=by rw[Oq (Ka _)];rfl
  apply Vs (fun fp H6=>Ar H5 H6∧∃ ua ue,Adk pc m n ra re ua ue∧Hc (DR pc ua ue) m n∧(Adq H6 fp m n pc ua ue∨Ads t H6 fp m n pc ua ue))
  ·intro rest
   refine⟨_,rfl,_,rfl,_,rfl,lh,pc,m,n,ra,re,rfl,SqL.of hh5,Pc,m2,n2,lra,lre,Aiz,Ai0,fun nO p lc s0 H6 s6 h0 hp6 Cn=>?_,fun ua ue L1 Hh nS p l fs H6 s6 hp6 hl6 Lf6=>?_,fun ua ue L1 Hh cf Ccf Ff p d dx a' b' c' qs tss H6 s6 hp6 D Lt=>?_⟩
   ·refine CG (σ':=[some (.ref a),some (.ref ln),some (.int (q:Int)),some (.int (m:Int)),some (.int (n:Int)),some (.int (sp:Int)),some (.str (tx ra)),some (.str (tx re)),some (.ref lp),some (.ref lh),some (.ref p),none,none,none]) rfl ?_
    refine⟨_,rfl,_,rfl,_,_,_,_,rfl,rfl,SqL.of (s6 _ _ hh5),SqL.of (s6 _ _ hp5),Ka _,Ka _,_,rfl,?_⟩
    dsimp only
    rw[eqq]
    refine Ci ?_
    refine⟨_,rfl,_,_,true,.tup hp6,.inl ⟨_,rfl,Eo K _⟩,_,rfl,Ci ?_⟩
    refine⟨_,rfl,_,_,rfl,.inr (SqT.of hp6),_,_,rfl,rfl,_,rfl,?_⟩
    refine Cv (by show ¬((3:Int)<3);decide) ?_
    refine⟨_,rfl,_,_,_,_,rfl,rfl,SqT.of hp6,Bb (by decide) rfl,rfl,_,rfl,?_⟩
    refine Gi rfl ?_
    refine⟨_,rfl,_,rfl,_,rfl,_,_,rfl,rfl,(by rw[An,An];omega),?_⟩
    rw[GD]
    exact⟨_,rfl,lp,p,lc,pc,m,n,ra++re,s0,rfl,SqL.of (s6 _ _ hp5),Pc,(by rw[AkG];omega),h0,hp6,Cn,k _⟩
   ·exact rest p H6 ⟨s6,ua,ue,L1,Hh,.inl ⟨l,fs,hp6,hl6,Lf6⟩⟩
   ·exact rest p H6 ⟨s6,ua,ue,L1,Hh,.inr ⟨cf,d,dx,a',b',c',qs,tss,Ccf,Ff,hp6,D,Lt⟩⟩
  rintro fp H6 ⟨s6,ua,ue,L1,Hh,FT⟩
  have u6:=s5.trans s6
  have hp6:=s6 _ _ hp5
  have g6:=s6.seq g5
  refine CG (σ':=[some (.ref a),some (.ref ln),some (.int (q:Int)),some (.int (m:Int)),some (.int (n:Int)),some (.int (sp:Int)),some (.str (tx ra)),some (.str (tx re)),some (.ref lp),some (.ref lh),some (.ref fp),none,none,none]) rfl ?_
  refine⟨_,rfl,_,rfl,_,_,_,_,rfl,rfl,SqL.of (s6 _ _ hh5),SqL.of hp6,Ka _,Ka _,_,rfl,?_⟩
  dsimp only
  rw[eqq]
  refine Ci ?_
  obtain⟨wd,f1,f2,f3,hfp,hwd⟩:∃(wd:Str) (f1 f2 f3:V),H6 fp=some (.tup [.str wd,f1,f2,f3])∧(wd = "cut" ∨ wd = "draft"):=by
   rcases FT with ⟨l,fs,h,_⟩ | ⟨cf,d,dx,a',b',c',qs,tss,_,_,h,_⟩
   ·exact⟨_,_,_,_,h,.inl rfl⟩
   ·exact⟨_,_,_,_,h,.inr rfl⟩
  refine⟨_,rfl,_,_,true,.tup hfp,.inl ⟨_,rfl,Eo K _⟩,_,rfl,Ci ?_⟩
  refine⟨_,rfl,_,_,rfl,.inr (SqT.of hfp),_,_,rfl,rfl,_,rfl,?_⟩
  refine Cv (by show ¬((4:Int)<3);decide) ?_
  refine⟨_,rfl,_,_,_,_,rfl,rfl,SqT.of hfp,Bb (by decide) rfl,rfl,_,rfl,?_⟩
  refine Cv (fun z=>by rcases hwd with e | e <;> rw[e] at z <;> revert z <;> decide +kernel) ?_
  apply Lw True
  ·intro rest
   refine⟨_,rfl,_,_,rfl,.inr (SqT.of hfp),rfl,_,rfl,?_⟩
   refine CQ rfl ?_
   refine⟨_,rfl,_,_,_,_,rfl,rfl,SqT.of hfp,Bb (by decide) rfl,rfl,_,rfl,?_⟩
   rcases hwd with e | e
   ·rw[e]
    refine CQ rfl ?_
    exact Ci (rest trivial)
   ·rw[e]
    refine HY (fun z=>by revert z;decide +kernel) ?_
    refine⟨_,rfl,_,_,_,_,rfl,rfl,SqT.of hfp,Bb (by decide) rfl,rfl,_,rfl,?_⟩
    rw[e]
    refine CQ rfl ?_
    exact rest trivial
  intro _
  apply Vs (fun lt H7=>Ar H6 H7∧H7 lt=some (.lst [.str (tx ua),.str (tx ue)]))
  ·intro rest
   refine⟨_,rfl,_,_,_,_,rfl,rfl,SqT.of hfp,Bb (by decide) rfl,_,rfl,_,_,_,_,rfl,rfl,SqT.of hfp,Bb (by decide) rfl,(by show 2≤sizeLine;omega),fun lt nlt=>?_⟩
   have s7:=Ar.upd (o:=.lst [f1,f2]) nlt
   refine CG (σ':=[some (.ref a),some (.ref ln),some (.int (q:Int)),some (.int (m:Int)),some (.int (n:Int)),some (.int (sp:Int)),some (.str (tx ra)),some (.str (tx re)),some (.ref lp),some (.ref lh),some (.ref fp),some (.ref lt),none,none]) rfl ?_
   have FT':=FT
   rcases FT' with ⟨l,fs,h,_⟩ | ⟨cf,d,dx,a',b',c',qs,tss,_,_,h,_⟩
   ·refine⟨_,rfl,_,_,_,_,rfl,rfl,SqT.of (s7 _ _ h),Bb (by decide) rfl,rfl,_,rfl,?_⟩
    refine Cv (fun z=>by revert z;decide +kernel) ?_
    have Ai1:(upd H6 lt (.lst [f1,f2])) lt=some (.lst [.str (tx ua),.str (tx ue)]):=by
     rw[hfp] at h
     injection h with h
     injection h with h
     injection h with _ h
     injection h with h1 h
     injection h with h2 h
     rw[Ae,h1,h2]
    generalize upd H6 lt (.lst [f1,f2])=H7 at s7 Ai1 ⊢
    exact rest lt H7 ⟨s7,Ai1⟩
   ·refine⟨_,rfl,_,_,_,_,rfl,rfl,SqT.of (s7 _ _ h),Bb (by decide) rfl,rfl,_,rfl,?_⟩
    refine Gi rfl ?_
    refine⟨_,rfl,_,_,_,_,rfl,rfl,SqT.of (s7 _ _ h),Bb (by decide) rfl,_,rfl,_,_,_,_,rfl,rfl,SqT.of (s7 _ _ h),Bb (by decide) rfl,(by show 2≤sizeLine;omega),fun lu nlu=>?_⟩
    refine CG (σ':=[some (.ref a),some (.ref ln),some (.int (q:Int)),some (.int (m:Int)),some (.int (n:Int)),some (.int (sp:Int)),some (.str (tx ra)),some (.str (tx re)),some (.ref lp),some (.ref lh),some (.ref fp),some (.ref lu),none,none]) rfl ?_
    have s8:=s7.new (o:=.lst [.str (tx ua),.str (tx ue)]) nlu
    have Ai2:(upd (upd H6 lt (.lst [f1,f2])) lu (.lst [.str (tx ua),.str (tx ue)])) lu=some (.lst [.str (tx ua),.str (tx ue)]):=Ae
    generalize upd (upd H6 lt (.lst [f1,f2])) lu (.lst [.str (tx ua),.str (tx ue)])=H8 at s8 Ai2 ⊢
    exact rest lu H8 ⟨s8,Ai2⟩
  rintro lt H7 ⟨s7,hlt⟩
  have hp7:=s7 _ _ hp6
  have g7:=s7.seq g6
  have FT7:Adq H7 fp m n pc ua ue∨Ads t H7 fp m n pc ua ue:=FT.elim (fun h=>.inl (h.same s7)) fun h=>.inr (h.same s7)
  have i0:atI [V.str (tx ua),V.str (tx ue)] 0=some (.str (tx ua)):=rfl
  have i1:atI [V.str (tx ua),V.str (tx ue)] 1=some (.str (tx ue)):=rfl
  refine⟨_,rfl,_,rfl,_,rfl,_,_,rfl,rfl,(by rw[An,An];omega),?_⟩
  rw[GD]
  refine⟨_,rfl,_,_,_,_,rfl,rfl,SqL.of hlt,i0,_,rfl,_,_,_,_,rfl,rfl,SqL.of hlt,i1,lp,pc,m,n,ra,re,ua,ue,rfl,SqL.of hp7,Pc,lra,lre,L1.1,_,rfl,Ci ?_⟩
  refine⟨_,rfl,_,_,rfl,.inl (SqL.of hp7),fun l2 nl2=>?_⟩
  have s8:=Ar.upd (o:=.lst (vS pc)) nl2
  have hl8:(upd H7 l2 (.lst (vS pc))) l2=some (.lst (vS pc)):=Ae
  generalize upd H7 l2 (.lst (vS pc))=H8 at s8 hl8 ⊢
  refine⟨_,rfl,_,rfl,l2,pc,m,n,ra,re,rfl,SqL.of hl8,Pc,lra,lre,Aiz,Ai0,fun p9 H9 va ve s9 hp9 Fv Xv=>?_,fun nO=>absurd (Xb L1.1 lra lre) (nO _)⟩
  obtain⟨rfl,rfl⟩:=Ae7 L1 ⟨Fv,Xv⟩ lra lre
  have u9:=s8.trans s9
  have Ai3:=u9 _ _ hlt
  refine⟨_,rfl,_,_,_,_,rfl,rfl,SqL.of Ai3,i0,_,rfl,_,_,_,_,rfl,rfl,SqL.of Ai3,i1,(by show 3≤sizeLine;omega),fun tp ntp=>?_⟩
  have s10:=Ar.upd (o:=.tup [.str "threads", .str (tx va),.str (tx ve)]) ntp
  refine⟨_,_,_,rfl,rfl,SqT.of (s10 _ _ hp9),SqT.of Ae,(fun x hx=>by simp only [Aln,Alo,or_false] at hx;rcases hx with e | e | e <;> rw[e] <;> rfl),_,rfl,Ci ?_⟩
  have u10:=u9.trans s10
  generalize upd H9 tp (.tup [.str "threads", .str (tx va),.str (tx ve)])=H10 at s10 u10 ⊢
  have Afb:=u10 _ _ hlt
  refine⟨_,rfl,_,rfl,_,_,_,_,rfl,rfl,SqL.of Afb,i0,_,rfl,_,_,_,_,rfl,rfl,SqL.of Afb,i1,lp,pc,m,n,va,ve,rfl,SqL.of (u10 _ _ hp7),Pc.rct,m40,n40,L1.1.la,L1.1.le,fun hl H11 s11 hhl=>?_⟩
  have u11:=u10.trans s11
  refine CG (σ':=[some (.ref a),some (.ref ln),some (.int (q:Int)),some (.int (m:Int)),some (.int (n:Int)),some (.int (sp:Int)),some (.str (tx ra)),some (.str (tx re)),some (.ref lp),some (.ref lh),some (.ref fp),some (.ref lt),some (.ref hl),none]) rfl ?_
  rcases FT7 with Cu | Dr
  ·obtain⟨l,fs,h1,h2,h3⟩:=Cu.same u11
   refine⟨_,rfl,_,_,_,_,rfl,rfl,SqT.of h1,Bb (by decide) rfl,rfl,_,rfl,?_⟩
   refine Gi rfl ?_
   exact⟨_,rfl,_,rfl,_,_,_,_,rfl,rfl,SqT.of h1,Bb (by decide) rfl,hl,l,DR pc va ve,m,n,fs,rfl,SqL.of hhl,Hh,h2,h3,k _⟩
  ·obtain⟨cf,d,dx,a',b',c',qs,tss,Ccf,Ff,h1,D,Lt⟩:=Dr.same u11
   refine⟨_,rfl,_,_,_,_,rfl,rfl,SqT.of h1,Bb (by decide) rfl,rfl,_,rfl,?_⟩
   refine Cv (fun z=>by revert z;decide +kernel) ?_
   refine⟨_,rfl,_,_,_,_,rfl,rfl,SqT.of h1,Bb (by decide) rfl,_,rfl,_,rfl,d,dx,a',b',c',qs,tss,cf,m,n,rfl,D,Ccf,Lt,fun lr H12 s12 nlr hlr=>?_⟩
   refine CG (σ':=[some (.ref a),some (.ref ln),some (.int (q:Int)),some (.int (m:Int)),some (.int (n:Int)),some (.int (sp:Int)),some (.str (tx ra)),some (.str (tx re)),some (.ref lp),some (.ref lh),some (.ref fp),some (.ref lt),some (.ref hl),some (.ref lr)]) rfl ?_
   refine⟨_,rfl,rfl,_,rfl,?_⟩
   refine Cv (fun z=>by cases z) ?_
   have h12:=s12 _ _ h1
   refine⟨_,rfl,_,_,_,_,rfl,rfl,SqT.of h12,Bb (by decide) rfl,_,rfl,d,dx,a',b',c',lr,qs,tss,cf,m,n,rfl,D.same s12,hlr,Ccf,Lt,fun H13 s13=>?_⟩
   refine⟨_,rfl,Ci ?_⟩
   have g13:=s13.seq (s12.seq (u11.seq g7))
   exact⟨_,rfl,_,rfl,_,rfl,_,_,_,_,rfl,rfl,g13,e5,hl,lr,DR pc va ve,cf,m,n,c5,rfl,(s12.trans s13) _ _ hhl,s13 _ _ hlr,Hh,Ccf,Ff,fun H14 _=>k _⟩
end
theorem AgF{P:Program}{w:World}{K:PySem.W.Frag}{mg:Str→Option Value}{fa:Addr}{t:Adr}(hfa:mg "law" = some (.ref fa)) (T:Txt K mg t):∃ fd:FuncData,(∀(s:Shared) (v:Value),BindsTo s fd ⟨[v],[]⟩ [("script", v)])∧∀ base:Heap,K.In base→base.Ns mainGlobals mg→BP P w K mg base CX0 8 fa fd ["script"] (Xc K):=by
 have e:=hfa.symm.trans T.law.m
 injection e with e
 injection e with e
 subst e
 obtain⟨oc,od,kV,doc,pm,an,cdv,ct,osl,e1,lk,hcd⟩:=T.law.F.ex
 exact⟨t.Ac6,fun s v=>by rw[e1];exact .of_eq rfl,fun base _ _=>AgE T⟩
end Mine
open PySem PySem.W PyProof.Rows
def PySem.W.Fast.tw13344748337061986502:=()
def PySem.W.Fast.tw14316102609650673408:=()
def PySem.W.Fast.tw13839161288658809912:=()
def PySem.W.Fast.tw14148583837721024982:=()
def PySem.W.Fast.tw10399043361063467110:=()
def PySem.W.Fast.tw7647534479371310876:=()
def PySem.W.Fast.tw7665489108624021003:=()
def PySem.W.Fast.tw10702357692879219427:=()
def PySem.W.Fast.tw7128837044536977872:=()
def PySem.W.Fast.tw4916921690214749804:=()
def PySem.W.Fast.tw9138346417650697141:=()
def PySem.W.Fast.tw7858850812379594423:=()
def PySem.W.Fast.tw10066167845258141068:=()
def PySem.W.Fast.tw11664534695303117726:=()
def PySem.W.Fast.tw864240936064778107:=()
def PySem.W.Fast.tw14771910939228671828:=()
def PySem.W.Fast.tw9796688266538183492:=()
def PySem.W.Fast.tw16352641294030319984:=()
def PySem.W.Fast.tw13117001400414474886:=()
def PySem.W.Fast.tw8567000942320962024:=()
def PySem.W.Fast.tw11728423090555160285:=()
def PySem.W.Fast.tw12370057021674749372:=()
def PySem.W.Fast.tw14369337338231200053:=()
def PySem.W.Fast.tw472218382742757107:=()
def PySem.W.Fast.tw14675913298271368077:=()
def PySem.W.Fast.tw5844868276108604696:=()
def PySem.W.Fast.tw6894664507944962429:=()
def PySem.W.Fast.tw5817246309058756018:=()
def PySem.W.Fast.tw12161526864300865598:=()
def PySem.W.Fast.tw8983083416412536565:=()
def PySem.W.Fast.tw9677635756416274759:=()
def PySem.W.Fast.tw14264957550455679312:=()
def PySem.W.Fast.tw14324909444863142438:=()
def PySem.W.Fast.tw3673621520444220093:=()
def PySem.W.Fast.tw16233706866423139824:=()
def PySem.W.Fast.tw9068484853867598197:=()
def PySem.W.Fast.tw12807921955473957310:=()
def PySem.W.Fast.tw18328553758150237874:=()
def PySem.W.Fast.tw9610998581242506653:=()
def PySem.W.Fast.tw2815506403289162255:=()
def PySem.W.Fast.tw14619979717928285352:=()
def PySem.W.Fast.tw7837150955241838447:=()
def PySem.W.Fast.tw14368869584274399127:=()
def PySem.W.Fast.tw9785181142046880328:=()
def PySem.W.Fast.tw17692692956992393240:=()
def PySem.W.Fast.tw5518599927054412108:=()
def PySem.W.Fast.tw12696067405498283960:=()
def PySem.W.Fast.tw16181214783901663861:=()
def PySem.W.Fast.tw1217520226080574853:=()
def PySem.W.Fast.tw559457694333159933:=()
def PySem.W.Fast.tw10256347824577589522:=()
def PySem.W.Fast.tw5101454459021450750:=()
def PySem.W.Fast.tw1177635821125804333:=()
def PySem.W.Fast.tw12290673784879322769:=()
def PySem.W.Fast.tw9105074277533140302:=()
def PySem.W.Fast.tw7982491641289501384:=()
def PySem.W.Fast.tw7404532353777598652:=()
def PySem.W.Fast.tw399636716883765683:=()
def PySem.W.Fast.tw12224102577775100558:=()
def PySem.W.Fast.tw9722927667009886234:=()
def PySem.W.Fast.tw10947164054104997115:=()
def PySem.W.Fast.tw17491559017261250785:=()
def PySem.W.Fast.tw11755372068524678711:=()
def PySem.W.Fast.tw8198726914086794434:=()
def PySem.W.Fast.tw14665876046194975782:=()
def PySem.W.Fast.tw9771608241339849739:=()
def PySem.W.Fast.tw4271264808193000399:=()
def PySem.W.Fast.tw6838847675120369347:=()
def PySem.W.Fast.tw13112190995986837113:=()
def PySem.W.Fast.tw14547009460165716848:=()
def PySem.W.Fast.tw14826227978097815689:=()
def PySem.W.Fast.tw1756190157694932098:=()
def PySem.W.Fast.tw3077552227717162342:=()
def PySem.W.Fast.tw9174066435873402722:=()
def PySem.W.Fast.tw4481241711380210905:=()
def PySem.W.Fast.tw2817265534116495209:=()
def PySem.W.Fast.tw6996503979703104746:=()
def PySem.W.Fast.tw8973127807925007657:=()
def PySem.W.Fast.tw4297052568916356764:=()
def PySem.W.Fast.tw16832473021572457267:=()
def PySem.W.Fast.tw5798936693500546238:=()
def PySem.W.Fast.tw8004565864552178238:=()
def PySem.W.Fast.tw14559631032095983099:=()
def PySem.W.Fast.tw11022562289027822240:=()
def PySem.W.Fast.tw3211781649482695983:=()
def PySem.W.Fast.tw12223945895732489907:=()
def PySem.W.Fast.tw3957542791901377144:=()
def PySem.W.Fast.tw1443046568552614923:=()
def PySem.W.Fast.tw16614105512100468872:=()
def PySem.W.Fast.tw7915629585755058829:=()
def PySem.W.Fast.tw14295037001599316809:=()
def PySem.W.Fast.tw1462250655414936223:=()
def PySem.W.Fast.tw12474296370362285406:=()
def PySem.W.Fast.tw2994139628187587046:=()
def PySem.W.Fast.tw15198134035394857118:=()
def PySem.W.Fast.tw5297643982813461019:=()
def PySem.W.Fast.tw89746182440982308:=()
def PySem.W.Fast.tw13314880697033343261:=()
def PySem.W.Fast.tw3489964149014166944:=()
def PySem.W.Fast.tw13771972874002420577:=()
def PySem.W.Fast.tw1877721258886225927:=()
def PySem.W.Fast.tw6391034041451764723:=()
def PySem.W.Fast.tw11034064360808465314:=()
def PySem.W.Fast.tw369310787894621371:=()
def PySem.W.Fast.tw1165411064751394195:=()
def PySem.W.Fast.tw10972250390715608567:=()
def PySem.W.Fast.tw8663700414536836506:=()
def PySem.W.Fast.tw6856081386713956509:=()
def PySem.W.Fast.tw2389007604399680948:=()
def PySem.W.Fast.tw4743759028812702538:=()
def PySem.W.Fast.tw15118174390255348009:=()
def PySem.W.Fast.tw5150713084102653391:=()
def PySem.W.Fast.tw14104486553889480183:=()
def PySem.W.Fast.tw9081833402381780880:=()
def PySem.W.Fast.tw1411428502363800414:=()
def PySem.W.Fast.tw14842625792373565988:=()
def PySem.W.Fast.tw18176740671006839759:=()
def PySem.W.Fast.tw6267844071323859462:=()
def PySem.W.Fast.tw15699031006466228335:=()
def PySem.W.Fast.tw16474524065167601278:=()
def PySem.W.Fast.tw11521485185618392853:=()
def PySem.W.Fast.tw3990649434319646837:=()
def PySem.W.Fast.tw4693512423778117058:=()
def PySem.W.Fast.tw5279732894868334700:=()
def PySem.W.Fast.tw13127985247417228663:=()
def PySem.W.Fast.tw7651840675245540839:=()
def PySem.W.Fast.tw11607150636808765836:=()
def PySem.W.Fast.tw1346827348249191260:=()
def PySem.W.Fast.tw13805001006726589058:=()
def PySem.W.Fast.tw2251232664188049301:=()
def PySem.W.Fast.tw2778665726622221786:=()
def PySem.W.Fast.tw5170605135149882390:=()
def PySem.W.Fast.tw1558534206649765494:=()
def PySem.W.Fast.tw17535939911225272894:=()
def PySem.W.Fast.tw1438570720823733320:=()
def PySem.W.Fast.tw13577324363496094005:=()
def PySem.W.Fast.tw13496483523691694019:=()
def PySem.W.Fast.tw1251149431039253129:=()
def PySem.W.Fast.tw9044479076315535410:=()
def PySem.W.Fast.tw8746926534035540926:=()
def PySem.W.Fast.tw14805809328828122549:=()
def PySem.W.Fast.tw5226720938702068566:=()
def PySem.W.Fast.tw9278716005275566778:=()
def PySem.W.Fast.tw10628070571790279445:=()
def PySem.W.Fast.tw8208360250276959590:=()
def PySem.W.Fast.tw7397379484805398935:=()
def PySem.W.Fast.tw9916519429204964346:=()
def PySem.W.Fast.tw16130085434185092620:=()
def PySem.W.Fast.tw4310093978641587232:=()
def PySem.W.Fast.tw18156988020644467306:=()
def PySem.W.Fast.tw4114713670974938204:=()
def PySem.W.Fast.tw7970775600108623479:=()
def PySem.W.Fast.tw4515975085356615495:=()
def PySem.W.Fast.tw17802648245800115253:=()
def PySem.W.Fast.tw4008423328638420639:=()
def PySem.W.Fast.tw3541367853189818435:=()
def PySem.W.Fast.tw12832048609772190076:=()
def PySem.W.Fast.tw2157828614639795920:=()
def PySem.W.Fast.tw3872126169222239331:=()
def PySem.W.Fast.tw3562496222714049252:=()
def PySem.W.Fast.tw1018994245257830723:=()
def PySem.W.Fast.tw1702272859262318439:=()
def PySem.W.Fast.tw13950297481471759849:=()
def PySem.W.Fast.tw6575073791810138452:=()
def PySem.W.Fast.tw7697274686132012014:=()
def PySem.W.Fast.tw10738935624939909281:=()
def PySem.W.Fast.tw17040496220887935627:=()
def PySem.W.Fast.tw9789670552362482684:=()
def PySem.W.Fast.tw4299223564304408895:=()
def PySem.W.Fast.tw693545502412355627:=()
def PySem.W.Fast.tw13351302567700304002:=()
def PySem.W.Fast.tw9234873377665306986:=()
def PySem.W.Fast.tw16735327782364109252:=()
def PySem.W.Fast.tw5500767917846164698:=()
def PySem.W.Fast.tw7183463337371349424:=()
def PySem.W.Fast.tw4595288939794118214:=()
def PySem.W.Fast.tw775152454618852494:=()
def PySem.W.Fast.tw9066847016644102008:=()
def PySem.W.Fast.tw14095222594237959788:=()
def PySem.W.Fast.tw16320243429868620669:=()
def PySem.W.Fast.tw12725227214856168853:=()
def PySem.W.Fast.tw14721188610826264399:=()
def PySem.W.Fast.tw1986660229801425739:=()
def PySem.W.Fast.tw7080643832031152267:=()
def PySem.W.Fast.tw7972515605444171381:=()
def PySem.W.Fast.tw43981995538605467:=()
def PySem.W.Fast.tw17238164523061024448:=()
def PySem.W.Fast.tw10010906871616685086:=()
def PySem.W.Fast.tw18156675176002178284:=()
def PySem.W.Fast.tw637537483169480660:=()
def PySem.W.Fast.tw16058161857367467683:=()
def PySem.W.Fast.tw16479951539925537732:=()
def PySem.W.Fast.tw17061639570221491171:=()
def PySem.W.Fast.tw10086979656461532036:=()
def PySem.W.Fast.tw11354777731911220162:=()
def PySem.W.Fast.tw5356164784809091885:=()
def PySem.W.Fast.tw6070082293604873206:=()
def PySem.W.Fast.tw12426109184431370384:=()
def PySem.W.Fast.tw14188508810401857833:=()
def PySem.W.Fast.tw15984379773929784500:=()
def PySem.W.Fast.tw5903084074634998910:=()
def PySem.W.Fast.tw11316714552671434537:=()
def PySem.W.Fast.tw2911975107951816903:=()
def PySem.W.Fast.tw10999753965595282049:=()
def PySem.W.Fast.tw1498491790323983680:=()
def PySem.W.Fast.tw12926477897671085797:=()
def PySem.W.Fast.tw13012595680805780204:=()
def PySem.W.Fast.tw16486923917399747351:=()
def PySem.W.Fast.tw7448251508613380110:=()
def PySem.W.Fast.tw6807128957491799651:=()
def PySem.W.Fast.tw4768633421100415740:=()
def PySem.W.Fast.tw3111042329941677993:=()
def PySem.W.Fast.tw8014423126536125687:=()
def PySem.W.Fast.tw7423053623128956516:=()
def PySem.W.Fast.tw9288601361276701476:=()
def PySem.W.Fast.tw3436357445381332259:=()
def PySem.W.Fast.tw5154931374220933702:=()
def PySem.W.Fast.tw2693813327602050919:=()
def PySem.W.Fast.tw10214033512597372989:=()
def PySem.W.Fast.tw10318565007501738885:=()
def PySem.W.Fast.tw6853280091323254332:=()
def PySem.W.Fast.tw8920400089025617845:=()
def PySem.W.Fast.tw11478206872083332278:=()
def PySem.W.Fast.tw6868129983392724665:=()
def PySem.W.Fast.tw9038270463044328779:=()
def PySem.W.Fast.tw13229520733747927732:=()
def PySem.W.Fast.tw1582733409039325448:=()
def PySem.W.Fast.tw13677274242174774803:=()
def PySem.W.Fast.tw453961495921573797:=()
def PySem.W.Fast.tw15891634564179404254:=()
def PySem.W.Fast.tw18355891146377975277:=()
def PySem.W.Fast.tw9961222626225848619:=()
def PySem.W.Fast.tw11916057342398766764:=()
def PySem.W.Fast.tw16907185407292492829:=()
def PySem.W.Fast.tw8307778458673106810:=()
def PySem.W.Fast.tw6877487038913341065:=()
def PySem.W.Fast.tw14925165579735924503:=()
def PySem.W.Fast.tw16294996948887541146:=()
def PySem.W.Fast.tw6608765933554640844:=()
def PySem.W.Fast.tw6560344246603515137:=()
def PySem.W.Fast.tw16419557911265962315:=()
def PySem.W.Fast.tw2645802178427519592:=()
def PySem.W.Fast.tw5061778014501404888:=()
def PySem.W.Fast.tw710799811603533445:=()
def PySem.W.Fast.tw4128214543341409945:=()
def PySem.W.Fast.tw11324313776636594945:=()
def PySem.W.Fast.tw17436429901007856126:=()
def PySem.W.Fast.tw14362668659667060515:=()
def PySem.W.Fast.tw14064611388208852248:=()
def PySem.W.Fast.tw8687074279244161713:=()
def PySem.W.Fast.tw3331173025246879194:=()
def PySem.W.Fast.tw675060542190694324:=()
def PySem.W.Fast.tw649834015248794843:=()
def PySem.W.Fast.tw13347993786365221475:=()
def PySem.W.Fast.tw6126821582523419793:=()
def PySem.W.Fast.tw8260542900783920900:=()
def PySem.W.Fast.tw3126211511074517568:=()
def PySem.W.Fast.tw4327001403407080162:=()
def PySem.W.Fast.tw14917986050384222295:=()
def PySem.W.Fast.tw16464342508308984077:=()
def PySem.W.Fast.tw5124103274122278483:=()
def PySem.W.Fast.tw15222340516651553481:=()
def PySem.W.Fast.tw10820668915598287584:=()
def PySem.W.Fast.tw3121937905867192781:=()
def PySem.W.Fast.tw14167988953343226:=()
def PySem.W.Fast.tw12541780077020215038:=()
def PySem.W.Fast.tw10882455648038751663:=()
def PySem.W.Fast.tw13371836883522386098:=()
def PySem.W.Fast.tw2816419293777509261:=()
def PySem.W.Fast.tw10312618441301006827:=()
def PySem.W.Fast.tw7688297343497595405:=()
def PySem.W.Fast.tw7164459404833838816:=()
def PySem.W.Fast.tw1128990190264369180:=()
def PySem.W.Fast.tw10389962370752485736:=()
def PySem.W.Fast.tw6127071690798438677:=()
def PySem.W.Fast.tw9083483882398729357:=()
def PySem.W.Fast.tw12340503141581020581:=()
def PySem.W.Fast.tw1430777823792362562:=()
def PySem.W.Fast.tw14265424252240041686:=()
def PySem.W.Fast.tw18372115609195633493:=()
def PySem.W.Fast.tw6680665198773927368:=()
def PySem.W.Fast.tw12602718548029219751:=()
def PySem.W.Fast.tw8424712965985947051:=()
def PySem.W.Fast.tw14553423724172611768:=()
def PySem.W.Fast.tw4272089189963326514:=()
def PySem.W.Fast.tw14367867266756786962:=()
def PySem.W.Fast.tw9088438239916220946:=()
def PySem.W.Fast.tw13327723994883570325:=()
def PySem.W.Fast.tw14967723695454281785:=()
def PySem.W.Fast.tw3402630401067280849:=()
def PySem.W.Fast.tw15557773865124832021:=()
def PySem.W.Fast.tw6720242365389365361:=()
def PySem.W.Fast.tw13913474114232103255:=()
def PySem.W.Fast.tw108412000863001366:=()
def PySem.W.Fast.tw8253738584533971606:=()
def PySem.W.Fast.tw11011447009222250594:=()
def PySem.W.Fast.tw10785534584127160068:=()
def PySem.W.Fast.tw9874737153010947236:=()
def PySem.W.Fast.tw6091116732818864562:=()
def PySem.W.Fast.tw14112142652200415959:=()
def PySem.W.Fast.tw17179767682267347621:=()
def PySem.W.Fast.tw13867218075212204334:=()
def PySem.W.Fast.tw3327685399353069210:=()
def PySem.W.Fast.tw10113609543529354974:=()
def PySem.W.Fast.tw17764436678159161129:=()
def PySem.W.Fast.tw12799514896183355296:=()
def PySem.W.Fast.tw14218251754516836914:=()
def PySem.W.Fast.tw9614949963089238428:=()
def PySem.W.Fast.tw3240426631424248064:=()
def PySem.W.Fast.tw16350748324325494961:=()
def PySem.W.Fast.tw9718126460096497867:=()
def PySem.W.Fast.tw11266807501088207224:=()
def PySem.W.Fast.tw138716187347955109:=()
def PySem.W.Fast.tw13847445555595775710:=()
def PySem.W.Fast.tw3887637951323462854:=()
def PySem.W.Fast.tw3463681221330182619:=()
def PySem.W.Fast.tw8437525378082156927:=()
def PySem.W.Fast.tw11083589856763741648:=()
def PySem.W.Fast.tw15787843410283930192:=()
def PySem.W.Fast.tw18019804447161344112:=()
def PySem.W.Fast.tw11253469232426265560:=()
def PySem.W.Fast.tw3921307073785634437:=()
def PySem.W.Fast.tw15044307249412649708:=()
def PySem.W.Fast.tw1914859515637316287:=()
def PySem.W.Fast.tw9926009198295519069:=()
def PySem.W.Fast.tw6281896485144159726:=()
def PySem.W.Fast.tw4490259621378473713:=()
def PySem.W.Fast.tw1903003197819776731:=()
def PySem.W.Fast.tw5780650533131680122:=()
def PySem.W.Fast.tw3988275869091475696:=()
def PySem.W.Fast.tw8944093059421140021:=()
def PySem.W.Fast.tw6046670981464683291:=()
def PySem.W.Fast.tw8464407524762693902:=()
def PySem.W.Fast.tw6680688316292877580:=()
def PySem.W.Fast.tw17784390735572103101:=()
def PySem.W.Fast.tw6259968852077854756:=()
def PySem.W.Fast.tw10350369363765627976:=()
def PySem.W.Fast.tw10572188878162728037:=()
def PySem.W.Fast.tw2829892070643692756:=()
def PySem.W.Fast.tw13134907566759192611:=()
def PySem.W.Fast.tw7333818568495417047:=()
def PySem.W.Fast.tw287073483383164493:=()
def PySem.W.Fast.tw14979194195667296384:=()
def PySem.W.Fast.tw10976414758392448083:=()
def PySem.W.Fast.tw11419939285509236160:=()
def PySem.W.Fast.tw9362905427529686706:=()
def PySem.W.Fast.tw7003487344491511098:=()
def PySem.W.Fast.tw16499636898634851875:=()
def PySem.W.Fast.tw11969759428716103841:=()
def PySem.W.Fast.tw6026813164778863077:=()
def PySem.W.Fast.tw1150666021569759924:=()
def PySem.W.Fast.tw15258401395620311974:=()
def PySem.W.Fast.tw5960101520303184566:=()
def PySem.W.Fast.tw3837327515111721164:=()
def PySem.W.Fast.tw1358484566048001941:=()
def PySem.W.Fast.tw6094967638867545874:=()
def PySem.W.Fast.tw8320538524692361581:=()
def PySem.W.Fast.tw5622421572797454243:=()
def PySem.W.Fast.tw4247427825390490937:=()
def PySem.W.Fast.tw17603469550078853678:=()
def PySem.W.Fast.tw18180380194545645219:=()
def PySem.W.Fast.tw2194628463430568636:=()
def PySem.W.Fast.tw15980751593119957793:=()
def PySem.W.Fast.tw3870749910312955182:=()
def PySem.W.Fast.tw4284689215172642408:=()
def PySem.W.Fast.tw232337160194953785:=()
def PySem.W.Fast.tw12515649659300642580:=()
def PySem.W.Fast.tw4639515401236196525:=()
def PySem.W.Fast.tw7146482265048909525:=()
def PySem.W.Fast.tw4301243569784574435:=()
def PySem.W.Fast.tw14035910539653017212:=()
def PySem.W.Fast.tw13635889495126783932:=()
def PySem.W.Fast.tw13104911034859283422:=()
def PySem.W.Fast.tw6937631189241926452:=()
def PySem.W.Fast.tw1948090608430478179:=()
def PySem.W.Fast.tw5376708285722302993:=()
def PySem.W.Fast.tw5461075295250194893:=()
def PySem.W.Fast.tw17988509191747291700:=()
def PySem.W.Fast.tw10796010748974447408:=()
def PySem.W.Fast.tw12369518729704579283:=()
def PySem.W.Fast.tw11688608306836152470:=()
def PySem.W.Fast.tw3705699049156570089:=()
def PySem.W.Fast.tw15726411794976679626:=()
def PySem.W.Fast.tw2993437984083901960:=()
def PySem.W.Fast.tw4101714526507339062:=()
def PySem.W.Fast.tw15466461450088910715:=()
def PySem.W.Fast.tw4631821678203896072:=()
def PySem.W.Fast.tw202331479230795241:=()
def PySem.W.Fast.tw6986657656791735521:=()
def PySem.W.Fast.tw18005027713087742914:=()
def PySem.W.Fast.tw1052664357553135785:=()
def PySem.W.Fast.tw13146681113149121641:=()
def PySem.W.Fast.tw12092953776961771363:=()
def PySem.W.Fast.tw791336086773345018:=()
def PySem.W.Fast.tw7241837877983042747:=()
def PySem.W.Fast.tw14757030282413551081:=()
def PySem.W.Fast.tw8347279384388771978:=()
def PySem.W.Fast.tw6834476628278165685:=()
def PySem.W.Fast.tw8463840816260589300:=()
def PySem.W.Fast.tw11855046921965377458:=()
def PySem.W.Fast.tw9528298561324175749:=()
namespace HdQ
open PySem PySem.W
def live (o : Obj) : Bool := match o.data with
  | .freed => false
  | _ => true
noncomputable def pick (l : List Obj) : Nat → List Nat → List (Obj × Bool) :=
  @List.rec Obj (fun _ => Nat → List Nat → List (Obj × Bool)) (fun _ _ => [])
    (fun o _ ih i as => @List.rec Nat (fun _ => List (Obj × Bool)) [] (fun a as' _ => @Bool.rec (fun _ => List (Obj × Bool)) (ih (i + 1) (a :: as')) ((o, live o) :: ih (i + 1) as') (Nat.beq i a)) as) l
theorem pick_is : ∀ (l : List Obj) (i : Nat) (as : List Nat), (pick l i as).length = as.length → ∀ (k a : Nat) (o : Obj × Bool), as[k]? = some a → (pick l i as)[k]? = some o → i ≤ a ∧ l[a - i]? = some o.1 ∧ o.2 = live o.1
  | [], i, as, h, k, a, o, h1, h2 => by
    exfalso
    have : (pick [] i as)[k]? = none := rfl
    rw [this] at h2
    cases h2
  | x :: l, i, [], h, k, a, o, h1, h2 => by simp at h1
  | x :: l, i, b :: as, h, k, a, o, h1, h2 => by
    have e : pick (x :: l) i (b :: as) = @Bool.rec (fun _ => List (Obj × Bool)) (pick l (i + 1) (b :: as)) ((x, live x) :: pick l (i + 1) as) (Nat.beq i b) := rfl
    rw [e] at h h2
    cases q : Nat.beq i b with
    | true =>
      have ib := Nat.eq_of_beq_eq_true q
      rw [q] at h h2
      have h' : (pick l (i + 1) as).length + 1 = as.length + 1 := h
      cases k with
      | zero =>
        cases h1
        cases h2
        exact ⟨by omega, by rw [ib, Nat.sub_self]; rfl, rfl⟩
      | succ k =>
        obtain ⟨g1, g2, g3⟩ := pick_is l (i + 1) as (by omega) k a o h1 h2
        exact ⟨by omega, by rw [show a - i = (a - (i + 1)) + 1 by omega]; exact g2, g3⟩
    | false =>
      rw [q] at h h2
      obtain ⟨g1, g2, g3⟩ := pick_is l (i + 1) (b :: as) h k a o h1 h2
      exact ⟨by omega, by rw [show a - i = (a - (i + 1)) + 1 by omega]; exact g2, g3⟩
theorem get_live {h : Heap} {a : Addr} {o : Obj} (e : h.objs[a]? = some o) (l : live o = true) : h.get? a = some o := by
  unfold Heap.get?
  rw [e]
  obtain ⟨c, d, dt, sl⟩ := o
  cases dt <;> first | rfl | (exact absurd l Bool.false_ne_true)
theorem pick_get {K : Frag} {as : List Addr} {h : Heap} (e : as = K.map (·.1)) (x : pick h.objs.toList 0 as = K.map fun p => (p.2, true)) : as.map h.get? = K.map fun p => some p.2 := by
  have hl : (pick h.objs.toList 0 as).length = as.length := by rw [x, e, List.length_map, List.length_map]
  refine List.ext_getElem? fun k => ?_
  rw [List.getElem?_map, List.getElem?_map]
  cases q : K[k]? with
  | none =>
    have : as[k]? = none := by rw [e, List.getElem?_map, q]; rfl
    rw [this]; rfl
  | some p =>
    have h1 : as[k]? = some p.1 := by rw [e, List.getElem?_map, q]; rfl
    have h2 : (pick h.objs.toList 0 as)[k]? = some (p.2, true) := by rw [x, List.getElem?_map, q]; rfl
    obtain ⟨_, g, gl⟩ := pick_is _ _ _ hl k p.1 _ h1 h2
    rw [h1]
    show some (h.get? p.1) = some (some p.2)
    rw [Nat.sub_zero, Array.getElem?_toList] at g
    rw [get_live g gl.symm]
noncomputable def hk (K : Params → Frag) (as : List Addr) (e : ∀ P, as = (K P).map (·.1)) : Hook :=
  ⟨List (Obj × Bool), fun s => pick s.heap.objs.toList 0 as, fun w => (K w.params).map fun p => (p.2, true), InK K, fun w s x => InK.of e w s (pick_get (e _) x), InK.keeps⟩
theorem hk_in {K : Params → Frag} {as : List Addr} {e : ∀ P, as = (K P).map (·.1)} {w : World} {h : Heap} (Y : (hk K as e).says w h) : (K w.params).In h := Y
end HdQ
namespace HdQ
open PySem PySem.W
def q0 : Program := { PySem.Challenge.rw_heddle_k51_whole_made_drafts.prog with main := { PySem.Challenge.rw_heddle_k51_whole_made_drafts.prog.main with body := PySem.Challenge.rw_heddle_k51_whole_made_drafts.prog.main.body.drop 67 } }
def l0 : List Str := [Str.ofString "WeaveError", Str.ofString "NoCloth", Str.ofString "NoDraft", Str.ofString "NoColour", Str.ofString "MOST_STRANDS", Str.ofString "measured", Str.ofString "measured_texts", Str.ofString "check_pick", Str.ofString "end_signs", Str.ofString "COLOURS", Str.ofString "free_half", Str.ofString "measured_picture", Str.ofString "check_threads", Str.ofString "free_pick", Str.ofString "free_sign", Str.ofString "MOST_SHAFTS", Str.ofString "Draft", Str.ofString "least_draft", Str.ofString "check_setting", Str.ofString "check_count", Str.ofString "check_shaft", Str.ofString "check_tie", Str.ofString "check_treading", Str.ofString "shafts_over", Str.ofString "unlike", Str.ofString "lower_strands", Str.ofString "ways_from", Str.ofString "way_to", Str.ofString "upper_part", Str.ofString "measured_half", Str.ofString "finished_cloth", Str.ofString "settle", Str.ofString "first_colouring", Str.ofString "crossings_of", Str.ofString "settle_strand", Str.ofString "chain_from", Str.ofString "made_draft", Str.ofString "_law_numbers", Str.ofString "_law_bits", Str.ofString "_law_threads", Str.ofString "_law_shows", Str.ofString "_law_picture", Str.ofString "_law_told", Str.ofString "_law_whole_number", Str.ofString "_law_seen", Str.ofString "_law_chain_right", Str.ofString "_law_none_right", Str.ofString "_law_fits", Str.ofString "_law_halved", Str.ofString "_law_reached", Str.ofString "_law_joined", Str.ofString "_law_is_cut", Str.ofString "_law_numbers_in", Str.ofString "_law_firsts", Str.ofString "_law_cloth_of", Str.ofString "_law_least", Str.ofString "_law_first_finishing"]
end HdQ
open Lean in
local macro_rules
  | `(tactic| refine $f:ident $args*) => do
    unless f.getId == `PySem.W.holds_open do Macro.throwUnsupported
    let some qa := args.find? fun a => a.raw.isOfKind ``Lean.Parser.Term.namedArgument && a.raw[1].getId.eraseMacroScopes == `q | Macro.throwUnsupported
    let qs := qa.raw[3]
    if qs.isIdent && qs.getId == `HdQ.q0 then Macro.throwUnsupported
    let q0 := (mkIdent `HdQ.q0).raw
    let args := args.map fun a => ⟨Id.run do
      if a.raw.isOfKind ``Lean.Parser.Term.namedArgument then
        if a.raw[1].getId.eraseMacroScopes == `loose then return a.raw.setArg 3 (mkIdent `HdQ.l0)
        return Id.run (a.raw.replaceM fun s => pure (if s.structEq qs then some q0 else none))
      return a.raw⟩
    `(tactic| refine $f:ident $args*)
open Lean in
local macro_rules
  | `(tactic| o_head ($h:ident $a $b $c $_ds*)) => do
    unless [`kHook, `kmHook, `PySem.W.kHook, `PySem.W.kmHook].contains h.getId.eraseMacroScopes do Macro.throwUnsupported
    `(tactic| o_head (HdQ.hk $a $b $c))
set_option maxRecDepth 100000 in
set_option maxHeartbeats 0 in
theorem PySem.Challenge.cw_heddle_k51_whole_made_drafts_holds : PySem.Challenge.rw_heddle_k51_whole_made_drafts.Holds := by
 w_on;o_law;k_head;(case hw=>w_witness2)
 k_fill
 refine L2.AbS (l:=PySem.Challenge.rw_heddle_k51_whole_made_drafts) (n:=63) (k:=8) (x := "script") (CX:=L2.CX0) (sp:=Mine.Xc) rfl (by decide) rfl ⟨rfl,by decide,by decide⟩ (fun w h Y=>HdQ.hk_in Y) ?F ?S ?C
 case F =>
  intro w mg fa h KX G hmg
  refine' Mine.AgF (t:=Mine.Adr.mk) hmg ?T
  case T =>
   constructor <;> (try dsimp only) <;> first
   | (refine' L2.DfH.df ⟨?a,?b⟩ KX G ?c;(case a=>k_is);(case b=>(apply L2.AbT <;> k_is));(case c=>(intro _ _ _ _ _ _ us hl;first | exact Mine.bl1 (fun _=>rfl) us hl | exact Mine.bl2 (fun _ _=>rfl) us hl | exact Mine.bl3 (fun _ _ _=>rfl) us hl | exact Mine.bl4 (fun _ _ _ _=>rfl) us hl | exact Mine.bl5 (fun _ _ _ _ _=>rfl) us hl | exact Mine.bl6 (fun _ _ _ _ _ _=>rfl) us hl)))
   | exact PySem.W.mg_none_of KX G (by k_is)
   | exact⟨_,PySem.W.mg_of KX G (by k_is)⟩
   | exact PySem.W.mg_of KX G (by k_is)
   | (refine' L2.MfH.mf ⟨?a,?b,?d⟩ ?c;(case a=>k_is);(case b=>k_is);(case d=>(apply L2.AbT <;> k_is));(case c=>(intro _ _ _ _ _ _ us hl;first | exact Mine.bl1 (fun _=>rfl) us hl | exact Mine.bl2 (fun _ _=>rfl) us hl | exact Mine.bl3 (fun _ _ _=>rfl) us hl | exact Mine.bl4 (fun _ _ _ _=>rfl) us hl | exact Mine.bl5 (fun _ _ _ _ _=>rfl) us hl | exact Mine.bl6 (fun _ _ _ _ _ _=>rfl) us hl)))
   | (apply L2.AfA <;> k_is)
   | (unfold L2.HW;k_is)
   | (apply L2.Af7 <;> first | k_exc | k_is)
   | k_is
   | kernel_rfl
   | (constructor <;> first | k_is | rfl)
 case S=>exact fun K H a ns hl hO hS=>Mine.Xd hl hS
 case C=>exact fun _ _ _ _ z=>z
