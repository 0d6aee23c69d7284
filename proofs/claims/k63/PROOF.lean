import PyProof.Rows.All
import Wide.FinOn
import KE.KNestM
import OpenK.KOwn
import KE.KItem
import KE.IntText
import KE.KTabLook
import KE.KFromBytes
import KE.KIntText
import KE.KTab
import KE.KIsAll
import KE.KLam
import KE.KRevIter
import KE.KDictOf
import KE.KxBytes
import OpenK.KRaise
import Lean
import PyProof.EqAt
import PyProof.EqKinds
import PyProof.TupleCall
import PyProof.StrBlockL
import PyProof.EnumMake
import PyProof.CollectIter
import PyProof.JoinWalk
import PyProof.StrOps
import PyProof.StrLawsIdx
import PyProof.StrLawsIn
import PyProof.ListRange
import PyProof.Rows.Range3
import PyProof.Rows.SumAny
import KE.LcSums
import OpenK.KCls
import PyProof.LongRange
import PyProof.StrOps2
import PyProof.FitsBits
import PyProof.NeKinds
import PyProof.ConsumeWalk
import PyProof.Rows.ZipGen
import PyProof.Draws
import PyProof.Rows.SeqMore
import PyProof.Rows.StrNews
import PyProof.StrLawsChain
import PyProof.Rows.SortRev
import PyProof.Rows.SortWalk
import PyProof.Rows.CallKwBuiltin
import PyProof.Rows.MinMaxN
import PyProof.Rows.SetFrom
import PyProof.CollectWalk
import PyProof.DictWalks
import Wide.Txt
import KE.KUnpack
import PyProof.Rows.SortRuns
import KE.KSortKey
import PySem.Challenge.RW_heddle_k63_whole_layers_asked
open Lean in
local macro_rules
|`($m:declModifiers def $i:declId $s:optDeclSig $v:declVal)=>do
 unless m.raw[4].isNone && ![`vE,`vN].contains i.raw[0].getId do Macro.throwUnsupported
 let m:=⟨m.raw.setArg 4 (mkNullNode #[.node .none ``Lean.Parser.Command.noncomputable #[mkAtom "noncomputable"]])⟩
 `($m:declModifiers def $i:declId $s:optDeclSig $v:declVal)
|`($m:declModifiers abbrev $i:declId $s:optDeclSig $v:declVal)=>do
 unless m.raw[4].isNone && ![`vE,`vN].contains i.raw[0].getId do Macro.throwUnsupported
 let m:=⟨m.raw.setArg 4 (mkNullNode #[.node .none ``Lean.Parser.Command.noncomputable #[mkAtom "noncomputable"]])⟩
 `($m:declModifiers abbrev $i:declId $s:optDeclSig $v:declVal)
theorem Z.{u}{α:Sort u}{a:α}:a=a:=rfl
abbrev NN:=List (List Nat)
abbrev NI:=List Nat
abbrev NV:=List (List Int)
abbrev NA:=List Int
abbrev NF:=PySem.W.Frag
abbrev NO:=List (PySem.Addr × PySem.Obj)
abbrev NR:=PySem.Value->PySem.Shared->Prop
abbrev NU:=List PySem.Addr
abbrev NW:=List PySem.Value
abbrev NX:=List PySem.Str
abbrev NY:=Option PySem.Value
set_option Elab.async false
set_option linter.all false
set_option maxRecDepth 100000
namespace Zy
open PySem PySem.Spec PyProof.Rows PySem.W
def zA:=@wpAny_bind
def zB:=@Heap.get?_push_of_some
def zC:=@List.getElem?_eq_some_iff
def zD:=@Heap.get?_push_size
def zE:=@wpAny_pure
def zF:=@List.mem_singleton
def zG:=@List.mem_append
def zH:=@Heap.get?_update_other
def zI:=@F.plainAttrs_str
def zJ:=@decide_eq_false
def zK:=@Array.length_toList
def zL:=@F.slot_list_append
def zM:=@F.plainAttrs_list
def zN:=@decide_eq_true
def zO:=@Array.getElem?_toList
def zP:=@Array.getElem?_eq_getElem
def zQ:=@F.type_list_append
def zR:=@Heap.get?_update_self
def zS:=@F.slot_str_join
def zT:=@wpAny_mono
def zU:=@Option.map_eq_some_iff
def zV:=@F.type_str_join
def zW:=@PySem.mem_of_lookup
def zX:=@F.slot_str_split
def zY:=@List.length_pos_iff
def zZ:=@beq_eq_false_iff_ne
def z5:=@decide_eq_decide
def z6:=@F.type_str_split
def z7:=@List.mem_filter
def z8:=@sizeLine_eq
def z9:=@wpAny_holding
def yA:=@wpAny_field
def yB:=@wpAny_truthy_bool
def yC:=@List.mem_map
def yD:=@List.mem_cons
def yE:=@List.mem_range
def yF:=@wpAny_newObj_type
end Zy
open Zy
namespace Zz
def AtF:=@List.getElem?_eq_getElem
def AtG:=@List.length_map
def AtH:=@Nat.le_refl
def AtI:=@List.length_append
def AtJ:=@List.mem_cons_self
def AtK:=@List.map_append
def AtL:=@List.mem_cons_of_mem
def AtM:=@List.map_cons
def AtN:=@List.mem_of_getElem?
def AtO:=@List.length_range
def AtQ:=@List.getElem?_map
def AtR:=@Nat.zero_le
def AtS:=@List.length_cons
def AtT:=@List.getElem_mem
def AtU:=@Nat.ne_of_lt
def AtV:=@List.take_add_one
def AtW:=@Nat.le_trans
def AtX:=@List.length_take
def AtY:=@List.getD_eq_getElem?_getD
def AtZ:=@List.getElem?_append_right
def Aua:=@Nat.lt_of_lt_of_le
def Aub:=@List.size_toArray
def Auc:=@List.getElem?_append_left
def Aud:=@Bool.false_ne_true
def Aue:=@List.take_length
def Auf:=@List.take_of_length_le
def Auh:=@Int.toNat_natCast
def Aui:=@yD
def Auj:=@List.not_mem_nil
def Auk:=@List.append_assoc
def Aul:=@List.sum_cons
def Aum:=@List.append_nil
def Aun:=@List.length_nil
def Auo:=@List.mem_append_right
def Aup:=@Nat.min_eq_left
def Auq:=@List.flatten_cons
def Aur:=@List.range_succ
def Aus:=@List.getElem_of_mem
def Aut:=@Nat.succ_mul
def Auu:=@Nat.le_of_lt
def Auv:=@List.take_append_drop
def Auw:=@List.length_drop
def Aux:=@Nat.sub_self
def Auy:=@List.lookup_cons
def Auz:=@List.length_filter_le
def Au0:=@List.getElem?_eq_none
def Au1:=@Nat.le_succ
def Au2:=@Nat.le_of_ble_eq_true
def Au3:=@List.getElem?_range
def Au4:=@List.filter_append
def Au5:=@List.getLast?_append
def Au6:=@Int.zero_add
def Au7:=@Nat.lt_irrefl
def Au8:=@List.length_replicate
def Au9:=@List.map_take
def AuA:=@List.mem_of_mem_drop
def AuB:=@List.mem_of_mem_take
def AuC:=@List.length_reverse
def AuD:=@Nat.ne_of_gt
def AuE:=@Nat.le_of_eq
def AuF:=@List.getElem?_drop
def AuG:=@List.drop_eq_getElem_cons
def AuH:=@List.take_succ_cons
def AuI:=@List.pairwise_map
def AuJ:=@List.take_sublist
def AuK:=@List.replicate_succ
def AuL:=@List.ext_getElem?
def AuM:=@z7
def AuN:=@List.filter_cons_of_pos
def AuO:=@zG
def AuP:=@List.map_drop
def AuQ:=@List.mem_append_left
def AuR:=@Bool.eq_iff_iff
def AuS:=@Nat.lt_succ_self
def AuT:=@List.any_cons
def AuU:=@Nat.min_le_left
def AuV:=@List.find?_cons
def AuW:=@List.getElem?_set_self
def AuX:=@Bool.and_eq_true
def AuY:=@Nat.lt_of_le_of_lt
def AuZ:=@List.forIn_cons
def Ava:=@List.map_map
def Avb:=@List.map_congr_left
def Avc:=@List.all_eq_true
def Avd:=@List.count_append
def Ave:=@Nat.mul_add
def Avf:=@Int.le_refl
def Avg:=@List.filter_nil
def Avh:=@List.filter_cons_of_neg
def Avi:=@List.cons_append
def Avj:=@List.drop_drop
def Avk:=@List.getLast?_cons
def Avl:=@List.getElem?_set_ne
def Avm:=@List.length_set
def Avn:=@Nat.lt_trans
def Avo:=@List.map_nil
def Avp:=@List.drop_zero
def Avq:=@List.drop_eq_nil_of_le
def Avr:=@List.getElem?_reverse
def Avs:=@Nat.zero_add
def Avt:=@List.takeWhile_cons
def Avu:=@yC
def Avv:=@List.drop_left
def Avw:=@Nat.min_self
def Avx:=@Bool.false_eq_true
def Avy:=@List.length_singleton
def Avz:=@List.replicate_succ'
def Av0:=@Nat.mul_le_mul
def Av1:=@List.filterMap_cons
def Av2:=@List.getElem?_replicate
def Av3:=@List.all_cons
def Av4:=@Nat.mul_comm
def Av5:=@Nat.le_of_not_lt
def Av6:=@List.getElem?_append
def Av7:=@List.getElem?_take
def Av8:=@List.getElem_map
def Av9:=@List.take_succ_eq_append_getElem
def AvA:=@List.nodup_append
def AvB:=@Nat.sub_zero
def AvC:=@List.dropWhile_suffix
def AvD:=@List.eq_of_mem_replicate
def AvE:=@List.any_eq_false
def AvF:=@Nat.add_le_add_left
def AvG:=@Nat.lt_succ_of_lt
def AvH:=@List.flatMap_cons
def AvI:=@List.takeWhile_append_dropWhile
def AvJ:=@List.take_append_of_le_length
def AvK:=@List.getElem?_of_mem
def AvL:=@List.flatten_append
def AvM:=@Nat.add_sub_cancel_left
def AvN:=@List.pairwise_iff_getElem
def AvO:=@List.length_pos_of_mem
def AvP:=@Option.toList_some
def AvQ:=@List.getElem?_singleton
def AvR:=@List.eq_nil_of_length_eq_zero
end Zz
open Zz
namespace L2
open PySem PySem.Spec PyProof.Rows
variable {xs ys vs:Na}{us ds:NW}{H H':Hp}{a b it C dx:Addr}{o o':HO}{u cd:Value}{P prog:Program}{w:World}{h h':Heap}{x name m qual:Str}{e c tg l iter:Expr}{ch fp:NU}{X:Cx}{pins:NO}{σ:St}{s s' s1:Shared}{g':Array GenState}{t' i j n tk:Nat}{d':Drawn}{N ns ps:NX}{M:Model}{A:Around}{E:NR}{v y:V}{Q:Unit->Shared->Prop}{t ta te tl:TE}{α κ:Type}{pos pos' p:Pos}{tb:TS}{op:CmpOp}{tc:TT}{D:Ends}{f:Value->Value->Sem Value}{es:List Expr}{body:List Stmt}{pl:Sem Bool}{r:R2}{mA mg:Str->NY}{kw:List (Str × Value)}{CX:CXT}{fd:FuncData}{sp:Sp}{outer:List Env}{sc scope:Scope}
abbrev Key:=Sum Int Str
def AbO:Key->Value->Bool
 | .inl k,v=>Value.isInt k v
 | .inr x,v=>Value.isStrOf x v
def As4 (w:World):Key->Int
 | .inl k=>hashInt k
 | .inr x=>hashStr w x
theorem Dz:∀{k:Key} {v:Value},AbO k v=true->(∃ i t,k=Sum.inl i/\v=Value.int i t)\/(∃ x t,k=Sum.inr x/\v=Value.str x t)
 | .inl i,v,h=>by
  obtain⟨t,e⟩:=Value.isInt_shape h;exact .inl ⟨i,t,Z,e⟩
 | .inr x,v,h=>by
  obtain⟨t,e⟩:=Value.isStrOf_shape h;exact .inr ⟨x,t,Z,e⟩
theorem AhZ(i:Int)(t:Tok):AbO (.inl i) (.int i t)=true:=by simp[AbO,Value.isInt]
theorem Aia(x:Str)(t:Tok):AbO (.inr x) (.str x t)=true:=by simp[AbO,Value.isStrOf]
theorem AoH(a b:Int):decide ((Sum.inl a:Key)=Sum.inl b)=(a == b):=by
 by_cases e:a=b
 ·subst e;simp
 ·simp_all
theorem AoI(a b:Str):decide ((Sum.inr a:Key)=Sum.inr b)=decide (a=b):=by simp_all
theorem AoJ(a:Int)(b:Str):decide ((Sum.inl a:Key)=Sum.inr b)=false:=zJ (λq=>nomatch q)
theorem AoK(a:Str)(b:Int):decide ((Sum.inr a:Key)=Sum.inl b)=false:=zJ (λq=>nomatch q)
def DY (prog:Program)(w:World):PySem.KeyKind prog w Key where
 is:=AbO
 hash:=As4 w
 inj:=λv a b ha hb=>by
  rcases Dz ha with ⟨i,t,rfl,rfl⟩ | ⟨x,t,rfl,rfl⟩
  ·rcases Dz hb with ⟨j,u,rfl,e⟩ | ⟨y,u,rfl,e⟩
   ·injection e with e1 _;rw[e1]
   ·exact nomatch e
  ·rcases Dz hb with ⟨j,u,rfl,e⟩ | ⟨y,u,rfl,e⟩
   ·exact nomatch e
   ·injection e with e1 _;rw[e1]
 byValue:=λk v h=>by
  rcases Dz h with ⟨i,t,rfl,rfl⟩ | ⟨x,t,rfl,rfl⟩ <;> rfl
 pyHash:=λhv h=>by
  rcases Dz hv with ⟨i,t,rfl,rfl⟩ | ⟨x,t,rfl,rfl⟩
  ·exact wpAny_pyHash_int h
  ·exact wpAny_pyHash_str h
 eqBool:=λhu hv h=>by
  rcases Dz hu with ⟨i,t,rfl,rfl⟩ | ⟨x,t,rfl,rfl⟩
  ·rcases Dz hv with ⟨j,u,rfl,rfl⟩ | ⟨y,u,rfl,rfl⟩
   ·rw[AoH] at h;exact wpAny_eqBool_int h
   ·rw[AoJ] at h;exact SeqAt.EqAt.int_str i t y u _ _ _ _ h
  ·rcases Dz hv with ⟨j,u,rfl,rfl⟩ | ⟨y,u,rfl,rfl⟩
   ·rw[AoK] at h;exact SeqAt.EqAt.str_int x t j u _ _ _ _ h
   ·rw[AoI] at h;exact wpAny_eqBool_str h
 «strs»:=λk x t v h=>by
  rcases Dz h with ⟨i,u,rfl,e⟩ | ⟨y,u,rfl,e⟩
  ·exact nomatch e
  ·injection e with e1 _
   subst e1
   cases v <;> rfl
theorem Ae0(prog:Program)(w:World)(i:Int)(t:Tok):(DY prog w).is (.inl i) (.int i t)=true:=AhZ i t
theorem Ae1(prog:Program)(w:World)(x:Str)(t:Tok):(DY prog w).is (.inr x) (.str x t)=true:=Aia x t
inductive V where
 | non | bl (b:Bool) | int (i:Int) | str (x:Str) | byt (b:Array UInt8) | flt (b:UInt64) | ref (a:Addr) | ty (n:String)
 deriving DecidableEq
abbrev Na:=List V
def RelV:V->Value->Prop
 | .non,u=>u=Value.none
 | .bl b,u=>u=Value.bool b
 | .int i,u=>∃ t,u=Value.int i t
 | .str x,u=>∃ t,u=Value.str x t
 | .byt b,u=>∃ t,u=Value.bytes b t
 | .flt b,u=>∃ t,u=Value.float b t
 | .ref a,u=>u=Value.ref a
 | .ty n,u=>u=Value.type n
abbrev Vals:Na->NW->Prop:=Paired RelV
theorem Vals.length(r:Vals xs us):xs.length=us.length:=Paired.length r
theorem Vals.get:∀{xs:Na} {us:NW} {i:Nat} {x:V},Vals xs us->xs[i]?=some x->∃ u,us[i]?=some u/\RelV x u
 | _,_,_,_,.nil,e=>by simp at e
 | _,_,0,_,.cons r _,e=>by simp_all
 | _,_,i+1,x,.cons _ t,e=>by
  obtain⟨u,h1,h2⟩:=Vals.get t (by simpa using e);exact⟨u,by simpa using h1,h2⟩
theorem Vals.set{x:V}{u:Value}(r:RelV x u):∀{xs:Na} {us:NW} (i:Nat),Vals xs us->Vals (xs.set i x) (us.set i u)
 | _,_,_,.nil=>.nil
 | _,_,0,.cons _ t=>.cons r t
 | _,_,i+1,.cons q t=>.cons q (Vals.set r i t)
theorem Vals.append:∀{xs ys:Na} {us ws:NW},Vals xs us->Vals ys ws->Vals (xs++ys) (us++ws)
 | _,_,_,_,.nil,s=>s
 | _,_,_,_,.cons r t,s=>.cons r (Vals.append t s)
theorem Vals.take:∀{xs:Na} {us:NW} (n:Nat),Vals xs us->Vals (xs.take n) (us.take n)
 | _,_,0,_=>.nil
 | _,_,_+1,.nil=>.nil
 | _,_,n+1,.cons r t=>.cons r (Vals.take n t)
theorem Vals.drop:∀{xs:Na} {us:NW} (n:Nat),Vals xs us->Vals (xs.drop n) (us.drop n)
 | _,_,0,r=>r
 | _,_,_+1,.nil=>.nil
 | _,_,n+1,.cons _ t=>Vals.drop n t
def Nx:Option V->NY->Prop
 | some v,some u=>RelV v u
 | none,none=>True
 | _,_=>False
def KV {κ:Type}:List (κ × V)->List (κ × Value)->Prop:=Paired λ(p:κ × V)(q:κ × Value)=>p.1=q.1/\RelV p.2 q.2
def kV:Key->V
 | .inl i=>.int i
 | .inr x=>.str x
inductive HO where
 | lst (xs:Na)
 | tup (xs:Na)
 | dK (kvs:List (Key × V)) | dT (kvs:List (List Key × V))
 | set (S:Int->Bool) (n:Nat)
 | ins (C dx:Addr) (fs:List (Str × V))
 | own (x:Addr)
 | xd (fs:List (Str × V))
 | met (f x:Addr)
 | rng (lo hi:Int)
 | frz (o:Obj) (u:HO)
 | tbl (ps:Array Value)
 | ext (φ:Heap->Prop)
abbrev Hp:=Addr->Option HO
def upd (H:Hp)(a:Addr)(o:HO):Hp:=λb=>if b=a then some o else H b
theorem Ae:upd H a o a=some o:=by unfold upd;rw[if_pos rfl]
theorem Aj(h:b≠a):upd H a o b=H b:=by unfold upd;rw[if_neg h]
theorem HQ{u:HO}:upd (upd H a o) a u=upd H a u:=by
 funext b;unfold upd;split <;> rfl
theorem Aq9{u:HO}(h:H a=some o)(h':H b=some u)(d:o≠u):a≠b:=by intro e;subst e;rw[h] at h';exact d (Option.some.inj h')
theorem Bb(h:H a=some o)(h':H b=none):a≠b:=by intro e;subst e;rw[h] at h';cases h'
section
variable (P:Program) (w:World)
def Ei (H:Hp)(h:Heap)(a:Addr):HO->Prop
 | .lst xs=>xs.length<=sizeLine/\∃(its:NW)(n:Nat),Vals xs its/\h.get? a=some { cls:=.type "list", data:=.seq its.toArray n }
 | .tup xs=>xs.length<=sizeLine/\∃ its:NW,Vals xs its/\IsTup h a its.toArray
 | .dK kvs=>kvs.length<=sizeLine/\(a == sysModules)=false/\∃ vs,KV kvs vs/\h.DictOf (DY P w) a vs
 | .dT kvs=>kvs.length<=sizeLine/\(a == sysModules)=false/\∃ xs:List (List Key × Addr × Value),
   Paired (λ(p:List Key × V)(q:List Key × Addr × Value)=>p.1=q.1/\H q.2.1=some (.tup (p.1.map kV))/\RelV p.2 q.2.2) kvs xs /\
   ∃ o es ep,h.get? a=some o/\o.ExactDict/\o.data=.dict es ep/\es.toList=xs.map (entryOfKey (tupleKind (DY P w)))/\(xs.map (·.1)).Nodup
 | .set S n=>h.SetOf (intKind P w) a S n
 | .ins C dx fs=>H dx=some (.own a)/\fs.length<=1000/\dx≠a/\h.get? a=some (W.instObj C dx) /\
   ∃ mA,h.Ns1 dx mA/\(∀ f,Nx (fs.lookup f) (mA f))/\PySem.Within mA (fs.map (·.1))
 | .own _=>∃ o,h.get? a=some o
 | .xd fs=>∃ mA,h.Ns1 a mA/\∀ f,Nx (fs.lookup f) (mA f)
 | .rng lo hi=>∃ t u v,h.get? a=some { cls:=.type "range", data:=.fields #[.int lo t,.int hi u,.int 1 v] }
 | .frz o u=>h.get? a=some o/\Ei H h a u
 | .tbl ps=>h.get? a=some { cls:=.none,data:=.fields ps }
 | .met f x=>h.get? a=some (W.methodObj (.ref f) (.ref x))
 | .ext φ=>φ h/\(∃ o,h.get? a=some o)/\∀ h1 h2:Heap,φ h1->(∀ o,h1.get? a=some o->h2.get? a=some o)->φ h2
def HOk (H:Hp)(h:Heap):Prop:=∀ a o,H a=some o->Ei P w H h a o
end
theorem Ei.lt(x:Ei P w H h a o):a<h.objs.size:=by
 cases o with
 | lst xs=>obtain⟨_,_,_,_,e⟩:=x;exact Heap.lt_size e
 | tup xs=>obtain⟨_,_,_,p⟩:=x;exact p.lt
 | dK kvs=>obtain⟨_,_,_,_,o,_,_,e,_⟩:=x;exact Heap.lt_size e
 | dT kvs=>obtain⟨_,_,_,_,o,_,_,e,_⟩:=x;exact Heap.lt_size e
 | set S n=>obtain⟨o,_,_,_,e,_⟩:=x;exact Heap.lt_size e
 | ins C dx fs=>obtain⟨_,_,_,e,_⟩:=x;exact Heap.lt_size e
 | own y=>obtain⟨_,e⟩:=x;exact Heap.lt_size e
 | xd fs=>obtain⟨_,⟨_,_,_,e,_⟩,_⟩:=x;exact Heap.lt_size e
 | rng lo hi=>obtain⟨_,_,_,e⟩:=x;exact Heap.lt_size e
 | frz c u=>obtain⟨e,_⟩:=x;exact Heap.lt_size e
 | tbl ps=>exact Heap.lt_size (x)
 | met f y=>exact Heap.lt_size (x)
 | ext b=>obtain⟨_,⟨_,e⟩,_⟩:=x;exact Heap.lt_size e
theorem Paired.AoL{α β:Type}{F G:α->β->Prop}:∀{l₁:List α} {l₂:List β},Paired F l₁ l₂->(∀ a b,F a b->G a b)->Paired G l₁ l₂
 | _,_,.nil,_=>.nil
 | _,_,.cons r t,f=>.cons (f _ _ r) (Paired.AoL t f)
theorem Ei.stay(x:Ei P w H h a o)(k:∀ b u,(b=a\/H b=some (.own a))->h.get? b=some u->h'.get? b=some u)
  (A:∀ b,H b=some (.own a)->H' b=some (.own a)) (s:∀ b xs,H b=some (.tup xs)->H' b=some (.tup xs)):Ei P w H' h' a o:=by
 induction o with
 | lst xs=>obtain⟨z,its,n,r,e⟩:=x;exact⟨z,its,n,r,k _ _ (.inl Z) e⟩
 | tup xs=>obtain⟨z,its,r,i,e,c⟩:=x;exact⟨z,its,r,i,k _ _ (.inl Z) e,c⟩
 | dK kvs=>obtain⟨z,y,vs,r,i,es,j,e,c⟩:=x;exact⟨z,y,vs,r,i,es,j,k _ _ (.inl Z) e,c⟩
 | dT kvs =>
  obtain⟨z,y,xs,r,i,es,j,e,c⟩:=x;exact⟨z,y,xs,Paired.AoL r λp q z=>⟨z.1,s _ _ z.2.1,z.2.2⟩,i,es,j,k _ _ (.inl Z) e,c⟩
 | set S n=>obtain⟨i,es,j,t,e,c⟩:=x;exact⟨i,es,j,t,k _ _ (.inl Z) e,c⟩
 | ins C dx fs =>
  obtain⟨d,z,ne,e,mA,⟨l,es,j,e2,c⟩,r⟩:=x;exact⟨A _ d,z,ne,k _ _ (.inl Z) e,mA,⟨l,es,j,k _ _ (.inr d) e2,c⟩,r⟩
 | own y=>obtain⟨i,e⟩:=x;exact⟨i,k _ _ (.inl Z) e⟩
 | xd fs=>obtain⟨mA,⟨l,es,j,e,c⟩,r⟩:=x;exact⟨mA,⟨l,es,j,k _ _ (.inl Z) e,c⟩,r⟩
 | rng lo hi=>obtain⟨t,u,v,e⟩:=x;exact⟨t,u,v,k _ _ (.inl Z) e⟩
 | frz i u m=>obtain⟨e,q⟩:=x;exact⟨k _ _ (.inl Z) e,m q⟩
 | tbl ps =>
  have e:=x;exact k a _ (.inl Z) e
 | met f y =>
  have e:=x;exact k a _ (.inl Z) e
 | ext B=>obtain⟨p,⟨o,e⟩,st⟩:=x;exact⟨st _ _ p λo q=>k _ _ (.inl Z) q,⟨o,k _ _ (.inl Z) e⟩,st⟩
theorem HOk.lt(x:HOk P w H h)(e:H a=some o):a<h.objs.size:=(x a o e).lt
theorem HOk.fresh(x:HOk P w H h)(e:h.objs.size<=a):H a=none:=by
 cases q:H a with
 | none=>rfl
 | some u=>exact absurd (Aua (x.lt q) e) (Au7 _)
theorem HOk.kept(x:HOk P w H h)(k:∀ b u,h.get? b=some u->h'.get? b=some u):HOk P w H h':=λa o e =>
 (x a o e).stay (λb u _ q=>k b u q) (λ_ q=>q) λ_ _ q=>q
theorem HOk.laid(x:HOk P w H h)(k:∀ b u,h.get? b=some u->h'.get? b=some u)(f:h.objs.size<=a)(new:Ei P w (upd H a o) h' a o):HOk P w (upd H a o) h':=λb u e=>by
 have hn:=x.fresh f;by_cases d:b=a
 ·subst d;rw[Ae] at e;cases e;exact new
 ·rw[Aj d] at e;exact(x b u e).stay (λc v _ q=>k c v q) (λc q=>by rw[Aj (Bb q hn)];exact q) λc xs q=>by rw[Aj (Bb q hn)];exact q
def Rd (H:Hp)(a:Addr)(u:HO):Prop:=H a=some u\/∃ o,H a=some (.frz o u)
theorem Rd.ok{u:HO}(r:Rd H a u)(x:HOk P w H h):Ei P w H h a u:=by
 rcases r with r | ⟨o,r⟩
 ·exact x a u r
 ·obtain⟨_,q⟩:=x a _ r;exact q
def Mut:Option HO->Prop
 | some (.lst _)=>True
 | some (.dK _)=>True
 | some (.dT _)=>True
 | some (.set _ _)=>True
 | some (.ins _ _ _)=>True
 | some (.ext _)=>True
 | _=>False
section
variable {x e:Addr}
theorem HOk.write(ok:HOk P w H h)(d:Mut (H x))(o:e=x\/H e=some (.own x))(k:∀ b u,b≠e->h.get? b=some u->h'.get? b=some u)(i:∃ u,h'.get? e=some u)
  (new:Ei P w (upd H x o') h' x o'):HOk P w (upd H x o') h':=λb u q=>by
 have l:∀ c y,H c=some (.own y)->c≠x:=λc y r z=>by subst z;rw[r] at d;exact d
 have j:∀ c xs,H c=some (.tup xs)->c≠x:=λc xs r z=>by subst z;rw[r] at d;exact d
 by_cases f:b=x
 ·subst f;rw[Ae] at q;cases q;exact new
 ·rw[Aj f] at q;by_cases a:b=e
  ·have m:H b=some (.own x):=by
    rcases o with z | z
    ·exact absurd (a.trans z) f
    ·rw[a];exact z
   rw[q] at m;cases m;obtain⟨v,n⟩:=i;exact⟨v,by rw[a];exact n⟩
  ·refine(ok b u q).stay (λc v hc r=>k c v ?_ r) (λc r=>by rw[Aj (l c b r)];exact r) λc xs r=>by rw[Aj (j c xs r)];exact r
   grind
end
structure Un (fs ex:NU)(H H':Hp)(h h':Heap):Prop where
 keep:∀ b o,h.get? b=some o->H b=none->b∉fs->b∉ex->h'.get? b=some o
 slot:∀ b o,h.get? b=some o->H b=none->b∈fs->b∉ex->∃ sl,h'.get? b=some { o with slots:=sl }
 free:∀ b o,h.get? b=some o->H b=none->b∉ex->H' b=none
 there:∀ b o,h.get? b=some o->b∉ex->∃ o',h'.get? b=some o'
 tups:∀ b xs,H b=some (.tup xs)->H' b=some (.tup xs)
 JT:∀ b o u,H b=some (.frz o u)->H' b=some (.frz o u)
 Nq:∀ b ps,H b=some (.tbl ps)->∃ more,H' b=some (.tbl (ps++more))
section
variable {fs fs' ex ex':NU}{H1 H2:Hp}{h1 h2:Heap}{x e:Addr}
theorem Un.any(u:Un fs ex H H1 h h1){ob:Obj}(q:h.get? b=some ob)(n:H b=none)(a:b∉ex):∃ d,h1.get? b=some { ob with slots:=d }:=by
 by_cases c:b∈fs
 ·exact u.slot b ob q n c a
 ·exact⟨ob.slots,u.keep b ob q n c a⟩
theorem Un.trans(a:Un fs ex H H1 h h1)(b:Un fs ex H1 H2 h1 h2):Un fs ex H H2 h h2 where
 keep:=λc e q n hc d=>b.keep c e (a.keep c e q n hc d) (a.free c e q n d) hc d
 slot:=λc e q n hc d=>by
  obtain⟨i,e1⟩:=a.slot c e q n hc d;obtain⟨f,e2⟩:=b.slot c _ e1 (a.free c e q n d) hc d;exact⟨f,e2⟩
 free:=λc e q n d=>by
  obtain⟨o',e1⟩:=a.there c e q d;exact b.free c o' e1 (a.free c e q n d) d
 there:=λc e q d=>by
  obtain⟨o',e1⟩:=a.there c e q d;exact b.there c o' e1 d
 tups:=λc xs q=>b.tups c xs (a.tups c xs q)
 JT:=λc e xs q=>b.JT c e xs (a.JT c e xs q)
 Nq:=λc ps q=>by
  obtain⟨m1,e1⟩:=a.Nq c ps q;obtain⟨m2,e2⟩:=b.Nq c _ e1;exact⟨m1++m2,by rw[e2,Array.append_assoc]⟩
theorem Un.kept(k:∀ b u,h.get? b=some u->h'.get? b=some u):Un fs ex H H h h' :=
 ⟨λb a q _ _ _=>k b a q,λb a q _ _ _=>⟨a.slots,k b a q⟩,λ_ _ _ n _=>n,λb a q _=>⟨a,k b a q⟩,λ_ _ q=>q,λ_ _ _ q=>q,λ_ ps q=>⟨#[],by rw[q];simp⟩⟩
theorem Un.refl:Un fs ex H H h h:=Un.kept λ_ _ q=>q
theorem Un.laid(k:∀ b u,h.get? b=some u->h'.get? b=some u)(c:h.objs.size<=a)(hn:H a=none):Un fs ex H (upd H a o) h h' where
 keep:=λb u q _ _ _=>k b u q
 slot:=λb u q _ _ _=>⟨u.slots,k b u q⟩
 free:=λb u q n _=>by rw[Aj (AtU (Aua (Heap.lt_size q) c))];exact n
 there:=λb u q _=>⟨u,k b u q⟩
 tups:=λb xs q=>by rw[Aj (Bb q hn)];exact q
 JT:=λb u xs q=>by rw[Aj (Bb q hn)];exact q
 Nq:=λb ps q=>⟨#[],by rw[Aj (Bb q hn),q];simp⟩
theorem Un.write(f:Mut (H x))(l:e=x\/H e=some (.own x))(k:∀ b u,b≠e->h.get? b=some u->h'.get? b=some u)(j:∃ u,h'.get? e=some u):Un fs ex H (upd H x o) h h':=by
 have i:∀ b,H b=none->b≠x:=λb n z=>by subst z;rw[n] at f;exact f
 have d:∀ b,H b=none->b≠e:=λb n z=>by
  simp_all
 have c:∀ b u,H b=some u->¬Mut (some u)->b≠x:=λb u q nm z=>by simp_all
 refine⟨λb u q n _ _=>k b u (d b n) q,λb u q n _ _=>⟨u.slots,k b u (d b n) q⟩,λb u q n _=>by rw[Aj (i b n)];exact n,λb u q _=>?_,
  λb xs q=>by rw[Aj (c b _ q λz=>z)];exact q,λb u xs q=>by rw[Aj (c b _ q λz=>z)];exact q,λb ps q=>⟨#[],by rw[Aj (c b _ q λz=>z),q];simp⟩⟩;by_cases a:b=e
 ·simp_all
 ·exact⟨u,k b u a q⟩
end
def trk (h:Heap)(H:Hp):NU:=(List.range h.objs.size).filter λa=>(H a).isSome
def Rx (h:Heap)(H:Hp):Heap:=W.hideAll h (trk h H)
theorem AbP(h:Heap)(H:Hp):(Rx h H).objs.size=h.objs.size:=W.hideAll_size _ _
theorem Ae2{o:Obj}(e:h.get? b=some o)(n:H b=none):(Rx h H).get? b=some o :=
 W.hideAll_get _ e λa=>by
  have q:=(z7.mp a).2;rw[n] at q;simp at q
theorem Ahe{o:Obj}(e:(Rx h H).get? b=some o):h.get? b=some o/\H b=none:=by
 have a:=W.of_hideAll (trk h H) e;refine⟨a,?_⟩;cases q:H b with
 | none=>rfl
 | some x =>
  have c:b∈trk h H:=z7.mpr ⟨yE.mpr (Heap.lt_size a),by simp[q]⟩;have z:(Rx h H).get? b=none:=W.hideAll_none (trk h H) c;rw[z] at e;cases e
def Amn (g h:Heap)(L:Addr):NO:=(List.range h.objs.size).filterMap λa=>if a=L\/(g.get? a).isSome=true then none else (h.get? a).map λo=>(a,o)
def rest(g h:Heap)(L d:Addr):NO:=(Amn g h L).filter λp=>decide (p.1≠d)
structure Mod (K:NF)(mg:Str->NY)(base:Heap):Prop where
 kin:K.In base
 glob:base.Ns mainGlobals mg
 blt:∃ mb,base.Ns builtinsNs mb/\∀ x:Str,x ≠ "__name__" -> mb x=bootBuiltins x
 nolimit:base.NoLimit
structure Cx where
 prog:Program
 w:World
 K:NF
 mg:Str->NY
 base:Heap
 A:Around
 N:NX
 s₀:Shared
 H₀:Hp
 env:Env
 outer:List Env
 stack:List Env
 ex:NU
 fn:Str->Bool
 calm:Bool
 pn:NO
 xe:Value->Shared->Prop
def frs (l:List Env):NU:=l.filterMap (·.frame)
abbrev Cx.fs (X:Cx):NU:=frs X.outer
def Vis (sc:Scope)(x:Str):Prop:=sc.names.lookup x=some .local\/sc.names.lookup x=some .cell\/sc.names.lookup x=some .free
def Loc (sc:Scope)(x:Str):Prop:=sc.names.lookup x=some .local\/sc.names.lookup x=some .cell
def Look(env:Env)(h:Heap)(m:Str->NY)(x:Str)(u:Value):Prop :=
 (env.kindOf x=some .local/\m x=some u)\/((env.kindOf x=some .cell\/env.kindOf x=some .free)/\∃ c,env.cells.lookup x=some c/\h.IsCell c (some u))
structure Cx.Ok (X:Cx):Prop where
 mod:Mod X.K X.mg X.base
 kind:X.env.scope.kind=.function
 glob:X.env.globals=mainGlobals
 blt:X.env.builtins=builtinsNs
 above:X.s₀.heap.objs.size<=X.env.locals
 inj:∀ x y c,X.env.cells.lookup x=some c->X.env.cells.lookup y=some c->x=y
 has:∀ x,(X.env.kindOf x=some .cell\/X.env.kindOf x=some .free)->∃ c,X.env.cells.lookup x=some c
 cab:∀ x c,X.fn x=true->X.env.cells.lookup x=some c->X.s₀.heap.objs.size<=c
 hd:X.calm=true->X.A.handled=none
 frames:X.A.frames=some X.stack
 stk:X.stack=X.outer\/(X.stack=X.env::X.outer/\X.env.frame=some X.env.locals)
 exf:∀ b∈X.ex,b≠X.env.locals/\∀ x c,X.env.cells.lookup x=some c->c≠b
 bs:∀ b o,X.base.get? b=some o->X.s₀.heap.get? b=some o/\X.H₀ b=none
 bsz:X.base.objs.size<=X.s₀.heap.objs.size
 Aib:∀ b o,X.base.get? b=some o->b∉X.ex
 Aic:∀ b∈X.ex,b∉X.fs
 V9:X.s₀.heap.FunFrames X.base X.outer
 frf:∀ b∈X.fs,X.H₀ b=none
structure Inv (X:Cx)(pins:NO)(σ:List (Option V))(H:Hp)(s:Shared):Prop where
 ok:X.Ok
 os:s.os=X.s₀.os
 bare:AllBare s.gens
 base:Un X.fs X.ex X.H₀ H X.s₀.heap s.heap
 loc:∃ m,s.heap.Ns X.env.locals m/\∀(i:Nat)(x:Str)(v:V),X.N[i]?=some x->σ[i]?=some (some v)->Vis X.env.scope x->∃ u,RelV v u/\Look X.env s.heap m x u
 cell:∀ x c,X.env.cells.lookup x=some c->∃ v,s.heap.IsCell c v
 free:H X.env.locals=none
 Mr:∀ x c,X.env.cells.lookup x=some c->H c=none
 pin:∀ p∈X.pn++pins,s.heap.get? p.1=some p.2/\H p.1=none/\p.1≠X.env.locals/\p.1∉X.fs/\∀ v,p.2.data≠.cell v
 hok:HOk X.prog X.w H s.heap
 len:σ.length=X.N.length
section
variable {σ:List (Option V)}
theorem Cx.Ok.As7(ok:X.Ok){o:Obj}(e:X.base.get? b=some o):b∉X.fs:=λa=>by
 have:= (ok.V9.mem a).1;rw[e] at this;cases this
theorem Inv.bs(I:Inv X pins σ H s):∀ b o,X.base.get? b=some o->s.heap.get? b=some o/\H b=none:=λb o e =>
 ⟨I.base.keep b o (I.ok.bs b o e).1 (I.ok.bs b o e).2 (I.ok.As7 e) (I.ok.Aib b o e),I.base.free b o (I.ok.bs b o e).1 (I.ok.bs b o e).2 (I.ok.Aib b o e)⟩
theorem Inv.bk(I:Inv X pins σ H s):∀ b o,X.base.get? b=some o->s.heap.get? b=some o:=λb o e=>(I.bs b o e).1
theorem Inv.mod(I:Inv X pins σ H s):Mod X.K X.mg X.base:=I.ok.mod
theorem Inv.kIn(I:Inv X pins σ H s):X.K.In s.heap:=I.ok.mod.kin.keeps I.bk
theorem Inv.nolimit(I:Inv X pins σ H s):s.heap.NoLimit:=I.ok.mod.nolimit.keeps I.bk
theorem Inv.lt(I:Inv X pins σ H s):X.env.locals<s.heap.objs.size:=let ⟨_,hn,_⟩:=I.loc;hn.lt
theorem Inv.sz(I:Inv X pins σ H s):X.s₀.heap.objs.size<=s.heap.objs.size:=AtW I.ok.above (Auu I.lt)
theorem Inv.AoM(I:Inv X pins σ H s)(h:s.heap.objs.size<=a):a∉X.fs:=λc=>by
 obtain⟨_,o,b,_⟩:=I.ok.V9.mem c;exact absurd (Aua (Heap.lt_size b) (AtW I.sz h)) (Au7 _)
theorem Inv.cne(I:Inv X pins σ H s):∀ x c,X.env.cells.lookup x=some c->c≠X.env.locals:=λx c e z=>by
 obtain⟨v,o,d,h⟩:=I.cell x c e;obtain⟨m,⟨o',es,f,b,a,_⟩,_⟩:=I.loc;grind
theorem Inv.V9(I:Inv X pins σ H s):s.heap.FunFrames X.base X.outer:=by
 have all:∀(l:List Env),(∀ b∈frs l,b∈X.fs)->X.s₀.heap.FunFrames X.base l->s.heap.FunFrames X.base l:=by
  intro l
  induction l with
  | nil=>intro _ _;trivial
  | cons env r i =>
   intro f m;obtain⟨hk,⟨L,o,c,hn,n,j⟩,h⟩:=m;have d:=f L (by unfold frs;rw[Av1,c];exact AtJ);obtain⟨p,e⟩:=I.base.slot L o n (I.ok.frf L d) d λz=>I.ok.Aic L z d;exact⟨hk,⟨L,_,c,hn,e,j⟩,i (λb a=>f b (by unfold frs;rw[Av1,c];exact AtL _ a)) h⟩
 exact all X.outer (λ_ a=>a) I.ok.V9
theorem Inv.stack(I:Inv X pins σ H s):s.heap.FunFrames X.base X.stack:=by
 rcases I.ok.stk with e | ⟨e,a⟩
 ·rw[e];exact I.V9
 ·rw[e];obtain⟨m,hn,_⟩:=I.loc;refine .cons (by rw[I.ok.kind];decide) a hn ?_ I.V9;exact Heap.get?_none_of_le (AtW I.ok.bsz I.ok.above)
theorem Inv.Age(I:Inv X pins σ H s):∀ b∈frs X.stack,b∈X.env.locals::X.fs:=λb a=>by
 rcases I.ok.stk with e | ⟨e,c⟩
 ·rw[e] at a;exact AtL _ a
 ·rw[e] at a;unfold frs at a;rw[Av1,c] at a;exact a
theorem Inv.AcS(I:Inv X pins σ H s):∀ b∈frs X.stack,H b=none:=λb a=>by
 rcases yD.mp (I.Age b a) with e | a
 ·rw[e];exact I.free
 ·obtain⟨_,o,c,_⟩:=I.ok.V9.mem a;exact I.base.free b o c (I.ok.frf b a) λz=>I.ok.Aic b z a
theorem Inv.step(I:Inv X pins σ H s)
  (f:∀ b∈ch,(b∈X.ex\/X.s₀.heap.objs.size<=b)/\b≠X.env.locals/\(∀ x c,X.env.cells.lookup x=some c->c≠b)/\∀ p∈X.pn++pins,p.1≠b)
  (keep:∀ b o,b≠X.env.locals->b∉X.fs->b∉ch->s.heap.get? b=some o->H b=none->h'.get? b=some o)
  (y:∀ b o,b≠X.env.locals->b∈X.fs->b∉ch->s.heap.get? b=some o->H b=none->∃ L,h'.get? b=some { o with slots:=L }) (free:∀ b o,b∉ch->s.heap.get? b=some o->H b=none->H' b=none)
  (B:∀ b o,b∉ch->s.heap.get? b=some o->∃ o',h'.get? b=some o')
  (E:∀ b xs,H b=some (.tup xs)->H' b=some (.tup xs)) (P:∀ b o u,H b=some (.frz o u)->H' b=some (.frz o u)) (R:∀ b ps,H b=some (.tbl ps)->∃ more,H' b=some (.tbl (ps++more)))
  (ns:∀ m,s.heap.Ns X.env.locals m->h'.Ns X.env.locals m) (F:HOk X.prog X.w H' h') (O:AllBare g') :
  Inv X pins σ H' { s with heap:=h',gens:=g',drawn:=d',toks:=t' }:=by
 have D:∀ b o,X.s₀.heap.get? b=some o->b≠X.env.locals:=λb o e=>AtU (Aua (Heap.lt_size e) I.ok.above);have t:∀ b o,X.s₀.heap.get? b=some o->b∉X.ex->b∉ch:=λb o e a A=>by
  rcases(f b A).1 with z | z
  ·exact a z
  ·exact absurd (Aua (Heap.lt_size e) z) (Au7 _)
 have j:∀ x c,X.env.cells.lookup x=some c->∀ v,s.heap.IsCell c v->h'.IsCell c v:=λx c e v ⟨o,C,J⟩=>by
  have h:=λz=>(f c z).2.2.1 x c e Z;by_cases hc:c∈X.fs
  ·obtain⟨L,q⟩:=y c o (I.cne x c e) hc h C (I.Mr x c e);exact⟨_,q,J⟩
  ·exact⟨o,keep c o (I.cne x c e) hc h C (I.Mr x c e),J⟩
 refine⟨I.ok,I.os,O,⟨λb o e n A a=>?_,λb o e n A a=>?_,λb o e n a=>?_,λb o e a=>?_,λb xs e=>E b xs (I.base.tups b xs e),λb o xs e=>P b o xs (I.base.JT b o xs e),λb ps e=>?_⟩,?_,λx c e=>?_,?_,λx c e=>?_,λp N=>?_,F,I.len⟩
 ·exact keep b o (D b o e) A (t b o e a) (I.base.keep b o e n A a) (I.base.free b o e n a)
 ·obtain⟨L,e1⟩:=I.base.slot b o e n A a;obtain⟨K,e2⟩:=y b _ (D b o e) A (t b o e a) e1 (I.base.free b o e n a);exact⟨K,e2⟩
 ·obtain⟨o',e1⟩:=I.base.there b o e a;exact free b o' (t b o e a) e1 (I.base.free b o e n a)
 ·obtain⟨o',e1⟩:=I.base.there b o e a;exact B b o' (t b o e a) e1
 ·obtain⟨m1,e1⟩:=I.base.Nq b ps e;obtain⟨m2,e2⟩:=R b _ e1;exact⟨m1++m2,by rw[e2,Array.append_assoc]⟩
 ·obtain⟨m,hn,Q⟩:=I.loc;refine⟨m,ns m hn,λi x v e1 e2 e3=>?_⟩;obtain⟨u,r,l⟩:=Q i x v e1 e2 e3;refine⟨u,r,?_⟩;rcases l with l | ⟨k,c,e,z⟩
  ·exact .inl l
  ·exact .inr ⟨k,c,e,j x c e _ z⟩
 ·obtain⟨v,z⟩:=I.cell x c e;exact⟨v,j x c e v z⟩
 ·obtain⟨m,⟨o,_,_,C,_⟩,_⟩:=I.loc;exact free _ o (λz=>(f _ z).2.1 Z) C I.free
 ·obtain⟨v,o,C,J⟩:=I.cell x c e;exact free c o (λz=>(f c z).2.2.1 x c e Z) C (I.Mr x c e)
 ·obtain⟨e,n,ne,M,d⟩:=I.pin p N;have h:=λz=>(f p.1 z).2.2.2 p N Z;exact⟨keep p.1 p.2 ne M h e n,free p.1 p.2 h e n,ne,M,d⟩
theorem Inv.un(I:Inv X pins σ H s)(u:Un X.fs [] H H' s.heap h')(h:HOk X.prog X.w H' h'):Inv X pins σ H' { s with heap:=h',toks:=t' }:=by
 obtain⟨m,⟨o,es,q,i,r⟩,_⟩:=id I.loc;obtain⟨v,l⟩:=u.any i I.free (by simp);exact I.step (ch:=[]) (λ_ z=>nomatch z) (λb o _ c _ e n=>u.keep b o e n c (by simp)) (λb o _ c _ e n=>u.slot b o e n c (by simp)) (λb o _ e n=>u.free b o e n (by simp)) (λb o _ e=>u.there b o e (by simp)) u.tups u.JT u.Nq (λt j=>by
  obtain⟨o',d,f,a,p⟩:=j;rw[i] at a;cases a;exact⟨_,d,f,l,p⟩) h I.bare
theorem Inv.call(I:Inv X pins σ H s)(u:Un (frs X.stack) ch H H' s.heap h')(j:HOk X.prog X.w H' h')(t:AllBare g')
  (d:∀ b∈ch,(b∈X.ex\/X.s₀.heap.objs.size<=b)/\b≠X.env.locals/\(∀ x c,X.env.cells.lookup x=some c->c≠b)/\∀ p∈X.pn++pins,p.1≠b) :
  Inv X pins σ H' { s with heap:=h',gens:=g',drawn:=d',toks:=t' }:=by
 obtain⟨m,⟨o,es,A,l,r⟩,_⟩:=id I.loc;obtain⟨C,h⟩:=u.any l I.free λz=>(d _ z).2.1 Z;exact I.step d (λb o h q hc e n=>u.keep b o e n (λz=>(yD.mp (I.Age b z)).elim h q) hc) (λb o _ _ hc e n=>u.any e n hc) (λb o hc e n=>u.free b o e n hc) (λb o hc e=>u.there b o e hc) u.tups u.JT u.Nq (λB v=>by
  obtain⟨o',i,f,a,y⟩:=v;rw[l] at a;cases a;exact⟨_,i,f,h,y⟩) j t
theorem Inv.turned(I:Inv X pins σ H s)(k:∀ b o,b≠it->s.heap.get? b=some o->h'.get? b=some o)(hn:H it=none)(d:it≠X.env.locals)
  (h1:it∈X.ex\/X.s₀.heap.objs.size<=it) (h2:∀ x c,X.env.cells.lookup x=some c->c≠it) (h3:∀ p∈X.pn++pins,p.1≠it):Inv X pins σ H { s with heap:=h',toks:=t' }:=by
 have a:∀ b u,H b=some u->b≠it:=λb u e z=>by grind
 refine I.step (ch:=[it]) (λb f=>?_) (λb o _ _ hc e _=>k b o (λz=>hc (by simp[z])) e) (λb o _ _ hc e _=>⟨o.slots,k b o (λz=>hc (by simp[z])) e⟩) (λ_ _ _ _ n=>n)
  (λb o hc e=>⟨o,k b o (λz=>hc (by simp[z])) e⟩) (λ_ _ e=>e) (λ_ _ _ e=>e) (λb ps e=>⟨#[],by rw[e];simp⟩) (λm i=>?_) (λb u e=>?_) I.bare
 ·have e:b=it:=by simpa using f
  subst e;exact⟨h1,d,h2,h3⟩
 ·obtain⟨o,es,h,j,r⟩:=i;exact⟨o,es,h,k _ o (Ne.symm d) j,r⟩
 ·refine(I.hok b u e).stay (λc v hc q=>k c v ?_ q) (λ_ q=>q) λ_ _ q=>q;rcases hc with z | z
  ·rw[z];exact a b u e
  ·exact a c _ z
theorem Inv.tok(I:Inv X pins σ H s)(t:Nat):Inv X pins σ H { s with toks:=t }:=I.un (h':=s.heap) (t':=t) Un.refl I.hok
theorem Inv.kept(I:Inv X pins σ H s)(k:∀ b u,s.heap.get? b=some u->h'.get? b=some u):Inv X pins σ H { s with heap:=h',toks:=t' }:=I.un (Un.kept k) (I.hok.kept k)
theorem Inv.laid(I:Inv X pins σ H s)(k:∀ b u,s.heap.get? b=some u->h'.get? b=some u)(c:s.heap.objs.size<=a)(new:Ei X.prog X.w (upd H a o) h' a o) :
  Inv X pins σ (upd H a o) { s with heap:=h',toks:=t' }:=I.un (Un.laid k c (I.hok.fresh c)) (I.hok.laid k c new)
theorem Inv.write{x e:Addr}(I:Inv X pins σ H s)(d:Mut (H x))(c:e=x\/H e=some (.own x))(k:∀ b u,b≠e->s.heap.get? b=some u->h'.get? b=some u)(a:∃ u,h'.get? e=some u)
  (new:Ei X.prog X.w (upd H x o) h' x o):Inv X pins σ (upd H x o) { s with heap:=h',toks:=t' }:=I.un (Un.write d c k a) (I.hok.write d c k a new)
theorem Inv.HR{Ajw:NO}(I:Inv X pins σ H s)(h:∀ p∈Ajw,s.heap.get? p.1=some p.2/\H p.1=none/\p.1≠X.env.locals/\p.1∉X.fs/\∀ v,p.2.data≠.cell v):Inv X Ajw σ H s :=
 ⟨I.ok,I.os,I.bare,I.base,I.loc,I.cell,I.free,I.Mr,λp a=>(zG.mp a).elim (λz=>I.pin p (AuQ _ z)) (h p),I.hok,I.len⟩
theorem Ae3(c:N.Nodup)(a:N[i]?=some x)(b:N[j]?=some x):i=j:=by obtain⟨h1,e1⟩:=zC.mp a;obtain⟨h2,e2⟩:=zC.mp b;exact(List.getElem_inj c).mp (e1.trans e2.symm)
theorem AbQ(I:Inv X pins σ H s)(hN:X.N.Nodup)(hi:X.N[i]?=some x)(t:Loc X.env.scope x)(r:RelV v u)
  (h:∀ s',Inv X pins (σ.set i (some v)) H s'->(∃ a,Heap.SameBut a s.heap s'.heap/\(a=X.env.locals\/X.env.cells.lookup x=some a))->Q () s') (hf:X.fn x=true\/X.env.scope.names.lookup x=some .local:=by first | exact .inl Z | exact .inr Z | assumption):wpAny M A (storeName X.env x u) Q E s:=by
 obtain⟨m,hn,hl⟩:=id I.loc;have L:(X.env.scope.kind == .class || (X.env.scope.kind == .module && X.env.locals != X.env.globals))=false:=by rw[I.ok.kind];rfl
 have B:i<σ.length:=by rw[I.len];exact(zC.mp hi).1
 have cne:=I.cne;have l:∀{a:Addr} {h':Heap},(∃ o,s.heap.get? a=some o/\H a=none)->Heap.SameBut a s.heap h'->HOk X.prog X.w H h':=λ{a h'} ha f b ob e=>by
  obtain⟨_,_,Y⟩:=ha;refine(I.hok b ob e).stay (λc P hc q=>(f.2 c ?_).trans q) (λ_ q=>q) λ_ _ q=>q;rintro rfl;grind
 rcases t with hk | hk
 ·refine wpAny_storeName_local hk hn (λh' a6 f=>?_) L;obtain⟨oL,_,_,R,_⟩:=id hn;refine h _ ⟨I.ok,I.os,I.bare,⟨λb o e n C t=>?_,λb o e n C t=>?_,I.base.free,λb o e t=>?_,I.base.tups,I.base.JT,I.base.Nq⟩,⟨_,a6,λj y W e1 e2 e3=>?_⟩,λy c e=>?_,I.free,I.Mr,λp T=>?_,l ⟨oL,R,I.free⟩ f,by simpa using I.len⟩ ⟨_,f,.inl Z⟩
  ·exact(f.2 b (AtU (Aua (Heap.lt_size e) I.ok.above))).trans (I.base.keep b o e n C t)
  ·obtain⟨sl,e1⟩:=I.base.slot b o e n C t;exact⟨sl,(f.2 b (AtU (Aua (Heap.lt_size e) I.ok.above))).trans e1⟩
  ·obtain⟨o',e1⟩:=I.base.there b o e t;exact⟨o',(f.2 b (AtU (Aua (Heap.lt_size e) I.ok.above))).trans e1⟩
  ·by_cases F:j=i
   ·subst F;rw[hi] at e1;cases e1;rw[AuW B] at e2;cases e2;exact⟨u,r,.inl ⟨hk,by simp⟩⟩
   ·rw[Avl (Ne.symm F)] at e2;obtain⟨u',U,q⟩:=hl j y W e1 e2 e3;refine⟨u',U,?_⟩;rcases q with ⟨k,e⟩ | ⟨k,c,e,z⟩
    ·refine .inl ⟨k,?_⟩;have:y≠x:=λe=>F (Ae3 hN e1 (e▸hi));simp[this,e]
    ·exact .inr ⟨k,c,e,z.sameBut f (cne y c e)⟩
  ·obtain⟨P,z⟩:=I.cell y c e;exact⟨P,z.sameBut f (cne y c e)⟩
  ·obtain⟨e,n,ne,S,d⟩:=I.pin p T;exact⟨(f.2 p.1 ne).trans e,n,ne,S,d⟩
 ·have D:X.fn x=true:=by
   simp_all
  obtain⟨c,hc⟩:=I.ok.has x (.inl hk);obtain⟨P,z⟩:=I.cell x c hc;refine wpAny_storeName_cell I.ok.kind hk hc z (λh' K f=>?_);obtain⟨oc,J,a0⟩:=id z;refine h { s with heap:=h' } ⟨I.ok,I.os,I.bare,⟨λb o e n C t=>?_,λb o e n C t=>?_,I.base.free,λb o e t=>?_,I.base.tups,I.base.JT,I.base.Nq⟩,⟨m,hn.sameBut f (Ne.symm (cne x c hc)),λj y W e1 e2 e3=>?_⟩,λy c' e=>?_,I.free,I.Mr,λp T=>?_,l ⟨oc,J,I.Mr x c hc⟩ f,by simpa using I.len⟩ ⟨c,f,.inr hc⟩
  ·exact(f.2 b (AtU (Aua (Heap.lt_size e) (I.ok.cab x c D hc)))).trans (I.base.keep b o e n C t)
  ·obtain⟨sl,e1⟩:=I.base.slot b o e n C t;exact⟨sl,(f.2 b (AtU (Aua (Heap.lt_size e) (I.ok.cab x c D hc)))).trans e1⟩
  ·obtain⟨o',e1⟩:=I.base.there b o e t;exact⟨o',(f.2 b (AtU (Aua (Heap.lt_size e) (I.ok.cab x c D hc)))).trans e1⟩
  ·by_cases F:j=i
   ·subst F;rw[hi] at e1;cases e1;rw[AuW B] at e2;cases e2;exact⟨u,r,.inr ⟨.inl hk,c,hc,K⟩⟩
   ·rw[Avl (Ne.symm F)] at e2;obtain⟨u',U,q⟩:=hl j y W e1 e2 e3;refine⟨u',U,?_⟩;rcases q with q | ⟨k,c',e,z'⟩
    ·exact .inl q
    ·refine .inr ⟨k,c',e,z'.sameBut f ?_⟩;rintro rfl;exact F (Ae3 hN e1 (I.ok.inj _ _ _ e hc▸hi))
  ·by_cases O:c'=c
   ·subst O;exact⟨_,K⟩
   ·obtain⟨w2,z2⟩:=I.cell y c' e;exact⟨w2,z2.sameBut f O⟩
  ·obtain⟨e,n,ne,S,d⟩:=I.pin p T;refine⟨(f.2 p.1 ?_).trans e,n,ne,S,d⟩;intro q;rw[q,J] at e;have q':=Option.some.inj e;exact d P (by rw[<- q'];exact a0)
theorem Z0(I:Inv X pins σ H s)(a:X.N.Nodup)(hi:X.N[i]?=some x)(c:Loc X.env.scope x)(r:RelV v u)
  (h:∀ s',Inv X pins (σ.set i (some v)) H s'->Q () s') (d:X.fn x=true\/X.env.scope.names.lookup x=some .local:=by first | exact .inl Z | exact .inr Z | assumption):wpAny M A (storeName X.env x u) Q E s :=
 AbQ I a hi c r (λs' b _=>h s' b) d
theorem Inv.call'(I:Inv X pins σ H s)(h:s'.os=s.os)(u:Un (frs X.stack) ch H H' s.heap s'.heap)(d:HOk X.prog X.w H' s'.heap)(f:AllBare s'.gens)
  (a:∀ b∈ch,(b∈X.ex\/X.s₀.heap.objs.size<=b)/\b≠X.env.locals/\(∀ x c,X.env.cells.lookup x=some c->c≠b)/\∀ p∈X.pn++pins,p.1≠b):Inv X pins σ H' s':=by
 obtain⟨h',g',d',t',o'⟩:=s';have e:o'=s.os:=h;subst e;exact I.call u d f a
end
abbrev XK:=Value->Option Addr->Hp->Prop
abbrev St:=List (Option V)
abbrev VK:=V->Hp->Prop
abbrev TE:=St->Hp->VK->Prop
abbrev TT:=St->Hp->(Bool->Hp->Prop)->Prop
abbrev TA:=St->Hp->(Na->Hp->Prop)->Prop
structure Ends where
 nx:St->Hp->Prop
 rt:VK
 bk:St->Hp->Prop:=λ_ _=>False
 ct:St->Hp->Prop:=λ_ _=>False
abbrev TS:=Ends->St->Hp->Prop
def EP (X:Cx)(pins:NO)(σ:St)(Q:VK)(u:Value)(s':Shared):Prop:=∃ v H',Inv X pins σ H' s'/\RelV v u/\Q v H'
def TP (X:Cx)(pins:NO)(σ:St)(Q:Bool->Hp->Prop)(b:Bool)(s':Shared):Prop:=∃ H',Inv X pins σ H' s'/\Q b H'
def AP (X:Cx)(pins:NO)(σ:St)(Q:Na->Hp->Prop)(us:NW)(s':Shared):Prop:=∃ vs H',Inv X pins σ H' s'/\Vals vs us/\Q vs H'
def SP (X:Cx)(pins:NO)(D:Ends)(f:Flow)(s':Shared):Prop :=
 match f with
 | .next=>∃ σ' H',Inv X pins σ' H' s'/\D.nx σ' H'
 | .brk=>∃ σ' H',Inv X pins σ' H' s'/\D.bk σ' H'
 | .cont=>∃ σ' H',Inv X pins σ' H' s'/\D.ct σ' H'
 | .ret u=>∃ v σ' H',Inv X pins σ' H' s'/\RelV v u/\D.rt v H'
def PE (X:Cx)(e:Expr)(t:TE):Prop :=
 ∀(pins:NO)(s:Shared)(σ:St)(H:Hp)(Q:VK),Inv X pins σ H s->t σ H Q->wpAny (model X.prog X.w) X.A (eval e X.env) (EP X pins σ Q) X.xe s
def PT (X:Cx)(e:Expr)(t:TT):Prop :=
 ∀(pins:NO)(s:Shared)(σ:St)(H:Hp)(Q:Bool->Hp->Prop),Inv X pins σ H s->t σ H Q->wpAny (model X.prog X.w) X.A (isTrue e X.env (eval e X.env)) (TP X pins σ Q) X.xe s
def PW (X:Cx)(e:Expr)(t:TT):Prop :=
 ∀(whole:Sem Value)(pins:NO)(s:Shared)(σ:St)(H:Hp)(Q:Bool->Hp->Prop),Inv X pins σ H s->t σ H Q->wpAny (model X.prog X.w) X.A (isTrue e X.env whole) (TP X pins σ Q) X.xe s
theorem PW.pt{t:TT}(h:PW X e t):PT X e t:=h _
def PA (X:Cx)(es:List Expr)(t:TA):Prop :=
 ∀(pos:Pos)(pins:NO)(s:Shared)(σ:St)(H:Hp)(Q:Na->Hp->Prop),Inv X pins σ H s->t σ H Q->wpAny (model X.prog X.w) X.A (spliced (backTo pos (starEach es X.env))) (AP X pins σ Q) X.xe s
def PS (X:Cx)(st:Stmt)(t:TS):Prop :=
 ∀(pins:NO)(s:Shared)(σ:St)(H:Hp)(D:Ends),Inv X pins σ H s->t D σ H->wpAny (model X.prog X.w) X.A (exec st X.env) (SP X pins D) X.xe s
def PSs (X:Cx)(st:List Stmt)(t:TS):Prop :=
 ∀(pins:NO)(s:Shared)(σ:St)(H:Hp)(D:Ends),Inv X pins σ H s->t D σ H->wpAny (model X.prog X.w) X.A (execs st X.env) (SP X pins D) X.xe s
theorem thn{t:Sem α}{Q b:α->Shared->Prop}(h:wpAny M A t Q E s)(c:∀ a s,Q a s->b a s):wpAny M A t b E s:=zT h c λ_ _ x=>x
section
inductive AqA (i:Nat)(σ:St)(H:Hp)(Q:VK):Prop
|mk(v:_)(_:σ[i]?=some (some v))(_:Q v H)
def tC (v:V):TE:=λ_ H Q=>Q v H
theorem Agf(o:X.N[i]?=some x)(n:Vis X.env.scope x)(d:(x == ("__debug__" : Str))=false:=by decide) (b:(x == ("__classdict__" : Str))=false:=by decide):PE X (.Name x pos) (AqA i):=by
 intro pins s σ H Q I h;obtain⟨v,e,h⟩:=h;obtain⟨m,hn,f⟩:=I.loc;obtain⟨u,r,l⟩:=f i x v o e n;have fin:EP X pins σ Q u s:=⟨v,H,I,r,h⟩;rcases l with ⟨hk,j⟩ | ⟨hk,c,hc,a⟩
 ·exact wpAny_Name (wpAny_loadName_local I.ok.kind hk hn j fin) d
 ·rcases hk with hk | hk
  ·exact wpAny_Name (wpAny_loadName_cell I.ok.kind hk hc a fin) d
  ·exact wpAny_Name (wpAny_loadName_free I.ok.kind hk hc a fin b) d
theorem Af{i j pos}:PE X (.Constant (.int i) j pos) (tC (.int i)):=λ_ _ _ H _ I h=>wpAny_Constant_int ⟨.int i,H,I.tok _,⟨_,Z⟩,h⟩
theorem Gb{b j pos}:PE X (.Constant (.bool b) j pos) (tC (.bl b)):=λ_ _ _ H _ I h=>Constant_bool ⟨.bl b,H,I,Z,h⟩
theorem JF{j pos}:PE X (.Constant .none j pos) (tC .non):=λ_ _ _ H _ I h=>Constant_none ⟨.non,H,I,Z,h⟩
theorem Av{x j pos}:PE X (.Constant (.str x) j pos) (tC (.str x)):=λ_ _ _ H _ I h=>Calls.Constant_str ⟨.str x,H,I.tok _,⟨_,Z⟩,h⟩
def Gl (X:Cx)(x:Str):Prop:=X.env.kindOf x=some .globalImplicit
theorem AcT{Q:NR}(I:Inv X pins σ H s)(b:Gl X x)(c:X.mg x=some u)(h:Q u s)
  (a:(x == ("__debug__" : Str))=false:=by decide):wpAny (model X.prog X.w) X.A (eval (.Name x pos) X.env) Q E s :=
 Calls.Name_function_global I.ok.kind b (Calls.loadGlobal_global (by rw[I.ok.glob];exact I.mod.glob.keeps I.bk) c h) a
theorem Hr{Q:NR}(I:Inv X pins σ H s)(c:Gl X x)(b:X.mg x=none)(a:bootBuiltins x=some u)(h:Q u s)
  (hn:x ≠ "__name__" := by decide) (d:(x == ("__debug__" : Str))=false:=by decide):wpAny (model X.prog X.w) X.A (eval (.Name x pos) X.env) Q E s:=by
 obtain⟨mb,h1,h2⟩:=I.mod.blt;exact Calls.Name_function_global I.ok.kind c (Calls.loadGlobal_builtin (by rw[I.ok.glob];exact I.mod.glob.keeps I.bk) b (by rw[I.ok.blt];exact h1.keeps I.bk) ((h2 x hn).trans a) h) d
theorem CG(b:Gl X x)(a:X.mg x=some u)(r:RelV v u)(c:(x == ("__debug__" : Str))=false:=by decide):PE X (.Name x pos) (tC v) :=
 λ_ _ _ H _ I h=>AcT I b a ⟨v,H,I,r,h⟩ c
theorem GQ(c:Gl X x)(b:X.mg x=none)(a:bootBuiltins x=some u)(r:RelV v u)(hn:x ≠ "__name__" := by decide) (d:(x == ("__debug__" : Str))=false:=by decide):PE X (.Name x pos) (tC v) :=
 λ_ _ _ H _ I h=>Hr I c b a ⟨v,H,I,r,h⟩ hn d
variable {a b:Expr}{tb:TE}
def PC (X:Cx)(op:CmpOp)(a b:Expr)(t:TE):Prop :=
 ∀(pins:NO)(s:Shared)(σ:St)(H:Hp)(Q:VK),Inv X pins σ H s->t σ H Q ->
  wpAny (model X.prog X.w) X.A (eval a X.env) (λv s₁=>wpAny (model X.prog X.w) X.A (eval b X.env) (λu s₂=>wpAny (model X.prog X.w) X.A (compareOp op v u) (EP X pins σ Q) X.xe s₂) X.xe s₁) X.xe s
theorem Ajx(b:Expr)(h:op≠.In)(h2:op≠.NotIn):behindInMarks op b=false:=by
 have e1:(op == CmpOp.In)=false:=by grind
 have e2:(op == CmpOp.NotIn)=false:=by grind
 cases b <;> simp[behindInMarks,e1,e2]
inductive As9 (Q:(Bool->Hp->Prop))(x:V)(H1:Hp):Prop
|mk(c:_)(_:x=.bl c)(_:Q c H1)
def tB (t:TE)(σ:St)(H:Hp)(Q:(Bool->Hp->Prop)):Prop:=t σ H (As9 Q)
theorem Agg(h:PC X op a b t)(h1:behindInMarks op b=false:=by first | exact Ajx _ (by decide) (by decide) | rfl):PT X (.Compare a [op] [b] pos) (tB t):=by intro pins s σ H Q I i;refine wpAny_isTrue_Compare1 (thn (h pins s σ H _ I i) λv s1 h1=>thn h1 λu l h2=>thn h2 λc m ⟨x,H1,e,f,j⟩=>?_) h1;obtain⟨d,rfl,q⟩:=j;cases f;exact yB ⟨H1,e,q⟩
theorem Ck(h:PE X e t)(c:∀ whole,isTrue e X.env whole=(do let v <- whole;standAt e.pos;holding [v] (truthy v)):=by intro _;rfl):PT X e (tB t):=by intro pins s σ H Q I f;refine isTrue_plain (thn (h pins s σ H _ I f) λv s1 ⟨x,H1,a,b,i⟩=>?_) (c _);obtain⟨d,rfl,q⟩:=i;cases b;exact yB ⟨H1,a,q⟩
variable {tA tB':TT}{rest:List Expr}
abbrev AoN (u:TT)(σ:St)(Q:(Bool->Hp->Prop))(c:Bool)(H1:Hp):Prop:=if c=true then u σ H1 Q else Q false H1
def AsA (t:TT)(u:TT)(σ:St)(H:Hp)(Q:(Bool->Hp->Prop)):Prop:=t σ H (AoN u σ Q)
abbrev AqB (u:TT)(σ:St)(Q:(Bool->Hp->Prop))(c:Bool)(H1:Hp):Prop:=if c=true then Q true H1 else u σ H1 Q
def tOr (t:TT)(u:TT)(σ:St)(H:Hp)(Q:(Bool->Hp->Prop)):Prop:=t σ H (AqB u σ Q)
abbrev AoO (Q:(Bool->Hp->Prop))(c:Bool)(H1:Hp):Prop:=Q (!c) H1
def AsB (t:TT)(σ:St)(H:Hp)(Q:(Bool->Hp->Prop)):Prop:=t σ H (AoO Q)
theorem pw_and1(b:PT X a tA):PW X (.BoolOp .And [a] pos) tA:=by
 intro d pins s σ H Q I h;refine isTrue_and (thn (b pins s σ H Q I h) λc s1 e=>?_);cases c with
 | true=>exact isTrue_and_nil e
 | false=>exact e
theorem pw_or1(b:PT X a tA):PW X (.BoolOp .Or [a] pos) tA:=by
 intro d pins s σ H Q I h;refine isTrue_or (thn (b pins s σ H Q I h) λc s1 e=>?_);cases c with
 | false=>exact isTrue_or_nil e
 | true=>exact e
theorem pw_and(j:PT X a tA)(i:PW X (.BoolOp .And (b::rest) pos) tB'):PW X (.BoolOp .And (a::b::rest) pos) (AsA tA tB'):=by
 intro f pins s σ H Q I h;refine isTrue_and (thn (j pins s σ H _ I h) λc s1 ⟨H1,d,e⟩=>?_);cases c with
 | true=>exact i f pins s1 σ H1 Q d e
 | false=>exact⟨H1,d,e⟩
theorem pw_or(j:PT X a tA)(i:PW X (.BoolOp .Or (b::rest) pos) tB'):PW X (.BoolOp .Or (a::b::rest) pos) (tOr tA tB'):=by
 intro f pins s σ H Q I h;refine isTrue_or (thn (j pins s σ H _ I h) λc s1 ⟨H1,d,e⟩=>?_);cases c with
 | true=>exact⟨H1,d,e⟩
 | false=>exact i f pins s1 σ H1 Q d e
theorem CQ(b:PT X a tA):PT X (.UnaryOp .Not a pos) (AsB tA):=by intro pins s σ H Q I h;exact isTrue_not (b pins s σ H (λc H1=>Q (!c) H1) I h)
inductive Amo (tb:TE)(σ:St)(Q:VK)(x:V)(H1:Hp):Prop
|mk(c:_)(_:x=.bl c)(_:if c=true then tb σ H1 Q else Q (.bl false) H1)
def AqC (ta:TE)(tb:TE)(σ:St)(H:Hp)(Q:VK):Prop:=ta σ H (Amo tb σ Q)
inductive Amp (Q:VK)(x:V)(H1:Hp):Prop
|mk(c:_)(_:x=.bl c)(_:Q (.bl (!c)) H1)
def AqD (ta:TE)(σ:St)(H:Hp)(Q:VK):Prop:=ta σ H (Amp Q)
theorem Ajy{op}(h:PE X a t):PE X (.BoolOp op [a] pos) t:=λpins s σ H Q I b=>BoolOp_one (h pins s σ H Q I b)
theorem Ajz(j:PE X a ta)(i:PE X (.BoolOp .And (b::rest) pos) tb):PE X (.BoolOp .And (a::b::rest) pos) (AqC ta tb):=by
 intro pins s σ H Q I h;refine BoolOp_and (thn (j pins s σ H _ I h) λv s1 ⟨x,H1,e,f,d⟩=>?_);obtain⟨c,rfl,d⟩:=d;cases f;refine yB ?_;cases c with
 | true=>exact i pins s1 σ H1 Q e d
 | false=>exact⟨.bl false,H1,e,Z,d⟩
theorem AoP(f:PE X a ta):PE X (.UnaryOp .Not a pos) (AqD ta):=by intro pins s σ H Q I h;refine UnaryOp_ (thn (f pins s σ H _ I h) λv s1 ⟨x,H1,d,e,b⟩=>?_);obtain⟨c,rfl,b⟩:=b;cases e;exact not_of (yB ⟨.bl (!c),H1,d,Z,b⟩)
abbrev AqE (ta:TE)(tb:TE)(σ:St)(Q:VK)(c:Bool)(H1:Hp):Prop:=if c=true then ta σ H1 Q else tb σ H1 Q
def tIf (t:TT)(ta:TE)(tb:TE)(σ:St)(H:Hp)(Q:VK):Prop:=t σ H (AqE ta tb σ Q)
theorem JV(hc:PT X c tA)(j:PE X a ta)(i:PE X b tb):PE X (.IfExp c a b pos) (tIf tA ta tb):=by
 intro pins s σ H Q I h;refine wpAny_IfExp (thn (hc pins s σ H _ I h) λd s1 ⟨H1,e,f⟩=>?_);cases d with
 | true=>exact j pins s1 σ H1 Q e f
 | false=>exact i pins s1 σ H1 Q e f
end
def SqL (K:NF)(H:Hp)(a:Addr)(xs:Na):Prop :=
 Rd H a (.lst xs) \/
  ∃(o:Obj)(its:Array Value)(n:Nat),K.lookup a=some o/\o.cls=.type "list" /\ o.dict=none/\o.data=.seq its n/\its.size<=sizeLine/\Vals xs its.toList
def SqT (K:NF)(H:Hp)(a:Addr)(xs:Na):Prop :=
 Rd H a (.tup xs) \/
  ∃(o:Obj)(its:Array Value)(n:Nat),K.lookup a=some o/\o.cls=.type "tuple" /\ o.data=.seq its n/\its.size<=sizeLine/\Vals xs its.toList
def AsC:Value->Option V
 | .none=>some .non
 | .bool b=>some (.bl b)
 | .int i _=>some (.int i)
 | .str x _=>some (.str x)
 | .bytes b _=>some (.byt b)
 | .float b _=>some (.flt b)
 | .ref a=>some (.ref a)
 | .type n=>some (.ty n)
 | _=>none
theorem RelV.abs{x:V}(r:RelV x u):AsC u=some x:=by
 cases x with
 | non=>cases r;rfl
 | bl _=>cases r;rfl
 | int _=>obtain⟨t,rfl⟩:=r;rfl
 | str _=>obtain⟨t,rfl⟩:=r;rfl
 | byt _=>obtain⟨t,rfl⟩:=r;rfl
 | flt _=>obtain⟨t,rfl⟩:=r;rfl
 | ref _=>cases r;rfl
 | ty _=>cases r;rfl
theorem RelV.inj{x:V}(r:RelV x u)(q:RelV y u):x=y:=Option.some.inj (r.abs.symm.trans q.abs)
theorem Vals.inj(h:Vals xs us):Vals ys us->xs=ys:=by
 induction h generalizing ys with
 | nil=>intro g;cases g;rfl
 | cons r _ a=>intro g;cases g with | cons b t'=>rw[r.inj b,a t']
theorem SqL.of{K:NF}(h:H a=some (.lst xs)):SqL K H a xs:=.inl (.inl h)
theorem SqT.of{K:NF}(h:H a=some (.tup xs)):SqT K H a xs:=.inl (.inl h)
theorem Inv.list(I:Inv X pins σ H s)(h:SqL X.K H a xs):∃ its:NW,Vals xs its/\PlainL s.heap a its.toArray/\xs.length<=sizeLine:=by
 rcases h with h | ⟨o,its,n,hk,hc,b,c,d,r⟩
 ·obtain⟨z,its,n,r,e⟩:=h.ok I.hok;exact⟨its,r,⟨_,n,e,Z,Z,Z⟩,z⟩
 ·refine⟨its.toList,r,⟨o,n,I.kIn a o hk,hc,b,by simpa using c⟩,?_⟩;have e:=r.length;grind
theorem Inv.tuple(I:Inv X pins σ H s)(h:SqT X.K H a xs):∃ its:NW,Vals xs its/\IsTup s.heap a its.toArray/\xs.length<=sizeLine:=by
 rcases h with h | ⟨o,its,n,hk,hc,b,c,r⟩
 ·obtain⟨z,its,r,p⟩:=h.ok I.hok;exact⟨its,r,p,z⟩
 ·refine⟨its.toList,r,⟨o,I.kIn a o hk,hc,n,by simpa using b⟩,?_⟩;have e:=r.length;simp only [zK] at e;omega
theorem Inv.Ny(I:Inv X pins σ H s)(h:SqL X.K H a xs)(h':SqL X.K H a ys):xs=ys:=by
 obtain⟨its,r,⟨o,n,e,_,_,d⟩,_⟩:=I.list h;obtain⟨its',c,⟨o',f,b,_,_,d'⟩,_⟩:=I.list h';rw[e] at b;cases b;rw[d] at d';injection d' with d1 _;have:its=its':=by simpa using congrArg Array.toList d1
 subst this;exact r.inj c
abbrev Cx.wish (X:Cx)(E:NR):Cx:={ X with xe:=E }
abbrev Cx.nox (X:Cx):Cx:=X.wish λ_ _=>False
theorem Cx.Ok.wish(ok:X.Ok)(E:NR):(X.wish E).Ok :=
 ⟨ok.mod,ok.kind,ok.glob,ok.blt,ok.above,ok.inj,ok.has,ok.cab,ok.hd,ok.frames,ok.stk,ok.exf,ok.bs,ok.bsz,ok.Aib,ok.Aic,ok.V9,ok.frf⟩
theorem Cx.Ok.Nz(ok:(X.wish E).Ok):X.Ok :=
 ⟨ok.mod,ok.kind,ok.glob,ok.blt,ok.above,ok.inj,ok.has,ok.cab,ok.hd,ok.frames,ok.stk,ok.exf,ok.bs,ok.bsz,ok.Aib,ok.Aic,ok.V9,ok.frf⟩
theorem Inv.wish(I:Inv X pins σ H s)(E:NR):Inv (X.wish E) pins σ H s:=⟨I.ok.wish E,I.os,I.bare,I.base,I.loc,I.cell,I.free,I.Mr,I.pin,I.hok,I.len⟩
theorem Inv.Nz(I:Inv (X.wish E) pins σ H s):Inv X pins σ H s:=⟨I.ok.Nz,I.os,I.bare,I.base,I.loc,I.cell,I.free,I.Mr,I.pin,I.hok,I.len⟩
theorem SP.Nz{f:Flow}(h:SP (X.wish E) pins D f s'):SP X pins D f s':=by
 cases f with
 | next=>obtain⟨σ',H',I,q⟩:=h;exact⟨σ',H',I.Nz,q⟩
 | brk=>obtain⟨σ',H',I,q⟩:=h;exact⟨σ',H',I.Nz,q⟩
 | cont=>obtain⟨σ',H',I,q⟩:=h;exact⟨σ',H',I.Nz,q⟩
 | ret u=>obtain⟨v,σ',H',I,r,q⟩:=h;exact⟨v,σ',H',I.Nz,r,q⟩
theorem PSs.nox{st:List Stmt}{t:TS}(h:PSs X.nox st t):PSs X st t:=λpins s σ H D I a =>
 zT (h pins s σ H D (I.wish _) a) (λ_ _ q=>q.Nz) λ_ _ z=>False.elim z
section
variable {st:Stmt}{rest:List Stmt}{t u:TS}
def AqF:TS:=λD σ H=>D.nx σ H
def AsD (t u:TS):TS:=λD σ H=>t { D with nx:=u D } σ H
theorem Ao:PSs X [] AqF:=λ_ _ σ H _ I h=>wpAny_execs_nil ⟨σ,H,I,h⟩
theorem Ac(h1:PS X st t)(h2:PSs X rest u):PSs X (st::rest) (AsD t u):=by
 intro pins s σ H D I h;refine wpAny_execs_cons (thn (h1 pins s σ H { D with nx:=u D } I h) λf s1 q=>?_);cases f with
 | next =>
  obtain⟨σ',H',a,q⟩:=q;exact h2 pins s1 σ' H' D a q
 | ret v=>exact q
 | brk=>exact q
 | cont=>exact q
theorem Ad(h1:PS X st t):PSs X [st] t:=by
 intro pins s σ H D I h;refine wpAny_execs_cons (thn (h1 pins s σ H D I h) λf s1 q=>?_);cases f with
 | next=>exact wpAny_execs_nil q
 | ret v=>exact q
 | brk=>exact q
 | cont=>exact q
theorem Inv.quiet(I:Inv X pins σ H s):interactive X.env=false:=by simp[interactive,I.ok.kind]
abbrev Amq (D:Ends)(σ:St)(z0:V)(H1:Hp):Prop:=D.nx σ H1
def AqG (te:TE)(D:Ends)(σ:St)(H:Hp):Prop:=te σ H (Amq D σ)
theorem Bo(b:PE X e te)(c:swapsWith e none pos.line X.env=pure false:=by rfl):PS X (.Expr e pos) (AqG te):=by intro pins s σ H D I h;exact wpAny_Expr_any (thn (b pins s σ H _ I h) λv s1 ⟨x,H1,a,f,d⟩=>⟨σ,H1,a,d⟩) I.quiet c
def AsE (te:TE):TS:=λD σ H=>te σ H D.rt
theorem Ay(b:PE X e te):PS X (.Return (some e) pos) (AsE te):=by intro pins s σ H D I h;exact wpAny_Return_some (thn (b pins s σ H _ I h) λv s1 ⟨x,H1,a,c,d⟩=>⟨x,σ,H1,a,c,d⟩)
abbrev AoQ (t:TS)(u:TS)(D:Ends)(σ:St)(b:Bool)(H1:Hp):Prop:=if b=true then t D σ H1 else u D σ H1
def AsF (c:TT)(t:TS)(u:TS)(D:Ends)(σ:St)(H:Hp):Prop:=c σ H (AoQ t u D σ)
theorem Bd{a b:List Stmt}(hc:PT X c tc)(j:PSs X a t)(i:PSs X b u):PS X (.If c a b pos) (AsF tc t u):=by
 intro pins s σ H D I h;refine wpAny_If (thn (hc pins s σ H _ I h) λd s1 ⟨H1,e,f⟩=>?_);cases d with
 | true=>exact j pins s1 σ H1 D e f
 | false=>exact i pins s1 σ H1 D e f
def AoR:TS:=λ_ _ _=>False
theorem Bc:PS X st AoR:=λ_ _ _ _ _ _ h=>h.elim
end
abbrev TG:=V->St->Hp->(St->Hp->Prop)->Prop
abbrev TGs:=Na->St->Hp->(St->Hp->Prop)->Prop
def PG (X:Cx)(target:Expr)(t:TG):Prop :=
 ∀(pins:NO)(s:Shared)(σ:St)(H:Hp)(v:V)(u:Value)(Q:St->Hp->Prop),Inv X pins σ H s->RelV v u->t v σ H Q ->
  wpAny (model X.prog X.w) X.A (assign target X.env u) (λ_ s'=>∃ σ' H',Inv X pins σ' H' s'/\Q σ' H') X.xe s
def PGs (X:Cx)(ts:List Expr)(t:TGs):Prop :=
 ∀(pins:NO)(s:Shared)(σ:St)(H:Hp)(vs:Na)(us:NW)(Q:St->Hp->Prop),Inv X pins σ H s->Vals vs us->t vs σ H Q ->
  wpAny (model X.prog X.w) X.A (assignInOrder ((assignEach ts X.env).map (·.2)) us) (λ_ s'=>∃ σ' H',Inv X pins σ' H' s'/\Q σ' H') X.xe s
abbrev Aj0:=V->V->V->Hp->(Hp->Prop)->Prop
def Aj1 (X:Cx)(t:Aj0):Prop :=
 ∀(pins:NO)(s:Shared)(σ:St)(H:Hp)(o i v:V)(ov iv u:Value)(Q:Hp->Prop),Inv X pins σ H s->RelV o ov->RelV i iv->RelV v u->t o i v H Q ->
  wpAny (model X.prog X.w) X.A (setItem ov iv u) (λ_ s'=>∃ H',Inv X pins σ H' s'/\Q H') X.xe s
abbrev TIp:=V->V->Hp->VK->Prop
def PIp (X:Cx)(op:Operator)(t:TIp):Prop :=
 ∀(pins:NO)(s:Shared)(σ:St)(H:Hp)(x y:V)(v u:Value)(Q:VK),Inv X pins σ H s->RelV x v->RelV y u->t x y H Q ->
  wpAny (model X.prog X.w) X.A (inplaceOp op v u) (EP X pins σ Q) X.xe s
def JW (i:Nat):TG:=λv σ H Q=>Q (σ.set i (some v)) H
theorem Bp(b:X.N.Nodup)(hi:X.N[i]?=some x)(a:Loc X.env.scope x)(d:X.fn x=true\/X.env.scope.names.lookup x=some .local:=by first | exact .inl Z | exact .inr Z | assumption):PG X (.Name x pos) (JW i):=by intro pins s σ H v u Q I r h;exact wpAny_assign_Name (Z0 I b hi a r (λs' c=>⟨_,H,c,h⟩) d)
inductive AqH (vs:Na)(σ:St)(H:Hp)(Q:(St->Hp->Prop)):Prop
|mk(_:vs=[])(_:Q σ H)
inductive Aj2 (t:TG)(u:TGs)(vs:Na)(σ:St)(H:Hp)(Q:(St->Hp->Prop)):Prop
|mk(v:_)(r:_)(_:vs=v::r)(_:t v σ H λσ' H'=>u r σ' H' Q)
theorem HS:PGs X [] AqH:=by intro pins s σ H vs us Q I r h;obtain⟨e,h⟩:=h;exact assignInOrder_nil ⟨σ,H,I,h⟩
theorem CW{t:TG}{u:TGs}(h1:PG X e t)(h2:PGs X es u)
  (d:(assignEach (e::es) X.env).map (·.2)=assign e X.env::(assignEach es X.env).map (·.2):=by rfl):PGs X (e::es) (Aj2 t u):=by
 intro pins s σ H vs us Q I r h;obtain⟨v,i,e1,h⟩:=h;subst e1;cases r with
 | cons r c =>
  rw[d];refine assignInOrder_cons (thn (h1 pins s σ H _ _ _ I r h) λ_ s1 ⟨a,H1,b,f⟩=>?_);exact h2 pins s1 a H1 _ _ Q b c f
inductive AqI (K:NF)(n:Nat)(t:TGs)(v:V)(σ:St)(H:Hp)(Q:(St->Hp->Prop)):Prop
|mk(a:_)(xs:_)(_:v=.ref a)(_:SqT K H a xs)(_:xs.length=n)(_:t xs σ H Q)
theorem NB{k:Nat}{t:TGs}(hc:X.calm=true)(h:PGs X es t)
  (hn:(assignEach es X.env).length=n:=by rfl) (c:(assignEach es X.env).findIdx? (·.1)=none:=by rfl):PG X (.Tuple es k pos) (AqI X.K n t):=by
 intro pins s σ H v u Q I r d;obtain⟨a,xs,e1,m,j,d⟩:=d;subst e1;cases r;obtain⟨its,f,p,q⟩:=I.tuple m;refine assign_Tuple_tuple (I.ok.hd hc) p (by simp[hn,<- j,f.length]) c λh' l=>?_;have i:Inv X pins σ H { s with heap:=h' }:=I.kept λb o e=>l b o (AtU (Heap.lt_size e)) e;exact h pins _ σ H xs _ Q i (by simpa using f) d
abbrev AoS (σ:St)(Q:(St->Hp->Prop))(H3:Hp):Prop:=Q σ H3
abbrev AoT (t:Aj0)(v:V)(σ:St)(Q:(St->Hp->Prop))(o:V)(i:V)(H2:Hp):Prop:=t o i v H2 (AoS σ Q)
abbrev AoU (ti:TE)(t:Aj0)(v:V)(σ:St)(Q:(St->Hp->Prop))(o:V)(H1:Hp):Prop:=ti σ H1 (AoT t v σ Q o)
def AsG (to:TE)(ti:TE)(t:Aj0)(v:V)(σ:St)(H:Hp)(Q:(St->Hp->Prop)):Prop:=to σ H (AoU ti t v σ Q)
theorem Aj3{o i:Expr}{to c:TE}{t:Aj0}(z:PE X o to)(hi:PE X i c)(l:Aj1 X t)
  (p:∀ v,assign (.Subscript o i pos) X.env v=(do
   let a <- holding [v] (eval o X.env)
   let b <- holding [v,a] (eval i X.env)
   standAt pos
   holding [v,a,b] (setItem a b v)
   release [v,a,b] []):=by intro _;rfl):PG X (.Subscript o i pos) (AsG to c t):=by
 intro pins s σ H v u Q I r h;rw[p];refine zA (z9 (thn (z pins s σ H _ I h) λa s1 ⟨x,H1,d,n,w⟩=>?_));refine zA (z9 (thn (hi pins s1 σ H1 _ d w) λb e ⟨y,H2,j,A,m⟩=>?_));refine zA (wpAny_standAt (zA (z9 (thn (l pins e σ H2 x y v a b u _ j n A r m) λ_ C ⟨q,f,B⟩=>?_))));exact wpAny_release ⟨σ,q,f,B⟩
abbrev AoV (g:TG)(D:Ends)(σ:St)(x:V)(H1:Hp):Prop:=g x σ H1 D.nx
def Agh (te:TE)(g:TG)(D:Ends)(σ:St)(H:Hp):Prop:=te σ H (AoV g D σ)
theorem AcU{g:TG}(d:PE X e te)(c:PG X tg g)(f:swapsWithSole [tg] e pos.line X.env=pure false:=by rfl)(i:swappedStores [tg] e X.env=pure none:=by rfl)
  (h1:(assignEach [tg] X.env).map (·.2)=[assign tg X.env]:=by rfl):PS X (.Assign [tg] e pos) (Agh te g):=by
 intro pins s σ H D I h;refine wpAny_Assign_stores (thn (d pins s σ H _ I h) λv s1 ⟨x,H1,a,b,j⟩=>?_) f i;rw[h1];exact thn (c pins s1 σ H1 x v _ a b j) λ_ l q=>q
theorem Ba(d:X.N.Nodup)(hi:X.N[i]?=some x)(c:Loc X.env.scope x)(f:PE X e te)(l:swapsWith e (some (.Name x pos')) pos.line X.env=pure false:=by rfl)(m:X.fn x=true\/X.env.scope.names.lookup x=some .local:=by first | exact .inl Z | exact .inr Z | assumption) :
  PS X (.Assign [.Name x pos'] e pos) (Agh te (JW i)):=by
 intro pins s σ H D I h;refine wpAny_Assign_Name (thn (f pins s σ H _ I h) λv s1 ⟨y,H1,a,b,n⟩=>?_) l;exact Z0 a d hi c b (λo j=>⟨_,H1,j,n⟩) m
inductive AsH (i:Nat)(te:TE)(ti:TIp)(D:Ends)(σ:St)(H:Hp):Prop
|mk(x:_)(_:σ[i]?=some (some x))(_:te σ H λy H1=>ti x y H1 λz H2=>D.nx (σ.set i (some z)) H2)
theorem Aj4{op:Operator}{n:TIp}(t:X.N.Nodup)(hi:X.N[i]?=some x)(f:Loc X.env.scope x)(K:PE X e te)(M:PIp X op n)(E:X.fn x=true\/X.env.scope.names.lookup x=some .local:=by first | exact .inl Z | exact .inr Z | assumption) :
  PS X (.AugAssign (.Name x pos') op e pos) (AsH i te n):=by
 intro pins s σ H D I h;obtain⟨v,e1,h⟩:=h;obtain⟨m,hn,F⟩:=I.loc;have j:Vis X.env.scope x:=by rcases f with k | k;exact .inl k;exact .inr (.inl k)
 obtain⟨u,r,l⟩:=F i x v hi e1 j;refine wpAny_AugAssign_Name ?_;have go:wpAny (model X.prog X.w) X.A (eval e X.env) (λw b=>wpAny (model X.prog X.w) X.A (inplaceOp op u w) (λr d=>wpAny (model X.prog X.w) X.A (storeName X.env x r) (λ_=>SP X pins D .next) X.xe d) X.xe b) X.xe s:=by
  refine thn (K pins s σ H _ I h) λw s1 ⟨y,H1,o,J,L⟩=>?_;refine thn (M pins s1 σ H1 v y u w _ o r J L) λz P ⟨R,H2,B,O,C⟩=>?_;exact Z0 B t hi f O (λQ q=>⟨_,H2,q,C⟩) E
 rcases l with ⟨hk,p⟩ | ⟨hk,c,hc,a⟩
 ·exact wpAny_loadName_local I.ok.kind hk hn p go
 ·rcases hk with hk | hk
  ·exact wpAny_loadName_cell I.ok.kind hk hc a go
  ·rcases f with k | k
   ·have:X.env.scope.names.lookup x=some .free:=hk;rw[k] at this;cases this
   ·have:X.env.scope.names.lookup x=some .free:=hk;rw[k] at this;cases this
def AoW (X:Cx)(t:V->V->Hp->VK->Prop):Prop :=
 ∀(pins:NO)(s:Shared)(σ:St)(H:Hp)(o i:V)(ov iv:Value)(Q:VK),Inv X pins σ H s->RelV o ov->RelV i iv->t o i H Q ->
  wpAny (model X.prog X.w) X.A (getItem ov iv) (EP X pins σ Q) X.xe s
inductive ipI (f:Int->Int->Int)(x:V)(y:V)(H:Hp)(Q:VK):Prop
|mk(i:_)(j:_)(_:x=.int i)(_:y=.int j)(_:Q (.int (f i j)) H)
theorem Aj5:PIp X .Add (ipI λi j=>i+j):=by intro pins s σ H x y v u Q I a b h;obtain⟨i,j,e1,e2,q⟩:=h;subst e1;subst e2;obtain⟨t,rfl⟩:=a;obtain⟨t',rfl⟩:=b;exact iadd_int ⟨.int _,H,I.tok _,⟨_,Z⟩,q⟩
def AoX (c:TT)(tb:TS):TS:=λD σ H=>∃ W:Nat->St->Hp->Prop,(∃ m,W m σ H)/\∀ m σ H,W m σ H ->
 c σ H λb H1=>if b=true then ∃ N:St->Hp->Prop,(∀ σ' H',N σ' H'->∃ m',m'<m/\W m' σ' H')/\tb { D with nx:=N,ct:=N,bk:=D.nx } σ H1 else D.nx σ H1
theorem JX(x:PassesOwn (model X.prog X.w) X.A X.env X.xe)(hc:PT X c tc)(C:PSs X body tb):PS X (.While c body [] pos) (AoX tc tb):=by
 intro pins s σ H D I h;obtain⟨W,⟨m0,z⟩,e⟩:=h;refine wpAny_While (codeAny_whileLoop (λn s'=>∃ σ' H',Inv X pins σ' H' s'/\W n σ' H') ?_ m0 ⟨σ,H,I,z⟩);rintro n s1 ⟨d,H1,y,E⟩;refine wpAny_passesOwn x (thn (hc pins s1 d H1 _ y (e n d H1 E)) λb B ⟨H2,u,j⟩=>?_);cases b with
 | true =>
  obtain⟨N,t,j⟩:=j;refine wpAny_passesOwn x (thn (C pins B d H2 _ u j) λf F l=>?_);cases f with
  | next =>
   obtain⟨a,i,p,r⟩:=l;obtain⟨q,o,m⟩:=t a i r;exact⟨q,o,a,i,p,m⟩
  | cont =>
   obtain⟨a,i,p,r⟩:=l;obtain⟨q,o,m⟩:=t a i r;exact⟨q,o,a,i,p,m⟩
  | brk=>exact l
  | ret v=>exact l
 | false =>
  exact wpAny_execs_nil ⟨d,H2,u,j⟩
structure It where
 go:Nat->Hp->Prop
 yld:Nat->Hp->V->Hp->Prop
 stop:Nat->Hp->Prop
def NK (X:Cx)(pins:NO)(H:Hp)(b:Addr):Prop :=
 H b=none/\b≠X.env.locals/\b∉X.fs/\(b∈X.ex\/X.s₀.heap.objs.size<=b)/\(∀ x c,X.env.cells.lookup x=some c->c≠b)/\∀ p∈X.pn++pins,p.1≠b
theorem Inv.Aid(I:Inv X pins σ H s)(a:s.heap.objs.size<=b)(hn:H' b=none):NK X pins H' b:=by
 refine⟨hn,AuD (Aua I.lt a),I.AoM a,.inr (AtW I.sz a),λx c e z=>?_,λp d z=>?_⟩
 ·obtain⟨v,q⟩:=I.cell x c e;exact absurd (Aua q.lt (by simp_all)) (Au7 _)
 ·exact absurd (Aua (Heap.lt_size (I.pin p d).1) (by simp_all)) (Au7 _)
structure Turn (P:Program)(w:World)(K:NF)(tg:Expr)(J:It)(fp:NU)(it:Addr)(tn:Nat->Heap->Prop):Prop where
 mem:it∈fp
 obj:∀ i h,tn i h->∀ b∈fp,∃ o,h.get? b=some o/\∀ v,o.data≠.cell v
 keep:∀ i h h',tn i h->(∀ b∈fp,∀ o,h.get? b=some o->h'.get? b=some o)->tn i h'
 item:∀(X:Cx),X.prog=P->X.w=w->X.K=K->X.calm=true->∀(i:Nat)(pins:NO)(s:Shared)(σ:St)(H:Hp)(E:NR),Inv X pins σ H s->(∀ b∈fp,NK X pins H b)->tn i s.heap->J.go i H ->
  wpAny (model P w) X.A (pyNext (.ref it)) (λr s1=>∃ u,r=some u /\
   wpAny (model P w) X.A (letOwnedTupleGo tg (.ref it) u) (λ_ s2=>∃ x H',Inv X pins σ H' s2/\RelV x u/\J.yld i H x H'/\tn (i+1) s2.heap/\∀ b∈fp,H' b=none) E s1) E s
 done:∀(X:Cx),X.prog=P->X.w=w->X.K=K->X.calm=true->∀(i:Nat)(pins:NO)(s:Shared)(σ:St)(H:Hp)(E:NR),Inv X pins σ H s->(∀ b∈fp,NK X pins H b)->tn i s.heap->J.stop i H ->
  wpAny (model P w) X.A (pyNext (.ref it)) (λr s1=>r=none/\Inv X pins σ H s1) E s
 self:∀(A:Around)(i:Nat)(s:Shared)(Q:NR)(E:NR),tn i s.heap->Q (.ref it) s->wpAny (model P w) A (pyIter (.ref it)) Q E s
abbrev TI:=St->Hp->(It->Hp->Prop)->Prop
def PIE (X:Cx)(pins:NO)(σ:St)(tg:Expr)(R:It->Hp->Prop)(itv:Value)(s2:Shared):Prop :=
 ∃(it:Addr)(fp:NU)(tn:Nat->Heap->Prop)(J:It)(H':Hp),itv=.ref it/\Inv X pins σ H' s2/\Turn X.prog X.w X.K tg J fp it tn/\tn 0 s2.heap/\(∀ b∈fp,NK X pins H' b)/\R J H'
def PI (X:Cx)(tg iter:Expr)(wi:TI):Prop :=
 ∀(pins:NO)(s:Shared)(σ:St)(H:Hp)(R:It->Hp->Prop),Inv X pins σ H s->wi σ H R ->
  wpAny (model X.prog X.w) X.A (eval iter X.env) (λv s1=>wpAny (model X.prog X.w) X.A (pyIter v) (PIE X pins σ tg R) X.xe s1) X.xe s
theorem Ahf{o:Obj}{n:String}{vs:Array Value}(b:s.heap.get? it=some o)(hc:o.cls=.type n)(c:o.data=.fields vs)
    (hn:["enumerate", "zip", "dict_itemiterator", "dict_reverseitemiterator", "odict_iterator", "itertools.zip_longest", "itertools.pairwise"].contains n=false) (a:Q () s):wpAny M A (letOwnedTupleGo tg (.ref it) u) Q E s:=by
  cases tg <;> first
    | exact zE a
    | (cases u <;> first
        | exact zE a
        | (refine zA (wpAny_load b ?_)
           rw[hc,c];show wpAny M A (if (["enumerate", "zip", "dict_itemiterator", "dict_reverseitemiterator", "odict_iterator", "itertools.zip_longest", "itertools.pairwise"].contains n && vs[0]? == some (rawInt _))=true then _ else _) Q E s;rw[if_neg (by intro h;rw[hn,Bool.false_and] at h;cases h)];exact zE a))
def Itl (K:NF)(a:Addr):It :=
 ⟨λi H=>∃ xs x,SqL K H a xs/\xs[i]?=some x,λi H x H'=>H'=H/\∀ xs,SqL K H a xs->xs[i]?=some x,λi H=>∃ xs,SqL K H a xs/\xs.length<=i⟩
def Itr (lo:Int)(n:Nat):It:=⟨λi _=>i<n,λi H x H'=>H'=H/\x=.int (lo+i),λi _=>n<=i⟩
theorem Aie{K:NF}(a it:Addr):Turn P w K tg (Itl K a) [it] it (λi h=>h.IsListIter it a i) where
 mem:=by simp
 obj:=λi h st b f=>by
  have e:b=it:=by simpa using f
  subst e;obtain⟨o,e,c,d⟩:=st;exact⟨o,e,λv z=>by grind⟩
 keep:=λi h h' st k=>st.at λo e=>k it (by simp) o e
 item:=by
  intro X t B n hc i pins s σ H E I m st q;subst t B n;obtain⟨xs,x,l,y⟩:=q;obtain⟨its,r,p,N⟩:=I.list l;obtain⟨u,L,D⟩:=r.get y;obtain⟨A,f1,f2,f3,f4,f5⟩:=m it (by simp);refine wpAny_pyNext_list_item st p.isList (by simpa using L) λh' j F=>?_;have C:Inv X pins σ H { s with heap:=h' }:=I.turned (λb o f e=>(F.2 b f).trans e) A f1 f3 f4 f5;obtain⟨o,e,c,d⟩:=id j;exact⟨u,Z,Ahf e c d (by decide) ⟨x,H,C,D,⟨Z,λys J=>by rw[I.Ny J l];exact y⟩,j,λb f=>(m b f).1⟩⟩
 done:=by
  intro X t B n hc i pins s σ H E I m st q;subst t B n;obtain⟨xs,l,y⟩:=q;obtain⟨its,r,p,N⟩:=I.list l;obtain⟨A,f1,f2,f3,f4,f5⟩:=m it (by simp);have O:=r.length;exact wpAny_pyNext_list_end (I.ok.hd hc) st p.isList (by simp;lia) λh' M=>⟨Z,I.turned (λb o f e=>M b o f e) A f1 f3 f4 f5⟩
 self:=λ_ _ _ _ _ st h=>wpAny_pyIter_listiter st h
theorem Agi{K:NF}(it:Addr)(lo:Int)(n:Nat):Turn P w K tg (Itr lo n) [it] it (λi h=>IsRangeIter h it (lo+(i:Nat)*1) ((n:Int)-(i:Nat)) 1) where
 mem:=by simp
 obj:=λi h st b a=>by
  simp_all
 keep:=λi h h' st k=>k it (by simp) _ st
 item:=by
  intro X l p f hc i pins s σ H E I d st j;subst l p f;obtain⟨m,f1,f2,f3,f4,f5⟩:=d it (by simp);have W:=Walks.range (prog:=X.prog) (w:=X.w) (I.ok.hd hc) it lo 1 n;refine W.item i s _ _ j st λv h' tk r c u=>?_;obtain⟨t,rfl⟩:=r;have q:Inv X pins σ H { s with heap:=h',toks:=tk }:=I.turned (λb o a e=>u b o (by simpa using a) e) m f1 f3 f4 f5;refine⟨_,Z,Ahf c Z rfl (by decide) ⟨.int (lo+i),H,q,⟨t,?_⟩,⟨Z,Z⟩,c,λb a=>(d b a).1⟩⟩;rw[Int.mul_one]
 done:=by
  intro X l p f hc i pins s σ H E I d st j;subst l p f;obtain⟨m,f1,f2,f3,f4,f5⟩:=d it (by simp);exact wpAny_pyNext_range_end (I.ok.hd hc) st (by have:n<=i:=j;lia) λh' x=>⟨Z,I.turned (λb o a e=>x b o a e) m f1 f3 f4 f5⟩
 self:=λ_ _ _ _ _ st h=>wpAny_pyIter_rangeiter st h
inductive Amr (K:NF)(R:(It->Hp->Prop))(x:V)(H1:Hp):Prop
|mk(a:_)(_:x=.ref a)(_:(∃ xs,SqL K H1 a xs))(_:R (Itl K a) H1)
def Aoj (K:NF)(tl:TE)(σ:St)(H:Hp)(R:(It->Hp->Prop)):Prop:=tl σ H (Amr K R)
theorem Ams(d:PE X l tl):PI X tg l (Aoj X.K tl):=by
 intro pins s σ H R I h;refine thn (d pins s σ H _ I h) λv s1 ⟨x,H1,c,f,m⟩=>?_;obtain⟨a,e,⟨xs,j⟩,q⟩:=m;subst e;cases f;obtain⟨its,n,p,r⟩:=c.list j;refine wpAny_pyIter_list p.isList ?_;refine⟨s1.heap.objs.size,[s1.heap.objs.size],_,_,H1,Z,c.kept λb o e=>zB _ e,Aie a _,⟨_,zD _ Z,Z,Z⟩,λb i=>?_,q⟩;have e:b=s1.heap.objs.size:=by simpa using i
 subst e;exact c.Aid (AtH _) (c.hok.fresh (AtH _))
theorem Ae4{R:It->Hp->Prop}{lo hi:Int}{t u v:Tok}(I:Inv X pins σ H s)(h1 : -(2 ^ 62)<=lo)(h2:lo<2 ^ 62)(h3 : -(2 ^ 62)<=hi)(h4:hi<2 ^ 62)
  (q:R (Itr lo (hi-lo).toNat) H):wpAny (model X.prog X.w) X.A (pyIter (.ref s.heap.objs.size)) (PIE X pins σ tg R) E { s with heap:=s.heap.push { cls:=.type "range", data:=.fields #[.int lo t,.int hi u,.int 1 v] },toks:=tk }:=by
 refine wpAny_pyIter_range (IsRange.new ..) (small_one h1 h2 h3 h4) ?_;have a:Inv X pins σ H { s with heap:=s.heap.push { cls:=.type "range", data:=.fields #[.int lo t,.int hi u,.int 1 v] },toks:=tk }:=I.kept λb o e=>zB _ e;refine⟨(s.heap.push { cls:=.type "range", data:=.fields #[.int lo t,.int hi u,.int 1 v] }).objs.size,[(s.heap.push { cls:=.type "range", data:=.fields #[.int lo t,.int hi u,.int 1 v] }).objs.size],_,_,H,Z,
  a.kept λb o e=>zB _ e,Agi _ lo (hi-lo).toNat,?_,λb c=>?_,q⟩
 ·have e1:lo+((0:Nat):Int)*1=lo:=by simp
  have e2:(((hi-lo).toNat:Nat):Int)-((0:Nat):Int)=Builtin.Range.rangeSize lo hi 1:=by rw[rangeSize_one];split <;> lia
  rw[e1,e2];exact zD _ Z
 ·have e:b=(s.heap.push { cls:=.type "range", data:=.fields #[.int lo t,.int hi u,.int 1 v] }).objs.size:=by simpa using c
  subst e;exact a.Aid (AtH _) (a.hok.fresh (AtH _))
inductive Amt (R:(It->Hp->Prop))(vs:Na)(H1:Hp):Prop
|mk(j:Int)(_:vs=[.int j])(_ : -(2 ^ 62)<=j)(_:j<2 ^ 62)(_:R (Itr 0 j.toNat) H1)
def AqJ (ta:TA)(σ:St)(H:Hp)(R:(It->Hp->Prop)):Prop:=ta σ H (Amt R)
inductive Amu (R:(It->Hp->Prop))(vs:Na)(H1:Hp):Prop
|mk(i:Int)(j:Int)(_:vs=[.int i,.int j])(_:(-(2 ^ 62)<=i/\i<2 ^ 62 /\ -(2 ^ 62)<=j/\j<2 ^ 62))(_:R (Itr i (j-i).toNat) H1)
def AqK (ta:TA)(σ:St)(H:Hp)(R:(It->Hp->Prop)):Prop:=ta σ H (Amu R)
theorem Ca{a:Expr}{ta:TA}(i:Gl X "range") (l:X.mg "range" = none) (f:PA X [a] ta) (n:starEach [a] X.env=[(false,eval a X.env)]:=by rfl):PI X tg (.Call (.Name "range" p) [a] [] pos) (AqJ ta):=by
 intro pins s σ H R I h;refine Call_ (Hr I i l boot_range (PyProof.Rows.callWith_type1 (thn (f pos pins s σ H _ I h) λus s1 ⟨vs,H1,c,d,b⟩=>?_) n Z));obtain⟨j,e,b,o,q⟩:=b;subst e;cases d with
 | cons r m =>
  cases m;obtain⟨t,rfl⟩:=r;exact call_range_1 (Ae4 c (by lia) (by lia) b o (by simpa using q))
theorem Aif{a b:Expr}{ta:TA}(v:Gl X "range") (w:X.mg "range" = none) (n:PA X [a,b] ta) (y:starEach [a,b] X.env=[(false,eval a X.env),(false,eval b X.env)]:=by rfl) (c:starEach [b] X.env=[(false,eval b X.env)]:=by rfl) :
  PI X tg (.Call (.Name "range" p) [a,b] [] pos) (AqK ta):=by
 intro pins s σ H R I h;refine Call_ (Hr I v w boot_range (PyProof.Rows.callWith_type1 (thn (n pos pins s σ H _ I h) λus s1 ⟨vs,H1,l,m,f⟩=>?_) (by rw[y,c]) (by rw[c];rfl)));obtain⟨i,j,e,⟨f,z,o,x⟩,q⟩:=f;subst e;cases m with
 | cons r d =>
  cases d with
  | cons u d =>
   cases d;obtain⟨t,rfl⟩:=r;obtain⟨t',rfl⟩:=u;exact call_range_2 (Ae4 l f z o x q)
abbrev AoY (g:TG)(tb:TS)(D:Ends)(σ:St)(J:It)(H1:Hp):Prop:=∃ W:Nat->Nat->St->Hp->Prop,(∃ m,W 0 m σ H1)/\∀ i m σ H,W i m σ H ->
 (J.stop i H/\D.nx σ H)\/(J.go i H/\∃ N:St->Hp->Prop,(∀ σ' H',N σ' H'->∃ m',m'<m/\W (i+1) m' σ' H')/\∀ x H',J.yld i H x H'->g x σ H' λσ2 H2=>tb { D with nx:=N,ct:=N,bk:=D.nx } σ2 H2)
def AsI (wi:TI)(g:TG)(tb:TS)(D:Ends)(σ:St)(H:Hp):Prop:=wi σ H (AoY g tb D σ)
def Z1 (fp:NU)(h:Heap):NO:=fp.filterMap λb=>(h.get? b).map λo=>(b,o)
theorem Ry{o:Obj}(a:b∈fp)(e:h.get? b=some o):(b,o)∈Z1 fp h:=List.mem_filterMap.mpr ⟨b,a,by rw[e];rfl⟩
theorem Aig{p:Addr × Obj}(a:p∈Z1 fp h):p.1∈fp/\h.get? p.1=some p.2:=by
 obtain⟨b,c,e⟩:=List.mem_filterMap.mp a;cases q:h.get? b with
 | none=>simp_all
 | some o =>
  rw[q] at e;have d:=Option.some.inj e;subst d;exact⟨c,q⟩
theorem Inv.pinned(I:Inv X pins σ H s)(i:∀ b∈fp,NK X pins H b)(h:∀ b∈fp,∃ o,s.heap.get? b=some o/\∀ v,o.data≠.cell v):Inv X (pins++Z1 fp s.heap) σ H s :=
 I.HR λp f=>(zG.mp f).elim (λz=>I.pin p (Auo _ z)) λz=>by
  obtain⟨a,e⟩:=Aig z;obtain⟨j,f1,f2,_⟩:=i p.1 a;obtain⟨o,c,d⟩:=h p.1 a;rw[e] at c;cases c;exact⟨e,j,f1,f2,d⟩
theorem Inv.Z2{pl:NO}(I:Inv X (pins++pl) σ H s):Inv X pins σ H s:=I.HR λp a=>I.pin p (Auo _ (AuQ _ a))
theorem BX{wi:TI}{g:TG}(C:PassesOwn (model X.prog X.w) X.A X.env X.xe)(hc:X.calm=true)(hi:PI X tg iter wi)(hg:PG X tg g)(c:PSs X body tb)
  (hs:∀ x,foldedSetIterable iter X.env x=pure x:=by intro _;rfl):PS X (.For tg iter body [] pos) (AsI wi g tb):=by
 intro pins s σ H D I h;refine wpAny_For (thn (hi pins s σ H _ I h) λv s1 h1=>thn h1 λa0 s2 h2=>?_) hs;obtain⟨it,fp,Y,J,H2,e,I2,T,M,f2,W,⟨m0,w0⟩,K⟩:=h2;subst e;have j:∀{H':Hp},(∀ b∈fp,H' b=none)->∀ b∈fp,NK X pins H' b:=λhn b c=>⟨hn b c,(f2 b c).2⟩;refine codeAny_forLoop_any (λn s'=>∃ i σ' H',Inv X pins σ' H' s'/\Y i s'.heap/\(∀ b∈fp,H' b=none)/\W i n σ' H') ?_ m0 ⟨0,σ,H2,I2,M,λb c=>(f2 b c).1,w0⟩;rintro n U ⟨i,q,L,I3,F,E,w3⟩;rcases K i n q L w3 with ⟨z,qn⟩ | ⟨go,N,hN,step⟩
 ·refine wpAny_passesOwn C (thn (T.done X Z rfl Z hc i pins U q L X.xe I3 (j E) F z) λr s4 ⟨P,I4⟩=>?_);subst P;exact wpAny_execs_nil ⟨q,L,I4,qn⟩
 ·refine wpAny_passesOwn C (thn (T.item X Z rfl Z hc i pins U q L X.xe I3 (j E) F go) λr s4 ⟨u,P,h4⟩=>?_);subst P;refine wpAny_passesOwn C (thn h4 λ_ s5 ⟨x,H5,I5,r5,y5,y,Q⟩=>?_);have S:=I5.pinned (j Q) (T.obj _ _ y);refine wpAny_passesOwn C (thn (hg _ s5 q H5 x u _ S r5 (step x H5 y5)) λ_ s6 ⟨R,H6,I6,q6⟩=>?_);refine wpAny_passesOwn C (thn (c _ s6 R H6 _ I6 q6) λf O t=>?_);have again:∀{a:St} {p:Hp},Inv X (pins++Z1 fp s5.heap) a p O->N a p->∃ m,m<n/\∃ i σ' H',Inv X pins σ' H' O/\Y i O.heap/\(∀ b∈fp,H' b=none)/\W i m σ' H':=λ{a p} l B=>by
   obtain⟨m',hm,w7⟩:=hN a p B;refine⟨m',hm,i+1,a,p,l.Z2,T.keep _ _ _ y λb c o e=>(l.pin (b,o) (Auo _ (Auo _ (Ry c e)))).1,λb c=>?_,w7⟩;obtain⟨o,e,d⟩:=T.obj _ _ y b c;exact(l.pin (b,o) (Auo _ (Auo _ (Ry c e)))).2.1
  cases f with
  | next=>obtain⟨a,p,l,B⟩:=t;exact again l B
  | cont=>obtain⟨a,p,l,B⟩:=t;exact again l B
  | brk=>obtain⟨a,p,l,t⟩:=t;exact⟨a,p,l.Z2,t⟩
  | ret v=>obtain⟨x7,a,p,l,r7,t⟩:=t;exact⟨x7,a,p,l.Z2,r7,t⟩
theorem Cr{K:NF}{g:TG}(Pv:Nat->St->Hp->Prop)(h:Pv 0 σ H)(f:∀ i σ H,i<=xs.length->Pv i σ H->SqL K H a xs)
  (j:∀ i x σ H,xs[i]?=some x->Pv i σ H->g x σ H λb H2=>tb { D with nx:=Pv (i+1),ct:=Pv (i+1),bk:=D.nx } b H2) (l:∀ σ H,Pv xs.length σ H->D.nx σ H) :
  ∃ W:Nat->Nat->St->Hp->Prop,(∃ m,W 0 m σ H)/\∀ i m σ H,W i m σ H ->
   ((Itl K a).stop i H/\D.nx σ H)\/((Itl K a).go i H/\∃ N:St->Hp->Prop,(∀ σ' H',N σ' H'->∃ d,d<m/\W (i+1) d σ' H')/\∀ x H',(Itl K a).yld i H x H'->g x σ H' λb H2=>tb { D with nx:=N,ct:=N,bk:=D.nx } b H2):=by
 refine⟨λi m σ H=>m=xs.length-i/\i<=xs.length/\Pv i σ H,⟨xs.length,by simp,AtR _,h⟩,?_⟩;rintro i m σ H ⟨rfl,hi,p⟩;have q:=f i σ H hi p;by_cases c:i<xs.length
 ·refine .inr ⟨⟨xs,xs[i],q,by simp⟩,Pv (i+1),λσ' H' n=>⟨xs.length-(i+1),by omega,Z,c,n⟩,λx H' y=>?_⟩;obtain⟨e,y⟩:=y;subst e;exact j i x σ _ (y xs q) p
 ·have e:i=xs.length:=by lia
  subst e;exact .inl ⟨⟨xs,q,AtH _⟩,l σ H p⟩
theorem Dw{lo:Int}{g:TG}(Pv:Nat->St->Hp->Prop)(d:Pv 0 σ H)
  (f:∀ i σ H,i<n->Pv i σ H->g (.int (lo+i)) σ H λa H2=>tb { D with nx:=Pv (i+1),ct:=Pv (i+1),bk:=D.nx } a H2) (h:∀ σ H,Pv n σ H->D.nx σ H) :
  ∃ W:Nat->Nat->St->Hp->Prop,(∃ m,W 0 m σ H)/\∀ i m σ H,W i m σ H ->
   ((Itr lo n).stop i H/\D.nx σ H)\/((Itr lo n).go i H/\∃ N:St->Hp->Prop,(∀ σ' H',N σ' H'->∃ c,c<m/\W (i+1) c σ' H')/\∀ x H',(Itr lo n).yld i H x H'->g x σ H' λa H2=>tb { D with nx:=N,ct:=N,bk:=D.nx } a H2):=by
 refine⟨λi m σ H=>m=n-i/\i<=n/\Pv i σ H,⟨n,by simp,AtR _,d⟩,?_⟩;rintro i m σ H ⟨rfl,hi,p⟩;by_cases b:i<n
 ·refine .inr ⟨b,Pv (i+1),λσ' H' j=>⟨n-(i+1),by omega,Z,b,j⟩,λx H' y=>?_⟩;obtain⟨e,y⟩:=y;subst e y;exact f i σ _ b p
 ·have e:i=n:=by lia
  subst e;exact .inl ⟨AtH _,h σ H p⟩
abbrev R2:=V->V->Hp->VK->Prop
def OpR (X:Cx)(f:Value->Value->Sem Value)(r:R2):Prop :=
 ∀(pins:NO)(s:Shared)(σ:St)(H:Hp)(x y:V)(v u:Value)(Q:VK),Inv X pins σ H s->RelV x v->RelV y u->r x y H Q ->
  wpAny (model X.prog X.w) X.A (f v u) (EP X pins σ Q) X.xe s
def UnR (X:Cx)(f:Value->Sem Value)(r:V->Hp->VK->Prop):Prop :=
 ∀(pins:NO)(s:Shared)(σ:St)(H:Hp)(x:V)(v:Value)(Q:VK),Inv X pins σ H s->RelV x v->r x H Q ->
  wpAny (model X.prog X.w) X.A (f v) (EP X pins σ Q) X.xe s
def Fz (X:Cx)(f:Value)(r:Na->Hp->VK->Prop):Prop :=
 ∀(pins:NO)(s:Shared)(σ:St)(H:Hp)(xs:Na)(us:NW)(Q:VK),Inv X pins σ H s->Vals xs us->r xs H Q ->
  wpAny (model X.prog X.w) X.A (call f us) (EP X pins σ Q) X.xe s
def AsJ (X:Cx)(r:V->Hp->(Bool->Hp->Prop)->Prop):Prop :=
 ∀(pins:NO)(s:Shared)(σ:St)(H:Hp)(x:V)(v:Value)(Q:Bool->Hp->Prop),Inv X pins σ H s->RelV x v->r x H Q ->
  wpAny (model X.prog X.w) X.A (truthy v) (TP X pins σ Q) X.xe s
abbrev AqL (r:R2)(Q:VK)(x:V)(y:V)(H2:Hp):Prop:=r x y H2 Q
abbrev AqM (r:R2)(tb:TE)(σ:St)(Q:VK)(x:V)(H1:Hp):Prop:=tb σ H1 (AqL r Q x)
def tOp (r:R2)(ta:TE)(tb:TE)(σ:St)(H:Hp)(Q:VK):Prop:=ta σ H (AqM r tb σ Q)
abbrev AqN (r:V->Hp->VK->Prop)(Q:VK)(x:V)(H1:Hp):Prop:=r x H1 Q
def tUn (r:V->Hp->VK->Prop)(ta:TE)(σ:St)(H:Hp)(Q:VK):Prop:=ta σ H (AqN r Q)
inductive rI (C:Int->Int->Prop)(g:Int->Int->V)(x:V)(y:V)(H:Hp)(Q:VK):Prop
|mk(i:_)(j:_)(_:x=.int i)(_:y=.int j)(_:C i j)(_:Q (g i j) H)
inductive rI0 (g:Int->Int->V)(x:V)(y:V)(H:Hp)(Q:VK):Prop
|mk(i:_)(j:_)(_:x=.int i)(_:y=.int j)(_:Q (g i j) H)
inductive rU (g:Int->V)(x:V)(H:Hp)(Q:VK):Prop
|mk(i:_)(_:x=.int i)(_:Q (g i) H)
section
variable {a b:Expr}{tb tc:TE}
theorem AoZ(l:PE X a ta)(j:PE X b tb){R:V->V->Hp->Prop}(I:Inv X pins σ H s)
  (h:ta σ H λx H1=>tb σ H1 λy H2=>R x y H2) {Q:NR} 
  (o:∀ v u d x y H2,Inv X pins σ H2 d->RelV x v->RelV y u->R x y H2->wpAny (model X.prog X.w) X.A (f v u) Q X.xe d) :
  wpAny (model X.prog X.w) X.A (eval a X.env) (λv s₁=>wpAny (model X.prog X.w) X.A (eval b X.env) (λu c=>wpAny (model X.prog X.w) X.A (f v u) Q X.xe c) X.xe s₁) X.xe s:=by
 refine thn (l pins s σ H _ I h) λv s1 ⟨x,H1,e,i,q⟩=>?_;refine thn (j pins s1 σ H1 _ e q) λu d ⟨y,H2,m,p,n⟩=>?_;exact o v u d x y H2 m i p n
theorem Bx{op:Operator}(l:OpR X (binaryOp op) r)(f:PE X a ta)(e:PE X b tb):PE X (.BinOp a op b pos) (tOp r ta tb):=by intro pins s σ H Q I h;exact wpAny_BinOp (AoZ f e I h λv u d x y H2 j i c q=>l pins d σ H2 x y v u Q j i c q)
theorem S5{op:UnaryOp}{r:V->Hp->VK->Prop}(e:UnR X (unaryOp op) r)(d:PE X a ta):PE X (.UnaryOp op a pos) (tUn r ta):=by intro pins s σ H Q I h;exact UnaryOp_ (thn (d pins s σ H _ I h) λv s1 ⟨x,H1,b,c,f⟩=>e pins s1 σ H1 x v Q b c f)
theorem opI{C:Int->Int->Prop}{g:Int->Int->Int}
  (rule:∀(i j:Int)(t u:Tok)(s:Shared)(Q:NR)(E:NR),C i j->Q (.int (g i j) s.toks) { s with toks:=s.toks+1 }->wpAny (model X.prog X.w) X.A (f (.int i t) (.int j u)) Q E s) :
  OpR X f (rI C λi j=>.int (g i j)):=by
 intro pins s σ H x y v u Q I b a h;obtain⟨i,j,rfl,rfl,hc,q⟩:=h;obtain⟨t,rfl⟩:=b;obtain⟨t',rfl⟩:=a;exact rule i j t t' s _ _ hc ⟨.int (g i j),H,I.tok _,⟨_,Z⟩,q⟩
theorem AqO{g:Int->Int->Int}
  (rule:∀(i j:Int)(t u:Tok)(s:Shared)(Q:NR)(E:NR),Q (.int (g i j) s.toks) { s with toks:=s.toks+1 }->wpAny (model X.prog X.w) X.A (f (.int i t) (.int j u)) Q E s) :
  OpR X f (rI0 λi j=>.int (g i j)):=by
 intro pins s σ H x y v u Q I b a h;obtain⟨i,j,rfl,rfl,q⟩:=h;obtain⟨t,rfl⟩:=b;obtain⟨t',rfl⟩:=a;exact rule i j t t' s _ _ ⟨.int (g i j),H,I.tok _,⟨_,Z⟩,q⟩
theorem Amv{g:Int->Int->Bool}
  (rule:∀(i j:Int)(t u:Tok)(s:Shared)(Q:NR)(E:NR),Q (.bool (g i j)) s->wpAny (model X.prog X.w) X.A (f (.int i t) (.int j u)) Q E s) :
  OpR X f (rI0 λi j=>.bl (g i j)):=by
 intro pins s σ H x y v u Q I b a h;obtain⟨i,j,rfl,rfl,q⟩:=h;obtain⟨t,rfl⟩:=b;obtain⟨t',rfl⟩:=a;exact rule i j t t' s _ _ ⟨.bl (g i j),H,I,Z,q⟩
def AsK (i j:Int):Prop:=0<j/\j<1073741824
def Apa (i j:Int):Prop:=(-(2 ^ 64)<i/\i<2 ^ 64)\/(-(2 ^ 64)<j/\j<2 ^ 64)
theorem Apa.ok{i j:Int}(h:Apa i j):IntMulOk i j:=by
 rcases h with ⟨h1,h2⟩ | ⟨h1,h2⟩
 ·exact .of_left (intBits_le_64 h1 h2)
 ·exact .of_right (intBits_le_64 h1 h2)
theorem Ey:OpR X (binaryOp .Add) (rI0 λi j=>.int (i+j)):=AqO λ_ _ _ _ _ _ _ q=>add_int q
theorem G6:OpR X (binaryOp .Sub) (rI0 λi j=>.int (i-j)):=AqO λ_ _ _ _ _ _ _ q=>sub_int q
theorem NP:OpR X (binaryOp .Mult) (rI Apa λi j=>.int (i*j)):=opI λ_ _ _ _ _ _ _ hc q=>mul_int q hc.ok
theorem Amw:OpR X (binaryOp .FloorDiv) (rI AsK λi j=>.int (i / j)):=opI λi j _ _ _ _ _ hc q=>by
 have h1:=hc.1;have h2:=hc.2;exact floordiv_int (by lia) (by rw[Int.fdiv_eq_ediv_of_nonneg i (by omega)];exact q) (.inl (PyProof.noPylong_small (by omega)))
theorem Lb:OpR X (binaryOp .Mod) (rI (λ_ j=>0<j) λi j=>.int (i%j)):=opI λi j _ _ _ _ _ hc q=>by
 exact mod_int' (by lia) (by rw[Int.fmod_eq_emod_of_nonneg i (by omega)];exact q)
theorem unI{f:Value->Sem Value}{g:Int->Int}
  (rule:∀(i:Int)(t:Tok)(s:Shared)(Q:NR)(E:NR),Q (.int (g i) s.toks) { s with toks:=s.toks+1 }->wpAny (model X.prog X.w) X.A (f (.int i t)) Q E s) :
  UnR X f (rU λi=>.int (g i)):=by
 intro pins s σ H x v Q I a h;obtain⟨i,rfl,q⟩:=h;obtain⟨t,rfl⟩:=a;exact rule i t s _ _ ⟨.int (g i),H,I.tok _,⟨_,Z⟩,q⟩
theorem Ld:UnR X (unaryOp .USub) (rU λi=>.int (-i)):=unI λ_ _ _ _ _ q=>neg_int q
end
def AqP:V->V->Bool
 | .non,.non=>true | .non,.int _=>true | .int _,.non=>true | .non,.bl _=>true | .bl _,.non=>true | .non,.str _=>true | .str _,.non=>true
 | .int _,.int _=>true | .bl _,.bl _=>true | .str _,.str _=>true | .byt _,.byt _=>true
 | .int _,.str _=>true | .str _,.int _=>true | .bl _,.str _=>true | .str _,.bl _=>true
 | _,_=>false
inductive rEq (x:V)(y:V)(H:Hp)(Q:VK):Prop
|mk(_:AqP x y=true)(_:Q (.bl (decide (x=y))) H)
inductive rNe (x:V)(y:V)(H:Hp)(Q:VK):Prop
|mk(_:AqP x y=true)(_:Q (.bl (!decide (x=y))) H)
theorem Ahg{i j:Int}:decide (V.int i=V.int j)=(i == j):=by rw[AuR];simp
theorem Aj6{i j:Bool}:decide (V.bl i=V.bl j)=(i == j):=by rw[AuR];simp
theorem Le{i j:Str}:decide (V.str i=V.str j)=(i == j):=by rw[AuR];simp
theorem Ahh{i j:Array UInt8}:decide (V.byt i=V.byt j)=(i.toList == j.toList):=by rw[AuR];cases i;cases j;simp
section
variable {a b:Expr}{tb tc:TE}
theorem Cm{Q:VK}{k a:Bool}(I:Inv X pins σ H s)(q:Q (.bl k) H)(e:k=a):EP X pins σ Q (.bool a) s:=by subst e;exact⟨.bl k,H,I,Z,q⟩
theorem Ci:OpR X (compareOp .Eq) rEq:=by
 intro pins s σ H x y v u Q I c a h;obtain⟨b,q⟩:=h;cases x with
 | non =>
  cases c;cases y with
  | non=>cases a;exact PySem.EqNone.eq_none_none (Cm I q (by simp))
  | bl j=>cases a;exact PySem.EqNone.eq_none_bool (Cm I q (by simp))
  | int j=>obtain⟨t',rfl⟩:=a;exact PySem.EqNone.eq_none_int (Cm I q (by simp))
  | str j=>obtain⟨t',rfl⟩:=a;exact PySem.EqNone.eq_none_str (Cm I q (by simp))
  | _=>exact absurd (show false=true from b) Aud
 | bl i =>
  cases c;cases y with
  | non=>cases a;exact PySem.EqNone.eq_bool_none (Cm I q (by simp))
  | bl j=>cases a;exact eq_bool (Cm I q Aj6)
  | str j=>obtain⟨t',rfl⟩:=a;exact PySem.EqMixed.eq_bool_str (Cm I q (by simp))
  | _=>exact absurd (show false=true from b) Aud
 | int i =>
  obtain⟨t,rfl⟩:=c;cases y with
  | non=>cases a;exact PySem.EqNone.eq_int_none (Cm I q (by simp))
  | int j=>obtain⟨t',rfl⟩:=a;exact eq_int (Cm I q Ahg)
  | str j=>obtain⟨t',rfl⟩:=a;exact PySem.EqMixed.eq_int_str (Cm I q (by simp))
  | _=>exact absurd (show false=true from b) Aud
 | str i =>
  obtain⟨t,rfl⟩:=c;cases y with
  | non=>cases a;exact PySem.EqNone.eq_str_none (Cm I q (by simp))
  | bl j=>cases a;exact PySem.EqMixed.eq_str_bool (Cm I q (by simp))
  | int j=>obtain⟨t',rfl⟩:=a;exact PySem.EqMixed.eq_str_int (Cm I q (by simp))
  | str j=>obtain⟨t',rfl⟩:=a;exact eq_str (Cm I q Le)
  | _=>exact absurd (show false=true from b) Aud
 | byt i =>
  obtain⟨t,rfl⟩:=c;cases y with
  | byt j=>obtain⟨t',rfl⟩:=a;exact W.eq_bytes (Cm I q Ahh)
  | _=>exact absurd (show false=true from b) Aud
 | _=>cases y <;> exact absurd (show false=true from b) Aud
theorem G5:OpR X (compareOp .NotEq) rNe:=by
 intro pins s σ H x y v u Q I c a h;obtain⟨b,q⟩:=h;cases x with
 | non =>
  cases c;cases y with
  | non=>cases a;exact PySem.EqNone.ne_none_none (Cm I q (by simp))
  | bl j=>cases a;exact PySem.EqNone.ne_none_bool (Cm I q (by simp))
  | int j=>obtain⟨t',rfl⟩:=a;exact PySem.EqNone.ne_none_int (Cm I q (by simp))
  | str j=>obtain⟨t',rfl⟩:=a;exact PySem.EqNone.ne_none_str (Cm I q (by simp))
  | _=>exact absurd (show false=true from b) Aud
 | bl i =>
  cases c;cases y with
  | non=>cases a;exact PySem.EqNone.ne_bool_none (Cm I q (by simp))
  | bl j=>cases a;exact ne_bool (Cm I q (congrArg not Aj6))
  | str j=>obtain⟨t',rfl⟩:=a;exact PySem.EqMixed.ne_bool_str (Cm I q (by simp))
  | _=>exact absurd (show false=true from b) Aud
 | int i =>
  obtain⟨t,rfl⟩:=c;cases y with
  | non=>cases a;exact PySem.EqNone.ne_int_none (Cm I q (by simp))
  | int j=>obtain⟨t',rfl⟩:=a;exact ne_int (Cm I q (congrArg not Ahg))
  | str j=>obtain⟨t',rfl⟩:=a;exact PySem.EqMixed.ne_int_str (Cm I q (by simp))
  | _=>exact absurd (show false=true from b) Aud
 | str i =>
  obtain⟨t,rfl⟩:=c;cases y with
  | non=>cases a;exact PySem.EqNone.ne_str_none (Cm I q (by simp))
  | bl j=>cases a;exact PySem.EqMixed.ne_str_bool (Cm I q (by simp))
  | int j=>obtain⟨t',rfl⟩:=a;exact PySem.EqMixed.ne_str_int (Cm I q (by simp))
  | str j=>obtain⟨t',rfl⟩:=a;exact ne_str (Cm I q (congrArg not Le))
  | _=>exact absurd (show false=true from b) Aud
 | byt i =>
  obtain⟨t,rfl⟩:=c;cases y with
  | byt j=>obtain⟨t',rfl⟩:=a;exact W.ne_bytes (Cm I q (congrArg not Ahh))
  | _=>exact absurd (show false=true from b) Aud
 | _=>cases y <;> exact absurd (show false=true from b) Aud
theorem Ge:OpR X (compareOp .Lt) (rI0 λi j=>.bl (decide (i<j))):=Amv λ_ _ _ _ _ _ _ q=>lt_int q
theorem Aj7:OpR X (compareOp .LtE) (rI0 λi j=>.bl (decide (i<=j))):=Amv λ_ _ _ _ _ _ _ q=>le_int q
theorem HF:OpR X (compareOp .Gt) (rI0 λi j=>.bl (decide (j<i))):=Amv λ_ _ _ _ _ _ _ q=>gt_int q
theorem Z3:OpR X (compareOp .GtE) (rI0 λi j=>.bl (decide (j<=i))):=Amv λ_ _ _ _ _ _ _ q=>ge_int q
inductive Ae5 (x:V)(y:V)(H:Hp)(Q:VK):Prop
|mk(i:_)(j:_)(_:x=.str i)(_:y=.str j)(_:Q (.bl (!(Builtin.Str.occurrences j i 0 j.length 1).isEmpty)) H)
theorem VB:OpR X (compareOp .In) Ae5:=by intro pins s σ H x y v u Q I b a h;obtain⟨i,j,rfl,rfl,q⟩:=h;obtain⟨t,rfl⟩:=b;obtain⟨t',rfl⟩:=a;exact in_str (Cm I q Z)
inductive Aj8 (x:V)(y:V)(H:Hp)(Q:VK):Prop
|mk(_:y=.non)(_:Q (.bl (decide (x=.non))) H)
theorem Aj9:OpR X (compareOp .Is) Aj8:=by
 intro pins s σ H x y v u Q I b a h;obtain⟨rfl,q⟩:=h;cases a;refine is_none_gen (Cm I q ?_);cases x <;> first
  | grind
  | (obtain⟨t,rfl⟩:=b;rfl)
inductive Aih (x:V)(y:V)(H:Hp)(Q:VK):Prop
|mk(_:y=.non)(_:Q (.bl (!decide (x=.non))) H)
theorem Ahi:OpR X (compareOp .IsNot) Aih:=by
 intro pins s σ H x y v u Q I b a h;obtain⟨rfl,q⟩:=h;cases a;refine isnot_none_gen (Cm I q ?_);cases x <;> first
  | grind
  | (obtain⟨t,rfl⟩:=b;rfl)
inductive Z4 (x:V)(y:V)(H:Hp)(Q:VK):Prop
|mk(i:_)(j:_)(_:x=.str i)(_:y=.str j)(_:Q (.bl (!(!(Builtin.Str.occurrences j i 0 j.length 1).isEmpty))) H)
theorem S6:OpR X (compareOp .NotIn) Z4:=by intro pins s σ H x y v u Q I b a h;obtain⟨i,j,rfl,rfl,q⟩:=h;obtain⟨t,rfl⟩:=b;obtain⟨t',rfl⟩:=a;exact notIn_str (Cm I q Z)
theorem OpR.or{c:R2}(h:OpR X f r)(h':OpR X f c):OpR X f (λx y H Q=>r x y H Q\/c x y H Q):=by
 intro pins s σ H x y v u Q I b a q;rcases q with q | q
 ·exact h pins s σ H x y v u Q I b a q
 ·exact h' pins s σ H x y v u Q I b a q
theorem Ax(b:Expr)(h:op≠.In:=by decide)(h2:op≠.NotIn:=by decide):behindInMarks op b=false:=by
 have e1:(op == CmpOp.In)=false:=by grind
 have e2:(op == CmpOp.NotIn)=false:=by grind
 cases b <;> simp[behindInMarks,e1,e2]
theorem Ea(m:OpR X (compareOp op) r)(f:PE X a ta)(e:PE X b tb)(j:behindInMarks op b=false):PE X (.Compare a [op] [b] pos) (tOp r ta tb):=by intro pins s σ H Q I h;exact wpAny_Compare1 (AoZ f e I h λv u d x y H2 l i c q=>m pins d σ H2 x y v u Q l i c q) j
inductive Amx (Q:(Bool->Hp->Prop))(x:V)(H':Hp):Prop
|mk(k:_)(_:x=.bl k)(_:Q k H')
def AqQ (t:TE)(σ:St)(H:Hp)(Q:(Bool->Hp->Prop)):Prop:=t σ H (Amx Q)
theorem Ah(f:OpR X (compareOp op) r)(m:PE X a ta)(l:PE X b tb)(p:behindInMarks op b=false):PT X (.Compare a [op] [b] pos) (AqQ (tOp r ta tb)):=by
 intro pins s σ H Q I h;refine wpAny_isTrue_Compare1 (thn (m pins s σ H _ I h) λv s1 ⟨x,H1,d,j,C⟩=>thn (l pins s1 σ H1 _ d C) λu i ⟨y,H2,t,A,w⟩ =>
  thn (f pins i σ H2 x y v u _ t j A w) λc D ⟨z,o,q,B,k,e,n⟩=>?_) p;subst e;cases B;exact yB ⟨o,q,n⟩
def Apb (K:NF)(x:V)(H:Hp)(k:Bool):Prop :=
 match x with
 | .non=>k=false
 | .bl b=>k=b
 | .int i=>k=(i != 0)
 | .str y=>y.length<=sizeLine/\k=((y.length:Int) != 0)
 | .byt y=>y.size<=sizeLine/\k=((y.size:Int) != 0)
 | .ref p=>(∃ xs,SqL K H p xs/\k=!xs.isEmpty)\/(∃ xs,SqT K H p xs/\k=!xs.isEmpty)\/∃ kvs,H p=some (.dK kvs)/\k=!kvs.isEmpty
 | _=>False
theorem Agj{kvs:List (κ × V)}{vs:List (κ × Value)}(r:KV kvs vs):(!vs.isEmpty)=!kvs.isEmpty:=by cases r <;> rfl
theorem Z6{its:NW}(r:Vals xs its):(!its.toArray.isEmpty)=!xs.isEmpty:=by cases r <;> simp
theorem VD:(sizeLine:Nat)<2 ^ 63:=by rw[z8];decide
theorem Apc:AsJ X (λx H Q=>∃ k,Apb X.K x H k/\Q k H):=by
 intro pins s σ H x v Q I d h;obtain⟨k,e,q⟩:=h;have o:=z8;cases x with
 | non =>
  cases d;have a:=e;subst a;exact truthy_none ⟨H,I,q⟩
 | bl b =>
  cases d;have a:=e;subst a;exact yB ⟨H,I,q⟩
 | int i =>
  obtain⟨t,rfl⟩:=d;have a:=e;subst a;exact PySem.P.truthy_int ⟨H,I,q⟩
 | str y =>
  obtain⟨t,rfl⟩:=d;obtain⟨l,a⟩:y.length<=sizeLine/\k=((y.length:Int) != 0):=e;subst a;exact PySem.P.truthy_str (by lia) ⟨H,I.tok _,q⟩
 | byt y =>
  obtain⟨t,rfl⟩:=d;obtain⟨l,a⟩:y.size<=sizeLine/\k=((y.size:Int) != 0):=e;subst a;exact W.truthy_bytes (by lia) ⟨H,I.tok _,q⟩
 | ref p =>
  cases d;have a:=e;rcases a with ⟨xs,f,a⟩ | ⟨xs,f,a⟩ | ⟨kvs,f,a⟩
  ·subst a;obtain⟨its,r,pl,j⟩:=I.list f;have c:=r.length;exact wpAny_truthy_list pl.isList (by simp only [Aub];omega) ⟨H,I.tok _,by rw[Z6 r];exact q⟩
  ·subst a;obtain⟨its,r,pl,j⟩:=I.tuple f;have c:=r.length;exact truthy_tuple pl (by simp only [Aub];omega) ⟨H,I.tok _,by rw[Z6 r];exact q⟩
  ·subst a;obtain⟨j,n,vs,r,m⟩:kvs.length<=sizeLine/\(p == sysModules)=false/\∃ vs,KV kvs vs/\s.heap.DictOf (DY X.prog X.w) p vs:=I.hok p _ f;have c:=Paired.length r;exact wpAny_truthy_dict n m (by lia) ⟨H,I.tok _,by rw[Agj r];exact q⟩
 | _=>exact(e).elim
theorem AjA(d:PE X a ta)(e:∀ whole,isTrue a X.env whole=(do let v <- whole;standAt a.pos;holding [v] (truthy v))) :
  PT X a (λσ H Q=>ta σ H λx H'=>∃ k,Apb X.K x H' k/\Q k H'):=by
 intro pins s σ H Q I h;exact isTrue_plain (thn (d pins s σ H _ I h) λv s1 ⟨x,H1,b,c,f⟩=>Apc pins s1 σ H1 x v Q b c f) (e _)
inductive AcV (x:V)(y:V)(H:Hp)(Q:VK):Prop
|mk(i:_)(j:_)(_:x=.str i)(_:y=.str j)(_:i.length+j.length<=sizeLine)(_:Q (.str (i++j)) H)
theorem BL:OpR X (binaryOp .Add) AcV:=by intro pins s σ H x y v u Q I b a h;obtain⟨i,j,rfl,rfl,c,q⟩:=h;obtain⟨t,rfl⟩:=b;obtain⟨t',rfl⟩:=a;exact add_str (λt' tk=>⟨.str (i++j),H,I.tok _,⟨_,Z⟩,q⟩) c
theorem vals1{x:V}(r:Vals [x] us):∃ u,us=[u]/\RelV x u:=by
 cases r with
 | cons b a=>cases a;exact⟨_,Z,b⟩
inductive Agk (xs:Na)(H:Hp)(Q:VK):Prop
|mk(i:_)(_:xs=[.int i])(_:Q (.int (if i<0 then -i else i)) H)
theorem AjB:Fz X (.builtin "abs") Agk:=by intro pins s σ H xs us Q I r h;obtain⟨i,rfl,q⟩:=h;obtain⟨u,rfl,t,rfl⟩:=vals1 r;exact call_abs_int λu tk=>⟨.int (if i<0 then -i else i),H,I.tok _,⟨_,Z⟩,q⟩
inductive Z7 (xs:Na)(H:Hp)(Q:VK):Prop
|mk(i:_)(_:xs=[.int i])(_:i.natAbs.log2<1920)(_:Q (.str (toString i)) H)
theorem HW:Fz X (.type "str") Z7:=by intro pins s σ H xs us Q I r h;obtain⟨i,rfl,a,q⟩:=h;obtain⟨u,rfl,t,rfl⟩:=vals1 r;exact PySem.P.str_of_int a ⟨.str _,H,I.tok _,⟨_,Z⟩,q⟩
end
structure Agl (h:Heap)(x dx C:Addr)(mA:Str->NY):Prop where
 obj:h.get? x=some (W.instObj C dx)
 ns:h.Ns1 dx mA
 ne:dx≠x
theorem Aii(n:h.Ns1 dx mA):∃ c,h.get? dx=some c/\∀ name,W.lookIn name c=some (mA name):=by
 obtain⟨o,es,m,l,i,hk,_,d⟩:=n;refine⟨o,l,λname=>?_⟩;have e:=d name;unfold nsFind findBy at e;rw[<- Array.find?_toList] at e;unfold W.lookIn;rw[i]
 try dsimp only
 split
 ·rename_i y q;rw[q] at e;exact congrArg some e
 ·rename_i q;rw[q] at e;have a:es.toList.any (·.refKey)=false:=by
   rw[AvE];intro y j;obtain⟨z,t,b⟩:=hk y (Array.mem_toList_iff.mp j);simp[DictEntry.refKey,b]
  have f:¬es.toList.any (·.refKey)=true:=by rw[a];exact Aud
  rw[if_neg f];exact congrArg some e
theorem Agl.look{x:Addr}(I:Agl h x dx C mA):∃ a,W.InstAt h x (W.instObj C dx) C (some a)/\∀ name,W.lookIn name a=some (mA name) :=
 let ⟨a,ho,hl⟩:=Aii I.ns
 ⟨a,⟨I.obj,Z,Z,ho⟩,hl⟩
section
variable {K:NF}{x f:Addr}{v:Value}
theorem get_map{a:Bool}{Q:NR}(X:K.In s.heap)(I:Agl s.heap x dx C mA)(f:W.plainGet K C name=true)(d:W.hasDictIn K C=true)
  (i:W.findIn K (.ref C) name=some none) (c:mA name=some v) (b:W.handedIn v=true) (h:Q v { s with toks:=s.toks+1 }) :
  wpAny (model prog w) A (getAttr (.ref x) name a) Q E s:=by
 obtain⟨j,J,e⟩:=I.look;exact W.get_value X J (W.plainGet_of f).1 (W.findObj_own d i Z (by rw[e,c])) b h
theorem AjC{Q:Value × NW->Shared->Prop}(X:K.In s.heap)(I:Agl s.heap x dx C mA)(a:W.plainGet K C name=true)
  (d:W.findIn K (.ref C) name=some (some (.ref f))) (i:W.isFn K (.ref f)=true) (b:mA name=none) (h:Q (.ref f,[.ref x]) s) :
  wpAny (model prog w) A (getMethod (.ref x) name pl) Q E s:=by
 obtain⟨e,J,c⟩:=I.look;exact W.method_fn X J (W.plainGet_of a).1 (W.plainGet_of a).2 d (beq_iff_eq.mp i) (by show(W.lookIn name e).map (·.isSome)=some false;rw[c,b];rfl) h
theorem Amy(X:K.In s.heap)(I:Agl s.heap x dx C mA)
  (n:W.findIn K (.ref C) "__setattr__" = some (some (.builtin "object.__setattr__"))) (r:W.plainOver K C=true) (p:W.takerIn K C name=some none) (j:W.hasDictIn K C=true)
  (o:PySem.Within mA ns) (hsz:ns.length<=sizeLine)
  (h:∀ h',Agl h' x dx C (λy=>if y=name then some v else mA y)->Heap.SameBut dx s.heap h'->Q () { s with heap:=h',toks:=s.toks+2 }) :
  wpAny (model prog w) A (setAttr (.ref x) name v) Q E s:=by
 obtain⟨u,J,t⟩:=I.look;refine W.set_plain X J n (W.osa_open X J r p λb=>?_);obtain⟨cd,hc,f⟩:=W.any_some j;have l:=I.obj;refine zA (zE (zA (zA (wpAny_loadPart l (zA (W.Looks.here (W.looks_clsIn X hc) ?_))))));rw[f];refine zE (zA (zE (zA ?_)));refine wpAny_nsSet1 I.ns λh' a c=>?_;obtain⟨z,m,q,d,i,e⟩:=a.count (PySem.Within.cons name v o);refine zA (wpAny_lookBehind d (by rw[i];exact pastItsLine_dict (AtW e (by grind))) ?_);exact zE (h _ ⟨(c.2 _ (Ne.symm I.ne)).trans I.obj,a,I.ne⟩ c)
theorem AjD{R:Result->Shared->Prop}{vs:NW}(X:K.In s.heap)(b:W.makesIn K C=true)
  (hi:W.findIn K (.ref C) "__init__" = some (some (.ref f))) (c:W.typeIn K (.ref f)=some (.type "function"))
  (h:codeAny (model prog w) (A.under (.builtin "type.__call__" ⟨.ref C::vs,kw⟩)) (.call (.ref f) ⟨.ref (s.heap.objs.size+1)::vs,kw⟩) (W.InitBack (s.heap.objs.size+1) R)
   { s with heap:=(s.heap.push W.emptyDict).push (W.instObj C s.heap.objs.size) }) :
  codeAny (model prog w) A (.call (.ref C) ⟨vs,kw⟩) R s:=by
 exact W.make_core (W.makes_of X b) (W.looks_findIn X hi) (λa=>W.bind_fn X a c) (.inl Z) h
end
def Nr (f:Str)(v:V):List (Str × V)->List (Str × V)
 | []=>[(f,v)]
 | (g,x)::r=>if g=f then (g,v)::r else (g,x)::Nr f v r
theorem WY(f g:Str)(v:V):∀ fs:List (Str × V),(Nr f v fs).lookup g=if g=f then some v else fs.lookup g
 | []=>by
  show List.lookup g [(f,v)]=_;by_cases h:g=f
  ·simp_all
  ·simp_all
 | (k,x)::r=>by
  have b:=WY f g v r;rw[show Nr f v ((k,x)::r)=(if k=f then (k,v)::r else (k,x)::Nr f v r) from rfl];by_cases hk:k=f
  ·rw[if_pos hk];by_cases h:g=k
   ·simp_all
   ·have a:=zZ.mpr h;simp only [List.lookup,a,if_neg (λe:g=f=>h (e.trans hk.symm))]
  ·rw[if_neg hk];by_cases h:g=k
   ·simp_all
   ·have a:=zZ.mpr h;simp only [List.lookup,a];exact b
theorem VF(f:Str)(v:V):∀ fs:List (Str × V),f∈(Nr f v fs).map (·.1)/\∀ g,g∈fs.map (·.1)->g∈(Nr f v fs).map (·.1)
 | []=>⟨by simp[Nr],λg h=>by simp at h⟩
 | (k,x)::r=>by
  obtain⟨i1,i2⟩:=VF f v r;rw[show Nr f v ((k,x)::r)=(if k=f then (k,v)::r else (k,x)::Nr f v r) from rfl];grind
theorem Xa(f:Str)(v:V):∀ fs:List (Str × V),(Nr f v fs).length<=fs.length+1
 | []=>by simp[Nr]
 | (k,x)::r=>by
  have a:=Xa f v r;rw[show Nr f v ((k,x)::r)=(if k=f then (k,v)::r else (k,x)::Nr f v r) from rfl];grind
theorem Nx.some_of{o:NY}(r:Nx (some v) o):∃ u,o=some u/\RelV v u:=by
 cases o with
 | none=>exact(r).elim
 | some u=>exact⟨u,Z,r⟩
theorem Nx.none_of{o:NY}(r:Nx none o):o=none:=by
 cases o with
 | none=>rfl
 | some u=>exact(show False from r).elim
theorem Aij(r:RelV v u):W.handedIn u=true:=by
 cases v with
 | non=>cases (r);rfl
 | bl b=>cases (r);rfl
 | int i=>obtain⟨t,e⟩:=(r);cases e;rfl
 | str x=>obtain⟨t,e⟩:=(r);cases e;rfl
 | byt b=>obtain⟨t,e⟩:=(r);cases e;rfl
 | flt b=>obtain⟨t,e⟩:=(r);cases e;rfl
 | ref a=>cases (r);rfl
 | ty n=>cases (r);rfl
section
variable {fs fs':List (Str × V)}
theorem Zi(b:HOk P w H h)(e:H a=some (.ins C dx fs)):∃ mA,Agl h a dx C mA/\(∀ f,Nx (fs.lookup f) (mA f))/\PySem.Within mA (fs.map (·.1))/\fs.length<=1000/\H dx=some (.own a):=by obtain⟨d,z,ne,c,mA,n,r,q⟩:=(b a _ e);exact⟨mA,⟨c,n,ne⟩,r,q,z,d⟩
end
structure Cls (K:NF)(C:Addr):Prop where
 pg:W.plainGet K C Str.empty=true
 hd:W.hasDictIn K C=true
 po:W.plainOver K C=true
 sa:W.findIn K (.ref C) "__setattr__" = some (some (.builtin "object.__setattr__"))
theorem Cls.get{K:NF}(c:Cls K C)(f:Str):W.plainGet K C f=true:=c.pg
def CT (K:NF)(C:Addr)(f:Str):Prop:=W.findIn K (.ref C) f=some none
theorem CT.taker{K:NF}{f:Str}(n:CT K C f):W.takerIn K C f=some none:=by unfold W.takerIn;rw[show W.findIn K (.ref C) f=some none from n];rfl
structure Meth (K:NF)(C:Addr)(m:Str)(f:Addr):Prop where
 at_:W.findIn K (.ref C) m=some (some (.ref f))
 fn:W.isFn K (.ref f)=true
 kp:W.keepIn K (.ref f)=true
section
variable {fs:List (Str × V)}{f:Str}
theorem Z8{b:Bool}{Q:NR}(I:Inv X pins σ H s)(e:H a=some (.ins C dx fs))(c:Cls X.K C)(n:CT X.K C f)(l:fs.lookup f=some v)
  (h:∀ u s',Inv X pins σ H s'->RelV v u->Q u s'):wpAny (model X.prog X.w) A (getAttr (.ref a) f b) Q E s:=by
 obtain⟨mA,O,r,_,_,_⟩:=Zi I.hok e;obtain⟨u,i,d⟩:=Nx.some_of (by rw[<- l];exact r f);exact get_map I.kIn O (c.get f) c.hd n i (Aij d) (h u _ (I.tok _) d)
theorem Rz{g:Addr}{Q:Value × NW->Shared->Prop}(I:Inv X pins σ H s)(e:H a=some (.ins C dx fs))(c:Cls X.K C)(k:Meth X.K C m g)(l:fs.lookup m=none)
  (h:Q (.ref g,[.ref a]) s):wpAny (model X.prog X.w) A (getMethod (.ref a) m pl) Q E s:=by
 obtain⟨mA,O,r,_,_,_⟩:=Zi I.hok e;have hn:=Nx.none_of (by rw[<- l];exact r m);exact AjC I.kIn O (c.get m) k.at_ k.fn hn h
theorem Z9(I:Inv X pins σ H s)(e:H a=some (.ins C dx fs))(c:Cls X.K C)(n:CT X.K C f)(x:fs.length<1000)(j:RelV y u)
  (h:∀ s',Inv X pins σ (upd H a (.ins C dx (Nr f y fs))) s'->Q () s'):wpAny (model X.prog X.w) A (setAttr (.ref a) f u) Q E s:=by
 obtain⟨mA,O,r,wi,_,i⟩:=Zi I.hok e;have p:(fs.map (·.1)).length<=sizeLine:=by rw[AtG,z8];lia
 refine Amy I.kIn O c.sa c.po n.taker c.hd wi p λh' d v=>h _ ?_;have t:∃ o,h'.get? dx=some o:=let ⟨o,_,_,e',_⟩:=d.ns;⟨o,e'⟩
 refine I.write (by rw[e];exact True.intro) (.inr i) (λb q l z=>(v.2 b l).trans z) t ?_;refine⟨by rw[Aj O.ne];exact i,?_,O.ne,d.obj,_,d.ns,λg=>?_,λg m=>?_⟩
 ·have:= Xa f y fs;lia
 ·rw[WY];by_cases q:g=f
  ·rw[if_pos q,if_pos q];exact j
  ·rw[if_neg q,if_neg q];exact r g
 ·by_cases q:g=f
  ·rw[q];exact(VF f y fs).1
  ·refine(VF f y fs).2 g (wi g λz=>m ?_);show(if g=f then some u else mA g)=none;rw[if_neg q];exact z
theorem Inv.made(I:Inv X pins σ H s):Inv X pins σ (upd (upd H s.heap.objs.size (.own (s.heap.objs.size+1))) (s.heap.objs.size+1) (.ins C s.heap.objs.size []))
  { s with heap:=(s.heap.push W.emptyDict).push (W.instObj C s.heap.objs.size) }:=by
 have e1:(s.heap.push W.emptyDict).get? s.heap.objs.size=some W.emptyDict:=zD s.heap Z;have e2:((s.heap.push W.emptyDict).push (W.instObj C s.heap.objs.size)).get? (s.heap.objs.size+1)=some (W.instObj C s.heap.objs.size):=by
  have:= zD (s.heap.push W.emptyDict) (o:=W.instObj C s.heap.objs.size) Z
  rwa [Heap.size_push] at this
 have e3:(s.heap.push W.emptyDict).Ns s.heap.objs.size (λ_=>none):=⟨W.emptyDict,#[],_,e1,Z,(λe c=>absurd c (by simp)),λ_=>rfl⟩;have a:=I.laid (o:=.own (s.heap.objs.size+1)) (t':=s.toks) (λb u q=>zB _ q) (AtH _) ⟨_,e1⟩;refine a.laid (λb u q=>zB _ q) (AuE (Heap.size_push _ _)) ?_;have ne:s.heap.objs.size≠s.heap.objs.size+1:=AtU (AuS _);refine⟨by rw[Aj ne,Ae],AtR _,ne,e2,λ_=>none,(Heap.Ns1.of_empty e3).at λo q=>zB _ q,λ_=>True.intro,λy d=>absurd rfl d⟩
theorem Amz{env:Env}{f:Str}{Q:NR}(a:attributeBase e f env (eval e env)=eval e env)
  (h:wpAny (model prog w) A (eval e env) (λo s₁=>wpAny (model prog w) A (getAttr o f true) Q E s₁) E s):wpAny (model prog w) A (eval (.Attribute e f pos) env) Q E s :=
 Attribute_any_ h (by rw[arm_eval_Attribute,a])
end
inductive Apd (K:NF)(f:Str)(Q:VK)(x:V)(H1:Hp):Prop
|mk(a:_)(C:_)(dx:_)(fs:_)(v:_)(_:x=.ref a)(_:H1 a=some (.ins C dx fs))(_:Cls K C)(_:CT K C f)(_:fs.lookup f=some v)(_:Q v H1)
def AqR (K:NF)(ta:TE)(f:Str)(σ:St)(H:Hp)(Q:VK):Prop:=ta σ H (Apd K f Q)
inductive Ape (K:NF)(f:Str)(D:Ends)(σ:St)(y:V)(x:V)(H2:Hp):Prop
|mk(a:_)(C:_)(dx:_)(fs:_)(_:x=.ref a)(_:H2 a=some (.ins C dx fs))(_:Cls K C)(_:CT K C f)(_:fs.length<1000)(_:D.nx σ (upd H2 a (.ins C dx (Nr f y fs))))
abbrev Apf (K:NF)(ta:TE)(f:Str)(D:Ends)(σ:St)(y:V)(H1:Hp):Prop:=ta σ H1 (Ape K f D σ y)
def AqS (K:NF)(ta:TE)(tv:TE)(f:Str)(D:Ends)(σ:St)(H:Hp):Prop:=tv σ H (Apf K ta f D σ)
def Apg (X:Cx)(op:Operator)(rd:V->V->Hp->VK->Prop):Prop :=
 ∀(pins:NO)(s:Shared)(σ:St)(H:Hp)(x y:V)(u v:Value)(Q:VK),Inv X pins σ H s->RelV x u->RelV y v->rd x y H Q->wpAny (model X.prog X.w) X.A (inplaceOp op u v) (EP X pins σ Q) X.xe s
inductive Aik (K:NF)(tv:TE)(rd:V->V->Hp->VK->Prop)(f:Str)(D:Ends)(σ:St)(x:V)(H1:Hp):Prop
|mk(a:_)(C:_)(dx:_)(fs:_)(v:_)(_:x=.ref a)(_:H1 a=some (.ins C dx fs))(_:Cls K C)(_:CT K C f)(_:fs.lookup f=some v)(_:tv σ H1 λy H2=>rd v y H2 λz H3=>∃ dx' fs',H3 a=some (.ins C dx' fs')/\fs'.length<1000/\D.nx σ (upd H3 a (.ins C dx' (Nr f z fs'))))
def Ahj (K:NF)(ta:TE)(tv:TE)(rd:V->V->Hp->VK->Prop)(f:Str)(D:Ends)(σ:St)(H:Hp):Prop:=ta σ H (Aik K tv rd f D σ)
section
variable {o value:Expr}{f:Str}{tpos:Pos}{tv:TE}
theorem Aph(m:PE X e ta)(i:attributeBase e f X.env (eval e X.env)=eval e X.env):PE X (.Attribute e f pos) (AqR X.K ta f):=by intro pins s σ H Q I h;refine Amz i (thn (m pins s σ H _ I h) λu s1 ⟨x,H1,b,j,a,C,dx,fs,v,ex,ea,c,n,l,q⟩=>?_);subst ex;obtain rfl:u=Value.ref a:=j;exact Z8 b ea c n l λr p o d=>⟨v,H1,o,d,q⟩
theorem Api(e:PE X o ta)(p:PE X value tv)(t:swapsWith value (some (.Attribute o f pos')) pos.line X.env=pure false):PS X (.Assign [.Attribute o f pos'] value pos) (AqS X.K ta tv f):=by intro pins s σ H D I h;refine plainObj_wpAny_Assign_Attribute (thn (p pins s σ H _ I h) λu s1 ⟨y,H1,b,d,q⟩=>thn (e pins s1 σ H1 _ b q) λm w ⟨x,H2,r,i,a,C,dx,fs,ex,ea,c,n,l,v⟩=>?_) t;subst ex;obtain rfl:m=Value.ref a:=i;exact Z9 r ea c n l d λz j=>⟨σ,_,j,v⟩
theorem Ail{op:Operator}{e:V->V->Hp->VK->Prop}(L:PE X o ta)(w:PE X value tv)(d:Apg X op e):PS X (.AugAssign (.Attribute o f tpos) op value pos) (Ahj X.K ta tv e f):=by intro pins s σ H D I h;refine wpAny_AugAssign_AttributeAny (thn (L pins s σ H _ I h) λt s1 ⟨x,H1,i,N,a,C,dx,fs,v,ex,ea,c,n,l,q⟩=>?_);subst ex;obtain rfl:t=Value.ref a:=N;refine Z8 i ea c n l λu p A j=>thn (w pins p σ H1 _ A q) λm E ⟨y,H2,r,F,Q⟩=>thn (d pins E σ H2 v y u m _ r j F Q) λT R ⟨z,U,J,M,O,fs',b,l',B⟩=>?_;exact Z9 J b c n l' M λS P=>⟨σ,_,P,B⟩
inductive AsL (x:V)(y:V)(H:Hp)(Q:VK):Prop
|mk(i:_)(j:_)(_:x=.int i)(_:y=.int j)(_:Q (.int (i+j)) H)
theorem Apj:Apg X .Add AsL:=by rintro pins s σ H x y u v Q I b a ⟨i,j,rfl,rfl,q⟩;obtain⟨t,rfl⟩:=(b);obtain⟨t',rfl⟩:=(a);exact PyProof.Rows.iadd_int ⟨.int (i+j),H,I.tok _,⟨_,Z⟩,q⟩
end
section
variable {Q:NR}{c:Value}{b:Bool}
inductive VG (K:NF) (H:Hp):V->Value->Prop where
 | non:VG K H .non (.type "NoneType")
 | bl (x:Bool):VG K H (.bl x) (.type "bool")
 | int (i:Int):VG K H (.int i) (.type "int")
 | str (x:Str):VG K H (.str x) (.type "str")
 | flt (x:UInt64):VG K H (.flt x) (.type "float")
 | lst {a:Addr} {xs:Na} (e:H a=some (.lst xs)):VG K H (.ref a) (.type "list")
 | frz {a:Addr} {o:Obj} {xs:Na} (e:H a=some (.frz o (.lst xs))):VG K H (.ref a) (.type "list")
 | tup {a:Addr} {xs:Na} (e:H a=some (.tup xs)):VG K H (.ref a) (.type "tuple")
 | dK {a:Addr} {kvs:List (Key × V)} (e:H a=some (.dK kvs)):VG K H (.ref a) (.type "dict")
 | dT {a:Addr} {kvs:List (List Key × V)} (e:H a=some (.dT kvs)):VG K H (.ref a) (.type "dict")
 | ins {a C dx:Addr} {fs:List (Str × V)} (e:H a=some (.ins C dx fs)) (cl:Cls K C) (ha:W.findIn K (.ref C) "__class__" = some (some (.builtin "object.__class__")))
   (hn:W.specialIn K (.builtin "object.__class__") "__get__" = some (some (.builtin "getset_descriptor.__get__"))) (htk:W.takesIn K (.builtin "object.__class__")=some true)
   (hm:W.mroIn K C (.type "object")=some true):VG K H (.ref a) (.ref C)
theorem AbR{x:V}{t:Value}(I:Inv X pins σ H s)(d:RelV x u)(ty:VG X.K H x t)(e:W.kitOne X.K t c=some b)(h:∀ tk,Q (.bool b) { s with toks:=tk }) :
  wpAny (model X.prog X.w) A (call (.builtin "isinstance") [u,c]) Q E s:=by
 cases ty with
 | non=>cases (d);exact W.kia_one W.kitx_none I.kIn True.intro e (λz=>nomatch z) h
 | bl y=>cases (d);exact W.kia_one W.kitx_bool I.kIn True.intro e (λz=>nomatch z) h
 | int i=>obtain⟨t,q⟩:=(d);cases q;exact W.kia_one W.kitx_int I.kIn True.intro e (λz=>nomatch z) h
 | str y=>obtain⟨t,q⟩:=(d);cases q;exact W.kia_one W.kitx_str I.kIn True.intro e (λz=>nomatch z) h
 | flt y=>obtain⟨t,q⟩:=(d);cases q;exact W.kia_one W.kitx_float I.kIn True.intro e (λz=>nomatch z) h
 | @lst a xs ea =>
  cases (show u=Value.ref a from d);obtain⟨_,_,n,_,h1⟩:=(I.hok a _ ea);exact W.kia_one W.kitx_list I.kIn ⟨_,h1,Z⟩ e (λz=>nomatch z) h
 | @frz a r xs ea =>
  cases (d);obtain⟨_,_,_,n,_,h1⟩:=(I.hok a _ ea);exact W.kia_one W.kitx_list I.kIn ⟨_,h1,Z⟩ e (λz=>nomatch z) h
 | @tup a xs ea =>
  cases (show u=Value.ref a from d);obtain⟨_,_,_,p⟩:=(I.hok a _ ea);obtain⟨o,h1,h2,_⟩:=p;exact W.kia_one W.kitx_tuple I.kIn ⟨o,h1,h2⟩ e (λz=>nomatch z) h
 | @dK a kvs ea =>
  cases (show u=Value.ref a from d);obtain⟨_,_,vs,_,p⟩:=(I.hok a _ ea);obtain⟨o,es,m,h1,h2,_⟩:=p;exact W.kia_one W.kitx_dict I.kIn ⟨o,h1,h2.1⟩ e (λz=>nomatch z) h
 | @dT a kvs ea =>
  cases (show u=Value.ref a from d);obtain⟨_,_,xs,_,o,es,m,h1,h2,_⟩:=(I.hok a _ ea);exact W.kia_one W.kitx_dict I.kIn ⟨o,h1,h2.1⟩ e (λz=>nomatch z) h
 | @ins a C dx fs ea cl l hn f j =>
  cases (d);obtain⟨mA,O,_⟩:=Zi I.hok ea;obtain⟨v,J,_⟩:=O.look;exact W.kia_one (W.kitx_own (cl.get _) cl.hd l hn f j) I.kIn J e (λz=>nomatch z) h
end
structure Ez (k:Nat)(A:Around):Prop where
 hd:A.handled=none
 dp:A.depth+3*k+5<recursionLimit
 un:A.units+16*k+200<cLine
theorem Ez.mono{k:Nat}(r:Ez k A)(h:j<=k):Ez j A:=⟨r.hd,by have:=r.dp;omega,by have:=r.un;omega⟩
theorem Ez.deeper{k:Nat}(r:Ez (k+1) A)(env:Env):Ez k (A.deeper env) :=
 ⟨r.hd,by have:= r.dp;show A.depth+1+3*k+5<_;lia,by have:= r.un;show A.units+3+16*k+200<_;lia⟩
theorem Agm:(A.under (.builtin "type.__call__" ⟨.ref C::us,kw⟩)).depth=A.depth+1:=by
 first | rfl | grind
theorem Agn:(A.under (.builtin "type.__call__" ⟨.ref C::us,kw⟩)).units=A.units+1:=by
 first | rfl | grind
theorem Ez.make{k:Nat}(r:Ez (k+1) A)(C:Addr)(us:NW)(kw:List (Str × Value)):Ez k (A.under (.builtin "type.__call__" ⟨.ref C::us,kw⟩)) :=
 ⟨r.hd,by have:= r.dp;rw[Agm];lia,by have:= r.un;rw[Agn];lia⟩
theorem Ez.depth{k:Nat}(r:Ez k A):A.depth<recursionLimit:=by have:=r.dp;omega
theorem Ez.units{k:Nat}(r:Ez k A):A.units+64<cLine:=by have:=r.un;omega
theorem Ez.AjE{k:Nat}(r:Ez k A):A.units<cLine:=by have:=r.un;omega
def AqT:TA:=λ_ H Q=>Q [] H
abbrev Am0 (Q:(Na->Hp->Prop))(x:V)(xs:Na)(H2:Hp):Prop:=Q (x::xs) H2
abbrev Am1 (tr:TA)(σ:St)(Q:(Na->Hp->Prop))(x:V)(H1:Hp):Prop:=tr σ H1 (Am0 Q x)
def AqU (ta:TE)(tr:TA)(σ:St)(H:Hp)(Q:(Na->Hp->Prop)):Prop:=ta σ H (Am1 tr σ Q)
section
variable {t:TA}
theorem Ab:PA X [] AqT:=λ_ _ _ _ H Q I h=>Calls.spliced_nil ⟨[],H,I,.nil,h⟩
theorem Aa(c:PE X e te)(d:PA X es t)(i:starEach (e::es) X.env=(false,eval e X.env)::starEach es X.env:=by rfl):PA X (e::es) (AqU te t):=by intro pos pins s σ H Q I h;rw[i];show wpAny _ _ (spliced ((false,eval e X.env)::backTo pos (starEach es X.env))) _ _ s;refine Calls.spliced_cons (thn (c pins s σ H _ I h) λu s1 ⟨x,H1,a,b,m⟩=>?_);exact thn (d pos pins s1 σ H1 _ a m) λus n ⟨xs,H2,f,l,j⟩=>⟨x::xs,H2,f,.cons b l,j⟩
inductive Apk (Q:VK)(xs:Na)(H1:Hp):Prop
|mk(_:xs.length<=sizeLine)(_:∀ p,H1 p=none->Q (.ref p) (upd H1 p (.tup xs)))
def AsM (t:TA)(σ:St)(H:Hp)(Q:VK):Prop:=t σ H (Apk Q)
inductive Apl (Q:VK)(xs:Na)(H1:Hp):Prop
|mk(_:xs.length<=sizeLine)(_:∀ p,H1 p=none->Q (.ref p) (upd H1 p (.lst xs)))
def AsN (t:TA)(σ:St)(H:Hp)(Q:VK):Prop:=t σ H (Apl Q)
theorem Ir{x1}(h:PA X es t):PE X (.Tuple es x1 pos) (AsM t):=by intro pins s σ H Q I c;refine wpAny_Tuple_spliced (thn (h pos pins s σ H _ I c) λus s1 ⟨xs,H1,a,r,z,q⟩=>⟨by rw[<- r.length];exact z,?_⟩);have d:=a.hok.fresh (AtH _);refine⟨.ref s1.heap.objs.size,upd H1 s1.heap.objs.size (.tup xs),a.laid (λb u e=>zB _ e) (AtH _) ?_,Z,q _ d⟩;exact⟨z,us,r,⟨_,zD _ Z,Z,_,Z⟩⟩
theorem Cp(h:PA X es t):PE X (.List es pos) (AsN t):=by intro pins s σ H Q I c;refine wpAny_List_spliced (thn (h pos pins s σ H _ I c) λus s1 ⟨xs,H1,a,r,z,q⟩=>⟨by rw[<- r.length];exact z,?_⟩);have d:=a.hok.fresh (AtH _);refine⟨.ref s1.heap.objs.size,upd H1 s1.heap.objs.size (.lst xs),a.laid (λb u e=>zB _ e) (AtH _) ?_,Z,q _ d⟩;exact⟨z,us,0,r,zD _ Z⟩
end
abbrev Sp:=Na->Hp->VK->XK->Prop
abbrev CXT:=List Env->Hp->Shared->XK->Value->Shared->Prop
structure Ae6 (P:Program)(w:World)(K:NF)(mg:Str->NY)(base:Heap)(A:Around)(outer:List Env)(s:Shared)(H:Hp):Prop where
 frames:A.frames=some outer
 mod:Mod K mg base
 bs:∀ b o,base.get? b=some o->s.heap.get? b=some o/\H b=none
 bsz:base.objs.size<=s.heap.objs.size
 V9:s.heap.FunFrames base outer
 frf:∀ b∈frs outer,H b=none
 hok:HOk P w H s.heap
 bare:AllBare s.gens
def CE (outer:List Env)(P:Program)(w:World)(H:Hp)(s:Shared)(Q:VK)(u:Value)(s':Shared):Prop :=
 ∃ v H',s'.os=s.os/\AllBare s'.gens/\Un (frs outer) [] H H' s.heap s'.heap/\HOk P w H' s'.heap/\RelV v u/\Q v H'
def CR (CX:CXT)(outer:List Env)(P:Program)(w:World)(H:Hp)(s:Shared)(Q:VK)(E:XK)(r:Result)(s':Shared):Prop :=
 match r with
 | .ok (.ret u)=>CE outer P w H s Q u s'
 | .ok _=>False
 | .error e=>CX outer H s E e s'
structure Bl (P:Program)(w:World)(K:NF)(mg:Str->NY)(base:Heap)(CX:CXT)(k:Nat)(f:Addr)(fd:FuncData)(ps:NX)(sp:Sp):Prop where
 len:∀ vs H Q E,sp vs H Q E->vs.length=ps.length
 run:∀(A:Around)(outer:List Env)(s:Shared)(H:Hp)(args:Args)(us:NW)(vs:Na)(Q:VK)(E:XK),Ez k A->Ae6 P w K mg base A outer s H->BindsTo s fd args (ps.zip us)->Vals vs us->sp vs H Q E ->
  codeAny (model P w) A (.call (.ref f) args) (CR CX outer P w H s Q E) s
theorem Bl.mono{K:NF}{base:Heap}{k:Nat}{f:Addr}(F:Bl P w K mg base CX j f fd ps sp)(h:j<=k) :
  Bl P w K mg base CX k f fd ps sp:=⟨F.len,λA outer s H args us vs Q E a=>F.run A outer s H args us vs Q E (a.mono h)⟩
theorem Bl.imp{K:NF}{base:Heap}{k:Nat}{f:Addr}{a:Sp}(F:Bl P w K mg base CX k f fd ps sp)
  (h:∀ vs H Q E,a vs H Q E->sp vs H Q E):Bl P w K mg base CX k f fd ps a :=
 ⟨λvs H Q E q=>F.len vs H Q E (h _ _ _ _ q),λA outer s H args us vs Q E c e b d i=>F.run A outer s H args us vs Q E c e b d (h _ _ _ _ i)⟩
theorem Ae6.make{K:NF}{base:Heap}(e:Ae6 P w K mg base A outer s H)(C:Addr)(us:NW)(kw:List (Str × Value)) :
  Ae6 P w K mg base (A.under (.builtin "type.__call__" ⟨.ref C::us,kw⟩)) outer s H:=⟨by first | exact e.frames | grind,e.mod,e.bs,e.bsz,e.V9,e.frf,e.hok,e.bare⟩
theorem Inv.env0(I:Inv X pins σ H s):Ae6 X.prog X.w X.K X.mg X.base X.A X.stack s H :=
 ⟨I.ok.frames,I.ok.mod,I.bs,AtW I.ok.bsz I.sz,I.stack,I.AcS,I.hok,I.bare⟩
theorem Inv.after{Q:VK}(I:Inv X pins σ H s)(h:CE X.stack X.prog X.w H s Q u s'):EP X pins σ Q u s':=by obtain⟨v,H',os,a,un,c,r,q⟩:=h;obtain⟨f,g,d,t,e⟩:=s';obtain rfl:e=s.os:=os;exact⟨v,H',I.call un c a (λb z=>absurd z (by simp)),r,q⟩
abbrev Am2 (sp:Sp)(dvs:Na)(E:XK)(Q:VK)(vs:Na)(H1:Hp):Prop:=sp (vs++dvs) H1 Q E
def Aok (sp:Sp)(dvs:Na)(E:XK)(t:TA)(σ:St)(H:Hp)(Q:VK):Prop:=t σ H (Am2 sp dvs E Q)
abbrev Am3 (sp:Sp)(dvs:Na)(E:XK)(Q:VK)(x:V)(vs:Na)(H2:Hp):Prop:=sp (x::(vs++dvs)) H2 Q E
inductive Am4 (C:Addr)(m:Str)(sp:Sp)(dvs:Na)(E:XK)(t:TA)(σ:St)(Q:VK)(x:V)(H1:Hp):Prop
|mk(a:_)(dx:_)(fs:_)(_:x=.ref a)(_:H1 a=some (.ins C dx fs))(_:fs.lookup m=none)(_:t σ H1 (Am3 sp dvs E Q x))
def Aol (C:Addr)(m:Str)(sp:Sp)(dvs:Na)(E:XK)(ta:TE)(t:TA)(σ:St)(H:Hp)(Q:VK):Prop:=ta σ H (Am4 C m sp dvs E t σ Q)
abbrev Am5 (C:Addr)(sp:Sp)(dvs:Na)(E:XK)(Q:VK)(vs:Na)(H1:Hp):Prop:=∀ x dx,H1 x=none->H1 dx=none->dx≠x ->
 sp (.ref x::(vs++dvs)) (upd (upd H1 dx (.own x)) x (.ins C dx [])) (λv H2=>v=.non/\Q (.ref x) H2) E
def AqV (C:Addr)(sp:Sp)(dvs:Na)(E:XK)(t:TA)(σ:St)(H:Hp)(Q:VK):Prop:=t σ H (Am5 C sp dvs E Q)
def Binds(K:NF)(fd:FuncData)(ps:NX)(ds:NW):Prop :=
 ∀(s:Shared)(us:NW),K.In s.heap->(us++ds).length=ps.length->BindsTo s fd ⟨us,[]⟩ (ps.zip (us++ds))
theorem Binds.all{K:NF}(h:∀ us:NW,us.length=ps.length->bindArgs fd ⟨us,[]⟩=pure (ps.zip us)):Binds K fd ps []:=λs us _ a=>by
 rw[Aum] at a ⊢;exact .of_eq (h us a)
def Passes(CX:CXT)(X:Cx)(E:XK):Prop:=∀(pins:NO)(σ:St)(H:Hp)(s:Shared)(e:Value)(s':Shared),Inv X pins σ H s->CX X.stack H s E e s'->X.xe e s'
section
variable {k:Nat}{f:Addr}{dvs:Na}{E:XK}{apos:Pos}{o:Expr}{t:TA}
theorem ZC{Q:VK}(F:Bl X.prog X.w X.K X.mg X.base CX k f fd ps sp)(j:Ez k X.A)(d:Binds X.K fd ps ds)(l:Vals dvs ds)(i:Passes CX X E)
  (I:Inv X pins σ H s) (r:Vals vs us) (h:sp (vs++dvs) H Q E):wpAny (model X.prog X.w) X.A (call (.ref f) us) (EP X pins σ Q) X.xe s:=by
 have b:=r.append l;have c:(us++ds).length=ps.length:=by rw[<- b.length];exact F.len _ _ _ _ h
 refine wpAny_call (codeAny_mono (F.run X.A X.stack s H ⟨us,[]⟩ (us++ds) (vs++dvs) Q E j I.env0 (d s us I.kIn c) b h) λr s' a=>?_);cases r with
 | error e=>exact i pins σ H s e s' I a
 | ok fl =>
  cases fl with
  | ret u=>exact I.after a
  | next=>exact False.elim a
  | brk=>exact False.elim a
  | cont=>exact False.elim a
theorem Eb(F:Bl X.prog X.w X.K X.mg X.base CX k f fd ps sp)(l:Ez k X.A)(m:Gl X x)(n:X.mg x=some (.ref f))(hk:W.keepIn X.K (.ref f)=true)(d:Binds X.K fd ps ds)(u:Vals dvs ds)(i:Passes CX X E)
  (j:PA X (e::es) t) (a:(x == ("__debug__" : Str))=false:=by decide) (o:starEach (e::es) X.env=(false,eval e X.env)::starEach es X.env:=by rfl) (b:(backTo pos (starEach es X.env)).any (·.1)=false:=by rfl) :
  PE X (.Call (.Name x p) (e::es) [] pos) (Aok sp dvs E t):=by
 intro pins s σ H Q I h;refine wpAny_Call_Name_kw (AcT I m n ?_ a);refine W.callWith_K I.ok.mod.kin hk (thn (j pos pins s σ H _ I h) λus s1 ⟨vs,H1,c,r,q⟩=>⟨c.kIn,?_⟩) o b;exact ZC F l d u i c r q
theorem DG(L:PE X o ta)(c:Cls X.K C)(j:Meth X.K C m f)(F:Bl X.prog X.w X.K X.mg X.base CX k f fd ps sp)(v:Ez k X.A)(p:Binds X.K fd ps ds)(z:Vals dvs ds)(B:Passes CX X E)(D:PA X (e::es) t)
  (d:starEach (e::es) X.env=(false,eval e X.env)::starEach es X.env:=by rfl) (b:(backTo pos (starEach es X.env)).any (·.1)=false:=by rfl)
  (M:eval (.Call (.Attribute o m apos) (e::es) [] pos) X.env=(do
   let ov <- eval o X.env
   standAt apos.atName
   let (f,first) <- holding [ov] (getMethod ov m pl)
   callWith pos f first (backTo pos (starEach (e::es) X.env)) (backToKw pos (keywordEach [] X.env))):=by rfl) :
  PE X (.Call (.Attribute o m apos) (e::es) [] pos) (Aol C m sp dvs E ta t):=by
 intro pins s σ H Q I h;refine W.methodCall_KW (thn (L pins s σ H _ I h) λu s1 ⟨x,H1,i,J,a,dx,fs,ex,ea,l,q⟩=>?_) M;subst ex;obtain rfl:u=Value.ref a:=J;refine Rz i ea c j l ?_;refine W.callWith_K I.ok.mod.kin j.kp (thn (D pos pins s1 σ H1 _ i q) λus N ⟨vs,H2,n,r,y⟩=>⟨n.kIn,?_⟩) d b;exact ZC (vs:=.ref a::vs) F v p z B n (.cons Z r) y
theorem Iu(p:PE X o ta)(c:Cls X.K C)(d:Meth X.K C m f)(F:Bl X.prog X.w X.K X.mg X.base CX k f fd ps sp)(j:Ez k X.A)(e:Binds X.K fd ps ds)(t:Vals dvs ds)(i:Passes CX X E)
  (r:eval (.Call (.Attribute o m apos) [] [] pos) X.env=(do
   let ov <- eval o X.env
   standAt apos.atName
   let (f,first) <- holding [ov] (getMethod ov m pl)
   callWith pos f first (backTo pos (starEach [] X.env)) (backToKw pos (keywordEach [] X.env))):=by rfl) :
  PE X (.Call (.Attribute o m apos) [] [] pos) (Aol C m sp dvs E ta AqT):=by
 intro pins s σ H Q I h;refine W.methodCall_KW (thn (p pins s σ H _ I h) λu s1 ⟨x,H1,b,n,a,dx,fs,ex,ea,l,q⟩=>?_) r;subst ex;obtain rfl:u=Value.ref a:=n;refine Rz b ea c d l ?_;exact W.callWith_K0 b.kIn d.kp (ZC (us:=[.ref a]) (vs:=[.ref a]) F j e t i b (.cons Z .nil) q)
structure Mk (K:NF)(C f:Addr):Prop where
 makes:W.makesIn K C=true
 init:W.findIn K (.ref C) "__init__" = some (some (.ref f))
 fn:W.isFn K (.ref f)=true
 kp:W.keepIn K (.ref C)=true
theorem AjF{Q:VK}(M:Mk X.K C f)(F:Bl X.prog X.w X.K X.mg X.base CX k f fd ps sp)(j:Ez (k+1) X.A)(i:Binds X.K fd ps ds)(n:Vals dvs ds)
  (q:Passes CX X E) (I:Inv X pins σ H s) (r:Vals vs us)
  (h:∀ x dx,H x=none->H dx=none->dx≠x->sp (.ref x::(vs++dvs)) (upd (upd H dx (.own x)) x (.ins C dx [])) (λv H2=>v=.non/\Q (.ref x) H2) E) :
  wpAny (model X.prog X.w) X.A (call (.ref C) us) (EP X pins σ Q) X.xe s:=by
 have c:=h (s.heap.objs.size+1) s.heap.objs.size (I.hok.fresh (Au1 _)) (I.hok.fresh (AtH _)) (AtU (AuS _));have b:=Inv.made (C:=C) I;have d:Vals (V.ref (s.heap.objs.size+1)::(vs++dvs)) (Value.ref (s.heap.objs.size+1)::(us++ds)):=.cons Z (r.append n);have p:(Value.ref (s.heap.objs.size+1)::us++ds).length=ps.length:=by
  have e:=d.length;rw[F.len _ _ _ _ c] at e;exact e.symm
 refine wpAny_call (AjD I.kIn M.makes M.init (beq_iff_eq.mp M.fn) (codeAny_mono (F.run _ X.stack _ _ ⟨Value.ref (s.heap.objs.size+1)::us,[]⟩ (Value.ref (s.heap.objs.size+1)::(us++ds)) _ _ E (j.make C us [])
  (b.env0.make C us []) (i _ (Value.ref (s.heap.objs.size+1)::us) b.kIn p) d c) λr s' a=>?_));cases r with
 | error e=>exact q pins σ _ _ e s' b a
 | ok fl =>
  cases fl with
  | ret u =>
   obtain⟨v,H',l,m,o,t⟩:=b.after a;subst o;exact⟨m,⟨V.ref (s.heap.objs.size+1),H',l,Z,t⟩⟩
  | next=>exact False.elim a
  | brk=>exact False.elim a
  | cont=>exact False.elim a
theorem HX(M:Mk X.K C f)(F:Bl X.prog X.w X.K X.mg X.base CX k f fd ps sp)(l:Ez (k+1) X.A)(m:Gl X x)(n:X.mg x=some (.ref C))(d:Binds X.K fd ps ds)(u:Vals dvs ds)(i:Passes CX X E)
  (j:PA X (e::es) t) (a:(x == ("__debug__" : Str))=false:=by decide) (o:starEach (e::es) X.env=(false,eval e X.env)::starEach es X.env:=by rfl) (b:(backTo pos (starEach es X.env)).any (·.1)=false:=by rfl) :
  PE X (.Call (.Name x p) (e::es) [] pos) (AqV C sp dvs E t):=by
 intro pins s σ H Q I h;refine wpAny_Call_Name_kw (AcT I m n ?_ a);refine W.callWith_K I.ok.mod.kin M.kp (thn (j pos pins s σ H _ I h) λus s1 ⟨vs,H1,c,r,q⟩=>⟨c.kIn,?_⟩) o b;exact AjF M F l d u i c r q
end
structure Am (N P:NX)(sc:Scope):Prop where
 kind:sc.kind=.function
 co:sc.isCoroutine=false
 gen:sc.isGenerator=false
 nd:N.Nodup
 pre:N.take P.length=P
 par:∀ x∈P,sc.names.lookup x=some .local\/sc.names.lookup x=some .cell
 Apm:∀ y∈sc.names,y.2≠.free
theorem AbS{kindOf:Str->Option NameKind}{x:Str}:∀{binds:List (Str × Value)} {m:Str->NY},(∀ v,(x,v)∉binds)->bindL kindOf binds m x=m x
 | [],_,_=>rfl
 | (n,v)::r,m,h=>by
  unfold bindL;rw[AbS λw a=>h w (AtL _ a)];split
  ·have:x≠n:=by rintro rfl;exact h v AtJ
   simp[this]
  ·rfl
theorem AbT{kindOf:Str->Option NameKind}{x:Str}:∀{binds:List (Str × Value)} {m:Str->NY},(∀ v,(x,v)∉binds)->bindC kindOf binds m x=m x
 | [],_,_=>rfl
 | (n,v)::r,m,h=>by
  unfold bindC;rw[AbT λw a=>h w (AtL _ a)];split
  ·rfl
  ·have:x≠n:=by rintro rfl;exact h v AtJ
   simp[this]
theorem AbU{kindOf:Str->Option NameKind}{x:Str}{v:Value}:∀{P:NX} {vs:NW} {i:Nat} {m:Str->NY},P.Nodup->P[i]?=some x->vs[i]?=some v->kindOf x=some .local ->
  bindL kindOf (P.zip vs) m x=some v
 | [],_,_,_,_,h,_,_=>by simp at h
 | _::_,[],_,_,_,_,h,_=>by simp at h
 | p::P,w::vs,0,m,nd,h1,h2,hk=>by
  simp at h1 h2;subst h1;subst h2;show bindL kindOf ((p,w)::P.zip vs) m p=_;unfold bindL;rw[AbS λv a=>(List.nodup_cons.mp nd).1 (List.of_mem_zip a).1,if_pos hk];simp
 | p::P,w::vs,i+1,m,nd,h1,h2,hk=>by
  show bindL kindOf ((p,w)::P.zip vs) m x=_;exact AbU (List.nodup_cons.mp nd).2 (by simpa using h1) (by simpa using h2) hk
theorem AbV{kindOf:Str->Option NameKind}{x:Str}{v:Value}:∀{P:NX} {vs:NW} {i:Nat} {m:Str->NY},P.Nodup->P[i]?=some x->vs[i]?=some v->kindOf x≠some .local ->
  bindC kindOf (P.zip vs) m x=some v
 | [],_,_,_,_,h,_,_=>by simp at h
 | _::_,[],_,_,_,_,h,_=>by simp at h
 | p::P,w::vs,0,m,nd,h1,h2,hk=>by
  simp at h1 h2;subst h1;subst h2;show bindC kindOf ((p,w)::P.zip vs) m p=_;unfold bindC;rw[AbT λv a=>(List.nodup_cons.mp nd).1 (List.of_mem_zip a).1,if_neg hk];simp
 | p::P,w::vs,i+1,m,nd,h1,h2,hk=>by
  show bindC kindOf ((p,w)::P.zip vs) m x=_;exact AbV (List.nodup_cons.mp nd).2 (by simpa using h1) (by simpa using h2) hk
def start(N:NX)(vs:Na):St:=vs.map some++List.replicate (N.length-vs.length) none
def Ago (CX:CXT)(P:Program)(w:World)(K:NF)(mg:Str->NY)(base:Heap)(N:NX)(qual:Str)(scope:Scope)(f:Addr)(cd:Value)(A:Around)(outer:List Env)(s:Shared)(H:Hp)(E:XK):Cx where
 prog:=P
 w:=w
 K:=K
 mg:=mg
 base:=base
 A:=A.deeper (envOfC qual scope s.heap.objs.size f cd)
 N:=N
 s₀:=s
 H₀:=H
 env:=envOfC qual scope s.heap.objs.size f cd
 outer:=outer
 stack:=envOfC qual scope s.heap.objs.size f cd::outer
 ex:=[]
 calm:=true
 fn:=λ_=>true
 pn:=[]
 xe:=λe s'=>wpAny (model P w) (A.deeper (envOfC qual scope s.heap.objs.size f cd)) (leaving (envOfC qual scope s.heap.objs.size f cd) e) (λ_ s''=>CX outer H s E e s'') (λe' s''=>CX outer H s E e' s'') s'
theorem Ae7(h:sc.names.lookup x=some .cell):∃ c,(cellsFrom n sc.names []).lookup x=some c:=by have q:=W.cellsFrom_some sc.names n [] (.inl h);exact Option.isSome_iff_exists.mp q
theorem Aim{K:NF}{base:Heap}{f:Addr}{E:XK}
  (S:Am N ps scope) (C:A.handled=none) (d:Ae6 P w K mg base A outer s H) (F:vs.length=ps.length) (r:Vals vs us)
  (x:InCallC s s.heap.objs.size (bindL (envOfC qual scope s.heap.objs.size f cd).kindOf (ps.zip us) λ_=>none) (cellsFrom (s.heap.objs.size+1) scope.names []) (bindC (envOfC qual scope s.heap.objs.size f cd).kindOf (ps.zip us) λ_=>none) s1) :
  Inv (Ago CX P w K mg base N qual scope f cd A outer s H E) [] (start N vs) H s1:=by
 have t:ps.length<=N.length:=by have:= congrArg List.length S.pre;rw[AtX] at this;lia
 obtain⟨h1,tk,rfl,hk⟩:=x.done;have j:∀ b:Addr,b∉(Ago CX P w K mg base N qual scope f cd A outer s H E).ex:=λb z=>absurd (show b∈([]:NU) from z) (by simp);refine⟨⟨d.mod,S.kind,Z,Z,AtH _,λy z c h1 h2=>?_,λy m=>?_,λy c _ h=>?_,λ_=>C,Around.frames_deeper d.frames,.inr ⟨Z,Z⟩,λb z=>absurd z (j b),d.bs,d.bsz,λb _ _=>j b,λb z=>absurd z (j b),d.V9,d.frf⟩,
  rfl,d.bare,Un.kept hk,⟨_,x.toInCall.ns,λi y v h1 h2 h3=>?_⟩,λy c h=>⟨_,x.cell y c h⟩,d.hok.fresh (AtH _),λy c h=>?_,λp l=>absurd (show p∈([]:NO) from l) (by simp),d.hok.kept hk,?_⟩
 ·exact name_of_addr x.apart (zW h1) (zW h2)
 ·rcases m with m | m
  ·exact Ae7 m
  ·exact absurd Z (S.Apm _ (zW m))
 ·exact Auu (x.above y c (zW h))
 ·have hi:i<vs.length:=by
   unfold start at h2;by_cases hi:i<vs.length
   ·exact hi
   ·rw[AtZ (by simpa using hi)] at h2;rw[Av2] at h2;split at h2 <;> cases h2
  have D:vs[i]?=some v:=by
   unfold start at h2;rw[Auc (by simpa using hi)] at h2;cases e:vs[i]? with
   | none=>simp_all
   | some a=>simp_all
  obtain⟨u,o,B⟩:=r.get D;have l:ps[i]?=some y:=by
   rw[<- S.pre,List.getElem?_take_of_lt (by omega)];exact h1
  have n:ps.Nodup:=by rw[<- S.pre];exact S.nd.sublist (AuJ _ _)
  refine⟨u,B,?_⟩;rcases S.par y (AtN l) with k | k
  ·exact .inl ⟨k,AbU n l o k⟩
  ·obtain⟨c,e⟩:=Ae7 k;refine .inr ⟨.inl k,c,e,?_⟩;have q:=x.cell y c e;rw[AbV n l o (by show scope.names.lookup y≠_;rw[k];decide)] at q;exact q
 ·exact d.hok.fresh (Auu (x.above y c (zW h)))
 ·unfold start;show _=N.length;grind
theorem Aom{K:NF}{base:Heap}{k:Nat}{f:Addr}{params:Arguments}{L kV l M a D oc:Value}{O X:Option Addr}
  {p:Array (NY)} (lk:K.lookup f=some ⟨oc,X,.func (W.fnOf name qual params body scope L kV l M O a D),p⟩) (C:W.codeIn K a qual=true) (S:Am N ps scope)
  (len:∀ vs H Q E,sp vs H Q E->vs.length=ps.length)
  (c:∀(A:Around)(outer:List Env)(s:Shared)(H:Hp)(vs:Na)(Q:VK)(E:XK),Ez k (A.deeper (envOfC qual scope s.heap.objs.size f a))->sp vs H Q E ->
   ∃ t,PSs (Ago CX P w K mg base N qual scope f a A outer s H E) body t/\t { nx:=λ_ H'=>Q .non H',rt:=Q } (start N vs) H) :
  Bl P w K mg base CX (k+1) f (W.fnOf name qual params body scope L kV l M O a D) ps sp:=by
 refine⟨len,λA outer s H args us vs Q E m j R r i=>?_⟩;have U:=len _ _ _ _ i;have F:=j.mod.kin.keeps λb o e=>(j.bs b o e).1;have B:=j.mod.nolimit.keeps λb o e=>(j.bs b o e).1;have d:∀ y∈ps.zip us,scope.names.lookup y.1=some .local\/(scope.names.lookup y.1=some .cell/\((cellsFrom (s.heap.objs.size+1) scope.names []).lookup y.1).isSome=true):=λ⟨n,v⟩ Y=>by
  rcases S.par n (List.of_mem_zip Y).1 with q | q
  ·exact .inl q
  ·exact .inr ⟨q,W.cellsFrom_some _ _ _ (.inl q)⟩
 refine codeAny_call_function m.depth (F _ _ lk) Z S.co S.gen Z (W.codeRec_of F C) (R _ _ _ _ ?_);refine wpAny_newFunctionEnv_cells S.kind d λenv he s1 x=>?_;subst he;refine⟨B.keeps x.toInCall.keep,codeAny_func ?_⟩;obtain⟨t,ht,T⟩:=c A outer s H vs Q E (m.deeper _) i;have I:Inv (Ago CX P w K mg base N qual scope f a A outer s H E) [] (start N vs) H s1:=Aim S m.hd j U r x;refine zT (ht [] s1 (start N vs) H _ I T) (λfl s' h=>?_) λe s' h=>h;have fin:∀{σ':St} {H':Hp} {v:V} {u:Value},Inv (Ago CX P w K mg base N qual scope f a A outer s H E) [] σ' H' s'->RelV v u->Q v H'->CE outer P w H s Q u s' :=
  λ{σ' H' v u} J z q=>⟨v,H',J.os,J.bare,J.base,J.hok,z,q⟩;cases fl with
 | ret u =>
  obtain⟨v,σ',H',J,z,q⟩:=h;exact fin J z q
 | next =>
  obtain⟨σ',H',J,q⟩:=h;exact fin (v:=V.non) J Z q
 | brk =>
  obtain⟨_,_,_,q⟩:=h;exact False.elim q
 | cont =>
  obtain⟨_,_,_,q⟩:=h;exact False.elim q
section
variable {t:TA}{id T:String}{r:Na->Hp->VK->Prop}
abbrev AqW (r:Na->Hp->VK->Prop)(Q:VK)(vs:Na)(H1:Hp):Prop:=r vs H1 Q
def tCB (r:Na->Hp->VK->Prop)(t:TA)(σ:St)(H:Hp)(Q:VK):Prop:=t σ H (AqW r Q)
theorem Ai(hc:Fz X (.builtin id) r)(i:Gl X x)(j:X.mg x=none)(l:bootBuiltins x=some (.builtin id))(f:PA X (e::es) t)(hn:x ≠ "__name__" := by decide) (a:(x == ("__debug__" : Str))=false:=by decide)
  (m:starEach (e::es) X.env=(false,eval e X.env)::starEach es X.env:=by rfl) (b:(backTo pos (starEach es X.env)).any (·.1)=false:=by rfl):PE X (.Call (.Name x p) (e::es) [] pos) (tCB r t):=by
 intro pins s σ H Q I h;refine wpAny_Call_Name_kw (Hr I i j l ?_ hn a);exact PyProof.Rows.callWith_builtin1 (thn (f pos pins s σ H _ I h) λus s1 ⟨vs,H1,c,d,n⟩=>hc pins s1 σ H1 vs us Q c d n) m b
theorem Cw(hc:Fz X (.type T) r)(i:Gl X x)(j:X.mg x=none)(l:bootBuiltins x=some (.type T))(f:PA X (e::es) t)(hn:x ≠ "__name__" := by decide) (a:(x == ("__debug__" : Str))=false:=by decide)
  (m:starEach (e::es) X.env=(false,eval e X.env)::starEach es X.env:=by rfl) (b:(backTo pos (starEach es X.env)).any (·.1)=false:=by rfl):PE X (.Call (.Name x p) (e::es) [] pos) (tCB r t):=by
 intro pins s σ H Q I h;refine wpAny_Call_Name_kw (Hr I i j l ?_ hn a);exact PyProof.Rows.callWith_type1 (thn (f pos pins s σ H _ I h) λus s1 ⟨vs,H1,c,d,n⟩=>hc pins s1 σ H1 vs us Q c d n) m b
end
end L2
namespace HT
open PySem PyProof.Rows
section
variable {prog:Program}{w:World}{A:Around}{E:NR}{s:Shared}
def sIx (n d:Nat):Option Int->Nat
 | none=>d
 | some v=>if v<0 then (v+(n:Int)).toNat else min v.toNat n
theorem S7(n d:Nat):sIx n d none=d:=rfl
theorem Gh(n d k:Nat):sIx n d (some (k:Int))=min k n:=by show(if (k:Int)<0 then ((k:Int)+(n:Int)).toNat else min (k:Int).toNat n)=min k n;rw[if_neg (by omega),Auh]
theorem Apn(n d:Nat)(a:d<=n)(o:Option Int):sIx n d o<=n:=by
 cases o with
 | none=>exact a
 | some v =>
  show(if v<0 then (v+(n:Int)).toNat else min v.toNat n)<=n;grind
end
end HT
namespace L2
open PySem PySem.Spec PyProof.Rows
variable {X:Cx}{e a b o:Expr}{te to:TE}{pos:Pos}{n j t':Nat}{i:Int}{α:Type}{pins:NO}{σ:St}{H:Hp}{s:Shared}{p l:Addr}{xs ys:Na}{its its' us:NW}{y x:V}{u v:Value}{T:String}
abbrev TO:=St->Hp->(Option Int->Hp->Prop)->Prop
def PO (X:Cx)(e:Option Expr)(t:TO):Prop :=
 ∀(pins:NO)(s:Shared)(σ:St)(H:Hp)(Q:Option Int->Hp->Prop),Inv X pins σ H s->t σ H Q ->
  wpAny (model X.prog X.w) X.A (evalPart e X.env) (λu s'=>∃ o H',Inv X pins σ H' s'/\IsPart u o/\Q o H') X.xe s
def Am6:TO:=λ_ H Q=>Q none H
def AqX (t:TE):TO:=λσ H Q=>t σ H λx H1=>∃ i,x=.int i/\Q (some i) H1
theorem intsAre_of{ns:NA}:∀{us:NW},Vals (ns.map V.int) us->IntsAre us ns:=by
 induction ns with
 | nil=>intro us r;cases r;exact .nil
 | cons n ns b =>
  intro us r;cases r with
  | cons a c =>
   obtain⟨t,e⟩:=a;subst e;exact .cons n t (b c)
section
variable {lo hi:Option Expr}{tl th:TO}{p2:Pos}
theorem Ej:PO X none Am6:=by intro pins s σ H Q I h;rw[evalPart_none];exact zE ⟨none,H,I,.none,h⟩
theorem Cu(h:PE X e te):PO X (some e) (AqX te):=by intro pins s σ H Q I c;refine thn (h pins s σ H _ I c) λu s1 ⟨x,H1,a,b,d⟩=>?_;obtain⟨i,rfl,q⟩:=d;obtain⟨t,rfl⟩:=b;exact⟨some i,H1,a,.int i t,q⟩
def SlR (X:Cx)(r:V->Option Int->Option Int->Hp->VK->Prop):Prop :=
 ∀(pins:NO)(s:Shared)(σ:St)(H:Hp)(x:V)(v vl vu:Value)(lo hi:Option Int)(sl:Addr)(Q:VK),Inv X pins σ H s->RelV x v->s.heap.IsSliceOf sl vl vu .none->IsPart vl lo->IsPart vu hi->r x lo hi H Q ->
  ∃ T id,typeLookup (.type T) "__getitem__" = pure (some (.builtin id))/\s.TypeIs v T/\wpAny (model X.prog X.w) X.A (getItem v (.ref sl)) (EP X pins σ Q) X.xe s
abbrev AqY (r:V->Option Int->Option Int->Hp->VK->Prop)(Q:VK)(x:V)(l:Option Int)(u:Option Int)(H3:Hp):Prop:=r x l u H3 Q
abbrev AqZ (r:V->Option Int->Option Int->Hp->VK->Prop)(th:TO)(σ:St)(Q:VK)(x:V)(l:Option Int)(H2:Hp):Prop:=th σ H2 (AqY r Q x l)
abbrev Ara (r:V->Option Int->Option Int->Hp->VK->Prop)(tl:TO)(th:TO)(σ:St)(Q:VK)(x:V)(H1:Hp):Prop:=tl σ H1 (AqZ r th σ Q x)
def tSl (r:V->Option Int->Option Int->Hp->VK->Prop)(te:TE)(tl:TO)(th:TO)(σ:St)(H:Hp)(Q:VK):Prop:=te σ H (Ara r tl th σ Q)
theorem Cy{r:V->Option Int->Option Int->Hp->VK->Prop}(i:SlR X r)(A:PE X e te)(t:PO X lo tl)(z:PO X hi th):PE X (.Subscript e (.Slice lo hi none p2) pos) (tSl r te tl th):=by intro pins s σ H Q I h;refine Subscript_ (thn (A pins s σ H _ I h) λv s1 ⟨x,H1,d,w,C⟩=>?_);refine wpAny_Slice (thn (t pins s1 σ H1 _ d C) λa f ⟨l,H2,n,pl,p⟩=>thn (z pins f σ H2 _ n p) λvu s3 ⟨u,c,m,o,E⟩=>?_);refine zE ?_;have y:Inv X pins σ c { s3 with heap:=s3.heap.push { cls:=.type "slice", data:=.fields #[a,vu,.none] } }:=m.kept λb F q=>zB _ q;obtain⟨T,id,D,B,j⟩:=i pins { s3 with heap:=s3.heap.push { cls:=.type "slice", data:=.fields #[a,vu,.none] } } σ c x v a vu l u s3.heap.objs.size Q y w (Heap.IsSliceOf.new ..) pl o E;exact tail_any B D j (by with_unfolding_all rfl)
def Iv (xs:Na)(lo hi:Option Int):Na:=(xs.drop (HT.sIx xs.length 0 lo)).take (HT.sIx xs.length xs.length hi-HT.sIx xs.length 0 lo)
theorem Ae8(xs:Na)(lo hi:Option Int):(Iv xs lo hi).length<=xs.length:=by unfold Iv;rw[AtX,Auw];lia
end
def ixN (n:Nat)(i:Int):Option Nat:=if 0<=i then (if i<n then some i.toNat else none) else if -(n:Int)<=i then some (i+n).toNat else none
def atI {α:Type}(xs:List α)(i:Int):Option α:=(ixN xs.length i).bind λj=>xs[j]?
theorem Ahk(h:ixN n i=some j):seqIndex? i n=some j/\j<n /\ -(n:Int)<=i/\i<n:=by
 unfold ixN at h;by_cases a:0<=i
 ·rw[if_pos a] at h;by_cases h1:i<n
  ·rw[if_pos h1] at h;have e:=Option.some.inj h;exact⟨by rw[seqIndex_of a h1,e],by lia,by lia,h1⟩
  ·simp_all
 ·rw[if_neg a] at h;by_cases h1 : -(n:Int)<=i
  ·rw[if_pos h1] at h;have e:=Option.some.inj h;exact⟨by rw[seqIndex_neg (by omega) h1,e],by lia,h1,by lia⟩
  ·simp_all
theorem AcW{xs:List α}{v:α}(h:atI xs i=some v):∃ j,seqIndex? i xs.length=some j/\xs[j]?=some v/\j<xs.length /\ -(xs.length:Int)<=i/\i<xs.length:=by
 unfold atI at h;cases e:ixN xs.length i with
 | none=>simp_all
 | some j =>
  rw[e] at h;obtain⟨h1,h2,h3,h4⟩:=Ahk e;exact⟨j,h1,h,h2,h3,h4⟩
theorem Ahl{xs:List α}{v:α}(h:xs[j]?=some v):atI xs (j:Int)=some v:=by
 have a:=(zC.mp h).1;have e:ixN xs.length (j:Int)=some j:=by
  unfold ixN;rw[if_pos (by omega),if_pos (by omega)];simp
 unfold atI;rw[e];exact h
theorem Ae9(xs:List α)(v:α):atI (xs++[v]) (-1)=some v:=by
 have a:(xs++[v]).length=xs.length+1:=by simp
 have e:ixN (xs++[v]).length (-1)=some xs.length:=by
  unfold ixN;grind
 unfold atI;rw[e];simp
def Am7 (b:Expr):Prop:=∀ o i,subscripted b false o i=operate [o,i] (getItem o i)
def IxR (X:Cx)(r:R2):Prop :=
 ∀(value slice:Expr)(pins:NO)(s:Shared)(σ:St)(H:Hp)(x y:V)(v u:Value)(Q:VK),Inv X pins σ H s->RelV x v->RelV y u->r x y H Q ->
  subscripted slice false v u=operate [v,u] (getItem v u)->wpAny (model X.prog X.w) X.A (subscriptTail value slice v u) (EP X pins σ Q) X.xe s
def MtR (X:Cx)(id:String)(r:V->Na->Hp->VK->Prop):Prop :=
 ∀(pins:NO)(s:Shared)(σ:St)(H:Hp)(x:V)(xs:Na)(v:Value)(us:NW)(Q:VK),Inv X pins σ H s->RelV x v->Vals xs us->r x xs H Q ->
  wpAny (model X.prog X.w) X.A (call (.builtin id) (v::us)) (EP X pins σ Q) X.xe s
section
variable {ta tb:TE}
theorem Az{r:R2}(i:IxR X r)(f:PE X a ta)(e:PE X b tb)(m:Am7 b):PE X (.Subscript a b pos) (tOp r ta tb):=by intro pins s σ H Q I h;exact Subscript_ (AoZ f e I h λv u d x y H2 l j c q=>i a b pins d σ H2 x y v u Q l j c q (m _ _))
inductive Arb (K:NF)(x:V)(y:V)(H:Hp)(Q:VK):Prop
|mk(p:_)(xs:_)(i:_)(v:_)(_:x=.ref p)(_:y=.int i)(_:SqL K H p xs)(_:atI xs i=some v)(_:Q v H)
inductive Arc (K:NF)(x:V)(y:V)(H:Hp)(Q:VK):Prop
|mk(p:_)(xs:_)(i:_)(v:_)(_:x=.ref p)(_:y=.int i)(_:SqT K H p xs)(_:atI xs i=some v)(_:Q v H)
inductive AsO (x:V)(y:V)(H:Hp)(Q:VK):Prop
|mk(z:_)(i:_)(c:_)(_:x=.str z)(_:y=.int i)(_:z.length<=sizeLine)(_:atI z.cps.toList i=some c)(_:Q (.str ⟨#[c]⟩) H)
theorem Am8:IxR X (Arb X.K):=by
 intro value c pins s σ H x y v u Q I o m h e;obtain⟨p,xs,i,z,rfl,rfl,l,A,q⟩:=h;cases o;obtain⟨t,rfl⟩:=m;obtain⟨its,r,pl,B⟩:=I.list l;obtain⟨j,h1,h2,h3,h4,h5⟩:=AcW A;obtain⟨w,f,b⟩:=r.get h2;have n:=r.length;have hn:=VD;have fin:EP X pins σ Q w s:=⟨z,H,I,b,q⟩;by_cases d:0<=i
 ·have a:i.toNat=j:=by
   rw[seqIndex_of d h5] at h1;exact Option.some.inj h1
  exact item_listR pl.isList d (by lia) (by rw[a];simpa using f) fin e
 ·have a:(i+(its.toArray.size:Int)).toNat=j:=by
   rw[seqIndex_neg (by omega) h4] at h1;rw[Aub,<- n];exact Option.some.inj h1
  exact subscriptTail_builtinR pl.isList.typeIs slot_list_getitem.lookup
   (wpAny_getItem_list_neg pl.isList (by omega) (by simp_all) (by lia) (by rw[a];simpa using f) ⟨Z,fin⟩) e
theorem Apo:IxR X (Arc X.K):=by
 intro value b pins s σ H x y v u Q I m e h d;obtain⟨p,xs,i,z,rfl,rfl,c,n,q⟩:=h;cases m;obtain⟨t,rfl⟩:=e;obtain⟨its,r,pl,o⟩:=I.tuple c;obtain⟨j,h1,h2,h3,h4,h5⟩:=AcW n;obtain⟨w,l,a⟩:=r.get h2;have f:=r.length;have hn:=VD;have fin:EP X pins σ Q w s:=⟨z,H,I,a,q⟩;exact subscriptTail_builtinR pl.typeIs slot_tuple_getitem.lookup
  (getItem_tuple pl (by lia) (by lia) (by rw[Aub,<- f];exact h1) (by simpa using l) ⟨Z,fin⟩) d
theorem Hs:IxR X AsO:=by
 intro value a pins s σ H x y v u Q I e b h l;obtain⟨z,i,c,rfl,rfl,m,f,q⟩:=h;obtain⟨t,rfl⟩:=e;obtain⟨t',rfl⟩:=b;obtain⟨j,h1,h2,h3,h4,h5⟩:=AcW f;have d:z.cps.toList.length=z.length:=by simp[Str.length]
 rw[d] at h1 h4 h5;have hn:=VD;exact tail_any (typeIs_str s z t) slot_str_getitem.lookup (getItem_str (by
  grind) (by rw[h1];simpa using h2) ⟨.str ⟨#[c]⟩,H,I.tok _,⟨_,Z⟩,q⟩) l
theorem Agp(its:NW)(n j:Nat)(u:Value):Obj.mapSeq (·.setIfInBounds j u) { cls:=.type "list", data:=.seq its.toArray n }={ cls:=.type "list", data:=.seq (its.set j u).toArray n }:=by simp[Obj.mapSeq]
theorem Inv.lst(I:Inv X pins σ H s)(h:H p=some (.lst xs)) :
  ∃(its:NW)(n:Nat),Vals xs its/\s.heap.get? p=some { cls:=.type "list", data:=.seq its.toArray n }/\xs.length<=sizeLine:=by
 obtain⟨z,its,n,r,e⟩:=I.hok p _ h;exact⟨its,n,r,e,z⟩
theorem Inv.Apq{a:Nat}{f:Obj->Obj}(I:Inv X pins σ H s)(h:H p=some (.lst xs))
  (j:s.heap.get? p=some { cls:=.type "list", data:=.seq its.toArray n }) (c:f { cls:=.type "list", data:=.seq its.toArray n }={ cls:=.type "list", data:=.seq its'.toArray a }) (r:Vals ys its') (i:ys.length<=sizeLine) (t:Nat) :
  Inv X pins σ (upd H p (.lst ys)) { s with heap:=s.heap.update p f,toks:=t }:=by
 have e:(s.heap.update p f).get? p=some { cls:=.type "list", data:=.seq its'.toArray a }:=by
  rw[zR f j (by rw[c] <;> rfl),c]
 refine I.write (by rw[h];trivial) (.inl Z) (λb u d q=>(zH _ _ (Ne.symm d)).trans q) ⟨_,e⟩ ?_;exact⟨i,its',a,r,e⟩
def Ard:V->V->V->Hp->(Hp->Prop)->Prop:=λo i v H Q=>∃ p xs k j,o=.ref p/\i=.int k/\H p=some (.lst xs)/\ixN xs.length k=some j/\Q (upd H p (.lst (xs.set j v)))
theorem set_list:Aj1 X Ard:=by
 intro pins s σ H o i v y z u Q I l f w h;obtain⟨p,xs,k,j,rfl,rfl,e,m,q⟩:=h;cases l;obtain⟨t,rfl⟩:=f;obtain⟨its,n,r,b,x⟩:=I.lst e;obtain⟨h1,h2,h3,h4⟩:=Ahk m;have a:=r.length;have hn:=VD;have c :=
  I.Apq e b (Agp its n j u) (r.set w j) (by rw[Avm];exact x) s.toks;by_cases d:0<=k
 ·have hk:k.toNat=j:=by
   rw[seqIndex_of d h4] at h1;exact Option.some.inj h1
  exact W.ki_setAt b d (by lia) (by rw[Aub,<- a];exact h4) (by rw[hk];exact⟨_,c,q⟩)
 ·have hk:(k+(its.toArray.size:Int)).toNat=j:=by
   rw[seqIndex_neg (by omega) h3] at h1;rw[Aub,<- a];exact Option.some.inj h1
  exact W.ki_setBack b (by omega) (by rw[Aub,<- a];exact h3) (by lia) (by rw[hk];exact⟨_,c,q⟩)
theorem AcX(lo hi:Option Int)(n:Nat):(sliceBounds lo hi none n).1=((HT.sIx n 0 lo:Nat):Int)/\(sliceBounds lo hi none n).2.1=((HT.sIx n n hi:Nat):Int)/\(sliceBounds lo hi none n).2.2=1:=by
 refine⟨?_,?_,Z⟩
 ·cases lo with
  | none=>simp[sliceBounds,HT.sIx]
  | some i =>
   simp only [sliceBounds,HT.sIx];grind
 ·cases hi with
  | none=>simp[sliceBounds,HT.sIx]
  | some i =>
   simp only [sliceBounds,HT.sIx];grind
theorem Abx(its:NW)(lo hi:Option Int):slicePick its.toArray lo hi none=((its.drop (HT.sIx its.length 0 lo)).take (HT.sIx its.length its.length hi-HT.sIx its.length 0 lo)).toArray:=by obtain⟨h1,h2,h3⟩:=AcX lo hi its.toArray.size;unfold slicePick;rw[h1,h2,h3];simp only [sliceRange_one,pick_run] <;> rfl
inductive Are (K:NF)(x:V)(lo:Option Int)(hi:Option Int)(H:Hp)(Q:VK):Prop
|mk(a:_)(xs:_)(_:x=.ref a)(_:SqL K H a xs)(_:∀ p,H p=none->Q (.ref p) (upd H p (.lst (Iv xs lo hi))))
theorem Am9:SlR X (Are X.K):=by intro pins s σ H x v n o lo hi m Q I f i pl l h;obtain⟨a,xs,rfl,e,q⟩:=h;cases f;obtain⟨its,r,d,j⟩:=I.list e;have c:=r.length;refine⟨"list", _,slot_list_getitem.lookup,d.isList.typeIs,?_⟩;refine wpAny_getItem_list_slice d.isList i pl l .none (by simp) ?_ (by grind);rw[Abx,<- c];refine⟨.ref s.heap.objs.size,_,I.laid (λb p q=>zB _ q) (AtH _) ?_,Z,q _ (I.hok.fresh (AtH _))⟩;exact⟨AtW (Ae8 xs lo hi) j,_,0,(r.drop (HT.sIx xs.length 0 lo)).take (HT.sIx xs.length xs.length hi-HT.sIx xs.length 0 lo),zD _ Z⟩
def Iw:V->Bool
 | .non=>true
 | .bl _=>true
 | .int _=>true
 | .str _=>true
 | _=>false
def eqV:V->V->Bool
 | .non,.non=>true
 | .bl a,.bl b=>a == b
 | .bl a,.int b=>(if a then 1 else 0) == b
 | .int a,.bl b=>a == (if b then 1 else 0)
 | .int a,.int b=>a == b
 | .str a,.str b=>a == b
 | _,_=>false
theorem Agq{A:Around}(d:RelV y u)(c:RelV x v)(f:Iw y=true)(e:Iw x=true):SeqAt.EqAt A s u v (eqV y x):=by
 cases y with
 | non =>
  cases d;cases x with
  | non=>cases c;exact SeqAt.EqAt.same _
  | bl b=>cases c;exact SeqAt.EqAt.none_bool b
  | int b=>obtain⟨t,rfl⟩:=c;exact SeqAt.EqAt.none_int b t
  | str b=>obtain⟨t,rfl⟩:=c;exact SeqAt.EqAt.none_str b t
  | _=>exact absurd (show false=true from e) Aud
 | bl a =>
  cases d;cases x with
  | non=>cases c;exact SeqAt.EqAt.bool_none a
  | bl b=>cases c;exact SeqAt.EqAt.bool_bool a b
  | int b=>obtain⟨t,rfl⟩:=c;exact SeqAt.EqAt.bool_int a b t
  | str b=>obtain⟨t,rfl⟩:=c;exact SeqAt.EqAt.bool_str a b t
  | _=>exact absurd (show false=true from e) Aud
 | int a =>
  obtain⟨t',rfl⟩:=d;cases x with
  | non=>cases c;exact SeqAt.EqAt.int_none a t'
  | bl b=>cases c;exact SeqAt.EqAt.int_bool a t' b
  | int b=>obtain⟨t,rfl⟩:=c;exact SeqAt.EqAt.int_int a t' b t
  | str b=>obtain⟨t,rfl⟩:=c;exact SeqAt.EqAt.int_str a t' b t
  | _=>exact absurd (show false=true from e) Aud
 | str a =>
  obtain⟨t',rfl⟩:=d;cases x with
  | non=>cases c;exact SeqAt.EqAt.str_none a t'
  | bl b=>cases c;exact SeqAt.EqAt.str_bool a t' b
  | int b=>obtain⟨t,rfl⟩:=c;exact SeqAt.EqAt.str_int a t' b t
  | str b=>obtain⟨t,rfl⟩:=c;exact SeqAt.EqAt.str_str a t' b t
  | _=>exact absurd (show false=true from e) Aud
 | _=>exact absurd (show false=true from f) Aud
def eqU (x:V)(u:Value):Bool:=match u with
 | .none=>eqV .non x
 | .bool b=>eqV (.bl b) x
 | .int i _=>eqV (.int i) x
 | .str z _=>eqV (.str z) x
 | _=>false
theorem AjG(r:RelV y u)(f:Iw y=true):eqU x u=eqV y x:=by
 cases y with
 | non=>cases r;rfl
 | bl b=>cases r;rfl
 | int i=>obtain⟨t,rfl⟩:=r;rfl
 | str z=>obtain⟨t,rfl⟩:=r;rfl
 | _=>exact absurd (show false=true from f) Aud
theorem S8{x:V}:∀{xs:Na} {us:NW},Vals xs us->xs.all Iw=true->us.any (eqU x)=xs.any λy=>eqV y x
 | _,_,.nil,_=>rfl
 | y::xs,u::us,.cons r t,f=>by
  rw[Av3,AuX] at f;rw[AuT,AuT,AjG r f.1,S8 t f.2]
theorem NQ{A:Around}{s:Shared}{x:V}{v:Value}(b:RelV x v)(c:Iw x=true):∀{xs:Na} {us:NW},Vals xs us->xs.all Iw=true->∀ u∈us,SeqAt.EqAt A s u v (eqU x u)
 | _,_,.nil,_=>λu a=>by cases a
 | y::xs,u::us,.cons r t,f=>λd a=>by
  rw[Av3,AuX] at f;rcases yD.mp a with rfl | a
  ·rw[AjG r f.1];exact Agq r b f.1 c
  ·exact NQ b c t f.2 d a
def inV (x:V)(xs:Na):Bool:=xs.any λy=>eqV y x
inductive rIn (K:NF)(neg:Bool)(x:V)(y:V)(H:Hp)(Q:VK):Prop
|mk(p:_)(xs:_)(_:y=.ref p)(_:(SqL K H p xs\/SqT K H p xs))(_:Iw x=true)(_:xs.all Iw=true)(_:Q (.bl (if neg then !inV x xs else inV x xs)) H)
theorem Ain:OpR X (compareOp .In) (rIn X.K false):=by
 intro pins s σ H x y v u Q I c e h;obtain⟨p,xs,rfl,a,d,fs,q⟩:=h;cases e;rcases a with a | a
 ·obtain⟨its,r,pl,f⟩:=I.list a;refine SeqAt.in_listAt (eqU x) pl.isList (λw b=>NQ c d r fs w (by simpa using b)) ⟨.bl _,H,I,Z,?_⟩;rw[show its.toArray.any (eqU x)=its.any (eqU x) by simp,S8 r fs];exact q
 ·obtain⟨its,r,pl,f⟩:=I.tuple a;refine SeqAt.in_tupleAt (eqU x) pl (λw b=>NQ c d r fs w (by simpa using b)) ⟨.bl _,H,I,Z,?_⟩;rw[show its.toArray.any (eqU x)=its.any (eqU x) by simp,S8 r fs];exact q
theorem AcY:OpR X (compareOp .NotIn) (rIn X.K true):=by
 intro pins s σ H x y v u Q I c e h;obtain⟨p,xs,rfl,a,d,fs,q⟩:=h;cases e;rcases a with a | a
 ·obtain⟨its,r,pl,f⟩:=I.list a;refine SeqAt.notIn_listAt (eqU x) pl.isList (λw b=>NQ c d r fs w (by simpa using b)) ⟨.bl _,H,I,Z,?_⟩;rw[show its.toArray.any (eqU x)=its.any (eqU x) by simp,S8 r fs];exact q
 ·obtain⟨its,r,pl,f⟩:=I.tuple a;refine SeqAt.notIn_tupleAt (eqU x) pl (λw b=>NQ c d r fs w (by simpa using b)) ⟨.bl _,H,I,Z,?_⟩;rw[show its.toArray.any (eqU x)=its.any (eqU x) by simp,S8 r fs];exact q
inductive NT (K:NF)(xs:Na)(H:Hp)(Q:VK):Prop
|mk(p:_)(ys:_)(_:xs=[.ref p])(_:(SqL K H p ys\/SqT K H p ys))(_:Q (.int ys.length) H)
theorem AcZ:Fz X (.builtin "len") (NT X.K):=by
 intro pins s σ H xs us Q I r h;obtain⟨p,ys,rfl,b,q⟩:=h;obtain⟨u,rfl,d⟩:=vals1 r;cases d;have hn:=VD;rcases b with b | b
 ·obtain⟨its,c,pl,e⟩:=I.list b;have a:=c.length;exact Calls.call_len_list pl.isList (by simp only [Aub] <;> omega) ⟨.int ys.length,H,I.tok _,⟨s.toks+1,by rw[Aub,a]⟩,q⟩
 ·obtain⟨its,c,pl,e⟩:=I.tuple b;have a:=c.length;exact len_tuple pl (by simp only [Aub] <;> omega) ⟨.int ys.length,H,I.tok _,⟨s.toks+1,by rw[Aub,a]⟩,q⟩
inductive ZD (xs:Na)(H:Hp)(Q:VK):Prop
|mk(z:_)(_:xs=[.str z])(_:z.length<=sizeLine)(_:Q (.int z.length) H)
theorem Bs:Fz X (.builtin "len") ZD:=by intro pins s σ H xs us Q I r h;obtain⟨z,rfl,a,q⟩:=h;obtain⟨u,rfl,t,rfl⟩:=vals1 r;have hn:=VD;exact len_str (by lia) ⟨.int z.length,H,I.tok _,⟨_,Z⟩,q⟩
inductive NZ (K:NF)(xs:Na)(H:Hp)(Q:VK):Prop
|mk(p:_)(ys:_)(_:xs=[.ref p])(_:(SqL K H p ys\/SqT K H p ys))(_:∀ l,H l=none->Q (.ref l) (upd H l (.lst ys)))
theorem Ada:Fz X (.type "list") (NZ X.K):=by
 intro pins s σ H xs us Q I r h;obtain⟨p,ys,rfl,c,q⟩:=h;obtain⟨u,rfl,l⟩:=vals1 r;cases l;have fin:∀(its:NW),Vals ys its->ys.length<=sizeLine->∀(h':Heap)(c':Nat),(∀ b o',s.heap.get? b=some o'->h'.get? b=some o') ->
   h'.get? s.heap.objs.size=some { cls:=.type "list", dict:=none,data:=.seq its.toArray c',slots:=#[] }->EP X pins σ Q (.ref s.heap.objs.size) { s with heap:=h' }:=λits a f h' c' kp e =>
  ⟨.ref s.heap.objs.size,_,I.laid kp (AtH _) (show Ei X.prog X.w _ h' _ (.lst ys) from⟨f,its,c',a,e⟩),Z,q _ (I.hok.fresh (AtH _))⟩;rcases c with c | c
 ·obtain⟨its,a,pl,f⟩:=I.list c;have d:=a.length;obtain⟨o,i,hc,n,j⟩:=pl.isList;exact call_list_seq p (.inl Z) i hc j (λh' c' kp e=>fin its a f h' c' kp e) (by simp only [Aub] <;> omega)
 ·obtain⟨its,a,pl,f⟩:=I.tuple c;have d:=a.length;obtain⟨o,i,hc,n,j⟩:=pl;exact call_list_seq p (.inr Z) i hc j (λh' c' kp e=>fin its a f h' c' kp e) (by simp only [Aub] <;> omega)
def tyV (K:NF)(T:String)(x:V)(H:Hp):Prop:=match x with
 | .str _=>T = "str"
 | .int _=>T = "int"
 | .ref p=>(T = "list" /\ ∃ xs,SqL K H p xs)\/(T = "tuple" /\ ∃ o,K.lookup p=some o/\o.cls=.type "tuple" /\ o.dict=none) \/
   (T = "dict" /\ ((∃ kvs,H p=some (.dK kvs))\/∃ kvs,H p=some (.dT kvs)))\/(T = "set" /\ ∃ S n,H p=some (.set S n))
 | _=>False
theorem Aps(I:Inv X pins σ H s)(r:RelV x v)(ty:tyV X.K T x H) :
  s.TypeIs v T/\∀ a,v=.ref a->∃ d,s.heap.get? a=some d/\d.dict=none:=by
 cases x with
 | str z =>
  obtain⟨t,rfl⟩:=r;cases (show T = "str" from ty);exact⟨typeIs_str s z t,λ_ e=>nomatch e⟩
 | int i =>
  obtain⟨t,rfl⟩:=r;cases (show T = "int" from ty);exact⟨typeIs_int s i t,λ_ e=>nomatch e⟩
 | ref p =>
  cases r;rcases ty with ⟨rfl,xs,f⟩ | ⟨rfl,o,hk,hc,b⟩ | ⟨rfl,hk⟩ | ⟨rfl,S,n,hk⟩
  ·obtain⟨its,_,pl,_⟩:=I.list f;refine⟨pl.isList.typeIs,λa e=>?_⟩;cases e;obtain⟨o,n,e,c,b,_⟩:=pl;exact⟨o,e,b⟩
  ·refine⟨⟨o,I.kIn p o hk,hc⟩,λa e=>?_⟩;cases e;exact⟨o,I.kIn _ o hk,b⟩
  ·have z:∃ o,s.heap.get? p=some o/\o.ExactDict:=by
    rcases hk with ⟨kvs,hk⟩ | ⟨kvs,hk⟩
    ·obtain⟨_,_,_,_,o,_,_,e,ex,_⟩:=I.hok p _ hk;exact⟨o,e,ex⟩
    ·obtain⟨_,_,_,_,o,_,_,e,ex,_⟩:=I.hok p _ hk;exact⟨o,e,ex⟩
   obtain⟨o,e,ex⟩:=z;refine⟨⟨o,e,ex.1⟩,λa e2=>?_⟩;cases e2;exact⟨o,e,ex.2.1⟩
  ·obtain⟨o,_,_,_,e,ex,_⟩:=I.hok p _ hk;refine⟨⟨o,e,ex.1⟩,λa e2=>?_⟩;cases e2;exact⟨o,e,ex.2.1⟩
 | _=>exact False.elim ty
abbrev Arf (r:V->Na->Hp->VK->Prop)(Q:VK)(x:V)(xs:Na)(H2:Hp):Prop:=r x xs H2 Q
inductive Arh (K:NF)(T:String)(r:V->Na->Hp->VK->Prop)(t:TA)(σ:St)(Q:VK)(x:V)(H1:Hp):Prop
|mk(_:tyV K T x H1)(_:t σ H1 (Arf r Q x))
def tBM (K:NF)(T:String)(r:V->Na->Hp->VK->Prop)(to:TE)(t:TA)(σ:St)(H:Hp)(Q:VK):Prop:=to σ H (Arh K T r t σ Q)
variable {es:List Expr}{t:TA}{name:Str}{apos cpos:Pos}{id:String}{r:V->Na->Hp->VK->Prop}
theorem Ari(n:PlainAttrs T)(d:Slot T name id)(i:typeOf (.builtin id)=pure (.type "method_descriptor")) (w:MtR X id r) (A:PE X o to) (u:PA X (e::es) t)
  (c:attributeBase o name X.env (eval o X.env)=eval o X.env:=by rfl)
  (f:((backTo cpos (starEach (e::es) X.env)).all (λx=>!x.1) && (backToKw cpos (keywordEach [] X.env)).all (λx=>x.1.isSome)
   && decide ((e::es).length+([]:List Keyword).length+(if ([]:List Keyword).isEmpty then 0 else 1)<30))=true:=by rfl)
  (b:(apos.endLine == cpos.line)=true:=by rfl) (z:starEach (e::es) X.env=(false,eval e X.env)::starEach es X.env:=by rfl) (a:(backTo cpos (starEach es X.env)).any (·.1)=false:=by rfl) :
  PE X (.Call (.Attribute o name apos) (e::es) [] cpos) (tBM X.K T r to t):=by
 intro pins s σ H Q I h;refine wpAny_Call_method_late c f b Z (thn (A pins s σ H _ I h) λv s1 ⟨x,H1,j,l,ty,C⟩=>?_);obtain⟨h1,h2⟩:=Aps j l ty;refine⟨T,id,n,d,i,h1,h2,?_⟩;have m:=u cpos pins s1 σ H1 _ j C;rw[z] at m ⊢;refine Calls.callWith_builtin (by show(false || (backTo cpos (starEach es X.env)).any (·.1))=false;rw[a] <;> rfl) (Calls.evalArgs_plain ?_);exact thn m λus q ⟨vs,H2,y,B,p⟩=>w pins q σ H2 x vs v us Q y l B p
end
def MtM (X:Cx)(id:String)(r:V->Na->Hp->VK->Prop):Prop :=
 ∀(pins:NO)(s:Shared)(σ:St)(H:Hp)(x:V)(xs:Na)(v:Value)(us:NW)(Q:VK),Inv X pins σ H s->RelV x v->Vals xs us->r x xs H Q ->
  wpAny (model X.prog X.w) X.A (call (.builtin id) (v::us)) (EP X pins σ Q) X.xe s
theorem Vals.one(h:Vals [x] us):∃ u,us=[u]/\RelV x u:=by cases h with | cons r t=>cases t;exact⟨_,Z,r⟩
theorem Vals.two(h:Vals [x,y] us):∃ u v,us=[u,v]/\RelV x u/\RelV y v:=by cases h with | cons r t=>obtain⟨v,rfl,q⟩:=Vals.one t;exact⟨_,_,Z,r,q⟩
theorem Vals.rep{xs:Na}{us:NW}(h:Vals xs us):∀ k:Nat,Vals (List.replicate k xs).flatten (List.replicate k us).flatten
 | 0=>.nil
 | k+1=>by
  exact Vals.append h (Vals.rep h k)
theorem foldl_rep(its:NW):∀(k:Nat)(acc:NW),
  List.foldl (λa b=>a++b) acc.toArray (List.replicate k its.toArray)=(acc++(List.replicate k its).flatten).toArray
 | 0,acc=>by simp
 | k+1,acc=>by
  have e:acc.toArray++its.toArray=(acc++its).toArray:=by simp
  have e2:(acc++its)++(List.replicate k its).flatten=acc++(List.replicate (k+1) its).flatten:=by
   rw[AuK,Auq,Auk]
  rw[<- e2,<- foldl_rep its k (acc++its),<- e,AuK,List.foldl_cons]
section
variable {b:Addr}{zs:Na}
theorem Inv.AmA{f:Array Value->Array Value}(I:Inv X pins σ H s)(d:H l=some (.lst xs))
  (e:s.heap.get? l=some { cls:=.type "list", data:=.seq its.toArray n }) (i:f its.toArray=its'.toArray) (a:Vals ys its') (h:ys.length<=sizeLine) :
  Inv X pins σ (upd H l (.lst ys)) { s with heap:=s.heap.update l (Obj.mapSeq f),toks:=t' }:=by
 have q:=PySem.IsL.update e f;rw[i] at q;refine I.write (by rw[d];exact trivial) (.inl Z) (λj u c b=>(zH s.heap (Obj.mapSeq f) (Ne.symm c)).trans b) ⟨_,q⟩ ?_;exact⟨h,its',_,a,q⟩
theorem Inv.Apt(I:Inv X pins σ H s)(b:Vals ys its)(a:ys.length<=sizeLine) :
  Inv X pins σ (upd H s.heap.objs.size (.lst ys)) { s with heap:=s.heap.push { cls:=.type "list", data:=.seq its.toArray },toks:=t' } :=
 I.laid (λ_ _ q=>zB _ q) (AtH _) ⟨a,its,0,b,zD _ Z⟩
theorem Inv.fresh(I:Inv X pins σ H s):H s.heap.objs.size=none:=I.hok.fresh (AtH _)
theorem Inv.Adb(I:Inv X pins σ H s)(a:H l=some (.lst xs)):xs.length<=sizeLine/\∃(its:NW)(n:Nat),Vals xs its/\xs.length=its.length/\s.heap.get? l=some { cls:=.type "list", data:=.seq its.toArray n }:=by obtain⟨z,its,n,r,e⟩:=I.hok l _ a;exact⟨z,its,n,r,r.length,e⟩
theorem AeA(h:n<=sizeLine):Builtin.List.listTooLong n=false:=by exact zJ (by lia)
end
inductive AmB (x:V)(vs:Na)(H:Hp)(Q:VK):Prop
|mk(l:_)(xs:_)(y:_)(_:x=.ref l)(_:vs=[y])(_:H l=some (.lst xs))(_:xs.length<sizeLine)(_:Q .non (upd H l (.lst (xs++[y]))))
theorem Cd:MtM X "list.append" AmB:=by intro pins s σ H x vs v us Q I c d h;obtain⟨l,xs,y,rfl,rfl,a,i,q⟩:=h;cases c;obtain⟨u,rfl,b⟩:=d.one;obtain⟨z,its,n,r,f,e⟩:=I.Adb a;refine call_meets zL ⟨_,e,Z⟩ F.entry_list_append (F.args_list_append_2 _ _) (PySem.list_append l its.toArray n u (by grind)) ⟨e,?_⟩;refine⟨.non,_,I.AmA a e (by simp) (r.append (.cons b .nil)) ?_,Z,q⟩;grind
inductive AmC (x:V)(vs:Na)(H:Hp)(Q:VK):Prop
|mk(l:_)(b:_)(xs:_)(zs:_)(_:x=.ref l)(_:vs=[.ref b])(_:H l=some (.lst xs))(_:H b=some (.lst zs))(_:xs.length+zs.length<=sizeLine)(_:Q .non (upd H l (.lst (xs++zs))))
theorem Qm:MtM X "list.extend" AmC:=by
 intro pins s σ H x vs v us Q I o j h;obtain⟨l,b,xs,zs,rfl,rfl,d,i,y,q⟩:=h;cases o;obtain⟨u,rfl,f⟩:=j.one;cases f;obtain⟨z,its,n,r,w,e⟩:=I.Adb d;obtain⟨t,a,n2,p,m,e2⟩:=I.Adb i;have hsz:its.toArray.size+a.toArray.size<=sizeLine:=by grind
 have c:¬(!its.toArray.isEmpty && Builtin.List.listTooLong (its.toArray.size+a.toArray.size))=true:=by
  rw[AeA hsz,Bool.and_false];exact Aud
 refine call_meets F.slot_list_extend ⟨_,e,Z⟩ F.entry_list_extend (F.args_list_extend_2 _ _)
  (AutoSeq1.list_extend_list_list_0 l its.toArray n b a.toArray n2 c (by grind) (by lia)) ⟨e,e2,?_⟩;refine⟨.non,_,I.AmA d e (by simp) (r.append p) ?_,Z,q⟩;rw[AtI];omega
inductive AsP (x:V)(y:V)(H:Hp)(Q:VK):Prop
|mk(l:_)(b:_)(xs:_)(zs:_)(_:x=.ref l)(_:y=.ref b)(_:H l=some (.lst xs))(_:H b=some (.lst zs))(_:xs.length+zs.length<=sizeLine)(_:∀ p,H p=none->Q (.ref p) (upd H p (.lst (xs++zs))))
theorem AjI:OpR X (binaryOp .Add) AsP:=by
 intro pins s σ H x y v u Q I d c h;obtain⟨l,b,xs,zs,rfl,rfl,j,f,t,q⟩:=h;cases d;cases c;obtain⟨z,its,n,r,o,e⟩:=I.Adb j;obtain⟨p,a,n2,m,i,e2⟩:=I.Adb f;refine PySem.P.add_list e e2 ?_ (by simp_all);have ea:its.toArray++a.toArray=(its++a).toArray:=by simp
 rw[ea];exact⟨.ref _,_,I.Apt (r.append m) (by rw[AtI];omega),Z,q _ I.fresh⟩
inductive AsQ (x:V)(y:V)(H:Hp)(Q:VK):Prop
|mk(l:_)(k:_)(xs:_)(_:x=.ref l)(_:y=.int k)(_:H l=some (.lst xs))(_ : -(2 ^ 63)<=k)(_:k<2 ^ 63)(_:xs.length*k.toNat<=sizeLine)(_:∀ p,H p=none->Q (.ref p) (upd H p (.lst (List.replicate k.toNat xs).flatten)))
theorem len_rep(xs:List α)(k:Nat):(List.replicate k xs).flatten.length=k*xs.length:=by simp_all
theorem ZF:OpR X (binaryOp .Mult) AsQ:=by
 intro pins s σ H x y v u Q I C A h;obtain⟨l,k,xs,rfl,rfl,p,h1,h2,j,q⟩:=h;cases C;obtain⟨t,rfl⟩:=A;obtain⟨z,its,n,r,B,e⟩:=I.Adb p;have c:its.toArray.size*k.toNat<=sizeLine:=by rw[Aub,<- B];exact j
 have f:¬its.toArray.size*k.toNat>(2 ^ 63-1) / 8:=by
  have:(sizeLine:Nat)<=(2 ^ 63-1) / 8:=by decide
  lia
 have b:¬(!Builtin.List.listFitsIndex k)=true:=by
  rw[fitsIndex_both h1 h2];exact Aud
 have i:¬Builtin.List.listTooLong (its.toArray.size*k.toNat)=true:=by
  rw[AeA c];exact Aud
 have d:List.foldl (λw o=>w++o) #[] (List.replicate (if its.toArray.isEmpty=true then 0 else k.toNat) its.toArray)=(List.replicate k.toNat its).flatten.toArray:=by
  have E:=λm=>by
   have:= foldl_rep its m [];exact this
  cases its with
  | nil=>simp
  | cons a D=>simp_all
 refine wpAny_binaryOp_repeat_ref (by decide) ⟨_,e,Z⟩ (λs'=>typeIs_int s' k t) noFill_list_mul F.fills_int_mul F.slot_int_rmul repeat_list F.slot_int_index.lookup
  (call_meets F.slot_int_rmul (typeIs_int s k t) F.entry_int_rmul (F.args_int_rmul_2 _ _) (int___rmul___int_list k t l its.toArray n)
   ⟨e,Z,⟨_,e,Z⟩,call_meets F.slot_list_mul ⟨_,e,Z⟩ F.entry_list_mul (F.args_list_mul_2 _ _) (AutoListH.list___mul___list_int_3 l its.toArray n k t b f i) ⟨e,?_⟩⟩);rw[d];exact⟨.ref _,_,I.Apt (r.rep k.toNat) (by rw[len_rep,Av4];exact j),Z,q _ I.fresh⟩
end L2
namespace Att
open PySem PySem.W PySem.Calls PyProof.Rows
theorem YL{P:Params}{h:Heap}:∀(ns:NA)(vs:NW),WellAll P h vs (ns.map WData.int)->IntsAre vs ns:=by
 intro ns
 induction ns with
 | nil =>
  intro vs w;cases w;exact .nil
 | cons n ns c =>
  intro vs w;cases w with
  | cons a b =>
   cases a;exact .cons _ _ (c _ b)
theorem Aio{l:OpenLaw}{n:Nat}(hn:l.most=some n){P:Params}{h:Heap}{args:List WData}{b:NW}
  (c:l.row.toRowW.claim.pre args=true) (j:WellAll P h b args) :
  ∃ a vs ns,b=[Value.ref a]/\args=[WData.list (ns.map WData.int)]/\h.get? a=some { cls:=.type "list", data:=.seq vs.toArray }/\IntsAre vs ns/\ns.length<=n:=by
 have i:WShape.hasAll [] args [.list .int]=true:=(pre_splitW c).1;have hc:l.pre.holds [] { args:=args }=true:=(pre_splitW c).2;obtain⟨d,r,rfl,h1,h2⟩:=hasAllW_cons i;obtain rfl:=hasAllW_nil h2;obtain⟨xs,rfl,h3⟩:=hasW_list h1;obtain⟨ns,rfl⟩:=items_int h3;have e:ns.length<=n:=by
  have h4:(WTm.not (.lt (.lit (.int (n:Int))) (.len (.arg 0)))).holds [] { args:=[.list (ns.map .int)] }=true:=by
   have h4:=(holds_andW hc).1;rw[hn] at h4;exact h4
  have h5:=condW_of h4 (w_not (w_lt w_lit (w_len_list (w_arg Z))));rw[AtG] at h5;refine Av5 λq=>?_;have p:(n:Int)<((ns.length:Nat):Int):=by omega
  first
   | (rw[zN p] at h5;exact absurd h5 (by decide))
   | grind
 cases j with
 | cons o s =>
  cases s;cases o with
  | list m f=>exact⟨_,_,ns,Z,Z,m,YL ns _ f,e⟩
theorem Aip(l:OpenLaw)(args:List WData):l.row.toRowW.claim.post args (.bool true) args=true :=
 postW_of
  (by first | rfl | decide | simp[WShape.has,WShape.arms,WShape.armsAll])
  (w_eq_bool (w_res Z) w_lit) Z
theorem Xb{l:OpenLaw}{n:Nat}{q:Program}{loose:NX}{XP:(Str->NY)->Heap->Prop}{YP:World->Heap->Prop}{d:DefRec}
  (hn:l.most=some n) (t:d.params.defaults=[])
  (call:∀(w:World)(b s₁:Shared)(mg mb:Str->NY)(i:Addr)(o:Obj)(v cd e:Value)(a:Addr)(vs:NW)(ns:NA),
   Ground q loose [] XP w b mg mb s₁.heap->YP w s₁.heap ->
   s₁.heap.get? i=some o->o.data=.func (docDef d.name d.params d.body d.scope v cd e)->s₁.heap.CodeRec cd d.name->mg d.name=some (.ref i) ->
   s₁.heap.get? a=some { cls:=.type "list", data:=.seq vs.toArray }->IntsAre vs ns->ns.length<=n->s₁.gens=#[] ->
   codeAny (model l.prog w) callerA (.call (.ref i) ⟨[.ref a],[]⟩) (λr s'=>r=.ok (.ret (.bool true))/\OldK s₁.heap s'.heap/\s'.os=s₁.os/\AllBare s'.gens) s₁) :
  WalkO q loose XP YP l.row.toRowW d [] (λf vs=>PySem.call f vs):=by
 intro w b s₁ mg mb G Y i o v cd e H kV A F u y p E args x as m z I s B;obtain rfl:H=.none:=Dflts.none y t;obtain rfl:kV=.none:=Dflts.noKw y;obtain⟨a,vs,ns,rfl,rfl,h,c,j⟩:=Aio hn m s;refine enter_call (codeAny_mono (call w b s₁ mg mb i o v cd e a vs ns G Y A (fd_plain F) u p h c j E) λr s' C=>?_);obtain⟨rfl,h2,h3,h4⟩:=C;exact⟨.inl ⟨.bool true,.bool true,[],Z,λ_=>rfl,.bool true,Aip l _,λ_=>⟨List.Pairwise.nil,λ_ D=>(nomatch D)⟩⟩,h2,h3,h4⟩
section
variable {prog:Program}{w:World}{A:Around}{E:NR}{s:Shared}{K:Frag}
def ledger(h:Heap)(L d:Addr):NO:=(List.range h.objs.size).filterMap λa=>if a=L\/a=d then none else (h.get? a).map λo=>(a,o)
end
end Att
namespace L2
open PySem PySem.Spec PyProof.Rows
variable {P q:Program}{w:World}{mg mb:Str->NY}{CX:CXT}{a f:Addr}{fd:FuncData}{x qual:Str}{sp:Sp}{l:W.OpenLaw}{n:Nat}{loose ps:NX}{XP:(Str->NY)->Heap->Prop}{YP:World->Heap->Prop}{d:DefRec}{X:Cx}{A B:Prop}{H H':Hp}
theorem JZ:∀{vs:NW} {ns:NA},IntsAre vs ns->Vals (ns.map V.int) vs
 | _,_,.nil=>.nil
 | _,_,.cons n t h=>.cons ⟨t,Z⟩ (JZ h)
def Only(H:Hp):Prop:=∀ b,H b=none\/∃ o xs,H b=some (.frz o (.lst xs))
theorem AjJ{K:NF}{k:Nat}{L:Addr}{s₁:Shared}{vs:NW}{ns:NA}
  (T:K.In s₁.heap) (y:s₁.heap.Ns mainGlobals mg) (c:s₁.heap.Ns builtinsNs mb) (I:∀ x:Str,x ≠ "__name__" -> mb x=bootBuiltins x) (p:s₁.heap.NoLimit) (hg:s₁.gens=#[])
  (D:s₁.heap.get? a=some { cls:=.type "list", data:=.seq vs.toArray }) (hi:IntsAre vs ns) (S:ns.length<=sizeLine) (hr:Ez k callerA)
  (F:∀ base:Heap,K.In base->base.Ns mainGlobals mg->Bl P w K mg base CX k L fd [x] sp) (j:∀(s:Shared)(u:Value),BindsTo s fd ⟨[u],[]⟩ [(x,u)])
  (M:∀ H:Hp,Only H->SqL K H a (ns.map V.int)->sp [.ref a] H (λv _=>v=.bl true) λ_ _ _=>False)
  (J:∀ H e s',CX [] H s₁ (λ_ _ _=>False) e s'->False) :
  codeAny (model P w) callerA (.call (.ref L) ⟨[.ref a],[]⟩) (λr s'=>r=.ok (.ret (.bool true))/\OldK s₁.heap s'.heap/\s'.os=s₁.os/\AllBare s'.gens) s₁:=by
 have R:=JZ hi;have A:=hi.length;have i:∀ H:Hp,Only H->SqL K H a (ns.map V.int)->HOk P w H s₁.heap->(∀ b,H b≠none->b=a)->(H a≠none->K.lookup a=none) ->
   codeAny (model P w) callerA (.call (.ref L) ⟨[.ref a],[]⟩) (λr s'=>r=.ok (.ret (.bool true))/\OldK s₁.heap s'.heap/\s'.os=s₁.os/\AllBare s'.gens) s₁:=by
  intro H U hS B W Y;have Q:∀{b:Addr} {o:Obj},s₁.heap.get? b=some o->H b=none->(Rx s₁.heap H).get? b=some o:=λe n=>Ae2 e n;have O:∀{b:Addr} {o:Obj} {es:Array DictEntry} {E:Nat},s₁.heap.get? b=some o->o.data=.dict es E->H b=none:=λ{b o es E} e d=>by
   cases q:H b with
   | none=>rfl
   | some u =>
    have N:=W b (by rw[q];simp);subst N;rw[D] at e;cases e;have d':=d;cases d'
  have f:∀{b:Addr} {m:Str->NY},s₁.heap.Ns b m->(Rx s₁.heap H).Ns b m:=λ{b m} ⟨o,es,E,e,d,r⟩=>⟨o,es,E,Q e (O e d),d,r⟩;have C:=λb o e=>Q (T b o e) (by
   cases q:H b with
   | none=>rfl
   | some u =>
    have N:=W b (by rw[q];simp);subst N;rw[Y (by rw[q];simp)] at e;cases e)
  have hM:Mod K mg (Rx s₁.heap H):=⟨C,f y,⟨mb,f c,I⟩,let ⟨mc,h1,h2⟩:=p;⟨mc,f h1,h2⟩⟩;have e0:Ae6 P w K mg (Rx s₁.heap H) callerA [] s₁ H:=⟨Z,hM,λb o e=>Ahe e,AuE (AbP _ _),trivial,λb c=>absurd (show b∈([]:NU) from c) (by simp),B,.of_eq hg⟩;refine codeAny_mono ((F _ C (f y)).run callerA [] s₁ H ⟨[.ref a],[]⟩ [.ref a] [.ref a] _ _ hr e0 (j s₁ (.ref a)) (.cons Z .nil) (M H U hS)) λr s' h=>?_;cases r with
  | error e=>exact(J H e s' h).elim
  | ok fl =>
   cases fl with
   | next=>exact False.elim h
   | brk=>exact False.elim h
   | cont=>exact False.elim h
   | ret u =>
    obtain⟨v,H',os,t,un,l,r',q⟩:=h;have q':=q;subst q';obtain rfl:u=Value.bool true:=r';refine⟨Z,OldK.of_keep λb o e=>?_,os,t⟩;cases q:H b with
    | none=>exact un.keep b o e q (by intro z;exact absurd (show b∈([]:NU) from z) (by simp)) (by simp)
    | some u =>
     rcases U b with z | ⟨ob,xs,z⟩
     ·rw[q] at z;cases z
     ·have z2:=un.JT b ob _ z;obtain⟨e1,_⟩:=B b _ z;obtain⟨e2,_⟩:=l b _ z2;rw[e] at e1;cases e1;exact e2
 cases hk:K.lookup a with
 | some o =>
  have e:=T a o hk;rw[D] at e;cases e;refine i (λ_=>none) (λ_=>.inl Z) (.inr ⟨_,vs.toArray,_,hk,Z,Z,Z,by rw[Aub,A];exact S,by simpa using R⟩) (λb u z=>by simp_all) (λb z=>absurd Z z) λz=>absurd Z z
 | none =>
  refine i (λb=>if b=a then some (.frz { cls:=.type "list", data:=.seq vs.toArray } (.lst (ns.map V.int))) else none) (λb=>?_) (.inl (.inr ⟨{ cls:=.type "list", data:=.seq vs.toArray },if_pos Z⟩)) (λb u z=>?_) (λb z=>?_) λ_=>hk
  ·by_cases c:b=a
   ·exact .inr ⟨_,_,if_pos c⟩
   ·exact .inl (if_neg c)
  ·by_cases c:b=a
   ·have X:=(if_pos c).symm.trans z;cases X;subst c;exact⟨D,by rw[AtG];exact S,vs,_,R,D⟩
   ·simp_all
  ·by_cases c:b=a
   ·exact c
   ·exact absurd (if_neg c) z
abbrev KOf {K:NF} {h:Heap} (_:K.In h):NF:=K
theorem AmD{k:Nat}{K:Params->NF}{CX:World->CXT}{sp:World->Sp}
  (hn:l.most=some n) (y:n<=sizeLine) (z:d.params.defaults=[]) (D:Ez k callerA)
  (I:∀(w:World)(h:Heap),YP w h->(K w.params).In h)
  (F:∀(w:World)(mg:Str->NY)(m:Addr)(h:Heap),(K w.params).In h->h.Ns mainGlobals mg->mg d.name=some (.ref m) ->
   ∃ fd:FuncData,(∀(s:Shared)(u:Value),BindsTo s fd ⟨[u],[]⟩ [(x,u)]) /\
    ∀ base:Heap,(K w.params).In base->base.Ns mainGlobals mg->Bl l.prog w (K w.params) mg base (CX w) k m fd [x] (sp w))
  (r:∀(w:World)(H:Hp)(a:Addr)(ns:NA),ns.length<=n->Only H->SqL (K w.params) H a (ns.map V.int)->sp w [.ref a] H (λv _=>v=.bl true) λ_ _ _=>False)
  (p:∀(w:World)(H:Hp)(s:Shared)(e:Value)(s':Shared),CX w [] H s (λ_ _ _=>False) e s'->False) :
  W.WalkO q loose XP YP l.row.toRowW d [] (λf vs=>PySem.call f vs):=by
 refine Att.Xb hn z λw A s₁ mg mb m o R cd O a vs ns G Y P Q L t j i c E=>?_;have B:=I w _ Y;obtain⟨fd,C,N⟩:=F w mg m _ B G.T.g t;exact AjJ B G.T.g G.T.b G.T.builtins G.T.nolimit E j i (AtW c y) D N C (λH J M=>r w H a ns c J M) λH e s'=>p w H s₁ e s'
theorem Arj{k:Nat}{K:Params->NF}{sp:NF->Sp}
  (hn:l.most=some n) (c:n<=sizeLine) (i:d.params.defaults=[]) (m:Ez k callerA)
  (o:∀(w:World)(h:Heap),YP w h->(K w.params).In h)
  (F:∀(w:World)(mg:Str->NY)(fa:Addr)(h:Heap),(K w.params).In h->h.Ns mainGlobals mg->mg d.name=some (.ref fa) ->
   ∃ fd:FuncData,(∀(s:Shared)(u:Value),BindsTo s fd ⟨[u],[]⟩ [(x,u)]) /\
    ∀ base:Heap,(K w.params).In base->base.Ns mainGlobals mg->Bl l.prog w (K w.params) mg base CX k fa fd [x] (sp (K w.params)))
  (j:∀(K:NF)(H:Hp)(a:Addr)(ns:NA),ns.length<=n->Only H->SqL K H a (ns.map V.int)->sp K [.ref a] H (λv _=>v=.bl true) λ_ _ _=>False)
  (b:∀(H:Hp)(s:Shared)(e:Value)(s':Shared),CX [] H s (λ_ _ _=>False) e s'->False) :
  W.WalkO q loose XP YP l.row.toRowW d [] (λf vs=>PySem.call f vs) :=
 AmD hn c i m o F (λw H a ns h1 h2 h3=>j (K w.params) H a ns h1 h2 h3) λ_ H s e s'=>b H s e s'
def Lh (s:Stmt):Arguments:=match s with
 | .FunctionDef _ a _ _ _ _ _ _ _ _=>a
 | _=>{ posonlyargs:=[],args:=[],vararg:=none,kwonlyargs:=[],kw_defaults:=[],kwarg:=none,defaults:=[] }
def HY (s:Stmt):List Stmt:=match s with
 | .FunctionDef _ _ b _ _ _ _ _ _ _=>b
 | _=>[]
def Ag (s:Stmt):Scope:=match s with
 | .FunctionDef _ _ _ _ _ _ sc _ _ _=>sc
 | _=>{ kind:=.function,names:=[],isGenerator:=false,isCoroutine:=false }
abbrev CX0:CXT:=λ_ _ _ _ _ _=>False
abbrev E0:XK:=λ_ _ _=>False
theorem BK:Passes CX0 X E0:=λ_ _ _ _ _ _ _ h=>h.elim
structure Fun (K:NF)(x qual:Str)(st:Stmt)(f:Addr)(fd:FuncData):Prop where
 ex:∃(oc:Value)(od:Option Addr)(kV doc pm:Value)(an:Option Addr)(cdv ct:Value)(osl:Array (NY)),
  fd=W.fnOf x qual (Lh st) (HY st) (Ag st) .none kV doc pm an cdv ct/\K.lookup f=some ⟨oc,od,.func fd,osl⟩/\W.codeIn K cdv qual=true
 kp:W.keepIn K (.ref f)=true
section
variable {K:NF}{base:Heap}
theorem Fun.ok{st:Stmt}{N:NX}{k:Nat}(F:Fun K x qual st f fd)(S:Am N ps (Ag st))
  (b:∀(a:Value)(A:Around)(outer:List Env)(s:Shared)(H:Hp)(vs:Na)(Q:VK)(E:XK),Ez k (A.deeper (envOfC qual (Ag st) s.heap.objs.size f a))->sp vs H Q E ->
   ∃ t,PSs (Ago CX0 P w K mg base N qual (Ag st) f a A outer s H E).nox (HY st) t/\t { nx:=λ_ H'=>Q .non H',rt:=Q } (start N vs) H) (len:∀ vs H Q E,sp vs H Q E->vs.length=ps.length:=by intro _ _ _ _ h;first | (cases h;subst_vars;rfl) | (obtain⟨_,e,_⟩:=h;subst e;rfl) | (obtain⟨_,_,e,_⟩:=h;subst e;rfl) | (obtain⟨_,_,_,e,_⟩:=h;subst e;rfl) | (obtain⟨_,_,_,_,e,_⟩:=h;subst e;rfl)):Bl P w K mg base CX0 (k+1) f fd ps sp:=by
 obtain⟨n,m,kV,l,o,p,a,r,j,rfl,lk,d⟩:=F.ex;refine Aom lk d S len λA outer s H vs Q E i c=>?_;obtain⟨t,h,q⟩:=b a A outer s H vs Q E i c;exact⟨t,h.nox,q⟩
theorem Fun.binds{st:Stmt}(F:Fun K x qual st f fd)
  (h:∀(kV b c:Value)(d:Option Addr)(a e:Value)(us:NW),us.length=ps.length->bindArgs (W.fnOf x qual (Lh st) (HY st) (Ag st) .none kV b c d a e) ⟨us,[]⟩=pure (ps.zip us)):Binds K fd ps []:=by
 obtain⟨l,m,kV,b,c,d,a,e,j,rfl,lk,i⟩:=F.ex;exact .all (h kV b c d a e)
theorem Agr{st:Stmt}{j:Value}{m e:Option Addr}{d:Array (NY)}{kV b h a i:Value}(l:K.lookup f=some ⟨j,m,.func (W.fnOf x qual (Lh st) (HY st) (Ag st) .none kV b h e a i),d⟩)
  (c:W.codeIn K a qual=true) (k:W.keepIn K (.ref f)=true):Fun K x qual st f (W.fnOf x qual (Lh st) (HY st) (Ag st) .none kV b h e a i):=⟨⟨j,m,kV,b,h,e,a,i,d,Z,l,c⟩,k⟩
end
theorem AeB{A:Around}{k:Nat}(a:Ez k A):A.units+1<cLine:=AuY (AvF (by decide:1<=64) _) a.units
theorem VH(h:n<=1000):n<sizeLine:=AuY h (by decide)
theorem pv(i:Nat){pos:Pos}(c:X.N[i]?=some x:=by rfl)(b:Vis X.env.scope x:=by first | exact Or.inl Z | exact Or.inr (Or.inl Z) | exact Or.inr (Or.inr Z))(d:(x == ("__debug__" : Str))=false:=by decide)
  (a:(x == ("__classdict__" : Str))=false:=by decide):PE X (.Name x pos) (AqA i):=Agf c b d a
theorem Iz(h:B):if false=true then A else B:=by rw[if_neg Aud];exact h
theorem Aby(h:A):if true=true then A else B:=by rw[if_pos rfl];exact h
theorem Oa{c:Prop}[Decidable c](hc:c)(h:B):if (!decide c)=true then A else B:=by rw[zN hc];exact Iz h
def Aq (H H':Hp):Prop:=∀ b o,H b=some o->H' b=some o
theorem Aq.refl(H:Hp):Aq H H:=λ_ _ h=>h
theorem Aq.trans{H1 H2:Hp}(a:Aq H H1)(b:Aq H1 H2):Aq H H2:=λc o h=>b c o (a c o h)
theorem Aq.free(e:Aq H H'){l:Addr}(h:H' l=Option.none):H l=Option.none:=by
 cases q:H l with
 | none=>rfl
 | some o =>
  rw[e l o q] at h;cases h
theorem Aq.seq{K:NF}{xs:Na}(e:Aq H H')(h:SqL K H a xs):SqL K H' a xs:=by
 rcases h with (h | ⟨o,h⟩) | h
 ·exact .inl (.inl (e _ _ h))
 ·exact .inl (.inr ⟨o,e _ _ h⟩)
 ·exact .inr h
end L2
namespace Ar
variable {a b c d:Nat}{x y z:Int}
theorem a1(h:¬a<b):b<=a:=Av5 h
theorem a2(h:a<=b)(e:Nat.ble b c=true:=by rfl):a<=c:=AtW h (Au2 e)
theorem a3:a<=a+b:=Nat.le_add_right a b
theorem a4:a<=b+a:=Nat.le_add_left a b
theorem a5:(0:Int)<=0+↑a:=by omega
theorem a7 : -(2:Int)^62<=↑a:=by omega
theorem a8(h:a<=b)(e:Nat.ble b 1000000000000=true:=by rfl):(↑a:Int)<2^62:=by have:=Au2 e;omega
theorem a9:(0:Int)<=↑a:=by omega
theorem b1(h:(↑a:Int)=↑b):a=b:=by omega
theorem b2(h:b=c)(g:a<b):a<c:=h▸g
theorem b3(h:b=c)(g:a<c):a<b:=h▸g
theorem b5(h:b=c)(g:a<=c):a<=b:=h▸g
theorem b8(h:a<=b)(g:b<=c):a<=c:=AtW h g
theorem c1(h:a<=b)(g:b<c):a<c:=AuY h g
theorem c2(h:a<b)(g:b<c):a<c:=Avn h g
theorem c3(h:a<b):a<=b:=Auu h
theorem c5(h:a<b):a-1<b:=by omega
theorem c7(h:a<b):b-1+1=b:=by omega
theorem c8(h:¬a=0):a-1+1=a:=by omega
theorem c9(h:a<b):b-1<b:=by omega
theorem d1(h:a<b):0<b:=by omega
theorem d2(h:a=b):a<=b:=AuE h
theorem d3(h:a=b):b<=a:=AuE h.symm
theorem d4(h:¬a<b):b+(a-b)=a:=by omega
theorem d5(h:¬a=b)(g:a<=b):a<b:=by omega
theorem d7(h:a+b<=c):a<=c:=by omega
theorem d8(h:a+b<=c):b<=c:=by omega
theorem e2(h:a<=b):a<=b+c:=by omega
theorem e3(h:a<=b):a<=c+b:=by omega
theorem e6(h:x<y):¬y<=x:=by omega
theorem e7(h:x<=y):¬y<x:=by omega
theorem e8(h:a<b):¬b<=a:=by omega
theorem f1:(↑a:Int).toNat=a:=by omega
theorem f2:(↑a:Int)+1=↑(a+1):=by omega
theorem f3:(↑a:Int)+↑b=↑(a+b):=by omega
theorem f4(h:a<=b)(e:Nat.ble (b+c) d=true:=by rfl):a+c<=d:=AtW (Nat.add_le_add_right h c) (Au2 e)
theorem f5(h:a<b):(↑a:Int)<↑b:=by omega
theorem f6(h:(↑a:Int)<↑b):a<b:=by omega
theorem f8(h:¬a<=b):b<a:=by omega
theorem f9(h:¬x<=y):y<x:=by omega
theorem g2(h:a<b)(e:Nat.ble b (c+1)=true:=by rfl):a<=c:=by have:=Au2 e;omega
theorem g3(h:a<=b)(e:Nat.ble (b+1) c=true:=by rfl):a<c:=by have:=Au2 e;omega
theorem g4(h:a<b)(g:b<=c)(e:Nat.ble c d=true:=by rfl):a<d:=by have:=Au2 e;omega
theorem g5(h:a<=b)(g:b<=c)(e:Nat.ble c d=true:=by rfl):a<=d:=by have:=Au2 e;omega
theorem g6(h:a=b)(g:b<=c)(e:Nat.ble c d=true:=by rfl):a<=d:=by have:=Au2 e;omega
theorem g7(h:a<=b)(g:c<=d){k:Nat}(e:Nat.ble (b+d) k=true:=by rfl):a+c<=k:=by have:=Au2 e;omega
theorem h2(h:¬a=0):0<a:=by omega
theorem h3(h:a=b):a=b:=h
theorem h4(h:a=b):b=a:=h.symm
theorem h5(h:a=b)(g:b=c):a=c:=h.trans g
theorem h7(h:a=c)(g:b=c):a=b:=h.trans g.symm
theorem i1:a<=a:=AtH a
theorem i2(h:b<=a)(e:Nat.ble c (b+d)=true:=by rfl):c<=a+d:=by have:=Au2 e;omega
theorem i3(h:a<=b)(e:(↑b:Int)=y:=by rfl):¬y<↑a:=by omega
theorem i7:((1:Int)+↑a-1).toNat=a:=by omega
theorem i8:(0:Int)<=1+↑a-1:=by omega
theorem j3(h:a<=b):(↑a:Int)<=↑b:=by omega
theorem j4(h:a<b):a+1<=b:=h
theorem j6(h:a<=b):a<b+1:=by omega
theorem j7(h:a<b+1):a<=b:=by omega
theorem j8(h:a<=b)(g:b<a):False:=by omega
theorem k1(h:a<b)(g:a=b):False:=by omega
theorem k3(h:b<a):¬a=b:=by omega
theorem k6(h:a<=b)(e:Nat.ble (2*b) c=true:=by rfl):2*a<=c:=by have:=Au2 e;omega
theorem k7:min a b<=a:=AuU a b
theorem l3:a+(b+c)=a+b+c:=by omega
theorem l7(h:a=b+c):c<=a:=by omega
theorem l8(h:a=b+c):b<=a:=by omega
theorem m1(h:a<=b)(e:Nat.ble b 1000000000000=true:=by rfl):(↑a:Int)<2^63:=by have:=Au2 e;omega
theorem m3 : -(2:Int)^63<=↑a:=by omega
theorem m2:(↑(0+a):Int).toNat=a:=by omega
end Ar
namespace L2
open PySem PySem.Spec PyProof.Rows
variable {scope:Scope}{env:Env}{prog P:Program}{w:World}{R:Result->Shared->Prop}{s s':Shared}{elt target iter tg l:Expr}{ifs:List Expr}{pos py spos px:Pos}{X:Cx}{t tc:TT}{pins:NO}{σ:St}{H H':Hp}{Q:VK}{ex fp:NU}{h h' h₁:Heap}{a c C:Addr}{o:HO}{y x z:Str}{fn:Str->Bool}{q tk i n:Nat}{Nc:NX}{Bv:NI}{ye:NR}{m0 m:Str->NY}{te tl:TE}{J:It}{Er:Addr->Value->Shared->Prop}{wi:TI}{tW tV:It->St->Hp->VK->Prop}{Pv:Nat->Na->Hp->Prop}{ys xs:Na}
theorem ZG(h:∀ y∈scope.names,y.2=.free->∃ c,env.cells.lookup y.1=some c) :
  ∃ cl,closureFor scope env=pure cl/\(∀ x c,cl.lookup x=some c->env.cells.lookup x=some c/\(x,NameKind.free)∈scope.names) /\
   ∀ x,(x,NameKind.free)∈scope.names->cl.lookup x=env.cells.lookup x:=by
 have key:∀(l:List (Str × NameKind))(cs:List (Str × Addr)),(∀ y∈l,y.2=.free->∃ c,env.cells.lookup y.1=some c) ->
   ∃ cl,(forIn l cs (λ(x:Str × NameKind)(cs:List (Str × Addr))=>do
     if x.2 == .free then
      let c <- cellOf env x.1
      pure (ForInStep.yield ((x.1,c)::cs))
     else pure (ForInStep.yield cs)):Sem (List (Str × Addr)))=pure cl /\
    (∀ x c,cl.lookup x=some c->(env.cells.lookup x=some c/\(x,NameKind.free)∈l)\/cs.lookup x=some c) /\
    ∀ x,((x,NameKind.free)∈l->cl.lookup x=env.cells.lookup x)/\((cs.lookup x=env.cells.lookup x)->cl.lookup x=env.cells.lookup x):=by
  intro l
  induction l with
  | nil=>intro cs _;exact⟨cs,Z,λx c e=>.inr e,λx=>⟨λz=>absurd z (by simp),λz=>z⟩⟩
  | cons y r m =>
   intro cs f;obtain⟨n,k⟩:=y;by_cases hk:k=.free
   ·subst hk;obtain⟨c,hc⟩:=f (n,.free) AtJ Z;obtain⟨cl,e1,e2,e3⟩:=m ((n,c)::cs) λy j=>f y (AtL _ j);refine⟨cl,?_,λx d e=>?_,λx=>⟨λz=>?_,λz=>?_⟩⟩
    ·rw[AuZ];simp only [beq_self_eq_true,cellOf,hc];exact e1
    ·rcases e2 x d e with ⟨b,o⟩ | z
     ·exact .inl ⟨b,AtL _ o⟩
     ·rw[Auy] at z;by_cases i:x == n
      ·rw[i] at z;have a:x=n:=by simpa using i
       subst a;refine .inl ⟨?_,AtJ⟩;rw[hc];exact z
      ·have a:(x == n)=false:=by simpa using i
       rw[a] at z;exact .inr z
    ·rcases yD.mp z with z | z
     ·injection z with b _;subst b;refine(e3 x).2 ?_;rw[hc];simp
     ·exact(e3 x).1 z
    ·grind
   ·obtain⟨cl,e1,e2,e3⟩:=m cs λy j=>f y (AtL _ j);grind
 obtain⟨cl,e1,e2,e3⟩:=key scope.names [] h;refine⟨cl,?_,λx c e=>?_,λx z=>(e3 x).1 z⟩
 ·unfold closureFor;have:= e1
  simpa using this
 ·grind
theorem Gi{env:Env}(hk:env.scope.kind=.function):∀{a:List (Str × NameKind)} {x:Str} {k:NameKind},a.lookup x=some k->k≠.free ->
  (a.map λ(n,k)=>if (k == NameKind.free && env.scope.kind == .function && env.kindOf n == some .cell) then (n,NameKind.cell) else (n,k)).lookup x=some k
 | [],_,_,h,_=>by simp at h
 | (n,k')::r,x,k,h,hf=>by
  have c:=@Gi env hk r x k;show List.lookup x ((if (k' == NameKind.free && env.scope.kind == .function && env.kindOf n == some .cell)=true then (n,NameKind.cell) else (n,k'))::_)=_;cases b:x == n with
  | true =>
   simp_all
  | false =>
   simp only [Auy,b] at h;by_cases hc:(k' == NameKind.free && env.scope.kind == .function && env.kindOf n == some .cell)=true
   ·rw[if_pos hc];simp only [Auy,b];exact c h hf
   ·rw[if_neg hc];simp only [Auy,b];exact c h hf
theorem HH{env:Env}(hk:env.scope.kind=.function):∀{a:List (Str × NameKind)} {x:Str},a.lookup x=some .free->env.kindOf x=some .cell ->
  (a.map λ(n,k)=>if (k == NameKind.free && env.scope.kind == .function && env.kindOf n == some .cell) then (n,NameKind.cell) else (n,k)).lookup x=some .cell
 | [],_,h,_=>by simp at h
 | (n,k')::r,x,h,hc=>by
  have c:=@HH env hk r x;show List.lookup x ((if (k' == NameKind.free && env.scope.kind == .function && env.kindOf n == some .cell)=true then (n,NameKind.cell) else (n,k'))::_)=_;cases b:x == n with
  | true =>
   simp_all
  | false =>
   simp only [Auy,b] at h;by_cases d:(k' == NameKind.free && env.scope.kind == .function && env.kindOf n == some .cell)=true
   ·rw[if_pos d];simp only [Auy,b];exact c h hc
   ·rw[if_neg d];simp only [Auy,b];exact c h hc
def cxG (X:Cx)(fn:Str->Bool)(Nc:NX)(scope:Scope)(cs:List (Str × Addr))(C:Addr)(fp:NU)(s:Shared)(H:Hp)(ye:NR):Cx where
 prog:=X.prog
 w:=X.w
 K:=X.K
 mg:=X.mg
 base:=X.base
 A:=X.A
 N:=Nc
 s₀:=s
 H₀:=H
 env:=compEnvC scope cs C X.env
 outer:=X.stack
 stack:=X.stack
 ex:=fp
 fn:=fn
 calm:=X.calm
 pn:=[]
 xe:=ye
def JG (X:Cx)(Nc:NX)(scope:Scope)(cl:List (Str × Addr))(C:Addr)(fp:NU)(s:Shared)(H:Hp):Cx:=cxG X (λ_=>false) Nc scope cl C fp s H λ_ _=>False
def Li (σ:St)(Bv:NI):St:=Bv.map λj=>(σ[j]?).join
structure R8 (X:Cx)(x:Str)(Nc:NX)(Bv:NI)(scope:Scope):Prop where
 kind:scope.kind=.function
 cell:∀ y∈scope.names,y.2≠.cell
 names:∀ y∈scope.names,y.2=.local->scope.names.lookup y.1=some .local
 fr:∀ y∈scope.names,y.2=.free->X.env.scope.names.lookup y.1=some .cell/\scope.names.lookup y.1=some .free
 loc:scope.names.lookup x=some .local
 len:Nc.length=Bv.length+1
 hd:Nc[0]?=some x
 nd:Nc.Nodup
 cap:∀ k j,Bv[k]?=some j->∃ y,Nc[k+1]?=some y/\X.N[j]?=some y/\scope.names.lookup y=some .free
theorem Adc{A:Around}{it acc:Value}(I:Nat->Shared->Prop)
  (j:∀ n s,I n s->wpAny (model prog w) A (pyNext it) (λr s₁=>match r with
   | none=>R (.ok .next) s₁
   | some v=>wpAny (model prog w) A (letOwnedTupleGo target it v) (λ_ p=>wpAny (model prog w) A (assign target env v) (λ_ b =>
     wpAny (model prog w) A (forIn ifs true λc r=>if r=true then do let ok <- isTrue c env (eval c env);pure (ForInStep.yield ok) else pure (ForInStep.yield r)) (λok a =>
      if ok=true then wpAny (model prog w) A (eval elt env) (λx f =>
       wpAny (model prog w) A (call (.builtin "list.append") [acc,x]) (λ_ d=>∃ m,m<n/\I m d) (notedBy (model prog w) A env λe s'=>R (.error e) s') f) (notedBy (model prog w) A env λe s'=>R (.error e) s') a
      else ∃ m,m<n/\I m a) (notedBy (model prog w) A env λe s'=>R (.error e) s') b) (notedBy (model prog w) A env λe s'=>R (.error e) s') p) (notedBy (model prog w) A env λe s'=>R (.error e) s') s₁) (notedBy (model prog w) A env λe s'=>R (.error e) s') s)
  (n:Nat) (h:I n s) :
  codeAny (model prog w) A (.compLoop (.ListComp elt [⟨target,iter,ifs,0⟩] scope pos) 0 it acc env) R s:=by
 refine codeAny_loop Z I (λn s t=>?_) n h;show wpAny _ A ((compTurn (.ListComp elt [⟨target,iter,ifs,0⟩] scope pos) 0 it acc env).onRaise (λx=>do noteFrame x env;theTreesLotGoes x)) _ _ s;refine wpAny_noted ?_;rw[compTurn_list];refine zA (wpAny_standAt (zA (zT (j n s t) (λr s₁ h₁=>?_) λ_ _ h'=>h')));cases r with
 | none=>exact zE h₁
 | some v =>
  refine zA (zT h₁ (λ_ p h₁=>?_) λ_ _ h'=>h');refine zA (zT h₁ (λ_ b o=>zA (zT o (λok a i=>?_) λ_ _ h'=>h')) λ_ _ h'=>h');cases ok with
  | false=>exact zE ⟨Z,i⟩
  | true =>
   exact zA (zA (zT i (λx f q=>zA (zT q (λ_ d l=>zE (zE ⟨Z,l⟩)) λ_ _ h'=>h')) λ_ _ h'=>h'))
def Ade:TT:=λ_ H Q=>Q true H
inductive PIf (X:Cx):List Expr->TT->Prop where
 | nil:PIf X [] Ade
 | one {c:Expr} {t:TT} (h:PT X c t):PIf X [c] t
theorem PIf.run(h:PIf X ifs t){Q:Bool->Hp->Prop}(I:Inv X pins σ H s)(a:t σ H Q) :
  wpAny (model X.prog X.w) X.A (forIn ifs true λc r=>if r=true then do let ok <- isTrue c X.env (eval c X.env);pure (ForInStep.yield ok) else pure (ForInStep.yield r)) (TP X pins σ Q) X.xe s:=by
 cases h with
 | nil=>exact wpAny_tests_nil ⟨H,I,a⟩
 | one h=>exact wpAny_tests_one (h pins s σ H Q I a)
def R9 (Bv:NI)(tc:TT)(te:TE)(J:It)(σ:St)(H:Hp)(Q:VK):Prop :=
 ∃ W:Nat->Nat->Na->Hp->Prop,(∃ m,W 0 m [] H)/\∀ i m ys H,W i m ys H ->
  (J.stop i H/\ys.length<=sizeLine/\∀ p,H p=none->Q (.ref p) (upd H p (.lst ys))) \/
  (J.go i H/\ys.length<sizeLine/\∀ x H',J.yld i H x H'->tc (some x::Li σ Bv) H' λb H2 =>
   if b=true then te (some x::Li σ Bv) H2 λy H3=>∃ m',m'<m/\W (i+1) m' (ys++[y]) H3 else ∃ m',m'<m/\W (i+1) m' ys H2)
abbrev AmE (Bv:NI)(tc:TT)(te:TE)(σ:St)(Q:VK)(J:It)(H1:Hp):Prop:=R9 Bv tc te J σ H1 Q
def Ahm (wi:TI)(Bv:NI)(tc:TT)(te:TE)(σ:St)(H:Hp)(Q:VK):Prop:=wi σ H (AmE Bv tc te σ Q)
theorem Un.track{fs:NU}(u:Un fs ex H H' h h')(f:h.objs.size<=a)(hn:H' a=none):Un fs ex H (upd H' a o) h h' where
 keep:=u.keep
 slot:=u.slot
 free:=λb c q n d=>by rw[Aj (AtU (Aua (Heap.lt_size q) f))];exact u.free b c q n d
 there:=u.there
 tups:=λb xs q=>by rw[Aj (Bb (u.tups b xs q) hn)];exact u.tups b xs q
 JT:=λb c xs q=>by rw[Aj (Bb (u.JT b c xs q) hn)];exact u.JT b c xs q
 Nq:=λb ps q=>by
  obtain⟨m,e⟩:=u.Nq b ps q;exact⟨m,by rw[Aj (Bb e hn)];exact e⟩
theorem HOk.track(x:HOk P w H h)(hn:H a=none)(new:Ei P w (upd H a o) h a o):HOk P w (upd H a o) h:=λb u e=>by
 by_cases d:b=a
 ·subst d;rw[Ae] at e;cases e;exact new
 ·rw[Aj d] at e;exact(x b u e).stay (λc v _ q=>q) (λc q=>by rw[Aj (Bb q hn)];exact q) λc xs q=>by rw[Aj (Bb q hn)];exact q
structure AmF (X:Cx)(fn:Str->Bool)(scope:Scope)(cs:List (Str × Addr))(C n:Nat):Prop where
 old:∀ y c,cs.lookup y=some c->X.env.cells.lookup y=some c\/n<c/\c≠C
 cab:∀ y c,fn y=true->cs.lookup y=some c->n<=c
 inj:∀ a b c,cs.lookup a=some c->cs.lookup b=some c->n<=c->a=b
 has:∀ y,(y,NameKind.cell)∈scope.names->∃ c,cs.lookup y=some c
 fr:∀ y,(y,NameKind.free)∈scope.names->cs.lookup y=X.env.cells.lookup y
structure ZJ (X:Cx)(q:Nat)(Nc:NX)(Bv:NI)(scope:Scope):Prop where
 kind:scope.kind=.function
 names:∀ y∈scope.names,y.2=.local->scope.names.lookup y.1=some .local
 fr:∀ y∈scope.names,y.2=.free->X.env.scope.names.lookup y.1=some .cell/\scope.names.lookup y.1=some .free
 len:Nc.length=Bv.length+q
 cap:∀ k j,Bv[k]?=some j->∃ y,Nc[k+q]?=some y/\X.N[j]?=some y/\scope.names.lookup y=some .free
theorem Inv.clt(I:Inv X pins σ H s)(h:X.env.cells.lookup y=some c):c<s.heap.objs.size:=by obtain⟨v,q⟩:=I.cell y c h;exact q.lt
theorem AmG{cs:List (Str × Addr)}(I:Inv X pins σ H s)(O:ZJ X q Nc Bv scope)
  (G:AmF X fn scope cs C s.heap.objs.size) (p:s.heap.objs.size<=C) (d:∀ b∈fp,NK X pins H b) (l:∀ b∈fp,b<s.heap.objs.size):(cxG X fn Nc scope cs C fp s H ye).Ok where
 mod:=I.ok.mod
 kind:=O.kind
 glob:=I.ok.glob
 blt:=I.ok.blt
 above:=p
 inj:=λa b c e1 e2=>by
  rcases G.old a c e1 with z | z
  ·rcases G.old b c e2 with j | j
   ·exact I.ok.inj a b c z j
   ·exact G.inj a b c e1 e2 (Auu j.1)
  ·exact G.inj a b c e1 e2 (Auu z.1)
 has:=λy t=>by
  obtain⟨k,u,hk⟩:∃ k,(y,k)∈(relabel scope X.env).names/\(k=.cell\/k=.free):=t.elim (λh=>⟨_,zW h,.inl Z⟩) λh=>⟨_,zW h,.inr Z⟩;obtain⟨⟨n,r⟩,i,e⟩:=yC.mp u;have m:r=.free->n=y->∃ c,cs.lookup y=some c:=λz j=>by
   subst z j;rw[G.fr _ i];exact I.ok.has _ (.inl (O.fr _ i Z).1)
  dsimp only at e;split at e
  ·injection e with e1 _;refine m ?_ e1;simp_all
  ·injection e with e1 e2;subst e1 e2;rcases hk with rfl | rfl
   ·exact G.has _ i
   ·exact m Z rfl
 cab:=λy c z e=>G.cab y c z e
 hd:=I.ok.hd
 frames:=I.ok.frames
 stk:=.inl Z
 exf:=λb f=>⟨AtU (Aua (l b f) p),λy c e=>(G.old y c e).elim (λz=>(d b f).2.2.2.2.1 y c z) λz=>AuD (Avn (l b f) z.1)⟩
 bs:=I.bs
 bsz:=AtW I.ok.bsz I.sz
 Aib:=λb o e f=>by
  rcases(d b f).2.2.2.1 with z | z
  ·exact I.ok.Aib b o e z
  ·exact absurd (Aua (Heap.lt_size e) (AtW I.ok.bsz z)) (Au7 _)
 Aic:=λb f z=>(yD.mp (I.Age b z)).elim (d b f).2.1 (d b f).2.2.1
 V9:=I.stack
 frf:=I.AcS
theorem AjK(σ:St)(Bv:NI):(Li σ Bv).length=Bv.length:=by unfold Li;rw[AtG]
theorem AjL{k:Nat}{v:V}(e:(Li σ Bv)[k]?=some (some v)):∃ j,Bv[k]?=some j/\σ[j]?=some (some v):=by
 unfold Li at e;rw[AtQ] at e;cases hk:Bv[k]? with
 | none=>simp_all
 | some j =>
  rw[hk] at e;have a:(σ[j]?).join=some v:=Option.some.inj e;refine⟨j,Z,?_⟩;cases b:σ[j]? with
  | none=>rw[b] at a;cases a
  | some o=>rw[b] at a;rw[show o=some v from a]
theorem Un.but{fs:NU}{h1 h2:Heap}(u:Un fs ex H H' h h1)(c:Heap.SameBut C h1 h2)(f:h.objs.size<=C):Un fs ex H H' h h2 where
 keep:=λb o q n d a=>(c.2 b (AtU (Aua (Heap.lt_size q) f))).trans (u.keep b o q n d a)
 slot:=λb o q n d a=>by
  obtain⟨i,e⟩:=u.slot b o q n d a;exact⟨i,(c.2 b (AtU (Aua (Heap.lt_size q) f))).trans e⟩
 free:=u.free
 there:=λb o q a=>by
  obtain⟨o',e⟩:=u.there b o q a;exact⟨o',(c.2 b (AtU (Aua (Heap.lt_size q) f))).trans e⟩
 tups:=u.tups
 JT:=u.JT
 Nq:=u.Nq
theorem Ags{cs:List (Str × Addr)}(I:Inv X pins σ H s)(O:ZJ X q Nc Bv scope)
  (G:AmF X fn scope cs C s.heap.objs.size) (E:s.heap.objs.size<=C) (n:∀ b∈fp,NK X pins H b) (w:∀ b∈fp,b<s.heap.objs.size)
  (a:∀ b o,s.heap.get? b=some o->h'.get? b=some o) (t:h'.Ns C m0) (D:∀ y c,cs.lookup y=some c->s.heap.objs.size<c->∃ v,h'.IsCell c v) :
  Inv (cxG X fn Nc scope cs C fp s H ye) [] (List.replicate q none++Li σ Bv) H { s with heap:=h',toks:=tk } where
 ok:=AmG I O G E n w
 os:=rfl
 bare:=I.bare
 base:=Un.kept a
 loc:=by
  refine⟨m0,t,λi y v J d P=>?_⟩;rw[Av6,Au8] at d;split at d
  ·simp_all
  ·obtain⟨j,F,K⟩:=AjL d;obtain⟨z,f,x,h⟩:=O.cap _ j F;rw[Nat.sub_add_cancel (by omega)] at f;cases f.symm.trans (J);have mem:=zW h;have hk:=(O.fr _ mem Z).1;obtain⟨m,hn,N⟩:=I.loc;obtain⟨u,r,l⟩:=N j y v x K (.inr (.inl hk));refine⟨u,r,?_⟩;rcases l with ⟨M,_⟩ | ⟨_,c,hc,o,B,A⟩
   ·cases hk.symm.trans (M)
   ·exact .inr ⟨.inl (HH I.ok.kind h hk),c,(G.fr y mem).trans hc,o,a _ _ B,A⟩
 cell:=λy c e=>by
  rcases G.old y c e with z | z
  ·obtain⟨v,o,B,A⟩:=I.cell y c z;exact⟨v,o,a _ _ B,A⟩
  ·exact D y c e z.1
 free:=I.hok.fresh E
 Mr:=λy c e=>(G.old y c e).elim (I.Mr y c) λz=>I.hok.fresh (Auu z.1)
 pin:=λp L=>absurd (show p∈([]:NO) from L) (by simp)
 hok:=I.hok.kept a
 len:=by
  show(List.replicate q none++Li σ Bv).length=Nc.length;rw[AtI,Au8,AjK,O.len,Nat.add_comm]
abbrev RB (us:NW)(n:Nat):Obj:={ cls:=.type "list", data:=.seq us.toArray n }
theorem Zj{sc0:Scope}(h:X.env.scope=sc0)(a:∀ y∈scope.names,y.2=.free->sc0.names.lookup y.1=some .cell/\scope.names.lookup y.1=some .free) :
  ∀ y∈scope.names,y.2=.free->X.env.scope.names.lookup y.1=some .cell/\scope.names.lookup y.1=some .free:=by
 rw[h];exact a
def Adf (g:TG)(q:Nat)(Bv:NI)(tc:TT)(te:TE)(J:It)(σ:St)(H:Hp)(Q:VK):Prop :=
 ∃ W:Nat->Nat->Na->Hp->Prop,(∃ m,W 0 m [] H)/\∀ i m ys H,W i m ys H ->
  (J.stop i H/\ys.length<=sizeLine/\∀ p,H p=none->Q (.ref p) (upd H p (.lst ys))) \/
  (J.go i H/\ys.length<sizeLine/\∀ x H',J.yld i H x H'->∀ os:St,os.length=q->g x (os++Li σ Bv) H' λσ2 H2=>∃ os':St,os'.length=q/\σ2=os'++Li σ Bv/\tc σ2 H2 λb H2 =>
   if b=true then te σ2 H2 λy H3=>∃ m',m'<m/\W (i+1) m' (ys++[y]) H3 else ∃ m',m'<m/\W (i+1) m' ys H2)
theorem Ahn{g:TG}{cs:List (Str × Addr)}{it D:Addr}{tn:Nat->Heap->Prop}
   (O:ZJ X q Nc Bv scope) (hc:X.calm=true) (G:AmF X fn scope cs C s.heap.objs.size)
  (al:PG (cxG X fn Nc scope cs C fp s H ye) target g) (hte:PE (cxG X fn Nc scope cs C fp s H ye) elt te) (htc:PIf (cxG X fn Nc scope cs C fp s H ye) ifs tc)
  (I:Inv X pins σ H s) (T:Turn X.prog X.w X.K target J fp it tn) (st:tn 0 s.heap) (M:∀ b∈fp,NK X pins H b) (h:Adf g q Bv tc te J σ H Q)
  (f:s.heap.objs.size=D) (DC:D<C) (af:∀ b o,s.heap.get? b=some o->h₁.get? b=some o) (ab:h₁.get? D=some (RB [] 0)) (as:h₁.Ns C m0) (aq:∀ y c,cs.lookup y=some c->s.heap.objs.size<c->∃ v,h₁.IsCell c v)
  (ao:∀(s':Shared)(m:Str->NY),s'.heap.Ns C m->(∀ h',Heap.SameBut C s'.heap h'->∃ H',Inv X pins σ H' { s' with heap:=h' }/\H' C=none/\Q (.ref D) H')->R (.ok .next) s')
  (a0:∀ e s',ye e s'->notedBy (model X.prog X.w) X.A (compEnvC scope cs C X.env) (λe s''=>R (.error e) s'') e s') :
  codeAny (model X.prog X.w) X.A (.compStart (.ListComp elt [⟨target,iter,ifs,0⟩] scope pos) 0 (.ref it) (.ref D) (compEnvC scope cs C X.env)) R { s with heap:=h₁,toks:=tk }:=by
 have t:∀ b∈fp,b<D:=λb a=>by
  obtain⟨o,e,_⟩:=T.obj _ _ st b a;exact f▸Heap.lt_size e
 have ag:=T.keep _ _ _ st λb _ o e=>af b o e;have sC:=f▸Auu DC;have l:=AtU DC;generalize hY:cxG X fn Nc scope cs C fp s H ye=Y at *;have I0:Inv Y [] (List.replicate q none++Li σ Bv) H { s with heap:=h₁,toks:=tk }:=hY▸Ags I O G sC M (λb a=>f▸t b a) af as aq;have ar:=I.hok.fresh (AuE f);have aj:D∉Y.fs:=λz=>by
  obtain⟨_,o,e,_⟩:=I.stack.mem (by rw[<- hY] at z;exact z);exact absurd (Heap.lt_size e) (by rw[f];exact Au7 _)
 have ap:∀ y c,Y.env.cells.lookup y=some c->c≠D:=λy c e=>by
  rw[<- hY] at e;exact(G.old y c e).elim (λz=>AtU (f▸I.clt z)) λz=>AuD (f▸z.1)
 have YC:Y.env.locals=C:=by rw[<- hY];rfl
 have U:∀{H':Hp} {u:Obj},(∀ b∈fp,H' b=none)->∀ b∈fp,NK Y [(D,u)] H' b:=λ{H' u} hn b a=>by
  have ex:b∈Y.ex:=by rw[<- hY];exact a
  refine⟨hn b a,by rw[YC];exact AtU (Avn (t b a) DC),I0.ok.Aic b ex,.inl ex,(I0.ok.exf b ex).2,λp j=>?_⟩;have e:=zF.mp (by rw[<- hY] at j;exact j);rw[e];exact AuD (t b a)
 obtain⟨W,⟨ak,w0⟩,ai⟩:=h;have B:codeAny (model X.prog X.w) X.A (.compLoop (.ListComp elt [⟨target,iter,ifs,0⟩] scope pos) 0 (.ref it) (.ref D) (compEnvC scope cs C X.env)) R { s with heap:=h₁,toks:=tk }:=by
  refine Adc (λn s'=>∃(i:Nat)(os:St)(H':Hp)(ys:Na)(us:NW)(k:Nat),os.length=q/\Inv Y [] (os++Li σ Bv) H' s'/\tn i s'.heap/\(∀ b∈fp,H' b=none)/\s'.heap.get? D=some (RB us k)/\H' D=none/\Vals ys us/\W i n ys H')
   ?_ ak ⟨0,_,H,[],[],0,Au8,I0,ag,λb a=>(M b a).1,ab,ar,.nil,w0⟩;rintro n s3 ⟨i,o3,S,ys,us,k,ol,I3,ah,ae,am,an,rv,w3⟩;have IP:Inv Y [(D,RB us k)] (o3++Li σ Bv) S s3:=I3.HR λp j=>by
   cases zF.mp j;exact⟨am,an,YC▸l,aj,λv z=>by cases z⟩
  have a6:∀{σ':St} {H':Hp} {s':Shared} {pl:NO},Inv Y ([(D,RB us k)]++pl) σ' H' s'->s'.heap.get? D=some (RB us k)/\H' D=none:=λI'=>by
   have z:=I'.pin (D,RB us k) (Auo _ (AuQ _ AtJ));exact⟨z.1,z.2.1⟩
  subst hY;rcases ai i n ys S w3 with ⟨aa,E,fin⟩ | ⟨go,E,step⟩
  ·
   refine zT (T.done (cxG X fn Nc scope cs C fp s H ye) Z rfl Z hc i _ s3 _ S (λ_ _=>False) IP (U ae) ah aa) (λr s4 hr=>?_) λ_ _ z=>z.elim;obtain⟨rfl,L⟩:=hr;obtain⟨gD,x⟩:=a6 (by simpa using L);obtain⟨m,hn,_⟩:=L.loc;refine ao s4 m hn λh' N=>⟨upd S D (.lst ys),?_,(Aj (Ne.symm l)).trans L.free,fin D x⟩;have nt:∀ b u,S b=some u->b≠C:=λb u e z=>by
    subst z;cases e.symm.trans L.free
   have au:HOk X.prog X.w S h':=λb u e=>(L.hok b u e).stay (λc v hc q=>(N.2 c (hc.elim (λz=>z▸nt b u e) λz=>nt c _ z)).trans q) (λ_ q=>q) λ_ _ q=>q;exact I.call' L.os ((Un.but L.base N sC).track (AuE f) x) (au.track x ⟨E,us,k,rv,(N.2 D l).trans gD⟩) L.bare λb a=>by
    obtain⟨_,g1,_,g3,g4,g5⟩:=M b a;exact⟨g3,g1,g4,g5⟩
  ·
   refine zT (T.item (cxG X fn Nc scope cs C fp s H ye) Z rfl Z hc i _ s3 _ S (λ_ _=>False) IP (U ae) ah go) (λr s4 hr=>?_) λ_ _ z=>z.elim;obtain⟨u0,rfl,h4⟩:=hr;refine zT h4 (λ_ s5 h5=>?_) λ_ _ z=>z.elim;obtain⟨x5,H5,I5,r5,y5,P,av⟩:=h5;refine zT (al _ s5 _ H5 x5 u0 _ (I5.pinned (U av) (T.obj _ _ P)) r5 (step x5 _ y5 o3 ol)) (λ_ s6 h6=>?_) a0;obtain⟨aw,H6,I6,o6,l6,rfl,q6⟩:=h6;refine zT (htc.run I6 q6) (λb s7 h7=>?_) a0;obtain⟨H7,I7,q7⟩:=h7;have ac:∀{σ':St} {H':Hp} {s':Shared},Inv (cxG X fn Nc scope cs C fp s H ye) ([(D,RB us k)]++Z1 fp s5.heap) σ' H' s'->tn (i+1) s'.heap/\∀ b∈fp,H' b=none:=λI'=>by
    have p:=λ{b o} a e=>I'.pin (b,o) (Auo _ (Auo _ (Ry a e)));refine⟨T.keep _ _ _ P λb a o e=>(p a e).1,λb a=>?_⟩;obtain⟨o,e,d⟩:=T.obj _ _ P b a;exact(p a e).2.1
   cases b with
   | false =>
    obtain⟨m',hm,w7⟩:=(if_neg Aud).mp q7;obtain⟨gD,x⟩:=a6 I7;obtain⟨k1,k2⟩:=ac I7;exact⟨m',hm,i+1,o6,H7,ys,us,k,l6,I7.HR (λp j=>nomatch j),k1,k2,gD,x,rv,w7⟩
   | true =>
    refine zT (hte _ s7 _ H7 _ I7 q7) (λu8 s8 h8=>?_) a0;obtain⟨y8,H8,I8,r8,m',hm,w8⟩:=h8;obtain⟨gD,x⟩:=a6 I8;obtain⟨k1,k2⟩:=ac I8;refine call_meets zL ⟨_,gD,Z⟩ F.entry_list_append (F.args_list_append_2 _ _) (PySem.list_append D us.toArray k u8 (by rw[Aub,<- rv.length];lia)) ⟨gD,?_⟩;have q:=PySem.IsL.update gD (·.push u8);rw[List.push_toArray] at q;have keep:=λb (a:b≠D)=>zH s8.heap (Obj.mapSeq (·.push u8)) (Ne.symm a);exact⟨m',hm,i+1,o6,H8,ys++[y8],us++[u8],_,l6,(I8.HR (Ajw:=[]) (λp j=>nomatch j)).turned (λb o a e=>(keep b a).trans e) x l (.inr (AuE f)) ap (λp j=>nomatch j),T.keep _ _ _ k1 λb a o e=>(keep b (AtU (t b a))).trans e,k2,q,x,rv.append (.cons r8 .nil),w8⟩
 exact codeAny_compStart_list B (T.self X.A 0 _ _ _ ag B)
def Blk (X:Cx)(target iter elt:Expr)(ifs:List Expr)(scope:Scope)(pos:Pos)(Er:Addr->Value->Shared->Prop)(tW:It->St->Hp->VK->Prop):Prop :=
 ∀{cl:List (Str × Addr)} {pins:NO} {σ:St} {H:Hp} {s:Shared} {J:It} {fp:NU} {it:Addr} {tn:Nat->Heap->Prop} {Q:VK} {RR:Value->Addr->Option Addr->Result->Shared->Prop} {E:NR},
  (∀ x c,cl.lookup x=some c->X.env.cells.lookup x=some c/\(x,NameKind.free)∈scope.names)->(∀ x,(x,NameKind.free)∈scope.names->cl.lookup x=X.env.cells.lookup x) ->
  Inv X pins σ H s->Turn X.prog X.w X.K target J fp it tn->tn 0 s.heap->(∀ b∈fp,NK X pins H b)->tW J σ H Q ->
  (∀(D C:Addr)(s':Shared)(m:Str->NY),s'.heap.Ns C m->(∀ h',Heap.SameBut C s'.heap h'->∃ H',Inv X pins σ H' { s' with heap:=h' }/\H' C=none/\Q (.ref D) H')->s.heap.objs.size<=C->RR (.ref D) C X.env.frame (.ok .next) s') ->
  (∀(D C:Addr)(e:Value)(s':Shared),Er C e s'->RR (.ref D) C X.env.frame (.error e) s') ->
  wpAny (model X.prog X.w) X.A (newList []) (λacc s₃=>wpAny (model X.prog X.w) X.A (newFunctionEnv scope X.env.globals cl [] X.env.qual none .none (some X.env)) (λcenv s₄ =>
   codeAny (model X.prog X.w) X.A (.compStart (.ListComp elt [⟨target,iter,ifs,0⟩] scope pos) 0 (.ref it) acc { cenv with scope:=relabel scope X.env }) (RR acc cenv.locals cenv.frame) s₄) E s₃) E s
theorem Arm{g:TG}(ye:Addr->NU->Shared->Hp->Value->Shared->Prop)
  (O:ZJ X q Nc Bv scope) (d:∀ y∈scope.names,y.2≠.cell) (hc:X.calm=true) (t:X.env.scope.kind=.function->∀ cl C fp s H,PG (cxG X (λ_=>false) Nc scope cl C fp s H (ye C fp s H)) target g)
  (htc:∀ cl C fp s H,PIf (cxG X (λ_=>false) Nc scope cl C fp s H (ye C fp s H)) ifs tc) (hte:∀ cl C fp s H,PE (cxG X (λ_=>false) Nc scope cl C fp s H (ye C fp s H)) elt te)
  (p:∀{pins σ H s fp C cenv} {R:NR},Inv X pins σ H s->(∀ b∈fp,NK X pins H b)->s.heap.objs.size<=C->cenv.frame=X.env.frame->(∀ e s',Er C e s'->R e s')->∀ e s',ye C fp s H e s'->notedBy (model X.prog X.w) X.A cenv R e s') :
  Blk X target iter elt ifs scope pos Er (Adf g q Bv tc te):=by
 intro cl pins σ H s J fp it x Q RR E f n I T st i h u v;refine yF (wpAny_newFunctionEnv d (by intro y r;simp at r) (λh₁ l j=>?_) O.kind);have lt:s.heap.objs.size<(s.heap.push (RB [] 0)).objs.size:=by simp_all
 have G:AmF X (λ_=>false) scope cl (s.heap.push (RB [] 0)).objs.size s.heap.objs.size:=⟨λy c e=>.inl (f y c e).1,λ_ _ z=>absurd z Aud,λa b c e _ z=>absurd (I.clt (f a c e).1) (Nat.not_lt.mpr z),λy r=>absurd Z (d _ r),n⟩;refine Ahn (s:=s) O hc G (t I.ok.kind _ _ _ _ _) (hte _ _ _ _ _) (htc _ _ _ _ _) I T st i h Z lt (λb o e=>j.extBut b o (AtU (Avn (Heap.lt_size e) lt)) (zB _ (zB _ e)))
  (j.extBut _ _ (AtU lt) (zB _ (zD _ Z))) l (λy c e z=>absurd (I.clt (f y c e).1) (Nat.not_lt.mpr (Auu z)))
  (λs' m hn k=>u _ _ s' m hn k (Auu lt)) (p I i (Auu lt) Z λe s'=>v _ _ e s')
section
variable  (hk:scope.kind=.function) (hn:∀ y∈scope.names,y.2=.local->scope.names.lookup y.1=some .local)
 (hfr:∀ y∈scope.names,y.2=.free->X.env.scope.names.lookup y.1=some .cell/\scope.names.lookup y.1=some .free) (hi:PI X target iter wi)
theorem Agt{D:Addr}{Dn:Ends}(F:X.N.Nodup)(x:X.N[i]?=some y)(n:X.env.scope.names.lookup y=some .local)(h:Inv X pins σ H s)(hn:s'.heap.Ns C m)
  (B:∀ h',Heap.SameBut C s'.heap h'->∃ H',Inv X pins σ H' { s' with heap:=h' }/\H' C=none/\JW i (.ref D) σ H' λσ' H''=>Dn.nx σ' H'') (j:s.heap.objs.size<=C) :
  wpAny (model X.prog X.w) X.A (assign (.Name y py) X.env (.ref D)) (λ_ s''=>∃ m,s''.heap.Ns C m/\∀ h',Heap.SameBut C s''.heap h'->SP X pins Dn .next { s'' with heap:=h' }) X.xe s':=by
 obtain⟨H',I,K,q⟩:=B s'.heap (.refl ..);have r:=AuD (Aua h.lt j);have f:∀ y c,X.env.cells.lookup y=some c->c≠C:=λy c e=>AtU (Aua (h.clt e) j);refine wpAny_assign_Name (AbQ (I) F x (.inl n) (show RelV (.ref D) (.ref D) from Z) (λL E d=>?_) (.inr n));obtain⟨a,d,v⟩:=d;have t:=v.elim (λz=>z▸r) λz=>Ne.symm (f _ _ z);exact⟨m,hn.sameBut d t,λh4 l=>⟨_,H',E.turned (λb o u e=>(l.2 b u).trans e) K r (.inr (AtW h.sz j)) f (λp J z=>absurd (Aua (Heap.lt_size (h.pin p J).1) j) (by rw[z];exact Au7 _)),q⟩⟩
include hk hn hfr hi in
theorem AjM(B:Blk X target iter elt ifs scope pos (λ_ _ _=>False) tW)(i:∀ x,foldedSetIterable iter X.env x=pure x) :
  PE X (.ListComp elt [⟨target,iter,ifs,0⟩] scope pos) (λσ H Q=>wi σ H λJ H1=>tW J σ H1 Q):=by
 intro pins s σ H Q I h;rw[eval_ListComp];obtain⟨cl,e1,e2,e3⟩:=ZG (scope:=scope) (env:=X.env) λy n j=>I.ok.has y.1 (.inl (hfr y n j).1);refine wpAny_comprehension_free (use:=none) Z i e1 hk hn (thn (hi pins s σ H _ I h) λv s1 h1=>thn h1 λo p ⟨it,fp,r,J,H2,e,f,T,b,f2,l⟩=>?_);subst e;exact B (RR:=λacc C _=>compPost (model X.prog X.w) X.A X.xe none (EP X pins σ Q) acc C) e2 e3 f T b f2 l (λD C s' m hn c t=>⟨m,hn,λh' a=>by
  obtain⟨H',d,_,q⟩:=c h' a;exact⟨.ref D,H',d,Z,q⟩⟩) λ_ _ _ _ z=>z.elim
include hk hn hfr hi in
theorem Agu(B:Blk X target iter elt ifs scope pos (λ_ _ _=>False) tW)(j:X.N.Nodup)(d:X.N[i]?=some y)(p:X.env.scope.names.lookup y=some .local)
  (b:swapsWith (.ListComp elt [⟨target,iter,ifs,0⟩] scope pos) (some (.Name y py)) spos.line X.env=pure true) (l:∀ x,foldedSetIterable iter X.env x=pure x) :
  PS X (.Assign [.Name y py] (.ListComp elt [⟨target,iter,ifs,0⟩] scope pos) spos) (Agh (λσ H Q=>wi σ H λJ H1=>tW J σ H1 Q) (JW i)):=by
 intro pins s σ H Dn I h;rw[exec_Assign_Name_used _ _ _ _ b];refine zA (wpAny_standAt (zA ?_));obtain⟨cl,e1,e2,e3⟩:=ZG (scope:=scope) (env:=X.env) λy d n=>I.ok.has y.1 (.inl (hfr y d n).1);show wpAny _ X.A (do let _ <- comprehension (.ListComp elt [⟨target,iter,ifs,0⟩] scope pos) scope X.env _ (newList []) false (eval iter X.env) (some (assign (.Name y py) X.env))) _ _ s;refine zA (zT (wpAny_comprehension_free (use:=some (assign (.Name y py) X.env)) (Q:=λ_ s'=>SP X pins Dn .next s') Z l e1 hk hn
  (thn (hi pins s σ H _ I h) λv s1 h1=>thn h1 λq t ⟨it,fp,u,J,H2,e,f,T,c,f2,o⟩=>?_)) (λ_ s' a=>zE (zE a)) λ_ _ e=>e);subst e;exact B (RR:=λacc C _=>compPost (model X.prog X.w) X.A X.xe (some (assign (.Name y py) X.env)) (λ_ s'=>SP X pins Dn .next s') acc C) e2 e3 f T c f2 o (λD C s' m hn a r=>Agt j d p f hn a r) λ_ _ _ _ z=>z.elim
end
theorem R8.g(O:R8 X x Nc Bv scope):ZJ X 1 Nc Bv scope:=⟨O.kind,O.names,O.fr,O.len,O.cap⟩
theorem Blk.imp(B:Blk X target iter elt ifs scope pos Er tV)(h:∀{J σ H Q},tW J σ H Q->tV J σ H Q):Blk X target iter elt ifs scope pos Er tW :=
 λa b c d e f w=>B a b c d e f (h w)
theorem Aop(h:R9 Bv tc te J σ H Q):Adf (JW 0) 1 Bv tc te J σ H Q:=by
 obtain⟨W,b,a⟩:=h;refine⟨W,b,λi m ys H w=>(a i m ys H w).imp id λ⟨g,l,k⟩=>⟨g,l,λx H' y os c=>?_⟩⟩
 match os,c with
 | [o],_=>exact⟨[some x],Z,Z,k x H' y⟩
theorem Agv{cs:List (Str × Addr)}(hk:X.env.scope.kind=.function)(b:Nc.Nodup)(hi:Nc[i]?=some x)(a:scope.names.lookup x=some .local) :
  PG (cxG X fn Nc scope cs C fp s H ye) (.Name x px) (JW i):=Bp b hi (.inl (Gi hk a nofun)) (.inr (Gi hk a nofun))
section
variable  (O:R8 X x Nc Bv scope) (hc:X.calm=true) (hi:PI X (.Name x px) iter wi)
 (htc:∀ cl C fp s H,PIf (JG X Nc scope cl C fp s H) ifs tc) (hte:∀ cl C fp s H,PE (JG X Nc scope cl C fp s H) elt te)
include O hc htc hte in
theorem Arn:Blk X (.Name x px) iter elt ifs scope pos (λ_ _ _=>False) (R9 Bv tc te) :=
 Blk.imp (Arm (λ_ _ _ _ _ _=>False) O.g O.cell hc (λk _ _ _ _ _=>Agv k O.nd O.hd O.loc) htc hte λ_ _ _ _ _ _ _ z=>z.elim) Aop
include O hc hi htc hte in
theorem Cg(a:∀ x,foldedSetIterable iter X.env x=pure x:=by intro _;rfl):PE X (.ListComp elt [⟨.Name x px,iter,ifs,0⟩] scope pos) (Ahm wi Bv tc te):=AjM O.kind O.names O.fr hi (Arn O hc htc hte) a
end
theorem Qn(O:R8 X x Nc Bv scope)(hc:X.calm=true)
  (b:X.N.Nodup) (e:X.N[i]?=some y) (d:X.env.scope.names.lookup y=some .local) (hi:PI X (.Name x px) iter wi)
  (htc:∀ cl C fp s H,PIf (JG X Nc scope cl C fp s H) ifs tc) (hte:∀ cl C fp s H,PE (JG X Nc scope cl C fp s H) elt te)
  (a:swapsWith (.ListComp elt [⟨.Name x px,iter,ifs,0⟩] scope pos) (some (.Name y py)) spos.line X.env=pure true) (c:∀ x,foldedSetIterable iter X.env x=pure x:=by intro _;rfl) :
  PS X (.Assign [.Name y py] (.ListComp elt [⟨.Name x px,iter,ifs,0⟩] scope pos) spos) (Agh (Ahm wi Bv tc te) (JW i)):=Agu O.kind O.names O.fr hi (Arn O hc htc hte) b e d a c
def Its (x:Str):It:=⟨λi _=>i<x.cps.size,λi H v H'=>H'=H/\∃ c,x.cps[i]?=some c/\v=.str ⟨#[c]⟩,λi _=>x.cps.size<=i⟩
theorem Aiq{K:NF}(it:Addr)(x:Str)(t:Tok):Turn P w K tg (Its x) [it] it (λi h=>i<=x.cps.size/\h.IsStrIter it "str_ascii_iterator" x t i) where
 mem:=by simp
 obj:=λi h st b a=>by
  have e:b=it:=by simpa using a
  subst e;obtain⟨_,o,e,c,d⟩:=st;exact⟨o,e,λv z=>by grind⟩
 keep:=λi h h' st k=>by
  obtain⟨m,o,e,c,d⟩:=st;exact⟨m,o,k it (by simp) o e,c,d⟩
 item:=by
  intro X q u p hc i pins s σ H E I l st f;obtain⟨m,st⟩:=st;have f:i<x.cps.size:=f;obtain⟨n,f1,f2,f3,f4,f5⟩:=l it (by simp);have r:x.cps[i]?=some x.cps[i]:=by simp
  refine wpAny_pyNext_ascii_item st r λh' j A=>?_;have y:Inv X pins σ H { s with heap:=h',toks:=s.toks+1 }:=I.turned (λb o a e=>(A.2 b a).trans e) n f1 f3 f4 f5;obtain⟨o,e,c,d⟩:=id j;exact⟨_,Z,Ahf e c d (by decide) ⟨.str ⟨#[x.cps[i]]⟩,H,y,⟨_,Z⟩,⟨Z,_,r,Z⟩,⟨f,j⟩,λb a=>(l b a).1⟩⟩
 done:=by
  intro X q u p hc i pins s σ H E I l st f;subst q u p;obtain⟨m,st⟩:=st;have f:x.cps.size<=i:=f;obtain⟨n,f1,f2,f3,f4,f5⟩:=l it (by simp);exact wpAny_pyNext_ascii_end (I.ok.hd hc) st (by simp;omega) λh' B=>⟨Z,I.turned (λb o a e=>B b o a e) n f1 f3 f4 f5⟩
 self:=λ_ _ _ _ _ st h=>wpAny_pyIter_striter_ascii st.2 h
theorem Air{K:NF}(it:Addr)(x:Str)(t:Tok):Turn P w K tg (Its x) [it] it (λi h=>i<=x.cps.size/\h.IsStrIter it "str_iterator" x t i) where
 mem:=by simp
 obj:=λi h st b a=>by
  have e:b=it:=by simpa using a
  subst e;obtain⟨_,o,e,c,d⟩:=st;exact⟨o,e,λv z=>by grind⟩
 keep:=λi h h' st k=>by
  obtain⟨m,o,e,c,d⟩:=st;exact⟨m,o,k it (by simp) o e,c,d⟩
 item:=by
  intro X q u p hc i pins s σ H E I l st f;obtain⟨m,st⟩:=st;have f:i<x.cps.size:=f;obtain⟨n,f1,f2,f3,f4,f5⟩:=l it (by simp);have r:x.cps[i]?=some x.cps[i]:=by simp
  refine wpAny_pyNext_wide_item st r λh' j A=>?_;have y:Inv X pins σ H { s with heap:=h',toks:=s.toks+1 }:=I.turned (λb o a e=>(A.2 b a).trans e) n f1 f3 f4 f5;obtain⟨o,e,c,d⟩:=id j;exact⟨_,Z,Ahf e c d (by decide) ⟨.str ⟨#[x.cps[i]]⟩,H,y,⟨_,Z⟩,⟨Z,_,r,Z⟩,⟨f,j⟩,λb a=>(l b a).1⟩⟩
 done:=by
  intro X q u p hc i pins s σ H E I l st f;subst q u p;obtain⟨m,st⟩:=st;have f:x.cps.size<=i:=f;obtain⟨n,f1,f2,f3,f4,f5⟩:=l it (by simp);exact wpAny_pyNext_wide_end (I.ok.hd hc) st (by simp;omega) λh' B=>⟨Z,I.turned (λb o a e=>B b o a e) n f1 f3 f4 f5⟩
 self:=λ_ _ _ _ _ st h=>wpAny_pyIter_striter_wide st.2 h
inductive Apw (R:(It->Hp->Prop))(x:V)(H1:Hp):Prop
|mk(z:_)(_:x=.str z)(_:R (Its z) H1)
def AsS (tl:TE)(σ:St)(H:Hp)(R:(It->Hp->Prop)):Prop:=tl σ H (Apw R)
theorem RC(f:PE X l tl):PI X tg l (AsS tl):=by
 intro pins s σ H R I h;refine thn (f pins s σ H _ I h) λv s1 ⟨x,H1,c,i,m⟩=>?_;obtain⟨z,e,q⟩:=m;subst e;obtain⟨t,rfl⟩:=i;have a:∀ b∈[s1.heap.objs.size],NK X pins H1 b:=λb j=>by
  have e:b=s1.heap.objs.size:=by simpa using j
  subst e;exact c.Aid (AtH _) (c.hok.fresh (AtH _))
 cases d:z.cps.all (·<128)
 ·refine wpAny_pyIter_wide d ?_;exact⟨s1.heap.objs.size,[s1.heap.objs.size],_,_,H1,Z,c.kept λb o e=>zB _ e,Air _ z t,⟨AtR _,_,zD _ Z,Z,Z⟩,a,q⟩
 ·refine wpAny_pyIter_ascii d ?_;exact⟨s1.heap.objs.size,[s1.heap.objs.size],_,_,H1,Z,c.kept λb o e=>zB _ e,Aiq _ z t,⟨AtR _,_,zD _ Z,Z,Z⟩,a,q⟩
theorem Adg{g:TG}{tb:TS}{D:Ends}(Pv:Nat->St->Hp->Prop)(f:Pv 0 σ H)
  (h:∀ i c σ H,z.cps[i]?=some c->Pv i σ H->g (.str ⟨#[c]⟩) σ H λa H2=>tb { D with nx:=Pv (i+1),ct:=Pv (i+1),bk:=D.nx } a H2) (j:∀ σ H,Pv z.cps.size σ H->D.nx σ H) :
  ∃ W:Nat->Nat->St->Hp->Prop,(∃ m,W 0 m σ H)/\∀ i m σ H,W i m σ H ->
   ((Its z).stop i H/\D.nx σ H)\/((Its z).go i H/\∃ N:St->Hp->Prop,(∀ σ' H',N σ' H'->∃ d,d<m/\W (i+1) d σ' H')/\∀ x H',(Its z).yld i H x H'->g x σ H' λa H2=>tb { D with nx:=N,ct:=N,bk:=D.nx } a H2):=by
 refine⟨λi m σ H=>m=z.cps.size-i/\i<=z.cps.size/\Pv i σ H,⟨z.cps.size,by simp,AtR _,f⟩,?_⟩;rintro i m σ H ⟨rfl,hi,p⟩;by_cases b:i<z.cps.size
 ·refine .inr ⟨b,Pv (i+1),λσ' H' l=>⟨z.cps.size-(i+1),by omega,Z,b,l⟩,λx H' y=>?_⟩;obtain⟨e,c,hc,rfl⟩:=y;subst e;exact h i c σ _ hc p
 ·have e:i=z.cps.size:=by lia
  subst e;exact .inl ⟨AtH _,j σ H p⟩
def CN (n:Nat)(Pv:Nat->Na->Hp->Prop)(i:Nat)(ys:Na)(H:Hp):Prop:=∃ m',m'<n-i/\m'=n-(i+1)/\i+1<=n/\Pv (i+1) ys H
theorem CN.of(h:i<n)(p:Pv (i+1) ys H):CN n Pv i ys H:=⟨n-(i+1),by lia,Z,h,p⟩
def Ms (n:Nat)(Pv:Nat->Na->Hp->Prop)(tc:TT)(te:TE)(σ:St)(i:Nat)(ys:Na)(H:Hp):Prop :=
 tc σ H λb H2=>if b=true then te σ H2 λy H3=>CN n Pv i (ys++[y]) H3 else CN n Pv i ys H2
theorem Ms.no(h:te σ H λy H3=>CN n Pv i (ys++[y]) H3):Ms n Pv Ade te σ i ys H:=by unfold Ms Ade;exact Aby h
theorem BV{K:NF}(Pv:Nat->Na->Hp->Prop)(d:Pv 0 [] H)(c:∀ i ys H,i<=xs.length->Pv i ys H->SqL K H a xs/\ys.length<=i)
  (o:xs.length<=sizeLine) (f:∀ i x ys H,i<xs.length->xs[i]?=some x->Pv i ys H->Ms xs.length Pv tc te (some x::Li σ Bv) i ys H)
  (j:∀ ys H p,Pv xs.length ys H->H p=none->Q (.ref p) (upd H p (.lst ys))):R9 Bv tc te (Itl K a) σ H Q:=by
 refine⟨λi m ys H=>m=xs.length-i/\i<=xs.length/\Pv i ys H,⟨xs.length,by simp,AtR _,d⟩,?_⟩;rintro i m ys H ⟨rfl,hi,p⟩;obtain⟨q,n⟩:=c i ys H hi p;by_cases b:i<xs.length
 ·refine .inr ⟨⟨xs,xs[i],q,by simp⟩,by lia,λx H' y=>?_⟩;obtain⟨e,y⟩:=y;subst e;exact f i x ys _ b (y xs q) p
 ·have e:i=xs.length:=by lia
  subst e;exact .inl ⟨⟨xs,q,AtH _⟩,by lia,λl h=>j ys H l p h⟩
theorem DR{lo:Int}(Pv:Nat->Na->Hp->Prop)(c:Pv 0 [] H)(b:∀ i ys H,i<=n->Pv i ys H->ys.length<=i)
  (o:n<=sizeLine) (d:∀ i ys H,i<n->Pv i ys H->Ms n Pv tc te (some (.int (lo+i))::Li σ Bv) i ys H)
  (h:∀ ys H p,Pv n ys H->H p=none->Q (.ref p) (upd H p (.lst ys))):R9 Bv tc te (Itr lo n) σ H Q:=by
 refine⟨λi m ys H=>m=n-i/\i<=n/\Pv i ys H,⟨n,by simp,AtR _,c⟩,?_⟩;rintro i m ys H ⟨rfl,hi,p⟩;have l:=b i ys H hi p;by_cases a:i<n
 ·refine .inr ⟨a,by lia,λx H' y=>?_⟩;obtain⟨e,y⟩:=y;subst e y;exact d i ys _ a p
 ·have e:i=n:=by lia
  subst e;exact .inl ⟨AtH _,by lia,λj f=>h ys H j p f⟩
theorem S9(Pv:Nat->Na->Hp->Prop)(d:Pv 0 [] H)(b:∀ i ys H,i<=z.cps.size->Pv i ys H->ys.length<=i)
  (o:z.cps.size<=sizeLine) (f:∀ i c ys H,i<z.cps.size->z.cps[i]?=some c->Pv i ys H->Ms z.cps.size Pv tc te (some (.str ⟨#[c]⟩)::Li σ Bv) i ys H)
  (j:∀ ys H p,Pv z.cps.size ys H->H p=none->Q (.ref p) (upd H p (.lst ys))):R9 Bv tc te (Its z) σ H Q:=by
 refine⟨λi m ys H=>m=z.cps.size-i/\i<=z.cps.size/\Pv i ys H,⟨z.cps.size,by simp,AtR _,d⟩,?_⟩;rintro i m ys H ⟨rfl,hi,p⟩;have n:=b i ys H hi p;by_cases a:i<z.cps.size
 ·refine .inr ⟨a,by lia,λx H' y=>?_⟩;obtain⟨e,c,hc,rfl⟩:=y;subst e;exact f i c ys _ a hc p
 ·have e:i=z.cps.size:=by lia
  subst e;exact .inl ⟨AtH _,by lia,λl h=>j ys H l p h⟩
theorem Agw{ys:NX}:∀{us:NW},Vals (ys.map V.str) us->StrsAre us ys:=by
 induction ys with
 | nil=>intro us r;cases r;exact .nil
 | cons n ns b =>
  intro us r;cases r with
  | cons a c =>
   obtain⟨t,e⟩:=a;subst e;exact .cons n t (b c)
inductive rJoin (K:NF)(x:V)(vs:Na)(H:Hp)(Q:VK):Prop
|mk(z:_)(a:_)(ys:_)(_:x=.str z)(_:vs=[.ref a])(_:SqL K H a (ys.map V.str))(_:(ys.map (·.length)).sum+ys.length*z.length<=16777216)(_:Q (.str (Txt.join z ys)) H)
theorem AmI:MtR X "str.join" (rJoin X.K):=by intro pins s σ H x vs v us Q I d e h;obtain⟨z,a,ys,rfl,rfl,c,f,q⟩:=h;obtain⟨t,rfl⟩:=d;obtain⟨u,rfl,b⟩:=e.one;cases b;obtain⟨its,r,pl,i⟩:=I.list c;exact join_list pl.isList (Agw (by simpa using r)) f λt' k=>⟨.str _,H,I.tok _,⟨_,Z⟩,q⟩
inductive Aro (K:NF)(vs:Na)(H:Hp)(Q:VK):Prop
|mk(x:_)(t:_)(b:_)(_:VG K H x t)(_:((∃ n,vs=[x,.ty n]/\W.kitOne K t (.type n)=some b)\/(∃ a,vs=[x,.ref a]/\W.kitOne K t (.ref a)=some b)))(_:Q (.bl b) H)
theorem AjN:Fz X (.builtin "isinstance") (Aro X.K):=by
 intro pins s σ H xs us Q I f h;obtain⟨x,t,b,ty,l,q⟩:=h;rcases l with ⟨n,rfl,e⟩ | ⟨a,rfl,e⟩
 ·obtain⟨i,j,rfl,c,d⟩:=f.two;cases d;exact AbR I c ty e λtk=>⟨.bl b,H,I.tok _,Z,q⟩
 ·obtain⟨i,j,rfl,c,d⟩:=f.two;cases d;exact AbR I c ty e λtk=>⟨.bl b,H,I.tok _,Z,q⟩
def eqL:Na->Na->Bool
 | [],[]=>true
 | x::xs,y::ys=>eqV x y && eqL xs ys
 | _,_=>false
theorem SJ{x:V}(h:Iw x=true):eqV x x=true:=by
 cases x with
 | non=>rfl
 | bl b=>simp[eqV]
 | int i=>simp[eqV]
 | str z=>simp[eqV]
 | _=>exact absurd (show false=true from h) Aud
theorem ZK:∀{xs:Na},xs.all Iw=true->eqL xs xs=true
 | [],_=>rfl
 | x::xs,h=>by
  rw[Av3,AuX] at h;rw[eqL,SJ h.1,ZK h.2];rfl
theorem Aho:∀{xs ys:Na},xs.length≠ys.length->eqL xs ys=false
 | [],[],h=>absurd Z h
 | [],_::_,_=>rfl
 | _::_,[],_=>rfl
 | x::xs,y::ys,h=>by
  rw[eqL,Aho (xs:=xs) (ys:=ys) (λz=>h (by rw[AtS,AtS,z])),Bool.and_false]
theorem AbW:∀{xs ys:Na},xs.length=ys.length->(List.range xs.length).all (λj=>eqV (xs.getD j .non) (ys.getD j .non))=eqL xs ys
 | [],[],_=>rfl
 | [],_::_,h=>by simp at h
 | _::_,[],h=>by simp at h
 | x::xs,y::ys,h=>by
  have h':xs.length=ys.length:=by simpa using h
  rw[AtS,List.range_succ_eq_map,Av3,List.all_map];rw[eqL,<- AbW h'];rfl
inductive Arp (K:NF)(x:V)(y:V)(H:Hp)(Q:VK):Prop
|mk(p:_)(q:_)(xs:_)(ys:_)(_:x=.ref p)(_:y=.ref q)(_:SqL K H p xs)(_:SqL K H q ys)(_:xs.all Iw=true)(_:ys.all Iw=true)(_:Q (.bl (eqL xs ys)) H)
theorem Apx(m:X.A.units<cLine):OpR X (compareOp .Eq) (Arp X.K):=by
 intro pins s σ H x y v u Q I F C h;obtain⟨p,q,xs,ys,rfl,rfl,D,E,B,t,k⟩:=h;cases F;cases C;obtain⟨its,r,pl,O⟩:=I.list D;obtain⟨a,o,b,w⟩:=I.list E;have L:=r.length;have N:=o.length;by_cases l:xs.length=ys.length
 ·refine SeqAt.eq_listAt (e:=λj=>eqV (xs.getD j .non) (ys.getD j .non)) pl.isList b.isList (by grind) m (λj h1 h2=>?_) ?_
  ·have n:j<xs.length:=by grind
   have c:j<ys.length:=by lia
   obtain⟨d,e1,M⟩:=r.get (i:=j) (x:=xs[j]) (by simp);obtain⟨f,e2,z⟩:=o.get (i:=j) (x:=ys[j]) (by simp);have J:its.toArray[j]=d:=by
    have:its.toArray[j]?=some d:=by simpa using e1
    exact Option.some.inj ((zP h1).symm.trans this)
   have g2:a.toArray[j]=f:=by
    have:a.toArray[j]?=some f:=by simpa using e2
    exact Option.some.inj ((zP h2).symm.trans this)
   rw[J,g2];have d1:xs.getD j .non=xs[j]:=by simp[List.getD,n]
   have d2:ys.getD j .non=ys[j]:=by simp[List.getD,c]
   rw[d1,d2];exact Agq M z (List.all_eq_true.mp B _ (AtT n)) (List.all_eq_true.mp t _ (AtT c))
  ·refine⟨.bl (eqL xs ys),H,I,?_,k⟩;show Value.bool _=Value.bool _;rw[Aub,<- L,AbW l]
 ·refine SeqAt.eq_list_lengthsAt pl.isList b.isList (by grind) m ?_;exact⟨.bl (eqL xs ys),H,I,by rw[Aho l];rfl,k⟩
open PySem
def tx (l:NI):Str:=⟨l.toArray⟩
theorem Al(l:NI):(tx l).length=l.length:=by simp[tx,Str.length]
theorem SM(l:NI):(tx l).cps.size=l.length:=by simp[tx]
theorem GR(l:NI):(tx l).cps.toList=l:=by simp[tx]
theorem Ob(l:NI)(i:Nat):(tx l).cps[i]?=l[i]?:=by simp[tx]
theorem Arq(z:Str):tx z.cps.toList=z:=by cases z;simp[tx]
theorem DW(a b:NI):tx a++tx b=tx (a++b):=by show Str.append (tx a) (tx b)=_;simp[tx,Str.append]
theorem I9{a b:NI}(h:tx a=tx b):a=b:=by
 have:=congrArg (λz:Str=>z.cps.toList) h
 simpa [tx] using this
theorem Lj(c:Nat):(⟨#[c]⟩:Str)=tx [c]:=rfl
theorem AbX:∀(ys:NN)(acc:Array Nat),(ys.map tx).foldl (λacc p=>acc++(tx []).cps++p.cps) acc=acc++ys.flatten.toArray
 | [],acc=>by simp
 | y::ys,acc=>by
  rw[AtM,List.foldl_cons,AbX ys];simp[tx]
theorem Ln:∀(ys:NN),Txt.join (tx []) (ys.map tx)=tx ys.flatten
 | []=>by simp[Txt.join,Builtin.Str.glued,tx,Str.empty]
 | y::ys=>by
  show Str.mk _=_;simp only [AtM,List.drop_one,List.tail_cons,List.headD_cons];rw[AbX];simp[tx]
theorem AbY{α:Type}(f:α->Nat):∀(l:List α),(l.map λc=>[f c]).flatten=l.map f
 | []=>rfl
 | a::l=>by rw[AtM,Auq,AbY f l];rfl
theorem AjO{α:Type}(f:α->Nat):∀(l:List α),(((l.map λc=>[f c]).map tx).map (·.length)).sum=l.length
 | []=>rfl
 | a::l=>by
  rw[AtM,AtM,AtM,Aul,AjO f l,Al,AtS];show 1+l.length=l.length+1;omega
end L2
namespace PySem
open Sem (wp)
open Builtin Builtin.Str Builtin.Int
namespace RV
end RV
end PySem
namespace L2
open PySem PySem.Spec PyProof.Rows
variable {c i n tk d t' n1 n2 kx j:Nat}{A:Around}{B:Prop}{b fl u d':Value}{H H1 H':Hp}{p a C f z it:Addr}{o:Option V}{cl ws:NN}{t:Tok}{ns:NA}{v y:V}{α κ:Type}{X:Cx}{tg l e value iter elt:Expr}{tl ta to te tv td ty:TE}{es values ifs:List Expr}{m x q x':Str}{apos pos pos' tpos px px':Pos}{P prog:Program}{w:World}{h h':Heap}{pins:NO}{σ:St}{s s':Shared}{Q E ye:NR}{CX:CXT}{fd:FuncData}{ps ys Nc:NX}{sp Bv:NI}{dvs:Na}{ds us:NW}{pl:Sem Bool}{xs:List (List Key × Addr × Value)}{trs:List (TE × TE)}{D:List (Str × Str)}{sc scope:Scope}{fp1 fp2 fp:NU}{P1 P2:Nat->Value->Prop}{S1 S2:Nat->Heap->Prop}{S:Src}{tc:TT}{wi:TI}{tb:TS}
theorem CZ{c A:Prop}[Decidable c](h:¬c)(k:B):if decide c=true then A else B:=by rw[zJ h];exact Iz k
theorem Jx{c A:Prop}[Decidable c](h:c)(k:A):if decide c=true then A else B:=by rw[zN h];exact Aby k
theorem AjP{c A:Prop}[Decidable c](h:¬c)(k:A):if (!decide c)=true then A else B:=by rw[zJ h];exact Aby k
theorem Apy{b:Bool}{A:Prop}(h1:b=true->A)(h2:b=false->B):if b=true then A else B:=by simp_all
theorem Dj{c A:Prop}[Decidable c](h1:c->A)(h2:¬c->B):if decide c=true then A else B:=by
 by_cases h:c
 ·exact Jx h (h1 h)
 ·exact CZ h (h2 h)
theorem Aq.upd{o:HO}(h:H p=none):Aq H (L2.upd H p o):=λb o' e=>by rw[Aj (Bb e h)];exact e
theorem Aq.new{o:HO}(e:Aq H H1)(h:H1 p=none):Aq H (L2.upd H1 p o):=e.trans (.upd h)
theorem nu9{G B:Hp}{o:HO}(s:Aq G B)(n:B a=none):∃ N,upd B a o=N/\Aq G N/\N a=some o:=⟨_,Z,s.new n,Ae⟩
theorem Aq.over{o:HO}(e:Aq H H1)(h:H p=none):Aq H (L2.upd H1 p o):=λb o' q=>by rw[Aj (Bb q h)];exact e b o' q
theorem Bj:bootBuiltins "len" = some (.builtin "len"):=by decide +kernel
theorem CJ:bootBuiltins "isinstance" = some (.builtin "isinstance"):=by decide +kernel
theorem Apz:bootBuiltins "abs" = some (.builtin "abs"):=by decide +kernel
theorem Agx:bootBuiltins "sum" = some (.builtin "sum"):=by decide +kernel
theorem VJ:bootBuiltins "sorted" = some (.builtin "sorted"):=by decide +kernel
theorem Agy:bootBuiltins "any" = some (.builtin "any"):=by decide +kernel
theorem Agz:bootBuiltins "all" = some (.builtin "all"):=by decide +kernel
theorem Fb:bootBuiltins "list" = some (.type "list"):=by decide +kernel
theorem Adh:bootBuiltins "str" = some (.type "str"):=by decide +kernel
theorem AjQ:bootBuiltins "int" = some (.type "int"):=by decide +kernel
theorem ZL:bootBuiltins "tuple" = some (.type "tuple"):=by decide +kernel
theorem AeC:bootBuiltins "reversed" = some (.type "reversed"):=by decide +kernel
theorem SN:bootBuiltins "enumerate" = some (.type "enumerate"):=by decide +kernel
theorem Ap0:bootBuiltins "zip" = some (.type "zip"):=by decide +kernel
theorem AmJ:bootBuiltins "bool" = some (.type "bool"):=by decide +kernel
theorem SQ:bootBuiltins "range" = some (.type "range"):=by decide +kernel
structure Df (K:NF)(mg:Str->NY)(x:Str)(st:Stmt)(ps:NX)(f:Addr)(fd:FuncData):Prop where
 F:Fun K x x st f fd
 m:mg x=some (.ref f)
 b:Binds K fd ps []
def vS (cl:NN):Na:=cl.map λt=>V.str (tx t)
def vI (ns:NA):Na:=ns.map V.int
theorem Bt(cl:NN):(vS cl).length=cl.length:=by unfold vS;rw[AtG]
theorem Bh(ns:NA):(vI ns).length=ns.length:=by unfold vI;rw[AtG]
theorem ZM{t:NI}(h:cl[i]?=some t):(vS cl)[i]?=some (.str (tx t)):=by unfold vS;rw[AtQ,h];rfl
theorem Fw{n:Int}(h:ns[i]?=some n):(vI ns)[i]?=some (.int n):=by unfold vI;rw[AtQ,h];rfl
theorem Ff(h:(vS cl)[i]?=some v):∃ t,cl[i]?=some t/\v=.str (tx t):=by
 unfold vS at h;rw[AtQ] at h;cases e:cl[i]? with
 | none=>simp_all
 | some t=>rw[e] at h;exact⟨t,Z,(Option.some.inj h).symm⟩
theorem Ek(h:(vI ns)[i]?=some v):∃ t,ns[i]?=some t/\v=.int t:=by
 unfold vI at h;rw[AtQ] at h;cases e:ns[i]? with
 | none=>simp_all
 | some t=>rw[e] at h;exact⟨t,Z,(Option.some.inj h).symm⟩
theorem Gj(ns:NA):(vI ns).all Iw=true:=by unfold vI;rw[List.all_map];exact List.all_eq_true.mpr λ_ _=>rfl
theorem Fy(cl:NN):vS cl=(cl.map tx).map V.str:=by unfold vS;rw[Ava];rfl
theorem Ap1(ns:NA)(j:Nat)(n:Int):(vI ns).set j (.int n)=vI (ns.set j n):=by unfold vI;rw[List.map_set]
theorem Ht(ns:NA)(n:Int):vI ns++[.int n]=vI (ns++[n]):=by unfold vI;rw[AtK];rfl
theorem Dm(cl:NN)(t:NI):vS cl++[.str (tx t)]=vS (cl++[t]):=by unfold vS;rw[AtK];rfl
theorem Br{xs:List α}{i:Int}{v:α}(a:0<=i)(h:xs[i.toNat]?=some v):atI xs i=some v:=by
 have e:i=(i.toNat:Int):=by lia
 rw[e];exact Ahl h
theorem AjR{i:Int}(a:0<=i)(h:i<n):ixN n i=some i.toNat:=by unfold ixN;rw[if_pos a,if_pos h]
section
variable {K:NF}
theorem Aw(a:X.K=K:=by rfl):IxR X (Arb K):=by subst a;exact Am8
theorem BW(a:X.K=K:=by rfl):IxR X (Arc K):=by subst a;exact Apo
theorem Lp(a:X.K=K:=by rfl):OpR X (compareOp .In) (rIn K false):=by subst a;exact Ain
theorem JH(a:X.K=K:=by rfl):OpR X (compareOp .NotIn) (rIn K true):=by subst a;exact AcY
theorem Ahp(a:X.A.units<cLine)(b:X.K=K:=by rfl):OpR X (compareOp .Eq) (Arp K):=by subst b;exact Apx a
theorem Ak(a:X.K=K:=by rfl):Fz X (.builtin "len") (NT K):=by subst a;exact AcZ
theorem Et(a:X.K=K:=by rfl):Fz X (.type "list") (NZ K):=by subst a;exact Ada
theorem Eu(a:X.K=K:=by rfl):Fz X (.builtin "isinstance") (Aro K):=by subst a;exact AjN
theorem Dk(a:X.K=K:=by rfl):MtR X "str.join" (rJoin K):=by subst a;exact AmI
theorem Ds(a:X.K=K:=by rfl):SlR X (Are K):=by subst a;exact Am9
theorem Bq(a:PE X l tl)(b:X.K=K:=by rfl):PI X tg l (Aoj K tl):=by subst b;exact Ams a
theorem Ip{a:Expr}(d:PE X a ta)(b:∀ whole,isTrue a X.env whole=(do let v <- whole;standAt a.pos;holding [v] (truthy v)))(c:X.K=K:=by rfl) :
  PT X a (λσ H Q=>ta σ H λx H'=>∃ k,Apb K x H' k/\Q k H'):=by subst c;exact AjA d b
variable {o:Expr}{t:TA}{name:Str}{cpos:Pos}{T id:String}{r:V->Na->Hp->VK->Prop}
theorem Bw(i:PlainAttrs T)(d:Slot T name id)(h:typeOf (.builtin id)=pure (.type "method_descriptor")) (p:MtR X id r) (n:PE X o to) (m:PA X (e::es) t)
  (c:attributeBase o name X.env (eval o X.env)=eval o X.env:=by rfl)
  (f:((backTo cpos (starEach (e::es) X.env)).all (λx=>!x.1) && (backToKw cpos (keywordEach [] X.env)).all (λx=>x.1.isSome)
   && decide ((e::es).length+([]:List Keyword).length+(if ([]:List Keyword).isEmpty then 0 else 1)<30))=true:=by rfl)
  (b:(apos.endLine == cpos.line)=true:=by rfl) (j:starEach (e::es) X.env=(false,eval e X.env)::starEach es X.env:=by rfl) (a:(backTo cpos (starEach es X.env)).any (·.1)=false:=by rfl) (l:X.K=K:=by rfl) :
  PE X (.Call (.Attribute o name apos) (e::es) [] cpos) (tBM K T r to t):=by
 subst l;exact Ari i d h p n m c f b j a
end
abbrev exO (C t:Addr)(tb:Value):Obj:={ cls:=.ref C,data:=.fields #[.ref t,tb,.none,.none,.bool false,.none] }
structure Fx (B:Heap)(l:List Env)(e C t:Addr)(fl:Value)(h:Heap):Prop where
 st:B.StaysIn h
 ne:B.get? e=none
 fr:h.FunFrames B l
 ob:∃(T:Addr)(oT:Obj)(ts:Array Value),h.get? e=some (exO C t (.ref T))/\B.get? T=none/\T≠e/\h.get? T=some oT/\oT.data=.fields ts/\ts[3]?=some fl
structure Bk (P:Program)(w:World)(outer:List Env)(H:Hp)(h:Heap)(H':Hp)(B h':Heap):Prop where
 ok:HOk P w H' B
 keep:∀ b o,h.get? b=some o->H b=none->b∉frs outer->B.get? b=some o
 slot:∀ b o,h.get? b=some o->b∈frs outer->∃ sl,h'.get? b=some { o with slots:=sl }
 free:∀ b o,h.get? b=some o->H b=none->H' b=none
 there:∀ b o,h.get? b=some o->b∉frs outer->∃ o',B.get? b=some o'
 tups:∀ b xs,H b=some (.tup xs)->H' b=some (.tup xs)
 JT:∀ b o u,H b=some (.frz o u)->H' b=some (.frz o u)
 Nq:∀ b ps,H b=some (.tbl ps)->∃ more,H' b=some (.tbl (ps++more))
theorem Bk.slots{outer:List Env}{B h1 h2:Heap}(k:Bk P w outer H h H' B h1)(d:h1.FunFrames B outer)(u:h1.UpToSlots h2):Bk P w outer H h H' B h2 :=
 ⟨k.ok,k.keep,λb o q c=>by
  obtain⟨f,e⟩:=k.slot b o q c;obtain⟨_,o2,e2,n2⟩:=d.mem c;rw[e] at e2;cases e2;obtain⟨a,e3⟩:=u b _ e n2;exact⟨a,e3⟩,k.free,k.there,k.tups,k.JT,k.Nq⟩
def CX1 (P:Program)(w:World):CXT:=λouter H s E e s'=>∃ ea C t H' B,e=.ref ea/\Fx B outer ea C t .none s'.heap/\s'.os=s.os/\AllBare s'.gens/\Bk P w outer H s.heap H' B s'.heap/\E (.ref C) none H'
def AsT (K:NF)(C:Addr):NW:=match K.lookup C with
 | some ⟨_,_,.cls cd,_⟩=>cd.mro
 | _=>[]
def PEX (X:Cx)(e:Expr)(t:XK->TE):Prop:=∀(pins:NO)(s:Shared)(σ:St)(H:Hp)(Q:VK)(E:XK),Inv X pins σ H s->t E σ H Q ->
 wpAny (model X.prog X.w) X.A (eval e X.env) (EP X pins σ Q) (λex s'=>∃ H1 s1,Inv X pins σ H1 s1/\CX1 X.prog X.w X.stack H1 s1 E ex s') s
theorem Ei.get{o:HO}(x:Ei P w H h a o):∃ u,h.get? a=some u:=by
 induction o with
 | lst xs=>obtain⟨_,_,_,_,e⟩:=x;exact⟨_,e⟩
 | tup xs=>obtain⟨_,_,_,_,e,_⟩:=x;exact⟨_,e⟩
 | dK kvs=>obtain⟨_,_,_,_,_,_,_,e,_⟩:=x;exact⟨_,e⟩
 | dT kvs=>obtain⟨_,_,_,_,_,_,_,e,_⟩:=x;exact⟨_,e⟩
 | set S n=>obtain⟨_,_,_,_,e,_⟩:=x;exact⟨_,e⟩
 | ins C dx fs=>obtain⟨_,_,_,e,_⟩:=x;exact⟨_,e⟩
 | own y=>obtain⟨_,e⟩:=x;exact⟨_,e⟩
 | xd fs=>obtain⟨_,⟨_,_,_,e,_⟩,_⟩:=x;exact⟨_,e⟩
 | rng lo hi=>obtain⟨_,_,_,e⟩:=x;exact⟨_,e⟩
 | frz d u c=>obtain⟨e,_⟩:=x;exact⟨_,e⟩
 | tbl ps=>exact⟨_,x⟩
 | met f y=>exact⟨_,x⟩
 | ext b=>exact x.2.1
section
variable {B h2:Heap}{ea t:Addr}
theorem Bk.none{P:Program}{w:World}{outer:List Env}{h h':Heap}(k:Bk P w outer H h H' B h')(ne:B.get? ea=Option.none):H' ea=Option.none:=by
 cases q:H' ea with
 | none=>rfl
 | some o =>
  obtain⟨u,e⟩:=(k.ok ea o q).get;rw[ne] at e;cases e
end
abbrev WX (X:Cx)(pins:NO)(σ:St)(E:XK):Value->Shared->Prop:=λex s'=>∃ H1 s1,Inv X pins σ H1 s1/\CX1 X.prog X.w X.stack H1 s1 E ex s'
def PSX (X:Cx)(st:Stmt)(t:XK->TS):Prop:=∀(pins:NO)(s:Shared)(σ:St)(H:Hp)(D:Ends)(E:XK),Inv X pins σ H s->t E D σ H->wpAny (model X.prog X.w) X.A (exec st X.env) (SP X pins D) (WX X pins σ E) s
def Ap2 (X:Cx)(st:List Stmt)(t:XK->TS):Prop:=∀(pins:NO)(s:Shared)(σ:St)(H:Hp)(D:Ends)(E:XK),Inv X pins σ H s->t E D σ H->wpAny (model X.prog X.w) X.A (execs st X.env) (SP X pins D) (WX X pins σ E) s
section
variable {t u:XK->TS}{te:XK->TE}{st:Stmt}
def Sub (K:NF)(C D:Addr):Prop:=(∃ bm nid,W.excIn K C bm nid=true)/\(AsT K C).contains (.ref D)=true
end
structure ExC (K:NF)(C:Addr):Prop where
 ga:W.findIn K (.ref C) "__getattribute__" = some (some (.builtin "BaseException.__getattribute__"))
 gt:W.findIn K (.ref C) "__getattr__" = some none
 cl:W.findIn K (.ref C) "__class__" = some (some (.builtin "object.__class__"))
 gc:W.specialIn K (.builtin "object.__class__") "__get__" = some (some (.builtin "getset_descriptor.__get__"))
 tk:W.takesIn K (.builtin "object.__class__")=some true
 ob:W.mroIn K C (.type "object")=some true
 be:W.mroIn K C (.type "BaseException")=some true
 is:(W.clsIn K C).isSome=true
abbrev vE:NW:=[.type "ValueError", .type "Exception", .type "BaseException", .type "object"]
abbrev vN:String := "ValueError.__new__"
structure Exn (K:NF)(C:Addr):Prop where
 q:W.excIn K C vE vN=true
 c:ExC K C
 ty:W.typeIn K (.ref C)=some (.type "type")
 ve:W.mroIn K C (.type "ValueError")=some true
theorem Ap3{K:NF}(q:W.excIn K C vE vN=true)(c:W.findIn K (.ref C) "__getattribute__" = some (some (.builtin "BaseException.__getattribute__"))) (gt:W.findIn K (.ref C) "__getattr__" = some none)
  (cl:W.findIn K (.ref C) "__class__" = some (some (.builtin "object.__class__"))) (e:W.specialIn K (.builtin "object.__class__") "__get__" = some (some (.builtin "getset_descriptor.__get__"))) (tk:W.takesIn K (.builtin "object.__class__")=some true)
  (d:W.mroIn K C (.type "object")=some true) (b:W.mroIn K C (.type "BaseException")=some true) (a:W.isClsIn K C=true) (ty:W.typeIn K (.ref C)=some (.type "type")) (f:W.mroIn K C (.type "ValueError")=some true):Exn K C :=
 ⟨q,⟨c,gt,cl,e,tk,d,b,a⟩,ty,f⟩
def Dv (s:Stmt):List Stmt:=match s with
 | .ClassDef _ _ _ b _ _ _ _ _ _ _=>b
 | _=>[]
structure Mf (K:NF)(x q:Str)(st:Stmt)(ps:NX)(C f:Addr)(fd:FuncData):Prop where
 F:Fun K x q st f fd
 m:Meth K C x f
 b:Binds K fd ps []
theorem Ap4(K:NF):W.kitOne K (.type "int") (.type "bool")=some false:=by unfold W.kitOne W.kitCls W.subIn;rw[if_neg (by simp)];show(if _ then _ else _)=_;rw[if_pos (by decide +kernel)];show Option.map (λx=>x.contains (Value.type "bool")) (fastBuiltinMro "int")=some false;decide +kernel
open Builtin Builtin.Str
def VL (u:NI)(lo hi:Option Int):NI:=(u.drop (HT.sIx u.length 0 lo)).take (HT.sIx u.length u.length hi-HT.sIx u.length 0 lo)
theorem Ap5(a b:Nat):sliceRange (a:Int) (b:Int) 1=(List.range (b-a)).map λk=>a+k:=by
 unfold sliceRange;simp only [show(1:Int)>0 by decide,if_true];by_cases h:(a:Int)<(b:Int)
 ·rw[if_pos h,Int.ediv_one,show(b:Int)-(a:Int)+1-1=((b-a:Nat):Int) by omega,Auh];exact Avb λk _=>by omega
 ·rw[if_neg h,show b-a=0 by omega];rfl
theorem Qo(n d:Nat)(i:Int):max 0 (min (if i<0 then i+(n:Int) else i) (n:Int))=(HT.sIx n d (some i):Int):=by
 show _=(((if i<0 then (i+(n:Int)).toNat else min i.toNat n):Nat):Int);by_cases h:i<0
 ·rw[if_pos h,if_pos h];omega
 ·rw[if_neg h,if_neg h];omega
theorem idx_eq(n:Nat)(lo hi:Option Int):strSliceIndices lo hi 1 n=(List.range (HT.sIx n n hi-HT.sIx n 0 lo)).map λk=>HT.sIx n 0 lo+k:=by
 rw[<- Ap5];cases lo with
 | none =>
  cases hi with
  | none=>rfl
  | some j=>rw[<- Qo];rfl
 | some i =>
  cases hi with
  | none=>rw[<- Qo n 0 i];rfl
  | some j=>rw[<- Qo n 0 i,<- Qo n n j];rfl
theorem AjS(u:NI)(lo hi:Option Int):Txt.slice (tx u) lo hi=tx (VL u lo hi):=by
 unfold Txt.slice VL;rw[Al,idx_eq];have d:HT.sIx u.length u.length hi<=u.length:=HT.Apn _ _ (AtH _) _;have key:∀(a k:Nat),a+k<=u.length->((List.range k).map λj=>a+j).filterMap (λi=>(tx u).cps[i]?)=(u.drop a).take k:=by
  intro a k
  induction k with
  | zero=>intro _;simp
  | succ k b =>
   intro h;rw[Aur,AtK,List.filterMap_append,b (by omega)];have:a+k<u.length:=by omega
   simp only [AtM,Avo,Av1,List.filterMap_nil,Ob,AtF this];rw[List.take_succ,AuF,AtF this];rfl
 split
 next h =>
  simp only [AtG,AtO,AuX,beq_iff_eq] at h;have h2:=h.2;have:HT.sIx u.length 0 lo=0\/u.length=0:=by omega
  rcases this with e | e
  ·rw[e,Avp,Auf (by omega)]
  ·rw[AvR e];simp
 next h =>
  by_cases c:HT.sIx u.length 0 lo<=HT.sIx u.length u.length hi
  ·show(Str.mk _)=_;rw[key _ _ (by omega)];rfl
  ·have e:HT.sIx u.length u.length hi-HT.sIx u.length 0 lo=0:=by omega
   rw[e];simp[tx]
inductive AjT (x:V)(lo:Option Int)(hi:Option Int)(H:Hp)(Q:VK):Prop
|mk(u:NI)(_:x=.str (tx u))(_:u.length<=sizeLine)(_:Q (.str (tx (VL u lo hi))) H)
theorem ZP:SlR X AjT:=by
 intro pins s σ H x v C B lo hi n Q I r o pl f h;obtain⟨u,rfl,y,q⟩:=h;obtain⟨t,rfl⟩:=r;rw[<- AjS] at q;refine⟨"str", _,F.slot_str_getitem.lookup,typeIs_str _ _ _,?_⟩;have hsz:(tx u).length<=sizeLine:=by rw[Al];exact y
 obtain⟨os,b,a,c⟩:=id o;have fin:∀(l e:Option (Int × Tok)),s.heap.IsSlice n l e none->Q (.str (Txt.slice (tx u) (l.map (·.1)) (e.map (·.1)))) H->wpAny (model X.prog X.w) X.A (getItem (.str (tx u) t) (.ref n)) (EP X pins σ Q) X.xe s:=λl e z p =>
  wpAny_getItem_str_slice z Z (post_val_or_str ⟨AtW (Txt.slice_le (tx u) _ _) hsz,λt' k=>⟨.str _,H,I.tok _,⟨t',Z⟩,p⟩⟩);cases pl with
 | none=>cases f with
  | none=>exact fin none none ⟨os,b,a,c⟩ q
  | int j d=>exact fin none (some (j,d)) ⟨os,b,a,c⟩ q
 | int i m=>cases f with
  | none=>exact fin (some (i,m)) none ⟨os,b,a,c⟩ q
  | int j d=>exact fin (some (i,m)) (some (j,d)) ⟨os,b,a,c⟩ q
theorem SX:∀(xs:Na)(us:NW),xs.length=us.length->(∀(i:Nat) x u,xs[i]?=some x->us[i]?=some u->RelV x u)->Vals xs us
 | [],[],_,_=>.nil
 | [],_::_,h,_=>by simp at h
 | _::_,[],h,_=>by simp at h
 | x::xs,u::us,h,p=>.cons (p 0 x u Z rfl) (SX xs us (by simpa using h) λi y v e1 e2=>p (i+1) y v e1 e2)
def AeD (p:Addr)(a b c:Int):HO:=.ext λh=>∃ t u v,IsRange h p a b c t u v
def Ia (a c:Int)(n:Nat):NA:=(List.range n).map λ(i:Nat)=>a+(i:Int)*c
section
variable {K:NF}
theorem ZQ{a b c:Int}{u v:Tok}{Q:VK}(I:Inv X pins σ H s)(q:∀ p,H p=none->Q (.ref p) (upd H p (AeD p a b c))) :
  EP X pins σ Q (.ref s.heap.objs.size) { s with heap:=s.heap.push { cls:=.type "range", data:=.fields #[.int a t,.int b u,.int c v] },toks:=tk }:=by
 have d:(s.heap.push { cls:=.type "range", data:=.fields #[.int a t,.int b u,.int c v] }).get? s.heap.objs.size=some { cls:=.type "range", data:=.fields #[.int a t,.int b u,.int c v] }:=zD _ Z;refine⟨.ref s.heap.objs.size,_,I.laid (λb o e=>zB _ e) (AtH _) ?_,Z,q _ (I.hok.fresh (AtH _))⟩;exact⟨⟨t,u,v,d⟩,⟨_,d⟩,λh1 h2 y k=>by
  obtain⟨t',f,h,y⟩:=y;exact⟨t',f,h,k _ y⟩⟩
inductive AeE (xs:Na)(H:Hp)(Q:VK):Prop
|mk(a:_)(b:_)(_:xs=[.int a,.int b])(_:∀ p,H p=none->Q (.ref p) (upd H p (AeD p a b 1)))
theorem AbZ:Fz X (.type "range") AeE:=by intro pins s σ H xs us Q I d h;obtain⟨a,b,rfl,q⟩:=h;obtain⟨f,i,rfl,c,e⟩:=d.two;obtain⟨t,rfl⟩:=c;obtain⟨t',rfl⟩:=e;exact call_range_2 (ZQ I q)
inductive AeF (xs:Na)(H:Hp)(Q:VK):Prop
|mk(a:_)(b:_)(c:_)(_:xs=[.int a,.int b,.int c])(_:c≠0)(_:c.natAbs<1000000)(_:∀ p,H p=none->Q (.ref p) (upd H p (AeD p a b c)))
theorem Ais:Fz X (.type "range") AeF:=by
 intro pins s σ H xs us Q I d h;obtain⟨a,b,c,rfl,hc,l,q⟩:=h;cases d with
 | cons e d=>cases d with
  | cons i d=>cases d with
   | cons j d =>
    cases d;obtain⟨t,rfl⟩:=e;obtain⟨t',rfl⟩:=i;obtain⟨f,rfl⟩:=j;exact call_range_3 hc (ZQ I q) (Or.inl (PyProof.noPylong_small (by lia)))
inductive Adi (xs:Na)(H:Hp)(Q:VK):Prop
|mk(p:Addr)(a:Int)(b:Int)(c:Int)(n:Nat)(_:xs=[.ref p])(_:H p=some (AeD p a b c))(_:Builtin.Range.small a b c=true)(_:Builtin.Range.rangeSize a b c=n)(_:n<=1000)(_:∀ l,H l=none->Q (.ref l) (upd H l (.lst (vI (Ia a c n)))))
theorem ZR(hc:X.calm=true:=by rfl):Fz X (.type "list") Adi:=by
 intro pins s σ H xs us Q I r h;obtain⟨p,a,b,c,n,rfl,w,o,hn,j,q⟩:=h;obtain⟨u,rfl,l⟩:=r.one;cases l;obtain⟨⟨t,u,v,m⟩,_,_⟩:=I.hok p _ w;refine call_list_range (I.ok.hd hc) m o hn (AtW j (by decide)) λh' tk acc c' hk y hi=>?_;refine⟨.ref s.heap.objs.size,_,I.laid hk (AtH _) ?_,Z,q _ (I.hok.fresh (AtH _))⟩;have d:(vI (Ia a c n)).length=n:=by rw[Bh];unfold Ia;rw[AtG,AtO]
 refine⟨by rw[d];exact Auu (VH j),acc.toList,c',?_,y⟩;refine SX _ _ (by rw[d,zK,hi.1]) λi x u e1 e2=>?_;obtain⟨z,e,rfl⟩:=Ek e1;obtain⟨t',rfl⟩:=hi.2 i u (by rw[<- zO];exact e2);have f:i<n:=by
  have:= (zC.mp e1).1
  rwa [d] at this
 unfold Ia at e;rw[AtQ,Au3 f] at e;cases e;exact⟨t',Z⟩
inductive Xc (xs:Na)(H:Hp)(Q:VK):Prop
|mk(z:_)(n:_)(_:xs=[.str z])(_:PySem.intText? z=some n)(_:z.length<=640)(_:Q (.int n) H)
theorem Ait:Fz X (.type "int") Xc:=by intro pins s σ H xs us Q I b h;obtain⟨z,n,rfl,hn,a,q⟩:=h;obtain⟨u,rfl,t,rfl⟩:=b.one;exact W.KIN.call_text hn a ⟨.int n,H,I.tok _,⟨_,Z⟩,q⟩
inductive AeG (K:NF)(xs:Na)(H:Hp)(Q:VK):Prop
|mk(a:_)(ns:_)(_:xs=[.ref a])(_:SqL K H a (vI ns))(_:Q (.int ns.sum) H)
theorem VM(d:X.K=K:=by rfl)(hc:X.calm=true:=by rfl):Fz X (.builtin "sum") (AeG K):=by
 subst d;intro pins s σ H xs us Q I i h;obtain⟨a,ns,rfl,e,q⟩:=h;obtain⟨u,rfl,c⟩:=i.one;cases c;obtain⟨its,r,pl,j⟩:=I.list e;have hi:=intsAre_of r;obtain⟨xs,b⟩:=hi.allInts.items;have f:s.heap.IsList a (intItems xs):=by rw[<- b];exact pl.isList
 refine sum_intListG (I.ok.hd hc) f λh' tk t' hk=>?_;have e1:xs.toList.map (·.1)=ns:=by
  have z:numsOf its.toArray.toList=ns:=hi.numsOf;rw[b,nums_intItems] at z;exact z
 rw[show preSum (numAt xs) xs.size=ns.sum by rw[preSum_eq,Auf (by simp),e1]];exact⟨.int ns.sum,H,I.kept hk,⟨t',Z⟩,q⟩
end
section
variable {K:NF}{o:Expr}{f:Str}{st:Stmt}{t:TS}
theorem CV(c:PE X e ta)(b:attributeBase e f X.env (eval e X.env)=eval e X.env)(a:X.K=K:=by rfl):PE X (.Attribute e f pos) (AqR K ta f):=by subst a;exact Aph c b
theorem Ib(a:PE X o ta)(c:PE X value tv)(b:swapsWith value (some (.Attribute o f pos')) pos.line X.env=pure false:=by rfl)(d:X.K=K:=by rfl):PS X (.Assign [.Attribute o f pos'] value pos) (AqS K ta tv f):=by subst d;exact Api a c b
theorem Ag0{op:Operator}{b:V->V->Hp->VK->Prop}(c:PE X o ta)(d:PE X value tv)(a:Apg X op b)(e:X.K=K:=by rfl):PS X (.AugAssign (.Attribute o f tpos) op value pos) (Ahj K ta tv b f):=by subst e;exact Ail c d a
end
structure Own (K:NF)(C f:Addr):Prop where
 c:Cls K C
 m:Mk K C f
theorem Ap6{K:NF}(h1:W.plainGet K C Str.empty=true)(h2:W.hasDictIn K C=true)(h3:W.plainOver K C=true)(h4:W.findIn K (.ref C) "__setattr__" = some (some (.builtin "object.__setattr__")))
  (h5:W.makesIn K C=true) (b:W.findIn K (.ref C) "__init__" = some (some (.ref f))) (h7:W.isFn K (.ref f)=true) (a:W.keepIn K (.ref C)=true):Own K C f:=⟨⟨h1,h2,h3,h4⟩,⟨h5,b,h7,a⟩⟩
structure Ars (K:NF)(C:Addr)(m:Str)(f:Addr):Prop where
 rd:W.readsIn K C (.type "type")=true
 fi:W.findCls K (.ref C) (.type "type") m=some (.val (.ref f))
 ha:W.handedIn (.ref f)=true
 sp:W.specialIn K (.ref C) "__getattribute__" = some (some (.builtin "type.__getattribute__"))
 kp:W.keepIn K (.ref f)=true
abbrev AmK (sp:Sp)(dvs:Na)(E:XK)(Q:VK)(vs:Na)(H2:Hp):Prop:=sp (vs++dvs) H2 Q E
inductive AmL (C:Addr)(sp:Sp)(dvs:Na)(E:XK)(t:TA)(σ:St)(Q:VK)(x:V)(H1:Hp):Prop
|mk(_:x=.ref C)(_:t σ H1 (AmK sp dvs E Q))
def Art (C:Addr)(sp:Sp)(dvs:Na)(E:XK)(ta:TE)(t:TA)(σ:St)(H:Hp)(Q:VK):Prop:=ta σ H (AmL C sp dvs E t σ Q)
section
variable {k:Nat}{sp:Sp}{E:XK}{o:Expr}{t:TA}
theorem Zk(y:PE X o ta)(M:Ars X.K C m f)(F:Bl X.prog X.w X.K X.mg X.base CX k f fd ps sp)(p:Ez k X.A)(j:Binds X.K fd ps ds)(B:Vals dvs ds)(l:Passes CX X E)(n:PA X (e::es) t)
  (c:starEach (e::es) X.env=(false,eval e X.env)::starEach es X.env:=by rfl) (b:(backTo pos (starEach es X.env)).any (·.1)=false:=by rfl)
  (z:eval (.Call (.Attribute o m apos) (e::es) [] pos) X.env=(do
   let ov <- eval o X.env
   standAt apos.atName
   let (f,first) <- holding [ov] (getMethod ov m pl)
   callWith pos f first (backTo pos (starEach (e::es) X.env)) (backToKw pos (keywordEach [] X.env))):=by rfl) :
  PE X (.Call (.Attribute o m apos) (e::es) [] pos) (Art C sp dvs E ta t):=by
 intro pins s σ H Q I h;refine W.methodCall_KW (pl:=pl) (thn (y pins s σ H _ I h) λu s1 ⟨x,H1,a,v,ex,q⟩=>?_) z;subst ex;obtain rfl:u=Value.ref C:=v;refine W.method_cls a.kIn M.sp (W.cls_value a.kIn M.rd M.fi M.ha ?_);refine W.callWith_K (first:=[]) (h₀:=X.base) I.ok.mod.kin M.kp (thn (n pos pins _ σ H1 _ (a.tok (s1.toks+1)) q) λus D ⟨vs,H2,d,r,i⟩=>⟨d.kIn,?_⟩) c b;exact ZC (us:=us) (vs:=vs) F p j B l d r i
end
section
variable  [DecidableEq κ]
def Nt (kvs:List (κ × V))(k:κ):Option V:=(kvs.find? λkv=>decide (kv.1=k)).map (·.2)
def putK(kvs:List (κ × V))(k:κ)(v:V):List (κ × V) :=
 if (kvs.any λkv=>decide (kv.1=k))=true then kvs.map (λkv=>if kv.1=k then (kv.1,v) else kv) else kvs++[(k,v)]
theorem AjU{k:κ}:Nt ([]:List (κ × V)) k=none:=rfl
theorem Tc{p:κ × V}{r:List (κ × V)}{k:κ}(e:p.1=k):Nt (p::r) k=some p.2:=by simp[Nt,AuV,e]
theorem Oc{p:κ × V}{r:List (κ × V)}{k:κ}(e:¬p.1=k):Nt (p::r) k=Nt r k:=by simp[Nt,AuV,e]
theorem ZS(k:κ):∀ kvs:List (κ × V),(kvs.any λa=>decide (a.1=k))=(Nt kvs k).isSome
 | []=>rfl
 | p::r=>by
  rw[AuT];by_cases e:p.1=k
  ·simp only [Tc e,zN e,Bool.true_or,Option.isSome_some]
  ·rw[Oc e,zJ e,Bool.false_or];exact ZS k r
theorem Od(kvs:List (κ × V))(k:κ)(v:V):(putK kvs k v).length<=kvs.length+1:=by
 unfold putK;split
 ·rw[AtG];omega
 ·rw[AtI,AtS,Aun];omega
theorem AjV{kvs:List (κ × V)}{k:κ}(v:V)(h:Nt kvs k=none):putK kvs k v=kvs++[(k,v)]:=by unfold putK;rw[ZS,h];exact if_neg (by decide)
theorem Nx.VN{u:NY}(r:Nx o u):o.isSome=u.isSome:=by
 cases o with
 | none=>cases u with
  | none=>rfl
  | some _=>exact(show False from r).elim
 | some _=>cases u with
  | none=>exact(show False from r).elim
  | some _=>rfl
theorem Nx.getD{u:NY}{d:V}(r:Nx o u)(a:RelV d d'):RelV (o.getD d) (u.getD d'):=by
 cases o with
 | none=>cases u with
  | none=>exact a
  | some _=>exact(show False from r).elim
 | some _=>cases u with
  | none=>exact(show False from r).elim
  | some _=>exact r
theorem KV.val{kvs:List (κ × V)}{vs:List (κ × Value)}(r:KV kvs vs)(k:κ):Nx (Nt kvs k) (valueAt vs k):=by
 unfold KV at r
 induction r with
 | nil=>exact True.intro
 | @cons p q ps qs h t c =>
  obtain⟨h1,h2⟩:=h;by_cases e:p.1=k
  ·have a:q.1=k:=h1.symm.trans e;have b:valueAt (q::qs) k=some q.2:=by simp[valueAt,AuV,a]
   rw[Tc e,b];exact h2
  ·have a:¬q.1=k:=λz=>e (h1.trans z);have b:valueAt (q::qs) k=valueAt qs k:=by simp[valueAt,AuV,a]
   rw[Oc e,b];exact c
theorem KV.any{kvs:List (κ × V)}{vs:List (κ × Value)}(r:KV kvs vs)(k:κ):(kvs.any λa=>decide (a.1=k))=vs.any λa=>decide (a.1=k):=by
 unfold KV at r
 induction r with
 | nil=>rfl
 | cons h t b=>rw[AuT,AuT,b,h.1]
theorem KV.repl{kvs:List (κ × V)}{vs:List (κ × Value)}(r:KV kvs vs)(k:κ)(b:RelV y u) :
  KV (kvs.map λa=>if a.1=k then (a.1,y) else a) (vs.map λa=>if a.1=k then (a.1,u) else a):=by
 unfold KV at r ⊢
 induction r with
 | nil=>exact .nil
 | @cons p q ps qs h t c =>
  rw[AtM,AtM];refine .cons ?_ c;obtain⟨h1,h2⟩:=h;by_cases e:p.1=k
  ·rw[if_pos e,if_pos (h1.symm.trans e)];exact⟨h1,b⟩
  ·rw[if_neg e,if_neg (λz=>e (h1.trans z))];exact⟨h1,h2⟩
theorem KV.put{kvs:List (κ × V)}{vs:List (κ × Value)}(r:KV kvs vs)(k:κ)(a:RelV y u):KV (putK kvs k y) (stored vs k u):=by
 unfold putK stored;rw[r.any k];by_cases e:(vs.any λb=>decide (b.1=k))=true
 ·rw[if_pos e,if_pos e];exact r.repl k a
 ·rw[if_neg e,if_neg e];exact Paired.snoc r ⟨Z,a⟩
theorem KV.keys{kvs:List (κ × V)}{vs:List (κ × Value)}(r:KV kvs vs):kvs.map (·.1)=vs.map (·.1):=by
 unfold KV at r
 induction r with
 | nil=>rfl
 | cons h t a=>rw[AtM,AtM,a,h.1]
theorem KV.length{kvs:List (κ × V)}{vs:List (κ × Value)}(r:KV kvs vs):kvs.length=vs.length:=Paired.length r
end
theorem AeH{k:Key}(r:RelV (kV k) u):(DY P w).is k u=true:=by
 cases k with
 | inl i=>obtain⟨t,e⟩:=(show ∃ t,u=Value.int i t from r);subst e;exact Ae0 P w i t
 | inr x=>obtain⟨t,e⟩:=(show ∃ t,u=Value.str x t from r);subst e;exact Ae1 P w x t
theorem Aca{P:Program}{w:World}:∀{ks:List Key} {us:NW},Vals (ks.map kV) us->ItemsAre (DY P w) ks us
 | [],_,r=>by rw[Avo] at r;cases r;exact .nil
 | k::ks,_,r=>by
  rw[AtM] at r;cases r with
  | cons h t=>exact .cons (AeH h) (Aca t)
abbrev KT (H:Hp):List (List Key × V)->List (List Key × Addr × Value)->Prop:=Paired λp q=>p.1=q.1/\H q.2.1=some (.tup (p.1.map kV))/\RelV p.2 q.2.2
theorem KT.val{kvs:List (List Key × V)}(r:KT H kvs xs)(k:List Key):Nx (Nt kvs k) ((atKey xs k).map (·.2)):=by
 induction r with
 | nil=>exact True.intro
 | @cons p q ps qs h t c =>
  obtain⟨h1,_,h2⟩:=h;by_cases e:p.1=k
  ·have a:q.1=k:=h1.symm.trans e;have b:atKey (q::qs) k=some q.2:=by simp[atKey,AuV,a]
   rw[Tc e,b];exact h2
  ·have a:¬q.1=k:=λz=>e (h1.trans z);have b:atKey (q::qs) k=atKey qs k:=by simp[atKey,AuV,a]
   rw[Oc e,b];exact c
theorem KT.repl{kvs:List (List Key × V)}(r:KT H kvs xs)(k:List Key)(b:RelV y u) :
  KT H (kvs.map λa=>if a.1=k then (a.1,y) else a) (xs.map (putAt k u)):=by
 induction r with
 | nil=>exact .nil
 | @cons p q ps qs h t c =>
  rw[AtM,AtM];refine .cons ?_ c;obtain⟨h1,h2,h3⟩:=h;unfold putAt;by_cases e:p.1=k
  ·rw[if_pos e,if_pos (h1.symm.trans e)];exact⟨h1,h2,b⟩
  ·rw[if_neg e,if_neg (λz=>e (h1.trans z))];exact⟨h1,h2,h3⟩
theorem KT.put{kvs:List (List Key × V)}(r:KT H kvs xs)(k:List Key){b:Addr}(c:H b=some (.tup (k.map kV)))(a:RelV y u) :
  KT H (putK kvs k y) (storedH xs k b u):=by
 have e:(kvs.any λd=>decide (d.1=k))=(atKey xs k).isSome:=by
  rw[ZS,(r.val k).VN,Option.isSome_map]
 unfold putK storedH;rw[e];by_cases q:(atKey xs k).isSome=true
 ·rw[if_pos q,if_pos q];exact r.repl k a
 ·rw[if_neg q,if_neg q];exact Paired.snoc r ⟨Z,c,a⟩
theorem KT.keeps{kvs:List (List Key × V)}(r:KT H kvs xs)(a:∀ b ys,H b=some (.tup ys)->H' b=some (.tup ys)):KT H' kvs xs :=
 Paired.AoL r λ_ _ z=>⟨z.1,a _ _ z.2.1,z.2.2⟩
theorem Aoq{u:HO}(ok:HOk P w H h)(e:Rd H a u):Ei P w H h a u:=e.ok ok
theorem AeI{kvs:List (Key × V)}(ok:HOk P w H h)(e:Rd H a (.dK kvs)):kvs.length<=sizeLine/\(a == sysModules)=false/\∃ vs,KV kvs vs/\h.DictOf (DY P w) a vs :=
 show Ei P w H h a (.dK kvs) from Aoq ok e
theorem Aor{kvs:List (Key × V)}(ok:HOk P w H h)(e:H a=some (.dK kvs)):kvs.length<=sizeLine/\(a == sysModules)=false/\∃ vs,KV kvs vs/\h.DictOf (DY P w) a vs:=AeI ok (.inl e)
theorem Adj{ks:List Key}(ok:HOk P w H h)(e:H a=some (.tup (ks.map kV))):(tupleKind (DY P w)).is h ks a:=by obtain⟨_,its,r,o,h1,h2,n,h3⟩:=(show Ei P w H h a (.tup (ks.map kV)) from ok a _ e);exact⟨o,its.toArray,n,h1,h2,h3,by simpa using Aca r⟩
theorem Ahq{kvs:List (List Key × V)}(ok:HOk P w H h)(e:Rd H a (.dT kvs)):kvs.length<=sizeLine/\(a == sysModules)=false /\
  ∃ xs,KT H kvs xs/\h.DictOfH (tupleKind (DY P w)) a xs:=by
 obtain⟨z,y,xs,r,o,es,d,h1,h2,h3,h4,h5⟩:=(show Ei P w H h a (.dT kvs) from Aoq ok e);refine⟨z,y,xs,r,o,es,d,h1,h2,h3,h4,λx b=>?_,h5⟩;have all:∀{l:List (List Key × V)} {m:List (List Key × Addr × Value)},KT H l m->∀ x∈m,(tupleKind (DY P w)).is h x.1 x.2.1:=by
  intro l m q
  induction q with
  | nil=>intro x b;exact nomatch b
  | @cons p q ps qs c t f =>
   intro x b;rcases yD.mp b with e | b
   ·subst e;exact Adj ok (by rw[<- c.1];exact c.2.1)
   ·exact f x b
 exact all r x b
theorem Aru{kvs:List (List Key × V)}(ok:HOk P w H h)(e:H a=some (.dT kvs)):kvs.length<=sizeLine/\(a == sysModules)=false /\
  ∃ xs,KT H kvs xs/\h.DictOfH (tupleKind (DY P w)) a xs:=Ahq ok (.inl e)
def ZV (H:Hp)(a:Addr)(y:V)(r:Option V):Prop :=
 (∃ kvs k,Rd H a (.dK kvs)/\y=kV k/\r=Nt kvs k)\/∃ kvs k b,Rd H a (.dT kvs)/\y=.ref b/\H b=some (.tup (k.map kV))/\r=Nt kvs k
def AjW (H:Hp)(a:Addr)(y v:V)(H':Hp):Prop :=
 (∃ kvs k,H a=some (.dK kvs)/\y=kV k/\kvs.length<sizeLine/\H'=upd H a (.dK (putK kvs k v))) \/
 ∃ kvs k b,H a=some (.dT kvs)/\y=.ref b/\H b=some (.tup (k.map kV))/\kvs.length<sizeLine/\H'=upd H a (.dT (putK kvs k v))
theorem ZV.k{H:Hp}{a:Addr}{kvs:List (Key × V)}{k:Key}(e:H a=some (.dK kvs)):ZV H a (kV k) (Nt kvs k):=.inl ⟨kvs,k,.inl e,Z,Z⟩
theorem AjW.k{H:Hp}{a:Addr}{kvs:List (Key × V)}{k:Key}{v:V}(e:H a=some (.dK kvs))(b:kvs.length<sizeLine):AjW H a (kV k) v (upd H a (.dK (putK kvs k v))):=.inl ⟨kvs,k,e,Z,b,Z⟩
section
variable {r:Value}
theorem Inv.big(I:Inv X pins σ H s):sysModules<s.heap.objs.size:=by have h:mainGlobals<s.heap.objs.size:=(I.mod.glob.keeps I.bk).lt;exact Avn (by decide) h
theorem Aiu(r:A.units+1<cLine)(I:Inv X pins σ H s)(g:ZV H a y (some v))(q:RelV y u)(h:∀ f s',Inv X pins σ H s'->RelV v f->Q f s') :
  wpAny (model X.prog X.w) A (getItem (.ref a) u) Q E s:=by
 rcases g with ⟨kvs,k,e,j,l⟩ | ⟨kvs,k,b,e,j,t,l⟩
 ·subst j;obtain⟨z,B,vs,d,n⟩:=AeI I.hok e;obtain⟨f,m,c⟩:=Nx.some_of (v:=v) (o:=valueAt vs k) (by rw[l];exact d.val k);exact wpAny_getItem_of (AeH q) n.mapOf m (h f _ (I.tok _) c)
 ·subst j;cases (show u=Value.ref b from q);obtain⟨z,B,xs,d,n⟩:=Ahq I.hok e;obtain⟨f,m,c⟩:=Nx.some_of (v:=v) (o:=(atKey xs k).map (·.2)) (by rw[l];exact d.val k);obtain⟨p,x,i⟩:=zU.mp m;refine wpAny_getItem_heap (tupleKind_room_in1 r) (Adj I.hok t) n x ?_;rw[i];exact h f _ (I.tok _) c
theorem AmM(m:A.units+1<cLine)(I:Inv X pins σ H s)(g:ZV H a y o)(j:RelV y u)(h:∀ s',Inv X pins σ H s'->Q (.bool (!o.isSome)) s') :
  wpAny (model X.prog X.w) A (compareOp .NotIn u (.ref a)) Q E s:=by
 rcases g with ⟨kvs,k,e,d,l⟩ | ⟨kvs,k,b,e,d,n,l⟩
 ·subst d;obtain⟨z,i,vs,c,f⟩:=AeI I.hok e;refine wpAny_notIn_of (AeH j) i f.mapOf ?_;rw[<- (c.val k).VN,<- l];exact h _ (I.tok _)
 ·subst d;cases (show u=Value.ref b from j);obtain⟨z,i,xs,c,f⟩:=Ahq I.hok e;refine wpAny_notIn_heap (tupleKind_room_in1 m) (Adj I.hok n) i f ?_;have q:=(c.val k).VN;rw[Option.isSome_map] at q;rw[<- q,<- l];exact h _ (I.tok _)
theorem Adk{c:HO}(I:Inv X pins σ H s)(i:Mut (H a))(f:Heap.SameBut a s.heap h')(d:∃ q,h'.get? a=some q)(new:Ei X.prog X.w (upd H a c) h' a c) :
  Inv X pins σ (upd H a c) { s with heap:=h',toks:=t' } :=
 I.write (x:=a) (e:=a) i (.inl Z) (λb q h z=>(f.2 b h).trans z) d new
theorem AjX{kvs:List (Key × V)}{vs:List (Key × Value)}(z:kvs.length<=sizeLine)(c:(a == sysModules)=false)(b:KV kvs vs)(d:h'.DictOf (DY P w) a vs) :
  Ei P w H' h' a (.dK kvs):=⟨z,c,vs,b,d⟩
theorem Aiv{Q:Unit->Shared->Prop}(K:A.units+1<cLine)(I:Inv X pins σ H s)(g:AjW H a y v H')(D:RelV y u)(B:RelV v r)(h:∀ s',Inv X pins σ H' s'->Q () s') :
  wpAny (model X.prog X.w) A (setItem (.ref a) u r) Q E s:=by
 rcases g with ⟨kvs,k,e,n,l,m⟩ | ⟨kvs,k,b,e,n,C,l,m⟩
 ·subst n m;obtain⟨z,p,vs,d,j⟩:=Aor I.hok e;have x:vs.length<=sizeLine:=by rw[<- d.length];exact z
  have t:(putK kvs k v).length<=sizeLine:=by have:=Od kvs k v;omega
  refine wpAny_setItem_pairs (hsz:=x) (AeH D) j λh' f o=>h _ ?_;have L:∃ q,h'.get? a=some q:=let ⟨q,_,_,i,_⟩:=f;⟨q,i⟩
  exact Adk I (by rw[e];exact True.intro) o L (AjX t p (d.put k B) f)
 ·subst n m;cases (show u=Value.ref b from D);obtain⟨z,p,xs,d,j⟩:=Aru I.hok e;have x:xs.length<=sizeLine:=by rw[<- Paired.length d];exact z
  have t:(putK kvs k v).length<=sizeLine:=by have:=Od kvs k v;omega
  refine wpAny_setItem_heap (hsz:=x) (tupleKind_room_in1 K) (Adj I.hok C) j λh' f o=>h _ ?_;obtain⟨q,es,J,i,h2,h3,h4,_,h5⟩:=f;refine Adk I (by rw[e];exact True.intro) o ⟨q,i⟩ ⟨t,p,_,(d.put k C B).keeps λc ys F=>?_,q,es,J,i,h2,h3,h4,h5⟩;rw[Aj (Aq9 F e (λz=>nomatch z))];exact F
end
section
variable {kvs:List (Key × V)}{k:Key}
theorem Arv(I:Inv X pins σ H s)(e:Rd H a (.dK kvs))(h:∀ t s',Inv X pins σ H s'->Q (.int kvs.length t) s'):wpAny (model X.prog X.w) A (call (.builtin "len") [.ref a]) Q E s:=by obtain⟨z,c,vs,b,d⟩:=AeI I.hok e;refine call_len_dict c d (by rw[<- b.length];rw[z8] at z;omega) ?_;rw[<- b.length];exact h _ _ (I.tok _)
end
def Ap7 (i:Expr):Prop:=∀ ov iv,subscripted i false ov iv=operate [ov,iv] (getItem ov iv)
theorem Ahr{env:Env}{a:Expr}{T id:String}
  (j:typeLookup (.type T) "__getitem__" = pure (some (.builtin id))) (l:Ap7 a)
  (h:wpAny (model prog w) A (eval value env) (λo s₁=>wpAny (model prog w) A (eval a env) (λi b=>b.TypeIs o T/\wpAny (model prog w) A (getItem o i) Q E b) E s₁) E s) :
  wpAny (model prog w) A (eval (.Subscript value a pos) env) Q E s:=by
 refine Subscript_ (zT h (λo s₁ h₁=>zT h₁ (λi b c=>?_) λ_ _ x=>x) λ_ _ x=>x);obtain⟨f,c⟩:=c;unfold subscriptTail;refine zA ?_;rw[getitemInPython_of_ne f.not_modules];refine zA (wpAny_specialOf f j ?_);have fin:wpAny (model prog w) A (subscripted a false o i) (λr d=>wpAny (model prog w) A (letTemporaryGo value o r >>= λ_=>pure r) Q E d) E b:=by
  rw[l o i];exact wpAny_operating (zT c (λr d e=>zA (wpAny_letTemporaryGo (zE e))) λ_ _ x=>x)
 first
  | exact zE (zA fin)
  | exact zA (zE (zA fin))
  | exact zA fin
theorem AeJ(I:Inv X pins σ H s)(g:ZV H a y o):s.TypeIs (.ref a) "dict" := by
 rcases g with ⟨kvs,k,e,_,_⟩ | ⟨kvs,k,b,e,_,_,_⟩
 ·obtain⟨_,_,vs,_,c⟩:=AeI I.hok e;exact c.typeIs
 ·obtain⟨_,_,xs,_,c⟩:=Ahq I.hok e;exact c.typeIs
inductive AmN (Q:VK)(x:V)(y:V)(H2:Hp):Prop
|mk(a:_)(v:_)(_:x=.ref a)(_:ZV H2 a y (some v))(_:Q v H2)
abbrev AmO (ty:TE)(σ:St)(Q:VK)(x:V)(H1:Hp):Prop:=ty σ H1 (AmN Q x)
def Arw (td:TE)(ty:TE)(σ:St)(H:Hp)(Q:VK):Prop:=td σ H (AmO ty σ Q)
inductive Aiw (Q:VK)(y:V)(x:V)(H2:Hp):Prop
|mk(a:_)(o:_)(_:x=.ref a)(_:ZV H2 a y o)(_:Q (.bl (!o.isSome)) H2)
abbrev Aix (td:TE)(σ:St)(Q:VK)(y:V)(H1:Hp):Prop:=td σ H1 (Aiw Q y)
def AmP (ty:TE)(td:TE)(σ:St)(H:Hp)(Q:VK):Prop:=ty σ H (Aix td σ Q)
inductive AmQ (D:Ends)(σ:St)(v:V)(x:V)(y:V)(H3:Hp):Prop
|mk(a:_)(H4:_)(_:x=.ref a)(_:AjW H3 a y v H4)(_:D.nx σ H4)
abbrev AmR (ty:TE)(D:Ends)(σ:St)(v:V)(x:V)(H2:Hp):Prop:=ty σ H2 (AmQ D σ v x)
abbrev AmS (td:TE)(ty:TE)(D:Ends)(σ:St)(v:V)(H1:Hp):Prop:=td σ H1 (AmR ty D σ v)
def Arx (td:TE)(ty:TE)(tv:TE)(D:Ends)(σ:St)(H:Hp):Prop:=tv σ H (AmS td ty D σ)
section
variable {o i:Expr}
theorem Ahs(l:X.A.units+1<cLine)(p:PE X o td)(hi:PE X i ty)(n:Ap7 i):PE X (.Subscript o i pos) (Arw td ty):=by intro pins s σ H Q I h;refine Ahr F.slot_dict_getitem.lookup n (thn (p pins s σ H _ I h) λu s1 ⟨x,H1,d,j,q⟩=>thn (hi pins s1 σ H1 _ d q) λw t ⟨y,H2,c,e,a,v,ex,g,f⟩=>?_);subst ex;obtain rfl:u=Value.ref a:=j;exact⟨AeJ c g,Aiu l c g e λr z m b=>⟨v,H2,m,b,f⟩⟩
theorem Acb(f:X.A.units+1<cLine)(hi:PE X i ty)(n:PE X o td):PC X .NotIn i o (AmP ty td):=by intro pins s σ H Q I h;refine thn (hi pins s σ H _ I h) λr s1 ⟨y,H1,b,c,p⟩=>thn (n pins s1 σ H1 _ b p) λu q ⟨x,H2,m,e,a,l,ex,g,d⟩=>?_;subst ex;obtain rfl:u=Value.ref a:=e;exact AmM f m g c λt j=>⟨.bl (!l.isSome),H2,j,Z,d⟩
theorem AmT(w:X.A.units+1<cLine)(c:PE X o td)(hi:PE X i ty)(f:PE X value tv)(l:swapsWith value (some (.Subscript o i pos')) pos.line X.env=pure false) :
  PS X (.Assign [.Subscript o i pos'] value pos) (Arx td ty tv):=by
 intro pins s σ H D I h;refine wpAny_Assign_Subscript (thn (f pins s σ H _ I h) λr s1 ⟨v,H1,b,m,z⟩=>thn (c pins s1 σ H1 _ b z) λu d ⟨x,H2,j,t,n⟩=>thn (hi pins d σ H2 _ j n) λK F ⟨y,J,e,p,a,B,ex,g,C⟩=>?_) l;subst ex;obtain rfl:u=Value.ref a:=t;exact Aiv w e g p m λE q=>⟨σ,B,q,C⟩
end
theorem AjY(h:Heap)(a:sysModules<h.objs.size):Ei P w H (h.push { cls:=.type "dict", data:=.dict #[] }) h.objs.size (.dK []) :=
 ⟨AtR _,zZ.mpr (Ne.symm (AtU a)),[],.nil,Heap.DictOf.new h⟩
def Ag1:List (TE × TE)->St->Hp->(List (V × V)->Hp->Prop)->Prop
 | [],_,H,Q=>Q [] H
 | (tk,tv)::r,σ,H,Q=>tk σ H λx H1=>tv σ H1 λy H2=>Ag1 r σ H2 λps H3=>Q ((x,y)::ps) H3
abbrev VV:List (V × V)->List (Value × Value)->Prop:=Paired λp q=>RelV p.1 q.1/\RelV p.2 q.2
def PPs (X:Cx)(pos:Pos)(keys:List (Option Expr))(values:List Expr)(trs:List (TE × TE)):Prop :=
 ∀(pins:NO)(s:Shared)(σ:St)(H:Hp)(Q:List (V × V)->Hp->Prop),Inv X pins σ H s->Ag1 trs σ H Q ->
  wpAny (model X.prog X.w) X.A (evalPairs (pairTrees keys values X.env pos)) (λvs s'=>∃ ps H',Inv X pins σ H' s'/\VV ps vs/\Q ps H') X.xe s
theorem AmU:PPs X pos [] [] []:=λpins s σ H Q I h=>pairTrees_nil_walk ⟨[],H,I,.nil,h⟩
theorem AjZ{k v:Expr}{ks:List (Option Expr)}{vs:List Expr}{tk:TE}(hk:PE X k tk)(f:PE X v tv)(d:PPs X pos ks vs trs) :
  PPs X pos (some k::ks) (v::vs) ((tk,tv)::trs):=λpins s σ H Q I h =>
 pairTrees_cons_walk (thn (hk pins s σ H _ I h) λu s1 ⟨x,H1,b,n,o⟩=>thn (f pins s1 σ H1 _ b o) λr c ⟨y,H2,i,l,j⟩ =>
  thn (d pins c σ H2 _ i j) λws q ⟨ps,m,e,a,p⟩=>⟨(x,y)::ps,m,e,.cons ⟨n,l⟩ a,p⟩)
def Oe (kvs more:List (Key × V)):List (Key × V):=more.foldl (λacc kv=>putK acc kv.1 kv.2) kvs
theorem KV.merge:∀{more:List (Key × V)} {rs:List (Key × Value)} {kvs:List (Key × V)} {vs:List (Key × Value)},KV more rs->KV kvs vs->KV (Oe kvs more) (merged vs rs):=by
 intro more rs kvs vs r;unfold KV at r
 induction r generalizing kvs vs with
 | nil=>intro q;exact q
 | @cons p q ps qs h t b =>
  intro a;have e:KV (putK kvs p.1 p.2) (stored vs q.1 q.2):=by
   have:=a.put p.1 h.2;rw[<- h.1];exact this
  exact b e
theorem Q7:∀(more kvs:List (Key × V)),(Oe kvs more).length<=kvs.length+more.length
 | [],kvs=>by show kvs.length<=kvs.length+0;omega
 | p::r,kvs=>by
  have h1:=Q7 r (putK kvs p.1 p.2);have h2:=Od kvs p.1 p.2;show(Oe (putK kvs p.1 p.2) r).length<=_;rw[AtS];omega
theorem ZW{P:Program}{w:World}:∀{kvs:List (Key × V)} {ws:List (Value × Value)},VV (kvs.map λd=>(kV d.1,d.2)) ws->∃ rs,Carries (DY P w) ws rs/\KV kvs rs
 | [],_,r=>by rw[Avo] at r;cases r;exact⟨[],True.intro,.nil⟩
 | p::kvs,_,r=>by
  rw[AtM] at r;cases r with
  | @cons a b as bs h t =>
   obtain⟨rs,c,q⟩:=ZW (P:=P) (w:=w) t;obtain⟨b1,b2⟩:=b;exact⟨(p.1,b2)::rs,⟨AeH h.1,Z,c⟩,.cons ⟨Z,h.2⟩ q⟩
def Ary (trs:List (TE × TE)):TE:=λσ H Q=>∀ p,H p=none->Ag1 trs σ (upd H p (.dK [])) λps H2=>H2 p=some (.dK [])/\∃ kvs:List (Key × V),ps=kvs.map (λkv=>(kV kv.1,kv.2))/\kvs.length<=15/\Q (.ref p) (upd H2 p (.dK (Oe [] kvs)))
theorem AmV{keys:List (Option Expr)}(h:PPs X pos keys values trs)(b:keys.all (·.isSome)=true)(y:keys.length=values.length)(l:keys≠[])
  (f:keys.length<=15):PE X (.Dict keys values pos) (Ary trs):=by
 intro pins s σ H Q I q;have hn:=I.hok.fresh (AtH s.heap.objs.size);have t:=I.laid (a:=s.heap.objs.size) (o:=.dK []) (h':=s.heap.push { cls:=.type "dict", data:=.dict #[] }) (t':=s.toks) (λ_ _ q=>zB _ q) (AtH _) (AjY s.heap I.big);refine wpAny_Dict_walk (knd:=DY X.prog X.w) b y l f (thn (h pins _ σ _ _ t (q _ hn)) λws D ⟨ps,H2,j,i,e,kvs,p,lk,v⟩=>?_);subst p;obtain⟨rs,c,A⟩:=ZW (P:=X.prog) (w:=X.w) i;obtain⟨z,x,r,n,m⟩:=Aor j.hok e;cases n;refine⟨rs,c,m,λh' d u=>⟨.ref s.heap.objs.size,_,?_,Z,v⟩⟩;have C:(Oe [] kvs).length<=sizeLine:=by
  have h1:=Q7 kvs [];rw[Aun] at h1;rw[z8];omega
 have B:∃ q,h'.get? s.heap.objs.size=some q:=let ⟨q,_,_,hq,_⟩:=d;⟨q,hq⟩
 exact Adk j (by rw[e];exact True.intro) u B (AjX C x (A.merge .nil) d)
def IsD (H:Hp)(a:Addr):Prop:=(∃ kvs,Rd H a (.dK kvs))\/∃ kvs,Rd H a (.dT kvs)
inductive AeK (xs:Na)(H:Hp)(Q:VK):Prop
|mk(a:_)(kvs:_)(_:xs=[V.ref a])(_:H a=some (.dK kvs))(_:Q (.int kvs.length) H)
theorem Aiy:Fz X (.builtin "len") AeK:=by intro pins s σ H xs us Q I r h;obtain⟨a,kvs,rfl,c,q⟩:=h;obtain⟨u,rfl,b⟩:=vals1 r;cases b;exact Arv I (.inl c) λt s' d=>⟨.int kvs.length,H,d,⟨t,Z⟩,q⟩
open PySem PySem.Spec PySem.Calls PyProof.Rows PyProof.Rows.KTD
def Top (K:NF)(a:Addr)(D:List (Str × Str)):Prop:=∀ h:Heap,K.In h->TextTab h a (D.map λp=>(p.1,Dat.flat (.str p.2)))
theorem Ap8{K:NF}(c:tabLook (datLooks λb=>K.lookup b) (λb=>K.lookup b) a (D.map λp=>(p.1,Dat.flat (.str p.2)))=true):Top K a D:=λh X=>text_of_look (λb o e=>X b o e) c
def lk (D:List (Str × Str))(k:Str):Option Str:=(D.find? λp=>decide (p.1=k)).map (·.2)
theorem Acd(k:Str):∀ D:List (Str × Str),inKeys k (D.map λp=>(p.1,Dat.flat (.str p.2)))=(lk D k).isSome
 | []=>rfl
 | p::D=>by
  have a:=Acd k D;unfold lk at a ⊢;by_cases c:p.1=k
  ·simp[inKeys,c]
  ·have c':¬k=p.1:=λz=>c z.symm;simp[inKeys,c,c']
   simpa using a
theorem Aos{k v:Str}:∀{D:List (Str × Str)},lk D k=some v->∃ d,datumAt k (D.map λp=>(p.1,Dat.flat (.str p.2)))=some d/\d=Dat.flat (.str v)
 | [],h=>by simp[lk] at h
 | p::D,h=>by
  unfold lk at h;rw[AuV] at h;by_cases c:p.1=k
  ·simp[c] at h;subst h;exact⟨_,by simp[datumAt,c],Z⟩
  ·have c':¬k=p.1:=λz=>c z.symm;simp only [c] at h;obtain⟨d,e1,e2⟩:=Aos h;exact⟨d,by simp[datumAt,c',e1],e2⟩
inductive AeL (a:Addr)(D:List (Str × Str))(Q:VK)(y:V)(x:V)(H2:Hp):Prop
|mk(k:_)(_:y=.str k)(_:x=.ref a)(_:Q (.bl (!(lk D k).isSome)) H2)
abbrev AeM (a:Addr)(D:List (Str × Str))(td:TE)(σ:St)(Q:VK)(y:V)(H1:Hp):Prop:=td σ H1 (AeL a D Q y)
def Aiz (a:Addr)(D:List (Str × Str))(ty:TE)(td:TE)(σ:St)(H:Hp)(Q:VK):Prop:=ty σ H (AeM a D td σ Q)
inductive Ai0 (a:Addr)(D:List (Str × Str))(Q:VK)(x:V)(y:V)(H2:Hp):Prop
|mk(k:_)(v:_)(_:y=.str k)(_:x=.ref a)(_:lk D k=some v)(_:Q (.str v) H2)
abbrev Ai1 (a:Addr)(D:List (Str × Str))(ty:TE)(σ:St)(Q:VK)(x:V)(H1:Hp):Prop:=ty σ H1 (Ai0 a D Q x)
def AmW (a:Addr)(D:List (Str × Str))(td:TE)(ty:TE)(σ:St)(H:Hp)(Q:VK):Prop:=td σ H (Ai1 a D ty σ Q)
section
variable {o i:Expr}
theorem AeN(T:Top X.K a D)(hi:PE X i ty)(p:PE X o td):PC X .NotIn i o (Aiz a D ty td):=by intro pins s σ H Q I h;refine thn (hi pins s σ H _ I h) λr s1 ⟨y,H1,d,f,q⟩=>thn (p pins s1 σ H1 _ d q) λu l ⟨x,H2,c,m,k,n,ex,j⟩=>?_;subst n ex;obtain⟨tk,rfl⟩:=f;obtain rfl:u=Value.ref a:=m;refine notin_text ⟨T l.heap c.kIn,λb o e=>e⟩ ?_;rw[Acd];exact⟨.bl _,H2,c.tok _,Z,j⟩
theorem AeO{k v:Str}{tk:Tok}(T:Top X.K a D)(I:Inv X pins σ H s)(e:lk D k=some v)(h:∀ t s',Inv X pins σ H s'->Q (.str v t) s') :
  wpAny (model X.prog X.w) A (getItem (.ref a) (.str k tk)) Q E s:=by
 have T':Here s.heap s.heap a (D.map λp=>(p.1,Dat.flat (.str p.2))):=⟨T s.heap I.kIn,λb o e=>e⟩;unfold getItem
 try with_reducible refine z9 ?_
 refine zA (wpAny_sequenceKey T'.typeIs (by decide) ?_);refine zA (wpAny_callSpecial?_slot T'.typeIs F.slot_dict_getitem
  (wpAny_call_entry F.slot_dict_getitem T'.typeIs F.entry_dict_getitem ?_ (args_dict_getitem _ _)));show wpAny _ _ (dictGet a (.str k tk) >>= _) _ _ s;obtain⟨d,l,i⟩:=Aos e;refine zA (dictGet_text T' (λd' c f j=>zE ⟨c,Z,zE ?_⟩) λhn=>by simp_all);rw[l] at f;cases f;subst i;exact Opened.of (P:=λx=>Q x _) (opened_str λt=>h t _ (I.tok _)) c j
theorem Ai2(T:Top X.K a D)(j:PE X o td)(hi:PE X i ty)(q:Ap7 i):PE X (.Subscript o i pos) (AmW a D td ty):=by intro pins s σ H Q I h;refine Ahr F.slot_dict_getitem.lookup q (thn (j pins s σ H _ I h) λu s1 ⟨x,H1,f,z,A⟩=>thn (hi pins s1 σ H1 _ f A) λC c ⟨y,H2,d,w,k,v,n,ex,l,r⟩=>?_);subst ex n;obtain rfl:u=Value.ref a:=z;obtain⟨tk,rfl⟩:=w;have T':Here c.heap c.heap a (D.map λp=>(p.1,Dat.flat (.str p.2))):=⟨T c.heap d.kIn,λb o e=>e⟩;exact⟨T'.typeIs,AeO T d l λt B m=>⟨.str v,H2,m,⟨t,Z⟩,r⟩⟩
end
def Ap9 (K:NF)(a:Addr)(ys:NX):Prop:=∀ H:Hp,SqT K H a (ys.map V.str)
theorem AmX{K:NF}{o:Obj}{its:Array Value}(e:K.lookup a=some o)(c:o.cls=.type "tuple") (d:o.data=.seq its n) (z:its.size<=sizeLine) (r:Vals (ys.map V.str) its.toList):Ap9 K a ys:=λ_=>.inr ⟨o,its,n,e,c,d,z,r⟩
structure DfH (K:NF)(x:Str)(st:Stmt)(f:Addr)(fd:FuncData):Prop where
 a:W.nsIn K mainGlobals x=some (some (.ref f))
 F:Fun K x x st f fd
structure MfH (K:NF)(x q:Str)(st:Stmt)(C f:Addr)(fd:FuncData):Prop where
 m:W.findIn K (.ref C) x=some (some (.ref f))
 g:W.isFn K (.ref f)=true
 F:Fun K x q st f fd
section
variable {K:NF}{mg:Str->NY}
theorem DfH.df{st:Stmt}(D:DfH K x st f fd)(X:K.In h)(G:h.Ns mainGlobals mg)
  (b:∀ kV dc pm an cd ct us,us.length=ps.length->bindArgs (W.fnOf x x (Lh st) (HY st) (Ag st) .none kV dc pm an cd ct) ⟨us,[]⟩=pure (ps.zip us)):Df K mg x st ps f fd:=⟨D.F,W.mg_of X G D.a,D.F.binds b⟩
theorem MfH.meth{st:Stmt}(D:MfH K x q st C f fd):Meth K C x f:=⟨D.m,D.g,D.F.2⟩
theorem MfH.mf{st:Stmt}(D:MfH K x q st C f fd)
  (a:∀ kV dc pm an cd ct us,us.length=ps.length->bindArgs (W.fnOf x q (Lh st) (HY st) (Ag st) .none kV dc pm an cd ct) ⟨us,[]⟩=pure (ps.zip us)):Mf K x q st ps C f fd:=⟨D.F,D.meth,D.F.binds a⟩
structure DfA (K:NF)(mg:Str->NY)(x y:Str)(st:Stmt)(ps:NX)(f:Addr)(fd:FuncData):Prop where
 F:Fun K y y st f fd
 m:mg x=some (.ref f)
 b:Binds K fd ps []
theorem DfA.of{y:Str}{st:Stmt}(a:W.nsIn K mainGlobals x=some (some (.ref f)))(F:Fun K y y st f fd)(X:K.In h)(G:h.Ns mainGlobals mg)
  (b:∀ kV dc pm an cd ct us,us.length=ps.length->bindArgs (W.fnOf y y (Lh st) (HY st) (Ag st) .none kV dc pm an cd ct) ⟨us,[]⟩=pure (ps.zip us)):DfA K mg x y st ps f fd:=⟨F,W.mg_of X G a,F.binds b⟩
theorem sc9{N P:NX}(h:sc.kind=.function/\sc.isCoroutine=false/\sc.isGenerator=false/\N.take P.length=P:=by exact⟨Z,Z,Z,Z⟩)
  (g:N.Nodup/\(∀ x∈P,sc.names.lookup x=some .local\/sc.names.lookup x=some .cell)/\∀ y∈sc.names,y.2≠.free:=by decide +kernel):Am N P sc:=⟨h.1,h.2.1,h.2.2.1,g.1,h.2.2.2,g.2.1,g.2.2⟩
end
theorem Adl(x:Str)(c limit:Nat):∀(k i:Nat)(acc:Array Nat)(free:Nat),free<=i->acc.size+k<=limit ->
  (forIn (List.range' i k) (acc,free) (StrLaws.occBody x ⟨#[c]⟩ x.length limit)).run.fst.size=acc.size+((x.cps.toList.drop i).take k).count c
 | 0,i,acc,free,_,_=>by simp
 | k+1,i,acc,free,hf,hl=>by
  rw[List.range'_succ,AuZ];by_cases hc:x.cps.toList[i]?=some c
  ·have h1:=(StrLaws.subAt_one x c i).mpr hc;have e:StrLaws.occBody x ⟨#[c]⟩ x.length limit i (acc,free)=pure (ForInStep.yield (acc.push i,i+(⟨#[c]⟩:Str).length)):=by
    unfold StrLaws.occBody;rw[if_pos ⟨⟨⟨by show acc.size<limit;omega,hf⟩,h1.1⟩,h1.2⟩]
   rw[e];have b:=Adl x c limit k (i+1) (acc.push i) (i+(⟨#[c]⟩:Str).length) (AtH _) (by rw[Array.size_push];lia);have f:x.cps.toList.drop i=c::x.cps.toList.drop (i+1):=by
    obtain⟨a,d⟩:=zC.mp hc;rw[AuG a,d]
   rw[f,AuH,List.count_cons_self];rw[Array.size_push] at b;refine Eq.trans b ?_;lia
  ·have h1:=λz=>hc ((StrLaws.subAt_one x c i).mp z);have e:StrLaws.occBody x ⟨#[c]⟩ x.length limit i (acc,free)=pure (ForInStep.yield (acc,free)):=by
    unfold StrLaws.occBody;rw[if_neg λz=>h1 ⟨z.1.2,z.2⟩]
   rw[e];have b:=Adl x c limit k (i+1) acc free (by lia) (by lia);refine Eq.trans b ?_;by_cases a:i<x.cps.toList.length
   ·rw[AuG a,AuH,List.count_cons_of_ne];intro z;exact hc (by rw[AtF a];exact congrArg some z)
   ·rw[Avq (by omega),Avq (by omega)];simp
theorem Ace(l:NI)(c:Nat):(Builtin.Str.occurrences (tx l) ⟨#[c]⟩ 0 (tx l).length ((tx l).length+1)).length=l.count c:=by rw[StrLaws.occ_eq];have:= Adl (tx l) c ((tx l).length+1) ((tx l).length+1-0) 0 #[] 0 (AtH _) (by simp);rw[zK,this,GR,Al];simp[Auf]
inductive ApA (x:V)(vs:Na)(H:Hp)(Q:VK):Prop
|mk(u:_)(c:_)(_:x=.str (tx u))(_:vs=[.str ⟨#[c]⟩])(_:Q (.int (u.count c:Nat)) H)
theorem AeP:MtR X "str.count" ApA:=by intro pins s σ H x vs v us Q I b d h;obtain⟨u,c,rfl,rfl,q⟩:=h;obtain⟨t,rfl⟩:=b;obtain⟨e,rfl,a⟩:=d.one;obtain⟨t',rfl⟩:=a;refine call_gives F.slot_str_count (typeIs_str s _ t) F.entry_str_count (F.args_str_count_2 _ _) (gives_str_count _ _ t t') ?_;rw[Ace];exact⟨.int _,H,I.tok _,⟨_,Z⟩,q⟩
theorem Ez.Aka{k:Nat}(r:Ez k A):A.units+100<cLine:=by have:=r.un;omega
section
variable {K:NF}
theorem VP(z:Int):∀ ks:NA,inV (.int z) (vI ks)=decide (z∈ks)
 | []=>by simp[inV,vI]
 | k::ks=>by
  have a:=VP z ks;unfold inV vI at a ⊢;rw[AtM,AuT,a];by_cases h:k=z
  ·subst h;have:eqV (V.int k) (V.int k)=true:=SJ Z;rw[this];simp
  ·have:eqV (V.int k) (V.int z)=false:=by simp[eqV,h]
   rw[this,Bool.false_or];exact z5.mpr (by simp[Ne.symm h])
end
section
variable {k:Nat}{sp:Sp}{E:XK}{o:Expr}{t:TA}
inductive Og (K:NF)(m:Str)(f:Addr)(sp:Sp)(E:XK)(Q:VK)(x:V)(H1:Hp):Prop
|mk(a:_)(dx:_)(fs:_)(C:_)(_:x=.ref a)(_:H1 a=some (.ins C dx fs))(_:fs.lookup m=none)(_:Cls K C)(_:Meth K C m f)(_:sp [x] H1 Q E)
def ApB (K:NF)(m:Str)(f:Addr)(sp:Sp)(E:XK)(ta:TE)(σ:St)(H:Hp)(Q:VK):Prop:=ta σ H (Og K m f sp E Q)
theorem Dt{K:NF}(e:K=X.K)(r:PE X o ta)(F:Bl X.prog X.w X.K X.mg X.base CX k f fd ps sp)(n:Ez k X.A)(i:Binds X.K fd ps [])(j:Passes CX X E)
  (t:eval (.Call (.Attribute o m apos) [] [] pos) X.env=(do
   let ov <- eval o X.env
   standAt apos.atName
   let (f,first) <- holding [ov] (getMethod ov m pl)
   callWith pos f first (backTo pos (starEach [] X.env)) (backToKw pos (keywordEach [] X.env))):=by rfl) :
  PE X (.Call (.Attribute o m apos) [] [] pos) (ApB K m f sp E ta):=by
 subst e;intro pins s σ H Q I h;refine W.methodCall_KW (thn (r pins s σ H _ I h) λu s1 ⟨x,H1,b,p,a,dx,fs,C,ex,ea,l,c,d,q⟩=>?_) t;subst ex;obtain rfl:u=Value.ref a:=p;refine Rz b ea c d l ?_;exact W.callWith_K0 b.kIn d.kp (ZC (us:=[.ref a]) (vs:=[.ref a]) F n i .nil j b (.cons Z .nil) (by simpa using q))
end
def vB (bs:List Bool):Na:=bs.map V.bl
theorem VR(bs:List Bool):(vB bs).length=bs.length:=by unfold vB;rw[AtG]
theorem Wa(bs:List Bool)(b:Bool):vB bs++[.bl b]=vB (bs++[b]):=by unfold vB;rw[AtK];rfl
theorem ZX{bs:List Bool}:∀{us:NW},Vals (bs.map V.bl) us->us=bs.map Value.bool:=by
 induction bs with
 | nil=>intro us r;cases r;rfl
 | cons n ns a =>
  intro us r;cases r with
  | cons c b =>
   cases c;rw[a b];rfl
theorem any_range(bs:List Bool):(List.range bs.length).any (λi=>bs.getD i false)=bs.any id:=by
 rw[AuR,List.any_eq_true,List.any_eq_true];constructor
 ·rintro⟨i,hi,h⟩;have a:=yE.mp hi;refine⟨bs[i],AtT a,?_⟩;rw[AtY,AtF a] at h;exact h
 ·rintro⟨b,c,h⟩;obtain⟨i,hi,e⟩:=Aus c;refine⟨i,yE.mpr hi,?_⟩;rw[AtY,AtF hi,e];exact h
section
variable {K:NF}
inductive AeQ (K:NF)(xs:Na)(H:Hp)(Q:VK):Prop
|mk(a:_)(bs:_)(_:xs=[.ref a])(_:SqL K H a (vB bs))(_:Q (.bl (bs.any id)) H)
theorem Wb(m:X.K=K:=by rfl)(hc:X.calm=true:=by rfl):Fz X (.builtin "any") (AeQ K):=by
 subst m;intro pins s σ H xs us Q I w h;obtain⟨a,bs,rfl,n,q⟩:=h;obtain⟨u,rfl,l⟩:=w.one;cases l;obtain⟨its,r,pl,D⟩:=I.list n;have t:=ZX r;subst t;obtain⟨o,eo,_⟩:=id pl.isList;have d:=Heap.lt_size eo;refine call_any_walk (wpAny_pyIter_list pl.isList ?_);refine⟨_,_,_,_,_,_,λi=>bs.getD i false,Z,Walks.list (A:=X.A.in1) (I.ok.hd hc) _ a (AtU d) (bs.map Value.bool).toArray,⟨⟨_,zD _ Z,Z,Z⟩,pl.isList.push _⟩,?_,λh' tk hk=>?_⟩
 ·intro i v s' B C y j;have f:(bs.map Value.bool)[i]?=some v:=by simpa using y
  rw[AtQ] at f;cases e:bs[i]? with
  | none=>simp_all
  | some b =>
   rw[e] at f;cases f;have z:bs.getD i false=b:=by simp_all
   have c:B (bs.getD i false) s':=j;rw[z] at c;exact yB c
 ·have e1:(List.range ((bs.map Value.bool).toArray).size).any (λi=>bs.getD i false)=bs.any id:=by
   rw[Aub,AtG];exact any_range bs
  rw[e1];refine⟨.bl (bs.any id),H,I.kept (λb x e=>hk b x ?_ (zB _ e)),Z,q⟩;have lt:=Heap.lt_size e;intro p;rw[zF.mp p] at lt;exact Au7 _ lt
end
theorem all_range(bs:List Bool):(List.range bs.length).all (λi=>bs.getD i false)=bs.all id:=by
 rw[AuR,Avc,Avc];constructor
 ·rintro h b c;obtain⟨i,hi,e⟩:=Aus c;have:= h i (yE.mpr hi);rw[AtY,AtF hi,e] at this;exact this
 ·rintro h i hi;have a:=yE.mp hi;rw[AtY,AtF a];exact h _ (AtT a)
section
variable {K:NF}
inductive AeR (K:NF)(xs:Na)(H:Hp)(Q:VK):Prop
|mk(a:_)(bs:_)(_:xs=[.ref a])(_:SqL K H a (vB bs))(_:Q (.bl (bs.all id)) H)
theorem Wc(m:X.K=K:=by rfl)(hc:X.calm=true:=by rfl):Fz X (.builtin "all") (AeR K):=by
 subst m;intro pins s σ H xs us Q I w h;obtain⟨a,bs,rfl,n,q⟩:=h;obtain⟨u,rfl,l⟩:=w.one;cases l;obtain⟨its,r,pl,D⟩:=I.list n;have t:=ZX r;subst t;obtain⟨o,eo,_⟩:=id pl.isList;have d:=Heap.lt_size eo;refine call_all_walk (wpAny_pyIter_list pl.isList ?_);refine⟨_,_,_,_,_,_,λi=>bs.getD i false,Z,Walks.list (A:=X.A.in1) (I.ok.hd hc) _ a (AtU d) (bs.map Value.bool).toArray,⟨⟨_,zD _ Z,Z,Z⟩,pl.isList.push _⟩,?_,λh' tk hk=>?_⟩
 ·intro i v s' B C y j;have f:(bs.map Value.bool)[i]?=some v:=by simpa using y
  rw[AtQ] at f;cases e:bs[i]? with
  | none=>simp_all
  | some b =>
   rw[e] at f;cases f;have z:bs.getD i false=b:=by simp_all
   have c:B (bs.getD i false) s':=j;rw[z] at c;exact yB c
 ·have e1:(List.range ((bs.map Value.bool).toArray).size).all (λi=>bs.getD i false)=bs.all id:=by
   rw[Aub,AtG];exact all_range bs
  rw[e1];refine⟨.bl (bs.all id),H,I.kept (λb x e=>hk b x ?_ (zB _ e)),Z,q⟩;have lt:=Heap.lt_size e;intro p;rw[zF.mp p] at lt;exact Au7 _ lt
inductive AeS (xs:Na)(H:Hp)(Q:VK):Prop
|mk(b:_)(_:xs=[.int b])(_:∀ p,H p=none->Q (.ref p) (upd H p (AeD p 0 b 1)))
theorem Ai3:Fz X (.type "range") AeS:=by intro pins s σ H xs us Q I c h;obtain⟨b,rfl,q⟩:=h;obtain⟨d,rfl,a⟩:=c.one;obtain⟨t,rfl⟩:=a;exact call_range_1 (ZQ I q)
end
theorem Inv.Qp{its:NU}(I:Inv X pins σ H s)
  (k:∀ b o,b∉its->s.heap.get? b=some o->h'.get? b=some o) (d:∀ b∈its,NK X pins H b):Inv X pins σ H { s with heap:=h',toks:=t' }:=by
 have a:∀ b u,H b=some u->b∉its:=λb u e z=>by
  have:=(d b z).1;rw[this] at e;cases e
 have h:X.env.locals∉its:=λz=>(d _ z).2.1 Z;refine I.step (g':=s.gens) (d':=s.drawn) (ch:=its) (λb i=>?_) (λb o _ _ hc e _=>k b o hc e) (λb o _ _ hc e _=>⟨o.slots,k b o hc e⟩) (λ_ _ _ _ n=>n)
  (λb o hc e=>⟨o,k b o hc e⟩) (λ_ _ e=>e) (λ_ _ _ e=>e) (λb ps e=>⟨#[],by rw[e];simp⟩) (λm l=>?_) (λb u e=>?_) I.bare
 ·obtain⟨_,h2,_,h4,h5,p⟩:=d b i;exact⟨h4,h2,h5,p⟩
 ·obtain⟨o,es,j,f,r⟩:=l;exact⟨o,es,j,k _ o h f,r⟩
 ·refine(I.hok b u e).stay (λc v hc q=>k c v ?_ q) (λ_ q=>q) λ_ _ q=>q;rcases hc with z | z
  ·rw[z];exact a b u e
  ·exact a c _ z
section
theorem ZZ(a:A.handled=none)(it:Addr)(x:Str)(t:Tok):Draws prog w A it [it] x.cps.size (λi v=>∃ c u,x.cps[i]?=some c/\v=.str ⟨#[c]⟩ u) (λi h=>h.IsStrIter it (strIterType x) x t i):=by
 unfold strIterType;split
 ·exact Draws.strAscii a it x t
 ·exact Draws.strWide a it x t
structure Wd (z TI TO i1 i2:Addr):Prop where
 TIz:TI≠z
 TOz:TO≠z
 i1z:i1≠z
 i2z:i2≠z
 TITO:TI≠TO
 TIi1:TI≠i1
 TIi2:TI≠i2
 TOi1:TO≠i1
 TOi2:TO≠i2
 i12:i1≠i2
theorem Ai4{TI TO i1 i2:Addr}{k:Nat}{a:Value}(D:Wd z TI TO i1 i2)
  (D1:∀ A':Around,A'.handled=none->Draws prog w A' i1 fp1 n1 P1 S1) (D2:∀ A':Around,A'.handled=none->Draws prog w A' i2 fp2 n2 P2 S2) (J:A.handled=none)
  (f1:∀ c∈fp1,c≠z/\c≠TO/\c≠i2) (f2:∀ c∈fp2,c≠z/\c≠TO/\c≠i1)
  (hz:IsZip s.heap z TI TO .none) (ac:IsPair s.heap TI (.ref i1) (.ref i2)) (aa:IsPair s.heap TO a b) (h1:S1 k s.heap) (h2:S2 k s.heap) (a0:k<n1) (ab:k<n2)
  (hQ:∀ x y h' tk,P1 k x->P2 k y->IsZip h' z TI TO (rawInt s.heap.objs.size)->IsPair h' TO x y->S1 (k+1) h'->S2 (k+1) h'->IsPair h' s.heap.objs.size x y->h'.objs.size=s.heap.objs.size+1 ->
   (∀ c o,c≠z->c≠TO->c≠i1->c≠i2->s.heap.get? c=some o->h'.get? c=some o)->Q (.ref s.heap.objs.size) { s with heap:=h',toks:=tk }) :
  wpAny (model prog w) A (Builtin.«zip.__next__» ⟨[.ref z],[]⟩) (λfin s'=>∃ v,fin=.done (.ret v)/\Q v s') E s:=by
 show wpAny _ _ (field (.ref z) 2 >>= _) _ _ _;refine zA (yA hz Z (x:=.bool false) Z ?_);refine zA (yA hz Z (x:=.ref TI) Z ?_);refine zA (wpAny_seqItems ac Z ?_);refine zA ?_;refine zA (yA hz Z (x:=.none) Z (zE ?_));refine zA (wpAny_rule ?_);refine zA (yA hz Z (x:=.ref TO) Z ?_);refine zA (wpAny_setField_rec hz (by simp) λh₁ P j=>?_);refine zA ?_;simp only [List.zipIdx_cons,List.zipIdx_nil,AuZ,List.forIn_nil];refine zA (zA (wpAny_onRaise ?_));refine zA ((D1 _ J).item k _ _ _ a0 ((D1 A J).frame _ _ _ h1 λc hc o e=>j.extBut _ _ (f1 c hc).1 e) λx K a6 px R d=>zE ?_);have d:Heap.SameBut i1 h₁ K:=d;have r:=d.extBut _ _ D.TOi1 (j.extBut _ _ D.TOz aa);refine zA (wpAny_seqItems r Z ?_);refine zA (wpAny_updateSeq_pair r λL H f=>?_);have f:Heap.SameBut TO K L:=f;refine zA (wpAny_letGo (zE ?_));refine zA (zA (wpAny_onRaise ?_));refine zA ((D2 _ J).item k _ _ _ ab ((D2 A J).frame _ _ _ h2 λc hc o e=>f.extBut _ _ (f2 c hc).2.1 (d.extBut _ _ (f2 c hc).2.2 (j.extBut _ _ (f2 c hc).1 e))) λy X S py O h=>zE ?_);have h:Heap.SameBut i2 L X:=h;have t:=h.extBut _ _ D.TOi2 H;refine zA (wpAny_seqItems t Z ?_);refine zA (wpAny_updateSeq_pair t λm i l=>?_)
 replace i:IsPair m TO x y:=i
 refine zA (wpAny_letGo (zE (zE ?_)));refine zA (wpAny_seqItems i Z ?_);refine zA (wpAny_newTuple ?_);have hsz:m.objs.size=s.heap.objs.size:=by rw[l.1,h.1,f.1,d.1,j.1]
 have C:=l.extBut _ _ D.TOz.symm (h.extBut _ _ D.i2z.symm (f.extBut _ _ D.TOz.symm (d.extBut _ _ D.i1z.symm P)));have U:∀ c o,c≠z->c≠TO->c≠i1->c≠i2->s.heap.get? c=some o->m.get? c=some o:=λc o c1 c2 c3 c4 e =>
  l.extBut _ _ c2 (h.extBut _ _ c4 (f.extBut _ _ c2 (d.extBut _ _ c3 (j.extBut _ _ c1 e))));have M:=(D1 A J).frame _ _ _ R λc hc o e=>l.extBut _ _ (f1 c hc).2.1 (h.extBut _ _ (f1 c hc).2.2 (f.extBut _ _ (f1 c hc).2.1 e));have N:=(D2 A J).frame _ _ _ O λc hc o e=>l.extBut _ _ (f2 c hc).2.1 e;have I:=Heap.lt_size C;refine zA ?_;have T:IsZip (m.push { cls:=.type "tuple", data:=.seq #[x,y] }) z TI TO .ellipsis:=zB _ C;refine zA (wpAny_setField_rec T (by simp) λY n q=>?_)
 replace n:IsZip Y z TI TO (rawInt m.objs.size):=n
 refine wpAny_setField_rec n (by simp) λF B p=>?_;have up:∀ c o,c≠z->m.get? c=some o->F.get? c=some o:=λc o c1 e=>p.extBut _ _ c1 (q.extBut _ _ c1 (zB _ e));have u:=p.extBut _ _ (AuD I) (q.extBut _ _ (AuD I) (zD _ Z));have W:F.objs.size=m.objs.size+1:=by rw[p.1,q.1,Heap.size_push]
 rw[hsz] at B u W;refine zE ⟨_,Z,?_⟩;rw[hsz];exact hQ x y F S px py B (up _ _ D.TOz i) ((D1 A J).frame _ _ _ M λc hc o e=>up _ o (f1 c hc).1 e) ((D2 A J).frame _ _ _ N λc hc o e=>up _ o (f2 c hc).1 e) u W λc o c1 c2 c3 c4 e=>up c o c1 (U c o c1 c2 c3 c4 e)
theorem Akb{TI TO i1 i2:Addr}{k:Nat}{a:Value}{Q:Fin->Shared->Prop}(D:Wd z TI TO i1 i2)
  (L:∀ A':Around,A'.handled=none->Draws prog w A' i1 fp1 n1 P1 S1) (S:∀ A':Around,A'.handled=none->Draws prog w A' i2 fp2 n2 P2 S2) (B:A.handled=none)
  (f1:∀ c∈fp1,c≠z/\c≠TO/\c≠i2) (f2:∀ c∈fp2,c≠z/\c≠TO/\c≠i1)
  (F:IsZip s.heap z TI TO .none) (R:IsPair s.heap TI (.ref i1) (.ref i2)) (M:IsPair s.heap TO a b) (h1:S1 k s.heap) (h2:S2 k s.heap) (H:k=n1\/(k<n1/\k=n2))
  (T:∀ h' e tk,(∀ c o,c≠z->c≠TO->c≠i1->c≠i2->s.heap.get? c=some o->h'.get? c=some o)->(∃ o,h'.get? e=some o/\o.cls=.type "StopIteration")->E (.ref e) { s with heap:=h',toks:=tk }) :
  wpAny (model prog w) A (Builtin.«zip.__next__» ⟨[.ref z],[]⟩) Q E s:=by
 show wpAny _ _ (field (.ref z) 2 >>= _) _ _ _;refine zA (yA F Z (x:=.bool false) Z ?_);refine zA (yA F Z (x:=.ref TI) Z ?_);refine zA (wpAny_seqItems R Z ?_);refine zA ?_;refine zA (yA F Z (x:=.none) Z (zE ?_));refine zA (wpAny_rule ?_);refine zA (yA F Z (x:=.ref TO) Z ?_);refine zA (wpAny_setField_rec F (by simp) λh₁ m h=>?_);refine zA ?_;simp only [List.zipIdx_cons,List.zipIdx_nil,AuZ,List.forIn_nil];refine zA (zA (wpAny_onRaise ?_));have U:=(L A B).frame _ _ _ h1 λc hc o e=>h.extBut _ _ (f1 c hc).1 e;rcases H with hk | ⟨J,hk⟩
 ·subst hk;refine zA ((L _ B).done _ _ _ U λj e d N=>?_);obtain⟨P,r,v⟩:=N;have q:IsZip j z TI TO .ellipsis:=d _ _ D.i1z.symm m;have t:e≠z:=λx=>by grind
  refine wpAny_setField_rec q (by simp) λp _ f=>T p e _ (λc o c1 _ c3 _ x=>f.extBut _ _ c1 (d _ _ c3 (h.extBut _ _ c1 x))) ⟨P,f.extBut _ _ t r,v⟩
 ·refine zA ((L _ B).item k _ _ _ J U λx j K px O d=>zE ?_);have d:Heap.SameBut i1 h₁ j:=d;have i:=d.extBut _ _ D.TOi1 (h.extBut _ _ D.TOz M);refine zA (wpAny_seqItems i Z ?_);refine zA (wpAny_updateSeq_pair i λp I f=>?_);have f:Heap.SameBut TO j p:=f;refine zA (wpAny_letGo (zE ?_));refine zA (zA (wpAny_onRaise ?_));subst hk;refine zA ((S _ B).done _ _ _ ((S A B).frame _ _ _ h2 λc hc o e=>f.extBut _ _ (f2 c hc).2.1 (d.extBut _ _ (f2 c hc).2.2 (h.extBut _ _ (f2 c hc).1 e))) λy e n N=>?_);obtain⟨P,r,v⟩:=N;have u:IsZip y z TI TO .ellipsis:=n _ _ D.i2z.symm (f.extBut _ _ D.TOz.symm (d.extBut _ _ D.i1z.symm m));have t:e≠z:=λx=>by grind
  refine wpAny_setField_rec u (by simp) λC _ l=>T C e _ (λc o c1 c2 c3 W x=>l.extBut _ _ c1 (n _ _ W (f.extBut _ _ c2 (d.extBut _ _ c3 (h.extBut _ _ c1 x))))) ⟨P,l.extBut _ _ t r,v⟩
theorem Ag2{TI TO i1 i2:Addr}{k:Nat}{a:Value}{Q:NY->Shared->Prop}(D:Wd z TI TO i1 i2)
  (q:∀ A':Around,A'.handled=none->Draws prog w A' i1 fp1 n1 P1 S1) (l:∀ A':Around,A'.handled=none->Draws prog w A' i2 fp2 n2 P2 S2) (n:A.handled=none)
  (f1:∀ c∈fp1,c≠z/\c≠TO/\c≠i2) (f2:∀ c∈fp2,c≠z/\c≠TO/\c≠i1)
  (i:IsZip s.heap z TI TO .none) (h:IsPair s.heap TI (.ref i1) (.ref i2)) (d:IsPair s.heap TO a b) (h1:S1 k s.heap) (h2:S2 k s.heap) (e:k<n1) (f:k<n2)
  (m:∀ x y h' tk,P1 k x->P2 k y->IsZip h' z TI TO (rawInt s.heap.objs.size)->IsPair h' TO x y->S1 (k+1) h'->S2 (k+1) h'->IsPair h' s.heap.objs.size x y->h'.objs.size=s.heap.objs.size+1 ->
   (∀ c o,c≠z->c≠TO->c≠i1->c≠i2->s.heap.get? c=some o->h'.get? c=some o)->Q (some (.ref s.heap.objs.size)) { s with heap:=h',toks:=tk }) :
  wpAny (model prog w) A (pyNext (.ref z)) Q E s:=by
 have j:s.TypeIs (.ref z) "zip" := ⟨_,i,Z⟩;exact zA (wpAny_attempt (wpAny_callSpecial?_slot j F.slot_zip_next
  (wpAny_call_entry F.slot_zip_next j F.entry_zip_next
   (Ai4 D q l n f1 f2 i h d h1 h2 e f λx y h' tk a1 a2 a3 a4 a5 p a7 a8 a9=>zE (m x y h' tk a1 a2 a3 a4 a5 p a7 a8 a9)) (F.args_zip_next_1 _))))
theorem Ai5{TI TO i1 i2:Addr}{k:Nat}{a:Value}{Q:NY->Shared->Prop}(D:Wd z TI TO i1 i2)
  (r:∀ A':Around,A'.handled=none->Draws prog w A' i1 fp1 n1 P1 S1) (l:∀ A':Around,A'.handled=none->Draws prog w A' i2 fp2 n2 P2 S2) (n:A.handled=none)
  (f1:∀ c∈fp1,c≠z/\c≠TO/\c≠i2) (f2:∀ c∈fp2,c≠z/\c≠TO/\c≠i1)
  (i:IsZip s.heap z TI TO .none) (h:IsPair s.heap TI (.ref i1) (.ref i2)) (f:IsPair s.heap TO a b) (h1:S1 k s.heap) (h2:S2 k s.heap) (d:k=n1\/(k<n1/\k=n2))
  (m:∀ h' tk,(∀ c o,c≠z->c≠TO->c≠i1->c≠i2->s.heap.get? c=some o->h'.get? c=some o)->Q none { s with heap:=h',toks:=tk }):wpAny (model prog w) A (pyNext (.ref z)) Q E s:=by
 have j:s.TypeIs (.ref z) "zip" := ⟨_,i,Z⟩;refine zA (wpAny_attempt (wpAny_callSpecial?_slot j F.slot_zip_next
  (wpAny_call_entry F.slot_zip_next j F.entry_zip_next (Akb D r l n f1 f2 i h f h1 h2 d λh' e tk hk p=>?_) (F.args_zip_next_1 _))));obtain⟨o,q,hc⟩:=p;refine zA (wpAny_isInstance ⟨o,q,hc⟩ isSubtype_stop ?_);exact zE (m _ _ hk)
abbrev Td (x:Str)(t:Tok):Obj:={ cls:=.type (strIterType x),data:=.fields #[.str x t,.int 0 0] }
abbrev Akc (l:Addr):Obj:={ cls:=.type "list_iterator", data:=.fields #[.ref l,.int 0 0] }
abbrev Ka (h:Heap)(o1 o2:Obj):Heap:=((((h.push o1).push o2).push { cls:=.type "tuple", data:=.seq #[.ref h.objs.size,.ref (h.push o1).objs.size] }).push { cls:=.type "tuple", data:=.seq #[.none,.none] }).push
 { cls:=.type "zip", data:=.fields #[.none,.bool false,.bool false,.ref ((h.push o1).push o2).objs.size,.ref (((h.push o1).push o2).push { cls:=.type "tuple", data:=.seq #[.ref h.objs.size,.ref (h.push o1).objs.size] }).objs.size] }
abbrev Acf (h:Heap)(o1 o2:Obj):Addr:=((((h.push o1).push o2).push { cls:=.type "tuple", data:=.seq #[.ref h.objs.size,.ref (h.push o1).objs.size] }).push { cls:=.type "tuple", data:=.seq #[.none,.none] }).objs.size
set_option maxHeartbeats 4000000 in
theorem AeT(a:Addr)(xs:Array Value)(x:Str)(t:Tok) :
  Meets (Builtin.«zip.__new__» ⟨[.type "zip", .ref a,.str x t],[]⟩) (λ_ R s=>s.heap.IsList a xs/\R (.ok (.ret (.ref (Acf s.heap (Akc a) (Td x t))))) { s with heap:=Ka s.heap (Akc a) (Td x t) }) :=
 .of_wp λprog w A R s h=>by
  obtain⟨f,g,d,tk,os⟩:=s;obtain⟨c,h⟩:=h;have e:=sub_zip;have b:Heap.IsList (Shared.heap ⟨f,g,d,tk,os⟩) a xs:=c
  wp_walk using wpAny_pyIter_list b,wpAny_pyIter_strU
  exact⟨_,Z,h⟩
set_option maxHeartbeats 4000000 in
theorem AeU(y:Str)(u:Tok)(x:Str)(t:Tok) :
  Meets (Builtin.«zip.__new__» ⟨[.type "zip", .str y u,.str x t],[]⟩) (λ_ R s=>R (.ok (.ret (.ref (Acf s.heap (Td y u) (Td x t))))) { s with heap:=Ka s.heap (Td y u) (Td x t) }) :=
 .of_wp λprog w A R s h=>by
  obtain⟨b,g,d,tk,os⟩:=s;have a:=sub_zip
  wp_walk using wpAny_pyIter_strU
  exact⟨_,Z,h⟩
end
inductive Src where
 | l (a:Addr)
 | s (z:Str)
def Arz:Src->V
 | .l a=>.ref a
 | .s z=>.str z
def Aaa (K:NF)(H:Hp):Src->Prop
 | .l a=>∃ xs,SqL K H a xs
 | .s _=>True
def Kc (K:NF)(H:Hp):Src->Nat->V->Prop
 | .l a,i,v=>∃ xs,SqL K H a xs/\xs[i]?=some v
 | .s z,i,v=>∃ c,z.cps[i]?=some c/\v=.str ⟨#[c]⟩
def Ag3 (K:NF)(H:Hp):Src->Nat->Prop
 | .l a,i=>∃ xs,SqL K H a xs/\xs.length=i
 | .s z,i=>z.cps.size=i
def Te (it:Addr)(t:Tok):Src->Nat->Heap->Prop
 | .l a,i,h=>h.IsListIter it a i
 | .s z,i,h=>h.IsStrIter it (strIterType z) z t i
def Akd (it:Addr):Src->NU
 | .l a=>[it,a]
 | .s _=>[it]
theorem Aab(I:Inv X pins σ H s){u:V}(h1:Kc X.K H S i u)(h2:Kc X.K H S i v):u=v:=by
 cases S with
 | l a =>
  obtain⟨xs,e,e1⟩:=h1;obtain⟨ys,b,e2⟩:=h2;rw[I.Ny b e,e1] at e2;exact Option.some.inj e2
 | s z =>
  obtain⟨c,e1,rfl⟩:=h1;obtain⟨d,e2,rfl⟩:=h2;rw[e1] at e2;cases e2;rfl
theorem Qq(I:Inv X pins σ H s)(st:Te it t S i s.heap)(ok:Aaa X.K H S)(C:∀ a,S=.l a->a≠it) :
  ∃(n:Nat)(A:Nat->Value->Prop)(j:Nat->Heap->Prop),(∀ b:Around,b.handled=none->Draws X.prog X.w b it (Akd it S) n A j)/\j i s.heap/\(∀ h',j (i+1) h'->Te it t S (i+1) h') /\
   (∀ v,Kc X.K H S i v->i<n/\∀ u,A i u->RelV v u)/\(Ag3 X.K H S i->i=n):=by
 cases S with
 | l a =>
  obtain⟨xs,q⟩:=ok;obtain⟨its,y,p1,_⟩:=I.list q;have len:=y.length;refine⟨_,_,_,λb h=>Draws.list h it a (C a Z) its.toArray,⟨st,p1.isList⟩,λh' z=>z.1,λv p=>?_,λx=>?_⟩
  ·obtain⟨ys,f,e⟩:=p;rw[I.Ny f q] at e;obtain⟨u,m,r⟩:=y.get e;refine⟨by have:= (zC.mp m).1;simpa using this,λB o=>?_⟩;have:its[i]?=some B:=by simpa using o
   grind
  ·obtain⟨ys,f,e⟩:=x;rw[I.Ny f q] at e;grind
 | s z =>
  refine⟨_,_,_,λb h=>ZZ h it z t,st,λh' z=>z,λv p=>?_,λx=>x.symm⟩;obtain⟨c,e,rfl⟩:=p;refine⟨by rw[Array.getElem?_eq_some_iff] at e;exact e.1,λu ⟨d,tk,e2,m⟩=>?_⟩;rw[e] at e2;cases e2;exact⟨tk,m⟩
def Aac (K:NF)(S1 S2:Src):It where
 go:=λi H=>(∃ u,Kc K H S1 i u)/\∃ v,Kc K H S2 i v
 yld:=λi H x H'=>∃ T,x=.ref T/\H T=none/\∀ u v,Kc K H S1 i u->Kc K H S2 i v->H'=upd H T (.tup [u,v])
 stop:=λi H=>Aaa K H S1/\Aaa K H S2/\(Ag3 K H S1 i\/((∃ u,Kc K H S1 i u)/\Ag3 K H S2 i))
theorem AeV{K:NF}{u:V}(h:Kc K H S i u):Aaa K H S:=by
 cases S with
 | l a=>obtain⟨xs,q,_⟩:=h;exact⟨xs,q⟩
 | s z=>trivial
def ApC (z TI TO i1 i2:Addr)(t1 t2:Tok)(S1 S2:Src)(i:Nat)(h:Heap):Prop:=IsZip h z TI TO .none/\IsPair h TI (.ref i1) (.ref i2)/\(∃ p q,IsPair h TO p q)/\Te i1 t1 S1 i h/\Te i2 t2 S2 i h
theorem Tf(st:Te it t S i h)(k:∀ o,h.get? it=some o->h'.get? it=some o):Te it t S i h':=by
 cases S with
 | l a=>exact Heap.IsListIter.at st k
 | s z=>obtain⟨o,e,c⟩:=st;exact⟨o,k o e,c⟩
theorem Qs(st:Te it t S i h):∃ o,h.get? it=some o/\∀ v,o.data≠.cell v:=by
 cases S with
 | l a=>obtain⟨o,e,_,d⟩:=st;exact⟨o,e,λv z=>by simp_all⟩
 | s z=>obtain⟨o,e,_,d⟩:=st;exact⟨o,e,λv z=>by simp_all⟩
theorem Ai6{K:NF}{tp:Pos}{TI TO i1 i2:Addr}{t1 t2:Tok}{S1 S2:Src}(D:Wd z TI TO i1 i2)
  (a1:∀ a,S1=.l a->a≠z/\a≠TO/\a≠i1/\a≠i2) (a2:∀ a,S2=.l a->a≠z/\a≠TO/\a≠i1/\a≠i2) :
  Turn P w K (.Tuple es kx tp) (Aac K S1 S2) [z,TI,TO,i1,i2] z (ApC z TI TO i1 i2 t1 t2 S1 S2):=by
 have f1:∀ c∈Akd i1 S1,c≠z/\c≠TO/\c≠i2:=λc hc=>by
  cases S1 with
  | l a =>
   rcases yD.mp hc with e | e
   ·subst e;exact⟨D.i1z,D.TOi1.symm,D.i12⟩
   ·rw[zF.mp e];exact⟨(a1 a Z).1,(a1 a Z).2.1,(a1 a Z).2.2.2⟩
  | s x=>rw[zF.mp hc];exact⟨D.i1z,D.TOi1.symm,D.i12⟩
 have f2:∀ c∈Akd i2 S2,c≠z/\c≠TO/\c≠i1:=λc hc=>by
  cases S2 with
  | l a =>
   rcases yD.mp hc with e | e
   ·subst e;exact⟨D.i2z,D.TOi2.symm,D.i12.symm⟩
   ·rw[zF.mp e];exact⟨(a2 a Z).1,(a2 a Z).2.1,(a2 a Z).2.2.1⟩
  | s x=>rw[zF.mp hc];exact⟨D.i2z,D.TOi2.symm,D.i12.symm⟩
 exact {
  mem:=by simp
  obj:=λi h st c hc=>by
   obtain⟨s1,b,⟨p,q,m⟩,d,j⟩:=st;simp only [Aui,Auj,or_false] at hc;rcases hc with e | e | e | e | e
   ·simp_all
   ·simp_all
   ·simp_all
   ·subst e;exact Qs d
   ·subst e;exact Qs j
  keep:=λi h h' st k=>by
   obtain⟨s1,b,⟨p,q,m⟩,d,j⟩:=st;exact⟨k _ (by simp) _ s1,k _ (by simp) _ b,⟨p,q,k _ (by simp) _ m⟩,Tf d λo e=>k _ (by simp) o e,Tf j λo e=>k _ (by simp) o e⟩
  item:=by
   intro X F U Q hc i pins s σ H E I R st B;subst F U Q;obtain⟨⟨x,J⟩,y,M⟩:=B;obtain⟨s1,b,⟨p,q,m⟩,d,j⟩:=st;obtain⟨n1,P1,Q1,S,N,e1,L,_⟩:=Qq I d (AeV J) (λa e=>(a1 a e).2.2.1);obtain⟨n2,P2,Q2,O,g2,e2,W,_⟩:=Qq I j (AeV M) (λa e=>(a2 a e).2.2.2);obtain⟨l1,r1⟩:=L x J;obtain⟨l2,r2⟩:=W y M;refine Ag2 D S O (I.ok.hd hc) f1 f2 s1 b m N g2 l1 l2 λu v h1 tk pu pv z1 w1 j1 j2 hT hsz t=>?_;have Y:=r1 u pu;have T:=r2 v pv;refine⟨_,Z,wpAny_letOwnedTupleGo_zip z1 λh2 z2 sb=>?_⟩;have zl:=Heap.lt_size s1;have ab:=Heap.lt_size b;have a6:=Heap.lt_size m;have aa:i1<s.heap.objs.size:=by obtain⟨_,e,_⟩:=Qs d;exact Heap.lt_size e
   have a0:i2<s.heap.objs.size:=by obtain⟨_,e,_⟩:=Qs j;exact Heap.lt_size e
   have up:∀ c o,c≠z->h1.get? c=some o->h2.get? c=some o:=λc o c1 e=>(sb.2 c c1).trans e;have A:=I.hok.fresh (AtH _);have I1:Inv X pins σ (upd H s.heap.objs.size (.tup [x,y])) { s with heap:=s.heap.push { cls:=.type "tuple", data:=.seq #[u,v] },toks:=tk } :=
    I.laid (λc o e=>zB _ e) (AtH _) ⟨by show 2<=sizeLine;decide,[u,v],.cons Y (.cons T .nil),⟨_,zD _ Z,Z,_,Z⟩⟩;have fp2:∀ c∈[z,TI,TO,i1,i2],NK X pins (upd H s.heap.objs.size (.tup [x,y])) c:=λc hc=>by
    obtain⟨f0,f⟩:=R c hc;refine⟨?_,f⟩;have lt:c<s.heap.objs.size:=by
     simp only [Aui,Auj,or_false] at hc;rcases hc with e | e | e | e | e <;> subst e <;> assumption
    rw[Aj (AtU lt)];exact f0
   have I2:Inv X pins σ (upd H s.heap.objs.size (.tup [x,y])) { s with heap:=h2,toks:=tk }:=by
    refine Inv.Qp (s:={ s with heap:=s.heap.push { cls:=.type "tuple", data:=.seq #[u,v] },toks:=tk }) I1 (λc o hc e=>?_) fp2;simp only [Aui,Auj,or_false,not_or] at hc;refine up c o hc.1 ?_;by_cases r:c=s.heap.objs.size
    ·subst r;have C:(s.heap.push { cls:=.type "tuple", data:=.seq #[u,v] }).get? s.heap.objs.size=some { cls:=.type "tuple", data:=.seq #[u,v] }:=zD _ Z;rw[C] at e;cases e;exact hT
    ·have C:s.heap.get? c=some o:=by
      rw[<- e];exact(Heap.get?_push_ne _ _ _ r).symm
     exact t c o hc.1 hc.2.2.1 hc.2.2.2.1 hc.2.2.2.2 C
   refine⟨.ref s.heap.objs.size,_,I2,Z,⟨s.heap.objs.size,Z,A,λu' v' q1 q2=>?_⟩,⟨z2,up _ _ D.TIz (t _ _ D.TIz D.TITO D.TIi1 D.TIi2 b),⟨u,v,up _ _ D.TOz w1⟩,Tf (e1 _ j1) λo e=>up _ o D.i1z e,Tf (e2 _ j2) λo e=>up _ o D.i2z e⟩,λc hc=>(fp2 c hc).1⟩;rw[Aab I q1 J,Aab I q2 M]
  done:=by
   intro X F U Q hc i pins s σ H E I R st B;subst F U Q;obtain⟨o1,o2,n⟩:=B;obtain⟨s1,b,⟨p,q,m⟩,d,j⟩:=st;obtain⟨n1,P1,Q1,S,N,e1,L,d1⟩:=Qq I d o1 (λa e=>(a1 a e).2.2.1);obtain⟨n2,P2,Q2,O,g2,e2,W,d2⟩:=Qq I j o2 (λa e=>(a2 a e).2.2.2);have he:i=n1\/(i<n1/\i=n2):=by
    rcases n with h | ⟨⟨u,hu⟩,h⟩
    ·exact .inl (d1 h)
    ·exact .inr ⟨(L u hu).1,d2 h⟩
   refine Ai5 D S O (I.ok.hd hc) f1 f2 s1 b m N g2 he λh' tk t=>⟨Z,I.Qp (λc o hc e=>?_) R⟩;simp only [Aui,Auj,or_false,not_or] at hc;exact t c o hc.1 hc.2.2.1 hc.2.2.2.1 hc.2.2.2.2 e
  self:=λ_ _ _ _ _ st h=>wpAny_pyIter_zip st.1 h }
theorem AeW{o1 o2:Obj}(e1:o1.isFreed=false)(e2:o2.isFreed=false):Acf h o1 o2=h.objs.size+4/\IsZip (Ka h o1 o2) (h.objs.size+4) (h.objs.size+2) (h.objs.size+3) .none /\
  IsPair (Ka h o1 o2) (h.objs.size+2) (.ref h.objs.size) (.ref (h.objs.size+1))/\IsPair (Ka h o1 o2) (h.objs.size+3) .none .none/\(Ka h o1 o2).get? h.objs.size=some o1/\(Ka h o1 o2).get? (h.objs.size+1)=some o2 /\
  ∀ c o,h.get? c=some o->(Ka h o1 o2).get? c=some o:=by
 have a:(h.push o1).objs.size=h.objs.size+1:=Heap.size_push ..;have d:((h.push o1).push o2).objs.size=h.objs.size+2:=by rw[Heap.size_push,a]
 have b:(((h.push o1).push o2).push { cls:=.type "tuple", data:=.seq #[.ref h.objs.size,.ref (h.push o1).objs.size] }).objs.size=h.objs.size+3:=by rw[Heap.size_push,d]
 have e:Acf h o1 o2=h.objs.size+4:=by unfold Acf;rw[Heap.size_push,b]
 have g5:(Ka h o1 o2).get? (Acf h o1 o2)=some _:=zD _ Z;have g4:(Ka h o1 o2).get? (((h.push o1).push o2).push { cls:=.type "tuple", data:=.seq #[.ref h.objs.size,.ref (h.push o1).objs.size] }).objs.size=some _:=zB _ (zD _ Z);have g3:(Ka h o1 o2).get? ((h.push o1).push o2).objs.size=some _:=zB _ (zB _ (zD _ Z));have g2:(Ka h o1 o2).get? (h.push o1).objs.size=some o2:=zB _ (zB _ (zB _ (zD _ e2)));have f:(Ka h o1 o2).get? h.objs.size=some o1:=zB _ (zB _ (zB _ (zB _ (zD _ e1))));refine⟨e,?_,?_,?_,f,?_,λc o x=>zB _ (zB _ (zB _ (zB _ (zB _ x))))⟩
 ·rw[e,d,b] at g5;exact g5
 ·rw[d,a] at g3;exact g3
 ·rw[b] at g4;exact g4
 ·rw[a] at g2;exact g2
theorem ane{a b:Nat}(h:a≠b):@Ne Addr a b:=h
theorem lne{a:Nat}(h:a<n)(k:Nat):@Ne Addr a (n+k):=λz=>by have z:a=n+k:=z;omega
theorem Ag4(n:Nat):Wd (n+4) (n+2) (n+3) n (n+1) where
 TIz:=ane (by lia)
 TOz:=ane (by lia)
 i1z:=ane (by lia)
 i2z:=ane (by lia)
 TITO:=ane (by lia)
 TIi1:=ane (by lia)
 TIi2:=ane (by lia)
 TOi1:=ane (by lia)
 TOi2:=ane (by lia)
 i12:=ane (by lia)
section
variable {tp:Pos}
def zOk:Src->Src->Prop
 | .s _,.l _=>False
 | _,_=>True
inductive AmY (K:NF)(R:(It->Hp->Prop))(vs:Na)(H1:Hp):Prop
|mk(S1:_)(S2:_)(_:vs=[Arz S1,Arz S2])(_:zOk S1 S2)(_:Aaa K H1 S1)(_:Aaa K H1 S2)(_:R (Aac K S1 S2) H1)
def Ar0 (K:NF)(ta:TA)(σ:St)(H:Hp)(R:(It->Hp->Prop)):Prop:=ta σ H (AmY K R)
theorem Adm{K:NF}{a b:Expr}{ta:TA}{p:Pos}(Q:Gl X "zip") (Y:X.mg "zip" = none) (ha:PA X [a,b] ta) (W:X.K=K:=by rfl) (hs:starEach [a,b] X.env=[(false,eval a X.env),(false,eval b X.env)]:=by rfl) (v:starEach [b] X.env=[(false,eval b X.env)]:=by rfl) :
  PI X (.Tuple es kx tp) (.Call (.Name "zip" p) [a,b] [] pos) (Ar0 K ta):=by
 subst W;intro pins s σ H R I h;refine Call_ (Hr I Q Y Ap0 (PyProof.Rows.callWith_type1 (thn (ha pos pins s σ H _ I h) λus s1 ⟨vs,H1,u,r1,U⟩=>?_) (by rw[hs,v]) (by rw[v];rfl)));obtain⟨S1,S2,e,hz,o1,o2,q⟩:=U;subst e;obtain⟨u1,u2,rfl,z,m⟩:=r1.two;have fin:∀(r P:Tok)(h':Heap)(tk:Nat),IsZip h' (s1.heap.objs.size+4) (s1.heap.objs.size+2) (s1.heap.objs.size+3) .none->IsPair h' (s1.heap.objs.size+2) (.ref s1.heap.objs.size) (.ref (s1.heap.objs.size+1))->IsPair h' (s1.heap.objs.size+3) .none .none ->
   Te s1.heap.objs.size r S1 0 h'->Te (s1.heap.objs.size+1) P S2 0 h'->(∀ c o,s1.heap.get? c=some o->h'.get? c=some o) ->
   wpAny (model X.prog X.w) X.A (pyIter (.ref (s1.heap.objs.size+4))) (PIE X pins σ (.Tuple es kx tp) R) X.xe { s1 with heap:=h',toks:=tk }:=λr P h' tk d n i L J f=>by
  refine wpAny_pyIter_zip d ?_;have lt:∀ S:Src,Aaa X.K H1 S->∀ a,S=.l a->a<s1.heap.objs.size:=λS ok a e=>by
   subst e;obtain⟨xs,q⟩:=ok;obtain⟨its,_,p1,_⟩:=u.list q;obtain⟨o,e,_⟩:=p1.isList;exact Heap.lt_size e
  refine⟨_,[s1.heap.objs.size+4,s1.heap.objs.size+2,s1.heap.objs.size+3,s1.heap.objs.size,s1.heap.objs.size+1],_,_,H1,Z,u.kept f,Ai6 (Ag4 _) (λa e=>?_) (λa e=>?_),
   ⟨d,n,⟨_,_,i⟩,L,J⟩,λc hc=>?_,q⟩
  ·have:= lt S1 o1 a e;exact⟨lne this 4,lne this 3,lne this 0,lne this 1⟩
  ·have:= lt S2 o2 a e;exact⟨lne this 4,lne this 3,lne this 0,lne this 1⟩
  ·have O:s1.heap.objs.size<=c:=by
    grind
   exact u.Aid O (u.hok.fresh O)
 cases S1 with
 | l a =>
  cases z;obtain⟨xs,E⟩:=id o1;obtain⟨B,T,p1,_⟩:=u.list E;cases S2 with
  | l b =>
   cases m;obtain⟨ys,M⟩:=id o2;obtain⟨N,a0,p2,_⟩:=u.list M;refine call_zip_2 p1.isList p2.isList λh' d n i L J hsz f=>fin 0 0 h' s1.toks d n i L J f
  | s x =>
   obtain⟨t,rfl⟩:=m;refine callType_new F.called_zip (by decide) (F.typeCall_zip_2 _ _) (F.newCall_zip_2 _ _) (λj=>F.args_object_init_3 j _ _) F.entry_zip_new (AeT a B.toArray x t) ⟨p1.isList,?_⟩;obtain⟨D,g5,g3,g4,C,g2,f⟩:=AeW (o1:=Akc a) (o2:=Td x t) Z rfl;show _/\_;rw[D];exact⟨⟨_,g5,Z⟩,fin 0 t _ s1.toks g5 g3 g4 ⟨_,C,Z,Z⟩ ⟨_,g2,Z,Z⟩ f⟩
 | s y =>
  obtain⟨r,rfl⟩:=z;cases S2 with
  | l b=>exact hz.elim
  | s x =>
   obtain⟨t,rfl⟩:=m;refine callType_new F.called_zip (by decide) (F.typeCall_zip_2 _ _) (F.newCall_zip_2 _ _) (λj=>F.args_object_init_3 j _ _) F.entry_zip_new (AeU y r x t) ?_;obtain⟨D,g5,g3,g4,C,g2,f⟩:=AeW (o1:=Td y r) (o2:=Td x t) Z rfl;rw[D];exact⟨⟨_,g5,Z⟩,fin r t _ s1.toks g5 g3 g4 ⟨_,C,Z,Z⟩ ⟨_,g2,Z,Z⟩ f⟩
end
structure Lq (X:Cx)(x x':Str)(Nc:NX)(Bv:NI)(scope:Scope):Prop where
 kind:scope.kind=.function
 cell:∀ y∈scope.names,y.2≠.cell
 names:∀ y∈scope.names,y.2=.local->scope.names.lookup y.1=some .local
 fr:∀ y∈scope.names,y.2=.free->X.env.scope.names.lookup y.1=some .cell/\scope.names.lookup y.1=some .free
 loc:scope.names.lookup x=some .local
 AsU:scope.names.lookup x'=some .local
 len:Nc.length=Bv.length+2
 hd:Nc[0]?=some x
 hd2:Nc[1]?=some x'
 nd:Nc.Nodup
 cap:∀ k j,Bv[k]?=some j->∃ y,Nc[k+2]?=some y/\X.N[j]?=some y/\scope.names.lookup y=some .free
def Zm (K:NF)(Bv:NI)(tc:TT)(te:TE)(J:It)(σ:St)(H:Hp)(Q:VK):Prop :=
 ∃ W:Nat->Nat->Na->Hp->Prop,(∃ m,W 0 m [] H)/\∀ i m ys H,W i m ys H ->
  (J.stop i H/\ys.length<=sizeLine/\∀ p,H p=none->Q (.ref p) (upd H p (.lst ys))) \/
  (J.go i H/\ys.length<sizeLine/\∀ x H',J.yld i H x H'->∃ a u v,x=.ref a/\SqT K H' a [u,v]/\tc (some u::some v::Li σ Bv) H' λb H2 =>
   if b=true then te (some u::some v::Li σ Bv) H2 λy H3=>∃ m',m'<m/\W (i+1) m' (ys++[y]) H3 else ∃ m',m'<m/\W (i+1) m' ys H2)
abbrev Ake (K:NF)(Bv:NI)(tc:TT)(te:TE)(σ:St)(Q:VK)(J:It)(H1:Hp):Prop:=Zm K Bv tc te J σ H1 Q
def Akf (K:NF)(wi:TI)(Bv:NI)(tc:TT)(te:TE)(σ:St)(H:Hp)(Q:VK):Prop:=wi σ H (Ake K Bv tc te σ Q)
theorem Lq.g(O:Lq X x x' Nc Bv scope):ZJ X 2 Nc Bv scope:=⟨O.kind,O.names,O.fr,O.len,O.cap⟩
abbrev g2 (K:NF):TG:=AqI K 2 (Aj2 (JW 0) (Aj2 (JW 1) AqH))
theorem Ar1{K:NF}{J:It}{Q:VK}(h:Zm K Bv tc te J σ H Q):Adf (g2 K) 2 Bv tc te J σ H Q:=by
 obtain⟨W,c,b⟩:=h;refine⟨W,c,λi m ys H w=>(b i m ys H w).imp id λ⟨g,l,k⟩=>⟨g,l,λx H' y os d=>?_⟩⟩;obtain⟨a,u,v,rfl,e,k⟩:=k x H' y
 match os,d with
 | [_,_],_=>exact⟨a,[u,v],Z,e,Z,u,[v],Z,v,[],Z,Z,[some u,some v],Z,Z,k⟩
theorem ApD{tp:Pos}{cs:List (Str × Addr)}(O:Lq X x x' Nc Bv scope)(hc:X.calm=true)(hk:X.env.scope.kind=.function) :
  PG (cxG X (λ_=>false) Nc scope cs C fp s H ye) (.Tuple [.Name x px,.Name x' px'] kx tp) (g2 X.K):=NB hc (CW (Agv hk O.nd O.hd O.loc) (CW (Agv hk O.nd O.hd2 O.AsU) HS))
section
variable {tp:Pos} (O:Lq X x x' Nc Bv scope) (hc:X.calm=true) (hi:PI X (.Tuple [.Name x px,.Name x' px'] kx tp) iter wi)
 (htc:∀ cl C fp s H,PIf (JG X Nc scope cl C fp s H) ifs tc) (hte:∀ cl C fp s H,PE (JG X Nc scope cl C fp s H) elt te)
include O hc htc hte in
theorem AsV:Blk X (.Tuple [.Name x px,.Name x' px'] kx tp) iter elt ifs scope pos (λ_ _ _=>False) (Zm X.K Bv tc te) :=
 Blk.imp (Arm (λ_ _ _ _ _ _=>False) O.g O.cell hc (λk _ _ _ _ _=>ApD O hc k) htc hte λ_ _ _ _ _ _ _ z=>z.elim) Ar1
include O hc hi htc hte in
end
theorem Akg{y:Str}{tp py spos:Pos}(O:Lq X x x' Nc Bv scope)(hc:X.calm=true)
  (b:X.N.Nodup) (e:X.N[i]?=some y) (d:X.env.scope.names.lookup y=some .local) (hi:PI X (.Tuple [.Name x px,.Name x' px'] kx tp) iter wi)
  (htc:∀ cl C fp s H,PIf (JG X Nc scope cl C fp s H) ifs tc) (hte:∀ cl C fp s H,PE (JG X Nc scope cl C fp s H) elt te)
  (a:swapsWith (.ListComp elt [⟨(.Tuple [.Name x px,.Name x' px'] kx tp),iter,ifs,0⟩] scope pos) (some (.Name y py)) spos.line X.env=pure true) (c:∀ x,foldedSetIterable iter X.env x=pure x:=by intro _;rfl) :
  PS X (.Assign [.Name y py] (.ListComp elt [⟨(.Tuple [.Name x px,.Name x' px'] kx tp),iter,ifs,0⟩] scope pos) spos) (Agh (Akf X.K wi Bv tc te) (JW i)):=Agu O.kind O.names O.fr hi (AsV O hc htc hte) b e d a c
theorem Ai7{K:NF}{y:Str}{tp py spos:Pos}(O:Lq X x x' Nc Bv scope)(hc:X.calm=true)
  (b:X.N.Nodup) (f:X.N[i]?=some y) (e:X.env.scope.names.lookup y=some .local) (hi:PI X (.Tuple [.Name x px,.Name x' px'] kx tp) iter wi)
  (htc:∀ cl C fp s H,PIf (JG X Nc scope cl C fp s H) ifs tc) (hte:∀ cl C fp s H,PE (JG X Nc scope cl C fp s H) elt te)
  (a:swapsWith (.ListComp elt [⟨(.Tuple [.Name x px,.Name x' px'] kx tp),iter,ifs,0⟩] scope pos) (some (.Name y py)) spos.line X.env=pure true) (c:∀ x,foldedSetIterable iter X.env x=pure x:=by intro _;rfl) (d:X.K=K:=by rfl) :
  PS X (.Assign [.Name y py] (.ListComp elt [⟨(.Tuple [.Name x px,.Name x' px'] kx tp),iter,ifs,0⟩] scope pos) spos) (Agh (Akf K wi Bv tc te) (JW i)):=by
 subst d;exact Akg O hc b f e hi htc hte a c
theorem Akh{K:NF}{S1 S2:Src}{Q:VK}(f g:Nat->V)(Pv:Nat->Na->Hp->Prop)(d:Pv 0 [] H)(c:∀ i ys H,i<=n->Pv i ys H->ys.length<=i)
  (s:n<=sizeLine) (h1:∀ i ys H,i<n->Pv i ys H->Kc K H S1 i (f i)) (h2:∀ i ys H,i<n->Pv i ys H->Kc K H S2 i (g i)) (b:∀ ys H,Pv n ys H->(Aac K S1 S2).stop n H)
  (h:∀ i ys H T,i<n->Pv i ys H->H T=none->Ms n Pv tc te (some (f i)::some (g i)::Li σ Bv) i ys (upd H T (.tup [f i,g i])))
  (q:∀ ys H p,Pv n ys H->H p=none->Q (.ref p) (upd H p (.lst ys))):Zm K Bv tc te (Aac K S1 S2) σ H Q:=by
 refine⟨λi m ys H=>m=n-i/\i<=n/\Pv i ys H,⟨n,by simp,AtR _,d⟩,?_⟩;rintro i m ys H ⟨rfl,hi,p⟩;have r:=c i ys H hi p;by_cases a:i<n
 ·refine .inr ⟨⟨⟨_,h1 i ys H a p⟩,_,h2 i ys H a p⟩,by lia,λx H' y=>?_⟩;obtain⟨T,rfl,l,e⟩:=y;have e:=e _ _ (h1 i ys H a p) (h2 i ys H a p);subst e;exact⟨T,f i,g i,Z,SqT.of Ae,h i ys H T a p l⟩
 ·have e:i=n:=by lia
  subst e;exact .inl ⟨b ys H p,by lia,λj o=>q ys H j p o⟩
theorem AeX{K:NF}{S1 S2:Src}{g:TG}{D:Ends}(f1 f2:Nat->V)(Pv:Nat->St->Hp->Prop)(f:Pv 0 σ H)(h1:∀ i σ H,i<n->Pv i σ H->Kc K H S1 i (f1 i))(h2:∀ i σ H,i<n->Pv i σ H->Kc K H S2 i (f2 i))(c:∀ σ H,Pv n σ H->(Aac K S1 S2).stop n H)
  (h:∀ i σ H T,i<n->Pv i σ H->H T=none->g (.ref T) σ (upd H T (.tup [f1 i,f2 i])) λb H2=>tb { D with nx:=Pv (i+1),ct:=Pv (i+1),bk:=D.nx } b H2) (l:∀ σ H,Pv n σ H->D.nx σ H) :
  ∃ W:Nat->Nat->St->Hp->Prop,(∃ m,W 0 m σ H)/\∀ i m σ H,W i m σ H ->
   ((Aac K S1 S2).stop i H/\D.nx σ H)\/((Aac K S1 S2).go i H/\∃ N:St->Hp->Prop,(∀ σ' H',N σ' H'->∃ d,d<m/\W (i+1) d σ' H')/\∀ x H',(Aac K S1 S2).yld i H x H'->g x σ H' λb H2=>tb { D with nx:=N,ct:=N,bk:=D.nx } b H2):=by
 refine⟨λi m σ H=>m=n-i/\i<=n/\Pv i σ H,⟨n,by simp,AtR _,f⟩,?_⟩;rintro i m σ H ⟨rfl,hi,p⟩;by_cases a:i<n
 ·refine .inr ⟨⟨⟨_,h1 i σ H a p⟩,_,h2 i σ H a p⟩,Pv (i+1),λσ' H' j=>⟨n-(i+1),by omega,Z,a,j⟩,λx H' y=>?_⟩;obtain⟨T,rfl,o,e⟩:=y;have e:=e _ _ (h1 i σ H a p) (h2 i σ H a p);subst e;exact h i σ H T a p o
 ·have e:i=n:=by lia
  subst e;exact .inl ⟨c σ H p,l σ H p⟩
inductive AmZ (K:NF)(x:V)(vs:Na)(H:Hp)(Q:VK):Prop
|mk(a:_)(ns:_)(k:_)(_:x=.ref a)(_:vs=[.int k])(_:SqL K H a (vI ns))(_:Q (.int (ns.count k:Nat)) H)
theorem We{K:NF}(c:X.K=K:=by rfl):MtR X "list.count" (AmZ K):=by subst c;intro pins s σ H x vs v us Q I e f h;obtain⟨a,ns,k,rfl,rfl,d,q⟩:=h;cases e;obtain⟨u,rfl,b⟩:=f.one;obtain⟨t,rfl⟩:=b;obtain⟨its,r,i,j⟩:=I.list d;refine PyProof.Rows.count_list_ints (ns:=ns) i.isList (intsAre_of r) ?_;exact⟨.int _,H,I.tok _,⟨_,Z⟩,q⟩
def Ite (K:NF)(a:Addr):It where
 go:=λi H=>∃ xs x,SqL K H a xs/\xs[i]?=some x
 yld:=λi H x H'=>∃ T,x=.ref T/\H T=none/\∀ xs u,SqL K H a xs->xs[i]?=some u->H'=upd H T (.tup [.int (i:Int),u])
 stop:=λi H=>∃ xs,SqL K H a xs/\xs.length=i
def AsW (e it a:Addr)(i:Nat)(h:Heap):Prop:=(∃ old,IsEnum h e it i old)/\h.IsListIter it a i
theorem Ai8{K:NF}{tp:Pos}{e:Addr}(n:e≠it)(U:a≠e)(q:a≠it) :
  Turn P w K (.Tuple es kx tp) (Ite K a) [e,it] e (AsW e it a) where
 mem:=by simp
 obj:=λi h st c hc=>by
  obtain⟨⟨j,s1⟩,y⟩:=st;simp only [Aui,Auj,or_false] at hc;rcases hc with z | z
  ·subst z;exact⟨_,s1,λv z=>by cases (show Data.fields _=Data.cell v from z)⟩
  ·subst z;obtain⟨o,e,_,d⟩:=y;exact⟨o,e,λv z=>by rw[d] at z;cases z⟩
 keep:=λi h h' st k=>by
  obtain⟨⟨j,s1⟩,y⟩:=st;exact⟨⟨j,k _ (by simp) _ s1⟩,y.at λo e=>k _ (by simp) o e⟩
 item:=by
  intro X J W O hc i pins s σ H E I S st C;subst J W O;obtain⟨xs,x,l,Y⟩:=C;obtain⟨b,m,p1,_⟩:=I.list l;obtain⟨u,hu,ru⟩:=m.get Y;obtain⟨⟨j,s1⟩,t⟩:=st;have R:i<b.toArray.size:=by have:=(zC.mp hu).1;simpa using this
  have T:X.A.in1.handled=none:=I.ok.hd hc;refine wpAny_pyNext_enum_itemD (Draws.list T it a q b.toArray) s1 ⟨t,p1.isList⟩ R n (λz=>?_) λu' h1 tk M ho Q hT hsz F=>?_
  ·simp only [Aui,Auj,or_false] at z;rcases z with z | z
   ·exact n z
   ·exact U z.symm
  have r:b[i]?=some u':=by simpa using M
  rw[hu] at r;cases r;refine⟨_,Z,wpAny_letOwnedTupleGo_enum ho λh2 N L=>?_⟩;have L:Heap.SameBut e h1 h2:=L;have el:e<s.heap.objs.size:=Heap.lt_size s1;have il:it<s.heap.objs.size:=by obtain⟨_,e,_⟩:=t;exact Heap.lt_size e
  have up:∀ c o,c≠e->h1.get? c=some o->h2.get? c=some o:=λc o c1 z=>(L.2 c c1).trans z;have B:H s.heap.objs.size=none:=I.hok.fresh (AtH _);have I1:Inv X pins σ (upd H s.heap.objs.size (.tup [.int (i:Int),x])) { s with heap:=s.heap.push { cls:=.type "tuple", data:=.seq #[.int i tk,u] },toks:=tk+1 } :=
   I.laid (λc o e=>zB _ e) (AtH _) ⟨by show 2<=sizeLine;decide,[.int i tk,u],.cons ⟨tk,Z⟩ (.cons ru .nil),⟨_,zD _ Z,Z,_,Z⟩⟩;have fp2:∀ c∈[e,it],NK X pins (upd H s.heap.objs.size (.tup [.int (i:Int),x])) c:=λc hc=>by
   obtain⟨f0,f⟩:=S c hc;refine⟨?_,f⟩;have lt:c<s.heap.objs.size:=by
    simp only [Aui,Auj,or_false] at hc;rcases hc with e | e <;> subst e <;> assumption
   rw[Aj (AtU lt)];exact f0
  have I2:Inv X pins σ (upd H s.heap.objs.size (.tup [.int (i:Int),x])) { s with heap:=h2,toks:=tk+1 }:=by
   refine Inv.Qp (s:={ s with heap:=s.heap.push { cls:=.type "tuple", data:=.seq #[.int i tk,u] },toks:=tk+1 }) (h':=h2) (t':=tk+1) (its:=[e,it]) I1 (λc o hc z=>?_) fp2;simp only [Aui,Auj,or_false,not_or] at hc;refine up c o hc.1 ?_;by_cases p:c=s.heap.objs.size
   ·subst p;have D:(s.heap.push { cls:=.type "tuple", data:=.seq #[.int i tk,u] }).get? s.heap.objs.size=some { cls:=.type "tuple", data:=.seq #[.int i tk,u] }:=zD _ Z;rw[D] at z;cases z;exact hT
   ·have D:s.heap.get? c=some o:=by
     rw[<- z];exact(Heap.get?_push_ne _ _ _ p).symm
    exact F c o hc.1 hc.2 D
  refine⟨.ref s.heap.objs.size,_,I2,Z,⟨s.heap.objs.size,Z,B,λa6 u' a1 a3=>?_⟩,⟨⟨u,by simpa using N⟩,Q.1.at λo z=>up _ o n.symm z⟩,λc hc=>(fp2 c hc).1⟩;rw[I.Ny a1 l,Y] at a3;cases a3;rfl
 done:=by
  intro X J W O hc i pins s σ H E I S st C;subst J W O;obtain⟨xs,l,a0⟩:=C;obtain⟨b,m,p1,_⟩:=I.list l;have l1:=m.length;obtain⟨⟨j,s1⟩,t⟩:=st;have T:X.A.in1.handled=none:=I.ok.hd hc;have en:i=b.toArray.size:=by simp;omega
  subst en;refine wpAny_pyNext_enum_endD (Draws.list T it a q b.toArray) s1 ⟨t,p1.isList⟩ λh' F=>⟨Z,I.Qp (t':=s.toks) (its:=[e,it]) (λc o hc z=>?_) S⟩;simp only [Aui,Auj,or_false,not_or] at hc;exact F c o hc.2 z
 self:=λ_ _ _ _ _ st h=>by obtain⟨⟨j,s1⟩,_⟩:=st;exact wpAny_pyIter_enum s1 h
section
variable {tp:Pos}
inductive Ana (K:NF)(R:(It->Hp->Prop))(vs:Na)(H1:Hp):Prop
|mk(a:_)(_:vs=[.ref a])(_:(∃ xs,SqL K H1 a xs))(_:R (Ite K a) H1)
def Ar2 (K:NF)(ta:TA)(σ:St)(H:Hp)(R:(It->Hp->Prop)):Prop:=ta σ H (Ana K R)
theorem Aht{K:NF}{a:Expr}{ta:TA}{p:Pos}(m:Gl X "enumerate") (n:X.mg "enumerate" = none) (x:PA X [a] ta) (l:X.K=K:=by rfl) (o:starEach [a] X.env=[(false,eval a X.env)]:=by rfl) :
  PI X (.Tuple es kx tp) (.Call (.Name "enumerate" p) [a] [] pos) (Ar2 K ta):=by
 subst l;intro pins s σ H R I h;refine Call_ (Hr I m n SN (PyProof.Rows.callWith_type1 (thn (x pos pins s σ H _ I h) λus s1 ⟨vs,H1,b,w,z⟩=>?_) o Z));obtain⟨a,e,⟨xs,d⟩,q⟩:=z;subst e;cases w with
 | cons r y =>
  cases y;cases r;obtain⟨u,v,p1,_⟩:=b.list d;obtain⟨o1,e1,_⟩:=id p1.isList;have i:a<s1.heap.objs.size:=Heap.lt_size e1;refine call_enumerate_list p1.isList λh' j hi hsz t=>wpAny_pyIter_enum j ?_;refine⟨_,[s1.heap.objs.size+1,s1.heap.objs.size],_,_,H1,Z,b.kept (t':=s1.toks) t,Ai8 (lne (AuS _) 0).symm (lne i 1) (lne i 0),⟨⟨_,j⟩,hi⟩,λc hc=>?_,q⟩;have f:s1.heap.objs.size<=c:=by
   simp only [Aui,Auj,or_false] at hc;rcases hc with e | e <;> subst e <;> omega
  exact b.Aid f (b.hok.fresh f)
theorem AeY{K:NF}{xs:Na}{g:TG}{D:Ends}(Pv:Nat->St->Hp->Prop)(j:Pv 0 σ H)(h:∀ i σ H,Pv i σ H->SqL K H a xs)
  (l:∀ i x σ H T,xs[i]?=some x->Pv i σ H->H T=none->g (.ref T) σ (upd H T (.tup [.int (i:Int),x])) λc H2=>tb { D with nx:=Pv (i+1),ct:=Pv (i+1),bk:=D.nx } c H2) (o:∀ σ H,Pv xs.length σ H->D.nx σ H) :
  ∃ W:Nat->Nat->St->Hp->Prop,(∃ m,W 0 m σ H)/\∀ i m σ H,W i m σ H ->
   ((Ite K a).stop i H/\D.nx σ H)\/((Ite K a).go i H/\∃ N:St->Hp->Prop,(∀ σ' H',N σ' H'->∃ f,f<m/\W (i+1) f σ' H')/\∀ x H',(Ite K a).yld i H x H'->g x σ H' λc H2=>tb { D with nx:=N,ct:=N,bk:=D.nx } c H2):=by
 refine⟨λi m σ H=>m=xs.length-i/\i<=xs.length/\Pv i σ H,⟨xs.length,by simp,AtR _,j⟩,?_⟩;rintro i m σ H ⟨rfl,hi,p⟩;have d:=h i σ H p;by_cases b:i<xs.length
 ·refine .inr ⟨⟨xs,xs[i],d,AtF b⟩,Pv (i+1),λσ' H' q=>⟨xs.length-(i+1),by omega,Z,b,q⟩,λx H' y=>?_⟩;obtain⟨T,rfl,n,y⟩:=y;have e:=y xs _ d (AtF b);subst e;exact l i _ σ H T (AtF b) p n
 ·have e:i=xs.length:=by omega
  subst e;exact .inl ⟨⟨xs,d,Z⟩,o σ H p⟩
end
inductive AeZ (K:NF) (H:Hp):Nat->V->V->Prop where
 | flat {n:Nat} {x:V} (h:Iw x=true):AeZ K H n x x
 | lst {n:Nat} {p q:Addr} {xs ys:Na} (hp:SqL K H p xs) (hq:SqL K H q ys) (hl:xs.length=ys.length) (hi:∀(i:Nat)(x y:V),xs[i]?=some x->ys[i]?=some y->AeZ K H n x y):AeZ K H (n+1) (.ref p) (.ref q)
 | tup {n:Nat} {p q:Addr} {xs ys:Na} (hp:SqT K H p xs) (hq:SqT K H q ys) (hl:xs.length=ys.length) (hi:∀(i:Nat)(x y:V),xs[i]?=some x->ys[i]?=some y->AeZ K H n x y):AeZ K H (n+1) (.ref p) (.ref q)
section
variable {K:NF}
theorem Kd{xs:Na}(r:Vals xs us)(h:j<us.toArray.size):∃ x,xs[j]?=some x/\RelV x us.toArray[j]:=by
 have l:=r.length;simp only [Aub] at h;obtain⟨u,e,q⟩:=r.get (i:=j) (x:=xs[j]) (by simp);refine⟨xs[j],by simp,?_⟩;have:us.toArray[j]=u:=by
  simp_all
 rw[this];exact q
theorem Aki(I:Inv X pins σ H s){x:V}(S:AeZ X.K H n x y):∀{A:Around} {u v:Value},RelV x u->RelV y v->A.units+n<cLine->SeqAt.EqAt A s u v true:=by
 induction S with
 | flat h =>
  intro A u v d b z;have:= Agq (A:=A) (s:=s) d b h h;rw[SJ h] at this;exact this
 | lst o f B hi m =>
  intro A u v d b z;rename_i n p q xs ys;cases d;cases b;by_cases e:p=q
  ·subst e;exact SeqAt.EqAt.same _
  ·refine SeqAt.EqAt.of_refs e ?_;obtain⟨its,r,pl,E⟩:=I.list o;obtain⟨a,b,c,l⟩:=I.list f;have D:=r.length;have C:=b.length;have key:=SeqAt.RcAt.lists (A:=A) (e:=λ_=>true) pl.isList c.isList (by grind) (by omega) (λj h1 h2=>?_)
   ·have e1:(List.range its.toArray.size).all (λ_=>true)=true:=by simp
    rw[e1] at key;exact key
   ·obtain⟨x,ex,w⟩:=Kd r h1;obtain⟨y,i,t⟩:=Kd b h2;exact m j x y ex i w t (by show A.units+1+n<cLine;omega)
 | tup o f B hi m =>
  intro A u v d b z;rename_i n p q xs ys;cases d;cases b;by_cases e:p=q
  ·subst e;exact SeqAt.EqAt.same _
  ·refine SeqAt.EqAt.of_refs e ?_;obtain⟨its,r,pl,E⟩:=I.tuple o;obtain⟨a,b,c,l⟩:=I.tuple f;have D:=r.length;have C:=b.length;have key:=SeqAt.RcAt.tuples (A:=A) (e:=λ_=>true) pl c (by omega) (λj h1 h2=>?_)
   ·have e1:((List.range (min its.toArray.size a.toArray.size)).all (λ_=>true) && its.toArray.size == a.toArray.size)=true:=by
     simp_all
    rw[e1] at key;exact key
   ·obtain⟨x,ex,w⟩:=Kd r h1;obtain⟨y,i,t⟩:=Kd b h2;exact m j x y ex i w t (by show A.units+1+n<cLine;omega)
end
open PySem PySem.Spec PyProof.Rows PySem.Builtin PySem.Builtin.Str
def jn (c:Nat):NN->NI
 | []=>[]
 | [w]=>w
 | w::v::r=>w++c::jn c (v::r)
theorem Aad(c:Nat):∀{ws:NN},ws≠[]->(jn c ws).count c+1=(ws.map (List.count c)).sum+ws.length
 | [],h=>absurd Z h
 | [w],_=>by simp[jn]
 | w::v::r,_=>by
  have a:=Aad c (ws:=v::r) (by simp);rw[jn];grind
theorem Ag5{c:Nat}:∀{w v a b:NI},c∉w->c∉v->w++c::a=v++c::b->w=v/\a=b
 | [],[],a,b,_,_,h=>⟨Z,(List.cons.inj h).2⟩
 | [],x::v,a,b,_,hv,h=>absurd (by simp_all) hv
 | x::w,[],a,b,hw,_,h=>absurd (by simp_all) hw
 | x::w,y::v,a,b,hw,hv,h=>by
  have e:=List.cons.inj h;have:= Ag5 (λz=>hw (AtL _ z)) (λz=>hv (AtL _ z)) e.2;exact⟨by simp_all,this.2⟩
theorem Akj{c:Nat}:∀{ws vs:NN},ws≠[]->vs≠[]->(∀ w∈ws,c∉w)->(∀ v∈vs,c∉v)->jn c ws=jn c vs->ws=vs
 | [],_,h,_,_,_,_=>absurd Z h
 | _,[],_,h,_,_,_=>absurd Z h
 | [w],[v],_,_,_,_,e=>by rw[show w=v from e]
 | [w],v::v'::r,_,_,hw,_,e=>absurd (by rw[show w=v++c::jn c (v'::r) from e];simp) (hw w AtJ)
 | w::w'::r,[v],_,_,_,hv,e=>absurd (by rw[<- show w++c::jn c (w'::r)=v from e];simp) (hv v AtJ)
 | w::w'::r,v::v'::r',_,_,hw,hv,e=>by
  have h:=Ag5 (hw w AtJ) (hv v AtJ) (e);rw[h.1,Akj (ws:=w'::r) (vs:=v'::r') (by simp) (by simp) (λx a=>hw x (AtL _ a)) (λx a=>hv x (AtL _ a)) h.2]
theorem join_list(c:Nat):∀ l:NX,(Str.join ⟨#[c]⟩ l).cps.toList=jn c (l.map λz=>z.cps.toList)
 | []=>rfl
 | [x]=>rfl
 | x::y::r=>by
  show(x++⟨#[c]⟩++Str.join ⟨#[c]⟩ (y::r)).cps.toList=x.cps.toList++c::jn c ((y::r).map λz=>z.cps.toList);rw[<- join_list c (y::r)];show((x.cps++#[c])++(Str.join ⟨#[c]⟩ (y::r)).cps).toList=_;simp
theorem Akk(z:Str):1<=Builtin.Str.strKind z:=by
 unfold Builtin.Str.strKind;split
 ·omega
 ·split <;> omega
theorem ApE(h:c<256):Builtin.Str.strKind ⟨#[c]⟩=1:=by unfold Builtin.Str.strKind;rw[if_pos (by simp;exact h)]
theorem split_len{u:NI}(hc:c<256):(Txt.split (tx u) ⟨#[c]⟩).length=u.count c+1:=by
 have n:=Ace u c;unfold Txt.split;split
 ·rename_i h;have:(tx u).length<1:=by
   rcases Bool.or_eq_true_iff.mp h with h | h
   ·exact of_decide_eq_true h
   ·have:= of_decide_eq_true h;rw[ApE hc] at this;have:= Akk (tx u);lia
  rw[Al] at this;grind
 ·split
  ·simp_all
  ·rw[StrLaws.partsBetween_eq] <;> skip
   rw[<- StrLaws.partsBetween_eq,length_partsBetween,n]
theorem RD:∀{l:NI} {a:Nat},a∈l->a<=l.sum
 | [],_,h=>by cases h
 | b::l,a,h=>by
  rw[Aul];rcases yD.mp h with z | z
  ·rw[z];lia
  ·have:= RD z;lia
theorem Akl{u:NI}(hc:c<256)(ne:ws≠[])(f:jn c ws=u)(no:∀ w∈ws,c∉w):Txt.split (tx u) ⟨#[c]⟩=ws.map tx:=by
 have l:=split_len (u:=u) hc;have j:=congrArg (λz:Str=>z.cps.toList) (StrLaws.join_split (tx u) ⟨#[c]⟩);rw[join_list,GR] at j;generalize Txt.split (tx u) ⟨#[c]⟩=ps at l j;obtain⟨qs,eqs⟩:∃ qs,qs=ps.map λz=>z.cps.toList:=⟨_,Z⟩;rw[<- eqs] at j;have d:qs.length=ps.length:=by rw[eqs,AtG]
 have a:qs≠[]:=λz=>by grind
 have cnt:=Aad c a;rw[j,d,l] at cnt;have b:∀ w∈qs,c∉w:=λw h z=>by
  have h1:w.count c<=(qs.map (List.count c)).sum:=RD (yC.mpr ⟨w,h,Z⟩);grind
 have e:=Akj a ne b no (by rw[j,f]);rw[<- e,eqs,Ava];exact(List.map_id' ps).symm.trans (Avb λz _=>by rfl)
theorem Wf:∀{l:List (Str × Tok)} {ws:NN},l.map (·.1)=ws.map tx->Vals (vS ws) (strValues l)
 | [],[],_=>.nil
 | [],w::ws,h=>by cases h
 | p::l,[],h=>by cases h
 | p::l,w::ws,h=>by
  have e:=List.cons.inj h;exact .cons ⟨p.2,by rw[<- e.1]⟩ (Wf e.2)
inductive ApF (x:V)(vs:Na)(H:Hp)(Q:VK):Prop
|mk(u:NI)(c:Nat)(ws:NN)(_:x=.str (tx u))(_:vs=[.str ⟨#[c]⟩])(_:c<256)(_:u.length+2<=sizeLine)(_:ws≠[])(_:jn c ws=u)(_:(∀ w∈ws,c∉w))(_:∀ l,H l=none->Q (.ref l) (upd H l (.lst (vS ws))))
theorem Aae:MtR X "str.split" ApF:=by
 intro pins s σ H x vs v us Q I n m h;obtain⟨u,c,ws,rfl,rfl,hc,p,ne,j,no,q⟩:=h;obtain⟨t,rfl⟩:=n;obtain⟨y,rfl,i⟩:=m.one;obtain⟨t',rfl⟩:=i;have es:=Akl hc ne j no;have r:ws.length<=u.length+1:=by
  have:= Aad c ne;grind
 have f:(tx u).length+2<=sizeLine:=by exact p
 have fin:∀(l:List (Str × Tok))(tk:Nat),l.map (·.1)=Txt.split (tx u) ⟨#[c]⟩->EP X pins σ Q (.ref s.heap.objs.size) { s with heap:=s.heap.push { cls:=.type "list", data:=.seq (strValues l).toArray },toks:=tk }:=λl tk e =>
  ⟨.ref s.heap.objs.size,_,I.laid (λb o e=>zB _ e) (AtH _) (show Ei X.prog X.w _ _ _ (.lst (vS ws)) from⟨by rw[Bt];lia,_,_,Wf (e.trans es),zD _ Z⟩),Z,q _ (I.hok.fresh (AtH _))⟩;have d:(((⟨#[c]⟩:Str)).length == 0)=false:=rfl;have hn:(partsBetween (tx u) (occurrences (tx u) ⟨#[c]⟩ 0 (tx u).length ((tx u).length+1)) ((⟨#[c]⟩:Str)).length).length<=sizeLine:=by
  have e1:=StrLaws.occ_length_le (tx u) ⟨#[c]⟩ 0 (tx u).length ((tx u).length+1);rw[length_partsBetween];lia
 cases h1:(decide ((tx u).length<((⟨#[c]⟩:Str)).length) || decide (Builtin.Str.strKind (tx u)<Builtin.Str.strKind ⟨#[c]⟩))
 ·cases a:(occurrences (tx u) ⟨#[c]⟩ 0 (tx u).length ((tx u).length+1)).isEmpty
  ·refine call_meets zX (typeIs_str _ _ _) F.entry_str_split (F.args_str_split_2 _ _) (meets_str_split_sep (tx u) ⟨#[c]⟩ t t' h1 d a (by lia) hn) ?_;rw[strsFrom_eq];exact fin (numbered s.toks _) _ ((numbered_texts _ _).trans ((if_neg (ne_true_of_eq_false h1)).trans (if_neg (ne_true_of_eq_false a))).symm)
  ·exact call_meets zX (typeIs_str _ _ _) F.entry_str_split (F.args_str_split_2 _ _) (meets_str_split_not_found (tx u) ⟨#[c]⟩ t t' h1 d a)
    (fin [(tx u,t)] s.toks ((if_neg (ne_true_of_eq_false h1)).trans (if_pos a)).symm)
 ·exact call_meets zX (typeIs_str _ _ _) F.entry_str_split (F.args_str_split_2 _ _) (meets_str_split_cannot_occur (tx u) ⟨#[c]⟩ t t' h1)
   (fin [(tx u,t)] s.toks (if_pos h1).symm)
def jnS (sp:NI):NN->NI
 | []=>[]
 | [w]=>w
 | w::v::r=>w++(sp++jnS sp (v::r))
structure Sgn (sp:NI)(c d:Nat):Prop where
 at':∀ i,sp[i]?=some c↔i=d
 b:∀ z∈sp,z<256
theorem Sgn.lt(S:Sgn sp c d):d<sp.length:=(zC.mp ((S.at' d).mpr Z)).1
theorem Sgn.parts(S:Sgn sp c d):∃ a b,sp=a++c::b/\c∉a/\c∉b/\a.length=d:=by
 have h:=S.lt;refine⟨sp.take d,sp.drop (d+1),?_,λz=>?_,λz=>?_,by grind⟩
 ·have e:sp[d]=c:=(zC.mp ((S.at' d).mpr Z)).2;have:= Auv d sp;rw[AuG h,e] at this;exact this.symm
 ·obtain⟨i,hi,e⟩:=Aus z;rw[AtX] at hi;have q:(sp.take d)[i]?=some c:=by rw[<- e];exact AtF _
  rw[Av7,if_pos (by omega)] at q;have:= (S.at' i).mp q;lia
 ·obtain⟨i,hi,e⟩:=Aus z;have q:(sp.drop (d+1))[i]?=some c:=by rw[<- e];exact AtF _
  rw[AuF] at q;have:= (S.at' _).mp q;lia
theorem Ke{sp:NI}{c d:Nat}(S:Sgn sp c d):∀{ws:NN},ws≠[]->(jnS sp ws).count c+1=(ws.map (List.count c)).sum+ws.length
 | [],h=>absurd Z h
 | [w],_=>by simp[jnS]
 | w::v::r,_=>by
  have f:=Ke S (ws:=v::r) (by simp);obtain⟨a,b,e,i,nb,_⟩:=S.parts;have one:sp.count c=1:=by grind
  rw[jnS,Avd,Avd,AtM,Aul,AtS];lia
theorem Anb(S:Sgn sp c d){w v a b:NI}(j:c∉w)(i:c∉v)(h:w++(sp++a)=v++(sp++b)):w=v/\a=b:=by
 obtain⟨p,q,e,f,l,_⟩:=S.parts;have h':(w++p)++c::(q++a)=(v++p)++c::(q++b):=by rw[e] at h;simpa using h
 have:= Ag5 (λz=>(zG.mp z).elim j f) (λz=>(zG.mp z).elim i f) h';exact⟨List.append_cancel_right this.1,List.append_cancel_left this.2⟩
theorem Sgn.mem(S:Sgn sp c d):c∈sp:=AtN ((S.at' d).mpr Z)
theorem Ahu{sp:NI}{c d:Nat}(S:Sgn sp c d):∀{ws vs:NN},ws≠[]->vs≠[]->(∀ w∈ws,c∉w)->(∀ v∈vs,c∉v)->jnS sp ws=jnS sp vs->ws=vs
 | [],_,h,_,_,_,_=>absurd Z h
 | _,[],_,h,_,_,_=>absurd Z h
 | [w],[v],_,_,_,_,e=>by rw[show w=v from e]
 | [w],v::v'::r,_,_,hw,_,e=>absurd (by rw[show w=v++(sp++jnS sp (v'::r)) from e];simp[S.mem]) (hw w AtJ)
 | w::w'::r,[v],_,_,_,hv,e=>absurd (by rw[<- show w++(sp++jnS sp (w'::r))=v from e];simp[S.mem]) (hv v AtJ)
 | w::w'::r,v::v'::r',_,_,hw,hv,e=>by
  have h:=Anb S (hw w AtJ) (hv v AtJ) (e);rw[h.1,Ahu S (ws:=w'::r) (vs:=v'::r') (by simp) (by simp) (λx a=>hw x (AtL _ a)) (λx a=>hv x (AtL _ a)) h.2]
theorem Aaf(sp:NI):∀ l:NX,(Str.join (tx sp) l).cps.toList=jnS sp (l.map λz=>z.cps.toList)
 | []=>rfl
 | [x]=>rfl
 | x::y::r=>by
  show(x++tx sp++Str.join (tx sp) (y::r)).cps.toList=x.cps.toList++(sp++jnS sp ((y::r).map λz=>z.cps.toList));rw[<- Aaf sp (y::r)];show((x.cps++(tx sp).cps)++(Str.join (tx sp) (y::r)).cps).toList=_;simp[tx]
theorem Ahv{sp:NI}{c d:Nat}(S:Sgn sp c d):∀{ws:NN},(∀ w∈ws,c∉w)->∀ p,(jnS sp ws)[p]?=some c->d<=p/\∀ i,i<sp.length->(jnS sp ws)[p-d+i]?=sp[i]?
 | [],_,p,h=>by simp[jnS] at h
 | [w],no,p,h=>absurd (AtN h) (no w AtJ)
 | w::v::r,no,p,h=>by
  rw[jnS] at h ⊢;by_cases c1:p<w.length
  ·rw[Auc c1] at h;exact absurd (AtN h) (no w AtJ)
  ·rw[AtZ (by omega)] at h;by_cases c2:p-w.length<sp.length
   ·rw[Auc c2] at h;have e:=(S.at' _).mp h;grind
   ·rw[AtZ (by omega)] at h;have b:=Ahv S (λx a=>no x (AtL _ a)) _ h;grind
theorem Ahw{sp:NI}{c d:Nat}(S:Sgn sp c d):∀{ws:NN},(∀ w∈ws,c∉w)->∀ p a,(jnS sp ws)[p]?=some c->(jnS sp ws)[a]?=some c->p<a->p+sp.length<=a
 | [],_,p,a,h,_,_=>by simp[jnS] at h
 | [w],no,p,a,h,_,_=>absurd (AtN h) (no w AtJ)
 | w::v::r,no,p,a,h,h',lt=>by
  rw[jnS] at h h';have c1:¬p<w.length:=λc1=>by
   rw[Auc c1] at h;exact absurd (AtN h) (no w AtJ)
  rw[AtZ (by omega)] at h h';have b:=λx f=>no x (AtL _ f);by_cases c2:p-w.length<sp.length
  ·rw[Auc c2] at h;have e:=(S.at' _).mp h;by_cases c3:a-w.length<sp.length
   ·rw[Auc c3] at h';have i:=(S.at' _).mp h';lia
   ·rw[AtZ (by omega)] at h';have:= (Ahv S b _ h').1;lia
  ·rw[AtZ (by omega)] at h h';have:= Ahw S b _ _ h h' (by lia);lia
theorem Akm(u:NI)(i n:Nat):((tx u).cps.extract i n).toList=(u.drop i).take (n-i):=by show((u.toArray).extract i n).toList=_;rw[Array.toList_extract]
theorem Ai9{u:NI}:Builtin.Str.subAt (tx u) (tx sp) j=true↔(u.drop j).take sp.length=sp:=by unfold Builtin.Str.subAt;rw[beq_iff_eq,<- Array.toList_inj,Akm,Al,show j+sp.length-j=sp.length by omega,GR]
theorem Aag{u sp:NI}{c d limit:Nat}(M:∀ j,u[j+d]?=some c↔(j+(tx sp).length<=(tx u).length/\Builtin.Str.subAt (tx u) (tx sp) j=true))(G:∀ j j',u[j+d]?=some c->u[j'+d]?=some c->j<j'->j+(tx sp).length<=j'):∀(k i:Nat)(acc:Array Nat)(free:Nat),(∀ j,i<=j->u[j+d]?=some c->free<=j)->acc.size+k<=limit ->
  (forIn (List.range' i k) (acc,free) (StrLaws.occBody (tx u) (tx sp) (tx u).length limit)).run.fst.size=acc.size+((u.drop (i+d)).take k).count c
 | 0,i,acc,free,_,_=>by simp
 | k+1,i,acc,free,hf,hl=>by
  rw[List.range'_succ,AuZ];by_cases hc:u[i+d]?=some c
  ·have h1:=(M i).mp hc;have e:StrLaws.occBody (tx u) (tx sp) (tx u).length limit i (acc,free)=pure (ForInStep.yield (acc.push i,i+(tx sp).length)):=by
    unfold StrLaws.occBody;rw[if_pos ⟨⟨⟨by show acc.size<limit;omega,hf i (AtH _) hc⟩,h1.1⟩,h1.2⟩]
   rw[e];have b:=Aag (limit:=limit) M G k (i+1) (acc.push i) (i+(tx sp).length) (λj h f=>G i j hc f (by lia)) (by rw[Array.size_push];lia);have l:u.drop (i+d)=c::u.drop (i+1+d):=by
    obtain⟨a,m⟩:=zC.mp hc;rw[AuG a,m,show i+d+1=i+1+d by omega]
   rw[l,AuH,List.count_cons_self];rw[Array.size_push] at b;refine Eq.trans b ?_;lia
  ·have h1:=λz=>hc ((M i).mpr z);have e:StrLaws.occBody (tx u) (tx sp) (tx u).length limit i (acc,free)=pure (ForInStep.yield (acc,free)):=by
    unfold StrLaws.occBody;rw[if_neg λz=>h1 ⟨z.1.2,z.2⟩]
   rw[e];have b:=Aag (limit:=limit) M G k (i+1) acc free (λj h=>hf j (by lia)) (by lia);refine Eq.trans b ?_;by_cases a:i+d<u.length
   ·rw[AuG a,AuH,List.count_cons_of_ne,show i+d+1=i+1+d by omega];intro z;exact hc (by simp_all)
   ·rw[Avq (by omega),Avq (by omega)];simp
theorem AiA(S:Sgn sp c d)(no:∀ w∈ws,c∉w):(Builtin.Str.occurrences (tx (jnS sp ws)) (tx sp) 0 (tx (jnS sp ws)).length ((tx (jnS sp ws)).length+1)).length=(jnS sp ws).count c:=by
 rw[StrLaws.occ_eq];have dl:=S.lt;have hc:=Ahv S no;have b:=Ahw S no;generalize jnS sp ws=u at hc b ⊢;have M:∀ j,u[j+d]?=some c↔(j+(tx sp).length<=(tx u).length/\Builtin.Str.subAt (tx u) (tx sp) j=true):=λj=>by
  rw[Ai9];constructor
  ·intro h;have q:=(hc _ h).2;rw[show j+d-d=j by omega] at q;have f:j+sp.length<=u.length:=by
    have:= q (sp.length-1) (by omega);rw[AtF (l:=sp) (show sp.length-1<sp.length by omega)] at this;have:= (zC.mp this).1;lia
   refine⟨f,AuL λi=>?_⟩;rw[Av7];split
   ·rw[AuF,q i (by assumption)]
   ·grind
  ·rintro⟨f,e⟩;have:((u.drop j).take sp.length)[d]?=sp[d]?:=by rw[e]
   rw[Av7,if_pos dl,AuF,(S.at' d).mpr rfl] at this;exact this
 have G:∀ j a,u[j+d]?=some c->u[a+d]?=some c->j<a->j+(tx sp).length<=a:=λj a h h' l=>by
  have:= b _ _ h h' (by lia);rw[Al];lia
 have:= Aag (limit:=(tx u).length+1) M G ((tx u).length+1-0) 0 #[] 0 (λ_ _ _=>AtR _) (by simp);rw[zK,this,Al];have m:(u.take d).count c=0:=List.count_eq_zero.mpr λz=>by
  obtain⟨i,hi,e⟩:=Aus z;rw[AtX] at hi;have q:(u.take d)[i]?=some c:=by rw[<- e];exact AtF _
  rw[Av7,if_pos (by omega)] at q;have:= (hc _ q).1;lia
 have e:u.count c=(u.take d).count c+(u.drop d).count c:=by rw[<- Avd,Auv]
 rw[e,m,Auf (by rw[Auw];omega)];simp
theorem ApG(h:∀ z∈sp,z<256):Builtin.Str.strKind (tx sp)=1:=by unfold Builtin.Str.strKind;rw[if_pos];rw[<- Array.all_toList,Avc];exact λz a=>zN (h z a)
theorem Ag6(S:Sgn sp c d)(ne:ws≠[])(no:∀ w∈ws,c∉w):(Txt.split (tx (jnS sp ws)) (tx sp)).length=ws.length:=by
 have n:=AiA S no;have k:=Ke S ne;have j:(ws.map (List.count c)).sum=0:=by
  clear n k ne
  induction ws with
  | nil=>rfl
  | cons w r f=>rw[AtM,Aul,List.count_eq_zero.mpr (no w AtJ),f λx a=>no x (AtL _ a)]
 unfold Txt.split;split
 ·rename_i h;have lt:(tx (jnS sp ws)).length<(tx sp).length:=by
   rcases Bool.or_eq_true_iff.mp h with h | h
   ·exact of_decide_eq_true h
   ·have:= of_decide_eq_true h;rw[ApG S.b] at this;have:= Akk (tx (jnS sp ws));lia
  rw[Al,Al] at lt;have:(jnS sp ws).count c=0:=List.count_eq_zero.mpr λz=>by
   obtain⟨i,hi,e⟩:=Aus z;have q:=(Ahv S no i (by rw[<- e];exact AtF _)).2 (sp.length-1) (by have:= S.lt;omega);rw[AtF (l:=sp) (show sp.length-1<sp.length by have:=S.lt;omega)] at q;grind
  show 1=_;lia
 ·split
  ·grind
  ·rw[length_partsBetween,n];lia
theorem AiB(S:Sgn sp c d)(ne:ws≠[])(no:∀ w∈ws,c∉w):Txt.split (tx (jnS sp ws)) (tx sp)=ws.map tx:=by
 have l:=Ag6 S ne no;have j:=congrArg (λz:Str=>z.cps.toList) (StrLaws.join_split (tx (jnS sp ws)) (tx sp));rw[Aaf,GR] at j;generalize Txt.split (tx (jnS sp ws)) (tx sp)=ps at l j;obtain⟨qs,eqs⟩:∃ qs,qs=ps.map λz=>z.cps.toList:=⟨_,Z⟩;rw[<- eqs] at j;have h:qs.length=ps.length:=by simp_all
 have i:=zY.mpr ne;have a:qs≠[]:=λz=>by grind
 have cnt:=Ke S a;have b:=Ke S ne;have p:(ws.map (List.count c)).sum=0:=by
  clear b cnt l j h i ne
  induction ws with
  | nil=>rfl
  | cons w r m=>rw[AtM,Aul,List.count_eq_zero.mpr (no w AtJ),m λx n=>no x (AtL _ n)]
 rw[j,h,l] at cnt;have f:∀ w∈qs,c∉w:=λw o z=>by
  have h1:w.count c<=(qs.map (List.count c)).sum:=RD (yC.mpr ⟨w,o,Z⟩);grind
 have e:=Ahu S a ne f no j;rw[<- e,eqs,Ava];exact(List.map_id' ps).symm.trans (Avb λz _=>by rfl)
inductive Anc (x:V)(vs:Na)(H:Hp)(Q:VK):Prop
|mk(sp:NI)(c:Nat)(d:Nat)(ws:NN)(_:x=.str (tx (jnS sp ws)))(_:vs=[.str (tx sp)])(_:Sgn sp c d)(_:(jnS sp ws).length+2<=sizeLine)(_:ws≠[])(_:(∀ w∈ws,c∉w))(_:∀ l,H l=none->Q (.ref l) (upd H l (.lst (vS ws))))
theorem Acg:MtR X "str.split" Anc:=by
 intro pins s σ H x vs v us Q I r p h;obtain⟨sp,c,d,ws,rfl,rfl,hc,j,ne,no,q⟩:=h;obtain⟨t,rfl⟩:=r;obtain⟨y,rfl,m⟩:=p.one;obtain⟨t',rfl⟩:=m;have es:=AiB hc ne no;have n:ws.length<=(jnS sp ws).length+1:=by
  have:= Ke hc ne;grind
 generalize jnS sp ws=u at es j n ⊢;have i:(tx u).length+2<=sizeLine:=by exact j
 have fin:∀(l:List (Str × Tok))(tk:Nat),l.map (·.1)=Txt.split (tx u) (tx sp)->EP X pins σ Q (.ref s.heap.objs.size) { s with heap:=s.heap.push { cls:=.type "list", data:=.seq (strValues l).toArray },toks:=tk }:=λl tk e =>
  ⟨.ref s.heap.objs.size,_,I.laid (λb o e=>zB _ e) (AtH _) (show Ei X.prog X.w _ _ _ (.lst (vS ws)) from⟨by rw[Bt];lia,_,_,Wf (e.trans es),zD _ Z⟩),Z,q _ (I.hok.fresh (AtH _))⟩;have f:((tx sp).length == 0)=false:=by rw[Al];have:= hc.lt;rw[zZ];lia
 have hn:(partsBetween (tx u) (occurrences (tx u) (tx sp) 0 (tx u).length ((tx u).length+1)) ((tx sp)).length).length<=sizeLine:=by
  have e1:=StrLaws.occ_length_le (tx u) (tx sp) 0 (tx u).length ((tx u).length+1);rw[length_partsBetween];lia
 cases h1:(decide ((tx u).length<((tx sp)).length) || decide (Builtin.Str.strKind (tx u)<Builtin.Str.strKind (tx sp)))
 ·cases a:(occurrences (tx u) (tx sp) 0 (tx u).length ((tx u).length+1)).isEmpty
  ·refine call_meets zX (typeIs_str _ _ _) F.entry_str_split (F.args_str_split_2 _ _) (meets_str_split_sep (tx u) (tx sp) t t' h1 f a (by lia) hn) ?_;rw[strsFrom_eq];exact fin (numbered s.toks _) _ ((numbered_texts _ _).trans ((if_neg (ne_true_of_eq_false h1)).trans (if_neg (ne_true_of_eq_false a))).symm)
  ·exact call_meets zX (typeIs_str _ _ _) F.entry_str_split (F.args_str_split_2 _ _) (meets_str_split_not_found (tx u) (tx sp) t t' h1 f a)
    (fin [(tx u,t)] s.toks ((if_neg (ne_true_of_eq_false h1)).trans (if_pos a)).symm)
 ·exact call_meets zX (typeIs_str _ _ _) F.entry_str_split (F.args_str_split_2 _ _) (meets_str_split_cannot_occur (tx u) (tx sp) t t' h1)
   (fin [(tx u,t)] s.toks (if_pos h1).symm)
theorem AiC:Sgn [32,47,32] 47 1:=by
 refine⟨λi=>?_,by decide⟩
 match i with
 | 0=>simp
 | 1=>simp
 | 2=>simp
 | _+3=>simp
theorem Akn:Sgn [44,32] 44 0:=by
 refine⟨λi=>?_,by decide⟩
 match i with
 | 0=>simp
 | 1=>simp
 | _+2=>simp
section
variable {K:NF}
theorem Aah{vs:NW}{out:Array Value}{a:NA}{Q:VK}(I:Inv X pins σ H s)(hi:IntsAre out.toList a)(d:a.length<=sizeLine)
  (q:∀ l,H l=none->Q (.ref l) (upd H l (.lst (vI a)))):EP X pins σ Q (.ref (s.heap.objs.size+1)) { s with heap:=sortedAll s.heap vs out }:=by
 obtain⟨e,c⟩:=sortedAll_at s.heap vs out;refine⟨.ref (s.heap.objs.size+1),_,I.laid (λb u=>sortedAll_old) (Au1 _) ?_,Z,q _ (I.hok.fresh (Au1 _))⟩;refine⟨by rw[Bh];exact d,out.toList,e,JZ hi,?_⟩;rw[c]
inductive Ado (K:NF)(xs:Na)(H:Hp)(Q:VK):Prop
|mk(a:_)(ns:_)(_:xs=[.ref a])(_:SqL K H a (vI ns))(_:ns.length<64)(_:∀ l ns',ns'.Perm ns->ns'.Pairwise (·<=·)->H l=none->Q (.ref l) (upd H l (.lst (vI ns'))))
theorem Ag7(f:X.K=K:=by rfl):Fz X (.builtin "sorted") (Ado K):=by subst f;intro pins s σ H xs us Q I j h;obtain⟨a,ns,rfl,i,b,q⟩:=h;obtain⟨u,rfl,e⟩:=j.one;cases e;obtain⟨its,r,pl,d⟩:=I.list i;have hi:=intsAre_of r;have hsz:=z8;refine sorted_ints pl.isList hi (by rw[hi.length];exact b) λout c a1 a2 a3=>?_;exact Aah I a1 (by have:= a2.length_eq;lia) λl d=>q l c a2 a3 d
inductive Ako (K:NF)(Q:VK)(x:V)(H1:Hp):Prop
|mk(a:_)(ns:_)(_:x=.ref a)(_:SqL K H1 a (vI ns))(_:ns.length<64)(_:∀ l ns',ns'.Perm ns->ns'.Pairwise (· ≥ ·)->H1 l=none->Q (.ref l) (upd H1 l (.lst (vI ns'))))
def ApH (K:NF)(tl:TE)(σ:St)(H:Hp)(Q:VK):Prop:=tl σ H (Ako K Q)
theorem Afa{p kp n:Pos}(v:Gl X "sorted") (w:X.mg "sorted" = none) (f:PE X e tl) (o:X.K=K:=by rfl)
  (m:backTo pos (starEach [e] X.env)=(false,eval e X.env)::backTo pos (starEach [] X.env):=by rfl)
  (b:(backTo pos (starEach [e] X.env)).any (·.1)=false:=by rfl):PE X (.Call (.Name "sorted" p) [e] [⟨some "reverse", .Constant (.bool true) j n,kp⟩] pos) (ApH K tl):=by
 subst o;intro pins s σ H Q I h;refine wpAny_Call_Name_kw (Hr I v w VJ ?_ (by decide) (by decide));refine callWith_kw ?_ m b Z rfl;rw[m];refine Calls.spliced_cons (thn (f pins s σ H _ I h) λu s1 ⟨x,H1,i,y,z⟩=>Calls.spliced_nil ?_);refine kws_cons (Constant_bool (kws_nil ?_));obtain⟨a,ns,rfl,t,c,q⟩:=z;cases y;obtain⟨its,r,pl,A⟩:=i.list t;have hi:=intsAre_of r;have hsz:=z8;refine sorted_ints_rev pl.isList hi (by rw[hi.length];exact c) λout d a1 a2 a3=>?_;exact Aah i a1 (by have:= a2.length_eq;lia) λl f=>q l d a2 (by unfold Ordered at a3;exact a3) f
end
namespace SetW
end SetW
namespace SetW
end SetW
namespace SetW
end SetW
namespace SetW
end SetW
namespace SetW
end SetW
namespace SetW
end SetW
theorem AiD:typeLookup (.type "list_reverseiterator") "__len__" = pure none:=by rw[typeLookup_type,builtinLookup_eq_fast];kernel_rfl
theorem Akp:typeLookup (.type "list_reverseiterator") "__length_hint__" = pure (some (.builtin "list_reverseiterator.__length_hint__")):=by rw[typeLookup_type,builtinLookup_eq_fast];kernel_rfl
section
variable {R:Result->Shared->Prop}{wr:NU}{G:Array GenState->Array GenState->Prop}{P:Nat->Value->Prop}{St:Nat->Shared->Prop}
theorem Ag8(V:WalksS prog w A.in1 it fp wr G n P St)(ty:∀ i s,St i s->s.TypeIs (.ref it) "list_reverseiterator") (M:Addr) (j:Value) (c:Nat) (a:St 0 s) (m:M∉fp) (o:it∈fp) (q:s.heap.get? M=some { cls:=.type "list", data:=.seq #[] c })
  (fin:∀ s' acc c',Moved (M::wr) G s s'->s'.heap.get? M=some { cls:=.type "list", dict:=none,data:=.seq acc c',slots:=#[] }->ItemsOf P acc n->R (.ok (.ret j)) s') (hn:n<=sizeLine) :
  wpAny (model prog w) A.in1 (Builtin.List.listExtendWith (.ref M) (.ref it) j)
   (λf s'=>match f with | .done d=>R (.ok d) s' | .again k=>k.quiet=true/\codeAny (model prog w) A k R s') (λe s'=>R (.error e) s') s:=by
 have ne:M≠it:=λe=>m (e▸o);have t:Builtin.List.listSameRef (.ref M) (.ref it)=false:=by simp[Builtin.List.listSameRef,ne]
 unfold Builtin.List.listExtendWith;refine zA (wpAny_typeOf (ty 0 _ a) ?_);rw[if_neg (by rw[t];decide)];refine zA (V.self 0 _ _ _ a ?_);refine zA (z9 ?_);unfold Builtin.List.listLengthHint;refine zA (wpAny_specialOf (ty 0 _ a) AiD ?_);show wpAny _ A.in1 (specialOf (Value.ref it) (Str.ofString "__length_hint__") >>= _) _ _ _;refine zA (wpAny_specialOf (ty 0 _ a) Akp ?_);generalize h:("list_reverseiterator.__length_hint__" : String)=name
 wp_delta
 rw[show splitId name=some ("list_reverseiterator", "__length_hint__") from by subst h;decide +kernel];subst h;refine zA (wpAny_isInstance (b:=true) (ty 0 _ a) (by rw[isSubtype_type];kernel_rfl) ?_);refine zE ?_;rw[if_neg (by decide)];refine zE ⟨plainId_quiet F.plain_extend_loop _,codeAny_extend_loopS V hn _ m _ n 0 _ _ _ Z (AtR _) a q (ItemsOf.nil P) λs' acc c' p l r=>?_⟩;exact fin s' acc c' p l r
theorem Akq(V:WalksS prog w A.in1 it fp wr G n P St)(ty:∀ i s,St i s->s.TypeIs (.ref it) "list_reverseiterator") (M:Addr) (j:St 0 s) (p:M∉fp) (q:it∈fp) (h:s.heap.get? M=some { cls:=.type "list", data:=.seq #[] })
  (fin:∀ s' acc c',Moved (M::wr) G s s'->s'.heap.get? M=some { cls:=.type "list", dict:=none,data:=.seq acc c',slots:=#[] }->ItemsOf P acc n->R (.ok (.ret .none)) s') (hn:n<=sizeLine) :
  wpAny (model prog w) A.in1 (Builtin.«list.__init__» ⟨[.ref M,.ref it],[]⟩)
   (λf s'=>match f with | .done d=>R (.ok d) s' | .again k=>k.quiet=true/\codeAny (model prog w) A k R s') (λe s'=>R (.error e) s') s:=by
 show wpAny _ A.in1 (do let old <- Builtin.List.listItems (.ref M);Builtin.List.listUpdate (.ref M) (λ_=>#[]);letGo old.toList.reverse;Builtin.List.listExtendWith (.ref M) (.ref it) .none) _ _ s;refine zA ?_;unfold Builtin.List.listItems;refine zA (wpAny_seqItems h Z (zE ?_));show wpAny _ A.in1 (updateSeq M (λ_=>#[]) >>= λ_=>letGo (#[]:Array Value).toList.reverse >>= λ_=>Builtin.List.listExtendWith (.ref M) (.ref it) .none) _ _ s;refine zA (wpAny_updateSeq h Z ?_);have m:=zR (Obj.mapSeq (λ_=>(#[]:Array Value))) h Z;have a:∀ b o,b≠M->s.heap.get? b=some o->(s.heap.update M (Obj.mapSeq (λ_=>(#[]:Array Value)))).get? b=some o:=λb o nb e=>(zH _ _ (Ne.symm nb)).trans e;refine zA (wpAny_letGo ?_);refine Ag8 V ty M .none _ (V.frame 0 s _ s.toks j (AtH _) λb c o e=>a b o (λz=>p (z▸c)) e) p q m (λs' acc c' r l t=>?_) hn;exact fin s' acc c' (Moved.trans V.gtrans ((Moved.refl V.grefl).then_heap (AtH _) λb o c e=>a b o (λz=>c (z▸AtJ)) e) r) l t
theorem Akr(V:WalksS prog w A.in1.in1 it fp wr G n P St)(ty:∀ i s,St i s->s.TypeIs (.ref it) "list_reverseiterator") (c:St 0 s) (a:∀ b∈fp,b<s.heap.objs.size) (j:it∈fp)
  (fin:∀ s' acc c',Moved (s.heap.objs.size::wr) G { s with heap:=s.heap.push { cls:=.type "list", data:=.seq #[] } } s' ->
   s'.heap.get? s.heap.objs.size=some { cls:=.type "list", dict:=none,data:=.seq acc c',slots:=#[] }->ItemsOf P acc n->Q (.ref s.heap.objs.size) s') (hn:n<=sizeLine) :
  wpAny (model prog w) A (call (.type "list") [.ref it]) Q E s:=by
 have p:s.heap.objs.size∉fp:=λz=>Au7 _ (a _ z);refine callType_codes (Q₁:=λh s1=>h=.ref s.heap.objs.size/\s1={ s with heap:=s.heap.push { cls:=.type "list", data:=.seq #[] } }) F.called_list (F.typeCall_list_1 _) F.entry_list_init (code_list_new _ ⟨rfl,rfl⟩) λh s1 h1=>?_;obtain⟨rfl,rfl⟩:=h1;have f:(s.heap.push { cls:=.type "list", data:=.seq #[] }).get? s.heap.objs.size=some { cls:=.type "list", data:=.seq #[] }:=zD _ Z;refine⟨⟨_,f,Z⟩,F.args_list_init_2 _ _,Akq V ty _ (V.frame 0 s _ s.toks c (AtH _) λb _ o e=>zB _ e) p j f (λs' acc c' l d m=>?_) hn⟩;exact⟨Z,fin s' acc c' l d m⟩
end
section
variable {K:NF}{p1 p2 pos1 pos2:Pos}
inductive Ag9 (K:NF)(Q:VK)(x:V)(H1:Hp):Prop
|mk(a:_)(ys:_)(_:x=.ref a)(_:SqL K H1 a ys)(_:ys.length<=1000)(_:∀ l,H1 l=none->Q (.ref l) (upd H1 l (.lst ys.reverse)))
def Aks (K:NF)(te:TE)(σ:St)(H:Hp)(Q:VK):Prop:=te σ H (Ag9 K Q)
theorem AgA(y:Gl X "list") (B:X.mg "list" = none) (E:Gl X "reversed") (n:X.mg "reversed" = none) (W:PE X e te) (O:X.K=K:=by rfl) (hc:X.calm=true:=by rfl)
  (f:starEach [e] X.env=(false,eval e X.env)::starEach [] X.env:=by rfl)
  (c:starEach [.Call (.Name "reversed" p2) [e] [] pos2] X.env=(false,eval (.Call (.Name "reversed" p2) [e] [] pos2) X.env)::starEach [] X.env:=by rfl)
  (t:(backTo pos1 (starEach [] X.env)).any (·.1)=false:=by rfl) (F:(backTo pos2 (starEach [] X.env)).any (·.1)=false:=by rfl) :
  PE X (.Call (.Name "list" p1) [.Call (.Name "reversed" p2) [e] [] pos2] [] pos1) (Aks K te):=by
 subst O;intro pins s σ H Q I h;have hsz:sizeLine=16777216:=z8;refine wpAny_Call_Name_kw (Hr I y B Fb ?_);refine PyProof.Rows.callWith_type1 ?_ c t;rw[c];show wpAny _ _ (spliced ((false,eval (.Call (.Name "reversed" p2) [e] [] pos2) X.env)::backTo pos1 (starEach [] X.env))) _ _ s;refine Calls.spliced_cons ?_;refine wpAny_Call_Name_kw (Hr I E n AeC ?_);refine PyProof.Rows.callWith_type1 ?_ f F;rw[f];show wpAny _ _ (spliced ((false,eval e X.env)::backTo pos2 (starEach [] X.env))) _ _ s;refine Calls.spliced_cons (thn (W pins s σ H _ I h) λu s1 ⟨x,H1,l,U,a,ys,ex,R,hy,q⟩=>?_);subst ex;cases U;refine Calls.spliced_nil ?_;obtain⟨its,r,pl,Y⟩:=l.list R;have M:=r.length;refine call_reversed_list pl.isList ?_;refine Calls.spliced_nil ?_;obtain⟨h1,g1,d1,k1,o1⟩:=s1;have p:(h1.push (revObj a ((its.toArray.size:Int)-1))).IsRevIter h1.objs.size a ((its.toArray.size:Int)-1-((0:Nat):Int)):=⟨_,zD _ Z,Z,by show Data.fields _=Data.fields _;rw[show(its.toArray.size:Int)-1-((0:Nat):Int)=(its.toArray.size:Int)-1 by omega]⟩;have C:(h1.push (revObj a ((its.toArray.size:Int)-1))).IsList a its.toArray:=pl.isList.push _;obtain⟨oa,w,_⟩:=pl.isList;have d:a<h1.objs.size:=Heap.lt_size w;have T:X.A.in1.in1.handled=none:=by simp[I.ok.hd hc]
 have ps:(h1.push (revObj a ((its.toArray.size:Int)-1))).objs.size=h1.objs.size+1:=Heap.size_push _ _;refine Akr (Walks.toS (Walks.listRev T h1.objs.size a (AtU d) its.toArray)) (λi s x=>x.2.1.typeIs) ⟨AtR _,p,C⟩ (λb m=>?_) (by simp) (λs' acc c' J P N=>?_) (by rw[Aub];omega)
 ·show b<(h1.push (revObj a ((its.toArray.size:Int)-1))).objs.size;rw[ps];rcases yD.mp m with e | e
  ·rw[e];exact AuS _
  ·rw[zF.mp e];exact AvG d
 ·have vs:Vals ys.reverse acc.toList:=by
   refine SX _ _ (by rw[AuC,M];have:=N.1;simpa using this.symm) λi x u e1 e2=>?_;have hi:i<ys.length:=by
    have:=(zC.mp e1).1
    rwa [AuC] at this
   have e3:=N.2 i u (by rw[<- zO];exact e2);rw[Avr hi] at e1;obtain⟨v,S,z⟩:=r.get e1;rw[Aub,<- M] at e3;have L:its[ys.length-1-i]?=some u:=by simpa using e3
   rw[S] at L;cases L;exact z
  rw[Moved.eq_with J];have D:s'.heap.get? (h1.objs.size+1)=some { cls:=.type "list", dict:=none,data:=.seq acc c',slots:=#[] }:=by
   have:=P;dsimp only at this;rw[ps] at this;exact this
  show EP X pins σ Q (Value.ref (h1.push (revObj a ((its.toArray.size:Int)-1))).objs.size) _;rw[ps];refine⟨.ref (h1.objs.size+1),_,l.laid (t':=s'.toks) (o:=.lst ys.reverse) (h':=s'.heap) (λb o e=>?_) (Au1 _) ?_,Z,q _ (l.hok.fresh (Au1 _))⟩
  ·have m:=Heap.lt_size e;refine J.heap b o ?_ (zB _ (zB _ e));show b∉[(h1.push (revObj a ((its.toArray.size:Int)-1))).objs.size,h1.objs.size];rw[ps];have j:b<h1.objs.size:=m;simp only [Aui,Auj,or_false,not_or];exact⟨AtU (AvG j),AtU j⟩
  ·exact⟨by rw[AuC];exact Y,acc.toList,c',vs,by simpa using D⟩
end
end L2
namespace PySem
open Sem (wp)
open Builtin Builtin.Str Builtin.Int
open PySem.Spec PyProof.Rows
end PySem
namespace L2
open PySem PySem.Spec PyProof.Rows
end L2
namespace Mine
open PySem L2
def Sg (c:Nat):Prop:=c=35\/c=46
structure Cl (cl:NN)(m n:Nat):Prop where
 hn:cl.length=n
 hm:∀ t∈cl,t.length=m
 sg:∀ t∈cl,∀ c∈t,Sg c
 m1:1<=m
 m40:m<=40
 n1:1<=n
 n40:n<=40
def flip(c:Nat):Nat:=if c=35 then 46 else 35
theorem Ane(c:Nat):Sg (flip c):=by unfold flip Sg;split <;> simp
def back(cl:NN):NN:=cl.map λt=>t.reverse.map flip
def col (cl:NN)(e:Nat):NI:=cl.map λt=>t.getD e 0
def IK (cl:NN)(m:Nat):NN:=(List.range m).map λe=>(col cl e).map flip
theorem Cl.IK{cl:NN}{m n:Nat}(h:Cl cl m n):Cl (IK cl m) n m where
 hn:=by unfold Mine.IK;simp
 hm:=λt a=>by
  obtain⟨e,_,rfl⟩:=yC.mp a;simp[col,h.hn]
 sg:=λt a c hc=>by
  obtain⟨e,_,rfl⟩:=yC.mp a;obtain⟨d,_,rfl⟩:=yC.mp hc;exact Ane d
 m1:=h.n1
 m40:=h.n40
 n1:=h.m1
 n40:=h.m40
def Rs (ks:NA):Prop:=(∀(i:Nat)(a b:Int),ks[i]?=some a->ks[i+1]?=some b->a<b)/\∀ k∈ks,0<=k/\k<40
structure Ft (th:NA)(tss:NV)(tr:NA):Prop where
 m1:1<=th.length
 m40:th.length<=40
 t1:1<=tss.length
 t40:tss.length<=40
 n1:1<=tr.length
 n40:tr.length<=40
 hth:∀ v∈th,0<=v/\v<40
 hti:∀ ks∈tss,Rs ks
 htr:∀ v∈tr,0<=v/\v<tss.length
def shd (th ks:NA):NI:=th.map λs=>if s∈ks then 35 else 46
def wv (th:NA)(tss:NV)(tr:NA):NN:=tr.map λv=>shd th (tss.getD v.toNat [])
theorem ApI(th:NA)(tss:NV)(tr:NA):(wv th tss tr).length=tr.length:=by unfold wv;rw[AtG]
theorem Anf{tss:NV}{v:Int}(h:0<=v/\v<tss.length):tss[v.toNat]?=some (tss.getD v.toNat []):=by
 have:v.toNat<tss.length:=by omega
 rw[AtY,AtF this];rfl
section
variable {α β:Type} [DecidableEq α] [DecidableEq β]
def unl (l:List α):List α:=l.foldl (λf x=>if x∈f then f else f++[x]) []
def ix (l:List α)(x:α):Nat:=@List.idxOf α instBEqOfDecidableEq x l
def num (l:List α):NI:=l.map λx=>ix (unl l) x
end
theorem Oh{α β:Type}{f:α->List β}{h:Nat}:∀ xs:List α,(∀ x∈xs,(f x).length=h)->(xs.flatMap f).length=xs.length*h
 | [],_=>by simp
 | x::xs,k=>by
  rw[AvH,AtI,k x AtJ,Oh xs λy a=>k y (AtL _ a),AtS,Aut];omega
theorem Tg{α β:Type}{f:α->List β}{h:Nat}:∀(xs:List α),(∀ x∈xs,(f x).length=h)->∀ i s,s<h->(xs.flatMap f)[i*h+s]?=xs[i]?.bind λx=>(f x)[s]?
 | [],_,i,s,hs=>by simp
 | x::xs,k,0,s,hs=>by
  rw[AvH,Nat.zero_mul,Avs,Auc (by rw[k x AtJ];exact hs)];rfl
 | x::xs,k,i+1,s,hs=>by
  have kx:=k x AtJ;rw[AvH,AtZ (by rw[kx,Aut];omega),kx,show(i+1)*h+s-h=i*h+s by rw[Aut];omega,
   Tg xs (λy a=>k y (AtL _ a)) i s hs,List.getElem?_cons_succ]
def fil (pr one other:NN):NN:=pr.flatMap λu=>(one.zip other).map λq=>u.flatMap λc=>if c=35 then q.1 else q.2
section
variable {pr one other:NN}{m n w h:Nat} (C:Cl pr m n) (C1:Cl one w h) (C2:Cl other w h)
include C C1 C2
include C C1 C2
end
end Mine
namespace L2
open PySem PySem.Spec PyProof.Rows
variable {s:Shared}{x y:Str}{scope sc0:Scope}{c0 c C f:Addr}{cl:List (Str × Addr)}{X:Cx}{Nc ps:NX}{Bv u:NI}{σ:St}{H:Hp}{px pos:Pos}{iter elt e a:Expr}{ifs es:List Expr}{wi:TI}{tc:TT}{te:TE}{i kx n:Nat}
theorem Aai{acc:List (Str × Addr)}:∀{b:List (Str × NameKind)} {n:Nat} {h:Heap},b.filter (λy=>y.2 == .cell)=[]->cellsFrom n b acc=acc/\pushCells h b=h
 | [],_,_,_=>⟨Z,Z⟩
 | (a,k)::r,n,h,e=>by
  cases hk:k == NameKind.cell with
  | true=>simp_all
  | false =>
   have c:r.filter (λy=>y.2 == .cell)=[]:=by simpa [hk] using e
   unfold cellsFrom pushCells;rw[hk];exact Aai c
theorem Ach{x:Str}{acc:List (Str × Addr)}:∀{b:List (Str × NameKind)} {n:Nat} {h:Heap},b.filter (λy=>y.2 == .cell)=[(x,.cell)] ->
  cellsFrom n b acc=(x,n)::acc/\pushCells h b=h.push { cls:=.type "cell", data:=.cell none }
 | [],_,_,e=>by simp at e
 | (a,k)::r,n,h,e=>by
  cases hk:k == NameKind.cell with
  | true =>
   have c:(a,k)::r.filter (λy=>y.2 == .cell)=[(x,.cell)]:=by simpa [hk] using e
   injection c with e1 e2;cases e1;have:= Aai (acc:=(x,n)::acc) (n:=n+1) (h:=h.push { cls:=.type "cell", data:=.cell none }) e2;exact this
  | false =>
   have c:r.filter (λy=>y.2 == .cell)=[(x,.cell)]:=by simp_all
   have:= Ach (acc:=acc) (n:=n) (h:=h) c;unfold cellsFrom pushCells;rw[hk];exact this
abbrev Akt:Obj:={ cls:=.type "dict", data:=.dict #[] }
abbrev Ar3:Obj:={ cls:=.type "cell", data:=.cell none }
theorem Afb{M:Model}{A:Around}{E:NR}{globals:Addr}{qual:Str}{env:Env}{Q:Env->Shared->Prop}
  (a:scope.names.filter (λy=>y.2 == .cell)=[(x,.cell)])
  (c:Q { scope,locals:=s.heap.objs.size,globals,cells:=(x,s.heap.objs.size+1)::cl,qual,func:=none,code:=env.code,frame:=env.frame,builtins:=env.builtins } { s with heap:=(s.heap.push Akt).push Ar3 }) :
  wpAny M A (newFunctionEnv scope globals cl [] qual none .none (some env)) Q E s:=by
 simp only [newFunctionEnv,Option.isSome_some,if_true];refine zA (wpAny_alloc ?_);refine zA (wpAny_layCells _ (λname b cells=>by simp_all) _ _ _ _ ?_);have e1:=λ(n:Nat)(h:Heap)=>Ach (acc:=cl) (n:=n) (h:=h) a;rw[(e1 _ s.heap).1,(e1 0 _).2];rw[show({ s with heap:=s.heap.push Akt }:Shared).heap.objs.size=s.heap.objs.size+1 from Heap.size_push ..];exact zA (by exact zE (zE c))
def Ti (X:Cx)(x:Str)(Nc:NX)(scope:Scope)(cs:List (Str × Addr))(C:Addr)(fp:NU)(s:Shared)(H:Hp):Cx:=cxG X (· == x) Nc scope cs C fp s H λ_ _=>False
structure Jy (X:Cx)(x:Str)(Nc:NX)(Bv:NI)(scope:Scope):Prop where
 kind:scope.kind=.function
 one:scope.names.filter (λy=>y.2 == .cell)=[(x,.cell)]
 names:∀ y∈scope.names,y.2=.local->scope.names.lookup y.1=some .local
 fr:∀ y∈scope.names,y.2=.free->X.env.scope.names.lookup y.1=some .cell/\scope.names.lookup y.1=some .free
 loc:scope.names.lookup x=some .cell
 len:Nc.length=Bv.length+1
 hd:Nc[0]?=some x
 nd:Nc.Nodup
 cap:∀ k j,Bv[k]?=some j->∃ y,Nc[k+1]?=some y/\X.N[j]?=some y/\scope.names.lookup y=some .free
theorem Jy.cell(O:Jy X x Nc Bv scope)(h:(y,NameKind.cell)∈scope.names):y=x:=by have:(y,NameKind.cell)∈scope.names.filter (λy=>y.2 == .cell):=z7.mpr ⟨h,Z⟩;rw[O.one] at this;have:= zF.mp this;injection this
section
variable {pins:NO}
theorem Tj(h:List.lookup y ((x,c0)::cl)=some c):(y=x/\c=c0)\/(y≠x/\cl.lookup y=some c):=by
 rw[Auy] at h;cases a:y == x with
 | true=>simp_all
 | false=>rw[a] at h;exact .inr ⟨by simpa using a,h⟩
theorem Aku:List.lookup x ((x,c0)::cl)=some c0:=by simp[Auy]
theorem Akv(h:y≠x):List.lookup y ((x,c0)::cl)=cl.lookup y:=by
 have:(y == x)=false:=by simpa using h
 simp[Auy,this]
theorem Jy.g(O:Jy X x Nc Bv scope):ZJ X 1 Nc Bv scope:=⟨O.kind,O.names,O.fr,O.len,O.cap⟩
section
variable  (O:Jy X x Nc Bv scope) (hc:X.calm=true) (hi:PI X (.Name x px) iter wi)
 (htc:∀ cl C fp s H,PIf (Ti X x Nc scope cl C fp s H) ifs tc) (hte:∀ cl C fp s H,PE (Ti X x Nc scope cl C fp s H) elt te)
include O hc htc hte in
theorem Ar4:Blk X (.Name x px) iter elt ifs scope pos (λ_ _ _=>False) (R9 Bv tc te):=by
 intro cl pins σ H s J fp it t Q RR E f l I T st j h n r;refine yF (Afb O.one ?_);have p:(s.heap.push (RB [] 0)).objs.size=s.heap.objs.size+1:=Heap.size_push ..;have q:∀{y},(y,NameKind.free)∈scope.names->y≠x:=λd e=>by
  have:=(O.fr _ d Z).2;rw[show _=x from e,O.loc] at this;cases this
 have no:∀{y c},cl.lookup y=some c->s.heap.objs.size<=c->False:=λe z=>absurd (I.clt (f _ _ e).1) (Nat.not_lt.mpr z);refine Ahn (s:=s) (fn:=(· == x)) O.g hc ⟨λy c e=>?_,λy c z e=>?_,λa b c e1 e2 z=>?_,λy d=>by cases O.cell d;exact⟨_,Aku⟩,λy d=>(Akv (q d)).trans (l y d)⟩
  (Bp (i:=0) O.nd O.hd (.inr (Gi I.ok.kind O.loc nofun)) (.inl (beq_self_eq_true x))) (hte _ _ _ _ _) (htc _ _ _ _ _) I T st j (Aop h) Z (show s.heap.objs.size<(s.heap.push (RB [] 0)).objs.size by rw[p];exact AuS _)
  (λb o e=>zB _ (zB _ (zB _ e))) (zB _ (zB _ (zD _ Z)))
  ((Heap.Ns.new _ (.type "dict")).keeps λb o e=>zB _ e) (λy c e z=>?_)
  (λs' m hn k=>n _ _ s' m hn k (show s.heap.objs.size<=(s.heap.push (RB [] 0)).objs.size by rw[p];exact Au1 _)) λ_ _ z=>z.elim
 ·rcases Tj e with ⟨_,a2⟩ | ⟨_,a2⟩
  ·exact .inr ⟨by rw[a2];show _<(s.heap.push (RB [] 0)).objs.size+1;omega,by rw[a2];exact Nat.succ_ne_self _⟩
  ·exact .inl (f y c a2).1
 ·rcases Tj e with ⟨_,a2⟩ | ⟨a1,_⟩
  ·rw[a2];show _<=(s.heap.push (RB [] 0)).objs.size+1;omega
  ·exact absurd (beq_iff_eq.mp z) a1
 ·rcases Tj e1 with ⟨a1,_⟩ | ⟨_,a2⟩
  ·rcases Tj e2 with ⟨b1,_⟩ | ⟨_,b2⟩
   ·rw[a1,b1]
   ·exact(no b2 z).elim
  ·exact(no a2 z).elim
 ·rcases Tj e with ⟨_,a2⟩ | ⟨_,a2⟩
  ·rw[a2];exact⟨none,_,(show((s.heap.push (RB [] 0)).push Akt).objs.size=_ from Heap.size_push ..)▸zD _ Z,Z⟩
  ·exact(no a2 (Auu z)).elim
include O hc hi htc hte in
theorem Akw(a:∀ x,foldedSetIterable iter X.env x=pure x:=by intro _;rfl):PE X (.ListComp elt [⟨.Name x px,iter,ifs,0⟩] scope pos) (Ahm wi Bv tc te):=AjM O.kind O.names O.fr hi (Ar4 O hc htc hte) a
end
theorem Akx{py spos:Pos}(O:Jy X x Nc Bv scope)(hc:X.calm=true)
  (b:X.N.Nodup) (e:X.N[i]?=some y) (d:X.env.scope.names.lookup y=some .local) (hi:PI X (.Name x px) iter wi)
  (htc:∀ cl C fp s H,PIf (Ti X x Nc scope cl C fp s H) ifs tc) (hte:∀ cl C fp s H,PE (Ti X x Nc scope cl C fp s H) elt te)
  (a:swapsWith (.ListComp elt [⟨.Name x px,iter,ifs,0⟩] scope pos) (some (.Name y py)) spos.line X.env=pure true) (c:∀ x,foldedSetIterable iter X.env x=pure x:=by intro _;rfl) :
  PS X (.Assign [.Name y py] (.ListComp elt [⟨.Name x px,iter,ifs,0⟩] scope pos) spos) (Agh (Ahm wi Bv tc te) (JW i)):=Agu O.kind O.names O.fr hi (Ar4 O hc htc hte) b e d a c
def AsY (scope sc:Scope):Scope:={ scope with names:=scope.names.map λ(n,k)=>if (k == .free && sc.kind == .function && sc.names.lookup n == some .cell) then (n,.cell) else (n,k) }
theorem Afc{a:Scope}{cs:List (Str × Addr)}{fp:NU}(h:X.env.scope=sc0)(b:∀ y∈scope.names,y.2=.free->(AsY a sc0).names.lookup y.1=some .cell/\scope.names.lookup y.1=some .free) :
  ∀ y∈scope.names,y.2=.free->(Ti X x Nc a cs C fp s H).env.scope.names.lookup y.1=some .cell/\scope.names.lookup y.1=some .free:=by
 subst h;exact b
end
def Aky (u:NI):It where
 go:=λi _=>i<u.length
 yld:=λi H x H'=>∃ T c,x=.ref T/\H T=none/\u[i]?=some c/\H'=upd H T (.tup [.int (i:Int),.str (tx [c])])
 stop:=λi _=>u.length=i
def Ar5 (e it:Addr)(u:NI)(t:Tok)(i:Nat)(h:Heap):Prop:=(∃ old,IsEnum h e it i old)/\h.IsStrIter it (strIterType (tx u)) (tx u) t i
theorem AgB{P:Program}{w:World}{K:NF}{tp:Pos}{e it:Addr}{t:Tok}(n:e≠it) :
  Turn P w K (.Tuple es kx tp) (Aky u) [e,it] e (Ar5 e it u t) where
 mem:=by simp
 obj:=λi h st c hc=>by
  obtain⟨⟨b,s1⟩,L⟩:=st;simp only [Aui,Auj,or_false] at hc;rcases hc with z | z
  ·simp_all
  ·subst z;obtain⟨o,e,_,d⟩:=L;exact⟨o,e,λv z=>by simp_all⟩
 keep:=λi h h' st k=>by
  obtain⟨⟨b,s1⟩,o,e1,c,d⟩:=st;exact⟨⟨b,k _ (by simp) _ s1⟩,o,k _ (by simp) _ e1,c,d⟩
 item:=by
  intro X S Y M hc i pins s σ H E I C st l;obtain⟨⟨b,s1⟩,p⟩:=st;have D:X.A.in1.handled=none:=I.ok.hd hc;have hn:i<(tx u).cps.size:=by exact l
  refine wpAny_pyNext_enum_itemD (ZZ D it (tx u) t) s1 p hn n (λz=>?_) λu' h1 tk F ho x hT hsz B=>?_
  ·simp_all
  obtain⟨c,a,j,rfl⟩:=F;have j:u[i]?=some c:=by rw[<- zO] at j;exact j
  refine⟨_,Z,wpAny_letOwnedTupleGo_enum ho λh2 q R=>?_⟩;have el:=Heap.lt_size s1;have il:it<s.heap.objs.size:=by obtain⟨_,e,_⟩:=p;exact Heap.lt_size e
  have up:∀ c o,c≠e->h1.get? c=some o->h2.get? c=some o:=λc o c1 z=>(R.2 c c1).trans z;have r:=I.hok.fresh (AtH _);have J:Inv X pins σ (upd H s.heap.objs.size (.tup [.int (i:Int),.str (tx [c])])) { s with heap:=s.heap.push { cls:=.type "tuple", data:=.seq #[.int i tk,.str ⟨#[c]⟩ a] },toks:=tk+1 } :=
   I.laid (λc o e=>zB _ e) (AtH _) ⟨by show 2<=sizeLine;decide,[.int i tk,.str ⟨#[c]⟩ a],.cons ⟨tk,Z⟩ (.cons ⟨a,Z⟩ .nil),⟨_,zD _ Z,Z,_,Z⟩⟩;have fp2:∀ c'∈[e,it],NK X pins (upd H s.heap.objs.size (.tup [.int (i:Int),.str (tx [c])])) c':=λc' hc=>by
   obtain⟨W,f⟩:=C c' hc;refine⟨?_,f⟩;have lt:c'<s.heap.objs.size:=by
    simp only [Aui,Auj,or_false] at hc;rcases hc with e | e <;> subst e <;> assumption
   rw[Aj (AtU lt)];exact W
  have O:Inv X pins σ (upd H s.heap.objs.size (.tup [.int (i:Int),.str (tx [c])])) { s with heap:=h2,toks:=tk+1 }:=by
   refine Inv.Qp (s:={ s with heap:=s.heap.push { cls:=.type "tuple", data:=.seq #[.int i tk,.str ⟨#[c]⟩ a] },toks:=tk+1 }) J (λc' o hc z=>?_) fp2;simp only [Aui,Auj,or_false,not_or] at hc;refine up c' o hc.1 ?_;by_cases m:c'=s.heap.objs.size
   ·subst m;have y:(s.heap.push { cls:=.type "tuple", data:=.seq #[.int i tk,.str ⟨#[c]⟩ a] }).get? s.heap.objs.size=some { cls:=.type "tuple", data:=.seq #[.int i tk,.str ⟨#[c]⟩ a] }:=zD _ Z;rw[y] at z;cases z;exact hT
   ·have y:s.heap.get? c'=some o:=by
     rw[<- z];exact(Heap.get?_push_ne _ _ _ m).symm
    exact B c' o hc.1 hc.2 y
  obtain⟨T,q1,Q,U⟩:=x;exact⟨.ref s.heap.objs.size,_,O,Z,⟨s.heap.objs.size,c,Z,r,j,Z⟩,⟨⟨_,by simpa using q⟩,T,up _ _ n.symm q1,Q,U⟩,λc hc=>(fp2 c hc).1⟩
 done:=by
  intro X S Y M hc i pins s σ H E I C st l;have l:=l;obtain⟨⟨b,s1⟩,p⟩:=st;have D:X.A.in1.handled=none:=I.ok.hd hc;have N:i=(tx u).cps.size:=by exact l.symm
  subst N;refine wpAny_pyNext_enum_endD (ZZ D it (tx u) t) s1 p λh' B=>⟨Z,I.Qp (λc o hc z=>?_) C⟩;simp only [Aui,Auj,or_false,not_or] at hc;exact B c o hc.2 z
 self:=λ_ _ _ _ _ st h=>by obtain⟨⟨b,s1⟩,_⟩:=st;exact wpAny_pyIter_enum s1 h
section
variable {tp:Pos}
inductive Akz (R:(It->Hp->Prop))(vs:Na)(H1:Hp):Prop
|mk(u:_)(_:vs=[.str (tx u)])(_:R (Aky u) H1)
def ApJ (ta:TA)(σ:St)(H:Hp)(R:(It->Hp->Prop)):Prop:=ta σ H (Akz R)
theorem Ak0{ta:TA}{p:Pos}(l:Gl X "enumerate") (m:X.mg "enumerate" = none) (j:PA X [a] ta) (o:starEach [a] X.env=[(false,eval a X.env)]:=by rfl) :
  PI X (.Tuple es kx tp) (.Call (.Name "enumerate" p) [a] [] pos) (ApJ ta):=by
 intro pins s σ H R I h;refine Call_ (Hr I l m SN (PyProof.Rows.callWith_type1 (thn (j pos pins s σ H _ I h) λus s1 ⟨vs,H1,b,i,w⟩=>?_) o Z));obtain⟨u,e,q⟩:=w;subst e;cases i with
 | cons r n =>
  cases n;obtain⟨t,rfl⟩:=r;refine call_enumerate_str λh' f hi hsz v=>wpAny_pyIter_enum f ?_;refine⟨_,[s1.heap.objs.size+1,s1.heap.objs.size],_,_,H1,Z,b.kept v,AgB (lne (AuS _) 0).symm,⟨⟨_,f⟩,hi⟩,λc hc=>?_,q⟩;have d:s1.heap.objs.size<=c:=by
   grind
  exact b.Aid d (b.hok.fresh d)
theorem AiE{g:TG}{tb:TS}{D:Ends}(Pv:Nat->St->Hp->Prop)(f:Pv 0 σ H)
  (h:∀ i c σ H T,u[i]?=some c->Pv i σ H->H T=none->g (.ref T) σ (upd H T (.tup [.int (i:Int),.str (tx [c])])) λa H2=>tb { D with nx:=Pv (i+1),ct:=Pv (i+1),bk:=D.nx } a H2) (l:∀ σ H,Pv u.length σ H->D.nx σ H) :
  ∃ W:Nat->Nat->St->Hp->Prop,(∃ m,W 0 m σ H)/\∀ i m σ H,W i m σ H ->
   ((Aky u).stop i H/\D.nx σ H)\/((Aky u).go i H/\∃ N:St->Hp->Prop,(∀ σ' H',N σ' H'->∃ d,d<m/\W (i+1) d σ' H')/\∀ x H',(Aky u).yld i H x H'->g x σ H' λa H2=>tb { D with nx:=N,ct:=N,bk:=D.nx } a H2):=by
 refine⟨λi m σ H=>m=u.length-i/\i<=u.length/\Pv i σ H,⟨u.length,by simp,AtR _,f⟩,?_⟩;rintro i m σ H ⟨rfl,hi,p⟩;by_cases b:i<u.length
 ·refine .inr ⟨b,Pv (i+1),λσ' H' n=>⟨u.length-(i+1),by omega,Z,b,n⟩,λx H' y=>?_⟩;obtain⟨T,c,rfl,j,hc,rfl⟩:=y;exact h i c σ H T hc p j
 ·have e:i=u.length:=by lia
  subst e;exact .inl ⟨Z,l σ H p⟩
end
inductive AgC (x:V)(vs:Na)(H:Hp)(Q:VK):Prop
|mk(z:Str)(y:Str)(_:x=.str z)(_:vs=[.str y])(_:z.length<=sizeLine)(_:Q (.str (Txt.stripChars z y)) H)
theorem Tn:MtR X "str.strip" AgC:=by intro pins s σ H x vs v us Q I b c h;obtain⟨z,y,rfl,rfl,d,q⟩:=h;obtain⟨t,rfl⟩:=b;obtain⟨e,rfl,a⟩:=c.one;obtain⟨t',rfl⟩:=a;exact SC.stripChars (λt' k=>⟨.str _,H,I.tok _,⟨_,Z⟩,q⟩) d
inductive Afd (x:V)(vs:Na)(H:Hp)(Q:VK):Prop
|mk(z:Str)(y:Str)(_:x=.str z)(_:vs=[.str y])(_:Q (.bl (Txt.startswith z y)) H)
theorem Wg:MtR X "str.startswith" Afd:=by intro pins s σ H x vs v us Q I b c h;obtain⟨z,y,rfl,rfl,q⟩:=h;obtain⟨t,rfl⟩:=b;obtain⟨d,rfl,a⟩:=c.one;obtain⟨t',rfl⟩:=a;exact SC.startswith ⟨.bl _,H,I,Z,q⟩
def trim(u:NI):NI:=((u.dropWhile λc=>decide (c=32)).reverse.dropWhile λc=>decide (c=32)).reverse
theorem Adp(c:Nat):(tx [32]).cps.contains c=decide (c=32):=by
 show(#[32]:Array Nat).contains c=_;by_cases h:c=32
 ·simp
 ·simp_all
theorem Ang{p:Nat->Bool}(l:NI):l.drop (l.takeWhile p).length=l.dropWhile p:=by
 induction l with
 | nil=>rfl
 | cons a l b =>
  rw[Avt,List.dropWhile_cons];by_cases h:p a=true
  ·rw[if_pos h,if_pos h];exact b
  ·rw[if_neg h,if_neg h];rfl
theorem Zn(u:NI):Txt.stripChars (tx u) (tx [32])=tx (trim u):=by
 rw[Txt.stripChars,W.stripBy_eq];have a:=funext Adp;rw[a];unfold W.stripped;simp only [if_true];rw[Al];generalize f:(λc:Nat=>decide (c=32))=p;have h:=Ang (p:=p) u;have i:(u.takeWhile p).length+(u.dropWhile p).length=u.length:=by
  have:= congrArg List.length (AvI (p:=p) (l:=u));rw[AtI] at this;exact this
 unfold Builtin.Str.strSub trim;rw[f];apply congrArg;apply Array.ext';rw[Array.toList_extract,GR];rw[List.extract_eq_drop_take,h];have d:((u.dropWhile p).reverse.takeWhile p).length+((u.dropWhile p).reverse.dropWhile p).length=(u.dropWhile p).length:=by
  have:= congrArg List.length (AvI (p:=p) (l:=(u.dropWhile p).reverse));rw[AtI,AuC] at this;exact this
 have e:u.length-((u.dropWhile p).reverse.takeWhile p).length-(u.takeWhile p).length=((u.dropWhile p).reverse.dropWhile p).length:=by lia
 rw[e];have e2:(u.dropWhile p)=((u.dropWhile p).reverse.dropWhile p).reverse++((u.dropWhile p).reverse.takeWhile p).reverse:=by
  rw[<- List.reverse_append,AvI,List.reverse_reverse]
 generalize j:((u.dropWhile p).reverse.dropWhile p)=b at e2 ⊢;rw[e2,AvJ (by rw[AuC];exact AtH _),Auf (by rw[AuC];exact AtH _)]
theorem Wh(u:NI)(c:Nat):Txt.startswith (tx u) (tx [c])=decide (u.head?=some c):=by
 unfold Txt.startswith Builtin.Str.subAt;rw[Al];cases u with
 | nil=>rfl
 | cons a u =>
  have e:((tx (a::u)).cps.extract 0 (0+[c].length))=#[a]:=by
   apply Array.ext';rw[Array.toList_extract];rfl
  rw[e];show(decide (0+1<=u.length+1) && (#[a] == #[c]))=_;grind
inductive AsZ (K:NF)(n:Nat)(t:TGs)(v:V)(σ:St)(H:Hp)(Q:(St->Hp->Prop)):Prop
|mk(a:_)(xs:_)(_:v=.ref a)(_:SqL K H a xs)(_:xs.length=n)(_:t xs σ H Q)
section
variable {K:NF}
theorem ApK{k:Nat}{t:TGs}(hc:X.calm=true)(h:PGs X es t)
  (hn:(assignEach es X.env).length=n:=by rfl) (c:(assignEach es X.env).findIdx? (·.1)=none:=by rfl) (m:X.K=K:=by rfl):PG X (.Tuple es k pos) (AsZ K n t):=by
 subst m;intro pins s σ H v u Q I r d;obtain⟨a,xs,e1,q,l,d⟩:=d;subst e1;cases r;obtain⟨its,i,pl,w⟩:=I.list q;rw[assign_Tuple];refine zA (wpAny_standAt ?_);unfold unpack;have f:(assignEach es X.env).length=its.toArray.size:=by rw[hn,<- l,i.length];simp
 rw[f,c];refine zA (z9 (W.kun_itemsOf (I.ok.hd hc) pl.isList λh' p=>?_));have j:Inv X pins σ H { s with heap:=h' }:=I.kept (t':=s.toks) λb o e=>p b o (AtU (Heap.lt_size e)) e;exact h pins _ σ H xs _ Q j (by simpa using i) d
end
theorem Anh{body:List Stmt}{h₀:ExceptHandler}{a:List ExceptHandler}{t:TS}(c:∀ e s,X.xe e s->False)(b:PSs X body t):PS X (.Try body (h₀::a) [] [] pos) t:=by
 intro pins s σ H D I h;refine wpAny_Try_except (zT (b pins s σ H D I h) (λf s1 q=>?_) λe s1 z=>(c e s1 z).elim)
 match f,q with
 | .next,q=>exact wpAny_execs_nil q
 | .brk,q=>exact q
 | .cont,q=>exact q
 | .ret u,q=>exact q
theorem Ak1:PE X e (λ_ _ _=>False):=λ_ _ _ _ _ _ h=>h.elim
theorem Bg{j k:Nat}{fd:FuncData}{sp:Sp}{st:Stmt}{t:TA}{p:Pos}(D:Df X.K X.mg x st ps f fd)(F:Bl X.prog X.w X.K X.mg X.base CX0 j f fd ps sp)(l:Ez k X.A)
  (i:PA X (e::es) t) (h:j<=k:=by decide) (n:Gl X x:=by rfl) (a:(x == ("__debug__" : Str))=false:=by decide) (d:starEach (e::es) X.env=(false,eval e X.env)::starEach es X.env:=by rfl) (c:(backTo pos (starEach es X.env)).any (·.1)=false:=by rfl) :
  PE X (.Call (.Name x p) (e::es) [] pos) (Aok sp [] E0 t):=Eb (F.mono h) l n D.m D.F.kp D.b .nil BK i a d c
theorem cok{N P:NX}(Bv:NI)(Nc:NX)(F:Am N P sc0)(f:X.N=N:=by rfl)(i:X.env.scope=sc0:=by rfl)
  (h:scope.kind=.function/\scope.names.lookup x=some .local/\Nc.length=Bv.length+1/\Nc[0]?=some x:=by exact⟨Z,Z,Z,Z⟩)
  (g:(∀ y∈scope.names,y.2≠.cell)/\(∀ y∈scope.names,y.2=.local->scope.names.lookup y.1=some .local)/\(∀ y∈scope.names,y.2=.free->sc0.names.lookup y.1=some .cell/\scope.names.lookup y.1=some .free)/\Nc.Nodup/\∀ k,k<Bv.length->N[Bv.getD k 0]?=Nc[k+1]?/\(Nc[k+1]?.bind λy=>scope.names.lookup y)=some .free:=by decide +kernel):R8 X x Nc Bv scope:=by
 obtain⟨h1,h2,h3,h4⟩:=h;obtain⟨d,g2,g3,g4,g5⟩:=g;refine⟨h1,d,g2,Zj i g3,h2,h3,h4,g4,λk j hk=>?_⟩;have c:k<Bv.length:=(zC.mp hk).1;obtain⟨a,b⟩:=g5 k c;rw[AtY,hk] at a;cases e:Nc[k+1]? with
 | none=>rw[e] at b;cases b
 | some y=>rw[e] at a b;exact⟨y,Z,by rw[f];exact a,b⟩
end L2
namespace Mine
open PySem L2
def met (st ln c s:Int):Int:=ln / c+(if (s-st)%c<ln%c then 1 else 0)
def ApL (g:Nat->Int)(st:Int)(c:Nat):Nat->Int
 | 0=>0
 | n+1=>ApL g st c n+g ((st+(n:Int))%(c:Int)).toNat
def isH (cl:NN)(p e:Nat):Int:=if (cl.getD p []).getD e 0=35 then 1 else 0
def cnt (cl:NN)(m n:Nat)(left first:Int)(wide high:Nat):Int:=ApL (λp=>ApL (isH cl p) left m wide) first n high
def DX (cl:NN)(m:Nat):NA:=((List.range m).map λe=>(((col cl e).count 35:Nat):Int))++cl.map λt=>((t.count 46:Nat):Int)
theorem Aaj(cl:NN)(m:Nat):(DX cl m).length=m+cl.length:=by unfold DX;rw[AtI,AtG,AtG,AtO]
end Mine
namespace Mine
variable {m n s t:Nat}{dA dB d:NA}
def sm (f:Nat->Nat):NI->Nat
 | []=>0
 | x::l=>f x+sm f l
theorem JK(f:Nat->Nat):∀ a b:NI,sm f (a++b)=sm f a+sm f b
 | [],b=>by simp[sm]
 | x::a,b=>by show f x+sm f (a++b)=f x+sm f a+sm f b;rw[JK f a b];lia
theorem Jz(f:Nat->Nat){a b:NI}(h:a.Perm b):sm f a=sm f b:=by
 induction h with
 | nil=>rfl
 | cons x _ c=>show f x+_=f x+_;rw[c]
 | swap x y l=>show f y+(f x+_)=f x+(f y+_);lia
 | trans _ _ h1 h2=>rw[h1,h2]
theorem Aci(f g:Nat->Nat)(h:∀ x,f x<=g x):∀ l,sm f l<=sm g l
 | []=>AtH _
 | x::l=>Nat.add_le_add (h x) (Aci f g h l)
theorem Lr(f g:Nat->Nat):∀ l,sm (λx=>f x+g x) l=sm f l+sm g l
 | []=>rfl
 | x::l=>by show f x+g x+sm _ l=f x+sm f l+(g x+sm g l);rw[Lr f g l];lia
theorem En(c:Nat):∀ l:NI,sm (λ_=>c) l=l.length*c
 | []=>by simp[sm]
 | x::l=>by show c+sm _ l=(l.length+1)*c;rw[En c l,Aut];lia
theorem Wi(f:Nat->Nat)(h:∀ x,f x<=1)(l:NI):sm f l<=l.length:=by have:= Aci f (λ_=>1) h l;rw[En] at this;lia
theorem Adq(f g:Nat->Nat)(h:∀ x,f x=g x)(l:NI):sm f l=sm g l:=by rw[funext h]
def b2n (b:Bool):Nat:=if b=true then 1 else 0
theorem Oj(b:Bool):b2n b<=1:=by cases b <;> decide
theorem Ani(b:Bool):b2n b+b2n (!b)=1:=by cases b <;> decide
def aS (up:Nat->Nat->Bool)(n e:Nat):Nat:=sm (λp=>b2n (up e p)) (List.range n)
def bS (up:Nat->Nat->Bool)(m p:Nat):Nat:=sm (λe=>b2n (!up e p)) (List.range m)
theorem cross(up:Nat->Nat->Bool)(T:NI):∀ S:NI,sm (λe=>sm (λp=>b2n (up e p)) T) S+sm (λp=>sm (λe=>b2n (!up e p)) S) T=S.length*T.length
 | []=>by
  show 0+sm (λ_=>0) T=_;rw[En];simp
 | e::S=>by
  have a:=cross up T S;have h1:sm (λp=>sm (λe=>b2n (!up e p)) (e::S)) T=sm (λp=>b2n (!up e p)) T+sm (λp=>sm (λe=>b2n (!up e p)) S) T:=Lr (λp=>b2n (!up e p)) (λp=>sm (λe=>b2n (!up e p)) S) T;have h2:sm (λp=>b2n (up e p)) T+sm (λp=>b2n (!up e p)) T=T.length:=by
   rw[<- Lr,Adq _ (λ_=>1) (λp=>Ani _),En,Nat.mul_one]
  rw[h1];show sm (λp=>b2n (up e p)) T+sm (λe=>sm (λp=>b2n (up e p)) T) S+_=(S.length+1)*T.length;rw[Aut];lia
theorem Ak2(up:Nat->Nat->Bool){S S' T T':NI}(a:(S++S').Perm (List.range m))(b:(T++T').Perm (List.range n)) :
  sm (aS up n) S+sm (bS up m) T+S.length*T.length<=S.length*n+T.length*m:=by
 have c:S.length+S'.length=m:=by have:= a.length_eq;rwa [AtI,AtO] at this
 have hn:T.length+T'.length=n:=by have:= b.length_eq;rwa [AtI,AtO] at this
 have h1:sm (aS up n) S<=sm (λe=>sm (λp=>b2n (up e p)) T) S+S.length*T'.length:=by
  rw[<- En,<- Lr];refine Aci _ _ (λe=>?_) S;unfold aS;rw[<- Jz _ b,JK];exact AvF (Wi _ (λ_=>Oj _) T') _
 have h2:sm (bS up m) T<=sm (λp=>sm (λe=>b2n (!up e p)) S) T+T.length*S'.length:=by
  rw[<- En,<- Lr];refine Aci _ _ (λp=>?_) T;unfold bS;rw[<- Jz _ a,JK];exact AvF (Wi _ (λ_=>Oj _) S') _
 have h3:=cross up T S;have e1:S.length*n=S.length*T.length+S.length*T'.length:=by rw[<- hn,Ave]
 have e2:T.length*m=S.length*T.length+T.length*S'.length:=by rw[<- c,Ave,Av4 T.length S.length]
 lia
theorem Ak3(up:Nat->Nat->Bool)(m n:Nat):sm (aS up n) (List.range m)+sm (bS up m) (List.range n)=m*n:=by have:= cross up (List.range n) (List.range m);rw[AtO,AtO] at this;exact this
theorem Tp{α β:Type}{f:α->β}{d e:List β}(h:d.Perm e):∀ l,e=l.map f->∃ l':List α,l'.Perm l/\d=l'.map f:=by
 induction h with
 | nil=>intro l c;exact⟨l,.refl _,c⟩
 | cons x _ m =>
  intro l c;cases l with
  | nil=>cases c
  | cons y l =>
   injection c with h1 h2;obtain⟨l',p,e⟩:=m l h2;exact⟨y::l',p.cons _,by simp_all⟩
 | swap x y r =>
  intro l c
  match l,c with
  | a::b::l,c =>
   injection c with h1 h2;exact⟨b::a::l,.swap _ _ _,by simp_all⟩
  | [a],c=>cases c
  | [],c=>cases c
 | trans _ _ h1 h2 =>
  intro l c;obtain⟨j,p1,e1⟩:=h2 l c;obtain⟨i,p2,e2⟩:=h1 j e1;exact⟨i,p2.trans p1,e2⟩
def G (m n:Nat)(dA dB:NA)(s t:Nat):Int:=(s:Int)*n+(t:Int)*m-(s:Int)*t-(dA.take s).sum-(dB.take t).sum
structure Sc (m n:Nat)(dA dB:NA):Prop where
 lA:dA.length=m
 lB:dB.length=n
 decA:dA.Pairwise (· ≥ ·)
 Nu:dB.Pairwise (· ≥ ·)
 low:∀ s t,s<=m->t<=n->0<=G m n dA dB s t
 top:G m n dA dB m n=0
theorem Ie(f:Nat->Nat):∀ l:NI,(l.map λe=>((f e:Nat):Int)).sum=(sm f l:Int)
 | []=>rfl
 | x::l=>by rw[AtM,Aul,Ie f l];show _=((f x+sm f l:Nat):Int);lia
theorem Afe{a b:NA}(h:a.Perm b):a.sum=b.sum:=by
 induction h with
 | nil=>rfl
 | cons x _ c=>simp_all
 | swap x y l=>rw[Aul,Aul,Aul,Aul];lia
 | trans _ _ h1 h2=>rw[h1,h2]
theorem Sc.of(up:Nat->Nat->Bool)(c:dA.Perm ((List.range m).map λe=>((aS up n e:Nat):Int)))(b:dB.Perm ((List.range n).map λp=>((bS up m p:Nat):Int)))
  (a:dA.Pairwise (· ≥ ·)) (h:dB.Pairwise (· ≥ ·)):Sc m n dA dB:=by
 have j:dA.length=m:=by rw[c.length_eq,AtG,AtO]
 have r:dB.length=n:=by rw[b.length_eq,AtG,AtO]
 obtain⟨f,pS,eS⟩:=Tp c _ Z;obtain⟨d,l,i⟩:=Tp b _ Z;refine⟨j,r,a,h,λs t u v=>?_,?_⟩
 ·have:= Ak2 up (S:=f.take s) (T:=d.take t) (by rw[Auv];exact pS) (by rw[Auv];exact l);have q:(f.take s).length=s:=by grind
  have o:(d.take t).length=t:=by grind
  rw[q,o] at this;unfold G;rw[eS,i,<- Au9,<- Au9,Ie,Ie];grind
 ·unfold G;rw[Auf (by omega),Auf (by omega),Afe c,Afe b,Ie,Ie];have:= Ak3 up m n;grind
theorem Afg{k:Nat}(h:k<d.length):(d.take (k+1)).sum=(d.take k).sum+d.getD k 0:=by
 rw[AtV,List.sum_append,AtF h];have e:d.getD k 0=d[k]:=by simp[List.getD,h]
 rw[e];simp
theorem Ak4(h:d.Pairwise (· ≥ ·)){i j:Nat}(b:i<=j)(a:j<d.length):d.getD j 0<=d.getD i 0:=by
 have hi:i<d.length:=by lia
 have e1:d.getD i 0=d[i]:=by simp[List.getD,hi]
 have e2:d.getD j 0=d[j]:=by simp[List.getD,a]
 rw[e1,e2];by_cases e:i=j
 ·subst e;exact Avf _
 ·exact List.pairwise_iff_getElem.mp h i j hi a (by lia)
theorem G_s(C:Sc m n dA dB)(t:Nat)(h:s<m):G m n dA dB (s+1) t=G m n dA dB s t+((n:Int)-t-dA.getD s 0):=by unfold G;rw[Afg (by rw[C.lA];exact h),Int.natCast_add,Int.natCast_one,Int.add_mul,Int.add_mul,Int.one_mul,Int.one_mul];lia
theorem G_t(C:Sc m n dA dB)(s:Nat)(h:t<n):G m n dA dB s (t+1)=G m n dA dB s t+((m:Int)-s-dB.getD t 0):=by unfold G;rw[Afg (by rw[C.lB];exact h),Int.natCast_add,Int.natCast_one,Int.add_mul,Int.mul_add,Int.one_mul,Int.mul_one];lia
theorem ApM(C:Sc m n dA dB){s:Nat}(t:Nat)(c:Int)(hc:c<=(n:Int)-t-dA.getD s 0):∀ d:Nat,s+d<=m->G m n dA dB s t+c*d<=G m n dA dB (s+d) t
 | 0,_=>by simp
 | d+1,h=>by
  have b:=ApM C t c hc d (by lia);have e:=G_s C t (s:=s+d) (by omega);have a:=Ak4 C.decA (i:=s) (j:=s+d) (by lia) (by rw[C.lA];omega);grind
theorem ApN(C:Sc m n dA dB)(s:Nat){t:Nat}(c:Int)(hc:c<=(m:Int)-s-dB.getD t 0):∀ d:Nat,t+d<=n->G m n dA dB s t+c*d<=G m n dA dB s (t+d)
 | 0,_=>by simp
 | d+1,h=>by
  have b:=ApN C s c hc d (by lia);have e:=G_t C s (t:=t+d) (by omega);have a:=Ak4 C.Nu (i:=t) (j:=t+d) (by lia) (by rw[C.lB];omega);grind
theorem Ar6(s s' t t':Nat):G m n dA dB s t+G m n dA dB s' t'=G m n dA dB s' t+G m n dA dB s t'-((s':Int)-s)*((t':Int)-t):=by unfold G;grind
def lexLt(a b:Nat × Nat):Prop:=a.1<b.1\/(a.1=b.1/\a.2<b.2)
theorem Ak5(C:Sc m n dA dB){s' t':Nat}(d:s<=m)(l:t<=n)(a:s'<=m)(b:t'<=n)(z:G m n dA dB s t=0)(E:G m n dA dB s' t'=0)(lt:lexLt (s,t) (s',t'))
  (none:∀ x y,x<=m->y<=n->G m n dA dB x y=0->lexLt (s,t) (x,y)->lexLt (x,y) (s',t')->False) :
  s<=s'/\t<=t'/\0<(s'-s)+(t'-t)/\(1<(s'-s)+(t'-t)->2<=s'-s/\2<=t'-t):=by
 have lt':s<s'\/(s=s'/\t<t'):=lt;have j:s<=s':=by lia
 have i:t<=t':=by
  by_cases h:t<=t'
  ·exact h
  ·exfalso;have q:=Ar6 (m:=m) (n:=n) (dA:=dA) (dB:=dB) s s' t t';have J:=C.low s' t a l;have I:=C.low s t' d b;have p:0<((s':Int)-s)*((t:Int)-t'):=Int.mul_pos (by lia) (by lia);grind
 refine⟨j,i,by lia,λbig=>?_⟩;have q:=Ar6 (m:=m) (n:=n) (dA:=dA) (dB:=dB) s s' t t';by_cases c:s'=s
 ·
  exfalso;subst c;have H:t+2<=t':=by lia
  have w:=G_t C s' (t:=t) (by lia);have lo:=C.low s' (t+1) a (by omega);have v:G m n dA dB s' (t+1)≠0:=λe=>none s' (t+1) a (by omega) e (.inr ⟨Z,by grind⟩) (.inr ⟨Z,by show t+1<t';lia⟩);have:= ApN C s' (t:=t) 1 (by lia) (t'-t) (by lia);grind
 by_cases f:t'=t
 ·exfalso;subst f;have w:=G_s C t' (s:=s) (by lia);have lo:=C.low (s+1) t' (by omega) b;have v:G m n dA dB (s+1) t'≠0:=λe=>none (s+1) t' (by omega) b e (.inl (by grind)) (.inl (by show s+1<s';lia));have:= ApM C (s:=s) t' 1 (by lia) (s'-s) (by lia);grind
 have r:=G_t C s (t:=t) (by lia);have B:=G_s C t (s:=s) (by lia);have o:=C.low s (t+1) d (by lia);have u:=C.low (s+1) t (by lia) l;have A:G m n dA dB s (t+1)≠0:=λe=>none s (t+1) d (by lia) e (.inr ⟨Z,by grind⟩) (.inl (by grind));have F:=ApN C s (t:=t) 1 (by lia) (t'-t) (by lia);have D:G m n dA dB (s+1) t≠0:=λe=>none (s+1) t (by lia) l e (.inl (by grind)) (by
  by_cases h:s+1=s'
  ·exact .inr ⟨h,by grind⟩
  ·exact .inl (by grind))
 have bs:=ApM C (s:=s) t 1 (by lia) (s'-s) (by lia);refine⟨?_,?_⟩
 ·by_cases h:s'=s+1
  ·exfalso;subst h;grind
  ·lia
 ·by_cases h:t'=t+1
  ·exfalso;subst h;grind
  ·lia
end Mine
namespace Mine
variable {P:Nat->Nat->Bool}{s j n i m N x s' f e w pl v c:Nat}{p a b:Nat × Nat}{l t S S' T T' eo po dp ws as:NI}{dA dB l':NA}{cl:NN}{key:Nat->Nat}{tss lw:NV}{zs:List (Nat × Nat)}{z:Int}{α:Type}{ps:List (Nat × Option Nat)}
def Aak (P:Nat->Nat->Bool)(s j:Nat):List (Nat × Nat):=((List.range j).map λt=>(s,t)).filter λp=>P p.1 p.2
def Ig (P:Nat->Nat->Bool)(n i:Nat):List (Nat × Nat):=(List.range i).flatMap λs=>Aak P s (n+1)
theorem Wj(P:Nat->Nat->Bool)(s j:Nat):Aak P s (j+1)=Aak P s j++(if P s j=true then [(s,j)] else []):=by
 unfold Aak;rw[Aur,AtK,Au4]
 congr 1
 show(List.filter _ [(s,j)])=_;by_cases h:P s j=true
 ·rw[if_pos h];simp[h]
 ·rw[if_neg h];simp[h]
theorem Wl(P:Nat->Nat->Bool)(n i:Nat):Ig P n (i+1)=Ig P n i++Aak P i (n+1):=by unfold Ig;rw[Aur];simp
theorem Tq:p∈Aak P s j↔p.1=s/\p.2<j/\P p.1 p.2=true:=by
 unfold Aak;rw[AuM,Avu];constructor
 ·rintro⟨⟨t,a,rfl⟩,h⟩;exact⟨Z,yE.mp a,h⟩
 ·rintro⟨h1,h2,h3⟩;exact⟨⟨p.2,yE.mpr h2,by rw[<- h1]⟩,h3⟩
theorem IV:p∈Ig P n i↔p.1<i/\p.2<=n/\P p.1 p.2=true:=by
 unfold Ig;rw[List.mem_flatMap];constructor
 ·rintro⟨s,a,h⟩;obtain⟨h1,h2,h3⟩:=Tq.mp h;grind
 ·rintro⟨h1,h2,h3⟩;exact⟨p.1,yE.mpr h1,Tq.mpr ⟨Z,by exact Ar.j6 h2,h3⟩⟩
theorem Ahx(P:Nat->Nat->Bool)(s:Nat):∀ j,(Aak P s j).Pairwise lexLt
 | 0=>List.Pairwise.nil
 | j+1=>by
  rw[Wj];refine List.pairwise_append.mpr ⟨Ahx P s j,?_,λa d b c=>?_⟩
  ·by_cases h:P s j=true
   ·simp_all
   ·simp_all
  ·by_cases h:P s j=true
   ·rw[if_pos h] at c;rw[zF.mp c];obtain⟨h1,h2,_⟩:=Tq.mp d;exact .inr ⟨h1,h2⟩
   ·simp_all
theorem Ads(P:Nat->Nat->Bool)(n:Nat):∀ i,(Ig P n i).Pairwise lexLt
 | 0=>List.Pairwise.nil
 | i+1=>by
  rw[Wl];refine List.pairwise_append.mpr ⟨Ads P n i,Ahx P i _,λa d b c=>?_⟩;obtain⟨h1,_⟩:=IV.mp d;obtain⟨h2,_⟩:=Tq.mp c;exact .inl (by exact Ar.b3 h2 h1)
theorem Afh(P:Nat->Nat->Bool)(s j:Nat):(Aak P s j).length<=j:=by refine AtW (Auz _ _) ?_;rw[AtG,AtO];exact AtH _
theorem Aal(P:Nat->Nat->Bool)(n:Nat):∀ i,(Ig P n i).length<=i*(n+1)
 | 0=>AtR _
 | i+1=>by
  rw[Wl,AtI,Aut];exact Nat.add_le_add (Aal P n i) (Afh P i _)
theorem Anj(h:lexLt a a):False:=by unfold lexLt at h;omega
theorem Ak6(h:lexLt a b)(h2:lexLt b a):False:=by unfold lexLt at h h2;omega
theorem Aam{l:List (Nat × Nat)}(h:l.Pairwise lexLt)(e:l[i]?=some a)(d:l[j]?=some b)(lt:lexLt a b):i<j:=by
 obtain⟨hi,e1⟩:=zC.mp e;obtain⟨c,e2⟩:=zC.mp d;rcases Nat.lt_trichotomy i j with h1 | h1 | h1
 ·exact h1
 ·subst h1;have:a=b:=by simp_all
  rw[this] at lt;exact(Anj lt).elim
 ·have:= List.pairwise_iff_getElem.mp h j i c hi h1;rw[e1,e2] at this;exact(Ak6 lt this).elim
structure Tps (m n:Nat)(P:Nat->Nat->Bool)(zs:List (Nat × Nat)):Prop where
 two:2<=zs.length
 fst:zs[0]?=some (0,0)
 lst:zs[zs.length-1]?=some (m,n)
 in_:∀(i:Nat)(a:Nat × Nat),zs[i]?=some a->a.1<=m/\a.2<=n
 stp:∀(i:Nat)(a b:Nat × Nat),zs[i]?=some a->zs[i+1]?=some b->a.1<=b.1/\a.2<=b.2/\0<(b.1-a.1)+(b.2-a.2)/\(1<(b.1-a.1)+(b.2-a.2)->2<=b.1-a.1/\2<=b.2-a.2)
def Pz (m n:Nat)(dA dB:NA)(s t:Nat):Bool:=decide ((dA.take s).sum+(dB.take t).sum=(s:Int)*n+(t:Int)*m-(s:Int)*t)
theorem Adt{t:Nat}:Pz m n dA dB s t=true↔G m n dA dB s t=0:=by unfold Pz G;rw[decide_eq_true_iff];omega
theorem Tps.of(C:Sc m n dA dB)(h1:1<=m):Tps m n (Pz m n dA dB) (Ig (Pz m n dA dB) n (m+1)):=by
 have f:=Ads (Pz m n dA dB) n (m+1);have m0:((0:Nat),(0:Nat))∈Ig (Pz m n dA dB) n (m+1):=IV.mpr ⟨by grind,AtR _,Adt.mpr (by unfold G;simp)⟩;have m1:(m,n)∈Ig (Pz m n dA dB) n (m+1):=IV.mpr ⟨by grind,AtH _,Adt.mpr C.top⟩;generalize u:Ig (Pz m n dA dB) n (m+1)=zs at *;have c:∀(i:Nat)(a:Nat × Nat),zs[i]?=some a->a.1<=m/\a.2<=n/\G m n dA dB a.1 a.2=0:=λi a e=>by
  have:= AtN e;rw[<- u] at this;obtain⟨I,D,E⟩:=IV.mp this;exact⟨by exact Ar.j7 I,D,Adt.mp E⟩
 obtain⟨l,r⟩:=AvK m0;obtain⟨i1,e1⟩:=AvK m1;have j:l<i1:=Aam f r e1 (.inl (by grind));have d:=(zC.mp e1).1;have H:l=0:=by
  by_cases h:l=0
  ·exact h
  ·have o:0<zs.length:=by exact Ar.d1 d
   have lt:=List.pairwise_iff_getElem.mp f 0 l o (by exact Ar.c2 j d) (by exact Ar.h2 h);have:= (zC.mp r).2;rw[this] at lt;unfold lexLt at lt;simp at lt
 have fl:i1=zs.length-1:=by
  by_cases h:i1=zs.length-1
  ·exact h
  ·exfalso;have o:zs.length-1<zs.length:=by exact Ar.c9 d
   have lt:=List.pairwise_iff_getElem.mp f i1 (zs.length-1) d o (by lia);have e:=(zC.mp e1).2;rw[e] at lt;have q:=c (zs.length-1) _ (AtF o);unfold lexLt at lt;simp only at lt;lia
 refine⟨by exact Ar.c1 (Ar.d1 j) d,H▸r,fl▸e1,λi a e=>⟨(c i a e).1,(c i a e).2.1⟩,λi a b ea p=>?_⟩;obtain⟨a1,a2,a3⟩:=c i a ea;obtain⟨b1,b2,b3⟩:=c (i+1) b p;have hi:=(zC.mp ea);have s:=(zC.mp p);have lt:lexLt a b:=by
  have:= List.pairwise_iff_getElem.mp f i (i+1) hi.1 s.1 (by exact Ar.i1);rw[hi.2,s.2] at this;exact this
 refine Ak5 C a1 a2 b1 b2 a3 b3 lt λx y J v z w F=>?_;have B:(x,y)∈zs:=by rw[<- u];exact IV.mpr ⟨by grind,v,Adt.mpr z⟩
 obtain⟨k,t⟩:=AvK B;have k1:=Aam f ea t w;have A:=Aam f t p F;exact Ar.j8 k1 A
theorem Ol:∀{a b:NA},a.Perm b->a.Pairwise (· ≥ ·)->b.Pairwise (· ≥ ·)->a=b
 | [],b,p,_,_=>(List.Perm.nil_eq p)
 | x::a,[],p,_,_=>absurd p.length_eq (by simp)
 | x::a,y::b,p,ha,hb=>by
  obtain⟨a1,a2⟩:=List.pairwise_cons.mp ha;obtain⟨b1,b2⟩:=List.pairwise_cons.mp hb;have e:x=y:=by
   have c:=p.mem_iff.mp AtJ;have d:=p.mem_iff.mpr AtJ;grind
  subst e;rw[Ol p.cons_inv a2 b2]
def pre (d:NA):NA:=(List.range (d.length+1)).map λs=>(d.take s).sum
theorem AgD(l:NI)(c:Nat):∀ k,k<=l.length->(l.take k).count c=sm (λi=>b2n (l.getD i 0 == c)) (List.range k)
 | 0,_=>by simp[sm]
 | k+1,h=>by
  rw[Aur,JK,<- AgD l c k (by exact Ar.c3 h),AtV,AtF (by exact Ar.j4 h),Avd];have e:l.getD k 0=l[k]:=by simp[show k<l.length by exact Ar.j4 h]
  show _+List.count c [l[k]]=_+(b2n (l.getD k 0 == c)+0);rw[e,List.count_singleton];rfl
def upC (cl:NN)(e p:Nat):Bool:=(cl.getD p []).getD e 0 == 35
def eS (cl:NN)(m:Nat):NA:=(List.range m).map λe=>(((col cl e).count 35:Nat):Int)
def pS (cl:NN):NA:=cl.map λt=>((t.count 46:Nat):Int)
theorem RG(cl:NN)(m:Nat):(eS cl m).length=m:=by unfold eS;rw[AtG,AtO]
theorem Adu(cl:NN):(pS cl).length=cl.length:=by unfold pS;rw[AtG]
theorem Kf{f g:Nat->Nat}:∀{l:NI},(∀ x∈l,f x=g x)->sm f l=sm g l
 | [],_=>rfl
 | x::l,h=>by show f x+sm f l=g x+sm g l;rw[h x AtJ,Kf λy a=>h y (AtL _ a)]
theorem Ak7(cl:NN)(e p:Nat):(col cl e).getD p 0=(cl.getD p []).getD e 0:=by
 unfold col;by_cases h:p<cl.length
 ·simp[List.getD,h]
 ·simp[List.getD,Au0 (Av5 h)]
theorem Ar7(C:Cl cl m n)(e:Nat):aS (upC cl) n e=(col cl e).count 35:=by
 have a:(col cl e).length=n:=by unfold col;rw[AtG,C.hn]
 have:=AgD (col cl e) 35 n (by exact Ar.d3 a);rw[Auf (by exact Ar.d2 a)] at this;rw[this];unfold aS upC;refine Adq _ _ (λp=>?_) _;rw[Ak7]
theorem Ar8(C:Cl cl m n){p:Nat}(c:p<cl.length):bS (upC cl) m p=cl[p].count 46:=by
 have b:=C.hm _ (AtT c);have sg:=C.sg _ (AtT c);have:=AgD cl[p] 46 m (by exact Ar.d3 b);rw[Auf (by exact Ar.d2 b)] at this;rw[this];unfold bS;refine Kf λe d=>?_;have a:=yE.mp d;have e1:cl.getD p []=cl[p]:=by simp[List.getD,c]
 have e2:cl[p].getD e 0=cl[p][e]:=by simp[List.getD,show e<cl[p].length by exact Ar.b3 b a]
 unfold upC;rw[e1,e2];rcases sg _ (AtT (show e<cl[p].length by exact Ar.b3 b a)) with z | z <;> rw[z] <;> rfl
theorem Ahy(C:Cl cl m n):eS cl m=(List.range m).map λe=>((aS (upC cl) n e:Nat):Int):=by unfold eS;refine Avb λe _=>?_;rw[Ar7 C]
theorem Ahz(C:Cl cl m n):pS cl=(List.range n).map λp=>((bS (upC cl) m p:Nat):Int):=by
 refine List.ext_getElem (by rw[Adu,AtG,AtO,C.hn]) λi h1 h2=>?_;have a:i<cl.length:=by rw[Adu] at h1;exact h1
 rw[Av8,List.getElem_range,Ar8 C a];exact Av8 ..
theorem Aot(C:Cl cl m n)(c:dA.Perm (eS cl m))(b:dB.Perm (pS cl))(a:dA.Pairwise (· ≥ ·))(d:dB.Pairwise (· ≥ ·)):Sc m n dA dB :=
 Sc.of (upC cl) (by rw[<- Ahy C];exact c) (by rw[<- Ahz C];exact b) a d
theorem Afi(cl:NN)(m:Nat):(DX cl m).take m=eS cl m:=by show(eS cl m++pS cl).take m=_;rw[AvJ (by rw[RG];exact AtH _),Auf (by rw[RG];exact AtH _)]
theorem Afj(cl:NN)(m:Nat):(DX cl m).drop m=pS cl:=by
 show(eS cl m++pS cl).drop m=_;have:=Avv (l₁:=eS cl m) (l₂:=pS cl)
 rwa [RG] at this
structure Ord (key:Nat->Nat)(N:Nat)(l:NI):Prop where
 perm:l.Perm (List.range N)
 ord:l.Pairwise (λx y=>key y<key x\/(key x=key y/\x<y))
theorem Ord.len(a:Ord key N l):l.length=N:=by rw[a.perm.length_eq,AtO]
theorem Ord.nd(a:Ord key N l):l.Nodup:=a.perm.nodup_iff.mpr List.nodup_range
theorem Ord.lt(a:Ord key N l)(h:x∈l):x<N:=yE.mp (a.perm.mem_iff.mp h)
theorem Tr{f:Nat->Nat}{c:Nat}:∀{l:NI},(∀ x∈l,f x<=c)->l.length*c<=sm f l->∀ x∈l,f x=c
 | [],_,_,x,a=>by cases a
 | y::l,h,e,x,a=>by
  have b:∀{l:NI},(∀ x∈l,f x<=c)->sm f l<=l.length*c:=by
   intro l
   induction l with
   | nil=>intro _;exact AtR _
   | cons z l d =>
    intro h;have:= h z AtJ;have:= d λx a=>h x (AtL _ a);show f z+sm f l<=(l.length+1)*c;lia
  have h1:=h y AtJ;have h2:=b λx a=>h x (AtL y a);have i:(l.length+1)*c<=f y+sm f l:=e;rcases yD.mp a with rfl | a
  ·lia
  ·exact Tr (λx a=>h x (AtL _ a)) (by lia) x a
theorem Afk(up:Nat->Nat->Bool)(d:(S++S').Perm (List.range m))(i:(T++T').Perm (List.range n))
  (e:sm (aS up n) S+sm (bS up m) T+S.length*T.length=S.length*n+T.length*m):(∀ x∈S,∀ y∈T',up x y=true)/\∀ y∈T,∀ x∈S',up x y=false:=by
 have j:S.length+S'.length=m:=by have:= d.length_eq;rwa [AtI,AtO] at this
 have hn:T.length+T'.length=n:=by have:= i.length_eq;rwa [AtI,AtO] at this
 have h1:sm (aS up n) S=sm (λe=>sm (λp=>b2n (up e p)) T) S+sm (λe=>sm (λp=>b2n (up e p)) T') S:=by
  rw[<- Lr];refine Adq _ _ (λe=>?_) S;unfold aS;rw[<- Jz _ i,JK]
 have h2:sm (bS up m) T=sm (λp=>sm (λe=>b2n (!up e p)) S) T+sm (λp=>sm (λe=>b2n (!up e p)) S') T:=by
  rw[<- Lr];refine Adq _ _ (λp=>?_) T;unfold bS;rw[<- Jz _ d,JK]
 have h3:=cross up T S;have a1:∀ x∈S,sm (λp=>b2n (up x p)) T'<=T'.length:=λx _=>Wi _ (λ_=>Oj _) T';have b1:∀ y∈T,sm (λe=>b2n (!up e y)) S'<=S'.length:=λy _=>Wi _ (λ_=>Oj _) S';have a2:sm (λe=>sm (λp=>b2n (up e p)) T') S<=S.length*T'.length:=by rw[<- En];exact Aci _ _ (λx=>Wi _ (λ_=>Oj _) T') S
 have b2:sm (λp=>sm (λe=>b2n (!up e p)) S') T<=T.length*S'.length:=by rw[<- En];exact Aci _ _ (λy=>Wi _ (λ_=>Oj _) S') T
 have e1:S.length*n=S.length*T.length+S.length*T'.length:=by rw[<- hn,Ave]
 have e2:T.length*m=S.length*T.length+T.length*S'.length:=by rw[<- j,Ave,Av4 T.length S.length]
 refine⟨λx b y c=>?_,λy c x b=>?_⟩
 ·have q:=Tr a1 (by lia) x b;have a:=Tr (f:=λp=>b2n (up x p)) (λ_ _=>Oj _) (by simp_all) y c;cases h:up x y with
  | true=>rfl
  | false=>rw[h] at a;cases a
 ·have q:=Tr b1 (by lia) y c;have a:=Tr (f:=λe=>b2n (!up e y)) (λ_ _=>Oj _) (by simp_all) x b;cases h:up x y with
  | true=>rw[h] at a;cases a
  | false=>rfl
def cQ (m k:Nat):Int:=((m+k:Nat):Int)
structure Lay (up:Nat->Nat->Bool)(m n:Nat)(tss:NV)(zs:List (Nat × Nat))(eo po:NI):Prop where
 oE:Ord (aS up n) m eo
 oP:Ord (bS up m) n po
 fst:zs[0]?=some (0,0)
 lst:zs[zs.length-1]?=some (m,n)
 in_:∀(i:Nat)(a:Nat × Nat),zs[i]?=some a->a.1<=m/\a.2<=n
 stp:∀(i:Nat)(a b:Nat × Nat),zs[i]?=some a->zs[i+1]?=some b->a.1<=b.1/\a.2<=b.2/\0<(b.1-a.1)+(b.2-a.2)
 z:∀(i:Nat)(a:Nat × Nat),zs[i]?=some a->sm (aS up n) (eo.take a.1)+sm (bS up m) (po.take a.2)+a.1*a.2=a.1*n+a.2*m
 len:tss.length+1=zs.length
 lay:∀(i:Nat)(a b:Nat × Nat)(t:NA),zs[i]?=some a->zs[i+1]?=some b->tss[i]?=some t ->
  t.Perm (((eo.drop a.1).take (b.1-a.1)).map (cQ 0)++((po.drop a.2).take (b.2-a.2)).map (cQ m))/\t.Pairwise (·<=·)
section
variable {up:Nat->Nat->Bool}
theorem Lay.at(L:Lay up m n tss zs eo po)(hi:i<tss.length):∃ a b,zs[i]?=some a/\zs[i+1]?=some b/\a.1<=b.1/\a.2<=b.2/\b.1<=m/\b.2<=n/\0<(b.1-a.1)+(b.2-a.2) /\
  tss[i].Perm (((eo.drop a.1).take (b.1-a.1)).map (cQ 0)++((po.drop a.2).take (b.2-a.2)).map (cQ m))/\tss[i].Pairwise (·<=·):=by
 have h1:i<zs.length:=by have:= L.len;lia
 have h2:i+1<zs.length:=by have:= L.len;lia
 have e1:=AtF h1;have e2:=AtF h2;obtain⟨s1,d,e⟩:=L.stp i _ _ e1 e2;obtain⟨i1,i2⟩:=L.in_ _ _ e2;obtain⟨c,f⟩:=L.lay i _ _ _ e1 e2 (AtF hi);exact⟨_,_,e1,e2,s1,d,i1,i2,e,c,f⟩
theorem Lay.Ah0(L:Lay up m n tss zs eo po)(h1:a.1<=b.1)(h2:a.2<=b.2)(h3:b.1<=m)(h4:b.2<=n) :
  ((eo.drop a.1).take (b.1-a.1)).length=b.1-a.1/\((po.drop a.2).take (b.2-a.2)).length=b.2-a.2:=by
 have d:=L.oE.len;have c:=L.oP.len;grind
theorem Lay.count(L:Lay up m n tss zs eo po)(hi:i<tss.length)(ea:zs[i]?=some a)(h:zs[i+1]?=some b):tss[i].length=(b.1-a.1)+(b.2-a.2)/\(tss[i].filter λz=>decide (z<(m:Int))).length=b.1-a.1:=by
 obtain⟨j,l,d,c,h1,h2,h3,h4,h5,p,_⟩:=L.at hi;rw[ea] at d;cases d;rw[h] at c;cases c;obtain⟨s1,f⟩:=L.Ah0 h1 h2 h3 h4;refine⟨by rw[p.length_eq,AtI,AtG,AtG,s1,f],?_⟩;rw[(p.filter _).length_eq,Au4,List.filter_eq_self.mpr,List.filter_eq_nil_iff.mpr,Aum,AtG,s1]
 ·intro z e;obtain⟨k,_,rfl⟩:=yC.mp e;unfold cQ;simp only [decide_eq_true_eq];lia
 ·intro z e;obtain⟨k,hk,rfl⟩:=yC.mp e;have:= L.oE.lt (AuA (AuB hk));unfold cQ;lia
theorem Lay.ne(L:Lay up m n tss zs eo po)(hi:i<tss.length):0<tss[i].length:=by obtain⟨a,b,ea,c,_,_,_,_,h,_⟩:=L.at hi;rw[(L.count hi ea c).1];exact h
theorem Lay.part(L:Lay up m n tss zs eo po):∀ i (a:Nat × Nat),zs[i]?=some a->i<=tss.length->(tss.take i).flatten.Perm ((eo.take a.1).map (cQ 0)++(po.take a.2).map (cQ m))
 | 0,a,e,_=>by
  rw[L.fst] at e;cases e;exact List.Perm.refl _
 | i+1,b,e,hi=>by
  obtain⟨a,f,ea,c,h1,h2,h3,h4,h5,p,_⟩:=L.at (i:=i) (by lia);rw[e] at c;cases c;have d:=L.part i a ea (by lia);rw[Av9 (by omega),AvL,Auq,List.flatten_nil,Aum];have sp:∀(l:NI)(s s':Nat),s<=s'->l.take s'=l.take s++(l.drop s).take (s'-s):=λl s s' h=>by
   conv=>lhs;rw[show s'=s+(s'-s) by omega]
   rw[List.take_add]
  rw[sp eo a.1 b.1 h1,sp po a.2 b.2 h2,AtK,AtK];refine(d.append p).trans ?_;rw[Auk,Auk];refine List.Perm.append_left _ ?_;rw[<- Auk,<- Auk];exact List.Perm.append_right _ List.perm_append_comm
theorem map_range(m n:Nat):(List.range m).map (cQ 0)++(List.range n).map (cQ m)=(List.range (m+n)).map λk=>((k:Nat):Int):=by
 apply List.ext_getElem
 ·simp
 ·intro i h1 h2;rw[List.getElem_append];split
  ·simp[cQ]
  ·rename_i h;simp[cQ] at h ⊢;lia
theorem Lay.all(L:Lay up m n tss zs eo po):tss.flatten.Perm ((List.range (m+n)).map λk=>((k:Nat):Int)):=by
 have a:=L.len;have e:zs[tss.length]?=some (m,n):=by rw[show tss.length=zs.length-1 by omega];exact L.lst
 have p:=L.part tss.length (m,n) e (AtH _);rw[Auf (AtH _),Auf (by rw[L.oE.len];exact AtH _),Auf (by rw[L.oP.len];exact AtH _)] at p;rw[<- map_range];exact p.trans ((L.oE.perm.map _).append (L.oP.perm.map _))
theorem Lay.nd(L:Lay up m n tss zs eo po):tss.flatten.Nodup:=by rw[L.all.nodup_iff];show List.Pairwise _ _;rw[AuI];exact List.nodup_range.imp λ{a b} h e=>h (by lia)
theorem Ak8:∀{tss:NV} {i:Nat} (hi:i<tss.length),tss.flatten.Nodup->tss[i].Nodup
 | t::tss,0,_,h=>by exact(List.nodup_append.mp h).1
 | t::tss,i+1,hi,h=>by exact Ak8 (tss:=tss) (by simpa using hi) (List.nodup_append.mp h).2.1
theorem Lay.inc(L:Lay up m n tss zs eo po)(hi:i<tss.length):tss[i].Pairwise (·<·):=by obtain⟨_,_,_,_,_,_,_,_,_,_,p⟩:=L.at hi;exact(p.and (Ak8 hi L.nd)).imp λ{a b} ⟨h1,h2⟩=>by lia
theorem Lay.mem(L:Lay up m n tss zs eo po)(hi:i<tss.length)(a:z∈tss[i]):0<=z/\z<((m+n:Nat):Int):=by have:= List.mem_flatten.mpr ⟨_,AtT hi,a⟩;obtain⟨k,hk,rfl⟩:=yC.mp (L.all.mem_iff.mp this);have:= yE.mp hk;lia
theorem Lay.mono(L:Lay up m n tss zs eo po)(ea:zs[i]?=some a):∀(d:Nat)(b:Nat × Nat),zs[i+d]?=some b->a.1<=b.1/\a.2<=b.2
 | 0,b,eb=>by simp_all
 | d+1,b,eb=>by
  have c:i+d<zs.length:=by grind
  obtain⟨h1,h2⟩:=L.mono ea d zs[i+d] (AtF c);obtain⟨h3,h4,_⟩:=L.stp (i+d) _ b (AtF c) eb;lia
theorem Tt(h:s<=s')(a:x∈(l.drop s).take (s'-s)):x∈l.take s':=by
 have:l.take s'=l.take s++(l.drop s).take (s'-s):=by
  conv=>lhs;rw[show s'=s+(s'-s) by omega]
  rw[List.take_add]
 rw[this];exact Auo _ a
theorem Afl{b:Nat}(h:b<=s)(a:x∈(l.drop s).take (s'-s)):x∈l.drop b:=by
 have h1:=AuB a;have:l.drop s=(l.drop b).drop (s-b):=by simp_all
 rw[this] at h1;exact AuA h1
theorem Lay.cross(L:Lay up m n tss zs eo po)(hi:i<tss.length)(B:j<tss.length){k p:Nat}(hk:k<m)(h1:((k:Nat):Int)∈tss[i])(h2:((m+p:Nat):Int)∈tss[j]) :
  (i<j->up k p=true)/\(j<i->up k p=false):=by
 obtain⟨a,b,ea,A,E,J,K,I,_,F,_⟩:=L.at hi;obtain⟨c,d,H,v,M,D,O,N,_,C,_⟩:=L.at B;have t:k∈(eo.drop a.1).take (b.1-a.1):=by
  rcases zG.mp (F.mem_iff.mp h1) with h | h
  ·obtain⟨l,f,e⟩:=yC.mp h;unfold cQ at e;rw[show k=l by omega];exact f
  ·obtain⟨l,f,e⟩:=yC.mp h;unfold cQ at e;lia
 have u:p∈(po.drop c.2).take (d.2-c.2):=by
  rcases zG.mp (C.mem_iff.mp h2) with h | h
  ·obtain⟨l,f,e⟩:=yC.mp h;have:= L.oE.lt (AuA (AuB f));unfold cQ at e;lia
  ·obtain⟨l,f,e⟩:=yC.mp h;unfold cQ at e;rw[show p=l by omega];exact f
 have s:∀(q:Nat)(g:Nat × Nat),zs[q]?=some g->(∀ x∈eo.take g.1,∀ y∈po.drop g.2,up x y=true)/\∀ y∈po.take g.2,∀ x∈eo.drop g.1,up x y=false:=λq g w=>by
  have r:=L.in_ q g w;refine Afk up (by rw[Auv];exact L.oE.perm) (by rw[Auv];exact L.oP.perm) ?_;rw[AtX,AtX,L.oE.len,L.oP.len,Aup r.1,Aup r.2];exact L.z q g w
 refine⟨λlt=>?_,λlt=>?_⟩
 ·have o:=(L.mono A (j-(i+1)) c (by rw[show i+1+(j-(i+1))=j by omega];exact H)).2;exact(s _ _ A).1 k (Tt E t) p (Afl o u)
 ·have o:=(L.mono v (i-(j+1)) a (by rw[show j+1+(i-(j+1))=i by omega];exact ea)).1;exact(s _ _ v).2 p (Tt D u) k (Afl o t)
theorem Fj{f:Nat->Nat}(h:s<l.length):sm f (l.take (s+1))=sm f (l.take s)+f l[s]:=by rw[Av9 h,JK];rfl
theorem Adv{l:NA}{x:Int}(h:l.Perm l')(a:l=[x]):l'=[x]:=by rw[a] at h;exact(List.perm_singleton.mp h.symm)
theorem Lay.Ar9(L:Lay up m n tss zs eo po)(hi:i+1<tss.length){x y:Int}(h1:tss[i]=[x])(h2:tss[i+1]=[y])(J:(x<(m:Int))↔(y<(m:Int))):x<y:=by
 obtain⟨a,b,ea,t,x1,Q,R,W,_,F,_⟩:=L.at (i:=i) (by lia);obtain⟨b',d,e,H,Y,S,U,T,_,I,_⟩:=L.at hi;rw[t] at e;cases e;obtain⟨c1,f1⟩:=L.count (by lia) ea t;obtain⟨c2,f2⟩:=L.count hi t H;rw[h1] at c1 f1;rw[h2] at c2 f2;have P:=L.oE.len;have O:=L.oP.len;have X:=L.z _ _ ea;have E:=L.z _ _ t;have K:=L.z _ _ H;have w:=List.pairwise_iff_getElem.mp L.oE.ord;have A:=List.pairwise_iff_getElem.mp L.oP.ord;have c:∀(l:NI)(s:Nat)(h:s<l.length),(l.drop s).take (s+1-s)=[l[s]]:=λl s h=>by
  rw[show s+1-s=1 by omega,AuG h];rfl
 have f:∀(l:NI)(s:Nat),(l.drop s).take (s-s)=[]:=λl s=>by rw[Aux];rfl
 have N:1=(b.1-a.1)+(b.2-a.2):=c1;have M:1=(d.1-b.1)+(d.2-b.2):=c2;by_cases r:x<(m:Int)
 ·have v:=J.mp r;rw[AuN (by simpa using r),Avg] at f1;rw[AuN (by simpa using v),Avg] at f2;have u:=f1;have B:=f2;have e1:b.1=a.1+1:=by lia
  have e2:d.1=a.1+1+1:=by lia
  have e3:b.2=a.2:=by lia
  have q:d.2=a.2:=by lia
  have j:=Adv F h1;have p:=Adv I h2;rw[e1,c eo a.1 (by omega)] at j;rw[e2,e1,c eo (a.1+1) (by omega)] at p;have C:=(List.cons.inj j).1;have D:=(List.cons.inj p).1;rw[e1,e3,Fj (by omega),Aut,Aut] at E;rw[e2,q,Fj (by omega),Fj (by omega),Aut,Aut,Aut,Aut] at K;have o:=w a.1 (a.1+1) (by omega) (by omega) (by lia);unfold cQ at C D;lia
 ·have v:=λz=>r (J.mpr z);rw[Avh (by simpa using r),Avg] at f1;rw[Avh (by simpa using v),Avg] at f2;have u:0=b.1-a.1:=f1;have B:=f2;have e1:b.2=a.2+1:=by lia
  have e2:d.2=a.2+1+1:=by lia
  have e3:b.1=a.1:=by lia
  have q:d.1=a.1:=by lia
  have j:=Adv F h1;have p:=Adv I h2;rw[e1,e3,c po a.2 (by omega),f] at j;rw[e2,q,e1,e3,c po (a.2+1) (by omega),f] at p;have C:=(List.cons.inj j).1;have D:=(List.cons.inj p).1;rw[e1,e3,Fj (by omega),Nat.mul_succ,Aut] at E;rw[e2,q,Fj (by omega),Fj (by omega),Nat.mul_succ,Nat.mul_succ,Aut,Aut] at K;have o:=A a.2 (a.2+1) (by omega) (by omega) (by lia);unfold cQ at C D;lia
end
def wid (cl:NN)(ac:Nat):NN:=cl.map λt=>(List.replicate ac t).flatten
def til (cl:NN)(ac al:Nat):NN:=(List.replicate al (wid cl ac)).flatten
theorem Ah1{α:Type}(l:List α):∀ k,((List.replicate k l).flatten).length=k*l.length
 | 0=>by simp
 | k+1=>by rw[AuK,Auq,AtI,Ah1 l k,Nat.add_mul,Nat.one_mul];omega
theorem Ah2{α:Type}{l:List α}{x:α}:∀{k},x∈(List.replicate k l).flatten->x∈l
 | 0,h=>by simp at h
 | k+1,h=>by
  rw[AuK,Auq] at h;rcases zG.mp h with h | h
  ·exact h
  ·exact Ah2 h
theorem Ah3{α:Type}(l:List α):∀(k i:Nat),i<k*l.length->((List.replicate k l).flatten)[i]?=l[i%l.length]?
 | 0,i,h=>by simp at h
 | k+1,i,h=>by
  rw[AuK,Auq];by_cases hi:i<l.length
  ·rw[Auc hi,Nat.mod_eq_of_lt hi]
  ·rw[Nat.add_mul,Nat.one_mul] at h;rw[AtZ (by omega),Ah3 l k (i-l.length) (by omega)]
   congr 1
   exact(Nat.mod_eq_sub_mod (by omega)).symm
def sg2 (cl:NN)(p e:Nat):Nat:=(cl.getD p []).getD e 0
def Up (N:Int)(ks:NA):Prop:=(∀(i:Nat)(a b:Int),ks[i]?=some a->ks[i+1]?=some b->a<b)/\∀ k∈ks,0<=k/\k<N
def Ah4 (N:Int)(ks:NA):Prop:=ks≠[]/\Up N ks
def RJ (cl:NN)(m e:Nat)(k:Nat):NA:=((List.range k).filter λp=>decide (sg2 cl p e≠46)).map λp=>(m:Int)+((p:Nat):Int)
def lowP(t:NI)(k:Nat):NA:=((List.range k).filter λe=>decide (t.getD e 0≠35)).map λe=>((e:Nat):Int)
def lows(cl:NN)(m:Nat):NV:=((List.range m).map λe=>RJ cl m e cl.length)++cl.map λt=>lowP t m
theorem Aan(cl:NN)(m:Nat):(lows cl m).length=m+cl.length:=by unfold lows;rw[AtI,AtG,AtG,AtO]
theorem Aao(h:e<m):(lows cl m)[e]?=some (RJ cl m e cl.length):=by unfold lows;rw[Auc (by rw[AtG,AtO];exact h),AtQ,Au3 h];rfl
theorem Wm{p:Nat}(h:p<cl.length):(lows cl m)[m+p]?=some (lowP cl[p] m):=by unfold lows;rw[AtZ (by rw[AtG,AtO];omega),AtG,AtO,AvM,AtQ,AtF h];rfl
theorem Aap{k:Nat}{x:Int}:x∈RJ cl m e k↔∃ p,p<k/\sg2 cl p e≠46/\x=(m:Int)+(p:Int):=by
 unfold RJ;simp only [Avu,AuM,yE,decide_eq_true_eq];constructor
 ·rintro⟨p,⟨h1,h2⟩,h3⟩;exact⟨p,h1,h2,h3.symm⟩
 ·rintro⟨p,h1,h2,h3⟩;exact⟨p,⟨h1,h2⟩,h3.symm⟩
theorem Aaq{k:Nat}{x:Int}:x∈lowP t k↔∃ e,e<k/\t.getD e 0≠35/\x=(e:Int):=by
 unfold lowP;simp only [Avu,AuM,yE,decide_eq_true_eq];constructor
 ·rintro⟨p,⟨h1,h2⟩,h3⟩;exact⟨p,h1,h2,h3.symm⟩
 ·rintro⟨p,h1,h2,h3⟩;exact⟨p,⟨h1,h2⟩,h3.symm⟩
theorem AiF(cl:NN)(m e k:Nat):RJ cl m e (k+1)=if sg2 cl k e≠46 then RJ cl m e k++[(m:Int)+(k:Int)] else RJ cl m e k:=by
 unfold RJ;rw[Aur,Au4,AtK];by_cases h:sg2 cl k e≠46
 ·rw[if_pos h,AuN (by exact zN h)];rfl
 ·rw[if_neg h,Avh (by rw[zJ h];decide)];simp
theorem AiG(t:NI)(k:Nat):lowP t (k+1)=if t.getD k 0≠35 then lowP t k++[(k:Int)] else lowP t k:=by
 unfold lowP;rw[Aur,Au4,AtK];by_cases h:t.getD k 0≠35
 ·rw[if_pos h,AuN (by exact zN h)];rfl
 ·rw[if_neg h,Avh (by rw[zJ h];decide)];simp
theorem Afm(cl:NN)(m e k:Nat):(RJ cl m e k).length<=k:=by unfold RJ;rw[AtG];exact AtW (Auz _ _) (by rw[AtO];exact AtH _)
theorem Afn(t:NI)(k:Nat):(lowP t k).length<=k:=by unfold lowP;rw[AtG];exact AtW (Auz _ _) (by rw[AtO];exact AtH _)
inductive Wy (tss:NV) (s:Nat):Nat->Nat->Prop where
 | nil:Wy tss s 0 s
 | snoc {v w L:Nat} (h:Wy tss s L v) (e:(w:Int)∈tss.getD v []):Wy tss s (L+1) w
theorem Wy.last{L:Nat}(h:Wy tss s (L+1) w):∃ v,Wy tss s L v/\(w:Int)∈tss.getD v []:=by
 cases h with
 | snoc h e=>exact⟨_,h,e⟩
theorem Wy.first(h:Wy tss s 0 w):w=s:=by cases h;rfl
structure Bf (tss:NV)(s:Nat)(ps:List (Nat × Option Nat))(dp:NI):Prop where
 len:dp.length=ps.length
 st:ps[0]?=some (s,none)/\dp[0]?=some 0
 nd:∀(i j v:Nat)(a b:Option Nat),ps[i]?=some (v,a)->ps[j]?=some (v,b)->i=j
 lt:∀(v:Nat)(a:Option Nat),(v,a)∈ps->v<tss.length
 par:∀(i v:Nat)(a:Option Nat),0<i->ps[i]?=some (v,a)->∃(j u:Nat)(b:Option Nat)(d:Nat),a=some u/\j<i/\ps[j]?=some (u,b)/\dp[j]?=some d/\dp[i]?=some (d+1)/\(v:Int)∈tss.getD u []
 mono:∀(i j a b:Nat),i<=j->dp[i]?=some a->dp[j]?=some b->a<=b
theorem Bf.one(h:s<tss.length):Bf tss s [(s,none)] [0]:=by
 refine⟨Z,⟨Z,Z⟩,λi j v a b h1 h2=>?_,λv a h1=>?_,λi v a d h1=>?_,λi j a b _ h1 h2=>?_⟩
 ·have c:=(zC.mp h1).1;have g2:=(zC.mp h2).1;simp at c g2;exact Ar.h7 c g2
 ·simp_all
 ·have c:=(zC.mp h1).1;simp at c;lia
 ·have c:=(zC.mp h1).1;have g2:=(zC.mp h2).1;simp at c g2;subst c;subst g2;rw[h1] at h2;cases h2;exact AtH _
theorem GX{l:List α}{x y:α}(h:(l++[x])[i]?=some y):(i<l.length/\l[i]?=some y)\/(i=l.length/\y=x):=by
 by_cases hi:i<l.length
 ·rw[Auc hi] at h;exact .inl ⟨hi,h⟩
 ·have a:=(zC.mp h).1;rw[AtI] at a;have a:i<l.length+1:=a;have e:i=l.length:=by lia
  subst e;rw[AtZ (AtH _),Aux] at h;cases h;exact .inr ⟨Z,Z⟩
theorem FW{l:List α}{x y:α}(h:l[i]?=some y):(l++[x])[i]?=some y:=by rw[Auc (zC.mp h).1];exact h
theorem Tu(l:List α)(x:α):(l++[x])[l.length]?=some x:=by rw[AtZ (AtH _),Aux];rfl
theorem Bf.add(B:Bf tss s ps dp){u d:Nat}{b:Option Nat}(p:ps[pl]?=some (u,b))(D:dp[pl]?=some d)(l:∀ j x:Nat,dp[j]?=some x->x<=d+1)
  (t:(v:Int)∈tss.getD u []) (F:v<tss.length) (new:∀(i:Nat)(a:Option Nat),ps[i]?≠some (v,a)):Bf tss s (ps++[(v,some u)]) (dp++[d+1]):=by
 have n:=(zC.mp p).1;refine⟨by rw[AtI,AtI,B.len];rfl,⟨FW B.st.1,FW B.st.2⟩,λi j w a c h1 h2=>?_,λw a h1=>?_,λi w a y h1=>?_,λi j a c o h1 h2=>?_⟩
 ·rcases GX h1 with ⟨i1,f⟩ | ⟨i1,f⟩ <;> rcases GX h2 with ⟨m,g2⟩ | ⟨m,g2⟩
  ·exact B.nd i j w a c f g2
  ·cases g2;exact absurd f (new i a)
  ·cases f;exact absurd g2 (new j c)
  ·exact Ar.h7 i1 m
 ·rcases zG.mp h1 with h | h
  ·exact B.lt w a h
  ·simp_all
 ·rcases GX h1 with ⟨i1,f⟩ | ⟨i1,f⟩
  ·obtain⟨j,x,c,e,A,C,E,z,r,q⟩:=B.par i w a y f;exact⟨j,x,c,e,A,C,FW E,FW z,FW r,q⟩
  ·cases f;refine⟨pl,u,b,d,Z,by exact Ar.b3 i1 n,FW p,FW D,?_,t⟩;rw[i1,<- B.len];exact Tu _ _
 ·rcases GX h1 with ⟨i1,f⟩ | ⟨i1,f⟩ <;> rcases GX h2 with ⟨m,g2⟩ | ⟨m,g2⟩
  ·exact B.mono i j a c o f g2
  ·rw[g2];exact l i a f
  ·lia
  ·simp_all
def Dn (tss:NV)(ps:List (Nat × Option Nat))(dp:NI)(pl:Nat):Prop :=
 ∀(i u:Nat)(b:Option Nat)(a:Nat),i<pl->ps[i]?=some (u,b)->dp[i]?=some a->∀ w:Nat,(w:Int)∈tss.getD u []->∃(j:Nat)(c:Option Nat)(x:Nat),ps[j]?=some (w,c)/\dp[j]?=some x/\x<=a+1
theorem Dn.zero:Dn tss ps dp 0:=λi u b a h=>absurd h (Nat.not_lt_zero _)
theorem Dn.app(D:Dn tss ps dp pl)(n:dp.length=ps.length)(o:pl<=ps.length)(q:Nat × Option Nat)(e:Nat):Dn tss (ps++[q]) (dp++[e]) pl:=λi u b a hi h1 h2 w h=>by
 rcases GX h1 with ⟨_,f⟩ | ⟨i1,_⟩
 ·rcases GX h2 with ⟨_,g2⟩ | ⟨i2,_⟩
  ·obtain⟨j,c,x,l,d,m⟩:=D i u b a hi f g2 w h;exact⟨j,c,x,FW l,FW d,m⟩
  ·lia
 ·lia
theorem Bf.sound(B:Bf tss s ps dp):∀(j v:Nat)(c:Option Nat)(x:Nat),ps[j]?=some (v,c)->dp[j]?=some x->Wy tss s x v/\x<=j:=by
 intro j
 induction j using Nat.strongRecOn with
 | ind j l =>
  intro v c x h1 h2;by_cases a:j=0
  ·subst a;rw[B.st.1] at h1;rw[B.st.2] at h2;cases h1;cases h2;exact⟨.nil,AtH _⟩
  ·obtain⟨i,u,b,d,e1,hi,e3,h,m,e6⟩:=B.par j v c (by exact Ar.h2 a) h1;rw[m] at h2;cases h2;obtain⟨e,f⟩:=l i hi u b d e3 h;exact⟨.snoc e e6,by exact Ar.c1 f hi⟩
theorem Bf.reach(B:Bf tss s ps dp)(D:Dn tss ps dp ps.length):∀(L v:Nat),Wy tss s L v->∃(j:Nat)(c:Option Nat)(x:Nat),ps[j]?=some (v,c)/\dp[j]?=some x/\x<=L:=by
 intro L
 induction L with
 | zero =>
  intro v h;rw[h.first];exact⟨0,none,0,B.st.1,B.st.2,AtH _⟩
 | succ L d =>
  intro v h;obtain⟨u,a,e⟩:=h.last;obtain⟨j,c,x,h1,h2,h3⟩:=d u a;obtain⟨k,c',y,b,g2,g3⟩:=D j u c x (zC.mp h1).1 h1 h2 v e;exact⟨k,c',y,b,g2,by exact Ar.b8 g3 (Ar.j6 h3)⟩
theorem Afo:∀(N:Nat)(l:NI),l.Nodup->(∀ v∈l,v<N)->l.length<=N:=by
 intro N
 induction N with
 | zero =>
  intro l _ h;cases l with
  | nil=>simp
  | cons a l=>exact absurd (h a AtJ) (Nat.not_lt_zero _)
 | succ N c =>
  intro l nd h;by_cases m:N∈l
  ·have h1:=c (l.erase N) (nd.erase N) λv b=>by
    have h2:=h v (List.mem_of_mem_erase b);have h3:v≠N:=λe=>by
     rw[e] at b;exact(List.Nodup.not_mem_erase nd) b
    exact Ar.d5 h3 (Ar.j7 h2)
   grind
  ·have h1:=c l nd λv b=>by
    have h2:=h v b;have h3:v≠N:=λe=>m (e▸b);exact Ar.d5 h3 (Ar.j7 h2)
   exact Ar.e2 h1
theorem Bf.small(B:Bf tss s ps dp):ps.length<=tss.length:=by
 have h:=Afo tss.length (ps.map (·.1)) ?_ ?_
 ·simp_all
 ·rw[List.nodup_iff_pairwise_ne,AvN];intro i j hi b a e;rw[AtG] at hi b;simp only [Av8] at e;have f:=AtF hi;have g2:ps[j]?=some (ps[i].1,ps[j].2):=by rw[e];exact AtF b
  have:= B.nd i j _ _ _ f g2;exact Ar.k1 a this
 ·intro v c;obtain⟨p,d,rfl⟩:=yC.mp c;exact B.lt p.1 p.2 d
def Pth (tss:NV)(l:NI):Prop:=∀(i a b:Nat),l[i]?=some a->l[i+1]?=some b->(b:Int)∈tss.getD a []
structure NS (N:Nat)(ws:NI):Prop where
 ne:ws≠[]
 up:ws.Pairwise (·<·)
 lt:∀ v∈ws,v<N
def cI (ws:NI):NA:=ws.map λv=>((v:Nat):Int)
theorem IW:(v:Int)∈cI ws↔v∈ws:=by unfold cI;grind
theorem Hu(ws:NI):(cI ws).length=ws.length:=by unfold cI;rw[AtG]
theorem NS.good(h:NS N ws):Ah4 (N:Int) (cI ws):=by
 refine⟨λe=>h.ne (List.map_eq_nil_iff.mp e),λi a b h1 h2=>?_,λk hk=>?_⟩
 ·unfold cI at h1 h2;rw[AtQ] at h1 h2;have d:=List.pairwise_iff_getElem.mp h.up;cases e1:ws[i]? with
  | none=>simp_all
  | some u =>
   cases e2:ws[i+1]? with
   | none=>simp_all
   | some v =>
    rw[e1] at h1;rw[e2] at h2;cases h1;cases h2;obtain⟨i1,f⟩:=zC.mp e1;obtain⟨i2,g2⟩:=zC.mp e2;have:= d i (i+1) i1 i2 (by lia);rw[f,g2] at this;show(u:Int)<(v:Int);lia
 ·obtain⟨v,c,rfl⟩:=yC.mp hk;have:= h.lt v c;lia
theorem NS.nodup(h:NS N ws):ws.Nodup:=by exact h.up.imp λ{a b} h=>AtU h
theorem G7:∀(l ws:NI),l.Nodup->(∀ v∈l,v∈ws)->l.length<=ws.length
 | [],ws,_,_=>AtR _
 | a::l,ws,nd,h=>by
  obtain⟨c,d⟩:=List.nodup_cons.mp nd;have f:=h a AtJ;have:= G7 l (ws.erase a) d λv b=>by
   refine(List.mem_erase_of_ne (λ(e:v=a)=>c (by simp_all))).mpr (h v (AtL _ b))
  grind
theorem NS.len(h:NS N ws):ws.length<=N:=Afo N ws h.nodup h.lt
def Afp (tss:NV)(ws:NI)(v:Nat):NA:=(tss.getD v []).filter λz=>decide (z∈cI ws)
def Adw (tss:NV)(ws us:NI):NV:=(List.range tss.length).map λv=>if v∈us then Afp tss ws v else []
def nar (tss:NV)(ws:NI):NV:=Adw tss ws ws
theorem FJ(tss:NV)(ws us:NI):(Adw tss ws us).length=tss.length:=by unfold Adw;rw[AtG,AtO]
theorem Om{us:NI}(h:v<tss.length):(Adw tss ws us)[v]?=some (if v∈us then Afp tss ws v else []):=by unfold Adw;rw[AtQ,Au3 h];rfl
theorem Qt:z∈(nar tss ws).getD v []↔v∈ws/\z∈cI ws/\z∈tss.getD v []:=by
 by_cases h:v<tss.length
 ·rw[AtY,nar,Om h,Option.getD_some];by_cases a:v∈ws
  ·rw[if_pos a,Afp,AuM,decide_eq_true_iff];exact⟨λz=>⟨a,z.2,z.1⟩,λz=>⟨z.2.2,z.2.1⟩⟩
  ·rw[if_neg a];exact⟨λz=>(by cases z),λz=>absurd z.1 a⟩
 ·rw[AtY,Au0 (by rw[nar,FJ];omega),AtY,Au0 (by omega:tss.length<=v)];exact⟨λz=>(by cases z),λz=>(by cases z.2.2)⟩
theorem ArB(a:s∈ws):∀{L v:Nat},Wy (nar tss ws) s L v->v∈ws
 | _,_,.nil=>a
 | _,_,.snoc _ e=>IW.mp (Qt.mp e).2.1
theorem Bf.keys(B:Bf tss s ps dp):(ps.map (·.1)).Nodup:=by
 rw[List.nodup_iff_pairwise_ne,AvN];intro i j hi a c e;rw[AtG] at hi a;simp only [Av8] at e;have b:=AtF hi;have g2:ps[j]?=some (ps[i].1,ps[j].2):=by rw[e];exact AtF a
 have:= B.nd i j _ _ _ b g2;lia
theorem Adx(h:v∈ps.map (·.1)):∃(j:Nat)(c:Option Nat),ps[j]?=some (v,c):=by obtain⟨p,a,rfl⟩:=yC.mp h;obtain⟨j,b,e⟩:=Aus a;exact⟨j,p.2,by simp_all⟩
theorem Bf.sub(B:Bf (nar tss ws) s ps dp)(d:s∈ws):∀ v∈ps.map (·.1),v∈ws:=λv a=>by
 obtain⟨j,c,g⟩:=Adx a;have b:j<dp.length:=by rw[B.len];exact(zC.mp g).1
 exact ArB d (B.sound j v c dp[j] g (AtF b)).1
theorem Bf.few(B:Bf (nar tss ws) s ps dp)(a:s∈ws):ps.length<=ws.length:=by
 have:= G7 _ ws B.keys (B.sub a)
 rwa [AtG] at this
theorem Bf.full(B:Bf (nar tss ws) s ps dp)(d:s∈ws)(h:ws.length<=ps.length):∀ v∈ws,∃(j:Nat)(c:Option Nat),ps[j]?=some (v,c):=λv f=>by
 by_cases a:v∈ps.map (·.1)
 ·exact Adx a
 ·have:= G7 _ (ws.erase v) B.keys λu b=>(List.mem_erase_of_ne (λ(e:u=v)=>a (by rw[<- e];exact b))).mpr (B.sub d u b);grind
theorem Bf.miss{tss:NV}{s:Nat}{dp:NI}(b:NS N ws)(h:ps.length<ws.length):∃ v∈ws,v∉ps.map (·.1):=by refine Classical.byContradiction λhc=>?_;have:= G7 ws (ps.map (·.1)) b.nodup λv a=>Classical.byContradiction λhn=>hc ⟨v,a,hn⟩;rw[AtG] at this;lia
def AiH (tss:NV)(ws:NI):Prop:=∀ u∈ws,∀ v∈ws,∃ L,Wy (nar tss ws) u L v
structure Lf (tss:NV)(ws fs:NI):Prop where
 ne:fs≠[]
 len:fs.length<ws.length
 sub:∀ v∈fs,v∈ws
 up:fs.Pairwise (·<·)
 off:∀ o∈ws,o∉fs->∀ v∈fs,(v:Int)∉tss.getD o []
theorem filter_lt{p:Nat->Bool}(a:s∈ws)(b:p s=false):(ws.filter p).length<ws.length:=by have h1:=Auz p ws;refine Nat.lt_of_le_of_ne h1 λe=>?_;have:= List.length_filter_eq_length_iff.mp e s a;rw[b] at this;cases this
theorem Bf.lift(B:Bf (nar tss ws) s ps dp)(D:Dn (nar tss ws) ps dp ps.length)(n:NS N ws)(m:s∈ws)(h:ps.length<ws.length) :
  ¬AiH tss ws/\Lf tss ws (ws.filter λv=>decide (v∉ps.map (·.1))):=by
 obtain⟨v,l,hn⟩:=Bf.miss (tss:=tss) (s:=s) (dp:=dp) n h;have r:s∈ps.map (·.1):=yC.mpr ⟨(s,none),AtN B.st.1,Z⟩;refine⟨λhc=>?_,λe=>?_,filter_lt m (by simp only [decide_eq_false_iff_not,Classical.not_not];exact r),λu d=>(z7.mp d).1,n.up.filter _,λo p f u d e=>?_⟩
 ·obtain⟨L,t⟩:=hc s m v l;obtain⟨j,c,x,g,_⟩:=B.reach D L v t;exact hn (yC.mpr ⟨(v,c),AtN g,Z⟩)
 ·have:v∈ws.filter λv=>decide (v∉ps.map (·.1)):=z7.mpr ⟨l,zN hn⟩;rw[e] at this;cases this
 ·obtain⟨b,a⟩:=z7.mp d;have a:=of_decide_eq_true a;have i:=Classical.byContradiction λhn=>f (z7.mpr ⟨p,zN hn⟩);obtain⟨j,c,g⟩:=Adx i;have w:j<dp.length:=by rw[B.len];exact(zC.mp g).1
  obtain⟨q,_⟩:=B.sound j o c dp[j] g (AtF w);obtain⟨y,c',x',g',_⟩:=B.reach D _ u (.snoc q (Qt.mpr ⟨p,IW.mpr b,e⟩));exact a (yC.mpr ⟨(u,c'),AtN g',Z⟩)
structure Rd (tss:NV)(ws found:NI):Prop where
 fst:found[0]?=ws[0]?
 ins:∀ v∈found,v∈ws
 all:∀ v∈ws,v∈found
 len:found.length<=ws.length*ws.length
 one:ws.length=1->found=ws
 nxt:1<ws.length->∀ i a b:Nat,found[i]?=some a->found[(i+1)%found.length]?=some b->(b:Int)∈tss.getD a []
theorem Ah5{T:NV}{bs q:NI}(h1:Pth T (bs++[c]))(h2:Pth T (c::q)):Pth T (bs++c::q):=λi a b e g2=>by
 by_cases hi:i+1<=bs.length
 ·refine h1 i a b ?_ ?_
  ·grind
  ·by_cases d:i+1<bs.length
   ·rw[Auc d] at g2 ⊢;exact g2
   ·rw[AtZ (by omega),show i+1-bs.length=0 by omega] at g2 ⊢;exact g2
 ·refine h2 (i-bs.length) a b ?_ ?_
  ·grind
  ·grind
theorem Ak9{p:NI}(h:Pth (nar tss ws) p)(b:p[0]?=some c)(hc:c∈ws):∀ v∈p,v∈ws:=λv a=>by
 obtain⟨i,hi,e⟩:=Aus a;cases i with
 | zero =>
  simp_all
 | succ i =>
  have:= h i p[i] v (AtF (by omega)) (by rw[AtF hi,e]);exact IW.mp (Qt.mp this).2.1
structure Wk (tss:NV)(ws:NI)(f i:Nat)(as bs:NI)(c:Nat):Prop where
 e:as=bs++[c]
 fst:as[0]?=some f
 ins:∀ v∈as,v∈ws
 has:∀ v∈ws.take (i+1),v∈as
 pth:Pth (nar tss ws) as
 len:as.length<=1+i*(ws.length-1)
 lst:(i=0/\as=[f])\/(0<i/\c≠f)
theorem Wk.start(h:ws[0]?=some f):Wk tss ws f 0 [f] [] f:=by
 refine⟨Z,Z,λv c=>?_,λv c=>?_,λi a b h1 h2=>?_,by simp,.inl ⟨Z,Z⟩⟩
 ·rw[zF.mp c];exact AtN h
 ·cases ws with
  | nil=>cases h
  | cons x r =>
   simp_all
 ·simp at h2
theorem NS.Ah6(h:NS N ws)(a:ws[0]?=some f)(h1:ws[i+1]?=some v):v≠f:=by obtain⟨d,b⟩:=zC.mp a;obtain⟨i1,c⟩:=zC.mp h1;have:= List.pairwise_iff_getElem.mp h.up 0 (i+1) d i1 (by lia);rw[b,c] at this;lia
theorem Afq(h:∀ u∈ws.take (i+1),u∈as)(b:ws[i+1]?=some v)(c:v∈as):∀ u∈ws.take (i+1+1),u∈as:=λu a=>by
 rw[AtV,b] at a;rcases zG.mp a with g | g
 ·exact h u g
 ·simp_all
theorem Wk.stay{bs:NI}(W:Wk tss ws f i as bs c)(j:NS N ws)(d:ws[0]?=some f)(b:ws[i+1]?=some v)(a:v∈as):Wk tss ws f (i+1) as bs c:=by
 refine⟨W.e,W.fst,W.ins,Afq W.has b a,W.pth,?_,.inr ⟨by lia,?_⟩⟩
 ·have:= W.len;lia
 ·rcases W.lst with ⟨_,e⟩ | ⟨_,h⟩
  ·rw[e] at a;exact absurd (zF.mp a) (j.Ah6 d b)
  ·exact h
theorem Wk.go{bs p:NI}(W:Wk tss ws f i as bs c)(y:NS N ws)(w:ws[0]?=some f)(o:ws[i+1]?=some v)(z:v∉as)
  (pl:p.length=x+1) (d:p[0]?=some c) (px:p[x]?=some v) (q:Pth (nar tss ws) p) (xs:x+1<=ws.length):∃ m,Wk tss ws f (i+1) (as++p.drop 1) m v:=by
 have t:c∈as:=by rw[W.e];simp
 have A:x≠0:=λe=>by
  grind
 have s:p=c::p.drop 1:=by
  cases p with
  | nil=>cases d
  | cons a r=>cases d;rfl
 have n:as++p.drop 1=bs++c::p.drop 1:=by rw[W.e,Auk];rfl
 have j:=Ak9 q d (W.ins c t);have b:p=p.take x++[v]:=by
  have h1:x<p.length:=by lia
  have h3:p.take (x+1)=p:=Auf (by lia);rw[AtV,px] at h3;exact h3.symm
 refine⟨bs++p.take x,?_,?_,λu l=>?_,Afq (λu l=>AuQ _ (W.has u l)) o ?_,?_,?_,.inr ⟨by lia,y.Ah6 w o⟩⟩
 ·rw[n,<- s,Auk,<- b]
 ·rw[Auc (by rw[W.e,AtI];show 0<bs.length+1;omega)];exact W.fst
 ·rcases zG.mp l with h | h
  ·exact W.ins u h
  ·exact j u (AuA h)
 ·refine Auo _ (AtN (i:=x-1) ?_);rw[AuF,show 1+(x-1)=x by omega];exact px
 ·rw[n];exact Ah5 (by rw[<- W.e];exact W.pth) (by rw[<- s];exact q)
 ·have:= W.len;rw[AtI,Auw];lia
theorem Wk.round{bs p:NI}(W:Wk tss ws f (ws.length-1) as bs c)(K:NS N ws)(o:ws[0]?=some f)
  (pl:p.length=x+1) (s:p[0]?=some c) (px:p[x]?=some f) (y:Pth (nar tss ws) p) (xs:x+1<=ws.length):Rd tss ws (as++(p.drop 1).dropLast):=by
 have C:c∈as:=by rw[W.e];simp
 have n0:=(zC.mp o).1;have l:∀ v∈ws,v∈as:=λv n=>W.has v (by grind);have B:p=c::p.drop 1:=by
  cases p with
  | nil=>cases s
  | cons a r=>cases s;rfl
 have u:=Ak9 y s (W.ins c C);have A:0<as.length:=by rw[W.e,AtI];show 0<bs.length+1;omega
 have len:=W.len;refine⟨?_,λv n=>?_,λv n=>AuQ _ (l v n),?_,λh1=>?_,λh1=>?_⟩
 ·rw[Auc A,W.fst,o]
 ·rcases zG.mp n with h | h
  ·exact W.ins v h
  ·exact u v (AuA (List.dropLast_subset _ h))
 ·rw[AtI,List.length_dropLast,Auw,pl];obtain⟨k,D⟩:∃ k,ws.length=k+1:=⟨ws.length-1,by lia⟩;rw[D] at len xs ⊢;lia
 ·have E:p.drop 1=[]:=Avq (by lia);rw[E,List.dropLast_nil,Aum];rcases W.lst with ⟨_,e⟩ | ⟨h,_⟩
  ·rw[e];cases ws with
   | nil=>cases o
   | cons a r =>
    cases o;cases r with
    | nil=>rfl
    | cons b r=>simp at h1
  ·lia
 ·have I:c≠f:=by
   rcases W.lst with ⟨h,_⟩ | ⟨_,h⟩
   ·lia
   ·exact h
  have J:x≠0:=λe=>by
   grind
  obtain⟨j,d⟩:∃ j,j=as++(p.drop 1).dropLast:=⟨_,Z⟩;have w:p.drop 1=(p.drop 1).dropLast++[f]:=by
   have q:p.drop 1≠[]:=λe=>by
    grind
   have:= List.dropLast_concat_getLast q;grind
  have t:Pth (nar tss ws) (j++[f]):=by
   have:= Ah5 (by rw[<- W.e];exact W.pth) (by rw[<- B];exact y);rw[d,Auk,<- w,W.e,Auk];exact this
  have H:j[0]?=some f:=by rw[d,Auc A];exact W.fst
  rw[<- d];intro i a b z g2;have hi:=(zC.mp z).1;have m:=t i a b (FW z) (by
   by_cases F:i+1<j.length
   ·rw[Nat.mod_eq_of_lt F] at g2;exact FW g2
   ·have:i+1=j.length:=by lia
    rw[this,Nat.mod_self,H] at g2;cases g2;rw[this];exact Tu _ _)
  exact(Qt.mp m).2.2
theorem Aou{f:Nat->Nat}{c:Nat}:∀{l:NI},(∀ x∈l,f x<=c)->sm f l<=l.length*c
 | [],_=>AtR _
 | z::l,h=>by
  have h1:=h z AtJ;have h2:=Aou λx a=>h x (AtL z a);show f z+sm f l<=(l.length+1)*c;rw[Aut];omega
theorem Aov{f:Nat->Nat}{c:Nat}:∀{l:NI},(∀ x∈l,c<=f x)->l.length*c<=sm f l
 | [],_=>by show 0*c<=0;omega
 | z::l,h=>by
  have h1:=h z AtJ;have h2:=Aov λx a=>h x (AtL z a);show(l.length+1)*c<=f z+sm f l;rw[Aut];omega
theorem Afr(f:Nat->Nat)(p:Nat->Bool)(l:NI):sm f l=sm f (l.filter p)+sm f (l.filter λx=>!p x)/\l.length=(l.filter p).length+(l.filter λx=>!p x).length:=by
 have h:=List.filter_append_perm p l;refine⟨?_,?_⟩
 ·rw[<- Jz f h,JK]
 ·rw[<- h.length_eq,AtI]
theorem Ord.best(o:Ord key N l)(nd:S.Nodup)(sub:∀ x∈S,x<N):sm key S<=sm key (l.take S.length):=by
 have r:=o.len;have p:S.length<=N:=by
  have:=G7 S (List.range N) nd λx a=>yE.mpr (sub x a)
  rwa [AtO] at this
 by_cases m:S.length=0
 ·rw[List.length_eq_zero_iff.mp m];exact AtR _
 have hk:S.length-1<l.length:=by omega
 have d:=List.pairwise_iff_getElem.mp o.ord;have hi:∀ x∈l.take S.length,key l[S.length-1]<=key x:=λx a=>by
  obtain⟨i,hi,e⟩:=Aus a;rw[AtX] at hi;rw[List.getElem_take] at e;rw[<- e];by_cases e2:i=S.length-1
  ·subst e2;exact AtH _
  ·have:=d i (S.length-1) (by omega) hk (by omega);omega
 have lo:∀ x∈l,x∉l.take S.length->key x<=key l[S.length-1]:=λx a hn=>by
  obtain⟨i,hi,e⟩:=Aus a;have:¬i<S.length:=λh=>hn (by rw[<- e];exact List.mem_take_iff_getElem.mpr ⟨i,by omega,Z⟩);have q:=d (S.length-1) i hk hi (by omega);rw[<- e];omega
 obtain⟨a1,a2⟩:=Afr key (λx=>decide (x∈l.take S.length)) S;obtain⟨b1,b2⟩:=Afr key (λx=>decide (x∈S)) (l.take S.length);have b:(l.take S.length).Nodup:=o.nd.sublist (AuJ _ _);have j:(S.filter λx=>decide (x∈l.take S.length)).Perm ((l.take S.length).filter λx=>decide (x∈S)) :=
  (List.perm_ext_iff_of_nodup (nd.filter _) (b.filter _)).mpr λx=>by
   rw[AuM,AuM,decide_eq_true_iff,decide_eq_true_iff];exact And.comm
 have e1:=Jz key j;have e2:=j.length_eq;have lt:(l.take S.length).length=S.length:=by rw[AtX];omega
 have n:=Aou (f:=key) (c:=key l[S.length-1]) (l:=S.filter λx=>!decide (x∈l.take S.length)) λx a=>by
  obtain⟨h1,h2⟩:=z7.mp a;refine lo x (o.perm.mem_iff.mpr (yE.mpr (sub x h1))) λz=>?_;rw[zN z] at h2;cases h2
 have s:=Aov (f:=key) (c:=key l[S.length-1]) (l:=(l.take S.length).filter λx=>!decide (x∈S)) λx a=>hi x (z7.mp a).1;have e3:(S.filter λx=>!decide (x∈l.take S.length)).length=((l.take S.length).filter λx=>!decide (x∈S)).length:=by omega
 rw[e3] at n;omega
theorem AgE(up:Nat->Nat->Bool)(c:(S++S').Perm (List.range m))(d:(T++T').Perm (List.range n))
  (h1:∀ x∈S,∀ y∈T',up x y=true) (h2:∀ y∈T,∀ x∈S',up x y=false):sm (aS up n) S+sm (bS up m) T+S.length*T.length=S.length*n+T.length*m:=by
 have f:S.length+S'.length=m:=by have:=c.length_eq;rwa [AtI,AtO] at this
 have hn:T.length+T'.length=n:=by have:=d.length_eq;rwa [AtI,AtO] at this
 have h:sm (aS up n) S=sm (λe=>sm (λp=>b2n (up e p)) T) S+S.length*T'.length:=by
  rw[<- En,<- Lr];refine Kf λe a=>?_;unfold aS;rw[<- Jz _ d,JK];have:sm (λp=>b2n (up e p)) T'=T'.length:=by
   rw[<- Nat.mul_one T'.length,<- En];exact Kf λp b=>by rw[h1 e a p b];rfl
  rw[this]
 have g2:sm (bS up m) T=sm (λp=>sm (λe=>b2n (!up e p)) S) T+T.length*S'.length:=by
  rw[<- En,<- Lr];refine Kf λp b=>?_;unfold bS;rw[<- Jz _ c,JK];have:sm (λe=>b2n (!up e p)) S'=S'.length:=by
   rw[<- Nat.mul_one S'.length,<- En];exact Kf λe a=>by rw[h2 p b e a];rfl
  rw[this]
 have g3:=cross up T S;have e1:S.length*n=S.length*T.length+S.length*T'.length:=by rw[<- hn,Ave]
 have e2:T.length*m=S.length*T.length+T.length*S'.length:=by rw[<- f,Ave,Av4 T.length S.length]
 omega
theorem Acj(nd:S.Nodup)(sub:∀ x∈S,x<N):(S++(List.range N).filter λx=>decide (x∉S)).Perm (List.range N):=by
 refine(List.perm_ext_iff_of_nodup ?_ List.nodup_range).mpr λx=>?_
 ·rw[AvA];refine⟨nd,List.nodup_range.filter _,λa f b d e=>?_⟩;have:=of_decide_eq_true (z7.mp d).2;rw[<- e] at this;exact this f
 ·rw[AuO,AuM,yE,decide_eq_true_iff];constructor
  ·rintro(h | h)
   ·exact sub x h
   ·exact h.1
  ·intro h;by_cases c:x∈S
   ·exact .inl c
   ·exact .inr ⟨h,c⟩
section
variable {up:Nat->Nat->Bool}
theorem Lay.closed(L:Lay up m n tss zs eo po)(c:S.Nodup)(a:T.Nodup)(h:∀ x∈S,x<m)(d:∀ y∈T,y<n)
  (h1:∀ x∈S,∀ y,y<n->y∉T->up x y=true) (h2:∀ y∈T,∀ x,x<m->x∉S->up x y=false) :
  sm (aS up n) (eo.take S.length)+sm (bS up m) (po.take T.length)+S.length*T.length=S.length*n+T.length*m:=by
 have e:=AgE up (Acj c h) (Acj a d) (λx b y i=>by
  obtain⟨j,f⟩:=z7.mp i;exact h1 x b y (yE.mp j) (of_decide_eq_true f)) (λy i x b=>by
  obtain⟨j,f⟩:=z7.mp b;exact h2 y i x (yE.mp j) (of_decide_eq_true f))
 have b1:=L.oE.best c h;have b2:=L.oP.best a d;have o:S.length<=m:=by
  have:=G7 S (List.range m) c λx b=>yE.mpr (h x b)
  rwa [AtO] at this
 have l:T.length<=n:=by
  have:=G7 T (List.range n) a λx b=>yE.mpr (d x b)
  rwa [AtO] at this
 have lo:=Ak2 up (S:=eo.take S.length) (S':=eo.drop S.length) (T:=po.take T.length) (T':=po.drop T.length) (by rw[Auv];exact L.oE.perm) (by rw[Auv];exact L.oP.perm);rw[AtX,AtX,L.oE.len,L.oP.len,Aup o,Aup l] at lo;omega
theorem Lay.conn(L:Lay up m n tss zs eo po)(cmp:∀ s t,s<=m->t<=n->sm (aS up n) (eo.take s)+sm (bS up m) (po.take t)+s*t=s*n+t*m->(s,t)∈zs)(H:zs.Pairwise lexLt)
  (w1:∀ e p,e<m->p<n->(((m+p:Nat):Int)∈lw.getD e []↔up e p=true)) (w2:∀ e p,e<m->p<n->(((e:Nat):Int)∈lw.getD (m+p) []↔up e p=false))
   (hi:i<tss.length)  (hw:tss[i]=cI ws):AiH lw ws:=by
 refine λu hu v hv=>Classical.byContradiction λhc=>?_;obtain⟨a,b,ea,X,Y,N,x3,x4,_,pa,_⟩:=L.at hi;have a0:ws.Nodup:=by
  have:=Ak8 hi L.nd;rw[hw] at this;unfold cI at this;have q:List.Pairwise _ _:=this;rw[AuI] at q;exact q.imp λ{x y} h e=>h (by rw[e])
 have A:∀ x,x<m->(x∈ws↔x∈(eo.drop a.1).take (b.1-a.1)):=λx d=>by
  rw[<- IW,<- hw,pa.mem_iff,AuO];constructor
  ·rintro(h | h)
   ·obtain⟨k,hk,e⟩:=yC.mp h;unfold cQ at e;rw[show x=k by omega];exact hk
   ·obtain⟨k,hk,e⟩:=yC.mp h;unfold cQ at e;omega
  ·exact λh=>.inl (yC.mpr ⟨x,h,by unfold cQ;omega⟩)
 have w:∀ y,(m+y∈ws↔y∈(po.drop a.2).take (b.2-a.2)):=λy=>by
  rw[<- IW,<- hw,pa.mem_iff,AuO];constructor
  ·rintro(h | h)
   ·obtain⟨k,hk,e⟩:=yC.mp h;have:=L.oE.lt (AuA (AuB hk));unfold cQ at e;omega
   ·obtain⟨k,hk,e⟩:=yC.mp h;unfold cQ at e;rw[show y=k by omega];exact hk
  ·exact λh=>.inr (yC.mpr ⟨y,h,Z⟩)
 have M:∀(q:Nat)(g:Nat × Nat),zs[q]?=some g->(∀ x∈eo.take g.1,∀ y∈po.drop g.2,up x y=true)/\∀ y∈po.take g.2,∀ x∈eo.drop g.1,up x y=false:=λq g eg=>by
  have hg:=L.in_ q g eg;refine Afk up (by rw[Auv];exact L.oE.perm) (by rw[Auv];exact L.oP.perm) ?_;rw[AtX,AtX,L.oE.len,L.oP.len,Aup hg.1,Aup hg.2];exact L.z q g eg
 let R:Nat->Prop:=λx=>∃ k,Wy (nar lw ws) u k x
 have c:∀ x,Decidable (R x):=λx=>Classical.propDecidable _;have B:∀ x y,x∈ws->y∈ws->R x->((y:Nat):Int)∈lw.getD x []->R y:=λx y d E ⟨k,hk⟩ e=>⟨k+1,.snoc hk (Qt.mpr ⟨d,IW.mpr E,e⟩)⟩;have j:∀{l:NI} {s s' x:Nat},s<=s'->x∈l->x∈l.take s\/x∈(l.drop s).take (s'-s)\/x∈l.drop s':=λ{l s s' x} h d=>by
  have e1:l.take s'=l.take s++(l.drop s).take (s'-s):=by
   conv=>lhs;rw[show s'=s+(s'-s) by omega]
   rw[List.take_add]
  rw[<- Auv s' l,AuO,e1,AuO] at d;rcases d with (h | h) | h
  ·exact .inl h
  ·exact .inr (.inl h)
  ·exact .inr (.inr h)
 have o:∀{l:NI} {s s' x:Nat},l.Nodup->x∈l.take s->x∈(l.drop s).take (s'-s)->False:=λ{l s s' x} nd h1 h2=>by
  rw[<- Auv s l,AvA] at nd;exact nd.2.2 x h1 x (AuB h2) Z
 have hS:(eo.take a.1++((eo.drop a.1).take (b.1-a.1)).filter λx=>@decide (¬R x) (@instDecidableNot _ (c x))).Nodup:=by
  rw[AvA];exact⟨L.oE.nd.sublist (AuJ _ _),((L.oE.nd.sublist (List.drop_sublist _ _)).sublist (AuJ _ _)).filter _,λx h1 y h2 e=>by subst e;exact o (s':=b.1) L.oE.nd h1 (z7.mp h2).1⟩
 have hT:(po.take a.2++((po.drop a.2).take (b.2-a.2)).filter λy=>@decide (¬R (m+y)) (@instDecidableNot _ (c (m+y)))).Nodup:=by
  rw[AvA];exact⟨L.oP.nd.sublist (AuJ _ _),((L.oP.nd.sublist (List.drop_sublist _ _)).sublist (AuJ _ _)).filter _,λx h1 y h2 e=>by subst e;exact o (s':=b.2) L.oP.nd h1 (z7.mp h2).1⟩
 have q:=L.closed hS hT (λx d=>by
   rcases zG.mp d with h | h
   ·exact L.oE.lt (AuB h)
   ·exact L.oE.lt (AuA (AuB (z7.mp h).1))) (λx d=>by
   rcases zG.mp d with h | h
   ·exact L.oP.lt (AuB h)
   ·exact L.oP.lt (AuA (AuB (z7.mp h).1)))
  (λx d y E hn=>by
   have C:y∈po:=L.oP.perm.mem_iff.mpr (yE.mpr E);have ny:y∉po.take a.2:=λz=>hn (AuQ _ z);rcases zG.mp d with h | h
   ·rw[<- Auv a.2 po,AuO] at C;exact(M _ _ ea).1 x h y (C.resolve_left ny)
   ·obtain⟨k1,Q⟩:=z7.mp h;have J:=L.oE.lt (AuA (AuB k1));rcases j N C with h' | h' | h'
    ·exact absurd h' ny
    ·have S:¬R x:=@of_decide_eq_true _ (@instDecidableNot _ (c x)) Q;have ry:R (m+y):=Classical.byContradiction λz=>hn (Auo _ (z7.mpr ⟨h',@zN _ (@instDecidableNot _ (c (m+y))) z⟩));cases e:up x y with
     | true=>rfl
     | false=>exact absurd (B _ _ ((w y).mpr h') ((A x J).mpr k1) ry ((w2 x y J E).mpr e)) S
    ·exact(M _ _ X).1 x (Tt Y k1) y h')
  (λy E x d hn=>by
   have D:x∈eo:=L.oE.perm.mem_iff.mpr (yE.mpr d);have nx:x∉eo.take a.1:=λz=>hn (AuQ _ z);rcases zG.mp E with h | h
   ·rw[<- Auv a.1 eo,AuO] at D;exact(M _ _ ea).2 y h x (D.resolve_left nx)
   ·obtain⟨k1,Q⟩:=z7.mp h;have U:=L.oP.lt (AuA (AuB k1));rcases j Y D with h' | h' | h'
    ·exact absurd h' nx
    ·have ry:¬R (m+y):=@of_decide_eq_true _ (@instDecidableNot _ (c (m+y))) Q;have S:R x:=Classical.byContradiction λz=>hn (Auo _ (z7.mpr ⟨h',@zN _ (@instDecidableNot _ (c x)) z⟩));cases e:up x y with
     | true=>exact absurd (B _ _ ((A x d).mpr h') ((w y).mpr k1) S ((w1 x y d U).mpr e)) ry
     | false=>rfl
    ·exact(M _ _ X).2 y (Tt N k1) x h')
 obtain⟨I,F⟩:=L.Ah0 Y N x3 x4;have O:=L.oE.len;have W:=L.oP.len;have f1:=Auz (λx=>@decide (¬R x) (@instDecidableNot _ (c x))) ((eo.drop a.1).take (b.1-a.1));have f2:=Auz (λy=>@decide (¬R (m+y)) (@instDecidableNot _ (c (m+y)))) ((po.drop a.2).take (b.2-a.2));rw[AtI,AtI,AtX,AtX,O,W,Aup (by omega:a.1<=m),Aup (by omega:a.2<=n)] at q;rw[I] at f1;rw[F] at f2;have ru:R u:=⟨0,.nil⟩;have rv:¬R v:=λ⟨k,hk⟩=>hc ⟨k,hk⟩;have r:0<(((eo.drop a.1).take (b.1-a.1)).filter λx=>@decide (¬R x) (@instDecidableNot _ (c x))).length+(((po.drop a.2).take (b.2-a.2)).filter λy=>@decide (¬R (m+y)) (@instDecidableNot _ (c (m+y)))).length:=by
  by_cases T:v<m
  ·have:v∈((eo.drop a.1).take (b.1-a.1)).filter λx=>@decide (¬R x) (@instDecidableNot _ (c x)):=z7.mpr ⟨(A v T).mp hv,@zN _ (@instDecidableNot _ (c v)) rv⟩;have:=AvO this;omega
  ·have e:m+(v-m)=v:=by omega
   have:(v-m)∈((po.drop a.2).take (b.2-a.2)).filter λy=>@decide (¬R (m+y)) (@instDecidableNot _ (c (m+y))):=z7.mpr ⟨(w (v-m)).mp (by rw[e];exact hv),@zN _ (@instDecidableNot _ (c (m+(v-m)))) (by rw[e];exact rv)⟩;have:=AvO this;omega
 have f:(((eo.drop a.1).take (b.1-a.1)).filter λx=>@decide (¬R x) (@instDecidableNot _ (c x))).length+(((po.drop a.2).take (b.2-a.2)).filter λy=>@decide (¬R (m+y)) (@instDecidableNot _ (c (m+y)))).length<(b.1-a.1)+(b.2-a.2):=by
  by_cases P:u<m
  ·have:(((eo.drop a.1).take (b.1-a.1)).filter λx=>@decide (¬R x) (@instDecidableNot _ (c x))).length<_:=filter_lt ((A u P).mp hu) (@zJ _ (@instDecidableNot _ (c u)) λz=>z ru);rw[I] at this;omega
  ·have e:m+(u-m)=u:=by omega
   have:(((po.drop a.2).take (b.2-a.2)).filter λy=>@decide (¬R (m+y)) (@instDecidableNot _ (c (m+y)))).length<_:=filter_lt ((w (u-m)).mp (by rw[e];exact hu)) (@zJ _ (@instDecidableNot _ (c (m+(u-m)))) λz=>z (by rw[e];exact ru));rw[F] at this;omega
 generalize (((eo.drop a.1).take (b.1-a.1)).filter λx=>@decide (¬R x) (@instDecidableNot _ (c x))).length=c1 at q f1 r f;generalize (((po.drop a.2).take (b.2-a.2)).filter λy=>@decide (¬R (m+y)) (@instDecidableNot _ (c (m+y)))).length=c2 at q f2 r f;have mem:=cmp (a.1+c1) (a.2+c2) (by omega) (by omega) q;obtain⟨k,hk,ek⟩:=Aus mem;have K:zs[k]?=some (a.1+c1,a.2+c2):=by rw[AtF hk,ek]
 have l1:=Aam H ea K (by unfold lexLt;dsimp only;omega);have l2:=Aam H K X (by unfold lexLt;dsimp only;omega);omega
end
end Mine
namespace L2
open PySem PySem.Spec PyProof.Rows
end L2
set_option maxHeartbeats 4000000
namespace Stab
open PySem PyProof.Rows
def V (xs:Array Keyed)(i:Nat):Int:=match xs[i]? with
 | some p=>numOf p.2
 | none=>0
theorem Ls{xs ys:Array Keyed}{i j:Nat}(h:xs[i]?=ys[j]?):V xs i=V ys j:=by unfold V;rw[h]
def Lx (xs:Array Keyed)(i j:Nat):Prop:=K xs i<K xs j\/(K xs i=K xs j/\V xs i<V xs j)
def St (xs:Array Keyed)(k:Nat):Prop:=∀ i j,i<j->j<k->Lx xs i j
def De (xs:Array Keyed)(k:Nat):Prop:=∀ i j,i<j->j<k->Lx xs j i
def Inc (xs:Array Keyed):Prop:=∀ i j,i<j->j<xs.size->V xs i<V xs j
structure SB (a₀:Array Keyed)(st:SortSt)(k:Nat):Prop where
 base:SBase a₀ st
 tail:∀ j,k<=j->(arrOf st)[j]?=a₀[j]?
 low:∀ i,i<k->∃ i',i'<k/\(arrOf st)[i]?=a₀[i']?
section
variable {a₀:Array Keyed}{st:SortSt}{k:Nat}
theorem SB.up(h:SB a₀ st k){b:Nat}(hk:k<=b):SB a₀ st b :=
 ⟨h.base,λj c=>h.tail j (AtW hk c),λi hi=>by
  by_cases a:i<k
  ·obtain⟨d,h1,h2⟩:=h.low i a;exact⟨d,Aua h1 hk,h2⟩
  ·exact⟨i,hi,h.tail i (Av5 a)⟩⟩
theorem SB.vlt(h:SB a₀ st k)(inc:Inc a₀){i j:Nat}(hi:i<k)(a:k<=j)(b:j<a₀.size):V (arrOf st) i<V (arrOf st) j:=by obtain⟨c,h1,h2⟩:=h.low i hi;rw[Ls h2,Ls (h.tail j a)];exact inc c j (Aua h1 a) b
theorem SB.mir(h:SB a₀ st k)(hk:k<=a₀.size){i j:Nat}(c:j<=k):SB a₀ (setArr st (mirror (arrOf st) i j ((j-i) / 2))) k:=by
 have b:j<=(arrOf st).size:=by rw[h.base.size];lia
 refine⟨h.base.setArr (mirror_perm _ _ _ _),λx a=>?_,λx a=>?_⟩
 ·rw[getElem?_mirror_all b,if_neg (by omega)];exact h.tail x a
 ·rw[getElem?_mirror_all b];by_cases hc:i<=x/\x<j
  ·rw[if_pos hc];exact h.low _ (by lia)
  ·rw[if_neg hc];exact h.low _ a
theorem SB.bub(h:SB a₀ st k)(hk:k<a₀.size){d:Nat}(c:d<=k):SB a₀ (setArr st (bubble (arrOf st) k d)) (k+1):=by
 have b:k<(arrOf st).size:=by rw[h.base.size];exact hk
 have h':=h.up (Au1 k);refine⟨h.base.setArr (bubble_perm _ _ _),λx a=>?_,λx a=>?_⟩
 ·rw[getElem?_bubble b d c,if_neg (by omega),if_neg (by omega)];exact h'.tail x a
 ·rw[getElem?_bubble b d c];by_cases h1:x=k-d
  ·rw[if_pos h1];exact h'.low _ (AuS k)
  ·rw[if_neg h1];by_cases h2:k-d<x/\x<=k
   ·rw[if_pos h2];exact h'.low _ (by lia)
   ·rw[if_neg h2];exact h'.low _ a
end
theorem Kg{xs:Array Keyed}{i j:Nat}(a:j<=xs.size)(k:Nat):V (mirror xs i j ((j-i) / 2)) k=if i<=k/\k<j then V xs (i+j-1-k) else V xs k:=by
 have e:=getElem?_mirror_all (i:=i) a k;by_cases h1:i<=k/\k<j
 ·rw[if_pos h1] at e ⊢;exact Ls e
 ·rw[if_neg h1] at e ⊢;exact Ls e
theorem Afs{xs:Array Keyed}{a d:Nat}(b:a<xs.size)(c:d<=a)(k:Nat) :
  V (bubble xs a d) k=if k=a-d then V xs a else if a-d<k/\k<=a then V xs (k-1) else V xs k:=by
 have e:=getElem?_bubble b d c k;by_cases h1:k=a-d
 ·rw[if_pos h1] at e ⊢;exact Ls e
 ·rw[if_neg h1] at e ⊢;by_cases h2:a-d<k/\k<=a
  ·rw[if_pos h2] at e ⊢;exact Ls e
  ·rw[if_neg h2] at e ⊢;exact Ls e
structure Dr (xs:Array Keyed)(x neq:Nat):Prop where
 le:neq+1<=x
 fst:∀ i j,i<j->j<x-(neq+1)->Lx xs j i
 snd:∀ i j,i<x-(neq+1)->x-(neq+1)<=j->j<x->K xs j<K xs i
 run:∀ i j,x-(neq+1)<=i->i<j->j<x->K xs i=K xs j/\V xs i<V xs j
section
variable {xs:Array Keyed}{x neq:Nat}
theorem Dr.rev(h:Dr xs x neq)(a:x<=xs.size):De (mirror xs (x-(neq+1)) x ((x-(x-(neq+1))) / 2)) x:=by
 intro i j b e;obtain⟨h1,h2,h3,h4⟩:=h;unfold Lx;rw[K_mirror a,K_mirror a,Kg a,Kg a];by_cases d:x-(neq+1)<=i
 ·rw[if_pos (by omega),if_pos (by omega),if_pos (by omega),if_pos (by omega)];obtain⟨e1,e2⟩:=h4 (x-(neq+1)+x-1-j) (x-(neq+1)+x-1-i) (by omega) (by omega) (by omega);exact .inr ⟨e1,e2⟩
 ·rw[if_neg (c:=_<=i/\_) (by omega),if_neg (c:=_<=i/\_) (by omega)];by_cases cj:x-(neq+1)<=j
  ·grind
  ·rw[if_neg (by omega),if_neg (by omega)];exact h2 i j b (by lia)
theorem Dr.one(h:Dr xs x 0):De xs x:=by
 intro i j a b;obtain⟨h1,h2,h3,h4⟩:=h;by_cases cj:j<x-(0+1)
 ·exact h2 i j a cj
 ·exact .inl (h3 i j (by lia) (by lia) b)
theorem De.next(h:De xs x)(h1:1<=x)(l:K xs x<K xs (x-1)):Dr xs (x+1) 0:=by
 refine⟨by lia,λi j a b=>h i j a (by lia),λi j hi c d=>?_,λi j hi a b=>by lia⟩;have f:j=x:=by lia
 subst f;by_cases e:i=j-1
 ·simp_all
 ·have:= h i (j-1) (by lia) (by lia);unfold Lx at this;lia
theorem Dr.eq(h:Dr xs x neq)(d:K xs x=K xs (x-1))(m:∀ i,i<x->V xs i<V xs x):Dr xs (x+1) (neq+1):=by
 obtain⟨h1,h2,h3,h4⟩:=h;have n:x+1-(neq+1+1)=x-(neq+1):=by lia
 refine⟨by omega,λi j a b=>h2 i j a (by omega),λi j hi e f=>?_,λi j hi a b=>?_⟩
 ·by_cases b:j<x
  ·exact h3 i j (by omega) (by omega) b
  ·have l:j=x:=by omega
   rw[l,d];exact h3 i (x-1) (by omega) (by lia) (by lia)
 ·by_cases c:j<x
  ·exact h4 i j (by lia) a c
  ·grind
theorem St.all(h:St xs x)(hk:¬K xs 0<K xs (x-1)):∀ i,i<x->K xs i=K xs (x-1)/\(∀ j,i<j->j<x->V xs i<V xs j):=by
 have a:∀ i,i<x->K xs i=K xs (x-1):=λi hi=>by
  have a1:K xs 0<=K xs i:=by
   by_cases b:i=0
   ·rw[b];exact Avf _
   ·have:= h 0 i (by lia) hi;unfold Lx at this;lia
  have a2:K xs i<=K xs (x-1):=by
   by_cases b:i=x-1
   ·rw[b];exact Avf _
   ·have:= h i (x-1) (by lia) (by lia);unfold Lx at this;lia
  lia
 refine λi hi=>⟨a i hi,λj c d=>?_⟩;have:= h i j c d;have e1:=a i hi;have e2:=a j d;unfold Lx at this;lia
end
section
variable {prog:Program}{w:World}{A:Around}{E:NR}{s:Shared}{a₀:Array Keyed}
theorem AkA{st:SortSt}{a b:Nat}{Q:AscSt->SortSt->Prop}(u:IntKeys a₀)(inc:Inc a₀)(hn:b<=a₀.size)(z:1<=a)(p:a<=b)(o:SB a₀ st a)
  (y:St (arrOf st) a) (h:∀ n,a<=n->n<=b->St (arrOf st) n->(n=b\/K (arrOf st) n<K (arrOf st) (n-1))->Q (none,n) st) :
  wpS (model prog w) A E s (ascLoop a b) Q st:=by
 refine wpS_forRange (I:=λx c d=>d=st/\c=(none,x)/\St (arrOf st) x) ?step ?fin ⟨Z,Z,y⟩
 case fin =>
  grind
 case step =>
  rintro x c d e r ⟨rfl,rfl,q⟩;refine wpS_bind (wpS_ltK o.base u (by lia) (by lia) ?_);by_cases l:K (arrOf d) x<K (arrOf d) (x-1)
  ·simp only [l];exact wpS_pure (h x e (by lia) q (.inr l))
  ·simp only [l];refine wpS_pure ⟨Z,Z,λi j f B=>?_⟩;by_cases m:j<x
   ·exact q i j f m
   ·have t:j=x:=by lia
    subst t;have v:=(o.up e).vlt inc f (AtH j) (by lia);have C:K (arrOf d) i<=K (arrOf d) (j-1):=by
     by_cases hi:i=j-1
     ·rw[hi];exact Avf _
     ·have:= q i (j-1) (by lia) (by lia);unfold Lx at this;lia
    unfold Lx;lia
theorem Aft{st:SortSt}{n a:Nat}{Q:Option Nat->SortSt->Prop}(f:IntKeys a₀)(inc:Inc a₀)(hn:a<=a₀.size)(h1:1<=n)(d:n<=a)(e:SB a₀ st n)
  (l:De (arrOf st) n) (h:∀ m st',SB a₀ st' m->1<=m->m<=a->St (arrOf st') m->Q (some m) st') :
  wpS (model prog w) A E s (tail3 n a) Q st:=by
 have c:n<=(arrOf st).size:=by rw[e.base.size];lia
 refine wpS_bind (wpS_reverse ?_);have b:=e.mir (by lia) (i:=0) (AtH n);refine wpS_bind (AkA f inc hn h1 d b ?_ λm a1 a2 a3 _=>wpS_pure (h m _ (b.up a1) (by lia) a2 a3));intro i j o p;unfold Lx;rw[K_mirror c,K_mirror c,Kg c,Kg c,if_pos (by omega),if_pos (by omega),if_pos (by omega),if_pos (by omega)];exact l _ _ (by omega) (by lia)
theorem Anl{st:SortSt}{n e:Nat}{Q:DescSt->SortSt->Prop}(r:IntKeys a₀)(inc:Inc a₀)(hn:e<=a₀.size)(t:n<=e)(v:SB a₀ st n)
  (y:Dr (arrOf st) n 0) (h:∀ m neq a,SB a₀ a m->n<=m->m<=e->Dr (arrOf a) m neq->Q (none,m,neq) a) :
  wpS (model prog w) A E s (descLoop n e) Q st:=by
 refine wpS_forRange (I:=λx c a=>∃ q,c=(none,x,q)/\SB a₀ a x/\Dr (arrOf a) x q) ?step ?fin ⟨0,Z,v,y⟩
 case fin =>
  grind
 case step =>
  rintro x c a j u ⟨q,rfl,b,d⟩;have z:=d.le;have l:x<=(arrOf a).size:=by rw[b.base.size];lia
  try dsimp only
  refine wpS_bind (wpS_ltK b.base r (by lia) (by omega) ?_);by_cases f:K (arrOf a) x<K (arrOf a) (x-1)
  ·simp only [f,if_true];by_cases o:q>0
   ·rw[if_pos o];refine wpS_bind (wpS_reverse (wpS_pure ⟨0,Z,(b.mir (by lia) (AtH x)).up (Au1 x),De.next (d.rev l) (by lia) ?_⟩));rw[K_mirror l,K_mirror l,if_neg (by omega),if_pos (by omega)];have:= (d.run (x-(q+1)+x-1-(x-1)) (x-1) (by lia) (by lia) (by lia)).1;rw[this];exact f
   ·rw[if_neg o];have eq:q=0:=by lia
    subst eq;exact wpS_pure ⟨0,Z,b.up (Au1 x),d.one.next (by omega) f⟩
  ·simp only [f];refine wpS_bind (wpS_ltK b.base r (by omega) (by lia) ?_);by_cases p:K (arrOf a) (x-1)<K (arrOf a) x
   ·simp only [p];exact wpS_pure (h x q a b j (by lia) d)
   ·simp only [p];exact wpS_pure ⟨q+1,Z,b.up (Au1 x),d.eq (by lia) λi hi=>b.vlt inc hi (AtH x) (by lia)⟩
theorem Xd{st:SortSt}{n a:Nat}{Q:Option Nat->SortSt->Prop}(f:IntKeys a₀)(inc:Inc a₀)(hn:a<=a₀.size)(e:n+1<=a)(j:SB a₀ st (n+1))
  (l:Dr (arrOf st) (n+1) 0) (h:∀ m c,SB a₀ c m->1<=m->m<=a->St (arrOf c) m->Q (some m) c) :
  wpS (model prog w) A E s (descPart n a) Q st:=by
 refine wpS_bind (wpS_lift (wpAny_rule ⟨Z,?_⟩));refine wpS_bind (Anl f inc hn e j l λm q c b m1 m2 d=>?_)
 try dsimp only
 have o:m<=(arrOf c).size:=by rw[b.base.size];lia
 by_cases i:q>0
 ·rw[if_pos i];exact wpS_bind (wpS_reverse (Aft f inc hn (by lia) m2 (b.mir (by lia) (AtH m)) (d.rev o) h))
 ·have eq:q=0:=by lia
  subst eq;exact Aft f inc hn (by lia) m2 b d.one h
theorem Afu{st:SortSt}{a:Nat}{Q:Option Nat->SortSt->Prop}(o:IntKeys a₀)(inc:Inc a₀)(hn:a<=a₀.size)(h1:1<=a)(p:SB a₀ st 0)
  (h:∀ m st',SB a₀ st' m->1<=m->m<=a->St (arrOf st') m->Q (some m) st') :
  wpS (model prog w) A E s (countRun' 0 a) Q st:=by
 rw[countRun0_eq];have c:=p.up (AtR 1);refine wpS_bind (AkA o inc hn (AtH 1) h1 c (λi j d v=>by lia) λn n1 n2 q t=>?_)
 try dsimp only
 have f:=c.up n1;have b:n<=(arrOf st).size:=by rw[p.base.size];lia
 by_cases e:n=a
 ·rw[if_pos (by simpa using e)];exact wpS_pure (h n st f n1 n2 q)
 ·rw[if_neg (by simpa using e)];have u:=t.resolve_left e;by_cases g:n>1
  ·rw[if_pos g];refine wpS_bind (wpS_ltK p.base o (by lia) (by lia) ?_);by_cases r:K (arrOf st) 0<K (arrOf st) (n-1)
   ·simp only [r];exact wpS_pure (h n st f n1 n2 q)
   ·simp only [r];have l:=q.all r;have x:=f.mir (by lia) (i:=0) (AtH n);refine wpS_bind (wpS_reverse (Xd o inc hn (by lia) (x.up (Au1 n)) (De.next ?_ n1 ?_) h))
    ·intro i j d v;unfold Lx;rw[K_mirror b,K_mirror b,Kg b,Kg b,if_pos (by omega),if_pos (by omega),if_pos (by omega),if_pos (by omega)];refine .inr ⟨?_,(l _ (by omega)).2 _ (by lia) (by omega)⟩;rw[(l _ (by omega)).1,(l (0+n-1-i) (by omega)).1]
    ·rw[K_mirror b,K_mirror b,if_neg (by omega),if_pos (by omega),(l (0+n-1-(n-1)) (by omega)).1];exact u
  ·have e1:n=1:=by lia
   subst e1;exact Xd o inc hn (by lia) (f.up (Au1 1)) (De.next (λi j d v=>by lia) (AtH 1) u) h
theorem AiI{st:SortSt}{n ok:Nat}{Q:Bool->SortSt->Prop}(D:IntKeys a₀)(inc:Inc a₀)(hn:n<=a₀.size)(F:1<=ok)(L:ok<=n)(C:SB a₀ st ok)(H:St (arrOf st) ok)
  (h:∀ a,SB a₀ a n->St (arrOf a) n->Q true a):wpS (model prog w) A E s (binarySort' 0 n ok) Q st:=by
 rw[binarySort'_eq];simp only [Avs];have P:max ok 1=ok:=by lia
 rw[P];refine wpS_bind (wpS_mono (wpS_forRange (I:=λk c a=>c=(none,())/\SB a₀ a k/\St (arrOf a) k) (Q:=λc a=>c=(none,())/\SB a₀ a n/\St (arrOf a) n) ?step ?fin ⟨Z,C,H⟩) ?post)
 case post =>
  rintro c a ⟨rfl,b,q⟩;exact wpS_pure (h a b q)
 case fin =>
  grind
 case step =>
  rintro k c a J O ⟨rfl,b,q⟩;have hk:k<a₀.size:=by lia
  have v:∀ i j,i<=j->j<k->K (arrOf a) i<=K (arrOf a) j:=λi j m u=>by
   by_cases e:i=j
   ·rw[e];exact Avf _
   ·have:= q i j (by lia) u;unfold Lx at this;lia
  refine wpS_bind (wpS_mono (wpS_forRange (I:=λx c d=>d=a/\∃ l r,c=(none,l,r)/\l<=r/\r<=k/\r-l<=k-x /\
    (∀ i,i<l->K (arrOf a) i<=K (arrOf a) k)/\(∀ i,r<=i->i<k->K (arrOf a) k<K (arrOf a) i))
   (Q:=λc d=>d=a/\∃ l,c=(none,l,l)/\l<=k/\(∀ i,i<l->K (arrOf a) i<=K (arrOf a) k)/\(∀ i,l<=i->i<k->K (arrOf a) k<K (arrOf a) i)) ?istep ?ifin
   ⟨Z,0,k,Z,by omega,by omega,by omega,λi hi=>by omega,λi h1 h2=>by omega⟩) ?ipost)
  case ifin =>
   rintro c d ⟨rfl,l,r,rfl,t,f,B,lo,hi⟩;have e:l=r:=by omega
   subst e;exact⟨Z,l,Z,f,lo,hi⟩
  case istep =>
   rintro x c d _ M ⟨rfl,l,r,rfl,t,f,B,lo,hi⟩
   try dsimp only
   by_cases g:l ≥ r
   ·rw[if_pos g];have e:l=r:=by lia
    subst e;exact wpS_pure ⟨Z,l,Z,f,lo,hi⟩
   ·rw[if_neg g];refine wpS_bind (wpS_ltK b.base D hk (by lia) ?_);by_cases o:K (arrOf d) k<K (arrOf d) ((l+r) / 2)
    ·simp only [o];exact wpS_pure ⟨Z,l,(l+r) / 2,Z,by lia,by lia,by lia,lo,λi h1 h2=>Int.lt_of_lt_of_le o (v _ _ h1 h2)⟩
    ·simp only [o];exact wpS_pure ⟨Z,(l+r) / 2+1,r,Z,by lia,by omega,by lia,λi h1=>Int.le_trans (v i ((l+r) / 2) (by lia) (by lia)) (Int.not_lt.mp o),hi⟩
  case ipost =>
   rintro c d ⟨rfl,l,rfl,z,lo,hi⟩;show wpS _ _ _ _ (do moveDown' k l;pure (ForInStep.yield (none,()))) _ _;rw[moveDown'_eq];refine wpS_bind (wpS_modify (wpS_pure ⟨Z,b.bub hk (by lia),?_⟩));have p:k<(arrOf d).size:=by rw[b.base.size];exact hk
   intro i j m u;have e:k-(k-l)=l:=by lia
   have R:∀ x,x<k->V (arrOf d) x<V (arrOf d) k:=λx N=>b.vlt inc N (AtH k) hk;unfold Lx;rw[K_bubble p (by omega),K_bubble p (by omega),Afs p (by omega),Afs p (by omega),e];by_cases c1:i=l
   ·grind
   ·rw[if_neg c1,if_neg c1];by_cases c2:l<i/\i<=k
    ·have d1:¬j=l:=by lia
     have d2:l<j/\j<=k:=by lia
     rw[if_pos c2,if_pos c2,if_neg d1,if_neg d1,if_pos d2,if_pos d2];exact q _ _ (by lia) (by lia)
    ·rw[if_neg c2,if_neg c2];by_cases c3:j=l
     ·grind
     ·rw[if_neg c3,if_neg c3];by_cases y:l<j/\j<=k
      ·grind
      ·rw[if_neg y,if_neg y];exact q _ _ m (by lia)
theorem Afv{st:SortSt}{Q:Unit->SortSt->Prop}(y:IntKeys a₀)(inc:Inc a₀)(v:SBase a₀ st)(same:arrOf st=a₀)(h2:2<=a₀.size)(p:a₀.size<64)
  (h:∀ a,(arrOf a).Perm a₀->failedOf a=none->St (arrOf a) a₀.size->Q () a):wpS (model prog w) A E s sortRuns' Q st:=by
 rw[sortRuns'_eq];refine wpS_bind (wpS_get ?_)
 try dsimp only
 have u:minRun' a₀.size a₀.size 0=a₀.size:=by
  obtain⟨f,D⟩:∃ f,a₀.size=f+1:=⟨a₀.size-1,by lia⟩;have e:minRun' (f+1) a₀.size 0=a₀.size:=by rw[minRun'_succ,if_pos p];rfl
  rwa [<- D] at e
 have K:SB a₀ st 0:=⟨v,λj _=>by rw[same],λi hi=>by lia⟩;have n:∀ a,SB a₀ a a₀.size->St (arrOf a) a₀.size ->
   (arrOf (setPending a ((pendingOf a).push (0,a₀.size,0)))).Perm a₀/\failedOf (setPending a ((pendingOf a).push (0,a₀.size,0)))=none/\(pendingOf (setPending a ((pendingOf a).push (0,a₀.size,0)))).size=1/\St (arrOf (setPending a ((pendingOf a).push (0,a₀.size,0)))) a₀.size:=λa b q =>
  ⟨b.base.perm,b.base.failed,by rw[b.base.pend];rfl,q⟩;simp only [v.size,u];refine wpS_bind (wpS_mono (wpS_forRange
  (I:=λx c a=>(x=0/\c=(none,0)/\SB a₀ a 0)\/(1<=x/\c=(none,a₀.size)/\(arrOf a).Perm a₀/\failedOf a=none/\(pendingOf a).size=1/\St (arrOf a) a₀.size))
  (Q:=λc a=>c=(none,a₀.size)/\(arrOf a).Perm a₀/\failedOf a=none/\(pendingOf a).size=1/\St (arrOf a) a₀.size) ?step ?fin (.inl ⟨Z,Z,K⟩)) ?post)
 case fin =>
  rintro c a (⟨H,_,_⟩ | ⟨_,hc,l⟩)
  ·lia
  ·exact⟨hc,l⟩
 case step =>
  rintro x c a _ H (⟨rfl,rfl,b⟩ | ⟨C,rfl,l⟩)
  ·rw[if_neg (by omega)];simp only [AvB,Avw,Avs];refine wpS_bind (Afu y inc (AtH _) (by lia) b λm d b2 m1 m2 z=>?_)
   try dsimp only
   by_cases o:m<a₀.size
   ·rw[if_pos o];refine wpS_bind (wpS_lift (wpAny_rule ⟨Z,?_⟩));refine wpS_bind (AiI y inc (AtH _) m1 m2 b2 z λt b3 J=>?_);refine wpS_bind (wpS_get ?_);have r:(pendingOf t).back?=none:=by rw[b3.base.pend];rfl
    rw[r];exact wpS_bind (wpS_modify (wpS_pure (.inr ⟨by lia,Z,n _ b3 J⟩)))
   ·rw[if_neg o];have B:m=a₀.size:=by lia
    subst B;refine wpS_bind (wpS_get ?_);have r:(pendingOf d).back?=none:=by rw[b2.base.pend];rfl
    rw[r];exact wpS_bind (wpS_modify (wpS_pure (.inr ⟨by lia,Z,n _ b2 z⟩)))
  ·rw[if_pos (AtH _)];exact wpS_pure ⟨Z,l⟩
 case post =>
  rintro c a ⟨rfl,l⟩;refine wpS_bind (wpS_mono (wpS_forRange (I:=λ_ c d=>d=a/\c=(none,())) ?_ (λ_ _ F=>F) ⟨Z,Z⟩) ?_)
  ·rintro x c d _ _ ⟨rfl,rfl⟩;refine wpS_bind (wpS_get ?_);rw[if_pos (by rw[l.2.2.1];exact AtH 1)];exact wpS_pure ⟨Z,Z⟩
  ·rintro c d ⟨rfl,rfl⟩;exact wpS_pure (h _ l.1 l.2.1 l.2.2.2)
end
end Stab
namespace L2
open PySem PySem.Spec PyProof.Rows
variable {H H':Hp}{P prog:Program}{q x nm:Str}{a c c' f cc r b:Addr}{xs:Na}{pos Anm:Pos}{w:World}{h h':Heap}{X:Cx}{pins:NO}{σ:St}{s s₁:Shared}{tk j n e1 n0:Nat}{ps acc vs:Array Value}{params:Arguments}{body e:Expr}{scope:Scope}{R E:NR}{A:Around}{t te:TE}{items:NW}{ns:NA}{fd:FuncData}{mg mb:Str->NY}{CX:CXT}
def cdO (c:Addr)(q:Str):HO:=.ext λh=>h.CodeRec (.ref c) q
def Tb (P:Addr)(q:Str)(H:Hp):Prop:=∃ ps:Array Value,H P=some (.tbl ps)/\TriplesOk ps.toList/\∀(pos:Pos)(cv:Value),codeAmong pos ps.toList=some cv->∃ c,cv=.ref c/\H c=some (cdO c q)
def Eo (H H':Hp):Prop:=∀ b o,H b=some o->(∀ ps,o≠.tbl ps)->H' b=some o
theorem Aq.toT(s:Aq H H'):Eo H H':=λb o h _=>s b o h
theorem Eo.trans{H1 H2:Hp}(a:Eo H H1)(b:Eo H1 H2):Eo H H2:=λc o h n=>b c o (a c o h n) n
theorem Tb.same{P:Addr}(t:Tb P q H)(s:Aq H H'):Tb P q H':=by obtain⟨ps,h1,h2,h3⟩:=t;refine⟨ps,s _ _ h1,h2,λpos cv e=>?_⟩;obtain⟨c,e1,e2⟩:=h3 pos cv e;exact⟨c,e1,s _ _ e2⟩
theorem Eo.lst(s:Eo H H')(h:H a=some (.lst xs)):H' a=some (.lst xs):=s a _ h λ_ z=>HO.noConfusion z
theorem Eo.tup(s:Eo H H')(h:H a=some (.tup xs)):H' a=some (.tup xs):=s a _ h λ_ z=>HO.noConfusion z
theorem Eo.ext(s:Eo H H'){b:Heap->Prop}(h:H a=some (.ext b)):H' a=some (.ext b):=s a _ h λ_ z=>HO.noConfusion z
theorem Eo.seq{K:NF}(s:Eo H H')(h:SqL K H a xs):SqL K H' a xs:=by
 rcases h with (h | ⟨o,h⟩) | h
 ·exact .inl (.inl (s.lst h))
 ·exact .inl (.inr ⟨o,s a _ h λ_ z=>HO.noConfusion z⟩)
 ·exact .inr h
theorem AgF{pos':Pos}{c cv:Value}(l:NW)(h:TriplesOk l):codeAmong pos' (l++[rawInt pos.line,rawInt pos.col,c])=some cv->codeAmong pos' l=some cv\/cv=c:=by
 fun_induction TriplesOk l with
 | case1 =>
  intro e;simp only [List.nil_append,codeAmong,rawInt] at e;split at e
  ·exact .inr (Option.some.inj e).symm
  ·cases e
 | case2 a t b u x rest d =>
  intro e;simp only [Avi,codeAmong] at e ⊢;split at e
  ·rename_i hc;rw[if_pos hc];exact .inl e
  ·rename_i hc;rw[if_neg hc];exact d h e
 | case3 l h1 h2=>exact h.elim
theorem ApO(r:h.CodeRec (.ref c) q):Ei P w H h c (cdO c q):=by obtain⟨c',o,vs,t,e,g,d,v⟩:=id r;cases e;refine⟨r,⟨o,g⟩,λh1 h2 b k=>?_⟩;obtain⟨c2,o2,a,f,e2,g2,d2,i⟩:=b;cases e2;exact⟨c,o2,a,f,Z,k _ g2,d2,i⟩
theorem Inv.table{P:Addr}{more:Array Value}(I:Inv X pins σ H s)(a:H P=some (.tbl ps))(i:Heap.ExtBut P s.heap h')(hsz:s.heap.objs.size<=c')
  (d:h'.CodeRec (.ref c') q) (l:h'.get? P=some (W.tabObj (ps++more))) :
  Inv X pins σ (upd (upd H P (.tbl (ps++more))) c' (cdO c' q)) { s with heap:=h',toks:=tk }:=by
 have j:∀ b,H b=none->b≠P:=λb n e=>by simp_all
 have hc:=I.hok.fresh hsz;have x:=j c' hc;have lt:∀ b o,s.heap.get? b=some o->b≠c':=λb o e z=>absurd (Heap.lt_size e) (by simp_all);have f:∀ b u,H b=some u->b≠c':=λb u e z=>by simp_all
 have up:∀ b,b≠P->b≠c'->upd (upd H P (.tbl (ps++more))) c' (cdO c' q) b=H b:=λb n1 n2=>by rw[Aj n2,Aj n1]
 refine I.step (ch:=[]) (λ_ z=>nomatch z) (λb o _ _ _ e n=>i b o (j b n) e) (λb o _ _ _ e n=>⟨o.slots,i b o (j b n) e⟩) (λb o _ e n=>by rw[up b (j b n) (lt b o e)];exact n)
  (λb o _ e=>?_) (λb xs e=>?_) (λb o u e=>?_) (λb y e=>?_) (λm w=>w.extBut i (j _ I.free)) (λb u e=>?_) I.bare
 ·by_cases h:b=P
  ·rw[h];exact⟨_,l⟩
  ·exact⟨o,i b o h e⟩
 ·rw[up b (λz=>by rw[z,a] at e;cases e) (f b _ e)];exact e
 ·rw[up b (λz=>by rw[z,a] at e;cases e) (f b _ e)];exact e
 ·by_cases h:b=P
  ·rw[h,a] at e;cases e;exact⟨more,by rw[h,Aj (Ne.symm x),Ae]⟩
  ·exact⟨#[],by rw[up b h (f b _ e),e];simp⟩
 ·by_cases h1:b=c'
  ·rw[h1,Ae] at e;cases e;rw[h1];exact ApO d
  ·rw[Aj h1] at e;by_cases h2:b=P
   ·rw[h2,Ae] at e;cases e;rw[h2];exact l
   ·rw[Aj h2] at e;refine(I.hok b u e).stay (λc v p r=>i c v ?_ r) (λc r=>?_) λc xs r=>?_
    ·rcases p with z | z
     ·rw[z];exact h2
     ·intro t;rw[t,a] at z;cases z
    ·rw[up c (λz=>by rw[z,a] at r;cases r) (f c _ r)];exact r
    ·rw[up c (λz=>by rw[z,a] at r;cases r) (f c _ r)];exact r
def Bm (mg:Str->NY)(base:Heap):Prop:=∃ bm ob,mg "__builtins__" = some (.ref bm)/\bm≠builtinsNs/\base.get? bm=some ob/\ob.cls=.type "module" /\ ob.dict=some builtinsNs/\ob.data=.plain
theorem AkB{P:Addr}{l:List (Str × Addr)}
  (I:Inv X pins σ H s) (tb:Tb P q H) (a:X.env.code=.ref c) (C:W.CodeHd X.base c P) (B:Bm X.mg X.base) (hq:X.env.qual ++ "<lambda>" = q)
  (t:defaultsOf params X.env=([],[])) (y:closureFor scope X.env=pure l)
  (k:∀(f c':Addr)(pm i:Value)(H':Hp)(s':Shared),Eo H H'->Tb P q H'->H' c'=some (cdO c' q)->s.heap.objs.size<=s'.heap.objs.size ->
   Inv X ((f,W.kla_obj "<lambda>" q params body scope l pm c' i)::pins) σ H' s'->R (.ref f) s') :
  wpAny (model X.prog X.w) A (eval (.Lambda params body scope Anm) X.env) R E s:=by
 refine W.kla_eval t ?_;rw[hq];obtain⟨ps,m,K,hc⟩:=tb;have gP:=I.hok P _ m;obtain⟨O,ob,b1,b2,b3,b4,b5,b6⟩:=B;have S:mainGlobals≠P:=λe=>by
  obtain⟨o,es,ep,g,d,_⟩:=I.mod.glob;have z:=(I.bs _ _ g).2;rw[e,m] at z;cases z
 have M:O≠P:=λe=>by
  have z:=(I.bs _ _ b3).2;rw[e,m] at z;cases z
 have T:O≠mainGlobals:=λe=>by
  obtain⟨o,es,ep,g,d,_⟩:=I.mod.glob;grind
 have Y:s.heap.BuiltinsAt X.mg P:=⟨O,ob,b1,b2,T,M,I.bk _ _ b3,b4,b5,b6⟩;have hG:=I.mod.glob.keeps I.bk;have fin:∀(H':Hp)(h':Heap)(tk:Nat)(o:Obj),o.isFreed=false->(∀ v,o.data≠.cell v)->s.heap.objs.size<=h'.objs.size->Inv X pins σ H' { s with heap:=h',toks:=tk } ->
   Inv X ((h'.objs.size,o)::pins) σ H' { s with heap:=h'.push o,toks:=tk }:=λH' h' tk o hfr hd hsz J=>by
  have J2:Inv X pins σ H' { s with heap:=h'.push o,toks:=tk }:=J.kept λb u e=>zB _ e;refine J2.HR λp Q=>?_;rcases yD.mp Q with rfl | Q
  ·exact⟨zD _ hfr,J.hok.fresh (AtH _),AuD (Aua I.lt hsz),I.AoM hsz,hd⟩
  ·exact J2.pin p (Auo _ Q)
 have L:∀(h':Heap)(o:Obj),s.heap.objs.size<=h'.objs.size->s.heap.objs.size<=(h'.push o).objs.size:=λh' o h=>by rw[Heap.size_push];exact Nat.le_succ_of_le h
 cases e:codeAmong Anm ps.toList with
 | none =>
  refine W.kla_makeFunction y I.ok.glob hG a (C.keeps I.bk) gP K e S Y λc' i h' tk hx j D r U=>?_;have J:=I.table (tk:=tk) m hx j r U;have F:=I.hok.fresh j;have nP:P≠c':=λz=>by simp_all
  refine k _ c' _ i _ _ (λb o h n=>?_) ⟨_,by rw[Aj nP,Ae],?_,λpos cv e2=>?_⟩ Ae (L h' _ (Auu (AuY j D))) (fin _ h' tk _ Z (λv z=>by cases z) (Auu (AuY j D)) J)
  ·rw[Aj (λz=>by rw[z,F] at h;cases h),Aj (λz=>by rw[z,m] at h;exact n _ (Option.some.inj h).symm)];exact h
  ·rw[Array.toList_append];exact TriplesOk_snoc _ _ _ _ K
  ·rw[Array.toList_append] at e2;rcases AgF _ K e2 with e3 | e3
   ·obtain⟨c1,z1,x⟩:=hc _ _ e3;exact⟨c1,z1,by rw[Aj (λz=>by rw[z,F] at x;cases x),Aj (λz=>by rw[z,m] at x;cases x)];exact x⟩
   ·exact⟨c',e3,Ae⟩
 | some cv =>
  obtain⟨c1,rfl,N⟩:=hc _ _ e;refine W.kla_makeFunctionHit y I.ok.glob hG a (C.keeps I.bk) gP K e Y λi h' tk hk hsz=>?_;exact k _ c1 _ i H _ (Aq.refl H).toT ⟨ps,m,K,hc⟩ N (L h' _ hsz) (fin H h' tk _ Z (λv z=>by cases z) hsz (I.kept hk))
def ArE (X:Cx)(A:Around)(N:NX)(env:Env)(s:Shared)(H:Hp):Cx where
 prog:=X.prog
 w:=X.w
 K:=X.K
 mg:=X.mg
 base:=X.base
 A:=A.deeper env
 N:=N
 s₀:=s
 H₀:=H
 env:=env
 outer:=X.stack
 stack:=env::X.stack
 ex:=[]
 calm:=true
 fn:=λ_=>false
 pn:=[]
 xe:=λ_ _=>False
theorem AkC{pm T u:Value}{y v:V}{Q:VK}
  (I:Inv X pins σ H s) (hA:A.frames=some X.stack) (hd:A.handled=none) (F:A.depth<recursionLimit)
  (hf:(f,W.kla_obj "<lambda>" q params body scope [(nm,cc)] pm c' T)∈pins) (hc:H c'=some (cdO c' q))
  (hN:X.N[j]?=some nm) (hv:σ[j]?=some (some v)) (hk:X.env.kindOf nm=some .cell) (Y:X.env.cells.lookup nm=some cc)
  (l:scope.names=[(x,.local),(nm,.free)]) (ac:x≠nm) (C:scope.kind=.function) (af:scope.isCoroutine=false) (P:scope.isGenerator=false)
  (L:∀ w:Value,bindArgs (W.kla_fn "<lambda>" q params body scope [(nm,cc)] pm (.ref c') T) ⟨[w],[]⟩=pure [(x,w)])
  (ru:RelV y u) (hb:∀(env:Env)(s:Shared)(H:Hp),env.scope=scope->PE (ArE X A [x,nm] env s H) body t) (h:t [some y,some v] H Q) :
  wpAny (model X.prog X.w) A (call (.ref f) [u]) (EP X pins σ Q) E s:=by
 have S:scope.names.lookup x=some .local:=by rw[l];simp
 have a0:scope.names.lookup nm=some .free:=by rw[l,Auy,beq_false_of_ne (Ne.symm ac)];simp
 have ab:=I.pin _ (Auo _ hf);have O:=(I.hok c' _ hc).1;have ae:Vis X.env.scope nm:=.inr (.inl hk);obtain⟨m,ag,hl⟩:=I.loc;obtain⟨u',rv,lk⟩:=hl j nm v hN hv ae;have D:s.heap.IsCell cc (some u'):=by
  rcases lk with ⟨z,_⟩ | ⟨_,c2,e2,z⟩
  ·simp_all
  ·rw[Y] at e2;cases e2;exact z
 refine wpAny_call (codeAny_mono (R:=λr s'=>match r with | .ok (.ret u)=>EP X pins σ Q u s' | _=>False)
  (W.kla_callFunE F ab.1 Z af P Z O ?_) λr s' hq=>?_)
 ·rw[L u];refine zE (wpAny_newFunctionEnv (λp K=>?_) (λp K=>?_) (λh₁ hn U=>⟨I.nolimit.fresh _ U,?_⟩) C)
  ·rw[l] at K;rcases yD.mp K with rfl | K
   ·simp_all
   ·simp_all
  ·rw[zF.mp K];exact S
  ·have B:=λb o e=>U.extBut b o (AtU (Heap.lt_size e)) (zB _ e);have one:∀ z c,([(nm,cc)]:List (Str × Addr)).lookup z=some c->z=nm/\c=cc:=λz c e=>by
    rw[Auy] at e;cases hz:z == nm with
    | true=>grind
    | false=>grind
   have J:Inv (ArE X A [x,nm] (W.envX q scope s.heap.objs.size f (.ref c') [(nm,cc)]) s H) [] [some y,some v] H { s with heap:=h₁,toks:=s.toks+[(x,u)].length }:=by
    refine⟨⟨I.ok.mod,C,Z,Z,AtH _,λa b c e1 e2=>(one _ _ e1).1.trans (one _ _ e2).1.symm,λz hz=>?_,λz c e1 e2=>Bool.noConfusion e1,λ_=>hd,Around.frames_deeper hA,.inr ⟨Z,Z⟩,
     λb z=>absurd (show b∈([]:NU) from z) (by simp),I.bs,AtW I.ok.bsz I.sz,λb _ _ z=>absurd (show b∈([]:NU) from z) (by simp),λb z=>absurd (show b∈([]:NU) from z) (by simp),I.stack,I.AcS⟩,
     rfl,I.bare,Un.kept B,⟨_,hn,λi n v' e1 e2 e3=>?_⟩,λz c e=>?_,I.hok.fresh (AtH _),λz c e=>?_,λp K=>absurd (show p∈([]:NO) from K) (by simp),I.hok.kept B,Z⟩
    ·have aa:scope.names.lookup z=some .cell\/scope.names.lookup z=some .free:=hz;have M:=aa.imp zW zW;rw[l] at M;have a6:z=nm:=by
      rcases M with M | M
      ·rcases yD.mp M with e | e
       ·cases e
       ·cases zF.mp e
      ·rcases yD.mp M with e | e
       ·cases e
       ·exact(Prod.mk.inj (zF.mp e)).1
     exact⟨cc,by rw[a6];show([(nm,cc)]:List (Str × Addr)).lookup nm=_;simp⟩
    ·match i,e1,e2 with
     | 0,e1,e2 =>
      cases e1;cases e2;exact⟨u,ru,.inl ⟨S,by simp⟩⟩
     | 1,e1,e2 =>
      cases e1;cases e2;obtain⟨o,g,d⟩:=D;exact⟨u',rv,.inr ⟨.inr a0,cc,by show([(nm,cc)]:List (Str × Addr)).lookup nm=_;simp,o,B _ _ g,d⟩⟩
     | i+2,e1,e2=>cases e1
    ·obtain⟨o,g,d⟩:=D;rw[(one z c e).2];exact⟨some u',o,B _ _ g,d⟩
    ·rw[(one z c e).2];exact I.Mr nm cc Y
   refine W.kla_codeExpr (zT (hb (W.envX q scope s.heap.objs.size f (.ref c') [(nm,cc)]) s H Z [] _ [some y,some v] H Q J h) (λu2 s' hq=>?_) λ_ _ z=>z.elim);obtain⟨v',H',J',r',q'⟩:=hq;exact I.after ⟨v',H',J'.os,J'.bare,J'.base,J'.hok,r',q'⟩
 ·grind
theorem Afw{Q:NW->Shared->Prop}{a b c:Int}{t u v:Tok}(C:A.handled=none)(z:IsRange s.heap r a b c t u v)(m:Builtin.Range.small a b c=true)
  (hn:Builtin.Range.rangeSize a b c=n) (y:n<=2 ^ 24)
  (B:∀ h' tk acc,(∀ b o,s.heap.get? b=some o->h'.get? b=some o)->s.heap.objs.size<=h'.objs.size->ItemsOf (λi v=>∃ t,v=.int (a+i*c) t) acc n->Q acc.toList { s with heap:=h',toks:=tk }) :
  wpAny (model prog w) A (collect (.ref r)) Q E s:=by
 unfold collect;refine zA (wpAny_runValue (codeAny_builtin F.entry_proto_collect ?_));rw[Around.under_plainId F.plain_proto_collect _];show wpAny _ A.in1 (newList [] >>= λl=>again (.builtin "list.__iadd__" ⟨[l,.ref r],[]⟩)) _ _ s;refine zA (yF ?_);refine zE ⟨plainId_quiet F.plain_list_iadd _,codeAny_builtin F.entry_list_iadd ?_⟩;rw[Around.under_plainId F.plain_list_iadd _];have p:(s.heap.push { cls:=.type "list", data:=.seq ([]:NW).toArray }).get? s.heap.objs.size=some { cls:=.type "list", data:=.seq ([]:NW).toArray }:=zD _ Z;show wpAny _ A.in1 (Builtin.List.listExtendWith (.ref s.heap.objs.size) (.ref r) (.ref s.heap.objs.size)) _ _ _;have fin:∀(r:Result)(s':Shared),(∃ h' tk d c',r=.ok (.ret (.ref s.heap.objs.size))/\s'={ s with heap:=h',toks:=tk }/\(∀ b o,b≠s.heap.objs.size->(s.heap.push { cls:=.type "list", data:=.seq ([]:NW).toArray }).get? b=some o->h'.get? b=some o) /\
   h'.get? s.heap.objs.size=some { cls:=.type "list", dict:=none,data:=.seq d c',slots:=#[] }/\ItemsOf (λi v=>∃ t,v=.int (a+i*c) t) d n)->∃ h' tk d c',r=.ok (.ret (.ref s.heap.objs.size))/\s'={ s with heap:=h',toks:=tk } /\
   h'.get? s.heap.objs.size=some { cls:=.type "list", dict:=none,data:=.seq d c',slots:=#[] }/\Q d.toList s':=by
  rintro r s' ⟨h',tk,d,c',e1,e2,hk,h,j⟩;refine⟨h',tk,d,c',e1,e2,h,?_⟩;rw[e2];exact B h' tk d (λb o e=>hk b o (AtU (Heap.lt_size e)) (zB _ e)) (Auu (Heap.lt_size h)) j
 refine zT (wpAny_extend_range (s:={ s with heap:=s.heap.push { cls:=.type "list", data:=.seq ([]:NW).toArray } }) (R:=λr s'=>∃ h' tk d c',r=.ok (.ret (.ref s.heap.objs.size))/\s'={ s with heap:=h',toks:=tk }/\(∀ b o,b≠s.heap.objs.size->(s.heap.push { cls:=.type "list", data:=.seq ([]:NW).toArray }).get? b=some o->h'.get? b=some o) /\
   h'.get? s.heap.objs.size=some { cls:=.type "list", dict:=none,data:=.seq d c',slots:=#[] }/\ItemsOf (λi v=>∃ t,v=.int (a+i*c) t) d n) C (zB _ z) m hn y s.heap.objs.size (.ref s.heap.objs.size) 0 p
  λh' tk d c' hk h j=>⟨h',tk,d,c',Z,Z,hk,h,j⟩) (λf s' x=>?_) λe s' x=>?_
 ·cases f with
  | done f =>
   obtain⟨h',tk,d,c',e1,e2,h,q⟩:=fin _ _ x;cases e1;subst e2;show wpAny _ A (load s.heap.objs.size >>= _) _ _ _;exact zA (wpAny_load h (zE q))
  | again c' =>
   refine⟨x.1,codeAny_mono x.2 λr s' z=>?_⟩;obtain⟨h',tk,d,c',e1,e2,h,q⟩:=fin _ _ z;subst e1 e2;show wpAny _ A (load s.heap.objs.size >>= _) _ _ _;exact zA (wpAny_load h (zE q))
 ·obtain⟨h',tk,d,c',e1,_⟩:=x;cases e1
theorem AiJ(hi:IntsAre items ns){g:Int->Int}{keys:Array Value}(hk:IntsAre keys.toList (ns.map g)){p:Keyed}(d:p∈keys.toList.zip items) :
  ∃ z,z∈ns/\numOf p.2=z/\numOf p.1=g z/\∃ t,p.2=.int z t:=by
 obtain⟨i,f,e⟩:=Aus d;have h1:=hi.length;have h2:=hk.length;rw[AtG] at h2;rw[List.length_zip] at f;have hn:i<ns.length:=by omega
 obtain⟨c,e1⟩:=hi.get i ns[i] (AtF hn);obtain⟨h,e2⟩:=hk.get i (g ns[i]) (by rw[AtQ,AtF hn];rfl);rw[List.getElem_zip] at e;have a:items[i]'(by omega)=.int ns[i] c:=Option.some.inj ((AtF _).symm.trans e1);have b:keys.toList[i]'(by omega)=.int (g ns[i]) h:=Option.some.inj ((AtF _).symm.trans e2);rw[a,b] at e;subst e;exact⟨ns[i],AtT hn,Z,Z,c,Z⟩
theorem Ann(hi:IntsAre items ns){g:Int->Int}{keys:Array Value}(hk:IntsAre keys.toList (ns.map g)){xs:Array Keyed}(r:xs.Perm (keys.zip items.toArray))(o:Stab.St xs xs.size) :
  ∃ a:NA,IntsAre (xs.map (·.2)).toList a/\a.Perm ns/\a.Pairwise (λx y=>g x<g y\/(g x=g y/\x<y)):=by
 have m:xs.toList.Perm (keys.toList.zip items):=by rw[<- ksk_zip];exact Array.perm_iff_toList_perm.mp r
 have f:∀ p∈xs.toList,∃ z,z∈ns/\numOf p.2=z/\numOf p.1=g z/\∃ t,p.2=.int z t:=λp h=>AiJ hi hk (m.mem_iff.mp h);have len:keys.toList.length=items.length:=by rw[hk.length,AtG,hi.length]
 refine⟨xs.toList.map λp=>numOf p.2,?_,?_,?_⟩
 ·rw[Array.toList_map];have:=intsAre_map (xs.toList.map (·.2)) λv n=>by
   obtain⟨p,d,rfl⟩:=yC.mp n;obtain⟨z,_,_,_,t,e⟩:=f p d;exact⟨z,t,e⟩
  rw[Ava] at this;exact this
 ·have h1:=m.map λp:Keyed=>numOf p.2;have h2:(keys.toList.zip items).map (λp:Keyed=>numOf p.2)=ns:=by
   rw[<- hi.nums,show(λp:Keyed=>numOf p.2)=numOf∘Prod.snd from Z,<- Ava,List.map_snd_zip (by omega)]
  rw[h2] at h1;exact h1
 ·rw[AuI,AvN];intro i j h1 h2 l;have c:i<xs.size:=by simpa using h1
  have b:j<xs.size:=by simpa using h2
  have q:=o i j l b;obtain⟨s,_,a1,b1,_⟩:=f xs.toList[i] (AtT h1);obtain⟨u,_,a2,b2,_⟩:=f xs.toList[j] (AtT h2);rw[a1,a2];unfold Stab.Lx at q;rw[K_eq c,K_eq b] at q;unfold Stab.V at q;rw[getElem?_pos xs i c,getElem?_pos xs j b] at q;simp only [Array.getElem_toList] at a1 a2 b1 b2;simp only [a1,a2,b1,b2] at q;exact q
theorem Ano(hi:IntsAre items ns)(inc:ns.Pairwise (·<·)){keys:Array Value}(b:keys.size=items.length):Stab.Inc (keys.zip items.toArray):=by
 intro i j a c;have d:(keys.zip items.toArray).size=items.length:=by rw[Array.size_zip,b,Aub,Avw]
 have h1:=hi.length;have val:∀ k (hk:k<items.length),Stab.V (keys.zip items.toArray) k=ns[k]'(by omega):=λk hk=>by
  obtain⟨t,e⟩:=hi.get k ns[k] (AtF (by omega));unfold Stab.V;rw[getElem?_pos (keys.zip items.toArray) k (by omega)];simp only [Array.getElem_zip,List.getElem_toArray];rw[Option.some.inj ((AtF hk).symm.trans e)];rfl
 rw[val i (by omega),val j (by omega)];exact List.pairwise_iff_getElem.mp inc i j (by omega) (by omega) a
section
variable {kS:Addr}{g:Int->Int}{Pst:PySem.Fin->Shared->Prop}
theorem Afx{st:SortSt}{keys:Array Value}(hi:IntsAre items ns)(W:ns.length<64)(hk:IntsAre keys.toList (ns.map g))
  (I:Inv X ((a,seqObj "list" #[] e1)::pins) σ (upd H kS (.lst (vI (ns.map g)))) s) (M:H kS=none) (a0:X.s₀.heap.objs.size<=a) (U:∀ x c,X.env.cells.lookup x=some c->c≠a) (aP:∀ p∈X.pn++pins,p.1≠a)
  (O:(arrOf st).Perm (keys.zip items.toArray)) (hs:Stab.St (arrOf st) (arrOf st).size) (L:failedOf st=none)
  (k:∀(H':Hp)(s':Shared)(d:NA),Aq H H'->H a=none->H' a=some (.lst (vI d))->d.Perm ns->d.Pairwise (λx y=>g x<g y\/(g x=g y/\x<y))->Inv X pins σ H' s'->Pst (.done (.ret .none)) s') :
  wpAny (model X.prog X.w) A (ksk_tail a false e1 (.ref kS) st) Pst E s:=by
 have hsz:sizeLine=16777216:=z8;obtain⟨d,o1,o2,o3⟩:=Ann hi hk O hs;have pa:=I.pin (a,seqObj "list" #[] e1) (Auo _ AtJ);obtain⟨ga,S,T,aF,_⟩:=pa;have B:a≠kS:=λz=>by
  have j:upd H kS (.lst (vI (ns.map g))) a=none:=S;rw[z,Ae] at j;cases j
 have C:H a=none:=by
  have j:upd H kS (.lst (vI (ns.map g))) a=none:=S;rw[Aj B] at j;exact j
 obtain⟨z,its,n,rv,hl,R⟩:=I.Adb (l:=kS) Ae;have a6:its.length=ns.length:=by rw[<- hl,Bh,AtG]
 have s1:=Heap.SameBut.update s.heap kS (Obj.mapSeq λ_=>(#[]:Array Value));have K:Inv X ((a,seqObj "list" #[] e1)::pins) σ (upd (upd H kS (.lst (vI (ns.map g)))) kS (.lst [])) { s with heap:=s.heap.update kS (Obj.mapSeq λ_=>(#[]:Array Value)),toks:=s.toks } :=
  I.AmA (its':=[]) (f:=λ_=>#[]) Ae R Z .nil (AtR _);rw[HQ] at K;have r:(s.heap.update kS (Obj.mapSeq λ_=>(#[]:Array Value))).get? a=some (seqObj "list" #[] e1):=(s1.2 a B).trans ga;have P:((arrOf st).map (·.2)).size=d.length:=by rw[<- o1.length,zK]
 have Y:=o2.length_eq;unfold ksk_tail
 try dsimp only
 refine zA (listUpdate_at R Z ?_ (by rw[Aub];omega) (AtR _));refine zA (wpAny_letGo ?_);refine zA (seqEpoch_at r Z ?_);refine zA (listUpdate_at r Z ?_ (AtR _) (by simp only [Avx,if_false];rw[P];omega));rw[L];simp only [bne_self_eq_false,Avx,if_false];refine zE ?_;have t:Inv X pins σ (upd H kS (.lst [])) { s with heap:=s.heap.update kS (Obj.mapSeq λ_=>(#[]:Array Value)),toks:=s.toks }:=K.HR λp O=>K.pin p (Auo _ (AtL _ O));have Q:upd H kS (.lst []) a=none:=by rw[Aj B];exact C
 generalize aa:s.heap.update kS (Obj.mapSeq λ_=>(#[]:Array Value))=h1 at r t ⊢;have F:=Heap.SameBut.update h1 a (Obj.mapSeq λ_=>(arrOf st).map (·.2));obtain⟨c2,N⟩:∃ c2,(h1.update a (Obj.mapSeq λ_=>(arrOf st).map (·.2))).get? a=some (seqObj "list" ((arrOf st).map (·.2)) c2):=⟨_,get?_update_seq r λ_=>(arrOf st).map (·.2)⟩;have i:∀ b u,upd H kS (.lst []) b=some u->b≠a:=λb u e z=>by rw[z,Q] at e;cases e
 have J:Inv X pins σ (upd (upd H kS (.lst [])) a (.lst (vI d))) { s with heap:=h1.update a (Obj.mapSeq λ_=>(arrOf st).map (·.2)),toks:=s.toks }:=by
  refine Inv.step (s:={ s with heap:=h1,toks:=s.toks }) t (g':=s.gens) (d':=s.drawn) (ch:=[a]) (λb D=>?_) (λb o _ _ hc e _=>(F.2 b (λz=>hc (by simp[z]))).trans e) (λb o _ _ hc e _=>⟨o.slots,(F.2 b (λz=>hc (by simp[z]))).trans e⟩)
   (λb o hc e n=>by rw[Aj (λz=>hc (by simp[z]))];exact n) (λb o hc e=>⟨o,(F.2 b (λz=>hc (by simp[z]))).trans e⟩) (λb xs e=>by rw[Aj (i b _ e)];exact e) (λb o u e=>by rw[Aj (i b _ e)];exact e)
   (λb ps e=>⟨#[],by rw[Aj (i b _ e),e];simp⟩) (λm hm=>hm.sameBut F (Ne.symm T)) (λb u e=>?_) t.bare
  ·have e:b=a:=by simpa using D
   rw[e];exact⟨.inr a0,T,U,aP⟩
  ·by_cases D:b=a
   ·rw[D,Ae] at e;cases e;rw[D];exact⟨by rw[Bh];omega,((arrOf st).map (·.2)).toList,c2,JZ o1,N⟩
   ·rw[Aj D] at e;refine(t.hok b u e).stay (λc v hc q=>(F.2 c ?_).trans q) (λc q=>by rw[Aj (i c _ q)];exact q) λc xs q=>by rw[Aj (i c _ q)];exact q
    rcases hc with z | z
    ·rw[z];exact D
    ·exact i c _ z
 refine k _ _ d (λb o h=>?_) C Ae o2 o3 J;rw[Aj (λz=>by rw[z,C] at h;cases h),Aj (λz=>by rw[z,M] at h;cases h)];exact h
theorem Anp{keys:Array Value}(hi:IntsAre items ns)(inc:ns.Pairwise (·<·))(f:ns.length<64)(hk:IntsAre keys.toList (ns.map g))
  (I:Inv X ((a,seqObj "list" #[] e1)::pins) σ (upd H kS (.lst (vI (ns.map g)))) s) (h:H kS=none) (n:X.s₀.heap.objs.size<=a) (m:∀ x c,X.env.cells.lookup x=some c->c≠a) (q:∀ p∈X.pn++pins,p.1≠a)
  (k:∀(H':Hp)(s':Shared)(ns':NA),Aq H H'->H a=none->H' a=some (.lst (vI ns'))->ns'.Perm ns->ns'.Pairwise (λx y=>g x<g y\/(g x=g y/\x<y))->Inv X pins σ H' s'->Pst (.done (.ret .none)) s') :
  wpAny (model X.prog X.w) A (ksk_end a false items.toArray e1 (.ref kS) keys) Pst E s:=by
 have h1:=hi.length;have hsz:keys.size=items.length:=by
  have h2:=hk.length;rw[zK,AtG] at h2;omega
 have d:(keys.zip items.toArray).size=items.length:=by rw[Array.size_zip,hsz,Aub,Avw]
 unfold ksk_end
 try dsimp only
 simp only [Avx,if_false];by_cases h2:items.toArray.size<2
 ·rw[if_pos h2,if_pos h2];refine zA (zE ?_);rw[StateT.run_pure];refine zA (zE ?_)
  try dsimp only
  refine Afx (st:=SortSt.mk' general' (keys.zip items.toArray) #[] 7 none) hi f hk I h n m q (Array.Perm.refl _) ?_ Z k;intro i j u r;have l:j<(keys.zip items.toArray).size:=r;rw[d] at l;rw[Aub] at h2;omega
 ·rw[if_neg h2,if_neg h2];rw[Aub] at h2;rw[ksk_kind hk (by rw[hsz];omega)];refine zA (zE ?_);refine zA (zT (Stab.Afv (a₀:=keys.zip items.toArray) (st:=SortSt.mk' oneType' (keys.zip items.toArray) #[] 7 none)
   (Q:=λ_ b=>(arrOf b).Perm (keys.zip items.toArray)/\failedOf b=none/\Stab.St (arrOf b) (keys.zip items.toArray).size)
   (ksk_intKeys hk) (Ano hi inc hsz) ⟨Array.Perm.refl _,Z,Z,Z⟩ Z (by rw[d];omega) (by rw[d];omega) λb a1 a2 a3=>⟨a1,a2,a3⟩) ?_ λ_ _ e=>e);rintro⟨⟨⟩,b⟩ s' ⟨rfl,o,v,t⟩
  try dsimp only
  exact Afx hi f hk I h n m q o (by rw[o.size_eq];exact t) v k
theorem AkD(I:Inv X pins σ H s)(Y:H a=none)(d:s.heap.get? a=some (seqObj "list" items.toArray n0)) (W:X.s₀.heap.objs.size<=a) (aL:a≠X.env.locals) (aF:a∉X.fs)
  (S:∀ x c,X.env.cells.lookup x=some c->c≠a) (aP:∀ p∈X.pn++pins,p.1≠a) (hi:IntsAre items ns) (inc:ns.Pairwise (·<·)) (M:ns.length<64)
  (D:∀(z:Int)(t:Tok)(pl:NO)(H':Hp)(s':Shared),z∈ns->Aq H H'->Inv X (pl++pins) σ H' s' ->
   wpAny (model X.prog X.w) A (call (.ref f) [.int z t]) (λu q=>(∃ t',u=.int (g z) t')/\Inv X (pl++pins) σ H' q) (λ_ _=>False) s')
  (k:∀(H':Hp)(s':Shared)(ns':NA),Aq H H'->H a=none->H' a=some (.lst (vI ns'))->ns'.Perm ns->ns'.Pairwise (λx y=>g x<g y\/(g x=g y/\x<y))->Inv X pins σ H' s'->Pst (.done (.ret .none)) s') :
  wpAny (model X.prog X.w) A (ksk_tree a (.ref f) false) Pst E s:=by
 have hsz:sizeLine=16777216:=z8;have hl:=hi.length;have s1:=Heap.SameBut.update s.heap a (Obj.mapSeq λ_=>(#[]:Array Value));obtain⟨e1,r⟩:∃ e1,(s.heap.update a (Obj.mapSeq λ_=>(#[]:Array Value))).get? a=some (seqObj "list" #[] e1):=⟨_,get?_update_seq d λ_=>#[]⟩;have N:a<s.heap.objs.size:=Heap.lt_size d;unfold ksk_tree;refine zA (listItems_at d Z ?_);refine zA (listUpdate_at d Z ?_ (by rw[Aub];omega) (AtR _));refine zA (seqEpoch_at r Z ?_);refine zA (wpAny_newTuple ?_ (by show items.length<=_;omega));refine zA (wpAny_newList ?_ (AtR _));refine z9 ?_;have I1:Inv X pins σ H { s with heap:=s.heap.update a (Obj.mapSeq λ_=>(#[]:Array Value)),toks:=s.toks }:=I.turned (it:=a) (λb o hb e=>(s1.2 b hb).trans e) Y aL (.inr W) S aP;have U:Inv X pins σ H { s with heap:=(s.heap.update a (Obj.mapSeq λ_=>(#[]:Array Value))).push (seqObj "tuple" items.toArray 0),toks:=s.toks }:=I1.kept (t':=s.toks) λb u e=>zB _ e;have K:=U.Apt (its:=[]) (ys:=[]) (t':=s.toks) .nil (AtR _);have B:=zB { cls:=.type "list", data:=.seq ([]:NW).toArray } (zB (seqObj "tuple" items.toArray 0) r);have m:=U.fresh;dsimp only at K B m ⊢;generalize O:((s.heap.update a (Obj.mapSeq λ_=>(#[]:Array Value))).push (seqObj "tuple" items.toArray 0)).objs.size=kS at K m ⊢;have Q:a≠kS:=by
  rw[<- O,size_push',Heap.size_update];exact AtU (AvG N)
 have I4:Inv X ((a,seqObj "list" #[] e1)::pins) σ (upd H kS (.lst (vI ((ns.map g).take 0)))) { s with heap:=((s.heap.update a (Obj.mapSeq λ_=>(#[]:Array Value))).push (seqObj "tuple" items.toArray 0)).push { cls:=.type "list", data:=.seq ([]:NW).toArray },toks:=s.toks } :=
  K.HR λp R=>by
   rcases yD.mp R with rfl | R
   ·exact⟨B,by rw[Aj Q];exact Y,aL,aF,λv z=>by cases z⟩
   ·exact K.pin p (Auo _ R)
 have L:∀ l,Aq H (upd H kS (.lst l)):=λl b o h=>by rw[Aj (λz=>by rw[z,m] at h;cases h)];exact h
 unfold ksk_rest;refine zA (wpAny_rule ?_)
 first
  | rw[List.forIn_toArray]
  | (rw[<- Array.forIn_toList];simp only [List.toList_toArray])
  | rw[<- Array.forIn_toList]
 refine zA (ksk_fold (λi s'=>Inv X ((a,seqObj "list" #[] e1)::pins) σ (upd H kS (.lst (vI ((ns.map g).take i)))) s') items 0 _ I4 ?step ?done)
 case step =>
  rintro j x s' hx J;simp only [Avs] at J ⊢;have hj:j<items.length:=(zC.mp hx).1;obtain⟨z,t,rfl,hz⟩:=hi.at j x hx;refine zA (wpAny_attempt (zT (D z t [(a,seqObj "list" #[] e1)] _ s' (AtN hz) (L _) J) (λu q he=>?_) λ_ _ hF=>hF.elim));obtain⟨⟨t',rfl⟩,J2⟩:=he
  try dsimp only
  obtain⟨_,its,n,P,C,F⟩:=J2.Adb (l:=kS) Ae;have a6:its.length<=ns.length:=by
   rw[<- C,Bh,AtX,AtG];exact Nat.min_le_right _ _
  refine zA (listUpdate_at F Z ?_ (by rw[Aub];omega) (AtW (AuE (Array.size_push ..)) (by rw[Aub];omega)));refine zE ⟨Z,?_⟩;have ek:(ns.map g).take (j+1)=(ns.map g).take j++[g z]:=by rw[AtV,AtQ,hz];rfl
  have T:=J2.AmA (its':=its++[.int (g z) t']) (ys:=vI ((ns.map g).take (j+1))) (f:=(·.push (.int (g z) t'))) (t':=q.toks) Ae F (by simp) (by
   rw[ek];unfold vI;rw[AtK];exact P.append (.cons ⟨t',Z⟩ .nil)) (by rw[Bh,AtX,AtG];have:=Nat.min_le_right (j+1) ns.length;omega)
  rw[HQ] at T;exact T
 case done =>
  rintro s' J;have e3:(ns.map g).take (0+items.length)=ns.map g:=Auf (by rw[AtG];omega);rw[e3] at J;obtain⟨_,its,n,P,C,F⟩:=J.Adb (l:=kS) Ae
  try dsimp only
  refine zA (listItems_at F Z ?_);exact Anp hi inc M (by simpa using intsAre_of P) J m W S aP k
end
section
variable {K:NF}
inductive AgG (K:NF)(P:Addr)(q:Str)(j:Nat)(σ:St)(Q:VK)(x:V)(H1:Hp):Prop
|mk(p:Addr)(lo:Int)(hi:Int)(n:Nat)(a:Addr)(ks:NA)(_:x=.ref p)(_:H1 p=some (AeD p lo hi 1))(_:Builtin.Range.small lo hi 1=true)(_:Builtin.Range.rangeSize lo hi 1=(n:Int))(_:n<64)(_:σ[j]?=some (some (.ref a)))(_:SqL K H1 a (vI ks))(_:0<=lo)(_:lo.toNat+n<=ks.length)(_:Tb P q H1)(_:∀ l H2 ns',Eo H1 H2->Tb P q H2->H1 l=none->H2 l=some (.lst (vI ns'))->ns'.Perm (Ia lo 1 n) ->
  ns'.Pairwise (λx y => -(ks.getD x.toNat 0) < -(ks.getD y.toNat 0)\/(-(ks.getD x.toNat 0) = -(ks.getD y.toNat 0)/\x<y))->Q (.ref l) H2)
def AkE (K:NF)(P:Addr)(q:Str)(j:Nat)(te:TE)(σ:St)(H:Hp)(Q:VK):Prop:=te σ H (AgG K P q j σ Q)
theorem AkF(lo:Int)(n:Nat):(Ia lo 1 n).Pairwise (·<·):=by unfold Ia;rw[AuI];exact List.pairwise_lt_range.imp λ{a b} h=>by omega
theorem Ja(lo:Int)(n:Nat):(Ia lo 1 n).length=n:=by unfold Ia;rw[AtG,AtO]
theorem AiK{lo:Int}(h:ItemsOf (λi v=>∃ t,v=.int (lo+i*1) t) acc n):IntsAre acc.toList (Ia lo 1 n):=by
 refine intsAre_of (SX _ _ (by rw[AtG,Ja,zK,h.1]) λi x u e1 e2=>?_);obtain⟨z,a,rfl⟩:=Ek e1;obtain⟨t',rfl⟩:=h.2 i u (by rw[<- zO];exact e2);have b:i<n:=by
  have:=(zC.mp e1).1
  rwa [AtG,Ja] at this
 unfold Ia at a;rw[AtQ,Au3 b] at a;cases a;exact⟨t',Z⟩
theorem AkG{env:Env}(a:scope.names=[(x,.local),(nm,.free)])(b:env.cells.lookup nm=some cc):closureFor scope env=pure [(nm,cc)]:=by
 have hc:cellOf env nm=pure cc:=by unfold cellOf;rw[b]
 unfold closureFor;rw[a];simp only [AuZ,List.forIn_nil,hc,pure_bind,show(NameKind.local == NameKind.free)=false from Z,show(NameKind.free == NameKind.free)=true from Z,if_true,if_false,Avx]
theorem Aar{P:Addr}{p1 kp b1 b2 b3 b4:Pos}
  (hg:Gl X "sorted") (hm:X.mg "sorted" = none) (he:PE X e te) (C:W.CodeHd X.base c P) (B:Bm X.mg X.base) (hr:Ez 2 X.A) (E:X.env.code=.ref c:=by rfl) (hq:X.env.qual ++ "<lambda>" = q:=by rfl)
  (hN:X.N[j]?=some nm:=by rfl) (a6:X.env.kindOf nm=some .cell:=by rfl) (d:scope.names=[(x,.local),(nm,.free)]:=by rfl) (S:x≠nm:=by decide) (L:scope.kind=.function:=by rfl) (am:scope.isCoroutine=false:=by rfl) (O:scope.isGenerator=false:=by rfl)
  (R:defaultsOf params X.env=([],[]):=by rfl)
  (M:∀(cc c':Addr)(pm F w:Value),bindArgs (W.kla_fn "<lambda>" q params (.UnaryOp .USub (.Subscript (.Name nm b1) (.Name x b2) b3) b4) scope [(nm,cc)] pm (.ref c') F) ⟨[w],[]⟩=pure [(x,w)]:=by intros;rfl)
  (ap:(x == ("__debug__" : Str))=false:=by decide) (b0:(x == ("__classdict__" : Str))=false:=by decide) (ac:(nm == ("__debug__" : Str))=false:=by decide) (ai:(nm == ("__classdict__" : Str))=false:=by decide)
  (hK:X.K=K:=by rfl) (hc:X.calm=true:=by rfl)
  (hs:backTo pos (starEach [e] X.env)=(false,eval e X.env)::backTo pos (starEach [] X.env):=by rfl)
  (o:(backTo pos (starEach [e] X.env)).any (·.1)=false:=by rfl) :
  PE X (.Call (.Name "sorted" p1) [e] [⟨some "key", .Lambda params (.UnaryOp .USub (.Subscript (.Name nm b1) (.Name x b2) b3) b4) scope Anm,kp⟩] pos) (AkE K P q j te):=by
 subst hK;intro pins s σ H Q I h;have hsz:sizeLine=16777216:=z8;refine wpAny_Call_Name_kw (Hr I hg hm VJ ?_ (by decide) (by decide));refine callWith_kw ?_ hs o Z rfl;rw[hs];refine Calls.spliced_cons (thn (he pins s σ H _ I h) λu s1 ⟨y,H1,I1,r1,q1⟩=>Calls.spliced_nil ?_);obtain⟨p,lo,hi,n,a,ks,rfl,hp,ak,hn,aq,aj,hS,h0,b9,tb,k⟩:=q1;cases r1;obtain⟨cc,T⟩:=I1.ok.has nm (.inl a6);refine kws_cons (AkB I1 tb E C B hq R (AkG d T) λf c' pm F H2 s2 t2 b7 ae ax r=>kws_nil ?_);show wpAny _ _ (call (.builtin "sorted") [.ref p] [(Str.ofString "key", .ref f)]) _ _ _;refine call_function_entry_kw kind_sorted plain_sorted entry_sorted (ksk_s1 _ _) ?_;unfold Builtin.«sorted»;refine zA (m:=checkCount "sorted" 1 1 _) (zE ?_);obtain⟨⟨t,u,v,b6⟩,_,_⟩:=r.hok p _ (t2.ext hp);refine zA (Afw (r.ok.hd hc) b6 ak hn (by omega) λh3 au acc as az av=>?_);have aa:=AiK av;have bb:acc.toList.length=n:=by rw[aa.length,Ja]
 refine zA (wpAny_newList ?_ (by omega));have I3:=r.kept (t':=au) (h':=h3.push { cls:=.type "list", data:=.seq acc.toList.toArray }) λb u e=>zB _ (as b u e);have ab:(h3.push { cls:=.type "list", data:=.seq acc.toList.toArray }).get? h3.objs.size=some (seqObj "list" acc.toList.toArray 0):=zD _ Z;have l:s2.heap.objs.size<=h3.objs.size:=az;have an:H2 h3.objs.size=none:=r.hok.fresh l;have aw:H1 h3.objs.size=none:=I1.hok.fresh (AtW ax l);refine zA (z9 (wpAny_call_entry_kw slot_list_sort ⟨_,ab,Z⟩ entry_list_sort ?body (ksk_l1 _ _)))
 case body =>
  show wpAny (model X.prog X.w) X.A.in1.in1 (Builtin.«list.sort» ⟨[.ref h3.objs.size],[(Str.ofString "key", .ref f)]⟩) _ _ _;rw[ksk_t1];refine AkD (g:=λz => -(ks.getD z.toNat 0)) I3 an ab (AtW r.sz l) (AuD (Aua r.lt l)) (r.AoM l) (λz c e=>?_) (λpp D=>?_) aa (AkF lo n) (by rw[Ja];exact aq)
   (λz t pl H' s' hz sm J=>?_) λH4 s4 af sm ha ay al ag I4=>⟨_,Z,?_⟩
  ·obtain⟨v,hv⟩:=r.cell z c e;exact AtU (Aua hv.lt l)
  ·exact AtU (Aua (Heap.lt_size (r.pin pp D).1) l)
  ·obtain⟨i,bd,ez⟩:∃ i:Nat,i<n/\z=lo+i:=by
    unfold Ia at hz;obtain⟨i,ao,bc⟩:=yC.mp hz;exact⟨i,yE.mp ao,by omega⟩
   have a0:z.toNat<ks.length:=by omega
   have ar:scope.names.lookup nm=some .free:=by rw[d,Auy,beq_false_of_ne (Ne.symm S)];simp
   have ah:scope.names.lookup x=some .local:=by rw[d];simp
   refine zT (AkC (y:=.int z) (v:=.ref a) (Q:=λv Y=>v=.int (-(ks.getD z.toNat 0))/\Y=H') J I.ok.frames (I.ok.hd hc) (by have:=hr.dp;show X.A.depth<_;omega)
    (Auo _ AtJ) (sm _ _ ae) hN aj a6 T d S L am O (M cc c' pm F) ⟨t,Z⟩
    (λenv s H U=>S5 Ld (Az (Aw (K:=X.K)) (Agf (i:=1) Z (.inr (.inr (by show env.scope.names.lookup nm=_;rw[U];exact ar))) ac ai) (Agf (i:=0) Z (.inl (by show env.scope.names.lookup x=_;rw[U];exact ah)) ap b0) (λ_ _=>rfl)))
    ⟨_,Z,_,Z,a,vI ks,z,.int (ks.getD z.toNat 0),Z,Z,sm.seq (t2.seq hS),?_,_,Z,Z,Z⟩) (λu ba ⟨v,Y,J2,rv,ev,eh⟩=>?_) λ_ _ z=>z
   ·refine Br (by omega) ?_;unfold vI;rw[AtQ,AtF a0,AtY,AtF a0];rfl
   ·subst ev eh;exact⟨rv,J2⟩
  ·refine zE ⟨_,Z,.ref h3.objs.size,H4,I4.HR λpp D=>I4.pin pp (Auo _ (AtL _ D)),Z,?_⟩;exact k _ H4 af (t2.trans sm.toT) (b7.same sm) aw ay al ag
end
theorem ApP{K:NF}{P:Addr}{i o1:Value}{e o2:Option Addr}{a d:Array (NY)}(hn:W.nsIn K mainGlobals x=some (some (.ref f)))
  (lk:K.lookup f=some ⟨i,e,.func fd,a⟩) (hc:fd.code=.ref c) (h:K.lookup c=some ⟨o1,o2,.fields vs,d⟩) (b:(vs[11]?:NY)=some (.ref P)):W.tabIn K x=some (c,P):=by
 unfold W.tabIn;rw[hn];simp only [lk,hc,h,b]
theorem Fun.okC{K:NF}{base:Heap}{qual:Str}{st:Stmt}{N ps:NX}{k:Nat}{sp:Sp}(F:Fun K x qual st f fd)(hc:fd.code=.ref c)(S:Am N ps (Ag st))
  (len:∀ vs H Q E,sp vs H Q E->vs.length=ps.length)
  (a:∀(A:Around)(outer:List Env)(s:Shared)(H:Hp)(vs:Na)(Q:VK)(E:XK),Ez k (A.deeper (envOfC qual (Ag st) s.heap.objs.size f (.ref c)))->sp vs H Q E ->
   ∃ t,PSs (Ago CX0 P w K mg base N qual (Ag st) f (.ref c) A outer s H E).nox (HY st) t/\t { nx:=λ_ H'=>Q .non H',rt:=Q } (start N vs) H):Bl P w K mg base CX0 (k+1) f fd ps sp:=by
 obtain⟨o,r,kV,m,p,u,b,n,l,rfl,lk,d⟩:=F.ex;have e:b=.ref c:=hc;subst e;refine Aom lk d S len λA outer s H vs Q E j i=>?_;obtain⟨t,h,q⟩:=a A outer s H vs Q E j i;exact⟨t,h.nox,q⟩
theorem AiL{K:NF}{k:Nat}{fa T:Addr}{sp:Sp}{vs:NW}
  (KX:K.In s₁.heap) (R:s₁.heap.Ns mainGlobals mg) (f:s₁.heap.Ns builtinsNs mb) (a0:∀ x:Str,x ≠ "__name__" -> mb x=bootBuiltins x) (Q:s₁.heap.NoLimit) (hg:s₁.gens=#[])
  (I:s₁.heap.get? a=some { cls:=.type "list", data:=.seq vs.toArray }) (hi:IntsAre vs ns) (hl:ns.length<=sizeLine) (hr:Ez k callerA)
  (hC:W.CodeHd s₁.heap c T) (J:s₁.heap.get? T=some (W.tabObj #[])) (ac:K.lookup T=none) (aa:Bm mg s₁.heap)
  (F:∀ base:Heap,K.In base->base.Ns mainGlobals mg->W.CodeHd base c T->Bm mg base->Bl P w K mg base CX k fa fd [x] sp) (E:∀(s:Shared)(u:Value),BindsTo s fd ⟨[u],[]⟩ [(x,u)])
  (ae:∀ H:Hp,SqL K H a (ns.map V.int)->Tb T q H->sp [.ref a] H (λv _=>v=.bl true) λ_ _ _=>False)
  (ab:∀ H e s',CX [] H s₁ (λ_ _ _=>False) e s'->False) :
  codeAny (model P w) callerA (.call (.ref fa) ⟨[.ref a],[]⟩) (λr s'=>r=.ok (.ret (.bool true))/\OldK s₁.heap s'.heap/\s'.os=s₁.os/\AllBare s'.gens) s₁:=by
 have rv:=JZ hi;have S:=hi.length;have aT:a≠T:=λe=>by rw[e,J] at I;cases I
 have B:∀ H:Hp,H T=some (.tbl #[])->(∀ b u,H b=some u->b=T\/(b=a/\∃ o xs,u=.frz o (.lst xs)))->SqL K H a (ns.map V.int)->HOk P w H s₁.heap->(H a≠none->K.lookup a=none) ->
   codeAny (model P w) callerA (.call (.ref fa) ⟨[.ref a],[]⟩) (λr s'=>r=.ok (.ret (.bool true))/\OldK s₁.heap s'.heap/\s'.os=s₁.os/\AllBare s'.gens) s₁:=by
  intro H X hA hS N hK;have Y:∀{b:Addr} {o:Obj},s₁.heap.get? b=some o->H b=none->(Rx s₁.heap H).get? b=some o:=λe n=>Ae2 e n;have C:∀{b:Addr} {o:Obj},s₁.heap.get? b=some o->o.cls≠.type "list" \/ (∃ es l,o.data=.dict es l)->o.cls≠.none\/(∃ es l,o.data=.dict es l)->H b=none:=λ{b o} e d d2=>by
   cases q:H b with
   | none=>rfl
   | some u =>
    exfalso;rcases hA b u q with A | ⟨A,_⟩
    ·rw[A,J] at e;cases e;rcases d2 with d2 | ⟨es,l,d2⟩
     ·exact d2 Z
     ·have d':Data.fields _=Data.dict es l:=d2;cases d'
    ·rw[A,I] at e;cases e;rcases d with d | ⟨es,l,d⟩
     ·exact d Z
     ·have d':Data.seq vs.toArray _=Data.dict es l:=d;cases d'
  have t:∀{b:Addr} {m:Str->NY},s₁.heap.Ns b m->(Rx s₁.heap H).Ns b m:=λ{b m} ⟨o,es,l,e,d,r⟩=>⟨o,es,l,Y e (C e (.inr ⟨es,l,d⟩) (.inr ⟨es,l,d⟩)),d,r⟩;have U:K.In (Rx s₁.heap H):=λb o e=>Y (KX b o e) (by
   cases q:H b with
   | none=>rfl
   | some u =>
    exfalso;rcases hA b u q with A | ⟨A,_⟩
    ·rw[A,ac] at e;cases e
    ·rw[A,hK (by rw[<- A,q];simp)] at e;cases e)
  have hM:Mod K mg (Rx s₁.heap H):=⟨U,t R,⟨mb,t f,a0⟩,let ⟨mc,h1,h2⟩:=Q;⟨mc,t h1,h2⟩⟩;have ah:W.CodeHd (Rx s₁.heap H) c T:=by
   obtain⟨o,af,M,tf,D,tg,ag,O,tt,e1,r1,r⟩:=hC;exact⟨o,af,M,tf,D,tg,ag,O,tt,Y e1 (C e1 (.inl (by rw[r1];decide)) (.inl (by rw[r1];intro z;cases z))),r1,r⟩
  have a6:Bm mg (Rx s₁.heap H):=by
   obtain⟨bm,ob,b1,b2,b3,b4,r⟩:=aa;exact⟨bm,ob,b1,b2,Y b3 (C b3 (.inl (by rw[b4];decide)) (.inl (by rw[b4];intro z;cases z))),b4,r⟩
  have e0:Ae6 P w K mg (Rx s₁.heap H) callerA [] s₁ H:=⟨Z,hM,λb o e=>Ahe e,AuE (AbP _ _),trivial,λb f=>absurd (show b∈([]:NU) from f) (by simp),N,.of_eq hg⟩;have tb:Tb T q H:=⟨#[],X,trivial,λpos cv e=>by cases e⟩;refine codeAny_mono ((F _ U (t R) ah a6).run callerA [] s₁ H ⟨[.ref a],[]⟩ [.ref a] [.ref a] _ _ hr e0 (E s₁ (.ref a)) (.cons Z .nil) (ae H hS tb)) λr s' h=>?_;cases r with
  | error e=>exact(ab H e s' h).elim
  | ok fl =>
   cases fl with
   | next=>exact False.elim h
   | brk=>exact False.elim h
   | cont=>exact False.elim h
   | ret u =>
    obtain⟨v,H',os,L,un,y,r',q'⟩:=h;have q2:v=.bl true:=q';subst q2;obtain rfl:u=Value.bool true:=r';refine⟨Z,⟨λb o e=>?_,λb o e=>un.there b o e (by simp)⟩,os,L⟩;cases q:H b with
    | none=>exact .inl (un.keep b o e q (by intro z;exact absurd (show b∈([]:NU) from z) (by simp)) (by simp))
    | some u =>
     rcases hA b u q with z | ⟨z,ob,xs,zu⟩
     ·subst z;obtain⟨more,e2⟩:=un.Nq b #[] X;have e3:s'.heap.get? b=some (W.tabObj (#[]++more)):=y b _ e2;rw[J] at e;cases e;exact .inr (.inl ⟨(hC.tab J).isCodeTable,Z,#[],more,Z,e3⟩)
     ·subst zu;have p:=un.JT b ob _ q;obtain⟨e1,_⟩:=N b _ q;obtain⟨e2,_⟩:=y b _ p;rw[e] at e1;cases e1;exact .inl e2
 cases hk:K.lookup a with
 | some o =>
  have e:=KX a o hk;rw[I] at e;cases e;refine B (λb=>if b=T then some (.tbl #[]) else none) (if_pos Z) (λb u z=>?_) (.inr ⟨_,vs.toArray,_,hk,Z,Z,Z,by rw[Aub,S];exact hl,by simpa using rv⟩) (λb u z=>?_) λz=>absurd (if_neg aT) z
  ·by_cases f:b=T
   ·exact .inl f
   ·have j:=(if_neg f).symm.trans z;cases j
  ·by_cases f:b=T
   ·have j:=(if_pos f).symm.trans z;cases j;rw[f];exact J
   ·have j:=(if_neg f).symm.trans z;cases j
 | none =>
  refine B (λb=>if b=T then some (.tbl #[]) else if b=a then some (.frz { cls:=.type "list", data:=.seq vs.toArray } (.lst (ns.map V.int))) else none) (if_pos Z) (λb u z=>?_)
   (.inl (.inr ⟨{ cls:=.type "list", data:=.seq vs.toArray },(if_neg aT).trans (if_pos Z)⟩)) (λb u z=>?_) λ_=>hk
  ·by_cases f:b=T
   ·exact .inl f
   ·have j:=(if_neg f).symm.trans z;by_cases i:b=a
    ·have p:=(if_pos i).symm.trans j;exact .inr ⟨i,_,_,(Option.some.inj p).symm⟩
    ·have p:=(if_neg i).symm.trans j;cases p
  ·by_cases f:b=T
   ·have j:=(if_pos f).symm.trans z;cases j;rw[f];exact J
   ·have j:=(if_neg f).symm.trans z;by_cases i:b=a
    ·have p:=(if_pos i).symm.trans j;cases p;rw[i];exact⟨I,by rw[AtG];exact hl,vs,_,rv,I⟩
    ·have p:=(if_neg i).symm.trans j;cases p
theorem AkH{l:W.OpenLaw}{k:Nat}{q:Program}{loose:NX}{XP:(Str->NY)->Heap->Prop}{YP:World->Heap->Prop}{d d':DefRec}{K:Params->NF}{sp:NF->Addr->Sp}{y qn:Str}
  (hn:l.most=some n) (D:n<=sizeLine) (I:d.params.defaults=[]) (N:Ez k callerA)
  (P:∀(w:World)(h:Heap),YP w h->(K w.params).In h) (m:(recsOf q).find? (λe=>e.name == y)=some d')
  (F:∀(w:World)(mg:Str->NY)(t:Addr)(h:Heap),(K w.params).In h->h.Ns mainGlobals mg->mg d.name=some (.ref t) ->
   ∃(fd:FuncData)(c T:Addr),(∀(s:Shared)(u:Value),BindsTo s fd ⟨[u],[]⟩ [(x,u)])/\W.tabIn (K w.params) y=some (c,T)/\W.noTabs (K w.params)=true /\
    ∀ base:Heap,(K w.params).In base->base.Ns mainGlobals mg->W.CodeHd base c T->Bm mg base->Bl l.prog w (K w.params) mg base CX k t fd [x] (sp (K w.params) T))
  (B:∀(K:NF)(T:Addr)(H:Hp)(a:Addr)(ns:NA),ns.length<=n->SqL K H a (ns.map V.int)->Tb T qn H->sp K T [.ref a] H (λv _=>v=.bl true) λ_ _ _=>False)
  (A:∀(H:Hp)(s:Shared)(e:Value)(s':Shared),CX [] H s (λ_ _ _=>False) e s'->False) :
  W.WalkO q loose XP YP l.row.toRowW d [] (λf vs=>PySem.call f vs):=by
 refine Att.Xb hn I λw L s₁ mg mb t o pm cd a0 a vs ns G Y ho hd Q C p j i O=>?_;have z:=P w _ Y;obtain⟨fd,c,T,M,S,E,U⟩:=F w mg t _ z G.T.g C;obtain⟨X,r⟩:=W.tab_of G.T z m S;have J:(K w.params).lookup T=none:=by
  cases e:(K w.params).lookup T with
  | none=>rfl
  | some o =>
   exfalso;have h1:=z T o e;rw[r] at h1;cases h1;have h2:=List.all_eq_true.mp E (T,W.tabObj #[]) (W.mem_of_lookupK e);exact absurd (show false=true from h2) Aud
 exact AiL z G.T.g G.T.b G.T.builtins G.T.nolimit O p j (AtW i D) N X r J G.T.bmain U M (λH R tb=>B _ T H a ns i R tb) λH e s'=>A H s₁ e s'
theorem AkI{K:NF}{ys:Na}{g:TG}{tb:TS}{D:Ends}(hn:n=min xs.length ys.length)(Pv:Nat->St->Hp->Prop)(j:Pv 0 σ H)(c:∀ i σ H,Pv i σ H->SqL K H a xs/\SqL K H b ys)
  (o:∀ i x y σ H T,xs[i]?=some x->ys[i]?=some y->Pv i σ H->H T=none->g (.ref T) σ (upd H T (.tup [x,y])) λd H2=>tb { D with nx:=Pv (i+1),ct:=Pv (i+1),bk:=D.nx } d H2) (r:∀ σ H,Pv n σ H->D.nx σ H) :
  ∃ W:Nat->Nat->St->Hp->Prop,(∃ m,W 0 m σ H)/\∀ i m σ H,W i m σ H ->
   ((Aac K (.l a) (.l b)).stop i H/\D.nx σ H)\/((Aac K (.l a) (.l b)).go i H/\∃ N:St->Hp->Prop,(∀ σ' H',N σ' H'->∃ f,f<m/\W (i+1) f σ' H')/\∀ x H',(Aac K (.l a) (.l b)).yld i H x H'->g x σ H' λd H2=>tb { D with nx:=N,ct:=N,bk:=D.nx } d H2):=by
 have e:∀{i} {zs:Na},i<zs.length->zs[i]?=some (zs.getD i .non):=λh=>by simp[List.getD,h]
 refine AeX (n:=n) (λi=>xs.getD i .non) (λi=>ys.getD i .non) Pv j (λi σ H hi p=>⟨xs,(c i σ H p).1,e (by omega)⟩) (λi σ H hi p=>⟨ys,(c i σ H p).2,e (by omega)⟩) (λσ H p=>⟨⟨_,(c n σ H p).1⟩,⟨_,(c n σ H p).2⟩,?_⟩) (λi σ H T hi p q=>o i _ _ σ H T (e (by omega)) (e (by omega)) p q) r;by_cases h:xs.length<=ys.length
 ·exact .inl ⟨_,(c n σ H p).1,by omega⟩
 ·exact .inr ⟨⟨_,_,(c n σ H p).1,e (by omega)⟩,_,(c n σ H p).2,by omega⟩
end L2
namespace Mine
open PySem L2
variable {fd:FuncData}{ps:List (Nat × Option Nat)}{a q l r f y C dx kp tc tT:Addr}{c n i p j m D v N e s:Nat}{b u sg z eo po dp ws:NI}{P:Program}{w:World}{mg:Str->NY}{t:Adr}{H H':Hp}{o:HO}{ks ss th tr es ns n1 dA dB:NA}{rs qs as:NU}{sss tss:NV}{zs:List (Nat × Nat)}{x cl ys:NN}{CX:CXT}{Q:VK}{E:XK}{B:Fm->Prop}{kn:Kns}{α:Type}{xs:Na}
def top (i:Nat):Stmt:=PySem.Challenge.pw_heddle_k63_whole_layers_asked.main.body.getD i (.Pass ⟨0,0,0,0⟩)
abbrev Aas:Stmt:=top 16
theorem Afy:Am ["cloth"] ["cloth"] (Ag Aas):=sc9
abbrev Tv:Stmt:=top 18
theorem JL:Am ["cloth", "size"] ["cloth"] (Ag Tv):=sc9
abbrev Kh:Stmt:=top 19
theorem Gk:Am ["texts", "least", "signs", "ends", "text"] ["texts", "least", "signs"] (Ag Kh):=sc9
abbrev Tw:Stmt:=top 20
theorem Q8:Am ["text", "ends", "signs", "sign"] ["text", "ends", "signs"] (Ag Tw):=sc9
abbrev Oo:Stmt:=top 21
theorem YM:Am ["number", "count"] ["number", "count"] (Ag Oo):=sc9
abbrev Xe:Stmt:=top 22
theorem Tz:Am ["cloth", "end"] ["cloth", "end"] (Ag Xe):=sc9
abbrev Oq:Stmt:=top 23
theorem Mt:Am ["signs"] ["signs"] (Ag Oq):=sc9
abbrev Ah7:Stmt:=top 27
theorem Afz:Am ["draft"] ["draft"] (Ag Ah7):=sc9
abbrev Mu:Stmt:=top 29
theorem G8:Am ["threading", "ties", "shaft", "tie"] ["threading", "ties"] (Ag Mu):=sc9
abbrev Hh:Stmt:=top 30
theorem Nv:Am ["count"] ["count"] (Ag Hh):=sc9
abbrev Q9:Stmt:=top 32
theorem Aat:Am ["shaft"] ["shaft"] (Ag Q9):=sc9
abbrev Xf:Stmt:=top 33
theorem T3:Am ["tie", "k"] ["tie"] (Ag Xf):=sc9
abbrev Kl:Stmt:=top 34
theorem J0:Am ["treading", "treadles", "treadle"] ["treading", "treadles"] (Ag Kl):=sc9
abbrev Xg:Stmt:=top 35
theorem T4:Am ["threading", "lifted"] ["threading", "lifted"] (Ag Xg):=sc9
abbrev Ack:Stmt:=top 42
theorem Aau:Am ["text"] ["text"] (Ag Ack):=sc9
abbrev Xh:Stmt:=top 46
theorem Ady:Am ["figures"] ["figures"] (Ag Xh):=sc9
abbrev Aav:Stmt:=top 52
theorem Xi:Am ["text", "row_items"] ["text"] (Ag Aav):=sc9
abbrev T5:Stmt:=top 54
theorem QB:Am ["row_items"] ["row_items"] (Ag T5):=sc9
abbrev QC:Stmt:=top 55
theorem Jb:Am ["row_items", "written", "item"] ["row_items"] (Ag QC):=sc9
abbrev Mv:Stmt:=top 56
theorem Wn:Am ["start", "stop"] ["start", "stop"] (Ag Mv):=sc9
abbrev Aaw:Stmt:=top 57
theorem Gf:Am ["text", "reader", "row_items"] ["text"] (Ag Aaw):=sc9
abbrev T7:Stmt:=top 58
theorem QD:Am ["reader", "depth", "row_items"] ["reader", "depth"] (Ag T7):=sc9
abbrev Xj:Stmt:=top 59
theorem T9:Am ["reader", "depth", "first"] ["reader", "depth"] (Ag Xj):=sc9
abbrev Xk:Stmt:=top 61
theorem TF:Am ["reader", "first", "stops"] ["reader", "first"] (Ag Xk):=sc9
abbrev Jc:Stmt:=top 62
theorem HJ:Am ["reader", "number"] ["reader"] (Ag Jc):=sc9
abbrev TJ:Stmt:=top 71
theorem FN:Am ["text", "parts", "threading", "ties"] ["text"] (Ag TJ):=sc9
abbrev Xl:Stmt:=top 80
theorem Gm:Am ["cloth", "size", "of_ends"] ["cloth"] (Ag Xl):=sc9
abbrev Acl:Stmt:=top 82
theorem El:Am ["cloth", "size", "scores", "end_scores", "pick_scores", "tops", "ends", "picks", "crossings"] ["cloth"] (Ag Acl):=sc9
abbrev Xm:Stmt:=top 83
theorem Dp:Am ["cloth", "size", "scores", "ends", "picks", "tops", "layers", "upper", "lower"] ["cloth"] (Ag Xm):=sc9
abbrev Hv:Stmt:=top 86
theorem Ce:Am ["pieces", "ends", "picks", "number", "piece", "end_places", "pick_places", "cloth", "owner", "place", "own", "signs"] ["pieces", "ends", "picks"] (Ag Hv):=sc9
abbrev Ot:Stmt:=top 87
theorem Mw:Am ["owners", "pieces", "owner"] ["owners", "pieces"] (Ag Ot):=sc9
abbrev QF:Stmt:=top 88
theorem Jd:Am ["piece", "ends", "picks", "text", "sign"] ["piece", "ends", "picks"] (Ag QF):=sc9
abbrev Mx:Stmt:=top 89
theorem Km:Am ["owners"] ["owners"] (Ag Mx):=sc9
abbrev Acm:Stmt:=top 90
theorem AgH:Am ["pick_owner", "own", "end_owner", "place"] ["pick_owner", "own", "end_owner", "place"] (Ag Acm):=sc9
abbrev TQ:Stmt:=top 106
theorem Abz:Am ["ends", "picks"] ["ends", "picks"] (Ag TQ):=sc9
abbrev Ko:Stmt:=top 107
theorem TV:Am ["one", "other"] ["one", "other"] (Ag Ko):=sc9
abbrev Acn:Stmt:=top 109
theorem AgI:Am ["word", "things"] ["word", "things"] (Ag Acn):=sc9
abbrev Ou:Stmt:=top 114
theorem YQ:Am ["text", "known"] ["text", "known"] (Ag Ou):=sc9
abbrev TX:Stmt:=top 115
theorem JM:Am ["text", "reader", "node"] ["text"] (Ag TX):=sc9
abbrev Xn:Stmt:=top 116
theorem Lw:Am ["reader", "depth", "word", "things"] ["reader", "depth"] (Ag Xn):=sc9
abbrev QG:Stmt:=top 117
theorem Je:Am ["reader", "word", "depth", "things", "kind"] ["reader", "word", "depth"] (Ag QG):=sc9
abbrev Xo:Stmt:=top 118
theorem TY:Am ["reader", "runs"] ["reader"] (Ag Xo):=sc9
abbrev Aax:Stmt:=top 119
theorem Xp:Am ["reader", "run"] ["reader"] (Ag Aax):=sc9
abbrev Ua:Stmt:=top 122
theorem Ab0:Am ["reader"] ["reader"] (Ag Ua):=sc9
abbrev Ub:Stmt:=top 123
theorem JN:Am ["node", "known", "things"] ["node", "known"] (Ag Ub):=sc9
abbrev QH:Stmt:=top 124
theorem Jf:Am ["name", "known", "one", "cloth"] ["name", "known"] (Ag QH):=sc9
abbrev QJ:Stmt:=top 125
theorem Aay:Am ["word", "inner"] ["word", "inner"] (Ag QJ):=sc9
abbrev QK:Stmt:=top 126
theorem Aaz:Am ["word", "one", "other"] ["word", "one", "other"] (Ag QK):=sc9
abbrev Xq:Stmt:=top 129
theorem Ih:Am ["text", "pairs", "line", "stripped"] ["text"] (Ag Xq):=sc9
abbrev Xr:Stmt:=top 130
theorem Gn:Am ["line", "known", "place", "name", "rest"] ["line", "known"] (Ag Xr):=sc9
abbrev My:Stmt:=top 131
theorem G9:Am ["line", "place", "sign"] ["line"] (Ag My):=sc9
abbrev Xu:Stmt:=top 133
theorem Uc:Am ["strands", "count", "k"] ["strands", "count"] (Ag Xu):=sc9
abbrev Mz:Stmt:=top 134
theorem Dc:Am ["texts", "ends", "lower", "end", "text"] ["texts"] (Ag Mz):=sc9
abbrev Ov:Stmt:=top 135
theorem Ep:Am ["lower", "strands", "narrowed", "strand"] ["lower", "strands"] (Ag Ov):=sc9
abbrev Xv:Stmt:=top 136
theorem Em:Am ["lower", "start", "ahead", "found", "place", "one", "other"] ["lower", "start"] (Ag Xv):=sc9
abbrev Af0:Stmt:=top 137
theorem Aco:Am ["ahead", "goal", "way"] ["ahead", "goal"] (Ag Af0):=sc9
abbrev Ud:Stmt:=top 138
theorem GZ:Am ["lower", "strands", "start", "ahead"] ["lower", "strands"] (Ag Ud):=sc9
abbrev Xw:Stmt:=top 174
theorem Ii:Am ["cloth", "strands", "lower", "way", "strand"] ["cloth", "strands"] (Ag Xw):=sc9
abbrev Ue:Stmt:=top 175
theorem QL:Am ["cloth", "strands", "size"] ["cloth", "strands"] (Ag Ue):=sc9
abbrev Ug:Stmt:=top 179
theorem Ew:Am ["paper", "lines", "book"] ["paper"] (Ag Ug):=sc9
abbrev Aa0:Stmt:=top 180
theorem Xx:Am ["text"] ["text"] (Ag Aa0):=sc9
abbrev Xy:Stmt:=top 181
theorem Adz:Am ["words", "book", "e"] ["words", "book"] (Ag Xy):=sc9
abbrev Aa1:Stmt:=top 182
theorem Xz:Am ["words", "book", "word"] ["words", "book"] (Ag Aa1):=sc9
abbrev X3:Stmt:=top 183
theorem Ij:Am ["word", "things", "book", "cloth", "layers"] ["word", "things", "book"] (Ag X3):=sc9
abbrev Jg:Stmt:=top 187
theorem Q0:Am ["fits"] ["fits"] (Ag Jg):=sc9
abbrev Uh:Stmt:=top 189
theorem Ab1:Am ["word"] ["word"] (Ag Uh):=sc9
abbrev X4:Stmt:=top 193
theorem Ad0:Am ["found"] ["found"] (Ag X4):=sc9
abbrev Af1:Stmt:=top 194
theorem AiM:Am ["script", "k"] ["script", "k"] (Ag Af1):=sc9
abbrev Ui:Stmt:=top 195
theorem Hc:Am ["script", "many", "number", "cell"] ["script", "many"] (Ag Ui):=sc9
abbrev Aa2:Stmt:=top 196
theorem Fg:Am ["number", "ends", "picks", "rows", "j", "signs", "k"] ["number", "ends", "picks"] (Ag Aa2):=sc9
abbrev Ly:Stmt:=top 197
theorem Hi:Am ["rows", "by_draft", "parts"] ["rows", "by_draft"] (Ag Ly):=sc9
abbrev X5:Stmt:=top 198
theorem Ad1:Am ["sign"] ["sign"] (Ag X5):=sc9
abbrev J1:Stmt:=top 199
theorem Dg:Am ["one", "two", "turned", "names", "rows", "j"] ["one", "two", "turned"] (Ag J1):=sc9
abbrev Aa3:Stmt:=top 200
theorem X6:Am ["rows", "one", "other", "ends"] ["rows", "one", "other"] (Ag Aa3):=sc9
abbrev Aa4:Stmt:=top 201
theorem Gg:Am ["found", "strands", "seen", "layer", "before", "strand"] ["found", "strands"] (Ag Aa4):=sc9
abbrev X7:Stmt:=top 202
theorem Ik:Am ["rows", "found", "layer", "k"] ["rows", "found", "layer"] (Ag X7):=sc9
abbrev X8:Stmt:=top 203
theorem Fl:Am ["rows", "layers", "ends", "k", "later", "lower"] ["rows", "layers"] (Ag X8):=sc9
abbrev XC:Stmt:=top 204
theorem Uj:Am ["rows", "woven_one", "told", "k"] ["rows", "woven_one", "told"] (Ag XC):=sc9
abbrev Aox:Stmt:=top 205
theorem GC:Am ["script", "sizes", "one", "two", "text", "three", "lines", "name", "found", "k", "rows"] ["script"] (Ag Aox):=sc9
abbrev Kp:Stmt:=(Dv (top 26)).getD 0 (.Pass ⟨0,0,0,0⟩)
theorem J4:Am ["self", "threading", "ties", "treading"] ["self", "threading", "ties", "treading"] (Ag Kp):=sc9
abbrev J5:Stmt:=(Dv (top 45)).getD 0 (.Pass ⟨0,0,0,0⟩)
theorem RK:Am ["self", "text"] ["self", "text"] (Ag J5):=sc9
abbrev Ow:Stmt:=(Dv (top 45)).getD 1 (.Pass ⟨0,0,0,0⟩)
theorem YS:Am ["self"] ["self"] (Ag Ow):=sc9
abbrev QM:Stmt:=(Dv (top 45)).getD 2 (.Pass ⟨0,0,0,0⟩)
theorem Ox:Am ["self", "wanted", "behind"] ["self", "wanted"] (Ag QM):=sc9
abbrev Kq:Stmt:=(Dv (top 45)).getD 3 (.Pass ⟨0,0,0,0⟩)
theorem J6:Am ["self", "signs", "begin"] ["self", "signs"] (Ag Kq):=sc9
abbrev M3:Stmt:=(Dv (top 45)).getD 4 (.Pass ⟨0,0,0,0⟩)
theorem Wo:Am ["self"] ["self"] (Ag M3):=sc9
abbrev M4:Stmt:=(Dv (top 50)).getD 0 (.Pass ⟨0,0,0,0⟩)
theorem Wq:Am ["self", "stops"] ["self", "stops"] (Ag M4):=sc9
abbrev XD:Stmt:=(Dv (top 50)).getD 1 (.Pass ⟨0,0,0,0⟩)
theorem Il:Am ["self", "total", "k"] ["self"] (Ag XD):=sc9
abbrev Oz:Stmt:=(Dv (top 50)).getD 2 (.Pass ⟨0,0,0,0⟩)
theorem Hw:Am ["self", "written", "stop"] ["self"] (Ag Oz):=sc9
abbrev Kr:Stmt:=(Dv (top 92)).getD 0 (.Pass ⟨0,0,0,0⟩)
theorem Uk:Am ["self", "texts", "writing"] ["self", "texts", "writing"] (Ag Kr):=sc9
abbrev Ul:Stmt:=(Dv (top 92)).getD 1 (.Pass ⟨0,0,0,0⟩)
theorem Ab2:Am ["self"] ["self"] (Ag Ul):=sc9
abbrev Um:Stmt:=(Dv (top 92)).getD 2 (.Pass ⟨0,0,0,0⟩)
theorem Ab3:Am ["self"] ["self"] (Ag Um):=sc9
abbrev QQ:Stmt:=(Dv (top 92)).getD 4 (.Pass ⟨0,0,0,0⟩)
theorem Aa5:Am ["self"] ["self"] (Ag QQ):=sc9
abbrev Uo:Stmt:=(Dv (top 92)).getD 5 (.Pass ⟨0,0,0,0⟩)
theorem Ab4:Am ["self"] ["self"] (Ag Uo):=sc9
abbrev Ks:Stmt:=(Dv (top 93)).getD 0 (.Pass ⟨0,0,0,0⟩)
theorem Uq:Am ["self", "name", "known_cloth"] ["self", "name", "known_cloth"] (Ag Ks):=sc9
abbrev M5:Stmt:=(Dv (top 94)).getD 0 (.Pass ⟨0,0,0,0⟩)
theorem Ku:Am ["self", "runs"] ["self", "runs"] (Ag M5):=sc9
abbrev Jh:Stmt:=(Dv (top 102)).getD 0 (.Pass ⟨0,0,0,0⟩)
theorem Q3:Am ["self", "inner"] ["self", "inner"] (Ag Jh):=sc9
abbrev O1:Stmt:=(Dv (top 105)).getD 0 (.Pass ⟨0,0,0,0⟩)
theorem M6:Am ["self", "upper", "lower", "texts"] ["self", "upper", "lower"] (Ag O1):=sc9
set_option genInjectivity false in
structure Adr where
 {Fo:Addr}
 {By:Addr}
 {GD:Addr}
 {Fd:Addr}
 {Fp:Addr}
 {GF:Addr}
 {Dy:Addr}
 {Kv:Addr}
 {Ur:Addr}
 {Ad2:Addr}
 {Gp:Addr}
 {GJ:Addr}
 {Kw:FuncData}
 {Gq:Addr}
 {J7:FuncData}
 {O2:Addr}
 {O3:FuncData}
 {QR:Addr}
 {QS:FuncData}
 {Ky:Addr}
 {Kz:FuncData}
 {Hx:Addr}
 {Hy:FuncData}
 {Hz:Addr}
 {M7:FuncData}
 {XF:Addr}
 {XH:FuncData}
 {O4:Addr}
 {O5:FuncData}
 {Fq:Addr}
 {K1:FuncData}
 {DK:Addr}
 {Us:FuncData}
 {DN:Addr}
 {Ut:FuncData}
 {Dq:Addr}
 {QT:FuncData}
 {DP:Addr}
 {Uu:FuncData}
 {GK:Addr}
 {K3:FuncData}
 {HB:Addr}
 {M8:FuncData}
 {FZ:Addr}
 {Ji:FuncData}
 {Jj:Addr}
 {O6:FuncData}
 {Aa6:Addr}
 {Aa7:FuncData}
 {Uv:Addr}
 {Uw:FuncData}
 {K4:Addr}
 {K6:FuncData}
 {Ux:Addr}
 {Uy:FuncData}
 {O7:Addr}
 {O8:FuncData}
 {XJ:Addr}
 {XM:FuncData}
 {O9:Addr}
 {OD:FuncData}
 {Ah8:Addr}
 {Ah9:FuncData}
 {M9:Addr}
 {MF:FuncData}
 {Hj:Addr}
 {Hk:FuncData}
 {QV:Addr}
 {QW:FuncData}
 {XN:Addr}
 {XQ:FuncData}
 {K7:Addr}
 {K9:FuncData}
 {XR:Addr}
 {XS:FuncData}
 {Acp:Addr}
 {Acq:FuncData}
 {XX:Addr}
 {Yb:FuncData}
 {RL:Addr}
 {RM:FuncData}
 {Uz:Addr}
 {U0:FuncData}
 {QX:Addr}
 {QZ:FuncData}
 {MJ:Addr}
 {MK:FuncData}
 {Lz:Addr}
 {LC:FuncData}
 {U3:Addr}
 {U4:FuncData}
 {Yc:Addr}
 {Yd:FuncData}
 {Ye:Addr}
 {Yg:FuncData}
 {Jk:Addr}
 {Jl:FuncData}
 {U5:Addr}
 {U6:FuncData}
 {Yh:Addr}
 {Yi:FuncData}
 {Acr:Addr}
 {Acs:FuncData}
 {OJ:Addr}
 {DQ:FuncData}
 {MN:Addr}
 {MP:FuncData}
 {Pa:Addr}
 {Pb:FuncData}
 {Ra:Addr}
 {Rb:FuncData}
 {MT:Addr}
 {Nb:FuncData}
 {Acu:Addr}
 {Acv:FuncData}
 {U7:Addr}
 {U8:FuncData}
 {KC:Addr}
 {KD:FuncData}
 {Acw:Addr}
 {Acx:FuncData}
 {Pg:Addr}
 {Ph:FuncData}
 {U9:Addr}
 {UG:FuncData}
 {Hl:Addr}
 {Hm:FuncData}
 {JP:Addr}
 {JQ:FuncData}
 {Yj:Addr}
 {Yk:FuncData}
 {Aa8:Addr}
 {Aa9:FuncData}
 {UJ:Addr}
 {UL:FuncData}
 {Gr:Addr}
 {Gs:FuncData}
 {Rc:Addr}
 {Rg:FuncData}
 {Rh:Addr}
 {Ri:FuncData}
 {Rj:Addr}
 {Rk:FuncData}
 {Yl:Addr}
 {Ym:FuncData}
 {Yn:Addr}
 {Yo:FuncData}
 {Nf:Addr}
 {Ng:FuncData}
 {Yp:Addr}
 {Yq:FuncData}
 {Nh:Addr}
 {Ni:FuncData}
 {Pj:Addr}
 {Pk:FuncData}
 {Yr:Addr}
 {Ys:FuncData}
 {Af2:Addr}
 {Af3:FuncData}
 {UT:Addr}
 {UW:FuncData}
 {Yt:Addr}
 {Yu:FuncData}
 {Va:Addr}
 {Vb:FuncData}
 {LK:Addr}
 {LQ:FuncData}
 {AaA:Addr}
 {AaB:FuncData}
 {Yv:Addr}
 {Yw:FuncData}
 {AaC:Addr}
 {AaD:FuncData}
 {Yx:Addr}
 {Yy:FuncData}
 {Jm:Addr}
 {Jo:FuncData}
 {Vc:Addr}
 {Vd:FuncData}
 {Yz:Addr}
 {Y0:FuncData}
 {AaE:Addr}
 {AaF:FuncData}
 {LR:Addr}
 {Ma:FuncData}
 {RN:Addr}
 {RP:FuncData}
 {RQ:Addr}
 {RT:FuncData}
 {Y4:Addr}
 {Y5:FuncData}
 {Pn:Addr}
 {Pq:FuncData}
 {AaG:Addr}
 {AaH:FuncData}
 {AaI:Addr}
 {AaJ:FuncData}
 {Y6:Addr}
 {Y7:FuncData}
 {Y8:Addr}
 {Y9:FuncData}
 {Pr:Addr}
 {Pu:FuncData}
 {Aoy:Addr}
 {AkJ:FuncData}
 {Im:Addr}
structure Txt (K:NF)(mg:Str->NY)(t:Adr):Prop where
 measured:Df K mg "measured" Aas ["cloth"] t.Aa6 t.Aa7
 AaK:Df K mg "quarter_of" Tv ["cloth"] t.Uv t.Uw
 Px:Df K mg "measured_texts" Kh ["texts", "least", "signs"] t.K4 t.K6
 AaL:Df K mg "check_pick" Tw ["text", "ends", "signs"] t.Ux t.Uy
 Ve:Df K mg "check_strand" Oo ["number", "count"] t.O7 t.O8
 Wt:Df K mg "end_signs" Xe ["cloth", "end"] t.XJ t.XM
 Vf:Df K mg "turned_signs" Oq ["signs"] t.O9 t.OD
 Aoz:Df K mg "woven" Ah7 ["draft"] t.Ah8 t.Ah9
 Rm:Df K mg "check_setting" Mu ["threading", "ties"] t.M9 t.MF
 BP:DfA K mg "check_count_drafts" "check_count" Hh ["count"] t.Hj t.Hk
 Py:Df K mg "check_shaft" Q9 ["shaft"] t.QV t.QW
 Acy:Df K mg "check_tie" Xf ["tie"] t.XN t.XQ
 P0:Df K mg "check_treading" Kl ["treading", "treadles"] t.K7 t.K9
 Acz:Df K mg "shed_over" Xg ["threading", "lifted"] t.XR t.XS
 Qu:Df K mg "is_name" Ack ["text"] t.Acp t.Acq
 Ac0:Df K mg "number_of" Xh ["figures"] t.XX t.Yb
 Vg:Df K mg "unfolded" Aav ["text"] t.RL t.RM
 AaM:Df K mg "whole_size" T5 ["row_items"] t.Uz t.U0
 YB:Df K mg "all_numbers" QC ["row_items"] t.QX t.QZ
 Ro:Df K mg "steps_between" Mv ["start", "stop"] t.MJ t.MK
 AaN:Df K mg "read_row" Aaw ["text"] t.Lz t.LC
 RW:Df K mg "read_items" T7 ["reader", "depth"] t.U3 t.U4
 Wu:Df K mg "read_item" Xj ["reader", "depth"] t.Yc t.Yd
 Ac1:Df K mg "read_path" Xk ["reader", "first"] t.Ye t.Yg
 Dd:DfA K mg "read_number_rows" "read_number" Jc ["reader"] t.Jk t.Jl
 AaO:Df K mg "read_draft" TJ ["text"] t.U5 t.U6
 Wv:Df K mg "scores_of" Xl ["cloth"] t.Yh t.Yi
 AhA:Df K mg "tops_of" Acl ["cloth"] t.Acr t.Acs
 Ww:Df K mg "layers_of" Xm ["cloth"] t.OJ t.DQ
 Rp:Df K mg "laid_together" Hv ["pieces", "ends", "picks"] t.MN t.MP
 Mg:Df K mg "check_owners" Ot ["owners", "pieces"] t.Pa t.Pb
 YD:Df K mg "check_piece" QF ["piece", "ends", "picks"] t.Ra t.Rb
 JR:Df K mg "places_within" Mx ["owners"] t.MT t.Nb
 AhB:Df K mg "sign_at" Acm ["pick_owner", "own", "end_owner", "place"] t.Acu t.Acv
 RX:Df K mg "check_size" TQ ["ends", "picks"] t.U7 t.U8
 PB:Df K mg "check_one_size" Ko ["one", "other"] t.KC t.KD
 written:Df K mg "written" Acn ["word", "things"] t.Acw t.Acx
 Vh:Df K mg "read_pattern" Ou ["text", "known"] t.Pg t.Ph
 AaP:Df K mg "read_whole" TX ["text"] t.U9 t.UG
 KH:Df K mg "read_node" Xn ["reader", "depth"] t.Hl t.Hm
 J8:Df K mg "read_things" QG ["reader", "word", "depth"] t.JP t.JQ
 Qv:Df K mg "read_runs" Xo ["reader"] t.Yj t.Yk
 AaQ:Df K mg "read_run" Aax ["reader"] t.Aa8 t.Aa9
 Mh:Df K mg "read_comma" Ua ["reader"] t.UJ t.UL
 Jp:Df K mg "worked_out" Ub ["node", "known"] t.Gr t.Gs
 Hn:Df K mg "known_cloth" QH ["name", "known"] t.Rc t.Rg
 J9:Df K mg "made_of_one" QJ ["word", "inner"] t.Rh t.Ri
 JB:Df K mg "made_of_two" QK ["word", "one", "other"] t.Rj t.Rk
 Ac2:Df K mg "read_book" Xq ["text"] t.Yl t.Ym
 Ac3:Df K mg "read_line" Xr ["line", "known"] t.Yn t.Yo
 Rq:Df K mg "parting_place" My ["line"] t.Nf t.Ng
 Ac4:Df K mg "check_set" Xu ["strands", "count"] t.Yp t.Yq
 Rr:Df K mg "lower_strands" Mz ["texts"] t.Nh t.Ni
 Vi:Df K mg "lower_within" Ov ["lower", "strands"] t.Pj t.Pk
 Qw:Df K mg "ways_from" Xv ["lower", "start"] t.Yr t.Ys
 AgJ:Df K mg "way_to" Af0 ["ahead", "goal"] t.Af2 t.Af3
 AaR:Df K mg "upper_part" Ud ["lower", "strands"] t.UT t.UW
 Ac5:Df K mg "round_way" Xw ["cloth", "strands"] t.Yt t.Yu
 AaS:Df K mg "web_of_set" Ue ["cloth", "strands"] t.Va t.Vb
 AaT:Df K mg "answers_to" Ug ["paper"] t.LK t.LQ
 words_of:Df K mg "words_of" Aa0 ["text"] t.AaA t.AaB
 Ac6:Df K mg "answer_to" Xy ["words", "book"] t.Yv t.Yw
 answered:Df K mg "answered" Aa1 ["words", "book"] t.AaC t.AaD
 Ac7:Df K mg "of_a_name" X3 ["word", "things", "book"] t.Yx t.Yy
 Fv:DfA K mg "check_count_desk" "check_count" Jg ["fits"] t.Jm t.Jo
 AaU:Df K mg "check_name" Uh ["word"] t.Vc t.Vd
 Wx:Df K mg "_law_whole" X4 ["found"] t.Yz t.Y0
 Wz:Df K mg "_law_at" Af1 ["script", "k"] t.AaE t.AaF
 RZ:Df K mg "_law_folded" Ui ["script", "many"] t.LR t.Ma
 AaV:Df K mg "_law_rows" Aa2 ["number", "ends", "picks"] t.RN t.RP
 AaW:Df K mg "_law_told" Ly ["rows", "by_draft"] t.RQ t.RT
 Ac8:Df K mg "_law_other" X5 ["sign"] t.Y4 t.Y5
 Ac9:Df K mg "_law_third" J1 ["one", "two", "turned"] t.Pn t.Pq
 AaX:Df K mg "_law_over" Aa3 ["rows", "one", "other"] t.AaG t.AaH
 Af4:Df K mg "_law_sets" Aa4 ["found", "strands"] t.AaI t.AaJ
 AcA:Df K mg "_law_round" X7 ["rows", "found", "layer"] t.Y6 t.Y7
 AcB:Df K mg "_law_stand" X8 ["rows", "layers"] t.Y8 t.Y9
 AcC:Df K mg "_law_right" XC ["rows", "woven_one", "told"] t.Pr t.Pu
 law:Df K mg "law" Aox ["script"] t.Aoy t.AkJ
 ArG:mg "abs" = none
 AkK:mg "all" = none
 AkL:mg "any" = none
 ApQ:mg "bool" = none
 PJ:mg "enumerate" = none
 Ao0:mg "int" = none
 Dh:mg "isinstance" = none
 BJ:mg "len" = none
 Gu:mg "list" = none
 At7:mg "max" = none
 At8:mg "min" = none
 Cq:mg "range" = none
 AgK:mg "reversed" = none
 At9:mg "set" = none
 PK:mg "sorted" = none
 AhC:mg "str" = none
 AkM:mg "sum" = none
 Ad3:mg "tuple" = none
 AkN:mg "zip" = none
 Ec:∃ tk,mg "MOST_STRANDS" = some (.int 40 tk)
 Ab5:∃ tk,mg "MOST_SHAFTS" = some (.int 40 tk)
 AcD:∃ tk,mg "LETTERS" = some (.str "abcdefghijklmnopqrstuvwxyz" tk)
 AaY:∃ tk,mg "MOST_LETTERS" = some (.int 20 tk)
 AiN:∃ tk,mg "FIGURES" = some (.str "0123456789" tk)
 AaZ:∃ tk,mg "MOST_NUMBERS" = some (.int 400 tk)
 AiO:∃ tk,mg "MOST_DEEP_rows" = some (.int 8 tk)
 YT:∃ tk,mg "BETWEEN_PARTS" = some (.str " / " tk)
 Aba:∃ tk,mg "BETWEEN_TIES" = some (.str ", " tk)
 Sh:∃ tk,mg "MOST_DEEP_reader" = some (.int 12 tk)
 Af5:∃ tk,mg "MOST_RUNS" = some (.int 40 tk)
 Aq8:∃ tk,mg "COLOURS" = some (.str "abcdef" tk)
 ApR:∃ tk,mg "SHUTTLES" = some (.int 8 tk)
 AkO:∃ tk,mg "MOST_FIGURES" = some (.int 60 tk)
 Anq:mg "WeaveError" = some (.ref t.Im)
 Anr:Exn K t.Im
 AcE:W.mroIn K t.Im (.ref t.Im)=some true
 Ans:mg "Draft" = some (.ref t.Fo)
 Mi:L2.Own K t.Fo t.GJ
 Jq:CT K t.Fo "threading"
 Rt:CT K t.Fo "ties"
 JC:CT K t.Fo "treading"
 Abb:mg "Reader" = some (.ref t.By)
 Bu:L2.Own K t.By t.Gq
 Ed:CT K t.By "text"
 Cj:CT K t.By "place"
 ApS:mg "Path" = some (.ref t.GD)
 Mj:L2.Own K t.GD t.Hz
 Ex:CT K t.GD "stops"
 Zo:mg "Piece" = some (.ref t.Fd)
 As3:L2.Own K t.Fd t.Fq
 AkP:CT K t.Fd "texts"
 AiP:CT K t.Fd "writing"
 Ant:mg "Named" = some (.ref t.Fp)
 Ad4:L2.Own K t.Fp t.GK
 PN:CT K t.Fp "texts"
 KJ:CT K t.Fp "writing"
 Ab6:Meth K t.Fp "wide" t.DK
 Ab7:Meth K t.Fp "high" t.DN
 Abd:Meth K t.Fp "cloth" t.Dq
 Ab8:Meth K t.Fp "told" t.DP
 ApT:mg "Rows" = some (.ref t.GF)
 AgL:L2.Own K t.GF t.HB
 Ru:CT K t.GF "texts"
 Nj:CT K t.GF "writing"
 Ad5:Meth K t.GF "wide" t.DK
 Ad6:Meth K t.GF "high" t.DN
 Ab9:Meth K t.GF "cloth" t.Dq
 Ad7:Meth K t.GF "told" t.DP
 AiQ:mg "Quarter" = some (.ref t.Dy)
 W3:L2.Own K t.Dy t.FZ
 KN:CT K t.Dy "texts"
 Jr:CT K t.Dy "writing"
 YW:Meth K t.Dy "wide" t.DK
 YX:Meth K t.Dy "high" t.DN
 W4:Meth K t.Dy "cloth" t.Dq
 YZ:Meth K t.Dy "told" t.DP
 ArH:mg "Lay" = some (.ref t.Kv)
 AkQ:L2.Own K t.Kv t.Jj
 Vj:CT K t.Kv "texts"
 PQ:CT K t.Kv "writing"
 Af6:Meth K t.Kv "wide" t.DK
 Af7:Meth K t.Kv "high" t.DN
 Ad8:Meth K t.Kv "cloth" t.Dq
 Af8:Meth K t.Kv "told" t.DP
 Vk:Ars K t.Fd "__init__" t.Fq
 Anu:mg "WORDS" = some (.ref t.Ad2)
 Anv:Ap9 K t.Ad2 (["rows", "twill", "satin", "beside", "above", "mirror", "upend", "back", "quarter", "tile", "blocks", "lay"]:NX)
 Vl:mg "ASKED_OF_A_NAME" = some (.ref t.Gp)
 Vm:Ap9 K t.Gp (["cloth", "layers", "draft", "shifts", "floats"]:NX)
 Af9:mg "THINGS" = some (.ref t.Ur)
 AfA:Top K t.Ur ([("twill", "nn"),("satin", "nn"),("beside", "pp"),("above", "pp"),("mirror", "p"),("upend", "p"),("back", "p"),("quarter", "p"),("tile", "pnn"),("blocks", "ppp"),("lay", "pp")]:List (Str × Str))
 KQ:Mf K "__init__" "Draft.__init__" Kp ["self", "threading", "ties", "treading"] t.Fo t.GJ t.Kw
 Di:Mf K "__init__" "Reader.__init__" J5 ["self", "text"] t.By t.Gq t.J7
 CK:Mf K "ended" "Reader.ended" Ow ["self"] t.By t.O2 t.O3
 BR:Mf K "took" "Reader.took" QM ["self", "wanted"] t.By t.QR t.QS
 Be:Mf K "stretch" "Reader.stretch" Kq ["self", "signs"] t.By t.Ky t.Kz
 HD:Mf K "number" "Reader.number" M3 ["self"] t.By t.Hx t.Hy
 FQ:Mf K "__init__" "Path.__init__" M4 ["self", "stops"] t.GD t.Hz t.M7
 PX:Mf K "size" "Path.size" XD ["self"] t.GD t.XF t.XH
 Js:Mf K "numbers" "Path.numbers" Oz ["self"] t.GD t.O4 t.O5
 Ef:Mf K "__init__" "Piece.__init__" Kr ["self", "texts", "writing"] t.Fd t.Fq t.K1
 Gv:Mf K "wide" "Piece.wide" Ul ["self"] t.Fd t.DK t.Us
 Gw:Mf K "high" "Piece.high" Um ["self"] t.Fd t.DN t.Ut
 FP:Mf K "cloth" "Piece.cloth" QQ ["self"] t.Fd t.Dq t.QT
 Io:Mf K "told" "Piece.told" Uo ["self"] t.Fd t.DP t.Uu
 KR:Mf K "__init__" "Named.__init__" Ks ["self", "name", "known_cloth"] t.Fp t.GK t.K3
 Nk:Mf K "__init__" "Rows.__init__" M5 ["self", "runs"] t.GF t.HB t.M8
 Jt:Mf K "__init__" "Quarter.__init__" Jh ["self", "inner"] t.Dy t.FZ t.Ji
 Qa:Mf K "__init__" "Lay.__init__" O1 ["self", "upper", "lower"] t.Kv t.Jj t.O6
theorem bl1{ps:NX}(h:∀ a:Value,bindArgs fd ⟨[a],[]⟩=pure (ps.zip [a]))(us:NW)(c:us.length=1):bindArgs fd ⟨us,[]⟩=pure (ps.zip us):=by
 rcases us with _ | ⟨a,us⟩
 ·cases c
 rcases us with _ | ⟨b,us⟩
 ·exact h a
 ·cases c
theorem bl2{ps:NX}(h:∀ a a1:Value,bindArgs fd ⟨[a,a1],[]⟩=pure (ps.zip [a,a1]))(us:NW)(c:us.length=2):bindArgs fd ⟨us,[]⟩=pure (ps.zip us):=by
 rcases us with _ | ⟨a,us⟩
 ·cases c
 rcases us with _ | ⟨a1,us⟩
 ·cases c
 rcases us with _ | ⟨b,us⟩
 ·exact h a a1
 ·cases c
theorem bl3{ps:NX}(h:∀ c a1 a2:Value,bindArgs fd ⟨[c,a1,a2],[]⟩=pure (ps.zip [c,a1,a2]))(us:NW)(a:us.length=3):bindArgs fd ⟨us,[]⟩=pure (ps.zip us):=by
 rcases us with _ | ⟨c,us⟩
 ·cases a
 rcases us with _ | ⟨a1,us⟩
 ·cases a
 rcases us with _ | ⟨a2,us⟩
 ·cases a
 rcases us with _ | ⟨b,us⟩
 ·exact h c a1 a2
 ·cases a
theorem bl4{ps:NX}(h:∀ c a1 a2 a3:Value,bindArgs fd ⟨[c,a1,a2,a3],[]⟩=pure (ps.zip [c,a1,a2,a3]))(us:NW)(a:us.length=4):bindArgs fd ⟨us,[]⟩=pure (ps.zip us):=by
 rcases us with _ | ⟨c,us⟩
 ·cases a
 rcases us with _ | ⟨a1,us⟩
 ·cases a
 rcases us with _ | ⟨a2,us⟩
 ·cases a
 rcases us with _ | ⟨a3,us⟩
 ·cases a
 rcases us with _ | ⟨b,us⟩
 ·exact h c a1 a2 a3
 ·cases a
def Q4 (a b:Int):NA:=if a<b then Ia (a+1) 1 (b-a).toNat else Ia (a-1) (-1) (a-b).toNat
def Ad9 (z:Int):Int:=if z<0 then -z else z
def go (a:Int):NA->NA
 | []=>[]
 | b::r=>Q4 a b++go b r
def Sq:NA->NA
 | []=>[]
 | s::r=>s::go s r
def lst (a:Int):NA->Int
 | []=>a
 | b::r=>lst b r
theorem Zq:∀(a:Int)(r:NA)(b:Int),go a (r++[b])=go a r++Q4 (lst a r) b
 | a,[],b=>by simp[go,lst]
 | a,c::r,b=>by rw[Avi,go,Zq c r b,go,lst,Auk]
theorem lst_snoc:∀(a:Int)(r:NA)(b:Int),lst a (r++[b])=b
 | a,[],b=>rfl
 | a,c::r,b=>by rw[Avi,lst,lst_snoc c r b]
theorem Ja(a c:Int)(n:Nat):(Ia a c n).length=n:=by unfold Ia;rw[AtG,AtO]
theorem Abe(a b:Int):((Q4 a b).length:Int)=Ad9 (b-a):=by
 unfold Q4 Ad9;split
 ·rw[Ja,if_neg (by omega)];omega
 ·rw[Ja];split <;> omega
theorem AfB{a c:Int}(h:i<n):(Ia a c n)[i]?=some (a+(i:Int)*c):=by unfold Ia;rw[AtQ,Au3 h];rfl
theorem AkR{a b:Int}{q:Nat}(h1:1<=q)(h2:(q:Int)<=Ad9 (b-a)):(Q4 a b)[q-1]?=some (a+(if b-a<0 then -1 else 1)*(q:Int)):=by
 unfold Q4;unfold Ad9 at h2;by_cases c:a<b
 ·rw[if_pos c,AfB (by rw[if_neg (by omega)] at h2;omega),if_neg (by omega)]
  congr 1
  omega
 ·rw[if_neg c];by_cases d:b-a<0
  ·rw[if_pos d] at h2 ⊢;rw[AfB (by omega)]
   congr 1
   omega
  ·rw[if_neg d] at h2;omega
theorem Abf{l r:NA}(h:r≠[]):(l++r).getLast?=r.getLast?:=by
 rw[Au5];cases e:r.getLast? with
 | none=>exact absurd (List.getLast?_eq_none_iff.mp e) h
 | some z=>rfl
theorem AcF{a b:Int}(h:a≠b):(Q4 a b).getLast?=some b:=by
 have c:=Abe a b;have pos:0<(Q4 a b).length:=by unfold Ad9 at c;split at c <;> omega
 rw[List.getLast?_eq_getElem?];have e:=AkR (a:=a) (b:=b) (q:=(Q4 a b).length) pos (by omega);rw[e]
 congr 1
 rw[c];unfold Ad9;split <;> omega
theorem AkS(a:Int):Q4 a a=[]:=by
 have:=Abe a a;unfold Ad9 at this;have h:(Q4 a a).length=0:=by split at this <;> omega
 exact AvR h
theorem AhD:∀(l:NA)(a:Int)(r:NA),l.getLast?=some a->(l++go a r).getLast?=some (lst a r)
 | l,a,[],h=>by simpa [go,lst] using h
 | l,a,b::r,h=>by
  rw[go,lst,<- Auk];refine AhD _ b r ?_;by_cases e:a=b
  ·rw[e,AkS,Aum,<- e];exact h
  ·rw[Abf (λz=>by have:=AcF e;rw[z] at this;cases this)];exact AcF e
theorem AiR(s:Int)(r:NA):(s::go s r).getLast?=some (lst s r):=AhD [s] s r Z
def dec (n:Nat):NI:=(Str.ofString (toString (n:Int))).cps.toList
theorem ApU(n:Nat):Str.ofString (toString (n:Int))=tx (dec n):=(Arq _).symm
def Ao1 (n:Nat):Bool:=(dec n).all (λc=>decide (48<=c/\c<=57)) && decide (1<=(dec n).length/\(dec n).length<=2) && decide (¬((dec n).length=2/\(dec n)[0]?=some 48)) && decide (PySem.NumText.digitsVal (dec n)=n)
theorem ApV:∀ n,n<100->Ao1 n=true:=by decide +kernel
structure Dec (n:Nat):Prop where
 dg:∀ c∈dec n,48<=c/\c<=57
 l1:1<=(dec n).length
 l2:(dec n).length<=2
 z:¬((dec n).length=2/\(dec n)[0]?=some 48)
 v:PySem.NumText.digitsVal (dec n)=n
theorem dec_is(h:n<100):Dec n:=by have:=ApV n h;unfold Ao1 at this;simp only [AuX,decide_eq_true_eq,Avc] at this;obtain⟨⟨⟨h1,h2⟩,h3⟩,h4⟩:=this;exact⟨h1,h2.1,h2.2,h3,h4⟩
def tails:NI->NI
 | []=>[]
 | n::r=>45::(dec n++tails r)
def Ju:NI->NI
 | []=>[]
 | n::r=>dec n++tails r
def Stop(rest:NI):Prop:=∀ c,rest[0]?=some c->¬(48<=c/\c<=57)/\c≠45
seal PE PT PW PA PS PSs PC PG PGs Aj1 PIp AoW PIE PI PO PEX PSX Ap2
section
variable {K:NF}{base:Heap}
def rf (u:NI)(p:Nat):List (Str × V):=[("text", .str (tx u)),("place", .int (p:Int))]
def Rdr (t:Adr)(H:Hp)(r dx:Addr)(u:NI)(p:Nat):Prop:=H r=some (.ins t.By dx (rf u p))/\p<=u.length/\u.length<=1000000
theorem Vn(u:NI)(p:Nat):(rf u p).lookup ("text" : Str)=some (V.str (tx u)):=rfl
theorem Ho(u:NI)(p:Nat):(rf u p).lookup ("place" : Str)=some (V.int (p:Int)):=rfl
theorem big(h:n<=1000000):n<=sizeLine:=AtW h (by decide)
inductive AkT (t:Adr)(vs:Na)(H:Hp)(Q:VK)(z3:XK):Prop
|mk(r:_)(dx:_)(u:_)(p:_)(_:vs=[.ref r])(_:Rdr t H r dx u p)(_:Q (.bl (decide (p=u.length))) H)
theorem FT(T:Txt K mg t):Bl P w K mg base CX0 1 t.O2 t.O3 ["self"] (AkT t):=by
 refine T.CK.F.ok YS ?_;rintro _ _ _ _ H _ Q E d ⟨r,dx,u,p,rfl,⟨a,f,b⟩,k⟩;refine⟨_,(Ad (Ay (Ea Ci (CV (K:=K) (pv 0) Z) (Ai Bs Z T.BJ Bj (Aa (CV (K:=K) (pv 0) Z) Ab)) (Ax _)))),?_⟩;refine⟨_,Z,_,_,_,_,_,Z,a,T.Bu.c,T.Cj,Ho u p,?_⟩;refine⟨_,Z,_,_,_,_,_,Z,a,T.Bu.c,T.Ed,Vn u p,?_⟩;refine⟨_,Z,(by exact big b),Z,?_⟩;have e:decide (V.int (p:Int)=V.int ((tx u).length:Int))=decide (p=u.length):=by
  rw[Al];grind
 rw[e];exact k
inductive Anw (t:Adr)(vs:Na)(H:Hp)(Q:VK)(z3:XK):Prop
|mk(r:_)(dx:_)(u:_)(p:_)(v:_)(_:vs=[.ref r,.str (tx v)])(_:Rdr t H r dx u p)(_:v.length<=100)(_:((u.drop p).take v.length=v->Q (.bl true) (upd H r (.ins t.By dx (rf u (p+v.length))))))(_:((u.drop p).take v.length≠v->Q (.bl false) H))
theorem AhE(h:p<=u.length):VL u (some (p:Int)) (some ((p:Int)+(n:Int)))=(u.drop p).take n:=by
 unfold VL;rw[show((p:Int)+(n:Int))=((p+n:Nat):Int) by exact Ar.f3,HT.Gh,HT.Gh,Aup h];by_cases h2:p+n<=u.length
 ·rw[Aup h2,AvM]
 ·rw[Nat.min_eq_right (by exact Ar.c3 (Ar.f8 h2)),Auf (by rw[Auw];exact Ar.i1),Auf (by rw[Auw];omega)]
theorem Du(T:Txt K mg t):Bl P w K mg base CX0 1 t.QR t.QS ["self", "wanted"] (Anw t):=by
 refine T.BR.F.ok Ox ?_;rintro _ _ _ _ H _ Q E h ⟨r,dx,u,p,v,rfl,⟨a,f,b⟩,d,k1,e⟩;refine⟨_,(Ac (Ba (i:=2) Ox.nd Z (Or.inl Z) (Bx Ey (CV (K:=K) (pv 0) Z) (Ai Bs Z T.BJ Bj (Aa (pv 1) Ab))))
  (Ac (Bd (Ah G5 (Cy ZP (CV (K:=K) (pv 0) Z) (Cu (CV (K:=K) (pv 0) Z)) (Cu (pv 2))) (pv 1) (Ax _))
   (Ad (Ay Gb))
   Ao)
  (Ac (Ib (K:=K) (pv 0) (pv 2))
  (Ad (Ay Gb))))),?_⟩;refine⟨_,Z,_,_,_,_,_,Z,a,T.Bu.c,T.Cj,Ho u p,_,Z,_,Z,(by rw[Al];exact big (by exact Ar.a2 d)),_,_,Z,Z,?_⟩;rw[Al];refine⟨_,Z,_,_,_,_,_,Z,a,T.Bu.c,T.Ed,Vn u p,?_⟩;refine⟨_,Z,_,_,_,_,_,Z,a,T.Bu.c,T.Cj,Ho u p,_,Z,_,Z,_,Z,u,Z,big b,_,Z,Z,_,Z,?_⟩;rw[AhE f];by_cases hc:(u.drop p).take v.length=v
 ·refine Oa (by rw[hc]) ?_;refine⟨_,Z,_,Z,_,_,_,_,Z,a,T.Bu.c,T.Cj,(by show 2<1000;decide),?_⟩;exact k1 hc
 ·refine AjP (λz=>hc (by injection z with z;exact I9 z)) ?_;exact e hc
def dg (c:Nat):Bool:=decide (48<=c/\c<=57)
def AdA (l:NI):NI:=l.takeWhile dg
def AiS (v:NI):V:=if (1<=v.length/\v.length<=2)/\¬(v.length=2/\v[0]?=some 48) then .int ((PySem.NumText.digitsVal v:Nat):Int) else .non
theorem AhF:∀(l:NI)(n:Nat),n<=l.length->(∀ c∈l.take n,dg c=true)->(∀ c,l[n]?=some c->dg c=false)->AdA l=l.take n
 | [],n,h,_,_=>by simp[AdA]
 | c::l,0,_,_,h2=>by
  unfold AdA;rw[Avt,h2 c rfl];rfl
 | c::l,n+1,h,h1,h2=>by
  have hc:=h1 c (by simp);have:= AhF l n (by simpa using h) (λd a=>h1 d (by simp_all)) (λd a=>h2 d (by simpa using a));unfold AdA at this ⊢;rw[Avt,if_pos hc,this,AuH]
theorem AkU(h:H r=some o):upd H r o=H:=by
 funext b
 unfold upd;split
 next e=>rw[e,h]
 next=>rfl
theorem z48(c:Nat):(V.str ⟨#[c]⟩:V)=V.str "0" ↔ c=48:=by
 have e:(("0" : Str))=tx [48]:=by decide +kernel
 exact⟨λz=>by injection z with z;exact(List.cons.inj (I9 z)).1,λz=>by rw[z];rfl⟩
inductive AkV (vs:Na)(H:Hp)(Q:VK)(z3:XK):Prop
|mk(v:NI)(_:vs=[.str (tx v)])(_:(∀ c∈v,48<=c/\c<=57))(_:v.length<=1000000)(_:Q (AiS v) H)
theorem AdB(T:Txt K mg t):Bl P w K mg base CX0 1 t.XX t.Yb ["figures"] AkV:=by
 refine T.Ac0.F.ok Ady ?_;rintro _ _ _ _ H _ Q E f ⟨v,rfl,e,d,k⟩;have sz:(tx v).length<=sizeLine:=by exact big d
 refine⟨_,(Ac (Bd (PW.pt (pw_or (Ah Ge (Ai Bs Z T.BJ Bj (Aa (pv 0) Ab)) Af (Ax _)) (pw_or1 (Ah HF (Ai Bs Z T.BJ Bj (Aa (pv 0) Ab)) Af (Ax _)))))
   (Ad (Ay JF))
   Ao)
  (Ac (Bd (PW.pt (pw_and (Ah Ci (Ai Bs Z T.BJ Bj (Aa (pv 0) Ab)) Af (Ax _)) (pw_and1 (Ah Ci (Az Hs (pv 0) Af (λ_ _=>rfl)) Av (Ax _)))))
   (Ad (Ay JF))
   Ao)
  (Ad (Ay (Cw Ait Z T.Ao0 AjQ (Aa (pv 0) Ab)))))),?_⟩;unfold AiS at k;refine⟨_,Z,_,Z,sz,_,_,Z,Z,_,Z,?_⟩;rw[Al];refine Dj (λc1=>?_) (λc1=>?_)
 ·rw[if_neg (by omega)] at k;exact k
 ·refine⟨_,Z,_,Z,sz,_,_,Z,Z,_,Z,?_⟩;rw[Al];refine Dj (λc2=>?_) (λc2=>?_)
  ·rw[if_neg (by omega)] at k;exact k
  ·refine⟨_,Z,_,Z,sz,Z,_,Z,?_⟩;rw[Al];have fin:¬(v.length=2/\v[0]?=some 48)->Xc [V.str (tx v)] H Q:=λc3=>by
    rw[if_pos ⟨by omega,c3⟩] at k;refine⟨tx v,_,Z,PySem.intText_digits (by exact e) (by rw[GR];intro z;rw[z] at c1;simp at c1) (by rw[Al];lia),by rw[Al];lia,?_⟩;exact k
   refine Dj (λc3=>?_) (λc3=>?_)
   ·have c:v.length=2:=by grind
    have b:0<v.length:=by exact Ar.l7 c
    refine⟨_,Z,_,_,v[0],Z,Z,sz,Br (by decide) (by exact AtF b),Z,_,Z,?_⟩;refine Dj (λa=>?_) (λa=>?_)
    ·rw[if_neg (λz=>z.2 ⟨c,by rw[AtF b,(z48 _).mp a]⟩)] at k;exact k
    ·exact⟨_,Z,fin λz=>a ((z48 _).mpr (by have:= z.2;rw[AtF b] at this;exact Option.some.inj this))⟩
   ·exact Iz ⟨_,Z,fin λz=>c3 (by rw[z.1];rfl)⟩
theorem CP(u:NI)(p:Nat):(rf u p).lookup ("ended" : Str)=none/\(rf u p).lookup ("took" : Str)=none/\(rf u p).lookup ("number" : Str)=none/\(rf u p).lookup ("stretch" : Str)=none:=⟨Z,Z,Z,Z⟩
theorem Ga(T:Txt K mg t):Bl P w K mg base CX0 1 t.Gq t.J7 ["self", "text"] (λvs H Q E=>∃(r dx:Addr)(u:NI),vs=[.ref r,.str (tx u)]/\H r=some (.ins t.By dx [])/\Q .non (upd H r (.ins t.By dx (rf u 0)))):=by
 refine T.Di.F.ok RK ?_;rintro _ _ _ _ H _ Q E a ⟨r,dx,u,rfl,h1,k⟩;refine⟨_,(Ac (Ib (K:=K) (pv 0) (pv 1))
  (Ad (Ib (K:=K) (pv 0) Af))),?_⟩;refine⟨_,Z,_,Z,_,_,_,_,Z,h1,T.Bu.c,T.Ed,(by decide),?_⟩;refine⟨_,Z,_,_,_,_,Z,Ae,T.Bu.c,T.Cj,(by show 1<1000;decide),?_⟩;rw[HQ];exact k
def stp (sg l:NI):NI:=l.takeWhile λc=>decide (c∈sg)
theorem AgM{sg:NI}:∀(l:NI)(n:Nat),n<=l.length->(∀ c∈l.take n,c∈sg)->(∀ c,l[n]?=some c->c∉sg)->stp sg l=l.take n
 | [],n,h,_,_=>by simp[stp]
 | c::l,0,_,_,h2=>by
  unfold stp;rw[Avt,if_neg (by rw[decide_eq_true_eq];exact h2 c Z)];rfl
 | c::l,n+1,h,h1,h2=>by
  have hc:=h1 c (by simp);have:= AgM l n (by simpa using h) (λd a=>h1 d (by simp_all)) (λd a=>h2 d (by simpa using a));unfold stp at this ⊢;rw[Avt,if_pos (zN hc),this,AuH]
theorem AdC{a:NI}(h1:∀ c∈a,c∈sg)(h2:∀ c,b[0]?=some c->c∉sg):stp sg (a++b)=a:=by have:= AgM (a++b) a.length (by simp) (λc hc=>h1 c (by rw[List.take_left' rfl] at hc;exact hc)) (λc hc=>h2 c (by rw[AtZ (AtH _),Aux] at hc;exact hc));rw[this,List.take_left' rfl]
theorem AhG(sg:NI):∀(l:NI),(∀ c∈stp sg l,c∈sg)/\(stp sg l).length<=l.length
 | []=>⟨λc hc=>(by cases hc),AtH _⟩
 | a::l=>by
  have b:=AhG sg l;unfold stp at b ⊢;by_cases h:a∈sg
  ·simp_all
  ·simp_all
theorem Abg(sg:NI)(c:Nat):(!(Builtin.Str.occurrences (tx sg) ⟨#[c]⟩ 0 (tx sg).length 1).isEmpty)=decide (c∈sg):=by rw[StrLaws.found_one,GR]
inductive AgN (t:Adr)(vs:Na)(H:Hp)(Q:VK)(z3:XK):Prop
|mk(r:_)(dx:_)(u:_)(p:_)(sg:_)(_:vs=[.ref r,.str (tx sg)])(_:Rdr t H r dx u p)(_:sg.length<=1000)(_:Q (.str (tx (stp sg (u.drop p)))) (upd H r (.ins t.By dx (rf u (p+(stp sg (u.drop p)).length)))))
theorem BZ(T:Txt K mg t):Bl P w K mg base CX0 2 t.Ky t.Kz ["self", "signs"] (AgN t):=by
 refine T.Be.F.ok J6 ?_;rintro _ _ _ _ H _ Q E s ⟨r,dx,u,p,sg,rfl,⟨f,l,j⟩,q,k⟩;refine⟨_,(Ac (Ba (i:=2) J6.nd Z (Or.inl Z) (CV (K:=K) (pv 0) Z))
  (Ac (JX PassesOwn.never (PW.pt (pw_and (CQ (Ck (Iu (pv 0) T.Bu.c T.CK.m ((FT T).mono (by decide)) s T.CK.b .nil BK))) (pw_and1 (Ah VB (Az Hs (CV (K:=K) (pv 0) Z) (CV (K:=K) (pv 0) Z) (λ_ _=>rfl)) (pv 1) Z))))
   (Ad (Ag0 (K:=K) (pv 0) Af Apj)))
  (Ad (Ay (Cy ZP (CV (K:=K) (pv 0) Z) (Cu (pv 2)) (Cu (CV (K:=K) (pv 0) Z))))))),?_⟩;refine⟨_,Z,_,_,_,_,_,Z,f,T.Bu.c,T.Cj,Ho u p,?_⟩;refine⟨λm σ H2=>∃ n,σ=[some (.ref r),some (.str (tx sg)),some (.int (p:Int))]/\H2=upd H r (.ins t.By dx (rf u (p+n)))/\p+n<=u.length/\(∀ c∈(u.drop p).take n,c∈sg)/\m=u.length-(p+n),
  ⟨_,0,Z,(AkU f).symm,l,(λc hc=>by simp at hc),Z⟩,?_⟩;rintro m σ H2 ⟨n,rfl,rfl,hn,o,rfl⟩;have a:(upd H r (.ins t.By dx (rf u (p+n)))) r=some (.ins t.By dx (rf u (p+n))):=Ae;have d:=λv=>(AgM _ n (by grind) o v).symm;have x:((u.drop p).take n).length=n:=by grind
 have e3:VL u (some (p:Int)) (some ((p+n:Nat):Int))=(u.drop p).take n:=by exact AhE l
 have fin:(u.drop p).take n=stp sg (u.drop p)->Q (.str (tx (VL u (some (p:Int)) (some ((p+n:Nat):Int))))) (upd H r (.ins t.By dx (rf u (p+n)))):=λe2=>by
  simp_all
 refine⟨_,Z,r,dx,rf u (p+n),Z,a,(CP u _).1,r,dx,u,p+n,Z,⟨a,hn,j⟩,_,Z,?_⟩;by_cases c1:p+n=u.length
 ·rw[zN c1];exact⟨_,Z,_,_,_,_,_,Z,a,T.Bu.c,T.Ed,Vn u _,_,Z,_,Z,_,Z,_,_,_,_,_,Z,a,T.Bu.c,T.Cj,Ho u _,_,Z,u,Z,big j,
   fin (d λc hc=>by grind)⟩
 ·rw[zJ c1];have e:p+n<u.length:=by exact Ar.d5 c1 hn
  refine⟨_,Z,_,_,_,_,_,Z,a,T.Bu.c,T.Ed,Vn u _,_,Z,_,_,_,_,_,Z,a,T.Bu.c,T.Cj,Ho u _,_,_,u[p+n],Z,Z,(by exact big j),
   Br (by exact Ar.a9) (by exact AtF e),_,Z,_,_,Z,Z,_,Z,?_⟩;rw[Abg];refine Dj (λc2=>?_) (λc2=>?_)
  ·refine⟨_,λσ' H' h=>h,?_⟩;refine⟨_,Z,_,_,_,_,_,Z,a,T.Bu.c,T.Cj,Ho u _,_,_,Z,Z,dx,rf u (p+n),a,(by show 2<1000;decide),?_⟩;refine⟨u.length-(p+(n+1)),by lia,n+1,Z,?_,by exact Ar.j4 e,λc hc=>?_,Z⟩
   ·rw[HQ];rfl
   ·rw[AtV,AuF,AtF e] at hc;rcases zG.mp hc with h | h
    ·exact o c h
    ·simp_all
  ·exact⟨_,Z,_,_,_,_,_,Z,a,T.Bu.c,T.Ed,Vn u _,_,Z,_,Z,_,Z,_,_,_,_,_,Z,a,T.Bu.c,T.Cj,Ho u _,_,Z,u,Z,big j,
    fin (d λc hc=>by simp_all)⟩
def AgO:NI:=[48,49,50,51,52,53,54,55,56,57]
theorem AfC:c∈AgO↔48<=c/\c<=57:=by rw[show AgO=List.range' 48 10 from Z,List.mem_range'_1];omega
inductive AiT (t:Adr)(vs:Na)(H:Hp)(Q:VK)(z3:XK):Prop
|mk(r:_)(dx:_)(u:_)(p:_)(_:vs=[.ref r])(_:Rdr t H r dx u p)(_:Q (AiS (stp AgO (u.drop p))) (upd H r (.ins t.By dx (rf u (p+(stp AgO (u.drop p)).length)))))
theorem W5(T:Txt K mg t):Bl P w K mg base CX0 3 t.Hx t.Hy ["self"] (AiT t):=by refine T.HD.F.ok Wo ?_;rintro _ _ _ _ H _ Q E d ⟨r,dx,u,p,rfl,a,k⟩;refine⟨_,(Ad (Ay (Bg T.Ac0 (AdB T) d (Aa (DG (pv 0) T.Bu.c T.Be.m ((BZ T).mono (by decide)) d T.Be.b .nil BK (Aa (CG (v:=.str "0123456789") Z T.AiN.choose_spec ⟨_,Z⟩) Ab)) Ab)))),?_⟩;have e:=AhG AgO (u.drop p);refine⟨_,Z,r,dx,rf u p,Z,a.1,(CP u p).2.2.2,r,dx,u,p,AgO,(by rfl),a,(by decide),?_⟩;exact⟨_,Z,λc hc=>AfC.mp (e.1 c hc),by have:= a.2.2;grind,k⟩
theorem AkW(l:NI):stp AgO l=AdA l:=by
 unfold stp AdA
 congr 1
 funext c
 unfold dg;exact z5.mpr AfC
inductive AgP (t:Adr)(vs:Na)(H:Hp)(Q:VK)(z3:XK):Prop
|mk(r:_)(dx:_)(u:_)(p:_)(_:vs=[.ref r])(_:Rdr t H r dx u p)(_:Q (AiS (AdA (u.drop p))) (upd H r (.ins t.By dx (rf u (p+(AdA (u.drop p)).length)))))
theorem Vo(T:Txt K mg t):Bl P w K mg base CX0 3 t.Hx t.Hy ["self"] (AgP t):=(W5 T).imp λvs H Q E ⟨r,dx,u,p,h1,h2,h3⟩=>⟨r,dx,u,p,h1,h2,by rw[AkW];exact h3⟩
theorem fits{z:Int}(h:z.natAbs<=1000000):Builtin.Range.rangeFitsLong z=true:=by unfold Builtin.Range.rangeFitsLong;simp only [AuX,decide_eq_true_eq];omega
inductive AkX (vs:Na)(H:Hp)(Q:VK)(z3:XK):Prop
|mk(a:Int)(b:Int)(_:vs=[.int a,.int b])(_:a.natAbs<=400)(_:b.natAbs<=400)(_:∀ l H',Aq H H'->H l=none->H' l=some (.lst (vI (Q4 a b)))->Q (.ref l) H')
theorem W6(T:Txt K mg t):Bl P w K mg base CX0 1 t.MJ t.MK ["start", "stop"] AkX:=by
 refine T.Ro.F.ok Wn ?_;rintro _ _ _ _ H _ Q E h ⟨a,b,rfl,f,e,k⟩;refine⟨_,(Ac (Bd (Ah Ge (pv 0) (pv 1) (Ax _))
   (Ad (Ay (Cw ZR Z T.Gu Fb (Aa (Cw AbZ Z T.Cq SQ (Aa (Bx Ey (pv 0) Af) (Aa (Bx Ey (pv 1) Af) Ab))) Ab))))
   Ao)
  (Ad (Ay (Cw ZR Z T.Gu Fb (Aa (Cw Ais Z T.Cq SQ (Aa (Bx G6 (pv 0) Af) (Aa (Bx G6 (pv 1) Af) (Aa (S5 Ld Af) Ab)))) Ab))))),?_⟩;refine⟨_,Z,_,Z,_,_,Z,Z,_,Z,?_⟩;refine Dj (λc1=>?_) (λc1=>?_)
 ·refine⟨_,Z,_,_,Z,Z,_,Z,_,_,Z,Z,_,_,Z,λp d=>?_⟩;have rs:Builtin.Range.rangeSize (a+1) (b+1) 1=((b-a).toNat:Int):=by
   unfold Builtin.Range.rangeSize;grind
  refine⟨p,a+1,b+1,1,(b-a).toNat,Z,Ae,?_,rs,by lia,λl c=>?_⟩
  ·unfold Builtin.Range.small;rw[rs,fits (by omega),fits (by omega),fits (by exact Ar.a4),fits (by omega)];simp only [show(1:Int)>0 by decide,Bool.true_and,Bool.or_eq_true];exact .inr (fits (by lia))
  ·have:Q4 a b=Ia (a+1) 1 (b-a).toNat:=if_pos c1;rw[<- this];exact k l _ ((Aq.upd d).new c) ((Aq.upd d).free c) Ae
 ·refine⟨_,Z,_,_,Z,Z,_,Z,_,_,Z,Z,_,Z,_,_,_,Z,(by decide),(by decide),λp d=>?_⟩;have rs:Builtin.Range.rangeSize (a-1) (b-1) (-1)=((a-b).toNat:Int):=by
   unfold Builtin.Range.rangeSize;grind
  refine⟨p,a-1,b-1,-1,(a-b).toNat,Z,Ae,?_,rs,by omega,λl c=>?_⟩
  ·unfold Builtin.Range.small;rw[rs,fits (by omega),fits (by omega),fits (by decide),fits (by omega)];simp only [show ¬((-1:Int)>0) by decide,Bool.true_and,Bool.or_eq_true];exact .inr (fits (by omega))
  ·have:Q4 a b=Ia (a-1) (-1) (a-b).toNat:=if_neg c1;rw[<- this];exact k l _ ((Aq.upd d).new c) ((Aq.upd d).free c) Ae
def pfR (l:Addr):List (Str × V):=[("stops", .ref l)]
theorem Abh(l:Addr):(pfR l).lookup ("stops" : Str)=some (V.ref l):=rfl
theorem W7(T:Txt K mg t):Bl P w K mg base CX0 1 t.Hz t.M7 ["self", "stops"] (λvs H Q E=>∃(r dx l:Addr),vs=[.ref r,.ref l]/\H r=some (.ins t.GD dx [])/\Q .non (upd H r (.ins t.GD dx (pfR l)))):=by refine T.FQ.F.ok Wq ?_;rintro _ _ _ _ H _ Q E a ⟨r,dx,l,rfl,h1,k⟩;refine⟨_,(Ad (Ib (pv 0) (pv 1))),?_⟩;exact⟨_,Z,_,Z,_,_,_,_,Z,h1,T.Mj.c,T.Ex,(by decide),k⟩
def dst (ss:NA)(k:Nat):Int:=Ad9 (ss.getD (k+1) 0-ss.getD k 0)
def W8 (ss:NA)(k:Nat):Int:=1+((List.range k).map (dst ss)).sum
theorem W9(ss:NA)(k:Nat):W8 ss (k+1)=W8 ss k+dst ss k:=by unfold W8;rw[Aur];simp;lia
theorem Ao2{i:Int}(a:0<=i)(h:i.toNat<ks.length):atI (vI ks) i=some (.int (ks.getD i.toNat 0)):=Br a (by
 rw[Fw (AtF h)];simp[List.getD,h])
structure IsP (t:Adr)(H:Hp)(a dx l:Addr)(ss:NA):Prop where
 o:H a=some (.ins t.GD dx (pfR l))
 l:H l=some (.lst (vI ss))
 ne:1<=ss.length
 le:ss.length<=1000
inductive AkY (t:Adr)(vs:Na)(H:Hp)(Q:VK)(z3:XK):Prop
|mk(a:Addr)(dx:Addr)(l:Addr)(ss:NA)(_:vs=[.ref a])(_:IsP t H a dx l ss)(_:Q (.int (W8 ss (ss.length-1))) H)
theorem AdD(T:Txt K mg t):Bl P w K mg base CX0 1 t.XF t.XH ["self"] (AkY t):=by
 refine T.PX.F.ok Il ?_;rintro _ _ _ _ H _ Q E e ⟨a,dx,l,ss,rfl,b,k⟩;have ne:=b.ne;have d:=b.le;refine⟨_,(Ac (Ba (i:=1) Il.nd Z (Or.inl Z) Af)
  (Ac (BX PassesOwn.never Z (Aif Z T.Cq (Aa Af (Aa (Ai (Ak) Z T.BJ Bj (Aa (CV (K:=K) (pv 0) Z) Ab)) Ab))) (Bp (i:=2) Il.nd Z (Or.inl Z))
   (Ad (Aj4 (i:=1) Il.nd Z (Or.inl Z) (Ai AjB Z T.ArG Apz (Aa (Bx G6 (Az (Aw (K:=K)) (CV (K:=K) (pv 0) Z) (pv 2) (λ_ _=>rfl)) (Az (Aw (K:=K)) (CV (K:=K) (pv 0) Z) (Bx G6 (pv 2) Af) (λ_ _=>rfl))) Ab)) Aj5)))
  (Ad (Ay (pv 1))))),?_⟩;refine⟨_,Z,_,_,_,_,_,Z,b.o,T.Mj.c,T.Ex,Abh l,_,_,Z,.inl (SqL.of b.l),_,_,Z,⟨by decide,by decide,by grind,by rw[Bh];lia⟩,?_⟩;rw[Bh];refine Dw (λi σ H2=>∃ v,σ=[some (.ref a),some (.int (W8 ss i)),v]/\H2=H) ⟨none,Z,Z⟩ ?_ ?_
 ·rintro i σ H2 hi ⟨v,rfl,rfl⟩;have e1:=Ao2 (ks:=ss) (i:=1+(i:Int)) (by exact Ar.a9) (by omega);have e2:=Ao2 (ks:=ss) (i:=1+(i:Int)-1) (by exact Ar.i8) (by lia);rw[show(1+(i:Int)).toNat=i+1 by omega] at e1;rw[show(1+(i:Int)-1).toNat=i by exact Ar.i7] at e2;refine⟨_,Z,_,Z,_,_,_,_,_,Z,b.o,T.Mj.c,T.Ex,Abh l,_,Z,_,_,_,_,Z,Z,SqL.of b.l,e1,?_⟩;refine⟨_,Z,_,_,_,_,_,Z,b.o,T.Mj.c,T.Ex,Abh l,_,Z,_,_,Z,Z,_,_,_,_,Z,Z,SqL.of b.l,e2,_,_,Z,Z,_,Z,_,_,Z,Z,?_⟩;exact⟨some (.int (1+(i:Int))),by rw[W9];rfl,Z⟩
 ·rintro σ H2 ⟨v,rfl,rfl⟩;refine⟨_,Z,?_⟩;grind
theorem Ae9{z:Int}(h:ks.getLast?=some z):atI (vI ks) (-1)=some (.int z):=by
 have b:0<ks.length:=by
  cases ks with
  | nil=>cases h
  | cons a l=>exact Nat.succ_pos _
 rw[List.getLast?_eq_getElem?] at h;unfold atI ixN;rw[if_neg (by decide),Bh];rw[if_pos (by omega)];rw[Option.bind_some]
 first
  | simp_all
  | (rw[show(-1+(ks.length:Int)).toNat=ks.length-1 by omega];exact Fw h)
theorem AgQ:∀(ss:NA)(i:Nat),i+1<=ss.length->((Sq (ss.take (i+1))).length:Int)=W8 ss i:=by
 intro ss i
 induction i with
 | zero =>
  intro h;cases ss with
  | nil=>simp at h
  | cons s r=>simp[Sq,go,W8]
 | succ i c =>
  intro h;have e:=c (by exact Ar.c3 h);rw[W9,<- e];cases ss with
  | nil=>simp at h
  | cons s r =>
   have b:i<r.length:=by grind
   rw[AuH,AuH,AtV,AtF b];show((Sq (s::(r.take i++[r[i]]))).length:Int)=_;rw[Sq,Zq,Sq,AtS,AtI,AtS];have d:((Q4 (lst s (r.take i)) r[i]).length:Int)=dst (s::r) i:=by
    rw[Abe];unfold dst;have e1:(s::r).getD (i+1) 0=r[i]:=by grind
    have e2:(s::r).getD i 0=lst s (r.take i):=by
     cases i with
     | zero=>simp[lst]
     | succ j =>
      have a:j<r.length:=by exact Ar.c3 b
      rw[AtV,AtF a];show _=lst s (r.take j++[r[j]]);rw[lst_snoc];simp[List.getD,a]
    rw[e1,e2]
   lia
theorem AcG(ss:NA):∀{i j:Nat},i<=j->W8 ss i<=W8 ss j:=by
 intro i j h
 induction h with
 | refl=>exact Avf _
 | @step m _ a =>
  have:0<=dst ss m:=by unfold dst Ad9;split <;> lia
  have e:=W9 ss m;grind
inductive Anx (t:Adr)(vs:Na)(H:Hp)(Q:VK)(z3:XK):Prop
|mk(a:Addr)(dx:Addr)(l:Addr)(ss:NA)(_:vs=[.ref a])(_:IsP t H a dx l ss)(_:W8 ss (ss.length-1)<=400)(_:(∀ s∈ss,s.natAbs<=400))(_:∀ q H',Aq H H'->H q=none->H' q=some (.lst (vI (Sq ss)))->Q (.ref q) H')
theorem Za(T:Txt K mg t):Bl P w K mg base CX0 2 t.O4 t.O5 ["self"] (Anx t):=by
 refine T.Js.F.ok Hw ?_;rintro _ _ _ _ H _ Q E N ⟨a,dx,l,ss,rfl,h,J,y,k⟩;have ne:=h.ne;have hsz:=z8;refine⟨_,(Ac (Ba (i:=1) Hw.nd Z (Or.inl Z) (Cp (Aa (Az (Aw (K:=K)) (CV (K:=K) (pv 0) Z) Af (λ_ _=>rfl)) Ab)))
  (Ac (BX PassesOwn.never Z (Bq (K:=K) (Cy (Ds (K:=K)) (CV (K:=K) (pv 0) Z) (Cu Af) Ej)) (Bp (i:=2) Hw.nd Z (Or.inl Z))
   (Ad (Bo (Bw (K:=K) zM F.slot_list_extend F.type_list_extend Qm (pv 1) (Aa (Bg T.Ro (W6 T) N (Aa (Az (Aw (K:=K)) (pv 1) (S5 Ld Af) (λ_ _=>rfl)) (Aa (pv 2) Ab))) Ab)))))
  (Ad (Ay (pv 1))))),?_⟩;obtain⟨b,r,rfl⟩:∃ b r,ss=b::r:=by
  cases ss with
  | nil=>simp at ne
  | cons b r=>exact⟨b,r,Z⟩
 refine⟨_,Z,_,_,_,_,_,Z,h.o,T.Mj.c,T.Ex,Abh l,_,_,_,_,Z,Z,SqL.of h.l,Br (by decide) Z,(by show 1<=sizeLine;decide),λq A=>?_⟩;have s1:Aq H (upd H q (.lst [.int b])):=.upd A;refine⟨_,Z,_,_,_,_,_,Z,s1 _ _ h.o,T.Mj.c,T.Ex,Abh l,_,Z,_,_,Z,SqL.of (s1 _ _ h.l),λp I=>?_⟩;have e1:Iv (vI (b::r)) (some 1) none=vI r:=by
  unfold Iv;have e0:HT.sIx (vI (b::r)).length 0 (some 1)=1:=by
   show HT.sIx (vI (b::r)).length 0 (some ((1:Nat):Int))=1;rw[HT.Gh,Bh];exact Ar.f1
  rw[e0,HT.S7,Bh,AtS];show(vI r).take _=vI r;rw[Auf (by rw[Bh];exact Ar.i1)]
 rw[e1];have L:Aq H (upd (upd H q (.lst [.int b])) p (.lst (vI r))):=s1.new I;have m:=Bb (Ae) I;refine⟨_,Z,⟨_,SqL.of Ae⟩,?_⟩;refine Cr (λi σ H2=>∃ v,σ=[some (.ref a),some (.ref q),v]/\Aq H H2/\H2 p=some (.lst (vI r))/\H2 q=some (.lst (vI (b::go b (r.take i)))))
  ⟨none,Z,L,Ae,by rw[Aj m,Ae];rfl⟩ (λi σ H2 _ ⟨_,_,_,e,_⟩=>SqL.of e) ?_ ?_
 ·rintro i xv σ H2 W ⟨v,rfl,C,f,d⟩;obtain⟨z,u,rfl⟩:=Ek W;have n:=(zC.mp u).1;have O:=y z (AtL _ (AtN u));have X:(lst b (r.take i)).natAbs<=400:=by
   cases i with
   | zero=>exact y b AtJ
   | succ j =>
    have D:j<r.length:=by exact Ar.c3 n
    rw[AtV,AtF D];show(lst b (r.take j++[r[j]])).natAbs<=400;rw[lst_snoc];exact y _ (AtL _ (AtT D))
  have s:=AgQ (b::r) (i+1) (by grind);have M:=AcG (b::r) (i:=i+1) (j:=(b::r).length-1) (by simp;exact Ar.j4 n);have R:(b::r).take (i+1+1)=b::(r.take i++[z]):=by rw[AuH,AtV,u];rfl
  rw[R,Sq,Zq,AtS,AtI] at s;refine⟨_,Z,.inl ⟨Z,_,SqL.of d⟩,_,Z,_,Z,_,_,_,_,Z,Z,SqL.of d,Ae9 (AiR b (r.take i)),_,Z,lst b (r.take i),z,Z,X,O,λY H3 x U B=>?_⟩;refine⟨q,Y,_,_,Z,Z,x _ _ d,B,(by rw[Bh,Bh,AtS];lia),?_⟩;have S:=m.symm;refine⟨_,Z,(C.trans x).over A,by rw[Aj S];exact x _ _ f,?_⟩;rw[Ae,AtV,u];show some (HO.lst (vI (b::go b (r.take i))++vI (Q4 (lst b (r.take i)) z)))=some (HO.lst (vI (b::go b (r.take i++[z]))));rw[Zq];unfold vI;rw[<- AtK];rfl
 ·rintro σ H2 ⟨v,rfl,C,f,d⟩;refine⟨_,Z,k q H2 C A ?_⟩;rw[d,Bh,Aue];rfl
def AtP (t:Adr)(H:Hp)(a:Addr)(ss:NA):Prop:=∃ dx l,IsP t H a dx l ss
theorem AtP.same(h:AtP t H a ss)(s:Aq H H'):AtP t H' a ss :=
 let ⟨dx,l,p⟩:=h
 ⟨dx,l,s _ _ p.o,s _ _ p.l,p.ne,p.le⟩
structure Vp (t:Adr)(H:Hp)(rs:NU)(sss:NV):Prop where
 len:rs.length=sss.length
 at_:∀(i:Nat) a ss,rs[i]?=some a->sss[i]?=some ss->AtP t H a ss
 le:rs.length<=1000
theorem Vp.same(h:Vp t H rs sss)(s:Aq H H'):Vp t H' rs sss:=⟨h.len,λi a ss e1 e2=>(h.at_ i a ss e1 e2).same s,h.le⟩
def psz (ss:NA):Int:=W8 ss (ss.length-1)
inductive AkZ (K:NF)(t:Adr)(vs:Na)(H:Hp)(Q:VK)(z3:XK):Prop
|mk(li:Addr)(rs:NU)(sss:NV)(_:vs=[.ref li])(_:H li=some (.lst (rs.map V.ref)))(_:Vp t H rs sss)(_:∀ H',Aq H H'->Q (.int (sss.map psz).sum) H')
theorem AbA(T:Txt K mg t):Bl P w K mg base CX0 2 t.Uz t.U0 ["row_items"] (AkZ K t):=by
 refine T.AaM.F.ok QB ?_;rintro _ _ _ _ H _ Q E n ⟨s,rs,sss,rfl,e,d,k⟩;have h:=d.len;have r:=d.le;have hsz:=z8;refine⟨_,(Ad (Ay (Ai (VM (K:=K)) Z T.AkM Agx (Aa (Cg (cok [] ["item"] QB) Z (Bq (K:=K) (pv 0)) (λ_ _ _ _ _=>.nil) (λ_ _ _ _ _=>(Iu (pv 0) T.Mj.c T.PX.m ((AdD T).mono (by decide)) n T.PX.b .nil BK))) Ab)))),?_⟩;refine⟨_,Z,_,Z,⟨_,SqL.of e⟩,BV (xs:=rs.map V.ref) (λi ys H2=>H2=H/\ys=vI ((sss.take i).map psz)) ⟨Z,Z⟩ ?_ ?_ ?_ ?_⟩
 ·rintro i ys H2 hi ⟨rfl,rfl⟩;refine⟨SqL.of e,?_⟩;rw[Bh,AtG,AtX];exact Ar.k7
 ·grind
 ·rintro i x ys H2 hi f ⟨rfl,rfl⟩;rw[AtG] at hi;have a:i<sss.length:=by exact Ar.b2 h hi
  rw[AtQ,AtF hi] at f;cases f;obtain⟨dx,l,j⟩:=d.at_ i _ _ (AtF hi) (AtF a);refine⟨_,Z,_,dx,pfR l,Z,j.o,Z,_,dx,l,_,Z,j,?_⟩;refine CN.of (by rw[AtG];exact hi) ⟨Z,?_⟩;rw[Ht,AtV,AtF a,AtK];rfl
 ·rintro ys H2 p ⟨rfl,rfl⟩ q;rw[AtG,h,Aue];exact⟨_,_,Z,SqL.of Ae,k _ (.upd q)⟩
inductive Anz (K:NF)(t:Adr)(vs:Na)(H:Hp)(Q:VK)(z3:XK):Prop
|mk(li:Addr)(rs:NU)(sss:NV)(_:vs=[.ref li])(_:H li=some (.lst (rs.map V.ref)))(_:Vp t H rs sss)(_:(sss.map psz).sum<=400)(_:(∀ ss∈sss,∀ s∈ss,s.natAbs<=400))(_:∀ q H',Aq H H'->H q=none->H' q=some (.lst (vI (sss.map Sq).flatten))->Q (.ref q) H')
theorem Abi(T:Txt K mg t):Bl P w K mg base CX0 3 t.QX t.QZ ["row_items"] (Anz K t):=by
 refine T.YB.F.ok Jb ?_;rintro _ _ _ _ H _ Q E M ⟨N,rs,sss,rfl,D,I,J,L,k⟩;have r:=I.len;have hsz:=z8;refine⟨_,(Ac (Ba (i:=1) Jb.nd Z (Or.inl Z) (Cp Ab))
  (Ac (BX PassesOwn.never Z (Bq (K:=K) (pv 0)) (Bp (i:=2) Jb.nd Z (Or.inl Z))
   (Ad (Bo (Bw (K:=K) zM F.slot_list_extend F.type_list_extend Qm (pv 1) (Aa (Iu (pv 2) T.Mj.c T.Js.m ((Za T).mono (by decide)) M T.Js.b .nil BK) Ab)))))
  (Ad (Ay (pv 1))))),?_⟩;refine⟨AtR _,λq p=>?_⟩;have s1:Aq H (upd H q (.lst [])):=.upd p;refine⟨_,Z,_,Z,⟨_,SqL.of (s1 _ _ D)⟩,?_⟩;have pos:∀ ss∈sss,1<=psz ss:=λss B=>by
  unfold psz;have:= AcG ss (AtR (ss.length-1));have e:W8 ss 0=1:=by simp[W8]
  lia
 have part:∀ i,i<=sss.length->((sss.take i).map psz).sum<=(sss.map psz).sum:=λi hi=>by
  have e:sss.map psz=(sss.take i).map psz++(sss.drop i).map psz:=by simp_all
  rw[e,List.sum_append];have:0<=((sss.drop i).map psz).sum:=by
   have:∀(l:NV),(∀ ss∈l,1<=psz ss)->0<=(l.map psz).sum:=by
    intro l
    induction l with
    | nil=>intro _;simp
    | cons a l U =>
     intro h;rw[AtM,Aul];grind
   exact this _ λss B=>pos ss (AuA B)
  lia
 have z:∀ ss∈sss,1<=ss.length->((Sq ss).length:Int)=psz ss:=λss _ h1=>by
  have:= AgQ ss (ss.length-1) (by exact Ar.c9 h1);rw[show ss.length-1+1=ss.length by exact Ar.c7 h1,Aue] at this;exact this
 refine Cr (λi σ H2=>∃ v,σ=[some (.ref N),some (.ref q),v]/\Aq H H2/\H2 q=some (.lst (vI ((sss.take i).map Sq).flatten))/\((((sss.take i).map Sq).flatten.length:Nat):Int)=((sss.take i).map psz).sum)
  ⟨none,Z,s1,Ae,Z⟩ (λi σ H2 _ ⟨_,_,j,_⟩=>SqL.of (j _ _ D)) ?_ ?_
 ·rintro i x σ H2 y ⟨v,rfl,j,d,f⟩;have hi:i<rs.length:=by
   have:= (zC.mp y).1
   rwa [AtG] at this
  have n:i<sss.length:=by exact Ar.b2 r hi
  rw[AtQ,AtF hi] at y;cases y;have A:=AtT n;obtain⟨dx,l,u⟩:=(I.at_ i _ _ (AtF hi) (AtF n)).same j;have p1:=part (i+1) (by exact Ar.b2 r hi);have e6:(sss.take (i+1))=sss.take i++[sss[i]]:=by simp_all
  have e7:((sss.take (i+1)).map psz).sum=((sss.take i).map psz).sum+psz sss[i]:=by rw[e6,AtK];simp
  refine⟨_,Z,.inl ⟨Z,_,SqL.of d⟩,_,Z,_,dx,pfR l,Z,u.o,Z,_,dx,l,_,Z,u,(show psz sss[i]<=400 by lia),L _ A,λS W C R s=>?_⟩;have pl:=z _ A u.ne;refine⟨q,S,_,_,Z,Z,C _ _ d,s,(by rw[Bh,Bh];lia),?_⟩;refine⟨_,Z,(j.trans C).over p,?_,?_⟩
  ·rw[Ae,e6,AtK];unfold vI;simp
  ·have O:((([sss[i]].map Sq).flatten.length:Nat):Int)=psz sss[i]:=by simpa using pl
   rw[e7,e6,AtK,AvL,AtI,Int.natCast_add,f,O]
 ·rintro σ H2 ⟨v,rfl,j,d,f⟩;refine⟨_,Z,k q H2 j p ?_⟩;rw[d,AtG,r,Aue]
theorem Ala(h:n<100):AiS (dec n)=.int (n:Int):=by have d:=dec_is h;unfold AiS;rw[if_pos ⟨⟨d.l1,d.l2⟩,d.z⟩,d.v]
theorem Alb(h:n<100){rest:NI}(a:∀ c,rest[0]?=some c->¬(48<=c/\c<=57)):AdA (dec n++rest)=dec n:=by
 have d:=dec_is h;rw[AhF (dec n++rest) (dec n).length (by rw[AtI];exact Ar.a3)]
 ·exact List.take_left
 ·rw[List.take_left];exact λc hc=>zN (d.dg c hc)
 ·intro c hc;rw[AtZ (AtH _),Aux] at hc;exact zJ (a c hc)
def Dl (r:Addr)(H H':Hp):Prop:=∀ b o,b≠r->H b=some o->H' b=some o
theorem Dl.trans{H1 H2:Hp}(a:Dl r H H1)(b:Dl r H1 H2):Dl r H H2:=λc o n e=>b c o n (a c o n e)
theorem Dl.upd:Dl r H (L2.upd H r o):=λb o' n e=>by rw[Aj n];exact e
theorem Alc(s:Aq H H'):Dl r H H':=λb o _ e=>s b o e
inductive An0 (t:Adr)(vs:Na)(H:Hp)(Q:VK)(z3:XK):Prop
|mk(r:_)(dx:_)(u:_)(p:_)(n:_)(rest:_)(_:vs=[.ref r])(_:Rdr t H r dx u p)(_:n<100)(_:u.drop p=dec n++rest)(_:(∀ c,rest[0]?=some c->¬(48<=c/\c<=57)))(_:Q (.int (n:Int)) (upd H r (.ins t.By dx (rf u (p+(dec n).length)))))
theorem HN(T:Txt K mg t):Bl P w K mg base CX0 4 t.Jk t.Jl ["reader"] (An0 t):=by
 refine T.Dd.F.ok HJ ?_;rintro _ _ _ _ H _ Q E d ⟨r,dx,u,p,n,rest,rfl,a,hn,f,e,k⟩;refine⟨_,(Ac (Ba (i:=1) HJ.nd Z (Or.inl Z) (Iu (pv 0) T.Bu.c T.HD.m ((Vo T).mono (by decide)) d T.HD.b .nil BK))
  (Ac (Bd (Ah Aj9 (pv 1) JF (Ax _))
   (Ad Bc)
   Ao)
  (Ad (Ay (pv 1))))),?_⟩;refine⟨_,Z,r,dx,rf u p,Z,a.1,(CP u p).2.2.1,r,dx,u,p,Z,a,?_⟩;rw[f,Alb hn e,Ala hn];refine⟨_,Z,Z,_,Z,?_⟩;exact⟨_,Z,k⟩
inductive Ald (t:Adr)(vs:Na)(H:Hp)(Q:VK)(z3:XK):Prop
|mk(r:_)(dx:_)(u:_)(p:_)(n0:_)(ns:_)(rest:_)(_:vs=[.ref r,.int ((n0:Nat):Int)])(_:Rdr t H r dx u p)(_:(∀ n∈ns,n<100))(_:ns.length<=900)(_:u.drop p=tails ns++rest)(_:Stop rest)(_:∀ a H',Dl r H H'->Rdr t H' r dx u (p+(tails ns).length)->H a=none->AtP t H' a ((n0::ns).map Int.ofNat)->Q (.ref a) H')
theorem AdE(T:Txt K mg t):Bl P w K mg base CX0 5 t.Ye t.Yg ["reader", "first"] (Ald t):=by
 refine T.Ac1.F.ok TF ?_;rintro _ _ _ _ H _ Q E W ⟨r,dx,u,p,n0,ns,rest,rfl,U,hn,hl,hd,hs,k⟩;refine⟨_,(Ac (Ba (i:=2) TF.nd Z (Or.inl Z) (Cp (Aa (pv 1) Ab)))
  (Ac (JX PassesOwn.never (Ck (DG (pv 0) T.Bu.c T.BR.m ((Du T).mono (by decide)) W T.BR.b .nil BK (Aa Av Ab)))
   (Ad (Bo (Bw (K:=K) zM zL zQ Cd (pv 2) (Aa (Eb ((HN T).mono (by decide)) W Z T.Dd.m T.Dd.F.kp T.Dd.b .nil BK (Aa (pv 0) Ab)) Ab)))))
  (Ad (Ay (HX T.Mj.m ((W7 T).mono (by decide)) W Z T.ApS T.FQ.b .nil BK (Aa (pv 2) Ab)))))),?_⟩;refine⟨_,Z,(by show 1<=sizeLine;decide),λq N=>?_⟩;have v:q≠r:=λz=>by rw[z,U.1] at N;cases N
 refine⟨λm σ H2=>∃ f j,σ=[some (.ref r),some (.int (n0:Int)),some (.ref q)]/\ns=f++j/\Dl r H H2/\H2 q=some (.lst (vI ((n0::f).map Int.ofNat)))/\Rdr t H2 r dx u (p+(tails f).length)/\u.drop (p+(tails f).length)=tails j++rest/\m=j.length,
  ⟨_,[],ns,Z,Z,Alc (Aq.upd N),Ae,⟨by rw[Aj v.symm];exact U.1,U.2⟩,hd,Z⟩,?_⟩;rintro m σ H2 ⟨f,j,rfl,rfl,S,B,l,C,rfl⟩;refine⟨_,Z,r,dx,rf u (p+(tails f).length),Z,l.1,(CP u _).2.1,r,dx,u,p+(tails f).length,[45],(by rfl),l,(by decide),λA=>?_,λD=>?_⟩
 ·refine⟨_,Z,?_⟩;refine Aby ?_;rw[C] at A;cases j with
  | nil =>
   exfalso;cases rest with
   | nil=>simp[tails] at A
   | cons c rest =>
    have:c=45:=by simpa [tails] using A
    exact(hs c Z).2 this
  | cons n td =>
   have X:=hn n (by simp);have y:u.drop (p+(tails f).length+1)=dec n++(tails td++rest):=by
    rw[<- Avj,C];simp[tails]
   have L:p+(tails f).length+1<=u.length:=by
    grind
   have O:∀ c,(tails td++rest)[0]?=some c->¬(48<=c/\c<=57):=λc hc=>by
    cases td with
    | nil=>exact(hs c (by simpa [tails] using hc)).1
    | cons m td =>
     have:45=c:=by simpa [tails] using hc
     lia
   have Y:(upd H2 r (.ins t.By dx (rf u (p+(tails f).length+[45].length)))) q=some (.lst (vI ((n0::f).map Int.ofNat))):=by rw[Aj v];exact B
   refine⟨_,λσ' H' h=>h,?_⟩;refine⟨_,Z,.inl ⟨Z,_,SqL.of Y⟩,_,Z,r,dx,u,p+(tails f).length+1,n,tails td++rest,Z,⟨Ae,L,l.2.2⟩,X,y,O,?_⟩;rw[HQ];have R:(upd H2 r (.ins t.By dx (rf u (p+(tails f).length+1+(dec n).length)))) q=some (.lst (vI ((n0::f).map Int.ofNat))):=by rw[Aj v];exact B
   have ld:f.length<=900:=by
    grind
   refine⟨_,_,_,Z,Z,R,(by rw[Bh,AtG,AtS];exact VH (by exact Ar.f4 ld)),?_⟩;have et:(tails (f++[n])).length=(tails f).length+1+(dec n).length:=by
    have:∀(d:NI),tails (d++[n])=tails d++45::dec n:=by
     intro d
     induction d with
     | nil=>simp[tails]
     | cons a d ih=>simp[tails,ih]
    grind
   have a6:p+(tails f).length+1+(dec n).length<=u.length:=by
    have:= congrArg List.length y;grind
   refine⟨td.length,by simp,f++[n],td,Z,by simp,?_,?_,?_,?_,Z⟩
   ·intro b o M e;rw[Aj (Bb e N),Aj M];exact S b o M e
   ·rw[Ae];rw[Ht,<- Avi,AtK];rfl
   ·refine⟨?_,by lia,l.2.2⟩;rw[Aj v.symm,Ae,et];rw[show p+((tails f).length+1+(dec n).length)=p+(tails f).length+1+(dec n).length by exact Ar.l3]
   ·rw[et,show p+((tails f).length+1+(dec n).length)=p+(tails f).length+1+(dec n).length by exact Ar.l3,<- Avj,y];exact Avv
 ·refine⟨_,Z,?_⟩;refine Iz ?_;cases j with
  | cons n td =>
   exfalso;rw[C] at D;exact D (by simp[tails])
  | nil =>
   rw[Aum] at hl k;refine⟨_,Z,λx s J a0 aa=>⟨x,s,q,Z,Ae,Z,?_⟩⟩;rw[HQ];have O:∀ b o,H2 b=some o->b≠x/\b≠s:=λb o e=>⟨Bb e J,Bb e a0⟩;have keep:∀ b o,H2 b=some o->(upd (upd H2 s (.own x)) x (.ins t.GD s (pfR q))) b=some o:=λb o e=>by rw[Aj (O b o e).1,Aj (O b o e).2];exact e
   refine k x _ (λb o M e=>keep b o (S b o M e)) ⟨keep _ _ l.1,l.2⟩ ?_ ⟨s,q,Ae,keep _ _ B,by simp,by grind⟩;cases e:H x with
   | none=>rfl
   | some o =>
    by_cases I:x=r
    ·rw[I,l.1] at J;cases J
    ·rw[S x o I e] at J;cases J
inductive Ale (t:Adr)(vs:Na)(H:Hp)(Q:VK)(z3:XK):Prop
|mk(r:_)(dx:_)(u:_)(p:_)(n0:_)(ns:_)(rest:_)(d:_)(_:vs=[.ref r,d])(_:Rdr t H r dx u p)(_:(∀ n∈n0::ns,n<100))(_:ns.length<=900)(_:u.drop p=Ju (n0::ns)++rest)(_:Stop rest)(_:rest.take 2≠[42,40])(_:∀ a H',Dl r H H'->Rdr t H' r dx u (p+(Ju (n0::ns)).length)->H a=none->AtP t H' a ((n0::ns).map Int.ofNat)->Q (.ref a) H')
theorem Vq(T:Txt K mg t):Bl P w K mg base CX0 6 t.Yc t.Yd ["reader", "depth"] (Ale t):=by
 refine T.Wu.F.ok T9 ?_;rintro _ _ _ _ H _ Q E s ⟨r,dx,u,p,n0,ns,rest,d,rfl,q,hn,L,I,B,v,k⟩;have A:=hn n0 AtJ;have e:u.drop p=dec n0++(tails ns++rest):=by rw[I,Ju,Auk]
 have j:u.drop (p+(dec n0).length)=tails ns++rest:=by rw[<- Avj,e];exact Avv
 have l:p+(dec n0).length<=u.length:=by
  have:= congrArg List.length e;have d1:=(dec_is A).l1;rw[Auw,AtI] at this;lia
 have J:∀ c,(tails ns++rest)[0]?=some c->¬(48<=c/\c<=57):=λc hc=>by
  cases ns with
  | nil=>exact(B c (by simpa [tails] using hc)).1
  | cons m td =>
   have:45=c:=by simpa [tails] using hc
   lia
 refine⟨_,(Ac (Ba (i:=2) T9.nd Z (Or.inl Z) (Eb ((HN T).mono (by decide)) s Z T.Dd.m T.Dd.F.kp T.Dd.b .nil BK (Aa (pv 0) Ab)))
  (Ac (Bd (Ck (DG (pv 0) T.Bu.c T.BR.m ((Du T).mono (by decide)) s T.BR.b .nil BK (Aa Av Ab)))
   (Ad Bc)
   Ao)
  (Ad (Ay (Bg T.Ac1 (AdE T) s (Aa (pv 0) (Aa (pv 2) Ab))))))),?_⟩;refine⟨_,Z,r,dx,u,p,n0,tails ns++rest,Z,q,A,e,J,?_⟩;have z:(upd H r (.ins t.By dx (rf u (p+(dec n0).length)))) r=some (.ins t.By dx (rf u (p+(dec n0).length))):=Ae;refine⟨_,Z,r,dx,rf u (p+(dec n0).length),Z,z,(CP u _).2.1,r,dx,u,p+(dec n0).length,[42,40],(by rfl),⟨z,l,q.2.2⟩,(by decide),λf=>?_,λD=>?_⟩
 ·exfalso;rw[j] at f;cases ns with
  | nil=>exact v (by simpa [tails] using f)
  | cons m td=>simp[tails] at f
 ·refine⟨_,Z,?_⟩;refine⟨_,Z,_,Z,r,dx,u,p+(dec n0).length,n0,ns,rest,Z,⟨z,l,q.2.2⟩,λn h=>hn n (AtL _ h),L,j,B,λa H' s1 y C M=>?_⟩;have o:H a=none:=by
   by_cases x:a=r
   ·simp_all
   ·rw[Aj x] at C;exact C
  refine k a H' (Dl.upd.trans s1) ?_ o M;rw[Ju,AtI,<- Nat.add_assoc];exact y
def ofN (ns:NI):NA:=ns.map Int.ofNat
theorem AcH:∀(ns:NI),(∀ n∈ns,n<100)->(tails ns).length<=3*ns.length
 | [],_=>by simp[tails]
 | n::r,h=>by
  have d:=(dec_is (h n AtJ)).l2;have:= AcH r λm a=>h m (AtL _ a);rw[tails,AtS,AtI,AtS];lia
theorem Alf{zs:NA}(h:1<=zs.length):((Sq zs).length:Int)=psz zs:=by have:= AgQ zs (zs.length-1) (by exact Ar.c9 h);rw[show zs.length-1+1=zs.length by exact Ar.c7 h,Aue] at this;exact this
def more:NN->NI
 | []=>[]
 | ps::r=>32::(Ju ps++more r)
structure Okp (ps:NI):Prop where
 ne:1<=ps.length
 le:ps.length<=900
 bd:∀ n∈ps,n<100
theorem Qx:∀(r:NN),Stop (more r)/\(more r).take 2≠[42,40]
 | []=>⟨λc hc=>by simp[more] at hc,by simp[more]⟩
 | ps::r=>⟨λc hc=>by
   have:32=c:=by simpa [more] using hc
   lia,by simp[more]⟩
theorem Vp.snoc{H:Hp}(h:Vp t H' rs sss)(d:AtP t H' a ss)(c:rs.length<1000):Vp t H' (rs++[a]) (sss++[ss]):=by
 refine⟨by rw[AtI,AtI,h.len];rfl,λi b s e1 e2=>?_,by simp;exact Ar.g2 c⟩;by_cases hi:i<rs.length
 ·rw[Auc hi] at e1;rw[Auc (by rw[<- h.len];exact hi)] at e2;exact h.at_ i b s e1 e2
 ·rw[AtZ (by exact Ar.a1 hi)] at e1;rw[AtZ (by rw[<- h.len];exact Ar.a1 hi),<- h.len] at e2;cases e:i-rs.length with
  | zero =>
   simp_all
  | succ j=>simp_all
theorem AtP.but(h:AtP t H a ss)(s:Dl r H H')(d:∃ dx fs,H r=some (.ins t.By dx fs))(c:t.By≠t.GD):AtP t H' a ss:=by
 obtain⟨dx,l,p⟩:=h;obtain⟨e,fs,b⟩:=d;refine⟨dx,l,s _ _ (λz=>?_) p.o,s _ _ (λz=>?_) p.l,p.ne,p.le⟩
 ·have h1:=p.o;rw[z,b] at h1;injection h1 with h1;injection h1 with h1;exact c h1
 ·have:= p.l;rw[z,b] at this;cases this
theorem AtP.over{f:Addr}(h:AtP t H a ss)(e:H f=some (.lst (rs.map V.ref))):AtP t (upd H f o) a ss:=by
 obtain⟨dx,l,p⟩:=h;refine⟨dx,l,?_,?_,p.ne,p.le⟩
 ·rw[Aj (λz=>by
   have h1:=p.o;rw[z,e] at h1;cases h1)]
  exact p.o
 ·rw[Aj (λz=>by
   have h1:=p.l;rw[z,e] at h1;injection h1 with h1;injection h1 with h1;have b:=p.ne;cases ss with
   | nil=>simp at b
   | cons x y =>
    cases rs with
    | nil=>simp[vI] at h1
    | cons c d =>
     unfold vI at h1;rw[AtM,AtM] at h1;injection h1 with h1;cases h1)]
  exact p.l
inductive AgR (t:Adr)(vs:Na)(H:Hp)(Q:VK)(z3:XK):Prop
|mk(r:_)(dx:_)(u:_)(p:_)(ps:_)(pss:_)(d:_)(_:vs=[.ref r,d])(_:Rdr t H r dx u p)(_:Okp ps)(_:(∀ q∈pss,Okp q))(_:pss.length<=900)(_:u.drop p=Ju ps++more pss)(_:∀ li rs H',Dl r H H'->Rdr t H' r dx u u.length->H li=none->H' li=some (.lst (rs.map V.ref))->Vp t H' rs ((ps::pss).map ofN)->Q (.ref li) H')
theorem Qc(T:Txt K mg t)(nc:t.By≠t.GD):Bl P w K mg base CX0 7 t.U3 t.U4 ["reader", "depth"] (AgR t):=by
 refine T.RW.F.ok QD ?_;rintro _ _ _ _ H _ Q E hr ⟨r,dx,u,p,ps,n,d,rfl,hR,hO,W,hl,hd,k⟩;obtain⟨n0,ns,rfl⟩:∃ n0 ns,ps=n0::ns:=by
  cases ps with
  | nil=>exact absurd hO.ne (by simp)
  | cons a b=>exact⟨a,b,Z⟩
 have step:∀(q:Nat)(x y:NI),q<=u.length->u.drop q=x++y->u.drop (q+x.length)=y/\q+x.length<=u.length:=λq x y hq e=>by
  refine⟨by rw[<- Avj,e];exact Avv,?_⟩;have:= congrArg List.length e;grind
 refine⟨_,(Ac (Ba (i:=2) QD.nd Z (Or.inl Z) (Cp (Aa (Bg T.Wu (Vq T) hr (Aa (pv 0) (Aa (pv 1) Ab))) Ab)))
  (Ac (JX PassesOwn.never (Ck (DG (pv 0) T.Bu.c T.BR.m ((Du T).mono (by decide)) hr T.BR.b .nil BK (Aa Av Ab)))
   (Ad (Bo (Bw (K:=K) zM zL zQ Cd (pv 2) (Aa (Bg T.Wu (Vq T) hr (Aa (pv 0) (Aa (pv 1) Ab))) Ab)))))
  (Ad (Ay (pv 2))))),?_⟩;refine⟨_,Z,_,Z,r,dx,u,p,n0,ns,more n,d,Z,hR,hO.bd,(by have:= hO.le;rw[AtS] at this;exact Ar.c3 this),hd,(Qx n).1,(Qx n).2,λa H1 s1 I na hA=>?_⟩;obtain⟨ab,_⟩:=step p _ _ hR.2.1 hd;refine⟨(by show 1<=sizeLine;decide),λs v=>?_⟩;have s2:Aq H1 (upd H1 s (.lst [.ref a])):=.upd v;have C:s≠r:=λz=>by rw[z,I.1] at v;cases v
 have a6:H s=none:=by
  cases e:H s with
  | none=>rfl
  | some o=>rw[s1 s o C e] at v;cases v
 have a1:Vp t (upd H1 s (.lst [.ref a])) [a] [ofN (n0::ns)]:=⟨Z,λi b ss e1 e2=>by
  cases i with
  | zero=>cases e1;cases e2;exact hA.same s2
  | succ i=>simp at e1,by simp⟩
 refine⟨λm σ H2=>∃ q rs l f,σ=[some (.ref r),some d,some (.ref s)]/\n=l++f/\Dl r H H2/\Rdr t H2 r dx u q/\u.drop q=more f/\H2 s=some (.lst (rs.map V.ref))/\Vp t H2 rs (((n0::ns)::l).map ofN)/\m=f.length,
  ⟨_,_,[a],[],n,Z,Z,s1.trans (Alc s2),⟨s2 _ _ I.1,I.2⟩,ab,Ae,a1,Z⟩,?_⟩;rintro m σ H2 ⟨q,rs,l,f,rfl,rfl,s3,j,B,N,A,rfl⟩;refine⟨_,Z,r,dx,rf u q,Z,j.1,(CP u _).2.1,r,dx,u,q,[32],(by rfl),j,(by decide),λO=>?_,λY=>?_⟩
 ·refine⟨_,Z,?_⟩;refine Aby ?_;rw[B] at O;cases f with
  | nil=>simp[more] at O
  | cons qs td =>
   obtain⟨m0,L,rfl⟩:∃ m0 L,qs=m0::L:=by
    cases qs with
    | nil=>exact absurd (W [] (by simp)).ne (by simp)
    | cons x y=>exact⟨x,y,Z⟩
   have a0:Okp (m0::L):=W _ (by simp);obtain⟨S,X⟩:=step q [32] (Ju (m0::L)++more td) j.2.1 (by rw[B];rfl);have af:(upd H2 r (.ins t.By dx (rf u (q+[32].length)))) r=some (.ins t.By dx (rf u (q+[32].length))):=Ae;have R:(upd H2 r (.ins t.By dx (rf u (q+[32].length)))) s=some (.lst (rs.map V.ref)):=by rw[Aj C];exact N
   refine⟨_,λσ' H' h=>h,?_⟩;refine⟨_,Z,.inl ⟨Z,_,SqL.of R⟩,_,Z,_,Z,r,dx,u,q+[32].length,m0,L,more td,d,Z,⟨af,X,j.2.2⟩,a0.bd,(by have:= a0.le;rw[AtS] at this;exact Ar.c3 this),S,(Qx td).1,(Qx td).2,λb H5 s5 U nb hB=>?_⟩;obtain⟨ae,_⟩:=step (q+[32].length) _ _ X S;have D:=s5 _ _ C R;have M:rs.length<=901:=by
    have:= A.len;grind
   refine⟨_,_,_,Z,Z,D,(by rw[AtG];exact VH (by exact Ar.a2 M)),?_⟩;have sB:=Dl.upd.trans s5;have aa:∀ J ss,AtP t H2 J ss->AtP t H5 J ss:=λJ ss h=>h.but sB ⟨dx,_,j.1⟩ nc;refine⟨td.length,by simp,_,rs++[b],l++[m0::L],td,Z,by simp,?_,⟨?_,U.2⟩,ae,?_,?_,Z⟩
   ·intro c o hc e;rw[Aj (Bb e a6)];exact s5 c o hc (by rw[Aj hc];exact s3 c o hc e)
   ·rw[Aj C.symm];exact U.1
   ·rw[Ae,AtK];rfl
   ·have a5:Vp t (upd H5 s (.lst (rs.map V.ref++[V.ref b]))) rs (((n0::ns)::l).map ofN):=⟨A.len,λi J ss e1 e2=>(aa J ss (A.at_ i J ss e1 e2)).over D,A.le⟩;have:= a5.snoc (H:=H) (hB.over D) (by exact Ar.g3 M);rw[<- Avi,AtK];exact this
 ·refine⟨_,Z,?_⟩;refine Iz ?_;cases f with
  | cons qs td =>
   exfalso;rw[B] at Y;exact Y (by simp[more])
  | nil =>
   rw[Aum] at *;have ac:q=u.length:=by
    have:= congrArg List.length B;simp[more] at this;have:= j.2.1;lia
   rw[ac] at j;exact⟨_,Z,k s rs H2 s3 j a6 N A⟩
theorem Ao3(T:Txt K mg t):t.By≠t.GD:=λe=>by
 have h1:=T.Di.m.at_;have h2:=T.FQ.m.at_;rw[e,h2] at h1;injection h1 with h1;injection h1 with h1;injection h1 with h1;obtain⟨_,_,_,_,_,_,_,_,_,e1,b,_⟩:=T.Di.F.ex;obtain⟨_,_,_,_,_,_,_,_,_,e2,a,_⟩:=T.FQ.F.ex;rw[h1,b,e1,e2] at a;injection a with a;injection a with _ _ a _;injection a with a;have q:(("Reader.__init__" : Str))=("Path.__init__" : Str):=congrArg FuncData.qualname a;exact absurd q (by decide +kernel)
def YF (ps:NI)(pss:NN):NI:=Ju ps++more pss
theorem AiU:∀{ps:NI},Okp ps->1<=(Ju ps).length/\(Ju ps).length<=3*ps.length
 | [],h=>absurd h.ne (by simp)
 | n::r,h=>by
  have d:=dec_is (h.bd n AtJ);have:= AcH r λm a=>h.bd m (AtL _ a);have:= d.l1;have:= d.l2;rw[Ju,AtI,AtS];lia
inductive Alh (t:Adr)(vs:Na)(H:Hp)(Q:VK)(z3:XK):Prop
|mk(ps:_)(pss:_)(_:vs=[.str (tx (YF ps pss))])(_:Okp ps)(_:(∀ q∈pss,Okp q))(_:pss.length<=900)(_:(YF ps pss).length<=1000000)(_:∀ li rs H',Aq H H'->H li=none->H' li=some (.lst (rs.map V.ref))->Vp t H' rs ((ps::pss).map ofN)->Q (.ref li) H')
theorem AdF(T:Txt K mg t):Bl P w K mg base CX0 8 t.Lz t.LC ["text"] (Alh t):=by
 refine T.AaN.F.ok Gf ?_;rintro _ _ _ _ H _ Q E j ⟨ps,a,rfl,v,h,I,s,k⟩;have n:1<=(YF ps a).length:=by
  have:= (AiU v).1;unfold YF;rw[AtI];exact Ar.e2 this
 obtain⟨u,x⟩:∃ u,u=YF ps a:=⟨_,Z⟩;rw[<- x] at s n ⊢;refine⟨_,(Ac (Bd (Ah Ci (pv 0) Av (Ax _))
   (Ad (Ay (Cp Ab)))
   Ao)
  (Ac (Ba (i:=1) Gf.nd Z (Or.inl Z) (HX T.Bu.m ((Ga T).mono (by decide)) j Z T.Abb T.Di.b .nil BK (Aa (pv 0) Ab)))
  (Ac (Ba (i:=2) Gf.nd Z (Or.inl Z) (Bg T.RW (Qc T (Ao3 T)) j (Aa (pv 1) (Aa Af Ab))))
  (Ac (Bd (CQ (Ck (Iu (pv 1) T.Bu.c T.CK.m ((FT T).mono (by decide)) j T.CK.b .nil BK)))
   (Ad Bc)
   Ao)
  (Ad (Ay (pv 2))))))),?_⟩;refine⟨_,Z,Z,_,Z,?_⟩;refine CZ (λz=>?_) ?_
 ·injection z with z;have:u=[]:=I9 (z.trans (by decide +kernel));rw[this] at n;simp at n
 refine⟨_,Z,λr dx d q C=>⟨r,dx,u,Z,Ae,Z,?_⟩⟩;rw[HQ];have A:Rdr t (upd (upd H dx (.own r)) r (.ins t.By dx (rf u 0))) r dx u 0:=⟨Ae,AtR _,s⟩;have s1:Aq H (upd (upd H dx (.own r)) r (.ins t.By dx (rf u 0))):=(Aq.upd q).over d;refine⟨_,Z,r,dx,u,0,ps,a,_,Z,A,v,h,I,x,λB rs H' y f p l J=>?_⟩;refine⟨_,Z,r,dx,rf u u.length,Z,f.1,(CP u _).1,r,dx,u,u.length,Z,f,_,Z,?_⟩;rw[zN rfl];have D:Aq H H':=λb o e=>y b o (Bb e d) (s1 b o e);exact⟨_,Z,k B rs H' D (s1.free p) l J⟩
end
theorem AfD(z:NI):∀(ys:NN)(acc:Array Nat),(ys.map tx).foldl (λacc p=>acc++(tx z).cps++p.cps) acc=acc++((ys.map λy=>z++y).flatten).toArray
 | [],acc=>by simp
 | y::ys,acc=>by
  rw[AtM,List.foldl_cons,AfD z ys];simp[tx]
theorem Vr(z y:NI)(ys:NN):Txt.join (tx z) ((y::ys).map tx)=tx (y++(ys.map λy=>z++y).flatten):=by show Str.mk _=_;simp only [AtM,List.drop_one,List.tail_cons,List.headD_cons];rw[AfD];simp[tx]
def rT:NN->NI
 | []=>[]
 | p::r=>YF p r
def nT (pss:NN):NA:=((pss.map ofN).map Sq).flatten
def gt (row:NI)(i:Nat):Nat:=row.getD i 0
def un (row:NI)(i:Nat):Prop:=gt row (i+1)=gt row i+1\/gt row i=gt row (i+1)+1
noncomputable instance (row:NI) (i:Nat):Decidable (un row i):=inferInstanceAs (Decidable (_\/_))
def cs (n:Nat):Nat:=(dec n).length+1
def cPx (p:NI):Nat:=(p.map cs).sum
def cT (pss:NN):Nat:=(pss.map cPx).sum
theorem Abj:∀ r,(tails r).length=cPx r
 | []=>rfl
 | n::r=>by
  rw[tails,AtS,AtI,Abj r];show _=(dec n).length+1+cPx r;lia
theorem Abk{p:NI}(h:p≠[]):(Ju p).length+1=cPx p:=by
 cases p with
 | nil=>exact absurd Z h
 | cons n r =>
  rw[Ju,AtI,Abj];show _=(dec n).length+1+cPx r;lia
theorem AfE:∀ r,(∀ p∈r,p≠[])->(more r).length=cT r
 | [],_=>rfl
 | p::r,h=>by
  have h1:=Abk (h p AtJ);rw[more,AtS,AtI,AfE r λq a=>h q (AtL _ a)];show _=cPx p+cT r;lia
theorem ApW{a:NN}(h:a≠[])(b:∀ p∈a,p≠[]):(rT a).length+1=cT a:=by
 cases a with
 | nil=>exact absurd Z h
 | cons p r =>
  have h1:=Abk (b p AtJ);show(YF p r).length+1=cPx p+cT r;unfold YF;rw[AtI,AfE r λq c=>b q (AtL _ c)];lia
def must(row:NI)(P:Nat->Bool)(i:Nat):Prop:=i=0\/i+1=row.length\/P i=true\/P (i+1)=true\/(gt row (i+1):Int)-gt row i≠(gt row i:Int)-gt row (i-1)
def gs (row:NI)(i:Nat):Prop:=i=0\/¬un row (i-1)\/i+1=row.length\/¬un row i\/gt row (i-1)=gt row (i+1)
noncomputable instance (row:NI) (i:Nat):Decidable (gs row i):=inferInstanceAs (Decidable (_\/_))
def nb (row:NI)(k:Nat):Nat:=((List.range k).map λi=>if 0<i/\¬un row (i-1) then 1 else 0).sum
def ArK (v:NI)(i:Nat):Prop:=i=0\/i+1=v.length\/gt v (i-1)=gt v (i+1)
noncomputable instance (v:NI) (i:Nat):Decidable (ArK v i):=inferInstanceAs (Decidable (_\/_))
def cv (v:NI):Nat:=((List.range v.length).map λi=>if ArK v i then cs (gt v i) else 0).sum
section
variable {K:NF}{base:Heap}
theorem ArL{k:Nat}{ps:NX}{s1 a:Sp}(F:Bl P w K mg base CX k f fd ps s1)(G:Bl P w K mg base CX k f fd ps a):Bl P w K mg base CX k f fd ps (λvs H Q E=>s1 vs H Q E\/a vs H Q E) :=
 ⟨λvs H Q E h=>h.elim (F.len vs H Q E) (G.len vs H Q E),λA outer s H args us vs Q E c e b d h=>h.elim (F.run A outer s H args us vs Q E c e b d) (G.run A outer s H args us vs Q E c e b d)⟩
inductive Ali (vs:Na)(H:Hp)(Q:VK)(z3:XK):Prop
|mk(_:vs=[.str (tx [])])(_:∀ l H',Aq H H'->H l=none->H' l=some (.lst [])->Q (.ref l) H')
theorem AdG(T:Txt K mg t):Bl P w K mg base CX0 8 t.Lz t.LC ["text"] Ali:=by
 refine T.AaN.F.ok Gf ?_;rintro _ _ _ _ H _ Q E a ⟨rfl,k⟩;refine⟨_,(Ac (Bd (Ah Ci (pv 0) Av (Ax _))
   (Ad (Ay (Cp Ab)))
   Ao)
  (Ac (Ba (i:=1) Gf.nd Z (Or.inl Z) (HX T.Bu.m ((Ga T).mono (by decide)) a Z T.Abb T.Di.b .nil BK (Aa (pv 0) Ab)))
  (Ac (Ba (i:=2) Gf.nd Z (Or.inl Z) (Bg T.RW (Qc T (Ao3 T)) a (Aa (pv 1) (Aa Af Ab))))
  (Ac (Bd (CQ (Ck (Iu (pv 1) T.Bu.c T.CK.m ((FT T).mono (by decide)) a T.CK.b .nil BK)))
   (Ad Bc)
   Ao)
  (Ad (Ay (pv 2))))))),?_⟩;refine⟨_,Z,Z,_,Z,?_⟩;exact⟨AtR _,λq d=>k q _ (.upd d) d Ae⟩
inductive Alj (t:Adr)(vs:Na)(H:Hp)(Q:VK)(z3:XK):Prop
|mk(pss:NN)(_:vs=[.str (tx (rT pss))])(_:(∀ p∈pss,Okp p))(_:pss.length<=900)(_:(rT pss).length<=1000000)(_:∀ li rs H',Aq H H'->H' li=some (.lst (rs.map V.ref))->Vp t H' rs (pss.map ofN)->Q (.ref li) H')
theorem AdH(T:Txt K mg t):Bl P w K mg base CX0 8 t.Lz t.LC ["text"] (Alj t):=(ArL (AdF T) (AdG T)).imp λvs H Q E h=>by
 obtain⟨c,rfl,e,s,f,k⟩:=h;cases c with
 | nil=>exact .inr ⟨Z,λl H1 s1 u d=>k l [] H1 s1 d ⟨Z,λi a ss h=>by simp at h,AtR _⟩⟩
 | cons p r=>exact .inl ⟨p,r,Z,e p AtJ,λq m=>e q (AtL _ m),by grind,f,λn rs H1 s1 j b o=>k n rs H1 s1 b o⟩
theorem An3(sss:NV)(h:∀ z∈sss,1<=z.length):(sss.map psz).sum=((sss.map Sq).flatten.length:Int):=by
 induction sss with
 | nil=>rfl
 | cons z r a =>
  rw[AtM,Aul,a λy b=>h y (AtL _ b),<- Alf (h z AtJ),AtM,Auq,AtI];exact Ar.f3
inductive An4 (t:Adr)(vs:Na)(H:Hp)(Q:VK)(z3:XK):Prop
|mk(pss:NN)(_:vs=[.str (tx (rT pss))])(_:(∀ p∈pss,Okp p))(_:pss.length<=900)(_:(rT pss).length<=1000000)(_:(nT pss).length<=400)(_:∀ q H',Aq H H'->H q=none->H' q=some (.lst (vI (nT pss)))->Q (.ref q) H')
theorem AdI(T:Txt K mg t):Bl P w K mg base CX0 9 t.RL t.RM ["text"] (An4 t):=by
 refine T.Vg.F.ok Xi ?_;rintro _ _ _ _ H _ Q E e ⟨a,rfl,h,B,o,d,k⟩;refine⟨_,(Ac (Ba (i:=1) Xi.nd Z (Or.inl Z) (Bg T.AaN (AdH T) e (Aa (pv 0) Ab)))
  (Ac (Bd (Ah HF (Bg T.AaM (AbA T) e (Aa (pv 1) Ab)) (CG (v:=.int 400) Z T.AaZ.choose_spec ⟨_,Z⟩) (Ax _))
   (Ad Bc)
   Ao)
  (Ad (Ay (Bg T.YB (Abi T) e (Aa (pv 1) Ab)))))),?_⟩;refine⟨_,Z,a,Z,h,B,o,λl rs H1 s1 b m=>?_⟩;have sz:((a.map ofN).map psz).sum=((nT a).length:Int):=An3 _ λz D=>by
  obtain⟨p,A,rfl⟩:=yC.mp D;unfold ofN;rw[AtG];exact(h p A).ne
 refine⟨_,Z,l,rs,_,Z,b,m,λH2 c=>?_⟩;rw[sz];refine⟨_,_,Z,Z,_,Z,?_⟩;refine CZ (by grind) ?_;refine⟨_,Z,l,rs,_,Z,c _ _ b,m.same c,by rw[sz];exact Ar.j3 d,λss x s u=>?_,λq C y I r=>?_⟩
 ·obtain⟨qs,f,rfl⟩:=yC.mp x;obtain⟨n,j,rfl⟩:=yC.mp u;have:= (h qs f).bd n j;show n<=400;exact Ar.g2 this
 ·exact k q C ((s1.trans c).trans y) ((s1.trans c).free I) r
theorem ArM{p:NI}(h:∀ n∈p,n<100):cPx p<=3*p.length:=by
 induction p with
 | nil=>exact AtH _
 | cons n r a =>
  have h1:=(dec_is (h n AtJ)).l2;have h2:=a λm b=>h m (AtL _ b);show(dec n).length+1+cPx r<=3*(r.length+1);lia
end
structure NL (H:Hp)(y:Addr)(rs:NU)(tss:NV):Prop where
 h:H y=some (.lst (rs.map V.ref))
 l:rs.length=tss.length
 r:∀(i:Nat)(a:Addr)(ks:NA),rs[i]?=some a->tss[i]?=some ks->H a=some (.lst (vI ks))
theorem NL.same(N:NL H y rs tss)(s:Aq H H'):NL H' y rs tss:=⟨s _ _ N.h,N.l,λi a ks h1 h2=>s _ _ (N.r i a ks h1 h2)⟩
theorem NL.at{H:Hp}{y:Addr}{rs:NU}{tss:NV}(N:NL H y rs tss){i:Nat}{a:V}(h:(rs.map V.ref)[i]?=some a):∃ r ks,a=.ref r/\rs[i]?=some r/\tss[i]?=some ks/\H r=some (.lst (vI ks)):=by
 rw[AtQ] at h;cases e:rs[i]? with
 | none=>simp_all
 | some r =>
  rw[e] at h;cases h;have hi:i<tss.length:=by rw[<- N.l];exact(zC.mp e).1
  exact⟨r,tss[i],Z,Z,AtF hi,N.r i r _ e (AtF hi)⟩
section
variable {K:NF}{base:Heap}
theorem AcI(h:n<100):∀ c∈dec n,c≠47/\c≠44:=λc hc=>by have:=(dec_is h).dg c hc;omega
theorem YG:∀{r:NI},(∀ n∈r,n<100)->∀ c∈tails r,c≠47/\c≠44
 | [],_,c,hc=>by cases hc
 | n::r,h,c,hc=>by
  rcases yD.mp hc with z | z
  ·lia
  ·rcases zG.mp z with z | z
   ·exact AcI (h n AtJ) c z
   ·exact YG (λm a=>h m (AtL _ a)) c z
theorem Abl{p:NI}(h:∀ n∈p,n<100):∀ c∈Ju p,c≠47/\c≠44:=λc hc=>by
 cases p with
 | nil=>cases hc
 | cons n r =>
  rcases zG.mp hc with z | z
  ·exact AcI (h n AtJ) c z
  ·exact YG (λm a=>h m (AtL _ a)) c z
theorem Alk:∀{a:NN},(∀ p∈a,Okp p)->∀ c∈rT a,c≠47/\c≠44
 | [],_,c,hc=>by cases hc
 | p::r,h,c,hc=>by
  have key:∀(r:NN),(∀ p∈r,Okp p)->∀ c∈more r,c≠47/\c≠44:=λr=>by
   induction r with
   | nil=>intro _ c hc;cases hc
   | cons p r d =>
    intro h c hc;rcases yD.mp (hc) with z | z
    ·lia
    ·rcases zG.mp z with z | z
     ·exact Abl (h p AtJ).bd c z
     ·exact d (λq b=>h q (AtL _ b)) c z
  rcases zG.mp (hc) with z | z
  ·exact Abl (h p AtJ).bd c z
  ·exact key r (λq b=>h q (AtL _ b)) c z
def Wr (u:NI)(ks:NA):Prop:=∃ pss,u=rT pss/\(∀ p∈pss,Okp p)/\pss.length<=900/\(rT pss).length<=1000000/\(nT pss).length<=400/\nT pss=ks
theorem Wr.signs(h:Wr u ks):∀ c∈u,c≠47/\c≠44:=by obtain⟨a,rfl,h1,_⟩:=h;exact Alk h1
inductive ApX (vs:Na)(H:Hp)(Q:VK)(z3:XK):Prop
|mk(u:NI)(ks:NA)(_:vs=[.str (tx u)])(_:Wr u ks)(_:∀ q H',Aq H H'->H q=none->H' q=some (.lst (vI ks))->Q (.ref q) H')
theorem AgS(T:Txt K mg t):Bl P w K mg base CX0 9 t.RL t.RM ["text"] ApX:=(AdI T).imp λvs H Q E ⟨u,ks,e,⟨a,d,h1,h2,h3,h4,c⟩,k⟩=>⟨a,by rw[e,d],h1,h2,h3,h4,λq H' s f b=>k q H' s f (c▸b)⟩
theorem Alm:∀{a:NN},(∀ p∈a,Okp p)->(rT a).length<=3*a.flatten.length:=λ{a} h=>by
 have key:∀{r:NN},(∀ p∈r,Okp p)->cT r<=3*r.flatten.length:=λ{r} h=>by
  induction r with
  | nil=>exact AtH _
  | cons p r d =>
   have h1:=ArM (h p AtJ).bd;have h2:=d λq b=>h q (AtL _ b);unfold cT at h2 ⊢;grind
 by_cases c:a=[]
 ·rw[c];exact AtR _
 ·have:= ApW c λp e=>zY.mp (h p e).ne;have:= key h;lia
theorem z0(i:Nat):(0+(i:Int)).toNat=i:=by omega
theorem Gx(K:NF)(n:String):W.kitOne K (.type n) (.type n)=some true:=if_pos (beq_self_eq_true _)
theorem AfF{d:Nat}:(V.str ⟨#[c]⟩:V)=V.str ⟨#[d]⟩↔c=d :=
 ⟨λz=>by injection z with z;exact(List.cons.inj (I9 z)).1,λz=>by rw[z]⟩
theorem e35:(V.str ⟨#[35]⟩:V)=V.str "#" := congrArg V.str (by decide +kernel)
theorem e46:(V.str ⟨#[46]⟩:V)=V.str "." := congrArg V.str (by decide +kernel)
theorem Cv(h:n<=40):n<=sizeLine:=AtW h (by decide)
theorem occ(h:Sg c):(!(!(Builtin.Str.occurrences "#." ⟨#[c]⟩ 0 (Str.length "#.") 1).isEmpty))=false:=by rcases h with h | h <;> subst h <;> decide +kernel
inductive AbC (vs:Na)(H:Hp)(Q:VK)(z3:XK):Prop
|mk(t:NI)(_:vs=[.str (tx t),.int (t.length:Int),.str "#."])(_:(∀ c∈t,Sg c))(_:t.length<=40)(_:Q .non H)
theorem AbD(T:Txt K mg t):Bl P w K mg base CX0 1 t.Ux t.Uy ["text", "ends", "signs"] AbC:=by
 refine T.AaL.F.ok Q8 ?_;rintro _ _ _ _ H _ Q E d ⟨t,rfl,a,b,k⟩;refine⟨_,(Ac (Bd (Ah G5 (Ai Bs Z T.BJ Bj (Aa (pv 0) Ab)) (pv 1) (Ax _))
   (Ad Bc)
   Ao)
  (Ad (BX PassesOwn.never Z (RC (pv 0)) (Bp (i:=3) Q8.nd Z (Or.inl Z))
   (Ad (Bd (Ah S6 (pv 3) (pv 2) Z)
    (Ad Bc)
    Ao))))),?_⟩;refine⟨_,Z,_,Z,(by exact Cv b),_,Z,Z,_,Z,?_⟩;refine Oa (by rw[Al]) ?_;refine⟨_,Z,_,Z,Adg (λi σ H2=>∃ v,σ=[some (.str (tx t)),some (.int (t.length:Int)),some (.str "#."),v]/\H2=H) ⟨none,Z,Z⟩ ?_ ?_⟩
 ·rintro i c σ H2 hc ⟨v,rfl,rfl⟩;rw[Ob] at hc;refine⟨_,Z,_,Z,_,_,Z,Z,_,Z,?_⟩;rw[occ (a c (AtN hc))];exact Iz ⟨_,Z,Z⟩
 ·simp_all
inductive Vs (K:NF)(vs:Na)(H:Hp)(Q:VK)(z3:XK):Prop
|mk(a:Addr)(cl:NN)(m:Nat)(n:Nat)(_:vs=[.ref a,.int 1,.str "#."])(_:SqL K H a (vS cl))(_:Cl cl m n)(_:∀ p,H p=none->Q (.ref p) (upd H p (.tup [.int (m:Int),.int (n:Int)])))
theorem Vt(T:Txt K mg t):Bl P w K mg base CX0 2 t.K4 t.K6 ["texts", "least", "signs"] (Vs K):=by
 refine T.Px.F.ok Gk ?_;rintro _ _ _ _ H _ Q E o ⟨a,cl,m,n,rfl,c,C,k⟩;have f:(vS cl).length=n:=by rw[Bt,C.hn]
 have j:0<cl.length:=by rw[C.hn];exact C.n1
 have d:=C.hm cl[0] (AtT j);have c1:=C.n1;have c2:=C.n40;have c3:=C.m1;have h:=C.m40;refine⟨_,(Ac (Bd (PW.pt (pw_or (Ah Ge (Ai (Ak (K:=K)) Z T.BJ Bj (Aa (pv 0) Ab)) (pv 1) (Ax _)) (pw_or1 (Ah HF (Ai (Ak (K:=K)) Z T.BJ Bj (Aa (pv 0) Ab)) (CG (v:=.int 40) Z T.Ec.choose_spec ⟨_,Z⟩) (Ax _)))))
   (Ad Bc)
   Ao)
  (Ac (Ba (i:=3) Gk.nd Z (Or.inl Z) (Ai Bs Z T.BJ Bj (Aa (Az (Aw) (pv 0) Af (λ_ _=>rfl)) Ab)))
  (Ac (Bd (PW.pt (pw_or (Ah Ge (pv 3) (pv 1) (Ax _)) (pw_or1 (Ah HF (pv 3) (CG (v:=.int 40) Z T.Ec.choose_spec ⟨_,Z⟩) (Ax _)))))
   (Ad Bc)
   Ao)
  (Ac (BX PassesOwn.never Z (Bq (K:=K) (pv 0)) (Bp (i:=4) Gk.nd Z (Or.inl Z))
   (Ad (Bo (Bg T.AaL (AbD T) o (Aa (pv 4) (Aa (pv 3) (Aa (pv 2) Ab)))))))
  (Ad (Ay (Ir (Aa (pv 3) (Aa (Ai (Ak (K:=K)) Z T.BJ Bj (Aa (pv 0) Ab)) Ab))))))))),?_⟩;refine⟨_,Z,_,_,Z,.inl c,_,Z,_,_,Z,Z,_,Z,?_⟩;refine CZ (by grind) ?_;refine⟨_,Z,_,_,Z,.inl c,_,_,Z,Z,_,Z,?_⟩;refine CZ (by grind) ?_;refine⟨_,Z,_,_,_,_,Z,Z,c,Br (by decide) (ZM (AtF j)),_,Z,(by rw[Al,d];exact Cv h),?_⟩;rw[Al,d];refine⟨_,Z,_,Z,_,_,Z,Z,_,Z,?_⟩;refine CZ (by exact Ar.i3 c3) ?_;refine⟨_,Z,_,_,Z,Z,_,Z,?_⟩;refine CZ (by exact Ar.i3 h) ?_;refine⟨_,Z,_,Z,⟨_,c⟩,Cr (λi σ H2=>∃ v,σ=[some (.ref a),some (.int 1),some (.str "#."),some (.int (m:Int)),v]/\H2=H) ⟨none,Z,Z⟩ (λi σ H2 _ ⟨_,_,e⟩=>e▸c) ?_ ?_⟩
 ·rintro i x σ H2 l ⟨v,rfl,rfl⟩;obtain⟨t,q,rfl⟩:=Ff l;have b:=AtN q;refine⟨_,Z,_,Z,_,Z,t,?_,C.sg t b,?_,⟨_,Z,Z⟩⟩
  ·rw[C.hm t b];rfl
  ·rw[C.hm t b];exact h
 ·rintro σ H2 ⟨v,rfl,rfl⟩;refine⟨_,Z,_,Z,_,_,Z,.inl c,(by show 2<=sizeLine;decide),λp r=>?_⟩;rw[f];exact k p r
inductive AfG (K:NF)(vs:Na)(H:Hp)(Q:VK)(z3:XK):Prop
|mk(a:Addr)(cl:NN)(m:Nat)(n:Nat)(_:vs=[.ref a])(_:SqL K H a (vS cl))(_:Cl cl m n)(_:∀ p,H p=none->Q (.ref p) (upd H p (.tup [.int (m:Int),.int (n:Int)])))
theorem Hq(T:Txt K mg t):Bl P w K mg base CX0 3 t.Aa6 t.Aa7 ["cloth"] (AfG K):=by refine T.measured.F.ok Afy ?_;rintro _ _ _ _ H _ Q E c ⟨a,cl,m,n,rfl,b,C,k⟩;exact⟨_,(Ad (Ay (Bg T.Px (Vt T) c (Aa (pv 0) (Aa Af (Aa Av Ab)))))),_,Z,a,cl,m,n,Z,b,C,k⟩
inductive AdJ (K:NF)(vs:Na)(H:Hp)(Q:VK)(z3:XK):Prop
|mk(a:Addr)(cl:NN)(m:Nat)(n:Nat)(e:Nat)(_:vs=[.ref a,.int (e:Int)])(_:SqL K H a (vS cl))(_:Cl cl m n)(_:e<m)(_:∀ H',Aq H H'->Q (.str (tx (col cl e))) H')
theorem Vu(T:Txt K mg t):Bl P w K mg base CX0 1 t.XJ t.XM ["cloth", "end"] (AdJ K):=by
 refine T.Wt.F.ok Tz ?_;rintro _ _ _ _ H _ Q E r ⟨a,cl,m,n,e,rfl,f,C,o,k⟩;have c2:=C.n40;have l:=C.m40;refine⟨_,(Ad (Ay (Bw zI zS zV (Dk (K:=K)) Av (Aa (Cg (cok [1] ["text", "end"] Tz) Z (Bq (K:=K) (pv 0)) (λ_ _ _ _ _=>.nil) (λ_ _ _ _ _=>(Az Hs (pv 0) (pv 1) (λ_ _=>rfl)))) Ab)))),?_⟩;refine⟨Z,_,Z,_,Z,⟨_,f⟩,BV (xs:=vS cl) (λi ys H2=>H2=H/\ys=vS ((cl.take i).map λt=>[t.getD e 0])) ⟨Z,Z⟩ ?_ ?_ ?_ ?_⟩
 ·rintro i ys H2 hi ⟨rfl,rfl⟩;refine⟨f,?_⟩;rw[Bt,AtG,AtX];exact Ar.k7
 ·rw[Bt,C.hn];exact Cv c2
 ·rintro i x ys H2 hi j ⟨rfl,rfl⟩;obtain⟨t,h,rfl⟩:=Ff j;have d:=AtN h;have c:=C.hm t d;have b:e<t.length:=by exact Ar.b3 c o
  refine⟨_,Z,_,Z,_,_,t[e],Z,Z,(by rw[Al,c];exact Cv l),(by exact Ahl (AtF b)),?_⟩;refine CN.of hi ⟨Z,?_⟩;rw[Lj,Dm,AtV,h];simp[List.getD,b]
 ·rintro ys H2 p ⟨rfl,rfl⟩ q;rw[Bt,Aue];refine⟨_,_,((cl.map λt=>[t.getD e 0]).map tx),Z,Z,SqL.of (by rw[Ae,Fy]),?_,?_⟩
  ·have e1:=AjO (λt:NI=>t.getD e 0) cl;rw[e1,AtG,AtG,C.hn];have:n*(Str.length "")=0:=by rw[show Str.length "" = 0 from by decide +kernel];exact Ar.f1
   exact Ar.a2 c2
  ·rw[show(("" : Str))=tx [] from by decide +kernel,Ln];have e2:=AbY (λt:NI=>t.getD e 0) cl;rw[e2];exact k _ (.upd q)
inductive AiV (vs:Na)(H:Hp)(Q:VK)(z3:XK):Prop
|mk(c:Nat)(_:vs=[.int (c:Int)])(_:1<=c)(_:c<=40)(_:Q .non H)
theorem EY(T:Txt K mg t):Bl P w K mg base CX0 1 t.Hj t.Hk ["count"] AiV:=by
 refine T.BP.F.ok Nv ?_;rintro _ _ _ _ H _ Q E a ⟨c,rfl,h1,h2,k⟩;refine⟨_,(Ad (Bd (PW.pt (pw_or (Ah Ge (pv 0) Af (Ax _)) (pw_or1 (Ah HF (pv 0) (CG (v:=.int 40) Z T.Ec.choose_spec ⟨_,Z⟩) (Ax _)))))
   (Ad Bc)
   Ao)),?_⟩;refine⟨_,Z,_,_,Z,Z,_,Z,?_⟩;refine CZ (by exact Ar.i3 h1) ?_;refine⟨_,Z,_,_,Z,Z,_,Z,?_⟩;exact CZ (by exact Ar.i3 h2) k
inductive AiW (vs:Na)(H:Hp)(Q:VK)(z3:XK):Prop
|mk(v:Int)(_:vs=[.int v])(_:0<=v)(_:v<40)(_:Q .non H)
theorem Qd(T:Txt K mg t):Bl P w K mg base CX0 1 t.QV t.QW ["shaft"] AiW:=by
 refine T.Py.F.ok Aat ?_;rintro _ _ _ _ H _ Q E a ⟨v,rfl,h1,h2,k⟩;refine⟨_,(Ad (Bd (PW.pt (pw_or (Ah Ge (pv 0) Af (Ax _)) (pw_or1 (Ah Z3 (pv 0) (CG (v:=.int 40) Z T.Ab5.choose_spec ⟨_,Z⟩) (Ax _)))))
   (Ad Bc)
   Ao)),?_⟩;refine⟨_,Z,_,_,Z,Z,_,Z,?_⟩;refine CZ (by exact Ar.e7 h1) ?_;refine⟨_,Z,_,_,Z,Z,_,Z,?_⟩;exact CZ (by exact Ar.e6 h2) k
inductive An5 (vs:Na)(H:Hp)(Q:VK)(z3:XK):Prop
|mk(a:Addr)(ks:NA)(_:vs=[.ref a])(_:H a=some (.lst (vI ks)))(_:Rs ks)(_:ks.length<=1000)(_:Q .non H)
theorem AdK(T:Txt K mg t):Bl P w K mg base CX0 2 t.XN t.XQ ["tie"] An5:=by
 refine T.Acy.F.ok T3 ?_;rintro _ _ _ _ H _ Q E f ⟨a,ks,rfl,d,R,h,k⟩;refine⟨_,(Ad (BX PassesOwn.never Z (Ca Z T.Cq (Aa (Ai (Ak) Z T.BJ Bj (Aa (pv 0) Ab)) Ab)) (Bp (i:=1) T3.nd Z (Or.inl Z))
   (Ac (Bo (Bg T.Py (Qd T) f (Aa (Az (Aw (K:=K)) (pv 0) (pv 1) (λ_ _=>rfl)) Ab)))
   (Ad (Bd (PW.pt (pw_and (Ah HF (pv 1) Af (Ax _)) (pw_and1 (Ah Aj7 (Az (Aw (K:=K)) (pv 0) (pv 1) (λ_ _=>rfl)) (Az (Aw (K:=K)) (pv 0) (Bx G6 (pv 1) Af) (λ_ _=>rfl)) (Ax _)))))
    (Ad Bc)
    Ao))))),?_⟩;refine⟨_,Z,_,_,Z,.inl (SqL.of d),_,Z,(by exact Ar.a7),(by rw[Bh];lia),?_⟩;rw[Auh,Bh];refine Dw (λi σ H2=>∃ v,σ=[some (.ref a),v]/\H2=H) ⟨none,Z,Z⟩ ?_ ?_
 ·rintro i σ H2 hi ⟨v,rfl,rfl⟩;have e1:atI (vI ks) (0+(i:Int))=some (.int ks[i]):=Br (by exact Ar.a5) (by rw[z0];exact Fw (AtF hi));have b:=R.2 _ (AtT hi);refine⟨_,Z,_,Z,_,_,_,_,Z,Z,SqL.of d,e1,_,Z,b.1,b.2,?_⟩;refine⟨_,Z,_,_,Z,Z,_,Z,?_⟩;by_cases e:i=0
  ·subst e;exact Iz ⟨_,Z,Z⟩
  ·have c:i-1<ks.length:=by exact Ar.c5 hi
   have e2:atI (vI ks) (0+(i:Int)-1)=some (.int ks[i-1]):=Br (by lia) (by rw[show(0+(i:Int)-1).toNat=i-1 by omega];exact Fw (AtF c));have lt:=R.1 (i-1) ks[i-1] ks[i] (AtF c) (by rw[show i-1+1=i by exact Ar.c8 e];exact AtF hi);refine Jx (by lia) ?_;refine⟨_,Z,_,Z,_,_,_,_,Z,Z,SqL.of d,e1,_,Z,_,Z,_,_,Z,Z,_,_,_,_,Z,Z,SqL.of d,e2,_,_,Z,Z,_,Z,?_⟩;refine CZ (by exact Ar.e6 lt) ?_;exact⟨_,Z,Z⟩
 ·simp_all
theorem Atd(R:Rs ks):ks.length<=40:=by
 have step:∀(i:Nat)(a:Int),ks[i]?=some a->(i:Int)<=a:=by
  intro i
  induction i with
  | zero=>exact λa h=>(R.2 a (AtN h)).1
  | succ i b =>
   intro a h;have hi:i<ks.length:=by have:= (zC.mp h).1;exact Ar.c3 this
   have:= b ks[i] (AtF hi);have:= R.1 i ks[i] a (AtF hi) h;lia
 by_cases h:ks.length=0
 ·exact Ar.a2 (Ar.d2 h)
 ·have hi:ks.length-1<ks.length:=by exact Ar.c9 (Ar.h2 h)
  have h1:=step (ks.length-1) _ (AtF hi);have h2:=R.2 _ (AtT hi);lia
theorem Aln(R:Rs ks):ks.length<=1000:=AtW (Atd R) (by decide)
inductive AfH (vs:Na)(H:Hp)(Q:VK)(z3:XK):Prop
|mk(x:Addr)(y:Addr)(rs:NU)(th:NA)(tss:NV)(tr:NA)(_:vs=[.ref x,.ref y])(_:H x=some (.lst (vI th)))(_:NL H y rs tss)(_:Ft th tss tr)(_:Q .non H)
theorem WD(T:Txt K mg t):Bl P w K mg base CX0 3 t.M9 t.MF ["threading", "ties"] AfH:=by
 refine T.Rm.F.ok G8 ?_;rintro _ _ _ _ H _ Q E f ⟨x,y,rs,th,tss,tr,rfl,n,N,F,k⟩;refine⟨_,(Ac (Bo (Eb ((EY T).mono (by decide)) f Z T.BP.m T.BP.F.kp T.BP.b .nil BK (Aa (Ai (Ak (K:=K)) Z T.BJ Bj (Aa (pv 0) Ab)) Ab)))
  (Ac (Bo (Eb ((EY T).mono (by decide)) f Z T.BP.m T.BP.F.kp T.BP.b .nil BK (Aa (Ai (Ak (K:=K)) Z T.BJ Bj (Aa (pv 1) Ab)) Ab)))
  (Ac (BX PassesOwn.never Z (Bq (K:=K) (pv 0)) (Bp (i:=2) G8.nd Z (Or.inl Z))
   (Ad (Bo (Bg T.Py (Qd T) f (Aa (pv 2) Ab)))))
  (Ad (BX PassesOwn.never Z (Bq (K:=K) (pv 1)) (Bp (i:=3) G8.nd Z (Or.inl Z))
   (Ad (Bo (Bg T.Acy (AdK T) f (Aa (pv 3) Ab))))))))),?_⟩;refine⟨_,Z,_,_,Z,.inl (SqL.of n),th.length,(by rw[Bh] <;> rfl),F.m1,F.m40,?_⟩;refine⟨_,Z,_,_,Z,.inl (SqL.of N.h),tss.length,(by rw[AtG,N.l] <;> rfl),F.t1,F.t40,?_⟩;refine⟨_,Z,_,Z,⟨_,SqL.of n⟩,Cr (λi σ H2=>∃ c a,σ=[some (.ref x),some (.ref y),c,a]/\H2=H) ⟨none,none,Z,Z⟩ (λi σ H2 _ ⟨_,_,_,e⟩=>e▸SqL.of n) ?_ ?_⟩
 ·rintro i q σ H2 d ⟨c,a,rfl,rfl⟩;obtain⟨z,s,rfl⟩:=Ek d;have b:=F.hth z (AtN s);exact⟨_,Z,z,Z,b.1,b.2,_,_,Z,Z⟩
 ·rintro σ H2 ⟨c,a,rfl,rfl⟩;refine⟨_,Z,_,Z,⟨_,SqL.of N.h⟩,Cr (λi σ o=>∃ c a,σ=[some (.ref x),some (.ref y),c,a]/\o=H2) ⟨c,a,Z,Z⟩ (λi σ o _ ⟨_,_,_,e⟩=>e▸SqL.of N.h) ?_ ?_⟩
  ·rintro i q σ o d ⟨c,a,rfl,rfl⟩;obtain⟨r,ks,rfl,_,p,j⟩:=N.at d;have R:=F.hti ks (AtN p);exact⟨_,Z,r,ks,Z,j,R,Aln R,_,_,Z,Z⟩
  ·simp_all
inductive AdL (vs:Na)(H:Hp)(Q:VK)(z3:XK):Prop
|mk(z:Addr)(th:NA)(tss:NV)(tr:NA)(_:vs=[.ref z,.int (tss.length:Int)])(_:H z=some (.lst (vI tr)))(_:Ft th tss tr)(_:Q .non H)
theorem Vv(T:Txt K mg t):Bl P w K mg base CX0 2 t.K7 t.K9 ["treading", "treadles"] AdL:=by
 refine T.P0.F.ok J0 ?_;rintro _ _ _ _ H _ Q E f ⟨z,th,tss,tr,rfl,c,F,k⟩;refine⟨_,(Ac (Bo (Eb ((EY T).mono (by decide)) f Z T.BP.m T.BP.F.kp T.BP.b .nil BK (Aa (Ai (Ak) Z T.BJ Bj (Aa (pv 0) Ab)) Ab)))
  (Ad (BX PassesOwn.never Z (Bq (K:=K) (pv 0)) (Bp (i:=2) J0.nd Z (Or.inl Z))
   (Ad (Bd (PW.pt (pw_or (Ah Ge (pv 2) Af (Ax _)) (pw_or1 (Ah Z3 (pv 2) (pv 1) (Ax _)))))
    (Ad Bc)
    Ao))))),?_⟩;refine⟨_,Z,_,_,Z,.inl (SqL.of c),tr.length,(by rw[Bh] <;> rfl),F.n1,F.n40,?_⟩;refine⟨_,Z,_,Z,⟨_,SqL.of c⟩,Cr (λi σ H2=>∃ d,σ=[some (.ref z),some (.int (tss.length:Int)),d]/\H2=H) ⟨none,Z,Z⟩ (λi σ H2 _ ⟨_,_,e⟩=>e▸SqL.of c) ?_ ?_⟩
 ·rintro i j σ H2 a ⟨d,rfl,rfl⟩;obtain⟨v,h,rfl⟩:=Ek a;have b:=F.htr v (AtN h);refine⟨_,Z,_,_,Z,Z,_,Z,?_⟩;refine CZ (by exact Ar.e7 b.1) ?_;refine⟨_,Z,_,Z,_,_,Z,Z,_,Z,?_⟩;refine CZ (by exact Ar.e6 b.2) ?_;exact⟨_,Z,Z⟩
 ·simp_all
def df (a b c:Addr):List (Str × V):=[("threading", .ref a),("ties", .ref b),("treading", .ref c)]
theorem ArN(a b c:Addr):(df a b c).lookup ("threading" : Str)=some (V.ref a):=rfl
theorem ArO(a b c:Addr):(df a b c).lookup ("ties" : Str)=some (V.ref b):=rfl
theorem ArP(a b c:Addr):(df a b c).lookup ("treading" : Str)=some (V.ref c):=rfl
theorem NL.other{fs:List (Str × V)}(N:NL H y rs tss)(b:Dl r H H')(c:H r=some (.ins C dx fs)):NL H' y rs tss :=
 ⟨b _ _ (λe=>by have:= N.h;rw[e,c] at this;cases this) N.h,N.l,λi a ks h1 h2=>b _ _ (λe=>by have:= N.r i a ks h1 h2;rw[e,c] at this;cases this) (N.r i a ks h1 h2)⟩
structure IsD (t:Adr)(H:Hp)(d dx a b c:Addr)(qs:NU)(th:NA)(tss:NV)(tr:NA):Prop where
 o:H d=some (.ins t.Fo dx (df a b c))
 ha:H a=some (.lst (vI th))
 hb:NL H b qs tss
 hc:H c=some (.lst (vI tr))
theorem IsD.same{d b c:Addr}(D:IsD t H d dx a b c qs th tss tr)(s:Aq H H'):IsD t H' d dx a b c qs th tss tr:=⟨s _ _ D.o,s _ _ D.ha,D.hb.same s,s _ _ D.hc⟩
inductive Alo (t:Adr)(vs:Na)(H:Hp)(Q:VK)(z3:XK):Prop
|mk(r:Addr)(dx:Addr)(x:Addr)(y:Addr)(z:Addr)(rs:NU)(th:NA)(tss:NV)(tr:NA)(_:vs=[.ref r,.ref x,.ref y,.ref z])(_:H r=some (.ins t.Fo dx []))(_:H x=some (.lst (vI th)))(_:NL H y rs tss)(_:H z=some (.lst (vI tr)))(_:Ft th tss tr)(_:∀ a b c qs H',Dl r H H'->H a=none->H b=none->H c=none->(∀ q∈qs,H q=none)->IsD t H' r dx a b c qs th tss tr->Q .non H')
theorem Vw(T:Txt K mg t):Bl P w K mg base CX0 4 t.GJ t.Kw ["self", "threading", "ties", "treading"] (Alo t):=by
 refine T.KQ.F.ok J4 ?_;rintro _ _ _ _ H _ Q E hr ⟨r,dx,x,y,z,rs,th,tss,tr,rfl,M,hx,N,hz,F,k⟩;have hsz:=z8;refine⟨_,(Ac (Bo (Bg T.Rm (WD T) hr (Aa (pv 1) (Aa (pv 2) Ab))))
  (Ac (Bo (Bg T.P0 (Vv T) hr (Aa (pv 3) (Aa (Ai (Ak (K:=K)) Z T.BJ Bj (Aa (pv 2) Ab)) Ab))))
  (Ac (Ib (K:=K) (pv 0) (Cw (Et (K:=K)) Z T.Gu Fb (Aa (pv 1) Ab)))
  (Ac (Ib (K:=K) (pv 0) (Cg (cok [] ["tie"] J4) Z (Bq (K:=K) (pv 2)) (λ_ _ _ _ _=>.nil) (λ_ _ _ _ _=>(Cw (Et) Z T.Gu Fb (Aa (pv 0) Ab)))))
  (Ad (Ib (K:=K) (pv 0) (Cw (Et (K:=K)) Z T.Gu Fb (Aa (pv 3) Ab)))))))),?_⟩;refine⟨_,Z,_,Z,x,y,rs,th,tss,tr,Z,hx,N,F,?_⟩;refine⟨_,Z,_,Z,_,_,Z,.inl (SqL.of N.h),z,th,tss,tr,(by rw[AtG,N.l] <;> rfl),hz,F,?_⟩;refine⟨_,Z,_,_,Z,.inl (SqL.of hx),λa na=>?_⟩;have s1:Aq H (upd H a (.lst (vI th))):=.upd na;have I:a≠r:=λe=>by simp_all
 refine⟨_,Z,_,_,_,_,Z,s1 _ _ M,T.Mi.c,T.Jq,(by decide),?_⟩;generalize D:upd (upd H a (.lst (vI th))) r (.ins t.Fo dx (Nr "threading" (.ref a) []))=H2;have b2:Dl r H H2:=λb o nb e=>by rw[<- D,Aj nb];exact s1 _ _ e
 have p:H2 r=some (.ins t.Fo dx [("threading", .ref a)]):=by rw[<- D];exact Ae
 have W:H2 a=some (.lst (vI th)):=by rw[<- D,Aj I];exact Ae
 have C:∀ q,H2 q=none->H q=none:=λq f=>by
  have u:q≠r:=λe=>by simp_all
  cases e:H q with
  | none=>rfl
  | some o=>rw[b2 q o u e] at f;cases f
 have X:=N.other b2 M;refine⟨_,Z,_,Z,⟨_,SqL.of X.h⟩,BV (xs:=rs.map V.ref) (λi ys s=>Aq H2 s/\∃ qs:NU,ys=qs.map V.ref/\qs.length=i/\(∀ q∈qs,H2 q=none)/\∀(j:Nat)(q:Addr)(ks:NA),qs[j]?=some q->tss[j]?=some ks->s q=some (.lst (vI ks)))
  ⟨.refl _,[],Z,Z,λq f=>(by cases f),λj q ks h=>(by simp at h)⟩ ?_ ?_ ?_ ?_⟩
 ·rintro i ys s hi ⟨m,qs,rfl,f,_⟩;exact⟨SqL.of (m _ _ X.h),by grind⟩
 ·rw[AtG,N.l];have:= F.t40;exact Ar.a2 this
 ·rintro i xv ys s hi ac ⟨m,qs,rfl,f,u,v⟩;obtain⟨r',ae,rfl,_,a0,Y⟩:=X.at ac;refine⟨_,Z,_,_,Z,.inl (SqL.of (m _ _ Y)),λl U=>?_⟩;refine CN.of hi ⟨m.new U,qs++[l],by rw[AtK];rfl,by rw[AtI,f];rfl,λq h=>?_,λj q ks h1 h2=>?_⟩
  ·rcases zG.mp h with h | h
   ·exact u q h
   ·rw[zF.mp h];exact m.free U
  ·by_cases hj:j<qs.length
   ·rw[Auc hj] at h1;exact(Aq.upd U) _ _ (v j q ks h1 h2)
   ·rw[AtZ (by exact Ar.a1 hj)] at h1;have e0:j=i:=by
     have:= (zC.mp h1).1;simp at this;lia
    rw[show j-qs.length=0 by omega] at h1;have e1:l=q:=by simpa using h1
    rw[e0,a0] at h2;cases h2;rw[<- e1];exact Ae
 ·rintro ys s b ⟨m,qs,rfl,f,u,v⟩ nb;rw[AtG,N.l] at f;have s4:Aq H2 (upd s b (.lst (qs.map V.ref))):=m.new nb;have J:b≠r:=λe=>by rw[e,m _ _ p] at nb;cases nb
  refine⟨_,Z,_,_,_,_,Z,s4 _ _ p,T.Mi.c,T.Rt,(by show 1<1000;decide),?_⟩;generalize n:upd (upd s b (.lst (qs.map V.ref))) r (.ins t.Fo dx (Nr "ties" (.ref b) [("threading", .ref a)]))=B;have b5:Dl r H2 B:=λb' o nb e=>by rw[<- n,Aj nb];exact s4 _ _ e
  have a6:B r=some (.ins t.Fo dx [("threading", .ref a),("ties", .ref b)]):=by rw[<- n];exact Ae
  have aa:B b=some (.lst (qs.map V.ref)):=by rw[<- n,Aj J];exact Ae
  have ab:∀(j:Nat)(q:Addr)(ks:NA),qs[j]?=some q->tss[j]?=some ks->B q=some (.lst (vI ks)):=λj q ks h1 h2=>by
   have d:q≠r:=λe=>by have:= u q (AtN h1);rw[e,p] at this;cases this
   rw[<- n,Aj d];exact(Aq.upd nb) _ _ (v j q ks h1 h2)
  have L:z≠r:=λe=>by grind
  have R:=b5 _ _ L (b2 _ _ L hz);refine⟨_,Z,_,_,Z,.inl (SqL.of R),λc nc=>?_⟩;have O:Aq B (upd B c (.lst (vI tr))):=.upd nc;have S:c≠r:=λe=>by simp_all
  refine⟨_,Z,_,_,_,_,Z,O _ _ a6,T.Mi.c,T.JC,(by show 2<1000;decide),?_⟩;have f5:∀ q,B q=none->H q=none:=λq h=>C q (by
   have d:q≠r:=λe=>by simp_all
   cases e:H2 q with
   | none=>rfl
   | some o=>rw[b5 q o d e] at h;cases h)
  refine k a b c qs _ (λb' o A e=>by rw[Aj A];exact O _ _ (b5 _ _ A (b2 _ _ A e))) na (C b (m.free nb)) (f5 c nc) (λq h=>C q (u q h)) ⟨Ae,?_,⟨?_,f,λj q ks h1 h2=>?_⟩,?_⟩
  ·rw[Aj I];exact O _ _ (b5 _ _ I W)
  ·rw[Aj J];exact O _ _ aa
  ·have d:q≠r:=λe=>by have:= u q (AtN h1);rw[e,p] at this;cases this
   rw[Aj d];exact O _ _ (ab j q ks h1 h2)
  ·rw[Aj S];exact Ae
theorem AfI(sp:NI):∀ us:NN,Txt.join (tx sp) (us.map tx)=tx (jnS sp us)
 | []=>by simp[Txt.join,Builtin.Str.glued,tx,Str.empty,jnS]
 | u::us=>by
  have key:∀(us:NN)(u:NI),u++(us.map λy=>sp++y).flatten=jnS sp (u::us):=λus=>by
   induction us with
   | nil=>intro u;simp[jnS]
   | cons v r a =>
    intro u;rw[AtM,Auq,Auk,a v];rfl
  rw[Vr,key]
theorem AdM(sp:NI){B:Nat}:∀ us:NN,(∀ u∈us,u.length<=B)->(jnS sp us).length<=us.length*(B+sp.length)
 | [],_=>AtR _
 | [u],h=>by
  have:= h u AtJ;show u.length<=1*(B+sp.length);lia
 | u::v::r,h=>by
  have h1:=h u AtJ;have h2:=AdM sp (v::r) λx a=>h x (AtL _ a);show(u++(sp++jnS sp (v::r))).length<=((v::r).length+1)*(B+sp.length);grind
theorem Qe{B:Nat}:∀ us:NN,(∀ u∈us,u.length<=B)->((us.map tx).map (·.length)).sum<=us.length*B
 | [],_=>AtR _
 | u::r,h=>by
  have h1:=h u AtJ;have h2:=Qe r λx a=>h x (AtL _ a);rw[AtM,AtM,Aul,Al,AtS];lia
def drT (a:NI)(bs:NN)(c:NI):NI:=jnS [32,47,32] [a,jnS [44,32] bs,c]
theorem Abm:((" / " : Str))=tx [32,47,32]:=by decide +kernel
theorem AdN:((", " : Str))=tx [44,32]:=by decide +kernel
def Cps (H0 H:Hp)(qs:NU)(tss:NV)(i:Nat):Prop:=qs.length=i/\(∀ q∈qs,H0 q=none)/\∀(j:Nat)(q:Addr)(ks:NA),qs[j]?=some q->tss[j]?=some ks->H q=some (.lst (vI ks))
theorem Cps.nil(a H:Hp)(tss:NV):Cps a H [] tss 0:=⟨Z,λq b=>(by cases b),λj q ks h=>(by simp at h)⟩
theorem Cps.Ate{b:Hp}(C:Cps b H qs tss i){a:NA}(s:Aq H H')(f:H' l=some (.lst (vI a)))(n0:b l=none)(hk:tss[i]?=some a):Cps b H' (qs++[l]) tss (i+1):=by
 refine⟨by rw[AtI,C.1];rfl,λq h=>?_,λj q ks h1 h2=>?_⟩
 ·rcases zG.mp h with h | h
  ·exact C.2.1 q h
  ·rw[zF.mp h];exact n0
 ·have e:=C.1;by_cases c:j<qs.length
  ·rw[Auc c] at h1;exact s _ _ (C.2.2 j q ks h1 h2)
  ·rw[AtZ (by exact Ar.a1 c)] at h1;have d:j=i:=by
    have:= (zC.mp h1).1;simp at this;lia
   rw[show j-qs.length=0 by omega] at h1;have e1:l=q:=by simpa using h1
   rw[d,hk] at h2;grind
inductive ArQ (t:Adr)(vs:Na)(H:Hp)(Q:VK)(z3:XK):Prop
|mk(u0:NI)(us:NN)(u2:NI)(th:NA)(tss:NV)(tr:NA)(_:vs=[.str (tx (drT u0 us u2))])(_:Wr u0 th)(_:us.length=tss.length)(_:(∀(i:Nat)(u:NI)(ks:NA),us[i]?=some u->tss[i]?=some ks->Wr u ks))(_:Wr u2 tr)(_:Ft th tss tr)(_:(drT u0 us u2).length<=1000000)(_:∀(d dx a b c:Addr)(qs:NU)(H':Hp),Aq H H'->IsD t H' d dx a b c qs th tss tr->Q (.ref d) H')
theorem AbE(T:Txt K mg t):Bl P w K mg base CX0 10 t.U5 t.U6 ["text"] (ArQ t):=by
 refine T.AaO.F.ok FN ?_;rintro _ _ _ _ H _ Q E L ⟨s,us,p,th,tss,tr,rfl,W0,R,Ws,W2,F,dl,k⟩;have t1:=F.t1;have aa:=F.t40;have hsz:=z8;have ab:us≠[]:=λz=>by grind
 have A:∀ u∈us,∀ c∈u,c≠47/\c≠44:=λu hu=>by
  obtain⟨i,hi,e⟩:=Aus hu;have l:i<tss.length:=by exact Ar.b2 R hi
  exact(Ws i u tss[i] (by rw[<- e];exact AtF hi) (AtF l)).signs
 have S:∀(us:NN),(∀ u∈us,∀ c∈u,c≠47/\c≠44)->47∉jnS [44,32] us:=λus=>by
  induction us with
  | nil=>intro _ h;cases h
  | cons u r ih =>
   intro h z;cases r with
   | nil=>exact(h u AtJ 47 z).1 Z
   | cons v r =>
    rcases zG.mp (z) with z | z
    ·exact(h u AtJ 47 z).1 Z
    ·rcases zG.mp z with z | z
     ·simp at z
     ·exact ih (λx hx=>h x (AtL _ hx)) z
 have jl:(jnS [44,32] us).length<=1000000:=by
  have:(drT s us p).length=s.length+(3+((jnS [44,32] us).length+(3+p.length))):=by
   unfold drT;simp[jnS];lia
  lia
 refine⟨_,(Ac (Ba (i:=1) FN.nd Z (Or.inl Z) (Bw (K:=K) zI zX z6 Acg (pv 0) (Aa (CG (v:=.str " / ") Z T.YT.choose_spec ⟨_,Z⟩) Ab)))
  (Ac (Bd (Ah G5 (Ai (Ak (K:=K)) Z T.BJ Bj (Aa (pv 1) Ab)) Af (Ax _))
   (Ad Bc)
   Ao)
  (Ac (Ba (i:=2) FN.nd Z (Or.inl Z) (Bg T.Vg (AgS T) L (Aa (Az (Aw (K:=K)) (pv 1) Af (λ_ _=>rfl)) Ab)))
  (Ac (Qn (i:=3) (cok [] ["tie"] FN) Z FN.nd Z rfl (Bq (K:=K) (Bw (K:=K) zI zX z6 Acg (Az (Aw (K:=K)) (pv 1) Af (λ_ _=>rfl)) (Aa (CG (v:=.str ", ") Z T.Aba.choose_spec ⟨_,Z⟩) Ab))) (λ_ _ _ _ _=>.nil) (λ_ _ _ _ _=>(Bg T.Vg (AgS T) L (Aa (pv 0) Ab))) Z)
  (Ad (Ay (HX T.Mi.m ((Vw T).mono (by decide)) L Z T.Ans T.KQ.b .nil BK (Aa (pv 2) (Aa (pv 3) (Aa (Bg T.Vg (AgS T) L (Aa (Az (Aw (K:=K)) (pv 1) Af (λ_ _=>rfl)) Ab)) Ab)))))))))),?_⟩;refine⟨_,Z,Z,[32,47,32],47,1,[s,jnS [44,32] us,p],Z,congrArg (λz=>[V.str z]) Abm,AiC,(by unfold drT at dl;exact Ar.f4 dl),by simp,λw N=>?_,λU a0=>?_⟩
 ·simp only [Aui,Auj,or_false] at N;rcases N with z | z | z <;> rw[z]
  ·exact λh=>(W0.signs _ h).1 Z
  ·exact S us A
  ·exact λh=>(W2.signs _ h).1 Z
 have s1:Aq H (upd H U (.lst (vS [s,jnS [44,32] us,p]))):=.upd a0;have X:(upd H U (.lst (vS [s,jnS [44,32] us,p]))) U=some (.lst (vS [s,jnS [44,32] us,p])):=Ae;refine⟨_,Z,_,_,Z,.inl (SqL.of X),Z,_,Z,?_⟩;refine⟨_,Z,_,_,_,_,Z,Z,SqL.of X,Z,s,th,Z,W0,λq0 H2 s2 ah ae=>?_⟩;have B:=s2 _ _ X;refine⟨_,Z,_,_,_,_,Z,Z,SqL.of B,Z,Z,[44,32],44,0,us,Z,congrArg (λz=>[V.str z]) AdN,Akn,by exact Ar.f4 jl,ab,λw N h=>(A w N _ h).2 Z,λlt a6=>?_⟩;obtain⟨H3,W,s3,ht⟩:=nu9 (o:=.lst (vS us)) (.refl _) a6;rw[W];refine⟨_,Z,⟨_,SqL.of ht⟩,BV (xs:=vS us) (λi ys J=>Aq H3 J/\∃ qs:NU,ys=qs.map V.ref/\Cps H3 J qs tss i) ⟨.refl _,[],Z,Cps.nil _ _ _⟩ ?_ ?_ ?_ ?_⟩
 ·rintro i ys J hi ⟨y,qs,rfl,C⟩;exact⟨SqL.of (y _ _ ht),by rw[AtG,C.1];exact AtH _⟩
 ·rw[Bt];exact Ar.g6 R aa
 ·rintro i xv ys J hi af ⟨y,qs,rfl,C⟩;obtain⟨u,hu,rfl⟩:=Ff af;have l:i<tss.length:=by grind
  have hk:=AtF l;refine⟨_,Z,u,tss[i],Z,Ws i u _ hu hk,λq H5 I nq hq=>?_⟩;exact CN.of hi ⟨y.trans I,qs++[q],by rw[AtK];rfl,C.Ate I hq (y.free nq) hk⟩
 rintro ys J lz ⟨y,f,rfl,C4⟩ O;rw[Bt,R] at C4;obtain⟨H5,W,I,ac⟩:=nu9 (o:=.lst (f.map V.ref)) (.refl _) O;rw[W];have Z5:NL H5 lz f tss:=⟨ac,C4.1,λj q ks h1 h2=>I _ _ (C4.2.2 j q ks h1 h2)⟩;have n:=(s3.trans y).trans I;refine⟨_,Z,_,Z,_,Z,_,_,_,_,Z,Z,SqL.of (n _ _ B),Z,p,tr,Z,W2,λq2 H6 s6 aj ag=>?_⟩;refine λd dx nd Y ai=>?_;have M:Aq H6 (upd (upd H6 dx (.own d)) d (.ins t.Fo dx [])):=(Aq.upd Y).over nd;refine⟨d,dx,q0,lz,q2,f,th,tss,tr,Z,Ae,M _ _ (s6 _ _ (n _ _ ae)),(Z5.same s6).same M,M _ _ ag,F,λa b c qs H7 b7 _ _ _ _ D=>⟨Z,?_⟩⟩;have s7:Aq H6 H7:=λb o e=>b7 b o (λz=>by grind) (M _ _ e);exact k d dx a b c qs H7 (((s1.trans s2).trans n).trans (s6.trans s7)) D
inductive An6 (vs:Na)(H:Hp)(Q:VK)(z3:XK):Prop
|mk(x:Addr)(l:Addr)(th:NA)(ks:NA)(_:vs=[.ref x,.ref l])(_:H x=some (.lst (vI th)))(_:H l=some (.lst (vI ks)))(_:th.length<=40)(_:∀ H',Aq H H'->Q (.str (tx (shd th ks))) H')
theorem AdO(T:Txt K mg t):Bl P w K mg base CX0 1 t.XR t.XS ["threading", "lifted"] An6:=by
 refine T.Acz.F.ok T4 ?_;rintro _ _ _ _ H _ Q E q ⟨x,l,th,ks,rfl,e,f,a,k⟩;refine⟨_,(Ad (Ay (Bw zI zS zV (Dk (K:=K)) Av (Aa (Cg (cok [1] ["shaft", "lifted"] T4) Z (Bq (K:=K) (pv 0)) (λ_ _ _ _ _=>.nil) (λ_ _ _ _ _=>(JV (Ah (Lp) (pv 0) (pv 1) Z) Av Av))) Ab)))),?_⟩;refine⟨Z,_,Z,_,Z,⟨_,SqL.of e⟩,BV (xs:=vI th) (λi ys H2=>H2=H/\ys=vS ((th.take i).map λs=>[if s∈ks then 35 else 46])) ⟨Z,Z⟩ ?_ ?_ ?_ ?_⟩
 ·rintro i ys H2 hi ⟨rfl,rfl⟩;refine⟨SqL.of e,?_⟩;rw[Bt,AtG,AtX];exact Ar.k7
 ·rw[Bh];exact Cv a
 ·rintro i o ys H2 hi b ⟨rfl,rfl⟩;obtain⟨z,j,rfl⟩:=Ek b;have fin:∀ d,d=(if z∈ks then 35 else 46)->CN (vI th).length (λi ys c=>c=H2/\ys=vS ((th.take i).map λs=>[if s∈ks then 35 else 46])) i (vS ((th.take i).map λs=>[if s∈ks then 35 else 46])++[.str (tx [d])]) H2:=λd n=>by
   subst n;refine CN.of hi ⟨Z,?_⟩;rw[Dm,AtV,j,AtK];rfl
  refine⟨_,Z,_,Z,_,_,Z,.inl (SqL.of f),Z,Gj _,_,Z,?_⟩;rw[VP];refine Dj (λh=>?_) (λh=>?_)
  ·have:= fin 35 (by rw[if_pos h]);exact this
  ·have:= fin 46 (by rw[if_neg h]);exact this
 ·rintro ys H2 p ⟨rfl,rfl⟩ m;rw[Bh,Aue];refine⟨_,_,((th.map λs=>[if s∈ks then 35 else 46]).map tx),Z,Z,SqL.of (by rw[Ae,Fy]),?_,?_⟩
  ·have e1:=AjO (λs:Int=>if s∈ks then 35 else 46) th;rw[e1,AtG,AtG];have:th.length*(Str.length "")=0:=by rw[show Str.length "" = 0 from by decide +kernel];exact Ar.f1
   exact Ar.a2 a
  ·rw[show(("" : Str))=tx [] from by decide +kernel,Ln];have e2:=AbY (λs:Int=>if s∈ks then 35 else 46) th;rw[e2];exact k _ (.upd m)
inductive Alp (t:Adr)(vs:Na)(H:Hp)(Q:VK)(z3:XK):Prop
|mk(d:Addr)(dx:Addr)(a:Addr)(b:Addr)(c:Addr)(qs:NU)(th:NA)(tss:NV)(tr:NA)(_:vs=[.ref d])(_:IsD t H d dx a b c qs th tss tr)(_:Ft th tss tr)(_:∀ l H',Aq H H'->H l=none->H' l=some (.lst (vS (wv th tss tr)))->Q (.ref l) H')
theorem Alq(T:Txt K mg t):Bl P w K mg base CX0 2 t.Ah8 t.Ah9 ["draft"] (Alp t):=by
 refine T.Aoz.F.ok Afz ?_;rintro _ _ _ _ H _ Q E x ⟨d,dx,a,b,c,qs,th,tss,tr,rfl,D,F,k⟩;have n:=F.n40;refine⟨_,(Ad (Ay (Cg (cok [0] ["treadle", "draft"] Afz) Z (Bq (K:=K) (CV (pv 0) Z)) (λ_ _ _ _ _=>.nil) (λ_ _ _ _ _=>(Bg T.Acz (AdO T) x (Aa (CV (pv 1) Z) (Aa (Az (Aw) (CV (pv 1) Z) (pv 0) (λ_ _=>rfl)) Ab))))))),?_⟩;refine⟨_,Z,_,_,_,_,_,Z,D.o,T.Mi.c,T.JC,ArP a b c,_,Z,⟨_,SqL.of D.hc⟩,BV (xs:=vI tr) (λi ys H2=>Aq H H2/\ys=vS (wv th tss (tr.take i))) ⟨.refl _,Z⟩ ?_ ?_ ?_ ?_⟩
 ·rintro i ys H2 hi ⟨e,rfl⟩;refine⟨SqL.of (e _ _ D.hc),?_⟩;rw[Bt,ApI,AtX];exact Ar.k7
 ·rw[Bh];exact Cv n
 ·rintro i z ys H2 hi p ⟨e,rfl⟩;obtain⟨v,s,rfl⟩:=Ek p;have u:=F.htr v (AtN s);have f:=D.same e;have m:v.toNat<qs.length:=by rw[f.hb.l];lia
  have j:=f.hb.r v.toNat qs[v.toNat] _ (AtF m) (Anf u);refine⟨_,Z,_,_,_,_,_,Z,f.o,T.Mi.c,T.Jq,ArN a b c,_,Z,_,_,_,_,_,Z,f.o,T.Mi.c,T.Rt,ArO a b c,_,Z,_,_,_,_,Z,Z,SqL.of f.hb.h,Br u.1 (by rw[AtQ,AtF m];rfl),
   a,qs[v.toNat],th,_,Z,f.ha,j,F.m40,λA y=>?_⟩;refine CN.of hi ⟨e.trans y,?_⟩;rw[Dm];unfold wv;rw[AtV,s,AtK];rfl
 ·rintro ys H2 l ⟨e,rfl⟩ q;rw[Bh,Aue];exact k l _ (e.new q) (e.free q) Ae
end
def plc (os:NA)(k:Nat):Nat:=(os.take k).count (os.getD k 0)
theorem Ss{os:NA}{k:Nat}(h:k<os.length)(z:Int):(os.take (k+1)).count z=(os.take k).count z+if os.getD k 0=z then 1 else 0:=by
 rw[AtV,Avd,AtF h];have e:os.getD k 0=os[k]:=by simp[List.getD,h]
 rw[e];simp only [AvP,List.count_cons,List.count_nil,beq_iff_eq];simp
theorem count_le{os:NA}(k:Nat)(z:Int):(os.take k).count z<=os.count z:=List.Sublist.count_le _ (AuJ _ _)
theorem AgT{os:NA}{k:Nat}(h:k<os.length):plc os k<os.count (os.getD k 0):=by have h1:=Ss h (os.getD k 0);rw[if_pos rfl] at h1;have h2:=count_le (os:=os) (k+1) (os.getD k 0);unfold plc;omega
def Vx (o e:Int)(own:NI)(p:Nat):Nat:=if o=e then own.getD p 0 else if e<o then 35 else 46
def Fi (ps:List (NN))(es:NA)(o:Int)(b:Nat):NI:=(List.range es.length).map λk=>Vx o (es.getD k 0) ((ps.getD o.toNat []).getD b []) (plc es k)
def lay (ps:List (NN))(es os:NA):NN:=(List.range os.length).map λj=>Fi ps es (os.getD j 0) (plc os j)
theorem Jv(ps:List (NN))(es:NA)(o:Int)(b:Nat):(Fi ps es o b).length=es.length:=by unfold Fi;rw[AtG,AtO]
theorem Su{ps:List (NN)}{o:Int}{b k:Nat}(h:k<es.length):(Fi ps es o b)[k]?=some (Vx o (es.getD k 0) ((ps.getD o.toNat []).getD b []) (plc es k)):=by unfold Fi;rw[AtQ,Au3 h];rfl
theorem AdP(ps:List (NN))(es os:NA):(lay ps es os).length=os.length:=by unfold lay;rw[AtG,AtO]
theorem AhH{ps:List (NN)}{os:NA}(h:j<os.length):(lay ps es os)[j]?=some (Fi ps es (os.getD j 0) (plc os j)):=by unfold lay;rw[AtQ,Au3 h];rfl
structure AgU (ps:List (NN))(es os:NA):Prop where
 e:∀ z∈es,0<=z/\z<(ps.length:Int)
 o:∀ z∈os,0<=z/\z<(ps.length:Int)
 hn:∀ i,i<ps.length->(ps.getD i []).length=os.count (i:Int)
 hm:∀ i,i<ps.length->∀ t∈ps.getD i [],t.length=es.count (i:Int)/\∀ c∈t,Sg c
 e1:1<=es.length
 e40:es.length<=40
 o1:1<=os.length
 o40:os.length<=40
theorem getD_mem{os:NA}{k:Nat}(h:k<os.length):os.getD k 0∈os:=by
 have e:os.getD k 0=os[k]:=by simp[List.getD,h]
 rw[e];exact AtT h
theorem AgU.own{ps:List (NN)}{os:NA}(C:AgU ps es os)(h:j<os.length):(os.getD j 0).toNat<ps.length/\plc os j<(ps.getD (os.getD j 0).toNat []).length:=by
 have h1:=C.o _ (getD_mem h);have h2:(os.getD j 0).toNat<ps.length:=by omega
 refine⟨h2,?_⟩;rw[C.hn _ h2,show(((os.getD j 0).toNat:Nat):Int)=os.getD j 0 by omega];exact AgT h
theorem AgU.row{ps:List (NN)}{os:NA}(C:AgU ps es os){b:Nat}(h:i<ps.length)(a:b<(ps.getD i []).length):((ps.getD i []).getD b []).length=es.count (i:Int):=by
 have e:(ps.getD i []).getD b []=(ps.getD i [])[b]:=by rw[AtY,AtF a];rfl
 rw[e];exact(C.hm i h _ (AtT a)).1
structure Own (es:NA)(z:Int)(i:Nat)(ms:NI):Prop where
 len:ms.length=(es.take i).count z
 lt:∀ m∈ms,m<i
 at':∀ a m,ms[a]?=some m->es.getD m 0=z/\(es.take m).count z=a
section
variable {K:NF}{base:Heap}
theorem An7{k:Nat}(h:k<=ns.length):Iv (vI ns) none (some (0+(k:Int)))=vI (ns.take k):=by unfold Iv;rw[Au6,HT.S7,HT.Gh,Avp,Bh,Aup h,AvB];unfold vI;rw[Au9]
theorem ApY{k:Nat}(h:k<ns.length):atI (vI ns) (0+(k:Int))=some (.int (ns.getD k 0)):=by
 refine Br (by exact Ar.a5) ?_;rw[z0];have e:ns.getD k 0=ns[k]:=by simp[List.getD,h]
 rw[e];exact Fw (AtF h)
def Pcs (K:NF)(H:Hp)(as:NU)(ps:List (NN)):Prop:=as.length=ps.length/\∀ i a,as[i]?=some a->SqL K H a (vS (ps.getD i []))
theorem ApZ{z:Int}(a:0<=z)(h:z.toNat<as.length):atI (as.map V.ref) z=some (.ref as[z.toNat]):=Br a (by rw[AtQ,AtF h];rfl)
inductive AgV (K:NF)(vs:Na)(H:Hp)(Q:VK)(z3:XK):Prop
|mk(a:Addr)(os:NA)(n:Int)(_:vs=[.ref a,.int n])(_:SqL K H a (vI os))(_:1<=os.length)(_:os.length<=40)(_:(∀ z∈os,0<=z/\z<n))(_:Q .non H)
theorem Np(T:Txt K mg t):Bl P w K mg base CX0 1 t.Pa t.Pb ["owners", "pieces"] (AgV K):=by
 refine T.Mg.F.ok Mw ?_;rintro _ _ _ _ H _ Q E l ⟨a,os,n,rfl,b,o1,c,j,k⟩;refine⟨_,(Ac (Bd (PW.pt (pw_or (Ah Ge (Ai (Ak (K:=K)) Z T.BJ Bj (Aa (pv 0) Ab)) Af (Ax _)) (pw_or1 (Ah HF (Ai (Ak (K:=K)) Z T.BJ Bj (Aa (pv 0) Ab)) (CG (v:=.int 40) Z T.Ec.choose_spec ⟨_,Z⟩) (Ax _)))))
   (Ad Bc)
   Ao)
  (Ad (BX PassesOwn.never Z (Bq (K:=K) (pv 0)) (Bp (i:=2) Mw.nd Z (Or.inl Z))
   (Ad (Bd (PW.pt (pw_or (Ah Ge (pv 2) Af (Ax _)) (pw_or1 (Ah Z3 (pv 2) (pv 1) (Ax _)))))
    (Ad Bc)
    Ao))))),?_⟩;refine⟨_,Z,_,_,Z,.inl b,_,_,Z,Z,_,Z,?_⟩;refine CZ (by rw[Bh];exact Ar.i3 o1) ?_;refine⟨_,Z,_,_,Z,.inl b,_,_,Z,Z,_,Z,?_⟩;refine CZ (by rw[Bh];exact Ar.i3 c) ?_;refine⟨_,Z,_,Z,⟨_,b⟩,Cr (λi σ H2=>∃ v,σ=[some (.ref a),some (.int n),v]/\H2=H) ⟨none,Z,Z⟩ (λi σ H2 _ ⟨_,_,e⟩=>e▸b) ?_ ?_⟩
 ·rintro i x σ H2 h ⟨v,rfl,rfl⟩;obtain⟨z,d,rfl⟩:=Ek h;have f:=j z (AtN d);refine⟨_,Z,_,_,Z,Z,_,Z,?_⟩;refine CZ (by exact Ar.e7 f.1) ?_;refine⟨_,Z,_,Z,_,_,Z,Z,_,Z,?_⟩;refine CZ (by exact Ar.e6 f.2) ?_;exact⟨_,Z,Z⟩
 ·simp_all
inductive AiX (K:NF)(vs:Na)(H:Hp)(Q:VK)(z3:XK):Prop
|mk(a:Addr)(cl:NN)(m:Nat)(n:Nat)(_:vs=[.ref a,.int (m:Int),.int (n:Int)])(_:SqL K H a (vS cl))(_:cl.length=n)(_:m<=40)(_:(∀ t∈cl,t.length=m/\∀ c∈t,Sg c))(_:Q .non H)
theorem Abn(T:Txt K mg t):Bl P w K mg base CX0 1 t.Ra t.Rb ["piece", "ends", "picks"] (AiX K):=by
 refine T.YD.F.ok Jd ?_;rintro _ _ _ _ H _ Q E q ⟨a,cl,m,n,rfl,f,hn,p,hc,k⟩;refine⟨_,(Ac (Bd (Ah G5 (Ai (Ak) Z T.BJ Bj (Aa (pv 0) Ab)) (pv 2) (Ax _))
   (Ad Bc)
   Ao)
  (Ad (BX PassesOwn.never Z (Bq (K:=K) (pv 0)) (Bp (i:=3) Jd.nd Z (Or.inl Z))
   (Ac (Bd (Ah G5 (Ai Bs Z T.BJ Bj (Aa (pv 3) Ab)) (pv 1) (Ax _))
    (Ad Bc)
    Ao)
   (Ad (BX PassesOwn.never Z (RC (pv 3)) (Bp (i:=4) Jd.nd Z (Or.inl Z))
    (Ad (Bd (Ah S6 (pv 4) Av Z)
     (Ad Bc)
     Ao)))))))),?_⟩;refine⟨_,Z,_,_,Z,.inl f,_,Z,Z,_,Z,?_⟩;refine Oa (by rw[Bt,hn]) ?_;refine⟨_,Z,_,Z,⟨_,f⟩,Cr (λi σ H2=>∃ v b,σ=[some (.ref a),some (.int (m:Int)),some (.int (n:Int)),v,b]/\H2=H) ⟨none,none,Z,Z⟩ (λi σ H2 _ ⟨_,_,_,e⟩=>e▸f) ?_ ?_⟩
 ·rintro i x σ H2 l ⟨v,b,rfl,rfl⟩;obtain⟨u,o,rfl⟩:=Ff l;obtain⟨h,j⟩:=hc u (AtN o);refine⟨_,Z,_,Z,(by rw[Al,h];exact Cv p),_,Z,Z,_,Z,?_⟩;refine Oa (by rw[Al,h]) ?_;refine⟨_,Z,_,Z,Adg (λi σ d=>∃ b,σ=[some (.ref a),some (.int (m:Int)),some (.int (n:Int)),some (.str (tx u)),b]/\d=H2) ⟨_,Z,Z⟩ ?_ ?_⟩
  ·rintro i c σ d hc ⟨b,rfl,rfl⟩;rw[Ob] at hc;refine⟨_,Z,_,_,Z,Z,_,Z,?_⟩;rw[occ (j c (AtN hc))];exact Iz ⟨_,Z,Z⟩
  ·rintro σ d ⟨b,rfl,rfl⟩;exact⟨_,_,Z,Z⟩
 ·simp_all
def AdQ (os:NA)(i:Nat):NA:=(List.range i).map λk=>(plc os k:Int)
theorem Alr(os:NA)(i:Nat):(AdQ os i).length=i:=by unfold AdQ;rw[AtG,AtO]
theorem AiY(os:NA)(i:Nat):AdQ os (i+1)=AdQ os i++[(plc os i:Int)]:=by unfold AdQ;rw[Aur,AtK];rfl
theorem AfJ{os:NA}{k:Nat}(h:k<i):(AdQ os i)[k]?=some (plc os k:Int):=by unfold AdQ;rw[AtQ,Au3 h];rfl
inductive AiZ (K:NF)(vs:Na)(H:Hp)(Q:VK)(z3:XK):Prop
|mk(a:Addr)(os:NA)(_:vs=[.ref a])(_:SqL K H a (vI os))(_:os.length<=40)(_:∀ l H',Aq H H'->H l=none->H' l=some (.lst (vI (AdQ os os.length)))->Q (.ref l) H')
theorem KY(T:Txt K mg t):Bl P w K mg base CX0 1 t.MT t.Nb ["owners"] (AiZ K):=by
 refine T.JR.F.ok Km ?_;rintro _ _ _ _ H _ Q E j ⟨a,os,rfl,d,c,k⟩;refine⟨_,(Ad (Ay (Cg (cok [0] ["k", "owners"] Km) Z (Ca Z T.Cq (Aa (Ai (Ak) Z T.BJ Bj (Aa (pv 0) Ab)) Ab)) (λ_ _ _ _ _=>.nil) (λ_ _ _ _ _=>(Bw zM F.slot_list_count F.type_list_count (We) (Cy (Ds) (pv 1) Ej (Cu (pv 0))) (Aa (Az (Aw) (pv 1) (pv 0) (λ_ _=>rfl)) Ab)))))),?_⟩;refine⟨_,Z,_,_,Z,.inl d,_,Z,(by exact Ar.a7),(by rw[Bh];lia),?_⟩;rw[Auh,Bh];refine DR (λi ys H2=>Aq H H2/\ys=vI (AdQ os i)) ⟨.refl _,Z⟩ ?_ ?_ ?_ ?_
 ·rintro i ys H2 hi ⟨b,rfl⟩;rw[Bh,Alr];exact AtH _
 ·exact Cv c
 ·rintro i ys H2 hi ⟨b,rfl⟩;refine⟨_,Z,_,Z,_,Z,_,_,Z,b.seq d,λp h=>?_⟩;rw[An7 (by exact Ar.c3 hi)];have f:Aq H (upd H2 p (.lst (vI (os.take i)))):=b.new h;refine⟨.inl ⟨Z,_,SqL.of Ae⟩,_,Z,_,Z,_,_,_,_,Z,Z,f.seq d,ApY hi,_,_,_,Z,Z,SqL.of Ae,?_⟩;refine CN.of hi ⟨f,?_⟩;rw[AiY,Ht];rfl
 ·rintro ys H2 l ⟨b,rfl⟩ e;exact k l _ (b.new e) (b.free e) Ae
inductive Aja (vs:Na)(H:Hp)(Q:VK)(z3:XK):Prop
|mk(o:Int)(e:Int)(own:NI)(p:Nat)(_:vs=[.int o,.str (tx own),.int e,.int (p:Int)])(_:(o=e->p<own.length))(_:own.length<=40)(_:Q (.str ⟨#[Vx o e own p]⟩) H)
theorem Aqa(h:i<u.length):atI (tx u).cps.toList (i:Int)=some (u.getD i 0):=by refine Br (by exact Ar.a9) ?_;show u.toArray.toList[i]?=_;simp[List.getD,h]
theorem AgW(T:Txt K mg t):Bl P w K mg base CX0 1 t.Acu t.Acv ["pick_owner", "own", "end_owner", "place"] Aja:=by
 refine T.AhB.F.ok AgH ?_;rintro _ _ _ _ H _ Q E c ⟨o,e,own,p,rfl,b,a,k⟩;refine⟨_,(Ac (Bd (Ah Ci (pv 0) (pv 2) (Ax _))
   (Ad (Ay (Az Hs (pv 1) (pv 3) (λ_ _=>rfl))))
   Ao)
  (Ad (Ay (JV (Ah Ge (pv 2) (pv 0) (Ax _)) Av Av)))),?_⟩;unfold Vx at k;refine⟨_,Z,_,Z,Z,_,Z,?_⟩;refine Dj (λh=>?_) (λh=>?_)
 ·have h:o=e:=by injection h
  rw[if_pos h] at k;exact⟨_,Z,_,Z,_,_,_,Z,Z,(by exact Cv a),Aqa (b h),k⟩
 ·have h:¬o=e:=λz=>h (by rw[z]);rw[if_neg h] at k;refine⟨_,Z,_,Z,_,_,Z,Z,_,Z,?_⟩;refine Dj (λh2=>?_) (λh2=>?_)
  ·rw[if_pos h2] at k;exact k
  ·rw[if_neg h2] at k;exact k
inductive An8 (K:NF)(vs:Na)(H:Hp)(Q:VK)(z3:XK):Prop
|mk(p:Addr)(pe:Addr)(po:Addr)(as:NU)(ps:List (NN))(es:NA)(os:NA)(_:vs=[.ref p,.ref pe,.ref po])(_:SqL K H p (as.map V.ref))(_:Pcs K H as ps)(_:SqL K H pe (vI es))(_:SqL K H po (vI os))(_:AgU ps es os)(_:∀ l H',Aq H H'->H l=none->H' l=some (.lst (vS (lay ps es os)))->Q (.ref l) H')
theorem WK(T:Txt K mg t):Bl P w K mg base CX0 2 t.MN t.MP ["pieces", "ends", "picks"] (An8 K):=by
 refine T.Rp.F.ok Ce ?_;rintro _ _ _ _ H _ Q E O ⟨p,pe,po,as,ps,es,os,rfl,S,hA,u,A,C,k⟩;have hsz:=z8;have al:=hA.1;have aa:=C.e1;have m:=C.e40;have ac:=C.o1;have R:=C.o40;have ml:(as.map V.ref).length=ps.length:=by grind
 refine⟨_,(Ac (Bo (Bg T.Mg (Np T) O (Aa (pv 1) (Aa (Ai (Ak (K:=K)) Z T.BJ Bj (Aa (pv 0) Ab)) Ab))))
  (Ac (Bo (Bg T.Mg (Np T) O (Aa (pv 2) (Aa (Ai (Ak (K:=K)) Z T.BJ Bj (Aa (pv 0) Ab)) Ab))))
  (Ac (BX PassesOwn.never Z (Aht Z T.PJ (Aa (pv 0) Ab)) (NB Z (CW (Bp (i:=3) Ce.nd Z (Or.inl Z)) (CW (Bp (i:=4) Ce.nd Z (Or.inl Z)) HS)))
   (Ad (Bo (Bg T.YD (Abn T) O (Aa (pv 4) (Aa (Bw (K:=K) zM F.slot_list_count F.type_list_count (We (K:=K)) (pv 1) (Aa (pv 3) Ab)) (Aa (Bw (K:=K) zM F.slot_list_count F.type_list_count (We (K:=K)) (pv 2) (Aa (pv 3) Ab)) Ab)))))))
  (Ac (Ba (i:=5) Ce.nd Z (Or.inl Z) (Bg T.JR (KY T) O (Aa (pv 1) Ab)))
  (Ac (Ba (i:=6) Ce.nd Z (Or.inl Z) (Bg T.JR (KY T) O (Aa (pv 2) Ab)))
  (Ac (Ba (i:=7) Ce.nd Z (Or.inl Z) (Cp Ab))
  (Ac (BX PassesOwn.never Z (Adm (K:=K) Z T.AkN (Aa (pv 2) (Aa (pv 6) Ab))) (NB Z (CW (Bp (i:=8) Ce.nd Z (Or.inr Z)) (CW (Bp (i:=9) Ce.nd Z (Or.inl Z)) HS)))
   (Ac (Ba (i:=10) Ce.nd Z (Or.inr Z) (Az (Aw (K:=K)) (Az (Aw (K:=K)) (pv 0) (pv 8) (λ_ _=>rfl)) (pv 9) (λ_ _=>rfl)))
   (Ac (Ai7 (K:=K) (i:=11) (Lq.mk (Bv:=[8,10]) (Nc:=["end_owner", "k", "owner", "own"]) Z (by decide +kernel) (by decide +kernel) (Zj (sc0:=Ag Hv) Z (by decide +kernel)) Z rfl Z rfl Z (by decide +kernel) (λk j h=>match k,h with | 0,h=>by obtain rfl:=Option.some.inj h;exact⟨_,Z,Z,Z⟩ | 1,h=>by obtain rfl:=Option.some.inj h;exact⟨_,Z,Z,Z⟩ | _+2,h=>by simp at h)) Z Ce.nd Z rfl (Adm (K:=K) Z T.AkN (Aa (pv 1) (Aa (pv 5) Ab))) (λ_ _ _ _ _=>.nil) (λ_ _ _ _ _=>(Bg T.AhB (AgW T) O (Aa (pv 2) (Aa (pv 3) (Aa (pv 0) (Aa (pv 1) Ab)))))) Z)
   (Ad (Bo (Bw (K:=K) zM zL zQ Cd (pv 7) (Aa (Bw (K:=K) zI zS zV (Dk (K:=K)) Av (Aa (pv 11) Ab)) Ab)))))))
  (Ad (Ay (pv 7)))))))))),?_⟩;refine⟨_,Z,_,Z,_,_,Z,.inl S,pe,es,_,Z,u,aa,m,(by rw[ml];exact C.e),?_⟩;refine⟨_,Z,_,Z,_,_,Z,.inl S,po,os,_,Z,A,ac,R,(by rw[ml];exact C.o),?_⟩;refine⟨_,Z,_,Z,⟨_,S⟩,AeY (λi σ H2=>∃ v1 v2,σ=[some (.ref p),some (.ref pe),some (.ref po),v1,v2,none,none,none,none,none,none,none]/\Aq H H2) ⟨none,none,Z,.refl _⟩ (λi σ H2 ⟨_,_,_,M⟩=>M.seq S) ?_ ?_⟩
 ·rintro i x σ H2 T2 hx ⟨v1,v2,rfl,M⟩ nT;obtain⟨a,ha,rfl⟩:∃ a,as[i]?=some a/\x=.ref a:=by
   grind
  have hi:i<ps.length:=by rw[<- al];exact(zC.mp ha).1
  have y:Aq H (upd H2 T2 (.tup [.int (i:Int),.ref a])):=M.new nT;refine⟨_,_,Z,SqT.of Ae,Z,_,_,Z,_,_,Z,Z,?_⟩;refine⟨_,Z,_,Z,.inl ⟨Z,_,y.seq u⟩,_,Z,_,_,_,Z,Z,y.seq u,?_⟩;refine⟨_,Z,.inl ⟨Z,_,y.seq A⟩,_,Z,_,_,_,Z,Z,y.seq A,?_⟩;refine⟨a,ps.getD i [],es.count (i:Int),os.count (i:Int),Z,y.seq (hA.2 i a ha),C.hn i hi,AtW (List.count_le_length ..) m,C.hm i hi,?_⟩;exact⟨_,_,Z,y⟩
 ·rintro σ H2 ⟨v1,v2,rfl,M⟩;refine⟨_,Z,pe,es,Z,M.seq u,m,λl1 H3 y af I=>?_⟩;have u3:=M.trans y;refine⟨_,Z,po,os,Z,u3.seq A,R,λl2 H4 s4 ae D=>?_⟩;have u4:=u3.trans s4;refine⟨AtR _,λq hq=>?_⟩;have nq:=u4.free hq;have u5:Aq H (upd H4 q (.lst [])):=u4.new hq;have w5:Aq H4 (upd H4 q (.lst [])):=.upd hq;refine⟨_,Z,_,Z,.l po,.l l2,Z,trivial,⟨_,u5.seq A⟩,⟨_,SqL.of (w5 _ _ D)⟩,AeX (λi=>.int (os.getD i 0)) (λi=>.int (plc os i:Int))
   (λj σ f=>∃(v3 v4 v5 v6:Option V),σ=[some (.ref p),some (.ref pe),some (.ref po),v1,v2,some (.ref l1),some (.ref l2),some (.ref q),v3,v4,v5,v6]/\Aq H f/\Aq H4 f/\f q=some (.lst (vS ((lay ps es os).take j))))
   ⟨none,none,none,none,Z,u5,w5,Ae⟩ (λj σ f v ⟨_,_,_,_,_,r,L,_⟩=>⟨_,r.seq A,by rw[show os.getD j 0=os[j] by simp[List.getD,v]];exact Fw (AtF v)⟩)
   (λj σ f v ⟨_,_,_,_,_,r,L,_⟩=>⟨_,SqL.of (L _ _ D),Fw (AfJ v)⟩) (λσ f ⟨_,_,_,_,_,r,L,_⟩=>⟨⟨_,r.seq A⟩,⟨_,SqL.of (L _ _ D)⟩,.inl ⟨_,r.seq A,by rw[Bh]⟩⟩) ?_ ?_⟩
  ·rintro j σ f N v ⟨v3,v4,v5,v6,rfl,r,L,s⟩ nT;obtain⟨o,eo⟩:∃ o,o=os.getD j 0:=⟨_,Z⟩;obtain⟨b,eb⟩:∃ b,b=plc os j:=⟨_,Z⟩;obtain⟨o1,o2⟩:=C.own v;have oz:=C.o _ (getD_mem v);rw[<- eo,<- eb] at o2;rw[<- eo] at o1 oz;rw[<- eo,<- eb];have X:(upd f N (.tup [.int o,.int (b:Int)])) q=some (.lst (vS ((lay ps es os).take j))):=(Aq.upd nT) _ _ s;have z:Aq H (upd f N (.tup [.int o,.int (b:Int)])):=r.new nT;have U:Aq H4 (upd f N (.tup [.int o,.int (b:Int)])):=L.new nT;have W:(upd f N (.tup [.int o,.int (b:Int)])) N=some (.tup [.int o,.int (b:Int)]):=Ae;generalize upd f N (.tup [.int o,.int (b:Int)])=H7 at X z U W ⊢;refine⟨_,_,Z,SqT.of W,Z,_,_,Z,_,_,Z,Z,?_⟩;have lo:o.toNat<as.length:=by rw[al];exact o1
   have sa:=z.seq (hA.2 _ _ (AtF lo));have a6:((ps.getD o.toNat []).getD b []).length<=40:=by
    rw[C.row o1 o2];exact AtW (List.count_le_length ..) m
   have ab:atI (vS (ps.getD o.toNat [])) (b:Int)=some (.str (tx ((ps.getD o.toNat []).getD b []))):=by
    refine Br (by exact Ar.a9) ?_;have e:(ps.getD o.toNat []).getD b []=(ps.getD o.toNat [])[b]:=by rw[AtY,AtF o2];rfl
    rw[e];exact ZM (AtF o2)
   refine⟨_,Z,_,Z,_,_,_,_,Z,Z,z.seq S,ApZ oz.1 lo,_,Z,_,_,_,_,Z,Z,sa,ab,?_⟩;refine⟨_,Z,_,Z,.l pe,.l l1,Z,trivial,⟨_,z.seq u⟩,⟨_,SqL.of (U _ _ (s4 _ _ I))⟩,?_⟩;refine Akh (n:=es.length) (λi=>.int (es.getD i 0)) (λi=>.int (plc es i:Int)) (λi ys B=>Aq H7 B/\ys=vS (((Fi ps es o b).take i).map λd=>[d])) ⟨.refl _,Z⟩ ?_ ?_ ?_ ?_ ?_ ?_ ?_
   ·rintro i ys B hi ⟨c,rfl⟩;rw[Bt,AtG,AtX];exact Ar.k7
   ·exact Ar.a2 m
   ·rintro i ys B hi ⟨c,_⟩;have e:es.getD i 0=es[i]:=by simp[List.getD,hi]
    exact⟨_,(z.trans c).seq u,by rw[e];exact Fw (AtF hi)⟩
   ·rintro i ys B hi ⟨c,_⟩;exact⟨_,SqL.of ((U.trans c) _ _ (s4 _ _ I)),Fw (AfJ hi)⟩
   ·rintro ys B ⟨c,_⟩;exact⟨⟨_,(z.trans c).seq u⟩,⟨_,SqL.of ((U.trans c) _ _ (s4 _ _ I))⟩,.inl ⟨_,(z.trans c).seq u,by rw[Bh]⟩⟩
   ·rintro i ys B T8 hi ⟨c,rfl⟩ a0;refine⟨_,Z,_,Z,_,Z,_,Z,o,es.getD i 0,(ps.getD o.toNat []).getD b [],plc es i,Z,λh=>?_,a6,?_⟩
    ·rw[C.row o1 o2,show((o.toNat:Nat):Int)=o by omega,h];exact AgT hi
    ·refine CN.of hi ⟨c.new a0,?_⟩;rw[AtV,Su hi,Lj,Dm,AtK];rfl
   ·rintro ys B l8 ⟨c,rfl⟩ J;have e0:(Fi ps es o b).take es.length=Fi ps es o b:=Auf (by rw[Jv];exact AtH _);rw[e0];have u8:=(z.trans c).new (o:=.lst (vS ((Fi ps es o b).map λd=>[d]))) J;have w8:=(U.trans c).new (o:=.lst (vS ((Fi ps es o b).map λd=>[d]))) J;have Y:=(c.new (o:=.lst (vS ((Fi ps es o b).map λd=>[d]))) J) _ _ X;refine⟨_,Z,.inl ⟨Z,_,SqL.of Y⟩,Z,_,Z,_,_,(((Fi ps es o b).map λd=>[d]).map tx),Z,Z,SqL.of (by rw[Ae,Fy]),?_,?_⟩
    ·have e1:=AjO (λd:Nat=>d) (Fi ps es o b);rw[e1,AtG,AtG,Jv];have:es.length*(Str.length "")=0:=by rw[show Str.length "" = 0 from by decide +kernel];exact Ar.f1
     exact Ar.a2 m
    ·rw[show(("" : Str))=tx [] from by decide +kernel,Ln];have e2:=(AbY (λd:Nat=>d) (Fi ps es o b)).trans (List.map_id _);rw[e2];refine⟨_,_,_,Z,Z,Y,(by rw[Bt,AtX];lia),?_⟩;refine⟨_,_,_,_,Z,u8.over nq,w8.over hq,?_⟩;rw[Ae,Dm,AtV,AhH v,<- eo,<- eb];rfl
  ·rintro σ f ⟨v3,v4,v5,v6,rfl,r,L,s⟩;have e0:(lay ps es os).take os.length=lay ps es os:=Auf (by rw[AdP];exact AtH _);rw[e0] at s;exact⟨_,Z,k q f r nq s⟩
end
inductive Nd where
 | nam (w:NI)
 | num (n:Nat)
 | run (r:NI)
 | node (w:NI) (ts:List Nd)
namespace Pat
def sk (l:NI):NI:=l.dropWhile λc=>decide (c=32)
def letter(c:Nat):Bool:=decide (97<=c/\c<=122)
def knot(c:Nat):Bool:=decide (c=35\/c=46)
def run (l:NI):Option (NI × NI) :=
 if l.takeWhile knot=[] then none else some (l.takeWhile knot,sk (l.dropWhile knot))
def wants(w:NI):Option (NI) :=
 if w=[116,119,105,108,108]\/w=[115,97,116,105,110] then some [110,110]
 else if w=[98,101,115,105,100,101]\/w=[97,98,111,118,101]\/w=[108,97,121] then some [112,112]
 else if w=[109,105,114,114,111,114]\/w=[117,112,101,110,100]\/w=[98,97,99,107]\/w=[113,117,97,114,116,101,114] then some [112]
 else if w=[116,105,108,101] then some [112,110,110]
 else if w=[98,108,111,99,107,115] then some [112,112,112]
 else none
def Gy:NI:=[114,111,119,115]
def isWord(w:NI):Bool:=decide (w=Gy) || (wants w).isSome
def isName(w:NI):Bool:=decide (1<=w.length/\w.length<=20) && w.all letter && !isWord w
end Pat
def twW:NI:=[116,119,105,108,108]
def beW:NI:=[98,101,115,105,100,101]
def abW:NI:=[97,98,111,118,101]
def miW:NI:=[109,105,114,114,111,114]
def upW:NI:=[117,112,101,110,100]
def baW:NI:=[98,97,99,107]
def quW:NI:=[113,117,97,114,116,101,114]
def laW:NI:=[108,97,121]
def twl (m n:Nat)(y x:Nat):Nat:=if (x+(m+n)-y)%(m+n)<m then 35 else 46
def twT (m n y:Nat):NI:=(List.range (m+n)).map (twl m n y)
def stT (s o:Nat):NI:=(List.range s).map λx=>if x=o then 35 else 46
def saT (s p y:Nat):NI:=stT s (y*p%s)
def Atg (m n i:Nat):List Bool:=(List.range i).map λj=>decide (m%(2+j)=0) && decide (n%(2+j)=0)
def cop (m n k:Nat):Bool:=(Atg m n (k-1)).any id
def Pri (s p:Nat):Prop:=1<=p/\p<s/\cop s p p=false
noncomputable instance (s p:Nat):Decidable (Pri s p):=inferInstanceAs (Decidable (_/\_/\_))
inductive Rf where
 | nop
 | big
 | unk
inductive Res where
 | ok (rows:NN)
 | no (f:Rf)
def wdt (x:NN):Nat:=(x.headD []).length
def ArU (rs:NN):Res:=if (rs.map λr=>decide (¬r.length=wdt rs)).any id=true then .no .nop else if 40<wdt rs\/40<rs.length then .no .big else .ok rs
def Aqb (a b:Nat):Res:=if a<1\/b<1 then .no .nop else if 40<a+b then .no .big else .ok ((List.range (a+b)).map (twT a b))
def Aqc (m n:Nat):Res:=if ¬Pri m n then .no .nop else if 40<m then .no .big else .ok ((List.range m).map (saT m n))
def An9 (x y:NN):Res:=if ¬x.length=y.length then .no .nop else if 40<wdt x+wdt y\/40<x.length then .no .big else .ok (List.zipWith (·++·) x y)
def Aqd (x y:NN):Res:=if ¬wdt x=wdt y then .no .nop else if 40<wdt x\/40<x.length+y.length then .no .big else .ok (x++y)
def Ath (z:NI)(x:NN):Res:=if z=miW then .ok (x.map List.reverse) else if z=upW then .ok x.reverse else if z=baW then .ok (back x) else .ok (IK x (wdt x))
def ArV (x:NN)(a b:Nat):Res:=if a<1\/b<1 then .no .nop else if 40<wdt x*a\/40<x.length*b then .no .big else .ok (til x a b)
def AnA (p x y:NN):Res:=if ¬wdt x=wdt y\/¬x.length=y.length then .no .nop else if 40<wdt p*wdt x\/40<p.length*x.length then .no .big else .ok (fil p x y)
def Es (k:Nat):NA:=(List.replicate k [(0:Int),1]).flatten
def Ati (x y:NN):Res:=if ¬wdt x=wdt y\/¬x.length=y.length then .no .nop else if 40<2*wdt x\/40<2*x.length then .no .big else .ok (lay [x,y] (Es (wdt x)) (Es x.length))
inductive Arg where
 | num (n:Nat)
 | run (r:NI)
 | cl (x:NN) (z:NI)
def runOf:Arg->NI
 | .run r=>r
 | _=>[]
def made(z:NI)(as:List Arg):Res :=
 if z=Pat.Gy then ArU (as.map runOf) else
 match as with
 | [.num a,.num b]=>if z=twW then Aqb a b else Aqc a b
 | [.cl x _]=>Ath z x
 | [.cl x _,.cl y _]=>if z=beW then An9 x y else if z=abW then Aqd x y else Ati x y
 | [.cl x _,.num a,.num b]=>ArV x a b
 | [.cl x _,.cl y _,.cl w _]=>AnA x y w
 | _=>.no .nop
def cj:NN->NI
 | []=>[]
 | y::ys=>y++(ys.map λy=>[44]++y).flatten
def wz (z:NI)(ys:NN):NI:=z++(40::(cj ys++[41]))
def wr:Nat->Nd->NI
 | _,.nam z=>z
 | _,.num n=>dec n
 | _,.run r=>r
 | 0,.node _ _=>[]
 | d+1,.node z ts=>wz z (ts.map (wr d))
def arg (sub:Nd->Res)(wrt:Nd->NI):Nd->Rf ⊕ Arg
 | .num n=>.inr (.num n)
 | .run r=>.inr (.run r)
 | .nam z=>match sub (.nam z) with
  | .ok x=>.inr (.cl x (wrt (.nam z)))
  | .no f=>.inl f
 | .node z ts=>match sub (.node z ts) with
  | .ok x=>.inr (.cl x (wrt (.node z ts)))
  | .no f=>.inl f
def args(sub:Nd->Res)(wrt:Nd->NI):List Nd->Rf ⊕ List Arg
 | []=>.inr []
 | x::ts=>match arg sub wrt x with
  | .inl f=>.inl f
  | .inr a=>match args sub wrt ts with
   | .inl f=>.inl f
   | .inr as=>.inr (a::as)
abbrev Kns:=List (NI × NN)
def known(kn:Kns)(z:NI):Res:=match kn.find? λp=>decide (p.1=z) with
 | some p=>.ok p.2
 | none=>.no .unk
def out (kn:Kns):Nat->Nd->Res
 | _,.nam z=>known kn z
 | d+1,.node z ts=>match args (out kn d) (wr d) ts with
  | .inl f=>.no f
  | .inr as=>made z as
 | _,_=>.no .nop
theorem Cl.wdt{x:NN}{m n:Nat}(C:Cl x m n):wdt x=m:=by
 cases x with
 | nil=>have:=C.hn;have:=C.n1;simp at *;omega
 | cons r x=>exact C.hm r AtJ
theorem Cl.same(C:Cl x m n):Cl x (Mine.wdt x) x.length:=by rw[C.wdt,C.hn];exact C
def Clo (x:NN):Prop:=Cl x (wdt x) x.length
theorem Cl.clo(C:Cl x m n):Clo x:=C.same
theorem ArW{p:Prop}[Decidable p]:Sg (if p then 35 else 46):=by split;exact .inl rfl;exact .inr Z
theorem Eg(k:Nat):(Es k).length=2*k:=by unfold Es;rw[Ah1];simp;omega
theorem Ml(k:Nat)(i:Int):(Es k).count i=if i=0\/i=1 then k else 0:=by
 unfold Es
 induction k with
 | zero=>simp
 | succ k b =>
  rw[AuK,Auq,Avd,b];by_cases a:i=0
  ·subst a;simp;omega
  ·by_cases h1:i=1
   ·subst h1;simp;omega
   ·rw[if_neg (by omega),if_neg (by omega)];simp[List.count_cons,Ne.symm a,Ne.symm h1]
theorem AfK{k:Nat}{i:Int}(h:i∈Es k):0<=i/\i<2:=by have:=Ah2 h;simp at this;omega
theorem Als{y:NN}(C:Cl x m n)(D:Cl y m n)(hm:2*m<=40)(hn:2*n<=40):AgU [x,y] (Es m) (Es n) where
 e:=λz b=>by have:=AfK b;exact⟨this.1,by show z<2;exact this.2⟩
 o:=λz b=>by have:=AfK b;exact⟨this.1,by show z<2;exact this.2⟩
 hn:=λi hi=>by
  have:i=0\/i=1:=by simp only [AtS,Aun] at hi;omega
  rcases this with rfl | rfl
  ·rw[Ml,if_pos (by decide)];exact C.hn
  ·rw[Ml,if_pos (by decide)];exact D.hn
 hm:=λi hi t a=>by
  have:i=0\/i=1:=by simp only [AtS,Aun] at hi;omega
  rcases this with rfl | rfl
  ·rw[Ml,if_pos (by decide)];exact⟨C.hm t a,C.sg t a⟩
  ·rw[Ml,if_pos (by decide)];exact⟨D.hm t a,D.sg t a⟩
 e1:=by have:=C.m1;rw[Eg];omega
 e40:=by rw[Eg];exact hm
 o1:=by have:=C.n1;rw[Eg];omega
 o40:=by rw[Eg];exact hn
theorem Aqe{ps:List (NN)}{os:NA}(C:AgU ps es os):Cl (lay ps es os) es.length os.length where
 hn:=AdP ps es os
 hm:=λt b=>by
  obtain⟨j,_,rfl⟩:=yC.mp b;exact Jv ..
 sg:=λt b c hc=>by
  obtain⟨j,a,rfl⟩:=yC.mp b;have a:=yE.mp a;obtain⟨k,hk,rfl⟩:=yC.mp hc;have hk:=yE.mp hk;unfold Vx;split
  next e =>
   obtain⟨o1,o2⟩:=C.own a;have d:(ps.getD (os.getD j 0).toNat []).getD (plc os j) []=(ps.getD (os.getD j 0).toNat [])[plc os j]:=by rw[AtY,AtF o2];rfl
   have M:=C.hm _ o1 _ (AtT o2);rw[d];have f:=C.o _ (getD_mem a);have lt:=AgT hk;rw[<- e,show os.getD j 0=(((os.getD j 0).toNat:Nat):Int) by omega,<- M.1] at lt;have e8:((ps.getD (os.getD j 0).toNat [])[plc os j]).getD (plc es k) 0=((ps.getD (os.getD j 0).toNat [])[plc os j])[plc es k]:=by rw[AtY,AtF lt];rfl
   rw[e8];exact M.2 _ (AtT lt)
  ·exact ArW
 m1:=C.e1
 m40:=C.e40
 n1:=C.o1
 n40:=C.o40
def ldA (u:NI):NI:=u.flatMap λc=>[c,46]
def ldB (u:NI):NI:=u.flatMap λc=>[35,c]
def ld2 (x y:NN):NN:=(x.zip y).flatMap λq=>[ldA q.1,ldB q.2]
theorem Qf{k:Nat}(h:i<2*k):(Es k).getD i 0=((i%2:Nat):Int):=by
 unfold Es;rw[AtY,Ah3 [(0:Int),1] k i (by simp;omega)];have:i%2=0\/i%2=1:=by omega
 rcases this with e | e <;> simp[e]
theorem AfL{k:Nat}:∀{i:Nat},i<=2*k->((Es k).take i).count 0=(i+1) / 2/\((Es k).take i).count 1=i / 2
 | 0,_=>by simp
 | i+1,h=>by
  have b:=AfL (k:=k) (i:=i) (by omega);have a:i<(Es k).length:=by rw[Eg];omega
  rw[Ss a,Ss a,b.1,b.2,Qf (by omega)];have:i%2=0\/i%2=1:=by omega
  rcases this with e | e
  ·rw[e];simp;omega
  ·rw[e];simp;omega
theorem AdR{k:Nat}(h:i<2*k):plc (Es k) i=i / 2:=by
 unfold plc;rw[Qf h];have:=AfL (k:=k) (i:=i) (by omega);have e:i%2=0\/i%2=1:=by omega
 rcases e with e | e
 ·rw[e];show((Es k).take i).count 0=_;rw[this.1];omega
 ·rw[e];exact this.2
theorem AnB{k:Nat}(h:k<2*u.length):(ldA u)[k]?=some (if k%2=0 then u.getD (k / 2) 0 else 46):=by
 unfold ldA;have e:=Tg (h:=2) (f:=λc:Nat=>[c,46]) u (λx _=>rfl) (k / 2) (k%2) (by omega);rw[show k / 2*2+k%2=k by omega] at e;rw[e];have hk:k / 2<u.length:=by omega
 rw[AtF hk];show[u[k / 2],46][k%2]?=_;have e2:u.getD (k / 2) 0=u[k / 2]:=by rw[AtY,AtF hk];rfl
 rw[e2];have:k%2=0\/k%2=1:=by omega
 rcases this with e3 | e3 <;> rw[e3] <;> rfl
theorem AnC{k:Nat}(h:k<2*u.length):(ldB u)[k]?=some (if k%2=0 then 35 else u.getD (k / 2) 0):=by
 unfold ldB;have e:=Tg (h:=2) (f:=λc:Nat=>[35,c]) u (λx _=>rfl) (k / 2) (k%2) (by omega);rw[show k / 2*2+k%2=k by omega] at e;rw[e];have hk:k / 2<u.length:=by omega
 rw[AtF hk];show[35,u[k / 2]][k%2]?=_;have e2:u.getD (k / 2) 0=u[k / 2]:=by rw[AtY,AtF hk];rfl
 rw[e2];have:k%2=0\/k%2=1:=by omega
 rcases this with e3 | e3 <;> rw[e3] <;> rfl
theorem AhI(u:NI):(ldA u).length=2*u.length:=by unfold ldA;rw[Oh (h:=2) u λx _=>rfl];omega
theorem AhJ(u:NI):(ldB u).length=2*u.length:=by unfold ldB;rw[Oh (h:=2) u λx _=>rfl];omega
theorem AnD{y:NN}(C:Cl x m n)(D:Cl y m n):lay [x,y] (Es m) (Es n)=ld2 x y:=by
 have u:(x.zip y).length=n:=by rw[List.length_zip,C.hn,D.hn,Avw]
 have v:(ld2 x y).length=2*n:=by
  unfold ld2;rw[Oh (h:=2) _ λq _=>rfl,u];omega
 apply AuL;intro j;by_cases b:j<2*n
 ·have l:j<(Es n).length:=by rw[Eg];exact b
  rw[AhH l,Qf b,AdR b];have d:j / 2<x.length:=by rw[C.hn];omega
  have i:j / 2<y.length:=by rw[D.hn];omega
  have e:=Tg (h:=2) (f:=λq:NI × NI=>[ldA q.1,ldB q.2]) (x.zip y) (λq _=>rfl) (j / 2) (j%2) (by omega);rw[show j / 2*2+j%2=j by omega] at e;show _=(ld2 x y)[j]?;unfold ld2;rw[e];have s:(x.zip y)[j / 2]?=some (x[j / 2],y[j / 2]):=List.getElem?_zip_eq_some.mpr ⟨AtF d,AtF i⟩;rw[s];show _=[ldA x[j / 2],ldB y[j / 2]][j%2]?;have p:=C.hm _ (AtT d);have r:=D.hm _ (AtT i);have ex:x.getD (j / 2) []=x[j / 2]:=by rw[AtY,AtF d];rfl
  have t:y.getD (j / 2) []=y[j / 2]:=by rw[AtY,AtF i];rfl
  have o:j%2=0\/j%2=1:=by omega
  rcases o with e3 | e3
  ·rw[e3];show some (Fi [x,y] (Es m) 0 (j / 2))=some (ldA x[j / 2])
   congr 1
   apply AuL;intro k;by_cases hk:k<2*m
   ·rw[Su (by rw[Eg];exact hk),AnB (by rw[p];exact hk),Qf hk,AdR hk];show some (Vx 0 ((k%2:Nat):Int) (x.getD (j / 2) []) (k / 2))=_;rw[ex];unfold Vx;have c:k%2=0\/k%2=1:=by omega
    rcases c with a | a
    ·rw[a];rfl
    ·rw[a];rfl
   ·rw[Au0 (by rw[Jv,Eg];omega),Au0 (by rw[AhI,p];omega)]
  ·rw[e3];show some (Fi [x,y] (Es m) 1 (j / 2))=some (ldB y[j / 2])
   congr 1
   apply AuL;intro k;by_cases hk:k<2*m
   ·rw[Su (by rw[Eg];exact hk),AnC (by rw[r];exact hk),Qf hk,AdR hk];show some (Vx 1 ((k%2:Nat):Int) (y.getD (j / 2) []) (k / 2))=_;rw[t];unfold Vx;have c:k%2=0\/k%2=1:=by omega
    rcases c with a | a
    ·rw[a];rfl
    ·rw[a];rfl
   ·rw[Au0 (by rw[Jv,Eg];omega),Au0 (by rw[AhJ,r];omega)]
 ·rw[Au0 (by rw[AdP,Eg];omega),Au0 (by rw[v];omega)]
section
variable {K:NF}{base:Heap}
inductive Ajc (vs:Na)(H:Hp)(Q:VK)(z3:XK):Prop
|mk(t:NI)(_:vs=[.str (tx t)])(_:t.length<=40)(_:∀ H',Aq H H'->Q (.str (tx (t.map flip))) H')
theorem Zb(T:Txt K mg t):Bl P w K mg base CX0 1 t.O9 t.OD ["signs"] Ajc:=by
 refine T.Vf.F.ok Mt ?_;rintro _ _ _ _ H _ Q E l ⟨t,rfl,b,k⟩;refine⟨_,(Ad (Ay (Bw zI zS zV (Dk (K:=K)) Av (Aa (Cg (cok [] ["sign"] Mt) Z (RC (pv 0)) (λ_ _ _ _ _=>.nil) (λ_ _ _ _ _=>(JV (Ah Ci (pv 0) Av (Ax _)) Av Av))) Ab)))),?_⟩;refine⟨Z,_,Z,_,Z,S9 (λi ys H2=>H2=H/\ys=vS ((t.take i).map λc=>[flip c])) ⟨Z,Z⟩ ?_ ?_ ?_ ?_⟩
 ·rintro i ys H2 hi ⟨rfl,rfl⟩;rw[Bt,AtG,AtX];exact Ar.k7
 ·exact Cv b
 ·rintro i c ys H2 hi hc ⟨rfl,rfl⟩;rw[Ob] at hc;have fin:∀ d,d=flip c->CN (tx t).cps.size (λi ys a=>a=H2/\ys=vS ((t.take i).map λc=>[flip c])) i (vS ((t.take i).map λc=>[flip c])++[.str (tx [d])]) H2:=λd j=>by
   subst j;refine CN.of hi ⟨Z,?_⟩;rw[Dm,AtV,hc,AtK];rfl
  refine⟨_,Z,Z,_,Z,?_⟩;refine Dj (λh=>?_) (λh=>?_)
  ·have e:c=35:=by
    injection h with h;exact List.cons.inj (I9 h) |>.1
   have:= fin 46 (by rw[e];rfl);exact this
  ·have e:c≠35:=λz=>h (by rw[z];exact e35);have:= fin 35 (by unfold flip;rw[if_neg e]);exact this
 ·rintro ys H2 p ⟨rfl,rfl⟩ f;rw[SM,Aue];refine⟨_,_,((t.map λc=>[flip c]).map tx),Z,Z,SqL.of (by rw[Ae,Fy]),?_,?_⟩
  ·have e1:=AjO flip t;rw[e1,AtG,AtG];have:t.length*(Str.length "")=0:=by rw[show Str.length "" = 0 from by decide +kernel];exact Ar.f1
   exact Ar.a2 b
  ·rw[show(("" : Str))=tx [] from by decide +kernel,Ln];have e2:=AbY flip t;rw[e2];exact k _ (.upd f)
inductive AgX (K:NF)(vs:Na)(H:Hp)(Q:VK)(z3:XK):Prop
|mk(a:Addr)(cl:NN)(m:Nat)(n:Nat)(_:vs=[.ref a])(_:SqL K H a (vS cl))(_:Cl cl m n)(_:∀ l H',Aq H H'->H l=none->H' l=some (.lst (vS (IK cl m)))->Q (.ref l) H')
theorem AbF(T:Txt K mg t):Bl P w K mg base CX0 4 t.Uv t.Uw ["cloth"] (AgX K):=by
 refine T.AaK.F.ok JL ?_;rintro _ _ _ _ H _ Q E d ⟨a,cl,m,n,rfl,h,C,k⟩;have c2:=C.n40;have f:=C.m40;refine⟨_,(Ac (Ba (i:=1) JL.nd Z (Or.inl Z) (Bg T.measured (Hq T) d (Aa (pv 0) Ab)))
  (Ad (Ay (Cg (cok [0] ["end", "cloth"] JL) Z (Ca Z T.Cq (Aa (Az (BW (K:=K)) (pv 1) Af (λ_ _=>rfl)) Ab)) (λ_ _ _ _ _=>.nil) (λ_ _ _ _ _=>(Bg T.Vf (Zb T) d (Aa (Bg T.Wt (Vu T) d (Aa (pv 1) (Aa (pv 0) Ab))) Ab))))))),?_⟩;refine⟨_,Z,a,cl,m,n,Z,h,C,λp o=>?_⟩;have s1:Aq H (upd H p (.tup [.int (m:Int),.int (n:Int)])):=.upd o;refine⟨_,Z,_,_,_,_,Z,Z,SqT.of Ae,Br (by decide) Z,(m:Int),Z,(by exact Ar.a7),(by exact Ar.a8 f),?_⟩;refine DR (λi ys H2=>Aq H H2/\ys=vS ((List.range i).map λe=>(col cl e).map flip)) ⟨s1,Z⟩ ?_ ?_ ?_ ?_
 ·rintro i ys H2 hi ⟨b,rfl⟩;rw[Bt,AtG,AtO];exact Ar.i1
 ·exact Cv f
 ·rintro i ys H2 hi ⟨b,rfl⟩;refine⟨_,Z,_,Z,a,cl,m,n,i,(by rw[Au6];rfl),b.seq h,C,hi,λq l=>?_⟩;refine⟨col cl i,Z,(by unfold col;rw[AtG,C.hn];exact Ar.a2 c2),λr j=>?_⟩;refine CN.of hi ⟨(b.trans l).trans j,?_⟩;rw[Dm,Aur,AtK];rfl
 ·rintro ys H2 p2 ⟨b,rfl⟩ c;exact k p2 _ (b.new c) (b.free c) Ae
theorem AfM:(("(" : Str))=tx [40]:=by decide +kernel
theorem WL:((")" : Str))=tx [41]:=by decide +kernel
theorem WM:(("," : Str))=tx [44]:=by decide +kernel
def pf (l:Addr)(z:Str):List (Str × V):=[("texts", .ref l),("writing", .str z)]
inductive Alu (K:NF)(vs:Na)(H:Hp)(Q:VK)(z3:XK):Prop
|mk(C:Addr)(r:Addr)(dx:Addr)(a:Addr)(ts:NN)(z:Str)(_:vs=[.ref r,.ref a,.str z])(_:H r=some (.ins C dx []))(_:Cls K C)(_:CT K C "texts") (_:CT K C "writing") (_:SqL K H a (vS ts))(_:∀ l,H l=none->Q .non (upd (upd H l (.lst (vS ts))) r (.ins C dx (pf l z))))
theorem Fe(T:Txt K mg t):Bl P w K mg base CX0 1 t.Fq t.K1 ["self", "texts", "writing"] (Alu K):=by
 refine T.Ef.F.ok Uk ?_;rintro _ _ _ _ H _ Q E j ⟨C,r,dx,a,h,z,rfl,h1,hc,b,c,i,k⟩;refine⟨_,(Ac (Ib (K:=K) (pv 0) (Cw (Et) Z T.Gu Fb (Aa (pv 1) Ab)))
  (Ad (Ib (K:=K) (pv 0) (pv 2)))),?_⟩;refine⟨_,Z,_,_,Z,.inl i,λl f=>?_⟩;have e:=Bb h1 f;have d:(upd H l (.lst (vS h))) r=some (.ins C dx []):=by rw[Aj e];exact h1
 refine⟨_,Z,_,_,_,_,Z,d,hc,b,(by decide),?_⟩;refine⟨_,Z,_,Z,_,_,_,_,Z,Ae,hc,c,(by show 1<1000;decide),?_⟩;rw[HQ];exact k l f
def pcs (t:Adr):NU:=[t.Fp,t.GF,t.Dy,t.Kv]
structure PcC (K:NF)(t:Adr)(C:Addr):Prop where
 c:Cls K C
 n1:CT K C "texts"
 n2:CT K C "writing"
 ArX:Meth K C "cloth" t.Dq
 told:Meth K C "told" t.DP
 wide:Meth K C "wide" t.DK
 high:Meth K C "high" t.DN
theorem pcC(T:Txt K mg t)(h:C∈pcs t):PcC K t C:=by
 simp only [pcs,Aui,Auj,or_false] at h;rcases h with rfl | rfl | rfl | rfl
 ·exact⟨T.Ad4.c,T.PN,T.KJ,T.Abd,T.Ab8,T.Ab6,T.Ab7⟩
 ·exact⟨T.AgL.c,T.Ru,T.Nj,T.Ab9,T.Ad7,T.Ad5,T.Ad6⟩
 ·exact⟨T.W3.c,T.KN,T.Jr,T.W4,T.YZ,T.YW,T.YX⟩
 ·exact⟨T.AkQ.c,T.Vj,T.PQ,T.Ad8,T.Af8,T.Af6,T.Af7⟩
def Pc (t:Adr)(H:Hp)(p:Addr)(x:NN)(z:NI):Prop:=∃ C dx l,C∈pcs t/\H p=some (.ins C dx (pf l (tx z)))/\H l=some (.lst (vS x))
theorem Pc.mono{p:Addr}(h:Pc t H p x z)(s:∀ b o,H b=some o->H' b=some o):Pc t H' p x z:=by obtain⟨C,dx,l,a,h1,h2⟩:=h;exact⟨C,dx,l,a,s _ _ h1,s _ _ h2⟩
theorem Abo(l:Addr)(z:Str):(pf l z).lookup ("texts" : Str)=some (V.ref l):=rfl
theorem AgY(l:Addr)(z:Str):(pf l z).lookup ("writing" : Str)=some (V.str z):=rfl
theorem Zr(l:Addr)(z:Str):(pf l z).lookup ("wide" : Str)=none/\(pf l z).lookup ("high" : Str)=none/\(pf l z).lookup ("sign" : Str)=none/\(pf l z).lookup ("cloth" : Str)=none/\(pf l z).lookup ("told" : Str)=none:=⟨Z,Z,Z,Z,Z⟩
theorem JD{x:NI}(h:cl[i]?=some x):atI (vS cl) (i:Int)=some (.str (tx x)):=Br (by exact Ar.a9) (by rw[Auh];unfold vS;rw[AtQ,h];rfl)
theorem Cl.at(C:Cl x m n)(h:i<n):∃ u,x[i]?=some u/\u.length=m:=by
 have hi:i<x.length:=by rw[C.hn];exact h
 exact⟨x[i],AtF hi,C.hm _ (AtT hi)⟩
inductive AhK (t:Adr)(vs:Na)(H:Hp)(Q:VK)(z3:XK):Prop
|mk(p:_)(x:_)(z:_)(m:_)(n:_)(_:vs=[.ref p])(_:Pc t H p x z)(_:Cl x m n)(_:Q (.int ((m:Nat):Int)) H)
theorem Hf(T:Txt K mg t):Bl P w K mg base CX0 1 t.DK t.Us ["self"] (AhK t):=by refine T.Gv.F.ok Ab2 ?_;rintro _ _ _ _ H _ Q E h ⟨p,x,z,m,n,rfl,⟨C,dx,l,e,f,b⟩,D,k⟩;have C:=pcC T e;obtain⟨u,d,a⟩:=D.at D.n1;have:= D.m40;refine⟨_,(Ad (Ay (Ai Bs Z T.BJ Bj (Aa (Az (Aw) (CV (pv 0) Z) Af (λ_ _=>rfl)) Ab)))),?_⟩;refine⟨_,Z,_,_,_,_,_,Z,f,C.c,C.n1,Abo _ _,_,_,_,_,Z,Z,SqL.of b,JD d,_,Z,(by rw[Al,a];exact big (by exact Ar.a2 this)),?_⟩;rw[Al,a];exact k
inductive AhL (t:Adr)(vs:Na)(H:Hp)(Q:VK)(z3:XK):Prop
|mk(p:_)(x:_)(z:_)(m:_)(n:_)(_:vs=[.ref p])(_:Pc t H p x z)(_:Cl x m n)(_:Q (.int ((n:Nat):Int)) H)
theorem Hg(T:Txt K mg t):Bl P w K mg base CX0 1 t.DN t.Ut ["self"] (AhL t):=by refine T.Gw.F.ok Ab3 ?_;rintro _ _ _ _ H _ Q E e ⟨p,x,z,m,n,rfl,⟨C,dx,l,b,d,a⟩,D,k⟩;have C:=pcC T b;refine⟨_,(Ad (Ay (Ai (Ak) Z T.BJ Bj (Aa (CV (pv 0) Z) Ab)))),?_⟩;refine⟨_,Z,_,_,_,_,_,Z,d,C.c,C.n1,Abo _ _,_,_,Z,.inl (SqL.of a),?_⟩;rw[Bt,D.hn];exact k
inductive AfN (t:Adr)(vs:Na)(H:Hp)(Q:VK)(z3:XK):Prop
|mk(p:_)(x:_)(z:_)(_:vs=[.ref p])(_:Pc t H p x z)(_:∀ l,H l=none->Q (.ref l) (upd H l (.lst (vS x))))
theorem Gz(T:Txt K mg t):Bl P w K mg base CX0 1 t.Dq t.QT ["self"] (AfN t):=by refine T.FP.F.ok Aa5 ?_;rintro _ _ _ _ H _ Q E f ⟨p,x,z,rfl,⟨C,dx,l,d,e,a⟩,k⟩;have C:=pcC T d;refine⟨_,(Ad (Ay (Cw (Et) Z T.Gu Fb (Aa (CV (pv 0) Z) Ab)))),?_⟩;exact⟨_,Z,_,_,_,_,_,Z,e,C.c,C.n1,Abo _ _,_,_,Z,.inl (SqL.of a),λq b=>k q b⟩
inductive AhM (t:Adr)(vs:Na)(H:Hp)(Q:VK)(z3:XK):Prop
|mk(p:_)(x:_)(z:_)(_:vs=[.ref p])(_:Pc t H p x z)(_:Q (.str (tx z)) H)
theorem JS(T:Txt K mg t):Bl P w K mg base CX0 1 t.DP t.Uu ["self"] (AhM t):=by refine T.Io.F.ok Ab4 ?_;rintro _ _ _ _ H _ Q E e ⟨p,x,z,rfl,⟨C,dx,l,a,b,d⟩,k⟩;have C:=pcC T a;refine⟨_,(Ad (Ay (CV (pv 0) Z))),?_⟩;exact⟨_,Z,_,_,_,_,_,Z,b,C.c,C.n2,AgY _ _,k⟩
inductive Alv (vs:Na)(H:Hp)(Q:VK)(z3:XK):Prop
|mk(m:Nat)(n:Nat)(_:vs=[.int (m:Int),.int (n:Int)])(_:m<=40)(_:n<=40)(_:Q .non H)
theorem Rv(T:Txt K mg t):Bl P w K mg base CX0 1 t.U7 t.U8 ["ends", "picks"] Alv:=by
 refine T.RX.F.ok Abz ?_;rintro _ _ _ _ H _ Q E a ⟨m,n,rfl,h1,h2,k⟩;refine⟨_,(Ad (Bd (PW.pt (pw_or (Ah HF (pv 0) (CG (v:=.int 40) Z T.Ec.choose_spec ⟨_,Z⟩) (Ax _)) (pw_or1 (Ah HF (pv 1) (CG (v:=.int 40) Z T.Ec.choose_spec ⟨_,Z⟩) (Ax _)))))
   (Ad Bc)
   Ao)),?_⟩;refine⟨_,Z,_,_,Z,Z,_,Z,?_⟩;refine CZ (by exact Ar.i3 h1) ?_;refine⟨_,Z,_,_,Z,Z,_,Z,?_⟩;refine CZ (by exact Ar.i3 h2) ?_;exact k
theorem Aqf:∀(ys:NN),((ys.map tx).map (·.length)).sum+ys.length<=(cj ys).length+1
 | []=>by simp
 | y::ys=>by
  have h:∀ ys:NN,((ys.map tx).map (·.length)).sum+ys.length=((ys.map λy=>[44]++y).flatten).length:=λys=>by
   induction ys with
   | nil=>rfl
   | cons x ys a =>
    rw[AtM,AtM,Aul,AtM,Auq,AtI,AtI,<- a,Al,AtS,Avy];lia
  have:= h ys;unfold cj;rw[AtM,AtM,Aul,AtI,Al,AtS,<- this];lia
theorem Alw(z:NI)(ys:NN):(wz z ys).length=z.length+(cj ys).length+2:=by unfold wz;rw[AtI,AtS,AtI,Avy];exact Ar.f1
inductive AgZ (K:NF)(vs:Na)(H:Hp)(Q:VK)(z3:XK):Prop
|mk(a:Addr)(ws:NI)(ys:NN)(_:vs=[.str (tx ws),.ref a])(_:SqL K H a (vS ys))(_:ys≠[])(_:(wz ws ys).length<=1000000)(_:Q (.str (tx (wz ws ys))) H)
theorem Sv(T:Txt K mg t):Bl P w K mg base CX0 1 t.Acw t.Acx ["word", "things"] (AgZ K):=by
 refine T.written.F.ok AgI ?_;rintro _ _ _ _ H _ Q E f ⟨a,ws,ys,rfl,d,b,c,k⟩;refine⟨_,(Ad (Ay (Bx BL (Bx BL (Bx BL (pv 0) Av) (Bw zI zS zV (Dk (K:=K)) Av (Aa (pv 1) Ab))) Av))),?_⟩;have e1:(("," : Str)).length=1:=by decide +kernel
 have cl:=Aqf ys;rw[Alw] at c;refine⟨_,Z,_,_,Z,Z,(by rw[AfM,Al,Al];exact big (by grind)),Z,_,Z,_,_,ys.map tx,Z,Z,(by rw[<- Fy];exact d),?_,?_⟩
 ·grind
 ·have e:Txt.join (tx [44]) (ys.map tx)=tx (cj ys):=by
   cases ys with
   | nil=>exact absurd Z b
   | cons y ys=>exact Vr [44] y ys
  rw[AfM,WM,WL,e,DW];refine⟨_,_,Z,Z,(by rw[Al,Al];exact big (by simp only [AtI,AtS,Aun];lia)),?_⟩;rw[DW];refine⟨_,_,Z,Z,(by rw[Al,Al];exact big (by simp only [AtI,AtS,Aun];lia)),?_⟩;rw[DW,show(ws++[40]++cj ys)++[41]=wz ws ys by unfold wz;simp];exact k
def Oi (C dx r:Addr)(H:Hp)(Q:VK)(x:NN)(z:NI):Prop:=∀ l H',Dl r H H'->H l=none->H' l=some (.lst (vS x))->H' r=some (.ins C dx (pf l (tx z)))->Q .non H'
theorem Oi.fin{f:Hp}(k:Oi C dx r H Q x z)(a:Aq H f)(h1:H r=some (.ins C dx []))(d:f l=none):Q .non (upd (upd f l (.lst (vS x))) r (.ins C dx (pf l (tx z)))):=by
 have j:=a _ _ h1;have h:l≠r:=λy=>by simp_all
 have c:H l=none:=by
  cases e:H l with
  | none=>rfl
  | some o=>rw[a _ _ e] at d;cases d
 refine k l _ (λb o i e=>?_) c (by rw[Aj h];exact Ae) Ae;rw[Aj i,Aj (Bb (a b o e) d)];exact a b o e
inductive Alx (K:NF)(t:Adr)(vs:Na)(H:Hp)(Q:VK)(z3:XK):Prop
|mk(r:Addr)(dx:Addr)(a:Addr)(x:NN)(z:NI)(_:vs=[.ref r,.str (tx z),.ref a])(_:H r=some (.ins t.Fp dx []))(_:SqL K H a (vS x))(_:Oi t.Fp dx r H Q x z)
theorem Vy(T:Txt K mg t):Bl P w K mg base CX0 3 t.GK t.K3 ["self", "name", "known_cloth"] (Alx K t):=by refine T.KR.F.ok Uq ?_;rintro _ _ _ _ H _ Q E e ⟨r,dx,a,x,z,rfl,h1,f,k⟩;refine⟨_,(Ad (Bo (Zk (CG (v:=.ref t.Fd) Z T.Zo Z) T.Vk ((Fe T).mono (by decide)) e T.Ef.b .nil BK (Aa (pv 0) (Aa (pv 2) (Aa (pv 1) Ab)))))),?_⟩;refine⟨Z,_,Z,_,Z,_,Z,t.Fp,r,dx,a,x,_,Z,h1,T.Ad4.c,T.PN,T.KJ,f,λl d=>?_⟩;exact k.fin (.refl _) h1 d
inductive AnE (K:NF)(t:Adr)(vs:Na)(H:Hp)(Q:VK)(z3:XK):Prop
|mk(r:Addr)(dx:Addr)(a:Addr)(rs:NN)(m:Nat)(n:Nat)(_:vs=[.ref r,.ref a])(_:H r=some (.ins t.GF dx []))(_:SqL K H a (vS rs))(_:Cl rs m n)(_:(wz Pat.Gy rs).length<=1000000)(_:Oi t.GF dx r H Q rs (wz Pat.Gy rs))
theorem WN(T:Txt K mg t):Bl P w K mg base CX0 2 t.HB t.M8 ["self", "runs"] (AnE K t):=by
 refine T.Nk.F.ok Ku ?_;rintro _ _ _ _ H _ Q E p ⟨r,dx,a,rs,m,n,rfl,h1,e,C,J,k⟩;have n1:=C.n1;have j:=C.n40;have d:=C.m40;have hn:=C.hn;have l0:0<rs.length:=by exact Ar.b3 hn n1
 have f:=AtF l0;have o:=C.hm _ (AtT l0);generalize rs[0]=I at f o;refine⟨_,(Ac (Bd (Ck (Ai (Wb (K:=K)) Z T.AkL Agy (Aa (Cg (cok [1] ["run", "runs"] Ku) Z (Bq (K:=K) (pv 1)) (λ_ _ _ _ _=>.nil) (λ_ _ _ _ _=>(Ea G5 (Ai Bs Z T.BJ Bj (Aa (pv 0) Ab)) (Ai Bs Z T.BJ Bj (Aa (Az (Aw) (pv 1) Af (λ_ _=>rfl)) Ab)) (Ax _)))) Ab)))
   (Ad Bc)
   Ao)
  (Ac (Bo (Bg T.RX (Rv T) p (Aa (Ai Bs Z T.BJ Bj (Aa (Az (Aw (K:=K)) (pv 1) Af (λ_ _=>rfl)) Ab)) (Aa (Ai (Ak (K:=K)) Z T.BJ Bj (Aa (pv 1) Ab)) Ab))))
  (Ad (Bo (Zk (CG (v:=.ref t.Fd) Z T.Zo Z) T.Vk ((Fe T).mono (by decide)) p T.Ef.b .nil BK (Aa (pv 0) (Aa (pv 1) (Aa (Bg T.written (Sv T) p (Aa Av (Aa (pv 1) Ab))) Ab)))))))),?_⟩;refine⟨_,Z,_,Z,⟨_,e⟩,BV (xs:=vS rs) (λi ys H2=>H2=H/\ys=vB (List.replicate i false)) ⟨Z,Z⟩ ?_ ?_ ?_ ?_⟩
 ·rintro i ys H2 hi ⟨rfl,rfl⟩;refine⟨e,?_⟩;rw[VR,Au8];exact AtH _
 ·rw[Bt];exact Cv (by exact Ar.g6 hn j)
 ·rintro i x ys H2 hi A ⟨rfl,rfl⟩;obtain⟨u,B,rfl⟩:=Ff A;have s:=C.hm u (AtN B);refine⟨_,Z,_,Z,(by rw[Al];exact big (by exact Ar.g6 s d)),_,Z,_,_,_,_,Z,Z,e,JD f,_,Z,(by rw[Al];exact big (by exact Ar.g6 o d)),Z,?_⟩;rw[show(!decide (V.int ((tx u).length:Int)=V.int ((tx I).length:Int)))=false by rw[Al,Al,s,o];simp];exact CN.of hi ⟨Z,by rw[Wa,<- Avz]⟩
 ·rintro ys H2 q ⟨rfl,rfl⟩ y;refine⟨_,_,Z,SqL.of Ae,_,Z,?_⟩;rw[show(List.replicate (vS rs).length false).any id=false by simp];have h:Aq H2 (upd H2 q (.lst (vB (List.replicate (vS rs).length false)))):=.upd y;refine⟨_,Z,_,_,_,_,Z,Z,h.seq e,JD f,_,Z,(by rw[Al];exact big (by exact Ar.g6 o d)),_,Z,_,_,Z,.inl (h.seq e),m,n,(by rw[Al,o,Bt,hn];rfl),d,j,?_⟩;refine⟨Z,_,Z,_,Z,_,Z,a,Pat.Gy,rs,(by rfl),h.seq e,(λz=>by simp_all),J,?_⟩;refine⟨t.GF,r,dx,a,rs,_,Z,h _ _ h1,T.AgL.c,T.Ru,T.Nj,h.seq e,λl D=>?_⟩;exact k.fin h h1 D
theorem Zt(T:Txt K mg t){p:Addr}(b:Pc t H p x z)(C:Cl x m n)(k:Q (.int ((m:Nat):Int)) H):Og K "wide" t.DK (AhK t) E Q (V.ref p) H:=by obtain⟨D,dx,l,a,h1,h2⟩:=id b;exact⟨p,dx,_,D,Z,h1,(Zr _ _).1,(pcC T a).c,(pcC T a).wide,p,x,z,m,n,Z,b,C,k⟩
theorem Zu(T:Txt K mg t){p:Addr}(b:Pc t H p x z)(C:Cl x m n)(k:Q (.int ((n:Nat):Int)) H):Og K "high" t.DN (AhL t) E Q (V.ref p) H:=by obtain⟨D,dx,l,a,h1,h2⟩:=id b;exact⟨p,dx,_,D,Z,h1,(Zr _ _).2.1,(pcC T a).c,(pcC T a).high,p,x,z,m,n,Z,b,C,k⟩
theorem Vz(T:Txt K mg t){p:Addr}(b:Pc t H p x z)(k:∀ l,H l=none->Q (.ref l) (upd H l (.lst (vS x)))):Og K "cloth" t.Dq (AfN t) E Q (V.ref p) H:=by obtain⟨D,dx,l,a,h1,h2⟩:=id b;exact⟨p,dx,_,D,Z,h1,(Zr _ _).2.2.2.1,(pcC T a).c,(pcC T a).ArX,p,x,z,Z,b,k⟩
theorem AdS(T:Txt K mg t){p:Addr}(b:Pc t H p x z)(k:Q (.str (tx z)) H):Og K "told" t.DP (AhM t) E Q (V.ref p) H:=by obtain⟨D,dx,l,a,h1,h2⟩:=id b;exact⟨p,dx,_,D,Z,h1,(Zr _ _).2.2.2.2,(pcC T a).c,(pcC T a).told,p,x,z,Z,b,k⟩
inductive Aqg (K:NF)(t:Adr)(C:Addr)(wd:NI)(mk:NN->NN)(vs:Na)(H:Hp)(Q:VK)(z3:XK):Prop
|mk(r:Addr)(dx:Addr)(p:Addr)(x:NN)(zx:NI)(_:vs=[.ref r,.ref p])(_:H r=some (.ins C dx []))(_:Pc t H p x zx)(_:Clo x)(_:(wz wd [zx]).length<=1000000)(_:Oi C dx r H Q (mk x) (wz wd [zx]))
theorem Q5(T:Txt K mg t):Bl P w K mg base CX0 6 t.FZ t.Ji ["self", "inner"] (Aqg K t t.Dy quW (λx=>IK x (wdt x))):=by refine T.Jt.F.ok Q3 ?_;rintro _ _ _ _ H _ Q E a ⟨r,dx,p,x,f,rfl,h1,u,C,B,k⟩;refine⟨_,(Ad (Bo (Zk (CG (v:=.ref t.Fd) Z T.Zo Z) T.Vk ((Fe T).mono (by decide)) a T.Ef.b .nil BK (Aa (pv 0) (Aa (Bg T.AaK (AbF T) a (Aa (Dt (K:=K) Z (pv 1) ((Gz T).mono (by decide)) a T.FP.b BK) Ab)) (Aa (Bg T.written (Sv T) a (Aa Av (Aa (Cp (Aa (Dt (K:=K) Z (pv 1) ((JS T).mono (by decide)) a T.Io.b BK) Ab)) Ab))) Ab)))))),?_⟩;refine⟨Z,_,Z,_,Z,Vz T u λe o=>?_⟩;have s1:Aq H (upd H e (.lst (vS x))):=.upd o;have n:(upd H e (.lst (vS x))) e=some (.lst (vS x)):=Ae;refine⟨e,x,wdt x,x.length,Z,SqL.of n,C,λl8 i z A s=>?_⟩;have q:=s1.trans z;refine⟨_,Z,AdS T (u.mono q) ?_⟩;refine⟨(by show 1<=sizeLine;decide),λd j=>?_⟩;have m:Aq i (upd i d (.lst (vS [f]))):=.upd j;have h:(upd i d (.lst (vS [f]))) d=some (.lst (vS [f])):=Ae;refine⟨d,quW,[f],(by rfl),SqL.of h,(by simp),B,?_⟩;refine⟨t.Dy,r,dx,l8,_,_,Z,(q.trans m) _ _ h1,T.W3.c,T.KN,T.Jr,SqL.of (m _ _ s),λl y=>?_⟩;exact k.fin (q.trans m) h1 y
theorem Aly(k:Nat):(List.replicate k [V.int 0,V.int 1]).flatten=vI (Es k):=by
 induction k with
 | zero=>rfl
 | succ k a =>
  rw[AuK,Auq,a];rfl
inductive AnF (t:Adr)(vs:Na)(H:Hp)(Q:VK)(z3:XK):Prop
|mk(p:Addr)(q:Addr)(x:NN)(y:NN)(zx:NI)(zy:NI)(m:Nat)(n:Nat)(_:vs=[.ref p,.ref q])(_:Pc t H p x zx)(_:Pc t H q y zy)(_:Cl x m n)(_:Cl y m n)(_:Q .non H)
theorem V0(T:Txt K mg t):Bl P w K mg base CX0 2 t.KC t.KD ["one", "other"] (AnF t):=by
 refine T.PB.F.ok TV ?_;rintro _ _ _ _ H _ Q E a ⟨p,q,x,y,f,e,m,n,rfl,d,c,C,D,k1⟩;refine⟨_,(Ad (Bd (PW.pt (pw_or (Ah G5 (Dt (K:=K) Z (pv 0) ((Hf T).mono (by decide)) a T.Gv.b BK) (Dt (K:=K) Z (pv 1) ((Hf T).mono (by decide)) a T.Gv.b BK) (Ax _)) (pw_or1 (Ah G5 (Dt (K:=K) Z (pv 0) ((Hg T).mono (by decide)) a T.Gw.b BK) (Dt (K:=K) Z (pv 1) ((Hg T).mono (by decide)) a T.Gw.b BK) (Ax _)))))
   (Ad Bc)
   Ao)),?_⟩;refine⟨_,Z,Zt T d C ?_⟩;refine⟨_,Z,Zt T c D ?_⟩;refine⟨Z,_,Z,?_⟩;refine Oa Z ?_;refine⟨_,Z,Zu T d C ?_⟩;refine⟨_,Z,Zu T c D ?_⟩;refine⟨Z,_,Z,?_⟩;exact Oa Z k1
inductive Aqh (K:NF)(t:Adr)(vs:Na)(H:Hp)(Q:VK)(z3:XK):Prop
|mk(r:Addr)(dx:Addr)(p:Addr)(q:Addr)(x:NN)(y:NN)(zx:NI)(zy:NI)(m:Nat)(n:Nat)(_:vs=[.ref r,.ref p,.ref q])(_:H r=some (.ins t.Kv dx []))(_:Pc t H p x zx)(_:Pc t H q y zy)(_:Cl x m n)(_:Cl y m n)(_:m<=20)(_:n<=20)(_:(wz laW [zx,zy]).length<=1000000)(_:Oi t.Kv dx r H Q (lay [x,y] (Es m) (Es n)) (wz laW [zx,zy]))
theorem Zc(T:Txt K mg t):Bl P w K mg base CX0 4 t.Jj t.O6 ["self", "upper", "lower"] (Aqh K t):=by
 refine T.Qa.F.ok M6 ?_;rintro _ _ _ _ H _ Q E d ⟨r,dx,p,q,x,y,j,h,m,n,rfl,h1,f,J,C,D',s,z,hw,k⟩;refine⟨_,(Ac (Bo (Bg T.PB (V0 T) d (Aa (pv 1) (Aa (pv 2) Ab))))
  (Ac (Bo (Bg T.RX (Rv T) d (Aa (Bx NP Af (Dt (K:=K) Z (pv 1) ((Hf T).mono (by decide)) d T.Gv.b BK)) (Aa (Bx NP Af (Dt (K:=K) Z (pv 1) ((Hg T).mono (by decide)) d T.Gw.b BK)) Ab))))
  (Ac (Ba (i:=3) M6.nd Z (Or.inl Z) (Bg T.Rp (WK T) d (Aa (Cp (Aa (Dt (K:=K) Z (pv 1) ((Gz T).mono (by decide)) d T.FP.b BK) (Aa (Dt (K:=K) Z (pv 2) ((Gz T).mono (by decide)) d T.FP.b BK) Ab))) (Aa (Bx ZF (Cp (Aa Af (Aa Af Ab))) (Dt (K:=K) Z (pv 1) ((Hf T).mono (by decide)) d T.Gv.b BK)) (Aa (Bx ZF (Cp (Aa Af (Aa Af Ab))) (Dt (K:=K) Z (pv 1) ((Hg T).mono (by decide)) d T.Gw.b BK)) Ab)))))
  (Ad (Bo (Zk (CG (v:=.ref t.Fd) Z T.Zo Z) T.Vk ((Fe T).mono (by decide)) d T.Ef.b .nil BK (Aa (pv 0) (Aa (pv 3) (Aa (Bg T.written (Sv T) d (Aa Av (Aa (Cp (Aa (Dt (K:=K) Z (pv 1) ((JS T).mono (by decide)) d T.Io.b BK) (Aa (Dt (K:=K) Z (pv 2) ((JS T).mono (by decide)) d T.Io.b BK) Ab))) Ab))) Ab))))))))),?_⟩;have hsz:=z8;refine⟨_,Z,_,Z,p,q,x,y,j,h,m,n,Z,f,J,C,D',?_⟩;refine⟨_,Z,Zt T f C ?_⟩;refine⟨_,_,Z,Z,.inl ⟨by decide,by decide⟩,?_⟩;refine⟨_,Z,Zu T f C ?_⟩;refine⟨_,_,Z,Z,.inl ⟨by decide,by decide⟩,?_⟩;refine⟨2*m,2*n,(by simp_all),(by exact Ar.k6 s),(by exact Ar.k6 z),?_⟩;refine⟨_,Z,Vz T f λl1 ab=>?_⟩;obtain⟨H1,e,s1,W⟩:=nu9 (o:=.lst (vS x)) (.refl _) ab;rw[e];refine⟨_,Z,Vz T (J.mono s1) λl2 N=>?_⟩;obtain⟨H2,e,s2,R⟩:=nu9 (o:=.lst (vS y)) (.refl _) N;rw[e];refine⟨(by show 2<=sizeLine;decide),λl3 af=>?_⟩;obtain⟨H3,e,M,L⟩:=nu9 (o:=.lst [V.ref l1,V.ref l2]) (.refl _) af;rw[e];refine⟨(by show 2<=sizeLine;decide),λl4 S=>?_⟩;obtain⟨H4,e,s4,Y⟩:=nu9 (o:=.lst [V.int 0,V.int 1]) (.refl _) S;rw[e];have u4:=((s1.trans s2).trans M).trans s4;refine⟨_,Z,Zt T (f.mono u4) C ?_⟩;refine⟨_,_,_,Z,Z,Y,(by exact Ar.m3),(by exact Ar.m1 s),(by rw[Auh];show 2*_<=_;exact Ar.k6 s),λl5 U=>?_⟩;rw[Auh,Aly];obtain⟨H5,e,s5,a0⟩:=nu9 (o:=.lst (vI (Es m))) (.refl _) U;rw[e];refine⟨(by show 2<=sizeLine;decide),λl6 ae=>?_⟩;obtain⟨H6,e,s6,O⟩:=nu9 (o:=.lst [V.int 0,V.int 1]) (.refl _) ae;rw[e];have u6:=(u4.trans s5).trans s6;refine⟨_,Z,Zu T (f.mono u6) C ?_⟩;refine⟨_,_,_,Z,Z,O,(by exact Ar.m3),(by exact Ar.m1 z),(by rw[Auh];show 2*_<=_;exact Ar.k6 z),λl7 aa=>?_⟩;rw[Auh,Aly];have X:Aq H6 (upd H6 l7 (.lst (vI (Es n)))):=.upd aa;have ac:(upd H6 l7 (.lst (vI (Es n)))) l7=some (.lst (vI (Es n))):=Ae;have u7:=u6.trans X;have D:=((s4.trans s5).trans s6).trans X;refine⟨l3,l5,l7,[l1,l2],[x,y],Es m,Es n,Z,SqL.of (D _ _ L),⟨Z,λi a hi=>?_⟩,SqL.of ((s6.trans X) _ _ a0),SqL.of ac,Als C D' (by exact Ar.k6 s) (by exact Ar.k6 z),λl8 I s9 ah ag=>?_⟩
 ·rcases i with _ | _ | i
  ·cases hi;exact SqL.of (D _ _ (M _ _ (s2 _ _ W)))
  ·cases hi;exact SqL.of (D _ _ (M _ _ R))
  ·simp at hi
 have A:=u7.trans s9;refine⟨Z,_,Z,_,Z,_,Z,AdS T (f.mono A) ?_⟩;refine⟨_,Z,AdS T (J.mono A) ?_⟩;refine⟨(by show 2<=sizeLine;decide),λu a6=>?_⟩;have v9:Aq I (upd I u (.lst (vS [j,h]))):=.upd a6;have B:(upd I u (.lst (vS [j,h]))) u=some (.lst (vS [j,h])):=Ae;refine⟨u,laW,[j,h],(by rfl),SqL.of B,(by simp),hw,?_⟩;refine⟨t.Kv,r,dx,l8,_,_,Z,(A.trans v9) _ _ h1,T.AkQ.c,T.Vj,T.PQ,SqL.of (v9 _ _ ag),λl hl=>?_⟩;exact k.fin (A.trans v9) h1 hl
theorem Sw:((" " : Str))=tx [32]:=by decide +kernel
theorem AnG:(("#." : Str))=tx [35,46]:=by decide +kernel
def Qy:NN:=[[114,111,119,115],[116,119,105,108,108],[115,97,116,105,110],[98,101,115,105,100,101],[97,98,111,118,101],[109,105,114,114,111,114],[117,112,101,110,100],[98,97,99,107],[113,117,97,114,116,101,114],[116,105,108,101],[98,108,111,99,107,115],[108,97,121]]
theorem Alz:(["rows", "twill", "satin", "beside", "above", "mirror", "upend", "back", "quarter", "tile", "blocks", "lay"]:NX)=Qy.map tx:=by decide +kernel
theorem Ajd(u:NI):Pat.isWord u=decide (u∈Qy):=by
 by_cases h:u∈Qy
 ·rw[zN h];simp only [Qy,Aui,Auj,or_false] at h;rcases h with rfl | rfl | rfl | rfl | rfl | rfl | rfl | rfl | rfl | rfl | rfl | rfl <;> decide
 ·rw[zJ h];simp only [Qy,Aui,Auj,or_false,not_or] at h;unfold Pat.isWord Pat.wants Pat.Gy;grind
def Zd:NI:=[97,98,99,100,101,102,103,104,105,106,107,108,109,110,111,112,113,114,115,116,117,118,119,120,121,122]
theorem Aqi:(("abcdefghijklmnopqrstuvwxyz" : Str))=tx Zd:=by decide +kernel
theorem Aqj(c:Nat):decide (c∈Zd)=Pat.letter c:=z5.mpr (by
 rw[show Zd=List.range' 97 26 from Z,List.mem_range'_1];lia)
theorem in_words(u:NI):∀ b:NN,inV (V.str (tx u)) ((b.map tx).map V.str)=decide (u∈b)
 | []=>rfl
 | a::b=>by
  have c:=in_words u b;unfold inV at c ⊢;rw[AtM,AtM,AuT,c];by_cases h:u=a
  ·rw[h,zN (AtJ)];have:eqV (V.str (tx a)) (V.str (tx a))=true:=SJ Z;rw[this,Bool.true_or]
  ·have e1:(eqV (V.str (tx a)) (V.str (tx u))=false)/\(eqV (V.str (tx u)) (V.str (tx a))=false):=⟨zZ.mpr λz=>h (I9 z).symm,zZ.mpr λz=>h (I9 z)⟩
   first | rw[e1.1] | rw[e1.2]
   exact z5.mpr ⟨λz=>AtL _ z,λz=>(yD.mp z).elim (λz=>absurd z h) id⟩
inductive Aje (vs:Na)(H:Hp)(Q:VK)(z3:XK):Prop
|mk(u:_)(_:vs=[.str (tx u)])(_:u.length<=1000000)(_:∀ H',Aq H H'->Q (.bl (Pat.isName u)) H')
theorem Sx(T:Txt K mg t):Bl P w K mg base CX0 1 t.Acp t.Acq ["text"] Aje:=by
 refine T.Qu.F.ok Aau ?_;rintro _ _ _ _ H _ Q E j ⟨u,rfl,f,k⟩;refine⟨_,(Ac (Bd (PW.pt (pw_or (Ah Ge (Ai Bs Z T.BJ Bj (Aa (pv 0) Ab)) Af (Ax _)) (pw_or1 (Ah HF (Ai Bs Z T.BJ Bj (Aa (pv 0) Ab)) (CG (v:=.int 20) Z T.AaY.choose_spec ⟨_,Z⟩) (Ax _)))))
   (Ad (Ay Gb))
   Ao)
  (Ad (Ay (Ajz (Ea (JH (K:=K)) (pv 0) (CG (v:=.ref t.Ad2) Z T.Anu Z) Z) (Ajy (Ai (Wc (K:=K)) Z T.AkK Agz (Aa (Cg (cok [] ["sign"] Aau) Z (RC (pv 0)) (λ_ _ _ _ _=>.nil) (λ_ _ _ _ _=>(Ea VB (pv 0) (CG (v:=.str "abcdefghijklmnopqrstuvwxyz") Z T.AcD.choose_spec ⟨_,Z⟩) Z))) Ab))))))),?_⟩;have a:(tx u).length<=sizeLine:=by exact big f
 refine⟨_,Z,_,Z,a,_,_,Z,Z,_,Z,?_⟩;rw[Al];unfold Pat.isName at k;refine Dj (λc1=>?_) (λc1=>?_)
 ·rw[zJ (show ¬(1<=u.length/\u.length<=20) by omega)] at k;exact k _ (.refl _)
 ·refine⟨_,Z,_,Z,a,_,_,Z,Z,_,Z,?_⟩;rw[Al];refine Dj (λc2=>?_) (λc2=>?_)
  ·rw[zJ (show ¬(1<=u.length/\u.length<=20) by omega)] at k;exact k _ (.refl _)
  ·rw[zN (show 1<=u.length/\u.length<=20 by omega),Ajd] at k;refine⟨_,Z,_,_,Z,.inr (T.Anv H),Z,(by decide),_,Z,?_⟩;rw[Alz,in_words];by_cases d:u∈Qy
   ·rw[zN d] at k ⊢;rw[Bool.not_true,Bool.and_false] at k;exact k _ (.refl _)
   ·rw[zJ d] at k ⊢;rw[Bool.not_false,Bool.and_true] at k;refine⟨_,Z,_,Z,?_⟩;refine S9 (λi ys H2=>H2=H/\ys=vB ((u.take i).map Pat.letter)) ⟨Z,Z⟩ ?_ ?_ ?_ ?_
    ·rintro i ys H2 hi ⟨rfl,rfl⟩;rw[VR,AtG,AtX];exact AuU _ _
    ·exact a
    ·rintro i c ys H2 hi hc ⟨rfl,rfl⟩;have b:u[i]?=some c:=by
      rw[zO];exact hc
     refine⟨_,Z,_,_,Z,Z,?_⟩;rw[Aqi,Abg,Aqj];exact CN.of hi ⟨Z,by rw[Wa,AtV,b,AtK];rfl⟩
    ·rintro ys H2 q ⟨rfl,rfl⟩ e;refine⟨_,_,Z,SqL.of Ae,?_⟩;have h:(((u.take (tx u).cps.size).map Pat.letter).all id)=u.all Pat.letter:=by
      rw[show(tx u).cps.size=u.length from Al u,Aue,List.all_map];rfl
     rw[h];exact k _ (.upd e)
theorem AdT(s:Dl r H H')(R:Rdr t H' r dx u p)(h:H' q=none):H q=none/\q≠r:=by
 have n:q≠r:=λe=>by rw[e,R.1] at h;cases h
 refine⟨?_,n⟩;cases e:H q with
 | none=>rfl
 | some o=>rw[s q o n e] at h;cases h
theorem Abp{a:NI}(d:p<=u.length)(c:u.drop p=a++b):p+a.length<=u.length/\u.drop (p+a.length)=b:=by have:= congrArg List.length c;rw[Auw,AtI] at this;exact⟨by lia,by rw[<- Avj,c,Avv]⟩
theorem KZ{a:NI}(c:Rdr t H r dx u p)(d:u.drop p=a++b):∃ H1,upd H r (.ins t.By dx (rf u (p+a.length)))=H1/\Dl r H H1/\Rdr t H1 r dx u (p+a.length)/\u.drop (p+a.length)=b :=
 ⟨_,Z,Dl.upd,⟨Ae,(Abp c.2.1 d).1,c.2.2⟩,(Abp c.2.1 d).2⟩
theorem Mm(h:∀ c,b[0]?=some c->c∉sg):stp sg b=[]:=AdC (a:=[]) (λc hc=>by cases hc) h
theorem Ao4{l:NI}(h:l[0]?≠some c):l.take [c].length≠[c]:=λy=>h (by
 cases l with
 | nil=>cases y
 | cons d l=>cases y;rfl)
inductive Aqk (t:Adr)(vs:Na)(H:Hp)(Q:VK)(z3:XK):Prop
|mk(r:_)(dx:_)(u:_)(p:_)(a:_)(b:_)(_:vs=[.ref r])(_:Rdr t H r dx u p)(_:u.drop p=a++b)(_:a≠[])(_:(∀ c∈a,c∈[35,46]))(_:(∀ c,b[0]?=some c->c∉[35,46]/\c∉[32]))(_:∀ H',Dl r H H'->Rdr t H' r dx u (p+a.length)->Q (.str (tx a)) H')
theorem YH(T:Txt K mg t):Bl P w K mg base CX0 3 t.Aa8 t.Aa9 ["reader"] (Aqk t):=by
 refine T.AaQ.F.ok Xp ?_;rintro _ _ _ _ H _ Q E j ⟨r,dx,u,p,a,b,rfl,d,l,ne,o,h,k⟩;refine⟨_,(Ac (Ba (i:=1) Xp.nd Z (Or.inl Z) (DG (pv 0) T.Bu.c T.Be.m ((BZ T).mono (by decide)) j T.Be.b .nil BK (Aa Av Ab)))
  (Ac (Bd (Ah Ci (pv 1) Av (Ax _))
   (Ad Bc)
   Ao)
  (Ac (Bo (DG (pv 0) T.Bu.c T.Be.m ((BZ T).mono (by decide)) j T.Be.b .nil BK (Aa Av Ab)))
  (Ad (Ay (pv 1)))))),?_⟩;refine⟨_,Z,r,dx,rf u p,Z,d.1,(CP u p).2.2.2,r,dx,u,p,_,(by rw[AnG];rfl),d,(by decide),?_⟩;rw[l,AdC o λc hc=>(h c hc).1];obtain⟨H1,e1,s1,f,d1⟩:=KZ d l;rw[e1];refine⟨_,Z,Z,_,Z,?_⟩;refine CZ (λz=>ne ?_) ?_
 ·have e:(("" : Str))=tx []:=by decide +kernel
  injection z with z;exact I9 z
 refine⟨_,Z,r,dx,_,Z,f.1,(CP u _).2.2.2,r,dx,u,_,_,(by rw[Sw];rfl),f,(by decide),?_⟩;rw[d1,Mm λc hc=>(h c hc).2];obtain⟨H2,e2,n,R2,_⟩:=KZ (a:=[]) f d1;rw[e2];exact⟨_,Z,k H2 (s1.trans n) R2⟩
def mr (ys:NN):NI:=(ys.map λy=>[44]++y).flatten
theorem Ao5(h:(mr ys++(41::b))[0]?=some c):c∉[35,46]/\c∉[32]:=by
 cases ys with
 | nil=>cases h;decide
 | cons y ys=>cases h;decide
def Rn (rs:NN):Prop:=rs≠[]/\rs.length<=40/\∀ y∈rs,y≠[]/\∀ c∈y,c∈[35,46]
inductive AnH (t:Adr)(vs:Na)(H:Hp)(Q:VK)(z3:XK):Prop
|mk(r:_)(dx:_)(u:_)(p:_)(rs:_)(b:_)(_:vs=[.ref r])(_:Rdr t H r dx u p)(_:u.drop p=cj rs++(41::b))(_:Rn rs)(_:∀ q H',Dl r H H'->Rdr t H' r dx u (p+(cj rs).length)->u.drop (p+(cj rs).length)=41::b->H q=none->H' q=some (.lst (vS rs))->Q (.ref q) H')
theorem AdU(T:Txt K mg t):Bl P w K mg base CX0 4 t.Yj t.Yk ["reader"] (AnH t):=by
 refine T.Qv.F.ok TY ?_;rintro _ _ _ _ H _ Q E B ⟨r,dx,u,p,rs,b,rfl,D,N,⟨ne,M,W⟩,k⟩;have fin:=Abp D.2.1 N;obtain⟨y,ys,rfl⟩:∃ y ys,rs=y::ys:=by
  cases rs with
  | nil=>exact absurd Z ne
  | cons y ys=>exact⟨y,ys,Z⟩
 refine⟨_,(Ac (Ba (i:=1) TY.nd Z (Or.inl Z) (Cp (Aa (Bg T.AaQ (YH T) B (Aa (pv 0) Ab)) Ab)))
  (Ac (JX PassesOwn.never (Ck (DG (pv 0) T.Bu.c T.BR.m ((Du T).mono (by decide)) B T.BR.b .nil BK (Aa Av Ab)))
   (Ac (Bo (DG (pv 0) T.Bu.c T.Be.m ((BZ T).mono (by decide)) B T.Be.b .nil BK (Aa Av Ab)))
   (Ad (Bo (Bw (K:=K) zM zL zQ Cd (pv 1) (Aa (Bg T.AaQ (YH T) B (Aa (pv 0) Ab)) Ab))))))
  (Ac (Bd (Ah HF (Ai (Ak (K:=K)) Z T.BJ Bj (Aa (pv 1) Ab)) (CG (v:=.int 40) Z T.Af5.choose_spec ⟨_,Z⟩) (Ax _))
   (Ad Bc)
   Ao)
  (Ad (Ay (pv 1)))))),?_⟩;have Y:=W y AtJ;refine⟨_,Z,r,dx,u,p,y,mr ys++(41::b),Z,D,(by rw[N];unfold cj mr;rw[Auk]),Y.1,Y.2,(λc=>Ao5),λH1 s1 L=>?_⟩;refine⟨(by show 1<=sizeLine;decide),λq hq=>?_⟩;have l:=AdT s1 L hq;have d1:u.drop (p+y.length)=mr ys++(41::b):=(Abp D.2.1 (by rw[N];unfold cj mr;rw[Auk])).2;refine⟨λm σ H2=>∃ j,σ=[some (.ref r),some (.ref q)]/\Dl r H H2/\j<=ys.length/\m=ys.length-j/\H2 q=some (.lst (vS (y::ys.take j)))/\∃ p2,Rdr t H2 r dx u p2/\u.drop p2=mr (ys.drop j)++(41::b),
  ⟨_,0,Z,(λb o nb e=>by rw[Aj (Bb e l.1)];exact s1 b o nb e),AtR _,Z,Ae,_,⟨by rw[Aj l.2.symm];exact L.1,L.2⟩,d1⟩,?_⟩;rintro m σ H2 ⟨j,rfl,S,hj,rfl,d,p2,R2,d2⟩;cases e:ys.drop j with
 | nil =>
  have O:=List.drop_eq_nil_iff.mp e;rw[e] at d2;refine⟨_,Z,r,dx,_,Z,R2.1,(CP u _).2.1,r,dx,u,p2,[44],(by rfl),R2,(by decide),λy=>absurd y (Ao4 (by rw[d2];exact λz=>by cases z)),λ_=>?_⟩;refine⟨_,Z,Iz ?_⟩;rw[Auf O] at d;refine⟨_,Z,_,_,Z,.inl (SqL.of d),_,_,Z,Z,_,Z,?_⟩;rw[Bt];refine CZ (by exact Ar.i3 M) ?_;refine⟨_,Z,?_⟩;have pe:p2=p+(cj (y::ys)).length:=by
   have h1:=congrArg List.length d2;have h3:=R2.2.1;have h4:(mr []++(41::b)).length=(41::b).length:=rfl;grind
  exact k q H2 S (pe▸R2) fin.2 l.1 d
 | cons z zs =>
  have O:j<ys.length:=by
   refine Nat.lt_of_not_le λc=>?_;rw[List.drop_eq_nil_iff.mpr c] at e;cases e
  have hz:ys[j]?=some z:=by rw[<- List.head?_drop,e];rfl
  have ez:ys.drop (j+1)=zs:=by rw[<- Avj,e];rfl
  rw[e] at d2;have x:=W z (AtL _ (AtN hz));have s:u.drop p2=[44]++(z++(mr zs++(41::b))):=by rw[d2];unfold mr;simp
  obtain⟨H3,e3,I,J,d3⟩:=KZ R2 s;refine⟨_,Z,r,dx,_,Z,R2.1,(CP u _).2.1,r,dx,u,p2,[44],(by rfl),R2,(by decide),λ_=>?_,λn=>absurd (by rw[s];rfl) n⟩;rw[e3];refine⟨_,Z,Aby ?_⟩;refine⟨_,λσ' H' h=>h,?_⟩;have nb:∀ c,(z++(mr zs++(41::b)))[0]?=some c->c∉[32]:=λc hc R=>by
   obtain⟨f,A,rfl⟩:∃ f A,z=f::A:=by
    cases z with
    | nil=>exact absurd Z x.1
    | cons f A=>exact⟨f,A,Z⟩
   cases hc;have:= x.2 _ AtJ;revert this R;simp only [Aui,Auj,or_false];lia
  refine⟨_,Z,r,dx,_,Z,J.1,(CP u _).2.2.2,r,dx,u,_,_,(by rw[Sw];rfl),J,(by decide),?_⟩;rw[d3,Mm nb];obtain⟨H4,e4,C,U,d4⟩:=KZ (a:=[]) J d3;rw[e4];refine⟨_,Z,.inl ⟨Z,_,SqL.of (C _ _ l.2 (I _ _ l.2 d))⟩,_,Z,r,dx,u,_,z,_,Z,U,d4,x.1,x.2,(λc=>Ao5),λH5 s5 X=>?_⟩;refine⟨_,_,_,Z,Z,s5 _ _ l.2 (C _ _ l.2 (I _ _ l.2 d)),(by rw[Bt,AtS];exact AuY (show _<=50 by grind) (by decide)),?_⟩;rw[Dm];refine⟨_,(by lia:ys.length-(j+1)<ys.length-j),j+1,Z,(λc o nb eo=>?_),by exact Ar.j4 O,Z,?_,_,⟨by rw[Aj l.2.symm];exact X.1,X.2⟩,?_⟩
  ·rw[Aj (Bb eo l.1)];exact s5 _ _ nb (C _ _ nb (I _ _ nb (S _ _ nb eo)))
  ·rw[Ae,AtV,hz];rfl
  ·rw[ez];exact(Abp U.2.1 d4).2
theorem Ao6{k:Nat}{ps:NX}:Bl P w K mg base CX k f fd ps (λ_ _ _ _=>False):=⟨λ_ _ _ _ h=>h.elim,λ_ _ _ _ _ _ _ _ _ _ _ _ _ h=>h.elim⟩
inductive Fm where
 | nam (z:NI)
 | rows (rs:NN)
 | wds (wd:NI) (zs:NN)
def Nm (z:NI):Prop:=(∀ c∈z,c∈Zd)/\Pat.isName z=true/\z.length<=20
def Fm.Ok:Fm->Prop
 | .nam z=>Nm z
 | .rows rs=>Rn rs
 | .wds wd zs=>(wd=quW/\zs.length=1\/wd=laW/\zs.length=2)/\∀ z∈zs,Nm z
def Fm.word:Fm->NI
 | .nam z=>z
 | .rows _=>Pat.Gy
 | .wds wd _=>wd
def Fm.inner:Fm->NI
 | .nam _=>[]
 | .rows rs=>cj rs
 | .wds _ zs=>cj zs
def Fm.cmp:Fm->Bool
 | .nam _=>false
 | _=>true
def Fm.tail(f:Fm):NI:=if f.cmp=true then 40::(f.inner++[41]) else []
def Fm.In(H:Hp)(q:Addr):Fm->Prop
 | .nam _=>False
 | .rows rs=>H q=some (.lst (vS rs))
 | .wds _ zs=>∃ as:NU,H q=some (.lst (as.map V.ref))/\as.length=zs.length/\∀ j a,as[j]?=some a->H a=some (.tup [.str (tx (zs.getD j [])),.non])
def Fm.At(H:Hp)(v:Addr)(f:Fm):Prop:=if f.cmp=true then ∃ q,H v=some (.tup [.str (tx f.word),.ref q])/\f.In H q else H v=some (.tup [.str (tx f.word),.non])
theorem Fm.In.keep{f:Fm}(h:f.In H q)(s:∀ b o,H b=some o->(∀ C dx fs,o≠.ins C dx fs)->H' b=some o):f.In H' q:=by
 cases f with
 | nam z=>exact h
 | rows rs=>exact s _ _ h (λ_ _ _ e=>by cases e)
 | wds i zs =>
  obtain⟨as,h1,d,h2⟩:=h;exact⟨as,s _ _ h1 (λ_ _ _ e=>by cases e),d,λj a c=>s _ _ (h2 j a c) (λ_ _ _ e=>by cases e)⟩
theorem Fm.Ok.word{f:Fm}(h:f.Ok):(∀ c∈f.word,c∈Zd)/\f.word.length<=20:=by
 cases f with
 | nam z=>exact⟨h.1,h.2.2⟩
 | rows rs=>exact(show(∀ c∈Pat.Gy,c∈Zd)/\Pat.Gy.length<=20 by decide)
 | wds a zs =>
  rcases h.1 with ⟨rfl,_⟩ | ⟨rfl,_⟩
  ·exact(show(∀ c∈quW,c∈Zd)/\quW.length<=20 by decide)
  ·exact(show(∀ c∈laW,c∈Zd)/\laW.length<=20 by decide)
inductive AcJ (t:Adr)(D:Nat)(B:Fm->Prop)(vs:Na)(H:Hp)(Q:VK)(z3:XK):Prop
|mk(r:Addr)(dx:Addr)(u:NI)(p:Nat)(f:Fm)(b:NI)(dep:Nat)(_:vs=[.ref r,.str (tx f.word),.int (dep:Int)])(_:B f)(_:f.Ok)(_:f.cmp=true)(_:dep<=D)(_:Rdr t H r dx u p)(_:u.drop p=f.inner++(41::b))(_:∀ q H',Dl r H H'->Rdr t H' r dx u (p+f.inner.length)->u.drop (p+f.inner.length)=41::b->H q=none->f.In H' q->Q (.ref q) H')
inductive Zv (t:Adr)(D:Nat)(B:Fm->Prop)(vs:Na)(H:Hp)(Q:VK)(z3:XK):Prop
|mk(r:Addr)(dx:Addr)(u:NI)(p:Nat)(f:Fm)(b:NI)(dep:Nat)(_:vs=[.ref r,.int (dep:Int)])(_:B f)(_:f.Ok)(_:dep<=D)(_:Rdr t H r dx u p)(_:u.drop p=f.word++(f.tail++b))(_:(∀ c,b[0]?=some c->c∉Zd/\c∉[32]/\c≠40))(_:∀ v H',Dl r H H'->Rdr t H' r dx u (p+(f.word++f.tail).length)->u.drop (p+(f.word++f.tail).length)=b->H v=none->f.At H' v->Q (.ref v) H')
theorem V1{k:Nat}(hD:D<=11)(hk:2<=k)(T:Txt K mg t)(a0:Bl P w K mg base CX0 k t.JP t.JQ ["reader", "word", "depth"] (AcJ t (D+1) B)):Bl P w K mg base CX0 (k+1) t.Hl t.Hm ["reader", "depth"] (Zv t D B):=by
 refine T.KH.F.ok Lw ?_;rintro _ _ _ _ H _ Q E d ⟨r,dx,u,p,f,b,Y,rfl,hB,ok,R,O,hd,L,k⟩;refine⟨_,(Ac (Bd (Ah HF (pv 1) (CG (v:=.int 12) Z T.Sh.choose_spec ⟨_,Z⟩) (Ax _))
   (Ad Bc)
   Ao)
  (Ac (Ba (i:=2) Lw.nd Z (Or.inl Z) (DG (pv 0) T.Bu.c T.Be.m ((BZ T).mono (by exact Ar.d8 hk)) d T.Be.b .nil BK (Aa (CG (v:=.str "abcdefghijklmnopqrstuvwxyz") Z T.AcD.choose_spec ⟨_,Z⟩) Ab)))
  (Ac (Bo (DG (pv 0) T.Bu.c T.Be.m ((BZ T).mono (by exact Ar.d8 hk)) d T.Be.b .nil BK (Aa Av Ab)))
  (Ac (Bd (CQ (Ck (DG (pv 0) T.Bu.c T.BR.m ((Du T).mono (by exact Ar.c3 hk)) d T.BR.b .nil BK (Aa Av Ab))))
   (Ac (Bd (CQ (Ck (Eb ((Sx T).mono (by exact Ar.c3 hk)) d Z T.Qu.m T.Qu.F.kp T.Qu.b .nil BK (Aa (pv 2) Ab))))
    (Ad Bc)
    Ao)
   (Ad (Ay (Ir (Aa (pv 2) (Aa JF Ab))))))
   Ao)
  (Ac (Bo (DG (pv 0) T.Bu.c T.Be.m ((BZ T).mono (by exact Ar.d8 hk)) d T.Be.b .nil BK (Aa Av Ab)))
  (Ac (Ba (i:=3) Lw.nd Z (Or.inl Z) (Eb (a0.mono (by exact Ar.i1)) d Z T.J8.m T.J8.F.kp T.J8.b .nil BK (Aa (pv 0) (Aa (pv 2) (Aa (Bx Ey (pv 1) Af) Ab)))))
  (Ac (Bd (CQ (Ck (DG (pv 0) T.Bu.c T.BR.m ((Du T).mono (by exact Ar.c3 hk)) d T.BR.b .nil BK (Aa Av Ab))))
   (Ad Bc)
   Ao)
  (Ac (Bo (DG (pv 0) T.Bu.c T.Be.m ((BZ T).mono (by exact Ar.d8 hk)) d T.Be.b .nil BK (Aa Av Ab)))
  (Ad (Ay (Ir (Aa (pv 2) (Aa (pv 3) Ab))))))))))))),?_⟩;refine⟨_,Z,_,_,Z,Z,_,Z,?_⟩;refine CZ (by lia) ?_;have tb:∀ c,(f.tail++b)[0]?=some c->c∉Zd/\c∉[32]:=λc hc=>by
  unfold Fm.tail at hc;cases e:f.cmp with
  | true=>rw[e] at hc;cases hc;decide
  | false=>rw[e] at hc;exact⟨(L c hc).1,(L c hc).2.1⟩
 obtain⟨H1,e1,s1,S,d1⟩:=KZ O hd;refine⟨_,Z,r,dx,rf u p,Z,O.1,(CP u p).2.2.2,r,dx,u,p,Zd,(by rfl),O,(by decide),?_⟩;rw[hd,AdC ok.word.1 λc hc=>(tb c hc).1,e1];obtain⟨H2,e2,s2,R2,d2⟩:=KZ (a:=[]) S d1;refine⟨_,Z,r,dx,_,Z,S.1,(CP u _).2.2.2,r,dx,u,_,_,(by rw[Sw];rfl),S,(by decide),?_⟩;rw[d1,Mm λc hc=>(tb c hc).2,e2];have C:=s1.trans s2;cases h:f.cmp with
 | false =>
  have et:f.tail=[]:=by unfold Fm.tail;rw[h,if_neg λz=>nomatch z]
  rw[et] at d2 k;rw[Aum] at k;refine⟨_,Z,r,dx,_,Z,R2.1,(CP u _).2.1,r,dx,u,_,[40],(by rfl),R2,(by decide),λy=>absurd y (Ao4 (by rw[d2];exact λz=>(L 40 z).2.2 Z)),λ_=>?_⟩;refine⟨_,Z,Aby ?_⟩;have nm:Nm f.word:=by
   cases f with
   | nam z=>exact ok
   | rows rs=>cases h
   | wds wd zs=>cases h
  refine⟨_,Z,f.word,Z,(by have:= nm.2.2;exact Ar.a2 this),λH3 M=>?_⟩;rw[nm.2.1];refine⟨_,Z,Iz ?_⟩;refine⟨_,Z,(by show 2<=sizeLine;decide),λv J=>?_⟩;have I:=C.trans (Alc M);have j:Rdr t H3 r dx u _:=⟨M _ _ R2.1,R2.2⟩;have l:=AdT I j J;refine k v _ (λb o nb e=>by rw[Aj (Bb e l.1)];exact I b o nb e) ⟨by rw[Aj l.2.symm];exact j.1,j.2⟩ d2 l.1 ?_;unfold Fm.At;rw[h];exact Ae
 | true =>
  have et:f.tail=40::(f.inner++[41]):=by unfold Fm.tail;rw[h,if_pos rfl]
  rw[et] at d2 k;have A:u.drop (p+f.word.length+([]:NI).length)=[40]++(f.inner++(41::b)):=by rw[d2];simp
  obtain⟨H3,e3,M,j,d3⟩:=KZ R2 A;refine⟨_,Z,r,dx,_,Z,R2.1,(CP u _).2.1,r,dx,u,_,[40],(by rfl),R2,(by decide),λ_=>?_,λn=>absurd (by rw[A];rfl) n⟩;rw[e3];refine⟨_,Z,Iz ?_⟩;have ib:∀ c,(f.inner++(41::b))[0]?=some c->c∉[32]:=λc hc aa=>by
   have:c=32:=by simpa using aa
   subst this;cases f with
   | nam z=>cases h
   | rows rs =>
    obtain⟨ne,_,gd⟩:=ok;cases rs with
    | nil=>exact ne Z
    | cons y ys =>
     have g:=gd y AtJ;cases y with
     | nil=>exact g.1 Z
     | cons x y =>
      have:= Option.some.inj hc;grind
   | wds wd zs =>
    match zs,ok with
    | [],ok=>exact absurd ok.1 (by simp)
    | z::zs,ok =>
     have s:=ok.2 z AtJ
     match z,s,hc with
     | [],s,_=>exact absurd s.2.1 (by decide)
     | x::z,s,hc =>
      have e:=Option.some.inj hc;have:= s.1 x AtJ;rw[e] at this;exact absurd this (by decide)
  obtain⟨H4,e4,s4,R4,d4⟩:=KZ (a:=[]) j d3;refine⟨_,Z,r,dx,_,Z,j.1,(CP u _).2.2.2,r,dx,u,_,_,(by rw[Sw];rfl),j,(by decide),?_⟩;rw[d3,Mm ib,e4];have U:=(C.trans M).trans s4;refine⟨_,Z,_,Z,_,Z,_,_,Z,Z,r,dx,u,_,f,b,Y+1,Z,hB,ok,h,by exact Ar.j6 R,R4,d4,λq H5 s5 N d5 nq hI=>?_⟩;have a6:=U.trans s5;obtain⟨H6,e6,s6,W,d6⟩:=KZ (a:=[41]) N d5;refine⟨_,Z,r,dx,_,Z,N.1,(CP u _).2.1,r,dx,u,_,[41],(by rfl),N,(by decide),λ_=>?_,λn=>absurd (by rw[d5];rfl) n⟩;rw[e6];refine⟨_,Z,Iz ?_⟩;obtain⟨H7,e7,s7,X,d7⟩:=KZ (a:=[]) W d6;refine⟨_,Z,r,dx,_,Z,W.1,(CP u _).2.2.2,r,dx,u,_,_,(by rw[Sw];rfl),W,(by decide),?_⟩;rw[d6,Mm λc hc=>(L c hc).2.1,e7];refine⟨_,Z,_,Z,(by show 2<=sizeLine;decide),λv J=>?_⟩;have I:=(a6.trans s6).trans s7;have l:=AdT I X J;have pe:p+(f.word++40::(f.inner++[41])).length=p+f.word.length+([]:NI).length+[40].length+([]:NI).length+f.inner.length+[41].length+([]:NI).length:=by
   simp only [AtI,AtS,Aun];lia
  rw[pe] at k;refine k v _ (λb o nb e=>by rw[Aj (Bb e l.1)];exact I b o nb e) ⟨by rw[Aj l.2.symm];exact X.1,X.2⟩ d7 l.1 ?_;unfold Fm.At;rw[h];refine⟨q,Ae,hI.keep λb o e no=>?_⟩;have nb:b≠r:=λz=>by rw[z,N.1] at e;cases e;exact no _ _ _ Z
  have e8:=s7 _ _ nb (s6 _ _ nb e);rw[Aj (Bb e8 J)];exact e8
inductive Al0 (t:Adr)(vs:Na)(H:Hp)(Q:VK)(z3:XK):Prop
|mk(r:_)(dx:_)(u:_)(p:_)(b:_)(_:vs=[.ref r])(_:Rdr t H r dx u p)(_:u.drop p=[44]++b)(_:(∀ c,b[0]?=some c->c∉[32]))(_:∀ H' p',Dl r H H'->Rdr t H' r dx u p'->u.drop p'=b->Q .non H')
theorem AbH(T:Txt K mg t):Bl P w K mg base CX0 3 t.UJ t.UL ["reader"] (Al0 t):=by
 refine T.Mh.F.ok Ab0 ?_;rintro _ _ _ _ H _ Q E f ⟨r,dx,u,p,b,rfl,d,h,j,k⟩;refine⟨_,(Ac (Bd (CQ (Ck (DG (pv 0) T.Bu.c T.BR.m ((Du T).mono (by decide)) f T.BR.b .nil BK (Aa Av Ab))))
   (Ad Bc)
   Ao)
  (Ad (Bo (DG (pv 0) T.Bu.c T.Be.m ((BZ T).mono (by decide)) f T.Be.b .nil BK (Aa Av Ab))))),?_⟩;obtain⟨H1,e1,s1,e,d1⟩:=KZ d h;refine⟨_,Z,r,dx,rf u p,Z,d.1,(CP u p).2.1,r,dx,u,p,[44],(by rfl),d,(by decide),λ_=>?_,λn=>absurd (by rw[h];rfl) n⟩;rw[e1];refine⟨_,Z,Iz ?_⟩;obtain⟨H2,e2,i,R2,d2⟩:=KZ (a:=[]) e d1;refine⟨_,Z,r,dx,_,Z,e.1,(CP u _).2.2.2,r,dx,u,_,_,(by rw[Sw];rfl),e,(by decide),?_⟩;rw[d1,Mm j,e2];exact k _ _ (s1.trans i) R2 d2
theorem Al1{G:Prop}{R:Hp->Prop}(C:Hp->Prop)(a:(∀ H,C H->R H)->G)(rest:∀ H,C H->R H):G:=a rest
def rst (zs:NN):Nat->NI
 | 0=>cj zs
 | i+1=>((zs.drop (i+1)).map λy=>[44]++y).flatten
theorem Al2{zs:NN}(h:i<zs.length):rst zs i=(if i=0 then [] else [44])++(zs.getD i []++rst zs (i+1)):=by
 have e:zs.getD i []=zs[i]:=by simp[List.getD,h]
 cases i with
 | zero =>
  match zs,h with
  | z::zs,_=>simp[rst,cj]
 | succ i =>
  rw[e];show((zs.drop (i+1)).map λy=>[44]++y).flatten=_;rw[AuG h,AtM];simp[rst]
theorem AnI(zs:NN)(h:zs≠[]):rst zs zs.length=[]:=by
 cases zs with
 | nil=>exact absurd Z h
 | cons z zs=>simp[rst]
theorem Abq{k:Nat}(hk:4<=k)(T:Txt K mg t)(Qg:Bl P w K mg base CX0 k t.Hl t.Hm ["reader", "depth"] (Zv t D (λf=>f.cmp=false))):Bl P w K mg base CX0 (k+1) t.JP t.JQ ["reader", "word", "depth"] (AcJ t D B):=by
 refine T.J8.F.ok Je ?_;rintro _ _ _ _ H _ Q E hr ⟨r,dx,u,p,f,b,U,rfl,hB,ok,ec,a6,N,hd,k⟩;refine⟨_,(Ac (Bd (Ah Ci (pv 1) Av (Ax _))
   (Ad (Ay (Eb ((AdU T).mono (by exact Ar.d8 hk)) hr Z T.Qv.m T.Qv.F.kp T.Qv.b .nil BK (Aa (pv 0) Ab))))
   Ao)
  (Ac (Bd (Agg (AeN T.AfA (pv 1) (CG (v:=.ref t.Ur) Z T.Af9 Z)))
   (Ad Bc)
   Ao)
  (Ac (Ba (i:=3) Je.nd Z (Or.inl Z) (Cp Ab))
  (Ac (BX PassesOwn.never Z (RC (Ai2 T.AfA (CG (v:=.ref t.Ur) Z T.Af9 Z) (pv 1) (λ_ _=>rfl))) (Bp (i:=4) Je.nd Z (Or.inl Z))
   (Ac (Bd (Ip (K:=K) (pv 3) (λ_=>rfl))
    (Ad (Bo (Eb ((AbH T).mono (by exact Ar.c3 hk)) hr Z T.Mh.m T.Mh.F.kp T.Mh.b .nil BK (Aa (pv 0) Ab))))
    Ao)
   (Ad (Bo (Bw (K:=K) zM zL zQ Cd (pv 3) (Aa (JV (Ah Ci (pv 4) Av (Ax _)) (Eb (Qg.mono (by exact Ar.i1)) hr Z T.KH.m T.KH.F.kp T.KH.b .nil BK (Aa (pv 0) (Aa (pv 2) Ab))) Ak1) Ab))))))
  (Ad (Ay (pv 3))))))),?_⟩;refine⟨_,Z,Z,_,Z,?_⟩;cases f with
 | nam z=>cases ec
 | rows rs =>
  exact⟨_,Z,r,dx,u,p,rs,b,Z,N,hd,ok,λq H1 s1 R1 d1 A hq=>k q H1 s1 R1 d1 A hq⟩
 | wds R zs =>
  have nr:R≠Pat.Gy:=by rcases ok.1 with ⟨rfl,_⟩ | ⟨rfl,_⟩ <;> decide
  refine CZ (λy=>nr ?_) ?_
  ·injection y with y;exact I9 y
  have S:lk [("twill", "nn"),("satin", "nn"),("beside", "pp"),("above", "pp"),("mirror", "p"),("upend", "p"),("back", "p"),("quarter", "p"),("tile", "pnn"),("blocks", "ppp"),("lay", "pp")] (tx R)=some (tx (List.replicate zs.length 112)):=by
   rcases ok.1 with ⟨rfl,e⟩ | ⟨rfl,e⟩ <;> rw[e] <;> decide +kernel
  have ac:zs≠[]:=λz=>by rw[z] at ok;exact absurd ok.1 (by simp)
  have z2:zs.length<=2:=by rcases ok.1 with ⟨_,e⟩ | ⟨_,e⟩ <;> lia
  refine⟨_,Z,tx R,Z,Z,_,Z,?_⟩;rw[S];refine⟨(by decide),λq A=>?_⟩;have O:q≠r:=λz=>by rw[z,N.1] at A;cases A
  refine⟨_,Z,tx R,_,Z,Z,S,_,Z,?_⟩;have R0:Rdr t (upd H q (.lst [])) r dx u p:=⟨by rw[Aj O.symm];exact N.1,N.2⟩;refine Adg (λi σ H2=>∃(v:Option V)(as:NU)(I:Nat),σ=[some (.ref r),some (.str (tx R)),some (.int (U:Int)),some (.ref q),v]/\Dl r H H2/\Rdr t H2 r dx u I/\u.drop I=rst zs i++(41::b)/\H2 q=some (.lst (as.map V.ref))/\as.length=i/\∀ j a,as[j]?=some a->H2 a=some (.tup [.str (tx (zs.getD j [])),.non])) ⟨none,[],p,Z,λb o nb e=>by rw[Aj (Bb e A)];exact e,R0,hd,Ae,Z,λj a d=>by simp at d⟩ ?_ ?_
  ·rintro i c σ H2 hc ⟨v,as,I,rfl,X,R2,d2,h,M,s⟩;obtain⟨hi,rfl⟩:i<zs.length/\c=112:=by
    rw[Ob,Av2] at hc;split at hc
    ·simp_all
    ·cases hc
   have J:=ok.2 (zs.getD i []) (by simp_all);have ae:∀ c l,(zs.getD i []++l)[0]?=some c->c∉[32]:=λc l hc af=>by
    have:c=32:=by simpa using af
    subst this
    match hz:zs.getD i [],J,hc with
    | [],J,_=>exact absurd J.2.1 (by decide)
    | x::z,J,hc =>
     have:= J.1 x AtJ;rw[show x=32 from Option.some.inj hc] at this;exact absurd this (by decide)
   have rn:=Al2 hi;have bt:∀ c,(rst zs (i+1)++(41::b))[0]?=some c->c∉Zd/\c∉[32]/\c≠40:=λc hc=>by
    cases e:zs.drop (i+1) with
    | nil=>rw[show rst zs (i+1)=[] by show((zs.drop (i+1)).map _).flatten=_;rw[e];rfl] at hc;cases hc;decide
    | cons y ys=>rw[show rst zs (i+1)=44::(y++(ys.map λy=>[44]++y).flatten) by show((zs.drop (i+1)).map _).flatten=_;rw[e];rfl] at hc;cases hc;decide
   refine⟨_,Z,decide (0<i),.inl ⟨as.map V.ref,SqL.of h,?_⟩,?_⟩
   ·rw[<- M];cases as <;> rfl
   apply Al1 (λn=>∃ L,Dl r H n/\Rdr t n r dx u L/\u.drop L=zs.getD i []++(rst zs (i+1)++(41::b))/\n q=some (.lst (as.map V.ref))/\∀ j a,as[j]?=some a->n a=some (.tup [.str (tx (zs.getD j [])),.non]))
   ·intro rest;by_cases Y:0<i
    ·rw[zN Y];refine⟨_,Z,r,dx,u,I,_,Z,R2,(by rw[d2,rn,if_neg (by exact Ar.k3 Y),Auk,Auk]),(λc hc=>ae c _ hc),λn L s3 R3 d3=>?_⟩;have ne:∀{a o},H2 a=some o->(∀ C dx fs,o≠.ins C dx fs)->n a=some o:=λ{a o} e no=>s3 _ _ (λz=>by rw[z,R2.1] at e;cases e;exact no _ _ _ Z) e;exact rest n ⟨L,X.trans s3,R3,d3,ne h (λ_ _ _ e=>by cases e),λj a d=>ne (s j a d) (λ_ _ _ e=>by cases e)⟩
    ·rw[zJ Y];exact Iz (rest H2 ⟨I,X,R2,(by grind),h,s⟩)
   rintro n ⟨L,s3,R3,d3,W,a0⟩;refine⟨_,Z,.inl ⟨Z,_,SqL.of W⟩,_,Z,Z,_,Z,?_⟩;refine⟨_,Z,_,Z,r,dx,u,L,.nam (zs.getD i []),_,U,Z,Z,J,a6,R3,d3,bt,λa H4 s4 R4 d4 na hA=>?_⟩;have ne:∀{a o},n a=some o->(∀ C dx fs,o≠.ins C dx fs)->H4 a=some o:=λ{a o} e no=>s4 _ _ (λz=>by rw[z,R3.1] at e;cases e;exact no _ _ _ Z) e;have aa:=ne W (λ_ _ _ e=>by cases e);refine⟨_,_,_,Z,Z,aa,(by rw[AtG,M];rw[z8];exact Ar.g4 hi z2),?_⟩;have ab:a≠q:=λe=>by simp_all
   refine⟨_,as++[a],_,Z,λb o nb e=>?_,⟨by rw[Aj O.symm];exact R4.1,R4.2⟩,d4,?_,(by rw[AtI,M];rfl),λj c d=>?_⟩
   ·rw[Aj (Bb e A)];exact(s3.trans s4) b o nb e
   ·rw[Ae,AtK];rfl
   ·have nc:∀{c o},H4 c=some (.tup o)->c≠q:=λe z=>by grind
    rw[Av6] at d;split at d
    ·have e:=ne (a0 j c d) (λ_ _ _ e=>by cases e);rw[Aj (nc e)];exact e
    ·next hl =>
     rw[AvQ] at d;split at d
     ·next Y =>
      cases d;rw[Aj ab,show j=i by omega];exact hA
     ·cases d
  ·rintro σ H2 ⟨v,as,I,rfl,X,R2,d2,h,M,s⟩;have e9:(tx (List.replicate zs.length 112)).cps.size=zs.length:=(Al _).trans Au8;rw[e9] at d2 M;rw[AnI _ ac] at d2;refine⟨_,Z,?_⟩;have pe:I=p+(cj zs).length:=by
    have l1:=congrArg List.length hd;have l2:=congrArg List.length d2;have h1:=N.2.1;have h2:=R2.2.1;simp only [Auw,AtI,Aun,Fm.inner] at l1 l2;lia
   subst pe;exact k q H2 X R2 d2 A ⟨as,h,M,s⟩
inductive Al3 (t:Adr)(vs:Na)(H:Hp)(Q:VK)(z3:XK):Prop
|mk(f:Fm)(_:vs=[.str (tx (f.word++f.tail))])(_:f.Ok)(_:(f.word++f.tail).length<=1000000)(_:∀ v H',Aq H H'->f.At H' v->Q (.ref v) H')
theorem AbI(T:Txt K mg t):Bl P w K mg base CX0 8 t.U9 t.UG ["text"] (Al3 t):=by
 have y:Bl P w K mg base CX0 4 t.Hl t.Hm ["reader", "depth"] (Zv t 2 (λf=>f.cmp=false)):=V1 (by decide) (by decide) T (Ao6.imp λvs H Q E J=>by obtain⟨_,_,_,_,f,_,_,_,h1,_,h2,_⟩:=J;rw[h1] at h2;cases h2);have D:Bl P w K mg base CX0 7 t.Hl t.Hm ["reader", "depth"] (Zv t 1 (λ_=>True)):=(V1 (by decide) (by decide) T (Abq (by decide) T y)).mono (by decide);refine T.AaP.F.ok JM ?_;rintro _ _ _ _ H _ Q E j ⟨f,rfl,ok,L,k⟩;refine⟨_,(Ac (Ba (i:=1) JM.nd Z (Or.inl Z) (HX T.Bu.m ((Ga T).mono (by decide)) j Z T.Abb T.Di.b .nil BK (Aa (pv 0) Ab)))
  (Ac (Bo (DG (pv 1) T.Bu.c T.Be.m ((BZ T).mono (by decide)) j T.Be.b .nil BK (Aa Av Ab)))
  (Ac (Ba (i:=2) JM.nd Z (Or.inl Z) (Bg T.KH D j (Aa (pv 1) (Aa Af Ab))))
  (Ac (Bd (CQ (Ck (Iu (pv 1) T.Bu.c T.CK.m ((FT T).mono (by decide)) j T.CK.b .nil BK)))
   (Ad Bc)
   Ao)
  (Ad (Ay (pv 2))))))),?_⟩;refine⟨_,Z,λr dx p q C=>⟨r,dx,f.word++f.tail,Z,Ae,?_⟩⟩;rw[HQ];refine⟨Z,?_⟩;have u:∀ H',Dl r (upd (upd H dx (.own r)) r (.ins t.By dx (rf (f.word++f.tail) 0))) H'->Aq H H':=λH' I b o e=>by
  have n1:=Bb e p;refine I b o n1 ?_;rw[Aj n1,Aj (Bb e q)];exact e
 have d:Rdr t (upd (upd H dx (.own r)) r (.ins t.By dx (rf (f.word++f.tail) 0))) r dx (f.word++f.tail) 0:=⟨Ae,AtR _,L⟩;generalize upd (upd H dx (.own r)) r (.ins t.By dx (rf (f.word++f.tail) 0))=R at u d ⊢;have A:∀ c,(f.word++f.tail)[0]?=some c->c∉[32]:=λc hc s=>by
  have:c=32:=by simpa using s
  subst this;cases n:f.word with
  | nil =>
   cases f with
   | nam z =>
    rw[show z=[] from n] at ok;exact absurd ok.2.1 (by decide)
   | rows rs=>cases n
   | wds S zs=>rcases ok.1 with ⟨rfl,_⟩ | ⟨rfl,_⟩ <;> cases n
  | cons x l =>
   have h:=ok.word.1;rw[n] at h hc;have e:=Option.some.inj hc;have:= h x AtJ;rw[e] at this;exact absurd this (by decide)
 obtain⟨H1,e1,s1,N,d1⟩:=KZ (a:=[]) (b:=f.word++f.tail) d Z;refine⟨_,Z,r,dx,_,Z,d.1,(CP _ _).2.2.2,r,dx,_,0,_,(by rw[Sw];rfl),d,(by decide),?_⟩;rw[Avp,Mm A,e1];refine⟨_,Z,r,dx,_,_,f,[],1,Z,trivial,ok,(by decide),N,(by simp_all),(λc hc=>by cases hc),λv H2 B R2 d2 O M=>?_⟩;refine⟨_,Z,r,dx,_,Z,R2.1,(CP _ _).1,r,dx,_,_,Z,R2,?_⟩;refine⟨_,Z,?_⟩;rw[zN (by simp only [Aun];exact Ar.m2)];exact⟨_,Z,k v H2 (u H2 (s1.trans B)) M⟩
theorem Ajf(h1:H r=none)(h2:H dx=none)(s:Dl r (upd (upd H dx (.own r)) r (.ins C dx [])) H'):Aq H H':=λb o e=>by
 have n1:=Bb e h1;refine s b o n1 ?_;rw[Aj n1,Aj (Bb e h2)];exact e
theorem Zw(k:∀ p H',Aq H H'->Pc t H' p x z->Q (.ref p) H')(c:C∈pcs t)(h1:H r=none)(h2:H dx=none):Oi C dx r (upd (upd H dx (.own r)) r (.ins C dx [])) (λv H2=>v=.non/\Q (.ref r) H2) x z:=λl H' d e a b=>⟨Z,k r H' (Ajf h1 h2 d) ⟨C,dx,l,c,b,a⟩⟩
theorem Qh(h1:H r=none)(h2:H dx=none):Aq H (upd (upd H dx (.own r)) r (.ins C dx [])):=λb o e=>by
 rw[Aj (Bb e h1),Aj (Bb e h2)];exact e
theorem AfO{a:NI}(h:¬a=b):¬(V.str (tx a):V)=V.str (tx b):=λz=>h (by injection z with z;exact I9 z)
def Kn (H:Hp)(kp:Addr)(kn:Kns):Prop:=∃ as:NU,H kp=some (.lst (as.map V.ref))/\as.length=kn.length/\∀(i:Nat)(a:Addr)(p:NI × NN),as[i]?=some a->kn[i]?=some p->∃ q,H a=some (.tup [.str (tx p.1),.ref q])/\H q=some (.lst (vS p.2))
theorem Kn.same(h:Kn H kp kn)(s:Aq H H'):Kn H' kp kn:=by obtain⟨as,h1,h2,h3⟩:=h;refine⟨as,s _ _ h1,h2,λi a p b g2=>?_⟩;obtain⟨q,e1,e2⟩:=h3 i a p b g2;exact⟨q,s _ _ e1,s _ _ e2⟩
inductive Al4 (vs:Na)(H:Hp)(Q:VK)(z3:XK):Prop
|mk(z:NI)(kp:Addr)(kn:Kns)(x:NN)(_:vs=[.str (tx z),.ref kp])(_:Kn H kp kn)(_:known kn z=.ok x)(_:∀ q,H q=some (.lst (vS x))->Q (.ref q) H)
theorem Qi(T:Txt K mg t):Bl P w K mg base CX0 1 t.Rc t.Rg ["name", "known"] (Al4):=by
 refine T.Hn.F.ok Jf ?_;rintro _ _ _ _ H _ Q E n ⟨z,kp,kn,x,rfl,⟨as,h1,h2,h3⟩,b,k1⟩;refine⟨_,(Ac (BX PassesOwn.never Z (Bq (K:=K) (pv 1)) (NB Z (CW (Bp (i:=2) Jf.nd Z (Or.inl Z)) (CW (Bp (i:=3) Jf.nd Z (Or.inl Z)) HS)))
   (Ad (Bd (Ah Ci (pv 2) (pv 0) (Ax _))
    (Ad (Ay (pv 3)))
    Ao)))
  (Ad Bc)),?_⟩;refine⟨_,Z,_,Z,⟨_,SqL.of h1⟩,Cr (λi σ H2=>∃ l f,σ=[some (.str (tx z)),some (.ref kp),l,f]/\H2=H/\∀ p∈kn.take i,¬p.1=z) ⟨none,none,Z,Z,λp d=>by simp at d⟩ (λi σ H2 _ ⟨_,_,_,e,_⟩=>by rw[e];exact SqL.of h1) ?_ ?_⟩
 ·rintro i r σ H2 h ⟨l,f,rfl,rfl,no⟩;rw[AtQ] at h;cases ea:as[i]? with
  | none=>simp_all
  | some a =>
   rw[ea] at h;cases h;have hi:i<kn.length:=by rw[<- h2];exact(zC.mp ea).1
   have m:=AtF hi;obtain⟨q,e1,e2⟩:=h3 i a _ ea m;refine⟨a,_,Z,SqT.of e1,Z,_,_,Z,_,_,Z,Z,?_⟩;refine⟨_,Z,_,Z,Z,_,Z,?_⟩;by_cases c:kn[i].1=z
   ·refine Jx (by rw[c]) ?_;refine⟨_,Z,k1 q ?_⟩;unfold known at b;have:kn.find? (λp=>decide (p.1=z))=some kn[i]:=by
     rw[List.find?_eq_some_iff_getElem];refine⟨by simpa using c,i,hi,Z,λj o=>?_⟩;have:= no kn[j] (List.mem_iff_getElem?.mpr ⟨j,by simp_all⟩)
     simpa using this
    rw[this] at b;injection b with b;rw[<- b];exact e2
   ·refine CZ (AfO c) ?_;refine⟨_,_,Z,Z,λp d=>?_⟩;rw[AtV,m] at d;rcases zG.mp d with d | d
    ·exact no p d
    ·rw[AvP,zF] at d;rw[d];exact c
 ·rintro σ H2 ⟨l,f,rfl,rfl,no⟩;rw[AtG,h2,Aue] at no;unfold known at b;have:kn.find? (λp=>decide (p.1=z))=none:=List.find?_eq_none.mpr λp d=>by simpa using no p d
  rw[this] at b;cases b
inductive ArY (t:Adr)(vs:Na)(H:Hp)(Q:VK)(z3:XK):Prop
|mk(zx:NI)(x:NN)(p:Addr)(_:vs=[.str (tx quW),.ref p])(_:Pc t H p x zx)(_:Clo x)(_:(wz quW [zx]).length<=1000000)(_:∀ p H',Aq H H'->Pc t H' p (IK x (wdt x)) (wz quW [zx])->Q (.ref p) H')
theorem Abr(T:Txt K mg t):Bl P w K mg base CX0 8 t.Rh t.Ri ["word", "inner"] (ArY t):=by
 refine T.J9.F.ok Aay ?_;rintro _ _ _ _ H _ Q E d ⟨i,x,p,rfl,h,C,f,k⟩;refine⟨_,(Ac (Bd (Ah Ci (pv 0) Av (Ax _))
   (Ad Bc)
   Ao)
  (Ac (Bd (Ah Ci (pv 0) Av (Ax _))
   (Ad Bc)
   Ao)
  (Ac (Bd (Ah Ci (pv 0) Av (Ax _))
   (Ad Bc)
   Ao)
  (Ad (Ay (HX T.W3.m ((Q5 T).mono (by decide)) d Z T.AiQ T.Jt.b .nil BK (Aa (pv 1) Ab))))))),?_⟩;refine⟨_,Z,Z,_,Z,?_⟩;refine⟨_,Z,Z,_,Z,?_⟩;refine⟨_,Z,Z,_,Z,?_⟩;exact⟨_,Z,λr dx a c e=>⟨r,dx,p,x,i,Z,Ae,h.mono (Qh a c),C,f,Zw k (by simp[pcs]) a c⟩⟩
inductive ArZ (t:Adr)(vs:Na)(H:Hp)(Q:VK)(z3:XK):Prop
|mk(zx:NI)(zy:NI)(x:NN)(y:NN)(m:Nat)(n:Nat)(p:Addr)(q:Addr)(_:vs=[.str (tx laW),.ref p,.ref q])(_:Pc t H p x zx)(_:Pc t H q y zy)(_:Cl x m n)(_:Cl y m n)(_:m<=20)(_:n<=20)(_:(wz laW [zx,zy]).length<=1000000)(_:∀ p H',Aq H H'->Pc t H' p (lay [x,y] (Es m) (Es n)) (wz laW [zx,zy])->Q (.ref p) H')
theorem Abs(T:Txt K mg t):Bl P w K mg base CX0 8 t.Rj t.Rk ["word", "one", "other"] (ArZ t):=by
 refine T.JB.F.ok Aaz ?_;rintro _ _ _ _ H _ Q E h ⟨s,f,x,y,m,n,p,q,rfl,o,i,C,D,e,d,l,k⟩;refine⟨_,(Ac (Bd (Ah Ci (pv 0) Av (Ax _))
   (Ad Bc)
   Ao)
  (Ac (Bd (Ah Ci (pv 0) Av (Ax _))
   (Ad Bc)
   Ao)
  (Ac (Bd (Ah Ci (pv 0) Av (Ax _))
   (Ad Bc)
   Ao)
  (Ac (Bd (Ah Ci (pv 0) Av (Ax _))
   (Ad Bc)
   Ao)
  (Ad (Ay (HX T.AkQ.m ((Zc T).mono (by decide)) h Z T.ArH T.Qa.b .nil BK (Aa (pv 1) (Aa (pv 2) Ab))))))))),?_⟩;refine⟨_,Z,Z,_,Z,?_⟩;refine⟨_,Z,Z,_,Z,?_⟩;refine⟨_,Z,Z,_,Z,?_⟩;refine⟨_,Z,Z,_,Z,?_⟩;exact⟨_,Z,_,Z,λr dx a c j=>⟨r,dx,p,q,x,y,s,f,m,n,Z,Ae,o.mono (Qh a c),i.mono (Qh a c),C,D,e,d,l,Zw k (by simp[pcs]) a c⟩⟩
theorem AnJ:∀{l:List α},l.length=2->∃ a b,l=[a,b]
 | [a,b],_=>⟨a,b,Z⟩
def Mk (wd:NI)(ys:List (NN))(x:NN):Prop :=
 (wd=quW/\∃ y,ys=[y]/\Clo y/\x=IK y (wdt y))\/(wd=laW/\∃ y y' m n,ys=[y,y']/\Cl y m n/\Cl y' m n/\m<=20/\n<=20/\x=lay [y,y'] (Es m) (Es n))
def Fm.val(kn:Kns)(x:NN):Fm->Prop
 | .nam z=>known kn z=.ok x
 | .rows rs=>x=rs/\Clo x
 | .wds wd zs=>∃ ys:List (NN),ys.length=zs.length/\(∀(j:Nat) z y,zs[j]?=some z->ys[j]?=some y->known kn z=.ok y)/\Mk wd ys x
inductive AhN (t:Adr)(B:Fm->Prop)(vs:Na)(H:Hp)(Q:VK)(z3:XK):Prop
|mk(f:Fm)(v:Addr)(kp:Addr)(kn:Kns)(x:NN)(_:vs=[.ref v,.ref kp])(_:B f)(_:f.Ok)(_:(f.word++f.tail).length<=1000000)(_:f.At H v)(_:Kn H kp kn)(_:f.val kn x)(_:∀ p H',Aq H H'->Pc t H' p x (f.word++f.tail)->Q (.ref p) H')
theorem Rw{k:Nat}(hk:7<=k)(T:Txt K mg t)(Mp:Bl P w K mg base CX0 (k+1) t.Gr t.Gs ["node", "known"] (AhN t (λf=>f.cmp=false/\∃ A z,B (.wds A z)))):Bl P w K mg base CX0 (k+2) t.Gr t.Gs ["node", "known"] (AhN t B):=by
 refine T.Jp.F.ok JN ?_;rintro _ _ _ _ H _ Q E O ⟨f,v,kp,kn,x,rfl,hB,ok,hw,d,hK,hv,k⟩;refine⟨_,(Ac (Bd (Ah Aj9 (Az (BW (K:=K)) (pv 0) Af (λ_ _=>rfl)) JF (Ax _))
   (Ad (Ay (HX T.Ad4.m ((Vy T).mono (by exact Ar.d8 hk)) O Z T.Ant T.KR.b .nil BK (Aa (Az (BW (K:=K)) (pv 0) Af (λ_ _=>rfl)) (Aa (Eb ((Qi T).mono (by exact Ar.a4)) O Z T.Hn.m T.Hn.F.kp T.Hn.b .nil BK (Aa (Az (BW (K:=K)) (pv 0) Af (λ_ _=>rfl)) (Aa (pv 1) Ab))) Ab)))))
   Ao)
  (Ac (Qn (i:=2) (cok [1] ["thing", "known"] JN) Z JN.nd Z rfl (Bq (K:=K) (Az (BW (K:=K)) (pv 0) Af (λ_ _=>rfl))) (λ_ _ _ _ _=>.nil) (λ_ _ _ _ _=>(JV (Ck (Ai (Eu) Z T.Dh CJ (Aa (pv 0) (Aa (GQ (v:=.ty "tuple") Z T.Ad3 ZL Z) Ab)))) (Eb (Mp.mono (by exact Ar.i1)) O Z T.Jp.m T.Jp.F.kp T.Jp.b .nil BK (Aa (pv 0) (Aa (pv 1) Ab))) (pv 0))) Z)
  (Ac (Bd (Ah Ci (Az (BW (K:=K)) (pv 0) Af (λ_ _=>rfl)) Av (Ax _))
   (Ad (Ay (HX T.AgL.m ((WN T).mono (by exact Ar.d8 hk)) O Z T.ApT T.Nk.b .nil BK (Aa (pv 2) Ab))))
   Ao)
  (Ac (Bd (Ah Ci (Ai (Ak (K:=K)) Z T.BJ Bj (Aa (pv 2) Ab)) Af (Ax _))
   (Ad (Ay (Eb ((Abr T).mono (by exact Ar.i2 hk)) O Z T.J9.m T.J9.F.kp T.J9.b .nil BK (Aa (Az (BW (K:=K)) (pv 0) Af (λ_ _=>rfl)) (Aa (Az (Aw (K:=K)) (pv 2) Af (λ_ _=>rfl)) Ab)))))
   Ao)
  (Ac (Bd (Ah Ci (Ai (Ak (K:=K)) Z T.BJ Bj (Aa (pv 2) Ab)) Af (Ax _))
   (Ad Bc)
   Ao)
  (Ad (Ay (Eb ((Abs T).mono (by exact Ar.i2 hk)) O Z T.JB.m T.JB.F.kp T.JB.b .nil BK (Aa (Az (BW (K:=K)) (pv 0) Af (λ_ _=>rfl)) (Aa (Az (Aw (K:=K)) (pv 2) Af (λ_ _=>rfl)) (Aa (Az (Aw (K:=K)) (pv 2) Af (λ_ _=>rfl)) Ab))))))))))),?_⟩;have hsz:=z8;cases f with
 | nam z =>
  refine⟨_,Z,_,_,_,_,Z,Z,SqT.of d,(rfl),Z,_,Z,?_⟩;have X:=λp H' s R=>k p H' s (by simpa [Fm.word,Fm.tail,Fm.cmp] using R);exact⟨_,Z,_,_,_,_,Z,Z,SqT.of d,(rfl),_,Z,_,_,_,_,Z,Z,SqT.of d,(rfl),_,Z,z,kp,kn,x,Z,hK,hv,λq M=>λr dx h o a6=>⟨r,dx,q,x,z,Z,Ae,SqL.of (Qh h o _ _ M),Zw X (by simp[pcs]) h o⟩⟩
 | rows rs =>
  obtain⟨q,d,M⟩:∃ q,H v=some (.tup [.str (tx Pat.Gy),.ref q])/\H q=some (.lst (vS rs)):=d;obtain⟨rfl,C⟩:=hv;have ac:=C.n40;have U:atI [V.str (tx Pat.Gy),V.ref q] 0=some (.str (tx Pat.Gy)):=rfl;have a1:atI [V.str (tx Pat.Gy),V.ref q] 1=some (.ref q):=rfl;refine⟨_,Z,_,_,_,_,Z,Z,SqT.of d,a1,Z,_,Z,?_⟩;refine⟨_,Z,_,_,_,_,Z,Z,SqT.of d,a1,_,Z,⟨_,SqL.of M⟩,?_⟩;refine BV (xs:=vS x) (λi ys H2=>H2=H/\ys=vS (x.take i)) ⟨Z,Z⟩ ?_ ?_ ?_ ?_
  ·rintro i ys H2 hi ⟨rfl,rfl⟩;refine⟨SqL.of M,?_⟩;rw[Bt,AtX];exact AuU _ _
  ·rw[Bt];exact Ar.a2 ac
  ·rintro i xv ys H2 hi Y ⟨rfl,rfl⟩;obtain⟨u,hu,rfl⟩:=Ff Y;refine⟨_,Z,_,_,false,.str _,.inl ⟨_,Z,Z⟩,_,Z,?_⟩;refine⟨_,Z,?_⟩;exact CN.of hi ⟨Z,by rw[AtV,hu];unfold vS;rw[AtK];rfl⟩
  ·rintro ys H2 l ⟨rfl,rfl⟩ I;rw[Bt,Aue];have L:Aq H2 (upd H2 l (.lst (vS x))):=.upd I;have c:(upd H2 l (.lst (vS x))) l=some (.lst (vS x)):=Ae;refine⟨_,Z,_,_,_,_,Z,Z,SqT.of (L _ _ d),U,Z,_,Z,?_⟩;exact⟨_,Z,λr dx h o a6=>⟨r,dx,l,x,_,_,Z,Ae,SqL.of (Qh h o _ _ c),C,hw,Zw (λp H' s R=>k p H' (L.trans s) R) (by simp[pcs]) h o⟩⟩
 | wds A zs =>
  obtain⟨q,d,as,M,al,ha⟩:∃ q,H v=some (.tup [.str (tx A),.ref q])/\∃ as:NU,H q=some (.lst (as.map V.ref))/\as.length=zs.length/\∀ j a,as[j]?=some a->H a=some (.tup [.str (tx (zs.getD j [])),.non]):=d;obtain⟨ys,yl,hy,hM⟩:=hv;have z2:zs.length<=2:=by rcases ok.1 with ⟨_,e⟩ | ⟨_,e⟩ <;> lia
  have U:atI [V.str (tx A),V.ref q] 0=some (.str (tx A)):=rfl;have a1:atI [V.str (tx A),V.ref q] 1=some (.ref q):=rfl;have ml:(as.map V.ref).length=zs.length:=by grind
  refine⟨_,Z,_,_,_,_,Z,Z,SqT.of d,a1,Z,_,Z,?_⟩;refine⟨_,Z,_,_,_,_,Z,Z,SqT.of d,a1,_,Z,⟨_,SqL.of M⟩,?_⟩;refine BV (xs:=as.map V.ref) (λi vs H2=>Aq H H2/\∃ ps:NU,vs=ps.map V.ref/\ps.length=i/\∀(j:Nat) p z y,ps[j]?=some p->zs[j]?=some z->ys[j]?=some y->Pc t H2 p y z) ⟨.refl _,[],Z,Z,λj p z y e=>by simp at e⟩ ?_ ?_ ?_ ?_
  ·rintro i vs H2 hi ⟨J,ps,rfl,pl,_⟩;exact⟨SqL.of (J _ _ M),by grind⟩
  ·exact Ar.g6 ml z2
  ·rintro i xv vs H2 hi Y ⟨J,ps,rfl,pl,N⟩;have ea:as[i]?=some as[i]:=AtF (by omega);rw[AtQ,ea] at Y;cases Y;have ez:zs[i]?=some (zs.getD i []):=by grind
   have ey:ys[i]?=some ys[i]:=AtF (by omega);have nz:=ok.2 _ (AtN ez);have zl:=nz.2.2;refine⟨_,Z,_,_,true,.tup (J _ _ (ha _ _ ea)),.inl ⟨_,Z,Gx K _⟩,_,Z,?_⟩;refine⟨_,Z,_,Z,.nam (zs.getD i []),as[i],kp,kn,ys[i],Z,⟨Z,A,zs,hB⟩,nz,(by simp only [Fm.word,Fm.tail,Fm.cmp,Avx,if_false,Aum];exact Ar.a2 zl),J _ _ (ha _ _ ea),hK.same J,hy _ _ _ ez ey,λp H3 s3 R=>?_⟩;refine CN.of hi ⟨J.trans s3,ps++[p],(by grind),(by grind),λj p' z y e1 e2 e3=>?_⟩;rw[Av6] at e1;split at e1
   ·exact(N j p' z y e1 e2 e3).mono s3
   ·rw[AvQ] at e1;split at e1
    ·next h0 =>
     cases e1;rw[show j=i by omega] at e2 e3;cases ez.symm.trans e2;cases ey.symm.trans e3
     simpa [Fm.word,Fm.tail,Fm.cmp] using R
    ·cases e1
  ·rintro vs H2 l ⟨J,ps,rfl,pl,N⟩ I;rw[ml] at pl;have L:Aq H (upd H2 l (.lst (ps.map V.ref))):=J.new I;have p3:∀(j:Nat) p z y,ps[j]?=some p->zs[j]?=some z->ys[j]?=some y->Pc t (upd H2 l (.lst (ps.map V.ref))) p y z:=λj p z y e1 e2 e3=>(N j p z y e1 e2 e3).mono (Aq.upd I);have c:(upd H2 l (.lst (ps.map V.ref))) l=some (.lst (ps.map V.ref)):=Ae;generalize upd H2 l (.lst (ps.map V.ref))=H3 at L p3 c ⊢;have nr:A≠Pat.Gy:=by rcases ok.1 with ⟨rfl,_⟩ | ⟨rfl,_⟩ <;> decide
   refine⟨_,Z,_,_,_,_,Z,Z,SqT.of (L _ _ d),U,Z,_,Z,?_⟩;refine CZ (AfO nr) ?_;have S:(wz A zs).length<=1000000:=hw;have X:∀ p4 W,Aq H3 W->Pc t W p4 x (wz A zs)->Q (.ref p4) W:=λp4 W s4 ae=>k p4 W (L.trans s4) ae;refine⟨_,Z,_,_,Z,.inl (SqL.of c),Z,_,Z,?_⟩;rcases hM with ⟨rfl,y,rfl,C,rfl⟩ | ⟨rfl,y,y',m,n,rfl,C,D,aa,ab,rfl⟩
   ·obtain⟨z,rfl⟩:=List.length_eq_one_iff.mp yl.symm;obtain⟨p,rfl⟩:=List.length_eq_one_iff.mp pl;exact⟨_,Z,_,_,_,_,Z,Z,SqT.of (L _ _ d),U,_,Z,_,_,_,_,Z,Z,SqL.of c,(rfl),z,y,p,Z,p3 0 p z y Z rfl Z,C,S,X⟩
   ·obtain⟨z,z',rfl⟩:=AnJ yl.symm;obtain⟨p,p',rfl⟩:=AnJ pl;refine⟨_,Z,_,_,Z,.inl (SqL.of c),Z,_,Z,?_⟩;exact⟨_,Z,_,_,_,_,Z,Z,SqT.of (L _ _ d),U,_,Z,_,_,_,_,Z,Z,SqL.of c,(rfl),_,Z,_,_,_,_,Z,Z,SqL.of c,(rfl),z,z',y,y',m,n,p,p',Z,p3 0 p z y Z rfl Z,p3 1 p' z' y' Z rfl Z,C,D,aa,ab,S,X⟩
inductive AnK (t:Adr)(vs:Na)(H:Hp)(Q:VK)(z3:XK):Prop
|mk(f:Fm)(kp:Addr)(kn:Kns)(x:NN)(_:vs=[.str (tx (f.word++f.tail)),.ref kp])(_:f.Ok)(_:(f.word++f.tail).length<=1000000)(_:Kn H kp kn)(_:f.val kn x)(_:∀ p z H',Aq H H'->Pc t H' p x z->Q (.ref p) H')
theorem Ze(T:Txt K mg t):Bl P w K mg base CX0 11 t.Pg t.Ph ["text", "known"] (AnK t):=by have u:Bl P w K mg base CX0 9 t.Gr t.Gs ["node", "known"] (AhN t (λf=>f.cmp=false)):=Rw (by decide) T (Ao6.imp λvs H Q E s=>by obtain⟨f,_,_,_,_,_,h,_⟩:=s;obtain⟨_,_,_,e⟩:=h;cases e);have q:Bl P w K mg base CX0 10 t.Gr t.Gs ["node", "known"] (AhN t (λ_=>True)):=Rw (by decide) T (u.imp λvs H Q E ⟨f,v,kp,kn,x,o,h,a,b,c,d,e,g⟩=>⟨f,v,kp,kn,x,o,h.1,a,b,c,d,e,g⟩);refine T.Vh.F.ok YQ ?_;rintro _ _ _ _ H _ Q E i ⟨f,kp,kn,x,rfl,ok,j,m,n,k⟩;refine⟨_,(Ad (Ay (Bg T.Jp q i (Aa (Bg T.AaP (AbI T) i (Aa (pv 0) Ab)) (Aa (pv 1) Ab))))),?_⟩;exact⟨_,Z,f,Z,ok,j,λv H1 s1 y=>⟨_,Z,f,v,kp,kn,x,Z,trivial,ok,j,y,m.same s1,n,λp H2 l r=>k p _ H2 (s1.trans l) r⟩⟩
end
def Jw (c:Nat):NI->NN
 | []=>[[]]
 | a::u=>if a=c then []::Jw c u else match Jw c u with
  | []=>[[a]]
  | w::ws=>(a::w)::ws
theorem AdV(c:Nat):∀ u,Jw c u≠[]
 | []=>by unfold Jw;simp
 | a::u=>by
  unfold Jw;split
  ·simp
  ·split <;> simp
theorem AdW(c:Nat):∀ u,jn c (Jw c u)=u
 | []=>rfl
 | a::u=>by
  have b:=AdW c u;have ne:=AdV c u;unfold Jw;split
  ·rename_i h;cases e:Jw c u with
   | nil=>exact absurd e ne
   | cons w ws=>rw[e] at b;show[]++c::jn c (w::ws)=_;rw[b,h];rfl
  ·cases e:Jw c u with
   | nil=>exact absurd e ne
   | cons w ws =>
    rw[e] at b;cases ws with
    | nil=>have b:w=u:=b;show a::w=_;rw[b]
    | cons v r=>have b:w++c::jn c (v::r)=u:=b;show(a::w)++c::jn c (v::r)=_;rw[Avi,b]
theorem AhO(c:Nat):∀ u,∀ w∈Jw c u,c∉w
 | [],w,h=>by unfold Jw at h;rw[zF.mp h];simp
 | a::u,w,h=>by
  have b:=AhO c u;unfold Jw at h;split at h
  ·rcases yD.mp h with rfl | h
   ·simp
   ·exact b w h
  ·rename_i d;split at h
   ·rw[zF.mp h];simp;exact λz=>d z.symm
   ·rename_i v ws e;rcases yD.mp h with rfl | h
    ·rw[Aui,not_or];exact⟨λz=>d z.symm,b v (by rw[e];simp)⟩
    ·exact b w (by rw[e];simp[h])
theorem AfP(c:Nat)(u:NI):((Jw c u).map List.length).sum+(Jw c u).length=u.length+1:=by
 have:∀ ws:NN,ws≠[]->(ws.map List.length).sum+ws.length=(jn c ws).length+1:=λws=>by
  induction ws with
  | nil=>exact λh=>absurd Z h
  | cons w r a =>
   intro _;cases r with
   | nil=>simp[jn]
   | cons v r =>
    have:=a (by simp);show((w::v::r).map List.length).sum+_=(w++c::jn c (v::r)).length+1;rw[AtM,Aul,AtI,AtS (as:=v::r),AtS (as:=jn c (v::r))];omega
 have h:=this (Jw c u) (AdV c u);rw[AdW] at h;exact h
def Al5 (u:NI):NN:=(Jw 32 u).filter λw=>decide (¬w=[])
theorem AhP(h1:u.head?≠some 32)(h2:u.getLast?≠some 32):trim u=u:=by
 unfold trim;have e1:u.dropWhile (λc=>decide (c=32))=u:=by
  cases u with
  | nil=>rfl
  | cons a u=>rw[List.dropWhile_cons_of_neg (by simpa using h1)]
 rw[e1];have e2:u.reverse.dropWhile (λc=>decide (c=32))=u.reverse:=by
  cases e:u.reverse with
  | nil=>rfl
  | cons a v =>
   rw[List.dropWhile_cons_of_neg];have:u.getLast?=some a:=by rw[<- List.head?_reverse,e];rfl
   rw[this] at h2
   simpa using h2
 rw[e2,List.reverse_reverse]
theorem V2(u:NI):(trim u).length<=u.length:=by unfold trim;rw[AuC];refine AtW (AvC _).length_le ?_;rw[AuC];exact(AvC _).length_le
section
variable {K:NF}{base:Heap}
theorem GP{v b:V}{σ σ':St}{a:St->Hp->Prop}(c:v=b)(h:σ.set i (some b)=σ')(k:a σ' H):JW i v σ H a:=by subst c;subst h;exact k
theorem Qz:(Str.ofString " ")=tx [32]:=by decide +kernel
theorem WQ:(Str.ofString "\n")=tx [10]:=by decide +kernel
theorem Al6:(Str.ofString "?")=tx [63]:=by decide +kernel
theorem Ajg:(Str.ofString ";")=tx [59]:=by decide +kernel
theorem Ajh:(Str.ofString "=:")=tx [61,58]:=by decide +kernel
theorem AcK{k:Nat}(h:k<=u.length):VL u (some (k:Int)) none=u.drop k:=by unfold VL;rw[HT.Gh,Aup h];exact Auf (by rw[Auw];exact AtH _)
theorem Atj(u:NI):VL u (some 1) none=u.tail:=by
 cases u with
 | nil=>decide +kernel
 | cons a u=>exact AcK (by simp)
theorem Al7{c A B:Prop}[Decidable c](hc:¬c)(h:A):if (!decide c)=true then A else B:=by rw[zJ hc];exact Aby h
inductive Aqm (vs:Na)(H:Hp)(Q:VK)(z3:XK):Prop
|mk(u:NI)(_:vs=[.str (tx u)])(_:u.length<=1000000)(_:∀ q H',Aq H H'->H' q=some (.lst (vS (Al5 u)))->Q (.ref q) H')
theorem AfQ(T:Txt K mg t):Bl P w K mg base CX0 1 t.AaA t.AaB ["text"] Aqm:=by
 refine T.words_of.F.ok Xx ?_;rintro _ _ _ _ H _ Q E n ⟨u,rfl,f,k⟩;refine⟨_,(Ad (Ay (Cg (cok [] ["word"] Xx) Z (Bq (K:=K) (Bw zI zX z6 Aae (pv 0) (Aa Av Ab))) (λ_ _ _ _ _=>.one (Ah G5 (pv 0) Av (Ax _))) (λ_ _ _ _ _=>(pv 0))))),?_⟩;have hsz:=z8;refine⟨_,Z,Z,u,32,Jw 32 u,Z,Z,(by decide),(by exact Ar.f4 f),AdV _ _,AdW _ _,AhO _ _,λl b=>?_⟩;obtain⟨H1,h,s1,h1⟩:=nu9 (o:=.lst (vS (Jw 32 u))) (.refl _) b;rw[h];have pl:(Jw 32 u).length<=u.length+1:=by have:= AfP 32 u;exact Ar.d8 (Ar.d2 this)
 refine⟨_,Z,⟨_,SqL.of h1⟩,BV (xs:=vS (Jw 32 u)) (λi ys H2=>H2=H1/\ys=vS (((Jw 32 u).take i).filter λw=>decide (¬w=[]))) ⟨Z,Z⟩ ?_ ?_ ?_ ?_⟩
 ·rintro i ys H2 hi ⟨rfl,rfl⟩;refine⟨SqL.of h1,?_⟩;rw[Bt];exact AtW (Auz _ _) (by rw[AtX];exact AuU _ _)
 ·rw[Bt];lia
 ·rintro i m ys H2 hi d ⟨rfl,rfl⟩;obtain⟨x,a,rfl⟩:=Ff d;have j:(Jw 32 u).take (i+1)=(Jw 32 u).take i++[x]:=by rw[AtV,a];rfl
  refine⟨_,Z,Z,_,Z,?_⟩;by_cases c:x=[]
  ·subst c;refine Oa Z ?_;exact CN.of hi ⟨Z,by simp_all⟩
  ·refine Al7 (AfO c) ?_;refine⟨_,Z,CN.of hi ⟨Z,?_⟩⟩;rw[j,Au4,AuN (by simpa using c)];unfold vS;rw[AtK];rfl
 ·rintro ys H2 q ⟨rfl,rfl⟩ e;rw[Bt,Aue];exact k q _ (s1.new e) Ae
inductive Aqn (vs:Na)(H:Hp)(Q:VK)(z3:XK):Prop
|mk(a:NI)(b:NI)(c:Nat)(_:vs=[.str (tx (a++c::b))])(_:(∀ x∈a,¬(x=61\/x=58)))(_:(c=61\/c=58))(_:∀ H',Aq H H'->Q (.int (a.length:Int)) H')
theorem WR(T:Txt K mg t):Bl P w K mg base CX0 1 t.Nf t.Ng ["line"] Aqn:=by
 refine T.Rq.F.ok G9 ?_;rintro _ _ _ _ H _ Q E p ⟨a,b,c,rfl,n,hc,k⟩;refine⟨_,(Ac (BX PassesOwn.never Z (Ak0 Z T.PJ (Aa (pv 0) Ab)) (NB Z (CW (Bp (i:=1) G9.nd Z (Or.inl Z)) (CW (Bp (i:=2) G9.nd Z (Or.inl Z)) HS)))
   (Ad (Bd (Ah VB (pv 2) Av Z)
    (Ad (Ay (pv 1)))
    Ao)))
  (Ad Bc)),?_⟩;rw[Ajh];refine⟨_,Z,_,Z,AiE (λi σ H2=>∃ j h,σ=[some (.str (tx (a++c::b))),j,h]/\Aq H H2/\i<=a.length) ⟨none,none,Z,.refl _,AtR _⟩ ?_ ?_⟩
 ·rintro i x σ H2 T0 d ⟨j,h,rfl,m,hi⟩ o;refine⟨T0,_,Z,SqT.of Ae,Z,_,_,Z,_,_,Z,Z,?_⟩;have l:Aq H (upd H2 T0 (.tup [.int (i:Int),.str (tx [x])])):=m.new o;generalize upd H2 T0 (.tup [.int (i:Int),.str (tx [x])])=q at l ⊢;refine⟨_,Z,_,_,Z,Z,?_⟩;rw[<- Lj,Abg];refine⟨_,Z,?_⟩;by_cases e:i=a.length
  ·subst e;rw[AtZ (AtH _),Aux] at d;injection d with d;refine Jx (by simp_all) ?_;exact⟨_,Z,k _ l⟩
  ·have f:i<a.length:=by exact Ar.d5 e hi
   rw[Auc f] at d;have:= n x (AtN d);refine CZ (λz=>this ?_) ⟨_,_,Z,l,f⟩
   simpa using z
 ·rintro σ H2 ⟨j,h,rfl,m,hi⟩;rw[AtI,AtS] at hi;lia
inductive Lk (kn:Kns):NI->NI × NN->Prop
 | pat {a b nm:NI} {x:NN} {f:Fm}:(∀ x∈a,¬(x=61\/x=58))->trim a=nm->Pat.isName nm=true->(∀ q∈kn,¬q.1=nm)->trim b=f.word++f.tail->f.Ok->f.val kn x->x≠[]->Lk kn (a++61::b) (nm,x)
 | dra {a b nm u0 u2:NI} {us:NN} {th tr:NA} {tss:NV}:(∀ x∈a,¬(x=61\/x=58))->trim a=nm->Pat.isName nm=true->(∀ q∈kn,¬q.1=nm)->trim b=drT u0 us u2->Wr u0 th->us.length=tss.length->(∀(i:Nat)(u:NI)(ks:NA),us[i]?=some u->tss[i]?=some ks->Wr u ks)->Wr u2 tr->Ft th tss tr->wv th tss tr≠[]->Lk kn (a++58::b) (nm,wv th tss tr)
inductive Al8 (t:Adr)(vs:Na)(H:Hp)(Q:VK)(z3:XK):Prop
|mk(l:NI)(kp:Addr)(kn:Kns)(p:NI × NN)(_:vs=[.str (tx l),.ref kp])(_:l.length<=1000000)(_:Kn H kp kn)(_:kn.length<=1000)(_:Lk kn l p)(_:∀ a q H',Aq H H'->H' a=some (.tup [.str (tx p.1),.ref q])->H' q=some (.lst (vS p.2))->Q (.ref a) H')
theorem AdX{c d:Nat}:∀{a i b f:NI},(∀ x∈a,¬(x=61\/x=58))->(∀ x∈i,¬(x=61\/x=58))->(c=61\/c=58)->(d=61\/d=58)->a++c::b=i++d::f->a=i/\c=d/\b=f
 | [],[],b,f,_,_,_,_,e=>by simp_all
 | [],y::i,b,f,_,h,hc,_,e=>by simp_all
 | x::a,[],b,f,h,_,_,hd,e=>by simp_all
 | x::a,y::i,b,f,h,h',hc,hd,e=>by
  have e1:=(List.cons.inj e).1;obtain⟨l,m,n⟩:=AdX (λz j=>h z (AtL _ j)) (λz j=>h' z (AtL _ j)) hc hd (List.cons.inj e).2;exact⟨by rw[e1,l],m,n⟩
theorem AdY(T:Txt K mg t):Bl P w K mg base CX0 12 t.Yn t.Yo ["line", "known"] (Al8 t):=by
 refine T.Ac3.F.ok Gn ?_;rintro _ _ _ _ H _ Q E s ⟨l,kp,kn,p,rfl,I,Y,a0,C,k⟩;obtain⟨a,b,c,nm,rs,rfl,rfl,hc,X,A,R,N⟩:∃ a b c nm rs,l=a++c::b/\p=(nm,rs)/\(c=61\/c=58)/\(∀ x∈a,¬(x=61\/x=58))/\trim a=nm/\Pat.isName nm=true/\∀ q∈kn,¬q.1=nm:=by
  cases C with
  | pat h1 h2 h3 h4=>exact⟨_,_,_,_,_,Z,Z,.inl Z,h1,h2,h3,h4⟩
  | dra h1 h2 h3 h4=>exact⟨_,_,_,_,_,Z,Z,.inr Z,h1,h2,h3,h4⟩
 refine⟨_,(Ac (Ba (i:=2) Gn.nd Z (Or.inl Z) (Bg T.Rq (WR T) s (Aa (pv 0) Ab)))
  (Ac (Ba (i:=3) Gn.nd Z (Or.inr Z) (Bw (K:=K) zI F.slot_str_strip F.type_str_strip Tn (Cy ZP (pv 0) Ej (Cu (pv 2))) (Aa Av Ab)))
  (Ac (Bd (CQ (Ck (Bg T.Qu (Sx T) s (Aa (pv 3) Ab))))
   (Ad Bc)
   Ao)
  (Ac (Bd (Ck (Ai (Wb (K:=K)) Z T.AkL Agy (Aa (Cg (cok [3] ["pair", "name"] Gn) Z (Bq (K:=K) (pv 1)) (λ_ _ _ _ _=>.nil) (λ_ _ _ _ _=>(Ea Ci (Az (BW) (pv 0) Af (λ_ _=>rfl)) (pv 1) (Ax _)))) Ab)))
   (Ad Bc)
   Ao)
  (Ac (Ba (i:=4) Gn.nd Z (Or.inl Z) (Bw (K:=K) zI F.slot_str_strip F.type_str_strip Tn (Cy ZP (pv 0) (Cu (Bx Ey (pv 2) Af)) Ej) (Aa Av Ab)))
  (Ac (Bd (Ah Ci (Az Hs (pv 0) (pv 2) (λ_ _=>rfl)) Av (Ax _))
   (Ad (Ay (Ir (Aa (pv 3) (Aa (Dt (K:=K) Z (Bg T.Vh (Ze T) s (Aa (pv 4) (Aa (pv 1) Ab))) ((Gz T).mono (by decide)) s T.FP.b BK) Ab)))))
   Ao)
  (Ad (Ay (Ir (Aa (pv 3) (Aa (Bg T.Aoz (Alq T) s (Aa (Bg T.AaO (AbE T) s (Aa (pv 4) Ab)) Ab)) Ab))))))))))),?_⟩;dsimp only at k;rw[Qz];have hsz:=z8;have r:=I;rw[AtI,AtS] at r;refine⟨_,Z,a,b,c,Z,X,hc,λH1 s1=>?_⟩;have ec:VL (a++c::b) none (some (a.length:Int))=a:=by
  unfold VL;rw[HT.S7,HT.Gh,Aup (by simp),AvB,Avp,AvJ (AtH _),Aue]
 refine⟨_,Z,_,Z,_,Z,_,Z,big I,?_⟩;rw[ec];refine⟨Z,_,_,Z,Z,(by rw[Al];exact Ar.a2 (Ar.d7 r)),?_⟩;rw[Zn,A];have W:nm.length<=1000000:=by have:= V2 a;rw[A] at this;exact Ar.b8 this (Ar.d7 r)
 refine⟨_,Z,nm,Z,W,λH2 s2=>⟨_,Z,?_⟩⟩;rw[R];have J:=s1.trans s2;obtain⟨as,k1,k2,k3⟩:=Y.same J;refine⟨_,Z,_,Z,⟨_,SqL.of k1⟩,BV (xs:=as.map V.ref) (λi ys G=>G=H2/\ys=vB (List.replicate i false)) ⟨Z,Z⟩ ?_ ?_ ?_ ?_⟩
 ·rintro i ys G hi ⟨rfl,rfl⟩;refine⟨SqL.of k1,?_⟩;rw[VR,Au8];exact AtH _
 ·grind
 ·rintro i xv ys G hi u ⟨rfl,rfl⟩;rw[AtQ] at u;cases ea:as[i]? with
  | none=>simp_all
  | some q =>
   rw[ea] at u;cases u;have v:i<kn.length:=by simp_all
   obtain⟨q2,e1,e2⟩:=k3 i q _ ea (AtF v);have:= N kn[i] (AtT v);refine⟨_,Z,_,_,_,_,Z,Z,SqT.of e1,Br (by decide) Z,_,Z,Z,?_⟩;rw[zJ (AfO this)];exact CN.of hi ⟨Z,by rw[Wa,Avz]⟩
 ·rintro ys G q ⟨rfl,rfl⟩ hq;refine⟨_,_,Z,SqL.of Ae,?_⟩;rw[show((List.replicate (as.map V.ref).length false).any id)=false by rw[AvE];intro x u;rw[AvD u];decide];have U:Aq H (upd G q (.lst (vB (List.replicate (as.map V.ref).length false)))):=J.new hq;refine⟨_,Z,Iz ?_⟩;have ed:VL (a++c::b) (some ((a.length:Int)+1)) none=b:=by
   rw[show((a.length:Int)+1)=((a.length+1:Nat):Int) by exact Ar.f2,AcK (by simp)];simp
  refine⟨_,Z,_,Z,_,_,Z,Z,_,Z,_,Z,big I,?_⟩;rw[ed];refine⟨Z,_,_,Z,Z,(by rw[Al];lia),?_⟩;rw[Zn];have tb:=V2 b;refine⟨_,Z,_,Z,_,_,c,Z,Z,(by exact big I),Br (by exact Ar.a9) (by rw[GR,Auh,AtZ (AtH _),Aux];rfl),Z,_,Z,?_⟩;have fin:∀(m:Addr)(h:Hp)(j:Addr),Aq H h->h m=some (.lst (vS rs))->h j=none->Q (.ref j) (upd h j (.tup [.str (tx nm),.ref m])):=λm h j M h5 e=>k j m _ (M.new e) Ae (by rw[Aj (Bb h5 e)];exact h5);generalize B:(nm,rs)=p at C;generalize hz:a++c::b=z at C;cases C with
  | @pat a' b' L x f h1 h2 h3 h4 h5 O h7 h8 =>
   cases B;obtain⟨rfl,rfl,rfl⟩:=AdX X h1 hc (.inl Z) hz;rw[h5];refine⟨_,Z,_,Z,_,Z,f,kp,kn,rs,Z,O,(by grind),Y.same U,h7,λpc zz H4 S B=>?_⟩;refine Vz T B λm n=>?_;obtain⟨h,e9,M,h5⟩:=nu9 (o:=.lst (vS rs)) (U.trans S) n;rw[e9];exact⟨(by show 2<=sizeLine;decide),λj e=>fin m h j M h5 e⟩
  | @dra a' b' L u0 J us th tr tss h1 h2 h3 h4 h5 O h7 h8 h9 y a6 =>
   cases B;obtain⟨rfl,rfl,rfl⟩:=AdX X h1 hc (.inr Z) hz;rw[h5];refine⟨_,Z,_,Z,u0,us,J,th,tss,tr,Z,O,h7,h8,h9,y,(by grind),λd dx a b c qs H4 S D=>?_⟩;refine⟨d,dx,a,b,c,qs,th,tss,tr,Z,D,y,λm h s5 aa n=>?_⟩;exact⟨(by show 2<=sizeLine;decide),λj e=>fin m h j ((U.trans S).trans s5) n e⟩
inductive Bk:Kns->NN->Kns->Prop
 | nil {kn:Kns}:Bk kn [] kn
 | line {kn kn':Kns} {l:NI} {ls:NN} {p:NI × NN}:¬(trim l).head?=some 59->Lk kn (trim l) p->p.2≠[]->Bk (kn++[p]) ls kn'->Bk kn (l::ls) kn'
inductive Al9 (t:Adr)(vs:Na)(H:Hp)(Q:VK)(z3:XK):Prop
|mk(bs:NN)(kn:Kns)(_:vs=[.str (tx (jn 10 bs))])(_:(jn 10 bs).length<=1000000)(_:bs≠[])(_:(∀ b∈bs,10∉b))(_:bs.length<=900)(_:Bk [] bs kn)(_:∀ q H',Aq H H'->Kn H' q kn->Q (.ref q) H')
theorem Ao7{c:Nat}{w:NI}:∀{ws:NN},w∈ws->w.length<=(jn c ws).length
 | [],h=>by simp at h
 | [v],h=>by rw[zF.mp h];exact AtH _
 | v::x::r,h=>by
  show _<=(v++c::jn c (x::r)).length;rw[AtI,AtS];rcases yD.mp h with rfl | h
  ·exact Ar.a3
  ·have:= Ao7 (c:=c) h;lia
theorem AdZ(T:Txt K mg t):Bl P w K mg base CX0 13 t.Yl t.Ym ["text"] (Al9 t):=by
 refine T.Ac2.F.ok Ih ?_;rintro _ _ _ _ H _ Q E hr ⟨bs,kn,rfl,S,N,Y,ab,d,k⟩;obtain⟨u,M⟩:∃ u,jn 10 bs=u:=⟨_,Z⟩;rw[M] at S ⊢;refine⟨_,(Ac (Ba (i:=1) Ih.nd Z (Or.inl Z) (Cp Ab))
  (Ac (BX PassesOwn.never Z (Bq (K:=K) (Bw (K:=K) zI zX z6 Aae (pv 0) (Aa Av Ab))) (Bp (i:=2) Ih.nd Z (Or.inl Z))
   (Ac (Ba (i:=3) Ih.nd Z (Or.inl Z) (Bw (K:=K) zI F.slot_str_strip F.type_str_strip Tn (pv 2) (Aa Av Ab)))
   (Ad (Bd (PW.pt (pw_and (Ah G5 (pv 3) Av (Ax _)) (pw_and1 (CQ (Ck (Bw (K:=K) zI F.slot_str_startswith F.type_str_startswith Wg (pv 3) (Aa Av Ab)))))))
    (Ad (Bo (Bw (K:=K) zM zL zQ Cd (pv 1) (Aa (Bg T.Ac3 (AdY T) hr (Aa (pv 3) (Aa (pv 1) Ab))) Ab))))
    Ao))))
  (Ad (Ay (pv 1))))),?_⟩;rw[WQ,Qz,Ajg];have hsz:=z8;refine⟨(by simp_all),λq hq=>?_⟩;obtain⟨H1,e9,s1,h1⟩:=nu9 (o:=.lst []) (.refl _) hq;rw[e9];refine⟨_,Z,Z,u,10,bs,Z,Z,(by decide),(by exact Ar.f4 S),N,M,Y,λl hl=>?_⟩;have s2:Aq H1 (upd H1 l (.lst (vS bs))):=.upd hl;have h2:(upd H1 l (.lst (vS bs))) l=some (.lst (vS bs)):=Ae;have W:=Bb h1 hl;refine⟨_,Z,⟨_,SqL.of h2⟩,Cr (λi σ G=>∃(X L:Option V)(f:Kns),σ=[some (.str (tx u)),some (.ref q),X,L]/\Aq H G/\G l=some (.lst (vS bs))/\Kn G q f/\(∀ p∈f,p.2≠[])/\f.length<=i/\Bk f (bs.drop i) kn) ⟨none,none,[],Z,s1.trans s2,h2,⟨[],s2 _ _ h1,Z,λi a p g=>by simp at g⟩,(λp hp=>by cases hp),AtR _,d⟩ (λi σ G _ ⟨_,_,_,_,_,h,_⟩=>SqL.of h) ?_ ?_⟩
 ·rintro i xv σ G hx ⟨X,L,f,rfl,sG,hG,D,m,U,d⟩;obtain⟨b,J,rfl⟩:=Ff hx;have hi:=(zC.mp J).1;have ed:bs.drop i=b::bs.drop (i+1):=by
   rw[AuG hi];have:= AtF hi;rw[J] at this;injection this with this;rw[<- this]
  rw[ed] at d;have bl:=Ao7 (c:=10) (AtN J);rw[M] at bl;have tl:=V2 b;refine⟨_,Z,Z,_,_,Z,Z,(by rw[Al];exact Ar.g5 bl S),?_⟩;rw[Zn];refine⟨_,Z,Z,_,Z,?_⟩;cases d with
  | @line _ _ _ _ p a6 C n d =>
  have c1:¬trim b=[]:=λz=>by
   rw[z] at C;generalize e:([]:NI)=l0 at C;cases C with
   | pat=>simp_all
   | dra=>simp_all
  refine Al7 (AfO c1) ?_;refine⟨_,Z,Z,_,_,Z,Z,?_⟩;rw[Wh];refine⟨_,Z,?_⟩;rw[zJ a6];have v:=D;have O:∃ zs,G q=some (.lst zs):=by obtain⟨as,g,_⟩:=v;exact⟨_,g⟩
  refine⟨_,Z,O.elim λzs hz=>.inl ⟨Z,_,SqL.of hz⟩,_,Z,_,Z,trim b,q,f,p,Z,(by lia),v,(by lia),C,λa9 q9 G' s' n1 n2=>?_⟩;obtain⟨as,g1,g2,g3⟩:=D;have aa:=sG.trans s';have x:=s' _ _ g1;refine⟨q,_,_,Z,Z,x,(by grind),?_⟩;have sF:Aq H (upd G' q (.lst (as.map V.ref++[.ref a9]))):=λb o e=>by
   rw[Aj (Bb e hq)];exact aa b o e
  have lq:l≠q:=λz=>W z.symm;have r:∀{b:Addr} {zs:Na},G' b=some (.tup zs)->b≠q:=λe z=>by grind
  have A:∀{b:Addr} {y:NN},y≠[]->G' b=some (.lst (vS y))->b≠q:=λ{b y} ny e z=>by
   rw[z,x] at e;injection e with e;injection e with e;cases y with
   | nil=>exact ny Z
   | cons y0 yr =>
    cases as with
    | nil=>cases e
    | cons a0 ar=>cases e
  refine⟨_,_,f++[p],Z,sF,by rw[Aj lq];exact s' _ _ hG,⟨as++[a9],by rw[Ae,AtK];rfl,by simp_all,λj a I e1 e2=>?_⟩,λI R=>?_,by grind,d⟩
  ·by_cases cj:j<as.length
   ·rw[Auc cj] at e1;rw[Auc (by rw[<- g2];exact cj)] at e2;obtain⟨q8,f1,f2⟩:=g3 j a I e1 e2;have s:=s' _ _ f1;have B:=s' _ _ f2;exact⟨q8,by rw[Aj (r s)];exact s,by rw[Aj (A (m I (AtN e2)) B)];exact B⟩
   ·rw[AtZ (by exact Ar.a1 cj)] at e1;rw[AtZ (by rw[<- g2];exact Ar.a1 cj),<- g2] at e2;have j0:j-as.length=0:=by
     grind
    rw[j0] at e1 e2;cases e1;cases e2;exact⟨q9,by rw[Aj (r n1)];exact n1,by rw[Aj (A n n2)];exact n2⟩
  ·rcases zG.mp R with h | h
   ·exact m I h
   ·rw[zF.mp h];exact n
 ·rintro σ G ⟨X,L,f,rfl,sG,hG,D,m,U,d⟩;rw[Bt,List.drop_length] at d;cases d;exact⟨_,Z,k q G sG D⟩
inductive Aji (K:NF)(vs:Na)(H:Hp)(Q:VK)(z3:XK):Prop
|mk(a:Addr)(cl:NN)(m:Nat)(n:Nat)(_:vs=[.ref a])(_:SqL K H a (vS cl))(_:Cl cl m n)(_:∀ l H',Aq H H'->H l=none->H' l=some (.lst (vI (DX cl m)))->Q (.ref l) H')
theorem V3(T:Txt K mg t):Bl P w K mg base CX0 4 t.Yh t.Yi ["cloth"] (Aji K):=by
 refine T.Wv.F.ok Gm ?_;rintro _ _ _ _ H _ Q E r ⟨a,cl,m,n,rfl,f,C,k⟩;have c2:=C.n40;have o:=C.m40;refine⟨_,(Ac (Ba (i:=1) Gm.nd Z (Or.inl Z) (Bg T.measured (Hq T) r (Aa (pv 0) Ab)))
  (Ac (Qn (i:=2) (cok [0] ["end", "cloth"] Gm) Z Gm.nd Z rfl (Ca Z T.Cq (Aa (Az (BW (K:=K)) (pv 1) Af (λ_ _=>rfl)) Ab)) (λ_ _ _ _ _=>.nil) (λ_ _ _ _ _=>(Bw zI F.slot_str_count F.type_str_count AeP (Bg T.Wt (Vu T) r (Aa (pv 1) (Aa (pv 0) Ab))) (Aa Av Ab))) Z)
  (Ad (Ay (Bx AjI (pv 2) (Cg (cok [] ["text"] Gm) Z (Bq (K:=K) (pv 0)) (λ_ _ _ _ _=>.nil) (λ_ _ _ _ _=>(Bw zI F.slot_str_count F.type_str_count AeP (pv 0) (Aa Av Ab))))))))),?_⟩;refine⟨_,Z,a,cl,m,n,Z,f,C,λp y=>?_⟩;have s1:Aq H (upd H p (.tup [.int (m:Int),.int (n:Int)])):=.upd y;have v:SqT K (upd H p (.tup [.int (m:Int),.int (n:Int)])) p [.int (m:Int),.int (n:Int)]:=SqT.of Ae;refine⟨_,Z,_,_,_,_,Z,Z,v,Br (by decide) Z,_,Z,(by exact Ar.a7),(by exact Ar.a8 o),?_⟩;refine DR (λi ys H2=>Aq H H2/\ys=vI ((List.range i).map λe=>(((col cl e).count 35:Nat):Int))) ⟨s1,Z⟩ ?_ ?_ ?_ ?_
 ·rintro i ys H2 hi ⟨d,rfl⟩;rw[Bh,AtG,AtO];exact AtH _
 ·exact Cv o
 ·rintro i ys H2 hi ⟨d,rfl⟩;refine⟨_,Z,_,Z,a,cl,m,n,i,(by rw[Au6] <;> rfl),d.seq f,C,hi,λD c=>?_⟩;refine⟨Z,col cl i,35,Z,(by rw[e35]),?_⟩;refine CN.of hi ⟨d.trans c,?_⟩;rw[Ht,Aur,AtK];rfl
 ·rintro ys H2 q ⟨d,rfl⟩ u;have c:Aq H (upd H2 q (.lst (vI ((List.range m).map λe=>(((col cl e).count 35:Nat):Int))))):=d.new u;refine⟨_,Z,_,Z,_,Z,⟨_,c.seq f⟩,BV (xs:=vS cl) (λi ys h=>h=upd H2 q (.lst (vI ((List.range m).map λe=>(((col cl e).count 35:Nat):Int))))/\ys=vI ((cl.take i).map λt=>((t.count 46:Nat):Int))) ⟨Z,Z⟩ ?_ ?_ ?_ ?_⟩
  ·rintro i ys h hi ⟨rfl,rfl⟩;refine⟨c.seq f,?_⟩;rw[Bh,AtG,AtX];exact Ar.k7
  ·rw[Bt,C.hn];exact Cv c2
  ·rintro i x ys h hi A ⟨rfl,rfl⟩;obtain⟨t,B,rfl⟩:=Ff A;refine⟨_,Z,Z,t,46,Z,(by rw[e46]),?_⟩;refine CN.of hi ⟨Z,?_⟩;rw[Ht,AtV,B,AtK];rfl
  ·rintro ys h z ⟨rfl,rfl⟩ b;rw[Bt,Aue];have j:(upd (upd H2 q (.lst (vI ((List.range m).map λe=>(((col cl e).count 35:Nat):Int))))) z (.lst (vI (cl.map λt=>((t.count 46:Nat):Int))))) q=some (.lst (vI ((List.range m).map λe=>(((col cl e).count 35:Nat):Int)))):=(Aq.upd b) _ _ Ae;refine⟨_,_,_,_,Z,Z,j,Ae,(by rw[Bh,Bh,AtG,AtG,AtO,C.hn,z8];exact Ar.g7 o c2),λl s=>?_⟩;have e:vI ((List.range m).map λe=>(((col cl e).count 35:Nat):Int))++vI (cl.map λt=>((t.count 46:Nat):Int))=vI (DX cl m):=by
    unfold vI DX;rw[AtK]
   rw[e];exact k l _ ((c.new b).new s) ((c.new b).free s) Ae
structure PL (H:Hp)(l:Addr)(ps:NU)(zs:List (Nat × Nat)):Prop where
 h:H l=some (.lst (ps.map V.ref))
 len:ps.length=zs.length
 at_:∀(i:Nat)(p:Addr)(z:Nat × Nat),ps[i]?=some p->zs[i]?=some z->H p=some (.tup [.int (z.1:Int),.int (z.2:Int)])
theorem PL.same{ps:NU}(N:PL H l ps zs)(s:Aq H H'):PL H' l ps zs:=⟨s _ _ N.h,N.len,λi p z e1 e2=>s _ _ (N.at_ i p z e1 e2)⟩
theorem PL.app{tp:Addr}{ps:NU}{z:Nat × Nat}(N:PL H l ps zs)(b:H tp=some (.tup [.int (z.1:Int),.int (z.2:Int)])) :
  PL (upd H l (.lst (ps.map V.ref++[.ref tp]))) l (ps++[tp]) (zs++[z]):=by
 refine⟨by rw[Ae,AtK];rfl,by rw[AtI,AtI,N.len];rfl,λi p y e1 e2=>?_⟩;have pl:H p=some (.tup [.int (y.1:Int),.int (y.2:Int)]):=by
  by_cases hi:i<ps.length
  ·rw[Auc hi] at e1;rw[Auc (by rw[<- N.len];exact hi)] at e2;exact N.at_ i p y e1 e2
  ·have a:=(zC.mp e1).1;rw[AtI] at a;have e:i=ps.length:=by have:[tp].length=1:=rfl;lia
   rw[e,AtZ (AtH _),Aux] at e1;rw[e,N.len,AtZ (AtH _),Aux] at e2;cases e1;cases e2;exact b
 rw[Aj (λe=>by rw[e,N.h] at pl;cases pl)];exact pl
theorem PL.get{ps:NU}(N:PL H l ps zs){z:Nat × Nat}(h:zs[i]?=some z):∃ p,(ps.map V.ref)[i]?=some (.ref p)/\H p=some (.tup [.int (z.1:Int),.int (z.2:Int)]):=by
 have hi:i<ps.length:=by rw[N.len];exact(zC.mp h).1
 exact⟨ps[i],by rw[AtQ,AtF hi];rfl,N.at_ i _ z (AtF hi) h⟩
theorem Aea{k:Nat}(h:k<=ks.length):Iv (vI ks) none (some (k:Int))=vI (ks.take k):=by unfold Iv;rw[HT.S7,HT.Gh,Avp,Bh,Aup h,AvB];unfold vI;rw[Au9]
theorem Ajj{k:Nat}(h:k<=ks.length):Iv (vI ks) (some (k:Int)) none=vI (ks.drop k):=by
 unfold Iv;have e1:HT.sIx (vI ks).length 0 (some (k:Int))=k:=by rw[HT.Gh,Bh,Aup h]
 have e2:HT.sIx (vI ks).length (vI ks).length none=(vI ks).length:=rfl;rw[e1,e2];unfold vI;rw[<- AuP];exact Auf (by simp_all)
inductive AnL (K:NF)(vs:Na)(H:Hp)(Q:VK)(z3:XK):Prop
|mk(a:Addr)(cl:NN)(m:Nat)(n:Nat)(_:vs=[.ref a])(_:SqL K H a (vS cl))(_:Cl cl m n)(_:∀ l H' ps dA dB,Aq H H'->H l=none->dA.Perm (eS cl m)->dB.Perm (pS cl)->dA.Pairwise (· ≥ ·)->dB.Pairwise (· ≥ ·)->PL H' l ps (Ig (Pz m n dA dB) n (m+1))->Q (.ref l) H')
theorem Aha(T:Txt K mg t):Bl P w K mg base CX0 5 t.Acr t.Acs ["cloth"] (AnL K):=by
 refine T.AhA.F.ok El ?_;rintro _ _ _ _ H _ Q E hr ⟨a,cl,m,n,rfl,hS,C,k⟩;have c2:=C.n40;have c4:=C.m40;have hsz:=z8;refine⟨_,(Ac (Ba (i:=1) El.nd Z (Or.inl Z) (Bg T.measured (Hq T) hr (Aa (pv 0) Ab)))
  (Ac (Ba (i:=2) El.nd Z (Or.inl Z) (Bg T.Wv (V3 T) hr (Aa (pv 0) Ab)))
  (Ac (Ba (i:=3) El.nd Z (Or.inl Z) (Afa (K:=K) Z T.PK (Cy (Ds (K:=K)) (pv 2) Ej (Cu (Az (BW (K:=K)) (pv 1) Af (λ_ _=>rfl))))))
  (Ac (Ba (i:=4) El.nd Z (Or.inl Z) (Afa (K:=K) Z T.PK (Cy (Ds (K:=K)) (pv 2) (Cu (Az (BW (K:=K)) (pv 1) Af (λ_ _=>rfl))) Ej)))
  (Ac (Ba (i:=5) El.nd Z (Or.inl Z) (Cp Ab))
  (Ac (BX PassesOwn.never Z (Ca Z T.Cq (Aa (Bx Ey (Az (BW (K:=K)) (pv 1) Af (λ_ _=>rfl)) Af) Ab)) (Bp (i:=6) El.nd Z (Or.inl Z))
   (Ad (BX PassesOwn.never Z (Ca Z T.Cq (Aa (Bx Ey (Az (BW (K:=K)) (pv 1) Af (λ_ _=>rfl)) Af) Ab)) (Bp (i:=7) El.nd Z (Or.inl Z))
    (Ac (Ba (i:=8) El.nd Z (Or.inl Z) (Bx G6 (Bx Ey (Bx NP (pv 6) (Az (BW (K:=K)) (pv 1) Af (λ_ _=>rfl))) (Bx NP (pv 7) (Az (BW (K:=K)) (pv 1) Af (λ_ _=>rfl)))) (Bx NP (pv 6) (pv 7))))
    (Ad (Bd (Ah Ci (Bx Ey (Ai (VM (K:=K)) Z T.AkM Agx (Aa (Cy (Ds (K:=K)) (pv 3) Ej (Cu (pv 6))) Ab)) (Ai (VM (K:=K)) Z T.AkM Agx (Aa (Cy (Ds (K:=K)) (pv 4) Ej (Cu (pv 7))) Ab))) (pv 8) (Ax _))
     (Ad (Bo (Bw (K:=K) zM zL zQ Cd (pv 5) (Aa (Ir (Aa (pv 6) (Aa (pv 7) Ab))) Ab))))
     Ao))))))
  (Ad (Ay (pv 5))))))))),?_⟩;refine⟨_,Z,a,cl,m,n,Z,hS,C,λp hp=>?_⟩;have s1:Aq H (upd H p (.tup [.int (m:Int),.int (n:Int)])):=.upd hp;have ae:(upd H p (.tup [.int (m:Int),.int (n:Int)])) p=some (.tup [.int (m:Int),.int (n:Int)]):=Ae;refine⟨_,Z,a,cl,m,n,Z,s1.seq hS,C,λlf H2 s2 an v=>?_⟩;have l:=s2 _ _ ae;have u2:=s1.trans s2;have A:(DX cl m).length=m+n:=by rw[Aaj,C.hn]
 refine⟨_,Z,_,Z,_,_,_,_,Z,Z,SqT.of l,Br (by decide) Z,_,Z,_,_,Z,SqL.of v,λN M=>?_⟩;rw[Aea (by exact Ar.l8 A),Afi];refine⟨_,_,Z,SqL.of Ae,(by rw[RG];exact Ar.g3 c4),λo dA pA B x=>?_⟩;have u3:Aq H (upd (upd H2 N (.lst (vI (eS cl m)))) o (.lst (vI dA))):=(u2.new M).new x;have R:Aq H2 (upd (upd H2 N (.lst (vI (eS cl m)))) o (.lst (vI dA))):=(Aq.upd M).new x;have y:(upd (upd H2 N (.lst (vI (eS cl m)))) o (.lst (vI dA))) o=some (.lst (vI dA)):=Ae;generalize ak:upd (upd H2 N (.lst (vI (eS cl m)))) o (.lst (vI dA))=S at u3 R y ⊢;refine⟨_,Z,_,Z,_,_,_,_,Z,Z,SqT.of (R _ _ l),Br (by decide) Z,_,Z,_,_,Z,SqL.of (R _ _ v),λX aj=>?_⟩;rw[Ajj (by exact Ar.l8 A),Afj];refine⟨_,_,Z,SqL.of Ae,(by rw[Adu,C.hn];exact Ar.g3 c2),λr dB pB Nu ac=>?_⟩;have W:Aq S (upd (upd S X (.lst (vI (pS cl)))) r (.lst (vI dB))):=(Aq.upd aj).new ac;have I:(upd (upd S X (.lst (vI (pS cl)))) r (.lst (vI dB))) r=some (.lst (vI dB)):=Ae;generalize al:upd (upd S X (.lst (vI (pS cl)))) r (.lst (vI dB))=H4 at W I ⊢;have u4:=u3.trans W;have f:=W _ _ (R _ _ l);have aa:=W _ _ y;have af:dA.length=m:=by rw[pA.length_eq,RG]
 have ab:dB.length=n:=by rw[pB.length_eq,Adu,C.hn]
 refine⟨AtR _,λlt c=>?_⟩;have ag:=u4.free c;have ai:PL (upd H4 lt (.lst [])) lt [] (Ig (Pz m n dA dB) n 0):=⟨Ae,Z,λi p z e=>by simp at e⟩;refine⟨_,Z,_,_,_,_,Z,Z,SqT.of ((Aq.upd c) _ _ f),Br (by decide) Z,_,_,Z,Z,_,Z,(by exact Ar.a7),(by exact Ar.a8 (Ar.j6 c4)),?_⟩;rw[show((m:Int)+1).toNat=m+1 by exact Ar.f1];refine Dw (λi σ D=>∃(ps:NU)(v6 s q:Option V),σ=[some (.ref a),some (.ref p),some (.ref lf),some (.ref o),some (.ref r),some (.ref lt),v6,s,q]/\Aq H4 D/\PL D lt ps (Ig (Pz m n dA dB) n i))
  ⟨[],none,none,none,Z,.upd c,ai⟩ ?_ ?_
 ·rintro i σ D hi ⟨ps,v6,s,q,rfl,U,N5⟩;refine⟨_,Z,_,_,_,_,Z,Z,SqT.of (U _ _ f),Br (by decide) Z,_,_,Z,Z,_,Z,(by exact Ar.a7),(by exact Ar.a8 (Ar.j6 c2)),?_⟩;refine Dw (λj σ d=>∃(ps:NU)(s q:Option V),σ=[some (.ref a),some (.ref p),some (.ref lf),some (.ref o),some (.ref r),some (.ref lt),some (.int (0+(i:Int))),s,q]/\Aq H4 d/\PL d lt ps (Ig (Pz m n dA dB) n i++Aak (Pz m n dA dB) i j))
   ⟨ps,s,q,Z,U,by rw[show Aak (Pz m n dA dB) i 0=[] from Z,Aum];exact N5⟩ ?_ ?_
  ·rintro j σ d hj ⟨b,w7,w8,rfl,u,O⟩;have L:=u _ _ f;refine⟨_,Z,_,Z,_,_,_,_,Z,Z,SqT.of L,Br (by decide) Z,_,_,Z,Z,.inl ⟨by lia,by lia⟩,_,Z,_,Z,_,_,_,_,Z,Z,SqT.of L,Br (by decide) Z,_,_,Z,Z,.inl ⟨by lia,by lia⟩,_,_,Z,Z,_,Z,_,Z,_,_,Z,Z,.inl ⟨by omega,by omega⟩,_,_,Z,Z,?_⟩;refine⟨_,Z,_,Z,_,Z,_,_,Z,SqL.of (u _ _ aa),λc1 a6=>?_⟩;rw[show(0:Int)+(i:Int)=(i:Int) by omega,Aea (by exact Ar.b5 af (Ar.j7 hi))];refine⟨_,_,Z,SqL.of Ae,?_⟩;have s7:Aq d (upd d c1 (.lst (vI (dA.take i)))):=.upd a6;refine⟨_,Z,_,Z,_,Z,_,_,Z,SqL.of (s7 _ _ (u _ _ I)),λc2 Y=>?_⟩;rw[show(0:Int)+(j:Int)=(j:Int) by omega,Aea (by exact Ar.b5 ab (Ar.j7 hj))];have s8:Aq d (upd (upd d c1 (.lst (vI (dA.take i)))) c2 (.lst (vI (dB.take j)))):=s7.new Y;refine⟨_,_,Z,SqL.of Ae,_,_,Z,Z,_,Z,Z,_,Z,?_⟩;have J:=O.same s8;have u8:=u.trans s8;generalize am:upd (upd d c1 (.lst (vI (dA.take i)))) c2 (.lst (vI (dB.take j)))=H8 at s8 J u8 ⊢;have a0:(b.map V.ref).length<sizeLine:=by
    have N:=Aal (Pz m n dA dB) n i;have X:=Afh (Pz m n dA dB) i j;have q3:i*(n+1)<=41*41:=Av0 (by exact Ar.g5 (Ar.j7 hi) c4) (by lia);have q4:=O.len;grind
   refine Dj (λh=>?_) (λh=>?_)
   ·have hz:Pz m n dA dB i j=true:=by exact zN (V.int.inj h)
    refine⟨_,Z,.inl ⟨Z,_,SqL.of J.h⟩,_,Z,_,Z,(by grind),λtp ah=>?_⟩;have s9:Aq H8 (upd H8 tp (.tup [.int (i:Int),.int (j:Int)])):=.upd ah;refine⟨_,_,_,Z,Z,s9 _ _ J.h,a0,?_⟩;refine⟨b++[tp],_,_,Z,(u8.trans s9).over c,?_⟩;rw[Wj,if_pos hz,<- Auk];exact(J.same s9).app Ae
   ·have hz:¬Pz m n dA dB i j=true:=λz=>h (congrArg V.int (of_decide_eq_true z));refine⟨b,_,_,Z,u8,?_⟩;rw[Wj,if_neg hz,Aum];exact J
  ·rintro σ d ⟨b,w7,w8,rfl,u,O⟩;exact⟨b,_,_,_,Z,u,by rw[Wl];exact O⟩
 ·rintro σ D ⟨ps,v6,s,q,rfl,U,N5⟩;exact⟨_,Z,k lt D ps dA dB (u4.trans U) ag pA pB B Nu N5⟩
theorem AlA{i j:Int}(a:0<=i)(h1:i<=j)(h2:j<=ks.length):Iv (vI ks) (some i) (some j)=vI ((ks.drop i.toNat).take (j.toNat-i.toNat)):=by
 unfold Iv;have e1:HT.sIx (vI ks).length 0 (some i)=i.toNat:=by
  show(if i<0 then _ else _)=_;rw[Bh];lia
 have e2:HT.sIx (vI ks).length (vI ks).length (some j)=j.toNat:=by
  show(if j<0 then _ else _)=_;rw[Bh];lia
 rw[e1,e2];unfold vI;rw[<- AuP,<- Au9]
theorem AcL{ps:NU}{k:Nat}(h:k<=ps.length):Iv (ps.map V.ref) (some (k:Int)) none=(ps.drop k).map V.ref:=by
 unfold Iv;have e1:HT.sIx (ps.map V.ref).length 0 (some (k:Int))=k:=by rw[HT.Gh,AtG,Aup h]
 have e2:HT.sIx (ps.map V.ref).length (ps.map V.ref).length none=(ps.map V.ref).length:=rfl;rw[e1,e2,<- AuP];exact Auf (by simp_all)
theorem AhQ{lo:Nat}(h:lo+n<=1000):Builtin.Range.rangeSize (lo:Int) ((lo+n:Nat):Int) 1=(n:Int)/\Builtin.Range.small (lo:Int) ((lo+n:Nat):Int) 1=true:=by
 have rs:Builtin.Range.rangeSize (lo:Int) ((lo+n:Nat):Int) 1=(n:Int):=by
  unfold Builtin.Range.rangeSize;grind
 refine⟨rs,?_⟩;have fits:∀{z:Int},-1000000<=z->z<=1000000->Builtin.Range.rangeFitsLong z=true:=λ{z} h1 h2=>by
  unfold Builtin.Range.rangeFitsLong;grind
 unfold Builtin.Range.small;grind
theorem AhR(lo n:Nat):Ia (lo:Int) 1 n=(List.range n).map (cQ lo):=by unfold Ia cQ;grind
theorem Ao8(C:Cl cl m n){k:Nat}(h:k<m):(DX cl m).getD (cQ 0 k).toNat 0=((aS (upC cl) n k:Nat):Int):=by
 have e:(cQ 0 k).toNat=k:=by unfold cQ;exact Ar.m2
 have a:=RG cl m;rw[e];show((eS cl m++pS cl)[k]?).getD 0=_;rw[Auc (by exact Ar.b3 a h),Ahy C,AtQ,Au3 h];rfl
theorem Ao9(C:Cl cl m n){k:Nat}(h:k<n):(DX cl m).getD (cQ m k).toNat 0=((bS (upC cl) m k:Nat):Int):=by have a:=RG cl m;show((eS cl m++pS cl)[m+k]?).getD 0=_;rw[AtZ (by exact Ar.e2 (Ar.d2 a)),Ahz C,a,AvM,AtQ,Au3 h];rfl
theorem Asc(C:Cl cl m n)(p1:n1.Perm (Ia 0 1 m))
  (b:n1.Pairwise (λx y => -((DX cl m).getD x.toNat 0) < -((DX cl m).getD y.toNat 0)\/(-((DX cl m).getD x.toNat 0) = -((DX cl m).getD y.toNat 0)/\x<y))):∃ eo,Ord (aS (upC cl) n) m eo/\n1=eo.map (cQ 0):=by
 have a:n1.Perm ((List.range m).map (cQ 0)):=by rw[<- AhR];exact p1
 obtain⟨eo,p,e⟩:=Tp a _ Z;refine⟨eo,⟨p,?_⟩,e⟩;rw[e,AuI] at b;refine b.imp_of_mem λ{x y} c d h=>?_;rw[Ao8 C (yE.mp (p.mem_iff.mp c)),Ao8 C (yE.mp (p.mem_iff.mp d))] at h;unfold cQ at h;lia
theorem Asd(C:Cl cl m n)(p1:n1.Perm (Ia (m:Int) 1 n))
  (b:n1.Pairwise (λx y => -((DX cl m).getD x.toNat 0) < -((DX cl m).getD y.toNat 0)\/(-((DX cl m).getD x.toNat 0) = -((DX cl m).getD y.toNat 0)/\x<y))):∃ po,Ord (bS (upC cl) m) n po/\n1=po.map (cQ m):=by
 have a:n1.Perm ((List.range n).map (cQ m)):=by rw[<- AhR];exact p1
 obtain⟨po,p,e⟩:=Tp a _ Z;refine⟨po,⟨p,?_⟩,e⟩;rw[e,AuI] at b;refine b.imp_of_mem λ{x y} c d h=>?_;rw[Ao9 C (yE.mp (p.mem_iff.mp c)),Ao9 C (yE.mp (p.mem_iff.mp d))] at h;unfold cQ at h;lia
theorem Zx{key:Nat->Nat}{l:NI}(o:Ord key N l):(l.map λe=>((key e:Nat):Int)).Pairwise (· ≥ ·):=by rw[AuI];exact o.ord.imp λ{x y} h=>by lia
theorem lay_of(C:Cl cl m n)(j:dA.Perm (eS cl m))(h:dB.Perm (pS cl))(c:dA.Pairwise (· ≥ ·))(f:dB.Pairwise (· ≥ ·))
  (e:Ord (aS (upC cl) n) m eo) (d:Ord (bS (upC cl) m) n po)  (len:tss.length+1=(Ig (Pz m n dA dB) n (m+1)).length)
  (lay:∀(i:Nat)(a b:Nat × Nat)(t:NA),(Ig (Pz m n dA dB) n (m+1))[i]?=some a->(Ig (Pz m n dA dB) n (m+1))[i+1]?=some b->tss[i]?=some t ->
   t.Perm (((eo.drop a.1).take (b.1-a.1)).map (cQ 0)++((po.drop a.2).take (b.2-a.2)).map (cQ m))/\t.Pairwise (·<=·)):Lay (upC cl) m n tss (Ig (Pz m n dA dB) n (m+1)) eo po:=by
 have tp:=Tps.of (Aot C j h c f) C.m1;have q:=Ol (j.trans (by rw[Ahy C];exact(e.perm.map _).symm)) c (Zx e);have r:=Ol (h.trans (by rw[Ahz C];exact(d.perm.map _).symm)) f (Zx d);refine⟨e,d,tp.fst,tp.lst,tp.in_,λi a b ea o=>?_,λi a ea=>?_,len,lay⟩
 ·obtain⟨h1,h2,h3,_⟩:=tp.stp i a b ea o;exact⟨h1,h2,h3⟩
 ·have l:=(IV.mp (AtN ea)).2.2;have p:=of_decide_eq_true l;rw[q,r,<- Au9,<- Au9,Ie,Ie] at p;lia
theorem AoA:(("layers_of" : Str) ++ ".<locals>.") ++ "<lambda>" = "layers_of.<locals>.<lambda>" := by decide +kernel
inductive Ajk (K:NF)(tT:Addr)(vs:Na)(H:Hp)(Q:VK)(z3:XK):Prop
|mk(a:Addr)(cl:NN)(m:Nat)(n:Nat)(_:vs=[.ref a])(_:SqL K H a (vS cl))(_:Cl cl m n)(_:m+n<64)(_:Tb tT "layers_of.<locals>.<lambda>" H)(_:∀ l H' rs tss dA dB eo po,Eo H H'->Tb tT "layers_of.<locals>.<lambda>" H'->dA.Perm (eS cl m)->dB.Perm (pS cl)->dA.Pairwise (· ≥ ·)->dB.Pairwise (· ≥ ·)->Lay (upC cl) m n tss (Ig (Pz m n dA dB) n (m+1)) eo po->NL H' l rs tss->Q (.ref l) H')
theorem Aeb(T:Txt K mg t)(bu:t.DQ.code=.ref tc)(ao:W.CodeHd base tc tT)(ae:Bm mg base):Bl P w K mg base CX0 6 t.OJ t.DQ ["cloth"] (Ajk K tT):=by
 refine T.Ww.F.okC bu Dp (λvs H Q E h=>?_) (λA outer s H vs Q E B h=>?_)
 ·obtain⟨a,cl,m,n,rfl,_⟩:=h;rfl
 ·obtain⟨a,cl,m,n,rfl,hS,C,bx,tb,k⟩:=h;have c2:=C.n40;have O:=C.m40;have hsz:=z8;refine⟨_,(Ac (Ba (i:=1) Dp.nd Z (Or.inl Z) (Bg T.measured (Hq T) B (Aa (pv 0) Ab)))
   (Ac (Ba (i:=2) Dp.nd Z (Or.inr Z) (Bg T.Wv (V3 T) B (Aa (pv 0) Ab)))
   (Ac (Ba (i:=3) Dp.nd Z (Or.inl Z) (Aar (K:=K) (j:=2) Z T.PK (Cw Ai3 Z T.Cq SQ (Aa (Az (BW (K:=K)) (pv 1) Af (λ_ _=>rfl)) Ab)) ao ae (B.mono (by decide)) Z AoA))
   (Ac (Ba (i:=4) Dp.nd Z (Or.inl Z) (Aar (K:=K) (j:=2) Z T.PK (Cw AbZ Z T.Cq SQ (Aa (Az (BW (K:=K)) (pv 1) Af (λ_ _=>rfl)) (Aa (Ai (Ak) Z T.BJ Bj (Aa (pv 2) Ab)) Ab))) ao ae (B.mono (by decide)) Z AoA))
   (Ac (Ba (i:=5) Dp.nd Z (Or.inl Z) (Bg T.AhA (Aha T) B (Aa (pv 0) Ab)))
   (Ac (Ba (i:=6) Dp.nd Z (Or.inl Z) (Cp Ab))
   (Ac (BX PassesOwn.never Z (Adm (K:=K) Z T.AkN (Aa (pv 5) (Aa (Cy (Ds (K:=K)) (pv 5) (Cu Af) Ej) Ab))) (NB Z (CW (Bp (i:=7) Dp.nd Z (Or.inl Z)) (CW (Bp (i:=8) Dp.nd Z (Or.inl Z)) HS)))
    (Ad (Bo (Bw (K:=K) zM zL zQ Cd (pv 6) (Aa (Ai (Ag7 (K:=K)) Z T.PK VJ (Aa (Bx AjI (Cy (Ds (K:=K)) (pv 3) (Cu (Az (BW (K:=K)) (pv 7) Af (λ_ _=>rfl))) (Cu (Az (BW (K:=K)) (pv 8) Af (λ_ _=>rfl)))) (Cy (Ds (K:=K)) (pv 4) (Cu (Az (BW (K:=K)) (pv 7) Af (λ_ _=>rfl))) (Cu (Az (BW (K:=K)) (pv 8) Af (λ_ _=>rfl))))) Ab)) Ab)))))
   (Ad (Ay (pv 6)))))))))),?_⟩;refine⟨_,Z,a,cl,m,n,Z,hS,C,λp hp=>?_⟩;have s1:Aq H (upd H p (.tup [.int (m:Int),.int (n:Int)])):=.upd hp;have bv:(upd H p (.tup [.int (m:Int),.int (n:Int)])) p=some (.tup [.int (m:Int),.int (n:Int)]):=Ae;refine⟨_,Z,a,cl,m,n,Z,s1.seq hS,C,λlf H2 s2 ce ai=>?_⟩;have a6:=s2 _ _ bv;have u2:=s1.trans s2;have c6:=tb.same u2;have al:(DX cl m).length=m+n:=by rw[Aaj,C.hn]
  refine⟨_,Z,_,_,_,_,Z,Z,SqT.of a6,Br (by decide) Z,_,Z,λpr bt=>?_⟩;have s3:Aq H2 (upd H2 pr (AeD pr 0 (m:Int) 1)):=.upd bt;obtain⟨r1,r2⟩:=AhQ (lo:=0) (n:=m) (by lia);rw[Avs] at r1 r2;refine⟨pr,0,(m:Int),m,lf,DX cl m,Z,Ae,r2,r1,(by exact Ar.g3 O),Z,SqL.of (s3 _ _ ai),by decide,(by grind),c6.same s3,λl1 H3 n1 t3 bp cd bc p1 w1=>?_⟩;have v3:=s3.toT.trans t3;have bg:=v3.tup a6;have aa:=v3.lst ai;refine⟨_,Z,_,_,_,_,Z,Z,SqT.of bg,Br (by decide) Z,_,Z,_,_,Z,.inl (SqL.of aa),_,_,Z,λX ax=>?_⟩;rw[Bh,al];have s4:Aq H3 (upd H3 X (AeD X (m:Int) ((m+n:Nat):Int) 1)):=.upd ax;obtain⟨q1,q2⟩:=AhQ (lo:=m) (n:=n) (by exact Ar.g2 bx);refine⟨X,(m:Int),((m+n:Nat):Int),n,lf,DX cl m,Z,Ae,q2,q1,(by exact Ar.g3 c2),Z,SqL.of (s4 _ _ aa),by exact Ar.a9,(by exact Ar.d3 al),bp.same s4,λl2 H4 n2 t4 ca cf b9 p2 w2=>?_⟩;have v4:=s4.toT.trans t4;have x4:=u2.toT.trans (v3.trans v4);have bh:=v4.lst bc;obtain⟨eo,oE,rfl⟩:=Asc C p1 w1;obtain⟨po,oP,rfl⟩:=Asd C p2 w2;refine⟨_,Z,a,cl,m,n,Z,x4.seq hS,C,λlt H5 ps dA dB s5 cg pA pB d Nu N=>?_⟩;have tp:=Tps.of (Aot C pA pB d Nu) C.m1;have x5:=x4.trans s5.toT;have b0:=ca.same s5;have bf:=s5 _ _ bh;have bn:=s5 _ _ b9;have bi:(Ig (Pz m n dA dB) n (m+1)).length<=41*41:=by
   have q1:=Aal (Pz m n dA dB) n (m+1);have q3:(m+1)*(n+1)<=41*41:=Av0 (by exact Ar.f4 O) (by exact Ar.f4 c2);exact Ar.b8 q1 q3
  have ah:=λ(tss:NV)=>lay_of (tss:=tss) C pA pB d Nu oE oP;generalize bq:Ig (Pz m n dA dB) n (m+1)=zs at N tp bi ah;refine⟨AtR _,λf aq=>?_⟩;have s6:Aq H5 (upd H5 f (.lst [])):=.upd aq;have N6:=N.same s6;refine⟨_,Z,_,Z,_,Z,_,_,Z,SqL.of N6.h,λlc J=>?_⟩;have s7:=s6.new J (o:=.lst (Iv (ps.map V.ref) (some 1) none));have ct:Iv (ps.map V.ref) (some 1) none=(ps.drop 1).map V.ref:=by
   have:= AcL (k:=1) (by rw[N.len];have:= tp.two;exact Ar.c3 this);exact this
  rw[ct] at s7 ⊢;have N7:=N.same s7;have as:(upd (upd H5 f (.lst [])) lc (.lst ((ps.drop 1).map V.ref))) lc=some (.lst ((ps.drop 1).map V.ref)):=Ae;have lne:f≠lc:=λe=>by rw[<- e,Ae] at J;cases J
  have br:(upd (upd H5 f (.lst [])) lc (.lst ((ps.drop 1).map V.ref))) f=some (.lst []):=by rw[Aj lne];exact Ae
  have cc:=N.len;refine⟨.l _,.l _,Z,trivial,⟨_,SqL.of N7.h⟩,⟨_,SqL.of as⟩,AkI (n:=zs.length-1) (by grind)
   (λi σ I=>∃(rs:NU)(tss:NV)(v7 v8:Option V),σ=[some (.ref a),some (.ref p),some (.ref lf),some (.ref l1),some (.ref l2),some (.ref lt),some (.ref f),v7,v8]/\Aq H5 I/\I lc=some (.lst ((ps.drop 1).map V.ref))/\lc≠f/\NL I f rs tss/\rs.length=i/\(∀ r∈rs,r≠f) /\
    ∀(j:Nat)(x y:Nat × Nat)(t:NA),zs[j]?=some x->zs[j+1]?=some y->tss[j]?=some t->t.Perm (((eo.drop x.1).take (y.1-x.1)).map (cQ 0)++((po.drop x.2).take (y.2-x.2)).map (cQ m))/\t.Pairwise (·<=·))
   ⟨[],[],none,none,Z,s7,as,Ne.symm lne,⟨br,Z,λi a ks e=>by simp at e⟩,Z,λr B=>by simp at B,λj x y t _ _ e=>by simp at e⟩ (λi σ I ⟨_,_,_,_,_,s8,U,_⟩=>⟨SqL.of (s8 _ _ N.h),SqL.of U⟩) ?_ ?_⟩
  ·rintro i x y σ I T8 hx hy ⟨rs,tss,v7,v8,rfl,s8,U,av,L,rl,S,ly⟩ nT;have hi:i+1<zs.length:=by
    grind
   have ex:=AtF (l:=zs) (i:=i) (by exact Ar.c3 hi);have ey:=AtF hi;obtain⟨px,b7,ab⟩:=N.get ex;obtain⟨py,ba,aw⟩:=N.get ey;rw[b7] at hx;cases hx;have ap:(ps.map V.ref)[i+1]?=some y:=by
    rw[AuP,AuF,Nat.add_comm 1 i] at hy;exact hy
   rw[ba] at ap;cases ap;obtain⟨Y,R,af,_⟩:=tp.stp i _ _ ex ey;obtain⟨an,ak⟩:=tp.in_ _ _ ey;have s9:Aq H5 (upd I T8 (.tup [.ref px,.ref py])):=s8.new nT;have D:=s9 _ _ ab;have v:=s9 _ _ aw;have N9:=L.same (Aq.upd nT (o:=.tup [.ref px,.ref py]));have ag:=(Aq.upd nT (o:=.tup [.ref px,.ref py])) _ _ U;refine⟨_,_,Z,SqT.of Ae,Z,_,_,Z,_,_,Z,Z,?_⟩;generalize upd I T8 (.tup [.ref px,.ref py])=H9 at s9 D v N9 ag ⊢;have bo:=oE.len;have ay:=oP.len;generalize zs[i]=b at ex D Y R af ab ⊢;generalize zs[i+1]=c at ey v Y R af an ak aw ⊢;refine⟨_,Z,.inl ⟨Z,_,SqL.of N9.h⟩,_,Z,_,Z,_,_,_,_,Z,Z,SqT.of D,Br (by decide) Z,_,Z,_,Z,_,_,_,_,Z,Z,SqT.of v,Br (by decide) Z,_,Z,_,_,Z,SqL.of (s9 _ _ bf),λc1 bb=>?_⟩;rw[AlA (by exact Ar.a9) (by exact Ar.j3 Y) (by rw[AtG,bo];exact Ar.j3 an)];rw[show((b.1:Nat):Int).toNat=b.1 by exact Ar.f1,show((c.1:Nat):Int).toNat=c.1 by exact Ar.f1,<- AuP,<- Au9];obtain⟨cb,e9,u,c0⟩:=nu9 (o:=.lst (vI (((eo.drop b.1).take (c.1-b.1)).map (cQ 0)))) (.refl _) bb;rw[e9];refine⟨_,Z,_,Z,_,_,_,_,Z,Z,SqT.of (u _ _ D),Br (by decide) Z,_,Z,_,Z,_,_,_,_,Z,Z,SqT.of (u _ _ v),Br (by decide) Z,_,Z,_,_,Z,SqL.of (u _ _ (s9 _ _ bn)),λc2 bz=>?_⟩;rw[AlA (by exact Ar.a9) (by exact Ar.j3 R) (by rw[AtG,ay];exact Ar.j3 ak)];rw[show((b.2:Nat):Int).toNat=b.2 by exact Ar.f1,show((c.2:Nat):Int).toNat=c.2 by exact Ar.f1,<- AuP,<- Au9];obtain⟨az,e9,aj,bm⟩:=nu9 (o:=.lst (vI (((po.drop b.2).take (c.2-b.2)).map (cQ m)))) (.refl _) bz;rw[e9];have b6:(((eo.drop b.1).take (c.1-b.1)).map (cQ 0)).length=c.1-b.1:=by grind
   have AnJ:(((po.drop b.2).take (c.2-b.2)).map (cQ m)).length=c.2-b.2:=by grind
   refine⟨_,_,_,_,Z,Z,aj _ _ c0,bm,(by rw[Bh,Bh,b6,AnJ];lia),λc3 be=>?_⟩;have bd:vI (((eo.drop b.1).take (c.1-b.1)).map (cQ 0))++vI (((po.drop b.2).take (c.2-b.2)).map (cQ m))=vI (((eo.drop b.1).take (c.1-b.1)).map (cQ 0)++((po.drop b.2).take (c.2-b.2)).map (cQ m)):=by unfold vI;rw[AtK]
   rw[bd];have au:=aj.new be (o:=.lst (vI (((eo.drop b.1).take (c.1-b.1)).map (cQ 0)++((po.drop b.2).take (c.2-b.2)).map (cQ m))));refine⟨_,_,Z,SqL.of Ae,(by grind),λO q p4 w4 ar=>?_⟩;have M:=(u.trans au).new ar (o:=.lst (vI q));have ac:=N9.same M;have bl:(upd (upd az c3 (.lst (vI (((eo.drop b.1).take (c.1-b.1)).map (cQ 0)++((po.drop b.2).take (c.2-b.2)).map (cQ m))))) O (.lst (vI q))) O=some (.lst (vI q)):=Ae;have bj:=M _ _ ag;have b4:=s9.trans M;have am:O≠f:=λe=>by
    have z:=(u.trans au) _ _ N9.h;rw[<- e,ar] at z;cases z
   refine⟨_,_,_,Z,Z,ac.h,(by grind),?_⟩;have tl:tss.length=i:=by rw[<- L.l,rl]
   refine⟨rs++[O],tss++[q],_,_,Z,b4.over aq,by rw[Aj av];exact bj,av,⟨by rw[Ae,AtK];rfl,by simp_all,λj r ks e1 e2=>?_⟩,by rw[AtI,rl];rfl,λr B=>?_,λj x y t e1 e2 e3=>?_⟩
   ·by_cases hj:j<rs.length
    ·rw[Auc hj] at e1;rw[Auc (by rw[<- L.l];exact hj)] at e2;rw[Aj (S r (AtN e1))];exact ac.r j r ks e1 e2
    ·have a0:=(zC.mp e1).1;rw[AtI] at a0;have ej:j=rs.length:=by grind
     rw[ej,AtZ (AtH _),Aux] at e1;rw[ej,L.l,AtZ (AtH _),Aux] at e2;cases e1;cases e2;rw[Aj am];exact bl
   ·rcases zG.mp B with h | h
    ·exact S r h
    ·rw[zF.mp h];exact am
   ·by_cases hj:j<tss.length
    ·rw[Auc hj] at e3;exact ly j x y t e1 e2 e3
    ·have a0:=(zC.mp e3).1;rw[AtI] at a0;have ej:j=tss.length:=by have:[q].length=1:=rfl;lia
     rw[ej,AtZ (AtH _),Aux] at e3;cases e3;rw[ej,tl] at e1 e2;rw[ex] at e1;rw[ey] at e2;cases e1;cases e2;exact⟨p4,w4⟩
  ·rintro σ I ⟨rs,tss,v7,v8,rfl,s8,_,_,L,rl,S,ly⟩;have h2:=tp.two;refine⟨_,Z,k f I rs tss dA dB eo po (x5.trans s8.toT) (b0.same s8) pA pB d Nu ?_ L⟩;rw[bq];exact ah tss (by rw[<- L.l,rl];exact Ar.c7 h2) ly
theorem Lay.AlB{up:Nat->Nat->Bool}(L:Lay up m n tss zs eo po):tss.flatten.length=m+n:=by rw[L.all.length_eq,AtG,AtO]
theorem AfR:∀(tss:NV),(∀ t∈tss,0<t.length)->tss.length<=tss.flatten.length
 | [],_=>AtH _
 | t::r,h=>by
  have:= h t AtJ;have:= AfR r λx a=>h x (AtL _ a);grind
theorem Lay.few{up:Nat->Nat->Bool}(L:Lay up m n tss zs eo po):tss.length<=m+n:=by rw[<- L.AlB];refine AfR tss λt a=>?_;obtain⟨i,hi,e⟩:=Aus a;rw[<- e];exact L.ne hi
theorem AlC:∀{tss:NV} {i:Nat} (hi:i<tss.length),tss[i].length<=tss.flatten.length
 | t::r,0,_=>by simp_all
 | t::r,i+1,hi=>by
  have a:i<r.length:=by simpa using hi
  have:= AlC a;grind
inductive AlD (vs:Na)(H:Hp)(Q:VK)(z3:XK):Prop
|mk(a:Int)(b:Int)(_:vs=[.int a,.int b])(_:0<=a)(_:a<b)(_:Q .non H)
theorem Zf(T:Txt K mg t):Bl P w K mg base CX0 1 t.O7 t.O8 ["number", "count"] AlD:=by
 refine T.Ve.F.ok YM ?_;rintro _ _ _ _ H _ Q E c ⟨a,b,rfl,h1,h2,k1⟩;refine⟨_,(Ad (Bd (PW.pt (pw_or (Ah Ge (pv 0) Af (Ax _)) (pw_or1 (Ah Z3 (pv 0) (pv 1) (Ax _)))))
   (Ad Bc)
   Ao)),?_⟩;refine⟨_,Z,_,_,Z,Z,_,Z,?_⟩;refine CZ (by exact Ar.e7 h1) ?_;refine⟨_,Z,_,Z,_,_,Z,Z,_,Z,?_⟩;exact CZ (by exact Ar.e6 h2) k1
inductive AnO (K:NF)(vs:Na)(H:Hp)(Q:VK)(z3:XK):Prop
|mk(b:Addr)(ks:NA)(N:Int)(_:vs=[.ref b,.int N])(_:SqL K H b (vI ks))(_:ks.length<=1000)(_:Ah4 N ks)(_:Q .non H)
theorem Aec(T:Txt K mg t):Bl P w K mg base CX0 2 t.Yp t.Yq ["strands", "count"] (AnO K):=by
 refine T.Ac4.F.ok Uc ?_;rintro _ _ _ _ H _ Q E h ⟨b,ks,N,rfl,c,j,gs,k1⟩;refine⟨_,(Ac (Bd (CQ (Ip (K:=K) (pv 0) (λ_=>rfl)))
   (Ad Bc)
   Ao)
  (Ad (BX PassesOwn.never Z (Ca Z T.Cq (Aa (Ai (Ak (K:=K)) Z T.BJ Bj (Aa (pv 0) Ab)) Ab)) (Bp (i:=2) Uc.nd Z (Or.inl Z))
   (Ac (Bo (Bg T.Ve (Zf T) h (Aa (Az (Aw (K:=K)) (pv 0) (pv 2) (λ_ _=>rfl)) (Aa (pv 1) Ab))))
   (Ad (Bd (PW.pt (pw_and (Ah HF (pv 2) Af (Ax _)) (pw_and1 (Ah Aj7 (Az (Aw (K:=K)) (pv 0) (pv 2) (λ_ _=>rfl)) (Az (Aw (K:=K)) (pv 0) (Bx G6 (pv 2) Af) (λ_ _=>rfl)) (Ax _)))))
    (Ad Bc)
    Ao)))))),?_⟩;refine⟨_,Z,_,.inl ⟨_,c,Z⟩,?_⟩;have e1:(vI ks).isEmpty=false:=by
  cases ks with
  | nil=>exact absurd Z gs.1
  | cons a r=>rfl
 rw[e1];refine⟨_,Z,_,_,Z,.inl c,_,Z,(by exact Ar.a7),(by rw[Bh];lia),?_⟩;rw[Auh,Bh];refine Dw (λi σ H2=>∃ v,σ=[some (.ref b),some (.int N),v]/\H2=H) ⟨none,Z,Z⟩ ?_ ?_
 ·rintro i σ H2 hi ⟨v,rfl,rfl⟩;have e1:atI (vI ks) (0+(i:Int))=some (.int ks[i]):=Br (by exact Ar.a5) (by rw[z0];exact Fw (AtF hi));have e:=gs.2.2 _ (AtT hi);refine⟨_,Z,_,Z,_,_,_,_,Z,Z,c,e1,_,Z,ks[i],N,Z,e.1,e.2,?_⟩;refine⟨_,Z,_,_,Z,Z,_,Z,?_⟩;by_cases f:i=0
  ·subst f;exact Iz ⟨_,Z,Z⟩
  ·have d:i-1<ks.length:=by exact Ar.c5 hi
   have e2:atI (vI ks) (0+(i:Int)-1)=some (.int ks[i-1]):=Br (by lia) (by rw[show(0+(i:Int)-1).toNat=i-1 by omega];exact Fw (AtF d));refine Jx (by lia) ?_;refine⟨_,Z,_,Z,_,_,_,_,Z,Z,c,e1,_,Z,_,Z,_,_,Z,Z,_,_,_,_,Z,Z,c,e2,_,_,Z,Z,_,Z,?_⟩;have:= gs.2.1 (i-1) ks[i-1] ks[i] (AtF d) (by rw[show i-1+1=i by exact Ar.c8 f];exact AtF hi);exact CZ (by exact Ar.e6 this) ⟨_,Z,Z⟩
 ·simp_all
theorem Aqp(c:Nat):(!decide ((V.str ⟨#[c]⟩:V)=V.str "."))=decide (c≠46):=by
 by_cases h:c=46
 ·subst h;rfl
 ·rw[zJ (λz=>h (AfF.mp (z.trans e46.symm))),zN h];rfl
theorem Aqq(c:Nat):(!decide ((V.str ⟨#[c]⟩:V)=V.str "#"))=decide (c≠35):=by
 by_cases h:c=35
 ·subst h;rfl
 ·rw[zJ (λz=>h (AfF.mp (z.trans e35.symm))),zN h];rfl
theorem NL.grow(N:NL H y rs tss)(m:H l=none):NL (upd (upd H l (.lst (vI ks))) y (.lst (rs.map V.ref++[.ref l]))) y (rs++[l]) (tss++[ks]):=by
 have f:l≠y:=λe=>by rw[e,N.h] at m;cases m
 refine⟨by rw[AtK];exact Ae,by rw[AtI,AtI,N.l];rfl,λi a b h1 h2=>?_⟩;by_cases hi:i<rs.length
 ·rw[Auc hi] at h1;rw[Auc (by rw[<- N.l];exact hi)] at h2;have d:=N.r i a b h1 h2;have j:a≠y:=λe=>by
   rw[e,N.h] at d;have e2:rs.map V.ref=vI b:=by injection d with d;injection d
   have o:0<rs.length:=by exact Ar.d1 hi
   have n:(rs.map V.ref)[0]?=some (.ref rs[0]):=by rw[AtQ,AtF o];rfl
   rw[e2] at n;obtain⟨z,_,e3⟩:=Ek n;cases e3
  rw[Aj j];exact(Aq.upd m) _ _ d
 ·rw[AtZ (by exact Ar.a1 hi)] at h1;rw[AtZ (by rw[<- N.l];exact Ar.a1 hi)] at h2;have c:i-rs.length=0:=by
   have:= (zC.mp h1).1;simp at this;exact Ar.h3 this
  rw[c] at h1;rw[show i-tss.length=0 by rw[<- N.l];exact c] at h2;have e1:l=a:=by simpa using h1
  have e2:ks=b:=by simpa using h2
  rw[<- e1,<- e2,Aj f];exact Ae
theorem AlE(C:Cl cl m n)(b:p<n):atI (vS cl) (0+(p:Int))=some (.str (tx (cl.getD p [])))/\(cl.getD p []).length=m:=by
 have a:p<cl.length:=by rw[C.hn];exact b
 have e:cl.getD p []=cl[p]:=by rw[AtY,AtF a];rfl
 rw[e];exact⟨Br (by exact Ar.a5) (by rw[z0];exact ZM (AtF a)),C.hm _ (AtT a)⟩
theorem Abt(h:e<u.length):atI (tx u).cps.toList (0+(e:Int))=some (u.getD e 0):=Br (by exact Ar.a5) (by
 rw[z0,GR,AtY,AtF h];rfl)
inductive AlF (K:NF)(vs:Na)(H:Hp)(Q:VK)(z3:XK):Prop
|mk(a:Addr)(cl:NN)(m:Nat)(n:Nat)(_:vs=[.ref a])(_:SqL K H a (vS cl))(_:Cl cl m n)(_:∀(y:Addr)(rs:NU)(H':Hp),Aq H H'->NL H' y rs (lows cl m)->Q (.ref y) H')
theorem WT(T:Txt K mg t):Bl P w K mg base CX0 1 t.Nh t.Ni ["texts"] (AlF K):=by
 refine T.Rr.F.ok Dc ?_;rintro _ _ _ _ H _ Q E X ⟨a,cl,m,n,rfl,B,C,k⟩;have hsz:=z8;have c1:=C.n1;have c2:=C.n40;have z:=C.m40;have A:(vS cl).length=n:=by rw[Bt,C.hn]
 have O:0<cl.length:=by rw[C.hn];exact Ar.c5 c1
 have v:=C.hm cl[0] (AtT O);refine⟨_,(Ac (Ba (i:=1) Dc.nd Z (Or.inr Z) (Ai Bs Z T.BJ Bj (Aa (Az (Aw) (pv 0) Af (λ_ _=>rfl)) Ab)))
  (Ac (Ba (i:=2) Dc.nd Z (Or.inl Z) (Cp Ab))
  (Ac (BX PassesOwn.never Z (Ca Z T.Cq (Aa (pv 1) Ab)) (Bp (i:=3) Dc.nd Z (Or.inr Z))
   (Ad (Bo (Bw (K:=K) zM zL zQ Cd (pv 2) (Aa (Cg (cok [0,1,3] ["pick", "texts", "ends", "end"] Dc) Z (Ca Z T.Cq (Aa (Ai (Ak (K:=K)) Z T.BJ Bj (Aa (pv 0) Ab)) Ab)) (λ_ _ _ _ _=>.one (Ah G5 (Az Hs (Az (Aw) (pv 1) (pv 0) (λ_ _=>rfl)) (pv 3) (λ_ _=>rfl)) Av (Ax _))) (λ_ _ _ _ _=>(Bx Ey (pv 2) (pv 0)))) Ab)))))
  (Ac (BX PassesOwn.never Z (Bq (K:=K) (pv 0)) (Bp (i:=4) Dc.nd Z (Or.inr Z))
   (Ad (Bo (Bw (K:=K) zM zL zQ Cd (pv 2) (Aa (Cg (cok [4] ["end", "text"] Dc) Z (Ca Z T.Cq (Aa (pv 1) Ab)) (λ_ _ _ _ _=>.one (Ah G5 (Az Hs (pv 1) (pv 0) (λ_ _=>rfl)) Av (Ax _))) (λ_ _ _ _ _=>(pv 0))) Ab)))))
  (Ad (Ay (pv 2))))))),?_⟩;refine⟨_,Z,_,_,_,_,Z,Z,B,Br (by decide) (ZM (AtF O)),_,Z,(by rw[Al,v];exact Cv z),?_⟩;rw[Al,v];refine⟨AtR _,λq J=>?_⟩;refine⟨_,Z,_,Z,(by exact Ar.a7),(by lia),?_⟩;rw[Auh];refine Dw (λi σ H2=>∃(rs:NU)(f c:Option V),σ=[some (.ref a),some (.int (m:Int)),some (.ref q),f,c]/\Aq H H2/\NL H2 q rs ((List.range i).map λe=>RJ cl m e cl.length))
  ⟨[],none,none,Z,.upd J,⟨Ae,Z,λi a ks h=>by simp at h⟩⟩ ?_ ?_
 ·rintro i σ H2 hi ⟨rs,f,c,rfl,s,N⟩;refine⟨_,Z,.inl ⟨Z,_,SqL.of N.h⟩,_,Z,_,_,Z,.inl (s.seq B),_,Z,(by exact Ar.a7),(by grind),?_⟩;rw[Auh,A];refine DR (λj ys b=>b=H2/\ys=vI (RJ cl m i j)) ⟨Z,Z⟩ ?_ ?_ ?_ ?_
  ·rintro j ys b d ⟨rfl,rfl⟩;rw[Bh];exact Afm cl m i j
  ·exact Cv c2
  ·rintro j ys b d ⟨rfl,rfl⟩;obtain⟨e1,R⟩:=AlE C d;have e2:=Abt (by rw[R];exact hi);refine⟨_,Z,_,Z,_,_,_,_,Z,Z,s.seq B,e1,_,Z,_,_,_,Z,Z,(by rw[Al,R];exact Cv z),e2,Z,_,Z,?_⟩;have st:=AiF cl m i j;rw[Aqp];refine Dj (λh=>?_) (λh=>?_)
   ·refine⟨_,Z,_,Z,_,_,Z,Z,?_⟩;refine CN.of d ⟨Z,?_⟩;rw[Au6,st,if_pos (show sg2 cl j i≠46 from h)];exact Ht _ _
   ·refine CN.of d ⟨Z,?_⟩;rw[st,if_neg (show ¬sg2 cl j i≠46 from h)]
  ·rintro ys b l ⟨rfl,rfl⟩ p;have M:=(Aq.upd (o:=.lst (vI (RJ cl m i n))) p) _ _ N.h;refine⟨_,_,_,Z,Z,M,(by rw[AtG,N.l,AtG,AtO];exact Ar.g4 hi z),?_⟩;refine⟨rs++[l],_,_,Z,(s.new p).over J,?_⟩;rw[Aur,AtK];have:= N.grow (ks:=RJ cl m i cl.length) p;rw[C.hn] at this ⊢;exact this
 ·rintro σ H2 ⟨rs,f,c,rfl,s,N⟩;refine⟨_,Z,_,Z,⟨_,s.seq B⟩,Cr (λi σ b=>∃(rs:NU)(f c:Option V),σ=[some (.ref a),some (.int (m:Int)),some (.ref q),f,c]/\Aq H b/\NL b q rs (((List.range m).map λe=>RJ cl m e cl.length)++(cl.take i).map λt=>lowP t m))
   ⟨rs,f,c,Z,s,by simp_all⟩ (λi σ b _ ⟨_,_,_,_,y,_⟩=>y.seq B) ?_ ?_⟩
  ·rintro i x σ b W ⟨rs,f,c,rfl,y,r⟩;obtain⟨u,L,rfl⟩:=Ff W;have S:i<n:=by
    have:= (zC.mp L).1
    rwa [C.hn] at this
   have U:=C.hm u (AtN L);refine⟨_,Z,.inl ⟨Z,_,SqL.of r.h⟩,_,Z,_,Z,(by exact Ar.a7),(by lia),?_⟩;refine DR (λj ys D=>D=b/\ys=vI (lowP u j)) ⟨Z,Z⟩ ?_ ?_ ?_ ?_
   ·rintro j ys D d ⟨rfl,rfl⟩;rw[Bh];exact Afn u j
   ·exact Cv z
   ·rintro j ys D d ⟨rfl,rfl⟩;have e2:=Abt (u:=u) (e:=j) (by simp_all);refine⟨_,Z,_,Z,_,_,_,Z,Z,(by rw[Al,U];exact Cv z),e2,Z,_,Z,?_⟩;have st:=AiG u j;rw[Aqq];refine Dj (λh=>?_) (λh=>?_)
    ·refine⟨_,Z,?_⟩;refine CN.of d ⟨Z,?_⟩;rw[Au6,st,if_pos h];exact Ht _ _
    ·refine CN.of d ⟨Z,?_⟩;rw[st,if_neg h]
   ·rintro ys D l ⟨rfl,rfl⟩ p;have I:=(Aq.upd (o:=.lst (vI (lowP u m))) p) _ _ r.h;refine⟨_,_,_,Z,Z,I,(by rw[AtG,r.l,AtI,AtG,AtO,AtG,AtX];lia),?_⟩;refine⟨rs++[l],_,_,Z,(y.new p).over J,?_⟩;rw[AtV,L,AtK,<- Auk];exact r.grow p
  ·rintro σ b ⟨rs,f,c,rfl,y,r⟩;rw[Bt,Aue] at r;exact⟨_,Z,k q rs b y r⟩
def pvO:Option Nat->V
 | none=>.non
 | some u=>.int (u:Int)
def kvs (ps:List (Nat × Option Nat)):List (Key × V):=ps.map λp=>(Sum.inl (p.1:Int),pvO p.2)
def vF (ps:List (Nat × Option Nat)):Na:=vI (ps.map λp=>((p.1:Nat):Int))
theorem AlG(ps:List (Nat × Option Nat)):(vF ps).length=ps.length:=by unfold vF;rw[Bh,AtG]
theorem Asn{a:Option Nat}(h:ps[i]?=some (v,a)):atI (vF ps) (i:Int)=some (.int (v:Int)):=Br (by exact Ar.a9) (by
 exact Fw (by simp_all))
theorem Aqr(ps:List (Nat × Option Nat))(v:Nat)(a:Option Nat):vF ps++[.int (v:Int)]=vF (ps++[(v,a)]):=by unfold vF;rw[Ht,AtK];rfl
theorem Abu{v:Nat}:∀{ps:List (Nat × Option Nat)},(∀ a,(v,a)∉ps)->Nt (kvs ps) (Sum.inl (v:Int))=none
 | [],_=>AjU
 | p::ps,h=>by
  unfold kvs;rw[AtM,Oc (λe=>?_)]
  ·exact Abu λa b=>h a (AtL _ b)
  ·have e:p.1=v:=by lia
   exact h p.2 (by rw[<- e];exact AtJ)
theorem AfS{v:Nat}{a:Option Nat}:∀{ps:List (Nat × Option Nat)},(v,a)∈ps->(∀ b,(v,b)∈ps->b=a)->Nt (kvs ps) (Sum.inl (v:Int))=some (pvO a)
 | [],h,_=>by cases h
 | p::ps,h,hu=>by
  unfold kvs;rw[AtM];by_cases e:p.1=v
  ·have ea:=hu p.2 (by rw[<- e];exact AtJ);rw[Tc (by show Sum.inl ((p.1:Nat):Int)=Sum.inl ((v:Nat):Int);rw[e])];rw[ea]
  ·rw[Oc (λz=>e (by have z:((p.1:Nat):Int)=(v:Int):=Sum.inl.inj z;exact Ar.b1 z))];rcases yD.mp h with h | h
   ·exact absurd (by rw[<- h]) e
   ·exact AfS h λb c=>hu b (AtL _ c)
theorem Bf.val(B:Bf tss s ps dp){a:Option Nat}(h:ps[i]?=some (v,a)):Nt (kvs ps) (Sum.inl (v:Int))=some (pvO a):=by
 refine AfS (AtN h) λb c=>?_;obtain⟨j,d,e⟩:=Aus c;have g:ps[j]?=some (v,b):=by rw[<- e];exact AtF d
 have:= B.nd i j v a b h g;subst this;rw[h] at g;cases g;rfl
theorem AnP(ps:List (Nat × Option Nat))(v u:Nat)(h:Nt (kvs ps) (Sum.inl (v:Int))=none):putK (kvs ps) (Sum.inl (v:Int)) (.int (u:Int))=kvs (ps++[(v,some u)]):=by rw[AjV _ h];unfold kvs;rw[AtK];rfl
theorem AhS(ps:List (Nat × Option Nat)):(kvs ps).length=ps.length:=by unfold kvs;rw[AtG]
def Gd (tss:NV):Prop:=∀ v,∀ z∈tss.getD v [],0<=z/\z<(tss.length:Int)
inductive AnQ (vs:Na)(H:Hp)(Q:VK)(z3:XK):Prop
|mk(y:Addr)(rs:NU)(tss:NV)(s0:Nat)(_:vs=[.ref y,.int (s0:Int)])(_:NL H y rs tss)(_:Gd tss)(_:tss.length<=200)(_:s0<tss.length)(_:∀(d:Addr)(ps:List (Nat × Option Nat))(dp:NI)(H':Hp),Aq H H'->H d=none->H' d=some (.dK (kvs ps))->Bf tss s0 ps dp->Dn tss ps dp ps.length->Q (.ref d) H')
theorem Mq(T:Txt K mg t):Bl P w K mg base CX0 1 t.Yr t.Ys ["lower", "start"] AnQ:=by
 refine T.Qw.F.ok Em ?_;rintro _ _ _ _ H _ Q E hr ⟨y,rs,tss,C,rfl,N,G,ap,a6,k⟩;have hsz:=z8;refine⟨_,(Ac (Ba (i:=2) Em.nd Z (Or.inl Z) (AmV (AjZ (pv 1) JF AmU) Z rfl (by simp) (by decide)))
  (Ac (Ba (i:=3) Em.nd Z (Or.inl Z) (Cp (Aa (pv 1) Ab)))
  (Ac (Ba (i:=4) Em.nd Z (Or.inl Z) Af)
  (Ac (JX PassesOwn.never (Ah Ge (pv 4) (Ai (Ak (K:=K)) Z T.BJ Bj (Aa (pv 3) Ab)) (Ax _))
   (Ac (Ba (i:=5) Em.nd Z (Or.inl Z) (Az (Aw (K:=K)) (pv 3) (pv 4) (λ_ _=>rfl)))
   (Ac (BX PassesOwn.never Z (Bq (K:=K) (Az (Aw (K:=K)) (pv 0) (pv 5) (λ_ _=>rfl))) (Bp (i:=6) Em.nd Z (Or.inl Z))
    (Ad (Bd (Agg (Acb (AeB hr) (pv 6) (pv 2)))
     (Ac (AmT (AeB hr) (pv 2) (pv 6) (pv 5) Z)
     (Ad (Bo (Bw (K:=K) zM zL zQ Cd (pv 3) (Aa (pv 6) Ab)))))
     Ao)))
   (Ad (Aj4 (i:=4) Em.nd Z (Or.inl Z) Af Aj5)))))
  (Ad (Ay (pv 2))))))),?_⟩;refine λd nd=>⟨_,Z,Ae,[(Sum.inl (C:Int),.non)],Z,(by show 1<=15;decide),?_⟩;have s1:Aq H (upd (upd H d (.dK [])) d (.dK (Oe [] [(Sum.inl (C:Int),.non)]))):=(Aq.upd nd).over nd;have ab:(upd (upd H d (.dK [])) d (.dK (Oe [] [(Sum.inl (C:Int),.non)]))) d=some (.dK (kvs [(C,none)])):=Ae;generalize upd (upd H d (.dK [])) d (.dK (Oe [] [(Sum.inl (C:Int),.non)]))=H1 at s1 ab ⊢;refine⟨_,Z,(by show 1<=sizeLine;decide),λf nf=>?_⟩;have aj:=s1.free nf;have Y:d≠f:=λe=>by simp_all
 have s2:Aq H (upd H1 f (.lst [.int (C:Int)])):=s1.new nf;have al:=(Aq.upd (o:=.lst [.int (C:Int)]) nf) _ _ ab;have ak:(upd H1 f (.lst [.int (C:Int)])) f=some (.lst (vF [(C,none)])):=Ae;refine⟨λm σ H3=>∃(pl:Nat)(ps:List (Nat × Option Nat))(dp:NI)(v5 R:Option V),σ=[some (.ref y),some (.int (C:Int)),some (.ref d),some (.ref f),some (.int (pl:Int)),v5,R]/\Aq H H3/\H3 d=some (.dK (kvs ps))/\H3 f=some (.lst (vF ps))/\Bf tss C ps dp/\Dn tss ps dp pl/\pl<=ps.length/\(∀ j x a:Nat,dp[j]?=some x->dp[pl]?=some a->x<=a+1)/\m=tss.length-pl,
  ⟨_,0,[(C,none)],[0],none,none,Z,s2,al,ak,Bf.one a6,Dn.zero,AtR _,λj x a h1 h2=>?_,Z⟩,?_⟩
 ·have:= (Bf.one a6).mono;have g1:=(zC.mp h1).1;have g0:j=0:=by simpa using g1
  grind
 rintro m σ H3 ⟨pl,ps,dp,v5,R,rfl,s3,X,U,B,D,an,s,rfl⟩;refine⟨_,Z,_,Z,_,_,Z,.inl (SqL.of U),_,_,Z,Z,_,Z,?_⟩;rw[AlG];refine Dj (λh=>?_) (λh=>?_)
 ·have n:pl<ps.length:=by exact Ar.f6 h
  refine⟨_,λ_ _ z=>z,?_⟩;obtain⟨⟨u,b⟩,L⟩:∃ q,ps[pl]?=some q:=⟨_,AtF n⟩;obtain⟨a0,p⟩:∃ a,dp[pl]?=some a:=⟨_,AtF (by rw[B.len];exact n)⟩;have uN:=B.lt u b (AtN L);have S:u<rs.length:=by rw[N.l];exact uN
  refine⟨_,Z,_,Z,_,_,_,_,Z,Z,SqL.of U,Asn L,?_⟩;have N3:=N.same s3;have ag:=N3.r u rs[u] tss[u] (AtF S) (AtF uN);have eg:tss.getD u []=tss[u]:=by grind
  have au:atI (rs.map V.ref) (u:Int)=some (.ref rs[u]):=Br (by exact Ar.a9) (by rw[Auh,AtQ,AtF S];rfl);refine⟨_,Z,_,Z,_,_,_,_,Z,Z,SqL.of N3.h,au,_,Z,⟨_,SqL.of ag⟩,Cr
   (λi σ O=>∃(ps:List (Nat × Option Nat))(dp:NI)(R:Option V),σ=[some (.ref y),some (.int (C:Int)),some (.ref d),some (.ref f),some (.int (pl:Int)),some (.int (u:Int)),R]/\Aq H O/\O d=some (.dK (kvs ps))/\O f=some (.lst (vF ps))/\Bf tss C ps dp/\Dn tss ps dp pl/\pl<ps.length/\ps[pl]?=some (u,b)/\dp[pl]?=some a0/\(∀ j x:Nat,dp[j]?=some x->x<=a0+1) /\
    ∀ z∈(tss[u]).take i,∃(j:Nat)(c:Option Nat),ps[j]?=some (z.toNat,c))
   ⟨ps,dp,R,Z,s3,X,U,B,D,n,L,p,λj x h1=>s j x a0 h1 p,λz hz=>(by simp at hz)⟩ (λi σ O _ ⟨_,_,_,_,W,_⟩=>SqL.of ((N.same W).r u rs[u] tss[u] (AtF S) (AtF uN))) ?_ ?_⟩
  ·rintro i x σ O hx ⟨ps,dp,R,rfl,W,I,J,B,D,n,L,p,s,A⟩;obtain⟨z,hz,rfl⟩:=Ek hx;have af:z∈tss.getD u []:=by rw[eg];exact AtN hz
   obtain⟨ao,z1⟩:=G u z af;obtain⟨v,rfl⟩:∃ v:Nat,z=(v:Int):=⟨z.toNat,by lia⟩;have step:∀{M:List (Nat × Option Nat)},(∀(j:Nat) q,ps[j]?=some q->M[j]?=some q)->(∃(j:Nat)(c:Option Nat),M[j]?=some (v,c))->∀ z∈(tss[u]).take (i+1),∃(j:Nat)(c:Option Nat),M[j]?=some (z.toNat,c):=λ{M} mono hv z ac=>by
    rw[AtV] at ac;rcases zG.mp ac with h | h
    ·obtain⟨j,c,g⟩:=A z h;exact⟨j,c,mono j _ g⟩
    ·simp_all
   refine⟨_,Z,_,Z,d,_,Z,ZV.k (k:=Sum.inl (v:Int)) I,_,Z,?_⟩;by_cases aa:∃(j:Nat)(c:Option Nat),ps[j]?=some (v,c)
   ·obtain⟨j,c,g⟩:=aa;rw[B.val g];exact⟨ps,dp,_,Z,W,I,J,B,D,n,L,p,s,step (λ_ _ h=>h) ⟨j,c,g⟩⟩
   ·have new:=λi a e=>aa ⟨i,a,e⟩;have ae:=Abu λa ha=>by
     obtain⟨j,hj,e⟩:=Aus ha;exact new j a (by rw[<- e];exact AtF hj)
    have sm:=B.small;rw[ae];refine⟨_,Z,_,Z,_,Z,d,_,Z,AjW.k (k:=Sum.inl (v:Int)) I (by rw[AhS];omega),?_⟩;rw[AnP ps v u ae];have s5:Aq H (upd O d (.dK (kvs (ps++[(v,some u)])))):=W.over nd;have ai:(upd O d (.dK (kvs (ps++[(v,some u)])))) f=some (.lst (vF ps)):=by rw[Aj Y.symm];exact J
    have am:(upd O d (.dK (kvs (ps++[(v,some u)])))) d=some (.dK (kvs (ps++[(v,some u)]))):=Ae;refine⟨_,Z,.inl ⟨Z,_,SqL.of ai⟩,_,Z,_,_,_,Z,Z,ai,(by rw[AlG];omega),?_⟩;rw[Aqr ps v (some u)];refine⟨ps++[(v,some u)],dp++[a0+1],_,Z,s5.over aj,by rw[Aj Y];exact am,Ae,B.add L p s af (by exact Ar.f6 z1) new,D.app B.len (by exact Ar.c3 n) _ _,by rw[AtI];exact Ar.e2 n,FW L,FW p,λj x h1=>?_,step (λ_ _ h=>FW h) ⟨_,_,Tu _ _⟩⟩;rcases GX h1 with ⟨_,g⟩ | ⟨_,g⟩
    ·exact s j x g
    ·exact Ar.d2 g
  ·rintro σ O ⟨ps,dp,R,rfl,W,I,J,B,D,n,L,p,ah,A⟩;rw[Bh,Aue] at A;have sm:=B.small;refine⟨_,Z,_,_,Z,Z,?_⟩;refine⟨tss.length-(pl+1),by lia,pl+1,ps,dp,_,_,Z,W,I,J,B,λi u' b' a' hi h1 h2 w hw=>?_,by exact Ar.j4 n,λj x a h1 h2=>?_,Z⟩
   ·by_cases e:i<pl
    ·exact D i u' b' a' e h1 h2 w hw
    ·have e:i=pl:=by lia
     subst e;rw[L] at h1;rw[p] at h2;cases h1;cases h2;rw[eg] at hw;obtain⟨j,c,g⟩:=A _ hw;have hj:j<dp.length:=by rw[B.len];exact(zC.mp g).1
     exact⟨j,c,dp[j],g,AtF hj,ah j dp[j] (AtF hj)⟩
   ·have h3:=ah j x h1;have h4:=B.mono pl (pl+1) a0 a (by exact Ar.a3) p h2;exact Ar.b8 h3 (Ar.j6 h4)
 ·have e:pl=ps.length:=by lia
  subst e;exact⟨_,Z,k d ps dp H3 s3 nd X B D⟩
def vW (ws:NI):Na:=vI (ws.map λv=>((v:Nat):Int))
theorem Qj(ws:NI):(vW ws).length=ws.length:=by unfold vW;rw[Bh,AtG]
theorem Aed(ws:NI)(v:Nat):vW ws++[.int (v:Int)]=vW (ws++[v]):=by unfold vW;rw[Ht,AtK];rfl
theorem Aqs(h:ws[i]?=some v):(vW ws)[i]?=some (.int (v:Int)):=Fw (by rw[AtQ,h];rfl)
theorem Aqt(ws:NI):(vW ws).reverse=vW ws.reverse:=by unfold vW vI;rw[List.map_reverse,List.map_reverse]
theorem Aee(xs:Na)(x:V):atI (xs++[x]) (-1)=some x:=by
 unfold atI ixN;have h1:¬(0:Int) <= -1:=by decide
 rw[if_neg h1,AtI,Avy];have h2 : -(((xs.length+1:Nat)):Int) <= -1:=by lia
 rw[if_pos h2];show(xs++[x])[((-1:Int)+((xs.length+1:Nat):Int)).toNat]?=some x;rw[show((-1:Int)+((xs.length+1:Nat):Int)).toNat=xs.length by omega,AtZ (AtH _),Aux];rfl
inductive AlI (vs:Na)(H:Hp)(Q:VK)(z3:XK):Prop
|mk(d:Addr)(tss:NV)(s0:Nat)(g:Nat)(jg:Nat)(x:Nat)(c:Option Nat)(ps:List (Nat × Option Nat))(dp:NI)(_:vs=[.ref d,.int (g:Int)])(_:H d=some (.dK (kvs ps)))(_:Bf tss s0 ps dp)(_:tss.length<=200)(_:ps[jg]?=some (g,c))(_:dp[jg]?=some x)(_:∀(l:Addr)(ws:NI)(H':Hp),Aq H H'->H l=none->H' l=some (.lst (vW ws))->ws.length=x+1->ws[0]?=some s0->ws[x]?=some g->Pth tss ws->(∀ v∈ws,v<tss.length)->Q (.ref l) H')
theorem AcM(T:Txt K mg t):Bl P w K mg base CX0 1 t.Af2 t.Af3 ["ahead", "goal"] AlI:=by
 refine T.AgJ.F.ok Aco ?_;rintro _ _ _ _ H _ Q E N ⟨d,tss,s0,g,J,x,c,ps,dp,rfl,hd,B,a6,p,M,k⟩;have hsz:=z8;have sm:=B.small;refine⟨_,(Ac (Ba (i:=2) Aco.nd Z (Or.inl Z) (Cp (Aa (pv 1) Ab)))
  (Ac (JX PassesOwn.never (Ah Ahi (Ahs (AeB N) (pv 0) (Az (Aw (K:=K)) (pv 2) (S5 Ld Af) (λ_ _=>rfl)) (λ_ _=>rfl)) JF (Ax _))
   (Ad (Bo (Bw (K:=K) zM zL zQ Cd (pv 2) (Aa (Ahs (AeB N) (pv 0) (Az (Aw (K:=K)) (pv 2) (S5 Ld Af) (λ_ _=>rfl)) (λ_ _=>rfl)) Ab)))))
  (Ad (Ay (AgA (K:=K) Z T.Gu Z T.AgK (pv 2)))))),?_⟩;refine⟨_,Z,(by show 1<=sizeLine;decide),λl U=>?_⟩;have s1:Aq H (upd H l (.lst [.int (g:Int)])):=.upd U;refine⟨λm σ H2=>∃(as bs:NI)(f:Nat)(c:Option Nat)(e:Nat),σ=[some (.ref d),some (.int (g:Int)),some (.ref l)]/\Aq H H2/\H2 l=some (.lst (vW as))/\as=bs++[f]/\ps[m]?=some (f,c)/\dp[m]?=some e/\as.length+e=x+1/\as[0]?=some g/\(∀ i a b:Nat,as[i]?=some a->as[i+1]?=some b->(a:Int)∈tss.getD b [])/\∀ v∈as,v<tss.length,
  ⟨J,[g],[],g,c,x,Z,s1,Ae,Z,p,M,by simp;omega,Z,λi a b h1 h2=>?_,λv y=>?_⟩,?_⟩
 ·have:= (zC.mp h2).1;simp at this
 ·rw[zF.mp y];exact B.lt g c (AtN p)
 rintro m σ H2 ⟨as,bs,f,c,e,rfl,D,n,C,s,I,o,O,S,A⟩;have L:=D _ _ hd;have dg:ZV H2 d (.int (f:Int)) (some (pvO c)):=by
  have:= ZV.k (k:=Sum.inl (f:Int)) L;rw[B.val s] at this;exact this
 have W:atI (vW as) (-1)=some (.int (f:Int)):=by rw[C,<- Aed];exact Aee _ _
 have a0:=(zC.mp s).1;refine⟨_,Z,_,Z,_,Z,_,_,_,_,Z,Z,SqL.of n,W,d,_,Z,dg,Z,_,Z,?_⟩;by_cases r:m=0
 ·subst r;rw[B.st.1] at s;rw[B.st.2] at I;cases s;cases I;refine⟨_,Z,_,_,Z,SqL.of n,(by rw[Qj];have:= (Bf.sound B J g _ x p M).2;have:= (zC.mp p).1;lia),λq R=>?_⟩;rw[Aqt];refine k q as.reverse _ (D.new R) (D.free R) Ae (by rw[AuC];exact Ar.h3 o) ?_ ?_ (λi a b h1 h2=>?_) λv y=>A v (List.mem_reverse.mp y)
  ·rw[Avr (by exact Ar.l7 o),C];rw[AtI];exact Tu _ _
  ·rw[Avr (by exact Ar.d3 o),show as.length-1-x=0 by omega];exact O
  ·have i2:i+1<as.length:=by have:= (zC.mp h2).1;rwa [AuC] at this
   rw[Avr (by exact Ar.c3 i2)] at h1;rw[Avr i2] at h2;exact S (as.length-1-(i+1)) b a h2 (by rw[show as.length-1-(i+1)+1=as.length-1-i by omega];exact h1)
 ·obtain⟨j,u,b,Y,ec,hj,X,q2,q3,q4⟩:=B.par m f c (by exact Ar.h2 r) s;subst ec;rw[q3] at I;cases I;refine⟨_,λ_ _ z=>z,?_⟩;refine⟨_,Z,.inl ⟨Z,_,SqL.of n⟩,_,Z,_,Z,_,Z,_,_,_,_,Z,Z,SqL.of n,W,d,_,Z,dg,_,_,_,Z,Z,n,(by rw[Qj];have:= (Bf.sound B J g _ x p M).2;have:= (zC.mp p).1;lia),?_⟩;refine⟨j,hj,as++[u],as,u,b,Y,Z,D.over U,by rw[Ae];exact congrArg (λz=>some (HO.lst z)) (Aed as u),Z,X,q2,by rw[AtI,Avy];lia,FW O,λi a b' h1 h2=>?_,λv y=>?_⟩
  ·rcases GX h2 with ⟨i1,g2⟩ | ⟨i1,g2⟩
   ·rcases GX h1 with ⟨_,g1⟩ | ⟨i3,_⟩
    ·exact S i a b' g1 g2
    ·lia
   ·simp_all
  ·rcases zG.mp y with h | h
   ·exact A v h
   ·rw[zF.mp h];exact B.lt u b (AtN X)
theorem NL.put(N:NL H y rs tss)(j:H l=none):NL (upd (upd H l (.lst (vI ks))) y (.lst ((rs.map V.ref).set v (.ref l)))) y (rs.set v l) (tss.set v ks):=by
 have d:l≠y:=λe=>by rw[e,N.h] at j;cases j
 refine⟨by rw[List.map_set];exact Ae,by rw[Avm,Avm,N.l],λi a b h1 h2=>?_⟩;by_cases hi:v=i
 ·subst hi;have h3:=(zC.mp h1).1;have h4:=(zC.mp h2).1;rw[Avm] at h3 h4;rw[AuW h3] at h1;rw[AuW h4] at h2;cases h1;cases h2;rw[Aj d];exact Ae
 ·rw[Avl hi] at h1 h2;have c:=N.r i a b h1 h2;have n:0<rs.length:=by have:= (zC.mp h1).1;exact Ar.d1 this
  have f:a≠y:=λe=>by
   rw[e,N.h] at c;have e2:rs.map V.ref=vI b:=by injection c with c;injection c
   have m:(rs.map V.ref)[0]?=some (.ref rs[0]):=by rw[AtQ,AtF n];rfl
   rw[e2] at m;obtain⟨z,_,e3⟩:=Ek m;cases e3
  rw[Aj f];exact(Aq.upd j) _ _ c
theorem Ajl(d:ws[i]?=some v)(c:v<tss.length):(Adw tss ws (ws.take i)).set v (Afp tss ws v)=Adw tss ws (ws.take (i+1)):=by
 refine AuL λj=>?_;have tk:∀ u,u∈ws.take (i+1)↔u∈ws.take i\/u=v:=λu=>by
  rw[AtV,d];simp
 by_cases b:v=j
 ·subst b;rw[AuW (by rw[FJ];exact c),Om c,if_pos ((tk v).mpr (.inr Z))]
 ·rw[Avl b];by_cases a:j<tss.length
  ·rw[Om a,Om a];by_cases h:j∈ws.take i
   ·rw[if_pos h,if_pos ((tk j).mpr (.inl h))]
   ·rw[if_neg h,if_neg λz=>by
     rcases(tk j).mp z with z | z
     ·exact h z
     ·exact b z.symm]
  ·rw[Au0 (by rw[FJ];exact Ar.a1 a),Au0 (by rw[FJ];exact Ar.a1 a)]
theorem AcN{l:List α}{p:α->Bool}{z:α}(h:l[j]?=some z):(l.take (j+1)).filter p=(l.take j).filter p++(if p z=true then [z] else []):=by
 rw[AtV,h,Au4]
 congr 1
 show List.filter p [z]=_;by_cases h:p z=true
 ·rw[if_pos h,AuN h];rfl
 ·rw[if_neg h,Avh h];rfl
inductive Ajm (K:NF)(vs:Na)(H:Hp)(Q:VK)(z3:XK):Prop
|mk(y:Addr)(b:Addr)(rs:NU)(tss:NV)(ws:NI)(_:vs=[.ref y,.ref b])(_:NL H y rs tss)(_:SqL K H b (vI (cI ws)))(_:tss.length<=200)(_:(∀ v∈ws,v<tss.length))(_:(∀ l∈tss,l.length<=200))(_:ws.length<=1000)(_:∀(y':Addr)(rs':NU)(H':Hp),Aq H H'->NL H' y' rs' (nar tss ws)->Q (.ref y') H')
theorem Zg(T:Txt K mg t):Bl P w K mg base CX0 1 t.Pj t.Pk ["lower", "strands"] (Ajm K):=by
 refine T.Vi.F.ok Ep ?_;rintro _ _ _ _ H _ Q E hr ⟨y,b,rs,tss,ws,rfl,N,R,aa,U,a6,wl,k⟩;have hsz:=z8;have C:=N.l;refine⟨_,(Ac (Qn (i:=2) (cok [] ["strand"] Ep) Z Ep.nd Z rfl (Bq (K:=K) (pv 0)) (λ_ _ _ _ _=>.nil) (λ_ _ _ _ _=>(Cp Ab)) Z)
  (Ac (BX PassesOwn.never Z (Bq (K:=K) (pv 1)) (Bp (i:=3) Ep.nd Z (Or.inl Z))
   (Ad (AcU (Cg (cok [1] ["other", "strands"] Ep) Z (Bq (K:=K) (Az (Aw (K:=K)) (pv 0) (pv 3) (λ_ _=>rfl))) (λ_ _ _ _ _=>.one (Ah (Lp) (pv 0) (pv 1) Z)) (λ_ _ _ _ _=>(pv 0))) (Aj3 (pv 2) (pv 3) set_list))))
  (Ad (Ay (pv 2))))),?_⟩;refine⟨_,Z,_,Z,⟨_,SqL.of N.h⟩,BV (xs:=rs.map V.ref) (λi ys s=>∃ c:NU,ys=c.map V.ref/\Aq H s/\c.length=i/\∀ r∈c,s r=some (.lst [])) ⟨[],Z,.refl _,Z,λr h=>(by cases h)⟩ ?_ ?_ ?_ ?_⟩
 ·rintro i ys s hi ⟨c,rfl,A,d,_⟩;exact⟨A.seq (SqL.of N.h),by grind⟩
 ·grind
 ·rintro i x ys s hi hx ⟨c,rfl,A,d,m⟩;refine⟨AtR _,λq u=>?_⟩;refine CN.of hi ⟨c++[q],by rw[AtK];rfl,A.new u,by rw[AtI,d];rfl,λr M=>?_⟩;rcases zG.mp M with h | h
  ·exact(Aq.upd u) _ _ (m r h)
  ·rw[zF.mp h];exact Ae
 ·rintro ys s p ⟨c,rfl,A,d,m⟩ W;rw[AtG] at d;have a0:=A.free W;have s4:Aq H (upd s p (.lst (c.map V.ref))):=A.new W;have N4:NL (upd s p (.lst (c.map V.ref))) p c (Adw tss ws (ws.take 0)):=by
   refine⟨Ae,by rw[FJ];exact Ar.h5 d C,λi a ks h1 h2=>?_⟩;have hi:=(zC.mp h2).1;rw[FJ] at hi;rw[Om hi] at h2;cases h2;exact(Aq.upd W) _ _ (m a (AtN h1))
  refine⟨_,Z,_,Z,⟨_,s4.seq R⟩,Cr (λi σ n=>∃(c:NU)(O:Option V),σ=[some (.ref y),some (.ref b),some (.ref p),O]/\Aq H n/\NL n p c (Adw tss ws (ws.take i)))
   ⟨c,none,Z,s4,N4⟩ (λi σ n _ ⟨_,_,_,e,_⟩=>e.seq R) ?_ ?_⟩
  ·rintro i x σ n hx ⟨c,O,rfl,e,B⟩;obtain⟨z,L,rfl⟩:=Ek hx;unfold cI at L;rw[AtQ] at L;obtain⟨v,hv,rfl⟩:∃ v,ws[i]?=some v/\(v:Int)=z:=by
    simp_all
   have I:=U v (AtN hv);have D:v<rs.length:=by exact Ar.b3 C I
   have f:=e _ _ (N.r v rs[v] tss[v] (AtF D) (AtF I));have eg:tss.getD v []=tss[v]:=by rw[AtY,AtF I];rfl
   have lw:=a6 tss[v] (AtT I);have au:atI (rs.map V.ref) (v:Int)=some (.ref rs[v]):=Br (by exact Ar.a9) (by rw[Auh,AtQ,AtF D];rfl);refine⟨_,Z,_,Z,_,_,_,_,Z,Z,e.seq (SqL.of N.h),au,_,Z,⟨_,SqL.of f⟩,BV (xs:=vI tss[v]) (λj ys J=>J=n/\ys=vI ((tss[v].take j).filter λz=>decide (z∈cI ws))) ⟨Z,Z⟩ ?_ ?_ ?_ ?_⟩
   ·rintro j ys J S ⟨rfl,rfl⟩;refine⟨SqL.of f,?_⟩;rw[Bh];grind
   ·rw[Bh];exact Ar.a2 lw
   ·rintro j xw ys J S X ⟨rfl,rfl⟩;obtain⟨z,L,rfl⟩:=Ek X;refine⟨_,Z,_,Z,_,_,Z,.inl (e.seq R),Z,Gj _,_,Z,?_⟩;rw[VP];have st:=AcN (p:=λz=>decide (z∈cI ws)) L;refine Dj (λh=>?_) (λh=>?_)
    ·refine⟨_,Z,?_⟩;refine CN.of S ⟨Z,?_⟩;rw[st,if_pos (zN h)];exact Ht _ _
    ·refine CN.of S ⟨Z,?_⟩;rw[st,zJ h,if_neg (by simp),Aum]
   ·rintro ys J q ⟨rfl,rfl⟩ u;rw[Bh,Aue];have N6:=B.put (v:=v) (ks:=Afp tss ws v) u;have e6:vI (tss[v].filter λz=>decide (z∈cI ws))=vI (Afp tss ws v):=by rw[Afp,eg]
    rw[e6];have Y:=(Aq.upd (o:=.lst (vI (Afp tss ws v))) u) _ _ B.h;refine⟨_,Z,_,Z,_,_,_,_,Z,Z,Y,AjR (by exact Ar.a9) (by rw[AtG,B.l,FJ];lia),?_⟩;rw[Ajl hv I] at N6;exact⟨c.set v q,_,Z,(e.new u).over a0,N6⟩
  ·rintro σ n ⟨c,O,rfl,e,B⟩;rw[Bh,Hu,Aue] at B;exact⟨_,Z,k p c n e B⟩
theorem AnR(B:Bf tss s ps dp)(v:Nat):(!(Nt (kvs ps) (Sum.inl (v:Int))).isSome)=decide (v∉ps.map (·.1)):=by
 by_cases h:v∈ps.map (·.1)
 ·obtain⟨j,c,g⟩:=Adx h;rw[B.val g,zJ (λz=>z h)];rfl
 ·rw[Abu λa b=>h (yC.mpr ⟨(v,a),b,Z⟩),zN h];rfl
theorem Ahb{x:V}(h:(vI (cI ws))[i]?=some x):∃ v,ws[i]?=some v/\x=.int (v:Int):=by
 obtain⟨z,a,rfl⟩:=Ek h;unfold cI at a;cases e:ws[i]? with
 | none=>simp_all
 | some v=>simp_all
theorem AlJ(h:∀ v∈ws,v<tss.length):Gd (nar tss ws):=λv z a=>by
 obtain⟨_,h1,_⟩:=Qt.mp a;obtain⟨u,b,rfl⟩:=yC.mp h1;have:= h u b;rw[nar,FJ];grind
inductive AlK (K:NF)(vs:Na)(H:Hp)(Q:VK)(z3:XK):Prop
|mk(y:Addr)(b:Addr)(rs:NU)(tss:NV)(ws:NI)(_:vs=[.ref y,.ref b])(_:NL H y rs (nar tss ws))(_:SqL K H b (vI (cI ws)))(_:tss.length<=200)(_:NS tss.length ws)(_:(AiH tss ws->∀ H',Aq H H'->Q .non H'))(_:(¬AiH tss ws->∀(l:Addr)(fs:NI)(H':Hp),Aq H H'->H l=none->H' l=some (.lst (vI (cI fs)))->Lf tss ws fs->Q (.ref l) H'))
theorem AbJ(T:Txt K mg t):Bl P w K mg base CX0 2 t.UT t.UW ["lower", "strands"] (AlK K):=by
 refine T.AaR.F.ok GZ ?_;rintro _ _ _ _ H _ Q E O ⟨y,b,rs,tss,ws,rfl,N,m,s,W,k1,k2⟩;have hsz:=z8;have wl:=W.len;have U:(nar tss ws).length=tss.length:=by rw[nar,FJ]
 refine⟨_,(Ac (BX PassesOwn.never Z (Bq (K:=K) (pv 1)) (Bp (i:=2) GZ.nd Z (Or.inl Z))
   (Ac (Ba (i:=3) GZ.nd Z (Or.inr Z) (Bg T.Qw (Mq T) O (Aa (pv 0) (Aa (pv 2) Ab))))
   (Ad (Bd (Ah Ge (Ai Aiy Z T.BJ Bj (Aa (pv 3) Ab)) (Ai (Ak (K:=K)) Z T.BJ Bj (Aa (pv 1) Ab)) (Ax _))
    (Ad (Ay (Cg (cok [3] ["strand", "ahead"] GZ) Z (Bq (K:=K) (pv 1)) (λ_ _ _ _ _=>.one (Agg (Acb (AeB O) (pv 0) (pv 1)))) (λ_ _ _ _ _=>(pv 0)))))
    Ao))))
  (Ad (Ay JF))),?_⟩;refine⟨_,Z,_,Z,⟨_,m⟩,Cr (λi σ o=>∃(C I:Option V),σ=[some (.ref y),some (.ref b),C,I]/\Aq H o/\∀ u∈ws.take i,∀ v∈ws,∃ L,Wy (nar tss ws) u L v)
  ⟨none,none,Z,.refl _,λu h=>(by simp at h)⟩ (λi σ o _ ⟨_,_,_,f,_⟩=>f.seq m) ?_ ?_⟩
 ·rintro i x σ o hx ⟨C,I,rfl,f,a⟩;obtain⟨u,X,rfl⟩:=Ahb hx;have M:=AtN X;refine⟨_,Z,_,Z,y,rs,nar tss ws,u,Z,N.same f,AlJ W.lt,by exact Ar.g6 U s,by rw[U];exact W.lt u M,λd ps dp H6 s6 nd S B D=>?_⟩;have l:=f.trans s6;refine⟨_,Z,d,_,Z,S,_,Z,_,_,Z,.inl (l.seq m),_,_,Z,Z,_,Z,?_⟩;rw[AhS,Bh,Hu];refine Dj (λh=>?_) (λh=>?_)
  ·obtain⟨nc,L⟩:=B.lift D W M (by exact Ar.f6 h);refine⟨_,Z,_,Z,⟨_,l.seq m⟩,BV (xs:=vI (cI ws)) (λj ys A=>A=H6/\ys=vI (cI ((ws.take j).filter λv=>decide (v∉ps.map (·.1))))) ⟨Z,Z⟩ ?_ ?_ ?_ ?_⟩
   ·rintro j ys A n ⟨rfl,rfl⟩;refine⟨l.seq m,?_⟩;rw[Bh,Hu];grind
   ·rw[Bh,Hu];exact Ar.g5 wl s
   ·rintro j xw ys A n J ⟨rfl,rfl⟩;obtain⟨v,z,rfl⟩:=Ahb J;refine⟨_,Z,_,Z,d,_,Z,ZV.k (k:=Sum.inl (v:Int)) S,_,Z,?_⟩;rw[AnR B];have st:=AcN (p:=λv=>decide (v∉ps.map (·.1))) z;refine Dj (λh=>?_) (λh=>?_)
    ·refine⟨_,Z,?_⟩;refine CN.of n ⟨Z,?_⟩;rw[st,if_pos (zN h)];unfold cI;rw[AtK];exact Ht _ _
    ·refine CN.of n ⟨Z,?_⟩;rw[st,zJ h,if_neg (by simp),Aum]
   ·rintro ys A q ⟨rfl,rfl⟩ R;rw[Bh,Hu,Aue];exact k2 nc q _ _ (l.new R) (l.free R) Ae L
  ·refine⟨_,_,Z,l,λY r v z=>?_⟩;rw[AtV,X] at r;rcases zG.mp r with h' | h'
   ·exact a Y h' v z
   ·have e:Y=u:=by simpa using h'
    subst e;obtain⟨j,c,g⟩:=B.full M (by lia) v z;have n:j<dp.length:=by rw[B.len];exact(zC.mp g).1
    exact⟨_,(B.sound j v c dp[j] g (AtF n)).1⟩
 ·rintro σ o ⟨C,I,rfl,f,a⟩;rw[Bh,Hu,Aue] at a;exact k1 a o f
theorem Ajn(z:Int)(ks:NA):(!inV (.int z) (vI ks))=decide (z∉ks):=by rw[VP];grind
theorem Ahc(C:Cl cl m n):∀ l∈lows cl m,l.length<=200:=λl h=>by
 have c2:=C.n40;have i:=C.m40;obtain⟨b,a,e⟩:=Aus h;have f:=a;rw[Aan,C.hn] at f;rw[<- e];by_cases d:b<m
 ·have e:=Aao (cl:=cl) d;rw[AtF a] at e;rw[Option.some.inj e];have:= Afm cl m b cl.length;rw[C.hn] at this ⊢;lia
 ·have c:b-m<cl.length:=by rw[C.hn];lia
  have e:=Wm (m:=m) c;rw[show m+(b-m)=b by omega,AtF a] at e;rw[Option.some.inj e];have:= Afn cl[b-m] m;lia
inductive Aqu (K:NF)(vs:Na)(H:Hp)(Q:VK)(z3:XK):Prop
|mk(a:Addr)(b:Addr)(cl:NN)(m:Nat)(n:Nat)(ws:NI)(_:vs=[.ref a,.ref b])(_:SqL K H a (vS cl))(_:Cl cl m n)(_:SqL K H b (vI (cI ws)))(_:NS (m+n) ws)(_:∀(y:Addr)(rs:NU)(H':Hp),Aq H H'->NL H' y rs (nar (lows cl m) ws)->Q (.ref y) H')
theorem AbK(T:Txt K mg t):Bl P w K mg base CX0 4 t.Va t.Vb ["cloth", "strands"] (Aqu K):=by
 refine T.AaS.F.ok QL ?_;rintro _ _ _ _ H _ Q E c ⟨a,b,cl,m,n,ws,rfl,j,C,e,W,k1⟩;have c2:=C.n40;have B:=C.m40;have o:(lows cl m).length=m+n:=by rw[Aan,C.hn]
 have A:=W.len;refine⟨_,(Ac (Ba (i:=2) QL.nd Z (Or.inl Z) (Bg T.measured (Hq T) c (Aa (pv 0) Ab)))
  (Ac (Bo (Bg T.Ac4 (Aec T) c (Aa (pv 1) (Aa (Bx Ey (Az (BW (K:=K)) (pv 2) Af (λ_ _=>rfl)) (Az (BW (K:=K)) (pv 2) Af (λ_ _=>rfl))) Ab))))
  (Ad (Ay (Bg T.Vi (Zg T) c (Aa (Bg T.Rr (WT T) c (Aa (pv 0) Ab)) (Aa (pv 1) Ab))))))),?_⟩;refine⟨_,Z,a,cl,m,n,Z,j,C,λp u=>?_⟩;have s1:Aq H (upd H p (.tup [.int (m:Int),.int (n:Int)])):=.upd u;have f:SqT K (upd H p (.tup [.int (m:Int),.int (n:Int)])) p [.int (m:Int),.int (n:Int)]:=SqT.of Ae;refine⟨_,Z,_,Z,_,_,_,_,Z,Z,f,Br (by decide) Z,_,Z,_,_,_,_,Z,Z,f,Br (by decide) Z,_,_,Z,Z,b,cI ws,(m:Int)+(n:Int),Z,s1.seq e,(by rw[Hu];omega),(by exact W.good),?_⟩;refine⟨_,Z,a,cl,m,n,Z,s1.seq j,C,λy rs H2 q N=>?_⟩;have h:=s1.trans q;refine⟨_,Z,y,b,rs,lows cl m,ws,Z,N,h.seq e,by lia,λv r=>by rw[o];exact W.lt v r,Ahc C,by omega,λl d z s x=>?_⟩;exact k1 l d z (h.trans s) x
theorem AcO(h:1<=xs.length):Iv xs (some 1) none=xs.drop 1:=by
 unfold Iv;have e1:HT.sIx xs.length 0 (some (1:Int))=1:=by
  have:= HT.Gh xs.length 0 1;rw[Aup h] at this;exact this
 have e2:HT.sIx xs.length xs.length none=xs.length:=rfl;rw[e1];exact Auf (by simp_all)
theorem AnS(h:1<=xs.length):Iv xs (some 1) (some (-1))=(xs.drop 1).dropLast:=by
 unfold Iv;have e1:HT.sIx xs.length 0 (some (1:Int))=1:=by
  have:= HT.Gh xs.length 0 1;rw[Aup h] at this;exact this
 have e2:HT.sIx xs.length xs.length (some (-1))=xs.length-1:=by
  show(if (-1:Int)<0 then ((-1:Int)+(xs.length:Int)).toNat else min (-1:Int).toNat xs.length)=_;rw[if_pos (by decide)];lia
 rw[e1,e2,List.dropLast_eq_take,Auw]
theorem Aef(ws:NI)(k:Nat):(vW ws).drop k=vW (ws.drop k):=by unfold vW vI;rw[AuP,AuP]
theorem AfT(ws:NI):(vW ws).dropLast=vW ws.dropLast:=by unfold vW vI;rw[List.map_dropLast,List.map_dropLast]
theorem AlL(a b:NI):vW a++vW b=vW (a++b):=by unfold vW vI;rw[AtK,AtK]
theorem AnT(ws:NI):(vW ws).all Iw=true:=Gj _
theorem Bf.way(B:Bf (nar tss ws) s ps dp)(D:Dn (nar tss ws) ps dp ps.length)(hc:AiH tss ws)(b:s∈ws)(d:v∈ws):∃(j:Nat)(c:Option Nat)(x:Nat),ps[j]?=some (v,c)/\dp[j]?=some x/\x+1<=ws.length:=by obtain⟨L,e⟩:=hc s b v d;obtain⟨j,c,x,a,g2,_⟩:=B.reach D L v e;have h1:=(B.sound j v c x a g2).2;have h2:=(zC.mp a).1;have h3:=B.few b;exact⟨j,c,x,a,g2,by lia⟩
inductive AlM (K:NF)(vs:Na)(H:Hp)(Q:VK)(z3:XK):Prop
|mk(a:Addr)(b:Addr)(cl:NN)(m:Nat)(n:Nat)(ws:NI)(_:vs=[.ref a,.ref b])(_:SqL K H a (vS cl))(_:Cl cl m n)(_:SqL K H b (vI (cI ws)))(_:NS (m+n) ws)(_:AiH (lows cl m) ws)(_:∀(l:Addr)(fs:NI)(H':Hp),Aq H H'->H l=none->H' l=some (.lst (vI (cI fs)))->Rd (lows cl m) ws fs->Q (.ref l) H')
theorem Aeg(T:Txt K mg t):Bl P w K mg base CX0 5 t.Yt t.Yu ["cloth", "strands"] (AlM K):=by
 refine T.Ac5.F.ok Ii ?_;rintro _ _ _ _ H _ Q E O ⟨a,b,cl,m,n,ws,rfl,hS,C,hB,W,hc,q2⟩;have hsz:=z8;have c2:=C.n40;have c4:=C.m40;have ll:(lows cl m).length=m+n:=by rw[Aan,C.hn]
 refine⟨_,(Ac (Ba (i:=2) Ii.nd Z (Or.inl Z) (Bg T.AaS (AbK T) O (Aa (pv 0) (Aa (pv 1) Ab))))
  (Ac (Bd (Ah Ahi (Bg T.AaR (AbJ T) O (Aa (pv 2) (Aa (pv 1) Ab))) JF (Ax _))
   (Ad (Ay JF))
   Ao)
  (Ac (Ba (i:=3) Ii.nd Z (Or.inl Z) (Cp (Aa (Az (Aw (K:=K)) (pv 1) Af (λ_ _=>rfl)) Ab)))
  (Ac (BX PassesOwn.never Z (Bq (K:=K) (Cy (Ds (K:=K)) (pv 1) (Cu Af) Ej)) (Bp (i:=4) Ii.nd Z (Or.inl Z))
   (Ad (Bd (Ah (JH (K:=K)) (pv 4) (pv 3) Z)
    (Ad (Bo (Bw (K:=K) zM F.slot_list_extend F.type_list_extend Qm (pv 3) (Aa (Cy (Ds (K:=K)) (Bg T.AgJ (AcM T) O (Aa (Bg T.Qw (Mq T) O (Aa (pv 2) (Aa (Az (Aw (K:=K)) (pv 3) (S5 Ld Af) (λ_ _=>rfl)) Ab))) (Aa (pv 4) Ab))) (Cu Af) Ej) Ab))))
    Ao)))
  (Ac (Bo (Bw (K:=K) zM F.slot_list_extend F.type_list_extend Qm (pv 3) (Aa (Cy (Ds (K:=K)) (Bg T.AgJ (AcM T) O (Aa (Bg T.Qw (Mq T) O (Aa (pv 2) (Aa (Az (Aw (K:=K)) (pv 3) (S5 Ld Af) (λ_ _=>rfl)) Ab))) (Aa (Az (Aw (K:=K)) (pv 1) Af (λ_ _=>rfl)) Ab))) (Cu Af) (Cu (S5 Ld Af))) Ab)))
  (Ad (Ay (pv 3)))))))),?_⟩;refine⟨_,Z,_,Z,a,b,cl,m,n,ws,Z,hS,C,hB,W,λy rs H1 s1 N=>?_⟩;have aj:=W.len;have nl:(nar (lows cl m) ws).length=m+n:=by rw[nar,FJ,ll]
 refine⟨_,Z,_,Z,y,b,rs,lows cl m,ws,Z,N,s1.seq hB,by lia,by rw[ll];exact W,λhc H2 s2=>?_,λhn=>absurd hc hn⟩;refine⟨Z,_,Z,?_⟩;have u2:=s1.trans s2;have N2:=N.same s2;have J:=u2.seq hB;have w0:=zY.mpr W.ne;obtain⟨f,S⟩:∃ f,ws[0]?=some f:=⟨_,AtF w0⟩;have fm:=AtN S;have a0:atI (vI (cI ws)) 0=some (.int (f:Int)):=Br (by decide) (Aqs S);refine⟨_,Z,_,_,_,_,Z,Z,J,a0,(by grind),λq nq=>?_⟩;have s3:Aq H2 (upd H2 q (.lst [.int (f:Int)])):=.upd nq;have aa:(upd H2 q (.lst [.int (f:Int)])) q=some (.lst (vW [f])):=Ae;generalize upd H2 q (.lst [.int (f:Int)])=H3 at s3 aa ⊢;have gd:=AlJ λv u=>by rw[ll];exact W.lt v u
 refine⟨_,Z,_,Z,_,_,Z,s3.seq J,λY a6=>?_⟩;rw[AcO (by rw[Bh,Hu];omega)];rw[show(vI (cI ws)).drop 1=vI (cI (ws.drop 1)) from Aef ws 1];have s4:Aq H2 (upd H3 Y (.lst (vI (cI (ws.drop 1))))):=s3.new a6;have ag:=(Aq.upd (o:=.lst (vI (cI (ws.drop 1)))) a6) _ _ aa;have X:(upd H3 Y (.lst (vI (cI (ws.drop 1))))) Y=some (.lst (vI (cI (ws.drop 1)))):=Ae;have ab:Y≠q:=λe=>by simp_all
 refine⟨_,Z,⟨_,SqL.of X⟩,Cr (λi σ U=>∃(as bs:NI)(c:Nat)(v4:Option V),σ=[some (.ref a),some (.ref b),some (.ref y),some (.ref q),v4]/\Aq H2 U/\U q=some (.lst (vW as))/\U Y=some (.lst (vI (cI (ws.drop 1))))/\Wk (lows cl m) ws f i as bs c)
  ⟨[f],[],f,none,Z,s4,ag,X,Wk.start S⟩ (λi σ U _ ⟨_,_,_,_,_,_,_,h5,_⟩=>SqL.of h5) ?_ ?_⟩
 ·rintro i x σ U hx ⟨as,bs,c,v4,rfl,L,j,I,r⟩;obtain⟨v,u,rfl⟩:=Ahb hx;rw[AuF,Nat.add_comm] at u;have vm:=AtN u;have il:=(zC.mp u).1;have ac:=r.len;have ae:i*(ws.length-1)<=80*80:=Av0 (by lia) (by lia);refine⟨_,Z,_,Z,_,_,Z,.inl (SqL.of j),Z,AnT _,_,Z,?_⟩;show if (!inV (.int (v:Int)) (vI (cI as)))=true then _ else _
  rw[Ajn];refine Dj (λh=>?_) (λh=>?_)
  ·have af:=λz=>h (IW.mpr z);have ca:c∈as:=by rw[r.e];simp
   have la:atI (vW as) (-1)=some (.int (c:Int)):=by rw[r.e,<- Aed];exact Aee _ _
   refine⟨_,Z,.inl ⟨Z,_,SqL.of j⟩,_,Z,_,Z,_,Z,_,_,_,_,Z,Z,SqL.of j,la,y,rs,nar (lows cl m) ws,c,Z,N2.same L,gd,by lia,by rw[nl];exact W.lt c (r.ins c ca),λd ps dp H6 s6 nd hd B D=>?_⟩;obtain⟨jj,cc,x,g1,g2,g3⟩:=B.way D hc (r.ins c ca) vm;refine⟨_,Z,d,nar (lows cl m) ws,c,v,jj,x,cc,ps,dp,Z,hd,B,by lia,g1,g2,λl p H7 s7 ah hl e1 e2 e3 e4 e5=>?_⟩;refine⟨_,Z,_,_,Z,SqL.of hl,λl2 A=>?_⟩;rw[AcO (by rw[Qj];omega),Aef];have M:=(s6.trans s7).new (o:=.lst (vW (p.drop 1))) A;have s:(upd H7 l2 (.lst (vW (p.drop 1)))) l2=some (.lst (vW (p.drop 1))):=Ae;refine⟨_,_,_,_,Z,Z,M _ _ j,s,(by rw[Qj,Qj,Auw];lia),?_⟩;rw[AlL];obtain⟨ai,K8⟩:=r.go W S u af e1 e2 e3 e4 g3;exact⟨_,ai,v,_,Z,(L.trans M).over nq,Ae,by rw[Aj ab];exact M _ _ I,K8⟩
  ·exact⟨as,bs,c,_,Z,L,j,I,r.stay W S u (Classical.byContradiction λz=>h λz'=>z (IW.mp z'))⟩
 ·rintro σ U ⟨as,bs,c,v4,rfl,L,j,I,r⟩;rw[Bh,Hu,Auw] at r;have ac:=r.len;have ae:(ws.length-1)*(ws.length-1)<=80*80:=Av0 (by omega) (by omega);have ca:c∈as:=by rw[r.e];simp
  have la:atI (vW as) (-1)=some (.int (c:Int)):=by rw[r.e,<- Aed];exact Aee _ _
  refine⟨_,Z,.inl ⟨Z,_,SqL.of j⟩,_,Z,_,Z,_,Z,_,_,_,_,Z,Z,SqL.of j,la,y,rs,nar (lows cl m) ws,c,Z,N2.same L,gd,by lia,by rw[nl];exact W.lt c (r.ins c ca),λd ps dp H6 s6 nd hd B D=>?_⟩;obtain⟨jj,cc,x,g1,g2,g3⟩:=B.way D hc (r.ins c ca) fm;refine⟨_,Z,_,_,_,_,Z,Z,(L.trans s6).seq J,a0,d,nar (lows cl m) ws,c,f,jj,x,cc,ps,dp,Z,hd,B,by lia,g1,g2,λl p H7 s7 ah hl e1 e2 e3 e4 e5=>?_⟩;refine⟨_,Z,_,Z,_,Z,_,_,Z,SqL.of hl,λl2 A=>?_⟩;rw[AnS (by rw[Qj];omega),Aef,AfT];have M:=(s6.trans s7).new (o:=.lst (vW (p.drop 1).dropLast)) A;have s:(upd H7 l2 (.lst (vW (p.drop 1).dropLast))) l2=some (.lst (vW (p.drop 1).dropLast)):=Ae;refine⟨_,_,_,_,Z,Z,M _ _ j,s,(by rw[Qj,Qj,List.length_dropLast,Auw];lia),?_⟩;rw[AlL];have R:=r.round W S e1 e2 e3 e4 g3;exact⟨_,Z,q2 q _ _ (u2.trans ((L.trans M).over nq)) (u2.free nq) Ae R⟩
theorem AlN(m:Nat)(z:Int):(List.replicate m [V.int z]).flatten=vI (List.replicate m z):=by
 induction m with
 | zero=>rfl
 | succ m a=>rw[AuK,Auq,a];rfl
theorem Aeh(C:Cl cl m n)(c:p<n)(b:e<m):Sg (sg2 cl p e):=by
 have a:p<cl.length:=by rw[C.hn];exact c
 have e1:cl.getD p []=cl[p]:=by rw[AtY,AtF a];rfl
 have d:=C.hm cl[p] (AtT a);unfold sg2;rw[e1,AtY,AtF (by rw[d];exact b)];exact C.sg cl[p] (AtT a) _ (AtT _)
def ovr (cl:NN)(m u v:Nat):Prop:=(v:Int)∈(lows cl m).getD u []
theorem Zy{u:Nat}(C:Cl cl m n)(b:u<m)(a:p<n):ovr cl m u (m+p)↔sg2 cl p u=35:=by
 unfold ovr;rw[AtY,Aao b];have c:=Aeh C a b;refine⟨λh=>?_,λh=>?_⟩
 ·obtain⟨q,d,h1,h2⟩:=Aap.mp h;have:q=p:=by lia
  subst this;rcases c with h | h
  ·exact h
  ·exact absurd h h1
 ·exact Aap.mpr ⟨p,by rw[C.hn];exact a,by rw[h];decide,by exact Ar.f3⟩
theorem V4(C:Cl cl m n)(b:e<m)(d:p<n):ovr cl m (m+p) e↔sg2 cl p e=46:=by
 have c:p<cl.length:=by rw[C.hn];exact d
 have e1:cl.getD p []=cl[p]:=by rw[AtY,AtF c];rfl
 unfold ovr;rw[AtY,Wm c];have a:=Aeh C d b;unfold sg2 at a ⊢;rw[e1] at a ⊢;refine⟨λh=>?_,λh=>?_⟩
 ·obtain⟨q,f,h1,h2⟩:=Aaq.mp h;have:q=e:=by exact Ar.h4 (Ar.b1 h2)
  subst this;rcases a with h | h
  ·exact absurd h h1
  ·exact h
 ·exact Aaq.mpr ⟨e,b,by rw[h];decide,Z⟩
theorem V5{u:Nat}(C:Cl cl m n)(b:u<m+n)(h:u<m↔v<m):¬ovr cl m u v:=λz=>by
 have hn:=C.hn;unfold ovr at z;by_cases h1:u<m
 ·rw[AtY,Aao h1] at z;obtain⟨q,a,_,h2⟩:=Aap.mp z;lia
 ·have e:u=m+(u-m):=by exact Ar.h4 (Ar.d4 h1)
  rw[e,AtY,Wm (by omega)] at z;obtain⟨q,a,_,h2⟩:=Aaq.mp z;exact h1 (h.mpr (by lia))
inductive AlO (K:NF)(vs:Na)(H:Hp)(Q:VK)(z3:XK):Prop
|mk(a:Addr)(cl:NN)(m:Nat)(n:Nat)(u:Nat)(v:Nat)(_:vs=[.ref a,.int (u:Int),.int (v:Int)])(_:SqL K H a (vS cl))(_:Cl cl m n)(_:u<m+n)(_:v<m+n)(_:(ovr cl m u v->Q (.bl true) H))(_:(¬ovr cl m u v->Q (.bl false) H))
theorem Asq(c:Nat):decide ((V.str ⟨#[c]⟩:V)=V.str "#")=decide (c=35):=by
 by_cases h:c=35
 ·subst h;rfl
 ·rw[zJ (λz=>h (AfF.mp (z.trans e35.symm))),zJ h]
theorem Asr(c:Nat):decide ((V.str ⟨#[c]⟩:V)=V.str ".")=decide (c=46):=by
 by_cases h:c=46
 ·subst h;rfl
 ·rw[zJ (λz=>h (AfF.mp (z.trans e46.symm))),zJ h]
theorem Ahd(C:Cl cl m n)(a:p<n):atI (vS cl) (p:Int)=some (.str (tx (cl.getD p [])))/\(cl.getD p []).length=m:=by have:= AlE C a;rw[Au6] at this;exact this
theorem AlP(h:e<u.length):atI (tx u).cps.toList (e:Int)=some (u.getD e 0):=by have:= Abt h;rw[Au6] at this;exact this
theorem YJ(T:Txt K mg t):Bl P w K mg base CX0 1 t.AaG t.AaH ["rows", "one", "other"] (AlO K):=by
 refine T.AaX.F.ok X6 ?_;rintro _ _ _ _ H _ Q E l ⟨a,cl,m,n,u,v,rfl,f,C,h,o,k1,d⟩;have e:=C.m40;have n1:=C.n1;obtain⟨j,l0⟩:=Ahd C (p:=0) (by exact Ar.c5 n1);refine⟨_,(Ac (Ba (i:=3) X6.nd Z (Or.inl Z) (Ai Bs Z T.BJ Bj (Aa (Az (Aw (K:=K)) (pv 0) Af (λ_ _=>rfl)) Ab)))
  (Ac (Bd (PW.pt (pw_and (Ah Ge (pv 1) (pv 3) (Ax _)) (pw_and1 (Ah Z3 (pv 2) (pv 3) (Ax _)))))
   (Ad (Ay (Ea Ci (Az Hs (Az (Aw (K:=K)) (pv 0) (Bx G6 (pv 2) (pv 3)) (λ_ _=>rfl)) (pv 1) (λ_ _=>rfl)) Av (Ax _))))
   Ao)
  (Ac (Bd (PW.pt (pw_and (Ah Ge (pv 2) (pv 3) (Ax _)) (pw_and1 (Ah Z3 (pv 1) (pv 3) (Ax _)))))
   (Ad (Ay (Ea Ci (Az Hs (Az (Aw (K:=K)) (pv 0) (Bx G6 (pv 1) (pv 3)) (λ_ _=>rfl)) (pv 2) (λ_ _=>rfl)) Av (Ax _))))
   Ao)
  (Ad (Ay Gb))))),?_⟩;refine⟨_,Z,_,_,_,_,Z,Z,f,j,_,Z,(by rw[Al,l0];exact Cv e),?_⟩;rw[Al,l0];by_cases h1:u<m
 ·by_cases h2:v<m
  ·refine⟨_,Z,_,Z,_,_,Z,Z,_,Z,?_⟩;refine Jx (by exact Ar.f5 h1) ?_;refine⟨_,Z,_,Z,_,_,Z,Z,_,Z,?_⟩;refine CZ (by exact Ar.e6 (Ar.f5 h2)) ?_;refine⟨_,Z,_,Z,_,_,Z,Z,_,Z,?_⟩;refine Jx (by exact Ar.f5 h2) ?_;refine⟨_,Z,_,Z,_,_,Z,Z,_,Z,?_⟩;refine CZ (by exact Ar.e6 (Ar.f5 h1)) ?_;exact d (V5 C h ⟨λ_=>h2,λ_=>h1⟩)
  ·obtain⟨p,rfl⟩:∃ p,v=m+p:=⟨v-m,by exact Ar.h4 (Ar.d4 h2)⟩;have b:p<n:=by omega
   obtain⟨e1,c⟩:=Ahd C b;have e2:=AlP (by rw[c];exact h1);refine⟨_,Z,_,Z,_,_,Z,Z,_,Z,?_⟩;refine Jx (by exact Ar.f5 h1) ?_;refine⟨_,Z,_,Z,_,_,Z,Z,_,Z,?_⟩;refine Jx (by omega) ?_;refine⟨_,Z,_,Z,_,Z,_,_,Z,Z,?_⟩
   try dsimp only
   rw[show((m+p:Nat):Int)-(m:Int)=(p:Int) by omega];refine⟨_,_,_,_,Z,Z,f,e1,_,Z,_,_,_,Z,Z,(by rw[Al,c];exact Cv e),e2,Z,?_⟩;rw[Asq];by_cases h3:sg2 cl p u=35
   ·have:= k1 ((Zy C h1 b).mpr h3);rw[show decide ((cl.getD p []).getD u 0=35)=true from zN h3];exact this
   ·have:= d (λz=>h3 ((Zy C h1 b).mp z));rw[show decide ((cl.getD p []).getD u 0=35)=false from zJ h3];exact this
 ·obtain⟨p,rfl⟩:∃ p,u=m+p:=⟨u-m,by exact Ar.h4 (Ar.d4 h1)⟩;have b:p<n:=by omega
  refine⟨_,Z,_,Z,_,_,Z,Z,_,Z,?_⟩;refine CZ (by lia) (Iz ?_);by_cases h2:v<m
  ·obtain⟨e1,c⟩:=Ahd C b;have e2:=AlP (by rw[c];exact h2);refine⟨_,Z,_,Z,_,_,Z,Z,_,Z,?_⟩;refine Jx (by exact Ar.f5 h2) ?_;refine⟨_,Z,_,Z,_,_,Z,Z,_,Z,?_⟩;refine Jx (by omega) ?_;refine⟨_,Z,_,Z,_,Z,_,_,Z,Z,?_⟩
   try dsimp only
   rw[show((m+p:Nat):Int)-(m:Int)=(p:Int) by omega];refine⟨_,_,_,_,Z,Z,f,e1,_,Z,_,_,_,Z,Z,(by rw[Al,c];exact Cv e),e2,Z,?_⟩;rw[Asr];by_cases h3:sg2 cl p v=46
   ·have:= k1 ((V4 C h2 b).mpr h3);rw[show decide ((cl.getD p []).getD v 0=46)=true from zN h3];exact this
   ·have:= d (λz=>h3 ((V4 C h2 b).mp z));rw[show decide ((cl.getD p []).getD v 0=46)=false from zJ h3];exact this
  ·refine⟨_,Z,_,Z,_,_,Z,Z,_,Z,?_⟩;refine CZ (by exact Ar.i3 (Ar.a1 h2)) (Iz ?_);exact d (V5 C h ⟨λz=>absurd z (by exact Ar.e8 (Ar.f8 h1)),λz=>absurd z h2⟩)
inductive Ajo (vs:Na)(H:Hp)(Q:VK)(z3:XK):Prop
|mk(z:Int)(_:vs=[.int z])(_:Q (.bl true) H)
theorem V6(T:Txt K mg t):Bl P w K mg base CX0 1 t.Yz t.Y0 ["found"] Ajo:=by refine T.Wx.F.ok Ad0 ?_;rintro _ _ _ _ H _ Q E a ⟨z,rfl,k⟩;refine⟨_,(Ad (Ay (Ajz (Ai (Eu (K:=K)) Z T.Dh CJ (Aa (pv 0) (Aa (GQ (v:=.ty "int") Z T.Ao0 AjQ Z) Ab))) (Ajy (AoP (Ai (Eu (K:=K)) Z T.Dh CJ (Aa (pv 0) (Aa (GQ (v:=.ty "bool") Z T.ApQ AmJ Z) Ab)))))))),?_⟩;refine⟨_,Z,_,_,true,.int _,.inl ⟨_,Z,Gx K _⟩,_,Z,?_⟩;exact⟨_,Z,_,_,false,.int _,.inl ⟨_,Z,Ap4 K⟩,_,Z,k⟩
structure Cn (N:Nat)(l ks:NA):Prop where
 len:ks.length=N
 at_:∀ k,k<N->ks[k]?=some ((l.count ((k:Nat):Int):Nat):Int)
theorem Cn.nil(N:Nat):Cn N [] (List.replicate N 0):=⟨Au8 ..,λk h=>by rw[Av2,if_pos h];rfl⟩
theorem Cn.step{l:NA}(c:Cn N l ks){z:Int}(b:0<=z)(h1:z<(N:Int)):Cn N (l++[z]) (ks.set z.toNat (((l.count z:Nat):Int)+1)):=by
 refine⟨by rw[Avm];exact c.len,λk hk=>?_⟩;by_cases e:z.toNat=k
 ·have a:z=(k:Int):=by lia
  rw[e,AuW (by rw[c.len];exact hk),a];simp
 ·have ne:z≠(k:Int):=by lia
  rw[Avl e,c.at_ k hk];simp[ne]
theorem Cn.all{l:NA}(c:Cn N l ks)(p:l.Perm ((List.range N).map λk=>((k:Nat):Int))):ks=List.replicate N 1:=by
 refine AuL λk=>?_;by_cases h:k<N
 ·rw[c.at_ k h,Av2,if_pos h,p.count_eq];have nd:((List.range N).map λk=>((k:Nat):Int)).Nodup:=by
   show List.Pairwise _ _;rw[AuI];exact List.nodup_range.imp λ{a b} h e=>h (by exact Ar.b1 e)
  rw[nd.count];rw[if_pos (yC.mpr ⟨k,yE.mpr h,Z⟩)];rfl
 ·rw[Au0 (by rw[c.len];exact Ar.a1 h),Au0 (by rw[Au8];exact Ar.a1 h)]
inductive AnV (vs:Na)(H:Hp)(Q:VK)(z3:XK):Prop
|mk(l:Addr)(rs:NU)(tss:NV)(up:Nat->Nat->Bool)(m:Nat)(n:Nat)(zs:List (Nat × Nat))(eo:NI)(po:NI)(_:vs=[.ref l,.int ((m:Int)+(n:Int))])(_:NL H l rs tss)(_:Lay up m n tss zs eo po)(_:m+n<64)(_:∀ H',Aq H H'->Q (.bl true) H')
theorem AfU(T:Txt K mg t):Bl P w K mg base CX0 2 t.AaI t.AaJ ["found", "strands"] AnV:=by
 refine T.Af4.F.ok Gg ?_;rintro _ _ _ _ H _ Q E hr ⟨l,rs,tss,up,m,n,zs,eo,po,rfl,N,L,I,k⟩;have hsz:=z8;refine⟨_,(Ac (Bd (CQ (Ck (Ai (Eu (K:=K)) Z T.Dh CJ (Aa (pv 0) (Aa (GQ (v:=.ty "list") Z T.Gu Fb Z) Ab)))))
   (Ad (Ay Gb))
   Ao)
  (Ac (Ba (i:=2) Gg.nd Z (Or.inl Z) (Bx ZF (Cp (Aa Af Ab)) (pv 1)))
  (Ac (BX PassesOwn.never Z (Bq (K:=K) (pv 0)) (Bp (i:=3) Gg.nd Z (Or.inl Z))
   (Ac (Bd (PW.pt (pw_or (CQ (Ck (Ai (Eu (K:=K)) Z T.Dh CJ (Aa (pv 3) (Aa (GQ (v:=.ty "list") Z T.Gu Fb Z) Ab))))) (pw_or1 (Ah Ci (Ai (Ak (K:=K)) Z T.BJ Bj (Aa (pv 3) Ab)) Af (Ax _)))))
    (Ad (Ay Gb))
    Ao)
   (Ac (Ba (i:=4) Gg.nd Z (Or.inl Z) (S5 Ld Af))
   (Ad (BX PassesOwn.never Z (Bq (K:=K) (pv 3)) (Bp (i:=5) Gg.nd Z (Or.inl Z))
    (Ac (Bd (PW.pt (pw_or (CQ (Ck (Bg T.Wx (V6 T) hr (Aa (pv 5) Ab)))) (pw_or (Ah Aj7 (pv 5) (pv 4) (Ax _)) (pw_or1 (Ah Z3 (pv 5) (pv 1) (Ax _))))))
     (Ad (Ay Gb))
     Ao)
    (Ac (AcU (Bx Ey (Az (Aw (K:=K)) (pv 2) (pv 5) (λ_ _=>rfl)) Af) (Aj3 (pv 2) (pv 5) set_list))
    (Ad (Ba (i:=4) Gg.nd Z (Or.inl Z) (pv 5))))))))))
  (Ad (Ay (Ea (Ahp (K:=K) (hr.AjE)) (pv 2) (Bx ZF (Cp (Aa Af Ab)) (pv 1)) (Ax _))))))),?_⟩;refine⟨_,Z,_,_,true,.lst N.h,.inl ⟨_,Z,Gx K _⟩,_,Z,?_⟩;refine⟨(by show 1<=sizeLine;decide),λp hp=>?_⟩;refine⟨_,Z,_,_,_,Z,Z,Ae,(by exact Ar.m3),(by exact Ar.m1 (Ar.c3 I)),(by grind),λq hq=>?_⟩;rw[show((m:Int)+(n:Int)).toNat=m+n by exact Ar.f1,AlN];have s1:Aq H (upd H p (.lst [.int 0])):=.upd hp;have nq:=s1.free hq;have s2:Aq H (upd (upd H p (.lst [.int 0])) q (.lst (vI (List.replicate (m+n) 0)))):=s1.new hq;have g2:(upd (upd H p (.lst [.int 0])) q (.lst (vI (List.replicate (m+n) 0)))) q=some (.lst (vI (List.replicate (m+n) 0))):=Ae;have rl:(rs.map V.ref).length=tss.length:=by rw[AtG,N.l]
 refine⟨_,Z,_,Z,⟨_,SqL.of (s2 _ _ N.h)⟩,Cr (λi σ y=>∃(ks:NA)(M v4 J:Option V),σ=[some (.ref l),some (.int ((m:Int)+(n:Int))),some (.ref q),M,v4,J]/\Aq H y/\y q=some (.lst (vI ks))/\Cn (m+n) (tss.take i).flatten ks)
  ⟨_,none,none,none,Z,s2,g2,by exact Cn.nil (m+n)⟩ (λi σ y _ ⟨_,_,_,_,_,s,_⟩=>SqL.of (s _ _ N.h)) ?_ ?_⟩
 ·rintro i x σ y O ⟨ks,M,v4,J,rfl,s,g3,U⟩;have N3:=N.same s;obtain⟨r,ts,rfl,Y,d,c⟩:=N3.at O;have hi:=(zC.mp d).1;have e2:=Option.some.inj (d.symm.trans (AtF hi));subst e2;have a0:r≠q:=λe=>by
   have z:=N.r i r _ Y d;rw[e,nq] at z;cases z
  refine⟨_,Z,_,_,true,.lst c,.inl ⟨_,Z,Gx K _⟩,_,Z,?_⟩;refine⟨_,Z,_,_,Z,.inl (SqL.of c),Z,_,Z,?_⟩;have ne:=L.ne hi;refine Dj (λh=>?_) (λ_=>?_)
  ·exfalso;rw[Bh] at h;lia
  refine⟨_,Z,?_⟩;refine⟨_,Z,_,Z,⟨_,SqL.of c⟩,Cr (λj σ u=>∃(ks:NA)(J:Option V)(b:Int),σ=[some (.ref l),some (.int ((m:Int)+(n:Int))),some (.ref q),some (.ref r),some (.int b),J]/\Aq H u/\u q=some (.lst (vI ks))/\u r=some (.lst (vI tss[i]))/\Cn (m+n) ((tss.take i).flatten++tss[i].take j) ks/\∀(h:j<tss[i].length),b<tss[i][j])
   ⟨ks,_,_,Z,s,g3,c,by simp_all,λh=>?_⟩ (λj σ u _ ⟨_,_,_,_,_,_,h,_⟩=>SqL.of h) ?_ ?_⟩
  ·have:= L.mem hi (AtT h);omega
  ·rintro j x σ u O ⟨A,X,b,rfl,W,g4,D,a,hb⟩;obtain⟨z,hz,rfl⟩:=Ek O;have C:=(zC.mp hz).1;have S:=Option.some.inj (hz.symm.trans (AtF C));have f:=L.mem hi (AtT C);have B:=hb C;rw[<- S] at f B;refine⟨_,Z,_,Z,_,Z,?_⟩;refine⟨_,Z,_,Z,_,_,Z,Z,_,Z,?_⟩;refine Dj (λh=>absurd h (by exact Ar.e6 B)) (λ_=>?_);refine⟨_,Z,_,Z,_,_,Z,Z,_,Z,?_⟩;refine Dj (λh=>absurd h (by exact Ar.e6 f.2)) (λ_=>?_);have zk:((z.toNat:Nat):Int)=z:=by lia
   have e1:(vI A)[z.toNat]?=some (.int ((((tss.take i).flatten++tss[i].take j).count z:Nat):Int)):=by
    have:= a.at_ z.toNat (by lia);rw[zk] at this;exact Fw this
   refine⟨_,Z,_,Z,_,_,_,_,Z,Z,SqL.of g4,Br f.1 e1,_,_,Z,Z,_,Z,_,Z,_,_,_,_,Z,Z,g4,AjR f.1 (by rw[Bh,a.len];exact Ar.f9 (Ar.e6 f.2)),?_⟩;rw[Ap1];refine⟨_,Z,?_⟩;refine⟨_,_,_,Z,W.over nq,Ae,by rw[Aj a0];exact D,?_,λh=>?_⟩
   ·rw[Av9 C,<- Auk,<- S];exact a.step f.1 (by exact Ar.f9 (Ar.e6 f.2))
   ·rw[S];exact List.pairwise_iff_getElem.mp (L.inc hi) j (j+1) C h (by exact Ar.i1)
  ·rintro σ u ⟨A,X,b,rfl,W,g4,D,a,hb⟩;refine⟨_,_,_,_,Z,W,g4,?_⟩;rw[Bh,Aue] at a;rw[Av9 hi,AvL,Auq,List.flatten_nil,Aum];exact a
 ·rintro σ y ⟨ks,M,v4,J,rfl,s,g3,U⟩;rw[rl,Aue] at U;have e:=U.all L.all;subst e;refine⟨_,Z,(by show 1<=sizeLine;decide),λp2 R=>?_⟩;refine⟨_,Z,_,_,_,Z,Z,Ae,(by exact Ar.m3),(by exact Ar.m1 (Ar.c3 I)),(by grind),λq2 a6=>?_⟩;rw[show((m:Int)+(n:Int)).toNat=m+n by exact Ar.f1,AlN];have s5:=(Aq.upd R).new a6 (o:=.lst (vI (List.replicate (m+n) 1)));refine⟨_,_,_,_,Z,Z,SqL.of (s5 _ _ g3),SqL.of Ae,Gj _,Gj _,?_⟩;rw[ZK (Gj _)];exact k _ (s.trans s5)
abbrev RdW (tss:NV)(ws fs:NI):Prop:=Rd tss ws fs
theorem AoC:upC cl e p=decide (sg2 cl p e=35):=by unfold upC sg2;rw[AuR,beq_iff_eq,decide_eq_true_iff]
theorem Aqv(C:Cl cl m n)(a:p<n)(b:e<m):upC cl e p=false↔sg2 cl p e=46:=by
 rw[AoC,decide_eq_false_iff_not];have c:=Aeh C a b;constructor
 ·intro h;rcases c with z | z
  ·exact absurd z h
  ·exact z
 ·simp_all
theorem Lay.AnW(C:Cl cl m n)(L:Lay (upC cl) m n tss zs eo po)(hi:i<tss.length)(b:j<tss.length)(lt:i<j){u:Nat}(d:((u:Nat):Int)∈tss[j])(a:((v:Nat):Int)∈tss[i]):¬ovr cl m u v:=λz=>by
 have f:=L.mem b d;have h:=L.mem hi a;by_cases h1:u<m
 ·by_cases h2:v<m
  ·exact V5 C (by exact Ar.f6 f.2) (by constructor <;> intro <;> assumption) z
  ·have e:m+(v-m)=v:=by exact Ar.d4 h2
   have c:=(L.cross b hi h1 d (by rw[e];exact a)).2 lt;rw[<- e,Zy C h1 (by omega)] at z;rw[Aqv C (by omega) h1,z] at c;cases c
 ·by_cases h2:v<m
  ·have e:m+(u-m)=u:=by exact Ar.d4 h1
   have c:=(L.cross hi b h2 a (by rw[e];exact d)).1 lt;rw[<- e,V4 C h2 (by omega)] at z;rw[(Aqv C (by omega) h2).mpr z] at c;cases c
  ·exact V5 C (by exact Ar.f6 f.2) (by grind) z
inductive AlQ (K:NF)(vs:Na)(H:Hp)(Q:VK)(z3:XK):Prop
|mk(a:Addr)(l:Addr)(cl:NN)(m:Nat)(n:Nat)(rs:NU)(tss:NV)(zs:List (Nat × Nat))(eo:NI)(po:NI)(_:vs=[.ref a,.ref l])(_:SqL K H a (vS cl))(_:Cl cl m n)(_:NL H l rs tss)(_:Lay (upC cl) m n tss zs eo po)(_:m+n<64)(_:∀ H',Aq H H'->Q (.bl true) H')
theorem Aei(T:Txt K mg t):Bl P w K mg base CX0 2 t.Y8 t.Y9 ["rows", "layers"] (AlQ K):=by
 refine T.AcB.F.ok Fl ?_;rintro _ _ _ _ H _ Q E hr ⟨a,l,cl,m,n,rs,tss,zs,eo,po,rfl,hA,C,N,L,ae,k⟩;have hsz:=z8;have h0:0<cl.length:=by rw[C.hn];exact C.n1
 have D:=C.hm cl[0] (AtT h0);have rl:(rs.map V.ref).length=tss.length:=by rw[AtG,N.l]
 have few:=L.few;refine⟨_,(Ac (Ba (i:=2) Fl.nd Z (Or.inl Z) (Ai Bs Z T.BJ Bj (Aa (Az (Aw (K:=K)) (pv 0) Af (λ_ _=>rfl)) Ab)))
  (Ac (BX PassesOwn.never Z (Ca Z T.Cq (Aa (Ai (Ak (K:=K)) Z T.BJ Bj (Aa (pv 1) Ab)) Ab)) (Bp (i:=3) Fl.nd Z (Or.inl Z))
   (Ac (BX PassesOwn.never Z (Bq (K:=K) (Cy (Ds (K:=K)) (pv 1) (Cu (Bx Ey (pv 3) Af)) Ej)) (Bp (i:=4) Fl.nd Z (Or.inl Z))
    (Ad (BX PassesOwn.never Z (Bq (K:=K) (pv 4)) (Bp (i:=5) Fl.nd Z (Or.inr Z))
     (Ad (Bd (Ck (Ai (Wb (K:=K)) Z T.AkL Agy (Aa (Cg (cok [0,5] ["strand", "rows", "lower"] Fl) Z (Bq (K:=K) (Az (Aw (K:=K)) (pv 1) (pv 3) (λ_ _=>rfl))) (λ_ _ _ _ _=>.nil) (λ_ _ _ _ _=>(Bg T.AaX (YJ T) hr (Aa (pv 1) (Aa (pv 2) (Aa (pv 0) Ab)))))) Ab)))
      (Ad (Ay Gb))
      Ao)))))
   (Ad (Bd (PW.pt (pw_and (Ah HF (pv 3) Af (Ax _)) (pw_and (Ah Ci (Ai (Ak (K:=K)) Z T.BJ Bj (Aa (Az (Aw (K:=K)) (pv 1) (pv 3) (λ_ _=>rfl)) Ab)) Af (Ax _)) (pw_and1 (Ah Ci (Ai (Ak (K:=K)) Z T.BJ Bj (Aa (Az (Aw (K:=K)) (pv 1) (Bx G6 (pv 3) Af) (λ_ _=>rfl)) Ab)) Af (Ax _))))))
    (Ad (Bd (PW.pt (pw_and (Ah Ci (Ea Ge (Az (Aw (K:=K)) (Az (Aw (K:=K)) (pv 1) (pv 3) (λ_ _=>rfl)) Af (λ_ _=>rfl)) (pv 2) (Ax _)) (Ea Ge (Az (Aw (K:=K)) (Az (Aw (K:=K)) (pv 1) (Bx G6 (pv 3) Af) (λ_ _=>rfl)) Af (λ_ _=>rfl)) (pv 2) (Ax _)) (Ax _)) (pw_and1 (Ah Ge (Az (Aw (K:=K)) (Az (Aw (K:=K)) (pv 1) (pv 3) (λ_ _=>rfl)) Af (λ_ _=>rfl)) (Az (Aw (K:=K)) (Az (Aw (K:=K)) (pv 1) (Bx G6 (pv 3) Af) (λ_ _=>rfl)) Af (λ_ _=>rfl)) (Ax _)))))
     (Ad (Ay Gb))
     Ao))
    Ao))))
  (Ad (Ay Gb)))),?_⟩;refine⟨_,Z,_,_,_,_,Z,Z,hA,Br (by decide) (ZM (AtF h0)),_,Z,(by rw[Al,D];exact Cv C.m40),?_⟩;rw[Al,D];refine⟨_,Z,_,_,Z,.inl (SqL.of N.h),_,Z,(by rw[rl];exact Ar.a7),(by rw[rl];lia),?_⟩;rw[rl,Auh];refine Dw (λi σ H2=>∃ Y M e,σ=[some (.ref a),some (.ref l),some (.int (m:Int)),Y,M,e]/\Aq H H2) ⟨none,none,none,Z,.refl _⟩ ?_ ?_
 ·rintro i σ H2 hi ⟨Y,M,e,rfl,W⟩;have N2:=N.same W;have r1:i<rs.length:=by rw[N.l];exact hi
  have g1:=N.r i _ _ (AtF r1) (AtF hi);have a1:atI (rs.map V.ref) (0+(i:Int))=some (.ref rs[i]):=Br (by exact Ar.a5) (by simp_all);refine⟨_,Z,_,Z,_,_,Z,Z,_,Z,_,_,Z,SqL.of N2.h,λlc aa=>?_⟩;have ct:Iv (rs.map V.ref) (some (0+(i:Int)+1)) none=(rs.drop (i+1)).map V.ref:=by
   rw[show 0+(i:Int)+1=((i+1:Nat):Int) by omega];exact AcL (by exact Ar.j4 r1)
  rw[ct];obtain⟨H3,e9,R,g3⟩:=nu9 (o:=.lst ((rs.drop (i+1)).map V.ref)) W aa;rw[e9];refine⟨_,Z,⟨_,SqL.of g3⟩,Cr (λj σ U=>∃ M e,σ=[some (.ref a),some (.ref l),some (.int (m:Int)),some (.int (0+(i:Int))),M,e]/\Aq H3 U) ⟨_,_,Z,.refl _⟩ (λj σ U _ ⟨_,_,_,B⟩=>SqL.of (B _ _ g3)) ?_ ?_⟩
  ·rintro j x σ U s ⟨a6,ab,rfl,B⟩;rw[AtQ,AuF] at s;obtain⟨r,J,rfl⟩:=zU.mp s;have hj:i+1+j<tss.length:=by rw[<- N.l];exact(zC.mp J).1
   have c:=R.trans B;have gr:=N.r (i+1+j) r _ J (AtF hj);refine⟨_,Z,_,Z,⟨_,SqL.of (c _ _ gr)⟩,Cr (λp σ I=>∃ e,σ=[some (.ref a),some (.ref l),some (.int (m:Int)),some (.int (0+(i:Int))),some (.ref r),e]/\Aq H3 I) ⟨_,Z,B⟩ (λp σ I _ ⟨_,_,A⟩=>SqL.of ((R.trans A) _ _ gr)) ?_ ?_⟩
   ·rintro p x σ I s ⟨ac,rfl,A⟩;obtain⟨z,hz,rfl⟩:=Ek s;have zm:=AtN hz;have mz:=L.mem hj zm;obtain⟨u,rfl⟩:∃ u:Nat,z=(u:Int):=⟨z.toNat,by lia⟩;have S:=R.trans A;refine⟨_,Z,_,Z,_,_,_,_,Z,Z,SqL.of (S _ _ N.h),a1,_,Z,⟨_,SqL.of (S _ _ g1)⟩,BV (xs:=vI tss[i]) (λq ys X=>X=I/\ys=vB (List.replicate q false)) ⟨Z,Z⟩ ?_ ?_ ?_ ?_⟩
    ·rintro q ys X O ⟨rfl,rfl⟩;exact⟨SqL.of (S _ _ g1),by rw[VR,Au8];exact AtH _⟩
    ·have:= AlC hi;rw[L.AlB] at this;rw[Bh];exact Ar.g5 this (Ar.c3 ae)
    ·rintro q x ys X O s ⟨rfl,rfl⟩;obtain⟨y,hy,rfl⟩:=Ek s;have ym:=AtN hy;have my:=L.mem hi ym;obtain⟨v,rfl⟩:∃ v:Nat,y=(v:Int):=⟨y.toNat,by lia⟩;refine⟨_,Z,_,Z,_,Z,a,cl,m,n,u,v,Z,S.seq hA,C,by exact Ar.f6 mz.2,by exact Ar.f6 my.2,λh=>absurd h (L.AnW C hi hj (by exact Ar.a3) zm ym),λ_=>?_⟩;refine CN.of O ⟨Z,?_⟩;rw[Avz,Wa]
    ·rintro ys X q ⟨rfl,rfl⟩ O;refine⟨_,_,Z,SqL.of Ae,_,Z,?_⟩;rw[show(List.replicate (vI tss[i]).length false).any id=false by rw[AvE];intro b hb;rw[AvD hb];decide];exact⟨_,Z,A.new O⟩
   ·rintro σ I ⟨ac,rfl,A⟩;exact⟨_,_,Z,A⟩
  ·rintro σ U ⟨a6,ab,rfl,B⟩;have c:=R.trans B;have f:=N.same c;have d:=c _ _ g1;refine⟨_,Z,_,_,Z,Z,_,Z,?_⟩;refine Dj (λhp=>?_) (λ_=>?_)
   ·have h2:i-1<tss.length:=by exact Ar.c5 hi
    have r2:i-1<rs.length:=by exact Ar.c5 r1
    have g2:=c _ _ (N.r (i-1) _ _ (AtF r2) (AtF h2));have a2:atI (rs.map V.ref) (0+(i:Int)-1)=some (.ref rs[i-1]):=Br (by lia) (by simp_all);refine⟨_,Z,_,Z,_,_,_,_,Z,Z,SqL.of f.h,a1,_,_,Z,.inl (SqL.of d),Z,_,Z,?_⟩;refine Dj (λl1=>?_) (λ_=>?_)
    ·refine⟨_,Z,_,Z,_,_,Z,Z,_,_,_,_,Z,Z,SqL.of f.h,a2,_,_,Z,.inl (SqL.of g2),Z,_,Z,?_⟩;refine Dj (λl2=>?_) (λ_=>?_)
     ·have a0:tss[i].length=1:=by rw[Bh] at l1;lia
      have af:tss[i-1].length=1:=by rw[Bh] at l2;lia
      obtain⟨x,ex⟩:∃ x,tss[i]=[x]:=List.length_eq_one_iff.mp a0;obtain⟨y,ey⟩:∃ y,tss[i-1]=[y]:=List.length_eq_one_iff.mp af;have bn:((y<(m:Int))↔(x<(m:Int)))->y<x:=L.Ar9 (by lia) ey (by
       grind)
      rw[ex] at d;rw[ey] at g2;have b1:atI (vI [x]) 0=some (.int x):=Br (by decide) Z;have b2:atI (vI [y]) 0=some (.int y):=Br (by decide) Z;refine⟨_,Z,_,Z,_,_,_,_,Z,Z,SqL.of f.h,a1,_,_,_,_,Z,Z,SqL.of d,b1,_,Z,_,_,Z,Z,_,Z,_,Z,_,_,Z,Z,_,_,_,_,Z,Z,SqL.of f.h,a2,_,_,_,_,Z,Z,SqL.of g2,b2,_,Z,_,_,Z,Z,Z,_,Z,?_⟩;refine Dj (λhs=>?_) (λ_=>?_)
      ·refine⟨_,Z,_,Z,_,_,_,_,Z,Z,SqL.of f.h,a1,_,_,_,_,Z,Z,SqL.of d,b1,_,Z,_,Z,_,_,Z,Z,_,_,_,_,Z,Z,SqL.of f.h,a2,_,_,_,_,Z,Z,SqL.of g2,b2,_,_,Z,Z,_,Z,?_⟩;refine Dj (λh=>?_) (λ_=>?_)
       ·exfalso;grind
       ·exact⟨_,_,_,Z,c⟩
      ·exact⟨_,_,_,Z,c⟩
     ·exact⟨_,_,_,Z,c⟩
    ·exact⟨_,_,_,Z,c⟩
   ·exact⟨_,_,_,Z,c⟩
 ·rintro σ H2 ⟨Y,M,e,rfl,W⟩;exact k _ W
theorem Aqw(C:Cl cl m n)(d:dA.Perm (eS cl m))(i:dB.Perm (pS cl))(a:dA.Pairwise (· ≥ ·))(e:dB.Pairwise (· ≥ ·))
  (b:Ord (aS (upC cl) n) m eo) (c:Ord (bS (upC cl) m) n po) (s t:Nat) (o:s<=m) (f:t<=n) (h:sm (aS (upC cl) n) (eo.take s)+sm (bS (upC cl) m) (po.take t)+s*t=s*n+t*m):(s,t)∈Ig (Pz m n dA dB) n (m+1):=by
 have j:=Ol (d.trans (by rw[Ahy C];exact(b.perm.map _).symm)) a (Zx b);have l:=Ol (i.trans (by rw[Ahz C];exact(c.perm.map _).symm)) e (Zx c);refine IV.mpr ⟨by grind,f,?_⟩;show Pz m n dA dB s t=true;refine zN ?_;rw[j,l,<- Au9,<- Au9,Ie,Ie];lia
theorem AfV:∀{l:NA},(∀ z∈l,0<=z)->∃ ws:NI,l=cI ws
 | [],_=>⟨[],Z⟩
 | z::l,h=>by
  obtain⟨ws,e⟩:=AfV λx a=>h x (AtL z a);have:= h z AtJ;exact⟨z.toNat::ws,by unfold cI at e ⊢;rw[AtM,<- e,show((z.toNat:Nat):Int)=z by omega]⟩
inductive Aqx (vs:Na)(H:Hp)(Q:VK)(z3:XK):Prop
|mk(_:vs=[.bl true])(_:Q .non H)
theorem Q6(T:Txt K mg t):Bl P w K mg base CX0 1 t.Jm t.Jo ["fits"] Aqx:=by
 refine T.Fv.F.ok Q0 ?_;rintro _ _ _ _ H _ Q E a ⟨rfl,k1⟩;exact⟨_,(Ad (Bd (CQ (Ip (K:=K) (pv 0) (λ_=>rfl)))
   (Ad Bc)
   Ao)),_,Z,_,Z,Iz k1⟩
inductive Aqy (vs:Na)(H:Hp)(Q:VK)(z3:XK):Prop
|mk(u:NI)(_:vs=[.str (tx u)])(_:u.length<=1000000)(_:Pat.isName u=true)(_:∀ H',Aq H H'->Q .non H')
theorem AbL(T:Txt K mg t):Bl P w K mg base CX0 2 t.Vc t.Vd ["word"] Aqy:=by
 refine T.AaU.F.ok Ab1 ?_;rintro _ _ _ _ H _ Q E a ⟨u,rfl,b,e,k1⟩;refine⟨_,(Ad (Bd (CQ (Ck (Bg T.Qu (Sx T) a (Aa (pv 0) Ab))))
   (Ad Bc)
   Ao)),?_⟩;refine⟨_,Z,u,Z,b,λH' s'=>⟨_,Z,?_⟩⟩;rw[e];exact Iz (k1 _ s')
def clW:NI:=[99,108,111,116,104]
def Aej:NI:=[108,97,121,101,114,115]
theorem AnX:(Str.ofString "cloth")=tx clW:=by decide +kernel
theorem AnY:(Str.ofString "layers")=tx Aej:=by decide +kernel
def wdQ (b:Bool):NI:=if b=true then Aej else clW
abbrev Aek:Str := "layers_of.<locals>.<lambda>"
theorem NL.La(N:NL H y rs tss)(s:Eo H H'):NL H' y rs tss:=⟨s.lst N.h,N.l,λi a ks h1 h2=>s.lst (N.r i a ks h1 h2)⟩
theorem Kn.La(h:Kn H kp kn)(s:Eo H H'):Kn H' kp kn:=by obtain⟨as,h1,h2,h3⟩:=h;refine⟨as,s.lst h1,h2,λi a p b g2=>?_⟩;obtain⟨q,e1,e2⟩:=h3 i a p b g2;exact⟨q,s.tup e1,s.lst e2⟩
theorem Eh(s:Aq H H'):Eo H H':=λb o e _=>s b o e
def Wys (H:Hp)(x:NN)(m n:Nat)(tss:NV)(ws:NU):Prop:=∀(i:Nat) w ts,ws[i]?=some w->tss[i]?=some ts->∃ ks fs,ts=cI ks/\NS (m+n) ks/\H w=some (.lst (vI (cI fs)))/\RdW (lows x m) ks fs
def An (b:Bool)(H:Hp)(a:Addr)(x:NN):Prop:=if b=true then
  ∃(m n:Nat)(l l2:Addr)(rs:NU)(tss:NV)(zs:List (Nat × Nat))(eo po:NI)(ws:NU),Cl x m n/\H a=some (.tup [.str (tx Aej),.ref l,.ref l2])/\NL H l rs tss/\Lay (upC x) m n tss zs eo po/\H l2=some (.lst (ws.map V.ref))/\ws.length=tss.length/\Wys H x m n tss ws
 else ∃ l,H a=some (.tup [.str (tx clW),.ref l])/\H l=some (.lst (vS x))
theorem Wys.La{ws:NU}(h:Wys H x m n tss ws)(s:Eo H H'):Wys H' x m n tss ws:=λi w a e1 e2=>by
 obtain⟨ks,fs,h1,h2,h3,h4⟩:=h i w a e1 e2;exact⟨ks,fs,h1,h2,s.lst h3,h4⟩
theorem An.La{b:Bool}(h:An b H a x)(s:Eo H H'):An b H' a x:=by
 cases b with
 | true =>
  obtain⟨m,n,l,d,rs,tss,zs,eo,po,ws,C,h1,N,L,h2,c,e⟩:=h;exact⟨m,n,l,d,rs,tss,zs,eo,po,ws,C,s.tup h1,N.La s,L,s.lst h2,c,e.La s⟩
 | false =>
  obtain⟨l,h1,h2⟩:=h;exact⟨l,s.tup h1,s.lst h2⟩
inductive Aqz (tT:Addr)(vs:Na)(H:Hp)(Q:VK)(z3:XK):Prop
|mk(lt:Addr)(bk:Addr)(z:NI)(kn:Kns)(x:NN)(m:Nat)(n:Nat)(b:Bool)(_:vs=[.str (tx (wdQ b)),.ref lt,.ref bk])(_:H lt=some (.lst (vS [z])))(_:Kn H bk kn)(_:z.length<=1000000)(_:Pat.isName z=true)(_:known kn z=.ok x)(_:Cl x m n)(_:m+n<64)(_:Tb tT Aek H)(_:∀ a H',Eo H H'->Tb tT Aek H'->An b H' a x->Q (.ref a) H')
theorem Ael(T:Txt K mg t)(ab:t.DQ.code=.ref tc)(ae:W.CodeHd base tc tT)(aa:Bm mg base):Bl P w K mg base CX0 7 t.Yx t.Yy ["word", "things", "book"] (Aqz tT):=by
 refine T.Ac7.F.ok Ij ?_;rintro _ _ _ _ H _ Q E M ⟨lt,bk,z,kn,x,m,n,b,rfl,A,hK,zl,nm,hx,C,ac,tb,k⟩;have hsz:=z8;have a0:atI (vS [z]) 0=some (V.str (tx z)):=rfl;refine⟨_,(Ac (Bo (Eb ((Q6 T).mono (by decide)) M Z T.Fv.m T.Fv.F.kp T.Fv.b .nil BK (Aa (Ea Ci (Ai (Ak) Z T.BJ Bj (Aa (pv 1) Ab)) Af (Ax _)) Ab)))
  (Ac (Bo (Bg T.AaU (AbL T) M (Aa (Az (Aw (K:=K)) (pv 1) Af (λ_ _=>rfl)) Ab)))
  (Ac (Ba (i:=3) Ij.nd Z (Or.inr Z) (Bg T.Hn (Qi T) M (Aa (Az (Aw (K:=K)) (pv 1) Af (λ_ _=>rfl)) (Aa (pv 2) Ab))))
  (Ac (Bd (Ah Ci (pv 0) Av (Ax _))
   (Ad (Ay (Ir (Aa Av (Aa (Cw (Et (K:=K)) Z T.Gu Fb (Aa (pv 3) Ab)) Ab)))))
   Ao)
  (Ac (Bd (Ah Ci (pv 0) Av (Ax _))
   (Ac (Ba (i:=4) Ij.nd Z (Or.inl Z) (Bg T.Ww (Aeb T ab ae aa) M (Aa (pv 3) Ab)))
   (Ad (Ay (Ir (Aa Av (Aa (pv 4) (Aa (Cg (cok [3] ["layer", "cloth"] Ij) Z (Bq (K:=K) (pv 4)) (λ_ _ _ _ _=>.nil) (λ_ _ _ _ _=>(Bg T.Ac5 (Aeg T) M (Aa (pv 1) (Aa (pv 0) Ab))))) Ab)))))))
   Ao)
  (Ac (Bd (Ah Ci (pv 0) Av (Ax _))
   (Ad Bc)
   Ao)
  (Ac (Bd (Ah Ci (pv 0) Av (Ax _))
   (Ad Bc)
   Ao)
  (Ad Bc)))))))),?_⟩;refine⟨_,Z,_,_,Z,.inl (SqL.of A),Z,(by rfl),?_⟩;refine⟨_,Z,_,_,_,_,Z,Z,SqL.of A,a0,z,Z,zl,nm,λH1 s1=>?_⟩;refine⟨_,Z,_,_,_,_,Z,Z,SqL.of (s1 _ _ A),a0,_,Z,z,bk,kn,x,Z,hK.same s1,hx,λq hq=>?_⟩;have U:=tb.same s1;refine⟨_,Z,Z,_,Z,?_⟩;cases b with
 | false =>
  refine⟨_,Z,_,_,Z,.inl (SqL.of hq),λl nl=>?_⟩;have s2:Aq H (upd H1 l (.lst (vS x))):=s1.new nl;have S:(upd H1 l (.lst (vS x))) l=some (.lst (vS x)):=Ae;have ai:=U.same (Aq.upd nl (o:=.lst (vS x)));exact⟨(by show 2<=sizeLine;decide),λa Y=>k a _ (Eh (s2.new Y)) (ai.same (.upd Y)) ⟨l,Ae,by rw[Aj (Bb S Y)];exact S⟩⟩
 | true =>
  refine⟨_,Z,Z,_,Z,?_⟩;refine⟨_,Z,q,x,m,n,Z,SqL.of hq,C,ac,U,λlf H3 rs tss dA dB eo po t3 af pA pB X Nu L N=>?_⟩;have cmp:=Aqw C pA pB X Nu L.oE L.oP;have a6:=Ads (Pz m n dA dB) n (m+1);generalize Ig (Pz m n dA dB) n (m+1)=zs at L cmp a6;have ah:=t3.lst hq;have rl:(rs.map V.ref).length=tss.length:=by rw[AtG,N.l]
  have few:=L.few;have u3:=(Eh s1).trans t3;refine⟨_,Z,_,Z,_,Z,⟨_,SqL.of N.h⟩,BV (xs:=rs.map V.ref) (λi ys f=>∃ ws:NU,ys=ws.map V.ref/\ws.length=i/\Aq H3 f/\Wys f x m n tss ws) ⟨[],Z,Z,.refl _,λi w ts e=>by simp at e⟩ ?_ ?_ ?_ ?_⟩
  ·rintro i ys f hi ⟨ws,rfl,B,s,_⟩;exact⟨SqL.of (s _ _ N.h),by simp_all⟩
  ·rw[rl];lia
  ·rintro i xv ys f hi hx ⟨ws,rfl,B,s,hw⟩;obtain⟨r,ts,rfl,aj,O,R⟩:=(N.same s).at hx;have c:=(zC.mp O).1;have e2:=Option.some.inj (O.symm.trans (AtF c));subst e2;obtain⟨ks,I⟩:=AfV λz hz=>(L.mem c hz).1;have kl:ks.length=tss[i].length:=by rw[I,Hu]
   have ne:=L.ne c;have ag:NS (m+n) ks:=by
    refine⟨λe=>by grind,?_,λv hv=>?_⟩
    ·have p:=L.inc c;rw[I] at p;unfold cI at p;rw[AuI] at p;exact p.imp λ{x y} h=>by exact Ar.f6 h
    ·have:= (L.mem c (by rw[I];exact IW.mpr hv)).2;exact Ar.f6 this
   have cn:=L.conn cmp a6 (λe p he hp=>by
     have:= Zy C he hp;unfold ovr at this;rw[this,AoC,decide_eq_true_iff]) (λe p he hp=>by
     have:= V4 C he hp;unfold ovr at this;rw[this];exact(Aqv C hp he).symm) c I
   rw[I] at R;refine⟨_,Z,_,Z,q,r,x,m,n,ks,Z,SqL.of (s _ _ ah),C,SqL.of R,ag,cn,λl fs H5 u nl hl rd=>?_⟩;refine CN.of hi ⟨ws++[l],(by rw[AtK];rfl),(by rw[AtI,B];rfl),s.trans u,λj w ts e1 e2=>?_⟩;rw[Av6] at e1;split at e1
   ·exact hw.La (Eh u) j w ts e1 e2
   ·rw[AvQ] at e1;grind
  ·rintro ys f d ⟨ws,rfl,B,s,hw⟩ D;rw[rl] at B;have u:Aq H3 (upd f d (.lst (ws.map V.ref))):=s.new D;have h5:(upd f d (.lst (ws.map V.ref))) d=some (.lst (ws.map V.ref)):=Ae;have w5:=hw.La (Eh (Aq.upd D (o:=.lst (ws.map V.ref))));generalize upd f d (.lst (ws.map V.ref))=H5 at u h5 w5 ⊢;refine⟨(by show 3<=sizeLine;decide),λa Y=>?_⟩;have J:Aq H5 (upd H5 a (.tup [.str (Str.ofString "layers"),.ref lf,.ref d])):=.upd Y;have h6:(upd H5 a (.tup [.str (Str.ofString "layers"),.ref lf,.ref d])) a=some (.tup [.str (tx Aej),.ref lf,.ref d]):=by rw[Ae,AnY]
   exact k a _ (u3.trans (Eh (u.trans J))) (af.same (u.trans J)) ⟨m,n,lf,d,rs,tss,zs,eo,po,ws,C,h6,(N.same u).same J,L,J _ _ h5,B,w5.La (Eh J)⟩
def Atx:NN:=[clW,Aej,[100,114,97,102,116],[115,104,105,102,116,115],[102,108,111,97,116,115]]
theorem AnZ:(["cloth", "layers", "draft", "shifts", "floats"]:NX)=Atx.map tx:=by decide +kernel
inductive AlR (tT:Addr)(vs:Na)(H:Hp)(Q:VK)(z3:XK):Prop
|mk(wp:Addr)(bk:Addr)(z:NI)(kn:Kns)(x:NN)(m:Nat)(n:Nat)(b:Bool)(_:vs=[.ref wp,.ref bk])(_:H wp=some (.lst (vS [wdQ b,z])))(_:Kn H bk kn)(_:z.length<=1000000)(_:Pat.isName z=true)(_:known kn z=.ok x)(_:Cl x m n)(_:m+n<64)(_:Tb tT Aek H)(_:∀ a H',Eo H H'->Tb tT Aek H'->An b H' a x->Q (.ref a) H')
theorem AfW(T:Txt K mg t)(j:t.DQ.code=.ref tc)(e:W.CodeHd base tc tT)(f:Bm mg base):Bl P w K mg base CX0 8 t.AaC t.AaD ["words", "book"] (AlR tT):=by
 refine T.answered.F.ok Xz ?_;rintro _ _ _ _ H _ Q E q ⟨y,bk,z,kn,x,m,n,b,rfl,o,p,s,nm,r,C,d,tb,k⟩;refine⟨_,(Ac (Ba (i:=2) Xz.nd Z (Or.inl Z) (JV (Ip (K:=K) (pv 0) (λ_=>rfl)) (Az (Aw (K:=K)) (pv 0) Af (λ_ _=>rfl)) Av))
  (Ac (Bd (Ah (Lp (K:=K)) (pv 2) (CG (v:=.ref t.Gp) Z T.Vl Z) Z)
   (Ad (Ay (Bg T.Ac7 (Ael T j e f) q (Aa (pv 2) (Aa (Cy (Ds (K:=K)) (pv 0) (Cu Af) Ej) (Aa (pv 1) Ab))))))
   Ao)
  (Ac (Bd (Ah Ci (pv 2) Av (Ax _))
   (Ad Bc)
   Ao)
  (Ac (Bd (Ah Ci (pv 2) Av (Ax _))
   (Ad Bc)
   Ao)
  (Ac (Bd (Ah Ci (pv 2) Av (Ax _))
   (Ad Bc)
   Ao)
  (Ac (Bd (Ah Ci (pv 2) Av (Ax _))
   (Ad Bc)
   Ao)
  (Ad Bc))))))),?_⟩;refine⟨_,Z,true,.inl ⟨_,SqL.of o,Z⟩,?_⟩;refine⟨_,Z,_,_,_,_,Z,Z,SqL.of o,Br (by decide) Z,?_⟩;refine⟨_,Z,_,_,Z,.inr (T.Vm H),Z,(by decide),_,Z,?_⟩;rw[AnZ,in_words];refine Jx (by cases b <;> decide) ?_;refine⟨_,Z,_,Z,_,Z,_,_,Z,SqL.of o,λl c=>?_⟩;have s1:Aq H (upd H l (.lst (vS [z]))):=.upd c;exact⟨_,Z,l,bk,z,kn,x,m,n,b,Z,Ae,p.same s1,s,nm,r,C,d,tb.same s1,λa H' s' h u=>k a H' ((Eh s1).trans s') h u⟩
theorem Aem(T:Txt K mg t)(c:t.DQ.code=.ref tc)(d:W.CodeHd base tc tT)(a:Bm mg base):Bl P w K mg base CX0 9 t.Yv t.Yw ["words", "book"] (AlR tT):=by refine T.Ac6.F.ok Adz ?_;rintro _ _ _ _ H _ Q E l ⟨o,bk,z,kn,x,m,n,b,rfl,h,r,s,f,q,i,e,p,j⟩;exact⟨_,(Ad (Anh (λ_ _ z=>z) (Ad (Ay (Bg T.answered (AfW T c d a) l (Aa (pv 0) (Aa (pv 1) Ab))))))),_,Z,_,Z,o,bk,z,kn,x,m,n,b,Z,h,r,s,f,q,i,e,p,j⟩
def isQ (l:NI):Bool:=decide (l.head?=some 63)
def Qok (kn:Kns)(l:NI)(x:Bool × NN):Prop:=∃ z m n,Al5 l.tail=[wdQ x.1,z]/\Pat.isName z=true/\known kn z=.ok x.2/\Cl x.2 m n/\m+n<64
inductive Aoa (tT:Addr)(vs:Na)(H:Hp)(Q:VK)(z3:XK):Prop
|mk(ls:NN)(kn:Kns)(qs:List (Bool × NN))(_:vs=[.str (tx (jn 10 ls))])(_:(jn 10 ls).length<=100000)(_:ls≠[])(_:(∀ l∈ls,10∉l))(_:ls.length<=900)(_:Bk [] ((ls.map trim).filter λl=>!isQ l) kn)(_:((ls.map trim).filter λl=>!isQ l)≠[])(_:((ls.map trim).filter isQ).length=qs.length)(_:(∀(i:Nat) l x,((ls.map trim).filter isQ)[i]?=some l->qs[i]?=some x->Qok kn l x))(_:Tb tT Aek H)(_:∀ q (as:NU) H',Eo H H'->H' q=some (.lst (as.map V.ref))->as.length=qs.length->(∀(i:Nat) a x,as[i]?=some a->qs[i]?=some x->An x.1 H' a x.2)->Q (.ref q) H')
theorem V7(c:Nat):∀ us:NN,Txt.join (tx [c]) (us.map tx)=tx (jn c us)
 | []=>by simp[Txt.join,Builtin.Str.glued,tx,Str.empty,jn]
 | u::us=>by
  have key:∀(us:NN)(u:NI),u++(us.map λy=>[c]++y).flatten=jn c (u::us):=λus=>by
   induction us with
   | nil=>intro u;simp[jn]
   | cons v r a =>
    intro u;rw[AtM,Auq,Auk,a v];rfl
  rw[Vr,key]
theorem Aen(c:Nat):∀ ws:NN,ws≠[]->(ws.map List.length).sum+ws.length=(jn c ws).length+1
 | [],h=>absurd Z h
 | [w],_=>by simp[jn]
 | w::v::r,_=>by
  have:= Aen c (v::r) (by simp);show((w::v::r).map List.length).sum+_=(w++c::jn c (v::r)).length+1;grind
theorem AlS(ws:NN):(((ws.map tx)).map (·.length)).sum=(ws.map List.length).sum:=by rw[Ava];exact congrArg List.sum (Avb λw _=>Al w)
theorem AhT(p:NI->Bool):∀ ws:NN,((ws.filter p).map List.length).sum<=(ws.map List.length).sum
 | []=>AtH _
 | w::ws=>by
  have:= AhT p ws;grind
theorem AfX:∀ ws:NN,((ws.map trim).map List.length).sum<=(ws.map List.length).sum
 | []=>AtH _
 | w::ws=>by
  have:= AfX ws;have:= V2 w;grind
theorem Zz{w:NI}:∀{ws:NN},w∈ws->w.length<=(ws.map List.length).sum
 | [],h=>by simp at h
 | v::ws,h=>by
  simp only [AtM,Aul];rcases yD.mp h with rfl | h
  ·exact Ar.a3
  ·have:= Zz h;exact Ar.e3 this
theorem AlT(h:c∈trim u):c∈u:=by unfold trim at h;rw[List.mem_reverse] at h;have:= (AvC _).subset h;rw[List.mem_reverse] at this;exact(AvC _).subset this
theorem AlU{w:NI}(h:w∈Al5 u):w.length<=u.length:=by unfold Al5 at h;have h1:=(z7.mp h).1;have h2:=Zz h1;have h3:=AfP 32 u;grind
theorem Qk{p:NI->Bool}{ws:NN}{x:NI}(h:ws[i]?=some x):(ws.take (i+1)).filter p=(ws.take i).filter p++(if p x=true then [x] else []):=by rw[AtV,h,Au4];simp only [AvP,List.filter_cons,Avg]
theorem YK{ws:NN}(p:NI->Bool)(i:Nat):((ws.take i).filter p).length<=i:=AtW (Auz _ _) (by rw[AtX];exact AuU _ _)
theorem AbM(T:Txt K mg t)(ac:t.DQ.code=.ref tc)(aj:W.CodeHd base tc tT)(aa:Bm mg base):Bl P w K mg base CX0 14 t.LK t.LQ ["paper"] (Aoa tT):=by
 refine T.AaT.F.ok Ew ?_;rintro _ _ _ _ H _ Q E hr ⟨s,kn,qs,rfl,hu,D,N,B,X,r,v,hQ,tb,k⟩;obtain⟨u,hj⟩:∃ u,jn 10 s=u:=⟨_,Z⟩;rw[hj] at hu ⊢;refine⟨_,(Ac (Qn (i:=1) (cok [] ["line"] Ew) Z Ew.nd Z rfl (Bq (K:=K) (Bw (K:=K) zI zX z6 Aae (pv 0) (Aa Av Ab))) (λ_ _ _ _ _=>.nil) (λ_ _ _ _ _=>(Bw zI F.slot_str_strip F.type_str_strip Tn (pv 0) (Aa Av Ab))) Z)
  (Ac (Ba (i:=2) Ew.nd Z (Or.inr Z) (Bg T.Ac2 (AdZ T) hr (Aa (Bw (K:=K) zI zS zV (Dk (K:=K)) Av (Aa (Cg (cok [] ["line"] Ew) Z (Bq (K:=K) (pv 1)) (λ_ _ _ _ _=>.one (CQ (Ck (Bw zI F.slot_str_startswith F.type_str_startswith Wg (pv 0) (Aa Av Ab))))) (λ_ _ _ _ _=>(pv 0))) Ab)) Ab)))
  (Ad (Ay (Cg (cok [2] ["line", "book"] Ew) Z (Bq (K:=K) (pv 1)) (λ_ _ _ _ _=>.one (Ck (Bw zI F.slot_str_startswith F.type_str_startswith Wg (pv 0) (Aa Av Ab)))) (λ_ _ _ _ _=>(Bg T.Ac6 (Aem T ac aj aa) hr (Aa (Bg T.words_of (AfQ T) hr (Aa (Cy ZP (pv 0) (Cu Af) Ej) Ab)) (Aa (pv 1) Ab))))))))),?_⟩;rw[WQ,Qz,Al6];have hsz:=z8;have sl:=Aen 10 s D;rw[hj] at sl;have st:=AfX s;refine⟨_,Z,Z,u,10,s,Z,Z,(by decide),(by exact Ar.f4 hu),D,hj,N,λl hl=>?_⟩;obtain⟨H1,Y,s1,h1⟩:=nu9 (o:=.lst (vS s)) (.refl _) hl;rw[Y];refine⟨_,Z,⟨_,SqL.of h1⟩,BV (xs:=vS s) (λi ys G=>G=H1/\ys=vS ((s.take i).map trim)) ⟨Z,Z⟩ ?_ ?_ ?_ ?_⟩
 ·rintro i ys G hi ⟨rfl,rfl⟩;refine⟨SqL.of h1,?_⟩;rw[Bt,AtG,AtX];exact AuU _ _
 ·rw[Bt];exact Ar.a2 B
 ·rintro i xv ys G hi J ⟨rfl,rfl⟩;obtain⟨b,h,rfl⟩:=Ff J;have:= Zz (AtN h);refine⟨_,Z,Z,_,_,Z,Z,(by rw[Al];lia),?_⟩;rw[Zn];refine CN.of hi ⟨Z,?_⟩;rw[AtV,h,AtK];unfold vS;rw[AtK];rfl
 ·rintro ys G p1 ⟨rfl,rfl⟩ ab;rw[Bt,Aue];generalize O:s.map trim=d at X r v hQ st ⊢;have tl:d.length=s.length:=by rw[<- O,AtG]
  obtain⟨H2,Y,s2,h2⟩:=nu9 (o:=.lst (vS d)) s1 ab;rw[Y];refine⟨Z,_,Z,_,Z,⟨_,SqL.of h2⟩,BV (xs:=vS d) (λi ys G=>G=H2/\ys=vS ((d.take i).filter λl=>!isQ l)) ⟨Z,Z⟩ ?_ ?_ ?_ ?_⟩
  ·rintro i ys G hi ⟨rfl,rfl⟩;refine⟨SqL.of h2,?_⟩;rw[Bt];exact YK _ _
  ·rw[Bt];exact Ar.g6 tl B
  ·rintro i xv ys G hi J ⟨rfl,rfl⟩;obtain⟨b,h,rfl⟩:=Ff J;refine⟨_,Z,Z,_,_,Z,Z,?_⟩;rw[Wh];refine⟨_,Z,?_⟩;show if (!isQ b)=true then _ else _
   refine Apy (λc=>?_) (λc=>?_)
   ·refine⟨_,Z,CN.of hi ⟨Z,?_⟩⟩;rw[Qk h,if_pos c];unfold vS;rw[AtK];rfl
   ·exact CN.of hi ⟨Z,by rw[Qk h,if_neg (by rw[c];decide),Aum]⟩
  ·rintro ys G p2 ⟨rfl,rfl⟩ M;rw[Bt,Aue];generalize y:(d.filter λl=>!isQ l)=bs at X r ⊢;have bl:bs.length<=d.length:=by rw[<- y];exact Auz _ _
   have sb:(bs.map List.length).sum<=(d.map List.length).sum:=by rw[<- y];exact AhT _ _
   have s3:Aq H (upd G p2 (.lst (vS bs))):=s2.new M;have h3:(upd G p2 (.lst (vS bs))) p2=some (.lst (vS bs)):=Ae;have a0:(upd G p2 (.lst (vS bs))) p1=some (.lst (vS d)):=by rw[Aj (Bb h2 M)];exact h2
   refine⟨_,p2,bs.map tx,Z,Z,(by rw[<- Fy];exact SqL.of h3),?_,?_⟩
   ·rw[AlS,AtG];show _+_*1<=_;lia
   rw[V7];have sj:=Aen 10 bs r;refine⟨bs,kn,Z,(by lia),r,λb h z=>?_,(by lia),X,λkp H4 s4 hK=>?_⟩
   ·rw[<- y,AuM,<- O,Avu] at h;obtain⟨⟨l0,ak,rfl⟩,_⟩:=h;exact N l0 ak (AlT z)
   have al:=hK;have u4:=s3.trans s4;have h4:=s4 _ _ a0;refine⟨_,Z,_,Z,⟨_,SqL.of h4⟩,BV (xs:=vS d) (λi ys G=>∃ as:NU,ys=as.map V.ref/\Eo H4 G/\Tb tT Aek G/\as.length=((d.take i).filter isQ).length/\∀(j:Nat) a x,as[j]?=some a->qs[j]?=some x->An x.1 G a x.2) ⟨[],Z,λ_ _ e _=>e,tb.same u4,Z,λj a p g=>by simp at g⟩ ?_ ?_ ?_ ?_⟩
   ·rintro i ys G hi ⟨as,rfl,C,S,f,_⟩;refine⟨SqL.of (C.lst h4),?_⟩;rw[AtG,f];exact YK _ _
   ·rw[Bt];exact Ar.g6 tl B
   ·rintro i xv ys G hi J ⟨as,rfl,C,S,f,U⟩;obtain⟨b,h,rfl⟩:=Ff J;have an:=Zz (AtN h);refine⟨_,Z,Z,_,_,Z,Z,?_⟩;rw[Wh];refine⟨_,Z,?_⟩;show if isQ b=true then _ else _
    refine Apy (λc=>?_) (λc=>?_)
    ·have ai:((d.take i).filter isQ).length<qs.length:=by
      have e1:(d.take (i+1)).filter isQ=(d.take i).filter isQ++[b]:=by rw[Qk h,if_pos c]
      have e2:((d.take (i+1)).filter isQ).length<=(d.filter isQ).length:=((AuJ _ _).filter _).length_le;rw[e1,AtI,Avy] at e2;exact Ar.b2 v e2
     have ae:(d.filter isQ)[as.length]?=some b:=by
      have e1:d.filter isQ=(d.take i).filter isQ++(b::(d.drop (i+1)).filter isQ):=by
       have I:=(zC.mp h).1;have af:d[i]=b:=by have:= AtF I;rw[h] at this;injection this with this;exact this.symm
       conv=>lhs;rw[<- Auv i d]
       rw[Au4,AuG I,af,AuN c]
      rw[e1,f,AtZ (AtH _),Aux];rfl
     have A:=AtF (f▸ai);generalize qs[as.length]=p at A;have R:=hQ _ _ _ ae A;obtain⟨z,m,n,R,qn,qx,qc,ag⟩:=R;refine⟨_,Z,_,Z,b,Z,big (by lia),?_⟩;rw[Atj];refine⟨_,Z,(by rw[List.length_tail];lia),λwp G1 L hw=>?_⟩;rw[R] at hw;have zl:z.length<=b.tail.length:=AlU (by rw[R];simp);rw[List.length_tail] at zl;refine⟨_,Z,wp,kp,z,kn,p.2,m,n,p.1,Z,hw,(al.La C).same L,(by lia),qn,qx,qc,ag,S.same L,λq9 G2 g2 am ah=>?_⟩;have gg:=(Eh L).trans g2;refine CN.of hi ⟨as++[q9],by rw[AtK];rfl,C.trans gg,am,by rw[Qk h,if_pos c,AtI,AtI,f];rfl,λj a a6 e1 e2=>?_⟩;by_cases cj:j<as.length
     ·rw[Auc cj] at e1;exact(U j a a6 e1 e2).La gg
     ·rw[AtZ (by exact Ar.a1 cj)] at e1;have j0:j-as.length=0:=by
       grind
      rw[j0] at e1;cases e1;have jj:j=as.length:=by lia
      rw[jj,A] at e2;cases e2;exact ah
    ·exact CN.of hi ⟨as,Z,C,S,by rw[Qk h,if_neg (by rw[c];decide),Aum];exact f,U⟩
   ·rintro ys G q ⟨as,rfl,C,S,f,U⟩ hq;rw[Bt,Aue,v] at f;refine k q as _ (((Eh u4).trans C).trans (Eh (.upd hq))) Ae f λj a p L g2=>?_;exact(U j a p L g2).La (Eh (.upd hq))
end
end Mine
namespace L2
open PySem PySem.Spec PyProof.Rows
end L2
namespace Mine
open PySem L2
variable {ks:NI}{n m:Nat}
seal PE PT PW PA PS PSs PC PG PGs Aj1 PIp AoW PIE PI PO PEX PSX Ap2
section
variable {P:Program}{w:World}{K:NF}{mg:Str->NY}{base:Heap}{t:Adr}
inductive Ass (K:NF)(vs:Na)(H:Hp)(Q:VK)(z3:XK):Prop
|mk(a:Addr)(ns:NA)(i:Int)(_:vs=[.ref a,.int i])(_:SqL K H a (vI ns))(_:0<=i)(_:∀ c:Int,Q (.int c) H)
theorem Ajp(T:Txt K mg t):Bl P w K mg base CX0 1 t.AaE t.AaF ["script", "k"] (Ass K):=by
 refine T.Wz.F.ok AiM ?_;rintro _ _ _ _ H _ Q E d ⟨a,ns,i,rfl,c,hi,k⟩;refine⟨_,(Ac (Bd (Ah Ge (pv 1) (Ai (Ak) Z T.BJ Bj (Aa (pv 0) Ab)) (Ax _))
   (Ad (Ay (Az (Aw) (pv 0) (pv 1) (λ_ _=>rfl))))
   Ao)
  (Ad (Ay Af))),?_⟩;refine⟨_,Z,_,Z,_,_,Z,.inl c,_,_,Z,Z,_,Z,?_⟩;refine Dj (λh1=>?_) (λh1=>?_)
 ·rw[Bh] at h1;have b:i.toNat<ns.length:=by lia
  exact⟨_,Z,_,Z,_,_,_,_,Z,Z,c,Br hi (Fw (AtF b)),k _⟩
 ·exact k 0
inductive AlV (vs:Na)(H:Hp)(Q:VK)(z3:XK):Prop
|mk(z:Int)(m:Nat)(n:Nat)(_:vs=[.int z,.int (m:Int),.int (n:Int)])(_:1<=m)(_:m<=40)(_:1<=n)(_:n<=40)(_:∀ l x H',Aq H H'->H l=none->H' l=some (.lst (vS x))->Cl x m n->Q (.ref l) H')
theorem Ajq{z:Int}:∃ c,atI ((tx [46,35]).cps.toList) (z%2)=some c/\Sg c:=by
 have h:z%2=0\/z%2=1:=by lia
 rcases h with h | h
 ·exact⟨46,by rw[h];exact Br (by decide) Z,.inr Z⟩
 ·exact⟨35,by rw[h];exact Br (by decide) Z,.inl Z⟩
theorem AfY(T:Txt K mg t):Bl P w K mg base CX0 1 t.RN t.RP ["number", "ends", "picks"] AlV:=by
 refine T.AaV.F.ok Fg ?_;rintro _ _ _ _ H _ Q E a ⟨z,m,n,rfl,m1,C,n1,v,k⟩;refine⟨_,(Ac (Ba (i:=3) Fg.nd Z (Or.inl Z) (Cp Ab))
  (Ac (BX PassesOwn.never Z (Ca Z T.Cq (Aa (pv 2) Ab)) (Bp (i:=4) Fg.nd Z (Or.inl Z))
   (Ac (Ba (i:=5) Fg.nd Z (Or.inl Z) Av)
   (Ac (BX PassesOwn.never Z (Ca Z T.Cq (Aa (pv 1) Ab)) (Bp (i:=6) Fg.nd Z (Or.inl Z))
    (Ac (Ba (i:=5) Fg.nd Z (Or.inl Z) (Bx BL (pv 5) (Az Hs Av (Bx Lb (pv 0) Af) (λ_ _=>rfl))))
    (Ad (Ba (i:=0) Fg.nd Z (Or.inl Z) (Bx Amw (pv 0) Af)))))
   (Ad (Bo (Bw (K:=K) zM zL zQ Cd (pv 3) (Aa (pv 5) Ab)))))))
  (Ad (Ay (pv 3))))),?_⟩;have hsz:=z8;refine⟨AtR _,λq L=>?_⟩;have s1:Aq H (upd H q (.lst [])):=.upd L;have p:(upd H q (.lst [])) q=some (.lst (vS [])):=Ae;refine⟨_,Z,_,Z,(by lia),(by lia),?_⟩;rw[Auh];refine Dw (λi σ H2=>∃(y:Int)(I J f:Option V)(x:NN),σ=[some (.int y),some (.int (m:Int)),some (.int (n:Int)),some (.ref q),I,J,f]/\Aq H H2/\H2 q=some (.lst (vS x))/\x.length=i/\∀ r∈x,r.length=m/\∀ c∈r,Sg c) ⟨z,none,none,none,[],Z,s1,p,Z,λr h=>by simp at h⟩ ?_ ?_
 ·rintro i σ H2 hi ⟨y,I,J,f,x,rfl,o,e,A,b⟩;refine⟨_,Z,_,Z,(by lia),(by lia),?_⟩;rw[Auh];refine Dw (λj σ B=>∃(y:Int)(f:Option V)(u:NI),σ=[some (.int y),some (.int (m:Int)),some (.int (n:Int)),some (.ref q),some (.int (0+(i:Int))),some (.str (tx u)),f]/\B=H2/\u.length=j/\∀ c∈u,Sg c) ⟨y,_,[],by rw[show(("" : Str))=tx [] from by decide +kernel] <;> rfl,Z,Z,λc h=>by simp at h⟩ ?_ ?_
  ·rintro j σ B M ⟨y,f,u,rfl,rfl,D,s⟩;obtain⟨c,hc,sc⟩:=Ajq;refine⟨_,Z,_,Z,_,_,Z,Z,(by decide),_,_,c,Z,Z,(by exact big (by decide)),hc,?_⟩;refine⟨_,_,Z,Z,(by rw[Lj,Al,Al];exact big (by grind)),?_⟩;rw[Lj,DW];refine⟨_,Z,_,_,Z,Z,⟨by decide,by decide⟩,?_⟩;refine⟨_,_,u++[c],Z,Z,by rw[AtI,D];rfl,λd l=>?_⟩;rcases zG.mp l with l | l
   ·exact s d l
   ·rw[zF.mp l];exact sc
  ·rintro σ B ⟨y,f,u,rfl,rfl,D,s⟩;refine⟨_,Z,.inl ⟨Z,_,SqL.of e⟩,_,Z,_,_,_,Z,Z,e,(by rw[Bt];lia),?_⟩;rw[Dm];refine⟨y,_,_,_,x++[u],Z,o.over (by
    grind),Ae,by rw[AtI,A];rfl,λr a=>?_⟩
   rcases zG.mp a with a | a
   ·exact b r a
   ·rw[zF.mp a];exact⟨D,s⟩
 ·rintro σ H2 ⟨y,I,J,f,x,rfl,o,e,A,b⟩;exact⟨_,Z,k q x H2 o L e ⟨A,λr a=>(b r a).1,λr a=>(b r a).2,m1,C,n1,v⟩⟩
inductive Ajr (vs:Na)(H:Hp)(Q:VK)(z3:XK):Prop
|mk(c:_)(_:vs=[.str ⟨#[c]⟩])(_:Q (.str (tx [flip c])) H)
theorem Aeo(T:Txt K mg t):Bl P w K mg base CX0 1 t.Y4 t.Y5 ["sign"] Ajr:=by
 refine T.Ac8.F.ok Ad1 ?_;rintro _ _ _ _ H _ Q E a ⟨c,rfl,k⟩;refine⟨_,(Ac (Bd (Ah Ci (pv 0) Av (Ax _))
   (Ad (Ay Av))
   Ao)
  (Ad (Ay Av))),?_⟩;refine⟨_,Z,Z,_,Z,?_⟩;refine Dj (λh=>?_) (λh=>?_)
 ·have e:=AfF.mp (h.trans e35.symm);rw[e] at k;exact k
 ·have e:¬c=35:=λz=>h (by rw[z];exact e35);rw[show flip c=35 by unfold flip;rw[if_neg e]] at k;exact k
inductive Aob (K:NF)(vs:Na)(H:Hp)(Q:VK)(z3:XK):Prop
|mk(a:Addr)(ns:NA)(c:Int)(_:vs=[.ref a,.int c])(_:SqL K H a (vI ns))(_ : -(2 ^ 64)<c)(_:c<2 ^ 64)(_:∀ z:Int,Q (.int z) H)
theorem AbN(T:Txt K mg t):Bl P w K mg base CX0 1 t.LR t.Ma ["script", "many"] (Aob K):=by
 refine T.RZ.F.ok Hc ?_;rintro _ _ _ _ H _ Q E h ⟨a,ns,c,rfl,f,c1,c2,k⟩;refine⟨_,(Ac (Ba (i:=2) Hc.nd Z (Or.inl Z) Af)
  (Ac (BX PassesOwn.never Z (Bq (K:=K) (pv 0)) (Bp (i:=3) Hc.nd Z (Or.inl Z))
   (Ad (Ba (i:=2) Hc.nd Z (Or.inl Z) (Bx Lb (Bx Ey (Bx NP (pv 2) (pv 1)) (pv 3)) Af))))
  (Ad (Ay (pv 2))))),?_⟩;refine⟨_,Z,_,Z,⟨_,f⟩,Cr (λi σ H2=>∃(z:Int)(v:Option V),σ=[some (.ref a),some (.int c),some (.int z),v]/\H2=H) ⟨1,none,Z,Z⟩ (λi σ H2 _ ⟨_,_,_,e⟩=>by rw[e];exact f) ?_ ?_⟩
 ·rintro i x σ H2 b ⟨z,v,rfl,rfl⟩;obtain⟨d,rfl⟩:∃ d,x=.int d:=by
   unfold vI at b;rw[AtQ] at b;obtain⟨z,_,rfl⟩:=zU.mp b;exact⟨z,Z⟩
  refine⟨_,Z,_,Z,_,_,Z,Z,(.inr ⟨c1,c2⟩),_,Z,_,_,Z,Z,_,_,Z,Z,(by simp_all),?_⟩;exact⟨_,_,Z,Z⟩
 ·rintro σ H2 ⟨z,v,rfl,rfl⟩;exact⟨_,Z,k z⟩
def sj (ks:NI):NI:=jn 32 (ks.map dec)
def Zh (ks:NI):NN:=ks.map λk=>[k]
theorem AoD(ks:NI):sj ks=rT (Zh ks):=by
 cases ks with
 | nil=>rfl
 | cons k ks =>
  have key:∀(r:NI)(x:NI),jn 32 (x::r.map dec)=x++more (Zh r):=λr=>by
   induction r with
   | nil=>intro x;show x=x++[];rw[Aum]
   | cons y r a =>
    intro x;show x++32::jn 32 (dec y::r.map dec)=x++(32::(Ju [y]++more (Zh r)));rw[a];show _=x++32::((dec y++[])++more (Zh r));rw[Aum]
  show jn 32 (dec k::ks.map dec)=(dec k++[])++more (Zh ks);rw[key,Aum]
theorem AfZ(h:∀ k∈ks,k<100):∀ p∈Zh ks,Okp p:=λp a=>by
 obtain⟨k,hk,rfl⟩:=yC.mp a;exact⟨by simp,by simp,λn hn=>by rw[zF.mp hn];exact h k hk⟩
theorem Aga(ks:NI):nT (Zh ks)=ofN ks:=by
 unfold nT Zh
 induction ks with
 | nil=>rfl
 | cons k ks a =>
  rw[AtM,AtM,AtM,Auq,a];rfl
theorem Ajs(ks:NI):(Zh ks).flatten=ks:=by
 unfold Zh
 induction ks with
 | nil=>rfl
 | cons k ks a=>simp_all
theorem WW(h:∀ k∈ks,k<100):(sj ks).length<=3*ks.length:=by
 rw[AoD];have:= Alm (AfZ h)
 rwa [Ajs] at this
theorem AlW(h:∀ k∈ks,k<100)(a:ks.length<=40):Wr (sj ks) (ofN ks):=by have l:=WW h;rw[AoD] at l ⊢;refine⟨Zh ks,Z,AfZ h,by unfold Zh;rw[AtG];lia,by lia,?_,Aga ks⟩;rw[Aga];unfold ofN;rw[AtG];lia
theorem Le:V.str (Str.ofString (toString ((n:Nat):Int)))=V.str (tx (dec n)):=congrArg V.str (ApU n)
theorem Aep(a:n<100):(n:Int).natAbs.log2<1920:=by
 rw[Int.natAbs_natCast];by_cases c:n=0
 ·rw[c];decide
 ·have:n.log2<7:=(Nat.log2_lt c).mpr (Aua a (by decide));lia
theorem js(h:∀ k∈ks,k<100):(((ks.map dec).map tx).map (·.length)).sum<=ks.length*2:=by
 have:= Qe (ks.map dec) λu a=>by
  obtain⟨k,hk,rfl⟩:=yC.mp a;exact(dec_is (h k hk)).l2
 rwa [AtG] at this
theorem rg9(h:m<=9):∀ k∈List.range m,k<100:=λk hk=>by have:=yE.mp hk;omega
theorem d1:Str.length (tx [32])=1:=by decide +kernel
theorem Ast:((": " : Str))=tx [58,32]:=by decide +kernel
theorem Aoc:(("= rows(" : Str))=tx [61,32,114,111,119,115,40]:=by decide +kernel
theorem AhU(ys:NN)(h:0<ys.length):(cj ys).length+1=((ys.map tx).map (·.length)).sum+ys.length:=by
 cases ys with
 | nil=>cases h
 | cons y ys =>
  have key:∀ ys:NN,((ys.map λy=>[44]++y).flatten).length=((ys.map tx).map (·.length)).sum+ys.length:=λys=>by
   induction ys with
   | nil=>rfl
   | cons y ys a =>
    rw[AtM,Auq,AtI,a,AtM,AtM,Aul,Al];simp only [AtI,AtS,Aun];lia
  unfold cj;rw[AtI,key,AtM,AtM,Aul,Al,AtS];lia
def tp (u:NI):NI:=(List.range u.length).filter λk=>decide (u.getD k 0=35)
def thr (m n:Nat):NI:=if n%2=0/\1<m then [48,45]++dec (m-1) else sj (List.range m)
theorem Aq1(h:m<=6):Wr (thr m n) (ofN (List.range m)):=by
 unfold thr;split
 ·next c =>
  have key:∀ m,m<7->1<m->[48,45]++dec (m-1)=rT [[0,m-1]]/\nT [[0,m-1]]=ofN (List.range m)/\(rT [[0,m-1]]).length<=4:=by decide +kernel
  obtain⟨e1,e2,e3⟩:=key m (by omega) c.2;rw[e1];refine⟨[[0,m-1]],Z,λp a=>?_,(by simp_all),by lia,?_,e2⟩
  ·rw[zF.mp a];exact⟨by simp,by simp,λn hn=>by grind⟩
  ·rw[e2];unfold ofN;grind
 ·exact AlW (λk hk=>by grind) (by grind)
theorem AhV(h:m<=9):(thr m n).length<=30:=by
 unfold thr;split
 ·have:= (dec_is (n:=m-1) (by lia)).l2;rw[AtI];show 2+_<=_;lia
 ·have:= WW (rg9 h);rw[AtO] at this;lia
theorem Ajt:(("0-" : Str))=tx [48,45]:=by decide +kernel
theorem AlX{G:Prop}{R:Addr->Hp->Prop}(C:Addr->Hp->Prop)(a:(∀ l H,C l H->R l H)->G)(rest:∀ l H,C l H->R l H):G:=a rest
def told(cl:NN)(m n:Nat)(b:Bool):NI:=if b=true then [58,32]++drT (thr m n) (cl.map λu=>sj (tp u)) (sj (List.range n)) else [61,32]++wz Pat.Gy cl
inductive AlY (vs:Na)(H:Hp)(Q:VK)(z3:XK):Prop
|mk(a:Addr)(cl:NN)(m:Nat)(n:Nat)(b:Bool)(_:vs=[.ref a,.bl b])(_:H a=some (.lst (vS cl)))(_:Cl cl m n)(_:m<=9)(_:n<=9)(_:∀ H',Aq H H'->Q (.str (tx (told cl m n b))) H')
theorem Agb(T:Txt K mg t):Bl P w K mg base CX0 1 t.RQ t.RT ["rows", "by_draft"] AlY:=by
 refine T.AaW.F.ok Hi ?_;rintro _ _ _ _ H _ Q E hr ⟨a,cl,m,n,b,rfl,p,C,m9,n9,k⟩;have hsz:=z8;have hn:=C.hn;refine⟨_,(Ac (Bd (CQ (Ip (K:=K) (pv 1) (λ_=>rfl)))
   (Ad (Ay (Bx BL (Bx BL Av (Bw (K:=K) zI zS zV (Dk (K:=K)) Av (Aa (pv 0) Ab))) Av)))
   Ao)
  (Ac (Ba (i:=2) Hi.nd Z (Or.inl Z) (Cp (Aa (Bw (K:=K) zI zS zV (Dk (K:=K)) Av (Aa (Cg (cok [] ["k"] Hi) Z (Ca Z T.Cq (Aa (Ai Bs Z T.BJ Bj (Aa (Az (Aw (K:=K)) (pv 0) Af (λ_ _=>rfl)) Ab)) Ab)) (λ_ _ _ _ _=>.nil) (λ_ _ _ _ _=>(Cw HW Z T.AhC Adh (Aa (pv 0) Ab)))) Ab)) Ab)))
  (Ac (Bd (PW.pt (pw_and (Ah Ci (Bx Lb (Ai (Ak (K:=K)) Z T.BJ Bj (Aa (pv 0) Ab)) Af) Af (Ax _)) (pw_and1 (Ah HF (Ai Bs Z T.BJ Bj (Aa (Az (Aw (K:=K)) (pv 0) Af (λ_ _=>rfl)) Ab)) Af (Ax _)))))
   (Ad (Ba (i:=2) Hi.nd Z (Or.inl Z) (Cp (Aa (Bx BL Av (Cw HW Z T.AhC Adh (Aa (Bx G6 (Ai Bs Z T.BJ Bj (Aa (Az (Aw (K:=K)) (pv 0) Af (λ_ _=>rfl)) Ab)) Af) Ab))) Ab))))
   Ao)
  (Ac (Bo (Bw (K:=K) zM zL zQ Cd (pv 2) (Aa (Bw (K:=K) zI zS zV (Dk (K:=K)) Av (Aa (Akw (Jy.mk (Bv:=[]) (Nc:=["row"]) Z rfl (by decide +kernel) (Zj (sc0:=Ag Ly) Z (by decide +kernel)) Z rfl Z (by decide +kernel) (λ_ _ h=>by simp at h)) Z (Bq (K:=K) (pv 0)) (λ_ _ _ _ _=>.nil) (λ_ _ _ _ _=>(Bw zI zS zV (Dk) Av (Aa (Cg (R8.mk (Bv:=[0]) (Nc:=["k", "row"]) Z (by decide +kernel) (by decide +kernel) (Afc (sc0:=Ag Ly) Z (by decide +kernel)) Z rfl Z (by decide +kernel) (λk j h=>match k,h with | 0,h=>by obtain rfl:=Option.some.inj h;exact⟨_,Z,Z,Z⟩ | _+1,h=>by simp at h)) Z (Ca Z T.Cq (Aa (Ai Bs Z T.BJ Bj (Aa (pv 0) Ab)) Ab)) (λ_ _ _ _ _=>.one (Ah Ci (Az Hs (pv 1) (pv 0) (λ_ _=>rfl)) Av (Ax _))) (λ_ _ _ _ _=>(Cw HW Z T.AhC Adh (Aa (pv 0) Ab)))) Ab)))) Ab)) Ab)))
  (Ac (Bo (Bw (K:=K) zM zL zQ Cd (pv 2) (Aa (Bw (K:=K) zI zS zV (Dk (K:=K)) Av (Aa (Cg (cok [] ["j"] Hi) Z (Ca Z T.Cq (Aa (Ai (Ak (K:=K)) Z T.BJ Bj (Aa (pv 0) Ab)) Ab)) (λ_ _ _ _ _=>.nil) (λ_ _ _ _ _=>(Cw HW Z T.AhC Adh (Aa (pv 0) Ab)))) Ab)) Ab)))
  (Ad (Ay (Bx BL Av (Bw (K:=K) zI zS zV (Dk (K:=K)) Av (Aa (pv 2) Ab)))))))))),?_⟩;have n1:=C.n1;have l0:0<cl.length:=by lia
 have f:=AtF l0;have Y:=C.hm _ (AtT l0);generalize cl[0]=u0 at f Y;rw[Qz];cases b with
 | false =>
  refine⟨_,Z,_,Z,Aby ?_⟩;have sl:=Qe cl λu L=>by rw[C.hm u L];exact m9
  have af:=AhU cl (by omega);have e1:(("," : Str)).length=1:=by decide +kernel
  refine⟨Z,_,Z,_,_,cl.map tx,Z,Z,SqL.of (by rw[p,Fy]),(by grind),?_⟩;have ej:Txt.join (tx [44]) (cl.map tx)=tx (cj cl):=by
   cases cl with
   | nil=>exact absurd l0 (by decide)
   | cons y ys=>exact Vr [44] y ys
  rw[WM,ej,Aoc,WL];refine⟨_,_,Z,Z,(by rw[Al,Al];simp only [AtS,Aun];lia),?_⟩;rw[DW];refine⟨_,_,Z,Z,(by rw[Al,Al];simp only [AtI,AtS,Aun];lia),?_⟩;rw[DW];exact k _ (.refl _)
 | true =>
  refine⟨_,Z,_,Z,Iz ?_⟩;refine⟨Z,_,Z,_,_,_,_,Z,Z,SqL.of p,JD f,_,Z,(by rw[Al];exact big (by lia)),_,Z,(by lia),(by rw[Al];lia),?_⟩;rw[Al,Y,Auh];refine DR (λi ys H2=>H2=H/\ys=vS ((List.range i).map dec)) ⟨Z,Z⟩ ?_ ?_ ?_ ?_
  ·rintro i ys H2 hi ⟨rfl,rfl⟩;rw[Bt,AtG,AtO];exact AtH _
  ·lia
  ·rintro i ys H2 hi ⟨rfl,rfl⟩;rw[Au6];refine⟨_,Z,_,Z,Aep (by lia),?_⟩;rw[Le];exact CN.of hi ⟨Z,by rw[Dm,Aur,AtK];rfl⟩
  rintro ys H2 p1 ⟨rfl,rfl⟩ ac;refine⟨_,_,((List.range m).map dec).map tx,Z,Z,SqL.of (by rw[Ae,Fy]),?_,?_⟩
  ·have:= js (rg9 m9);rw[AtO] at this;rw[d1,AtG,AtG,AtO];lia
  rw[V7];have s1:Aq H2 (upd H2 p1 (.lst (vS ((List.range m).map dec)))):=.upd ac;generalize upd H2 p1 (.lst (vS ((List.range m).map dec)))=H1 at s1 ⊢;refine⟨(by show 1<=sizeLine;decide),λq nq=>?_⟩;have x:Aq H2 (upd H1 q (.lst (vS [sj (List.range m)]))):=s1.new nq;have D:(upd H1 q (.lst (vS [sj (List.range m)]))) q=some (.lst (vS [sj (List.range m)])):=Ae;have d:=s1.free nq;rw[show(upd H1 q (.lst [V.str (tx (jn 32 ((List.range m).map dec)))]))=upd H1 q (.lst (vS [sj (List.range m)])) from rfl];generalize upd H1 q (.lst (vS [sj (List.range m)]))=s at x D ⊢;apply AlX (λl X=>Aq H2 X/\H2 l=none/\X l=some (.lst (vS [thr m n])))
  ·intro rest;refine⟨_,Z,_,_,Z,.inl (SqL.of (x _ _ p)),_,_,Z,Z,(by simp_all),Z,_,Z,?_⟩;rw[Bt,hn];by_cases c1:n%2=0
   ·refine Jx (by grind) ?_;refine⟨_,Z,_,_,_,_,Z,Z,SqL.of (x _ _ p),JD f,_,Z,(by rw[Al];exact big (by lia)),_,_,Z,Z,_,Z,?_⟩;rw[Al];refine Dj (λc2=>?tt) (λc2=>?ff)
    case ff =>
     obtain⟨l',e⟩:∃ l',l'=q:=⟨_,Z⟩;obtain⟨H',e2⟩:∃ H',H'=s:=⟨_,Z⟩;rw[<- e,<- e2];exact rest l' H' ⟨by simp_all,by simp_all,by rw[e,e2,D];unfold thr;rw[if_neg (by omega)]⟩
    case tt =>
     refine⟨_,Z,_,_,_,_,Z,Z,SqL.of (x _ _ p),JD f,_,Z,(by rw[Al];exact big (by lia)),_,_,Z,Z,_,Z,(by rw[Al,Y,show(m:Int)-1=((m-1:Nat):Int) by omega];exact Aep (by omega)),?_⟩;rw[Al,Y,show(m:Int)-1=((m-1:Nat):Int) by omega,Le,Ajt];have:= (dec_is (n:=m-1) (by omega)).l2;refine⟨_,_,Z,Z,(by rw[Al,Al];grind),?_⟩;rw[DW];refine⟨(by show 1<=sizeLine;decide),λB R=>?_⟩;have I:Aq H2 (upd s B (.lst (vS [thr m n]))):=x.new R;have h5:(upd s B (.lst (vS [thr m n]))) B=some (.lst (vS [thr m n])):=Ae;rw[show(upd s B (.lst [V.str (tx ([48,45]++dec (m-1)))]))=upd s B (.lst (vS [thr m n])) by unfold thr;rw[if_pos (by omega)];rfl];have n5:=x.free R;generalize upd s B (.lst (vS [thr m n]))=H5 at I h5 ⊢;exact rest B H5 ⟨I,n5,h5⟩
   ·refine CZ (λz=>c1 (by grind)) ?_;exact rest q s ⟨x,d,by rw[D];unfold thr;rw[if_neg (by omega)]⟩
  rintro q X ⟨s4,d,N⟩;refine⟨_,Z,.inl ⟨Z,_,SqL.of N⟩,Z,_,Z,_,Z,⟨_,SqL.of (s4 _ _ p)⟩,BV (xs:=vS cl) (λi ys G=>Aq X G/\ys=vS ((cl.take i).map λu=>sj (tp u))) ⟨.refl _,Z⟩ ?_ ?_ ?_ ?_⟩
  ·rintro i ys G hi ⟨J,rfl⟩;refine⟨SqL.of (J _ _ (s4 _ _ p)),?_⟩;rw[Bt,AtG,AtX];exact AuU _ _
  ·rw[Bt];lia
  ·rintro i xv ys G hi hx ⟨J,rfl⟩;obtain⟨u,L,rfl⟩:=Ff hx;have ul:=C.hm u (AtN L);refine⟨Z,_,Z,_,Z,(by rw[Al];exact big (by lia)),_,Z,(by lia),(by rw[Al];lia),?_⟩;rw[Al,ul,Auh];refine DR (λj ys W=>W=G/\ys=vS (((List.range j).filter λk=>decide (u.getD k 0=35)).map dec)) ⟨Z,Z⟩ ?_ ?_ ?_ ?_
   ·rintro j ys W hj ⟨rfl,rfl⟩;rw[Bt,AtG];exact AtW (Auz _ _) (by rw[AtO];exact AtH _)
   ·lia
   ·rintro j ys W hj ⟨rfl,rfl⟩;have O:j<u.length:=by lia
    have gd:u.getD j 0=u[j]:=by rw[AtY,AtF O];rfl
    have a6:atI (tx u).cps.toList (0+(j:Int))=some u[j]:=Br (by lia) (by rw[z0,zO,Ob];exact AtF O);have hh:("#" : Str)=⟨#[35]⟩:=by decide +kernel
    refine⟨_,Z,_,Z,_,_,_,Z,Z,(by rw[Al];exact big (by lia)),a6,Z,_,Z,?_⟩;by_cases c:u[j]=35
    ·refine Jx (by rw[c,hh]) ?_;rw[Au6];refine⟨_,Z,_,Z,Aep (by lia),?_⟩;rw[Le];refine CN.of hj ⟨Z,?_⟩;rw[Dm,Aur,Au4,AtK,AuN (by rw[gd];exact zN c)];rfl
    ·refine CZ (λz=>c ?_) ?_
     ·injection z with z;exact(List.cons.inj (I9 z)).1
     refine CN.of hj ⟨Z,?_⟩;rw[Aur,Au4,Avh (by rw[gd,zJ c];exact Aud),Avg,Aum]
   rintro ys W p2 ⟨rfl,rfl⟩ ab;have a0:((List.range m).filter λk=>decide (u.getD k 0=35))=tp u:=by unfold tp;rw[ul]
   rw[a0];have tb:∀ k∈tp u,k<100:=λk hk=>by
    grind
   have tl:(tp u).length<=9:=by
    grind
   refine⟨_,_,((tp u).map dec).map tx,Z,Z,SqL.of (by rw[Ae,Fy]),?_,?_⟩
   ·have:= js tb;rw[d1,AtG,AtG];lia
   rw[V7];refine CN.of hi ⟨J.new ab,?_⟩;rw[AtV,L,AtK];unfold vS;rw[AtK];rfl
  rintro ys G r ⟨U,rfl⟩ nr;rw[Bt,Aue];have J:Aq H2 (upd G r (.lst (vS (cl.map λu=>sj (tp u))))):=(s4.trans U).new nr;have S:(upd G r (.lst (vS (cl.map λu=>sj (tp u))))) q=some (.lst (vS [thr m n])):=(U.new nr) _ _ N;have A:(upd G r (.lst (vS (cl.map λu=>sj (tp u))))) r=some (.lst (vS (cl.map λu=>sj (tp u)))):=Ae;generalize upd G r (.lst (vS (cl.map λu=>sj (tp u))))=G at J S A ⊢;have tl:∀ u∈cl.map (λu=>sj (tp u)),u.length<=27:=λv hv=>by
   obtain⟨u,L,rfl⟩:=yC.mp hv;have ul:=C.hm u L;have tb:∀ k∈tp u,k<100:=λk hk=>by
    have:= yE.mp (z7.mp hk).1;lia
   have h1:=WW tb;have h2:=Auz (λk=>decide (u.getD k 0=35)) (List.range u.length);rw[AtO] at h2;have h3:(tp u).length<=9:=by unfold tp;lia
   lia
  have O:=AdM [44,32] (cl.map λu=>sj (tp u)) tl;rw[AtG] at O;simp only [AtS] at O;have aa:(jnS [44,32] (cl.map λu=>sj (tp u))).length<=300:=by
   grind
  generalize ae:(cl.map λu=>sj (tp u))=us at A tl aa;refine⟨_,_,us.map tx,Z,Z,SqL.of (by rw[A,Fy]),?_,?_⟩
  ·have:= Qe us tl;rw[AtG,AdN,Al];grind
  rw[AdN,AfI];refine⟨_,_,_,Z,Z,S,(by show 1<sizeLine;decide),?_⟩;rw[Dm];have I:Aq H2 (upd G q (.lst (vS ([thr m n]++[jnS [44,32] us])))):=λb o e=>by rw[Aj (Bb e d)];exact J b o e
  have h5:(upd G q (.lst (vS ([thr m n]++[jnS [44,32] us])))) q=some (.lst (vS [thr m n,jnS [44,32] us])):=Ae;generalize upd G q (.lst (vS ([thr m n]++[jnS [44,32] us])))=H5 at I h5 ⊢;refine⟨_,Z,.inl ⟨Z,_,SqL.of h5⟩,Z,_,Z,_,_,Z,.inl (SqL.of (I _ _ p)),_,Z,(by lia),(by rw[Bt];lia),?_⟩;rw[Bt,hn,Auh];refine DR (λi ys G=>G=H5/\ys=vS ((List.range i).map dec)) ⟨Z,Z⟩ ?_ ?_ ?_ ?_
  ·rintro i ys G hi ⟨rfl,rfl⟩;rw[Bt,AtG,AtO];exact AtH _
  ·lia
  ·rintro i ys G hi ⟨rfl,rfl⟩;rw[Au6];refine⟨_,Z,_,Z,Aep (by lia),?_⟩;rw[Le];exact CN.of hi ⟨Z,by rw[Dm,Aur,AtK];rfl⟩
  rintro ys G p3 ⟨rfl,rfl⟩ M;refine⟨_,_,((List.range n).map dec).map tx,Z,Z,SqL.of (by rw[Ae,Fy]),?_,?_⟩
  ·have:= js (rg9 n9);rw[AtO] at this;rw[d1,AtG,AtG,AtO];lia
  rw[V7];refine⟨_,_,_,Z,Z,(Aq.upd M) _ _ h5,(by show 2<sizeLine;decide),?_⟩;rw[Dm];have s6:Aq H2 (upd (upd G p3 (.lst (vS ((List.range n).map dec)))) q (.lst (vS ([thr m n,jnS [44,32] us]++[jn 32 ((List.range n).map dec)])))):=λb o e=>by rw[Aj (Bb e d)];exact(I.new M) b o e
  have h6:(upd (upd G p3 (.lst (vS ((List.range n).map dec)))) q (.lst (vS ([thr m n,jnS [44,32] us]++[jn 32 ((List.range n).map dec)])))) q=some (.lst (vS [thr m n,jnS [44,32] us,sj (List.range n)])):=Ae;generalize upd (upd G p3 (.lst (vS ((List.range n).map dec)))) q (.lst (vS ([thr m n,jnS [44,32] us]++[jn 32 ((List.range n).map dec)])))=H6 at s6 h6 ⊢;have l1:=AhV (n:=n) m9;have l2:=WW (rg9 n9);rw[AtO] at l2;refine⟨Z,_,Z,_,_,[thr m n,jnS [44,32] us,sj (List.range n)].map tx,Z,Z,SqL.of (by rw[h6,Fy]),?_,?_⟩
  ·rw[Abm];simp only [AtM,Avo,Aul,List.sum_nil,AtS,Aun,Al];lia
  rw[Abm,AfI,Ast];have dl:(jnS [32,47,32] [thr m n,jnS [44,32] us,sj (List.range n)]).length<=1000:=by
   have:(jnS [32,47,32] [thr m n,jnS [44,32] us,sj (List.range n)]).length=(thr m n).length+(3+((jnS [44,32] us).length+(3+(sj (List.range n)).length))):=by
    simp[jnS];lia
   lia
  refine⟨_,_,Z,Z,(by rw[Al,Al];grind),?_⟩;rw[DW];have:= k H6 s6;unfold told drT at this;rw[ae] at this;exact this
theorem Aeq:∀ l:NN,((l.map tx).map (·.length)).sum=l.flatten.length:=λl=>by
 induction l with
 | nil=>rfl
 | cons x l a=>rw[AtM,AtM,Aul,a,Auq,AtI,Al]
theorem Aq2:(("" : Str))=tx []:=by decide +kernel
def fiW:NI:=[102,105,114,115,116]
def seW:NI:=[115,101,99,111,110,100]
theorem AhW:(("first" : Str))=tx fiW:=by decide +kernel
theorem AhX:(("second" : Str))=tx seW:=by decide +kernel
theorem AlZ:(("= quarter(" : Str))=tx ([61,32]++(quW++[40])):=by decide +kernel
theorem Aq3:(("= lay(" : Str))=tx ([61,32]++(laW++[40])):=by decide +kernel
theorem Aer:Nm fiW/\Nm seW:=⟨⟨by decide,by decide,by decide⟩,by decide,by decide,by decide⟩
def Th (x y:NN)(f:Fm)(z:NN):Prop:=∃ wd zs ys,f=.wds wd zs/\f.Ok/\(cj zs).length<=20/\ys.length=zs.length/\(∀(j:Nat) nm c,zs[j]?=some nm->ys[j]?=some c->(nm=fiW/\c=x)\/(nm=seW/\c=y))/\Mk wd ys z/\∃ m n,Cl z m n/\m<=12/\n<=12
theorem Ama{G R:Prop}(a:(Unit->R)->G)(rest:R):G:=a λ_=>rest
theorem Amb{G:Prop}{R:Addr->Addr->Addr->Hp->Prop}(C:Addr->Addr->Addr->Hp->Prop)(c:(∀ a b l H,C a b l H->R a b l H)->G)(rest:∀ a b l H,C a b l H->R a b l H):G:=c rest
inductive Amc (vs:Na)(H:Hp)(Q:VK)(z3:XK):Prop
|mk(a:Addr)(b:Addr)(x:NN)(y:NN)(m:Nat)(n:Nat)(m':Nat)(n':Nat)(tb:Bool)(_:vs=[.ref a,.ref b,.bl tb])(_:H a=some (.lst (vS x)))(_:H b=some (.lst (vS y)))(_:Cl x m n)(_:Cl y m' n') (_:m<=6)(_:n<=6)(_:m'<=6)(_:n'<=6)(_:∀ p l f z H',Aq H H'->H' p=some (.tup [.str (tx ([61,32]++(f.word++f.tail))),.ref l])->H' l=some (.lst (vS z))->Th x y f z->Q (.ref p) H')
theorem Aes(T:Txt K mg t):Bl P w K mg base CX0 2 t.Pn t.Pq ["one", "two", "turned"] Amc:=by
 refine T.Ac9.F.ok Dg ?_;rintro _ _ _ _ H _ Q E hr ⟨a0,b0,S,Y,m0,n0,az,ay,tb,rfl,ac,a6,C0,D0,I,O,W,ab,k⟩;have hsz:sizeLine=16777216:=z8;refine⟨_,(Ac (Ba (i:=3) Dg.nd Z (Or.inl Z) (Cp (Aa Av (Aa Av Ab))))
  (Ac (Bd (Ip (K:=K) (pv 2) (λ_=>rfl))
   (Ac (Ba (i:=3) Dg.nd Z (Or.inl Z) (Cp (Aa Av (Aa Av Ab))))
   (Ad (AcU (Cp (Aa (pv 1) (Aa (pv 0) Ab))) (ApK (K:=K) Z (CW (Bp (i:=0) Dg.nd Z (Or.inr Z)) (CW (Bp (i:=1) Dg.nd Z (Or.inl Z)) HS))))))
   Ao)
  (Ac (Bd (PW.pt (pw_or (Ah G5 (Ai (Ak (K:=K)) Z T.BJ Bj (Aa (pv 0) Ab)) (Ai (Ak (K:=K)) Z T.BJ Bj (Aa (pv 1) Ab)) (Ax _)) (pw_or1 (Ah G5 (Ai Bs Z T.BJ Bj (Aa (Az (Aw (K:=K)) (pv 0) Af (λ_ _=>rfl)) Ab)) (Ai Bs Z T.BJ Bj (Aa (Az (Aw (K:=K)) (pv 1) Af (λ_ _=>rfl)) Ab)) (Ax _)))))
   (Ac (Akx (i:=4) (Jy.mk (Bv:=[0]) (Nc:=["k", "one"]) Z rfl (by decide +kernel) (Zj (sc0:=Ag J1) Z (by decide +kernel)) Z rfl Z (by decide +kernel) (λk j h=>match k,h with | 0,h=>by obtain rfl:=Option.some.inj h;exact⟨_,Z,Z,Z⟩ | _+1,h=>by simp at h)) Z Dg.nd Z rfl (Ca Z T.Cq (Aa (Ai Bs Z T.BJ Bj (Aa (Az (Aw (K:=K)) (pv 0) Af (λ_ _=>rfl)) Ab)) Ab)) (λ_ _ _ _ _=>.nil) (λ_ _ _ _ _=>(Bw (K:=K) zI zS zV (Dk (K:=K)) Av (Aa (Cg (R8.mk (Bv:=[0]) (Nc:=["row", "k"]) Z (by decide +kernel) (by decide +kernel) (Afc (sc0:=Ag J1) Z (by decide +kernel)) Z rfl Z (by decide +kernel) (λk j h=>match k,h with | 0,h=>by obtain rfl:=Option.some.inj h;exact⟨_,Z,Z,Z⟩ | _+1,h=>by simp at h)) Z (Bq (K:=K) (pv 1)) (λ_ _ _ _ _=>.nil) (λ_ _ _ _ _=>(Bg T.Ac8 (Aeo T) hr (Aa (Az Hs (pv 0) (pv 1) (λ_ _=>rfl)) Ab)))) Ab))) Z)
   (Ad (Ay (Ir (Aa (Bx BL (Bx BL Av (Az (Aw (K:=K)) (pv 3) Af (λ_ _=>rfl))) Av) (Aa (pv 4) Ab))))))
   Ao)
  (Ac (Ba (i:=4) Dg.nd Z (Or.inl Z) (Cp Ab))
  (Ac (BX PassesOwn.never Z (Ca Z T.Cq (Aa (Ai (Ak (K:=K)) Z T.BJ Bj (Aa (pv 0) Ab)) Ab)) (Bp (i:=5) Dg.nd Z (Or.inl Z))
   (Ac (Bo (Bw (K:=K) zM zL zQ Cd (pv 4) (Aa (Bw (K:=K) zI zS zV (Dk (K:=K)) Av (Aa (Cg (cok [] ["sign"] Dg) Z (RC (Az (Aw (K:=K)) (pv 0) (pv 5) (λ_ _=>rfl))) (λ_ _ _ _ _=>.nil) (λ_ _ _ _ _=>(Bx BL (pv 0) Av))) Ab)) Ab)))
   (Ad (Bo (Bw (K:=K) zM zL zQ Cd (pv 4) (Aa (Bw (K:=K) zI zS zV (Dk (K:=K)) Av (Aa (Cg (cok [] ["sign"] Dg) Z (RC (Az (Aw (K:=K)) (pv 1) (pv 5) (λ_ _=>rfl))) (λ_ _ _ _ _=>.nil) (λ_ _ _ _ _=>(Bx BL Av (pv 0)))) Ab)) Ab))))))
  (Ad (Ay (Ir (Aa (Bx BL (Bx BL (Bx BL (Bx BL Av (Az (Aw (K:=K)) (pv 3) Af (λ_ _=>rfl))) Av) (Az (Aw (K:=K)) (pv 3) Af (λ_ _=>rfl))) Av) (Aa (pv 4) Ab)))))))))),?_⟩;rw[AhW,AhX,AlZ,Aq3,WM,WL,Aq2];refine⟨(by show 2<=sizeLine;decide),λl1 aj=>?_⟩;have s1:Aq H (upd H l1 (.lst (vS [fiW,seW]))):=.upd aj;have h1:(upd H l1 (.lst (vS [fiW,seW]))) l1=some (.lst (vS [fiW,seW])):=Ae;rw[show(upd H l1 (.lst [V.str (tx fiW),V.str (tx seW)]))=upd H l1 (.lst (vS [fiW,seW])) from rfl];generalize upd H l1 (.lst (vS [fiW,seW]))=H1 at s1 h1 ⊢;refine GP (σ':=[some (.ref a0),some (.ref b0),some (.bl tb),some (.ref l1),none,none]) Z rfl ?_;apply Amb (λa b ln H2=>Aq H H2/\∃(x y:NN)(s B:NI)(m n m' n':Nat),H2 a=some (.lst (vS x))/\H2 b=some (.lst (vS y))/\H2 ln=some (.lst (vS [s,B]))/\Cl x m n/\Cl y m' n'/\m<=6/\n<=6/\m'<=6/\n'<=6/\((s=fiW/\x=S/\B=seW/\y=Y)\/(s=seW/\x=Y/\B=fiW/\y=S)))
 ·intro rest;refine⟨_,Z,tb,Z,?_⟩;refine Apy (λc=>?tt) (λc=>?ff)
  case tt =>
   refine⟨(by show 2<=sizeLine;decide),λR au=>?_⟩;have M:Aq H (upd H1 R (.lst (vS [seW,fiW]))):=s1.new au;have h2:(upd H1 R (.lst (vS [seW,fiW]))) R=some (.lst (vS [seW,fiW])):=Ae;rw[show(upd H1 R (.lst [V.str (tx seW),V.str (tx fiW)]))=upd H1 R (.lst (vS [seW,fiW])) from rfl];generalize upd H1 R (.lst (vS [seW,fiW]))=H2 at M h2 ⊢;refine GP (σ':=[some (.ref a0),some (.ref b0),some (.bl tb),some (.ref R),none,none]) Z rfl ?_;refine⟨_,Z,_,Z,(by show 2<=sizeLine;decide),λl3 ar=>?_⟩;obtain⟨d,e9,v,h3⟩:=nu9 (o:=.lst [.ref b0,.ref a0]) (.refl _) ar;rw[e9];refine⟨l3,_,Z,SqL.of h3,Z,_,_,Z,GP (σ':=[some (.ref b0),some (.ref b0),some (.bl tb),some (.ref R),none,none]) Z rfl ⟨_,_,Z,GP (σ':=[some (.ref b0),some (.ref a0),some (.bl tb),some (.ref R),none,none]) Z rfl ⟨Z,?_⟩⟩⟩;obtain⟨b',e1⟩:∃ b',b'=b0:=⟨_,Z⟩;obtain⟨a',e2⟩:∃ a',a'=a0:=⟨_,Z⟩;rw[<- e1,<- e2];exact rest b' a' R d ⟨M.trans v,Y,S,_,_,_,_,_,_,(by rw[e1];exact(M.trans v) _ _ a6),(by rw[e2];exact(M.trans v) _ _ ac),v _ _ h2,D0,C0,W,ab,I,O,.inr ⟨Z,Z,Z,Z⟩⟩
  case ff=>exact rest a0 b0 l1 H1 ⟨s1,S,Y,_,_,_,_,_,_,s1 _ _ ac,s1 _ _ a6,h1,C0,D0,I,O,W,ab,.inl ⟨Z,Z,Z,Z⟩⟩
 rintro a b ln H9 ⟨s9,x,y,s,B,m,n,m',n',hA,hB,ae,C,D,I,O,W,ab,hN⟩;clear s1 h1 aj C0 D0 ac a6;have v0:atI (vS [s,B]) 0=some (.str (tx s)):=JD (i:=0) Z;have v1:atI (vS [s,B]) 1=some (.str (tx B)):=JD (i:=1) Z;have X:s.length<=6/\B.length<=6/\Nm s/\Nm B:=by
  rcases hN with ⟨rfl,_,rfl,_⟩ | ⟨rfl,_,rfl,_⟩
  ·exact⟨by decide,by decide,Aer.1,Aer.2⟩
  ·exact⟨by decide,by decide,Aer.2,Aer.1⟩
 have ak:(s=fiW/\x=S)\/(s=seW/\x=Y):=hN.imp (λh=>⟨h.1,h.2.1⟩) λh=>⟨h.1,h.2.1⟩;have aw:(B=fiW/\y=S)\/(B=seW/\y=Y):=hN.elim (λh=>.inr ⟨h.2.2.1,h.2.2.2⟩) λh=>.inl ⟨h.2.2.1,h.2.2.2⟩;obtain⟨u0,U,J⟩:=C.at C.n1;obtain⟨w0,av,af⟩:=D.at D.n1;have fin:∀(q:Addr)(d:Hp)(f:Fm)(z:NN)(p:Addr),Aq H d->d q=some (.lst (vS z))->Th S Y f z->d p=none->Q (.ref p) (upd d p (.tup [.str (tx ([61,32]++(f.word++f.tail))),.ref q])):=λq d f z p v hq hT np =>
  k p q f z _ (v.new np) Ae (by rw[Aj (Bb hq np)];exact hq) hT;have ao:n=n'->m=m'->Th S Y (.wds laW [s,B]) (lay [x,y] (Es m) (Es n)):=λc1 c2=>by
  have D':Cl y m n:=by rw[c1,c2];exact D
  refine⟨laW,[s,B],[x,y],Z,⟨.inr ⟨Z,Z⟩,λz hz=>?_⟩,(by simp[cj];omega),Z,λj nm c e1 e2=>?_,.inr ⟨Z,x,y,m,n,Z,C,D',by exact Ar.a2 I,by exact Ar.a2 O,Z⟩,2*m,2*n,?_,by exact Ar.k6 I,by exact Ar.k6 O⟩
  ·simp only [Aui,Auj,or_false] at hz;rcases hz with rfl | rfl
   ·exact X.2.2.1
   ·exact X.2.2.2
  ·match j,e1,e2 with
   | 0,e1,e2=>cases e1;cases e2;exact ak
   | 1,e1,e2=>cases e1;cases e2;exact aw
  ·have:=Aqe (Als C D' (by exact Ar.k6 I) (by exact Ar.k6 O));rw[Eg,Eg] at this;exact this
 have wx:wdt x=m:=by
  unfold wdt;cases x with
  | nil=>cases U
  | cons r x=>cases U;exact J
 have ap:Th S Y (.wds quW [s]) (IK x m):=by
  refine⟨quW,[s],[x],Z,⟨.inl ⟨Z,Z⟩,λz hz=>by rw[zF.mp hz];exact X.2.2.1⟩,(by simp[cj];exact Ar.a2 X.1),Z,λj nm c e1 e2=>?_,.inl ⟨Z,x,Z,(by unfold Clo;rw[wx,C.hn];exact C),by rw[wx]⟩,n,m,C.IK,by exact Ar.a2 O,by exact Ar.a2 I⟩
  match j,e1,e2 with
  | 0,e1,e2=>cases e1;cases e2;exact ak
 have hn:=C.hn;have as:=D.hn;refine⟨_,Z,_,_,Z,.inl (SqL.of hA),_,Z,_,_,Z,.inl (SqL.of hB),Z,_,Z,?_⟩;rw[Bt,Bt,hn,as];apply Ama
 ·intro rest;by_cases c1:n=n'
  ·refine Oa (by rw[c1]) ?_;refine⟨_,Z,_,_,_,_,Z,Z,SqL.of hA,JD (i:=0) U,_,Z,(by rw[Al];exact big (by exact Ar.g6 J I)),_,Z,_,_,_,_,Z,Z,SqL.of hB,JD (i:=0) av,_,Z,(by rw[Al];exact big (by exact Ar.g6 af W)),Z,_,Z,?_⟩;rw[Al,Al,J,af];by_cases c2:m=m'
   ·refine Oa (by rw[c2]) ?_;have D':Cl y m n:=by rw[c1,c2];exact D
    have zl:(x.zip y).length=x.length:=by rw[List.length_zip,hn,D'.hn,Avw]
    have b4:=C.n40;have am:=C.m40;refine⟨AtR _,λq nq=>?_⟩;have s1:Aq H9 (upd H9 q (.lst [])):=.upd nq;have ai:(upd H9 q (.lst [])) q=some (.lst (vS [])):=Ae;generalize upd H9 q (.lst [])=H1 at s1 ai ⊢;refine⟨_,Z,_,_,Z,.inl (s1.seq (SqL.of hA)),_,Z,(by exact Ar.a7),(by rw[Bt];omega),?_⟩;rw[Bt,Auh];refine Dw (lo:=0) (n:=x.length) (λj σ d=>∃(v5:Option V),σ=[some (.ref a),some (.ref b),some (.bl tb),some (.ref ln),some (.ref q),v5]/\Aq H9 d/\d q=some (.lst (vS (((x.zip y).take j).flatMap λq=>[ldA q.1,ldB q.2])))) ⟨none,Z,s1,ai⟩ ?_ ?_
    ·rintro j σ d hj ⟨v5,rfl,v,A⟩;have an:j<y.length:=by rw[D'.hn,<- C.hn];exact hj
     have ex:=AtF hj;have ey:=AtF an;have wx:=C.hm _ (AtT hj);have wy:=D'.hm _ (AtT an);have ez:(x.zip y)[j]?=some (x[j],y[j]):=List.getElem?_zip_eq_some.mpr ⟨ex,ey⟩;generalize x[j]=L at ex wx ez;generalize y[j]=yr at ey wy ez;have lz:(((x.zip y).take j).flatMap λq=>[ldA q.1,ldB q.2]).length<=80:=by
      rw[Oh (h:=2) _ λq _=>rfl,AtX];omega
     generalize ew:(((x.zip y).take j).flatMap λq=>[ldA q.1,ldB q.2])=w0 at A lz;have en:((x.zip y).take (j+1)).flatMap (λq=>[ldA q.1,ldB q.2])=w0++[ldA L,ldB yr]:=by
      rw[AtV,ez,List.flatMap_append,ew];rfl
     refine⟨_,Z,.inl ⟨Z,_,SqL.of A⟩,Z,_,Z,_,Z,_,_,_,_,Z,Z,v.seq (SqL.of hA),(by rw[Au6];exact JD ex),_,Z,S9 (z:=tx L) (λe ys H4=>H4=d/\ys=vS ((L.take e).map λc=>[c,46])) ⟨Z,Z⟩ ?_ ?_ ?_ ?_⟩
     ·rintro e ys H4 he ⟨rfl,rfl⟩;rw[Bt,AtG,AtX];exact Ar.k7
     ·rw[SM,wx];exact Cv am
     ·rintro e cc ys H4 he N ⟨rfl,rfl⟩;rw[Ob] at N;refine Ms.no ?_;rw[show(("." : Str))=tx [46] from by decide +kernel];refine⟨_,Z,_,_,Z,Z,(by rw[Lj,Al,Al];exact big (by show 2<=1000000;decide)),?_⟩;rw[Lj,DW];refine CN.of he ⟨Z,?_⟩;rw[Dm,AtV,N,AtK];rfl
     ·rintro ys H4 p ⟨rfl,rfl⟩ np;rw[SM,Aue];obtain⟨H5,e9,s5,h5⟩:=nu9 (o:=.lst (vS (L.map λc=>[c,46]))) (.refl _) np;rw[e9];have ef:(L.map λc=>[c,46]).flatten=ldA L:=by unfold ldA;rw[List.flatMap_def]
      have la:=AhI L;refine⟨_,_,((L.map λc=>[c,46]).map tx),Z,Z,SqL.of (by rw[h5,Fy]),(by rw[Aeq,ef,Al,Aun,Nat.mul_zero];omega),?_⟩;rw[Ln,ef];refine⟨_,_,_,Z,Z,s5 _ _ A,(by rw[Bt];exact Ar.g3 lz),?_⟩;rw[Dm];have s6:Aq H9 (upd H5 q (.lst (vS (w0++[ldA L])))):=(v.trans s5).over nq;have aa:(upd H5 q (.lst (vS (w0++[ldA L])))) q=some (.lst (vS (w0++[ldA L]))):=Ae;generalize upd H5 q (.lst (vS (w0++[ldA L])))=H6 at s6 aa ⊢;refine⟨_,Z,.inl ⟨Z,_,SqL.of aa⟩,Z,_,Z,_,Z,_,_,_,_,Z,Z,s6.seq (SqL.of hB),(by rw[Au6];exact JD ey),_,Z,S9 (z:=tx yr) (λe ys H7=>H7=H6/\ys=vS ((yr.take e).map λc=>[35,c])) ⟨Z,Z⟩ ?_ ?_ ?_ ?_⟩
      ·rintro e ys H7 he ⟨rfl,rfl⟩;rw[Bt,AtG,AtX];exact Ar.k7
      ·rw[SM,wy];exact Cv am
      ·rintro e cc ys H7 he N ⟨rfl,rfl⟩;rw[Ob] at N;refine Ms.no ?_;rw[show(("#" : Str))=tx [35] from by decide +kernel];refine⟨_,Z,_,_,Z,Z,(by rw[Lj,Al,Al];exact big (by show 2<=1000000;decide)),?_⟩;rw[Lj,DW];refine CN.of he ⟨Z,?_⟩;rw[Dm,AtV,N,AtK];rfl
      ·rintro ys H7 p7 ⟨rfl,rfl⟩ ax;rw[SM,Aue];obtain⟨H8,e9,s8,h8⟩:=nu9 (o:=.lst (vS (yr.map λc=>[35,c]))) (.refl _) ax;rw[e9];have eg:(yr.map λc=>[35,c]).flatten=ldB yr:=by unfold ldB;rw[List.flatMap_def]
       have lb:=AhJ yr;refine⟨_,_,((yr.map λc=>[35,c]).map tx),Z,Z,SqL.of (by rw[h8,Fy]),(by rw[Aeq,eg,Al,Aun,Nat.mul_zero];omega),?_⟩;rw[Ln,eg];refine⟨_,_,_,Z,Z,s8 _ _ aa,(by rw[Bt,AtI];exact Aua (show w0.length+1<1000 by exact Ar.g3 (Ar.j6 lz)) (by decide)),?_⟩;rw[Dm];refine⟨_,Z,(s6.trans s8).over nq,?_⟩;rw[Ae,en,Auk];rfl
    ·rintro σ d ⟨v5,rfl,v,A⟩;rw[Auf (by exact Ar.d2 zl)] at A;have el:=AnD C D';have A:d q=some (.lst (vS (lay [x,y] (Es m) (Es n)))):=by rw[el];exact A
     have hT:=ao c1 c2;have a1:=X.1;have a2:=X.2.1;refine⟨_,Z,_,_,_,_,Z,Z,SqL.of (v _ _ ae),v0,_,_,Z,Z,(by rw[Al,Al];exact big (by show 6+_<=_;omega)),?_⟩;rw[DW];refine⟨_,_,Z,Z,(by rw[Al,Al,AtI];exact big (by show 6+_+1<=_;omega)),?_⟩;rw[DW];refine⟨_,Z,_,_,_,_,Z,Z,SqL.of (v _ _ ae),v1,_,_,Z,Z,(by rw[Al,Al,AtI,AtI];exact big (by show 6+_+1+_<=_;omega)),?_⟩;rw[DW];refine⟨_,_,Z,Z,(by rw[Al,Al,AtI,AtI,AtI];exact big (by show 6+_+1+_+1<=_;omega)),?_⟩;rw[DW,show([61,32]++(laW++[40]))++s++[44]++B++[41]=[61,32]++((Fm.wds laW [s,B]).word++(Fm.wds laW [s,B]).tail) by simp[Fm.word,Fm.tail,Fm.cmp,Fm.inner,cj]];exact⟨_,Z,(by show 2<=sizeLine;decide),λp np=>fin q d _ _ p (s9.trans v) A hT np⟩
   ·refine AjP (λz=>c2 (by injection z with z;exact Ar.b1 z)) ?_;exact rest ()
  ·refine AjP (λz=>c1 (by injection z with z;exact Ar.b1 z)) ?_;exact Aby (rest ())
 refine⟨_,Z,_,_,_,_,Z,Z,SqL.of hA,JD (i:=0) U,_,Z,(by rw[Al,J];exact big (by exact Ar.a2 I)),_,Z,(by exact Ar.a7),(by rw[Al,J];exact Ar.a8 I),?_⟩;rw[Al,J,Auh];refine DR (lo:=0) (n:=m) (λi ys H2=>Aq H9 H2/\ys=vS ((List.range i).map λe=>(col x e).map flip)) ⟨.refl _,Z⟩ ?_ ?_ ?_ ?_
 ·rintro i ys H2 hi ⟨M,rfl⟩;rw[Bt,AtG,AtO];exact AtH _
 ·(have:=I;exact Ar.a2 I)
 ·rintro i ys H2 hi ⟨M,rfl⟩;refine Ms.no ?_;have cl:(col x i).length=x.length:=by unfold col;rw[AtG]
  refine⟨Z,_,Z,_,Z,⟨_,M.seq (SqL.of hA)⟩,BV (K:=K) (a:=a) (xs:=vS x) (λj ys d=>d=H2/\ys=vS ((((col x i).take j).map flip).map λc=>[c])) ⟨Z,Z⟩ ?_ ?_ ?_ ?_⟩
  ·rintro j ys d hj ⟨rfl,rfl⟩;refine⟨M.seq (SqL.of hA),?_⟩;rw[Bt,AtG,AtG,AtX];exact Ar.k7
  ·rw[Bt];(have:=O;have:=C.hn;exact Ar.g6 hn O)
  ·rintro j xv ys d hj hx ⟨rfl,rfl⟩;obtain⟨u,hu,rfl⟩:=Ff hx;have ag:=C.hm u (AtN hu);have ah:i<u.length:=by rw[ag];exact hi
   refine Ms.no ?_;refine⟨_,Z,_,Z,_,_,u[i],Z,Z,(by rw[Al,ag];(have:=I;exact Ar.a2 I)),Br (by exact Ar.a5) (by rw[z0,GR];exact AtF ah),u[i],Z,?_⟩;refine CN.of hj ⟨Z,?_⟩;have ec:(col x i)[j]?=some u[i]:=by
    unfold col;rw[AtQ,hu];show some (u.getD i 0)=_;rw[AtY,AtF ah];rfl
   rw[Dm,AtV,ec,AtK,AtK];rfl
  ·rintro ys d l ⟨rfl,rfl⟩ X;rw[Bt,Auf (by rw[cl];exact AtH _)];obtain⟨H4,e9,v,h3⟩:=nu9 (o:=.lst (vS (((col x i).map flip).map λc=>[c]))) M X;rw[e9];have e2:(((col x i).map flip).map λc=>[c]).flatten=(col x i).map flip:=(AbY id ((col x i).map flip)).trans (List.map_id _);refine⟨_,_,((((col x i).map flip).map λc=>[c]).map tx),Z,Z,SqL.of (by rw[h3,Fy]),(by rw[Aeq,e2,AtG,cl,Al,Aun,Nat.mul_zero];exact Ar.g6 hn O),?_⟩;rw[Ln,e2];refine CN.of hi ⟨v,?_⟩;rw[Dm,Aur,AtK];rfl
 ·rintro ys H2 l ⟨M,rfl⟩ aq;have al:(upd H2 l (.lst (vS (IK x m)))) l=some (.lst (vS (IK x m))):=Ae;have v:Aq H9 (upd H2 l (.lst (vS (IK x m)))):=M.new aq;rw[show(List.range m).map (λe=>(col x e).map flip)=IK x m from rfl];generalize upd H2 l (.lst (vS (IK x m)))=d at v al ⊢;have a1:=X.1;refine GP (σ':=[some (.ref a),some (.ref b),some (.bl tb),some (.ref ln),some (.ref l),none]) Z rfl ?_;refine⟨_,Z,_,_,_,_,Z,Z,SqL.of (v _ _ ae),v0,_,_,Z,Z,(by rw[Al,Al];exact big (by show 10+_<=_;omega)),?_⟩;rw[DW];refine⟨_,_,Z,Z,(by rw[Al,Al,AtI];exact big (by show 10+_+1<=_;omega)),?_⟩;rw[DW,show([61,32]++(quW++[40]))++s++[41]=[61,32]++((Fm.wds quW [s]).word++(Fm.wds quW [s]).tail) by simp[Fm.word,Fm.tail,Fm.cmp,Fm.inner,cj]];exact⟨_,Z,(by show 2<=sizeLine;decide),λp np=>fin l d _ _ p (s9.trans v) al ap np⟩
end
end Mine
namespace L2
open PySem PySem.Spec PyProof.Rows
section
variable {X:Cx}{K:NF}
inductive Asw (K:NF)(x:V)(y:V)(H:Hp)(Q:VK):Prop
|mk(p:Addr)(q:Addr)(xs:Na)(ys:Na)(_:x=.ref p)(_:y=.ref q)(_:SqT K H p xs)(_:SqT K H q ys)(_:xs.length=ys.length)(_:(∀(i:Nat)(x y:V),xs[i]?=some x->ys[i]?=some y->AeZ K H 50 x y))(_:Q (.bl false) H)
theorem Aod(D:X.A.units+100<cLine)(d:X.K=K:=by rfl):OpR X (compareOp .NotEq) (Asw K):=by
 subst d;intro pins s σ H x y v u Q I w m h;obtain⟨p,q,xs,ys,rfl,rfl,o,t,C,l,k⟩:=h;cases w;cases m;obtain⟨its,r,pl,J⟩:=I.tuple o;obtain⟨a,c,b,i⟩:=I.tuple t;have F:=r.length;have E:=c.length;refine SeqAt.RcNeAt.tuples (e:=λ_=>true) pl b (by omega) (λj h1 h2=>?_) _ _ _ _ ?_
 ·obtain⟨x,ex,B⟩:=Kd r h1;obtain⟨y,f,z⟩:=Kd c h2;exact Aki (n:=50) I (l j x y ex f) B z (by show X.A.units+1+50<cLine;omega)
 refine⟨.bl false,H,I,?_,k⟩;show Value.bool _=Value.bool _;have:its.length=a.length:=by omega
 simp[this]
end
end L2
namespace Mine
open PySem L2
variable {P:Program}{w:World}{mg:Str->NY}{t:Adr}{ws ks u d nm:NI}{m n c:Nat}{x cl y z:NN}{tT a tc:Addr}
seal PE PT PW PA PS PSs PC PG PGs Aj1 PIp AoW PIE PI PO PEX PSX Ap2
section
variable {K:NF}{base:Heap}
theorem Amd{i v:Nat}(h:ws[i]?=some v):(vI (cI ws))[i]?=some (.int (v:Int)):=Fw (by unfold cI;rw[AtQ,h];rfl)
inductive Aju (K:NF)(vs:Na)(H:Hp)(Q:VK)(z3:XK):Prop
|mk(a:Addr)(lf:Addr)(b:Addr)(cl:NN)(m:Nat)(n:Nat)(ws:NI)(fs:NI)(_:vs=[.ref a,.ref lf,.ref b])(_:SqL K H a (vS cl))(_:Cl cl m n)(_:H lf=some (.lst (vI (cI fs))))(_:SqL K H b (vI (cI ws)))(_:NS (m+n) ws)(_:Rd (lows cl m) ws fs)(_:m+n<64)(_:∀ H',Aq H H'->Q (.bl true) H')
theorem Aeu(T:Txt K mg t):Bl P w K mg base CX0 2 t.Y6 t.Y7 ["rows", "found", "layer"] (Aju K):=by
 refine T.AcA.F.ok Ik ?_;rintro _ _ _ _ H _ Q E I ⟨a,lf,b,cl,m,n,ws,fs,rfl,hA,C,c,s,ns,p,l,k⟩;have hsz:=z8;have o:=ns.len;refine⟨_,(Ac (Bd (PW.pt (pw_or (CQ (Ck (Ai (Eu (K:=K)) Z T.Dh CJ (Aa (pv 1) (Aa (GQ (v:=.ty "list") Z T.Gu Fb Z) Ab))))) (pw_or (Ah Ci (Ai (Ak (K:=K)) Z T.BJ Bj (Aa (pv 1) Ab)) Af (Ax _)) (pw_or1 (CQ (Ck (Ai (Wc (K:=K)) Z T.AkK Agz (Aa (Cg (cok [] ["one"] Ik) Z (Bq (K:=K) (pv 1)) (λ_ _ _ _ _=>.nil) (λ_ _ _ _ _=>(Bg T.Wx (V6 T) I (Aa (pv 0) Ab)))) Ab))))))))
   (Ad (Ay Gb))
   Ao)
  (Ac (Bd (Ah Ci (Ai (Ak (K:=K)) Z T.BJ Bj (Aa (pv 2) Ab)) Af (Ax _))
   (Ad (Ay (Ea (Ahp (K:=K) (I.AjE)) (pv 1) (pv 2) (Ax _))))
   Ao)
  (Ac (BX PassesOwn.never Z (Ca Z T.Cq (Aa (Ai (Ak (K:=K)) Z T.BJ Bj (Aa (pv 1) Ab)) Ab)) (Bp (i:=3) Ik.nd Z (Or.inl Z))
   (Ad (Bd (PW.pt (pw_or (Ah (JH (K:=K)) (Az (Aw (K:=K)) (pv 1) (pv 3) (λ_ _=>rfl)) (pv 2) Z) (pw_or1 (CQ (Ck (Bg T.AaX (YJ T) I (Aa (pv 0) (Aa (Az (Aw (K:=K)) (pv 1) (pv 3) (λ_ _=>rfl)) (Aa (Az (Aw (K:=K)) (pv 1) (Bx Lb (Bx Ey (pv 3) Af) (Ai (Ak (K:=K)) Z T.BJ Bj (Aa (pv 1) Ab))) (λ_ _=>rfl)) Ab)))))))))
    (Ad (Ay Gb))
    Ao)))
  (Ad (Ay (Ai (Wc (K:=K)) Z T.AkK Agz (Aa (Cg (cok [1] ["one", "found"] Ik) Z (Bq (K:=K) (pv 2)) (λ_ _ _ _ _=>.nil) (λ_ _ _ _ _=>(Ea (Lp) (pv 0) (pv 1) Z))) Ab))))))),?_⟩;have X:=zY.mpr ns.ne;have fl:0<fs.length:=by
  have:= p.all ws[0] (AtT X);exact AvO this
 have A:fs.length<=64*64:=AtW p.len (Av0 (by exact Ar.b8 o (Ar.c3 l)) (by exact Ar.b8 o (Ar.c3 l)));have r:(vI (cI fs)).length=fs.length:=by rw[Bh,Hu]
 have S:(vI (cI ws)).length=ws.length:=by rw[Bh,Hu]
 refine⟨_,Z,_,_,true,.lst c,.inl ⟨_,Z,Gx K _⟩,_,Z,?_⟩;refine⟨_,Z,_,_,Z,.inl (SqL.of c),Z,_,Z,?_⟩;refine CZ (λh=>by grind) ?_;refine⟨_,Z,_,Z,⟨_,SqL.of c⟩,BV (xs:=vI (cI fs)) (λj ys f=>f=H/\ys=vB (List.replicate j true)) ⟨Z,Z⟩ ?_ ?_ ?_ ?_⟩
 ·rintro j ys f e ⟨rfl,rfl⟩;exact⟨SqL.of c,by rw[VR,Au8];exact AtH _⟩
 ·rw[r];exact Ar.a2 A
 ·rintro j x ys f e O ⟨rfl,rfl⟩;obtain⟨z,u,rfl⟩:=Ek O;exact⟨_,Z,z,Z,CN.of e ⟨Z,by rw[Avz,Wa]⟩⟩
 rintro ys G q0 ⟨rfl,rfl⟩ L;have d:Aq G (upd G q0 (.lst (vB (List.replicate (vI (cI fs)).length true)))):=.upd L;refine⟨_,_,Z,SqL.of Ae,?_⟩;rw[show(List.replicate (vI (cI fs)).length true).all id=true by rw[Avc];intro b D;exact AvD D];generalize upd G q0 (.lst (vB (List.replicate (vI (cI fs)).length true)))=H3 at d ⊢;refine⟨_,Z,?_⟩;refine⟨_,Z,_,_,Z,.inl (d.seq s),Z,_,Z,?_⟩;refine Dj (λh=>?_) (λh=>?_)
 ·rw[S] at h;have R:ws.length=1:=by grind
  have ef:=p.one R;subst ef;refine⟨_,Z,_,Z,_,_,_,_,Z,Z,SqL.of (d _ _ c),d.seq s,Gj _,Gj _,?_⟩;rw[ZK (Gj _)];exact k _ d
 ·have R:1<ws.length:=by
   grind
  refine⟨_,Z,_,_,Z,.inl (SqL.of (d _ _ c)),_,Z,(by rw[r];exact Ar.a7),(by rw[r];exact Ar.a8 A),?_⟩;rw[r,Auh];refine Dw (λi σ B=>∃ J,σ=[some (.ref a),some (.ref lf),some (.ref b),J]/\B=H3) ⟨none,Z,Z⟩ ?_ ?_
  ·rintro i σ B hi ⟨J,rfl,rfl⟩;have a1:atI (vI (cI fs)) (0+(i:Int))=some (.int (fs[i]:Int)):=Br (by exact Ar.a5) (by rw[show(0+(i:Int)).toNat=i by exact Ar.m2];exact Amd (AtF hi));have e:(i+1)%fs.length<fs.length:=Nat.mod_lt _ fl;have em:((0+(i:Int))+1)%((fs.length:Nat):Int)=(((i+1)%fs.length:Nat):Int):=by
    grind
   have a2:atI (vI (cI fs)) (((0+(i:Int))+1)%((fs.length:Nat):Int))=some (.int (fs[(i+1)%fs.length]:Int)):=by
    rw[em];exact Br (by exact Ar.a9) (by exact Amd (AtF e))
   have y:=p.ins _ (AtT hi);have N:=p.ins _ (AtT e);have Y:=p.nxt R i _ _ (AtF hi) (AtF e);refine⟨_,Z,_,Z,_,_,_,_,Z,Z,SqL.of (d _ _ c),a1,_,Z,_,_,Z,.inl (d.seq s),Z,Gj _,_,Z,?_⟩;rw[VP,zN (IW.mpr y)];refine⟨_,Z,_,Z,_,Z,_,_,_,_,Z,Z,SqL.of (d _ _ c),a1,_,Z,_,Z,_,_,Z,Z,_,Z,_,_,Z,.inl (SqL.of (d _ _ c)),_,_,Z,Z,(by rw[r];exact Ar.f5 fl),_,_,_,_,Z,Z,SqL.of (d _ _ c),(by rw[r];exact a2),a,cl,m,n,_,_,Z,d.seq hA,C,ns.lt _ y,ns.lt _ N,λ_=>?_,λh=>absurd Y h⟩;refine⟨_,Z,?_⟩;exact⟨_,Z,Z⟩
  ·rintro σ B ⟨J,rfl,rfl⟩;refine⟨_,Z,_,Z,⟨_,d.seq s⟩,BV (xs:=vI (cI ws)) (λj ys f=>f=B/\ys=vB (List.replicate j true)) ⟨Z,Z⟩ ?_ ?_ ?_ ?_⟩
   ·rintro j ys f e ⟨rfl,rfl⟩;exact⟨d.seq s,by rw[VR,Au8];exact AtH _⟩
   ·rw[S];exact Ar.g5 o (Ar.c3 l)
   ·rintro j x ys f e O ⟨rfl,rfl⟩;obtain⟨z,u,rfl⟩:=Ek O;have M:=AtN u;obtain⟨v,W,rfl⟩:=yC.mp M;refine⟨_,Z,_,Z,_,_,Z,.inl (SqL.of (d _ _ c)),Z,Gj _,?_⟩;show CN _ _ _ (_++[.bl (inV (.int (v:Int)) (vI (cI fs)))]) _;rw[VP,zN (IW.mpr (p.all v W))];refine CN.of e ⟨Z,?_⟩;rw[Avz,Wa]
   ·rintro ys f q ⟨rfl,rfl⟩ U;refine⟨_,_,Z,SqL.of Ae,?_⟩;rw[show(List.replicate (vI (cI ws)).length true).all id=true by rw[Avc];intro b D;exact AvD D];exact k _ (d.new U)
inductive Ame (K:NF)(vs:Na)(H:Hp)(Q:VK)(z3:XK):Prop
|mk(a:Addr)(w1:Addr)(w2:Addr)(x:NN)(m:Nat)(n:Nat)(_:vs=[.ref a,.ref w1,.ref w2])(_:H a=some (.lst (vS x)))(_:Cl x m n)(_:m+n<64)(_:An false H w1 x)(_:An true H w2 x)(_:∀ H',Aq H H'->Q (.bl true) H')
theorem Cl.eqs{b a:Nat}(C:Cl x m n)(D:Cl x b a):m=b/\n=a:=by
 have h:0<x.length:=by rw[C.hn];exact C.n1
 exact⟨(C.hm _ (AtT h)).symm.trans (D.hm _ (AtT h)),C.hn.symm.trans D.hn⟩
theorem Aev(T:Txt K mg t):Bl P w K mg base CX0 3 t.Pr t.Pu ["rows", "woven_one", "told"] (Ame K):=by
 refine T.AcC.F.ok Uj ?_;rintro _ _ _ _ H _ Q E B ⟨a,w1,w2,x,m,n,rfl,y,C,d,⟨lc,q,X⟩,⟨m',n',l,D,rs,tss,zs,eo,po,ws,C',b,N,L,e,wl,hW⟩,k⟩;obtain⟨rfl,rfl⟩:=C.eqs C';have few:=L.few;obtain⟨u0,W,s⟩:=C.at C.n1;have S:=C.m40;refine⟨_,(Ac (Bd (PW.pt (pw_or (CQ (Ck (Ai (Eu (K:=K)) Z T.Dh CJ (Aa (pv 1) (Aa (GQ (v:=.ty "tuple") Z T.Ad3 ZL Z) Ab))))) (pw_or1 (Ah (Aod (K:=K) (B.Aka)) (pv 1) (Ir (Aa Av (Aa (pv 0) Ab))) (Ax _)))))
   (Ad (Ay Gb))
   Ao)
  (Ac (Bd (PW.pt (pw_or (CQ (Ck (Ai (Eu (K:=K)) Z T.Dh CJ (Aa (pv 2) (Aa (GQ (v:=.ty "tuple") Z T.Ad3 ZL Z) Ab))))) (pw_or (Ah G5 (Ai (Ak (K:=K)) Z T.BJ Bj (Aa (pv 2) Ab)) Af (Ax _)) (pw_or1 (Ah G5 (Az (BW (K:=K)) (pv 2) Af (λ_ _=>rfl)) Av (Ax _))))))
   (Ad (Ay Gb))
   Ao)
  (Ac (Bd (PW.pt (pw_or (CQ (Ck (Bg T.Af4 (AfU T) B (Aa (Az (BW (K:=K)) (pv 2) Af (λ_ _=>rfl)) (Aa (Bx Ey (Ai Bs Z T.BJ Bj (Aa (Az (Aw (K:=K)) (pv 0) Af (λ_ _=>rfl)) Ab)) (Ai (Ak (K:=K)) Z T.BJ Bj (Aa (pv 0) Ab))) Ab))))) (pw_or1 (CQ (Ck (Ai (Eu (K:=K)) Z T.Dh CJ (Aa (Az (BW (K:=K)) (pv 2) Af (λ_ _=>rfl)) (Aa (GQ (v:=.ty "list") Z T.Gu Fb Z) Ab))))))))
   (Ad (Ay Gb))
   Ao)
  (Ac (Bd (Ah G5 (Ai (Ak (K:=K)) Z T.BJ Bj (Aa (Az (BW (K:=K)) (pv 2) Af (λ_ _=>rfl)) Ab)) (Ai (Ak (K:=K)) Z T.BJ Bj (Aa (Az (BW (K:=K)) (pv 2) Af (λ_ _=>rfl)) Ab)) (Ax _))
   (Ad (Ay Gb))
   Ao)
  (Ac (BX PassesOwn.never Z (Ca Z T.Cq (Aa (Ai (Ak (K:=K)) Z T.BJ Bj (Aa (Az (BW (K:=K)) (pv 2) Af (λ_ _=>rfl)) Ab)) Ab)) (Bp (i:=3) Uj.nd Z (Or.inl Z))
   (Ad (Bd (CQ (Ck (Bg T.AcA (Aeu T) B (Aa (pv 0) (Aa (Az (Aw (K:=K)) (Az (BW (K:=K)) (pv 2) Af (λ_ _=>rfl)) (pv 3) (λ_ _=>rfl)) (Aa (Az (Aw (K:=K)) (Az (BW (K:=K)) (pv 2) Af (λ_ _=>rfl)) (pv 3) (λ_ _=>rfl)) Ab))))))
    (Ad (Ay Gb))
    Ao)))
  (Ad (Ay (Bg T.AcB (Aei T) B (Aa (pv 0) (Aa (Az (BW (K:=K)) (pv 2) Af (λ_ _=>rfl)) Ab)))))))))),?_⟩;rw[AnX];refine⟨_,Z,_,_,true,.tup q,.inl ⟨_,Z,Gx K _⟩,_,Z,?_⟩;refine⟨_,Z,_,Z,(by show 2<=sizeLine;decide),λp0 a0=>?_⟩;obtain⟨H1,e9,s1,M⟩:=nu9 (o:=.tup [.str (tx clW),.ref a]) (.refl _) a0;rw[e9];have a6:∀(i:Nat)(u v:V),(vS x)[i]?=some u->(vS x)[i]?=some v->AeZ K H1 49 u v:=λi u v e1 e2=>by
  cases e1.symm.trans e2;obtain⟨w,_,rfl⟩:=Ff e1;exact .flat Z
 refine⟨w1,p0,_,_,Z,Z,SqT.of (s1 _ _ q),SqT.of M,Z,λi u v e1 e2=>?_,_,Z,?_⟩
 ·match i,e1,e2 with
  | 0,e1,e2=>cases e1;cases e2;exact .flat Z
  | 1,e1,e2=>cases e1;cases e2;exact .lst (SqL.of (s1 _ _ X)) (SqL.of (s1 _ _ y)) Z a6
 refine⟨_,Z,_,_,true,.tup (s1 _ _ b),.inl ⟨_,Z,Gx K _⟩,_,Z,?_⟩;have b:=s1 _ _ b;have t0:atI [V.str (tx Aej),.ref l,.ref D] 0=some (.str (tx Aej)):=Br (by decide) Z;have j:atI [V.str (tx Aej),.ref l,.ref D] 1=some (.ref l):=Br (by decide) Z;have Y:atI [V.str (tx Aej),.ref l,.ref D] 2=some (.ref D):=Br (by decide) Z;refine⟨_,Z,_,_,Z,.inr (SqT.of b),Z,_,Z,?_⟩;refine⟨_,Z,_,_,_,_,Z,Z,SqT.of b,t0,Z,_,Z,?_⟩;have N1:=N.same s1;refine⟨_,Z,_,_,_,_,Z,Z,SqT.of b,j,_,Z,_,_,_,_,Z,Z,SqL.of (s1 _ _ y),JD W,_,Z,(by rw[Al];exact big (by exact Ar.g6 s S)),_,Z,_,_,Z,.inl (SqL.of (s1 _ _ y)),_,_,Z,Z,l,rs,tss,upC x,m,n,zs,eo,po,(by rw[Bt,Al,s,C.hn] <;> rfl),N1,L,d,λH2 I=>?_⟩;have f:=s1.trans I;have b:=I _ _ b;refine⟨_,Z,?_⟩;refine⟨_,Z,_,_,_,_,Z,Z,SqT.of b,Y,_,_,true,.lst (f _ _ e),.inl ⟨_,Z,Gx K _⟩,_,Z,?_⟩;have A:(rs.map V.ref).length=tss.length:=by rw[AtG,N.l]
 have ml:(ws.map V.ref).length=tss.length:=by simp_all
 refine⟨_,Z,_,_,_,_,Z,Z,SqT.of b,Y,_,_,Z,.inl (SqL.of (f _ _ e)),_,Z,_,_,_,_,Z,Z,SqT.of b,j,_,_,Z,.inl (SqL.of (f _ _ N.h)),Z,_,Z,?_⟩;refine Oa (by rw[A,ml]) ?_;refine⟨_,Z,_,_,_,_,Z,Z,SqT.of b,j,_,_,Z,.inl (SqL.of (f _ _ N.h)),_,Z,(by rw[A];exact Ar.a7),(by rw[A];lia),?_⟩;rw[A,Auh];refine Dw (λi σ R=>∃ v,σ=[some (.ref a),some (.ref w1),some (.ref w2),v]/\Aq H2 R) ⟨none,Z,.refl _⟩ ?_ ?_
 ·rintro i σ R hi ⟨v,rfl,c⟩;have p:=f.trans c;obtain⟨wi,ew⟩:∃ w,ws[i]?=some w:=⟨_,AtF (by exact Ar.b3 wl hi)⟩;obtain⟨ri,er⟩:∃ r,rs[i]?=some r:=⟨_,AtF (by rw[N.l];exact hi)⟩;obtain⟨ti,et⟩:∃ t,tss[i]?=some t:=⟨_,AtF hi⟩;obtain⟨ks,fs,e1,U,O,rd⟩:=hW i _ _ ew et;have z:=N.r i _ _ er et;rw[e1] at z;have b1:atI (ws.map V.ref) (0+(i:Int))=some (.ref wi):=Br (by exact Ar.a5) (by rw[z0,AtQ,ew];rfl);have b2:atI (rs.map V.ref) (0+(i:Int))=some (.ref ri):=Br (by exact Ar.a5) (by rw[z0,AtQ,er];rfl);refine⟨_,Z,_,Z,_,_,_,_,Z,Z,SqT.of (c _ _ b),Y,_,Z,_,_,_,_,Z,Z,SqL.of (p _ _ e),b1,_,Z,_,_,_,_,Z,Z,SqT.of (c _ _ b),j,_,Z,_,_,_,_,Z,Z,SqL.of (p _ _ N.h),b2,a,wi,ri,x,m,n,ks,fs,Z,SqL.of (p _ _ y),C,p _ _ O,SqL.of (p _ _ z),U,rd,d,λH4 J=>?_⟩;refine⟨_,Z,?_⟩;exact⟨_,Z,c.trans J⟩
 ·rintro σ R ⟨v,rfl,c⟩;exact⟨_,Z,_,Z,_,_,_,_,Z,Z,SqT.of (c _ _ b),j,a,l,x,m,n,rs,tss,zs,eo,po,Z,SqL.of ((f.trans c) _ _ y),C,(N1.same I).same c,L,d,λH4 J=>k H4 ((f.trans c).trans J)⟩
theorem Amf{s c:Nat}:∀{ws:NN},c∈jn s ws->c=s\/∃ w∈ws,c∈w
 | [],h=>by cases h
 | [w],h=>.inr ⟨w,AtJ,h⟩
 | w::v::r,h=>by
  rcases zG.mp (h) with h | h
  ·simp_all
  ·rcases yD.mp h with h | h
   ·exact .inl h
   ·rcases Amf h with h | ⟨x,a,hc⟩
    ·exact .inl h
    ·exact .inr ⟨x,AtL _ a,hc⟩
theorem Aew{s:NI}{c:Nat}:∀{ws:NN},c∈jnS s ws->c∈s\/∃ w∈ws,c∈w
 | [],h=>by cases h
 | [w],h=>.inr ⟨w,AtJ,h⟩
 | w::v::r,h=>by
  rcases zG.mp (h) with h | h
  ·simp_all
  ·rcases zG.mp h with h | h
   ·exact .inl h
   ·rcases Aew h with h | ⟨x,a,hc⟩
    ·exact .inl h
    ·exact .inr ⟨x,AtL _ a,hc⟩
theorem Amg(h:∀ k∈ks,k<100)(hc:c∈sj ks):c=32\/(48<=c/\c<=57):=by
 rcases Amf hc with e | ⟨w,a,hc⟩
 ·exact .inl e
 ·obtain⟨k,hk,rfl⟩:=yC.mp a;exact .inr ((dec_is (h k hk)).dg c hc)
theorem AoE{k:Nat}(h:k∈tp u):k<u.length:=yE.mp (z7.mp h).1
theorem AcP(h1:1<=m)(h:m<=6):10∉thr m n/\(thr m n).head?=some 48:=by
 have key:∀ m,m<7->1<=m->(10∉sj (List.range m)/\(sj (List.range m)).head?=some 48)/\10∉[48,45]++dec (m-1):=by decide +kernel
 have k:=key m (by exact Ar.g3 h) h1;unfold thr;split
 ·exact⟨k.2,Z⟩
 ·exact k.1
theorem Amh(C:Cl cl m n)(a:u∈cl):∀ k∈tp u,k<100:=λk hk=>by
 have:= AoE hk;have:= C.hm u a;have:= C.m40;lia
theorem Ami(C:Cl cl m n)(j:m<=6)(i:n<=9){b:Bool}:10∉told cl m n b:=λh=>by
 cases b with
 | false =>
  rcases zG.mp h with h | h
  ·simp at h
  ·rcases zG.mp h with h | h
   ·exact absurd h (by decide)
   ·rcases yD.mp h with h | h
    ·cases h
    ·rcases zG.mp h with h | h
     ·have key:∀ ys:NN,(∀ y∈ys,∀ c∈y,Sg c)->10∉(ys.map λy=>[44]++y).flatten:=λys o z=>by
       obtain⟨l,f,hc⟩:=List.mem_flatten.mp z;obtain⟨y,d,rfl⟩:=yC.mp f;rcases zG.mp hc with h | h
       ·simp at h
       ·rcases o y d 10 h with e | e <;> cases e
      have sg:=C.sg;cases cl with
      | nil=>cases h
      | cons y ys =>
       rcases zG.mp (h) with h | h
       ·rcases sg y AtJ 10 h with e | e <;> cases e
       ·exact key ys (λz q=>sg z (AtL _ q)) h
     ·simp at h
 | true =>
  rcases zG.mp h with h | h
  ·simp at h
  ·rcases Aew h with h | ⟨w,a,h⟩
   ·simp at h
   ·simp only [Aui,Auj,or_false] at a;rcases a with rfl | rfl | rfl
    ·exact(AcP C.m1 j).1 h
    ·rcases Aew h with h | ⟨w,a,h⟩
     ·simp at h
     ·obtain⟨u,p,rfl⟩:=yC.mp a;rcases Amg (Amh C p) h with e | e <;> omega
    ·rcases Amg (rg9 i) h with e | e <;> omega
theorem AhY(s:Nat)(w:NI)(a:w≠[]):∀ ws:NN,(jn s (ws++[w])).getLast?=w.getLast?
 | []=>rfl
 | [v]=>by
  show(v++s::w).getLast?=_;rw[Au5,Avk];cases e:w.getLast? with
  | none=>simp_all
  | some z=>rfl
 | v::x::r=>by
  have b:=AhY s w a (x::r);show(v++s::jn s ((x::r)++[w])).getLast?=_;rw[Au5,Avk,b];cases e:w.getLast? with
  | none=>simp_all
  | some z=>rfl
theorem Aoe(n1:1<=n)(a:n<=9):∃ c,(sj (List.range n)).getLast?=some c/\48<=c:=by
 obtain⟨k,rfl⟩:∃ k,n=k+1:=⟨n-1,by exact Ar.h4 (Ar.c7 n1)⟩;have D:=dec_is (show k<100 by exact Ar.a2 a);have ne:dec k≠[]:=λz=>by have:= D.l1;rw[z] at this;cases this
 unfold sj;rw[Aur,AtK];show ∃ c,(jn 32 ((List.range k).map dec++[dec k])).getLast?=some c/\_;rw[AhY 32 _ ne];cases e:(dec k).getLast? with
 | none=>simp_all
 | some z=>exact⟨z,Z,(D.dg z (List.mem_of_getLast? e)).1⟩
theorem AcQ(C:Cl cl m n)(f:m<=6)(a:n<=9)(b:Bool):∃ c d,told cl m n b=(if b=true then 58 else 61)::32::d/\d.head?≠some 32/\d.getLast?=some c/\c≠32/\d=(if b=true then drT (thr m n) (cl.map λu=>sj (tp u)) (sj (List.range n)) else wz Pat.Gy cl):=by
 cases b with
 | false =>
  refine⟨41,wz Pat.Gy cl,Z,(λz=>by cases z),?_,(by decide),Z⟩;unfold wz;rw[Au5,Avk,Au5];rfl
 | true =>
  obtain⟨c,hc,e⟩:=Aoe C.n1 a;refine⟨c,_,Z,?_,?_,(by lia),Z⟩
  ·intro h;have e2:(drT (thr m n) (cl.map λu=>sj (tp u)) (sj (List.range n))).head?=some 48:=by
    show((thr m n)++_).head?=_;rw[List.head?_append,(AcP C.m1 f).2];rfl
   have h:(drT (thr m n) (cl.map λu=>sj (tp u)) (sj (List.range n))).head?=some 32:=h;rw[e2] at h;cases h
  ·show((thr m n)++([32,47,32]++(jnS [44,32] (cl.map λu=>sj (tp u))++([32,47,32]++sj (List.range n))))).getLast?=_;rw[Au5,Au5,Au5,Au5,hc];rfl
theorem Aof(C:Cl cl m n):wv (ofN (List.range m)) (cl.map λu=>ofN (tp u)) (ofN (List.range n))=cl:=by
 have hn:=C.hn;refine AuL λp=>?_;unfold wv;rw[AtQ];unfold ofN;rw[AtQ];by_cases d:p<n
 case neg=>grind
 have pl:p<cl.length:=by exact Ar.b3 hn d
 rw[Au3 d,AtF pl];have f:=C.hm _ (AtT pl);have sg:=C.sg _ (AtT pl);have l:(cl.map λu=>(tp u).map Int.ofNat).getD (Int.ofNat p).toNat []=(tp cl[p]).map Int.ofNat:=by
  rw[AtY,AtQ];show((cl[p]?).map _).getD []=_;rw[AtF pl];rfl
 show some (shd _ _)=some cl[p]
 congr 1
 rw[l];generalize cl[p]=u at f sg;unfold shd;refine AuL λe=>?_;rw[AtQ,AtQ];by_cases i:e<m
 case neg=>grind
 have b:e<u.length:=by exact Ar.b3 f i
 rw[Au3 i,AtF b];show some (if (e:Int)∈(tp u).map Int.ofNat then 35 else 46)=some u[e]
 congr 1
 have j:u.getD e 0=u[e]:=by rw[AtY,AtF b];rfl
 have a:(e:Int)∈(tp u).map Int.ofNat↔u[e]=35:=by
  rw[Avu];constructor
  ·rintro⟨k,hk,o⟩;have:k=e:=by grind
   subst this;have:= of_decide_eq_true (z7.mp hk).2
   rwa [j] at this
  ·intro h;exact⟨e,z7.mpr ⟨yE.mpr b,zN (by rw[j];exact h)⟩,Z⟩
 by_cases c:u[e]=35
 ·rw[if_pos (a.mpr c),c]
 ·rw[if_neg (λz=>c (a.mp z))];rcases sg _ (AtT b) with h | h
  ·exact absurd h c
  ·exact h.symm
theorem Aog(C:Cl cl m n):Ft (ofN (List.range m)) (cl.map λu=>ofN (tp u)) (ofN (List.range n)):=by
 have m1:=C.m1;have f:=C.m40;have n1:=C.n1;have d:=C.n40;have hn:=C.hn;have c:∀ k,(ofN (List.range k)).length=k:=λk=>by unfold ofN;rw[AtG,AtO]
 refine⟨by rw[c];exact Ar.c5 m1,by rw[c];exact Ar.a2 f,by grind,by grind,by rw[c];exact Ar.c5 n1,by rw[c];exact Ar.a2 d,λv h=>?_,λks hk=>?_,λv h=>?_⟩
 ·obtain⟨k,hk,rfl⟩:=yC.mp h;grind
 ·obtain⟨u,o,rfl⟩:=yC.mp hk;have r:=C.hm u o;have p:(tp u).Pairwise (·<·):=List.pairwise_lt_range.filter _;refine⟨λi a b h1 h2=>?_,λk hk=>?_⟩
  ·unfold ofN at h1 h2;rw[AtQ] at h1 h2;obtain⟨x,e,rfl⟩:=zU.mp h1;obtain⟨y,l,rfl⟩:=zU.mp h2;obtain⟨ix,ex⟩:=zC.mp e;obtain⟨j,q⟩:=zC.mp l;have:= List.pairwise_iff_getElem.mp p i (i+1) ix j (by exact Ar.i1);rw[ex,q] at this;show(x:Int)<(y:Int);exact Ar.f5 this
  ·obtain⟨x,e,rfl⟩:=yC.mp hk;have:= AoE e;exact⟨Int.natCast_nonneg x,by grind⟩
 ·obtain⟨k,hk,rfl⟩:=yC.mp h;grind
theorem AoF(C:Cl cl m n):Rn cl:=by
 have n1:=C.n1;have hn:=C.hn;refine⟨λz=>by grind,by have:= C.n40;exact Ar.g6 hn this,λy a=>⟨λz=>?_,λc hc=>?_⟩⟩
 ·have:= C.hm y a;have:= C.m1;rw[z] at *;simp at *;lia
 ·rcases C.sg y a c hc with e | e <;> rw[e] <;> decide
theorem AcR(C:Cl cl m n):cl≠[]:=(AoF C).1
theorem Amj(h1:d.head?≠some 32)(h2:d.getLast?=some c)(h3:c≠32):trim (32::d)=d:=by
 have e:trim (32::d)=trim d:=by
  unfold trim;rw[List.dropWhile_cons_of_pos (by decide)]
 exact AhP h1 (by rw[h2];intro z;exact h3 (Option.some.inj z))
theorem Amk(C:Cl cl m n)(c:m<=9)(f:n<=9)(b:Bool):(told cl m n b).length<=1000:=by
 have hn:=C.hn;have n1:=C.n1;unfold told;cases b with
 | false =>
  rw[if_neg (λz=>nomatch z)];have h1:=AhU cl (by exact Ar.b3 hn n1);have h2:=Qe cl λu a=>by rw[C.hm u a];exact c
  rw[AtI,Alw];simp only [AtS,Aun,Pat.Gy];lia
 | true =>
  have i:=AhV (n:=n) c;have h:=WW (rg9 f);rw[AtO] at h;have d:=AdM [44,32] (B:=27) (cl.map λu=>sj (tp u)) λv e=>by
   obtain⟨u,a,rfl⟩:=yC.mp e;have h1:=WW (Amh C a);have h2:=Auz (λk=>decide (u.getD k 0=35)) (List.range u.length);rw[AtO,C.hm u a] at h2;have h3:(tp u).length<=9:=by unfold tp;rw[C.hm u a];exact Ar.b8 h2 c
   lia
  rw[AtG] at d;simp only [AtS,Aun] at d;unfold drT;simp[jnS];lia
def lnF (nm:NI)(cl:NN)(m n:Nat)(b:Bool):NI:=(nm++[32])++told cl m n b
structure NmF (nm:NI):Prop where
 e:∀ x∈nm++[32],¬(x=61\/x=58)
 t:trim (nm++[32])=nm
 i:Pat.isName nm=true
 h:(nm++[32]).head?≠some 32/\(nm++[32]).head?≠some 63/\(nm++[32]).head?≠some 59/\nm++[32]≠[]
 n:10∉nm++[32]/\nm.length<=6
def thW:NI:=[116,104,105,114,100]
theorem Sy:NmF fiW/\NmF seW/\NmF thW:=⟨⟨by decide,by decide +kernel,by decide +kernel,by decide,by decide⟩,⟨by decide,by decide +kernel,by decide +kernel,by decide,by decide⟩,by decide,by decide +kernel,by decide +kernel,by decide,by decide⟩
theorem AoG(F:NmF nm)(s:Nat)(h2:d.getLast?=some c)(h3:c≠32):trim ((nm++[32])++s::32::d)=(nm++[32])++s::32::d/\isQ ((nm++[32])++s::32::d)=false/\¬(trim ((nm++[32])++s::32::d)).head?=some 59:=by
 have a:((nm++[32])++s::32::d).head?=(nm++[32]).head?:=by
  simp_all
 have e2:((nm++[32])++s::32::d).getLast?=some c:=by
  rw[Au5,Avk,Avk,h2];rfl
 have t:=AhP (by rw[a];exact F.h.1) (by rw[e2];exact λz=>h3 (Option.some.inj z));refine⟨t,?_,by rw[t,a];exact F.h.2.2.1⟩;unfold isQ;rw[a];exact zJ F.h.2.1
theorem Aml(C:Cl cl m n)(f:m<=6)(a:n<=6)(b:Bool)(F:NmF nm):trim (lnF nm cl m n b)=lnF nm cl m n b/\isQ (lnF nm cl m n b)=false/\¬(trim (lnF nm cl m n b)).head?=some 59/\10∉lnF nm cl m n b/\(lnF nm cl m n b).length<=1010:=by
 obtain⟨c,d,e,h1,h2,h3,_⟩:=AcQ C f (by exact Ar.a2 a) b;have h:=Ami C f (by exact Ar.a2 a) (b:=b);have tl:=Amk C (by exact Ar.a2 f) (by exact Ar.a2 a) b;have o:=AoG F (if b=true then 58 else 61) h2 h3;rw[<- e] at o;refine⟨o.1,o.2.1,o.2.2,λz=>?_,?_⟩
 ·rcases zG.mp z with z | z
  ·exact F.n.1 z
  ·exact h z
 ·unfold lnF;have:= F.n.2;rw[AtI,AtI];simp only [AtS,Aun];exact Ar.g7 (Ar.j6 this) tl
theorem lkF(C:Cl cl m n)(j:m<=6)(o:n<=6)(b:Bool)(F:NmF nm){kn:Kns}(a:∀ q∈kn,¬q.1=nm):Lk kn (lnF nm cl m n b) (nm,cl):=by
 obtain⟨c,d,e,h1,h2,h3,h4⟩:=AcQ C j (by exact Ar.a2 o) b;unfold lnF;rw[e];have tb:=Amj h1 h2 h3;cases b with
 | false =>
  rw[if_neg (λz=>nomatch z)] at h4;exact .pat (f:=.rows cl) F.e F.t F.i a (by rw[tb,h4];rfl) (AoF C) ⟨Z,C.clo⟩ (AcR C)
 | true =>
  rw[if_pos rfl] at h4;have w:=Aof C;have h:=C.n40;have key:Lk kn ((nm++[32])++58::(32::d)) (nm,wv (ofN (List.range m)) (cl.map λu=>ofN (tp u)) (ofN (List.range n))):=.dra F.e F.t F.i a (by rw[tb,h4]) (Aq1 j) (by simp_all) (λi u ks p g2=>by
   rw[AtQ] at p g2;obtain⟨v,r,rfl⟩:=zU.mp p;rw[r] at g2;cases g2;have l:=AtN r;refine AlW (Amh C l) ?_;have:= Auz (λk=>decide (v.getD k 0=35)) (List.range v.length);rw[AtO,C.hm v l] at this;unfold tp;rw[C.hm v l];exact Ar.g5 this j) (AlW (rg9 (by exact Ar.a2 o)) (by rw[AtO];exact Ar.a2 h)) (Aog C) (by rw[w];exact AcR C)
  rw[w] at key;exact key
def ln3 (f:Fm):NI:=(thW++[32])++([61,32]++(f.word++f.tail))
theorem Aq4:known [(fiW,x),(seW,y)] fiW=.ok x/\known [(fiW,x),(seW,y)] seW=.ok y/\known [(fiW,x),(seW,y),(thW,z)] fiW=.ok x/\known [(fiW,x),(seW,y),(thW,z)] seW=.ok y/\known [(fiW,x),(seW,y),(thW,z)] thW=.ok z:=⟨Z,Z,Z,Z,Z⟩
theorem Aq5{f:Fm}(h:Th x y f z):trim (ln3 f)=ln3 f/\isQ (ln3 f)=false/\¬(trim (ln3 f)).head?=some 59/\10∉ln3 f/\(ln3 f).length<=100/\Lk [(fiW,x),(seW,y)] (ln3 f) (thW,z):=by
 obtain⟨a,zs,ys,rfl,ok,w,E,F,A,m,n,C,_⟩:=h;have B:((Fm.wds a zs).word++(Fm.wds a zs).tail).head?≠some 32:=by rcases ok.1 with ⟨rfl,_⟩ | ⟨rfl,_⟩ <;> (intro z;cases z)
 have v:((Fm.wds a zs).word++(Fm.wds a zs).tail).getLast?=some 41:=by
  show(a++40::(cj zs++[41])).getLast?=_;rw[Au5,Avk,Au5];rfl
 have o:=AoG Sy.2.2 61 v (by decide);have s:=(Fm.Ok.word ok).2;have b:10∉a:=by rcases ok.1 with ⟨rfl,_⟩ | ⟨rfl,_⟩ <;> decide
 refine⟨o.1,o.2.1,o.2.2,λq=>?_,?_,?_⟩
 ·rcases zG.mp q with q | q
  ·exact Sy.2.2.n.1 q
  ·have q:10∈[61,32]++(a++40::(cj zs++[41])):=q;simp only [AuO,Aui,Auj,or_false] at q;rcases q with (q | q) | q | q | q | q
   ·cases q
   ·cases q
   ·exact b q
   ·cases q
   ·have u:∀ z∈zs,10∉z:=λz H p=>absurd ((ok.2 z H).1 10 p) (by decide);cases zs with
    | nil=>cases q
    | cons z zs =>
     rcases zG.mp (q) with q | q
     ·exact u z AtJ q
     ·obtain⟨l,D,hc⟩:=List.mem_flatten.mp q;obtain⟨y,d,rfl⟩:=yC.mp D;rcases zG.mp hc with h | h
      ·simp at h
      ·exact u y (AtL _ d) h
   ·cases q
 ·have s:a.length<=20:=s;show((thW++[32])++([61,32]++(a++40::(cj zs++[41])))).length<=100;simp only [AtI,AtS,Aun,thW];lia
 ·exact .pat Sy.2.2.e Sy.2.2.t Sy.2.2.i (λq r=>by
   simp only [Aui,Auj,or_false] at r;rcases r with rfl | rfl
   ·exact(show ¬fiW=thW by decide)
   ·exact(show ¬seW=thW by decide)) (Amj B v (by decide)) ok ⟨ys,E,λj nm c e1 e2=>by
   rcases F j nm c e1 e2 with ⟨rfl,rfl⟩ | ⟨rfl,rfl⟩
   ·rfl
   ·rfl,A⟩ (AcR C)
def qL (b:Bool)(nm:NI):NI:=([63,32]++wdQ b++[32])++nm
theorem Asx:∀ b,∀ nm∈[fiW,seW,thW],trim (qL b nm)=qL b nm/\isQ (qL b nm)=true/\10∉qL b nm/\(qL b nm).length<=30/\Al5 (qL b nm).tail=[wdQ b,nm]:=by decide +kernel
def asks:NN:=[qL false fiW,qL true fiW,qL false seW,qL true seW,qL false thW,qL true thW]
end
section
variable {K:NF}{base:Heap}
theorem Amm{G:Prop}{R:Addr->Hp->Prop}(C:Addr->Hp->Prop)(a:(∀ l H,C l H->R l H)->G)(rest:∀ l H,C l H->R l H):G:=a rest
inductive Aex (K:NF)(tT:Addr)(vs:Na)(H:Hp)(Q:VK)(z3:XK):Prop
|mk(a:Addr)(ns:NA)(_:vs=[.ref a])(_:SqL K H a (vI ns))(_:ns.length<=63)(_:Tb tT Aek H)(_:∀ H',Q (.bl true) H')
theorem Aey{K:NF}{H:Hp}{ns:NA}(b:ns.length<=63)(c:SqL K H a (ns.map V.int))(tb:Tb tT Aek H):Aex K tT [.ref a] H (λv _=>v=.bl true) λ_ _ _=>False:=⟨a,ns,Z,c,b,tb,λ_=>rfl⟩
theorem Asy:(("first " : Str))=tx (fiW++[32]):=by decide +kernel
theorem Asz:(("second " : Str))=tx (seW++[32]):=by decide +kernel
theorem As0:(("third " : Str))=tx (thW++[32]):=by decide +kernel
theorem Aoh:(("third" : Str))=tx thW:=by decide +kernel
theorem As1:(("? cloth " : Str))=tx ([63,32]++wdQ false++[32]):=by decide +kernel
theorem As2:(("? layers " : Str))=tx ([63,32]++wdQ true++[32]):=by decide +kernel
def nm3:NN:=[fiW,seW,thW]
theorem Ajv:∀ i,i<3->asks.take (2*(i+1))=asks.take (2*i)++[qL false (nm3.getD i []),qL true (nm3.getD i [])]:=by decide +kernel
theorem Aoi:∀ i,i<3->(nm3.getD i []).length<=6/\(asks.take (2*i)).length<=6:=by decide +kernel
set_option maxHeartbeats 8000000 in
theorem Aq6(T:Txt K mg t)(cb:t.DQ.code=.ref tc)(bm:W.CodeHd base tc tT)(c0:Bm mg base):Bl P w K mg base CX0 18 t.Aoy t.AkJ ["script"] (Aex K tT):=by
 have Ql:Bl P w K mg base CX0 1 t.AaE t.AaF _ _:=Ajp T;have V8:Bl P w K mg base CX0 1 t.LR t.Ma _ _:=AbN T;have ax:Bl P w K mg base CX0 1 t.RN t.RP _ _:=AfY T;have bt:Bl P w K mg base CX0 2 t.Pn t.Pq _ _:=Aes T;have aw:Bl P w K mg base CX0 1 t.RQ t.RT _ _:=Agb T;have be:Bl P w K mg base CX0 3 t.Pr t.Pu _ _:=Aev T;have bn:Bl P w K mg base CX0 14 t.LK t.LQ _ _:=AbM T cb bm c0;refine T.law.F.ok GC ?_;rintro _ _ _ _ H _ Q E L ⟨a,sc,rfl,hS,B,tb,k⟩;have hsz:sizeLine=16777216:=z8;refine⟨_,(Ac (Qn (i:=1) (cok [0] ["k", "script"] GC) Z GC.nd Z rfl (Ca Z T.Cq (Aa Af Ab)) (λ_ _ _ _ _=>.nil) (λ_ _ _ _ _=>(Bx Ey Af (Bx Lb (Bg T.Wz Ql L (Aa (pv 1) (Aa (pv 0) Ab))) Af))) Z)
  (Ac (Bd (Ah HF (Bx Lb (Bg T.Wz Ql L (Aa (pv 0) (Aa Af Ab))) Af) Af (Ax _))
   (Ad (Ba (i:=1) GC.nd Z (Or.inl Z) (Bx ZF (Cy (Ds (K:=K)) (pv 1) Ej (Cu Af)) Af)))
   Ao)
  (Ac (Ba (i:=2) GC.nd Z (Or.inl Z) (Bg T.AaV ax L (Aa (Bg T.RZ V8 L (Aa (pv 0) (Aa Af Ab))) (Aa (Az (Aw (K:=K)) (pv 1) Af (λ_ _=>rfl)) (Aa (Az (Aw (K:=K)) (pv 1) Af (λ_ _=>rfl)) Ab)))))
  (Ac (Ba (i:=3) GC.nd Z (Or.inl Z) (Bg T.AaV ax L (Aa (Bg T.RZ V8 L (Aa (pv 0) (Aa Af Ab))) (Aa (Az (Aw (K:=K)) (pv 1) Af (λ_ _=>rfl)) (Aa (Az (Aw (K:=K)) (pv 1) Af (λ_ _=>rfl)) Ab)))))
  (Ac (AcU (Bg T.Ac9 bt L (Aa (pv 2) (Aa (pv 3) (Aa (Ea Ci (Bx Lb (Bg T.Wz Ql L (Aa (pv 0) (Aa Af Ab))) Af) Af (Ax _)) Ab)))) (NB Z (CW (Bp (i:=4) GC.nd Z (Or.inl Z)) (CW (Bp (i:=5) GC.nd Z (Or.inl Z)) HS))))
  (Ac (Ba (i:=6) GC.nd Z (Or.inl Z) (Cp (Aa (Bx BL Av (Bg T.AaW aw L (Aa (pv 2) (Aa (Ea Ci (Bx Lb (Bg T.Wz Ql L (Aa (pv 0) (Aa Af Ab))) Af) Af (Ax _)) Ab)))) Ab)))
  (Ac (Bo (Bw (K:=K) zM zL zQ Cd (pv 6) (Aa (Bx BL Av (Bg T.AaW aw L (Aa (pv 3) (Aa (Ea Ci (Bx Lb (Bg T.Wz Ql L (Aa (pv 0) (Aa Af Ab))) Af) Af (Ax _)) Ab)))) Ab)))
  (Ac (Bo (Bw (K:=K) zM zL zQ Cd (pv 6) (Aa (Bx BL Av (pv 4)) Ab)))
  (Ac (BX PassesOwn.never Z (Bq (K:=K) (Cp (Aa Av (Aa Av (Aa Av Ab))))) (Bp (i:=7) GC.nd Z (Or.inl Z))
   (Ac (Bo (Bw (K:=K) zM zL zQ Cd (pv 6) (Aa (Bx BL Av (pv 7)) Ab)))
   (Ad (Bo (Bw (K:=K) zM zL zQ Cd (pv 6) (Aa (Bx BL Av (pv 7)) Ab))))))
  (Ac (Ba (i:=8) GC.nd Z (Or.inl Z) (Bg T.AaT bn L (Aa (Bw (K:=K) zI zS zV (Dk (K:=K)) Av (Aa (pv 6) Ab)) Ab)))
  (Ac (Bd (PW.pt (pw_or (CQ (Ck (Ai (Eu (K:=K)) Z T.Dh CJ (Aa (pv 8) (Aa (GQ (v:=.ty "list") Z T.Gu Fb Z) Ab))))) (pw_or1 (Ah G5 (Ai (Ak (K:=K)) Z T.BJ Bj (Aa (pv 8) Ab)) Af (Ax _)))))
   (Ad (Ay Gb))
   Ao)
  (Ac (BX PassesOwn.never Z (Aht (K:=K) Z T.PJ (Aa (Cp (Aa (pv 2) (Aa (pv 3) (Aa (pv 5) Ab)))) Ab)) (NB Z (CW (Bp (i:=9) GC.nd Z (Or.inl Z)) (CW (Bp (i:=10) GC.nd Z (Or.inl Z)) HS)))
   (Ad (Bd (CQ (Ck (Bg T.AcC be L (Aa (pv 10) (Aa (Az (Aw (K:=K)) (pv 8) (Bx NP Af (pv 9)) (λ_ _=>rfl)) (Aa (Az (Aw (K:=K)) (pv 8) (Bx Ey (Bx NP Af (pv 9)) Af) (λ_ _=>rfl)) Ab))))))
    (Ad (Ay Gb))
    Ao)))
  (Ad (Ay Gb)))))))))))))),?_⟩;rw[Asy,Asz,As0,AhW,AhX,Aoh,As1,As2,WQ];refine⟨_,Z,(by decide),(by decide),?_⟩;rw[show(4:Int).toNat=4 from rfl];refine DR (lo:=0) (n:=4) (λi ys H3=>H3=H/\∃ ms:NI,ys=vI (ms.map Int.ofNat)/\ms.length=i/\∀ m∈ms,1<=m/\m<=6) ⟨Z,[],Z,Z,λm h=>by simp at h⟩ ?_ ?_ ?_ ?_
 ·rintro i ys H3 hi ⟨rfl,ms,rfl,hm,_⟩;rw[Bh,AtG,hm];exact AtH _
 ·decide
 ·rintro i ys H3 hi ⟨rfl,ms,rfl,hm,hb⟩;refine Ms.no ?_;refine⟨_,Z,_,Z,a,sc,_,Z,hS,(by omega),λc=>?_⟩;obtain⟨m,em,cn⟩:∃ m:Nat,c%6=(m:Int)/\m<6:=⟨(c%6).toNat,by omega,by omega⟩;refine⟨_,_,Z,Z,(by show(0:Int)<6;decide),_,_,Z,Z,?_⟩;rw[em];refine CN.of hi ⟨Z,ms++[1+m],?_,by rw[AtI,hm];rfl,λn hn=>?_⟩
  ·rw[AtK];show _++[V.int (1+(m:Int))]=vI (_++[((1+m:Nat):Int)]);rw[show(1:Int)+(m:Int)=((1+m:Nat):Int) by omega];exact Ht _ _
  ·rcases zG.mp hn with hn | hn
   ·exact hb n hn
   ·rw[zF.mp hn];omega
 ·rintro ys H3 l0 ⟨rfl,ms,rfl,hm,hb⟩ c4;obtain⟨m0,m1,m2,m3,rfl⟩:∃ m0 m1 m2 m3,ms=[m0,m1,m2,m3]:=by
   rcases ms with _ | ⟨m0,_ | ⟨m1,_ | ⟨m2,_ | ⟨m3,_ | ⟨m4,ms⟩⟩⟩⟩⟩
   ·simp at hm
   ·simp at hm
   ·simp at hm
   ·simp at hm
   ·exact⟨_,_,_,_,Z⟩
   ·simp at hm
  have b0:=hb m0 (by simp);have b1:=hb m1 (by simp);have b2:=hb m2 (by simp);have b3:=hb m3 (by simp);obtain⟨H1,e9,s1,h1⟩:=nu9 (o:=.lst (vI ([m0,m1,m2,m3].map Int.ofNat))) (.refl _) c4;rw[e9];refine GP (σ':=[some (.ref a),some (.ref l0),none,none,none,none,none,none,none,none,none]) Z rfl ?_;refine⟨_,Z,a,sc,4,Z,s1.seq hS,(by decide),λc=>?_⟩;refine⟨_,_,Z,Z,(by show(0:Int)<3;decide),_,_,Z,Z,_,Z,?_⟩;apply Amm (λl H2=>Aq H3 H2/\∃ m0 m1 m2 m3:Nat,H2 l=some (.lst [.int (m0:Int),.int (m1:Int),.int (m2:Int),.int (m3:Int)])/\(1<=m0/\m0<=6)/\(1<=m1/\m1<=6)/\(1<=m2/\m2<=6)/\(1<=m3/\m3<=6))
  ·intro rest;refine Dj (λc1=>?tt) (λc1=>?ff)
   case ff =>
    obtain⟨l',e⟩:∃ l',l'=l0:=⟨_,Z⟩;obtain⟨H',e2⟩:∃ H',H'=H1:=⟨_,Z⟩;rw[<- e,<- e2];rw[<- e,<- e2] at h1;rw[<- e2] at s1;exact rest l' H' ⟨s1,m0,m1,m2,m3,h1,b0,b1,b2,b3⟩
   case tt =>
    refine⟨_,Z,_,Z,_,_,Z,SqL.of h1,λq nq=>?_⟩;have ec:Iv (vI ([m0,m1,m2,m3].map Int.ofNat)) none (some 2)=[.int (m0:Int),.int (m1:Int)]:=by
     rfl
    rw[ec];have O:Aq H1 (upd H1 q (.lst [.int (m0:Int),.int (m1:Int)])):=.upd nq;have h2:(upd H1 q (.lst [.int (m0:Int),.int (m1:Int)])) q=some (.lst [.int (m0:Int),.int (m1:Int)]):=Ae;generalize upd H1 q (.lst [.int (m0:Int),.int (m1:Int)])=H2 at O h2 ⊢;refine⟨_,_,_,Z,Z,h2,(by decide),(by decide),(by show 2*2<=sizeLine;decide),λq2 ch=>?_⟩;have s3:Aq H2 (upd H2 q2 (.lst [.int (m0:Int),.int (m1:Int),.int (m0:Int),.int (m1:Int)])):=.upd ch;have h3:(upd H2 q2 (.lst [.int (m0:Int),.int (m1:Int),.int (m0:Int),.int (m1:Int)])) q2=some (.lst [.int (m0:Int),.int (m1:Int),.int (m0:Int),.int (m1:Int)]):=Ae;rw[show(List.replicate (2:Int).toNat [V.int (m0:Int),V.int (m1:Int)]).flatten=[.int (m0:Int),.int (m1:Int),.int (m0:Int),.int (m1:Int)] from rfl];generalize upd H2 q2 (.lst [.int (m0:Int),.int (m1:Int),.int (m0:Int),.int (m1:Int)])=H4 at s3 h3 ⊢;refine GP (σ':=[some (.ref a),some (.ref q2),none,none,none,none,none,none,none,none,none]) Z rfl ?_;exact rest q2 H4 ⟨(s1.trans O).trans s3,m0,m1,m0,m1,h3,b0,b1,b0,b1⟩
  ·rintro l H2 ⟨O,m0,m1,m2,m3,ae,b0,b1,b2,b3⟩;have a0:atI [V.int (m0:Int),.int (m1:Int),.int (m2:Int),.int (m3:Int)] 0=some (.int (m0:Int)):=Br (by decide) Z;have a1:atI [V.int (m0:Int),.int (m1:Int),.int (m2:Int),.int (m3:Int)] 1=some (.int (m1:Int)):=Br (by decide) Z;have a2:atI [V.int (m0:Int),.int (m1:Int),.int (m2:Int),.int (m3:Int)] 2=some (.int (m2:Int)):=Br (by decide) Z;have a3:atI [V.int (m0:Int),.int (m1:Int),.int (m2:Int),.int (m3:Int)] 3=some (.int (m3:Int)):=Br (by decide) Z;refine⟨_,Z,a,sc,3,Z,O.seq hS,(by decide),(by decide),λz1=>?_⟩;refine⟨_,Z,_,_,_,_,Z,Z,SqL.of ae,a0,_,Z,_,_,_,_,Z,Z,SqL.of ae,a1,z1,m0,m1,Z,b0.1,by omega,b1.1,by omega,λI x H5 s5 cp N C=>?_⟩;refine GP (σ':=[some (.ref a),some (.ref l),some (.ref I),none,none,none,none,none,none,none,none]) Z rfl ?_;have b4:=s5 _ _ ae;refine⟨_,Z,a,sc,48271,Z,(O.trans s5).seq hS,(by decide),(by decide),λz2=>?_⟩;refine⟨_,Z,_,_,_,_,Z,Z,SqL.of b4,a2,_,Z,_,_,_,_,Z,Z,SqL.of b4,a3,z2,m2,m3,Z,b2.1,by omega,b3.1,by omega,λM y H6 s6 cm s D=>?_⟩;refine GP (σ':=[some (.ref a),some (.ref l),some (.ref I),some (.ref M),none,none,none,none,none,none,none]) Z rfl ?_;have u6:=(O.trans s5).trans s6;have N:=s6 _ _ N;refine⟨_,Z,_,Z,_,Z,a,sc,5,Z,u6.seq hS,(by decide),λc5=>?_⟩;refine⟨_,_,Z,Z,(by show(0:Int)<2;decide),Z,?_⟩;obtain⟨bi,cg⟩:∃ b,b=decide (V.int (c5%2)=V.int 1):=⟨_,Z⟩;rw[<- cg];refine⟨I,M,x,y,m0,m1,m2,m3,bi,Z,N,s,C,D,b0.2,b1.2,b2.2,b3.2,λp3 l3 f z H7 s7 bc bd hT=>?_⟩;have u7:=u6.trans s7;have N:=s7 _ _ N;have s:=s7 _ _ s;have az:=s;refine⟨p3,_,Z,SqT.of bc,Z,_,_,Z,GP (σ':=[some (.ref a),some (.ref l),some (.ref I),some (.ref M),some (.str (tx ([61,32]++(f.word++f.tail)))),none,none,none,none,none,none]) Z rfl ⟨_,_,Z,GP (σ':=[some (.ref a),some (.ref l),some (.ref I),some (.ref M),some (.str (tx ([61,32]++(f.word++f.tail)))),some (.ref l3),none,none,none,none,none]) Z rfl ⟨Z,?_⟩⟩⟩;obtain⟨k1,k2,k3,k4,k5,k6⟩:=Aq5 hT;refine⟨_,Z,_,Z,a,sc,6,Z,u7.seq hS,(by decide),λc6=>?_⟩;refine⟨_,_,Z,Z,(by show(0:Int)<2;decide),Z,?_⟩;obtain⟨A,bz⟩:∃ b,b=decide (V.int (c6%2)=V.int 0):=⟨_,Z⟩;rw[<- bz];refine⟨I,x,m0,m1,A,Z,N,C,by omega,by omega,λH8 s8=>?_⟩;obtain⟨f1,f2,f3,f4,f5⟩:=Aml C b0.2 b1.2 A Sy.1;have bh:(fiW++[32]++told x m0 m1 A).length<=1010:=f5;rw[AtI] at bh;refine⟨_,_,Z,Z,(by rw[Al,Al];omega),?_⟩;rw[DW];refine⟨(by show 1<=sizeLine;decide),λq nq=>?_⟩;rw[show(upd H8 q (.lst [V.str (tx (fiW++[32]++told x m0 m1 A))]))=upd H8 q (.lst (vS [lnF fiW x m0 m1 A])) from rfl];have s9:Aq H7 (upd H8 q (.lst (vS [lnF fiW x m0 m1 A]))):=s8.new nq;have ac:(upd H8 q (.lst (vS [lnF fiW x m0 m1 A]))) q=some (.lst (vS [lnF fiW x m0 m1 A])):=Ae;have a6:H7 q=none:=s8.free nq;generalize upd H8 q (.lst (vS [lnF fiW x m0 m1 A]))=H9 at s9 ac ⊢;refine GP (σ':=[some (.ref a),some (.ref l),some (.ref I),some (.ref M),some (.str (tx ([61,32]++(f.word++f.tail)))),some (.ref l3),some (.ref q),none,none,none,none]) Z rfl ?_;refine⟨_,Z,.inl ⟨Z,_,SqL.of ac⟩,_,Z,_,Z,a,sc,6,Z,(u7.trans s9).seq hS,(by decide),λc7=>?_⟩;refine⟨_,_,Z,Z,(by show(0:Int)<2;decide),Z,?_⟩;obtain⟨R,b9⟩:∃ b,b=decide (V.int (c7%2)=V.int 1):=⟨_,Z⟩;rw[<- b9];refine⟨M,y,m2,m3,R,Z,s9 _ _ s,D,by omega,by omega,λHa sa=>?_⟩;obtain⟨g1,g2,g3,g4,g5⟩:=Aml D b2.2 b3.2 R Sy.2.1;have bu:(seW++[32]++told y m2 m3 R).length<=1010:=g5;rw[AtI] at bu;refine⟨_,_,Z,Z,(by rw[Al,Al];omega),?_⟩;rw[DW];refine⟨_,_,_,Z,Z,sa _ _ ac,(by show 1<sizeLine;decide),?_⟩;rw[Dm];have sb:Aq H7 (upd Ha q (.lst (vS ([lnF fiW x m0 m1 A]++[seW++[32]++told y m2 m3 R])))):=(s9.trans sa).over a6;have ai:(upd Ha q (.lst (vS ([lnF fiW x m0 m1 A]++[seW++[32]++told y m2 m3 R])))) q=some (.lst (vS [lnF fiW x m0 m1 A,lnF seW y m2 m3 R])):=Ae;generalize upd Ha q (.lst (vS ([lnF fiW x m0 m1 A]++[seW++[32]++told y m2 m3 R])))=Hb at sb ai ⊢;have bl:(thW++[32]++([61,32]++(f.word++f.tail))).length<=100:=k5;rw[AtI] at bl;refine⟨_,Z,.inl ⟨Z,_,SqL.of ai⟩,_,Z,_,_,Z,Z,(by rw[Al,Al];omega),?_⟩;rw[DW];refine⟨_,_,_,Z,Z,ai,(by show 2<sizeLine;decide),?_⟩;rw[Dm];have sd:Aq H7 (upd Hb q (.lst (vS ([lnF fiW x m0 m1 A,lnF seW y m2 m3 R]++[thW++[32]++([61,32]++(f.word++f.tail))])))):=sb.over a6;have ab:(upd Hb q (.lst (vS ([lnF fiW x m0 m1 A,lnF seW y m2 m3 R]++[thW++[32]++([61,32]++(f.word++f.tail))])))) q=some (.lst (vS ([lnF fiW x m0 m1 A,lnF seW y m2 m3 R,ln3 f]++asks.take (2*0)))):=Ae;generalize upd Hb q (.lst (vS ([lnF fiW x m0 m1 A,lnF seW y m2 m3 R]++[thW++[32]++([61,32]++(f.word++f.tail))])))=Hd at sd ab ⊢;obtain⟨bs,S⟩:∃ bs,bs=[lnF fiW x m0 m1 A,lnF seW y m2 m3 R,ln3 f]:=⟨_,Z⟩;rw[<- S] at ab;have bp:bs.length=3:=by rw[S];rfl
   refine⟨(by show 3<=sizeLine;decide),λpn aj=>?_⟩;rw[show(upd Hd pn (.lst [V.str (tx fiW),V.str (tx seW),V.str (tx thW)]))=upd Hd pn (.lst (vS nm3)) from rfl];have se:Aq Hd (upd Hd pn (.lst (vS nm3))):=.upd aj;have am:(upd Hd pn (.lst (vS nm3))) pn=some (.lst (vS nm3)):=Ae;have av:pn≠q:=λe=>by rw[e,ab] at aj;cases aj
   generalize upd Hd pn (.lst (vS nm3))=He at se am ⊢;have u8:=sd.trans se;refine⟨_,Z,⟨_,SqL.of am⟩,Cr (K:=K) (a:=pn) (xs:=vS nm3) (λi σ G=>∃ v:Option V,σ=[some (.ref a),some (.ref l),some (.ref I),some (.ref M),some (.str (tx ([61,32]++(f.word++f.tail)))),some (.ref l3),some (.ref q),v,none,none,none]/\Aq H7 G/\G pn=some (.lst (vS nm3))/\G q=some (.lst (vS (bs++asks.take (2*i))))) ⟨none,Z,u8,am,se _ _ ab⟩ (λi σ G _ ⟨_,_,_,hp,_⟩=>SqL.of hp) ?_ ?_⟩
   ·rintro i xv σ G hx ⟨v,rfl,sG,ap,U⟩;have hi:i<3:=(zC.mp hx).1;obtain⟨u,hu,rfl⟩:=Ff hx;have ue:u=nm3.getD i []:=by rw[AtY,hu];rfl
    obtain⟨ul,al⟩:=Aoi i hi;rw[<- ue] at ul;have st:=Ajv i hi;rw[<- ue] at st;refine⟨_,Z,.inl ⟨Z,_,SqL.of U⟩,_,Z,_,_,Z,Z,(by rw[Al,Al];show 8+_<=sizeLine;omega),?_⟩;rw[DW];refine⟨_,_,_,Z,Z,U,(by rw[Bt,AtI];omega),?_⟩;rw[Dm];have b7:Aq H7 (upd G q (.lst (vS (bs++asks.take (2*i)++[([63,32]++wdQ false++[32])++u])))):=sG.over a6;have ah:(upd G q (.lst (vS (bs++asks.take (2*i)++[([63,32]++wdQ false++[32])++u])))) q=some (.lst (vS (bs++asks.take (2*i)++[qL false u]))):=Ae;have ay:(upd G q (.lst (vS (bs++asks.take (2*i)++[([63,32]++wdQ false++[32])++u])))) pn=some (.lst (vS nm3)):=by rw[Aj av];exact ap
    generalize upd G q (.lst (vS (bs++asks.take (2*i)++[([63,32]++wdQ false++[32])++u])))=G1 at b7 ah ay ⊢;refine⟨_,Z,.inl ⟨Z,_,SqL.of ah⟩,_,Z,_,_,Z,Z,(by rw[Al,Al];show 9+_<=sizeLine;omega),?_⟩;rw[DW];refine⟨_,_,_,Z,Z,ah,(by rw[Bt,AtI,AtI];simp only [AtS,Aun];omega),?_⟩;rw[Dm];refine⟨_,Z,b7.over a6,by rw[Aj av];exact ay,?_⟩;rw[Ae,st,<- Auk,Auk _ [qL false u]];rfl
   rintro σ G ⟨v,rfl,sG,ap,U⟩;rw[show asks.take (2*(vS nm3).length)=asks by decide +kernel] at U;have cc:Tb tT Aek G:=tb.same (u7.trans sG);obtain⟨d,s⟩:∃ d,d=bs++asks:=⟨_,Z⟩;rw[<- s] at U;have cd:asks.length=6/\(asks.map List.length).sum<=200:=by decide +kernel
   have ao:d.length=9:=by rw[s,AtI,bp,cd.1]
   have au:d≠[]:=λz=>by rw[z] at ao;cases ao
   have ci:(d.map List.length).sum<=3000:=by
    rw[s,AtK,List.sum_append,S];simp only [AtM,Avo,Aul,List.sum_nil];omega
   have co:=Aen 10 d au;refine⟨Z,_,Z,_,_,d.map tx,Z,Z,SqL.of (by rw[U,Fy]),?_,?_⟩
   ·rw[AlS,AtG,Al];show _+_*1<=_;omega
   rw[V7];have aq:∀ l∈asks,trim l=l/\isQ l=true/\10∉l:=by decide +kernel
   have bq:∀ l∈bs,trim l=l/\isQ l=false/\10∉l:=λl B=>by
    rw[S] at B;simp only [Aui,Auj,or_false] at B;rcases B with rfl | rfl | rfl
    ·exact⟨f1,f2,f4⟩
    ·exact⟨g1,g2,g4⟩
    ·exact⟨k1,k2,k4⟩
   have aa:d.map trim=d:=by
    rw[s];exact(Avb λl B=>(zG.mp B).elim (λh=>(bq l h).1) λh=>(aq l h).1).trans (List.map_id _)
   have fq:d.filter isQ=asks:=by
    rw[s,Au4,List.filter_eq_nil_iff.mpr λl B=>by rw[(bq l B).2.1];exact Aud,List.filter_eq_self.mpr λl B=>(aq l B).2.1];rfl
   have fb:(d.filter λl=>!isQ l)=bs:=by
    rw[s,Au4,List.filter_eq_self.mpr λl B=>by rw[(bq l B).2.1];rfl,List.filter_eq_nil_iff.mpr λl B=>by rw[(aq l B).2.1];exact Aud,Aum]
   obtain⟨m4,n4,Cz,cl,ck⟩:∃ m n,Cl z m n/\m<=12/\n<=12:=by obtain⟨_,_,_,_,_,_,_,_,_,r⟩:=hT;exact r
   refine⟨d,[(fiW,x),(seW,y),(thW,z)],[(false,x),(true,x),(false,y),(true,y),(false,z),(true,z)],Z,(by omega),au,(λl B=>?_),(by omega),?_,?_,?_,?_,cc,λfo as J an hf ag hA=>?_⟩
   ·rw[s] at B;exact(zG.mp B).elim (λh=>(bq l h).2.2) λh=>(aq l h).2.2
   ·rw[aa,fb,S];refine .line (p:=(fiW,x)) f3 (by rw[f1];exact lkF C b0.2 b1.2 A Sy.1 (λq hq=>by cases hq)) (AcR C) ?_;refine .line (p:=(seW,y)) g3 (by rw[g1];exact lkF D b2.2 b3.2 R Sy.2.1 (λq hq=>by rw[zF.mp hq];exact(show ¬fiW=seW by decide))) (AcR D) ?_;refine .line (p:=(thW,z)) k3 (by rw[k1];exact k6) (AcR Cz) ?_;exact .nil
   ·rw[aa,fb,S];exact λz=>by cases z
   ·rw[aa,fq];rfl
   ·intro i l' xq h1 h2;rw[aa,fq] at h1;have kk:=Aq4 (x:=x) (y:=y) (z:=z);have qw:=λb nm h=>(Asx b nm h).2.2.2.2
    match i,h1,h2 with
    | 0,h1,h2=>cases h1;cases h2;exact⟨fiW,m0,m1,qw false fiW (by decide),Sy.1.i,kk.2.2.1,C,by omega⟩
    | 1,h1,h2=>cases h1;cases h2;exact⟨fiW,m0,m1,qw true fiW (by decide),Sy.1.i,kk.2.2.1,C,by omega⟩
    | 2,h1,h2=>cases h1;cases h2;exact⟨seW,m2,m3,qw false seW (by decide),Sy.2.1.i,kk.2.2.2.1,D,by omega⟩
    | 3,h1,h2=>cases h1;cases h2;exact⟨seW,m2,m3,qw true seW (by decide),Sy.2.1.i,kk.2.2.2.1,D,by omega⟩
    | 4,h1,h2=>cases h1;cases h2;exact⟨thW,m4,n4,qw false thW (by decide),Sy.2.2.i,kk.2.2.2.2,Cz,by omega⟩
    | 5,h1,h2=>cases h1;cases h2;exact⟨thW,m4,n4,qw true thW (by decide),Sy.2.2.i,kk.2.2.2.2,Cz,by omega⟩
   have ag:as.length=6:=ag;refine GP (σ':=[some (.ref a),some (.ref l),some (.ref I),some (.ref M),some (.str (tx ([61,32]++(f.word++f.tail)))),some (.ref l3),some (.ref q),v,some (.ref fo),none,none]) Z rfl ?_;have bg:=an.lst (sG _ _ N);have ca:=an.lst (sG _ _ az);have bv:=an.lst (sG _ _ bd);have ml:(as.map V.ref).length=6:=by rw[AtG];exact ag
   refine⟨_,Z,_,_,true,.lst hf,.inl ⟨_,Z,Gx K _⟩,_,Z,Iz ?_⟩;refine⟨_,Z,_,_,Z,.inl (SqL.of hf),Z,_,Z,?_⟩;refine Oa (by rw[ml];rfl) ?_;refine⟨_,Z,_,Z,_,Z,(by show 3<=sizeLine;decide),λpe bf=>?_⟩;have tA:Aq J (upd J pe (.lst [.ref I,.ref M,.ref l3])):=.upd bf;have af:(upd J pe (.lst [.ref I,.ref M,.ref l3])) pe=some (.lst [.ref I,.ref M,.ref l3]):=Ae;generalize upd J pe (.lst [.ref I,.ref M,.ref l3])=HA at tA af ⊢;have br:∀ i:Nat,i<3->∃(r Y X:Addr)(xx:NN)(mm nn:Nat),[V.ref I,V.ref M,V.ref l3][i]?=some (.ref r)/\atI (as.map V.ref) (2*(i:Int))=some (.ref Y)/\atI (as.map V.ref) (2*(i:Int)+1)=some (.ref X)/\J r=some (.lst (vS xx))/\Cl xx mm nn/\mm+nn<64/\An false J Y xx/\An true J X xx:=λi hi=>by
    have ar:∀ j:Nat,j<6->∃ w,as[j]?=some w/\∀ e:Int,e=(j:Int)->atI (as.map V.ref) e=some (.ref w):=λj hj=>⟨_,AtF (by omega),λe he=>by rw[he];exact Br (by omega) (by rw[Auh,AtQ,AtF (by omega)];rfl)⟩;obtain⟨Y,e1,c1⟩:=ar (2*i) (by omega);obtain⟨X,e2,c2⟩:=ar (2*i+1) (by omega)
    match i,hi with
    | 0,_=>exact⟨I,Y,X,x,m0,m1,Z,c1 _ Z,c2 _ Z,bg,C,by omega,hA 0 Y (false,x) e1 Z,hA 1 X (true,x) e2 Z⟩
    | 1,_=>exact⟨M,Y,X,y,m2,m3,Z,c1 _ Z,c2 _ Z,ca,D,by omega,hA 2 Y (false,y) e1 Z,hA 3 X (true,y) e2 Z⟩
    | 2,_=>exact⟨l3,Y,X,z,m4,n4,Z,c1 _ Z,c2 _ Z,bv,Cz,by omega,hA 4 Y (false,z) e1 Z,hA 5 X (true,z) e2 Z⟩
   refine⟨_,Z,⟨_,SqL.of af⟩,AeY (K:=K) (a:=pe) (xs:=[.ref I,.ref M,.ref l3]) (λi σ G=>∃ v9 ak:Option V,σ=[some (.ref a),some (.ref l),some (.ref I),some (.ref M),some (.str (tx ([61,32]++(f.word++f.tail)))),some (.ref l3),some (.ref q),v,some (.ref fo),v9,ak]/\Aq HA G) ⟨none,none,Z,.refl _⟩ (λi σ G ⟨_,_,_,sg⟩=>SqL.of (sg _ _ af)) ?_ ?_⟩
   ·rintro i xv σ G2 T2 hx ⟨v9,ak,rfl,sg⟩ nT;have hi:i<3:=(zC.mp hx).1;obtain⟨r,Y,X,xx,mm,nn,er,bx,cf,L,Cx,ce,bo,bj⟩:=br i hi;cases er.symm.trans hx;have sT:Aq J (upd G2 T2 (.tup [.int (i:Int),.ref r])):=(tA.trans sg).new nT;have b6:Aq HA (upd G2 T2 (.tup [.int (i:Int),.ref r])):=sg.new nT;refine⟨T2,_,Z,SqT.of Ae,Z,_,_,Z,_,_,Z,Z,?_⟩;generalize upd G2 T2 (.tup [.int (i:Int),.ref r])=G3 at sT b6 ⊢;refine⟨_,Z,_,Z,_,Z,_,_,Z,Z,.inl ⟨by decide,by decide⟩,_,_,_,_,Z,Z,SqL.of (sT _ _ hf),bx,_,Z,_,Z,_,_,Z,Z,.inl ⟨by decide,by decide⟩,_,_,Z,Z,_,_,_,_,Z,Z,SqL.of (sT _ _ hf),cf,r,Y,X,xx,mm,nn,Z,sT _ _ L,Cx,ce,bo.La (Eh sT),bj.La (Eh sT),λG4 s4=>?_⟩;refine⟨_,Z,Iz ?_⟩;exact⟨_,_,Z,b6.trans s4⟩
   ·rintro σ G2 ⟨v9,ak,rfl,sg⟩;exact k _
end
theorem Aq7{K:NF}{n:Addr}{o:Value}{p:Option Addr}{A:Array (NY)}{b:Array Value}(h:mg "law" = some (.ref n)) (T:Txt K mg t) (d:W.nsIn K mainGlobals "layers_of" = some (some (.ref t.OJ))) (a:t.DQ.code=.ref tc) (i:K.lookup tc=some ⟨o,p,.fields b,A⟩) (j:(b[11]?:NY)=some (.ref tT)) (f:W.noTabs K=true) :
  ∃(fd:FuncData)(c T:Addr),(∀(s:Shared)(v:Value),BindsTo s fd ⟨[v],[]⟩ [("script", v)])/\W.tabIn K "layers_of" = some (c,T)/\W.noTabs K=true/\∀ base:Heap,K.In base->base.Ns mainGlobals mg->W.CodeHd base c T->Bm mg base->Bl P w K mg base CX0 18 n fd ["script"] (Aex K T):=by
 have e:=h.symm.trans T.law.m;injection e with e;injection e with e;subst e;obtain⟨C,B,kV,z,D,E,x,H,u,e1,lk,r⟩:=T.law.F.ex;obtain⟨_,_,_,_,_,_,_,_,_,_,l,_⟩:=T.Ww.F.ex;exact⟨t.AkJ,tc,tT,λs v=>by rw[e1];exact .of_eq Z,ApP d l a i j,f,λbase _ _ y q=>Aq6 T a y q⟩
end Mine
open PySem PySem.W PyProof.Rows
open Lean in
local macro_rules|`(universe $xs*)=>do return mkNullNode (← xs.mapM fun x=>do
  let n:=x.getId.toString.toList.foldl (fun n c=>n*62+(if c.toNat<58 then c.toNat+4 else if c.toNat<91 then c.toNat-65 else c.toNat-71)) 0
  `(def $(mkIdent (.mkSimple s!"tw{n}")):ident:=()))
namespace PySem.W.Fast
universe SbiZ3k7RGBN HgMWFvFYXsy OMzqwAtwYtv MXbKeNC0n1L UPHUuX2N8oi BD9joOTeUSF FlHvmPi787O B5Q7UNHt4Uk Er6tvZdc9rg TmiC8UZlHXu Gb3qbHaSGwV Mgw853VPNgC NfeBejPVqEj NPFThe7mowt Rh7UHElPjQe QG3hE6rzsco B7HEs3FZBmO H8pHWLci11F rByBfuvvjm Nk4ZVuyRHvs BRVsRybS6DH JNIDkcPhsjQ Uzmlu0VMUYR SgU28E4mbWv QmGhFdAHWWD F3WY9bHxmy8 IuxyzTMSghP JG2n7vbFz8a PxFmDzvAudu Eenhg17zPbH MHAEy79vBqJ F4eeGkihlR8 EHaoQT9zuJb NkSV5SZAdR oXyAn6rb4t Gcfj44NZkx5 A1rJXDlpKIH RTn72NX681f QSEzkAKhd0T MZqSHWJlztg ND05pu6Fg7T gmvDxG66lL GzcOr5MRreb KgS9CZ4aWaM SVRAMjeP7J TZVahFso9RJ blruLNhzzS GD8QD7Vvnut GNnCMhy2yp2 LHWfk5tV3g6 CGNd3QQ1OQu VNYhPvhCHOu K0QZkSaZg7j G4TsJXG9Ux1 SShpd2DOd3g SklA50xpp6g PFqthREgurZ TkmCkUZ2v7q VQwPx0bHbdI Tb6rIQIVpg5 PyLuwcxW0pb BeGY6jNSItz MeAKxwhtUqI VckrEKQPSCw HUjPudlsmHt KFCsM3MXzw3 F7oLB0um5Cn Nq6hJGBxl9x CZ01UZSIyzL DTEDTX7sx5P QvopnwHXhaq RyYen20q5gH LrpPBYgZ2Ti PCFaLUTKVis I3dpE5ANLMp UDrom5rJbIz VdXosRpNqBE QS4YBXCpCg9 T3RiNq5XJQ0 QiLwHeQwHnw SVkOecvhIoO DUVhnlDCDlG Hs7IyFGIWRi E7stjr059Iv BdHJjtMKiXP IZcQ7tgkK0l RC0VKF5ROuK Vu8kUjE8UFM B7QR9eAlTrk UN0XV9aLr5P WKLYIoTLLp IUdSwD1sgCe C5A8PRpoOA7 Mj230GQ2fjD M8OsWpGBnwH CSz3hXrhzbX PX24qpCJhQS Nl9mul6lhaJ OYiG9wBKXJ5 OVBYaoSab4f M1nKzkF8atO FNJfyQWWhM7 RTDnIcXHnuq SJa1EVcs4gD m4mxwZBIjR F73DjUWkofK LllHyK7Gpo9 Dia2KiztUFF LTI664sjxdx R71cOoiYsMb K5BxwdTBuwR Gozg575iT8K FT7VsOdKial Ue2PxYtHCKF KUpc3P99p0q QBErr53WHc1 VFa76sRow8D V0ZUB7OLnS2 OWujbChOOX0 JpJS9qxhvnC OztV5sXHNQV EdmlXHdoYja PzhCYichKm7 JXyxU36u7jP Q81lppk1I4N I8QaduAOdGp IU3S6cDHrAC KFaB2B2RJVn DyA2yrAVjYt BA0N8w6EtYq Uk7El79587g EX5L9U2hFDY Ih2TCtAdEF4 sQeg9kJY3w CeXCvHEQzyT DnCp2JU2dTW Lyqc3590Dnv Poq3GwojJfb VixN7TF3m4N IPTFwPStM26 EZLslhAQilp Ut680mdw7nr FcngMxBCPoT T1NsnIRg5nK BTFYmIhWNJe RQwV3Un3yZy I8YZTj76tYR U7NjjzCs8zB SIegiXNR1d NgZZVH9Fmln JypR16f22Uc HPGrb6teLoF IiQ3keqdAHr jPbH2QokJe PoQPzF7ttBn PaYdcoSKRUQ Pkl9A9S6wVu LzM5L1J8cDq Nf11DrjFq9C UihtsIPYPbV DncALHMSozW NSty1Fsjwtj VLBGDmy7zNT BfYHcyI5jIX GW03SuCN3G3 PpaJAkKr4PX NmpUtZJpd0p NQR8jcL34I4 MiQ4ocQjNI6 InRdRiF7HcV IHx9e7I8JmA F0f7QTH4doh Zas91xXJly VnkI8b3LGmp MeXHTgUbiZy S2EnE8YoJpr UEL3KkAFCOj NerFrKnOnOl FwrJIxSUIF7 CWW4UrPU4UZ J91pYs6h3dL UDsZDhMaGga BrsYjHj1xFn VvmlPOJkrO4 HnO7o6YaTya VaaVeidBTqQ M7NUTii159M IULKmL3b9AC CMFuwzbWSjG EcIZedWhIPR B4CcmXa8cJS MGqhTuq2BWX Ft8LrsohIjv RetEuTWSw3o NlfItcAy2l1 O2F51D4eTs8 LBTZawFcMG9 IA7zMMdcdXl EOMmspenj3j LRPLXRqTIYB PYyjHUovhtI N3ryk2m1rBe IN87dJ7FMdy UdWl30fvETq ScgOZDqEpsa T9NO86riowM GbF4Ynv3BAD LDyXWzkR4U0 Pq49ogBqR3C OZbPTb6fq6S N1kJ7aUguFK JOXFWJ6IqW2 T6Mdw5naF1H ImFQiHk7JYO F4fUd1fuDXQ Jxzvk8rjiXt TcnVespagky ORQ5UkI00Ae Jvt1zeVIyZ7 Idhs44lbYsG GQfhMkI68lU Hh69gZxfmcl IFOdIIWIidW MY3X8oiKPp5 TrFCR5JAFjv TJWCjh4sbkg DRQZLwkURJ8 L9TuD028hZ2 Glt46q1rpab RiAYBoXgbDm GlGrnPaXl6O QmjDshmsDX VuR3vG5iFpH TZXzz3O5uEe Os8BDWlgkD1 SEnF5JITnvW A8weFMpOl8B G0Ckfy6am5I aF1vrGZa3w LOB3StVbjhe O7GQQZ8pQDs E5vuOmIM5jS JKGs3JZlEQ3 UCNKqyM9EC9 KYUgg0s8gl9 MOf3HIfuxbt DJw7a0chGxe LDTGlSYdlrw QtARYXHuDra S994Eh0FwFY DC3OxkZCuA3 KyA7h0lzjgx O9ypYjwsytf UNbAMN6LTOZ RFyMbibH4Xu BOX1tCfE7i8 GlIHTRpEkgI T9KpCRGiaGd DA2FMbttahM R5NiuyI65zw QhrzIfaR7Gw FtlZoZDxPvG G9XztAY8M4A REzoO1ymxpl IVWRAadKZjZ PqcWx3F654P PqoCDZQ0OKT QGjuffMHs7W D7gvUamNA4u KEgQUd6ylTL K5JuuFF662d GsNo59AU94c Ka12wwevsb7 DDJWgEsgLtx OXdjOsQR7vA T3EGOZX2W8H IqWgaBevrsm R274DAjdjx1 BwjuEMvG4j RQTxNuywDGv SMgpnhOTLsF B6ukeCz9CUc MCckAo6utME G4DYzs1OX6D Pvtbp8ED00S EnZxwzAHAH5 KCPr2Z5dPGA JSjRdqLdraC FHTJBNXnIqa FTft4Kk1OkG KxMYSKvffXq Csvovpvb9ey L9YfK8hCzLM JCFgDaGAdPe Se8aRY89GzX TKsjAEISS7h SdcXGqUX0C1 DPEhgtuxuwc SfaPOOuhs1z Dr6gTskvJwJ OZk9VDOLjlL ONE2iNkJMKI MGh91tBpNbH DXkMEvapp8C SY3hkm9RCOq LtEVO8MndE7 GIrAuzAZHdq Hoo3WPwS8UH JCTTVkx1pJp QBjmeoPsrjD EFL6MCL6lC7 OgSY4RBwuL2 OXjFUPVCvtK TDvnMR3n3M4 CkysFjJTwag SS0E1VgabND KicwOsWwyw0 ONHbmtVRKz8 FgqGmT3sqEe Dm5XNnq9wlK Lze8UC76ns7 NBVfryqtfVc Psz48OUkz2N PkYeyxHOlgC JnNPvj9xLWI aiWOuMAgWI J7sUDyA6LKg S9dbh2CqDuU MS5QJIBrBsx DUaFgOer1Sa OPut8iBUEdK PBdfNIqNXib IL1QyMfuOnS EIU3sHpMM3j P6nb73LbER0 UXKCWf6oePg EzD6wx4C67c IOCtDxsa7be JI9tHNwvQ9i Z3NQX75wDC N9aWtdrzRJZ BbYTiPTvreF VKYK4MXXtuN K2ehT53vYRd PVcw3dR9YE6 DYlP4VEaMxS BV5gr0YAcHh TwEnqPvhKWp MCJqPZZYrCW SquheCGkbsl G3dvL1lJEGI PvrKZuUQtXm QKekFvruRW0 j2C5OftSVi FxuPr9isZfz Q0NCgR2RuQC RORyW5NyJHU KVfsRqXYnS6 Vd2ijW6xtNS Ql3I6wM36qh Knn2uvR8g4t minr3TqvhK TZ1zx2T7l0z Or7MgskD7KM TdCdLjn3GdB JNL4tzsnBSO EwTdab37SWy Hbc3PZy28Hy JbNX4xmi3LS NLiv1Fvaf1Z KiBwads3Do7 A5g7SUSATfG KTsXq4lJnqp SzrjYhI4Urv FLOK9c8etuQ JlVBS9nm74m JGj2Wd9YsxD IETpln4wJJm O9NKLbwqCrQ Fi850yh7kFJ EZhou5X5RxO C98klIchDEd FBcsvYXNnHm G3gZxHTBjOS ONlmiuM0Nvk OAoNgQPG7OZ HS3SJsftNpL U2410zgiue7 ERerAqnH18e VycvIreP0vW QZwkCAgsppD RzlYJ2ysbEE UJyNbeDQpm2 OcMkMrt90Il FF2sIUQxR66 E6obKm7xUBp PhQv4SoguWa Owj19Q2nzce DXrJLwix3n9 LEZ4z1KhNcv BeRjqtLjv5g GWN1WeNofos DQvEFWWV0u E78o0BPBs35 GDZn4qoA6Xm JtKT5YD2UwK FhDzQzB6hzw Jo7crhDABiF TiTvf1fCGgp TvmCPSjGf9C Mu8oOwatYXS ST55LUrXw9L Bb3KXhXfEbO MOY5Ef9gEL6 U99R1iBKu2U JHTEQdVHZXH VY0keZrMlLr KjCkT1ufA1u NOOlp1nLbJ6 L9CYcriZobz M4j4ZzIDazr GQMXWv5iMxD EngQHA1JKUK CiHO9IZUTs1 HjgJ8uFJqDs TjQdpWbUqRM T8hdqp7mnUj MbrJhIVurGP ESGY9a36iTL zBvo1U9FrV L8SvWLf05ex OsBYfMwWGgI NaIzIPjYQFO C8KTAAv5x7F LhAn7fAOFm5 UbzEgGYD3kp GKItlU59rHh FiU4PouU8Ba STv9rXijYNP SSxm06MGlhj VlkRjc3BZJD VNQQx9q60xH Fk7Dabu2YNQ O4b7mc4Izmy PclvrzMDUCt IyfSJ3RQBQK STM0ebYkMuS C7o65iOm7Gf fNzWylz60A jdveSJtG5W U1ma2MOUQs4 EKTSWe2aFTH KdOOYduQDCZ QKdGyWzzjhw NHZ9nhOjgx3 GoigiGjv0hX KXoBJ88CV5w HxiyGy8RwOs VAuPIH6A6Ny Q3jBRRnwDpi Qk1WQjoUNgg IAK4Q5gCLaw OiJMaD3cRfT QUzVKhPYG9o UPw6aprMqYc GeToNEyzZwE EC3cHInIOyz DHip09ERO36 QNA35MCQpHc DqExKkthK99 PhlttsJzbCP COGnlOGOvtc Nb0uI7ZUe8w Bfn0itFmlXt CSPG4elVdHy EB4IYSiXaJP hb26FymOJY V1l32lACehx T0rxWJdyT2j BrGkpfl9FMH OsTqMOIs3bf PssaB3aoE31 Eyh3N9sFTYF SxkuDuDZomh Bd7nFuxRVoT I7Snb1xe4Kx GbsFZa9HZty QcLwLeYpCbI BeDsQ1sdfzI aBkkl20KZI KaqdK7UCRKa FYcx2YYGIbE PLyMTN1dp2C HPk9ydqALo8 CiddSwdlK6C VMteyalDev7 SocV7PHPoWD C7q0mn6rg2M IFoWTEHnVCy NTvmcDnHau6 Ik1CpkFqrg6 SBHYIE6xvqk ivnb55vvin BZ5Uz7H9fym IJW8d2fw606 VL2S4CLBEWN Uq043CW0sdi MXm8zlYgTTy VItC3IbcMhD SywoysMsqwA F1zu5VrGtel UqsWg3PFdgz VVnLnqa9tWD RuEKDPi1vYR J2TgPGv7Fm8 Q7SGhMYp2J4 IcDqnlNqmNn EZw1M7XKK5w SD6ncsmrFVA HdUbqqAtr9u DZ0LjK6SEtR H1MEXy4B9g8 QNZBtcYQ6dV IOfVw1gKzee Fjhy05cp6QU VI2AHbBiosn FHtimF0IheC KH05aGID84T U94GL7uOWzi MT2PnQb0uLi g5ee0hkSE4 BZkcSmFqKJW SrwYelyfv9G IjMRMm175Gb BYGVTiaO1fQ JpAodO4f2Km GgrMyOUwys8 N0ptcSPH8rO SBNE2fuJxNa VsY1eOYJePM E56dHKkt2wj KJaenliVWHe P5y1LcM96ku GdmL9C7YRAO QLOx5mdI70u Qk9nTOdfWUl On9XCXIjDAh VAiMJtvAB4B HGdfoFXE35E Jm3CeWmtcZs Fr6Rutbshcs GBU6RniIZSO UW2e9c4gZqk OupDMipeLGc RsH3fOMu1jB Je1ahhi8Zke EzhNHEiDkr0 CrEJD4jF7hT Jj3ZEagARiK FWCD9IBU6l8 BndpTZTb5C7 KWOAuycQBOy CLGLoxaNP7t Uo53qBFYOCm GpdmdsYByiM Ky2OxIodCSC OuzBw4DzI2D UPwvzNzTD4t EZbOPx2WWAa Tq95K0bJdH9 KcCnzAuUc8g KMR1oMtRUcI IJF48UxGNpJ GFcw5WW0Xc0 F4xzi2TgocZ CEX6Zd02NH4 RL2OJHTO7Qi IFDmfAEjI54 FYeXULa4GOL NXYiQaS07p2 LVyemEFZW3B Na46RGhGmMo OqTjgAnkUFd Cr6tk1l99hw FcfwNAPay7B Ok0Ig1FpWT A7M42g0XNZ9 A8mIY5XFuMl BMrpXPf1k8I P81YnV2qdu4 JCACuQSOXYL Rb93ty7v2OV H5SQuP3eBjw QZ8iO9A167M NaqnoOS6kLi DSIDdw61HI7 TDkKVDvNSei P2QhfyLe6mA VtOM4VjQW9E KzF7A1ZPm4O OGUwDP2SufB Hvy7JDK4vUy NVZhSQ5gOOe G21tybpOVgq GmIuVHC0ljG JBT33RKz1qt FWSKHB0FEdY L1yz0Kmqtko bpvIO1qd8r SdgiHimDyhd PEfNVZwxnUI PU1A5bAFN6M K79O3e2H6b3 BldkIxMuhav BCeUSjWYC7y JH4aEzGnRfA tnVzGgExRY JwHxFUDHCgD L5YVxwWxs9I BPEU5KFxS6J DoNoEAgpSQK SybUUquwmmi VweAknhxfrP VxpkcTFP6js L7iAcS3O51T IvBFg6svxw4 ka2AMQDjfS T2zvrHSYWhO S6NUpooDpJA JQIMCE0lZUP JTEx9c5Dlgf rtUfoOZaxF JVaVqeFwY30 UZj8VYz3QRz A0P2zSHWn69 OOfCrSlEcA8 SOEzMjZUo8q Cl3XuTdesjd EZqIaEex6k3 KdDUhXVqbGW UaAKKSDTTJu BlBSEuKKK7s N9RdKli4ZFY U2Y2gSRF6Yf NRboHfM77La PTCmY1zGojl D4CEpXxGVp3 A1ir3Yvnzxt Omi8tv0j31Q Dh8KclwvKN8 ILOYiAEVGlP VxzNBIvxDZT QNFhJWhVhOT JDDKCktM9tA G48mkNyfOJd MqWXLn5Kbns DN9zCLEHOiY E5N875sMy5a DDMhP5HNi4Q KnKYKn6yYXF HtXIx5PPqZD Me8CTWxAhFo K2WUbAiXksi I2n2tQ5mjod FE9hpqPtnSx A42DtSdhRT7 J4jmH0ip5UT GMB0tkN52jl GfzZgHupkE7 SmHupEtJxFP Tz7DScrPTbN HYuadt4DKaH DWwz74dfd1u Cpc7RjAKpiO H98xCJ8Ekss UK5ABXZBZgr BYXwksjXzJR Qp1zttfv3ry QDHvuPG2WS3 GmOtqdtbp5F E7D6s446GOz OJCNMabD5xW Rp9TtsYK3Bh K1OIvXm85Ki CSlSgh8pMv1 PdEJ8MLk9RP Fw8BZhKWCEV MumhXaCstd1 UMBAN1bkrjL Gb3SN5kP3NI P0uPIb7c8oR Ru4G8OVzv1G ObQWHNiEHua M225TiGIKRY RfgvmnEsWfb BS9WTbp9S7q RdnE42QuBW2 LMNPaJ2Xy6t UrkK6ZvDlfw NsS6s1ylj0 NsVF7lUfNek IFupzEm4xUd CemU66RqKqR C81xRl8zuPx Qu5gv9Ib7zO DPyicXLGaf3 EW3QJJ0QRl2 P6Zz0lprXBo H5CfVqZxPZU Hr73jthGCu7 T0wtD11Er2Z FD09FA1jLdV H51G1SVr2Bc OTIYyBPgRj2 HeqO6EyIKb5 Hv3KZz8mJGr GiiMhjJP8sN IJCpoXmrsUh Sy6JgRtiRmA VwRZTTvp8f2 J51lh8Z28da Vl0m1QmH7GC PoDqE0drqp4 MwKLi9W6txE KA027KYdZWM JgxvrvZPrqm OPOQuJoLPmN F29PZqOKxgP RvpC5KxOdwd GVSCCuCbjAF IGH2YdsPWpw PRmhK1V4shL R7HoN2AOmGe GJHbVaa9duZ PCG8h7XAJRV KPiTlFRRtW4 HbEBDAx9cyn T9cz33A9u53 BhH8wqpYdqU RwXKOSDXh9A VKzx3bHESd7 OW4929XLgJd P7qX4NybBx6 CF6KJL7PJpS UpWXiaXbl4J UEQFBhzcwjb QK82iRkAFqA GzvMlVUHLg9 MmE7kSgAWHI NcX9XniSkUG GCNi79z92KV HbTT8EBWyzH KXiI0Q4pUuY KVBdGRKDhQ9 SyDTa6qBfi5 QmurHr8gcz0 LWM0I7aHPSr NCbRaGMSFSi DTwQYWUaVPy D7oRZ2SXbKA UqzU7pVTyq1 NoT1srezscw F8Bb93uDZaD EyCyJvblXrG K2c2JqEgq05 SF7uh63d0oF Ro8K82icd2z VdJiX4cDX5c JUfKaAM5QzO L8y0nPP02Hp UwHiwRsNMzk UM0kQPn5XUV FouRXr1QQq1 wefO337PhG H3BePMqOHxv Dqn58pPTgJ5 Ur2cpugQHqK IV8KYdxtCF5 CAg0C83WKdD HaSkLoZjx0o QRbBRDfSF5k FTLd427UoA9 N0voxjqheRv Mx2AD1C4G0Q EFnKD5hokYE RhdgkR8E77G Dc9nFBnCLvg BJ4exfVq0zU BpmFyL5YSFP HWCDEF95lCU Gls7Lk1Y83n VH8ruCBpVtC OBfrMxch8E2 Tu0LoakNSIO NDsiaM1Wbda EFalsm3CMdT CB7TiuSsmtH ILmEyQIVlTB UuCfRRR2g5p OuAflF7B1GC EsEQ8g41HIk PM4mCuQNmoE DI1dq1VBdDP DwEsE1QldKw LShu33i8ZME PRYmRrg3u1N IIlM7ZLN1tV DCkmNZYOb5e HjNcjh5bzlM SJBdD8v3eUo E2zJjZkIGbj OGgfM22JnAt Ihdu1yykkVH NZHCaFJyj2w WOyUZLKNpm L3EGqcDHn8c OtYS9gj7B35 Na9uNedcFLN CvSKQk8QPza B95kNM393Ex UIiF7eJl4g6 Sp6iOXqpDee PjR2l4eoKNX Jt9dmJ5zGyr NFn3rOKCcDd C3Vw99h27iv LU6jCFI3ibk Vv36kMGsMSk KJNS3WKHvZC FpZIGVw56LG MOGd8SZEQ3K NuyXqw79KK YdeLPWMYyJ Dbd0bdKpyXp B94QvbvtkEL Pbl99K1YAu1 V46VX3pzOR NVI9vhQBohB ITrBhM27EAW NS1NYAXD9Ts IJ4Du60nv8U VWcG6xypsPt Ewqrsk4Z2cn KOO4PITvMVl LfAjEl4Mtvu COAH832ktfP ML4ny4wB5Rm MQIsIiCcdwN LHQfIV5cuGJ FAKu31Fxi4M KPnOmEBUEPk TAYI0pGAgik A5wVimB3B2z jF6t69u2Q2 VtZh2KfhSzB ootNifTjT4 MalOg71Ieu PgW7ymctSMt BV8SCfZrNBL I7Y0dXZaSQV QSh9Eg90aM9 Uy52TMNo97y VcaYaJmZJJQ Q59UKMJ10pK KaDyUr9yiRy G8mlEqeFTrl KupPNYIRocW PpodjeV4Syr NP7Btk6d9gp EvosiukpdvC UCQUdmtzUD0 CVlNEVMiAt9 RiINbOatVr7 RkU5d11xH7K J0GM9mOfyVD J6tTEiMCHey BPHzmXogRb EpEoWWYnPXP JDrZUcX8yCh EFD4u6oIHjR MJuCe0acNdB A8Y2I5cl26l TLB4BRZzral UM70q830fVW QhAD4bMDQgd U4WU93zApfr NQmJTnLezfM FTAg76FOEaX CoLafEG2053 H8gZ9fsnRaQ Qol5WTZAs57 TWiZcXSRzj7 Q1GViJiLk8N GVhZzYMPcmv HnFlQ1VnLrl LEdxbl44d3f CsuHmp8khj7 KYDSnfZFC42 Qz3rRM9SWqq QNVU4EUyOuY E4ky5JgRYus UYHHeMBJ3bf Pti2AkJwOCc Vn0SF2mmCN6 UcjXRU84fxZ Ng7F8HDYUm7 PIUNnIxVd47 UXJtyrwBEEG LyEb5cUMmBT JVitYpW1wVO Mc0jhdm90K OdviJHUfgzl OUwY0mNLVGZ HVeFcQXsGGS F1zMfgFMbZC S0Yk9s2X2f8 NgtApaBL21X TTNDBBqwRAA Gw0ooygIdNO JtxxBiqtMQq OnfqrQScgHc NfqmaHohT2m MbrCKURbeNh Q5tQ1gME6WS SUROixKxLow Rd9HKIOREP A6PQMQqdZ63 FDBNGHAy8x0 CtGTlelU2Xa EQBXDqjzDWA Rre2WHYzVTd O4nshNkb3lf N5kLdey0jWt RuEjT0oEkxN FCSr8ZYMcDb TiJt3QAFfKb E7IqUaLcNHy KhJWr2MQP7r Koe35okcew8 Kxx9AS7uKMC U6qQ12VeHX7 L5OODaWuTJ1 HKW6ucLpaSm B3JlCusI5HA L46QLFNC4fx Gv9P4hd1lh3 O5kPePr1rA4 UZAn9TX5JOq LYXVAycc4EQ F7gKmukczfu FfSR9OStGg4 TbjOs41xM3D DNGGOuyZCN1 B1hSyloLbq3 GzHbugjh9cg DzzAlIZH6if Q9NyQmixFJA QF4LMuIuXH3 PwgbN9zSdAR OJ3OUmCLbGG PpIOvl2qdeD CyjAYJ7VApR Oz0g55Mtkwn SMxPbEXD5Hf VVukiR3KF9y CZSfKECJgY4 QAuytY8xrvs E10zdcpkIb5 Lo9MvXQTfzv RGhbXBegjMx HTcKR6sOPeJ IaUMZezgaGL GW3Spq56QP RBtRJLrLo2q PsOvCW8KwmW MCuOwHiidmX ODeGY6pvaYW FdhiYXiPzcS J76yYJXLDME J4gmZpCu8se Bbl9XqPFvIg VZQjEjvl6M0 F0cOhXmXcHO lsTbA9Odqz N4Mhs7hEckb F2mXL1E0rDG LFTb2sHc1bU U9dG68oBWZn JiFPbvg6OXQ Do5IFgtZR1d Qh7OUo1NahL CXepQCAhuXc RbWlYj7y64C SoNZgdragqi RpO9D7DTHHd Pxb4e5EqfrB NxfS3VjS36P DyMETZba19r P46ifvXD7kG B5PKhLDKx6F S9fM6N4izu4 EPFMWUC1MN5 UrTMnCvCP3x JTEtsblRvlL B5L7znDTS3L OS3f8DugdIE HWSVrDupbxd IbLax9zh58J M9P2koEn3Z6 OcBwgnU0Uhp HnJklDkTvnD JvEFFLGDsEV EN7CNaG0ZQq TSHjIJjYGUE Nnrv1RqiMj LhOgj1WmENY E2NbwiqOoA9 D7yq48n8yga QsqDSfgQFgq FN2ezg2FJEH BaHuzLzU2Pc Hq19jUickRg DOk27vStYh FBnXrsxCe7F QZKk9ZBCIP6 C38koqroJpU BRTdJsaZYU6 TQr8Z1Cg5qM FqUFMXIMTuR TNhjDNjVffv Q0MMOd1IncB JAanNw7eWgc TDJ2YF2PiXd QTThP1JuTcX SVl4sPrspLi VIfO5vz5FgD ORIHLJVklB1 MVyB0oJL2yL LOziJ85sFU2 EEIlIAV3tRg Sm4kHR0DLvy PQc6K5HmQTh VhlEJu4Ik45 VZnoNlmrHIF LxRSA13LIS2 IldsHKUovZt DuuKZLrYAoz U5nEzGmuh6s QSUPlngXZBg HxMF4E7SxMl TfOUe2esBW TmuAv3Yb9xa U29opApaPJS Mv3rCtz05v1 SPTeEn0EZ46 PjbFHYuhFH1 VHq8UNP1rLm VFwFmY3A8xA V5JI5vDo9iV FrJQ8GFXdFa P5YTEXS40Fa F10IVKW3NCd wCR9IjSMPp S5ZwDiG3NXP GNYscZkDjQ8 C0mECLqVluX O7zSi6bHssI HRX8gFPhngi OMxpzIP2SbK DfIljEka6L5 F6pbeVGUKdO NWHDspcDqpO IjaYrd6fnOp RSq0KLE2WHm DnMLcXWzIJf DHVtuVmuFuh ChH4OIoohFZ Hhwe6qQMeil TXNwyGN7LzD VYbmlRjyXr0 PnBjRsvhNEJ JF8DgGKfR76 P8lrnrN038z JK4XScC9AlH Pixka6YdOiP e4ihboJkN5 JIpwkoF0dtY GjdATDYqleR OPAkXajyCL2 FdcBbzOxdIF KDpllBpR1Vc NHIHRv6dmmt NuzryBTF9R1 VremWTQqK4a LSc80a3rxkL HCapvnWH0sW Fw79BwYkQ4q P19IHEf8LeT GZwfP1jUVYD EPSZqyA9d7q thF2CPoUMI TdTBRmw5zzZ Rk4TP2JL36E MGhYrUT2BRn MebaZ1iCazA GeWID4f95c0 TJuZ9Gg97BY DuivwtNTEOc FYzxpGtk6af t6IgtZcLhH FFY4IfdiK3i IwAo7WbfipM DrlNeeVaP9T QFLN5GDgRwc Nqz72UV448I T3dbTtYqouu UbF2p9T3gGS G1wYqAnGSXF A0dnX8u6VjH L8IjPy8K4ij EHaIulou2Mq VuVseojeDiy Pz5zGOyMo4X Hpo6vcI7cwg RgsTiboiNxR IuO69g8YiID GsexNWfpvHe M9s73GvBEEp TAisxv8ktnv POAMyW74dx8 O8AmEy2BXH0 By0f8sEW5oi LHHhjVWylqo T65uHfXPfGm Rcmffxgn9l1 Oa5ALYplXU3 UB2YA9o7tAS Gxf4AlgtQ1x D80pzLOnBDc CdpTexhkOBj Nk5GTT2ux5P K5H5XXQiCRF MdarmDSnkKS OzEYcA8YNZU LYlIj50iYm3 VK1bIXJ2AAw DHXbkmHDc7A E8fjc9ulgku OlXykc8NSbn buEASYYwAp SBlYQmXdx2c QvV9D5jQkuN VfnZjmYXxhU Rle6RblP9QL V5hqIZZYibi EKPrxPM0n5z VSDreQRaBBe Tv90N442tsZ OG7faiEg7Ey F8jidg5i5NN RoJZaXAagY7 DRny82798AJ SXRVYZBmYim KbJMvJFDMSo Twln0ACwCMu oHjsDhAUP9 QlE6bOcB0sv RcZIacSGA2s DOIfNlBzhYa LruJg1yZPh4 HfQ82DbA2MM PCgYzrkVo6l I4LjUXYf6Kw NZr0zDqyGSO SyILTJ98JiP Lh38nkuHsZb QKkfleBSzYU KbuSOyQe6wt RdndYwbpkey PpFf9bll6W3 HCFA7nw06QC RdEkMZ8ReSi IF4tVVtKda3 Hggndykbg7V VNpDtqEel1Y H1arA5Xmats CXEDMoGcPyk IH2XuZkeRVQ OgFSmHmY1rV IlQmRFQK1NW MaCMlZquplQ OIew8192GR2 TFu9cDkemPd RWOI0ZdAeQI P7MnZ1KgeWp KpTXUA5anqZ Cu2coR4S2k JCrMlpfbBVE MrtUzKIuEAN S5tW8e2ZJ2m QpsSM8ZA7aY BIzkS6xAsyn S2OYBJsOHtI UEUvwQsidKm RaezGclZebS NLHiNT6pFuE T2m8jOcMFR5 OZJBJoZCD1d KowDTGkinUQ QVavBcxnyXz CvAEnMo57L3 RPHzXNv1m6Z JEvAmbqh48m A2y31L5aVQz OqAaEzaSnPg NlTG5X6Dis7 MaOQCwIaTie RESRgkKAUu8 SbmRSFe4CLn KPfNcwYjjHg IULLOjG9hPG ENfjo56L3oV QdggUG6ZeMg Ts1ASmMgTLs Q7KYXA8maQB GHMl3d3zLl2 Pv5ogLqT0OR J8HotdhoQPW JYlu8yVKqRJ QOoG6Kd774O C3HFvH6ahbe BDIoKmujLU9 OW96AEYklFv OSwzmQ1kC3g LPjGwntAsLq UgNBXlpC2e0 GL0ls326mXL TltInPjxEBa L8JynCkzHIj DU9IzXwiPb6 Qm9ySjOwpTt McznQOipWe LfqEVGF9iXi SZYl0jQQTX7 HOvBm4rqyZd FM5pkfyuWYl DEwMgAkNNHg LQ0m4tIyYsV GvNBBArIqmn HdUjkqTMw3l VtYnhYXcDrv EJJRyEs317p UKYgsVTTUoH I7rhGMz8bZT OUQxbQaM79A K7uICekeebe TlTB81NutRv VJ3VSV1eWDE UHsBTt5mvKP FsrEpnmenp RtzJva55j4b H7N8n6Tp9R4 JnOPKF9bEqu v1TS2HSWzu LwDChWWru3o PF3jj4bbriB IOkcD88FQa0 Nq8BHIcgYW7 InILNL0p4LT BWl952kmMtA U5BEHV2amHo TT7ZFq4hgOe SqCH5vdYAyO eWov7sHQl0 A7N5LVNeOkg RaUx3S33Xsn UryRaf7wbQr BixJG9XqSVY I25MdrLzhJf OMTXmukW7Ve JHgTeWLEE5Z S0AYitw6CWC FIv5JblYbYF Px1wnOE7clB KcINHlZrnHT U4stFbKox48 K2eKx9RPPrj GsfqkS1lenP LzQ0ounDblL GDoPIwt2q2N JTRVLQjR9KQ NJlthHmxlKs CZsv2IeCnBZ EC6arkO62Sq NZOhrMKux7T V6HtTv3aAW7 VRuZpTlDLgP QRWBMuwyUuF PEf7hLt0lyc LM4VXqFTBpD QZ4wxhYyOrl MR9Ydll0FQR KCDglvwGZsi BWCcpHB7d43 TLkHy6ZsV0a KtMeKQMmZOT VcqGoVwgYx6 GVCv99U2pI Fca1ZEDkDcr FTaLjFJgpye EayYH5rn99V TbEa6Ba43tD LLKHLzgy0bC Oma30QVGgKR JLGd1qKc4lk LNrjj21InJK MmAqY1phaFJ SKXyEgWYbwd DJiwxKiZMcI Pg5ElqzXAs8 Cy6y1xdedrC ETf6S1m69UM S5XVTctxEkT TJ0zDzJYDTM Uu27jgpJsqC SRZyElSbWg6 OExNYp9dja5 U4gen4gEomw BKlKr1ivZw3 tM5yfDEEjQ B6rLM2UPBQZ VYddPEo3yze OlFsMBMJbvT HSkZsmuJrQ3 K9Hlo1v38fN BDSyT0b5nJy Qg0agVHAJD8 Hwkohp9on4S PSkoQ8YRQLx U5QMyWWOf9V BYlgR8lYZuO TxnPXtqkZAR PGv4RP0NLRZ MjnqlXhtUyc CYPqAkS0Bgi VLC4oUQ2uVR Rsky9nPF7H0 L5pqeDhkIVa RQIT0Gt0Hmy IHKSdxAGUc0 MIftjZiYC8m StmZViNYUDL FuQAO9nkyVr My8Ts5ZX4S6 BDMPZzeBhfk I6YEQxUVMN3 PLoebjgWQ71 D63MfvP97PZ HfGm5LHRrP6 T8P9O7UYIFO G5XtuCUd4EI LrlxTdQaRcr SqCXz0OC6x0 LIwiowpD5wC GpTkL8wxPNk IXjfkLUY6fM GYGbJuSRtXR HyrHjm8JCGZ JnFFuD3TnyA Ldgrsbxs3QJ RQkVrTQBarP RGmTBPeuNPy Ir6JLs8HTt1 DFBxWKhAmc6 RwCrgp98bH8 H90YMOoIROZ LZhWiqKYWg8 SjQk4XxPzUg GuX1H2rZjzF MpkTRI4P0QM ERjKN0g6m3s MxsgpSPEObD QtbehXRFbpb GAb5GWo99C MSo9IA2diRZ SFHsoGj1gxP rSWeH3qQVu PXyYuqXSuEa TofeQYjVFGB FaEOt0Wv9dZ H5vV1fD0WJw TJbqnqUbXJ1 RFrM3nm4GKs JMmHR9CGM7o THFGz1mieMh MjP1JwHWn60 GBDyks7ucxM Qi92ES2S59W SPijGYF8qWP E1EuSUm1Ysx BAF2kHX0YB2 DMdUmX4BAat PNdn790BtYH H6ZdMJ8CqPI M0JGYHPsEc2 S1hXlCfeDLW Lj0yEZd6pBJ MgV5nwg71sC NtmWsWlxDod JOGYOMiMDSL NaZiElqf7Qe UcVEQLZ9gYT GJAM9v7ftAv SJtmW7r7jXw Q84sk95zYI9 DhebnJiJYpK GWFeTNKxi2n Fs9XcThsPp0 UfpGC4GpjGD SnF2aERJmTq RlGXNqAs2Cb PYY2bF6v7KQ CBkXKC2dyXh haFTTWrZyI N7sFVv8E8zg M8UWodpajLj Dn1sbeR7Hsi NM75Jox6JRS QXvdm2NlKzg JOtnhm5LqsK O1YDWnVmCx5 NFuz0Bsn85p SqfO3eUoUzn NGeyxftpZiv Nxdpw9jO29Y RETZ7FZGdMk BaBWC5boYIF FqFBdj0FmiQ QWGJk00Pa6E CDMkYkOuwJH
end PySem.W.Fast
namespace HdQ
open PySem PySem.W
def live (o : Obj) : Bool := match o.data with
  | .freed => false
  | _ => true
noncomputable def pick (l : List Obj) : Nat -> NI -> List (Obj × Bool) :=
  @List.rec Obj (λ_ => Nat -> NI -> List (Obj × Bool)) (λ_ _ => [])
    (λo _ ih i as => @List.rec Nat (λ_ => List (Obj × Bool)) [] (λa as' _ => @Bool.rec (λ_ => List (Obj × Bool)) (ih (i + 1) (a :: as')) ((o, live o) :: ih (i + 1) as') (Nat.beq i a)) as) l
theorem pick_is : ∀ (l : List Obj) (i : Nat) (as : NI), (pick l i as).length = as.length -> ∀ (k a : Nat) (o : Obj × Bool), as[k]? = some a -> (pick l i as)[k]? = some o -> i <= a /\ l[a - i]? = some o.1 /\ o.2 = live o.1
  | [], i, as, h, k, a, o, h1, h2 => by
    exfalso;have : (pick [] i as)[k]? = none := rfl;rw [this] at h2;cases h2
  | x :: l, i, [], h, k, a, o, h1, h2 => by simp at h1
  | x :: l, i, b :: as, h, k, a, o, h1, h2 => by
    have e : pick (x :: l) i (b :: as) = @Bool.rec (λ_ => List (Obj × Bool)) (pick l (i + 1) (b :: as)) ((x, live x) :: pick l (i + 1) as) (Nat.beq i b) := rfl;rw [e] at h h2;cases q : Nat.beq i b with
    | true =>
      have d := Nat.eq_of_beq_eq_true q;rw [q] at h h2;have h' : (pick l (i + 1) as).length + 1 = as.length + 1 := h;cases k with
      | zero =>
        cases h1;cases h2;exact ⟨by omega, by rw [d, Nat.sub_self]; rfl, rfl⟩
      | succ k =>
        obtain ⟨c, g2, g3⟩ := pick_is l (i + 1) as (by omega) k a o h1 h2;exact ⟨by omega, by rw [show a - i = (a - (i + 1)) + 1 by omega]; exact g2, g3⟩
    | false =>
      rw [q] at h h2;obtain ⟨c, g2, g3⟩ := pick_is l (i + 1) (b :: as) h k a o h1 h2;exact ⟨by omega, by rw [show a - i = (a - (i + 1)) + 1 by omega]; exact g2, g3⟩
theorem get_live {h : Heap} {a : Addr} {o : Obj} (e : h.objs[a]? = some o) (l : live o = true) : h.get? a = some o := by
  unfold Heap.get?;rw [e];obtain ⟨c, d, b, f⟩ := o;cases b <;> first | rfl | (exact absurd l Bool.false_ne_true)
theorem pick_get {K : Frag} {as : NU} {h : Heap} (e : as = K.map (·.1)) (x : pick h.objs.toList 0 as = K.map λp => (p.2, true)) : as.map h.get? = K.map λp => some p.2 := by
  have b : (pick h.objs.toList 0 as).length = as.length := by rw [x, e, List.length_map, List.length_map]
  refine List.ext_getElem? λk => ?_;rw [List.getElem?_map, List.getElem?_map];cases q : K[k]? with
  | none =>
    have : as[k]? = none := by rw [e, List.getElem?_map, q]; rfl
    rw [this]; rfl
  | some p =>
    have h1 : as[k]? = some p.1 := by rw [e, List.getElem?_map, q]; rfl
    have h2 : (pick h.objs.toList 0 as)[k]? = some (p.2, true) := by rw [x, List.getElem?_map, q]; rfl
    obtain ⟨_, g, a⟩ := pick_is _ _ _ b k p.1 _ h1 h2;rw [h1];show some (h.get? p.1) = some (some p.2);rw [Nat.sub_zero, Array.getElem?_toList] at g;rw [get_live g a.symm]
noncomputable def hk (K : Params -> Frag) (as : NU) (e : ∀ P, as = (K P).map (·.1)) : Hook :=
  ⟨List (Obj × Bool), λs => pick s.heap.objs.toList 0 as, λw => (K w.params).map λp => (p.2, true), InK K, λw s x => InK.of e w s (pick_get (e _) x), InK.keeps⟩
theorem hk_in {K : Params -> Frag} {as : NU} {e : ∀ P, as = (K P).map (·.1)} {w : World} {h : Heap} (Y : (hk K as e).says w h) : (K w.params).In h := Y
end HdQ
namespace HdQ
open PySem PySem.W
def q0 : Program := { PySem.Challenge.rw_heddle_k63_whole_layers_asked.prog with main := { PySem.Challenge.rw_heddle_k63_whole_layers_asked.prog.main with body := (PySem.Challenge.rw_heddle_k63_whole_layers_asked.prog.main.body.drop 83).take 1 ++ PySem.Challenge.rw_heddle_k63_whole_layers_asked.prog.main.body.drop 205 } }
def l0 : List Str := [Str.ofString "WeaveError",Str.ofString "NoRow",Str.ofString "TooLarge",Str.ofString "NoCloth",Str.ofString "NoDraft",Str.ofString "NoStrand",Str.ofString "NoLaying",Str.ofString "NoShuttle",Str.ofString "NoColour",Str.ofString "NoBlock",Str.ofString "NoPattern",Str.ofString "Unknown",Str.ofString "Twice",Str.ofString "MOST_STRANDS",Str.ofString "measured",Str.ofString "back_of",Str.ofString "quarter_of",Str.ofString "measured_texts",Str.ofString "check_pick",Str.ofString "check_strand",Str.ofString "end_signs",Str.ofString "turned_signs",Str.ofString "MOST_SHAFTS",Str.ofString "Draft",Str.ofString "woven",Str.ofString "least_draft",Str.ofString "check_setting",Str.ofString "check_count",Str.ofString "check_count_drafts",Str.ofString "check_shaft",Str.ofString "check_tie",Str.ofString "check_treading",Str.ofString "shed_over",Str.ofString "shafts_over",Str.ofString "unlike",Str.ofString "LETTERS",Str.ofString "MOST_LETTERS",Str.ofString "WORDS",Str.ofString "is_name",Str.ofString "FIGURES",Str.ofString "Reader",Str.ofString "number_of",Str.ofString "MOST_NUMBERS",Str.ofString "MOST_DEEP_rows",Str.ofString "Path",Str.ofString "Times",Str.ofString "unfolded",Str.ofString "shown",Str.ofString "whole_size",Str.ofString "all_numbers",Str.ofString "steps_between",Str.ofString "read_row",Str.ofString "read_items",Str.ofString "read_item",Str.ofString "read_times",Str.ofString "read_path",Str.ofString "read_number",Str.ofString "read_number_rows",Str.ofString "parted",Str.ofString "written_path",Str.ofString "is_stop",Str.ofString "BETWEEN_PARTS",Str.ofString "BETWEEN_TIES",Str.ofString "written_draft",Str.ofString "read_draft",Str.ofString "filled_blocks",Str.ofString "unit_size",Str.ofString "overs_within",Str.ofString "tiled",Str.ofString "times_met",Str.ofString "scores_of",Str.ofString "tops_of",Str.ofString "layer_numbers",Str.ofString "laid_together",Str.ofString "check_owners",Str.ofString "check_piece",Str.ofString "places_within",Str.ofString "sign_at",Str.ofString "Piece",Str.ofString "Named",Str.ofString "Rows",Str.ofString "Twill",Str.ofString "Satin",Str.ofString "Beside",Str.ofString "Above",Str.ofString "Mirror",Str.ofString "Upend",Str.ofString "Back",Str.ofString "Quarter",Str.ofString "Tile",Str.ofString "Blocks",Str.ofString "Lay",Str.ofString "check_size",Str.ofString "check_one_size",Str.ofString "prime_to",Str.ofString "written",Str.ofString "MOST_DEEP_reader",Str.ofString "MOST_RUNS",Str.ofString "THINGS",Str.ofString "read_pattern",Str.ofString "read_whole",Str.ofString "read_node",Str.ofString "read_things",Str.ofString "read_runs",Str.ofString "read_run",Str.ofString "read_number_reader",Str.ofString "read_comma",Str.ofString "worked_out",Str.ofString "known_cloth",Str.ofString "made_of_one",Str.ofString "made_of_two",Str.ofString "made_of_three",Str.ofString "read_book",Str.ofString "read_line",Str.ofString "parting_place",Str.ofString "check_set",Str.ofString "lower_strands",Str.ofString "lower_within",Str.ofString "ways_from",Str.ofString "way_to",Str.ofString "upper_part",Str.ofString "measured_half",Str.ofString "finished_cloth",Str.ofString "settle",Str.ofString "longest_float",Str.ofString "COLOURS",Str.ofString "free_half",Str.ofString "measured_picture",Str.ofString "check_threads",Str.ofString "free_pick",Str.ofString "free_sign",Str.ofString "first_colouring",Str.ofString "crossings_of",Str.ofString "settle_strand",Str.ofString "chain_from",Str.ofString "made_draft",Str.ofString "shifts_of",Str.ofString "least_across",Str.ofString "stays",Str.ofString "moved",Str.ofString "SHUTTLES",Str.ofString "seams_of",Str.ofString "tubes_of",Str.ofString "sheets_of",Str.ofString "check_shuttles",Str.ofString "seams_along",Str.ofString "bearers",Str.ofString "round_way",Str.ofString "web_of_set",Str.ofString "MOST_FIGURES",Str.ofString "ASKED_OF_A_NAME",Str.ofString "answers_to",Str.ofString "words_of",Str.ofString "answer_to",Str.ofString "answered",Str.ofString "of_a_name",Str.ofString "overs",Str.ofString "sheets",Str.ofString "paint",Str.ofString "check_count_desk",Str.ofString "check_name",Str.ofString "far_number",Str.ofString "whole_number",Str.ofString "_law_whole",Str.ofString "_law_at",Str.ofString "_law_folded",Str.ofString "_law_rows",Str.ofString "_law_told",Str.ofString "_law_other",Str.ofString "_law_third",Str.ofString "_law_over",Str.ofString "_law_sets",Str.ofString "_law_round",Str.ofString "_law_stand",Str.ofString "_law_right"]
end HdQ
open Lean in
local macro_rules
  | `(tactic| refine $f:ident $args*) => do
    unless f.getId == `PySem.W.holds_open do Macro.throwUnsupported
    let some qa := args.find? λa => a.raw.isOfKind ``Lean.Parser.Term.namedArgument && a.raw[1].getId.eraseMacroScopes == `q | Macro.throwUnsupported
    let qs := qa.raw[3]
    if qs.isIdent && qs.getId == `HdQ.q0 then Macro.throwUnsupported
    let q0 := (mkIdent `HdQ.q0).raw
    let args := args.map λa => ⟨Id.run do
      if a.raw.isOfKind ``Lean.Parser.Term.namedArgument then
        if a.raw[1].getId.eraseMacroScopes == `loose then return a.raw.setArg 3 (mkIdent `HdQ.l0)
        return Id.run (a.raw.replaceM λs => pure (if s.structEq qs then some q0 else none))
      return a.raw⟩
    `(tactic| refine $f:ident $args*)
open Lean in
local macro_rules
  | `(tactic| o_head ($h:ident $a $b $c $_ds*)) => do
    unless [`kHook, `kmHook, `PySem.W.kHook, `PySem.W.kmHook].contains h.getId.eraseMacroScopes do Macro.throwUnsupported
    `(tactic| o_head (HdQ.hk $a $b $c))
set_option maxRecDepth 100000 in
set_option maxHeartbeats 0 in
theorem PySem.Challenge.cw_heddle_k63_whole_layers_asked_holds : PySem.Challenge.rw_heddle_k63_whole_layers_asked.Holds := by
 w_on;o_law;k_head;(case hw=>w_witness2)
 k_fill
 refine L2.AkH (l:=PySem.Challenge.rw_heddle_k63_whole_layers_asked) (n:=63) (k:=18) (x := "script") (y := "layers_of") (qn := "layers_of.<locals>.<lambda>") (CX:=L2.CX0) (sp:=Mine.Aex) rfl (by decide) rfl ⟨rfl,by decide,by decide⟩ (λw h Y=>HdQ.hk_in Y) rfl ?QQF ?QQS ?QQC
 case QQF =>
  intro w mg fa h KX G hmg
  refine' Mine.Aq7 (t:=Mine.Adr.mk) hmg ?QQT ?QQt4 ?QQt0 ?QQt1 ?QQt3 ?QQt2
  case QQT =>
   constructor <;> (try dsimp only) <;> first
   | (refine' L2.DfH.df ⟨?QQa,?QQb⟩ KX G ?QQc;(case QQa=>k_is);(case QQb=>(apply L2.Agr <;> k_is));(case QQc=>(intro _ _ _ _ _ _ us hl;first | exact Mine.bl1 (λ_=>rfl) us hl | exact Mine.bl2 (λ_ _=>rfl) us hl | exact Mine.bl3 (λ_ _ _=>rfl) us hl | exact Mine.bl4 (λ_ _ _ _=>rfl) us hl)))
   | (refine' L2.DfA.of ?QQa ?QQb KX G ?QQc;(case QQa=>k_is);(case QQb=>(apply L2.Agr <;> k_is));(case QQc=>(intro _ _ _ _ _ _ us hl;first | exact Mine.bl1 (λ_=>rfl) us hl | exact Mine.bl2 (λ_ _=>rfl) us hl | exact Mine.bl3 (λ_ _ _=>rfl) us hl | exact Mine.bl4 (λ_ _ _ _=>rfl) us hl)))
   | exact W.mg_none_of KX G (by k_is)
   | exact⟨_,W.mg_of KX G (by k_is)⟩
   | exact W.mg_of KX G (by k_is)
   | (refine' L2.MfH.mf ⟨?QQa,?QQb,?QQd⟩ ?QQc;(case QQa=>k_is);(case QQb=>k_is);(case QQd=>(apply L2.Agr <;> k_is));(case QQc=>(intro _ _ _ _ _ _ us hl;first | exact Mine.bl1 (λ_=>rfl) us hl | exact Mine.bl2 (λ_ _=>rfl) us hl | exact Mine.bl3 (λ_ _ _=>rfl) us hl | exact Mine.bl4 (λ_ _ _ _=>rfl) us hl)))
   | (apply L2.Ap6 <;> k_is)
   | (unfold L2.CT;k_is)
   | (apply L2.Ap3 <;> first | k_exc | k_is)
   | k_is
   | kernel_rfl
   | (refine L2.AmX (by k_is) rfl rfl (by decide) ?_;repeat (first | exact .nil | refine .cons ⟨_,rfl⟩ ?_))
   | (refine L2.Ap8 ?_;kernel_rfl)
   | (constructor <;> first | k_is | rfl)
  case QQt4=>k_is
  case QQt0=>exact rfl
  case QQt1=>k_is
  case QQt3=>exact rfl
  case QQt2=>kernel_rfl
 case QQS=>exact λK T H a ns hl hS tb=>Mine.Aey hl hS tb
 case QQC=>exact λ_ _ _ _ z=>z
